/-
  Texts of layers, put together.
-/
import Derived.Test.YtdfpalocnijefaaGreatDoorMO3
import Derived.MapKept
import Derived.Deep.RegionHeld3
import Derived.Lib.LaidTab
import Derived.Deep.RegionWith
/-
  Layer 3, the reference: a column's letters, decimal digits.
-/
namespace Go.Proofs.YtdfpalocnijefaaGreatDoor
open Go.RowKit

theorem run_one8 (w : World) (t : TypeId) (x : Int) : (convert 39 9 (.slice (some ⟨w.heap.size, 0, none⟩) 1 1)).run Tryz.prog (w.alloc (.cells #[.int .u8 x] t)) = .ok (.string (strOfNums [x])) (w.alloc (.cells #[.int .u8 x] t)) := by
  refine run_convert_bytes_arg _ _ 5 Tryz.underlying39 Tryz.underlying5 _ 0 _ 1 [x] rfl (fun i hi => ?_) _ Tryz.underlying9
  rw [Nat.zero_add]
  have : i = 0 := by simp at hi; exact hi
  subst this
  exact cells_new (w := w) _ _ [.int .u8 x] rfl 0 _ rfl
theorem run_two8 (w : World) (t : TypeId) (x y : Int) : (convert 39 9 (.slice (some ⟨w.heap.size, 0, none⟩) 2 2)).run Tryz.prog (w.alloc (.cells #[.int .u8 x, .int .u8 y] t)) = .ok (.string (strOfNums [x, y])) (w.alloc (.cells #[.int .u8 x, .int .u8 y] t)) := by
  refine run_convert_bytes_arg _ _ 5 Tryz.underlying39 Tryz.underlying5 _ 0 _ 2 [x, y] rfl (fun i hi => ?_) _ Tryz.underlying9
  rw [Nat.zero_add]
  have h : i = 0 ∨ i = 1 := by simp at hi; omega
  rcases h with rfl | rfl
  · exact cells_new (w := w) _ _ [.int .u8 x, .int .u8 y] rfl 0 _ rfl
  · exact cells_new (w := w) _ _ [.int .u8 x, .int .u8 y] rfl 1 _ rfl

set_option maxRecDepth 100000 in
set_option maxHeartbeats 400000 in
theorem refCol_any (n : Int) (_h0 : -9223372036854775808 ≤ n) (_h1 : n ≤ 9223372036854775807) (w : World) :
    Calls Tryz.prog 109 #[.int .i64 n] w fun e w' => e = .returned (.string (strOfNums (colL n))) ∧ Below w.heap.size w w' := by
  by_cases hr : n < 0 ∨ 701 < n
  · have hc : colL n = [] := by unfold colL; rw [if_pos hr]
    have HC := Lib.hid hc; clear hc
    go_enter Tryz.func109, Tryz.ntmps109
    go_wp2
    all_goals first | omega | skip
    all_goals go_ret
    all_goals exact ⟨by rw [HC.out]; rfl, Below.refl _ _⟩
  · have h0 : ¬ n < 0 := by omega
    have h2 : ¬ 701 < n := by omega
    have h0' : 0 ≤ n := by omega
    by_cases h26 : n < 26
    · have hc : colL n = [65 + n] := by unfold colL; rw [if_neg hr, if_pos h26]
      have HC := Lib.hid hc; clear hc hr
      have hcv := fun (w : World) => run_one8 w 5 (65 + n)
      go_enter Tryz.func109, Tryz.ntmps109
      go_wp2
      all_goals go_ret
      all_goals exact ⟨by rw [HC.out]; rfl, (Below.refl _ _).alloc (Nat.le_refl _) _⟩
    · have hc : colL n = [65 + n / 26 - 1, 65 + n % 26] := by unfold colL; rw [if_neg hr, if_neg h26]; congr 1; omega
      have HC := Lib.hid hc; clear hc hr
      have hcv := fun (w : World) => run_two8 w 5 (65 + n / 26 - 1) (65 + n % 26)
      go_enter Tryz.func109, Tryz.ntmps109
      go_wp2
      all_goals go_ret
      all_goals exact ⟨by rw [HC.out]; rfl, (Below.refl _ _).alloc (Nat.le_refl _) _⟩
set_option maxRecDepth 100000 in
set_option maxHeartbeats 400000 in
theorem refDigits_nat (n : Nat) (_h1 : n ≤ 9223372036854775807) (w : World) :
    Calls Tryz.prog 17 #[.int .i64 n] w fun e w' => e = .returned (.string (strOfNums (digL n))) ∧ Below w.heap.size w w' := by
  have hn0 : ¬ (n : Int) < 0 := by omega
  go_enter Tryz.func17, Tryz.ntmps17
  go_wp2
  go_loopw [3, 4] (fun u v wr => ∃ (m : Nat) (t : List Int), m ≤ 9223372036854775807 ∧ u = .int .u64 m ∧ v = .string (strOfNums t) ∧ Hid (digL m ++ t = digL n ∧ 2 * t.length + m ≤ n) ∧ Below w.heap.size w wr)
    (fun u _ _ => (intOf u).toNat)
  case atStart => exact ⟨n, [], by omega, by go_num, rfl, Lib.hid ⟨by rw [List.append_nil], by simp⟩, Below.refl _ _⟩
  case round =>
    obtain ⟨m, t, hm, rfl, rfl, HT, hbl⟩ := hrel
    have HB := Lib.hid hbl; clear hbl
    have hcv := fun (w : World) => run_one8 w 5 (48 + (m : Int) % 10)
    have hcv2 := fun (w : World) => run_one8 w 5 (48 + (m : Int))
    have hsz : (strOfNums [48 + (m : Int) % 10]).size + (strOfNums t).size ≤ 9223372036854775807 := by rw [strOfNums_size, strOfNums_size]; have := HT.out.2; simp only [List.length_cons, List.length_nil]; by_cases h : t.length = 0 <;> by_cases h2 : m = 0 <;> omega
    have hsz2 : (strOfNums [48 + (m : Int)]).size + (strOfNums t).size ≤ 9223372036854775807 := by rw [strOfNums_size, strOfNums_size]; have := HT.out.2; simp only [List.length_cons, List.length_nil]; by_cases h : t.length = 0 <;> by_cases h2 : m = 0 <;> omega
    by_cases hlt : 10 ≤ m
    · have hki : (10 : Int) ≤ (m : Int) := by omega
      have hd := digL_more m (by omega)
      have HD := Lib.hid hd; clear hd
      go_wp2
      go_roundw
      case rel =>
        refine ⟨m / 10, (48 + (m : Int) % 10) :: t, by omega, by go_num, val_str (str_append _ _), Lib.hid ⟨?_, ?_⟩, HB.out.alloc HB.out.size _⟩
        · rw [← HT.out.1, HD.out, List.append_assoc, show ((m % 10 : Nat) : Int) = (m : Int) % 10 from by omega]; rfl
        · have := HT.out.2; simp only [List.length_cons]; omega
      case measure => simp [intOf]; omega
    · have hki : ¬ (10 : Int) ≤ (m : Int) := by omega
      have hd := digL_small m (by omega)
      have HD := Lib.hid hd; clear hd
      go_wp2
      go_ret
      exact ⟨ret_str (by rw [str_append, ← HT.out.1, HD.out]), HB.out.alloc HB.out.size _⟩
end Go.Proofs.YtdfpalocnijefaaGreatDoor

/-
  Layer 3, the reference: whether a reference may be, its text.
-/
namespace Go.Proofs.YtdfpalocnijefaaGreatDoor
open Go.RowKit

set_option maxRecDepth 100000 in
set_option maxHeartbeats 400000 in
theorem refMay_any (s : ByteArray) (c r : Int) (ac ar : Bool) (w : World) (_hs : s.size ≤ 1000000) :
    Calls Tryz.prog 58 #[.agg #[.string s, .int .i64 c, .int .i64 r, .bool ac, .bool ar]] w fun e w' => e = .returned (.bool (mayL (sb s) c r)) ∧ Below w.heap.size w w' := by
  by_cases h0 : s.size = 0
  · have := sb_nil s h0
    subst this
    have hm : mayL (sb ⟨#[]⟩) c r = decide (0 ≤ c ∧ c ≤ 701 ∧ 0 ≤ r ∧ r ≤ 998) := by unfold mayL; rw [show decide (sb ⟨#[]⟩ = []) = true from by decide, Bool.true_or, Bool.true_and]
    have HM := Lib.hid hm; clear hm
    go_enter Tryz.func58, Tryz.ntmps58
    go_wp2
    all_goals go_ret
    all_goals exact ⟨ret_bool (by rw [HM.out]; first | (symm; rw [decide_eq_true_iff]; omega) | (symm; rw [decide_eq_false_iff_not]; omega) | (rw [decide_eq_decide]; omega)), (Below.refl _ _).alloc (Nat.le_refl _) _⟩
  · have hne := text_ne0 s h0
    have hm : mayL (sb s) c r = (nameL (sb s) && decide (0 ≤ c ∧ c ≤ 701 ∧ 0 ≤ r ∧ r ≤ 998)) := by
      unfold mayL; rw [decide_eq_false (by intro h; have := length_sb s; rw [h] at this; exact h0 this.symm), Bool.false_or]
    have HM := Lib.hid hm; clear hm h0
    by_cases hn : nameL (sb s) = true
    · go_enter Tryz.func58, Tryz.ntmps58
      go_wp2_with (first
        | (go_at_call 97; ((with_reducible refine (refName_any _ _ ?_).mono ?_); (first | omega | skip); rintro e w' ⟨rfl, rfl⟩)))
      all_goals go_ret
      all_goals exact ⟨ret_bool (by rw [HM.out, hn, Bool.true_and]; first | (symm; rw [decide_eq_true_iff]; omega) | (symm; rw [decide_eq_false_iff_not]; omega) | (rw [decide_eq_decide]; omega)), (Below.refl _ _).alloc (Nat.le_refl _) _⟩
    · have hn' : nameL (sb s) = false := by simpa using hn
      clear hn
      go_enter Tryz.func58, Tryz.ntmps58
      go_wp2_with (first
        | (go_at_call 97; ((with_reducible refine (refName_any _ _ ?_).mono ?_); (first | omega | skip); rintro e w' ⟨rfl, rfl⟩)))
      all_goals go_ret
      all_goals exact ⟨ret_bool (by rw [HM.out, hn', Bool.false_and]), (Below.refl _ _).alloc (Nat.le_refl _) _⟩
end Go.Proofs.YtdfpalocnijefaaGreatDoor

/-
  Layer 5, without the program: operators stand as their ranks say, those of one rank from the left.
-/
namespace Go.Proofs.YtdfpalocnijefaaGreatDoor
open Go.RowKit

/-- The operators' signs, their ranks. -/
def opS : List ByteArray := [⟨#[61]⟩, ⟨#[60, 62]⟩, ⟨#[60]⟩, ⟨#[60, 61]⟩, ⟨#[62]⟩, ⟨#[62, 61]⟩, ⟨#[38]⟩, ⟨#[43]⟩, ⟨#[45]⟩, ⟨#[42]⟩, ⟨#[47]⟩]
def rk (o : Nat) : Nat := if o < 6 then 0 else if o < 7 then 1 else if o < 9 then 2 else 3
theorem rk_le (o : Nat) : rk o ≤ 3 := by
  unfold rk
  by_cases h1 : o < 6
  · rw [if_pos h1]; omega
  · rw [if_neg h1]
    by_cases h2 : o < 7
    · rw [if_pos h2]; omega
    · rw [if_neg h2]
      by_cases h3 : o < 9
      · rw [if_pos h3]; omega
      · rw [if_neg h3]; omega
theorem opK_sign (t : Tk) (ts : List Tk) (o : Nat) (ho : o < 11) (hk : t.kind = 5) (ht : t.text = opS.getD o ⟨#[]⟩) (n : Nat) (hn : n ≤ 3) : opK n (t :: ts) = if rk o = n then 9 + (o : Int) else 0 := by
  have hs : ∀ s : ByteArray, signIs s (t :: ts) = decide (opS.getD o ⟨#[]⟩ = s) := by
    intro s; unfold signIs; simp only [hk, ht, decide_true, Bool.true_and]
  unfold opK
  simp only [hs]
  have key : ∀ n : Nat, n < 4 → ∀ o : Nat, o < 11 → (match (levelL n).find? (fun p => decide (opS.getD o ⟨#[]⟩ = p.1)) with | some p => p.2 | none => 0) = if rk o = n then 9 + (o : Int) else 0 := by decide +kernel
  exact key n (by omega) o ho
/-- Signs and numbers by turns, and what stands behind them. -/
def Chain : List Tk → List Nat → List Tk → Prop
  | ts, [], rest => ts = rest
  | ts, o :: os, rest => ∃ s v us, ts = s :: v :: us ∧ s.kind = 5 ∧ s.text = opS.getD o ⟨#[]⟩ ∧ o < 11 ∧ v.kind = 1 ∧ Chain us os rest
theorem Chain.app : ∀ (p q : List Nat) (ts rest : List Tk), Chain ts (p ++ q) rest → ∃ mid, Chain ts p mid ∧ Chain mid q rest
  | [], _, ts, _, h => ⟨ts, rfl, h⟩
  | o :: p, q, ts, rest, ⟨s, v, us, h1, h2, h3, h4, h5, h6⟩ => by
    obtain ⟨mid, g1, g2⟩ := Chain.app p q us rest h6
    exact ⟨mid, ⟨s, v, us, h1, h2, h3, h4, h5, g1⟩, g2⟩
/-- No operator of rank n or more stands there. -/
def Stop (n : Nat) (ts : List Tk) : Prop := ∀ m, n ≤ m → m ≤ 3 → opK m ts = 0
theorem Stop.chain {n : Nat} {mid rest : List Tk} {q : List Nat} (hc : Chain mid q rest) (hs : Stop n rest) (hq : q = [] ∨ ∃ o q', q = o :: q' ∧ rk o = n) : Stop (n + 1) mid := by
  intro m h1 h2
  rcases hq with rfl | ⟨o, q', rfl, hr⟩
  · rw [show mid = rest from hc]; exact hs m (by omega) h2
  · obtain ⟨s, v, us, rfl, g2, g3, g4, _, _⟩ := hc
    rw [opK_sign s _ o g4 g2 g3 m h2, if_neg (by omega)]
theorem split_rank (n : Nat) : ∀ os : List Nat, (∀ o ∈ os, n ≤ rk o) → ∃ p q, os = p ++ q ∧ (∀ o ∈ p, n + 1 ≤ rk o) ∧ (q = [] ∨ ∃ o q', q = o :: q' ∧ rk o = n) ∧ ∀ o ∈ q, n ≤ rk o
  | [], _ => ⟨[], [], rfl, by simp, .inl rfl, by simp⟩
  | o :: os, h => by
    by_cases c : rk o = n
    · exact ⟨[], o :: os, rfl, by simp, .inr ⟨o, os, rfl, c⟩, h⟩
    · obtain ⟨p, q, h1, h2, h3, h4⟩ := split_rank n os (fun x hx => h x (by simp [hx]))
      refine ⟨o :: p, q, by rw [h1]; rfl, ?_, h3, h4⟩
      intro x hx
      rcases List.mem_cons.1 hx with rfl | hx
      · have := h x (by simp); omega
      · exact h2 x hx
/-- The last one of rank n. -/
def LastN (n : Nat) (os : List Nat) (k : Nat) : Prop := ∃ o, os[k]? = some o ∧ rk o = n ∧ ∀ j o', k < j → os[j]? = some o' → n < rk o'
/-- The last one of the least rank. -/
def IsTop (os : List Nat) (k : Nat) : Prop := ∃ o, os[k]? = some o ∧ ∀ j o', os[j]? = some o' → rk o ≤ rk o' ∧ (k < j → rk o < rk o')
/-- What stands at the top. -/
def TopIs (base i : Nat) (os : List Nat) (k : Nat) (ns : List Nd) : Prop := ∃ o nd, os[k]? = some o ∧ ns.getLast? = some nd ∧ nd.kind = 9 + (o : Int) ∧ nd.kids = [((base + 2 * (i + k) : Nat) : Int), ((base + 2 * (i + os.length) - 1 : Nat) : Int)]
theorem order_all : ∀ f : Nat, (∀ n deep base v ts os rest y, exprP f n deep base (v :: ts) = some y → v.kind = 1 → n ≤ 4 → Chain ts os rest → (∀ o ∈ os, n ≤ rk o) → Stop n rest →
      ∃ ns, y = .ok (ns, base + 2 * os.length, rest) ∧ ns.length = 2 * os.length + 1 ∧ (os ≠ [] → ∃ k, IsTop os k ∧ TopIs base 0 os k ns)) ∧
    (∀ n deep base i ns a ts os rest y, rowP f n deep base ns a ts = some y → n ≤ 3 → ns.length = 2 * i + 1 → a = base + 2 * i → Chain ts os rest → (∀ o ∈ os, n ≤ rk o) → (os = [] ∨ ∃ o q, os = o :: q ∧ rk o = n) → Stop n rest →
      ∃ ns', y = .ok (ns', base + 2 * (i + os.length), rest) ∧ ns'.length = 2 * (i + os.length) + 1 ∧ (os = [] → ns' = ns) ∧ (os ≠ [] → ∃ k, LastN n os k ∧ TopIs base i os k ns'))
  | 0 => by
    refine ⟨?_, ?_⟩
    · intro n deep base v ts os rest y h; unfold exprP at h; cases h
    · intro n deep base i ns a ts os rest y h; unfold rowP at h; cases h
  | f + 1 => by
    obtain ⟨i1, i2⟩ := order_all f
    refine ⟨?_, ?_⟩
    · intro n deep base v ts os rest y h hv hn hc ho hs
      rw [exprP_succ] at h
      by_cases c : n ≤ 3
      · rw [if_pos c] at h
        obtain ⟨p, q, e1, e2, e3, e4⟩ := split_rank n os ho
        subst e1
        obtain ⟨mid, c1, c2⟩ := Chain.app p q ts rest hc
        have hst := Stop.chain c2 hs e3
        rcases bindR_some h with ⟨e, h1, _⟩ | ⟨ms, b, s, h1, h2⟩
        · obtain ⟨ns, g1, _⟩ := i1 _ _ _ _ _ _ _ _ h1 hv (by omega) c1 e2 hst
          cases g1
        · obtain ⟨ns, g1, g2, g3⟩ := i1 _ _ _ _ _ _ _ _ h1 hv (by omega) c1 e2 hst
          injection g1 with g1; injection g1 with k1 k2; injection k2 with k2 k3
          subst k1; subst k2; subst k3
          obtain ⟨ns', j1, j2, j3, j4⟩ := i2 _ _ _ p.length _ _ _ _ _ _ h2 c g2 rfl c2 e4 e3 hs
          refine ⟨ns', by rw [j1, List.length_append], by rw [j2, List.length_append], fun hne => ?_⟩
          by_cases hq : q = []
          · have hns := j3 hq
            subst hns
            subst hq
            rw [List.append_nil] at hne ⊢
            exact g3 hne
          · obtain ⟨k, ⟨o, l1, l2, l3⟩, t0⟩ := j4 hq
            obtain ⟨o', nd, t1, t2, t3, t4⟩ := t0
            have ho' : o' = o := by rw [l1] at t1; exact (Option.some.inj t1).symm
            subst ho'
            have hat : (p ++ q)[p.length + k]? = some o' := by rw [List.getElem?_append_right (by omega)]; rw [Nat.add_sub_cancel_left]; exact l1
            refine ⟨p.length + k, ⟨o', hat, ?_⟩, ⟨o', nd, hat, t2, t3, ?_⟩⟩
            · intro j x hx
              have hmem := List.mem_of_getElem? hx
              have hge := ho x hmem
              refine ⟨by omega, fun hj => ?_⟩
              rw [List.getElem?_append_right (by omega)] at hx
              have := l3 (j - p.length) x (by omega) hx
              omega
            · rw [t4, Nat.zero_add, List.length_append, Nat.zero_add]
      · rw [if_neg c] at h
        have hn4 : n = 4 := by omega
        have hos : os = [] := by
          cases os with
          | nil => rfl
          | cons o os =>
            have := ho o (by simp)
            have h3 := rk_le o
            omega
        subst hos
        have hsg : ∀ s : ByteArray, signIs s (v :: ts) = false := by intro s; unfold signIs; simp only [hv]; rfl
        rw [hsg, if_neg (by simp)] at h
        cases f with
        | zero => unfold primP at h; cases h
        | succ f =>
          rw [primP_cons, hsg, if_neg (by simp), if_pos hv] at h
          injection h with h
          refine ⟨_, by rw [← h, show ts = rest from hc]; rfl, rfl, fun h => absurd rfl h⟩
    · intro n deep base i ns a ts os rest y h hn hl ha hc ho hh hs
      rw [rowP_succ] at h
      rcases hh with rfl | ⟨o, q0, rfl, hr⟩
      · have e : opK n ts = 0 := by rw [show ts = rest from hc]; exact hs n (Nat.le_refl _) hn
        rw [if_pos e] at h
        injection h with h
        refine ⟨ns, by rw [← h, ha, show ts = rest from hc]; rfl, by simpa using hl, fun _ => rfl, fun h => absurd rfl h⟩
      · obtain ⟨s, v, us, rfl, d1, d2, d3, d4, d5⟩ := hc
        have e : opK n (s :: v :: us) = 9 + (o : Int) := by rw [opK_sign s _ o d3 d1 d2 n hn, if_pos hr]
        rw [e, if_neg (by omega)] at h
        obtain ⟨p, q, e1, e2, e3, e4⟩ := split_rank n q0 (fun x hx => ho x (by simp [hx]))
        subst e1
        obtain ⟨mid, c1, c2⟩ := Chain.app p q us rest d5
        have hst := Stop.chain c2 hs e3
        rcases bindR_some h with ⟨er, h1, _⟩ | ⟨ms, b, r, h1, h2⟩
        · obtain ⟨ns', g1, _⟩ := i1 _ _ _ _ _ _ _ _ h1 d4 (by omega) c1 e2 hst
          cases g1
        · obtain ⟨ns', g1, g2, g3⟩ := i1 _ _ _ _ _ _ _ _ h1 d4 (by omega) c1 e2 hst
          injection g1 with g1; injection g1 with k1 k2; injection k2 with k2 k3
          subst k1; subst k2; subst k3
          have hl2 : (ns ++ (ms ++ [{ Nd.zero with kind := 9 + (o : Int), kids := [(a : Int), ((base + ns.length + 2 * p.length : Nat) : Int)] }])).length = 2 * (i + p.length + 1) + 1 := by
            simp only [List.length_append, List.length_cons, List.length_nil]; omega
          obtain ⟨ns'', j1, j2, j3, j4⟩ := i2 _ _ _ (i + p.length + 1) _ _ _ _ _ _ h2 hn hl2 (by omega) c2 e4 e3 hs
          have hlen : i + (o :: (p ++ q)).length = i + p.length + 1 + q.length := by simp only [List.length_cons, List.length_append]; omega
          refine ⟨ns'', by rw [j1, hlen], by rw [j2, hlen], fun h => absurd h (by simp), fun _ => ?_⟩
          by_cases hq : q = []
          · have hns := j3 hq
            subst hq
            refine ⟨0, ⟨o, rfl, hr, ?_⟩, ⟨o, { Nd.zero with kind := 9 + (o : Int), kids := [(a : Int), ((base + ns.length + 2 * p.length : Nat) : Int)] }, rfl, ?_, rfl, ?_⟩⟩
            · intro j x hj hx
              rw [List.append_nil] at hx
              cases j with
              | zero => omega
              | succ j =>
                have := e2 x (List.mem_of_getElem? (by simpa using hx)); omega
            · rw [hns, ← List.append_assoc, List.getLast?_concat]
            · have e5 : base + ns.length + 2 * p.length = base + 2 * (i + (o :: (p ++ [])).length) - 1 := by simp only [List.length_cons, List.append_nil]; omega
              show [(a : Int), ((base + ns.length + 2 * p.length : Nat) : Int)] = _
              rw [← e5, ha, Nat.add_zero]
          · obtain ⟨k, ⟨o2, l1, l2, l3⟩, ⟨o3, nd, t1, t2, t3, t4⟩⟩ := j4 hq
            have ho' : o3 = o2 := by rw [l1] at t1; exact (Option.some.inj t1).symm
            subst ho'
            have hat : (o :: (p ++ q))[p.length + 1 + k]? = some o3 := by
              rw [show p.length + 1 + k = (p.length + k) + 1 by omega, List.getElem?_cons_succ, List.getElem?_append_right (by omega), Nat.add_sub_cancel_left]; exact l1
            refine ⟨p.length + 1 + k, ⟨o3, hat, l2, ?_⟩, ⟨o3, nd, hat, t2, t3, ?_⟩⟩
            · intro j x hj hx
              rw [show j = (j - 1) + 1 by omega, List.getElem?_cons_succ, List.getElem?_append_right (by omega)] at hx
              exact l3 (j - 1 - p.length) x (by omega) hx
            · rw [t4, hlen, show i + p.length + 1 + k = i + (p.length + 1 + k) by omega]
end Go.Proofs.YtdfpalocnijefaaGreatDoor

/-
  Layer 5, without the program: the tokens of operators and numbers by turns.
-/
namespace Go.Proofs.YtdfpalocnijefaaGreatDoor
open Go.RowKit

/-- All tokens of what stands from a place on. -/
def lexG (p : Nat) (l : List Int) : Option (List Tk) := lexF l.length p l
theorem lexG_nil (p : Nat) : lexG p [] = some [Tk.zero.goto p] := by unfold lexG lexF; rfl
theorem lexG_tok (p : Nat) (x : Int) (l : List Int) (t : Tk) (n : Nat) (hx : x ≠ 32) (h : tokT (x :: l) = some (t, n)) : lexG p (x :: l) = (lexG (p + n) ((x :: l).drop n)).map (t.goto p :: ·) := by
  have hn := tokT_le _ _ _ h
  unfold lexG
  rw [List.length_cons, lexF_cons, if_neg hx, h]
  simp only
  rw [lexF_more _ ((x :: l).drop n).length _ _ (by rw [List.length_drop]; simp only [List.length_cons]; omega) (Nat.le_refl _)]
/-- A token that stands ahead of something. -/
theorem lexG_app (p : Nat) (a b : List Int) (t : Tk) (ha : ∀ x, a.head? = some x → x ≠ 32) (h : tokT (a ++ b) = some (t, a.length)) : lexG p (a ++ b) = (lexG (p + a.length) b).map (t.goto p :: ·) := by
  cases a with
  | nil => have := (tokT_le _ _ _ h).1; simp at this
  | cons x a =>
    rw [List.cons_append] at h ⊢
    rw [lexG_tok p x (a ++ b) t _ (ha x rfl) h]
    congr 2
    rw [← List.cons_append, List.drop_left]
theorem tok_digits (v : Nat) (hv : v ≤ 9223372036854775807) (b : List Int) (hb : ∀ x, b.head? = some x → isNum x = false) : tokT (digL v ++ b) = some ({ Tk.zero with kind := 1, num := (v : Int) }, (digL v).length) := by
  cases hd : digL v with
  | nil => exact absurd hd (digL_ne v)
  | cons x l =>
    have hall := isNum_digL v
    rw [hd] at hall
    have hx := hall x (by simp)
    rw [List.cons_append, tokT_cons, if_pos hx, ← List.cons_append]
    unfold numT
    rw [take_part isNum (x :: l) b hall hb]
    have hval : valL (x :: l) = v := by rw [← hd]; exact valL_digL v
    rw [hval]
    have hno : ¬ ((1 < (x :: l).length ∧ (x :: l ++ b).head? = some 48) ∨ 9223372036854775807 < (v : Int)) := by
      rintro (⟨h1, h2⟩ | h)
      · by_cases h10 : v < 10
        · rw [digL_small v h10] at hd
          injection hd with _ hl; rw [← hl] at h1; simp at h1
        · have := digL_head (v + 1) v (by omega) (by omega)
          rw [hd] at this; exact this h2
      · omega
    rw [if_neg hno]
/-- The operators' signs as numbers. -/
def opL (o : Nat) : List Int := [[61], [60, 62], [60], [60, 61], [62], [62, 61], [38], [43], [45], [42], [47]].getD o []
theorem opL_sb : ∀ o : Nat, o < 11 → sb (opS.getD o ⟨#[]⟩) = opL o ∧ opS.getD o ⟨#[]⟩ = strOfNums (opL o) := by decide +kernel
theorem opL_head (o : Nat) (ho : o < 11) (b : List Int) : ∀ x, (opL o ++ b).head? = some x → isNum x = false ∧ x ≠ 32 := by
  have key : ∀ o : Nat, o < 11 → ∃ y l, opL o = y :: l ∧ isNum y = false ∧ y ≠ 32 := by
    intro o ho
    match o, ho with
    | 0, _ => exact ⟨_, _, rfl, by decide, by decide⟩
    | 1, _ => exact ⟨_, _, rfl, by decide, by decide⟩
    | 2, _ => exact ⟨_, _, rfl, by decide, by decide⟩
    | 3, _ => exact ⟨_, _, rfl, by decide, by decide⟩
    | 4, _ => exact ⟨_, _, rfl, by decide, by decide⟩
    | 5, _ => exact ⟨_, _, rfl, by decide, by decide⟩
    | 6, _ => exact ⟨_, _, rfl, by decide, by decide⟩
    | 7, _ => exact ⟨_, _, rfl, by decide, by decide⟩
    | 8, _ => exact ⟨_, _, rfl, by decide, by decide⟩
    | 9, _ => exact ⟨_, _, rfl, by decide, by decide⟩
    | 10, _ => exact ⟨_, _, rfl, by decide, by decide⟩
    | o + 11, h => omega
  obtain ⟨y, l, e, h1, h2⟩ := key o ho
  intro x hx
  rw [e] at hx
  simp at hx; subst hx
  exact ⟨h1, h2⟩
/-- A sign ahead of a digit is told as it is. -/
theorem tok_op (o : Nat) (ho : o < 11) (b : List Int) (hb : ∃ x, b.head? = some x ∧ isNum x = true) : tokT (opL o ++ b) = some ({ Tk.zero with kind := 5, text := strOfNums (opL o) }, (opL o).length) := by
  obtain ⟨x, h1, h2⟩ := hb
  obtain ⟨y, l, e, h3, h4⟩ : ∃ y l, opL o ++ b = y :: l ∧ isNum y = false ∧ y ≠ 32 := by
    cases hq : opL o ++ b with
    | nil =>
      have := congrArg List.length hq
      rw [List.length_append] at this
      cases b with
      | nil => simp at h1
      | cons _ _ => simp at this
    | cons y l =>
      have := opL_head o ho b y (by rw [hq]; rfl)
      exact ⟨y, l, rfl, this.1, this.2⟩
  have hsgn : tokT (opL o ++ b) = signT (opL o ++ b) := by
    rw [e, tokT_cons]
    have hy : y = 61 ∨ y = 60 ∨ y = 62 ∨ y = 38 ∨ y = 43 ∨ y = 45 ∨ y = 42 ∨ y = 47 := by
      have key : ∀ o : Nat, o < 11 → ∀ y : Int, (opL o).head? = some y → y = 61 ∨ y = 60 ∨ y = 62 ∨ y = 38 ∨ y = 43 ∨ y = 45 ∨ y = 42 ∨ y = 47 := by
        intro o ho y h
        match o, ho with
        | 0, _ => simp [opL] at h; omega
        | 1, _ => simp [opL] at h; omega
        | 2, _ => simp [opL] at h; omega
        | 3, _ => simp [opL] at h; omega
        | 4, _ => simp [opL] at h; omega
        | 5, _ => simp [opL] at h; omega
        | 6, _ => simp [opL] at h; omega
        | 7, _ => simp [opL] at h; omega
        | 8, _ => simp [opL] at h; omega
        | 9, _ => simp [opL] at h; omega
        | 10, _ => simp [opL] at h; omega
        | o + 11, h => omega
      apply key o ho
      cases hq : opL o with
      | nil =>
        have : ∀ o : Nat, o < 11 → opL o ≠ [] := by decide
        exact absurd hq (this o ho)
      | cons z m => rw [hq] at e; injection e with e1 e2; rw [e1]; rfl
    rw [if_neg (by rw [h3]; simp), if_neg (by omega), if_neg (by omega), if_neg (by
      rintro (h | h)
      · unfold isLet at h; rw [decide_eq_true_iff] at h; omega
      · omega)]
  have hxb : x ≠ 62 ∧ x ≠ 61 := by have := num_bd h2; omega
  rw [hsgn]
  unfold signT
  have hn : signN (opL o ++ b) = (opL o).length := by
    match o, ho with
    | 0, _ => show signN (61 :: b) = 1; rw [signN_cons, h1, if_neg (by simp), if_pos (by omega)]
    | 1, _ => show signN (60 :: (62 :: b)) = 2; rw [signN_cons, if_pos (by simp)]
    | 2, _ => show signN (60 :: b) = 1; rw [signN_cons, h1, if_neg (by simp; omega), if_pos (by omega)]
    | 3, _ => show signN (60 :: (61 :: b)) = 2; rw [signN_cons, if_pos (by simp)]
    | 4, _ => show signN (62 :: b) = 1; rw [signN_cons, h1, if_neg (by simp; omega), if_pos (by omega)]
    | 5, _ => show signN (62 :: (61 :: b)) = 2; rw [signN_cons, if_pos (by simp)]
    | 6, _ => show signN (38 :: b) = 1; rw [signN_cons, h1, if_neg (by simp), if_pos (by omega)]
    | 7, _ => show signN (43 :: b) = 1; rw [signN_cons, h1, if_neg (by simp), if_pos (by omega)]
    | 8, _ => show signN (45 :: b) = 1; rw [signN_cons, h1, if_neg (by simp), if_pos (by omega)]
    | 9, _ => show signN (42 :: b) = 1; rw [signN_cons, h1, if_neg (by simp), if_pos (by omega)]
    | 10, _ => show signN (47 :: b) = 1; rw [signN_cons, h1, if_neg (by simp), if_pos (by omega)]
    | o + 11, h => omega
  have hne : (opL o).length ≠ 0 := by
    have : ∀ o : Nat, o < 11 → (opL o).length ≠ 0 := by decide
    exact this o ho
  rw [hn, if_neg hne, List.take_left]
/-- Operators and numbers by turns, the numbers from i + 1 on. -/
def opsL : Nat → List Nat → List Int
  | _, [] => []
  | i, o :: os => opL o ++ (digL (i + 1) ++ opsL (i + 1) os)
theorem opsL_head : ∀ (i : Nat) (os : List Nat), (∀ o ∈ os, o < 11) → ∀ x, (opsL i os).head? = some x → isNum x = false
  | _, [], _, x, h => by simp [opsL] at h
  | i, o :: os, ho, x, h => (opL_head o (ho o (by simp)) _ x h).1
theorem dig_head (v : Nat) (b : List Int) : ∃ x, (digL v ++ b).head? = some x ∧ isNum x = true := by
  cases hd : digL v with
  | nil => exact absurd hd (digL_ne v)
  | cons x l =>
    have := isNum_digL v x (by rw [hd]; simp)
    exact ⟨x, rfl, this⟩
theorem lex_ops : ∀ (os : List Nat) (p i : Nat), (∀ o ∈ os, o < 11) → i + os.length ≤ 1000000 → ∃ ts e, lexG p (opsL i os) = some ts ∧ Chain ts os [e] ∧ e.kind = 0
  | [], p, _, _, _ => ⟨_, _, lexG_nil p, rfl, rfl⟩
  | o :: os, p, i, ho, hi => by
    have h0 := ho o (by simp)
    have hos : ∀ x ∈ os, x < 11 := fun x hx => ho x (by simp [hx])
    have t1 := tok_op o h0 (digL (i + 1) ++ opsL (i + 1) os) (dig_head _ _)
    have t2 := tok_digits (i + 1) (by simp only [List.length_cons] at hi; omega) (opsL (i + 1) os) (opsL_head _ _ hos)
    obtain ⟨ts, e, h1, h2, h3⟩ := lex_ops os (p + (opL o).length + (digL (i + 1)).length) (i + 1) hos (by simp only [List.length_cons] at hi; omega)
    refine ⟨({ Tk.zero with kind := 5, text := strOfNums (opL o) } : Tk).goto p :: ({ Tk.zero with kind := 1, num := ((i + 1 : Nat) : Int) } : Tk).goto ((p + (opL o).length : Nat) : Int) :: ts, e, ?_, ⟨_, _, ts, rfl, rfl, (opL_sb o h0).2.symm, h0, rfl, h2⟩, h3⟩
    show lexG p (opL o ++ (digL (i + 1) ++ opsL (i + 1) os)) = _
    rw [lexG_app p (opL o) _ _ (fun x hx => (opL_head o h0 [] x (by rw [List.append_nil]; exact hx)).2) t1, lexG_app _ (digL (i + 1)) _ _ (fun x hx => num_no32 (isNum_digL _ x (List.mem_of_mem_head? (by rw [hx]; rfl)))) t2, h1]
    rfl
/-- ParseOrder's text: what is told of it. -/
theorem order_text (ops : List Nat) (ho : ∀ o ∈ ops, o < 11) (hl : ops.length ≤ 1000) : ∃ f ts, lexL (48 :: opsL 0 ops) = some ts ∧ ∃ ns, parseP f ts = some (.ok ns) ∧ ns.length = 2 * ops.length + 1 ∧ (ops ≠ [] → ∃ k, IsTop ops k ∧ TopIs 0 0 ops k ns) := by
  obtain ⟨ts, e, h1, h2, h3⟩ := lex_ops ops 1 0 ho (by omega)
  have t0 : tokT ([48] ++ opsL 0 ops) = some ({ Tk.zero with kind := 1, num := 0 }, 1) := by
    have := tok_digits 0 (by omega) (opsL 0 ops) (opsL_head _ _ ho)
    rw [digL_small 0 (by omega)] at this
    exact this
  have hlex : lexL (48 :: opsL 0 ops) = some (({ Tk.zero with kind := 1, num := 0 } : Tk).goto 0 :: ts) := by
    have := lexG_app 0 [48] (opsL 0 ops) _ (by simp) t0
    show lexG 0 ([48] ++ opsL 0 ops) = _
    rw [this]
    show (lexG 1 (opsL 0 ops)).map _ = _
    rw [h1]; rfl
  obtain ⟨f, y, hf⟩ := end_all _ (({ Tk.zero with kind := 1, num := 0 } : Tk).goto 0 :: ts) (Nat.le_refl _) 0 0 0
  have hst : Stop 0 [e] := by
    intro m _ hm
    have hs : ∀ s : ByteArray, signIs s [e] = false := by intro s; unfold signIs; simp only [h3]; rfl
    unfold opK
    simp only [hs]
    have key : ∀ m : Nat, m < 4 → (match (levelL m).find? (fun _ => false) with | some p => p.2 | none => (0 : Int)) = 0 := by decide
    exact key m (by omega)
  obtain ⟨ns, g1, g2, g3⟩ := (order_all f).1 _ _ _ _ _ _ _ _ hf rfl (by omega) h2 (fun _ _ => Nat.zero_le _) hst
  refine ⟨f, _, hlex, ns, ?_, g2, g3⟩
  unfold parseP
  rw [hf, g1]
  show (if kindAt [e] = 0 then _ else _) = _
  rw [if_pos (show kindAt [e] = 0 from h3)]
end Go.Proofs.YtdfpalocnijefaaGreatDoor

/-
  'chequerlaw5.ParseOrder', walked: the list's side.
-/
namespace Go.Proofs.YtdfpalocnijefaaGreatDoor
open Go.RowKit

/-- The operators that the bytes name. -/
def opsOf (xs : List Int) : List Nat := xs.map fun x => x.toNat % 11
theorem opsOf_lt (xs : List Int) : ∀ o ∈ opsOf xs, o < 11 := by
  intro o ho
  obtain ⟨x, _, rfl⟩ := List.mem_map.1 ho
  exact Nat.mod_lt _ (by omega)
theorem opsL_snoc : ∀ (os : List Nat) (i o : Nat), opsL i (os ++ [o]) = opsL i os ++ (opL o ++ digL (i + os.length + 1))
  | [], i, o => by show opL o ++ (digL (i + 1) ++ []) = _; rw [List.append_nil]; rfl
  | p :: os, i, o => by
    show opL p ++ (digL (i + 1) ++ opsL (i + 1) (os ++ [o])) = opL p ++ (digL (i + 1) ++ opsL (i + 1) os) ++ _
    rw [opsL_snoc os (i + 1) o, List.length_cons, show i + 1 + os.length + 1 = i + (os.length + 1) + 1 by omega]
    simp only [List.append_assoc]
/-- The last of the weakest among the first i. -/
def TopOf (os : List Nat) (i k : Nat) : Prop := k < i ∧ ∀ o, os[k]? = some o → ∀ j o', j < i → os[j]? = some o' → rk o ≤ rk o' ∧ (k < j → rk o < rk o')
theorem TopOf.le {os : List Nat} {i k o p : Nat} (h : TopOf os i k) (ho : os[i]? = some o) (hp : os[k]? = some p) (hr : rk o ≤ rk p) : TopOf os (i + 1) i := by
  refine ⟨by omega, fun q hq j o' hj ho' => ?_⟩
  rw [ho] at hq; injection hq with hq; subst hq
  by_cases hji : j = i
  · subst hji; rw [ho] at ho'; injection ho' with e; subst e; exact ⟨Nat.le_refl _, fun h => absurd h (by omega)⟩
  · have := (h.2 p hp j o' (by omega) ho').1; exact ⟨by omega, fun h => absurd h (by omega)⟩
theorem TopOf.gt {os : List Nat} {i k o p : Nat} (h : TopOf os i k) (ho : os[i]? = some o) (hp : os[k]? = some p) (hr : ¬ rk o ≤ rk p) : TopOf os (i + 1) k := by
  refine ⟨by have := h.1; omega, fun q hq j o' hj ho' => ?_⟩
  rw [hp] at hq; injection hq with hq; subst hq
  by_cases hji : j = i
  · subst hji; rw [ho] at ho'; injection ho' with e; subst e; exact ⟨by omega, fun _ => by omega⟩
  · exact h.2 p hp j o' (by omega) ho'
theorem TopOf.first {os : List Nat} {o : Nat} (ho : os[0]? = some o) : TopOf os 1 0 := by
  refine ⟨by omega, fun q hq j o' hj ho' => ?_⟩
  obtain rfl : j = 0 := by omega
  rw [ho] at hq ho'; injection hq with e; injection ho' with e'; subst e; subst e'
  exact ⟨Nat.le_refl _, fun h => absurd h (by omega)⟩
theorem TopOf.is {os : List Nat} {k k' : Nat} (h : TopOf os os.length k) (h' : IsTop os k') : k = k' := by
  obtain ⟨o', ho', hh⟩ := h'
  have hk' : k' < os.length := (List.getElem?_eq_some_iff.1 ho').1
  obtain ⟨o, ho⟩ : ∃ o, os[k]? = some o := ⟨_, List.getElem?_eq_getElem h.1⟩
  have a := h.2 o ho k' o' hk' ho'
  have b := hh k o ho
  rcases Nat.lt_trichotomy k k' with c | c | c
  · have := a.2 c; omega
  · exact c
  · have := b.2 c; omega
theorem opL_len : ∀ o : Nat, o < 11 → (opS.getD o ⟨#[]⟩).size ≤ 2 := by decide
theorem opsOf_at (xs : List Int) (i n : Nat) (hi : i < xs.length) (hx : xs.getD i 0 = (n : Int)) : (opsOf xs)[i]? = some (n % 11) := by
  rw [List.getD_eq_getElem?_getD, List.getElem?_eq_getElem hi, Option.getD_some] at hx
  rw [opsOf, List.getElem?_map, List.getElem?_eq_getElem hi, Option.map_some, hx]; rfl
/-- What ParseOrder's text is, and what is told of its nodes. -/
theorem order_PIs (s : ByteArray) (os : List Nat) (h : s.size ≤ 300) (hs : sb s = 48 :: opsL 0 os) (ho : ∀ o ∈ os, o < 11) (hl : os.length ≤ 20) (hne : os ≠ []) : ∃ ns, PIs s (.ok ns) ∧ ns.length = 2 * os.length + 1 ∧ ∃ k, IsTop os k ∧ TopIs 0 0 os k ns := by
  obtain ⟨f, ts, h1, ns, h2, h3, h4⟩ := order_text os ho (by omega)
  exact ⟨ns, .inr (.inr ⟨h, ts, f, by rw [hs]; exact h1, h2⟩), h3, h4 hne⟩
end Go.Proofs.YtdfpalocnijefaaGreatDoor

/-
  A region that draws its order and holds one call that makes memory: its steps, typed one by one.
-/
namespace Go.Proofs.YtdfpalocnijefaaGreatDoor
open Go.RowKit

theorem held_take {P : Program} {md : Region.Mode} {ops : Array Oper} {Q : Exit → Act → World → Prop} {S : World → Prop} {i : Nat} {oi : Oper} {d : Option Tmp} {v : Value} {fuel : Nat} {listed listed' : Array Bool} {a : Act} {w : World} (hi : ops[i]? = some oi) (hd : oi.dst = d)
    (hs : Region.noSelect ops = true) (hf : Region.free md ops listed i = true) (hr : (Region.ready md ops listed).contains i = true) (hl : listed.setIfInBounds i true = listed')
    (hQ : ∀ c a w, Q (.panic c) (a.put d v) w → Q (.panic c) a w) (hw : Region.wanted oi (yielded ops a.tmps) = true) (hy : ∀ w, S w → (execOp a.eval oi).run P w = .ok (.value v) w) (hS : S w)
    (h : wpAnyH P md ops Q S fuel listed' (a.put d v) w) : wpAnyH P md ops Q S (fuel + 1) listed a w := by
  subst hd; subst hl
  exact wpAnyH_take hi hs hf hr hQ (.inl ⟨hw, hy⟩) hS h
theorem held_skip {P : Program} {md : Region.Mode} {ops : Array Oper} {Q : Exit → Act → World → Prop} {S : World → Prop} {i : Nat} {oi : Oper} {d : Option Tmp} {fuel : Nat} {listed listed' : Array Bool} {a : Act} {w : World} (hi : ops[i]? = some oi) (hd : oi.dst = d)
    (hs : Region.noSelect ops = true) (hf : Region.free md ops listed i = true) (hr : (Region.ready md ops listed).contains i = true) (hl : listed.setIfInBounds i true = listed')
    (hQ : ∀ c a w, Q (.panic c) (a.put d undef) w → Q (.panic c) a w) (hw : Region.wanted oi (yielded ops a.tmps) = false) (hS : S w)
    (h : wpAnyH P md ops Q S fuel listed' (a.put d undef) w) : wpAnyH P md ops Q S (fuel + 1) listed a w := by
  subst hd; subst hl
  exact wpAnyH_take hi hs hf hr hQ (.inr ⟨hw, rfl⟩) hS h
/-- The one that alone may come up. -/
theorem held_one {P : Program} {md : Region.Mode} {ops : Array Oper} {Q : Exit → Act → World → Prop} {S : World → Prop} {i : Nat} {oi : Oper} {d : Option Tmp} {fuel : Nat} {listed listed' : Array Bool} {a : Act} {w : World} (hi : ops[i]? = some oi) (hd : oi.dst = d)
    (hr : Region.ready md ops listed = [i]) (hl : listed.setIfInBounds i true = listed') (hw : Region.wanted oi (yielded ops a.tmps) = true)
    (h : ∀ K : Act → World → Prop, Shut (∀ v w, S w → wpAnyH P md ops Q S fuel listed' (a.put d v) w → K (a.put d v) w) → Oper.wp P oi a w K Q) : wpAnyH P md ops Q S (fuel + 1) listed a w := by
  subst hd; subst hl
  refine wpAnyH_ready hr (by simp) (AllReadyH.cons hi (fun K hK => ?_) AllReadyH.nil)
  rw [if_pos hw]
  exact h K (fun v w hS hW => hK _ _ hS (fun _ => hW))
theorem Below.of (w w' w'' : World) (h : Below w.heap.size w w') (k : Below w'.heap.size w' w'') : Below w.heap.size w w'' := h.trans (k.mono h.size)

theorem wpOp_imp {P : Program} {ops : Array Oper} {Q : Exit → Act → World → Prop} {i : Nat} {a : Act} {w : World} {K K' : Act → World → Prop} (h : ∀ a w, K a w → K' a w) (hk : wpOp P ops Q i K a w) : wpOp P ops Q i K' a w := wpOp_mono h hk
/-- What is held may be said with less. -/
theorem held_less {P : Program} {md : Region.Mode} {ops : Array Oper} {Q : Exit → Act → World → Prop} {S S' : World → Prop} (hS : ∀ w, S w → S' w) : ∀ (fuel : Nat) (listed : Array Bool) (a : Act) (w : World), wpAnyH P md ops Q S fuel listed a w → wpAnyH P md ops Q S' fuel listed a w
  | 0, _, _, _, h => h
  | fuel + 1, _, _, _, h => ⟨h.1, fun i hi => wpOp_imp (fun a' w' h' => ⟨hS _ h'.1, held_less hS fuel _ a' w' h'.2⟩) (h.2 i hi)⟩
/-! What is held: all that there is in the world at hand is as it was. A call that makes memory leaves a world of which the same is held anew. -/
theorem kept_start {P : Program} {ops : Array Oper} {Q : Exit → Act → World → Prop} {id : Nat} {a : Act} {w : World} (hm : P.follows .mixedOrders = true)
    (h : wpAnyH P .any ops Q (Below w.heap.size w.drew) ops.size (Array.replicate ops.size false) a w.drew) : (Code.region id ops true).wp P Q a w :=
  wp_region_held_drew (S := Below w.heap.size w.drew) hm (Below.refl _ _) (fun _ => h)
theorem kept_take {P : Program} {md : Region.Mode} {ops : Array Oper} {Q : Exit → Act → World → Prop} {i : Nat} {oi : Oper} {d : Option Tmp} {v : Value} {fuel : Nat} {listed listed' : Array Bool} {a : Act} {B : Nat} {w : World} (hi : ops[i]? = some oi) (hd : oi.dst = d)
    (hs : Region.noSelect ops = true) (hf : Region.free md ops listed i = true) (hr : (Region.ready md ops listed).contains i = true) (hl : listed.setIfInBounds i true = listed')
    (hQ : ∀ c a w, Q (.panic c) (a.put d v) w → Q (.panic c) a w) (hw : Region.wanted oi (yielded ops a.tmps) = true) (hy : ∀ w', Below B w w' → (execOp a.eval oi).run P w' = .ok (.value v) w')
    (h : wpAnyH P md ops Q (Below B w) fuel listed' (a.put d v) w) : wpAnyH P md ops Q (Below B w) (fuel + 1) listed a w :=
  held_take hi hd hs hf hr hl hQ hw hy (Below.refl _ _) h
theorem kept_skip {P : Program} {md : Region.Mode} {ops : Array Oper} {Q : Exit → Act → World → Prop} {i : Nat} {oi : Oper} {d : Option Tmp} {fuel : Nat} {listed listed' : Array Bool} {a : Act} {B : Nat} {w : World} (hi : ops[i]? = some oi) (hd : oi.dst = d)
    (hs : Region.noSelect ops = true) (hf : Region.free md ops listed i = true) (hr : (Region.ready md ops listed).contains i = true) (hl : listed.setIfInBounds i true = listed')
    (hQ : ∀ c a w, Q (.panic c) (a.put d undef) w → Q (.panic c) a w) (hw : Region.wanted oi (yielded ops a.tmps) = false)
    (h : wpAnyH P md ops Q (Below B w) fuel listed' (a.put d undef) w) : wpAnyH P md ops Q (Below B w) (fuel + 1) listed a w :=
  held_skip hi hd hs hf hr hl hQ hw (Below.refl _ _) h
theorem kept_call {P : Program} {md : Region.Mode} {ops : Array Oper} {Q : Exit → Act → World → Prop} {i : Nat} {oi : Oper} {d : Option Tmp} {fuel : Nat} {listed listed' : Array Bool} {a : Act} {B : Nat} {w : World} (hi : ops[i]? = some oi) (hd : oi.dst = d)
    (hr : Region.ready md ops listed = [i]) (hl : listed.setIfInBounds i true = listed') (hw : Region.wanted oi (yielded ops a.tmps) = true)
    (h : ∀ K : Act → World → Prop, Shut (∀ v w', Below B w w' → B ≤ w'.heap.size → wpAnyH P md ops Q (Below w'.heap.size w') fuel listed' (a.put d v) w' → K (a.put d v) w') → Oper.wp P oi a w K Q) : wpAnyH P md ops Q (Below B w) (fuel + 1) listed a w :=
  held_one hi hd hr hl hw (fun K hK => h K (fun v w' hb hB hn => hK v w' hb (held_less (fun _ h' => hb.trans (h'.mono hB)) _ _ _ _ hn)))
/-! The same, below a block that is chosen once: for a region that appends to a row of the call's own. -/
theorem kept_start_at {P : Program} {ops : Array Oper} {Q : Exit → Act → World → Prop} {id : Nat} {a : Act} {w : World} (B : Nat) (hm : P.follows .mixedOrders = true)
    (h : wpAnyH P .any ops Q (Below B w.drew) ops.size (Array.replicate ops.size false) a w.drew) : (Code.region id ops true).wp P Q a w :=
  wp_region_held_drew (S := Below B w.drew) hm (Below.refl _ _) (fun _ => h)
theorem kept_call_at {P : Program} {md : Region.Mode} {ops : Array Oper} {Q : Exit → Act → World → Prop} {i : Nat} {oi : Oper} {d : Option Tmp} {fuel : Nat} {listed listed' : Array Bool} {a : Act} {B : Nat} {w : World} (hi : ops[i]? = some oi) (hd : oi.dst = d)
    (hr : Region.ready md ops listed = [i]) (hl : listed.setIfInBounds i true = listed') (hw : Region.wanted oi (yielded ops a.tmps) = true)
    (h : ∀ K : Act → World → Prop, Shut (∀ v w', Below B w w' → wpAnyH P md ops Q (Below B w') fuel listed' (a.put d v) w' → K (a.put d v) w') → Oper.wp P oi a w K Q) : wpAnyH P md ops Q (Below B w) (fuel + 1) listed a w :=
  held_one hi hd hr hl hw (fun K hK => h K (fun v w' hb hn => hK v w' hb (held_less (fun _ h' => hb.trans h') _ _ _ _ hn)))
/-- The append laws at one operation. -/
theorem wp_app {P : Program} {α : Type} {size t e bytes : Nat} {w : World} {o : Oper} {a : Act} {K : Act → World → Prop} {Q : Exit → Act → World → Prop} (EL : Elem P t e size bytes) (E : Enc α size)
    (s x : Operand) (ho : o.op = .call { callee := .builtin .append, args := #[s, x], argTypes := #[t, t] }) (base : Nat) (v : Value) (xs : List α)
    (hs : a.eval s = v) (hown : Own E e w base v xs) (ad : Addr) (m c : Nat) (ys : List α) (hx : a.eval x = .slice (some ad) m c) (hl : ys.length = m)
    (hc : ∀ (j : Nat) (u : Value), (E.all ys)[j]? = some u → w.cell? (ad.add j) = some u) (hb : (xs.length + m) * bytes ≤ 140737488355328) (hb2 : xs.length + m ≤ maxLen) (hbase : base ≤ w.heap.size)
    (h : ∀ (v' : Value) (w' : World), Own E e w' base v' (xs ++ ys) → Below base w w' → K (a.put o.dst v') w') : Oper.wp P o a w K Q := by
  obtain ⟨z, hi, hz⟩ := EL.inf
  obtain ⟨i, hi1, hi2, hi3, hi4⟩ := info_parts hi
  obtain ⟨v', w', hrun, r1, r2, _⟩ := run_append_own (P := P) w base t o.type e i z size bytes EL.und hi1 hi2 hi3 hi4 hz EL.pos v xs.length (E.all xs) hown ad m c (E.all ys) (by rw [E.length_all, hl]) hc (E.one_all ys) hb2 hb hbase
  unfold Oper.wp
  simp [execOp, ho, resolve, invoke, builtin, hs, hx, hrun, Result.andThen]
  refine h v' w' ?_ (Below.grown (Below.refl _ _) r2 hbase fun k hk => (World.ownsRow.lt hown k hk).1)
  unfold Own; rw [E.all_append, List.length_append, hl]; exact r1
end Go.Proofs.YtdfpalocnijefaaGreatDoor

/-
  Layer 3, the program: May; decimal digits by the library.
-/
namespace Go.Proofs.YtdfpalocnijefaaGreatDoor
open Go.RowKit

/-! Decimal digits. -/
theorem sb_dec : ∀ (n u : Nat), u < n → sb ⟨(Lib.decDigits u).toArray⟩ = digL u := by
  have sbm : ∀ l : List UInt8, sb ⟨l.toArray⟩ = l.map (fun b => (b.toNat : Int)) := fun l => rfl
  intro n
  induction n with
  | zero => intro u h; omega
  | succ n ih =>
    intro u hu
    rw [sbm, Lib.decDigits]
    by_cases h : u < 10
    · rw [dif_pos h, digL_small u h]
      simp only [List.map_cons, List.map_nil]
      rw [UInt8.toNat_ofNat_of_lt' (by show 48 + u < 256; omega)]; congr 1
    · rw [dif_neg h, digL_more u h, List.map_append, ← sbm, ih (u / 10) (by omega)]
      simp only [List.map_cons, List.map_nil]
      rw [UInt8.toNat_ofNat_of_lt' (by show 48 + u % 10 < 256; omega)]; congr 1
theorem dec_str (u : Nat) : (⟨(Lib.decDigits u).toArray⟩ : ByteArray) = strOfNums (digL u) := by
  rw [← str_sb ⟨(Lib.decDigits u).toArray⟩, sb_dec (u + 1) u (by omega)]
/-- The library's table of powers of ten. -/
def Tab (w : World) : Prop := Lib.TabIs Tryz.prog w "internal/strconv.uint64pow10" .u64 Lib.pow10Tab
theorem gTab : Tryz.prog.globalNamed "internal/strconv.uint64pow10" = some 5 := by kernel_rfl
theorem Tab.below {w w' : World} (h : Tab w) (hb : Below w.heap.size w w') : Tab w' := by
  unfold Tab Lib.TabIs World.var? at h ⊢
  rw [gTab] at h ⊢
  simp only [Option.bind_some] at h ⊢
  rw [hb.block _ ?_]
  · exact h
  · rcases Nat.lt_or_ge 5 w.heap.size with h' | h'
    · exact h'
    · rw [Array.getElem?_eq_none h'] at h; cases h
theorem below_grow (w : World) (k : Nat) (os : Array Obj) : Below w.heap.size w (Sort.grow (w.drewN k) os) := by
  refine ⟨rfl, rfl, rfl, ?_, ?_⟩
  · show w.heap.size ≤ (w.heap ++ os).size
    simp
  · intro j hj
    show (w.heap ++ os)[j]? = w.heap[j]?
    rw [Array.getElem?_append_left hj]
theorem itoa_any (n : Nat) (_h1 : n ≤ 9223372036854775807) (w : World) (ht : Tab w) :
    Calls Tryz.prog 126 #[.int .i64 (n : Int)] w fun e w' => e = .returned (.string (strOfNums (digL n))) ∧ Below w.heap.size w w' := by
  refine (Tryz.strconv_Itoa (n : Int) (by omega) (by omega) w ht).mono ?_
  rintro e w' ⟨rfl, k, os, rfl⟩
  refine ⟨?_, below_grow w k os⟩
  have : Lib.itoa (n : Int) = Lib.decDigits n := by unfold Lib.itoa; rw [if_neg (by omega)]; rfl
  rw [this, dec_str]
end Go.Proofs.YtdfpalocnijefaaGreatDoor

/-
  Layer 3, the program: May.
-/
namespace Go.Proofs.YtdfpalocnijefaaGreatDoor
open Go.RowKit

set_option maxRecDepth 100000 in
set_option maxHeartbeats 400000 in
theorem may_any (s : ByteArray) (c r : Int) (ac ar : Bool) (w : World) (_hs : s.size ≤ 1000000) :
    Calls Tryz.prog 91 #[.agg #[.string s, .int .i64 c, .int .i64 r, .bool ac, .bool ar]] w fun e w' => e = .returned (.bool (mayL (sb s) c r)) ∧ Below w.heap.size w w' := by
  by_cases h0 : s.size = 0
  · have := sb_nil s h0
    subst this
    have hm : mayL (sb ⟨#[]⟩) c r = decide (0 ≤ c ∧ c ≤ 701 ∧ 0 ≤ r ∧ r ≤ 998) := by unfold mayL; rw [show decide (sb ⟨#[]⟩ = []) = true from by decide, Bool.true_or, Bool.true_and]
    have HM := Lib.hid hm; clear hm
    go_enter Tryz.func91, Tryz.ntmps91
    go_wp2
    all_goals go_ret
    all_goals exact ⟨ret_bool (by rw [HM.out]; first | (symm; rw [decide_eq_true_iff]; omega) | (symm; rw [decide_eq_false_iff_not]; omega) | (rw [decide_eq_decide]; omega)), (Below.refl _ _).alloc (Nat.le_refl _) _⟩
  · have hne := text_ne0 s h0
    have hne2 : s.toList.isEmpty = false := by cases hq : s.toList with | nil => exact absurd hq hne | cons a l => rfl
    have hm : mayL (sb s) c r = (nameL (sb s) && decide (0 ≤ c ∧ c ≤ 701 ∧ 0 ≤ r ∧ r ≤ 998)) := by
      unfold mayL; rw [decide_eq_false (by intro h; have := length_sb s; rw [h] at this; exact h0 this.symm), Bool.false_or]
    have HM := Lib.hid hm; clear hm h0
    by_cases hn : nameL (sb s) = true
    · go_enter Tryz.func91, Tryz.ntmps91
      go_wp2_with (first
        | (go_at_call 124; ((with_reducible refine (name_any _ _ ?_).mono ?_); (first | omega | skip); rintro e w' ⟨rfl, rfl⟩)))
      all_goals go_ret
      all_goals exact ⟨ret_bool (by rw [HM.out, hn, Bool.true_and]; first | (symm; rw [decide_eq_true_iff]; omega) | (symm; rw [decide_eq_false_iff_not]; omega) | (rw [decide_eq_decide]; omega)), (Below.refl _ _).alloc (Nat.le_refl _) _⟩
    · have hn' : nameL (sb s) = false := by simpa using hn
      clear hn
      go_enter Tryz.func91, Tryz.ntmps91
      go_wp2_with (first
        | (go_at_call 124; ((with_reducible refine (name_any _ _ ?_).mono ?_); (first | omega | skip); rintro e w' ⟨rfl, rfl⟩)))
      all_goals go_ret
      all_goals exact ⟨ret_bool (by rw [HM.out, hn', Bool.false_and]), (Below.refl _ _).alloc (Nat.le_refl _) _⟩

end Go.Proofs.YtdfpalocnijefaaGreatDoor

/-
  Layer 5, the program: names, texts, kinds that a tree's nodes may have.
-/
namespace Go.Proofs.YtdfpalocnijefaaGreatDoor
open Go.RowKit

/-- A name is a token of its own. -/
theorem name_lex (s : ByteArray) (h : calledL (sb s) = true) (hr : readS s = none) : ∃ t ts, lexL (sb s) = some (t :: ts) ∧ t.kind = 3 ∧ t.text = s := by
  have hc := h
  unfold calledL at hc
  rw [Bool.and_eq_true, Bool.and_eq_true, decide_eq_true_iff, decide_eq_true_iff] at hc
  obtain ⟨c1, c2, c3⟩ := hc
  have hs := str_sb s
  cases hq : sb s with
  | nil => rw [hq] at c2; simp at c2
  | cons x l =>
    rw [hq] at c1 c3 hs h
    have hall : ∀ y ∈ x :: l, isWord y = true := by
      intro y hy
      have := c1 y hy
      rw [Bool.or_eq_true] at this
      rcases this with g | g
      · rw [isWord_beg, isBeg_cap g]; rfl
      · rw [isWord_beg, g]; simp
    have hx : isCap x = true := by simpa using c3
    have hxr : 65 ≤ x ∧ x ≤ 90 := by unfold isCap at hx; rw [decide_eq_true_iff] at hx; omega
    have h1 : ¬ isNum x = true := by unfold isNum; rw [decide_eq_true_iff]; omega
    have hl : isLet x = true := by unfold isLet; rw [decide_eq_true_iff]; omega
    have ht : (x :: l).takeWhile isWord = x :: l := by
      have := take_part isWord (x :: l) [] hall (fun y hy => by simp at hy)
      rw [List.append_nil] at this; exact this
    have htok : tokT (x :: l) = some ({ Tk.zero with kind := 3, text := s }, (x :: l).length) := by
      rw [tokT_cons, if_neg h1, if_neg (by omega), if_neg (by omega), if_pos (.inl hl)]
      unfold wordT
      rw [ht, hs, hr]
      simp only
      rw [if_pos h]
    refine ⟨({ Tk.zero with kind := 3, text := s } : Tk).goto 0, [Tk.zero.goto (0 + (x :: l).length)], ?_, rfl, rfl⟩
    unfold lexL
    rw [List.length_cons, lexF_cons, if_neg (by omega), htok]
    simp only
    rw [List.drop_length]
    have : lexF l.length (0 + (x :: l).length) [] = some [Tk.zero.goto (0 + (x :: l).length)] := by unfold lexF; rfl
    rw [this]; rfl
theorem callB_eq (s : ByteArray) : callB s = ((calledL (sb s) && (readS s).isNone) && (decide (¬ s = ⟨#[84, 82, 85, 69]⟩) && decide (¬ s = ⟨#[70, 65, 76, 83, 69]⟩))) := by unfold callB; rw [Bool.and_assoc]
theorem callB_bad (s : ByteArray) (h : ∀ t ts, lexL (sb s) = some (t :: ts) → ¬ (t.kind = 3 ∧ t.text = s)) : callB s = false := by
  rw [callB_eq]
  cases hc : calledL (sb s)
  · rfl
  · cases hr : readS s with
    | some d => rfl
    | none =>
      obtain ⟨t, ts, h1, h2, h3⟩ := name_lex s hc hr
      exact absurd ⟨h2, h3⟩ (h t ts h1)
theorem callB_big (s : ByteArray) (h : 12 < s.size) : callB s = false := by
  rw [callB_eq]
  have : calledL (sb s) = false := by
    unfold calledL
    rw [decide_eq_false (show ¬ (1 ≤ (sb s).length ∧ (sb s).length ≤ 12) by rw [length_sb]; omega), Bool.false_and, Bool.and_false]
  rw [this]; rfl
set_option maxRecDepth 100000 in
set_option maxHeartbeats 2000000 in
theorem isName5_any (s : ByteArray) (w : World) (hv : Vars w) : Calls Tryz.prog 93 #[.string s] w fun e w' => e = .returned (.bool (callB s)) ∧ Below w.heap.size w w' := by
  have bad : ∀ c : Int, (c != 0) = true → callB s = false → (Calls Tryz.prog 22 #[.string s] w fun e w' => Below w.heap.size w w' ∧ e = .returned (.tuple #[.slice none 0 0, .int .i64 c])) →
      Calls Tryz.prog 93 #[.string s] w fun e w' => e = .returned (.bool (callB s)) ∧ Below w.heap.size w w' := by
    intro c hc hb hl
    have HL := Lib.hid hl; have HB0 := Lib.hid hb
    have hc2 : (c == 0) = false := by rw [beq_eq_false_iff_ne]; exact bne_iff_ne.1 hc
    clear hl hb
    go_enter Tryz.func93, Tryz.ntmps93
    go_wp2_with (go_at_call 22; ((with_reducible refine HL.out.mono ?_); rintro e w1 ⟨hb, rfl⟩; have HB := Lib.hid hb; clear hb))
    go_ret
    exact ⟨by rw [HB0.out] <;> rfl, HB.out⟩
  by_cases hbig : 300 < s.size
  · exact bad 4 rfl (callB_big s (by omega)) (lex_over s w hv hbig)
  · cases hl : lexL (sb s) with
    | none => exact bad 5 rfl (callB_bad s (fun t ts h => by rw [hl] at h; cases h)) (lex_isnt s w hv (by omega) hl)
    | some ts =>
      have hne := lexL_ne s ts hl
      obtain ⟨hgood, _⟩ := lexL_good s ts hl
      match ts, hne, hl, hgood with
      | t :: tl, _, hl, hgood =>
      have HX := Lib.hid (lex_is s w hv (by omega) (t :: tl) hl (by simp))
      have hg := hgood t (by simp)
      obtain ⟨kd, hkd⟩ : ∃ kd, t.kind = kd := ⟨_, rfl⟩
      obtain ⟨tx, htx⟩ : ∃ tx, t.text = tx := ⟨_, rfl⟩
      have HC := Lib.hid (fun h => callB_bad s (fun t' ts' h' => by rw [hl] at h'; injection h' with h'; injection h' with h1 h2; subst h1; exact h))
      have HG := Lib.hid (show kd = 3 → tx = s → callB s = (decide (¬ s = ⟨#[84, 82, 85, 69]⟩) && decide (¬ s = ⟨#[70, 65, 76, 83, 69]⟩)) from by
        intro h1 h2
        obtain ⟨g1, g2⟩ := hg.name (by rw [hkd, h1])
        rw [htx, h2] at g1 g2
        rw [callB_eq, g1, g2]; rfl)
      have HK := Lib.hid hkd; have HT := Lib.hid htx
      obtain ⟨n, hn⟩ : ∃ n, (t :: tl).length = n := ⟨_, rfl⟩
      have hn1 : 0 < n := by rw [← hn]; simp
      rw [hn] at HX
      have q1 := word_eq s ⟨#[84, 82, 85, 69]⟩
      have q2 := word_eq s ⟨#[70, 65, 76, 83, 69]⟩
      rw [list_true] at q1
      rw [list_false] at q2
      clear hl hgood hg hkd htx hn hne bad
      go_enter Tryz.func93, Tryz.ntmps93
      go_upto_region 2 with (go_at_call 22; ((with_reducible refine HX.out.mono ?_); rintro e w1 ⟨hb, g, cap, rfl, hg0, hg1, ho⟩; have HB := Lib.hid hb; have k0 : w1.cell? ⟨g, 0, none⟩ = some (.int .i64 kd) := ((OwnT.cell ho 0 t rfl 0 (by omega)).trans (by show some (Value.int .i64 t.kind) = _; rw [HK.out])); have k1 : w1.cell? ⟨g, 1, none⟩ = some (.string tx) := ((OwnT.cell ho 0 t rfl 1 (by omega)).trans (by show some (Value.string t.text) = _; rw [HT.out])); clear hb ho))
      have hni : (0 : Int) < (n : Int) := by omega
      by_cases h3 : kd = 3
      · have e3 : (kd == 3) = true := beq_iff_eq.2 h3
        by_cases hs : tx = s
        · have HR := Lib.hid (HG.out h3 hs)
          have q3 : (tx.toList == s.toList) = true := by rw [hs]; simp
          clear h3 hs HC HG HK HT HX
          by_cases h1 : s = ⟨#[84, 82, 85, 69]⟩
          · rw [decide_eq_true h1] at q1
            rw [decide_eq_false (show ¬ ¬ s = ⟨#[84, 82, 85, 69]⟩ from fun h => h h1), Bool.false_and] at HR
            have q1n : (s.toList != [84, 82, 85, 69]) = false := by rw [bne, q1]; rfl
            clear h1
            go_wp2_with fail
            go_ret
            exact ⟨by rw [HR.out] <;> rfl, HB.out⟩
          · rw [decide_eq_false h1] at q1
            rw [decide_eq_true h1, Bool.true_and] at HR
            have q1n : (s.toList != [84, 82, 85, 69]) = true := by rw [bne, q1]; rfl
            clear h1
            by_cases h2 : s = ⟨#[70, 65, 76, 83, 69]⟩
            · rw [decide_eq_true h2] at q2
              rw [decide_eq_false (show ¬ ¬ s = ⟨#[70, 65, 76, 83, 69]⟩ from fun h => h h2)] at HR
              have q2n : (s.toList != [70, 65, 76, 83, 69]) = false := by rw [bne, q2]; rfl
              clear h2
              go_wp2_with fail
              go_ret
              exact ⟨by rw [HR.out] <;> rfl, HB.out⟩
            · rw [decide_eq_false h2] at q2
              rw [decide_eq_true h2] at HR
              have q2n : (s.toList != [70, 65, 76, 83, 69]) = true := by rw [bne, q2]; rfl
              clear h2
              go_wp2_with fail
              go_ret
              exact ⟨by rw [HR.out] <;> rfl, HB.out⟩
        · have HR := Lib.hid (HC.out (fun h => hs (by rw [← HT.out]; exact h.2)))
          have q3 : (tx.toList == s.toList) = false := beq_eq_false_iff_ne.2 (text_ne _ _ hs)
          clear h3 hs HC HG HK HT HX
          go_wp2_with fail
          go_ret
          exact ⟨by rw [HR.out] <;> rfl, HB.out⟩
      · have HR := Lib.hid (HC.out (fun h => h3 (by rw [← HK.out]; exact h.1)))
        have e3 : (kd == 3) = false := beq_eq_false_iff_ne.2 h3
        clear h3 HC HG HK HT HX
        go_wp2_with fail
        go_ret
        exact ⟨by rw [HR.out] <;> rfl, HB.out⟩
end Go.Proofs.YtdfpalocnijefaaGreatDoor

/-
  Layer 5, the program: texts, kids, fields of a node.
-/
namespace Go.Proofs.YtdfpalocnijefaaGreatDoor
open Go.RowKit

theorem printB_bad (s : ByteArray) (k : Nat) (h : k < s.size) (hx : ((s[k].toNat : Nat) : Int) < 32) : printB (sb s) = false := by
  unfold printB; rw [decide_eq_false_iff_not]; intro hall
  exact hall _ (List.mem_of_getElem? (sb_at s k h)) hx
theorem printB_all (s : ByteArray) (h : ∀ (j : Nat) (hj : j < s.size), ¬ ((s[j].toNat : Nat) : Int) < 32) : printB (sb s) = true := by
  unfold printB; rw [decide_eq_true_iff]
  intro x hx
  obtain ⟨j, hj, rfl⟩ := List.mem_iff_getElem.1 hx
  rw [length_sb] at hj
  have := sb_at s j hj
  rw [List.getElem?_eq_getElem (by rw [length_sb]; exact hj)] at this
  rw [Option.some.inj this]; exact h j hj
set_option maxRecDepth 100000 in
set_option maxHeartbeats 800000 in
theorem isText_any (s : ByteArray) (w : World) (_hs : s.size ≤ 1000000) : Calls Tryz.prog 90 #[.string s] w fun e w' => e = .returned (.bool (printB (sb s))) ∧ w = w' := by
  go_enter Tryz.func90, Tryz.ntmps90
  go_wp2_with fail
  go_loopw [6] (fun i wr => ∃ k : Nat, k ≤ s.size ∧ i = .int .i64 k ∧ Hid (∀ (j : Nat) (hj : j < s.size), j < k → ¬ ((s[j].toNat : Nat) : Int) < 32) ∧ w = wr)
    (fun i _ => s.size - (intOf i).toNat)
  case atStart => exact ⟨0, by omega, rfl, Lib.hid (by intro j _ hj; omega), rfl⟩
  case round =>
    obtain ⟨k, hk, rfl, HG, rfl⟩ := hrel
    by_cases hlt : k < s.size
    · have hki : (k : Int) < (s.size : Int) := by omega
      obtain ⟨a, ha⟩ : ∃ a : Int, (s[k].toNat : Int) = a := ⟨_, rfl⟩
      have ha1 : 0 ≤ a ∧ a ≤ 255 := by have := s[k].toNat_lt; omega
      have HA := Lib.hid ha
      by_cases h32 : a < 32
      · have HB := Lib.hid (printB_bad s k hlt (by rw [ha]; exact h32))
        go_wp2_with fail
        go_ret
        exact ⟨by rw [HB.out] <;> rfl, rfl⟩
      · go_wp2_with fail
        go_roundw
        case rel =>
          refine ⟨k + 1, by omega, by go_num, Lib.hid ?_, by first | rfl | trivial⟩
          intro j hj hjk
          by_cases e : j = k
          · subst e; rw [HA.out]; exact h32
          · exact HG.out j hj (by omega)
        case measure => simp [intOf]; omega
    · have hki : ¬ (k : Int) < (s.size : Int) := by omega
      have HB := Lib.hid (printB_all s (fun j hj => HG.out j hj (by omega)))
      go_wp2_with fail
      go_ret
      exact ⟨by rw [HB.out] <;> rfl, rfl⟩
def twoB (k : Int) : Bool := decide (9 ≤ k ∧ k ≤ 19)
set_option maxHeartbeats 400000 in
theorem isOfTwo_any (k : Int) (w : World) : Calls Tryz.prog 94 #[.int .i64 k] w fun e w' => e = .returned (.bool (twoB k)) ∧ w = w' := by
  go_enter Tryz.func94, Tryz.ntmps94
  by_cases h1 : 9 ≤ k
  · by_cases h2 : k ≤ 19
    · go_wp2
      go_ret
      exact ⟨ret_bool (by unfold twoB; symm; rw [decide_eq_true_iff]; exact ⟨h1, h2⟩), rfl⟩
    · go_wp2
      go_ret
      exact ⟨ret_bool (by unfold twoB; symm; rw [decide_eq_false_iff_not]; omega), rfl⟩
  · go_wp2
    go_ret
    exact ⟨ret_bool (by unfold twoB; symm; rw [decide_eq_false_iff_not]; omega), rfl⟩
/-- Has a node as many kids as its kind? -/
def hkB (kind : Int) (m : Nat) : Bool := if kind = 7 then true else if kind = 8 then decide (m = 1) else if twoB kind = true then decide (m = 2) else decide (m = 0)
set_option maxRecDepth 100000 in
set_option maxHeartbeats 1600000 in
theorem hasKids_any (n : Nd) (A : Option Addr) (m c : Nat) (hm : m ≤ maxLen) (w : World) : Calls Tryz.prog 53 #[.agg #[.int .i64 n.kind, .int .i64 n.num, .string n.text, .string n.ref.sh, .int .i64 n.ref.c, .int .i64 n.ref.r, .bool n.ref.ac, .bool n.ref.ar, .string n.to.sh, .int .i64 n.to.c, .int .i64 n.to.r, .bool n.to.ac, .bool n.to.ar, .slice A m c]] w fun e w' => e = .returned (.bool (hkB n.kind m)) ∧ Below w.heap.size w w' := by
  have hx : NdAt (w.alloc (.cells #[.int .i64 n.kind, .int .i64 n.num, .string n.text, .string n.ref.sh, .int .i64 n.ref.c, .int .i64 n.ref.r, .bool n.ref.ac, .bool n.ref.ar, .string n.to.sh, .int .i64 n.to.c, .int .i64 n.to.r, .bool n.to.ac, .bool n.to.ar, .slice A m c] 38)) w.heap.size n (.slice A m c) := NdAt.new w n _
  have HB := Lib.hid ((Below.refl w.heap.size w).alloc (Nat.le_refl _) (.cells #[.int .i64 n.kind, .int .i64 n.num, .string n.text, .string n.ref.sh, .int .i64 n.ref.c, .int .i64 n.ref.r, .bool n.ref.ac, .bool n.ref.ar, .string n.to.sh, .int .i64 n.to.c, .int .i64 n.to.r, .bool n.to.ac, .bool n.to.ar, .slice A m c] 38))
  go_enter Tryz.func53, Tryz.ntmps53
  go_upto_region 1 with (fail)
  generalize w.alloc (.cells #[.int .i64 n.kind, .int .i64 n.num, .string n.text, .string n.ref.sh, .int .i64 n.ref.c, .int .i64 n.ref.r, .bool n.ref.ac, .bool n.ref.ar, .string n.to.sh, .int .i64 n.to.c, .int .i64 n.to.r, .bool n.to.ac, .bool n.to.ar, .slice A m c] 38) = w1 at hx HB ⊢
  obtain ⟨x0, x1, x2, x3, x4, x5, x6, x7, x8, x9, x10, x11, x12, x13⟩ := hx.cells
  clear hx
  obtain ⟨kd, hkd⟩ : ∃ kd, n.kind = kd := ⟨_, rfl⟩
  rw [hkd] at x0
  have HKD := Lib.hid hkd; clear hkd
  by_cases h7 : kd = 7
  · have e7 : (kd == 7) = true := beq_iff_eq.2 h7
    have HR := Lib.hid (show hkB kd m = true by unfold hkB; rw [if_pos h7])
    clear h7
    go_wp2_with fail
    go_ret
    exact ⟨by rw [HKD.out, HR.out] <;> rfl, HB.out⟩
  have e7 : (kd == 7) = false := beq_eq_false_iff_ne.2 h7
  by_cases h8 : kd = 8
  · have e8 : (kd == 8) = true := beq_iff_eq.2 h8
    have HR := Lib.hid (show hkB kd m = decide (m = 1) by unfold hkB; rw [if_neg h7, if_pos h8])
    clear h7 h8
    by_cases hm1 : m = 1
    · subst hm1
      go_wp2_with fail
      go_ret
      exact ⟨by rw [HKD.out, HR.out] <;> rfl, HB.out⟩
    · have em : ((m : Int) == 1) = false := by rw [beq_eq_false_iff_ne]; omega
      rw [decide_eq_false hm1] at HR
      go_wp2_with fail
      go_ret
      exact ⟨by rw [HKD.out, HR.out]; first | rfl | (simp; omega), HB.out⟩
  have e8 : (kd == 8) = false := beq_eq_false_iff_ne.2 h8
  cases ht : twoB kd
  · have HR := Lib.hid (show hkB kd m = decide (m = 0) by unfold hkB; rw [if_neg h7, if_neg h8, ht, if_neg (by decide)])
    have HT := isOfTwo_any kd
    rw [ht] at HT
    have HT := Lib.hid HT
    clear h7 h8 ht
    by_cases hm1 : m = 0
    · subst hm1
      go_wp2_with (go_at_call 94; ((with_reducible refine (HT.out _).mono ?_); rintro e w2 ⟨rfl, rfl⟩))
      go_ret
      exact ⟨by rw [HKD.out, HR.out] <;> rfl, HB.out⟩
    · have em : ((m : Int) == 0) = false := by rw [beq_eq_false_iff_ne]; omega
      rw [decide_eq_false hm1] at HR
      go_wp2_with (go_at_call 94; ((with_reducible refine (HT.out _).mono ?_); rintro e w2 ⟨rfl, rfl⟩))
      go_ret
      exact ⟨by rw [HKD.out, HR.out]; first | rfl | (simp; omega), HB.out⟩
  · have HR := Lib.hid (show hkB kd m = decide (m = 2) by unfold hkB; rw [if_neg h7, if_neg h8, ht, if_pos rfl])
    have HT := isOfTwo_any kd
    rw [ht] at HT
    have HT := Lib.hid HT
    clear h7 h8 ht
    by_cases hm1 : m = 2
    · subst hm1
      go_wp2_with (go_at_call 94; ((with_reducible refine (HT.out _).mono ?_); rintro e w2 ⟨rfl, rfl⟩))
      go_ret
      exact ⟨by rw [HKD.out, HR.out] <;> rfl, HB.out⟩
    · have em : ((m : Int) == 2) = false := by rw [beq_eq_false_iff_ne]; omega
      rw [decide_eq_false hm1] at HR
      go_wp2_with (go_at_call 94; ((with_reducible refine (HT.out _).mono ?_); rintro e w2 ⟨rfl, rfl⟩))
      go_ret
      exact ⟨by rw [HKD.out, HR.out]; first | rfl | (simp; omega), HB.out⟩
end Go.Proofs.YtdfpalocnijefaaGreatDoor

/-
  Layer 5, the program: a node's fields by its kind.
-/
namespace Go.Proofs.YtdfpalocnijefaaGreatDoor
open Go.RowKit

/-- The fields that a kind has. -/
def namedN (n : Nd) : Nd :=
  if n.kind = 1 then { Nd.zero with num := n.num } else if n.kind = 2 then { Nd.zero with text := n.text } else if n.kind = 3 then { Nd.zero with num := n.num }
  else if n.kind = 5 then { Nd.zero with ref := n.ref } else if n.kind = 6 then ⟨0, 0, ⟨#[]⟩, n.ref, n.to, []⟩ else if n.kind = 7 then { Nd.zero with text := n.text } else Nd.zero
/-- May they be? -/
def okF (n : Nd) : Bool :=
  if n.kind = 1 then decide (0 ≤ n.num) else if n.kind = 2 then printB (sb n.text) else if n.kind = 3 then decide (n.num = 0 ∨ n.num = 1)
  else if n.kind = 5 then mayRf n.ref else if n.kind = 6 then mayRf n.ref && (mayRf n.to && spanB n.ref n.to) else if n.kind = 7 then callB n.text else decide (n.kind = 4 ∨ n.kind = 8) || twoB n.kind
theorem res_fields : Tryz.f52.results = #[.cell 2 38, .tmp 3] := by kernel_rfl
theorem NdAt.load {w : World} {b : Nat} {n : Nd} {k : Value} (h : NdAt w b n k) : (loadVar 38 ⟨b, 0, none⟩).run Tryz.prog w = .ok (.agg (nodA n k)) w :=
  run_loadVar_row w b 38 38 _ _ _ h Tryz.underlying38 rfl nod_size
theorem out_nod {w : World} {b : Nat} {n : Nd} {k : Value} (h : NdAt w b n k) (fn : Func) (tmps : Array Value) (ok : Bool) (p u : Tmp) (hf : fn.results = #[.cell p 38, .tmp u]) (hp : tmps.getD p undef = .pointer (some ⟨b, 0, none⟩)) (hu : tmps.getD u undef = .bool ok) :
    (results fn tmps).run Tryz.prog w = .ok (.tuple #[.agg (nodA n k), .bool ok]) w := by
  rw [results_cell_tmp hf, hp, hu]
  simp [asAddr, h.load, Result.andThen]
abbrev zNod : Array Value := #[.int .i64 0, .int .i64 0, .string ⟨#[]⟩, .string ⟨#[]⟩, .int .i64 0, .int .i64 0, .bool false, .bool false, .string ⟨#[]⟩, .int .i64 0, .int .i64 0, .bool false, .bool false, .slice none 0 0]
theorem NdAt.drew {w : World} {b : Nat} {n : Nd} {k : Value} (h : NdAt w b n k) : NdAt w.drew b n k := h
theorem NdAt.frozen {w : World} {b : Nat} {n : Nd} {k : Value} (h : NdAt w b n k) (j : Nat) : w.frozen? ⟨b, j, none⟩ = false := frozen_of_row w b j _ _ h
/-- A row of fourteen cells, each stored anew. -/
theorem row14 (w : World) (b : Nat) (t : TypeId) (u0 u1 u2 u3 u4 u5 u6 u7 u8 u9 u10 u11 u12 u13 v0 v1 v2 v3 v4 v5 v6 v7 v8 v9 v10 v11 v12 v13 : Value) (h : w.heap[b]? = some (.cells #[u0, u1, u2, u3, u4, u5, u6, u7, u8, u9, u10, u11, u12, u13] t)) :
    ((((((((((((((w.setCell ⟨b, 0, none⟩ v0).setCell ⟨b, 1, none⟩ v1).setCell ⟨b, 2, none⟩ v2).setCell ⟨b, 3, none⟩ v3).setCell ⟨b, 4, none⟩ v4).setCell ⟨b, 5, none⟩ v5).setCell ⟨b, 6, none⟩ v6).setCell ⟨b, 7, none⟩ v7).setCell ⟨b, 8, none⟩ v8).setCell ⟨b, 9, none⟩ v9).setCell ⟨b, 10, none⟩ v10).setCell ⟨b, 11, none⟩ v11).setCell ⟨b, 12, none⟩ v12).setCell ⟨b, 13, none⟩ v13).heap[b]? = some (.cells #[v0, v1, v2, v3, v4, v5, v6, v7, v8, v9, v10, v11, v12, v13] t) := by
  have h0 : (w.setCell ⟨b, 0, none⟩ v0).heap[b]? = some (.cells #[v0, u1, u2, u3, u4, u5, u6, u7, u8, u9, u10, u11, u12, u13] t) := by rw [heap_setCell_same _ b 0 _ _ _ h]; rfl
  have h1 : ((w.setCell ⟨b, 0, none⟩ v0).setCell ⟨b, 1, none⟩ v1).heap[b]? = some (.cells #[v0, v1, u2, u3, u4, u5, u6, u7, u8, u9, u10, u11, u12, u13] t) := by rw [heap_setCell_same _ b 1 _ _ _ h0]; rfl
  have h2 : (((w.setCell ⟨b, 0, none⟩ v0).setCell ⟨b, 1, none⟩ v1).setCell ⟨b, 2, none⟩ v2).heap[b]? = some (.cells #[v0, v1, v2, u3, u4, u5, u6, u7, u8, u9, u10, u11, u12, u13] t) := by rw [heap_setCell_same _ b 2 _ _ _ h1]; rfl
  have h3 : ((((w.setCell ⟨b, 0, none⟩ v0).setCell ⟨b, 1, none⟩ v1).setCell ⟨b, 2, none⟩ v2).setCell ⟨b, 3, none⟩ v3).heap[b]? = some (.cells #[v0, v1, v2, v3, u4, u5, u6, u7, u8, u9, u10, u11, u12, u13] t) := by rw [heap_setCell_same _ b 3 _ _ _ h2]; rfl
  have h4 : (((((w.setCell ⟨b, 0, none⟩ v0).setCell ⟨b, 1, none⟩ v1).setCell ⟨b, 2, none⟩ v2).setCell ⟨b, 3, none⟩ v3).setCell ⟨b, 4, none⟩ v4).heap[b]? = some (.cells #[v0, v1, v2, v3, v4, u5, u6, u7, u8, u9, u10, u11, u12, u13] t) := by rw [heap_setCell_same _ b 4 _ _ _ h3]; rfl
  have h5 : ((((((w.setCell ⟨b, 0, none⟩ v0).setCell ⟨b, 1, none⟩ v1).setCell ⟨b, 2, none⟩ v2).setCell ⟨b, 3, none⟩ v3).setCell ⟨b, 4, none⟩ v4).setCell ⟨b, 5, none⟩ v5).heap[b]? = some (.cells #[v0, v1, v2, v3, v4, v5, u6, u7, u8, u9, u10, u11, u12, u13] t) := by rw [heap_setCell_same _ b 5 _ _ _ h4]; rfl
  have h6 : (((((((w.setCell ⟨b, 0, none⟩ v0).setCell ⟨b, 1, none⟩ v1).setCell ⟨b, 2, none⟩ v2).setCell ⟨b, 3, none⟩ v3).setCell ⟨b, 4, none⟩ v4).setCell ⟨b, 5, none⟩ v5).setCell ⟨b, 6, none⟩ v6).heap[b]? = some (.cells #[v0, v1, v2, v3, v4, v5, v6, u7, u8, u9, u10, u11, u12, u13] t) := by rw [heap_setCell_same _ b 6 _ _ _ h5]; rfl
  have h7 : ((((((((w.setCell ⟨b, 0, none⟩ v0).setCell ⟨b, 1, none⟩ v1).setCell ⟨b, 2, none⟩ v2).setCell ⟨b, 3, none⟩ v3).setCell ⟨b, 4, none⟩ v4).setCell ⟨b, 5, none⟩ v5).setCell ⟨b, 6, none⟩ v6).setCell ⟨b, 7, none⟩ v7).heap[b]? = some (.cells #[v0, v1, v2, v3, v4, v5, v6, v7, u8, u9, u10, u11, u12, u13] t) := by rw [heap_setCell_same _ b 7 _ _ _ h6]; rfl
  have h8 : (((((((((w.setCell ⟨b, 0, none⟩ v0).setCell ⟨b, 1, none⟩ v1).setCell ⟨b, 2, none⟩ v2).setCell ⟨b, 3, none⟩ v3).setCell ⟨b, 4, none⟩ v4).setCell ⟨b, 5, none⟩ v5).setCell ⟨b, 6, none⟩ v6).setCell ⟨b, 7, none⟩ v7).setCell ⟨b, 8, none⟩ v8).heap[b]? = some (.cells #[v0, v1, v2, v3, v4, v5, v6, v7, v8, u9, u10, u11, u12, u13] t) := by rw [heap_setCell_same _ b 8 _ _ _ h7]; rfl
  have h9 : ((((((((((w.setCell ⟨b, 0, none⟩ v0).setCell ⟨b, 1, none⟩ v1).setCell ⟨b, 2, none⟩ v2).setCell ⟨b, 3, none⟩ v3).setCell ⟨b, 4, none⟩ v4).setCell ⟨b, 5, none⟩ v5).setCell ⟨b, 6, none⟩ v6).setCell ⟨b, 7, none⟩ v7).setCell ⟨b, 8, none⟩ v8).setCell ⟨b, 9, none⟩ v9).heap[b]? = some (.cells #[v0, v1, v2, v3, v4, v5, v6, v7, v8, v9, u10, u11, u12, u13] t) := by rw [heap_setCell_same _ b 9 _ _ _ h8]; rfl
  have h10 : (((((((((((w.setCell ⟨b, 0, none⟩ v0).setCell ⟨b, 1, none⟩ v1).setCell ⟨b, 2, none⟩ v2).setCell ⟨b, 3, none⟩ v3).setCell ⟨b, 4, none⟩ v4).setCell ⟨b, 5, none⟩ v5).setCell ⟨b, 6, none⟩ v6).setCell ⟨b, 7, none⟩ v7).setCell ⟨b, 8, none⟩ v8).setCell ⟨b, 9, none⟩ v9).setCell ⟨b, 10, none⟩ v10).heap[b]? = some (.cells #[v0, v1, v2, v3, v4, v5, v6, v7, v8, v9, v10, u11, u12, u13] t) := by rw [heap_setCell_same _ b 10 _ _ _ h9]; rfl
  have h11 : ((((((((((((w.setCell ⟨b, 0, none⟩ v0).setCell ⟨b, 1, none⟩ v1).setCell ⟨b, 2, none⟩ v2).setCell ⟨b, 3, none⟩ v3).setCell ⟨b, 4, none⟩ v4).setCell ⟨b, 5, none⟩ v5).setCell ⟨b, 6, none⟩ v6).setCell ⟨b, 7, none⟩ v7).setCell ⟨b, 8, none⟩ v8).setCell ⟨b, 9, none⟩ v9).setCell ⟨b, 10, none⟩ v10).setCell ⟨b, 11, none⟩ v11).heap[b]? = some (.cells #[v0, v1, v2, v3, v4, v5, v6, v7, v8, v9, v10, v11, u12, u13] t) := by rw [heap_setCell_same _ b 11 _ _ _ h10]; rfl
  have h12 : (((((((((((((w.setCell ⟨b, 0, none⟩ v0).setCell ⟨b, 1, none⟩ v1).setCell ⟨b, 2, none⟩ v2).setCell ⟨b, 3, none⟩ v3).setCell ⟨b, 4, none⟩ v4).setCell ⟨b, 5, none⟩ v5).setCell ⟨b, 6, none⟩ v6).setCell ⟨b, 7, none⟩ v7).setCell ⟨b, 8, none⟩ v8).setCell ⟨b, 9, none⟩ v9).setCell ⟨b, 10, none⟩ v10).setCell ⟨b, 11, none⟩ v11).setCell ⟨b, 12, none⟩ v12).heap[b]? = some (.cells #[v0, v1, v2, v3, v4, v5, v6, v7, v8, v9, v10, v11, v12, u13] t) := by rw [heap_setCell_same _ b 12 _ _ _ h11]; rfl
  have h13 : ((((((((((((((w.setCell ⟨b, 0, none⟩ v0).setCell ⟨b, 1, none⟩ v1).setCell ⟨b, 2, none⟩ v2).setCell ⟨b, 3, none⟩ v3).setCell ⟨b, 4, none⟩ v4).setCell ⟨b, 5, none⟩ v5).setCell ⟨b, 6, none⟩ v6).setCell ⟨b, 7, none⟩ v7).setCell ⟨b, 8, none⟩ v8).setCell ⟨b, 9, none⟩ v9).setCell ⟨b, 10, none⟩ v10).setCell ⟨b, 11, none⟩ v11).setCell ⟨b, 12, none⟩ v12).setCell ⟨b, 13, none⟩ v13).heap[b]? = some (.cells #[v0, v1, v2, v3, v4, v5, v6, v7, v8, v9, v10, v11, v12, v13] t) := by rw [heap_setCell_same _ b 13 _ _ _ h12]; rfl
  exact h13
theorem NdAt.put14 {w : World} {b : Nat} {n0 : Nd} {k0 : Value} (h : NdAt w b n0 k0) (n : Nd) (k : Value) : NdAt ((((((((((((((w.setCell ⟨b, 0, none⟩ (.int .i64 n.kind)).setCell ⟨b, 1, none⟩ (.int .i64 n.num)).setCell ⟨b, 2, none⟩ (.string n.text)).setCell ⟨b, 3, none⟩ (.string n.ref.sh)).setCell ⟨b, 4, none⟩ (.int .i64 n.ref.c)).setCell ⟨b, 5, none⟩ (.int .i64 n.ref.r)).setCell ⟨b, 6, none⟩ (.bool n.ref.ac)).setCell ⟨b, 7, none⟩ (.bool n.ref.ar)).setCell ⟨b, 8, none⟩ (.string n.to.sh)).setCell ⟨b, 9, none⟩ (.int .i64 n.to.c)).setCell ⟨b, 10, none⟩ (.int .i64 n.to.r)).setCell ⟨b, 11, none⟩ (.bool n.to.ac)).setCell ⟨b, 12, none⟩ (.bool n.to.ar)).setCell ⟨b, 13, none⟩ (k)) b n k := row14 w b _ _ _ _ _ _ _ _ _ _ _ _ _ _ _ _ _ _ _ _ _ _ _ _ _ _ _ _ _ h
theorem below_set14 {B : Nat} {a w : World} {b : Nat} (h : Below B a w) (hb : B ≤ b) (v0 v1 v2 v3 v4 v5 v6 v7 v8 v9 v10 v11 v12 v13 : Value) : Below B a ((((((((((((((w.setCell ⟨b, 0, none⟩ v0).setCell ⟨b, 1, none⟩ v1).setCell ⟨b, 2, none⟩ v2).setCell ⟨b, 3, none⟩ v3).setCell ⟨b, 4, none⟩ v4).setCell ⟨b, 5, none⟩ v5).setCell ⟨b, 6, none⟩ v6).setCell ⟨b, 7, none⟩ v7).setCell ⟨b, 8, none⟩ v8).setCell ⟨b, 9, none⟩ v9).setCell ⟨b, 10, none⟩ v10).setCell ⟨b, 11, none⟩ v11).setCell ⟨b, 12, none⟩ v12).setCell ⟨b, 13, none⟩ v13) :=
  ((((((((((((((h.setCell hb _).setCell hb _).setCell hb _).setCell hb _).setCell hb _).setCell hb _).setCell hb _).setCell hb _).setCell hb _).setCell hb _).setCell hb _).setCell hb _).setCell hb _).setCell hb _)
set_option maxRecDepth 100000 in
set_option maxHeartbeats 1600000 in
theorem fields_1 (n : Nd) (h1 : n.kind = 1) (A : Option Addr) (m c : Nat) (w : World) : Calls Tryz.prog 52 #[.agg #[.int .i64 n.kind, .int .i64 n.num, .string n.text, .string n.ref.sh, .int .i64 n.ref.c, .int .i64 n.ref.r, .bool n.ref.ac, .bool n.ref.ar, .string n.to.sh, .int .i64 n.to.c, .int .i64 n.to.r, .bool n.to.ac, .bool n.to.ar, .slice A m c]] w fun e w' => e = .returned (.tuple #[.agg (nodA { Nd.zero with num := n.num } (.slice none 0 0)), .bool (decide (0 ≤ n.num))]) ∧ Below w.heap.size w w' := by
  have hsz : (w.alloc (.cells #[.int .i64 n.kind, .int .i64 n.num, .string n.text, .string n.ref.sh, .int .i64 n.ref.c, .int .i64 n.ref.r, .bool n.ref.ac, .bool n.ref.ar, .string n.to.sh, .int .i64 n.to.c, .int .i64 n.to.r, .bool n.to.ac, .bool n.to.ar, .slice A m c] 38)).heap.size = w.heap.size + 1 := by simp
  have hx : NdAt (w.alloc (.cells #[.int .i64 n.kind, .int .i64 n.num, .string n.text, .string n.ref.sh, .int .i64 n.ref.c, .int .i64 n.ref.r, .bool n.ref.ac, .bool n.ref.ar, .string n.to.sh, .int .i64 n.to.c, .int .i64 n.to.r, .bool n.to.ac, .bool n.to.ar, .slice A m c] 38)) w.heap.size n (.slice A m c) := NdAt.new w n _
  have hy : NdAt ((w.alloc (.cells #[.int .i64 n.kind, .int .i64 n.num, .string n.text, .string n.ref.sh, .int .i64 n.ref.c, .int .i64 n.ref.r, .bool n.ref.ac, .bool n.ref.ar, .string n.to.sh, .int .i64 n.to.c, .int .i64 n.to.r, .bool n.to.ac, .bool n.to.ar, .slice A m c] 38)).alloc (.cells zNod 38)) (w.heap.size + 1) Nd.zero (.slice none 0 0) := by rw [← hsz]; exact NdAt.new _ Nd.zero _
  have hx2 := hx.below ((Below.refl _ _).alloc (Nat.le_refl _) (.cells zNod 38)) hx.lt
  have HB := Lib.hid (((Below.refl w.heap.size w).alloc (Nat.le_refl _) (.cells #[.int .i64 n.kind, .int .i64 n.num, .string n.text, .string n.ref.sh, .int .i64 n.ref.c, .int .i64 n.ref.r, .bool n.ref.ac, .bool n.ref.ar, .string n.to.sh, .int .i64 n.to.c, .int .i64 n.to.r, .bool n.to.ac, .bool n.to.ar, .slice A m c] 38)).alloc (by simp) (.cells zNod 38))
  have e1 : (n.kind == 1) = true := beq_iff_eq.2 h1
  clear h1
  go_enter Tryz.func52, Tryz.ntmps52
  go_upto_region 3 with (fail)
  generalize (w.alloc (.cells #[.int .i64 n.kind, .int .i64 n.num, .string n.text, .string n.ref.sh, .int .i64 n.ref.c, .int .i64 n.ref.r, .bool n.ref.ac, .bool n.ref.ar, .string n.to.sh, .int .i64 n.to.c, .int .i64 n.to.r, .bool n.to.ac, .bool n.to.ar, .slice A m c] 38)).alloc (.cells zNod 38) = w1 at hx2 hy HB ⊢
  obtain ⟨x0, x1, x2, x3, x4, x5, x6, x7, x8, x9, x10, x11, x12, x13⟩ := hx2.cells
  obtain ⟨y0, y1, y2, y3, y4, y5, y6, y7, y8, y9, y10, y11, y12, y13⟩ := hy.cells
  have f0 := hy.frozen 0
  have f1 := hy.frozen 1
  have f2 := hy.frozen 2
  have f3 := hy.frozen 3
  have f4 := hy.frozen 4
  have f5 := hy.frozen 5
  have f6 := hy.frozen 6
  have f7 := hy.frozen 7
  have f8 := hy.frozen 8
  have f9 := hy.frozen 9
  have f10 := hy.frozen 10
  have f11 := hy.frozen 11
  have f12 := hy.frozen 12
  have f13 := hy.frozen 13
  have HY := Lib.hid hy
  clear hx hx2 hy
  go_region
  all_goals go_wp2_with fail
  all_goals exact bodyPost_ret (out_nod (HY.out.put14 { Nd.zero with num := n.num } (.slice none 0 0)).drew _ _ _ 2 3 res_fields rfl rfl) rfl ⟨rfl, (below_set14 HB.out (by omega) _ _ _ _ _ _ _ _ _ _ _ _ _ _).drew⟩
end Go.Proofs.YtdfpalocnijefaaGreatDoor

/-
  Layer 5, the program: a node's fields by its kind, all kinds.
-/
namespace Go.Proofs.YtdfpalocnijefaaGreatDoor
open Go.RowKit

theorem NdAt.melts {w : World} {b : Nat} {n : Nd} {k : Value} (h : NdAt w b n k) : w.frozen? ⟨b, 0, none⟩ = false ∧ w.frozen? ⟨b, 1, none⟩ = false ∧ w.frozen? ⟨b, 2, none⟩ = false ∧ w.frozen? ⟨b, 3, none⟩ = false ∧ w.frozen? ⟨b, 4, none⟩ = false ∧ w.frozen? ⟨b, 5, none⟩ = false ∧ w.frozen? ⟨b, 6, none⟩ = false ∧ w.frozen? ⟨b, 7, none⟩ = false ∧ w.frozen? ⟨b, 8, none⟩ = false ∧ w.frozen? ⟨b, 9, none⟩ = false ∧ w.frozen? ⟨b, 10, none⟩ = false ∧ w.frozen? ⟨b, 11, none⟩ = false ∧ w.frozen? ⟨b, 12, none⟩ = false ∧ w.frozen? ⟨b, 13, none⟩ = false :=
  ⟨h.frozen 0, h.frozen 1, h.frozen 2, h.frozen 3, h.frozen 4, h.frozen 5, h.frozen 6, h.frozen 7, h.frozen 8, h.frozen 9, h.frozen 10, h.frozen 11, h.frozen 12, h.frozen 13⟩

theorem NdAt.setOther {w : World} {b g : Nat} {n : Nd} {k : Value} (h : NdAt w b n k) (hg : b ≠ g) (o : Nat) (v : Value) : NdAt (w.setCell ⟨g, o, none⟩ v) b n k := by
  unfold NdAt; rw [Below.heap_setCell _ _ _ _ (by exact hg)]; exact h
theorem NdAt.other14 {w : World} {b g : Nat} {n : Nd} {k : Value} (h : NdAt w b n k) (hg : b ≠ g) (v0 v1 v2 v3 v4 v5 v6 v7 v8 v9 v10 v11 v12 v13 : Value) : NdAt ((((((((((((((w.setCell ⟨g, 0, none⟩ v0).setCell ⟨g, 1, none⟩ v1).setCell ⟨g, 2, none⟩ v2).setCell ⟨g, 3, none⟩ v3).setCell ⟨g, 4, none⟩ v4).setCell ⟨g, 5, none⟩ v5).setCell ⟨g, 6, none⟩ v6).setCell ⟨g, 7, none⟩ v7).setCell ⟨g, 8, none⟩ v8).setCell ⟨g, 9, none⟩ v9).setCell ⟨g, 10, none⟩ v10).setCell ⟨g, 11, none⟩ v11).setCell ⟨g, 12, none⟩ v12).setCell ⟨g, 13, none⟩ v13) b n k :=
  (NdAt.setOther (NdAt.setOther (NdAt.setOther (NdAt.setOther (NdAt.setOther (NdAt.setOther (NdAt.setOther (NdAt.setOther (NdAt.setOther (NdAt.setOther (NdAt.setOther (NdAt.setOther (NdAt.setOther (NdAt.setOther h hg _ _) hg _ _) hg _ _) hg _ _) hg _ _) hg _ _) hg _ _) hg _ _) hg _ _) hg _ _) hg _ _) hg _ _) hg _ _) hg _ _)

set_option maxRecDepth 100000 in
set_option maxHeartbeats 4000000 in
theorem fields_2 (w : World) (n : Nd) (h2 : n.kind = 2) (hs : n.text.size ≤ 1000000) (A : Option Addr) (m c : Nat) : Calls Tryz.prog 52 #[.agg #[.int .i64 n.kind, .int .i64 n.num, .string n.text, .string n.ref.sh, .int .i64 n.ref.c, .int .i64 n.ref.r, .bool n.ref.ac, .bool n.ref.ar, .string n.to.sh, .int .i64 n.to.c, .int .i64 n.to.r, .bool n.to.ac, .bool n.to.ar, .slice A m c]] w fun e w' => e = .returned (.tuple #[.agg (nodA { Nd.zero with text := n.text } (.slice none 0 0)), .bool (printB (sb n.text))]) ∧ Below w.heap.size w w' := by
  have hsz : (w.alloc (.cells #[.int .i64 n.kind, .int .i64 n.num, .string n.text, .string n.ref.sh, .int .i64 n.ref.c, .int .i64 n.ref.r, .bool n.ref.ac, .bool n.ref.ar, .string n.to.sh, .int .i64 n.to.c, .int .i64 n.to.r, .bool n.to.ac, .bool n.to.ar, .slice A m c] 38)).heap.size = w.heap.size + 1 := by simp
  have hx : NdAt (w.alloc (.cells #[.int .i64 n.kind, .int .i64 n.num, .string n.text, .string n.ref.sh, .int .i64 n.ref.c, .int .i64 n.ref.r, .bool n.ref.ac, .bool n.ref.ar, .string n.to.sh, .int .i64 n.to.c, .int .i64 n.to.r, .bool n.to.ac, .bool n.to.ar, .slice A m c] 38)) w.heap.size n (.slice A m c) := NdAt.new w n _
  have hy : NdAt ((w.alloc (.cells #[.int .i64 n.kind, .int .i64 n.num, .string n.text, .string n.ref.sh, .int .i64 n.ref.c, .int .i64 n.ref.r, .bool n.ref.ac, .bool n.ref.ar, .string n.to.sh, .int .i64 n.to.c, .int .i64 n.to.r, .bool n.to.ac, .bool n.to.ar, .slice A m c] 38)).alloc (.cells zNod 38)) (w.heap.size + 1) Nd.zero (.slice none 0 0) := by rw [← hsz]; exact NdAt.new _ Nd.zero _
  have hx2 := hx.below ((Below.refl _ _).alloc (Nat.le_refl _) (.cells zNod 38)) hx.lt
  have HB := Lib.hid (((Below.refl w.heap.size w).alloc (Nat.le_refl _) (.cells #[.int .i64 n.kind, .int .i64 n.num, .string n.text, .string n.ref.sh, .int .i64 n.ref.c, .int .i64 n.ref.r, .bool n.ref.ac, .bool n.ref.ar, .string n.to.sh, .int .i64 n.to.c, .int .i64 n.to.r, .bool n.to.ac, .bool n.to.ar, .slice A m c] 38)).alloc (by simp) (.cells zNod 38))
  have hb2 : w.heap.size + 1 < ((w.alloc (.cells #[.int .i64 n.kind, .int .i64 n.num, .string n.text, .string n.ref.sh, .int .i64 n.ref.c, .int .i64 n.ref.r, .bool n.ref.ac, .bool n.ref.ar, .string n.to.sh, .int .i64 n.to.c, .int .i64 n.to.r, .bool n.to.ac, .bool n.to.ar, .slice A m c] 38)).alloc (.cells zNod 38)).heap.size := hy.lt
  have e1 : (n.kind == 1) = false := by rw [h2]; rfl
  have e2 : (n.kind == 2) = true := beq_iff_eq.2 h2
  clear h2
  go_enter Tryz.func52, Tryz.ntmps52
  go_upto_region 5 with (fail)
  generalize (w.alloc (.cells #[.int .i64 n.kind, .int .i64 n.num, .string n.text, .string n.ref.sh, .int .i64 n.ref.c, .int .i64 n.ref.r, .bool n.ref.ac, .bool n.ref.ar, .string n.to.sh, .int .i64 n.to.c, .int .i64 n.to.r, .bool n.to.ac, .bool n.to.ar, .slice A m c] 38)).alloc (.cells zNod 38) = w1 at hx2 hy HB hb2 ⊢
  obtain ⟨x0, x1, x2, x3, x4, x5, x6, x7, x8, x9, x10, x11, x12, x13⟩ := hx2.cells
  obtain ⟨y0, y1, y2, y3, y4, y5, y6, y7, y8, y9, y10, y11, y12, y13⟩ := hy.cells
  obtain ⟨f0, f1, f2, f3, f4, f5, f6, f7, f8, f9, f10, f11, f12, f13⟩ := hy.melts
  have HY := Lib.hid hy
  have HX := Lib.hid hx2
  clear hx hx2 hy
  have HT := Lib.hid (fun w => isText_any n.text w hs)
  go_region_with (go_at_call 90; ((with_reducible refine (HT.out _).mono ?_); rintro e w2 ⟨rfl, rfl⟩))
  all_goals go_wp2_with fail
  all_goals exact bodyPost_ret (out_nod (HY.out.put14 { Nd.zero with text := n.text } (.slice none 0 0)).drew _ _ _ 2 3 res_fields rfl rfl) rfl ⟨rfl, (below_set14 HB.out (by have := HB.out.size; omega) _ _ _ _ _ _ _ _ _ _ _ _ _ _).drew⟩

set_option maxRecDepth 100000 in
set_option maxHeartbeats 4000000 in
theorem fields_3a (w : World) (n : Nd) (h3 : n.kind = 3) (h0 : n.num = 0) (A : Option Addr) (m c : Nat) : Calls Tryz.prog 52 #[.agg #[.int .i64 n.kind, .int .i64 n.num, .string n.text, .string n.ref.sh, .int .i64 n.ref.c, .int .i64 n.ref.r, .bool n.ref.ac, .bool n.ref.ar, .string n.to.sh, .int .i64 n.to.c, .int .i64 n.to.r, .bool n.to.ac, .bool n.to.ar, .slice A m c]] w fun e w' => e = .returned (.tuple #[.agg (nodA { Nd.zero with num := n.num } (.slice none 0 0)), .bool true]) ∧ Below w.heap.size w w' := by
  have hsz : (w.alloc (.cells #[.int .i64 n.kind, .int .i64 n.num, .string n.text, .string n.ref.sh, .int .i64 n.ref.c, .int .i64 n.ref.r, .bool n.ref.ac, .bool n.ref.ar, .string n.to.sh, .int .i64 n.to.c, .int .i64 n.to.r, .bool n.to.ac, .bool n.to.ar, .slice A m c] 38)).heap.size = w.heap.size + 1 := by simp
  have hx : NdAt (w.alloc (.cells #[.int .i64 n.kind, .int .i64 n.num, .string n.text, .string n.ref.sh, .int .i64 n.ref.c, .int .i64 n.ref.r, .bool n.ref.ac, .bool n.ref.ar, .string n.to.sh, .int .i64 n.to.c, .int .i64 n.to.r, .bool n.to.ac, .bool n.to.ar, .slice A m c] 38)) w.heap.size n (.slice A m c) := NdAt.new w n _
  have hy : NdAt ((w.alloc (.cells #[.int .i64 n.kind, .int .i64 n.num, .string n.text, .string n.ref.sh, .int .i64 n.ref.c, .int .i64 n.ref.r, .bool n.ref.ac, .bool n.ref.ar, .string n.to.sh, .int .i64 n.to.c, .int .i64 n.to.r, .bool n.to.ac, .bool n.to.ar, .slice A m c] 38)).alloc (.cells zNod 38)) (w.heap.size + 1) Nd.zero (.slice none 0 0) := by rw [← hsz]; exact NdAt.new _ Nd.zero _
  have hx2 := hx.below ((Below.refl _ _).alloc (Nat.le_refl _) (.cells zNod 38)) hx.lt
  have HB := Lib.hid (((Below.refl w.heap.size w).alloc (Nat.le_refl _) (.cells #[.int .i64 n.kind, .int .i64 n.num, .string n.text, .string n.ref.sh, .int .i64 n.ref.c, .int .i64 n.ref.r, .bool n.ref.ac, .bool n.ref.ar, .string n.to.sh, .int .i64 n.to.c, .int .i64 n.to.r, .bool n.to.ac, .bool n.to.ar, .slice A m c] 38)).alloc (by simp) (.cells zNod 38))
  have hb2 : w.heap.size + 1 < ((w.alloc (.cells #[.int .i64 n.kind, .int .i64 n.num, .string n.text, .string n.ref.sh, .int .i64 n.ref.c, .int .i64 n.ref.r, .bool n.ref.ac, .bool n.ref.ar, .string n.to.sh, .int .i64 n.to.c, .int .i64 n.to.r, .bool n.to.ac, .bool n.to.ar, .slice A m c] 38)).alloc (.cells zNod 38)).heap.size := hy.lt
  have e1 : (n.kind == 1) = false := by rw [h3]; rfl
  have e2 : (n.kind == 2) = false := by rw [h3]; rfl
  have e3 : (n.kind == 3) = true := beq_iff_eq.2 h3
  clear h3
  have q0 : (n.num == 0) = true := beq_iff_eq.2 h0
  clear h0
  go_enter Tryz.func52, Tryz.ntmps52
  go_upto_region 7 with (fail)
  generalize (w.alloc (.cells #[.int .i64 n.kind, .int .i64 n.num, .string n.text, .string n.ref.sh, .int .i64 n.ref.c, .int .i64 n.ref.r, .bool n.ref.ac, .bool n.ref.ar, .string n.to.sh, .int .i64 n.to.c, .int .i64 n.to.r, .bool n.to.ac, .bool n.to.ar, .slice A m c] 38)).alloc (.cells zNod 38) = w1 at hx2 hy HB hb2 ⊢
  obtain ⟨x0, x1, x2, x3, x4, x5, x6, x7, x8, x9, x10, x11, x12, x13⟩ := hx2.cells
  obtain ⟨y0, y1, y2, y3, y4, y5, y6, y7, y8, y9, y10, y11, y12, y13⟩ := hy.cells
  obtain ⟨f0, f1, f2, f3, f4, f5, f6, f7, f8, f9, f10, f11, f12, f13⟩ := hy.melts
  have HY := Lib.hid hy
  have HX := Lib.hid hx2
  clear hx hx2 hy
  go_region
  all_goals go_wp2_with fail
  all_goals exact bodyPost_ret (out_nod (HY.out.put14 { Nd.zero with num := n.num } (.slice none 0 0)).drew _ _ _ 2 3 res_fields rfl rfl) rfl ⟨rfl, (below_set14 HB.out (by have := HB.out.size; omega) _ _ _ _ _ _ _ _ _ _ _ _ _ _).drew⟩

set_option maxRecDepth 100000 in
set_option maxHeartbeats 4000000 in
theorem fields_3b (w : World) (n : Nd) (h3 : n.kind = 3) (h0 : n.num = 1) (A : Option Addr) (m c : Nat) : Calls Tryz.prog 52 #[.agg #[.int .i64 n.kind, .int .i64 n.num, .string n.text, .string n.ref.sh, .int .i64 n.ref.c, .int .i64 n.ref.r, .bool n.ref.ac, .bool n.ref.ar, .string n.to.sh, .int .i64 n.to.c, .int .i64 n.to.r, .bool n.to.ac, .bool n.to.ar, .slice A m c]] w fun e w' => e = .returned (.tuple #[.agg (nodA { Nd.zero with num := n.num } (.slice none 0 0)), .bool true]) ∧ Below w.heap.size w w' := by
  have hsz : (w.alloc (.cells #[.int .i64 n.kind, .int .i64 n.num, .string n.text, .string n.ref.sh, .int .i64 n.ref.c, .int .i64 n.ref.r, .bool n.ref.ac, .bool n.ref.ar, .string n.to.sh, .int .i64 n.to.c, .int .i64 n.to.r, .bool n.to.ac, .bool n.to.ar, .slice A m c] 38)).heap.size = w.heap.size + 1 := by simp
  have hx : NdAt (w.alloc (.cells #[.int .i64 n.kind, .int .i64 n.num, .string n.text, .string n.ref.sh, .int .i64 n.ref.c, .int .i64 n.ref.r, .bool n.ref.ac, .bool n.ref.ar, .string n.to.sh, .int .i64 n.to.c, .int .i64 n.to.r, .bool n.to.ac, .bool n.to.ar, .slice A m c] 38)) w.heap.size n (.slice A m c) := NdAt.new w n _
  have hy : NdAt ((w.alloc (.cells #[.int .i64 n.kind, .int .i64 n.num, .string n.text, .string n.ref.sh, .int .i64 n.ref.c, .int .i64 n.ref.r, .bool n.ref.ac, .bool n.ref.ar, .string n.to.sh, .int .i64 n.to.c, .int .i64 n.to.r, .bool n.to.ac, .bool n.to.ar, .slice A m c] 38)).alloc (.cells zNod 38)) (w.heap.size + 1) Nd.zero (.slice none 0 0) := by rw [← hsz]; exact NdAt.new _ Nd.zero _
  have hx2 := hx.below ((Below.refl _ _).alloc (Nat.le_refl _) (.cells zNod 38)) hx.lt
  have HB := Lib.hid (((Below.refl w.heap.size w).alloc (Nat.le_refl _) (.cells #[.int .i64 n.kind, .int .i64 n.num, .string n.text, .string n.ref.sh, .int .i64 n.ref.c, .int .i64 n.ref.r, .bool n.ref.ac, .bool n.ref.ar, .string n.to.sh, .int .i64 n.to.c, .int .i64 n.to.r, .bool n.to.ac, .bool n.to.ar, .slice A m c] 38)).alloc (by simp) (.cells zNod 38))
  have hb2 : w.heap.size + 1 < ((w.alloc (.cells #[.int .i64 n.kind, .int .i64 n.num, .string n.text, .string n.ref.sh, .int .i64 n.ref.c, .int .i64 n.ref.r, .bool n.ref.ac, .bool n.ref.ar, .string n.to.sh, .int .i64 n.to.c, .int .i64 n.to.r, .bool n.to.ac, .bool n.to.ar, .slice A m c] 38)).alloc (.cells zNod 38)).heap.size := hy.lt
  have e1 : (n.kind == 1) = false := by rw [h3]; rfl
  have e2 : (n.kind == 2) = false := by rw [h3]; rfl
  have e3 : (n.kind == 3) = true := beq_iff_eq.2 h3
  clear h3
  have q0 : (n.num == 0) = false := by rw [h0]; rfl
  have q1 : (n.num == 1) = true := beq_iff_eq.2 h0
  clear h0
  go_enter Tryz.func52, Tryz.ntmps52
  go_upto_region 7 with (fail)
  generalize (w.alloc (.cells #[.int .i64 n.kind, .int .i64 n.num, .string n.text, .string n.ref.sh, .int .i64 n.ref.c, .int .i64 n.ref.r, .bool n.ref.ac, .bool n.ref.ar, .string n.to.sh, .int .i64 n.to.c, .int .i64 n.to.r, .bool n.to.ac, .bool n.to.ar, .slice A m c] 38)).alloc (.cells zNod 38) = w1 at hx2 hy HB hb2 ⊢
  obtain ⟨x0, x1, x2, x3, x4, x5, x6, x7, x8, x9, x10, x11, x12, x13⟩ := hx2.cells
  obtain ⟨y0, y1, y2, y3, y4, y5, y6, y7, y8, y9, y10, y11, y12, y13⟩ := hy.cells
  obtain ⟨f0, f1, f2, f3, f4, f5, f6, f7, f8, f9, f10, f11, f12, f13⟩ := hy.melts
  have HY := Lib.hid hy
  have HX := Lib.hid hx2
  clear hx hx2 hy
  go_region
  all_goals go_wp2_with fail
  all_goals exact bodyPost_ret (out_nod (HY.out.put14 { Nd.zero with num := n.num } (.slice none 0 0)).drew _ _ _ 2 3 res_fields rfl rfl) rfl ⟨rfl, (below_set14 HB.out (by have := HB.out.size; omega) _ _ _ _ _ _ _ _ _ _ _ _ _ _).drew⟩

set_option maxRecDepth 100000 in
set_option maxHeartbeats 4000000 in
theorem fields_3c (w : World) (n : Nd) (h3 : n.kind = 3) (h0 : ¬ (n.num = 0 ∨ n.num = 1)) (A : Option Addr) (m c : Nat) : Calls Tryz.prog 52 #[.agg #[.int .i64 n.kind, .int .i64 n.num, .string n.text, .string n.ref.sh, .int .i64 n.ref.c, .int .i64 n.ref.r, .bool n.ref.ac, .bool n.ref.ar, .string n.to.sh, .int .i64 n.to.c, .int .i64 n.to.r, .bool n.to.ac, .bool n.to.ar, .slice A m c]] w fun e w' => e = .returned (.tuple #[.agg (nodA { Nd.zero with num := n.num } (.slice none 0 0)), .bool false]) ∧ Below w.heap.size w w' := by
  have hsz : (w.alloc (.cells #[.int .i64 n.kind, .int .i64 n.num, .string n.text, .string n.ref.sh, .int .i64 n.ref.c, .int .i64 n.ref.r, .bool n.ref.ac, .bool n.ref.ar, .string n.to.sh, .int .i64 n.to.c, .int .i64 n.to.r, .bool n.to.ac, .bool n.to.ar, .slice A m c] 38)).heap.size = w.heap.size + 1 := by simp
  have hx : NdAt (w.alloc (.cells #[.int .i64 n.kind, .int .i64 n.num, .string n.text, .string n.ref.sh, .int .i64 n.ref.c, .int .i64 n.ref.r, .bool n.ref.ac, .bool n.ref.ar, .string n.to.sh, .int .i64 n.to.c, .int .i64 n.to.r, .bool n.to.ac, .bool n.to.ar, .slice A m c] 38)) w.heap.size n (.slice A m c) := NdAt.new w n _
  have hy : NdAt ((w.alloc (.cells #[.int .i64 n.kind, .int .i64 n.num, .string n.text, .string n.ref.sh, .int .i64 n.ref.c, .int .i64 n.ref.r, .bool n.ref.ac, .bool n.ref.ar, .string n.to.sh, .int .i64 n.to.c, .int .i64 n.to.r, .bool n.to.ac, .bool n.to.ar, .slice A m c] 38)).alloc (.cells zNod 38)) (w.heap.size + 1) Nd.zero (.slice none 0 0) := by rw [← hsz]; exact NdAt.new _ Nd.zero _
  have hx2 := hx.below ((Below.refl _ _).alloc (Nat.le_refl _) (.cells zNod 38)) hx.lt
  have HB := Lib.hid (((Below.refl w.heap.size w).alloc (Nat.le_refl _) (.cells #[.int .i64 n.kind, .int .i64 n.num, .string n.text, .string n.ref.sh, .int .i64 n.ref.c, .int .i64 n.ref.r, .bool n.ref.ac, .bool n.ref.ar, .string n.to.sh, .int .i64 n.to.c, .int .i64 n.to.r, .bool n.to.ac, .bool n.to.ar, .slice A m c] 38)).alloc (by simp) (.cells zNod 38))
  have hb2 : w.heap.size + 1 < ((w.alloc (.cells #[.int .i64 n.kind, .int .i64 n.num, .string n.text, .string n.ref.sh, .int .i64 n.ref.c, .int .i64 n.ref.r, .bool n.ref.ac, .bool n.ref.ar, .string n.to.sh, .int .i64 n.to.c, .int .i64 n.to.r, .bool n.to.ac, .bool n.to.ar, .slice A m c] 38)).alloc (.cells zNod 38)).heap.size := hy.lt
  have e1 : (n.kind == 1) = false := by rw [h3]; rfl
  have e2 : (n.kind == 2) = false := by rw [h3]; rfl
  have e3 : (n.kind == 3) = true := beq_iff_eq.2 h3
  clear h3
  have q0 : (n.num == 0) = false := by rw [beq_eq_false_iff_ne]; omega
  have q1 : (n.num == 1) = false := by rw [beq_eq_false_iff_ne]; omega
  clear h0
  go_enter Tryz.func52, Tryz.ntmps52
  go_upto_region 7 with (fail)
  generalize (w.alloc (.cells #[.int .i64 n.kind, .int .i64 n.num, .string n.text, .string n.ref.sh, .int .i64 n.ref.c, .int .i64 n.ref.r, .bool n.ref.ac, .bool n.ref.ar, .string n.to.sh, .int .i64 n.to.c, .int .i64 n.to.r, .bool n.to.ac, .bool n.to.ar, .slice A m c] 38)).alloc (.cells zNod 38) = w1 at hx2 hy HB hb2 ⊢
  obtain ⟨x0, x1, x2, x3, x4, x5, x6, x7, x8, x9, x10, x11, x12, x13⟩ := hx2.cells
  obtain ⟨y0, y1, y2, y3, y4, y5, y6, y7, y8, y9, y10, y11, y12, y13⟩ := hy.cells
  obtain ⟨f0, f1, f2, f3, f4, f5, f6, f7, f8, f9, f10, f11, f12, f13⟩ := hy.melts
  have HY := Lib.hid hy
  have HX := Lib.hid hx2
  clear hx hx2 hy
  go_region
  all_goals go_wp2_with fail
  all_goals exact bodyPost_ret (out_nod (HY.out.put14 { Nd.zero with num := n.num } (.slice none 0 0)).drew _ _ _ 2 3 res_fields rfl rfl) rfl ⟨rfl, (below_set14 HB.out (by have := HB.out.size; omega) _ _ _ _ _ _ _ _ _ _ _ _ _ _).drew⟩

set_option maxRecDepth 100000 in
set_option maxHeartbeats 4000000 in
theorem fields_5 (w : World) (n : Nd) (h5 : n.kind = 5) (hs : n.ref.sh.size ≤ 1000000) (A : Option Addr) (m c : Nat) : Calls Tryz.prog 52 #[.agg #[.int .i64 n.kind, .int .i64 n.num, .string n.text, .string n.ref.sh, .int .i64 n.ref.c, .int .i64 n.ref.r, .bool n.ref.ac, .bool n.ref.ar, .string n.to.sh, .int .i64 n.to.c, .int .i64 n.to.r, .bool n.to.ac, .bool n.to.ar, .slice A m c]] w fun e w' => e = .returned (.tuple #[.agg (nodA { Nd.zero with ref := n.ref } (.slice none 0 0)), .bool (mayRf n.ref)]) ∧ Below w.heap.size w w' := by
  have hsz : (w.alloc (.cells #[.int .i64 n.kind, .int .i64 n.num, .string n.text, .string n.ref.sh, .int .i64 n.ref.c, .int .i64 n.ref.r, .bool n.ref.ac, .bool n.ref.ar, .string n.to.sh, .int .i64 n.to.c, .int .i64 n.to.r, .bool n.to.ac, .bool n.to.ar, .slice A m c] 38)).heap.size = w.heap.size + 1 := by simp
  have hx : NdAt (w.alloc (.cells #[.int .i64 n.kind, .int .i64 n.num, .string n.text, .string n.ref.sh, .int .i64 n.ref.c, .int .i64 n.ref.r, .bool n.ref.ac, .bool n.ref.ar, .string n.to.sh, .int .i64 n.to.c, .int .i64 n.to.r, .bool n.to.ac, .bool n.to.ar, .slice A m c] 38)) w.heap.size n (.slice A m c) := NdAt.new w n _
  have hy : NdAt ((w.alloc (.cells #[.int .i64 n.kind, .int .i64 n.num, .string n.text, .string n.ref.sh, .int .i64 n.ref.c, .int .i64 n.ref.r, .bool n.ref.ac, .bool n.ref.ar, .string n.to.sh, .int .i64 n.to.c, .int .i64 n.to.r, .bool n.to.ac, .bool n.to.ar, .slice A m c] 38)).alloc (.cells zNod 38)) (w.heap.size + 1) Nd.zero (.slice none 0 0) := by rw [← hsz]; exact NdAt.new _ Nd.zero _
  have hx2 := hx.below ((Below.refl _ _).alloc (Nat.le_refl _) (.cells zNod 38)) hx.lt
  have HB := Lib.hid (((Below.refl w.heap.size w).alloc (Nat.le_refl _) (.cells #[.int .i64 n.kind, .int .i64 n.num, .string n.text, .string n.ref.sh, .int .i64 n.ref.c, .int .i64 n.ref.r, .bool n.ref.ac, .bool n.ref.ar, .string n.to.sh, .int .i64 n.to.c, .int .i64 n.to.r, .bool n.to.ac, .bool n.to.ar, .slice A m c] 38)).alloc (by simp) (.cells zNod 38))
  have hb2 : w.heap.size + 1 < ((w.alloc (.cells #[.int .i64 n.kind, .int .i64 n.num, .string n.text, .string n.ref.sh, .int .i64 n.ref.c, .int .i64 n.ref.r, .bool n.ref.ac, .bool n.ref.ar, .string n.to.sh, .int .i64 n.to.c, .int .i64 n.to.r, .bool n.to.ac, .bool n.to.ar, .slice A m c] 38)).alloc (.cells zNod 38)).heap.size := hy.lt
  have e1 : (n.kind == 1) = false := by rw [h5]; rfl
  have e2 : (n.kind == 2) = false := by rw [h5]; rfl
  have e3 : (n.kind == 3) = false := by rw [h5]; rfl
  have e5 : (n.kind == 5) = true := beq_iff_eq.2 h5
  clear h5
  go_enter Tryz.func52, Tryz.ntmps52
  go_upto_region 9 with (fail)
  generalize (w.alloc (.cells #[.int .i64 n.kind, .int .i64 n.num, .string n.text, .string n.ref.sh, .int .i64 n.ref.c, .int .i64 n.ref.r, .bool n.ref.ac, .bool n.ref.ar, .string n.to.sh, .int .i64 n.to.c, .int .i64 n.to.r, .bool n.to.ac, .bool n.to.ar, .slice A m c] 38)).alloc (.cells zNod 38) = w1 at hx2 hy HB hb2 ⊢
  obtain ⟨x0, x1, x2, x3, x4, x5, x6, x7, x8, x9, x10, x11, x12, x13⟩ := hx2.cells
  obtain ⟨y0, y1, y2, y3, y4, y5, y6, y7, y8, y9, y10, y11, y12, y13⟩ := hy.cells
  obtain ⟨f0, f1, f2, f3, f4, f5, f6, f7, f8, f9, f10, f11, f12, f13⟩ := hy.melts
  have HY := Lib.hid hy
  have HX := Lib.hid hx2
  clear hx hx2 hy
  have HT := Lib.hid (fun w => may_any n.ref.sh n.ref.c n.ref.r n.ref.ac n.ref.ar w hs)
  go_region_held3 (fun w' => w'.cell? ⟨w.heap.size, 3, none⟩ = some (.string n.ref.sh) ∧ w'.cell? ⟨w.heap.size, 4, none⟩ = some (.int .i64 n.ref.c) ∧ w'.cell? ⟨w.heap.size, 5, none⟩ = some (.int .i64 n.ref.r) ∧ w'.cell? ⟨w.heap.size, 6, none⟩ = some (.bool n.ref.ac) ∧ w'.cell? ⟨w.heap.size, 7, none⟩ = some (.bool n.ref.ar)) (go_keep) (first | (go_at_call 91; ((with_reducible refine (HT.out _).mono ?_); rintro e w2 ⟨rfl, h1⟩; have HY2 := Lib.hid (HY.out.drew.below h1 HY.out.lt); have HX2 := Lib.hid (HX.out.drew.below h1 HX.out.lt); have HB2 := Lib.hid (HB.out.drew.trans (h1.mono HB.out.size)); obtain ⟨z0, z1, z2, z3, z4, z5, z6, z7, z8, z9, z10, z11, z12, z13⟩ := HY2.out.cells; obtain ⟨g0, g1, g2, g3, g4, g5, g6, g7, g8, g9, g10, g11, g12, g13⟩ := HY2.out.melts; obtain ⟨t0, t1, t2, t3, t4, t5, t6, t7, t8, t9, t10, t11, t12, t13⟩ := HX2.out.cells; clear h1)))
  all_goals go_wp2_with fail
  all_goals exact bodyPost_ret (out_nod (HY2.out.put14 { Nd.zero with ref := n.ref } (.slice none 0 0)) _ _ _ 2 3 res_fields rfl rfl) rfl ⟨rfl, below_set14 HB2.out (by have := HB.out.size; omega) _ _ _ _ _ _ _ _ _ _ _ _ _ _⟩

set_option maxRecDepth 100000 in
set_option maxHeartbeats 4000000 in
theorem fields_7 (w : World) (n : Nd) (h7 : n.kind = 7) (hv : Vars w) (A : Option Addr) (m c : Nat) : Calls Tryz.prog 52 #[.agg #[.int .i64 n.kind, .int .i64 n.num, .string n.text, .string n.ref.sh, .int .i64 n.ref.c, .int .i64 n.ref.r, .bool n.ref.ac, .bool n.ref.ar, .string n.to.sh, .int .i64 n.to.c, .int .i64 n.to.r, .bool n.to.ac, .bool n.to.ar, .slice A m c]] w fun e w' => e = .returned (.tuple #[.agg (nodA { Nd.zero with text := n.text } (.slice none 0 0)), .bool (callB n.text)]) ∧ Below w.heap.size w w' := by
  have hsz : (w.alloc (.cells #[.int .i64 n.kind, .int .i64 n.num, .string n.text, .string n.ref.sh, .int .i64 n.ref.c, .int .i64 n.ref.r, .bool n.ref.ac, .bool n.ref.ar, .string n.to.sh, .int .i64 n.to.c, .int .i64 n.to.r, .bool n.to.ac, .bool n.to.ar, .slice A m c] 38)).heap.size = w.heap.size + 1 := by simp
  have hx : NdAt (w.alloc (.cells #[.int .i64 n.kind, .int .i64 n.num, .string n.text, .string n.ref.sh, .int .i64 n.ref.c, .int .i64 n.ref.r, .bool n.ref.ac, .bool n.ref.ar, .string n.to.sh, .int .i64 n.to.c, .int .i64 n.to.r, .bool n.to.ac, .bool n.to.ar, .slice A m c] 38)) w.heap.size n (.slice A m c) := NdAt.new w n _
  have hy : NdAt ((w.alloc (.cells #[.int .i64 n.kind, .int .i64 n.num, .string n.text, .string n.ref.sh, .int .i64 n.ref.c, .int .i64 n.ref.r, .bool n.ref.ac, .bool n.ref.ar, .string n.to.sh, .int .i64 n.to.c, .int .i64 n.to.r, .bool n.to.ac, .bool n.to.ar, .slice A m c] 38)).alloc (.cells zNod 38)) (w.heap.size + 1) Nd.zero (.slice none 0 0) := by rw [← hsz]; exact NdAt.new _ Nd.zero _
  have hx2 := hx.below ((Below.refl _ _).alloc (Nat.le_refl _) (.cells zNod 38)) hx.lt
  have HB := Lib.hid (((Below.refl w.heap.size w).alloc (Nat.le_refl _) (.cells #[.int .i64 n.kind, .int .i64 n.num, .string n.text, .string n.ref.sh, .int .i64 n.ref.c, .int .i64 n.ref.r, .bool n.ref.ac, .bool n.ref.ar, .string n.to.sh, .int .i64 n.to.c, .int .i64 n.to.r, .bool n.to.ac, .bool n.to.ar, .slice A m c] 38)).alloc (by simp) (.cells zNod 38))
  have hb2 : w.heap.size + 1 < ((w.alloc (.cells #[.int .i64 n.kind, .int .i64 n.num, .string n.text, .string n.ref.sh, .int .i64 n.ref.c, .int .i64 n.ref.r, .bool n.ref.ac, .bool n.ref.ar, .string n.to.sh, .int .i64 n.to.c, .int .i64 n.to.r, .bool n.to.ac, .bool n.to.ar, .slice A m c] 38)).alloc (.cells zNod 38)).heap.size := hy.lt
  have e1 : (n.kind == 1) = false := by rw [h7]; rfl
  have e2 : (n.kind == 2) = false := by rw [h7]; rfl
  have e3 : (n.kind == 3) = false := by rw [h7]; rfl
  have e5 : (n.kind == 5) = false := by rw [h7]; rfl
  have e6 : (n.kind == 6) = false := by rw [h7]; rfl
  have e7 : (n.kind == 7) = true := beq_iff_eq.2 h7
  clear h7
  have HVV := Lib.hid hv; clear hv
  go_enter Tryz.func52, Tryz.ntmps52
  go_upto_region 13 with (fail)
  generalize (w.alloc (.cells #[.int .i64 n.kind, .int .i64 n.num, .string n.text, .string n.ref.sh, .int .i64 n.ref.c, .int .i64 n.ref.r, .bool n.ref.ac, .bool n.ref.ar, .string n.to.sh, .int .i64 n.to.c, .int .i64 n.to.r, .bool n.to.ac, .bool n.to.ar, .slice A m c] 38)).alloc (.cells zNod 38) = w1 at hx2 hy HB hb2 ⊢
  obtain ⟨x0, x1, x2, x3, x4, x5, x6, x7, x8, x9, x10, x11, x12, x13⟩ := hx2.cells
  obtain ⟨y0, y1, y2, y3, y4, y5, y6, y7, y8, y9, y10, y11, y12, y13⟩ := hy.cells
  obtain ⟨f0, f1, f2, f3, f4, f5, f6, f7, f8, f9, f10, f11, f12, f13⟩ := hy.melts
  have HY := Lib.hid hy
  have HX := Lib.hid hx2
  clear hx hx2 hy
  have HT := Lib.hid (fun wr (hb : Below w.heap.size w wr) => isName5_any n.text wr (HVV.out.below hb))
  go_region_held3 (fun w' => w'.cell? ⟨w.heap.size, 2, none⟩ = some (.string n.text)) (go_keep) (first | (go_at_call 93; ((with_reducible refine (HT.out _ HB.out.drew).mono ?_); rintro e w2 ⟨rfl, h1⟩; have HY2 := Lib.hid (HY.out.drew.below h1 HY.out.lt); have HX2 := Lib.hid (HX.out.drew.below h1 HX.out.lt); have HB2 := Lib.hid (HB.out.drew.trans (h1.mono HB.out.size)); clear h1; obtain ⟨z0, z1, z2, z3, z4, z5, z6, z7, z8, z9, z10, z11, z12, z13⟩ := HY2.out.cells; obtain ⟨g0, g1, g2, g3, g4, g5, g6, g7, g8, g9, g10, g11, g12, g13⟩ := HY2.out.melts; obtain ⟨t0, t1, t2, t3, t4, t5, t6, t7, t8, t9, t10, t11, t12, t13⟩ := HX2.out.cells)))
  all_goals go_wp2_with fail
  all_goals exact bodyPost_ret (out_nod (HY2.out.put14 { Nd.zero with text := n.text } (.slice none 0 0)) _ _ _ 2 3 res_fields rfl rfl) rfl ⟨rfl, below_set14 HB2.out (by have := HB.out.size; omega) _ _ _ _ _ _ _ _ _ _ _ _ _ _⟩

set_option maxRecDepth 100000 in
set_option maxHeartbeats 4000000 in
theorem fields_6a (w : World) (n : Nd) (h6 : n.kind = 6) (hs : n.ref.sh.size ≤ 1000000) (_ht : n.to.sh.size ≤ 1000000) (q1 : mayRf n.ref = false) (A : Option Addr) (m c : Nat) : Calls Tryz.prog 52 #[.agg #[.int .i64 n.kind, .int .i64 n.num, .string n.text, .string n.ref.sh, .int .i64 n.ref.c, .int .i64 n.ref.r, .bool n.ref.ac, .bool n.ref.ar, .string n.to.sh, .int .i64 n.to.c, .int .i64 n.to.r, .bool n.to.ac, .bool n.to.ar, .slice A m c]] w fun e w' => e = .returned (.tuple #[.agg (nodA ⟨0, 0, ⟨#[]⟩, n.ref, n.to, []⟩ (.slice none 0 0)), .bool false]) ∧ Below w.heap.size w w' := by
  have hsz : (w.alloc (.cells #[.int .i64 n.kind, .int .i64 n.num, .string n.text, .string n.ref.sh, .int .i64 n.ref.c, .int .i64 n.ref.r, .bool n.ref.ac, .bool n.ref.ar, .string n.to.sh, .int .i64 n.to.c, .int .i64 n.to.r, .bool n.to.ac, .bool n.to.ar, .slice A m c] 38)).heap.size = w.heap.size + 1 := by simp
  have hx : NdAt (w.alloc (.cells #[.int .i64 n.kind, .int .i64 n.num, .string n.text, .string n.ref.sh, .int .i64 n.ref.c, .int .i64 n.ref.r, .bool n.ref.ac, .bool n.ref.ar, .string n.to.sh, .int .i64 n.to.c, .int .i64 n.to.r, .bool n.to.ac, .bool n.to.ar, .slice A m c] 38)) w.heap.size n (.slice A m c) := NdAt.new w n _
  have hy : NdAt ((w.alloc (.cells #[.int .i64 n.kind, .int .i64 n.num, .string n.text, .string n.ref.sh, .int .i64 n.ref.c, .int .i64 n.ref.r, .bool n.ref.ac, .bool n.ref.ar, .string n.to.sh, .int .i64 n.to.c, .int .i64 n.to.r, .bool n.to.ac, .bool n.to.ar, .slice A m c] 38)).alloc (.cells zNod 38)) (w.heap.size + 1) Nd.zero (.slice none 0 0) := by rw [← hsz]; exact NdAt.new _ Nd.zero _
  have hx2 := hx.below ((Below.refl _ _).alloc (Nat.le_refl _) (.cells zNod 38)) hx.lt
  have HB := Lib.hid (((Below.refl w.heap.size w).alloc (Nat.le_refl _) (.cells #[.int .i64 n.kind, .int .i64 n.num, .string n.text, .string n.ref.sh, .int .i64 n.ref.c, .int .i64 n.ref.r, .bool n.ref.ac, .bool n.ref.ar, .string n.to.sh, .int .i64 n.to.c, .int .i64 n.to.r, .bool n.to.ac, .bool n.to.ar, .slice A m c] 38)).alloc (by simp) (.cells zNod 38))
  have hb2 : w.heap.size + 1 < ((w.alloc (.cells #[.int .i64 n.kind, .int .i64 n.num, .string n.text, .string n.ref.sh, .int .i64 n.ref.c, .int .i64 n.ref.r, .bool n.ref.ac, .bool n.ref.ar, .string n.to.sh, .int .i64 n.to.c, .int .i64 n.to.r, .bool n.to.ac, .bool n.to.ar, .slice A m c] 38)).alloc (.cells zNod 38)).heap.size := hy.lt
  have e1 : (n.kind == 1) = false := by rw [h6]; rfl
  have e2 : (n.kind == 2) = false := by rw [h6]; rfl
  have e3 : (n.kind == 3) = false := by rw [h6]; rfl
  have e5 : (n.kind == 5) = false := by rw [h6]; rfl
  have e6 : (n.kind == 6) = true := beq_iff_eq.2 h6
  clear h6
  go_enter Tryz.func52, Tryz.ntmps52
  go_upto_region 11 with (fail)
  generalize (w.alloc (.cells #[.int .i64 n.kind, .int .i64 n.num, .string n.text, .string n.ref.sh, .int .i64 n.ref.c, .int .i64 n.ref.r, .bool n.ref.ac, .bool n.ref.ar, .string n.to.sh, .int .i64 n.to.c, .int .i64 n.to.r, .bool n.to.ac, .bool n.to.ar, .slice A m c] 38)).alloc (.cells zNod 38) = w1 at hx2 hy HB hb2 ⊢
  obtain ⟨x0, x1, x2, x3, x4, x5, x6, x7, x8, x9, x10, x11, x12, x13⟩ := hx2.cells
  obtain ⟨y0, y1, y2, y3, y4, y5, y6, y7, y8, y9, y10, y11, y12, y13⟩ := hy.cells
  obtain ⟨f0, f1, f2, f3, f4, f5, f6, f7, f8, f9, f10, f11, f12, f13⟩ := hy.melts
  have HY := Lib.hid hy
  have HX := Lib.hid hx2
  clear hx hx2 hy
  have HT1 := Lib.hid (show ∀ w, Calls Tryz.prog 91 #[.agg #[.string n.ref.sh, .int .i64 n.ref.c, .int .i64 n.ref.r, .bool n.ref.ac, .bool n.ref.ar]] w fun e w' => e = .returned (.bool false) ∧ Below w.heap.size w w' from fun w => by rw [← q1]; exact may_any n.ref.sh n.ref.c n.ref.r n.ref.ac n.ref.ar w hs)
  refine wp_region_held_drew (S := fun W => NdAt W w.heap.size n (.slice A m c)) (by kernel_rfl) HX.out.drew (fun _ => ?_)
  show wpAnyH _ _ _ _ _ 22 #[false, false, false, false, false, false, false, false, false, false, false, false, false, false, false, false, false, false, false, false, false, false] _ _
  refine held_take (i := 0) (d := some 45) (fuel := 21) (listed' := #[true, false, false, false, false, false, false, false, false, false, false, false, false, false, false, false, false, false, false, false, false, false]) (v := ?_) rfl rfl (by kernel_rfl) (by kernel_rfl) (by kernel_rfl) rfl (fun _ _ _ h => h) (by rfl) ?_ HX.out.drew ?_
  rotate_left
  · (intro wS hSw; go_simp; try (with_reducible rfl))
  simp only [Act.put, List.setIfInBounds_toArray, List.set_cons_zero, List.set_cons_succ]
  refine held_take (i := 1) (d := some 46) (fuel := 20) (listed' := #[true, true, false, false, false, false, false, false, false, false, false, false, false, false, false, false, false, false, false, false, false, false]) (v := ?_) rfl rfl (by kernel_rfl) (by kernel_rfl) (by kernel_rfl) rfl (fun _ _ _ h => h) (by rfl) ?_ HX.out.drew ?_
  rotate_left
  · (intro wS hSw; have hz := NdAt.cells hSw; go_simp; try (with_reducible rfl))
  simp only [Act.put, List.setIfInBounds_toArray, List.set_cons_zero, List.set_cons_succ]
  refine held_take (i := 2) (d := some 47) (fuel := 19) (listed' := #[true, true, true, false, false, false, false, false, false, false, false, false, false, false, false, false, false, false, false, false, false, false]) (v := ?_) rfl rfl (by kernel_rfl) (by kernel_rfl) (by kernel_rfl) rfl (fun _ _ _ h => h) (by rfl) ?_ HX.out.drew ?_
  rotate_left
  · (intro wS hSw; go_simp; try (with_reducible rfl))
  simp only [Act.put, List.setIfInBounds_toArray, List.set_cons_zero, List.set_cons_succ]
  refine held_take (i := 3) (d := some 48) (fuel := 18) (listed' := #[true, true, true, true, false, false, false, false, false, false, false, false, false, false, false, false, false, false, false, false, false, false]) (v := ?_) rfl rfl (by kernel_rfl) (by kernel_rfl) (by kernel_rfl) rfl (fun _ _ _ h => h) (by rfl) ?_ HX.out.drew ?_
  rotate_left
  · (intro wS hSw; have hz := NdAt.cells hSw; go_simp; try (with_reducible rfl))
  simp only [Act.put, List.setIfInBounds_toArray, List.set_cons_zero, List.set_cons_succ]
  refine held_take (i := 4) (d := some 49) (fuel := 17) (listed' := #[true, true, true, true, true, false, false, false, false, false, false, false, false, false, false, false, false, false, false, false, false, false]) (v := ?_) rfl rfl (by kernel_rfl) (by kernel_rfl) (by kernel_rfl) rfl (fun _ _ _ h => h) (by rfl) ?_ HX.out.drew ?_
  rotate_left
  · (intro wS hSw; go_simp; try (with_reducible rfl))
  simp only [Act.put, List.setIfInBounds_toArray, List.set_cons_zero, List.set_cons_succ]
  refine held_take (i := 5) (d := some 50) (fuel := 16) (listed' := #[true, true, true, true, true, true, false, false, false, false, false, false, false, false, false, false, false, false, false, false, false, false]) (v := ?_) rfl rfl (by kernel_rfl) (by kernel_rfl) (by kernel_rfl) rfl (fun _ _ _ h => h) (by rfl) ?_ HX.out.drew ?_
  rotate_left
  · (intro wS hSw; go_simp; try (with_reducible rfl))
  simp only [Act.put, List.setIfInBounds_toArray, List.set_cons_zero, List.set_cons_succ]
  refine held_take (i := 6) (d := some 51) (fuel := 15) (listed' := #[true, true, true, true, true, true, true, false, false, false, false, false, false, false, false, false, false, false, false, false, false, false]) (v := ?_) rfl rfl (by kernel_rfl) (by kernel_rfl) (by kernel_rfl) rfl (fun _ _ _ h => h) (by rfl) ?_ HX.out.drew ?_
  rotate_left
  · (intro wS hSw; have hz := NdAt.cells hSw; go_simp; try (with_reducible rfl))
  simp only [Act.put, List.setIfInBounds_toArray, List.set_cons_zero, List.set_cons_succ]
  refine held_one (i := 7) (d := some 52) (fuel := 14) (listed' := #[true, true, true, true, true, true, true, true, false, false, false, false, false, false, false, false, false, false, false, false, false, false]) rfl rfl (by kernel_rfl) rfl (by rfl) (fun K hK => ?_)
  go_simp
  refine (HT1.out _).mono ?_
  rintro e w2 ⟨rfl, h1⟩
  have HY2 := Lib.hid (HY.out.drew.below h1 HY.out.lt)
  have HX2 := Lib.hid (HX.out.drew.below h1 HX.out.lt)
  have HB2 := Lib.hid (HB.out.drew.trans (h1.mono HB.out.size))
  clear h1
  obtain ⟨z0, z1, z2, z3, z4, z5, z6, z7, z8, z9, z10, z11, z12, z13⟩ := HY2.out.cells
  obtain ⟨g0, g1, g2, g3, g4, g5, g6, g7, g8, g9, g10, g11, g12, g13⟩ := HY2.out.melts
  obtain ⟨t0, t1, t2, t3, t4, t5, t6, t7, t8, t9, t10, t11, t12, t13⟩ := HX2.out.cells
  go_wp2_with fail
  refine hK.out _ _ HX2.out ?_
  clear hK K
  simp only [Act.put, List.setIfInBounds_toArray, List.set_cons_zero, List.set_cons_succ]
  refine held_take (i := 8) (d := some 53) (fuel := 13) (listed' := #[true, true, true, true, true, true, true, true, true, false, false, false, false, false, false, false, false, false, false, false, false, false]) (v := ?_) rfl rfl (by kernel_rfl) (by kernel_rfl) (by kernel_rfl) rfl (fun _ _ _ h => h) (by rfl) ?_ HX2.out ?_
  rotate_left
  · (intro wS hSw; go_simp; try (with_reducible rfl))
  simp only [Act.put, List.setIfInBounds_toArray, List.set_cons_zero, List.set_cons_succ]
  refine held_skip (i := 9) (d := some 54) (fuel := 12) (listed' := #[true, true, true, true, true, true, true, true, true, true, false, false, false, false, false, false, false, false, false, false, false, false]) rfl rfl (by kernel_rfl) (by kernel_rfl) (by kernel_rfl) rfl (fun _ _ _ h => h) (by rfl) HX2.out ?_
  simp only [Act.put, List.setIfInBounds_toArray, List.set_cons_zero, List.set_cons_succ]
  refine held_skip (i := 10) (d := some 55) (fuel := 11) (listed' := #[true, true, true, true, true, true, true, true, true, true, true, false, false, false, false, false, false, false, false, false, false, false]) rfl rfl (by kernel_rfl) (by kernel_rfl) (by kernel_rfl) rfl (fun _ _ _ h => h) (by rfl) HX2.out ?_
  simp only [Act.put, List.setIfInBounds_toArray, List.set_cons_zero, List.set_cons_succ]
  refine held_skip (i := 11) (d := some 56) (fuel := 10) (listed' := #[true, true, true, true, true, true, true, true, true, true, true, true, false, false, false, false, false, false, false, false, false, false]) rfl rfl (by kernel_rfl) (by kernel_rfl) (by kernel_rfl) rfl (fun _ _ _ h => h) (by rfl) HX2.out ?_
  simp only [Act.put, List.setIfInBounds_toArray, List.set_cons_zero, List.set_cons_succ]
  refine held_take (i := 12) (d := some 57) (fuel := 9) (listed' := #[true, true, true, true, true, true, true, true, true, true, true, true, true, false, false, false, false, false, false, false, false, false]) (v := ?_) rfl rfl (by kernel_rfl) (by kernel_rfl) (by kernel_rfl) rfl (fun _ _ _ h => h) (by rfl) ?_ HX2.out ?_
  rotate_left
  · (intro wS hSw; go_simp; try (with_reducible rfl))
  simp only [Act.put, List.setIfInBounds_toArray, List.set_cons_zero, List.set_cons_succ]
  refine held_take (i := 13) (d := some 58) (fuel := 8) (listed' := #[true, true, true, true, true, true, true, true, true, true, true, true, true, true, false, false, false, false, false, false, false, false]) (v := ?_) rfl rfl (by kernel_rfl) (by kernel_rfl) (by kernel_rfl) rfl (fun _ _ _ h => h) (by rfl) ?_ HX2.out ?_
  rotate_left
  · (intro wS hSw; go_simp; try (with_reducible rfl))
  simp only [Act.put, List.setIfInBounds_toArray, List.set_cons_zero, List.set_cons_succ]
  refine held_skip (i := 14) (d := some 59) (fuel := 7) (listed' := #[true, true, true, true, true, true, true, true, true, true, true, true, true, true, true, false, false, false, false, false, false, false]) rfl rfl (by kernel_rfl) (by kernel_rfl) (by kernel_rfl) rfl (fun _ _ _ h => h) (by rfl) HX2.out ?_
  simp only [Act.put, List.setIfInBounds_toArray, List.set_cons_zero, List.set_cons_succ]
  refine held_skip (i := 15) (d := some 60) (fuel := 6) (listed' := #[true, true, true, true, true, true, true, true, true, true, true, true, true, true, true, true, false, false, false, false, false, false]) rfl rfl (by kernel_rfl) (by kernel_rfl) (by kernel_rfl) rfl (fun _ _ _ h => h) (by rfl) HX2.out ?_
  simp only [Act.put, List.setIfInBounds_toArray, List.set_cons_zero, List.set_cons_succ]
  refine held_skip (i := 16) (d := some 61) (fuel := 5) (listed' := #[true, true, true, true, true, true, true, true, true, true, true, true, true, true, true, true, true, false, false, false, false, false]) rfl rfl (by kernel_rfl) (by kernel_rfl) (by kernel_rfl) rfl (fun _ _ _ h => h) (by rfl) HX2.out ?_
  simp only [Act.put, List.setIfInBounds_toArray, List.set_cons_zero, List.set_cons_succ]
  refine held_skip (i := 17) (d := some 62) (fuel := 4) (listed' := #[true, true, true, true, true, true, true, true, true, true, true, true, true, true, true, true, true, true, false, false, false, false]) rfl rfl (by kernel_rfl) (by kernel_rfl) (by kernel_rfl) rfl (fun _ _ _ h => h) (by rfl) HX2.out ?_
  simp only [Act.put, List.setIfInBounds_toArray, List.set_cons_zero, List.set_cons_succ]
  refine held_skip (i := 18) (d := some 63) (fuel := 3) (listed' := #[true, true, true, true, true, true, true, true, true, true, true, true, true, true, true, true, true, true, true, false, false, false]) rfl rfl (by kernel_rfl) (by kernel_rfl) (by kernel_rfl) rfl (fun _ _ _ h => h) (by rfl) HX2.out ?_
  simp only [Act.put, List.setIfInBounds_toArray, List.set_cons_zero, List.set_cons_succ]
  refine held_take (i := 19) (d := some 64) (fuel := 2) (listed' := #[true, true, true, true, true, true, true, true, true, true, true, true, true, true, true, true, true, true, true, true, false, false]) (v := ?_) rfl rfl (by kernel_rfl) (by kernel_rfl) (by kernel_rfl) rfl (fun _ _ _ h => h) (by rfl) ?_ HX2.out ?_
  rotate_left
  · (intro wS hSw; go_simp; try (with_reducible rfl))
  simp only [Act.put, List.setIfInBounds_toArray, List.set_cons_zero, List.set_cons_succ]
  refine held_one (i := 20) (d := none) (fuel := 1) (listed' := #[true, true, true, true, true, true, true, true, true, true, true, true, true, true, true, true, true, true, true, true, true, false]) rfl rfl (by kernel_rfl) rfl (by rfl) (fun K hK => ?_)
  go_simp
  refine hK.out undef _ (NdAt.other14 HX2.out (by omega) _ _ _ _ _ _ _ _ _ _ _ _ _ _) ?_
  clear hK K
  simp only [Act.put]
  refine held_take (i := 21) (d := some 3) (fuel := 0) (listed' := #[true, true, true, true, true, true, true, true, true, true, true, true, true, true, true, true, true, true, true, true, true, true]) (v := ?_) rfl rfl (by kernel_rfl) (by kernel_rfl) (by kernel_rfl) rfl (fun _ _ _ h => h) (by rfl) ?_ (NdAt.other14 HX2.out (by omega) _ _ _ _ _ _ _ _ _ _ _ _ _ _) ?_
  rotate_left
  · (intro wS hSw; go_simp; try (with_reducible rfl))
  simp only [Act.put, List.setIfInBounds_toArray, List.set_cons_zero, List.set_cons_succ]
  refine wpAnyH_done (by kernel_rfl) ?_ _
  go_wp2_with fail
  all_goals exact bodyPost_ret (out_nod (HY2.out.put14 ⟨0, 0, ⟨#[]⟩, n.ref, n.to, []⟩ (.slice none 0 0)) _ _ _ 2 3 res_fields rfl rfl) rfl ⟨rfl, below_set14 HB2.out (by have := HB.out.size; omega) _ _ _ _ _ _ _ _ _ _ _ _ _ _⟩

set_option maxRecDepth 100000 in
set_option maxHeartbeats 4000000 in
theorem fields_6b (w : World) (n : Nd) (h6 : n.kind = 6) (hs : n.ref.sh.size ≤ 1000000) (ht : n.to.sh.size ≤ 1000000) (q1 : mayRf n.ref = true) (q2 : mayRf n.to = false) (A : Option Addr) (m c : Nat) : Calls Tryz.prog 52 #[.agg #[.int .i64 n.kind, .int .i64 n.num, .string n.text, .string n.ref.sh, .int .i64 n.ref.c, .int .i64 n.ref.r, .bool n.ref.ac, .bool n.ref.ar, .string n.to.sh, .int .i64 n.to.c, .int .i64 n.to.r, .bool n.to.ac, .bool n.to.ar, .slice A m c]] w fun e w' => e = .returned (.tuple #[.agg (nodA ⟨0, 0, ⟨#[]⟩, n.ref, n.to, []⟩ (.slice none 0 0)), .bool false]) ∧ Below w.heap.size w w' := by
  have hsz : (w.alloc (.cells #[.int .i64 n.kind, .int .i64 n.num, .string n.text, .string n.ref.sh, .int .i64 n.ref.c, .int .i64 n.ref.r, .bool n.ref.ac, .bool n.ref.ar, .string n.to.sh, .int .i64 n.to.c, .int .i64 n.to.r, .bool n.to.ac, .bool n.to.ar, .slice A m c] 38)).heap.size = w.heap.size + 1 := by simp
  have hx : NdAt (w.alloc (.cells #[.int .i64 n.kind, .int .i64 n.num, .string n.text, .string n.ref.sh, .int .i64 n.ref.c, .int .i64 n.ref.r, .bool n.ref.ac, .bool n.ref.ar, .string n.to.sh, .int .i64 n.to.c, .int .i64 n.to.r, .bool n.to.ac, .bool n.to.ar, .slice A m c] 38)) w.heap.size n (.slice A m c) := NdAt.new w n _
  have hy : NdAt ((w.alloc (.cells #[.int .i64 n.kind, .int .i64 n.num, .string n.text, .string n.ref.sh, .int .i64 n.ref.c, .int .i64 n.ref.r, .bool n.ref.ac, .bool n.ref.ar, .string n.to.sh, .int .i64 n.to.c, .int .i64 n.to.r, .bool n.to.ac, .bool n.to.ar, .slice A m c] 38)).alloc (.cells zNod 38)) (w.heap.size + 1) Nd.zero (.slice none 0 0) := by rw [← hsz]; exact NdAt.new _ Nd.zero _
  have hx2 := hx.below ((Below.refl _ _).alloc (Nat.le_refl _) (.cells zNod 38)) hx.lt
  have HB := Lib.hid (((Below.refl w.heap.size w).alloc (Nat.le_refl _) (.cells #[.int .i64 n.kind, .int .i64 n.num, .string n.text, .string n.ref.sh, .int .i64 n.ref.c, .int .i64 n.ref.r, .bool n.ref.ac, .bool n.ref.ar, .string n.to.sh, .int .i64 n.to.c, .int .i64 n.to.r, .bool n.to.ac, .bool n.to.ar, .slice A m c] 38)).alloc (by simp) (.cells zNod 38))
  have hb2 : w.heap.size + 1 < ((w.alloc (.cells #[.int .i64 n.kind, .int .i64 n.num, .string n.text, .string n.ref.sh, .int .i64 n.ref.c, .int .i64 n.ref.r, .bool n.ref.ac, .bool n.ref.ar, .string n.to.sh, .int .i64 n.to.c, .int .i64 n.to.r, .bool n.to.ac, .bool n.to.ar, .slice A m c] 38)).alloc (.cells zNod 38)).heap.size := hy.lt
  have e1 : (n.kind == 1) = false := by rw [h6]; rfl
  have e2 : (n.kind == 2) = false := by rw [h6]; rfl
  have e3 : (n.kind == 3) = false := by rw [h6]; rfl
  have e5 : (n.kind == 5) = false := by rw [h6]; rfl
  have e6 : (n.kind == 6) = true := beq_iff_eq.2 h6
  clear h6
  go_enter Tryz.func52, Tryz.ntmps52
  go_upto_region 11 with (fail)
  generalize (w.alloc (.cells #[.int .i64 n.kind, .int .i64 n.num, .string n.text, .string n.ref.sh, .int .i64 n.ref.c, .int .i64 n.ref.r, .bool n.ref.ac, .bool n.ref.ar, .string n.to.sh, .int .i64 n.to.c, .int .i64 n.to.r, .bool n.to.ac, .bool n.to.ar, .slice A m c] 38)).alloc (.cells zNod 38) = w1 at hx2 hy HB hb2 ⊢
  obtain ⟨x0, x1, x2, x3, x4, x5, x6, x7, x8, x9, x10, x11, x12, x13⟩ := hx2.cells
  obtain ⟨y0, y1, y2, y3, y4, y5, y6, y7, y8, y9, y10, y11, y12, y13⟩ := hy.cells
  obtain ⟨f0, f1, f2, f3, f4, f5, f6, f7, f8, f9, f10, f11, f12, f13⟩ := hy.melts
  have HY := Lib.hid hy
  have HX := Lib.hid hx2
  clear hx hx2 hy
  have HT1 := Lib.hid (show ∀ w, Calls Tryz.prog 91 #[.agg #[.string n.ref.sh, .int .i64 n.ref.c, .int .i64 n.ref.r, .bool n.ref.ac, .bool n.ref.ar]] w fun e w' => e = .returned (.bool true) ∧ Below w.heap.size w w' from fun w => by rw [← q1]; exact may_any n.ref.sh n.ref.c n.ref.r n.ref.ac n.ref.ar w hs)
  have HT2 := Lib.hid (show ∀ w, Calls Tryz.prog 91 #[.agg #[.string n.to.sh, .int .i64 n.to.c, .int .i64 n.to.r, .bool n.to.ac, .bool n.to.ar]] w fun e w' => e = .returned (.bool false) ∧ Below w.heap.size w w' from fun w => by rw [← q2]; exact may_any n.to.sh n.to.c n.to.r n.to.ac n.to.ar w ht)
  refine wp_region_held_drew (S := fun W => NdAt W w.heap.size n (.slice A m c)) (by kernel_rfl) HX.out.drew (fun _ => ?_)
  show wpAnyH _ _ _ _ _ 22 #[false, false, false, false, false, false, false, false, false, false, false, false, false, false, false, false, false, false, false, false, false, false] _ _
  refine held_take (i := 0) (d := some 45) (fuel := 21) (listed' := #[true, false, false, false, false, false, false, false, false, false, false, false, false, false, false, false, false, false, false, false, false, false]) (v := ?_) rfl rfl (by kernel_rfl) (by kernel_rfl) (by kernel_rfl) rfl (fun _ _ _ h => h) (by rfl) ?_ HX.out.drew ?_
  rotate_left
  · (intro wS hSw; go_simp; try (with_reducible rfl))
  simp only [Act.put, List.setIfInBounds_toArray, List.set_cons_zero, List.set_cons_succ]
  refine held_take (i := 1) (d := some 46) (fuel := 20) (listed' := #[true, true, false, false, false, false, false, false, false, false, false, false, false, false, false, false, false, false, false, false, false, false]) (v := ?_) rfl rfl (by kernel_rfl) (by kernel_rfl) (by kernel_rfl) rfl (fun _ _ _ h => h) (by rfl) ?_ HX.out.drew ?_
  rotate_left
  · (intro wS hSw; have hz := NdAt.cells hSw; go_simp; try (with_reducible rfl))
  simp only [Act.put, List.setIfInBounds_toArray, List.set_cons_zero, List.set_cons_succ]
  refine held_take (i := 2) (d := some 47) (fuel := 19) (listed' := #[true, true, true, false, false, false, false, false, false, false, false, false, false, false, false, false, false, false, false, false, false, false]) (v := ?_) rfl rfl (by kernel_rfl) (by kernel_rfl) (by kernel_rfl) rfl (fun _ _ _ h => h) (by rfl) ?_ HX.out.drew ?_
  rotate_left
  · (intro wS hSw; go_simp; try (with_reducible rfl))
  simp only [Act.put, List.setIfInBounds_toArray, List.set_cons_zero, List.set_cons_succ]
  refine held_take (i := 3) (d := some 48) (fuel := 18) (listed' := #[true, true, true, true, false, false, false, false, false, false, false, false, false, false, false, false, false, false, false, false, false, false]) (v := ?_) rfl rfl (by kernel_rfl) (by kernel_rfl) (by kernel_rfl) rfl (fun _ _ _ h => h) (by rfl) ?_ HX.out.drew ?_
  rotate_left
  · (intro wS hSw; have hz := NdAt.cells hSw; go_simp; try (with_reducible rfl))
  simp only [Act.put, List.setIfInBounds_toArray, List.set_cons_zero, List.set_cons_succ]
  refine held_take (i := 4) (d := some 49) (fuel := 17) (listed' := #[true, true, true, true, true, false, false, false, false, false, false, false, false, false, false, false, false, false, false, false, false, false]) (v := ?_) rfl rfl (by kernel_rfl) (by kernel_rfl) (by kernel_rfl) rfl (fun _ _ _ h => h) (by rfl) ?_ HX.out.drew ?_
  rotate_left
  · (intro wS hSw; go_simp; try (with_reducible rfl))
  simp only [Act.put, List.setIfInBounds_toArray, List.set_cons_zero, List.set_cons_succ]
  refine held_take (i := 5) (d := some 50) (fuel := 16) (listed' := #[true, true, true, true, true, true, false, false, false, false, false, false, false, false, false, false, false, false, false, false, false, false]) (v := ?_) rfl rfl (by kernel_rfl) (by kernel_rfl) (by kernel_rfl) rfl (fun _ _ _ h => h) (by rfl) ?_ HX.out.drew ?_
  rotate_left
  · (intro wS hSw; go_simp; try (with_reducible rfl))
  simp only [Act.put, List.setIfInBounds_toArray, List.set_cons_zero, List.set_cons_succ]
  refine held_take (i := 6) (d := some 51) (fuel := 15) (listed' := #[true, true, true, true, true, true, true, false, false, false, false, false, false, false, false, false, false, false, false, false, false, false]) (v := ?_) rfl rfl (by kernel_rfl) (by kernel_rfl) (by kernel_rfl) rfl (fun _ _ _ h => h) (by rfl) ?_ HX.out.drew ?_
  rotate_left
  · (intro wS hSw; have hz := NdAt.cells hSw; go_simp; try (with_reducible rfl))
  simp only [Act.put, List.setIfInBounds_toArray, List.set_cons_zero, List.set_cons_succ]
  refine held_one (i := 7) (d := some 52) (fuel := 14) (listed' := #[true, true, true, true, true, true, true, true, false, false, false, false, false, false, false, false, false, false, false, false, false, false]) rfl rfl (by kernel_rfl) rfl (by rfl) (fun K hK => ?_)
  go_simp
  refine (HT1.out _).mono ?_
  rintro e w2 ⟨rfl, h1⟩
  have HY2 := Lib.hid (HY.out.drew.below h1 HY.out.lt)
  have HX2 := Lib.hid (HX.out.drew.below h1 HX.out.lt)
  have HB2 := Lib.hid (HB.out.drew.trans (h1.mono HB.out.size))
  clear h1
  obtain ⟨z0, z1, z2, z3, z4, z5, z6, z7, z8, z9, z10, z11, z12, z13⟩ := HY2.out.cells
  obtain ⟨g0, g1, g2, g3, g4, g5, g6, g7, g8, g9, g10, g11, g12, g13⟩ := HY2.out.melts
  obtain ⟨t0, t1, t2, t3, t4, t5, t6, t7, t8, t9, t10, t11, t12, t13⟩ := HX2.out.cells
  go_wp2_with fail
  refine hK.out _ _ HX2.out ?_
  clear hK K
  simp only [Act.put, List.setIfInBounds_toArray, List.set_cons_zero, List.set_cons_succ]
  refine held_take (i := 8) (d := some 53) (fuel := 13) (listed' := #[true, true, true, true, true, true, true, true, true, false, false, false, false, false, false, false, false, false, false, false, false, false]) (v := ?_) rfl rfl (by kernel_rfl) (by kernel_rfl) (by kernel_rfl) rfl (fun _ _ _ h => h) (by rfl) ?_ HX2.out ?_
  rotate_left
  · (intro wS hSw; go_simp; try (with_reducible rfl))
  simp only [Act.put, List.setIfInBounds_toArray, List.set_cons_zero, List.set_cons_succ]
  refine held_take (i := 9) (d := some 54) (fuel := 12) (listed' := #[true, true, true, true, true, true, true, true, true, true, false, false, false, false, false, false, false, false, false, false, false, false]) (v := ?_) rfl rfl (by kernel_rfl) (by kernel_rfl) (by kernel_rfl) rfl (fun _ _ _ h => h) (by rfl) ?_ HX2.out ?_
  rotate_left
  · (intro wS hSw; go_simp; try (with_reducible rfl))
  simp only [Act.put, List.setIfInBounds_toArray, List.set_cons_zero, List.set_cons_succ]
  refine held_take (i := 10) (d := some 55) (fuel := 11) (listed' := #[true, true, true, true, true, true, true, true, true, true, true, false, false, false, false, false, false, false, false, false, false, false]) (v := ?_) rfl rfl (by kernel_rfl) (by kernel_rfl) (by kernel_rfl) rfl (fun _ _ _ h => h) (by rfl) ?_ HX2.out ?_
  rotate_left
  · (intro wS hSw; have hz := NdAt.cells hSw; go_simp; try (with_reducible rfl))
  simp only [Act.put, List.setIfInBounds_toArray, List.set_cons_zero, List.set_cons_succ]
  refine held_one (i := 11) (d := some 56) (fuel := 10) (listed' := #[true, true, true, true, true, true, true, true, true, true, true, true, false, false, false, false, false, false, false, false, false, false]) rfl rfl (by kernel_rfl) rfl (by rfl) (fun K hK => ?_)
  go_simp
  refine (HT2.out _).mono ?_
  rintro e w3 ⟨rfl, h1⟩
  have HY3 := Lib.hid (HY2.out.below h1 HY2.out.lt)
  have HX3 := Lib.hid (HX2.out.below h1 HX2.out.lt)
  have HB3 := Lib.hid (HB2.out.trans (h1.mono HB2.out.size))
  clear h1
  obtain ⟨z0, z1, z2, z3, z4, z5, z6, z7, z8, z9, z10, z11, z12, z13⟩ := HY3.out.cells
  obtain ⟨g0, g1, g2, g3, g4, g5, g6, g7, g8, g9, g10, g11, g12, g13⟩ := HY3.out.melts
  obtain ⟨t0, t1, t2, t3, t4, t5, t6, t7, t8, t9, t10, t11, t12, t13⟩ := HX3.out.cells
  go_wp2_with fail
  refine hK.out _ _ HX3.out ?_
  clear hK K
  simp only [Act.put, List.setIfInBounds_toArray, List.set_cons_zero, List.set_cons_succ]
  refine held_take (i := 12) (d := some 57) (fuel := 9) (listed' := #[true, true, true, true, true, true, true, true, true, true, true, true, true, false, false, false, false, false, false, false, false, false]) (v := ?_) rfl rfl (by kernel_rfl) (by kernel_rfl) (by kernel_rfl) rfl (fun _ _ _ h => h) (by rfl) ?_ HX3.out ?_
  rotate_left
  · (intro wS hSw; go_simp; try (with_reducible rfl))
  simp only [Act.put, List.setIfInBounds_toArray, List.set_cons_zero, List.set_cons_succ]
  refine held_take (i := 13) (d := some 58) (fuel := 8) (listed' := #[true, true, true, true, true, true, true, true, true, true, true, true, true, true, false, false, false, false, false, false, false, false]) (v := ?_) rfl rfl (by kernel_rfl) (by kernel_rfl) (by kernel_rfl) rfl (fun _ _ _ h => h) (by rfl) ?_ HX3.out ?_
  rotate_left
  · (intro wS hSw; go_simp; try (with_reducible rfl))
  simp only [Act.put, List.setIfInBounds_toArray, List.set_cons_zero, List.set_cons_succ]
  refine held_skip (i := 14) (d := some 59) (fuel := 7) (listed' := #[true, true, true, true, true, true, true, true, true, true, true, true, true, true, true, false, false, false, false, false, false, false]) rfl rfl (by kernel_rfl) (by kernel_rfl) (by kernel_rfl) rfl (fun _ _ _ h => h) (by rfl) HX3.out ?_
  simp only [Act.put, List.setIfInBounds_toArray, List.set_cons_zero, List.set_cons_succ]
  refine held_skip (i := 15) (d := some 60) (fuel := 6) (listed' := #[true, true, true, true, true, true, true, true, true, true, true, true, true, true, true, true, false, false, false, false, false, false]) rfl rfl (by kernel_rfl) (by kernel_rfl) (by kernel_rfl) rfl (fun _ _ _ h => h) (by rfl) HX3.out ?_
  simp only [Act.put, List.setIfInBounds_toArray, List.set_cons_zero, List.set_cons_succ]
  refine held_skip (i := 16) (d := some 61) (fuel := 5) (listed' := #[true, true, true, true, true, true, true, true, true, true, true, true, true, true, true, true, true, false, false, false, false, false]) rfl rfl (by kernel_rfl) (by kernel_rfl) (by kernel_rfl) rfl (fun _ _ _ h => h) (by rfl) HX3.out ?_
  simp only [Act.put, List.setIfInBounds_toArray, List.set_cons_zero, List.set_cons_succ]
  refine held_skip (i := 17) (d := some 62) (fuel := 4) (listed' := #[true, true, true, true, true, true, true, true, true, true, true, true, true, true, true, true, true, true, false, false, false, false]) rfl rfl (by kernel_rfl) (by kernel_rfl) (by kernel_rfl) rfl (fun _ _ _ h => h) (by rfl) HX3.out ?_
  simp only [Act.put, List.setIfInBounds_toArray, List.set_cons_zero, List.set_cons_succ]
  refine held_skip (i := 18) (d := some 63) (fuel := 3) (listed' := #[true, true, true, true, true, true, true, true, true, true, true, true, true, true, true, true, true, true, true, false, false, false]) rfl rfl (by kernel_rfl) (by kernel_rfl) (by kernel_rfl) rfl (fun _ _ _ h => h) (by rfl) HX3.out ?_
  simp only [Act.put, List.setIfInBounds_toArray, List.set_cons_zero, List.set_cons_succ]
  refine held_take (i := 19) (d := some 64) (fuel := 2) (listed' := #[true, true, true, true, true, true, true, true, true, true, true, true, true, true, true, true, true, true, true, true, false, false]) (v := ?_) rfl rfl (by kernel_rfl) (by kernel_rfl) (by kernel_rfl) rfl (fun _ _ _ h => h) (by rfl) ?_ HX3.out ?_
  rotate_left
  · (intro wS hSw; go_simp; try (with_reducible rfl))
  simp only [Act.put, List.setIfInBounds_toArray, List.set_cons_zero, List.set_cons_succ]
  refine held_one (i := 20) (d := none) (fuel := 1) (listed' := #[true, true, true, true, true, true, true, true, true, true, true, true, true, true, true, true, true, true, true, true, true, false]) rfl rfl (by kernel_rfl) rfl (by rfl) (fun K hK => ?_)
  go_simp
  refine hK.out undef _ (NdAt.other14 HX3.out (by omega) _ _ _ _ _ _ _ _ _ _ _ _ _ _) ?_
  clear hK K
  simp only [Act.put]
  refine held_take (i := 21) (d := some 3) (fuel := 0) (listed' := #[true, true, true, true, true, true, true, true, true, true, true, true, true, true, true, true, true, true, true, true, true, true]) (v := ?_) rfl rfl (by kernel_rfl) (by kernel_rfl) (by kernel_rfl) rfl (fun _ _ _ h => h) (by rfl) ?_ (NdAt.other14 HX3.out (by omega) _ _ _ _ _ _ _ _ _ _ _ _ _ _) ?_
  rotate_left
  · (intro wS hSw; go_simp; try (with_reducible rfl))
  simp only [Act.put, List.setIfInBounds_toArray, List.set_cons_zero, List.set_cons_succ]
  refine wpAnyH_done (by kernel_rfl) ?_ _
  go_wp2_with fail
  all_goals exact bodyPost_ret (out_nod (HY3.out.put14 ⟨0, 0, ⟨#[]⟩, n.ref, n.to, []⟩ (.slice none 0 0)) _ _ _ 2 3 res_fields rfl rfl) rfl ⟨rfl, below_set14 HB3.out (by have := HB.out.size; omega) _ _ _ _ _ _ _ _ _ _ _ _ _ _⟩

set_option maxRecDepth 100000 in
set_option maxHeartbeats 4000000 in
theorem fields_6c (w : World) (n : Nd) (h6 : n.kind = 6) (hs : n.ref.sh.size ≤ 1000000) (ht : n.to.sh.size ≤ 1000000) (q1 : mayRf n.ref = true) (q2 : mayRf n.to = true) (A : Option Addr) (m c : Nat) : Calls Tryz.prog 52 #[.agg #[.int .i64 n.kind, .int .i64 n.num, .string n.text, .string n.ref.sh, .int .i64 n.ref.c, .int .i64 n.ref.r, .bool n.ref.ac, .bool n.ref.ar, .string n.to.sh, .int .i64 n.to.c, .int .i64 n.to.r, .bool n.to.ac, .bool n.to.ar, .slice A m c]] w fun e w' => e = .returned (.tuple #[.agg (nodA ⟨0, 0, ⟨#[]⟩, n.ref, n.to, []⟩ (.slice none 0 0)), .bool (spanB n.ref n.to)]) ∧ Below w.heap.size w w' := by
  have hsz : (w.alloc (.cells #[.int .i64 n.kind, .int .i64 n.num, .string n.text, .string n.ref.sh, .int .i64 n.ref.c, .int .i64 n.ref.r, .bool n.ref.ac, .bool n.ref.ar, .string n.to.sh, .int .i64 n.to.c, .int .i64 n.to.r, .bool n.to.ac, .bool n.to.ar, .slice A m c] 38)).heap.size = w.heap.size + 1 := by simp
  have hx : NdAt (w.alloc (.cells #[.int .i64 n.kind, .int .i64 n.num, .string n.text, .string n.ref.sh, .int .i64 n.ref.c, .int .i64 n.ref.r, .bool n.ref.ac, .bool n.ref.ar, .string n.to.sh, .int .i64 n.to.c, .int .i64 n.to.r, .bool n.to.ac, .bool n.to.ar, .slice A m c] 38)) w.heap.size n (.slice A m c) := NdAt.new w n _
  have hy : NdAt ((w.alloc (.cells #[.int .i64 n.kind, .int .i64 n.num, .string n.text, .string n.ref.sh, .int .i64 n.ref.c, .int .i64 n.ref.r, .bool n.ref.ac, .bool n.ref.ar, .string n.to.sh, .int .i64 n.to.c, .int .i64 n.to.r, .bool n.to.ac, .bool n.to.ar, .slice A m c] 38)).alloc (.cells zNod 38)) (w.heap.size + 1) Nd.zero (.slice none 0 0) := by rw [← hsz]; exact NdAt.new _ Nd.zero _
  have hx2 := hx.below ((Below.refl _ _).alloc (Nat.le_refl _) (.cells zNod 38)) hx.lt
  have HB := Lib.hid (((Below.refl w.heap.size w).alloc (Nat.le_refl _) (.cells #[.int .i64 n.kind, .int .i64 n.num, .string n.text, .string n.ref.sh, .int .i64 n.ref.c, .int .i64 n.ref.r, .bool n.ref.ac, .bool n.ref.ar, .string n.to.sh, .int .i64 n.to.c, .int .i64 n.to.r, .bool n.to.ac, .bool n.to.ar, .slice A m c] 38)).alloc (by simp) (.cells zNod 38))
  have hb2 : w.heap.size + 1 < ((w.alloc (.cells #[.int .i64 n.kind, .int .i64 n.num, .string n.text, .string n.ref.sh, .int .i64 n.ref.c, .int .i64 n.ref.r, .bool n.ref.ac, .bool n.ref.ar, .string n.to.sh, .int .i64 n.to.c, .int .i64 n.to.r, .bool n.to.ac, .bool n.to.ar, .slice A m c] 38)).alloc (.cells zNod 38)).heap.size := hy.lt
  have e1 : (n.kind == 1) = false := by rw [h6]; rfl
  have e2 : (n.kind == 2) = false := by rw [h6]; rfl
  have e3 : (n.kind == 3) = false := by rw [h6]; rfl
  have e5 : (n.kind == 5) = false := by rw [h6]; rfl
  have e6 : (n.kind == 6) = true := beq_iff_eq.2 h6
  clear h6
  go_enter Tryz.func52, Tryz.ntmps52
  go_upto_region 11 with (fail)
  generalize (w.alloc (.cells #[.int .i64 n.kind, .int .i64 n.num, .string n.text, .string n.ref.sh, .int .i64 n.ref.c, .int .i64 n.ref.r, .bool n.ref.ac, .bool n.ref.ar, .string n.to.sh, .int .i64 n.to.c, .int .i64 n.to.r, .bool n.to.ac, .bool n.to.ar, .slice A m c] 38)).alloc (.cells zNod 38) = w1 at hx2 hy HB hb2 ⊢
  obtain ⟨x0, x1, x2, x3, x4, x5, x6, x7, x8, x9, x10, x11, x12, x13⟩ := hx2.cells
  obtain ⟨y0, y1, y2, y3, y4, y5, y6, y7, y8, y9, y10, y11, y12, y13⟩ := hy.cells
  obtain ⟨f0, f1, f2, f3, f4, f5, f6, f7, f8, f9, f10, f11, f12, f13⟩ := hy.melts
  have HY := Lib.hid hy
  have HX := Lib.hid hx2
  clear hx hx2 hy
  have HT1 := Lib.hid (show ∀ w, Calls Tryz.prog 91 #[.agg #[.string n.ref.sh, .int .i64 n.ref.c, .int .i64 n.ref.r, .bool n.ref.ac, .bool n.ref.ar]] w fun e w' => e = .returned (.bool true) ∧ Below w.heap.size w w' from fun w => by rw [← q1]; exact may_any n.ref.sh n.ref.c n.ref.r n.ref.ac n.ref.ar w hs)
  have HT2 := Lib.hid (show ∀ w, Calls Tryz.prog 91 #[.agg #[.string n.to.sh, .int .i64 n.to.c, .int .i64 n.to.r, .bool n.to.ac, .bool n.to.ar]] w fun e w' => e = .returned (.bool true) ∧ Below w.heap.size w w' from fun w => by rw [← q2]; exact may_any n.to.sh n.to.c n.to.r n.to.ac n.to.ar w ht)
  have HT3 := Lib.hid (fun w => isRange_any n.ref.sh n.to.sh n.ref.c n.ref.r n.to.c n.to.r n.ref.ac n.ref.ar n.to.ac n.to.ar w)
  first
    | go_region_held3 (fun w' => w'.cell? ⟨w.heap.size, 3, none⟩ = some (.string n.ref.sh) ∧ w'.cell? ⟨w.heap.size, 4, none⟩ = some (.int .i64 n.ref.c) ∧ w'.cell? ⟨w.heap.size, 5, none⟩ = some (.int .i64 n.ref.r) ∧ w'.cell? ⟨w.heap.size, 6, none⟩ = some (.bool n.ref.ac) ∧ w'.cell? ⟨w.heap.size, 7, none⟩ = some (.bool n.ref.ar) ∧ w'.cell? ⟨w.heap.size, 8, none⟩ = some (.string n.to.sh) ∧ w'.cell? ⟨w.heap.size, 9, none⟩ = some (.int .i64 n.to.c) ∧ w'.cell? ⟨w.heap.size, 10, none⟩ = some (.int .i64 n.to.r) ∧ w'.cell? ⟨w.heap.size, 11, none⟩ = some (.bool n.to.ac) ∧ w'.cell? ⟨w.heap.size, 12, none⟩ = some (.bool n.to.ar)) (go_keep) (first | (go_at_call 91; ((with_reducible refine (HT1.out _).mono ?_); rintro e w2 ⟨rfl, h1⟩; have HY2 := Lib.hid (HY.out.drew.below h1 HY.out.lt); have HX2 := Lib.hid (HX.out.drew.below h1 HX.out.lt); have HB2 := Lib.hid (HB.out.drew.trans (h1.mono HB.out.size)); clear h1; obtain ⟨z0, z1, z2, z3, z4, z5, z6, z7, z8, z9, z10, z11, z12, z13⟩ := HY2.out.cells; obtain ⟨g0, g1, g2, g3, g4, g5, g6, g7, g8, g9, g10, g11, g12, g13⟩ := HY2.out.melts; obtain ⟨t0, t1, t2, t3, t4, t5, t6, t7, t8, t9, t10, t11, t12, t13⟩ := HX2.out.cells)) | (go_at_call 91; ((with_reducible refine (HT2.out _).mono ?_); rintro e w3 ⟨rfl, h1⟩; have HY3 := Lib.hid (HY2.out.below h1 HY2.out.lt); have HX3 := Lib.hid (HX2.out.below h1 HX2.out.lt); have HB3 := Lib.hid (HB2.out.trans (h1.mono HB2.out.size)); clear h1; obtain ⟨z0, z1, z2, z3, z4, z5, z6, z7, z8, z9, z10, z11, z12, z13⟩ := HY3.out.cells; obtain ⟨g0, g1, g2, g3, g4, g5, g6, g7, g8, g9, g10, g11, g12, g13⟩ := HY3.out.melts; obtain ⟨t0, t1, t2, t3, t4, t5, t6, t7, t8, t9, t10, t11, t12, t13⟩ := HX3.out.cells)) | (go_at_call 92; ((with_reducible refine (HT3.out _).mono ?_); rintro e w4 ⟨rfl, h1⟩; have HY4 := Lib.hid (HY3.out.below h1 HY3.out.lt); have HX4 := Lib.hid (HX3.out.below h1 HX3.out.lt); have HB4 := Lib.hid (HB3.out.trans (h1.mono HB3.out.size)); clear h1; obtain ⟨z0, z1, z2, z3, z4, z5, z6, z7, z8, z9, z10, z11, z12, z13⟩ := HY4.out.cells; obtain ⟨g0, g1, g2, g3, g4, g5, g6, g7, g8, g9, g10, g11, g12, g13⟩ := HY4.out.melts; obtain ⟨t0, t1, t2, t3, t4, t5, t6, t7, t8, t9, t10, t11, t12, t13⟩ := HX4.out.cells)))
    | fail
  all_goals go_wp2_with fail
  all_goals exact bodyPost_ret (out_nod (HY4.out.put14 ⟨0, 0, ⟨#[]⟩, n.ref, n.to, []⟩ (.slice none 0 0)) _ _ _ 2 3 res_fields rfl rfl) rfl ⟨rfl, below_set14 HB4.out (by have := HB.out.size; omega) _ _ _ _ _ _ _ _ _ _ _ _ _ _⟩

set_option maxRecDepth 100000 in
set_option maxHeartbeats 4000000 in
theorem fields_0a (w : World) (n : Nd) (h1 : ¬ n.kind = 1) (h2 : ¬ n.kind = 2) (h3 : ¬ n.kind = 3) (h5 : ¬ n.kind = 5) (h6 : ¬ n.kind = 6) (h7 : ¬ n.kind = 7) (h4 : n.kind = 4) (A : Option Addr) (m c : Nat) : Calls Tryz.prog 52 #[.agg #[.int .i64 n.kind, .int .i64 n.num, .string n.text, .string n.ref.sh, .int .i64 n.ref.c, .int .i64 n.ref.r, .bool n.ref.ac, .bool n.ref.ar, .string n.to.sh, .int .i64 n.to.c, .int .i64 n.to.r, .bool n.to.ac, .bool n.to.ar, .slice A m c]] w fun e w' => e = .returned (.tuple #[.agg (nodA Nd.zero (.slice none 0 0)), .bool true]) ∧ Below w.heap.size w w' := by
  have hsz : (w.alloc (.cells #[.int .i64 n.kind, .int .i64 n.num, .string n.text, .string n.ref.sh, .int .i64 n.ref.c, .int .i64 n.ref.r, .bool n.ref.ac, .bool n.ref.ar, .string n.to.sh, .int .i64 n.to.c, .int .i64 n.to.r, .bool n.to.ac, .bool n.to.ar, .slice A m c] 38)).heap.size = w.heap.size + 1 := by simp
  have hx : NdAt (w.alloc (.cells #[.int .i64 n.kind, .int .i64 n.num, .string n.text, .string n.ref.sh, .int .i64 n.ref.c, .int .i64 n.ref.r, .bool n.ref.ac, .bool n.ref.ar, .string n.to.sh, .int .i64 n.to.c, .int .i64 n.to.r, .bool n.to.ac, .bool n.to.ar, .slice A m c] 38)) w.heap.size n (.slice A m c) := NdAt.new w n _
  have hy : NdAt ((w.alloc (.cells #[.int .i64 n.kind, .int .i64 n.num, .string n.text, .string n.ref.sh, .int .i64 n.ref.c, .int .i64 n.ref.r, .bool n.ref.ac, .bool n.ref.ar, .string n.to.sh, .int .i64 n.to.c, .int .i64 n.to.r, .bool n.to.ac, .bool n.to.ar, .slice A m c] 38)).alloc (.cells zNod 38)) (w.heap.size + 1) Nd.zero (.slice none 0 0) := by rw [← hsz]; exact NdAt.new _ Nd.zero _
  have hx2 := hx.below ((Below.refl _ _).alloc (Nat.le_refl _) (.cells zNod 38)) hx.lt
  have HB := Lib.hid (((Below.refl w.heap.size w).alloc (Nat.le_refl _) (.cells #[.int .i64 n.kind, .int .i64 n.num, .string n.text, .string n.ref.sh, .int .i64 n.ref.c, .int .i64 n.ref.r, .bool n.ref.ac, .bool n.ref.ar, .string n.to.sh, .int .i64 n.to.c, .int .i64 n.to.r, .bool n.to.ac, .bool n.to.ar, .slice A m c] 38)).alloc (by simp) (.cells zNod 38))
  have hb2 : w.heap.size + 1 < ((w.alloc (.cells #[.int .i64 n.kind, .int .i64 n.num, .string n.text, .string n.ref.sh, .int .i64 n.ref.c, .int .i64 n.ref.r, .bool n.ref.ac, .bool n.ref.ar, .string n.to.sh, .int .i64 n.to.c, .int .i64 n.to.r, .bool n.to.ac, .bool n.to.ar, .slice A m c] 38)).alloc (.cells zNod 38)).heap.size := hy.lt
  have e1 : (n.kind == 1) = false := beq_eq_false_iff_ne.2 h1
  have e2 : (n.kind == 2) = false := beq_eq_false_iff_ne.2 h2
  have e3 : (n.kind == 3) = false := beq_eq_false_iff_ne.2 h3
  have e5 : (n.kind == 5) = false := beq_eq_false_iff_ne.2 h5
  have e6 : (n.kind == 6) = false := beq_eq_false_iff_ne.2 h6
  have e7 : (n.kind == 7) = false := beq_eq_false_iff_ne.2 h7
  clear h1 h2 h3 h5 h6 h7
  have e4 : (n.kind == 4) = true := beq_iff_eq.2 h4
  clear h4
  go_enter Tryz.func52, Tryz.ntmps52
  go_upto_region 14 with (fail)
  generalize (w.alloc (.cells #[.int .i64 n.kind, .int .i64 n.num, .string n.text, .string n.ref.sh, .int .i64 n.ref.c, .int .i64 n.ref.r, .bool n.ref.ac, .bool n.ref.ar, .string n.to.sh, .int .i64 n.to.c, .int .i64 n.to.r, .bool n.to.ac, .bool n.to.ar, .slice A m c] 38)).alloc (.cells zNod 38) = w1 at hx2 hy HB hb2 ⊢
  obtain ⟨x0, x1, x2, x3, x4, x5, x6, x7, x8, x9, x10, x11, x12, x13⟩ := hx2.cells
  obtain ⟨y0, y1, y2, y3, y4, y5, y6, y7, y8, y9, y10, y11, y12, y13⟩ := hy.cells
  obtain ⟨f0, f1, f2, f3, f4, f5, f6, f7, f8, f9, f10, f11, f12, f13⟩ := hy.melts
  have HY := Lib.hid hy
  have HX := Lib.hid hx2
  clear hx hx2 hy
  go_wp2_with (go_at_call 94; ((with_reducible refine (isOfTwo_any _ _).mono ?_); rintro e w2 ⟨rfl, rfl⟩))
  all_goals exact bodyPost_ret (out_nod (HY.out.put14 Nd.zero (.slice none 0 0)) _ _ _ 2 3 res_fields rfl rfl) rfl ⟨rfl, below_set14 HB.out (by have := HB.out.size; omega) _ _ _ _ _ _ _ _ _ _ _ _ _ _⟩

set_option maxRecDepth 100000 in
set_option maxHeartbeats 4000000 in
theorem fields_0b (w : World) (n : Nd) (h1 : ¬ n.kind = 1) (h2 : ¬ n.kind = 2) (h3 : ¬ n.kind = 3) (h5 : ¬ n.kind = 5) (h6 : ¬ n.kind = 6) (h7 : ¬ n.kind = 7) (h4 : n.kind = 8) (A : Option Addr) (m c : Nat) : Calls Tryz.prog 52 #[.agg #[.int .i64 n.kind, .int .i64 n.num, .string n.text, .string n.ref.sh, .int .i64 n.ref.c, .int .i64 n.ref.r, .bool n.ref.ac, .bool n.ref.ar, .string n.to.sh, .int .i64 n.to.c, .int .i64 n.to.r, .bool n.to.ac, .bool n.to.ar, .slice A m c]] w fun e w' => e = .returned (.tuple #[.agg (nodA Nd.zero (.slice none 0 0)), .bool true]) ∧ Below w.heap.size w w' := by
  have hsz : (w.alloc (.cells #[.int .i64 n.kind, .int .i64 n.num, .string n.text, .string n.ref.sh, .int .i64 n.ref.c, .int .i64 n.ref.r, .bool n.ref.ac, .bool n.ref.ar, .string n.to.sh, .int .i64 n.to.c, .int .i64 n.to.r, .bool n.to.ac, .bool n.to.ar, .slice A m c] 38)).heap.size = w.heap.size + 1 := by simp
  have hx : NdAt (w.alloc (.cells #[.int .i64 n.kind, .int .i64 n.num, .string n.text, .string n.ref.sh, .int .i64 n.ref.c, .int .i64 n.ref.r, .bool n.ref.ac, .bool n.ref.ar, .string n.to.sh, .int .i64 n.to.c, .int .i64 n.to.r, .bool n.to.ac, .bool n.to.ar, .slice A m c] 38)) w.heap.size n (.slice A m c) := NdAt.new w n _
  have hy : NdAt ((w.alloc (.cells #[.int .i64 n.kind, .int .i64 n.num, .string n.text, .string n.ref.sh, .int .i64 n.ref.c, .int .i64 n.ref.r, .bool n.ref.ac, .bool n.ref.ar, .string n.to.sh, .int .i64 n.to.c, .int .i64 n.to.r, .bool n.to.ac, .bool n.to.ar, .slice A m c] 38)).alloc (.cells zNod 38)) (w.heap.size + 1) Nd.zero (.slice none 0 0) := by rw [← hsz]; exact NdAt.new _ Nd.zero _
  have hx2 := hx.below ((Below.refl _ _).alloc (Nat.le_refl _) (.cells zNod 38)) hx.lt
  have HB := Lib.hid (((Below.refl w.heap.size w).alloc (Nat.le_refl _) (.cells #[.int .i64 n.kind, .int .i64 n.num, .string n.text, .string n.ref.sh, .int .i64 n.ref.c, .int .i64 n.ref.r, .bool n.ref.ac, .bool n.ref.ar, .string n.to.sh, .int .i64 n.to.c, .int .i64 n.to.r, .bool n.to.ac, .bool n.to.ar, .slice A m c] 38)).alloc (by simp) (.cells zNod 38))
  have hb2 : w.heap.size + 1 < ((w.alloc (.cells #[.int .i64 n.kind, .int .i64 n.num, .string n.text, .string n.ref.sh, .int .i64 n.ref.c, .int .i64 n.ref.r, .bool n.ref.ac, .bool n.ref.ar, .string n.to.sh, .int .i64 n.to.c, .int .i64 n.to.r, .bool n.to.ac, .bool n.to.ar, .slice A m c] 38)).alloc (.cells zNod 38)).heap.size := hy.lt
  have e1 : (n.kind == 1) = false := beq_eq_false_iff_ne.2 h1
  have e2 : (n.kind == 2) = false := beq_eq_false_iff_ne.2 h2
  have e3 : (n.kind == 3) = false := beq_eq_false_iff_ne.2 h3
  have e5 : (n.kind == 5) = false := beq_eq_false_iff_ne.2 h5
  have e6 : (n.kind == 6) = false := beq_eq_false_iff_ne.2 h6
  have e7 : (n.kind == 7) = false := beq_eq_false_iff_ne.2 h7
  clear h1 h2 h3 h5 h6 h7
  have e4 : (n.kind == 4) = false := by rw [h4]; rfl
  have e8 : (n.kind == 8) = true := beq_iff_eq.2 h4
  clear h4
  go_enter Tryz.func52, Tryz.ntmps52
  go_upto_region 14 with (fail)
  generalize (w.alloc (.cells #[.int .i64 n.kind, .int .i64 n.num, .string n.text, .string n.ref.sh, .int .i64 n.ref.c, .int .i64 n.ref.r, .bool n.ref.ac, .bool n.ref.ar, .string n.to.sh, .int .i64 n.to.c, .int .i64 n.to.r, .bool n.to.ac, .bool n.to.ar, .slice A m c] 38)).alloc (.cells zNod 38) = w1 at hx2 hy HB hb2 ⊢
  obtain ⟨x0, x1, x2, x3, x4, x5, x6, x7, x8, x9, x10, x11, x12, x13⟩ := hx2.cells
  obtain ⟨y0, y1, y2, y3, y4, y5, y6, y7, y8, y9, y10, y11, y12, y13⟩ := hy.cells
  obtain ⟨f0, f1, f2, f3, f4, f5, f6, f7, f8, f9, f10, f11, f12, f13⟩ := hy.melts
  have HY := Lib.hid hy
  have HX := Lib.hid hx2
  clear hx hx2 hy
  go_wp2_with (go_at_call 94; ((with_reducible refine (isOfTwo_any _ _).mono ?_); rintro e w2 ⟨rfl, rfl⟩))
  all_goals exact bodyPost_ret (out_nod (HY.out.put14 Nd.zero (.slice none 0 0)) _ _ _ 2 3 res_fields rfl rfl) rfl ⟨rfl, below_set14 HB.out (by have := HB.out.size; omega) _ _ _ _ _ _ _ _ _ _ _ _ _ _⟩

set_option maxRecDepth 100000 in
set_option maxHeartbeats 4000000 in
theorem fields_0c (w : World) (n : Nd) (h1 : ¬ n.kind = 1) (h2 : ¬ n.kind = 2) (h3 : ¬ n.kind = 3) (h5 : ¬ n.kind = 5) (h6 : ¬ n.kind = 6) (h7 : ¬ n.kind = 7) (h4 : ¬ n.kind = 4) (h8 : ¬ n.kind = 8) (A : Option Addr) (m c : Nat) : Calls Tryz.prog 52 #[.agg #[.int .i64 n.kind, .int .i64 n.num, .string n.text, .string n.ref.sh, .int .i64 n.ref.c, .int .i64 n.ref.r, .bool n.ref.ac, .bool n.ref.ar, .string n.to.sh, .int .i64 n.to.c, .int .i64 n.to.r, .bool n.to.ac, .bool n.to.ar, .slice A m c]] w fun e w' => e = .returned (.tuple #[.agg (nodA Nd.zero (.slice none 0 0)), .bool (twoB n.kind)]) ∧ Below w.heap.size w w' := by
  have hsz : (w.alloc (.cells #[.int .i64 n.kind, .int .i64 n.num, .string n.text, .string n.ref.sh, .int .i64 n.ref.c, .int .i64 n.ref.r, .bool n.ref.ac, .bool n.ref.ar, .string n.to.sh, .int .i64 n.to.c, .int .i64 n.to.r, .bool n.to.ac, .bool n.to.ar, .slice A m c] 38)).heap.size = w.heap.size + 1 := by simp
  have hx : NdAt (w.alloc (.cells #[.int .i64 n.kind, .int .i64 n.num, .string n.text, .string n.ref.sh, .int .i64 n.ref.c, .int .i64 n.ref.r, .bool n.ref.ac, .bool n.ref.ar, .string n.to.sh, .int .i64 n.to.c, .int .i64 n.to.r, .bool n.to.ac, .bool n.to.ar, .slice A m c] 38)) w.heap.size n (.slice A m c) := NdAt.new w n _
  have hy : NdAt ((w.alloc (.cells #[.int .i64 n.kind, .int .i64 n.num, .string n.text, .string n.ref.sh, .int .i64 n.ref.c, .int .i64 n.ref.r, .bool n.ref.ac, .bool n.ref.ar, .string n.to.sh, .int .i64 n.to.c, .int .i64 n.to.r, .bool n.to.ac, .bool n.to.ar, .slice A m c] 38)).alloc (.cells zNod 38)) (w.heap.size + 1) Nd.zero (.slice none 0 0) := by rw [← hsz]; exact NdAt.new _ Nd.zero _
  have hx2 := hx.below ((Below.refl _ _).alloc (Nat.le_refl _) (.cells zNod 38)) hx.lt
  have HB := Lib.hid (((Below.refl w.heap.size w).alloc (Nat.le_refl _) (.cells #[.int .i64 n.kind, .int .i64 n.num, .string n.text, .string n.ref.sh, .int .i64 n.ref.c, .int .i64 n.ref.r, .bool n.ref.ac, .bool n.ref.ar, .string n.to.sh, .int .i64 n.to.c, .int .i64 n.to.r, .bool n.to.ac, .bool n.to.ar, .slice A m c] 38)).alloc (by simp) (.cells zNod 38))
  have hb2 : w.heap.size + 1 < ((w.alloc (.cells #[.int .i64 n.kind, .int .i64 n.num, .string n.text, .string n.ref.sh, .int .i64 n.ref.c, .int .i64 n.ref.r, .bool n.ref.ac, .bool n.ref.ar, .string n.to.sh, .int .i64 n.to.c, .int .i64 n.to.r, .bool n.to.ac, .bool n.to.ar, .slice A m c] 38)).alloc (.cells zNod 38)).heap.size := hy.lt
  have e1 : (n.kind == 1) = false := beq_eq_false_iff_ne.2 h1
  have e2 : (n.kind == 2) = false := beq_eq_false_iff_ne.2 h2
  have e3 : (n.kind == 3) = false := beq_eq_false_iff_ne.2 h3
  have e5 : (n.kind == 5) = false := beq_eq_false_iff_ne.2 h5
  have e6 : (n.kind == 6) = false := beq_eq_false_iff_ne.2 h6
  have e7 : (n.kind == 7) = false := beq_eq_false_iff_ne.2 h7
  clear h1 h2 h3 h5 h6 h7
  have e4 : (n.kind == 4) = false := beq_eq_false_iff_ne.2 h4
  have e8 : (n.kind == 8) = false := beq_eq_false_iff_ne.2 h8
  clear h4 h8
  go_enter Tryz.func52, Tryz.ntmps52
  go_upto_region 14 with (fail)
  generalize (w.alloc (.cells #[.int .i64 n.kind, .int .i64 n.num, .string n.text, .string n.ref.sh, .int .i64 n.ref.c, .int .i64 n.ref.r, .bool n.ref.ac, .bool n.ref.ar, .string n.to.sh, .int .i64 n.to.c, .int .i64 n.to.r, .bool n.to.ac, .bool n.to.ar, .slice A m c] 38)).alloc (.cells zNod 38) = w1 at hx2 hy HB hb2 ⊢
  obtain ⟨x0, x1, x2, x3, x4, x5, x6, x7, x8, x9, x10, x11, x12, x13⟩ := hx2.cells
  obtain ⟨y0, y1, y2, y3, y4, y5, y6, y7, y8, y9, y10, y11, y12, y13⟩ := hy.cells
  obtain ⟨f0, f1, f2, f3, f4, f5, f6, f7, f8, f9, f10, f11, f12, f13⟩ := hy.melts
  have HY := Lib.hid hy
  have HX := Lib.hid hx2
  clear hx hx2 hy
  go_wp2_with (go_at_call 94; ((with_reducible refine (isOfTwo_any _ _).mono ?_); rintro e w2 ⟨rfl, rfl⟩))
  all_goals exact bodyPost_ret (out_nod (HY.out.put14 Nd.zero (.slice none 0 0)) _ _ _ 2 3 res_fields rfl rfl) rfl ⟨rfl, below_set14 HB.out (by have := HB.out.size; omega) _ _ _ _ _ _ _ _ _ _ _ _ _ _⟩

end Go.Proofs.YtdfpalocnijefaaGreatDoor

/-
  Layer 5, the program: which nodes may be.
-/
namespace Go.Proofs.YtdfpalocnijefaaGreatDoor
open Go.RowKit

set_option maxRecDepth 100000 in
theorem fields_any (w : World) (n : Nd) (hv : Vars w) (hs : n.text.size ≤ 1000000) (hr : n.ref.sh.size ≤ 1000000) (ht : n.to.sh.size ≤ 1000000) (A : Option Addr) (m c : Nat) :
    Calls Tryz.prog 52 #[.agg #[.int .i64 n.kind, .int .i64 n.num, .string n.text, .string n.ref.sh, .int .i64 n.ref.c, .int .i64 n.ref.r, .bool n.ref.ac, .bool n.ref.ar, .string n.to.sh, .int .i64 n.to.c, .int .i64 n.to.r, .bool n.to.ac, .bool n.to.ar, .slice A m c]] w fun e w' => e = .returned (.tuple #[.agg (nodA (namedN n) (.slice none 0 0)), .bool (okF n)]) ∧ Below w.heap.size w w' := by
  by_cases h1 : n.kind = 1
  · have e1 : namedN n = { Nd.zero with num := n.num } := by unfold namedN; rw [if_pos h1]
    have e2 : okF n = decide (0 ≤ n.num) := by unfold okF; rw [if_pos h1]
    rw [e1, e2]; exact fields_1 n h1 A m c w
  by_cases h2 : n.kind = 2
  · have e1 : namedN n = { Nd.zero with text := n.text } := by unfold namedN; rw [if_neg h1, if_pos h2]
    have e2 : okF n = printB (sb n.text) := by unfold okF; rw [if_neg h1, if_pos h2]
    rw [e1, e2]; exact fields_2 w n h2 hs A m c
  by_cases h3 : n.kind = 3
  · have e1 : namedN n = { Nd.zero with num := n.num } := by unfold namedN; rw [if_neg h1, if_neg h2, if_pos h3]
    have e2 : okF n = decide (n.num = 0 ∨ n.num = 1) := by unfold okF; rw [if_neg h1, if_neg h2, if_pos h3]
    rw [e1, e2]
    by_cases k0 : n.num = 0
    · rw [decide_eq_true (Or.inl k0)]; exact fields_3a w n h3 k0 A m c
    · by_cases k1 : n.num = 1
      · rw [decide_eq_true (Or.inr k1)]; exact fields_3b w n h3 k1 A m c
      · have k : ¬ (n.num = 0 ∨ n.num = 1) := by omega
        rw [decide_eq_false k]; exact fields_3c w n h3 k A m c
  by_cases h5 : n.kind = 5
  · have e1 : namedN n = { Nd.zero with ref := n.ref } := by unfold namedN; rw [if_neg h1, if_neg h2, if_neg h3, if_pos h5]
    have e2 : okF n = mayRf n.ref := by unfold okF; rw [if_neg h1, if_neg h2, if_neg h3, if_pos h5]
    rw [e1, e2]; exact fields_5 w n h5 hr A m c
  by_cases h6 : n.kind = 6
  · have e1 : namedN n = ⟨0, 0, ⟨#[]⟩, n.ref, n.to, []⟩ := by unfold namedN; rw [if_neg h1, if_neg h2, if_neg h3, if_neg h5, if_pos h6]
    have e2 : okF n = (mayRf n.ref && (mayRf n.to && spanB n.ref n.to)) := by unfold okF; rw [if_neg h1, if_neg h2, if_neg h3, if_neg h5, if_pos h6]
    rw [e1, e2]
    cases q1 : mayRf n.ref
    · exact fields_6a w n h6 hr ht q1 A m c
    · cases q2 : mayRf n.to
      · exact fields_6b w n h6 hr ht q1 q2 A m c
      · exact fields_6c w n h6 hr ht q1 q2 A m c
  by_cases h7 : n.kind = 7
  · have e1 : namedN n = { Nd.zero with text := n.text } := by unfold namedN; rw [if_neg h1, if_neg h2, if_neg h3, if_neg h5, if_neg h6, if_pos h7]
    have e2 : okF n = callB n.text := by unfold okF; rw [if_neg h1, if_neg h2, if_neg h3, if_neg h5, if_neg h6, if_pos h7]
    rw [e1, e2]; exact fields_7 w n h7 hv A m c
  have e1 : namedN n = Nd.zero := by unfold namedN; rw [if_neg h1, if_neg h2, if_neg h3, if_neg h5, if_neg h6, if_neg h7]
  have e2 : okF n = (decide (n.kind = 4 ∨ n.kind = 8) || twoB n.kind) := by unfold okF; rw [if_neg h1, if_neg h2, if_neg h3, if_neg h5, if_neg h6, if_neg h7]
  rw [e1, e2]
  by_cases h4 : n.kind = 4
  · rw [decide_eq_true (Or.inl h4), Bool.true_or]; exact fields_0a w n h1 h2 h3 h5 h6 h7 h4 A m c
  · by_cases h8 : n.kind = 8
    · rw [decide_eq_true (Or.inr h8), Bool.true_or]; exact fields_0b w n h1 h2 h3 h5 h6 h7 h8 A m c
    · rw [decide_eq_false (by omega), Bool.false_or]; exact fields_0c w n h1 h2 h3 h5 h6 h7 h4 h8 A m c
def eqR (a b : Rf) : Bool := decide (a.sh = b.sh) && (decide (a.c = b.c) && (decide (a.r = b.r) && ((a.ac == b.ac) && (a.ar == b.ar))))
theorem eqR_iff (a b : Rf) : eqR a b = true ↔ a = b := by
  unfold eqR
  simp only [Bool.and_eq_true, decide_eq_true_iff, beq_iff_eq]
  cases a; cases b
  simp
theorem eqR_of {a b : Rf} (h1 : a.sh.toList = b.sh.toList) (h2 : a.c = b.c) (h3 : a.r = b.r) (h4 : a.ac = b.ac) (h5 : a.ar = b.ar) : eqR a b = true := by
  have hs : a.sh = b.sh := by
    by_cases h : a.sh = b.sh
    · exact h
    · exact absurd h1 (text_ne _ _ h)
  rw [eqR_iff]
  cases a; cases b
  simp only at hs h2 h3 h4 h5
  rw [hs, h2, h3, h4, h5]
def isNd (n : Nd) (m : Nat) : Bool := okF n && (hkB n.kind m && (decide (n.num = (namedN n).num) && (decide (n.text = (namedN n).text) && (eqR n.ref (namedN n).ref && eqR n.to (namedN n).to))))

set_option maxRecDepth 100000 in
set_option maxHeartbeats 4000000 in
theorem isNode_any (w : World) (n : Nd) (hv : Vars w) (hs : n.text.size ≤ 1000000) (hr : n.ref.sh.size ≤ 1000000) (ht : n.to.sh.size ≤ 1000000) (A : Option Addr) (m c : Nat) (hm : m ≤ maxLen) :
    Calls Tryz.prog 30 #[.agg #[.int .i64 n.kind, .int .i64 n.num, .string n.text, .string n.ref.sh, .int .i64 n.ref.c, .int .i64 n.ref.r, .bool n.ref.ac, .bool n.ref.ar, .string n.to.sh, .int .i64 n.to.c, .int .i64 n.to.r, .bool n.to.ac, .bool n.to.ar, .slice A m c]] w fun e w' => e = .returned (.bool (isNd n m)) ∧ Below w.heap.size w w' := by
  obtain ⟨N, hN⟩ : ∃ N, namedN n = N := ⟨_, rfl⟩
  obtain ⟨ok, hok⟩ : ∃ ok, okF n = ok := ⟨_, rfl⟩
  obtain ⟨hk, hhk⟩ : ∃ hk, hkB n.kind m = hk := ⟨_, rfl⟩
  have HI := Lib.hid (show isNd n m = (ok && (hk && (decide (n.num = N.num) && (decide (n.text = N.text) && (eqR n.ref N.ref && eqR n.to N.to))))) by unfold isNd; rw [hN, hok, hhk])
  have HF := Lib.hid (show ∀ w, Vars w → Calls Tryz.prog 52 #[.agg #[.int .i64 n.kind, .int .i64 n.num, .string n.text, .string n.ref.sh, .int .i64 n.ref.c, .int .i64 n.ref.r, .bool n.ref.ac, .bool n.ref.ar, .string n.to.sh, .int .i64 n.to.c, .int .i64 n.to.r, .bool n.to.ac, .bool n.to.ar, .slice A m c]] w fun e w' => e = .returned (.tuple #[.agg #[.int .i64 N.kind, .int .i64 N.num, .string N.text, .string N.ref.sh, .int .i64 N.ref.c, .int .i64 N.ref.r, .bool N.ref.ac, .bool N.ref.ar, .string N.to.sh, .int .i64 N.to.c, .int .i64 N.to.r, .bool N.to.ac, .bool N.to.ar, .slice none 0 0], .bool ok]) ∧ Below w.heap.size w w' from fun w hv => by rw [← hN, ← hok]; exact fields_any w n hv hs hr ht A m c)
  have HH := Lib.hid (show ∀ w, Calls Tryz.prog 53 #[.agg #[.int .i64 n.kind, .int .i64 n.num, .string n.text, .string n.ref.sh, .int .i64 n.ref.c, .int .i64 n.ref.r, .bool n.ref.ac, .bool n.ref.ar, .string n.to.sh, .int .i64 n.to.c, .int .i64 n.to.r, .bool n.to.ac, .bool n.to.ar, .slice A m c]] w fun e w' => e = .returned (.bool hk) ∧ Below w.heap.size w w' from fun w => by rw [← hhk]; exact hasKids_any n A m c hm w)
  have hx : NdAt (w.alloc (.cells #[.int .i64 n.kind, .int .i64 n.num, .string n.text, .string n.ref.sh, .int .i64 n.ref.c, .int .i64 n.ref.r, .bool n.ref.ac, .bool n.ref.ar, .string n.to.sh, .int .i64 n.to.c, .int .i64 n.to.r, .bool n.to.ac, .bool n.to.ar, .slice A m c] 38)) w.heap.size n (.slice A m c) := NdAt.new w n _
  have HB := Lib.hid ((Below.refl w.heap.size w).alloc (Nat.le_refl _) (.cells #[.int .i64 n.kind, .int .i64 n.num, .string n.text, .string n.ref.sh, .int .i64 n.ref.c, .int .i64 n.ref.r, .bool n.ref.ac, .bool n.ref.ar, .string n.to.sh, .int .i64 n.to.c, .int .i64 n.to.r, .bool n.to.ac, .bool n.to.ar, .slice A m c] 38))
  have HV := Lib.hid hv
  clear hN hok hhk hv
  go_enter Tryz.func30, Tryz.ntmps30
  go_upto_region 1 with (fail)
  generalize w.alloc (.cells #[.int .i64 n.kind, .int .i64 n.num, .string n.text, .string n.ref.sh, .int .i64 n.ref.c, .int .i64 n.ref.r, .bool n.ref.ac, .bool n.ref.ar, .string n.to.sh, .int .i64 n.to.c, .int .i64 n.to.r, .bool n.to.ac, .bool n.to.ar, .slice A m c] 38) = w1 at hx HB ⊢
  generalize hb0 : w.heap.size = b0 at hx ⊢
  obtain ⟨x0, x1, x2, x3, x4, x5, x6, x7, x8, x9, x10, x11, x12, x13⟩ := hx.cells
  have HX := Lib.hid hx
  clear hx
  go_upto_region 2 with (go_at_call 52; ((with_reducible refine (HF.out _ (HV.out.below HB.out)).mono ?_); rintro e w2 ⟨rfl, h1⟩; have HX2 := Lib.hid (HX.out.below h1 HX.out.lt); have HB2 := Lib.hid (HB.out.trans (h1.mono HB.out.size)); clear h1))
  have hB3 : Below w2.heap.size w2 (w2.alloc (.cells #[.int .i64 N.kind, .int .i64 N.num, .string N.text, .string N.ref.sh, .int .i64 N.ref.c, .int .i64 N.ref.r, .bool N.ref.ac, .bool N.ref.ar, .string N.to.sh, .int .i64 N.to.c, .int .i64 N.to.r, .bool N.to.ac, .bool N.to.ar, .slice none 0 0] 38)) := (Below.refl _ _).alloc (Nat.le_refl _) _
  have hy : NdAt (w2.alloc (.cells #[.int .i64 N.kind, .int .i64 N.num, .string N.text, .string N.ref.sh, .int .i64 N.ref.c, .int .i64 N.ref.r, .bool N.ref.ac, .bool N.ref.ar, .string N.to.sh, .int .i64 N.to.c, .int .i64 N.to.r, .bool N.to.ac, .bool N.to.ar, .slice none 0 0] 38)) w2.heap.size N (.slice none 0 0) := NdAt.new w2 N _
  have HX3 := Lib.hid (HX2.out.below hB3 HX2.out.lt)
  have HB3 := Lib.hid (HB2.out.trans (hB3.mono HB2.out.size))
  clear hB3 x0 x1 x2 x3 x4 x5 x6 x7 x8 x9 x10 x11 x12 x13
  generalize hb3 : w2.heap.size = b3 at hy ⊢
  generalize w2.alloc (.cells #[.int .i64 N.kind, .int .i64 N.num, .string N.text, .string N.ref.sh, .int .i64 N.ref.c, .int .i64 N.ref.r, .bool N.ref.ac, .bool N.ref.ar, .string N.to.sh, .int .i64 N.to.c, .int .i64 N.to.r, .bool N.to.ac, .bool N.to.ar, .slice none 0 0] 38) = w3 at hy HX3 HB3 ⊢
  clear hb3
  have HY3 := Lib.hid hy
  clear hy
  cases ok
  · obtain ⟨x0, x1, x2, x3, x4, x5, x6, x7, x8, x9, x10, x11, x12, x13⟩ := HX3.out.cells
    have HR := Lib.hid (show isNd n m = false by rw [HI.out]; rfl)
    go_wp2_with fail
    go_ret
    exact ⟨by rw [HR.out] <;> rfl, HB3.out⟩
  have go1 := HX3.out.cells
  obtain ⟨x0, x1, x2, x3, x4, x5, x6, x7, x8, x9, x10, x11, x12, x13⟩ := go1
  cases hk
  · have HR := Lib.hid (show isNd n m = false by rw [HI.out]; rfl)
    go_wp2_with (go_at_call 53; ((with_reducible refine (HH.out _).mono ?_); rintro e w4 ⟨rfl, h1⟩; have HB4 := Lib.hid (HB3.out.trans (h1.mono HB3.out.size)); clear h1))
    go_ret
    exact ⟨by rw [HR.out] <;> rfl, HB4.out⟩
  by_cases hnum : n.num = N.num
  rotate_left
  · have HR := Lib.hid (show isNd n m = false by rw [HI.out, decide_eq_false hnum]; rfl)
    have en : (n.num == N.num) = false := beq_eq_false_iff_ne.2 hnum
    go_wp2_with (go_at_call 53; ((with_reducible refine (HH.out _).mono ?_); rintro e w4 ⟨rfl, h1⟩; have HB4 := Lib.hid (HB3.out.trans (h1.mono HB3.out.size)); obtain ⟨z0, z1, z2, z3, z4, z5, z6, z7, z8, z9, z10, z11, z12, z13⟩ := (HX3.out.below h1 HX3.out.lt).cells; obtain ⟨y0, y1, y2, y3, y4, y5, y6, y7, y8, y9, y10, y11, y12, y13⟩ := (HY3.out.below h1 HY3.out.lt).cells; clear h1))
    go_ret
    exact ⟨by rw [HR.out] <;> rfl, HB4.out⟩
  have en : (n.num == N.num) = true := beq_iff_eq.2 hnum
  by_cases htx : n.text = N.text
  rotate_left
  · have HR := Lib.hid (show isNd n m = false by rw [HI.out, decide_eq_true hnum, decide_eq_false htx]; rfl)
    have et : (n.text.toList == N.text.toList) = false := beq_eq_false_iff_ne.2 (text_ne _ _ htx)
    clear hnum htx
    go_wp2_with (go_at_call 53; ((with_reducible refine (HH.out _).mono ?_); rintro e w4 ⟨rfl, h1⟩; have HB4 := Lib.hid (HB3.out.trans (h1.mono HB3.out.size)); obtain ⟨z0, z1, z2, z3, z4, z5, z6, z7, z8, z9, z10, z11, z12, z13⟩ := (HX3.out.below h1 HX3.out.lt).cells; obtain ⟨y0, y1, y2, y3, y4, y5, y6, y7, y8, y9, y10, y11, y12, y13⟩ := (HY3.out.below h1 HY3.out.lt).cells; clear h1))
    go_ret
    exact ⟨by rw [HR.out] <;> rfl, HB4.out⟩
  have et : (n.text.toList == N.text.toList) = true := by rw [htx]; simp
  have HR := Lib.hid (show isNd n m = (eqR n.ref N.ref && eqR n.to N.to) by rw [HI.out, decide_eq_true hnum, decide_eq_true htx]; rfl)
  clear hnum htx
  go_wp2_with (go_at_call 53; ((with_reducible refine (HH.out _).mono ?_); rintro e w4 ⟨rfl, h1⟩; have HB4 := Lib.hid (HB3.out.trans (h1.mono HB3.out.size)); obtain ⟨z0, z1, z2, z3, z4, z5, z6, z7, z8, z9, z10, z11, z12, z13⟩ := (HX3.out.below h1 HX3.out.lt).cells; obtain ⟨y0, y1, y2, y3, y4, y5, y6, y7, y8, y9, y10, y11, y12, y13⟩ := (HY3.out.below h1 HY3.out.lt).cells; clear h1))
  all_goals go_ret
  all_goals first
    | exact ⟨by rw [HR.out, eqR_of ‹n.ref.sh.toList = N.ref.sh.toList› ‹n.ref.c = N.ref.c› ‹n.ref.r = N.ref.r› ‹n.ref.ac = N.ref.ac› ‹n.ref.ar = N.ref.ar›, eqR_of ‹n.to.sh.toList = N.to.sh.toList› ‹n.to.c = N.to.c› ‹n.to.r = N.to.r› ‹n.to.ac = N.to.ac› ‹n.to.ar = N.to.ar›] <;> rfl, HB4.out⟩
    | (have key : (eqR n.ref N.ref && eqR n.to N.to) = false := by
        cases hq : (eqR n.ref N.ref && eqR n.to N.to)
        · rfl
        · exfalso
          rw [Bool.and_eq_true, eqR_iff, eqR_iff] at hq
          obtain ⟨q1, q2⟩ := hq
          first
            | exact absurd (by rw [q1]) ‹¬ n.ref.sh.toList = N.ref.sh.toList›
            | exact absurd (by rw [q1]) ‹¬ n.ref.c = N.ref.c›
            | exact absurd (by rw [q1]) ‹¬ n.ref.r = N.ref.r›
            | exact absurd (by rw [q1]) ‹¬ n.ref.ac = N.ref.ac›
            | exact absurd (by rw [q1]) ‹¬ n.ref.ar = N.ref.ar›
            | exact absurd (by rw [q2]) ‹¬ n.to.sh.toList = N.to.sh.toList›
            | exact absurd (by rw [q2]) ‹¬ n.to.c = N.to.c›
            | exact absurd (by rw [q2]) ‹¬ n.to.r = N.to.r›
            | exact absurd (by rw [q2]) ‹¬ n.to.ac = N.to.ac›
            | exact absurd (by rw [q2]) ‹¬ n.to.ar = N.to.ar›
       exact ⟨by rw [HR.out, key] <;> rfl, HB4.out⟩)
end Go.Proofs.YtdfpalocnijefaaGreatDoor

/-
  Layer 5, the program: which nodes may be, as the reference says it.
-/
namespace Go.Proofs.YtdfpalocnijefaaGreatDoor
open Go.RowKit

theorem eqR_self (a : Rf) : eqR a a = true := (eqR_iff a a).2 rfl
theorem noRf_eq (r : Rf) : noRf r = eqR r Rf.zero := by
  obtain ⟨sh, c, r, ac, ar⟩ := r
  unfold noRf eqR Rf.zero
  simp only
  rw [Bool.eq_iff_iff]
  simp only [Bool.and_eq_true, decide_eq_true_iff, beq_iff_eq, Bool.not_eq_true']
  constructor
  · rintro ⟨⟨h1, h2, h3⟩, h4, h5⟩; exact ⟨h1, h2, h3, h4, h5⟩
  · rintro ⟨h1, h2, h3, h4, h5⟩; exact ⟨⟨h1, h2, h3⟩, h4, h5⟩
/-- As okF, but for the kinds that have no fields. -/
def ok2 (n : Nd) : Bool :=
  if n.kind = 1 then decide (0 ≤ n.num) else if n.kind = 2 then printB (sb n.text) else if n.kind = 3 then decide (n.num = 0 ∨ n.num = 1)
  else if n.kind = 5 then mayRf n.ref else if n.kind = 6 then mayRf n.ref && (mayRf n.to && spanB n.ref n.to) else if n.kind = 7 then callB n.text else true
def cNum (n : Nd) : Bool := decide (n.kind = 1 ∨ n.kind = 3 ∨ n.num = 0)
def cText (n : Nd) : Bool := decide (n.kind = 2 ∨ n.kind = 7 ∨ n.text = ⟨#[]⟩)
def cRef (n : Nd) : Bool := decide (n.kind = 5 ∨ n.kind = 6) || eqR n.ref Rf.zero
def cTo (n : Nd) : Bool := decide (n.kind = 6) || eqR n.to Rf.zero
theorem named_cases (n : Nd) : (n.kind = 1 ∧ namedN n = { Nd.zero with num := n.num }) ∨ (n.kind = 2 ∧ namedN n = { Nd.zero with text := n.text }) ∨ (n.kind = 3 ∧ namedN n = { Nd.zero with num := n.num }) ∨ (n.kind = 5 ∧ namedN n = { Nd.zero with ref := n.ref }) ∨ (n.kind = 6 ∧ namedN n = ⟨0, 0, ⟨#[]⟩, n.ref, n.to, []⟩) ∨ (n.kind = 7 ∧ namedN n = { Nd.zero with text := n.text }) ∨ (¬ n.kind = 1 ∧ ¬ n.kind = 2 ∧ ¬ n.kind = 3 ∧ ¬ n.kind = 5 ∧ ¬ n.kind = 6 ∧ ¬ n.kind = 7 ∧ namedN n = Nd.zero) := by
  unfold namedN
  by_cases h1 : n.kind = 1
  · exact Or.inl ⟨h1, by rw [if_pos h1]⟩
  by_cases h2 : n.kind = 2
  · exact Or.inr <| Or.inl ⟨h2, by rw [if_neg h1, if_pos h2]⟩
  by_cases h3 : n.kind = 3
  · exact Or.inr <| Or.inr <| Or.inl ⟨h3, by rw [if_neg h1, if_neg h2, if_pos h3]⟩
  by_cases h5 : n.kind = 5
  · exact Or.inr <| Or.inr <| Or.inr <| Or.inl ⟨h5, by rw [if_neg h1, if_neg h2, if_neg h3, if_pos h5]⟩
  by_cases h6 : n.kind = 6
  · exact Or.inr <| Or.inr <| Or.inr <| Or.inr <| Or.inl ⟨h6, by rw [if_neg h1, if_neg h2, if_neg h3, if_neg h5, if_pos h6]⟩
  by_cases h7 : n.kind = 7
  · exact Or.inr <| Or.inr <| Or.inr <| Or.inr <| Or.inr <| Or.inl ⟨h7, by rw [if_neg h1, if_neg h2, if_neg h3, if_neg h5, if_neg h6, if_pos h7]⟩
  exact Or.inr <| Or.inr <| Or.inr <| Or.inr <| Or.inr <| Or.inr <| ⟨h1, h2, h3, h5, h6, h7, by rw [if_neg h1, if_neg h2, if_neg h3, if_neg h5, if_neg h6, if_neg h7]⟩
theorem named_num (n : Nd) : decide (n.num = (namedN n).num) = cNum n := by
  rcases named_cases n with ⟨h, e⟩ | ⟨h, e⟩ | ⟨h, e⟩ | ⟨h, e⟩ | ⟨h, e⟩ | ⟨h, e⟩ | ⟨h1, h2, h3, h5, h6, h7, e⟩
  · rw [e]; unfold cNum; rw [show decide (n.num = n.num) = true from decide_eq_true rfl]; symm; rw [decide_eq_true_iff]; first | exact .inl h | exact .inr (.inl h)
  · rw [e]; unfold cNum; show decide (n.num = 0) = _; rw [decide_eq_decide]; constructor
    · intro g; exact .inr (.inr g)
    · rintro (g | g | g)
      · omega
      · omega
      · exact g
  · rw [e]; unfold cNum; rw [show decide (n.num = n.num) = true from decide_eq_true rfl]; symm; rw [decide_eq_true_iff]; first | exact .inl h | exact .inr (.inl h)
  · rw [e]; unfold cNum; show decide (n.num = 0) = _; rw [decide_eq_decide]; constructor
    · intro g; exact .inr (.inr g)
    · rintro (g | g | g)
      · omega
      · omega
      · exact g
  · rw [e]; unfold cNum; show decide (n.num = 0) = _; rw [decide_eq_decide]; constructor
    · intro g; exact .inr (.inr g)
    · rintro (g | g | g)
      · omega
      · omega
      · exact g
  · rw [e]; unfold cNum; show decide (n.num = 0) = _; rw [decide_eq_decide]; constructor
    · intro g; exact .inr (.inr g)
    · rintro (g | g | g)
      · omega
      · omega
      · exact g
  · rw [e]; unfold cNum; show decide (n.num = 0) = _; rw [decide_eq_decide]; constructor
    · intro g; exact .inr (.inr g)
    · rintro (g | g | g)
      · omega
      · omega
      · exact g
theorem named_text (n : Nd) : decide (n.text = (namedN n).text) = cText n := by
  rcases named_cases n with ⟨h, e⟩ | ⟨h, e⟩ | ⟨h, e⟩ | ⟨h, e⟩ | ⟨h, e⟩ | ⟨h, e⟩ | ⟨h1, h2, h3, h5, h6, h7, e⟩
  · rw [e]; unfold cText; show decide (n.text = ⟨#[]⟩) = _; rw [decide_eq_decide]; constructor
    · intro g; exact .inr (.inr g)
    · rintro (g | g | g)
      · omega
      · omega
      · exact g
  · rw [e]; unfold cText; rw [show decide (n.text = n.text) = true from decide_eq_true rfl]; symm; rw [decide_eq_true_iff]; first | exact .inl h | exact .inr (.inl h)
  · rw [e]; unfold cText; show decide (n.text = ⟨#[]⟩) = _; rw [decide_eq_decide]; constructor
    · intro g; exact .inr (.inr g)
    · rintro (g | g | g)
      · omega
      · omega
      · exact g
  · rw [e]; unfold cText; show decide (n.text = ⟨#[]⟩) = _; rw [decide_eq_decide]; constructor
    · intro g; exact .inr (.inr g)
    · rintro (g | g | g)
      · omega
      · omega
      · exact g
  · rw [e]; unfold cText; show decide (n.text = ⟨#[]⟩) = _; rw [decide_eq_decide]; constructor
    · intro g; exact .inr (.inr g)
    · rintro (g | g | g)
      · omega
      · omega
      · exact g
  · rw [e]; unfold cText; rw [show decide (n.text = n.text) = true from decide_eq_true rfl]; symm; rw [decide_eq_true_iff]; first | exact .inl h | exact .inr (.inl h)
  · rw [e]; unfold cText; show decide (n.text = ⟨#[]⟩) = _; rw [decide_eq_decide]; constructor
    · intro g; exact .inr (.inr g)
    · rintro (g | g | g)
      · omega
      · omega
      · exact g
theorem named_ref (n : Nd) : eqR n.ref (namedN n).ref = cRef n := by
  rcases named_cases n with ⟨h, e⟩ | ⟨h, e⟩ | ⟨h, e⟩ | ⟨h, e⟩ | ⟨h, e⟩ | ⟨h, e⟩ | ⟨h1, h2, h3, h5, h6, h7, e⟩
  · rw [e]; unfold cRef; show eqR n.ref Rf.zero = _; rw [decide_eq_false (by omega)]; rfl
  · rw [e]; unfold cRef; show eqR n.ref Rf.zero = _; rw [decide_eq_false (by omega)]; rfl
  · rw [e]; unfold cRef; show eqR n.ref Rf.zero = _; rw [decide_eq_false (by omega)]; rfl
  · rw [e]; unfold cRef; rw [show eqR n.ref n.ref = true from eqR_self _, decide_eq_true (by omega)]; rfl
  · rw [e]; unfold cRef; rw [show eqR n.ref n.ref = true from eqR_self _, decide_eq_true (by omega)]; rfl
  · rw [e]; unfold cRef; show eqR n.ref Rf.zero = _; rw [decide_eq_false (by omega)]; rfl
  · rw [e]; unfold cRef; show eqR n.ref Rf.zero = _; rw [decide_eq_false (by omega)]; rfl
theorem named_to (n : Nd) : eqR n.to (namedN n).to = cTo n := by
  rcases named_cases n with ⟨h, e⟩ | ⟨h, e⟩ | ⟨h, e⟩ | ⟨h, e⟩ | ⟨h, e⟩ | ⟨h, e⟩ | ⟨h1, h2, h3, h5, h6, h7, e⟩
  · rw [e]; unfold cTo; show eqR n.to Rf.zero = _; rw [decide_eq_false (by omega)]; rfl
  · rw [e]; unfold cTo; show eqR n.to Rf.zero = _; rw [decide_eq_false (by omega)]; rfl
  · rw [e]; unfold cTo; show eqR n.to Rf.zero = _; rw [decide_eq_false (by omega)]; rfl
  · rw [e]; unfold cTo; show eqR n.to Rf.zero = _; rw [decide_eq_false (by omega)]; rfl
  · rw [e]; unfold cTo; rw [show eqR n.to n.to = true from eqR_self _, decide_eq_true (by omega)]; rfl
  · rw [e]; unfold cTo; show eqR n.to Rf.zero = _; rw [decide_eq_false (by omega)]; rfl
  · rw [e]; unfold cTo; show eqR n.to Rf.zero = _; rw [decide_eq_false (by omega)]; rfl
theorem leaf_eq (n : Nd) : leafB n = ((cNum n && (cText n && (cRef n && cTo n))) && ok2 n) := by
  unfold leafB cNum cText cRef cTo
  rw [noRf_eq, noRf_eq]
  have hk : (if n.kind = 1 then decide (0 ≤ n.num) else if n.kind = 3 then decide (n.num = 0 ∨ n.num = 1) else if n.kind = 2 then printB (sb n.text) else if n.kind = 7 then callB n.text else if n.kind = 5 then mayRf n.ref else if n.kind = 6 then mayRf n.ref && (mayRf n.to && spanB n.ref n.to) else true) = ok2 n := by
    unfold ok2
    by_cases h1 : n.kind = 1
    · rw [if_pos h1, if_pos h1]
    by_cases h2 : n.kind = 2
    · rw [if_neg h1, if_neg (by omega), if_pos h2, if_neg h1, if_pos h2]
    by_cases h3 : n.kind = 3
    · rw [if_neg h1, if_pos h3, if_neg h1, if_neg h2, if_pos h3]
    by_cases h5 : n.kind = 5
    · rw [if_neg h1, if_neg h3, if_neg h2, if_neg (by omega), if_pos h5, if_neg h1, if_neg h2, if_neg h3, if_pos h5]
    by_cases h6 : n.kind = 6
    · rw [if_neg h1, if_neg h3, if_neg h2, if_neg (by omega), if_neg h5, if_pos h6, if_neg h1, if_neg h2, if_neg h3, if_neg h5, if_pos h6]
    by_cases h7 : n.kind = 7
    · rw [if_neg h1, if_neg h3, if_neg h2, if_pos h7, if_neg h1, if_neg h2, if_neg h3, if_neg h5, if_neg h6, if_pos h7]
    rw [if_neg h1, if_neg h3, if_neg h2, if_neg h7, if_neg h5, if_neg h6, if_neg h1, if_neg h2, if_neg h3, if_neg h5, if_neg h6, if_neg h7]
  rw [hk]
  by_cases q1 : n.kind = 1 ∨ n.kind = 3 ∨ n.num = 0
  · by_cases q2 : n.kind = 2 ∨ n.kind = 7 ∨ n.text = ⟨#[]⟩
    · by_cases q3 : n.kind = 5 ∨ n.kind = 6
      · by_cases q4 : n.kind = 6
        · rw [decide_eq_true q1, decide_eq_true q2, decide_eq_true q3, decide_eq_true q4, if_neg]
          · rfl
          · rintro (g | g | g | g)
            · omega
            · rcases q2 with q | q | q
              · exact g.1 q
              · exact g.2.1 q
              · exact g.2.2 q
            · omega
            · omega
        · cases q5 : eqR n.to Rf.zero
          · rw [if_pos (.inr (.inr (.inr ⟨q4, rfl⟩))), decide_eq_false q4, Bool.or_false, Bool.and_false, Bool.and_false, Bool.and_false]; rfl
          · rw [decide_eq_true q1, decide_eq_true q2, decide_eq_true q3, decide_eq_false q4, if_neg]
            · rfl
            · rintro (g | g | g | g)
              · omega
              · rcases q2 with q | q | q
                · exact g.1 q
                · exact g.2.1 q
                · exact g.2.2 q
              · omega
              · cases g.2
      · cases q5 : eqR n.ref Rf.zero
        · rw [if_pos (.inr (.inr (.inl ⟨by omega, by omega, rfl⟩))), decide_eq_false q3, Bool.or_false, Bool.false_and, Bool.and_false, Bool.and_false]; rfl
        · cases q6 : eqR n.to Rf.zero
          · rw [if_pos (.inr (.inr (.inr ⟨by omega, rfl⟩))), decide_eq_false (show ¬ n.kind = 6 by omega), Bool.or_false, Bool.and_false, Bool.and_false, Bool.and_false]; rfl
          · rw [decide_eq_true q1, decide_eq_true q2, decide_eq_false q3, if_neg]
            · cases decide (n.kind = 6) <;> rfl
            · rintro (g | g | g | g)
              · omega
              · rcases q2 with q | q | q
                · exact g.1 q
                · exact g.2.1 q
                · exact g.2.2 q
              · cases g.2.2
              · cases g.2
    · rw [if_pos (.inr (.inl ⟨fun h => q2 (.inl h), fun h => q2 (.inr (.inl h)), fun h => q2 (.inr (.inr h))⟩)), decide_eq_false q2, Bool.false_and, Bool.and_false]; rfl
  · rw [if_pos (.inl ⟨fun h => q1 (.inl h), fun h => q1 (.inr (.inl h)), fun h => q1 (.inr (.inr h))⟩), decide_eq_false q1]; rfl
theorem kids_eq (n : Nd) (m : Nat) : (okF n && hkB n.kind m) = (ok2 n && (decide (armsN n.kind = -1) || decide (armsN n.kind = m))) := by
  have c0 : decide ((0 : Int) = (m : Int)) = decide (m = 0) := by rw [decide_eq_decide]; omega
  have c1 : decide ((1 : Int) = (m : Int)) = decide (m = 1) := by rw [decide_eq_decide]; omega
  have c2 : decide ((2 : Int) = (m : Int)) = decide (m = 2) := by rw [decide_eq_decide]; omega
  have c3 : decide ((-2 : Int) = (m : Int)) = false := by rw [decide_eq_false_iff_not]; omega
  unfold okF ok2 hkB armsN twoB
  by_cases h1 : n.kind = 1
  · rw [if_pos h1, if_pos h1, if_neg (show ¬ n.kind = 7 by omega), if_neg (show ¬ n.kind = 8 by omega), decide_eq_false (show ¬ (9 ≤ n.kind ∧ n.kind ≤ 19) by omega), if_pos (show 1 ≤ n.kind ∧ n.kind ≤ 6 by omega), c0]; rfl
  by_cases h2 : n.kind = 2
  · rw [if_neg h1, if_pos h2, if_neg h1, if_pos h2, if_neg (show ¬ n.kind = 7 by omega), if_neg (show ¬ n.kind = 8 by omega), decide_eq_false (show ¬ (9 ≤ n.kind ∧ n.kind ≤ 19) by omega), if_pos (show 1 ≤ n.kind ∧ n.kind ≤ 6 by omega), c0]; rfl
  by_cases h3 : n.kind = 3
  · rw [if_neg h1, if_neg h2, if_pos h3, if_neg h1, if_neg h2, if_pos h3, if_neg (show ¬ n.kind = 7 by omega), if_neg (show ¬ n.kind = 8 by omega), decide_eq_false (show ¬ (9 ≤ n.kind ∧ n.kind ≤ 19) by omega), if_pos (show 1 ≤ n.kind ∧ n.kind ≤ 6 by omega), c0]; rfl
  by_cases h5 : n.kind = 5
  · rw [if_neg h1, if_neg h2, if_neg h3, if_pos h5, if_neg h1, if_neg h2, if_neg h3, if_pos h5, if_neg (show ¬ n.kind = 7 by omega), if_neg (show ¬ n.kind = 8 by omega), decide_eq_false (show ¬ (9 ≤ n.kind ∧ n.kind ≤ 19) by omega), if_pos (show 1 ≤ n.kind ∧ n.kind ≤ 6 by omega), c0]; rfl
  by_cases h6 : n.kind = 6
  · rw [if_neg h1, if_neg h2, if_neg h3, if_neg h5, if_pos h6, if_neg h1, if_neg h2, if_neg h3, if_neg h5, if_pos h6, if_neg (show ¬ n.kind = 7 by omega), if_neg (show ¬ n.kind = 8 by omega), decide_eq_false (show ¬ (9 ≤ n.kind ∧ n.kind ≤ 19) by omega), if_pos (show 1 ≤ n.kind ∧ n.kind ≤ 6 by omega), c0]; rfl
  by_cases h7 : n.kind = 7
  · rw [if_neg h1, if_neg h2, if_neg h3, if_neg h5, if_neg h6, if_pos h7, if_neg h1, if_neg h2, if_neg h3, if_neg h5, if_neg h6, if_pos h7, if_pos h7, if_neg (show ¬ (1 ≤ n.kind ∧ n.kind ≤ 6) by omega), if_pos h7]; rfl
  rw [if_neg h1, if_neg h2, if_neg h3, if_neg h5, if_neg h6, if_neg h7, if_neg h1, if_neg h2, if_neg h3, if_neg h5, if_neg h6, if_neg h7, if_neg h7, Bool.true_and]
  by_cases h8 : n.kind = 8
  · rw [if_pos h8, if_neg (show ¬ (1 ≤ n.kind ∧ n.kind ≤ 6) by omega), if_neg h7, if_pos h8, c1, decide_eq_true (show n.kind = 4 ∨ n.kind = 8 by omega)]; rfl
  by_cases h9 : 9 ≤ n.kind ∧ n.kind ≤ 19
  · rw [if_neg h8, if_neg (show ¬ (1 ≤ n.kind ∧ n.kind ≤ 6) by omega), if_neg h7, if_neg h8, if_pos h9, c2, decide_eq_true h9, if_pos rfl, Bool.or_true]; rfl
  by_cases h4 : n.kind = 4
  · rw [if_neg h8, if_pos (show 1 ≤ n.kind ∧ n.kind ≤ 6 by omega), c0, decide_eq_true (show n.kind = 4 ∨ n.kind = 8 by omega), decide_eq_false h9]; rfl
  rw [if_neg h8, if_neg (show ¬ (1 ≤ n.kind ∧ n.kind ≤ 6) by omega), if_neg h7, if_neg h8, if_neg h9, c3, decide_eq_false (show ¬ (n.kind = 4 ∨ n.kind = 8) by omega), decide_eq_false h9]; rfl
theorem isNd_eq (n : Nd) : isNd n n.kids.length = nodeB n := by
  unfold isNd nodeB
  rw [named_num, named_text, named_ref, named_to, leaf_eq]
  have h := kids_eq n n.kids.length
  revert h
  generalize (decide (armsN n.kind = -1) || decide (armsN n.kind = n.kids.length)) = d
  generalize hkB n.kind n.kids.length = c
  cases okF n <;> cases ok2 n <;> cases c <;> cases d <;> cases cNum n <;> cases cText n <;> cases cRef n <;> cases cTo n <;> simp
end Go.Proofs.YtdfpalocnijefaaGreatDoor
