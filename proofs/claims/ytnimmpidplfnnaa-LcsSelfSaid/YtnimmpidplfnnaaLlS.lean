/-
  Layer 15: a list beside itself, beside other texts, beside what is left of it: the law LcsSelf.
-/
import Derived.Test.YtnimmpidplfnnaaLlW
namespace Go.Proofs.Ytnimmpidplfnnaa
open Go.RowKit

theorem cut_firstX (A : Option Addr) (n cap m : Nat) (hm : m ≤ cap) (wq : World) (h0 : A = none → m = 0) :
    (Instr.slice 22 (.slice A n cap) none (some (.int .i64 (m : Int))) none).run Try.prog wq = .ok (.slice A m cap) wq := by
  have e3 : (Try.prog.info? 9).map (·.size) = some 1 := by kernel_rfl
  cases hq : Try.prog.info? 9 with
  | none => rw [hq] at e3; cases e3
  | some i =>
    cases A with
    | none =>
      obtain rfl : m = 0 := h0 rfl
      simp [Instr.slice, run_underlying Try.underlying22, Instr.sliceBounds, Instr.sliceBound, asIntOf, sizeOf, typeInfo, hq, go_sem]
    | some ad => simp [Instr.slice, run_underlying Try.underlying22, Instr.sliceBounds, Instr.sliceBound, asIntOf, sizeOf, typeInfo, hq, hm, go_sem]
theorem cut_lastX (g n cap k : Nat) (hk : k ≤ n) (hn : n ≤ cap) : ∃ A' : Option Addr, (A' = some ⟨g, k, none⟩ ∨ k = n) ∧ ∀ wq : World, (Instr.slice 22 (.slice (some ⟨g, 0, none⟩) n cap) (some (.int .i64 (k : Int))) none none).run Try.prog wq = .ok (.slice A' (n - k) (cap - k)) wq := by
  have e3 : (Try.prog.info? 9).map (·.size) = some 1 := by kernel_rfl
  cases hq : Try.prog.info? 9 with
  | none => rw [hq] at e3; cases e3
  | some i =>
    have hi : i.size = 1 := by rw [hq] at e3; simpa using e3
    by_cases hc : cap = k
    · have hkn : k = n := by omega
      refine ⟨some ⟨g, 0, none⟩, .inr hkn, fun wq => ?_⟩
      simp [Instr.slice, run_underlying Try.underlying22, Instr.sliceBounds, Instr.sliceBound, asIntOf, sizeOf, typeInfo, hq, hk, hc, go_sem]
    · refine ⟨some ⟨g, k, none⟩, .inl rfl, fun wq => ?_⟩
      simp [Instr.slice, run_underlying Try.underlying22, Instr.sliceBounds, Instr.sliceBound, asIntOf, sizeOf, typeInfo, hq, hi, hk, hc, go_sem, Addr.add_mid]
/-- What the call made, cut at a place. -/
theorem own_cuts {w : World} {lo : Nat} {v : Value} {l : List ByteArray} (h : OwnT w lo v l) (k : Nat) (hk : k ≤ l.length) : ∃ (A A' : Option Addr) (c : Nat), v = .slice A l.length c ∧ (∀ wq : World, (Instr.slice 22 (.slice A l.length c) none (some (.int .i64 (k : Int))) none).run Try.prog wq = .ok (.slice A k c) wq) ∧ SE encStr w w.heap.size (.slice A k c) (l.take k) ∧
    (∀ wq : World, (Instr.slice 22 (.slice A l.length c) (some (.int .i64 (k : Int))) none none).run Try.prog wq = .ok (.slice A' (l.length - k) (c - k)) wq) ∧ SE encStr w w.heap.size (.slice A' (l.length - k) (c - k)) (l.drop k) := by
  have htl : (l.take k).length = k := by rw [List.length_take]; omega
  have hdl : (l.drop k).length = l.length - k := List.length_drop ..
  rcases h.shape with ⟨rfl, rfl⟩ | ⟨g, c, rfl, hg, hl, hc, hm⟩
  · obtain rfl : k = 0 := by simpa using hk
    refine ⟨none, none, 0, rfl, fun wq => cut_firstX none 0 0 0 (Nat.le_refl _) wq (fun _ => rfl), SE.nil _ _ _, fun wq => ?_, SE.nil _ _ _⟩
    have e3 : (Try.prog.info? 9).map (·.size) = some 1 := by kernel_rfl
    cases hq : Try.prog.info? 9 with
    | none => rw [hq] at e3; cases e3
    | some i => simp [Instr.slice, run_underlying Try.underlying22, Instr.sliceBounds, Instr.sliceBound, asIntOf, sizeOf, typeInfo, hq, go_sem]
  · obtain ⟨A', hA, hcut⟩ := cut_lastX g l.length c k hk hc
    have hcell : ∀ (j : Nat) (t : ByteArray), l[j]? = some t → w.cell? ⟨g, j, none⟩ = some (.string t) := fun j t hj => h.cells j _ (by rw [all_encStr, List.getElem?_map, hj]; rfl)
    refine ⟨some ⟨g, 0, none⟩, A', c, rfl, fun wq => cut_firstX _ _ _ _ (by omega) wq (fun e => by cases e), ⟨_, c, by rw [htl], by omega, hm, .inr ⟨g, 0, rfl, hl, fun j u hj => ?_⟩⟩, hcut, ⟨A', c - k, by rw [hdl], by omega, by omega, ?_⟩⟩
    · rw [all_encStr, List.getElem?_map] at hj
      obtain ⟨t, ht, rfl⟩ := Option.map_eq_some_iff.1 hj
      have hjl := (List.getElem?_eq_some_iff.1 ht).1
      rw [List.getElem?_take_of_lt (by omega)] at ht
      rw [Nat.zero_add]; exact hcell j t ht
    · rcases hA with rfl | e
      · refine .inr ⟨g, k, rfl, hl, fun j u hj => ?_⟩
        rw [all_encStr, List.getElem?_map] at hj
        obtain ⟨t, ht, rfl⟩ := Option.map_eq_some_iff.1 hj
        rw [List.getElem?_drop] at ht
        exact hcell (k + j) t ht
      · exact .inl (List.drop_of_length_le (by omega))
/-- Places of a list beside itself. -/
def upN (n : Nat) : List Int := (List.range n).map fun (i : Nat) => (i : Int)
theorem upN_at (n i : Nat) (h : i < n) : (upN n)[i]? = some (i : Int) := by unfold upN; simp [h]
theorem upN_len (n : Nat) : (upN n).length = n := by unfold upN; simp
theorem pX_self (a : List ByteArray) : pX a a 0 0 = upN a.length := by
  unfold pX wkAt
  rw [List.drop_zero, wk_self, List.map_map, ← List.range_eq_range']; rfl
theorem pY_self (a : List ByteArray) : pY a a 0 0 = upN a.length := by
  unfold pY wkAt
  rw [List.drop_zero, wk_self, List.map_map, ← List.range_eq_range']; rfl
def exX (t : ByteArray) : ByteArray := t ++ (⟨#[120]⟩ : ByteArray)
theorem exX_size (t : ByteArray) : (exX t).size = t.size + 1 := by unfold exX; rw [ByteArray.size_append]; rfl
set_option maxRecDepth 100000 in
set_option maxHeartbeats 8000000 in
theorem lcsSelf_any (w : World) (A : Option Addr) (n cap : Nat) (xs : List Int) (t : Nat) (h : S8 w w.heap.size A n cap xs) (ht : t ≤ 255) :
    Calls Try.prog 6 #[.slice A n cap, .int .u8 (t : Int)] w fun e w' => e = .returned (.bool true) ∧ Below w.heap.size w w' := by
  have HAW := Lib.hid (fun (wq : World) => awake15_any wq)
  by_cases b1 : n ≤ 100
  · have i1 : ¬ (100 : Int) < (n : Int) := by omega
    obtain ⟨a, ha⟩ : ∃ a, letL xs = a := ⟨_, rfl⟩
    have hl := h.hlen
    have hal : a.length = n := by rw [← ha, letL_len, hl]
    have hone : ∀ t ∈ a, t.size = 1 := by rw [← ha]; exact letL_one
    have hza := one_max hone
    have HL1 := Lib.hid (letters_any w A n cap xs h (by omega))
    rw [ha] at HL1
    obtain ⟨k, hk⟩ : ∃ k, t % (n + 1) = k := ⟨_, rfl⟩
    have hkn : k ≤ n := by have := Nat.mod_lt t (show 0 < n + 1 by omega); omega
    obtain ⟨kz, hkz⟩ : ∃ kz : Int, (k : Int) = kz := ⟨_, rfl⟩
    have hrem : Int.tmod (t : Int) ((n : Int) + 1) = kz := by
      rw [Int.tmod_eq_emod_of_nonneg (by omega), ← hkz, ← hk, Int.natCast_emod]; rfl
    have wt : IntKind.i64.wrap (t : Int) = (t : Int) := by rw [IntKind.wrap_i64]; omega
    have wn : IntKind.i64.wrap ((n : Int) + 1) = (n : Int) + 1 := by rw [IntKind.wrap_i64]; omega
    have wk : IntKind.i64.wrap kz = kz := by rw [IntKind.wrap_i64]; omega
    have wd : IntKind.i64.wrap ((n : Int) - kz) = (n : Int) - kz := by rw [IntKind.wrap_i64]; omega
    have hnz : ((n : Int) + 1 == 0) = false := by rw [beq_eq_false_iff_ne]; omega
    have hnz2 : ¬ (n : Int) + 1 = 0 := by omega
    have HCUT := Lib.hid (fun (wz : World) (lo : Nat) (v : Value) (ho : OwnT wz lo v a) => (show ∃ (A A' : Option Addr) (c : Nat), v = .slice A n c ∧ (∀ wq : World, (Instr.slice 22 (.slice A n c) none (some (.int .i64 kz)) none).run Try.prog wq = .ok (.slice A k c) wq) ∧ SE encStr wz wz.heap.size (.slice A k c) (a.take k) ∧
      (∀ wq : World, (Instr.slice 22 (.slice A n c) (some (.int .i64 kz)) none none).run Try.prog wq = .ok (.slice A' (n - k) (c - k)) wq) ∧ SE encStr wz wz.heap.size (.slice A' (n - k) (c - k)) (a.drop k) from by
        have h := own_cuts ho k (by omega)
        rw [hal, hkz] at h; exact h))
    have hP : pX a a 0 0 = upN n := by rw [pX_self, hal]
    have hQ : pY a a 0 0 = upN n := by rw [pY_self, hal]
    have HPA := Lib.hid (fun (wz : World) (A : Option Addr) (c : Nat) (hs : SE encStr wz wz.heap.size (.slice A n c) a) => (show Calls Try.prog 9 #[.slice A n c, .slice A n c] wz fun e w' => ∃ vx vy, e = .returned (.tuple #[vx, vy]) ∧ Own (encInt .i64) 3 w' wz.heap.size vx (upN n) ∧ Own (encInt .i64) 3 w' wz.heap.size vy (upN n) ∧ Below wz.heap.size wz w' from by
        have h := pairs_any wz A A n c n c a a hs hs hza hza
        rw [cutL_few (by omega) (by omega)] at h
        simp only [hP, hQ] at h; exact h))
    have hno : lcsN a (a.map exX) = 0 := lcs_none _ _ (fun x hx y hy e => by
      obtain ⟨z, hz, rfl⟩ := List.mem_map.1 hy
      have h1 := hone x hx
      have h2 := hone z hz
      rw [e, exX_size] at h1; omega)
    have hzo : ∀ t ∈ a.map exX, t.size ≤ maxLen := fun t ht => by
      obtain ⟨z, hz, rfl⟩ := List.mem_map.1 ht
      rw [exX_size, hone z hz]; decide
    have HLO := Lib.hid (fun (wz : World) (A B : Option Addr) (c d : Nat) (hs : SE encStr wz wz.heap.size (.slice A n c) a) (ht : SE encStr wz wz.heap.size (.slice B n d) (a.map exX)) => (show Calls Try.prog 12 #[.slice A n c, .slice B n d] wz fun e w' => e = .returned (.int .i64 0) ∧ Below wz.heap.size wz w' from by
        have h := long_any wz A B n c n d a (a.map exX) hs ht hza hzo
        rw [cutL_few (by omega) (by rw [List.length_map]; omega)] at h
        rw [show lcsAt (a, a.map exX).1 (a, a.map exX).2 0 0 = 0 from hno] at h; exact h))
    have HLT := Lib.hid (fun (wz : World) (A : Option Addr) (c : Nat) (hs : SE encStr wz wz.heap.size (.slice A n c) a) (ht : SE encStr wz wz.heap.size (.slice A k c) (a.take k)) => (show Calls Try.prog 12 #[.slice A n c, .slice A k c] wz fun e w' => e = .returned (.int .i64 kz) ∧ Below wz.heap.size wz w' from by
        have h := long_any wz A A n c k c a (a.take k) hs ht hza (fun t ht => hza t (List.mem_of_mem_take ht))
        rw [cutL_few (by omega) (by rw [List.length_take]; omega)] at h
        rw [show lcsAt (a, a.take k).1 (a, a.take k).2 0 0 = k from lcs_take a k (by omega), hkz] at h; exact h))
    have HLD := Lib.hid (fun (wz : World) (A A' : Option Addr) (c : Nat) (hs : SE encStr wz wz.heap.size (.slice A n c) a) (ht : SE encStr wz wz.heap.size (.slice A' (n - k) (c - k)) (a.drop k)) => (show Calls Try.prog 12 #[.slice A' (n - k) (c - k), .slice A n c] wz fun e w' => e = .returned (.int .i64 ((n : Int) - kz)) ∧ Below wz.heap.size wz w' from by
        have h := long_any wz A' A (n - k) (c - k) n c (a.drop k) a ht hs (fun t ht => hza t (List.mem_of_mem_drop ht)) hza
        rw [cutL_few (by rw [List.length_drop]; omega) (by omega)] at h
        rw [show lcsAt (a.drop k, a).1 (a.drop k, a).2 0 0 = n - k from (lcs_drop a k).trans (by rw [hal]), show ((n - k : Nat) : Int) = (n : Int) - kz from by omega] at h; exact h))
    have HAL := Lib.hid hal
    have HONE := Lib.hid hone
    have HKZ := Lib.hid hkz
    have HK := Lib.hid hk
    clear h ha hl hal hone hza hP hQ hno hzo hk hkz
    go_enter Try.func6, Try.ntmps6
    go_upto_region 6 with (go_at_call 14; ((with_reducible refine HL1.out.mono ?_); rintro e w1 ⟨v1, rfl, h1, h2⟩; have HB1 := Lib.hid h2; have HS1 := Lib.hid h1.se; obtain ⟨A1, A2, c1, hv1, q1, h3, q2, h4⟩ := HCUT.out w1 _ v1 h1; subst hv1; have HT1 := Lib.hid h3; have HD1 := Lib.hid h4; clear h1 h2 h3 h4))
    go_loopw [6, 7] (fun lv iv wr => ∃ (i : Nat) (v : Value), i ≤ n ∧ v = lv ∧ iv = .int .i64 (i : Int) ∧ Hid (OwnT wr w1.heap.size v ((a.take i).map exX)) ∧ Hid (Below w1.heap.size w1 wr))
      (fun _ iv _ => n - (intOf iv).toNat)
    case atStart => exact ⟨0, _, Nat.zero_le _, rfl, rfl, Lib.hid (Own.nil _ _ _ _), Lib.hid (Below.refl _ _)⟩
    case round =>
      obtain ⟨i, v, hi, rfl, rfl, HO, HB⟩ := hrel
      by_cases hlt : i < n
      · have hii : (i : Int) < (n : Int) := by omega
        have hi0 : (0 : Int) ≤ (i : Int) := by omega
        obtain ⟨s, hs⟩ : ∃ s, a[i]? = some s := ⟨_, List.getElem?_eq_getElem (by rw [HAL.out]; exact hlt)⟩
        obtain ⟨pb, po, rfl, hpb, hat⟩ := HS1.out.at hs
        have x0 : wr.cell? ⟨pb, po + i, none⟩ = some (.string s) := by
          have h := hat 0 _ rfl
          rw [Nat.mul_one, Nat.add_zero] at h
          exact (HB.out.cell (p := ⟨pb, po + i, none⟩) hpb).trans h
        have hsz := HONE.out s (List.mem_of_getElem? hs)
        have f1 : ¬ 9223372036854775807 < s.size + (⟨#[120]⟩ : ByteArray).size := by show ¬ _ < _ + 1; omega
        have f2 : ¬ 9223372036854775807 < s.size + 1 := by omega
        have HN := Lib.hid (show (a.take (i + 1)).map exX = (a.take i).map exX ++ [s ++ (⟨#[120]⟩ : ByteArray)] from by rw [List.take_add_one, hs, List.map_append]; rfl)
        have HLEN := Lib.hid (show ((a.take i).map exX).length = i from by rw [List.length_map, List.length_take, HAL.out]; omega)
        clear hs hat hpb
        go_wp2_with (at_builtin; refine wpList_app Elem.str encStr rfl (.tmp 24) (.tmp 30) rfl w1.heap.size v ((a.take i).map exX) rfl (HO.out.alloc (.cells #[.string (s ++ (⟨#[120]⟩ : ByteArray))] 9)) ⟨wr.heap.size, 0, none⟩ 1 1 [s ++ (⟨#[120]⟩ : ByteArray)] rfl rfl ?_ ?_ ?_ ?_ ?_; exact cells_new _ _ _ rfl; (rw [HLEN.out]; omega); (rw [HLEN.out]; unfold maxLen; omega); (have := HB.out.size; simp; omega); intro v3 w3 h1 h2; have HO3 := Lib.hid h1; have HB3 := Lib.hid ((HB.out.alloc HB.out.size (.cells #[.string (s ++ (⟨#[120]⟩ : ByteArray))] 9)).trans h2); clear h1 h2)
        go_roundw
        case rel => exact ⟨i + 1, v3, by omega, rfl, by go_num, Lib.hid (by rw [HN.out]; exact HO3.out), HB3⟩
        case measure => simp [intOf]; omega
      · have hii : ¬ (i : Int) < (n : Int) := by omega
        obtain rfl : i = n := by omega
        have HOA := HO.out
        rw [List.take_of_length_le (by rw [HAL.out]; exact Nat.le_refl _)] at HOA
        obtain ⟨B3, k3, hv3⟩ := own_slX HOA
        rw [List.length_map, HAL.out] at hv3
        subst hv3
        have HSO := Lib.hid HOA.se
        have HSA := Lib.hid (HS1.out.lift HB.out)
        have HP2 := Lib.hid (HPA.out wr A1 c1 HSA.out)
        clear HOA
        go_upto_region 12 with (go_at_call 9; ((with_reducible refine HP2.out.mono ?_); rintro e w4 ⟨vx, vy, rfl, h1, h2, h3⟩; have HB4 := Lib.hid h3; have HX4 := Lib.hid h1.se; have HY4 := Lib.hid h2.se; obtain ⟨X4, x4, hvx⟩ := own_slX h1; rw [upN_len] at hvx; subst hvx; obtain ⟨Y4, y4, hvy⟩ := own_slX h2; rw [upN_len] at hvy; subst hvy; clear h1 h2 h3))
        go_loopw [11] (fun iv wz => ∃ j : Nat, j ≤ i ∧ iv = .int .i64 (j : Int) ∧ wz = w4)
          (fun iv _ => i - (intOf iv).toNat)
        case atStart => exact ⟨0, Nat.zero_le _, rfl, rfl⟩
        case round =>
          obtain ⟨j, hj, rfl, hwz⟩ := hrel
          subst hwz
          by_cases hlj : j < i
          · have hji : (j : Int) < (i : Int) := by omega
            have hj0 : (0 : Int) ≤ (j : Int) := by omega
            obtain ⟨px, qx, rfl, hpx, cx⟩ := HX4.out.at (upN_at i j hlj)
            obtain ⟨py, qy, rfl, hpy, cy⟩ := HY4.out.at (upN_at i j hlj)
            have k0 := cx 0 _ rfl
            have k1 := cy 0 _ rfl
            rw [Nat.mul_one, Nat.add_zero] at k0 k1
            have ex : ((j : Int) != (j : Int)) = false := by simp
            have d1 : decide ((i : Int) ≤ (j : Int)) = false := decide_eq_false (by omega)
            have d2 : ¬ (i : Int) ≤ (j : Int) := by omega
            clear cx cy hpx hpy
            go_wp2_with fail
            go_roundw
            case rel => exact ⟨j + 1, by omega, by go_num, by first | rfl | trivial⟩
            case measure => simp [intOf]; omega
          · have hji : ¬ (j : Int) < (i : Int) := by omega
            have HC4 := Lib.hid (HB.out.trans (HB4.out.mono HB.out.size))
            have HLO4 := Lib.hid (HLO.out _ A1 B3 c1 k3 (HSA.out.lift HB4.out) (HSO.out.lift HB4.out))
            have e0 : ((0 : Int) == 0) = true := rfl
            have e1 : (kz == kz) = true := beq_self_eq_true _
            have e2 : ((i : Int) - kz == (i : Int) - kz) = true := beq_self_eq_true _
            have e3 : ((i : Int) == (i : Int)) = true := beq_self_eq_true _
            go_wp2_with (first
              | (go_at_call_of 12 (Value.slice B3 i k3); ((with_reducible refine HLO4.out.mono ?_); rintro e w5 ⟨rfl, h1⟩; have HC5 := Lib.hid (HC4.out.trans (h1.mono HC4.out.size)); have HLT5 := Lib.hid (HLT.out w5 A1 c1 (HS1.out.lift HC5.out) (HT1.out.lift HC5.out)); clear h1))
              | (go_at_call_of 12 (Value.slice A1 k c1); ((with_reducible refine HLT5.out.mono ?_); rintro e w6 ⟨rfl, h1⟩; have HC6 := Lib.hid (HC5.out.trans (h1.mono HC5.out.size)); have HLD6 := Lib.hid (HLD.out w6 A1 A2 c1 (HS1.out.lift HC6.out) (HD1.out.lift HC6.out)); clear h1))
              | (go_at_call 12; ((with_reducible refine HLD6.out.mono ?_); rintro e w7 ⟨rfl, h1⟩; have HC7 := Lib.hid (HC6.out.trans (h1.mono HC6.out.size)); clear h1))
              | (go_at_call 8; ((with_reducible refine (HAW.out _).mono ?_); rintro e w8 ⟨rfl, h1⟩; have HC8 := Lib.hid (HB1.out.trans ((HC7.out.trans (h1.mono HC7.out.size)).mono HB1.out.size)); clear h1)))
            go_ret
            exact ⟨rfl, HC8.out⟩
  · have i1 : (100 : Int) < (n : Int) := by omega
    clear h
    go_enter Try.func6, Try.ntmps6
    go_wp2_with (go_at_call 8; ((with_reducible refine (HAW.out _).mono ?_); rintro e w1 ⟨rfl, h1⟩; have H1 := Lib.hid h1; clear h1))
    go_ret
    exact ⟨rfl, H1.out⟩
end Go.Proofs.Ytnimmpidplfnnaa
