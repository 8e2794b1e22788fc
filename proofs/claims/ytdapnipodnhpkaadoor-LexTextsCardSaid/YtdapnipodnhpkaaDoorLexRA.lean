/-
  Layer 4, the reference: numbers.
-/
import Derived.Test.YtdapnipodnhpkaaDoorLexE
import Derived.Test.YtdapnipodnhpkaaDoorAddrA
namespace Go.Proofs.YtdapnipodnhpkaaDoor
open Go.RowKit

/-- What the reference's readers answer: a token and its length, or a nought. -/
def RefTok (o : Option (Tk × Nat)) (k : Nat) (w : World) (e : Ending) (w' : World) : Prop :=
  Below w.heap.size w w' ∧ ((∃ t n, o = some (t, n) ∧ e = .returned (.tuple #[.agg (tokA (t.goto k)), .int .i64 (n : Int)])) ∨ (o = none ∧ ∃ t, e = .returned (.tuple #[.agg (tokA t), .int .i64 0])))
theorem below_set9 {w w1 : World} {g : Nat} (h : Below w.heap.size w w1) (hg : w.heap.size ≤ g) (v0 v1 v2 v3 v4 v5 v6 v7 v8 : Value) :
    Below w.heap.size w (((((((((w1.setCell ⟨g, 0, none⟩ v0).setCell ⟨g, 1, none⟩ v1).setCell ⟨g, 2, none⟩ v2).setCell ⟨g, 3, none⟩ v3).setCell ⟨g, 4, none⟩ v4).setCell ⟨g, 5, none⟩ v5).setCell ⟨g, 6, none⟩ v6).setCell ⟨g, 7, none⟩ v7).setCell ⟨g, 8, none⟩ v8) :=
  ((((((((h.setCell hg _).setCell hg _).setCell hg _).setCell hg _).setCell hg _).setCell hg _).setCell hg _).setCell hg _).setCell hg _
/-- The way out: a token out of its cell, a number beside it. -/
theorem out_tokn {w : World} {b : Nat} {t : Tk} (h : TkAt w b t) (fn : Func) (tmps : Array Value) (n : Int) (p u : Tmp) (hf : fn.results = #[.cell p 34, .tmp u]) (hp : tmps.getD p undef = .pointer (some ⟨b, 0, none⟩)) (hu : tmps.getD u undef = .int .i64 n) :
    (results fn tmps).run Tryd.prog w = .ok (.tuple #[.agg (tokA t), .int .i64 n]) w := by
  rw [results_cell_tmp hf, hp, hu]
  simp [asAddr, h.load, Result.andThen]
theorem res_rnumber : Tryd.f22.results = #[.cell 4 34, .tmp 5] := by kernel_rfl

/-- A number whose digits have been taken so far. -/
structure NumSt (l : List Int) (m : Nat) (v : Int) : Prop where
  val : valL (l.take m) = v
  dig : ∀ x ∈ l.take m, isNum x = true
  pos : 0 ≤ v
  max : v ≤ 9223372036854775807
  len : m ≤ l.length
  head : 1 < m → l.head? ≠ some 48
theorem numSt_zero (l : List Int) : NumSt l 0 0 := ⟨rfl, by simp, by omega, by omega, by omega, by omega⟩
theorem valL_one (x : Int) : valL [x] = x - 48 := by unfold valL; simp
theorem take_snoc {l : List Int} {m : Nat} {a : Int} (ha : l[m]? = some a) : l.take (m + 1) = l.take m ++ [a] := by rw [List.take_add_one, ha]; rfl
theorem numSt_val {l : List Int} {m : Nat} {v a : Int} (h : NumSt l m v) (ha : l[m]? = some a) : valL (l.take (m + 1)) = 10 * v + (a - 48) := by rw [take_snoc ha, valL_snoc, h.val]
theorem numSt_big {l : List Int} {m : Nat} {v a : Int} (h : NumSt l m v) (ha : l[m]? = some a) (hn : isNum a = true) (hb : 9223372036854775807 < 10 * v + (a - 48)) : numT l = none := by
  have hall := all_snoc h.dig hn
  rw [← take_snoc ha] at hall
  have h1 := span_over isNum l (m + 1) hall
  have h2 := valL_ge ((l.drop (m + 1)).takeWhile isNum) (l.take (m + 1)) (take_all isNum _) (by rw [numSt_val h ha]; omega)
  rw [← h1, numSt_val h ha] at h2
  unfold numT; rw [if_pos (.inr (by omega))]
theorem numSt_nought {l : List Int} {m : Nat} {a : Int} (h : NumSt l m 0) (hm : 0 < m) (ha : l[m]? = some a) (hn : isNum a = true) : numT l = none := by
  have hall := all_snoc h.dig hn
  rw [← take_snoc ha] at hall
  have h1 := span_over isNum l (m + 1) hall
  have hlen : 1 < (l.takeWhile isNum).length := by
    rw [h1, List.length_append, List.length_take]
    have := (List.getElem?_eq_some_iff.1 ha).1; omega
  cases l with
  | nil => simp at ha
  | cons x r =>
    have hx := h.dig x (by rw [show m = (m - 1) + 1 by omega, List.take_succ_cons]; simp)
    have hb := num_bd hx
    have h2 := valL_ge ((x :: r).take m).tail [x] (fun y hy => h.dig y (List.mem_of_mem_tail hy)) (by rw [valL_one]; omega)
    have e : [x] ++ ((x :: r).take m).tail = (x :: r).take m := by rw [show m = (m - 1) + 1 by omega, List.take_succ_cons]; rfl
    rw [e, h.val, valL_one] at h2
    unfold numT; rw [if_pos (.inl ⟨hlen, by simp; omega⟩)]
theorem numSt_next {l : List Int} {m : Nat} {v a : Int} (h : NumSt l m v) (ha : l[m]? = some a) (hn : isNum a = true) (hb : 10 * v + (a - 48) ≤ 9223372036854775807) (h0 : 0 < m → v ≠ 0) : NumSt l (m + 1) (10 * v + (a - 48)) := by
  have hbd := num_bd hn
  have hp := h.pos
  refine ⟨numSt_val h ha, ?_, by omega, hb, ?_, ?_⟩
  · rw [take_snoc ha]; exact all_snoc h.dig hn
  · have := (List.getElem?_eq_some_iff.1 ha).1; omega
  · intro hm hh
    by_cases h1 : 1 < m
    · exact h.head h1 hh
    · have hm1 : m = 1 := by omega
      subst hm1
      cases l with
      | nil => simp at hh
      | cons x r =>
        simp at hh
        have := h.val
        rw [List.take_succ_cons, List.take_zero, valL_one] at this
        exact h0 (by omega) (by omega)
theorem numSt_end {l : List Int} {m : Nat} {v : Int} (h : NumSt l m v) (hs : ∀ x, l[m]? = some x → isNum x = false) : numT l = some ({ Tk.zero with kind := 1, num := v }, m) := by
  have hsp := span_stop isNum l m h.dig hs
  have hlen : (l.take m).length = m := by rw [List.length_take]; have := h.len; omega
  unfold numT
  rw [hsp, hlen, h.val, if_neg]
  rintro (⟨h1, h2⟩ | h1)
  · exact h.head h1 h2
  · have := h.max; omega

set_option maxRecDepth 100000 in
set_option maxHeartbeats 1600000 in
theorem refNumber_any (s : ByteArray) (k : Nat) (w : World) (_hs : s.size ≤ 1000000) (_hk : k ≤ s.size) :
    Calls Tryd.prog 22 #[.string s, .int .i64 (k : Int)] w (RefTok (numT (restL s k)) k w) := by
  have HTK := Lib.hid (TkAt.zero w)
  go_enter Tryd.func22, Tryd.ntmps22
  go_wp2_with fail
  go_loopw [6, 7] (fun n p wr => ∃ (m : Nat) (v : Int), n = .int .i64 v ∧ p = .int .i64 ((k + m : Nat) : Int) ∧ k + m ≤ s.size ∧ Hid (NumSt (restL s k) m v) ∧ w.alloc (.cells zTok 34) = wr)
    (fun _ p _ => s.size - (intOf p).toNat)
  case atStart => exact ⟨0, 0, rfl, rfl, by omega, Lib.hid (numSt_zero _), rfl⟩
  case round =>
    obtain ⟨m, v, rfl, rfl, hkm, HN, rfl⟩ := hrel
    obtain ⟨p, hp⟩ : ∃ p : Nat, k + m = p := ⟨_, rfl⟩
    rw [hp]
    by_cases hlt : p < s.size
    · have hlt2 : (p : Int) < (s.size : Int) := by omega
      obtain ⟨a, ha⟩ : ∃ a : Int, (s[p].toNat : Int) = a := ⟨_, rfl⟩
      have ha1 : 0 ≤ a ∧ a ≤ 255 := by have := s[p].toNat_lt; omega
      have hat : (restL s k)[m]? = some a := by subst hp; rw [restL_at s k m hlt, ha]
      have hv0 := HN.out.pos
      have hv1 := HN.out.max
      cases hn : isNum a
      · have hN := numSt_end HN.out (fun x hx => by rw [hat] at hx; injection hx with hx; rw [← hx]; exact hn)
        clear hat
        have HNT := Lib.hid hN; clear hN
        go_wp2_with (first
          | (go_at_call 21; ((with_reducible refine (refDigit_any _ ?_ ?_ _).mono ?_); (first | omega | skip); (first | omega | skip); rintro e w' ⟨rfl, rfl⟩; rw [hn])))
        exact bodyPost_ret (out_tokn (TkAt.new w (({ Tk.zero with kind := 1, num := v } : Tk).goto k)) _ _ ((p : Int) - (k : Int)) 4 5 res_rnumber rfl rfl) rfl ⟨(Below.refl _ _).alloc (Nat.le_refl _) _, .inl ⟨_, m, HNT.out, by rw [show ((p : Int) - (k : Int)) = (m : Int) by omega]⟩⟩
      · have hnb := num_bd hn
        by_cases hbig : (9223372036854775807 - (a - 48)) / 10 < v
        · have HNT := Lib.hid (numSt_big HN.out hat hn (by omega))
          clear hat
          go_wp2_with (first
            | (go_at_call 21; ((with_reducible refine (refDigit_any _ ?_ ?_ _).mono ?_); (first | omega | skip); (first | omega | skip); rintro e w' ⟨rfl, rfl⟩; rw [hn])))
          exact bodyPost_ret (out_tokn (TkAt.zero w) _ _ 0 4 5 res_rnumber rfl rfl) rfl ⟨(Below.refl _ _).alloc (Nat.le_refl _) _, .inr ⟨HNT.out, _, rfl⟩⟩
        · have hsm : 10 * v + (a - 48) ≤ 9223372036854775807 := by omega
          by_cases hm : 0 < m
          · have hpk : (k : Int) < (p : Int) := by omega
            by_cases hv : v = 0
            · subst hv
              have HNT := Lib.hid (numSt_nought HN.out hm hat hn)
              clear hat
              go_wp2_with (first
                | (go_at_call 21; ((with_reducible refine (refDigit_any _ ?_ ?_ _).mono ?_); (first | omega | skip); (first | omega | skip); rintro e w' ⟨rfl, rfl⟩; rw [hn])))
              exact bodyPost_ret (out_tokn (TkAt.zero w) _ _ 0 4 5 res_rnumber rfl rfl) rfl ⟨(Below.refl _ _).alloc (Nat.le_refl _) _, .inr ⟨HNT.out, _, rfl⟩⟩
            · have hvb : (v == 0) = false := beq_eq_false_iff_ne.2 hv
              have HNX := Lib.hid (numSt_next HN.out hat hn hsm (fun _ => hv))
              clear hat
              go_wp2_with (first
                | (go_at_call 21; ((with_reducible refine (refDigit_any _ ?_ ?_ _).mono ?_); (first | omega | skip); (first | omega | skip); rintro e w' ⟨rfl, rfl⟩; rw [hn])))
              go_roundw
              case rel => exact ⟨m + 1, 10 * v + (a - 48), rfl, by rw [show ((p : Int) + 1) = ((k + (m + 1) : Nat) : Int) by omega], by omega, HNX, by trivial⟩
              case measure => simp [intOf]; omega
          · have hpk : ¬ (k : Int) < (p : Int) := by omega
            have HNX := Lib.hid (numSt_next HN.out hat hn hsm (fun h => absurd h hm))
            clear hat
            go_wp2_with (first
              | (go_at_call 21; ((with_reducible refine (refDigit_any _ ?_ ?_ _).mono ?_); (first | omega | skip); (first | omega | skip); rintro e w' ⟨rfl, rfl⟩; rw [hn])))
            go_roundw
            case rel => exact ⟨m + 1, 10 * v + (a - 48), rfl, by rw [show ((p : Int) + 1) = ((k + (m + 1) : Nat) : Int) by omega], by omega, HNX, by trivial⟩
            case measure => simp [intOf]; omega
    · have hlt2 : ¬ (p : Int) < (s.size : Int) := by omega
      have HNT := Lib.hid (numSt_end HN.out (fun x hx => by have h1 := (List.getElem?_eq_some_iff.1 hx).1; rw [length_restL] at h1; omega))
      go_wp2_with fail
      exact bodyPost_ret (out_tokn (TkAt.new w (({ Tk.zero with kind := 1, num := v } : Tk).goto k)) _ _ ((p : Int) - (k : Int)) 4 5 res_rnumber rfl rfl) rfl ⟨(Below.refl _ _).alloc (Nat.le_refl _) _, .inl ⟨_, m, HNT.out, by rw [show ((p : Int) - (k : Int)) = (m : Int) by omega]⟩⟩
end Go.Proofs.YtdapnipodnhpkaaDoor
