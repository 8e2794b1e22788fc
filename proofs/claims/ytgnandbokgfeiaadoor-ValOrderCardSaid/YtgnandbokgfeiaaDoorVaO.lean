/-
  Layer 7, the law: comparisons are an order.
-/
import Derived.Test.YtgnandbokgfeiaaDoorVaT
import Derived.Test.YtgnandbokgfeiaaDoorVaM
import Derived.Deep.DeepCutAuto
namespace Go.Proofs.YtgnandbokgfeiaaDoor
open Go.RowKit

theorem cmpV_of (x y : Vl) (hx : ¬ x.k = 0) (hy : ¬ y.k = 0) : cmpV x y = (if ¬ x.k = y.k then Lib.compareInt x.k y.k else if x.k = 2 then Lib.compareBytes x.s.data.toList y.s.data.toList else Lib.compareInt x.n y.n) := by
  unfold cmpV asV; rw [if_neg hx, if_neg hy]
theorem cmpI_flip (x y : Int) : Lib.compareInt y x = - Lib.compareInt x y := by
  have h1 := cmpI_three x y
  have h2 := cmpI_three y x
  omega
theorem cmpV_three (x y : Vl) (hx : ¬ x.k = 0) (hy : ¬ y.k = 0) : cmpV x y = -1 ∨ cmpV x y = 0 ∨ cmpV x y = 1 := by
  rw [cmpV_of x y hx hy]
  split
  · have := cmpI_three x.k y.k; omega
  · split
    · exact cmpB_three _ _
    · have := cmpI_three x.n y.n; omega
theorem cmpV_flip (x y : Vl) (hx : ¬ x.k = 0) (hy : ¬ y.k = 0) : cmpV y x = - cmpV x y := by
  rw [cmpV_of x y hx hy, cmpV_of y x hy hx]
  by_cases h : x.k = y.k
  · rw [h, if_neg (show ¬ ¬ y.k = y.k from fun e => e rfl), if_neg (show ¬ ¬ y.k = y.k from fun e => e rfl)]
    by_cases h2 : y.k = 2
    · rw [if_pos h2, if_pos h2]; exact cmpB_flip _ _
    · rw [if_neg h2, if_neg h2]; exact cmpI_flip _ _
  · rw [if_pos h, if_pos (fun e => h e.symm)]; exact cmpI_flip _ _
theorem cmpV_trans (x y z : Vl) (hx : ¬ x.k = 0) (hy : ¬ y.k = 0) (hz : ¬ z.k = 0) (h1 : cmpV x y ≤ 0) (h2 : cmpV y z ≤ 0) : cmpV x z ≤ 0 := by
  rw [cmpV_of x y hx hy] at h1
  rw [cmpV_of y z hy hz] at h2
  rw [cmpV_of x z hx hz]
  have i1 := cmpI_three x.k y.k
  have i2 := cmpI_three y.k z.k
  have i3 := cmpI_three x.k z.k
  by_cases e1 : x.k = y.k
  · rw [if_neg (fun e => e e1)] at h1
    by_cases e2 : y.k = z.k
    · rw [if_neg (fun e => e e2)] at h2
      rw [if_neg (fun e => e (e1.trans e2))]
      by_cases t : x.k = 2
      · rw [if_pos t] at h1 ⊢
        rw [if_pos (e1.symm.trans t)] at h2
        exact cmpB_trans _ _ _ h1 h2
      · rw [if_neg t] at h1 ⊢
        rw [if_neg (fun e => t (e1.trans e))] at h2
        have j1 := cmpI_three x.n y.n
        have j2 := cmpI_three y.n z.n
        have j3 := cmpI_three x.n z.n
        omega
    · rw [if_pos e2] at h2
      rw [if_pos (fun e => e2 (e1.symm.trans e))]
      omega
  · rw [if_pos e1] at h1
    by_cases e2 : y.k = z.k
    · rw [if_pos (fun e => e1 (e.trans e2.symm))]
      omega
    · rw [if_pos e2] at h2
      rw [if_pos (by intro e; omega)]
      omega
theorem make_ne (m n : Int) (s : ByteArray) (h : m = 1 ∨ m = 2 ∨ m = 3) : ¬ (makeV m n s).k = 0 ∧ ¬ (makeV m n s).k = 4 := by
  unfold makeV
  rcases h with rfl | rfl | rfl
  · exact ⟨by show ¬ (1 : Int) = 0; decide, by show ¬ (1 : Int) = 4; decide⟩
  · rw [if_neg (by decide), if_pos rfl]
    split <;> exact ⟨by show ¬ (2 : Int) = 0; decide, by show ¬ (2 : Int) = 4; decide⟩
  · exact ⟨by show ¬ (3 : Int) = 0; decide, by show ¬ (3 : Int) = 4; decide⟩
/-- What a comparison answers. -/
theorem two_cmp (kind : Int) (x y : Vl) (b : Bool) (N : Int) (hx : ¬ x.k = 4) (hy : ¬ y.k = 4) (ox : VOk x) (oy : VOk y) (h : opV kind x y = Vl.truth b) (hN : (if b = true then (1 : Int) else 0) = N) (w : World) (ht : Tab w) (he : EtV w) :
    Calls Tryd.prog 19 #[.int .i64 kind, .agg #[.int .i64 x.k, .int .i64 x.n, .string x.s], .agg #[.int .i64 y.k, .int .i64 y.n, .string y.s]] w fun e w' => e = .returned (.agg #[.int .i64 3, .int .i64 N, .string ⟨#[]⟩]) ∧ Below w.heap.size w w' := by
  have h2 := two_any kind x y ox oy w ht he
  rw [show twoV kind x y = Vl.truth b from by unfold twoV; rw [if_neg hx, if_neg hy, h]] at h2
  subst hN
  exact h2
set_option maxRecDepth 100000 in
set_option maxHeartbeats 1600000 in
theorem valOrder_far0 (k l m a b c : Int) (s t u : ByteArray)   (g0 : 300 < s.size) (w : World) (ht : Tab w) (he : EtV w) :
    Calls Tryd.prog 6 #[.int .u8 k, .int .u8 l, .int .u8 m, .int .i64 a, .int .i64 b, .int .i64 c, .string s, .string t, .string u] w fun e w' => e = .returned (.bool true) ∧ Below w.heap.size w w' := by
  have HA := Lib.hid (awake7_any w ht he)
  have z0 : (300 : Int) < (s.size : Int) := by omega
  clear ht he g0 
  go_enter Tryd.func6, Tryd.ntmps6
  go_wp2_with (go_at_call 10; ((with_reducible refine HA.out.mono ?_); rintro e w2 ⟨rfl, hb⟩; have HB := Lib.hid hb; clear hb))
  all_goals go_ret
  all_goals exact ⟨rfl, HB.out⟩
set_option maxRecDepth 100000 in
set_option maxHeartbeats 1600000 in
theorem valOrder_far1 (k l m a b c : Int) (s t u : ByteArray)  (g0 : ¬ 300 < s.size) (g1 : 300 < t.size) (w : World) (ht : Tab w) (he : EtV w) :
    Calls Tryd.prog 6 #[.int .u8 k, .int .u8 l, .int .u8 m, .int .i64 a, .int .i64 b, .int .i64 c, .string s, .string t, .string u] w fun e w' => e = .returned (.bool true) ∧ Below w.heap.size w w' := by
  have HA := Lib.hid (awake7_any w ht he)
  have z0 : ¬ (300 : Int) < (s.size : Int) := by omega
  have z1 : (300 : Int) < (t.size : Int) := by omega
  clear ht he g0 g1 
  go_enter Tryd.func6, Tryd.ntmps6
  go_wp2_with (go_at_call 10; ((with_reducible refine HA.out.mono ?_); rintro e w2 ⟨rfl, hb⟩; have HB := Lib.hid hb; clear hb))
  all_goals go_ret
  all_goals exact ⟨rfl, HB.out⟩
set_option maxRecDepth 100000 in
set_option maxHeartbeats 1600000 in
theorem valOrder_far2 (k l m a b c : Int) (s t u : ByteArray)  (g0 : ¬ 300 < s.size) (g1 : ¬ 300 < t.size) (g2 : 300 < u.size) (w : World) (ht : Tab w) (he : EtV w) :
    Calls Tryd.prog 6 #[.int .u8 k, .int .u8 l, .int .u8 m, .int .i64 a, .int .i64 b, .int .i64 c, .string s, .string t, .string u] w fun e w' => e = .returned (.bool true) ∧ Below w.heap.size w w' := by
  have HA := Lib.hid (awake7_any w ht he)
  have z0 : ¬ (300 : Int) < (s.size : Int) := by omega
  have z1 : ¬ (300 : Int) < (t.size : Int) := by omega
  have z2 : (300 : Int) < (u.size : Int) := by omega
  clear ht he g0 g1 g2 
  go_enter Tryd.func6, Tryd.ntmps6
  go_wp2_with (go_at_call 10; ((with_reducible refine HA.out.mono ?_); rintro e w2 ⟨rfl, hb⟩; have HB := Lib.hid hb; clear hb))
  all_goals go_ret
  all_goals exact ⟨rfl, HB.out⟩
set_option maxRecDepth 100000 in
set_option maxHeartbeats 1600000 in
theorem valOrder_far3 (k l m a b c : Int) (s t u : ByteArray) (k0 : 0 ≤ k) (g0 : ¬ 300 < s.size) (g1 : ¬ 300 < t.size) (g2 : ¬ 300 < u.size) (g3 : k % 5 = 4) (w : World) (ht : Tab w) (he : EtV w) :
    Calls Tryd.prog 6 #[.int .u8 k, .int .u8 l, .int .u8 m, .int .i64 a, .int .i64 b, .int .i64 c, .string s, .string t, .string u] w fun e w' => e = .returned (.bool true) ∧ Below w.heap.size w w' := by
  have HA := Lib.hid (awake7_any w ht he)
  have rk : IntKind.u8.wrap (Int.tmod k 5) = k % 5 := by rw [Int.tmod_eq_emod_of_nonneg k0, IntKind.wrap_u8]; omega
  have qk : Int.tmod k 5 = k % 5 := Int.tmod_eq_emod_of_nonneg k0
  have z0 : ¬ (300 : Int) < (s.size : Int) := by omega
  have z1 : ¬ (300 : Int) < (t.size : Int) := by omega
  have z2 : ¬ (300 : Int) < (u.size : Int) := by omega
  have z3 : (k % 5 == 4) = true := beq_iff_eq.2 g3
  clear ht he g0 g1 g2 g3 k0
  go_enter Tryd.func6, Tryd.ntmps6
  go_wp2_with (go_at_call 10; ((with_reducible refine HA.out.mono ?_); rintro e w2 ⟨rfl, hb⟩; have HB := Lib.hid hb; clear hb))
  all_goals go_ret
  all_goals exact ⟨rfl, HB.out⟩
set_option maxRecDepth 100000 in
set_option maxHeartbeats 1600000 in
theorem valOrder_far4 (k l m a b c : Int) (s t u : ByteArray) (k0 : 0 ≤ k) (l0 : 0 ≤ l) (g0 : ¬ 300 < s.size) (g1 : ¬ 300 < t.size) (g2 : ¬ 300 < u.size) (g3 : ¬ k % 5 = 4) (g4 : l % 5 = 4) (w : World) (ht : Tab w) (he : EtV w) :
    Calls Tryd.prog 6 #[.int .u8 k, .int .u8 l, .int .u8 m, .int .i64 a, .int .i64 b, .int .i64 c, .string s, .string t, .string u] w fun e w' => e = .returned (.bool true) ∧ Below w.heap.size w w' := by
  have HA := Lib.hid (awake7_any w ht he)
  have rk : IntKind.u8.wrap (Int.tmod k 5) = k % 5 := by rw [Int.tmod_eq_emod_of_nonneg k0, IntKind.wrap_u8]; omega
  have qk : Int.tmod k 5 = k % 5 := Int.tmod_eq_emod_of_nonneg k0
  have rl : IntKind.u8.wrap (Int.tmod l 5) = l % 5 := by rw [Int.tmod_eq_emod_of_nonneg l0, IntKind.wrap_u8]; omega
  have ql : Int.tmod l 5 = l % 5 := Int.tmod_eq_emod_of_nonneg l0
  have z0 : ¬ (300 : Int) < (s.size : Int) := by omega
  have z1 : ¬ (300 : Int) < (t.size : Int) := by omega
  have z2 : ¬ (300 : Int) < (u.size : Int) := by omega
  have z3 : (k % 5 == 4) = false := beq_eq_false_iff_ne.2 g3
  have z4 : (l % 5 == 4) = true := beq_iff_eq.2 g4
  clear ht he g0 g1 g2 g3 g4 k0 l0
  go_enter Tryd.func6, Tryd.ntmps6
  go_wp2_with (go_at_call 10; ((with_reducible refine HA.out.mono ?_); rintro e w2 ⟨rfl, hb⟩; have HB := Lib.hid hb; clear hb))
  all_goals go_ret
  all_goals exact ⟨rfl, HB.out⟩
set_option maxRecDepth 100000 in
set_option maxHeartbeats 1600000 in
theorem valOrder_far5 (k l m a b c : Int) (s t u : ByteArray) (k0 : 0 ≤ k) (l0 : 0 ≤ l) (m0 : 0 ≤ m) (g0 : ¬ 300 < s.size) (g1 : ¬ 300 < t.size) (g2 : ¬ 300 < u.size) (g3 : ¬ k % 5 = 4) (g4 : ¬ l % 5 = 4) (g5 : m % 5 = 4) (w : World) (ht : Tab w) (he : EtV w) :
    Calls Tryd.prog 6 #[.int .u8 k, .int .u8 l, .int .u8 m, .int .i64 a, .int .i64 b, .int .i64 c, .string s, .string t, .string u] w fun e w' => e = .returned (.bool true) ∧ Below w.heap.size w w' := by
  have HA := Lib.hid (awake7_any w ht he)
  have rk : IntKind.u8.wrap (Int.tmod k 5) = k % 5 := by rw [Int.tmod_eq_emod_of_nonneg k0, IntKind.wrap_u8]; omega
  have qk : Int.tmod k 5 = k % 5 := Int.tmod_eq_emod_of_nonneg k0
  have rl : IntKind.u8.wrap (Int.tmod l 5) = l % 5 := by rw [Int.tmod_eq_emod_of_nonneg l0, IntKind.wrap_u8]; omega
  have ql : Int.tmod l 5 = l % 5 := Int.tmod_eq_emod_of_nonneg l0
  have rm : IntKind.u8.wrap (Int.tmod m 5) = m % 5 := by rw [Int.tmod_eq_emod_of_nonneg m0, IntKind.wrap_u8]; omega
  have qm : Int.tmod m 5 = m % 5 := Int.tmod_eq_emod_of_nonneg m0
  have z0 : ¬ (300 : Int) < (s.size : Int) := by omega
  have z1 : ¬ (300 : Int) < (t.size : Int) := by omega
  have z2 : ¬ (300 : Int) < (u.size : Int) := by omega
  have z3 : (k % 5 == 4) = false := beq_eq_false_iff_ne.2 g3
  have z4 : (l % 5 == 4) = false := beq_eq_false_iff_ne.2 g4
  have z5 : (m % 5 == 4) = true := beq_iff_eq.2 g5
  clear ht he g0 g1 g2 g3 g4 g5 k0 l0 m0
  go_enter Tryd.func6, Tryd.ntmps6
  go_wp2_with (go_at_call 10; ((with_reducible refine HA.out.mono ?_); rintro e w2 ⟨rfl, hb⟩; have HB := Lib.hid hb; clear hb))
  all_goals go_ret
  all_goals exact ⟨rfl, HB.out⟩
set_option maxRecDepth 100000 in
set_option maxHeartbeats 1600000 in
theorem valOrder_far6 (k l m a b c : Int) (s t u : ByteArray) (k0 : 0 ≤ k) (l0 : 0 ≤ l) (m0 : 0 ≤ m) (g0 : ¬ 300 < s.size) (g1 : ¬ 300 < t.size) (g2 : ¬ 300 < u.size) (g3 : ¬ k % 5 = 4) (g4 : ¬ l % 5 = 4) (g5 : ¬ m % 5 = 4) (g6 : k % 5 = 0) (w : World) (ht : Tab w) (he : EtV w) :
    Calls Tryd.prog 6 #[.int .u8 k, .int .u8 l, .int .u8 m, .int .i64 a, .int .i64 b, .int .i64 c, .string s, .string t, .string u] w fun e w' => e = .returned (.bool true) ∧ Below w.heap.size w w' := by
  have HA := Lib.hid (awake7_any w ht he)
  have rk : IntKind.u8.wrap (Int.tmod k 5) = k % 5 := by rw [Int.tmod_eq_emod_of_nonneg k0, IntKind.wrap_u8]; omega
  have qk : Int.tmod k 5 = k % 5 := Int.tmod_eq_emod_of_nonneg k0
  have rl : IntKind.u8.wrap (Int.tmod l 5) = l % 5 := by rw [Int.tmod_eq_emod_of_nonneg l0, IntKind.wrap_u8]; omega
  have ql : Int.tmod l 5 = l % 5 := Int.tmod_eq_emod_of_nonneg l0
  have rm : IntKind.u8.wrap (Int.tmod m 5) = m % 5 := by rw [Int.tmod_eq_emod_of_nonneg m0, IntKind.wrap_u8]; omega
  have qm : Int.tmod m 5 = m % 5 := Int.tmod_eq_emod_of_nonneg m0
  have z0 : ¬ (300 : Int) < (s.size : Int) := by omega
  have z1 : ¬ (300 : Int) < (t.size : Int) := by omega
  have z2 : ¬ (300 : Int) < (u.size : Int) := by omega
  have z3 : (k % 5 == 4) = false := beq_eq_false_iff_ne.2 g3
  have z4 : (l % 5 == 4) = false := beq_eq_false_iff_ne.2 g4
  have z5 : (m % 5 == 4) = false := beq_eq_false_iff_ne.2 g5
  have z6 : (k % 5 == 0) = true := beq_iff_eq.2 g6
  clear ht he g0 g1 g2 g3 g4 g5 g6 k0 l0 m0
  go_enter Tryd.func6, Tryd.ntmps6
  go_wp2_with (go_at_call 10; ((with_reducible refine HA.out.mono ?_); rintro e w2 ⟨rfl, hb⟩; have HB := Lib.hid hb; clear hb))
  all_goals go_ret
  all_goals exact ⟨rfl, HB.out⟩
set_option maxRecDepth 100000 in
set_option maxHeartbeats 1600000 in
theorem valOrder_far7 (k l m a b c : Int) (s t u : ByteArray) (k0 : 0 ≤ k) (l0 : 0 ≤ l) (m0 : 0 ≤ m) (g0 : ¬ 300 < s.size) (g1 : ¬ 300 < t.size) (g2 : ¬ 300 < u.size) (g3 : ¬ k % 5 = 4) (g4 : ¬ l % 5 = 4) (g5 : ¬ m % 5 = 4) (g6 : ¬ k % 5 = 0) (g7 : l % 5 = 0) (w : World) (ht : Tab w) (he : EtV w) :
    Calls Tryd.prog 6 #[.int .u8 k, .int .u8 l, .int .u8 m, .int .i64 a, .int .i64 b, .int .i64 c, .string s, .string t, .string u] w fun e w' => e = .returned (.bool true) ∧ Below w.heap.size w w' := by
  have HA := Lib.hid (awake7_any w ht he)
  have rk : IntKind.u8.wrap (Int.tmod k 5) = k % 5 := by rw [Int.tmod_eq_emod_of_nonneg k0, IntKind.wrap_u8]; omega
  have qk : Int.tmod k 5 = k % 5 := Int.tmod_eq_emod_of_nonneg k0
  have rl : IntKind.u8.wrap (Int.tmod l 5) = l % 5 := by rw [Int.tmod_eq_emod_of_nonneg l0, IntKind.wrap_u8]; omega
  have ql : Int.tmod l 5 = l % 5 := Int.tmod_eq_emod_of_nonneg l0
  have rm : IntKind.u8.wrap (Int.tmod m 5) = m % 5 := by rw [Int.tmod_eq_emod_of_nonneg m0, IntKind.wrap_u8]; omega
  have qm : Int.tmod m 5 = m % 5 := Int.tmod_eq_emod_of_nonneg m0
  have z0 : ¬ (300 : Int) < (s.size : Int) := by omega
  have z1 : ¬ (300 : Int) < (t.size : Int) := by omega
  have z2 : ¬ (300 : Int) < (u.size : Int) := by omega
  have z3 : (k % 5 == 4) = false := beq_eq_false_iff_ne.2 g3
  have z4 : (l % 5 == 4) = false := beq_eq_false_iff_ne.2 g4
  have z5 : (m % 5 == 4) = false := beq_eq_false_iff_ne.2 g5
  have z6 : (k % 5 == 0) = false := beq_eq_false_iff_ne.2 g6
  have z7 : (l % 5 == 0) = true := beq_iff_eq.2 g7
  clear ht he g0 g1 g2 g3 g4 g5 g6 g7 k0 l0 m0
  go_enter Tryd.func6, Tryd.ntmps6
  go_wp2_with (go_at_call 10; ((with_reducible refine HA.out.mono ?_); rintro e w2 ⟨rfl, hb⟩; have HB := Lib.hid hb; clear hb))
  all_goals go_ret
  all_goals exact ⟨rfl, HB.out⟩
set_option maxRecDepth 100000 in
set_option maxHeartbeats 1600000 in
theorem valOrder_far8 (k l m a b c : Int) (s t u : ByteArray) (k0 : 0 ≤ k) (l0 : 0 ≤ l) (m0 : 0 ≤ m) (g0 : ¬ 300 < s.size) (g1 : ¬ 300 < t.size) (g2 : ¬ 300 < u.size) (g3 : ¬ k % 5 = 4) (g4 : ¬ l % 5 = 4) (g5 : ¬ m % 5 = 4) (g6 : ¬ k % 5 = 0) (g7 : ¬ l % 5 = 0) (g8 : m % 5 = 0) (w : World) (ht : Tab w) (he : EtV w) :
    Calls Tryd.prog 6 #[.int .u8 k, .int .u8 l, .int .u8 m, .int .i64 a, .int .i64 b, .int .i64 c, .string s, .string t, .string u] w fun e w' => e = .returned (.bool true) ∧ Below w.heap.size w w' := by
  have HA := Lib.hid (awake7_any w ht he)
  have rk : IntKind.u8.wrap (Int.tmod k 5) = k % 5 := by rw [Int.tmod_eq_emod_of_nonneg k0, IntKind.wrap_u8]; omega
  have qk : Int.tmod k 5 = k % 5 := Int.tmod_eq_emod_of_nonneg k0
  have rl : IntKind.u8.wrap (Int.tmod l 5) = l % 5 := by rw [Int.tmod_eq_emod_of_nonneg l0, IntKind.wrap_u8]; omega
  have ql : Int.tmod l 5 = l % 5 := Int.tmod_eq_emod_of_nonneg l0
  have rm : IntKind.u8.wrap (Int.tmod m 5) = m % 5 := by rw [Int.tmod_eq_emod_of_nonneg m0, IntKind.wrap_u8]; omega
  have qm : Int.tmod m 5 = m % 5 := Int.tmod_eq_emod_of_nonneg m0
  have z0 : ¬ (300 : Int) < (s.size : Int) := by omega
  have z1 : ¬ (300 : Int) < (t.size : Int) := by omega
  have z2 : ¬ (300 : Int) < (u.size : Int) := by omega
  have z3 : (k % 5 == 4) = false := beq_eq_false_iff_ne.2 g3
  have z4 : (l % 5 == 4) = false := beq_eq_false_iff_ne.2 g4
  have z5 : (m % 5 == 4) = false := beq_eq_false_iff_ne.2 g5
  have z6 : (k % 5 == 0) = false := beq_eq_false_iff_ne.2 g6
  have z7 : (l % 5 == 0) = false := beq_eq_false_iff_ne.2 g7
  have z8 : (m % 5 == 0) = true := beq_iff_eq.2 g8
  clear ht he g0 g1 g2 g3 g4 g5 g6 g7 g8 k0 l0 m0
  go_enter Tryd.func6, Tryd.ntmps6
  go_wp2_with (go_at_call 10; ((with_reducible refine HA.out.mono ?_); rintro e w2 ⟨rfl, hb⟩; have HB := Lib.hid hb; clear hb))
  all_goals go_ret
  all_goals exact ⟨rfl, HB.out⟩
end Go.Proofs.YtgnandbokgfeiaaDoor
