/-
  Layer 7, the program: what a value counts as.
-/
import Derived.Test.YtolhmemiknpeaaaGreatDoorVaH
namespace Go.Proofs.YtolhmemiknpeaaaGreatDoor
open Go.RowKit

set_option maxRecDepth 100000 in
set_option maxHeartbeats 1600000 in
theorem tru_0 (v : Vl) (h0 : v.k = 0) (w : World) : Calls Tryz.prog 43 #[.agg #[.int .i64 v.k, .int .i64 v.n, .string v.s]] w fun e w' => e = .returned (.tuple #[.bool false, .bool true]) ∧ Below w.heap.size w w' := by
  have e0 : (v.k == 0) = true := beq_iff_eq.2 h0
  have HB := Lib.hid (below_vl w v)
  clear h0
  go_enter Tryz.func43, Tryz.ntmps43
  go_wp2_with fail
  all_goals go_ret2
  all_goals exact ⟨by rfl, HB.out⟩
set_option maxRecDepth 100000 in
set_option maxHeartbeats 1600000 in
theorem tru_1 (v : Vl) (h0 : ¬ v.k = 0) (h1 : v.k = 1) (w : World) : Calls Tryz.prog 43 #[.agg #[.int .i64 v.k, .int .i64 v.n, .string v.s]] w fun e w' => e = .returned (.tuple #[.bool (v.n != 0), .bool true]) ∧ Below w.heap.size w w' := by
  have e0 : (v.k == 0) = false := beq_eq_false_iff_ne.2 h0
  have e1 : (v.k == 1) = true := beq_iff_eq.2 h1
  have HB := Lib.hid (below_vl w v)
  clear h0 h1
  go_enter Tryz.func43, Tryz.ntmps43
  go_wp2_with fail
  all_goals go_ret2
  all_goals exact ⟨by rfl, HB.out⟩
set_option maxRecDepth 100000 in
set_option maxHeartbeats 1600000 in
theorem tru_3 (v : Vl) (h0 : ¬ v.k = 0) (h1 : ¬ v.k = 1) (h3 : v.k = 3) (w : World) : Calls Tryz.prog 43 #[.agg #[.int .i64 v.k, .int .i64 v.n, .string v.s]] w fun e w' => e = .returned (.tuple #[.bool (v.n == 1), .bool true]) ∧ Below w.heap.size w w' := by
  have e0 : (v.k == 0) = false := beq_eq_false_iff_ne.2 h0
  have e1 : (v.k == 1) = false := beq_eq_false_iff_ne.2 h1
  have e3 : (v.k == 3) = true := beq_iff_eq.2 h3
  have HB := Lib.hid (below_vl w v)
  clear h0 h1 h3
  go_enter Tryz.func43, Tryz.ntmps43
  go_wp2_with fail
  all_goals go_ret2
  all_goals exact ⟨by rfl, HB.out⟩
set_option maxRecDepth 100000 in
set_option maxHeartbeats 1600000 in
theorem tru_x (v : Vl) (h0 : ¬ v.k = 0) (h1 : ¬ v.k = 1) (h3 : ¬ v.k = 3) (w : World) : Calls Tryz.prog 43 #[.agg #[.int .i64 v.k, .int .i64 v.n, .string v.s]] w fun e w' => e = .returned (.tuple #[.bool false, .bool false]) ∧ Below w.heap.size w w' := by
  have e0 : (v.k == 0) = false := beq_eq_false_iff_ne.2 h0
  have e1 : (v.k == 1) = false := beq_eq_false_iff_ne.2 h1
  have e3 : (v.k == 3) = false := beq_eq_false_iff_ne.2 h3
  have HB := Lib.hid (below_vl w v)
  clear h0 h1 h3
  go_enter Tryz.func43, Tryz.ntmps43
  go_wp2_with fail
  all_goals go_ret2
  all_goals exact ⟨by rfl, HB.out⟩
theorem tru_any (v : Vl) (w : World) : Calls Tryz.prog 43 #[.agg #[.int .i64 v.k, .int .i64 v.n, .string v.s]] w fun e w' => e = .returned (.tuple #[.bool (truthV v), .bool (isTruth v)]) ∧ Below w.heap.size w w' := by
  by_cases h0 : v.k = 0
  · rw [show truthV v = false from by unfold truthV; rw [if_neg (by omega), if_neg (by omega)], show isTruth v = true from decide_eq_true (.inl h0)]; exact tru_0 v h0 w
  by_cases h1 : v.k = 1
  · rw [show truthV v = (v.n != 0) from by unfold truthV; rw [if_pos h1, dec_bne], show isTruth v = true from decide_eq_true (.inr (.inl h1))]; exact tru_1 v h0 h1 w
  by_cases h3 : v.k = 3
  · rw [show truthV v = (v.n == 1) from by unfold truthV; rw [if_neg h1, if_pos h3, dec_beq], show isTruth v = true from decide_eq_true (.inr (.inr h3))]; exact tru_3 v h0 h1 h3 w
  · rw [show truthV v = false from by unfold truthV; rw [if_neg h1, if_neg h3], show isTruth v = false from decide_eq_false (by rintro (h | h | h); exact h0 h; exact h1 h; exact h3 h)]; exact tru_x v h0 h1 h3 w
end Go.Proofs.YtolhmemiknpeaaaGreatDoor
