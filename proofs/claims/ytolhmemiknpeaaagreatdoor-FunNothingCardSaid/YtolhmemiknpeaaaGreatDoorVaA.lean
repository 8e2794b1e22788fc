/-
  Layer 7, the program: values in blocks; small functions.
-/
import Derived.Test.YtolhmemiknpeaaaGreatDoorVaAG
import Derived.Test.YtolhmemiknpeaaaGreatDoorItoa
namespace Go.Proofs.YtolhmemiknpeaaaGreatDoor
open Go.RowKit

theorem res_fault : Tryz.f55.results = #[.cell 2 28] := by kernel_rfl
theorem res_number : Tryz.f85.results = #[.cell 2 28] := by kernel_rfl
theorem res_vtext : Tryz.f79.results = #[.cell 2 28] := by kernel_rfl
theorem res_vtruth : Tryz.f77.results = #[.cell 2 28] := by kernel_rfl
set_option maxRecDepth 100000 in
set_option maxHeartbeats 1600000 in
theorem fault_any (n : Int) (w : World) : Calls Tryz.prog 55 #[.int .i64 n] w fun e w' => e = .returned (.agg #[.int .i64 (Vl.err n).k, .int .i64 (Vl.err n).n, .string (Vl.err n).s]) ∧ Below w.heap.size w w' := by
  have HN := Lib.hid (VlAt.new w (Vl.err n))
  have HB := Lib.hid (below_vl w (Vl.err n))
  go_enter Tryz.func55, Tryz.ntmps55
  go_wp2_with fail
  exact bodyPost_ret (out_vl HN.out _ _ 2 res_fault rfl) rfl ⟨rfl, HB.out⟩
set_option maxRecDepth 100000 in
set_option maxHeartbeats 1600000 in
theorem number_any (n : Int) (w : World) : Calls Tryz.prog 85 #[.int .i64 n] w fun e w' => e = .returned (.agg #[.int .i64 (Vl.num n).k, .int .i64 (Vl.num n).n, .string (Vl.num n).s]) ∧ Below w.heap.size w w' := by
  have HN := Lib.hid (VlAt.new w (Vl.num n))
  have HB := Lib.hid (below_vl w (Vl.num n))
  go_enter Tryz.func85, Tryz.ntmps85
  go_wp2_with fail
  exact bodyPost_ret (out_vl HN.out _ _ 2 res_number rfl) rfl ⟨rfl, HB.out⟩
set_option maxRecDepth 100000 in
set_option maxHeartbeats 1600000 in
theorem vtext_any (s : ByteArray) (w : World) : Calls Tryz.prog 79 #[.string s] w fun e w' => e = .returned (.agg #[.int .i64 (Vl.text s).k, .int .i64 (Vl.text s).n, .string (Vl.text s).s]) ∧ Below w.heap.size w w' := by
  have HN := Lib.hid (VlAt.new w (Vl.text s))
  have HB := Lib.hid (below_vl w (Vl.text s))
  go_enter Tryz.func79, Tryz.ntmps79
  go_wp2_with fail
  exact bodyPost_ret (out_vl HN.out _ _ 2 res_vtext rfl) rfl ⟨rfl, HB.out⟩
set_option maxRecDepth 100000 in
set_option maxHeartbeats 1600000 in
theorem vtruth_false (w : World) : Calls Tryz.prog 77 #[.bool false] w fun e w' => e = .returned (.agg #[.int .i64 (Vl.truth false).k, .int .i64 (Vl.truth false).n, .string (Vl.truth false).s]) ∧ Below w.heap.size w w' := by
  have HN := Lib.hid ((VlAt.new w (Vl.truth false)).over ((Below.refl _ _).alloc (Nat.le_refl _) (.cells #[.int .i64 (Vl.truth false).k, .int .i64 (Vl.truth false).n, .string (Vl.truth false).s] 28)))
  have HB := Lib.hid ((below_vl w (Vl.truth false)).alloc (below_vl w (Vl.truth false)).size (.cells #[.int .i64 (Vl.truth false).k, .int .i64 (Vl.truth false).n, .string (Vl.truth false).s] 28))
  go_enter Tryz.func77, Tryz.ntmps77
  go_wp2_with fail
  exact bodyPost_ret (out_vl HN.out _ _ 2 res_vtruth rfl) rfl ⟨rfl, HB.out⟩
set_option maxRecDepth 100000 in
set_option maxHeartbeats 1600000 in
theorem vtruth_true (w : World) : Calls Tryz.prog 77 #[.bool true] w fun e w' => e = .returned (.agg #[.int .i64 (Vl.truth true).k, .int .i64 (Vl.truth true).n, .string (Vl.truth true).s]) ∧ Below w.heap.size w w' := by
  have HN := Lib.hid ((VlAt.new w (Vl.truth true)).over ((Below.refl _ _).alloc (Nat.le_refl _) (.cells #[.int .i64 (Vl.truth true).k, .int .i64 (Vl.truth true).n, .string (Vl.truth true).s] 28)))
  have HB := Lib.hid ((below_vl w (Vl.truth true)).alloc (below_vl w (Vl.truth true)).size (.cells #[.int .i64 (Vl.truth true).k, .int .i64 (Vl.truth true).n, .string (Vl.truth true).s] 28))
  go_enter Tryz.func77, Tryz.ntmps77
  go_wp2_with fail
  exact bodyPost_ret (out_vl HN.out _ _ 2 res_vtruth rfl) rfl ⟨rfl, HB.out⟩
theorem vtruth_any (b : Bool) (w : World) : Calls Tryz.prog 77 #[.bool b] w fun e w' => e = .returned (.agg #[.int .i64 (Vl.truth b).k, .int .i64 (Vl.truth b).n, .string (Vl.truth b).s]) ∧ Below w.heap.size w w' := by
  cases b with
  | false => exact vtruth_false w
  | true => exact vtruth_true w
set_option maxRecDepth 100000 in
set_option maxHeartbeats 1600000 in
theorem isError_any (v : Vl) (w : World) : Calls Tryz.prog 53 #[.agg #[.int .i64 v.k, .int .i64 v.n, .string v.s]] w fun e w' => e = .returned (.bool (decide (v.k = 4))) ∧ Below w.heap.size w w' := by
  have HB := Lib.hid (below_vl w v)
  go_enter Tryz.func53, Tryz.ntmps53
  go_wp2_with fail
  all_goals go_ret
  all_goals exact ⟨by first | rfl | rw [dec_beq], HB.out⟩
set_option maxRecDepth 100000 in
set_option maxHeartbeats 1600000 in
theorem int_any (v : Vl) (w : World) : Calls Tryz.prog 44 #[.agg #[.int .i64 v.k, .int .i64 v.n, .string v.s]] w fun e w' => e = .returned (.tuple #[.int .i64 (intV v), .bool (isInt v)]) ∧ Below w.heap.size w w' := by
  have HB := Lib.hid (below_vl w v)
  have hi : intV v = if v.k = 1 then v.n else 0 := rfl
  have hb : isInt v = decide (v.k = 0 ∨ v.k = 1) := rfl
  have HI := Lib.hid hi; have HJ := Lib.hid hb
  clear hi hb
  by_cases h0 : v.k = 0
  · have e0 : (v.k == 0) = true := beq_iff_eq.2 h0
    have H0 := Lib.hid h0; clear h0
    go_enter Tryz.func44, Tryz.ntmps44
    go_wp2_with fail
    all_goals go_ret2
    all_goals exact ⟨by rw [HI.out, HJ.out, H0.out]; rfl, HB.out⟩
  · have e0 : (v.k == 0) = false := beq_eq_false_iff_ne.2 h0
    have H0 := Lib.hid h0; clear h0
    by_cases h1 : v.k = 1
    · have e1 : (v.k == 1) = true := beq_iff_eq.2 h1
      have H1 := Lib.hid h1; clear h1
      go_enter Tryz.func44, Tryz.ntmps44
      go_wp2_with fail
      all_goals go_ret2
      all_goals exact ⟨by rw [HI.out, HJ.out, if_pos H1.out, decide_eq_true (.inr H1.out)]; rfl, HB.out⟩
    · have e1 : (v.k == 1) = false := beq_eq_false_iff_ne.2 h1
      have H1 := Lib.hid h1; clear h1
      go_enter Tryz.func44, Tryz.ntmps44
      go_wp2_with fail
      all_goals go_ret2
      all_goals exact ⟨by rw [HI.out, HJ.out, if_neg H1.out, decide_eq_false (fun h => h.elim H0.out H1.out)]; rfl, HB.out⟩
end Go.Proofs.YtolhmemiknpeaaaGreatDoor
