/-
  Layer 7, the program: texts of values; operators by their kinds.
-/
import Derived.Test.YtolhmemiknpeaaaGreatDoorVaD
namespace Go.Proofs.YtolhmemiknpeaaaGreatDoor
open Go.RowKit

/-- What the program's list of errors' texts holds. -/
def etA : Array Value := #[.string ⟨#[]⟩, .string ⟨#[35, 86, 65, 76, 85, 69, 33]⟩, .string ⟨#[35, 78, 85, 77, 33]⟩, .string ⟨#[35, 68, 73, 86, 48, 33]⟩, .string ⟨#[35, 82, 69, 70, 33]⟩, .string ⟨#[35, 78, 65, 77, 69, 33]⟩, .string ⟨#[35, 67, 89, 67, 76, 69, 33]⟩]
def EtV (w : World) : Prop := ∃ ty fr, w.heap[(0 : Nat)]? = some (.cells etA ty fr)
theorem EtV.below {w w' : World} (h : EtV w) (hb : Below w.heap.size w w') : EtV w' := by
  obtain ⟨ty, fr, h1⟩ := h
  exact ⟨ty, fr, by rw [hb.block _ (Array.getElem?_eq_some_iff.1 h1).1]; exact h1⟩
theorem EtV.cell {w : World} (h : EtV w) (j : Nat) : w.cell? ⟨(0 : Nat), j, none⟩ = etA[j]? := by
  obtain ⟨ty, fr, h1⟩ := h
  exact cell_of_row w _ j _ ty fr h1
set_option maxRecDepth 100000 in
set_option maxHeartbeats 1600000 in
theorem errorText_low (n : Int) (h0 : n < 0) (w : World) : Calls Tryz.prog 59 #[.int .i64 n] w fun e w' => e = .returned (.string (errT n)) ∧ w = w' := by
  have hv : errT n = ⟨#[]⟩ := by unfold errT; rw [if_pos (.inl h0)]
  rw [hv]; clear hv
  go_enter Tryz.func59, Tryz.ntmps59
  go_wp2_with fail
  go_ret
  exact ⟨rfl, rfl⟩
set_option maxRecDepth 100000 in
set_option maxHeartbeats 1600000 in
theorem errorText_high (n : Int) (h0 : 7 ≤ n) (w : World) : Calls Tryz.prog 59 #[.int .i64 n] w fun e w' => e = .returned (.string (errT n)) ∧ w = w' := by
  have hv : errT n = ⟨#[]⟩ := by unfold errT; rw [if_pos (.inr h0)]
  rw [hv]; clear hv
  have h1 : ¬ n < 0 := by omega
  go_enter Tryz.func59, Tryz.ntmps59
  go_wp2_with fail
  go_ret
  exact ⟨rfl, rfl⟩
set_option maxRecDepth 100000 in
set_option maxHeartbeats 1600000 in
theorem errorText_in (n : Int) (h0 : 0 ≤ n) (h1 : n < 7) (w : World) (h : EtV w) : Calls Tryz.prog 59 #[.int .i64 n] w fun e w' => e = .returned (.string (errT n)) ∧ w = w' := by
  have hn : n = 0 ∨ n = 1 ∨ n = 2 ∨ n = 3 ∨ n = 4 ∨ n = 5 ∨ n = 6 := by omega
  clear h0 h1
  rcases hn with rfl | rfl | rfl | rfl | rfl | rfl | rfl
  · have k : w.cell? ⟨(0 : Nat), 0, none⟩ = some (.string ⟨#[]⟩) := h.cell 0
    clear h
    go_enter Tryz.func59, Tryz.ntmps59
    go_wp2_with fail
    go_ret
    exact ⟨rfl, rfl⟩
  · have k : w.cell? ⟨(0 : Nat), 1, none⟩ = some (.string ⟨#[35, 86, 65, 76, 85, 69, 33]⟩) := h.cell 1
    clear h
    go_enter Tryz.func59, Tryz.ntmps59
    go_wp2_with fail
    go_ret
    exact ⟨rfl, rfl⟩
  · have k : w.cell? ⟨(0 : Nat), 2, none⟩ = some (.string ⟨#[35, 78, 85, 77, 33]⟩) := h.cell 2
    clear h
    go_enter Tryz.func59, Tryz.ntmps59
    go_wp2_with fail
    go_ret
    exact ⟨rfl, rfl⟩
  · have k : w.cell? ⟨(0 : Nat), 3, none⟩ = some (.string ⟨#[35, 68, 73, 86, 48, 33]⟩) := h.cell 3
    clear h
    go_enter Tryz.func59, Tryz.ntmps59
    go_wp2_with fail
    go_ret
    exact ⟨rfl, rfl⟩
  · have k : w.cell? ⟨(0 : Nat), 4, none⟩ = some (.string ⟨#[35, 82, 69, 70, 33]⟩) := h.cell 4
    clear h
    go_enter Tryz.func59, Tryz.ntmps59
    go_wp2_with fail
    go_ret
    exact ⟨rfl, rfl⟩
  · have k : w.cell? ⟨(0 : Nat), 5, none⟩ = some (.string ⟨#[35, 78, 65, 77, 69, 33]⟩) := h.cell 5
    clear h
    go_enter Tryz.func59, Tryz.ntmps59
    go_wp2_with fail
    go_ret
    exact ⟨rfl, rfl⟩
  · have k : w.cell? ⟨(0 : Nat), 6, none⟩ = some (.string ⟨#[35, 67, 89, 67, 76, 69, 33]⟩) := h.cell 6
    clear h
    go_enter Tryz.func59, Tryz.ntmps59
    go_wp2_with fail
    go_ret
    exact ⟨rfl, rfl⟩
theorem errorText_any (n : Int) (w : World) (h : EtV w) : Calls Tryz.prog 59 #[.int .i64 n] w fun e w' => e = .returned (.string (errT n)) ∧ w = w' := by
  by_cases h0 : n < 0
  · exact errorText_low n h0 w
  · by_cases h1 : 7 ≤ n
    · exact errorText_high n h1 w
    · exact errorText_in n (by omega) (by omega) w h
set_option maxRecDepth 100000 in
set_option maxHeartbeats 1600000 in
theorem text_1 (v : Vl) (h1 : v.k = 1) (ha : VOk v) (w : World) (ht : Tab w) : Calls Tryz.prog 46 #[.agg #[.int .i64 v.k, .int .i64 v.n, .string v.s]] w fun e w' => e = .returned (.string (textV v)) ∧ Below w.heap.size w w' := by
  have hv : textV v = strOfNums (decL v.n) := by unfold textV; rw [if_pos h1]
  rw [hv]
  have e1 : (v.k == 1) = true := beq_iff_eq.2 h1
  have hi := itoaZ_any v.n ha.1 ha.2.1 (w.alloc (.cells #[.int .i64 v.k, .int .i64 v.n, .string v.s] 28)) (ht.below (below_vl w v))
  have HI := Lib.hid hi
  clear hi ht ha
  have HB := Lib.hid (below_vl w v)
  clear hv h1
  go_enter Tryz.func46, Tryz.ntmps46
  go_wp2_with (go_at_call 58; ((with_reducible refine HI.out.mono ?_); rintro e w2 ⟨rfl, hb⟩; have HB2 := Lib.hid (HB.out.trans (hb.mono HB.out.size)); clear hb))
  go_ret
  exact ⟨rfl, HB2.out⟩
set_option maxRecDepth 100000 in
set_option maxHeartbeats 1600000 in
theorem text_2 (v : Vl) (h1 : ¬ v.k = 1) (h2 : v.k = 2) (w : World) : Calls Tryz.prog 46 #[.agg #[.int .i64 v.k, .int .i64 v.n, .string v.s]] w fun e w' => e = .returned (.string (textV v)) ∧ Below w.heap.size w w' := by
  have hv : textV v = v.s := by unfold textV; rw [if_neg h1, if_pos h2]
  rw [hv]
  have e1 : (v.k == 1) = false := beq_eq_false_iff_ne.2 h1
  have e2 : (v.k == 2) = true := beq_iff_eq.2 h2
  have HB := Lib.hid (below_vl w v)
  clear hv h1 h2
  go_enter Tryz.func46, Tryz.ntmps46
  go_wp2_with fail
  go_ret
  exact ⟨rfl, HB.out⟩
set_option maxRecDepth 100000 in
set_option maxHeartbeats 1600000 in
theorem text_3 (v : Vl) (h1 : ¬ v.k = 1) (h2 : ¬ v.k = 2) (h3 : v.k = 3) (hn : v.n = 1) (w : World) : Calls Tryz.prog 46 #[.agg #[.int .i64 v.k, .int .i64 v.n, .string v.s]] w fun e w' => e = .returned (.string (textV v)) ∧ Below w.heap.size w w' := by
  have hv : textV v = ⟨#[84, 82, 85, 69]⟩ := by unfold textV; rw [if_neg h1, if_neg h2, if_pos h3, if_pos hn]
  rw [hv]
  have e1 : (v.k == 1) = false := beq_eq_false_iff_ne.2 h1
  have e2 : (v.k == 2) = false := beq_eq_false_iff_ne.2 h2
  have e3 : (v.k == 3) = true := beq_iff_eq.2 h3
  have en : (v.n == 1) = true := beq_iff_eq.2 hn
  clear hn
  have HB := Lib.hid (below_vl w v)
  clear hv h1 h2 h3
  go_enter Tryz.func46, Tryz.ntmps46
  go_wp2_with fail
  go_ret
  exact ⟨rfl, HB.out⟩
set_option maxRecDepth 100000 in
set_option maxHeartbeats 1600000 in
theorem text_4 (v : Vl) (h1 : ¬ v.k = 1) (h2 : ¬ v.k = 2) (h3 : v.k = 3) (hn : ¬ v.n = 1) (w : World) : Calls Tryz.prog 46 #[.agg #[.int .i64 v.k, .int .i64 v.n, .string v.s]] w fun e w' => e = .returned (.string (textV v)) ∧ Below w.heap.size w w' := by
  have hv : textV v = ⟨#[70, 65, 76, 83, 69]⟩ := by unfold textV; rw [if_neg h1, if_neg h2, if_pos h3, if_neg hn]
  rw [hv]
  have e1 : (v.k == 1) = false := beq_eq_false_iff_ne.2 h1
  have e2 : (v.k == 2) = false := beq_eq_false_iff_ne.2 h2
  have e3 : (v.k == 3) = true := beq_iff_eq.2 h3
  have en : (v.n == 1) = false := beq_eq_false_iff_ne.2 hn
  clear hn
  have HB := Lib.hid (below_vl w v)
  clear hv h1 h2 h3
  go_enter Tryz.func46, Tryz.ntmps46
  go_wp2_with fail
  go_ret
  exact ⟨rfl, HB.out⟩
set_option maxRecDepth 100000 in
set_option maxHeartbeats 1600000 in
theorem text_5 (v : Vl) (h1 : ¬ v.k = 1) (h2 : ¬ v.k = 2) (h3 : ¬ v.k = 3) (h4 : v.k = 4) (w : World) (ht : EtV w) : Calls Tryz.prog 46 #[.agg #[.int .i64 v.k, .int .i64 v.n, .string v.s]] w fun e w' => e = .returned (.string (textV v)) ∧ Below w.heap.size w w' := by
  have hv : textV v = errT v.n := by unfold textV; rw [if_neg h1, if_neg h2, if_neg h3, if_pos h4]
  rw [hv]
  have e1 : (v.k == 1) = false := beq_eq_false_iff_ne.2 h1
  have e2 : (v.k == 2) = false := beq_eq_false_iff_ne.2 h2
  have e3 : (v.k == 3) = false := beq_eq_false_iff_ne.2 h3
  have e4 : (v.k == 4) = true := beq_iff_eq.2 h4
  have hi := errorText_any v.n (w.alloc (.cells #[.int .i64 v.k, .int .i64 v.n, .string v.s] 28)) (ht.below (below_vl w v))
  have HI := Lib.hid hi
  clear hi ht
  have HB := Lib.hid (below_vl w v)
  clear hv h1 h2 h3 h4
  go_enter Tryz.func46, Tryz.ntmps46
  go_wp2_with (go_at_call 59; ((with_reducible refine HI.out.mono ?_); rintro e w2 ⟨rfl, rfl⟩))
  go_ret
  exact ⟨rfl, HB.out⟩
set_option maxRecDepth 100000 in
set_option maxHeartbeats 1600000 in
theorem text_6 (v : Vl) (h1 : ¬ v.k = 1) (h2 : ¬ v.k = 2) (h3 : ¬ v.k = 3) (h4 : ¬ v.k = 4) (w : World) : Calls Tryz.prog 46 #[.agg #[.int .i64 v.k, .int .i64 v.n, .string v.s]] w fun e w' => e = .returned (.string (textV v)) ∧ Below w.heap.size w w' := by
  have hv : textV v = ⟨#[]⟩ := by unfold textV; rw [if_neg h1, if_neg h2, if_neg h3, if_neg h4]
  rw [hv]
  have e1 : (v.k == 1) = false := beq_eq_false_iff_ne.2 h1
  have e2 : (v.k == 2) = false := beq_eq_false_iff_ne.2 h2
  have e3 : (v.k == 3) = false := beq_eq_false_iff_ne.2 h3
  have e4 : (v.k == 4) = false := beq_eq_false_iff_ne.2 h4
  have HB := Lib.hid (below_vl w v)
  clear hv h1 h2 h3 h4
  go_enter Tryz.func46, Tryz.ntmps46
  go_wp2_with fail
  go_ret
  exact ⟨rfl, HB.out⟩
theorem textV_any (v : Vl) (ha : VOk v) (w : World) (ht : Tab w) (he : EtV w) : Calls Tryz.prog 46 #[.agg #[.int .i64 v.k, .int .i64 v.n, .string v.s]] w fun e w' => e = .returned (.string (textV v)) ∧ Below w.heap.size w w' := by
  by_cases h1 : v.k = 1
  · exact text_1 v h1 ha w ht
  · by_cases h2 : v.k = 2
    · exact text_2 v h1 h2 w
    · by_cases h3 : v.k = 3
      · by_cases hn : v.n = 1
        · exact text_3 v h1 h2 h3 hn w
        · exact text_4 v h1 h2 h3 hn w
      · by_cases h4 : v.k = 4
        · exact text_5 v h1 h2 h3 h4 w he
        · exact text_6 v h1 h2 h3 h4 w
end Go.Proofs.YtolhmemiknpeaaaGreatDoor
