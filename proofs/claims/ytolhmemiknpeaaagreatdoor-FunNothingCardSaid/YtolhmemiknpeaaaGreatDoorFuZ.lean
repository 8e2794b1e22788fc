/-
  Layer 8, the program: numbers not below.
-/
import Derived.Test.YtolhmemiknpeaaaGreatDoorFuJ
import Derived.Deep.DeepCutAuto
namespace Go.Proofs.YtolhmemiknpeaaaGreatDoor
open Go.RowKit

/-- The number that an argument is, not below the least one. -/
def nbOk (x : Vl) (least : Int) : Bool := isInt x && decide (¬ intV x < least)
def nbV (x : Vl) (least : Int) : Int := if nbOk x least = true then intV x else 0
set_option maxRecDepth 100000 in
set_option maxHeartbeats 1600000 in
theorem notBelow_1_0 (w : World) (v : Value) (ags : List Ag) (h : SA w w.heap.size v ags) (hz : AZ ags) (hl : 1 < ags.length) : Calls Tryz.prog 47 #[.agg #[v], .int .i64 1, .int .i64 0] w fun e w' => e = .returned (.tuple #[.int .i64 (nbV (sglA ags 1) 0), .bool (nbOk (sglA ags 1) 0)]) ∧ Below w.heap.size w w' := by
  obtain ⟨⟨A, cap, rfl, hat⟩, hkid⟩ := id h
  obtain ⟨n, hn⟩ : ∃ n, ags.length = n := ⟨_, rfl⟩
  rw [hn] at h ⊢
  have hb : Aft w (w.alloc (.cells #[.slice A n cap] 38)) := Aft.alloc w _
  have c1 : (w.alloc (.cells #[.slice A n cap] 38)).cell? ⟨w.heap.size, 0, none⟩ = some (.slice A n cap) := by rw [cell_of_row _ w.heap.size 0 #[.slice A n cap] 38 _ (Go.MapKept.heap_alloc w _).1]; rfl
  have HS := Lib.hid (single_1 (w.alloc (.cells #[.slice A n cap] 38)) (.slice A n cap) ags ((h.below hb (Nat.le_refl _)).mono hb.size) hz hl)
  obtain ⟨x, hx⟩ : ∃ x, sglA ags 1 = x := ⟨_, rfl⟩
  rw [hx] at HS ⊢
  have HI := Lib.hid (fun (W : World) => int_any x W)
  obtain ⟨ii, hii⟩ : ∃ ii, isInt x = ii := ⟨_, rfl⟩
  obtain ⟨a, ha⟩ : ∃ a, intV x = a := ⟨_, rfl⟩
  have hok : nbOk x 0 = (ii && decide (¬ a < 0)) := by unfold nbOk; rw [hii, ha]
  have hnv : nbV x 0 = if (ii && decide (¬ a < 0)) = true then a else 0 := by unfold nbV; rw [hok, ha]
  rw [hii, ha] at HI
  rw [hok, hnv]
  have HW1 := Lib.hid hb
  clear h hz hl hat hkid hn hx hii ha hok hnv hb
  cases ii with
  | false =>
    rw [Bool.false_and, if_neg (by decide)]
    go_enter Tryz.func47, Tryz.ntmps47
    go_wp2_with (first
      | (go_at_call 42; ((with_reducible refine HS.out.mono ?_); rintro e w2 ⟨rfl, hb⟩; have HB2 := Lib.hid (HW1.out.trans hb); clear hb))
      | (go_at_call 44; ((with_reducible refine (HI.out _).mono ?_); rintro e w3 ⟨rfl, hb⟩; have HB3 := Lib.hid (HB2.out.trans hb); clear hb)))
    go_ret2
    exact ⟨by rfl, HB3.out⟩
  | true =>
    rw [Bool.true_and]
    by_cases hlt : a < 0
    · rw [decide_eq_false (fun h => h hlt), if_neg (by decide)]
      go_enter Tryz.func47, Tryz.ntmps47
      go_wp2_with (first
        | (go_at_call 42; ((with_reducible refine HS.out.mono ?_); rintro e w2 ⟨rfl, hb⟩; have HB2 := Lib.hid (HW1.out.trans hb); clear hb))
        | (go_at_call 44; ((with_reducible refine (HI.out _).mono ?_); rintro e w3 ⟨rfl, hb⟩; have HB3 := Lib.hid (HB2.out.trans hb); clear hb)))
      go_ret2
      exact ⟨by rfl, HB3.out⟩
    · rw [decide_eq_true hlt, if_pos rfl]
      go_enter Tryz.func47, Tryz.ntmps47
      go_wp2_with (first
        | (go_at_call 42; ((with_reducible refine HS.out.mono ?_); rintro e w2 ⟨rfl, hb⟩; have HB2 := Lib.hid (HW1.out.trans hb); clear hb))
        | (go_at_call 44; ((with_reducible refine (HI.out _).mono ?_); rintro e w3 ⟨rfl, hb⟩; have HB3 := Lib.hid (HB2.out.trans hb); clear hb)))
      go_ret2
      exact ⟨by rfl, HB3.out⟩
set_option maxRecDepth 100000 in
set_option maxHeartbeats 1600000 in
theorem notBelow_1_1 (w : World) (v : Value) (ags : List Ag) (h : SA w w.heap.size v ags) (hz : AZ ags) (hl : 1 < ags.length) : Calls Tryz.prog 47 #[.agg #[v], .int .i64 1, .int .i64 1] w fun e w' => e = .returned (.tuple #[.int .i64 (nbV (sglA ags 1) 1), .bool (nbOk (sglA ags 1) 1)]) ∧ Below w.heap.size w w' := by
  obtain ⟨⟨A, cap, rfl, hat⟩, hkid⟩ := id h
  obtain ⟨n, hn⟩ : ∃ n, ags.length = n := ⟨_, rfl⟩
  rw [hn] at h ⊢
  have hb : Aft w (w.alloc (.cells #[.slice A n cap] 38)) := Aft.alloc w _
  have c1 : (w.alloc (.cells #[.slice A n cap] 38)).cell? ⟨w.heap.size, 0, none⟩ = some (.slice A n cap) := by rw [cell_of_row _ w.heap.size 0 #[.slice A n cap] 38 _ (Go.MapKept.heap_alloc w _).1]; rfl
  have HS := Lib.hid (single_1 (w.alloc (.cells #[.slice A n cap] 38)) (.slice A n cap) ags ((h.below hb (Nat.le_refl _)).mono hb.size) hz hl)
  obtain ⟨x, hx⟩ : ∃ x, sglA ags 1 = x := ⟨_, rfl⟩
  rw [hx] at HS ⊢
  have HI := Lib.hid (fun (W : World) => int_any x W)
  obtain ⟨ii, hii⟩ : ∃ ii, isInt x = ii := ⟨_, rfl⟩
  obtain ⟨a, ha⟩ : ∃ a, intV x = a := ⟨_, rfl⟩
  have hok : nbOk x 1 = (ii && decide (¬ a < 1)) := by unfold nbOk; rw [hii, ha]
  have hnv : nbV x 1 = if (ii && decide (¬ a < 1)) = true then a else 0 := by unfold nbV; rw [hok, ha]
  rw [hii, ha] at HI
  rw [hok, hnv]
  have HW1 := Lib.hid hb
  clear h hz hl hat hkid hn hx hii ha hok hnv hb
  cases ii with
  | false =>
    rw [Bool.false_and, if_neg (by decide)]
    go_enter Tryz.func47, Tryz.ntmps47
    go_wp2_with (first
      | (go_at_call 42; ((with_reducible refine HS.out.mono ?_); rintro e w2 ⟨rfl, hb⟩; have HB2 := Lib.hid (HW1.out.trans hb); clear hb))
      | (go_at_call 44; ((with_reducible refine (HI.out _).mono ?_); rintro e w3 ⟨rfl, hb⟩; have HB3 := Lib.hid (HB2.out.trans hb); clear hb)))
    go_ret2
    exact ⟨by rfl, HB3.out⟩
  | true =>
    rw [Bool.true_and]
    by_cases hlt : a < 1
    · rw [decide_eq_false (fun h => h hlt), if_neg (by decide)]
      go_enter Tryz.func47, Tryz.ntmps47
      go_wp2_with (first
        | (go_at_call 42; ((with_reducible refine HS.out.mono ?_); rintro e w2 ⟨rfl, hb⟩; have HB2 := Lib.hid (HW1.out.trans hb); clear hb))
        | (go_at_call 44; ((with_reducible refine (HI.out _).mono ?_); rintro e w3 ⟨rfl, hb⟩; have HB3 := Lib.hid (HB2.out.trans hb); clear hb)))
      go_ret2
      exact ⟨by rfl, HB3.out⟩
    · rw [decide_eq_true hlt, if_pos rfl]
      go_enter Tryz.func47, Tryz.ntmps47
      go_wp2_with (first
        | (go_at_call 42; ((with_reducible refine HS.out.mono ?_); rintro e w2 ⟨rfl, hb⟩; have HB2 := Lib.hid (HW1.out.trans hb); clear hb))
        | (go_at_call 44; ((with_reducible refine (HI.out _).mono ?_); rintro e w3 ⟨rfl, hb⟩; have HB3 := Lib.hid (HB2.out.trans hb); clear hb)))
      go_ret2
      exact ⟨by rfl, HB3.out⟩
set_option maxRecDepth 100000 in
set_option maxHeartbeats 1600000 in
theorem notBelow_2_0 (w : World) (v : Value) (ags : List Ag) (h : SA w w.heap.size v ags) (hz : AZ ags) (hl : 2 < ags.length) : Calls Tryz.prog 47 #[.agg #[v], .int .i64 2, .int .i64 0] w fun e w' => e = .returned (.tuple #[.int .i64 (nbV (sglA ags 2) 0), .bool (nbOk (sglA ags 2) 0)]) ∧ Below w.heap.size w w' := by
  obtain ⟨⟨A, cap, rfl, hat⟩, hkid⟩ := id h
  obtain ⟨n, hn⟩ : ∃ n, ags.length = n := ⟨_, rfl⟩
  rw [hn] at h ⊢
  have hb : Aft w (w.alloc (.cells #[.slice A n cap] 38)) := Aft.alloc w _
  have c1 : (w.alloc (.cells #[.slice A n cap] 38)).cell? ⟨w.heap.size, 0, none⟩ = some (.slice A n cap) := by rw [cell_of_row _ w.heap.size 0 #[.slice A n cap] 38 _ (Go.MapKept.heap_alloc w _).1]; rfl
  have HS := Lib.hid (single_2 (w.alloc (.cells #[.slice A n cap] 38)) (.slice A n cap) ags ((h.below hb (Nat.le_refl _)).mono hb.size) hz hl)
  obtain ⟨x, hx⟩ : ∃ x, sglA ags 2 = x := ⟨_, rfl⟩
  rw [hx] at HS ⊢
  have HI := Lib.hid (fun (W : World) => int_any x W)
  obtain ⟨ii, hii⟩ : ∃ ii, isInt x = ii := ⟨_, rfl⟩
  obtain ⟨a, ha⟩ : ∃ a, intV x = a := ⟨_, rfl⟩
  have hok : nbOk x 0 = (ii && decide (¬ a < 0)) := by unfold nbOk; rw [hii, ha]
  have hnv : nbV x 0 = if (ii && decide (¬ a < 0)) = true then a else 0 := by unfold nbV; rw [hok, ha]
  rw [hii, ha] at HI
  rw [hok, hnv]
  have HW1 := Lib.hid hb
  clear h hz hl hat hkid hn hx hii ha hok hnv hb
  cases ii with
  | false =>
    rw [Bool.false_and, if_neg (by decide)]
    go_enter Tryz.func47, Tryz.ntmps47
    go_wp2_with (first
      | (go_at_call 42; ((with_reducible refine HS.out.mono ?_); rintro e w2 ⟨rfl, hb⟩; have HB2 := Lib.hid (HW1.out.trans hb); clear hb))
      | (go_at_call 44; ((with_reducible refine (HI.out _).mono ?_); rintro e w3 ⟨rfl, hb⟩; have HB3 := Lib.hid (HB2.out.trans hb); clear hb)))
    go_ret2
    exact ⟨by rfl, HB3.out⟩
  | true =>
    rw [Bool.true_and]
    by_cases hlt : a < 0
    · rw [decide_eq_false (fun h => h hlt), if_neg (by decide)]
      go_enter Tryz.func47, Tryz.ntmps47
      go_wp2_with (first
        | (go_at_call 42; ((with_reducible refine HS.out.mono ?_); rintro e w2 ⟨rfl, hb⟩; have HB2 := Lib.hid (HW1.out.trans hb); clear hb))
        | (go_at_call 44; ((with_reducible refine (HI.out _).mono ?_); rintro e w3 ⟨rfl, hb⟩; have HB3 := Lib.hid (HB2.out.trans hb); clear hb)))
      go_ret2
      exact ⟨by rfl, HB3.out⟩
    · rw [decide_eq_true hlt, if_pos rfl]
      go_enter Tryz.func47, Tryz.ntmps47
      go_wp2_with (first
        | (go_at_call 42; ((with_reducible refine HS.out.mono ?_); rintro e w2 ⟨rfl, hb⟩; have HB2 := Lib.hid (HW1.out.trans hb); clear hb))
        | (go_at_call 44; ((with_reducible refine (HI.out _).mono ?_); rintro e w3 ⟨rfl, hb⟩; have HB3 := Lib.hid (HB2.out.trans hb); clear hb)))
      go_ret2
      exact ⟨by rfl, HB3.out⟩
end Go.Proofs.YtolhmemiknpeaaaGreatDoor
