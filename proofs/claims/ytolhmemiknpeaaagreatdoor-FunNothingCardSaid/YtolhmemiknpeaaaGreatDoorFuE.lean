/-
  Layer 8, the program: whether a slice has something.
-/
import Derived.Test.YtolhmemiknpeaaaGreatDoorFuD
import Derived.Deep.DeepCutAuto
namespace Go.Proofs.YtolhmemiknpeaaaGreatDoor
open Go.RowKit

def Idx {α : Type} [BEq α] (k : Int) (xs : List α) (x : α) : Prop := decide (0 ≤ k) = xs.contains x
/-- The later world holds all that the earlier one did. -/
def Aft (w w' : World) : Prop := Below w.heap.size w w'
theorem Aft.refl (w : World) : Aft w w := Below.refl _ _
theorem Aft.trans {a b c : World} (h : Aft a b) (k : Aft b c) : Aft a c := Below.trans h (Below.mono k h.size)
theorem Aft.alloc (w : World) (o : Obj) : Aft w (w.alloc o) := (Below.refl _ _).alloc (Nat.le_refl _) _
theorem Aft.allocR {a w : World} (o : Obj) (h : Aft a w) : Aft a (w.alloc o) := h.trans (Aft.alloc w o)
theorem Aft.drewR {a w : World} (h : Aft a w) : Aft a w.drew := Below.drew h
theorem drew_below8 (w : World) (k : Nat) : Aft w (w.drewN k) := ⟨rfl, rfl, rfl, Nat.le_refl _, fun _ _ => rfl⟩
set_option maxRecDepth 100000 in
set_option maxHeartbeats 1600000 in
theorem index_int (w : World) (B : Nat) (v : Value) (xs : List Int) (x : Int) (h : SG (Value.int .i64) w B v xs) (hz : xs.length ≤ 1000000) : Calls Tryz.prog 76 #[v, .int .i64 x] w fun e w' => ∃ k : Int, e = .returned (.int .i64 k) ∧ Idx k xs x ∧ Aft w w' := by
  obtain ⟨A, cap, rfl, hat⟩ := h
  obtain ⟨n, hn⟩ : ∃ n, xs.length = n := ⟨_, rfl⟩
  rw [hn] at hz ⊢
  have HAT := Lib.hid hat; have HN := Lib.hid hn
  clear hat hn
  go_enter Tryz.func76, Tryz.ntmps76
  go_upto_region 2 with (fail)
  go_loopw [8] (fun iv wr => ∃ (i : Nat) (k : Nat), i ≤ n ∧ iv = .int .i64 (i : Int) ∧ Hid (xs.contains x = (xs.drop i).contains x) ∧ w.drewN k = wr)
    (fun iv _ => n - (intOf iv).toNat)
  case atStart => exact ⟨0, 0, Nat.zero_le _, rfl, Lib.hid rfl, rfl⟩
  case round =>
    obtain ⟨i, k, hi, rfl, HT, rfl⟩ := hrel
    by_cases hlt : i < n
    · have hii : (i : Int) < (n : Int) := by omega
      have hi0 : (0 : Int) ≤ (i : Int) := by omega
      obtain ⟨y, hy⟩ : ∃ y, xs[i]? = some y := ⟨_, List.getElem?_eq_getElem (by rw [HN.out]; exact hlt)⟩
      have HD := Lib.hid (drop_at hy)
      rcases HAT.out with e | ⟨pb, po, rfl, -, hc⟩
      · exfalso; rw [e] at hy; simp at hy
      have k1 := hc i y hy
      clear hc hy
      by_cases hxy : x = y
      · have exy : (x == y) = true := beq_iff_eq.2 hxy
        have HF := Lib.hid (show xs.contains x = true by rw [HT.out, HD.out, List.contains_cons, exy, Bool.true_or])
        clear hxy
        go_wp2_with fail
        go_ret
        exact ⟨_, rfl, by show decide _ = _; rw [HF.out]; exact decide_eq_true (by omega), drew_below8 _ _⟩
      · have exy : (x == y) = false := beq_eq_false_iff_ne.2 hxy
        have HF := Lib.hid (show xs.contains x = (xs.drop (i + 1)).contains x by rw [HT.out, HD.out, List.contains_cons, exy, Bool.false_or])
        clear hxy
        go_wp2_with fail
        go_roundw
        case rel => exact ⟨i + 1, _, by omega, by go_num, HF, by first | rfl | trivial⟩
        case measure => simp [intOf]; omega
    · have hii : ¬ (i : Int) < (n : Int) := by omega
      have HF := Lib.hid (show xs.contains x = false by rw [HT.out, List.drop_of_length_le (by rw [HN.out]; omega)]; rfl)
      go_wp2_with fail
      go_ret
      exact ⟨_, rfl, by show decide _ = _; rw [HF.out]; exact decide_eq_false (by omega), drew_below8 _ _⟩
set_option maxRecDepth 100000 in
set_option maxHeartbeats 1600000 in
theorem contains_int (w : World) (B : Nat) (v : Value) (xs : List Int) (x : Int) (h : SG (Value.int .i64) w B v xs) (hz : xs.length ≤ 1000000) : Calls Tryz.prog 61 #[v, .int .i64 x] w fun e w' => e = .returned (.bool (xs.contains x)) ∧ Aft w w' := by
  have HI := Lib.hid (index_int w B v xs x h hz)
  clear h
  obtain ⟨c, hc⟩ : ∃ c, xs.contains x = c := ⟨_, rfl⟩
  rw [hc]
  have HC := Lib.hid hc
  clear hc
  go_enter Tryz.func61, Tryz.ntmps61
  go_wp2_with (first
    | (go_at_call 76; ((with_reducible refine HI.out.mono ?_); rintro e w1 ⟨k, rfl, hk, hb⟩; have HK := Lib.hid hk; have HB := Lib.hid hb; clear hk hb)))
  go_ret
  exact ⟨by rw [← HC.out, ← (show decide _ = _ from HK.out)] <;> rfl, HB.out⟩
set_option maxRecDepth 100000 in
set_option maxHeartbeats 1600000 in
theorem index_bool (w : World) (B : Nat) (v : Value) (xs : List Bool) (x : Bool) (h : SG (Value.bool) w B v xs) (hz : xs.length ≤ 1000000) : Calls Tryz.prog 56 #[v, .bool x] w fun e w' => ∃ k : Int, e = .returned (.int .i64 k) ∧ Idx k xs x ∧ Aft w w' := by
  obtain ⟨A, cap, rfl, hat⟩ := h
  obtain ⟨n, hn⟩ : ∃ n, xs.length = n := ⟨_, rfl⟩
  rw [hn] at hz ⊢
  have HAT := Lib.hid hat; have HN := Lib.hid hn
  clear hat hn
  go_enter Tryz.func56, Tryz.ntmps56
  go_upto_region 2 with (fail)
  go_loopw [8] (fun iv wr => ∃ (i : Nat) (k : Nat), i ≤ n ∧ iv = .int .i64 (i : Int) ∧ Hid (xs.contains x = (xs.drop i).contains x) ∧ w.drewN k = wr)
    (fun iv _ => n - (intOf iv).toNat)
  case atStart => exact ⟨0, 0, Nat.zero_le _, rfl, Lib.hid rfl, rfl⟩
  case round =>
    obtain ⟨i, k, hi, rfl, HT, rfl⟩ := hrel
    by_cases hlt : i < n
    · have hii : (i : Int) < (n : Int) := by omega
      have hi0 : (0 : Int) ≤ (i : Int) := by omega
      obtain ⟨y, hy⟩ : ∃ y, xs[i]? = some y := ⟨_, List.getElem?_eq_getElem (by rw [HN.out]; exact hlt)⟩
      have HD := Lib.hid (drop_at hy)
      rcases HAT.out with e | ⟨pb, po, rfl, -, hc⟩
      · exfalso; rw [e] at hy; simp at hy
      have k1 := hc i y hy
      clear hc hy
      by_cases hxy : x = y
      · have exy : (x == y) = true := beq_iff_eq.2 hxy
        have HF := Lib.hid (show xs.contains x = true by rw [HT.out, HD.out, List.contains_cons, exy, Bool.true_or])
        clear hxy
        go_wp2_with fail
        go_ret
        exact ⟨_, rfl, by show decide _ = _; rw [HF.out]; exact decide_eq_true (by omega), drew_below8 _ _⟩
      · have exy : (x == y) = false := beq_eq_false_iff_ne.2 hxy
        have HF := Lib.hid (show xs.contains x = (xs.drop (i + 1)).contains x by rw [HT.out, HD.out, List.contains_cons, exy, Bool.false_or])
        clear hxy
        go_wp2_with fail
        go_roundw
        case rel => exact ⟨i + 1, _, by omega, by go_num, HF, by first | rfl | trivial⟩
        case measure => simp [intOf]; omega
    · have hii : ¬ (i : Int) < (n : Int) := by omega
      have HF := Lib.hid (show xs.contains x = false by rw [HT.out, List.drop_of_length_le (by rw [HN.out]; omega)]; rfl)
      go_wp2_with fail
      go_ret
      exact ⟨_, rfl, by show decide _ = _; rw [HF.out]; exact decide_eq_false (by omega), drew_below8 _ _⟩
set_option maxRecDepth 100000 in
set_option maxHeartbeats 1600000 in
theorem contains_bool (w : World) (B : Nat) (v : Value) (xs : List Bool) (x : Bool) (h : SG (Value.bool) w B v xs) (hz : xs.length ≤ 1000000) : Calls Tryz.prog 41 #[v, .bool x] w fun e w' => e = .returned (.bool (xs.contains x)) ∧ Aft w w' := by
  have HI := Lib.hid (index_bool w B v xs x h hz)
  clear h
  obtain ⟨c, hc⟩ : ∃ c, xs.contains x = c := ⟨_, rfl⟩
  rw [hc]
  have HC := Lib.hid hc
  clear hc
  go_enter Tryz.func41, Tryz.ntmps41
  go_wp2_with (first
    | (go_at_call 56; ((with_reducible refine HI.out.mono ?_); rintro e w1 ⟨k, rfl, hk, hb⟩; have HK := Lib.hid hk; have HB := Lib.hid hb; clear hk hb)))
  go_ret
  exact ⟨by rw [← HC.out, ← (show decide _ = _ from HK.out)] <;> rfl, HB.out⟩
end Go.Proofs.YtolhmemiknpeaaaGreatDoor
