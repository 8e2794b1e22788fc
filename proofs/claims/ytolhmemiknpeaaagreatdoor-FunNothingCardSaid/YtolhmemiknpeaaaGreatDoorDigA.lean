/-
  The reference's decimal digits, of any number; bytes as texts.
-/
import Derived.Test.YtolhmemiknpeaaaGreatDoorOwnS
import Derived.Test.YtolhmemiknpeaaaGreatDoorAddrU
namespace Go.Proofs.YtolhmemiknpeaaaGreatDoor
open Go.RowKit

theorem run_one8 (w : World) (t : TypeId) (x : Int) : (convert 51 9 (.slice (some ⟨w.heap.size, 0, none⟩) 1 1)).run Tryz.prog (w.alloc (.cells #[.int .u8 x] t)) = .ok (.string (strOfNums [x])) (w.alloc (.cells #[.int .u8 x] t)) := by
  refine run_convert_bytes_arg _ _ 5 Tryz.underlying51 Tryz.underlying5 _ 0 _ 1 [x] rfl (fun i hi => ?_) _ Tryz.underlying9
  rw [Nat.zero_add]
  have : i = 0 := by simp at hi; exact hi
  subst this
  exact cells_new (w := w) _ _ [.int .u8 x] rfl 0 _ rfl
theorem run_two8 (w : World) (t : TypeId) (x y : Int) : (convert 51 9 (.slice (some ⟨w.heap.size, 0, none⟩) 2 2)).run Tryz.prog (w.alloc (.cells #[.int .u8 x, .int .u8 y] t)) = .ok (.string (strOfNums [x, y])) (w.alloc (.cells #[.int .u8 x, .int .u8 y] t)) := by
  refine run_convert_bytes_arg _ _ 5 Tryz.underlying51 Tryz.underlying5 _ 0 _ 2 [x, y] rfl (fun i hi => ?_) _ Tryz.underlying9
  rw [Nat.zero_add]
  have h : i = 0 ∨ i = 1 := by simp at hi; omega
  rcases h with rfl | rfl
  · exact cells_new (w := w) _ _ [.int .u8 x, .int .u8 y] rfl 0 _ rfl
  · exact cells_new (w := w) _ _ [.int .u8 x, .int .u8 y] rfl 1 _ rfl

set_option maxRecDepth 100000 in
set_option maxHeartbeats 400000 in
theorem refDigits_nat (n : Nat) (_h1 : n ≤ 9223372036854775807) (w : World) :
    Calls Tryz.prog 7 #[.int .i64 n] w fun e w' => e = .returned (.string (strOfNums (digL n))) ∧ Below w.heap.size w w' := by
  have hn0 : ¬ (n : Int) < 0 := by omega
  go_enter Tryz.func7, Tryz.ntmps7
  go_wp2
  go_loopw [3, 4] (fun u v wr => ∃ (m : Nat) (t : List Int), m ≤ 9223372036854775807 ∧ u = .int .u64 m ∧ v = .string (strOfNums t) ∧ Hid (digL m ++ t = digL n ∧ 2 * t.length + m ≤ n) ∧ Below w.heap.size w wr)
    (fun u _ _ => (intOf u).toNat)
  case atStart => exact ⟨n, [], by omega, by go_num, rfl, Lib.hid ⟨by rw [List.append_nil], by simp⟩, Below.refl _ _⟩
  case round =>
    obtain ⟨m, t, hm, rfl, rfl, HT, hbl⟩ := hrel
    have HB := Lib.hid hbl; clear hbl
    have hcv := fun (w : World) => run_one8 w 5 (48 + (m : Int) % 10)
    have hcv2 := fun (w : World) => run_one8 w 5 (48 + (m : Int))
    have hsz : (strOfNums [48 + (m : Int) % 10]).size + (strOfNums t).size ≤ 9223372036854775807 := by rw [strOfNums_size, strOfNums_size]; have := HT.out.2; simp only [List.length_cons, List.length_nil]; by_cases h : t.length = 0 <;> by_cases h2 : m = 0 <;> omega
    have hsz2 : (strOfNums [48 + (m : Int)]).size + (strOfNums t).size ≤ 9223372036854775807 := by rw [strOfNums_size, strOfNums_size]; have := HT.out.2; simp only [List.length_cons, List.length_nil]; by_cases h : t.length = 0 <;> by_cases h2 : m = 0 <;> omega
    by_cases hlt : 10 ≤ m
    · have hki : (10 : Int) ≤ (m : Int) := by omega
      have hd := digL_more m (by omega)
      have HD := Lib.hid hd; clear hd
      go_wp2
      go_roundw
      case rel =>
        refine ⟨m / 10, (48 + (m : Int) % 10) :: t, by omega, by go_num, val_str (str_append _ _), Lib.hid ⟨?_, ?_⟩, HB.out.alloc HB.out.size _⟩
        · rw [← HT.out.1, HD.out, List.append_assoc, show ((m % 10 : Nat) : Int) = (m : Int) % 10 from by omega]; rfl
        · have := HT.out.2; simp only [List.length_cons]; omega
      case measure => simp [intOf]; omega
    · have hki : ¬ (10 : Int) ≤ (m : Int) := by omega
      have hd := digL_small m (by omega)
      have HD := Lib.hid hd; clear hd
      go_wp2
      go_ret
      exact ⟨ret_str (by rw [str_append, ← HT.out.1, HD.out]), HB.out.alloc HB.out.size _⟩
set_option maxRecDepth 100000 in
set_option maxHeartbeats 400000 in
theorem refDigits_neg (n : Nat) (_h0 : 0 < n) (_h1 : n ≤ 9223372036854775808) (w : World) :
    Calls Tryz.prog 7 #[.int .i64 (-(n : Int))] w fun e w' => e = .returned (.string (strOfNums (45 :: digL n))) ∧ Below w.heap.size w w' := by
  have hn0 : -(n : Int) < 0 := by omega
  have hw1 : IntKind.u64.wrap (-(n : Int)) = 18446744073709551616 - (n : Int) := by rw [IntKind.wrap_u64]; omega
  have hw2 : IntKind.u64.wrap (-(18446744073709551616 - (n : Int))) = (n : Int) := by rw [IntKind.wrap_u64]; omega
  go_enter Tryz.func7, Tryz.ntmps7
  go_wp2
  go_loopw [3, 4] (fun u v wr => ∃ (m : Nat) (t : List Int), m ≤ 9223372036854775808 ∧ u = .int .u64 m ∧ v = .string (strOfNums t) ∧ Hid (digL m ++ t = digL n ∧ 2 * t.length + m ≤ n) ∧ Below w.heap.size w wr)
    (fun u _ _ => (intOf u).toNat)
  case atStart => exact ⟨n, [], by omega, by go_num, rfl, Lib.hid ⟨by rw [List.append_nil], by simp⟩, Below.refl _ _⟩
  case round =>
    obtain ⟨m, t, hm, rfl, rfl, HT, hbl⟩ := hrel
    have HB := Lib.hid hbl; clear hbl
    have hcv := fun (w : World) => run_one8 w 5 (48 + (m : Int) % 10)
    have hcv2 := fun (w : World) => run_one8 w 5 (48 + (m : Int))
    have hsz : (strOfNums [48 + (m : Int) % 10]).size + (strOfNums t).size ≤ 9000000000000000000 := by rw [strOfNums_size, strOfNums_size]; have := HT.out.2; simp only [List.length_cons, List.length_nil]; by_cases h : t.length = 0 <;> by_cases h2 : m = 0 <;> omega
    have hsz2 : (strOfNums [48 + (m : Int)]).size + (strOfNums t).size ≤ 9000000000000000000 := by rw [strOfNums_size, strOfNums_size]; have := HT.out.2; simp only [List.length_cons, List.length_nil]; by_cases h : t.length = 0 <;> by_cases h2 : m = 0 <;> omega
    by_cases hlt : 10 ≤ m
    · have hki : (10 : Int) ≤ (m : Int) := by omega
      have hd := digL_more m (by omega)
      have HD := Lib.hid hd; clear hd
      go_wp2
      go_roundw
      case rel =>
        refine ⟨m / 10, (48 + (m : Int) % 10) :: t, by omega, by go_num, val_str (str_append _ _), Lib.hid ⟨?_, ?_⟩, HB.out.alloc HB.out.size _⟩
        · rw [← HT.out.1, HD.out, List.append_assoc, show ((m % 10 : Nat) : Int) = (m : Int) % 10 from by omega]; rfl
        · have := HT.out.2; simp only [List.length_cons]; omega
      case measure => simp [intOf]; omega
    · have hki : ¬ (10 : Int) ≤ (m : Int) := by omega
      have hd := digL_small m (by omega)
      have HD := Lib.hid hd; clear hd
      go_wp2
      go_ret
      exact ⟨ret_str (by rw [str_append, ← HT.out.1, HD.out]; exact str_append [45] _), HB.out.alloc HB.out.size _⟩
theorem refDigits_any (n : Int) (h0 : -9223372036854775808 ≤ n) (h1 : n ≤ 9223372036854775807) (w : World) :
    Calls Tryz.prog 7 #[.int .i64 n] w fun e w' => e = .returned (.string (strOfNums (decL n))) ∧ Below w.heap.size w w' := by
  by_cases h : n < 0
  · obtain ⟨m, hm⟩ : ∃ m : Nat, n = -(m : Int) := ⟨n.natAbs, by omega⟩
    have e : decL n = 45 :: digL m := by unfold decL; rw [if_pos h]; congr 2; omega
    rw [e, hm]; exact refDigits_neg m (by omega) (by omega) w
  · obtain ⟨m, hm⟩ : ∃ m : Nat, n = (m : Int) := ⟨n.natAbs, by omega⟩
    have e : decL n = digL m := by unfold decL; rw [if_neg h]; congr 1; omega
    rw [e, hm]; exact refDigits_nat m (by omega) w
end Go.Proofs.YtolhmemiknpeaaaGreatDoor
