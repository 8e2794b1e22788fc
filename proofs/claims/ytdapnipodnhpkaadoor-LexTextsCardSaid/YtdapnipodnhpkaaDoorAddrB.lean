/-
  Layer 3, the reference: a column's letters, decimal digits.
-/
import Derived.Test.YtdapnipodnhpkaaDoorAddrA
namespace Go.Proofs.YtdapnipodnhpkaaDoor
open Go.RowKit

theorem run_one8 (w : World) (t : TypeId) (x : Int) : (convert 36 9 (.slice (some ⟨w.heap.size, 0, none⟩) 1 1)).run Tryd.prog (w.alloc (.cells #[.int .u8 x] t)) = .ok (.string (strOfNums [x])) (w.alloc (.cells #[.int .u8 x] t)) := by
  refine run_convert_bytes_arg _ _ 5 Tryd.underlying36 Tryd.underlying5 _ 0 _ 1 [x] rfl (fun i hi => ?_) _ Tryd.underlying9
  rw [Nat.zero_add]
  have : i = 0 := by simp at hi; exact hi
  subst this
  exact cells_new (w := w) _ _ [.int .u8 x] rfl 0 _ rfl
theorem run_two8 (w : World) (t : TypeId) (x y : Int) : (convert 36 9 (.slice (some ⟨w.heap.size, 0, none⟩) 2 2)).run Tryd.prog (w.alloc (.cells #[.int .u8 x, .int .u8 y] t)) = .ok (.string (strOfNums [x, y])) (w.alloc (.cells #[.int .u8 x, .int .u8 y] t)) := by
  refine run_convert_bytes_arg _ _ 5 Tryd.underlying36 Tryd.underlying5 _ 0 _ 2 [x, y] rfl (fun i hi => ?_) _ Tryd.underlying9
  rw [Nat.zero_add]
  have h : i = 0 ∨ i = 1 := by simp at hi; omega
  rcases h with rfl | rfl
  · exact cells_new (w := w) _ _ [.int .u8 x, .int .u8 y] rfl 0 _ rfl
  · exact cells_new (w := w) _ _ [.int .u8 x, .int .u8 y] rfl 1 _ rfl

set_option maxRecDepth 100000 in
set_option maxHeartbeats 400000 in
theorem refCol_any (n : Int) (_h0 : -9223372036854775808 ≤ n) (_h1 : n ≤ 9223372036854775807) (w : World) :
    Calls Tryd.prog 17 #[.int .i64 n] w fun e w' => e = .returned (.string (strOfNums (colL n))) ∧ Below w.heap.size w w' := by
  by_cases hr : n < 0 ∨ 701 < n
  · have hc : colL n = [] := by unfold colL; rw [if_pos hr]
    have HC := Lib.hid hc; clear hc
    go_enter Tryd.func17, Tryd.ntmps17
    go_wp2
    all_goals first | omega | skip
    all_goals go_ret
    all_goals exact ⟨by rw [HC.out]; rfl, Below.refl _ _⟩
  · have h0 : ¬ n < 0 := by omega
    have h2 : ¬ 701 < n := by omega
    have h0' : 0 ≤ n := by omega
    by_cases h26 : n < 26
    · have hc : colL n = [65 + n] := by unfold colL; rw [if_neg hr, if_pos h26]
      have HC := Lib.hid hc; clear hc hr
      have hcv := fun (w : World) => run_one8 w 5 (65 + n)
      go_enter Tryd.func17, Tryd.ntmps17
      go_wp2
      all_goals go_ret
      all_goals exact ⟨by rw [HC.out]; rfl, (Below.refl _ _).alloc (Nat.le_refl _) _⟩
    · have hc : colL n = [65 + n / 26 - 1, 65 + n % 26] := by unfold colL; rw [if_neg hr, if_neg h26]; congr 1; omega
      have HC := Lib.hid hc; clear hc hr
      have hcv := fun (w : World) => run_two8 w 5 (65 + n / 26 - 1) (65 + n % 26)
      go_enter Tryd.func17, Tryd.ntmps17
      go_wp2
      all_goals go_ret
      all_goals exact ⟨by rw [HC.out]; rfl, (Below.refl _ _).alloc (Nat.le_refl _) _⟩
set_option maxRecDepth 100000 in
set_option maxHeartbeats 400000 in
theorem refDigits_nat (n : Nat) (_h1 : n ≤ 9223372036854775807) (w : World) :
    Calls Tryd.prog 11 #[.int .i64 n] w fun e w' => e = .returned (.string (strOfNums (digL n))) ∧ Below w.heap.size w w' := by
  have hn0 : ¬ (n : Int) < 0 := by omega
  go_enter Tryd.func11, Tryd.ntmps11
  go_wp2
  go_loopw [3, 4] (fun u v wr => ∃ (m : Nat) (t : List Int), m ≤ 9223372036854775807 ∧ u = .int .u64 m ∧ v = .string (strOfNums t) ∧ Hid (digL m ++ t = digL n ∧ 2 * t.length + m ≤ n) ∧ Below w.heap.size w wr)
    (fun u _ _ => (intOf u).toNat)
  case atStart => exact ⟨n, [], by omega, by go_num, rfl, Lib.hid ⟨by rw [List.append_nil], by simp⟩, Below.refl _ _⟩
  case round =>
    obtain ⟨m, t, hm, rfl, rfl, HT, hbl⟩ := hrel
    have HB := Lib.hid hbl; clear hbl
    have hcv := fun (w : World) => run_one8 w 5 (48 + (m : Int) % 10)
    have hcv2 := fun (w : World) => run_one8 w 5 (48 + (m : Int))
    have hsz : (strOfNums [48 + (m : Int) % 10]).size + (strOfNums t).size ≤ 9223372036854775807 := by rw [strOfNums_size, strOfNums_size]; have := HT.out.2; simp only [List.length_cons, List.length_nil]; by_cases h : t.length = 0 <;> by_cases h2 : m = 0 <;> omega
    have hsz2 : (strOfNums [48 + (m : Int)]).size + (strOfNums t).size ≤ 9223372036854775807 := by rw [strOfNums_size, strOfNums_size]; have := HT.out.2; simp only [List.length_cons, List.length_nil]; by_cases h : t.length = 0 <;> by_cases h2 : m = 0 <;> omega
    by_cases hlt : 10 ≤ m
    · have hki : (10 : Int) ≤ (m : Int) := by omega
      have hd := digL_more m (by omega)
      have HD := Lib.hid hd; clear hd
      go_wp2
      go_roundw
      case rel =>
        refine ⟨m / 10, (48 + (m : Int) % 10) :: t, by omega, by go_num, val_str (str_append _ _), Lib.hid ⟨?_, ?_⟩, HB.out.alloc HB.out.size _⟩
        · rw [← HT.out.1, HD.out, List.append_assoc, show ((m % 10 : Nat) : Int) = (m : Int) % 10 from by omega]; rfl
        · have := HT.out.2; simp only [List.length_cons]; omega
      case measure => simp [intOf]; omega
    · have hki : ¬ (10 : Int) ≤ (m : Int) := by omega
      have hd := digL_small m (by omega)
      have HD := Lib.hid hd; clear hd
      go_wp2
      go_ret
      exact ⟨ret_str (by rw [str_append, ← HT.out.1, HD.out]), HB.out.alloc HB.out.size _⟩
end Go.Proofs.YtdapnipodnhpkaaDoor
