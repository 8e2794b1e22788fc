/-
  Contracts of the small functions of layer 1: digits, turns of words, a word read.
-/
import Derived.Test.YtlghholonjmeaaaDoorStr
namespace Go.Proofs.YtlghholonjmeaaaDoor
open Go.RowKit

def isDig (c : Int) : Bool := decide (48 ≤ c ∧ c ≤ 57 ∨ 97 ≤ c ∧ c ≤ 102)
def digVal (c : Int) : Int := if 48 ≤ c ∧ c ≤ 57 then c - 48 else if 97 ≤ c ∧ c ≤ 102 then c - 87 else 0
def nibVal (c : Int) : Int := if 48 ≤ c ∧ c ≤ 57 then c - 48 else if 97 ≤ c ∧ c ≤ 102 then c - 87 else -1
def rotw (x n : Int) : Int := bits .or .u32 (x / 2 ^ n.toNat) (x * 2 ^ (32 - n).toNat % 4294967296)

def word4 (a b c d : Int) : Int := bits .or .u32 (bits .or .u32 (bits .or .u32 (a * 16777216) (b * 65536)) (c * 256)) d
theorem ret_dig {a b : Int} {p q : Bool} (h : a = b) (h2 : p = q) : Ending.returned (.tuple #[.int .u8 a, .bool p]) = .returned (.tuple #[.int .u8 b, .bool q]) := by rw [h, h2]

set_option maxHeartbeats 400000 in
theorem digitValue_any (c : Int) (_h0 : 0 ≤ c) (_h1 : c ≤ 255) (w : World) :
    Calls Tryd.prog 23 #[.int .u8 c] w fun e w' => e = .returned (.tuple #[.int .u8 (digVal c), .bool (isDig c)]) ∧ w = w' := by
  go_enter Tryd.func23, Tryd.ntmps23
  go_wp2
  all_goals go_ret2
  all_goals exact ⟨ret_dig (by unfold digVal; split <;> (try split) <;> omega) (by first | (symm; unfold isDig; rw [decide_eq_true_iff]; omega) | (symm; unfold isDig; rw [decide_eq_false_iff_not]; omega)), rfl⟩

set_option maxHeartbeats 400000 in
theorem nibble_any (c : Int) (_h0 : 0 ≤ c) (_h1 : c ≤ 255) (w : World) :
    Calls Tryd.prog 24 #[.int .u8 c] w fun e w' => e = .returned (.int .i64 (nibVal c)) ∧ w = w' := by
  go_enter Tryd.func24, Tryd.ntmps24
  go_wp2
  all_goals go_ret
  all_goals exact ⟨ret_int (by unfold nibVal; split <;> (try split) <;> omega), rfl⟩

set_option maxHeartbeats 400000 in
theorem turn_any (x n : Int) (_h0 : 0 ≤ x) (_h1 : x ≤ 4294967295) (_hn : 0 < n) (_hm : n < 32) (w : World) :
    Calls Tryd.prog 25 #[.int .u32 x, .int .i64 n] w fun e w' => e = .returned (.int .u32 (rotw x n)) ∧ w' = w := by
  go_enter Tryd.func25, Tryd.ntmps25
  go_wp2
  all_goals go_ret
  exact ⟨rfl, rfl⟩
theorem or32_comm (a b : Int) : bits .or .u32 a b = bits .or .u32 b a := by
  unfold bits; simp only [BitVec.or_comm]

set_option maxHeartbeats 400000 in
theorem rot_2 (x : Int) (_h0 : 0 ≤ x) (_h1 : x ≤ 4294967295) (w : World) :
    Calls Tryd.prog 29 #[.int .u32 x, .int .i64 (-2)] w fun e w' => e = .returned (.int .u32 (rotw x 2)) ∧ w' = w := by
  have e1 : bits .and .u64 (IntKind.u64.wrap (-2)) 31 = 30 := by decide +kernel
  have e2 : bits .and .u64 18446744073709551614 31 = 30 := by decide +kernel
  go_enter Tryd.func29, Tryd.ntmps29
  go_wp2
  go_ret
  exact ⟨ret_int (or32_comm _ _), rfl⟩
set_option maxHeartbeats 400000 in
theorem rot_6 (x : Int) (_h0 : 0 ≤ x) (_h1 : x ≤ 4294967295) (w : World) :
    Calls Tryd.prog 29 #[.int .u32 x, .int .i64 (-6)] w fun e w' => e = .returned (.int .u32 (rotw x 6)) ∧ w' = w := by
  have e1 : bits .and .u64 (IntKind.u64.wrap (-6)) 31 = 26 := by decide +kernel
  have e2 : bits .and .u64 18446744073709551610 31 = 26 := by decide +kernel
  go_enter Tryd.func29, Tryd.ntmps29
  go_wp2
  go_ret
  exact ⟨ret_int (or32_comm _ _), rfl⟩
set_option maxHeartbeats 400000 in
theorem rot_7 (x : Int) (_h0 : 0 ≤ x) (_h1 : x ≤ 4294967295) (w : World) :
    Calls Tryd.prog 29 #[.int .u32 x, .int .i64 (-7)] w fun e w' => e = .returned (.int .u32 (rotw x 7)) ∧ w' = w := by
  have e1 : bits .and .u64 (IntKind.u64.wrap (-7)) 31 = 25 := by decide +kernel
  have e2 : bits .and .u64 18446744073709551609 31 = 25 := by decide +kernel
  go_enter Tryd.func29, Tryd.ntmps29
  go_wp2
  go_ret
  exact ⟨ret_int (or32_comm _ _), rfl⟩
set_option maxHeartbeats 400000 in
theorem rot_11 (x : Int) (_h0 : 0 ≤ x) (_h1 : x ≤ 4294967295) (w : World) :
    Calls Tryd.prog 29 #[.int .u32 x, .int .i64 (-11)] w fun e w' => e = .returned (.int .u32 (rotw x 11)) ∧ w' = w := by
  have e1 : bits .and .u64 (IntKind.u64.wrap (-11)) 31 = 21 := by decide +kernel
  have e2 : bits .and .u64 18446744073709551605 31 = 21 := by decide +kernel
  go_enter Tryd.func29, Tryd.ntmps29
  go_wp2
  go_ret
  exact ⟨ret_int (or32_comm _ _), rfl⟩
set_option maxHeartbeats 400000 in
theorem rot_13 (x : Int) (_h0 : 0 ≤ x) (_h1 : x ≤ 4294967295) (w : World) :
    Calls Tryd.prog 29 #[.int .u32 x, .int .i64 (-13)] w fun e w' => e = .returned (.int .u32 (rotw x 13)) ∧ w' = w := by
  have e1 : bits .and .u64 (IntKind.u64.wrap (-13)) 31 = 19 := by decide +kernel
  have e2 : bits .and .u64 18446744073709551603 31 = 19 := by decide +kernel
  go_enter Tryd.func29, Tryd.ntmps29
  go_wp2
  go_ret
  exact ⟨ret_int (or32_comm _ _), rfl⟩
set_option maxHeartbeats 400000 in
theorem rot_17 (x : Int) (_h0 : 0 ≤ x) (_h1 : x ≤ 4294967295) (w : World) :
    Calls Tryd.prog 29 #[.int .u32 x, .int .i64 (-17)] w fun e w' => e = .returned (.int .u32 (rotw x 17)) ∧ w' = w := by
  have e1 : bits .and .u64 (IntKind.u64.wrap (-17)) 31 = 15 := by decide +kernel
  have e2 : bits .and .u64 18446744073709551599 31 = 15 := by decide +kernel
  go_enter Tryd.func29, Tryd.ntmps29
  go_wp2
  go_ret
  exact ⟨ret_int (or32_comm _ _), rfl⟩
set_option maxHeartbeats 400000 in
theorem rot_18 (x : Int) (_h0 : 0 ≤ x) (_h1 : x ≤ 4294967295) (w : World) :
    Calls Tryd.prog 29 #[.int .u32 x, .int .i64 (-18)] w fun e w' => e = .returned (.int .u32 (rotw x 18)) ∧ w' = w := by
  have e1 : bits .and .u64 (IntKind.u64.wrap (-18)) 31 = 14 := by decide +kernel
  have e2 : bits .and .u64 18446744073709551598 31 = 14 := by decide +kernel
  go_enter Tryd.func29, Tryd.ntmps29
  go_wp2
  go_ret
  exact ⟨ret_int (or32_comm _ _), rfl⟩
set_option maxHeartbeats 400000 in
theorem rot_19 (x : Int) (_h0 : 0 ≤ x) (_h1 : x ≤ 4294967295) (w : World) :
    Calls Tryd.prog 29 #[.int .u32 x, .int .i64 (-19)] w fun e w' => e = .returned (.int .u32 (rotw x 19)) ∧ w' = w := by
  have e1 : bits .and .u64 (IntKind.u64.wrap (-19)) 31 = 13 := by decide +kernel
  have e2 : bits .and .u64 18446744073709551597 31 = 13 := by decide +kernel
  go_enter Tryd.func29, Tryd.ntmps29
  go_wp2
  go_ret
  exact ⟨ret_int (or32_comm _ _), rfl⟩
set_option maxHeartbeats 400000 in
theorem rot_22 (x : Int) (_h0 : 0 ≤ x) (_h1 : x ≤ 4294967295) (w : World) :
    Calls Tryd.prog 29 #[.int .u32 x, .int .i64 (-22)] w fun e w' => e = .returned (.int .u32 (rotw x 22)) ∧ w' = w := by
  have e1 : bits .and .u64 (IntKind.u64.wrap (-22)) 31 = 10 := by decide +kernel
  have e2 : bits .and .u64 18446744073709551594 31 = 10 := by decide +kernel
  go_enter Tryd.func29, Tryd.ntmps29
  go_wp2
  go_ret
  exact ⟨ret_int (or32_comm _ _), rfl⟩
set_option maxHeartbeats 400000 in
theorem rot_25 (x : Int) (_h0 : 0 ≤ x) (_h1 : x ≤ 4294967295) (w : World) :
    Calls Tryd.prog 29 #[.int .u32 x, .int .i64 (-25)] w fun e w' => e = .returned (.int .u32 (rotw x 25)) ∧ w' = w := by
  have e1 : bits .and .u64 (IntKind.u64.wrap (-25)) 31 = 7 := by decide +kernel
  have e2 : bits .and .u64 18446744073709551591 31 = 7 := by decide +kernel
  go_enter Tryd.func29, Tryd.ntmps29
  go_wp2
  go_ret
  exact ⟨ret_int (or32_comm _ _), rfl⟩
set_option maxHeartbeats 400000 in
theorem wordAt_any (b off len cap : Nat) (i : Int) (at' : Nat) (hi : i = (at' : Int)) (x0 x1 x2 x3 : Int) (_hl : at' + 4 ≤ len) (_hl : len ≤ 9223372036854775807)
   (_h0 : 0 ≤ x0 ∧ x0 ≤ 255) (_h1 : 0 ≤ x1 ∧ x1 ≤ 255) (_h2 : 0 ≤ x2 ∧ x2 ≤ 255) (_h3 : 0 ≤ x3 ∧ x3 ≤ 255) (w : World)
   (c0 : w.cell? ⟨b, off + at', none⟩ = some (.int .u8 x0)) (c1 : w.cell? ⟨b, off + (at' + 1), none⟩ = some (.int .u8 x1))
   (c2 : w.cell? ⟨b, off + (at' + 2), none⟩ = some (.int .u8 x2)) (c3 : w.cell? ⟨b, off + (at' + 3), none⟩ = some (.int .u8 x3)) :
    Calls Tryd.prog 30 #[.slice (some ⟨b, off, none⟩) len cap, .int .i64 i] w fun e w' => e = .returned (.int .u32 (word4 x0 x1 x2 x3)) ∧ ∃ n, w' = w.drewN n := by
  subst hi
  go_enter Tryd.func30, Tryd.ntmps30
  go_wp2
  go_quiet (fail)
  go_wp2
  go_ret
  exact ⟨rfl, _, rfl⟩
end Go.Proofs.YtlghholonjmeaaaDoor
