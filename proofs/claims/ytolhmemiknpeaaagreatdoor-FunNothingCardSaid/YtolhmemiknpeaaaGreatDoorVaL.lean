/-
  Layer 7, the laws: values by numbers.
-/
import Derived.Test.YtolhmemiknpeaaaGreatDoorVaH
namespace Go.Proofs.YtolhmemiknpeaaaGreatDoor
open Go.RowKit

theorem res_make : Tryz.f9.results = #[.cell 6 28] := by kernel_rfl
theorem and_mask (n : Int) (j : Nat) (hj : j < 40) : bits .and .i64 n ((2 ^ j - 1 : Nat) : Int) = ((n % 18446744073709551616).toNat % 2 ^ j : Nat) := by
  have hp : 2 ^ j < 2 ^ 40 := Nat.pow_lt_pow_right (by decide) hj
  have h1 : 1 ≤ 2 ^ j := Nat.one_le_two_pow
  have hm : (n % 18446744073709551616).toNat % 2 ^ j < 2 ^ j := Nat.mod_lt _ (by omega)
  show IntKind.i64.wrap ((BitVec.ofInt 64 n &&& BitVec.ofInt 64 ((2 ^ j - 1 : Nat) : Int)).toNat : Int) = _
  rw [BitVec.toNat_and, BitVec.toNat_ofInt, BitVec.ofInt_natCast, BitVec.toNat_ofNat, Nat.mod_eq_of_lt (show 2 ^ j - 1 < 2 ^ 64 by omega), Nat.and_two_pow_sub_one_eq_mod]
  rw [IntKind.wrap_i64]
  have e : ((2 ^ 64 : Nat) : Int) = 18446744073709551616 := by decide
  rw [e]
  omega
theorem and1 (n : Int) : 0 ≤ bits .and .i64 n 1 ∧ bits .and .i64 n 1 ≤ 1 := by
  have h := and_mask n 1 (by decide)
  rw [show ((2 ^ 1 - 1 : Nat) : Int) = 1 from rfl] at h
  rw [h]; omega
theorem and1023 (n : Int) : 0 ≤ bits .and .i64 n 1023 ∧ bits .and .i64 n 1023 ≤ 1023 := by
  have h := and_mask n 10 (by decide)
  rw [show ((2 ^ 10 - 1 : Nat) : Int) = 1023 from rfl] at h
  rw [h]; omega
/-- A value by numbers. -/
def makeV (m n : Int) (s : ByteArray) : Vl :=
  if m = 1 then .num n else if m = 2 then (if 200 < s.size then .text ⟨#[]⟩ else .text s) else if m = 3 then ⟨3, bits .and .i64 n 1, ⟨#[]⟩⟩ else if m = 4 then .err (1 + bits .and .i64 n 1023 % 6) else .none
set_option maxRecDepth 100000 in
set_option maxHeartbeats 1600000 in
theorem make_1 (k n : Int) (s : ByteArray) (h0 : 0 ≤ k) (_h1 : k ≤ 255) (hk : k % 5 = 1) (w : World) : Calls Tryz.prog 9 #[.int .u8 k, .int .i64 n, .string s] w fun e w' => e = .returned (.agg #[.int .i64 (makeV (k % 5) n s).k, .int .i64 (makeV (k % 5) n s).n, .string (makeV (k % 5) n s).s]) ∧ Below w.heap.size w w' := by
  have e5 : IntKind.u8.wrap (Int.tmod k 5) = k % 5 := by rw [Int.tmod_eq_emod_of_nonneg h0, IntKind.wrap_u8]; omega
  have e6 : Int.tmod k 5 = k % 5 := Int.tmod_eq_emod_of_nonneg h0
  rw [hk] at e5 e6
  have hv : makeV (k % 5) n s = Vl.num n := by unfold makeV; rw [if_pos hk]
  rw [hv]
  clear hk
  have HN := Lib.hid (VlAt.new w (Vl.num n))
  have HB := Lib.hid (below_vl w (Vl.num n))
  clear hv
  go_enter Tryz.func9, Tryz.ntmps9
  go_wp2_with fail
  exact bodyPost_ret (out_vl HN.out _ _ 6 res_make rfl) rfl ⟨rfl, HB.out⟩
set_option maxRecDepth 100000 in
set_option maxHeartbeats 1600000 in
theorem make_2 (k n : Int) (s : ByteArray) (h0 : 0 ≤ k) (_h1 : k ≤ 255) (hk : k % 5 = 2) (hs : 200 < s.size) (w : World) : Calls Tryz.prog 9 #[.int .u8 k, .int .i64 n, .string s] w fun e w' => e = .returned (.agg #[.int .i64 (makeV (k % 5) n s).k, .int .i64 (makeV (k % 5) n s).n, .string (makeV (k % 5) n s).s]) ∧ Below w.heap.size w w' := by
  have e5 : IntKind.u8.wrap (Int.tmod k 5) = k % 5 := by rw [Int.tmod_eq_emod_of_nonneg h0, IntKind.wrap_u8]; omega
  have e6 : Int.tmod k 5 = k % 5 := Int.tmod_eq_emod_of_nonneg h0
  rw [hk] at e5 e6
  have hv : makeV (k % 5) n s = Vl.text ⟨#[]⟩ := by unfold makeV; rw [if_neg (by rw [hk]; decide), if_pos hk, if_pos hs]
  rw [hv]
  have hs2 : (200 : Int) < (s.size : Int) := by omega
  clear hk hs
  have HN := Lib.hid (VlAt.new w (Vl.text ⟨#[]⟩))
  have HB := Lib.hid (below_vl w (Vl.text ⟨#[]⟩))
  clear hv
  go_enter Tryz.func9, Tryz.ntmps9
  go_wp2_with fail
  exact bodyPost_ret (out_vl HN.out _ _ 6 res_make rfl) rfl ⟨rfl, HB.out⟩
set_option maxRecDepth 100000 in
set_option maxHeartbeats 1600000 in
theorem make_3 (k n : Int) (s : ByteArray) (h0 : 0 ≤ k) (_h1 : k ≤ 255) (hk : k % 5 = 2) (hs : ¬ 200 < s.size) (w : World) : Calls Tryz.prog 9 #[.int .u8 k, .int .i64 n, .string s] w fun e w' => e = .returned (.agg #[.int .i64 (makeV (k % 5) n s).k, .int .i64 (makeV (k % 5) n s).n, .string (makeV (k % 5) n s).s]) ∧ Below w.heap.size w w' := by
  have e5 : IntKind.u8.wrap (Int.tmod k 5) = k % 5 := by rw [Int.tmod_eq_emod_of_nonneg h0, IntKind.wrap_u8]; omega
  have e6 : Int.tmod k 5 = k % 5 := Int.tmod_eq_emod_of_nonneg h0
  rw [hk] at e5 e6
  have hv : makeV (k % 5) n s = Vl.text s := by unfold makeV; rw [if_neg (by rw [hk]; decide), if_pos hk, if_neg hs]
  rw [hv]
  have hs2 : ¬ (200 : Int) < (s.size : Int) := by omega
  clear hk hs
  have HN := Lib.hid (VlAt.new w (Vl.text s))
  have HB := Lib.hid (below_vl w (Vl.text s))
  clear hv
  go_enter Tryz.func9, Tryz.ntmps9
  go_wp2_with fail
  exact bodyPost_ret (out_vl HN.out _ _ 6 res_make rfl) rfl ⟨rfl, HB.out⟩
set_option maxRecDepth 100000 in
set_option maxHeartbeats 1600000 in
theorem make_4 (k n : Int) (s : ByteArray) (h0 : 0 ≤ k) (_h1 : k ≤ 255) (hk : k % 5 = 3) (w : World) : Calls Tryz.prog 9 #[.int .u8 k, .int .i64 n, .string s] w fun e w' => e = .returned (.agg #[.int .i64 (makeV (k % 5) n s).k, .int .i64 (makeV (k % 5) n s).n, .string (makeV (k % 5) n s).s]) ∧ Below w.heap.size w w' := by
  have e5 : IntKind.u8.wrap (Int.tmod k 5) = k % 5 := by rw [Int.tmod_eq_emod_of_nonneg h0, IntKind.wrap_u8]; omega
  have e6 : Int.tmod k 5 = k % 5 := Int.tmod_eq_emod_of_nonneg h0
  rw [hk] at e5 e6
  have hv : makeV (k % 5) n s = (⟨3, bits .and .i64 n 1, ⟨#[]⟩⟩ : Vl) := by unfold makeV; rw [if_neg (by rw [hk]; decide), if_neg (by rw [hk]; decide), if_pos hk]
  rw [hv]
  clear hk
  have HN := Lib.hid (VlAt.new w ((⟨3, bits .and .i64 n 1, ⟨#[]⟩⟩ : Vl)))
  have HB := Lib.hid (below_vl w ((⟨3, bits .and .i64 n 1, ⟨#[]⟩⟩ : Vl)))
  clear hv
  go_enter Tryz.func9, Tryz.ntmps9
  go_wp2_with fail
  exact bodyPost_ret (out_vl HN.out _ _ 6 res_make rfl) rfl ⟨rfl, HB.out⟩
set_option maxRecDepth 100000 in
set_option maxHeartbeats 1600000 in
theorem make_5 (k n : Int) (s : ByteArray) (h0 : 0 ≤ k) (_h1 : k ≤ 255) (hk : k % 5 = 4) (w : World) : Calls Tryz.prog 9 #[.int .u8 k, .int .i64 n, .string s] w fun e w' => e = .returned (.agg #[.int .i64 (makeV (k % 5) n s).k, .int .i64 (makeV (k % 5) n s).n, .string (makeV (k % 5) n s).s]) ∧ Below w.heap.size w w' := by
  have e5 : IntKind.u8.wrap (Int.tmod k 5) = k % 5 := by rw [Int.tmod_eq_emod_of_nonneg h0, IntKind.wrap_u8]; omega
  have e6 : Int.tmod k 5 = k % 5 := Int.tmod_eq_emod_of_nonneg h0
  rw [hk] at e5 e6
  have hv : makeV (k % 5) n s = Vl.err (1 + bits .and .i64 n 1023 % 6) := by unfold makeV; rw [if_neg (by rw [hk]; decide), if_neg (by rw [hk]; decide), if_neg (by rw [hk]; decide), if_pos hk]
  rw [hv]
  have hn := and1023 n
  have e7 : Int.tmod (bits .and .i64 n 1023) 6 = bits .and .i64 n 1023 % 6 := Int.tmod_eq_emod_of_nonneg hn.1
  have e8 : IntKind.i64.wrap (bits .and .i64 n 1023 % 6) = bits .and .i64 n 1023 % 6 := by rw [IntKind.wrap_i64]; omega
  have e9 : IntKind.i64.wrap (1 + bits .and .i64 n 1023 % 6) = 1 + bits .and .i64 n 1023 % 6 := by rw [IntKind.wrap_i64]; omega
  have e9b : IntKind.i64.wrap (Int.tmod (bits .and .i64 n 1023) 6) = bits .and .i64 n 1023 % 6 := by rw [e7, e8]
  clear hk hn
  have HN := Lib.hid (VlAt.new w (Vl.err (1 + bits .and .i64 n 1023 % 6)))
  have HB := Lib.hid (below_vl w (Vl.err (1 + bits .and .i64 n 1023 % 6)))
  clear hv
  go_enter Tryz.func9, Tryz.ntmps9
  go_wp2_with fail
  exact bodyPost_ret (out_vl HN.out _ _ 6 res_make rfl) rfl ⟨rfl, HB.out⟩
set_option maxRecDepth 100000 in
set_option maxHeartbeats 1600000 in
theorem make_6 (k n : Int) (s : ByteArray) (h0 : 0 ≤ k) (_h1 : k ≤ 255) (hk : k % 5 = 0) (w : World) : Calls Tryz.prog 9 #[.int .u8 k, .int .i64 n, .string s] w fun e w' => e = .returned (.agg #[.int .i64 (makeV (k % 5) n s).k, .int .i64 (makeV (k % 5) n s).n, .string (makeV (k % 5) n s).s]) ∧ Below w.heap.size w w' := by
  have e5 : IntKind.u8.wrap (Int.tmod k 5) = k % 5 := by rw [Int.tmod_eq_emod_of_nonneg h0, IntKind.wrap_u8]; omega
  have e6 : Int.tmod k 5 = k % 5 := Int.tmod_eq_emod_of_nonneg h0
  rw [hk] at e5 e6
  have hv : makeV (k % 5) n s = Vl.none := by unfold makeV; rw [if_neg (by rw [hk]; decide), if_neg (by rw [hk]; decide), if_neg (by rw [hk]; decide), if_neg (by rw [hk]; decide)]
  rw [hv]
  clear hk
  have HN := Lib.hid (VlAt.new w (Vl.none))
  have HB := Lib.hid (below_vl w (Vl.none))
  clear hv
  go_enter Tryz.func9, Tryz.ntmps9
  go_wp2_with fail
  exact bodyPost_ret (out_vl HN.out _ _ 6 res_make rfl) rfl ⟨rfl, HB.out⟩
theorem make_any (k n : Int) (s : ByteArray) (h0 : 0 ≤ k) (h1 : k ≤ 255) (w : World) : Calls Tryz.prog 9 #[.int .u8 k, .int .i64 n, .string s] w fun e w' => e = .returned (.agg #[.int .i64 (makeV (k % 5) n s).k, .int .i64 (makeV (k % 5) n s).n, .string (makeV (k % 5) n s).s]) ∧ Below w.heap.size w w' := by
  have hm : k % 5 = 0 ∨ k % 5 = 1 ∨ k % 5 = 2 ∨ k % 5 = 3 ∨ k % 5 = 4 := by omega
  rcases hm with h | h | h | h | h
  · exact make_6 k n s h0 h1 h w
  · exact make_1 k n s h0 h1 h w
  · by_cases hs : 200 < s.size
    · exact make_2 k n s h0 h1 h hs w
    · exact make_3 k n s h0 h1 h hs w
  · exact make_4 k n s h0 h1 h w
  · exact make_5 k n s h0 h1 h w
theorem makeV_k (m n : Int) (s : ByteArray) (h : ¬ m = 4) : ¬ (makeV m n s).k = 4 := by
  unfold makeV
  split
  · show ¬ (1 : Int) = 4; decide
  · split
    · split <;> (show ¬ (2 : Int) = 4; decide)
    · split
      · show ¬ (3 : Int) = 4; decide
      · show ¬ (0 : Int) = 4; decide
theorem ok_make (m n : Int) (s : ByteArray) (h0 : -9223372036854775808 ≤ n) (h1 : n ≤ 9223372036854775807) : VOk (makeV m n s) := by
  unfold makeV
  split
  · exact ok_num n h0 h1
  · split
    · split
      · exact ok_text _ (by decide)
      · exact ok_text _ (by omega)
    · split
      · have := and1 n; exact ⟨by show (_ : Int) ≤ bits .and .i64 n 1; omega, by show bits .and .i64 n 1 ≤ _; omega, by show (0 : Nat) ≤ _; decide⟩
      · split
        · have := and1023 n; exact ok_err _ (by omega) (by omega)
        · exact ok_none
end Go.Proofs.YtolhmemiknpeaaaGreatDoor
