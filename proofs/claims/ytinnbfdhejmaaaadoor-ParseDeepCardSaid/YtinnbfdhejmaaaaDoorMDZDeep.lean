/-
  'chequerlaw5.ParseDeep': for any two numbers: so many brackets, signs ahead or calls around a number are a formula of as many nodes up to twelve, and too deep behind that; the document's example holds. Condition: none (the operators, the list of signs, the library's two errors and its tables start as the program's text lays them: the card ties them).
-/
import Derived.Test.YtinnbfdhejmaaaaDoorMD3
import Derived.ProofKit
import Derived.OpenShut
import Derived.Deep.DeepHandedRow
import Derived.Lib.LaidTab
import Derived.Test.YtinnbfdhejmaaaaDoorCards
import Derived.Test.YtinnbfdhejmaaaaDoorTie
import Derived.Deep.Strs
import Derived.Stop.LaidErr
import Derived.Lay
/-
  'chequerlaw5.ParseDeep', walked.
-/
namespace Go.Proofs.YtinnbfdhejmaaaaDoor
open Go.RowKit

theorem timesL_len : ∀ (k : Nat) (l : List Int), (timesL k l).length = k * l.length
  | 0, l => by simp [timesL]
  | k + 1, l => by unfold timesL; rw [List.length_append, timesL_len k l, Nat.succ_mul]
theorem deep_sizes : ∀ j : Nat, j < 3 → (deepA j).length ≤ 4 ∧ (deepB j).length ≤ 1 := by decide
def deepTA (j : Nat) : ByteArray := [⟨#[40]⟩, ⟨#[45]⟩, ⟨#[83, 85, 77, 40]⟩].getD j ⟨#[]⟩
def deepTB (j : Nat) : ByteArray := [⟨#[41]⟩, ⟨#[]⟩, ⟨#[41]⟩].getD j ⟨#[]⟩
theorem deep_sb : ∀ j : Nat, j < 3 → sb (deepTA j) = deepA j ∧ sb (deepTB j) = deepB j := by decide +kernel

/-- A world is forgotten, but for what it leaves as it was. -/
theorem cut_world {P : Program} {c : Code} {K : Exit → Act → World → Prop} {a : Act} {w W : World} (h : ∀ w1, Below w.heap.size w w1 → Code.wp P c K a w1) (hb : Below w.heap.size w W) : Code.wp P c K a W := h W hb
set_option maxRecDepth 100000 in
set_option maxHeartbeats 4000000 in
theorem parseDeep_0 (n how k : Nat) (hk : (n : Int) % 20 = (k : Int)) (hk20 : k < 20) (hj : (how : Int) % 3 = 0) (hn : n ≤ 255) (hh : how ≤ 255) (w : World) (hv : Vars w) (ho : OpV w) :
    Calls Tryd.prog 3 #[.int .u8 (n : Int), .int .u8 (how : Int)] w fun e w' => e = .returned (.bool true) ∧ Below w.heap.size w w' := by
  have HV := Lib.hid hv; have HO := Lib.hid ho; clear hv ho
  have hza : (deepA 0).length ≤ 4 := by decide
  have hzb : (deepB 0).length ≤ 1 := by decide
  go_enter Tryd.func3, Tryd.ntmps3
  go_upto_region 2 with (fail)
  go_region
  all_goals go_upto_region 5 with (fail)
  all_goals
    have HB := Lib.hid ((((Below.refl w.heap.size w).alloc (Nat.le_refl _) (.cells #[.string ⟨#[41]⟩, .string ⟨#[]⟩, .string ⟨#[41]⟩] 9)).alloc (by simp) (.cells #[.string ⟨#[40]⟩, .string ⟨#[45]⟩, .string ⟨#[83, 85, 77, 40]⟩] 9)).drew)
    have HC := Lib.hid ((((Below.refl w.heap.size w).alloc (Nat.le_refl _) (.cells #[.string ⟨#[40]⟩, .string ⟨#[45]⟩, .string ⟨#[83, 85, 77, 40]⟩] 9)).alloc (by simp) (.cells #[.string ⟨#[41]⟩, .string ⟨#[]⟩, .string ⟨#[41]⟩] 9)).drew)
  all_goals
    refine cut_world (w := w) ?_ (by first | exact HB.out | exact HC.out)
    clear HB HC
    intro w1 HB
    have HB := Lib.hid HB
  all_goals
    go_loopw [8, 9, 10] (fun sv tv iv wr => ∃ (i : Nat) (A B : ByteArray), i ≤ k ∧ sv = .string A ∧ tv = .string B ∧ iv = .int .i64 (i : Int) ∧ A.size = i * (deepA 0).length ∧ B.size = i * (deepB 0).length ∧ Hid (sb A = timesL i (deepA 0)) ∧ Hid (sb B = timesL i (deepB 0)) ∧ w1 = wr)
      (fun _ _ iv _ => k - (intOf iv).toNat)
    case atStart => exact ⟨0, ⟨#[]⟩, ⟨#[]⟩, Nat.zero_le _, rfl, rfl, rfl, by rw [Nat.zero_mul]; rfl, by rw [Nat.zero_mul]; rfl, Lib.hid rfl, Lib.hid rfl, rfl⟩
    case round =>
      obtain ⟨i, A, B, hi, rfl, rfl, rfl, hA, hB, HA, HBB, rfl⟩ := hrel
      have hA4 : A.size ≤ 80 := by rw [hA]; exact Nat.le_trans (Nat.mul_le_mul (show i ≤ 20 by omega) hza) (by omega)
      have hB4 : B.size ≤ 20 := by rw [hB]; exact Nat.le_trans (Nat.mul_le_mul (show i ≤ 20 by omega) hzb) (by omega)
      by_cases hlt : i < k
      · have hli : (i : Int) < (k : Int) := by omega
        have hs1' : A.size + (⟨#[40]⟩ : ByteArray).size ≤ 1000 := Nat.le_trans (Nat.add_le_add hA4 (show (⟨#[40]⟩ : ByteArray).size ≤ 4 by decide)) (by decide)
        have hs2' : B.size + (⟨#[41]⟩ : ByteArray).size ≤ 1000 := Nat.le_trans (Nat.add_le_add hB4 (show (⟨#[41]⟩ : ByteArray).size ≤ 4 by decide)) (by decide)
        go_wp2_with fail
        go_roundw
        case rel =>
          refine ⟨i + 1, A ++ ⟨#[40]⟩, B ++ ⟨#[41]⟩, by omega, rfl, rfl, by go_num, ?_, ?_, Lib.hid ?_, Lib.hid ?_, by first | rfl | trivial⟩
          · rw [ByteArray.size_append, hA, Nat.succ_mul]; rfl
          · rw [ByteArray.size_append, hB, Nat.succ_mul]; rfl
          · rw [sb_append, HA.out]; rfl
          · rw [sb_append, HBB.out]; rfl
        case measure => simp [intOf]; omega
      · have hli : ¬ (i : Int) < (k : Int) := by omega
        have hik : k = i := by omega
        subst hik
        have hz1 : A.size + (⟨#[49]⟩ : ByteArray).size ≤ 1000 := by show A.size + 1 ≤ 1000; omega
        have hz2 : (A ++ ⟨#[49]⟩).size + B.size ≤ 1000 := by rw [ByteArray.size_append]; show A.size + 1 + B.size ≤ 1000; omega
        have hz3 : (A ++ ⟨#[49]⟩ ++ B).size ≤ 300 := by rw [ByteArray.size_append, ByteArray.size_append]; show A.size + 1 + B.size ≤ 300; omega
        have hsb : sb (A ++ ⟨#[49]⟩ ++ B) = deepL 0 k := by rw [sb_append, sb_append, HA.out, HBB.out]; rfl
        have hT := deep_all 0 (by decide) k hk20
        rw [← hsb] at hT
        have HV1 := Lib.hid (HV.out.below HB.out)
        have HO1 := Lib.hid (HO.out.below HB.out)
        by_cases h12 : 12 < k
        · have h12i : (12 : Int) < (k : Int) := by omega
          rw [if_pos h12] at hT
          rcases size_PIs _ hz3 6 0 hT with ⟨h0, _⟩ | ⟨hp, _⟩
          · cases h0
          have HX := Lib.hid (parse_err _ w1 HV1.out HO1.out 6 hp)
          clear hsb hT hp
          go_wp2_with (first
            | (go_at_call 5; ((with_reducible refine HX.out.mono ?_); rintro e w2 ⟨hb, rfl⟩; have HB2 := Lib.hid (HB.out.trans (hb.mono HB.out.size)); clear hb))
            | (go_at_call 6; ((with_reducible refine (num_is _ _).mono ?_); rintro e wn ⟨rfl, rfl⟩))
            | (go_at_call 7; ((with_reducible refine (awake5_any _ (HV.out.below HB2.out) (HO.out.below HB2.out)).mono ?_); rintro e w3 ⟨rfl, h1⟩; have HB3 := Lib.hid (HB2.out.trans (h1.mono HB2.out.size)); clear h1)))
          go_ret
          exact ⟨rfl, HB3.out⟩
        · have h12i : ¬ (12 : Int) < (k : Int) := by omega
          rw [if_neg h12] at hT
          rcases size_PIs _ hz3 0 _ hT with ⟨_, ns, hp, hl⟩ | ⟨_, h0⟩
          rotate_left
          · exfalso; revert h0; simp
          have hl : ns.length = 1 := hl
          have HX := Lib.hid (parse_ok _ w1 HV1.out HO1.out ns hp (by omega))
          rw [hl] at HX
          clear hsb hT hp
          go_wp2_with (first
            | (go_at_call 5; ((with_reducible refine HX.out.mono ?_); rintro e w2 ⟨hb, g, cap, vs, rfl, -, -, -, -⟩; have HB2 := Lib.hid (HB.out.trans (hb.mono HB.out.size)); clear hb))
            | (go_at_call 6; ((with_reducible refine (num_is _ _).mono ?_); rintro e wn ⟨rfl, rfl⟩))
            | (go_at_call 7; ((with_reducible refine (awake5_any _ (HV.out.below HB2.out) (HO.out.below HB2.out)).mono ?_); rintro e w3 ⟨rfl, h1⟩; have HB3 := Lib.hid (HB2.out.trans (h1.mono HB2.out.size)); clear h1)))
          go_ret
          exact ⟨rfl, HB3.out⟩
set_option maxRecDepth 100000 in
set_option maxHeartbeats 4000000 in
theorem parseDeep_1 (n how k : Nat) (hk : (n : Int) % 20 = (k : Int)) (hk20 : k < 20) (hj : (how : Int) % 3 = 1) (hn : n ≤ 255) (hh : how ≤ 255) (w : World) (hv : Vars w) (ho : OpV w) :
    Calls Tryd.prog 3 #[.int .u8 (n : Int), .int .u8 (how : Int)] w fun e w' => e = .returned (.bool true) ∧ Below w.heap.size w w' := by
  have HV := Lib.hid hv; have HO := Lib.hid ho; clear hv ho
  have hza : (deepA 1).length ≤ 4 := by decide
  have hzb : (deepB 1).length ≤ 1 := by decide
  go_enter Tryd.func3, Tryd.ntmps3
  go_upto_region 2 with (fail)
  go_region
  all_goals go_upto_region 5 with (fail)
  all_goals
    have HB := Lib.hid ((((Below.refl w.heap.size w).alloc (Nat.le_refl _) (.cells #[.string ⟨#[41]⟩, .string ⟨#[]⟩, .string ⟨#[41]⟩] 9)).alloc (by simp) (.cells #[.string ⟨#[40]⟩, .string ⟨#[45]⟩, .string ⟨#[83, 85, 77, 40]⟩] 9)).drew)
    have HC := Lib.hid ((((Below.refl w.heap.size w).alloc (Nat.le_refl _) (.cells #[.string ⟨#[40]⟩, .string ⟨#[45]⟩, .string ⟨#[83, 85, 77, 40]⟩] 9)).alloc (by simp) (.cells #[.string ⟨#[41]⟩, .string ⟨#[]⟩, .string ⟨#[41]⟩] 9)).drew)
  all_goals
    refine cut_world (w := w) ?_ (by first | exact HB.out | exact HC.out)
    clear HB HC
    intro w1 HB
    have HB := Lib.hid HB
  all_goals
    go_loopw [8, 9, 10] (fun sv tv iv wr => ∃ (i : Nat) (A B : ByteArray), i ≤ k ∧ sv = .string A ∧ tv = .string B ∧ iv = .int .i64 (i : Int) ∧ A.size = i * (deepA 1).length ∧ B.size = i * (deepB 1).length ∧ Hid (sb A = timesL i (deepA 1)) ∧ Hid (sb B = timesL i (deepB 1)) ∧ w1 = wr)
      (fun _ _ iv _ => k - (intOf iv).toNat)
    case atStart => exact ⟨0, ⟨#[]⟩, ⟨#[]⟩, Nat.zero_le _, rfl, rfl, rfl, by rw [Nat.zero_mul]; rfl, by rw [Nat.zero_mul]; rfl, Lib.hid rfl, Lib.hid rfl, rfl⟩
    case round =>
      obtain ⟨i, A, B, hi, rfl, rfl, rfl, hA, hB, HA, HBB, rfl⟩ := hrel
      have hA4 : A.size ≤ 80 := by rw [hA]; exact Nat.le_trans (Nat.mul_le_mul (show i ≤ 20 by omega) hza) (by omega)
      have hB4 : B.size ≤ 20 := by rw [hB]; exact Nat.le_trans (Nat.mul_le_mul (show i ≤ 20 by omega) hzb) (by omega)
      by_cases hlt : i < k
      · have hli : (i : Int) < (k : Int) := by omega
        have hs1' : A.size + (⟨#[45]⟩ : ByteArray).size ≤ 1000 := Nat.le_trans (Nat.add_le_add hA4 (show (⟨#[45]⟩ : ByteArray).size ≤ 4 by decide)) (by decide)
        have hs2' : B.size + (⟨#[]⟩ : ByteArray).size ≤ 1000 := Nat.le_trans (Nat.add_le_add hB4 (show (⟨#[]⟩ : ByteArray).size ≤ 4 by decide)) (by decide)
        go_wp2_with fail
        go_roundw
        case rel =>
          refine ⟨i + 1, A ++ ⟨#[45]⟩, B ++ ⟨#[]⟩, by omega, rfl, rfl, by go_num, ?_, ?_, Lib.hid ?_, Lib.hid ?_, by first | rfl | trivial⟩
          · rw [ByteArray.size_append, hA, Nat.succ_mul]; rfl
          · rw [ByteArray.size_append, hB, Nat.succ_mul]; rfl
          · rw [sb_append, HA.out]; rfl
          · rw [sb_append, HBB.out]; rfl
        case measure => simp [intOf]; omega
      · have hli : ¬ (i : Int) < (k : Int) := by omega
        have hik : k = i := by omega
        subst hik
        have hz1 : A.size + (⟨#[49]⟩ : ByteArray).size ≤ 1000 := by show A.size + 1 ≤ 1000; omega
        have hz2 : (A ++ ⟨#[49]⟩).size + B.size ≤ 1000 := by rw [ByteArray.size_append]; show A.size + 1 + B.size ≤ 1000; omega
        have hz3 : (A ++ ⟨#[49]⟩ ++ B).size ≤ 300 := by rw [ByteArray.size_append, ByteArray.size_append]; show A.size + 1 + B.size ≤ 300; omega
        have hsb : sb (A ++ ⟨#[49]⟩ ++ B) = deepL 1 k := by rw [sb_append, sb_append, HA.out, HBB.out]; rfl
        have hT := deep_all 1 (by decide) k hk20
        rw [← hsb] at hT
        have HV1 := Lib.hid (HV.out.below HB.out)
        have HO1 := Lib.hid (HO.out.below HB.out)
        by_cases h12 : 12 < k
        · have h12i : (12 : Int) < (k : Int) := by omega
          rw [if_pos h12] at hT
          rcases size_PIs _ hz3 6 0 hT with ⟨h0, _⟩ | ⟨hp, _⟩
          · cases h0
          have HX := Lib.hid (parse_err _ w1 HV1.out HO1.out 6 hp)
          clear hsb hT hp
          go_wp2_with (first
            | (go_at_call 5; ((with_reducible refine HX.out.mono ?_); rintro e w2 ⟨hb, rfl⟩; have HB2 := Lib.hid (HB.out.trans (hb.mono HB.out.size)); clear hb))
            | (go_at_call 6; ((with_reducible refine (num_is _ _).mono ?_); rintro e wn ⟨rfl, rfl⟩))
            | (go_at_call 7; ((with_reducible refine (awake5_any _ (HV.out.below HB2.out) (HO.out.below HB2.out)).mono ?_); rintro e w3 ⟨rfl, h1⟩; have HB3 := Lib.hid (HB2.out.trans (h1.mono HB2.out.size)); clear h1)))
          go_ret
          exact ⟨rfl, HB3.out⟩
        · have h12i : ¬ (12 : Int) < (k : Int) := by omega
          rw [if_neg h12] at hT
          rcases size_PIs _ hz3 0 _ hT with ⟨_, ns, hp, hl⟩ | ⟨_, h0⟩
          rotate_left
          · exfalso; revert h0; simp
          have hl : ns.length = 1 + k := hl
          have HX := Lib.hid (parse_ok _ w1 HV1.out HO1.out ns hp (by omega))
          rw [hl] at HX
          clear hsb hT hp
          go_wp2_with (first
            | (go_at_call 5; ((with_reducible refine HX.out.mono ?_); rintro e w2 ⟨hb, g, cap, vs, rfl, -, -, -, -⟩; have HB2 := Lib.hid (HB.out.trans (hb.mono HB.out.size)); clear hb))
            | (go_at_call 6; ((with_reducible refine (num_is _ _).mono ?_); rintro e wn ⟨rfl, rfl⟩))
            | (go_at_call 7; ((with_reducible refine (awake5_any _ (HV.out.below HB2.out) (HO.out.below HB2.out)).mono ?_); rintro e w3 ⟨rfl, h1⟩; have HB3 := Lib.hid (HB2.out.trans (h1.mono HB2.out.size)); clear h1)))
          go_ret
          exact ⟨rfl, HB3.out⟩
set_option maxRecDepth 100000 in
set_option maxHeartbeats 4000000 in
theorem parseDeep_2 (n how k : Nat) (hk : (n : Int) % 20 = (k : Int)) (hk20 : k < 20) (hj : (how : Int) % 3 = 2) (hn : n ≤ 255) (hh : how ≤ 255) (w : World) (hv : Vars w) (ho : OpV w) :
    Calls Tryd.prog 3 #[.int .u8 (n : Int), .int .u8 (how : Int)] w fun e w' => e = .returned (.bool true) ∧ Below w.heap.size w w' := by
  have HV := Lib.hid hv; have HO := Lib.hid ho; clear hv ho
  have hza : (deepA 2).length ≤ 4 := by decide
  have hzb : (deepB 2).length ≤ 1 := by decide
  go_enter Tryd.func3, Tryd.ntmps3
  go_upto_region 2 with (fail)
  go_region
  all_goals go_upto_region 5 with (fail)
  all_goals
    have HB := Lib.hid ((((Below.refl w.heap.size w).alloc (Nat.le_refl _) (.cells #[.string ⟨#[41]⟩, .string ⟨#[]⟩, .string ⟨#[41]⟩] 9)).alloc (by simp) (.cells #[.string ⟨#[40]⟩, .string ⟨#[45]⟩, .string ⟨#[83, 85, 77, 40]⟩] 9)).drew)
    have HC := Lib.hid ((((Below.refl w.heap.size w).alloc (Nat.le_refl _) (.cells #[.string ⟨#[40]⟩, .string ⟨#[45]⟩, .string ⟨#[83, 85, 77, 40]⟩] 9)).alloc (by simp) (.cells #[.string ⟨#[41]⟩, .string ⟨#[]⟩, .string ⟨#[41]⟩] 9)).drew)
  all_goals
    refine cut_world (w := w) ?_ (by first | exact HB.out | exact HC.out)
    clear HB HC
    intro w1 HB
    have HB := Lib.hid HB
  all_goals
    go_loopw [8, 9, 10] (fun sv tv iv wr => ∃ (i : Nat) (A B : ByteArray), i ≤ k ∧ sv = .string A ∧ tv = .string B ∧ iv = .int .i64 (i : Int) ∧ A.size = i * (deepA 2).length ∧ B.size = i * (deepB 2).length ∧ Hid (sb A = timesL i (deepA 2)) ∧ Hid (sb B = timesL i (deepB 2)) ∧ w1 = wr)
      (fun _ _ iv _ => k - (intOf iv).toNat)
    case atStart => exact ⟨0, ⟨#[]⟩, ⟨#[]⟩, Nat.zero_le _, rfl, rfl, rfl, by rw [Nat.zero_mul]; rfl, by rw [Nat.zero_mul]; rfl, Lib.hid rfl, Lib.hid rfl, rfl⟩
    case round =>
      obtain ⟨i, A, B, hi, rfl, rfl, rfl, hA, hB, HA, HBB, rfl⟩ := hrel
      have hA4 : A.size ≤ 80 := by rw [hA]; exact Nat.le_trans (Nat.mul_le_mul (show i ≤ 20 by omega) hza) (by omega)
      have hB4 : B.size ≤ 20 := by rw [hB]; exact Nat.le_trans (Nat.mul_le_mul (show i ≤ 20 by omega) hzb) (by omega)
      by_cases hlt : i < k
      · have hli : (i : Int) < (k : Int) := by omega
        have hs1' : A.size + (⟨#[83, 85, 77, 40]⟩ : ByteArray).size ≤ 1000 := Nat.le_trans (Nat.add_le_add hA4 (show (⟨#[83, 85, 77, 40]⟩ : ByteArray).size ≤ 4 by decide)) (by decide)
        have hs2' : B.size + (⟨#[41]⟩ : ByteArray).size ≤ 1000 := Nat.le_trans (Nat.add_le_add hB4 (show (⟨#[41]⟩ : ByteArray).size ≤ 4 by decide)) (by decide)
        go_wp2_with fail
        go_roundw
        case rel =>
          refine ⟨i + 1, A ++ ⟨#[83, 85, 77, 40]⟩, B ++ ⟨#[41]⟩, by omega, rfl, rfl, by go_num, ?_, ?_, Lib.hid ?_, Lib.hid ?_, by first | rfl | trivial⟩
          · rw [ByteArray.size_append, hA, Nat.succ_mul]; rfl
          · rw [ByteArray.size_append, hB, Nat.succ_mul]; rfl
          · rw [sb_append, HA.out]; rfl
          · rw [sb_append, HBB.out]; rfl
        case measure => simp [intOf]; omega
      · have hli : ¬ (i : Int) < (k : Int) := by omega
        have hik : k = i := by omega
        subst hik
        have hz1 : A.size + (⟨#[49]⟩ : ByteArray).size ≤ 1000 := by show A.size + 1 ≤ 1000; omega
        have hz2 : (A ++ ⟨#[49]⟩).size + B.size ≤ 1000 := by rw [ByteArray.size_append]; show A.size + 1 + B.size ≤ 1000; omega
        have hz3 : (A ++ ⟨#[49]⟩ ++ B).size ≤ 300 := by rw [ByteArray.size_append, ByteArray.size_append]; show A.size + 1 + B.size ≤ 300; omega
        have hsb : sb (A ++ ⟨#[49]⟩ ++ B) = deepL 2 k := by rw [sb_append, sb_append, HA.out, HBB.out]; rfl
        have hT := deep_all 2 (by decide) k hk20
        rw [← hsb] at hT
        have HV1 := Lib.hid (HV.out.below HB.out)
        have HO1 := Lib.hid (HO.out.below HB.out)
        by_cases h12 : 12 < k
        · have h12i : (12 : Int) < (k : Int) := by omega
          rw [if_pos h12] at hT
          rcases size_PIs _ hz3 6 0 hT with ⟨h0, _⟩ | ⟨hp, _⟩
          · cases h0
          have HX := Lib.hid (parse_err _ w1 HV1.out HO1.out 6 hp)
          clear hsb hT hp
          go_wp2_with (first
            | (go_at_call 5; ((with_reducible refine HX.out.mono ?_); rintro e w2 ⟨hb, rfl⟩; have HB2 := Lib.hid (HB.out.trans (hb.mono HB.out.size)); clear hb))
            | (go_at_call 6; ((with_reducible refine (num_is _ _).mono ?_); rintro e wn ⟨rfl, rfl⟩))
            | (go_at_call 7; ((with_reducible refine (awake5_any _ (HV.out.below HB2.out) (HO.out.below HB2.out)).mono ?_); rintro e w3 ⟨rfl, h1⟩; have HB3 := Lib.hid (HB2.out.trans (h1.mono HB2.out.size)); clear h1)))
          go_ret
          exact ⟨rfl, HB3.out⟩
        · have h12i : ¬ (12 : Int) < (k : Int) := by omega
          rw [if_neg h12] at hT
          rcases size_PIs _ hz3 0 _ hT with ⟨_, ns, hp, hl⟩ | ⟨_, h0⟩
          rotate_left
          · exfalso; revert h0; simp
          have hl : ns.length = 1 + k := hl
          have HX := Lib.hid (parse_ok _ w1 HV1.out HO1.out ns hp (by omega))
          rw [hl] at HX
          clear hsb hT hp
          go_wp2_with (first
            | (go_at_call 5; ((with_reducible refine HX.out.mono ?_); rintro e w2 ⟨hb, g, cap, vs, rfl, -, -, -, -⟩; have HB2 := Lib.hid (HB.out.trans (hb.mono HB.out.size)); clear hb))
            | (go_at_call 6; ((with_reducible refine (num_is _ _).mono ?_); rintro e wn ⟨rfl, rfl⟩))
            | (go_at_call 7; ((with_reducible refine (awake5_any _ (HV.out.below HB2.out) (HO.out.below HB2.out)).mono ?_); rintro e w3 ⟨rfl, h1⟩; have HB3 := Lib.hid (HB2.out.trans (h1.mono HB2.out.size)); clear h1)))
          go_ret
          exact ⟨rfl, HB3.out⟩
theorem parseDeep_any (n how : Nat) (hn : n ≤ 255) (hh : how ≤ 255) (w : World) (hv : Vars w) (ho : OpV w) :
    Calls Tryd.prog 3 #[.int .u8 (n : Int), .int .u8 (how : Int)] w fun e w' => e = .returned (.bool true) ∧ Below w.heap.size w w' := by
  have hk : (n : Int) % 20 = ((n % 20 : Nat) : Int) := by omega
  rcases (show how % 3 = 0 ∨ how % 3 = 1 ∨ how % 3 = 2 by omega) with h | h | h
  · exact parseDeep_0 n how (n % 20) hk (by omega) (by omega) hn hh w hv ho
  · exact parseDeep_1 n how (n % 20) hk (by omega) (by omega) hn hh w hv ho
  · exact parseDeep_2 n how (n % 20) hk (by omega) (by omega) hn hh w hv ho
end Go.Proofs.YtinnbfdhejmaaaaDoor

/-
  What every law's row asks behind its walk: the answer true; the arguments read as they did. One lemma for all laws, whatever their parameters.
-/
namespace Go.Proofs.YtinnbfdhejmaaaaDoor
open Go.ChangeShapes Go.WideShapes Go.ChangeAt Go.RowKit

/-- Whatever was there below the old heap's end reads as it did. -/
theorem trodAll_below {H : Type} {enc : TypeId × Value → H} {P : Program} (hl : laidOutB P = true) {W W' : World} (hb : Below W.heap.size W W') :
    ∀ (ts : List TypeId) (vs : List Value) (ds : List (DataW H)) (p : List MemPlace), (ts.all fun t => P.readableRec t && decide (t < P.types.size)) = true → (∀ x ∈ p, x.block < W.heap.size) →
      DataW.TrodAll enc P W 0 (fun _ => true) true ts vs ds p → DataW.TrodAll enc P W' 0 (fun b => decide (b < W.heap.size)) true ts vs ds p := by
  intro ts
  induction ts with
  | nil =>
    intro vs ds p _ _ h
    obtain ⟨rfl, rfl, rfl⟩ := trodAll_nil h
    exact trodAll_mk0
  | cons t ts ih =>
    intro vs ds p ht hlt h
    obtain ⟨v, vs', d, ds', p1, q1, rfl, rfl, rfl, h0, hr⟩ := trodAll_cons h
    rw [List.all_cons, Bool.and_eq_true, Bool.and_eq_true, decide_eq_true_eq] at ht
    exact trodAll_cons_mk (Below.trod hl ht.1.1 ht.1.2 h0 hb (fun x hx => hlt x (List.mem_append_left _ hx))) (ih vs' ds' q1 ht.2 (fun x hx => hlt x (List.mem_append_right _ hx)) hr)

theorem own : ownKnob Tryd.prog.godebug = none := by kernel_rfl
theorem laidOut : laidOutB Tryd.prog = true := by kernel_rfl
/-- THE CLOSING: the law answers true and has left what was there. -/
theorem law_post {H : Type} {enc : TypeId × Value → H} {f : Func} {s : ChangeSpec} {W W' : World} {args : Array Value} {ds gs : List (DataW H)} {before : List MemPlace} (hl : laidOutB Tryd.prog = true)
    (hparams : (f.params.toList.all fun t => Tryd.prog.readableRec t && decide (t < Tryd.prog.types.size)) = true) (hres : f.resultTypes = #[4])
    (hvars : s.vars = []) (hfn : s.fn H (ds ++ gs) = { results := [.lit (.bool true)], args := ds })
    (hW : DataW.Whole enc Tryd.prog f.params.toList s.vars false W args.toList ds gs before) (hlt : ∀ x ∈ before, x.block < W.heap.size) (hb : Below W.heap.size W W') :
    s.post enc Tryd.prog f false true false false W args (.bool true) W' := by
  have hW0 := hW
  obtain ⟨p, q, hA, hV, rfl, _, _⟩ := hW
  refine ⟨ds, gs, p ++ q, [], p, [], hW0, ?_, ?_, ?_, hb.frame _, fun h => by cases h⟩
  · rw [hfn, hres]
    exact trodAll_cons_mk (shut_bool Tryd.underlying4 true) trodAll_mk0
  · rw [hfn]
    exact trodAll_below hl hb _ _ _ _ hparams (fun x hx => hlt x (List.mem_append_left _ hx)) hA
  · rw [hvars, hfn]; rfl
end Go.Proofs.YtinnbfdhejmaaaaDoor

/-
  What a law over the signs, the operators and the library's errors asks: the variables' facts, a world for the witness.
-/
namespace Go.Proofs.YtinnbfdhejmaaaaDoor
open Go.ChangeShapes Go.WideShapes Go.ChangeAt Go.RowKit

/-- Texts as a datum. -/
def textData {H : Type} (bs : List (List UInt8)) : DataW H := .agg (bs.map fun b => .lit (.string b))
/-- An array of texts that reads so holds the texts, cell for cell. -/
theorem cells_of_texts {H : Type} {enc : TypeId × Value → H} {P : Program} {w : World} {base : Nat} {sp : Nat → Bool} {held : Bool} {fuel : Nat} {t e : TypeId} {n : Nat} {cs : List Value} {bs : List (List UInt8)} {p : List MemPlace}
    (ht : P.underlying t = some (.array n e)) (he : P.underlying e = some .string) (hce : P.cellsOf e = 1) (hct : P.cellsOf t = n)
    (h : DataW.trod enc P w base sp held fuel t cs = some (textData bs, p)) : cs = bs.map fun b => Value.string ⟨b.toArray⟩ := by
  cases fuel with
  | zero => simp [DataW.trod] at h
  | succ fuel =>
    simp only [DataW.trod, ht, hce, hct, Nat.mul_one] at h
    split at h
    · rename_i hl
      obtain ⟨xs, hm, hx⟩ := Option.map_eq_some_iff.1 h
      have hxs : xs.map (·.1) = bs.map fun b => (DataW.lit (.string b) : DataW H) := by
        have := congrArg Prod.fst hx
        simpa [textData] using this
      have hxl : xs.length = n := by simpa using Lib.mapM_length hm
      have hzl : bs.length = n := by
        have := congrArg List.length hxs
        simp at this
        omega
      apply List.ext_getElem?
      intro i
      by_cases hi : i < n
      · obtain ⟨b, hb, hf⟩ := Lib.mapM_at hm i i (by simp [hi])
        obtain ⟨z, hc, rfl, _⟩ := DataW.trod_string he hf
        have h1 : cs[i]? = some (.string z) := by
          have := congrArg (·[0]?) hc
          simpa [List.getElem?_take, List.getElem?_drop] using this
        have h2 : (xs.map (·.1))[i]? = some (DataW.lit (.string z.data.toList) : DataW H) := by simp [hb]
        rw [hxs] at h2
        simp only [List.getElem?_map, Option.map_eq_some_iff, DataW.lit.injEq, Lit.string.injEq] at h2
        obtain ⟨z', hz', e⟩ := h2
        simp only [h1, List.getElem?_map, hz', Option.map_some, e]
      · rw [List.getElem?_eq_none (by omega), List.getElem?_eq_none (by simp; omega)]
    · cases h
def laidList : List (String × DataW Unit) := [("math/bits.deBruijn32tab", Rows.laid_math_bits_deBruijn32tab), ("math/bits.deBruijn64tab", Rows.laid_math_bits_deBruijn64tab), ("internal/strconv.uint64pow10", Rows.laid_internal_strconv_uint64pow10), ("strconv.ErrRange", Rows.laid_strconv_ErrRange), ("strconv.ErrSyntax", Rows.laid_strconv_ErrSyntax), ("chequer/lex.signs", Rows.laid_chequer_lex_signs), ("chequer/parse.operators", Rows.laid_chequer_parse_operators)]
theorem gErr : Tryd.prog.globalNamed "strconv.ErrRange" = some 3 := by kernel_rfl
theorem gErr_t : (Tryd.prog.globals[(3 : Nat)]?).map (·.type) = some 66 := by kernel_rfl
theorem gSig : Tryd.prog.globalNamed "chequer/lex.signs" = some 0 := by kernel_rfl
theorem gSig_t : (Tryd.prog.globals[(0 : Nat)]?).map (·.type) = some 72 := by kernel_rfl
theorem cellsErr : Tryd.prog.cellsOf 103 = 1 := by kernel_rfl
theorem cellsStr : Tryd.prog.cellsOf 9 = 1 := by kernel_rfl
theorem cellsSig : Tryd.prog.cellsOf 72 = 15 := by kernel_rfl
theorem star : "*" ++ "errors.errorString" = "*errors.errorString" := by decide
theorem rowErr (u : TypeId) (h : Tryd.prog.typeName? 3 u = some "*errors.errorString") : u = 101 :=
  typeName_ptr_named (nm := "errors.errorString") (by rw [star]; kernel_rfl) (by kernel_rfl) (by decide) u (by rw [star]; exact h)
def sigBytes : List (List UInt8) := [[60, 62], [60, 61], [62, 61], [43], [45], [42], [47], [38], [61], [60], [62], [40], [41], [44], [58]]
theorem sigData : (Rows.laid_chequer_lex_signs : DataW Unit) = textData sigBytes := rfl
theorem sigCells : (sigBytes.map fun b => Value.string ⟨b.toArray⟩) = sigA.toList := rfl
/-- What a row's list gives. -/
theorem tables {W : World} (h : laidMetH Tryd.prog laidList W) : Vars W := by
  have h1 : laidMet Tryd.prog laidList W := h
  have h4 := laidMet.tail (laidMet.tail (laidMet.tail h1))
  constructor
  · obtain ⟨a0, s0, hv0, -, -, -⟩ := laid_sentinel h4 gErr gErr_t Tryd.underlying66 rowErr Tryd.underlying101 Tryd.underlying103 rfl rfl Tryd.underlying9 cellsErr cellsStr
    exact ⟨_, by have h0 := World.var?_cell gErr hv0 0; simpa using h0, Or.inr ⟨_, _, rfl⟩⟩
  · have h6 := laidMet.tail (laidMet.tail h4)
    obtain ⟨ps, ⟨g', t', cs, fuel, p, q, hg', ht', hvar, hd, _, _⟩, _⟩ := h6
    obtain rfl := Option.some.inj (gSig.symm.trans hg')
    obtain rfl := Option.some.inj (gSig_t.symm.trans ht')
    rw [sigData] at hd
    have hc := cells_of_texts Tryd.underlying72 Tryd.underlying9 cellsStr cellsSig hd
    rw [sigCells] at hc
    unfold World.var? at hvar
    rw [gSig] at hvar
    simp only [Option.bind_some] at hvar
    split at hvar
    · rename_i cs' ty fr hh
      injection hvar with hvar
      subst hvar
      have : cs' = sigA := Array.toList_inj.1 hc
      exact ⟨ty, fr, by rw [← this]; exact hh⟩
    · cases hvar
/-- The operators' cells. -/
def opC (q : ByteArray × Nat × Int) : List Value := [.string q.1, .int .i64 (q.2.1 : Int), .int .i64 q.2.2]
theorem cells3 : ∀ (L : List (ByteArray × Nat × Int)) (cs : List Value), cs.length = L.length * 3 → (∀ (i : Nat) q, L[i]? = some q → (cs.drop (i * 3)).take 3 = opC q) → cs = L.flatMap opC
  | [], cs, h, _ => by simpa using h
  | q :: L, cs, h, hi => by
    have h0 := hi 0 q rfl
    rw [Nat.zero_mul, List.drop_zero] at h0
    have h1 := cells3 L (cs.drop 3) (by rw [List.length_drop, h, List.length_cons]; omega) (fun i q' hq => by
      have := hi (i + 1) q' (by simpa using hq)
      rw [Nat.succ_mul] at this
      rw [List.drop_drop, Nat.add_comm 3]; exact this)
    rw [List.flatMap_cons, ← h0, ← h1, List.take_append_drop]
def opData {H : Type} (q : ByteArray × Nat × Int) : DataW H := .agg [.lit (.string q.1.data.toList), .lit (.int .i64 (q.2.1 : Int)), .lit (.int .i64 q.2.2)]
theorem opsData : (Rows.laid_chequer_parse_operators : DataW Unit) = .agg (opL3.map opData) := rfl
theorem gOps : Tryd.prog.globalNamed "chequer/parse.operators" = some 1 := by kernel_rfl
theorem gOps_t : (Tryd.prog.globals[(1 : Nat)]?).map (·.type) = some 75 := by kernel_rfl
theorem cellsOps : Tryd.prog.cellsOf 75 = 33 := by kernel_rfl
theorem cellsOp : Tryd.prog.cellsOf 74 = 3 := by kernel_rfl
theorem cellsInt : Tryd.prog.cellsOf 3 = 1 := by kernel_rfl
set_option maxRecDepth 100000 in
theorem op_of_trod {enc : TypeId × Value → Unit} {w : World} {base : Nat} {sp : Nat → Bool} {held : Bool} {fuel : Nat} {cs : List Value} {q : ByteArray × Nat × Int} {p : List MemPlace}
    (h : DataW.trod enc Tryd.prog w base sp held fuel 74 cs = some (opData q, p)) : cs = opC q := by
  obtain ⟨y0, y1, y2, n, hx, hl, h0, h1, h2⟩ := Go.Deep.trod_struct3 Tryd.underlying74 h
  injection hx with hx _
  unfold opData at hx
  injection hx with hx
  injection hx with e0 hx; injection hx with e1 hx; injection hx with e2 _
  rw [cellsOp] at hl
  match cs, hl with
  | [c0, c1, c2], _ =>
    obtain ⟨s, g0, g0', _⟩ := DataW.trod_string Tryd.underlying9 h0
    obtain ⟨n1, g1, g1', _⟩ := DataW.trod_int Tryd.underlying3 h1
    obtain ⟨n2, g2, g2', _⟩ := DataW.trod_int Tryd.underlying3 h2
    have k0 : [c0] = [Value.string s] := g0
    have k1 : [c1] = [Value.int .i64 n1] := g1
    have k2 : [c2] = [Value.int .i64 n2] := g2
    injection k0 with k0 _; injection k1 with k1 _; injection k2 with k2 _
    rw [g0'] at e0; rw [g1'] at e1; rw [g2'] at e2
    injection e0 with e0; injection e0 with e0
    injection e1 with e1; injection e1 with _ e1
    injection e2 with e2; injection e2 with _ e2
    have es : s = q.1 := by
      cases s; cases hq : q.1
      rw [hq] at e0
      simp only at e0
      rw [Array.toList_inj.1 e0.symm]
    rw [k0, k1, k2, es, ← e1, ← e2]; rfl
set_option maxRecDepth 100000 in
theorem cells_of_ops {enc : TypeId × Value → Unit} {w : World} {base : Nat} {sp : Nat → Bool} {held : Bool} {fuel : Nat} {cs : List Value} {p : List MemPlace}
    (h : DataW.trod enc Tryd.prog w base sp held fuel 75 cs = some (.agg (opL3.map opData), p)) : cs = opL3.flatMap opC := by
  obtain ⟨xs, m, _, hx, hl, hxl, hi⟩ := DataW.trod_array Tryd.underlying75 h
  injection hx with hx _
  injection hx with hx
  rw [cellsOps] at hl
  refine cells3 opL3 cs (by rw [hl]; rfl) fun i q hq => ?_
  have hlt := (List.getElem?_eq_some_iff.1 hq).1
  have hlt : i < 11 := hlt
  have h1 := hi i hlt
  rw [cellsOp] at h1
  obtain ⟨y, hy⟩ : ∃ y, xs[i]? = some y := ⟨_, List.getElem?_eq_getElem (by omega)⟩
  rw [hy] at h1
  have h2 : (xs.map (·.1))[i]? = some y.1 := by rw [List.getElem?_map, hy]; rfl
  rw [← hx, List.getElem?_map, hq] at h2
  have h2 : opData q = y.1 := Option.some.inj h2
  obtain ⟨y1, y2⟩ := y
  have h2 : opData q = y1 := h2
  subst h2
  exact op_of_trod h1
theorem opA_list : opA.toList = opL3.flatMap opC := rfl
/-- The operators out of a row's list. -/
theorem tablesOp {W : World} (h : laidMetH Tryd.prog laidList W) : OpV W := by
  have h1 : laidMet Tryd.prog laidList W := h
  have h4 := laidMet.tail (laidMet.tail (laidMet.tail (laidMet.tail (laidMet.tail (laidMet.tail h1)))))
  obtain ⟨ps, ⟨g', t', cs, fuel, p, q, hg', ht', hvar, hd, _, _⟩, _⟩ := h4
  obtain rfl := Option.some.inj (gOps.symm.trans hg')
  obtain rfl := Option.some.inj (gOps_t.symm.trans ht')
  rw [opsData] at hd
  have hc := cells_of_ops hd
  rw [← opA_list] at hc
  unfold World.var? at hvar
  rw [gOps] at hvar
  simp only [Option.bind_some] at hvar
  split at hvar
  · rename_i cs' ty fr hh
    injection hvar with hvar
    subst hvar
    have : cs' = opA := Array.toList_inj.1 hc
    exact ⟨ty, fr, by rw [← this]; exact hh⟩
  · cases hvar
/-- A WORLD FOR THE WITNESS: the settled one, the variables holding what their initialisers lay. -/
noncomputable def laidWorld (os : Os) : World := World.laidAll Tryd.prog os laidList
theorem laid_met0 (os : Os) (args : Array Value) : laidMet Tryd.prog laidList ((laidWorld os).forCall (fun _ _ => 0) ⟨#[], args, []⟩).memory := laidMet_laidAll args (by kernel_rfl) (by kernel_rfl)
end Go.Proofs.YtinnbfdhejmaaaaDoor

namespace Go.Proofs.YtinnbfdhejmaaaaDoor.lawPDeep
open Go.ChangeShapes Go.WideShapes Go.ChangeAt Go.RowKit
open Go.WideMaps Go.WideElems
open Go.ChangeMaps (open_string shut_string)

set_option maxRecDepth 100000 in
theorem contract (H : Type) (enc : TypeId × Value → H) (W : World) (base : Nat) (args : Array Value) (ds gs : List (DataW H)) (before : List MemPlace)
    (hval : ∀ (j : Nat) t v, Tryd.f3.params[j]? = some t → args[j]? = some v → Value.okWide Tryd.prog W .any base t v)
    (hW : DataW.Whole enc Tryd.prog Tryd.f3.params.toList Rows.parseDeepSpec.vars false W args.toList ds gs before) (hL : laidMetH Tryd.prog Rows.parseDeepRow.laid W) :
    Calls Tryd.prog 3 args W fun e W' => ∃ v, e = .returned v ∧ Rows.parseDeepSpec.post enc Tryd.prog Tryd.f3 false true false false W args v W' := by
  have hW' := hW
  have hlt := hW.lt
  obtain ⟨p, q, hA, hV, rfl, hfz, hnd⟩ := hW
  rw [Tryd.params3] at hA hval
  obtain ⟨v0, vs0, d0, ds0, p0, q0, hargs, rfl, rfl, h0, r0⟩ := trodAll_cons hA
  obtain ⟨v1, vs1, d1, ds1, p1, q1, rfl, rfl, rfl, h1, r1⟩ := trodAll_cons r0
  obtain ⟨rfl, rfl, rfl⟩ := trodAll_nil r1
  obtain rfl : args = #[v0, v1] := by cases args; simp_all
  obtain ⟨rfl, rfl⟩ := trodVars_none hV
  obtain ⟨n0, rfl, rfl, rfl, wn0⟩ := open_int Tryd.underlying5 (hval 0 5 v0 rfl rfl) h0
  have bn0 := bounds_u8 wn0
  obtain ⟨m0, rfl⟩ : ∃ m : Nat, n0 = (m : Int) := ⟨n0.toNat, by omega⟩
  obtain ⟨n1, rfl, rfl, rfl, wn1⟩ := open_int Tryd.underlying5 (hval 1 5 v1 rfl rfl) h1
  have bn1 := bounds_u8 wn1
  obtain ⟨m1, rfl⟩ : ∃ m : Nat, n1 = (m : Int) := ⟨n1.toNat, by omega⟩
  have hL2 : laidMetH Tryd.prog laidList W := by rw [show laidList = Rows.parseDeepRow.laid from rfl]; exact hL
  refine (parseDeep_any m0 m1 (by omega) (by omega) W (tables hL2) (tablesOp hL2)).mono fun e W' ⟨he, hb⟩ => ?_
  subst he
  exact ⟨_, rfl, law_post laidOut (by kernel_rfl) (by kernel_rfl) rfl rfl hW' hlt hb⟩

set_option maxRecDepth 100000 in
theorem laid_met (os : Os) : laidMet Tryd.prog Rows.parseDeepRow.laid ((laidWorld os).forCall (fun _ _ => 0) ⟨#[], #[.int .u8 0, .int .u8 0], []⟩).memory :=
  laid_met0 os _
theorem reads (os : Os) {H : Type} (enc : TypeId × Value → H) : ∃ places, DataW.whole enc Tryd.prog ((laidWorld os).forCall (fun _ _ => 0) ⟨#[], #[.int .u8 0, .int .u8 0], []⟩).memory Tryd.f3.params.toList Rows.parseDeepSpec.vars false (#[.int .u8 0, .int .u8 0] : Array Value).toList 8 = some ([.lit (.int .u8 0), .lit (.int .u8 0)], [], places) :=
  ⟨[], by kernel_rfl⟩

set_option maxRecDepth 100000 in
theorem lifted (os : Os) (started : os.Started) (H : Type) (enc : TypeId × Value → H) (F : Stop.Interp) :
    ReturnsInHanded {} Tryd.checked os 3 .any ((OpenSpec.ofChange Rows.parseDeepSpec).preRow enc Tryd.prog Tryd.f3 Rows.parseDeepRow.domain false Rows.parseDeepRow.laid) (((OpenSpec.ofChange Rows.parseDeepSpec).at F).post enc Tryd.prog Tryd.f3 false true false false) := by
  obtain ⟨places, hx⟩ := reads os enc
  refine returnsInHanded_of_row (C := Tryd.checked) (s := OpenSpec.ofChange Rows.parseDeepSpec) own started (by kernel_rfl) Tryd.func3
    (witness_row_at (enc := enc) (C := Tryd.checked) false (laidWorld os) #[.int .u8 0, .int .u8 0] (World.laidAll_os _ _ _) (by kernel_rfl) (by kernel_rfl) (by kernel_rfl)
      (OpenSpec.preRow_of_cond 8 hx (by kernel_rfl) (fun k hk => by cases hk) (by kernel_rfl) (laid_met os))) ?_
  intro W base args ds gs before hval hW _ _ _ hL _ _
  exact contract H enc W base args ds gs before hval hW hL

theorem said : Rows.ParseDeepSaid :=
  OpenClaim.holds_of_cond 3 Tryd.f3 rfl rfl rfl rfl rfl rfl rfl ⟨rfl, rfl, rfl, rfl, rfl⟩ rfl rfl rfl rfl rfl (by kernel_rfl) Tryd.func3 (by kernel_rfl)
    (of_decide_eq_true (by kernel_rfl)) (by unfold Func.isWrapper; first | (rw [if_pos (by decide +kernel)]; kernel_rfl) | (rw [if_neg (by decide +kernel)]; exact ⟨rfl, rfl⟩))
    (fun os started H enc _ F => by rw [OpenClaim.pre_eq_preRow]; exact lifted os started H enc F)

theorem plain (f : FuncId) (fn : Func) (hf : Tryd.pinned.checked.prog.funcNamed "chequer/chequerlaw5.ParseDeep" = some f) (hfn : Tryd.pinned.checked.prog.funcs[f]? = some fn) :
    true = Tryd.pinned.checked.prog.looks [] ∧ ∀ (j : Nat) t, fn.params[j]? = some t → Tryd.pinned.checked.prog.wantsStandIn t = false := by
  obtain rfl : f = 3 := Option.some.inj ((show Tryd.prog.funcNamed "chequer/chequerlaw5.ParseDeep" = some 3 by kernel_rfl).symm.trans hf) |>.symm
  obtain rfl : fn = Tryd.f3 := (Option.some.inj (Tryd.func3.symm.trans hfn)).symm
  refine ⟨by kernel_rfl, fun j t ht => ?_⟩
  rw [Tryd.params3] at ht
  have hall : (#[5, 5].all fun t => !Tryd.prog.wantsStandIn t) = true := by kernel_rfl
  have := (Array.all_eq_true_iff_forall_mem.1 hall) t (Array.mem_of_getElem? ht)
  exact (show Tryd.prog.wantsStandIn t = false from by simpa using this)

/-- THE CARD -/
theorem card : Rows.ParseDeepCardSaid :=
  Claim7.holds_tied_plain_at .later [] _ _ _ _ said (fun _ h => by cases h) (by kernel_rfl) (fun _ h => by cases h) parseDeep_row_tie rfl ⟨rfl, rfl⟩ (by kernel_rfl) rfl plain (by kernel_rfl)
end Go.Proofs.YtinnbfdhejmaaaaDoor.lawPDeep
