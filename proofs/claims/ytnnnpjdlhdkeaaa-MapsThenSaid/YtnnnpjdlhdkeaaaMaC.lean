/-
  Layer 11, the program: where one place goes; a list of where each goes.
-/
import Derived.Test.YtnnnpjdlhdkeaaaMaB
import Derived.Test.YtnnnpjdlhdkeaaaRwX
import Derived.Shelf.Abstract
namespace Go.Proofs.Ytnnnpjdlhdkeaaa
open Go.RowKit

set_option maxRecDepth 100000 in
theorem opened_any (w : World) (s : Int) (i : Nat) (hi : i ≤ 2000000) :
    Calls Try.prog 33 #[.int .i64 s, .int .i64 (i : Int)] w fun e w' => e = .returned (.int .i64 (if (i : Int) < s then (i : Int) else (i : Int) + 1)) ∧ Below w.heap.size w w' := by
  by_cases h : (i : Int) < s
  · rw [if_pos h]
    go_enter Try.func33, Try.ntmps33
    go_wp2_with fail
    go_ret
    exact ⟨rfl, Below.refl _ _⟩
  · rw [if_neg h]
    go_enter Try.func33, Try.ntmps33
    go_wp2_with fail
    go_ret
    exact ⟨rfl, Below.refl _ _⟩
set_option maxRecDepth 100000 in
theorem closed_any (w : World) (s : Int) (i : Nat) (hi : i ≤ 2000000) :
    Calls Try.prog 34 #[.int .i64 s, .int .i64 (i : Int)] w fun e w' => e = .returned (.int .i64 (if (i : Int) < s then (i : Int) else if (i : Int) = s then -1 else (i : Int) - 1)) ∧ Below w.heap.size w w' := by
  by_cases h : (i : Int) < s
  · rw [if_pos h]
    go_enter Try.func34, Try.ntmps34
    go_wp2_with fail
    go_ret
    exact ⟨rfl, Below.refl _ _⟩
  · by_cases h2 : (i : Int) = s
    · rw [if_neg h, if_pos h2]
      have hq : ((i : Int) == s) = true := by rw [h2]; exact beq_self_eq_true s
      have HQ := Lib.hid h2
      clear h2
      go_enter Try.func34, Try.ntmps34
      go_wp2_with fail
      go_ret
      exact ⟨rfl, Below.refl _ _⟩
    · rw [if_neg h, if_neg h2]
      have hq : ((i : Int) == s) = false := by rw [beq_eq_false_iff_ne]; exact h2
      clear h2
      go_enter Try.func34, Try.ntmps34
      go_wp2_with fail
      go_ret
      exact ⟨rfl, Below.refl _ _⟩
set_option maxRecDepth 100000 in
set_option maxHeartbeats 1600000 in
theorem wayImage_any (w : World) (A : Option Addr) (n cap : Nat) (xs : List Int) (nw i : Int) (h : IR w w.heap.size A n cap xs) (hn : n ≤ 2000000) (h0 : 0 ≤ nw) (h1 : nw ≤ 2000000) (hi : i ≤ 4398046511104) :
    Calls Try.prog 36 #[.agg #[.slice A n cap, .int .i64 nw], .int .i64 i] w fun e w' => e = .returned (.int .i64 (imgM xs nw i)) ∧ Below w.heap.size w w' := by
  have HB := Lib.hid (below_pr 52 w (.slice A n cap) nw)
  have HP := Lib.hid (PrAt.new 52 w (.slice A n cap) nw)
  have HX := Lib.hid h
  have HL := Lib.hid h.len.1
  clear h
  by_cases hneg : i < 0
  · have HV := Lib.hid (imgM_neg xs nw i hneg)
    go_enter Try.func36, Try.ntmps36
    go_wp2_with fail
    go_ret
    exact ⟨by rw [HV.out]; rfl, HB.out⟩
  · obtain ⟨k, rfl⟩ : ∃ k : Nat, i = (k : Int) := ⟨i.toNat, by omega⟩
    by_cases hin : k < n
    · have hii : (k : Int) < (n : Int) := by omega
      have hi0 : (0 : Int) ≤ (k : Int) := by omega
      have HV := Lib.hid (imgM_in xs nw k (by rw [HL.out]; exact hin))
      obtain ⟨pb, po, rfl, hpb, e0⟩ := ir_at HX.out hin
      obtain ⟨x, hx⟩ : ∃ x, xs.getD k 0 = x := ⟨_, rfl⟩
      rw [hx] at e0 HV
      have HE := Lib.hid e0; have HPB := Lib.hid hpb
      clear e0 hx hpb
      go_enter Try.func36, Try.ntmps36
      go_upto_region 1 with (fail)
      obtain ⟨w1, hw1⟩ : ∃ w1, w.alloc (.cells #[.slice (some ⟨pb, po, none⟩) n cap, .int .i64 nw] 52) = w1 := ⟨_, rfl⟩
      rw [hw1] at HB HP ⊢
      clear hw1
      obtain ⟨x0, x1⟩ := HP.out.cells
      have x2 : w1.cell? ⟨pb, po + k, none⟩ = some (.int .i64 x) := (HB.out.cell (p := ⟨pb, po + k, none⟩) HPB.out).trans HE.out
      go_wp2_with fail
      go_ret
      exact ⟨by rw [HV.out]; rfl, HB.out⟩
    · have hii : ¬ (k : Int) < (n : Int) := by omega
      have HV := Lib.hid (imgM_out xs nw (k : Int) (by omega) (by rw [HL.out]; omega))
      have hk : (k : Int) ≤ 4398046511104 := hi
      go_enter Try.func36, Try.ntmps36
      go_upto_region 1 with (fail)
      obtain ⟨w1, hw1⟩ : ∃ w1, w.alloc (.cells #[.slice A n cap, .int .i64 nw] 52) = w1 := ⟨_, rfl⟩
      rw [hw1] at HB HP ⊢
      clear hw1
      obtain ⟨x0, x1⟩ := HP.out.cells
      go_wp2_with fail
      go_ret
      exact ⟨by rw [HV.out, HL.out]; rfl, HB.out⟩
set_option maxRecDepth 100000 in
set_option maxHeartbeats 1600000 in
theorem refImage_any (w : World) (A : Option Addr) (n cap : Nat) (xs : List Int) (nw i : Int) (h : IR w w.heap.size A n cap xs) (hn : n ≤ 2000000) (h0 : 0 ≤ nw) (h1 : nw ≤ 2000000) (hi : i ≤ 4398046511104) :
    Calls Try.prog 22 #[.agg #[.slice A n cap, .int .i64 nw], .int .i64 i] w fun e w' => e = .returned (.int .i64 (imgM xs nw i)) ∧ Below w.heap.size w w' := by
  have HB := Lib.hid (below_pr 24 w (.slice A n cap) nw)
  have HP := Lib.hid (PrAt.new 24 w (.slice A n cap) nw)
  have HX := Lib.hid h
  have HL := Lib.hid h.len.1
  clear h
  by_cases hneg : i < 0
  · have HV := Lib.hid (imgM_neg xs nw i hneg)
    go_enter Try.func22, Try.ntmps22
    go_wp2_with fail
    go_ret
    exact ⟨by rw [HV.out]; rfl, HB.out⟩
  · obtain ⟨k, rfl⟩ : ∃ k : Nat, i = (k : Int) := ⟨i.toNat, by omega⟩
    by_cases hin : k < n
    · have hii : (k : Int) < (n : Int) := by omega
      have hi0 : (0 : Int) ≤ (k : Int) := by omega
      have HV := Lib.hid (imgM_in xs nw k (by rw [HL.out]; exact hin))
      obtain ⟨pb, po, rfl, hpb, e0⟩ := ir_at HX.out hin
      obtain ⟨x, hx⟩ : ∃ x, xs.getD k 0 = x := ⟨_, rfl⟩
      rw [hx] at e0 HV
      have HE := Lib.hid e0; have HPB := Lib.hid hpb
      clear e0 hx hpb
      go_enter Try.func22, Try.ntmps22
      go_upto_region 1 with (fail)
      obtain ⟨w1, hw1⟩ : ∃ w1, w.alloc (.cells #[.slice (some ⟨pb, po, none⟩) n cap, .int .i64 nw] 24) = w1 := ⟨_, rfl⟩
      rw [hw1] at HB HP ⊢
      clear hw1
      obtain ⟨x0, x1⟩ := HP.out.cells
      have x2 : w1.cell? ⟨pb, po + k, none⟩ = some (.int .i64 x) := (HB.out.cell (p := ⟨pb, po + k, none⟩) HPB.out).trans HE.out
      go_wp2_with fail
      go_ret
      exact ⟨by rw [HV.out]; rfl, HB.out⟩
    · have hii : ¬ (k : Int) < (n : Int) := by omega
      have HV := Lib.hid (imgM_out xs nw (k : Int) (by omega) (by rw [HL.out]; omega))
      have hk : (k : Int) ≤ 4398046511104 := hi
      go_enter Try.func22, Try.ntmps22
      go_upto_region 1 with (fail)
      obtain ⟨w1, hw1⟩ : ∃ w1, w.alloc (.cells #[.slice A n cap, .int .i64 nw] 24) = w1 := ⟨_, rfl⟩
      rw [hw1] at HB HP ⊢
      clear hw1
      obtain ⟨x0, x1⟩ := HP.out.cells
      go_wp2_with fail
      go_ret
      exact ⟨by rw [HV.out, HL.out]; rfl, HB.out⟩
set_option maxRecDepth 100000 in
set_option maxHeartbeats 1600000 in
theorem image_any (w : World) (A : Option Addr) (n cap : Nat) (xs : List Int) (nw i : Int) (h : IR w w.heap.size A n cap xs) (hn : n ≤ 2000000) (h0 : 0 ≤ nw) (h1 : nw ≤ 2000000) (hi : i ≤ 4398046511104) :
    Calls Try.prog 21 #[.agg #[.slice A n cap, .int .i64 nw], .int .i64 i] w fun e w' => e = .returned (.int .i64 (imgM xs nw i)) ∧ Below w.heap.size w w' := by
  have HB := Lib.hid (below_pr 24 w (.slice A n cap) nw)
  have HP := Lib.hid (PrAt.new 24 w (.slice A n cap) nw)
  have HI := Lib.hid (wayImage_any (w.alloc (.cells #[.slice A n cap, .int .i64 nw] 24)) A n cap xs nw i (h.lift HB.out) hn h0 h1 hi)
  clear h
  go_enter Try.func21, Try.ntmps21
  go_upto_region 1 with (fail)
  obtain ⟨w1, hw1⟩ : ∃ w1, w.alloc (.cells #[.slice A n cap, .int .i64 nw] 24) = w1 := ⟨_, rfl⟩
  rw [hw1] at HB HP HI ⊢
  clear hw1
  obtain ⟨x0, x1⟩ := HP.out.cells
  go_wp2_with (go_at_call 36; ((with_reducible refine HI.out.mono ?_); rintro e w2 ⟨rfl, h3⟩; have H2 := Lib.hid (HB.out.trans (h3.mono HB.out.size)); clear h3))
  go_ret
  exact ⟨rfl, H2.out⟩
end Go.Proofs.Ytnnnpjdlhdkeaaa
