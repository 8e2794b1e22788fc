/-
  'chequerlaw3.AddrCols', given what Col and ReadCol answer.
-/
import Derived.Test.YtocoldcgnppfhaaAddrW
namespace Go.Proofs.Ytocoldcgnppfhaa
open Go.RowKit

set_option maxRecDepth 100000 in
theorem cols_rise : ∀ k : Nat, k < 701 → ((strOfNums (colL k)).size < (strOfNums (colL ((k : Int) + 1))).size ∨ (strOfNums (colL k)).size = (strOfNums (colL ((k : Int) + 1))).size ∧ Op.bytesLess (strOfNums (colL k)).data.toList (strOfNums (colL ((k : Int) + 1))).data.toList = true) := by
  decide +kernel

set_option maxRecDepth 100000 in
set_option maxHeartbeats 400000 in
theorem addrCols_law (hcol : ∀ (n : Int) (w : World), -9223372036854775808 ≤ n → n ≤ 9223372036854775807 → Calls Try.prog 4 #[.int .i64 n] w fun e w' => e = .returned (.string (strOfNums (colL n))) ∧ Below w.heap.size w w')
    (hread : ∀ (s : ByteArray) (w : World), s.size ≤ 1000000 → Calls Try.prog 5 #[.string s] w fun e w' => e = .returned (.tuple #[.int .i64 (readColL (sb s)), .bool (isCol (sb s))]) ∧ Below w.heap.size w w')
    (hawake : ∀ w : World, Calls Try.prog 6 #[] w fun e w' => e = .returned (.bool true) ∧ Below w.heap.size w w')
    (n : Int) (h0 : 0 ≤ n) (h1 : n ≤ 65535) (w : World) :
    Calls Try.prog 3 #[.int .u16 n] w fun e w' => e = .returned (.bool true) ∧ Below w.heap.size w w' := by
  obtain ⟨k, hk⟩ : ∃ k : Int, n % 701 = k := ⟨_, rfl⟩
  have hk0 : 0 ≤ k := by omega
  have hk1 : k ≤ 700 := by omega
  obtain ⟨a, ha⟩ : ∃ a : ByteArray, strOfNums (colL k) = a := ⟨_, rfl⟩
  obtain ⟨b, hb⟩ : ∃ b : ByteArray, strOfNums (colL (k + 1)) = b := ⟨_, rfl⟩
  have ra : readColL (sb a) = k := by rw [← ha, sb_str _ (bytes_colL k)]; exact (readCol_colL k (by omega) (by omega)).2
  have ia : isCol (sb a) = true := by rw [← ha, sb_str _ (bytes_colL k)]; exact (readCol_colL k (by omega) (by omega)).1
  have rb : readColL (sb b) = k + 1 := by rw [← hb, sb_str _ (bytes_colL (k + 1))]; exact (readCol_colL (k + 1) (by omega) (by omega)).2
  have ib : isCol (sb b) = true := by rw [← hb, sb_str _ (bytes_colL (k + 1))]; exact (readCol_colL (k + 1) (by omega) (by omega)).1
  have za : a.size ≤ 2 := by rw [← ha, strOfNums_size]; unfold colL; split <;> (try split) <;> simp
  have zb : b.size ≤ 2 := by rw [← hb, strOfNums_size]; unfold colL; split <;> (try split) <;> simp
  obtain ⟨m, hm⟩ : ∃ m : Nat, k = (m : Int) := ⟨k.toNat, by omega⟩
  have hrise := cols_rise m (by omega)
  rw [← hm, ha, hb, ← list_bytes, ← list_bytes] at hrise
  have HRISE := Lib.hid hrise; clear hrise hm
  have h702 : strOfNums (colL 702) = ⟨#[]⟩ := by decide +kernel
  have hneg : strOfNums (colL (-1)) = ⟨#[]⟩ := by decide +kernel
  have h701 : strOfNums (colL 701) = ⟨#[90, 90]⟩ := by decide +kernel
  have H702 := Lib.hid h702; clear h702
  have HNEG := Lib.hid hneg; clear hneg
  have H701 := Lib.hid h701; clear h701
  have HA := Lib.hid ha; clear ha
  have HB := Lib.hid hb; clear hb
  have HC := Lib.hid hcol; clear hcol
  have HR := Lib.hid hread; clear hread
  have HW := Lib.hid hawake; clear hawake
  have HBL := Lib.hid (Below.refl w.heap.size w)
  rcases HRISE.out with hlt | ⟨heq, hless⟩
  · have hlt2 : (a.size : Int) < (b.size : Int) := by omega
    go_enter Try.func3, Try.ntmps3
    go_wp2_with (first
      | (go_at_call 4; ((with_reducible refine (HC.out _ _ ?_ ?_).mono ?_); (first | omega | skip); (first | omega | skip); rintro e w1 ⟨rfl, h1⟩; (first | rw [HA.out] | rw [HB.out] | rw [H702.out] | rw [HNEG.out] | rw [H701.out]); have HBL := Lib.hid (HBL.out.trans (h1.mono HBL.out.size)); clear h1))
      | (go_at_call 5; ((with_reducible refine (HR.out _ _ ?_).mono ?_); (first | omega | skip); rintro e w2 ⟨rfl, h1⟩; have HBL := Lib.hid (HBL.out.trans (h1.mono HBL.out.size)); clear h1))
      | (go_at_call 6; ((with_reducible refine (HW.out _).mono ?_); rintro e w3 ⟨rfl, h1⟩; have HBL := Lib.hid (HBL.out.trans (h1.mono HBL.out.size)); clear h1)))
    all_goals go_ret
    all_goals exact ⟨rfl, HBL.out⟩
  · have hlt2 : ¬ (a.size : Int) < (b.size : Int) := by omega
    have heq2 : (a.size : Int) = (b.size : Int) := by omega
    go_enter Try.func3, Try.ntmps3
    go_wp2_with (first
      | (go_at_call 4; ((with_reducible refine (HC.out _ _ ?_ ?_).mono ?_); (first | omega | skip); (first | omega | skip); rintro e w1 ⟨rfl, h1⟩; (first | rw [HA.out] | rw [HB.out] | rw [H702.out] | rw [HNEG.out] | rw [H701.out]); have HBL := Lib.hid (HBL.out.trans (h1.mono HBL.out.size)); clear h1))
      | (go_at_call 5; ((with_reducible refine (HR.out _ _ ?_).mono ?_); (first | omega | skip); rintro e w2 ⟨rfl, h1⟩; have HBL := Lib.hid (HBL.out.trans (h1.mono HBL.out.size)); clear h1))
      | (go_at_call 6; ((with_reducible refine (HW.out _).mono ?_); rintro e w3 ⟨rfl, h1⟩; have HBL := Lib.hid (HBL.out.trans (h1.mono HBL.out.size)); clear h1)))
    all_goals go_ret
    all_goals exact ⟨rfl, HBL.out⟩
theorem addrCols_any (n : Int) (h0 : 0 ≤ n) (h1 : n ≤ 65535) (w : World) :
    Calls Try.prog 3 #[.int .u16 n] w fun e w' => e = .returned (.bool true) ∧ Below w.heap.size w w' :=
  addrCols_law (fun n w h0 h1 => (col_any n h0 h1 w).mono fun _ _ ⟨a, b⟩ => ⟨a, by subst b; exact Below.refl _ _⟩) (fun s w h => readCol_any s w h) awake_any n h0 h1 w
end Go.Proofs.Ytocoldcgnppfhaa
