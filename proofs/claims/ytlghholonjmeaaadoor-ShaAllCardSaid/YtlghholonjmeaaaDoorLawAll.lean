/-
  The law on sums.
-/
import Derived.Test.YtlghholonjmeaaaDoorRefB
import Derived.Test.YtlghholonjmeaaaDoorLawNil
namespace Go.Proofs.YtlghholonjmeaaaDoor
open Go.RowKit

set_option maxRecDepth 100000 in
set_option maxHeartbeats 400000 in
theorem shaAll_any (A : Option Addr) (len cap : Nat) (xs : List Int) (w : World) (ht : Tables w) (hS : S8 w w.heap.size A len cap xs) :
    Calls Tryd.prog 3 #[.slice A len cap] w fun e w' => e = .returned (.bool true) ∧ Below w.heap.size w w' := by
  have HT := Lib.hid ht; clear ht
  by_cases hbig : 1000 < len
  · have hi : (1000 : Int) < (len : Int) := by omega
    go_enter Tryd.func3, Tryd.ntmps3
    go_wp2_with fail
    go_ret
    exact ⟨rfl, Below.refl _ _⟩
  · have hi : ¬ (1000 : Int) < (len : Int) := by omega
    have hg0 := HT.out.g0
    have hg1 := HT.out.g1
    have h1 := sum_s8 A len cap xs w HT.out hS (by omega)
    have hS' : ∀ w1, Below w.heap.size w w1 → S8 w1 w1.heap.size A len cap xs := fun w1 hb => (hS.below hb (Nat.le_refl _)).mono hb.size
    have h2 : ∀ w1, Below w.heap.size w w1 → Calls Tryd.prog 9 #[.slice A len cap] w1 fun e w' => e = .returned (.string (strOfNums (shaL xs))) ∧ Below w.heap.size w w' :=
      fun w1 hb => (refSha_any A len cap xs w1 (hS' w1 hb) (by omega)).mono fun e w' h => ⟨h.1, hb.trans (h.2.mono hb.size)⟩
    have h3 : ∀ w1, Below w.heap.size w w1 → Calls Tryd.prog 10 #[] w1 fun e w' => e = .returned (.bool true) ∧ Below w.heap.size w w' :=
      fun w1 hb => (awake_any w1 (HT.out.below hb hg0 hg1)).mono fun e w' h => ⟨h.1, hb.trans (h.2.mono hb.size)⟩
    generalize strOfNums (shaL xs) = S at h1 h2
    have H1 := Lib.hid h1; clear h1
    have H2 := Lib.hid h2; clear h2
    have H3 := Lib.hid h3; clear h3
    clear hS hS'
    go_enter Tryd.func3, Tryd.ntmps3
    go_wp2_with fail
    refine H1.out.mono ?_
    rintro e w1 ⟨rfl, h1⟩
    have HB1 := Lib.hid h1; clear h1
    go_wp2_with fail
    refine (H2.out w1 HB1.out).mono ?_
    rintro e w2 ⟨rfl, h1⟩
    have HB2 := Lib.hid h1; clear h1
    go_wp2_with fail
    refine (H3.out w2 HB2.out).mono ?_
    rintro e w3 ⟨rfl, h1⟩
    have HB3 := Lib.hid h1; clear h1
    go_wp2_with fail
    go_ret
    exact ⟨rfl, HB3.out⟩
end Go.Proofs.YtlghholonjmeaaaDoor
