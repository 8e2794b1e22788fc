/-
  Layer 11, the laws: maps by numbers are the document's.
-/
import Derived.Test.YtnnnpjdlhdkeaaaMaO
import Derived.Test.YtnnnpjdlhdkeaaaMaP
import Derived.Test.YtnnnpjdlhdkeaaaMaE
namespace Go.Proofs.Ytnnnpjdlhdkeaaa
open Go.RowKit

/-- Two maps as arguments: what is told of them, wherever they are asked for. -/
structure AB (wa : World) (A : Option Addr) (m c : Nat) (xs : List Int) (N : Nat) (B : Option Addr) (m2 c2 : Nat) (ys : List Int) (nb : Int) : Prop where
  ix : IR wa wa.heap.size A m c xs
  iy : IR wa wa.heap.size B m2 c2 ys
  rise : Rises (-1) (N : Int) xs
  hm : m ≤ 300
  hm2 : m2 ≤ 300
  hN : N ≤ 300
  nb0 : 0 ≤ nb
  nb1 : nb ≤ 1048576
theorem AB.lift {wa wq : World} {A : Option Addr} {m c : Nat} {xs : List Int} {N : Nat} {B : Option Addr} {m2 c2 : Nat} {ys : List Int} {nb : Int} (h : AB wa A m c xs N B m2 c2 ys nb) (hb : Below wa.heap.size wa wq) : AB wq A m c xs N B m2 c2 ys nb :=
  ⟨h.ix.lift hb, h.iy.lift hb, h.rise, h.hm, h.hm2, h.hN, h.nb0, h.nb1⟩
section
variable {wa : World} {A : Option Addr} {m c : Nat} {xs : List Int} {N : Nat} {B : Option Addr} {m2 c2 : Nat} {ys : List Int} {nb : Int}
theorem AB.xb (h : AB wa A m c xs N B m2 c2 ys nb) : ∀ i, i < m → xs.getD i 0 ≤ 4398046511104 := fun i hi => by
  have := rises_at h.rise i (by rw [h.ix.len.1]; exact hi)
  have := h.hN
  omega
theorem AB.may (h : AB wa A m c xs N B m2 c2 ys nb) : mayM xs (N : Int) = true := mayM_of (by omega) (by have := h.hN; omega) (by have := h.hm; have := h.ix.len.1; omega) h.rise
theorem AB.cMay (h : AB wa A m c xs N B m2 c2 ys nb) : Calls Try.prog 10 #[.agg #[.slice A m c, .int .i64 (N : Int)]] wa fun e w' => e = .returned (.bool true) ∧ Below wa.heap.size wa w' := by
  have := mayMap_any wa A m c xs (N : Int) h.ix
  rwa [h.may] at this
theorem AB.cImg (h : AB wa A m c xs N B m2 c2 ys nb) (k : Int) (hk : k ≤ 4398046511104) : Calls Try.prog 21 #[.agg #[.slice A m c, .int .i64 (N : Int)], .int .i64 k] wa fun e w' => e = .returned (.int .i64 (imgM xs N k)) ∧ Below wa.heap.size wa w' :=
  image_any wa A m c xs N k h.ix (by have := h.hm; omega) (by omega) (by have := h.hN; omega) hk
theorem AB.rImg (h : AB wa A m c xs N B m2 c2 ys nb) (k : Int) (hk : k ≤ 4398046511104) : Calls Try.prog 22 #[.agg #[.slice A m c, .int .i64 (N : Int)], .int .i64 k] wa fun e w' => e = .returned (.int .i64 (imgM xs N k)) ∧ Below wa.heap.size wa w' :=
  refImage_any wa A m c xs N k h.ix (by have := h.hm; omega) (by omega) (by have := h.hN; omega) hk
theorem AB.cSpan (h : AB wa A m c xs N B m2 c2 ys nb) (lo hi : Int) (hk : hi ≤ 4398046511104) : Calls Try.prog 19 #[.agg #[.slice A m c, .int .i64 (N : Int)], .int .i64 lo, .int .i64 hi] wa fun e w' => e = .returned (s3 (spanM xs N lo hi)) ∧ Below wa.heap.size wa w' :=
  spanMap_any wa A m c xs N lo hi h.ix (by have := h.hm; omega) (by omega) (by have := h.hN; omega) hk
theorem AB.rSpan (h : AB wa A m c xs N B m2 c2 ys nb) (lo hi : Int) (hk : hi ≤ 4398046511104) : Calls Try.prog 20 #[.agg #[.slice A m c, .int .i64 (N : Int)], .int .i64 lo, .int .i64 hi] wa fun e w' => e = .returned (s3 (spanM xs N lo hi)) ∧ Below wa.heap.size wa w' :=
  refSpan_any wa A m c xs N lo hi h.ix (by have := h.hm; omega) (by omega) (by have := h.hN; omega) hk h.rise
theorem AB.cThen (h : AB wa A m c xs N B m2 c2 ys nb) : Calls Try.prog 23 #[.agg #[.slice A m c, .int .i64 (N : Int)], .agg #[.slice B m2 c2, .int .i64 nb]] wa fun e w' => ∃ T, e = .returned (.agg #[.slice (some ⟨T, 0, none⟩) m m, .int .i64 nb]) ∧ IR w' w'.heap.size (some ⟨T, 0, none⟩) m m (thenM xs ys nb) ∧ Below wa.heap.size wa w' :=
  (then_map wa A m c xs N B m2 c2 ys nb h.ix h.iy (by have := h.hm; omega) (by have := h.hm2; omega) (by omega) (by have := h.hN; omega) h.nb0 (by have := h.nb1; omega) h.xb).mono fun e w' ⟨T, _, he, h1, h2⟩ => ⟨T, he, mapOut_ir h1 (by rw [length_thenM]; exact h.ix.len.1) (by have := h.hm; omega), h2⟩
theorem AB.rThen (h : AB wa A m c xs N B m2 c2 ys nb) : Calls Try.prog 24 #[.agg #[.slice A m c, .int .i64 (N : Int)], .agg #[.slice B m2 c2, .int .i64 nb]] wa fun e w' => ∃ D d, e = .returned (.agg #[.slice D m d, .int .i64 nb]) ∧ IR w' w'.heap.size D m d (thenM xs ys nb) ∧ Below wa.heap.size wa w' := by
  refine (rthen_map wa A m c xs N B m2 c2 ys nb h.ix h.iy (by have := h.hm; omega) (by have := h.hm2; omega) h.nb0 (by have := h.nb1; omega) h.xb).mono fun e w' ⟨v, he, h1, h2⟩ => ?_
  obtain ⟨D, d, hv⟩ := own_sl h1
  have hi := h1.se
  rw [length_thenM, h.ix.len.1] at hv
  subst hv
  exact ⟨D, d, he, hi, h2⟩
theorem AB.cBack (h : AB wa A m c xs N B m2 c2 ys nb) : Calls Try.prog 25 #[.agg #[.slice A m c, .int .i64 (N : Int)]] wa fun e w' => ∃ T, e = .returned (.agg #[.slice (some ⟨T, 0, none⟩) N N, .int .i64 (m : Int)]) ∧ IR w' w'.heap.size (some ⟨T, 0, none⟩) N N (backM xs N) ∧ Below wa.heap.size wa w' :=
  (back_map wa A m c xs N h.ix h.may).mono fun e w' ⟨T, _, he, h1, h2⟩ => ⟨T, he, mapOut_ir h1 (length_backM _ _) (by have := h.hN; omega), h2⟩
theorem AB.rBack (h : AB wa A m c xs N B m2 c2 ys nb) : Calls Try.prog 26 #[.agg #[.slice A m c, .int .i64 (N : Int)]] wa fun e w' => ∃ D d, e = .returned (.agg #[.slice D N d, .int .i64 (m : Int)]) ∧ IR w' w'.heap.size D N d (backM xs N) ∧ Below wa.heap.size wa w' := by
  refine (rback_map wa A m c xs N h.ix (by have := h.hN; omega) (by have := h.hm; omega) h.rise).mono fun e w' ⟨v, he, h1, h2⟩ => ?_
  obtain ⟨D, d, hv⟩ := own_sl h1
  have hi := h1.se
  rw [length_backM] at hv
  subst hv
  exact ⟨D, d, he, hi, h2⟩
end
theorem same_yes (wq : World) (A : Option Addr) (n cap : Nat) (xs : List Int) (na : Int) (B : Option Addr) (c : Nat) (h1 : IR wq wq.heap.size A n cap xs) (h2 : IR wq wq.heap.size B n c xs) :
    Calls Try.prog 12 #[.agg #[.slice A n cap, .int .i64 na], .agg #[.slice B n c, .int .i64 na]] wq fun e w' => e = .returned (.bool true) ∧ Below wq.heap.size wq w' := by
  have := rsameMap_any wq A n cap xs na B n c xs na h1 h2
  rwa [decide_eq_true (show xs = xs ∧ na = na from ⟨rfl, rfl⟩)] at this
end Go.Proofs.Ytnnnpjdlhdkeaaa
