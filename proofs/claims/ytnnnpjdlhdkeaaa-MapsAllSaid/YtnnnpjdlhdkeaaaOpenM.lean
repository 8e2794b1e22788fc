/-
  Arguments opened: a map of places, by value.
-/
import Derived.Test.YtnnnpjdlhdkeaaaMaA
import Derived.OpenShut
import Derived.ProofKit
import Derived.ChangeArms
import Derived.Deep.Slices
import Derived.ChangeSlices
namespace Go.Proofs.Ytnnnpjdlhdkeaaa
open Go.ChangeShapes Go.WideShapes Go.ChangeAt Go.RowKit

theorem one_atM {l : List Value} {j : Nat} {x : Value} (h : (l.drop j).take 1 = [x]) : l[j]? = some x := by
  have h1 : (l.drop j)[0]? = some x := by
    cases hd : l.drop j with
    | nil => rw [hd] at h; cases h
    | cons a t => rw [hd] at h; simp at h; subst h; rfl
  rw [List.getElem?_drop] at h1; exact h1
theorem cells_mapM : Try.prog.cellsOf 24 = 2 := by kernel_rfl
theorem cells_intM : Try.prog.cellsOf 3 = 1 := by kernel_rfl
theorem cells_intsM : Try.prog.cellsOf 22 = 1 := by kernel_rfl
set_option maxRecDepth 100000 in
theorem ir_of_trod {H : Type} {enc : TypeId × Value → H} {W : World} {fuel : Nat} {k : Value} {y : DataW H × List MemPlace} (h : DataW.trod enc Try.prog W 0 (fun _ => true) true fuel 22 [k] = some y) : ∃ A n c xs, k = .slice A n c ∧ IR W W.heap.size A n c xs := by
  rcases open_ints Try.underlying22 Try.underlying3 cells_intM h with ⟨hcs, _⟩ | ⟨a, len, cap, zs, hcs, _, hl, hm, hz, _, hcell, _⟩
  · injection hcs with hcs _
    subst hcs
    exact ⟨none, 0, 0, [], rfl, none, 0, rfl, Nat.le_refl _, by unfold maxLen; omega, .inl rfl⟩
  · injection hcs with hcs _
    subst hcs
    simp only [if_true] at hz
    have hzl : (zs.take len).length = len := by rw [List.length_take]; omega
    refine ⟨some a, len, cap, zs.take len, rfl, some a, cap, by rw [hzl], by rw [hzl]; exact hl, hm, ?_⟩
    by_cases h0 : len = 0
    · subst h0; exact .inl rfl
    · obtain ⟨b, off, rfl, hc⟩ := ints_at hcell (by omega)
      refine .inr ⟨b, off, rfl, block_lt_of_cell (hc 0 (by omega)), fun j u hj => ?_⟩
      rw [all_encInt] at hj
      have hjl : j < len := by
        have := (List.getElem?_eq_some_iff.1 hj).1
        rwa [List.length_map, hzl] at this
      rw [List.getElem?_map, List.getElem?_take_of_lt hjl] at hj
      rw [hc j (by omega), List.getD_eq_getElem?_getD]
      cases hz' : zs[j]? with
      | none => rw [hz'] at hj; cases hj
      | some x => rw [hz'] at hj; exact hj
set_option maxRecDepth 100000 in
theorem open_map {H : Type} {enc : TypeId × Value → H} {W : World} {base : Nat} {v : Value} {d : DataW H} {p : List MemPlace} (hval : Value.okWide Try.prog W .any base 24 v) (h : DataW.Trod enc Try.prog W 0 (fun _ => true) true 24 v d p) :
    ∃ A n c xs k, v = .agg #[.slice A n c, .int .i64 k] ∧ IR W W.heap.size A n c xs := by
  obtain ⟨cs, rfl, hsz⟩ := okWide_struct Try.underlying24 hval
  obtain ⟨fuel, hf⟩ := h
  obtain ⟨xs, n, _, _, hl, hlen, hg⟩ := DataW.trod_struct Try.underlying24 hf
  have hx : ∀ j, j < 2 → ∃ y, xs[j]? = some y := fun j hj => ⟨_, List.getElem?_eq_getElem (by rw [hlen]; exact hj)⟩
  obtain ⟨y0, e0⟩ := hx 0 (by omega)
  obtain ⟨y1, e1⟩ := hx 1 (by omega)
  rw [cells_mapM] at hsz
  obtain ⟨l⟩ := cs
  match l, hsz with
  | [u0, u1], _ =>
    obtain ⟨m, a1, _, w1⟩ := DataW.trod_int Try.underlying3 ((hg 1 _ rfl).trans e1)
    have h0 : DataW.trod enc Try.prog W 0 (fun _ => true) true n 22 ((([u0, u1] : List Value).drop 0).take (Try.prog.cellsOf 22)) = some y0 := (hg 0 _ rfl).trans e0
    rw [cells_intsM] at h0
    obtain ⟨A, len, cap, zs, hk, hir⟩ := ir_of_trod h0
    have k1 : (([u0, u1] : List Value).drop 1).take (Try.prog.cellsOf 3) = [.int .i64 m] := a1
    rw [cells_intM] at k1
    have b1 := one_atM k1
    simp at b1
    subst b1
    subst hk
    exact ⟨A, len, cap, zs, m, rfl, hir⟩
end Go.Proofs.Ytnnnpjdlhdkeaaa
