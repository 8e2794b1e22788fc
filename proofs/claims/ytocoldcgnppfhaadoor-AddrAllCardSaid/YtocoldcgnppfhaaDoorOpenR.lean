/-
  Arguments opened: a reference, by value.
-/
import Derived.Test.YtocoldcgnppfhaaDoorAddrU
import Derived.OpenShut
import Derived.ProofKit
import Derived.ChangeArms
namespace Go.Proofs.YtocoldcgnppfhaaDoor
open Go.ChangeShapes Go.WideShapes Go.ChangeAt Go.RowKit

theorem one_at {l : List Value} {j : Nat} {x : Value} (h : (l.drop j).take 1 = [x]) : l[j]? = some x := by
  have h1 : (l.drop j)[0]? = some x := by
    cases hd : l.drop j with
    | nil => rw [hd] at h; cases h
    | cons a t => rw [hd] at h; simp at h; subst h; rfl
  rw [List.getElem?_drop] at h1; exact h1
theorem cells_ref : Tryd.prog.cellsOf 23 = 5 := by kernel_rfl
theorem cells_string : Tryd.prog.cellsOf 9 = 1 := by kernel_rfl
theorem cells_int : Tryd.prog.cellsOf 3 = 1 := by kernel_rfl
theorem cells_bool : Tryd.prog.cellsOf 4 = 1 := by kernel_rfl
theorem open_ref {H : Type} {enc : TypeId × Value → H} {W : World} {base : Nat} {v : Value} {d : DataW H} {p : List MemPlace} (hval : Value.okWide Tryd.prog W .any base 23 v) (h : DataW.Trod enc Tryd.prog W 0 (fun _ => true) true 23 v d p) :
    ∃ (s : ByteArray) (c r : Int) (ac ar : Bool), v = .agg #[.string s, .int .i64 c, .int .i64 r, .bool ac, .bool ar] ∧ s.size ≤ maxLen := by
  obtain ⟨cs, rfl, hsz⟩ := okWide_struct Tryd.underlying23 hval
  obtain ⟨fuel, hf⟩ := h
  obtain ⟨xs, n, _, _, hl, hlen, hg⟩ := DataW.trod_struct Tryd.underlying23 hf
  have hx : ∀ j, j < 5 → ∃ y, xs[j]? = some y := fun j hj => ⟨_, List.getElem?_eq_getElem (by rw [hlen]; exact hj)⟩
  obtain ⟨y0, e0⟩ := hx 0 (by omega)
  obtain ⟨y1, e1⟩ := hx 1 (by omega)
  obtain ⟨y2, e2⟩ := hx 2 (by omega)
  obtain ⟨y3, e3⟩ := hx 3 (by omega)
  obtain ⟨y4, e4⟩ := hx 4 (by omega)
  obtain ⟨s, a0, _, z0⟩ := DataW.trod_string Tryd.underlying9 ((hg 0 _ rfl).trans e0)
  obtain ⟨c, a1, _, _⟩ := DataW.trod_int Tryd.underlying3 ((hg 1 _ rfl).trans e1)
  obtain ⟨r, a2, _, _⟩ := DataW.trod_int Tryd.underlying3 ((hg 2 _ rfl).trans e2)
  obtain ⟨ac, a3, _⟩ := DataW.trod_bool Tryd.underlying4 ((hg 3 _ rfl).trans e3)
  obtain ⟨ar, a4, _⟩ := DataW.trod_bool Tryd.underlying4 ((hg 4 _ rfl).trans e4)
  have k0 : (cs.toList.drop 0).take (Tryd.prog.cellsOf 9) = [.string s] := a0
  have k1 : (cs.toList.drop 1).take (Tryd.prog.cellsOf 3) = [.int .i64 c] := a1
  have k2 : (cs.toList.drop 2).take (Tryd.prog.cellsOf 3) = [.int .i64 r] := a2
  have k3 : (cs.toList.drop 3).take (Tryd.prog.cellsOf 4) = [.bool ac] := a3
  have k4 : (cs.toList.drop 4).take (Tryd.prog.cellsOf 4) = [.bool ar] := a4
  rw [cells_string] at k0
  rw [cells_int] at k1 k2
  rw [cells_bool] at k3 k4
  have b0 := one_at k0
  have b1 := one_at k1
  have b2 := one_at k2
  have b3 := one_at k3
  have b4 := one_at k4
  rw [cells_ref] at hsz
  refine ⟨s, c, r, ac, ar, ?_, z0⟩
  congr 1
  apply Array.ext'
  obtain ⟨l⟩ := cs
  match l, hsz with
  | [u0, u1, u2, u3, u4], _ =>
    simp at b0 b1 b2 b3 b4
    rw [b0, b1, b2, b3, b4]
end Go.Proofs.YtocoldcgnppfhaaDoor
