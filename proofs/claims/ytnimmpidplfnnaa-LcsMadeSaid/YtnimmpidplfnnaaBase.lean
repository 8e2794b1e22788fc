/-
  Small general laws: a whole row stored, a world behind it.
-/
import Derived.Test.YtnimmpidplfnnaaRows
import Derived.WalkKit
import Derived.WalkSpells
import Derived.WalkLawsBesides
import Derived.WalkSmall
import Derived.Handy
import Derived.Deep.QuietTactic
import Derived.BigQuiet
import Derived.RegionTactic
import Derived.BigRegion
import Derived.StillTailTactics
import Derived.Lib.Hide
import Derived.Laws.Rows
import Derived.Laws.CopyOwn
import Derived.Laws.CopyRow
import Derived.Deep.MidRow
import Derived.Deep.WholeRow
import Derived.Deep.Cut
import Derived.Deep.RegionLaw
namespace Go.Proofs.Ytnimmpidplfnnaa
open Go.RowKit

theorem run_storeVar_row {P : Program} (w : World) (g : Nat) (ty t : TypeId) (cur cells : Array Value) (hg : w.heap[g]? = some (.cells cur t)) (hs : cur.size = cells.size)
    (hi : (P.info? ty).map (·.size) = some cells.size) (h1 : ∀ v ∈ cells.toList, v.oneCell' = true) :
    (storeVar ty ⟨g, 0, none⟩ (.agg cells)).run P w = .ok () (w.setRow g cells) := by
  have := run_storeCells_at P g 0 t cells.toList 0 cur w hg (by simp; omega) h1
  cases hq : P.info? ty with
  | none => simp [hq] at hi
  | some i =>
    have hs' : cells.size = i.size := by simp [hq] at hi; omega
    simp [storeVar, sizeOf, typeInfo, hq, Value.cells, hs', this]
    congr 1
    have : List.drop i.size cur.toList = [] := by rw [List.drop_eq_nil_iff]; simp; omega
    rw [this]; simp
theorem wp_store_row {P : Program} {op : Oper} {a : Act} {w : World} {K : Act → World → Prop} {Q : Exit → Act → World → Prop} (ty : TypeId) (x y : Operand) (ho : op.op = .store ty x y)
    (g : Nat) (t : TypeId) (cur cells : Array Value) (hx : a.eval x = .pointer (some ⟨g, 0, none⟩)) (hy : a.eval y = .agg cells) (hg : w.heap[g]? = some (.cells cur t)) (hs : cur.size = cells.size)
    (hi : (P.info? ty).map (·.size) = some cells.size) (h1 : ∀ v ∈ cells.toList, v.oneCell' = true)
    (h : K (a.put op.dst undef) (w.setRow g cells)) : op.wp P a w K Q := by
  unfold Oper.wp execOp
  simp only [ho, hx, hy, Instr.storeAt, Instr.sureAddr, Sem.run_bind, Sem.run_pure, Result.andThen_ok, run_storeVar_row w g ty t cur cells hg hs hi h1]
  exact h
theorem wpList_store_row {P : Program} {ops : Array Oper} {rest : List Oper} {op : Oper} {a : Act} {w : World} {Q : Exit → Act → World → Prop} (hgd : op.guard = none) (ty : TypeId) (x y : Operand) (ho : op.op = .store ty x y)
    (g : Nat) (t : TypeId) (cur cells : Array Value) (hx : a.eval x = .pointer (some ⟨g, 0, none⟩)) (hy : a.eval y = .agg cells) (hg : w.heap[g]? = some (.cells cur t)) (hs : cur.size = cells.size)
    (hi : (P.info? ty).map (·.size) = some cells.size) (h1 : ∀ v ∈ cells.toList, v.oneCell' = true)
    (h : wpList P ops Q rest (a.put op.dst undef) (w.setRow g cells)) : wpList P ops Q (op :: rest) a w :=
  wpList_plain hgd fun _ hK => wp_store_row ty x y ho g t cur cells hx hy hg hs hi h1 (hK _ _ h)


/-- A copy into a block that is known whole, as one step of a region that draws its order. -/
theorem step_copy_row {P : Program} {ops : Array Oper} {o : Oper} {a : Act} {w : World} {K : Act → World → Prop} {Q : Exit → Act → World → Prop} {E : Prop}
    (hgd : o.guard = none) (d s : Operand) (dT sT : TypeId) (ho : o.op = .call { callee := .builtin .copy, args := #[d, s], argTypes := #[dT, sT] })
    (elem : TypeId) (hu : P.underlying dT = some (.slice elem)) (hsz : (P.info? elem).map (·.size) = some 1) (g off dLen dCap : Nat) (ad : Addr) (sLen sCap : Nat)
    (hd : a.eval d = .slice (some ⟨g, off, none⟩) dLen dCap) (hs : a.eval s = .slice (some ad) sLen sCap) (cur : Array Value) (t : TypeId) (hg : w.heap[g]? = some (.cells cur t))
    (cs : List Value) (hn : cs.length = sLen.min dLen) (hsrc : ∀ (j : Nat) (v : Value), cs[j]? = some v → w.cell? (ad.add j) = some v) (hfit : off + cs.length ≤ cur.size) (h1 : ∀ v ∈ cs, v.oneCell' = true)
    (h : K (a.put o.dst (goInt cs.length)) (w.setRow g (cur.toList.take off ++ (cs ++ cur.toList.drop (off + cs.length))).toArray)) :
    if Region.wanted o (yielded ops a.tmps) = true then Oper.wp P o a w K Q else E := by
  have hw : Region.wanted o (yielded ops a.tmps) = true := by simp [Region.wanted, hgd]
  rw [if_pos hw]
  have hrun := run_copy_row P w dT sT o.type elem g off dLen dCap ad sLen sCap cur t cs hu hsz hg hn hsrc hfit h1
  unfold Oper.wp
  simp [execOp, ho, resolve, invoke, builtin, hd, hs, hrun, Result.andThen]
  exact h

/-! Words of 32 bits in a block of their own. -/
def U (l : List Int) : List Value := l.map (Value.int .u32)
theorem length_U (l : List Int) : (U l).length = l.length := by simp [U]
theorem oneCell_U (l : List Int) : ∀ v ∈ U l, v.oneCell' = true := by
  intro v hv; simp [U] at hv; obtain ⟨n, _, rfl⟩ := hv; rfl

theorem oneCell_Ua (l : List Int) : ∀ v ∈ (U l).toArray.toList, v.oneCell' = true := by
  intro v hv; exact oneCell_U l v (by simpa using hv)

/-- A block of so many 32-bit words, known whole. -/
def Arr (w : World) (b : Nat) (t : TypeId) (xs : List Int) : Prop := w.heap[b]? = some (.cells (U xs).toArray t)
theorem Arr.cell {w : World} {b : Nat} {t : TypeId} {xs : List Int} (h : Arr w b t xs) (j : Nat) (hj : j < xs.length) : w.cell? ⟨b, j, none⟩ = some (.int .u32 (xs.getD j 0)) := by
  rw [cell_of_row w b j _ t _ h]; simp [U, hj, List.getD_eq_getElem?_getD]
theorem Arr.frozen {w : World} {b : Nat} {t : TypeId} {xs : List Int} (h : Arr w b t xs) (j : Nat) : w.frozen? ⟨b, j, none⟩ = false :=
  frozen_of_row w b j _ t h
theorem Arr.set {w : World} {b : Nat} {t : TypeId} {xs : List Int} (h : Arr w b t xs) (j : Nat) (v : Int) : Arr (w.setCell ⟨b, j, none⟩ (.int .u32 v)) b t (xs.set j v) := by
  unfold Arr; rw [heap_setCell_same w b j _ t _ h]; simp [U, List.map_set]
theorem Arr.other {w : World} {b : Nat} {t : TypeId} {xs : List Int} (h : Arr w b t xs) (a : Addr) (v : Value) (hne : b ≠ a.block) : Arr (w.setCell a v) b t xs := by
  unfold Arr; rw [heap_setCell_other w a b v hne]; exact h
theorem Arr.drewN {w : World} {b : Nat} {t : TypeId} {xs : List Int} (h : Arr w b t xs) (n : Nat) : Arr (w.drewN n) b t xs := h
theorem Arr.drew {w : World} {b : Nat} {t : TypeId} {xs : List Int} (h : Arr w b t xs) : Arr w.drew b t xs := h
theorem Arr.lt {w : World} {b : Nat} {t : TypeId} {xs : List Int} (h : Arr w b t xs) : b < w.heap.size := by
  unfold Arr at h; exact (Array.getElem?_eq_some_iff.1 h).1
theorem Arr.below {w w' : World} {B b : Nat} {t : TypeId} {xs : List Int} (h : Arr w b t xs) (hb : Below B w w') (hlt : b < B) : Arr w' b t xs := by
  unfold Arr; rw [hb.block b hlt]; exact h
theorem Arr.setRow {w : World} {b : Nat} {t : TypeId} {xs : List Int} (h : Arr w b t xs) (ys : List Int) : Arr (w.setRow b (U ys).toArray) b t ys := setRow_heap w b _ _ t _ h
theorem Arr.setRow_other {w : World} {b g : Nat} {t : TypeId} {xs : List Int} (h : Arr w b t xs) (ys : Array Value) (hne : b ≠ g) : Arr (w.setRow g ys) b t xs := by
  unfold Arr; rw [Go.setRow_other w g b ys hne]; exact h
end Go.Proofs.Ytnimmpidplfnnaa
