/-
  Texts of layers, put together.
-/
import Derived.Test.YtpnnchjmaggmpaaGreatDoorRows
import Derived.WalkKit
import Derived.WalkSpells
import Derived.WalkLawsBesides
import Derived.WalkSmall
import Derived.Handy
import Derived.Deep.QuietTactic
import Derived.BigQuiet
import Derived.RegionTactic
import Derived.BigRegion
import Derived.StillTailTactics
import Derived.Lib.Hide
import Derived.Laws.Rows
import Derived.Laws.CopyOwn
import Derived.Laws.CopyRow
import Derived.Deep.MidRow
import Derived.Deep.WholeRow
import Derived.Deep.Cut
import Derived.Deep.RegionLaw
import Derived.Laws.BytesArg
import Derived.MapKept
import Derived.Shelf.Strings.Builder1
import Derived.Shelf.Strings.Builder2
import Derived.Shelf.Small.Strs
import Derived.Shelf.Strconv.Atoi
import Derived.Shelf.Strconv.Itoa0
import Derived.Shelf.Strconv.Itoa1
import Derived.Shelf.LaysM
import Derived.Shelf.Strconv.Itoa2
import Derived.Shelf.Strconv.Itoa3
import Derived.Shelf.Strconv.AtoiErrFast
import Derived.Shelf.Strconv.ParseIntEmpty
import Derived.Shelf.Strconv.AtoiFail
import Derived.Shelf.Strconv.Clone
import Derived.Shelf.Strconv.SyntaxError
import Derived.Shelf.LaysC
import Derived.Shelf.Strconv.ToError
import Derived.Shelf.Strconv.Lower
import Derived.Shelf.Strconv.ParseUint10
import Derived.Shelf.Strconv.ParseUint10Empty
import Derived.Shelf.Strconv.ParseUint10Any
import Derived.Shelf.Strconv.ParseInt10
import Derived.Shelf.Strconv.AtoiLong
import Derived.Shelf.Strconv.AtoiInnerAll
import Derived.Shelf.Strconv.RangeError
import Derived.Shelf.Strconv.ToErrorRange
import Derived.Shelf.Strconv.AtoiAll
import Derived.Shelf.Strconv.ErrVarAll
import Derived.Shelf.Strings.Search1
import Derived.Shelf.Strings.Search2
import Derived.Shelf.Strings.Search3
import Derived.Shelf.Strings.Count
import Derived.Shelf.Strings.Shaped
import Derived.Shelf.Strings.Prefix
import Derived.Shelf.Strings.Split
import Derived.Shelf.Strings.Replace
import Derived.Shelf.Unicode.DecodeSlow
import Derived.Test.YtpnnchjmaggmpaaGreatDoorProg
import Derived.Laws.ResultCell
import Derived.Deep.AppendSrc
import Derived.Deep.RegionHeld3
import Derived.Lib.LaidTab
namespace Go.Proofs.YtpnnchjmaggmpaaGreatDoor
open Go.RowKit

theorem run_storeVar_row {P : Program} (w : World) (g : Nat) (ty t : TypeId) (cur cells : Array Value) (hg : w.heap[g]? = some (.cells cur t)) (hs : cur.size = cells.size)
    (hi : (P.info? ty).map (·.size) = some cells.size) (h1 : ∀ v ∈ cells.toList, v.oneCell' = true) :
    (storeVar ty ⟨g, 0, none⟩ (.agg cells)).run P w = .ok () (w.setRow g cells) := by
  have := run_storeCells_at P g 0 t cells.toList 0 cur w hg (by simp; omega) h1
  cases hq : P.info? ty with
  | none => simp [hq] at hi
  | some i =>
    have hs' : cells.size = i.size := by simp [hq] at hi; omega
    simp [storeVar, sizeOf, typeInfo, hq, Value.cells, hs', this]
    congr 1
    have : List.drop i.size cur.toList = [] := by rw [List.drop_eq_nil_iff]; simp; omega
    rw [this]; simp
theorem wp_store_row {P : Program} {op : Oper} {a : Act} {w : World} {K : Act → World → Prop} {Q : Exit → Act → World → Prop} (ty : TypeId) (x y : Operand) (ho : op.op = .store ty x y)
    (g : Nat) (t : TypeId) (cur cells : Array Value) (hx : a.eval x = .pointer (some ⟨g, 0, none⟩)) (hy : a.eval y = .agg cells) (hg : w.heap[g]? = some (.cells cur t)) (hs : cur.size = cells.size)
    (hi : (P.info? ty).map (·.size) = some cells.size) (h1 : ∀ v ∈ cells.toList, v.oneCell' = true)
    (h : K (a.put op.dst undef) (w.setRow g cells)) : op.wp P a w K Q := by
  unfold Oper.wp execOp
  simp only [ho, hx, hy, Instr.storeAt, Instr.sureAddr, Sem.run_bind, Sem.run_pure, Result.andThen_ok, run_storeVar_row w g ty t cur cells hg hs hi h1]
  exact h
theorem wpList_store_row {P : Program} {ops : Array Oper} {rest : List Oper} {op : Oper} {a : Act} {w : World} {Q : Exit → Act → World → Prop} (hgd : op.guard = none) (ty : TypeId) (x y : Operand) (ho : op.op = .store ty x y)
    (g : Nat) (t : TypeId) (cur cells : Array Value) (hx : a.eval x = .pointer (some ⟨g, 0, none⟩)) (hy : a.eval y = .agg cells) (hg : w.heap[g]? = some (.cells cur t)) (hs : cur.size = cells.size)
    (hi : (P.info? ty).map (·.size) = some cells.size) (h1 : ∀ v ∈ cells.toList, v.oneCell' = true)
    (h : wpList P ops Q rest (a.put op.dst undef) (w.setRow g cells)) : wpList P ops Q (op :: rest) a w :=
  wpList_plain hgd fun _ hK => wp_store_row ty x y ho g t cur cells hx hy hg hs hi h1 (hK _ _ h)


def U (l : List Int) : List Value := l.map (Value.int .u32)
def Arr (w : World) (b : Nat) (t : TypeId) (xs : List Int) : Prop := w.heap[b]? = some (.cells (U xs).toArray t)
theorem Arr.cell {w : World} {b : Nat} {t : TypeId} {xs : List Int} (h : Arr w b t xs) (j : Nat) (hj : j < xs.length) : w.cell? ⟨b, j, none⟩ = some (.int .u32 (xs.getD j 0)) := by
  rw [cell_of_row w b j _ t _ h]; simp [U, hj, List.getD_eq_getElem?_getD]
theorem Arr.frozen {w : World} {b : Nat} {t : TypeId} {xs : List Int} (h : Arr w b t xs) (j : Nat) : w.frozen? ⟨b, j, none⟩ = false :=
  frozen_of_row w b j _ t h
theorem Arr.set {w : World} {b : Nat} {t : TypeId} {xs : List Int} (h : Arr w b t xs) (j : Nat) (v : Int) : Arr (w.setCell ⟨b, j, none⟩ (.int .u32 v)) b t (xs.set j v) := by
  unfold Arr; rw [heap_setCell_same w b j _ t _ h]; simp [U, List.map_set]
theorem Arr.other {w : World} {b : Nat} {t : TypeId} {xs : List Int} (h : Arr w b t xs) (a : Addr) (v : Value) (hne : b ≠ a.block) : Arr (w.setCell a v) b t xs := by
  unfold Arr; rw [heap_setCell_other w a b v hne]; exact h
theorem Arr.drewN {w : World} {b : Nat} {t : TypeId} {xs : List Int} (h : Arr w b t xs) (n : Nat) : Arr (w.drewN n) b t xs := h
theorem Arr.drew {w : World} {b : Nat} {t : TypeId} {xs : List Int} (h : Arr w b t xs) : Arr w.drew b t xs := h
theorem Arr.lt {w : World} {b : Nat} {t : TypeId} {xs : List Int} (h : Arr w b t xs) : b < w.heap.size := by
  unfold Arr at h; exact (Array.getElem?_eq_some_iff.1 h).1
theorem Arr.below {w w' : World} {B b : Nat} {t : TypeId} {xs : List Int} (h : Arr w b t xs) (hb : Below B w w') (hlt : b < B) : Arr w' b t xs := by
  unfold Arr; rw [hb.block b hlt]; exact h
theorem Arr.setRow {w : World} {b : Nat} {t : TypeId} {xs : List Int} (h : Arr w b t xs) (ys : List Int) : Arr (w.setRow b (U ys).toArray) b t ys := setRow_heap w b _ _ t _ h
theorem Arr.setRow_other {w : World} {b g : Nat} {t : TypeId} {xs : List Int} (h : Arr w b t xs) (ys : Array Value) (hne : b ≠ g) : Arr (w.setRow g ys) b t xs := by
  unfold Arr; rw [Go.setRow_other w g b ys hne]; exact h
end Go.Proofs.YtpnnchjmaggmpaaGreatDoor

namespace Go.Proofs.YtpnnchjmaggmpaaGreatDoor
open Go.RowKit

structure Elem (P : Program) (t e : TypeId) (size bytes : Nat) : Prop where
  und : P.underlying t = some (.slice e)
  inf : ∃ z : Value, (P.info? e).map (fun i => (i.zero, i.size, i.bytes)) = some (some z, size, bytes) ∧ z.cells.size = size
  pos : 0 < size

structure Enc (α : Type) (size : Nat) where
  f : α → List Value
  len : ∀ a, (f a).length = size
  one : ∀ a, ∀ u ∈ f a, u.oneCell' = true

def Enc.all {α : Type} {size : Nat} (E : Enc α size) (xs : List α) : List Value := xs.flatMap E.f
theorem Enc.length_all {α : Type} {size : Nat} (E : Enc α size) (xs : List α) : (E.all xs).length = xs.length * size := by
  unfold Enc.all
  induction xs with
  | nil => simp
  | cons a l ih => rw [List.flatMap_cons, List.length_append, ih, E.len, List.length_cons, Nat.add_mul]; omega
theorem Enc.all_append {α : Type} {size : Nat} (E : Enc α size) (xs ys : List α) : E.all (xs ++ ys) = E.all xs ++ E.all ys := by
  unfold Enc.all; exact List.flatMap_append ..
theorem Enc.one_all {α : Type} {size : Nat} (E : Enc α size) (xs : List α) : ∀ u ∈ E.all xs, u.oneCell' = true := by
  intro u hu; unfold Enc.all at hu; rw [List.mem_flatMap] at hu; obtain ⟨a, _, h⟩ := hu; exact E.one a u h
theorem Enc.at {α : Type} {size : Nat} (E : Enc α size) (xs : List α) (i j : Nat) (a : α) (ha : xs[i]? = some a) (hj : j < size) : (E.all xs)[i * size + j]? = (E.f a)[j]? := by
  unfold Enc.all
  induction xs generalizing i with
  | nil => simp at ha
  | cons b l ih =>
    rw [List.flatMap_cons]
    cases i with
    | zero =>
      simp at ha; subst ha
      rw [Nat.zero_mul, Nat.zero_add, List.getElem?_append_left (by rw [E.len]; exact hj)]
    | succ i =>
      have : (i + 1) * size = i * size + size := Nat.succ_mul i size
      rw [List.getElem?_append_right (by rw [E.len]; omega), E.len]
      have e : (i + 1) * size + j - size = i * size + j := by omega
      rw [e]; exact ih i (by simpa using ha)

def Own {α : Type} {size : Nat} (E : Enc α size) (e : TypeId) (w : World) (base : Nat) (v : Value) (xs : List α) : Prop := w.ownsRow base e size v xs.length (E.all xs)
theorem Own.nil {α : Type} {size : Nat} (E : Enc α size) (e : TypeId) (w : World) (base : Nat) : Own E e w base (.slice none 0 0) ([] : List α) := World.ownsRow_nil w base e size
theorem Own.alloc {α : Type} {size : Nat} {E : Enc α size} {e : TypeId} {w : World} {base : Nat} {v : Value} {xs : List α} (h : Own E e w base v xs) (o : Obj) : Own E e (w.alloc o) base v xs := World.ownsRow.alloc h o
theorem Own.drew {α : Type} {size : Nat} {E : Enc α size} {e : TypeId} {w : World} {base : Nat} {v : Value} {xs : List α} (h : Own E e w base v xs) : Own E e w.drew base v xs := h
theorem Own.drewN {α : Type} {size : Nat} {E : Enc α size} {e : TypeId} {w : World} {base : Nat} {v : Value} {xs : List α} (h : Own E e w base v xs) (n : Nat) : Own E e (w.drewN n) base v xs := h
theorem Own.mono {α : Type} {size : Nat} {E : Enc α size} {e : TypeId} {w : World} {base base' : Nat} {v : Value} {xs : List α} (h : Own E e w base v xs) (hb : base' ≤ base) : Own E e w base' v xs := by
  refine ⟨h.1, ?_⟩
  rcases h.2 with h | ⟨g, cap, cur, h1, h2, h3⟩
  · exact .inl h
  · exact .inr ⟨g, cap, cur, h1, by omega, h3⟩
theorem Own.below {α : Type} {size : Nat} {E : Enc α size} {e : TypeId} {w w' : World} {base B : Nat} {v : Value} {xs : List α} (h : Own E e w base v xs) (hb : Below B w w') (hB : w.heap.size ≤ B) : Own E e w' base v xs := by
  refine ⟨h.1, ?_⟩
  rcases h.2 with h | ⟨g, cap, cur, h1, h2, h3, h4⟩
  · exact .inl h
  · refine .inr ⟨g, cap, cur, h1, h2, ?_, h4⟩
    rw [hb.block g (by have := (Array.getElem?_eq_some_iff.1 h3).1; omega)]; exact h3
theorem Own.shape {α : Type} {size : Nat} {E : Enc α size} {e : TypeId} {w : World} {base : Nat} {v : Value} {xs : List α} (h : Own E e w base v xs) :
    (v = .slice none 0 0 ∧ xs = []) ∨ ∃ g cap, v = .slice (some ⟨g, 0, none⟩) xs.length cap ∧ base ≤ g ∧ g < w.heap.size ∧ xs.length ≤ cap ∧ cap ≤ maxLen := by
  rcases h.2 with ⟨h1, h2⟩ | ⟨g, cap, cur, h1, h2, h3, h4, h5, _⟩
  · exact .inl ⟨h1, List.length_eq_zero_iff.1 h2⟩
  · exact .inr ⟨g, cap, h1, h2, (Array.getElem?_eq_some_iff.1 h3).1, h4, h5⟩
theorem Own.cells {α : Type} {size : Nat} {E : Enc α size} {e : TypeId} {w : World} {base g cap n : Nat} {xs : List α} (h : Own E e w base (.slice (some ⟨g, 0, none⟩) n cap) xs) (j : Nat) (u : Value) (hj : (E.all xs)[j]? = some u) :
    w.cell? ⟨g, j, none⟩ = some u := by
  have := World.ownsRow.cells h (g := g) rfl j u hj
  rw [Addr.add_mid, Nat.zero_add] at this; exact this

theorem wpList_app {P : Program} {α : Type} {size t e bytes : Nat} {w : World} {ops : Array Oper} {rest : List Oper} {o : Oper} {a : Act} {Q : Exit → Act → World → Prop} (EL : Elem P t e size bytes) (E : Enc α size)
    (hgd : o.guard = none) (s x : Operand) (ho : o.op = .call { callee := .builtin .append, args := #[s, x], argTypes := #[t, t] }) (base : Nat) (v : Value) (xs : List α)
    (hs : a.eval s = v) (hown : Own E e w base v xs) (ad : Addr) (m c : Nat) (ys : List α) (hx : a.eval x = .slice (some ad) m c) (hl : ys.length = m)
    (hc : ∀ (j : Nat) (u : Value), (E.all ys)[j]? = some u → w.cell? (ad.add j) = some u) (hb : (xs.length + m) * bytes ≤ 140737488355328) (hb2 : xs.length + m ≤ maxLen) (hbase : base ≤ w.heap.size)
    (h : ∀ (v' : Value) (w' : World), Own E e w' base v' (xs ++ ys) → Below base w w' → wpList P ops Q rest (a.put o.dst v') w') : wpList P ops Q (o :: rest) a w := by
  obtain ⟨z, hi, hz⟩ := EL.inf
  obtain ⟨i, hi1, hi2, hi3, hi4⟩ := info_parts hi
  refine wpList_append_own w hgd s x t ho base e i z size bytes EL.und hi1 hi2 hi3 hi4 hz EL.pos v xs.length (E.all xs) hs hown ad m c (E.all ys) hx (by rw [E.length_all, hl]) hc (E.one_all ys) hb2 hb hbase ?_
  intro v' w' h1 h2 _
  refine h v' w' ?_ ?_
  · unfold Own; rw [E.all_append, List.length_append, hl]; exact h1
  · refine Below.grown (Below.refl _ _) h2 hbase ?_
    intro k hk
    exact (World.ownsRow.lt hown k hk).1

theorem cells_new {w : World} (C : Array Value) (t : TypeId) (l : List Value) (hC : C.toList = l) (j : Nat) (u : Value) (hj : l[j]? = some u) : (w.alloc (.cells C t)).cell? ((⟨w.heap.size, 0, none⟩ : Addr).add j) = some u := by
  rw [Addr.add_mid, Nat.zero_add, World.cell?_alloc_at _ _ _ _ rfl]
  subst hC
  simpa using hj

def encInt (k : IntKind) : Enc Int 1 := { f := fun n => [.int k n], len := fun _ => rfl, one := fun _ u hu => by simp at hu; subst hu; rfl }
theorem all_encInt (k : IntKind) (l : List Int) : (encInt k).all l = l.map (Value.int k) := by
  unfold Enc.all encInt
  induction l with
  | nil => rfl
  | cons a l ih => rw [List.flatMap_cons, List.map_cons, ih]; rfl
theorem getElem?_map_int (k : IntKind) (xs : List Int) (i : Nat) (h : i < xs.length) : (xs.map (Value.int k))[i]? = some (.int k (xs.getD i 0)) := by
  simp [List.getElem?_eq_getElem h, List.getD_eq_getElem?_getD]
theorem Own.intCell {k : IntKind} {e : TypeId} {w : World} {base g cap n : Nat} {xs : List Int} (h : Own (encInt k) e w base (.slice (some ⟨g, 0, none⟩) n cap) xs) (i : Nat) (hi : i < xs.length) :
    w.cell? ⟨g, i, none⟩ = some (.int k (xs.getD i 0)) := by
  apply Own.cells h; rw [all_encInt]; exact getElem?_map_int k xs i hi
def zrow (n : Nat) : Array Value := Array.replicate n (.int .u8 0)
def lenOf : Value → Nat
  | .slice _ n _ => n
  | _ => 0
theorem Own.some {α : Type} {size : Nat} {E : Enc α size} {e : TypeId} {w : World} {base : Nat} {v : Value} {xs : List α} (h : Own E e w base v xs) (hne : 0 < xs.length) :
    ∃ g cap, v = .slice (some ⟨g, 0, none⟩) xs.length cap ∧ base ≤ g ∧ g < w.heap.size ∧ xs.length ≤ cap ∧ cap ≤ maxLen := by
  rcases h.shape with ⟨_, rfl⟩ | h
  · exact absurd hne (by simp)
  · exact h

theorem cell_other {w w' : World} {row : Option Nat} (h : w.grownBy w' row) {a : Addr} (hlt : a.block < w.heap.size) (hne : some a.block ≠ row) : w'.cell? a = w.cell? a := by
  simp only [World.cell?, h.block a.block hlt hne]
theorem grownBy.refl' (w : World) (r : Option Nat) : w.grownBy w r := ⟨rfl, rfl, rfl, Nat.le_refl _, fun _ _ _ => rfl⟩
theorem grownBy.trans' {a b c : World} {r : Option Nat} (h : a.grownBy b r) (k : b.grownBy c r) : a.grownBy c r :=
  ⟨k.os.trans h.os, k.tape.trans h.tape, k.output.trans h.output, Nat.le_trans h.size k.size, fun j hj hr => (k.block j (Nat.lt_of_lt_of_le hj h.size) hr).trans (h.block j hj hr)⟩
theorem grownBy.setCell' {a w : World} {b : Nat} (h : a.grownBy w (some b)) (o : Nat) (v : Value) : a.grownBy (w.setCell ⟨b, o, none⟩ v) (some b) :=
  ⟨h.os, h.tape, h.output, by simpa using h.size, fun j hj hr => by
    rw [Below.heap_setCell _ _ _ _ (by intro e; exact hr (by rw [e]))]; exact h.block j hj hr⟩
theorem grownBy.drewN' {a w : World} {r : Option Nat} (h : a.grownBy w r) (n : Nat) : a.grownBy (w.drewN n) r := ⟨h.os, h.tape, h.output, h.size, h.block⟩
theorem grownBy.below' {a w w' : World} {r : Option Nat} (h : a.grownBy w r) (k : Below w.heap.size w w') : a.grownBy w' r :=
  ⟨k.os.trans h.os, k.tape.trans h.tape, k.output.trans h.output, Nat.le_trans h.size k.size, fun j hj hr => (k.block j (Nat.lt_of_lt_of_le hj h.size)).trans (h.block j hj hr)⟩
end Go.Proofs.YtpnnchjmaggmpaaGreatDoor

namespace Go.Proofs.YtpnnchjmaggmpaaGreatDoor
open Go.RowKit

def sb (s : ByteArray) : List Int := s.data.toList.map (fun b => (b.toNat : Int))
theorem length_sb (s : ByteArray) : (sb s).length = s.size := by unfold sb; simp
theorem sb_at (s : ByteArray) (k : Nat) (h : k < s.size) : (sb s)[k]? = some ((s[k].toNat : Nat) : Int) := by
  unfold sb; rw [List.getElem?_map, List.getElem?_eq_getElem (by simpa using h)]; rfl
theorem sb_bd (s : ByteArray) : ∀ a ∈ sb s, 0 ≤ a ∧ a ≤ 255 := by
  intro a ha; unfold sb at ha; rw [List.mem_map] at ha; obtain ⟨b, _, rfl⟩ := ha
  have := b.toNat_lt; omega

theorem sb_getD (s : ByteArray) (k : Nat) (h : k < s.size) : (sb s).getD k 0 = ((s[k].toNat : Nat) : Int) := by
  rw [List.getD_eq_getElem?_getD, sb_at s k h]; rfl
def Bytes (l : List Int) : Prop := ∀ a ∈ l, 0 ≤ a ∧ a ≤ 255
theorem Bytes.append {a b : List Int} (h : Bytes a) (k : Bytes b) : Bytes (a ++ b) := by
  intro x hx; rw [List.mem_append] at hx; rcases hx with hx | hx
  · exact h x hx
  · exact k x hx
theorem Bytes.nil : Bytes [] := by intro a ha; simp at ha
theorem sb_str (l : List Int) (h : Bytes l) : sb (strOfNums l) = l := by
  unfold sb
  rw [strOfNums_data, List.map_map]
  conv => rhs; rw [← List.map_id l]
  apply List.map_congr_left
  intro a ha
  have := h a ha
  simp only [Function.comp, id]
  rw [UInt8.toNat_ofNat_of_lt' (by show a.toNat < 256; omega)]; omega
theorem str_sb (s : ByteArray) : strOfNums (sb s) = s := by
  have : (strOfNums (sb s)).data = s.data := by
    apply Array.toList_inj.1
    rw [strOfNums_data]
    unfold sb
    rw [List.map_map]
    conv => rhs; rw [← List.map_id s.data.toList]
    apply List.map_congr_left
    intro a _
    simp only [Function.comp, id, Int.toNat_natCast]
    exact UInt8.ofNat_toNat
  cases s with
  | mk d => 
    cases hq : strOfNums (sb ⟨d⟩) with
    | mk e => rw [hq] at this; simp only at this; rw [this]
end Go.Proofs.YtpnnchjmaggmpaaGreatDoor

namespace Go.Proofs.YtpnnchjmaggmpaaGreatDoor
open Go.RowKit

def isCap (c : Int) : Bool := decide (65 ≤ c ∧ c ≤ 90)
def isLet (c : Int) : Bool := decide (65 ≤ c ∧ c ≤ 90 ∨ 97 ≤ c ∧ c ≤ 122)
def isNum (c : Int) : Bool := decide (48 ≤ c ∧ c ≤ 57)
theorem ret_bool {a b : Bool} (h : a = b) : Ending.returned (.bool a) = .returned (.bool b) := by rw [h]
theorem isCap_t {c : Int} (h : 65 ≤ c) (h2 : c ≤ 90) : isCap c = true := by unfold isCap; rw [decide_eq_true_iff]; omega
theorem isCap_f {c : Int} (h : c < 65 ∨ 90 < c) : isCap c = false := by unfold isCap; rw [decide_eq_false_iff_not]; omega
def inName (j : Nat) (c : Int) : Bool := isLet c || (decide (0 < j) && isNum c)
def nameL (l : List Int) : Bool := decide (∀ j, j < l.length → inName j (l.getD j 0) = true) && decide (1 ≤ l.length ∧ l.length ≤ 12)
def colL (n : Int) : List Int := if n < 0 ∨ 701 < n then [] else if n < 26 then [65 + n] else [64 + n / 26, 65 + n % 26]
def isCol (l : List Int) : Bool := decide (1 ≤ l.length ∧ l.length ≤ 2) && (isCap (l.getD 0 0) && isCap (l.getD (l.length - 1) 0))
def readColL (l : List Int) : Int := if isCol l = true then (if l.length = 1 then l.getD 0 0 - 65 else 26 * (l.getD 0 0 - 64) + (l.getD 1 0 - 65)) else 0
theorem nameL_bad (s : ByteArray) (k : Nat) (hk : k < s.size) (h : inName k ((sb s).getD k 0) = false) : nameL (sb s) = false := by
  unfold nameL
  rw [decide_eq_false (by intro hc; have := hc k (by rw [length_sb]; exact hk); rw [h] at this; cases this), Bool.false_and]
theorem nameL_all (s : ByteArray) (h : ∀ j, j < s.size → inName j ((sb s).getD j 0) = true) : nameL (sb s) = decide (1 ≤ s.size ∧ s.size ≤ 12) := by
  unfold nameL
  rw [decide_eq_true (by rw [length_sb]; exact h), Bool.true_and, length_sb]
theorem str_append (a b : List Int) : strOfNums a ++ strOfNums b = strOfNums (a ++ b) := by
  have h : (strOfNums a ++ strOfNums b).data = (strOfNums (a ++ b)).data := by
    apply Array.toList_inj.1
    rw [ByteArray.data_append, Array.toList_append, strOfNums_data, strOfNums_data, strOfNums_data, List.map_append]
  cases hx : strOfNums a ++ strOfNums b with
  | mk d =>
    cases hy : strOfNums (a ++ b) with
    | mk e => rw [hx, hy] at h; simp only at h; rw [h]
theorem sb_append (a b : ByteArray) : sb (a ++ b) = sb a ++ sb b := by
  unfold sb; rw [ByteArray.data_append, Array.toList_append, List.map_append]
theorem ret_str {a b : ByteArray} (h : a = b) : Ending.returned (.string a) = .returned (.string b) := by rw [h]
theorem val_str {a b : ByteArray} (h : a = b) : Value.string a = .string b := by rw [h]
def digL (u : Nat) : List Int := if u < 10 then [48 + (u : Int)] else digL (u / 10) ++ [48 + ((u % 10 : Nat) : Int)]
termination_by u
decreasing_by omega
theorem digL_small (u : Nat) (h : u < 10) : digL u = [48 + (u : Int)] := by rw [digL, if_pos h]
theorem digL_more (u : Nat) (h : ¬ u < 10) : digL u = digL (u / 10) ++ [48 + ((u % 10 : Nat) : Int)] := by rw [digL, if_neg h]
def decL (n : Int) : List Int := if n < 0 then 45 :: digL n.natAbs else digL n.natAbs
def mayL (sh : List Int) (c r : Int) : Bool := (decide (sh = []) || nameL sh) && decide (0 ≤ c ∧ c ≤ 701 ∧ 0 ≤ r ∧ r ≤ 998)
def textL (sh : List Int) (c r : Int) (ac ar : Bool) : List Int :=
  if mayL sh c r = true then (((if sh = [] then [] else sh ++ [33]) ++ (if ac = true then [36] else [])) ++ colL c ++ (if ar = true then [36] else [])) ++ digL (r + 1).toNat else []
theorem list_bytes (a : ByteArray) : a.toList = a.data.toList := ByteArray.toList_eq a
theorem text_ne (a b : ByteArray) (h : ¬ a = b) : ¬ a.toList = b.toList := by
  rw [list_bytes, list_bytes, Array.toList_inj]
  intro hd; apply h
  cases a; cases b; simp only at hd; rw [hd]
theorem text_ne0 (a : ByteArray) (h : ¬ a.size = 0) : ¬ a.toList = [] := by
  rw [list_bytes]
  intro hd; apply h
  show a.data.size = 0
  rw [← Array.length_toList, hd]; rfl
theorem sb_nil (s : ByteArray) (h : s.size = 0) : s = ⟨#[]⟩ := by
  cases s with
  | mk d => have : d = #[] := Array.eq_empty_of_size_eq_zero h
            rw [this]
theorem length_colL (n : Int) : (colL n).length ≤ 2 := by unfold colL; split <;> (try split) <;> simp
theorem length_digL (u : Nat) : (digL u).length ≤ u + 1 := by
  induction u using Nat.strongRecOn with
  | _ u ih =>
    by_cases h : u < 10
    · rw [digL_small u h]; simp
    · rw [digL_more u h, List.length_append]
      have := ih (u / 10) (by omega)
      simp only [List.length_cons, List.length_nil]; omega
theorem mayL_parts {sh : List Int} {c r : Int} (h : mayL sh c r = true) : 0 ≤ c ∧ c ≤ 701 ∧ 0 ≤ r ∧ r ≤ 998 := by
  unfold mayL at h; rw [Bool.and_eq_true, decide_eq_true_iff] at h; exact h.2
theorem below3 {w w0 w1 w2 w3 : World} (h0 : Below w.heap.size w w0) (h1 : Below w0.heap.size w0 w1) (h2 : Below w1.heap.size w1 w2) (h3 : Below w2.heap.size w2 w3) : Below w.heap.size w w3 := by
  have b1 := h0.trans (h1.mono h0.size)
  have b2 := b1.trans (h2.mono b1.size)
  exact b2.trans (h3.mono b2.size)
theorem span_unique (p : Int → Bool) : ∀ (a a' b b' : List Int), (∀ x ∈ a, p x = true) → (∀ x ∈ a', p x = true) → (∀ x, b.head? = some x → p x = false) → (∀ x, b'.head? = some x → p x = false) → a ++ b = a' ++ b' → a = a' ∧ b = b'
  | [], [], _, _, _, _, _, _, h => ⟨rfl, h⟩
  | [], x :: a', b, b', _, h2, h3, _, h => by
    rw [List.nil_append] at h
    have := h3 x (by rw [h]; rfl)
    rw [h2 x (by simp)] at this; cases this
  | x :: a, [], b, b', h1, _, _, h4, h => by
    rw [List.nil_append] at h
    have := h4 x (by rw [← h]; rfl)
    rw [h1 x (by simp)] at this; cases this
  | x :: a, y :: a', b, b', h1, h2, h3, h4, h => by
    rw [List.cons_append, List.cons_append] at h
    injection h with e h
    obtain ⟨r1, r2⟩ := span_unique p a a' b b' (fun z hz => h1 z (by simp [hz])) (fun z hz => h2 z (by simp [hz])) h3 h4 h
    exact ⟨by rw [e, r1], r2⟩

theorem isCap_colL (c : Int) : ∀ x ∈ colL c, isCap x = true := by
  intro x hx
  unfold colL at hx
  split at hx
  · simp at hx
  · split at hx
    · simp at hx; subst hx; exact isCap_t (by omega) (by omega)
    · simp at hx
      rcases hx with rfl | rfl
      · exact isCap_t (by omega) (by omega)
      · exact isCap_t (by omega) (by omega)
theorem readCol_colL (c : Int) (h0 : 0 ≤ c) (h1 : c ≤ 701) : isCol (colL c) = true ∧ readColL (colL c) = c := by
  have hcap := isCap_colL c
  by_cases h : c < 26
  · have e : colL c = [65 + c] := by unfold colL; rw [if_neg (by omega), if_pos h]
    have hc : isCol (colL c) = true := by rw [e] at hcap ⊢; unfold isCol; have := hcap (65 + c) (by simp); simp [this]
    refine ⟨hc, ?_⟩
    unfold readColL; rw [if_pos hc, e]; simp; omega
  · have e : colL c = [64 + c / 26, 65 + c % 26] := by unfold colL; rw [if_neg (by omega), if_neg h]
    have hc : isCol (colL c) = true := by rw [e] at hcap ⊢; unfold isCol; have g1 := hcap (64 + c / 26) (by simp); have g2 := hcap (65 + c % 26) (by simp); simp [g1, g2]
    refine ⟨hc, ?_⟩
    unfold readColL; rw [if_pos hc, e]; simp; omega
theorem cap_bd {x : Int} (h : isCap x = true) : 65 ≤ x ∧ x ≤ 90 := by unfold isCap at h; rw [decide_eq_true_iff] at h; exact h
theorem num_bd {x : Int} (h : isNum x = true) : 48 ≤ x ∧ x ≤ 57 := by unfold isNum at h; rw [decide_eq_true_iff] at h; exact h
theorem colL_readCol (l : List Int) (h : isCol l = true) : colL (readColL l) = l ∧ 0 ≤ readColL l ∧ readColL l ≤ 701 := by
  have hr : readColL l = (if l.length = 1 then l.getD 0 0 - 65 else 26 * (l.getD 0 0 - 64) + (l.getD 1 0 - 65)) := by unfold readColL; rw [if_pos h]
  unfold isCol at h
  rw [Bool.and_eq_true, Bool.and_eq_true, decide_eq_true_iff] at h
  obtain ⟨⟨h1, h2⟩, h3, h4⟩ := h
  match l, h1, h2, h3, h4, hr with
  | [a], _, _, h3, _, hr =>
    have := cap_bd h3
    simp at this hr
    rw [hr]
    refine ⟨?_, by omega, by omega⟩
    unfold colL; rw [if_neg (by omega), if_pos (by omega)]; congr 1; omega
  | [a, b], _, _, h3, h4, hr =>
    have g1 := cap_bd h3
    have g2 := cap_bd h4
    simp at g1 g2 hr
    rw [hr]
    refine ⟨?_, by omega, by omega⟩
    unfold colL; rw [if_neg (by omega), if_neg (by omega)]; congr 1
    · omega
    · congr 1; omega
theorem isNum_digL (u : Nat) : ∀ x ∈ digL u, isNum x = true := by
  induction u using Nat.strongRecOn with
  | _ u ih =>
    intro x hx
    by_cases h : u < 10
    · rw [digL_small u h] at hx; simp at hx; subst hx; unfold isNum; rw [decide_eq_true_iff]; omega
    · rw [digL_more u h, List.mem_append] at hx
      rcases hx with hx | hx
      · exact ih (u / 10) (by omega) x hx
      · simp at hx; subst hx; unfold isNum; rw [decide_eq_true_iff]; omega
def valL (l : List Int) : Int := l.foldl (fun n d => 10 * n + (d - 48)) 0
theorem valL_snoc (l : List Int) (d : Int) : valL (l ++ [d]) = 10 * valL l + (d - 48) := by unfold valL; rw [List.foldl_append]; rfl
theorem valL_digL (u : Nat) : valL (digL u) = u := by
  induction u using Nat.strongRecOn with
  | _ u ih =>
    by_cases h : u < 10
    · rw [digL_small u h]; unfold valL; simp; omega
    · rw [digL_more u h, valL_snoc, ih (u / 10) (by omega)]; omega
theorem digL_ne (u : Nat) : digL u ≠ [] := by
  by_cases h : u < 10
  · rw [digL_small u h]; simp
  · rw [digL_more u h]; simp
theorem colL_ne (c : Int) (h0 : 0 ≤ c) (h1 : c ≤ 701) : colL c ≠ [] := by
  unfold colL; rw [if_neg (by omega)]; split <;> simp

def dol (b : Bool) : List Int := if b = true then [36] else []
theorem dol_all (b : Bool) : ∀ x ∈ dol b, decide (x = 36) = true := by cases b <;> simp [dol]
theorem dol_inj {a b : Bool} (h : dol a = dol b) : a = b := by cases a <;> cases b <;> simp [dol] at h ⊢
def tailL (c r : Int) (ac ar : Bool) : List Int := dol ac ++ (colL c ++ (dol ar ++ digL (r + 1).toNat))
theorem head_append {a b : List Int} (h : a ≠ []) {x : Int} (hx : (a ++ b).head? = some x) : x ∈ a := by
  cases a with
  | nil => exact absurd rfl h
  | cons y a => simp at hx; subst hx; simp
theorem tail_inj {c r c' r' : Int} {ac ar ac' ar' : Bool} (h0 : 0 ≤ c) (h1 : c ≤ 701) (h2 : 0 ≤ r) (k0 : 0 ≤ c') (k1 : c' ≤ 701) (k2 : 0 ≤ r') (h : tailL c r ac ar = tailL c' r' ac' ar') : c = c' ∧ r = r' ∧ ac = ac' ∧ ar = ar' := by
  unfold tailL at h
  have no36 : ∀ x, isCap x = true → decide (x = 36) = false := by intro x hx; have := cap_bd hx; rw [decide_eq_false_iff_not]; omega
  have no36n : ∀ x, isNum x = true → decide (x = 36) = false := by intro x hx; have := num_bd hx; rw [decide_eq_false_iff_not]; omega
  have noCap : ∀ (b : Bool) (u : Nat) (x : Int), (dol b ++ digL u).head? = some x → isCap x = false := by
    intro b u x hx
    cases b with
    | true => simp [dol] at hx; subst hx; decide
    | false =>
      have hx' : (digL u ++ []).head? = some x := by simpa [dol] using hx
      have := num_bd (isNum_digL u x (head_append (digL_ne u) hx'))
      exact isCap_f (by omega)
  obtain ⟨e1, e2⟩ := span_unique (fun x => decide (x = 36)) _ _ _ _ (dol_all ac) (dol_all ac')
    (fun x hx => no36 x (isCap_colL c x (head_append (colL_ne c h0 h1) hx))) (fun x hx => no36 x (isCap_colL c' x (head_append (colL_ne c' k0 k1) hx))) h
  obtain ⟨e3, e4⟩ := span_unique isCap _ _ _ _ (isCap_colL c) (isCap_colL c') (noCap ar _) (noCap ar' _) e2
  obtain ⟨e5, e6⟩ := span_unique (fun x => decide (x = 36)) _ _ _ _ (dol_all ar) (dol_all ar')
    (fun x hx => no36n x (isNum_digL _ x (head_append (digL_ne _) (by rw [List.append_nil]; exact hx)))) (fun x hx => no36n x (isNum_digL _ x (head_append (digL_ne _) (by rw [List.append_nil]; exact hx)))) e4
  refine ⟨?_, ?_, dol_inj e1, dol_inj e5⟩
  · rw [← (readCol_colL c h0 h1).2, ← (readCol_colL c' k0 k1).2, e3]
  · have := valL_digL (r + 1).toNat
    rw [e6, valL_digL] at this; omega
theorem tail_no33 (c r : Int) (ac ar : Bool) : ∀ x ∈ tailL c r ac ar, x ≠ 33 := by
  intro x hx
  unfold tailL at hx
  simp only [List.mem_append] at hx
  rcases hx with h | h | h | h
  · have := dol_all _ x h; rw [decide_eq_true_iff] at this; omega
  · have := cap_bd (isCap_colL c x h); omega
  · have := dol_all _ x h; rw [decide_eq_true_iff] at this; omega
  · have := num_bd (isNum_digL _ x h); omega
theorem name_no33 (l : List Int) (h : nameL l = true) : ∀ x ∈ l, x ≠ 33 := by
  intro x hx
  unfold nameL at h
  rw [Bool.and_eq_true, decide_eq_true_iff] at h
  obtain ⟨j, hj, rfl⟩ := List.mem_iff_getElem.1 hx
  have := h.1 j hj
  rw [List.getD_eq_getElem?_getD, List.getElem?_eq_getElem hj] at this
  simp only [Option.getD_some] at this
  unfold inName isLet isNum at this
  simp only [Bool.or_eq_true, Bool.and_eq_true, decide_eq_true_iff] at this
  omega
theorem mayL_sheet {sh : List Int} {c r : Int} (h : mayL sh c r = true) : sh = [] ∨ nameL sh = true := by
  unfold mayL at h; rw [Bool.and_eq_true, Bool.or_eq_true, decide_eq_true_iff] at h; exact h.1
theorem mayL_nums {sh : List Int} {c r : Int} (h : mayL sh c r = true) : 0 ≤ c ∧ c ≤ 701 ∧ 0 ≤ r ∧ r ≤ 998 := by
  unfold mayL at h; rw [Bool.and_eq_true, decide_eq_true_iff] at h; exact h.2
theorem textL_eq (sh : List Int) (c r : Int) (ac ar : Bool) (h : mayL sh c r = true) : textL sh c r ac ar = (if sh = [] then [] else sh ++ [33]) ++ tailL c r ac ar := by
  unfold textL tailL dol; rw [if_pos h]; simp only [List.append_assoc]
theorem textL_inj {sh sh' : List Int} {c r c' r' : Int} {ac ar ac' ar' : Bool} (h : mayL sh c r = true) (k : mayL sh' c' r' = true) (e : textL sh c r ac ar = textL sh' c' r' ac' ar') :
    sh = sh' ∧ c = c' ∧ r = r' ∧ ac = ac' ∧ ar = ar' := by
  obtain ⟨h0, h1, h2, _⟩ := mayL_nums h
  obtain ⟨k0, k1, k2, _⟩ := mayL_nums k
  rw [textL_eq _ _ _ _ _ h, textL_eq _ _ _ _ _ k] at e
  by_cases hs : sh = []
  · by_cases ks : sh' = []
    · rw [if_pos hs, if_pos ks] at e
      exact ⟨by rw [hs, ks], tail_inj h0 h1 h2 k0 k1 k2 e⟩
    · rw [if_pos hs, if_neg ks, List.nil_append] at e
      exact absurd rfl (tail_no33 c r ac ar 33 (by rw [e]; simp))
  · by_cases ks : sh' = []
    · rw [if_neg hs, if_pos ks, List.nil_append] at e
      exact absurd rfl (tail_no33 c' r' ac' ar' 33 (by rw [← e]; simp))
    · rw [if_neg hs, if_neg ks, List.append_assoc, List.append_assoc] at e
      have n1 := (mayL_sheet h).resolve_left hs
      have n2 := (mayL_sheet k).resolve_left ks
      obtain ⟨e1, e2⟩ := span_unique (fun x => decide (x ≠ 33)) _ _ _ _ (fun x hx => by rw [decide_eq_true_iff]; exact name_no33 _ n1 x hx) (fun x hx => by rw [decide_eq_true_iff]; exact name_no33 _ n2 x hx)
        (fun x hx => by simp at hx; subst hx; rfl) (fun x hx => by simp at hx; subst hx; rfl) e
      exact ⟨e1, tail_inj h0 h1 h2 k0 k1 k2 (by injection e2)⟩
end Go.Proofs.YtpnnchjmaggmpaaGreatDoor

namespace Go.Proofs.YtpnnchjmaggmpaaGreatDoor
open Go.RowKit

def RefAt (w : World) (b : Nat) (s : ByteArray) (c r : Int) (ac ar : Bool) : Prop := w.heap[b]? = some (.cells #[.string s, .int .i64 c, .int .i64 r, .bool ac, .bool ar] 45)
theorem RefAt.new (w : World) (s : ByteArray) (c r : Int) (ac ar : Bool) : RefAt (w.alloc (.cells #[.string s, .int .i64 c, .int .i64 r, .bool ac, .bool ar] 45)) w.heap.size s c r ac ar := by
  exact (Go.MapKept.heap_alloc w _).1
theorem RefAt.lt {w : World} {b : Nat} {s : ByteArray} {c r : Int} {ac ar : Bool} (h : RefAt w b s c r ac ar) : b < w.heap.size := (Array.getElem?_eq_some_iff.1 h).1
theorem RefAt.below {w w' : World} {B b : Nat} {s : ByteArray} {c r : Int} {ac ar : Bool} (h : RefAt w b s c r ac ar) (hb : Below B w w') (hB : b < B) : RefAt w' b s c r ac ar := by
  unfold RefAt; rw [hb.block b hB]; exact h
theorem RefAt.facts {w : World} {b : Nat} {s : ByteArray} {c r : Int} {ac ar : Bool} (h : RefAt w b s c r ac ar) :
    w.cell? ⟨b, 0, none⟩ = some (.string s) ∧ w.cell? ⟨b, 1, none⟩ = some (.int .i64 c) ∧ w.cell? ⟨b, 2, none⟩ = some (.int .i64 r) ∧ w.cell? ⟨b, 3, none⟩ = some (.bool ac) ∧ w.cell? ⟨b, 4, none⟩ = some (.bool ar) :=
  ⟨by rw [cell_of_row w b 0 _ _ _ h]; rfl, by rw [cell_of_row w b 1 _ _ _ h]; rfl, by rw [cell_of_row w b 2 _ _ _ h]; rfl, by rw [cell_of_row w b 3 _ _ _ h]; rfl, by rw [cell_of_row w b 4 _ _ _ h]; rfl⟩
end Go.Proofs.YtpnnchjmaggmpaaGreatDoor

namespace Go.Proofs.YtpnnchjmaggmpaaGreatDoor
open Go.RowKit

structure Rd where
  s : ByteArray
  k : Nat
  sh : ByteArray
  c : Int
  r : Int
  ac : Bool
  ar : Bool
def Rd.rest (d : Rd) : List Int := (sb d.s).drop d.k
def Rd.cells (d : Rd) : Array Value := #[.string d.s, .int .i64 (d.k : Int), .string d.sh, .int .i64 d.c, .int .i64 d.r, .bool d.ac, .bool d.ar]
def Rd.start (s : ByteArray) : Rd := ⟨s, 0, ⟨#[]⟩, 0, 0, false, false⟩
def ne33 (x : Int) : Bool := decide (x ≠ 33)
def isRow (l : List Int) : Bool := decide (l ≠ [] ∧ l.head? ≠ some 48 ∧ valL l ≤ 999)
def Rd.sheetP (d : Rd) : List Int := (sb d.s).takeWhile ne33
def Rd.sheet (d : Rd) : Option Rd := if d.sheetP.length = d.s.size then some d else if nameL d.sheetP = true then some { d with sh := strOfNums d.sheetP, k := d.sheetP.length + 1 } else none
def Rd.mark (d : Rd) : Bool := decide (d.rest.head? = some 36)
def Rd.absCol (d : Rd) : Option Rd := some { d with ac := d.mark, k := d.k + (dol d.mark).length }
def Rd.absRow (d : Rd) : Option Rd := some { d with ar := d.mark, k := d.k + (dol d.mark).length }
def Rd.col (d : Rd) : Option Rd := if isCol (d.rest.takeWhile isCap) = true then some { d with c := readColL (d.rest.takeWhile isCap), k := d.k + (d.rest.takeWhile isCap).length } else none
def Rd.row (d : Rd) : Option Rd := if isRow (d.rest.takeWhile isNum) = true then some { d with r := valL (d.rest.takeWhile isNum) - 1, k := d.k + (d.rest.takeWhile isNum).length } else none
def Rd.fin (d : Rd) : Option Rd := if d.k = d.s.size then some d else none

theorem take_part (p : Int → Bool) : ∀ (a b : List Int), (∀ x ∈ a, p x = true) → (∀ x, b.head? = some x → p x = false) → (a ++ b).takeWhile p = a
  | [], [], _, _ => rfl
  | [], y :: b, _, h2 => by rw [List.nil_append, List.takeWhile_cons, h2 y rfl]; rfl
  | x :: a, b, h, h2 => by
    rw [List.cons_append, List.takeWhile_cons, h x (by simp), if_pos rfl, take_part p a b (fun z hz => h z (by simp [hz])) h2]
theorem take_more (p : Int → Bool) : ∀ (a b : List Int), (∀ x ∈ a, p x = true) → (a ++ b).takeWhile p = a ++ b.takeWhile p
  | [], b, _ => rfl
  | x :: a, b, h => by
    rw [List.cons_append, List.takeWhile_cons, h x (by simp), if_pos rfl, take_more p a b (fun z hz => h z (by simp [hz])), List.cons_append]
theorem take_all (p : Int → Bool) : ∀ (l : List Int), ∀ x ∈ l.takeWhile p, p x = true
  | [], x, hx => by simp at hx
  | y :: l, x, hx => by
    rw [List.takeWhile_cons] at hx
    by_cases h : p y = true
    · rw [if_pos h] at hx
      rcases List.mem_cons.1 hx with rfl | hx
      · exact h
      · exact take_all p l x hx
    · rw [if_neg h] at hx; simp at hx
theorem take_split (p : Int → Bool) : ∀ (l : List Int), l.takeWhile p ++ l.drop (l.takeWhile p).length = l
  | [] => rfl
  | y :: l => by
    rw [List.takeWhile_cons]
    by_cases h : p y = true
    · rw [if_pos h, List.length_cons, List.drop_succ_cons, List.cons_append, take_split p l]
    · rw [if_neg h]; rfl
theorem take_head (p : Int → Bool) : ∀ (l : List Int) (x : Int), (l.drop (l.takeWhile p).length).head? = some x → p x = false
  | [], x, h => by simp at h
  | y :: l, x, h => by
    rw [List.takeWhile_cons] at h
    by_cases hy : p y = true
    · rw [if_pos hy, List.length_cons, List.drop_succ_cons] at h; exact take_head p l x h
    · rw [if_neg hy] at h; simp at h; subst h; simpa using hy

theorem digL_valL : ∀ (n : Nat) (l : List Int), l.length = n → l ≠ [] → (∀ x ∈ l, isNum x = true) → l.head? ≠ some 48 → 1 ≤ valL l ∧ digL (valL l).toNat = l := by
  intro n
  induction n with
  | zero => intro l h h2; exact absurd (List.eq_nil_of_length_eq_zero h) h2
  | succ n ih =>
    intro l hl hne hall hh
    obtain ⟨a, x, rfl⟩ : ∃ a x, l = a ++ [x] := by
      rcases List.eq_nil_or_concat l with h | ⟨a, x, h⟩
      · exact absurd h hne
      · exact ⟨a, x, by rw [h, List.concat_eq_append]⟩
    have hx := num_bd (hall x (by simp))
    rw [valL_snoc]
    by_cases ha : a = []
    · subst ha
      have h48 : x ≠ 48 := by intro h; subst h; exact hh rfl
      have hv : valL [] = 0 := rfl
      rw [hv, digL_small _ (by omega)]
      refine ⟨by omega, ?_⟩
      rw [List.nil_append]; congr 1; omega
    · have hlen : a.length = n := by rw [List.length_append, List.length_singleton] at hl; omega
      have h0 : a.head? ≠ some 48 := by
        cases a with
        | nil => exact absurd rfl ha
        | cons y a => simpa using hh
      obtain ⟨h1, h2⟩ := ih a hlen ha (fun z hz => hall z (by simp [hz])) h0
      refine ⟨by omega, ?_⟩
      rw [digL_more _ (by omega), show (10 * valL a + (x - 48)).toNat / 10 = (valL a).toNat from by omega, h2]
      congr 2; omega
theorem valL_ge : ∀ (b a : List Int), (∀ x ∈ b, isNum x = true) → 0 ≤ valL a → valL a ≤ valL (a ++ b)
  | [], a, _, _ => by rw [List.append_nil]; exact Int.le_refl _
  | x :: b, a, h, h0 => by
    have hx := num_bd (h x (by simp))
    have h1 := valL_snoc a x
    have h2 := valL_ge b (a ++ [x]) (fun z hz => h z (by simp [hz])) (by omega)
    rw [List.append_assoc, List.singleton_append] at h2
    omega

theorem rest_add (d : Rd) (m : Nat) : (sb d.s).drop (d.k + m) = d.rest.drop m := by unfold Rd.rest; rw [List.drop_drop]
theorem mark_rest (d : Rd) : d.rest = dol d.mark ++ d.rest.drop (dol d.mark).length := by
  unfold Rd.mark
  cases h : d.rest with
  | nil => rfl
  | cons x l =>
    by_cases hx : x = 36
    · subst hx; simp [dol]
    · have : (x :: l).head? ≠ some 36 := by simpa using hx
      rw [decide_eq_false this]; simp [dol]

def readS (s : ByteArray) : Option Rd := ((((((Rd.start s).sheet.bind Rd.absCol).bind Rd.col).bind Rd.absRow).bind Rd.row).bind Rd.fin)
theorem nameL_size {l : List Int} (h : nameL l = true) : l ≠ [] ∧ l.length ≤ 12 := by
  unfold nameL at h; rw [Bool.and_eq_true, decide_eq_true_iff, decide_eq_true_iff] at h
  exact ⟨by intro h0; rw [h0] at h; simp at h, h.2.2⟩
theorem isRow_parts {l : List Int} (h : isRow l = true) : l ≠ [] ∧ l.head? ≠ some 48 ∧ valL l ≤ 999 := by unfold isRow at h; rw [decide_eq_true_iff] at h; exact h

theorem read_some (s : ByteArray) (d : Rd) (h : readS s = some d) : d.sh.size ≤ 12 ∧ mayL (sb d.sh) d.c d.r = true ∧ textL (sb d.sh) d.c d.r d.ac d.ar = sb s := by
  unfold readS at h
  simp only [Option.bind_eq_some_iff] at h
  obtain ⟨d5, ⟨d4, ⟨d3, ⟨d2, ⟨d1, h1, h2⟩, h3⟩, h4⟩, h5⟩, h6⟩ := h
  -- the sheet
  have g1 : d1.s = s ∧ sb s = (if sb d1.sh = [] then [] else sb d1.sh ++ [33]) ++ d1.rest ∧ (sb d1.sh = [] ∨ nameL (sb d1.sh) = true) ∧ d1.sh.size ≤ 12 := by
    unfold Rd.sheet at h1
    by_cases hc : (Rd.start s).sheetP.length = (Rd.start s).s.size
    · rw [if_pos hc] at h1
      injection h1 with h1; subst h1
      exact ⟨rfl, rfl, .inl rfl, by show (0 : Nat) ≤ 12; omega⟩
    · rw [if_neg hc] at h1
      by_cases hn : nameL (Rd.start s).sheetP = true
      · rw [if_pos hn] at h1
        injection h1 with h1; subst h1
        have hb : Bytes (Rd.start s).sheetP := fun x hx => sb_bd s x (by
          have := take_split ne33 (sb s); rw [← this]; exact List.mem_append_left _ hx)
        obtain ⟨q1, q2⟩ := nameL_size hn
        refine ⟨rfl, ?_, .inr (by show nameL (sb (strOfNums _)) = true; rw [sb_str _ hb]; exact hn), by show (strOfNums _).size ≤ 12; rw [strOfNums_size]; exact q2⟩
        show sb s = (if sb (strOfNums (Rd.start s).sheetP) = [] then [] else sb (strOfNums (Rd.start s).sheetP) ++ [33]) ++ (sb s).drop ((Rd.start s).sheetP.length + 1)
        rw [sb_str _ hb, if_neg q1]
        have e := take_split ne33 (sb s)
        have hlt : (Rd.start s).sheetP.length < (sb s).length := by
          have := congrArg List.length e
          rw [List.length_append] at this
          have h3 : (Rd.start s).sheetP.length ≠ s.size := hc
          have h4 := length_sb s
          show ((sb s).takeWhile ne33).length < _
          have h5 : (Rd.start s).sheetP = (sb s).takeWhile ne33 := rfl
          rw [h5] at h3
          omega
        have hh := take_head ne33 (sb s)
        have h6 : (sb s).drop (Rd.start s).sheetP.length = (sb s)[(Rd.start s).sheetP.length] :: (sb s).drop ((Rd.start s).sheetP.length + 1) := List.drop_eq_getElem_cons hlt
        have h7 := hh ((sb s)[(Rd.start s).sheetP.length]) (by
          show ((sb s).drop (Rd.start s).sheetP.length).head? = _
          rw [h6]; rfl)
        have h8 : (sb s)[(Rd.start s).sheetP.length] = 33 := by unfold ne33 at h7; simpa using h7
        rw [h8] at h6
        rw [List.append_assoc, List.singleton_append, ← h6]
        exact e.symm
      · rw [if_neg hn] at h1; cases h1
  obtain ⟨e1, t1, n1, z1⟩ := g1
  -- the mark ahead of the column
  have g2 : d2.s = d1.s ∧ d2.sh = d1.sh ∧ d1.rest = dol d2.ac ++ d2.rest := by
    unfold Rd.absCol at h2; injection h2 with h2; subst h2
    refine ⟨rfl, rfl, ?_⟩
    show d1.rest = dol d1.mark ++ (sb d1.s).drop (d1.k + (dol d1.mark).length)
    rw [rest_add]; exact mark_rest d1
  obtain ⟨e2, f2, t2⟩ := g2
  have g3 : d3.s = d2.s ∧ d3.sh = d2.sh ∧ d3.ac = d2.ac ∧ d2.rest = colL d3.c ++ d3.rest ∧ 0 ≤ d3.c ∧ d3.c ≤ 701 := by
    unfold Rd.col at h3
    by_cases hc : isCol (d2.rest.takeWhile isCap) = true
    · rw [if_pos hc] at h3; injection h3 with h3; subst h3
      obtain ⟨q1, q2, q3⟩ := colL_readCol _ hc
      refine ⟨rfl, rfl, rfl, ?_, q2, q3⟩
      show d2.rest = colL (readColL (d2.rest.takeWhile isCap)) ++ (sb d2.s).drop (d2.k + (d2.rest.takeWhile isCap).length)
      rw [q1, rest_add, take_split]
    · rw [if_neg hc] at h3; cases h3
  obtain ⟨e3, f3, a3, t3, c0, c1⟩ := g3
  have g4 : d4.s = d3.s ∧ d4.sh = d3.sh ∧ d4.ac = d3.ac ∧ d4.c = d3.c ∧ d3.rest = dol d4.ar ++ d4.rest := by
    unfold Rd.absRow at h4; injection h4 with h4; subst h4
    refine ⟨rfl, rfl, rfl, rfl, ?_⟩
    show d3.rest = dol d3.mark ++ (sb d3.s).drop (d3.k + (dol d3.mark).length)
    rw [rest_add]; exact mark_rest d3
  obtain ⟨e4, f4, a4, b4, t4⟩ := g4
  have g5 : d5.s = d4.s ∧ d5.sh = d4.sh ∧ d5.ac = d4.ac ∧ d5.c = d4.c ∧ d5.ar = d4.ar ∧ d4.rest = digL (d5.r + 1).toNat ++ d5.rest ∧ 0 ≤ d5.r ∧ d5.r ≤ 998 := by
    unfold Rd.row at h5
    by_cases hc : isRow (d4.rest.takeWhile isNum) = true
    · rw [if_pos hc] at h5; injection h5 with h5; subst h5
      obtain ⟨q1, q2, q3⟩ := isRow_parts hc
      obtain ⟨q4, q5⟩ := digL_valL _ _ rfl q1 (take_all isNum _) q2
      refine ⟨rfl, rfl, rfl, rfl, rfl, ?_, by show 0 ≤ valL (d4.rest.takeWhile isNum) - 1; omega, by show valL (d4.rest.takeWhile isNum) - 1 ≤ 998; omega⟩
      show d4.rest = digL (valL (d4.rest.takeWhile isNum) - 1 + 1).toNat ++ (sb d4.s).drop (d4.k + (d4.rest.takeWhile isNum).length)
      rw [Int.sub_add_cancel, q5, rest_add, take_split]
    · rw [if_neg hc] at h5; cases h5
  obtain ⟨e5, f5, a5, b5, r5, t5, r0, r1⟩ := g5
  have g6 : d = d5 ∧ d5.rest = [] := by
    unfold Rd.fin at h6
    by_cases hc : d5.k = d5.s.size
    · rw [if_pos hc] at h6; injection h6 with h6
      refine ⟨h6.symm, ?_⟩
      unfold Rd.rest; rw [hc, ← length_sb, List.drop_length]
    · rw [if_neg hc] at h6; cases h6
  obtain ⟨rfl, t6⟩ := g6
  have hsh : d.sh = d1.sh := by rw [f5, f4, f3, f2]
  have hac : d.ac = d2.ac := by rw [a5, a4, a3]
  have hc : d.c = d3.c := by rw [b5, b4]
  have hm : mayL (sb d.sh) d.c d.r = true := by
    unfold mayL
    rw [Bool.and_eq_true, Bool.or_eq_true, decide_eq_true_iff, decide_eq_true_iff, hsh, hc]
    exact ⟨n1, by omega, by omega, by omega, by omega⟩
  refine ⟨by rw [hsh]; exact z1, hm, ?_⟩
  rw [textL_eq _ _ _ _ _ hm, t1, t2, t3, t4, t5, t6, hsh, hc, hac, r5, List.append_nil]
  rfl

def NoRef (l : List Int) : Prop := ∀ sh c r ac ar, mayL sh c r = true → textL sh c r ac ar ≠ l
def Says (l : List Int) (e : Ending) : Prop :=
  (∃ s c r ac ar, s.size ≤ 12 ∧ mayL (sb s) c r = true ∧ textL (sb s) c r ac ar = l ∧ e = .returned (.tuple #[.agg #[.string s, .int .i64 c, .int .i64 r, .bool ac, .bool ar], .bool true])) ∨
  (NoRef l ∧ e = .returned (.tuple #[.agg #[.string ⟨#[]⟩, .int .i64 0, .int .i64 0, .bool false, .bool false], .bool false]))
theorem mark_of (d : Rd) (b : Bool) (t : List Int) (h : d.rest = dol b ++ t) (ht : ∀ x, t.head? = some x → x ≠ 36) : d.mark = b := by
  unfold Rd.mark; rw [h]
  cases b with
  | true => rfl
  | false =>
    rw [decide_eq_false_iff_not]
    intro hx; exact ht 36 hx rfl
theorem isRow_digL (r : Int) (h0 : 0 ≤ r) (h1 : r ≤ 998) : isRow (digL (r + 1).toNat) = true := by
  have hh : ∀ (n u : Nat), u < n → 1 ≤ u → (digL u).head? ≠ some 48 := by
    intro n
    induction n with
    | zero => intro u h; omega
    | succ n ih =>
      intro u hu h1
      by_cases h : u < 10
      · rw [digL_small u h]; simp; omega
      · rw [digL_more u h]
        have := ih (u / 10) (by omega) (by omega)
        cases hd : digL (u / 10) with
        | nil => exact absurd hd (digL_ne _)
        | cons y l => rw [hd] at this; simpa using this
  unfold isRow; rw [decide_eq_true_iff]
  refine ⟨digL_ne _, hh _ _ (Nat.lt_succ_self _) (by omega), ?_⟩
  rw [valL_digL]; omega
theorem read_none (s : ByteArray) (h : readS s = none) : NoRef (sb s) := by
  intro sh c r ac ar hm e
  obtain ⟨c0, c1, r0, r1⟩ := mayL_nums hm
  rw [textL_eq _ _ _ _ _ hm] at e
  -- the sheet
  have g1 : ∃ d1, (Rd.start s).sheet = some d1 ∧ d1.rest = tailL c r ac ar ∧ d1.s = s ∧ d1.k + d1.rest.length = s.size := by
    by_cases hs : sh = []
    · rw [if_pos hs, List.nil_append] at e
      have hp : (Rd.start s).sheetP = sb s := by
        show (sb s).takeWhile ne33 = sb s
        rw [← e, ← List.append_nil (tailL c r ac ar), take_part ne33 _ [] (fun x hx => by unfold ne33; rw [decide_eq_true_iff]; exact tail_no33 c r ac ar x hx) (fun x hx => by simp at hx), List.append_nil]
      refine ⟨Rd.start s, ?_, e.symm, rfl, by show 0 + (sb s).length = s.size; rw [length_sb]; omega⟩
      unfold Rd.sheet; rw [hp, if_pos (show (sb s).length = (Rd.start s).s.size from length_sb s)]
    · rw [if_neg hs, List.append_assoc] at e
      have hn := (mayL_sheet hm).resolve_left hs
      have hp : (Rd.start s).sheetP = sh := by
        show (sb s).takeWhile ne33 = sh
        rw [← e]
        exact take_part ne33 _ _ (fun x hx => by unfold ne33; rw [decide_eq_true_iff]; exact name_no33 _ hn x hx) (fun x hx => by simp at hx; subst hx; rfl)
      have hlen : ¬ sh.length = (Rd.start s).s.size := by
        show ¬ sh.length = s.size
        rw [← length_sb, ← e]; simp only [List.length_append, List.length_cons]; omega
      refine ⟨{ Rd.start s with sh := strOfNums sh, k := sh.length + 1 }, ?_, ?_, rfl, ?_⟩
      · unfold Rd.sheet; rw [hp, if_neg hlen, if_pos hn]
      · show (sb s).drop (sh.length + 1) = _
        rw [← e, ← List.drop_drop, List.drop_left]; rfl
      · show sh.length + 1 + ((sb s).drop (sh.length + 1)).length = s.size
        rw [List.length_drop, ← length_sb, ← e]; simp only [List.length_append, List.length_cons]; omega
  obtain ⟨d1, h1, t1, s1, k1⟩ := g1
  have no36 : ∀ x, isCap x = true → x ≠ 36 := by intro x hx; have := cap_bd hx; omega
  have no36n : ∀ x, isNum x = true → x ≠ 36 := by intro x hx; have := num_bd hx; omega
  obtain ⟨d2, h2, t2, s2, k2⟩ : ∃ d2, d1.absCol = some d2 ∧ d2.rest = colL c ++ (dol ar ++ digL (r + 1).toNat) ∧ d2.s = s ∧ d2.k = d1.k + (dol ac).length := by
    have hmk := mark_of d1 ac (colL c ++ (dol ar ++ digL (r + 1).toNat)) t1 (fun x hx => no36 x (isCap_colL c x (head_append (colL_ne c c0 c1) hx)))
    refine ⟨_, rfl, ?_, s1, by show d1.k + (dol d1.mark).length = _; rw [hmk]⟩
    show (sb d1.s).drop (d1.k + (dol d1.mark).length) = _
    rw [rest_add, hmk, t1]; unfold tailL; rw [List.drop_left]
  have hcap : ∀ x, (dol ar ++ digL (r + 1).toNat).head? = some x → isCap x = false := by
    intro x hx
    cases ar with
    | true => simp [dol] at hx; subst hx; decide
    | false =>
      have hx' : (digL (r + 1).toNat ++ []).head? = some x := by simpa [dol] using hx
      have := num_bd (isNum_digL _ x (head_append (digL_ne _) hx'))
      exact isCap_f (by omega)
  obtain ⟨d3, h3, t3, s3, k3⟩ : ∃ d3, d2.col = some d3 ∧ d3.rest = dol ar ++ digL (r + 1).toNat ∧ d3.s = s ∧ d3.k = d2.k + (colL c).length := by
    have hp : d2.rest.takeWhile isCap = colL c := by rw [t2]; exact take_part isCap _ _ (isCap_colL c) hcap
    refine ⟨{ d2 with c := readColL (d2.rest.takeWhile isCap), k := d2.k + (d2.rest.takeWhile isCap).length }, ?_, ?_, s2, by show d2.k + (d2.rest.takeWhile isCap).length = _; rw [hp]⟩
    · unfold Rd.col; rw [if_pos (by rw [hp]; exact (readCol_colL c c0 c1).1)]
    · show (sb d2.s).drop (d2.k + (d2.rest.takeWhile isCap).length) = _
      rw [rest_add, hp, t2, List.drop_left]
  obtain ⟨d4, h4, t4, s4, k4⟩ : ∃ d4, d3.absRow = some d4 ∧ d4.rest = digL (r + 1).toNat ∧ d4.s = s ∧ d4.k = d3.k + (dol ar).length := by
    have hmk := mark_of d3 ar (digL (r + 1).toNat) t3 (fun x hx => no36n x (isNum_digL _ x (head_append (b := []) (digL_ne _) (by rw [List.append_nil]; exact hx))))
    refine ⟨_, rfl, ?_, s3, by show d3.k + (dol d3.mark).length = _; rw [hmk]⟩
    show (sb d3.s).drop (d3.k + (dol d3.mark).length) = _
    rw [rest_add, hmk, t3, List.drop_left]
  obtain ⟨d5, h5, s5, k5⟩ : ∃ d5, d4.row = some d5 ∧ d5.s = s ∧ d5.k = d4.k + (digL (r + 1).toNat).length := by
    have hp : d4.rest.takeWhile isNum = digL (r + 1).toNat := by
      rw [t4]
      have := take_part isNum (digL (r + 1).toNat) [] (isNum_digL _) (fun x hx => by simp at hx)
      rw [List.append_nil] at this; exact this
    refine ⟨{ d4 with r := valL (d4.rest.takeWhile isNum) - 1, k := d4.k + (d4.rest.takeWhile isNum).length }, ?_, s4, by show d4.k + (d4.rest.takeWhile isNum).length = _; rw [hp]⟩
    unfold Rd.row; rw [if_pos (by rw [hp]; exact isRow_digL r r0 r1)]
  have h6 : d5.fin = none := by
    unfold readS at h; rw [h1] at h; simp only [Option.bind_some] at h; rw [h2] at h; simp only [Option.bind_some] at h; rw [h3] at h; simp only [Option.bind_some] at h; rw [h4] at h; simp only [Option.bind_some] at h; rw [h5] at h; exact h
  unfold Rd.fin at h6
  have hk : d5.k = d5.s.size := by
    rw [s5]
    rw [t1] at k1
    unfold tailL at k1
    simp only [List.length_append] at k1
    omega
  rw [if_pos hk] at h6; cases h6
theorem bytes_colL (c : Int) : Bytes (colL c) := by
  intro x hx; have := cap_bd (isCap_colL c x hx); omega

theorem bytes_digL (u : Nat) : Bytes (digL u) := by
  intro x hx; have := num_bd (isNum_digL u x hx); omega
theorem bytes_dol (b : Bool) : Bytes (dol b) := by
  intro x hx; have := dol_all b x hx; rw [decide_eq_true_iff] at this; omega
theorem bytes_textL (s : ByteArray) (c r : Int) (ac ar : Bool) : Bytes (textL (sb s) c r ac ar) := by
  by_cases h : mayL (sb s) c r = true
  · rw [textL_eq _ _ _ _ _ h]
    unfold tailL
    refine Bytes.append ?_ ((bytes_dol ac).append ((bytes_colL c).append ((bytes_dol ar).append (bytes_digL _))))
    split
    · exact Bytes.nil
    · exact Bytes.append (sb_bd s) (by intro x hx; simp at hx; omega)
  · unfold textL; rw [if_neg h]; exact Bytes.nil
theorem sb_inj {a b : ByteArray} (h : sb a = sb b) : a = b := by rw [← str_sb a, ← str_sb b, h]
theorem Says.text {s : ByteArray} {c r : Int} {ac ar : Bool} {e : Ending} (hm : mayL (sb s) c r = true) (h : Says (sb (strOfNums (textL (sb s) c r ac ar))) e) : e = .returned (.tuple #[.agg #[.string s, .int .i64 c, .int .i64 r, .bool ac, .bool ar], .bool true]) := by
  rw [sb_str _ (bytes_textL s c r ac ar)] at h
  rcases h with ⟨s', c', r', ac', ar', _, h2, h3, h4⟩ | ⟨h1, _⟩
  · obtain ⟨e1, e2, e3, e4, e5⟩ := textL_inj h2 hm h3
    rw [h4, sb_inj e1, e2, e3, e4, e5]
  · exact absurd rfl (h1 _ _ _ _ _ hm)
end Go.Proofs.YtpnnchjmaggmpaaGreatDoor

namespace Go.Proofs.YtpnnchjmaggmpaaGreatDoor
open Go.RowKit

set_option maxHeartbeats 400000 in
theorem isCapital_any (c : Int) (_h0 : 0 ≤ c) (_h1 : c ≤ 255) (w : World) :
    Calls Tryz.prog 169 #[.int .u8 c] w fun e w' => e = .returned (.bool (isCap c)) ∧ w = w' := by
  go_enter Tryz.func169, Tryz.ntmps169
  go_wp2
  all_goals go_ret
  all_goals exact ⟨ret_bool (by unfold isCap; first | rfl | (symm; rw [decide_eq_true_iff]; omega) | (symm; rw [decide_eq_false_iff_not]; omega) | (rw [decide_eq_decide]; omega)), rfl⟩

set_option maxHeartbeats 400000 in
theorem isDigit_any (c : Int) (_h0 : 0 ≤ c) (_h1 : c ≤ 255) (w : World) :
    Calls Tryz.prog 152 #[.int .u8 c] w fun e w' => e = .returned (.bool (isNum c)) ∧ w = w' := by
  go_enter Tryz.func152, Tryz.ntmps152
  go_wp2
  all_goals go_ret
  all_goals exact ⟨ret_bool (by unfold isNum; first | rfl | (symm; rw [decide_eq_true_iff]; omega) | (symm; rw [decide_eq_false_iff_not]; omega) | (rw [decide_eq_decide]; omega)), rfl⟩

theorem isLet_cap {c : Int} (h : isCap c = true) : isLet c = true := by unfold isCap at h; unfold isLet; rw [decide_eq_true_iff] at h ⊢; omega
theorem isLet_nocap {c : Int} (h : isCap c = false) : isLet c = decide (97 ≤ c ∧ c ≤ 122) := by unfold isCap at h; unfold isLet; rw [decide_eq_false_iff_not] at h; rw [decide_eq_decide]; omega

set_option maxHeartbeats 400000 in
theorem isLetter_any (c : Int) (_h0 : 0 ≤ c) (_h1 : c ≤ 255) (w : World) :
    Calls Tryz.prog 151 #[.int .u8 c] w fun e w' => e = .returned (.bool (isLet c)) ∧ w = w' := by
  by_cases hc : isCap c = true
  · have hl := isLet_cap hc
    have HL := Lib.hid hl; clear hl
    go_enter Tryz.func151, Tryz.ntmps151
    go_wp2_with (go_at_call 169; ((with_reducible refine (isCapital_any _ ?_ ?_ _).mono ?_); (first | omega | skip); (first | omega | skip); rintro e w' ⟨rfl, rfl⟩))
    all_goals go_ret
    all_goals exact ⟨ret_bool (by rw [HL.out]), rfl⟩
  · have hc' : isCap c = false := by simpa using hc
    have hl := isLet_nocap hc'
    have HL := Lib.hid hl; clear hl hc
    go_enter Tryz.func151, Tryz.ntmps151
    go_wp2_with (go_at_call 169; ((with_reducible refine (isCapital_any _ ?_ ?_ _).mono ?_); (first | omega | skip); (first | omega | skip); rintro e w' ⟨rfl, rfl⟩))
    all_goals go_ret
    all_goals exact ⟨ret_bool (by rw [HL.out]; first | rfl | (symm; rw [decide_eq_true_iff]; omega) | (symm; rw [decide_eq_false_iff_not]; omega) | (rw [decide_eq_decide]; omega)), rfl⟩

theorem nameL_nil (s : ByteArray) (h : s.size = 0) : nameL (sb s) = false := by
  unfold nameL; rw [length_sb, h, Bool.and_eq_false_iff]; right; rfl
theorem nameL_long (s : ByteArray) (h : 12 < s.size) : nameL (sb s) = false := by
  unfold nameL; rw [length_sb, Bool.and_eq_false_iff]; right; rw [decide_eq_false_iff_not]; omega

set_option maxRecDepth 100000 in
set_option maxHeartbeats 400000 in
theorem name_any (s : ByteArray) (w : World) (_hs : s.size ≤ 1000000) :
    Calls Tryz.prog 133 #[.string s] w fun e w' => e = .returned (.bool (nameL (sb s))) ∧ w = w' := by
  by_cases h0 : s.size = 0
  · have hz := sb_nil s h0
    have hno := nameL_nil s h0
    have HNO := Lib.hid hno; clear hno
    subst hz
    clear h0 _hs
    go_enter Tryz.func133, Tryz.ntmps133
    go_wp2_with fail
    all_goals go_ret
    all_goals exact ⟨ret_bool HNO.out.symm, rfl⟩
  · have hne := text_ne0 s h0
    have hne2 : s.toList.isEmpty = false := by cases hq : s.toList with | nil => exact absurd hq hne | cons a l => rfl
    by_cases h12 : 12 < s.size
    · have hno := nameL_long s h12
      have HNO := Lib.hid hno; clear hno
      have hi12 : (12 : Int) < (s.size : Int) := by omega
      clear h0
      go_enter Tryz.func133, Tryz.ntmps133
      go_wp2_with fail
      all_goals go_ret
      all_goals exact ⟨ret_bool HNO.out.symm, rfl⟩
    · have hi12 : ¬ (12 : Int) < (s.size : Int) := by omega
      have hp0 : 0 < s.size := by omega
      obtain ⟨a, ha⟩ : ∃ a : Int, (s[0].toNat : Int) = a := ⟨_, rfl⟩
      have ha1 : 0 ≤ a ∧ a ≤ 255 := by have := s[0].toNat_lt; omega
      have hga : (sb s).getD 0 0 = a := by rw [sb_getD s 0 hp0, ha]
      have HGA := Lib.hid hga; clear hga
      by_cases hl : isLet a = true
      · have hin : ∀ j, j < 1 → inName j ((sb s).getD j 0) = true := by
          intro j hj; have : j = 0 := by omega
          subst this; rw [HGA.out]; unfold inName; rw [hl]; rfl
        have HIN := Lib.hid hin; clear hin
        clear h0
        go_enter Tryz.func133, Tryz.ntmps133
        go_wp2_with (go_at_call 151; ((with_reducible refine (isLetter_any _ ?_ ?_ _).mono ?_); (first | omega | skip); (first | omega | skip); rintro e w' ⟨rfl, rfl⟩))
        clear hl
        go_loopw [3] (fun i wr => ∃ k : Nat, 1 ≤ k ∧ k ≤ s.size ∧ i = .int .i64 k ∧ Hid (∀ j, j < k → inName j ((sb s).getD j 0) = true) ∧ w = wr)
          (fun i _ => s.size - (intOf i).toNat)
        case atStart => exact ⟨1, by omega, by omega, rfl, HIN, rfl⟩
        case round =>
          obtain ⟨k, hk1, hk, rfl, HG, rfl⟩ := hrel
          by_cases hlt : k < s.size
          · have hki : (k : Int) < (s.size : Int) := by omega
            obtain ⟨b, hb⟩ : ∃ b : Int, (s[k].toNat : Int) = b := ⟨_, rfl⟩
            have hb1 : 0 ≤ b ∧ b ≤ 255 := by have := s[k].toNat_lt; omega
            have hgb : (sb s).getD k 0 = b := by rw [sb_getD s k hlt, hb]
            have HGB := Lib.hid hgb; clear hgb
            by_cases hl : isLet b = true
            · go_wp2_with (first
                | (go_at_call 151; ((with_reducible refine (isLetter_any _ ?_ ?_ _).mono ?_); (first | omega | skip); (first | omega | skip); rintro e w' ⟨rfl, rfl⟩)))
              go_roundw
              case rel =>
                refine ⟨k + 1, by omega, by omega, by go_num, Lib.hid ?_, by trivial⟩
                intro j hj
                by_cases h1 : j < k
                · exact HG.out j h1
                · rw [show j = k from by omega, HGB.out]; unfold inName; rw [hl, Bool.true_or]
              case measure => simp [intOf]; omega
            · have hl' : isLet b = false := by simpa using hl
              clear hl
              by_cases hn : isNum b = true
              · go_wp2_with (first
                  | (go_at_call 151; ((with_reducible refine (isLetter_any _ ?_ ?_ _).mono ?_); (first | omega | skip); (first | omega | skip); rintro e w' ⟨rfl, rfl⟩))
                  | (go_at_call 152; ((with_reducible refine (isDigit_any _ ?_ ?_ _).mono ?_); (first | omega | skip); (first | omega | skip); rintro e w' ⟨rfl, rfl⟩)))
                go_roundw
                case rel =>
                  refine ⟨k + 1, by omega, by omega, by go_num, Lib.hid ?_, by trivial⟩
                  intro j hj
                  by_cases h1 : j < k
                  · exact HG.out j h1
                  · rw [show j = k from by omega, HGB.out]; unfold inName; rw [hl', hn, decide_eq_true (by omega : 0 < k)]; rfl
                case measure => simp [intOf]; omega
              · have hn' : isNum b = false := by simpa using hn
                clear hn
                have hno := nameL_bad s k hlt (by rw [HGB.out]; unfold inName; rw [hl', hn', Bool.and_false]; rfl)
                have HNO := Lib.hid hno; clear hno
                go_wp2_with (first
                  | (go_at_call 151; ((with_reducible refine (isLetter_any _ ?_ ?_ _).mono ?_); (first | omega | skip); (first | omega | skip); rintro e w' ⟨rfl, rfl⟩))
                  | (go_at_call 152; ((with_reducible refine (isDigit_any _ ?_ ?_ _).mono ?_); (first | omega | skip); (first | omega | skip); rintro e w' ⟨rfl, rfl⟩)))
                all_goals go_ret
                all_goals exact ⟨ret_bool HNO.out.symm, rfl⟩
          · have hki : ¬ (k : Int) < (s.size : Int) := by omega
            have hno := nameL_all s (fun j hj => HG.out j (by omega))
            rw [decide_eq_true (by omega)] at hno
            have HNO := Lib.hid hno; clear hno
            go_wp2_with fail
            all_goals go_ret
            all_goals exact ⟨ret_bool HNO.out.symm, rfl⟩
      · have hl' : isLet a = false := by simpa using hl
        have hno := nameL_bad s 0 hp0 (by rw [HGA.out]; unfold inName; rw [hl']; rfl)
        have HNO := Lib.hid hno; clear hno hl h0
        go_enter Tryz.func133, Tryz.ntmps133
        go_wp2_with (go_at_call 151; ((with_reducible refine (isLetter_any _ ?_ ?_ _).mono ?_); (first | omega | skip); (first | omega | skip); rintro e w' ⟨rfl, rfl⟩))
        all_goals go_ret
        all_goals exact ⟨ret_bool HNO.out.symm, rfl⟩
end Go.Proofs.YtpnnchjmaggmpaaGreatDoor

namespace Go.Proofs.YtpnnchjmaggmpaaGreatDoor
open Go.RowKit

theorem enc_one : ∀ m : Nat, m < 26 → Utf8.encode (65 + (m : Int)) = strOfNums [65 + (m : Int)] := by decide +kernel
theorem enc_cap (x : Int) (h0 : 65 ≤ x) (h1 : x ≤ 90) : Utf8.encode x = strOfNums [x] := by
  have := enc_one (x - 65).toNat (by omega)
  rw [show (65 : Int) + ((x - 65).toNat : Int) = x from by omega] at this; exact this
theorem str_app (a b : List Int) (A B : ByteArray) (h : A = strOfNums a) (k : B = strOfNums b) : A ++ B = strOfNums (a ++ b) := by rw [h, k, str_append]

def RdAt (w : World) (b : Nat) (d : Rd) : Prop := w.heap[b]? = some (.cells d.cells 167)
theorem RdAt.lt {w : World} {b : Nat} {d : Rd} (h : RdAt w b d) : b < w.heap.size := (Array.getElem?_eq_some_iff.1 h).1
theorem RdAt.drewN {w : World} {b : Nat} {d : Rd} (h : RdAt w b d) (n : Nat) : RdAt (w.drewN n) b d := h
theorem RdAt.below {w w' : World} {B b : Nat} {d : Rd} (h : RdAt w b d) (hb : Below B w w') (hB : b < B) : RdAt w' b d := by unfold RdAt; rw [hb.block b hB]; exact h
theorem RdAt.facts {w : World} {b : Nat} {d : Rd} (h : RdAt w b d) :
    w.cell? ⟨b, 0, none⟩ = some (.string d.s) ∧ w.cell? ⟨b, 1, none⟩ = some (.int .i64 d.k) ∧ w.cell? ⟨b, 2, none⟩ = some (.string d.sh) ∧ w.cell? ⟨b, 3, none⟩ = some (.int .i64 d.c) ∧ w.cell? ⟨b, 4, none⟩ = some (.int .i64 d.r) ∧ w.cell? ⟨b, 5, none⟩ = some (.bool d.ac) ∧ w.cell? ⟨b, 6, none⟩ = some (.bool d.ar) :=
  ⟨by rw [cell_of_row w b 0 _ _ _ h]; rfl, by rw [cell_of_row w b 1 _ _ _ h]; rfl, by rw [cell_of_row w b 2 _ _ _ h]; rfl, by rw [cell_of_row w b 3 _ _ _ h]; rfl, by rw [cell_of_row w b 4 _ _ _ h]; rfl, by rw [cell_of_row w b 5 _ _ _ h]; rfl, by rw [cell_of_row w b 6 _ _ _ h]; rfl⟩
theorem RdAt.frozen {w : World} {b : Nat} {d : Rd} (h : RdAt w b d) (j : Nat) : w.frozen? ⟨b, j, none⟩ = false := frozen_of_row w b j _ _ h
theorem RdAt.setK {w : World} {b : Nat} {d : Rd} (h : RdAt w b d) (k : Nat) : RdAt (w.setCell ⟨b, 1, none⟩ (.int .i64 (k : Int))) b { d with k := k } := by unfold RdAt; rw [heap_setCell_same w b 1 _ _ _ h]; rfl
theorem RdAt.setSh {w : World} {b : Nat} {d : Rd} (h : RdAt w b d) (s : ByteArray) : RdAt (w.setCell ⟨b, 2, none⟩ (.string s)) b { d with sh := s } := by unfold RdAt; rw [heap_setCell_same w b 2 _ _ _ h]; rfl
theorem RdAt.setC {w : World} {b : Nat} {d : Rd} (h : RdAt w b d) (c : Int) : RdAt (w.setCell ⟨b, 3, none⟩ (.int .i64 c)) b { d with c := c } := by unfold RdAt; rw [heap_setCell_same w b 3 _ _ _ h]; rfl
theorem RdAt.setR {w : World} {b : Nat} {d : Rd} (h : RdAt w b d) (c : Int) : RdAt (w.setCell ⟨b, 4, none⟩ (.int .i64 c)) b { d with r := c } := by unfold RdAt; rw [heap_setCell_same w b 4 _ _ _ h]; rfl
theorem RdAt.setAc {w : World} {b : Nat} {d : Rd} (h : RdAt w b d) (x : Bool) : RdAt (w.setCell ⟨b, 5, none⟩ (.bool x)) b { d with ac := x } := by unfold RdAt; rw [heap_setCell_same w b 5 _ _ _ h]; rfl
theorem RdAt.setAr {w : World} {b : Nat} {d : Rd} (h : RdAt w b d) (x : Bool) : RdAt (w.setCell ⟨b, 6, none⟩ (.bool x)) b { d with ar := x } := by unfold RdAt; rw [heap_setCell_same w b 6 _ _ _ h]; rfl

def Part (o : Option Rd) (b : Nat) (w : World) (e : Ending) (w' : World) : Prop :=
  w.grownBy w' (some b) ∧ ((∃ d', o = some d' ∧ e = .returned (.bool true) ∧ RdAt w' b d') ∨ (o = none ∧ e = .returned (.bool false)))

set_option maxHeartbeats 400000 in
theorem fin_any (b : Nat) (d : Rd) (w : World) (h : RdAt w b d) (_hs : d.s.size ≤ 1000000) (_hk : d.k ≤ d.s.size) :
    Calls Tryz.prog 164 #[.pointer (some ⟨b, 0, none⟩)] w (Part d.fin b w) := by
  obtain ⟨c0, c1, c2, c3, c4, c5, c6⟩ := h.facts
  clear c2 c3 c4 c5 c6
  have HR := Lib.hid h; clear h
  by_cases hk : d.k = d.s.size
  · have hf : d.fin = some d := by unfold Rd.fin; rw [if_pos hk]
    have HF := Lib.hid hf; clear hf
    have hi : ((d.k : Int) == (d.s.size : Int)) = true := beq_iff_eq.2 (by omega)
    go_enter Tryz.func164, Tryz.ntmps164
    go_wp2_with fail
    go_quiet (fail)
    go_wp2_with fail
    go_ret
    exact ⟨grownBy.drewN' (grownBy.refl' _ _) _, .inl ⟨d, HF.out, by simp, HR.out.drewN _⟩⟩
  · have hf : d.fin = none := by unfold Rd.fin; rw [if_neg hk]
    have HF := Lib.hid hf; clear hf
    have hi : ((d.k : Int) == (d.s.size : Int)) = false := beq_eq_false_iff_ne.2 (by omega)
    go_enter Tryz.func164, Tryz.ntmps164
    go_wp2_with fail
    go_quiet (fail)
    go_wp2_with fail
    go_ret
    exact ⟨grownBy.drewN' (grownBy.refl' _ _) _, .inr ⟨HF.out, by simp⟩⟩

theorem rest_get (d : Rd) (h : d.k < d.s.size) : d.rest.head? = some ((d.s[d.k].toNat : Nat) : Int) := by
  unfold Rd.rest; rw [List.head?_drop, sb_at d.s d.k h]
theorem rest_end (d : Rd) (h : d.s.size ≤ d.k) : d.rest = [] := by
  unfold Rd.rest; rw [List.drop_eq_nil_iff, length_sb]; exact h

set_option maxRecDepth 100000 in
set_option maxHeartbeats 400000 in
theorem mark_any (b : Nat) (d : Rd) (w : World) (h : RdAt w b d) (_hs : d.s.size ≤ 1000000) (_hk : d.k ≤ d.s.size) :
    Calls Tryz.prog 177 #[.pointer (some ⟨b, 0, none⟩)] w fun e w' => e = .returned (.bool d.mark) ∧ RdAt w' b { d with k := d.k + (dol d.mark).length } ∧ w.grownBy w' (some b) := by
  obtain ⟨c0, c1, c2, c3, c4, c5, c6⟩ := h.facts
  clear c2 c3 c4 c5 c6
  have f1 := h.frozen 1
  have HR := Lib.hid h; clear h
  by_cases hk : d.k = d.s.size
  · have hf : d.mark = false := by unfold Rd.mark; rw [rest_end d (by omega)]; rfl
    have HF := Lib.hid hf; clear hf
    have hi : ((d.k : Int) == (d.s.size : Int)) = true := beq_iff_eq.2 (by omega)
    go_enter Tryz.func177, Tryz.ntmps177
    go_wp2_with fail
    go_quiet (fail)
    go_wp2_with fail
    go_ret
    rw [HF.out]
    exact ⟨rfl, HR.out.drewN _, grownBy.drewN' (grownBy.refl' _ _) _⟩
  · have hi : ((d.k : Int) == (d.s.size : Int)) = false := beq_eq_false_iff_ne.2 (by omega)
    have hlt : d.k < d.s.size := by omega
    have hki : (d.k : Int) < (d.s.size : Int) := by omega
    obtain ⟨a, ha⟩ : ∃ a : Int, (d.s[d.k].toNat : Int) = a := ⟨_, rfl⟩
    have ha1 : 0 ≤ a ∧ a ≤ 255 := by have := d.s[d.k].toNat_lt; omega
    have hh := rest_get d hlt
    rw [ha] at hh
    by_cases h36 : a = 36
    · have hf : d.mark = true := by unfold Rd.mark; rw [hh, h36]; rfl
      have HF := Lib.hid hf; clear hf hh
      have hj : (a == 36) = true := beq_iff_eq.2 h36
      have hj2 : (a != 36) = false := by rw [bne, hj]; rfl
      clear h36
      go_enter Tryz.func177, Tryz.ntmps177
      go_wp2_with fail
      go_quiet (fail)
      go_wp2_with fail
      go_ret
      rw [HF.out]
      exact ⟨rfl, (HR.out.drewN _).setK (d.k + 1), grownBy.setCell' (grownBy.drewN' (grownBy.refl' _ _) _) _ _⟩
    · have hf : d.mark = false := by unfold Rd.mark; rw [hh, decide_eq_false_iff_not]; intro h; injection h with h; exact h36 h
      have HF := Lib.hid hf; clear hf hh
      have hj : (a == 36) = false := beq_eq_false_iff_ne.2 h36
      have hj2 : (a != 36) = true := by rw [bne, hj]; rfl
      clear h36
      go_enter Tryz.func177, Tryz.ntmps177
      go_wp2_with fail
      go_quiet (fail)
      go_wp2_with fail
      go_ret
      rw [HF.out]
      exact ⟨rfl, HR.out.drewN _, grownBy.drewN' (grownBy.refl' _ _) _⟩

set_option maxHeartbeats 400000 in
theorem absCol_any (b : Nat) (d : Rd) (w : World) (h : RdAt w b d) (_hs : d.s.size ≤ 1000000) (_hk : d.k ≤ d.s.size) :
    Calls Tryz.prog 160 #[.pointer (some ⟨b, 0, none⟩)] w (Part d.absCol b w) := by
  have HR := Lib.hid h; clear h
  go_enter Tryz.func160, Tryz.ntmps160
  go_wp2_with (go_at_call 177; ((with_reducible refine (mark_any b d _ HR.out ?_ ?_).mono ?_); (first | omega | skip); (first | omega | skip); rintro e w1 ⟨rfl, h1, h2⟩; obtain ⟨c0, c1, c2, c3, c4, c5, c6⟩ := h1.facts; have f5 := h1.frozen 5; have H1 := Lib.hid h1; clear h1; have H2 := Lib.hid h2; clear h2))
  go_ret
  exact ⟨grownBy.setCell' H2.out _ _, .inl ⟨_, rfl, rfl, H1.out.setAc _⟩⟩
set_option maxHeartbeats 400000 in
theorem absRow_any (b : Nat) (d : Rd) (w : World) (h : RdAt w b d) (_hs : d.s.size ≤ 1000000) (_hk : d.k ≤ d.s.size) :
    Calls Tryz.prog 162 #[.pointer (some ⟨b, 0, none⟩)] w (Part d.absRow b w) := by
  have HR := Lib.hid h; clear h
  go_enter Tryz.func162, Tryz.ntmps162
  go_wp2_with (go_at_call 177; ((with_reducible refine (mark_any b d _ HR.out ?_ ?_).mono ?_); (first | omega | skip); (first | omega | skip); rintro e w1 ⟨rfl, h1, h2⟩; obtain ⟨c0, c1, c2, c3, c4, c5, c6⟩ := h1.facts; have f6 := h1.frozen 6; have H1 := Lib.hid h1; clear h1; have H2 := Lib.hid h2; clear h2))
  go_ret
  exact ⟨grownBy.setCell' H2.out _ _, .inl ⟨_, rfl, rfl, H1.out.setAr _⟩⟩
end Go.Proofs.YtpnnchjmaggmpaaGreatDoor

namespace Go.Proofs.YtpnnchjmaggmpaaGreatDoor
open Go.RowKit

theorem quiet_call {f : FuncId} {args : Array Value} {w : World} {n : Nat} {v : Value} (h : Calls Tryz.prog f args (w.drewN n) fun e w' => e = .returned v ∧ w.drewN n = w') : Calls Tryz.prog f args (w.drewN n) fun e w'' => e = .returned v ∧ ∃ m, w'' = w.drewN m :=
  Calls.quiet_of_same (h.mono fun _ _ ⟨a, b⟩ => ⟨a, b.symm⟩)
theorem RdAt.setNext {w : World} {b m p : Nat} {d : Rd} (h : RdAt w b { d with k := d.k + m }) (hp : d.k + m = p) (n : Nat) : RdAt ((w.drewN n).setCell ⟨b, 1, none⟩ (.int .i64 ((p : Int) + 1))) b { d with k := d.k + (m + 1) } := by
  subst hp; exact (h.drewN n).setK (d.k + m + 1)
theorem take_next (d : Rd) (m : Nat) (h : d.k + m < d.s.size) : d.rest.take (m + 1) = d.rest.take m ++ [((d.s[d.k + m].toNat : Nat) : Int)] := by
  unfold Rd.rest; rw [List.take_add_one, List.getElem?_drop, sb_at d.s _ h]; rfl
theorem length_rest (d : Rd) : d.rest.length = d.s.size - d.k := by unfold Rd.rest; rw [List.length_drop, length_sb]
theorem span_stop (p : Int → Bool) (l : List Int) (m : Nat) (h : ∀ x ∈ l.take m, p x = true) (h2 : ∀ x, l[m]? = some x → p x = false) : l.takeWhile p = l.take m := by
  have e := take_part p (l.take m) (l.drop m) h (fun x hx => h2 x (by rw [List.head?_drop] at hx; exact hx))
  rw [List.take_append_drop] at e; exact e
theorem span_over (p : Int → Bool) (l : List Int) (m : Nat) (h : ∀ x ∈ l.take m, p x = true) : l.takeWhile p = l.take m ++ (l.drop m).takeWhile p := by
  have e := take_more p (l.take m) (l.drop m) h
  rw [List.take_append_drop] at e; exact e
theorem all_snoc {p : Int → Bool} {l : List Int} {x : Int} (h : ∀ y ∈ l, p y = true) (hx : p x = true) : ∀ y ∈ l ++ [x], p y = true := by
  intro y hy; rw [List.mem_append] at hy
  rcases hy with hy | hy
  · exact h y hy
  · simp at hy; rw [hy]; exact hx

def colV (l : List Int) : Int := l.foldl (fun n x => 26 * n + (x - 64)) 0
theorem colV_snoc (l : List Int) (x : Int) : colV (l ++ [x]) = 26 * colV l + (x - 64) := by unfold colV; rw [List.foldl_append]; rfl
theorem col_small (l : List Int) (h : ∀ x ∈ l, isCap x = true) (hl : l.length ≤ 2) : colV l ≤ 702 ∧ (l = [] ∧ colV l = 0 ∧ isCol l = false ∨ 0 < colV l ∧ isCol l = true ∧ readColL l = colV l - 1) := by
  match l, hl, h with
  | [], _, _ => exact ⟨by decide, .inl ⟨rfl, rfl, rfl⟩⟩
  | [a], _, h =>
    have ha := h a (by simp)
    have := cap_bd ha
    have hv : colV [a] = a - 64 := by unfold colV; simp
    have hi : isCol [a] = true := by unfold isCol; simp [ha]
    refine ⟨by omega, .inr ⟨by omega, hi, ?_⟩⟩
    unfold readColL; rw [if_pos hi, hv]; simp; omega
  | [a, b], _, h =>
    have ha := h a (by simp)
    have hb := h b (by simp)
    have g1 := cap_bd ha
    have g2 := cap_bd hb
    have hv : colV [a, b] = 26 * (a - 64) + (b - 64) := by unfold colV; simp
    have hi : isCol [a, b] = true := by unfold isCol; simp [ha, hb]
    refine ⟨by omega, .inr ⟨by omega, hi, ?_⟩⟩
    unfold readColL; rw [if_pos hi, hv]; simp; omega
theorem isCol_long {l : List Int} (h : 2 < l.length) : isCol l = false := by unfold isCol; rw [decide_eq_false (by omega), Bool.false_and]
theorem col_end (d : Rd) (m : Nat) (v : Int) (b : Nat) (w wr : World) (hv : colV (d.rest.take m) = v) (hall : ∀ x ∈ d.rest.take m, isCap x = true) (hm : m ≤ 2) (hk : d.k + m ≤ d.s.size) (hstop : ∀ x, d.rest[m]? = some x → isCap x = false) (e : Ending) (he : e = .returned (.bool (decide (0 < v))))
    (hr : RdAt wr b { { d with k := d.k + m } with c := v - 1 }) (hg : w.grownBy wr (some b)) : Part d.col b w e wr := by
  subst he
  have hsp := span_stop isCap d.rest m hall hstop
  have hlen : (d.rest.take m).length = m := by rw [List.length_take, length_rest]; omega
  refine ⟨hg, ?_⟩
  unfold Rd.col
  rw [hsp]
  rcases (col_small (d.rest.take m) hall (by omega)).2 with ⟨h1, h2, h3⟩ | ⟨h1, h2, h3⟩
  · rw [h3, if_neg (by simp)]
    exact .inr ⟨rfl, by rw [decide_eq_false (by omega)]⟩
  · rw [if_pos h2]
    refine .inl ⟨_, rfl, by rw [decide_eq_true (by omega)], ?_⟩
    rw [h3, hv, hlen]; exact hr

set_option maxRecDepth 100000 in
set_option maxHeartbeats 800000 in
theorem colPart_any (b : Nat) (d : Rd) (w : World) (h : RdAt w b d) (_hs : d.s.size ≤ 1000000) (_hk : d.k ≤ d.s.size) :
    Calls Tryz.prog 161 #[.pointer (some ⟨b, 0, none⟩)] w (Part d.col b w) := by
  have HR := Lib.hid h; clear h
  go_enter Tryz.func161, Tryz.ntmps161
  go_wp2_with fail
  go_loopw [3] (fun n wr => ∃ (m : Nat) (v : Int), n = .int .i64 v ∧ 0 ≤ v ∧ v ≤ 702 ∧ d.k + m ≤ d.s.size ∧ Hid (colV (d.rest.take m) = v ∧ (∀ x ∈ d.rest.take m, isCap x = true) ∧ m ≤ 2) ∧ Hid (RdAt wr b { d with k := d.k + m }) ∧ Hid (w.grownBy wr (some b)))
    (fun n _ => 800 - (intOf n).toNat)
  case atStart => exact ⟨0, 0, rfl, by omega, by omega, by omega, Lib.hid ⟨rfl, by simp, by omega⟩, Lib.hid HR.out, Lib.hid (grownBy.refl' _ _)⟩
  case round =>
    obtain ⟨m, v, rfl, hv0, hv1, hkm, HM, HRD, HG⟩ := hrel
    obtain ⟨c0, c1, c2, c3, c4, c5, c6⟩ := HRD.out.facts
    have f1 := HRD.out.frozen 1
    have f3 := HRD.out.frozen 3
    clear c2 c4 c5 c6
    simp only at c0 c1 c3
    obtain ⟨p, hp⟩ : ∃ p : Nat, d.k + m = p := ⟨_, rfl⟩
    rw [hp] at c1
    by_cases hlt : p < d.s.size
    · have hlt2 : (p : Int) < (d.s.size : Int) := by omega
      obtain ⟨a, ha⟩ : ∃ a : Int, (d.s[p].toNat : Int) = a := ⟨_, rfl⟩
      have ha1 : 0 ≤ a ∧ a ≤ 255 := by have := d.s[p].toNat_lt; omega
      have hnx : d.rest.take (m + 1) = d.rest.take m ++ [a] := by subst hp; rw [take_next d m hlt, ha]
      have hat : d.rest[m]? = some a := by subst hp; unfold Rd.rest; rw [List.getElem?_drop, sb_at d.s _ hlt, ha]
      have HNX := Lib.hid hnx; clear hnx
      have HAT := Lib.hid hat; clear hat
      have HP := Lib.hid hp; clear hp
      by_cases hc : isCap a = true
      · have hcb := cap_bd hc
        have hvn : colV (d.rest.take (m + 1)) = 26 * v + (a - 64) := by rw [HNX.out, colV_snoc, HM.out.1]
        have hall := all_snoc HM.out.2.1 hc
        rw [← HNX.out] at hall
        have HVN := Lib.hid hvn; clear hvn
        have HALL := Lib.hid hall; clear hall
        by_cases hbig : 702 < v * 26 + (a - 65) + 1
        · have hno : d.col = none := by
            have h2 : ¬ m + 1 ≤ 2 := by
              intro h2
              have := (col_small _ HALL.out (by rw [List.length_take]; omega)).1
              rw [HVN.out] at this; omega
            have h3 : isCol (d.rest.takeWhile isCap) = false := by
              apply isCol_long
              rw [span_over isCap d.rest (m + 1) HALL.out, List.length_append, List.length_take, length_rest]
              have := HP.out; omega
            unfold Rd.col; rw [h3]; rfl
          have HNO := Lib.hid hno; clear hno
          go_wp2_with fail
          go_quiet ((go_at_call 169; exact quiet_call (isCapital_any _ (by omega) (by omega) _)))
          go_wp2_with fail
          go_quiet (fail)
          go_wp2_with fail
          go_ret
          exact ⟨grownBy.drewN' HG.out _, .inr ⟨HNO.out, rfl⟩⟩
        · go_wp2_with fail
          go_quiet ((go_at_call 169; exact quiet_call (isCapital_any _ (by omega) (by omega) _)))
          go_wp2_with fail
          go_quiet (fail)
          go_wp2_with fail
          go_roundw
          case rel =>
            have hm2 : m + 1 ≤ 2 := by
              have h3 := HM.out.2.2
              by_cases h : m = 2
              · exfalso
                have hl : (d.rest.take m).length = 2 := by rw [List.length_take, length_rest]; have := HP.out; omega
                match hq : d.rest.take m, hl with
                | [x, y], _ =>
                  have h1 := HM.out.2.1
                  have h4 := HM.out.1
                  rw [hq] at h1 h4
                  have g1 := cap_bd (h1 x (by simp))
                  have g2 := cap_bd (h1 y (by simp))
                  have hv : colV [x, y] = 26 * (x - 64) + (y - 64) := by unfold colV; simp
                  omega
              · omega
            refine ⟨m + 1, v * 26 + (a - 65) + 1, rfl, by omega, by omega, by have := HP.out; omega, Lib.hid ⟨by rw [HVN.out]; omega, HALL.out, hm2⟩, Lib.hid ?_, Lib.hid (grownBy.setCell' (grownBy.drewN' HG.out _) _ _)⟩
            exact RdAt.setNext HRD.out HP.out _
          case measure => simp [intOf]; omega
      · have hc' : isCap a = false := by simpa using hc
        clear hc
        have hend := fun (e : Ending) (wz : World) => col_end d m v b w wz HM.out.1 HM.out.2.1 HM.out.2.2 hkm (fun x hx => by rw [HAT.out] at hx; injection hx with hx; rw [← hx]; exact hc') e
        have HEND := Lib.hid hend; clear hend
        go_wp2_with fail
        go_quiet ((go_at_call 169; exact quiet_call (isCapital_any _ (by omega) (by omega) _)))
        go_wp2_with fail
        go_ret
        exact HEND.out _ _ rfl ((HRD.out.drewN _).setC _) (grownBy.setCell' (grownBy.drewN' HG.out _) _ _)
    · have hlt2 : ¬ (p : Int) < (d.s.size : Int) := by omega
      have hend := fun (e : Ending) (wz : World) => col_end d m v b w wz HM.out.1 HM.out.2.1 HM.out.2.2 hkm (fun x hx => by have h1 := (List.getElem?_eq_some_iff.1 hx).1; rw [length_rest] at h1; omega) e
      have HEND := Lib.hid hend; clear hend
      clear hp
      go_wp2_with fail
      go_quiet (fail)
      go_wp2_with fail
      go_ret
      exact HEND.out _ _ rfl ((HRD.out.drewN _).setC _) (grownBy.setCell' (grownBy.drewN' HG.out _) _ _)

theorem row_end (d : Rd) (m : Nat) (v : Int) (b : Nat) (w wr : World) (hv : valL (d.rest.take m) = v) (hall : ∀ x ∈ d.rest.take m, isNum x = true) (hz : m = 0 ∧ v = 0 ∨ 1 ≤ v ∧ d.rest.take m ≠ [] ∧ (d.rest.take m).head? ≠ some 48) (hv9 : v ≤ 999) (hk : d.k + m ≤ d.s.size) (hstop : ∀ x, d.rest[m]? = some x → isNum x = false) (e : Ending) (he : e = .returned (.bool (decide (0 < v))))
    (hr : RdAt wr b { { d with k := d.k + m } with r := v - 1 }) (hg : w.grownBy wr (some b)) : Part d.row b w e wr := by
  subst he
  have hsp := span_stop isNum d.rest m hall hstop
  have hlen : (d.rest.take m).length = m := by rw [List.length_take, length_rest]; omega
  refine ⟨hg, ?_⟩
  unfold Rd.row
  rw [hsp]
  rcases hz with ⟨h1, h2⟩ | ⟨h1, h2, h3⟩
  · have : isRow (d.rest.take m) = false := by rw [h1]; rfl
    rw [this, if_neg (by simp)]
    exact .inr ⟨rfl, by rw [decide_eq_false (by omega)]⟩
  · have : isRow (d.rest.take m) = true := by unfold isRow; rw [decide_eq_true_iff]; exact ⟨h2, h3, by omega⟩
    rw [if_pos this]
    refine .inl ⟨_, rfl, by rw [decide_eq_true (by omega)], ?_⟩
    rw [hv, hlen]; exact hr
theorem head_snoc {l : List Int} {x : Int} (h : l ≠ []) : (l ++ [x]).head? = l.head? := by cases l with | nil => exact absurd rfl h | cons a l => rfl

set_option maxRecDepth 100000 in
set_option maxHeartbeats 800000 in
theorem rowPart_any (b : Nat) (d : Rd) (w : World) (h : RdAt w b d) (_hs : d.s.size ≤ 1000000) (_hk : d.k ≤ d.s.size) :
    Calls Tryz.prog 163 #[.pointer (some ⟨b, 0, none⟩)] w (Part d.row b w) := by
  have HR := Lib.hid h; clear h
  go_enter Tryz.func163, Tryz.ntmps163
  go_wp2_with fail
  go_loopw [3] (fun n wr => ∃ (m : Nat) (v : Int), n = .int .i64 v ∧ 0 ≤ v ∧ v ≤ 999 ∧ d.k + m ≤ d.s.size ∧ Hid (valL (d.rest.take m) = v ∧ (∀ x ∈ d.rest.take m, isNum x = true) ∧ (m = 0 ∧ v = 0 ∨ 1 ≤ v ∧ d.rest.take m ≠ [] ∧ (d.rest.take m).head? ≠ some 48)) ∧ Hid (RdAt wr b { d with k := d.k + m }) ∧ Hid (w.grownBy wr (some b)))
    (fun n _ => 1200 - (intOf n).toNat)
  case atStart => exact ⟨0, 0, rfl, by omega, by omega, by omega, Lib.hid ⟨rfl, by simp, .inl ⟨rfl, rfl⟩⟩, Lib.hid HR.out, Lib.hid (grownBy.refl' _ _)⟩
  case round =>
    obtain ⟨m, v, rfl, hv0, hv1, hkm, HM, HRD, HG⟩ := hrel
    obtain ⟨c0, c1, c2, c3, c4, c5, c6⟩ := HRD.out.facts
    have f1 := HRD.out.frozen 1
    have f4 := HRD.out.frozen 4
    clear c2 c3 c5 c6
    simp only at c0 c1 c4
    obtain ⟨p, hp⟩ : ∃ p : Nat, d.k + m = p := ⟨_, rfl⟩
    rw [hp] at c1
    by_cases hlt : p < d.s.size
    · have hlt2 : (p : Int) < (d.s.size : Int) := by omega
      obtain ⟨a, ha⟩ : ∃ a : Int, (d.s[p].toNat : Int) = a := ⟨_, rfl⟩
      have ha1 : 0 ≤ a ∧ a ≤ 255 := by have := d.s[p].toNat_lt; omega
      have hnx : d.rest.take (m + 1) = d.rest.take m ++ [a] := by subst hp; rw [take_next d m hlt, ha]
      have hat : d.rest[m]? = some a := by subst hp; unfold Rd.rest; rw [List.getElem?_drop, sb_at d.s _ hlt, ha]
      have HNX := Lib.hid hnx; clear hnx
      have HAT := Lib.hid hat; clear hat
      have HP := Lib.hid hp; clear hp
      by_cases hc : isNum a = true
      · have hcb := num_bd hc
        have hvn : valL (d.rest.take (m + 1)) = 10 * v + (a - 48) := by rw [HNX.out, valL_snoc, HM.out.1]
        have hall := all_snoc HM.out.2.1 hc
        rw [← HNX.out] at hall
        have HVN := Lib.hid hvn; clear hvn
        have HALL := Lib.hid hall; clear hall
        by_cases hbad : v * 10 + (a - 48) = 0 ∨ 999 < v * 10 + (a - 48)
        · have hno : d.row = none := by
            have h3 : isRow (d.rest.takeWhile isNum) = false := by
              rw [span_over isNum d.rest (m + 1) HALL.out]
              unfold isRow; rw [decide_eq_false_iff_not]
              rintro ⟨_, h2, h3⟩
              rcases hbad with h | h
              · rcases HM.out.2.2 with ⟨hm0, _⟩ | ⟨hm1, _⟩
                · apply h2; rw [HNX.out, hm0]; simp; omega
                · omega
              · have := valL_ge ((d.rest.drop (m + 1)).takeWhile isNum) (d.rest.take (m + 1)) (take_all isNum _) (by rw [HVN.out]; omega)
                rw [HVN.out] at this; omega
            unfold Rd.row; rw [h3]; rfl
          have HNO := Lib.hid hno; clear hno
          by_cases hz : v * 10 + (a - 48) = 0
          · have hzb : (v * 10 + (a - 48) == 0) = true := beq_iff_eq.2 hz
            clear hbad hz
            go_wp2_with fail
            go_quiet ((go_at_call 152; exact quiet_call (isDigit_any _ (by omega) (by omega) _)))
            go_wp2_with fail
            go_quiet (fail)
            go_wp2_with fail
            go_ret
            exact ⟨grownBy.drewN' HG.out _, .inr ⟨HNO.out, rfl⟩⟩
          · have hzb : (v * 10 + (a - 48) == 0) = false := beq_eq_false_iff_ne.2 hz
            have h9 : 999 < v * 10 + (a - 48) := by omega
            clear hbad hz
            go_wp2_with fail
            go_quiet ((go_at_call 152; exact quiet_call (isDigit_any _ (by omega) (by omega) _)))
            go_wp2_with fail
            go_quiet (fail)
            go_wp2_with fail
            go_ret
            exact ⟨grownBy.drewN' HG.out _, .inr ⟨HNO.out, rfl⟩⟩
        · have hz : ¬ v * 10 + (a - 48) = 0 := by omega
          have hzb : (v * 10 + (a - 48) == 0) = false := beq_eq_false_iff_ne.2 hz
          have h9 : ¬ 999 < v * 10 + (a - 48) := by omega
          have h9' : v * 10 + (a - 48) ≤ 999 := by omega
          have h1' : 1 ≤ v * 10 + (a - 48) := by omega
          clear hbad hz
          go_wp2_with fail
          go_quiet ((go_at_call 152; exact quiet_call (isDigit_any _ (by omega) (by omega) _)))
          go_wp2_with fail
          go_quiet (fail)
          go_wp2_with fail
          go_roundw
          case rel =>
            refine ⟨m + 1, v * 10 + (a - 48), rfl, by omega, by omega, by have := HP.out; omega, Lib.hid ⟨by rw [HVN.out]; omega, HALL.out, .inr ⟨by omega, ?_, ?_⟩⟩, Lib.hid ?_, Lib.hid (grownBy.setCell' (grownBy.drewN' HG.out _) _ _)⟩
            · rw [HNX.out]; simp
            · rw [HNX.out]
              rcases HM.out.2.2 with ⟨hm0, hm1⟩ | ⟨_, h2, h3⟩
              · rw [hm0]; simp; omega
              · rw [head_snoc h2]; exact h3
            · exact RdAt.setNext HRD.out HP.out _
          case measure => simp [intOf]; omega
      · have hc' : isNum a = false := by simpa using hc
        clear hc
        have hend := fun (e : Ending) (wz : World) => row_end d m v b w wz HM.out.1 HM.out.2.1 HM.out.2.2 hv1 hkm (fun x hx => by rw [HAT.out] at hx; injection hx with hx; rw [← hx]; exact hc') e
        have HEND := Lib.hid hend; clear hend
        go_wp2_with fail
        go_quiet ((go_at_call 152; exact quiet_call (isDigit_any _ (by omega) (by omega) _)))
        go_wp2_with fail
        go_ret
        exact HEND.out _ _ rfl ((HRD.out.drewN _).setR _) (grownBy.setCell' (grownBy.drewN' HG.out _) _ _)
    · have hlt2 : ¬ (p : Int) < (d.s.size : Int) := by omega
      have hend := fun (e : Ending) (wz : World) => row_end d m v b w wz HM.out.1 HM.out.2.1 HM.out.2.2 hv1 hkm (fun x hx => by have h1 := (List.getElem?_eq_some_iff.1 hx).1; rw [length_rest] at h1; omega) e
      have HEND := Lib.hid hend; clear hend
      clear hp
      go_wp2_with fail
      go_quiet (fail)
      go_wp2_with fail
      go_ret
      exact HEND.out _ _ rfl ((HRD.out.drewN _).setR _) (grownBy.setCell' (grownBy.drewN' HG.out _) _ _)
end Go.Proofs.YtpnnchjmaggmpaaGreatDoor

namespace Go.Proofs
open Go.Shelf
def Tryz.lays137_ren : Go.Shelf.Ren := ⟨fun | 137 => 176 | 217 => 179 | 266 => 183 | n => n, fun | 9 => 9 | 5 => 5 | 3 => 3 | n => n, fun | n => n⟩
theorem Tryz.lays137 : Go.Proofs.Lays.n137 Tryz.prog Tryz.lays137_ren := {
  mixed := by kernel_rfl
  f137 := Tryz.func176.trans (congrArg some (by kernel_rfl))
  f217 := Tryz.func179.trans (congrArg some (by kernel_rfl))
  f266 := Tryz.func183.trans (congrArg some (by kernel_rfl))
  t3 := Tryz.underlying3
  a3 := Tryz.isAgg3
  z3 := Tryz.sizeOf3
  v3 := Tryz.zeroValue3
  t5 := Tryz.underlying5
  a5 := Tryz.isAgg5
  z5 := Tryz.sizeOf5
  v5 := Tryz.zeroValue5
  t9 := Tryz.underlying9
  a9 := Tryz.isAgg9
  z9 := Tryz.sizeOf9
  v9 := Tryz.zeroValue9 }
open Go.RowKit in
theorem Tryz.strings_IndexByte (s : ByteArray) (c : Int) (w : World) :
    Calls Tryz.prog 176 #[.string s, .int .u8 c] w fun e w' => e = .returned (.int .i64 (Lib.indexByte s.data.toList c.toNat.toUInt8)) ∧ w' = w := Any.strings_IndexByte Tryz.lays137 s c w
def Tryz.laysM171_ren : Go.Shelf.Ren := ⟨fun | 171 => 36 | 243 => 64 | 246 => 99 | 283 => 129 | 284 => 130 | 285 => 131 | 286 => 132 | 129 => 147 | 317 => 146 | 318 => 148 | 319 => 149 | 320 => 150 | 337 => 167 | 338 => 168 | n => n, fun | 3 => 3 | 9 => 9 | 2 => 2 | 4 => 4 | 171 => 138 | 0 => 0 | 53 => 82 | 37 => 22 | 5 => 5 | 173 => 141 | 212 => 156 | 51 => 157 | 20 => 20 | 213 => 158 | 46 => 151 | 232 => 176 | 233 => 177 | n => n, fun | 17 => 5 | 18 => 6 | 19 => 7 | n => n⟩
theorem Tryz.laysM171 : Go.Proofs.LaysM.n171 Tryz.prog Tryz.laysM171_ren := {
  mixed := by kernel_rfl
  f129 := Tryz.func147.trans (congrArg some (by kernel_rfl))
  f171 := Tryz.func36.trans (congrArg some (by kernel_rfl))
  f243 := Tryz.func64.trans (congrArg some (by kernel_rfl))
  f246 := Tryz.func99.trans (congrArg some (by kernel_rfl))
  f283 := Tryz.func129.trans (congrArg some (by kernel_rfl))
  f284 := Tryz.func130.trans (congrArg some (by kernel_rfl))
  f285 := Tryz.func131.trans (congrArg some (by kernel_rfl))
  f286 := Tryz.func132.trans (congrArg some (by kernel_rfl))
  f317 := Tryz.func146.trans (congrArg some (by kernel_rfl))
  f318 := Tryz.func148.trans (congrArg some (by kernel_rfl))
  f319 := Tryz.func149.trans (congrArg some (by kernel_rfl))
  f320 := Tryz.func150.trans (congrArg some (by kernel_rfl))
  f337 := Tryz.func167.trans (congrArg some (by kernel_rfl))
  f338 := Tryz.func168.trans (congrArg some (by kernel_rfl))
  t0 := Tryz.underlying0
  a0 := Tryz.isAgg0
  z0 := Tryz.sizeOf0
  v0 := Tryz.zeroValue0
  t2 := Tryz.underlying2
  a2 := Tryz.isAgg2
  z2 := Tryz.sizeOf2
  v2 := Tryz.zeroValue2
  t3 := Tryz.underlying3
  a3 := Tryz.isAgg3
  z3 := Tryz.sizeOf3
  v3 := Tryz.zeroValue3
  t4 := Tryz.underlying4
  a4 := Tryz.isAgg4
  z4 := Tryz.sizeOf4
  v4 := Tryz.zeroValue4
  t5 := Tryz.underlying5
  a5 := Tryz.isAgg5
  z5 := Tryz.sizeOf5
  v5 := Tryz.zeroValue5
  t9 := Tryz.underlying9
  a9 := Tryz.isAgg9
  z9 := Tryz.sizeOf9
  v9 := Tryz.zeroValue9
  t20 := Tryz.underlying20
  a20 := Tryz.isAgg20
  z20 := Tryz.sizeOf20
  v20 := Tryz.zeroValue20
  t37 := Tryz.underlying22
  a37 := Tryz.isAgg22
  z37 := Tryz.sizeOf22
  v37 := Tryz.zeroValue22
  t46 := Tryz.underlying151
  a46 := Tryz.isAgg151
  z46 := Tryz.sizeOf151
  v46 := Tryz.zeroValue151
  t51 := Tryz.underlying157
  a51 := Tryz.isAgg157
  z51 := Tryz.sizeOf157
  v51 := Tryz.zeroValue157
  t53 := Tryz.underlying82
  a53 := Tryz.isAgg82
  z53 := Tryz.sizeOf82
  v53 := Tryz.zeroValue82
  t171 := Tryz.underlying138
  a171 := Tryz.isAgg138
  z171 := Tryz.sizeOf138
  v171 := Tryz.zeroValue138
  t173 := Tryz.underlying141
  a173 := Tryz.isAgg141
  z173 := Tryz.sizeOf141
  v173 := Tryz.zeroValue141
  t212 := Tryz.underlying156
  a212 := Tryz.isAgg156
  z212 := Tryz.sizeOf156
  v212 := Tryz.zeroValue156
  t213 := Tryz.underlying158
  a213 := Tryz.isAgg158
  z213 := Tryz.sizeOf158
  t232 := Tryz.underlying176
  a232 := Tryz.isAgg176
  z232 := Tryz.sizeOf176
  v232 := Tryz.zeroValue176
  t233 := Tryz.underlying177
  a233 := Tryz.isAgg177
  z233 := Tryz.sizeOf177
  v233 := Tryz.zeroValue177
  g17 := by kernel_rfl
  g18 := by kernel_rfl
  g19 := by kernel_rfl
  i0 := by kernel_rfl
  i2 := by kernel_rfl
  i3 := by kernel_rfl
  i4 := by kernel_rfl
  i5 := by kernel_rfl
  i9 := by kernel_rfl
  i20 := by kernel_rfl
  i37 := by kernel_rfl
  i46 := by kernel_rfl
  i51 := by kernel_rfl
  i53 := by kernel_rfl
  i171 := by kernel_rfl
  i173 := by kernel_rfl
  i212 := by kernel_rfl
  i232 := by kernel_rfl
  i233 := by kernel_rfl
  m17 := by kernel_rfl
  m18 := by kernel_rfl
  m19 := by kernel_rfl }
open Go.RowKit Go.Sort Go.Lib in
theorem Tryz.strconv_Itoa (n : Int) (h0 : -9223372036854775808 ≤ n) (h1 : n ≤ 9223372036854775807) (w : World) (htab : Lib.TabIs Tryz.prog w "internal/strconv.uint64pow10" .u64 Lib.pow10Tab) :
    Calls Tryz.prog 36 #[.int .i64 n] w fun e w' => e = .returned (.string ⟨(Lib.itoa n).toArray⟩) ∧ ∃ k os, w' = grow (w.drewN k) os := Any.strconv_Itoa Tryz.laysM171 n h0 h1 w htab
def Tryz.laysC172_ren : Go.Shelf.Ren := ⟨fun | 172 => 63 | 244 => 97 | 245 => 98 | 247 => 124 | 279 => 125 | 280 => 126 | 281 => 127 | 282 => 128 | 287 => 143 | 316 => 144 | 171 => 36 | 205 => 145 | 321 => 165 | 322 => 166 | 243 => 64 | 246 => 99 | 283 => 129 | 284 => 130 | 285 => 131 | 286 => 132 | 129 => 147 | 317 => 146 | 318 => 148 | 319 => 149 | 320 => 150 | 337 => 167 | 338 => 168 | n => n, fun | 9 => 9 | 3 => 3 | 75 => 88 | 76 => 89 | 4 => 4 | 5 => 5 | 167 => 132 | 37 => 22 | 0 => 0 | 85 => 133 | 2 => 2 | 168 => 135 | 53 => 82 | 175 => 149 | 46 => 151 | 210 => 153 | 127 => 95 | 145 => 172 | 143 => 170 | 21 => 21 | 171 => 138 | 173 => 141 | 212 => 156 | 51 => 157 | 20 => 20 | 213 => 158 | 232 => 176 | 233 => 177 | 80 => 63 | n => n, fun | 15 => 3 | 16 => 4 | 17 => 5 | 18 => 6 | 19 => 7 | n => n⟩
theorem Tryz.laysC172 : Go.Proofs.LaysC.n172 Tryz.prog Tryz.laysC172_ren := {
  mixed := by kernel_rfl
  f129 := Tryz.func147.trans (congrArg some (by kernel_rfl))
  f171 := Tryz.func36.trans (congrArg some (by kernel_rfl))
  f172 := Tryz.func63.trans (congrArg some (by kernel_rfl))
  f205 := Tryz.func145.trans (congrArg some (by kernel_rfl))
  f243 := Tryz.func64.trans (congrArg some (by kernel_rfl))
  f244 := Tryz.func97.trans (congrArg some (by kernel_rfl))
  f245 := Tryz.func98.trans (congrArg some (by kernel_rfl))
  f246 := Tryz.func99.trans (congrArg some (by kernel_rfl))
  f247 := Tryz.func124.trans (congrArg some (by kernel_rfl))
  f279 := Tryz.func125.trans (congrArg some (by kernel_rfl))
  f280 := Tryz.func126.trans (congrArg some (by kernel_rfl))
  f281 := Tryz.func127.trans (congrArg some (by kernel_rfl))
  f282 := Tryz.func128.trans (congrArg some (by kernel_rfl))
  f283 := Tryz.func129.trans (congrArg some (by kernel_rfl))
  f284 := Tryz.func130.trans (congrArg some (by kernel_rfl))
  f285 := Tryz.func131.trans (congrArg some (by kernel_rfl))
  f286 := Tryz.func132.trans (congrArg some (by kernel_rfl))
  f287 := Tryz.func143.trans (congrArg some (by kernel_rfl))
  f316 := Tryz.func144.trans (congrArg some (by kernel_rfl))
  f317 := Tryz.func146.trans (congrArg some (by kernel_rfl))
  f318 := Tryz.func148.trans (congrArg some (by kernel_rfl))
  f319 := Tryz.func149.trans (congrArg some (by kernel_rfl))
  f320 := Tryz.func150.trans (congrArg some (by kernel_rfl))
  f321 := Tryz.func165.trans (congrArg some (by kernel_rfl))
  f322 := Tryz.func166.trans (congrArg some (by kernel_rfl))
  f337 := Tryz.func167.trans (congrArg some (by kernel_rfl))
  f338 := Tryz.func168.trans (congrArg some (by kernel_rfl))
  t0 := Tryz.underlying0
  a0 := Tryz.isAgg0
  z0 := Tryz.sizeOf0
  v0 := Tryz.zeroValue0
  t2 := Tryz.underlying2
  a2 := Tryz.isAgg2
  z2 := Tryz.sizeOf2
  v2 := Tryz.zeroValue2
  t3 := Tryz.underlying3
  a3 := Tryz.isAgg3
  z3 := Tryz.sizeOf3
  v3 := Tryz.zeroValue3
  t4 := Tryz.underlying4
  a4 := Tryz.isAgg4
  z4 := Tryz.sizeOf4
  v4 := Tryz.zeroValue4
  t5 := Tryz.underlying5
  a5 := Tryz.isAgg5
  z5 := Tryz.sizeOf5
  v5 := Tryz.zeroValue5
  t9 := Tryz.underlying9
  a9 := Tryz.isAgg9
  z9 := Tryz.sizeOf9
  v9 := Tryz.zeroValue9
  t20 := Tryz.underlying20
  a20 := Tryz.isAgg20
  z20 := Tryz.sizeOf20
  v20 := Tryz.zeroValue20
  t21 := Tryz.underlying21
  a21 := Tryz.isAgg21
  z21 := Tryz.sizeOf21
  v21 := Tryz.zeroValue21
  t37 := Tryz.underlying22
  a37 := Tryz.isAgg22
  z37 := Tryz.sizeOf22
  v37 := Tryz.zeroValue22
  t46 := Tryz.underlying151
  a46 := Tryz.isAgg151
  z46 := Tryz.sizeOf151
  v46 := Tryz.zeroValue151
  t51 := Tryz.underlying157
  a51 := Tryz.isAgg157
  z51 := Tryz.sizeOf157
  v51 := Tryz.zeroValue157
  t53 := Tryz.underlying82
  a53 := Tryz.isAgg82
  z53 := Tryz.sizeOf82
  v53 := Tryz.zeroValue82
  t75 := Tryz.underlying88
  a75 := Tryz.isAgg88
  z75 := Tryz.sizeOf88
  v75 := Tryz.zeroValue88
  t76 := Tryz.underlying89
  a76 := Tryz.isAgg89
  z76 := Tryz.sizeOf89
  v76 := Tryz.zeroValue89
  t85 := Tryz.underlying133
  a85 := Tryz.isAgg133
  z85 := Tryz.sizeOf133
  v85 := Tryz.zeroValue133
  t127 := Tryz.underlying95
  a127 := Tryz.isAgg95
  z127 := Tryz.sizeOf95
  v127 := Tryz.zeroValue95
  t143 := Tryz.underlying170
  a143 := Tryz.isAgg170
  z143 := Tryz.sizeOf170
  v143 := Tryz.zeroValue170
  t145 := Tryz.underlying172
  a145 := Tryz.isAgg172
  z145 := Tryz.sizeOf172
  v145 := Tryz.zeroValue172
  t167 := Tryz.underlying132
  a167 := Tryz.isAgg132
  z167 := Tryz.sizeOf132
  v167 := Tryz.zeroValue132
  t168 := Tryz.underlying135
  a168 := Tryz.isAgg135
  z168 := Tryz.sizeOf135
  v168 := Tryz.zeroValue135
  t171 := Tryz.underlying138
  a171 := Tryz.isAgg138
  z171 := Tryz.sizeOf138
  v171 := Tryz.zeroValue138
  t173 := Tryz.underlying141
  a173 := Tryz.isAgg141
  z173 := Tryz.sizeOf141
  v173 := Tryz.zeroValue141
  t175 := Tryz.underlying149
  a175 := Tryz.isAgg149
  z175 := Tryz.sizeOf149
  v175 := Tryz.zeroValue149
  t210 := Tryz.underlying153
  a210 := Tryz.isAgg153
  z210 := Tryz.sizeOf153
  v210 := Tryz.zeroValue153
  t212 := Tryz.underlying156
  a212 := Tryz.isAgg156
  z212 := Tryz.sizeOf156
  v212 := Tryz.zeroValue156
  t213 := Tryz.underlying158
  a213 := Tryz.isAgg158
  z213 := Tryz.sizeOf158
  t232 := Tryz.underlying176
  a232 := Tryz.isAgg176
  z232 := Tryz.sizeOf176
  v232 := Tryz.zeroValue176
  t233 := Tryz.underlying177
  a233 := Tryz.isAgg177
  z233 := Tryz.sizeOf177
  v233 := Tryz.zeroValue177
  g15 := by kernel_rfl
  g16 := by kernel_rfl
  g17 := by kernel_rfl
  g18 := by kernel_rfl
  g19 := by kernel_rfl
  t80 := Tryz.underlying63
  a80 := Tryz.isAgg63
  z80 := Tryz.sizeOf63
  v80 := Tryz.zeroValue63
  i0 := by kernel_rfl
  i2 := by kernel_rfl
  i3 := by kernel_rfl
  i4 := by kernel_rfl
  i5 := by kernel_rfl
  i9 := by kernel_rfl
  i20 := by kernel_rfl
  i21 := by kernel_rfl
  i37 := by kernel_rfl
  i46 := by kernel_rfl
  i51 := by kernel_rfl
  i53 := by kernel_rfl
  i75 := by kernel_rfl
  i76 := by kernel_rfl
  i80 := by kernel_rfl
  i85 := by kernel_rfl
  i127 := by kernel_rfl
  i143 := by kernel_rfl
  i145 := by kernel_rfl
  i167 := by kernel_rfl
  i168 := by kernel_rfl
  i171 := by kernel_rfl
  i173 := by kernel_rfl
  i175 := by kernel_rfl
  i210 := by kernel_rfl
  i212 := by kernel_rfl
  i232 := by kernel_rfl
  i233 := by kernel_rfl
  m15 := by kernel_rfl
  m16 := by kernel_rfl
  m17 := by kernel_rfl
  m18 := by kernel_rfl
  m19 := by kernel_rfl
  c0 := by kernel_rfl
  c2 := by kernel_rfl
  c3 := by kernel_rfl
  c4 := by kernel_rfl
  c5 := by kernel_rfl
  c9 := by kernel_rfl
  c20 := by kernel_rfl
  c21 := by kernel_rfl
  c37 := by kernel_rfl
  c46 := by kernel_rfl
  c51 := by kernel_rfl
  c53 := by kernel_rfl
  c75 := by kernel_rfl
  c76 := by kernel_rfl
  c80 := by kernel_rfl
  c85 := by kernel_rfl
  c127 := by kernel_rfl
  c143 := by kernel_rfl
  c145 := by kernel_rfl
  c167 := by kernel_rfl
  c168 := by kernel_rfl
  c171 := by kernel_rfl
  c173 := by kernel_rfl
  c175 := by kernel_rfl
  c210 := by kernel_rfl
  c212 := by kernel_rfl
  c213 := by kernel_rfl
  c232 := by kernel_rfl
  c233 := by kernel_rfl }
open Go.RowKit in
theorem Tryz.strconv_Atoi_ok (s : ByteArray) (hmax : s.size ≤ 9223372036854775806) (v : Int) (h : Lib.atoiAll s.data.toList = .ok v) (w : World) :
    Calls Tryz.prog 63 #[.string s] w fun e w' => e = .returned (.tuple #[.int .i64 v, .nilIface]) ∧ (w' = w ∨ ∃ t, w' = Lib.bytesWorld w 5 t) := Any.strconv_Atoi_ok Tryz.laysC172 s hmax v h w
open Go.RowKit in
theorem Tryz.strconv_Atoi_syntax (s : ByteArray) (hlim : s.size ≤ 281474976710656) (E : Lib.NumEnd Int) (hE : Lib.atoiAll s.data.toList = E) (hk : match E with | .ok _ => False | .range => False | _ => True) (ev : Value) (w : World) (hv : w.cell? ⟨3, 0, none⟩ = some ev) (hev : ev = .nilIface ∨ ∃ te pe, ev = .iface te pe) :
    Calls Tryz.prog 63 #[.string s] w fun e w' => ∃ N, e = .returned (.tuple #[.int .i64 (0), .iface 135 (.pointer (some ⟨N, 0, none⟩))]) ∧ w.heap.size ≤ N ∧ w'.heap[N]? = some (.cells #[.string ⟨#[65, 116, 111, 105]⟩, .string s, ev] 153 (0, 0)) ∧ Below w.heap.size w w' := by
  cases E with
  | ok v => exact hk.elim
  | range => exact hk.elim
  | _ => exact Any.strconv_Atoi_syntax Tryz.laysC172 s hlim hE ev w hv hev
open Go.RowKit in
theorem Tryz.strconv_Atoi_range (s : ByteArray) (hlim : s.size ≤ 281474976710656) (h : Lib.atoiAll s.data.toList = .range) (ev : Value) (w : World) (hv : w.cell? ⟨4, 0, none⟩ = some ev) (hev : ev = .nilIface ∨ ∃ te pe, ev = .iface te pe) :
    Calls Tryz.prog 63 #[.string s] w fun e w' => ∃ N, e = .returned (.tuple #[.int .i64 (Lib.atoiSat s.data.toList), .iface 135 (.pointer (some ⟨N, 0, none⟩))]) ∧ w.heap.size ≤ N ∧ w'.heap[N]? = some (.cells #[.string ⟨#[65, 116, 111, 105]⟩, .string s, ev] 153 (0, 0)) ∧ Below w.heap.size w w' := Any.strconv_Atoi_range Tryz.laysC172 s hlim h ev w hv hev
def Tryz.lays99_ren : Go.Shelf.Ren := ⟨fun | 99 => 157 | 206 => 175 | n => n, fun | 9 => 9 | 4 => 4 | 3 => 3 | n => n, fun | n => n⟩
theorem Tryz.lays99 : Go.Proofs.Lays.n99 Tryz.prog Tryz.lays99_ren := {
  mixed := by kernel_rfl
  f99 := Tryz.func157.trans (congrArg some (by kernel_rfl))
  f206 := Tryz.func175.trans (congrArg some (by kernel_rfl))
  t3 := Tryz.underlying3
  a3 := Tryz.isAgg3
  z3 := Tryz.sizeOf3
  v3 := Tryz.zeroValue3
  t4 := Tryz.underlying4
  a4 := Tryz.isAgg4
  z4 := Tryz.sizeOf4
  v4 := Tryz.zeroValue4
  t9 := Tryz.underlying9
  a9 := Tryz.isAgg9
  z9 := Tryz.sizeOf9
  v9 := Tryz.zeroValue9 }
open Go.RowKit Go.Lib in
theorem Tryz.strings_HasPrefix (s p : ByteArray) (w : World) :
    Calls Tryz.prog 157 #[.string s, .string p] w fun e w' => e = .returned (.bool (Lib.hasPrefix s.data.toList p.data.toList)) ∧ w' = w := Any.strings_HasPrefix Tryz.lays99 s p w
def Tryz.lays155_ren : Go.Shelf.Ren := ⟨fun | 155 => 106 | 154 => 134 | 138 => 153 | 165 => 154 | 143 => 155 | 166 => 43 | 197 => 156 | 169 => 26 | 195 => 170 | 218 => 171 | 240 => 68 | 241 => 172 | 219 => 173 | 260 => 174 | 276 => 105 | 277 => 178 | 217 => 179 | 225 => 180 | 224 => 181 | 267 => 182 | 266 => 183 | 314 => 184 | n => n, fun | 9 => 9 | 3 => 3 | 4 => 4 | 72 => 54 | 0 => 0 | 76 => 89 | 105 => 162 | 21 => 21 | 5 => 5 | 70 => 52 | 20 => 20 | 37 => 22 | 75 => 88 | 127 => 95 | 164 => 124 | 46 => 151 | 119 => 179 | 139 => 182 | 138 => 181 | 146 => 183 | 51 => 157 | 80 => 63 | n => n, fun | 1 => 8 | 3 => 9 | 4 => 10 | n => n⟩
theorem Tryz.lays155 : Go.Proofs.Lays.n155 Tryz.prog Tryz.lays155_ren := {
  mixed := by kernel_rfl
  f138 := Tryz.func153.trans (congrArg some (by kernel_rfl))
  f143 := Tryz.func155.trans (congrArg some (by kernel_rfl))
  f154 := Tryz.func134.trans (congrArg some (by kernel_rfl))
  f155 := Tryz.func106.trans (congrArg some (by kernel_rfl))
  f165 := Tryz.func154.trans (congrArg some (by kernel_rfl))
  f166 := Tryz.func43.trans (congrArg some (by kernel_rfl))
  f169 := Tryz.func26.trans (congrArg some (by kernel_rfl))
  f195 := Tryz.func170.trans (congrArg some (by kernel_rfl))
  f197 := Tryz.func156.trans (congrArg some (by kernel_rfl))
  f217 := Tryz.func179.trans (congrArg some (by kernel_rfl))
  f218 := Tryz.func171.trans (congrArg some (by kernel_rfl))
  f219 := Tryz.func173.trans (congrArg some (by kernel_rfl))
  f224 := Tryz.func181.trans (congrArg some (by kernel_rfl))
  f225 := Tryz.func180.trans (congrArg some (by kernel_rfl))
  f240 := Tryz.func68.trans (congrArg some (by kernel_rfl))
  f241 := Tryz.func172.trans (congrArg some (by kernel_rfl))
  f260 := Tryz.func174.trans (congrArg some (by kernel_rfl))
  f266 := Tryz.func183.trans (congrArg some (by kernel_rfl))
  f267 := Tryz.func182.trans (congrArg some (by kernel_rfl))
  f276 := Tryz.func105.trans (congrArg some (by kernel_rfl))
  f277 := Tryz.func178.trans (congrArg some (by kernel_rfl))
  f314 := Tryz.func184.trans (congrArg some (by kernel_rfl))
  t0 := Tryz.underlying0
  a0 := Tryz.isAgg0
  z0 := Tryz.sizeOf0
  v0 := Tryz.zeroValue0
  t3 := Tryz.underlying3
  a3 := Tryz.isAgg3
  z3 := Tryz.sizeOf3
  v3 := Tryz.zeroValue3
  t4 := Tryz.underlying4
  a4 := Tryz.isAgg4
  z4 := Tryz.sizeOf4
  v4 := Tryz.zeroValue4
  t5 := Tryz.underlying5
  a5 := Tryz.isAgg5
  z5 := Tryz.sizeOf5
  v5 := Tryz.zeroValue5
  t9 := Tryz.underlying9
  a9 := Tryz.isAgg9
  z9 := Tryz.sizeOf9
  v9 := Tryz.zeroValue9
  t20 := Tryz.underlying20
  a20 := Tryz.isAgg20
  z20 := Tryz.sizeOf20
  v20 := Tryz.zeroValue20
  t21 := Tryz.underlying21
  a21 := Tryz.isAgg21
  z21 := Tryz.sizeOf21
  v21 := Tryz.zeroValue21
  t37 := Tryz.underlying22
  a37 := Tryz.isAgg22
  z37 := Tryz.sizeOf22
  v37 := Tryz.zeroValue22
  t46 := Tryz.underlying151
  a46 := Tryz.isAgg151
  z46 := Tryz.sizeOf151
  v46 := Tryz.zeroValue151
  t51 := Tryz.underlying157
  a51 := Tryz.isAgg157
  z51 := Tryz.sizeOf157
  v51 := Tryz.zeroValue157
  t70 := Tryz.underlying52
  a70 := Tryz.isAgg52
  z70 := Tryz.sizeOf52
  v70 := Tryz.zeroValue52
  t72 := Tryz.underlying54
  a72 := Tryz.isAgg54
  z72 := Tryz.sizeOf54
  v72 := Tryz.zeroValue54
  t75 := Tryz.underlying88
  a75 := Tryz.isAgg88
  z75 := Tryz.sizeOf88
  v75 := Tryz.zeroValue88
  t76 := Tryz.underlying89
  a76 := Tryz.isAgg89
  z76 := Tryz.sizeOf89
  v76 := Tryz.zeroValue89
  t105 := Tryz.underlying162
  a105 := Tryz.isAgg162
  z105 := Tryz.sizeOf162
  v105 := Tryz.zeroValue162
  t119 := Tryz.underlying179
  a119 := Tryz.isAgg179
  z119 := Tryz.sizeOf179
  t127 := Tryz.underlying95
  a127 := Tryz.isAgg95
  z127 := Tryz.sizeOf95
  v127 := Tryz.zeroValue95
  t138 := Tryz.underlying181
  a138 := Tryz.isAgg181
  z138 := Tryz.sizeOf181
  v138 := Tryz.zeroValue181
  t139 := Tryz.underlying182
  a139 := Tryz.isAgg182
  z139 := Tryz.sizeOf182
  v139 := Tryz.zeroValue182
  t146 := Tryz.underlying183
  a146 := Tryz.isAgg183
  z146 := Tryz.sizeOf183
  v146 := Tryz.zeroValue183
  t164 := Tryz.underlying124
  a164 := Tryz.isAgg124
  z164 := Tryz.sizeOf124
  v164 := Tryz.zeroValue124
  g1 := by kernel_rfl
  g3 := by kernel_rfl
  g4 := by kernel_rfl }
theorem Tryz.Builder_Extra_155 : Builder.Extra Tryz.prog Tryz.lays155_ren := {
  sizeBuilder := by kernel_rfl
  liesBuilder := by kernel_rfl
  t5 := Tryz.underlying5
  a5 := Tryz.isAgg5
  z5 := Tryz.sizeOf5
  v5 := Tryz.zeroValue5
  infoByte := by kernel_rfl
  cellsByte := by kernel_rfl
  sizeByte := by kernel_rfl
  neB5 := by decide }
open Go.RowKit Go.Lib in
theorem Tryz.strings_ReplaceAll (s old new : ByteArray) (m : Int) (w : World) (hs : s.size < 4294967281) (hm : w.cell? ⟨8, 0, none⟩ = some (.int .i64 m)) (h1 : 1 ≤ old.size) (hlen : s.size + Lib.countB s old * new.size ≤ 140737488355328) :
    Calls Tryz.prog 106 #[.string s, .string old, .string new] w fun e w' =>
      e = .returned (.string ⟨(Lib.replaceAll s.data.toList old.data.toList new.data.toList).toArray⟩) ∧ Below w.heap.size w w' := Any.strings_ReplaceAll Tryz.lays155 Tryz.Builder_Extra_155 s old new m w hs hm h1 hlen
end Go.Proofs

namespace Go.Proofs.YtpnnchjmaggmpaaGreatDoor
open Go.RowKit

theorem idx_list : ∀ (l : List UInt8), Lib.indexByte l 33 = if ((l.map (fun b => (b.toNat : Int))).takeWhile ne33).length = l.length then -1 else (((l.map (fun b => (b.toNat : Int))).takeWhile ne33).length : Int)
  | [] => rfl
  | x :: l => by
    have ih := idx_list l
    unfold Lib.indexByte
    by_cases hx : x = 33
    · subst hx
      have hne : ne33 ((33 : UInt8).toNat : Int) = false := by decide
      rw [List.map_cons, List.takeWhile_cons, hne]
      simp
    · have hne : ne33 (x.toNat : Int) = true := by
        unfold ne33; rw [decide_eq_true_iff]; intro h; apply hx
        apply UInt8.toNat_inj.1; show x.toNat = 33; omega
      have hb : (x == (33 : UInt8)) = false := by rw [beq_eq_false_iff_ne]; exact hx
      rw [hb, List.map_cons, List.takeWhile_cons, hne, if_pos rfl, List.length_cons, List.length_cons, ih]
      obtain ⟨n, hn⟩ : ∃ n, ((l.map (fun b => (b.toNat : Int))).takeWhile ne33).length = n := ⟨_, rfl⟩
      rw [hn]
      by_cases h : n = l.length
      · have h2 : n + 1 = l.length + 1 := by omega
        rw [if_pos h, if_pos h2]; rfl
      · have h2 : ¬ n + 1 = l.length + 1 := by omega
        rw [if_neg h, if_neg h2]
        have : ((n : Int) == -1) = false := by rw [beq_eq_false_iff_ne]; omega
        rw [this]; simp
theorem idx_sheet (d : Rd) : Lib.indexByte d.s.data.toList 33 = if d.sheetP.length = d.s.size then -1 else (d.sheetP.length : Int) := by
  rw [idx_list]; unfold Rd.sheetP sb; rw [← list_bytes]
  have : d.s.toList.length = d.s.size := by rw [list_bytes]; rfl
  rw [this]
theorem sheetP_take (d : Rd) : (sb d.s).take d.sheetP.length = d.sheetP := by
  have e := take_split ne33 (sb d.s)
  have h : (d.sheetP ++ (sb d.s).drop d.sheetP.length).take d.sheetP.length = d.sheetP := List.take_left
  have e2 : d.sheetP ++ (sb d.s).drop d.sheetP.length = sb d.s := e
  rw [e2] at h; exact h
theorem sheetP_lt (d : Rd) (h : ¬ d.sheetP.length = d.s.size) : d.sheetP.length < d.s.size := by
  have e := congrArg List.length (take_split ne33 (sb d.s))
  rw [List.length_append, length_sb] at e
  unfold Rd.sheetP at h ⊢; omega

set_option maxRecDepth 100000 in
set_option maxHeartbeats 400000 in
theorem sheet_any (b : Nat) (d : Rd) (w : World) (h : RdAt w b d) (_hs : d.s.size ≤ 1000000) :
    Calls Tryz.prog 159 #[.pointer (some ⟨b, 0, none⟩)] w (Part d.sheet b w) := by
  obtain ⟨c0, c1, c2, c3, c4, c5, c6⟩ := h.facts
  have f1 := h.frozen 1
  have f2 := h.frozen 2
  clear c3 c4 c5 c6
  have HR := Lib.hid h; clear h
  have hix := idx_sheet d
  by_cases hno : d.sheetP.length = d.s.size
  · have hf : d.sheet = some d := by unfold Rd.sheet; rw [if_pos hno]
    rw [if_pos hno] at hix
    have HF := Lib.hid hf; clear hf hno
    have HIX := Lib.hid hix; clear hix
    go_enter Tryz.func159, Tryz.ntmps159
    go_wp2_with (go_at_call 176; ((with_reducible refine (Tryz.strings_IndexByte d.s 33 _).mono ?_); rintro e w1 ⟨rfl, rfl⟩; (rw [show (33 : Int).toNat.toUInt8 = 33 from rfl, HIX.out])))
    go_ret
    exact ⟨grownBy.refl' _ _, .inl ⟨d, HF.out, rfl, HR.out⟩⟩
  · have hlt := sheetP_lt d hno
    rw [if_neg hno] at hix
    obtain ⟨i, hi⟩ : ∃ i : Nat, d.sheetP.length = i := ⟨_, rfl⟩
    rw [hi] at hix hlt
    have hf : d.sheet = if nameL d.sheetP = true then some { d with sh := strOfNums d.sheetP, k := i + 1 } else none := by unfold Rd.sheet; rw [if_neg hno, hi]
    have hcut : d.s.extract 0 i = strOfNums d.sheetP := by
      rw [← sheetP_take, hi, ← str_sb (d.s.extract 0 i)]
      congr 1
      unfold sb; rw [← List.map_take]; congr 1
      simp [ByteArray.data_extract]
    have hsz : (strOfNums d.sheetP).size ≤ 1000000 := by rw [strOfNums_size]; omega
    have hb : sb (strOfNums d.sheetP) = d.sheetP := sb_str _ (fun x hx => sb_bd d.s x (by rw [← sheetP_take] at hx; exact List.mem_of_mem_take hx))
    have HIX := Lib.hid hix; clear hix
    have HF := Lib.hid hf; clear hf
    have HCUT := Lib.hid hcut; clear hcut
    have HB := Lib.hid hb; clear hb
    have hile : (i : Int) ≤ (d.s.size : Int) := by omega
    have hi0 : (0 : Int) ≤ (i : Int) := by omega
    clear hno hi
    go_enter Tryz.func159, Tryz.ntmps159
    by_cases hn : nameL d.sheetP = true
    · have hf2 : d.sheet = some { d with sh := strOfNums d.sheetP, k := i + 1 } := by rw [HF.out, if_pos hn]
      have HF2 := Lib.hid hf2; clear hf2
      go_wp2_with (first
        | (go_at_call 176; ((with_reducible refine (Tryz.strings_IndexByte d.s 33 _).mono ?_); rintro e w1 ⟨rfl, rfl⟩; (rw [show (33 : Int).toNat.toUInt8 = 33 from rfl, HIX.out])))
        | (go_at_call 133; rw [HCUT.out]; ((with_reducible refine (name_any _ _ ?_).mono ?_); (first | omega | skip); rintro e w2 ⟨rfl, rfl⟩; rw [HB.out, hn])))
      go_ret
      exact ⟨grownBy.setCell' (grownBy.setCell' (grownBy.refl' _ _) _ _) _ _, .inl ⟨_, HF2.out, rfl, (HR.out.setSh (strOfNums d.sheetP)).setK (i + 1)⟩⟩
    · have hf2 : d.sheet = none := by rw [HF.out, if_neg hn]
      have hn' : nameL d.sheetP = false := by simpa using hn
      have HF2 := Lib.hid hf2; clear hf2 hn
      go_wp2_with (first
        | (go_at_call 176; ((with_reducible refine (Tryz.strings_IndexByte d.s 33 _).mono ?_); rintro e w1 ⟨rfl, rfl⟩; (rw [show (33 : Int).toNat.toUInt8 = 33 from rfl, HIX.out])))
        | (go_at_call 133; rw [HCUT.out]; ((with_reducible refine (name_any _ _ ?_).mono ?_); (first | omega | skip); rintro e w2 ⟨rfl, rfl⟩; rw [HB.out, hn'])))
      go_ret
      exact ⟨grownBy.setCell' (grownBy.setCell' (grownBy.refl' _ _) _ _) _ _, .inr ⟨HF2.out, rfl⟩⟩

theorem all_any (b g n : Nat) (f : Nat → FuncId) (run : Nat → Rd → Option Rd) (w : World) (_hn : n ≤ 100) (hgb : g ≠ b) (hg : g < w.heap.size)
    (hcall : ∀ j, j < n → ∀ args (v : World), (callFunc (f j) args).run Tryz.prog v = .ok (.enter (f j) args) v)
    (hcell : ∀ j, j < n → w.cell? ⟨g, j, none⟩ = some (.func (.func (f j)) #[.pointer (some ⟨b, 0, none⟩)] #[]))
    (P : Nat → Rd → Prop) (d : Rd) (h0 : P 0 d) (hr : RdAt w b d)
    (hstep : ∀ j, j < n → ∀ d (w : World), P j d → RdAt w b d → (∀ d', run j d = some d' → P (j + 1) d') ∧ Calls Tryz.prog (f j) #[.pointer (some ⟨b, 0, none⟩)] w (Part (run j d) b w))
    (o : Option Rd) (hend : ∀ d', P n d' → o = some d') (hbad : ∀ j d', j < n → P j d' → run j d' = none → o = none) :
    Calls Tryz.prog 158 #[.slice (some ⟨g, 0, none⟩) n n] w (Part o b w) := by
  have HC := Lib.hid hcall; clear hcall
  have HL := Lib.hid hcell; clear hcell
  have HS := Lib.hid hstep; clear hstep
  have HE := Lib.hid hend; clear hend
  have HB := Lib.hid hbad; clear hbad
  have H0 := Lib.hid h0; clear h0
  have HR := Lib.hid hr; clear hr
  go_enter Tryz.func158, Tryz.ntmps158
  go_wp2_with fail
  go_loopw [7] (fun i wr => ∃ (j : Nat) (d : Rd), i = .int .i64 j ∧ j ≤ n ∧ Hid (P j d) ∧ Hid (RdAt wr b d) ∧ Hid (w.grownBy wr (some b)))
    (fun i _ => n - (intOf i).toNat)
  case atStart => exact ⟨0, d, rfl, by omega, H0, HR, Lib.hid (grownBy.refl' _ _)⟩
  case round =>
    obtain ⟨j, d, rfl, hj, HP, HRD, HG⟩ := hrel
    by_cases hlt : j < n
    · have hji : (j : Int) < (n : Int) := by omega
      have hce : wr.cell? ⟨g, j, none⟩ = some (.func (.func (f j)) #[.pointer (some ⟨b, 0, none⟩)] #[]) := by
        rw [cell_other HG.out (by exact hg) (by intro h; exact hgb (Option.some.inj h))]; exact HL.out j hlt
      have hca := HC.out j hlt
      obtain ⟨fj, hfj⟩ : ∃ fj, f j = fj := ⟨_, rfl⟩
      rw [hfj] at hce hca
      have HFJ := Lib.hid hfj; clear hfj
      cases hq : run j d with
      | some d' =>
        have HQ := Lib.hid hq; clear hq
        go_wp2_with fail
        have hs := HS.out j hlt d wr HP.out HRD.out
        rw [HFJ.out, HQ.out] at hs
        have HS1 := Lib.hid (hs.1 d' rfl)
        refine hs.2.mono ?_
        rintro e w1 ⟨hg1, ⟨d2, h1, rfl, h3⟩ | ⟨h1, _⟩⟩
        · injection h1 with h1; subst h1
          have HG1 := Lib.hid (grownBy.trans' HG.out hg1); clear hg1
          have HR1 := Lib.hid h3; clear h3
          clear hs
          go_wp2_with fail
          go_roundw
          case rel => exact ⟨j + 1, d', by go_num, by omega, HS1, HR1, HG1⟩
          case measure => simp [intOf]; omega
        · cases h1
      | none =>
        have HQ := Lib.hid hq; clear hq
        go_wp2_with fail
        have hs := HS.out j hlt d wr HP.out HRD.out
        rw [HFJ.out, HQ.out] at hs
        refine hs.2.mono ?_
        rintro e w1 ⟨hg1, ⟨d2, h1, _, _⟩ | ⟨_, rfl⟩⟩
        · cases h1
        · have HG1 := Lib.hid (grownBy.trans' HG.out hg1); clear hg1
          clear hs
          go_wp2_with fail
          go_ret
          exact ⟨HG1.out, .inr ⟨HB.out j d hlt HP.out HQ.out, rfl⟩⟩
    · have hji : ¬ (j : Int) < (n : Int) := by omega
      have hjn : j = n := by omega
      have hen := HE.out d (by rw [← hjn]; exact HP.out)
      have HEN := Lib.hid hen; clear hen hjn
      go_wp2_with fail
      go_ret
      exact ⟨HG.out, .inl ⟨d, HEN.out, rfl, HRD.out⟩⟩
end Go.Proofs.YtpnnchjmaggmpaaGreatDoor

namespace Go.Proofs.YtpnnchjmaggmpaaGreatDoor
open Go.RowKit

def chain (run : Nat → Rd → Option Rd) (d : Rd) : Nat → Option Rd
  | 0 => some d
  | j + 1 => (chain run d j).bind (run j)
theorem chain_none (run : Nat → Rd → Option Rd) (d : Rd) (j : Nat) (h : chain run d j = none) : ∀ m, chain run d (j + m) = none
  | 0 => h
  | m + 1 => by show (chain run d (j + m)).bind (run (j + m)) = none; rw [chain_none run d j h m]; rfl
def Keeps (f : Rd → Option Rd) : Prop := ∀ d d', d.k ≤ d.s.size → f d = some d' → d'.s = d.s ∧ d'.k ≤ d.s.size
theorem keeps_sheet : Keeps Rd.sheet := by
  intro d d' hk h
  unfold Rd.sheet at h
  by_cases h1 : d.sheetP.length = d.s.size
  · rw [if_pos h1] at h; injection h with h; subst h; exact ⟨rfl, hk⟩
  · rw [if_neg h1] at h
    have := sheetP_lt d h1
    by_cases h2 : nameL d.sheetP = true
    · rw [if_pos h2] at h; injection h with h; subst h; exact ⟨rfl, this⟩
    · rw [if_neg h2] at h; cases h
theorem mark_le (d : Rd) (hk : d.k ≤ d.s.size) : d.k + (dol d.mark).length ≤ d.s.size := by
  have h1 := congrArg List.length (mark_rest d)
  rw [List.length_append, length_rest] at h1; omega
theorem keeps_absCol : Keeps Rd.absCol := by
  intro d d' hk h
  unfold Rd.absCol at h; injection h with h; subst h; exact ⟨rfl, mark_le d hk⟩
theorem keeps_absRow : Keeps Rd.absRow := by
  intro d d' hk h
  unfold Rd.absRow at h; injection h with h; subst h; exact ⟨rfl, mark_le d hk⟩
theorem span_le (p : Int → Bool) (d : Rd) (hk : d.k ≤ d.s.size) : d.k + (d.rest.takeWhile p).length ≤ d.s.size := by
  have h1 := congrArg List.length (take_split p d.rest)
  rw [List.length_append, length_rest] at h1; omega
theorem keeps_col : Keeps Rd.col := by
  intro d d' hk h
  unfold Rd.col at h
  by_cases h2 : isCol (d.rest.takeWhile isCap) = true
  · rw [if_pos h2] at h; injection h with h; subst h; exact ⟨rfl, span_le isCap d hk⟩
  · rw [if_neg h2] at h; cases h
theorem keeps_row : Keeps Rd.row := by
  intro d d' hk h
  unfold Rd.row at h
  by_cases h2 : isRow (d.rest.takeWhile isNum) = true
  · rw [if_pos h2] at h; injection h with h; subst h; exact ⟨rfl, span_le isNum d hk⟩
  · rw [if_neg h2] at h; cases h
theorem keeps_fin : Keeps Rd.fin := by
  intro d d' hk h
  unfold Rd.fin at h
  by_cases h2 : d.k = d.s.size
  · rw [if_pos h2] at h; injection h with h; subst h; exact ⟨rfl, hk⟩
  · rw [if_neg h2] at h; cases h

theorem all_chain (b g n : Nat) (f : Nat → FuncId) (run : Nat → Rd → Option Rd) (w : World) (hn : n ≤ 100) (hgb : g ≠ b) (hg : g < w.heap.size)
    (hcall : ∀ j, j < n → ∀ args (v : World), (callFunc (f j) args).run Tryz.prog v = .ok (.enter (f j) args) v)
    (hcell : ∀ j, j < n → w.cell? ⟨g, j, none⟩ = some (.func (.func (f j)) #[.pointer (some ⟨b, 0, none⟩)] #[]))
    (d : Rd) (hr : RdAt w b d) (hs : d.s.size ≤ 1000000) (hk : d.k ≤ d.s.size)
    (hkeep : ∀ j, j < n → Keeps (run j))
    (hpart : ∀ j, j < n → ∀ d (w : World), RdAt w b d → d.s.size ≤ 1000000 → d.k ≤ d.s.size → Calls Tryz.prog (f j) #[.pointer (some ⟨b, 0, none⟩)] w (Part (run j d) b w)) :
    Calls Tryz.prog 158 #[.slice (some ⟨g, 0, none⟩) n n] w (Part (chain run d n) b w) := by
  refine all_any b g n f run w hn hgb hg hcall hcell (fun j e => chain run d j = some e ∧ e.s = d.s ∧ e.k ≤ d.s.size) d ⟨rfl, rfl, hk⟩ hr ?_ _ ?_ ?_
  · rintro j hj e v ⟨h1, h2, h3⟩ hrv
    refine ⟨?_, hpart j hj e v hrv (by rw [h2]; exact hs) (by rw [h2]; exact h3)⟩
    intro e' he'
    obtain ⟨k1, k2⟩ := hkeep j hj e e' (by rw [h2]; exact h3) he'
    refine ⟨?_, by rw [k1, h2], by rw [← h2]; exact k2⟩
    show (chain run d j).bind (run j) = some e'
    rw [h1]; exact he'
  · rintro e ⟨h1, _, _⟩; exact h1
  · rintro j e hj ⟨h1, _, _⟩ h2
    have h3 : chain run d (j + 1) = none := by show (chain run d j).bind (run j) = none; rw [h1]; exact h2
    have := chain_none run d (j + 1) h3 (n - (j + 1))
    rw [show j + 1 + (n - (j + 1)) = n from by omega] at this; exact this

theorem below_of_grownBy {w w1 w2 : World} {r B : Nat} (hb : Below B w w1) (h : w1.grownBy w2 (some r)) (hB : B ≤ w1.heap.size) (hr : B ≤ r) : Below B w w2 :=
  hb.grown h hB (fun k hk => by cases hk; exact hr)

def colRun : Nat → Rd → Option Rd
  | 0 => Rd.col
  | _ => Rd.fin
def colFn : Nat → FuncId
  | 0 => 161
  | _ => 164
theorem hmf (fn : Fn) (first cap : Array Value) (w : World) : (Instr.makeFunc fn first cap).run Tryz.prog w = .ok (.func fn first cap) w := rfl

def wR (s : ByteArray) (w : World) : World := w.alloc (.cells #[.string s, .int .i64 0, .string ⟨#[]⟩, .int .i64 0, .int .i64 0, .bool false, .bool false] 167)
def mv (f : FuncId) (b : Nat) : Value := .func (.func f) #[.pointer (some ⟨b, 0, none⟩)] #[]
def wF (s : ByteArray) (l : Array Value) (w : World) : World := (wR s w).alloc (.cells l 30)
theorem size_wR (s : ByteArray) (w : World) : (wR s w).heap.size = w.heap.size + 1 := by unfold wR; simp
theorem size_wF (s : ByteArray) (l : Array Value) (w : World) : (wF s l w).heap.size = w.heap.size + 1 + 1 := by unfold wF; rw [← size_wR s w]; simp
theorem rd_wF (s : ByteArray) (l : Array Value) (w : World) : RdAt (wF s l w) w.heap.size (Rd.start s) := by
  have h : RdAt (wR s w) w.heap.size (Rd.start s) := (Go.MapKept.heap_alloc w _).1
  exact h.below ((Below.refl _ _).alloc (Nat.le_refl _) _) h.lt
theorem below_wF (s : ByteArray) (l : Array Value) (w : World) : Below w.heap.size w (wF s l w) := ((Below.refl _ _).alloc (Nat.le_refl _) _).alloc (by have := size_wR s w; unfold wR at this; omega) _
theorem cell_wF (s : ByteArray) (l : Array Value) (w : World) (L : List Value) (hl : l.toList = L) (j : Nat) (u : Value) (hj : L[j]? = some u) : (wF s l w).cell? ⟨w.heap.size + 1, j, none⟩ = some u := by
  have h := cells_new (w := wR s w) l 30 L hl j u hj
  rw [Addr.add_mid, Nat.zero_add, size_wR] at h
  exact h
theorem all_new (n : Nat) (f : Nat → FuncId) (run : Nat → Rd → Option Rd) (s : ByteArray) (w : World) (l : Array Value) (L : List Value) (hl : l.toList = L) (hn : n ≤ 100) (hs : s.size ≤ 1000000)
    (hcall : ∀ j, j < n → ∀ args (v : World), (callFunc (f j) args).run Tryz.prog v = .ok (.enter (f j) args) v)
    (hL : ∀ j, j < n → L[j]? = some (mv (f j) w.heap.size))
    (hkeep : ∀ j, j < n → Keeps (run j))
    (hpart : ∀ j, j < n → ∀ b d (w : World), RdAt w b d → d.s.size ≤ 1000000 → d.k ≤ d.s.size → Calls Tryz.prog (f j) #[.pointer (some ⟨b, 0, none⟩)] w (Part (run j d) b w)) :
    Calls Tryz.prog 158 #[.slice (some ⟨w.heap.size + 1, 0, none⟩) n n] (wF s l w) fun e w' => Below w.heap.size w w' ∧ ((∃ d', chain run (Rd.start s) n = some d' ∧ e = .returned (.bool true) ∧ RdAt w' w.heap.size d') ∨ (chain run (Rd.start s) n = none ∧ e = .returned (.bool false))) := by
  refine (all_chain w.heap.size (w.heap.size + 1) n f run (wF s l w) hn (by omega) (by rw [size_wF]; omega) hcall (fun j hj => cell_wF s l w L hl j _ (hL j hj)) (Rd.start s) (rd_wF s l w) hs (Nat.zero_le _) hkeep (fun j hj d v => hpart j hj w.heap.size d v)).mono ?_
  rintro e w' ⟨h1, h2⟩
  exact ⟨below_of_grownBy (below_wF s l w) h1 (by rw [size_wF]; omega) (Nat.le_refl _), h2⟩
theorem e_col : ∀ args (v : World), (callFunc 161 args).run Tryz.prog v = .ok (.enter 161 args) v := Go.Proofs.enters_of Tryz.func161 (by kernel_rfl) rfl
theorem e_end : ∀ args (v : World), (callFunc 164 args).run Tryz.prog v = .ok (.enter 164 args) v := Go.Proofs.enters_of Tryz.func164 (by kernel_rfl) rfl
theorem e_sheet : ∀ args (v : World), (callFunc 159 args).run Tryz.prog v = .ok (.enter 159 args) v := Go.Proofs.enters_of Tryz.func159 (by kernel_rfl) rfl
theorem e_absCol : ∀ args (v : World), (callFunc 160 args).run Tryz.prog v = .ok (.enter 160 args) v := Go.Proofs.enters_of Tryz.func160 (by kernel_rfl) rfl
theorem e_absRow : ∀ args (v : World), (callFunc 162 args).run Tryz.prog v = .ok (.enter 162 args) v := Go.Proofs.enters_of Tryz.func162 (by kernel_rfl) rfl
theorem e_row : ∀ args (v : World), (callFunc 163 args).run Tryz.prog v = .ok (.enter 163 args) v := Go.Proofs.enters_of Tryz.func163 (by kernel_rfl) rfl

def refRun : Nat → Rd → Option Rd
  | 0 => Rd.sheet
  | 1 => Rd.absCol
  | 2 => Rd.col
  | 3 => Rd.absRow
  | 4 => Rd.row
  | _ => Rd.fin
def refFn : Nat → FuncId
  | 0 => 159
  | 1 => 160
  | 2 => 161
  | 3 => 162
  | 4 => 163
  | _ => 164
theorem ref_parts (s : ByteArray) (w : World) (hs : s.size ≤ 1000000) :
    Calls Tryz.prog 158 #[.slice (some ⟨w.heap.size + 1, 0, none⟩) 6 6] (wF s #[mv 159 w.heap.size, mv 160 w.heap.size, mv 161 w.heap.size, mv 162 w.heap.size, mv 163 w.heap.size, mv 164 w.heap.size] w) fun e w' => Below w.heap.size w w' ∧ ((∃ d', readS s = some d' ∧ e = .returned (.bool true) ∧ RdAt w' w.heap.size d') ∨ (readS s = none ∧ e = .returned (.bool false))) := by
  refine all_new 6 refFn refRun s w _ _ rfl (by omega) hs ?_ ?_ ?_ ?_
  · intro j hj
    match j, hj with
    | 0, _ => exact e_sheet
    | 1, _ => exact e_absCol
    | 2, _ => exact e_col
    | 3, _ => exact e_absRow
    | 4, _ => exact e_row
    | 5, _ => exact e_end
  · intro j hj
    match j, hj with
    | 0, _ => rfl
    | 1, _ => rfl
    | 2, _ => rfl
    | 3, _ => rfl
    | 4, _ => rfl
    | 5, _ => rfl
  · intro j hj
    match j, hj with
    | 0, _ => exact keeps_sheet
    | 1, _ => exact keeps_absCol
    | 2, _ => exact keeps_col
    | 3, _ => exact keeps_absRow
    | 4, _ => exact keeps_row
    | 5, _ => exact keeps_fin
  · intro j hj b d v h1 h2 h3
    match j, hj with
    | 0, _ => exact sheet_any b d v h1 h2
    | 1, _ => exact absCol_any b d v h1 h2 h3
    | 2, _ => exact colPart_any b d v h1 h2 h3
    | 3, _ => exact absRow_any b d v h1 h2 h3
    | 4, _ => exact rowPart_any b d v h1 h2 h3
    | 5, _ => exact fin_any b d v h1 h2 h3

end Go.Proofs.YtpnnchjmaggmpaaGreatDoor

namespace Go.Proofs.YtpnnchjmaggmpaaGreatDoor
open Go.RowKit

theorem below_setCell5 {w w1 : World} {a0 a1 a2 a3 a4 : Value} (h : Below w.heap.size w w1) : Below w.heap.size w (((((w1.setCell ⟨w.heap.size, 0, none⟩ a0).setCell ⟨w.heap.size, 1, none⟩ a1).setCell ⟨w.heap.size, 2, none⟩ a2).setCell ⟨w.heap.size, 3, none⟩ a3).setCell ⟨w.heap.size, 4, none⟩ a4) :=
  ((((h.setCell (Nat.le_refl _) _).setCell (Nat.le_refl _) _).setCell (Nat.le_refl _) _).setCell (Nat.le_refl _) _).setCell (Nat.le_refl _) _
set_option maxRecDepth 100000 in
set_option maxHeartbeats 400000 in
theorem read_any (s : ByteArray) (w : World) (_hs : s.size ≤ 1000000) :
    Calls Tryz.prog 141 #[.string s] w fun e w' => Says (sb s) e ∧ Below w.heap.size w w' := by
  have hmf := hmf
  have hall := ref_parts s (w.alloc (.cells #[.string ⟨#[]⟩, .int .i64 0, .int .i64 0, .bool false, .bool false] 45)) _hs
  have hsz : (w.alloc (.cells #[.string ⟨#[]⟩, .int .i64 0, .int .i64 0, .bool false, .bool false] 45)).heap.size = w.heap.size + 1 := by simp
  have hr0 := RefAt.new w ⟨#[]⟩ 0 0 false false
  have hb0 : Below w.heap.size w (w.alloc (.cells #[.string ⟨#[]⟩, .int .i64 0, .int .i64 0, .bool false, .bool false] 45)) := (Below.refl _ _).alloc (Nat.le_refl _) _
  rw [hsz] at hall
  have HALL := Lib.hid hall; clear hall
  have HR := Lib.hid hr0; clear hr0
  have HB0 := Lib.hid hb0; clear hb0
  have HSZ := Lib.hid hsz; clear hsz
  go_enter Tryz.func141, Tryz.ntmps141
  go_wp2_with fail
  refine HALL.out.mono ?_
  rintro e w1 ⟨hb, ⟨d', h1, rfl, h3⟩ | ⟨h1, rfl⟩⟩
  · have hr1 := HR.out.below hb (by omega)
    obtain ⟨x0, x1, x2, x3, x4⟩ := hr1.facts
    have f0 := frozen_of_row w1 w.heap.size 0 _ _ hr1
    have f1 := frozen_of_row w1 w.heap.size 1 _ _ hr1
    have f2 := frozen_of_row w1 w.heap.size 2 _ _ hr1
    have f3 := frozen_of_row w1 w.heap.size 3 _ _ hr1
    have f4 := frozen_of_row w1 w.heap.size 4 _ _ hr1
    have hB := HB0.out.trans (hb.mono (by omega))
    obtain ⟨c0, c1, c2, c3, c4, c5, c6⟩ := h3.facts
    clear c0 c1
    have H1 := Lib.hid h1; clear h1
    have H3 := Lib.hid h3; clear h3
    have HB := Lib.hid hB; clear hB hb
    have HR1 := Lib.hid hr1; clear hr1
    go_wp2_with fail
    obtain ⟨r1, r2, r3⟩ := read_some s d' H1.out
    (try simp only [Exit.inBlock, Exit.then])
    refine bodyPost_ret (v := .tuple #[.agg #[.string d'.sh, .int .i64 d'.c, .int .i64 d'.r, .bool d'.ac, .bool d'.ar], .bool true]) ?_ rfl ⟨.inl ⟨d'.sh, d'.c, d'.r, d'.ac, d'.ar, r1, r2, r3, rfl⟩, ?_⟩
    · rw [results_cell_tmp rfl]
      go_simp
    · exact below_setCell5 HB.out
  · have hr1 := HR.out.below hb (by omega)
    obtain ⟨x0, x1, x2, x3, x4⟩ := hr1.facts
    have f0 := frozen_of_row w1 w.heap.size 0 _ _ hr1
    have f1 := frozen_of_row w1 w.heap.size 1 _ _ hr1
    have f2 := frozen_of_row w1 w.heap.size 2 _ _ hr1
    have f3 := frozen_of_row w1 w.heap.size 3 _ _ hr1
    have f4 := frozen_of_row w1 w.heap.size 4 _ _ hr1
    have hB := HB0.out.trans (hb.mono (by omega))
    have H1 := Lib.hid h1; clear h1
    have HB := Lib.hid hB; clear hB hb
    have HR1 := Lib.hid hr1; clear hr1
    go_wp2_with fail
    have r1 := read_none s H1.out
    (try simp only [Exit.inBlock, Exit.then])
    refine bodyPost_ret (v := .tuple #[.agg #[.string ⟨#[]⟩, .int .i64 0, .int .i64 0, .bool false, .bool false], .bool false]) ?_ rfl ⟨.inr ⟨r1, rfl⟩, ?_⟩
    · rw [results_cell_tmp rfl]
      go_simp
    · exact below_setCell5 HB.out
end Go.Proofs.YtpnnchjmaggmpaaGreatDoor

namespace Go.Proofs.YtpnnchjmaggmpaaGreatDoor
open Go.RowKit

theorem Elem.u8 : Elem Tryz.prog 22 5 1 1 := ⟨Tryz.underlying22, ⟨.int .u8 0, by kernel_rfl, rfl⟩, by decide⟩
abbrev Own8 (w : World) (base : Nat) (v : Value) (xs : List Int) : Prop := Own (encInt .u8) 5 w base v xs
theorem run_str8 {w : World} {base : Nat} {v : Value} {xs : List Int} (h : Own8 w base v xs) : (convert 22 9 v).run Tryz.prog w = .ok (.string (strOfNums xs)) w := by
  rcases h.shape with ⟨rfl, rfl⟩ | ⟨g, cap, rfl, h1, h2, h3, h4⟩
  · rw [run_convert_bytes_nil w _ 5 Tryz.underlying22 Tryz.underlying5 _ _ _ Tryz.underlying9]; rfl
  · refine run_convert_bytes_arg w _ 5 Tryz.underlying22 Tryz.underlying5 g 0 _ cap xs rfl (fun i hi => ?_) _ Tryz.underlying9
    rw [Nat.zero_add]; exact h.intCell i hi
end Go.Proofs.YtpnnchjmaggmpaaGreatDoor

namespace Go.Proofs.YtpnnchjmaggmpaaGreatDoor
open Go.RowKit

theorem run_app_src {P : Program} {α : Type} {size t tx ty e bytes : Nat} {w : World} (EL : Elem P t e size bytes) (E : Enc α size) (base : Nat) (v : Value) (xs : List α) (hown : Own E e w base v xs)
    (x : Value) (m : Nat) (ys : List α) (hl : ys.length = m) (hs : Src P size tx x m (E.all ys) w) (hb : (xs.length + m) * bytes ≤ 140737488355328) (hb2 : xs.length + m ≤ maxLen) (hbase : base ≤ w.heap.size) :
    ∃ v' w', (Builtin.append_ #[t, tx] ty #[v, x]).run P w = .ok v' w' ∧ Own E e w' base v' (xs ++ ys) ∧ Below base w w' := by
  obtain ⟨z, hi, hz⟩ := EL.inf
  obtain ⟨i, hi1, hi2, hi3, hi4⟩ := info_parts hi
  have ht := EL.und
  subst hi3
  subst hi4
  have hlx := E.length_all xs
  have hly := E.length_all ys
  rw [hl] at hly
  have hlen : (E.all (xs ++ ys)).length = (xs.length + m) * i.size := by rw [E.length_all, List.length_append, hl]
  have hsmall : xs.length + m ≤ 9223372036854775807 := by simp only [maxLen] at hb2; omega
  have grown : ∀ (old : Nat), old < xs.length + m →
      Own E e (w.drew.alloc (.cells ((E.all xs ++ E.all ys).toArray ++ Builtin.zeroCells z.cells (grownCap w (xs.length + m) old e - (xs.length + m))) e)) base (.slice (some ⟨w.heap.size, 0, none⟩) (xs.length + m) (grownCap w (xs.length + m) old e)) (xs ++ ys) ∧
      Below base w (w.drew.alloc (.cells ((E.all xs ++ E.all ys).toArray ++ Builtin.zeroCells z.cells (grownCap w (xs.length + m) old e - (xs.length + m))) e)) := by
    intro old ho
    have hge := grownCap_ge w (xs.length + m) old e
    have hcm : grownCap w (xs.length + m) old e ≤ maxLen := grownCap_le_maxLen w (xs.length + m) old e hb2
    refine ⟨?_, ((Below.refl _ _).drew).alloc hbase _⟩
    unfold Own
    rw [List.length_append, hl]
    refine ⟨hlen, .inr ⟨w.heap.size, _, _, rfl, hbase, heap_alloc_new w.drew _, hge, hcm, ?_, ?_⟩⟩
    · simp only [Array.size_append, List.size_toArray, size_zeroCells, hz, List.length_append, hlx, hly, ← Nat.add_mul]
      congr 1
      omega
    · simp only [Array.toList_append]
      rw [← E.all_append, ← hlen]
      exact List.take_left
  have h0 := hown
  rcases hown.2 with ⟨rfl, hn⟩ | ⟨g, cap, cur, rfl, hbg, hg, hnc, hcm, hcs, htake⟩
  · have hx : xs = [] := List.eq_nil_of_length_eq_zero hn
    subst hx
    by_cases hm : m = 0
    · subst hm
      have hy : ys = [] := List.eq_nil_of_length_eq_zero hl
      subst hy
      refine ⟨.slice none 0 0, w, ?_, Own.nil E e w base, Below.refl _ _⟩
      have hc := hs.cells
      have hll := hs.len
      have hc' : (Builtin.firstCells i.size 0 x).run P w = .ok #[] w := hc
      rcases hs.kind with ⟨e', hk⟩ | hk <;>
        simp [Builtin.append_, run_underlying ht, run_underlying hk, sizeOf, typeInfo, hi1, hll, hc']
    · have hgr := grown 0 (by simp; omega)
      have hr := run_append_grow_src (P := P) w t tx ty e i z ht hi1 hi2 none 0 0 [] (by simp [Builtin.firstCells]) x m (E.all ys) hs (by omega) (by simp at hsmall; omega) (growslice_fits (by omega) (by simpa using hb))
      simp only [List.length_nil, Nat.zero_add, List.nil_append, Enc.all, List.flatMap_nil] at hgr hr ⊢
      exact ⟨_, _, hr, hgr.1, hgr.2⟩
  · by_cases hroom : xs.length + m ≤ cap
    · have hfit : xs.length * i.size + (E.all ys).length ≤ cur.size := by rw [hly, hcs, ← Nat.add_mul]; exact Nat.mul_le_mul_right _ hroom
      have hst := run_storeCells_at P g (xs.length * i.size) e (E.all ys) 0 cur w hg (by omega) (E.one_all ys)
      simp only [Nat.add_zero] at hst
      refine ⟨.slice (some ⟨g, 0, none⟩) (xs.length + m) cap, w.setRow g (cur.toList.take (xs.length * i.size) ++ E.all ys ++ cur.toList.drop (xs.length * i.size + (E.all ys).length)).toArray, ?_, ?_, ?_⟩
      · rcases hs.kind with ⟨e', hk⟩ | hk <;> simp [Builtin.append_, run_underlying ht, run_underlying hk, sizeOf, typeInfo, hi1, hs.len, hroom, hs.cells, Addr.add_lit, hst]
      · unfold Own
        rw [List.length_append, hl]
        refine ⟨hlen, .inr ⟨g, cap, _, rfl, hbg, setRow_heap w g cur _ e _ hg, hroom, hcm, ?_, ?_⟩⟩
        · simp only [List.size_toArray, List.length_append, List.length_take, List.length_drop, Array.length_toList]
          omega
        · rw [htake, ← hlen, ← E.all_append]
          exact List.take_left
      · exact ⟨rfl, rfl, rfl, by simp, fun k hk => setRow_other w g k _ (by omega)⟩
    · have hold : (Builtin.firstCells i.size xs.length (.slice (some ⟨g, 0, none⟩) xs.length cap)).run P w.drew = .ok (E.all xs).toArray w.drew :=
        run_firstCells_some w.drew i.size xs.length ⟨g, 0, none⟩ xs.length cap (E.all xs) hlx (World.ownsRow.cells (w := w.drew) h0 (g := g) rfl)
      have hgr := grown cap (by omega)
      have hr := run_append_grow_src (P := P) w t tx ty e i z ht hi1 hi2 (some ⟨g, 0, none⟩) xs.length cap (E.all xs) hold x m (E.all ys) hs (by omega) (by omega) (growslice_fits (by omega) hb)
      exact ⟨_, _, hr, hgr.1, hgr.2⟩

theorem wpList_app_src {P : Program} {α : Type} {size t tx e bytes : Nat} {w : World} {ops : Array Oper} {rest : List Oper} {o : Oper} {a : Act} {Q : Exit → Act → World → Prop} (EL : Elem P t e size bytes) (E : Enc α size)
    (hgd : o.guard = none) (s x : Operand) (ho : o.op = .call { callee := .builtin .append, args := #[s, x], argTypes := #[t, tx] }) (base : Nat) (v : Value) (xs : List α)
    (hs : a.eval s = v) (hown : Own E e w base v xs) (y : Value) (m : Nat) (ys : List α) (hx : a.eval x = y) (hl : ys.length = m) (hsrc : Src P size tx y m (E.all ys) w)
    (hb : (xs.length + m) * bytes ≤ 140737488355328) (hb2 : xs.length + m ≤ maxLen) (hbase : base ≤ w.heap.size)
    (h : ∀ (v' : Value) (w' : World), Own E e w' base v' (xs ++ ys) → Below base w w' → wpList P ops Q rest (a.put o.dst v') w') : wpList P ops Q (o :: rest) a w := by
  obtain ⟨v', w', hrun, h2, h3⟩ := run_app_src (ty := o.type) EL E base v xs hown y m ys hl hsrc hb hb2 hbase
  refine wpList_plain hgd fun _ hK => ?_
  unfold Oper.wp execOp
  simp only [ho, resolve, invoke, builtin, Sem.run_bind, Sem.run_pure, Result.andThen_ok, List.map_toArray, List.map_cons, List.map_nil, hs, hx, hrun]
  exact hK _ _ (h v' w' h2 h3)
theorem byteCells_sb (s : ByteArray) : byteCells s = (encInt .u8).all (sb s) := by
  rw [all_encInt]; unfold byteCells sb; rw [List.map_map]; rfl
theorem src_text {w : World} (s : ByteArray) : Src Tryz.prog 1 9 (.string s) s.size ((encInt .u8).all (sb s)) w := by
  rw [← byteCells_sb]; exact Src.ofString w Tryz.underlying9 s
theorem Bytes.drop {l : List Int} (h : Bytes l) (k : Nat) : Bytes (l.drop k) := fun a ha => h a (List.mem_of_mem_drop ha)
theorem Bytes.take {l : List Int} (h : Bytes l) (k : Nat) : Bytes (l.take k) := fun a ha => h a (List.mem_of_mem_take ha)
structure S8 (w : World) (B : Nat) (A : Option Addr) (len cap : Nat) (xs : List Int) : Prop where
  hlen : xs.length = len
  le : len ≤ cap
  max : cap ≤ maxLen
  bytes : Bytes xs
  at_ : len = 0 ∨ ∃ pb po, A = some ⟨pb, po, none⟩ ∧ pb < B ∧ ∀ j, j < len → w.cell? ⟨pb, po + j, none⟩ = some (.int .u8 (xs.getD j 0))
theorem S8.below {w w' : World} {B C : Nat} {A : Option Addr} {len cap : Nat} {xs : List Int} (h : S8 w B A len cap xs) (hb : Below C w w') (hC : B ≤ C) : S8 w' B A len cap xs :=
  ⟨h.hlen, h.le, h.max, h.bytes, by
    rcases h.at_ with h1 | ⟨pb, po, h1, h2, h3⟩
    · exact .inl h1
    · exact .inr ⟨pb, po, h1, h2, fun j hj => (hb.cell (p := ⟨pb, po + j, none⟩) (by show pb < C; omega)).trans (h3 j hj)⟩⟩
theorem S8.mono {w : World} {B C : Nat} {A : Option Addr} {len cap : Nat} {xs : List Int} (h : S8 w B A len cap xs) (hC : B ≤ C) : S8 w C A len cap xs :=
  ⟨h.hlen, h.le, h.max, h.bytes, by
    rcases h.at_ with h1 | ⟨pb, po, h1, h2, h3⟩
    · exact .inl h1
    · exact .inr ⟨pb, po, h1, by omega, h3⟩⟩
theorem S8.drewN {w : World} {B : Nat} {A : Option Addr} {len cap : Nat} {xs : List Int} (h : S8 w B A len cap xs) (n : Nat) : S8 (w.drewN n) B A len cap xs := ⟨h.hlen, h.le, h.max, h.bytes, h.at_⟩
theorem run_text0 (A : Option Addr) (cap : Nat) (w : World) : (convert 22 9 (.slice A 0 cap)).run Tryz.prog w = .ok (.string (strOfNums [])) w := by
  cases A with
  | none => rw [run_convert_bytes_nil w _ 5 Tryz.underlying22 Tryz.underlying5 _ _ _ Tryz.underlying9]; rfl
  | some a =>
    have hl : (loadCells a 0).run Tryz.prog w = .ok (([] : List Int).map (Value.int .u8)).toArray w := run_loadCells_list (P := Tryz.prog) w a [] (by simp)
    rw [run_convert_bytes_string w 22 9 5 _ 0 cap Tryz.underlying22 Tryz.underlying5 Tryz.underlying9, run_bytesToString w _ 0 cap [] hl]; rfl
theorem S8.text {w : World} {B : Nat} {A : Option Addr} {len cap : Nat} {xs : List Int} (h : S8 w B A len cap xs) : (convert 22 9 (.slice A len cap)).run Tryz.prog w = .ok (.string (strOfNums xs)) w := by
  have hl := h.hlen
  rcases h.at_ with rfl | ⟨pb, po, rfl, h2, h3⟩
  · have : xs = [] := List.eq_nil_of_length_eq_zero hl
    subst this
    exact run_text0 A cap w
  · exact run_convert_bytes_arg w _ 5 Tryz.underlying22 Tryz.underlying5 pb po _ cap xs hl h3 _ Tryz.underlying9
theorem Own.other {α : Type} {size : Nat} {E : Enc α size} {e : TypeId} {w w' : World} {base r : Nat} {v : Value} {xs : List α} (h : Own E e w base v xs) (hg : w.grownBy w' (Option.some r)) (hr : r < base) : Own E e w' base v xs := by
  refine ⟨h.1, ?_⟩
  rcases h.2 with h | ⟨g, cap, cur, h1, h2, h3, h4⟩
  · exact .inl h
  · refine .inr ⟨g, cap, cur, h1, h2, ?_, h4⟩
    rw [hg.block g (Array.getElem?_eq_some_iff.1 h3).1 (by intro h; have : g = r := Option.some.inj h; omega)]; exact h3
end Go.Proofs.YtpnnchjmaggmpaaGreatDoor

namespace Go.Proofs.YtpnnchjmaggmpaaGreatDoor
open Go.RowKit

theorem held_take {P : Program} {md : Region.Mode} {ops : Array Oper} {Q : Exit → Act → World → Prop} {S : World → Prop} {i : Nat} {oi : Oper} {d : Option Tmp} {v : Value} {fuel : Nat} {listed listed' : Array Bool} {a : Act} {w : World} (hi : ops[i]? = some oi) (hd : oi.dst = d)
    (hs : Region.noSelect ops = true) (hf : Region.free md ops listed i = true) (hr : (Region.ready md ops listed).contains i = true) (hl : listed.setIfInBounds i true = listed')
    (hQ : ∀ c a w, Q (.panic c) (a.put d v) w → Q (.panic c) a w) (hw : Region.wanted oi (yielded ops a.tmps) = true) (hy : ∀ w, S w → (execOp a.eval oi).run P w = .ok (.value v) w) (hS : S w)
    (h : wpAnyH P md ops Q S fuel listed' (a.put d v) w) : wpAnyH P md ops Q S (fuel + 1) listed a w := by
  subst hd; subst hl
  exact wpAnyH_take hi hs hf hr hQ (.inl ⟨hw, hy⟩) hS h
theorem held_skip {P : Program} {md : Region.Mode} {ops : Array Oper} {Q : Exit → Act → World → Prop} {S : World → Prop} {i : Nat} {oi : Oper} {d : Option Tmp} {fuel : Nat} {listed listed' : Array Bool} {a : Act} {w : World} (hi : ops[i]? = some oi) (hd : oi.dst = d)
    (hs : Region.noSelect ops = true) (hf : Region.free md ops listed i = true) (hr : (Region.ready md ops listed).contains i = true) (hl : listed.setIfInBounds i true = listed')
    (hQ : ∀ c a w, Q (.panic c) (a.put d undef) w → Q (.panic c) a w) (hw : Region.wanted oi (yielded ops a.tmps) = false) (hS : S w)
    (h : wpAnyH P md ops Q S fuel listed' (a.put d undef) w) : wpAnyH P md ops Q S (fuel + 1) listed a w := by
  subst hd; subst hl
  exact wpAnyH_take hi hs hf hr hQ (.inr ⟨hw, rfl⟩) hS h
theorem held_one {P : Program} {md : Region.Mode} {ops : Array Oper} {Q : Exit → Act → World → Prop} {S : World → Prop} {i : Nat} {oi : Oper} {d : Option Tmp} {fuel : Nat} {listed listed' : Array Bool} {a : Act} {w : World} (hi : ops[i]? = some oi) (hd : oi.dst = d)
    (hr : Region.ready md ops listed = [i]) (hl : listed.setIfInBounds i true = listed') (hw : Region.wanted oi (yielded ops a.tmps) = true)
    (h : ∀ K : Act → World → Prop, Shut (∀ v w, S w → wpAnyH P md ops Q S fuel listed' (a.put d v) w → K (a.put d v) w) → Oper.wp P oi a w K Q) : wpAnyH P md ops Q S (fuel + 1) listed a w := by
  subst hd; subst hl
  refine wpAnyH_ready hr (by simp) (AllReadyH.cons hi (fun K hK => ?_) AllReadyH.nil)
  rw [if_pos hw]
  exact h K (fun v w hS hW => hK _ _ hS (fun _ => hW))
theorem Below.of (w w' w'' : World) (h : Below w.heap.size w w') (k : Below w'.heap.size w' w'') : Below w.heap.size w w'' := h.trans (k.mono h.size)

theorem wpOp_imp {P : Program} {ops : Array Oper} {Q : Exit → Act → World → Prop} {i : Nat} {a : Act} {w : World} {K K' : Act → World → Prop} (h : ∀ a w, K a w → K' a w) (hk : wpOp P ops Q i K a w) : wpOp P ops Q i K' a w := wpOp_mono h hk
theorem held_less {P : Program} {md : Region.Mode} {ops : Array Oper} {Q : Exit → Act → World → Prop} {S S' : World → Prop} (hS : ∀ w, S w → S' w) : ∀ (fuel : Nat) (listed : Array Bool) (a : Act) (w : World), wpAnyH P md ops Q S fuel listed a w → wpAnyH P md ops Q S' fuel listed a w
  | 0, _, _, _, h => h
  | fuel + 1, _, _, _, h => ⟨h.1, fun i hi => wpOp_imp (fun a' w' h' => ⟨hS _ h'.1, held_less hS fuel _ a' w' h'.2⟩) (h.2 i hi)⟩
theorem kept_start {P : Program} {ops : Array Oper} {Q : Exit → Act → World → Prop} {id : Nat} {a : Act} {w : World} (hm : P.follows .mixedOrders = true)
    (h : wpAnyH P .any ops Q (Below w.heap.size w.drew) ops.size (Array.replicate ops.size false) a w.drew) : (Code.region id ops true).wp P Q a w :=
  wp_region_held_drew (S := Below w.heap.size w.drew) hm (Below.refl _ _) (fun _ => h)
theorem kept_take {P : Program} {md : Region.Mode} {ops : Array Oper} {Q : Exit → Act → World → Prop} {i : Nat} {oi : Oper} {d : Option Tmp} {v : Value} {fuel : Nat} {listed listed' : Array Bool} {a : Act} {B : Nat} {w : World} (hi : ops[i]? = some oi) (hd : oi.dst = d)
    (hs : Region.noSelect ops = true) (hf : Region.free md ops listed i = true) (hr : (Region.ready md ops listed).contains i = true) (hl : listed.setIfInBounds i true = listed')
    (hQ : ∀ c a w, Q (.panic c) (a.put d v) w → Q (.panic c) a w) (hw : Region.wanted oi (yielded ops a.tmps) = true) (hy : ∀ w', Below B w w' → (execOp a.eval oi).run P w' = .ok (.value v) w')
    (h : wpAnyH P md ops Q (Below B w) fuel listed' (a.put d v) w) : wpAnyH P md ops Q (Below B w) (fuel + 1) listed a w :=
  held_take hi hd hs hf hr hl hQ hw hy (Below.refl _ _) h
theorem kept_call {P : Program} {md : Region.Mode} {ops : Array Oper} {Q : Exit → Act → World → Prop} {i : Nat} {oi : Oper} {d : Option Tmp} {fuel : Nat} {listed listed' : Array Bool} {a : Act} {B : Nat} {w : World} (hi : ops[i]? = some oi) (hd : oi.dst = d)
    (hr : Region.ready md ops listed = [i]) (hl : listed.setIfInBounds i true = listed') (hw : Region.wanted oi (yielded ops a.tmps) = true)
    (h : ∀ K : Act → World → Prop, Shut (∀ v w', Below B w w' → B ≤ w'.heap.size → wpAnyH P md ops Q (Below w'.heap.size w') fuel listed' (a.put d v) w' → K (a.put d v) w') → Oper.wp P oi a w K Q) : wpAnyH P md ops Q (Below B w) (fuel + 1) listed a w :=
  held_one hi hd hr hl hw (fun K hK => h K (fun v w' hb hB hn => hK v w' hb (held_less (fun _ h' => hb.trans (h'.mono hB)) _ _ _ _ hn)))
end Go.Proofs.YtpnnchjmaggmpaaGreatDoor

namespace Go.Proofs.YtpnnchjmaggmpaaGreatDoor
open Go.RowKit

theorem sb_dec : ∀ (n u : Nat), u < n → sb ⟨(Lib.decDigits u).toArray⟩ = digL u := by
  have sbm : ∀ l : List UInt8, sb ⟨l.toArray⟩ = l.map (fun b => (b.toNat : Int)) := fun l => rfl
  intro n
  induction n with
  | zero => intro u h; omega
  | succ n ih =>
    intro u hu
    rw [sbm, Lib.decDigits]
    by_cases h : u < 10
    · rw [dif_pos h, digL_small u h]
      simp only [List.map_cons, List.map_nil]
      rw [UInt8.toNat_ofNat_of_lt' (by show 48 + u < 256; omega)]; congr 1
    · rw [dif_neg h, digL_more u h, List.map_append, ← sbm, ih (u / 10) (by omega)]
      simp only [List.map_cons, List.map_nil]
      rw [UInt8.toNat_ofNat_of_lt' (by show 48 + u % 10 < 256; omega)]; congr 1
theorem dec_str (u : Nat) : (⟨(Lib.decDigits u).toArray⟩ : ByteArray) = strOfNums (digL u) := by
  rw [← str_sb ⟨(Lib.decDigits u).toArray⟩, sb_dec (u + 1) u (by omega)]
def Tab (w : World) : Prop := Lib.TabIs Tryz.prog w "internal/strconv.uint64pow10" .u64 Lib.pow10Tab
theorem gTab : Tryz.prog.globalNamed "internal/strconv.uint64pow10" = some 5 := by kernel_rfl
theorem Tab.below {w w' : World} (h : Tab w) (hb : Below w.heap.size w w') : Tab w' := by
  unfold Tab Lib.TabIs World.var? at h ⊢
  rw [gTab] at h ⊢
  simp only [Option.bind_some] at h ⊢
  rw [hb.block _ ?_]
  · exact h
  · rcases Nat.lt_or_ge 5 w.heap.size with h' | h'
    · exact h'
    · rw [Array.getElem?_eq_none h'] at h; cases h
theorem below_grow (w : World) (k : Nat) (os : Array Obj) : Below w.heap.size w (Sort.grow (w.drewN k) os) := by
  refine ⟨rfl, rfl, rfl, ?_, ?_⟩
  · show w.heap.size ≤ (w.heap ++ os).size
    simp
  · intro j hj
    show (w.heap ++ os)[j]? = w.heap[j]?
    rw [Array.getElem?_append_left hj]
theorem itoa_any (n : Nat) (_h1 : n ≤ 9223372036854775807) (w : World) (ht : Tab w) :
    Calls Tryz.prog 36 #[.int .i64 (n : Int)] w fun e w' => e = .returned (.string (strOfNums (digL n))) ∧ Below w.heap.size w w' := by
  refine (Tryz.strconv_Itoa (n : Int) (by omega) (by omega) w ht).mono ?_
  rintro e w' ⟨rfl, k, os, rfl⟩
  refine ⟨?_, below_grow w k os⟩
  have : Lib.itoa (n : Int) = Lib.decDigits n := by unfold Lib.itoa; rw [if_neg (by omega)]; rfl
  rw [this, dec_str]
theorem natAbs_digits (n : Int) (h : n < 0) : (⟨(Lib.itoa n).toArray⟩ : ByteArray) = strOfNums (decL n) := by
  have sbm : ∀ l : List UInt8, sb ⟨l.toArray⟩ = l.map (fun b => (b.toNat : Int)) := fun l => rfl
  rw [← str_sb ⟨(Lib.itoa n).toArray⟩]
  congr 1
  unfold Lib.itoa decL
  rw [if_pos h, if_pos h, sbm, List.map_cons, ← sbm, sb_dec (n.natAbs + 1) _ (by omega)]; rfl
theorem itoaZ_any (n : Int) (_h0 : -9223372036854775808 ≤ n) (_h1 : n ≤ 9223372036854775807) (w : World) (ht : Tab w) :
    Calls Tryz.prog 36 #[.int .i64 n] w fun e w' => e = .returned (.string (strOfNums (decL n))) ∧ Below w.heap.size w w' := by
  by_cases h : n < 0
  · refine (Tryz.strconv_Itoa n (by omega) (by omega) w ht).mono ?_
    rintro e w' ⟨rfl, k, os, rfl⟩
    exact ⟨by rw [natAbs_digits n h], below_grow w k os⟩
  · obtain ⟨m, rfl⟩ : ∃ m : Nat, n = m := ⟨n.toNat, by omega⟩
    have hd : decL (m : Int) = digL m := by unfold decL; rw [if_neg (by omega)]; rfl
    rw [hd]; exact itoa_any m (by omega) w ht
end Go.Proofs.YtpnnchjmaggmpaaGreatDoor



namespace Go.Proofs.YtpnnchjmaggmpaaGreatDoor
open Go.RowKit

structure Tk where
  kind : Int
  text : ByteArray
  num : Int
  sh : ByteArray
  c : Int
  r : Int
  ac : Bool
  ar : Bool
  pos : Int
def Tk.zero : Tk := ⟨0, ⟨#[]⟩, 0, ⟨#[]⟩, 0, 0, false, false, 0⟩
def Tk.goto (t : Tk) (p : Int) : Tk := { t with pos := p }
def isWord (x : Int) : Bool := isLet x || (isNum x || decide (x = 36 ∨ x = 33))
def numT (l : List Int) : Option (Tk × Nat) :=
  if (1 < (l.takeWhile isNum).length ∧ l.head? = some 48) ∨ 9223372036854775807 < valL (l.takeWhile isNum) then none
  else some ({ Tk.zero with kind := 1, num := valL (l.takeWhile isNum) }, (l.takeWhile isNum).length)
def quoF : List Int → Option (List Int × Nat)
  | [] => none
  | x :: l =>
    if x < 32 then none
    else if x ≠ 34 then (quoF l).map fun p => (x :: p.1, p.2 + 1)
    else match l with
      | y :: m => if y = 34 then (quoF m).map fun p => (34 :: p.1, p.2 + 2) else some ([], 1)
      | [] => some ([], 1)
def quoT (l : List Int) : Option (Tk × Nat) := (quoF l).map fun p => ({ Tk.zero with kind := 2, text := strOfNums p.1 }, p.2 + 1)
def calledL (l : List Int) : Bool := decide (∀ x ∈ l, (isCap x || isNum x) = true) && (decide (1 ≤ l.length ∧ l.length ≤ 12) && isCap (l.getD 0 0))
def wordT (l : List Int) : Option (Tk × Nat) :=
  match readS (strOfNums (l.takeWhile isWord)) with
  | some d => some ({ Tk.zero with kind := 4, sh := d.sh, c := d.c, r := d.r, ac := d.ac, ar := d.ar }, (l.takeWhile isWord).length)
  | none => if calledL (l.takeWhile isWord) = true then some ({ Tk.zero with kind := 3, text := strOfNums (l.takeWhile isWord) }, (l.takeWhile isWord).length) else none
def deadT (l : List Int) : Option (Tk × Nat) := if l.take 5 = [35, 82, 69, 70, 33] then some ({ Tk.zero with kind := 6 }, 5) else none
def signN : List Int → Nat
  | [] => 0
  | x :: l =>
    if (x = 60 ∧ (l.head? = some 62 ∨ l.head? = some 61)) ∨ (x = 62 ∧ l.head? = some 61) then 2
    else if x = 43 ∨ x = 45 ∨ x = 42 ∨ x = 47 ∨ x = 38 ∨ x = 61 ∨ x = 60 ∨ x = 62 ∨ x = 40 ∨ x = 41 ∨ x = 44 ∨ x = 58 then 1 else 0
def signT (l : List Int) : Option (Tk × Nat) := if signN l = 0 then none else some ({ Tk.zero with kind := 5, text := strOfNums (l.take (signN l)) }, signN l)
def tokT : List Int → Option (Tk × Nat)
  | [] => none
  | x :: l => if isNum x = true then numT (x :: l) else if x = 34 then quoT l else if x = 35 then deadT (x :: l) else if isLet x = true ∨ x = 36 then wordT (x :: l) else signT (x :: l)
def lexF : Nat → Nat → List Int → Option (List Tk)
  | _, p, [] => some [Tk.zero.goto p]
  | 0, _, _ :: _ => none
  | f + 1, p, x :: l =>
    if x = 32 then lexF f (p + 1) l
    else match tokT (x :: l) with
      | none => none
      | some (t, n) => (lexF f (p + n) ((x :: l).drop n)).map (t.goto p :: ·)
def lexL (l : List Int) : Option (List Tk) := lexF l.length 0 l

theorem tokT_cons (x : Int) (l : List Int) : tokT (x :: l) = if isNum x = true then numT (x :: l) else if x = 34 then quoT l else if x = 35 then deadT (x :: l) else if isLet x = true ∨ x = 36 then wordT (x :: l) else signT (x :: l) := rfl
theorem quoF_cons (x : Int) (l : List Int) : quoF (x :: l) = if x < 32 then none else if x ≠ 34 then (quoF l).map fun p => (x :: p.1, p.2 + 1) else match l with
      | y :: m => if y = 34 then (quoF m).map fun p => (34 :: p.1, p.2 + 2) else some ([], 1)
      | [] => some ([], 1) := by conv => lhs; rw [quoF.eq_def]
theorem lexF_cons (f p : Nat) (x : Int) (l : List Int) : lexF (f + 1) p (x :: l) = if x = 32 then lexF f (p + 1) l else match tokT (x :: l) with
      | none => none
      | some (t, n) => (lexF f (p + n) ((x :: l).drop n)).map (t.goto p :: ·) := rfl
theorem take_le (p : Int → Bool) (l : List Int) : (l.takeWhile p).length ≤ l.length := by
  have h := congrArg List.length (take_split p l)
  rw [List.length_append] at h; omega
theorem take_pos (p : Int → Bool) (x : Int) (l : List Int) (h : p x = true) : 0 < ((x :: l).takeWhile p).length := by
  rw [List.takeWhile_cons, if_pos h]; simp
theorem quoF_le : ∀ (n : Nat) (l : List Int) (t : List Int) (k : Nat), l.length ≤ n → quoF l = some (t, k) → 0 < k ∧ k ≤ l.length
  | _, [], _, _, _, h => by simp [quoF] at h
  | 0, _ :: _, _, _, hn, _ => by simp at hn
  | n + 1, x :: l, t, k, hn, h => by
    rw [quoF_cons] at h
    by_cases h1 : x < 32
    · rw [if_pos h1] at h; cases h
    · rw [if_neg h1] at h
      by_cases h2 : x ≠ 34
      · rw [if_pos h2] at h
        cases hq : quoF l with
        | none => rw [hq] at h; cases h
        | some q =>
          rw [hq] at h
          simp only [Option.map_some, Option.some.injEq, Prod.mk.injEq] at h
          have := quoF_le n l q.1 q.2 (by simp at hn; omega) hq
          simp only [List.length_cons]; omega
      · rw [if_neg h2] at h
        cases l with
        | nil => simp at h; simp only [List.length_cons, List.length_nil]; omega
        | cons y m =>
          by_cases hy : y = 34
          · simp only [hy, if_true] at h
            cases hq : quoF m with
            | none => rw [hq] at h; cases h
            | some q =>
              rw [hq] at h
              simp only [Option.map_some, Option.some.injEq, Prod.mk.injEq] at h
              have := quoF_le n m q.1 q.2 (by simp at hn; omega) hq
              simp only [List.length_cons]; omega
          · simp only [hy, if_false, Option.some.injEq, Prod.mk.injEq] at h
            simp only [List.length_cons]; omega
theorem signN_cons (x : Int) (l : List Int) : signN (x :: l) = if (x = 60 ∧ (l.head? = some 62 ∨ l.head? = some 61)) ∨ (x = 62 ∧ l.head? = some 61) then 2
    else if x = 43 ∨ x = 45 ∨ x = 42 ∨ x = 47 ∨ x = 38 ∨ x = 61 ∨ x = 60 ∨ x = 62 ∨ x = 40 ∨ x = 41 ∨ x = 44 ∨ x = 58 then 1 else 0 := rfl
theorem signN_le : ∀ l : List Int, signN l ≤ l.length
  | [] => Nat.le_refl _
  | x :: l => by
    rw [signN_cons]
    by_cases h : (x = 60 ∧ (l.head? = some 62 ∨ l.head? = some 61)) ∨ (x = 62 ∧ l.head? = some 61)
    · rw [if_pos h]
      have h0 : l ≠ [] := by rintro rfl; simp at h
      have := List.length_pos_iff.2 h0
      simp only [List.length_cons]; omega
    · rw [if_neg h]
      split <;> simp
theorem isWord_let {x : Int} (h : isLet x = true ∨ x = 36) : isWord x = true := by
  unfold isWord
  rcases h with h | h
  · rw [h]; rfl
  · subst h; decide
theorem tokT_le (l : List Int) (t : Tk) (n : Nat) (h : tokT l = some (t, n)) : 0 < n ∧ n ≤ l.length := by
  cases l with
  | nil => simp [tokT] at h
  | cons x l =>
    rw [tokT_cons] at h
    by_cases h1 : isNum x = true
    · rw [if_pos h1] at h
      unfold numT at h
      split at h
      · cases h
      · simp only [Option.some.injEq, Prod.mk.injEq] at h
        rw [← h.2]; exact ⟨take_pos isNum x l h1, take_le _ _⟩
    · rw [if_neg h1] at h
      by_cases h2 : x = 34
      · rw [if_pos h2] at h
        unfold quoT at h
        cases hq : quoF l with
        | none => rw [hq] at h; cases h
        | some q =>
          rw [hq] at h
          simp only [Option.map_some, Option.some.injEq, Prod.mk.injEq] at h
          have := quoF_le _ l q.1 q.2 (Nat.le_refl _) hq
          simp only [List.length_cons]; omega
      · rw [if_neg h2] at h
        by_cases h3 : x = 35
        · rw [if_pos h3] at h
          unfold deadT at h
          split at h
          · rename_i h5
            simp only [Option.some.injEq, Prod.mk.injEq] at h
            have := congrArg List.length h5
            rw [List.length_take] at this
            simp only [List.length_cons, List.length_nil] at this ⊢; omega
          · cases h
        · rw [if_neg h3] at h
          by_cases h4 : isLet x = true ∨ x = 36
          · rw [if_pos h4] at h
            unfold wordT at h
            split at h
            · simp only [Option.some.injEq, Prod.mk.injEq] at h
              rw [← h.2]; exact ⟨take_pos isWord x l (isWord_let h4), take_le _ _⟩
            · split at h
              · simp only [Option.some.injEq, Prod.mk.injEq] at h
                rw [← h.2]; exact ⟨take_pos isWord x l (isWord_let h4), take_le _ _⟩
              · cases h
          · rw [if_neg h4] at h
            unfold signT at h
            split at h
            · cases h
            · rename_i h5
              simp only [Option.some.injEq, Prod.mk.injEq] at h
              rw [← h.2]; exact ⟨by omega, signN_le _⟩
theorem lexF_more : ∀ (f g p : Nat) (l : List Int), l.length ≤ f → l.length ≤ g → lexF f p l = lexF g p l
  | 0, 0, _, _, _, _ => rfl
  | _, _, _, [], _, _ => by unfold lexF; rfl
  | 0, _, _, _ :: _, h, _ => by simp at h
  | _, 0, _, _ :: _, _, h => by simp at h
  | f + 1, g + 1, p, x :: l, h, h2 => by
    simp only [List.length_cons] at h h2
    rw [lexF_cons, lexF_cons]
    by_cases hx : x = 32
    · rw [if_pos hx, if_pos hx]; exact lexF_more f g (p + 1) l (by omega) (by omega)
    · rw [if_neg hx, if_neg hx]
      cases ht : tokT (x :: l) with
      | none => rfl
      | some q =>
        obtain ⟨t, n⟩ := q
        have hn := tokT_le _ _ _ ht
        simp only
        rw [lexF_more f g (p + n) ((x :: l).drop n) (by rw [List.length_drop]; simp only [List.length_cons]; omega) (by rw [List.length_drop]; simp only [List.length_cons]; omega)]

def Alike (b b' : List Int) : Prop := b'.head? = b.head? ∨ b'.head? = some 32
theorem head_no {p : Int → Bool} (hp : p 32 = false) {b b' : List Int} (h : Alike b b') (hb : ∀ x, b.head? = some x → p x = false) : ∀ x, b'.head? = some x → p x = false := by
  intro x hx
  rcases h with h | h
  · exact hb x (by rw [← h]; exact hx)
  · rw [h] at hx; injection hx with hx; rw [← hx]; exact hp
theorem span_alike {p : Int → Bool} (hp : p 32 = false) {a b b' : List Int} (h : Alike b b') (hs : ((a ++ b).takeWhile p).length = a.length) : (a ++ b).takeWhile p = a ∧ (a ++ b').takeWhile p = a := by
  have e := take_split p (a ++ b)
  rw [hs, List.drop_left] at e
  have e1 : (a ++ b).takeWhile p = a := List.append_cancel_right e
  refine ⟨e1, ?_⟩
  have hall : ∀ x ∈ a, p x = true := fun x hx => take_all p (a ++ b) x (by rw [e1]; exact hx)
  have hh := take_head p (a ++ b)
  rw [hs, List.drop_left] at hh
  exact take_part p a b' hall (head_no hp h hh)
theorem quoF_alike {b b' : List Int} (h : Alike b b') : ∀ (n : Nat) (a t : List Int), a.length ≤ n → quoF (a ++ b) = some (t, a.length) → quoF (a ++ b') = some (t, a.length)
  | _, [], t, _, hq => by
    exfalso
    have := quoF_le _ _ _ _ (Nat.le_refl _) hq
    simp at this
  | 0, _ :: _, _, hn, _ => by simp at hn
  | n + 1, x :: a, t, hn, hq => by
    rw [List.cons_append, quoF_cons] at hq ⊢
    by_cases h1 : x < 32
    · rw [if_pos h1] at hq; cases hq
    · rw [if_neg h1] at hq ⊢
      by_cases h2 : x ≠ 34
      · rw [if_pos h2] at hq ⊢
        cases hr : quoF (a ++ b) with
        | none => rw [hr] at hq; cases hq
        | some q =>
          rw [hr] at hq
          simp only [Option.map_some, Option.some.injEq, Prod.mk.injEq, List.length_cons] at hq
          have h3 := quoF_alike h n a q.1 (by simp at hn; omega) (by rw [hr, ← show q.2 = a.length from by omega])
          rw [h3]
          simp only [Option.map_some, List.length_cons, Option.some.injEq, Prod.mk.injEq, and_true]
          exact hq.1
      · rw [if_neg h2] at hq ⊢
        cases a with
        | nil =>
          simp only [List.nil_append] at hq ⊢
          cases b with
          | nil =>
            simp only [Option.some.injEq, Prod.mk.injEq] at hq
            cases b' with
            | nil => simpa using hq
            | cons y m =>
              rcases h with h | h
              · simp at h
              · simp at h; subst h; simpa using hq
          | cons z m =>
            by_cases hz : z = 34
            · exfalso
              simp only [hz, if_true] at hq
              cases hr : quoF m with
              | none => rw [hr] at hq; cases hq
              | some q => rw [hr] at hq; simp at hq
            · simp only [hz, if_false] at hq
              cases b' with
              | nil => simpa using hq
              | cons y k =>
                have hy : ¬ y = 34 := by
                  rcases h with h | h
                  · simp at h; rw [h]; exact hz
                  · simp at h; omega
                simp only [hy, if_false]; exact hq
        | cons y m =>
          simp only [List.cons_append] at hq ⊢
          by_cases hy : y = 34
          · simp only [hy, if_true] at hq ⊢
            cases hr : quoF (m ++ b) with
            | none => rw [hr] at hq; cases hq
            | some q =>
              rw [hr] at hq
              simp only [Option.map_some, Option.some.injEq, Prod.mk.injEq, List.length_cons] at hq
              have h3 := quoF_alike h n m q.1 (by simp at hn; omega) (by rw [hr, ← show q.2 = m.length from by omega])
              rw [h3]
              simp only [Option.map_some, List.length_cons, Option.some.injEq, Prod.mk.injEq, and_true]
              exact hq.1
          · simp only [hy, if_false, Option.some.injEq, Prod.mk.injEq, List.length_cons] at hq
            exfalso; omega

theorem signN_alike {b b' : List Int} (h : Alike b b') (x : Int) (hs : signN (x :: b) = 1) : signN (x :: b') = 1 := by
  rw [signN_cons] at hs ⊢
  by_cases h2 : (x = 60 ∧ (b.head? = some 62 ∨ b.head? = some 61)) ∨ (x = 62 ∧ b.head? = some 61)
  · rw [if_pos h2] at hs; omega
  · rw [if_neg h2] at hs
    have h3 : ¬ ((x = 60 ∧ (b'.head? = some 62 ∨ b'.head? = some 61)) ∨ (x = 62 ∧ b'.head? = some 61)) := by
      rcases h with h | h
      · rw [h]; exact h2
      · rw [h]; simp
    rw [if_neg h3]; exact hs
theorem take_len (a b : List Int) : (a ++ b).take a.length = a := List.take_left
theorem tokT_alike {a b b' : List Int} {t : Tk} (h : Alike b b') (hq : tokT (a ++ b) = some (t, a.length)) : tokT (a ++ b') = some (t, a.length) := by
  cases a with
  | nil =>
    have := (tokT_le _ _ _ hq).1
    simp at this
  | cons x a =>
    have hsp : ∀ (p : Int → Bool), p 32 = false → ((x :: a ++ b).takeWhile p).length = (x :: a).length → (x :: a ++ b').takeWhile p = (x :: a ++ b).takeWhile p := by
      intro p hp hl
      obtain ⟨e1, e2⟩ := span_alike hp h hl
      rw [e1, e2]
    rw [List.cons_append, tokT_cons] at hq ⊢
    by_cases h1 : isNum x = true
    · rw [if_pos h1] at hq ⊢
      have hn : ((x :: a ++ b).takeWhile isNum).length = (x :: a).length := by
        unfold numT at hq
        split at hq
        · cases hq
        · simp only [Option.some.injEq, Prod.mk.injEq] at hq; exact hq.2
      have e := hsp isNum (by decide) hn
      rw [← hq]
      unfold numT
      rw [List.cons_append, List.cons_append] at e
      rw [e]; rfl
    · rw [if_neg h1] at hq ⊢
      by_cases h2 : x = 34
      · rw [if_pos h2] at hq ⊢
        unfold quoT at hq ⊢
        cases hr : quoF (a ++ b) with
        | none => rw [hr] at hq; cases hq
        | some q =>
          rw [hr] at hq
          simp only [Option.map_some, Option.some.injEq, Prod.mk.injEq, List.length_cons] at hq
          have h3 := quoF_alike h _ a q.1 (Nat.le_refl _) (by rw [hr, ← show q.2 = a.length from by omega])
          rw [h3]
          simp only [Option.map_some, List.length_cons, Option.some.injEq, Prod.mk.injEq, and_true]
          exact hq.1
      · rw [if_neg h2] at hq ⊢
        by_cases h3 : x = 35
        · rw [if_pos h3] at hq ⊢
          unfold deadT at hq ⊢
          by_cases h5 : (x :: (a ++ b)).take 5 = [35, 82, 69, 70, 33]
          · rw [if_pos h5] at hq
            simp only [Option.some.injEq, Prod.mk.injEq] at hq
            have e1 : (x :: (a ++ b)).take 5 = x :: a := by rw [hq.2, ← List.cons_append]; exact take_len _ _
            have e2 : (x :: (a ++ b')).take 5 = x :: a := by rw [hq.2, ← List.cons_append]; exact take_len _ _
            rw [e1] at h5
            rw [e2, if_pos h5, hq.1]
            exact congrArg (fun k => some (t, k)) hq.2
          · rw [if_neg h5] at hq; cases hq
        · rw [if_neg h3] at hq ⊢
          by_cases h4 : isLet x = true ∨ x = 36
          · rw [if_pos h4] at hq ⊢
            have hn : ((x :: a ++ b).takeWhile isWord).length = (x :: a).length := by
              unfold wordT at hq
              split at hq
              · simp only [Option.some.injEq, Prod.mk.injEq] at hq; exact hq.2
              · split at hq
                · simp only [Option.some.injEq, Prod.mk.injEq] at hq; exact hq.2
                · cases hq
            have e := hsp isWord (by decide) hn
            rw [← hq]
            unfold wordT
            rw [List.cons_append, List.cons_append] at e
            rw [e]
          · rw [if_neg h4] at hq ⊢
            unfold signT at hq ⊢
            by_cases h5 : signN (x :: (a ++ b)) = 0
            · rw [if_pos h5] at hq; cases hq
            · rw [if_neg h5] at hq
              simp only [Option.some.injEq, Prod.mk.injEq] at hq
              have e : signN (x :: (a ++ b')) = signN (x :: (a ++ b)) := by
                cases a with
                | nil => rw [hq.2]; exact signN_alike h x hq.2
                | cons y a => rw [signN_cons, signN_cons]; rfl
              rw [e, if_neg h5, ← hq.1, hq.2]
              have e1 : (x :: (a ++ b)).take (x :: a).length = x :: a := by rw [← List.cons_append]; exact take_len _ _
              have e2 : (x :: (a ++ b')).take (x :: a).length = x :: a := by rw [← List.cons_append]; exact take_len _ _
              rw [e1, e2]

def ins : Nat → List Int → List Tk → List Nat → List Int
  | _, l, [], _ => l
  | p, l, t :: ts, ks => l.take (t.pos.toNat - p) ++ (List.replicate (ks.headD 0) 32 ++ ins t.pos.toNat (l.drop (t.pos.toNat - p)) ts ks.tail)
end Go.Proofs.YtpnnchjmaggmpaaGreatDoor

namespace Go.Proofs.YtpnnchjmaggmpaaGreatDoor
open Go.RowKit

theorem digL_head : ∀ (n u : Nat), u < n → 1 ≤ u → (digL u).head? ≠ some 48 := by
  intro n
  induction n with
  | zero => intro u h; omega
  | succ n ih =>
    intro u hu h1
    by_cases h : u < 10
    · rw [digL_small u h]; simp; omega
    · rw [digL_more u h]
      have := ih (u / 10) (by omega) (by omega)
      cases hd : digL (u / 10) with
      | nil => exact absurd hd (digL_ne _)
      | cons y l => rw [hd] at this; simpa using this
theorem word_cap {x : Int} (h : isCap x = true) : isWord x = true := isWord_let (.inl (by unfold isCap at h; unfold isLet; rw [decide_eq_true_iff] at h ⊢; omega))
theorem word_num {x : Int} (h : isNum x = true) : isWord x = true := by unfold isWord; rw [h]; simp
theorem word_tail (c r : Int) (ac ar : Bool) : ∀ x ∈ tailL c r ac ar, isWord x = true := by
  intro x hx
  unfold tailL at hx
  simp only [List.mem_append] at hx
  rcases hx with h | h | h | h
  · have := dol_all _ x h; rw [decide_eq_true_iff] at this; subst this; decide
  · exact word_cap (isCap_colL c x h)
  · have := dol_all _ x h; rw [decide_eq_true_iff] at this; subst this; decide
  · exact word_num (isNum_digL _ x h)
theorem word_name (l : List Int) (h : nameL l = true) : ∀ x ∈ l, isWord x = true := by
  intro x hx
  unfold nameL at h
  rw [Bool.and_eq_true, decide_eq_true_iff] at h
  obtain ⟨j, hj, rfl⟩ := List.mem_iff_getElem.1 hx
  have := h.1 j hj
  rw [List.getD_eq_getElem?_getD, List.getElem?_eq_getElem hj] at this
  simp only [Option.getD_some] at this
  unfold inName at this
  unfold isWord
  rw [Bool.or_eq_true, Bool.and_eq_true] at this
  rcases this with h1 | ⟨_, h1⟩
  · rw [h1]; rfl
  · rw [h1]; simp
theorem word_textL (sh : List Int) (c r : Int) (ac ar : Bool) (h : mayL sh c r = true) : ∀ x ∈ textL sh c r ac ar, isWord x = true := by
  intro x hx
  rw [textL_eq _ _ _ _ _ h, List.mem_append] at hx
  rcases hx with hx | hx
  · by_cases h0 : sh = []
    · rw [if_pos h0] at hx; simp at hx
    · rw [if_neg h0, List.mem_append] at hx
      rcases hx with hx | hx
      · exact word_name sh ((mayL_sheet h).resolve_left h0) x hx
      · simp at hx; subst hx; decide
  · exact word_tail c r ac ar x hx
theorem textL_head (sh : List Int) (c r : Int) (ac ar : Bool) (h : mayL sh c r = true) : ∃ x l, textL sh c r ac ar = x :: l ∧ (isLet x = true ∨ x = 36) := by
  rw [textL_eq _ _ _ _ _ h]
  obtain ⟨c0, c1, _, _⟩ := mayL_nums h
  by_cases h0 : sh = []
  · rw [if_pos h0, List.nil_append]
    unfold tailL
    cases ac with
    | true => exact ⟨36, _, rfl, .inr rfl⟩
    | false =>
      have hcol := isCap_colL c
      cases hc : colL c with
      | nil => exact absurd hc (colL_ne c c0 c1)
      | cons y m =>
        refine ⟨y, _, rfl, .inl ?_⟩
        have := hcol y (by rw [hc]; simp)
        unfold isCap at this; unfold isLet; rw [decide_eq_true_iff] at this ⊢; omega
  · rw [if_neg h0]
    have hn := (mayL_sheet h).resolve_left h0
    cases sh with
    | nil => exact absurd rfl h0
    | cons y m =>
      refine ⟨y, _, rfl, .inl ?_⟩
      unfold nameL at hn
      rw [Bool.and_eq_true, decide_eq_true_iff] at hn
      have := hn.1 0 (by simp)
      unfold inName at this
      simpa using this
theorem read_text (s : ByteArray) (c r : Int) (ac ar : Bool) (h : mayL (sb s) c r = true) : ∃ d, readS (strOfNums (textL (sb s) c r ac ar)) = some d ∧ d.sh = s ∧ d.c = c ∧ d.r = r ∧ d.ac = ac ∧ d.ar = ar := by
  have hb := sb_str _ (bytes_textL s c r ac ar)
  cases hq : readS (strOfNums (textL (sb s) c r ac ar)) with
  | none => exact absurd hb.symm (read_none _ hq _ _ _ _ _ h)
  | some d =>
    obtain ⟨_, h2, h3⟩ := read_some _ d hq
    rw [hb] at h3
    obtain ⟨e1, e2, e3, e4, e5⟩ := textL_inj h2 h h3
    exact ⟨d, rfl, sb_inj e1, e2, e3, e4, e5⟩
def dblL : List Int → List Int
  | [] => []
  | x :: l => (if x = 34 then [34, 34] else [x]) ++ dblL l
end Go.Proofs.YtpnnchjmaggmpaaGreatDoor

namespace Go.Proofs.YtpnnchjmaggmpaaGreatDoor
open Go.RowKit

def isBl (c : Int) : Bool := decide (c = 32)
def isBeg (c : Int) : Bool := isLet c || decide (c = 36)

set_option maxHeartbeats 400000 in
theorem lexBlank_any (c : Int) (_h0 : 0 ≤ c) (_h1 : c ≤ 255) (w : World) :
    Calls Tryz.prog 86 #[.int .u8 c] w fun e w' => e = .returned (.bool (isBl c)) ∧ w = w' := by
  go_enter Tryz.func86, Tryz.ntmps86
  go_wp2
  all_goals go_ret
  all_goals exact ⟨ret_bool (by unfold isBl; first | rfl | (symm; rw [decide_eq_true_iff]; omega) | (symm; rw [decide_eq_false_iff_not]; omega) | (rw [decide_eq_decide]; omega)), rfl⟩

set_option maxHeartbeats 400000 in
theorem lexDigit_any (c : Int) (_h0 : 0 ≤ c) (_h1 : c ≤ 255) (w : World) :
    Calls Tryz.prog 113 #[.int .u8 c] w fun e w' => e = .returned (.bool (isNum c)) ∧ w = w' := by
  go_enter Tryz.func113, Tryz.ntmps113
  go_wp2
  all_goals go_ret
  all_goals exact ⟨ret_bool (by unfold isNum; first | rfl | (symm; rw [decide_eq_true_iff]; omega) | (symm; rw [decide_eq_false_iff_not]; omega) | (rw [decide_eq_decide]; omega)), rfl⟩

set_option maxHeartbeats 400000 in
theorem lexCapital_any (c : Int) (_h0 : 0 ≤ c) (_h1 : c ≤ 255) (w : World) :
    Calls Tryz.prog 139 #[.int .u8 c] w fun e w' => e = .returned (.bool (isCap c)) ∧ w = w' := by
  go_enter Tryz.func139, Tryz.ntmps139
  go_wp2
  all_goals go_ret
  all_goals exact ⟨ret_bool (by unfold isCap; first | rfl | (symm; rw [decide_eq_true_iff]; omega) | (symm; rw [decide_eq_false_iff_not]; omega) | (rw [decide_eq_decide]; omega)), rfl⟩

theorem isBeg_cap {c : Int} (h : isCap c = true) : isBeg c = true := by unfold isBeg; rw [isLet_cap h]; rfl
theorem isBeg_nocap {c : Int} (h : isCap c = false) : isBeg c = decide (97 ≤ c ∧ c ≤ 122 ∨ c = 36) := by unfold isBeg; rw [isLet_nocap h]; simp
theorem isWord_beg {c : Int} : isWord c = (isBeg c || (isNum c || decide (c = 33))) := by
  unfold isWord isBeg; rw [show decide (c = 36 ∨ c = 33) = (decide (c = 36) || decide (c = 33)) from by simp]
  cases isLet c <;> cases isNum c <;> cases decide (c = 36) <;> simp

set_option maxHeartbeats 400000 in
theorem beginsWord_any (c : Int) (_h0 : 0 ≤ c) (_h1 : c ≤ 255) (w : World) :
    Calls Tryz.prog 117 #[.int .u8 c] w fun e w' => e = .returned (.bool (isBeg c)) ∧ w = w' := by
  by_cases hc : isCap c = true
  · have HL := Lib.hid (isBeg_cap hc)
    go_enter Tryz.func117, Tryz.ntmps117
    go_wp2_with (go_at_call 139; ((with_reducible refine (lexCapital_any _ ?_ ?_ _).mono ?_); (first | omega | skip); (first | omega | skip); rintro e w' ⟨rfl, rfl⟩))
    all_goals go_ret
    all_goals exact ⟨ret_bool (by rw [HL.out]), rfl⟩
  · have hc' : isCap c = false := by simpa using hc
    have HL := Lib.hid (isBeg_nocap hc'); clear hc
    go_enter Tryz.func117, Tryz.ntmps117
    go_wp2_with (go_at_call 139; ((with_reducible refine (lexCapital_any _ ?_ ?_ _).mono ?_); (first | omega | skip); (first | omega | skip); rintro e w' ⟨rfl, rfl⟩))
    all_goals go_ret
    all_goals exact ⟨ret_bool (by rw [HL.out]; first | rfl | (symm; rw [decide_eq_true_iff]; omega) | (symm; rw [decide_eq_false_iff_not]; omega) | (rw [Bool.eq_iff_iff]; simp only [Bool.or_eq_true, decide_eq_true_iff, beq_iff_eq]; omega)), rfl⟩

set_option maxHeartbeats 400000 in
theorem isOfWord_any (c : Int) (_h0 : 0 ≤ c) (_h1 : c ≤ 255) (w : World) :
    Calls Tryz.prog 140 #[.int .u8 c] w fun e w' => e = .returned (.bool (isWord c)) ∧ w = w' := by
  have HW := Lib.hid (isWord_beg (c := c))
  cases hb : isBeg c
  · cases hn : isNum c
    · rw [hb, hn] at HW
      go_enter Tryz.func140, Tryz.ntmps140
      go_wp2_with (first
        | (go_at_call 117; ((with_reducible refine (beginsWord_any _ ?_ ?_ _).mono ?_); (first | omega | skip); (first | omega | skip); rintro e w' ⟨rfl, rfl⟩; rw [hb]))
        | (go_at_call 113; ((with_reducible refine (lexDigit_any _ ?_ ?_ _).mono ?_); (first | omega | skip); (first | omega | skip); rintro e w' ⟨rfl, rfl⟩; rw [hn])))
      all_goals go_ret
      all_goals exact ⟨ret_bool (by rw [HW.out]; first | rfl | (rw [Bool.eq_iff_iff]; simp only [Bool.or_eq_true, Bool.and_eq_true, Bool.false_or, decide_eq_true_iff, beq_iff_eq])), rfl⟩
    · rw [hb, hn] at HW
      go_enter Tryz.func140, Tryz.ntmps140
      go_wp2_with (first
        | (go_at_call 117; ((with_reducible refine (beginsWord_any _ ?_ ?_ _).mono ?_); (first | omega | skip); (first | omega | skip); rintro e w' ⟨rfl, rfl⟩; rw [hb]))
        | (go_at_call 113; ((with_reducible refine (lexDigit_any _ ?_ ?_ _).mono ?_); (first | omega | skip); (first | omega | skip); rintro e w' ⟨rfl, rfl⟩; rw [hn])))
      all_goals go_ret
      all_goals exact ⟨ret_bool (by rw [HW.out]; rfl), rfl⟩
  · rw [hb] at HW
    go_enter Tryz.func140, Tryz.ntmps140
    go_wp2_with (first
      | (go_at_call 117; ((with_reducible refine (beginsWord_any _ ?_ ?_ _).mono ?_); (first | omega | skip); (first | omega | skip); rintro e w' ⟨rfl, rfl⟩; rw [hb])))
    all_goals go_ret
    all_goals exact ⟨ret_bool (by rw [HW.out]; rfl), rfl⟩

def LxAt (w : World) (b : Nat) (s : ByteArray) (k : Nat) : Prop := w.heap[b]? = some (.cells #[.string s, .int .i64 (k : Int)] 101)
theorem LxAt.lt {w : World} {b : Nat} {s : ByteArray} {k : Nat} (h : LxAt w b s k) : b < w.heap.size := (Array.getElem?_eq_some_iff.1 h).1
theorem LxAt.drewN {w : World} {b : Nat} {s : ByteArray} {k : Nat} (h : LxAt w b s k) (n : Nat) : LxAt (w.drewN n) b s k := h
theorem LxAt.below {w w' : World} {B b : Nat} {s : ByteArray} {k : Nat} (h : LxAt w b s k) (hb : Below B w w') (hB : b < B) : LxAt w' b s k := by unfold LxAt; rw [hb.block b hB]; exact h
theorem LxAt.facts {w : World} {b : Nat} {s : ByteArray} {k : Nat} (h : LxAt w b s k) : w.cell? ⟨b, 0, none⟩ = some (.string s) ∧ w.cell? ⟨b, 1, none⟩ = some (.int .i64 (k : Int)) :=
  ⟨by rw [cell_of_row w b 0 _ _ _ h]; rfl, by rw [cell_of_row w b 1 _ _ _ h]; rfl⟩
theorem LxAt.frozen {w : World} {b : Nat} {s : ByteArray} {k : Nat} (h : LxAt w b s k) (j : Nat) : w.frozen? ⟨b, j, none⟩ = false := frozen_of_row w b j _ _ h
theorem LxAt.setK {w : World} {b : Nat} {s : ByteArray} {k : Nat} (h : LxAt w b s k) (m : Nat) : LxAt (w.setCell ⟨b, 1, none⟩ (.int .i64 (m : Int))) b s m := by unfold LxAt; rw [heap_setCell_same w b 1 _ _ _ h]; rfl
theorem LxAt.setNext {w : World} {b : Nat} {s : ByteArray} {k : Nat} (h : LxAt w b s k) : LxAt (w.setCell ⟨b, 1, none⟩ (.int .i64 ((k : Int) + 1))) b s (k + 1) := h.setK (k + 1)
theorem LxAt.new (w : World) (s : ByteArray) : LxAt (w.alloc (.cells #[.string s, .int .i64 0] 101)) w.heap.size s 0 := (Go.MapKept.heap_alloc w _).1

def tokA (t : Tk) : Array Value := #[.int .i64 t.kind, .string t.text, .int .i64 t.num, .string t.sh, .int .i64 t.c, .int .i64 t.r, .bool t.ac, .bool t.ar, .int .i64 t.pos]
def TkAt (w : World) (b : Nat) (t : Tk) : Prop := w.heap[b]? = some (.cells (tokA t) 73)
theorem TkAt.lt {w : World} {b : Nat} {t : Tk} (h : TkAt w b t) : b < w.heap.size := (Array.getElem?_eq_some_iff.1 h).1
theorem TkAt.below {w w' : World} {B b : Nat} {t : Tk} (h : TkAt w b t) (hb : Below B w w') (hB : b < B) : TkAt w' b t := by unfold TkAt; rw [hb.block b hB]; exact h
theorem TkAt.drewN {w : World} {b : Nat} {t : Tk} (h : TkAt w b t) (n : Nat) : TkAt (w.drewN n) b t := h
theorem TkAt.frozen {w : World} {b : Nat} {t : Tk} (h : TkAt w b t) (j : Nat) : w.frozen? ⟨b, j, none⟩ = false := frozen_of_row w b j _ _ h
theorem TkAt.grown {w w' : World} {b c : Nat} {t : Tk} (h : TkAt w b t) (hg : w.grownBy w' (some c)) (hne : b ≠ c) : TkAt w' b t := by
  unfold TkAt; rw [hg.block b h.lt (by intro e; exact hne (Option.some.inj e))]; exact h
theorem TkAt.new (w : World) (t : Tk) : TkAt (w.alloc (.cells (tokA t) 73)) w.heap.size t := (Go.MapKept.heap_alloc w _).1
theorem tok_size : (Tryz.prog.info? 73).map (·.size) = some 9 := by kernel_rfl
theorem tok_one (t : Tk) : ∀ v ∈ (tokA t).toList, v.oneCell' = true := by
  intro v hv
  simp only [tokA, List.mem_cons, List.not_mem_nil, or_false] at hv
  rcases hv with rfl | rfl | rfl | rfl | rfl | rfl | rfl | rfl | rfl <;> rfl
end Go.Proofs.YtpnnchjmaggmpaaGreatDoor
