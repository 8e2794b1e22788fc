/-
  A map from texts to anything that the call made: what it holds, one more put in, one looked up.
-/
import Derived.Test.YtnimmpidplfnnaaProg
import Derived.Maps.OwnSet
namespace Go.Proofs.Ytnimmpidplfnnaa
open Go Go.WideMaps Go.ChangeMaps Go.MapKept Go.Maps Go.WideElems Go.RowKit

def FnMap (w : World) (b : Nat) (es : List (ByteArray × Value)) : Prop :=
  ∃ a clock, w.heap[b]? = some (.map a clock) ∧ a.toList.map (fun e => (e.key, e.val)) = es.map (fun p => (Value.string p.1, p.2))
theorem FnMap.made (w : World) : FnMap (w.alloc (.map #[] 0)) w.heap.size [] := ⟨#[], 0, (MapKept.heap_alloc w _).1, rfl⟩
theorem FnMap.lt {w : World} {b : Nat} {es : List (ByteArray × Value)} (h : FnMap w b es) : b < w.heap.size := by
  obtain ⟨a, c, hb, _⟩ := h
  exact (Array.getElem?_eq_some_iff.1 hb).1
theorem FnMap.below {w w' : World} {b B : Nat} {es : List (ByteArray × Value)} (h : FnMap w b es) (hb : Below B w w') (hB : b < B) : FnMap w' b es := by
  obtain ⟨a, c, h1, h2⟩ := h
  exact ⟨a, c, (hb.block b hB).trans h1, h2⟩
theorem below_setBlock {B : Nat} {a w : World} {b : Nat} {es : Array MapEntry} {c : Nat} {o' : Obj} (h : Below B a w) (hb : w.heap[b]? = some (.map es c)) (hB : B ≤ b) : Below B a (setBlock w b o') :=
  ⟨h.os, h.tape, h.output, by simp [setBlock]; exact h.size, fun k hk => by rw [heap_setBlock_other hb _ (by omega)]; exact h.block k hk⟩
theorem FnMap.keys {es : List (ByteArray × Value)} {a : Array MapEntry} (h : a.toList.map (fun e => (e.key, e.val)) = es.map (fun p => (Value.string p.1, p.2))) : ∀ e ∈ a.toList, ∃ p ∈ es, e.key = .string p.1 ∧ e.val = p.2 := by
  intro e he
  have h1 : (e.key, e.val) ∈ a.toList.map (fun e => (e.key, e.val)) := List.mem_map.2 ⟨e, he, rfl⟩
  rw [h] at h1
  obtain ⟨p, hp, hpe⟩ := List.mem_map.1 h1
  simp only [Prod.mk.injEq] at hpe
  exact ⟨p, hp, hpe.1.symm, hpe.2.symm⟩
/-- One more, at a key that is not there. -/
theorem FnMap.put {P : Program} {w : World} {b : Nat} {es : List (ByteArray × Value)} {t k e : TypeId} (h : FnMap w b es) (ht : P.underlying t = some (.map k e)) (hk : P.underlying k = some .string) (hsz : ∀ p ∈ es, p.1.size ≤ maxLen) (key : ByteArray) (hks : key.size ≤ maxLen) (hnew : ∀ p ∈ es, p.1 ≠ key) (v : Value) :
    ∃ w', (Instr.mapUpdate t (.map (some b)) (.string key) v).run P w = .ok () w' ∧ FnMap w' b (es ++ [(key, v)]) ∧ ∀ B a, Below B a w → B ≤ b → Below B a w' := by
  obtain ⟨a, clock, hb, hes⟩ := h
  have K := string_keyed hk
  have hkey := keyOf_string_mk hk hks
  rcases K.find w hkey a.toList (fun x hx => by
      obtain ⟨p, hp, h1, _⟩ := FnMap.keys hes x hx
      exact ⟨_, by rw [h1]; exact keyOf_string_mk hk (hsz p hp)⟩) with ⟨h1, h2⟩ | ⟨j, x, _, h2, h3⟩
  · refine ⟨setBlock w b (.map (a.push ⟨.string key, v, clock⟩) (clock + 1)), ?_, ⟨_, _, heap_setBlock_same hb _, ?_⟩, fun B a0 hB hb2 => below_setBlock hB hb hb2⟩
    · simp [Instr.mapUpdate, run_underlying ht, MapKept.run_getObj_map hb, K.check w false hkey, h1, MapKept.run_setObj_map _ hb, Result.andThen, setBlock]
    · rw [Array.toList_push, List.map_append, List.map_append, hes]; rfl
  · exfalso
    obtain ⟨p, hp, h4, _⟩ := FnMap.keys hes x (List.mem_of_getElem? h2)
    rw [h3] at h4
    exact hnew p hp (Value.string.inj h4).symm
/-- A key that is not there. -/
theorem FnMap.miss {P : Program} {w : World} {b : Nat} {es : List (ByteArray × Value)} {t k e : TypeId} (h : FnMap w b es) (ht : P.underlying t = some (.map k e)) (hk : P.underlying k = some .string) (hsz : ∀ p ∈ es, p.1.size ≤ maxLen) {z : Value} (hz : (zeroValue e).run P w = .ok z w) (key : ByteArray) (hks : key.size ≤ maxLen) (hno : ∀ p ∈ es, p.1 ≠ key) :
    (Instr.lookup t (.map (some b)) (.string key) true).run P w = .ok (.tuple #[z, .bool false]) w := by
  obtain ⟨a, clock, hb, hes⟩ := h
  have K := string_keyed hk
  have hkey := keyOf_string_mk hk hks
  rcases K.find w hkey a.toList (fun x hx => by
      obtain ⟨p, hp, h1, _⟩ := FnMap.keys hes x hx
      exact ⟨_, by rw [h1]; exact keyOf_string_mk hk (hsz p hp)⟩) with ⟨h1, h2⟩ | ⟨j, x, _, h2, h3⟩
  · simp [Instr.lookup, run_underlying ht, MapKept.run_getObj_map hb, K.check w _ hkey, h1, hz, Result.andThen]
  · exfalso
    obtain ⟨p, hp, h4, _⟩ := FnMap.keys hes x (List.mem_of_getElem? h2)
    rw [h3] at h4
    exact hno p hp (Value.string.inj h4).symm
/-- A key that is there, once. -/
theorem FnMap.find {P : Program} {w : World} {b : Nat} {es : List (ByteArray × Value)} {t k e : TypeId} (h : FnMap w b es) (ht : P.underlying t = some (.map k e)) (hk : P.underlying k = some .string) (hsz : ∀ p ∈ es, p.1.size ≤ maxLen) (key : ByteArray) (hks : key.size ≤ maxLen) (v : Value) (hin : (key, v) ∈ es) (hone : ∀ p ∈ es, p.1 = key → p.2 = v) :
    (Instr.lookup t (.map (some b)) (.string key) true).run P w = .ok (.tuple #[v, .bool true]) w := by
  obtain ⟨a, clock, hb, hes⟩ := h
  have K := string_keyed hk
  have hkey := keyOf_string_mk hk hks
  rcases K.find w hkey a.toList (fun x hx => by
      obtain ⟨p, hp, h1, _⟩ := FnMap.keys hes x hx
      exact ⟨_, by rw [h1]; exact keyOf_string_mk hk (hsz p hp)⟩) with ⟨h1, h2⟩ | ⟨j, x, h1, h2, h3⟩
  · exfalso
    have h4 : (Value.string key, v) ∈ a.toList.map (fun e => (e.key, e.val)) := by rw [hes]; exact List.mem_map.2 ⟨_, hin, rfl⟩
    obtain ⟨x, hx, hxe⟩ := List.mem_map.1 h4
    simp only [Prod.mk.injEq] at hxe
    exact h2 x hx hxe.1
  · obtain ⟨p, hp, h4, h5⟩ := FnMap.keys hes x (List.mem_of_getElem? h2)
    rw [h3] at h4
    have h6 := hone p hp (Value.string.inj h4).symm
    rw [h5, h6] at h1
    simp [Instr.lookup, run_underlying ht, MapKept.run_getObj_map hb, K.check w _ hkey, h1, Result.andThen]
end Go.Proofs.Ytnimmpidplfnnaa
