/-
  Layer 8, the program: the table of functions.
-/
import Derived.Test.YtolhmemiknpeaaaGreatDoorFuA
import Derived.Test.YtolhmemiknpeaaaGreatDoorFuM
namespace Go.Proofs.YtolhmemiknpeaaaGreatDoor
open Go.RowKit

def tabF (c : Value) : List (ByteArray × Value) := [(⟨#[83, 85, 77]⟩, .agg #[.int .i64 1, .int .i64 9223372036854775807, .int .i64 1, .bool false, .func (.func 14) #[.agg #[c]] #[]]),
  (⟨#[77, 73, 78]⟩, .agg #[.int .i64 1, .int .i64 9223372036854775807, .int .i64 1, .bool false, .func (.func 15) #[.agg #[c]] #[]]),
  (⟨#[77, 65, 88]⟩, .agg #[.int .i64 1, .int .i64 9223372036854775807, .int .i64 1, .bool false, .func (.func 16) #[.agg #[c]] #[]]),
  (⟨#[67, 79, 85, 78, 84]⟩, .agg #[.int .i64 1, .int .i64 9223372036854775807, .int .i64 1, .bool true, .func (.func 17) #[.agg #[c]] #[]]),
  (⟨#[65, 78, 68]⟩, .agg #[.int .i64 1, .int .i64 9223372036854775807, .int .i64 1, .bool false, .func (.func 18) #[.agg #[c]] #[]]),
  (⟨#[79, 82]⟩, .agg #[.int .i64 1, .int .i64 9223372036854775807, .int .i64 1, .bool false, .func (.func 19) #[.agg #[c]] #[]]),
  (⟨#[73, 70]⟩, .agg #[.int .i64 2, .int .i64 3, .int .i64 0, .bool true, .func (.func 20) #[.agg #[c]] #[]]),
  (⟨#[78, 79, 84]⟩, .agg #[.int .i64 1, .int .i64 1, .int .i64 0, .bool false, .func (.func 21) #[.agg #[c]] #[]]),
  (⟨#[65, 66, 83]⟩, .agg #[.int .i64 1, .int .i64 1, .int .i64 0, .bool false, .func (.func 22) #[.agg #[c]] #[]]),
  (⟨#[77, 79, 68]⟩, .agg #[.int .i64 2, .int .i64 2, .int .i64 0, .bool false, .func (.func 23) #[.agg #[c]] #[]]),
  (⟨#[76, 69, 78]⟩, .agg #[.int .i64 1, .int .i64 1, .int .i64 0, .bool false, .func (.func 24) #[.agg #[c]] #[]]),
  (⟨#[76, 69, 70, 84]⟩, .agg #[.int .i64 2, .int .i64 2, .int .i64 0, .bool false, .func (.func 25) #[.agg #[c]] #[]]),
  (⟨#[82, 73, 71, 72, 84]⟩, .agg #[.int .i64 2, .int .i64 2, .int .i64 0, .bool false, .func (.func 26) #[.agg #[c]] #[]]),
  (⟨#[77, 73, 68]⟩, .agg #[.int .i64 3, .int .i64 3, .int .i64 0, .bool false, .func (.func 27) #[.agg #[c]] #[]]),
  (⟨#[67, 79, 78, 67, 65, 84]⟩, .agg #[.int .i64 1, .int .i64 9223372036854775807, .int .i64 1, .bool false, .func (.func 28) #[.agg #[c]] #[]]),
  (⟨#[73, 83, 69, 82, 82]⟩, .agg #[.int .i64 1, .int .i64 1, .int .i64 0, .bool true, .func (.func 29) #[.agg #[c]] #[]]),
  (⟨#[82, 79, 87, 83]⟩, .agg #[.int .i64 1, .int .i64 1, .int .i64 2, .bool true, .func (.func 30) #[.agg #[c]] #[]]),
  (⟨#[67, 79, 76, 83]⟩, .agg #[.int .i64 1, .int .i64 1, .int .i64 2, .bool true, .func (.func 31) #[.agg #[c]] #[]])]
theorem tab_size (c : Value) : ∀ p ∈ tabF c, p.1.size ≤ maxLen := by
  have h : ∀ x ∈ (tabF .nilFunc).map (·.1), x.size ≤ maxLen := by unfold maxLen; decide
  intro p hp
  have e : (tabF c).map (·.1) = (tabF .nilFunc).map (·.1) := rfl
  exact h p.1 (e ▸ List.mem_map.2 ⟨p, hp, rfl⟩)
def FnMapK (w : World) (b : Nat) (ks : List ByteArray) (es : List (ByteArray × Value)) : Prop := FnMap w b es ∧ es.map (·.1) = ks
theorem upon_insert {P : Program} {w : World} {o : Oper} {a : Act} {K : Act → World → Prop} {Q : Exit → Act → World → Prop} {f : Unit → World → Result Next} (t k e : TypeId) (ht : P.underlying t = some (.map k e)) (hk : P.underlying k = some .string) (b : Nat) (ks : List ByteArray) (es : List (ByteArray × Value))
    (hown : FnMapK w b ks es) (key : ByteArray) (val : Value) (hs : ks.all (fun y => decide (y.size ≤ 100) && decide (y.data.toList ≠ key.data.toList)) = true) (hks : key.size ≤ 100)
    (hK : ∀ w', FnMapK w' b (ks ++ [key]) (es ++ [(key, val)]) → (∀ B a, Below B a w → B ≤ b → Below B a w') → Oper.upon P o a K Q ((Result.ok () w').andThen f)) :
    Oper.upon P o a K Q (((Instr.mapUpdate t (.map (some b)) (.string key) val).run P w).andThen f) := by
  have hall : ∀ p ∈ es, p.1.size ≤ 100 ∧ p.1 ≠ key := fun p hp => by
    have := List.all_eq_true.1 hs p.1 (hown.2 ▸ List.mem_map.2 ⟨p, hp, rfl⟩)
    rw [Bool.and_eq_true, decide_eq_true_iff, decide_eq_true_iff] at this
    exact ⟨this.1, fun e => this.2 (by rw [e])⟩
  obtain ⟨w', hrun, r1, r2⟩ := hown.1.put ht hk (fun p hp => Nat.le_trans (hall p hp).1 (by unfold maxLen; decide)) key (Nat.le_trans hks (by unfold maxLen; decide)) (fun p hp => (hall p hp).2) val
  rw [hrun]
  exact hK w' ⟨r1, by rw [List.map_append, hown.2]; rfl⟩ r2
set_option maxRecDepth 100000 in
set_option maxHeartbeats 8000000 in
theorem functions_any (c : Value) (w : World) : Calls Tryz.prog 10 #[.agg #[c]] w fun e w' => ∃ b, e = .returned (.map (some b)) ∧ FnMap w' b (tabF c) ∧ w.heap.size ≤ b ∧ b < w'.heap.size ∧ Below w.heap.size w w' := by
  have HM := Lib.hid (show FnMapK ((w.alloc (.cells #[c] 38)).alloc (.map #[] 0)) (w.heap.size + 1) [] [] from ⟨by
    have := FnMap.made (w.alloc (.cells #[c] 38)); rwa [World.size_alloc] at this, rfl⟩)
  have HB := Lib.hid (((Below.refl w.heap.size w).alloc (Nat.le_refl _) (.cells #[c] 38)).alloc (by rw [World.size_alloc]; omega) (.map #[] 0))
  have k1 : ((w.alloc (.cells #[c] 38)).alloc (.map #[] 0)).cell? ⟨w.heap.size, 0, none⟩ = some c := by
    rw [cell_of_row _ w.heap.size 0 #[c] 38 _ (by rw [(Go.MapKept.heap_alloc _ _).2 _ (by rw [World.size_alloc]; omega)]; exact (Go.MapKept.heap_alloc w _).1)]; rfl
  have hmm := @run_makeMap Tryz.prog
  go_enter Tryz.func10, Tryz.ntmps10
  go_wp2_with (first
    | (refine upon_insert 44 9 42 Tryz.underlying44 Tryz.underlying9 (w.heap.size + 1) _ _ HM.out _ _ (by decide +kernel) (by decide +kernel) ?_; intro wn hm hb; replace HM := Lib.hid hm; replace HB := Lib.hid (hb _ _ HB.out (by omega)); replace k1 := (((hb (w.heap.size + 1) _ (Below.refl _ _) (Nat.le_refl _)).cell (p := ⟨w.heap.size, 0, none⟩) (by show w.heap.size < w.heap.size + 1; omega)).trans k1); clear hm hb))
  go_ret
  exact ⟨_, rfl, HM.out.1, by omega, HM.out.1.lt, HB.out⟩
end Go.Proofs.YtolhmemiknpeaaaGreatDoor
