/-
  Layer 10, memory: rows that a call made; zones, one behind the other.
-/
import Derived.Test.YtnnnpjdlhdkeaaaSeG
import Derived.Laws.MakeOwn
namespace Go.Proofs.Ytnnnpjdlhdkeaaa
open Go.RowKit

/-- The row g holds these (and what may stand behind). -/
def RwA {α : Type} {k : Nat} (E : Enc α k) (e : TypeId) (w : World) (g : Nat) (xs : List α) : Prop := ∃ cur : Array Value, w.heap[g]? = some (.cells cur e) ∧ ∀ (j : Nat) (u : Value), (E.all xs)[j]? = some u → cur[j]? = some u
theorem RwA.keep {α : Type} {k : Nat} {E : Enc α k} {e : TypeId} {w w' : World} {g : Nat} {xs : List α} (h : RwA E e w g xs) (hk : w'.heap[g]? = w.heap[g]?) : RwA E e w' g xs := by
  obtain ⟨cur, h1, h2⟩ := h
  exact ⟨cur, by rw [hk]; exact h1, h2⟩
theorem RwA.cell {α : Type} {k : Nat} {E : Enc α k} {e : TypeId} {w : World} {g : Nat} {xs : List α} (h : RwA E e w g xs) (j : Nat) (u : Value) (hj : (E.all xs)[j]? = some u) : w.cell? ⟨g, j, none⟩ = some u := by
  obtain ⟨cur, h1, h2⟩ := h
  rw [cell_of_row w g j cur e _ h1]; exact h2 j u hj
theorem RwA.melt {α : Type} {k : Nat} {E : Enc α k} {e : TypeId} {w : World} {g : Nat} {xs : List α} (h : RwA E e w g xs) (j : Nat) : w.frozen? ⟨g, j, none⟩ = false := by
  obtain ⟨cur, h1, h2⟩ := h
  exact frozen_of_row w g j cur e h1
theorem RwA.lt {α : Type} {k : Nat} {E : Enc α k} {e : TypeId} {w : World} {g : Nat} {xs : List α} (h : RwA E e w g xs) : g < w.heap.size := by
  obtain ⟨cur, h1, h2⟩ := h
  exact (Array.getElem?_eq_some_iff.1 h1).1
theorem Own.rwA {α : Type} {k : Nat} {E : Enc α k} {e : TypeId} {w : World} {base g n cap : Nat} {xs : List α} (h : Own E e w base (.slice (Option.some ⟨g, 0, none⟩) n cap) xs) : RwA E e w g xs := by
  obtain ⟨_, cur, h1⟩ := h.lies (g := g) rfl
  refine ⟨cur, h1, fun j u hj => ?_⟩
  have := h.cells j u hj
  rwa [cell_of_row w g j cur e _ h1] at this
theorem RwA.se {α : Type} {k : Nat} {E : Enc α k} {e : TypeId} {w : World} {g cap B : Nat} {xs : List α} (h : RwA E e w g xs) (hB : g < B) (h1 : xs.length ≤ cap) (h2 : cap ≤ maxLen) : SE E w B (.slice (some ⟨g, 0, none⟩) xs.length cap) xs :=
  ⟨_, _, rfl, h1, h2, .inr ⟨g, 0, rfl, hB, fun j u hj => by rw [Nat.zero_add]; exact h.cell j u hj⟩⟩
theorem all_set1 {α : Type} (E : Enc α 1) (xs : List α) (i : Nat) (x : α) (u : Value) (hu : E.f x = [u]) : E.all (xs.set i x) = (E.all xs).set i u := by
  unfold Enc.all
  induction xs generalizing i with
  | nil => rfl
  | cons a t ih =>
    obtain ⟨v, hv⟩ := List.length_eq_one_iff.1 (E.len a)
    cases i with
    | zero => rw [List.set_cons_zero, List.flatMap_cons, List.flatMap_cons, hu, hv]; rfl
    | succ i => rw [List.set_cons_succ, List.flatMap_cons, List.flatMap_cons, ih, hv]; rfl
theorem all_set3 {α : Type} (E : Enc α 3) (xs : List α) (i : Nat) (x : α) (a b c : Value) (hu : E.f x = [a, b, c]) : E.all (xs.set i x) = (((E.all xs).set (i * 3) a).set (i * 3 + 1) b).set (i * 3 + 2) c := by
  unfold Enc.all
  induction xs generalizing i with
  | nil => rfl
  | cons y t ih =>
    obtain ⟨p, q, r, hv⟩ : ∃ p q r, E.f y = [p, q, r] := by
      have := E.len y
      match h : E.f y, this with
      | [p, q, r], _ => exact ⟨p, q, r, rfl⟩
    cases i with
    | zero => rw [List.set_cons_zero, List.flatMap_cons, List.flatMap_cons, hu, hv]; rfl
    | succ i =>
      rw [List.set_cons_succ, List.flatMap_cons, List.flatMap_cons, ih, hv]
      have e0 : (i + 1) * 3 = i * 3 + 1 + 1 + 1 := by omega
      rw [e0]
      have e1 : i * 3 + 1 + 1 + 1 + 1 = (i * 3 + 1) + 1 + 1 + 1 := rfl
      have e2 : i * 3 + 1 + 1 + 1 + 2 = (i * 3 + 2) + 1 + 1 + 1 := rfl
      rw [e1, e2]
      rfl
theorem set_read {l : List Value} {cur : Array Value} {i : Nat} {u : Value} (h : ∀ (j : Nat) (v : Value), l[j]? = some v → cur[j]? = some v) : ∀ (j : Nat) (v : Value), (l.set i u)[j]? = some v → (cur.setIfInBounds i u)[j]? = some v := by
  intro j v hv
  rw [List.getElem?_set] at hv
  rw [Array.getElem?_setIfInBounds]
  by_cases hij : i = j
  · rw [if_pos hij] at hv ⊢
    split at hv
    · rename_i hl
      have hc := h j _ (List.getElem?_eq_getElem (hij ▸ hl))
      have := (Array.getElem?_eq_some_iff.1 hc).1
      rw [if_pos (by omega)]; exact hv
    · cases hv
  · rw [if_neg hij] at hv ⊢
    exact h j v hv
theorem RwA.set1 {α : Type} {E : Enc α 1} {e : TypeId} {w : World} {g : Nat} {xs : List α} (h : RwA E e w g xs) (i : Nat) (x : α) (u : Value) (hu : E.f x = [u]) : RwA E e (w.setCell ⟨g, i, none⟩ u) g (xs.set i x) := by
  obtain ⟨cur, h1, h2⟩ := h
  exact ⟨_, heap_setCell_same w g i cur e u h1, by rw [all_set1 E xs i x u hu]; exact set_read h2⟩
theorem RwA.set3 {α : Type} {E : Enc α 3} {e : TypeId} {w : World} {g : Nat} {xs : List α} (h : RwA E e w g xs) (i : Nat) (x : α) (a b c : Value) (hu : E.f x = [a, b, c]) : RwA E e (((w.setCell ⟨g, i * 3, none⟩ a).setCell ⟨g, i * 3 + 1, none⟩ b).setCell ⟨g, i * 3 + 2, none⟩ c) g (xs.set i x) := by
  obtain ⟨cur, h1, h2⟩ := h
  have k1 := heap_setCell_same w g (i * 3) cur e a h1
  have k2 := heap_setCell_same _ g (i * 3 + 1) _ e b k1
  exact ⟨_, heap_setCell_same _ g (i * 3 + 2) _ e c k2, by rw [all_set3 E xs i x a b c hu]; exact set_read (set_read (set_read h2))⟩
theorem made_rwA {α : Type} {k : Nat} (E : Enc α k) (e : TypeId) (w : World) (n : Nat) (z : α) (zs : Array Value) (hz : E.f z = zs.toList) (hk : 0 < k) : RwA E e (w.alloc (.cells (madeCells zs (n * k)) e)) w.heap.size (List.replicate n z) := by
  refine ⟨_, (Go.MapKept.heap_alloc w _).1, fun j u hj => ?_⟩
  have hlen : zs.size = k := by rw [← E.len z, hz]; simp
  have hjl : j < n * k := by
    have := (List.getElem?_eq_some_iff.1 hj).1
    rwa [E.length_all, List.length_replicate] at this
  obtain ⟨i, m, hm, rfl⟩ : ∃ i m, m < k ∧ j = i * k + m := ⟨j / k, j % k, Nat.mod_lt _ hk, by rw [Nat.mul_comm]; exact (Nat.div_add_mod j k).symm⟩
  have hin : i < n := by
    rcases Nat.lt_or_ge i n with h | h
    · exact h
    · have := Nat.mul_le_mul_right k h; omega
  rw [E.at _ i m z (by rw [List.getElem?_replicate, if_pos hin]) hm, hz] at hj
  unfold madeCells
  rw [Array.getElem?_map, Array.getElem?_range, if_pos hjl]
  have hmod : (i * k + m) % zs.size = m := by rw [hlen, Nat.add_comm, Nat.add_mul_mod_self_right, Nat.mod_eq_of_lt hm]
  rw [Option.map_some, hmod]
  have hms : m < zs.size := by omega
  rw [Array.getElem?_toList, Array.getElem?_eq_getElem hms] at hj
  rw [getElem!_pos zs m hms]; exact hj
/-- A list's elements, each in a zone of its own, one behind the other. -/
def Zon {α : Type} (P : α → Nat → Nat → Prop) : List α → Nat → Nat → Prop
  | [], lo, hi => lo ≤ hi
  | x :: xs, lo, hi => ∃ mid, lo ≤ mid ∧ P x lo mid ∧ Zon P xs mid hi
theorem Zon.le {α : Type} {P : α → Nat → Nat → Prop} : ∀ {xs : List α} {lo hi : Nat}, Zon P xs lo hi → lo ≤ hi
  | [], _, _, h => h
  | _ :: xs, _, _, ⟨_, h1, _, h3⟩ => Nat.le_trans h1 (Zon.le (xs := xs) h3)
theorem Zon.snoc {α : Type} {P : α → Nat → Nat → Prop} : ∀ {xs : List α} {lo mid hi : Nat} {x : α}, Zon P xs lo mid → mid ≤ hi → P x mid hi → (∀ y a b c, b ≤ c → a ≤ b → P y b c → P y a c) → Zon P (xs ++ [x]) lo hi
  | [], _, _, _, _, h, h1, h2, hm => ⟨_, Nat.le_trans h h1, hm _ _ _ _ h1 h h2, Nat.le_refl _⟩
  | _ :: _, _, _, _, _, ⟨m, h3, h4, h5⟩, h1, h2, hm => ⟨m, h3, h4, Zon.snoc h5 h1 h2 hm⟩
theorem Zon.imp {α : Type} {P Q : α → Nat → Nat → Prop} : ∀ {xs : List α} {lo hi : Nat}, Zon P xs lo hi → (∀ x a b, x ∈ xs → lo ≤ a → b ≤ hi → P x a b → Q x a b) → Zon Q xs lo hi
  | [], _, _, h, _ => h
  | x :: xs, lo, hi, ⟨m, h1, h2, h3⟩, hk => ⟨m, h1, hk x lo m (by simp) (Nat.le_refl _) (Zon.le h3) h2, Zon.imp h3 fun y a b hy ha hb => hk y a b (by simp [hy]) (Nat.le_trans h1 ha) hb⟩
theorem Zon.up {α : Type} {P : α → Nat → Nat → Prop} (hm : ∀ y a b c d, a ≤ b → c ≤ d → b ≤ c → P y b c → P y a d) : ∀ {xs : List α} {lo hi lo' hi' : Nat}, Zon P xs lo hi → lo' ≤ lo → hi ≤ hi' → Zon P xs lo' hi'
  | [], _, _, _, _, h, h1, h2 => Nat.le_trans h1 (Nat.le_trans h h2)
  | x :: _, lo, _, lo', _, ⟨m, h3, h4, h5⟩, h1, h2 => ⟨m, Nat.le_trans h1 h3, hm x lo' lo m m h1 (Nat.le_refl _) h3 h4, Zon.up hm h5 (Nat.le_refl _) h2⟩
/-- One element, its zone, and what may be put in its place. -/
theorem Zon.at {α : Type} {P : α → Nat → Nat → Prop} : ∀ {xs : List α} {lo hi : Nat} (_ : Zon P xs lo hi) (i : Nat) (x : α) (_ : xs[i]? = some x), ∃ a b, lo ≤ a ∧ a ≤ b ∧ b ≤ hi ∧ P x a b ∧ ∀ (Q : α → Nat → Nat → Prop) (x' : α), (∀ y u v, y ∈ xs → lo ≤ u → v ≤ hi → (v ≤ a ∨ b ≤ u) → P y u v → Q y u v) → Q x' a b → Zon Q (xs.set i x') lo hi
  | x :: xs, lo, hi, ⟨m, h1, h2, h3⟩, 0, y, hy => by
    obtain rfl : x = y := by simpa using hy
    refine ⟨lo, m, Nat.le_refl _, h1, Zon.le h3, h2, fun Q x' hk hq => ?_⟩
    exact ⟨m, h1, hq, Zon.imp h3 fun z a b hz ha hb hp => hk z a b (by simp [hz]) (Nat.le_trans h1 ha) hb (.inr ha) hp⟩
  | x :: xs, lo, hi, ⟨m, h1, h2, h3⟩, i + 1, y, hy => by
    obtain ⟨a, b, k1, k2, k3, k4, k5⟩ := Zon.at h3 i y (by simpa using hy)
    refine ⟨a, b, Nat.le_trans h1 k1, k2, k3, k4, fun Q x' hk hq => ?_⟩
    exact ⟨m, h1, hk x lo m (by simp) (Nat.le_refl _) (Nat.le_trans k1 (Nat.le_trans k2 k3)) (.inl k1) h2, k5 Q x' (fun z u v hz hu hv hd hp => hk z u v (by simp [hz]) (Nat.le_trans h1 hu) hv hd hp) hq⟩
end Go.Proofs.Ytnnnpjdlhdkeaaa
