/-
  Layer 15, without the program: how long the longest list is that two lists both have as a part, and the walk that finds one.
-/
import Derived.Test.YtnimmpidplfnnaaBase
namespace Go.Proofs.Ytnimmpidplfnnaa
/-- How long the longest list is that both have as a part. -/
def lcsN {α : Type} [DecidableEq α] : List α → List α → Nat
  | [], _ => 0
  | _ :: _, [] => 0
  | a :: ar, b :: bs => if a = b then 1 + lcsN ar bs else max (lcsN ar (b :: bs)) (lcsN (a :: ar) bs)
termination_by a b => a.length + b.length
theorem lcs_nil {α : Type} [DecidableEq α] (b : List α) : lcsN [] b = 0 := by unfold lcsN; rfl
theorem lcs_nil2 {α : Type} [DecidableEq α] (a : List α) : lcsN a [] = 0 := by cases a <;> unfold lcsN <;> rfl
theorem lcs_eq {α : Type} [DecidableEq α] {a b : α} (h : a = b) (ar bs : List α) : lcsN (a :: ar) (b :: bs) = 1 + lcsN ar bs := by rw [lcsN]; exact if_pos h
theorem lcs_ne {α : Type} [DecidableEq α] {a b : α} (h : a ≠ b) (ar bs : List α) : lcsN (a :: ar) (b :: bs) = max (lcsN ar (b :: bs)) (lcsN (a :: ar) bs) := by rw [lcsN]; exact if_neg h
/-- Two lists, both gone through. -/
theorem two_ind {α : Type} {P : List α → List α → Prop} (h1 : ∀ b, P [] b) (h2 : ∀ a, P a []) (h3 : ∀ a ar b bs, P ar bs → P ar (b :: bs) → P (a :: ar) bs → P (a :: ar) (b :: bs)) : ∀ a b, P a b
  | [], b => h1 b
  | a :: ar, [] => h2 _
  | a :: ar, b :: bs => h3 a ar b bs (two_ind h1 h2 h3 ar bs) (two_ind h1 h2 h3 ar (b :: bs)) (two_ind h1 h2 h3 (a :: ar) bs)
termination_by a b => a.length + b.length
theorem lcs_le {α : Type} [DecidableEq α] (a b : List α) : lcsN a b ≤ a.length ∧ lcsN a b ≤ b.length := by
  refine two_ind (P := fun a b => lcsN a b ≤ a.length ∧ lcsN a b ≤ b.length) ?_ ?_ ?_ a b
  · intro b; rw [lcs_nil]; exact ⟨Nat.zero_le _, Nat.zero_le _⟩
  · intro a; rw [lcs_nil2]; exact ⟨Nat.zero_le _, Nat.zero_le _⟩
  · intro a ar b bs h1 h2 h3
    simp only [List.length_cons] at *
    by_cases h : a = b
    · rw [lcs_eq h]; omega
    · rw [lcs_ne h]; omega
theorem lcs_comm {α : Type} [DecidableEq α] (a b : List α) : lcsN a b = lcsN b a := by
  refine two_ind (P := fun a b => lcsN a b = lcsN b a) ?_ ?_ ?_ a b
  · intro b; rw [lcs_nil, lcs_nil2]
  · intro a; rw [lcs_nil, lcs_nil2]
  · intro a ar b bs h1 h2 h3
    by_cases h : a = b
    · rw [lcs_eq h, lcs_eq h.symm, h1]
    · rw [lcs_ne h, lcs_ne (fun e => h e.symm), h2, h3, Nat.max_comm]
theorem lcs_map {α β : Type} [DecidableEq α] [DecidableEq β] (f : α → β) (a b : List α) (hf : ∀ x ∈ a, ∀ y ∈ b, f x = f y → x = y) : lcsN (a.map f) (b.map f) = lcsN a b := by
  revert hf
  refine two_ind (P := fun a b => (∀ x ∈ a, ∀ y ∈ b, f x = f y → x = y) → lcsN (a.map f) (b.map f) = lcsN a b) ?_ ?_ ?_ a b
  · intro b _; rw [List.map_nil, lcs_nil, lcs_nil]
  · intro a _; rw [List.map_nil, lcs_nil2, lcs_nil2]
  · intro a ar b bs h1 h2 h3 hf
    have g1 := h1 (fun x hx y hy => hf x (List.mem_cons_of_mem _ hx) y (List.mem_cons_of_mem _ hy))
    have g2 := h2 (fun x hx y hy => hf x (List.mem_cons_of_mem _ hx) y hy)
    have g3 := h3 (fun x hx y hy => hf x hx y (List.mem_cons_of_mem _ hy))
    simp only [List.map_cons] at g2 g3 ⊢
    by_cases h : a = b
    · rw [lcs_eq h, lcs_eq (by rw [h]), g1]
    · rw [lcs_ne h, lcs_ne (fun e => h (hf a (List.mem_cons_self ..) b (List.mem_cons_self ..) e)), g2, g3]
/-- Nothing that both have as a part is longer. -/
theorem lcs_most {α : Type} [DecidableEq α] (a b : List α) : ∀ c : List α, c.Sublist a → c.Sublist b → c.length ≤ lcsN a b := by
  refine two_ind (P := fun a b => ∀ c : List α, c.Sublist a → c.Sublist b → c.length ≤ lcsN a b) ?_ ?_ ?_ a b
  · intro b c h _; rw [List.sublist_nil.1 h]; exact Nat.zero_le _
  · intro a c _ h; rw [List.sublist_nil.1 h]; exact Nat.zero_le _
  · intro a ar b bs h1 h2 h3 c ha hb
    cases c with
    | nil => exact Nat.zero_le _
    | cons z cs =>
      by_cases h : a = b
      · rw [lcs_eq h]
        have := h1 cs (by have k := ha.tail; exact k) (by have k := hb.tail; exact k)
        rw [List.length_cons]; omega
      · rw [lcs_ne h]
        rcases List.sublist_cons_iff.1 ha with k | ⟨r, e, k⟩
        · have := h2 _ k hb; omega
        · injection e with e1 e2
          subst e1; subst e2
          rcases List.sublist_cons_iff.1 hb with k2 | ⟨r, e, k2⟩
          · have := h3 _ (k.cons_cons z) k2; omega
          · injection e with e1 e2; exact absurd e1 h
theorem lcs_take {α : Type} [DecidableEq α] (a : List α) (k : Nat) (hk : k ≤ a.length) : lcsN a (a.take k) = k := by
  have h1 := lcs_most a (a.take k) (a.take k) (List.take_sublist _ _) (List.Sublist.refl _)
  have h2 := (lcs_le a (a.take k)).2
  rw [List.length_take] at h1 h2
  omega
theorem lcs_drop {α : Type} [DecidableEq α] (a : List α) (k : Nat) : lcsN (a.drop k) a = a.length - k := by
  have h1 := lcs_most (a.drop k) a (a.drop k) (List.Sublist.refl _) (List.drop_sublist _ _)
  have h2 := (lcs_le (a.drop k) a).1
  rw [List.length_drop] at h1 h2
  omega
theorem lcs_none {α : Type} [DecidableEq α] (a b : List α) (h : ∀ x ∈ a, ∀ y ∈ b, x ≠ y) : lcsN a b = 0 := by
  revert h
  refine two_ind (P := fun a b => (∀ x ∈ a, ∀ y ∈ b, x ≠ y) → lcsN a b = 0) ?_ ?_ ?_ a b
  · intro b _; exact lcs_nil _
  · intro a _; exact lcs_nil2 _
  · intro a ar b bs h1 h2 h3 h
    rw [lcs_ne (h a (List.mem_cons_self ..) b (List.mem_cons_self ..)), h2 (fun x hx => h x (List.mem_cons_of_mem _ hx)), h3 (fun x hx y hy => h x hx y (List.mem_cons_of_mem _ hy))]
    rfl
/-- From a place of each on. -/
def lcsAt {α : Type} [DecidableEq α] (a b : List α) (i j : Nat) : Nat := lcsN (a.drop i) (b.drop j)
theorem lcsAt_eq {α : Type} [DecidableEq α] {a b : List α} {i j : Nat} {x y : α} (hx : a[i]? = some x) (hy : b[j]? = some y) (h : x = y) : lcsAt a b i j = 1 + lcsAt a b (i + 1) (j + 1) := by
  obtain ⟨hi, rfl⟩ := List.getElem?_eq_some_iff.1 hx
  obtain ⟨hj, rfl⟩ := List.getElem?_eq_some_iff.1 hy
  unfold lcsAt
  rw [List.drop_eq_getElem_cons hi, List.drop_eq_getElem_cons hj, lcs_eq h]
theorem lcsAt_ne {α : Type} [DecidableEq α] {a b : List α} {i j : Nat} {x y : α} (hx : a[i]? = some x) (hy : b[j]? = some y) (h : x ≠ y) : lcsAt a b i j = max (lcsAt a b (i + 1) j) (lcsAt a b i (j + 1)) := by
  obtain ⟨hi, rfl⟩ := List.getElem?_eq_some_iff.1 hx
  obtain ⟨hj, rfl⟩ := List.getElem?_eq_some_iff.1 hy
  unfold lcsAt
  rw [List.drop_eq_getElem_cons hi, List.drop_eq_getElem_cons hj, lcs_ne h, ← List.drop_eq_getElem_cons hi, ← List.drop_eq_getElem_cons hj]
theorem lcsAt_end1 {α : Type} [DecidableEq α] {a b : List α} {i j : Nat} (h : a.length ≤ i) : lcsAt a b i j = 0 := by unfold lcsAt; rw [List.drop_of_length_le h, lcs_nil]
theorem lcsAt_end2 {α : Type} [DecidableEq α] {a b : List α} {i j : Nat} (h : b.length ≤ j) : lcsAt a b i j = 0 := by unfold lcsAt; rw [List.drop_of_length_le h, lcs_nil2]
theorem lcsAt_le {α : Type} [DecidableEq α] (a b : List α) (i j : Nat) : lcsAt a b i j ≤ a.length := by
  have := (lcs_le (a.drop i) (b.drop j)).1
  unfold lcsAt
  rw [List.length_drop] at this; omega
theorem lcsAt_map {α β : Type} [DecidableEq α] [DecidableEq β] (f : α → β) (a b : List α) (hf : ∀ x ∈ a, ∀ y ∈ b, f x = f y → x = y) (i j : Nat) : lcsAt (a.map f) (b.map f) i j = lcsAt a b i j := by
  unfold lcsAt
  rw [← List.map_drop, ← List.map_drop]
  exact lcs_map f _ _ (fun x hx y hy => hf x (List.mem_of_mem_drop hx) y (List.mem_of_mem_drop hy))
/-- The walk through both. -/
def wkL {α : Type} [DecidableEq α] : List α → List α → Nat → Nat → List (Nat × Nat)
  | [], _, _, _ => []
  | _ :: _, [], _, _ => []
  | a :: ar, b :: bs, i, j => if a = b then (i, j) :: wkL ar bs (i + 1) (j + 1) else if lcsN (a :: ar) bs ≤ lcsN ar (b :: bs) then wkL ar (b :: bs) (i + 1) j else wkL (a :: ar) bs i (j + 1)
termination_by a b => a.length + b.length
theorem wk_nil {α : Type} [DecidableEq α] (b : List α) (i j : Nat) : wkL [] b i j = [] := by unfold wkL; rfl
theorem wk_nil2 {α : Type} [DecidableEq α] (a : List α) (i j : Nat) : wkL a [] i j = [] := by cases a <;> unfold wkL <;> rfl
theorem wk_eq {α : Type} [DecidableEq α] {a b : α} (h : a = b) (ar bs : List α) (i j : Nat) : wkL (a :: ar) (b :: bs) i j = (i, j) :: wkL ar bs (i + 1) (j + 1) := by rw [wkL]; exact if_pos h
theorem wk_ne1 {α : Type} [DecidableEq α] {a b : α} (h : a ≠ b) (ar bs : List α) (i j : Nat) (hl : lcsN (a :: ar) bs ≤ lcsN ar (b :: bs)) : wkL (a :: ar) (b :: bs) i j = wkL ar (b :: bs) (i + 1) j := by rw [wkL, if_neg h]; exact if_pos hl
theorem wk_ne2 {α : Type} [DecidableEq α] {a b : α} (h : a ≠ b) (ar bs : List α) (i j : Nat) (hl : ¬ lcsN (a :: ar) bs ≤ lcsN ar (b :: bs)) : wkL (a :: ar) (b :: bs) i j = wkL (a :: ar) bs i (j + 1) := by rw [wkL, if_neg h]; exact if_neg hl
theorem wk_len {α : Type} [DecidableEq α] (a b : List α) : ∀ i j, (wkL a b i j).length = lcsN a b := by
  refine two_ind (P := fun a b => ∀ i j, (wkL a b i j).length = lcsN a b) ?_ ?_ ?_ a b
  · intro b i j; rw [wk_nil, lcs_nil]; rfl
  · intro a i j; rw [wk_nil2, lcs_nil2]; rfl
  · intro a ar b bs h1 h2 h3 i j
    by_cases h : a = b
    · rw [wk_eq h, lcs_eq h, List.length_cons, h1]; omega
    · by_cases hl : lcsN (a :: ar) bs ≤ lcsN ar (b :: bs)
      · rw [wk_ne1 h _ _ _ _ hl, lcs_ne h, h2]; omega
      · rw [wk_ne2 h _ _ _ _ hl, lcs_ne h, h3]; omega
theorem wk_map {α β : Type} [DecidableEq α] [DecidableEq β] (f : α → β) (a b : List α) (hf : ∀ x ∈ a, ∀ y ∈ b, f x = f y → x = y) : ∀ i j, wkL (a.map f) (b.map f) i j = wkL a b i j := by
  revert hf
  refine two_ind (P := fun a b => (∀ x ∈ a, ∀ y ∈ b, f x = f y → x = y) → ∀ i j, wkL (a.map f) (b.map f) i j = wkL a b i j) ?_ ?_ ?_ a b
  · intro b _ i j; rw [List.map_nil, wk_nil, wk_nil]
  · intro a _ i j; rw [List.map_nil, wk_nil2, wk_nil2]
  · intro a ar b bs h1 h2 h3 hf i j
    have g1 := h1 (fun x hx y hy => hf x (List.mem_cons_of_mem _ hx) y (List.mem_cons_of_mem _ hy))
    have g2 := h2 (fun x hx y hy => hf x (List.mem_cons_of_mem _ hx) y hy)
    have g3 := h3 (fun x hx y hy => hf x hx y (List.mem_cons_of_mem _ hy))
    have l1 := lcs_map f (a :: ar) bs (fun x hx y hy => hf x hx y (List.mem_cons_of_mem _ hy))
    have l2 := lcs_map f ar (b :: bs) (fun x hx y hy => hf x (List.mem_cons_of_mem _ hx) y hy)
    simp only [List.map_cons] at g2 g3 l1 l2 ⊢
    by_cases h : a = b
    · rw [wk_eq h, wk_eq (by rw [h]), g1]
    · have h' : f a ≠ f b := fun e => h (hf a (List.mem_cons_self ..) b (List.mem_cons_self ..) e)
      by_cases hl : lcsN (a :: ar) bs ≤ lcsN ar (b :: bs)
      · rw [wk_ne1 h _ _ _ _ hl, wk_ne1 h' _ _ _ _ (by rw [l1, l2]; exact hl), g2]
      · rw [wk_ne2 h _ _ _ _ hl, wk_ne2 h' _ _ _ _ (by rw [l1, l2]; exact hl), g3]
/-- From a place of each on. -/
def wkAt {α : Type} [DecidableEq α] (a b : List α) (i j : Nat) : List (Nat × Nat) := wkL (a.drop i) (b.drop j) i j
theorem wkAt_eq {α : Type} [DecidableEq α] {a b : List α} {i j : Nat} {x y : α} (hx : a[i]? = some x) (hy : b[j]? = some y) (h : x = y) : wkAt a b i j = (i, j) :: wkAt a b (i + 1) (j + 1) := by
  obtain ⟨hi, rfl⟩ := List.getElem?_eq_some_iff.1 hx
  obtain ⟨hj, rfl⟩ := List.getElem?_eq_some_iff.1 hy
  unfold wkAt
  rw [List.drop_eq_getElem_cons hi, List.drop_eq_getElem_cons hj, wk_eq h]
theorem wkAt_ne1 {α : Type} [DecidableEq α] {a b : List α} {i j : Nat} {x y : α} (hx : a[i]? = some x) (hy : b[j]? = some y) (h : x ≠ y) (hl : lcsAt a b i (j + 1) ≤ lcsAt a b (i + 1) j) : wkAt a b i j = wkAt a b (i + 1) j := by
  obtain ⟨hi, rfl⟩ := List.getElem?_eq_some_iff.1 hx
  obtain ⟨hj, rfl⟩ := List.getElem?_eq_some_iff.1 hy
  unfold lcsAt at hl
  unfold wkAt
  rw [List.drop_eq_getElem_cons hi, List.drop_eq_getElem_cons hj] at *
  exact wk_ne1 h _ _ _ _ hl
theorem wkAt_ne2 {α : Type} [DecidableEq α] {a b : List α} {i j : Nat} {x y : α} (hx : a[i]? = some x) (hy : b[j]? = some y) (h : x ≠ y) (hl : ¬ lcsAt a b i (j + 1) ≤ lcsAt a b (i + 1) j) : wkAt a b i j = wkAt a b i (j + 1) := by
  obtain ⟨hi, rfl⟩ := List.getElem?_eq_some_iff.1 hx
  obtain ⟨hj, rfl⟩ := List.getElem?_eq_some_iff.1 hy
  unfold lcsAt at hl
  unfold wkAt
  rw [List.drop_eq_getElem_cons hi, List.drop_eq_getElem_cons hj] at *
  exact wk_ne2 h _ _ _ _ hl
theorem wkAt_end1 {α : Type} [DecidableEq α] {a b : List α} {i j : Nat} (h : a.length ≤ i) : wkAt a b i j = [] := by unfold wkAt; rw [List.drop_of_length_le h, wk_nil]
theorem wkAt_end2 {α : Type} [DecidableEq α] {a b : List α} {i j : Nat} (h : b.length ≤ j) : wkAt a b i j = [] := by unfold wkAt; rw [List.drop_of_length_le h, wk_nil2]
theorem wkAt_map {α β : Type} [DecidableEq α] [DecidableEq β] (f : α → β) (a b : List α) (hf : ∀ x ∈ a, ∀ y ∈ b, f x = f y → x = y) (i j : Nat) : wkAt (a.map f) (b.map f) i j = wkAt a b i j := by
  unfold wkAt
  rw [← List.map_drop, ← List.map_drop]
  exact wk_map f _ _ (fun x hx y hy => hf x (List.mem_of_mem_drop hx) y (List.mem_of_mem_drop hy)) i j
/-- The places rise, are places of the two, and have what is alike. -/
theorem wk_ok {α : Type} [DecidableEq α] (a b : List α) : ∀ i j, (∀ p ∈ wkL a b i j, i ≤ p.1 ∧ j ≤ p.2 ∧ ∃ x, a[p.1 - i]? = some x ∧ b[p.2 - j]? = some x) ∧ (wkL a b i j).Pairwise (fun p q => p.1 < q.1 ∧ p.2 < q.2) := by
  refine two_ind (P := fun a b => ∀ i j, (∀ p ∈ wkL a b i j, i ≤ p.1 ∧ j ≤ p.2 ∧ ∃ x, a[p.1 - i]? = some x ∧ b[p.2 - j]? = some x) ∧ (wkL a b i j).Pairwise (fun p q => p.1 < q.1 ∧ p.2 < q.2)) ?_ ?_ ?_ a b
  · intro b i j; rw [wk_nil]; exact ⟨fun p hp => by simp at hp, List.Pairwise.nil⟩
  · intro a i j; rw [wk_nil2]; exact ⟨fun p hp => by simp at hp, List.Pairwise.nil⟩
  · intro a ar b bs h1 h2 h3 i j
    by_cases h : a = b
    · rw [wk_eq h]
      obtain ⟨g1, g2⟩ := h1 (i + 1) (j + 1)
      refine ⟨?_, List.pairwise_cons.2 ⟨fun q hq => ?_, g2⟩⟩
      · intro p hp
        rcases List.mem_cons.1 hp with rfl | hp
        · exact ⟨Nat.le_refl _, Nat.le_refl _, a, by simp, by simp [h]⟩
        · obtain ⟨k1, k2, x, k3, k4⟩ := g1 p hp
          refine ⟨by omega, by omega, x, ?_, ?_⟩
          · rw [show p.1 - i = p.1 - (i + 1) + 1 from by omega, List.getElem?_cons_succ]; exact k3
          · rw [show p.2 - j = p.2 - (j + 1) + 1 from by omega, List.getElem?_cons_succ]; exact k4
      · obtain ⟨k1, k2, _⟩ := g1 q hq
        exact ⟨by show i < q.1; omega, by show j < q.2; omega⟩
    · by_cases hl : lcsN (a :: ar) bs ≤ lcsN ar (b :: bs)
      · rw [wk_ne1 h _ _ _ _ hl]
        obtain ⟨g1, g2⟩ := h2 (i + 1) j
        refine ⟨fun p hp => ?_, g2⟩
        obtain ⟨k1, k2, x, k3, k4⟩ := g1 p hp
        refine ⟨by omega, by omega, x, ?_, k4⟩
        rw [show p.1 - i = p.1 - (i + 1) + 1 from by omega, List.getElem?_cons_succ]; exact k3
      · rw [wk_ne2 h _ _ _ _ hl]
        obtain ⟨g1, g2⟩ := h3 i (j + 1)
        refine ⟨fun p hp => ?_, g2⟩
        obtain ⟨k1, k2, x, k3, k4⟩ := g1 p hp
        refine ⟨by omega, by omega, x, k3, ?_⟩
        rw [show p.2 - j = p.2 - (j + 1) + 1 from by omega, List.getElem?_cons_succ]; exact k4
theorem wk_self {α : Type} [DecidableEq α] (a : List α) : ∀ i, wkL a a i i = (List.range' i a.length).map (fun k => (k, k)) := by
  induction a with
  | nil => intro i; rw [wk_nil]; rfl
  | cons x l ih => intro i; rw [wk_eq rfl, ih (i + 1), List.length_cons, List.range'_succ, List.map_cons]
end Go.Proofs.Ytnimmpidplfnnaa
