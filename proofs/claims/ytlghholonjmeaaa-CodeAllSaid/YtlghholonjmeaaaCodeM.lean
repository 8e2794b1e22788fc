/-
  Numbers, texts and lists as bytes: plain lemmas on lists.
-/
import Derived.Test.YtlghholonjmeaaaStr
namespace Go.Proofs.Ytlghholonjmeaaa
open Go.RowKit

/-- A number's bytes (so many at most). -/
def putF : Nat → Nat → List Int
  | 0, _ => []
  | f + 1, n => if n < 128 then [(n : Int)] else ((n % 128 + 128 : Nat) : Int) :: putF f (n / 128)
def putL (n : Nat) : List Int := putF 9 n
def putTextL (s : List Int) : List Int := putL s.length ++ s
def putListL (l : List (List Int)) : List Int := putL l.length ++ l.flatMap putTextL
theorem putF_lt (f n : Nat) (h : n < 128) : putF (f + 1) n = [(n : Int)] := by rw [putF, if_pos h]
theorem putF_ge (f n : Nat) (h : ¬ n < 128) : putF (f + 1) n = ((n % 128 + 128 : Nat) : Int) :: putF f (n / 128) := by rw [putF, if_neg h]
theorem length_putF (f n : Nat) : (putF f n).length ≤ f := by
  induction f generalizing n with
  | zero => exact Nat.le_refl _
  | succ f ih =>
    rw [putF]; split
    · simp
    · have := ih (n / 128); simp only [List.length_cons]; omega
theorem length_putF_pos (f n : Nat) : 0 < (putF (f + 1) n).length := by rw [putF]; split <;> simp
theorem length_putL (n : Nat) : (putL n).length ≤ 9 := length_putF 9 n
theorem putF_bd (f n : Nat) : Bytes (putF f n) := by
  induction f generalizing n with
  | zero => intro a ha; simp [putF] at ha
  | succ f ih =>
    intro a ha
    rw [putF] at ha; split at ha
    · rw [List.mem_singleton] at ha; subst ha; omega
    · rw [List.mem_cons] at ha
      rcases ha with rfl | ha
      · omega
      · exact ih _ a ha
theorem Bytes.append {a b : List Int} (h : Bytes a) (k : Bytes b) : Bytes (a ++ b) := by
  intro x hx; rw [List.mem_append] at hx; rcases hx with hx | hx
  · exact h x hx
  · exact k x hx
theorem Bytes.nil : Bytes [] := by intro a ha; simp at ha
theorem Bytes.drop {l : List Int} (h : Bytes l) (k : Nat) : Bytes (l.drop k) := fun a ha => h a (List.mem_of_mem_drop ha)
theorem Bytes.take {l : List Int} (h : Bytes l) (k : Nat) : Bytes (l.take k) := fun a ha => h a (List.mem_of_mem_take ha)
theorem Bytes.get {l : List Int} (h : Bytes l) (k : Nat) : 0 ≤ l.getD k 0 ∧ l.getD k 0 ≤ 255 := by
  rw [List.getD_eq_getElem?_getD]
  cases hk : l[k]? with
  | none => simp
  | some a => exact h a (List.mem_of_getElem? hk)

/-- What bytes tell, and how many they are. -/
def getF : Nat → Bool → List Int → Option (Nat × Nat)
  | 0, _, _ => none
  | _ + 1, _, [] => none
  | f + 1, first, c :: l => if c < 128 then (if c = 0 ∧ first = false then none else some (c.toNat, 1)) else (getF f false l).map fun p => ((c - 128).toNat + 128 * p.1, p.2 + 1)
def getL (b : List Int) (k : Nat) : Option (Nat × Nat) := (getF 9 true (b.drop k)).map fun p => (p.1, k + p.2)
def getTextL (b : List Int) (k : Nat) : Option (List Int × Nat) := (getL b k).bind fun p => if b.length - p.2 < p.1 then none else some ((b.drop p.2).take p.1, p.2 + p.1)
def getTexts : Nat → List Int → Nat → Option (List (List Int) × Nat)
  | 0, _, p => some ([], p)
  | k + 1, b, p => (getTextL b p).bind fun x => (getTexts k b x.2).map fun y => (x.1 :: y.1, y.2)
def getListL (b : List Int) (k : Nat) : Option (List (List Int) × Nat) := (getL b k).bind fun p => getTexts p.1 b p.2

theorem getF_just (f : Nat) (first : Bool) (l : List Int) (hl : Bytes l) (n k : Nat) (h : getF f first l = some (n, k)) :
    putF f n = l.take k ∧ k ≤ l.length ∧ 1 ≤ k ∧ k ≤ f ∧ n < 2 ^ (7 * f) ∧ (first = false → 0 < n) := by
  induction f generalizing first l n k with
  | zero => simp [getF] at h
  | succ f ih =>
    cases l with
    | nil => simp [getF] at h
    | cons c l =>
      have hc := hl c (by simp)
      have hp : 2 ^ (7 * (f + 1)) = 128 * 2 ^ (7 * f) := by rw [show 7 * (f + 1) = 7 + 7 * f from by omega, Nat.pow_add]
      have hp1 : 0 < 2 ^ (7 * f) := Nat.pos_of_ne_zero (by simp)
      rw [getF] at h
      by_cases h1 : c < 128
      · rw [if_pos h1] at h
        by_cases h2 : c = 0 ∧ first = false
        · rw [if_pos h2] at h; cases h
        · rw [if_neg h2] at h
          cases h
          refine ⟨?_, by simp, by omega, by omega, by omega, fun hf => ?_⟩
          · rw [putF_lt _ _ (by omega)]; simp; omega
          · rcases Nat.eq_zero_or_pos c.toNat with h3 | h3
            · exact absurd ⟨by omega, hf⟩ h2
            · exact h3
      · rw [if_neg h1] at h
        cases hg : getF f false l with
        | none => rw [hg] at h; cases h
        | some p =>
          obtain ⟨m, j⟩ := p
          rw [hg] at h
          simp only [Option.map_some, Option.some.injEq, Prod.mk.injEq] at h
          obtain ⟨rfl, rfl⟩ := h
          obtain ⟨e1, e2, e3, e4, e5, e6⟩ := ih false l (fun a ha => hl a (by simp [ha])) m j hg
          have hm := e6 rfl
          refine ⟨?_, by simp; omega, by omega, by omega, by omega, fun _ => by omega⟩
          rw [putF_ge _ _ (by omega), show ((c - 128).toNat + 128 * m) / 128 = m from by omega, e1, show ((c - 128).toNat + 128 * m) % 128 + 128 = c.toNat from by omega]
          simp; omega
theorem getF_put (f : Nat) (first : Bool) (n : Nat) (t : List Int) (hn : n < 2 ^ (7 * f)) (h0 : first = false → 0 < n) (hf : 0 < f) : getF f first (putF f n ++ t) = some (n, (putF f n).length) := by
  induction f generalizing first n with
  | zero => omega
  | succ f ih =>
    have hp : 2 ^ (7 * (f + 1)) = 128 * 2 ^ (7 * f) := by rw [show 7 * (f + 1) = 7 + 7 * f from by omega, Nat.pow_add]
    by_cases h : n < 128
    · rw [putF_lt _ _ h]
      show getF (f + 1) first ((n : Int) :: t) = _
      rw [getF, if_pos (by omega), if_neg (by intro ⟨h1, h2⟩; have := h0 h2; omega)]
      simp
    · rw [putF_ge _ _ h]
      show getF (f + 1) first (((n % 128 + 128 : Nat) : Int) :: (putF f (n / 128) ++ t)) = _
      have hf1 : 0 < f := by
        rcases Nat.eq_zero_or_pos f with h1 | h1
        · subst h1; simp at hn; omega
        · exact h1
      rw [getF, if_neg (by omega), ih false (n / 128) (by omega) (fun _ => by omega) hf1]
      simp only [Option.map_some, List.length_cons, Option.some.injEq, Prod.mk.injEq, and_true]
      omega
theorem getF_more (f : Nat) (first : Bool) (l t : List Int) (r : Nat × Nat) (h : getF f first l = some r) : getF f first (l ++ t) = some r := by
  induction f generalizing first l r with
  | zero => simp [getF] at h
  | succ f ih =>
    cases l with
    | nil => simp [getF] at h
    | cons c l =>
      rw [List.cons_append]
      rw [getF] at h ⊢
      by_cases h1 : c < 128
      · rw [if_pos h1] at h ⊢; exact h
      · rw [if_neg h1] at h ⊢
        cases hg : getF f false l with
        | none => rw [hg] at h; cases h
        | some p => rw [ih false l p hg]; rw [hg] at h; exact h

theorem getL_some (b : List Int) (hb : Bytes b) (k n p : Nat) (h : getL b k = some (n, p)) : putL n = (b.drop k).take (p - k) ∧ k < p ∧ p ≤ b.length ∧ p ≤ k + 9 ∧ n < 9223372036854775808 := by
  unfold getL at h
  cases hg : getF 9 true (b.drop k) with
  | none => rw [hg] at h; cases h
  | some r =>
    obtain ⟨m, j⟩ := r
    rw [hg] at h
    simp only [Option.map_some, Option.some.injEq, Prod.mk.injEq] at h
    obtain ⟨rfl, rfl⟩ := h
    obtain ⟨e1, e2, e3, e4, e5, _⟩ := getF_just 9 true _ (hb.drop k) m j hg
    rw [List.length_drop] at e2
    exact ⟨by rw [Nat.add_sub_cancel_left]; exact e1, by omega, by omega, by omega, by omega⟩
theorem getL_put (a t : List Int) (n : Nat) (hn : n < 9223372036854775808) : getL (a ++ (putL n ++ t)) a.length = some (n, a.length + (putL n).length) := by
  unfold getL
  rw [List.drop_left, putL, getF_put 9 true n t (by omega) (by simp) (by omega)]; rfl
theorem getL_more (b t : List Int) (hb : Bytes b) (k : Nat) (r : Nat × Nat) (h : getL b k = some r) : getL (b ++ t) k = some r := by
  have hk := getL_some b hb k r.1 r.2 h
  unfold getL at h ⊢
  cases hg : getF 9 true (b.drop k) with
  | none => rw [hg] at h; cases h
  | some p =>
    rw [hg] at h
    rw [List.drop_append_of_le_length (by omega), getF_more 9 true _ t p hg]; exact h
theorem getTextL_some (b : List Int) (hb : Bytes b) (k p : Nat) (s : List Int) (h : getTextL b k = some (s, p)) : putTextL s = (b.drop k).take (p - k) ∧ k < p ∧ p ≤ b.length := by
  unfold getTextL at h
  cases hg : getL b k with
  | none => rw [hg] at h; cases h
  | some r =>
    obtain ⟨n, q⟩ := r
    rw [hg] at h
    obtain ⟨e1, e2, e3, e4, e5⟩ := getL_some b hb k n q hg
    simp only [Option.bind_some] at h
    by_cases hn : b.length - q < n
    · rw [if_pos hn] at h; cases h
    · rw [if_neg hn] at h
      simp only [Option.some.injEq, Prod.mk.injEq] at h
      obtain ⟨rfl, rfl⟩ := h
      refine ⟨?_, by omega, by omega⟩
      unfold putTextL
      rw [List.length_take, List.length_drop, Nat.min_eq_left (by omega), e1, show q + n - k = (q - k) + n from by omega, List.take_add, List.drop_drop, show k + (q - k) = q from by omega]
theorem getTextL_put (a t s : List Int) (hn : s.length < 9223372036854775808) : getTextL (a ++ (putTextL s ++ t)) a.length = some (s, a.length + (putTextL s).length) := by
  unfold getTextL putTextL
  rw [List.append_assoc, getL_put a (s ++ t) s.length hn]
  simp only [Option.bind_some]
  have e : a ++ (putL s.length ++ (s ++ t)) = (a ++ putL s.length) ++ (s ++ t) := by simp
  rw [if_neg (by simp only [List.length_append]; omega), e]
  rw [show a.length + (putL s.length).length = (a ++ putL s.length).length from by rw [List.length_append], List.drop_left, List.take_left]
  simp [Nat.add_assoc]
theorem getTextL_more (b t : List Int) (hb : Bytes b) (k : Nat) (r : List Int × Nat) (h : getTextL b k = some r) : getTextL (b ++ t) k = some r := by
  unfold getTextL at h ⊢
  cases hg : getL b k with
  | none => rw [hg] at h; cases h
  | some p =>
    obtain ⟨n, q⟩ := p
    obtain ⟨e1, e2, e3, e4, e5⟩ := getL_some b hb k n q hg
    rw [hg] at h
    rw [getL_more b t hb k _ hg]
    simp only [Option.bind_some] at h ⊢
    by_cases hn : b.length - q < n
    · rw [if_pos hn] at h; cases h
    · rw [if_neg hn] at h
      rw [if_neg (by simp only [List.length_append]; omega), ← h, List.drop_append_of_le_length (by omega), List.take_append_of_le_length (by rw [List.length_drop]; omega)]
theorem getTexts_some (j : Nat) (b : List Int) (hb : Bytes b) (k p : Nat) (l : List (List Int)) (h : getTexts j b k = some (l, p)) :
    l.flatMap putTextL = (b.drop k).take (p - k) ∧ l.length = j ∧ k + j ≤ p ∧ (p ≤ b.length ∨ j = 0 ∧ p = k) := by
  induction j generalizing k l with
  | zero =>
    simp only [getTexts, Option.some.injEq, Prod.mk.injEq] at h
    obtain ⟨rfl, rfl⟩ := h
    simp
  | succ j ih =>
    rw [getTexts] at h
    cases hg : getTextL b k with
    | none => rw [hg] at h; cases h
    | some x =>
      obtain ⟨s, q⟩ := x
      rw [hg] at h
      simp only [Option.bind_some] at h
      obtain ⟨e1, e2, e3⟩ := getTextL_some b hb k q s hg
      cases hr : getTexts j b q with
      | none => rw [hr] at h; cases h
      | some y =>
        obtain ⟨m, r⟩ := y
        rw [hr] at h
        simp only [Option.map_some, Option.some.injEq, Prod.mk.injEq] at h
        obtain ⟨rfl, rfl⟩ := h
        obtain ⟨f1, f2, f3, f4⟩ := ih q m hr
        refine ⟨?_, by simp [f2], by omega, by omega⟩
        rw [List.flatMap_cons, e1, f1, show r - k = (q - k) + (r - q) from by omega, List.take_add, List.drop_drop, show k + (q - k) = q from by omega]
theorem getTexts_put (l : List (List Int)) (a t : List Int) (hn : ∀ s ∈ l, s.length < 9223372036854775808) : getTexts l.length (a ++ (l.flatMap putTextL ++ t)) a.length = some (l, a.length + (l.flatMap putTextL).length) := by
  induction l generalizing a with
  | nil => simp [getTexts]
  | cons s l ih =>
    rw [List.length_cons, getTexts, List.flatMap_cons, List.append_assoc, getTextL_put a _ s (hn s (by simp))]
    simp only [Option.bind_some]
    have e : a ++ (putTextL s ++ (l.flatMap putTextL ++ t)) = (a ++ putTextL s) ++ (l.flatMap putTextL ++ t) := by simp
    rw [e, show a.length + (putTextL s).length = (a ++ putTextL s).length from by rw [List.length_append], ih (a ++ putTextL s) (fun s hs => hn s (by simp [hs]))]
    simp [Nat.add_assoc]
theorem getTexts_more (j : Nat) (b t : List Int) (hb : Bytes b) (k : Nat) (r : List (List Int) × Nat) (h : getTexts j b k = some r) : getTexts j (b ++ t) k = some r := by
  induction j generalizing k r with
  | zero => exact h
  | succ j ih =>
    rw [getTexts] at h ⊢
    cases hg : getTextL b k with
    | none => rw [hg] at h; cases h
    | some x =>
      rw [hg] at h
      rw [getTextL_more b t hb k _ hg]
      simp only [Option.bind_some] at h ⊢
      cases hr : getTexts j b x.2 with
      | none => rw [hr] at h; cases h
      | some y => rw [ih _ _ hr]; rw [hr] at h; exact h
/-- More texts than bytes there are not. -/
theorem getTexts_many (j : Nat) (b : List Int) (hb : Bytes b) (k : Nat) (hj : b.length - k < j) : getTexts j b k = none := by
  cases h : getTexts j b k with
  | none => rfl
  | some r =>
    have := getTexts_some j b hb k r.2 r.1 h
    omega
theorem getListL_some (b : List Int) (hb : Bytes b) (k p : Nat) (l : List (List Int)) (h : getListL b k = some (l, p)) : putListL l = (b.drop k).take (p - k) ∧ k < p ∧ p ≤ b.length ∧ l.length ≤ b.length := by
  unfold getListL at h
  cases hg : getL b k with
  | none => rw [hg] at h; cases h
  | some r =>
    obtain ⟨n, q⟩ := r
    rw [hg] at h
    obtain ⟨e1, e2, e3, e4, e5⟩ := getL_some b hb k n q hg
    obtain ⟨f1, f2, f3, f4⟩ := getTexts_some n b hb q p l h
    refine ⟨?_, by omega, by omega, by omega⟩
    unfold putListL
    rw [f2, e1, f1, show p - k = (q - k) + (p - q) from by omega, List.take_add, List.drop_drop, show k + (q - k) = q from by omega]
theorem getListL_put (a t : List Int) (l : List (List Int)) (hl : l.length < 9223372036854775808) (hn : ∀ s ∈ l, s.length < 9223372036854775808) : getListL (a ++ (putListL l ++ t)) a.length = some (l, a.length + (putListL l).length) := by
  unfold getListL putListL
  rw [List.append_assoc, getL_put a _ l.length hl]
  simp only [Option.bind_some]
  have e : a ++ (putL l.length ++ (l.flatMap putTextL ++ t)) = (a ++ putL l.length) ++ (l.flatMap putTextL ++ t) := by simp
  rw [e, show a.length + (putL l.length).length = (a ++ putL l.length).length from by rw [List.length_append], getTexts_put l _ t hn]
  simp [Nat.add_assoc]
theorem getListL_more (b t : List Int) (hb : Bytes b) (k : Nat) (r : List (List Int) × Nat) (h : getListL b k = some r) : getListL (b ++ t) k = some r := by
  unfold getListL at h ⊢
  cases hg : getL b k with
  | none => rw [hg] at h; cases h
  | some x =>
    rw [hg] at h
    rw [getL_more b t hb k _ hg]
    simp only [Option.bind_some] at h ⊢
    exact getTexts_more _ b t hb _ _ h
/-- Cut by a byte there is none. -/
theorem getL_cut (n : Nat) (hn : n < 9223372036854775808) (c : List Int) (hc : c = (putL n).take ((putL n).length - 1)) : getL c 0 = none := by
  cases h : getL c 0 with
  | none => rfl
  | some r =>
    have hb : Bytes c := by rw [hc]; exact (putF_bd 9 n).take _
    have h1 := getL_some c hb 0 r.1 r.2 h
    have h2 := getL_more c ((putL n).drop ((putL n).length - 1)) hb 0 r h
    rw [hc, List.take_append_drop] at h2
    have h3 := getL_put [] [] n hn
    simp only [List.nil_append, List.append_nil, List.length_nil, Nat.zero_add] at h3
    rw [h3] at h2
    cases h2
    have hpos : 0 < (putL n).length := length_putF_pos 8 n
    have := h1.2.2.1
    rw [hc, List.length_take] at this
    simp only at this
    omega
theorem putTextL_bd (s : List Int) (h : Bytes s) : Bytes (putTextL s) := (putF_bd 9 _).append h
theorem putListL_bd (l : List (List Int)) (h : ∀ s ∈ l, Bytes s) : Bytes (putListL l) := by
  refine (putF_bd 9 _).append ?_
  intro a ha
  rw [List.mem_flatMap] at ha
  obtain ⟨s, hs, ha⟩ := ha
  exact putTextL_bd s (h s hs) a ha
theorem getListL_cut (l : List (List Int)) (hl : l.length < 9223372036854775808) (hn : ∀ s ∈ l, s.length < 9223372036854775808) (hb : ∀ s ∈ l, Bytes s) (c : List Int) (hc : c = (putListL l).take ((putListL l).length - 1)) : getListL c 0 = none := by
  cases h : getListL c 0 with
  | none => rfl
  | some r =>
    have hbc : Bytes c := by rw [hc]; exact (putListL_bd l hb).take _
    have h1 := getListL_some c hbc 0 r.2 r.1 h
    have h2 := getListL_more c ((putListL l).drop ((putListL l).length - 1)) hbc 0 r h
    rw [hc, List.take_append_drop] at h2
    have h3 := getListL_put [] [] l hl hn
    simp only [List.nil_append, List.append_nil, List.length_nil, Nat.zero_add] at h3
    rw [h3] at h2
    cases h2
    have hpos : 0 < (putListL l).length := by unfold putListL putL; have h0 : 0 < (putF 9 l.length).length := length_putF_pos 8 l.length; rw [List.length_append]; omega
    have := h1.2.2.1
    rw [hc, List.length_take] at this
    simp only at this
    omega

/-- What the loop of a reader has still to tell, behind i bytes that told n. -/
def contF (b : List Int) (i n p : Nat) : Option (Nat × Nat) := (getF (9 - i) (decide (i = 0)) (b.drop p)).map fun x => (n + x.1 * 2 ^ (7 * i), p + x.2)
theorem contF_start (b : List Int) (k : Nat) : contF b 0 0 k = getL b k := by
  unfold contF getL
  cases h : getF 9 true (b.drop k) with
  | none => simp [h]
  | some x => simp [h]
theorem contF_end (b : List Int) (i n p : Nat) (h : 9 ≤ i ∨ b.length ≤ p) : contF b i n p = none := by
  unfold contF
  rcases h with h | h
  · rw [show 9 - i = 0 from by omega]; rfl
  · rw [List.drop_eq_nil_of_le h]
    cases hi : 9 - i with
    | zero => rfl
    | succ j => rfl
theorem drop_cons (b : List Int) (p : Nat) (hp : p < b.length) : b.drop p = b.getD p 0 :: b.drop (p + 1) := by
  rw [List.drop_eq_getElem_cons hp]
  congr 1
  rw [List.getD_eq_getElem?_getD, List.getElem?_eq_getElem hp]; rfl
theorem contF_more (b : List Int) (i n p : Nat) (hi : i < 9) (hp : p < b.length) (c : Nat) (hc : b.getD p 0 = (c : Int)) (h : 128 ≤ c) : contF b i n p = contF b (i + 1) (n + (c - 128) * 2 ^ (7 * i)) (p + 1) := by
  unfold contF
  rw [drop_cons b p hp, hc, show 9 - i = (9 - (i + 1)) + 1 from by omega, getF, if_neg (by omega), show decide (i + 1 = 0) = false from by simp]
  cases hg : getF (9 - (i + 1)) false (b.drop (p + 1)) with
  | none => rfl
  | some x =>
    simp only [Option.map_some, Option.some.injEq, Prod.mk.injEq]
    refine ⟨?_, by omega⟩
    rw [show ((c : Int) - 128).toNat = c - 128 from by omega, show 7 * (i + 1) = 7 * i + 7 from by omega, Nat.pow_add, Nat.add_mul, Nat.add_assoc]
    congr 2
    rw [Nat.mul_comm 128 x.1, Nat.mul_assoc, Nat.mul_comm 128 (2 ^ (7 * i))]
theorem contF_bad (b : List Int) (i n p : Nat) (hi : i < 9) (h0 : 0 < i) (hp : p < b.length) (hc : b.getD p 0 = 0) : contF b i n p = none := by
  unfold contF
  rw [drop_cons b p hp, hc, show 9 - i = (9 - (i + 1)) + 1 from by omega, getF, if_pos (by omega), if_pos ⟨rfl, by simp; omega⟩]; rfl
theorem contF_last (b : List Int) (i n p : Nat) (hi : i < 9) (hp : p < b.length) (c : Nat) (hc : b.getD p 0 = (c : Int)) (h : c < 128) (hz : ¬ (c = 0 ∧ 0 < i)) : contF b i n p = some (n + c * 2 ^ (7 * i), p + 1) := by
  unfold contF
  rw [drop_cons b p hp, hc, show 9 - i = (9 - (i + 1)) + 1 from by omega, getF, if_pos (by omega), if_neg (by intro ⟨h1, h2⟩; apply hz; simp at h2; omega)]
  simp
end Go.Proofs.Ytlghholonjmeaaa
