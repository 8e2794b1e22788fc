/-
  Layer 11, pure: maps of places.
-/
import Derived.Test.YtnnnpjdlhdkeaaaBase
namespace Go.Proofs.Ytnnnpjdlhdkeaaa

/-- Those that are not gone rise, and end below. -/
def riseM : Int → Int → List Int → Bool
  | _, _, [] => true
  | last, nw, x :: l => if x = -1 then riseM last nw l else decide (last < x) && (decide (x < nw) && riseM x nw l)
def mayM (xs : List Int) (nw : Int) : Bool := decide (0 ≤ nw) && (decide (nw ≤ 1048576) && (decide (xs.length ≤ 1048576) && riseM (-1) nw xs))
def imgM (xs : List Int) (nw i : Int) : Int := if i < 0 then -1 else if i < (xs.length : Int) then xs.getD i.toNat 0 else i - xs.length + nw
def sameM (n : Nat) : List Int := (List.range n).map fun (i : Nat) => (i : Int)
def insM (n : Nat) (at_ : Int) : List Int := (List.range n).map fun (i : Nat) => if (i : Int) < at_ then (i : Int) else (i : Int) + 1
def delM (n : Nat) (at_ : Int) : List Int := (List.range n).map fun (i : Nat) => if (i : Int) < at_ then (i : Int) else if (i : Int) = at_ then -1 else (i : Int) - 1
def thenM (xs ys : List Int) (nb : Int) : List Int := xs.map (imgM ys nb)
def backF : List Int → List Int → Nat → List Int
  | tw, [], _ => tw
  | tw, x :: l, i => backF (if x = -1 then tw else tw.set x.toNat (i : Int)) l (i + 1)
def backM (xs : List Int) (n : Nat) : List Int := backF (List.replicate n (-1)) xs 0
/-- What stands there is -1. -/
def goneM (xs : List Int) (i : Nat) : Bool := decide (xs[i]? = some (-1))
def firstK (xs : List Int) : Nat → Nat → Nat
  | 0, lo => lo
  | n + 1, lo => if goneM xs lo = true then firstK xs n (lo + 1) else lo
def lastK (xs : List Int) : Nat → Nat → Nat
  | 0, hi => hi
  | n + 1, hi => if goneM xs hi = true then lastK xs n (hi - 1) else hi
/-- Where a span went. -/
def spanM (xs : List Int) (nw lo hi : Int) : Int × Int × Bool :=
  if lo < 0 ∨ hi < lo then (0, 0, false)
  else if hi < (firstK xs (hi + 1 - lo).toNat lo.toNat : Int) then (0, 0, false)
  else (imgM xs nw (firstK xs (hi + 1 - lo).toNat lo.toNat), imgM xs nw (lastK xs (hi.toNat - firstK xs (hi + 1 - lo).toNat lo.toNat) hi.toNat), true)
theorem imgM_neg (xs : List Int) (nw i : Int) (h : i < 0) : imgM xs nw i = -1 := by unfold imgM; rw [if_pos h]
theorem imgM_in (xs : List Int) (nw : Int) (i : Nat) (h : i < xs.length) : imgM xs nw (i : Int) = xs.getD i 0 := by
  unfold imgM; rw [if_neg (by omega), if_pos (by omega)]; rfl
theorem imgM_out (xs : List Int) (nw i : Int) (h0 : 0 ≤ i) (h : (xs.length : Int) ≤ i) : imgM xs nw i = i - xs.length + nw := by
  unfold imgM; rw [if_neg (by omega), if_neg (by omega)]

/-- What riseM tells, place by place. -/
def Rises (last nw : Int) (xs : List Int) : Prop :=
  (∀ (i : Nat) (x : Int), xs[i]? = some x → x ≠ -1 → last < x ∧ x < nw) ∧ (∀ (i j : Nat) (x y : Int), i < j → xs[i]? = some x → xs[j]? = some y → x ≠ -1 → y ≠ -1 → x < y)
theorem rises_of : ∀ (xs : List Int) (last nw : Int), riseM last nw xs = true → Rises last nw xs
  | [], _, _, _ => ⟨fun i x h => by simp at h, fun i j x y _ h => by simp at h⟩
  | a :: l, last, nw, h => by
    unfold riseM at h
    split at h
    · rename_i ha
      obtain ⟨h1, h2⟩ := rises_of l last nw h
      refine ⟨fun i x hx hn => ?_, fun i j x y hij hx hy hnx hny => ?_⟩
      · cases i with
        | zero => simp at hx; exact absurd (hx.symm.trans ha) hn
        | succ i => exact h1 i x (by simpa using hx) hn
      · cases i with
        | zero => simp at hx; exact absurd (hx.symm.trans ha) hnx
        | succ i =>
          cases j with
          | zero => omega
          | succ j => exact h2 i j x y (by omega) (by simpa using hx) (by simpa using hy) hnx hny
    · rename_i ha
      simp only [Bool.and_eq_true, decide_eq_true_eq] at h
      obtain ⟨h0, h0', h⟩ := h
      obtain ⟨h1, h2⟩ := rises_of l a nw h
      refine ⟨fun i x hx hn => ?_, fun i j x y hij hx hy hnx hny => ?_⟩
      · cases i with
        | zero => simp at hx; subst hx; exact ⟨h0, h0'⟩
        | succ i => have := h1 i x (by simpa using hx) hn; omega
      · cases j with
        | zero => omega
        | succ j =>
          cases i with
          | zero => simp at hx; subst hx; exact (h1 j y (by simpa using hy) hny).1
          | succ i => exact h2 i j x y (by omega) (by simpa using hx) (by simpa using hy) hnx hny
theorem of_rises : ∀ (xs : List Int) (last nw : Int), Rises last nw xs → riseM last nw xs = true
  | [], _, _, _ => rfl
  | a :: l, last, nw, ⟨h1, h2⟩ => by
    unfold riseM
    split
    · exact of_rises l last nw ⟨fun i x hx hn => h1 (i + 1) x (by simpa using hx) hn, fun i j x y hij hx hy => h2 (i + 1) (j + 1) x y (by omega) (by simpa using hx) (by simpa using hy)⟩
    · rename_i ha
      have ha1 := h1 0 a (by simp) ha
      simp only [Bool.and_eq_true, decide_eq_true_eq]
      refine ⟨ha1.1, ha1.2, of_rises l a nw ⟨fun i x hx hn => ⟨h2 0 (i + 1) a x (by omega) (by simp) (by simpa using hx) ha hn, (h1 (i + 1) x (by simpa using hx) hn).2⟩, fun i j x y hij hx hy => h2 (i + 1) (j + 1) x y (by omega) (by simpa using hx) (by simpa using hy)⟩⟩
theorem rises_append (xs : List Int) (last nw nw' x : Int) (h : Rises last nw xs) (h1 : x = -1 ∨ (nw ≤ x ∧ last < x ∧ x < nw')) (h2 : nw ≤ nw') : Rises last nw' (xs ++ [x]) := by
  obtain ⟨h3, h4⟩ := h
  have key : ∀ (i : Nat) (y : Int), (xs ++ [x])[i]? = some y → xs[i]? = some y ∨ (i = xs.length ∧ y = x) := by
    intro i y hy
    rcases Nat.lt_trichotomy i xs.length with hi | hi | hi
    · rw [List.getElem?_append_left hi] at hy; exact .inl hy
    · subst hi; rw [List.getElem?_append_right (Nat.le_refl _), Nat.sub_self] at hy; simp at hy; exact .inr ⟨rfl, hy.symm⟩
    · rw [List.getElem?_append_right (by omega)] at hy
      rw [List.getElem?_eq_none (by simp; omega)] at hy; cases hy
  refine ⟨fun i y hy hn => ?_, fun i j y z hij hy hz hny hnz => ?_⟩
  · rcases key i y hy with h | ⟨_, rfl⟩
    · have := h3 i y h hn; omega
    · omega
  · rcases key i y hy with h | ⟨hi, rfl⟩
    · rcases key j z hz with h' | ⟨_, rfl⟩
      · exact h4 i j y z hij h h' hny hnz
      · have := (h3 i y h hny).2; omega
    · rcases key j z hz with h' | ⟨hj, _⟩
      · have := (List.getElem?_eq_some_iff.1 h').1; omega
      · omega
theorem rises_take (xs : List Int) (last nw : Int) (k : Nat) (h : Rises last nw xs) : Rises last nw (xs.take k) := by
  have key : ∀ (i : Nat) (y : Int), (xs.take k)[i]? = some y → xs[i]? = some y := by
    intro i y hy
    rw [List.getElem?_take] at hy
    split at hy
    · exact hy
    · cases hy
  exact ⟨fun i x hx => h.1 i x (key i x hx), fun i j x y hij hx hy => h.2 i j x y hij (key i x hx) (key j y hy)⟩
theorem mayM_of {xs : List Int} {nw : Int} (h0 : 0 ≤ nw) (h1 : nw ≤ 1048576) (h2 : xs.length ≤ 1048576) (h3 : Rises (-1) nw xs) : mayM xs nw = true := by
  unfold mayM; rw [decide_eq_true h0, decide_eq_true h1, decide_eq_true h2, of_rises _ _ _ h3]; rfl
theorem mayM_out {xs : List Int} {nw : Int} (h : mayM xs nw = true) : 0 ≤ nw ∧ nw ≤ 1048576 ∧ xs.length ≤ 1048576 ∧ Rises (-1) nw xs := by
  unfold mayM at h
  simp only [Bool.and_eq_true, decide_eq_true_eq] at h
  exact ⟨h.1, h.2.1, h.2.2.1, rises_of _ _ _ h.2.2.2⟩
theorem getD_some (xs : List Int) (i : Nat) (h : i < xs.length) : xs[i]? = some (xs.getD i 0) := by
  rw [List.getD_eq_getElem?_getD, List.getElem?_eq_getElem h]; rfl
theorem rises_at {last nw : Int} {xs : List Int} (h : Rises last nw xs) (i : Nat) (hi : i < xs.length) : xs.getD i 0 = -1 ∨ (last < xs.getD i 0 ∧ xs.getD i 0 < nw) := by
  by_cases hx : xs.getD i 0 = -1
  · exact .inl hx
  · exact .inr (h.1 i _ (getD_some xs i hi) hx)

/-! Maps by numbers. -/
def makeS (p : List Int × Int) (n : Int) : List Int × Int :=
  if n % 4 = 0 then (p.1 ++ [-1], p.2) else if n % 4 = 1 then (p.1, p.2 + 1 + n / 4 % 3) else (p.1 ++ [p.2], p.2 + 1)
def makeM (ns : List Int) : List Int × Int := ns.foldl makeS ([], 0)
theorem makeM_take (ns : List Int) (i : Nat) (x : Int) (h : ns[i]? = some x) : makeM (ns.take (i + 1)) = makeS (makeM (ns.take i)) x := by
  unfold makeM
  rw [List.take_add_one, h, Option.toList_some, List.foldl_append]; rfl
/-- What Make's maps are. -/
structure MadeOk (p : List Int × Int) (n : Nat) : Prop where
  low : 0 ≤ p.2
  high : p.2 ≤ 3 * n
  len : p.1.length ≤ n
  rise : Rises (-1) p.2 p.1
theorem makeS_ok {p : List Int × Int} {n : Nat} (h : MadeOk p n) (x : Int) : MadeOk (makeS p x) (n + 1) := by
  obtain ⟨h1, h2, h3, h4⟩ := h
  unfold makeS
  split
  · exact ⟨h1, by show p.2 ≤ _; omega, by rw [List.length_append, List.length_singleton]; omega, rises_append _ _ _ _ _ h4 (.inl rfl) (Int.le_refl _)⟩
  · split
    · refine ⟨by show 0 ≤ p.2 + 1 + x / 4 % 3; omega, by show p.2 + 1 + x / 4 % 3 ≤ _; omega, by show p.1.length ≤ _; omega, ?_⟩
      exact ⟨fun i y hy hn => by have := h4.1 i y hy hn; show -1 < y ∧ y < p.2 + 1 + x / 4 % 3; omega, h4.2⟩
    · exact ⟨by show 0 ≤ p.2 + 1; omega, by show p.2 + 1 ≤ _; omega, by rw [List.length_append, List.length_singleton]; omega, rises_append _ _ _ _ _ h4 (.inr ⟨Int.le_refl _, by omega, by omega⟩) (by omega)⟩
theorem makeM_ok (ns : List Int) : MadeOk (makeM ns) ns.length := by
  have key : ∀ i, i ≤ ns.length → MadeOk (makeM (ns.take i)) i := by
    intro i
    induction i with
    | zero => intro _; exact ⟨Int.le_refl _, by show (0 : Int) ≤ _; omega, Nat.zero_le _, fun i x h => by simp [makeM] at h, fun i j x y _ h => by simp [makeM] at h⟩
    | succ i ih =>
      intro hi
      rw [makeM_take ns i _ (List.getElem?_eq_getElem (by omega))]
      exact makeS_ok (ih (by omega)) _
  have := key ns.length (Nat.le_refl _)
  rwa [List.take_length] at this
end Go.Proofs.Ytnnnpjdlhdkeaaa
