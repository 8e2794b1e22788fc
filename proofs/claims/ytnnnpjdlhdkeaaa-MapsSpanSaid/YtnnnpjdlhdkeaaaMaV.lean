/-
  Layer 11, pure: maps one behind the other, the way back, turns, spans.
-/
import Derived.Test.YtnnnpjdlhdkeaaaMaU
namespace Go.Proofs.Ytnnnpjdlhdkeaaa

theorem length_thenM (xs ys : List Int) (nb : Int) : (thenM xs ys nb).length = xs.length := by unfold thenM; rw [List.length_map]
theorem thenM_at (xs ys : List Int) (nb : Int) (i : Nat) (h : i < xs.length) : (thenM xs ys nb).getD i 0 = imgM ys nb (xs.getD i 0) := by
  unfold thenM
  rw [List.getD_eq_getElem?_getD, List.getElem?_map, getD_some xs i h]; rfl
theorem then_rises {xs ys : List Int} {na nb : Int} (hx : Rises (-1) na xs) (hy : Rises (-1) nb ys) (hl : (ys.length : Int) = na) : Rises (-1) nb (thenM xs ys nb) := by
  have key : ∀ (i : Nat) (z : Int), (thenM xs ys nb)[i]? = some z → z ≠ -1 → ∃ (x : Nat), xs[i]? = some (x : Int) ∧ ys[x]? = some z := by
    intro i z hz hn
    unfold thenM at hz
    rw [List.getElem?_map] at hz
    cases hxi : xs[i]? with
    | none => rw [hxi] at hz; cases hz
    | some x =>
      rw [hxi] at hz
      have hz : imgM ys nb x = z := Option.some.inj hz
      have hx1 : x ≠ -1 := fun e => by rw [e, imgM_neg _ _ _ (by omega)] at hz; exact hn hz.symm
      have h1 := hx.1 i x hxi hx1
      obtain ⟨k, rfl⟩ : ∃ k : Nat, x = (k : Int) := ⟨x.toNat, by omega⟩
      rw [imgM_in _ _ _ (by omega)] at hz
      exact ⟨k, rfl, by rw [← hz]; exact getD_some ys k (by omega)⟩
  refine ⟨fun i z hz hn => ?_, fun i j z u hij hz hu hnz hnu => ?_⟩
  · obtain ⟨x, _, h2⟩ := key i z hz hn
    exact hy.1 x z h2 hn
  · obtain ⟨x, h1, h2⟩ := key i z hz hnz
    obtain ⟨y, h3, h4⟩ := key j u hu hnu
    have := hx.2 i j _ _ hij h1 h3 (by omega) (by omega)
    exact hy.2 x y z u (by omega) h2 h4 hnz hnu
theorem then_img (xs ys : List Int) (na nb : Int) (k : Nat) (hl : (ys.length : Int) = na) : imgM (thenM xs ys nb) nb (k : Int) = imgM ys nb (imgM xs na (k : Int)) := by
  by_cases h : k < xs.length
  · rw [imgM_in _ _ _ (by rw [length_thenM]; exact h), imgM_in _ _ _ h, thenM_at _ _ _ _ h]
  · rw [imgM_out _ _ _ (by omega) (by rw [length_thenM]; omega), imgM_out xs na _ (by omega) (by omega), imgM_out ys nb _ (by omega) (by omega), length_thenM]
    omega

/-! The way back. -/
theorem length_backF : ∀ (l tw : List Int) (i : Nat), (backF tw l i).length = tw.length
  | [], _, _ => rfl
  | x :: l, tw, i => by unfold backF; rw [length_backF l]; split <;> simp
theorem length_backM (xs : List Int) (n : Nat) : (backM xs n).length = n := by unfold backM; rw [length_backF, List.length_replicate]
theorem backF_none (y : Nat) : ∀ (l tw : List Int) (i : Nat), (∀ x ∈ l, x = -1 ∨ 0 ≤ x) → (∀ k : Nat, l[k]? ≠ some (y : Int)) → (backF tw l i)[y]? = tw[y]?
  | [], _, _, _, _ => rfl
  | x :: l, tw, i, hx, hn => by
    unfold backF
    rw [backF_none y l _ _ (fun z hz => hx z (by simp [hz])) (fun k => by have := hn (k + 1); simpa using this)]
    split
    · rfl
    · rename_i h1
      have h2 := hn 0
      have h3 := hx x (by simp)
      have h4 : x ≠ (y : Int) := fun e => h2 (by simp [e])
      rw [List.getElem?_set_ne (by omega)]
theorem backF_some (y : Nat) : ∀ (l tw : List Int) (i k : Nat), (∀ x ∈ l, x = -1 ∨ 0 ≤ x) → y < tw.length → l[k]? = some (y : Int) → (∀ k' : Nat, l[k']? = some (y : Int) → k' = k) → (backF tw l i)[y]? = some ((i + k : Nat) : Int)
  | [], _, _, _, _, _, h, _ => by simp at h
  | x :: l, tw, i, k, hx, hy, h, hu => by
    unfold backF
    cases k with
    | zero =>
      have h : x = (y : Int) := by simpa using h
      rw [backF_none y l _ _ (fun z hz => hx z (by simp [hz])) (fun k e => by have := hu (k + 1) (by simpa using e); omega)]
      rw [if_neg (by omega), h, Int.toNat_natCast, List.getElem?_set_self hy]; rfl
    | succ k =>
      have := backF_some y l (if x = -1 then tw else tw.set x.toNat (i : Int)) (i + 1) k (fun z hz => hx z (by simp [hz])) (by split <;> simp [hy]) (by simpa using h) (fun k' e => by have := hu (k' + 1) (by simpa using e); omega)
      rw [this]; congr 2; omega
/-- What stands in the way back. -/
theorem backM_is {xs : List Int} {n : Nat} (h : Rises (-1) n xs) (i y : Nat) : xs[i]? = some (y : Int) ↔ (backM xs n)[y]? = some (i : Int) := by
  have hlow : ∀ x ∈ xs, x = -1 ∨ 0 ≤ x := by
    intro x hx
    obtain ⟨k, hk⟩ := List.getElem?_of_mem hx
    by_cases h1 : x = -1
    · exact .inl h1
    · have := h.1 k x hk h1; exact .inr (by omega)
  have huniq : ∀ (k k' : Nat) (v : Nat), xs[k]? = some (v : Int) → xs[k']? = some (v : Int) → k' = k := by
    intro k k' v h1 h2
    rcases Nat.lt_trichotomy k k' with hk | hk | hk
    · have := h.2 k k' _ _ hk h1 h2 (by omega) (by omega); omega
    · exact hk.symm
    · have := h.2 k' k _ _ hk h2 h1 (by omega) (by omega); omega
  constructor
  · intro hi
    have hyn := (h.1 i _ hi (by omega)).2
    unfold backM
    rw [backF_some y xs _ 0 i hlow (by rw [List.length_replicate]; omega) hi (fun k' e => huniq i k' y hi e), Nat.zero_add]
  · intro hb
    by_cases hex : ∃ k : Nat, xs[k]? = some (y : Int)
    · obtain ⟨k, hk⟩ := hex
      have hyn := (h.1 k _ hk (by omega)).2
      unfold backM at hb
      rw [backF_some y xs _ 0 k hlow (by rw [List.length_replicate]; omega) hk (fun k' e => huniq k k' y hk e), Nat.zero_add] at hb
      have : (k : Int) = (i : Int) := Option.some.inj hb
      obtain rfl : k = i := by omega
      exact hk
    · unfold backM at hb
      rw [backF_none y xs _ 0 hlow (fun k e => hex ⟨k, e⟩), List.getElem?_replicate] at hb
      split at hb
      · have : (-1 : Int) = (i : Int) := Option.some.inj hb
        omega
      · cases hb
theorem backM_low {xs : List Int} {n : Nat} (h : Rises (-1) n xs) (y : Nat) (z : Int) (hz : (backM xs n)[y]? = some z) (hn : z ≠ -1) : ∃ i : Nat, z = (i : Int) := by
  have hlow : ∀ x ∈ xs, x = -1 ∨ 0 ≤ x := by
    intro x hx
    obtain ⟨k, hk⟩ := List.getElem?_of_mem hx
    by_cases h1 : x = -1
    · exact .inl h1
    · have := h.1 k x hk h1; exact .inr (by omega)
  by_cases hex : ∃ k : Nat, xs[k]? = some (y : Int)
  · obtain ⟨k, hk⟩ := hex
    have := (backM_is h k y).1 hk
    rw [hz] at this
    exact ⟨k, Option.some.inj this⟩
  · unfold backM at hz
    rw [backF_none y xs _ 0 hlow (fun k e => hex ⟨k, e⟩), List.getElem?_replicate] at hz
    split at hz
    · exact absurd (Option.some.inj hz).symm hn
    · cases hz
theorem back_rises {xs : List Int} {n : Nat} (h : Rises (-1) n xs) : Rises (-1) (xs.length : Int) (backM xs n) := by
  refine ⟨fun y z hz hn => ?_, fun y y' z z' hyy hz hz' hn hn' => ?_⟩
  · obtain ⟨i, rfl⟩ := backM_low h y z hz hn
    have h1 := (backM_is h i y).2 hz
    have := (List.getElem?_eq_some_iff.1 h1).1
    omega
  · obtain ⟨i, rfl⟩ := backM_low h y z hz hn
    obtain ⟨j, rfl⟩ := backM_low h y' z' hz' hn'
    have h1 := (backM_is h i y).2 hz
    have h2 := (backM_is h j y').2 hz'
    rcases Nat.lt_trichotomy i j with hij | hij | hij
    · omega
    · subst hij; rw [h1] at h2; have : (y : Int) = (y' : Int) := Option.some.inj h2; omega
    · have := h.2 j i _ _ hij h2 h1 (by omega) (by omega); omega
theorem back_back {xs : List Int} {n : Nat} (h : Rises (-1) n xs) : backM (backM xs n) xs.length = xs := by
  have hr := back_rises h
  apply List.ext_getElem?
  intro i
  by_cases hi : i < xs.length
  · by_cases hx : xs.getD i 0 = -1
    · rw [getD_some xs i hi, hx]
      rw [getD_some (backM (backM xs n) xs.length) i (by rw [length_backM]; exact hi)]
      congr 1
      by_cases hz : (backM (backM xs n) xs.length).getD i 0 = -1
      · exact hz
      · have hg := getD_some (backM (backM xs n) xs.length) i (by rw [length_backM]; exact hi)
        obtain ⟨y, hy⟩ := backM_low hr i _ hg hz
        rw [hy] at hg
        have h1 := (backM_is h i y).2 ((backM_is hr y i).2 hg)
        rw [getD_some xs i hi, hx] at h1
        have : (-1 : Int) = (y : Int) := Option.some.inj h1
        omega
    · have h1 := h.1 i _ (getD_some xs i hi) hx
      obtain ⟨y, hy⟩ : ∃ y : Nat, xs.getD i 0 = (y : Int) := ⟨(xs.getD i 0).toNat, by omega⟩
      have hg := getD_some xs i hi
      rw [hy] at hg
      rw [hg]
      exact (backM_is hr y i).1 ((backM_is h i y).1 hg)
  · rw [List.getElem?_eq_none (by rw [length_backM]; omega), List.getElem?_eq_none (by omega)]
theorem back_img {xs : List Int} {n : Nat} (h : Rises (-1) n xs) (i : Nat) (hi : i < xs.length) (h0 : 0 ≤ xs.getD i 0) : imgM (backM xs n) xs.length (imgM xs n (i : Int)) = (i : Int) := by
  rw [imgM_in _ _ _ hi]
  obtain ⟨y, hy⟩ : ∃ y : Nat, xs.getD i 0 = (y : Int) := ⟨(xs.getD i 0).toNat, by omega⟩
  have hg := getD_some xs i hi
  rw [hy] at hg ⊢
  have hb := (backM_is h i y).1 hg
  have hl := (List.getElem?_eq_some_iff.1 hb).1
  rw [imgM_in _ _ _ hl, List.getD_eq_getElem?_getD, hb]; rfl

/-! Put in, taken away. -/
theorem length_sameM (n : Nat) : (sameM n).length = n := by simp [sameM]
theorem length_insM (n : Nat) (a : Int) : (insM n a).length = n := by simp [insM]
theorem length_delM (n : Nat) (a : Int) : (delM n a).length = n := by simp [delM]
theorem sameM_at (n j : Nat) (h : j < n) : (sameM n).getD j 0 = (j : Int) := by
  unfold sameM; rw [List.getD_eq_getElem?_getD, List.getElem?_map, List.getElem?_range h]; rfl
theorem insM_at (n j : Nat) (a : Int) (h : j < n) : (insM n a).getD j 0 = if (j : Int) < a then (j : Int) else (j : Int) + 1 := by
  unfold insM; rw [List.getD_eq_getElem?_getD, List.getElem?_map, List.getElem?_range h]; rfl
theorem delM_at (n j : Nat) (a : Int) (h : j < n) : (delM n a).getD j 0 = if (j : Int) < a then (j : Int) else if (j : Int) = a then -1 else (j : Int) - 1 := by
  unfold delM; rw [List.getD_eq_getElem?_getD, List.getElem?_map, List.getElem?_range h]; rfl
theorem turn_in (k i : Nat) : thenM (insM k i) (delM (k + 1) i) k = sameM k := by
  apply List.ext_getElem?
  intro j
  by_cases hj : j < k
  · rw [getD_some (thenM (insM k i) (delM (k + 1) i) k) j (by rw [length_thenM, length_insM]; exact hj), getD_some (sameM k) j (by rw [length_sameM]; exact hj), thenM_at _ _ _ _ (by rw [length_insM]; exact hj), insM_at _ _ _ hj, sameM_at _ _ hj]
    congr 1
    by_cases h : j < i
    · rw [if_pos (by omega), imgM_in _ _ _ (by rw [length_delM]; omega), delM_at _ _ _ (by omega), if_pos (by omega)]
    · rw [if_neg (by omega)]
      have e : ((j : Int) + 1) = ((j + 1 : Nat) : Int) := by omega
      rw [e, imgM_in _ _ _ (by rw [length_delM]; omega), delM_at _ _ _ (by omega), if_neg (by omega), if_neg (by omega)]
      omega
  · rw [List.getElem?_eq_none (by rw [length_thenM, length_insM]; omega), List.getElem?_eq_none (by rw [length_sameM]; omega)]
theorem turn_out (k i j : Nat) (hi : i < k) (hj : j < k) : (thenM (delM k i) (insM (k - 1) i) k).getD j 0 = if j = i then -1 else (j : Int) := by
  rw [thenM_at _ _ _ _ (by rw [length_delM]; exact hj), delM_at _ _ _ hj]
  by_cases h : j < i
  · rw [if_pos (by omega), if_neg (by omega), imgM_in _ _ _ (by rw [length_insM]; omega), insM_at _ _ _ (by omega), if_pos (by omega)]
  · rw [if_neg (by omega)]
    by_cases h2 : j = i
    · rw [if_pos (by omega), if_pos h2, imgM_neg _ _ _ (by omega)]
    · rw [if_neg (by omega), if_neg h2]
      obtain ⟨m, rfl⟩ : ∃ m, j = m + 1 := ⟨j - 1, by omega⟩
      have e : ((m + 1 : Nat) : Int) - 1 = (m : Int) := by omega
      rw [e, imgM_in _ _ _ (by rw [length_insM]; omega), insM_at _ _ _ (by omega), if_neg (by omega)]
      omega

/-! Spans. -/
theorem firstK_low (xs : List Int) : ∀ (n lo : Nat), lo ≤ firstK xs n lo ∧ firstK xs n lo ≤ lo + n
  | 0, lo => ⟨Nat.le_refl _, Nat.le_refl _⟩
  | n + 1, lo => by
    unfold firstK
    split
    · have := firstK_low xs n (lo + 1); omega
    · omega
theorem firstK_snoc (xs : List Int) : ∀ (n lo : Nat), firstK xs (n + 1) lo = if firstK xs n lo < lo + n then firstK xs n lo else if goneM xs (lo + n) = true then lo + n + 1 else lo + n
  | 0, lo => by
    rw [if_neg (by show ¬ lo < lo + 0; omega)]
    show (if goneM xs lo = true then lo + 1 else lo) = _
    rfl
  | n + 1, lo => by
    have ih := firstK_snoc xs n (lo + 1)
    rw [show firstK xs (n + 1 + 1) lo = if goneM xs lo = true then firstK xs (n + 1) (lo + 1) else lo from rfl, show firstK xs (n + 1) lo = if goneM xs lo = true then firstK xs n (lo + 1) else lo from rfl]
    by_cases h : goneM xs lo = true
    · rw [if_pos h, if_pos h, ih]
      have e1 : lo + 1 + n = lo + (n + 1) := by omega
      rw [e1]
    · rw [if_neg h, if_neg h, if_pos (by omega)]
theorem lastK_low (xs : List Int) : ∀ (n hi : Nat), lastK xs n hi ≤ hi
  | 0, _ => Nat.le_refl _
  | n + 1, hi => by
    unfold lastK
    split
    · have := lastK_low xs n (hi - 1); omega
    · exact Nat.le_refl _
theorem img_gone {xs : List Int} {nw : Int} (h : Rises (-1) nw xs) (h0 : 0 ≤ nw) (i : Nat) : (imgM xs nw (i : Int) < 0) ↔ goneM xs i = true := by
  unfold goneM
  rw [decide_eq_true_eq]
  by_cases hi : i < xs.length
  · rw [imgM_in _ _ _ hi, getD_some xs i hi]
    constructor
    · intro hn
      rcases rises_at h i hi with h1 | h1
      · rw [h1]
      · omega
    · intro e; have := Option.some.inj e; omega
  · rw [imgM_out _ _ _ (by omega) (by omega), List.getElem?_eq_none (by omega)]
    constructor
    · intro hn; omega
    · intro e; cases e
/-- What the law's loop holds: the span so far. -/
def spanN (xs : List Int) (nw : Int) (lo n : Nat) : Int × Int × Bool :=
  if firstK xs n lo < lo + n then (imgM xs nw (firstK xs n lo), imgM xs nw (lastK xs (lo + n - 1 - firstK xs n lo) (lo + n - 1)), true) else (0, 0, false)
theorem spanN_zero (xs : List Int) (nw : Int) (lo : Nat) : spanN xs nw lo 0 = (0, 0, false) := by unfold spanN; rw [if_neg (by show ¬ lo < lo + 0; omega)]
theorem spanN_gone (xs : List Int) (nw : Int) (lo n : Nat) (h : goneM xs (lo + n) = true) : spanN xs nw lo (n + 1) = spanN xs nw lo n := by
  unfold spanN
  have hb := firstK_low xs n lo
  rw [firstK_snoc]
  by_cases hf : firstK xs n lo < lo + n
  · rw [if_pos hf, if_pos (by omega), if_pos hf]
    obtain ⟨d, hd⟩ : ∃ d, lo + (n + 1) - 1 - firstK xs n lo = d + 1 := ⟨lo + n - 1 - firstK xs n lo, by omega⟩
    have e : lastK xs (lo + (n + 1) - 1 - firstK xs n lo) (lo + (n + 1) - 1) = lastK xs (lo + n - 1 - firstK xs n lo) (lo + n - 1) := by
      rw [hd]
      show (if goneM xs (lo + (n + 1) - 1) = true then lastK xs d (lo + (n + 1) - 1 - 1) else _) = _
      rw [show lo + (n + 1) - 1 = lo + n from by omega, if_pos h, show d = lo + n - 1 - firstK xs n lo from by omega]
    rw [e]
  · rw [if_neg hf, if_pos h, if_neg (by omega), if_neg hf]
theorem spanN_kept (xs : List Int) (nw : Int) (lo n : Nat) (h : ¬ goneM xs (lo + n) = true) : spanN xs nw lo (n + 1) = (if (spanN xs nw lo n).2.2 = true then (spanN xs nw lo n).1 else imgM xs nw ((lo + n : Nat) : Int), imgM xs nw ((lo + n : Nat) : Int), true) := by
  unfold spanN
  have hb := firstK_low xs n lo
  rw [firstK_snoc]
  by_cases hf : firstK xs n lo < lo + n
  · rw [if_pos hf, if_pos (by omega), if_pos hf]
    obtain ⟨d, hd⟩ : ∃ d, lo + (n + 1) - 1 - firstK xs n lo = d + 1 := ⟨lo + n - 1 - firstK xs n lo, by omega⟩
    have e : lastK xs (lo + (n + 1) - 1 - firstK xs n lo) (lo + (n + 1) - 1) = lo + n := by
      rw [hd]
      show (if goneM xs (lo + (n + 1) - 1) = true then lastK xs d (lo + (n + 1) - 1 - 1) else _) = _
      rw [show lo + (n + 1) - 1 = lo + n from by omega, if_neg h]
    rw [e, if_pos rfl]
  · rw [if_neg hf, if_neg h, if_pos (by omega), if_neg hf, if_neg (by decide)]
    have e : lastK xs (lo + (n + 1) - 1 - (lo + n)) (lo + (n + 1) - 1) = lo + n := by
      rw [show lo + (n + 1) - 1 - (lo + n) = 0 from by omega]
      show lo + (n + 1) - 1 = _
      omega
    rw [e]
theorem spanM_nat (xs : List Int) (nw : Int) (lo n : Nat) : spanM xs nw lo ((lo : Int) + n - 1) = spanN xs nw lo n := by
  unfold spanM spanN
  cases n with
  | zero => rw [if_pos (.inr (by omega)), if_neg (by show ¬ lo < lo + 0; omega)]
  | succ n =>
    have hb := firstK_low xs (n + 1) lo
    rw [if_neg (by omega), show ((lo : Int) + ((n + 1 : Nat) : Int) - 1 + 1 - (lo : Int)).toNat = n + 1 from by omega, Int.toNat_natCast]
    by_cases hf : firstK xs (n + 1) lo < lo + (n + 1)
    · rw [if_neg (by omega), if_pos hf]
      congr 3
      rw [show ((lo : Int) + ((n + 1 : Nat) : Int) - 1).toNat = lo + (n + 1) - 1 from by omega]
    · rw [if_pos (by omega), if_neg hf]
end Go.Proofs.Ytnnnpjdlhdkeaaa
