/-
  Layer 3: names, columns, references as texts, without the program.
-/
import Derived.Test.YtolhmemiknpeaaaGreatDoorStr
import Derived.MapKept
namespace Go.Proofs.YtolhmemiknpeaaaGreatDoor
open Go.RowKit

def isCap (c : Int) : Bool := decide (65 ≤ c ∧ c ≤ 90)
def isLet (c : Int) : Bool := decide (65 ≤ c ∧ c ≤ 90 ∨ 97 ≤ c ∧ c ≤ 122)
def isNum (c : Int) : Bool := decide (48 ≤ c ∧ c ≤ 57)
theorem ret_bool {a b : Bool} (h : a = b) : Ending.returned (.bool a) = .returned (.bool b) := by rw [h]
theorem ret_ib {a b : Int} {p q : Bool} (h : a = b) (h2 : p = q) : Ending.returned (.tuple #[.int .i64 a, .bool p]) = .returned (.tuple #[.int .i64 b, .bool q]) := by rw [h, h2]
theorem isCap_t {c : Int} (h : 65 ≤ c) (h2 : c ≤ 90) : isCap c = true := by unfold isCap; rw [decide_eq_true_iff]; omega
theorem isCap_f {c : Int} (h : c < 65 ∨ 90 < c) : isCap c = false := by unfold isCap; rw [decide_eq_false_iff_not]; omega
/-- What may stand at a place of a name. -/
def inName (j : Nat) (c : Int) : Bool := isLet c || (decide (0 < j) && isNum c)
def nameL (l : List Int) : Bool := decide (∀ j, j < l.length → inName j (l.getD j 0) = true) && decide (1 ≤ l.length ∧ l.length ≤ 12)
/-- A column's letters. -/
def colL (n : Int) : List Int := if n < 0 ∨ 701 < n then [] else if n < 26 then [65 + n] else [64 + n / 26, 65 + n % 26]
def isCol (l : List Int) : Bool := decide (1 ≤ l.length ∧ l.length ≤ 2) && (isCap (l.getD 0 0) && isCap (l.getD (l.length - 1) 0))
def readColL (l : List Int) : Int := if isCol l = true then (if l.length = 1 then l.getD 0 0 - 65 else 26 * (l.getD 0 0 - 64) + (l.getD 1 0 - 65)) else 0
theorem nameL_bad (s : ByteArray) (k : Nat) (hk : k < s.size) (h : inName k ((sb s).getD k 0) = false) : nameL (sb s) = false := by
  unfold nameL
  rw [decide_eq_false (by intro hc; have := hc k (by rw [length_sb]; exact hk); rw [h] at this; cases this), Bool.false_and]
theorem nameL_all (s : ByteArray) (h : ∀ j, j < s.size → inName j ((sb s).getD j 0) = true) : nameL (sb s) = decide (1 ≤ s.size ∧ s.size ≤ 12) := by
  unfold nameL
  rw [decide_eq_true (by rw [length_sb]; exact h), Bool.true_and, length_sb]
/-- Texts side by side. -/
theorem str_append (a b : List Int) : strOfNums a ++ strOfNums b = strOfNums (a ++ b) := by
  have h : (strOfNums a ++ strOfNums b).data = (strOfNums (a ++ b)).data := by
    apply Array.toList_inj.1
    rw [ByteArray.data_append, Array.toList_append, strOfNums_data, strOfNums_data, strOfNums_data, List.map_append]
  cases hx : strOfNums a ++ strOfNums b with
  | mk d =>
    cases hy : strOfNums (a ++ b) with
    | mk e => rw [hx, hy] at h; simp only at h; rw [h]
theorem sb_append (a b : ByteArray) : sb (a ++ b) = sb a ++ sb b := by
  unfold sb; rw [ByteArray.data_append, Array.toList_append, List.map_append]
theorem ret_str {a b : ByteArray} (h : a = b) : Ending.returned (.string a) = .returned (.string b) := by rw [h]
theorem val_str {a b : ByteArray} (h : a = b) : Value.string a = .string b := by rw [h]
/-- Decimal digits. -/
def digL (u : Nat) : List Int := if u < 10 then [48 + (u : Int)] else digL (u / 10) ++ [48 + ((u % 10 : Nat) : Int)]
termination_by u
decreasing_by omega
theorem digL_small (u : Nat) (h : u < 10) : digL u = [48 + (u : Int)] := by rw [digL, if_pos h]
theorem digL_more (u : Nat) (h : ¬ u < 10) : digL u = digL (u / 10) ++ [48 + ((u % 10 : Nat) : Int)] := by rw [digL, if_neg h]
def decL (n : Int) : List Int := if n < 0 then 45 :: digL n.natAbs else digL n.natAbs
/-- May a reference be? -/
def mayL (sh : List Int) (c r : Int) : Bool := (decide (sh = []) || nameL sh) && decide (0 ≤ c ∧ c ≤ 701 ∧ 0 ≤ r ∧ r ≤ 998)
/-- A reference's text. -/
def textL (sh : List Int) (c r : Int) (ac ar : Bool) : List Int :=
  if mayL sh c r = true then (((if sh = [] then [] else sh ++ [33]) ++ (if ac = true then [36] else [])) ++ colL c ++ (if ar = true then [36] else [])) ++ digL (r + 1).toNat else []
theorem list_bytes (a : ByteArray) : a.toList = a.data.toList := ByteArray.toList_eq a
theorem text_ne (a b : ByteArray) (h : ¬ a = b) : ¬ a.toList = b.toList := by
  rw [list_bytes, list_bytes, Array.toList_inj]
  intro hd; apply h
  cases a; cases b; simp only at hd; rw [hd]
theorem text_ne0 (a : ByteArray) (h : ¬ a.size = 0) : ¬ a.toList = [] := by
  rw [list_bytes]
  intro hd; apply h
  show a.data.size = 0
  rw [← Array.length_toList, hd]; rfl
theorem sb_nil (s : ByteArray) (h : s.size = 0) : s = ⟨#[]⟩ := by
  cases s with
  | mk d => have : d = #[] := Array.eq_empty_of_size_eq_zero h
            rw [this]
theorem length_colL (n : Int) : (colL n).length ≤ 2 := by unfold colL; split <;> (try split) <;> simp
theorem length_digL (u : Nat) : (digL u).length ≤ u + 1 := by
  induction u using Nat.strongRecOn with
  | _ u ih =>
    by_cases h : u < 10
    · rw [digL_small u h]; simp
    · rw [digL_more u h, List.length_append]
      have := ih (u / 10) (by omega)
      simp only [List.length_cons, List.length_nil]; omega
theorem mayL_parts {sh : List Int} {c r : Int} (h : mayL sh c r = true) : 0 ≤ c ∧ c ≤ 701 ∧ 0 ≤ r ∧ r ≤ 998 := by
  unfold mayL at h; rw [Bool.and_eq_true, decide_eq_true_iff] at h; exact h.2
theorem cat_eq {a b : ByteArray} {x y : List Int} (h : a = strOfNums x) (k : b = strOfNums y) : a ++ b = strOfNums (x ++ y) := by rw [h, k, str_append]
theorem str_e : (⟨#[]⟩ : ByteArray) = strOfNums [] := rfl
theorem str_d : (⟨#[36]⟩ : ByteArray) = strOfNums [36] := rfl
theorem str_b : (⟨#[33]⟩ : ByteArray) = strOfNums [33] := rfl
theorem below3 {w w0 w1 w2 w3 : World} (h0 : Below w.heap.size w w0) (h1 : Below w0.heap.size w0 w1) (h2 : Below w1.heap.size w1 w2) (h3 : Below w2.heap.size w2 w3) : Below w.heap.size w w3 := by
  have b1 := h0.trans (h1.mono h0.size)
  have b2 := b1.trans (h2.mono b1.size)
  exact b2.trans (h3.mono b2.size)
theorem span_unique (p : Int → Bool) : ∀ (a a' b b' : List Int), (∀ x ∈ a, p x = true) → (∀ x ∈ a', p x = true) → (∀ x, b.head? = some x → p x = false) → (∀ x, b'.head? = some x → p x = false) → a ++ b = a' ++ b' → a = a' ∧ b = b'
  | [], [], _, _, _, _, _, _, h => ⟨rfl, h⟩
  | [], x :: a', b, b', _, h2, h3, _, h => by
    rw [List.nil_append] at h
    have := h3 x (by rw [h]; rfl)
    rw [h2 x (by simp)] at this; cases this
  | x :: a, [], b, b', h1, _, _, h4, h => by
    rw [List.nil_append] at h
    have := h4 x (by rw [← h]; rfl)
    rw [h1 x (by simp)] at this; cases this
  | x :: a, y :: a', b, b', h1, h2, h3, h4, h => by
    rw [List.cons_append, List.cons_append] at h
    injection h with e h
    obtain ⟨r1, r2⟩ := span_unique p a a' b b' (fun z hz => h1 z (by simp [hz])) (fun z hz => h2 z (by simp [hz])) h3 h4 h
    exact ⟨by rw [e, r1], r2⟩

theorem isCap_colL (c : Int) : ∀ x ∈ colL c, isCap x = true := by
  intro x hx
  unfold colL at hx
  split at hx
  · simp at hx
  · split at hx
    · simp at hx; subst hx; exact isCap_t (by omega) (by omega)
    · simp at hx
      rcases hx with rfl | rfl
      · exact isCap_t (by omega) (by omega)
      · exact isCap_t (by omega) (by omega)
theorem readCol_colL (c : Int) (h0 : 0 ≤ c) (h1 : c ≤ 701) : isCol (colL c) = true ∧ readColL (colL c) = c := by
  have hcap := isCap_colL c
  by_cases h : c < 26
  · have e : colL c = [65 + c] := by unfold colL; rw [if_neg (by omega), if_pos h]
    have hc : isCol (colL c) = true := by rw [e] at hcap ⊢; unfold isCol; have := hcap (65 + c) (by simp); simp [this]
    refine ⟨hc, ?_⟩
    unfold readColL; rw [if_pos hc, e]; simp; omega
  · have e : colL c = [64 + c / 26, 65 + c % 26] := by unfold colL; rw [if_neg (by omega), if_neg h]
    have hc : isCol (colL c) = true := by rw [e] at hcap ⊢; unfold isCol; have g1 := hcap (64 + c / 26) (by simp); have g2 := hcap (65 + c % 26) (by simp); simp [g1, g2]
    refine ⟨hc, ?_⟩
    unfold readColL; rw [if_pos hc, e]; simp; omega
theorem cap_bd {x : Int} (h : isCap x = true) : 65 ≤ x ∧ x ≤ 90 := by unfold isCap at h; rw [decide_eq_true_iff] at h; exact h
theorem num_bd {x : Int} (h : isNum x = true) : 48 ≤ x ∧ x ≤ 57 := by unfold isNum at h; rw [decide_eq_true_iff] at h; exact h
/-- What is a column's letters is those of the column that it tells. -/
theorem colL_readCol (l : List Int) (h : isCol l = true) : colL (readColL l) = l ∧ 0 ≤ readColL l ∧ readColL l ≤ 701 := by
  have hr : readColL l = (if l.length = 1 then l.getD 0 0 - 65 else 26 * (l.getD 0 0 - 64) + (l.getD 1 0 - 65)) := by unfold readColL; rw [if_pos h]
  unfold isCol at h
  rw [Bool.and_eq_true, Bool.and_eq_true, decide_eq_true_iff] at h
  obtain ⟨⟨h1, h2⟩, h3, h4⟩ := h
  match l, h1, h2, h3, h4, hr with
  | [a], _, _, h3, _, hr =>
    have := cap_bd h3
    simp at this hr
    rw [hr]
    refine ⟨?_, by omega, by omega⟩
    unfold colL; rw [if_neg (by omega), if_pos (by omega)]; congr 1; omega
  | [a, b], _, _, h3, h4, hr =>
    have g1 := cap_bd h3
    have g2 := cap_bd h4
    simp at g1 g2 hr
    rw [hr]
    refine ⟨?_, by omega, by omega⟩
    unfold colL; rw [if_neg (by omega), if_neg (by omega)]; congr 1
    · omega
    · congr 1; omega
theorem isNum_digL (u : Nat) : ∀ x ∈ digL u, isNum x = true := by
  induction u using Nat.strongRecOn with
  | _ u ih =>
    intro x hx
    by_cases h : u < 10
    · rw [digL_small u h] at hx; simp at hx; subst hx; unfold isNum; rw [decide_eq_true_iff]; omega
    · rw [digL_more u h, List.mem_append] at hx
      rcases hx with hx | hx
      · exact ih (u / 10) (by omega) x hx
      · simp at hx; subst hx; unfold isNum; rw [decide_eq_true_iff]; omega
/-- What digits say. -/
def valL (l : List Int) : Int := l.foldl (fun n d => 10 * n + (d - 48)) 0
theorem valL_snoc (l : List Int) (d : Int) : valL (l ++ [d]) = 10 * valL l + (d - 48) := by unfold valL; rw [List.foldl_append]; rfl
theorem valL_digL (u : Nat) : valL (digL u) = u := by
  induction u using Nat.strongRecOn with
  | _ u ih =>
    by_cases h : u < 10
    · rw [digL_small u h]; unfold valL; simp; omega
    · rw [digL_more u h, valL_snoc, ih (u / 10) (by omega)]; omega
theorem digL_ne (u : Nat) : digL u ≠ [] := by
  by_cases h : u < 10
  · rw [digL_small u h]; simp
  · rw [digL_more u h]; simp
theorem colL_ne (c : Int) (h0 : 0 ≤ c) (h1 : c ≤ 701) : colL c ≠ [] := by
  unfold colL; rw [if_neg (by omega)]; split <;> simp

/-- A sign, or none. -/
def dol (b : Bool) : List Int := if b = true then [36] else []
theorem dol_all (b : Bool) : ∀ x ∈ dol b, decide (x = 36) = true := by cases b <;> simp [dol]
theorem dol_inj {a b : Bool} (h : dol a = dol b) : a = b := by cases a <;> cases b <;> simp [dol] at h ⊢
/-- A text behind its sheet. -/
def tailL (c r : Int) (ac ar : Bool) : List Int := dol ac ++ (colL c ++ (dol ar ++ digL (r + 1).toNat))
theorem head_append {a b : List Int} (h : a ≠ []) {x : Int} (hx : (a ++ b).head? = some x) : x ∈ a := by
  cases a with
  | nil => exact absurd rfl h
  | cons y a => simp at hx; subst hx; simp
theorem tail_inj {c r c' r' : Int} {ac ar ac' ar' : Bool} (h0 : 0 ≤ c) (h1 : c ≤ 701) (h2 : 0 ≤ r) (k0 : 0 ≤ c') (k1 : c' ≤ 701) (k2 : 0 ≤ r') (h : tailL c r ac ar = tailL c' r' ac' ar') : c = c' ∧ r = r' ∧ ac = ac' ∧ ar = ar' := by
  unfold tailL at h
  have no36 : ∀ x, isCap x = true → decide (x = 36) = false := by intro x hx; have := cap_bd hx; rw [decide_eq_false_iff_not]; omega
  have no36n : ∀ x, isNum x = true → decide (x = 36) = false := by intro x hx; have := num_bd hx; rw [decide_eq_false_iff_not]; omega
  have noCap : ∀ (b : Bool) (u : Nat) (x : Int), (dol b ++ digL u).head? = some x → isCap x = false := by
    intro b u x hx
    cases b with
    | true => simp [dol] at hx; subst hx; decide
    | false =>
      have hx' : (digL u ++ []).head? = some x := by simpa [dol] using hx
      have := num_bd (isNum_digL u x (head_append (digL_ne u) hx'))
      exact isCap_f (by omega)
  obtain ⟨e1, e2⟩ := span_unique (fun x => decide (x = 36)) _ _ _ _ (dol_all ac) (dol_all ac')
    (fun x hx => no36 x (isCap_colL c x (head_append (colL_ne c h0 h1) hx))) (fun x hx => no36 x (isCap_colL c' x (head_append (colL_ne c' k0 k1) hx))) h
  obtain ⟨e3, e4⟩ := span_unique isCap _ _ _ _ (isCap_colL c) (isCap_colL c') (noCap ar _) (noCap ar' _) e2
  obtain ⟨e5, e6⟩ := span_unique (fun x => decide (x = 36)) _ _ _ _ (dol_all ar) (dol_all ar')
    (fun x hx => no36n x (isNum_digL _ x (head_append (digL_ne _) (by rw [List.append_nil]; exact hx)))) (fun x hx => no36n x (isNum_digL _ x (head_append (digL_ne _) (by rw [List.append_nil]; exact hx)))) e4
  refine ⟨?_, ?_, dol_inj e1, dol_inj e5⟩
  · rw [← (readCol_colL c h0 h1).2, ← (readCol_colL c' k0 k1).2, e3]
  · have := valL_digL (r + 1).toNat
    rw [e6, valL_digL] at this; omega
theorem tail_no33 (c r : Int) (ac ar : Bool) : ∀ x ∈ tailL c r ac ar, x ≠ 33 := by
  intro x hx
  unfold tailL at hx
  simp only [List.mem_append] at hx
  rcases hx with h | h | h | h
  · have := dol_all _ x h; rw [decide_eq_true_iff] at this; omega
  · have := cap_bd (isCap_colL c x h); omega
  · have := dol_all _ x h; rw [decide_eq_true_iff] at this; omega
  · have := num_bd (isNum_digL _ x h); omega
theorem name_no33 (l : List Int) (h : nameL l = true) : ∀ x ∈ l, x ≠ 33 := by
  intro x hx
  unfold nameL at h
  rw [Bool.and_eq_true, decide_eq_true_iff] at h
  obtain ⟨j, hj, rfl⟩ := List.mem_iff_getElem.1 hx
  have := h.1 j hj
  rw [List.getD_eq_getElem?_getD, List.getElem?_eq_getElem hj] at this
  simp only [Option.getD_some] at this
  unfold inName isLet isNum at this
  simp only [Bool.or_eq_true, Bool.and_eq_true, decide_eq_true_iff] at this
  omega
theorem mayL_sheet {sh : List Int} {c r : Int} (h : mayL sh c r = true) : sh = [] ∨ nameL sh = true := by
  unfold mayL at h; rw [Bool.and_eq_true, Bool.or_eq_true, decide_eq_true_iff] at h; exact h.1
theorem mayL_nums {sh : List Int} {c r : Int} (h : mayL sh c r = true) : 0 ≤ c ∧ c ≤ 701 ∧ 0 ≤ r ∧ r ≤ 998 := by
  unfold mayL at h; rw [Bool.and_eq_true, decide_eq_true_iff] at h; exact h.2
theorem textL_eq (sh : List Int) (c r : Int) (ac ar : Bool) (h : mayL sh c r = true) : textL sh c r ac ar = (if sh = [] then [] else sh ++ [33]) ++ tailL c r ac ar := by
  unfold textL tailL dol; rw [if_pos h]; simp only [List.append_assoc]
/-- Of two references that may be and differ, the texts do. -/
theorem textL_inj {sh sh' : List Int} {c r c' r' : Int} {ac ar ac' ar' : Bool} (h : mayL sh c r = true) (k : mayL sh' c' r' = true) (e : textL sh c r ac ar = textL sh' c' r' ac' ar') :
    sh = sh' ∧ c = c' ∧ r = r' ∧ ac = ac' ∧ ar = ar' := by
  obtain ⟨h0, h1, h2, _⟩ := mayL_nums h
  obtain ⟨k0, k1, k2, _⟩ := mayL_nums k
  rw [textL_eq _ _ _ _ _ h, textL_eq _ _ _ _ _ k] at e
  by_cases hs : sh = []
  · by_cases ks : sh' = []
    · rw [if_pos hs, if_pos ks] at e
      exact ⟨by rw [hs, ks], tail_inj h0 h1 h2 k0 k1 k2 e⟩
    · rw [if_pos hs, if_neg ks, List.nil_append] at e
      exact absurd rfl (tail_no33 c r ac ar 33 (by rw [e]; simp))
  · by_cases ks : sh' = []
    · rw [if_neg hs, if_pos ks, List.nil_append] at e
      exact absurd rfl (tail_no33 c' r' ac' ar' 33 (by rw [← e]; simp))
    · rw [if_neg hs, if_neg ks, List.append_assoc, List.append_assoc] at e
      have n1 := (mayL_sheet h).resolve_left hs
      have n2 := (mayL_sheet k).resolve_left ks
      obtain ⟨e1, e2⟩ := span_unique (fun x => decide (x ≠ 33)) _ _ _ _ (fun x hx => by rw [decide_eq_true_iff]; exact name_no33 _ n1 x hx) (fun x hx => by rw [decide_eq_true_iff]; exact name_no33 _ n2 x hx)
        (fun x hx => by simp at hx; subst hx; rfl) (fun x hx => by simp at hx; subst hx; rfl) e
      exact ⟨e1, tail_inj h0 h1 h2 k0 k1 k2 (by injection e2)⟩
end Go.Proofs.YtolhmemiknpeaaaGreatDoor
