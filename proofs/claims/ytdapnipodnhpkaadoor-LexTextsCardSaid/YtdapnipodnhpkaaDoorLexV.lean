/-
  Layer 4, without the program: numbers, references, quoted texts as the one token of a text.
-/
import Derived.Test.YtdapnipodnhpkaaDoorLexU
namespace Go.Proofs.YtdapnipodnhpkaaDoor
open Go.RowKit

/-- A text that is one token. -/
theorem lex_one (x : Int) (l : List Int) (t : Tk) (hx : x ≠ 32) (h : tokT (x :: l) = some (t, (x :: l).length)) : lexL (x :: l) = some [t.goto 0, Tk.zero.goto ((x :: l).length : Nat)] := by
  unfold lexL
  rw [List.length_cons, lexF_cons, if_neg hx, h]
  simp only
  rw [List.drop_length]
  have : lexF l.length (0 + (x :: l).length) [] = some [Tk.zero.goto ((0 + (x :: l).length : Nat) : Int)] := by unfold lexF; rfl
  rw [this, Nat.zero_add]; rfl
theorem lex_no (x : Int) (l : List Int) (hx : x ≠ 32) (h : tokT (x :: l) = none) : lexL (x :: l) = none := by
  unfold lexL
  rw [List.length_cons, lexF_cons, if_neg hx, h]
theorem digL_head : ∀ (n u : Nat), u < n → 1 ≤ u → (digL u).head? ≠ some 48 := by
  intro n
  induction n with
  | zero => intro u h; omega
  | succ n ih =>
    intro u hu h1
    by_cases h : u < 10
    · rw [digL_small u h]; simp; omega
    · rw [digL_more u h]
      have := ih (u / 10) (by omega) (by omega)
      cases hd : digL (u / 10) with
      | nil => exact absurd hd (digL_ne _)
      | cons y l => rw [hd] at this; simpa using this
theorem take_nums (l : List Int) (h : ∀ x ∈ l, isNum x = true) : l.takeWhile isNum = l := by
  have := take_part isNum l [] h (fun x hx => by simp at hx)
  rw [List.append_nil] at this; exact this
theorem num_no32 {x : Int} (h : isNum x = true) : x ≠ 32 := by have := num_bd h; omega
/-- A number told by its digits. -/
theorem lex_num (k : Nat) (hk : k ≤ 9223372036854775807) : lexL (digL k) = some [({ Tk.zero with kind := 1, num := k } : Tk).goto 0, Tk.zero.goto ((digL k).length : Nat)] := by
  cases hd : digL k with
  | nil => exact absurd hd (digL_ne k)
  | cons x l =>
    have hall := isNum_digL k
    rw [hd] at hall
    have hx := hall x (by simp)
    refine lex_one x l _ (num_no32 hx) ?_
    rw [tokT_cons, if_pos hx]
    unfold numT
    rw [take_nums _ hall]
    have hv : valL (x :: l) = k := by rw [← hd]; exact valL_digL k
    rw [hv]
    have hno : ¬ ((1 < (x :: l).length ∧ (x :: l).head? = some 48) ∨ 9223372036854775807 < (k : Int)) := by
      rintro (⟨h1, h2⟩ | h)
      · by_cases h10 : k < 10
        · rw [digL_small k h10] at hd
          injection hd with _ hl; rw [← hl] at h1; simp at h1
        · have := digL_head (k + 1) k (by omega) (by omega)
          rw [hd] at this; exact this h2
      · omega
    rw [if_neg hno]
/-- With a nought ahead it is none. -/
theorem lex_nought (k : Nat) : lexL (48 :: digL k) = none := by
  refine lex_no 48 _ (by omega) ?_
  rw [tokT_cons, if_pos (by decide)]
  unfold numT
  rw [take_nums _ (by
    intro x hx
    rcases List.mem_cons.1 hx with rfl | hx
    · decide
    · exact isNum_digL k x hx)]
  have h0 := List.length_pos_iff.2 (digL_ne k)
  have h1 : 1 < (48 :: digL k).length := by rw [List.length_cons]; omega
  rw [if_pos (Or.inl ⟨h1, rfl⟩)]
/-- The least number that is too great. -/
theorem lex_great : lexL [57, 50, 50, 51, 51, 55, 50, 48, 51, 54, 56, 53, 52, 55, 55, 53, 56, 48, 56] = none := by
  refine lex_no 57 _ (by omega) ?_
  decide +kernel

/-! References. -/
theorem word_cap {x : Int} (h : isCap x = true) : isWord x = true := isWord_let (.inl (by unfold isCap at h; unfold isLet; rw [decide_eq_true_iff] at h ⊢; omega))
theorem word_num {x : Int} (h : isNum x = true) : isWord x = true := by unfold isWord; rw [h]; simp
theorem word_tail (c r : Int) (ac ar : Bool) : ∀ x ∈ tailL c r ac ar, isWord x = true := by
  intro x hx
  unfold tailL at hx
  simp only [List.mem_append] at hx
  rcases hx with h | h | h | h
  · have := dol_all _ x h; rw [decide_eq_true_iff] at this; subst this; decide
  · exact word_cap (isCap_colL c x h)
  · have := dol_all _ x h; rw [decide_eq_true_iff] at this; subst this; decide
  · exact word_num (isNum_digL _ x h)
theorem word_name (l : List Int) (h : nameL l = true) : ∀ x ∈ l, isWord x = true := by
  intro x hx
  unfold nameL at h
  rw [Bool.and_eq_true, decide_eq_true_iff] at h
  obtain ⟨j, hj, rfl⟩ := List.mem_iff_getElem.1 hx
  have := h.1 j hj
  rw [List.getD_eq_getElem?_getD, List.getElem?_eq_getElem hj] at this
  simp only [Option.getD_some] at this
  unfold inName at this
  unfold isWord
  rw [Bool.or_eq_true, Bool.and_eq_true] at this
  rcases this with h1 | ⟨_, h1⟩
  · rw [h1]; rfl
  · rw [h1]; simp
theorem word_textL (sh : List Int) (c r : Int) (ac ar : Bool) (h : mayL sh c r = true) : ∀ x ∈ textL sh c r ac ar, isWord x = true := by
  intro x hx
  rw [textL_eq _ _ _ _ _ h, List.mem_append] at hx
  rcases hx with hx | hx
  · by_cases h0 : sh = []
    · rw [if_pos h0] at hx; simp at hx
    · rw [if_neg h0, List.mem_append] at hx
      rcases hx with hx | hx
      · exact word_name sh ((mayL_sheet h).resolve_left h0) x hx
      · simp at hx; subst hx; decide
  · exact word_tail c r ac ar x hx
/-- How a reference's text begins. -/
theorem textL_head (sh : List Int) (c r : Int) (ac ar : Bool) (h : mayL sh c r = true) : ∃ x l, textL sh c r ac ar = x :: l ∧ (isLet x = true ∨ x = 36) := by
  rw [textL_eq _ _ _ _ _ h]
  obtain ⟨c0, c1, _, _⟩ := mayL_nums h
  by_cases h0 : sh = []
  · rw [if_pos h0, List.nil_append]
    unfold tailL
    cases ac with
    | true => exact ⟨36, _, rfl, .inr rfl⟩
    | false =>
      have hcol := isCap_colL c
      cases hc : colL c with
      | nil => exact absurd hc (colL_ne c c0 c1)
      | cons y m =>
        refine ⟨y, _, rfl, .inl ?_⟩
        have := hcol y (by rw [hc]; simp)
        unfold isCap at this; unfold isLet; rw [decide_eq_true_iff] at this ⊢; omega
  · rw [if_neg h0]
    have hn := (mayL_sheet h).resolve_left h0
    cases sh with
    | nil => exact absurd rfl h0
    | cons y m =>
      refine ⟨y, _, rfl, .inl ?_⟩
      unfold nameL at hn
      rw [Bool.and_eq_true, decide_eq_true_iff] at hn
      have := hn.1 0 (by simp)
      unfold inName at this
      simpa using this
/-- What is a reference's text reads as just that one. -/
theorem read_text (s : ByteArray) (c r : Int) (ac ar : Bool) (h : mayL (sb s) c r = true) : ∃ d, readS (strOfNums (textL (sb s) c r ac ar)) = some d ∧ d.sh = s ∧ d.c = c ∧ d.r = r ∧ d.ac = ac ∧ d.ar = ar := by
  have hb := sb_str _ (bytes_textL s c r ac ar)
  cases hq : readS (strOfNums (textL (sb s) c r ac ar)) with
  | none => exact absurd hb.symm (read_none _ hq _ _ _ _ _ h)
  | some d =>
    obtain ⟨_, h2, h3⟩ := read_some _ d hq
    rw [hb] at h3
    obtain ⟨e1, e2, e3, e4, e5⟩ := textL_inj h2 h h3
    exact ⟨d, rfl, sb_inj e1, e2, e3, e4, e5⟩
theorem lex_ref (s : ByteArray) (c r : Int) (ac ar : Bool) (h : mayL (sb s) c r = true) : lexL (textL (sb s) c r ac ar) = some [({ Tk.zero with kind := 4, sh := s, c := c, r := r, ac := ac, ar := ar } : Tk).goto 0, Tk.zero.goto ((textL (sb s) c r ac ar).length : Nat)] := by
  obtain ⟨x, l, hd, hx⟩ := textL_head (sb s) c r ac ar h
  have hall := word_textL (sb s) c r ac ar h
  obtain ⟨d, hr, e1, e2, e3, e4, e5⟩ := read_text s c r ac ar h
  rw [hd] at hall hr ⊢
  have hw := isWord_let hx
  have h1 : ¬ isNum x = true := by
    rcases hx with hx | hx
    · unfold isLet at hx; unfold isNum; rw [decide_eq_true_iff] at hx ⊢; omega
    · subst hx; decide
  have h2 : ¬ x = 34 ∧ ¬ x = 35 ∧ ¬ x = 32 := by
    rcases hx with hx | hx
    · unfold isLet at hx; rw [decide_eq_true_iff] at hx; omega
    · omega
  refine lex_one x l _ h2.2.2 ?_
  rw [tokT_cons, if_neg h1, if_neg h2.1, if_neg h2.2.1, if_pos hx]
  unfold wordT
  have ht : (x :: l).takeWhile isWord = x :: l := by
    have := take_part isWord (x :: l) [] hall (fun x hx => by simp at hx)
    rw [List.append_nil] at this; exact this
  rw [ht, hr]
  simp only [e1, e2, e3, e4, e5]

/-! Texts between signs. -/
def dblL : List Int → List Int
  | [] => []
  | x :: l => (if x = 34 then [34, 34] else [x]) ++ dblL l
theorem quoF_dbl : ∀ l : List Int, (∀ x ∈ l, ¬ x < 32) → quoF (dblL l ++ [34]) = some (l, (dblL l).length + 1)
  | [], _ => by
    show quoF [34] = _
    rw [quoF_cons]; rfl
  | x :: l, h => by
    have ih := quoF_dbl l (fun y hy => h y (by simp [hy]))
    have hx := h x (by simp)
    by_cases h34 : x = 34
    · subst h34
      show quoF (34 :: 34 :: (dblL l ++ [34])) = _
      rw [quoF_cons, if_neg (by omega), if_neg (by omega)]
      simp only [if_true]
      rw [ih]
      rfl
    · have e : dblL (x :: l) = x :: dblL l := by show (if x = 34 then [34, 34] else [x]) ++ dblL l = _; rw [if_neg h34]; rfl
      rw [e, List.cons_append, quoF_cons, if_neg hx, if_pos h34, ih]
      rfl
theorem quoF_low : ∀ (l m : List Int), (∃ x ∈ l, x < 32) → quoF (dblL l ++ m) = none
  | [], _, h => by obtain ⟨x, hx, _⟩ := h; simp at hx
  | x :: l, m, h => by
    by_cases h34 : x = 34
    · subst h34
      have ih := quoF_low l m (by
        obtain ⟨y, hy, hl⟩ := h
        rcases List.mem_cons.1 hy with rfl | hy
        · omega
        · exact ⟨y, hy, hl⟩)
      show quoF (34 :: 34 :: (dblL l ++ m)) = _
      rw [quoF_cons, if_neg (by omega), if_neg (by omega)]
      simp only [if_true]
      rw [ih]; rfl
    · have e : dblL (x :: l) = x :: dblL l := by show (if x = 34 then [34, 34] else [x]) ++ dblL l = _; rw [if_neg h34]; rfl
      rw [e, List.cons_append, quoF_cons]
      by_cases hx : x < 32
      · rw [if_pos hx]
      · rw [if_neg hx, if_pos h34, quoF_low l m (by
          obtain ⟨y, hy, hl⟩ := h
          rcases List.mem_cons.1 hy with rfl | hy
          · exact absurd hl hx
          · exact ⟨y, hy, hl⟩)]
        rfl
theorem lex_quote (l : List Int) (h : ∀ x ∈ l, ¬ x < 32) : lexL (34 :: (dblL l ++ [34])) = some [({ Tk.zero with kind := 2, text := strOfNums l } : Tk).goto 0, Tk.zero.goto ((34 :: (dblL l ++ [34])).length : Nat)] := by
  refine lex_one 34 _ _ (by omega) ?_
  rw [tokT_cons, if_neg (by decide), if_pos rfl]
  unfold quoT
  rw [quoF_dbl l h]
  simp
theorem lex_low (l : List Int) (h : ∃ x ∈ l, x < 32) : lexL (34 :: (dblL l ++ [34])) = none := by
  refine lex_no 34 _ (by omega) ?_
  rw [tokT_cons, if_neg (by decide), if_pos rfl]
  unfold quoT
  rw [quoF_low l [34] h]; rfl
end Go.Proofs.YtdapnipodnhpkaaDoor
