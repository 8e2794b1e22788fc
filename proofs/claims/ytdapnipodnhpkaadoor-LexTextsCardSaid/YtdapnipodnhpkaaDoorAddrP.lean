/-
  Layer 3: the parts of a reference's text, taken one behind the other, without the program.
-/
import Derived.Test.YtdapnipodnhpkaaDoorAddrU
namespace Go.Proofs.YtdapnipodnhpkaaDoor
open Go.RowKit

/-- What a reader of references holds. -/
structure Rd where
  s : ByteArray
  k : Nat
  sh : ByteArray
  c : Int
  r : Int
  ac : Bool
  ar : Bool
def Rd.rest (d : Rd) : List Int := (sb d.s).drop d.k
def Rd.cells (d : Rd) : Array Value := #[.string d.s, .int .i64 (d.k : Int), .string d.sh, .int .i64 d.c, .int .i64 d.r, .bool d.ac, .bool d.ar]
def Rd.start (s : ByteArray) : Rd := ⟨s, 0, ⟨#[]⟩, 0, 0, false, false⟩
def ne33 (x : Int) : Bool := decide (x ≠ 33)
def isRow (l : List Int) : Bool := decide (l ≠ [] ∧ l.head? ≠ some 48 ∧ valL l ≤ 999)
def Rd.sheetP (d : Rd) : List Int := (sb d.s).takeWhile ne33
def Rd.sheet (d : Rd) : Option Rd := if d.sheetP.length = d.s.size then some d else if nameL d.sheetP = true then some { d with sh := strOfNums d.sheetP, k := d.sheetP.length + 1 } else none
def Rd.mark (d : Rd) : Bool := decide (d.rest.head? = some 36)
def Rd.absCol (d : Rd) : Option Rd := some { d with ac := d.mark, k := d.k + (dol d.mark).length }
def Rd.absRow (d : Rd) : Option Rd := some { d with ar := d.mark, k := d.k + (dol d.mark).length }
def Rd.col (d : Rd) : Option Rd := if isCol (d.rest.takeWhile isCap) = true then some { d with c := readColL (d.rest.takeWhile isCap), k := d.k + (d.rest.takeWhile isCap).length } else none
def Rd.row (d : Rd) : Option Rd := if isRow (d.rest.takeWhile isNum) = true then some { d with r := valL (d.rest.takeWhile isNum) - 1, k := d.k + (d.rest.takeWhile isNum).length } else none
def Rd.fin (d : Rd) : Option Rd := if d.k = d.s.size then some d else none

theorem take_part (p : Int → Bool) : ∀ (a b : List Int), (∀ x ∈ a, p x = true) → (∀ x, b.head? = some x → p x = false) → (a ++ b).takeWhile p = a
  | [], [], _, _ => rfl
  | [], y :: b, _, h2 => by rw [List.nil_append, List.takeWhile_cons, h2 y rfl]; rfl
  | x :: a, b, h, h2 => by
    rw [List.cons_append, List.takeWhile_cons, h x (by simp), if_pos rfl, take_part p a b (fun z hz => h z (by simp [hz])) h2]
theorem take_more (p : Int → Bool) : ∀ (a b : List Int), (∀ x ∈ a, p x = true) → (a ++ b).takeWhile p = a ++ b.takeWhile p
  | [], b, _ => rfl
  | x :: a, b, h => by
    rw [List.cons_append, List.takeWhile_cons, h x (by simp), if_pos rfl, take_more p a b (fun z hz => h z (by simp [hz])), List.cons_append]
theorem take_all (p : Int → Bool) : ∀ (l : List Int), ∀ x ∈ l.takeWhile p, p x = true
  | [], x, hx => by simp at hx
  | y :: l, x, hx => by
    rw [List.takeWhile_cons] at hx
    by_cases h : p y = true
    · rw [if_pos h] at hx
      rcases List.mem_cons.1 hx with rfl | hx
      · exact h
      · exact take_all p l x hx
    · rw [if_neg h] at hx; simp at hx
theorem take_split (p : Int → Bool) : ∀ (l : List Int), l.takeWhile p ++ l.drop (l.takeWhile p).length = l
  | [] => rfl
  | y :: l => by
    rw [List.takeWhile_cons]
    by_cases h : p y = true
    · rw [if_pos h, List.length_cons, List.drop_succ_cons, List.cons_append, take_split p l]
    · rw [if_neg h]; rfl
theorem take_head (p : Int → Bool) : ∀ (l : List Int) (x : Int), (l.drop (l.takeWhile p).length).head? = some x → p x = false
  | [], x, h => by simp at h
  | y :: l, x, h => by
    rw [List.takeWhile_cons] at h
    by_cases hy : p y = true
    · rw [if_pos hy, List.length_cons, List.drop_succ_cons] at h; exact take_head p l x h
    · rw [if_neg hy] at h; simp at h; subst h; simpa using hy

/-- Digits without noughts ahead are those of what they say. -/
theorem digL_valL : ∀ (n : Nat) (l : List Int), l.length = n → l ≠ [] → (∀ x ∈ l, isNum x = true) → l.head? ≠ some 48 → 1 ≤ valL l ∧ digL (valL l).toNat = l := by
  intro n
  induction n with
  | zero => intro l h h2; exact absurd (List.eq_nil_of_length_eq_zero h) h2
  | succ n ih =>
    intro l hl hne hall hh
    obtain ⟨a, x, rfl⟩ : ∃ a x, l = a ++ [x] := by
      rcases List.eq_nil_or_concat l with h | ⟨a, x, h⟩
      · exact absurd h hne
      · exact ⟨a, x, by rw [h, List.concat_eq_append]⟩
    have hx := num_bd (hall x (by simp))
    rw [valL_snoc]
    by_cases ha : a = []
    · subst ha
      have h48 : x ≠ 48 := by intro h; subst h; exact hh rfl
      have hv : valL [] = 0 := rfl
      rw [hv, digL_small _ (by omega)]
      refine ⟨by omega, ?_⟩
      rw [List.nil_append]; congr 1; omega
    · have hlen : a.length = n := by rw [List.length_append, List.length_singleton] at hl; omega
      have h0 : a.head? ≠ some 48 := by
        cases a with
        | nil => exact absurd rfl ha
        | cons y a => simpa using hh
      obtain ⟨h1, h2⟩ := ih a hlen ha (fun z hz => hall z (by simp [hz])) h0
      refine ⟨by omega, ?_⟩
      rw [digL_more _ (by omega), show (10 * valL a + (x - 48)).toNat / 10 = (valL a).toNat from by omega, h2]
      congr 2; omega
theorem valL_ge : ∀ (b a : List Int), (∀ x ∈ b, isNum x = true) → 0 ≤ valL a → valL a ≤ valL (a ++ b)
  | [], a, _, _ => by rw [List.append_nil]; exact Int.le_refl _
  | x :: b, a, h, h0 => by
    have hx := num_bd (h x (by simp))
    have h1 := valL_snoc a x
    have h2 := valL_ge b (a ++ [x]) (fun z hz => h z (by simp [hz])) (by omega)
    rw [List.append_assoc, List.singleton_append] at h2
    omega

theorem rest_add (d : Rd) (m : Nat) : (sb d.s).drop (d.k + m) = d.rest.drop m := by unfold Rd.rest; rw [List.drop_drop]
theorem mark_rest (d : Rd) : d.rest = dol d.mark ++ d.rest.drop (dol d.mark).length := by
  unfold Rd.mark
  cases h : d.rest with
  | nil => rfl
  | cons x l =>
    by_cases hx : x = 36
    · subst hx; simp [dol]
    · have : (x :: l).head? ≠ some 36 := by simpa using hx
      rw [decide_eq_false this]; simp [dol]

/-- What a text reads as. -/
def readS (s : ByteArray) : Option Rd := ((((((Rd.start s).sheet.bind Rd.absCol).bind Rd.col).bind Rd.absRow).bind Rd.row).bind Rd.fin)
theorem nameL_size {l : List Int} (h : nameL l = true) : l ≠ [] ∧ l.length ≤ 12 := by
  unfold nameL at h; rw [Bool.and_eq_true, decide_eq_true_iff, decide_eq_true_iff] at h
  exact ⟨by intro h0; rw [h0] at h; simp at h, h.2.2⟩
theorem isRow_parts {l : List Int} (h : isRow l = true) : l ≠ [] ∧ l.head? ≠ some 48 ∧ valL l ≤ 999 := by unfold isRow at h; rw [decide_eq_true_iff] at h; exact h

theorem read_some (s : ByteArray) (d : Rd) (h : readS s = some d) : d.sh.size ≤ 12 ∧ mayL (sb d.sh) d.c d.r = true ∧ textL (sb d.sh) d.c d.r d.ac d.ar = sb s := by
  unfold readS at h
  simp only [Option.bind_eq_some_iff] at h
  obtain ⟨d5, ⟨d4, ⟨d3, ⟨d2, ⟨d1, h1, h2⟩, h3⟩, h4⟩, h5⟩, h6⟩ := h
  -- the sheet
  have g1 : d1.s = s ∧ sb s = (if sb d1.sh = [] then [] else sb d1.sh ++ [33]) ++ d1.rest ∧ (sb d1.sh = [] ∨ nameL (sb d1.sh) = true) ∧ d1.sh.size ≤ 12 := by
    unfold Rd.sheet at h1
    by_cases hc : (Rd.start s).sheetP.length = (Rd.start s).s.size
    · rw [if_pos hc] at h1
      injection h1 with h1; subst h1
      exact ⟨rfl, rfl, .inl rfl, by show (0 : Nat) ≤ 12; omega⟩
    · rw [if_neg hc] at h1
      by_cases hn : nameL (Rd.start s).sheetP = true
      · rw [if_pos hn] at h1
        injection h1 with h1; subst h1
        have hb : Bytes (Rd.start s).sheetP := fun x hx => sb_bd s x (by
          have := take_split ne33 (sb s); rw [← this]; exact List.mem_append_left _ hx)
        obtain ⟨q1, q2⟩ := nameL_size hn
        refine ⟨rfl, ?_, .inr (by show nameL (sb (strOfNums _)) = true; rw [sb_str _ hb]; exact hn), by show (strOfNums _).size ≤ 12; rw [strOfNums_size]; exact q2⟩
        show sb s = (if sb (strOfNums (Rd.start s).sheetP) = [] then [] else sb (strOfNums (Rd.start s).sheetP) ++ [33]) ++ (sb s).drop ((Rd.start s).sheetP.length + 1)
        rw [sb_str _ hb, if_neg q1]
        have e := take_split ne33 (sb s)
        have hlt : (Rd.start s).sheetP.length < (sb s).length := by
          have := congrArg List.length e
          rw [List.length_append] at this
          have h3 : (Rd.start s).sheetP.length ≠ s.size := hc
          have h4 := length_sb s
          show ((sb s).takeWhile ne33).length < _
          have h5 : (Rd.start s).sheetP = (sb s).takeWhile ne33 := rfl
          rw [h5] at h3
          omega
        have hh := take_head ne33 (sb s)
        have h6 : (sb s).drop (Rd.start s).sheetP.length = (sb s)[(Rd.start s).sheetP.length] :: (sb s).drop ((Rd.start s).sheetP.length + 1) := List.drop_eq_getElem_cons hlt
        have h7 := hh ((sb s)[(Rd.start s).sheetP.length]) (by
          show ((sb s).drop (Rd.start s).sheetP.length).head? = _
          rw [h6]; rfl)
        have h8 : (sb s)[(Rd.start s).sheetP.length] = 33 := by unfold ne33 at h7; simpa using h7
        rw [h8] at h6
        rw [List.append_assoc, List.singleton_append, ← h6]
        exact e.symm
      · rw [if_neg hn] at h1; cases h1
  obtain ⟨e1, t1, n1, z1⟩ := g1
  -- the mark ahead of the column
  have g2 : d2.s = d1.s ∧ d2.sh = d1.sh ∧ d1.rest = dol d2.ac ++ d2.rest := by
    unfold Rd.absCol at h2; injection h2 with h2; subst h2
    refine ⟨rfl, rfl, ?_⟩
    show d1.rest = dol d1.mark ++ (sb d1.s).drop (d1.k + (dol d1.mark).length)
    rw [rest_add]; exact mark_rest d1
  obtain ⟨e2, f2, t2⟩ := g2
  have g3 : d3.s = d2.s ∧ d3.sh = d2.sh ∧ d3.ac = d2.ac ∧ d2.rest = colL d3.c ++ d3.rest ∧ 0 ≤ d3.c ∧ d3.c ≤ 701 := by
    unfold Rd.col at h3
    by_cases hc : isCol (d2.rest.takeWhile isCap) = true
    · rw [if_pos hc] at h3; injection h3 with h3; subst h3
      obtain ⟨q1, q2, q3⟩ := colL_readCol _ hc
      refine ⟨rfl, rfl, rfl, ?_, q2, q3⟩
      show d2.rest = colL (readColL (d2.rest.takeWhile isCap)) ++ (sb d2.s).drop (d2.k + (d2.rest.takeWhile isCap).length)
      rw [q1, rest_add, take_split]
    · rw [if_neg hc] at h3; cases h3
  obtain ⟨e3, f3, a3, t3, c0, c1⟩ := g3
  have g4 : d4.s = d3.s ∧ d4.sh = d3.sh ∧ d4.ac = d3.ac ∧ d4.c = d3.c ∧ d3.rest = dol d4.ar ++ d4.rest := by
    unfold Rd.absRow at h4; injection h4 with h4; subst h4
    refine ⟨rfl, rfl, rfl, rfl, ?_⟩
    show d3.rest = dol d3.mark ++ (sb d3.s).drop (d3.k + (dol d3.mark).length)
    rw [rest_add]; exact mark_rest d3
  obtain ⟨e4, f4, a4, b4, t4⟩ := g4
  have g5 : d5.s = d4.s ∧ d5.sh = d4.sh ∧ d5.ac = d4.ac ∧ d5.c = d4.c ∧ d5.ar = d4.ar ∧ d4.rest = digL (d5.r + 1).toNat ++ d5.rest ∧ 0 ≤ d5.r ∧ d5.r ≤ 998 := by
    unfold Rd.row at h5
    by_cases hc : isRow (d4.rest.takeWhile isNum) = true
    · rw [if_pos hc] at h5; injection h5 with h5; subst h5
      obtain ⟨q1, q2, q3⟩ := isRow_parts hc
      obtain ⟨q4, q5⟩ := digL_valL _ _ rfl q1 (take_all isNum _) q2
      refine ⟨rfl, rfl, rfl, rfl, rfl, ?_, by show 0 ≤ valL (d4.rest.takeWhile isNum) - 1; omega, by show valL (d4.rest.takeWhile isNum) - 1 ≤ 998; omega⟩
      show d4.rest = digL (valL (d4.rest.takeWhile isNum) - 1 + 1).toNat ++ (sb d4.s).drop (d4.k + (d4.rest.takeWhile isNum).length)
      rw [Int.sub_add_cancel, q5, rest_add, take_split]
    · rw [if_neg hc] at h5; cases h5
  obtain ⟨e5, f5, a5, b5, r5, t5, r0, r1⟩ := g5
  have g6 : d = d5 ∧ d5.rest = [] := by
    unfold Rd.fin at h6
    by_cases hc : d5.k = d5.s.size
    · rw [if_pos hc] at h6; injection h6 with h6
      refine ⟨h6.symm, ?_⟩
      unfold Rd.rest; rw [hc, ← length_sb, List.drop_length]
    · rw [if_neg hc] at h6; cases h6
  obtain ⟨rfl, t6⟩ := g6
  have hsh : d.sh = d1.sh := by rw [f5, f4, f3, f2]
  have hac : d.ac = d2.ac := by rw [a5, a4, a3]
  have hc : d.c = d3.c := by rw [b5, b4]
  have hm : mayL (sb d.sh) d.c d.r = true := by
    unfold mayL
    rw [Bool.and_eq_true, Bool.or_eq_true, decide_eq_true_iff, decide_eq_true_iff, hsh, hc]
    exact ⟨n1, by omega, by omega, by omega, by omega⟩
  refine ⟨by rw [hsh]; exact z1, hm, ?_⟩
  rw [textL_eq _ _ _ _ _ hm, t1, t2, t3, t4, t5, t6, hsh, hc, hac, r5, List.append_nil]
  rfl

/-- No reference has this text. -/
def NoRef (l : List Int) : Prop := ∀ sh c r ac ar, mayL sh c r = true → textL sh c r ac ar ≠ l
/-- What Read answers for a text. -/
def Says (l : List Int) (e : Ending) : Prop :=
  (∃ s c r ac ar, s.size ≤ 12 ∧ mayL (sb s) c r = true ∧ textL (sb s) c r ac ar = l ∧ e = .returned (.tuple #[.agg #[.string s, .int .i64 c, .int .i64 r, .bool ac, .bool ar], .bool true])) ∨
  (NoRef l ∧ e = .returned (.tuple #[.agg #[.string ⟨#[]⟩, .int .i64 0, .int .i64 0, .bool false, .bool false], .bool false]))
theorem mark_of (d : Rd) (b : Bool) (t : List Int) (h : d.rest = dol b ++ t) (ht : ∀ x, t.head? = some x → x ≠ 36) : d.mark = b := by
  unfold Rd.mark; rw [h]
  cases b with
  | true => rfl
  | false =>
    rw [decide_eq_false_iff_not]
    intro hx; exact ht 36 hx rfl
theorem isRow_digL (r : Int) (h0 : 0 ≤ r) (h1 : r ≤ 998) : isRow (digL (r + 1).toNat) = true := by
  have hh : ∀ (n u : Nat), u < n → 1 ≤ u → (digL u).head? ≠ some 48 := by
    intro n
    induction n with
    | zero => intro u h; omega
    | succ n ih =>
      intro u hu h1
      by_cases h : u < 10
      · rw [digL_small u h]; simp; omega
      · rw [digL_more u h]
        have := ih (u / 10) (by omega) (by omega)
        cases hd : digL (u / 10) with
        | nil => exact absurd hd (digL_ne _)
        | cons y l => rw [hd] at this; simpa using this
  unfold isRow; rw [decide_eq_true_iff]
  refine ⟨digL_ne _, hh _ _ (Nat.lt_succ_self _) (by omega), ?_⟩
  rw [valL_digL]; omega
theorem read_none (s : ByteArray) (h : readS s = none) : NoRef (sb s) := by
  intro sh c r ac ar hm e
  obtain ⟨c0, c1, r0, r1⟩ := mayL_nums hm
  rw [textL_eq _ _ _ _ _ hm] at e
  -- the sheet
  have g1 : ∃ d1, (Rd.start s).sheet = some d1 ∧ d1.rest = tailL c r ac ar ∧ d1.s = s ∧ d1.k + d1.rest.length = s.size := by
    by_cases hs : sh = []
    · rw [if_pos hs, List.nil_append] at e
      have hp : (Rd.start s).sheetP = sb s := by
        show (sb s).takeWhile ne33 = sb s
        rw [← e, ← List.append_nil (tailL c r ac ar), take_part ne33 _ [] (fun x hx => by unfold ne33; rw [decide_eq_true_iff]; exact tail_no33 c r ac ar x hx) (fun x hx => by simp at hx), List.append_nil]
      refine ⟨Rd.start s, ?_, e.symm, rfl, by show 0 + (sb s).length = s.size; rw [length_sb]; omega⟩
      unfold Rd.sheet; rw [hp, if_pos (show (sb s).length = (Rd.start s).s.size from length_sb s)]
    · rw [if_neg hs, List.append_assoc] at e
      have hn := (mayL_sheet hm).resolve_left hs
      have hp : (Rd.start s).sheetP = sh := by
        show (sb s).takeWhile ne33 = sh
        rw [← e]
        exact take_part ne33 _ _ (fun x hx => by unfold ne33; rw [decide_eq_true_iff]; exact name_no33 _ hn x hx) (fun x hx => by simp at hx; subst hx; rfl)
      have hlen : ¬ sh.length = (Rd.start s).s.size := by
        show ¬ sh.length = s.size
        rw [← length_sb, ← e]; simp only [List.length_append, List.length_cons]; omega
      refine ⟨{ Rd.start s with sh := strOfNums sh, k := sh.length + 1 }, ?_, ?_, rfl, ?_⟩
      · unfold Rd.sheet; rw [hp, if_neg hlen, if_pos hn]
      · show (sb s).drop (sh.length + 1) = _
        rw [← e, ← List.drop_drop, List.drop_left]; rfl
      · show sh.length + 1 + ((sb s).drop (sh.length + 1)).length = s.size
        rw [List.length_drop, ← length_sb, ← e]; simp only [List.length_append, List.length_cons]; omega
  obtain ⟨d1, h1, t1, s1, k1⟩ := g1
  have no36 : ∀ x, isCap x = true → x ≠ 36 := by intro x hx; have := cap_bd hx; omega
  have no36n : ∀ x, isNum x = true → x ≠ 36 := by intro x hx; have := num_bd hx; omega
  obtain ⟨d2, h2, t2, s2, k2⟩ : ∃ d2, d1.absCol = some d2 ∧ d2.rest = colL c ++ (dol ar ++ digL (r + 1).toNat) ∧ d2.s = s ∧ d2.k = d1.k + (dol ac).length := by
    have hmk := mark_of d1 ac (colL c ++ (dol ar ++ digL (r + 1).toNat)) t1 (fun x hx => no36 x (isCap_colL c x (head_append (colL_ne c c0 c1) hx)))
    refine ⟨_, rfl, ?_, s1, by show d1.k + (dol d1.mark).length = _; rw [hmk]⟩
    show (sb d1.s).drop (d1.k + (dol d1.mark).length) = _
    rw [rest_add, hmk, t1]; unfold tailL; rw [List.drop_left]
  have hcap : ∀ x, (dol ar ++ digL (r + 1).toNat).head? = some x → isCap x = false := by
    intro x hx
    cases ar with
    | true => simp [dol] at hx; subst hx; decide
    | false =>
      have hx' : (digL (r + 1).toNat ++ []).head? = some x := by simpa [dol] using hx
      have := num_bd (isNum_digL _ x (head_append (digL_ne _) hx'))
      exact isCap_f (by omega)
  obtain ⟨d3, h3, t3, s3, k3⟩ : ∃ d3, d2.col = some d3 ∧ d3.rest = dol ar ++ digL (r + 1).toNat ∧ d3.s = s ∧ d3.k = d2.k + (colL c).length := by
    have hp : d2.rest.takeWhile isCap = colL c := by rw [t2]; exact take_part isCap _ _ (isCap_colL c) hcap
    refine ⟨{ d2 with c := readColL (d2.rest.takeWhile isCap), k := d2.k + (d2.rest.takeWhile isCap).length }, ?_, ?_, s2, by show d2.k + (d2.rest.takeWhile isCap).length = _; rw [hp]⟩
    · unfold Rd.col; rw [if_pos (by rw [hp]; exact (readCol_colL c c0 c1).1)]
    · show (sb d2.s).drop (d2.k + (d2.rest.takeWhile isCap).length) = _
      rw [rest_add, hp, t2, List.drop_left]
  obtain ⟨d4, h4, t4, s4, k4⟩ : ∃ d4, d3.absRow = some d4 ∧ d4.rest = digL (r + 1).toNat ∧ d4.s = s ∧ d4.k = d3.k + (dol ar).length := by
    have hmk := mark_of d3 ar (digL (r + 1).toNat) t3 (fun x hx => no36n x (isNum_digL _ x (head_append (b := []) (digL_ne _) (by rw [List.append_nil]; exact hx))))
    refine ⟨_, rfl, ?_, s3, by show d3.k + (dol d3.mark).length = _; rw [hmk]⟩
    show (sb d3.s).drop (d3.k + (dol d3.mark).length) = _
    rw [rest_add, hmk, t3, List.drop_left]
  obtain ⟨d5, h5, s5, k5⟩ : ∃ d5, d4.row = some d5 ∧ d5.s = s ∧ d5.k = d4.k + (digL (r + 1).toNat).length := by
    have hp : d4.rest.takeWhile isNum = digL (r + 1).toNat := by
      rw [t4]
      have := take_part isNum (digL (r + 1).toNat) [] (isNum_digL _) (fun x hx => by simp at hx)
      rw [List.append_nil] at this; exact this
    refine ⟨{ d4 with r := valL (d4.rest.takeWhile isNum) - 1, k := d4.k + (d4.rest.takeWhile isNum).length }, ?_, s4, by show d4.k + (d4.rest.takeWhile isNum).length = _; rw [hp]⟩
    unfold Rd.row; rw [if_pos (by rw [hp]; exact isRow_digL r r0 r1)]
  have h6 : d5.fin = none := by
    unfold readS at h; rw [h1] at h; simp only [Option.bind_some] at h; rw [h2] at h; simp only [Option.bind_some] at h; rw [h3] at h; simp only [Option.bind_some] at h; rw [h4] at h; simp only [Option.bind_some] at h; rw [h5] at h; exact h
  unfold Rd.fin at h6
  have hk : d5.k = d5.s.size := by
    rw [s5]
    rw [t1] at k1
    unfold tailL at k1
    simp only [List.length_append] at k1
    omega
  rw [if_pos hk] at h6; cases h6
theorem bytes_colL (c : Int) : Bytes (colL c) := by
  intro x hx; have := cap_bd (isCap_colL c x hx); omega

theorem bytes_digL (u : Nat) : Bytes (digL u) := by
  intro x hx; have := num_bd (isNum_digL u x hx); omega
theorem bytes_dol (b : Bool) : Bytes (dol b) := by
  intro x hx; have := dol_all b x hx; rw [decide_eq_true_iff] at this; omega
theorem bytes_textL (s : ByteArray) (c r : Int) (ac ar : Bool) : Bytes (textL (sb s) c r ac ar) := by
  by_cases h : mayL (sb s) c r = true
  · rw [textL_eq _ _ _ _ _ h]
    unfold tailL
    refine Bytes.append ?_ ((bytes_dol ac).append ((bytes_colL c).append ((bytes_dol ar).append (bytes_digL _))))
    split
    · exact Bytes.nil
    · exact Bytes.append (sb_bd s) (by intro x hx; simp at hx; omega)
  · unfold textL; rw [if_neg h]; exact Bytes.nil
theorem sb_inj {a b : ByteArray} (h : sb a = sb b) : a = b := by rw [← str_sb a, ← str_sb b, h]
/-- The text of a reference that may be tells it. -/
theorem Says.text {s : ByteArray} {c r : Int} {ac ar : Bool} {e : Ending} (hm : mayL (sb s) c r = true) (h : Says (sb (strOfNums (textL (sb s) c r ac ar))) e) : e = .returned (.tuple #[.agg #[.string s, .int .i64 c, .int .i64 r, .bool ac, .bool ar], .bool true]) := by
  rw [sb_str _ (bytes_textL s c r ac ar)] at h
  rcases h with ⟨s', c', r', ac', ar', _, h2, h3, h4⟩ | ⟨h1, _⟩
  · obtain ⟨e1, e2, e3, e4, e5⟩ := textL_inj h2 hm h3
    rw [h4, sb_inj e1, e2, e3, e4, e5]
  · exact absurd rfl (h1 _ _ _ _ _ hm)
end Go.Proofs.YtdapnipodnhpkaaDoor
