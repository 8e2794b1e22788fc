/-
  Layer 4: tokens of a text, without the program.
-/
import Derived.Test.YtdapnipodnhpkaaDoorAddrP
namespace Go.Proofs.YtdapnipodnhpkaaDoor
open Go.RowKit

/-- A token. -/
structure Tk where
  kind : Int
  text : ByteArray
  num : Int
  sh : ByteArray
  c : Int
  r : Int
  ac : Bool
  ar : Bool
  pos : Int
def Tk.zero : Tk := ⟨0, ⟨#[]⟩, 0, ⟨#[]⟩, 0, 0, false, false, 0⟩
def Tk.goto (t : Tk) (p : Int) : Tk := { t with pos := p }
/-- What may stand in a word. -/
def isWord (x : Int) : Bool := isLet x || (isNum x || decide (x = 36 ∨ x = 33))
/-- A number: its value, unless noughts stand ahead or it is too great. -/
def numT (l : List Int) : Option (Tk × Nat) :=
  if (1 < (l.takeWhile isNum).length ∧ l.head? = some 48) ∨ 9223372036854775807 < valL (l.takeWhile isNum) then none
  else some ({ Tk.zero with kind := 1, num := valL (l.takeWhile isNum) }, (l.takeWhile isNum).length)
/-- A text behind its first sign: what it says, and how many bytes it takes with its last sign. -/
def quoF : List Int → Option (List Int × Nat)
  | [] => none
  | x :: l =>
    if x < 32 then none
    else if x ≠ 34 then (quoF l).map fun p => (x :: p.1, p.2 + 1)
    else match l with
      | y :: m => if y = 34 then (quoF m).map fun p => (34 :: p.1, p.2 + 2) else some ([], 1)
      | [] => some ([], 1)
def quoT (l : List Int) : Option (Tk × Nat) := (quoF l).map fun p => ({ Tk.zero with kind := 2, text := strOfNums p.1 }, p.2 + 1)
/-- Capital letters and digits, few, a letter first. -/
def calledL (l : List Int) : Bool := decide (∀ x ∈ l, (isCap x || isNum x) = true) && (decide (1 ≤ l.length ∧ l.length ≤ 12) && isCap (l.getD 0 0))
def wordT (l : List Int) : Option (Tk × Nat) :=
  match readS (strOfNums (l.takeWhile isWord)) with
  | some d => some ({ Tk.zero with kind := 4, sh := d.sh, c := d.c, r := d.r, ac := d.ac, ar := d.ar }, (l.takeWhile isWord).length)
  | none => if calledL (l.takeWhile isWord) = true then some ({ Tk.zero with kind := 3, text := strOfNums (l.takeWhile isWord) }, (l.takeWhile isWord).length) else none
def deadT (l : List Int) : Option (Tk × Nat) := if l.take 5 = [35, 82, 69, 70, 33] then some ({ Tk.zero with kind := 6 }, 5) else none
/-- How long a sign is. -/
def signN : List Int → Nat
  | [] => 0
  | x :: l =>
    if (x = 60 ∧ (l.head? = some 62 ∨ l.head? = some 61)) ∨ (x = 62 ∧ l.head? = some 61) then 2
    else if x = 43 ∨ x = 45 ∨ x = 42 ∨ x = 47 ∨ x = 38 ∨ x = 61 ∨ x = 60 ∨ x = 62 ∨ x = 40 ∨ x = 41 ∨ x = 44 ∨ x = 58 then 1 else 0
def signT (l : List Int) : Option (Tk × Nat) := if signN l = 0 then none else some ({ Tk.zero with kind := 5, text := strOfNums (l.take (signN l)) }, signN l)
/-- The token that stands at the head, and its length. -/
def tokT : List Int → Option (Tk × Nat)
  | [] => none
  | x :: l => if isNum x = true then numT (x :: l) else if x = 34 then quoT l else if x = 35 then deadT (x :: l) else if isLet x = true ∨ x = 36 then wordT (x :: l) else signT (x :: l)
/-- All tokens from a place on. -/
def lexF : Nat → Nat → List Int → Option (List Tk)
  | _, p, [] => some [Tk.zero.goto p]
  | 0, _, _ :: _ => none
  | f + 1, p, x :: l =>
    if x = 32 then lexF f (p + 1) l
    else match tokT (x :: l) with
      | none => none
      | some (t, n) => (lexF f (p + n) ((x :: l).drop n)).map (t.goto p :: ·)
def lexL (l : List Int) : Option (List Tk) := lexF l.length 0 l

theorem tokT_cons (x : Int) (l : List Int) : tokT (x :: l) = if isNum x = true then numT (x :: l) else if x = 34 then quoT l else if x = 35 then deadT (x :: l) else if isLet x = true ∨ x = 36 then wordT (x :: l) else signT (x :: l) := rfl
theorem quoF_cons (x : Int) (l : List Int) : quoF (x :: l) = if x < 32 then none else if x ≠ 34 then (quoF l).map fun p => (x :: p.1, p.2 + 1) else match l with
      | y :: m => if y = 34 then (quoF m).map fun p => (34 :: p.1, p.2 + 2) else some ([], 1)
      | [] => some ([], 1) := by conv => lhs; rw [quoF.eq_def]
theorem lexF_cons (f p : Nat) (x : Int) (l : List Int) : lexF (f + 1) p (x :: l) = if x = 32 then lexF f (p + 1) l else match tokT (x :: l) with
      | none => none
      | some (t, n) => (lexF f (p + n) ((x :: l).drop n)).map (t.goto p :: ·) := rfl
theorem take_le (p : Int → Bool) (l : List Int) : (l.takeWhile p).length ≤ l.length := by
  have h := congrArg List.length (take_split p l)
  rw [List.length_append] at h; omega
theorem take_pos (p : Int → Bool) (x : Int) (l : List Int) (h : p x = true) : 0 < ((x :: l).takeWhile p).length := by
  rw [List.takeWhile_cons, if_pos h]; simp
theorem quoF_le : ∀ (n : Nat) (l : List Int) (t : List Int) (k : Nat), l.length ≤ n → quoF l = some (t, k) → 0 < k ∧ k ≤ l.length
  | _, [], _, _, _, h => by simp [quoF] at h
  | 0, _ :: _, _, _, hn, _ => by simp at hn
  | n + 1, x :: l, t, k, hn, h => by
    rw [quoF_cons] at h
    by_cases h1 : x < 32
    · rw [if_pos h1] at h; cases h
    · rw [if_neg h1] at h
      by_cases h2 : x ≠ 34
      · rw [if_pos h2] at h
        cases hq : quoF l with
        | none => rw [hq] at h; cases h
        | some q =>
          rw [hq] at h
          simp only [Option.map_some, Option.some.injEq, Prod.mk.injEq] at h
          have := quoF_le n l q.1 q.2 (by simp at hn; omega) hq
          simp only [List.length_cons]; omega
      · rw [if_neg h2] at h
        cases l with
        | nil => simp at h; simp only [List.length_cons, List.length_nil]; omega
        | cons y m =>
          by_cases hy : y = 34
          · simp only [hy, if_true] at h
            cases hq : quoF m with
            | none => rw [hq] at h; cases h
            | some q =>
              rw [hq] at h
              simp only [Option.map_some, Option.some.injEq, Prod.mk.injEq] at h
              have := quoF_le n m q.1 q.2 (by simp at hn; omega) hq
              simp only [List.length_cons]; omega
          · simp only [hy, if_false, Option.some.injEq, Prod.mk.injEq] at h
            simp only [List.length_cons]; omega
theorem signN_cons (x : Int) (l : List Int) : signN (x :: l) = if (x = 60 ∧ (l.head? = some 62 ∨ l.head? = some 61)) ∨ (x = 62 ∧ l.head? = some 61) then 2
    else if x = 43 ∨ x = 45 ∨ x = 42 ∨ x = 47 ∨ x = 38 ∨ x = 61 ∨ x = 60 ∨ x = 62 ∨ x = 40 ∨ x = 41 ∨ x = 44 ∨ x = 58 then 1 else 0 := rfl
theorem signN_le : ∀ l : List Int, signN l ≤ l.length
  | [] => Nat.le_refl _
  | x :: l => by
    rw [signN_cons]
    by_cases h : (x = 60 ∧ (l.head? = some 62 ∨ l.head? = some 61)) ∨ (x = 62 ∧ l.head? = some 61)
    · rw [if_pos h]
      have h0 : l ≠ [] := by rintro rfl; simp at h
      have := List.length_pos_iff.2 h0
      simp only [List.length_cons]; omega
    · rw [if_neg h]
      split <;> simp
theorem isWord_let {x : Int} (h : isLet x = true ∨ x = 36) : isWord x = true := by
  unfold isWord
  rcases h with h | h
  · rw [h]; rfl
  · subst h; decide
/-- A token has a length, and lies within. -/
theorem tokT_le (l : List Int) (t : Tk) (n : Nat) (h : tokT l = some (t, n)) : 0 < n ∧ n ≤ l.length := by
  cases l with
  | nil => simp [tokT] at h
  | cons x l =>
    rw [tokT_cons] at h
    by_cases h1 : isNum x = true
    · rw [if_pos h1] at h
      unfold numT at h
      split at h
      · cases h
      · simp only [Option.some.injEq, Prod.mk.injEq] at h
        rw [← h.2]; exact ⟨take_pos isNum x l h1, take_le _ _⟩
    · rw [if_neg h1] at h
      by_cases h2 : x = 34
      · rw [if_pos h2] at h
        unfold quoT at h
        cases hq : quoF l with
        | none => rw [hq] at h; cases h
        | some q =>
          rw [hq] at h
          simp only [Option.map_some, Option.some.injEq, Prod.mk.injEq] at h
          have := quoF_le _ l q.1 q.2 (Nat.le_refl _) hq
          simp only [List.length_cons]; omega
      · rw [if_neg h2] at h
        by_cases h3 : x = 35
        · rw [if_pos h3] at h
          unfold deadT at h
          split at h
          · rename_i h5
            simp only [Option.some.injEq, Prod.mk.injEq] at h
            have := congrArg List.length h5
            rw [List.length_take] at this
            simp only [List.length_cons, List.length_nil] at this ⊢; omega
          · cases h
        · rw [if_neg h3] at h
          by_cases h4 : isLet x = true ∨ x = 36
          · rw [if_pos h4] at h
            unfold wordT at h
            split at h
            · simp only [Option.some.injEq, Prod.mk.injEq] at h
              rw [← h.2]; exact ⟨take_pos isWord x l (isWord_let h4), take_le _ _⟩
            · split at h
              · simp only [Option.some.injEq, Prod.mk.injEq] at h
                rw [← h.2]; exact ⟨take_pos isWord x l (isWord_let h4), take_le _ _⟩
              · cases h
          · rw [if_neg h4] at h
            unfold signT at h
            split at h
            · cases h
            · rename_i h5
              simp only [Option.some.injEq, Prod.mk.injEq] at h
              rw [← h.2]; exact ⟨by omega, signN_le _⟩
/-- More rounds than bytes change nothing. -/
theorem lexF_more : ∀ (f g p : Nat) (l : List Int), l.length ≤ f → l.length ≤ g → lexF f p l = lexF g p l
  | 0, 0, _, _, _, _ => rfl
  | _, _, _, [], _, _ => by unfold lexF; rfl
  | 0, _, _, _ :: _, h, _ => by simp at h
  | _, 0, _, _ :: _, _, h => by simp at h
  | f + 1, g + 1, p, x :: l, h, h2 => by
    simp only [List.length_cons] at h h2
    rw [lexF_cons, lexF_cons]
    by_cases hx : x = 32
    · rw [if_pos hx, if_pos hx]; exact lexF_more f g (p + 1) l (by omega) (by omega)
    · rw [if_neg hx, if_neg hx]
      cases ht : tokT (x :: l) with
      | none => rfl
      | some q =>
        obtain ⟨t, n⟩ := q
        have hn := tokT_le _ _ _ ht
        simp only
        rw [lexF_more f g (p + n) ((x :: l).drop n) (by rw [List.length_drop]; simp only [List.length_cons]; omega) (by rw [List.length_drop]; simp only [List.length_cons]; omega)]

/-! What stands behind a token matters through its first byte alone; a blank is as good as any. -/
def Alike (b b' : List Int) : Prop := b'.head? = b.head? ∨ b'.head? = some 32
theorem head_no {p : Int → Bool} (hp : p 32 = false) {b b' : List Int} (h : Alike b b') (hb : ∀ x, b.head? = some x → p x = false) : ∀ x, b'.head? = some x → p x = false := by
  intro x hx
  rcases h with h | h
  · exact hb x (by rw [← h]; exact hx)
  · rw [h] at hx; injection hx with hx; rw [← hx]; exact hp
/-- A span that ends within a text ends there whatever stands behind, if that is alike. -/
theorem span_alike {p : Int → Bool} (hp : p 32 = false) {a b b' : List Int} (h : Alike b b') (hs : ((a ++ b).takeWhile p).length = a.length) : (a ++ b).takeWhile p = a ∧ (a ++ b').takeWhile p = a := by
  have e := take_split p (a ++ b)
  rw [hs, List.drop_left] at e
  have e1 : (a ++ b).takeWhile p = a := List.append_cancel_right e
  refine ⟨e1, ?_⟩
  have hall : ∀ x ∈ a, p x = true := fun x hx => take_all p (a ++ b) x (by rw [e1]; exact hx)
  have hh := take_head p (a ++ b)
  rw [hs, List.drop_left] at hh
  exact take_part p a b' hall (head_no hp h hh)
theorem quoF_alike {b b' : List Int} (h : Alike b b') : ∀ (n : Nat) (a t : List Int), a.length ≤ n → quoF (a ++ b) = some (t, a.length) → quoF (a ++ b') = some (t, a.length)
  | _, [], t, _, hq => by
    exfalso
    have := quoF_le _ _ _ _ (Nat.le_refl _) hq
    simp at this
  | 0, _ :: _, _, hn, _ => by simp at hn
  | n + 1, x :: a, t, hn, hq => by
    rw [List.cons_append, quoF_cons] at hq ⊢
    by_cases h1 : x < 32
    · rw [if_pos h1] at hq; cases hq
    · rw [if_neg h1] at hq ⊢
      by_cases h2 : x ≠ 34
      · rw [if_pos h2] at hq ⊢
        cases hr : quoF (a ++ b) with
        | none => rw [hr] at hq; cases hq
        | some q =>
          rw [hr] at hq
          simp only [Option.map_some, Option.some.injEq, Prod.mk.injEq, List.length_cons] at hq
          have h3 := quoF_alike h n a q.1 (by simp at hn; omega) (by rw [hr, ← show q.2 = a.length from by omega])
          rw [h3]
          simp only [Option.map_some, List.length_cons, Option.some.injEq, Prod.mk.injEq, and_true]
          exact hq.1
      · rw [if_neg h2] at hq ⊢
        cases a with
        | nil =>
          simp only [List.nil_append] at hq ⊢
          cases b with
          | nil =>
            simp only [Option.some.injEq, Prod.mk.injEq] at hq
            cases b' with
            | nil => simpa using hq
            | cons y m =>
              rcases h with h | h
              · simp at h
              · simp at h; subst h; simpa using hq
          | cons z m =>
            by_cases hz : z = 34
            · exfalso
              simp only [hz, if_true] at hq
              cases hr : quoF m with
              | none => rw [hr] at hq; cases hq
              | some q => rw [hr] at hq; simp at hq
            · simp only [hz, if_false] at hq
              cases b' with
              | nil => simpa using hq
              | cons y k =>
                have hy : ¬ y = 34 := by
                  rcases h with h | h
                  · simp at h; rw [h]; exact hz
                  · simp at h; omega
                simp only [hy, if_false]; exact hq
        | cons y m =>
          simp only [List.cons_append] at hq ⊢
          by_cases hy : y = 34
          · simp only [hy, if_true] at hq ⊢
            cases hr : quoF (m ++ b) with
            | none => rw [hr] at hq; cases hq
            | some q =>
              rw [hr] at hq
              simp only [Option.map_some, Option.some.injEq, Prod.mk.injEq, List.length_cons] at hq
              have h3 := quoF_alike h n m q.1 (by simp at hn; omega) (by rw [hr, ← show q.2 = m.length from by omega])
              rw [h3]
              simp only [Option.map_some, List.length_cons, Option.some.injEq, Prod.mk.injEq, and_true]
              exact hq.1
          · simp only [hy, if_false, Option.some.injEq, Prod.mk.injEq, List.length_cons] at hq
            exfalso; omega

theorem signN_alike {b b' : List Int} (h : Alike b b') (x : Int) (hs : signN (x :: b) = 1) : signN (x :: b') = 1 := by
  rw [signN_cons] at hs ⊢
  by_cases h2 : (x = 60 ∧ (b.head? = some 62 ∨ b.head? = some 61)) ∨ (x = 62 ∧ b.head? = some 61)
  · rw [if_pos h2] at hs; omega
  · rw [if_neg h2] at hs
    have h3 : ¬ ((x = 60 ∧ (b'.head? = some 62 ∨ b'.head? = some 61)) ∨ (x = 62 ∧ b'.head? = some 61)) := by
      rcases h with h | h
      · rw [h]; exact h2
      · rw [h]; simp
    rw [if_neg h3]; exact hs
theorem take_len (a b : List Int) : (a ++ b).take a.length = a := List.take_left
/-- THE SAME TOKEN stands there whatever stands behind it, if that is alike. -/
theorem tokT_alike {a b b' : List Int} {t : Tk} (h : Alike b b') (hq : tokT (a ++ b) = some (t, a.length)) : tokT (a ++ b') = some (t, a.length) := by
  cases a with
  | nil =>
    have := (tokT_le _ _ _ hq).1
    simp at this
  | cons x a =>
    have hsp : ∀ (p : Int → Bool), p 32 = false → ((x :: a ++ b).takeWhile p).length = (x :: a).length → (x :: a ++ b').takeWhile p = (x :: a ++ b).takeWhile p := by
      intro p hp hl
      obtain ⟨e1, e2⟩ := span_alike hp h hl
      rw [e1, e2]
    rw [List.cons_append, tokT_cons] at hq ⊢
    by_cases h1 : isNum x = true
    · rw [if_pos h1] at hq ⊢
      have hn : ((x :: a ++ b).takeWhile isNum).length = (x :: a).length := by
        unfold numT at hq
        split at hq
        · cases hq
        · simp only [Option.some.injEq, Prod.mk.injEq] at hq; exact hq.2
      have e := hsp isNum (by decide) hn
      rw [← hq]
      unfold numT
      rw [List.cons_append, List.cons_append] at e
      rw [e]; rfl
    · rw [if_neg h1] at hq ⊢
      by_cases h2 : x = 34
      · rw [if_pos h2] at hq ⊢
        unfold quoT at hq ⊢
        cases hr : quoF (a ++ b) with
        | none => rw [hr] at hq; cases hq
        | some q =>
          rw [hr] at hq
          simp only [Option.map_some, Option.some.injEq, Prod.mk.injEq, List.length_cons] at hq
          have h3 := quoF_alike h _ a q.1 (Nat.le_refl _) (by rw [hr, ← show q.2 = a.length from by omega])
          rw [h3]
          simp only [Option.map_some, List.length_cons, Option.some.injEq, Prod.mk.injEq, and_true]
          exact hq.1
      · rw [if_neg h2] at hq ⊢
        by_cases h3 : x = 35
        · rw [if_pos h3] at hq ⊢
          unfold deadT at hq ⊢
          by_cases h5 : (x :: (a ++ b)).take 5 = [35, 82, 69, 70, 33]
          · rw [if_pos h5] at hq
            simp only [Option.some.injEq, Prod.mk.injEq] at hq
            have e1 : (x :: (a ++ b)).take 5 = x :: a := by rw [hq.2, ← List.cons_append]; exact take_len _ _
            have e2 : (x :: (a ++ b')).take 5 = x :: a := by rw [hq.2, ← List.cons_append]; exact take_len _ _
            rw [e1] at h5
            rw [e2, if_pos h5, hq.1]
            exact congrArg (fun k => some (t, k)) hq.2
          · rw [if_neg h5] at hq; cases hq
        · rw [if_neg h3] at hq ⊢
          by_cases h4 : isLet x = true ∨ x = 36
          · rw [if_pos h4] at hq ⊢
            have hn : ((x :: a ++ b).takeWhile isWord).length = (x :: a).length := by
              unfold wordT at hq
              split at hq
              · simp only [Option.some.injEq, Prod.mk.injEq] at hq; exact hq.2
              · split at hq
                · simp only [Option.some.injEq, Prod.mk.injEq] at hq; exact hq.2
                · cases hq
            have e := hsp isWord (by decide) hn
            rw [← hq]
            unfold wordT
            rw [List.cons_append, List.cons_append] at e
            rw [e]
          · rw [if_neg h4] at hq ⊢
            unfold signT at hq ⊢
            by_cases h5 : signN (x :: (a ++ b)) = 0
            · rw [if_pos h5] at hq; cases hq
            · rw [if_neg h5] at hq
              simp only [Option.some.injEq, Prod.mk.injEq] at hq
              have e : signN (x :: (a ++ b')) = signN (x :: (a ++ b)) := by
                cases a with
                | nil => rw [hq.2]; exact signN_alike h x hq.2
                | cons y a => rw [signN_cons, signN_cons]; rfl
              rw [e, if_neg h5, ← hq.1, hq.2]
              have e1 : (x :: (a ++ b)).take (x :: a).length = x :: a := by rw [← List.cons_append]; exact take_len _ _
              have e2 : (x :: (a ++ b')).take (x :: a).length = x :: a := by rw [← List.cons_append]; exact take_len _ _
              rw [e1, e2]

/-! Blanks put in ahead of tokens. -/
/-- What stands from place p on, with so many blanks ahead of each token that is left. -/
def ins : Nat → List Int → List Tk → List Nat → List Int
  | _, l, [], _ => l
  | p, l, t :: ts, ks => l.take (t.pos.toNat - p) ++ (List.replicate (ks.headD 0) 32 ++ ins t.pos.toNat (l.drop (t.pos.toNat - p)) ts ks.tail)
theorem ins_skip (p m : Nat) (l : List Int) (ts : List Tk) (ks : List Nat) (h : ∀ t ∈ ts, p + m ≤ t.pos.toNat) : ins p l ts ks = l.take m ++ ins (p + m) (l.drop m) ts ks := by
  cases ts with
  | nil => unfold ins; rw [List.take_append_drop]
  | cons t ts =>
    have hp := h t (by simp)
    unfold ins
    rw [show t.pos.toNat - p = m + (t.pos.toNat - (p + m)) from by omega, List.take_add, List.append_assoc, List.drop_drop]
theorem lexF_pos : ∀ (f p : Nat) (l : List Int) (ts : List Tk), lexF f p l = some ts → ∀ t ∈ ts, p ≤ t.pos.toNat
  | _, p, [], ts, h => by
    unfold lexF at h; simp only [Option.some.injEq] at h
    intro t ht; rw [← h] at ht; simp at ht; subst ht; unfold Tk.goto; simp
  | 0, _, _ :: _, ts, h => by unfold lexF at h; cases h
  | f + 1, p, x :: l, ts, h => by
    rw [lexF_cons] at h
    by_cases hx : x = 32
    · rw [if_pos hx] at h
      intro t ht; have := lexF_pos f (p + 1) l ts h t ht; omega
    · rw [if_neg hx] at h
      cases hq : tokT (x :: l) with
      | none => rw [hq] at h; cases h
      | some q =>
        obtain ⟨t0, n⟩ := q
        rw [hq] at h
        simp only [Option.map_eq_some_iff] at h
        obtain ⟨us, h1, h2⟩ := h
        intro t ht
        rw [← h2] at ht
        rcases List.mem_cons.1 ht with rfl | ht
        · unfold Tk.goto; simp
        · have := lexF_pos f (p + n) _ us h1 t ht; omega
theorem lexF_blanks (k f p : Nat) (l : List Int) : lexF (k + f) p (List.replicate k 32 ++ l) = lexF f (p + k) l := by
  induction k generalizing p with
  | zero => rw [Nat.zero_add]; rfl
  | succ k ih =>
    rw [List.replicate_succ, List.cons_append, show k + 1 + f = (k + f) + 1 from by omega, lexF_cons, if_pos rfl, ih, show p + 1 + k = p + (k + 1) from by omega]
theorem head_take (x : Int) (l m : List Int) (n : Nat) (h : 0 < n) : ((x :: l).take n ++ m).head? = some x := by
  obtain ⟨k, rfl⟩ : ∃ k, n = k + 1 := ⟨n - 1, by omega⟩
  rfl
theorem ins_alike (f p : Nat) (l : List Int) (ts : List Tk) (ks : List Nat) (h : lexF f p l = some ts) : Alike l (ins p l ts ks) := by
  cases l with
  | nil =>
    have h0 : lexF f p [] = some [Tk.zero.goto p] := by unfold lexF; rfl
    rw [h0] at h; simp only [Option.some.injEq] at h; subst h
    unfold ins Alike
    cases hk : ks.headD 0 with
    | zero => left; simp [ins]
    | succ k => right; simp [List.replicate_succ]
  | cons x l =>
    cases f with
    | zero => unfold lexF at h; cases h
    | succ f =>
      rw [lexF_cons] at h
      by_cases hx : x = 32
      · rw [if_pos hx] at h
        left
        rw [ins_skip p 1 (x :: l) ts ks (fun t ht => lexF_pos _ _ _ _ h t ht), head_take x l _ 1 (by omega)]; rfl
      · rw [if_neg hx] at h
        cases hq : tokT (x :: l) with
        | none => rw [hq] at h; cases h
        | some q =>
          obtain ⟨t0, n⟩ := q
          have hn := tokT_le _ _ _ hq
          rw [hq] at h
          simp only [Option.map_eq_some_iff] at h
          obtain ⟨us, h1, rfl⟩ := h
          have hp : (t0.goto p).pos.toNat = p := by unfold Tk.goto; simp
          unfold ins
          rw [hp, Nat.sub_self, List.take_zero, List.nil_append, List.drop_zero]
          cases hk : ks.headD 0 with
          | zero =>
            left
            rw [List.replicate_zero, List.nil_append, ins_skip p n (x :: l) us ks.tail (fun t ht => lexF_pos _ _ _ _ h1 t ht), head_take x l _ n hn.1]; rfl
          | succ k => right; simp [List.replicate_succ]
/-- BLANKS BETWEEN TOKENS CHANGE NOTHING BUT PLACES. -/
theorem lex_ins : ∀ (f p p' : Nat) (l : List Int) (ts : List Tk) (ks : List Nat), lexF f p l = some ts →
    (lexF (ins p l ts ks).length p' (ins p l ts ks)).map (List.map (Tk.goto · 0)) = some (ts.map (Tk.goto · 0))
  | f, p, p', [], ts, ks, h => by
    have h0 : lexF f p [] = some [Tk.zero.goto p] := by unfold lexF; rfl
    rw [h0] at h; simp only [Option.some.injEq] at h; subst h
    have e : ins p [] [Tk.zero.goto p] ks = List.replicate (ks.headD 0) 32 ++ [] := by unfold ins; simp [ins]
    have e2 : (List.replicate (ks.headD 0) (32 : Int) ++ ([] : List Int)).length = ks.headD 0 + 0 := by simp
    rw [e, e2, lexF_blanks]
    rfl
  | 0, _, _, _ :: _, _, _, h => by unfold lexF at h; cases h
  | f + 1, p, p', x :: l, ts, ks, h => by
    rw [lexF_cons] at h
    by_cases hx : x = 32
    · rw [if_pos hx] at h
      have e : ins p (x :: l) ts ks = x :: ins (p + 1) l ts ks := ins_skip p 1 (x :: l) ts ks (fun t ht => lexF_pos _ _ _ _ h t ht)
      rw [e, List.length_cons, lexF_cons, if_pos hx]
      exact lex_ins f (p + 1) (p' + 1) l ts ks h
    · rw [if_neg hx] at h
      cases hq : tokT (x :: l) with
      | none => rw [hq] at h; cases h
      | some q =>
        obtain ⟨t0, n⟩ := q
        have hn := tokT_le _ _ _ hq
        rw [hq] at h
        simp only [Option.map_eq_some_iff] at h
        obtain ⟨us, h1, rfl⟩ := h
        have hp : (t0.goto p).pos.toNat = p := by unfold Tk.goto; simp
        obtain ⟨B, hB⟩ : ∃ B, ins (p + n) ((x :: l).drop n) us ks.tail = B := ⟨_, rfl⟩
        have e : ins p (x :: l) (t0.goto p :: us) ks = List.replicate (ks.headD 0) 32 ++ ((x :: l).take n ++ B) := by
          conv => lhs; unfold ins
          rw [hp, Nat.sub_self, List.take_zero, List.nil_append, List.drop_zero, ins_skip p n (x :: l) us ks.tail (fun t ht => lexF_pos _ _ _ _ h1 t ht), hB]
        have hal : Alike ((x :: l).drop n) B := by rw [← hB]; exact ins_alike _ _ _ _ _ h1
        have hln : ((x :: l).take n).length = n := by rw [List.length_take]; omega
        have htok : tokT ((x :: l).take n ++ B) = some (t0, n) := by
          have := tokT_alike (a := (x :: l).take n) (b := (x :: l).drop n) (b' := B) (t := t0) hal (by rw [List.take_append_drop, hln]; exact hq)
          rw [hln] at this; exact this
        obtain ⟨m, rfl⟩ : ∃ m, n = m + 1 := ⟨n - 1, by omega⟩
        have hdrop : ((x :: l).take (m + 1) ++ B).drop (m + 1) = B := by
          have := List.drop_left (l₁ := (x :: l).take (m + 1)) (l₂ := B)
          rw [hln] at this; exact this
        rw [e, show (List.replicate (ks.headD 0) (32 : Int) ++ ((x :: l).take (m + 1) ++ B)).length = ks.headD 0 + ((l.take m ++ B).length + 1) from by simp [List.take_succ_cons], lexF_blanks]
        have hc : (x :: l).take (m + 1) ++ B = x :: (l.take m ++ B) := by rw [List.take_succ_cons, List.cons_append]
        rw [hc] at htok hdrop ⊢
        rw [lexF_cons, if_neg hx, htok]
        simp only
        rw [hdrop, lexF_more _ B.length _ B (by simp) (Nat.le_refl _)]
        have ih := lex_ins f (p + (m + 1)) (p' + ks.headD 0 + (m + 1)) ((x :: l).drop (m + 1)) us ks.tail h1
        rw [hB] at ih
        cases hr : lexF B.length (p' + ks.headD 0 + (m + 1)) B with
        | none => rw [hr] at ih; cases ih
        | some vs =>
          rw [hr] at ih
          simp only [Option.map_some, Option.some.injEq] at ih ⊢
          rw [List.map_cons, List.map_cons, ih]
          rfl
end Go.Proofs.YtdapnipodnhpkaaDoor
