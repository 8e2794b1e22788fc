/-
  Layer 4, without the program: places rise; a text with blanks put in ahead of tokens, piece by piece.
-/
import Derived.Test.YtdapnipodnhpkaaDoorLexJ
namespace Go.Proofs.YtdapnipodnhpkaaDoor
open Go.RowKit

/-- Places that rise between two. -/
def Ups : Nat → Nat → List Tk → Prop
  | p, q, [] => p ≤ q
  | p, q, t :: ts => ∃ m : Nat, t.pos = (m : Int) ∧ p ≤ m ∧ m ≤ q ∧ Ups m q ts
theorem Ups.less {p p' q : Nat} (h : p' ≤ p) : ∀ {ts : List Tk}, Ups p q ts → Ups p' q ts
  | [], k => Nat.le_trans h k
  | _ :: _, ⟨m, h1, h2, h3, h4⟩ => ⟨m, h1, Nat.le_trans h h2, h3, h4⟩
theorem lexF_ups : ∀ (f p : Nat) (l : List Int) (ts : List Tk), lexF f p l = some ts → Ups p (p + l.length) ts
  | f, p, [], ts, h => by
    have h0 : lexF f p [] = some [Tk.zero.goto p] := by unfold lexF; rfl
    rw [h0] at h; injection h with h; subst h
    exact ⟨p, rfl, Nat.le_refl _, by simp, by simp [Ups]⟩
  | 0, _, _ :: _, _, h => by unfold lexF at h; cases h
  | f + 1, p, x :: l, ts, h => by
    rw [lexF_cons] at h
    by_cases hx : x = 32
    · rw [if_pos hx] at h
      have := lexF_ups f (p + 1) l ts h
      rw [show p + 1 + l.length = p + (x :: l).length by simp only [List.length_cons]; omega] at this
      exact this.less (Nat.le_succ _)
    · rw [if_neg hx] at h
      cases hq : tokT (x :: l) with
      | none => rw [hq] at h; cases h
      | some q =>
        obtain ⟨t0, n⟩ := q
        have hn := tokT_le _ _ _ hq
        rw [hq] at h
        simp only [Option.map_eq_some_iff] at h
        obtain ⟨us, h1, rfl⟩ := h
        have := lexF_ups f (p + n) ((x :: l).drop n) us h1
        rw [show p + n + ((x :: l).drop n).length = p + (x :: l).length by rw [List.length_drop]; omega] at this
        exact ⟨p, rfl, Nat.le_refl _, by omega, this.less (by omega)⟩
theorem lexL_ups (s : ByteArray) (ts : List Tk) (h : lexL (sb s) = some ts) : Ups 0 s.size ts := by
  have := lexF_ups _ _ _ _ h
  rw [Nat.zero_add, length_sb] at this; exact this
theorem lexL_ne (s : ByteArray) (ts : List Tk) (h : lexL (sb s) = some ts) : ts ≠ [] := by
  have key : ∀ (f p : Nat) (l : List Int) (ts : List Tk), lexF f p l = some ts → ts ≠ [] := by
    intro f
    induction f with
    | zero =>
      intro p l ts h
      cases l with
      | nil => have h0 : lexF 0 p [] = some [Tk.zero.goto p] := by unfold lexF; rfl
               rw [h0] at h; injection h with h; subst h; simp
      | cons x l => unfold lexF at h; cases h
    | succ f ih =>
      intro p l ts h
      cases l with
      | nil => have h0 : lexF (f + 1) p [] = some [Tk.zero.goto p] := by unfold lexF; rfl
               rw [h0] at h; injection h with h; subst h; simp
      | cons x l =>
        rw [lexF_cons] at h
        by_cases hx : x = 32
        · rw [if_pos hx] at h; exact ih _ _ _ h
        · rw [if_neg hx] at h
          split at h
          · cases h
          · simp only [Option.map_eq_some_iff] at h
            obtain ⟨us, _, rfl⟩ := h; simp
  exact key _ _ _ _ h
theorem lexL_len (s : ByteArray) (ts : List Tk) (h : lexL (sb s) = some ts) : ts.length ≤ s.size + 1 := by
  have key : ∀ (f p : Nat) (l : List Int) (ts : List Tk), lexF f p l = some ts → ts.length ≤ l.length + 1 := by
    intro f
    induction f with
    | zero =>
      intro p l ts h
      cases l with
      | nil => have h0 : lexF 0 p [] = some [Tk.zero.goto p] := by unfold lexF; rfl
               rw [h0] at h; injection h with h; subst h; simp
      | cons x l => unfold lexF at h; cases h
    | succ f ih =>
      intro p l ts h
      cases l with
      | nil => have h0 : lexF (f + 1) p [] = some [Tk.zero.goto p] := by unfold lexF; rfl
               rw [h0] at h; injection h with h; subst h; simp
      | cons x l =>
        rw [lexF_cons] at h
        by_cases hx : x = 32
        · rw [if_pos hx] at h; have := ih _ _ _ h; simp only [List.length_cons]; omega
        · rw [if_neg hx] at h
          cases hq : tokT (x :: l) with
          | none => rw [hq] at h; cases h
          | some q =>
            obtain ⟨t0, n⟩ := q
            have hn := tokT_le _ _ _ hq
            rw [hq] at h
            simp only [Option.map_eq_some_iff] at h
            obtain ⟨us, h1, rfl⟩ := h
            have := ih _ _ _ h1
            rw [List.length_drop] at this
            simp only [List.length_cons] at this hn ⊢; omega
  have := key _ _ _ _ h
  rw [length_sb] at this; exact this
/-- How many blanks are put in ahead of the tokens. -/
def blanks (xs : List Int) : List Nat := xs.map fun x => (x % 3).toNat
theorem blanks_at (xs : List Int) (i : Nat) : ((blanks xs).drop i).headD 0 = if i < xs.length then (xs.getD i 0 % 3).toNat else 0 := by
  unfold blanks
  by_cases h : i < xs.length
  · rw [if_pos h, List.drop_eq_getElem_cons (by rw [List.length_map]; exact h), List.getD_eq_getElem?_getD, List.getElem?_eq_getElem h]
    simp
  · rw [if_neg h, List.drop_eq_nil_of_le (by rw [List.length_map]; omega)]; rfl
/-- The text so far, and what is still to be put behind it. -/
def Piece (s : ByteArray) (ts : List Tk) (xs : List Int) (i last : Nat) (l : List Int) : Prop := ins 0 (sb s) ts (blanks xs) = l ++ ins last (restL s last) (ts.drop i) ((blanks xs).drop i)
theorem piece_start (s : ByteArray) (ts : List Tk) (xs : List Int) : Piece s ts xs 0 0 [] := by unfold Piece restL; simp
theorem piece_next {s : ByteArray} {ts : List Tk} {xs : List Int} {i last m : Nat} {l : List Int} {t : Tk} (h : Piece s ts xs i last l) (ht : ts[i]? = some t) (hp : t.pos = (m : Int)) (h1 : last ≤ m) (_h2 : m ≤ s.size) :
    Piece s ts xs (i + 1) m (l ++ sb (s.extract last m) ++ List.replicate (if i < xs.length then (xs.getD i 0 % 3).toNat else 0) 32) := by
  unfold Piece at h ⊢
  have hlt := (List.getElem?_eq_some_iff.1 ht).1
  have hd : ts.drop i = t :: ts.drop (i + 1) := by
    rw [List.drop_eq_getElem_cons hlt]
    rw [List.getElem?_eq_getElem hlt] at ht
    rw [Option.some.inj ht]
  have hm : t.pos.toNat = m := by omega
  have hk : ((blanks xs).drop i).tail = (blanks xs).drop (i + 1) := by rw [List.tail_drop]
  have hc : (restL s last).take (m - last) = sb (s.extract last m) := by
    have := ext_sbL s last (m - last)
    rw [show last + (m - last) = m from by omega] at this
    rw [this]; rfl
  rw [h, hd]
  conv => lhs; unfold ins
  rw [hm, hk, hc, restL_drop, show last + (m - last) = m from by omega, blanks_at]
  simp [List.append_assoc]
theorem piece_end {s : ByteArray} {ts : List Tk} {xs : List Int} {last : Nat} {l : List Int} (h : Piece s ts xs ts.length last l) : ins 0 (sb s) ts (blanks xs) = l ++ restL s last := by
  unfold Piece at h
  rw [h, List.drop_length]; unfold ins; rfl
theorem restL_ext (s : ByteArray) (k : Nat) (h : k ≤ s.size) : sb (s.extract k s.size) = restL s k := by
  have := ext_sbL s k (s.size - k)
  rw [show k + (s.size - k) = s.size from by omega] at this
  rw [this]; unfold restL; rw [List.take_of_length_le]; rw [List.length_drop, length_sb]; omega
/-- The tokens of the text with the blanks: the same but for places. -/
theorem lex_blanks {s T : ByteArray} {ts : List Tk} {xs : List Int} (h : lexL (sb s) = some ts) (hT : sb T = ins 0 (sb s) ts (blanks xs)) : ∃ us, lexL (sb T) = some us ∧ us.map (Tk.goto · 0) = ts.map (Tk.goto · 0) := by
  have := lex_ins _ 0 0 _ _ (blanks xs) h
  rw [← hT] at this
  unfold lexL
  cases hq : lexF (sb T).length 0 (sb T) with
  | none => rw [hq] at this; cases this
  | some us => rw [hq] at this; exact ⟨us, rfl, Option.some.inj this⟩
theorem Ups.at {q : Nat} : ∀ {p : Nat} {ts : List Tk}, Ups p q ts → ∀ (i : Nat) (t : Tk), ts[i]? = some t → ∃ m : Nat, t.pos = (m : Int) ∧ m ≤ q
  | _, [], _, i, t, h => by simp at h
  | _, a :: ts, ⟨m, h1, _, h3, h4⟩, 0, t, h => by simp at h; subst h; exact ⟨m, h1, h3⟩
  | _, a :: ts, ⟨m, _, _, _, h4⟩, i + 1, t, h => Ups.at h4 i t (by simpa using h)
theorem Ups.drop {q : Nat} : ∀ {p : Nat} {ts : List Tk}, Ups p q ts → ∀ (i : Nat) (t : Tk) (m : Nat), ts[i]? = some t → t.pos = (m : Int) → Ups m q (ts.drop (i + 1))
  | _, [], _, i, t, _, h, _ => by simp at h
  | _, a :: ts, ⟨m, h1, _, h3, h4⟩, 0, t, k, h, hk => by
    simp at h; subst h
    rw [show m = k from by omega] at h4
    exact h4
  | _, a :: ts, ⟨m, _, _, _, h4⟩, i + 1, t, k, h, hk => by
    have := Ups.drop h4 i t k (by simpa using h) hk
    simpa using this
end Go.Proofs.YtdapnipodnhpkaaDoor
