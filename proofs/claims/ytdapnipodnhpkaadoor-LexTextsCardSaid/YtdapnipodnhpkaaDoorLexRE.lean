/-
  Layer 4, the reference: signs.
-/
import Derived.Test.YtdapnipodnhpkaaDoorLexRA
import Derived.Test.YtdapnipodnhpkaaDoorLexH
namespace Go.Proofs.YtdapnipodnhpkaaDoor
open Go.RowKit

/-- The sign that stands at a place, or none. -/
def signS (s : ByteArray) (k : Nat) : ByteArray := strOfNums ((restL s k).take (signN (restL s k)))
theorem extract_sb (s E : ByteArray) (k m : Nat) (h : (restL s k).take m = sb E) : s.extract k (k + m) = E := by rw [restL_cut, h, str_sb]
theorem rest_two (s : ByteArray) (k : Nat) (h : k + 1 < s.size) : (restL s k).take 2 = [((s[k].toNat : Nat) : Int), ((s[k + 1].toNat : Nat) : Int)] := by
  rw [restL_cons s k (by omega), restL_cons s (k + 1) h]; rfl
theorem rest_one (s : ByteArray) (k : Nat) (h : k < s.size) : (restL s k).take 1 = [((s[k].toNat : Nat) : Int)] := by
  rw [restL_cons s k h]; rfl
abbrev twoL (x y : Int) : Prop := (x = 60 ∧ (y = 62 ∨ y = 61)) ∨ (x = 62 ∧ y = 61)
abbrev oneL (x : Int) : Prop := x = 43 ∨ x = 45 ∨ x = 42 ∨ x = 47 ∨ x = 38 ∨ x = 61 ∨ x = 60 ∨ x = 62 ∨ x = 40 ∨ x = 41 ∨ x = 44 ∨ x = 58
theorem rest_head (s : ByteArray) (k : Nat) (h : k + 1 < s.size) : (restL s (k + 1)).head? = some ((s[k + 1].toNat : Nat) : Int) := by rw [restL_cons s (k + 1) h]; rfl
theorem sign_two {s : ByteArray} {k : Nat} {x y : Int} (h : k + 1 < s.size) (hx : ((s[k].toNat : Nat) : Int) = x) (hy : ((s[k + 1].toNat : Nat) : Int) = y) (h2 : twoL x y) : signS s k = s.extract k (k + 2) := by
  unfold signS
  have hn : signN (restL s k) = 2 := by
    rw [restL_cons s k (by omega), signN_cons, rest_head s k h, hx, hy, if_pos]
    rcases h2 with ⟨h1, h2 | h2⟩ | ⟨h1, h2⟩
    · exact .inl ⟨h1, .inl (by rw [h2])⟩
    · exact .inl ⟨h1, .inr (by rw [h2])⟩
    · exact .inr ⟨h1, by rw [h2]⟩
  rw [hn, ← restL_cut]
theorem sign_not2 {s : ByteArray} {k : Nat} {x : Int} (hk : k < s.size) (hx : ((s[k].toNat : Nat) : Int) = x) (h2 : ∀ h : k + 1 < s.size, ¬ twoL x ((s[k + 1].toNat : Nat) : Int)) :
    signN (restL s k) = if oneL x then 1 else 0 := by
  rw [restL_cons s k hk, signN_cons, hx, if_neg]
  intro h
  by_cases h1 : k + 1 < s.size
  · rw [rest_head s k h1] at h
    simp only [Option.some.injEq] at h
    exact h2 h1 h
  · rw [restL_nil s (k + 1) (by omega)] at h; simp at h
theorem sign_one {s : ByteArray} {k : Nat} {x : Int} (hk : k < s.size) (hx : ((s[k].toNat : Nat) : Int) = x) (h2 : ∀ h : k + 1 < s.size, ¬ twoL x ((s[k + 1].toNat : Nat) : Int)) (h1 : oneL x) : signS s k = s.extract k (k + 1) := by
  unfold signS; rw [sign_not2 hk hx h2, if_pos h1, ← restL_cut]
theorem sign_zero {s : ByteArray} {k : Nat} {x : Int} (hk : k < s.size) (hx : ((s[k].toNat : Nat) : Int) = x) (h2 : ∀ h : k + 1 < s.size, ¬ twoL x ((s[k + 1].toNat : Nat) : Int)) (h1 : ¬ oneL x) : signS s k = ⟨#[]⟩ := by
  unfold signS; rw [sign_not2 hk hx h2, if_neg h1, List.take_zero]; rfl
theorem ret_text {a b : ByteArray} (h : a = b) : Ending.returned (.string a) = .returned (.string b) := by rw [h]

set_option maxRecDepth 100000 in
set_option maxHeartbeats 4000000 in
theorem refSign_last (s : ByteArray) (k : Nat) (w : World) (_hs : s.size ≤ 1000000) (_hk : k < s.size) (hl : s.size ≤ k + 1) :
    Calls Tryd.prog 26 #[.string s, .int .i64 (k : Int)] w fun e w' => e = .returned (.string (signS s k)) ∧ w = w' := by
  obtain ⟨x, hx⟩ : ∃ x : Int, (s[k].toNat : Int) = x := ⟨_, rfl⟩
  have hx1 : 0 ≤ x ∧ x ≤ 255 := by have := s[k].toNat_lt; omega
  have H1 := Lib.hid (fun h1 => sign_one _hk hx (fun h => by omega) h1)
  have H0 := Lib.hid (fun h1 => sign_zero _hk hx (fun h => by omega) h1)
  have hi1 : ¬ (k : Int) + 1 < (s.size : Int) := by omega
  have hi2 : (k : Int) < (s.size : Int) := by omega
  have hi3 : (k : Int) + 1 ≤ (s.size : Int) := by omega
  go_enter Tryd.func26, Tryd.ntmps26
  go_wp2_with fail
  all_goals go_ret
  all_goals first
    | exact ⟨ret_text (H1.out (by simp only [beq_iff_eq, beq_eq_false_iff_ne, ne_eq] at *; unfold oneL; omega)).symm, rfl⟩
    | exact ⟨ret_text (H0.out (by simp only [beq_eq_false_iff_ne, ne_eq] at *; unfold oneL; omega)).symm, rfl⟩

set_option maxRecDepth 100000 in
set_option maxHeartbeats 4000000 in
theorem refSign_not2 (s : ByteArray) (k : Nat) (w : World) (_hs : s.size ≤ 1000000) (_hk : k < s.size) (hl : k + 1 < s.size) (h2 : ∀ h : k + 1 < s.size, ¬ twoL ((s[k].toNat : Nat) : Int) ((s[k + 1].toNat : Nat) : Int)) :
    Calls Tryd.prog 26 #[.string s, .int .i64 (k : Int)] w fun e w' => e = .returned (.string (signS s k)) ∧ w = w' := by
  obtain ⟨x, hx⟩ : ∃ x : Int, (s[k].toNat : Int) = x := ⟨_, rfl⟩
  have hx1 : 0 ≤ x ∧ x ≤ 255 := by have := s[k].toNat_lt; omega
  have h2' : ∀ h : k + 1 < s.size, ¬ twoL x ((s[k + 1].toNat : Nat) : Int) := by rw [← hx]; exact h2
  have H1 := Lib.hid (fun h1 => sign_one _hk hx h2' h1)
  have H0 := Lib.hid (fun h1 => sign_zero _hk hx h2' h1)
  have hE := rest_two s k hl
  have n1 : ¬ (s.extract k (k + 2)).toList = [60, 62] := fun h => by
    have e : s.extract k (k + 2) = ⟨#[60, 62]⟩ := by rw [list_bytes] at h; exact congrArg ByteArray.mk (Array.toList_inj.1 h)
    have e2 := ext_sbL s k 2
    rw [e] at e2
    rw [show (sb s).drop k = restL s k from rfl, hE] at e2
    exact h2 hl (.inl ⟨by simpa [sb] using (congrArg (·.head?) e2).symm, .inl (by simpa [sb] using (congrArg (·.tail.head?) e2).symm)⟩)
  have n2 : ¬ (s.extract k (k + 2)).toList = [60, 61] := fun h => by
    have e : s.extract k (k + 2) = ⟨#[60, 61]⟩ := by rw [list_bytes] at h; exact congrArg ByteArray.mk (Array.toList_inj.1 h)
    have e2 := ext_sbL s k 2
    rw [e] at e2
    rw [show (sb s).drop k = restL s k from rfl, hE] at e2
    exact h2 hl (.inl ⟨by simpa [sb] using (congrArg (·.head?) e2).symm, .inr (by simpa [sb] using (congrArg (·.tail.head?) e2).symm)⟩)
  have n3 : ¬ (s.extract k (k + 2)).toList = [62, 61] := fun h => by
    have e : s.extract k (k + 2) = ⟨#[62, 61]⟩ := by rw [list_bytes] at h; exact congrArg ByteArray.mk (Array.toList_inj.1 h)
    have e2 := ext_sbL s k 2
    rw [e] at e2
    rw [show (sb s).drop k = restL s k from rfl, hE] at e2
    exact h2 hl (.inr ⟨by simpa [sb] using (congrArg (·.head?) e2).symm, by simpa [sb] using (congrArg (·.tail.head?) e2).symm⟩)
  have hi1 : (k : Int) + 1 < (s.size : Int) := by omega
  have hi2 : (k : Int) < (s.size : Int) := by omega
  have hi3 : (k : Int) + 1 ≤ (s.size : Int) := by omega
  have hi4 : (k : Int) + 2 ≤ (s.size : Int) := by omega
  have b1 := beq_eq_false_iff_ne.2 n1
  have b2 := beq_eq_false_iff_ne.2 n2
  have b3 := beq_eq_false_iff_ne.2 n3
  clear hE h2 h2' n1 n2 n3
  go_enter Tryd.func26, Tryd.ntmps26
  go_wp2_with fail
  all_goals go_ret
  all_goals first
    | exact ⟨ret_text (H1.out (by simp only [beq_iff_eq, beq_eq_false_iff_ne, ne_eq] at *; unfold oneL; omega)).symm, rfl⟩
    | exact ⟨ret_text (H0.out (by simp only [beq_eq_false_iff_ne, ne_eq] at *; unfold oneL; omega)).symm, rfl⟩

set_option maxRecDepth 100000 in
set_option maxHeartbeats 4000000 in
theorem refSign_is2 (s E : ByteArray) (k : Nat) (w : World) (_hs : s.size ≤ 1000000) (hl : k + 1 < s.size) (hE : s.extract k (k + 2) = E) (hq : signS s k = E) (h : E = ⟨#[60, 62]⟩ ∨ E = ⟨#[60, 61]⟩ ∨ E = ⟨#[62, 61]⟩) :
    Calls Tryd.prog 26 #[.string s, .int .i64 (k : Int)] w fun e w' => e = .returned (.string (signS s k)) ∧ w = w' := by
  have HQ := Lib.hid hq
  have hi1 : (k : Int) + 1 < (s.size : Int) := by omega
  have hi2 : (k : Int) < (s.size : Int) := by omega
  have hi4 : (k : Int) + 2 ≤ (s.size : Int) := by omega
  clear hq
  rcases h with rfl | rfl | rfl
  all_goals
    go_enter Tryd.func26, Tryd.ntmps26
    go_wp2_with fail
    go_ret
    exact ⟨ret_text (by rw [hE]; exact HQ.out.symm), rfl⟩
theorem refSign_any (s : ByteArray) (k : Nat) (w : World) (_hs : s.size ≤ 1000000) (_hk : k < s.size) :
    Calls Tryd.prog 26 #[.string s, .int .i64 (k : Int)] w fun e w' => e = .returned (.string (signS s k)) ∧ w = w' := by
  by_cases hl : k + 1 < s.size
  · by_cases h2 : twoL ((s[k].toNat : Nat) : Int) ((s[k + 1].toNat : Nat) : Int)
    · have hq := sign_two hl rfl rfl h2
      refine refSign_is2 s _ k w _hs hl rfl hq ?_
      have hE := rest_two s k hl
      rcases h2 with ⟨h1, h2 | h2⟩ | ⟨h1, h2⟩
      · exact .inl (extract_sb s ⟨#[60, 62]⟩ k 2 (by rw [hE, h1, h2]; decide))
      · exact .inr (.inl (extract_sb s ⟨#[60, 61]⟩ k 2 (by rw [hE, h1, h2]; decide)))
      · exact .inr (.inr (extract_sb s ⟨#[62, 61]⟩ k 2 (by rw [hE, h1, h2]; decide)))
    · exact refSign_not2 s k w _hs _hk hl (fun _ => h2)
  · exact refSign_last s k w _hs _hk (by omega)
end Go.Proofs.YtdapnipodnhpkaaDoor
