/-
  The sum of a message, by its blocks: plain lemmas on lists.
-/
import Derived.Test.YtlghholonjmeaaaDoorShaE
namespace Go.Proofs.YtlghholonjmeaaaDoor
open Go.RowKit

/-- The places of a list. -/
def fn (l : List Int) (j : Nat) : Int := l.getD j 0
theorem fn_left (a b : List Int) (j : Nat) (h : j < a.length) : fn (a ++ b) j = fn a j := by
  unfold fn; rw [List.getD_eq_getElem?_getD, List.getElem?_append_left h, List.getD_eq_getElem?_getD]
theorem fn_right (a b : List Int) (j : Nat) : fn (a ++ b) (a.length + j) = fn b j := by
  unfold fn; rw [List.getD_eq_getElem?_getD, List.getElem?_append_right (by omega), Nat.add_sub_cancel_left, List.getD_eq_getElem?_getD]

theorem sched_congr (x z : Nat → Int) (h : ∀ j, j < 64 → x j = z j) (k : Nat) : sched x k = sched z k := by
  induction k with
  | zero => rfl
  | succ k ih =>
    rw [sched, sched, ih]
    by_cases hk : k < 16
    · rw [if_pos hk, if_pos hk]
      unfold wword
      rw [h _ (by omega), h _ (by omega), h _ (by omega), h _ (by omega)]
    · rw [if_neg hk, if_neg hk]
theorem comp_congr (s : List Int) (x z : Nat → Int) (h : ∀ j, j < 64 → x j = z j) : comp s x = comp s z := by
  unfold comp; rw [sched_congr x z h]
theorem comps_congr (s : List Int) (x z : Nat → Int) (n : Nat) (h : ∀ j, j < 64 * n → x j = z j) : comps s x n = comps s z n := by
  induction n with
  | zero => rw [comps, comps]
  | succ n ih =>
    rw [comps, comps, ih (fun j hj => h j (by omega))]
    exact comp_congr _ _ _ (fun j hj => h _ (by omega))
theorem comps_add (s : List Int) (y : Nat → Int) (n r : Nat) : comps s y (n + r) = comps (comps s y n) (fun j => y (64 * n + j)) r := by
  induction r with
  | zero => rw [Nat.add_zero, comps]
  | succ r ih =>
    have e : n + (r + 1) = (n + r) + 1 := by omega
    rw [e, comps, ih, comps]
    congr 1
    funext j
    congr 1
    omega
theorem comps_append (s a b : List Int) (q r : Nat) (h : a.length = 64 * q) : comps s (fn (a ++ b)) (q + r) = comps (comps s (fn a) q) (fn b) r := by
  rw [comps_add]
  rw [comps_congr s (fn (a ++ b)) (fn a) q (fun j hj => fn_left a b j (by omega))]
  congr 1
  funext j
  rw [← h]; exact fn_right a b j

def iv : List Int := [1779033703, 3144134277, 1013904242, 2773480762, 1359893119, 2600822924, 528734635, 1541459225]
theorem iv_bd : ∀ a ∈ iv, W32 a := by unfold iv W32; decide
/-- What a message of so many bytes is left with behind whole blocks. -/
def leftOf (m : List Int) : List Int := m.drop (64 * (m.length / 64))
theorem length_leftOf (m : List Int) : (leftOf m).length = m.length % 64 := by unfold leftOf; rw [List.length_drop]; omega
/-- SHA-256. -/
def shaL (m : List Int) : List Int := stText (comps (comps iv (fn m) (m.length / 64)) (fn (endBytes (leftOf m) m.length)) ((endBytes (leftOf m) m.length).length / 64))
/-- The state of a Hash to which m was written. -/
def stOf (m : List Int) : List Int := comps iv (fn m) (m.length / 64)
theorem stOf_append (a b : List Int) (h : a.length % 64 = 0) : stOf (a ++ b) = comps (stOf a) (fn b) (b.length / 64) := by
  unfold stOf
  have e : (a ++ b).length / 64 = a.length / 64 + b.length / 64 := by rw [List.length_append]; omega
  rw [e]; exact comps_append iv a b _ _ (by omega)
theorem leftOf_append (a b : List Int) (h : a.length % 64 = 0) : leftOf (a ++ b) = leftOf b := by
  unfold leftOf
  have e : 64 * ((a ++ b).length / 64) = a.length + 64 * (b.length / 64) := by rw [List.length_append]; omega
  rw [e, List.drop_append]
  rw [List.drop_eq_nil_of_le (by omega), List.nil_append, Nat.add_sub_cancel_left]
theorem leftOf_short (m : List Int) (h : m.length < 64) : leftOf m = m := by
  unfold leftOf; rw [Nat.div_eq_of_lt h]; rfl
theorem stOf_short (m : List Int) (h : m.length < 64) : stOf m = iv := by
  unfold stOf; rw [Nat.div_eq_of_lt h, comps]
/-- Bytes that do not fill the block. -/
theorem stOf_more (m ys : List Int) (h : m.length % 64 + ys.length < 64) : stOf (m ++ ys) = stOf m := by
  unfold stOf
  have e : (m ++ ys).length / 64 = m.length / 64 := by rw [List.length_append]; omega
  rw [e]; exact comps_congr _ _ _ _ (fun j hj => fn_left m ys j (by omega))
theorem leftOf_more (m ys : List Int) (h : m.length % 64 + ys.length < 64) : leftOf (m ++ ys) = leftOf m ++ ys := by
  unfold leftOf
  have e : (m ++ ys).length / 64 = m.length / 64 := by rw [List.length_append]; omega
  rw [e, List.drop_append]
  have : 64 * (m.length / 64) - m.length = 0 := by omega
  rw [this]; rfl
theorem length_stOf (m : List Int) : (stOf m).length = 8 := length_comps _ _ rfl _
theorem stOf_bd (m : List Int) : ∀ a ∈ stOf m, W32 a := comps_bd _ _ iv_bd _
/-- A block that is filled. -/
theorem stOf_full (m ys : List Int) (h : m.length % 64 + ys.length = 64) : stOf (m ++ ys) = comps (stOf m) (fn (leftOf m ++ ys)) 1 := by
  have hm : m = m.take (64 * (m.length / 64)) ++ leftOf m := (List.take_append_drop _ _).symm
  have hl : (m.take (64 * (m.length / 64))).length = 64 * (m.length / 64) := by rw [List.length_take]; omega
  have e1 : stOf m = stOf (m.take (64 * (m.length / 64))) := by
    conv => lhs; rw [hm]
    exact stOf_more _ _ (by rw [hl, length_leftOf]; omega)
  conv => lhs; rw [hm]
  rw [List.append_assoc, stOf_append _ _ (by rw [hl]; omega), e1]
  congr 1
  rw [List.length_append, length_leftOf]; omega
end Go.Proofs.YtlghholonjmeaaaDoor
