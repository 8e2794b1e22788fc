/-
  The reference's message, padded: plain lemmas.
-/
import Derived.Test.YtlghholonjmeaaaDoorShaM
namespace Go.Proofs.YtlghholonjmeaaaDoor
open Go.RowKit

/-- A number's bytes, so many from the highest on. -/
def be8 (n : Int) : Nat → List Int
  | 0 => []
  | k + 1 => be8 n k ++ [n / 2 ^ (8 * (7 - k)) % 256]
theorem length_be8 (n : Int) (k : Nat) : (be8 n k).length = k := by
  induction k with
  | zero => rfl
  | succ k ih => simp [be8, ih]
theorem be8_is (n : Int) (h0 : 0 ≤ n) (h1 : n ≤ 18446744073709551615) : be8 n 8 = be4 (n / 4294967296 % 4294967296) ++ be4 (n % 4294967296) := by
  have e : be8 n 8 = [n / 72057594037927936 % 256, n / 281474976710656 % 256, n / 1099511627776 % 256, n / 4294967296 % 256, n / 16777216 % 256, n / 65536 % 256, n / 256 % 256, n / 1 % 256] := rfl
  rw [e]
  unfold be4
  show _ = [_, _, _, _, _, _, _, _]
  congr 1
  · omega
  · congr 1
    · omega
    · congr 1
      · omega
      · congr 1
        · omega
        · congr 1
          · omega
          · congr 1
            · omega
            · congr 1
              · omega
              · congr 1
                omega
/-- The message with its end. -/
def padded (m : List Int) : List Int := m ++ [128] ++ List.replicate (padZeros m.length) 0 ++ be8 ((m.length : Int) * 8) 8
theorem length_padded (m : List Int) : (padded m).length = m.length + 1 + padZeros m.length + 8 := by
  unfold padded; simp [length_be8]; omega
theorem padded_64 (m : List Int) : (padded m).length % 64 = 0 := by
  rw [length_padded]; unfold padZeros; omega
theorem padZeros_mod (n : Nat) : padZeros (n % 64) = padZeros n := by unfold padZeros; omega
theorem padded_sum (m : List Int) (hm : m.length ≤ 1000000) : stText (comps iv (fn (padded m)) ((padded m).length / 64)) = shaL m := by
  unfold shaL
  have hl : (m.length : Int) * 8 ≤ 18446744073709551615 := by omega
  have hw : IntKind.u64.wrap ((m.length : Int) * 8) = (m.length : Int) * 8 := by rw [IntKind.wrap_u64]; omega
  have e1 : padded m = m.take (64 * (m.length / 64)) ++ endBytes (leftOf m) m.length := by
    unfold endBytes padded
    rw [hw, length_leftOf, padZeros_mod, be8_is _ (by omega) hl]
    have : m = m.take (64 * (m.length / 64)) ++ leftOf m := (List.take_append_drop _ _).symm
    conv => lhs; rw [this]
    simp only [List.append_assoc, List.length_append]
    have hle : (List.take (64 * (m.length / 64)) m).length + (leftOf m).length = m.length := by rw [← List.length_append, ← this]
    rw [hle]
  have hlt : (m.take (64 * (m.length / 64))).length = 64 * (m.length / 64) := by rw [List.length_take]; omega
  have e2 : (padded m).length / 64 = m.length / 64 + (endBytes (leftOf m) m.length).length / 64 := by
    rw [e1, List.length_append, hlt]; omega
  rw [e2, e1, comps_append _ _ _ _ _ hlt]
  have hc : comps iv (fn (m.take (64 * (m.length / 64)))) (m.length / 64) = comps iv (fn m) (m.length / 64) := by
    have h : fn m = fn (m.take (64 * (m.length / 64)) ++ leftOf m) := by unfold leftOf; rw [List.take_append_drop]
    rw [h]
    exact comps_congr _ _ _ _ (fun j hj => (fn_left _ _ _ (by rw [hlt]; exact hj)).symm)
  rw [hc]
end Go.Proofs.YtlghholonjmeaaaDoor
