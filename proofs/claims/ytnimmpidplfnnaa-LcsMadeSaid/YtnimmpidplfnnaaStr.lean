/-
  Texts as lists of numbers: plain lemmas for every layer.
-/
import Derived.Test.YtnimmpidplfnnaaOwnG
namespace Go.Proofs.Ytnimmpidplfnnaa
open Go.RowKit

theorem ret_int {k : IntKind} {a b : Int} (h : a = b) : Ending.returned (.int k a) = .returned (.int k b) := by rw [h]
theorem ret_pair {a b : ByteArray} {p q : Bool} (h : a = b) (h2 : p = q) : Ending.returned (.tuple #[.string a, .bool p]) = .returned (.tuple #[.string b, .bool q]) := by rw [h, h2]
/-- A text's bytes, as numbers. -/
def sb (s : ByteArray) : List Int := s.data.toList.map (fun b => (b.toNat : Int))
theorem length_sb (s : ByteArray) : (sb s).length = s.size := by unfold sb; simp
theorem sb_at (s : ByteArray) (k : Nat) (h : k < s.size) : (sb s)[k]? = some ((s[k].toNat : Nat) : Int) := by
  unfold sb; rw [List.getElem?_map, List.getElem?_eq_getElem (by simpa using h)]; rfl
theorem sb_take (s : ByteArray) (k : Nat) (h : k < s.size) : (sb s).take (k + 1) = (sb s).take k ++ [((s[k].toNat : Nat) : Int)] := by
  rw [List.take_add_one, sb_at s k h]; rfl
theorem sb_bd (s : ByteArray) : ∀ a ∈ sb s, 0 ≤ a ∧ a ≤ 255 := by
  intro a ha; unfold sb at ha; rw [List.mem_map] at ha; obtain ⟨b, _, rfl⟩ := ha
  have := b.toNat_lt; omega

theorem sb_getD (s : ByteArray) (k : Nat) (h : k < s.size) : (sb s).getD k 0 = ((s[k].toNat : Nat) : Int) := by
  rw [List.getD_eq_getElem?_getD, sb_at s k h]; rfl
def Bytes (l : List Int) : Prop := ∀ a ∈ l, 0 ≤ a ∧ a ≤ 255
theorem Bytes.append {a b : List Int} (h : Bytes a) (k : Bytes b) : Bytes (a ++ b) := by
  intro x hx; rw [List.mem_append] at hx; rcases hx with hx | hx
  · exact h x hx
  · exact k x hx
theorem Bytes.nil : Bytes [] := by intro a ha; simp at ha
theorem sb_str (l : List Int) (h : Bytes l) : sb (strOfNums l) = l := by
  unfold sb
  rw [strOfNums_data, List.map_map]
  conv => rhs; rw [← List.map_id l]
  apply List.map_congr_left
  intro a ha
  have := h a ha
  simp only [Function.comp, id]
  rw [UInt8.toNat_ofNat_of_lt' (by show a.toNat < 256; omega)]; omega
theorem str_sb (s : ByteArray) : strOfNums (sb s) = s := by
  have : (strOfNums (sb s)).data = s.data := by
    apply Array.toList_inj.1
    rw [strOfNums_data]
    unfold sb
    rw [List.map_map]
    conv => rhs; rw [← List.map_id s.data.toList]
    apply List.map_congr_left
    intro a _
    simp only [Function.comp, id, Int.toNat_natCast]
    exact UInt8.ofNat_toNat
  cases s with
  | mk d => 
    cases hq : strOfNums (sb ⟨d⟩) with
    | mk e => rw [hq] at this; simp only at this; rw [this]
end Go.Proofs.Ytnimmpidplfnnaa
