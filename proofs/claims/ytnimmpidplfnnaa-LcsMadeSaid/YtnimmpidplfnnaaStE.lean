/-
  Slices of texts that the call made (parted off).
-/
import Derived.Test.YtnimmpidplfnnaaOwnG
namespace Go.Proofs.Ytnimmpidplfnnaa
open Go.RowKit

/-! Texts. -/
def encStr : Enc ByteArray 1 := { f := fun s => [.string s], len := fun _ => rfl, one := fun _ u hu => by simp at hu; subst hu; rfl }
theorem all_encStr (l : List ByteArray) : encStr.all l = l.map Value.string := by
  unfold Enc.all encStr
  induction l with
  | nil => rfl
  | cons a l ih => rw [List.flatMap_cons, List.map_cons, ih]; rfl
theorem Elem.str : Elem Try.prog 22 9 1 16 := ⟨Try.underlying22, ⟨.string ⟨#[]⟩, by kernel_rfl, rfl⟩, by decide⟩
abbrev OwnT (w : World) (base : Nat) (v : Value) (xs : List ByteArray) : Prop := Own encStr 9 w base v xs
end Go.Proofs.Ytnimmpidplfnnaa
