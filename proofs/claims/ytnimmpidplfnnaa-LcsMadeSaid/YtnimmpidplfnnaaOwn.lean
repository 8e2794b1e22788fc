/-
  Slices of bytes that the call itself makes.
-/
import Derived.Test.YtnimmpidplfnnaaOwnG
namespace Go.Proofs.Ytnimmpidplfnnaa
open Go.RowKit

theorem Elem.u8 : Elem Try.prog 31 5 1 1 := ⟨Try.underlying31, ⟨.int .u8 0, by kernel_rfl, rfl⟩, by decide⟩
abbrev Own8 (w : World) (base : Nat) (v : Value) (xs : List Int) : Prop := Own (encInt .u8) 5 w base v xs
/-- 'string(v)', v of the call's own making. -/
theorem run_str8 {w : World} {base : Nat} {v : Value} {xs : List Int} (h : Own8 w base v xs) : (convert 31 9 v).run Try.prog w = .ok (.string (strOfNums xs)) w := by
  rcases h.shape with ⟨rfl, rfl⟩ | ⟨g, cap, rfl, h1, h2, h3, h4⟩
  · rw [run_convert_bytes_nil w _ 5 Try.underlying31 Try.underlying5 _ _ _ Try.underlying9]; rfl
  · refine run_convert_bytes_arg w _ 5 Try.underlying31 Try.underlying5 g 0 _ cap xs rfl (fun i hi => ?_) _ Try.underlying9
    rw [Nat.zero_add]; exact h.intCell i hi
end Go.Proofs.Ytnimmpidplfnnaa
