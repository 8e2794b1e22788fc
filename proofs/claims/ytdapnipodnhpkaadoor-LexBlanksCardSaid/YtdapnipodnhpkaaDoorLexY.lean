/-
  'chequerlaw4.LexBlanks', every case.
-/
import Derived.Test.YtdapnipodnhpkaaDoorLexX
namespace Go.Proofs.YtdapnipodnhpkaaDoor
open Go.RowKit

set_option maxRecDepth 100000 in
set_option maxHeartbeats 1000000 in
theorem lexBlanks_any (s : ByteArray) (A : Option Addr) (len cap : Nat) (xs : List Int) (w : World) (hv : Vars w) (hx : S8 w w.heap.size A len cap xs) (_hz : s.size ≤ 9223372036854775807) :
    Calls Tryd.prog 4 #[.string s, .slice A len cap] w fun e w' => e = .returned (.bool true) ∧ Below w.heap.size w w' := by
  by_cases h2 : 200 < s.size
  · have HV := Lib.hid hv; clear hv
    have hi : (200 : Int) < (s.size : Int) := by omega
    clear hx
    go_enter Tryd.func4, Tryd.ntmps4
    go_wp2_with (first
      | (go_at_call 7; ((with_reducible refine (lexAwake_any _ HV.out).mono ?_); rintro e w3 ⟨rfl, h1⟩; have HB := Lib.hid h1; clear h1)))
    go_ret
    exact ⟨rfl, HB.out⟩
  · have hi : ¬ (200 : Int) < (s.size : Int) := by omega
    by_cases h6 : 60 < len
    · have HV := Lib.hid hv; clear hv
      have hi2 : (60 : Int) < (len : Int) := by omega
      clear hx
      go_enter Tryd.func4, Tryd.ntmps4
      go_wp2_with (first
        | (go_at_call 7; ((with_reducible refine (lexAwake_any _ HV.out).mono ?_); rintro e w3 ⟨rfl, h1⟩; have HB := Lib.hid h1; clear h1)))
      go_ret
      exact ⟨rfl, HB.out⟩
    · have hi2 : ¬ (60 : Int) < (len : Int) := by omega
      cases hl : lexL (sb s) with
      | some ts => exact blanks_some s A len cap xs w hv hx (by omega) (by omega) ts hl
      | none =>
        have HL := Lib.hid (lex_isnt s w hv (by omega) hl)
        have HV := Lib.hid hv; clear hv hx hl
        go_enter Tryd.func4, Tryd.ntmps4
        go_wp2_with (first
          | (go_at_call 8; ((with_reducible refine HL.out.mono ?_); rintro e w2 ⟨hb, rfl⟩; have HB := Lib.hid hb; clear hb))
          | (go_at_call 10; ((with_reducible refine (num_is _ _).mono ?_); rintro e wn ⟨rfl, rfl⟩))
          | (go_at_call 7; ((with_reducible refine (lexAwake_any _ (HV.out.below HB.out)).mono ?_); rintro e w3 ⟨rfl, h1⟩; have HB := Lib.hid (HB.out.trans (h1.mono HB.out.size)); clear h1)))
        go_ret
        exact ⟨rfl, HB.out⟩
end Go.Proofs.YtdapnipodnhpkaaDoor
