/-
  What a law over the signs and the library's errors asks: the variables' facts, a world for the witness.
-/
import Derived.Test.YtdapnipodnhpkaaDoorCards
import Derived.Test.YtdapnipodnhpkaaDoorTie
import Derived.Test.YtdapnipodnhpkaaDoorLexI
import Derived.Test.YtdapnipodnhpkaaDoorPost
import Derived.ProofKit
import Derived.OpenShut
import Derived.Deep.DeepHandedRow
import Derived.Lib.LaidTab
import Derived.Stop.LaidErr
import Derived.Lay
namespace Go.Proofs.YtdapnipodnhpkaaDoor
open Go.ChangeShapes Go.WideShapes Go.ChangeAt Go.RowKit

/-- Texts as a datum. -/
def textData {H : Type} (bs : List (List UInt8)) : DataW H := .agg (bs.map fun b => .lit (.string b))
/-- An array of texts that reads so holds the texts, cell for cell. -/
theorem cells_of_texts {H : Type} {enc : TypeId × Value → H} {P : Program} {w : World} {base : Nat} {sp : Nat → Bool} {held : Bool} {fuel : Nat} {t e : TypeId} {n : Nat} {cs : List Value} {bs : List (List UInt8)} {p : List MemPlace}
    (ht : P.underlying t = some (.array n e)) (he : P.underlying e = some .string) (hce : P.cellsOf e = 1) (hct : P.cellsOf t = n)
    (h : DataW.trod enc P w base sp held fuel t cs = some (textData bs, p)) : cs = bs.map fun b => Value.string ⟨b.toArray⟩ := by
  cases fuel with
  | zero => simp [DataW.trod] at h
  | succ fuel =>
    simp only [DataW.trod, ht, hce, hct, Nat.mul_one] at h
    split at h
    · rename_i hl
      obtain ⟨xs, hm, hx⟩ := Option.map_eq_some_iff.1 h
      have hxs : xs.map (·.1) = bs.map fun b => (DataW.lit (.string b) : DataW H) := by
        have := congrArg Prod.fst hx
        simpa [textData] using this
      have hxl : xs.length = n := by simpa using Lib.mapM_length hm
      have hzl : bs.length = n := by
        have := congrArg List.length hxs
        simp at this
        omega
      apply List.ext_getElem?
      intro i
      by_cases hi : i < n
      · obtain ⟨b, hb, hf⟩ := Lib.mapM_at hm i i (by simp [hi])
        obtain ⟨z, hc, rfl, _⟩ := DataW.trod_string he hf
        have h1 : cs[i]? = some (.string z) := by
          have := congrArg (·[0]?) hc
          simpa [List.getElem?_take, List.getElem?_drop] using this
        have h2 : (xs.map (·.1))[i]? = some (DataW.lit (.string z.data.toList) : DataW H) := by simp [hb]
        rw [hxs] at h2
        simp only [List.getElem?_map, Option.map_eq_some_iff, DataW.lit.injEq, Lit.string.injEq] at h2
        obtain ⟨z', hz', e⟩ := h2
        simp only [h1, List.getElem?_map, hz', Option.map_some, e]
      · rw [List.getElem?_eq_none (by omega), List.getElem?_eq_none (by simp; omega)]
    · cases h
def laidList : List (String × DataW Unit) := [("math/bits.deBruijn32tab", Rows.laid_math_bits_deBruijn32tab), ("math/bits.deBruijn64tab", Rows.laid_math_bits_deBruijn64tab), ("internal/strconv.uint64pow10", Rows.laid_internal_strconv_uint64pow10), ("strconv.ErrRange", Rows.laid_strconv_ErrRange), ("strconv.ErrSyntax", Rows.laid_strconv_ErrSyntax), ("chequer/lex.signs", Rows.laid_chequer_lex_signs)]
theorem gErr : Tryd.prog.globalNamed "strconv.ErrRange" = some 2 := by kernel_rfl
theorem gErr_t : (Tryd.prog.globals[(2 : Nat)]?).map (·.type) = some 61 := by kernel_rfl
theorem gSig : Tryd.prog.globalNamed "chequer/lex.signs" = some 0 := by kernel_rfl
theorem gSig_t : (Tryd.prog.globals[(0 : Nat)]?).map (·.type) = some 64 := by kernel_rfl
theorem cellsErr : Tryd.prog.cellsOf 91 = 1 := by kernel_rfl
theorem cellsStr : Tryd.prog.cellsOf 9 = 1 := by kernel_rfl
theorem cellsSig : Tryd.prog.cellsOf 64 = 15 := by kernel_rfl
theorem star : "*" ++ "errors.errorString" = "*errors.errorString" := by decide
theorem rowErr (u : TypeId) (h : Tryd.prog.typeName? 3 u = some "*errors.errorString") : u = 89 :=
  typeName_ptr_named (nm := "errors.errorString") (by rw [star]; kernel_rfl) (by kernel_rfl) (by decide) u (by rw [star]; exact h)
def sigBytes : List (List UInt8) := [[60, 62], [60, 61], [62, 61], [43], [45], [42], [47], [38], [61], [60], [62], [40], [41], [44], [58]]
theorem sigData : (Rows.laid_chequer_lex_signs : DataW Unit) = textData sigBytes := rfl
theorem sigCells : (sigBytes.map fun b => Value.string ⟨b.toArray⟩) = sigA.toList := rfl
/-- What a row's list gives. -/
theorem tables {W : World} (h : laidMetH Tryd.prog laidList W) : Vars W := by
  have h1 : laidMet Tryd.prog laidList W := h
  have h4 := laidMet.tail (laidMet.tail (laidMet.tail h1))
  constructor
  · obtain ⟨a0, s0, hv0, -, -, -⟩ := laid_sentinel h4 gErr gErr_t Tryd.underlying61 rowErr Tryd.underlying89 Tryd.underlying91 rfl rfl Tryd.underlying9 cellsErr cellsStr
    exact ⟨_, by have h0 := World.var?_cell gErr hv0 0; simpa using h0, Or.inr ⟨_, _, rfl⟩⟩
  · have h6 := laidMet.tail (laidMet.tail h4)
    obtain ⟨ps, ⟨g', t', cs, fuel, p, q, hg', ht', hvar, hd, _, _⟩, _⟩ := h6
    obtain rfl := Option.some.inj (gSig.symm.trans hg')
    obtain rfl := Option.some.inj (gSig_t.symm.trans ht')
    rw [sigData] at hd
    have hc := cells_of_texts Tryd.underlying64 Tryd.underlying9 cellsStr cellsSig hd
    rw [sigCells] at hc
    unfold World.var? at hvar
    rw [gSig] at hvar
    simp only [Option.bind_some] at hvar
    split at hvar
    · rename_i cs' ty fr hh
      injection hvar with hvar
      subst hvar
      have : cs' = sigA := Array.toList_inj.1 hc
      exact ⟨ty, fr, by rw [← this]; exact hh⟩
    · cases hvar
/-- A WORLD FOR THE WITNESS: the settled one, the variables holding what their initialisers lay. -/
noncomputable def laidWorld (os : Os) : World := World.laidAll Tryd.prog os laidList
theorem laid_met0 (os : Os) (args : Array Value) : laidMet Tryd.prog laidList ((laidWorld os).forCall (fun _ _ => 0) ⟨#[], args, []⟩).memory := laidMet_laidAll args (by kernel_rfl) (by kernel_rfl)
end Go.Proofs.YtdapnipodnhpkaaDoor
