/-
  What a law over strconv's tables and the errors' texts asks: the variables' facts, a world for the witness.
-/
import Derived.Test.YtolhmemiknpeaaaGreatDoorCards
import Derived.Test.YtolhmemiknpeaaaGreatDoorTie
import Derived.Test.YtolhmemiknpeaaaGreatDoorVaH
import Derived.Test.YtolhmemiknpeaaaGreatDoorPost
import Derived.ProofKit
import Derived.OpenShut
import Derived.Deep.DeepHandedRow
import Derived.Lib.LaidTab
import Derived.Stop.LaidErr
import Derived.Lay
namespace Go.Proofs.YtolhmemiknpeaaaGreatDoor
open Go.ChangeShapes Go.WideShapes Go.ChangeAt Go.RowKit

/-- Texts as a datum. -/
def textData {H : Type} (bs : List (List UInt8)) : DataW H := .agg (bs.map fun b => .lit (.string b))
/-- An array of texts that reads so holds the texts, cell for cell. -/
theorem cells_of_texts {H : Type} {enc : TypeId × Value → H} {P : Program} {w : World} {base : Nat} {sp : Nat → Bool} {held : Bool} {fuel : Nat} {t e : TypeId} {n : Nat} {cs : List Value} {bs : List (List UInt8)} {p : List MemPlace}
    (ht : P.underlying t = some (.array n e)) (he : P.underlying e = some .string) (hce : P.cellsOf e = 1) (hct : P.cellsOf t = n)
    (h : DataW.trod enc P w base sp held fuel t cs = some (textData bs, p)) : cs = bs.map fun b => Value.string ⟨b.toArray⟩ := by
  cases fuel with
  | zero => simp [DataW.trod] at h
  | succ fuel =>
    simp only [DataW.trod, ht, hce, hct, Nat.mul_one] at h
    split at h
    · rename_i hl
      obtain ⟨xs, hm, hx⟩ := Option.map_eq_some_iff.1 h
      have hxs : xs.map (·.1) = bs.map fun b => (DataW.lit (.string b) : DataW H) := by
        have := congrArg Prod.fst hx
        simpa [textData] using this
      have hxl : xs.length = n := by simpa using Lib.mapM_length hm
      have hzl : bs.length = n := by
        have := congrArg List.length hxs
        simp at this
        omega
      apply List.ext_getElem?
      intro i
      by_cases hi : i < n
      · obtain ⟨b, hb, hf⟩ := Lib.mapM_at hm i i (by simp [hi])
        obtain ⟨z, hc, rfl, _⟩ := DataW.trod_string he hf
        have h1 : cs[i]? = some (.string z) := by
          have := congrArg (·[0]?) hc
          simpa [List.getElem?_take, List.getElem?_drop] using this
        have h2 : (xs.map (·.1))[i]? = some (DataW.lit (.string z.data.toList) : DataW H) := by simp [hb]
        rw [hxs] at h2
        simp only [List.getElem?_map, Option.map_eq_some_iff, DataW.lit.injEq, Lit.string.injEq] at h2
        obtain ⟨z', hz', e⟩ := h2
        simp only [h1, List.getElem?_map, hz', Option.map_some, e]
      · rw [List.getElem?_eq_none (by omega), List.getElem?_eq_none (by simp; omega)]
    · cases h
def laidList : List (String × DataW Unit) := [("math/bits.deBruijn32tab", Rows.laid_math_bits_deBruijn32tab), ("math/bits.deBruijn64tab", Rows.laid_math_bits_deBruijn64tab), ("internal/strconv.uint64pow10", Rows.laid_internal_strconv_uint64pow10), ("chequer/val.errorTexts", Rows.laid_chequer_val_errorTexts)]
theorem gTab_t : (Tryz.prog.globals[1]?).map (·.type) = some 113 := by kernel_rfl
theorem cTab20 : Tryz.prog.cellsOf 113 = 20 := by kernel_rfl
theorem cTab1 : Tryz.prog.cellsOf 50 = 1 := by kernel_rfl
theorem gEt : Tryz.prog.globalNamed "chequer/val.errorTexts" = some 0 := by kernel_rfl
theorem gEt_t : (Tryz.prog.globals[(0 : Nat)]?).map (·.type) = some 93 := by kernel_rfl
theorem cellsStrV : Tryz.prog.cellsOf 9 = 1 := by kernel_rfl
theorem cellsEt : Tryz.prog.cellsOf 93 = 7 := by kernel_rfl
def etBytes : List (List UInt8) := [[], [35, 86, 65, 76, 85, 69, 33], [35, 78, 85, 77, 33], [35, 68, 73, 86, 48, 33], [35, 82, 69, 70, 33], [35, 78, 65, 77, 69, 33], [35, 67, 89, 67, 76, 69, 33]]
theorem etData : (Rows.laid_chequer_val_errorTexts : DataW Unit) = textData etBytes := rfl
theorem etCells : (etBytes.map fun b => Value.string ⟨b.toArray⟩) = etA.toList := rfl
theorem laidMet_tail {P : Program} {x : String × DataW Unit} {l : List (String × DataW Unit)} {w : World} (h : laidMet P (x :: l) w) : laidMet P l w := by
  obtain ⟨ps, h1, h2, h3⟩ := h
  obtain ⟨n, d⟩ := x
  obtain ⟨g, t, cs, fuel, p, q, _, _, _, _, hq, rfl⟩ := h1
  exact ⟨q, hq, (List.nodup_append.1 h2).2.1, fun b off hm => h3 b off (List.mem_append_right _ hm)⟩
/-- What a row's list gives. -/
theorem tables {W : World} (h : laidMetH Tryz.prog laidList W) : Tab W ∧ EtV W := by
  have h1 : laidMet Tryz.prog laidList W := h
  have h3 := laidMet_tail (laidMet_tail h1)
  refine ⟨Lib.tabIs_of_head gTab gTab_t Tryz.underlying113 Tryz.underlying50 cTab1 cTab20 h3, ?_⟩
  have h6 := laidMet_tail h3
  obtain ⟨ps, ⟨g', t', cs, fuel, p, q, hg', ht', hvar, hd, _, _⟩, _⟩ := h6
  obtain rfl := Option.some.inj (gEt.symm.trans hg')
  obtain rfl := Option.some.inj (gEt_t.symm.trans ht')
  rw [etData] at hd
  have hc := cells_of_texts Tryz.underlying93 Tryz.underlying9 cellsStrV cellsEt hd
  rw [etCells] at hc
  unfold World.var? at hvar
  rw [gEt] at hvar
  simp only [Option.bind_some] at hvar
  split at hvar
  · rename_i cs' ty fr hh
    injection hvar with hvar
    subst hvar
    have : cs' = etA := Array.toList_inj.1 hc
    exact ⟨ty, fr, by rw [← this]; exact hh⟩
  · cases hvar
/-- A WORLD FOR THE WITNESS: the settled one, the variables holding what their initialisers lay. -/
noncomputable def laidWorld (os : Os) : World := World.laidAll Tryz.prog os laidList
theorem laid_met0 (os : Os) (args : Array Value) : laidMet Tryz.prog laidList ((laidWorld os).forCall (fun _ _ => 0) ⟨#[], args, []⟩).memory := laidMet_laidAll args (by kernel_rfl) (by kernel_rfl)
end Go.Proofs.YtolhmemiknpeaaaGreatDoor
