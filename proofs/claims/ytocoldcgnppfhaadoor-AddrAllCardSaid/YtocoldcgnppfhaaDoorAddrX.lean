/-
  Layer 3, the program: May; decimal digits by the library.
-/
import Derived.Test.YtocoldcgnppfhaaDoorAddrW
import Derived.Test.YtocoldcgnppfhaaDoorOwnS
import Derived.Test.YtocoldcgnppfhaaDoorHeld
import Derived.Lib.LaidTab
namespace Go.Proofs.YtocoldcgnppfhaaDoor
open Go.RowKit

set_option maxRecDepth 100000 in
set_option maxHeartbeats 400000 in
theorem may_any (s : ByteArray) (c r : Int) (ac ar : Bool) (w : World) (_hs : s.size ≤ 1000000) :
    Calls Tryd.prog 14 #[.agg #[.string s, .int .i64 c, .int .i64 r, .bool ac, .bool ar]] w fun e w' => e = .returned (.bool (mayL (sb s) c r)) ∧ Below w.heap.size w w' := by
  by_cases h0 : s.size = 0
  · have := sb_nil s h0
    subst this
    have hm : mayL (sb ⟨#[]⟩) c r = decide (0 ≤ c ∧ c ≤ 701 ∧ 0 ≤ r ∧ r ≤ 998) := by unfold mayL; rw [show decide (sb ⟨#[]⟩ = []) = true from by decide, Bool.true_or, Bool.true_and]
    have HM := Lib.hid hm; clear hm
    go_enter Tryd.func14, Tryd.ntmps14
    go_wp2
    all_goals go_ret
    all_goals exact ⟨ret_bool (by rw [HM.out]; first | (symm; rw [decide_eq_true_iff]; omega) | (symm; rw [decide_eq_false_iff_not]; omega) | (rw [decide_eq_decide]; omega)), (Below.refl _ _).alloc (Nat.le_refl _) _⟩
  · have hne := text_ne0 s h0
    have hne2 : s.toList.isEmpty = false := by cases hq : s.toList with | nil => exact absurd hq hne | cons a l => rfl
    have hm : mayL (sb s) c r = (nameL (sb s) && decide (0 ≤ c ∧ c ≤ 701 ∧ 0 ≤ r ∧ r ≤ 998)) := by
      unfold mayL; rw [decide_eq_false (by intro h; have := length_sb s; rw [h] at this; exact h0 this.symm), Bool.false_or]
    have HM := Lib.hid hm; clear hm h0
    by_cases hn : nameL (sb s) = true
    · go_enter Tryd.func14, Tryd.ntmps14
      go_wp2_with (first
        | (go_at_call 10; ((with_reducible refine (name_any _ _ ?_).mono ?_); (first | omega | skip); rintro e w' ⟨rfl, rfl⟩)))
      all_goals go_ret
      all_goals exact ⟨ret_bool (by rw [HM.out, hn, Bool.true_and]; first | (symm; rw [decide_eq_true_iff]; omega) | (symm; rw [decide_eq_false_iff_not]; omega) | (rw [decide_eq_decide]; omega)), (Below.refl _ _).alloc (Nat.le_refl _) _⟩
    · have hn' : nameL (sb s) = false := by simpa using hn
      clear hn
      go_enter Tryd.func14, Tryd.ntmps14
      go_wp2_with (first
        | (go_at_call 10; ((with_reducible refine (name_any _ _ ?_).mono ?_); (first | omega | skip); rintro e w' ⟨rfl, rfl⟩)))
      all_goals go_ret
      all_goals exact ⟨ret_bool (by rw [HM.out, hn', Bool.false_and]), (Below.refl _ _).alloc (Nat.le_refl _) _⟩

/-! Decimal digits. -/
theorem sb_dec : ∀ (n u : Nat), u < n → sb ⟨(Lib.decDigits u).toArray⟩ = digL u := by
  have sbm : ∀ l : List UInt8, sb ⟨l.toArray⟩ = l.map (fun b => (b.toNat : Int)) := fun l => rfl
  intro n
  induction n with
  | zero => intro u h; omega
  | succ n ih =>
    intro u hu
    rw [sbm, Lib.decDigits]
    by_cases h : u < 10
    · rw [dif_pos h, digL_small u h]
      simp only [List.map_cons, List.map_nil]
      rw [UInt8.toNat_ofNat_of_lt' (by show 48 + u < 256; omega)]; congr 1
    · rw [dif_neg h, digL_more u h, List.map_append, ← sbm, ih (u / 10) (by omega)]
      simp only [List.map_cons, List.map_nil]
      rw [UInt8.toNat_ofNat_of_lt' (by show 48 + u % 10 < 256; omega)]; congr 1
theorem dec_str (u : Nat) : (⟨(Lib.decDigits u).toArray⟩ : ByteArray) = strOfNums (digL u) := by
  rw [← str_sb ⟨(Lib.decDigits u).toArray⟩, sb_dec (u + 1) u (by omega)]
/-- The library's table of powers of ten. -/
def Tab (w : World) : Prop := Lib.TabIs Tryd.prog w "internal/strconv.uint64pow10" .u64 Lib.pow10Tab
theorem gTab : Tryd.prog.globalNamed "internal/strconv.uint64pow10" = some 1 := by kernel_rfl
theorem Tab.below {w w' : World} (h : Tab w) (hb : Below w.heap.size w w') : Tab w' := by
  unfold Tab Lib.TabIs World.var? at h ⊢
  rw [gTab] at h ⊢
  simp only [Option.bind_some] at h ⊢
  rw [hb.block _ ?_]
  · exact h
  · rcases Nat.lt_or_ge 1 w.heap.size with h' | h'
    · exact h'
    · rw [Array.getElem?_eq_none h'] at h; cases h
theorem below_grow (w : World) (k : Nat) (os : Array Obj) : Below w.heap.size w (Sort.grow (w.drewN k) os) := by
  refine ⟨rfl, rfl, rfl, ?_, ?_⟩
  · show w.heap.size ≤ (w.heap ++ os).size
    simp
  · intro j hj
    show (w.heap ++ os)[j]? = w.heap[j]?
    rw [Array.getElem?_append_left hj]
theorem itoa_any (n : Nat) (_h1 : n ≤ 9223372036854775807) (w : World) (ht : Tab w) :
    Calls Tryd.prog 30 #[.int .i64 (n : Int)] w fun e w' => e = .returned (.string (strOfNums (digL n))) ∧ Below w.heap.size w w' := by
  refine (Tryd.strconv_Itoa (n : Int) (by omega) (by omega) w ht).mono ?_
  rintro e w' ⟨rfl, k, os, rfl⟩
  refine ⟨?_, below_grow w k os⟩
  have : Lib.itoa (n : Int) = Lib.decDigits n := by unfold Lib.itoa; rw [if_neg (by omega)]; rfl
  rw [this, dec_str]
end Go.Proofs.YtocoldcgnppfhaaDoor
