/-
  Decimal digits by the library.
-/
import Derived.Test.YtolhmemiknpeaaaGreatDoorAddrU
import Derived.Test.YtolhmemiknpeaaaGreatDoorOwnS
import Derived.Test.YtolhmemiknpeaaaGreatDoorShelf
import Derived.Lib.LaidTab
namespace Go.Proofs.YtolhmemiknpeaaaGreatDoor
open Go.RowKit

/-! Decimal digits. -/
theorem sb_dec : ∀ (n u : Nat), u < n → sb ⟨(Lib.decDigits u).toArray⟩ = digL u := by
  have sbm : ∀ l : List UInt8, sb ⟨l.toArray⟩ = l.map (fun b => (b.toNat : Int)) := fun l => rfl
  intro n
  induction n with
  | zero => intro u h; omega
  | succ n ih =>
    intro u hu
    rw [sbm, Lib.decDigits]
    by_cases h : u < 10
    · rw [dif_pos h, digL_small u h]
      simp only [List.map_cons, List.map_nil]
      rw [UInt8.toNat_ofNat_of_lt' (by show 48 + u < 256; omega)]; congr 1
    · rw [dif_neg h, digL_more u h, List.map_append, ← sbm, ih (u / 10) (by omega)]
      simp only [List.map_cons, List.map_nil]
      rw [UInt8.toNat_ofNat_of_lt' (by show 48 + u % 10 < 256; omega)]; congr 1
theorem dec_str (u : Nat) : (⟨(Lib.decDigits u).toArray⟩ : ByteArray) = strOfNums (digL u) := by
  rw [← str_sb ⟨(Lib.decDigits u).toArray⟩, sb_dec (u + 1) u (by omega)]
/-- The library's table of powers of ten. -/
def Tab (w : World) : Prop := Lib.TabIs Tryz.prog w "internal/strconv.uint64pow10" .u64 Lib.pow10Tab
theorem gTab : Tryz.prog.globalNamed "internal/strconv.uint64pow10" = some 1 := by kernel_rfl
theorem Tab.below {w w' : World} (h : Tab w) (hb : Below w.heap.size w w') : Tab w' := by
  unfold Tab Lib.TabIs World.var? at h ⊢
  rw [gTab] at h ⊢
  simp only [Option.bind_some] at h ⊢
  rw [hb.block _ ?_]
  · exact h
  · rcases Nat.lt_or_ge 1 w.heap.size with h' | h'
    · exact h'
    · rw [Array.getElem?_eq_none h'] at h; cases h
theorem below_grow (w : World) (k : Nat) (os : Array Obj) : Below w.heap.size w (Sort.grow (w.drewN k) os) := by
  refine ⟨rfl, rfl, rfl, ?_, ?_⟩
  · show w.heap.size ≤ (w.heap ++ os).size
    simp
  · intro j hj
    show (w.heap ++ os)[j]? = w.heap[j]?
    rw [Array.getElem?_append_left hj]
theorem itoa_any (n : Nat) (_h1 : n ≤ 9223372036854775807) (w : World) (ht : Tab w) :
    Calls Tryz.prog 58 #[.int .i64 (n : Int)] w fun e w' => e = .returned (.string (strOfNums (digL n))) ∧ Below w.heap.size w w' := by
  refine (Tryz.strconv_Itoa (n : Int) (by omega) (by omega) w ht).mono ?_
  rintro e w' ⟨rfl, k, os, rfl⟩
  refine ⟨?_, below_grow w k os⟩
  have : Lib.itoa (n : Int) = Lib.decDigits n := by unfold Lib.itoa; rw [if_neg (by omega)]; rfl
  rw [this, dec_str]
theorem natAbs_digits (n : Int) (h : n < 0) : (⟨(Lib.itoa n).toArray⟩ : ByteArray) = strOfNums (decL n) := by
  have sbm : ∀ l : List UInt8, sb ⟨l.toArray⟩ = l.map (fun b => (b.toNat : Int)) := fun l => rfl
  rw [← str_sb ⟨(Lib.itoa n).toArray⟩]
  congr 1
  unfold Lib.itoa decL
  rw [if_pos h, if_pos h, sbm, List.map_cons, ← sbm, sb_dec (n.natAbs + 1) _ (by omega)]; rfl
/-- Itoa of any number. -/
theorem itoaZ_any (n : Int) (_h0 : -9223372036854775808 ≤ n) (_h1 : n ≤ 9223372036854775807) (w : World) (ht : Tab w) :
    Calls Tryz.prog 58 #[.int .i64 n] w fun e w' => e = .returned (.string (strOfNums (decL n))) ∧ Below w.heap.size w w' := by
  by_cases h : n < 0
  · refine (Tryz.strconv_Itoa n (by omega) (by omega) w ht).mono ?_
    rintro e w' ⟨rfl, k, os, rfl⟩
    exact ⟨by rw [natAbs_digits n h], below_grow w k os⟩
  · obtain ⟨m, rfl⟩ : ∃ m : Nat, n = m := ⟨n.toNat, by omega⟩
    have hd : decL (m : Int) = digL m := by unfold decL; rw [if_neg (by omega)]; rfl
    rw [hd]; exact itoa_any m (by omega) w ht
end Go.Proofs.YtolhmemiknpeaaaGreatDoor
