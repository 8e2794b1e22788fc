/-
  Layer 15, the program: a row of numbers for a row of texts.
-/
import Derived.Test.YtnimmpidplfnnaaLcA
import Derived.Deep.OwnRows
namespace Go.Proofs.Ytnimmpidplfnnaa
open Go.RowKit

/-- A row that holds just these numbers. -/
def RowN (w : World) (tb : Nat) (xs : List Int) : Prop := w.heap[tb]? = some (.cells (rowA (fun j => .int .i64 (xs.getD j 0)) xs.length) 3)
theorem RowN.lt {w : World} {tb : Nat} {xs : List Int} (h : RowN w tb xs) : tb < w.heap.size := (Array.getElem?_eq_some_iff.1 h).1
theorem RowN.keep {w w' : World} {tb : Nat} {xs : List Int} (h : RowN w tb xs) (hk : w'.heap[tb]? = w.heap[tb]?) : RowN w' tb xs := hk.trans h
theorem RowN.cell {w : World} {tb : Nat} {xs : List Int} (h : RowN w tb xs) {j : Nat} {x : Int} (hj : xs[j]? = some x) : w.cell? ⟨tb, j, none⟩ = some (.int .i64 x) := by
  have hl := (List.getElem?_eq_some_iff.1 hj).1
  rw [cell_of_row w tb j _ _ _ h, rowA_at _ _ _ hl, List.getD_eq_getElem?_getD, hj]; rfl
/-- The numbers of texts. -/
def nums (D l : List ByteArray) : List Int := l.map fun t => (dix D t : Int)
theorem nums_len (D l : List ByteArray) : (nums D l).length = l.length := by unfold nums; simp
theorem nums_at {D l : List ByteArray} {i : Nat} {t : ByteArray} (h : l[i]? = some t) : (nums D l)[i]? = some (dix D t : Int) := by unfold nums; rw [List.getElem?_map, h]; rfl
theorem run_mkn (n : Nat) (hn : n ≤ 2000000) (w : World) : (Instr.makeSlice 25 (.int .i64 (n : Int)) (.int .i64 (n : Int))).run Try.prog w = .ok (.slice (some ⟨w.heap.size, 0, none⟩) n n) (w.alloc (.cells (madeCells #[.int .i64 0] n) 3)) := by
  exact run_make_row' 25 3 (.int .i64 0) 8 Try.underlying25 (by kernel_rfl) rfl .i64 .i64 n (by omega) (by omega) w
/-- One number more in a row that is being made. -/
theorem rowN_step (xs : List Int) (n i : Nat) (x : Int) (h : xs[i]? = some x) (w : World) (tb : Nat) (hw : w.heap[tb]? = some (.cells (rowA (fun j => .int .i64 (if j < i then xs.getD j 0 else 0)) n) 3)) :
    (w.setCell ⟨tb, i, none⟩ (.int .i64 x)).heap[tb]? = some (.cells (rowA (fun j => .int .i64 (if j < i + 1 then xs.getD j 0 else 0)) n) 3) := by
  rw [heap_setCell_same w tb i _ _ _ hw, rowA_set]
  congr 2
  apply rowA_congr
  intro j _
  by_cases e : j = i
  · subst e
    rw [if_pos rfl, if_pos (by omega), List.getD_eq_getElem?_getD, h]; rfl
  · rw [if_neg e]
    by_cases e2 : j < i
    · rw [if_pos e2, if_pos (by omega)]
    · rw [if_neg e2, if_neg (by omega)]
set_option maxRecDepth 100000 in
set_option maxHeartbeats 1600000 in
theorem each_any (w : World) (b : Nat) (A : Option Addr) (n cap : Nat) (l d : List ByteArray) (hS : SE encStr w w.heap.size (.slice A n cap) l) (hm : FnMap w b (dEs d)) (hn : d.Nodup) (hsz : ∀ x ∈ d, x.size ≤ maxLen) (hlz : ∀ x ∈ l, x.size ≤ maxLen) (hl : n ≤ 1000) (hbA : ∀ pb po, A = some ⟨pb, po, none⟩ → 0 < n → pb ≠ b) :
    Calls Try.prog 20 #[.slice A n cap, .func (.func 21) #[.map (some b)] #[]] w fun e w' => e = .returned (.slice (some ⟨w.heap.size, 0, none⟩) n n) ∧ RowN w' w.heap.size (nums (dAll d l) l) ∧ FnMap w' b (dEs (dAll d l)) ∧ w.grownBy w' (some b) := by
  have hln : l.length = n := hS.len.1
  have hbl := hm.lt
  have hmk := run_mkn n (by omega)
  have HLN := Lib.hid hln
  have HS := Lib.hid hS
  have HM := Lib.hid hm
  have HA := Lib.hid hbA
  have HW := Lib.hid (fun (i : Nat) (wr : World) (t : ByteArray) (hi : l[i]? = some t) (hF : FnMap wr b (dEs (dAll d (l.take i)))) => of_any wr b (dAll d (l.take i)) t hF (dAll_nodup _ hn) (fun x hx => (dAll_in _ hx).elim (hsz x) (fun h => hlz x (List.mem_of_mem_take h))) (hlz t (List.mem_of_getElem? hi)))
  clear hS hm hn hsz hlz hbA hln
  go_enter Try.func20, Try.ntmps20
  go_upto_region 3 with (fail)
  obtain ⟨w1, hw1⟩ : ∃ w1, w.alloc (.cells (madeCells #[.int .i64 0] n) 3) = w1 := ⟨_, rfl⟩
  have HR := Lib.hid (show w1.heap[w.heap.size]? = some (.cells (rowA (fun j => .int .i64 (if j < 0 then (nums (dAll d l) l).getD j 0 else 0)) n) 3) from by rw [← hw1, (Go.MapKept.heap_alloc w _).1, rowA_made]; rfl)
  have HB := Lib.hid (show Below w.heap.size w w1 from by rw [← hw1]; exact (Below.refl _ _).alloc (Nat.le_refl _) _)
  have hsz1 : w1.heap.size = w.heap.size + 1 := by rw [← hw1]; simp
  rw [hw1]
  clear hw1 hmk
  go_loopw [13] (fun iv wr => ∃ i : Nat, i ≤ n ∧ iv = .int .i64 (i : Int) ∧ Hid (FnMap wr b (dEs (dAll d (l.take i)))) ∧ Hid (wr.heap[w.heap.size]? = some (.cells (rowA (fun j => .int .i64 (if j < i then (nums (dAll d l) l).getD j 0 else 0)) n) 3)) ∧ Hid (w.grownBy wr (some b)))
    (fun iv _ => n - (intOf iv).toNat)
  case atStart => exact ⟨0, Nat.zero_le _, rfl, Lib.hid (HM.out.keep (HB.out.block b hbl)), HR, Lib.hid ⟨HB.out.os, HB.out.tape, HB.out.output, HB.out.size, fun k hk _ => HB.out.block k hk⟩⟩
  case round =>
    obtain ⟨i, hi, rfl, HF, HT, HG⟩ := hrel
    by_cases hlt : i < n
    · have hii : (i : Int) < (n : Int) := by omega
      have hi0 : (0 : Int) ≤ (i : Int) := by omega
      obtain ⟨t, ht⟩ : ∃ t, l[i]? = some t := ⟨_, List.getElem?_eq_getElem (by rw [HLN.out]; exact hlt)⟩
      obtain ⟨pb, po, rfl, hpb, hat⟩ := HS.out.at ht
      have x0 : wr.cell? ⟨pb, po + i, none⟩ = some (.string t) := by
        have h := hat 0 _ rfl
        rw [Nat.mul_one, Nat.add_zero] at h
        rw [cell_other HG.out (by exact hpb) (fun e => HA.out pb po rfl (by omega) (Option.some.inj e))]; exact h
      have HO := Lib.hid (HW.out i wr t ht HF.out)
      have HX := Lib.hid ht
      have m0 : wr.frozen? ⟨w.heap.size, i, none⟩ = false := frozen_of_row wr w.heap.size i _ _ HT.out
      have hbw : b ≠ w.heap.size := by omega
      clear ht hat hpb
      go_wp2_with (go_at_call 21; ((with_reducible refine HO.out.mono ?_); rintro e w2 ⟨rfl, h1, h2, h3⟩; have H1 := Lib.hid h1; have H2 := Lib.hid h2; have H3 := Lib.hid h3; have k0 : w2.frozen? ⟨w.heap.size, i, none⟩ = false := (frozen_of_row w2 w.heap.size i _ _ ((h3.block w.heap.size (Array.getElem?_eq_some_iff.1 HT.out).1 (fun e => hbw (Option.some.inj e).symm)).trans HT.out)); have c0 := (cell_of_row w2 w.heap.size i _ _ _ ((h3.block w.heap.size (Array.getElem?_eq_some_iff.1 HT.out).1 (fun e => hbw (Option.some.inj e).symm)).trans HT.out)).trans (rowA_at _ _ _ hlt); clear h1 h2 h3))
      have HT2 : w2.heap[w.heap.size]? = _ := (H3.out.block w.heap.size (Array.getElem?_eq_some_iff.1 HT.out).1 (fun e => hbw (Option.some.inj e).symm)).trans HT.out
      have hd := dix_take (d := d) HX.out
      have HT3 := rowN_step (nums (dAll d l) l) n i _ (nums_at HX.out) w2 w.heap.size HT2
      rw [← hd.2] at HT3
      go_roundw
      case rel =>
        refine ⟨i + 1, by omega, by go_num, Lib.hid ?_, Lib.hid HT3, Lib.hid ?_⟩
        · rw [hd.1]; exact H1.out.keep (heap_setCell_other _ _ _ _ hbw)
        · refine (grownBy.trans' HG.out H3.out) |> fun h => ⟨h.os, h.tape, h.output, by simpa using h.size, fun j hj hne => ?_⟩
          rw [heap_setCell_other _ _ _ _ (by show j ≠ w.heap.size; omega)]; exact h.block j hj hne
      case measure => simp [intOf]; omega
    · have hii : ¬ (i : Int) < (n : Int) := by omega
      obtain rfl : i = n := by omega
      have HT3 : RowN wr w.heap.size (nums (dAll d l) l) := by
        unfold RowN
        rw [HT.out, nums_len, HLN.out]
        congr 2
        apply rowA_congr
        intro j hj
        rw [if_pos hj]
      have HF3 := HF.out
      rw [List.take_of_length_le (by rw [HLN.out]; exact Nat.le_refl _)] at HF3
      have HT4 := Lib.hid HT3; have HF4 := Lib.hid HF3
      clear HT3 HF3
      go_wp2_with fail
      go_ret
      exact ⟨rfl, HT4.out, HF4.out, HG.out⟩
end Go.Proofs.Ytnimmpidplfnnaa
