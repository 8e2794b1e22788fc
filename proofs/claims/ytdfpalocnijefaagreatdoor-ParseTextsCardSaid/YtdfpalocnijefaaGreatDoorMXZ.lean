/-
  'chequerlaw5.ParseTexts': for any text: the program's parser answers as the reference does, and what it answers is a formula's tree exactly where there is no error; the document's example holds. Condition: none (the operators, the list of signs, the library's two errors and its tables start as the program's text lays them: the card ties them).
-/
import Derived.Test.YtdfpalocnijefaaGreatDoorMX4
import Derived.BigQuiet
import Derived.ProofKit
import Derived.OpenShut
import Derived.Deep.DeepHandedRow
import Derived.Lib.LaidTab
import Derived.Test.YtdfpalocnijefaaGreatDoorCards
import Derived.Test.YtdfpalocnijefaaGreatDoorTie
import Derived.Deep.Strs
import Derived.Stop.LaidErr
import Derived.Lay
/-
  'chequerlaw5.ParseOrder', walked: the text.
-/
namespace Go.Proofs.YtdfpalocnijefaaGreatDoor
open Go.RowKit

def sgnA : Array Value := #[.string ⟨#[61]⟩, .string ⟨#[60, 62]⟩, .string ⟨#[60]⟩, .string ⟨#[60, 61]⟩, .string ⟨#[62]⟩, .string ⟨#[62, 61]⟩, .string ⟨#[38]⟩, .string ⟨#[43]⟩, .string ⟨#[45]⟩, .string ⟨#[42]⟩, .string ⟨#[47]⟩]
def rkA : Array Value := #[.int .i64 0, .int .i64 0, .int .i64 0, .int .i64 0, .int .i64 0, .int .i64 0, .int .i64 1, .int .i64 2, .int .i64 2, .int .i64 3, .int .i64 3]
theorem sgn_at (o : Nat) (ho : o < 11) : sgnA.toList[o]? = some (.string (opS.getD o ⟨#[]⟩)) := by
  match o, ho with
  | 0, _ => rfl
  | 1, _ => rfl
  | 2, _ => rfl
  | 3, _ => rfl
  | 4, _ => rfl
  | 5, _ => rfl
  | 6, _ => rfl
  | 7, _ => rfl
  | 8, _ => rfl
  | 9, _ => rfl
  | 10, _ => rfl
  | o + 11, h => omega
theorem rk_at (o : Nat) (ho : o < 11) : rkA.toList[o]? = some (.int .i64 (rk o : Nat)) := by
  match o, ho with
  | 0, _ => rfl
  | 1, _ => rfl
  | 2, _ => rfl
  | 3, _ => rfl
  | 4, _ => rfl
  | 5, _ => rfl
  | 6, _ => rfl
  | 7, _ => rfl
  | 8, _ => rfl
  | 9, _ => rfl
  | 10, _ => rfl
  | o + 11, h => omega
theorem drewB {w w' : World} {c : Nat} (h : Below c w w') (n : Nat) : Below c w (w'.drewN n) := ⟨h.os, h.tape, h.output, h.size, h.block⟩
theorem PIs_sizes (s : ByteArray) (ns : List Nd) (h : PIs s (.ok ns)) : ∀ n ∈ ns, n.text.size ≤ 1000000 ∧ n.ref.sh.size ≤ 1000000 ∧ n.to.sh.size ≤ 1000000 := by
  rcases h with ⟨_, h⟩ | ⟨_, _, h⟩ | ⟨h0, ts, f, h1, h2⟩
  · cases h
  · cases h
  · exact parseP_sizes h2 (lexF_sizes 1000000 _ _ _ _ (fun x hx => sb_bd s x hx) (by rw [length_sb]; omega) h1)
structure Two (w : World) (b : Nat) : Prop where
  s : w.heap[b]? = some (.cells sgnA 9)
  r : w.heap[b + 1]? = some (.cells rkA 3)
theorem Two.below {w w' : World} {b B : Nat} (h : Two w b) (hb : Below B w w') (hB : b + 1 < B) : Two w' b :=
  ⟨by rw [hb.block b (by omega)]; exact h.s, by rw [hb.block (b + 1) hB]; exact h.r⟩
theorem Two.sgn {w : World} {b : Nat} (h : Two w b) (o : Nat) (ho : o < 11) : w.cell? ⟨b, o, none⟩ = some (.string (opS.getD o ⟨#[]⟩)) := by
  rw [cell_of_row w b o _ _ _ h.s, ← Array.getElem?_toList]; exact sgn_at o ho
theorem Two.rk {w : World} {b : Nat} (h : Two w b) (o : Nat) (ho : o < 11) : w.cell? ⟨b + 1, o, none⟩ = some (.int .i64 (rk o : Nat)) := by
  rw [cell_of_row w (b + 1) o _ _ _ h.r, ← Array.getElem?_toList]; exact rk_at o ho
theorem Two.new (w : World) : Two ((w.alloc (.cells sgnA 9)).alloc (.cells rkA 3)) w.heap.size := by
  have h1 := Go.MapKept.heap_alloc w (.cells sgnA 9)
  have h2 := Go.MapKept.heap_alloc (w.alloc (.cells sgnA 9)) (.cells rkA 3)
  have hz : (w.alloc (.cells sgnA 9)).heap.size = w.heap.size + 1 := by simp
  refine ⟨?_, ?_⟩
  · rw [h2.2 _ (by omega)]; exact h1.1
  · rw [← hz]; exact h2.1
theorem sb_digO (u : Nat) : sb (strOfNums (digL u)) = digL u := sb_str _ (fun x hx => by have := num_bd (isNum_digL u x hx); omega)
theorem dig2 (u : Nat) (h : u < 100) : (digL u).length ≤ 2 := by
  by_cases hu : u < 10
  · rw [digL_small u hu]; simp
  · rw [digL_more u hu, digL_small (u / 10) (by omega)]; simp
theorem size_dig2 (u : Nat) (h : u < 100) : (strOfNums (digL u)).size ≤ 2 := by
  rw [← length_sb, sb_digO]; exact dig2 u h

set_option maxRecDepth 100000 in
set_option maxHeartbeats 8000000 in
theorem parseOrder_any (A : Option Addr) (L cap : Nat) (xs : List Int) (w : World) (hx : S8 w w.heap.size A L cap xs) (hv : Vars w) (ho : OpV w) :
    Calls Tryz.prog 5 #[.slice A L cap] w fun e w' => e = .returned (.bool true) ∧ Below w.heap.size w w' := by
  have HV := Lib.hid hv; have HO := Lib.hid ho; have HX := Lib.hid hx
  have hlm : L ≤ maxLen := Nat.le_trans hx.le hx.max
  have hlx : L ≤ 9223372036854775807 := by unfold maxLen at hlm; omega
  have HSIZE := Lib.hid PIs_sizes
  clear hv ho hx hlm
  go_enter Tryz.func5, Tryz.ntmps5
  go_upto_region 3 with (fail)
  have HB1 := Lib.hid (show Below w.heap.size w ((w.alloc (.cells sgnA 9)).alloc (.cells rkA 3)) from ((Below.refl w.heap.size w).alloc (Nat.le_refl _) _).alloc (by simp) _)
  have HT1 := Lib.hid (Two.new w)
  have hz1 : w.heap.size + 2 = ((w.alloc (.cells sgnA 9)).alloc (.cells rkA 3)).heap.size := by simp
  unfold sgnA rkA at HB1 HT1 hz1
  generalize (w.alloc _).alloc _ = w1 at HB1 HT1 hz1 ⊢
  have HV1 := Lib.hid (HV.out.below HB1.out); have HO1 := Lib.hid (HO.out.below HB1.out)
  obtain ⟨b, hb⟩ : ∃ b, w.heap.size = b := ⟨_, rfl⟩
  rw [hb] at HB1 HT1 hz1 HX ⊢
  by_cases h0 : L = 0
  · subst h0
    go_wp2_with (first
      | (go_at_call 10; ((with_reducible refine (awake5_any _ HV1.out HO1.out).mono ?_); rintro e w3 ⟨rfl, h1⟩; have HB3 := Lib.hid (HB1.out.trans (h1.mono (by omega))); clear h1)))
    go_ret
    exact ⟨rfl, by first | exact HB3.out | (rw [hb]; exact HB3.out)⟩
  by_cases h20 : 20 < L
  · have h20i : (20 : Int) < (L : Int) := by omega
    have h0i : ¬ (L : Int) = 0 := by omega
    go_wp2_with (first
      | (go_at_call 10; ((with_reducible refine (awake5_any _ HV1.out HO1.out).mono ?_); rintro e w3 ⟨rfl, h1⟩; have HB3 := Lib.hid (HB1.out.trans (h1.mono (by omega))); clear h1)))
    go_ret
    exact ⟨rfl, by first | exact HB3.out | (rw [hb]; exact HB3.out)⟩
  have h20i : ¬ (20 : Int) < (L : Int) := by omega
  have h0i : ¬ (L : Int) = 0 := by omega
  obtain ⟨os, hos⟩ : ∃ os, opsOf xs = os := ⟨_, rfl⟩
  have hosl : os.length = L := by rw [← hos, opsOf, List.length_map]; exact HX.out.hlen
  have HOS := Lib.hid hos
  have HOL := Lib.hid hosl
  have HX1 := Lib.hid (HX.out.below HB1.out (Nat.le_refl _))
  rcases HX1.out.at_ with e | ⟨pb, po, rfl, hpb, hcell⟩
  · exact absurd e h0
  have HCELL := Lib.hid hcell
  clear hcell hos hosl
  go_upto_region 8 with (fail)
  go_loopw [5, 6, 7] (fun sv tv iv wr => ∃ (i k : Nat) (S : ByteArray), i ≤ L ∧ sv = .string S ∧ tv = .int .i64 (k : Int) ∧ iv = .int .i64 (i : Int) ∧ S.size ≤ 1 + 4 * i ∧ Hid (sb S = 48 :: opsL 0 (os.take i)) ∧ k ≤ i ∧ k < L ∧ Hid ((i = 0 ∧ k = 0) ∨ TopOf os i k) ∧ Hid (Below w1.heap.size w1 wr))
    (fun _ _ iv _ => L - (intOf iv).toNat)
  case atStart => exact ⟨0, 0, ⟨#[48]⟩, Nat.zero_le _, rfl, rfl, rfl, by decide, Lib.hid rfl, Nat.le_refl _, by omega, Lib.hid (.inl ⟨rfl, rfl⟩), Lib.hid (Below.refl _ _)⟩
  case round =>
    obtain ⟨i, k, S, hi, rfl, rfl, rfl, hS, HS, hki, hkL, HTop, HB⟩ := hrel
    by_cases hlt : i < L
    · have hii : (i : Int) < (L : Int) := by omega
      obtain ⟨n, hn, hn255⟩ : ∃ n : Nat, xs.getD i 0 = (n : Int) ∧ n ≤ 255 := by
        have := HX1.out.bytes (xs.getD i 0) (by rw [List.getD_eq_getElem?_getD, List.getElem?_eq_getElem (by rw [HX1.out.hlen]; exact hlt)]; exact List.getElem_mem _)
        exact ⟨(xs.getD i 0).toNat, by omega, by omega⟩
      obtain ⟨m, hm, hm255⟩ : ∃ m : Nat, xs.getD k 0 = (m : Int) ∧ m ≤ 255 := by
        have := HX1.out.bytes (xs.getD k 0) (by rw [List.getD_eq_getElem?_getD, List.getElem?_eq_getElem (by rw [HX1.out.hlen]; exact hkL)]; exact List.getElem_mem _)
        exact ⟨(xs.getD k 0).toNat, by omega, by omega⟩
      obtain ⟨o, hno⟩ : ∃ o, n % 11 = o := ⟨_, rfl⟩
      obtain ⟨q, hmq⟩ : ∃ q, m % 11 = q := ⟨_, rfl⟩
      have hwn : IntKind.i64.wrap (n : Int) = (n : Int) := by rw [IntKind.wrap_i64]; omega
      have hwm : IntKind.i64.wrap (m : Int) = (m : Int) := by rw [IntKind.wrap_i64]; omega
      have hoi : Int.tmod (n : Int) 11 = (o : Int) := by rw [Int.tmod_eq_emod_of_nonneg (by omega)]; omega
      have hqi : Int.tmod (m : Int) 11 = (q : Int) := by rw [Int.tmod_eq_emod_of_nonneg (by omega)]; omega
      have hwi : IntKind.i64.wrap ((i : Int) + 1) = (i : Int) + 1 := by rw [IntKind.wrap_i64]; omega
      have hw1 : -9223372036854775808 ≤ (i : Int) + 1 := by omega
      have hw2 : (i : Int) + 1 ≤ 9223372036854775807 := by omega
      have ho0 : (0 : Int) ≤ (o : Int) := by omega
      have hq0 : (0 : Int) ≤ (q : Int) := by omega
      have ho11 : o < 11 := by omega
      have hq11 : q < 11 := by omega
      have ho11i : (o : Int) < 11 := by omega
      have hq11i : (q : Int) < 11 := by omega
      have HAo := Lib.hid (show os[i]? = some o by rw [← HOS.out, opsOf_at xs i n (by rw [HX1.out.hlen]; exact hlt) hn, hno])
      have HAq := Lib.hid (show os[k]? = some q by rw [← HOS.out, opsOf_at xs k m (by rw [HX1.out.hlen]; exact hkL) hm, hmq])
      have HN := Lib.hid hn; have HM := Lib.hid hm
      clear hn hm hno hmq
      obtain ⟨T, hT⟩ : ∃ T, opS.getD o ⟨#[]⟩ = T := ⟨_, rfl⟩
      have hTz : T.size ≤ 2 := by rw [← hT]; exact opL_len o ho11
      have HTS := Lib.hid hT
      clear hT
      obtain ⟨D, hD⟩ : ∃ D, strOfNums (digL (i + 1)) = D := ⟨_, rfl⟩
      have hDz : D.size ≤ 2 := by rw [← hD]; exact size_dig2 (i + 1) (by omega)
      have HD := Lib.hid hD
      clear hD
      generalize hw3 : wr = w3 at HB ⊢
      clear hw3
      have HCC := Lib.hid (show ∀ W, Below w3.heap.size w3 W → W.cell? ⟨pb, po + i, none⟩ = some (.int .u8 (n : Int)) ∧ W.cell? ⟨b, o, none⟩ = some (.string T) ∧ W.cell? ⟨pb, po + k, none⟩ = some (.int .u8 (m : Int)) ∧ W.cell? ⟨b + 1, o, none⟩ = some (.int .i64 (rk o : Nat)) ∧ W.cell? ⟨b + 1, q, none⟩ = some (.int .i64 (rk q : Nat)) from fun W hW => by
        have hW1 : Below w1.heap.size w1 W := HB.out.trans (hW.mono HB.out.size)
        have hTT := HT1.out.below hW1 (by omega)
        refine ⟨?_, by rw [← HTS.out]; exact hTT.sgn o ho11, ?_, hTT.rk o ho11, hTT.rk q hq11⟩
        · exact (hW1.cell (p := ⟨pb, po + i, none⟩) (by show pb < _; omega)).trans ((HCELL.out i hlt).trans (by rw [HN.out]))
        · exact (hW1.cell (p := ⟨pb, po + k, none⟩) (by show pb < _; omega)).trans ((HCELL.out k hkL).trans (by rw [HM.out])))
      have HDG := Lib.hid (show ∀ W, Below w3.heap.size w3 W → Calls Tryz.prog 17 #[.int .i64 ((i : Int) + 1)] W fun e w' => e = .returned (.string D) ∧ Below W.heap.size W w' from fun W _ => by
        have := refDigits_nat (i + 1) (by omega) W
        rw [HD.out] at this; exact this)
      have hz1' : ¬ 9223372036854775807 < S.size + T.size := by omega
      have hz2' : ¬ 9223372036854775807 < S.size + T.size + D.size := by omega
      go_upto_region 10 with (fail)
      · skip
        refine wp_region_held_drew (S := fun W => Below w3.heap.size w3 W) (by kernel_rfl) (Below.drew (Below.refl w3.heap.size w3)) (fun _ => ?_)
        show wpAnyH _ _ _ _ _ 16 #[false, false, false, false, false, false, false, false, false, false, false, false, false, false, false, false] _ _
        refine held_take (i := 0) (d := some 28) (fuel := 15) (listed' := #[true, false, false, false, false, false, false, false, false, false, false, false, false, false, false, false]) (v := ?_) rfl rfl (by kernel_rfl) (by kernel_rfl) (by kernel_rfl) rfl (fun _ _ _ h => h) (by rfl) ?_ (Below.drew (Below.refl w3.heap.size w3)) ?_
        rotate_left
        · (intro wS hSw; go_simp; try (with_reducible rfl))
        simp only [Act.put, List.setIfInBounds_toArray, List.set_cons_zero, List.set_cons_succ]
        refine held_take (i := 1) (d := some 29) (fuel := 14) (listed' := #[true, true, false, false, false, false, false, false, false, false, false, false, false, false, false, false]) (v := ?_) rfl rfl (by kernel_rfl) (by kernel_rfl) (by kernel_rfl) rfl (fun _ _ _ h => h) (by rfl) ?_ (Below.drew (Below.refl w3.heap.size w3)) ?_
        rotate_left
        · (intro wS hSw; go_simp; try (with_reducible rfl))
        simp only [Act.put, List.setIfInBounds_toArray, List.set_cons_zero, List.set_cons_succ]
        refine held_take (i := 2) (d := some 30) (fuel := 13) (listed' := #[true, true, true, false, false, false, false, false, false, false, false, false, false, false, false, false]) (v := ?_) rfl rfl (by kernel_rfl) (by kernel_rfl) (by kernel_rfl) rfl (fun _ _ _ h => h) (by rfl) ?_ (Below.drew (Below.refl w3.heap.size w3)) ?_
        rotate_left
        · (intro wS hSw; go_simp; try (with_reducible rfl))
        simp only [Act.put, List.setIfInBounds_toArray, List.set_cons_zero, List.set_cons_succ]
        refine held_take (i := 3) (d := some 31) (fuel := 12) (listed' := #[true, true, true, true, false, false, false, false, false, false, false, false, false, false, false, false]) (v := ?_) rfl rfl (by kernel_rfl) (by kernel_rfl) (by kernel_rfl) rfl (fun _ _ _ h => h) (by rfl) ?_ (Below.drew (Below.refl w3.heap.size w3)) ?_
        rotate_left
        · (intro wS hSw; go_simp; try (with_reducible rfl))
        simp only [Act.put, List.setIfInBounds_toArray, List.set_cons_zero, List.set_cons_succ]
        refine held_take (i := 4) (d := some 32) (fuel := 11) (listed' := #[true, true, true, true, true, false, false, false, false, false, false, false, false, false, false, false]) (v := ?_) rfl rfl (by kernel_rfl) (by kernel_rfl) (by kernel_rfl) rfl (fun _ _ _ h => h) (by rfl) ?_ (Below.drew (Below.refl w3.heap.size w3)) ?_
        rotate_left
        · (intro wS hSw; go_simp; try (with_reducible rfl))
        simp only [Act.put, List.setIfInBounds_toArray, List.set_cons_zero, List.set_cons_succ]
        refine held_take (i := 5) (d := some 33) (fuel := 10) (listed' := #[true, true, true, true, true, true, false, false, false, false, false, false, false, false, false, false]) (v := ?_) rfl rfl (by kernel_rfl) (by kernel_rfl) (by kernel_rfl) rfl (fun _ _ _ h => h) (by rfl) ?_ (Below.drew (Below.refl w3.heap.size w3)) ?_
        rotate_left
        · (intro wS hSw; have hz := (HCC.out wS hSw); go_simp; try (with_reducible rfl))
        simp only [Act.put, List.setIfInBounds_toArray, List.set_cons_zero, List.set_cons_succ]
        refine held_take (i := 6) (d := some 34) (fuel := 9) (listed' := #[true, true, true, true, true, true, true, false, false, false, false, false, false, false, false, false]) (v := ?_) rfl rfl (by kernel_rfl) (by kernel_rfl) (by kernel_rfl) rfl (fun _ _ _ h => h) (by rfl) ?_ (Below.drew (Below.refl w3.heap.size w3)) ?_
        rotate_left
        · (intro wS hSw; go_simp; try (with_reducible rfl))
        simp only [Act.put, List.setIfInBounds_toArray, List.set_cons_zero, List.set_cons_succ]
        refine held_take (i := 7) (d := some 35) (fuel := 8) (listed' := #[true, true, true, true, true, true, true, true, false, false, false, false, false, false, false, false]) (v := ?_) rfl rfl (by kernel_rfl) (by kernel_rfl) (by kernel_rfl) rfl (fun _ _ _ h => h) (by rfl) ?_ (Below.drew (Below.refl w3.heap.size w3)) ?_
        rotate_left
        · (intro wS hSw; go_simp; try (with_reducible rfl))
        simp only [Act.put, List.setIfInBounds_toArray, List.set_cons_zero, List.set_cons_succ]
        refine held_take (i := 8) (d := some 36) (fuel := 7) (listed' := #[true, true, true, true, true, true, true, true, true, false, false, false, false, false, false, false]) (v := ?_) rfl rfl (by kernel_rfl) (by kernel_rfl) (by kernel_rfl) rfl (fun _ _ _ h => h) (by rfl) ?_ (Below.drew (Below.refl w3.heap.size w3)) ?_
        rotate_left
        · (intro wS hSw; go_simp; try (with_reducible rfl))
        simp only [Act.put, List.setIfInBounds_toArray, List.set_cons_zero, List.set_cons_succ]
        refine held_take (i := 9) (d := some 37) (fuel := 6) (listed' := #[true, true, true, true, true, true, true, true, true, true, false, false, false, false, false, false]) (v := ?_) rfl rfl (by kernel_rfl) (by kernel_rfl) (by kernel_rfl) rfl (fun _ _ _ h => h) (by rfl) ?_ (Below.drew (Below.refl w3.heap.size w3)) ?_
        rotate_left
        · (intro wS hSw; have hz := (HCC.out wS hSw); go_simp; try (with_reducible rfl))
        simp only [Act.put, List.setIfInBounds_toArray, List.set_cons_zero, List.set_cons_succ]
        refine held_take (i := 10) (d := some 38) (fuel := 5) (listed' := #[true, true, true, true, true, true, true, true, true, true, true, false, false, false, false, false]) (v := ?_) rfl rfl (by kernel_rfl) (by kernel_rfl) (by kernel_rfl) rfl (fun _ _ _ h => h) (by rfl) ?_ (Below.drew (Below.refl w3.heap.size w3)) ?_
        rotate_left
        · (intro wS hSw; go_simp; try (with_reducible rfl))
        simp only [Act.put, List.setIfInBounds_toArray, List.set_cons_zero, List.set_cons_succ]
        refine held_take (i := 11) (d := some 39) (fuel := 4) (listed' := #[true, true, true, true, true, true, true, true, true, true, true, true, false, false, false, false]) (v := ?_) rfl rfl (by kernel_rfl) (by kernel_rfl) (by kernel_rfl) rfl (fun _ _ _ h => h) (by rfl) ?_ (Below.drew (Below.refl w3.heap.size w3)) ?_
        rotate_left
        · (intro wS hSw; go_simp; try (with_reducible rfl))
        simp only [Act.put, List.setIfInBounds_toArray, List.set_cons_zero, List.set_cons_succ]
        refine held_take (i := 12) (d := some 40) (fuel := 3) (listed' := #[true, true, true, true, true, true, true, true, true, true, true, true, true, false, false, false]) (v := ?_) rfl rfl (by kernel_rfl) (by kernel_rfl) (by kernel_rfl) rfl (fun _ _ _ h => h) (by rfl) ?_ (Below.drew (Below.refl w3.heap.size w3)) ?_
        rotate_left
        · (intro wS hSw; go_simp; try (with_reducible rfl))
        simp only [Act.put, List.setIfInBounds_toArray, List.set_cons_zero, List.set_cons_succ]
        refine held_one (i := 13) (d := some 41) (fuel := 2) (listed' := #[true, true, true, true, true, true, true, true, true, true, true, true, true, true, false, false]) rfl rfl (by kernel_rfl) rfl (by rfl) (fun K hK => ?_)
        go_simp
        refine (HDG.out _ (Below.drew (Below.refl w3.heap.size w3))).mono ?_
        rintro e w4 ⟨rfl, h1⟩
        have HE := Lib.hid ((Below.drew (Below.refl w3.heap.size w3)).trans h1)
        clear h1
        go_wp2_with fail
        refine hK.out _ _ HE.out ?_
        clear hK K
        simp only [Act.put, List.setIfInBounds_toArray, List.set_cons_zero, List.set_cons_succ]
        refine held_take (i := 14) (d := some 42) (fuel := 1) (listed' := #[true, true, true, true, true, true, true, true, true, true, true, true, true, true, true, false]) (v := ?_) rfl rfl (by kernel_rfl) (by kernel_rfl) (by kernel_rfl) rfl (fun _ _ _ h => h) (by rfl) ?_ HE.out ?_
        rotate_left
        · (intro wS hSw; go_simp; try (with_reducible rfl))
        simp only [Act.put, List.setIfInBounds_toArray, List.set_cons_zero, List.set_cons_succ]
        refine held_take (i := 15) (d := some 5) (fuel := 0) (listed' := #[true, true, true, true, true, true, true, true, true, true, true, true, true, true, true, true]) (v := ?_) rfl rfl (by kernel_rfl) (by kernel_rfl) (by kernel_rfl) rfl (fun _ _ _ h => h) (by rfl) ?_ HE.out ?_
        rotate_left
        · (intro wS hSw; go_simp; try (with_reducible rfl))
        simp only [Act.put, List.setIfInBounds_toArray, List.set_cons_zero, List.set_cons_succ]
        refine wpAnyH_done (by kernel_rfl) ?_ _
        have HB4 := Lib.hid (HB.out.trans (HE.out.mono HB.out.size))
        obtain ⟨c1, c2, c3, c4, c5⟩ := HCC.out w4 HE.out
        have HS4 := Lib.hid (show sb (S ++ T ++ D) = 48 :: opsL 0 (os.take (i + 1)) by
          rw [sb_append, sb_append, HS.out, ← HTS.out, (opL_sb o ho11).1, ← HD.out, sb_digO, List.take_add_one, HAo.out]
          show _ = 48 :: opsL 0 (os.take i ++ [o])
          rw [opsL_snoc, List.length_take, show min i os.length = i by rw [HOL.out]; omega, show 0 + i + 1 = i + 1 by omega]
          simp [List.append_assoc])
        clear HE HCC HDG hz1' hz2' c2
        by_cases hr : rk o ≤ rk q
        · have HTOP : TopOf os (i + 1) i := by
            rcases HTop.out with ⟨rfl, rfl⟩ | h
            · exact TopOf.first HAo.out
            · exact h.le HAo.out HAq.out hr
          obtain ⟨ro, hro⟩ : ∃ ro, rk o = ro := ⟨_, rfl⟩
          obtain ⟨rq, hrq⟩ : ∃ rq, rk q = rq := ⟨_, rfl⟩
          rw [hro] at c4 hr; rw [hrq] at c5 hr
          have hri : (ro : Int) ≤ (rq : Int) := by omega
          have HTOP := Lib.hid HTOP
          clear hro hrq
          go_upto_region 11 with (fail)
          go_quiet (fail)
          go_wp2_with fail
          go_roundw
          case rel => exact ⟨i + 1, i, S ++ T ++ D, by omega, rfl, rfl, by go_num, by rw [ByteArray.size_append, ByteArray.size_append]; omega, HS4, by omega, by omega, Lib.hid (.inr HTOP.out), by first | exact HB4 | exact Lib.hid (below_drewN HB4.out _)⟩
          case measure => simp [intOf]; omega
        · have HTOP : TopOf os (i + 1) k := by
            rcases HTop.out with ⟨rfl, rfl⟩ | h
            · rw [HAo.out] at HAq; have e := Option.some.inj HAq.out; subst e; exact absurd (Nat.le_refl _) hr
            · exact h.gt HAo.out HAq.out hr
          obtain ⟨ro, hro⟩ : ∃ ro, rk o = ro := ⟨_, rfl⟩
          obtain ⟨rq, hrq⟩ : ∃ rq, rk q = rq := ⟨_, rfl⟩
          rw [hro] at c4 hr; rw [hrq] at c5 hr
          have hri : ¬ (ro : Int) ≤ (rq : Int) := by omega
          have HTOP := Lib.hid HTOP
          clear hro hrq
          go_upto_region 11 with (fail)
          go_quiet (fail)
          go_wp2_with fail
          go_roundw
          case rel => exact ⟨i + 1, k, S ++ T ++ D, by omega, rfl, rfl, by go_num, by rw [ByteArray.size_append, ByteArray.size_append]; omega, HS4, by omega, by omega, Lib.hid (.inr HTOP.out), by first | exact HB4 | exact Lib.hid (below_drewN HB4.out _)⟩
          case measure => simp [intOf]; omega
    · have hii : ¬ (i : Int) < (L : Int) := by omega
      have hil : L = i := by omega
      subst hil
      have hsS : sb S = 48 :: opsL 0 os := by rw [HS.out, List.take_of_length_le (Nat.le_of_eq HOL.out)]
      have hne : os ≠ [] := by intro h; have := HOL.out; rw [h] at this; exact h0 this.symm
      obtain ⟨ns, hp, hl, k', hk1, hk2⟩ := order_PIs S os (by omega) hsS (by rw [← HOS.out]; exact opsOf_lt xs) (by rw [HOL.out]; omega) hne
      have hkk : k = k' := TopOf.is (by rw [HOL.out]; rcases HTop.out with ⟨h, _⟩ | h; exact absurd h h0; exact h) hk1
      subst hkk
      obtain ⟨o, nd, hoo, hn1, hn2, hn3⟩ := hk2
      rw [HOL.out] at hl hn3
      obtain ⟨m, hm, hm255⟩ : ∃ m : Nat, xs.getD k 0 = (m : Int) ∧ m ≤ 255 := by
        have := HX1.out.bytes (xs.getD k 0) (by rw [List.getD_eq_getElem?_getD, List.getElem?_eq_getElem (by rw [HX1.out.hlen]; exact hkL)]; exact List.getElem_mem _)
        exact ⟨(xs.getD k 0).toNat, by omega, by omega⟩
      have hmo : m % 11 = o := by
        have := opsOf_at xs k m (by rw [HX1.out.hlen]; exact hkL) hm
        rw [HOS.out, hoo] at this; exact (Option.some.inj this).symm
      have hwm : IntKind.i64.wrap (m : Int) = (m : Int) := by rw [IntKind.wrap_i64]; omega
      have hoi : Int.tmod (m : Int) 11 = (o : Int) := by rw [Int.tmod_eq_emod_of_nonneg (by omega)]; omega
      have ho11 : o < 11 := by omega
      have HX5 := Lib.hid (parse_ok S wr (HV1.out.below HB.out) (HO1.out.below HB.out) ns hp (by omega))
      rw [hl] at HX5
      have HSIZ := Lib.hid (HSIZE.out S ns hp)
      have HN1 := Lib.hid hn1; have HN2 := Lib.hid hn2; have HN3 := Lib.hid hn3; have HM := Lib.hid hm; have HL := Lib.hid hl
      clear hsS hne hp hk1 hoo hn1 hn2 hn3 hm hmo
      have hBw : Below w.heap.size w wr := by have := HB.out; exact (show Below w.heap.size w w1 from by rw [hb]; exact HB1.out).trans (this.mono (by omega))
      have HBW := Lib.hid hBw
      clear hBw
      go_upto_region 16 with (first
        | (go_at_call 11; ((with_reducible refine HX5.out.mono ?_); rintro e w5 ⟨h1, g, gc, vs, rfl, hvn, hvl, hnv, ht⟩; have HB5 := Lib.hid (HBW.out.trans (h1.mono HBW.out.size)); have HVN := Lib.hid hvn; have HVL := Lib.hid hvl; have HNV := Lib.hid hnv; have HTB := Lib.hid ht; have H5 := Lib.hid h1; clear h1 hvn hvl hnv ht))
        | (go_at_call 15; (have HTR := Lib.hid (show Calls Tryz.prog 15 #[.slice (some ⟨g, 0, none⟩) (2 * L + 1) gc] w5 (fun e w' => e = .returned (.bool true) ∧ Below w5.heap.size w5 w') from by
            have := ptree_any w5 _ _ (HV.out.below HB5.out) (HNV.out.sn HVL.out) ⟨by rw [List.length_map, HVL.out]; omega, fun p hp => by
              obtain ⟨v, hv, rfl⟩ := List.mem_map.1 hp
              exact HSIZ.out v.n (by rw [← HVN.out]; exact List.mem_map_of_mem hv)⟩
            rw [sn_fst, HVN.out, HTB.out] at this
            exact this)); ((with_reducible refine HTR.out.mono ?_); rintro e w6 ⟨rfl, h1⟩; have H6 := Lib.hid h1; have HB6 := Lib.hid (HB5.out.trans (h1.mono HB5.out.size)); clear h1))
        | (go_at_call 14; ((with_reducible refine (num_is _ _).mono ?_); rintro e wn ⟨rfl, rfl⟩)))
      have hgl : g < w5.heap.size := (Own.blockLt HNV.out.1 g rfl).2.1
      obtain ⟨⟨n, kvo⟩, hv⟩ : ∃ v, vs[2 * L]? = some v := ⟨_, List.getElem?_eq_getElem (by rw [HVL.out]; omega)⟩
      obtain ⟨kv, hkv⟩ : ∃ kv, (⟨n, kvo⟩ : Nv).kv = kv := ⟨_, rfl⟩
      have hnd : n = nd := by
        have h1 := HN1.out
        rw [List.getLast?_eq_getElem?, HL.out, ← HVN.out, show 2 * L + 1 - 1 = 2 * L by omega, List.getElem?_map, hv] at h1
        exact Option.some.inj h1
      have hown : Own (encInt .i64) 3 w5 wr.heap.size kv n.kids := by rw [← hkv]; exact HNV.out.2 _ (List.mem_of_getElem? hv)
      have hn3 : n.kids = [((2 * k : Nat) : Int), ((2 * L - 1 : Nat) : Int)] := by rw [hnd, HN3.out, show 0 + 2 * (0 + k) = 2 * k by omega, show 0 + 2 * (0 + L) - 1 = 2 * L - 1 by omega]
      rw [hn3] at hown
      have hnk := Lib.hid (show n.kind = 9 + (o : Int) by rw [hnd]; exact HN2.out)
      obtain ⟨g2, c2, hkv2, hg2, hg3, -, -⟩ := Own.some hown (by simp)
      rw [hkv2] at hown
      have q0 := (H6.out.cell (p := ⟨g2, 0, none⟩) hg3).trans (Own.cells hown 0 (.int .i64 ((2 * k : Nat) : Int)) rfl)
      have q1 := (H6.out.cell (p := ⟨g2, 1, none⟩) hg3).trans (Own.cells hown 1 (.int .i64 ((2 * L - 1 : Nat) : Int)) rfl)
      have hkl : ([((2 * k : Nat) : Int), ((2 * L - 1 : Nat) : Int)] : List Int).length = 2 := rfl
      rw [hkl] at hkv2
      have hkv := hkv.trans hkv2
      clear hown hnd hn3
      subst hkv2
      have k0 : w6.cell? ⟨g, 2 * L * 14, none⟩ = some (.int .i64 n.kind) := (H6.out.cell (p := ⟨g, 2 * L * 14, none⟩) hgl).trans (HNV.out.cell (2 * L) ⟨n, kvo⟩ hv 0 (by omega))
      have k1 : w6.cell? ⟨g, 2 * L * 14 + 1, none⟩ = some (.int .i64 n.num) := (H6.out.cell (p := ⟨g, 2 * L * 14 + 1, none⟩) hgl).trans (HNV.out.cell (2 * L) ⟨n, kvo⟩ hv 1 (by omega))
      have k2 : w6.cell? ⟨g, 2 * L * 14 + 2, none⟩ = some (.string n.text) := (H6.out.cell (p := ⟨g, 2 * L * 14 + 2, none⟩) hgl).trans (HNV.out.cell (2 * L) ⟨n, kvo⟩ hv 2 (by omega))
      have k3 : w6.cell? ⟨g, 2 * L * 14 + 3, none⟩ = some (.string n.ref.sh) := (H6.out.cell (p := ⟨g, 2 * L * 14 + 3, none⟩) hgl).trans (HNV.out.cell (2 * L) ⟨n, kvo⟩ hv 3 (by omega))
      have k4 : w6.cell? ⟨g, 2 * L * 14 + 4, none⟩ = some (.int .i64 n.ref.c) := (H6.out.cell (p := ⟨g, 2 * L * 14 + 4, none⟩) hgl).trans (HNV.out.cell (2 * L) ⟨n, kvo⟩ hv 4 (by omega))
      have k5 : w6.cell? ⟨g, 2 * L * 14 + 5, none⟩ = some (.int .i64 n.ref.r) := (H6.out.cell (p := ⟨g, 2 * L * 14 + 5, none⟩) hgl).trans (HNV.out.cell (2 * L) ⟨n, kvo⟩ hv 5 (by omega))
      have k6 : w6.cell? ⟨g, 2 * L * 14 + 6, none⟩ = some (.bool n.ref.ac) := (H6.out.cell (p := ⟨g, 2 * L * 14 + 6, none⟩) hgl).trans (HNV.out.cell (2 * L) ⟨n, kvo⟩ hv 6 (by omega))
      have k7 : w6.cell? ⟨g, 2 * L * 14 + 7, none⟩ = some (.bool n.ref.ar) := (H6.out.cell (p := ⟨g, 2 * L * 14 + 7, none⟩) hgl).trans (HNV.out.cell (2 * L) ⟨n, kvo⟩ hv 7 (by omega))
      have k8 : w6.cell? ⟨g, 2 * L * 14 + 8, none⟩ = some (.string n.to.sh) := (H6.out.cell (p := ⟨g, 2 * L * 14 + 8, none⟩) hgl).trans (HNV.out.cell (2 * L) ⟨n, kvo⟩ hv 8 (by omega))
      have k9 : w6.cell? ⟨g, 2 * L * 14 + 9, none⟩ = some (.int .i64 n.to.c) := (H6.out.cell (p := ⟨g, 2 * L * 14 + 9, none⟩) hgl).trans (HNV.out.cell (2 * L) ⟨n, kvo⟩ hv 9 (by omega))
      have k10 : w6.cell? ⟨g, 2 * L * 14 + 10, none⟩ = some (.int .i64 n.to.r) := (H6.out.cell (p := ⟨g, 2 * L * 14 + 10, none⟩) hgl).trans (HNV.out.cell (2 * L) ⟨n, kvo⟩ hv 10 (by omega))
      have k11 : w6.cell? ⟨g, 2 * L * 14 + 11, none⟩ = some (.bool n.to.ac) := (H6.out.cell (p := ⟨g, 2 * L * 14 + 11, none⟩) hgl).trans (HNV.out.cell (2 * L) ⟨n, kvo⟩ hv 11 (by omega))
      have k12 : w6.cell? ⟨g, 2 * L * 14 + 12, none⟩ = some (.bool n.to.ar) := (H6.out.cell (p := ⟨g, 2 * L * 14 + 12, none⟩) hgl).trans (HNV.out.cell (2 * L) ⟨n, kvo⟩ hv 12 (by omega))
      have k13 : w6.cell? ⟨g, 2 * L * 14 + 13, none⟩ = some (.slice (some ⟨g2, 0, none⟩) 2 c2) := (H6.out.cell (p := ⟨g, 2 * L * 14 + 13, none⟩) hgl).trans ((HNV.out.cell (2 * L) ⟨n, kvo⟩ hv 13 (by omega)).trans (by rw [hkv]; rfl))
      clear hv hkv hg2
      go_upto_region 17 with (fail)
      have hal : Below w6.heap.size w6 (w6.alloc (.cells (nodA n (.slice (some ⟨g2, 0, none⟩) 2 c2)) 38)) := (Below.refl _ _).alloc (Nat.le_refl _) _
      have HND : NdAt (w6.alloc (.cells (nodA n (.slice (some ⟨g2, 0, none⟩) 2 c2)) 38)) w6.heap.size n (.slice (some ⟨g2, 0, none⟩) 2 c2) := NdAt.new w6 n _
      have hx6 : w6.cell? ⟨pb, po + k, none⟩ = some (.int .u8 (m : Int)) := by
        have e1 := HB.out.cell (p := ⟨pb, po + k, none⟩) (by show pb < _; omega)
        have e2 := H5.out.cell (p := ⟨pb, po + k, none⟩) (by show pb < _; have := HB.out.size; omega)
        have e3 := H6.out.cell (p := ⟨pb, po + k, none⟩) (by show pb < _; have := HB.out.size; have := H5.out.size; omega)
        exact e3.trans (e2.trans (e1.trans ((HCELL.out k hkL).trans (by rw [HM.out]))))
      have hz6 : pb < w6.heap.size := by have := HB.out.size; have := H5.out.size; have := H6.out.size; omega
      have hz7 : g2 < w6.heap.size := by have := H6.out.size; omega
      have x7 := (hal.cell (p := ⟨pb, po + k, none⟩) hz6).trans hx6
      have y0 := (hal.cell (p := ⟨g2, 0, none⟩) hz7).trans q0
      have y1 := (hal.cell (p := ⟨g2, 1, none⟩) hz7).trans q1
      have HB7 := Lib.hid (HB6.out.trans (hal.mono HB6.out.size))
      clear hx6 q0 q1 k0 k1 k2 k3 k4 k5 k6 k7 k8 k9 k10 k11 k12 k13 hal HB6 H6 H5 HB HX5 HSIZ HVN HNV HTB
      unfold nodA at HND x7 y0 y1 HB7
      generalize hb7 : w6.heap.size = b7 at HND ⊢
      generalize w6.alloc (.cells _ 38) = w7 at HND x7 y0 y1 HB7 ⊢
      obtain ⟨z0, -, -, -, -, -, -, -, -, -, -, -, -, z13⟩ := HND.cells
      rw [hnk.out] at z0
      rw [show ((2 * k : Nat) : Int) = 2 * (k : Int) by omega] at y0
      rw [show ((2 * L - 1 : Nat) : Int) = 2 * (L : Int) - 1 by omega] at y1
      clear HND hb7 hnk
      have hm11 : (o : Int) < 11 := by omega
      go_quiet (fail)
      have HB8 := Lib.hid (drewB HB7.out nq)
      clear HB7 x7 y0 y1 z0 z13
      generalize w7.drewN nq = w8 at HB8 ⊢
      go_wp2_with (first
        | (go_at_call 10; ((with_reducible refine (awake5_any _ (HV.out.below HB8.out) (HO.out.below HB8.out)).mono ?_); rintro e w9 ⟨rfl, h1⟩; have HB9 := Lib.hid (HB8.out.trans (h1.mono HB8.out.size)); clear h1)))
      go_ret
      exact ⟨rfl, HB9.out⟩
end Go.Proofs.YtdfpalocnijefaaGreatDoor

/-
  Layer 5, the laws: ParseTexts.
-/
namespace Go.Proofs.YtdfpalocnijefaaGreatDoor
open Go.RowKit

theorem ok_tree (s : ByteArray) (ns : List Nd) (h : PIs s (.ok ns)) : treeB ns = true ∧ 0 < ns.length := by
  rcases h with ⟨_, h⟩ | ⟨_, _, h⟩ | ⟨_, ts, f, h1, h2⟩
  · cases h
  · cases h
  · have ht := parse_tree h2 (lexL_good s ts h1).1
    refine ⟨ht, ?_⟩
    cases ns with
    | nil => exact absurd ht (by decide)
    | cons a l => simp
theorem SN.nil (w : World) (B : Nat) : SN w B (.slice none 0 0) [] := ⟨⟨none, 0, rfl, .inl rfl⟩, fun p hp => absurd hp (by simp)⟩
/-- Both parsers, and what they say of one text. -/
theorem both_ok (s : ByteArray) (w : World) (hv : Vars w) (ho : OpV w) (ns : List Nd) (hp : PIs s (.ok ns)) :
    Calls Tryz.prog 11 #[.string s] w fun e w' => Below w.heap.size w w' ∧ ∃ g cap vs, e = .returned (.tuple #[.slice (some ⟨g, 0, none⟩) ns.length cap, .int .i64 0]) ∧ vs.map Prod.fst = ns ∧ SN w' w'.heap.size (.slice (some ⟨g, 0, none⟩) ns.length cap) vs := by
  refine (parse_ok s w hv ho ns hp (ok_tree s ns hp).2).mono ?_
  rintro e w' ⟨hb, g, cap, vs, he, h1, h2, h3, -⟩
  exact ⟨hb, g, cap, _, he, (sn_fst vs).trans h1, h3.sn h2⟩
theorem both_ref (s : ByteArray) (w : World) (ns : List Nd) (hp : PIs s (.ok ns)) :
    Calls Tryz.prog 12 #[.string s] w fun e w' => Below w.heap.size w w' ∧ ns.length ≤ 1000 ∧ ∃ g cap vs, e = .returned (.agg #[.slice (some ⟨g, 0, none⟩) ns.length cap, .int .i64 0]) ∧ vs.map Prod.fst = ns ∧ SN w' w'.heap.size (.slice (some ⟨g, 0, none⟩) ns.length cap) vs := by
  refine (rparse_any s w _ hp).mono ?_
  rintro e w' ⟨hb, ⟨c, h, _⟩ | ⟨ns', g, cap, vs, h, h1, he, h3, h4⟩⟩
  · cases h
  · injection h with h; subst h
    have hl : vs.length = ns.length := by rw [← h1, List.length_map]
    rw [hl] at he h3 h4
    exact ⟨hb, h4, g, cap, _, he, (sn_fst vs).trans h1, h3.sn hl⟩
theorem both_no (s : ByteArray) (w : World) (c : Int) (hp : PIs s (.error c)) :
    Calls Tryz.prog 12 #[.string s] w fun e w' => Below w.heap.size w w' ∧ (c == 0) = false ∧ e = .returned (.agg #[.slice none 0 0, .int .i64 c]) := by
  refine (rparse_any s w _ hp).mono ?_
  rintro e w' ⟨hb, ⟨c', h, hc, he⟩ | ⟨ns', g, cap, vs, h, _⟩⟩
  · injection h with h; subst h
    exact ⟨hb, by rw [beq_eq_false_iff_ne]; omega, he⟩
  · cases h

set_option maxRecDepth 100000 in
set_option maxHeartbeats 8000000 in
theorem ptexts_bad (s : ByteArray) (w : World) (hv : Vars w) (ho : OpV w) (h1 : s.size ≤ 1000) (c : Int) (hp : PIs s (.error c)) :
    Calls Tryz.prog 3 #[.string s] w fun e w' => e = .returned (.bool true) ∧ Below w.heap.size w w' := by
  have HA := Lib.hid (parse_err s w hv ho c hp)
  have HR := Lib.hid (fun w => both_no s w c hp)
  have HV := Lib.hid hv; have HO := Lib.hid ho
  have hi : ¬ (1000 : Int) < (s.size : Int) := by omega
  clear hv ho hp
  go_enter Tryz.func3, Tryz.ntmps3
  go_upto_region 5 with (first
    | (go_at_call 11; ((with_reducible refine HA.out.mono ?_); rintro e w1 ⟨hb, rfl⟩; have HB := Lib.hid hb; clear hb))
    | (go_at_call 12; ((with_reducible refine (HR.out _).mono ?_); rintro e w2 ⟨hb, hc0, rfl⟩; have HB := Lib.hid (HB.out.trans (hb.mono HB.out.size)); clear hb)))
  have hB3 : Below w2.heap.size w2 (w2.alloc (.cells #[.slice none 0 0, .int .i64 c] 28)) := (Below.refl _ _).alloc (Nat.le_refl _) _
  have hK3 := PkAt.new w2 (.slice none 0 0) c
  have HB3 := Lib.hid (HB.out.trans (hB3.mono HB.out.size))
  clear hB3 HB
  have hbk := hK3.lt
  generalize hbke : w2.heap.size = bk at hK3 hbk ⊢
  generalize w2.alloc (.cells #[.slice none 0 0, .int .i64 c] 28) = w3 at hK3 HB3 hbk ⊢
  obtain ⟨c0, c1⟩ := hK3.facts
  clear hK3 hbke
  have HSM := Lib.hid (show ∀ wr, Below w3.heap.size w3 wr → Calls Tryz.prog 13 #[.slice none 0 0, .slice none 0 0] wr (fun e w' => e = .returned (.bool true) ∧ Below wr.heap.size wr w') from fun wr hb =>
    (refSame_any wr _ _ [] [] (SN.nil _ _) (SN.nil _ _) (by simp) (by simp)).mono fun e w' h => ⟨by
      rcases h.1.is with ⟨_, h⟩ | ⟨h, _⟩
      · exact h
      · exact absurd rfl h, h.2⟩)
  have HTR := Lib.hid (show ∀ wr, Below w3.heap.size w3 wr → Calls Tryz.prog 15 #[.slice none 0 0] wr (fun e w' => e = .returned (.bool false) ∧ Below wr.heap.size wr w') from fun wr hb =>
    ptree_any wr _ [] (HV.out.below (HB3.out.trans (hb.mono HB3.out.size))) (SN.nil _ _) ⟨by simp, fun p hp => absurd hp (by simp)⟩)
  have HAW := Lib.hid (show ∀ wr, Below w3.heap.size w3 wr → Calls Tryz.prog 10 #[] wr (fun e w' => e = .returned (.bool true) ∧ Below wr.heap.size wr w') from fun wr hb =>
    awake5_any wr (HV.out.below (HB3.out.trans (hb.mono HB3.out.size))) (HO.out.below (HB3.out.trans (hb.mono HB3.out.size))))
  have H3 := Lib.hid ((Below.refl w3.heap.size w3).drew)
  clear HA HR
  go_region_held3 (fun w' => w'.cell? ⟨bk, 0, none⟩ = some (.slice none 0 0) ∧ w'.cell? ⟨bk, 1, none⟩ = some (.int .i64 c)) (go_keep) (first
    | (go_at_call 13; ((with_reducible refine (HSM.out _ H3.out).mono ?_); rintro e w6 ⟨rfl, h1⟩; have H6 := Lib.hid (H3.out.trans (h1.mono H3.out.size)); have y0 := (H6.out.cell (p := ⟨bk, 0, none⟩) hbk).trans c0; have y1 := (H6.out.cell (p := ⟨bk, 1, none⟩) hbk).trans c1; clear h1))
    | (go_at_call 14; ((with_reducible refine (num_is _ _).mono ?_); rintro e wn ⟨rfl, rfl⟩))
    | (go_at_call 15; ((with_reducible refine (HTR.out _ H6.out).mono ?_); rintro e w7 ⟨rfl, h1⟩; have H7 := Lib.hid (H6.out.trans (h1.mono H6.out.size)); have z0 := (H7.out.cell (p := ⟨bk, 0, none⟩) hbk).trans c0; have z1 := (H7.out.cell (p := ⟨bk, 1, none⟩) hbk).trans c1; clear h1))
    | (go_at_call 10; ((with_reducible refine (HAW.out _ H7.out).mono ?_); rintro e w8 ⟨rfl, h1⟩; have H8 := Lib.hid (H7.out.trans (h1.mono H7.out.size)); have v0 := (H8.out.cell (p := ⟨bk, 0, none⟩) hbk).trans c0; have v1 := (H8.out.cell (p := ⟨bk, 1, none⟩) hbk).trans c1; clear h1)))
  all_goals go_wp2_with fail
  all_goals go_ret
  all_goals exact ⟨rfl, HB3.out.trans (H8.out.mono HB3.out.size)⟩

set_option maxRecDepth 100000 in
set_option maxHeartbeats 8000000 in
theorem ptexts_ok (s : ByteArray) (w : World) (hv : Vars w) (ho : OpV w) (h1 : s.size ≤ 1000) (ns : List Nd) (hp : PIs s (.ok ns)) :
    Calls Tryz.prog 3 #[.string s] w fun e w' => e = .returned (.bool true) ∧ Below w.heap.size w w' := by
  obtain ⟨htree, hpos⟩ := ok_tree s ns hp
  have hsz := PIs_sizes s ns hp
  have HA := Lib.hid (both_ok s w hv ho ns hp)
  have HR := Lib.hid (fun w => both_ref s w ns hp)
  obtain ⟨L, hL⟩ : ∃ L, ns.length = L := ⟨_, rfl⟩
  rw [hL] at HA HR
  have HLN := Lib.hid hL
  have HSZ := Lib.hid hsz; have HTREE := Lib.hid htree
  clear hL hsz htree hpos
  have HV := Lib.hid hv; have HO := Lib.hid ho
  have hi : ¬ (1000 : Int) < (s.size : Int) := by omega
  clear hv ho hp
  go_enter Tryz.func3, Tryz.ntmps3
  go_upto_region 5 with (first
    | (go_at_call 11; ((with_reducible refine HA.out.mono ?_); rintro e w1 ⟨hb, g1, cap1, l1, rfl, hm, hs⟩; have HS1 := Lib.hid hs; have HM1 := Lib.hid hm; have HB := Lib.hid hb; clear hb hs hm))
    | (go_at_call 12; ((with_reducible refine (HR.out _).mono ?_); rintro e w2 ⟨hb, hl, g2, cap2, l2, rfl, hm, hs⟩; have HS2 := Lib.hid hs; have HM2 := Lib.hid hm; have HS1 := Lib.hid (SN.below HS1.out hb); have HB := Lib.hid (HB.out.trans (hb.mono HB.out.size)); clear hb hs hm)))
  have hB3 : Below w2.heap.size w2 (w2.alloc (.cells #[.slice (some ⟨g2, 0, none⟩) L cap2, .int .i64 0] 28)) := (Below.refl _ _).alloc (Nat.le_refl _) _
  have hK3 := PkAt.new w2 (.slice (some ⟨g2, 0, none⟩) L cap2) 0
  have HB3 := Lib.hid (HB.out.trans (hB3.mono HB.out.size))
  have HP1 := Lib.hid (SN.below HS1.out hB3)
  have HP2 := Lib.hid (SN.below HS2.out hB3)
  clear HS1 HS2
  clear hB3 HB
  have hbk := hK3.lt
  generalize hbke : w2.heap.size = bk at hK3 hbk ⊢
  generalize w2.alloc (.cells #[.slice (some ⟨g2, 0, none⟩) L cap2, .int .i64 0] 28) = w3 at hK3 HB3 hbk HP1 HP2 ⊢
  obtain ⟨c0, c1⟩ := hK3.facts
  clear hK3 hbke
  have hl1 : l1.length = L := by rw [← HLN.out, ← HM1.out, List.length_map]
  have hl2 : l2.length = L := by rw [← HLN.out, ← HM2.out, List.length_map]
  have HZ := Lib.hid (show SZ l1 from ⟨by omega, fun p hp => HSZ.out p.1 (by rw [← HM1.out]; exact List.mem_map_of_mem hp)⟩)
  have HSM := Lib.hid (show ∀ wr, Below w3.heap.size w3 wr → Calls Tryz.prog 13 #[.slice (some ⟨g1, 0, none⟩) L cap1, .slice (some ⟨g2, 0, none⟩) L cap2] wr (fun e w' => e = .returned (.bool true) ∧ Below wr.heap.size wr w') from fun wr hb =>
    (refSame_any wr _ _ l1 l2 (SN.below HP1.out hb) (SN.below HP2.out hb) (by omega) (by omega)).mono fun e w' h => ⟨by
      rcases h.1.is with ⟨_, h⟩ | ⟨h, _⟩
      · exact h
      · exact absurd (HM1.out.trans HM2.out.symm) h, h.2⟩)
  have HTR := Lib.hid (show ∀ wr, Below w3.heap.size w3 wr → Calls Tryz.prog 15 #[.slice (some ⟨g1, 0, none⟩) L cap1] wr (fun e w' => e = .returned (.bool true) ∧ Below wr.heap.size wr w') from fun wr hb => by
    have := ptree_any wr _ l1 (HV.out.below (HB3.out.trans (hb.mono HB3.out.size))) (SN.below HP1.out hb) HZ.out
    rw [show l1.map (·.1) = ns from HM1.out, HTREE.out] at this
    exact this)
  clear hl hl1 hl2 HP1 HP2
  have HAW := Lib.hid (show ∀ wr, Below w3.heap.size w3 wr → Calls Tryz.prog 10 #[] wr (fun e w' => e = .returned (.bool true) ∧ Below wr.heap.size wr w') from fun wr hb =>
    awake5_any wr (HV.out.below (HB3.out.trans (hb.mono HB3.out.size))) (HO.out.below (HB3.out.trans (hb.mono HB3.out.size))))
  have H3 := Lib.hid ((Below.refl w3.heap.size w3).drew)
  clear HA HR
  go_region_held3 (fun w' => w'.cell? ⟨bk, 0, none⟩ = some (.slice (some ⟨g2, 0, none⟩) L cap2) ∧ w'.cell? ⟨bk, 1, none⟩ = some (.int .i64 0)) (go_keep) (first
    | (go_at_call 13; ((with_reducible refine (HSM.out _ H3.out).mono ?_); rintro e w6 ⟨rfl, h1⟩; have H6 := Lib.hid (H3.out.trans (h1.mono H3.out.size)); have y0 := (H6.out.cell (p := ⟨bk, 0, none⟩) hbk).trans c0; have y1 := (H6.out.cell (p := ⟨bk, 1, none⟩) hbk).trans c1; clear h1))
    | (go_at_call 14; ((with_reducible refine (num_is _ _).mono ?_); rintro e wn ⟨rfl, rfl⟩))
    | (go_at_call 15; ((with_reducible refine (HTR.out _ H6.out).mono ?_); rintro e w7 ⟨rfl, h1⟩; have H7 := Lib.hid (H6.out.trans (h1.mono H6.out.size)); have z0 := (H7.out.cell (p := ⟨bk, 0, none⟩) hbk).trans c0; have z1 := (H7.out.cell (p := ⟨bk, 1, none⟩) hbk).trans c1; clear h1))
    | (go_at_call 10; ((with_reducible refine (HAW.out _ H7.out).mono ?_); rintro e w8 ⟨rfl, h1⟩; have H8 := Lib.hid (H7.out.trans (h1.mono H7.out.size)); have v0 := (H8.out.cell (p := ⟨bk, 0, none⟩) hbk).trans c0; have v1 := (H8.out.cell (p := ⟨bk, 1, none⟩) hbk).trans c1; clear h1)))
  all_goals go_wp2_with fail
  all_goals go_ret
  all_goals exact ⟨rfl, HB3.out.trans (H8.out.mono HB3.out.size)⟩

set_option maxRecDepth 100000 in
set_option maxHeartbeats 2000000 in
theorem parseTexts_any (s : ByteArray) (w : World) (hv : Vars w) (ho : OpV w) : Calls Tryz.prog 3 #[.string s] w fun e w' => e = .returned (.bool true) ∧ Below w.heap.size w w' := by
  by_cases h1 : s.size ≤ 1000
  · obtain ⟨res, hp⟩ := PIs.all s
    cases res with
    | error c => exact ptexts_bad s w hv ho h1 c hp
    | ok ns => exact ptexts_ok s w hv ho h1 ns hp
  · have hi : (1000 : Int) < (s.size : Int) := by omega
    have HAW := Lib.hid (awake5_any w hv ho)
    clear hv ho
    go_enter Tryz.func3, Tryz.ntmps3
    go_wp2_with (go_at_call 10; ((with_reducible refine HAW.out.mono ?_); rintro e w2 ⟨rfl, h1⟩; have HB2 := Lib.hid h1; clear h1))
    go_ret
    exact ⟨rfl, HB2.out⟩
end Go.Proofs.YtdfpalocnijefaaGreatDoor

/-
  What every law's row asks behind its walk: the answer true; the arguments read as they did. One lemma for all laws, whatever their parameters.
-/
namespace Go.Proofs.YtdfpalocnijefaaGreatDoor
open Go.ChangeShapes Go.WideShapes Go.ChangeAt Go.RowKit

/-- Whatever was there below the old heap's end reads as it did. -/
theorem trodAll_below {H : Type} {enc : TypeId × Value → H} {P : Program} (hl : laidOutB P = true) {W W' : World} (hb : Below W.heap.size W W') :
    ∀ (ts : List TypeId) (vs : List Value) (ds : List (DataW H)) (p : List MemPlace), (ts.all fun t => P.readableRec t && decide (t < P.types.size)) = true → (∀ x ∈ p, x.block < W.heap.size) →
      DataW.TrodAll enc P W 0 (fun _ => true) true ts vs ds p → DataW.TrodAll enc P W' 0 (fun b => decide (b < W.heap.size)) true ts vs ds p := by
  intro ts
  induction ts with
  | nil =>
    intro vs ds p _ _ h
    obtain ⟨rfl, rfl, rfl⟩ := trodAll_nil h
    exact trodAll_mk0
  | cons t ts ih =>
    intro vs ds p ht hlt h
    obtain ⟨v, vs', d, ds', p1, q1, rfl, rfl, rfl, h0, hr⟩ := trodAll_cons h
    rw [List.all_cons, Bool.and_eq_true, Bool.and_eq_true, decide_eq_true_eq] at ht
    exact trodAll_cons_mk (Below.trod hl ht.1.1 ht.1.2 h0 hb (fun x hx => hlt x (List.mem_append_left _ hx))) (ih vs' ds' q1 ht.2 (fun x hx => hlt x (List.mem_append_right _ hx)) hr)

theorem own : ownKnob Tryz.prog.godebug = none := by kernel_rfl
theorem laidOut : laidOutB Tryz.prog = true := by kernel_rfl
/-- THE CLOSING: the law answers true and has left what was there. -/
theorem law_post {H : Type} {enc : TypeId × Value → H} {f : Func} {s : ChangeSpec} {W W' : World} {args : Array Value} {ds gs : List (DataW H)} {before : List MemPlace} (hl : laidOutB Tryz.prog = true)
    (hparams : (f.params.toList.all fun t => Tryz.prog.readableRec t && decide (t < Tryz.prog.types.size)) = true) (hres : f.resultTypes = #[4])
    (hvars : s.vars = []) (hfn : s.fn H (ds ++ gs) = { results := [.lit (.bool true)], args := ds })
    (hW : DataW.Whole enc Tryz.prog f.params.toList s.vars false W args.toList ds gs before) (hlt : ∀ x ∈ before, x.block < W.heap.size) (hb : Below W.heap.size W W') :
    s.post enc Tryz.prog f false true false false W args (.bool true) W' := by
  have hW0 := hW
  obtain ⟨p, q, hA, hV, rfl, _, _⟩ := hW
  refine ⟨ds, gs, p ++ q, [], p, [], hW0, ?_, ?_, ?_, hb.frame _, fun h => by cases h⟩
  · rw [hfn, hres]
    exact trodAll_cons_mk (shut_bool Tryz.underlying4 true) trodAll_mk0
  · rw [hfn]
    exact trodAll_below hl hb _ _ _ _ hparams (fun x hx => hlt x (List.mem_append_left _ hx)) hA
  · rw [hvars, hfn]; rfl
end Go.Proofs.YtdfpalocnijefaaGreatDoor

/-
  What a law over the signs, the operators and the library's errors asks: the variables' facts, a world for the witness.
-/
namespace Go.Proofs.YtdfpalocnijefaaGreatDoor
open Go.ChangeShapes Go.WideShapes Go.ChangeAt Go.RowKit

/-- Texts as a datum. -/
def textData {H : Type} (bs : List (List UInt8)) : DataW H := .agg (bs.map fun b => .lit (.string b))
/-- An array of texts that reads so holds the texts, cell for cell. -/
theorem cells_of_texts {H : Type} {enc : TypeId × Value → H} {P : Program} {w : World} {base : Nat} {sp : Nat → Bool} {held : Bool} {fuel : Nat} {t e : TypeId} {n : Nat} {cs : List Value} {bs : List (List UInt8)} {p : List MemPlace}
    (ht : P.underlying t = some (.array n e)) (he : P.underlying e = some .string) (hce : P.cellsOf e = 1) (hct : P.cellsOf t = n)
    (h : DataW.trod enc P w base sp held fuel t cs = some (textData bs, p)) : cs = bs.map fun b => Value.string ⟨b.toArray⟩ := by
  cases fuel with
  | zero => simp [DataW.trod] at h
  | succ fuel =>
    simp only [DataW.trod, ht, hce, hct, Nat.mul_one] at h
    split at h
    · rename_i hl
      obtain ⟨xs, hm, hx⟩ := Option.map_eq_some_iff.1 h
      have hxs : xs.map (·.1) = bs.map fun b => (DataW.lit (.string b) : DataW H) := by
        have := congrArg Prod.fst hx
        simpa [textData] using this
      have hxl : xs.length = n := by simpa using Lib.mapM_length hm
      have hzl : bs.length = n := by
        have := congrArg List.length hxs
        simp at this
        omega
      apply List.ext_getElem?
      intro i
      by_cases hi : i < n
      · obtain ⟨b, hb, hf⟩ := Lib.mapM_at hm i i (by simp [hi])
        obtain ⟨z, hc, rfl, _⟩ := DataW.trod_string he hf
        have h1 : cs[i]? = some (.string z) := by
          have := congrArg (·[0]?) hc
          simpa [List.getElem?_take, List.getElem?_drop] using this
        have h2 : (xs.map (·.1))[i]? = some (DataW.lit (.string z.data.toList) : DataW H) := by simp [hb]
        rw [hxs] at h2
        simp only [List.getElem?_map, Option.map_eq_some_iff, DataW.lit.injEq, Lit.string.injEq] at h2
        obtain ⟨z', hz', e⟩ := h2
        simp only [h1, List.getElem?_map, hz', Option.map_some, e]
      · rw [List.getElem?_eq_none (by omega), List.getElem?_eq_none (by simp; omega)]
    · cases h
def laidList : List (String × DataW Unit) := [("math/bits.deBruijn32tab", Rows.laid_math_bits_deBruijn32tab), ("math/bits.deBruijn64tab", Rows.laid_math_bits_deBruijn64tab), ("internal/strconv.uint64pow10", Rows.laid_internal_strconv_uint64pow10), ("strconv.ErrRange", Rows.laid_strconv_ErrRange), ("strconv.ErrSyntax", Rows.laid_strconv_ErrSyntax), ("chequer/lex.signs", Rows.laid_chequer_lex_signs), ("chequer/parse.operators", Rows.laid_chequer_parse_operators)]
theorem gErr : Tryz.prog.globalNamed "strconv.ErrRange" = some 4 := by kernel_rfl
theorem gErr_t : (Tryz.prog.globals[(4 : Nat)]?).map (·.type) = some 105 := by kernel_rfl
theorem gSig : Tryz.prog.globalNamed "chequer/lex.signs" = some 1 := by kernel_rfl
theorem gSig_t : (Tryz.prog.globals[(1 : Nat)]?).map (·.type) = some 139 := by kernel_rfl
theorem cellsErr : Tryz.prog.cellsOf 187 = 1 := by kernel_rfl
theorem cellsStr : Tryz.prog.cellsOf 9 = 1 := by kernel_rfl
theorem cellsSig : Tryz.prog.cellsOf 139 = 15 := by kernel_rfl
theorem star : "*" ++ "errors.errorString" = "*errors.errorString" := by decide
theorem rowErr (u : TypeId) (h : Tryz.prog.typeName? 3 u = some "*errors.errorString") : u = 185 :=
  typeName_ptr_named (nm := "errors.errorString") (by rw [star]; kernel_rfl) (by kernel_rfl) (by decide) u (by rw [star]; exact h)
def sigBytes : List (List UInt8) := [[60, 62], [60, 61], [62, 61], [43], [45], [42], [47], [38], [61], [60], [62], [40], [41], [44], [58]]
theorem sigData : (Rows.laid_chequer_lex_signs : DataW Unit) = textData sigBytes := rfl
theorem sigCells : (sigBytes.map fun b => Value.string ⟨b.toArray⟩) = sigA.toList := rfl
/-- What a row's list gives. -/
theorem tables {W : World} (h : laidMetH Tryz.prog laidList W) : Vars W := by
  have h1 : laidMet Tryz.prog laidList W := h
  have h4 := laidMet.tail (laidMet.tail (laidMet.tail h1))
  constructor
  · obtain ⟨a0, s0, hv0, -, -, -⟩ := laid_sentinel h4 gErr gErr_t Tryz.underlying105 rowErr Tryz.underlying185 Tryz.underlying187 rfl rfl Tryz.underlying9 cellsErr cellsStr
    exact ⟨_, by have h0 := World.var?_cell gErr hv0 0; simpa using h0, Or.inr ⟨_, _, rfl⟩⟩
  · have h6 := laidMet.tail (laidMet.tail h4)
    obtain ⟨ps, ⟨g', t', cs, fuel, p, q, hg', ht', hvar, hd, _, _⟩, _⟩ := h6
    obtain rfl := Option.some.inj (gSig.symm.trans hg')
    obtain rfl := Option.some.inj (gSig_t.symm.trans ht')
    rw [sigData] at hd
    have hc := cells_of_texts Tryz.underlying139 Tryz.underlying9 cellsStr cellsSig hd
    rw [sigCells] at hc
    unfold World.var? at hvar
    rw [gSig] at hvar
    simp only [Option.bind_some] at hvar
    split at hvar
    · rename_i cs' ty fr hh
      injection hvar with hvar
      subst hvar
      have : cs' = sigA := Array.toList_inj.1 hc
      exact ⟨ty, fr, by rw [← this]; exact hh⟩
    · cases hvar
/-- The operators' cells. -/
def opC (q : ByteArray × Nat × Int) : List Value := [.string q.1, .int .i64 (q.2.1 : Int), .int .i64 q.2.2]
theorem cells3 : ∀ (L : List (ByteArray × Nat × Int)) (cs : List Value), cs.length = L.length * 3 → (∀ (i : Nat) q, L[i]? = some q → (cs.drop (i * 3)).take 3 = opC q) → cs = L.flatMap opC
  | [], cs, h, _ => by simpa using h
  | q :: L, cs, h, hi => by
    have h0 := hi 0 q rfl
    rw [Nat.zero_mul, List.drop_zero] at h0
    have h1 := cells3 L (cs.drop 3) (by rw [List.length_drop, h, List.length_cons]; omega) (fun i q' hq => by
      have := hi (i + 1) q' (by simpa using hq)
      rw [Nat.succ_mul] at this
      rw [List.drop_drop, Nat.add_comm 3]; exact this)
    rw [List.flatMap_cons, ← h0, ← h1, List.take_append_drop]
def opData {H : Type} (q : ByteArray × Nat × Int) : DataW H := .agg [.lit (.string q.1.data.toList), .lit (.int .i64 (q.2.1 : Int)), .lit (.int .i64 q.2.2)]
theorem opsData : (Rows.laid_chequer_parse_operators : DataW Unit) = .agg (opL3.map opData) := rfl
theorem gOps : Tryz.prog.globalNamed "chequer/parse.operators" = some 2 := by kernel_rfl
theorem gOps_t : (Tryz.prog.globals[(2 : Nat)]?).map (·.type) = some 142 := by kernel_rfl
theorem cellsOps : Tryz.prog.cellsOf 142 = 33 := by kernel_rfl
theorem cellsOp : Tryz.prog.cellsOf 141 = 3 := by kernel_rfl
theorem cellsInt : Tryz.prog.cellsOf 3 = 1 := by kernel_rfl
set_option maxRecDepth 100000 in
theorem op_of_trod {enc : TypeId × Value → Unit} {w : World} {base : Nat} {sp : Nat → Bool} {held : Bool} {fuel : Nat} {cs : List Value} {q : ByteArray × Nat × Int} {p : List MemPlace}
    (h : DataW.trod enc Tryz.prog w base sp held fuel 141 cs = some (opData q, p)) : cs = opC q := by
  obtain ⟨y0, y1, y2, n, hx, hl, h0, h1, h2⟩ := Go.Deep.trod_struct3 Tryz.underlying141 h
  injection hx with hx _
  unfold opData at hx
  injection hx with hx
  injection hx with e0 hx; injection hx with e1 hx; injection hx with e2 _
  rw [cellsOp] at hl
  match cs, hl with
  | [c0, c1, c2], _ =>
    obtain ⟨s, g0, g0', _⟩ := DataW.trod_string Tryz.underlying9 h0
    obtain ⟨n1, g1, g1', _⟩ := DataW.trod_int Tryz.underlying3 h1
    obtain ⟨n2, g2, g2', _⟩ := DataW.trod_int Tryz.underlying3 h2
    have k0 : [c0] = [Value.string s] := g0
    have k1 : [c1] = [Value.int .i64 n1] := g1
    have k2 : [c2] = [Value.int .i64 n2] := g2
    injection k0 with k0 _; injection k1 with k1 _; injection k2 with k2 _
    rw [g0'] at e0; rw [g1'] at e1; rw [g2'] at e2
    injection e0 with e0; injection e0 with e0
    injection e1 with e1; injection e1 with _ e1
    injection e2 with e2; injection e2 with _ e2
    have es : s = q.1 := by
      cases s; cases hq : q.1
      rw [hq] at e0
      simp only at e0
      rw [Array.toList_inj.1 e0.symm]
    rw [k0, k1, k2, es, ← e1, ← e2]; rfl
set_option maxRecDepth 100000 in
theorem cells_of_ops {enc : TypeId × Value → Unit} {w : World} {base : Nat} {sp : Nat → Bool} {held : Bool} {fuel : Nat} {cs : List Value} {p : List MemPlace}
    (h : DataW.trod enc Tryz.prog w base sp held fuel 142 cs = some (.agg (opL3.map opData), p)) : cs = opL3.flatMap opC := by
  obtain ⟨xs, m, _, hx, hl, hxl, hi⟩ := DataW.trod_array Tryz.underlying142 h
  injection hx with hx _
  injection hx with hx
  rw [cellsOps] at hl
  refine cells3 opL3 cs (by rw [hl]; rfl) fun i q hq => ?_
  have hlt := (List.getElem?_eq_some_iff.1 hq).1
  have hlt : i < 11 := hlt
  have h1 := hi i hlt
  rw [cellsOp] at h1
  obtain ⟨y, hy⟩ : ∃ y, xs[i]? = some y := ⟨_, List.getElem?_eq_getElem (by omega)⟩
  rw [hy] at h1
  have h2 : (xs.map (·.1))[i]? = some y.1 := by rw [List.getElem?_map, hy]; rfl
  rw [← hx, List.getElem?_map, hq] at h2
  have h2 : opData q = y.1 := Option.some.inj h2
  obtain ⟨y1, y2⟩ := y
  have h2 : opData q = y1 := h2
  subst h2
  exact op_of_trod h1
theorem opA_list : opA.toList = opL3.flatMap opC := rfl
/-- The operators out of a row's list. -/
theorem tablesOp {W : World} (h : laidMetH Tryz.prog laidList W) : OpV W := by
  have h1 : laidMet Tryz.prog laidList W := h
  have h4 := laidMet.tail (laidMet.tail (laidMet.tail (laidMet.tail (laidMet.tail (laidMet.tail h1)))))
  obtain ⟨ps, ⟨g', t', cs, fuel, p, q, hg', ht', hvar, hd, _, _⟩, _⟩ := h4
  obtain rfl := Option.some.inj (gOps.symm.trans hg')
  obtain rfl := Option.some.inj (gOps_t.symm.trans ht')
  rw [opsData] at hd
  have hc := cells_of_ops hd
  rw [← opA_list] at hc
  unfold World.var? at hvar
  rw [gOps] at hvar
  simp only [Option.bind_some] at hvar
  split at hvar
  · rename_i cs' ty fr hh
    injection hvar with hvar
    subst hvar
    have : cs' = opA := Array.toList_inj.1 hc
    exact ⟨ty, fr, by rw [← this]; exact hh⟩
  · cases hvar
/-- A WORLD FOR THE WITNESS: the settled one, the variables holding what their initialisers lay. -/
noncomputable def laidWorld (os : Os) : World := World.laidAll Tryz.prog os laidList
theorem laid_met0 (os : Os) (args : Array Value) : laidMet Tryz.prog laidList ((laidWorld os).forCall (fun _ _ => 0) ⟨#[], args, []⟩).memory := laidMet_laidAll args (by kernel_rfl) (by kernel_rfl)
end Go.Proofs.YtdfpalocnijefaaGreatDoor

namespace Go.Proofs.YtdfpalocnijefaaGreatDoor.lawPTexts
open Go.ChangeShapes Go.WideShapes Go.ChangeAt Go.RowKit
open Go.WideMaps Go.WideElems
open Go.ChangeMaps (open_string shut_string)

set_option maxRecDepth 100000 in
theorem contract (H : Type) (enc : TypeId × Value → H) (W : World) (base : Nat) (args : Array Value) (ds gs : List (DataW H)) (before : List MemPlace)
    (hval : ∀ (j : Nat) t v, Tryz.f3.params[j]? = some t → args[j]? = some v → Value.okWide Tryz.prog W .any base t v)
    (hW : DataW.Whole enc Tryz.prog Tryz.f3.params.toList Rows.parseTextsSpec.vars false W args.toList ds gs before) (hL : laidMetH Tryz.prog Rows.parseTextsRow.laid W) :
    Calls Tryz.prog 3 args W fun e W' => ∃ v, e = .returned v ∧ Rows.parseTextsSpec.post enc Tryz.prog Tryz.f3 false true false false W args v W' := by
  have hW' := hW
  have hlt := hW.lt
  obtain ⟨p, q, hA, hV, rfl, hfz, hnd⟩ := hW
  rw [Tryz.params3] at hA hval
  obtain ⟨v0, vs0, d0, ds0, p0, q0, hargs, rfl, rfl, h0, r0⟩ := trodAll_cons hA
  obtain ⟨rfl, rfl, rfl⟩ := trodAll_nil r0
  obtain rfl : args = #[v0] := by cases args; simp_all
  obtain ⟨rfl, rfl⟩ := trodVars_none hV
  obtain ⟨s0, rfl, rfl, rfl, hs0⟩ := open_string Tryz.underlying9 (hval 0 9 v0 rfl rfl) h0
  have hL2 : laidMetH Tryz.prog laidList W := by rw [show laidList = Rows.parseTextsRow.laid from rfl]; exact hL
  refine (parseTexts_any s0 W (tables hL2) (tablesOp hL2)).mono fun e W' ⟨he, hb⟩ => ?_
  subst he
  exact ⟨_, rfl, law_post laidOut (by kernel_rfl) (by kernel_rfl) rfl rfl hW' hlt hb⟩

set_option maxRecDepth 100000 in
theorem laid_met (os : Os) : laidMet Tryz.prog Rows.parseTextsRow.laid ((laidWorld os).forCall (fun _ _ => 0) ⟨#[], #[.string ⟨#[]⟩], []⟩).memory :=
  laid_met0 os _
theorem reads (os : Os) {H : Type} (enc : TypeId × Value → H) : ∃ places, DataW.whole enc Tryz.prog ((laidWorld os).forCall (fun _ _ => 0) ⟨#[], #[.string ⟨#[]⟩], []⟩).memory Tryz.f3.params.toList Rows.parseTextsSpec.vars false (#[.string ⟨#[]⟩] : Array Value).toList 8 = some ([.lit (.string [])], [], places) :=
  ⟨[], by kernel_rfl⟩

set_option maxRecDepth 100000 in
theorem lifted (os : Os) (started : os.Started) (H : Type) (enc : TypeId × Value → H) (F : Stop.Interp) :
    ReturnsInHanded {} Tryz.checked os 3 .any ((OpenSpec.ofChange Rows.parseTextsSpec).preRow enc Tryz.prog Tryz.f3 Rows.parseTextsRow.domain false Rows.parseTextsRow.laid) (((OpenSpec.ofChange Rows.parseTextsSpec).at F).post enc Tryz.prog Tryz.f3 false true false false) := by
  obtain ⟨places, hx⟩ := reads os enc
  refine returnsInHanded_of_row (C := Tryz.checked) (s := OpenSpec.ofChange Rows.parseTextsSpec) own started (by kernel_rfl) Tryz.func3
    (witness_row_at (enc := enc) (C := Tryz.checked) false (laidWorld os) #[.string ⟨#[]⟩] (World.laidAll_os _ _ _) (by kernel_rfl) (by kernel_rfl) (by kernel_rfl)
      (OpenSpec.preRow_of_cond 8 hx (by kernel_rfl) (fun k hk => by cases hk) (by kernel_rfl) (laid_met os))) ?_
  intro W base args ds gs before hval hW _ _ _ hL _ _
  exact contract H enc W base args ds gs before hval hW hL

theorem said : Rows.ParseTextsSaid :=
  OpenClaim.holds_of_cond 3 Tryz.f3 rfl rfl rfl rfl rfl rfl rfl ⟨rfl, rfl, rfl, rfl, rfl⟩ rfl rfl rfl rfl rfl (by kernel_rfl) Tryz.func3 (by kernel_rfl)
    (of_decide_eq_true (by kernel_rfl)) (by unfold Func.isWrapper; first | (rw [if_pos (by decide +kernel)]; kernel_rfl) | (rw [if_neg (by decide +kernel)]; exact ⟨rfl, rfl⟩))
    (fun os started H enc _ F => by rw [OpenClaim.pre_eq_preRow]; exact lifted os started H enc F)

theorem plain (f : FuncId) (fn : Func) (hf : Tryz.pinned.checked.prog.funcNamed "chequer/chequerlaw5.ParseTexts" = some f) (hfn : Tryz.pinned.checked.prog.funcs[f]? = some fn) :
    true = Tryz.pinned.checked.prog.looks [] ∧ ∀ (j : Nat) t, fn.params[j]? = some t → Tryz.pinned.checked.prog.wantsStandIn t = false := by
  obtain rfl : f = 3 := Option.some.inj ((show Tryz.prog.funcNamed "chequer/chequerlaw5.ParseTexts" = some 3 by kernel_rfl).symm.trans hf) |>.symm
  obtain rfl : fn = Tryz.f3 := (Option.some.inj (Tryz.func3.symm.trans hfn)).symm
  refine ⟨by kernel_rfl, fun j t ht => ?_⟩
  rw [Tryz.params3] at ht
  have hall : (#[9].all fun t => !Tryz.prog.wantsStandIn t) = true := by kernel_rfl
  have := (Array.all_eq_true_iff_forall_mem.1 hall) t (Array.mem_of_getElem? ht)
  exact (show Tryz.prog.wantsStandIn t = false from by simpa using this)

/-- THE CARD -/
theorem card : Rows.ParseTextsCardSaid :=
  Claim7.holds_tied_plain_at .later [] _ _ _ _ said (fun _ h => by cases h) (by kernel_rfl) (fun _ h => by cases h) parseTexts_row_tie rfl ⟨rfl, rfl⟩ (by kernel_rfl) rfl plain (by kernel_rfl)
end Go.Proofs.YtdfpalocnijefaaGreatDoor.lawPTexts
