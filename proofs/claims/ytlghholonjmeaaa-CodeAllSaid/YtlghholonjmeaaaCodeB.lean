/-
  A number read: the program's reader and the reference's.
-/
import Derived.Test.YtlghholonjmeaaaCodeM
import Derived.Test.YtlghholonjmeaaaOwnS
import Derived.IntWalk
namespace Go.Proofs.Ytlghholonjmeaaa
open Go.RowKit

/-- A reader: its bytes, its place. -/
def RdAt (w : World) (r : Nat) (A : Option Addr) (len cap : Nat) (k : Int) : Prop := w.heap[r]? = some (.cells #[.slice A len cap, .int .i64 k] 43)
section
variable {w w' : World} {r : Nat} {A : Option Addr} {len cap : Nat} {k : Int}
theorem RdAt.c0 (h : RdAt w r A len cap k) : w.cell? ⟨r, 0, none⟩ = some (.slice A len cap) := by rw [cell_of_row w r 0 _ _ _ h]; rfl
theorem RdAt.c1 (h : RdAt w r A len cap k) : w.cell? ⟨r, 1, none⟩ = some (.int .i64 k) := by rw [cell_of_row w r 1 _ _ _ h]; rfl
theorem RdAt.frozen (h : RdAt w r A len cap k) (j : Nat) : w.frozen? ⟨r, j, none⟩ = false := frozen_of_row w r j _ _ h
theorem RdAt.lt (h : RdAt w r A len cap k) : r < w.heap.size := (Array.getElem?_eq_some_iff.1 h).1
theorem RdAt.set (h : RdAt w r A len cap k) (j : Int) : RdAt (w.setCell ⟨r, 1, none⟩ (.int .i64 j)) r A len cap j := by unfold RdAt; rw [heap_setCell_same w r 1 _ _ _ h]; rfl
theorem RdAt.drewN (h : RdAt w r A len cap k) (n : Nat) : RdAt (w.drewN n) r A len cap k := h
theorem RdAt.below {B : Nat} (h : RdAt w r A len cap k) (hb : Below B w w') (hr : r < B) : RdAt w' r A len cap k := by unfold RdAt; rw [hb.block r hr]; exact h
end
/-- What a reader of a number leaves. -/
def NumPost (o : Option (Nat × Nat)) (r : Nat) (A : Option Addr) (len cap : Nat) (w : World) (e : Ending) (w' : World) : Prop :=
  ∃ (v : Nat) (ok : Bool) (k : Int), e = .returned (.tuple #[.int .i64 (v : Int), .bool ok]) ∧ RdAt w' r A len cap k ∧ w.grownBy w' (some r) ∧ (o = none ∧ v = 0 ∧ ok = false ∨ ∃ p : Nat, o = some (v, p) ∧ ok = true ∧ k = (p : Int))

theorem ofInt_i64 (a : Nat) (ha : a < 9223372036854775808) : (BitVec.ofInt 64 (a : Int)).toNat = a := by
  rw [BitVec.ofInt_natCast, BitVec.toNat_ofNat]; exact Nat.mod_eq_of_lt (by omega)
theorem i64_or_nat (a b : Nat) (ha : a < 9223372036854775808) (hb : b < 9223372036854775808) : bits .or .i64 (a : Int) (b : Int) = ((a ||| b : Nat) : Int) := by
  have hx : a ||| b < 2 ^ 63 := Nat.or_lt_two_pow (by omega) (by omega)
  show IntKind.i64.wrap ((BitVec.ofInt 64 (a : Int) ||| BitVec.ofInt 64 (b : Int)).toNat : Int) = _
  rw [BitVec.toNat_or, ofInt_i64 a ha, ofInt_i64 b hb, IntKind.wrap_i64]
  omega
/-- Seven bits more. -/
theorem or_seven (i n c : Nat) (hi : i < 9) (hn : n < 2 ^ (7 * i)) : bits .or .i64 (n : Int) (wrap64 ((c : Int) % 128 * 2 ^ (7 * i))) = ((n + c % 128 * 2 ^ (7 * i) : Nat) : Int) := by
  have h1 : 2 ^ (7 * i) ≤ 2 ^ 56 := Nat.pow_le_pow_right (by omega) (by omega)
  have h2 : c % 128 * 2 ^ (7 * i) ≤ 127 * 2 ^ (7 * i) := Nat.mul_le_mul_right _ (by omega)
  have e : ((c : Int) % 128 * 2 ^ (7 * i)) = ((c % 128 * 2 ^ (7 * i) : Nat) : Int) := by simp
  rw [e, IntWalk.wrap64_in _ (by omega), i64_or_nat _ _ (by omega) (by omega), Nat.or_comm, nat_join (7 * i) _ n (Nat.mul_mod_left _ _) hn]
  omega
theorem seven_lt (i n c : Nat) (hn : n < 2 ^ (7 * i)) : n + c % 128 * 2 ^ (7 * i) < 2 ^ (7 * (i + 1)) := by
  have h2 : c % 128 * 2 ^ (7 * i) ≤ 127 * 2 ^ (7 * i) := Nat.mul_le_mul_right _ (by omega)
  rw [show 7 * (i + 1) = 7 + 7 * i from by omega, Nat.pow_add]; omega
theorem lt_seven (i : Nat) (hi : i ≤ 9) : 2 ^ (7 * i) ≤ 9223372036854775808 := by
  have h1 : 2 ^ (7 * i) ≤ 2 ^ 63 := Nat.pow_le_pow_right (by omega) (by omega)
  omega

set_option maxRecDepth 100000 in
set_option maxHeartbeats 400000 in
theorem number_any (r B : Nat) (A : Option Addr) (len cap k : Nat) (xs : List Int) (w : World) (hS : S8 w B A len cap xs) (_hB : B ≤ r) (hr : RdAt w r A len cap k) (_hk : k ≤ 9223372036854775807) :
    Calls Try.prog 22 #[.pointer (some ⟨r, 0, none⟩)] w (NumPost (getL xs k) r A len cap w) := by
  have hbl := hr.lt
  have c1 := hr.c1
  have hmax := hS.max
  have hle := hS.le
  unfold maxLen at hmax
  have HS := Lib.hid hS; clear hS
  have HR := Lib.hid hr; clear hr
  go_enter Try.func22, Try.ntmps22
  go_wp2_with fail
  clear c1
  go_loopw [4, 5, 6] (fun tn ti _ wr => ∃ (i n p : Nat), i ≤ 9 ∧ p ≤ 9223372036854775807 ∧ tn = .int .i64 (n : Int) ∧ ti = .int .i64 (i : Int) ∧ Hid (getL xs k = contF xs i n p ∧ n < 2 ^ (7 * i) ∧ RdAt wr r A len cap p ∧ w.grownBy wr (some r)))
    (fun _ ti _ _ => 9 - (intOf ti).toNat)
  case atStart => exact ⟨0, 0, k, by omega, by omega, rfl, rfl, Lib.hid ⟨(contF_start _ _).symm, by omega, HR.out, grownBy.refl' _ _⟩⟩
  case round =>
    obtain ⟨i, n, p, hi9, hp63, rfl, rfl, HM⟩ := hrel
    have c0 := HM.out.2.2.1.c0
    have c1 := HM.out.2.2.1.c1
    have f1 := HM.out.2.2.1.frozen 1
    by_cases hi : i < 9
    · by_cases hp : p < len
      · obtain ⟨pb, po, hA, hpb, hcell⟩ : ∃ pb po, A = some ⟨pb, po, none⟩ ∧ pb < B ∧ ∀ j, j < len → w.cell? ⟨pb, po + j, none⟩ = some (.int .u8 (xs.getD j 0)) := by
          rcases HS.out.at_ with h | h
          · omega
          · exact h
        subst hA
        obtain ⟨c, hc⟩ : ∃ c : Nat, xs.getD p 0 = (c : Int) := ⟨(xs.getD p 0).toNat, by have := (HS.out.bytes.get p).1; omega⟩
        have hc255 : c ≤ 255 := by have := (HS.out.bytes.get p).2; omega
        have hcl : wr.cell? ⟨pb, po + p, none⟩ = some (.int .u8 (c : Int)) := by rw [← hc, cell_other HM.out.2.2.2 (by show pb < w.heap.size; omega) (by intro h; have : pb = r := Option.some.inj h; omega)]; exact hcell p hp
        have HC := Lib.hid hc; clear hc hcell
        have hii : (i : Int) < 9 := by omega
        have hpi : (p : Int) < (len : Int) := by omega
        have hpi0 : (0 : Int) ≤ (p : Int) := by omega
        have hor := or_seven i n c hi HM.out.2.1
        have HOR := Lib.hid hor; clear hor
        by_cases h128 : 128 ≤ c
        · have ht1 : (128 : Int) ≤ (c : Int) := by omega
          go_wp2_with fail
          go_quiet (fail)
          go_wp2_with fail
          go_quiet (fail)
          go_wp2_with fail
          go_roundw
          case rel =>
            refine ⟨i + 1, n + c % 128 * 2 ^ (7 * i), p + 1, by omega, by omega, by rw [HOR.out], by go_num, Lib.hid ⟨?_, seven_lt i n c HM.out.2.1, ?_, grownBy.setCell' (grownBy.drewN' HM.out.2.2.2 _) _ _⟩⟩
            · rw [HM.out.1, contF_more xs i n p hi (by rw [HS.out.hlen]; exact hp) c HC.out h128, show c % 128 = c - 128 from by omega]
            · rw [show (((p + 1 : Nat)) : Int) = (p : Int) + 1 from by omega]; exact RdAt.set (RdAt.drewN HM.out.2.2.1 _) _
          case measure => simp [intOf]; omega
        · have hnt1 : ¬ (128 : Int) ≤ (c : Int) := by omega
          by_cases hz : c = 0 ∧ 0 < i
          · have hz0 : ((c : Int) == 0) = true := beq_iff_eq.2 (by omega)
            have hi0 : (0 : Int) < (i : Int) := by omega
            have hbad := contF_bad xs i n p hi hz.2 (by rw [HS.out.hlen]; exact hp) (by rw [HC.out, hz.1]; rfl)
            have HBAD := Lib.hid hbad; clear hbad hz
            go_wp2_with fail
            go_quiet (fail)
            go_wp2_with fail
            go_quiet (fail)
            go_wp2_with fail
            go_ret2
            refine ⟨0, false, _, rfl, RdAt.set (RdAt.drewN HM.out.2.2.1 _) _, grownBy.setCell' (grownBy.drewN' HM.out.2.2.2 _) _ _, .inl ⟨?_, rfl, rfl⟩⟩
            rw [HM.out.1, HBAD.out]
          · have hlast := contF_last xs i n p hi (by rw [HS.out.hlen]; exact hp) c HC.out (by omega) hz
            have HLAST := Lib.hid hlast; clear hlast
            have hcm : c % 128 = c := by omega
            have HCM := Lib.hid hcm; clear hcm
            have hpost : ∀ (a : Int) (W : World), a = bits .or .i64 (n : Int) (wrap64 ((c : Int) % 128 * 2 ^ (7 * i))) → RdAt W r (some ⟨pb, po, none⟩) len cap ((p : Int) + 1) → w.grownBy W (some r) → NumPost (getL xs k) r (some ⟨pb, po, none⟩) len cap w (.returned (.tuple #[.int .i64 a, .bool true])) W := by
              intro a W ha h1 h2
              refine ⟨n + c % 128 * 2 ^ (7 * i), true, _, by rw [ha, HOR.out], h1, h2, .inr ⟨p + 1, ?_, rfl, by omega⟩⟩
              rw [HM.out.1, HLAST.out, HCM.out]
            have HPOST := Lib.hid hpost; clear hpost
            by_cases hz0 : c = 0
            · have hz1 : ((c : Int) == 0) = true := beq_iff_eq.2 (by omega)
              have hi0 : ¬ (0 : Int) < (i : Int) := by omega
              clear hz hz0
              go_wp2_with fail
              go_quiet (fail)
              go_wp2_with fail
              go_quiet (fail)
              go_wp2_with fail
              go_ret2
              exact HPOST.out _ _ rfl (RdAt.set (RdAt.drewN HM.out.2.2.1 _) _) (grownBy.setCell' (grownBy.drewN' HM.out.2.2.2 _) _ _)
            · have hz1 : ((c : Int) == 0) = false := beq_eq_false_iff_ne.2 (by omega)
              clear hz hz0
              go_wp2_with fail
              go_quiet (fail)
              go_wp2_with fail
              go_quiet (fail)
              go_wp2_with fail
              go_ret2
              exact HPOST.out _ _ rfl (RdAt.set (RdAt.drewN HM.out.2.2.1 _) _) (grownBy.setCell' (grownBy.drewN' HM.out.2.2.2 _) _ _)
      · have hpi : ¬ (p : Int) < (len : Int) := by omega
        have hii : (i : Int) < 9 := by omega
        have hend := contF_end xs i n p (.inr (by rw [HS.out.hlen]; omega))
        have HEND := Lib.hid hend; clear hend
        go_wp2_with fail
        go_quiet (fail)
        go_wp2_with fail
        go_ret2
        exact ⟨0, false, _, rfl, RdAt.drewN HM.out.2.2.1 _, grownBy.drewN' HM.out.2.2.2 _, .inl ⟨by rw [HM.out.1, HEND.out], rfl, rfl⟩⟩
    · have hii : decide ((i : Int) < 9) = false := by simp; omega
      have hend := contF_end xs i n p (.inl (by omega))
      have HEND := Lib.hid hend; clear hend
      go_wp2_with fail
      go_quiet (fail)
      go_wp2_with fail
      go_ret2
      exact ⟨0, false, _, rfl, RdAt.drewN HM.out.2.2.1 _, grownBy.drewN' HM.out.2.2.2 _, .inl ⟨by rw [HM.out.1, HEND.out], rfl, rfl⟩⟩
end Go.Proofs.Ytlghholonjmeaaa
