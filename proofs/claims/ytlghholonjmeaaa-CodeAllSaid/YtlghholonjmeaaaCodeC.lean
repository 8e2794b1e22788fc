/-
  Get: the program's and the reference's.
-/
import Derived.Test.YtlghholonjmeaaaCodeB
namespace Go.Proofs.Ytlghholonjmeaaa
open Go.RowKit

/-- What a Get answers: a number and the place behind it, or nothing. -/
def GetPost (o : Option (Nat × Nat)) (w : World) (e : Ending) (w' : World) : Prop :=
  ∃ (v p : Nat) (ok : Bool), e = .returned (.tuple #[.int .i64 (v : Int), .int .i64 (p : Int), .bool ok]) ∧ Below w.heap.size w w' ∧ (o = none ∧ v = 0 ∧ p = 0 ∧ ok = false ∨ o = some (v, p) ∧ ok = true)
/-- From a world in which one block of the call's own has turned. -/
theorem below_of_grownBy {w w1 w2 : World} {r B : Nat} (hb : Below B w w1) (h : w1.grownBy w2 (some r)) (hB : B ≤ w1.heap.size) (hr : B ≤ r) : Below B w w2 :=
  hb.grown h hB (fun k hk => by cases hk; exact hr)

set_option maxHeartbeats 400000 in
theorem number_neg (r : Nat) (A : Option Addr) (len cap : Nat) (k : Int) (w : World) (hr : RdAt w r A len cap k) (_hk : k < 0) :
    Calls Try.prog 22 #[.pointer (some ⟨r, 0, none⟩)] w (NumPost none r A len cap w) := by
  have c1 := hr.c1
  have HR := Lib.hid hr; clear hr
  go_enter Try.func22, Try.ntmps22
  go_wp2_with fail
  go_ret2
  exact ⟨0, false, _, rfl, HR.out, grownBy.refl' _ _, .inl ⟨rfl, rfl, rfl⟩⟩

set_option maxRecDepth 100000 in
set_option maxHeartbeats 400000 in
theorem readInt_any (o : Option (Nat × Nat)) (r : Nat) (A : Option Addr) (len cap : Nat) (w0 w : World) (_hw : Below w0.heap.size w0 w) (_hr0 : w0.heap.size ≤ r) (hN : Calls Try.prog 22 #[.pointer (some ⟨r, 0, none⟩)] w (NumPost o r A len cap w)) :
    Calls Try.prog 21 #[.pointer (some ⟨r, 0, none⟩), .func (.func 22) #[.pointer (some ⟨r, 0, none⟩)] #[]] w (GetPost o w0) := by
  have HN := Lib.hid hN; clear hN
  go_enter Try.func21, Try.ntmps21
  go_wp2_with fail
  refine HN.out.mono ?_
  rintro e w1 ⟨v, ok, k, rfl, h1, h2, h3⟩
  have hb := below_of_grownBy _hw h2 _hw.size _hr0
  have HB := Lib.hid hb; clear hb h2
  have c1 := h1.c1
  have H1 := Lib.hid h1; clear h1
  rcases h3 with ⟨ho, rfl, rfl⟩ | ⟨p, ho, rfl, rfl⟩
  · have HO := Lib.hid ho; clear ho
    go_wp2_with fail
    go_ret3
    exact ⟨0, 0, false, rfl, HB.out, .inl ⟨HO.out, rfl, rfl, rfl⟩⟩
  · have HO := Lib.hid ho; clear ho
    go_wp2_with fail
    go_quiet (fail)
    go_wp2_with fail
    go_ret3
    exact ⟨v, p, true, rfl, below_drewN HB.out _, .inr ⟨HO.out, rfl⟩⟩

set_option maxRecDepth 100000 in
set_option maxHeartbeats 400000 in
theorem get_any (A : Option Addr) (len cap k : Nat) (xs : List Int) (w : World) (hS : S8 w w.heap.size A len cap xs) (_hk : k ≤ 9223372036854775807) :
    Calls Try.prog 8 #[.slice A len cap, .int .i64 (k : Int)] w (GetPost (getL xs k) w) := by
  have HS := Lib.hid hS; clear hS
  have hmf : ∀ (fn : Fn) (first cap : Array Value) (w : World), (Instr.makeFunc fn first cap).run Try.prog w = .ok (.func fn first cap) w := fun _ _ _ _ => rfl
  go_enter Try.func8, Try.ntmps8
  go_wp2_with fail
  have hb : Below w.heap.size w (w.alloc (.cells #[.slice A len cap, .int .i64 (k : Int)] 43)) := (Below.refl _ _).alloc (Nat.le_refl _) _
  refine (readInt_any (getL xs k) w.heap.size A len cap w _ hb (Nat.le_refl _) (number_any w.heap.size w.heap.size A len cap k xs _ (HS.out.below hb (Nat.le_refl _)) (Nat.le_refl _) (heap_alloc_last _ _) _hk)).mono ?_
  rintro e w1 ⟨v, p, ok, rfl, h1, h2⟩
  have H1 := Lib.hid h1; clear h1
  have H2 := Lib.hid h2; clear h2
  go_wp2_with fail
  go_ret3
  exact ⟨v, p, ok, rfl, H1.out, H2.out⟩
set_option maxRecDepth 100000 in
set_option maxHeartbeats 400000 in
theorem get_neg (A : Option Addr) (len cap : Nat) (k : Int) (w : World) (_hk : k < 0) :
    Calls Try.prog 8 #[.slice A len cap, .int .i64 k] w (GetPost none w) := by
  have hmf : ∀ (fn : Fn) (first cap : Array Value) (w : World), (Instr.makeFunc fn first cap).run Try.prog w = .ok (.func fn first cap) w := fun _ _ _ _ => rfl
  go_enter Try.func8, Try.ntmps8
  go_wp2_with fail
  have hb : Below w.heap.size w (w.alloc (.cells #[.slice A len cap, .int .i64 k] 43)) := (Below.refl _ _).alloc (Nat.le_refl _) _
  refine (readInt_any none w.heap.size A len cap w _ hb (Nat.le_refl _) (number_neg w.heap.size A len cap k _ (heap_alloc_last _ _) _hk)).mono ?_
  rintro e w1 ⟨v, p, ok, rfl, h1, h2⟩
  have H1 := Lib.hid h1; clear h1
  have H2 := Lib.hid h2; clear h2
  go_wp2_with fail
  go_ret3
  exact ⟨v, p, ok, rfl, H1.out, by have := H2.out; simpa using this⟩

set_option maxHeartbeats 400000 in
theorem refGet_neg (A : Option Addr) (len cap : Nat) (k : Int) (w : World) (_hk : k < 0) :
    Calls Try.prog 9 #[.slice A len cap, .int .i64 k] w (GetPost none w) := by
  go_enter Try.func9, Try.ntmps9
  go_wp2_with fail
  go_ret3
  exact ⟨0, 0, false, rfl, Below.refl _ _, .inl ⟨rfl, rfl, rfl, rfl⟩⟩
set_option maxRecDepth 100000 in
set_option maxHeartbeats 400000 in
theorem refGet_any (A : Option Addr) (len cap k : Nat) (xs : List Int) (w : World) (hS : S8 w w.heap.size A len cap xs) (_hk : k ≤ 9223372036854775807) :
    Calls Try.prog 9 #[.slice A len cap, .int .i64 (k : Int)] w (GetPost (getL xs k) w) := by
  have hmax := hS.max
  have hle := hS.le
  unfold maxLen at hmax
  have HS := Lib.hid hS; clear hS
  by_cases hkl : k < len
  · have hki : ¬ (len : Int) ≤ (k : Int) := by omega
    go_enter Try.func9, Try.ntmps9
    go_wp2_with fail
    go_loopw [7, 8, 9] (fun tn ti _ wr => ∃ (i n : Nat), i ≤ 9 ∧ i ≤ len - k ∧ tn = .int .i64 (n : Int) ∧ ti = .int .i64 (i : Int) ∧ Hid (getL xs k = contF xs i n (k + i) ∧ n < 2 ^ (7 * i)) ∧ Below w.heap.size w wr)
      (fun _ ti _ _ => 9 - (intOf ti).toNat)
    case atStart => exact ⟨0, 0, by omega, by omega, rfl, rfl, Lib.hid ⟨(contF_start _ _).symm, by omega⟩, Below.refl _ _⟩
    case round =>
      obtain ⟨i, n, hi9, hil, rfl, rfl, HM, hbl⟩ := hrel
      have HB := Lib.hid hbl; clear hbl
      by_cases hi : i < 9
      · by_cases hp : i < len - k
        · obtain ⟨pb, po, hA, hpb, hcell⟩ : ∃ pb po, A = some ⟨pb, po, none⟩ ∧ pb < w.heap.size ∧ ∀ j, j < len → w.cell? ⟨pb, po + j, none⟩ = some (.int .u8 (xs.getD j 0)) := by
            rcases HS.out.at_ with h | h
            · omega
            · exact h
          subst hA
          obtain ⟨c, hc⟩ : ∃ c : Nat, xs.getD (k + i) 0 = (c : Int) := ⟨(xs.getD (k + i) 0).toNat, by have := (HS.out.bytes.get (k + i)).1; omega⟩
          have hc255 : c ≤ 255 := by have := (HS.out.bytes.get (k + i)).2; omega
          have hcl : wr.cell? ⟨pb, po + (k + i), none⟩ = some (.int .u8 (c : Int)) := by rw [← hc, HB.out.cell (p := ⟨pb, po + (k + i), none⟩) hpb]; exact hcell (k + i) (by omega)
          have HC := Lib.hid hc; clear hc hcell
          have hii : (i : Int) < 9 := by omega
          have hpi : (i : Int) < (len : Int) - (k : Int) := by omega
          have hor := or_seven i n c hi HM.out.2
          have HOR := Lib.hid hor; clear hor
          have hkil : k + i < xs.length := by rw [HS.out.hlen]; omega
          have HKIL := Lib.hid hkil; clear hkil
          by_cases h128 : 128 ≤ c
          · have ht1 : (128 : Int) ≤ (c : Int) := by omega
            go_wp2_with fail
            go_roundw
            case rel =>
              refine ⟨i + 1, n + c % 128 * 2 ^ (7 * i), by omega, by omega, by rw [HOR.out], by go_num, Lib.hid ⟨?_, seven_lt i n c HM.out.2⟩, HB.out⟩
              rw [HM.out.1, contF_more xs i n (k + i) hi HKIL.out c HC.out h128, show c % 128 = c - 128 from by omega]; rfl
            case measure => simp [intOf]; omega
          · have hnt1 : ¬ (128 : Int) ≤ (c : Int) := by omega
            by_cases hz : c = 0 ∧ 0 < i
            · have hz0 : ((c : Int) == 0) = true := beq_iff_eq.2 (by omega)
              have hi0 : (0 : Int) < (i : Int) := by omega
              have hbad := contF_bad xs i n (k + i) hi hz.2 HKIL.out (by rw [HC.out, hz.1]; rfl)
              have HBAD := Lib.hid hbad; clear hbad hz
              go_wp2_with fail
              go_ret3
              exact ⟨0, 0, false, rfl, HB.out, .inl ⟨by rw [HM.out.1, HBAD.out], rfl, rfl, rfl⟩⟩
            · have hlast := contF_last xs i n (k + i) hi HKIL.out c HC.out (by omega) hz
              have HLAST := Lib.hid hlast; clear hlast
              have hcm : c % 128 = c := by omega
              have HCM := Lib.hid hcm; clear hcm
              have hpost : ∀ (a b : Int) (W : World), a = bits .or .i64 (n : Int) (wrap64 ((c : Int) % 128 * 2 ^ (7 * i))) → b = (k : Int) + i + 1 → Below w.heap.size w W → GetPost (getL xs k) w (.returned (.tuple #[.int .i64 a, .int .i64 b, .bool true])) W := by
                intro a b W ha hb h1
                refine ⟨n + c % 128 * 2 ^ (7 * i), k + i + 1, true, by rw [ha, HOR.out, hb]; rfl, h1, .inr ⟨?_, rfl⟩⟩
                rw [HM.out.1, HLAST.out, HCM.out]
              have HPOST := Lib.hid hpost; clear hpost
              by_cases hz0 : c = 0
              · have hz1 : ((c : Int) == 0) = true := beq_iff_eq.2 (by omega)
                have hi0 : ¬ (0 : Int) < (i : Int) := by omega
                clear hz hz0
                go_wp2_with fail
                go_ret3
                exact HPOST.out _ _ _ rfl rfl HB.out
              · have hz1 : ((c : Int) == 0) = false := beq_eq_false_iff_ne.2 (by omega)
                clear hz hz0
                go_wp2_with fail
                go_ret3
                exact HPOST.out _ _ _ rfl rfl HB.out
        · have hpi : ¬ (i : Int) < (len : Int) - (k : Int) := by omega
          have hii : (i : Int) < 9 := by omega
          have hend := contF_end xs i n (k + i) (.inr (by rw [HS.out.hlen]; omega))
          have HEND := Lib.hid hend; clear hend
          go_wp2_with fail
          go_ret3
          exact ⟨0, 0, false, rfl, HB.out, .inl ⟨by rw [HM.out.1, HEND.out], rfl, rfl, rfl⟩⟩
      · have hii : decide ((i : Int) < 9) = false := by simp; omega
        have hend := contF_end xs i n (k + i) (.inl (by omega))
        have HEND := Lib.hid hend; clear hend
        go_wp2_with fail
        go_ret3
        exact ⟨0, 0, false, rfl, HB.out, .inl ⟨by rw [HM.out.1, HEND.out], rfl, rfl, rfl⟩⟩
  · have hki : (len : Int) ≤ (k : Int) := by omega
    have hend : getL xs k = none := by rw [← contF_start]; exact contF_end xs 0 0 k (.inr (by rw [HS.out.hlen]; omega))
    have HEND := Lib.hid hend; clear hend
    go_enter Try.func9, Try.ntmps9
    go_wp2_with fail
    go_ret3
    exact ⟨0, 0, false, rfl, Below.refl _ _, .inl ⟨HEND.out, rfl, rfl, rfl⟩⟩
end Go.Proofs.Ytlghholonjmeaaa
