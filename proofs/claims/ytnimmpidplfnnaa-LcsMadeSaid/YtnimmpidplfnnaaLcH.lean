/-
  Layer 15, the laws' helpers: numbers alike, too much, the document's example.
-/
import Derived.Test.YtnimmpidplfnnaaLrB
namespace Go.Proofs.Ytnimmpidplfnnaa
open Go.RowKit

set_option maxRecDepth 100000 in
set_option maxHeartbeats 1600000 in
theorem seInts_any (w : World) (v1 v2 : Value) (xs ys : List Int) (h1 : SE (encInt .i64) w w.heap.size v1 xs) (h2 : SE (encInt .i64) w w.heap.size v2 ys) : Calls Try.prog 11 #[v1, v2] w fun e w' => e = .returned (.bool (decide (xs = ys))) ∧ Below w.heap.size w w' := by
  obtain ⟨A1, cap1, rfl, hc1, hm1, -⟩ := id h1
  obtain ⟨A2, cap2, rfl, hc2, hm2, -⟩ := id h2
  unfold maxLen at hm1 hm2
  have HA1 := Lib.hid h1
  have HA2 := Lib.hid h2
  obtain ⟨n1, hn1⟩ : ∃ n1, xs.length = n1 := ⟨_, rfl⟩
  obtain ⟨n2, hn2⟩ : ∃ n2, ys.length = n2 := ⟨_, rfl⟩
  rw [hn1] at hc1 HA1 ⊢
  rw [hn2] at hc2 HA2 ⊢
  clear h1 h2
  by_cases hl : n1 = n2
  · subst hl
    have HN1 := Lib.hid hn1; have HN2 := Lib.hid hn2
    clear hn1 hn2
    go_enter Try.func11, Try.ntmps11
    go_upto_region 4 with (fail)
    go_loopw [5] (fun i wr => ∃ (k m : Nat), k ≤ n1 ∧ i = .int .i64 (k : Int) ∧ Hid (xs.take k = ys.take k) ∧ w.drewN m = wr)
      (fun i _ => n1 - (intOf i).toNat)
    case atStart => exact ⟨0, 0, Nat.zero_le _, rfl, Lib.hid rfl, rfl⟩
    case round =>
      obtain ⟨k, m, hk, rfl, HT, rfl⟩ := hrel
      by_cases hlt : k < n1
      · have hki : (k : Int) < (n1 : Int) := by omega
        obtain ⟨x, hx⟩ : ∃ x, xs[k]? = some x := ⟨_, List.getElem?_eq_getElem (by rw [HN1.out]; exact hlt)⟩
        obtain ⟨y, hy⟩ : ∃ y, ys[k]? = some y := ⟨_, List.getElem?_eq_getElem (by rw [HN2.out]; exact hlt)⟩
        obtain ⟨p1, o1, rfl, -, c1⟩ := HA1.out.at hx
        obtain ⟨p2, o2, rfl, -, c2⟩ := HA2.out.at hy
        have k1 := c1 0 _ rfl
        have k2 := c2 0 _ rfl
        rw [Nat.mul_one, Nat.add_zero] at k1 k2
        have HX := Lib.hid hx; have HY := Lib.hid hy
        clear c1 c2 hx hy
        by_cases hxy : x = y
        · have ex : (x != y) = false := by rw [hxy]; simp
          have HT2 := Lib.hid (show xs.take (k + 1) = ys.take (k + 1) from by rw [List.take_add_one, List.take_add_one, HT.out, HX.out, HY.out, hxy])
          clear hxy
          go_wp2_with fail
          go_quiet (fail)
          go_wp2_with fail
          go_roundw
          case rel => exact ⟨k + 1, _, by omega, by go_num, HT2, by first | rfl | trivial⟩
          case measure => simp [intOf]; omega
        · have ex : (x != y) = true := by rw [bne_iff_ne]; exact hxy
          have HR := Lib.hid (show ¬ xs = ys from fun e => hxy (by have h1 := HX.out; rw [e, HY.out] at h1; exact (Option.some.inj h1).symm))
          clear hxy
          go_wp2_with fail
          go_quiet (fail)
          go_wp2_with fail
          go_ret
          exact ⟨by rw [decide_eq_false HR.out] <;> rfl, below_dn (below_dn (Below.refl _ _) m) nq⟩
      · have hki : ¬ (k : Int) < (n1 : Int) := by omega
        have HR := Lib.hid (show xs = ys by
          have h1 := HT.out
          rw [List.take_of_length_le (by rw [HN1.out]; omega), List.take_of_length_le (by rw [HN2.out]; omega)] at h1
          exact h1)
        go_wp2_with fail
        go_ret
        exact ⟨by rw [decide_eq_true HR.out] <;> rfl, below_dn (Below.refl _ _) m⟩
  · have hne : ((n1 : Int) != (n2 : Int)) = true := by rw [bne_iff_ne]; omega
    have HR := Lib.hid (show ¬ xs = ys from fun e => hl (by rw [← hn1, ← hn2, e]))
    go_enter Try.func11, Try.ntmps11
    go_wp2_with fail
    go_ret
    exact ⟨by rw [decide_eq_false HR.out] <;> rfl, Below.refl _ _⟩
/-- More than a statement goes through? -/
def grt (l : List ByteArray) : Bool := ((l.take 250).any fun t => decide (100 < t.size)) || decide (220 < l.length)
theorem grt_no {l : List ByteArray} (h : grt l = false) : l.length ≤ 220 ∧ ∀ t ∈ l, t.size ≤ 100 := by
  unfold grt at h
  rw [Bool.or_eq_false_iff] at h
  have h2 : l.length ≤ 220 := by have := of_decide_eq_false h.2; omega
  refine ⟨h2, fun t ht => ?_⟩
  have h1 := h.1
  rw [List.take_of_length_le (by omega)] at h1
  have h3 := List.any_eq_false.1 h1 t ht
  simp only [decide_eq_true_eq] at h3
  omega
set_option maxRecDepth 100000 in
set_option maxHeartbeats 1600000 in
theorem great_any (w : World) (A : Option Addr) (n cap : Nat) (l : List ByteArray) (h : SE encStr w w.heap.size (.slice A n cap) l) :
    Calls Try.prog 7 #[.slice A n cap] w fun e w' => e = .returned (.bool (grt l)) ∧ w = w' := by
  have HL := Lib.hid h.len.1
  have hmx : n ≤ 9223372036854775807 := by have := h.len; unfold maxLen at this; omega
  have HS := Lib.hid h
  clear h
  go_enter Try.func7, Try.ntmps7
  go_upto_region 2 with (fail)
  go_loopw [3] (fun iv wr => ∃ i : Nat, i ≤ n ∧ i ≤ 250 ∧ iv = .int .i64 (i : Int) ∧ Hid (((l.take i).any fun t => decide (100 < t.size)) = false) ∧ w = wr)
    (fun iv _ => n - (intOf iv).toNat)
  case atStart => exact ⟨0, Nat.zero_le _, Nat.zero_le _, rfl, Lib.hid rfl, rfl⟩
  case round =>
    obtain ⟨i, hi, hi2, rfl, HT, rfl⟩ := hrel
    by_cases hlt : i < n
    · have hii : (i : Int) < (n : Int) := by omega
      have hi0 : (0 : Int) ≤ (i : Int) := by omega
      by_cases h250 : i < 250
      · have hi5 : (i : Int) < 250 := by omega
        obtain ⟨t, ht⟩ : ∃ t, l[i]? = some t := ⟨_, List.getElem?_eq_getElem (by rw [HL.out]; exact hlt)⟩
        obtain ⟨pb, po, rfl, -, hat⟩ := HS.out.at ht
        have x0 := hat 0 _ rfl
        rw [Nat.mul_one, Nat.add_zero] at x0
        have hst : (l.take (i + 1)).any (fun t => decide (100 < t.size)) = ((l.take i).any (fun t => decide (100 < t.size)) || decide (100 < t.size)) := by rw [List.take_add_one, ht, List.any_append]; simp
        have HM := Lib.hid (show t ∈ l.take 250 from by
          have h : (l.take 250)[i]? = some t := by rw [List.getElem?_take_of_lt h250]; exact ht
          exact List.mem_of_getElem? h)
        rw [HT.out, Bool.false_or] at hst
        have HST := Lib.hid hst
        clear hat ht hst
        by_cases hg : 100 < t.size
        · have hgi : (100 : Int) < (t.size : Int) := by omega
          have HR := Lib.hid (show grt l = true from by
            unfold grt
            rw [List.any_eq_true.2 ⟨t, HM.out, decide_eq_true hg⟩]; rfl)
          go_wp2_with fail
          go_ret
          exact ⟨by rw [HR.out]; rfl, rfl⟩
        · have hgi : ¬ (100 : Int) < (t.size : Int) := by omega
          have HT2 := Lib.hid (HST.out.trans (decide_eq_false hg))
          go_wp2_with fail
          go_roundw
          case rel => exact ⟨i + 1, by omega, by omega, by go_num, HT2, by first | rfl | trivial⟩
          case measure => simp [intOf]; omega
      · have hi5 : ¬ (i : Int) < 250 := by omega
        have hgi : (220 : Int) < (n : Int) := by omega
        have HR := Lib.hid (show grt l = true from by
          unfold grt
          rw [decide_eq_true (show 220 < l.length from by rw [HL.out]; omega), Bool.or_true])
        go_wp2_with fail
        go_ret
        exact ⟨by rw [HR.out]; rfl, rfl⟩
    · have hii : ¬ (i : Int) < (n : Int) := by omega
      have HA := Lib.hid (show ((l.take 250).any fun t => decide (100 < t.size)) = false from by
        have h := HT.out
        rw [List.take_of_length_le (by rw [HL.out]; omega)] at h
        rw [List.take_of_length_le (by rw [HL.out]; omega)]; exact h)
      by_cases hg : 220 < n
      · have hgi : (220 : Int) < (n : Int) := by omega
        have HR := Lib.hid (show grt l = true from by
          unfold grt
          rw [decide_eq_true (show 220 < l.length from by rw [HL.out]; omega), Bool.or_true])
        go_wp2_with fail
        go_ret
        exact ⟨by rw [HR.out]; rfl, rfl⟩
      · have hgi : ¬ (220 : Int) < (n : Int) := by omega
        have HR := Lib.hid (show grt l = false from by
          unfold grt
          rw [HA.out, decide_eq_false (show ¬ 220 < l.length from by rw [HL.out]; omega)]; rfl)
        go_wp2_with fail
        go_ret
        exact ⟨by rw [HR.out]; rfl, rfl⟩
/-- A row of texts that has just been laid. -/
theorem se_new (w : World) (C : Array Value) (t : TypeId) (l : List ByteArray) (hC : C.toList = encStr.all l) (B : Nat) (hB : w.heap.size < B) (hl : l.length ≤ 1000000) : SE encStr (w.alloc (.cells C t)) B (.slice (some ⟨w.heap.size, 0, none⟩) l.length l.length) l := by
  refine ⟨_, _, rfl, Nat.le_refl _, ?_, .inr ⟨w.heap.size, 0, rfl, hB, fun j u hj => ?_⟩⟩
  · unfold maxLen; omega
  · have h := cells_new (w := w) C t _ hC j u hj
    rw [Addr.add_mid, Nat.zero_add] at h
    rw [Nat.zero_add]; exact h
def tA : ByteArray := ⟨#[97]⟩
def tB : ByteArray := ⟨#[98]⟩
def tC : ByteArray := ⟨#[99]⟩
def tD : ByteArray := ⟨#[100]⟩
theorem ex_val : lcsAt (cutL [tA, tB, tC] [tB, tC, tD]).1 (cutL [tA, tB, tC] [tB, tC, tD]).2 0 0 = 2 := by
  have h1 : cutL [tA, tB, tC] [tB, tC, tD] = ([tA, tB, tC], [tB, tC, tD]) := if_neg (by decide)
  rw [h1]
  show lcsN [tA, tB, tC] [tB, tC, tD] = 2
  have nAB : tA ≠ tB := by decide
  have nAC : tA ≠ tC := by decide
  have nAD : tA ≠ tD := by decide
  have h2 : lcsN [tB, tC] [tB, tC, tD] = 2 := by rw [lcs_eq rfl, lcs_eq rfl, lcs_nil]
  have h3 : lcsN [tA, tB, tC] [tC, tD] ≤ 2 := (lcs_le _ _).2
  rw [lcs_ne nAB, h2]; omega
set_option maxRecDepth 100000 in
set_option maxHeartbeats 1600000 in
theorem awake15_any (w : World) : Calls Try.prog 8 #[] w fun e w' => e = .returned (.bool true) ∧ Below w.heap.size w w' := by
  have hA := se_new w #[.string tA, .string tB, .string tC] 9 [tA, tB, tC] rfl (w.heap.size + 1) (by omega) (by decide)
  have hB1 : Below w.heap.size w (w.alloc (.cells #[.string tA, .string tB, .string tC] 9)) := (Below.refl _ _).alloc (Nat.le_refl _) _
  have hs1 : (w.alloc (.cells #[.string tA, .string tB, .string tC] 9)).heap.size = w.heap.size + 1 := by simp
  have hB2 := se_new (w.alloc (.cells #[.string tA, .string tB, .string tC] 9)) #[.string tB, .string tC, .string tD] 9 [tB, tC, tD] rfl (w.heap.size + 2) (by rw [hs1]; omega) (by decide)
  have hBB : Below (w.alloc (.cells #[.string tA, .string tB, .string tC] 9)).heap.size (w.alloc (.cells #[.string tA, .string tB, .string tC] 9)) ((w.alloc (.cells #[.string tA, .string tB, .string tC] 9)).alloc (.cells #[.string tB, .string tC, .string tD] 9)) := (Below.refl _ _).alloc (Nat.le_refl _) _
  have hs2 : ((w.alloc (.cells #[.string tA, .string tB, .string tC] 9)).alloc (.cells #[.string tB, .string tC, .string tD] 9)).heap.size = w.heap.size + 2 := by simp
  have hA2 := (hA.below hBB (by rw [hs1]; exact Nat.le_refl _)).mono (show w.heap.size + 1 ≤ w.heap.size + 2 by omega)
  rw [hs1] at hB2
  rw [← hs2] at hA2 hB2
  have HL := Lib.hid (long_any _ _ _ 3 3 3 3 [tA, tB, tC] [tB, tC, tD] hA2 hB2 (by decide) (by decide))
  rw [ex_val] at HL
  have HB := Lib.hid (hB1.trans (hBB.mono hB1.size))
  clear hA hB1 hs1 hB2 hBB hs2 hA2
  unfold tA tB tC tD at HL HB
  go_enter Try.func8, Try.ntmps8
  go_wp2_with (go_at_call 12; ((with_reducible refine HL.out.mono ?_); rintro e w3 ⟨rfl, h1⟩; have H1 := Lib.hid (HB.out.trans (h1.mono HB.out.size)); clear h1))
  go_ret
  exact ⟨rfl, H1.out⟩
end Go.Proofs.Ytnimmpidplfnnaa
