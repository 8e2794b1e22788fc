/-
  Layer 15: what stands in both, in order, is no longer than the longest: the law LcsWithin.
-/
import Derived.Test.YtnimmpidplfnnaaLcJ
namespace Go.Proofs.Ytnimmpidplfnnaa
open Go.RowKit

theorem cutL_few {a b : List ByteArray} (h1 : a.length ≤ 200) (h2 : b.length ≤ 200) : cutL a b = (a, b) := if_neg (by omega)
theorem lcsAt_0 (a b : List ByteArray) : lcsAt a b 0 0 = lcsN a b := rfl
theorem one_max {l : List ByteArray} (h : ∀ t ∈ l, t.size = 1) : ∀ t ∈ l, t.size ≤ maxLen := fun t ht => by rw [h t ht]; decide
set_option maxRecDepth 100000 in
set_option maxHeartbeats 4000000 in
theorem lcsWithin_any (w : World) (A1 A2 A3 : Option Addr) (n1 c1 n2 c2 n3 c3 : Nat) (xs ys zs : List Int) (h1 : S8 w w.heap.size A1 n1 c1 xs) (h2 : S8 w w.heap.size A2 n2 c2 ys) (h3 : S8 w w.heap.size A3 n3 c3 zs) :
    Calls Try.prog 5 #[.slice A1 n1 c1, .slice A2 n2 c2, .slice A3 n3 c3] w fun e w' => e = .returned (.bool true) ∧ Below w.heap.size w w' := by
  have HAW := Lib.hid (fun (wq : World) => awake15_any wq)
  by_cases b1 : n1 ≤ 40
  · have i1 : ¬ (40 : Int) < (n1 : Int) := by omega
    by_cases b2 : n2 ≤ 40
    · have i2 : ¬ (40 : Int) < (n2 : Int) := by omega
      by_cases b3 : n3 ≤ 40
      · have i3 : ¬ (40 : Int) < (n3 : Int) := by omega
        have hl1 := h1.hlen
        have hl2 := h2.hlen
        have hl3 := h3.hlen
        obtain ⟨c, hc⟩ : ∃ c, letL xs = c := ⟨_, rfl⟩
        obtain ⟨a, ha⟩ : ∃ a, dlL c ys (max n1 n2) = a := ⟨_, rfl⟩
        obtain ⟨b, hb⟩ : ∃ b, dlL c zs (max n1 n3) = b := ⟨_, rfl⟩
        have hcl : c.length = n1 := by rw [← hc, letL_len, hl1]
        have hone : ∀ t ∈ c, t.size = 1 := by rw [← hc]; exact letL_one
        have hal : a.length ≤ 80 := by rw [← ha]; have := dlL_len c ys (max n1 n2); omega
        have hbl : b.length ≤ 80 := by rw [← hb]; have := dlL_len c zs (max n1 n3); omega
        have hza : ∀ t ∈ a, t.size ≤ maxLen := by rw [← ha]; exact one_max (dlL_one hone ys _)
        have hzb : ∀ t ∈ b, t.size ≤ maxLen := by rw [← hb]; exact one_max (dlL_one hone zs _)
        have hsa : c.Sublist a := by have h := dlL_sub c ys (max n1 n2); rw [List.take_of_length_le (by omega), ha] at h; exact h
        have hsb : c.Sublist b := by have h := dlL_sub c zs (max n1 n3); rw [List.take_of_length_le (by omega), hb] at h; exact h
        have hge := lcs_most a b c hsa hsb
        have hle := lcs_le a b
        have hcm := lcs_comm b a
        obtain ⟨la, hla⟩ : ∃ la, a.length = la := ⟨_, rfl⟩
        obtain ⟨lb, hlb⟩ : ∃ lb, b.length = lb := ⟨_, rfl⟩
        obtain ⟨lg, hlg⟩ : ∃ lg, lcsN a b = lg := ⟨_, rfl⟩
        rw [hlg] at hge hle hcm
        rw [hla, hlb] at hle
        rw [hcl] at hge
        have HL1 := Lib.hid (letters_any w A1 n1 c1 xs h1 (by omega))
        rw [hc] at HL1
        have HD2 := Lib.hid (fun (wz : World) (A : Option Addr) (cap : Nat) (hb0 : Below w.heap.size w wz) (hs : SE encStr wz wz.heap.size (.slice A n1 cap) c) => dealt_any wz A A2 n1 cap n2 c2 c ys hs ((h2.below hb0 (Nat.le_refl _)).mono hb0.size) (by omega) (by omega))
        have HD3 := Lib.hid (fun (wz : World) (A : Option Addr) (cap : Nat) (hb0 : Below w.heap.size w wz) (hs : SE encStr wz wz.heap.size (.slice A n1 cap) c) => dealt_any wz A A3 n1 cap n3 c3 c zs hs ((h3.below hb0 (Nat.le_refl _)).mono hb0.size) (by omega) (by omega))
        simp only [ha] at HD2
        simp only [hb] at HD3
        have HLA := Lib.hid (fun (wz : World) (A B : Option Addr) (ca cb : Nat) (hs : SE encStr wz wz.heap.size (.slice A la ca) a) (ht : SE encStr wz wz.heap.size (.slice B lb cb) b) => (show Calls Try.prog 12 #[.slice A la ca, .slice B lb cb] wz fun e w' => e = .returned (.int .i64 (lg : Int)) ∧ Below wz.heap.size wz w' from by
          have h := long_any wz A B la ca lb cb a b hs ht hza hzb
          rw [cutL_few (by omega) (by omega)] at h
          rw [show lcsAt (a, b).1 (a, b).2 0 0 = lg from hlg] at h; exact h))
        have HLB := Lib.hid (fun (wz : World) (A B : Option Addr) (ca cb : Nat) (hs : SE encStr wz wz.heap.size (.slice A la ca) a) (ht : SE encStr wz wz.heap.size (.slice B lb cb) b) => (show Calls Try.prog 12 #[.slice B lb cb, .slice A la ca] wz fun e w' => e = .returned (.int .i64 (lg : Int)) ∧ Below wz.heap.size wz w' from by
          have h := long_any wz B A lb cb la ca b a ht hs hzb hza
          rw [cutL_few (by omega) (by omega)] at h
          rw [show lcsAt (b, a).1 (b, a).2 0 0 = lg from hcm] at h; exact h))
        have HLN := Lib.hid (show c.length = n1 ∧ a.length = la ∧ b.length = lb from ⟨hcl, hla, hlb⟩)
        have g1 : (n1 : Int) ≤ (lg : Int) := by omega
        have g2 : (lg : Int) ≤ (if (la : Int) < (lb : Int) then (la : Int) else (lb : Int)) := by split <;> omega
        have g3 : (lg : Int) ≤ (if la < lb then (la : Int) else (lb : Int)) := by split <;> omega
        have d1 : decide ((n1 : Int) ≤ (lg : Int)) = true := decide_eq_true g1
        have hlq : ((lg : Int) == (lg : Int)) = true := beq_self_eq_true _
        clear h1 h2 h3 hc ha hb hcl hone hal hbl hza hzb hsa hsb hge hcm hla hlb hlg hl1 hl2 hl3
        go_enter Try.func5, Try.ntmps5
        go_upto_region 6 with (first
          | (go_at_call 14; ((with_reducible refine HL1.out.mono ?_); rintro e w1 ⟨v1, rfl, h1, h2⟩; have HB1 := Lib.hid h2; have HS1 := Lib.hid h1.se; obtain ⟨B1, k1, hv1⟩ := own_slX h1; rw [HLN.out.1] at hv1; subst hv1; have HE2 := Lib.hid (HD2.out w1 B1 k1 HB1.out HS1.out); clear h1 h2))
          | (go_at_call_of 15 (Value.slice A2 n2 c2); ((with_reducible refine HE2.out.mono ?_); rintro e w2 ⟨v2, rfl, h1, h2⟩; have HB2 := Lib.hid (HB1.out.trans (h2.mono HB1.out.size)); have HS2 := Lib.hid h1.se; have HC2 := Lib.hid (HS1.out.lift h2); obtain ⟨B2, k2, hv2⟩ := own_slX h1; rw [HLN.out.2.1] at hv2; subst hv2; have HE3 := Lib.hid (HD3.out w2 B1 k1 HB2.out HC2.out); clear h1 h2))
          | (go_at_call 15; ((with_reducible refine HE3.out.mono ?_); rintro e w3 ⟨v3, rfl, h1, h2⟩; have HB3 := Lib.hid (HB2.out.trans (h2.mono HB2.out.size)); have HS3 := Lib.hid h1.se; have HA3 := Lib.hid (HS2.out.lift h2); obtain ⟨B3, k3, hv3⟩ := own_slX h1; rw [HLN.out.2.2] at hv3; subst hv3; have HE4 := Lib.hid (HLA.out w3 B2 B3 k2 k3 HA3.out HS3.out); clear h1 h2))
          | (go_at_call 12; ((with_reducible refine HE4.out.mono ?_); rintro e w4 ⟨rfl, h1⟩; have HB4 := Lib.hid (HB3.out.trans (h1.mono HB3.out.size)); have HE5 := Lib.hid (HLB.out w4 B2 B3 k2 k3 (HA3.out.lift h1) (HS3.out.lift h1)); clear h1)))
        go_wp2_with (first
          | (go_at_call 12; ((with_reducible refine HE5.out.mono ?_); rintro e w5 ⟨rfl, h1⟩; have HB5 := Lib.hid (HB4.out.trans (h1.mono HB4.out.size)); clear h1))
          | (go_at_call 8; ((with_reducible refine (HAW.out _).mono ?_); rintro e w6 ⟨rfl, h1⟩; have HB6 := Lib.hid (HB5.out.trans (h1.mono HB5.out.size)); clear h1)))
        all_goals go_ret
        all_goals exact ⟨rfl, HB6.out⟩
      · have i3 : (40 : Int) < (n3 : Int) := by omega
        clear h1 h2 h3
        go_enter Try.func5, Try.ntmps5
        go_wp2_with (go_at_call 8; ((with_reducible refine (HAW.out _).mono ?_); rintro e w1 ⟨rfl, h1⟩; have H1 := Lib.hid h1; clear h1))
        go_ret
        exact ⟨rfl, H1.out⟩
    · have i2 : (40 : Int) < (n2 : Int) := by omega
      clear h1 h2 h3
      go_enter Try.func5, Try.ntmps5
      go_wp2_with (go_at_call 8; ((with_reducible refine (HAW.out _).mono ?_); rintro e w1 ⟨rfl, h1⟩; have H1 := Lib.hid h1; clear h1))
      go_ret
      exact ⟨rfl, H1.out⟩
  · have i1 : (40 : Int) < (n1 : Int) := by omega
    clear h1 h2 h3
    go_enter Try.func5, Try.ntmps5
    go_wp2_with (go_at_call 8; ((with_reducible refine (HAW.out _).mono ?_); rintro e w1 ⟨rfl, h1⟩; have H1 := Lib.hid h1; clear h1))
    go_ret
    exact ⟨rfl, H1.out⟩
end Go.Proofs.Ytnimmpidplfnnaa
