/-
  Layer 11, the laws: a span's image.
-/
import Derived.Test.YtnnnpjdlhdkeaaaMaO
import Derived.Test.YtnnnpjdlhdkeaaaMaP
import Derived.Test.YtnnnpjdlhdkeaaaMaE
namespace Go.Proofs.Ytnnnpjdlhdkeaaa
open Go.RowKit

theorem spanM_spanN (xs : List Int) (nw : Int) (a b : Nat) : spanM xs nw a b = spanN xs nw a (b + 1 - a) := by
  by_cases h : a ≤ b + 1
  · rw [← spanM_nat]
    congr 1
    omega
  · unfold spanM
    rw [if_pos (.inr (by omega)), show b + 1 - a = 0 by omega, spanN_zero]
set_option maxRecDepth 100000 in
set_option maxHeartbeats 16000000 in
theorem mapsSpan_any (w : World) (A : Option Addr) (n cap : Nat) (ns : List Int) (hs : S8 w w.heap.size A n cap ns) (lo hi : Nat) (hlo : lo < 256) (hhi : hi < 256) :
    Calls Try.prog 8 #[.slice A n cap, .int .u8 (lo : Int), .int .u8 (hi : Int)] w fun e w' => e = .returned (.bool true) ∧ Below w.heap.size w w' := by
  have HAW := Lib.hid (fun (wq : World) => awake11_any wq)
  by_cases h60 : 60 < n
  · have hi60 : (60 : Int) < (n : Int) := by omega
    clear hs
    go_enter Try.func8, Try.ntmps8
    go_wp2_with (go_at_call 9; ((with_reducible refine (HAW.out _).mono ?_); rintro e w2 ⟨rfl, h1⟩; have HB2 := Lib.hid h1; clear h1))
    go_ret
    exact ⟨rfl, HB2.out⟩
  · have hi60 : ¬ (60 : Int) < (n : Int) := by omega
    have hn100 : n ≤ 100 := by omega
    obtain ⟨a, ha⟩ : ∃ a, lo % 70 = a := ⟨_, rfl⟩
    have qa : (lo : Int) % 70 = (a : Int) := by omega
    have ta : (lo : Int).tmod 70 = (a : Int) := by rw [Int.tmod_eq_emod_of_nonneg (by omega)]; exact qa
    have wa : IntKind.i64.wrap (a : Int) = (a : Int) := by rw [IntKind.wrap_i64]; omega
    have ha70 : a < 70 := by omega
    obtain ⟨b, hb⟩ : ∃ b, hi % 70 = b := ⟨_, rfl⟩
    have qb : (hi : Int) % 70 = (b : Int) := by omega
    have tb : (hi : Int).tmod 70 = (b : Int) := by rw [Int.tmod_eq_emod_of_nonneg (by omega)]; exact qb
    have wb : IntKind.i64.wrap (b : Int) = (b : Int) := by rw [IntKind.wrap_i64]; omega
    have hb70 : b < 70 := by omega
    have hmk := make_map w A n cap ns hs hn100
    have hok := makeM_ok ns
    have hln := hs.hlen
    obtain ⟨xs, nw, hm⟩ : ∃ xs nw, makeM ns = (xs, nw) := ⟨_, _, rfl⟩
    rw [hm] at hmk hok
    obtain ⟨k1, k2, k3, k4⟩ := hok
    rw [hln] at k2 k3
    have HMK := Lib.hid hmk
    have HRS := Lib.hid k4
    have hnw : 0 ≤ nw ∧ nw ≤ 300 := ⟨k1, by have : nw ≤ 3 * (n : Int) := k2; omega⟩
    have hk3 : xs.length ≤ n := k3
    clear ha hb hmk hm k1 k2 k3 k4 hln hs
    go_enter Try.func8, Try.ntmps8
    go_upto_region 4 with (go_at_call 27; ((with_reducible refine HMK.out.mono ?_); rintro e w1 ⟨v, rfl, h1, h2⟩; obtain ⟨A1, c1, hv⟩ := own_sl h1; subst hv; have HO := Lib.hid h1; have HB1 := Lib.hid h2; clear h1 h2))
    have HBA := Lib.hid (below_pr 24 w1 (.slice A1 xs.length c1) nw)
    have HP := Lib.hid (PrAt.new 24 w1 (.slice A1 xs.length c1) nw)
    obtain ⟨p, hp⟩ : ∃ p, w1.heap.size = p := ⟨_, rfl⟩
    obtain ⟨w2, hw2⟩ : ∃ w2, w1.alloc (.cells #[.slice A1 xs.length c1, .int .i64 nw] 24) = w2 := ⟨_, rfl⟩
    rw [hw2] at HBA HP ⊢
    have HIR := Lib.hid (HO.out.se.lift HBA.out)
    have HB2 := Lib.hid (HB1.out.trans (HBA.out.mono HB1.out.size))
    rw [hp] at HP ⊢
    clear hw2 hp
    obtain ⟨m, hm⟩ : ∃ m, xs.length = m := ⟨_, rfl⟩
    rw [hm] at HP HIR hk3 ⊢
    have hsp := fun (wq : World) (hq : Below w2.heap.size w2 wq) => spanMap_any wq A1 m c1 xs nw (a : Int) (b : Int) (HIR.out.lift hq) (by omega) hnw.1 (by omega) (by omega)
    obtain ⟨X, Y, O, hXY⟩ : ∃ X Y O, spanM xs nw a b = (X, Y, O) := ⟨_, _, _, rfl⟩
    simp only [hXY, s3] at hsp
    rw [spanM_spanN] at hXY
    have HSP := Lib.hid hsp; have HXY := Lib.hid hXY
    have HIM := Lib.hid (fun (wq : World) (hq : Below w2.heap.size w2 wq) (i : Nat) (hi : i ≤ 1000) => image_any wq A1 m c1 xs nw (i : Int) (HIR.out.lift hq) (by omega) hnw.1 (by omega) (by omega))
    have HGN := Lib.hid (fun (i : Nat) => img_gone HRS.out hnw.1 i)
    clear hsp hXY
    obtain ⟨x0, x1⟩ := HP.out.cells
    go_upto_region 6 with (go_at_call 19; ((with_reducible refine (HSP.out _ (Below.refl _ _)).mono ?_); rintro e w3 ⟨rfl, h1⟩; have H3 := Lib.hid h1; clear h1))
    clear x0 x1
    go_upto_region 9 with (fail)
    go_loopw [13, 14, 15, 16, 17] (fun sv lv mv iv uv wx => ∃ (t : Nat) (S : Bool) (L M : Int) (u : Value), t ≤ b + 1 - a ∧ sv = .bool S ∧ lv = .int .i64 L ∧ mv = .int .i64 M ∧ iv = .int .i64 ((a + t : Nat) : Int) ∧ u = uv ∧ Hid (spanN xs nw a t = (L, M, S)) ∧ Hid (Below w2.heap.size w2 wx))
      (fun _ _ _ iv _ _ => b + 1 - (intOf iv).toNat)
    case atStart => exact ⟨0, false, 0, 0, _, Nat.zero_le _, rfl, rfl, rfl, rfl, rfl, Lib.hid (spanN_zero _ _ _), H3⟩
    case round =>
      obtain ⟨t, S, L, M, u, ht, rfl, rfl, rfl, rfl, rfl, HSN, HR⟩ := hrel
      obtain ⟨x0, x1⟩ := (HP.out.over HR.out).cells
      obtain ⟨i, hi'⟩ : ∃ i, a + t = i := ⟨_, rfl⟩
      have HI := Lib.hid hi'
      rw [hi']
      by_cases hle : (i : Int) ≤ (b : Int)
      · have HIMI := Lib.hid (HIM.out wr HR.out i (by omega))
        have HGI := Lib.hid (HGN.out i)
        obtain ⟨k, hk⟩ : ∃ k, imgM xs nw (i : Int) = k := ⟨_, rfl⟩
        rw [hk] at HIMI HGI
        have HK := Lib.hid hk
        clear hk hi'
        by_cases hneg : k < 0
        · have HN := Lib.hid (show spanN xs nw a (t + 1) = (L, M, S) from by rw [spanN_gone _ _ _ _ (by rw [HI.out]; exact HGI.out.1 hneg)]; exact HSN.out)
          go_wp2_with (go_at_call 21; ((with_reducible refine HIMI.out.mono ?_); rintro e w4 ⟨rfl, h1⟩; have H4 := Lib.hid (HR.out.trans (h1.mono HR.out.size)); clear h1))
          go_roundw
          case rel => exact ⟨t + 1, S, L, M, _, by have := HI.out; omega, rfl, rfl, rfl, by rw [← Nat.add_assoc, HI.out]; go_num, rfl, HN, H4⟩
          case measure => simp [intOf]; omega
        · have HN := Lib.hid (show spanN xs nw a (t + 1) = (if S = true then L else k, k, true) from by
            rw [spanN_kept _ _ _ _ (fun e => hneg (HGI.out.2 (by rw [← HI.out]; exact e))), HSN.out, HI.out, HK.out])
          cases S with
          | true =>
            go_wp2_with (go_at_call 21; ((with_reducible refine HIMI.out.mono ?_); rintro e w4 ⟨rfl, h1⟩; have H4 := Lib.hid (HR.out.trans (h1.mono HR.out.size)); clear h1))
            go_roundw
            case rel => exact ⟨t + 1, true, L, k, _, by have := HI.out; omega, rfl, rfl, rfl, by rw [← Nat.add_assoc, HI.out]; go_num, rfl, HN, H4⟩
            case measure => simp [intOf]; omega
          | false =>
            go_wp2_with (go_at_call 21; ((with_reducible refine HIMI.out.mono ?_); rintro e w4 ⟨rfl, h1⟩; have H4 := Lib.hid (HR.out.trans (h1.mono HR.out.size)); clear h1))
            go_roundw
            case rel => exact ⟨t + 1, true, k, k, _, by have := HI.out; omega, rfl, rfl, rfl, by rw [← Nat.add_assoc, HI.out]; go_num, rfl, HN, H4⟩
            case measure => simp [intOf]; omega
      · have HE := Lib.hid (show L = X ∧ M = Y ∧ S = O from by
          have h1 := HSN.out
          rw [show t = b + 1 - a by have := HI.out; omega, HXY.out] at h1
          injection h1 with h1 h2
          injection h2 with h2 h3
          exact ⟨h1.symm, h2.symm, h3.symm⟩)
        obtain ⟨e1, e2, e3⟩ := HE.out
        have d1 : (X == L) = true := by rw [e1]; exact beq_self_eq_true _
        have d2 : (Y == M) = true := by rw [e2]; exact beq_self_eq_true _
        have d3 : (O == S) = true := by rw [e3]; exact beq_self_eq_true _
        clear e1 e2 e3 hi'
        go_wp2_with (go_at_call 9; ((with_reducible refine (HAW.out _).mono ?_); rintro e w5 ⟨rfl, h1⟩; have HB5 := Lib.hid (HB2.out.trans ((HR.out.trans (h1.mono HR.out.size)).mono HB2.out.size)); clear h1))
        go_ret
        exact ⟨rfl, HB5.out⟩
end Go.Proofs.Ytnnnpjdlhdkeaaa
