/-
  Layer 11, the laws: a place put in, and taken away again.
-/
import Derived.Test.YtnnnpjdlhdkeaaaMaP
namespace Go.Proofs.Ytnnnpjdlhdkeaaa
open Go.RowKit

theorem insO_in (k i : Nat) (h : i ≤ k) (hk : k ≤ 1048576) : insO k i = (insM k i, (k : Int) + 1) := by
  unfold insO; rw [cntM_same k hk, if_neg (by omega)]
theorem delO_in (k i : Nat) (h : i < k) (hk : k ≤ 1048576) : delO k i = (delM k i, (k : Int) - 1) := by
  unfold delO; rw [cntM_same k hk, if_neg (by omega)]
set_option maxRecDepth 100000 in
set_option maxHeartbeats 16000000 in
theorem mapsTurns_any (w : World) (a b : Nat) (ha : a < 256) (hb : b < 256) :
    Calls Try.prog 7 #[.int .u8 (a : Int), .int .u8 (b : Int)] w fun e w' => e = .returned (.bool true) ∧ Below w.heap.size w w' := by
  obtain ⟨r, hr⟩ : ∃ r, a % 60 = r := ⟨_, rfl⟩
  have qr : (a : Int) % 60 = (r : Int) := by omega
  have tr : (a : Int).tmod 60 = (r : Int) := by rw [Int.tmod_eq_emod_of_nonneg (by omega)]; exact qr
  have wr : IntKind.i64.wrap (r : Int) = (r : Int) := by rw [IntKind.wrap_i64]; omega
  have hr60 : r < 60 := by omega
  obtain ⟨k, hk⟩ : ∃ k, 1 + r = k := ⟨_, rfl⟩
  have ek : (1 : Int) + (r : Int) = (k : Int) := by omega
  have ek1 : (k : Int) - 1 = (r : Int) := by omega
  have hk60 : k ≤ 60 ∧ 1 ≤ k := by omega
  obtain ⟨i, hi⟩ : ∃ i, b % k = i := ⟨_, rfl⟩
  have hik : i < k := by rw [← hi]; exact Nat.mod_lt _ (by omega)
  have qi : (b : Int) % (k : Int) = (i : Int) := by rw [← hi]; rfl
  have ti : (b : Int).tmod (k : Int) = (i : Int) := by rw [Int.tmod_eq_emod_of_nonneg (by omega)]; exact qi
  have wi : IntKind.i64.wrap (i : Int) = (i : Int) := by rw [IntKind.wrap_i64]; omega
  have hk0 : ((k : Int) == 0) = false := by rw [beq_eq_false_iff_ne]; omega
  have hi1 := fun w => ins_map w k i
  have hd1 := fun w => del_map w ((k : Int) + 1) i
  have hd2 := fun w => del_map w k i
  have hi2 := fun w => ins_map w r i
  have e1 := insO_in k i (by omega) (by omega)
  have e2 := delO_in (k + 1) i (by omega) (by omega)
  have e3 := delO_in k i hik (by omega)
  have e4 := insO_in r i (by omega) (by omega)
  have e5 : ((k + 1 : Nat) : Int) = (k : Int) + 1 := by omega
  rw [e5] at e2
  have e6 : (k : Int) + 1 - 1 = (k : Int) := by omega
  rw [e6] at e2
  rw [ek1] at e3
  have e7 : (r : Int) + 1 = (k : Int) := by omega
  rw [e7] at e4
  have c1 := cntM_same k (by omega)
  have c2 := cntM_same (k + 1) (by omega)
  rw [e5] at c2
  have c3 := cntM_same r (by omega)
  simp only [e1, c1] at hi1
  simp only [e2, c2] at hd1
  simp only [e3, c1] at hd2
  simp only [e4, c3] at hi2
  have HI1 := Lib.hid hi1; have HD1 := Lib.hid hd1; have HD2 := Lib.hid hd2; have HI2 := Lib.hid hi2
  have HT1 := Lib.hid (fun (wq : World) (T1 T2 : Nat) (h1 : IR wq wq.heap.size (some ⟨T1, 0, none⟩) k k (insM k i)) (h2 : IR wq wq.heap.size (some ⟨T2, 0, none⟩) (k + 1) (k + 1) (delM (k + 1) i)) => (show Calls Try.prog 23 #[.agg #[.slice (some ⟨T1, 0, none⟩) k k, .int .i64 ((k : Int) + 1)], .agg #[.slice (some ⟨T2, 0, none⟩) (k + 1) (k + 1), .int .i64 (k : Int)]] wq fun e w' => MapOut wq w' (sameM k) k (k : Int) e from by
    have := then_map wq _ k k (insM k i) ((k : Int) + 1) _ (k + 1) (k + 1) (delM (k + 1) i) (k : Int) h1 h2 (by omega) (by omega) (by omega) (by omega) (by omega) (by omega) (fun j hj => by rw [insM_at _ _ _ hj]; split <;> omega)
    rwa [turn_in] at this))
  have HT2 := Lib.hid (fun (wq : World) (T1 T2 : Nat) (h1 : IR wq wq.heap.size (some ⟨T1, 0, none⟩) k k (delM k i)) (h2 : IR wq wq.heap.size (some ⟨T2, 0, none⟩) r r (insM r i)) => then_map wq _ k k (delM k i) (r : Int) _ r r (insM r i) (k : Int) h1 h2 (by omega) (by omega) (by omega) (by omega) (by omega) (by omega) (fun j hj => by rw [delM_at _ _ _ hj]; split <;> (try split) <;> omega))
  have HTO := Lib.hid (fun (j : Nat) (hj : j < k) => (show (thenM (delM k i) (insM r i) k).getD j 0 = if j = i then -1 else (j : Int) from by
    have := turn_out k i j hik hj
    rwa [show k - 1 = r by omega] at this))
  have HSM := Lib.hid (fun w => same_map w k)
  have hlen : (thenM (delM k i) (insM r i) k).length = k := by rw [length_thenM, length_delM]
  obtain ⟨ys, hys⟩ : ∃ ys, thenM (delM k i) (insM r i) k = ys := ⟨_, rfl⟩
  simp only [hys] at HT2 HTO hlen
  have HLY := Lib.hid hlen
  have HCK := Lib.hid c1
  clear hi1 hd1 hd2 hi2 e1 e2 e3 e4 e5 e6 e7 c1 c2 c3 hr hk hi hys hlen
  go_enter Try.func7, Try.ntmps7
  go_upto_region 4 with (first
    | (go_at_call 15; ((with_reducible refine (HI1.out _).mono ?_); rintro e w1 ⟨T1, _, rfl, h1, h2⟩; have HX1 := Lib.hid (mapOut_ir h1 (length_insM _ _) (by omega)); have HB1 := Lib.hid h2; clear h1 h2))
    | (go_at_call 17; ((with_reducible refine (HD1.out _).mono ?_); rintro e w2 ⟨T2, _, rfl, h1, h2⟩; have HX2 := Lib.hid (mapOut_ir h1 (length_delM _ _) (by omega)); have HX1b := Lib.hid (HX1.out.lift h2); have HB2 := Lib.hid (HB1.out.trans (h2.mono HB1.out.size)); clear h1 h2))
    | (go_at_call 23; ((with_reducible refine (HT1.out _ _ _ HX1b.out HX2.out).mono ?_); rintro e w3 ⟨T3, _, rfl, h1, h2⟩; have HX3 := Lib.hid (mapOut_ir h1 (length_sameM _) (by omega)); have HB3 := Lib.hid (HB2.out.trans (h2.mono HB2.out.size)); clear h1 h2))
    | (go_at_call 17; ((with_reducible refine (HD2.out _).mono ?_); rintro e w4 ⟨T4, _, rfl, h1, h2⟩; have HX4 := Lib.hid (mapOut_ir h1 (length_delM _ _) (by omega)); have HX3b := Lib.hid (HX3.out.lift h2); have HB4 := Lib.hid (HB3.out.trans (h2.mono HB3.out.size)); clear h1 h2))
    | (go_at_call 15; ((with_reducible refine (HI2.out _).mono ?_); rintro e w5 ⟨T5, _, rfl, h1, h2⟩; have HX5 := Lib.hid (mapOut_ir h1 (length_insM _ _) (by omega)); have HX4b := Lib.hid (HX4.out.lift h2); have HX3c := Lib.hid (HX3b.out.lift h2); have HB5 := Lib.hid (HB4.out.trans (h2.mono HB4.out.size)); clear h1 h2))
    | (go_at_call 23; ((with_reducible refine (HT2.out _ _ _ HX4b.out HX5.out).mono ?_); rintro e w6 ⟨T6, _, rfl, h1, h2⟩; have HX6 := Lib.hid (mapOut_ir h1 HLY.out (by omega)); have HX3d := Lib.hid (HX3c.out.lift h2); have HB6 := Lib.hid (HB5.out.trans (h2.mono HB5.out.size)); clear h1 h2)))
  obtain ⟨w8, hw8, hb8, hp7, hp8, hsz8⟩ := two_pr 24 w6 (.slice (some ⟨T3, 0, none⟩) k k) (.slice (some ⟨T6, 0, none⟩) k k) (k : Int) (k : Int)
  have HB8 := Lib.hid (HB6.out.trans (hb8.mono HB6.out.size)); have HP7 := Lib.hid hp7; have HP8 := Lib.hid hp8
  have HX3e := Lib.hid (HX3d.out.lift hb8); have HX6b := Lib.hid (HX6.out.lift hb8)
  have hw8' := hw8
  rw [hw8']
  clear hw8 hw8' hb8 hp7 hp8 hsz8
  have HBD := Lib.hid (Below.drew (Below.refl w8.heap.size w8))
  have HKEEP := Lib.hid (fun (wq : World) (hq : Below w8.heap.size w8 wq) => (show wq.cell? ⟨w6.heap.size, 0, none⟩ = some (.slice (some ⟨T3, 0, none⟩) k k) ∧ wq.cell? ⟨w6.heap.size, 1, none⟩ = some (.int .i64 (k : Int)) ∧ wq.cell? ⟨w6.heap.size + 1, 0, none⟩ = some (.slice (some ⟨T6, 0, none⟩) k k) ∧ wq.cell? ⟨w6.heap.size + 1, 1, none⟩ = some (.int .i64 (k : Int)) from
    ⟨(HP7.out.over hq).cells.1, (HP7.out.over hq).cells.2, (HP8.out.over hq).cells.1, (HP8.out.over hq).cells.2⟩))
  have hsm := HSM.out
  rw [HCK.out] at hsm
  have HSK := Lib.hid hsm
  have HSS := Lib.hid (fun (wq : World) (T : Nat) (h1 : IR wq wq.heap.size (some ⟨T3, 0, none⟩) k k (sameM k)) (h2 : IR wq wq.heap.size (some ⟨T, 0, none⟩) k k (sameM k)) => (show Calls Try.prog 12 #[.agg #[.slice (some ⟨T3, 0, none⟩) k k, .int .i64 (k : Int)], .agg #[.slice (some ⟨T, 0, none⟩) k k, .int .i64 (k : Int)]] wq fun e w' => e = .returned (.bool true) ∧ Below wq.heap.size wq w' from by
    have := rsameMap_any wq _ k k (sameM k) (k : Int) _ k k (sameM k) (k : Int) h1 h2
    rwa [decide_eq_true (show sameM k = sameM k ∧ (k : Int) = (k : Int) from ⟨rfl, rfl⟩)] at this))
  have hkk : ((k : Int) != (k : Int)) = false := by simp
  clear hsm
  obtain ⟨x0, x1, x2, x3⟩ := HKEEP.out _ HBD.out
  go_region_held3 (fun wq => wq.cell? ⟨w6.heap.size, 0, none⟩ = some (.slice (some ⟨T3, 0, none⟩) k k) ∧ wq.cell? ⟨w6.heap.size, 1, none⟩ = some (.int .i64 (k : Int)) ∧ wq.cell? ⟨w6.heap.size + 1, 0, none⟩ = some (.slice (some ⟨T6, 0, none⟩) k k) ∧ wq.cell? ⟨w6.heap.size + 1, 1, none⟩ = some (.int .i64 (k : Int))) (first | exact ⟨x0, x1, x2, x3⟩ | exact HKEEP.out _ H10.out | exact HKEEP.out _ H9.out) (first
    | (go_at_call 13; ((with_reducible refine (HSK.out _).mono ?_); rintro e w9 ⟨T9, _, rfl, h1, h2⟩; have H9 := Lib.hid (HBD.out.trans (h2.mono HBD.out.size)); have HX9 := Lib.hid (mapOut_ir h1 (length_sameM _) (by omega)); have HX3f := Lib.hid (HX3e.out.lift H9.out); clear h1 h2))
    | (go_at_call 12; ((with_reducible refine (HSS.out _ _ HX3f.out HX9.out).mono ?_); rintro e w10 ⟨rfl, h1⟩; have H10 := Lib.hid (H9.out.trans (h1.mono H9.out.size)); clear h1)))
  all_goals
    clear x0 x1 x2 x3
    have HB10 := Lib.hid (HB8.out.trans (H10.out.mono HB8.out.size))
    have HX10 := Lib.hid (HX6b.out.lift H10.out)
    have HAW := Lib.hid (fun (wq : World) => awake11_any wq)
    obtain ⟨_, _, z0, z1⟩ := HKEEP.out _ H10.out
    go_upto_region 7 with (fail)
    go_loopw [9, 10] (fun iv uv wx => ∃ (j : Nat) (u : Value), j ≤ k ∧ iv = .int .i64 (j : Int) ∧ u = uv ∧ wx = w10)
      (fun iv _ _ => k - (intOf iv).toNat)
    case atStart => exact ⟨0, _, Nat.zero_le _, rfl, rfl, rfl⟩
    case round =>
      obtain ⟨j, u, hj, rfl, rfl, hwx⟩ := hrel
      subst hwx
      by_cases hlt : j < k
      · have hji : (j : Int) < (k : Int) := by omega
        have hj0 : (0 : Int) ≤ (j : Int) := by omega
        obtain ⟨pb, po, hA, _, e0⟩ := ir_at HX10.out hlt
        injection hA with hA
        injection hA with hA1 hA2 hA3
        rw [← hA1, ← hA2, Nat.zero_add, HTO.out j hlt] at e0
        clear hA1 hA2 hA3
        by_cases hji2 : j = i
        · rw [if_pos hji2] at e0
          have hq : ((j : Int) == (i : Int)) = true := by rw [hji2]; exact beq_self_eq_true _
          clear hji2
          go_wp2_with fail
          go_roundw
          case rel => exact ⟨j + 1, _, by omega, by go_num, rfl, by first | rfl | trivial⟩
          case measure => simp [intOf]; omega
        · rw [if_neg hji2] at e0
          have hq : ((j : Int) == (i : Int)) = false := by rw [beq_eq_false_iff_ne]; omega
          have hq2 : ((j : Int) != (j : Int)) = false := by simp
          clear hji2
          go_wp2_with fail
          go_roundw
          case rel => exact ⟨j + 1, _, by omega, by go_num, rfl, by first | rfl | trivial⟩
          case measure => simp [intOf]; omega
      · have hji : ¬ (j : Int) < (k : Int) := by omega
        go_wp2_with (go_at_call 9; ((with_reducible refine (HAW.out _).mono ?_); rintro e w11 ⟨rfl, h1⟩; have HB11 := Lib.hid (HB10.out.trans (h1.mono HB10.out.size)); clear h1))
        go_ret
        exact ⟨rfl, HB11.out⟩
end Go.Proofs.Ytnnnpjdlhdkeaaa
