/-
  Layer 15, the reference: the table of two rows of texts.
-/
import Derived.Test.YtnimmpidplfnnaaLcG
namespace Go.Proofs.Ytnimmpidplfnnaa
open Go.RowKit

/-- What the table has when all from row q on is reckoned. -/
def gQ (a b : List ByteArray) (q x y : Nat) : Int := if q ≤ x then (lcsAt a b x y : Int) else 0
theorem gQ_row (a b : List ByteArray) (i x y : Nat) : gQ a b (i + 1) x y = gAt a b i b.length x y := by
  unfold gQ gAt
  by_cases h : i + 1 ≤ x
  · rw [if_pos h, if_pos (by omega)]
  · rw [if_neg h]
    by_cases h2 : i < x ∨ (x = i ∧ b.length ≤ y)
    · rw [if_pos h2, lcsAt_end2 (by omega)]; rfl
    · rw [if_neg h2]
theorem gQ_next (a b : List ByteArray) (i x y : Nat) : gAt a b i 0 x y = gQ a b i x y := by
  unfold gQ gAt
  by_cases h : i ≤ x
  · rw [if_pos h, if_pos (by omega)]
  · rw [if_neg h, if_neg (by omega)]
theorem gQ_last (a b : List ByteArray) (k x y : Nat) : gAt a b a.length k x y = gQ a b a.length x y := by
  unfold gQ gAt
  by_cases h : a.length ≤ x
  · rw [if_pos h, lcsAt_end1 h]
    split <;> rfl
  · rw [if_neg h, if_neg (by omega)]
set_option maxRecDepth 100000 in
set_option maxHeartbeats 8000000 in
theorem refTable_any (w : World) (A B : Option Addr) (n cap m capb : Nat) (a b : List ByteArray) (hA : SE encStr w w.heap.size (.slice A n cap) a) (hB : SE encStr w w.heap.size (.slice B m capb) b) (hn : n ≤ 200) (hm : m ≤ 200) :
    Calls Try.prog 19 #[.slice A n cap, .slice B m capb] w fun e w' => ∃ bl r, e = .returned (.slice (some ⟨bl, 0, none⟩) (n + 1) (n + 1)) ∧ TbN w' bl r n m (fun x y => (lcsAt a b x y : Int)) ∧ Below w.heap.size w w' := by
  have hla := hA.len.1
  have hlb := hB.len.1
  have HSA := Lib.hid hA; have HSB := Lib.hid hB
  clear hA hB
  have hmk1 := run_mkr (n + 1) (by omega)
  rw [Int.natCast_add, Int.natCast_one] at hmk1
  have hmk2 := run_mkn (m + 1) (by omega)
  rw [Int.natCast_add, Int.natCast_one] at hmk2
  have wn : IntKind.i64.wrap ((n : Int) + 1) = (n : Int) + 1 := by rw [IntKind.wrap_i64]; omega
  have wm : IntKind.i64.wrap ((m : Int) + 1) = (m : Int) + 1 := by rw [IntKind.wrap_i64]; omega
  have wm2 : IntKind.i64.wrap ((m : Int) - 1) = (m : Int) - 1 := by rw [IntKind.wrap_i64]; omega
  obtain ⟨bl, hbl⟩ : ∃ bl, w.heap.size = bl := ⟨_, rfl⟩
  go_enter Try.func19, Try.ntmps19
  go_upto_region 3 with (fail)
  have HS1 := Lib.hid (TbP.start (tr := 25) (te := 3) w (fun _ => 0) (n + 1) (m + 1) (gQ a b (n + 1)))
  have HB1 := Lib.hid (show Below w.heap.size w (w.alloc (.cells (madeCells #[.slice none 0 0] (n + 1)) 25)) from (Below.refl _ _).alloc (Nat.le_refl _) _)
  have hs1 : (w.alloc (.cells (madeCells #[.slice none 0 0] (n + 1)) 25)).heap.size = bl + 1 := by simp [hbl]
  obtain ⟨w1, hw1⟩ : ∃ w1, w.alloc (.cells (madeCells #[.slice none 0 0] (n + 1)) 25) = w1 := ⟨_, rfl⟩
  rw [hw1] at HS1 HB1 hs1 ⊢
  rw [hbl] at HS1 HB1
  clear hw1 hmk1
  go_loopw [6] (fun iv wr => ∃ (q : Nat) (r : Nat → Nat), q ≤ n + 1 ∧ iv = .int .i64 ((q : Int) - 1) ∧ Hid (TbP 25 3 wr bl r (n + 1) (m + 1) (fun x => decide (q ≤ x)) (gQ a b q)) ∧ Hid (KpR (fun k => k = bl) w1 wr))
    (fun iv _ => (intOf iv + 1).toNat)
  case atStart => exact ⟨n + 1, _, Nat.le_refl _, by simp, Lib.hid (HS1.out.congr (fun x hx => by rw [decide_eq_false (show ¬ x < 0 by omega), decide_eq_false (show ¬ n + 1 ≤ x by omega)]) (fun _ _ _ _ => rfl)), Lib.hid (KpR.refl _ _)⟩
  case round =>
    obtain ⟨q, r, hq, rfl, HP, HK⟩ := hrel
    cases q with
    | zero =>
      go_wp2_with fail
      go_ret
      refine ⟨bl, r, rfl, ?_, ?_⟩
      · exact HP.out.congr (fun _ _ => rfl) (fun x y _ _ => by unfold gQ; rw [if_pos (Nat.zero_le _)])
      · rw [hbl]; exact HB1.out.trans (HK.out.below (fun k e => by omega) (by omega))
    | succ i =>
      have hm1 : ((i + 1 : Nat) : Int) - 1 = (i : Int) := by omega
      have hi0 : (0 : Int) ≤ (i : Int) := by omega
      have hiN : i < n + 1 := by omega
      have hii : (i : Int) < (n : Int) + 1 := by omega
      have hrb := HP.out.lt
      have hput := HP.out.put hiN (fun j _ => by unfold gQ; rw [if_neg (by omega)])
      have hKS := (HK.out.alloc (.cells (madeCells #[.int .i64 0] (m + 1)) 3)).setCell bl i (.slice (some ⟨wr.heap.size, 0, none⟩) (m + 1) (m + 1)) (.inl rfl)
      rw [World.setCell_alloc_past _ _ _ _ hrb] at hput hKS
      have hhd := (Below.heap_alloc wr (.cells (madeCells #[.int .i64 0] (m + 1)) 3) bl hrb).trans HP.out.head
      have f0 := frozen_of_row _ bl i _ _ hhd
      obtain ⟨u0, c0⟩ : ∃ u, (wr.alloc (.cells (madeCells #[.int .i64 0] (m + 1)) 3)).cell? ⟨bl, i, none⟩ = some u := ⟨_, (cell_of_row _ bl i _ _ _ hhd).trans (rowA_at _ _ _ hiN)⟩
      have hrs : ∀ x, i + 1 ≤ x → x < n + 1 → r x < wr.heap.size := fun x h1 h2 => HP.out.rlt h2 (decide_eq_true h1)
      have HPU := Lib.hid (hput.congr (p' := fun x => decide (i ≤ x)) (g' := gAt a b i m) (fun x _ => by
        by_cases e : x = i
        · subst e; simp
        · rw [if_neg e]; exact decide_eq_decide.2 (by omega)) (fun x y _ _ => by rw [← hlb]; exact gQ_row a b i x y))
      have HKS := Lib.hid hKS
      have HHD := Lib.hid hhd
      clear hput hKS hhd
      rw [hm1]
      clear hm1
      go_upto_region 7 with (fail)
      have hsz3 : ((wr.setCell ⟨bl, i, none⟩ (.slice (some ⟨wr.heap.size, 0, none⟩) (m + 1) (m + 1))).alloc (.cells (madeCells #[.int .i64 0] (m + 1)) 3)).heap.size = wr.heap.size + 1 := by simp
      obtain ⟨w3, hw3⟩ : ∃ w3, (wr.setCell ⟨bl, i, none⟩ (.slice (some ⟨wr.heap.size, 0, none⟩) (m + 1) (m + 1))).alloc (.cells (madeCells #[.int .i64 0] (m + 1)) 3) = w3 := ⟨_, rfl⟩
      rw [hw3] at HPU HKS hsz3 ⊢
      obtain ⟨r2, hr2⟩ : ∃ r2, (fun x => if x = i then wr.heap.size else r x) = r2 := ⟨_, rfl⟩
      rw [hr2] at HPU
      have HR2 := Lib.hid (show r2 i = wr.heap.size from by rw [← hr2]; exact if_pos rfl)
      have hkz := HK.out.size
      clear hw3 f0 c0 hr2
      go_loopw [7] (fun kv wk => ∃ k : Nat, k ≤ m ∧ kv = .int .i64 ((k : Int) - 1) ∧ (i < n ∨ k = m) ∧ Hid (TbP 25 3 wk bl r2 (n + 1) (m + 1) (fun x => decide (i ≤ x)) (gAt a b i k)) ∧ Hid (KpR (fun k => k = bl) w1 wk))
        (fun kv _ => (intOf kv + 1).toNat)
      case atStart => exact ⟨m, Nat.le_refl _, rfl, .inr rfl, HPU, HKS⟩
      case round =>
        obtain ⟨k, hk, rfl, hik, HQ, HKQ⟩ := hrel
        cases k with
        | zero =>
          by_cases hin : i < n
          · have hini : (i : Int) < (n : Int) := by omega
            go_wp2_with fail
            go_roundw
            case rel => exact ⟨i, r2, by omega, by simp, Lib.hid (HQ.out.congr (fun _ _ => rfl) (fun x y _ _ => gQ_next a b i x y)), HKQ⟩
            case measure => simp [intOf]
          · have hini : ¬ (i : Int) < (n : Int) := by omega
            obtain rfl : i = n := by omega
            go_wp2_with fail
            go_roundw
            case rel => exact ⟨i, r2, by omega, by simp, Lib.hid (HQ.out.congr (fun _ _ => rfl) (fun x y _ _ => by rw [← hla]; exact gQ_last a b _ x y)), HKQ⟩
            case measure => simp [intOf]
        | succ j =>
          have hj1 : ((j + 1 : Nat) : Int) - 1 = (j : Int) := by omega
          have hj0 : (0 : Int) ≤ (j : Int) := by omega
          by_cases hin : i < n
          · have hini : (i : Int) < (n : Int) := by omega
            obtain ⟨x, hx⟩ : ∃ x, a[i]? = some x := ⟨_, List.getElem?_eq_getElem (by omega)⟩
            obtain ⟨y, hy⟩ : ∃ y, b[j]? = some y := ⟨_, List.getElem?_eq_getElem (by omega)⟩
            obtain ⟨pa, qa, rfl, hpa, hat⟩ := HSA.out.at hx
            obtain ⟨pb, qb, rfl, hpb, hbt⟩ := HSB.out.at hy
            have t0 : wr.cell? ⟨pa, qa + i, none⟩ = some (.string x) := by
              have h := hat 0 _ rfl
              rw [Nat.mul_one, Nat.add_zero] at h
              exact (World.cell?_of_block (a := ⟨pa, qa + i, none⟩) (HKQ.out.block pa (by omega) (by omega))).trans ((HB1.out.cell (p := ⟨pa, qa + i, none⟩) (by show pa < bl; omega)).trans h)
            have t1 : wr.cell? ⟨pb, qb + j, none⟩ = some (.string y) := by
              have h := hbt 0 _ rfl
              rw [Nat.mul_one, Nat.add_zero] at h
              exact (World.cell?_of_block (a := ⟨pb, qb + j, none⟩) (HKQ.out.block pb (by omega) (by omega))).trans ((HB1.out.cell (p := ⟨pb, qb + j, none⟩) (by show pb < bl; omega)).trans h)
            have jmi : (j : Int) < (m : Int) := by omega
            have i1 : IntKind.i64.wrap ((i : Int) + 1) = (i : Int) + 1 := by rw [IntKind.wrap_i64]; omega
            have j1 : IntKind.i64.wrap ((j : Int) + 1) = (j : Int) + 1 := by rw [IntKind.wrap_i64]; omega
            have j2 : (j : Int) < (m : Int) + 1 := by omega
            have i4 : ((i : Int) + 1).toNat = i + 1 := by omega
            have j4 : ((j : Int) + 1).toNat = j + 1 := by omega
            have i5 : (0 : Int) ≤ (i : Int) + 1 := by omega
            have j5 : (0 : Int) ≤ (j : Int) + 1 := by omega
            have HX := Lib.hid hx
            have HY := Lib.hid hy
            have hle := lcsAt_le a b (i + 1) (j + 1)
            rw [hj1]
            clear hx hy hat hbt hj1 hpa hpb
            by_cases e : x = y
            · have e1 : (x.toList == y.toList) = true := by rw [e]; exact beq_self_eq_true _
              have HE := Lib.hid e
              clear e
              go_upto_region 9 with (fail)
              go_quiet (fail)
              have HQ5 := Lib.hid (HQ.out.drewN nq)
              have HK5 := Lib.hid (HKQ.out.drewN nq)
              obtain ⟨w5, hw5⟩ : ∃ w5, wr.drewN nq = w5 := ⟨_, rfl⟩
              rw [hw5] at HQ5 HK5 ⊢
              clear hw5 t0 t1
              go_upto_region 10 with (fail)
              have dd : ∀ z, i ≤ z → (fun x => decide (i ≤ x)) z = true := fun z hz => decide_eq_true hz
              have v4 := HQ5.out.cell1 (i := i) (by omega) (dd i (Nat.le_refl _))
              have v5 := HQ5.out.cell1 (i := i + 1) (by omega) (dd (i + 1) (by omega))
              have v6 := HQ5.out.cell2 (i := i + 1) (j := j + 1) (by omega) (dd (i + 1) (by omega)) (by omega)
              have v7 := HQ5.out.cell2 (i := i + 1) (j := j) (by omega) (dd (i + 1) (by omega)) (by omega)
              have v8 := HQ5.out.cell2 (i := i) (j := j + 1) (by omega) (dd i (Nat.le_refl _)) (by omega)
              have v9 := HQ5.out.cell2 (i := i) (j := j) (by omega) (dd i (Nat.le_refl _)) (by omega)
              have f9 := HQ5.out.melt2 (i := i) (by omega) (dd i (Nat.le_refl _)) j
              rw [gAt_1] at v6 v7
              rw [gAt_0 _ _ _ _ _ (Nat.le_refl _)] at v8
              have hne : r2 i ≠ bl := HQ5.out.off i (by omega) (dd i (Nat.le_refl _))
              have hne2 : r2 i ≠ r2 (i + 1) := fun e => by have := HQ5.out.inj i (i + 1) (by omega) (by omega) (dd i (Nat.le_refl _)) (dd (i + 1) (by omega)) e; omega
              have HMK := Lib.hid (fun v : Int => show (fun X : World => X.cell? ⟨bl, i, none⟩ = some (.slice (some ⟨r2 i, 0, none⟩) (m + 1) (m + 1)) ∧ X.cell? ⟨bl, i + 1, none⟩ = some (.slice (some ⟨r2 (i + 1), 0, none⟩) (m + 1) (m + 1)) ∧ X.cell? ⟨r2 (i + 1), j + 1, none⟩ = some (.int .i64 (lcsAt a b (i + 1) (j + 1) : Int)) ∧ X.cell? ⟨r2 (i + 1), j, none⟩ = some (.int .i64 (lcsAt a b (i + 1) j : Int)) ∧ X.cell? ⟨r2 i, j + 1, none⟩ = some (.int .i64 (lcsAt a b i (j + 1) : Int))) (w5.setCell ⟨r2 i, j, none⟩ (.int .i64 v)).drew from by
                have hs := HQ5.out.set (i := i) (by omega) (dd i (Nat.le_refl _)) j v
                refine ⟨hs.cell1 (i := i) (by omega) (dd i (Nat.le_refl _)), hs.cell1 (i := i + 1) (by omega) (dd (i + 1) (by omega)), ?_, ?_, ?_⟩
                · exact (hs.cell2 (i := i + 1) (j := j + 1) (by omega) (dd (i + 1) (by omega)) (by omega)).trans (by rw [if_neg (by omega), gAt_1])
                · exact (hs.cell2 (i := i + 1) (j := j) (by omega) (dd (i + 1) (by omega)) (by omega)).trans (by rw [if_neg (by omega), gAt_1])
                · exact (hs.cell2 (i := i) (j := j + 1) (by omega) (dd i (Nat.le_refl _)) (by omega)).trans (by rw [if_neg (by omega), gAt_0 _ _ _ _ _ (Nat.le_refl _)]))
              have HNX := Lib.hid (fun (v : Int) (hv : v = (lcsAt a b i j : Int)) => Lib.hid (show TbP 25 3 (w5.setCell ⟨r2 i, j, none⟩ (.int .i64 v)).drew bl r2 (n + 1) (m + 1) (fun x => decide (i ≤ x)) (gAt a b i j) from
                (TbP.drew (HQ5.out.set (i := i) (by omega) (dd i (Nat.le_refl _)) j v)).congr (fun _ _ => rfl) (fun x y _ _ => by rw [hv]; exact gAt_step a b i j x y)))
              have HKX := Lib.hid (fun (v : Int) => Lib.hid (show KpR (fun k => k = bl) w1 (w5.setCell ⟨r2 i, j, none⟩ (.int .i64 v)).drew from (HK5.out.setCell _ _ _ (.inr (by have := HR2.out; omega))).drew))
              refine wp_region_held_drew (S := (fun X : World => X.cell? ⟨bl, i, none⟩ = some (.slice (some ⟨r2 i, 0, none⟩) (m + 1) (m + 1)) ∧ X.cell? ⟨bl, i + 1, none⟩ = some (.slice (some ⟨r2 (i + 1), 0, none⟩) (m + 1) (m + 1)) ∧ X.cell? ⟨r2 (i + 1), j + 1, none⟩ = some (.int .i64 (lcsAt a b (i + 1) (j + 1) : Int)) ∧ X.cell? ⟨r2 (i + 1), j, none⟩ = some (.int .i64 (lcsAt a b (i + 1) j : Int)) ∧ X.cell? ⟨r2 i, j + 1, none⟩ = some (.int .i64 (lcsAt a b i (j + 1) : Int)))) (by kernel_rfl) (by exact ⟨v4, v5, v6, v7, v8⟩) (fun _ => ?_)
              show wpAnyH _ _ _ _ _ 17 #[false, false, false, false, false, false, false, false, false, false, false, false, false, false, false, false, false] _ _
              refine hV 0 (by exact ⟨v4, v5, v6, v7, v8⟩) ?_
              refine hV 1 (by exact ⟨v4, v5, v6, v7, v8⟩) ?_
              refine hV 2 (by exact ⟨v4, v5, v6, v7, v8⟩) ?_
              refine hV 3 (by exact ⟨v4, v5, v6, v7, v8⟩) ?_
              refine hV 4 (by exact ⟨v4, v5, v6, v7, v8⟩) ?_
              refine hV 5 (by exact ⟨v4, v5, v6, v7, v8⟩) ?_
              refine hV 6 (by exact ⟨v4, v5, v6, v7, v8⟩) ?_
              refine hV 7 (by exact ⟨v4, v5, v6, v7, v8⟩) ?_
              refine hV 8 (by exact ⟨v4, v5, v6, v7, v8⟩) ?_
              refine hV 9 (by exact ⟨v4, v5, v6, v7, v8⟩) ?_
              refine hV 10 (by exact ⟨v4, v5, v6, v7, v8⟩) ?_
              refine hV 11 (by exact ⟨v4, v5, v6, v7, v8⟩) ?_
              refine hV 12 (by exact ⟨v4, v5, v6, v7, v8⟩) ?_
              refine hV 13 (by exact ⟨v4, v5, v6, v7, v8⟩) ?_
              refine hV 14 (by exact ⟨v4, v5, v6, v7, v8⟩) ?_
              refine hV 15 (by exact ⟨v4, v5, v6, v7, v8⟩) ?_
              refine hO 16 (fun K hK => ?_)
              go_simp
              refine hK.out undef _ (HMK.out _) ?_
              clear hK K
              refine wpAnyH_done (by kernel_rfl) ?_ _
              go_wp2_with fail
              go_roundw
              case rel => exact ⟨j, by omega, by simp, .inl (by omega), HNX.out _ (by rw [lcsAt_eq HX.out HY.out HE.out]; omega), HKX.out _⟩
              case measure => simp [intOf]
            · have e1 : (x.toList == y.toList) = false := by
                rw [beq_eq_false_iff_ne]
                intro h
                rw [ByteArray.toList_eq, ByteArray.toList_eq] at h
                exact e (ByteArray.ext (Array.toList_inj.1 h))
              have HE := Lib.hid e
              clear e
              go_upto_region 9 with (fail)
              go_quiet (fail)
              have HQ5 := Lib.hid (HQ.out.drewN nq)
              have HK5 := Lib.hid (HKQ.out.drewN nq)
              obtain ⟨w5, hw5⟩ : ∃ w5, wr.drewN nq = w5 := ⟨_, rfl⟩
              rw [hw5] at HQ5 HK5 ⊢
              clear hw5 t0 t1
              go_upto_region 11 with (fail)
              have dd : ∀ z, i ≤ z → (fun x => decide (i ≤ x)) z = true := fun z hz => decide_eq_true hz
              have v4 := HQ5.out.cell1 (i := i) (by omega) (dd i (Nat.le_refl _))
              have v5 := HQ5.out.cell1 (i := i + 1) (by omega) (dd (i + 1) (by omega))
              have v6 := HQ5.out.cell2 (i := i + 1) (j := j + 1) (by omega) (dd (i + 1) (by omega)) (by omega)
              have v7 := HQ5.out.cell2 (i := i + 1) (j := j) (by omega) (dd (i + 1) (by omega)) (by omega)
              have v8 := HQ5.out.cell2 (i := i) (j := j + 1) (by omega) (dd i (Nat.le_refl _)) (by omega)
              have v9 := HQ5.out.cell2 (i := i) (j := j) (by omega) (dd i (Nat.le_refl _)) (by omega)
              have f9 := HQ5.out.melt2 (i := i) (by omega) (dd i (Nat.le_refl _)) j
              rw [gAt_1] at v6 v7
              rw [gAt_0 _ _ _ _ _ (Nat.le_refl _)] at v8
              have hne : r2 i ≠ bl := HQ5.out.off i (by omega) (dd i (Nat.le_refl _))
              have hne2 : r2 i ≠ r2 (i + 1) := fun e => by have := HQ5.out.inj i (i + 1) (by omega) (by omega) (dd i (Nat.le_refl _)) (dd (i + 1) (by omega)) e; omega
              have HMK := Lib.hid (fun v : Int => show (fun X : World => X.cell? ⟨bl, i, none⟩ = some (.slice (some ⟨r2 i, 0, none⟩) (m + 1) (m + 1)) ∧ X.cell? ⟨bl, i + 1, none⟩ = some (.slice (some ⟨r2 (i + 1), 0, none⟩) (m + 1) (m + 1)) ∧ X.cell? ⟨r2 (i + 1), j + 1, none⟩ = some (.int .i64 (lcsAt a b (i + 1) (j + 1) : Int)) ∧ X.cell? ⟨r2 (i + 1), j, none⟩ = some (.int .i64 (lcsAt a b (i + 1) j : Int)) ∧ X.cell? ⟨r2 i, j + 1, none⟩ = some (.int .i64 (lcsAt a b i (j + 1) : Int))) (w5.setCell ⟨r2 i, j, none⟩ (.int .i64 v)).drew from by
                have hs := HQ5.out.set (i := i) (by omega) (dd i (Nat.le_refl _)) j v
                refine ⟨hs.cell1 (i := i) (by omega) (dd i (Nat.le_refl _)), hs.cell1 (i := i + 1) (by omega) (dd (i + 1) (by omega)), ?_, ?_, ?_⟩
                · exact (hs.cell2 (i := i + 1) (j := j + 1) (by omega) (dd (i + 1) (by omega)) (by omega)).trans (by rw [if_neg (by omega), gAt_1])
                · exact (hs.cell2 (i := i + 1) (j := j) (by omega) (dd (i + 1) (by omega)) (by omega)).trans (by rw [if_neg (by omega), gAt_1])
                · exact (hs.cell2 (i := i) (j := j + 1) (by omega) (dd i (Nat.le_refl _)) (by omega)).trans (by rw [if_neg (by omega), gAt_0 _ _ _ _ _ (Nat.le_refl _)]))
              have HNX := Lib.hid (fun (v : Int) (hv : v = (lcsAt a b i j : Int)) => Lib.hid (show TbP 25 3 (w5.setCell ⟨r2 i, j, none⟩ (.int .i64 v)).drew bl r2 (n + 1) (m + 1) (fun x => decide (i ≤ x)) (gAt a b i j) from
                (TbP.drew (HQ5.out.set (i := i) (by omega) (dd i (Nat.le_refl _)) j v)).congr (fun _ _ => rfl) (fun x y _ _ => by rw [hv]; exact gAt_step a b i j x y)))
              have HKX := Lib.hid (fun (v : Int) => Lib.hid (show KpR (fun k => k = bl) w1 (w5.setCell ⟨r2 i, j, none⟩ (.int .i64 v)).drew from (HK5.out.setCell _ _ _ (.inr (by have := HR2.out; omega))).drew))
              refine wp_region_held_drew (S := (fun X : World => X.cell? ⟨bl, i, none⟩ = some (.slice (some ⟨r2 i, 0, none⟩) (m + 1) (m + 1)) ∧ X.cell? ⟨bl, i + 1, none⟩ = some (.slice (some ⟨r2 (i + 1), 0, none⟩) (m + 1) (m + 1)) ∧ X.cell? ⟨r2 (i + 1), j + 1, none⟩ = some (.int .i64 (lcsAt a b (i + 1) (j + 1) : Int)) ∧ X.cell? ⟨r2 (i + 1), j, none⟩ = some (.int .i64 (lcsAt a b (i + 1) j : Int)) ∧ X.cell? ⟨r2 i, j + 1, none⟩ = some (.int .i64 (lcsAt a b i (j + 1) : Int)))) (by kernel_rfl) (by exact ⟨v4, v5, v6, v7, v8⟩) (fun _ => ?_)
              show wpAnyH _ _ _ _ _ 24 #[false, false, false, false, false, false, false, false, false, false, false, false, false, false, false, false, false, false, false, false, false, false, false, false] _ _
              refine hV 0 (by exact ⟨v4, v5, v6, v7, v8⟩) ?_
              refine hV 1 (by exact ⟨v4, v5, v6, v7, v8⟩) ?_
              refine hV 2 (by exact ⟨v4, v5, v6, v7, v8⟩) ?_
              refine hV 3 (by exact ⟨v4, v5, v6, v7, v8⟩) ?_
              refine hV 4 (by exact ⟨v4, v5, v6, v7, v8⟩) ?_
              refine hV 5 (by exact ⟨v4, v5, v6, v7, v8⟩) ?_
              refine hV 6 (by exact ⟨v4, v5, v6, v7, v8⟩) ?_
              refine hV 7 (by exact ⟨v4, v5, v6, v7, v8⟩) ?_
              refine hV 8 (by exact ⟨v4, v5, v6, v7, v8⟩) ?_
              refine hV 9 (by exact ⟨v4, v5, v6, v7, v8⟩) ?_
              refine hV 10 (by exact ⟨v4, v5, v6, v7, v8⟩) ?_
              refine hV 11 (by exact ⟨v4, v5, v6, v7, v8⟩) ?_
              refine hV 12 (by exact ⟨v4, v5, v6, v7, v8⟩) ?_
              refine hV 13 (by exact ⟨v4, v5, v6, v7, v8⟩) ?_
              refine hV 14 (by exact ⟨v4, v5, v6, v7, v8⟩) ?_
              refine hV 15 (by exact ⟨v4, v5, v6, v7, v8⟩) ?_
              refine hV 16 (by exact ⟨v4, v5, v6, v7, v8⟩) ?_
              refine hV 17 (by exact ⟨v4, v5, v6, v7, v8⟩) ?_
              refine hV 18 (by exact ⟨v4, v5, v6, v7, v8⟩) ?_
              refine hV 19 (by exact ⟨v4, v5, v6, v7, v8⟩) ?_
              refine hV 20 (by exact ⟨v4, v5, v6, v7, v8⟩) ?_
              refine hV 21 (by exact ⟨v4, v5, v6, v7, v8⟩) ?_
              refine hV 22 (by exact ⟨v4, v5, v6, v7, v8⟩) ?_
              refine hO 23 (fun K hK => ?_)
              go_simp
              refine hK.out undef _ (HMK.out _) ?_
              clear hK K
              refine wpAnyH_done (by kernel_rfl) ?_ _
              go_wp2_with fail
              go_roundw
              case rel => exact ⟨j, by omega, by simp, .inl (by omega), HNX.out _ (by rw [lcsAt_ne HX.out HY.out HE.out]; omega), HKX.out _⟩
              case measure => simp [intOf]
          · have hini : ¬ (i : Int) < (n : Int) := by omega
            obtain rfl : i = n := by omega
            rw [hj1]
            clear hj1
            go_wp2_with fail
            go_roundw
            case rel => exact ⟨i, r2, by omega, by simp, Lib.hid (HQ.out.congr (fun _ _ => rfl) (fun x y _ _ => by rw [← hla]; exact gQ_last a b _ x y)), HKQ⟩
            case measure => simp [intOf]
end Go.Proofs.Ytnimmpidplfnnaa
