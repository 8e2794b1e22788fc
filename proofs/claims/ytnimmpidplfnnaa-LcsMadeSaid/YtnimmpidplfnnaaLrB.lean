/-
  Layer 15, the reference: Pairs and Long.
-/
import Derived.Test.YtnimmpidplfnnaaLrA
namespace Go.Proofs.Ytnimmpidplfnnaa
open Go.RowKit

theorem pX_nil (b : List ByteArray) (i j : Nat) : pX [] b i j = [] := by unfold pX; rw [wkAt_end1 (Nat.zero_le _)]; rfl
theorem pY_nil (b : List ByteArray) (i j : Nat) : pY [] b i j = [] := by unfold pY; rw [wkAt_end1 (Nat.zero_le _)]; rfl
/-- Two rows of places that the call makes, apart. -/
structure PrI (B : Nat) (w : World) (vx vy : Value) (xs ys : List Int) : Prop where
  ox : Own (encInt .i64) 3 w B vx xs
  oy : Own (encInt .i64) 3 w B vy ys
  ap : ∀ g, vx.ownBlock = some g → vy.ownBlock ≠ some g
theorem PrI.alloc {B : Nat} {w : World} {vx vy : Value} {xs ys : List Int} (h : PrI B w vx vy xs ys) (o : Obj) : PrI B (w.alloc o) vx vy xs ys := ⟨h.ox.alloc o, h.oy.alloc o, h.ap⟩
theorem PrI.drewN {B : Nat} {w : World} {vx vy : Value} {xs ys : List Int} (h : PrI B w vx vy xs ys) (q : Nat) : PrI B (w.drewN q) vx vy xs ys := ⟨h.ox, h.oy, h.ap⟩
theorem PrI.putX {B : Nat} {w w2 : World} {vx vy v' : Value} {xs ys zs : List Int} (h : PrI B w vx vy xs ys) (hg : w.grownBy w2 vx.ownBlock) (ho : Own (encInt .i64) 3 w2 B v' zs) (hv : v'.ownBlock = vx.ownBlock ∨ v'.ownBlock = some w.heap.size) : PrI B w2 v' vy zs ys := by
  refine ⟨ho, h.oy.keep fun g h1 h2 h3 => hg.block g h2 (fun e => h.ap g e.symm h3), fun g hg2 hy => ?_⟩
  rcases hv with e | e
  · exact h.ap g (e ▸ hg2) hy
  · rw [e] at hg2; injection hg2 with hg2; have := h.oy.less hy; omega
theorem PrI.putY {B : Nat} {w w2 : World} {vx vy v' : Value} {xs ys zs : List Int} (h : PrI B w vx vy xs ys) (hg : w.grownBy w2 vy.ownBlock) (ho : Own (encInt .i64) 3 w2 B v' zs) (hv : v'.ownBlock = vy.ownBlock ∨ v'.ownBlock = some w.heap.size) : PrI B w2 vx v' xs zs := by
  refine ⟨h.ox.keep fun g h1 h2 h3 => hg.block g h2 (fun e => h.ap g h3 e.symm), ho, fun g hg2 hy => ?_⟩
  rcases hv with e | e
  · exact h.ap g hg2 (e ▸ hy)
  · rw [e] at hy; injection hy with hy; have := h.ox.less hg2; omega
/-- Between two rounds. -/
structure RpI (a b : List ByteArray) (w1 wr : World) (i j : Nat) (vx vy : Value) (xs ys : List Int) : Prop where
  pr : PrI w1.heap.size wr vx vy xs ys
  bl : Below w1.heap.size w1 wr
  x : xs ++ pX a b i j = pX a b 0 0
  y : ys ++ pY a b i j = pY a b 0 0
  lx : xs.length ≤ i
  ly : ys.length ≤ j
theorem RpI.both {a b : List ByteArray} {w1 wr w2 : World} {i j : Nat} {vx vy vx' vy' : Value} {xs ys : List Int} (h : RpI a b w1 wr i j vx vy xs ys) {s t : ByteArray} (hx : a[i]? = some s) (hy : b[j]? = some t) (e : s = t) (h1 : PrI w1.heap.size w2 vx' vy' (xs ++ [(i : Int)]) (ys ++ [(j : Int)])) (h2 : Below w1.heap.size w1 w2) : RpI a b w1 w2 (i + 1) (j + 1) vx' vy' (xs ++ [(i : Int)]) (ys ++ [(j : Int)]) := by
  have hw := wkAt_eq hx hy e
  refine ⟨h1, h2, ?_, ?_, by have := h.lx; simp; omega, by have := h.ly; simp; omega⟩
  · rw [← h.x, List.append_assoc]; unfold pX; rw [hw]; rfl
  · rw [← h.y, List.append_assoc]; unfold pY; rw [hw]; rfl
theorem RpI.pA {a b : List ByteArray} {w1 wr w2 : World} {i j : Nat} {vx vy : Value} {xs ys : List Int} (h : RpI a b w1 wr i j vx vy xs ys) {s t : ByteArray} (hx : a[i]? = some s) (hy : b[j]? = some t) (e : ¬ s = t) (hl : lcsAt a b i (j + 1) ≤ lcsAt a b (i + 1) j) (h1 : PrI w1.heap.size w2 vx vy xs ys) (h2 : Below w1.heap.size w1 w2) : RpI a b w1 w2 (i + 1) j vx vy xs ys := by
  have hw := wkAt_ne1 hx hy e hl
  refine ⟨h1, h2, ?_, ?_, by have := h.lx; omega, h.ly⟩
  · rw [← h.x]; unfold pX; rw [hw]
  · rw [← h.y]; unfold pY; rw [hw]
theorem RpI.pB {a b : List ByteArray} {w1 wr w2 : World} {i j : Nat} {vx vy : Value} {xs ys : List Int} (h : RpI a b w1 wr i j vx vy xs ys) {s t : ByteArray} (hx : a[i]? = some s) (hy : b[j]? = some t) (e : ¬ s = t) (hl : ¬ lcsAt a b i (j + 1) ≤ lcsAt a b (i + 1) j) (h1 : PrI w1.heap.size w2 vx vy xs ys) (h2 : Below w1.heap.size w1 w2) : RpI a b w1 w2 i (j + 1) vx vy xs ys := by
  have hw := wkAt_ne2 hx hy e hl
  refine ⟨h1, h2, ?_, ?_, h.lx, by have := h.ly; omega⟩
  · rw [← h.x]; unfold pX; rw [hw]
  · rw [← h.y]; unfold pY; rw [hw]
theorem RpI.done {a b : List ByteArray} {w1 wr : World} {i j : Nat} {vx vy : Value} {xs ys : List Int} (h : RpI a b w1 wr i j vx vy xs ys) (hd : a.length ≤ i ∨ b.length ≤ j) : xs = pX a b 0 0 ∧ ys = pY a b 0 0 := by
  have hw : wkAt a b i j = [] := hd.elim (fun h => wkAt_end1 h) (fun h => wkAt_end2 h)
  have h1 := h.x
  have h2 := h.y
  unfold pX at h1 ⊢
  unfold pY at h2 ⊢
  rw [hw] at h1 h2
  simp only [List.map_nil, List.append_nil] at h1 h2
  exact ⟨h1, h2⟩
set_option maxRecDepth 100000 in
set_option maxHeartbeats 8000000 in
theorem refPairs_any (w : World) (A B : Option Addr) (n cap m capb : Nat) (a b : List ByteArray) (hA : SE encStr w w.heap.size (.slice A n cap) a) (hB : SE encStr w w.heap.size (.slice B m capb) b) :
    Calls Try.prog 10 #[.slice A n cap, .slice B m capb] w fun e w' => ∃ vx vy, e = .returned (.tuple #[vx, vy]) ∧ Own (encInt .i64) 3 w' w.heap.size vx (pX (cutL a b).1 (cutL a b).2 0 0) ∧ Own (encInt .i64) 3 w' w.heap.size vy (pY (cutL a b).1 (cutL a b).2 0 0) ∧ Below w.heap.size w w' := by
  have hla := hA.len.1
  have hlb := hB.len.1
  by_cases hn : n ≤ 200
  · by_cases hm : m ≤ 200
    · have in1 : ¬ (200 : Int) < (n : Int) := by omega
      have in2 : ¬ (200 : Int) < (m : Int) := by omega
      rw [show cutL a b = (a, b) from if_neg (by omega)]
      have HT := Lib.hid (refTable_any w A B n cap m capb a b hA hB hn hm)
      have HSA := Lib.hid hA; have HSB := Lib.hid hB
      clear hA hB
      go_enter Try.func10, Try.ntmps10
      go_upto_region 6 with (go_at_call 19; ((with_reducible refine HT.out.mono ?_); rintro e w1 ⟨bl, r, rfl, h1, h2⟩; have HN1 := Lib.hid h1; have HB1 := Lib.hid h2; clear h1 h2))
      clear in1 in2
      have HR0 := Lib.hid (show RpI a b w1 w1 0 0 (.slice none 0 0) (.slice none 0 0) [] [] from ⟨⟨Own.nil _ _ _ _, Own.nil _ _ _ _, fun g h => by cases h⟩, Below.refl _ _, rfl, rfl, Nat.le_refl _, Nat.le_refl _⟩)
      go_loopw [7, 8, 9, 10] (fun vx vy iv jv wr => ∃ (i j : Nat) (ux uy : Value) (xs ys : List Int), i ≤ n ∧ j ≤ m ∧ ux = vx ∧ uy = vy ∧ iv = .int .i64 (i : Int) ∧ jv = .int .i64 (j : Int) ∧ Hid (RpI a b w1 wr i j ux uy xs ys))
        (fun _ _ iv jv _ => n + m - ((intOf iv).toNat + (intOf jv).toNat))
      case atStart => exact ⟨0, 0, _, _, _, _, Nat.zero_le _, Nat.zero_le _, rfl, rfl, rfl, rfl, HR0⟩
      case round =>
        obtain ⟨i, j, ux, uy, xs, ys, hi, hj, rfl, rfl, rfl, rfl, HR⟩ := hrel
        by_cases h1 : i < n
        · have i3 : (i : Int) < (n : Int) := by omega
          have d1 : decide ((i : Int) < (n : Int)) = true := decide_eq_true i3
          by_cases h2 : j < m
          · have j3 : (j : Int) < (m : Int) := by omega
            have hi0 : (0 : Int) ≤ (i : Int) := by omega
            have hj0 : (0 : Int) ≤ (j : Int) := by omega
            obtain ⟨s, hs⟩ : ∃ s, a[i]? = some s := ⟨_, List.getElem?_eq_getElem (by omega)⟩
            obtain ⟨t, ht⟩ : ∃ t, b[j]? = some t := ⟨_, List.getElem?_eq_getElem (by omega)⟩
            obtain ⟨pa, qa, rfl, hpa, hat⟩ := HSA.out.at hs
            obtain ⟨pb, qb, rfl, hpb, hbt⟩ := HSB.out.at ht
            have hB1 : Below w.heap.size w wr := HB1.out.trans (HR.out.bl.mono HB1.out.size)
            have t0 : wr.cell? ⟨pa, qa + i, none⟩ = some (.string s) := by
              have h := hat 0 _ rfl
              rw [Nat.mul_one, Nat.add_zero] at h
              exact (hB1.cell (p := ⟨pa, qa + i, none⟩) hpa).trans h
            have t1 : wr.cell? ⟨pb, qb + j, none⟩ = some (.string t) := by
              have h := hbt 0 _ rfl
              rw [Nat.mul_one, Nat.add_zero] at h
              exact (hB1.cell (p := ⟨pb, qb + j, none⟩) hpb).trans h
            have HX := Lib.hid hs; have HY := Lib.hid ht
            have i1 : IntKind.i64.wrap ((i : Int) + 1) = (i : Int) + 1 := by rw [IntKind.wrap_i64]; omega
            have j1 : IntKind.i64.wrap ((j : Int) + 1) = (j : Int) + 1 := by rw [IntKind.wrap_i64]; omega
            have hlx := HR.out.lx
            have hly := HR.out.ly
            clear hs ht hat hbt hpa hpb hB1
            by_cases e : s = t
            · have e1 : (s.toList == t.toList) = true := by rw [e]; exact beq_self_eq_true _
              have HE := Lib.hid e
              clear e
              go_upto_region 8 with (fail)
              go_quiet (fail)
              have HP5 := Lib.hid (HR.out.pr.drewN nq)
              have HB5 := Lib.hid (below_dn HR.out.bl nq)
              obtain ⟨w5, hw5⟩ : ∃ w5, wr.drewN nq = w5 := ⟨_, rfl⟩
              rw [hw5] at HP5 HB5 ⊢
              clear hw5 t0 t1
              go_wp2_with (first
                | (at_builtin; refine wpList_app_at Elem.num (encInt .i64) rfl (.tmp 44) (.tmp 46) rfl w1.heap.size ux xs rfl (HP5.out.alloc (.cells #[.int .i64 (i : Int)] 3)).ox ⟨w5.heap.size, 0, none⟩ 1 1 [(i : Int)] rfl rfl ?_ ?_ ?_ ?_ ?_; exact cells_new _ _ _ rfl; omega; (unfold maxLen; omega); (have := HB5.out.size; simp; omega); intro v6 w6 g1 g2 g3; have HP6 := Lib.hid ((HP5.out.alloc _).putX g2 g1 g3); have HB6 := Lib.hid ((HB5.out.alloc HB5.out.size (.cells #[.int .i64 (i : Int)] 3)).trans (Below.grown (Below.refl w1.heap.size _) g2 (by have := HB5.out.size; simp; omega) (fun k e => ((HP5.out.alloc (.cells #[.int .i64 (i : Int)] 3)).ox.lies e).1))); clear g1 g2 g3)
                | (at_builtin; refine wpList_app_at Elem.num (encInt .i64) rfl (.tmp 48) (.tmp 50) rfl w1.heap.size uy ys rfl (HP6.out.alloc (.cells #[.int .i64 (j : Int)] 3)).oy ⟨w6.heap.size, 0, none⟩ 1 1 [(j : Int)] rfl rfl ?_ ?_ ?_ ?_ ?_; exact cells_new _ _ _ rfl; omega; (unfold maxLen; omega); (have := HB6.out.size; simp; omega); intro v7 w7 g1 g2 g3; have HP7 := Lib.hid ((HP6.out.alloc _).putY g2 g1 g3); have HB7 := Lib.hid ((HB6.out.alloc HB6.out.size (.cells #[.int .i64 (j : Int)] 3)).trans (Below.grown (Below.refl w1.heap.size _) g2 (by have := HB6.out.size; simp; omega) (fun k e => ((HP6.out.alloc (.cells #[.int .i64 (j : Int)] 3)).oy.lies e).1))); clear g1 g2 g3))
              go_roundw
              case rel => exact ⟨i + 1, j + 1, v6, v7, _, _, by omega, by omega, rfl, rfl, by go_num, by go_num, Lib.hid (HR.out.both HX.out HY.out HE.out HP7.out HB7.out)⟩
              case measure => simp [intOf]; omega
            · have e1 : (s.toList == t.toList) = false := by
                rw [beq_eq_false_iff_ne]
                intro h
                rw [ByteArray.toList_eq, ByteArray.toList_eq] at h
                exact e (ByteArray.ext (Array.toList_inj.1 h))
              have HE := Lib.hid e
              clear e
              have hNr := HN1.out.below HR.out.bl
              have c1 := hNr.cell1 (i := i) (by omega) rfl
              have c2 := hNr.cell1 (i := i + 1) (by omega) rfl
              have c3 := hNr.cell2 (i := i + 1) (j := j) (by omega) rfl (by omega)
              have c4 := hNr.cell2 (i := i) (j := j + 1) (by omega) rfl (by omega)
              obtain ⟨p, hp⟩ : ∃ p, lcsAt a b (i + 1) j = p := ⟨_, rfl⟩
              obtain ⟨q, hq⟩ : ∃ q, lcsAt a b i (j + 1) = q := ⟨_, rfl⟩
              rw [hp] at c3
              rw [hq] at c4
              have i2 : (i : Int) < (n : Int) + 1 := by omega
              have j2 : (j : Int) < (m : Int) + 1 := by omega
              have i4 : ((i : Int) + 1).toNat = i + 1 := by omega
              have j4 : ((j : Int) + 1).toNat = j + 1 := by omega
              have i5 : (0 : Int) ≤ (i : Int) + 1 := by omega
              have j5 : (0 : Int) ≤ (j : Int) + 1 := by omega
              have HPQ := Lib.hid (And.intro hp hq)
              clear hNr hp hq
              by_cases f : q ≤ p
              · have f2 : (q : Int) ≤ (p : Int) := by omega
                have f3 : decide ((q : Int) ≤ (p : Int)) = true := decide_eq_true f2
                have HL := Lib.hid (show lcsAt a b i (j + 1) ≤ lcsAt a b (i + 1) j from by rw [HPQ.out.1, HPQ.out.2]; exact f)
                clear f
                go_upto_region 8 with (fail)
                go_quiet (fail)
                go_wp2_with fail
                go_quiet (fail)
                go_wp2_with fail
                go_roundw
                case rel => exact ⟨i + 1, j, _, _, _, _, by omega, by omega, rfl, rfl, by go_num, rfl, Lib.hid (HR.out.pA HX.out HY.out HE.out HL.out (HR.out.pr.drewN _) (below_dn HR.out.bl _))⟩
                case measure => simp [intOf]; omega
              · have f2 : ¬ (q : Int) ≤ (p : Int) := by omega
                have f3 : decide ((q : Int) ≤ (p : Int)) = false := decide_eq_false f2
                have HL := Lib.hid (show ¬ lcsAt a b i (j + 1) ≤ lcsAt a b (i + 1) j from by rw [HPQ.out.1, HPQ.out.2]; exact f)
                clear f
                go_upto_region 8 with (fail)
                go_quiet (fail)
                go_wp2_with fail
                go_quiet (fail)
                go_wp2_with fail
                go_roundw
                case rel => exact ⟨i, j + 1, _, _, _, _, by omega, by omega, rfl, rfl, rfl, by go_num, Lib.hid (HR.out.pB HX.out HY.out HE.out HL.out (HR.out.pr.drewN _) (below_dn HR.out.bl _))⟩
                case measure => simp [intOf]; omega
          · have j3 : ¬ (j : Int) < (m : Int) := by omega
            have HD := Lib.hid (HR.out.done (by omega))
            go_wp2_with fail
            refine bodyPost_ret (results_tmp2 rfl _ _ _) rfl ?_
            refine ⟨_, _, rfl, ?_, ?_, HB1.out.trans (HR.out.bl.mono HB1.out.size)⟩
            · show Own _ _ _ _ _ (pX a b 0 0)
              rw [← HD.out.1]; exact HR.out.pr.ox.mono HB1.out.size
            · show Own _ _ _ _ _ (pY a b 0 0)
              rw [← HD.out.2]; exact HR.out.pr.oy.mono HB1.out.size
        · have i3 : ¬ (i : Int) < (n : Int) := by omega
          have d1 : decide ((i : Int) < (n : Int)) = false := decide_eq_false i3
          have HD := Lib.hid (HR.out.done (by omega))
          go_wp2_with fail
          refine bodyPost_ret (results_tmp2 rfl _ _ _) rfl ?_
          refine ⟨_, _, rfl, ?_, ?_, HB1.out.trans (HR.out.bl.mono HB1.out.size)⟩
          · show Own _ _ _ _ _ (pX a b 0 0)
            rw [← HD.out.1]; exact HR.out.pr.ox.mono HB1.out.size
          · show Own _ _ _ _ _ (pY a b 0 0)
            rw [← HD.out.2]; exact HR.out.pr.oy.mono HB1.out.size
    · have in1 : ¬ (200 : Int) < (n : Int) := by omega
      have in2 : (200 : Int) < (m : Int) := by omega
      rw [show cutL a b = ([], []) from if_pos (by omega)]
      clear hA hB
      go_enter Try.func10, Try.ntmps10
      go_wp2_with fail
      refine bodyPost_ret (results_tmp2 rfl _ _ _) rfl ?_
      exact ⟨_, _, rfl, by rw [pX_nil]; exact Own.nil _ _ _ _, by rw [pY_nil]; exact Own.nil _ _ _ _, Below.refl _ _⟩
  · have in1 : (200 : Int) < (n : Int) := by omega
    rw [show cutL a b = ([], []) from if_pos (by omega)]
    clear hA hB
    go_enter Try.func10, Try.ntmps10
    go_wp2_with fail
    refine bodyPost_ret (results_tmp2 rfl _ _ _) rfl ?_
    exact ⟨_, _, rfl, by rw [pX_nil]; exact Own.nil _ _ _ _, by rw [pY_nil]; exact Own.nil _ _ _ _, Below.refl _ _⟩
set_option maxRecDepth 100000 in
set_option maxHeartbeats 1600000 in
theorem refLong_any (w : World) (A B : Option Addr) (n cap m capb : Nat) (a b : List ByteArray) (hA : SE encStr w w.heap.size (.slice A n cap) a) (hB : SE encStr w w.heap.size (.slice B m capb) b) :
    Calls Try.prog 13 #[.slice A n cap, .slice B m capb] w fun e w' => e = .returned (.int .i64 (lcsAt (cutL a b).1 (cutL a b).2 0 0 : Int)) ∧ Below w.heap.size w w' := by
  have hla := hA.len.1
  have hlb := hB.len.1
  by_cases hn : n ≤ 200
  · by_cases hm : m ≤ 200
    · have in1 : ¬ (200 : Int) < (n : Int) := by omega
      have in2 : ¬ (200 : Int) < (m : Int) := by omega
      rw [show cutL a b = (a, b) from if_neg (by omega)]
      have HT := Lib.hid (refTable_any w A B n cap m capb a b hA hB hn hm)
      clear hA hB
      go_enter Try.func13, Try.ntmps13
      go_wp2_with (go_at_call 19; ((with_reducible refine HT.out.mono ?_); rintro e w1 ⟨bl, r, rfl, h1, h2⟩; have H2 := Lib.hid h2; have c1 := h1.cell1 (i := 0) (by omega) rfl; have c2 := h1.cell2 (i := 0) (j := 0) (by omega) rfl (by omega); have hp1 : (0 : Int) < (n : Int) + 1 := (by omega); have hp2 : (0 : Int) < (m : Int) + 1 := (by omega); clear h1 h2))
      go_ret
      exact ⟨rfl, H2.out⟩
    · have in1 : ¬ (200 : Int) < (n : Int) := by omega
      have in2 : (200 : Int) < (m : Int) := by omega
      rw [show cutL a b = ([], []) from if_pos (by omega)]
      clear hA hB
      go_enter Try.func13, Try.ntmps13
      go_wp2_with fail
      go_ret
      exact ⟨by rw [lcsAt_end1 (Nat.zero_le _)]; rfl, Below.refl _ _⟩
  · have in1 : (200 : Int) < (n : Int) := by omega
    rw [show cutL a b = ([], []) from if_pos (by omega)]
    clear hA hB
    go_enter Try.func13, Try.ntmps13
    go_wp2_with fail
    go_ret
    exact ⟨by rw [lcsAt_end1 (Nat.zero_le _)]; rfl, Below.refl _ _⟩
end Go.Proofs.Ytnimmpidplfnnaa
