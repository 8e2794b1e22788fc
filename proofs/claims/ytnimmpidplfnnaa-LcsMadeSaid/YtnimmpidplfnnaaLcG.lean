/-
  Layer 15, the program: Pairs and Long.
-/
import Derived.Test.YtnimmpidplfnnaaLcF
namespace Go.Proofs.Ytnimmpidplfnnaa
open Go.RowKit

theorem below_dn {B : Nat} {w w' : World} (h : Below B w w') (q : Nat) : Below B w (w'.drewN q) := ⟨h.os, h.tape, h.output, h.size, h.block⟩
/-- What two rows have in common: the places. -/
def pX (a b : List ByteArray) (i j : Nat) : List Int := (wkAt a b i j).map fun p => (p.1 : Int)
def pY (a b : List ByteArray) (i j : Nat) : List Int := (wkAt a b i j).map fun p => (p.2 : Int)
def wkm (wb k : Nat) (w : World) : Nat := k - ((match w.cell? ⟨wb, 1, none⟩ with | some (.int _ m) => m.toNat | _ => 0) + (match w.cell? ⟨wb, 2, none⟩ with | some (.int _ m) => m.toNat | _ => 0))
theorem WkI.wkm {w : World} {wb tb i j : Nat} {vx vy : Value} {xs ys : List Int} (h : WkI w wb tb i j vx vy xs ys) (k : Nat) : wkm wb k w = k - (i + j) := by
  obtain ⟨-, h1, h2, -, -⟩ := h.cells
  unfold Go.Proofs.Ytnimmpidplfnnaa.wkm; rw [h1, h2]; rfl
/-- Between two rounds. -/
structure WkR (a b : List ByteArray) (w1 wr : World) (wb tb i j : Nat) (vx vy : Value) (xs ys : List Int) : Prop where
  at_ : WkI wr wb tb i j vx vy xs ys
  bl : Below wb w1 wr
  x : xs ++ pX a b i j = pX a b 0 0
  y : ys ++ pY a b i j = pY a b 0 0
  lx : xs.length ≤ i
  ly : ys.length ≤ j
theorem WkR.both {a b : List ByteArray} {w1 wr w2 : World} {wb tb i j : Nat} {vx vy vx' vy' : Value} {xs ys : List Int} (h : WkR a b w1 wr wb tb i j vx vy xs ys) (e : a[i]? = b[j]?) (hi : i < a.length) (hj : j < b.length) (h1 : WkI w2 wb tb (i + 1) (j + 1) vx' vy' (xs ++ [(i : Int)]) (ys ++ [(j : Int)])) (h2 : Below wb wr w2) : WkR a b w1 w2 wb tb (i + 1) (j + 1) vx' vy' (xs ++ [(i : Int)]) (ys ++ [(j : Int)]) := by
  have hx : a[i]? = some a[i] := List.getElem?_eq_getElem hi
  have hy : b[j]? = some b[j] := List.getElem?_eq_getElem hj
  have hw := wkAt_eq hx hy (Option.some.inj (by rw [← hx, e, hy]))
  refine ⟨h1, h.bl.trans h2, ?_, ?_, by have := h.lx; simp; omega, by have := h.ly; simp; omega⟩
  · rw [← h.x, List.append_assoc]; unfold pX; rw [hw]; rfl
  · rw [← h.y, List.append_assoc]; unfold pY; rw [hw]; rfl
theorem WkR.pA {a b : List ByteArray} {w1 wr w2 : World} {wb tb i j : Nat} {vx vy : Value} {xs ys : List Int} (h : WkR a b w1 wr wb tb i j vx vy xs ys) (e : ¬ a[i]? = b[j]?) (hi : i < a.length) (hj : j < b.length) (hl : lcsAt a b i (j + 1) ≤ lcsAt a b (i + 1) j) (h1 : WkI w2 wb tb (i + 1) j vx vy xs ys) (h2 : Below wb wr w2) : WkR a b w1 w2 wb tb (i + 1) j vx vy xs ys := by
  have hx : a[i]? = some a[i] := List.getElem?_eq_getElem hi
  have hy : b[j]? = some b[j] := List.getElem?_eq_getElem hj
  have hw := wkAt_ne1 hx hy (fun e2 => e (by rw [hx, hy, e2])) hl
  refine ⟨h1, h.bl.trans h2, ?_, ?_, by have := h.lx; omega, h.ly⟩
  · rw [← h.x]; unfold pX; rw [hw]
  · rw [← h.y]; unfold pY; rw [hw]
theorem WkR.pB {a b : List ByteArray} {w1 wr w2 : World} {wb tb i j : Nat} {vx vy : Value} {xs ys : List Int} (h : WkR a b w1 wr wb tb i j vx vy xs ys) (e : ¬ a[i]? = b[j]?) (hi : i < a.length) (hj : j < b.length) (hl : ¬ lcsAt a b i (j + 1) ≤ lcsAt a b (i + 1) j) (h1 : WkI w2 wb tb i (j + 1) vx vy xs ys) (h2 : Below wb wr w2) : WkR a b w1 w2 wb tb i (j + 1) vx vy xs ys := by
  have hx : a[i]? = some a[i] := List.getElem?_eq_getElem hi
  have hy : b[j]? = some b[j] := List.getElem?_eq_getElem hj
  have hw := wkAt_ne2 hx hy (fun e2 => e (by rw [hx, hy, e2])) hl
  refine ⟨h1, h.bl.trans h2, ?_, ?_, h.lx, by have := h.ly; omega⟩
  · rw [← h.x]; unfold pX; rw [hw]
  · rw [← h.y]; unfold pY; rw [hw]
theorem WkR.drewN {a b : List ByteArray} {w1 wr : World} {wb tb i j : Nat} {vx vy : Value} {xs ys : List Int} (h : WkR a b w1 wr wb tb i j vx vy xs ys) (q : Nat) : WkR a b w1 (wr.drewN q) wb tb i j vx vy xs ys := ⟨h.at_.drewN q, below_dn h.bl q, h.x, h.y, h.lx, h.ly⟩
theorem WkR.done {a b : List ByteArray} {w1 wr : World} {wb tb i j : Nat} {vx vy : Value} {xs ys : List Int} (h : WkR a b w1 wr wb tb i j vx vy xs ys) (hd : a.length ≤ i ∨ b.length ≤ j) : xs = pX a b 0 0 ∧ ys = pY a b 0 0 := by
  have hw : wkAt a b i j = [] := hd.elim (fun h => wkAt_end1 h) (fun h => wkAt_end2 h)
  have h1 := h.x
  have h2 := h.y
  unfold pX at h1 ⊢
  unfold pY at h2 ⊢
  rw [hw] at h1 h2
  simp only [List.map_nil, List.append_nil] at h1 h2
  exact ⟨h1, h2⟩
theorem e_take : ∀ args (v : World), (callFunc 23 args).run Try.prog v = .ok (.enter 23 args) v := Go.Proofs.enters_of Try.func23 (by kernel_rfl) rfl
theorem e_passA : ∀ args (v : World), (callFunc 24 args).run Try.prog v = .ok (.enter 24 args) v := Go.Proofs.enters_of Try.func24 (by kernel_rfl) rfl
theorem e_passB : ∀ args (v : World), (callFunc 25 args).run Try.prog v = .ok (.enter 25 args) v := Go.Proofs.enters_of Try.func25 (by kernel_rfl) rfl
set_option maxRecDepth 100000 in
set_option maxHeartbeats 8000000 in
theorem pairs_any (w : World) (A B : Option Addr) (n cap m capb : Nat) (a b : List ByteArray) (hA : SE encStr w w.heap.size (.slice A n cap) a) (hB : SE encStr w w.heap.size (.slice B m capb) b) (hza : ∀ x ∈ a, x.size ≤ maxLen) (hzb : ∀ x ∈ b, x.size ≤ maxLen) :
    Calls Try.prog 9 #[.slice A n cap, .slice B m capb] w fun e w' => ∃ vx vy, e = .returned (.tuple #[vx, vy]) ∧ Own (encInt .i64) 3 w' w.heap.size vx (pX (cutL a b).1 (cutL a b).2 0 0) ∧ Own (encInt .i64) 3 w' w.heap.size vy (pY (cutL a b).1 (cutL a b).2 0 0) ∧ Below w.heap.size w w' := by
  have HT := Lib.hid (tableOf_any w A B n cap m capb a b hA hB hza hzb)
  obtain ⟨hl1, hl2⟩ := cutL_le a b
  obtain ⟨a', ha'⟩ : ∃ a', (cutL a b).1 = a' := ⟨_, rfl⟩
  obtain ⟨b', hb'⟩ : ∃ b', (cutL a b).2 = b' := ⟨_, rfl⟩
  rw [ha'] at HT hl1 ⊢
  rw [hb'] at HT hl2 ⊢
  clear hA hB hza hzb ha' hb'
  go_enter Try.func9, Try.ntmps9
  go_upto_region 2 with (go_at_call 16; ((with_reducible refine HT.out.mono ?_); rintro e w1 ⟨tb, rfl, h1, h2⟩; have HL1 := Lib.hid h1; have HB1 := Lib.hid h2; clear h1 h2))
  obtain ⟨wb, hwb⟩ : ∃ wb, w1.heap.size = wb := ⟨_, rfl⟩
  have hwlt : w.heap.size ≤ wb := by rw [← hwb]; exact HB1.out.size
  have HAT := Lib.hid (Go.MapKept.heap_alloc w1 (.cells #[.pointer (some ⟨tb, 0, none⟩), .int .i64 0, .int .i64 0, .slice none 0 0, .slice none 0 0] 41)).1
  have HB2 := Lib.hid (show Below w1.heap.size w1 (w1.alloc (.cells #[.pointer (some ⟨tb, 0, none⟩), .int .i64 0, .int .i64 0, .slice none 0 0, .slice none 0 0] 41)) from (Below.refl _ _).alloc (Nat.le_refl _) _)
  obtain ⟨w2, hw2⟩ : ∃ w2, w1.alloc (.cells #[.pointer (some ⟨tb, 0, none⟩), .int .i64 0, .int .i64 0, .slice none 0 0, .slice none 0 0] 41) = w2 := ⟨_, rfl⟩
  rw [hw2] at HAT HB2 ⊢
  rw [hwb] at HAT HB2 ⊢
  clear hw2
  have HR0 := Lib.hid (show WkR a' b' w1 w2 wb tb 0 0 (.slice none 0 0) (.slice none 0 0) [] [] from ⟨⟨HAT.out, Own.nil _ _ _ _, Own.nil _ _ _ _, fun g h => by cases h⟩, HB2.out, rfl, rfl, Nat.le_refl _, Nat.le_refl _⟩)
  obtain ⟨n', hn'⟩ : ∃ n', a'.length = n' := ⟨_, rfl⟩
  obtain ⟨m', hm'⟩ : ∃ m', b'.length = m' := ⟨_, rfl⟩
  have HLA := Lib.hid hn'
  have HLB := Lib.hid hm'
  go_loopw [] (fun wr => ∃ (i j : Nat) (vx vy : Value) (xs ys : List Int), i ≤ n' ∧ j ≤ m' ∧ Hid (WkR a' b' w1 wr wb tb i j vx vy xs ys))
    (fun wr => wkm wb (n' + m') wr)
  case atStart => exact ⟨0, 0, _, _, _, _, Nat.zero_le _, Nat.zero_le _, HR0⟩
  case round =>
    obtain ⟨i, j, vx, vy, xs, ys, hi, hj, HR⟩ := hrel
    have HLR := Lib.hid (HL1.out.lift (hwb.symm ▸ HR.out.bl : Below w1.heap.size w1 wr))
    have hmr := HR.out.at_.wkm (n' + m')
    have HG := Lib.hid (by
      obtain ⟨ga, gb, bl, r, na, nb, h1, -⟩ := HLR.out
      rw [HLA.out, HLB.out] at h1
      exact goesOn_any wr wb tb i j ga gb bl n' m' vx vy xs ys HR.out.at_ h1)
    by_cases hgo : i < n' ∧ j < m'
    · rw [decide_eq_true hgo.1, decide_eq_true hgo.2] at HG
      simp only [Bool.and_self] at HG
      have HST := Lib.hid (fun q => step_any (wr.drewN q) w.heap.size wb tb i j a' b' vx vy xs ys (HR.out.at_.drewN q) (HLR.out.lift (below_dn (Below.refl _ _) q)) (by rw [HLA.out]; exact hgo.1) (by rw [HLB.out]; exact hgo.2) (by omega) (by omega))
      by_cases he : a'[i]? = b'[j]?
      · have hsf : stepF a' b' i j = 23 := if_pos he
        rw [hsf] at HST
        have het := e_take
        have HE := Lib.hid he
        clear hsf he
        go_wp2_with (first
          | (go_at_call 17; ((with_reducible refine HG.out.mono ?_); rintro e w3 ⟨rfl, q1, rfl⟩))
          | (go_at_call 18; ((with_reducible refine (HST.out q1).mono ?_); rintro e w3 ⟨rfl, q2, rfl⟩))
          | (go_at_call 23; ((with_reducible refine (takeBoth_any _ wb tb i j vx vy xs ys (HR.out.at_.drewN (q1 + q2)) (by omega) (by omega) (by have := HR.out.lx; omega) (by have := HR.out.ly; omega)).mono ?_); rintro e w3 ⟨⟨v, rfl⟩, ⟨vx', vy', h1⟩, h2⟩; have H1 := Lib.hid h1; have H2 := Lib.hid h2; clear h1 h2)))
        have HRN := Lib.hid ((HR.out.drewN (q1 + q2)).both HE.out (by rw [HLA.out]; exact hgo.1) (by rw [HLB.out]; exact hgo.2) H1.out H2.out)
        have hmr2 := HRN.out.at_.wkm (n' + m')
        go_roundw
        case rel => exact ⟨i + 1, j + 1, _, _, _, _, by omega, by omega, HRN⟩
        case measure => rw [hmr, hmr2]; omega
      · by_cases hl : lcsAt a' b' i (j + 1) ≤ lcsAt a' b' (i + 1) j
        · have hsf : stepF a' b' i j = 24 := (if_neg he).trans (if_pos hl)
          rw [hsf] at HST
          have het := e_passA
          have HE := Lib.hid he
          have HL := Lib.hid hl
          clear hl
          clear hsf he
          go_wp2_with (first
            | (go_at_call 17; ((with_reducible refine HG.out.mono ?_); rintro e w3 ⟨rfl, q1, rfl⟩))
            | (go_at_call 18; ((with_reducible refine (HST.out q1).mono ?_); rintro e w3 ⟨rfl, q2, rfl⟩))
            | (go_at_call 24; ((with_reducible refine (passA_any _ wb tb i j vx vy xs ys (HR.out.at_.drewN (q1 + q2)) (by omega)).mono ?_); rintro e w3 ⟨⟨v, rfl⟩, h1, h2⟩; have H1 := Lib.hid h1; have H2 := Lib.hid h2; clear h1 h2)))
          have HRN := Lib.hid ((HR.out.drewN (q1 + q2)).pA HE.out (by rw [HLA.out]; exact hgo.1) (by rw [HLB.out]; exact hgo.2) HL.out H1.out H2.out)
          have hmr2 := HRN.out.at_.wkm (n' + m')
          go_roundw
          case rel => exact ⟨i + 1, j, _, _, _, _, by omega, by omega, HRN⟩
          case measure => rw [hmr, hmr2]; omega
        · have hsf : stepF a' b' i j = 25 := (if_neg he).trans (if_neg hl)
          rw [hsf] at HST
          have het := e_passB
          have HE := Lib.hid he
          have HL := Lib.hid hl
          clear hl
          clear hsf he
          go_wp2_with (first
            | (go_at_call 17; ((with_reducible refine HG.out.mono ?_); rintro e w3 ⟨rfl, q1, rfl⟩))
            | (go_at_call 18; ((with_reducible refine (HST.out q1).mono ?_); rintro e w3 ⟨rfl, q2, rfl⟩))
            | (go_at_call 25; ((with_reducible refine (passB_any _ wb tb i j vx vy xs ys (HR.out.at_.drewN (q1 + q2)) (by omega)).mono ?_); rintro e w3 ⟨⟨v, rfl⟩, h1, h2⟩; have H1 := Lib.hid h1; have H2 := Lib.hid h2; clear h1 h2)))
          have HRN := Lib.hid ((HR.out.drewN (q1 + q2)).pB HE.out (by rw [HLA.out]; exact hgo.1) (by rw [HLB.out]; exact hgo.2) HL.out H1.out H2.out)
          have hmr2 := HRN.out.at_.wkm (n' + m')
          go_roundw
          case rel => exact ⟨i, j + 1, _, _, _, _, by omega, by omega, HRN⟩
          case measure => rw [hmr, hmr2]; omega
    · rw [show (decide (i < n') && decide (j < m')) = false from by
        by_cases h1 : i < n'
        · rw [decide_eq_false (show ¬ j < m' from fun h2 => hgo ⟨h1, h2⟩), Bool.and_false]
        · rw [decide_eq_false h1, Bool.false_and]] at HG
      have HD := Lib.hid (HR.out.done (by rw [HLA.out, HLB.out]; omega))
      obtain ⟨-, -, -, x3, x4⟩ := HR.out.at_.cells
      clear hgo
      go_wp2_with (go_at_call 17; ((with_reducible refine HG.out.mono ?_); rintro e w3 ⟨rfl, q1, rfl⟩))
      go_quiet (fail)
      go_wp2_with fail
      refine bodyPost_ret (results_tmp2 rfl _ _ _) rfl ?_
      refine ⟨_, _, rfl, ?_, ?_, ?_⟩
      · rw [← HD.out.1]; exact HR.out.at_.ox.mono (by omega)
      · rw [← HD.out.2]; exact HR.out.at_.oy.mono (by omega)
      · exact below_dn (below_dn (HB1.out.trans (HR.out.bl.mono hwlt)) _) _
set_option maxRecDepth 100000 in
set_option maxHeartbeats 1600000 in
theorem long_any (w : World) (A B : Option Addr) (n cap m capb : Nat) (a b : List ByteArray) (hA : SE encStr w w.heap.size (.slice A n cap) a) (hB : SE encStr w w.heap.size (.slice B m capb) b) (hza : ∀ x ∈ a, x.size ≤ maxLen) (hzb : ∀ x ∈ b, x.size ≤ maxLen) :
    Calls Try.prog 12 #[.slice A n cap, .slice B m capb] w fun e w' => e = .returned (.int .i64 (lcsAt (cutL a b).1 (cutL a b).2 0 0 : Int)) ∧ Below w.heap.size w w' := by
  have HT := Lib.hid (tableOf_any w A B n cap m capb a b hA hB hza hzb)
  obtain ⟨a', ha'⟩ : ∃ a', (cutL a b).1 = a' := ⟨_, rfl⟩
  obtain ⟨b', hb'⟩ : ∃ b', (cutL a b).2 = b' := ⟨_, rfl⟩
  rw [ha', hb'] at HT ⊢
  clear hA hB hza hzb ha' hb'
  go_enter Try.func12, Try.ntmps12
  go_wp2_with (go_at_call 16; ((with_reducible refine HT.out.mono ?_); rintro e w1 ⟨tb, rfl, ⟨ga, gb, bl, r, na, nb, h1, h2, -⟩, h3⟩; have H3 := Lib.hid h3; obtain ⟨-, -, y2⟩ := h1.cells; have c1 := h2.cell1 (i := 0) (by omega) rfl; have c2 := h2.cell2 (i := 0) (j := 0) (by omega) rfl (by omega); have hp1 : (0 : Int) < (a'.length : Int) + 1 := (by omega); have hp2 : (0 : Int) < (b'.length : Int) + 1 := (by omega); clear h1 h2 h3))
  go_ret
  exact ⟨rfl, H3.out⟩
end Go.Proofs.Ytnimmpidplfnnaa
