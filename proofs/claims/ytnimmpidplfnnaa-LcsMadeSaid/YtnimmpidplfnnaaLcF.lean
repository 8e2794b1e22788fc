/-
  Layer 15, the program: whether the walk goes on, and how.
-/
import Derived.Test.YtnimmpidplfnnaaLcE
namespace Go.Proofs.Ytnimmpidplfnnaa
open Go.RowKit

theorem WkI.drewN {w : World} {wb tb i j : Nat} {vx vy : Value} {xs ys : List Int} (h : WkI w wb tb i j vx vy xs ys) (q : Nat) : WkI (w.drewN q) wb tb i j vx vy xs ys := ⟨h.at_, h.ox, h.oy, h.ap⟩
set_option maxRecDepth 100000 in
set_option maxHeartbeats 4000000 in
theorem goesOn_any (w : World) (wb tb i j ga gb bl n m : Nat) (vx vy : Value) (xs ys : List Int) (h : WkI w wb tb i j vx vy xs ys) (hT : TblAt w tb ga gb bl n m) :
    Calls Try.prog 17 #[.pointer (some ⟨wb, 0, none⟩)] w fun e w' => e = .returned (.bool (decide (i < n) && decide (j < m))) ∧ ∃ q, w.drewN q = w' := by
  obtain ⟨x0, x1, x2, x3, x4⟩ := h.cells
  obtain ⟨y0, y1, y2⟩ := hT.cells
  clear h hT x3 x4 y2
  by_cases h1 : i < n
  · have d1 : decide ((i : Int) < (n : Int)) = true := decide_eq_true (by omega)
    have i1 : (i : Int) < (n : Int) := by omega
    by_cases h2 : j < m
    · have i2 : (j : Int) < (m : Int) := by omega
      have HR := Lib.hid (show (decide (i < n) && decide (j < m)) = true from by rw [decide_eq_true h1, decide_eq_true h2]; rfl)
      go_enter Try.func17, Try.ntmps17
      go_upto_region 1 with (fail)
      go_quiet (fail)
      go_wp2_with fail
      go_ret
      exact ⟨by first | rfl | (rw [HR.out]; rfl), _, rfl⟩
    · have i2 : ¬ (j : Int) < (m : Int) := by omega
      have HR := Lib.hid (show (decide (i < n) && decide (j < m)) = false from by rw [decide_eq_false h2, Bool.and_false])
      go_enter Try.func17, Try.ntmps17
      go_upto_region 1 with (fail)
      go_quiet (fail)
      go_wp2_with fail
      go_ret
      exact ⟨by first | rfl | (rw [HR.out]; rfl), _, rfl⟩
  · have d1 : decide ((i : Int) < (n : Int)) = false := decide_eq_false (by omega)
    have i1 : ¬ (i : Int) < (n : Int) := by omega
    have HR := Lib.hid (show (decide (i < n) && decide (j < m)) = false from by rw [decide_eq_false h1, Bool.false_and])
    go_enter Try.func17, Try.ntmps17
    go_upto_region 1 with (fail)
    go_quiet (fail)
    go_wp2_with fail
    go_ret
    exact ⟨by first | rfl | (rw [HR.out]; rfl), _, rfl⟩
/-- Which step comes next. -/
def stepF (a b : List ByteArray) (i j : Nat) : Nat := if a[i]? = b[j]? then 23 else if lcsAt a b i (j + 1) ≤ lcsAt a b (i + 1) j then 24 else 25
set_option maxRecDepth 100000 in
set_option maxHeartbeats 4000000 in
theorem step_any (w : World) (B wb tb i j : Nat) (a b : List ByteArray) (vx vy : Value) (xs ys : List Int) (h : WkI w wb tb i j vx vy xs ys) (hT : LcT w B tb a b) (hi : i < a.length) (hj : j < b.length) (hla : a.length ≤ 1000) (hlb : b.length ≤ 1000) :
    Calls Try.prog 18 #[.pointer (some ⟨wb, 0, none⟩)] w fun e w' => e = .returned (.func (.func (stepF a b i j)) #[.pointer (some ⟨wb, 0, none⟩)] #[]) ∧ ∃ q, w.drewN q = w' := by
  obtain ⟨x0, x1, x2, x3, x4⟩ := h.cells
  obtain ⟨ga, gb, bl, r, na, nb, h1, h2, h3, h4, h5, -, -, -⟩ := hT
  obtain ⟨y0, y1, y2⟩ := h1.cells
  obtain ⟨x, hx⟩ : ∃ x, a[i]? = some x := ⟨_, List.getElem?_eq_getElem hi⟩
  obtain ⟨y, hy⟩ : ∃ y, b[j]? = some y := ⟨_, List.getElem?_eq_getElem hj⟩
  obtain ⟨u, v, hu, hv, huv⟩ := h5 i j x y hx hy
  have e0 := h3.cell hu
  have e1 := h4.cell hv
  have c1 := h2.cell1 (i := i) (by omega) rfl
  have c2 := h2.cell1 (i := i + 1) (by omega) rfl
  have c3 := h2.cell2 (i := i + 1) (j := j) (by omega) rfl (by omega)
  have c4 := h2.cell2 (i := i) (j := j + 1) (by omega) rfl (by omega)
  obtain ⟨la, hla0⟩ : ∃ la, a.length = la := ⟨_, rfl⟩
  obtain ⟨lb, hlb0⟩ : ∃ lb, b.length = lb := ⟨_, rfl⟩
  rw [hla0] at y0 y2 hi hla
  rw [hlb0] at y1 c1 c2 hj hlb
  obtain ⟨p, hp⟩ : ∃ p, lcsAt a b (i + 1) j = p := ⟨_, rfl⟩
  obtain ⟨q, hq⟩ : ∃ q, lcsAt a b i (j + 1) = q := ⟨_, rfl⟩
  rw [hp] at c3
  rw [hq] at c4
  have i1 : IntKind.i64.wrap ((i : Int) + 1) = (i : Int) + 1 := by rw [IntKind.wrap_i64]; omega
  have j1 : IntKind.i64.wrap ((j : Int) + 1) = (j : Int) + 1 := by rw [IntKind.wrap_i64]; omega
  have i2 : (i : Int) < (la : Int) + 1 := by omega
  have i3 : (i : Int) < (la : Int) := by omega
  have j2 : (j : Int) < (lb : Int) + 1 := by omega
  have j3 : (j : Int) < (lb : Int) := by omega
  have i4 : ((i : Int) + 1).toNat = i + 1 := by omega
  have j4 : ((j : Int) + 1).toNat = j + 1 := by omega
  have i5 : (0 : Int) ≤ (i : Int) + 1 := by omega
  have j5 : (0 : Int) ≤ (j : Int) + 1 := by omega
  have HF := Lib.hid (show stepF a b i j = if u = v then 23 else if q ≤ p then 24 else 25 from by
    unfold stepF
    rw [hx, hy, hp, hq]
    by_cases e : x = y
    · rw [if_pos (by rw [e]), if_pos (huv.2 e)]
    · rw [if_neg (fun e2 => e (Option.some.inj e2)), if_neg (fun e2 => e (huv.1 e2))])
  clear h h1 h2 h3 h4 h5 x3 x4 hx hy hu hv huv hp hq hla0 hlb0
  by_cases e : u = v
  · have e2 : (u == v) = true := by rw [e]; exact beq_self_eq_true v
    rw [if_pos e] at HF
    clear e
    go_enter Try.func18, Try.ntmps18
    go_upto_region 1 with (fail)
    go_quiet (fail)
    go_wp2_with fail
    go_ret
    exact ⟨by rw [HF.out]; rfl, _, rfl⟩
  · have e2 : (u == v) = false := by rw [beq_eq_false_iff_ne]; exact e
    rw [if_neg e] at HF
    clear e
    by_cases f : q ≤ p
    · rw [if_pos f] at HF
      have f2 : (q : Int) ≤ (p : Int) := by omega
      have f3 : decide ((q : Int) ≤ (p : Int)) = true := decide_eq_true f2
      clear f
      go_enter Try.func18, Try.ntmps18
      go_upto_region 1 with (fail)
      go_quiet (fail)
      go_wp2_with fail
      go_quiet (fail)
      go_wp2_with fail
      go_ret
      exact ⟨by rw [HF.out]; rfl, _, rfl⟩
    · rw [if_neg f] at HF
      have f2 : ¬ (q : Int) ≤ (p : Int) := by omega
      have f3 : decide ((q : Int) ≤ (p : Int)) = false := decide_eq_false f2
      clear f
      go_enter Try.func18, Try.ntmps18
      go_upto_region 1 with (fail)
      go_quiet (fail)
      go_wp2_with fail
      go_quiet (fail)
      go_wp2_with fail
      go_ret
      exact ⟨by rw [HF.out]; rfl, _, rfl⟩
end Go.Proofs.Ytnimmpidplfnnaa
