/-
  slices.Backward over numbers: what a range over it goes through (parted off).
-/
import Derived.RangeFuncNested
import Derived.RangeFuncBound
import Derived.RangeFuncCalls
import Derived.RangeFuncLeaves
import Derived.Shelf.Abstract
import Derived.WalkKit
import Derived.OwnWalkIn
import Derived.TacticsInMore
import Derived.LoopNIn
import Derived.LoopIn
import Derived.Test.YtnimmpidplfnnaaTwo
namespace Go.Proofs.Ytnimmpidplfnnaa
open Go.RowKit Go.Shelf

attribute [local go_sem] Oper.semAt_some

/-- What has come when q numbers are left. -/
def cameI (xs : List Int) (q : Nat) : List (Nat × Int) := (List.range (xs.length - q)).map fun j => (xs.length - 1 - j, xs.getD (xs.length - 1 - j) 0)
theorem cameI_all (xs : List Int) : cameI xs xs.length = [] := by unfold cameI; simp
theorem cameI_step (xs : List Int) (m : Nat) (p : Int) (hp : xs[m]? = some p) : cameI xs m = cameI xs (m + 1) ++ [(m, p)] := by
  have hl := (List.getElem?_eq_some_iff.1 hp).1
  unfold cameI
  rw [show xs.length - m = (xs.length - (m + 1)) + 1 by omega, List.range_succ, List.map_append]
  show _ ++ [(xs.length - 1 - (xs.length - (m + 1)), _)] = _
  rw [show xs.length - 1 - (xs.length - (m + 1)) = m by omega, List.getD_eq_getElem?_getD, hp]; rfl
theorem cameI_len (xs : List Int) (q : Nat) : (cameI xs q).length = xs.length - q := by unfold cameI; simp
set_option maxRecDepth 100000 in
set_option maxHeartbeats 4000000 in
theorem backI1_in (F : Fence) (n : Nat) (h7 : F.fn 27) (hro : F.round = none) (hn : 1 ≤ n) (l Bs b po cap : Nat) (A : Option Addr) (xs : List Int) (hlen : xs.length ≤ 1000000000) (J Jx : List (Nat × Int) → World → Prop)
    (hY : ∀ pre x W, xs[x.1]? = some x.2 → J pre W → pre.length < xs.length → YieldAt F (n - 1) Try.prog l #[.int .i64 (x.1 : Int), .int .i64 x.2] W fun e W' =>
      (e = .returned (.bool true) ∧ J (pre ++ [x]) W' ∧ Twos Bs b W W') ∨ (e = .returned (.bool false) ∧ Jx (pre ++ [x]) W'))
    (W : World) (hBs : W.cell? ⟨Bs, 0, none⟩ = some (.slice A xs.length cap)) (hc : ∀ m p, xs[m]? = some p → A = some ⟨b, po, none⟩ ∧ W.cell? ⟨b, po + m, none⟩ = some (.int .i64 p)) (h0 : J [] W) :
    CallsIn F n Try.prog 27 #[.func (.yield l) #[] #[], .pointer (some ⟨Bs, 0, none⟩)] W fun e W' => (∃ v, e = .returned v) ∧
      ((∃ ys, ys = cameI xs 0 ∧ J ys W') ∨ (∃ pre, True ∧ Jx pre W')) := by
  obtain ⟨L, hL⟩ : ∃ L, xs.length = L := ⟨_, rfl⟩
  have HL := Lib.hid hL
  rw [hL] at hlen hBs
  refine callsIn_of_wp Try.func27 rfl h7 ?_ hro
  simp only [Try.ntmps27, List.size_toArray, List.length_cons, List.length_nil, Nat.reduceAdd, Nat.reduceSub, Array.replicate_succ, Array.replicate_zero, List.push_toArray, List.append_toArray, List.nil_append, List.cons_append]
  gi_wp2
  gi_loopw [3] (fun i wr => ∃ q : Nat, q ≤ L ∧ i = .int .i64 ((q : Int) - 1) ∧ J (cameI xs q) wr ∧ Twos Bs b W wr)
    (fun i _ => (intOf i + 1).toNat)
  case atStart => exact ⟨L, Nat.le_refl _, rfl, by rw [← hL, cameI_all]; exact h0, Twos.refl _ _ _⟩
  case round =>
    obtain ⟨q, hq, rfl, hJs, hnx⟩ := hrel
    have hBs' := (hnx.cell1 0).trans hBs
    cases q with
    | zero =>
      gi_wp2
      go_end0
      exact ⟨⟨_, rfl⟩, .inl ⟨_, rfl, hJs⟩⟩
    | succ m =>
      obtain ⟨p, hp⟩ : ∃ p, xs[m]? = some p := ⟨_, List.getElem?_eq_getElem (by omega)⟩
      obtain ⟨hA, c0⟩ := hc m p hp
      have d0 := (hnx.cell2 (po + m)).trans c0
      have hst := cameI_step xs m p hp
      obtain ⟨fn, tmps, assign, body, hy, hR⟩ := hY _ (m, p) wr hp hJs (by rw [cameI_len]; omega)
      rw [← hst] at hR
      dsimp only at hy
      have hm1 : ((m + 1 : Nat) : Int) - 1 = (m : Int) := by omega
      rw [hm1]
      have hmL : (m : Int) < (L : Int) := by omega
      have hm0 : (0 : Int) ≤ (m : Int) := by omega
      clear hm1 c0 hc hJs hst
      subst hA
      gi_wp2
      refine hR.mono ?_
      rintro e W3 (⟨rfl, hJ3, hk3⟩ | ⟨rfl, hJx3⟩)
      · gi_wp2
        go_roundw
        case rel => exact ⟨m, by omega, by simp, hJ3, hnx.trans hk3⟩
        case measure => simp [intOf]
      · gi_wp2
        refine bodyPost_ret (results_none rfl _ _ _) rfl ?_
        exact ⟨⟨_, rfl⟩, .inr ⟨_, trivial, hJx3⟩⟩
theorem backwardI_in (F : Fence) (n : Nat) (h5 : F.fn 26) (hro : F.round = none) (a : Option Addr) (len cap : Nat) (w : World) :
    CallsIn F n Try.prog 26 #[.slice a len cap] w fun e w' => e = .returned (.func (.func 27) #[] #[.pointer (some ⟨w.heap.size, 0, none⟩)]) ∧ w.alloc (.cells #[.slice a len cap] 25) = w' := by
  refine callsIn_of_wp Try.func26 rfl h5 ?_ hro
  simp only [Try.ntmps26, List.size_toArray, List.length_cons, List.length_nil, Nat.reduceAdd, Nat.reduceSub, Array.replicate_succ, Array.replicate_zero, List.push_toArray, List.append_toArray, List.nil_append, List.cons_append]
  gi_wp2
  go_ret
  exact ⟨rfl, rfl⟩
theorem backI_stops (F : Fence) (n : Nat) (h7 : F.fn 27) (hro : F.round = none) (hn : 1 ≤ n) (Bs b po cap : Nat) (A : Option Addr) (xs : List Int) (hlen : xs.length ≤ 1000000000) (w : World) (hB : Bs < w.heap.size) (hb : b < w.heap.size)
    (hBs : w.cell? ⟨Bs, 0, none⟩ = some (.slice A xs.length cap)) (hc : ∀ m p, xs[m]? = some p → A = some ⟨b, po, none⟩ ∧ w.cell? ⟨b, po + m, none⟩ = some (.int .i64 p)) :
    SeqStopsK F n Try.prog 27 #[.pointer (some ⟨Bs, 0, none⟩)] (fun x : Nat × Int => #[Value.int .i64 (x.1 : Int), .int .i64 x.2]) (Twos Bs b) (fun ys => ys = cameI xs 0) (fun _ => True) xs.length w := fun l J Jx W hW _ _ hY h0 =>
  backI1_in F n h7 hro hn l Bs b po cap A xs hlen J Jx (fun pre x W _ => hY pre x W) W ((hW.cell hB).trans hBs) (fun m p hp => ⟨(hc m p hp).1, (hW.cell (p := ⟨b, po + m, none⟩) hb).trans (hc m p hp).2⟩) h0
/-- A place of a list and what stands there. -/
abbrev Ti (xs : List Int) : Type := { p : Nat × Int // xs[p.1]? = some p.2 }
/-- What has come is what was to come. -/
def Okc (xs : List Int) (pre : List (Nat × Int)) : Prop := pre = cameI xs (xs.length - pre.length)
theorem okc_nil (xs : List Int) : Okc xs [] := by unfold Okc; exact (cameI_all xs).symm
theorem okc_all (xs : List Int) : Okc xs (cameI xs 0) := by unfold Okc; rw [cameI_len, Nat.sub_zero, Nat.sub_self]
theorem okc_snoc {xs : List Int} {pre : List (Nat × Int)} {x : Nat × Int} (h : Okc xs (pre ++ [x])) (hl : pre.length < xs.length) : Okc xs pre ∧ x.1 + 1 + pre.length = xs.length := by
  unfold Okc at h
  obtain ⟨m, hm⟩ : ∃ m, xs.length - (pre ++ [x]).length = m := ⟨_, rfl⟩
  rw [hm] at h
  rw [List.length_append, List.length_singleton] at hm
  obtain ⟨p, hp⟩ : ∃ p, xs[m]? = some p := ⟨_, List.getElem?_eq_getElem (by omega)⟩
  rw [cameI_step xs m p hp] at h
  have h1 := List.append_inj_left' h rfl
  have h2 := List.append_inj_right' h rfl
  injection h2 with h2
  refine ⟨?_, by rw [h2]; show m + 1 + _ = _; omega⟩
  unfold Okc
  rw [show xs.length - pre.length = m + 1 from by omega]
  exact h1
theorem backT_stops (F : Fence) (n : Nat) (h7 : F.fn 27) (hro : F.round = none) (hn : 1 ≤ n) (Bs b po cap : Nat) (A : Option Addr) (xs : List Int) (hlen : xs.length ≤ 1000000000) (w : World) (hB : Bs < w.heap.size) (hb : b < w.heap.size)
    (hBs : w.cell? ⟨Bs, 0, none⟩ = some (.slice A xs.length cap)) (hc : ∀ m p, xs[m]? = some p → A = some ⟨b, po, none⟩ ∧ w.cell? ⟨b, po + m, none⟩ = some (.int .i64 p)) :
    SeqStopsK F n Try.prog 27 #[.pointer (some ⟨Bs, 0, none⟩)] (fun x : Ti xs => #[Value.int .i64 (x.1.1 : Int), .int .i64 x.1.2]) (Twos Bs b) (fun ys => ys.map (·.1) = cameI xs 0) (fun _ => True) xs.length w := fun l J Jx W hW _ _ hY h0 =>
  (backI1_in F n h7 hro hn l Bs b po cap A xs hlen (fun pre W => ∃ q : List (Ti xs), q.map (·.1) = pre ∧ J q W) (fun pre W => ∃ q : List (Ti xs), q.map (·.1) = pre ∧ Jx q W) (by
      rintro pre x W hx ⟨q, rfl, hJ⟩ hl
      rw [List.length_map] at hl
      obtain ⟨fn, tmps, assign, body, hy, hR⟩ := hY q ⟨x, hx⟩ W hJ hl
      refine ⟨fn, tmps, assign, body, hy, hR.mono ?_⟩
      rintro e W' (⟨h1, h2, h3⟩ | ⟨h1, h2⟩)
      · exact .inl ⟨h1, ⟨_, by rw [List.map_append]; rfl, h2⟩, h3⟩
      · exact .inr ⟨h1, _, by rw [List.map_append]; rfl, h2⟩) W ((hW.cell hB).trans hBs) (fun m p hp => ⟨(hc m p hp).1, (hW.cell (p := ⟨b, po + m, none⟩) hb).trans (hc m p hp).2⟩) ⟨[], rfl, h0⟩).mono (by
      rintro e W' ⟨hv, ⟨ys, h1, q, h2, h3⟩ | ⟨pre, _, q, h2, h3⟩⟩
      · exact ⟨hv, .inl ⟨q, h2.trans h1, h3⟩⟩
      · exact ⟨hv, .inr ⟨q, trivial, h3⟩⟩)
end Go.Proofs.Ytnimmpidplfnnaa
