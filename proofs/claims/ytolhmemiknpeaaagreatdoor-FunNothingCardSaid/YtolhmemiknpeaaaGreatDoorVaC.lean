/-
  Layer 7, the program: values beside each other.
-/
import Derived.Test.YtolhmemiknpeaaaGreatDoorVaB
import Derived.Deep.DeepCutAuto
namespace Go.Proofs.YtolhmemiknpeaaaGreatDoor
open Go.RowKit

theorem res_counted : Tryz.f87.results = #[.cell 4 28] := by kernel_rfl
theorem vl_open2 (w : World) (a b : Vl) : VlAt (((w.alloc (.cells #[.int .i64 a.k, .int .i64 a.n, .string a.s] 28)).alloc (.cells #[.int .i64 b.k, .int .i64 b.n, .string b.s] 28)).alloc (.cells #[.int .i64 0, .int .i64 0, .string ⟨#[]⟩] 28)) w.heap.size a ∧ VlAt (((w.alloc (.cells #[.int .i64 a.k, .int .i64 a.n, .string a.s] 28)).alloc (.cells #[.int .i64 b.k, .int .i64 b.n, .string b.s] 28)).alloc (.cells #[.int .i64 0, .int .i64 0, .string ⟨#[]⟩] 28)) (w.heap.size + 1) b ∧ VlAt (((w.alloc (.cells #[.int .i64 a.k, .int .i64 a.n, .string a.s] 28)).alloc (.cells #[.int .i64 b.k, .int .i64 b.n, .string b.s] 28)).alloc (.cells #[.int .i64 0, .int .i64 0, .string ⟨#[]⟩] 28)) (w.heap.size + 2) Vl.none ∧ Below w.heap.size w (((w.alloc (.cells #[.int .i64 a.k, .int .i64 a.n, .string a.s] 28)).alloc (.cells #[.int .i64 b.k, .int .i64 b.n, .string b.s] 28)).alloc (.cells #[.int .i64 0, .int .i64 0, .string ⟨#[]⟩] 28)) := by
  have b1 := below_vl w a
  have b2 := below_vl (w.alloc (.cells #[.int .i64 a.k, .int .i64 a.n, .string a.s] 28)) b
  have b3 := below_z ((w.alloc (.cells #[.int .i64 a.k, .int .i64 a.n, .string a.s] 28)).alloc (.cells #[.int .i64 b.k, .int .i64 b.n, .string b.s] 28))
  have h2 := VlAt.new (w.alloc (.cells #[.int .i64 a.k, .int .i64 a.n, .string a.s] 28)) b
  have h3 := VlAt.zero ((w.alloc (.cells #[.int .i64 a.k, .int .i64 a.n, .string a.s] 28)).alloc (.cells #[.int .i64 b.k, .int .i64 b.n, .string b.s] 28))
  refine ⟨((VlAt.new w a).over b2).over b3, ?_, ?_, (b1.trans (b2.mono b1.size)).trans (b3.mono (b1.trans (b2.mono b1.size)).size)⟩
  · have := h2.over b3; rwa [World.size_alloc] at this
  · rwa [World.size_alloc, World.size_alloc] at h3
set_option maxRecDepth 100000 in
set_option maxHeartbeats 1600000 in
theorem counted_none (a b : Vl) (h : a.k = 0) (w : World) : Calls Tryz.prog 87 #[.agg #[.int .i64 a.k, .int .i64 a.n, .string a.s], .agg #[.int .i64 b.k, .int .i64 b.n, .string b.s]] w fun e w' => e = .returned (.agg #[.int .i64 (asV a b).k, .int .i64 (asV a b).n, .string (asV a b).s]) ∧ Below w.heap.size w w' := by
  have hv : asV a b = (⟨b.k, 0, ⟨#[]⟩⟩ : Vl) := by unfold asV; rw [if_pos h]
  have e0 : (a.k == 0) = true := beq_iff_eq.2 h
  rw [hv]
  clear hv h
  obtain ⟨k1, k2, k3, k4⟩ := vl_open2 w a b
  have HA := Lib.hid k1; have HO := Lib.hid k2; have HZ := Lib.hid k3; have HB := Lib.hid k4
  clear k1 k2 k3 k4
  go_enter Tryz.func87, Tryz.ntmps87
  go_upto_region 1 with (fail)
  generalize hz : w.heap.size = q at HA HO HZ ⊢
  generalize (((w.alloc (.cells #[.int .i64 a.k, .int .i64 a.n, .string a.s] 28)).alloc (.cells #[.int .i64 b.k, .int .i64 b.n, .string b.s] 28)).alloc (.cells #[.int .i64 0, .int .i64 0, .string ⟨#[]⟩] 28)) = w1 at HA HO HZ HB ⊢
  have HLE := Lib.hid (show w.heap.size ≤ q + 2 by omega)
  obtain ⟨a0, a1, a2⟩ := HA.out.cells
  obtain ⟨o0, o1, o2⟩ := HO.out.cells
  obtain ⟨m0, m1, m2⟩ := HZ.out.melts
  obtain ⟨u0, u1, u2⟩ := HZ.out.cells
  clear hz
  go_wp2_with fail
  exact bodyPost_ret (out_vl (HZ.out.put3 (⟨b.k, 0, ⟨#[]⟩⟩ : Vl)) _ _ 4 res_counted rfl) rfl ⟨rfl, belowV3 HB.out HLE.out (⟨b.k, 0, ⟨#[]⟩⟩ : Vl)⟩
set_option maxRecDepth 100000 in
set_option maxHeartbeats 1600000 in
theorem counted_some (a b : Vl) (h : ¬ a.k = 0) (w : World) : Calls Tryz.prog 87 #[.agg #[.int .i64 a.k, .int .i64 a.n, .string a.s], .agg #[.int .i64 b.k, .int .i64 b.n, .string b.s]] w fun e w' => e = .returned (.agg #[.int .i64 (asV a b).k, .int .i64 (asV a b).n, .string (asV a b).s]) ∧ Below w.heap.size w w' := by
  have hv : asV a b = a := by unfold asV; rw [if_neg h]
  have e0 : (a.k == 0) = false := beq_eq_false_iff_ne.2 h
  rw [hv]
  clear hv h
  obtain ⟨k1, k2, k3, k4⟩ := vl_open2 w a b
  have HA := Lib.hid k1; have HO := Lib.hid k2; have HZ := Lib.hid k3; have HB := Lib.hid k4
  clear k1 k2 k3 k4
  go_enter Tryz.func87, Tryz.ntmps87
  go_upto_region 1 with (fail)
  generalize hz : w.heap.size = q at HA HO HZ ⊢
  generalize (((w.alloc (.cells #[.int .i64 a.k, .int .i64 a.n, .string a.s] 28)).alloc (.cells #[.int .i64 b.k, .int .i64 b.n, .string b.s] 28)).alloc (.cells #[.int .i64 0, .int .i64 0, .string ⟨#[]⟩] 28)) = w1 at HA HO HZ HB ⊢
  have HLE := Lib.hid (show w.heap.size ≤ q + 2 by omega)
  obtain ⟨a0, a1, a2⟩ := HA.out.cells
  obtain ⟨o0, o1, o2⟩ := HO.out.cells
  obtain ⟨m0, m1, m2⟩ := HZ.out.melts
  obtain ⟨u0, u1, u2⟩ := HZ.out.cells
  clear hz
  go_wp2_with fail
  exact bodyPost_ret (out_vl (HZ.out.put3 a) _ _ 4 res_counted rfl) rfl ⟨rfl, belowV3 HB.out HLE.out a⟩
theorem counted_any (a b : Vl) (w : World) : Calls Tryz.prog 87 #[.agg #[.int .i64 a.k, .int .i64 a.n, .string a.s], .agg #[.int .i64 b.k, .int .i64 b.n, .string b.s]] w fun e w' => e = .returned (.agg #[.int .i64 (asV a b).k, .int .i64 (asV a b).n, .string (asV a b).s]) ∧ Below w.heap.size w w' := by
  by_cases h : a.k = 0
  · exact counted_none a b h w
  · exact counted_some a b h w
set_option maxRecDepth 100000 in
set_option maxHeartbeats 1600000 in
theorem isNaN_any (x : Int) (w : World) : Calls Tryz.prog 94 #[.int .i64 x] w fun e w' => e = .returned (.bool false) ∧ w = w' := by
  have e0 : (x != x) = false := by simp
  go_enter Tryz.func94, Tryz.ntmps94
  go_wp2_with fail
  go_ret
  exact ⟨by first | rfl | rw [e0], rfl⟩
set_option maxRecDepth 100000 in
set_option maxHeartbeats 1600000 in
theorem cmpInt_any (x y : Int) (w : World) : Calls Tryz.prog 88 #[.int .i64 x, .int .i64 y] w fun e w' => e = .returned (.int .i64 (Lib.compareInt x y)) ∧ w = w' := by
  have HN := Lib.hid isNaN_any
  by_cases h : x < y
  · have HC := Lib.hid (show Lib.compareInt x y = -1 by unfold Lib.compareInt; rw [if_pos h])
    go_enter Tryz.func88, Tryz.ntmps88
    go_wp2_with (go_at_call 94; ((with_reducible refine (HN.out _ _).mono ?_); rintro e w2 ⟨rfl, rfl⟩))
    go_ret
    exact ⟨by rw [HC.out]; rfl, rfl⟩
  · by_cases h2 : y < x
    · have HC := Lib.hid (show Lib.compareInt x y = 1 by unfold Lib.compareInt; rw [if_neg h, if_pos h2])
      go_enter Tryz.func88, Tryz.ntmps88
      go_wp2_with (go_at_call 94; ((with_reducible refine (HN.out _ _).mono ?_); rintro e w2 ⟨rfl, rfl⟩))
      go_ret
      exact ⟨by rw [HC.out]; rfl, rfl⟩
    · have HC := Lib.hid (show Lib.compareInt x y = 0 by unfold Lib.compareInt; rw [if_neg h, if_neg h2])
      go_enter Tryz.func88, Tryz.ntmps88
      go_wp2_with (go_at_call 94; ((with_reducible refine (HN.out _ _).mono ?_); rintro e w2 ⟨rfl, rfl⟩))
      go_ret
      exact ⟨by rw [HC.out]; rfl, rfl⟩
def PrAt (w : World) (q : Nat) (a b : Vl) : Prop := w.heap[q]? = some (.cells #[.int .i64 a.k, .int .i64 a.n, .string a.s, .int .i64 b.k, .int .i64 b.n, .string b.s] 87)
theorem PrAt.new (w : World) (a b : Vl) : PrAt (w.alloc (.cells #[.int .i64 a.k, .int .i64 a.n, .string a.s, .int .i64 b.k, .int .i64 b.n, .string b.s] 87)) w.heap.size a b := (Go.MapKept.heap_alloc w _).1
theorem PrAt.lt {w : World} {q : Nat} {a b : Vl} (h : PrAt w q a b) : q < w.heap.size := (Array.getElem?_eq_some_iff.1 h).1
theorem PrAt.over {w w' : World} {q : Nat} {a b : Vl} (h : PrAt w q a b) (hb : Below w.heap.size w w') : PrAt w' q a b := by unfold PrAt; rw [hb.block q h.lt]; exact h
theorem PrAt.cells {w : World} {q : Nat} {a b : Vl} (h : PrAt w q a b) : w.cell? ⟨q, 0, none⟩ = some (.int .i64 a.k) ∧ w.cell? ⟨q, 1, none⟩ = some (.int .i64 a.n) ∧ w.cell? ⟨q, 2, none⟩ = some (.string a.s) ∧ w.cell? ⟨q, 3, none⟩ = some (.int .i64 b.k) ∧ w.cell? ⟨q, 4, none⟩ = some (.int .i64 b.n) ∧ w.cell? ⟨q, 5, none⟩ = some (.string b.s) :=
  ⟨by rw [cell_of_row w q 0 _ _ _ h]; rfl, by rw [cell_of_row w q 1 _ _ _ h]; rfl, by rw [cell_of_row w q 2 _ _ _ h]; rfl, by rw [cell_of_row w q 3 _ _ _ h]; rfl, by rw [cell_of_row w q 4 _ _ _ h]; rfl, by rw [cell_of_row w q 5 _ _ _ h]; rfl⟩
theorem below_pr (w : World) (a b : Vl) : Below w.heap.size w (w.alloc (.cells #[.int .i64 a.k, .int .i64 a.n, .string a.s, .int .i64 b.k, .int .i64 b.n, .string b.s] 87)) := (Below.refl _ _).alloc (Nat.le_refl _) _
/-- Between two steps: the pair; what is new; places that were made for what comes. -/
def ZS (w0 : World) (q : Nat) (a b : Vl) (rs : List Nat) (w : World) : Prop := PrAt w q a b ∧ Below w0.heap.size w0 w ∧ q = w0.heap.size ∧ rs.Nodup ∧ ∀ r ∈ rs, VlAt w r Vl.none ∧ q < r
theorem ZS.alloc {w0 w : World} {q : Nat} {a b : Vl} {rs : List Nat} (h : ZS w0 q a b rs w) (r : Nat) (hr : w.heap.size = r) : ZS w0 q a b (r :: rs) (w.alloc (.cells #[.int .i64 0, .int .i64 0, .string ⟨#[]⟩] 28)) := by
  obtain ⟨h1, h2, h3, h5, h4⟩ := h
  have hq := h1.lt
  refine ⟨h1.over (below_z w), h2.trans ((below_z w).mono h2.size), h3, List.nodup_cons.2 ⟨fun hm => by have := (h4 r hm).1.lt; omega, h5⟩, ?_⟩
  intro x hx
  rcases List.mem_cons.1 hx with rfl | hx
  · subst hr; exact ⟨VlAt.zero w, hq⟩
  · exact ⟨(h4 x hx).1.over (below_z w), (h4 x hx).2⟩
theorem ZS.over {w0 w w' : World} {q : Nat} {a b : Vl} {rs : List Nat} (h : ZS w0 q a b rs w) (hb : Below w.heap.size w w') : ZS w0 q a b rs w' := by
  obtain ⟨h1, h2, h3, h5, h4⟩ := h
  exact ⟨h1.over hb, h2.trans (hb.mono h2.size), h3, h5, fun r hr => ⟨(h4 r hr).1.over hb, (h4 r hr).2⟩⟩
theorem ZS.pair {w0 w : World} {q : Nat} {a b : Vl} {rs : List Nat} (h : ZS w0 q a b rs w) : PrAt w q a b := h.1
theorem ZS.head {w0 w : World} {q r : Nat} {a b : Vl} {rs : List Nat} (h : ZS w0 q a b (r :: rs) w) : VlAt w r Vl.none ∧ q ≠ r ∧ r ≠ q := by
  obtain ⟨_, _, h3, h5, h4⟩ := h
  have := (h4 r (List.mem_cons_self ..)).2
  exact ⟨(h4 r (List.mem_cons_self ..)).1, by omega, by omega⟩
/-- What is written beside a place leaves it. -/
theorem VlAt.far {w : World} {r z : Nat} {u : Vl} (h : VlAt w r u) (hz : z ≠ r) (v : Vl) : VlAt (((w.setCell ⟨z, 0, none⟩ (.int .i64 v.k)).setCell ⟨z, 1, none⟩ (.int .i64 v.n)).setCell ⟨z, 2, none⟩ (.string v.s)) r u := by
  unfold VlAt
  rw [Below.heap_setCell _ ⟨z, 2, none⟩ _ r (fun e => hz e.symm), Below.heap_setCell _ ⟨z, 1, none⟩ _ r (fun e => hz e.symm), Below.heap_setCell _ ⟨z, 0, none⟩ _ r (fun e => hz e.symm)]
  exact h
theorem ZS.tail {w0 w : World} {q r : Nat} {a b : Vl} {rs : List Nat} (h : ZS w0 q a b (r :: rs) w) : ZS w0 q a b rs w := ⟨h.1, h.2.1, h.2.2.1, (List.nodup_cons.1 h.2.2.2.1).2, fun x hx => h.2.2.2.2 x (List.mem_cons_of_mem _ hx)⟩
theorem ZS.done {w0 w : World} {q r s : Nat} {a b : Vl} (h : ZS w0 q a b [r, s] w) (x y : Vl) :
    (VlAt ((((((w.setCell ⟨r, 0, none⟩ (.int .i64 x.k)).setCell ⟨r, 1, none⟩ (.int .i64 x.n)).setCell ⟨r, 2, none⟩ (.string x.s)).setCell ⟨s, 0, none⟩ (.int .i64 y.k)).setCell ⟨s, 1, none⟩ (.int .i64 y.n)).setCell ⟨s, 2, none⟩ (.string y.s)) r x
    ∧ VlAt ((((((w.setCell ⟨r, 0, none⟩ (.int .i64 x.k)).setCell ⟨r, 1, none⟩ (.int .i64 x.n)).setCell ⟨r, 2, none⟩ (.string x.s)).setCell ⟨s, 0, none⟩ (.int .i64 y.k)).setCell ⟨s, 1, none⟩ (.int .i64 y.n)).setCell ⟨s, 2, none⟩ (.string y.s)) s y
    ∧ Below w0.heap.size w0 ((((((w.setCell ⟨r, 0, none⟩ (.int .i64 x.k)).setCell ⟨r, 1, none⟩ (.int .i64 x.n)).setCell ⟨r, 2, none⟩ (.string x.s)).setCell ⟨s, 0, none⟩ (.int .i64 y.k)).setCell ⟨s, 1, none⟩ (.int .i64 y.n)).setCell ⟨s, 2, none⟩ (.string y.s))) := by
  obtain ⟨_, h2, h3, h5, h4⟩ := h
  have k1 := h4 r (by simp)
  have k2 := h4 s (by simp)
  have hne : r ≠ s := fun e => (List.nodup_cons.1 h5).1 (by rw [e]; simp)
  exact ⟨(k1.1.put3 x).far (fun e => hne e.symm) y, (k2.1.far hne x).put3 y, belowV3 (belowV3 h2 (by omega) x) (by omega) y⟩
theorem ZS.one {w0 w : World} {q s : Nat} {a b : Vl} (h : ZS w0 q a b [s] w) (x y : Vl) :
    VlAt ((((w.setCell ⟨s, 0, none⟩ (.int .i64 x.k)).setCell ⟨s, 1, none⟩ (.int .i64 x.n)).setCell ⟨s, 2, none⟩ (.string x.s)).alloc (.cells #[.int .i64 y.k, .int .i64 y.n, .string y.s] 28)) s x
    ∧ VlAt ((((w.setCell ⟨s, 0, none⟩ (.int .i64 x.k)).setCell ⟨s, 1, none⟩ (.int .i64 x.n)).setCell ⟨s, 2, none⟩ (.string x.s)).alloc (.cells #[.int .i64 y.k, .int .i64 y.n, .string y.s] 28)) w.heap.size y
    ∧ Below w0.heap.size w0 ((((w.setCell ⟨s, 0, none⟩ (.int .i64 x.k)).setCell ⟨s, 1, none⟩ (.int .i64 x.n)).setCell ⟨s, 2, none⟩ (.string x.s)).alloc (.cells #[.int .i64 y.k, .int .i64 y.n, .string y.s] 28)) := by
  obtain ⟨_, h2, h3, _, h4⟩ := h
  have k2 := h4 s (by simp)
  have hp := k2.1.put3 x
  have hb := belowV3 h2 (show w0.heap.size ≤ s by omega) x
  have hn := VlAt.new (((w.setCell ⟨s, 0, none⟩ (.int .i64 x.k)).setCell ⟨s, 1, none⟩ (.int .i64 x.n)).setCell ⟨s, 2, none⟩ (.string x.s)) y
  rw [World.size_setCell, World.size_setCell, World.size_setCell] at hn
  exact ⟨hp.over (below_vl _ y), hn, hb.trans ((below_vl _ y).mono hb.size)⟩
theorem ZS.one2 {w0 w : World} {q s : Nat} {a b : Vl} (h : ZS w0 q a b [s] w) (x y : Vl) :
    VlAt ((((w.setCell ⟨s, 0, none⟩ (.int .i64 y.k)).setCell ⟨s, 1, none⟩ (.int .i64 y.n)).setCell ⟨s, 2, none⟩ (.string y.s)).alloc (.cells #[.int .i64 x.k, .int .i64 x.n, .string x.s] 28)) w.heap.size x
    ∧ VlAt ((((w.setCell ⟨s, 0, none⟩ (.int .i64 y.k)).setCell ⟨s, 1, none⟩ (.int .i64 y.n)).setCell ⟨s, 2, none⟩ (.string y.s)).alloc (.cells #[.int .i64 x.k, .int .i64 x.n, .string x.s] 28)) s y
    ∧ Below w0.heap.size w0 ((((w.setCell ⟨s, 0, none⟩ (.int .i64 y.k)).setCell ⟨s, 1, none⟩ (.int .i64 y.n)).setCell ⟨s, 2, none⟩ (.string y.s)).alloc (.cells #[.int .i64 x.k, .int .i64 x.n, .string x.s] 28)) := by
  obtain ⟨h5, h6, h7⟩ := ZS.one h y x
  exact ⟨h6, h5, h7⟩
theorem ZS.two {w0 w : World} {q : Nat} {a b : Vl} (h : ZS w0 q a b [] w) (x y : Vl) :
    VlAt ((w.alloc (.cells #[.int .i64 x.k, .int .i64 x.n, .string x.s] 28)).alloc (.cells #[.int .i64 y.k, .int .i64 y.n, .string y.s] 28)) w.heap.size x ∧ VlAt ((w.alloc (.cells #[.int .i64 x.k, .int .i64 x.n, .string x.s] 28)).alloc (.cells #[.int .i64 y.k, .int .i64 y.n, .string y.s] 28)) (w.heap.size + 1) y ∧ Below w0.heap.size w0 ((w.alloc (.cells #[.int .i64 x.k, .int .i64 x.n, .string x.s] 28)).alloc (.cells #[.int .i64 y.k, .int .i64 y.n, .string y.s] 28)) := by
  obtain ⟨_, h2, _, _, _⟩ := h
  have b1 := below_vl w x
  have b2 := below_vl (w.alloc (.cells #[.int .i64 x.k, .int .i64 x.n, .string x.s] 28)) y
  have hn := VlAt.new (w.alloc (.cells #[.int .i64 x.k, .int .i64 x.n, .string x.s] 28)) y
  rw [World.size_alloc] at hn
  exact ⟨(VlAt.new w x).over b2, hn, (h2.trans (b1.mono h2.size)).trans (b2.mono (h2.trans (b1.mono h2.size)).size)⟩
theorem ZS.two2 {w0 w : World} {q : Nat} {a b : Vl} (h : ZS w0 q a b [] w) (x y : Vl) :
    VlAt ((w.alloc (.cells #[.int .i64 y.k, .int .i64 y.n, .string y.s] 28)).alloc (.cells #[.int .i64 x.k, .int .i64 x.n, .string x.s] 28)) (w.heap.size + 1) x ∧ VlAt ((w.alloc (.cells #[.int .i64 y.k, .int .i64 y.n, .string y.s] 28)).alloc (.cells #[.int .i64 x.k, .int .i64 x.n, .string x.s] 28)) w.heap.size y ∧ Below w0.heap.size w0 ((w.alloc (.cells #[.int .i64 y.k, .int .i64 y.n, .string y.s] 28)).alloc (.cells #[.int .i64 x.k, .int .i64 x.n, .string x.s] 28)) := by
  obtain ⟨h5, h6, h7⟩ := ZS.two h y x
  exact ⟨h6, h5, h7⟩
theorem ZS.swap {w0 w : World} {q r s : Nat} {a b : Vl} (h : ZS w0 q a b [r, s] w) : ZS w0 q a b [s, r] w := by
  obtain ⟨h1, h2, h3, h5, h4⟩ := h
  refine ⟨h1, h2, h3, ?_, fun x hx => h4 x (by simp at hx ⊢; exact hx.symm)⟩
  have hne : r ≠ s := fun e => (List.nodup_cons.1 h5).1 (by rw [e]; simp)
  exact List.nodup_cons.2 ⟨by simp; exact fun e => hne e.symm, by simp⟩
set_option maxRecDepth 100000 in
set_option maxHeartbeats 1600000 in
theorem compare_any (a b : Vl) (w : World) : Calls Tryz.prog 78 #[.agg #[.int .i64 a.k, .int .i64 a.n, .string a.s, .int .i64 b.k, .int .i64 b.n, .string b.s]] w fun e w' => e = .returned (.int .i64 (cmpV a b)) ∧ Below w.heap.size w w' := by
  have hc1 := counted_any a b
  have hc2 := counted_any b a
  have hcv : cmpV a b = (if ¬ (asV a b).k = (asV b a).k then Lib.compareInt (asV a b).k (asV b a).k else if (asV a b).k = 2 then Lib.compareBytes (asV a b).s.data.toList (asV b a).s.data.toList else Lib.compareInt (asV a b).n (asV b a).n) := rfl
  generalize asV a b = x at hc1 hcv
  generalize asV b a = y at hc2 hcv
  have H1 := Lib.hid hc1; have H2 := Lib.hid hc2; have HCV := Lib.hid hcv
  clear hc1 hc2 hcv
  have HP := Lib.hid (PrAt.new w a b)
  have HB := Lib.hid (below_pr w a b)
  go_enter Tryz.func78, Tryz.ntmps78
  go_upto_region 1 with (fail)
  generalize hz : w.heap.size = q at HP ⊢
  generalize w.alloc (.cells #[.int .i64 a.k, .int .i64 a.n, .string a.s, .int .i64 b.k, .int .i64 b.n, .string b.s] 87) = w1 at HP HB ⊢
  have hd := (Below.refl w1.heap.size w1).drew
  have HS := Lib.hid (show ZS w q a b [] w1.drew from ⟨HP.out.over hd, HB.out.trans (hd.mono HB.out.size), hz.symm, List.nodup_nil, fun _ h => by cases h⟩)
  obtain ⟨c0, c1, c2, c3, c4, c5⟩ := HP.out.cells
  clear hd hz HP HB
  go_cut [3, 4] from 5 to 14 (fun t3 t4 wx => ∃ r s, t3 = .pointer (some ⟨r, 0, none⟩) ∧ t4 = .pointer (some ⟨s, 0, none⟩) ∧ VlAt wx r x ∧ VlAt wx s y ∧ Below w.heap.size w wx)
  case first =>
    rename_i J K hJ hK
    go_region_held3 (fun w' => w'.cell? ⟨q, 0, none⟩ = some (.int .i64 a.k) ∧ w'.cell? ⟨q, 1, none⟩ = some (.int .i64 a.n) ∧ w'.cell? ⟨q, 2, none⟩ = some (.string a.s) ∧ w'.cell? ⟨q, 3, none⟩ = some (.int .i64 b.k) ∧ w'.cell? ⟨q, 4, none⟩ = some (.int .i64 b.n) ∧ w'.cell? ⟨q, 5, none⟩ = some (.string b.s)) (go_keep) (first | (go_at_call 87; ((with_reducible refine (H1.out _).mono ?_); rintro e w2 ⟨rfl, hb⟩; (first | (have HS2 := Lib.hid (HS.out.over hb)) | (have HS2 := Lib.hid ((HS.out.alloc (w1.heap.size) rfl).over hb)) | (have HS2 := Lib.hid (((HS.out.alloc (w1.heap.size) rfl).alloc (w1.heap.size + 1) ((World.size_alloc _ _))).over hb))); (try (obtain ⟨hv, z1, z2⟩ := ZS.head HS2.out; obtain ⟨x0, x1, x2⟩ := hv.cells; obtain ⟨y0, y1, y2⟩ := hv.melts; have hv2 := hv.over (below_z w2); obtain ⟨xa0, xa1, xa2⟩ := hv2.cells; obtain ⟨ya0, ya1, ya2⟩ := hv2.melts; have xn := World.new_ne w2 _ x0; have xn2 := Ne.symm xn; simp only at xn xn2; have xl := hv.lt; obtain ⟨xb0, xb1, xb2⟩ := (VlAt.far hv2 xn x).cells; obtain ⟨yb0, yb1, yb2⟩ := (VlAt.far hv2 xn x).melts; clear hv hv2)); (try (obtain ⟨hv, z3, z4⟩ := ZS.head (ZS.tail HS2.out); obtain ⟨x3, x4, x5⟩ := hv.cells; obtain ⟨y3, y4, y5⟩ := hv.melts; clear hv)); obtain ⟨d0, d1, d2, d3, d4, d5⟩ := HS2.out.pair.cells; have qn := Nat.ne_of_gt HS2.out.pair.lt; have qn2 := Ne.symm qn; have qn3 := Nat.ne_of_gt (Nat.lt_succ_of_lt HS2.out.pair.lt); have qn4 := Ne.symm qn3; clear hb)) | (go_at_call 87; ((with_reducible refine (H2.out _).mono ?_); rintro e w3 ⟨rfl, hb⟩; (first | (have HS3 := Lib.hid (HS2.out.over hb)) | (have HS3 := Lib.hid ((HS2.out.alloc (w2.heap.size) rfl).over hb)) | (have HS3 := Lib.hid (((HS2.out.alloc (w2.heap.size) rfl).alloc (w2.heap.size + 1) (World.size_alloc _ _)).over hb))); (try (obtain ⟨hv, z1, z2⟩ := ZS.head HS3.out; obtain ⟨x0, x1, x2⟩ := hv.cells; obtain ⟨y0, y1, y2⟩ := hv.melts; have hv2 := hv.over (below_z w3); obtain ⟨xa0, xa1, xa2⟩ := hv2.cells; obtain ⟨ya0, ya1, ya2⟩ := hv2.melts; have xn := World.new_ne w3 _ x0; have xn2 := Ne.symm xn; simp only at xn xn2; have xl := hv.lt; obtain ⟨xb0, xb1, xb2⟩ := (VlAt.far hv2 xn x).cells; obtain ⟨yb0, yb1, yb2⟩ := (VlAt.far hv2 xn x).melts; clear hv hv2)); (try (obtain ⟨hv, z3, z4⟩ := ZS.head (ZS.tail HS3.out); obtain ⟨x3, x4, x5⟩ := hv.cells; obtain ⟨y3, y4, y5⟩ := hv.melts; clear hv)); obtain ⟨d0, d1, d2, d3, d4, d5⟩ := HS3.out.pair.cells; have qn := Nat.ne_of_gt HS3.out.pair.lt; have qn2 := Ne.symm qn; have qn3 := Nat.ne_of_gt (Nat.lt_succ_of_lt HS3.out.pair.lt); have qn4 := Ne.symm qn3; clear hb)))
    all_goals go_wp2_with fail
    all_goals go_meet
    all_goals refine ⟨_, _, rfl, rfl, ?_⟩
    all_goals first
      | with_reducible exact ZS.two HS3.out x y
      | with_reducible exact ZS.two2 HS3.out x y
      | with_reducible exact ZS.one HS3.out x y
      | with_reducible exact ZS.one2 HS3.out x y
      | with_reducible exact ZS.done HS3.out x y
      | with_reducible exact ZS.done HS3.out.swap x y
  case rest =>
    obtain ⟨r, s, rfl, rfl, hx, hy, hb⟩ := hcut
    have HB4 := Lib.hid hb
    obtain ⟨x0, x1, x2⟩ := hx.cells
    obtain ⟨y0, y1, y2⟩ := hy.cells
    have hcv := HCV.out
    clear hx hy hb c0 c1 c2 c3 c4 c5 HS H1 H2 HCV
    by_cases hk : x.k = y.k
    · have ek : (x.k != y.k) = false := by rw [hk]; simp
      rw [if_neg (fun h => h hk)] at hcv
      by_cases h2 : x.k = 2
      · have e2 : (x.k == 2) = true := beq_iff_eq.2 h2
        rw [if_pos h2] at hcv
        have HCV := Lib.hid hcv
        clear hcv h2 hk
        go_wp2_with (go_at_call 89; ((with_reducible refine (Tryz.strings_Compare _ _ _).mono ?_); rintro e w5 ⟨rfl, rfl⟩))
        go_ret
        exact ⟨by rw [HCV.out]; rfl, HB4.out⟩
      · have e2 : (x.k == 2) = false := beq_eq_false_iff_ne.2 h2
        rw [if_neg h2] at hcv
        have HCV := Lib.hid hcv
        clear hcv h2 hk
        go_wp2_with (go_at_call 88; ((with_reducible refine (cmpInt_any _ _ _).mono ?_); rintro e w5 ⟨rfl, rfl⟩))
        go_ret
        exact ⟨by rw [HCV.out]; rfl, HB4.out⟩
    · have ek : (x.k != y.k) = true := by simp [hk]
      rw [if_pos hk] at hcv
      have HCV := Lib.hid hcv
      clear hcv hk
      go_wp2_with (go_at_call 88; ((with_reducible refine (cmpInt_any _ _ _).mono ?_); rintro e w5 ⟨rfl, rfl⟩))
      go_ret
      exact ⟨by rw [HCV.out]; rfl, HB4.out⟩
end Go.Proofs.YtolhmemiknpeaaaGreatDoor
