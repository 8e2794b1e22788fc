/-
  Layer 11, the program: one map behind another.
-/
import Derived.Test.YtnnnpjdlhdkeaaaMaF
namespace Go.Proofs.Ytnnnpjdlhdkeaaa
open Go.RowKit

/-- A block that holds two ways. -/
def FrAt (w : World) (b : Nat) (u : Value) (m : Int) (v : Value) (k : Int) : Prop := w.heap[b]? = some (.cells #[u, .int .i64 m, v, .int .i64 k] 55)
theorem FrAt.new (w : World) (u : Value) (m : Int) (v : Value) (k : Int) : FrAt (w.alloc (.cells #[u, .int .i64 m, v, .int .i64 k] 55)) w.heap.size u m v k := (Go.MapKept.heap_alloc w _).1
theorem FrAt.over {w w' : World} {b : Nat} {u : Value} {m : Int} {v : Value} {k : Int} (h : FrAt w b u m v k) (hb : Below w.heap.size w w') : FrAt w' b u m v k := by
  unfold FrAt; rw [hb.block b (Array.getElem?_eq_some_iff.1 h).1]; exact h
theorem FrAt.cells {w : World} {b : Nat} {u : Value} {m : Int} {v : Value} {k : Int} (h : FrAt w b u m v k) : w.cell? ⟨b, 0, none⟩ = some u ∧ w.cell? ⟨b, 1, none⟩ = some (.int .i64 m) ∧ w.cell? ⟨b, 2, none⟩ = some v ∧ w.cell? ⟨b, 3, none⟩ = some (.int .i64 k) :=
  ⟨by rw [cell_of_row w b 0 _ _ _ h]; rfl, by rw [cell_of_row w b 1 _ _ _ h]; rfl, by rw [cell_of_row w b 2 _ _ _ h]; rfl, by rw [cell_of_row w b 3 _ _ _ h]; rfl⟩
set_option maxRecDepth 100000 in
set_option maxHeartbeats 4000000 in
theorem bothImage_any (w : World) (A : Option Addr) (n cap : Nat) (xs : List Int) (na : Int) (B : Option Addr) (m c : Nat) (ys : List Int) (nb i : Int) (h : IR w w.heap.size A n cap xs) (k : IR w w.heap.size B m c ys) (hn : n ≤ 2000000) (hm : m ≤ 2000000)
    (h0 : 0 ≤ na) (h1 : na ≤ 2000000) (k0 : 0 ≤ nb) (k1 : nb ≤ 2000000) (hi : i ≤ 4398046511104) (hj : imgM xs na i ≤ 4398046511104) :
    Calls Try.prog 38 #[.agg #[.slice A n cap, .int .i64 na, .slice B m c, .int .i64 nb], .int .i64 i] w fun e w' => e = .returned (.int .i64 (imgM ys nb (imgM xs na i))) ∧ Below w.heap.size w w' := by
  have HB := Lib.hid (show Below w.heap.size w (w.alloc (.cells #[.slice A n cap, .int .i64 na, .slice B m c, .int .i64 nb] 55)) from (Below.refl _ _).alloc (Nat.le_refl _) _)
  have HF := Lib.hid (FrAt.new w (.slice A n cap) na (.slice B m c) nb)
  have HX := Lib.hid h; have HY := Lib.hid k
  clear h k
  obtain ⟨d, hd⟩ : ∃ d, imgM xs na i = d := ⟨_, rfl⟩
  rw [hd] at hj ⊢
  have HD := Lib.hid hd
  clear hd
  go_enter Try.func38, Try.ntmps38
  go_upto_region 1 with (fail)
  obtain ⟨w1, hw1⟩ : ∃ w1, w.alloc (.cells #[.slice A n cap, .int .i64 na, .slice B m c, .int .i64 nb] 55) = w1 := ⟨_, rfl⟩
  rw [hw1] at HB HF ⊢
  clear hw1
  have HI1 := Lib.hid (fun (wq : World) (hb : Below w1.heap.size w1 wq) => (show Calls Try.prog 36 #[.agg #[.slice A n cap, .int .i64 na], .int .i64 i] wq fun e w' => e = .returned (.int .i64 d) ∧ Below wq.heap.size wq w' from HD.out ▸ wayImage_any wq A n cap xs na i ((HX.out.lift HB.out).lift hb) hn h0 h1 hi))
  have HI2 := Lib.hid (fun (wq : World) (hb : Below w1.heap.size w1 wq) => wayImage_any wq B m c ys nb d ((HY.out.lift HB.out).lift hb) hm k0 k1 hj)
  have HKEEP := Lib.hid (fun (wq : World) (hb : Below w1.heap.size w1 wq) => (HF.out.over hb).cells)
  have HBD := Lib.hid (Below.drew (Below.refl w1.heap.size w1))
  obtain ⟨x0, x1, x2, x3⟩ := HKEEP.out _ HBD.out
  go_region_held3 (fun w' => w'.cell? ⟨w.heap.size, 0, none⟩ = some (.slice A n cap) ∧ w'.cell? ⟨w.heap.size, 1, none⟩ = some (.int .i64 na) ∧ w'.cell? ⟨w.heap.size, 2, none⟩ = some (.slice B m c) ∧ w'.cell? ⟨w.heap.size, 3, none⟩ = some (.int .i64 nb)) (first | exact ⟨x0, x1, x2, x3⟩ | exact HKEEP.out _ H5.out | exact HKEEP.out _ H4.out) (first
    | (go_at_call 36; ((with_reducible refine (HI1.out _ HBD.out).mono ?_); rintro e w4 ⟨rfl, h1⟩; have H4 := Lib.hid (HBD.out.trans (h1.mono HBD.out.size)); clear h1))
    | (go_at_call 36; ((with_reducible refine (HI2.out _ H4.out).mono ?_); rintro e w5 ⟨rfl, h1⟩; have H5 := Lib.hid (H4.out.trans (h1.mono H4.out.size)); clear h1)))
  all_goals go_wp2_with fail
  all_goals go_ret
  all_goals exact ⟨rfl, HB.out.trans (H5.out.mono HB.out.size)⟩
theorem thenM_is {xs : List Int} {n : Nat} (hn : xs.length = n) (ys : List Int) (na nb : Int) : ((List.range n).map fun (i : Nat) => imgM ys nb (imgM xs na (i : Int))) = thenM xs ys nb := by
  subst hn
  apply List.ext_getElem?
  intro j
  unfold thenM
  rw [List.getElem?_map, List.getElem?_map]
  by_cases h : j < xs.length
  · rw [List.getElem?_range h, getD_some xs j h, Option.map_some, Option.map_some, imgM_in _ _ _ h]
  · rw [List.getElem?_eq_none (by simp; omega), List.getElem?_eq_none (by omega)]; rfl
theorem res_then : Try.f23.results = #[.cell 4 24] := by kernel_rfl
theorem three_pr (t : TypeId) (w : World) (u v x : Value) (m n k : Int) : ∃ w3, ((w.alloc (.cells #[u, .int .i64 m] t)).alloc (.cells #[v, .int .i64 n] t)).alloc (.cells #[x, .int .i64 k] t) = w3 ∧ Below w.heap.size w w3 ∧ PrAt t w3 w.heap.size u m ∧ PrAt t w3 (w.heap.size + 1) v n ∧ PrAt t w3 (w.heap.size + 2) x k ∧ w3.heap.size = w.heap.size + 3 := by
  have s1 := World.size_alloc w (.cells #[u, .int .i64 m] t)
  have s2 := World.size_alloc (w.alloc (.cells #[u, .int .i64 m] t)) (.cells #[v, .int .i64 n] t)
  have s3 := World.size_alloc ((w.alloc (.cells #[u, .int .i64 m] t)).alloc (.cells #[v, .int .i64 n] t)) (.cells #[x, .int .i64 k] t)
  have b1 := below_pr t w u m
  have b2 := below_pr t (w.alloc (.cells #[u, .int .i64 m] t)) v n
  have b3 := below_pr t ((w.alloc (.cells #[u, .int .i64 m] t)).alloc (.cells #[v, .int .i64 n] t)) x k
  have p1 := PrAt.new t w u m
  have p2 := PrAt.new t (w.alloc (.cells #[u, .int .i64 m] t)) v n
  have p3 := PrAt.new t ((w.alloc (.cells #[u, .int .i64 m] t)).alloc (.cells #[v, .int .i64 n] t)) x k
  have q1 := (p1.over b2).over b3
  have q2 := p2.over b3
  have b4 := (b1.trans (b2.mono b1.size)).trans (b3.mono (b1.trans (b2.mono b1.size)).size)
  rw [s1] at q2
  rw [s2, s1] at p3
  exact ⟨_, rfl, b4, q1, q2, p3, by omega⟩
set_option maxRecDepth 100000 in
set_option maxHeartbeats 4000000 in
theorem then_map (w : World) (A : Option Addr) (n cap : Nat) (xs : List Int) (na : Int) (B : Option Addr) (m c : Nat) (ys : List Int) (nb : Int) (h : IR w w.heap.size A n cap xs) (k : IR w w.heap.size B m c ys) (hn : n ≤ 1048577) (hm : m ≤ 2000000)
    (h0 : 0 ≤ na) (h1 : na ≤ 2000000) (k0 : 0 ≤ nb) (k1 : nb ≤ 2000000) (hx : ∀ i, i < n → xs.getD i 0 ≤ 4398046511104) :
    Calls Try.prog 23 #[.agg #[.slice A n cap, .int .i64 na], .agg #[.slice B m c, .int .i64 nb]] w fun e w' => MapOut w w' (thenM xs ys nb) n nb e := by
  obtain ⟨w3, hw3, hb, hp1, hp2, hp3, hsz⟩ := three_pr 24 w (.slice A n cap) (.slice B m c) (.slice none 0 0) na nb 0
  have HB := Lib.hid hb; have HP1 := Lib.hid hp1; have HP2 := Lib.hid hp2; have HP3 := Lib.hid hp3; have HSZ := Lib.hid hsz
  have HX := Lib.hid (h.lift hb); have HY := Lib.hid (k.lift hb); have HL := Lib.hid h.len.1; have HXB := Lib.hid hx
  have HIM := Lib.hid (fun (wq : World) (hq : Below w3.heap.size w3 wq) => (show Calls Try.prog 32 #[.int .i64 (n : Int), .func (.func 38) #[.agg #[.slice A n cap, .int .i64 na, .slice B m c, .int .i64 nb]] #[]] wq fun e w' => e = .returned (.slice (some ⟨wq.heap.size, 0, none⟩) n n) ∧ RwX (encInt .i64) 3 w' wq.heap.size (thenM xs ys nb) ∧ Below wq.heap.size wq w' from by
    have := images_any wq n hn 38 (.agg #[.slice A n cap, .int .i64 na, .slice B m c, .int .i64 nb]) (fun i => imgM ys nb (imgM xs na (i : Int))) e_both (fun i hi w1 hw => bothImage_any w1 A n cap xs na B m c ys nb (i : Int) ((HX.out.lift hq).lift hw) ((HY.out.lift hq).lift hw) (by omega) hm h0 h1 k0 k1 (by omega) (by rw [imgM_in _ _ _ (by rw [HL.out]; exact hi)]; exact HXB.out i hi))
    rwa [thenM_is HL.out] at this))
  clear h k hb hp1 hp2 hp3 hsz hx
  go_enter Try.func23, Try.ntmps23
  go_upto_region 1 with (fail)
  clear hw3
  have HBD := Lib.hid (Below.drew (Below.refl w3.heap.size w3))
  have HS2 := Lib.hid (show w.heap.size + 2 ≤ w3.heap.size from by have := HSZ.out; omega)
  have HKEEP := Lib.hid (fun (wq : World) (hq : Below (w.heap.size + 2) w3 wq) => (show wq.cell? ⟨w.heap.size, 0, none⟩ = some (.slice A n cap) ∧ wq.cell? ⟨w.heap.size, 1, none⟩ = some (.int .i64 na) ∧ wq.cell? ⟨w.heap.size + 1, 0, none⟩ = some (.slice B m c) ∧ wq.cell? ⟨w.heap.size + 1, 1, none⟩ = some (.int .i64 nb) from
    ⟨(HP1.out.below hq (by omega)).cells.1, (HP1.out.below hq (by omega)).cells.2, (HP2.out.below hq (by omega)).cells.1, (HP2.out.below hq (by omega)).cells.2⟩))
  obtain ⟨x0, x1, x2, x3⟩ := HKEEP.out _ (HBD.out.mono HS2.out)
  go_region_held3 (fun w' => w'.cell? ⟨w.heap.size, 0, none⟩ = some (.slice A n cap) ∧ w'.cell? ⟨w.heap.size, 1, none⟩ = some (.int .i64 na) ∧ w'.cell? ⟨w.heap.size + 1, 0, none⟩ = some (.slice B m c) ∧ w'.cell? ⟨w.heap.size + 1, 1, none⟩ = some (.int .i64 nb)) (first | exact ⟨x0, x1, x2, x3⟩ | exact HKEEP.out _ (H4.out.mono HS2.out) | exact HKEEP.out _ (below_put2 (H4.out.mono HS2.out) (Nat.le_refl _) _ _)) (first
    | (go_at_call 32; ((with_reducible refine (HIM.out _ HBD.out).mono ?_); rintro e w4 ⟨rfl, h1, h2⟩; have H4 := Lib.hid (HBD.out.trans (h2.mono HBD.out.size)); have HR4 := Lib.hid h1; obtain ⟨y0, y1⟩ := (HP3.out.over H4.out).cells; obtain ⟨m0, m1⟩ := (HP3.out.over H4.out).melts; clear h1 h2)))
  all_goals go_wp2_with fail
  all_goals refine bodyPost_ret (out_mp ((HP3.out.over H4.out).put2 (.slice (some ⟨w3.drew.heap.size, 0, none⟩) n n) nb) _ _ 4 res_then rfl) rfl ⟨w3.drew.heap.size, by show w.heap.size ≤ w3.heap.size; have := HSZ.out; omega, rfl, ?_, below_put2 (HB.out.trans (H4.out.mono HB.out.size)) (by omega) _ _⟩
  all_goals exact HR4.out.keep (heap_put2 _ _ _ _ _ (by show w3.heap.size ≠ w.heap.size + 2; have := HSZ.out; omega))
end Go.Proofs.Ytnnnpjdlhdkeaaa
