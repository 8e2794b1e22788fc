/-
  Layer 8, the law: IF: what it works on.
-/
import Derived.Test.YtppialmmhoopcaaDoorFuL
import Derived.Test.YtppialmmhoopcaaDoorFuY
import Derived.Test.YtppialmmhoopcaaDoorVaT
import Derived.Test.YtppialmmhoopcaaDoorVaL
namespace Go.Proofs.YtppialmmhoopcaaDoor
open Go.RowKit

theorem call_IF2 (w : World) (v : Value) (ags : List Ag) (h : SA w w.heap.size v ags) (hz : AZ ags) (hl : ags.length = 2) : Calls Tryd.prog 11 #[.string ⟨#[73, 70]⟩, v] w fun e w' => e = .returned (.agg #[.int .i64 (callV 2 3 0 true ags (ifA ags)).k, .int .i64 (callV 2 3 0 true ags (ifA ags)).n, .string (callV 2 3 0 true ags (ifA ags)).s]) ∧ Below w.heap.size w w' :=
  call_any w v ags ⟨#[73, 70]⟩ 2 3 0 true 23 (ifA ags) (by decide) h hz (fun c => tab_row (i := 6) rfl) (Go.Proofs.enters_of Tryd.func23 (by kernel_rfl) rfl)
    (fun _ _ W hW => choice_2 W v ags ((h.below hW (Nat.le_refl _)).mono hW.size) hz hl)
theorem call_IF3 (w : World) (v : Value) (ags : List Ag) (h : SA w w.heap.size v ags) (hz : AZ ags) (hl : ags.length = 3) : Calls Tryd.prog 11 #[.string ⟨#[73, 70]⟩, v] w fun e w' => e = .returned (.agg #[.int .i64 (callV 2 3 0 true ags (ifA ags)).k, .int .i64 (callV 2 3 0 true ags (ifA ags)).n, .string (callV 2 3 0 true ags (ifA ags)).s]) ∧ Below w.heap.size w w' :=
  call_any w v ags ⟨#[73, 70]⟩ 2 3 0 true 23 (ifA ags) (by decide) h hz (fun c => tab_row (i := 6) rfl) (Go.Proofs.enters_of Tryd.func23 (by kernel_rfl) rfl)
    (fun _ _ W hW => choice_3 W v ags ((h.below hW (Nat.le_refl _)).mono hW.size) hz hl)
def ifV (x y z : Vl) : Vl := if x.k = 4 then x else if isTruth x = true then (if truthV x = true then y else z) else .err 1
theorem if_is3 (x y z : Vl) (u v t : Value) : callV 2 3 0 true [agOne x u, agOne y v, agOne z t] (ifA [agOne x u, agOne y v, agOne z t]) = ifV x y z := by
  unfold callV
  rw [if_pos (suit_ones 2 3 _ (by show (2 : Int) ≤ ((3 : Nat) : Int); decide) (by show ((3 : Nat) : Int) ≤ 3; decide) (fun a ha => by
    simp only [List.mem_cons, List.not_mem_nil, or_false] at ha
    rcases ha with rfl | rfl | rfl <;> rfl)), if_pos rfl]
  rfl
theorem if_is2 (x y : Vl) (u v : Value) : callV 2 3 0 true [agOne x u, agOne y v] (ifA [agOne x u, agOne y v]) = ifV x y (Vl.truth false) := by
  unfold callV
  rw [if_pos (suit_ones 2 3 _ (by show (2 : Int) ≤ ((2 : Nat) : Int); decide) (by show ((2 : Nat) : Int) ≤ 3; decide) (fun a ha => by
    simp only [List.mem_cons, List.not_mem_nil, or_false] at ha
    rcases ha with rfl | rfl <;> rfl)), if_pos rfl]
  rfl
theorem sa_three (w : World) (x y z : Vl) (u v t : Value) (o : Nat) (ty : TypeId) (ho : w.heap.size = o) (hx : SV w w.heap.size u [x]) (hy : SV w w.heap.size v [y]) (hz : SV w w.heap.size t [z]) :
    SA (w.alloc (.cells #[.bool false, .int .i64 0, u, .bool false, .int .i64 0, v, .bool false, .int .i64 0, t] ty)) (w.alloc (.cells #[.bool false, .int .i64 0, u, .bool false, .int .i64 0, v, .bool false, .int .i64 0, t] ty)).heap.size (.slice (some ⟨o, 0, none⟩) 3 3) [agOne x u, agOne y v, agOne z t] :=
  sa_new w _ ty [agOne x u, agOne y v, agOne z t] 3 o ho rfl rfl (fun a ha => by
    simp only [List.mem_cons, List.not_mem_nil, or_false] at ha
    rcases ha with rfl | rfl | rfl
    · exact hx
    · exact hy
    · exact hz)
theorem az_three (x y z : Vl) (u v t : Value) (hx : VOk x) (hy : VOk y) (hz : VOk z) : AZ [agOne x u, agOne y v, agOne z t] := by
  refine ⟨by show (3 : Nat) ≤ _; decide, by show (3 : Nat) ≤ _; decide, fun a ha => ?_⟩
  simp only [List.mem_cons, List.not_mem_nil, or_false] at ha
  rcases ha with rfl | rfl | rfl
  · exact ⟨by show (1 : Nat) ≤ _; decide, fun q hq => by simp [agOne] at hq; subst hq; exact hx⟩
  · exact ⟨by show (1 : Nat) ≤ _; decide, fun q hq => by simp [agOne] at hq; subst hq; exact hy⟩
  · exact ⟨by show (1 : Nat) ≤ _; decide, fun q hq => by simp [agOne] at hq; subst hq; exact hz⟩
theorem make_truth (m n : Int) (s : ByteArray) (h : m = 0 ∨ m = 1 ∨ m = 3) : ¬ (makeV m n s).k = 4 ∧ isTruth (makeV m n s) = true ∧ truthV (makeV m n s) = decide (¬ (makeV m n s).n = 0) := by
  rcases h with rfl | rfl | rfl
  · exact ⟨by show ¬ (0 : Int) = 4; decide, rfl, rfl⟩
  · exact ⟨by show ¬ (1 : Int) = 4; decide, rfl, rfl⟩
  · refine ⟨by show ¬ (3 : Int) = 4; decide, rfl, ?_⟩
    show decide (bits .and .i64 n 1 = 1) = decide (¬ bits .and .i64 n 1 = 0)
    have hm := and_mask n 1 (by decide)
    rw [show ((2 ^ 1 - 1 : Nat) : Int) = 1 from rfl] at hm
    rw [hm]
    have h2 : (n % 18446744073709551616).toNat % 2 ^ 1 < 2 := Nat.mod_lt _ (by decide)
    generalize (n % 18446744073709551616).toNat % 2 ^ 1 = r at h2
    have h3 : r = 0 ∨ r = 1 := by omega
    rcases h3 with rfl | rfl <;> rfl
theorem vl_three (w : World) (x y z : Vl) : VlAt (((w.alloc (.cells #[.int .i64 x.k, .int .i64 x.n, .string x.s] 31)).alloc (.cells #[.int .i64 y.k, .int .i64 y.n, .string y.s] 31)).alloc (.cells #[.int .i64 z.k, .int .i64 z.n, .string z.s] 31)) w.heap.size x ∧ VlAt (((w.alloc (.cells #[.int .i64 x.k, .int .i64 x.n, .string x.s] 31)).alloc (.cells #[.int .i64 y.k, .int .i64 y.n, .string y.s] 31)).alloc (.cells #[.int .i64 z.k, .int .i64 z.n, .string z.s] 31)) (w.heap.size + 1) y ∧ VlAt (((w.alloc (.cells #[.int .i64 x.k, .int .i64 x.n, .string x.s] 31)).alloc (.cells #[.int .i64 y.k, .int .i64 y.n, .string y.s] 31)).alloc (.cells #[.int .i64 z.k, .int .i64 z.n, .string z.s] 31)) (w.heap.size + 2) z ∧
    Aft w (((w.alloc (.cells #[.int .i64 x.k, .int .i64 x.n, .string x.s] 31)).alloc (.cells #[.int .i64 y.k, .int .i64 y.n, .string y.s] 31)).alloc (.cells #[.int .i64 z.k, .int .i64 z.n, .string z.s] 31)) ∧ (((w.alloc (.cells #[.int .i64 x.k, .int .i64 x.n, .string x.s] 31)).alloc (.cells #[.int .i64 y.k, .int .i64 y.n, .string y.s] 31)).alloc (.cells #[.int .i64 z.k, .int .i64 z.n, .string z.s] 31)).heap.size = w.heap.size + 3 := by
  have h2 := VlAt.new (w.alloc (.cells #[.int .i64 x.k, .int .i64 x.n, .string x.s] 31)) y
  have h3 := VlAt.new ((w.alloc (.cells #[.int .i64 x.k, .int .i64 x.n, .string x.s] 31)).alloc (.cells #[.int .i64 y.k, .int .i64 y.n, .string y.s] 31)) z
  rw [World.size_alloc] at h2
  rw [World.size_alloc, World.size_alloc] at h3
  exact ⟨((VlAt.new w x).over (Aft.alloc _ _)).over (Aft.alloc _ _), h2.over (Aft.alloc _ _), h3, ((Aft.alloc w _).trans (Aft.alloc _ _)).trans (Aft.alloc _ _), by rw [World.size_alloc, World.size_alloc, World.size_alloc]⟩
/-- Three values in blocks of their own, and perhaps a cell made for one more. -/
def ZT (w0 : World) (q : Nat) (x y z : Vl) (rs : Option Nat) (w : World) : Prop :=
  VlAt w q x ∧ VlAt w (q + 1) y ∧ VlAt w (q + 2) z ∧ Aft w0 w ∧ q + 2 < w0.heap.size ∧ ∀ r, rs = some r → VlAt w r Vl.none ∧ w0.heap.size ≤ r
theorem ZT.over {w0 w w' : World} {q : Nat} {x y z : Vl} {rs : Option Nat} (h : ZT w0 q x y z rs w) (hb : Below w.heap.size w w') : ZT w0 q x y z rs w' :=
  ⟨h.1.over hb, h.2.1.over hb, h.2.2.1.over hb, h.2.2.2.1.trans hb, h.2.2.2.2.1, fun r hr => ⟨(h.2.2.2.2.2 r hr).1.over hb, (h.2.2.2.2.2 r hr).2⟩⟩
theorem ZT.alloc {w0 w : World} {q : Nat} {x y z : Vl} (h : ZT w0 q x y z none w) (r : Nat) (hr : w.heap.size = r) : ZT w0 q x y z (some r) (w.alloc (.cells #[.int .i64 0, .int .i64 0, .string ⟨#[]⟩] 31)) := by
  have hb := Aft.alloc w (.cells #[.int .i64 0, .int .i64 0, .string ⟨#[]⟩] 31)
  refine ⟨h.1.over hb, h.2.1.over hb, h.2.2.1.over hb, h.2.2.2.1.trans hb, h.2.2.2.2.1, fun s hs => ?_⟩
  injection hs with hs
  subst hs; subst hr
  exact ⟨VlAt.zero w, h.2.2.2.1.size⟩
theorem ZT.any {w0 w : World} {q : Nat} {x y z : Vl} {rs : Option Nat} (h : ZT w0 q x y z rs w) (o : Obj) : ZT w0 q x y z rs (w.alloc o) := h.over (Aft.alloc w o)
theorem ZT.ne {w0 w : World} {q : Nat} {x y z : Vl} {rs : Option Nat} (h : ZT w0 q x y z rs w) : (q ≠ w.heap.size ∧ q + 1 ≠ w.heap.size ∧ q + 2 ≠ w.heap.size) ∧ (w.heap.size ≠ q ∧ w.heap.size ≠ q + 1 ∧ w.heap.size ≠ q + 2) := by
  have h1 := h.2.2.2.1.size
  have h2 := h.2.2.2.2.1
  omega
theorem ZT.nr {w0 w : World} {q r : Nat} {x y z : Vl} (h : ZT w0 q x y z (some r) w) : (q ≠ r ∧ q + 1 ≠ r ∧ q + 2 ≠ r) ∧ (r ≠ q ∧ r ≠ q + 1 ∧ r ≠ q + 2) := by
  have h1 := (h.2.2.2.2.2 r rfl).2
  have h2 := h.2.2.2.2.1
  omega
/-- What a statement leaves that puts one more value in a cell of its own. -/
def Left (w0 : World) (q : Nat) (x y z v : Vl) (w : World) (p : Value) : Prop := ∃ r, p = .pointer (some ⟨r, 0, none⟩) ∧ VlAt w r v ∧ VlAt w q x ∧ VlAt w (q + 1) y ∧ VlAt w (q + 2) z ∧ Aft w0 w
theorem ZT.put {w0 w : World} {q r : Nat} {x y z : Vl} (h : ZT w0 q x y z (some r) w) (v : Vl) : Left w0 q x y z v (((w.setCell ⟨r, 0, none⟩ (.int .i64 v.k)).setCell ⟨r, 1, none⟩ (.int .i64 v.n)).setCell ⟨r, 2, none⟩ (.string v.s)) (.pointer (some ⟨r, 0, none⟩)) := by
  obtain ⟨h1, h2, h3, h4, h5, h6⟩ := h
  obtain ⟨h7, h8⟩ := h6 r rfl
  have hb : Below w0.heap.size w (((w.setCell ⟨r, 0, none⟩ (.int .i64 v.k)).setCell ⟨r, 1, none⟩ (.int .i64 v.n)).setCell ⟨r, 2, none⟩ (.string v.s)) := belowV3 (Below.refl _ _) h8 v
  exact ⟨r, rfl, h7.put3 v, h1.below hb (by omega), h2.below hb (by omega), h3.below hb h5, Below.trans h4 hb⟩
theorem ZT.new {w0 w : World} {q : Nat} {x y z : Vl} (h : ZT w0 q x y z none w) (v : Vl) : Left w0 q x y z v (w.alloc (.cells #[.int .i64 v.k, .int .i64 v.n, .string v.s] 31)) (.pointer (some ⟨w.heap.size, 0, none⟩)) :=
  ⟨w.heap.size, rfl, VlAt.new w v, (h.any _).1, (h.any _).2.1, (h.any _).2.2.1, (h.any _).2.2.2.1⟩
end Go.Proofs.YtppialmmhoopcaaDoor
