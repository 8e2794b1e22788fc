/-
  Layer 8, the program: slices of values, of arguments; small functions.
-/
import Derived.Test.YtolhmemiknpeaaaGreatDoorFuU
import Derived.Test.YtolhmemiknpeaaaGreatDoorVaH
import Derived.Test.YtolhmemiknpeaaaGreatDoorVaTr
import Derived.Test.YtolhmemiknpeaaaGreatDoorOwnAt
namespace Go.Proofs.YtolhmemiknpeaaaGreatDoor
open Go.RowKit

/-- A slice that reads as these, each in a cell of its own, below block B. -/
def SG {α : Type} (f : α → Value) (w : World) (B : Nat) (v : Value) (xs : List α) : Prop :=
  ∃ A cap, v = .slice A xs.length cap ∧ (xs = [] ∨ ∃ pb po, A = some ⟨pb, po, none⟩ ∧ pb < B ∧ ∀ (j : Nat) (x : α), xs[j]? = some x → w.cell? ⟨pb, po + j, none⟩ = some (f x))
theorem SG.below {α : Type} {f : α → Value} {w w' : World} {B C : Nat} {v : Value} {xs : List α} (h : SG f w B v xs) (hb : Below C w w') (hC : B ≤ C) : SG f w' B v xs := by
  obtain ⟨A, cap, h1, h4⟩ := h
  refine ⟨A, cap, h1, h4.imp id ?_⟩
  rintro ⟨pb, po, e1, e2, e3⟩
  exact ⟨pb, po, e1, e2, fun j x hj => (hb.cell (p := ⟨pb, po + j, none⟩) (by show pb < C; omega)).trans (e3 j x hj)⟩
theorem SG.mono {α : Type} {f : α → Value} {w : World} {B C : Nat} {v : Value} {xs : List α} (h : SG f w B v xs) (hC : B ≤ C) : SG f w C v xs := by
  obtain ⟨A, cap, h1, h4⟩ := h
  refine ⟨A, cap, h1, h4.imp id ?_⟩
  rintro ⟨pb, po, e1, e2, e3⟩
  exact ⟨pb, po, e1, by omega, e3⟩
def encBo : Enc Bool 1 := { f := fun x => [.bool x], len := fun _ => rfl, one := fun _ u hu => by simp at hu; subst hu; rfl }
theorem all_encBo (l : List Bool) : encBo.all l = l.map Value.bool := by
  induction l with
  | nil => rfl
  | cons a t ih => show Value.bool a :: encBo.all t = _; rw [ih]; rfl
theorem own_sgI {e : TypeId} {w : World} {base : Nat} {v : Value} {xs : List Int} (h : Own (encInt .i64) e w base v xs) : SG (Value.int .i64) w w.heap.size v xs := by
  rcases h.shape with ⟨rfl, hx⟩ | ⟨g, cap, rfl, hg, hl, hc, hm⟩
  · exact ⟨none, 0, by rw [hx]; rfl, .inl hx⟩
  · refine ⟨_, _, rfl, .inr ⟨g, 0, rfl, hl, fun j x hj => ?_⟩⟩
    have := h.cells j (.int .i64 x) (by rw [all_encInt, List.getElem?_map, hj]; rfl)
    rwa [Nat.zero_add]
theorem own_sgB {e : TypeId} {w : World} {base : Nat} {v : Value} {xs : List Bool} (h : Own encBo e w base v xs) : SG Value.bool w w.heap.size v xs := by
  rcases h.shape with ⟨rfl, hx⟩ | ⟨g, cap, rfl, hg, hl, hc, hm⟩
  · exact ⟨none, 0, by rw [hx]; rfl, .inl hx⟩
  · refine ⟨_, _, rfl, .inr ⟨g, 0, rfl, hl, fun j x hj => ?_⟩⟩
    have := h.cells j (.bool x) (by rw [all_encBo, List.getElem?_map, hj]; rfl)
    rwa [Nat.zero_add]
/-- A slice of values. -/
def SV (w : World) (B : Nat) (v : Value) (vs : List Vl) : Prop :=
  ∃ A cap, v = .slice A vs.length cap ∧ (vs = [] ∨ ∃ pb po, A = some ⟨pb, po, none⟩ ∧ pb < B ∧ ∀ (i : Nat) (x : Vl), vs[i]? = some x → w.cell? ⟨pb, po + i * 3, none⟩ = some (.int .i64 x.k) ∧ w.cell? ⟨pb, po + i * 3 + 1, none⟩ = some (.int .i64 x.n) ∧ w.cell? ⟨pb, po + i * 3 + 2, none⟩ = some (.string x.s))
theorem SV.below {w w' : World} {B C : Nat} {v : Value} {vs : List Vl} (h : SV w B v vs) (hb : Below C w w') (hC : B ≤ C) : SV w' B v vs := by
  obtain ⟨A, cap, h1, h4⟩ := h
  refine ⟨A, cap, h1, h4.imp id ?_⟩
  rintro ⟨pb, po, e1, e2, e3⟩
  refine ⟨pb, po, e1, e2, fun i x hi => ?_⟩
  obtain ⟨c0, c1, c2⟩ := e3 i x hi
  exact ⟨(hb.cell (p := ⟨pb, po + i * 3, none⟩) (by show pb < C; omega)).trans c0, (hb.cell (p := ⟨pb, po + i * 3 + 1, none⟩) (by show pb < C; omega)).trans c1, (hb.cell (p := ⟨pb, po + i * 3 + 2, none⟩) (by show pb < C; omega)).trans c2⟩
theorem SV.mono {w : World} {B C : Nat} {v : Value} {vs : List Vl} (h : SV w B v vs) (hC : B ≤ C) : SV w C v vs := by
  obtain ⟨A, cap, h1, h4⟩ := h
  refine ⟨A, cap, h1, h4.imp id ?_⟩
  rintro ⟨pb, po, e1, e2, e3⟩
  exact ⟨pb, po, e1, by omega, e3⟩
def encVl : Enc Vl 3 := { f := fun v => [.int .i64 v.k, .int .i64 v.n, .string v.s], len := fun _ => rfl, one := fun v u hu => by simp only [List.mem_cons, List.not_mem_nil, or_false] at hu; rcases hu with rfl | rfl | rfl <;> rfl }
theorem own_sv {e : TypeId} {w : World} {base : Nat} {v : Value} {xs : List Vl} (h : Own encVl e w base v xs) : SV w w.heap.size v xs := by
  rcases h.shape with ⟨rfl, hx⟩ | ⟨g, cap, rfl, hg, hl, hc, hm⟩
  · exact ⟨none, 0, by rw [hx]; rfl, .inl hx⟩
  · refine ⟨_, _, rfl, .inr ⟨g, 0, rfl, hl, fun i x hi => ?_⟩⟩
    have c0 := h.cells (i * 3 + 0) (.int .i64 x.k) (by rw [encVl.at xs i 0 x hi (by omega)]; rfl)
    have c1 := h.cells (i * 3 + 1) (.int .i64 x.n) (by rw [encVl.at xs i 1 x hi (by omega)]; rfl)
    have c2 := h.cells (i * 3 + 2) (.string x.s) (by rw [encVl.at xs i 2 x hi (by omega)]; rfl)
    refine ⟨?_, ?_, ?_⟩
    · rwa [Nat.zero_add]
    · rwa [Nat.zero_add]
    · rwa [Nat.zero_add]
/-- A slice of arguments. -/
def SA (w : World) (B : Nat) (v : Value) (ags : List Ag) : Prop :=
  (∃ A cap, v = .slice A ags.length cap ∧ (ags = [] ∨ ∃ pb po, A = some ⟨pb, po, none⟩ ∧ pb < B ∧ ∀ (i : Nat) (a : Ag), ags[i]? = some a → w.cell? ⟨pb, po + i * 3, none⟩ = some (.bool a.r) ∧ w.cell? ⟨pb, po + i * 3 + 1, none⟩ = some (.int .i64 a.c) ∧ w.cell? ⟨pb, po + i * 3 + 2, none⟩ = some a.v)) ∧ ∀ a ∈ ags, SV w B a.v a.vs
theorem SA.below {w w' : World} {B C : Nat} {v : Value} {ags : List Ag} (h : SA w B v ags) (hb : Below C w w') (hC : B ≤ C) : SA w' B v ags := by
  obtain ⟨⟨A, cap, h1, h4⟩, h5⟩ := h
  refine ⟨⟨A, cap, h1, h4.imp id ?_⟩, fun a ha => (h5 a ha).below hb hC⟩
  rintro ⟨pb, po, e1, e2, e3⟩
  refine ⟨pb, po, e1, e2, fun i x hi => ?_⟩
  obtain ⟨c0, c1, c2⟩ := e3 i x hi
  exact ⟨(hb.cell (p := ⟨pb, po + i * 3, none⟩) (by show pb < C; omega)).trans c0, (hb.cell (p := ⟨pb, po + i * 3 + 1, none⟩) (by show pb < C; omega)).trans c1, (hb.cell (p := ⟨pb, po + i * 3 + 2, none⟩) (by show pb < C; omega)).trans c2⟩
theorem SA.mono {w : World} {B C : Nat} {v : Value} {ags : List Ag} (h : SA w B v ags) (hC : B ≤ C) : SA w C v ags := by
  obtain ⟨⟨A, cap, h1, h4⟩, h5⟩ := h
  refine ⟨⟨A, cap, h1, h4.imp id ?_⟩, fun a ha => (h5 a ha).mono hC⟩
  rintro ⟨pb, po, e1, e2, e3⟩
  exact ⟨pb, po, e1, by omega, e3⟩
/-- Sizes that are no trouble. -/
def AZ (ags : List Ag) : Prop := ags.length ≤ 1000000 ∧ cntA ags ≤ 1000000 ∧ ∀ a ∈ ags, a.vs.length ≤ 1000000 ∧ ∀ x ∈ a.vs, VOk x
/-- A block that holds an argument. -/
def AgAt (w : World) (b : Nat) (r : Bool) (c : Int) (v : Value) : Prop := w.heap[b]? = some (.cells #[.bool r, .int .i64 c, v] 32)
theorem AgAt.new (w : World) (r : Bool) (c : Int) (v : Value) : AgAt (w.alloc (.cells #[.bool r, .int .i64 c, v] 32)) w.heap.size r c v := (Go.MapKept.heap_alloc w _).1
theorem AgAt.lt {w : World} {b : Nat} {r : Bool} {c : Int} {v : Value} (h : AgAt w b r c v) : b < w.heap.size := (Array.getElem?_eq_some_iff.1 h).1
theorem AgAt.below {w w' : World} {b B : Nat} {r : Bool} {c : Int} {v : Value} (h : AgAt w b r c v) (hb : Below B w w') (hB : b < B) : AgAt w' b r c v := by unfold AgAt; rw [hb.block b hB]; exact h
theorem AgAt.over {w w' : World} {b : Nat} {r : Bool} {c : Int} {v : Value} (h : AgAt w b r c v) (hb : Below w.heap.size w w') : AgAt w' b r c v := h.below hb h.lt
theorem AgAt.cells {w : World} {b : Nat} {r : Bool} {c : Int} {v : Value} (h : AgAt w b r c v) : w.cell? ⟨b, 0, none⟩ = some (.bool r) ∧ w.cell? ⟨b, 1, none⟩ = some (.int .i64 c) ∧ w.cell? ⟨b, 2, none⟩ = some v :=
  ⟨by rw [cell_of_row w b 0 _ _ _ h]; rfl, by rw [cell_of_row w b 1 _ _ _ h]; rfl, by rw [cell_of_row w b 2 _ _ _ h]; rfl⟩
theorem res_ffault : Tryz.f11.results = #[.cell 2 28] := by kernel_rfl
theorem res_fnumber : Tryz.f34.results = #[.cell 2 28] := by kernel_rfl
theorem res_ftext : Tryz.f48.results = #[.cell 2 28] := by kernel_rfl
theorem res_ftruth : Tryz.f40.results = #[.cell 2 28] := by kernel_rfl
set_option maxRecDepth 100000 in
set_option maxHeartbeats 1600000 in
theorem ffault_any (n : Int) (w : World) : Calls Tryz.prog 11 #[.int .i64 n] w fun e w' => e = .returned (.agg #[.int .i64 (Vl.err n).k, .int .i64 (Vl.err n).n, .string (Vl.err n).s]) ∧ Below w.heap.size w w' := by
  have HN := Lib.hid (VlAt.new w (Vl.err n))
  have HB := Lib.hid (below_vl w (Vl.err n))
  go_enter Tryz.func11, Tryz.ntmps11
  go_wp2_with fail
  exact bodyPost_ret (out_vl HN.out _ _ 2 res_ffault rfl) rfl ⟨rfl, HB.out⟩
set_option maxRecDepth 100000 in
set_option maxHeartbeats 1600000 in
theorem fnumber_any (n : Int) (w : World) : Calls Tryz.prog 34 #[.int .i64 n] w fun e w' => e = .returned (.agg #[.int .i64 (Vl.num n).k, .int .i64 (Vl.num n).n, .string (Vl.num n).s]) ∧ Below w.heap.size w w' := by
  have HN := Lib.hid (VlAt.new w (Vl.num n))
  have HB := Lib.hid (below_vl w (Vl.num n))
  go_enter Tryz.func34, Tryz.ntmps34
  go_wp2_with fail
  exact bodyPost_ret (out_vl HN.out _ _ 2 res_fnumber rfl) rfl ⟨rfl, HB.out⟩
set_option maxRecDepth 100000 in
set_option maxHeartbeats 1600000 in
theorem ftext_any (s : ByteArray) (w : World) : Calls Tryz.prog 48 #[.string s] w fun e w' => e = .returned (.agg #[.int .i64 (Vl.text s).k, .int .i64 (Vl.text s).n, .string (Vl.text s).s]) ∧ Below w.heap.size w w' := by
  have HN := Lib.hid (VlAt.new w (Vl.text s))
  have HB := Lib.hid (below_vl w (Vl.text s))
  go_enter Tryz.func48, Tryz.ntmps48
  go_wp2_with fail
  exact bodyPost_ret (out_vl HN.out _ _ 2 res_ftext rfl) rfl ⟨rfl, HB.out⟩
set_option maxRecDepth 100000 in
set_option maxHeartbeats 1600000 in
theorem ftruth_false (w : World) : Calls Tryz.prog 40 #[.bool false] w fun e w' => e = .returned (.agg #[.int .i64 (Vl.truth false).k, .int .i64 (Vl.truth false).n, .string (Vl.truth false).s]) ∧ Below w.heap.size w w' := by
  have HN := Lib.hid ((VlAt.new w (Vl.truth false)).over ((Below.refl _ _).alloc (Nat.le_refl _) (.cells #[.int .i64 (Vl.truth false).k, .int .i64 (Vl.truth false).n, .string (Vl.truth false).s] 28)))
  have HB := Lib.hid ((below_vl w (Vl.truth false)).alloc (below_vl w (Vl.truth false)).size (.cells #[.int .i64 (Vl.truth false).k, .int .i64 (Vl.truth false).n, .string (Vl.truth false).s] 28))
  go_enter Tryz.func40, Tryz.ntmps40
  go_wp2_with fail
  exact bodyPost_ret (out_vl HN.out _ _ 2 res_ftruth rfl) rfl ⟨rfl, HB.out⟩
set_option maxRecDepth 100000 in
set_option maxHeartbeats 1600000 in
theorem ftruth_true (w : World) : Calls Tryz.prog 40 #[.bool true] w fun e w' => e = .returned (.agg #[.int .i64 (Vl.truth true).k, .int .i64 (Vl.truth true).n, .string (Vl.truth true).s]) ∧ Below w.heap.size w w' := by
  have HN := Lib.hid ((VlAt.new w (Vl.truth true)).over ((Below.refl _ _).alloc (Nat.le_refl _) (.cells #[.int .i64 (Vl.truth true).k, .int .i64 (Vl.truth true).n, .string (Vl.truth true).s] 28)))
  have HB := Lib.hid ((below_vl w (Vl.truth true)).alloc (below_vl w (Vl.truth true)).size (.cells #[.int .i64 (Vl.truth true).k, .int .i64 (Vl.truth true).n, .string (Vl.truth true).s] 28))
  go_enter Tryz.func40, Tryz.ntmps40
  go_wp2_with fail
  exact bodyPost_ret (out_vl HN.out _ _ 2 res_ftruth rfl) rfl ⟨rfl, HB.out⟩
theorem ftruth_any (b : Bool) (w : World) : Calls Tryz.prog 40 #[.bool b] w fun e w' => e = .returned (.agg #[.int .i64 (Vl.truth b).k, .int .i64 (Vl.truth b).n, .string (Vl.truth b).s]) ∧ Below w.heap.size w w' := by
  cases b with
  | false => exact ftruth_false w
  | true => exact ftruth_true w
set_option maxRecDepth 100000 in
set_option maxHeartbeats 1600000 in
theorem fisError_any (v : Vl) (w : World) : Calls Tryz.prog 32 #[.agg #[.int .i64 v.k, .int .i64 v.n, .string v.s]] w fun e w' => e = .returned (.bool (decide (v.k = 4))) ∧ Below w.heap.size w w' := by
  have HB := Lib.hid (below_vl w v)
  go_enter Tryz.func32, Tryz.ntmps32
  go_wp2_with fail
  all_goals go_ret
  all_goals exact ⟨by first | rfl | rw [dec_beq], HB.out⟩
end Go.Proofs.YtolhmemiknpeaaaGreatDoor
