/-
  Layer 8, the law: numbers dealt out.
-/
import Derived.Test.YtolhmemiknpeaaaGreatDoorFwLogU
import Derived.Test.YtolhmemiknpeaaaGreatDoorFuW
import Derived.Test.YtolhmemiknpeaaaGreatDoorFuX
import Derived.Deep.DeepCutAuto
namespace Go.Proofs.YtolhmemiknpeaaaGreatDoor
open Go.RowKit

theorem call_COUNT (w : World) (v : Value) (ags : List Ag) (h : SA w w.heap.size v ags) (hz : AZ ags) : Calls Tryz.prog 6 #[.string ⟨#[67, 79, 85, 78, 84]⟩, v] w fun e w' => e = .returned (.agg #[.int .i64 (callV 1 9223372036854775807 1 true ags (Vl.num (cntF 0 (valsA ags)))).k, .int .i64 (callV 1 9223372036854775807 1 true ags (Vl.num (cntF 0 (valsA ags)))).n, .string (callV 1 9223372036854775807 1 true ags (Vl.num (cntF 0 (valsA ags)))).s]) ∧ Below w.heap.size w w' :=
  call_any w v ags ⟨#[67, 79, 85, 78, 84]⟩ 1 9223372036854775807 1 true 17 (Vl.num (cntF 0 (valsA ags))) (by decide) h hz (fun c => tab_row (i := 3) rfl) (Go.Proofs.enters_of Tryz.func17 (by kernel_rfl) rfl)
    (fun _ _ W hW => fcount_any W v ags ((h.below hW (Nat.le_refl _)).mono hW.size) hz)
theorem call_MIN (w : World) (v : Value) (ags : List Ag) (h : SA w w.heap.size v ags) (hz : AZ ags) : Calls Tryz.prog 6 #[.string ⟨#[77, 73, 78]⟩, v] w fun e w' => e = .returned (.agg #[.int .i64 (callV 1 9223372036854775807 1 false ags (minA ags)).k, .int .i64 (callV 1 9223372036854775807 1 false ags (minA ags)).n, .string (callV 1 9223372036854775807 1 false ags (minA ags)).s]) ∧ Below w.heap.size w w' :=
  call_any w v ags ⟨#[77, 73, 78]⟩ 1 9223372036854775807 1 false 15 (minA ags) (by decide) h hz (fun c => tab_row (i := 1) rfl) (Go.Proofs.enters_of Tryz.func15 (by kernel_rfl) rfl)
    (fun _ _ W hW => fleast_any W v ags ((h.below hW (Nat.le_refl _)).mono hW.size) hz)
theorem call_MAX (w : World) (v : Value) (ags : List Ag) (h : SA w w.heap.size v ags) (hz : AZ ags) : Calls Tryz.prog 6 #[.string ⟨#[77, 65, 88]⟩, v] w fun e w' => e = .returned (.agg #[.int .i64 (callV 1 9223372036854775807 1 false ags (maxA ags)).k, .int .i64 (callV 1 9223372036854775807 1 false ags (maxA ags)).n, .string (callV 1 9223372036854775807 1 false ags (maxA ags)).s]) ∧ Below w.heap.size w w' :=
  call_any w v ags ⟨#[77, 65, 88]⟩ 1 9223372036854775807 1 false 16 (maxA ags) (by decide) h hz (fun c => tab_row (i := 2) rfl) (Go.Proofs.enters_of Tryz.func16 (by kernel_rfl) rfl)
    (fun _ _ W hW => fgreatest_any W v ags ((h.below hW (Nat.le_refl _)).mono hW.size) hz)
/-- Arguments whose values are these numbers. -/
def Nums (ags : List Ag) (ys : List Int) : Prop := (∀ a ∈ ags, ∀ x ∈ a.vs, ∃ n, x = Vl.num n) ∧ valsA ags = ys.map Vl.num
theorem Nums.pas {ags : List Ag} {ys : List Int} (h : Nums ags ys) : pas2 [1] [] ags = some (ys.map Vl.num) := by
  rw [pas2_all [1] ags [] (fun a ha x hx => by obtain ⟨n, rfl⟩ := h.1 a ha x hx; rfl), h.2]; rfl
theorem Nums.faults {ags : List Ag} {ys : List Int} (h : Nums ags ys) : faultA ags = none := faultA_none _ (fun a ha x hx => by
  obtain ⟨n, rfl⟩ := h.1 a ha x hx
  show ¬ (1 : Int) = 4; decide)
theorem map_num (ys : List Int) : (ys.map Vl.num).map (·.n) = ys := by
  rw [List.map_map]
  conv => rhs; rw [← List.map_id ys]
  exact List.map_congr_left (fun _ _ => rfl)
theorem Nums.nums {ags : List Ag} {ys : List Int} (h : Nums ags ys) : numsA ags = some ys := by unfold numsA; rw [h.pas]; exact congrArg some (map_num ys)
theorem cntF_nums : ∀ (ys : List Int) (n : Int), cntF n (ys.map Vl.num) = n + ys.length
  | [], n => by simp [cntF]
  | y :: t, n => by
    show cntF (if (1 : Int) = 1 then n + 1 else n) (t.map Vl.num) = _
    rw [if_pos rfl, cntF_nums t]; simp; omega
theorem sumF_nums : ∀ (ys : List Int) (s : Int), (∀ y ∈ ys, -2147483648 ≤ y ∧ y ≤ 2147483647) → -4000000000000000 ≤ s → s ≤ 4000000000000000 → ys.length ≤ 1000 → -4000000000000000 ≤ s - 2147483648 * ys.length → s + 2147483648 * ys.length ≤ 4000000000000000 → sumF (Vl.num s) (ys) = Vl.num (ys.foldl (· + ·) s)
  | [], s, _, _, _, _, _, _ => rfl
  | y :: t, s, hb, h1, h2, h3, h4, h5 => by
    have hy := hb y (List.mem_cons_self ..)
    simp only [List.length_cons] at h3 h4 h5
    show sumF (twoV 16 (Vl.num s) (Vl.num y)) t = _
    rw [two16_num s y (by omega) (by omega)]
    exact sumF_nums t (s + y) (fun z hz => hb z (List.mem_cons_of_mem _ hz)) (by omega) (by omega) (by omega) (by omega) (by omega)
def minO (ys : List Int) : Int := match ys with | [] => 0 | y :: t => t.foldl min y
def maxO (ys : List Int) : Int := match ys with | [] => 0 | y :: t => t.foldl max y
theorem Nums.sum {ags : List Ag} {ys : List Int} (h : Nums ags ys) (h1 : 1 ≤ ags.length) (h2 : ags.length ≤ 1000000) (hy : ∀ y ∈ ys, -2147483648 ≤ y ∧ y ≤ 2147483647) (hl : ys.length ≤ 1000) : callV 1 9223372036854775807 1 false ags (sumA ags) = Vl.num (ys.foldl (· + ·) 0) := by
  rw [callV_ok (suit_many _ h1 h2) h.faults]
  unfold sumA; rw [h.nums]
  exact sumF_nums ys 0 hy (by omega) (by omega) hl (by omega) (by omega)
theorem Nums.count {ags : List Ag} {ys : List Int} (h : Nums ags ys) (h1 : 1 ≤ ags.length) (h2 : ags.length ≤ 1000000) : callV 1 9223372036854775807 1 true ags (Vl.num (cntF 0 (valsA ags))) = Vl.num ys.length := by
  unfold callV; rw [if_pos (suit_many _ h1 h2), if_pos rfl, h.2, cntF_nums, Int.zero_add]
theorem Nums.least {ags : List Ag} {ys : List Int} (h : Nums ags ys) (h1 : 1 ≤ ags.length) (h2 : ags.length ≤ 1000000) : callV 1 9223372036854775807 1 false ags (minA ags) = Vl.num (minO ys) := by
  rw [callV_ok (suit_many _ h1 h2) h.faults]
  unfold minA; rw [h.nums]; cases ys <;> rfl
theorem Nums.most {ags : List Ag} {ys : List Int} (h : Nums ags ys) (h1 : 1 ≤ ags.length) (h2 : ags.length ≤ 1000000) : callV 1 9223372036854775807 1 false ags (maxA ags) = Vl.num (maxO ys) := by
  rw [callV_ok (suit_many _ h1 h2) h.faults]
  unfold maxA; rw [h.nums]; cases ys <;> rfl
/-- A slice out of a value, as it lies in a cell. -/
def slOf : Value → Value
  | .slice p l c => .slice p l c
  | _ => .slice none 0 0
theorem encAg_one (a : Ag) : ∀ u ∈ [Value.bool a.r, .int .i64 a.c, slOf a.v], u.oneCell' = true := by
  intro u hu
  simp only [List.mem_cons, List.not_mem_nil, or_false] at hu
  rcases hu with rfl | rfl | rfl
  · rfl
  · rfl
  · unfold slOf; split <;> rfl
def encAg : Enc Ag 3 := { f := fun a => [.bool a.r, .int .i64 a.c, slOf a.v], len := fun _ => rfl, one := encAg_one }
theorem slOf_sv {w : World} {B : Nat} {v : Value} {vs : List Vl} (h : SV w B v vs) : slOf v = v := by
  obtain ⟨A, cap, rfl, _⟩ := h; rfl
theorem own_sa {e : TypeId} {w : World} {base : Nat} {v : Value} {ags : List Ag} (h : Own encAg e w base v ags) (hs : ∀ a ∈ ags, SV w w.heap.size a.v a.vs) : SA w w.heap.size v ags := by
  refine ⟨?_, hs⟩
  rcases h.shape with ⟨rfl, hx⟩ | ⟨g, cap, rfl, hg, hl, hc, hm⟩
  · exact ⟨none, 0, by rw [hx]; rfl, .inl hx⟩
  · refine ⟨_, _, rfl, .inr ⟨g, 0, rfl, hl, fun i x hi => ?_⟩⟩
    have c0 := h.cells (i * 3 + 0) (.bool x.r) (by rw [encAg.at ags i 0 x hi (by omega)]; rfl)
    have c1 := h.cells (i * 3 + 1) (.int .i64 x.c) (by rw [encAg.at ags i 1 x hi (by omega)]; rfl)
    have c2 := h.cells (i * 3 + 2) x.v (by rw [encAg.at ags i 2 x hi (by omega)]; show some (slOf x.v) = _; rw [slOf_sv (hs x (List.mem_of_getElem? hi))])
    refine ⟨?_, ?_, ?_⟩
    · rwa [Nat.zero_add]
    · rwa [Nat.zero_add]
    · rwa [Nat.zero_add]
/-- A slice of one that a literal made. -/
theorem own_lit {w : World} {C : Array Value} {e : TypeId} {a : Ag} (base : Nat) (hb : base ≤ w.heap.size) (hC : C.toList = encAg.f a) : Own encAg e (w.alloc (.cells C e)) base (.slice (some ⟨w.heap.size, 0, none⟩) 1 1) [a] := by
  have hl : C.size = 3 := by rw [← Array.length_toList, hC]; rfl
  refine ⟨rfl, .inr ⟨w.heap.size, 1, C, rfl, hb, (Go.MapKept.heap_alloc w _).1, Nat.le_refl _, by unfold maxLen; decide, by rw [hl], ?_⟩⟩
  rw [hC]; rfl
theorem take_snoc1 {α : Type} {l : List α} {i : Nat} {x : α} (h : l[i]? = some x) : l.take (i + 1) = l.take i ++ [x] := by rw [List.take_add_one, h]; rfl
theorem Elem.agF : ∃ n, n ≤ 100 ∧ Elem Tryz.prog 35 32 3 n := ⟨40, by omega, Tryz.underlying35, ⟨.agg #[.bool false, .int .i64 0, .slice none 0 0], by kernel_rfl, rfl⟩, by decide⟩
theorem sv_cut {w : World} {base g cap n : Nat} {e : TypeId} {vs : List Vl} (h : Own encVl e w base (.slice (some ⟨g, 0, none⟩) n cap) vs) (k : Nat) (hk : k ≤ vs.length) (hg : g < w.heap.size) : SV w w.heap.size (.slice (some ⟨g, 0, none⟩) k cap) (vs.take k) := by
  refine ⟨_, cap, by rw [List.length_take, Nat.min_eq_left hk], .inr ⟨g, 0, rfl, hg, fun i x hi => ?_⟩⟩
  have hi2 : vs[i]? = some x := by
    have hlt : i < k := by
      have := (List.getElem?_eq_some_iff.1 hi).1
      rw [List.length_take] at this; omega
    rw [List.getElem?_take_of_lt hlt] at hi; exact hi
  have c0 := h.cells (i * 3 + 0) (.int .i64 x.k) (by rw [encVl.at vs i 0 x hi2 (by omega)]; rfl)
  have c1 := h.cells (i * 3 + 1) (.int .i64 x.n) (by rw [encVl.at vs i 1 x hi2 (by omega)]; rfl)
  have c2 := h.cells (i * 3 + 2) (.string x.s) (by rw [encVl.at vs i 2 x hi2 (by omega)]; rfl)
  refine ⟨?_, ?_, ?_⟩
  · rwa [Nat.zero_add]
  · rwa [Nat.zero_add]
  · rwa [Nat.zero_add]
theorem sv_tail {w : World} {base g cap n : Nat} {e : TypeId} {vs : List Vl} (h : Own encVl e w base (.slice (some ⟨g, 0, none⟩) n cap) vs) (k : Nat) (hk : k ≤ vs.length) (hg : g < w.heap.size) (A : Option Addr) (hA : k < vs.length → A = some ⟨g, k * 3, none⟩) : SV w w.heap.size (.slice A (vs.length - k) (cap - k)) (vs.drop k) := by
  refine ⟨A, cap - k, by rw [List.length_drop], ?_⟩
  by_cases hlt : k < vs.length
  · refine .inr ⟨g, k * 3, hA hlt, hg, fun i x hi => ?_⟩
    rw [List.getElem?_drop] at hi
    have c0 := h.cells ((k + i) * 3 + 0) (.int .i64 x.k) (by rw [encVl.at vs (k + i) 0 x hi (by omega)]; rfl)
    have c1 := h.cells ((k + i) * 3 + 1) (.int .i64 x.n) (by rw [encVl.at vs (k + i) 1 x hi (by omega)]; rfl)
    have c2 := h.cells ((k + i) * 3 + 2) (.string x.s) (by rw [encVl.at vs (k + i) 2 x hi (by omega)]; rfl)
    rw [show k * 3 + i * 3 = (k + i) * 3 by omega]
    exact ⟨c0, c1, c2⟩
  · exact .inl (List.drop_of_length_le (by omega))
/-- What 'ints' tells. -/
def IntsIs (w : World) (B : Nat) (e : Ending) (xs : List Int) : Prop := ∃ v, e = .returned v ∧ Own encVl 28 w B v (xs.map Vl.num)
set_option maxRecDepth 100000 in
set_option maxHeartbeats 4000000 in
theorem ints_any (w : World) (v : Value) (xs : List Int) (h : SG (Value.int .i32) w w.heap.size v xs) (hl : xs.length ≤ 1000) (hx : ∀ x ∈ xs, -2147483648 ≤ x ∧ x ≤ 2147483647) : Calls Tryz.prog 5 #[v] w fun e w' => IntsIs w' w.heap.size e xs ∧ Below w.heap.size w w' := by
  obtain ⟨A, cap, rfl, hat⟩ := h
  obtain ⟨n, hn⟩ : ∃ n, xs.length = n := ⟨_, rfl⟩
  rw [hn] at hl ⊢
  have HAT := Lib.hid hat; have HN := Lib.hid hn; have HX := Lib.hid hx
  obtain ⟨eb, hEB, EL⟩ := Elem.vlF
  have HEL := Lib.hid EL
  clear hat hn hx EL
  go_enter Tryz.func5, Tryz.ntmps5
  go_upto_region 3 with (fail)
  go_loopw [3, 4] (fun lv iv wr => ∃ i : Nat, i ≤ n ∧ iv = .int .i64 (i : Int) ∧ Hid (Own encVl 28 wr w.heap.size lv ((xs.take i).map Vl.num)) ∧ Hid (Below w.heap.size w wr))
    (fun _ iv _ => n - (intOf iv).toNat)
  case atStart => exact ⟨0, Nat.zero_le _, rfl, Lib.hid (Own.nil _ _ _ _), Lib.hid (Below.refl _ _)⟩
  case round =>
    obtain ⟨i, hi, rfl, HOW, HR⟩ := hrel
    by_cases hlt : i < n
    · have hii : (i : Int) < (n : Int) := by omega
      have hi0 : (0 : Int) ≤ (i : Int) := by omega
      obtain ⟨x, hx⟩ : ∃ x, xs[i]? = some x := ⟨_, List.getElem?_eq_getElem (by rw [HN.out]; exact hlt)⟩
      rcases HAT.out with e | ⟨pb, po, rfl, hpb, hc⟩
      · exfalso; rw [e] at hx; simp at hx
      have k1 := (HR.out.cell (p := ⟨pb, po + i, none⟩) hpb).trans (hc i x hx)
      have hxb := HX.out x (List.mem_of_getElem? hx)
      have HTK := Lib.hid (show (xs.take (i + 1)).map Vl.num = (xs.take i).map Vl.num ++ [Vl.num x] by rw [take_snoc1 hx, List.map_append]; rfl)
      have HLEN := Lib.hid (show ((xs.take i).map Vl.num).length = i by rw [List.length_map, List.length_take, HN.out]; omega)
      have hsr := HR.out.size
      clear hc hx
      go_wp2_with (first
        | (at_builtin; refine wpList_app HEL.out encVl rfl (.tmp 11) (.tmp 18) rfl w.heap.size _ ((xs.take i).map Vl.num) rfl (HOW.out.alloc _) ⟨_, 0, none⟩ 1 1 [Vl.num x] rfl rfl ?_ ?_ ?_ ?_ ?_; exact cells_new _ _ _ rfl; (rw [HLEN.out]; exact Nat.le_trans (Nat.mul_le_mul_left _ hEB) (by omega)); (rw [HLEN.out]; unfold maxLen; omega); (rw [World.size_alloc]; omega); intro v5 w5 h1 h2; have HO5 := Lib.hid h1; have HR5 := Lib.hid ((HR.out.alloc hsr _).trans h2); clear h1 h2))
      go_roundw
      case rel => exact ⟨i + 1, by omega, by go_num, Lib.hid (by rw [HTK.out]; exact HO5.out), HR5⟩
      case measure => simp [intOf]; omega
    · have hii : ¬ (i : Int) < (n : Int) := by omega
      have HTK := Lib.hid (show xs.take i = xs from List.take_of_length_le (by rw [HN.out]; omega))
      go_wp2_with fail
      go_ret
      exact ⟨⟨_, rfl, by rw [← HTK.out]; exact HOW.out⟩, HR.out⟩
/-- What 'one' tells, in a block of its own. -/
def OneNew (w w' : World) (e : Ending) (x : Vl) : Prop := ∃ g, e = .returned (.agg #[.bool false, .int .i64 0, .slice (some ⟨g, 0, none⟩) 1 1]) ∧ w.heap.size ≤ g ∧ SV w' w'.heap.size (.slice (some ⟨g, 0, none⟩) 1 1) [x]
set_option maxRecDepth 100000 in
set_option maxHeartbeats 1600000 in
theorem one_new (x : Vl) (w : World) : Calls Tryz.prog 8 #[.agg #[.int .i64 x.k, .int .i64 x.n, .string x.s]] w fun e w' => OneNew w w' e x ∧ Aft w w' := by
  have hs1 : (w.alloc (.cells #[.int .i64 x.k, .int .i64 x.n, .string x.s] 28)).heap.size = w.heap.size + 1 := World.size_alloc _ _
  have hs2 : ((w.alloc (.cells #[.int .i64 x.k, .int .i64 x.n, .string x.s] 28)).alloc (.cells #[.bool false, .int .i64 0, .slice none 0 0] 32)).heap.size = w.heap.size + 2 := by rw [World.size_alloc, hs1]
  have hx : VlAt ((w.alloc (.cells #[.int .i64 x.k, .int .i64 x.n, .string x.s] 28)).alloc (.cells #[.bool false, .int .i64 0, .slice none 0 0] 32)) w.heap.size x := (VlAt.new w x).over (Aft.alloc _ _)
  have hag : ((w.alloc (.cells #[.int .i64 x.k, .int .i64 x.n, .string x.s] 28)).alloc (.cells #[.bool false, .int .i64 0, .slice none 0 0] 32)).heap[w.heap.size + 1]? = some (.cells #[.bool false, .int .i64 0, .slice none 0 0] 32) := by
    have := (Go.MapKept.heap_alloc (w.alloc (.cells #[.int .i64 x.k, .int .i64 x.n, .string x.s] 28)) (.cells #[.bool false, .int .i64 0, .slice none 0 0] 32)).1
    rwa [hs1] at this
  have hb := (Aft.alloc w (.cells #[.int .i64 x.k, .int .i64 x.n, .string x.s] 28)).trans (Aft.alloc (w.alloc (.cells #[.int .i64 x.k, .int .i64 x.n, .string x.s] 28)) (.cells #[.bool false, .int .i64 0, .slice none 0 0] 32))
  have HB := Lib.hid hb; have HX := Lib.hid hx; have HAG := Lib.hid hag
  clear hb hx hag
  go_enter Tryz.func8, Tryz.ntmps8
  go_upto_region 1 with (fail)
  generalize hq : w.heap.size = q at HX HAG hs1 hs2 ⊢
  generalize ((w.alloc (.cells #[.int .i64 x.k, .int .i64 x.n, .string x.s] 28)).alloc (.cells #[.bool false, .int .i64 0, .slice none 0 0] 32)) = w2 at HX HAG HB hs2 ⊢
  obtain ⟨x0, x1, x2⟩ := HX.out.cells
  have m0 := frozen_of_row w2 (q + 1) 0 _ _ HAG.out
  have m1 := frozen_of_row w2 (q + 1) 1 _ _ HAG.out
  have m2 := frozen_of_row w2 (q + 1) 2 _ _ HAG.out
  have a0 := cell_of_row w2 (q + 1) 0 _ _ _ HAG.out
  have a1 := cell_of_row w2 (q + 1) 1 _ _ _ HAG.out
  have a2 := cell_of_row w2 (q + 1) 2 _ _ _ HAG.out
  simp at a0 a1 a2
  go_wp2_with fail
  have g1 : (w2.setCell ⟨q + 1, 0, none⟩ (.bool false)).heap[q + 1]? = some (.cells #[.bool false, .int .i64 0, .slice none 0 0] 32) := by rw [heap_setCell_same w2 (q + 1) 0 _ _ _ HAG.out]; rfl
  have g2 : ((w2.setCell ⟨q + 1, 0, none⟩ (.bool false)).setCell ⟨q + 1, 1, none⟩ (.int .i64 0)).heap[q + 1]? = some (.cells #[.bool false, .int .i64 0, .slice none 0 0] 32) := by rw [heap_setCell_same _ (q + 1) 1 _ _ _ g1]; rfl
  have g3 : AgAt (((w2.setCell ⟨q + 1, 0, none⟩ (.bool false)).setCell ⟨q + 1, 1, none⟩ (.int .i64 0)).setCell ⟨q + 1, 2, none⟩ (.slice (some ⟨q + 2, 0, none⟩) 1 1)) (q + 1) false 0 (.slice (some ⟨q + 2, 0, none⟩) 1 1) := by
    unfold AgAt; rw [heap_setCell_same _ (q + 1) 2 _ _ _ g2]; rfl
  have hqw : w.heap.size ≤ q + 1 := by omega
  have hb3 : Below w.heap.size w (((w2.setCell ⟨q + 1, 0, none⟩ (.bool false)).setCell ⟨q + 1, 1, none⟩ (.int .i64 0)).setCell ⟨q + 1, 2, none⟩ (.slice (some ⟨q + 2, 0, none⟩) 1 1)) := ((Below.setCell HB.out hqw _).setCell hqw _).setCell hqw _
  have hs3 : (((w2.setCell ⟨q + 1, 0, none⟩ (.bool false)).setCell ⟨q + 1, 1, none⟩ (.int .i64 0)).setCell ⟨q + 1, 2, none⟩ (.slice (some ⟨q + 2, 0, none⟩) 1 1)).heap.size = q + 2 := by rw [World.size_setCell, World.size_setCell, World.size_setCell]; exact hs2
  generalize (((w2.setCell ⟨q + 1, 0, none⟩ (.bool false)).setCell ⟨q + 1, 1, none⟩ (.int .i64 0)).setCell ⟨q + 1, 2, none⟩ (.slice (some ⟨q + 2, 0, none⟩) 1 1)) = w3 at g3 hb3 hs3 ⊢
  have hsv := sv_one w3 x 28
  rw [hs3] at hsv
  exact bodyPost_ret (out_ag (g3.over (Aft.alloc w3 (.cells #[.int .i64 x.k, .int .i64 x.n, .string x.s] 28))) _ _ 2 res_one rfl) rfl ⟨⟨_, rfl, (by first | omega | (rw [hq]; omega)), hsv⟩, hb3.alloc hb3.size _⟩

/-- Arguments that the law deals out: their row is its own, and none of their slices lies in it. -/
def Deal (w : World) (z : Nat) (lv : Value) (gs : List Ag) : Prop := Own encAg 32 w z lv gs ∧ ∀ a ∈ gs, SV w w.heap.size a.v a.vs ∧ (a.vs = [] ∨ ∀ b, a.v.ownBlock = some b → lv.ownBlock ≠ some b)
theorem sv_grown {w w' : World} {row : Option Nat} {v : Value} {vs : List Vl} (h : SV w w.heap.size v vs) (hg : w.grownBy w' row) (hne : vs = [] ∨ ∀ b, v.ownBlock = some b → row ≠ some b) : SV w' w'.heap.size v vs := by
  obtain ⟨A, cap, rfl, h4⟩ := h
  refine ⟨A, cap, rfl, ?_⟩
  rcases hne with e | hne
  · exact .inl e
  refine h4.imp id ?_
  rintro ⟨pb, po, rfl, e2, e3⟩
  refine ⟨pb, po, rfl, Nat.lt_of_lt_of_le e2 hg.size, fun i x hi => ?_⟩
  have hb : some pb ≠ row := fun e => hne pb rfl e.symm
  obtain ⟨c0, c1, c2⟩ := e3 i x hi
  exact ⟨(cell_other hg (a := ⟨pb, po + i * 3, none⟩) e2 hb).trans c0, (cell_other hg (a := ⟨pb, po + i * 3 + 1, none⟩) e2 hb).trans c1, (cell_other hg (a := ⟨pb, po + i * 3 + 2, none⟩) e2 hb).trans c2⟩
theorem Deal.aft {w w' : World} {z : Nat} {lv : Value} {gs : List Ag} (h : Deal w z lv gs) (hb : Aft w w') : Deal w' z lv gs :=
  ⟨h.1.below hb (Nat.le_refl _), fun a ha => ⟨(h.2 a ha).1.next hb, (h.2 a ha).2⟩⟩
theorem Deal.app {w w' : World} {z : Nat} {lv lv' : Value} {gs : List Ag} {a : Ag} (h : Deal w z lv gs) (ha : SV w w.heap.size a.v a.vs) (hne : a.vs = [] ∨ ∀ b, a.v.ownBlock = some b → lv.ownBlock ≠ some b) (ho : Own encAg 32 w' z lv' (gs ++ [a])) (hg : w.grownBy w' lv.ownBlock) (hc : lv'.ownBlock = lv.ownBlock ∨ lv'.ownBlock = some w.heap.size) : Deal w' z lv' (gs ++ [a]) := by
  have key : ∀ x : Ag, SV w w.heap.size x.v x.vs → (x.vs = [] ∨ ∀ b, x.v.ownBlock = some b → lv.ownBlock ≠ some b) → SV w' w'.heap.size x.v x.vs ∧ (x.vs = [] ∨ ∀ b, x.v.ownBlock = some b → lv'.ownBlock ≠ some b) := fun x hs hn => by
    refine ⟨sv_grown hs hg hn, ?_⟩
    rcases hn with e | hn
    · exact .inl e
    obtain ⟨A, cap, hv, h4⟩ := hs
    rcases h4 with h5 | ⟨pb2, po2, e3, e4, _⟩
    · exact .inl h5
    refine .inr (fun b hb => ?_)
    rcases hc with e | e
    · rw [e]; exact hn b hb
    · rw [e]
      intro e2
      injection e2 with e2
      rw [hv, e3] at hb
      simp [Value.ownBlock] at hb
      omega
  refine ⟨ho, fun x hx => ?_⟩
  rcases List.mem_append.1 hx with h1 | h1
  · exact key x (h.2 x h1).1 (h.2 x h1).2
  · simp only [List.mem_singleton] at h1; subst h1; exact key x ha hne
theorem run_val_nF (k n : Int) (s : ByteArray) (w : World) : (Instr.field 28 (.agg #[.int .i64 k, .int .i64 n, .string s]) 1).run Tryz.prog w = .ok (.int .i64 n) w := by kernel_rfl
theorem sublist_len {gs : List Ag} {a : Ag} (h : a ∈ gs) : a.vs.length ≤ (valsA gs).length := by
  obtain ⟨l1, l2, rfl⟩ := List.append_of_mem h
  show _ ≤ ((l1 ++ a :: l2).flatMap (·.vs)).length
  rw [List.flatMap_append, List.flatMap_cons]
  simp only [List.length_append]
  omega
theorem vals_at {w : World} {B g n cap : Nat} {xs : List Int} {j : Nat} {x : Int} (h : SV w B (.slice (some ⟨g, 0, none⟩) n cap) (xs.map Vl.num)) (hj : xs[j]? = some x) :
    g < B ∧ w.cell? ⟨g, j * 3, none⟩ = some (.int .i64 1) ∧ w.cell? ⟨g, j * 3 + 1, none⟩ = some (.int .i64 x) ∧ w.cell? ⟨g, j * 3 + 2, none⟩ = some (.string ⟨#[]⟩) := by
  obtain ⟨pb, po, h1, h2, c0, c1, c2⟩ := takeVal h (show (xs.map Vl.num)[j]? = some (Vl.num x) by rw [List.getElem?_map, hj]; rfl)
  injection h1 with h1
  injection h1 with e1 e2
  subst e1; subst e2
  simp only [Nat.zero_add] at c0 c1 c2
  exact ⟨h2, c0, c1, c2⟩
theorem Nums.range (ys : List Int) (v : Value) : Nums [agRange (ys.map Vl.num) v] ys := by
  refine ⟨fun a ha x hx => ?_, by simp [valsA, agRange]⟩
  simp only [List.mem_singleton] at ha
  subst ha
  obtain ⟨n, _, rfl⟩ := List.mem_map.1 hx
  exact ⟨n, rfl⟩
theorem valsA_app (a b : List Ag) : valsA (a ++ b) = valsA a ++ valsA b := by simp [valsA]
theorem Nums.app {a b : List Ag} {ys zs : List Int} (h : Nums a ys) (k : Nums b zs) : Nums (a ++ b) (ys ++ zs) := by
  refine ⟨fun x hx y hy => ?_, by rw [valsA_app, h.2, k.2, List.map_append]⟩
  rcases List.mem_append.1 hx with h1 | h1
  · exact h.1 x h1 y hy
  · exact k.1 x h1 y hy
theorem Nums.one (x : Int) (v : Value) : Nums [agOne (Vl.num x) v] [x] := by
  refine ⟨fun a ha y hy => ?_, by simp [valsA, agOne]⟩
  simp only [List.mem_singleton] at ha
  subst ha
  simp [agOne] at hy
  exact ⟨x, hy⟩
theorem sum_bd : ∀ (l : List Int) (s : Int), (∀ y ∈ l, -2147483648 ≤ y ∧ y ≤ 2147483647) → s - 2147483648 * l.length ≤ l.foldl (· + ·) s ∧ l.foldl (· + ·) s ≤ s + 2147483648 * l.length
  | [], s, _ => by simp
  | y :: t, s, h => by
    have hy := h y (List.mem_cons_self ..)
    have := sum_bd t (s + y) (fun z hz => h z (List.mem_cons_of_mem _ hz))
    simp only [List.foldl_cons, List.length_cons]
    omega
theorem sum_snoc (l : List Int) (x : Int) : (l ++ [x]).foldl (· + ·) 0 = l.foldl (· + ·) 0 + x := by rw [List.foldl_append]; rfl
theorem minO_snoc (l : List Int) (x : Int) (h : ¬ l = []) : minO (l ++ [x]) = min (minO l) x := by
  cases l with
  | nil => exact absurd rfl h
  | cons y t => show (t ++ [x]).foldl min y = _; rw [List.foldl_append]; rfl
theorem maxO_snoc (l : List Int) (x : Int) (h : ¬ l = []) : maxO (l ++ [x]) = max (maxO l) x := by
  cases l with
  | nil => exact absurd rfl h
  | cons y t => show (t ++ [x]).foldl max y = _; rw [List.foldl_append]; rfl
end Go.Proofs.YtolhmemiknpeaaaGreatDoor
