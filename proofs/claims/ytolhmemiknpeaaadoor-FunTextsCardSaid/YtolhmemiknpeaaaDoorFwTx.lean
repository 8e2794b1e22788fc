/-
  Layer 8, the law: texts.
-/
import Derived.Test.YtolhmemiknpeaaaDoorFwTxU
import Derived.Test.YtolhmemiknpeaaaDoorFwIfG
import Derived.Test.YtolhmemiknpeaaaDoorVaT
import Derived.Test.YtolhmemiknpeaaaDoorSet
import Derived.Deep.DeepCutAuto
namespace Go.Proofs.YtolhmemiknpeaaaDoor
open Go.RowKit

def T5 (s lt rt : ByteArray) (k : Int) (nv : Value) (w0 : World) : Nat → Value → World → Prop
  | 0, v, _ => v = .agg #[.int .i64 2, .int .i64 0, .string s]
  | 1, v, w => ∃ g, v = .agg #[.bool false, .int .i64 0, .slice (some ⟨g, 0, none⟩) 1 1] ∧ SV w w.heap.size (.slice (some ⟨g, 0, none⟩) 1 1) [Vl.text s]
  | 2, v, _ => v = .agg #[.bool false, .int .i64 0, nv]
  | 3, v, w => ∃ u, SA w w.heap.size v [agOne (Vl.text s) u, agOne (Vl.num k) nv]
  | 4, v, _ => v = .agg #[.int .i64 2, .int .i64 0, .string lt]
  | 5, v, _ => v = .agg #[.int .i64 2, .int .i64 0, .string s]
  | 6, v, w => ∃ g, v = .agg #[.bool false, .int .i64 0, .slice (some ⟨g, 0, none⟩) 1 1] ∧ SV w w.heap.size (.slice (some ⟨g, 0, none⟩) 1 1) [Vl.text s]
  | 7, v, _ => v = .agg #[.bool false, .int .i64 0, nv]
  | 8, v, w => ∃ u, SA w w.heap.size v [agOne (Vl.text s) u, agOne (Vl.num k) nv]
  | 9, v, _ => v = .agg #[.int .i64 2, .int .i64 0, .string rt]
  | 10, v, w => ∃ r, v = .pointer (some ⟨r, 0, none⟩) ∧ VlAt w r Vl.none ∧ w0.heap.size ≤ r
  | 11, v, w => ∃ r, v = .pointer (some ⟨r, 0, none⟩) ∧ VlAt w r Vl.none ∧ w0.heap.size ≤ r
  | _, _, _ => True
theorem T5.stable (s lt rt : ByteArray) (k : Int) (nv : Value) (w0 : World) (i : Nat) (v : Value) (w w' : World) (h : T5 s lt rt k nv w0 i v w) (hr : Aft w w') : T5 s lt rt k nv w0 i v w' := by
  match i, h with
  | 0, h => exact h
  | 1, ⟨g, e, h⟩ => exact ⟨g, e, SV.next h hr⟩
  | 2, h => exact h
  | 3, ⟨u, h⟩ => exact ⟨u, SA.next h hr⟩
  | 4, h => exact h
  | 5, h => exact h
  | 6, ⟨g, e, h⟩ => exact ⟨g, e, SV.next h hr⟩
  | 7, h => exact h
  | 8, ⟨u, h⟩ => exact ⟨u, SA.next h hr⟩
  | 9, h => exact h
  | 10, ⟨r, e, h1, h2⟩ => exact ⟨r, e, h1.over hr, h2⟩
  | 11, ⟨r, e, h1, h2⟩ => exact ⟨r, e, h1.over hr, h2⟩
  | _ + 12, _ => trivial
theorem T5.fresh (s lt rt : ByteArray) (k : Int) (nv : Value) (w0 : World) : ∀ i ∈ [10, 11], ∀ v w, T5 s lt rt k nv w0 i v w → ∃ b, v = .pointer (some ⟨b, 0, none⟩) ∧ b < w.heap.size := by
  intro i hi v w h
  simp only [List.mem_cons, List.not_mem_nil, or_false] at hi
  rcases hi with rfl | rfl
  · obtain ⟨r, e, h1, _⟩ := h; exact ⟨r, e, h1.lt⟩
  · obtain ⟨r, e, h1, _⟩ := h; exact ⟨r, e, h1.lt⟩
def T6 (s md : ByteArray) (k f : Int) (nv : Value) (w0 : World) : Nat → Value → World → Prop
  | 0, v, _ => v = .agg #[.int .i64 2, .int .i64 0, .string s]
  | 1, v, w => ∃ g, v = .agg #[.bool false, .int .i64 0, .slice (some ⟨g, 0, none⟩) 1 1] ∧ SV w w.heap.size (.slice (some ⟨g, 0, none⟩) 1 1) [Vl.text s]
  | 2, v, _ => v = .int .i64 (1 + f)
  | 3, v, _ => v = .agg #[.int .i64 1, .int .i64 (1 + f), .string ⟨#[]⟩]
  | 4, v, w => ∃ g, v = .agg #[.bool false, .int .i64 0, .slice (some ⟨g, 0, none⟩) 1 1] ∧ SV w w.heap.size (.slice (some ⟨g, 0, none⟩) 1 1) [Vl.num (1 + f)]
  | 5, v, _ => v = .agg #[.bool false, .int .i64 0, nv]
  | 6, v, w => ∃ u y, SA w w.heap.size v [agOne (Vl.text s) u, agOne (Vl.num (1 + f)) y, agOne (Vl.num k) nv]
  | 7, v, _ => v = .agg #[.int .i64 2, .int .i64 0, .string md]
  | 8, v, w => ∃ r, v = .pointer (some ⟨r, 0, none⟩) ∧ VlAt w r Vl.none ∧ w0.heap.size ≤ r
  | _, _, _ => True
theorem T6.stable (s md : ByteArray) (k f : Int) (nv : Value) (w0 : World) (i : Nat) (v : Value) (w w' : World) (h : T6 s md k f nv w0 i v w) (hr : Aft w w') : T6 s md k f nv w0 i v w' := by
  match i, h with
  | 0, h => exact h
  | 1, ⟨g, e, h⟩ => exact ⟨g, e, SV.next h hr⟩
  | 2, h => exact h
  | 3, h => exact h
  | 4, ⟨g, e, h⟩ => exact ⟨g, e, SV.next h hr⟩
  | 5, h => exact h
  | 6, ⟨u, y, h⟩ => exact ⟨u, y, SA.next h hr⟩
  | 7, h => exact h
  | 8, ⟨r, e, h1, h2⟩ => exact ⟨r, e, h1.over hr, h2⟩
  | _ + 9, _ => trivial
theorem T6.fresh (s md : ByteArray) (k f : Int) (nv : Value) (w0 : World) : ∀ i ∈ [8], ∀ v w, T6 s md k f nv w0 i v w → ∃ b, v = .pointer (some ⟨b, 0, none⟩) ∧ b < w.heap.size := by
  intro i hi v w h
  obtain rfl := List.mem_singleton.1 hi
  obtain ⟨r, e, h1, _⟩ := h; exact ⟨r, e, h1.lt⟩
set_option maxRecDepth 100000 in
set_option maxHeartbeats 32000000 in
theorem funTexts_main (s : ByteArray) (n p : Int) (n0 : 0 ≤ n) (n1 : n ≤ 255) (p0 : 0 ≤ p) (p1 : p ≤ 255) (hs2 : s.size ≤ 200) (w : World) (ht : Tab w) (he : EtV w) : Calls Tryd.prog 3 #[.string s, .int .u8 n, .int .u8 p] w fun e w' => e = .returned (.bool true) ∧ Below w.heap.size w w' := by
  have hgt : ¬ (s.size : Int) > 200 := by omega
  obtain ⟨k, hk⟩ : ∃ k : Nat, n % 60 = (k : Int) := ⟨(n % 60).toNat, by omega⟩
  obtain ⟨f, hf⟩ : ∃ f : Nat, p % 60 = (f : Int) := ⟨(p % 60).toNat, by omega⟩
  have hk60 : k < 60 := by omega
  have hf60 : f < 60 := by omega
  have hk2 : n.tmod 60 = (k : Int) := by rw [Int.tmod_eq_emod_of_nonneg n0]; exact hk
  have hf2 : p.tmod 60 = (f : Int) := by rw [Int.tmod_eq_emod_of_nonneg p0]; exact hf
  have ew : wrap64 (1 + (f : Int)) = 1 + (f : Int) := by unfold wrap64; omega
  have oks : VOk (Vl.text s) := ok_text s (by omega)
  have okk : VOk (Vl.num (k : Int)) := ok_num _ (by omega) (by omega)
  have okf : VOk (Vl.num (1 + (f : Int))) := ok_num _ (by omega) (by omega)
  have HOT := Lib.hid (fun (W : World) => (show Calls Tryd.prog 5 #[.agg #[.int .i64 2, .int .i64 0, .string s]] W _ from one_any (Vl.text s) W))
  have HOK := Lib.hid (fun (W : World) => (show Calls Tryd.prog 5 #[.agg #[.int .i64 1, .int .i64 (k : Int), .string ⟨#[]⟩]] W _ from one_any (Vl.num (k : Int)) W))
  have HOP := Lib.hid (fun (W : World) => (show Calls Tryd.prog 5 #[.agg #[.int .i64 1, .int .i64 (1 + (f : Int)), .string ⟨#[]⟩]] W _ from one_any (Vl.num (1 + (f : Int))) W))
  have HAWK := Lib.hid (fun (W : World) (hW : Aft w W) => awake8_any W (ht.below hW) (he.below hW))
  obtain ⟨lt, hlt⟩ : ∃ lt, s.extract 0 (min k s.size) = lt := ⟨_, rfl⟩
  obtain ⟨rt, hrt⟩ : ∃ rt, s.extract (s.size - min k s.size) s.size = rt := ⟨_, rfl⟩
  obtain ⟨md, hmd⟩ : ∃ md, s.extract (min f s.size) (min s.size (min f s.size + k)) = md := ⟨_, rfl⟩
  have HCL := Lib.hid (fun (W : World) (u : Value) (v : Value) (c : Value) (hW : Aft w W) (h : SA W W.heap.size c [agOne (Vl.text s) u, agOne (Vl.num (k : Int)) v]) => (((left_is s k u v).trans (congrArg Vl.text hlt)) ▸ call_LEFT W c _ h (az_two _ _ u v oks okk) (ht.below hW) (he.below hW)))
  have HCR := Lib.hid (fun (W : World) (u : Value) (v : Value) (c : Value) (hW : Aft w W) (h : SA W W.heap.size c [agOne (Vl.text s) u, agOne (Vl.num (k : Int)) v]) => (((right_is s k u v).trans (congrArg Vl.text hrt)) ▸ call_RIGHT W c _ h (az_two _ _ u v oks okk) (ht.below hW) (he.below hW)))
  have HCM := Lib.hid (fun (W : World) (u : Value) (v : Value) (t : Value) (c : Value) (hW : Aft w W) (h : SA W W.heap.size c [agOne (Vl.text s) u, agOne (Vl.num (1 + (f : Int))) v, agOne (Vl.num (k : Int)) t]) => (((mid_is s f k u v t).trans (congrArg Vl.text hmd)) ▸ call_MID W c _ h (az_three _ _ _ u v t oks okf okk) (ht.below hW) (he.below hW)))
  have HCN := Lib.hid (fun (W : World) (u : Value) (c : Value) (hW : Aft w W) (h : SA W W.heap.size c [agOne (Vl.text s) u]) => ((len_is s u) ▸ call_LEN W c _ h (az_one _ u oks) (ht.below hW) (he.below hW)))
  have HLT := Lib.hid hlt; have HRT := Lib.hid hrt; have HMD := Lib.hid hmd
  have HB1 := Lib.hid (Aft.alloc w (.cells #[.int .i64 2, .int .i64 0, .string s] 24))
  have HT1 := Lib.hid (show VlAt (w.alloc (.cells #[.int .i64 2, .int .i64 0, .string s] 24)) w.heap.size (Vl.text s) from VlAt.new w (Vl.text s))
  clear ht he hlt hrt hmd oks okk okf
  go_enter Tryd.func3, Tryd.ntmps3
  go_upto_region 4 with (fail)
  generalize w.heap.size = q at HT1 ⊢
  generalize w.alloc (.cells #[.int .i64 2, .int .i64 0, .string s] 24) = w1 at HT1 HB1 ⊢
  obtain ⟨t0, t1, t2⟩ := (show w1.cell? ⟨q, 0, none⟩ = some (.int .i64 2) ∧ w1.cell? ⟨q, 1, none⟩ = some (.int .i64 0) ∧ w1.cell? ⟨q, 2, none⟩ = some (.string s) from HT1.out.cells)
  go_upto_region 5 with (first
    | (go_at_call 5; ((with_reducible refine (HOK.out _).mono ?_); rintro e w2 ⟨⟨vn, rfl, ⟨gn, rfl⟩, hs⟩, hb⟩; have HSV2 := Lib.hid hs; have HB2 := Lib.hid (show Aft w1 w2 from hb); clear hs hb)))
  clear t0 t1 t2
  have HT3 := Lib.hid (HT1.out.over (HB2.out.allocR (.cells #[.bool false, .int .i64 0, .slice (some ⟨gn, 0, none⟩) 1 1] 27)))
  have HN3 := Lib.hid (AgAt.new w2 false 0 (.slice (some ⟨gn, 0, none⟩) 1 1))
  have HSV3 := Lib.hid (HSV2.out.next (Aft.alloc w2 (.cells #[.bool false, .int .i64 0, .slice (some ⟨gn, 0, none⟩) 1 1] 27)))
  have HBW := Lib.hid ((HB1.out.trans HB2.out).allocR (.cells #[.bool false, .int .i64 0, .slice (some ⟨gn, 0, none⟩) 1 1] 27))
  have hqlt := HT3.out.lt
  have hqnlt := HN3.out.lt
  generalize w2.heap.size = qn at HN3 hqnlt ⊢
  generalize w2.alloc (.cells #[.bool false, .int .i64 0, .slice (some ⟨gn, 0, none⟩) 1 1] 27) = w3 at HT3 HN3 HSV3 HBW hqlt hqnlt ⊢
  clear HT1 HB1 HB2 HSV2 HOK
  have HCELL := Lib.hid (fun (W : World) (hW : Aft w3 W) => (show W.cell? ⟨q, 0, none⟩ = some (.int .i64 2) ∧ W.cell? ⟨q, 1, none⟩ = some (.int .i64 0) ∧ W.cell? ⟨q, 2, none⟩ = some (.string s) ∧ W.cell? ⟨qn, 0, none⟩ = some (.bool false) ∧ W.cell? ⟨qn, 1, none⟩ = some (.int .i64 0) ∧ W.cell? ⟨qn, 2, none⟩ = some (.slice (some ⟨gn, 0, none⟩) 1 1) ∧ q ≠ W.heap.size ∧ qn ≠ W.heap.size ∧ W.heap.size ≠ q ∧ W.heap.size ≠ qn from
    have h1 := (HT3.out.over hW).cells
    have h2 := (HN3.out.over hW).cells
    have h3 := hW.size
    ⟨h1.1, h1.2.1, h1.2.2, h2.1, h2.2.1, h2.2.2, by omega, by omega, by omega, by omega⟩))
  have HNE := Lib.hid (fun (r : Nat) (hr : w3.heap.size ≤ r) => (show q ≠ r ∧ qn ≠ r ∧ r ≠ q ∧ r ≠ qn from ⟨by omega, by omega, by omega, by omega⟩))
  have HSN := Lib.hid (fun (W : World) (hW : Aft w3 W) => SV.next HSV3.out hW)
  go_cut [11, 12] (fun p11 p12 wx => ∃ (wu : World) (r z : Nat), wu = wx ∧ p11 = .pointer (some ⟨r, 0, none⟩) ∧ p12 = .pointer (some ⟨z, 0, none⟩) ∧ Hid (VlAt wu r (Vl.text lt) ∧ VlAt wu z (Vl.text rt) ∧ Below w3.heap.size w3 wu))
  case first =>
    refine wp_region_steps (fun j => decide (j < 12)) [10, 11] Aft (T5 s lt rt k (.slice (some ⟨gn, 0, none⟩) 1 1) w3) _ _ [some 33, some 34, some 35, some 36, some 37, some 38, some 39, some 40, some 41, some 42, some 11, some 12, none, none] 4 rfl (by kernel_rfl) rfl (by rfl) (by decide +kernel) (fun _ _ _ h g => h.trans g) Aft.refl (T5.stable s lt rt _ _ _) (T5.fresh s lt rt _ _ _) ?step ?fin
    case step =>
     intro i oi hi hm x W hR hd
     have hc : i < 12 := of_decide_eq_true hm
     have hR3 : Aft w3 W := (Aft.drewR (Aft.refl _)).trans hR
     obtain ⟨a0, a1, a2, b0, b1, b2, n0, n1, n2, n3⟩ := HCELL.out W hR3
     have h12 : i = 0 ∨ i = 1 ∨ i = 2 ∨ i = 3 ∨ i = 4 ∨ i = 5 ∨ i = 6 ∨ i = 7 ∨ i = 8 ∨ i = 9 ∨ i = 10 ∨ i = 11 := by omega
     clear hm hc
     rcases h12 with rfl | rfl | rfl | rfl | rfl | rfl | rfl | rfl | rfl | rfl | rfl | rfl
     · simp only [List.getElem?_toArray, List.getElem?_cons_zero, Option.some.injEq] at hi
       subst hi
       rw [if_pos (show Region.wanted _ _ = true from rfl)]
       intro K hK
       simp only [putsAt, Act.put, List.setIfInBounds_toArray, List.set_cons_zero, List.set_cons_succ, Nat.reduceAdd, Nat.zero_add] at hK ⊢
       go_simp
       exact hK.out _ _ (fun h => by cases h) (Aft.refl _) rfl (fun h => absurd h (by decide))
     · simp only [List.getElem?_toArray, List.getElem?_cons_zero, List.getElem?_cons_succ, Option.some.injEq] at hi
       subst hi
       rw [if_pos (show Region.wanted _ _ = true from rfl)]
       intro K hK
       have t0 : x 0 = .agg #[.int .i64 2, .int .i64 0, .string s] := hd 0 (by decide +kernel) (by decide)
       simp only [putsAt, Act.put, List.setIfInBounds_toArray, List.set_cons_zero, List.set_cons_succ, Nat.reduceAdd, Nat.zero_add, t0] at hK ⊢
       go_simp
       go_at_call 5
       refine (HOT.out _).mono ?_
       rintro e wa ⟨⟨va, rfl, ⟨ga, rfl⟩, hs⟩, hb⟩
       exact hK.out _ _ (fun h => by cases h) hb ⟨ga, rfl, hs⟩ (fun h => absurd h (by decide))
     · simp only [List.getElem?_toArray, List.getElem?_cons_zero, List.getElem?_cons_succ, Option.some.injEq] at hi
       subst hi
       rw [if_pos (show Region.wanted _ _ = true from rfl)]
       intro K hK
       simp only [putsAt, Act.put, List.setIfInBounds_toArray, List.set_cons_zero, List.set_cons_succ, Nat.reduceAdd, Nat.zero_add] at hK ⊢
       go_simp
       exact hK.out _ _ (fun h => by cases h) (Aft.refl _) rfl (fun h => absurd h (by decide))
     · simp only [List.getElem?_toArray, List.getElem?_cons_zero, List.getElem?_cons_succ, Option.some.injEq] at hi
       subst hi
       rw [if_pos (show Region.wanted _ _ = true from rfl)]
       intro K hK
       obtain ⟨g1, e1, h1⟩ := (hd 1 (by decide +kernel) (by decide) : T5 s lt rt k (.slice (some ⟨gn, 0, none⟩) 1 1) w3 1 (x 1) W)
       have t2 : x 2 = .agg #[.bool false, .int .i64 0, .slice (some ⟨gn, 0, none⟩) 1 1] := hd 2 (by decide +kernel) (by decide)
       simp only [putsAt, Act.put, List.setIfInBounds_toArray, List.set_cons_zero, List.set_cons_succ, Nat.reduceAdd, Nat.zero_add, e1, t2] at hK ⊢
       go_simp
       exact hK.out _ _ (fun h => by cases h) (Aft.alloc _ _) ⟨_, sa_two _ (Vl.text s) (Vl.num (k : Int)) _ _ _ _ rfl (SV.next h1 (Aft.refl _)) (HSN.out _ hR3)⟩ (fun h => absurd h (by decide))
     · simp only [List.getElem?_toArray, List.getElem?_cons_zero, List.getElem?_cons_succ, Option.some.injEq] at hi
       subst hi
       rw [if_pos (show Region.wanted _ _ = true from rfl)]
       intro K hK
       obtain ⟨u3, h3⟩ := (hd 3 (by decide +kernel) (by decide) : T5 s lt rt k (.slice (some ⟨gn, 0, none⟩) 1 1) w3 3 (x 3) W)
       simp only [putsAt, Act.put, List.setIfInBounds_toArray, List.set_cons_zero, List.set_cons_succ, Nat.reduceAdd, Nat.zero_add] at hK ⊢
       go_simp
       go_at_call 6
       refine (HCL.out _ _ _ _ (HBW.out.trans hR3) h3).mono ?_
       rintro e wl ⟨rfl, hb⟩
       exact hK.out _ _ (fun h => by cases h) hb rfl (fun h => absurd h (by decide))
     · simp only [List.getElem?_toArray, List.getElem?_cons_zero, List.getElem?_cons_succ, Option.some.injEq] at hi
       subst hi
       rw [if_pos (show Region.wanted _ _ = true from rfl)]
       intro K hK
       simp only [putsAt, Act.put, List.setIfInBounds_toArray, List.set_cons_zero, List.set_cons_succ, Nat.reduceAdd, Nat.zero_add] at hK ⊢
       go_simp
       exact hK.out _ _ (fun h => by cases h) (Aft.refl _) rfl (fun h => absurd h (by decide))
     · simp only [List.getElem?_toArray, List.getElem?_cons_zero, List.getElem?_cons_succ, Option.some.injEq] at hi
       subst hi
       rw [if_pos (show Region.wanted _ _ = true from rfl)]
       intro K hK
       have t0 : x 5 = .agg #[.int .i64 2, .int .i64 0, .string s] := hd 5 (by decide +kernel) (by decide)
       simp only [putsAt, Act.put, List.setIfInBounds_toArray, List.set_cons_zero, List.set_cons_succ, Nat.reduceAdd, Nat.zero_add, t0] at hK ⊢
       go_simp
       go_at_call 5
       refine (HOT.out _).mono ?_
       rintro e wa ⟨⟨va, rfl, ⟨ga, rfl⟩, hs⟩, hb⟩
       exact hK.out _ _ (fun h => by cases h) hb ⟨ga, rfl, hs⟩ (fun h => absurd h (by decide))
     · simp only [List.getElem?_toArray, List.getElem?_cons_zero, List.getElem?_cons_succ, Option.some.injEq] at hi
       subst hi
       rw [if_pos (show Region.wanted _ _ = true from rfl)]
       intro K hK
       simp only [putsAt, Act.put, List.setIfInBounds_toArray, List.set_cons_zero, List.set_cons_succ, Nat.reduceAdd, Nat.zero_add] at hK ⊢
       go_simp
       exact hK.out _ _ (fun h => by cases h) (Aft.refl _) rfl (fun h => absurd h (by decide))
     · simp only [List.getElem?_toArray, List.getElem?_cons_zero, List.getElem?_cons_succ, Option.some.injEq] at hi
       subst hi
       rw [if_pos (show Region.wanted _ _ = true from rfl)]
       intro K hK
       obtain ⟨g1, e1, h1⟩ := (hd 6 (by decide +kernel) (by decide) : T5 s lt rt k (.slice (some ⟨gn, 0, none⟩) 1 1) w3 6 (x 6) W)
       have t2 : x 7 = .agg #[.bool false, .int .i64 0, .slice (some ⟨gn, 0, none⟩) 1 1] := hd 7 (by decide +kernel) (by decide)
       simp only [putsAt, Act.put, List.setIfInBounds_toArray, List.set_cons_zero, List.set_cons_succ, Nat.reduceAdd, Nat.zero_add, e1, t2] at hK ⊢
       go_simp
       exact hK.out _ _ (fun h => by cases h) (Aft.alloc _ _) ⟨_, sa_two _ (Vl.text s) (Vl.num (k : Int)) _ _ _ _ rfl (SV.next h1 (Aft.refl _)) (HSN.out _ hR3)⟩ (fun h => absurd h (by decide))
     · simp only [List.getElem?_toArray, List.getElem?_cons_zero, List.getElem?_cons_succ, Option.some.injEq] at hi
       subst hi
       rw [if_pos (show Region.wanted _ _ = true from rfl)]
       intro K hK
       obtain ⟨u3, h3⟩ := (hd 8 (by decide +kernel) (by decide) : T5 s lt rt k (.slice (some ⟨gn, 0, none⟩) 1 1) w3 8 (x 8) W)
       simp only [putsAt, Act.put, List.setIfInBounds_toArray, List.set_cons_zero, List.set_cons_succ, Nat.reduceAdd, Nat.zero_add] at hK ⊢
       go_simp
       go_at_call 6
       refine (HCR.out _ _ _ _ (HBW.out.trans hR3) h3).mono ?_
       rintro e wl ⟨rfl, hb⟩
       exact hK.out _ _ (fun h => by cases h) hb rfl (fun h => absurd h (by decide))
     · simp only [List.getElem?_toArray, List.getElem?_cons_zero, List.getElem?_cons_succ, Option.some.injEq] at hi
       subst hi
       rw [if_pos (show Region.wanted _ _ = true from rfl)]
       intro K hK
       simp only [putsAt, Act.put, List.setIfInBounds_toArray, List.set_cons_zero, List.set_cons_succ, Nat.reduceAdd, Nat.zero_add] at hK ⊢
       go_simp
       exact hK.out _ _ (fun h => by cases h) (Aft.alloc _ _) ⟨_, rfl, VlAt.zero W, hR3.size⟩ (fun _ => ⟨_, rfl, Nat.le_refl _⟩)
     · simp only [List.getElem?_toArray, List.getElem?_cons_zero, List.getElem?_cons_succ, Option.some.injEq] at hi
       subst hi
       rw [if_pos (show Region.wanted _ _ = true from rfl)]
       intro K hK
       simp only [putsAt, Act.put, List.setIfInBounds_toArray, List.set_cons_zero, List.set_cons_succ, Nat.reduceAdd, Nat.zero_add] at hK ⊢
       go_simp
       exact hK.out _ _ (fun h => by cases h) (Aft.alloc _ _) ⟨_, rfl, VlAt.zero W, hR3.size⟩ (fun _ => ⟨_, rfl, Nat.le_refl _⟩)
    case fin =>
     intro x W hR hd hne
     have hR3 : Aft w3 W := (Aft.drewR (Aft.refl _)).trans hR
     have t4 : x 4 = .agg #[.int .i64 2, .int .i64 0, .string lt] := hd 4 (by decide) rfl
     have t9 : x 9 = .agg #[.int .i64 2, .int .i64 0, .string rt] := hd 9 (by decide) rfl
     obtain ⟨r, tr, h1, h2⟩ := (hd 10 (by decide) rfl : T5 s lt rt k (.slice (some ⟨gn, 0, none⟩) 1 1) w3 10 (x 10) W)
     obtain ⟨z, tz, h3, h4⟩ := (hd 11 (by decide) rfl : T5 s lt rt k (.slice (some ⟨gn, 0, none⟩) 1 1) w3 11 (x 11) W)
     have hrz : r ≠ z := fun e => hne 10 (by decide) 11 (by decide) (by decide) rfl rfl (by decide) (by decide) (by rw [tr, tz, e])
     have HZ := Lib.hid (show ZG w3 [r, z] W from ⟨hR3, by simp [hrz], by
       intro y hy
       simp only [List.mem_cons, List.not_mem_nil, or_false] at hy
       rcases hy with rfl | rfl
       · exact ⟨h1, h2⟩
       · exact ⟨h3, h4⟩⟩)
     obtain ⟨c0, c1, c2⟩ := h1.cells
     obtain ⟨m0, m1, m2⟩ := h1.melts
     obtain ⟨d0, d1, d2⟩ := h3.cells
     obtain ⟨p0, p1, p2⟩ := h3.melts
     have hzr := hrz.symm
     clear hd hne hR
     show wpAny _ _ _ _ 2 #[true, true, true, true, true, true, true, true, true, true, true, true, false, false] _ _
     refine wpAny_of_held (S := fun _ => True) 2 _ _ _ ?_
     simp only [putsAt, Act.put, List.setIfInBounds_toArray, List.set_cons_zero, List.set_cons_succ, Nat.reduceAdd, Nat.zero_add, t4, t9, tr, tz]
     refine held_one (i := 12) (d := none) (fuel := 1) (listed' := #[true, true, true, true, true, true, true, true, true, true, true, true, true, false]) rfl rfl (by kernel_rfl) rfl (by rfl) (fun K hK => ?_)
     go_simp
     refine hK.out undef _ trivial ?_
     clear hK K
     simp only [Act.put]
     refine held_one (i := 13) (d := none) (fuel := 0) (listed' := #[true, true, true, true, true, true, true, true, true, true, true, true, true, true]) rfl rfl (by kernel_rfl) rfl (by rfl) (fun K hK => ?_)
     go_simp
     refine hK.out undef _ trivial ?_
     clear hK K
     simp only [Act.put]
     refine wpAnyH_done (by kernel_rfl) ?_ _
     go_wp2_with fail
     go_meet
     refine ⟨_, _, _, rfl, rfl, rfl, Lib.hid ?_⟩
     exact ZG.done HZ.out (Vl.text lt) (Vl.text rt)
  case rest =>
  obtain ⟨w4, b11, b12, rfl, rfl, rfl, hl⟩ := hcut
  have HL4 := Lib.hid hl.out.1; have HR4 := Lib.hid hl.out.2.1
  have hb4 : Aft w3 w4 := hl.out.2.2
  have HT4 := Lib.hid (HT3.out.over hb4); have HN4 := Lib.hid (HN3.out.over hb4); have HSV4 := Lib.hid (HSV3.out.next hb4)
  have HBX := Lib.hid (HBW.out.trans hb4)
  have hql4 := HT4.out.lt
  have hqn4 := HN4.out.lt
  clear hl hb4 HT3 HN3 HSV3 HBW hqlt hqnlt HCELL HNE HSN HCL HCR
  go_upto_region 6 with (fail)
  have HCELL := Lib.hid (fun (W : World) (hW : Aft w4 W) => (show W.cell? ⟨q, 0, none⟩ = some (.int .i64 2) ∧ W.cell? ⟨q, 1, none⟩ = some (.int .i64 0) ∧ W.cell? ⟨q, 2, none⟩ = some (.string s) ∧ W.cell? ⟨qn, 0, none⟩ = some (.bool false) ∧ W.cell? ⟨qn, 1, none⟩ = some (.int .i64 0) ∧ W.cell? ⟨qn, 2, none⟩ = some (.slice (some ⟨gn, 0, none⟩) 1 1) ∧ q ≠ W.heap.size ∧ qn ≠ W.heap.size ∧ W.heap.size ≠ q ∧ W.heap.size ≠ qn from
    have h1 := (HT4.out.over hW).cells
    have h2 := (HN4.out.over hW).cells
    have h3 := hW.size
    ⟨h1.1, h1.2.1, h1.2.2, h2.1, h2.2.1, h2.2.2, by omega, by omega, by omega, by omega⟩))
  have HNE := Lib.hid (fun (r : Nat) (hr : w4.heap.size ≤ r) => (show q ≠ r ∧ qn ≠ r ∧ r ≠ q ∧ r ≠ qn from ⟨by omega, by omega, by omega, by omega⟩))
  have HSN := Lib.hid (fun (W : World) (hW : Aft w4 W) => SV.next HSV4.out hW)
  go_cut [13] (fun p13 wx => ∃ (wu : World) (r : Nat), wu = wx ∧ p13 = .pointer (some ⟨r, 0, none⟩) ∧ Hid (VlAt wu r (Vl.text md) ∧ Aft w4 wu))
  case first =>
    refine wp_region_steps (fun j => decide (j < 9)) [8] Aft (T6 s md k f (.slice (some ⟨gn, 0, none⟩) 1 1) w4) _ _ [some 43, some 44, some 45, some 46, some 47, some 48, some 49, some 50, some 13, none] 5 rfl (by kernel_rfl) rfl (by rfl) (by decide +kernel) (fun _ _ _ h g => h.trans g) Aft.refl (T6.stable s md _ _ _ _) (T6.fresh s md _ _ _ _) ?step ?fin
    case step =>
     intro i oi hi hm x W hR hd
     have hc : i < 9 := of_decide_eq_true hm
     have hR3 : Aft w4 W := (Aft.drewR (Aft.refl _)).trans hR
     obtain ⟨a0, a1, a2, b0, b1, b2, n0, n1, n2, n3⟩ := HCELL.out W hR3
     have h12 : i = 0 ∨ i = 1 ∨ i = 2 ∨ i = 3 ∨ i = 4 ∨ i = 5 ∨ i = 6 ∨ i = 7 ∨ i = 8 := by omega
     clear hm hc
     rcases h12 with rfl | rfl | rfl | rfl | rfl | rfl | rfl | rfl | rfl
     · simp only [List.getElem?_toArray, List.getElem?_cons_zero, Option.some.injEq] at hi
       subst hi
       rw [if_pos (show Region.wanted _ _ = true from rfl)]
       intro K hK
       simp only [putsAt, Act.put, List.setIfInBounds_toArray, List.set_cons_zero, List.set_cons_succ, Nat.reduceAdd, Nat.zero_add] at hK ⊢
       go_simp
       exact hK.out _ _ (fun h => by cases h) (Aft.refl _) rfl (fun h => absurd h (by decide))
     · simp only [List.getElem?_toArray, List.getElem?_cons_zero, List.getElem?_cons_succ, Option.some.injEq] at hi
       subst hi
       rw [if_pos (show Region.wanted _ _ = true from rfl)]
       intro K hK
       have t0 : x 0 = .agg #[.int .i64 2, .int .i64 0, .string s] := hd 0 (by decide +kernel) (by decide)
       simp only [putsAt, Act.put, List.setIfInBounds_toArray, List.set_cons_zero, List.set_cons_succ, Nat.reduceAdd, Nat.zero_add, t0] at hK ⊢
       go_simp
       go_at_call 5
       refine (HOT.out _).mono ?_
       rintro e wa ⟨⟨va, rfl, ⟨ga, rfl⟩, hs⟩, hb⟩
       exact hK.out _ _ (fun h => by cases h) hb ⟨ga, rfl, hs⟩ (fun h => absurd h (by decide))
     · simp only [List.getElem?_toArray, List.getElem?_cons_zero, List.getElem?_cons_succ, Option.some.injEq] at hi
       subst hi
       rw [if_pos (show Region.wanted _ _ = true from rfl)]
       intro K hK
       simp only [putsAt, Act.put, List.setIfInBounds_toArray, List.set_cons_zero, List.set_cons_succ, Nat.reduceAdd, Nat.zero_add] at hK ⊢
       go_simp
       exact hK.out _ _ (fun h => by cases h) (Aft.refl _) rfl (fun h => absurd h (by decide))
     · simp only [List.getElem?_toArray, List.getElem?_cons_zero, List.getElem?_cons_succ, Option.some.injEq] at hi
       subst hi
       rw [if_pos (show Region.wanted _ _ = true from rfl)]
       intro K hK
       have t2 : x 2 = .int .i64 (1 + (f : Int)) := hd 2 (by decide +kernel) (by decide)
       simp only [putsAt, Act.put, List.setIfInBounds_toArray, List.set_cons_zero, List.set_cons_succ, Nat.reduceAdd, Nat.zero_add, t2] at hK ⊢
       go_simp
       exact hK.out _ _ (fun h => by cases h) (Aft.refl _) rfl (fun h => absurd h (by decide))
     · simp only [List.getElem?_toArray, List.getElem?_cons_zero, List.getElem?_cons_succ, Option.some.injEq] at hi
       subst hi
       rw [if_pos (show Region.wanted _ _ = true from rfl)]
       intro K hK
       have t3 : x 3 = .agg #[.int .i64 1, .int .i64 (1 + (f : Int)), .string ⟨#[]⟩] := hd 3 (by decide +kernel) (by decide)
       simp only [putsAt, Act.put, List.setIfInBounds_toArray, List.set_cons_zero, List.set_cons_succ, Nat.reduceAdd, Nat.zero_add, t3] at hK ⊢
       go_simp
       go_at_call 5
       refine (HOP.out _).mono ?_
       rintro e wa ⟨⟨va, rfl, ⟨ga, rfl⟩, hs⟩, hb⟩
       exact hK.out _ _ (fun h => by cases h) hb ⟨ga, rfl, hs⟩ (fun h => absurd h (by decide))
     · simp only [List.getElem?_toArray, List.getElem?_cons_zero, List.getElem?_cons_succ, Option.some.injEq] at hi
       subst hi
       rw [if_pos (show Region.wanted _ _ = true from rfl)]
       intro K hK
       simp only [putsAt, Act.put, List.setIfInBounds_toArray, List.set_cons_zero, List.set_cons_succ, Nat.reduceAdd, Nat.zero_add] at hK ⊢
       go_simp
       exact hK.out _ _ (fun h => by cases h) (Aft.refl _) rfl (fun h => absurd h (by decide))
     · simp only [List.getElem?_toArray, List.getElem?_cons_zero, List.getElem?_cons_succ, Option.some.injEq] at hi
       subst hi
       rw [if_pos (show Region.wanted _ _ = true from rfl)]
       intro K hK
       obtain ⟨g1, e1, h1⟩ := (hd 1 (by decide +kernel) (by decide) : T6 s md k f (.slice (some ⟨gn, 0, none⟩) 1 1) w4 1 (x 1) W)
       obtain ⟨g4, e4, h4⟩ := (hd 4 (by decide +kernel) (by decide) : T6 s md k f (.slice (some ⟨gn, 0, none⟩) 1 1) w4 4 (x 4) W)
       have t5 : x 5 = .agg #[.bool false, .int .i64 0, .slice (some ⟨gn, 0, none⟩) 1 1] := hd 5 (by decide +kernel) (by decide)
       simp only [putsAt, Act.put, List.setIfInBounds_toArray, List.set_cons_zero, List.set_cons_succ, Nat.reduceAdd, Nat.zero_add, e1, e4, t5] at hK ⊢
       go_simp
       exact hK.out _ _ (fun h => by cases h) (Aft.alloc _ _) ⟨_, _, sa_three _ (Vl.text s) (Vl.num (1 + (f : Int))) (Vl.num (k : Int)) _ _ _ _ _ rfl (SV.next h1 (Aft.refl _)) (SV.next h4 (Aft.refl _)) (HSN.out _ hR3)⟩ (fun h => absurd h (by decide))
     · simp only [List.getElem?_toArray, List.getElem?_cons_zero, List.getElem?_cons_succ, Option.some.injEq] at hi
       subst hi
       rw [if_pos (show Region.wanted _ _ = true from rfl)]
       intro K hK
       obtain ⟨u3, y3, h3⟩ := (hd 6 (by decide +kernel) (by decide) : T6 s md k f (.slice (some ⟨gn, 0, none⟩) 1 1) w4 6 (x 6) W)
       simp only [putsAt, Act.put, List.setIfInBounds_toArray, List.set_cons_zero, List.set_cons_succ, Nat.reduceAdd, Nat.zero_add] at hK ⊢
       go_simp
       go_at_call 6
       refine (HCM.out _ _ _ _ _ (HBX.out.trans hR3) h3).mono ?_
       rintro e wl ⟨rfl, hb⟩
       exact hK.out _ _ (fun h => by cases h) hb rfl (fun h => absurd h (by decide))
     · simp only [List.getElem?_toArray, List.getElem?_cons_zero, List.getElem?_cons_succ, Option.some.injEq] at hi
       subst hi
       rw [if_pos (show Region.wanted _ _ = true from rfl)]
       intro K hK
       simp only [putsAt, Act.put, List.setIfInBounds_toArray, List.set_cons_zero, List.set_cons_succ, Nat.reduceAdd, Nat.zero_add] at hK ⊢
       go_simp
       exact hK.out _ _ (fun h => by cases h) (Aft.alloc _ _) ⟨_, rfl, VlAt.zero W, hR3.size⟩ (fun _ => ⟨_, rfl, Nat.le_refl _⟩)
    case fin =>
     intro x W hR hd hne
     have hR3 : Aft w4 W := (Aft.drewR (Aft.refl _)).trans hR
     have t7 : x 7 = .agg #[.int .i64 2, .int .i64 0, .string md] := hd 7 (by decide) rfl
     obtain ⟨r, tr, h1, h2⟩ := (hd 8 (by decide) rfl : T6 s md k f (.slice (some ⟨gn, 0, none⟩) 1 1) w4 8 (x 8) W)
     have HZ := Lib.hid (show ZG w4 [r] W from ⟨hR3, by simp, by
       intro y hy
       obtain rfl := List.mem_singleton.1 hy
       exact ⟨h1, h2⟩⟩)
     obtain ⟨c0, c1, c2⟩ := h1.cells
     obtain ⟨m0, m1, m2⟩ := h1.melts
     clear hd hne hR
     show wpAny _ _ _ _ 1 #[true, true, true, true, true, true, true, true, true, false] _ _
     refine wpAny_of_held (S := fun _ => True) 1 _ _ _ ?_
     simp only [putsAt, Act.put, List.setIfInBounds_toArray, List.set_cons_zero, List.set_cons_succ, Nat.reduceAdd, Nat.zero_add, t7, tr]
     refine held_one (i := 9) (d := none) (fuel := 0) (listed' := #[true, true, true, true, true, true, true, true, true, true]) rfl rfl (by kernel_rfl) rfl (by rfl) (fun K hK => ?_)
     go_simp
     refine hK.out undef _ trivial ?_
     clear hK K
     simp only [Act.put]
     refine wpAnyH_done (by kernel_rfl) ?_ _
     go_wp2_with fail
     go_meet
     refine ⟨_, _, rfl, rfl, Lib.hid ?_⟩
     exact ZG.put1 HZ.out (Vl.text md)
  case rest =>
  obtain ⟨w5, b13, rfl, rfl, hl⟩ := hcut
  have hb5 : Aft w4 w5 := hl.out.2
  have HM5 := Lib.hid hl.out.1; have HL5 := Lib.hid (HL4.out.over hb5); have HR5 := Lib.hid (HR4.out.over hb5); have HT5 := Lib.hid (HT4.out.over hb5)
  have HBY := Lib.hid (HBX.out.trans hb5)
  clear hl hb5 HT4 HN4 HSV4 HBX HCELL HNE HSN HCM HOP HL4 HR4 hql4 hqn4
  obtain ⟨i, fr, tt, j, hi, hfr, hto, hj, mi, mf, mt, e1, e2, e3, i1, j1, f1, f2⟩ := tx_all k f s.size hk60 hf60 hs2
  have e1' : IntKind.i64.wrap (1 + (f : Int) - 1) = (f : Int) := (IntWalk.i64_left _).trans e1
  have e2' : IntKind.i64.wrap ((fr : Int) + (k : Int)) = (fr : Int) + (k : Int) := (IntWalk.i64_left _).trans e2
  have e3' : IntKind.i64.wrap ((s.size : Int) - (i : Int)) = (j : Int) := (IntWalk.i64_left _).trans e3
  have i0 : (0 : Int) ≤ (i : Int) := Int.natCast_nonneg i
  have j0 : (0 : Int) ≤ (j : Int) := Int.natCast_nonneg j
  have f0 : (0 : Int) ≤ (fr : Int) := Int.natCast_nonneg fr
  have xl : s.extract 0 i = lt := by rw [← hi]; exact HLT.out
  have xr : s.extract j s.size = rt := by rw [← hj, ← hi]; exact HRT.out
  have xm : s.extract fr tt = md := by rw [← hto, ← hfr]; exact HMD.out
  have HCELL := Lib.hid (fun (W : World) (hW : Aft w5 W) => (show W.cell? ⟨q, 0, none⟩ = some (.int .i64 2) ∧ W.cell? ⟨q, 1, none⟩ = some (.int .i64 0) ∧ W.cell? ⟨q, 2, none⟩ = some (.string s) ∧ W.cell? ⟨b11, 0, none⟩ = some (.int .i64 2) ∧ W.cell? ⟨b11, 2, none⟩ = some (.string lt) ∧ W.cell? ⟨b12, 2, none⟩ = some (.string rt) ∧ W.cell? ⟨b13, 2, none⟩ = some (.string md) from
    have h1 := (HT5.out.over hW).cells
    have h2 := (HL5.out.over hW).cells
    have h3 := (HR5.out.over hW).cells
    have h4 := (HM5.out.over hW).cells
    ⟨h1.1, h1.2.1, h1.2.2, h2.1, h2.2.2, h3.2.2, h4.2.2⟩))
  clear hi hfr hto hj
  go_upto_region 10 with (fail)
  have hvn := run_val_n
  have en : ∀ z : Int, (Vl.num z).n = z := fun _ => rfl
  have HS := Lib.hid (show Aft w5 w5.drew from Aft.drewR (Aft.refl _))
  obtain ⟨a0, a1, a2, a3, a4, a5, a6⟩ := HCELL.out _ HS.out
  obtain ⟨c0, c1, c2, c3, c4, c5, c6⟩ := HCELL.out _ (Aft.refl w5)
  go_region_held3 (fun w' => w'.cell? ⟨q, 0, none⟩ = some (.int .i64 2) ∧ w'.cell? ⟨q, 1, none⟩ = some (.int .i64 0) ∧ w'.cell? ⟨q, 2, none⟩ = some (.string s) ∧ w'.cell? ⟨b11, 0, none⟩ = some (.int .i64 2) ∧ w'.cell? ⟨b11, 2, none⟩ = some (.string lt) ∧ w'.cell? ⟨b12, 2, none⟩ = some (.string rt) ∧ w'.cell? ⟨b13, 2, none⟩ = some (.string md)) (go_keep) (first
    | (go_at_call 5; ((with_reducible refine (HOT.out _).mono ?_); rintro e wa ⟨⟨va, rfl, ⟨ga, rfl⟩, hs⟩, hb⟩; have HVt := Lib.hid (fun (W : World) (hW : Aft wa W) => SV.next hs hW); replace HS := Lib.hid (HS.out.trans hb); obtain ⟨a0, a1, a2, a3, a4, a5, a6⟩ := HCELL.out _ HS.out; clear hs hb))
    | (go_at_call 6; ((with_reducible refine (HCN.out _ _ _ ((HBY.out.trans HS.out).allocR _) (sa_one _ (Vl.text s) _ _ _ rfl (HVt.out _ (Aft.refl _)))).mono ?_); rintro e wl ⟨rfl, hb⟩; replace HS := Lib.hid ((HS.out.allocR _).trans hb); obtain ⟨a0, a1, a2, a3, a4, a5, a6⟩ := HCELL.out _ HS.out; clear hb))
    | (go_at_call 4; ((with_reducible refine (HAWK.out _ (HBY.out.trans HS.out)).mono ?_); rintro e wk ⟨rfl, hb⟩; replace HS := Lib.hid (HS.out.trans hb); obtain ⟨a0, a1, a2, a3, a4, a5, a6⟩ := HCELL.out _ HS.out; clear hb)))
  all_goals go_wp2_with fail
  all_goals go_ret
  all_goals exact ⟨by rfl, HBY.out.trans HS.out⟩
theorem funTexts_any (s : ByteArray) (n p : Int) (n0 : 0 ≤ n) (n1 : n ≤ 255) (p0 : 0 ≤ p) (p1 : p ≤ 255) (w : World) (ht : Tab w) (he : EtV w) : Calls Tryd.prog 3 #[.string s, .int .u8 n, .int .u8 p] w fun e w' => e = .returned (.bool true) ∧ Below w.heap.size w w' := by
  by_cases hs : s.size ≤ 200
  · exact funTexts_main s n p n0 n1 p0 p1 hs w ht he
  · have hgt : (s.size : Int) > 200 := by omega
    have HA := Lib.hid (awake8_any w ht he)
    clear ht he hs
    go_enter Tryd.func3, Tryd.ntmps3
    go_wp2_with (first
      | (go_at_call 4; ((with_reducible refine HA.out.mono ?_); rintro e w1 ⟨rfl, hb⟩; have HB := Lib.hid hb; clear hb)))
    go_ret
    exact ⟨by rfl, HB.out⟩
end Go.Proofs.YtolhmemiknpeaaaDoor
