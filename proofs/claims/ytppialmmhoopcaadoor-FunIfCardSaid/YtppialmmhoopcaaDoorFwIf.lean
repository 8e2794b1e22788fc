/-
  Layer 8, the law: IF.
-/
import Derived.Test.YtppialmmhoopcaaDoorFwIfU
import Derived.Deep.DeepCutAuto
namespace Go.Proofs.YtppialmmhoopcaaDoor
open Go.RowKit

set_option maxRecDepth 100000 in
set_option maxHeartbeats 16000000 in
theorem funIf_main (c k l n : Int) (c0 : 0 ≤ c) (c1 : c ≤ 255) (k0 : 0 ≤ k) (k1 : k ≤ 255) (l0 : 0 ≤ l) (l1 : l ≤ 255) (n0 : -9223372036854775808 ≤ n) (n1 : n ≤ 9223372036854775807) (w : World) (ht : Tab w) (he : EtV w) : Calls Tryd.prog 4 #[.int .u8 c, .int .u8 k, .int .u8 l, .int .i64 n] w fun e w' => e = .returned (.bool true) ∧ Below w.heap.size w w' := by
  have t3 := tdiv_in n 3 n0 n1 (by decide) (by decide)
  have t5 := tdiv_in n 5 n0 n1 (by decide) (by decide)
  have hx := ok_make (c % 5) n ⟨#[116]⟩ n0 n1
  have hy := ok_make (k % 5) (n.tdiv 3) ⟨#[117]⟩ t3.1 t3.2
  have hz := ok_make (l % 5) (n.tdiv 5) ⟨#[119]⟩ t5.1 t5.2
  have HMX := Lib.hid (fun (W : World) => make_any c n ⟨#[116]⟩ c0 c1 W)
  have HMY := Lib.hid (fun (W : World) => make_any k (n.tdiv 3) ⟨#[117]⟩ k0 k1 W)
  have HMZ := Lib.hid (fun (W : World) => make_any l (n.tdiv 5) ⟨#[119]⟩ l0 l1 W)
  have hc5 : c % 5 = 0 ∨ c % 5 = 1 ∨ c % 5 = 2 ∨ c % 5 = 3 ∨ c % 5 = 4 := by omega
  obtain ⟨x, hxx⟩ : ∃ x, makeV (c % 5) n ⟨#[116]⟩ = x := ⟨_, rfl⟩
  obtain ⟨y, hyy⟩ : ∃ y, makeV (k % 5) (n.tdiv 3) ⟨#[117]⟩ = y := ⟨_, rfl⟩
  obtain ⟨z, hzz⟩ : ∃ z, makeV (l % 5) (n.tdiv 5) ⟨#[119]⟩ = z := ⟨_, rfl⟩
  rw [hxx] at HMX hx
  rw [hyy] at HMY hy
  rw [hzz] at HMZ hz
  have HXX := Lib.hid hxx
  have ew3 : wrap64 (n.tdiv 3) = n.tdiv 3 := by unfold wrap64; omega
  have ew5 : wrap64 (n.tdiv 5) = n.tdiv 5 := by unfold wrap64; omega
  have HOx := Lib.hid (fun (W : World) => one_any x W)
  have HOy := Lib.hid (fun (W : World) => one_any y W)
  have HOz := Lib.hid (fun (W : World) => one_any z W)
  have HAZ3 := Lib.hid (fun (u v t : Value) => az_three x y z u v t hx hy hz)
  have HAZ2 := Lib.hid (fun (u v : Value) => az_two x y u v hx hy)
  obtain ⟨vv, hvv⟩ : ∃ vv, ifV x y z = vv := ⟨_, rfl⟩
  obtain ⟨ww, hww⟩ : ∃ ww, ifV x y (Vl.truth false) = ww := ⟨_, rfl⟩
  have HVV := Lib.hid hvv; have HWW := Lib.hid hww
  have HC3 := Lib.hid (fun (W : World) (g1 g2 g3 : Addr) (o : Nat) (ty : TypeId) (ho : W.heap.size = o) (h1 : SV W W.heap.size (.slice (some g1) 1 1) [x]) (h2 : SV W W.heap.size (.slice (some g2) 1 1) [y]) (h3 : SV W W.heap.size (.slice (some g3) 1 1) [z]) =>
    (((if_is3 x y z (.slice (some g1) 1 1) (.slice (some g2) 1 1) (.slice (some g3) 1 1)).trans hvv) ▸ call_IF3 (W.alloc (.cells #[.bool false, .int .i64 0, .slice (some g1) 1 1, .bool false, .int .i64 0, .slice (some g2) 1 1, .bool false, .int .i64 0, .slice (some g3) 1 1] ty)) (.slice (some ⟨o, 0, none⟩) 3 3) [agOne x (.slice (some g1) 1 1), agOne y (.slice (some g2) 1 1), agOne z (.slice (some g3) 1 1)] (sa_three W x y z _ _ _ o ty ho h1 h2 h3) (HAZ3.out _ _ _) rfl))
  have HC3a := Lib.hid (fun (W : World) (g1 g2 g3 : Addr) (o : Nat) (ty : TypeId) (ob : Obj) (ho : W.heap.size = o) (h1 : SV W W.heap.size (.slice (some g1) 1 1) [x]) (h2 : SV W W.heap.size (.slice (some g2) 1 1) [y]) (h3 : SV W W.heap.size (.slice (some g3) 1 1) [z]) =>
    (((if_is3 x y z (.slice (some g1) 1 1) (.slice (some g2) 1 1) (.slice (some g3) 1 1)).trans hvv) ▸ call_IF3 ((W.alloc (.cells #[.bool false, .int .i64 0, .slice (some g1) 1 1, .bool false, .int .i64 0, .slice (some g2) 1 1, .bool false, .int .i64 0, .slice (some g3) 1 1] ty)).alloc ob) (.slice (some ⟨o, 0, none⟩) 3 3) [agOne x (.slice (some g1) 1 1), agOne y (.slice (some g2) 1 1), agOne z (.slice (some g3) 1 1)] (((sa_three W x y z _ _ _ o ty ho h1 h2 h3).below (Aft.alloc _ ob) (Nat.le_refl _)).mono (Aft.alloc _ ob).size) (HAZ3.out _ _ _) rfl))
  have HC2 := Lib.hid (fun (W : World) (g1 g2 : Addr) (o : Nat) (ty : TypeId) (ho : W.heap.size = o) (h1 : SV W W.heap.size (.slice (some g1) 1 1) [x]) (h2 : SV W W.heap.size (.slice (some g2) 1 1) [y]) =>
    (((if_is2 x y (.slice (some g1) 1 1) (.slice (some g2) 1 1)).trans hww) ▸ call_IF2 (W.alloc (.cells #[.bool false, .int .i64 0, .slice (some g1) 1 1, .bool false, .int .i64 0, .slice (some g2) 1 1] ty)) (.slice (some ⟨o, 0, none⟩) 2 2) [agOne x (.slice (some g1) 1 1), agOne y (.slice (some g2) 1 1)] (sa_two W x y _ _ o ty ho h1 h2) (HAZ2.out _ _) rfl))
  have HC2a := Lib.hid (fun (W : World) (g1 g2 : Addr) (o : Nat) (ty : TypeId) (ob : Obj) (ho : W.heap.size = o) (h1 : SV W W.heap.size (.slice (some g1) 1 1) [x]) (h2 : SV W W.heap.size (.slice (some g2) 1 1) [y]) =>
    (((if_is2 x y (.slice (some g1) 1 1) (.slice (some g2) 1 1)).trans hww) ▸ call_IF2 ((W.alloc (.cells #[.bool false, .int .i64 0, .slice (some g1) 1 1, .bool false, .int .i64 0, .slice (some g2) 1 1] ty)).alloc ob) (.slice (some ⟨o, 0, none⟩) 2 2) [agOne x (.slice (some g1) 1 1), agOne y (.slice (some g2) 1 1)] (((sa_two W x y _ _ o ty ho h1 h2).below (Aft.alloc _ ob) (Nat.le_refl _)).mono (Aft.alloc _ ob).size) (HAZ2.out _ _) rfl))
  have HAWK := Lib.hid (fun (W : World) (hW : Aft w W) => awake8_any W (ht.below hW) (he.below hW))
  clear hx hy hz hxx hyy hzz hvv hww ht he HAZ3 HAZ2
  go_enter Tryd.func4, Tryd.ntmps4
  go_upto_region 2 with (first
    | (go_at_call 12; ((with_reducible refine (HMX.out _).mono ?_); rintro e w1 ⟨rfl, hb⟩; have HB1 := Lib.hid (show Aft w w1 from hb); clear hb))
    | (go_at_call 12; ((with_reducible refine (HMY.out _).mono ?_); rintro e w2 ⟨rfl, hb⟩; have HB2 := Lib.hid (HB1.out.trans hb); clear hb))
    | (go_at_call 12; ((with_reducible refine (HMZ.out _).mono ?_); rintro e w3 ⟨rfl, hb⟩; have HB3 := Lib.hid (HB2.out.trans hb); clear hb)))
  obtain ⟨hvx, hvy, hvz, hb4, hs4⟩ := vl_three w3 x y z
  have HX4 := Lib.hid hvx; have HY4 := Lib.hid hvy; have HZ4 := Lib.hid hvz
  have HB4 := Lib.hid (HB3.out.trans hb4)
  clear hvx hvy hvz hb4
  generalize w3.heap.size = q at HX4 HY4 HZ4 hs4 ⊢
  generalize (((w3.alloc (.cells #[.int .i64 x.k, .int .i64 x.n, .string x.s] 31)).alloc (.cells #[.int .i64 y.k, .int .i64 y.n, .string y.s] 31)).alloc (.cells #[.int .i64 z.k, .int .i64 z.n, .string z.s] 31)) = w4 at HX4 HY4 HZ4 HB4 hs4 ⊢
  rw [show q + 1 + 1 = q + 2 from rfl]
  have hq4 : q + 2 < w4.heap.size := by omega
  clear hs4
  go_cut [12] (fun vp wx => ∃ wu : World, wu = wx ∧ Hid (Left w4 q x y z vv wu vp))
  case first =>
    rename_i J K hJ hK
    have HS := Lib.hid (show ZT w4 q x y z none w4.drew from ⟨HX4.out, HY4.out, HZ4.out, Aft.drewR (Aft.refl _), hq4, fun r hr => by cases hr⟩)
    obtain ⟨⟨n0, n1, n2⟩, n3, n4, n5⟩ := (show (q ≠ w4.heap.size ∧ q + 1 ≠ w4.heap.size ∧ q + 2 ≠ w4.heap.size) ∧ (w4.heap.size ≠ q ∧ w4.heap.size ≠ q + 1 ∧ w4.heap.size ≠ q + 2) from by have := ZT.ne HS.out; exact this)
    obtain ⟨a0, a1, a2⟩ := HS.out.1.cells
    obtain ⟨b0, b1, b2⟩ := HS.out.2.1.cells
    obtain ⟨d0, d1, d2⟩ := HS.out.2.2.1.cells
    obtain ⟨a3, a4, a5⟩ := VlAt.cells (show VlAt w4 q x from HS.out.1)
    obtain ⟨b3, b4, b5⟩ := VlAt.cells (show VlAt w4 (q + 1) y from HS.out.2.1)
    obtain ⟨d3, d4, d5⟩ := VlAt.cells (show VlAt w4 (q + 2) z from HS.out.2.2.1)
    go_region_held3 (fun w' => w'.cell? ⟨q, 0, none⟩ = some (.int .i64 x.k) ∧ w'.cell? ⟨q, 1, none⟩ = some (.int .i64 x.n) ∧ w'.cell? ⟨q, 2, none⟩ = some (.string x.s) ∧ w'.cell? ⟨q + 1, 0, none⟩ = some (.int .i64 y.k) ∧ w'.cell? ⟨q + 1, 1, none⟩ = some (.int .i64 y.n) ∧ w'.cell? ⟨q + 1, 2, none⟩ = some (.string y.s) ∧ w'.cell? ⟨q + 2, 0, none⟩ = some (.int .i64 z.k) ∧ w'.cell? ⟨q + 2, 1, none⟩ = some (.int .i64 z.n) ∧ w'.cell? ⟨q + 2, 2, none⟩ = some (.string z.s)) (go_keep) (first
      | (go_at_call 10; ((with_reducible refine (HOx.out _).mono ?_); rintro e wa ⟨⟨va, rfl, ⟨ga, rfl⟩, hs⟩, hb⟩; have HVx := Lib.hid (fun (W : World) (hW : Aft wa W) => SV.next hs hW); have hAx := hb; (first | (replace HS := Lib.hid (HS.out.over hb)) | (replace HS := Lib.hid ((HS.out.alloc w4.heap.size rfl).over hb)) | (replace HS := Lib.hid ((HS.out.alloc _ rfl).over hb)) | (replace HS := Lib.hid ((HS.out.any _).over hb)) | (replace HS := Lib.hid (((HS.out.alloc w4.heap.size rfl).any _).over hb)) | (replace HS := Lib.hid (((HS.out.alloc _ rfl).any _).over hb)) | (replace HS := Lib.hid (((HS.out.any _).alloc _ (World.size_alloc _ _)).over hb)) | fail); obtain ⟨⟨n0, n1, n2⟩, n3, n4, n5⟩ := ZT.ne HS.out; (try obtain ⟨⟨r0, r1, r2⟩, r3, r4, r5⟩ := ZT.nr HS.out); obtain ⟨a0, a1, a2⟩ := HS.out.1.cells; obtain ⟨b0, b1, b2⟩ := HS.out.2.1.cells; obtain ⟨d0, d1, d2⟩ := HS.out.2.2.1.cells; clear hs hb))
      | (go_at_call 10; ((with_reducible refine (HOy.out _).mono ?_); rintro e wb ⟨⟨vb, rfl, ⟨gb, rfl⟩, hs⟩, hb⟩; have HVy := Lib.hid (fun (W : World) (hW : Aft wb W) => SV.next hs hW); have hAy := hb; (first | (replace HS := Lib.hid (HS.out.over hb)) | (replace HS := Lib.hid ((HS.out.alloc w4.heap.size rfl).over hb)) | (replace HS := Lib.hid ((HS.out.alloc _ rfl).over hb)) | (replace HS := Lib.hid ((HS.out.any _).over hb)) | (replace HS := Lib.hid (((HS.out.alloc w4.heap.size rfl).any _).over hb)) | (replace HS := Lib.hid (((HS.out.alloc _ rfl).any _).over hb)) | (replace HS := Lib.hid (((HS.out.any _).alloc _ (World.size_alloc _ _)).over hb)) | fail); obtain ⟨⟨n0, n1, n2⟩, n3, n4, n5⟩ := ZT.ne HS.out; (try obtain ⟨⟨r0, r1, r2⟩, r3, r4, r5⟩ := ZT.nr HS.out); obtain ⟨a0, a1, a2⟩ := HS.out.1.cells; obtain ⟨b0, b1, b2⟩ := HS.out.2.1.cells; obtain ⟨d0, d1, d2⟩ := HS.out.2.2.1.cells; clear hs hb))
      | (go_at_call 10; ((with_reducible refine (HOz.out _).mono ?_); rintro e wc ⟨⟨vc, rfl, ⟨gc, rfl⟩, hs⟩, hb⟩; have HVz := Lib.hid (fun (W : World) (hW : Aft wc W) => SV.next hs hW); have hAz := hb; (first | (replace HS := Lib.hid (HS.out.over hb)) | (replace HS := Lib.hid ((HS.out.alloc w4.heap.size rfl).over hb)) | (replace HS := Lib.hid ((HS.out.alloc _ rfl).over hb)) | (replace HS := Lib.hid ((HS.out.any _).over hb)) | (replace HS := Lib.hid (((HS.out.alloc w4.heap.size rfl).any _).over hb)) | (replace HS := Lib.hid (((HS.out.alloc _ rfl).any _).over hb)) | (replace HS := Lib.hid (((HS.out.any _).alloc _ (World.size_alloc _ _)).over hb)) | fail); obtain ⟨⟨n0, n1, n2⟩, n3, n4, n5⟩ := ZT.ne HS.out; (try obtain ⟨⟨r0, r1, r2⟩, r3, r4, r5⟩ := ZT.nr HS.out); obtain ⟨a0, a1, a2⟩ := HS.out.1.cells; obtain ⟨b0, b1, b2⟩ := HS.out.2.1.cells; obtain ⟨d0, d1, d2⟩ := HS.out.2.2.1.cells; clear hs hb))
      | (go_at_call 11; (first | ((with_reducible refine (HC3.out _ _ _ _ _ _ rfl (HVx.out _ (by (repeat (first | exact Aft.refl _ | assumption | refine Aft.allocR _ ?_ | refine Aft.drewR ?_ | refine Aft.trans ?_ (by assumption))))) (HVy.out _ (by (repeat (first | exact Aft.refl _ | assumption | refine Aft.allocR _ ?_ | refine Aft.drewR ?_ | refine Aft.trans ?_ (by assumption))))) (HVz.out _ (by (repeat (first | exact Aft.refl _ | assumption | refine Aft.allocR _ ?_ | refine Aft.drewR ?_ | refine Aft.trans ?_ (by assumption)))))).mono ?_)) | ((with_reducible refine (HC3.out _ _ _ _ _ _ (World.size_alloc _ _) (HVx.out _ (by (repeat (first | exact Aft.refl _ | assumption | refine Aft.allocR _ ?_ | refine Aft.drewR ?_ | refine Aft.trans ?_ (by assumption))))) (HVy.out _ (by (repeat (first | exact Aft.refl _ | assumption | refine Aft.allocR _ ?_ | refine Aft.drewR ?_ | refine Aft.trans ?_ (by assumption))))) (HVz.out _ (by (repeat (first | exact Aft.refl _ | assumption | refine Aft.allocR _ ?_ | refine Aft.drewR ?_ | refine Aft.trans ?_ (by assumption)))))).mono ?_)) | ((with_reducible refine (HC3a.out _ _ _ _ _ _ _ rfl (HVx.out _ (by (repeat (first | exact Aft.refl _ | assumption | refine Aft.allocR _ ?_ | refine Aft.drewR ?_ | refine Aft.trans ?_ (by assumption))))) (HVy.out _ (by (repeat (first | exact Aft.refl _ | assumption | refine Aft.allocR _ ?_ | refine Aft.drewR ?_ | refine Aft.trans ?_ (by assumption))))) (HVz.out _ (by (repeat (first | exact Aft.refl _ | assumption | refine Aft.allocR _ ?_ | refine Aft.drewR ?_ | refine Aft.trans ?_ (by assumption)))))).mono ?_)) | fail); rintro e w7 ⟨rfl, hb⟩; (first | (replace HS := Lib.hid (HS.out.over hb)) | (replace HS := Lib.hid ((HS.out.alloc w4.heap.size rfl).over hb)) | (replace HS := Lib.hid ((HS.out.alloc _ rfl).over hb)) | (replace HS := Lib.hid ((HS.out.any _).over hb)) | (replace HS := Lib.hid (((HS.out.alloc w4.heap.size rfl).any _).over hb)) | (replace HS := Lib.hid (((HS.out.alloc _ rfl).any _).over hb)) | (replace HS := Lib.hid (((HS.out.any _).alloc _ (World.size_alloc _ _)).over hb)) | fail); obtain ⟨⟨n0, n1, n2⟩, n3, n4, n5⟩ := ZT.ne HS.out; (try obtain ⟨⟨r0, r1, r2⟩, r3, r4, r5⟩ := ZT.nr HS.out); obtain ⟨a0, a1, a2⟩ := HS.out.1.cells; obtain ⟨b0, b1, b2⟩ := HS.out.2.1.cells; obtain ⟨d0, d1, d2⟩ := HS.out.2.2.1.cells; (try obtain ⟨m0, m1, m2⟩ := (HS.out.2.2.2.2.2 _ rfl).1.melts); (try obtain ⟨u0, u1, u2⟩ := (HS.out.2.2.2.2.2 _ rfl).1.cells); clear hb))
    all_goals go_wp2_with fail
    all_goals go_meet
    all_goals refine ⟨_, rfl, Lib.hid ?_⟩
    all_goals first
      | with_reducible exact HS.out.put vv
      | with_reducible exact HS.out.new vv
      | exact HS.out.put vv
      | exact HS.out.new vv

  case rest =>
  obtain ⟨wy, rfl, hl⟩ := hcut
  obtain ⟨b12, rfl, hv12, hx5, hy5, hz5, hb5⟩ := hl.out
  have HV12 := Lib.hid hv12; have HX5 := Lib.hid hx5; have HY5 := Lib.hid hy5; have HZ5 := Lib.hid hz5
  have HB5 := Lib.hid (HB4.out.trans hb5)
  have hqy : q + 2 < wy.heap.size := Nat.lt_of_lt_of_le hq4 hb5.size
  clear hl hv12 hx5 hy5 hz5 hb5 HX4 HY4 HZ4 HB4 hq4 HC3 HC3a HMX HMY HMZ HB1 HB2 HB3 HOz
  go_upto_region 3 with (fail)
  go_cut [13] (fun vp wx => ∃ wu : World, wu = wx ∧ Hid (Left wy q x y z ww wu vp))
  case first =>
    rename_i J K hJ hK
    have HS := Lib.hid (show ZT wy q x y z none wy.drew from ⟨HX5.out, HY5.out, HZ5.out, Aft.drewR (Aft.refl _), hqy, fun r hr => by cases hr⟩)
    obtain ⟨⟨n0, n1, n2⟩, n3, n4, n5⟩ := (show (q ≠ wy.heap.size ∧ q + 1 ≠ wy.heap.size ∧ q + 2 ≠ wy.heap.size) ∧ (wy.heap.size ≠ q ∧ wy.heap.size ≠ q + 1 ∧ wy.heap.size ≠ q + 2) from by have := ZT.ne HS.out; exact this)
    obtain ⟨a0, a1, a2⟩ := HS.out.1.cells
    obtain ⟨b0, b1, b2⟩ := HS.out.2.1.cells
    obtain ⟨d0, d1, d2⟩ := HS.out.2.2.1.cells
    obtain ⟨a3, a4, a5⟩ := VlAt.cells (show VlAt wy q x from HS.out.1)
    obtain ⟨b3, b4, b5⟩ := VlAt.cells (show VlAt wy (q + 1) y from HS.out.2.1)
    obtain ⟨d3, d4, d5⟩ := VlAt.cells (show VlAt wy (q + 2) z from HS.out.2.2.1)
    go_region_held3 (fun w' => w'.cell? ⟨q, 0, none⟩ = some (.int .i64 x.k) ∧ w'.cell? ⟨q, 1, none⟩ = some (.int .i64 x.n) ∧ w'.cell? ⟨q, 2, none⟩ = some (.string x.s) ∧ w'.cell? ⟨q + 1, 0, none⟩ = some (.int .i64 y.k) ∧ w'.cell? ⟨q + 1, 1, none⟩ = some (.int .i64 y.n) ∧ w'.cell? ⟨q + 1, 2, none⟩ = some (.string y.s) ∧ w'.cell? ⟨q + 2, 0, none⟩ = some (.int .i64 z.k) ∧ w'.cell? ⟨q + 2, 1, none⟩ = some (.int .i64 z.n) ∧ w'.cell? ⟨q + 2, 2, none⟩ = some (.string z.s)) (go_keep) (first
      | (go_at_call 10; ((with_reducible refine (HOx.out _).mono ?_); rintro e wa ⟨⟨va, rfl, ⟨ga, rfl⟩, hs⟩, hb⟩; have HVx := Lib.hid (fun (W : World) (hW : Aft wa W) => SV.next hs hW); have hAx := hb; (first | (replace HS := Lib.hid (HS.out.over hb)) | (replace HS := Lib.hid ((HS.out.alloc wy.heap.size rfl).over hb)) | (replace HS := Lib.hid ((HS.out.alloc _ rfl).over hb)) | (replace HS := Lib.hid ((HS.out.any _).over hb)) | (replace HS := Lib.hid (((HS.out.alloc wy.heap.size rfl).any _).over hb)) | (replace HS := Lib.hid (((HS.out.alloc _ rfl).any _).over hb)) | (replace HS := Lib.hid (((HS.out.any _).alloc _ (World.size_alloc _ _)).over hb)) | fail); obtain ⟨⟨n0, n1, n2⟩, n3, n4, n5⟩ := ZT.ne HS.out; (try obtain ⟨⟨r0, r1, r2⟩, r3, r4, r5⟩ := ZT.nr HS.out); obtain ⟨a0, a1, a2⟩ := HS.out.1.cells; obtain ⟨b0, b1, b2⟩ := HS.out.2.1.cells; obtain ⟨d0, d1, d2⟩ := HS.out.2.2.1.cells; clear hs hb))
      | (go_at_call 10; ((with_reducible refine (HOy.out _).mono ?_); rintro e wb ⟨⟨vb, rfl, ⟨gb, rfl⟩, hs⟩, hb⟩; have HVy := Lib.hid (fun (W : World) (hW : Aft wb W) => SV.next hs hW); have hAy := hb; (first | (replace HS := Lib.hid (HS.out.over hb)) | (replace HS := Lib.hid ((HS.out.alloc wy.heap.size rfl).over hb)) | (replace HS := Lib.hid ((HS.out.alloc _ rfl).over hb)) | (replace HS := Lib.hid ((HS.out.any _).over hb)) | (replace HS := Lib.hid (((HS.out.alloc wy.heap.size rfl).any _).over hb)) | (replace HS := Lib.hid (((HS.out.alloc _ rfl).any _).over hb)) | (replace HS := Lib.hid (((HS.out.any _).alloc _ (World.size_alloc _ _)).over hb)) | fail); obtain ⟨⟨n0, n1, n2⟩, n3, n4, n5⟩ := ZT.ne HS.out; (try obtain ⟨⟨r0, r1, r2⟩, r3, r4, r5⟩ := ZT.nr HS.out); obtain ⟨a0, a1, a2⟩ := HS.out.1.cells; obtain ⟨b0, b1, b2⟩ := HS.out.2.1.cells; obtain ⟨d0, d1, d2⟩ := HS.out.2.2.1.cells; clear hs hb))
      | (go_at_call 11; (first | ((with_reducible refine (HC2.out _ _ _ _ _ rfl (HVx.out _ (by (repeat (first | exact Aft.refl _ | assumption | refine Aft.allocR _ ?_ | refine Aft.drewR ?_ | refine Aft.trans ?_ (by assumption))))) (HVy.out _ (by (repeat (first | exact Aft.refl _ | assumption | refine Aft.allocR _ ?_ | refine Aft.drewR ?_ | refine Aft.trans ?_ (by assumption)))))).mono ?_)) | ((with_reducible refine (HC2.out _ _ _ _ _ (World.size_alloc _ _) (HVx.out _ (by (repeat (first | exact Aft.refl _ | assumption | refine Aft.allocR _ ?_ | refine Aft.drewR ?_ | refine Aft.trans ?_ (by assumption))))) (HVy.out _ (by (repeat (first | exact Aft.refl _ | assumption | refine Aft.allocR _ ?_ | refine Aft.drewR ?_ | refine Aft.trans ?_ (by assumption)))))).mono ?_)) | ((with_reducible refine (HC2a.out _ _ _ _ _ _ rfl (HVx.out _ (by (repeat (first | exact Aft.refl _ | assumption | refine Aft.allocR _ ?_ | refine Aft.drewR ?_ | refine Aft.trans ?_ (by assumption))))) (HVy.out _ (by (repeat (first | exact Aft.refl _ | assumption | refine Aft.allocR _ ?_ | refine Aft.drewR ?_ | refine Aft.trans ?_ (by assumption)))))).mono ?_)) | fail); rintro e w7 ⟨rfl, hb⟩; (first | (replace HS := Lib.hid (HS.out.over hb)) | (replace HS := Lib.hid ((HS.out.alloc wy.heap.size rfl).over hb)) | (replace HS := Lib.hid ((HS.out.alloc _ rfl).over hb)) | (replace HS := Lib.hid ((HS.out.any _).over hb)) | (replace HS := Lib.hid (((HS.out.alloc wy.heap.size rfl).any _).over hb)) | (replace HS := Lib.hid (((HS.out.alloc _ rfl).any _).over hb)) | (replace HS := Lib.hid (((HS.out.any _).alloc _ (World.size_alloc _ _)).over hb)) | fail); obtain ⟨⟨n0, n1, n2⟩, n3, n4, n5⟩ := ZT.ne HS.out; (try obtain ⟨⟨r0, r1, r2⟩, r3, r4, r5⟩ := ZT.nr HS.out); obtain ⟨a0, a1, a2⟩ := HS.out.1.cells; obtain ⟨b0, b1, b2⟩ := HS.out.2.1.cells; obtain ⟨d0, d1, d2⟩ := HS.out.2.2.1.cells; (try obtain ⟨m0, m1, m2⟩ := (HS.out.2.2.2.2.2 _ rfl).1.melts); (try obtain ⟨u0, u1, u2⟩ := (HS.out.2.2.2.2.2 _ rfl).1.cells); clear hb))
    all_goals go_wp2_with fail
    all_goals go_meet
    all_goals refine ⟨_, rfl, Lib.hid ?_⟩
    all_goals first
      | with_reducible exact HS.out.put ww
      | with_reducible exact HS.out.new ww
      | exact HS.out.put ww
      | exact HS.out.new ww

  case rest =>
  obtain ⟨wz, rfl, hl⟩ := hcut
  obtain ⟨b13, rfl, hv13, hx6, hy6, hz6, hb6⟩ := hl.out
  obtain ⟨v0, v1, v2⟩ := (HV12.out.over hb6).cells
  obtain ⟨y0, y1, y2⟩ := hv13.cells
  have HB6 := Lib.hid (HB5.out.trans hb6)
  obtain ⟨a0, a1, a2⟩ := hx6.cells
  obtain ⟨e0, e1, e2⟩ := hy6.cells
  obtain ⟨f0, f1, f2⟩ := hz6.cells
  have e5 : c.tmod 5 = c % 5 := Int.tmod_eq_emod_of_nonneg c0
  have eqv := fun (a : Vl) (W : World) => eq_val_self a W
  clear hl hv13 hx6 hy6 hz6 hb6 HV12 HX5 HY5 HZ5 HB5 HC2 HC2a HOx HOy
  by_cases h4 : c % 5 = 4
  · have hk : x.k = 4 := by rw [← HXX.out, h4]; rfl
    have hvv : vv = x := by rw [← HVV.out]; unfold ifV; rw [if_pos hk]
    have hww : ww = x := by rw [← HWW.out]; unfold ifV; rw [if_pos hk]
    subst hvv
    subst hww
    have c4 : (c % 5 == 4) = true := beq_iff_eq.2 h4
    go_wp2_with (first
      | (go_at_call 8; ((with_reducible refine (HAWK.out _ (by first | exact HB6.out | exact HB6.out.drewR)).mono ?_); rintro e w9 ⟨rfl, hb⟩; have HB9 := Lib.hid ((show Aft w _ by first | exact HB6.out | exact HB6.out.drewR).trans hb); clear hb)))
    go_ret
    exact ⟨by rfl, HB9.out⟩
  have n4 : (c % 5 == 4) = false := beq_eq_false_iff_ne.2 h4
  by_cases h2 : c % 5 = 2
  · have hk : x.k = 2 := by rw [← HXX.out, h2]; rfl
    have hk4 : ¬ x.k = 4 := by omega
    have hti : isTruth x = false := decide_eq_false (by omega)
    have hvv : vv = Vl.err 1 := by rw [← HVV.out]; unfold ifV; rw [if_neg hk4, hti]; rfl
    have hww : ww = Vl.err 1 := by rw [← HWW.out]; unfold ifV; rw [if_neg hk4, hti]; rfl
    subst hvv
    subst hww
    have c2 : (c % 5 == 2) = true := beq_iff_eq.2 h2
    clear hk4 hti
    go_wp2_with (first
      | (go_at_call 8; ((with_reducible refine (HAWK.out _ (by first | exact HB6.out | exact HB6.out.drewR)).mono ?_); rintro e w9 ⟨rfl, hb⟩; have HB9 := Lib.hid ((show Aft w _ by first | exact HB6.out | exact HB6.out.drewR).trans hb); clear hb)))
    go_ret
    exact ⟨by rfl, HB9.out⟩
  have n2' : (c % 5 == 2) = false := beq_eq_false_iff_ne.2 h2
  obtain ⟨hk4, hti, htv⟩ := make_truth (c % 5) n ⟨#[116]⟩ (by omega)
  rw [HXX.out] at hk4 hti htv
  by_cases hxn : x.n = 0
  · have hvv : vv = z := by rw [← HVV.out]; unfold ifV; rw [if_neg hk4, if_pos hti, htv, decide_eq_false (fun h => h hxn)]; rfl
    have hww : ww = Vl.truth false := by rw [← HWW.out]; unfold ifV; rw [if_neg hk4, if_pos hti, htv, decide_eq_false (fun h => h hxn)]; rfl
    subst hvv
    subst hww
    have x0 : (x.n != 0) = false := by rw [hxn]; rfl
    clear hk4 hti htv
    go_wp2_with (first
      | (go_at_call 8; ((with_reducible refine (HAWK.out _ (by first | exact HB6.out | exact HB6.out.drewR)).mono ?_); rintro e w9 ⟨rfl, hb⟩; have HB9 := Lib.hid ((show Aft w _ by first | exact HB6.out | exact HB6.out.drewR).trans hb); clear hb)))
    go_ret
    exact ⟨by rfl, HB9.out⟩
  · have hvv : vv = y := by rw [← HVV.out]; unfold ifV; rw [if_neg hk4, if_pos hti, htv, decide_eq_true hxn]; rfl
    have hww : ww = y := by rw [← HWW.out]; unfold ifV; rw [if_neg hk4, if_pos hti, htv, decide_eq_true hxn]; rfl
    subst hvv
    subst hww
    have x0 : (x.n != 0) = true := by rw [bne_iff_ne]; exact hxn
    clear hk4 hti htv
    go_wp2_with (first
      | (go_at_call 8; ((with_reducible refine (HAWK.out _ (by first | exact HB6.out | exact HB6.out.drewR)).mono ?_); rintro e w9 ⟨rfl, hb⟩; have HB9 := Lib.hid ((show Aft w _ by first | exact HB6.out | exact HB6.out.drewR).trans hb); clear hb)))
    go_ret
    exact ⟨by rfl, HB9.out⟩
end Go.Proofs.YtppialmmhoopcaaDoor
