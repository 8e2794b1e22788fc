/-
  'chequerlaw3.AddrBack', given what Text, May and Read answer.
-/
import Derived.Test.YtocoldcgnppfhaaDoorAddrM
import Derived.Test.YtocoldcgnppfhaaDoorHeld
namespace Go.Proofs.YtocoldcgnppfhaaDoor
open Go.RowKit

set_option maxRecDepth 100000 in
set_option maxHeartbeats 2000000 in
theorem addrBack_law (htext : ∀ (s : ByteArray) (c r : Int) (ac ar : Bool) (w : World), s.size ≤ 1000000 → Tab w → Calls Tryd.prog 16 #[.agg #[.string s, .int .i64 c, .int .i64 r, .bool ac, .bool ar]] w fun e w' => e = .returned (.string (strOfNums (textL (sb s) c r ac ar))) ∧ Below w.heap.size w w')
    (hmay : ∀ (s : ByteArray) (c r : Int) (ac ar : Bool) (w : World), s.size ≤ 1000000 → Calls Tryd.prog 14 #[.agg #[.string s, .int .i64 c, .int .i64 r, .bool ac, .bool ar]] w fun e w' => e = .returned (.bool (mayL (sb s) c r)) ∧ Below w.heap.size w w')
    (hread : ∀ (s : ByteArray) (w : World), s.size ≤ 1000000 → Calls Tryd.prog 8 #[.string s] w fun e w' => Says (sb s) e ∧ Below w.heap.size w w')
    (hawake : ∀ w : World, Calls Tryd.prog 5 #[] w fun e w' => e = .returned (.bool true) ∧ Below w.heap.size w w')
    (a b c d f g : Int) (ha : 0 ≤ a ∧ a ≤ 65535) (hb : 0 ≤ b ∧ b ≤ 65535) (hc : 0 ≤ c ∧ c ≤ 65535) (hd : 0 ≤ d ∧ d ≤ 65535) (hf : 0 ≤ f ∧ f ≤ 255) (hg : 0 ≤ g ∧ g ≤ 255) (w : World) (htab : Tab w) :
    Calls Tryd.prog 4 #[.int .u16 a, .int .u16 b, .int .u16 c, .int .u16 d, .int .u8 f, .int .u8 g] w fun e w' => e = .returned (.bool true) ∧ Below w.heap.size w w' := by
  obtain ⟨i, hi⟩ : ∃ i : Nat, f / 4 % 4 = (i : Int) := ⟨(f / 4 % 4).toNat, by omega⟩
  obtain ⟨j, hj⟩ : ∃ j : Nat, g / 4 % 4 = (j : Int) := ⟨(g / 4 % 4).toNat, by omega⟩
  have hi4 : i < 4 := by omega
  have hj4 : j < 4 := by omega
  obtain ⟨sx, hsx⟩ : ∃ s : ByteArray, nmL.getD i ⟨#[]⟩ = s := ⟨_, rfl⟩
  obtain ⟨sy, hsy⟩ : ∃ s : ByteArray, nmL.getD j ⟨#[]⟩ = s := ⟨_, rfl⟩
  have n1 : ∀ (w : World) (t : TypeId), (w.alloc (.cells #[.string ⟨#[]⟩, .string ⟨#[83]⟩, .string ⟨#[100, 97, 116, 97, 49]⟩, .string ⟨#[90, 122, 57]⟩] t)).cell? ⟨w.heap.size, i, none⟩ = some (.string sx) := fun w t => by rw [← hsx]; exact nm_cell w t i hi4
  have n2 : ∀ h, ([.string ⟨#[]⟩, .string ⟨#[83]⟩, .string ⟨#[100, 97, 116, 97, 49]⟩, .string ⟨#[90, 122, 57]⟩] : List Value)[j]'h = .string sy := by
    intro h; rw [← hsy]
    match j, hj4 with
    | 0, _ => rfl
    | 1, _ => rfl
    | 2, _ => rfl
    | 3, _ => rfl
  have mx : mayL (sb sx) (a % 702) (c % 999) = true := by rw [← hsx]; exact nm_may i hi4 _ _ (by omega)
  have my : mayL (sb sy) (b % 702) (d % 999) = true := by rw [← hsy]; exact nm_may j hj4 _ _ (by omega)
  have HX := Lib.hid hsx; clear hsx
  have HY := Lib.hid hsy; clear hsy
  have hsz : ∀ j : Nat, j < 4 → (nmL.getD j ⟨#[]⟩).size ≤ 5 := by decide +kernel
  have zx : sx.size ≤ 5 := by rw [← HX.out]; exact hsz i hi4
  have zy : sy.size ≤ 5 := by rw [← HY.out]; exact hsz j hj4
  have tx := size_textL sx (a % 702) (c % 999) (decide (0 < f % 2)) (decide (0 < f / 2 % 2)) (by omega)
  clear hsz
  have hx := ((RefAt.new' (w.alloc (.cells #[.string ⟨#[]⟩, .string ⟨#[83]⟩, .string ⟨#[100, 97, 116, 97, 49]⟩, .string ⟨#[90, 122, 57]⟩] 9)) sx (a % 702) (c % 999) (decide (0 < f % 2)) (decide (0 < f / 2 % 2)) (w.heap.size + 1) (by simp)).alloc (.cells #[.string sy, .int .i64 (b % 702), .int .i64 (d % 999), .bool (decide (0 < g % 2)), .bool (decide (0 < g / 2 % 2))] 23))
  have hy := RefAt.new' ((w.alloc (.cells #[.string ⟨#[]⟩, .string ⟨#[83]⟩, .string ⟨#[100, 97, 116, 97, 49]⟩, .string ⟨#[90, 122, 57]⟩] 9)).alloc (.cells #[.string sx, .int .i64 (a % 702), .int .i64 (c % 999), .bool (decide (0 < f % 2)), .bool (decide (0 < f / 2 % 2))] 23)) sy (b % 702) (d % 999) (decide (0 < g % 2)) (decide (0 < g / 2 % 2)) (w.heap.size + 1 + 1) (by simp)
  have hbl := (((Below.refl w.heap.size w).alloc (Nat.le_refl _) (.cells #[.string ⟨#[]⟩, .string ⟨#[83]⟩, .string ⟨#[100, 97, 116, 97, 49]⟩, .string ⟨#[90, 122, 57]⟩] 9)).alloc (by simp) (.cells #[.string sx, .int .i64 (a % 702), .int .i64 (c % 999), .bool (decide (0 < f % 2)), .bool (decide (0 < f / 2 % 2))] 23)).alloc (by simp; omega) (.cells #[.string sy, .int .i64 (b % 702), .int .i64 (d % 999), .bool (decide (0 < g % 2)), .bool (decide (0 < g / 2 % 2))] 23)
  have HXA := Lib.hid hx; clear hx
  have HYA := Lib.hid hy; clear hy
  have HBL := Lib.hid hbl; clear hbl
  have HMX := Lib.hid mx; clear mx
  have HMY := Lib.hid my; clear my
  have HT := Lib.hid htext; clear htext
  have HM := Lib.hid hmay; clear hmay
  have HR := Lib.hid hread; clear hread
  have HW := Lib.hid hawake; clear hawake
  have HTAB := Lib.hid htab; clear htab
  go_enter Tryd.func4, Tryd.ntmps4
  go_wp2_with (first
    | (go_at_call 16; ((with_reducible refine (HT.out _ _ _ _ _ _ ?_ (HTAB.out.below HBL.out)).mono ?_); (first | omega | skip); rintro e w1 ⟨rfl, h1⟩; have hx1 := HXA.out.below h1 HXA.out.lt; have hy1 := HYA.out.below h1 HYA.out.lt; have hlx := hx1.lt; have hly := hy1.lt; obtain ⟨x0, x1, x2, x3, x4⟩ := hx1.facts; obtain ⟨y0, y1, y2, y3, y4⟩ := hy1.facts; have HXA := Lib.hid hx1; have HYA := Lib.hid hy1; have HBL := Lib.hid (HBL.out.trans (h1.mono HBL.out.size)); clear h1 hx1 hy1))
    | (go_at_call 8; ((with_reducible refine (HR.out _ _ ?_).mono ?_); (first | omega | skip); rintro e w1 ⟨hs, h1⟩; have hs2 := hs.text HMX.out; clear hs; subst hs2; have hx1 := HXA.out.below h1 HXA.out.lt; have hy1 := HYA.out.below h1 HYA.out.lt; have hlx := hx1.lt; have hly := hy1.lt; obtain ⟨x0, x1, x2, x3, x4⟩ := hx1.facts; obtain ⟨y0, y1, y2, y3, y4⟩ := hy1.facts; have HXA := Lib.hid hx1; have HYA := Lib.hid hy1; have HBL := Lib.hid (HBL.out.trans (h1.mono HBL.out.size)); clear h1 hx1 hy1)))
  have HX2 := Lib.hid (HXA.out.alloc (.cells #[.string sx, .int .i64 (a % 702), .int .i64 (c % 999), .bool (decide (0 < f % 2)), .bool (decide (0 < f / 2 % 2))] 23)).drew
  have HY2 := Lib.hid (HYA.out.alloc (.cells #[.string sx, .int .i64 (a % 702), .int .i64 (c % 999), .bool (decide (0 < f % 2)), .bool (decide (0 < f / 2 % 2))] 23)).drew
  have HR2 := Lib.hid (RefAt.new' w1 sx (a % 702) (c % 999) (decide (0 < f % 2)) (decide (0 < f / 2 % 2)) w1.heap.size rfl).drew
  have HB2 := Lib.hid (HBL.out.alloc HBL.out.size (.cells #[.string sx, .int .i64 (a % 702), .int .i64 (c % 999), .bool (decide (0 < f % 2)), .bool (decide (0 < f / 2 % 2))] 23)).drew
  clear n1 n2 x0 x1 x2 x3 x4 y0 y1 y2 y3 y4
  refine kept_start (by kernel_rfl) ?_
  show wpAnyH _ _ _ _ _ 25 #[false, false, false, false, false, false, false, false, false, false, false, false, false, false, false, false, false, false, false, false, false, false, false, false, false] _ _
  refine kept_take (i := 0) (d := some 65) (fuel := 24) (listed' := #[true, false, false, false, false, false, false, false, false, false, false, false, false, false, false, false, false, false, false, false, false, false, false, false, false]) (v := ?_) rfl rfl (by kernel_rfl) (by kernel_rfl) (by kernel_rfl) rfl (fun _ _ _ h => h) (by rfl) ?_ ?_
  rotate_left
  · (intro wS hSw; go_simp; try (with_reducible rfl))
  simp only [Act.put, List.setIfInBounds_toArray, List.set_cons_zero, List.set_cons_succ]
  refine kept_take (i := 1) (d := some 66) (fuel := 23) (listed' := #[true, true, false, false, false, false, false, false, false, false, false, false, false, false, false, false, false, false, false, false, false, false, false, false, false]) (v := ?_) rfl rfl (by kernel_rfl) (by kernel_rfl) (by kernel_rfl) rfl (fun _ _ _ h => h) (by rfl) ?_ ?_
  rotate_left
  · (intro wS hSw; go_simp; try (with_reducible rfl))
  simp only [Act.put, List.setIfInBounds_toArray, List.set_cons_zero, List.set_cons_succ]
  refine kept_take (i := 2) (d := some 67) (fuel := 22) (listed' := #[true, true, true, false, false, false, false, false, false, false, false, false, false, false, false, false, false, false, false, false, false, false, false, false, false]) (v := ?_) rfl rfl (by kernel_rfl) (by kernel_rfl) (by kernel_rfl) rfl (fun _ _ _ h => h) (by rfl) ?_ ?_
  rotate_left
  · (intro wS hSw; have hz := (fun W (hW : Below _ _ W) => (HR2.out.below hW HR2.out.lt).facts) wS hSw; go_simp; try (with_reducible rfl))
  simp only [Act.put, List.setIfInBounds_toArray, List.set_cons_zero, List.set_cons_succ]
  refine kept_take (i := 3) (d := some 68) (fuel := 21) (listed' := #[true, true, true, true, false, false, false, false, false, false, false, false, false, false, false, false, false, false, false, false, false, false, false, false, false]) (v := ?_) rfl rfl (by kernel_rfl) (by kernel_rfl) (by kernel_rfl) rfl (fun _ _ _ h => h) (by rfl) ?_ ?_
  rotate_left
  · (intro wS hSw; have hz := (fun W (hW : Below _ _ W) => (HX2.out.below hW HX2.out.lt).facts) wS hSw; go_simp; try (with_reducible rfl))
  simp only [Act.put, List.setIfInBounds_toArray, List.set_cons_zero, List.set_cons_succ]
  refine kept_take (i := 4) (d := some 69) (fuel := 20) (listed' := #[true, true, true, true, true, false, false, false, false, false, false, false, false, false, false, false, false, false, false, false, false, false, false, false, false]) (v := ?_) rfl rfl (by kernel_rfl) (by kernel_rfl) (by kernel_rfl) rfl (fun _ _ _ h => h) (by rfl) ?_ ?_
  rotate_left
  · (intro wS hSw; go_simp; try (with_reducible rfl))
  simp only [Act.put, List.setIfInBounds_toArray, List.set_cons_zero, List.set_cons_succ]
  refine kept_take (i := 5) (d := some 70) (fuel := 19) (listed' := #[true, true, true, true, true, true, false, false, false, false, false, false, false, false, false, false, false, false, false, false, false, false, false, false, false]) (v := ?_) rfl rfl (by kernel_rfl) (by kernel_rfl) (by kernel_rfl) rfl (fun _ _ _ h => h) (by rfl) ?_ ?_
  rotate_left
  · (intro wS hSw; go_simp; try (with_reducible rfl))
  simp only [Act.put, List.setIfInBounds_toArray, List.set_cons_zero, List.set_cons_succ]
  refine kept_take (i := 6) (d := some 71) (fuel := 18) (listed' := #[true, true, true, true, true, true, true, false, false, false, false, false, false, false, false, false, false, false, false, false, false, false, false, false, false]) (v := ?_) rfl rfl (by kernel_rfl) (by kernel_rfl) (by kernel_rfl) rfl (fun _ _ _ h => h) (by rfl) ?_ ?_
  rotate_left
  · (intro wS hSw; go_simp; try (with_reducible rfl))
  simp only [Act.put, List.setIfInBounds_toArray, List.set_cons_zero, List.set_cons_succ]
  refine kept_take (i := 7) (d := some 72) (fuel := 17) (listed' := #[true, true, true, true, true, true, true, true, false, false, false, false, false, false, false, false, false, false, false, false, false, false, false, false, false]) (v := ?_) rfl rfl (by kernel_rfl) (by kernel_rfl) (by kernel_rfl) rfl (fun _ _ _ h => h) (by rfl) ?_ ?_
  rotate_left
  · (intro wS hSw; have hz := (fun W (hW : Below _ _ W) => (HX2.out.below hW HX2.out.lt).facts) wS hSw; go_simp; try (with_reducible rfl))
  simp only [Act.put, List.setIfInBounds_toArray, List.set_cons_zero, List.set_cons_succ]
  refine kept_call (i := 8) (d := some 73) (fuel := 16) (listed' := #[true, true, true, true, true, true, true, true, true, false, false, false, false, false, false, false, false, false, false, false, false, false, false, false, false]) rfl rfl (by kernel_rfl) rfl (by rfl) (fun K hK => ?_)
  go_simp
  refine (HM.out _ _ _ _ _ _ (by omega)).mono ?_
  rintro e w3 ⟨rfl, hstep⟩
  rw [HMX.out]
  have HX3 := Lib.hid (HX2.out.below hstep HX2.out.lt)
  have HY3 := Lib.hid (HY2.out.below hstep HY2.out.lt)
  have HB3 := Lib.hid (Below.of _ _ _ HB2.out hstep)
  go_wp2_with fail
  refine hK.out _ _ hstep hstep.size ?_
  clear hK K
  simp only [Act.put, List.setIfInBounds_toArray, List.set_cons_zero, List.set_cons_succ]
  refine kept_take (i := 9) (d := some 74) (fuel := 15) (listed' := #[true, true, true, true, true, true, true, true, true, true, false, false, false, false, false, false, false, false, false, false, false, false, false, false, false]) (v := ?_) rfl rfl (by kernel_rfl) (by kernel_rfl) (by kernel_rfl) rfl (fun _ _ _ h => h) (by rfl) ?_ ?_
  rotate_left
  · (intro wS hSw; go_simp; try (with_reducible rfl))
  simp only [Act.put, List.setIfInBounds_toArray, List.set_cons_zero, List.set_cons_succ]
  refine kept_take (i := 10) (d := some 75) (fuel := 14) (listed' := #[true, true, true, true, true, true, true, true, true, true, true, false, false, false, false, false, false, false, false, false, false, false, false, false, false]) (v := ?_) rfl rfl (by kernel_rfl) (by kernel_rfl) (by kernel_rfl) rfl (fun _ _ _ h => h) (by rfl) ?_ ?_
  rotate_left
  · (intro wS hSw; go_simp; try (with_reducible rfl))
  simp only [Act.put, List.setIfInBounds_toArray, List.set_cons_zero, List.set_cons_succ]
  refine kept_take (i := 11) (d := some 76) (fuel := 13) (listed' := #[true, true, true, true, true, true, true, true, true, true, true, true, false, false, false, false, false, false, false, false, false, false, false, false, false]) (v := ?_) rfl rfl (by kernel_rfl) (by kernel_rfl) (by kernel_rfl) rfl (fun _ _ _ h => h) (by rfl) ?_ ?_
  rotate_left
  · (intro wS hSw; have hz := (fun W (hW : Below _ _ W) => (HX3.out.below hW HX3.out.lt).facts) wS hSw; go_simp; try (with_reducible rfl))
  simp only [Act.put, List.setIfInBounds_toArray, List.set_cons_zero, List.set_cons_succ]
  refine kept_take (i := 13) (d := some 78) (fuel := 12) (listed' := #[true, true, true, true, true, true, true, true, true, true, true, true, false, true, false, false, false, false, false, false, false, false, false, false, false]) (v := ?_) rfl rfl (by kernel_rfl) (by kernel_rfl) (by kernel_rfl) rfl (fun _ _ _ h => h) (by rfl) ?_ ?_
  rotate_left
  · (intro wS hSw; have hz := (fun W (hW : Below _ _ W) => (HY3.out.below hW HY3.out.lt).facts) wS hSw; go_simp; try (with_reducible rfl))
  simp only [Act.put, List.setIfInBounds_toArray, List.set_cons_zero, List.set_cons_succ]
  refine kept_take (i := 16) (d := some 81) (fuel := 11) (listed' := #[true, true, true, true, true, true, true, true, true, true, true, true, false, true, false, false, true, false, false, false, false, false, false, false, false]) (v := ?_) rfl rfl (by kernel_rfl) (by kernel_rfl) (by kernel_rfl) rfl (fun _ _ _ h => h) (by rfl) ?_ ?_
  rotate_left
  · (intro wS hSw; have hz := (fun W (hW : Below _ _ W) => (HX3.out.below hW HX3.out.lt).facts) wS hSw; go_simp; try (with_reducible rfl))
  simp only [Act.put, List.setIfInBounds_toArray, List.set_cons_zero, List.set_cons_succ]
  refine kept_take (i := 17) (d := some 82) (fuel := 10) (listed' := #[true, true, true, true, true, true, true, true, true, true, true, true, false, true, false, false, true, true, false, false, false, false, false, false, false]) (v := ?_) rfl rfl (by kernel_rfl) (by kernel_rfl) (by kernel_rfl) rfl (fun _ _ _ h => h) (by rfl) ?_ ?_
  rotate_left
  · (intro wS hSw; have hz := (fun W (hW : Below _ _ W) => (HY3.out.below hW HY3.out.lt).facts) wS hSw; go_simp; try (with_reducible rfl))
  simp only [Act.put, List.setIfInBounds_toArray, List.set_cons_zero, List.set_cons_succ]
  refine kept_take (i := 18) (d := some 83) (fuel := 9) (listed' := #[true, true, true, true, true, true, true, true, true, true, true, true, false, true, false, false, true, true, true, false, false, false, false, false, false]) (v := ?_) rfl rfl (by kernel_rfl) (by kernel_rfl) (by kernel_rfl) rfl (fun _ _ _ h => h) (by rfl) ?_ ?_
  rotate_left
  · (intro wS hSw; go_simp; exact back_eq sx sy (a % 702) (b % 702) (c % 999) (d % 999) (0 < f % 2) (0 < f / 2 % 2) (0 < g % 2) (0 < g / 2 % 2) HMX.out HMY.out wS)
  simp only [Act.put, List.setIfInBounds_toArray, List.set_cons_zero, List.set_cons_succ]
  refine kept_call (i := 12) (d := some 77) (fuel := 8) (listed' := #[true, true, true, true, true, true, true, true, true, true, true, true, true, true, false, false, true, true, true, false, false, false, false, false, false]) rfl rfl (by kernel_rfl) rfl (by rfl) (fun K hK => ?_)
  go_simp
  refine (HT.out _ _ _ _ _ _ (by omega) (HTAB.out.below HB3.out)).mono ?_
  rintro e w4 ⟨rfl, hstep⟩
  have HX4 := Lib.hid (HX3.out.below hstep HX3.out.lt)
  have HY4 := Lib.hid (HY3.out.below hstep HY3.out.lt)
  have HB4 := Lib.hid (Below.of _ _ _ HB3.out hstep)
  go_wp2_with fail
  refine hK.out _ _ hstep hstep.size ?_
  clear hK K
  simp only [Act.put, List.setIfInBounds_toArray, List.set_cons_zero, List.set_cons_succ]
  refine kept_call (i := 14) (d := some 79) (fuel := 7) (listed' := #[true, true, true, true, true, true, true, true, true, true, true, true, true, true, true, false, true, true, true, false, false, false, false, false, false]) rfl rfl (by kernel_rfl) rfl (by rfl) (fun K hK => ?_)
  go_simp
  refine (HT.out _ _ _ _ _ _ (by omega) (HTAB.out.below HB4.out)).mono ?_
  rintro e w5 ⟨rfl, hstep⟩
  have HX5 := Lib.hid (HX4.out.below hstep HX4.out.lt)
  have HY5 := Lib.hid (HY4.out.below hstep HY4.out.lt)
  have HB5 := Lib.hid (Below.of _ _ _ HB4.out hstep)
  go_wp2_with fail
  refine hK.out _ _ hstep hstep.size ?_
  clear hK K
  simp only [Act.put, List.setIfInBounds_toArray, List.set_cons_zero, List.set_cons_succ]
  refine kept_take (i := 15) (d := some 80) (fuel := 6) (listed' := #[true, true, true, true, true, true, true, true, true, true, true, true, true, true, true, true, true, true, true, false, false, false, false, false, false]) (v := ?_) rfl rfl (by kernel_rfl) (by kernel_rfl) (by kernel_rfl) rfl (fun _ _ _ h => h) (by rfl) ?_ ?_
  rotate_left
  · (intro wS hSw; go_simp; try (with_reducible rfl))
  simp only [Act.put, List.setIfInBounds_toArray, List.set_cons_zero, List.set_cons_succ]
  refine kept_take (i := 19) (d := some 84) (fuel := 5) (listed' := #[true, true, true, true, true, true, true, true, true, true, true, true, true, true, true, true, true, true, true, true, false, false, false, false, false]) (v := ?_) rfl rfl (by kernel_rfl) (by kernel_rfl) (by kernel_rfl) rfl (fun _ _ _ h => h) (by rfl) ?_ ?_
  rotate_left
  · (intro wS hSw; go_simp; try (with_reducible rfl))
  simp only [Act.put, List.setIfInBounds_toArray, List.set_cons_zero, List.set_cons_succ]
  refine kept_take (i := 20) (d := some 85) (fuel := 4) (listed' := #[true, true, true, true, true, true, true, true, true, true, true, true, true, true, true, true, true, true, true, true, true, false, false, false, false]) (v := ?_) rfl rfl (by kernel_rfl) (by kernel_rfl) (by kernel_rfl) rfl (fun _ _ _ h => h) (by rfl) ?_ ?_
  rotate_left
  · (intro wS hSw; go_simp; try (with_reducible rfl))
  simp only [Act.put, List.setIfInBounds_toArray, List.set_cons_zero, List.set_cons_succ]
  refine kept_take (i := 21) (d := some 86) (fuel := 3) (listed' := #[true, true, true, true, true, true, true, true, true, true, true, true, true, true, true, true, true, true, true, true, true, true, false, false, false]) (v := ?_) rfl rfl (by kernel_rfl) (by kernel_rfl) (by kernel_rfl) rfl (fun _ _ _ h => h) (by rfl) ?_ ?_
  rotate_left
  · (intro wS hSw; go_simp; try (with_reducible rfl))
  simp only [Act.put, List.setIfInBounds_toArray, List.set_cons_zero, List.set_cons_succ]
  refine kept_call (i := 22) (d := some 87) (fuel := 2) (listed' := #[true, true, true, true, true, true, true, true, true, true, true, true, true, true, true, true, true, true, true, true, true, true, true, false, false]) rfl rfl (by kernel_rfl) rfl (by rfl) (fun K hK => ?_)
  go_simp
  refine (HW.out _).mono ?_
  rintro e w6 ⟨rfl, hstep⟩
  have HX6 := Lib.hid (HX5.out.below hstep HX5.out.lt)
  have HY6 := Lib.hid (HY5.out.below hstep HY5.out.lt)
  have HB6 := Lib.hid (Below.of _ _ _ HB5.out hstep)
  go_wp2_with fail
  refine hK.out _ _ hstep hstep.size ?_
  clear hK K
  simp only [Act.put, List.setIfInBounds_toArray, List.set_cons_zero, List.set_cons_succ]
  refine kept_take (i := 23) (d := some 88) (fuel := 1) (listed' := #[true, true, true, true, true, true, true, true, true, true, true, true, true, true, true, true, true, true, true, true, true, true, true, true, false]) (v := ?_) rfl rfl (by kernel_rfl) (by kernel_rfl) (by kernel_rfl) rfl (fun _ _ _ h => h) (by rfl) ?_ ?_
  rotate_left
  · (intro wS hSw; go_simp; try (with_reducible rfl))
  simp only [Act.put, List.setIfInBounds_toArray, List.set_cons_zero, List.set_cons_succ]
  refine kept_take (i := 24) (d := some 12) (fuel := 0) (listed' := #[true, true, true, true, true, true, true, true, true, true, true, true, true, true, true, true, true, true, true, true, true, true, true, true, true]) (v := ?_) rfl rfl (by kernel_rfl) (by kernel_rfl) (by kernel_rfl) rfl (fun _ _ _ h => h) (by rfl) ?_ ?_
  rotate_left
  · (intro wS hSw; go_simp; try (with_reducible rfl))
  simp only [Act.put, List.setIfInBounds_toArray, List.set_cons_zero, List.set_cons_succ]
  refine wpAnyH_done (by kernel_rfl) ?_ _
  go_wp2_with fail
  go_ret
  exact ⟨rfl, HB6.out⟩
end Go.Proofs.YtocoldcgnppfhaaDoor
