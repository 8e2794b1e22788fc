/-
  'chequerlaw3.AddrAll', walked.
-/
import Derived.Test.YtocoldcgnppfhaaDoorRefRdX
import Derived.Test.YtocoldcgnppfhaaDoorAddrM
import Derived.Test.YtocoldcgnppfhaaDoorAddrY
namespace Go.Proofs.YtocoldcgnppfhaaDoor
open Go.RowKit

theorem drew_below {w w' : World} (h : Below w.heap.size w w') (n : Nat) : Below w.heap.size w (w'.drewN n) := ⟨h.os, h.tape, h.output, h.size, h.block⟩
theorem below_same {f : FuncId} {args : Array Value} {w : World} {x : Ending} (h : Calls Tryd.prog f args w fun e w' => e = x ∧ w = w') : Calls Tryd.prog f args w fun e w' => e = x ∧ Below w.heap.size w w' :=
  h.mono fun _ _ ⟨a, b⟩ => ⟨a, by subst b; exact Below.refl _ _⟩
theorem says_same {l : List Int} {e e' : Ending} (h : Says l e) (k : Says l e') : e = e' := by
  rcases h with ⟨s, c, r, ac, ar, _, h2, h3, rfl⟩ | ⟨h1, rfl⟩
  · rcases k with ⟨s', c', r', ac', ar', _, k2, k3, rfl⟩ | ⟨k1, _⟩
    · obtain ⟨e1, e2, e3, e4, e5⟩ := textL_inj h2 k2 (h3.trans k3.symm)
      rw [sb_inj e1, e2, e3, e4, e5]
    · exact absurd h3 (k1 _ _ _ _ _ h2)
  · rcases k with ⟨s', c', r', ac', ar', _, k2, k3, _⟩ | ⟨_, rfl⟩
    · exact absurd k3 (h1 _ _ _ _ _ k2)
    · rfl
theorem says_fix (l : List Int) : ∃ (sh : ByteArray) (c r : Int) (ac ar ok : Bool), ∀ e, Says l e → e = .returned (.tuple #[.agg #[.string sh, .int .i64 c, .int .i64 r, .bool ac, .bool ar], .bool ok]) := by
  by_cases h : ∃ e, Says l e
  · obtain ⟨e0, h0⟩ := h
    have h1 := h0
    rcases h1 with ⟨s, c, r, ac, ar, _, _, _, rfl⟩ | ⟨_, rfl⟩
    · exact ⟨s, c, r, ac, ar, true, fun e he => says_same he h0⟩
    · exact ⟨⟨#[]⟩, 0, 0, false, false, false, fun e he => says_same he h0⟩
  · exact ⟨⟨#[]⟩, 0, 0, false, false, false, fun e he => absurd ⟨e, he⟩ h⟩

set_option maxRecDepth 100000 in
set_option maxHeartbeats 2000000 in
theorem addrAll_any (s : ByteArray) (n : Int) (t : ByteArray) (c r : Int) (ac ar : Bool) (hn0 : -9223372036854775808 ≤ n) (hn1 : n ≤ 9223372036854775807) (w : World) (htab : Tab w) (hz1 : s.size ≤ 9223372036854775807) (hz2 : t.size ≤ 9223372036854775807) :
    Calls Tryd.prog 3 #[.string s, .int .i64 n, .agg #[.string t, .int .i64 c, .int .i64 r, .bool ac, .bool ar]] w fun e w' => e = .returned (.bool true) ∧ Below w.heap.size w w' := by
  have hR0 := RefAt.new w t c r ac ar
  have HR := Lib.hid hR0; clear hR0
  have HBL := Lib.hid ((Below.refl w.heap.size w).alloc (Nat.le_refl _) (.cells #[.string t, .int .i64 c, .int .i64 r, .bool ac, .bool ar] 23))
  have HTAB := Lib.hid htab; clear htab
  by_cases hs3 : 300 < s.size
  · have hsi : (300 : Int) < (s.size : Int) := by omega
    go_enter Tryd.func3, Tryd.ntmps3
    go_wp2_with (go_at_call 5; ((with_reducible refine (awake_any _).mono ?_); rintro e w3 ⟨rfl, h1⟩; have HBL := Lib.hid (HBL.out.trans (h1.mono HBL.out.size)); clear h1))
    go_ret
    exact ⟨rfl, HBL.out⟩
  · have hsi : ¬ (300 : Int) < (s.size : Int) := by omega
    by_cases ht3 : 300 < t.size
    · have hti : (300 : Int) < (t.size : Int) := by omega
      go_enter Tryd.func3, Tryd.ntmps3
      go_wp2_with (go_at_call 5; ((with_reducible refine (awake_any _).mono ?_); rintro e w3 ⟨rfl, h1⟩; have HBL := Lib.hid (HBL.out.trans (h1.mono HBL.out.size)); clear h1))
      go_ret
      exact ⟨rfl, HBL.out⟩
    · have hti : ¬ (300 : Int) < (t.size : Int) := by omega
      have hs0 : s.size ≤ 1000000 := by omega
      have ht0 : t.size ≤ 1000000 := by omega
      have hz3 := size_textL t c r ac ar (by omega)
      obtain ⟨xs, xc, xr, xac, xar, xok, hfix⟩ := says_fix (sb s)
      have HFIX := Lib.hid hfix; clear hfix hs3 ht3 hz1 hz2
      go_enter Tryd.func3, Tryd.ntmps3
      go_upto_region 7 with (first
        | (go_at_call 6; ((with_reducible refine (readCol_any _ _ ?_).mono ?_); (first | omega | skip); rintro e w1 ⟨rfl, h1⟩; have HR1 := Lib.hid (HR.out.below h1 HR.out.lt); have HB1 := Lib.hid (HBL.out.trans (h1.mono HBL.out.size)); clear h1))
        | (go_at_call 7; ((with_reducible refine (refReadCol_any _ _ ?_).mono ?_); (first | omega | skip); rintro e w2 ⟨rfl, k2, rfl⟩; have HR2 := Lib.hid (HR1.out.drewN k2); have HB2 := Lib.hid (drew_below HB1.out k2)))
        | (go_at_call 8; ((with_reducible refine (read_any _ _ ?_).mono ?_); (first | omega | skip); rintro e w3 ⟨hs, h1⟩; obtain rfl := HFIX.out e hs; clear hs; have HR3 := Lib.hid (HR2.out.below h1 HR2.out.lt); have HB3 := Lib.hid (HB2.out.trans (h1.mono HB2.out.size)); clear h1))
        | (go_at_call 9; ((with_reducible refine (refRead_any _ _ ?_).mono ?_); (first | omega | skip); rintro e w4 ⟨hs, h1⟩; obtain rfl := HFIX.out e hs; clear hs; have HX4 := Lib.hid ((RefAt.new w3 xs xc xr xac xar).below h1 (RefAt.new w3 xs xc xr xac xar).lt); have HR4 := Lib.hid ((HR3.out.alloc (.cells #[.string xs, .int .i64 xc, .int .i64 xr, .bool xac, .bool xar] 23)).below h1 (HR3.out.alloc _).lt); have HB4 := Lib.hid ((HB3.out.alloc HB3.out.size (.cells #[.string xs, .int .i64 xc, .int .i64 xr, .bool xac, .bool xar] 23)).trans (h1.mono (HB3.out.alloc HB3.out.size _).size)); clear h1)))
      have HR5 := Lib.hid (RefAt.drew (HR4.out.alloc (.cells #[.string xs, .int .i64 xc, .int .i64 xr, .bool xac, .bool xar] 23)))
      have HX5 := Lib.hid (RefAt.drew (HX4.out.alloc (.cells #[.string xs, .int .i64 xc, .int .i64 xr, .bool xac, .bool xar] 23)))
      have HY5 := Lib.hid (RefAt.drew (RefAt.new' w4 xs xc xr xac xar w4.heap.size rfl))
      have HB5 := Lib.hid (HB4.out.alloc HB4.out.size (.cells #[.string xs, .int .i64 xc, .int .i64 xr, .bool xac, .bool xar] 23)).drew
      refine kept_start (by kernel_rfl) ?_
      show wpAnyH _ _ _ _ _ 50 #[false, false, false, false, false, false, false, false, false, false, false, false, false, false, false, false, false, false, false, false, false, false, false, false, false, false, false, false, false, false, false, false, false, false, false, false, false, false, false, false, false, false, false, false, false, false, false, false, false, false] _ _
      refine kept_take (i := 0) (d := some 45) (fuel := 49) (listed' := #[true, false, false, false, false, false, false, false, false, false, false, false, false, false, false, false, false, false, false, false, false, false, false, false, false, false, false, false, false, false, false, false, false, false, false, false, false, false, false, false, false, false, false, false, false, false, false, false, false, false]) (v := ?_) rfl rfl (by kernel_rfl) (by kernel_rfl) (by kernel_rfl) rfl (fun _ _ _ h => h) (by rfl) ?_ ?_
      rotate_left
      · (intro wS hSw; go_simp; try (with_reducible rfl))
      simp only [Act.put, List.setIfInBounds_toArray, List.set_cons_zero, List.set_cons_succ]
      refine kept_take (i := 2) (d := some 47) (fuel := 48) (listed' := #[true, false, true, false, false, false, false, false, false, false, false, false, false, false, false, false, false, false, false, false, false, false, false, false, false, false, false, false, false, false, false, false, false, false, false, false, false, false, false, false, false, false, false, false, false, false, false, false, false, false]) (v := ?_) rfl rfl (by kernel_rfl) (by kernel_rfl) (by kernel_rfl) rfl (fun _ _ _ h => h) (by rfl) ?_ ?_
      rotate_left
      · (intro wS hSw; go_simp; try (with_reducible rfl))
      simp only [Act.put, List.setIfInBounds_toArray, List.set_cons_zero, List.set_cons_succ]
      refine kept_call (i := 1) (d := some 46) (fuel := 47) (listed' := #[true, true, true, false, false, false, false, false, false, false, false, false, false, false, false, false, false, false, false, false, false, false, false, false, false, false, false, false, false, false, false, false, false, false, false, false, false, false, false, false, false, false, false, false, false, false, false, false, false, false]) rfl rfl (by kernel_rfl) rfl (by rfl) (fun K hK => ?_)
      go_simp
      refine (below_same (name_any _ _ hs0)).mono ?_
      rintro e v6 ⟨rfl, hstep⟩
      have HR6 := Lib.hid (HR5.out.below hstep HR5.out.lt)
      have HX6 := Lib.hid (HX5.out.below hstep HX5.out.lt)
      have HY6 := Lib.hid (HY5.out.below hstep HY5.out.lt)
      have HB6 := Lib.hid (Below.of _ _ _ HB5.out hstep)
      go_wp2_with fail
      refine hK.out _ _ hstep hstep.size ?_
      clear hK K
      simp only [Act.put, List.setIfInBounds_toArray, List.set_cons_zero, List.set_cons_succ]
      refine kept_call (i := 3) (d := some 48) (fuel := 46) (listed' := #[true, true, true, true, false, false, false, false, false, false, false, false, false, false, false, false, false, false, false, false, false, false, false, false, false, false, false, false, false, false, false, false, false, false, false, false, false, false, false, false, false, false, false, false, false, false, false, false, false, false]) rfl rfl (by kernel_rfl) rfl (by rfl) (fun K hK => ?_)
      go_simp
      refine (below_same (refName_any _ _ hs0)).mono ?_
      rintro e v7 ⟨rfl, hstep⟩
      have HR7 := Lib.hid (HR6.out.below hstep HR6.out.lt)
      have HX7 := Lib.hid (HX6.out.below hstep HX6.out.lt)
      have HY7 := Lib.hid (HY6.out.below hstep HY6.out.lt)
      have HB7 := Lib.hid (Below.of _ _ _ HB6.out hstep)
      go_wp2_with fail
      refine hK.out _ _ hstep hstep.size ?_
      clear hK K
      simp only [Act.put, List.setIfInBounds_toArray, List.set_cons_zero, List.set_cons_succ]
      refine kept_take (i := 4) (d := some 49) (fuel := 45) (listed' := #[true, true, true, true, true, false, false, false, false, false, false, false, false, false, false, false, false, false, false, false, false, false, false, false, false, false, false, false, false, false, false, false, false, false, false, false, false, false, false, false, false, false, false, false, false, false, false, false, false, false]) (v := ?_) rfl rfl (by kernel_rfl) (by kernel_rfl) (by kernel_rfl) rfl (fun _ _ _ h => h) (by rfl) ?_ ?_
      rotate_left
      · (intro wS hSw; go_simp; try (with_reducible rfl))
      simp only [Act.put, List.setIfInBounds_toArray, List.set_cons_zero, List.set_cons_succ]
      refine kept_take (i := 5) (d := some 50) (fuel := 44) (listed' := #[true, true, true, true, true, true, false, false, false, false, false, false, false, false, false, false, false, false, false, false, false, false, false, false, false, false, false, false, false, false, false, false, false, false, false, false, false, false, false, false, false, false, false, false, false, false, false, false, false, false]) (v := ?_) rfl rfl (by kernel_rfl) (by kernel_rfl) (by kernel_rfl) rfl (fun _ _ _ h => h) (by rfl) ?_ ?_
      rotate_left
      · (intro wS hSw; go_simp; try (with_reducible rfl))
      simp only [Act.put, List.setIfInBounds_toArray, List.set_cons_zero, List.set_cons_succ]
      refine kept_take (i := 6) (d := some 51) (fuel := 43) (listed' := #[true, true, true, true, true, true, true, false, false, false, false, false, false, false, false, false, false, false, false, false, false, false, false, false, false, false, false, false, false, false, false, false, false, false, false, false, false, false, false, false, false, false, false, false, false, false, false, false, false, false]) (v := ?_) rfl rfl (by kernel_rfl) (by kernel_rfl) (by kernel_rfl) rfl (fun _ _ _ h => h) (by rfl) ?_ ?_
      rotate_left
      · (intro wS hSw; go_simp; try (with_reducible rfl))
      simp only [Act.put, List.setIfInBounds_toArray, List.set_cons_zero, List.set_cons_succ]
      refine kept_take (i := 8) (d := some 53) (fuel := 42) (listed' := #[true, true, true, true, true, true, true, false, true, false, false, false, false, false, false, false, false, false, false, false, false, false, false, false, false, false, false, false, false, false, false, false, false, false, false, false, false, false, false, false, false, false, false, false, false, false, false, false, false, false]) (v := ?_) rfl rfl (by kernel_rfl) (by kernel_rfl) (by kernel_rfl) rfl (fun _ _ _ h => h) (by rfl) ?_ ?_
      rotate_left
      · (intro wS hSw; go_simp; try (with_reducible rfl))
      simp only [Act.put, List.setIfInBounds_toArray, List.set_cons_zero, List.set_cons_succ]
      refine kept_call (i := 7) (d := some 52) (fuel := 41) (listed' := #[true, true, true, true, true, true, true, true, true, false, false, false, false, false, false, false, false, false, false, false, false, false, false, false, false, false, false, false, false, false, false, false, false, false, false, false, false, false, false, false, false, false, false, false, false, false, false, false, false, false]) rfl rfl (by kernel_rfl) rfl (by rfl) (fun K hK => ?_)
      go_simp
      refine (below_same (col_any _ hn0 hn1 _)).mono ?_
      rintro e v8 ⟨rfl, hstep⟩
      have HR8 := Lib.hid (HR7.out.below hstep HR7.out.lt)
      have HX8 := Lib.hid (HX7.out.below hstep HX7.out.lt)
      have HY8 := Lib.hid (HY7.out.below hstep HY7.out.lt)
      have HB8 := Lib.hid (Below.of _ _ _ HB7.out hstep)
      go_wp2_with fail
      refine hK.out _ _ hstep hstep.size ?_
      clear hK K
      simp only [Act.put, List.setIfInBounds_toArray, List.set_cons_zero, List.set_cons_succ]
      refine kept_call (i := 9) (d := some 54) (fuel := 40) (listed' := #[true, true, true, true, true, true, true, true, true, true, false, false, false, false, false, false, false, false, false, false, false, false, false, false, false, false, false, false, false, false, false, false, false, false, false, false, false, false, false, false, false, false, false, false, false, false, false, false, false, false]) rfl rfl (by kernel_rfl) rfl (by rfl) (fun K hK => ?_)
      go_simp
      refine (refCol_any _ hn0 hn1 _).mono ?_
      rintro e v9 ⟨rfl, hstep⟩
      have HR9 := Lib.hid (HR8.out.below hstep HR8.out.lt)
      have HX9 := Lib.hid (HX8.out.below hstep HX8.out.lt)
      have HY9 := Lib.hid (HY8.out.below hstep HY8.out.lt)
      have HB9 := Lib.hid (Below.of _ _ _ HB8.out hstep)
      go_wp2_with fail
      refine hK.out _ _ hstep hstep.size ?_
      clear hK K
      simp only [Act.put, List.setIfInBounds_toArray, List.set_cons_zero, List.set_cons_succ]
      refine kept_take (i := 10) (d := some 55) (fuel := 39) (listed' := #[true, true, true, true, true, true, true, true, true, true, true, false, false, false, false, false, false, false, false, false, false, false, false, false, false, false, false, false, false, false, false, false, false, false, false, false, false, false, false, false, false, false, false, false, false, false, false, false, false, false]) (v := ?_) rfl rfl (by kernel_rfl) (by kernel_rfl) (by kernel_rfl) rfl (fun _ _ _ h => h) (by rfl) ?_ ?_
      rotate_left
      · (intro wS hSw; go_simp; try (with_reducible rfl))
      simp only [Act.put, List.setIfInBounds_toArray, List.set_cons_zero, List.set_cons_succ]
      refine kept_take (i := 11) (d := some 56) (fuel := 38) (listed' := #[true, true, true, true, true, true, true, true, true, true, true, true, false, false, false, false, false, false, false, false, false, false, false, false, false, false, false, false, false, false, false, false, false, false, false, false, false, false, false, false, false, false, false, false, false, false, false, false, false, false]) (v := ?_) rfl rfl (by kernel_rfl) (by kernel_rfl) (by kernel_rfl) rfl (fun _ _ _ h => h) (by rfl) ?_ ?_
      rotate_left
      · (intro wS hSw; go_simp; try (with_reducible rfl))
      simp only [Act.put, List.setIfInBounds_toArray, List.set_cons_zero, List.set_cons_succ]
      refine kept_take (i := 12) (d := some 57) (fuel := 37) (listed' := #[true, true, true, true, true, true, true, true, true, true, true, true, true, false, false, false, false, false, false, false, false, false, false, false, false, false, false, false, false, false, false, false, false, false, false, false, false, false, false, false, false, false, false, false, false, false, false, false, false, false]) (v := ?_) rfl rfl (by kernel_rfl) (by kernel_rfl) (by kernel_rfl) rfl (fun _ _ _ h => h) (by rfl) ?_ ?_
      rotate_left
      · (intro wS hSw; go_simp; try (with_reducible rfl))
      simp only [Act.put, List.setIfInBounds_toArray, List.set_cons_zero, List.set_cons_succ]
      refine kept_take (i := 13) (d := some 58) (fuel := 36) (listed' := #[true, true, true, true, true, true, true, true, true, true, true, true, true, true, false, false, false, false, false, false, false, false, false, false, false, false, false, false, false, false, false, false, false, false, false, false, false, false, false, false, false, false, false, false, false, false, false, false, false, false]) (v := ?_) rfl rfl (by kernel_rfl) (by kernel_rfl) (by kernel_rfl) rfl (fun _ _ _ h => h) (by rfl) ?_ ?_
      rotate_left
      · (intro wS hSw; go_simp; try (with_reducible rfl))
      simp only [Act.put, List.setIfInBounds_toArray, List.set_cons_zero, List.set_cons_succ]
      refine kept_take (i := 14) (d := some 59) (fuel := 35) (listed' := #[true, true, true, true, true, true, true, true, true, true, true, true, true, true, true, false, false, false, false, false, false, false, false, false, false, false, false, false, false, false, false, false, false, false, false, false, false, false, false, false, false, false, false, false, false, false, false, false, false, false]) (v := ?_) rfl rfl (by kernel_rfl) (by kernel_rfl) (by kernel_rfl) rfl (fun _ _ _ h => h) (by rfl) ?_ ?_
      rotate_left
      · (intro wS hSw; go_simp; try (with_reducible rfl))
      simp only [Act.put, List.setIfInBounds_toArray, List.set_cons_zero, List.set_cons_succ]
      refine kept_take (i := 15) (d := some 60) (fuel := 34) (listed' := #[true, true, true, true, true, true, true, true, true, true, true, true, true, true, true, true, false, false, false, false, false, false, false, false, false, false, false, false, false, false, false, false, false, false, false, false, false, false, false, false, false, false, false, false, false, false, false, false, false, false]) (v := ?_) rfl rfl (by kernel_rfl) (by kernel_rfl) (by kernel_rfl) rfl (fun _ _ _ h => h) (by rfl) ?_ ?_
      rotate_left
      · (intro wS hSw; go_simp; try (with_reducible rfl))
      simp only [Act.put, List.setIfInBounds_toArray, List.set_cons_zero, List.set_cons_succ]
      refine kept_take (i := 16) (d := some 61) (fuel := 33) (listed' := #[true, true, true, true, true, true, true, true, true, true, true, true, true, true, true, true, true, false, false, false, false, false, false, false, false, false, false, false, false, false, false, false, false, false, false, false, false, false, false, false, false, false, false, false, false, false, false, false, false, false]) (v := ?_) rfl rfl (by kernel_rfl) (by kernel_rfl) (by kernel_rfl) rfl (fun _ _ _ h => h) (by rfl) ?_ ?_
      rotate_left
      · (intro wS hSw; go_simp; try (with_reducible rfl))
      simp only [Act.put, List.setIfInBounds_toArray, List.set_cons_zero, List.set_cons_succ]
      refine kept_take (i := 17) (d := some 62) (fuel := 32) (listed' := #[true, true, true, true, true, true, true, true, true, true, true, true, true, true, true, true, true, true, false, false, false, false, false, false, false, false, false, false, false, false, false, false, false, false, false, false, false, false, false, false, false, false, false, false, false, false, false, false, false, false]) (v := ?_) rfl rfl (by kernel_rfl) (by kernel_rfl) (by kernel_rfl) rfl (fun _ _ _ h => h) (by rfl) ?_ ?_
      rotate_left
      · (intro wS hSw; go_simp; try (with_reducible rfl))
      simp only [Act.put, List.setIfInBounds_toArray, List.set_cons_zero, List.set_cons_succ]
      refine kept_take (i := 18) (d := some 63) (fuel := 31) (listed' := #[true, true, true, true, true, true, true, true, true, true, true, true, true, true, true, true, true, true, true, false, false, false, false, false, false, false, false, false, false, false, false, false, false, false, false, false, false, false, false, false, false, false, false, false, false, false, false, false, false, false]) (v := ?_) rfl rfl (by kernel_rfl) (by kernel_rfl) (by kernel_rfl) rfl (fun _ _ _ h => h) (by rfl) ?_ ?_
      rotate_left
      · (intro wS hSw; go_simp; try (with_reducible rfl))
      simp only [Act.put, List.setIfInBounds_toArray, List.set_cons_zero, List.set_cons_succ]
      refine kept_take (i := 19) (d := some 64) (fuel := 30) (listed' := #[true, true, true, true, true, true, true, true, true, true, true, true, true, true, true, true, true, true, true, true, false, false, false, false, false, false, false, false, false, false, false, false, false, false, false, false, false, false, false, false, false, false, false, false, false, false, false, false, false, false]) (v := ?_) rfl rfl (by kernel_rfl) (by kernel_rfl) (by kernel_rfl) rfl (fun _ _ _ h => h) (by rfl) ?_ ?_
      rotate_left
      · (intro wS hSw; go_simp; try (with_reducible rfl))
      simp only [Act.put, List.setIfInBounds_toArray, List.set_cons_zero, List.set_cons_succ]
      refine kept_take (i := 20) (d := some 65) (fuel := 29) (listed' := #[true, true, true, true, true, true, true, true, true, true, true, true, true, true, true, true, true, true, true, true, true, false, false, false, false, false, false, false, false, false, false, false, false, false, false, false, false, false, false, false, false, false, false, false, false, false, false, false, false, false]) (v := ?_) rfl rfl (by kernel_rfl) (by kernel_rfl) (by kernel_rfl) rfl (fun _ _ _ h => h) (by rfl) ?_ ?_
      rotate_left
      · (intro wS hSw; go_simp; try (with_reducible rfl))
      simp only [Act.put, List.setIfInBounds_toArray, List.set_cons_zero, List.set_cons_succ]
      refine kept_take (i := 21) (d := some 66) (fuel := 28) (listed' := #[true, true, true, true, true, true, true, true, true, true, true, true, true, true, true, true, true, true, true, true, true, true, false, false, false, false, false, false, false, false, false, false, false, false, false, false, false, false, false, false, false, false, false, false, false, false, false, false, false, false]) (v := ?_) rfl rfl (by kernel_rfl) (by kernel_rfl) (by kernel_rfl) rfl (fun _ _ _ h => h) (by rfl) ?_ ?_
      rotate_left
      · (intro wS hSw; go_simp; try (with_reducible rfl))
      simp only [Act.put, List.setIfInBounds_toArray, List.set_cons_zero, List.set_cons_succ]
      refine kept_take (i := 22) (d := some 67) (fuel := 27) (listed' := #[true, true, true, true, true, true, true, true, true, true, true, true, true, true, true, true, true, true, true, true, true, true, true, false, false, false, false, false, false, false, false, false, false, false, false, false, false, false, false, false, false, false, false, false, false, false, false, false, false, false]) (v := ?_) rfl rfl (by kernel_rfl) (by kernel_rfl) (by kernel_rfl) rfl (fun _ _ _ h => h) (by rfl) ?_ ?_
      rotate_left
      · (intro wS hSw; go_simp; try (with_reducible rfl))
      simp only [Act.put, List.setIfInBounds_toArray, List.set_cons_zero, List.set_cons_succ]
      refine kept_take (i := 23) (d := some 68) (fuel := 26) (listed' := #[true, true, true, true, true, true, true, true, true, true, true, true, true, true, true, true, true, true, true, true, true, true, true, true, false, false, false, false, false, false, false, false, false, false, false, false, false, false, false, false, false, false, false, false, false, false, false, false, false, false]) (v := ?_) rfl rfl (by kernel_rfl) (by kernel_rfl) (by kernel_rfl) rfl (fun _ _ _ h => h) (by rfl) ?_ ?_
      rotate_left
      · (intro wS hSw; have hz := (fun W (hW : Below _ _ W) => (HR9.out.below hW HR9.out.lt).facts) wS hSw; go_simp; try (with_reducible rfl))
      simp only [Act.put, List.setIfInBounds_toArray, List.set_cons_zero, List.set_cons_succ]
      refine kept_take (i := 25) (d := some 70) (fuel := 25) (listed' := #[true, true, true, true, true, true, true, true, true, true, true, true, true, true, true, true, true, true, true, true, true, true, true, true, false, true, false, false, false, false, false, false, false, false, false, false, false, false, false, false, false, false, false, false, false, false, false, false, false, false]) (v := ?_) rfl rfl (by kernel_rfl) (by kernel_rfl) (by kernel_rfl) rfl (fun _ _ _ h => h) (by rfl) ?_ ?_
      rotate_left
      · (intro wS hSw; have hz := (fun W (hW : Below _ _ W) => (HR9.out.below hW HR9.out.lt).facts) wS hSw; go_simp; try (with_reducible rfl))
      simp only [Act.put, List.setIfInBounds_toArray, List.set_cons_zero, List.set_cons_succ]
      refine kept_call (i := 24) (d := some 69) (fuel := 24) (listed' := #[true, true, true, true, true, true, true, true, true, true, true, true, true, true, true, true, true, true, true, true, true, true, true, true, true, true, false, false, false, false, false, false, false, false, false, false, false, false, false, false, false, false, false, false, false, false, false, false, false, false]) rfl rfl (by kernel_rfl) rfl (by rfl) (fun K hK => ?_)
      go_simp
      refine (may_any _ _ _ _ _ _ ht0).mono ?_
      rintro e v10 ⟨rfl, hstep⟩
      have HR10 := Lib.hid (HR9.out.below hstep HR9.out.lt)
      have HX10 := Lib.hid (HX9.out.below hstep HX9.out.lt)
      have HY10 := Lib.hid (HY9.out.below hstep HY9.out.lt)
      have HB10 := Lib.hid (Below.of _ _ _ HB9.out hstep)
      go_wp2_with fail
      refine hK.out _ _ hstep hstep.size ?_
      clear hK K
      simp only [Act.put, List.setIfInBounds_toArray, List.set_cons_zero, List.set_cons_succ]
      refine kept_call (i := 26) (d := some 71) (fuel := 23) (listed' := #[true, true, true, true, true, true, true, true, true, true, true, true, true, true, true, true, true, true, true, true, true, true, true, true, true, true, true, false, false, false, false, false, false, false, false, false, false, false, false, false, false, false, false, false, false, false, false, false, false, false]) rfl rfl (by kernel_rfl) rfl (by rfl) (fun K hK => ?_)
      go_simp
      refine (refMay_any _ _ _ _ _ _ ht0).mono ?_
      rintro e v11 ⟨rfl, hstep⟩
      have HR11 := Lib.hid (HR10.out.below hstep HR10.out.lt)
      have HX11 := Lib.hid (HX10.out.below hstep HX10.out.lt)
      have HY11 := Lib.hid (HY10.out.below hstep HY10.out.lt)
      have HB11 := Lib.hid (Below.of _ _ _ HB10.out hstep)
      go_wp2_with fail
      refine hK.out _ _ hstep hstep.size ?_
      clear hK K
      simp only [Act.put, List.setIfInBounds_toArray, List.set_cons_zero, List.set_cons_succ]
      refine kept_take (i := 27) (d := some 72) (fuel := 22) (listed' := #[true, true, true, true, true, true, true, true, true, true, true, true, true, true, true, true, true, true, true, true, true, true, true, true, true, true, true, true, false, false, false, false, false, false, false, false, false, false, false, false, false, false, false, false, false, false, false, false, false, false]) (v := ?_) rfl rfl (by kernel_rfl) (by kernel_rfl) (by kernel_rfl) rfl (fun _ _ _ h => h) (by rfl) ?_ ?_
      rotate_left
      · (intro wS hSw; go_simp; try (with_reducible rfl))
      simp only [Act.put, List.setIfInBounds_toArray, List.set_cons_zero, List.set_cons_succ]
      refine kept_take (i := 28) (d := some 73) (fuel := 21) (listed' := #[true, true, true, true, true, true, true, true, true, true, true, true, true, true, true, true, true, true, true, true, true, true, true, true, true, true, true, true, true, false, false, false, false, false, false, false, false, false, false, false, false, false, false, false, false, false, false, false, false, false]) (v := ?_) rfl rfl (by kernel_rfl) (by kernel_rfl) (by kernel_rfl) rfl (fun _ _ _ h => h) (by rfl) ?_ ?_
      rotate_left
      · (intro wS hSw; go_simp; try (with_reducible rfl))
      simp only [Act.put, List.setIfInBounds_toArray, List.set_cons_zero, List.set_cons_succ]
      refine kept_take (i := 29) (d := some 74) (fuel := 20) (listed' := #[true, true, true, true, true, true, true, true, true, true, true, true, true, true, true, true, true, true, true, true, true, true, true, true, true, true, true, true, true, true, false, false, false, false, false, false, false, false, false, false, false, false, false, false, false, false, false, false, false, false]) (v := ?_) rfl rfl (by kernel_rfl) (by kernel_rfl) (by kernel_rfl) rfl (fun _ _ _ h => h) (by rfl) ?_ ?_
      rotate_left
      · (intro wS hSw; go_simp; try (with_reducible rfl))
      simp only [Act.put, List.setIfInBounds_toArray, List.set_cons_zero, List.set_cons_succ]
      refine kept_take (i := 30) (d := some 75) (fuel := 19) (listed' := #[true, true, true, true, true, true, true, true, true, true, true, true, true, true, true, true, true, true, true, true, true, true, true, true, true, true, true, true, true, true, true, false, false, false, false, false, false, false, false, false, false, false, false, false, false, false, false, false, false, false]) (v := ?_) rfl rfl (by kernel_rfl) (by kernel_rfl) (by kernel_rfl) rfl (fun _ _ _ h => h) (by rfl) ?_ ?_
      rotate_left
      · (intro wS hSw; have hz := (fun W (hW : Below _ _ W) => (HR11.out.below hW HR11.out.lt).facts) wS hSw; go_simp; try (with_reducible rfl))
      simp only [Act.put, List.setIfInBounds_toArray, List.set_cons_zero, List.set_cons_succ]
      refine kept_take (i := 32) (d := some 77) (fuel := 18) (listed' := #[true, true, true, true, true, true, true, true, true, true, true, true, true, true, true, true, true, true, true, true, true, true, true, true, true, true, true, true, true, true, true, false, true, false, false, false, false, false, false, false, false, false, false, false, false, false, false, false, false, false]) (v := ?_) rfl rfl (by kernel_rfl) (by kernel_rfl) (by kernel_rfl) rfl (fun _ _ _ h => h) (by rfl) ?_ ?_
      rotate_left
      · (intro wS hSw; have hz := (fun W (hW : Below _ _ W) => (HR11.out.below hW HR11.out.lt).facts) wS hSw; go_simp; try (with_reducible rfl))
      simp only [Act.put, List.setIfInBounds_toArray, List.set_cons_zero, List.set_cons_succ]
      refine kept_call (i := 31) (d := some 76) (fuel := 17) (listed' := #[true, true, true, true, true, true, true, true, true, true, true, true, true, true, true, true, true, true, true, true, true, true, true, true, true, true, true, true, true, true, true, true, true, false, false, false, false, false, false, false, false, false, false, false, false, false, false, false, false, false]) rfl rfl (by kernel_rfl) rfl (by rfl) (fun K hK => ?_)
      go_simp
      refine (textP_any _ _ _ _ _ _ (HTAB.out.below HB11.out) ht0).mono ?_
      rintro e v12 ⟨rfl, hstep⟩
      have HR12 := Lib.hid (HR11.out.below hstep HR11.out.lt)
      have HX12 := Lib.hid (HX11.out.below hstep HX11.out.lt)
      have HY12 := Lib.hid (HY11.out.below hstep HY11.out.lt)
      have HB12 := Lib.hid (Below.of _ _ _ HB11.out hstep)
      go_wp2_with fail
      refine hK.out _ _ hstep hstep.size ?_
      clear hK K
      simp only [Act.put, List.setIfInBounds_toArray, List.set_cons_zero, List.set_cons_succ]
      refine kept_call (i := 33) (d := some 78) (fuel := 16) (listed' := #[true, true, true, true, true, true, true, true, true, true, true, true, true, true, true, true, true, true, true, true, true, true, true, true, true, true, true, true, true, true, true, true, true, true, false, false, false, false, false, false, false, false, false, false, false, false, false, false, false, false]) rfl rfl (by kernel_rfl) rfl (by rfl) (fun K hK => ?_)
      go_simp
      refine (refText_any _ _ _ _ _ _ ht0).mono ?_
      rintro e v13 ⟨rfl, hstep⟩
      have HR13 := Lib.hid (HR12.out.below hstep HR12.out.lt)
      have HX13 := Lib.hid (HX12.out.below hstep HX12.out.lt)
      have HY13 := Lib.hid (HY12.out.below hstep HY12.out.lt)
      have HB13 := Lib.hid (Below.of _ _ _ HB12.out hstep)
      go_wp2_with fail
      refine hK.out _ _ hstep hstep.size ?_
      clear hK K
      simp only [Act.put, List.setIfInBounds_toArray, List.set_cons_zero, List.set_cons_succ]
      refine kept_take (i := 34) (d := some 79) (fuel := 15) (listed' := #[true, true, true, true, true, true, true, true, true, true, true, true, true, true, true, true, true, true, true, true, true, true, true, true, true, true, true, true, true, true, true, true, true, true, true, false, false, false, false, false, false, false, false, false, false, false, false, false, false, false]) (v := ?_) rfl rfl (by kernel_rfl) (by kernel_rfl) (by kernel_rfl) rfl (fun _ _ _ h => h) (by rfl) ?_ ?_
      rotate_left
      · (intro wS hSw; go_simp; try (with_reducible rfl))
      simp only [Act.put, List.setIfInBounds_toArray, List.set_cons_zero, List.set_cons_succ]
      refine kept_take (i := 35) (d := some 80) (fuel := 14) (listed' := #[true, true, true, true, true, true, true, true, true, true, true, true, true, true, true, true, true, true, true, true, true, true, true, true, true, true, true, true, true, true, true, true, true, true, true, true, false, false, false, false, false, false, false, false, false, false, false, false, false, false]) (v := ?_) rfl rfl (by kernel_rfl) (by kernel_rfl) (by kernel_rfl) rfl (fun _ _ _ h => h) (by rfl) ?_ ?_
      rotate_left
      · (intro wS hSw; go_simp; try (with_reducible rfl))
      simp only [Act.put, List.setIfInBounds_toArray, List.set_cons_zero, List.set_cons_succ]
      refine kept_take (i := 36) (d := some 81) (fuel := 13) (listed' := #[true, true, true, true, true, true, true, true, true, true, true, true, true, true, true, true, true, true, true, true, true, true, true, true, true, true, true, true, true, true, true, true, true, true, true, true, true, false, false, false, false, false, false, false, false, false, false, false, false, false]) (v := ?_) rfl rfl (by kernel_rfl) (by kernel_rfl) (by kernel_rfl) rfl (fun _ _ _ h => h) (by rfl) ?_ ?_
      rotate_left
      · (intro wS hSw; go_simp; try (with_reducible rfl))
      simp only [Act.put, List.setIfInBounds_toArray, List.set_cons_zero, List.set_cons_succ]
      refine kept_take (i := 37) (d := some 82) (fuel := 12) (listed' := #[true, true, true, true, true, true, true, true, true, true, true, true, true, true, true, true, true, true, true, true, true, true, true, true, true, true, true, true, true, true, true, true, true, true, true, true, true, true, false, false, false, false, false, false, false, false, false, false, false, false]) (v := ?_) rfl rfl (by kernel_rfl) (by kernel_rfl) (by kernel_rfl) rfl (fun _ _ _ h => h) (by rfl) ?_ ?_
      rotate_left
      · (intro wS hSw; have hz := (fun W (hW : Below _ _ W) => (HX13.out.below hW HX13.out.lt).facts) wS hSw; go_simp; try (with_reducible rfl))
      simp only [Act.put, List.setIfInBounds_toArray, List.set_cons_zero, List.set_cons_succ]
      refine kept_take (i := 38) (d := some 83) (fuel := 11) (listed' := #[true, true, true, true, true, true, true, true, true, true, true, true, true, true, true, true, true, true, true, true, true, true, true, true, true, true, true, true, true, true, true, true, true, true, true, true, true, true, true, false, false, false, false, false, false, false, false, false, false, false]) (v := ?_) rfl rfl (by kernel_rfl) (by kernel_rfl) (by kernel_rfl) rfl (fun _ _ _ h => h) (by rfl) ?_ ?_
      rotate_left
      · (intro wS hSw; have hz := (fun W (hW : Below _ _ W) => (HY13.out.below hW HY13.out.lt).facts) wS hSw; go_simp; try (with_reducible rfl))
      simp only [Act.put, List.setIfInBounds_toArray, List.set_cons_zero, List.set_cons_succ]
      refine kept_take (i := 39) (d := some 84) (fuel := 10) (listed' := #[true, true, true, true, true, true, true, true, true, true, true, true, true, true, true, true, true, true, true, true, true, true, true, true, true, true, true, true, true, true, true, true, true, true, true, true, true, true, true, true, false, false, false, false, false, false, false, false, false, false]) (v := ?_) rfl rfl (by kernel_rfl) (by kernel_rfl) (by kernel_rfl) rfl (fun _ _ _ h => h) (by rfl) ?_ ?_
      rotate_left
      · (intro wS hSw; go_simp; try (with_reducible rfl))
      simp only [Act.put, List.setIfInBounds_toArray, List.set_cons_zero, List.set_cons_succ]
      refine kept_take (i := 40) (d := some 85) (fuel := 9) (listed' := #[true, true, true, true, true, true, true, true, true, true, true, true, true, true, true, true, true, true, true, true, true, true, true, true, true, true, true, true, true, true, true, true, true, true, true, true, true, true, true, true, true, false, false, false, false, false, false, false, false, false]) (v := ?_) rfl rfl (by kernel_rfl) (by kernel_rfl) (by kernel_rfl) rfl (fun _ _ _ h => h) (by rfl) ?_ ?_
      rotate_left
      · (intro wS hSw; go_simp; try (with_reducible rfl))
      simp only [Act.put, List.setIfInBounds_toArray, List.set_cons_zero, List.set_cons_succ]
      refine kept_take (i := 41) (d := some 86) (fuel := 8) (listed' := #[true, true, true, true, true, true, true, true, true, true, true, true, true, true, true, true, true, true, true, true, true, true, true, true, true, true, true, true, true, true, true, true, true, true, true, true, true, true, true, true, true, true, false, false, false, false, false, false, false, false]) (v := ?_) rfl rfl (by kernel_rfl) (by kernel_rfl) (by kernel_rfl) rfl (fun _ _ _ h => h) (by rfl) ?_ ?_
      rotate_left
      · (intro wS hSw; go_simp; try (with_reducible rfl))
      simp only [Act.put, List.setIfInBounds_toArray, List.set_cons_zero, List.set_cons_succ]
      refine kept_take (i := 42) (d := some 87) (fuel := 7) (listed' := #[true, true, true, true, true, true, true, true, true, true, true, true, true, true, true, true, true, true, true, true, true, true, true, true, true, true, true, true, true, true, true, true, true, true, true, true, true, true, true, true, true, true, true, false, false, false, false, false, false, false]) (v := ?_) rfl rfl (by kernel_rfl) (by kernel_rfl) (by kernel_rfl) rfl (fun _ _ _ h => h) (by rfl) ?_ ?_
      rotate_left
      · (intro wS hSw; go_simp; try (with_reducible rfl))
      simp only [Act.put, List.setIfInBounds_toArray, List.set_cons_zero, List.set_cons_succ]
      refine kept_take (i := 43) (d := some 88) (fuel := 6) (listed' := #[true, true, true, true, true, true, true, true, true, true, true, true, true, true, true, true, true, true, true, true, true, true, true, true, true, true, true, true, true, true, true, true, true, true, true, true, true, true, true, true, true, true, true, true, false, false, false, false, false, false]) (v := ?_) rfl rfl (by kernel_rfl) (by kernel_rfl) (by kernel_rfl) rfl (fun _ _ _ h => h) (by rfl) ?_ ?_
      rotate_left
      · (intro wS hSw; go_simp; try (with_reducible rfl))
      simp only [Act.put, List.setIfInBounds_toArray, List.set_cons_zero, List.set_cons_succ]
      refine kept_take (i := 44) (d := some 89) (fuel := 5) (listed' := #[true, true, true, true, true, true, true, true, true, true, true, true, true, true, true, true, true, true, true, true, true, true, true, true, true, true, true, true, true, true, true, true, true, true, true, true, true, true, true, true, true, true, true, true, true, false, false, false, false, false]) (v := ?_) rfl rfl (by kernel_rfl) (by kernel_rfl) (by kernel_rfl) rfl (fun _ _ _ h => h) (by rfl) ?_ ?_
      rotate_left
      · (intro wS hSw; go_simp; try (with_reducible rfl))
      simp only [Act.put, List.setIfInBounds_toArray, List.set_cons_zero, List.set_cons_succ]
      refine kept_take (i := 45) (d := some 90) (fuel := 4) (listed' := #[true, true, true, true, true, true, true, true, true, true, true, true, true, true, true, true, true, true, true, true, true, true, true, true, true, true, true, true, true, true, true, true, true, true, true, true, true, true, true, true, true, true, true, true, true, true, false, false, false, false]) (v := ?_) rfl rfl (by kernel_rfl) (by kernel_rfl) (by kernel_rfl) rfl (fun _ _ _ h => h) (by rfl) ?_ ?_
      rotate_left
      · (intro wS hSw; go_simp; try (with_reducible rfl))
      simp only [Act.put, List.setIfInBounds_toArray, List.set_cons_zero, List.set_cons_succ]
      refine kept_take (i := 46) (d := some 91) (fuel := 3) (listed' := #[true, true, true, true, true, true, true, true, true, true, true, true, true, true, true, true, true, true, true, true, true, true, true, true, true, true, true, true, true, true, true, true, true, true, true, true, true, true, true, true, true, true, true, true, true, true, true, false, false, false]) (v := ?_) rfl rfl (by kernel_rfl) (by kernel_rfl) (by kernel_rfl) rfl (fun _ _ _ h => h) (by rfl) ?_ ?_
      rotate_left
      · (intro wS hSw; go_simp; try (with_reducible rfl))
      simp only [Act.put, List.setIfInBounds_toArray, List.set_cons_zero, List.set_cons_succ]
      refine kept_call (i := 47) (d := some 92) (fuel := 2) (listed' := #[true, true, true, true, true, true, true, true, true, true, true, true, true, true, true, true, true, true, true, true, true, true, true, true, true, true, true, true, true, true, true, true, true, true, true, true, true, true, true, true, true, true, true, true, true, true, true, true, false, false]) rfl rfl (by kernel_rfl) rfl (by rfl) (fun K hK => ?_)
      go_simp
      refine (awake_any _).mono ?_
      rintro e v14 ⟨rfl, hstep⟩
      have HR14 := Lib.hid (HR13.out.below hstep HR13.out.lt)
      have HX14 := Lib.hid (HX13.out.below hstep HX13.out.lt)
      have HY14 := Lib.hid (HY13.out.below hstep HY13.out.lt)
      have HB14 := Lib.hid (Below.of _ _ _ HB13.out hstep)
      go_wp2_with fail
      refine hK.out _ _ hstep hstep.size ?_
      clear hK K
      simp only [Act.put, List.setIfInBounds_toArray, List.set_cons_zero, List.set_cons_succ]
      refine kept_take (i := 48) (d := some 93) (fuel := 1) (listed' := #[true, true, true, true, true, true, true, true, true, true, true, true, true, true, true, true, true, true, true, true, true, true, true, true, true, true, true, true, true, true, true, true, true, true, true, true, true, true, true, true, true, true, true, true, true, true, true, true, true, false]) (v := ?_) rfl rfl (by kernel_rfl) (by kernel_rfl) (by kernel_rfl) rfl (fun _ _ _ h => h) (by rfl) ?_ ?_
      rotate_left
      · (intro wS hSw; go_simp; try (with_reducible rfl))
      simp only [Act.put, List.setIfInBounds_toArray, List.set_cons_zero, List.set_cons_succ]
      refine kept_take (i := 49) (d := some 6) (fuel := 0) (listed' := #[true, true, true, true, true, true, true, true, true, true, true, true, true, true, true, true, true, true, true, true, true, true, true, true, true, true, true, true, true, true, true, true, true, true, true, true, true, true, true, true, true, true, true, true, true, true, true, true, true, true]) (v := ?_) rfl rfl (by kernel_rfl) (by kernel_rfl) (by kernel_rfl) rfl (fun _ _ _ h => h) (by rfl) ?_ ?_
      rotate_left
      · (intro wS hSw; go_simp; try (with_reducible rfl))
      simp only [Act.put, List.setIfInBounds_toArray, List.set_cons_zero, List.set_cons_succ]
      refine wpAnyH_done (by kernel_rfl) ?_ _
      go_wp2_with fail
      go_ret
      exact ⟨rfl, HB14.out⟩
end Go.Proofs.YtocoldcgnppfhaaDoor
