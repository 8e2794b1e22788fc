/-
  Layer 3, the program: a reference's text.
-/
import Derived.Test.YtocoldcgnppfhaaDoorAddrX
namespace Go.Proofs.YtocoldcgnppfhaaDoor
open Go.RowKit

theorem own8_eq {w : World} {base : Nat} {v : Value} {xs ys : List Int} (h : Own8 w base v xs) (e : xs = ys) : Own8 w base v ys := by rw [← e]; exact h
theorem refDrew {w : World} {b : Nat} {s : ByteArray} {c r : Int} {ac ar : Bool} (h : RefAt w b s c r ac ar) : RefAt w.drew b s c r ac ar := h
theorem Tab.drew {w : World} (h : Tab w) : Tab w.drew := h
theorem below_undrew {w w' : World} (h : Below w.drew.heap.size w.drew w') : Below w.heap.size w w' := ⟨h.os, h.tape, h.output, h.size, h.block⟩
theorem itoa_eq {x : Int} {k : Nat} (h : x = (k : Int)) (h1 : k ≤ 9223372036854775807) (w : World) (ht : Tab w) :
    Calls Tryd.prog 30 #[.int .i64 x] w fun e w' => e = .returned (.string (strOfNums (digL k))) ∧ Below w.heap.size w w' := by subst h; exact itoa_any k h1 w ht
theorem str8_eq {w : World} {base : Nat} {v : Value} {xs : List Int} {t : ByteArray} (e : strOfNums xs = t) (h : Own8 w base v xs) : (convert 42 9 v).run Tryd.prog w = .ok (.string t) w := by rw [← e]; exact run_str8 h
theorem sb_colL (c : Int) : sb (strOfNums (colL c)) = colL c := sb_str _ (bytes_colL c)
set_option maxRecDepth 100000 in
set_option maxHeartbeats 1000000 in
theorem text_enn_p (s : ByteArray) (c r : Int) (k : Nat) (w : World) (htab : Tab w) (_hs : s.size ≤ 1000000) (h0 : s.size = 0) (hm : mayL (sb s) c r = true) (hc0 : 0 ≤ c) (hc1 : c ≤ 701) (hr0 : 0 ≤ r) (hr1 : r ≤ 998) (hk : r + 1 = (k : Int)) (hz1 : (strOfNums (colL c)).size ≤ 2) (hz2 : (strOfNums (digL k)).size ≤ 1000) :
    Calls Tryd.prog 16 #[.agg #[.string s, .int .i64 c, .int .i64 r, .bool false, .bool false]] w fun e w' => e = .returned (.string (strOfNums (textL (sb s) c r false false))) ∧ Below w.heap.size w w' := by
  have hk2 : (r + 1).toNat = k := by omega
  have he : sb s = [] := List.eq_nil_of_length_eq_zero (by rw [length_sb]; exact h0)
  have ht : (([]) ++ sb (strOfNums (colL c))) ++ digL k = textL (sb s) c r false false := by unfold textL; rw [if_pos hm, hk2, if_pos he, sb_colL]; simp
  have HT := Lib.hid ht; clear ht hk2 he
  obtain ⟨tt, htt⟩ : ∃ t, strOfNums (([]) ++ sb (strOfNums (colL c))) = t := ⟨_, rfl⟩
  have hzt : tt.size ≤ 1000100 := by rw [← htt, strOfNums_size]; simp only [List.length_append, List.length_nil, length_sb]; omega
  have HTT := Lib.hid htt; clear htt
  have HSUM := Lib.hid (show ¬ 9223372036854775807 < tt.size + (strOfNums (digL k)).size by omega)
  have := sb_nil s h0
  subst this
  clear h0
  have hR0 := RefAt.new w ⟨#[]⟩ c r false false
  have HR0 := Lib.hid hR0; clear hR0
  have H0 := Lib.hid ((Below.refl w.heap.size w).alloc (Nat.le_refl _) (.cells #[.string ⟨#[]⟩, .int .i64 c, .int .i64 r, .bool false, .bool false] 23))
  have HTAB := Lib.hid htab; clear htab
  have hk9 : k ≤ 999 := by omega
  have hwr : IntKind.i64.wrap (r + 1) = r + 1 := by rw [IntKind.wrap_i64]; omega
  have HK := Lib.hid hk; clear hk
  go_enter Tryd.func16, Tryd.ntmps16
  go_wp2_with (first
    | (go_at_call 14; ((with_reducible refine (may_any _ _ _ _ _ _ ?_).mono ?_); (first | omega | skip); rintro e w1 ⟨rfl, h1⟩; have hR1 := HR0.out.below h1 HR0.out.lt; obtain ⟨x0, x1, x2, x3, x4⟩ := hR1.facts; have HR1 := Lib.hid hR1; clear hR1; have HO := Lib.hid (Own.nil (encInt .u8) 5 w1 w1.heap.size); have HB := Lib.hid (Below.refl w1.heap.size w1); have H1 := Lib.hid h1; clear h1))
    | (go_at_call 12; ((with_reducible refine (col_any _ ?_ ?_ _).mono ?_); (first | omega | skip); (first | omega | skip); rintro e w2 ⟨rfl, rfl⟩))
    | (at_builtin; refine wpList_app_src Elem.u8 (encInt .u8) rfl (.tmp 21) (.tmp 24) rfl w1.heap.size _ _ rfl HO.out (.string (strOfNums (colL c))) (strOfNums (colL c)).size (sb (strOfNums (colL c))) rfl (length_sb (strOfNums (colL c))) (src_text (strOfNums (colL c))) ?_ ?_ ?_ ?_; (simp only [List.length_nil]; omega); (simp only [List.length_nil]; unfold maxLen; omega); exact HB.out.size; intro v3 w3 h1 h2; have HO := Lib.hid h1; clear h1; have HB := Lib.hid (HB.out.trans h2); clear h2; clear x0 x1 x2 x3 x4; obtain ⟨x0, x1, x2, x3, x4⟩ := (HR1.out.below (HB.out) HR1.out.lt).facts))
  refine kept_start (by kernel_rfl) ?_
  show wpAnyH _ _ _ _ _ 8 #[false, false, false, false, false, false, false, false] _ _
  refine kept_take (i := 0) (d := some 31) (fuel := 7) (listed' := #[true, false, false, false, false, false, false, false]) (v := ?_) rfl rfl (by kernel_rfl) (by kernel_rfl) (by kernel_rfl) rfl (fun _ _ _ h => h) (by rfl) ?_ ?_
  rotate_left
  · (intro wS hSw; go_simp; try (with_reducible rfl))
  simp only [Act.put, List.setIfInBounds_toArray, List.set_cons_zero, List.set_cons_succ]
  refine kept_take (i := 1) (d := some 32) (fuel := 6) (listed' := #[true, true, false, false, false, false, false, false]) (v := ?_) rfl rfl (by kernel_rfl) (by kernel_rfl) (by kernel_rfl) rfl (fun _ _ _ h => h) (by rfl) ?_ ?_
  rotate_left
  · (intro wS hSw; have hz := (fun W (hW : Below _ _ W) => str8_eq HTT.out (Own.below (Own.drew HO.out) hW (Nat.le_refl _))) wS hSw; go_simp; try (with_reducible rfl))
  simp only [Act.put, List.setIfInBounds_toArray, List.set_cons_zero, List.set_cons_succ]
  refine kept_take (i := 2) (d := some 33) (fuel := 5) (listed' := #[true, true, true, false, false, false, false, false]) (v := ?_) rfl rfl (by kernel_rfl) (by kernel_rfl) (by kernel_rfl) rfl (fun _ _ _ h => h) (by rfl) ?_ ?_
  rotate_left
  · (intro wS hSw; go_simp; try (with_reducible rfl))
  simp only [Act.put, List.setIfInBounds_toArray, List.set_cons_zero, List.set_cons_succ]
  refine kept_take (i := 3) (d := some 34) (fuel := 4) (listed' := #[true, true, true, true, false, false, false, false]) (v := ?_) rfl rfl (by kernel_rfl) (by kernel_rfl) (by kernel_rfl) rfl (fun _ _ _ h => h) (by rfl) ?_ ?_
  rotate_left
  · (intro wS hSw; have hz := (fun W (hW : Below _ _ W) => ((refDrew (HR1.out.below HB.out HR1.out.lt)).below hW (Nat.lt_of_lt_of_le HR1.out.lt HB.out.size)).facts) wS hSw; go_simp; try (with_reducible rfl))
  simp only [Act.put, List.setIfInBounds_toArray, List.set_cons_zero, List.set_cons_succ]
  refine kept_take (i := 4) (d := some 35) (fuel := 3) (listed' := #[true, true, true, true, true, false, false, false]) (v := ?_) rfl rfl (by kernel_rfl) (by kernel_rfl) (by kernel_rfl) rfl (fun _ _ _ h => h) (by rfl) ?_ ?_
  rotate_left
  · (intro wS hSw; go_simp; try (with_reducible rfl))
  simp only [Act.put, List.setIfInBounds_toArray, List.set_cons_zero, List.set_cons_succ]
  refine kept_call (i := 5) (d := some 36) (fuel := 2) (listed' := #[true, true, true, true, true, true, false, false]) rfl rfl (by kernel_rfl) rfl (by rfl) (fun K hK => ?_)
  go_simp
  refine (itoa_eq HK.out (by omega) _ (Tab.drew (((HTAB.out.below H0.out).below H1.out).below HB.out))).mono ?_
  rintro e w4 ⟨rfl, hstep⟩
  have HB4 := Lib.hid (below_undrew hstep)
  go_wp2_with fail
  refine hK.out _ _ hstep hstep.size ?_
  clear hK K
  simp only [Act.put, List.setIfInBounds_toArray, List.set_cons_zero, List.set_cons_succ]
  refine kept_take (i := 6) (d := some 37) (fuel := 1) (listed' := #[true, true, true, true, true, true, true, false]) (v := ?_) rfl rfl (by kernel_rfl) (by kernel_rfl) (by kernel_rfl) rfl (fun _ _ _ h => h) (by rfl) ?_ ?_
  rotate_left
  · (intro wS hSw; have hz := (fun (_ : World) (_ : Below _ _ _) => HSUM.out) wS hSw; go_simp; try (with_reducible rfl))
  simp only [Act.put, List.setIfInBounds_toArray, List.set_cons_zero, List.set_cons_succ]
  refine kept_take (i := 7) (d := some 2) (fuel := 0) (listed' := #[true, true, true, true, true, true, true, true]) (v := ?_) rfl rfl (by kernel_rfl) (by kernel_rfl) (by kernel_rfl) rfl (fun _ _ _ h => h) (by rfl) ?_ ?_
  rotate_left
  · (intro wS hSw; go_simp; try (with_reducible rfl))
  simp only [Act.put, List.setIfInBounds_toArray, List.set_cons_zero, List.set_cons_succ]
  refine wpAnyH_done (by kernel_rfl) ?_ _
  go_wp2_with fail
  go_ret
  exact ⟨ret_str (by rw [← HTT.out]; exact (str_append _ _).trans (congrArg strOfNums HT.out)), below3 H0.out H1.out HB.out HB4.out⟩

set_option maxRecDepth 100000 in
set_option maxHeartbeats 1000000 in
theorem text_end_p (s : ByteArray) (c r : Int) (k : Nat) (w : World) (htab : Tab w) (_hs : s.size ≤ 1000000) (h0 : s.size = 0) (hm : mayL (sb s) c r = true) (hc0 : 0 ≤ c) (hc1 : c ≤ 701) (hr0 : 0 ≤ r) (hr1 : r ≤ 998) (hk : r + 1 = (k : Int)) (hz1 : (strOfNums (colL c)).size ≤ 2) (hz2 : (strOfNums (digL k)).size ≤ 1000) :
    Calls Tryd.prog 16 #[.agg #[.string s, .int .i64 c, .int .i64 r, .bool false, .bool true]] w fun e w' => e = .returned (.string (strOfNums (textL (sb s) c r false true))) ∧ Below w.heap.size w w' := by
  have hk2 : (r + 1).toNat = k := by omega
  have he : sb s = [] := List.eq_nil_of_length_eq_zero (by rw [length_sb]; exact h0)
  have ht : ((([]) ++ sb (strOfNums (colL c))) ++ [36]) ++ digL k = textL (sb s) c r false true := by unfold textL; rw [if_pos hm, hk2, if_pos he, sb_colL]; simp
  have HT := Lib.hid ht; clear ht hk2 he
  obtain ⟨tt, htt⟩ : ∃ t, strOfNums ((([]) ++ sb (strOfNums (colL c))) ++ [36]) = t := ⟨_, rfl⟩
  have hzt : tt.size ≤ 1000100 := by rw [← htt, strOfNums_size]; simp only [List.length_append, List.length_nil, length_sb, List.length_cons]; omega
  have HTT := Lib.hid htt; clear htt
  have HSUM := Lib.hid (show ¬ 9223372036854775807 < tt.size + (strOfNums (digL k)).size by omega)
  have := sb_nil s h0
  subst this
  clear h0
  have hR0 := RefAt.new w ⟨#[]⟩ c r false true
  have HR0 := Lib.hid hR0; clear hR0
  have H0 := Lib.hid ((Below.refl w.heap.size w).alloc (Nat.le_refl _) (.cells #[.string ⟨#[]⟩, .int .i64 c, .int .i64 r, .bool false, .bool true] 23))
  have HTAB := Lib.hid htab; clear htab
  have hk9 : k ≤ 999 := by omega
  have hwr : IntKind.i64.wrap (r + 1) = r + 1 := by rw [IntKind.wrap_i64]; omega
  have HK := Lib.hid hk; clear hk
  go_enter Tryd.func16, Tryd.ntmps16
  go_wp2_with (first
    | (go_at_call 14; ((with_reducible refine (may_any _ _ _ _ _ _ ?_).mono ?_); (first | omega | skip); rintro e w1 ⟨rfl, h1⟩; have hR1 := HR0.out.below h1 HR0.out.lt; obtain ⟨x0, x1, x2, x3, x4⟩ := hR1.facts; have HR1 := Lib.hid hR1; clear hR1; have HO := Lib.hid (Own.nil (encInt .u8) 5 w1 w1.heap.size); have HB := Lib.hid (Below.refl w1.heap.size w1); have H1 := Lib.hid h1; clear h1))
    | (go_at_call 12; ((with_reducible refine (col_any _ ?_ ?_ _).mono ?_); (first | omega | skip); (first | omega | skip); rintro e w2 ⟨rfl, rfl⟩))
    | (at_builtin; refine wpList_app_src Elem.u8 (encInt .u8) rfl (.tmp 21) (.tmp 24) rfl w1.heap.size _ _ rfl HO.out (.string (strOfNums (colL c))) (strOfNums (colL c)).size (sb (strOfNums (colL c))) rfl (length_sb (strOfNums (colL c))) (src_text (strOfNums (colL c))) ?_ ?_ ?_ ?_; (simp only [List.length_nil]; omega); (simp only [List.length_nil]; unfold maxLen; omega); exact HB.out.size; intro v3 w3 h1 h2; have HO := Lib.hid h1; clear h1; have HB := Lib.hid (HB.out.trans h2); clear h2; clear x0 x1 x2 x3 x4; obtain ⟨x0, x1, x2, x3, x4⟩ := (HR1.out.below (HB.out) HR1.out.lt).facts)
    | (at_builtin; refine wpList_app Elem.u8 (encInt .u8) rfl (.tmp 28) (.tmp 29) rfl w1.heap.size _ _ rfl (HO.out.alloc _) ⟨_, 0, none⟩ 1 1 [36] rfl rfl ?_ ?_ ?_ ?_ ?_; exact cells_new _ _ _ rfl; (simp only [List.length_nil, List.length_append, length_sb]; omega); (simp only [List.length_nil, List.length_append, length_sb]; unfold maxLen; omega); (have := HB.out.size; simp <;> omega); intro v3 w3 h1 h2; have HO := Lib.hid h1; clear h1; have HB := Lib.hid ((HB.out.alloc HB.out.size _).trans h2); clear h2; clear x0 x1 x2 x3 x4; obtain ⟨x0, x1, x2, x3, x4⟩ := (HR1.out.below (HB.out) HR1.out.lt).facts))
  refine kept_start (by kernel_rfl) ?_
  show wpAnyH _ _ _ _ _ 8 #[false, false, false, false, false, false, false, false] _ _
  refine kept_take (i := 0) (d := some 31) (fuel := 7) (listed' := #[true, false, false, false, false, false, false, false]) (v := ?_) rfl rfl (by kernel_rfl) (by kernel_rfl) (by kernel_rfl) rfl (fun _ _ _ h => h) (by rfl) ?_ ?_
  rotate_left
  · (intro wS hSw; go_simp; try (with_reducible rfl))
  simp only [Act.put, List.setIfInBounds_toArray, List.set_cons_zero, List.set_cons_succ]
  refine kept_take (i := 1) (d := some 32) (fuel := 6) (listed' := #[true, true, false, false, false, false, false, false]) (v := ?_) rfl rfl (by kernel_rfl) (by kernel_rfl) (by kernel_rfl) rfl (fun _ _ _ h => h) (by rfl) ?_ ?_
  rotate_left
  · (intro wS hSw; have hz := (fun W (hW : Below _ _ W) => str8_eq HTT.out (Own.below (Own.drew HO.out) hW (Nat.le_refl _))) wS hSw; go_simp; try (with_reducible rfl))
  simp only [Act.put, List.setIfInBounds_toArray, List.set_cons_zero, List.set_cons_succ]
  refine kept_take (i := 2) (d := some 33) (fuel := 5) (listed' := #[true, true, true, false, false, false, false, false]) (v := ?_) rfl rfl (by kernel_rfl) (by kernel_rfl) (by kernel_rfl) rfl (fun _ _ _ h => h) (by rfl) ?_ ?_
  rotate_left
  · (intro wS hSw; go_simp; try (with_reducible rfl))
  simp only [Act.put, List.setIfInBounds_toArray, List.set_cons_zero, List.set_cons_succ]
  refine kept_take (i := 3) (d := some 34) (fuel := 4) (listed' := #[true, true, true, true, false, false, false, false]) (v := ?_) rfl rfl (by kernel_rfl) (by kernel_rfl) (by kernel_rfl) rfl (fun _ _ _ h => h) (by rfl) ?_ ?_
  rotate_left
  · (intro wS hSw; have hz := (fun W (hW : Below _ _ W) => ((refDrew (HR1.out.below HB.out HR1.out.lt)).below hW (Nat.lt_of_lt_of_le HR1.out.lt HB.out.size)).facts) wS hSw; go_simp; try (with_reducible rfl))
  simp only [Act.put, List.setIfInBounds_toArray, List.set_cons_zero, List.set_cons_succ]
  refine kept_take (i := 4) (d := some 35) (fuel := 3) (listed' := #[true, true, true, true, true, false, false, false]) (v := ?_) rfl rfl (by kernel_rfl) (by kernel_rfl) (by kernel_rfl) rfl (fun _ _ _ h => h) (by rfl) ?_ ?_
  rotate_left
  · (intro wS hSw; go_simp; try (with_reducible rfl))
  simp only [Act.put, List.setIfInBounds_toArray, List.set_cons_zero, List.set_cons_succ]
  refine kept_call (i := 5) (d := some 36) (fuel := 2) (listed' := #[true, true, true, true, true, true, false, false]) rfl rfl (by kernel_rfl) rfl (by rfl) (fun K hK => ?_)
  go_simp
  refine (itoa_eq HK.out (by omega) _ (Tab.drew (((HTAB.out.below H0.out).below H1.out).below HB.out))).mono ?_
  rintro e w4 ⟨rfl, hstep⟩
  have HB4 := Lib.hid (below_undrew hstep)
  go_wp2_with fail
  refine hK.out _ _ hstep hstep.size ?_
  clear hK K
  simp only [Act.put, List.setIfInBounds_toArray, List.set_cons_zero, List.set_cons_succ]
  refine kept_take (i := 6) (d := some 37) (fuel := 1) (listed' := #[true, true, true, true, true, true, true, false]) (v := ?_) rfl rfl (by kernel_rfl) (by kernel_rfl) (by kernel_rfl) rfl (fun _ _ _ h => h) (by rfl) ?_ ?_
  rotate_left
  · (intro wS hSw; have hz := (fun (_ : World) (_ : Below _ _ _) => HSUM.out) wS hSw; go_simp; try (with_reducible rfl))
  simp only [Act.put, List.setIfInBounds_toArray, List.set_cons_zero, List.set_cons_succ]
  refine kept_take (i := 7) (d := some 2) (fuel := 0) (listed' := #[true, true, true, true, true, true, true, true]) (v := ?_) rfl rfl (by kernel_rfl) (by kernel_rfl) (by kernel_rfl) rfl (fun _ _ _ h => h) (by rfl) ?_ ?_
  rotate_left
  · (intro wS hSw; go_simp; try (with_reducible rfl))
  simp only [Act.put, List.setIfInBounds_toArray, List.set_cons_zero, List.set_cons_succ]
  refine wpAnyH_done (by kernel_rfl) ?_ _
  go_wp2_with fail
  go_ret
  exact ⟨ret_str (by rw [← HTT.out]; exact (str_append _ _).trans (congrArg strOfNums HT.out)), below3 H0.out H1.out HB.out HB4.out⟩

set_option maxRecDepth 100000 in
set_option maxHeartbeats 1000000 in
theorem text_edn_p (s : ByteArray) (c r : Int) (k : Nat) (w : World) (htab : Tab w) (_hs : s.size ≤ 1000000) (h0 : s.size = 0) (hm : mayL (sb s) c r = true) (hc0 : 0 ≤ c) (hc1 : c ≤ 701) (hr0 : 0 ≤ r) (hr1 : r ≤ 998) (hk : r + 1 = (k : Int)) (hz1 : (strOfNums (colL c)).size ≤ 2) (hz2 : (strOfNums (digL k)).size ≤ 1000) :
    Calls Tryd.prog 16 #[.agg #[.string s, .int .i64 c, .int .i64 r, .bool true, .bool false]] w fun e w' => e = .returned (.string (strOfNums (textL (sb s) c r true false))) ∧ Below w.heap.size w w' := by
  have hk2 : (r + 1).toNat = k := by omega
  have he : sb s = [] := List.eq_nil_of_length_eq_zero (by rw [length_sb]; exact h0)
  have ht : ((([]) ++ [36]) ++ sb (strOfNums (colL c))) ++ digL k = textL (sb s) c r true false := by unfold textL; rw [if_pos hm, hk2, if_pos he, sb_colL]; simp
  have HT := Lib.hid ht; clear ht hk2 he
  obtain ⟨tt, htt⟩ : ∃ t, strOfNums ((([]) ++ [36]) ++ sb (strOfNums (colL c))) = t := ⟨_, rfl⟩
  have hzt : tt.size ≤ 1000100 := by rw [← htt, strOfNums_size]; simp only [List.length_append, List.length_nil, length_sb, List.length_cons]; omega
  have HTT := Lib.hid htt; clear htt
  have HSUM := Lib.hid (show ¬ 9223372036854775807 < tt.size + (strOfNums (digL k)).size by omega)
  have := sb_nil s h0
  subst this
  clear h0
  have hR0 := RefAt.new w ⟨#[]⟩ c r true false
  have HR0 := Lib.hid hR0; clear hR0
  have H0 := Lib.hid ((Below.refl w.heap.size w).alloc (Nat.le_refl _) (.cells #[.string ⟨#[]⟩, .int .i64 c, .int .i64 r, .bool true, .bool false] 23))
  have HTAB := Lib.hid htab; clear htab
  have hk9 : k ≤ 999 := by omega
  have hwr : IntKind.i64.wrap (r + 1) = r + 1 := by rw [IntKind.wrap_i64]; omega
  have HK := Lib.hid hk; clear hk
  go_enter Tryd.func16, Tryd.ntmps16
  go_wp2_with (first
    | (go_at_call 14; ((with_reducible refine (may_any _ _ _ _ _ _ ?_).mono ?_); (first | omega | skip); rintro e w1 ⟨rfl, h1⟩; have hR1 := HR0.out.below h1 HR0.out.lt; obtain ⟨x0, x1, x2, x3, x4⟩ := hR1.facts; have HR1 := Lib.hid hR1; clear hR1; have HO := Lib.hid (Own.nil (encInt .u8) 5 w1 w1.heap.size); have HB := Lib.hid (Below.refl w1.heap.size w1); have H1 := Lib.hid h1; clear h1))
    | (at_builtin; refine wpList_app Elem.u8 (encInt .u8) rfl (.tmp 18) (.tmp 19) rfl w1.heap.size _ _ rfl (HO.out.alloc _) ⟨_, 0, none⟩ 1 1 [36] rfl rfl ?_ ?_ ?_ ?_ ?_; exact cells_new _ _ _ rfl; (decide); (unfold maxLen; decide); (have := HB.out.size; simp <;> omega); intro v3 w3 h1 h2; have HO := Lib.hid h1; clear h1; have HB := Lib.hid ((HB.out.alloc HB.out.size _).trans h2); clear h2; clear x0 x1 x2 x3 x4; obtain ⟨x0, x1, x2, x3, x4⟩ := (HR1.out.below (HB.out) HR1.out.lt).facts)
    | (go_at_call 12; ((with_reducible refine (col_any _ ?_ ?_ _).mono ?_); (first | omega | skip); (first | omega | skip); rintro e w2 ⟨rfl, rfl⟩))
    | (at_builtin; refine wpList_app_src Elem.u8 (encInt .u8) rfl (.tmp 21) (.tmp 24) rfl w1.heap.size _ _ rfl HO.out (.string (strOfNums (colL c))) (strOfNums (colL c)).size (sb (strOfNums (colL c))) rfl (length_sb (strOfNums (colL c))) (src_text (strOfNums (colL c))) ?_ ?_ ?_ ?_; (simp only [List.length_nil, List.length_append, List.length_cons]; omega); (simp only [List.length_nil, List.length_append, List.length_cons]; unfold maxLen; omega); exact HB.out.size; intro v3 w3 h1 h2; have HO := Lib.hid h1; clear h1; have HB := Lib.hid (HB.out.trans h2); clear h2; clear x0 x1 x2 x3 x4; obtain ⟨x0, x1, x2, x3, x4⟩ := (HR1.out.below (HB.out) HR1.out.lt).facts))
  refine kept_start (by kernel_rfl) ?_
  show wpAnyH _ _ _ _ _ 8 #[false, false, false, false, false, false, false, false] _ _
  refine kept_take (i := 0) (d := some 31) (fuel := 7) (listed' := #[true, false, false, false, false, false, false, false]) (v := ?_) rfl rfl (by kernel_rfl) (by kernel_rfl) (by kernel_rfl) rfl (fun _ _ _ h => h) (by rfl) ?_ ?_
  rotate_left
  · (intro wS hSw; go_simp; try (with_reducible rfl))
  simp only [Act.put, List.setIfInBounds_toArray, List.set_cons_zero, List.set_cons_succ]
  refine kept_take (i := 1) (d := some 32) (fuel := 6) (listed' := #[true, true, false, false, false, false, false, false]) (v := ?_) rfl rfl (by kernel_rfl) (by kernel_rfl) (by kernel_rfl) rfl (fun _ _ _ h => h) (by rfl) ?_ ?_
  rotate_left
  · (intro wS hSw; have hz := (fun W (hW : Below _ _ W) => str8_eq HTT.out (Own.below (Own.drew HO.out) hW (Nat.le_refl _))) wS hSw; go_simp; try (with_reducible rfl))
  simp only [Act.put, List.setIfInBounds_toArray, List.set_cons_zero, List.set_cons_succ]
  refine kept_take (i := 2) (d := some 33) (fuel := 5) (listed' := #[true, true, true, false, false, false, false, false]) (v := ?_) rfl rfl (by kernel_rfl) (by kernel_rfl) (by kernel_rfl) rfl (fun _ _ _ h => h) (by rfl) ?_ ?_
  rotate_left
  · (intro wS hSw; go_simp; try (with_reducible rfl))
  simp only [Act.put, List.setIfInBounds_toArray, List.set_cons_zero, List.set_cons_succ]
  refine kept_take (i := 3) (d := some 34) (fuel := 4) (listed' := #[true, true, true, true, false, false, false, false]) (v := ?_) rfl rfl (by kernel_rfl) (by kernel_rfl) (by kernel_rfl) rfl (fun _ _ _ h => h) (by rfl) ?_ ?_
  rotate_left
  · (intro wS hSw; have hz := (fun W (hW : Below _ _ W) => ((refDrew (HR1.out.below HB.out HR1.out.lt)).below hW (Nat.lt_of_lt_of_le HR1.out.lt HB.out.size)).facts) wS hSw; go_simp; try (with_reducible rfl))
  simp only [Act.put, List.setIfInBounds_toArray, List.set_cons_zero, List.set_cons_succ]
  refine kept_take (i := 4) (d := some 35) (fuel := 3) (listed' := #[true, true, true, true, true, false, false, false]) (v := ?_) rfl rfl (by kernel_rfl) (by kernel_rfl) (by kernel_rfl) rfl (fun _ _ _ h => h) (by rfl) ?_ ?_
  rotate_left
  · (intro wS hSw; go_simp; try (with_reducible rfl))
  simp only [Act.put, List.setIfInBounds_toArray, List.set_cons_zero, List.set_cons_succ]
  refine kept_call (i := 5) (d := some 36) (fuel := 2) (listed' := #[true, true, true, true, true, true, false, false]) rfl rfl (by kernel_rfl) rfl (by rfl) (fun K hK => ?_)
  go_simp
  refine (itoa_eq HK.out (by omega) _ (Tab.drew (((HTAB.out.below H0.out).below H1.out).below HB.out))).mono ?_
  rintro e w4 ⟨rfl, hstep⟩
  have HB4 := Lib.hid (below_undrew hstep)
  go_wp2_with fail
  refine hK.out _ _ hstep hstep.size ?_
  clear hK K
  simp only [Act.put, List.setIfInBounds_toArray, List.set_cons_zero, List.set_cons_succ]
  refine kept_take (i := 6) (d := some 37) (fuel := 1) (listed' := #[true, true, true, true, true, true, true, false]) (v := ?_) rfl rfl (by kernel_rfl) (by kernel_rfl) (by kernel_rfl) rfl (fun _ _ _ h => h) (by rfl) ?_ ?_
  rotate_left
  · (intro wS hSw; have hz := (fun (_ : World) (_ : Below _ _ _) => HSUM.out) wS hSw; go_simp; try (with_reducible rfl))
  simp only [Act.put, List.setIfInBounds_toArray, List.set_cons_zero, List.set_cons_succ]
  refine kept_take (i := 7) (d := some 2) (fuel := 0) (listed' := #[true, true, true, true, true, true, true, true]) (v := ?_) rfl rfl (by kernel_rfl) (by kernel_rfl) (by kernel_rfl) rfl (fun _ _ _ h => h) (by rfl) ?_ ?_
  rotate_left
  · (intro wS hSw; go_simp; try (with_reducible rfl))
  simp only [Act.put, List.setIfInBounds_toArray, List.set_cons_zero, List.set_cons_succ]
  refine wpAnyH_done (by kernel_rfl) ?_ _
  go_wp2_with fail
  go_ret
  exact ⟨ret_str (by rw [← HTT.out]; exact (str_append _ _).trans (congrArg strOfNums HT.out)), below3 H0.out H1.out HB.out HB4.out⟩

set_option maxRecDepth 100000 in
set_option maxHeartbeats 1000000 in
theorem text_edd_p (s : ByteArray) (c r : Int) (k : Nat) (w : World) (htab : Tab w) (_hs : s.size ≤ 1000000) (h0 : s.size = 0) (hm : mayL (sb s) c r = true) (hc0 : 0 ≤ c) (hc1 : c ≤ 701) (hr0 : 0 ≤ r) (hr1 : r ≤ 998) (hk : r + 1 = (k : Int)) (hz1 : (strOfNums (colL c)).size ≤ 2) (hz2 : (strOfNums (digL k)).size ≤ 1000) :
    Calls Tryd.prog 16 #[.agg #[.string s, .int .i64 c, .int .i64 r, .bool true, .bool true]] w fun e w' => e = .returned (.string (strOfNums (textL (sb s) c r true true))) ∧ Below w.heap.size w w' := by
  have hk2 : (r + 1).toNat = k := by omega
  have he : sb s = [] := List.eq_nil_of_length_eq_zero (by rw [length_sb]; exact h0)
  have ht : (((([]) ++ [36]) ++ sb (strOfNums (colL c))) ++ [36]) ++ digL k = textL (sb s) c r true true := by unfold textL; rw [if_pos hm, hk2, if_pos he, sb_colL]; simp
  have HT := Lib.hid ht; clear ht hk2 he
  obtain ⟨tt, htt⟩ : ∃ t, strOfNums (((([]) ++ [36]) ++ sb (strOfNums (colL c))) ++ [36]) = t := ⟨_, rfl⟩
  have hzt : tt.size ≤ 1000100 := by rw [← htt, strOfNums_size]; simp only [List.length_append, List.length_nil, length_sb, List.length_cons]; omega
  have HTT := Lib.hid htt; clear htt
  have HSUM := Lib.hid (show ¬ 9223372036854775807 < tt.size + (strOfNums (digL k)).size by omega)
  have := sb_nil s h0
  subst this
  clear h0
  have hR0 := RefAt.new w ⟨#[]⟩ c r true true
  have HR0 := Lib.hid hR0; clear hR0
  have H0 := Lib.hid ((Below.refl w.heap.size w).alloc (Nat.le_refl _) (.cells #[.string ⟨#[]⟩, .int .i64 c, .int .i64 r, .bool true, .bool true] 23))
  have HTAB := Lib.hid htab; clear htab
  have hk9 : k ≤ 999 := by omega
  have hwr : IntKind.i64.wrap (r + 1) = r + 1 := by rw [IntKind.wrap_i64]; omega
  have HK := Lib.hid hk; clear hk
  go_enter Tryd.func16, Tryd.ntmps16
  go_wp2_with (first
    | (go_at_call 14; ((with_reducible refine (may_any _ _ _ _ _ _ ?_).mono ?_); (first | omega | skip); rintro e w1 ⟨rfl, h1⟩; have hR1 := HR0.out.below h1 HR0.out.lt; obtain ⟨x0, x1, x2, x3, x4⟩ := hR1.facts; have HR1 := Lib.hid hR1; clear hR1; have HO := Lib.hid (Own.nil (encInt .u8) 5 w1 w1.heap.size); have HB := Lib.hid (Below.refl w1.heap.size w1); have H1 := Lib.hid h1; clear h1))
    | (at_builtin; refine wpList_app Elem.u8 (encInt .u8) rfl (.tmp 18) (.tmp 19) rfl w1.heap.size _ _ rfl (HO.out.alloc _) ⟨_, 0, none⟩ 1 1 [36] rfl rfl ?_ ?_ ?_ ?_ ?_; exact cells_new _ _ _ rfl; (decide); (unfold maxLen; decide); (have := HB.out.size; simp <;> omega); intro v3 w3 h1 h2; have HO := Lib.hid h1; clear h1; have HB := Lib.hid ((HB.out.alloc HB.out.size _).trans h2); clear h2; clear x0 x1 x2 x3 x4; obtain ⟨x0, x1, x2, x3, x4⟩ := (HR1.out.below (HB.out) HR1.out.lt).facts)
    | (go_at_call 12; ((with_reducible refine (col_any _ ?_ ?_ _).mono ?_); (first | omega | skip); (first | omega | skip); rintro e w2 ⟨rfl, rfl⟩))
    | (at_builtin; refine wpList_app_src Elem.u8 (encInt .u8) rfl (.tmp 21) (.tmp 24) rfl w1.heap.size _ _ rfl HO.out (.string (strOfNums (colL c))) (strOfNums (colL c)).size (sb (strOfNums (colL c))) rfl (length_sb (strOfNums (colL c))) (src_text (strOfNums (colL c))) ?_ ?_ ?_ ?_; (simp only [List.length_nil, List.length_append, List.length_cons]; omega); (simp only [List.length_nil, List.length_append, List.length_cons]; unfold maxLen; omega); exact HB.out.size; intro v3 w3 h1 h2; have HO := Lib.hid h1; clear h1; have HB := Lib.hid (HB.out.trans h2); clear h2; clear x0 x1 x2 x3 x4; obtain ⟨x0, x1, x2, x3, x4⟩ := (HR1.out.below (HB.out) HR1.out.lt).facts)
    | (at_builtin; refine wpList_app Elem.u8 (encInt .u8) rfl (.tmp 28) (.tmp 29) rfl w1.heap.size _ _ rfl (HO.out.alloc _) ⟨_, 0, none⟩ 1 1 [36] rfl rfl ?_ ?_ ?_ ?_ ?_; exact cells_new _ _ _ rfl; (simp only [List.length_nil, List.length_append, List.length_cons, length_sb]; omega); (simp only [List.length_nil, List.length_append, List.length_cons, length_sb]; unfold maxLen; omega); (have := HB.out.size; simp <;> omega); intro v3 w3 h1 h2; have HO := Lib.hid h1; clear h1; have HB := Lib.hid ((HB.out.alloc HB.out.size _).trans h2); clear h2; clear x0 x1 x2 x3 x4; obtain ⟨x0, x1, x2, x3, x4⟩ := (HR1.out.below (HB.out) HR1.out.lt).facts))
  refine kept_start (by kernel_rfl) ?_
  show wpAnyH _ _ _ _ _ 8 #[false, false, false, false, false, false, false, false] _ _
  refine kept_take (i := 0) (d := some 31) (fuel := 7) (listed' := #[true, false, false, false, false, false, false, false]) (v := ?_) rfl rfl (by kernel_rfl) (by kernel_rfl) (by kernel_rfl) rfl (fun _ _ _ h => h) (by rfl) ?_ ?_
  rotate_left
  · (intro wS hSw; go_simp; try (with_reducible rfl))
  simp only [Act.put, List.setIfInBounds_toArray, List.set_cons_zero, List.set_cons_succ]
  refine kept_take (i := 1) (d := some 32) (fuel := 6) (listed' := #[true, true, false, false, false, false, false, false]) (v := ?_) rfl rfl (by kernel_rfl) (by kernel_rfl) (by kernel_rfl) rfl (fun _ _ _ h => h) (by rfl) ?_ ?_
  rotate_left
  · (intro wS hSw; have hz := (fun W (hW : Below _ _ W) => str8_eq HTT.out (Own.below (Own.drew HO.out) hW (Nat.le_refl _))) wS hSw; go_simp; try (with_reducible rfl))
  simp only [Act.put, List.setIfInBounds_toArray, List.set_cons_zero, List.set_cons_succ]
  refine kept_take (i := 2) (d := some 33) (fuel := 5) (listed' := #[true, true, true, false, false, false, false, false]) (v := ?_) rfl rfl (by kernel_rfl) (by kernel_rfl) (by kernel_rfl) rfl (fun _ _ _ h => h) (by rfl) ?_ ?_
  rotate_left
  · (intro wS hSw; go_simp; try (with_reducible rfl))
  simp only [Act.put, List.setIfInBounds_toArray, List.set_cons_zero, List.set_cons_succ]
  refine kept_take (i := 3) (d := some 34) (fuel := 4) (listed' := #[true, true, true, true, false, false, false, false]) (v := ?_) rfl rfl (by kernel_rfl) (by kernel_rfl) (by kernel_rfl) rfl (fun _ _ _ h => h) (by rfl) ?_ ?_
  rotate_left
  · (intro wS hSw; have hz := (fun W (hW : Below _ _ W) => ((refDrew (HR1.out.below HB.out HR1.out.lt)).below hW (Nat.lt_of_lt_of_le HR1.out.lt HB.out.size)).facts) wS hSw; go_simp; try (with_reducible rfl))
  simp only [Act.put, List.setIfInBounds_toArray, List.set_cons_zero, List.set_cons_succ]
  refine kept_take (i := 4) (d := some 35) (fuel := 3) (listed' := #[true, true, true, true, true, false, false, false]) (v := ?_) rfl rfl (by kernel_rfl) (by kernel_rfl) (by kernel_rfl) rfl (fun _ _ _ h => h) (by rfl) ?_ ?_
  rotate_left
  · (intro wS hSw; go_simp; try (with_reducible rfl))
  simp only [Act.put, List.setIfInBounds_toArray, List.set_cons_zero, List.set_cons_succ]
  refine kept_call (i := 5) (d := some 36) (fuel := 2) (listed' := #[true, true, true, true, true, true, false, false]) rfl rfl (by kernel_rfl) rfl (by rfl) (fun K hK => ?_)
  go_simp
  refine (itoa_eq HK.out (by omega) _ (Tab.drew (((HTAB.out.below H0.out).below H1.out).below HB.out))).mono ?_
  rintro e w4 ⟨rfl, hstep⟩
  have HB4 := Lib.hid (below_undrew hstep)
  go_wp2_with fail
  refine hK.out _ _ hstep hstep.size ?_
  clear hK K
  simp only [Act.put, List.setIfInBounds_toArray, List.set_cons_zero, List.set_cons_succ]
  refine kept_take (i := 6) (d := some 37) (fuel := 1) (listed' := #[true, true, true, true, true, true, true, false]) (v := ?_) rfl rfl (by kernel_rfl) (by kernel_rfl) (by kernel_rfl) rfl (fun _ _ _ h => h) (by rfl) ?_ ?_
  rotate_left
  · (intro wS hSw; have hz := (fun (_ : World) (_ : Below _ _ _) => HSUM.out) wS hSw; go_simp; try (with_reducible rfl))
  simp only [Act.put, List.setIfInBounds_toArray, List.set_cons_zero, List.set_cons_succ]
  refine kept_take (i := 7) (d := some 2) (fuel := 0) (listed' := #[true, true, true, true, true, true, true, true]) (v := ?_) rfl rfl (by kernel_rfl) (by kernel_rfl) (by kernel_rfl) rfl (fun _ _ _ h => h) (by rfl) ?_ ?_
  rotate_left
  · (intro wS hSw; go_simp; try (with_reducible rfl))
  simp only [Act.put, List.setIfInBounds_toArray, List.set_cons_zero, List.set_cons_succ]
  refine wpAnyH_done (by kernel_rfl) ?_ _
  go_wp2_with fail
  go_ret
  exact ⟨ret_str (by rw [← HTT.out]; exact (str_append _ _).trans (congrArg strOfNums HT.out)), below3 H0.out H1.out HB.out HB4.out⟩

set_option maxRecDepth 100000 in
set_option maxHeartbeats 1000000 in
theorem text_snn_p (s : ByteArray) (c r : Int) (k : Nat) (w : World) (htab : Tab w) (_hs : s.size ≤ 1000000) (h0 : ¬ s.size = 0) (hm : mayL (sb s) c r = true) (hc0 : 0 ≤ c) (hc1 : c ≤ 701) (hr0 : 0 ≤ r) (hr1 : r ≤ 998) (hk : r + 1 = (k : Int)) (hz1 : (strOfNums (colL c)).size ≤ 2) (hz2 : (strOfNums (digL k)).size ≤ 1000) :
    Calls Tryd.prog 16 #[.agg #[.string s, .int .i64 c, .int .i64 r, .bool false, .bool false]] w fun e w' => e = .returned (.string (strOfNums (textL (sb s) c r false false))) ∧ Below w.heap.size w w' := by
  have hk2 : (r + 1).toNat = k := by omega
  have he : ¬ sb s = [] := by intro h; have := length_sb s; rw [h] at this; exact h0 this.symm
  have ht : ((([] ++ sb s) ++ [33]) ++ sb (strOfNums (colL c))) ++ digL k = textL (sb s) c r false false := by unfold textL; rw [if_pos hm, hk2, if_neg he, sb_colL]; simp
  have HT := Lib.hid ht; clear ht hk2 he
  obtain ⟨tt, htt⟩ : ∃ t, strOfNums ((([] ++ sb s) ++ [33]) ++ sb (strOfNums (colL c))) = t := ⟨_, rfl⟩
  have hzt : tt.size ≤ 1000100 := by rw [← htt, strOfNums_size]; simp only [List.length_append, List.length_nil, length_sb, List.length_cons]; omega
  have HTT := Lib.hid htt; clear htt
  have HSUM := Lib.hid (show ¬ 9223372036854775807 < tt.size + (strOfNums (digL k)).size by omega)
  have hne := text_ne0 s h0
  have hne2 : s.toList.isEmpty = false := by cases hq : s.toList with | nil => exact absurd hq hne | cons a l => rfl
  clear h0
  have hR0 := RefAt.new w s c r false false
  have HR0 := Lib.hid hR0; clear hR0
  have H0 := Lib.hid ((Below.refl w.heap.size w).alloc (Nat.le_refl _) (.cells #[.string s, .int .i64 c, .int .i64 r, .bool false, .bool false] 23))
  have HTAB := Lib.hid htab; clear htab
  have hk9 : k ≤ 999 := by omega
  have hwr : IntKind.i64.wrap (r + 1) = r + 1 := by rw [IntKind.wrap_i64]; omega
  have HK := Lib.hid hk; clear hk
  go_enter Tryd.func16, Tryd.ntmps16
  go_wp2_with (first
    | (go_at_call 14; ((with_reducible refine (may_any _ _ _ _ _ _ ?_).mono ?_); (first | omega | skip); rintro e w1 ⟨rfl, h1⟩; have hR1 := HR0.out.below h1 HR0.out.lt; obtain ⟨x0, x1, x2, x3, x4⟩ := hR1.facts; have HR1 := Lib.hid hR1; clear hR1; have HO := Lib.hid (Own.nil (encInt .u8) 5 w1 w1.heap.size); have HB := Lib.hid (Below.refl w1.heap.size w1); have H1 := Lib.hid h1; clear h1))
    | (at_builtin; refine wpList_app_src Elem.u8 (encInt .u8) rfl (.tmp 10) (.tmp 12) rfl w1.heap.size _ _ rfl HO.out (.string s) s.size (sb s) rfl (length_sb s) (src_text s) ?_ ?_ ?_ ?_; (simp only [List.length_nil]; omega); (simp only [List.length_nil]; unfold maxLen; omega); exact HB.out.size; intro v3 w3 h1 h2; have HO := Lib.hid h1; clear h1; have HB := Lib.hid (HB.out.trans h2); clear h2; clear x0 x1 x2 x3 x4; obtain ⟨x0, x1, x2, x3, x4⟩ := (HR1.out.below (HB.out) HR1.out.lt).facts)
    | (at_builtin; refine wpList_app Elem.u8 (encInt .u8) rfl (.tmp 13) (.tmp 14) rfl w1.heap.size _ _ rfl (HO.out.alloc _) ⟨_, 0, none⟩ 1 1 [33] rfl rfl ?_ ?_ ?_ ?_ ?_; exact cells_new _ _ _ rfl; (simp only [List.length_nil, List.length_append, length_sb]; omega); (simp only [List.length_nil, List.length_append, length_sb]; unfold maxLen; omega); (have := HB.out.size; simp <;> omega); intro v3 w3 h1 h2; have HO := Lib.hid h1; clear h1; have HB := Lib.hid ((HB.out.alloc HB.out.size _).trans h2); clear h2; clear x0 x1 x2 x3 x4; obtain ⟨x0, x1, x2, x3, x4⟩ := (HR1.out.below (HB.out) HR1.out.lt).facts)
    | (go_at_call 12; ((with_reducible refine (col_any _ ?_ ?_ _).mono ?_); (first | omega | skip); (first | omega | skip); rintro e w2 ⟨rfl, rfl⟩))
    | (at_builtin; refine wpList_app_src Elem.u8 (encInt .u8) rfl (.tmp 21) (.tmp 24) rfl w1.heap.size _ _ rfl HO.out (.string (strOfNums (colL c))) (strOfNums (colL c)).size (sb (strOfNums (colL c))) rfl (length_sb (strOfNums (colL c))) (src_text (strOfNums (colL c))) ?_ ?_ ?_ ?_; (simp only [List.length_nil, List.length_append, List.length_cons, length_sb]; omega); (simp only [List.length_nil, List.length_append, List.length_cons, length_sb]; unfold maxLen; omega); exact HB.out.size; intro v3 w3 h1 h2; have HO := Lib.hid h1; clear h1; have HB := Lib.hid (HB.out.trans h2); clear h2; clear x0 x1 x2 x3 x4; obtain ⟨x0, x1, x2, x3, x4⟩ := (HR1.out.below (HB.out) HR1.out.lt).facts))
  refine kept_start (by kernel_rfl) ?_
  show wpAnyH _ _ _ _ _ 8 #[false, false, false, false, false, false, false, false] _ _
  refine kept_take (i := 0) (d := some 31) (fuel := 7) (listed' := #[true, false, false, false, false, false, false, false]) (v := ?_) rfl rfl (by kernel_rfl) (by kernel_rfl) (by kernel_rfl) rfl (fun _ _ _ h => h) (by rfl) ?_ ?_
  rotate_left
  · (intro wS hSw; go_simp; try (with_reducible rfl))
  simp only [Act.put, List.setIfInBounds_toArray, List.set_cons_zero, List.set_cons_succ]
  refine kept_take (i := 1) (d := some 32) (fuel := 6) (listed' := #[true, true, false, false, false, false, false, false]) (v := ?_) rfl rfl (by kernel_rfl) (by kernel_rfl) (by kernel_rfl) rfl (fun _ _ _ h => h) (by rfl) ?_ ?_
  rotate_left
  · (intro wS hSw; have hz := (fun W (hW : Below _ _ W) => str8_eq HTT.out (Own.below (Own.drew HO.out) hW (Nat.le_refl _))) wS hSw; go_simp; try (with_reducible rfl))
  simp only [Act.put, List.setIfInBounds_toArray, List.set_cons_zero, List.set_cons_succ]
  refine kept_take (i := 2) (d := some 33) (fuel := 5) (listed' := #[true, true, true, false, false, false, false, false]) (v := ?_) rfl rfl (by kernel_rfl) (by kernel_rfl) (by kernel_rfl) rfl (fun _ _ _ h => h) (by rfl) ?_ ?_
  rotate_left
  · (intro wS hSw; go_simp; try (with_reducible rfl))
  simp only [Act.put, List.setIfInBounds_toArray, List.set_cons_zero, List.set_cons_succ]
  refine kept_take (i := 3) (d := some 34) (fuel := 4) (listed' := #[true, true, true, true, false, false, false, false]) (v := ?_) rfl rfl (by kernel_rfl) (by kernel_rfl) (by kernel_rfl) rfl (fun _ _ _ h => h) (by rfl) ?_ ?_
  rotate_left
  · (intro wS hSw; have hz := (fun W (hW : Below _ _ W) => ((refDrew (HR1.out.below HB.out HR1.out.lt)).below hW (Nat.lt_of_lt_of_le HR1.out.lt HB.out.size)).facts) wS hSw; go_simp; try (with_reducible rfl))
  simp only [Act.put, List.setIfInBounds_toArray, List.set_cons_zero, List.set_cons_succ]
  refine kept_take (i := 4) (d := some 35) (fuel := 3) (listed' := #[true, true, true, true, true, false, false, false]) (v := ?_) rfl rfl (by kernel_rfl) (by kernel_rfl) (by kernel_rfl) rfl (fun _ _ _ h => h) (by rfl) ?_ ?_
  rotate_left
  · (intro wS hSw; go_simp; try (with_reducible rfl))
  simp only [Act.put, List.setIfInBounds_toArray, List.set_cons_zero, List.set_cons_succ]
  refine kept_call (i := 5) (d := some 36) (fuel := 2) (listed' := #[true, true, true, true, true, true, false, false]) rfl rfl (by kernel_rfl) rfl (by rfl) (fun K hK => ?_)
  go_simp
  refine (itoa_eq HK.out (by omega) _ (Tab.drew (((HTAB.out.below H0.out).below H1.out).below HB.out))).mono ?_
  rintro e w4 ⟨rfl, hstep⟩
  have HB4 := Lib.hid (below_undrew hstep)
  go_wp2_with fail
  refine hK.out _ _ hstep hstep.size ?_
  clear hK K
  simp only [Act.put, List.setIfInBounds_toArray, List.set_cons_zero, List.set_cons_succ]
  refine kept_take (i := 6) (d := some 37) (fuel := 1) (listed' := #[true, true, true, true, true, true, true, false]) (v := ?_) rfl rfl (by kernel_rfl) (by kernel_rfl) (by kernel_rfl) rfl (fun _ _ _ h => h) (by rfl) ?_ ?_
  rotate_left
  · (intro wS hSw; have hz := (fun (_ : World) (_ : Below _ _ _) => HSUM.out) wS hSw; go_simp; try (with_reducible rfl))
  simp only [Act.put, List.setIfInBounds_toArray, List.set_cons_zero, List.set_cons_succ]
  refine kept_take (i := 7) (d := some 2) (fuel := 0) (listed' := #[true, true, true, true, true, true, true, true]) (v := ?_) rfl rfl (by kernel_rfl) (by kernel_rfl) (by kernel_rfl) rfl (fun _ _ _ h => h) (by rfl) ?_ ?_
  rotate_left
  · (intro wS hSw; go_simp; try (with_reducible rfl))
  simp only [Act.put, List.setIfInBounds_toArray, List.set_cons_zero, List.set_cons_succ]
  refine wpAnyH_done (by kernel_rfl) ?_ _
  go_wp2_with fail
  go_ret
  exact ⟨ret_str (by rw [← HTT.out]; exact (str_append _ _).trans (congrArg strOfNums HT.out)), below3 H0.out H1.out HB.out HB4.out⟩

set_option maxRecDepth 100000 in
set_option maxHeartbeats 1000000 in
theorem text_snd_p (s : ByteArray) (c r : Int) (k : Nat) (w : World) (htab : Tab w) (_hs : s.size ≤ 1000000) (h0 : ¬ s.size = 0) (hm : mayL (sb s) c r = true) (hc0 : 0 ≤ c) (hc1 : c ≤ 701) (hr0 : 0 ≤ r) (hr1 : r ≤ 998) (hk : r + 1 = (k : Int)) (hz1 : (strOfNums (colL c)).size ≤ 2) (hz2 : (strOfNums (digL k)).size ≤ 1000) :
    Calls Tryd.prog 16 #[.agg #[.string s, .int .i64 c, .int .i64 r, .bool false, .bool true]] w fun e w' => e = .returned (.string (strOfNums (textL (sb s) c r false true))) ∧ Below w.heap.size w w' := by
  have hk2 : (r + 1).toNat = k := by omega
  have he : ¬ sb s = [] := by intro h; have := length_sb s; rw [h] at this; exact h0 this.symm
  have ht : (((([] ++ sb s) ++ [33]) ++ sb (strOfNums (colL c))) ++ [36]) ++ digL k = textL (sb s) c r false true := by unfold textL; rw [if_pos hm, hk2, if_neg he, sb_colL]; simp
  have HT := Lib.hid ht; clear ht hk2 he
  obtain ⟨tt, htt⟩ : ∃ t, strOfNums (((([] ++ sb s) ++ [33]) ++ sb (strOfNums (colL c))) ++ [36]) = t := ⟨_, rfl⟩
  have hzt : tt.size ≤ 1000100 := by rw [← htt, strOfNums_size]; simp only [List.length_append, List.length_nil, length_sb, List.length_cons]; omega
  have HTT := Lib.hid htt; clear htt
  have HSUM := Lib.hid (show ¬ 9223372036854775807 < tt.size + (strOfNums (digL k)).size by omega)
  have hne := text_ne0 s h0
  have hne2 : s.toList.isEmpty = false := by cases hq : s.toList with | nil => exact absurd hq hne | cons a l => rfl
  clear h0
  have hR0 := RefAt.new w s c r false true
  have HR0 := Lib.hid hR0; clear hR0
  have H0 := Lib.hid ((Below.refl w.heap.size w).alloc (Nat.le_refl _) (.cells #[.string s, .int .i64 c, .int .i64 r, .bool false, .bool true] 23))
  have HTAB := Lib.hid htab; clear htab
  have hk9 : k ≤ 999 := by omega
  have hwr : IntKind.i64.wrap (r + 1) = r + 1 := by rw [IntKind.wrap_i64]; omega
  have HK := Lib.hid hk; clear hk
  go_enter Tryd.func16, Tryd.ntmps16
  go_wp2_with (first
    | (go_at_call 14; ((with_reducible refine (may_any _ _ _ _ _ _ ?_).mono ?_); (first | omega | skip); rintro e w1 ⟨rfl, h1⟩; have hR1 := HR0.out.below h1 HR0.out.lt; obtain ⟨x0, x1, x2, x3, x4⟩ := hR1.facts; have HR1 := Lib.hid hR1; clear hR1; have HO := Lib.hid (Own.nil (encInt .u8) 5 w1 w1.heap.size); have HB := Lib.hid (Below.refl w1.heap.size w1); have H1 := Lib.hid h1; clear h1))
    | (at_builtin; refine wpList_app_src Elem.u8 (encInt .u8) rfl (.tmp 10) (.tmp 12) rfl w1.heap.size _ _ rfl HO.out (.string s) s.size (sb s) rfl (length_sb s) (src_text s) ?_ ?_ ?_ ?_; (simp only [List.length_nil]; omega); (simp only [List.length_nil]; unfold maxLen; omega); exact HB.out.size; intro v3 w3 h1 h2; have HO := Lib.hid h1; clear h1; have HB := Lib.hid (HB.out.trans h2); clear h2; clear x0 x1 x2 x3 x4; obtain ⟨x0, x1, x2, x3, x4⟩ := (HR1.out.below (HB.out) HR1.out.lt).facts)
    | (at_builtin; refine wpList_app Elem.u8 (encInt .u8) rfl (.tmp 13) (.tmp 14) rfl w1.heap.size _ _ rfl (HO.out.alloc _) ⟨_, 0, none⟩ 1 1 [33] rfl rfl ?_ ?_ ?_ ?_ ?_; exact cells_new _ _ _ rfl; (simp only [List.length_nil, List.length_append, length_sb]; omega); (simp only [List.length_nil, List.length_append, length_sb]; unfold maxLen; omega); (have := HB.out.size; simp <;> omega); intro v3 w3 h1 h2; have HO := Lib.hid h1; clear h1; have HB := Lib.hid ((HB.out.alloc HB.out.size _).trans h2); clear h2; clear x0 x1 x2 x3 x4; obtain ⟨x0, x1, x2, x3, x4⟩ := (HR1.out.below (HB.out) HR1.out.lt).facts)
    | (go_at_call 12; ((with_reducible refine (col_any _ ?_ ?_ _).mono ?_); (first | omega | skip); (first | omega | skip); rintro e w2 ⟨rfl, rfl⟩))
    | (at_builtin; refine wpList_app_src Elem.u8 (encInt .u8) rfl (.tmp 21) (.tmp 24) rfl w1.heap.size _ _ rfl HO.out (.string (strOfNums (colL c))) (strOfNums (colL c)).size (sb (strOfNums (colL c))) rfl (length_sb (strOfNums (colL c))) (src_text (strOfNums (colL c))) ?_ ?_ ?_ ?_; (simp only [List.length_nil, List.length_append, List.length_cons, length_sb]; omega); (simp only [List.length_nil, List.length_append, List.length_cons, length_sb]; unfold maxLen; omega); exact HB.out.size; intro v3 w3 h1 h2; have HO := Lib.hid h1; clear h1; have HB := Lib.hid (HB.out.trans h2); clear h2; clear x0 x1 x2 x3 x4; obtain ⟨x0, x1, x2, x3, x4⟩ := (HR1.out.below (HB.out) HR1.out.lt).facts)
    | (at_builtin; refine wpList_app Elem.u8 (encInt .u8) rfl (.tmp 28) (.tmp 29) rfl w1.heap.size _ _ rfl (HO.out.alloc _) ⟨_, 0, none⟩ 1 1 [36] rfl rfl ?_ ?_ ?_ ?_ ?_; exact cells_new _ _ _ rfl; (simp only [List.length_nil, List.length_append, List.length_cons, length_sb]; omega); (simp only [List.length_nil, List.length_append, List.length_cons, length_sb]; unfold maxLen; omega); (have := HB.out.size; simp <;> omega); intro v3 w3 h1 h2; have HO := Lib.hid h1; clear h1; have HB := Lib.hid ((HB.out.alloc HB.out.size _).trans h2); clear h2; clear x0 x1 x2 x3 x4; obtain ⟨x0, x1, x2, x3, x4⟩ := (HR1.out.below (HB.out) HR1.out.lt).facts))
  refine kept_start (by kernel_rfl) ?_
  show wpAnyH _ _ _ _ _ 8 #[false, false, false, false, false, false, false, false] _ _
  refine kept_take (i := 0) (d := some 31) (fuel := 7) (listed' := #[true, false, false, false, false, false, false, false]) (v := ?_) rfl rfl (by kernel_rfl) (by kernel_rfl) (by kernel_rfl) rfl (fun _ _ _ h => h) (by rfl) ?_ ?_
  rotate_left
  · (intro wS hSw; go_simp; try (with_reducible rfl))
  simp only [Act.put, List.setIfInBounds_toArray, List.set_cons_zero, List.set_cons_succ]
  refine kept_take (i := 1) (d := some 32) (fuel := 6) (listed' := #[true, true, false, false, false, false, false, false]) (v := ?_) rfl rfl (by kernel_rfl) (by kernel_rfl) (by kernel_rfl) rfl (fun _ _ _ h => h) (by rfl) ?_ ?_
  rotate_left
  · (intro wS hSw; have hz := (fun W (hW : Below _ _ W) => str8_eq HTT.out (Own.below (Own.drew HO.out) hW (Nat.le_refl _))) wS hSw; go_simp; try (with_reducible rfl))
  simp only [Act.put, List.setIfInBounds_toArray, List.set_cons_zero, List.set_cons_succ]
  refine kept_take (i := 2) (d := some 33) (fuel := 5) (listed' := #[true, true, true, false, false, false, false, false]) (v := ?_) rfl rfl (by kernel_rfl) (by kernel_rfl) (by kernel_rfl) rfl (fun _ _ _ h => h) (by rfl) ?_ ?_
  rotate_left
  · (intro wS hSw; go_simp; try (with_reducible rfl))
  simp only [Act.put, List.setIfInBounds_toArray, List.set_cons_zero, List.set_cons_succ]
  refine kept_take (i := 3) (d := some 34) (fuel := 4) (listed' := #[true, true, true, true, false, false, false, false]) (v := ?_) rfl rfl (by kernel_rfl) (by kernel_rfl) (by kernel_rfl) rfl (fun _ _ _ h => h) (by rfl) ?_ ?_
  rotate_left
  · (intro wS hSw; have hz := (fun W (hW : Below _ _ W) => ((refDrew (HR1.out.below HB.out HR1.out.lt)).below hW (Nat.lt_of_lt_of_le HR1.out.lt HB.out.size)).facts) wS hSw; go_simp; try (with_reducible rfl))
  simp only [Act.put, List.setIfInBounds_toArray, List.set_cons_zero, List.set_cons_succ]
  refine kept_take (i := 4) (d := some 35) (fuel := 3) (listed' := #[true, true, true, true, true, false, false, false]) (v := ?_) rfl rfl (by kernel_rfl) (by kernel_rfl) (by kernel_rfl) rfl (fun _ _ _ h => h) (by rfl) ?_ ?_
  rotate_left
  · (intro wS hSw; go_simp; try (with_reducible rfl))
  simp only [Act.put, List.setIfInBounds_toArray, List.set_cons_zero, List.set_cons_succ]
  refine kept_call (i := 5) (d := some 36) (fuel := 2) (listed' := #[true, true, true, true, true, true, false, false]) rfl rfl (by kernel_rfl) rfl (by rfl) (fun K hK => ?_)
  go_simp
  refine (itoa_eq HK.out (by omega) _ (Tab.drew (((HTAB.out.below H0.out).below H1.out).below HB.out))).mono ?_
  rintro e w4 ⟨rfl, hstep⟩
  have HB4 := Lib.hid (below_undrew hstep)
  go_wp2_with fail
  refine hK.out _ _ hstep hstep.size ?_
  clear hK K
  simp only [Act.put, List.setIfInBounds_toArray, List.set_cons_zero, List.set_cons_succ]
  refine kept_take (i := 6) (d := some 37) (fuel := 1) (listed' := #[true, true, true, true, true, true, true, false]) (v := ?_) rfl rfl (by kernel_rfl) (by kernel_rfl) (by kernel_rfl) rfl (fun _ _ _ h => h) (by rfl) ?_ ?_
  rotate_left
  · (intro wS hSw; have hz := (fun (_ : World) (_ : Below _ _ _) => HSUM.out) wS hSw; go_simp; try (with_reducible rfl))
  simp only [Act.put, List.setIfInBounds_toArray, List.set_cons_zero, List.set_cons_succ]
  refine kept_take (i := 7) (d := some 2) (fuel := 0) (listed' := #[true, true, true, true, true, true, true, true]) (v := ?_) rfl rfl (by kernel_rfl) (by kernel_rfl) (by kernel_rfl) rfl (fun _ _ _ h => h) (by rfl) ?_ ?_
  rotate_left
  · (intro wS hSw; go_simp; try (with_reducible rfl))
  simp only [Act.put, List.setIfInBounds_toArray, List.set_cons_zero, List.set_cons_succ]
  refine wpAnyH_done (by kernel_rfl) ?_ _
  go_wp2_with fail
  go_ret
  exact ⟨ret_str (by rw [← HTT.out]; exact (str_append _ _).trans (congrArg strOfNums HT.out)), below3 H0.out H1.out HB.out HB4.out⟩

set_option maxRecDepth 100000 in
set_option maxHeartbeats 1000000 in
theorem text_sdn_p (s : ByteArray) (c r : Int) (k : Nat) (w : World) (htab : Tab w) (_hs : s.size ≤ 1000000) (h0 : ¬ s.size = 0) (hm : mayL (sb s) c r = true) (hc0 : 0 ≤ c) (hc1 : c ≤ 701) (hr0 : 0 ≤ r) (hr1 : r ≤ 998) (hk : r + 1 = (k : Int)) (hz1 : (strOfNums (colL c)).size ≤ 2) (hz2 : (strOfNums (digL k)).size ≤ 1000) :
    Calls Tryd.prog 16 #[.agg #[.string s, .int .i64 c, .int .i64 r, .bool true, .bool false]] w fun e w' => e = .returned (.string (strOfNums (textL (sb s) c r true false))) ∧ Below w.heap.size w w' := by
  have hk2 : (r + 1).toNat = k := by omega
  have he : ¬ sb s = [] := by intro h; have := length_sb s; rw [h] at this; exact h0 this.symm
  have ht : (((([] ++ sb s) ++ [33]) ++ [36]) ++ sb (strOfNums (colL c))) ++ digL k = textL (sb s) c r true false := by unfold textL; rw [if_pos hm, hk2, if_neg he, sb_colL]; simp
  have HT := Lib.hid ht; clear ht hk2 he
  obtain ⟨tt, htt⟩ : ∃ t, strOfNums (((([] ++ sb s) ++ [33]) ++ [36]) ++ sb (strOfNums (colL c))) = t := ⟨_, rfl⟩
  have hzt : tt.size ≤ 1000100 := by rw [← htt, strOfNums_size]; simp only [List.length_append, List.length_nil, length_sb, List.length_cons]; omega
  have HTT := Lib.hid htt; clear htt
  have HSUM := Lib.hid (show ¬ 9223372036854775807 < tt.size + (strOfNums (digL k)).size by omega)
  have hne := text_ne0 s h0
  have hne2 : s.toList.isEmpty = false := by cases hq : s.toList with | nil => exact absurd hq hne | cons a l => rfl
  clear h0
  have hR0 := RefAt.new w s c r true false
  have HR0 := Lib.hid hR0; clear hR0
  have H0 := Lib.hid ((Below.refl w.heap.size w).alloc (Nat.le_refl _) (.cells #[.string s, .int .i64 c, .int .i64 r, .bool true, .bool false] 23))
  have HTAB := Lib.hid htab; clear htab
  have hk9 : k ≤ 999 := by omega
  have hwr : IntKind.i64.wrap (r + 1) = r + 1 := by rw [IntKind.wrap_i64]; omega
  have HK := Lib.hid hk; clear hk
  go_enter Tryd.func16, Tryd.ntmps16
  go_wp2_with (first
    | (go_at_call 14; ((with_reducible refine (may_any _ _ _ _ _ _ ?_).mono ?_); (first | omega | skip); rintro e w1 ⟨rfl, h1⟩; have hR1 := HR0.out.below h1 HR0.out.lt; obtain ⟨x0, x1, x2, x3, x4⟩ := hR1.facts; have HR1 := Lib.hid hR1; clear hR1; have HO := Lib.hid (Own.nil (encInt .u8) 5 w1 w1.heap.size); have HB := Lib.hid (Below.refl w1.heap.size w1); have H1 := Lib.hid h1; clear h1))
    | (at_builtin; refine wpList_app_src Elem.u8 (encInt .u8) rfl (.tmp 10) (.tmp 12) rfl w1.heap.size _ _ rfl HO.out (.string s) s.size (sb s) rfl (length_sb s) (src_text s) ?_ ?_ ?_ ?_; (simp only [List.length_nil]; omega); (simp only [List.length_nil]; unfold maxLen; omega); exact HB.out.size; intro v3 w3 h1 h2; have HO := Lib.hid h1; clear h1; have HB := Lib.hid (HB.out.trans h2); clear h2; clear x0 x1 x2 x3 x4; obtain ⟨x0, x1, x2, x3, x4⟩ := (HR1.out.below (HB.out) HR1.out.lt).facts)
    | (at_builtin; refine wpList_app Elem.u8 (encInt .u8) rfl (.tmp 13) (.tmp 14) rfl w1.heap.size _ _ rfl (HO.out.alloc _) ⟨_, 0, none⟩ 1 1 [33] rfl rfl ?_ ?_ ?_ ?_ ?_; exact cells_new _ _ _ rfl; (simp only [List.length_nil, List.length_append, length_sb]; omega); (simp only [List.length_nil, List.length_append, length_sb]; unfold maxLen; omega); (have := HB.out.size; simp <;> omega); intro v3 w3 h1 h2; have HO := Lib.hid h1; clear h1; have HB := Lib.hid ((HB.out.alloc HB.out.size _).trans h2); clear h2; clear x0 x1 x2 x3 x4; obtain ⟨x0, x1, x2, x3, x4⟩ := (HR1.out.below (HB.out) HR1.out.lt).facts)
    | (at_builtin; refine wpList_app Elem.u8 (encInt .u8) rfl (.tmp 18) (.tmp 19) rfl w1.heap.size _ _ rfl (HO.out.alloc _) ⟨_, 0, none⟩ 1 1 [36] rfl rfl ?_ ?_ ?_ ?_ ?_; exact cells_new _ _ _ rfl; (simp only [List.length_nil, List.length_append, List.length_cons, length_sb]; omega); (simp only [List.length_nil, List.length_append, List.length_cons, length_sb]; unfold maxLen; omega); (have := HB.out.size; simp <;> omega); intro v3 w3 h1 h2; have HO := Lib.hid h1; clear h1; have HB := Lib.hid ((HB.out.alloc HB.out.size _).trans h2); clear h2; clear x0 x1 x2 x3 x4; obtain ⟨x0, x1, x2, x3, x4⟩ := (HR1.out.below (HB.out) HR1.out.lt).facts)
    | (go_at_call 12; ((with_reducible refine (col_any _ ?_ ?_ _).mono ?_); (first | omega | skip); (first | omega | skip); rintro e w2 ⟨rfl, rfl⟩))
    | (at_builtin; refine wpList_app_src Elem.u8 (encInt .u8) rfl (.tmp 21) (.tmp 24) rfl w1.heap.size _ _ rfl HO.out (.string (strOfNums (colL c))) (strOfNums (colL c)).size (sb (strOfNums (colL c))) rfl (length_sb (strOfNums (colL c))) (src_text (strOfNums (colL c))) ?_ ?_ ?_ ?_; (simp only [List.length_nil, List.length_append, List.length_cons, length_sb]; omega); (simp only [List.length_nil, List.length_append, List.length_cons, length_sb]; unfold maxLen; omega); exact HB.out.size; intro v3 w3 h1 h2; have HO := Lib.hid h1; clear h1; have HB := Lib.hid (HB.out.trans h2); clear h2; clear x0 x1 x2 x3 x4; obtain ⟨x0, x1, x2, x3, x4⟩ := (HR1.out.below (HB.out) HR1.out.lt).facts))
  refine kept_start (by kernel_rfl) ?_
  show wpAnyH _ _ _ _ _ 8 #[false, false, false, false, false, false, false, false] _ _
  refine kept_take (i := 0) (d := some 31) (fuel := 7) (listed' := #[true, false, false, false, false, false, false, false]) (v := ?_) rfl rfl (by kernel_rfl) (by kernel_rfl) (by kernel_rfl) rfl (fun _ _ _ h => h) (by rfl) ?_ ?_
  rotate_left
  · (intro wS hSw; go_simp; try (with_reducible rfl))
  simp only [Act.put, List.setIfInBounds_toArray, List.set_cons_zero, List.set_cons_succ]
  refine kept_take (i := 1) (d := some 32) (fuel := 6) (listed' := #[true, true, false, false, false, false, false, false]) (v := ?_) rfl rfl (by kernel_rfl) (by kernel_rfl) (by kernel_rfl) rfl (fun _ _ _ h => h) (by rfl) ?_ ?_
  rotate_left
  · (intro wS hSw; have hz := (fun W (hW : Below _ _ W) => str8_eq HTT.out (Own.below (Own.drew HO.out) hW (Nat.le_refl _))) wS hSw; go_simp; try (with_reducible rfl))
  simp only [Act.put, List.setIfInBounds_toArray, List.set_cons_zero, List.set_cons_succ]
  refine kept_take (i := 2) (d := some 33) (fuel := 5) (listed' := #[true, true, true, false, false, false, false, false]) (v := ?_) rfl rfl (by kernel_rfl) (by kernel_rfl) (by kernel_rfl) rfl (fun _ _ _ h => h) (by rfl) ?_ ?_
  rotate_left
  · (intro wS hSw; go_simp; try (with_reducible rfl))
  simp only [Act.put, List.setIfInBounds_toArray, List.set_cons_zero, List.set_cons_succ]
  refine kept_take (i := 3) (d := some 34) (fuel := 4) (listed' := #[true, true, true, true, false, false, false, false]) (v := ?_) rfl rfl (by kernel_rfl) (by kernel_rfl) (by kernel_rfl) rfl (fun _ _ _ h => h) (by rfl) ?_ ?_
  rotate_left
  · (intro wS hSw; have hz := (fun W (hW : Below _ _ W) => ((refDrew (HR1.out.below HB.out HR1.out.lt)).below hW (Nat.lt_of_lt_of_le HR1.out.lt HB.out.size)).facts) wS hSw; go_simp; try (with_reducible rfl))
  simp only [Act.put, List.setIfInBounds_toArray, List.set_cons_zero, List.set_cons_succ]
  refine kept_take (i := 4) (d := some 35) (fuel := 3) (listed' := #[true, true, true, true, true, false, false, false]) (v := ?_) rfl rfl (by kernel_rfl) (by kernel_rfl) (by kernel_rfl) rfl (fun _ _ _ h => h) (by rfl) ?_ ?_
  rotate_left
  · (intro wS hSw; go_simp; try (with_reducible rfl))
  simp only [Act.put, List.setIfInBounds_toArray, List.set_cons_zero, List.set_cons_succ]
  refine kept_call (i := 5) (d := some 36) (fuel := 2) (listed' := #[true, true, true, true, true, true, false, false]) rfl rfl (by kernel_rfl) rfl (by rfl) (fun K hK => ?_)
  go_simp
  refine (itoa_eq HK.out (by omega) _ (Tab.drew (((HTAB.out.below H0.out).below H1.out).below HB.out))).mono ?_
  rintro e w4 ⟨rfl, hstep⟩
  have HB4 := Lib.hid (below_undrew hstep)
  go_wp2_with fail
  refine hK.out _ _ hstep hstep.size ?_
  clear hK K
  simp only [Act.put, List.setIfInBounds_toArray, List.set_cons_zero, List.set_cons_succ]
  refine kept_take (i := 6) (d := some 37) (fuel := 1) (listed' := #[true, true, true, true, true, true, true, false]) (v := ?_) rfl rfl (by kernel_rfl) (by kernel_rfl) (by kernel_rfl) rfl (fun _ _ _ h => h) (by rfl) ?_ ?_
  rotate_left
  · (intro wS hSw; have hz := (fun (_ : World) (_ : Below _ _ _) => HSUM.out) wS hSw; go_simp; try (with_reducible rfl))
  simp only [Act.put, List.setIfInBounds_toArray, List.set_cons_zero, List.set_cons_succ]
  refine kept_take (i := 7) (d := some 2) (fuel := 0) (listed' := #[true, true, true, true, true, true, true, true]) (v := ?_) rfl rfl (by kernel_rfl) (by kernel_rfl) (by kernel_rfl) rfl (fun _ _ _ h => h) (by rfl) ?_ ?_
  rotate_left
  · (intro wS hSw; go_simp; try (with_reducible rfl))
  simp only [Act.put, List.setIfInBounds_toArray, List.set_cons_zero, List.set_cons_succ]
  refine wpAnyH_done (by kernel_rfl) ?_ _
  go_wp2_with fail
  go_ret
  exact ⟨ret_str (by rw [← HTT.out]; exact (str_append _ _).trans (congrArg strOfNums HT.out)), below3 H0.out H1.out HB.out HB4.out⟩

set_option maxRecDepth 100000 in
set_option maxHeartbeats 1000000 in
theorem text_sdd_p (s : ByteArray) (c r : Int) (k : Nat) (w : World) (htab : Tab w) (_hs : s.size ≤ 1000000) (h0 : ¬ s.size = 0) (hm : mayL (sb s) c r = true) (hc0 : 0 ≤ c) (hc1 : c ≤ 701) (hr0 : 0 ≤ r) (hr1 : r ≤ 998) (hk : r + 1 = (k : Int)) (hz1 : (strOfNums (colL c)).size ≤ 2) (hz2 : (strOfNums (digL k)).size ≤ 1000) :
    Calls Tryd.prog 16 #[.agg #[.string s, .int .i64 c, .int .i64 r, .bool true, .bool true]] w fun e w' => e = .returned (.string (strOfNums (textL (sb s) c r true true))) ∧ Below w.heap.size w w' := by
  have hk2 : (r + 1).toNat = k := by omega
  have he : ¬ sb s = [] := by intro h; have := length_sb s; rw [h] at this; exact h0 this.symm
  have ht : ((((([] ++ sb s) ++ [33]) ++ [36]) ++ sb (strOfNums (colL c))) ++ [36]) ++ digL k = textL (sb s) c r true true := by unfold textL; rw [if_pos hm, hk2, if_neg he, sb_colL]; simp
  have HT := Lib.hid ht; clear ht hk2 he
  obtain ⟨tt, htt⟩ : ∃ t, strOfNums ((((([] ++ sb s) ++ [33]) ++ [36]) ++ sb (strOfNums (colL c))) ++ [36]) = t := ⟨_, rfl⟩
  have hzt : tt.size ≤ 1000100 := by rw [← htt, strOfNums_size]; simp only [List.length_append, List.length_nil, length_sb, List.length_cons]; omega
  have HTT := Lib.hid htt; clear htt
  have HSUM := Lib.hid (show ¬ 9223372036854775807 < tt.size + (strOfNums (digL k)).size by omega)
  have hne := text_ne0 s h0
  have hne2 : s.toList.isEmpty = false := by cases hq : s.toList with | nil => exact absurd hq hne | cons a l => rfl
  clear h0
  have hR0 := RefAt.new w s c r true true
  have HR0 := Lib.hid hR0; clear hR0
  have H0 := Lib.hid ((Below.refl w.heap.size w).alloc (Nat.le_refl _) (.cells #[.string s, .int .i64 c, .int .i64 r, .bool true, .bool true] 23))
  have HTAB := Lib.hid htab; clear htab
  have hk9 : k ≤ 999 := by omega
  have hwr : IntKind.i64.wrap (r + 1) = r + 1 := by rw [IntKind.wrap_i64]; omega
  have HK := Lib.hid hk; clear hk
  go_enter Tryd.func16, Tryd.ntmps16
  go_wp2_with (first
    | (go_at_call 14; ((with_reducible refine (may_any _ _ _ _ _ _ ?_).mono ?_); (first | omega | skip); rintro e w1 ⟨rfl, h1⟩; have hR1 := HR0.out.below h1 HR0.out.lt; obtain ⟨x0, x1, x2, x3, x4⟩ := hR1.facts; have HR1 := Lib.hid hR1; clear hR1; have HO := Lib.hid (Own.nil (encInt .u8) 5 w1 w1.heap.size); have HB := Lib.hid (Below.refl w1.heap.size w1); have H1 := Lib.hid h1; clear h1))
    | (at_builtin; refine wpList_app_src Elem.u8 (encInt .u8) rfl (.tmp 10) (.tmp 12) rfl w1.heap.size _ _ rfl HO.out (.string s) s.size (sb s) rfl (length_sb s) (src_text s) ?_ ?_ ?_ ?_; (simp only [List.length_nil]; omega); (simp only [List.length_nil]; unfold maxLen; omega); exact HB.out.size; intro v3 w3 h1 h2; have HO := Lib.hid h1; clear h1; have HB := Lib.hid (HB.out.trans h2); clear h2; clear x0 x1 x2 x3 x4; obtain ⟨x0, x1, x2, x3, x4⟩ := (HR1.out.below (HB.out) HR1.out.lt).facts)
    | (at_builtin; refine wpList_app Elem.u8 (encInt .u8) rfl (.tmp 13) (.tmp 14) rfl w1.heap.size _ _ rfl (HO.out.alloc _) ⟨_, 0, none⟩ 1 1 [33] rfl rfl ?_ ?_ ?_ ?_ ?_; exact cells_new _ _ _ rfl; (simp only [List.length_nil, List.length_append, length_sb]; omega); (simp only [List.length_nil, List.length_append, length_sb]; unfold maxLen; omega); (have := HB.out.size; simp <;> omega); intro v3 w3 h1 h2; have HO := Lib.hid h1; clear h1; have HB := Lib.hid ((HB.out.alloc HB.out.size _).trans h2); clear h2; clear x0 x1 x2 x3 x4; obtain ⟨x0, x1, x2, x3, x4⟩ := (HR1.out.below (HB.out) HR1.out.lt).facts)
    | (at_builtin; refine wpList_app Elem.u8 (encInt .u8) rfl (.tmp 18) (.tmp 19) rfl w1.heap.size _ _ rfl (HO.out.alloc _) ⟨_, 0, none⟩ 1 1 [36] rfl rfl ?_ ?_ ?_ ?_ ?_; exact cells_new _ _ _ rfl; (simp only [List.length_nil, List.length_append, List.length_cons, length_sb]; omega); (simp only [List.length_nil, List.length_append, List.length_cons, length_sb]; unfold maxLen; omega); (have := HB.out.size; simp <;> omega); intro v3 w3 h1 h2; have HO := Lib.hid h1; clear h1; have HB := Lib.hid ((HB.out.alloc HB.out.size _).trans h2); clear h2; clear x0 x1 x2 x3 x4; obtain ⟨x0, x1, x2, x3, x4⟩ := (HR1.out.below (HB.out) HR1.out.lt).facts)
    | (go_at_call 12; ((with_reducible refine (col_any _ ?_ ?_ _).mono ?_); (first | omega | skip); (first | omega | skip); rintro e w2 ⟨rfl, rfl⟩))
    | (at_builtin; refine wpList_app_src Elem.u8 (encInt .u8) rfl (.tmp 21) (.tmp 24) rfl w1.heap.size _ _ rfl HO.out (.string (strOfNums (colL c))) (strOfNums (colL c)).size (sb (strOfNums (colL c))) rfl (length_sb (strOfNums (colL c))) (src_text (strOfNums (colL c))) ?_ ?_ ?_ ?_; (simp only [List.length_nil, List.length_append, List.length_cons, length_sb]; omega); (simp only [List.length_nil, List.length_append, List.length_cons, length_sb]; unfold maxLen; omega); exact HB.out.size; intro v3 w3 h1 h2; have HO := Lib.hid h1; clear h1; have HB := Lib.hid (HB.out.trans h2); clear h2; clear x0 x1 x2 x3 x4; obtain ⟨x0, x1, x2, x3, x4⟩ := (HR1.out.below (HB.out) HR1.out.lt).facts)
    | (at_builtin; refine wpList_app Elem.u8 (encInt .u8) rfl (.tmp 28) (.tmp 29) rfl w1.heap.size _ _ rfl (HO.out.alloc _) ⟨_, 0, none⟩ 1 1 [36] rfl rfl ?_ ?_ ?_ ?_ ?_; exact cells_new _ _ _ rfl; (simp only [List.length_nil, List.length_append, List.length_cons, length_sb]; omega); (simp only [List.length_nil, List.length_append, List.length_cons, length_sb]; unfold maxLen; omega); (have := HB.out.size; simp <;> omega); intro v3 w3 h1 h2; have HO := Lib.hid h1; clear h1; have HB := Lib.hid ((HB.out.alloc HB.out.size _).trans h2); clear h2; clear x0 x1 x2 x3 x4; obtain ⟨x0, x1, x2, x3, x4⟩ := (HR1.out.below (HB.out) HR1.out.lt).facts))
  refine kept_start (by kernel_rfl) ?_
  show wpAnyH _ _ _ _ _ 8 #[false, false, false, false, false, false, false, false] _ _
  refine kept_take (i := 0) (d := some 31) (fuel := 7) (listed' := #[true, false, false, false, false, false, false, false]) (v := ?_) rfl rfl (by kernel_rfl) (by kernel_rfl) (by kernel_rfl) rfl (fun _ _ _ h => h) (by rfl) ?_ ?_
  rotate_left
  · (intro wS hSw; go_simp; try (with_reducible rfl))
  simp only [Act.put, List.setIfInBounds_toArray, List.set_cons_zero, List.set_cons_succ]
  refine kept_take (i := 1) (d := some 32) (fuel := 6) (listed' := #[true, true, false, false, false, false, false, false]) (v := ?_) rfl rfl (by kernel_rfl) (by kernel_rfl) (by kernel_rfl) rfl (fun _ _ _ h => h) (by rfl) ?_ ?_
  rotate_left
  · (intro wS hSw; have hz := (fun W (hW : Below _ _ W) => str8_eq HTT.out (Own.below (Own.drew HO.out) hW (Nat.le_refl _))) wS hSw; go_simp; try (with_reducible rfl))
  simp only [Act.put, List.setIfInBounds_toArray, List.set_cons_zero, List.set_cons_succ]
  refine kept_take (i := 2) (d := some 33) (fuel := 5) (listed' := #[true, true, true, false, false, false, false, false]) (v := ?_) rfl rfl (by kernel_rfl) (by kernel_rfl) (by kernel_rfl) rfl (fun _ _ _ h => h) (by rfl) ?_ ?_
  rotate_left
  · (intro wS hSw; go_simp; try (with_reducible rfl))
  simp only [Act.put, List.setIfInBounds_toArray, List.set_cons_zero, List.set_cons_succ]
  refine kept_take (i := 3) (d := some 34) (fuel := 4) (listed' := #[true, true, true, true, false, false, false, false]) (v := ?_) rfl rfl (by kernel_rfl) (by kernel_rfl) (by kernel_rfl) rfl (fun _ _ _ h => h) (by rfl) ?_ ?_
  rotate_left
  · (intro wS hSw; have hz := (fun W (hW : Below _ _ W) => ((refDrew (HR1.out.below HB.out HR1.out.lt)).below hW (Nat.lt_of_lt_of_le HR1.out.lt HB.out.size)).facts) wS hSw; go_simp; try (with_reducible rfl))
  simp only [Act.put, List.setIfInBounds_toArray, List.set_cons_zero, List.set_cons_succ]
  refine kept_take (i := 4) (d := some 35) (fuel := 3) (listed' := #[true, true, true, true, true, false, false, false]) (v := ?_) rfl rfl (by kernel_rfl) (by kernel_rfl) (by kernel_rfl) rfl (fun _ _ _ h => h) (by rfl) ?_ ?_
  rotate_left
  · (intro wS hSw; go_simp; try (with_reducible rfl))
  simp only [Act.put, List.setIfInBounds_toArray, List.set_cons_zero, List.set_cons_succ]
  refine kept_call (i := 5) (d := some 36) (fuel := 2) (listed' := #[true, true, true, true, true, true, false, false]) rfl rfl (by kernel_rfl) rfl (by rfl) (fun K hK => ?_)
  go_simp
  refine (itoa_eq HK.out (by omega) _ (Tab.drew (((HTAB.out.below H0.out).below H1.out).below HB.out))).mono ?_
  rintro e w4 ⟨rfl, hstep⟩
  have HB4 := Lib.hid (below_undrew hstep)
  go_wp2_with fail
  refine hK.out _ _ hstep hstep.size ?_
  clear hK K
  simp only [Act.put, List.setIfInBounds_toArray, List.set_cons_zero, List.set_cons_succ]
  refine kept_take (i := 6) (d := some 37) (fuel := 1) (listed' := #[true, true, true, true, true, true, true, false]) (v := ?_) rfl rfl (by kernel_rfl) (by kernel_rfl) (by kernel_rfl) rfl (fun _ _ _ h => h) (by rfl) ?_ ?_
  rotate_left
  · (intro wS hSw; have hz := (fun (_ : World) (_ : Below _ _ _) => HSUM.out) wS hSw; go_simp; try (with_reducible rfl))
  simp only [Act.put, List.setIfInBounds_toArray, List.set_cons_zero, List.set_cons_succ]
  refine kept_take (i := 7) (d := some 2) (fuel := 0) (listed' := #[true, true, true, true, true, true, true, true]) (v := ?_) rfl rfl (by kernel_rfl) (by kernel_rfl) (by kernel_rfl) rfl (fun _ _ _ h => h) (by rfl) ?_ ?_
  rotate_left
  · (intro wS hSw; go_simp; try (with_reducible rfl))
  simp only [Act.put, List.setIfInBounds_toArray, List.set_cons_zero, List.set_cons_succ]
  refine wpAnyH_done (by kernel_rfl) ?_ _
  go_wp2_with fail
  go_ret
  exact ⟨ret_str (by rw [← HTT.out]; exact (str_append _ _).trans (congrArg strOfNums HT.out)), below3 H0.out H1.out HB.out HB4.out⟩

set_option maxRecDepth 100000 in
set_option maxHeartbeats 400000 in
theorem textP_any (s : ByteArray) (c r : Int) (ac ar : Bool) (w : World) (htab : Tab w) (_hs : s.size ≤ 1000000) :
    Calls Tryd.prog 16 #[.agg #[.string s, .int .i64 c, .int .i64 r, .bool ac, .bool ar]] w fun e w' => e = .returned (.string (strOfNums (textL (sb s) c r ac ar))) ∧ Below w.heap.size w w' := by
  by_cases hm : mayL (sb s) c r = true
  · obtain ⟨hc0, hc1, hr0, hr1⟩ := mayL_parts hm
    have hl1 := length_colL c
    obtain ⟨k, hk⟩ : ∃ k : Nat, r + 1 = (k : Int) := ⟨(r + 1).toNat, by omega⟩
    have hl2 := length_digL k
    have hz1 : (strOfNums (colL c)).size ≤ 2 := by rw [strOfNums_size]; exact hl1
    have hz2 : (strOfNums (digL k)).size ≤ 1000 := by rw [strOfNums_size]; omega
    by_cases h0 : s.size = 0
    · cases ac <;> cases ar
      · exact text_enn_p s c r k w htab _hs h0 hm hc0 hc1 hr0 hr1 hk hz1 hz2
      · exact text_end_p s c r k w htab _hs h0 hm hc0 hc1 hr0 hr1 hk hz1 hz2
      · exact text_edn_p s c r k w htab _hs h0 hm hc0 hc1 hr0 hr1 hk hz1 hz2
      · exact text_edd_p s c r k w htab _hs h0 hm hc0 hc1 hr0 hr1 hk hz1 hz2
    · cases ac <;> cases ar
      · exact text_snn_p s c r k w htab _hs h0 hm hc0 hc1 hr0 hr1 hk hz1 hz2
      · exact text_snd_p s c r k w htab _hs h0 hm hc0 hc1 hr0 hr1 hk hz1 hz2
      · exact text_sdn_p s c r k w htab _hs h0 hm hc0 hc1 hr0 hr1 hk hz1 hz2
      · exact text_sdd_p s c r k w htab _hs h0 hm hc0 hc1 hr0 hr1 hk hz1 hz2
  · have hm' : mayL (sb s) c r = false := by simpa using hm
    have ht : textL (sb s) c r ac ar = [] := by unfold textL; rw [if_neg hm]
    have HT := Lib.hid ht; clear ht hm htab
    go_enter Tryd.func16, Tryd.ntmps16
    go_wp2_with (first
      | (go_at_call 14; ((with_reducible refine (may_any _ _ _ _ _ _ ?_).mono ?_); (first | omega | skip); rintro e w1 ⟨rfl, h1⟩; have H1 := Lib.hid h1; clear h1)))
    go_ret
    exact ⟨by rw [HT.out]; rfl, ((Below.refl _ _).alloc (Nat.le_refl _) _).trans (H1.out.mono ((Below.refl _ _).alloc (Nat.le_refl _) _).size)⟩
end Go.Proofs.YtocoldcgnppfhaaDoor
