/-
  Layer 7, the reference: texts joined; Two of any values.
-/
import Derived.Test.YtgnandbokgfeiaaDoorVrE
namespace Go.Proofs.YtgnandbokgfeiaaDoor
open Go.RowKit

set_option maxRecDepth 100000 in
set_option maxHeartbeats 1600000 in
theorem rjoin_long (a b : Vl) (ha4 : ¬ a.k = 4) (hb4 : ¬ b.k = 4) (ma : mayV a = true) (mb : mayV b = true) (oa : VOk a) (ob : VOk b) (hl : 200 < (textV a).size + (textV b).size) (hs : (textV a).size + (textV b).size ≤ 9000000000000000000) (w : World) : Calls Tryd.prog 20 #[.int .i64 15, .agg #[.int .i64 a.k, .int .i64 a.n, .string a.s], .agg #[.int .i64 b.k, .int .i64 b.n, .string b.s]] w fun e w' => e = .returned (.agg #[.int .i64 (joinV a b).k, .int .i64 (joinV a b).n, .string (joinV a b).s]) ∧ Below w.heap.size w w' := by
  have ea4 : (a.k == 4) = false := beq_eq_false_iff_ne.2 ha4
  clear ha4
  have eb4 : (b.k == 4) = false := beq_eq_false_iff_ne.2 hb4
  clear hb4
  have hv : joinV a b = Vl.err 1 := by unfold joinV; rw [if_pos hl]
  rw [hv]
  have h1 := fun (w : World) => rtext_any a oa ma w
  have h2 := fun (w : World) => rtext_any b ob mb w
  have hsz : (textV a ++ textV b).size = (textV a).size + (textV b).size := ByteArray.size_append
  generalize textV a = s at hl hs h1 hsz ⊢
  generalize textV b = t at hl hs h2 hsz ⊢
  have hl2 : (200 : Int) < ((s ++ t).size : Int) := by rw [hsz]; omega
  have hl3 : (200 : Int) < ((s.size : Int) + (t.size : Int)) := by omega
  have hns : ¬ 9223372036854775807 < s.size + t.size := by omega
  have H1 := Lib.hid h1; have H2 := Lib.hid h2
  clear hv hs hl h1 h2 oa ob ma mb
  obtain ⟨k1, k2, k3, k4⟩ := vl_open2 w a b
  have HA := Lib.hid k1; have HO := Lib.hid k2; have HZ := Lib.hid k3; have HB := Lib.hid k4
  clear k1 k2 k3 k4
  go_enter Tryd.func20, Tryd.ntmps20
  go_upto_region 1 with (fail)
  obtain ⟨q, hq⟩ : ∃ q, w.heap.size = q := ⟨_, rfl⟩
  obtain ⟨w1, hw1⟩ : ∃ w1, (((w.alloc (.cells #[.int .i64 a.k, .int .i64 a.n, .string a.s] 23)).alloc (.cells #[.int .i64 b.k, .int .i64 b.n, .string b.s] 23)).alloc (.cells #[.int .i64 0, .int .i64 0, .string ⟨#[]⟩] 23)) = w1 := ⟨_, rfl⟩
  rw [hw1] at HA HO HZ HB ⊢
  rw [hq] at HA HO HZ ⊢
  have HLE := Lib.hid (show w.heap.size ≤ q + 2 by omega)
  clear hq hw1
  obtain ⟨a0, a1, a2⟩ := HA.out.cells
  obtain ⟨o0, o1, o2⟩ := HO.out.cells
  go_upto_region 6 with (fail)
  have HR := Lib.hid ((Below.refl w1.heap.size w1).drew)
  go_region_held3 (fun w' => w'.cell? ⟨q, 0, none⟩ = some (.int .i64 a.k) ∧ w'.cell? ⟨q, 1, none⟩ = some (.int .i64 a.n) ∧ w'.cell? ⟨q, 2, none⟩ = some (.string a.s) ∧ w'.cell? ⟨q + 1, 0, none⟩ = some (.int .i64 b.k) ∧ w'.cell? ⟨q + 1, 1, none⟩ = some (.int .i64 b.n) ∧ w'.cell? ⟨q + 1, 2, none⟩ = some (.string b.s)) (go_keep) (first | (go_at_call 16; ((with_reducible refine (H1.out _).mono ?_); rintro e w2 ⟨rfl, hb⟩; have HR2 := Lib.hid (HR.out.trans (hb.mono HR.out.size)); obtain ⟨d0, d1, d2⟩ := (HA.out.over HR2.out).cells; obtain ⟨d3, d4, d5⟩ := (HO.out.over HR2.out).cells; have HZ2 := Lib.hid (HZ.out.over HR2.out); clear hb)) | (go_at_call 16; ((with_reducible refine (H2.out _).mono ?_); rintro e w3 ⟨rfl, hb⟩; have HR3 := Lib.hid (HR2.out.trans (hb.mono HR2.out.size)); obtain ⟨g0, g1, g2⟩ := (HA.out.over HR3.out).cells; obtain ⟨g3, g4, g5⟩ := (HO.out.over HR3.out).cells; have HZ3 := Lib.hid (HZ.out.over HR3.out); clear hb)))
  have HB3 := Lib.hid (HB.out.trans (HR3.out.mono HB.out.size))
  obtain ⟨m0, m1, m2⟩ := HZ3.out.melts
  obtain ⟨u0, u1, u2⟩ := HZ3.out.cells
  have HC := Lib.hid (fun (w : World) => rno_any 1 w)
  go_wp2_with (go_at_call 28; ((with_reducible refine (HC.out _).mono ?_); rintro e w4 ⟨rfl, hb⟩; have HZ4 := Lib.hid (HZ3.out.over hb); obtain ⟨m0, m1, m2⟩ := HZ4.out.melts; obtain ⟨u0, u1, u2⟩ := HZ4.out.cells; have HB4 := Lib.hid (HB3.out.trans (hb.mono HB3.out.size)); clear hb))
  exact bodyPost_ret (out_vl (HZ4.out.put3 (Vl.err 1)) _ _ 6 res_rtwo rfl) rfl ⟨rfl, belowV3 HB4.out HLE.out (Vl.err 1)⟩
set_option maxRecDepth 100000 in
set_option maxHeartbeats 1600000 in
theorem rjoin_short (a b : Vl) (ha4 : ¬ a.k = 4) (hb4 : ¬ b.k = 4) (ma : mayV a = true) (mb : mayV b = true) (oa : VOk a) (ob : VOk b) (hl : ¬ 200 < (textV a).size + (textV b).size) (w : World) : Calls Tryd.prog 20 #[.int .i64 15, .agg #[.int .i64 a.k, .int .i64 a.n, .string a.s], .agg #[.int .i64 b.k, .int .i64 b.n, .string b.s]] w fun e w' => e = .returned (.agg #[.int .i64 (joinV a b).k, .int .i64 (joinV a b).n, .string (joinV a b).s]) ∧ Below w.heap.size w w' := by
  have ea4 : (a.k == 4) = false := beq_eq_false_iff_ne.2 ha4
  clear ha4
  have eb4 : (b.k == 4) = false := beq_eq_false_iff_ne.2 hb4
  clear hb4
  have hv : joinV a b = Vl.text (textV a ++ textV b) := by unfold joinV; rw [if_neg hl]
  rw [hv]
  have h1 := fun (w : World) => rtext_any a oa ma w
  have h2 := fun (w : World) => rtext_any b ob mb w
  have hsz : (textV a ++ textV b).size = (textV a).size + (textV b).size := ByteArray.size_append
  generalize textV a = s at hl h1 hsz ⊢
  generalize textV b = t at hl h2 hsz ⊢
  have hl2 : ¬ (200 : Int) < ((s ++ t).size : Int) := by rw [hsz]; omega
  have hl3 : ¬ (200 : Int) < ((s.size : Int) + (t.size : Int)) := by omega
  have hns : ¬ 9223372036854775807 < s.size + t.size := by omega
  have H1 := Lib.hid h1; have H2 := Lib.hid h2
  clear hv hl h1 h2 oa ob ma mb
  obtain ⟨k1, k2, k3, k4⟩ := vl_open2 w a b
  have HA := Lib.hid k1; have HO := Lib.hid k2; have HZ := Lib.hid k3; have HB := Lib.hid k4
  clear k1 k2 k3 k4
  go_enter Tryd.func20, Tryd.ntmps20
  go_upto_region 1 with (fail)
  obtain ⟨q, hq⟩ : ∃ q, w.heap.size = q := ⟨_, rfl⟩
  obtain ⟨w1, hw1⟩ : ∃ w1, (((w.alloc (.cells #[.int .i64 a.k, .int .i64 a.n, .string a.s] 23)).alloc (.cells #[.int .i64 b.k, .int .i64 b.n, .string b.s] 23)).alloc (.cells #[.int .i64 0, .int .i64 0, .string ⟨#[]⟩] 23)) = w1 := ⟨_, rfl⟩
  rw [hw1] at HA HO HZ HB ⊢
  rw [hq] at HA HO HZ ⊢
  have HLE := Lib.hid (show w.heap.size ≤ q + 2 by omega)
  clear hq hw1
  obtain ⟨a0, a1, a2⟩ := HA.out.cells
  obtain ⟨o0, o1, o2⟩ := HO.out.cells
  go_upto_region 6 with (fail)
  have HR := Lib.hid ((Below.refl w1.heap.size w1).drew)
  go_region_held3 (fun w' => w'.cell? ⟨q, 0, none⟩ = some (.int .i64 a.k) ∧ w'.cell? ⟨q, 1, none⟩ = some (.int .i64 a.n) ∧ w'.cell? ⟨q, 2, none⟩ = some (.string a.s) ∧ w'.cell? ⟨q + 1, 0, none⟩ = some (.int .i64 b.k) ∧ w'.cell? ⟨q + 1, 1, none⟩ = some (.int .i64 b.n) ∧ w'.cell? ⟨q + 1, 2, none⟩ = some (.string b.s)) (go_keep) (first | (go_at_call 16; ((with_reducible refine (H1.out _).mono ?_); rintro e w2 ⟨rfl, hb⟩; have HR2 := Lib.hid (HR.out.trans (hb.mono HR.out.size)); obtain ⟨d0, d1, d2⟩ := (HA.out.over HR2.out).cells; obtain ⟨d3, d4, d5⟩ := (HO.out.over HR2.out).cells; have HZ2 := Lib.hid (HZ.out.over HR2.out); clear hb)) | (go_at_call 16; ((with_reducible refine (H2.out _).mono ?_); rintro e w3 ⟨rfl, hb⟩; have HR3 := Lib.hid (HR2.out.trans (hb.mono HR2.out.size)); obtain ⟨g0, g1, g2⟩ := (HA.out.over HR3.out).cells; obtain ⟨g3, g4, g5⟩ := (HO.out.over HR3.out).cells; have HZ3 := Lib.hid (HZ.out.over HR3.out); clear hb)))
  have HB3 := Lib.hid (HB.out.trans (HR3.out.mono HB.out.size))
  obtain ⟨m0, m1, m2⟩ := HZ3.out.melts
  obtain ⟨u0, u1, u2⟩ := HZ3.out.cells
  go_wp2_with fail
  exact bodyPost_ret (out_vl (HZ3.out.put3 (Vl.text (s ++ t))) _ _ 6 res_rtwo rfl) rfl ⟨rfl, belowV3 HB3.out HLE.out (Vl.text (s ++ t))⟩
theorem rtwo_any (kind : Int) (a b : Vl) (ma : mayV a = true) (mb : mayV b = true) (oa : VOk a) (ob : VOk b) (w : World) : Calls Tryd.prog 20 #[.int .i64 kind, .agg #[.int .i64 a.k, .int .i64 a.n, .string a.s], .agg #[.int .i64 b.k, .int .i64 b.n, .string b.s]] w fun e w' => e = .returned (.agg #[.int .i64 (twoV kind a b).k, .int .i64 (twoV kind a b).n, .string (twoV kind a b).s]) ∧ Below w.heap.size w w' := by
  by_cases ha4 : a.k = 4
  · rw [show twoV kind a b = a from by unfold twoV; rw [if_pos ha4]]; exact rtwo_a kind a b ha4 w
  by_cases hb4 : b.k = 4
  · rw [show twoV kind a b = b from by unfold twoV; rw [if_neg ha4, if_pos hb4]]; exact rtwo_b kind a b ha4 hb4 w
  rw [show twoV kind a b = opV kind a b from by unfold twoV; rw [if_neg ha4, if_neg hb4]]
  have hs : (textV a).size + (textV b).size ≤ 9000000000000000000 := by have := textV_size a oa; have := textV_size b ob; omega
  by_cases hk : kind < 9 ∨ 20 ≤ kind
  · rw [show opV kind a b = Vl.err 1 from by unfold opV; iterate 11 rw [if_neg (by omega)]]
    exact rtwo_x kind a b ha4 hb4 ma mb hk w
  have hk2 : kind = 9 ∨ kind = 10 ∨ kind = 11 ∨ kind = 12 ∨ kind = 13 ∨ kind = 14 ∨ kind = 15 ∨ kind = 16 ∨ kind = 17 ∨ kind = 18 ∨ kind = 19 := by omega
  have hr : ∀ f : Int → Int → Vl, (isInt a = true → isInt b = true → reckV f a b = f (intV a) (intV b)) ∧ (isInt a = true → isInt b = false → reckV f a b = Vl.err 1) ∧ (isInt a = false → reckV f a b = Vl.err 1) := fun f =>
    ⟨fun h1 h2 => by unfold reckV; rw [if_pos h1, if_pos h2], fun h1 h2 => by unfold reckV; rw [if_pos h1, if_neg (by rw [h2]; decide)], fun h1 => by unfold reckV; rw [if_neg (by rw [h1]; decide)]⟩
  rcases hk2 with rfl | rfl | rfl | rfl | rfl | rfl | rfl | rfl | rfl | rfl | rfl
  · exact rtwo_9 a b ha4 hb4 ma mb w
  · exact rtwo_10 a b ha4 hb4 ma mb w
  · exact rtwo_11 a b ha4 hb4 ma mb w
  · exact rtwo_12 a b ha4 hb4 ma mb w
  · exact rtwo_13 a b ha4 hb4 ma mb w
  · exact rtwo_14 a b ha4 hb4 ma mb w
  · show Calls _ _ _ _ _
    by_cases hl : 200 < (textV a).size + (textV b).size
    · exact rjoin_long a b ha4 hb4 ma mb oa ob hl hs w
    · exact rjoin_short a b ha4 hb4 ma mb oa ob hl w
  · rw [show opV 16 a b = reckV sumV a b from rfl]
    by_cases h : isInt a = true
    · by_cases h2 : isInt b = true
      · rw [(hr sumV).1 h h2]; exact rtwo_16y a b ha4 hb4 ma mb h h2 oa ob w
      · rw [(hr sumV).2.1 h (by simpa using h2)]; exact rtwo_16m a b ha4 hb4 ma mb h (by simpa using h2) w
    · rw [(hr sumV).2.2 (by simpa using h)]; exact rtwo_16n a b ha4 hb4 ma mb (by simpa using h) w
  · rw [show opV 17 a b = reckV subV a b from rfl]
    by_cases h : isInt a = true
    · by_cases h2 : isInt b = true
      · rw [(hr subV).1 h h2]; exact rtwo_17y a b ha4 hb4 ma mb h h2 oa ob w
      · rw [(hr subV).2.1 h (by simpa using h2)]; exact rtwo_17m a b ha4 hb4 ma mb h (by simpa using h2) w
    · rw [(hr subV).2.2 (by simpa using h)]; exact rtwo_17n a b ha4 hb4 ma mb (by simpa using h) w
  · rw [show opV 18 a b = reckV mulV a b from rfl]
    by_cases h : isInt a = true
    · by_cases h2 : isInt b = true
      · rw [(hr mulV).1 h h2]; exact rtwo_18y a b ha4 hb4 ma mb h h2 oa ob w
      · rw [(hr mulV).2.1 h (by simpa using h2)]; exact rtwo_18m a b ha4 hb4 ma mb h (by simpa using h2) w
    · rw [(hr mulV).2.2 (by simpa using h)]; exact rtwo_18n a b ha4 hb4 ma mb (by simpa using h) w
  · rw [show opV 19 a b = reckV divV a b from rfl]
    by_cases h : isInt a = true
    · by_cases h2 : isInt b = true
      · rw [(hr divV).1 h h2]; exact rtwo_19y a b ha4 hb4 ma mb h h2 oa ob w
      · rw [(hr divV).2.1 h (by simpa using h2)]; exact rtwo_19m a b ha4 hb4 ma mb h (by simpa using h2) w
    · rw [(hr divV).2.2 (by simpa using h)]; exact rtwo_19n a b ha4 hb4 ma mb (by simpa using h) w
/-! What comes of values is a value. -/
theorem may_num (n : Int) : mayV (Vl.num n) = true := rfl
theorem may_errI (n : Int) (h : 1 ≤ n) (h2 : n ≤ 6) : mayV (Vl.err n) = true := by
  unfold mayV; rw [if_neg (show ¬ (Vl.err n).k = 0 by show ¬ (4 : Int) = 0; decide), if_neg (show ¬ (Vl.err n).k = 1 by show ¬ (4 : Int) = 1; decide), if_neg (show ¬ (Vl.err n).k = 2 by show ¬ (4 : Int) = 2; decide), if_neg (show ¬ (Vl.err n).k = 3 by show ¬ (4 : Int) = 3; decide), if_pos (show (Vl.err n).k = 4 from rfl)]
  exact decide_eq_true ⟨rfl, h, h2⟩
theorem may_truthI (b : Bool) : mayV (Vl.truth b) = true := by cases b <;> rfl
theorem may_textI (s : ByteArray) (h : s.size ≤ 200) : mayV (Vl.text s) = true := by
  unfold mayV; rw [if_neg (show ¬ (Vl.text s).k = 0 by show ¬ (2 : Int) = 0; decide), if_neg (show ¬ (Vl.text s).k = 1 by show ¬ (2 : Int) = 1; decide), if_pos (show (Vl.text s).k = 2 from rfl)]
  exact decide_eq_true ⟨rfl, h⟩
theorem may_fit (n : Int) : mayV (fitV n) = true := by
  unfold fitV; split
  · exact may_num n
  · exact may_errI 2 (by decide) (by decide)
theorem may_neg (a : Vl) (h : mayV a = true) : mayV (negV a) = true := by
  unfold negV
  split
  · exact h
  · split
    · exact may_fit _
    · exact may_errI 1 (by decide) (by decide)
theorem may_reck (f : Int → Int → Vl) (hf : ∀ x y, mayV (f x y) = true) (a b : Vl) : mayV (reckV f a b) = true := by
  unfold reckV
  split
  · split
    · exact hf _ _
    · exact may_errI 1 (by decide) (by decide)
  · exact may_errI 1 (by decide) (by decide)
theorem may_two (k : Int) (a b : Vl) (ha : mayV a = true) (hb : mayV b = true) : mayV (twoV k a b) = true := by
  unfold twoV
  split
  · exact ha
  split
  · exact hb
  unfold opV
  split; · exact may_truthI _
  split; · exact may_truthI _
  split; · exact may_truthI _
  split; · exact may_truthI _
  split; · exact may_truthI _
  split; · exact may_truthI _
  split
  · unfold joinV
    split
    · exact may_errI 1 (by decide) (by decide)
    · rename_i h; exact may_textI _ (by rw [ByteArray.size_append]; omega)
  split; · exact may_reck _ (fun x y => may_fit _) a b
  split; · exact may_reck _ (fun x y => may_fit _) a b
  split; · exact may_reck _ (fun x y => may_fit _) a b
  split
  · refine may_reck _ (fun x y => ?_) a b
    unfold divV; split
    · exact may_errI 3 (by decide) (by decide)
    · exact may_fit _
  · exact may_errI 1 (by decide) (by decide)
theorem may_make (m n : Int) (s : ByteArray) : mayV (makeV m n s) = true := by
  unfold makeV
  split
  · exact may_num n
  split
  · split
    · exact may_textI _ (by decide)
    · exact may_textI _ (by omega)
  split
  · have := and1 n
    unfold mayV; rw [if_neg (show ¬ (3 : Int) = 0 by decide), if_neg (show ¬ (3 : Int) = 1 by decide), if_neg (show ¬ (3 : Int) = 2 by decide), if_pos rfl]
    exact decide_eq_true ⟨rfl, by show bits .and .i64 n 1 = 0 ∨ bits .and .i64 n 1 = 1; omega⟩
  split
  · have := and1023 n; exact may_errI _ (by omega) (by omega)
  · rfl
end Go.Proofs.YtgnandbokgfeiaaDoor
