/-
  Layer 7, the law: texts side by side.
-/
import Derived.Test.YtgnandbokgfeiaaDoorVaT
import Derived.Deep.DeepCutAuto
namespace Go.Proofs.YtgnandbokgfeiaaDoor
open Go.RowKit

theorem vl_pair (w : World) (x y : Vl) : VlAt ((w.alloc (.cells #[.int .i64 x.k, .int .i64 x.n, .string x.s] 23)).alloc (.cells #[.int .i64 y.k, .int .i64 y.n, .string y.s] 23)) w.heap.size x ∧ VlAt ((w.alloc (.cells #[.int .i64 x.k, .int .i64 x.n, .string x.s] 23)).alloc (.cells #[.int .i64 y.k, .int .i64 y.n, .string y.s] 23)) (w.heap.size + 1) y ∧ Below w.heap.size w ((w.alloc (.cells #[.int .i64 x.k, .int .i64 x.n, .string x.s] 23)).alloc (.cells #[.int .i64 y.k, .int .i64 y.n, .string y.s] 23)) := by
  have b1 := below_vl w x
  have b2 := below_vl (w.alloc (.cells #[.int .i64 x.k, .int .i64 x.n, .string x.s] 23)) y
  have h2 := VlAt.new (w.alloc (.cells #[.int .i64 x.k, .int .i64 x.n, .string x.s] 23)) y
  rw [World.size_alloc] at h2
  exact ⟨(VlAt.new w x).over b2, h2, b1.trans (b2.mono b1.size)⟩
theorem nil_app (d : ByteArray) : (⟨#[]⟩ : ByteArray) ++ d = d := ByteArray.empty_append
theorem app_nil (d : ByteArray) : d ++ (⟨#[]⟩ : ByteArray) = d := ByteArray.append_empty
set_option maxRecDepth 100000 in
set_option maxHeartbeats 1600000 in
theorem valCat_far (s t : ByteArray) (n : Int) (h : 200 < s.size ∨ 200 < t.size) (w : World) (ht : Tab w) (he : EtV w) :
    Calls Tryd.prog 8 #[.string s, .string t, .int .i64 n] w fun e w' => e = .returned (.bool true) ∧ Below w.heap.size w w' := by
  have HA := Lib.hid (awake7_any w ht he)
  clear ht he
  by_cases h1 : 200 < s.size
  · have h2 : (200 : Int) < (s.size : Int) := by omega
    clear h h1
    go_enter Tryd.func8, Tryd.ntmps8
    go_wp2_with (go_at_call 10; ((with_reducible refine HA.out.mono ?_); rintro e w2 ⟨rfl, hb⟩; have HB := Lib.hid hb; clear hb))
    go_ret
    exact ⟨rfl, HB.out⟩
  · have h2 : ¬ (200 : Int) < (s.size : Int) := by omega
    have h3 : (200 : Int) < (t.size : Int) := by omega
    clear h h1
    go_enter Tryd.func8, Tryd.ntmps8
    go_wp2_with (go_at_call 10; ((with_reducible refine HA.out.mono ?_); rintro e w2 ⟨rfl, hb⟩; have HB := Lib.hid hb; clear hb))
    go_ret
    exact ⟨rfl, HB.out⟩
set_option maxRecDepth 100000 in
set_option maxHeartbeats 1600000 in
theorem valCat_long (s t : ByteArray) (n : Int) (hs : s.size ≤ 200) (ht2 : t.size ≤ 200) (hl : 200 < s.size + t.size) (w : World) (ht : Tab w) (he : EtV w) :
    Calls Tryd.prog 8 #[.string s, .string t, .int .i64 n] w fun e w' => e = .returned (.bool true) ∧ Below w.heap.size w w' := by
  have hx : ∀ w : World, Calls Tryd.prog 21 #[.int .u8 2, .int .i64 0, .string s] w fun e w' => e = .returned (.agg #[.int .i64 2, .int .i64 0, .string s]) ∧ Below w.heap.size w w' := by
    have h := make_any 2 0 s (by decide) (by decide)
    rw [show makeV (2 % 5) 0 s = Vl.text s from by unfold makeV; rw [if_neg (by decide), if_pos (by decide), if_neg (by omega)]] at h
    exact h
  have hy : ∀ w : World, Calls Tryd.prog 21 #[.int .u8 2, .int .i64 0, .string t] w fun e w' => e = .returned (.agg #[.int .i64 2, .int .i64 0, .string t]) ∧ Below w.heap.size w w' := by
    have h := make_any 2 0 t (by decide) (by decide)
    rw [show makeV (2 % 5) 0 t = Vl.text t from by unfold makeV; rw [if_neg (by decide), if_pos (by decide), if_neg (by omega)]] at h
    exact h
  have ho1 := ok_text s (by omega)
  have ho2 := ok_text t (by omega)
  have h1 : ∀ w : World, Tab w → EtV w → Calls Tryd.prog 19 #[.int .i64 15, .agg #[.int .i64 2, .int .i64 0, .string s], .agg #[.int .i64 2, .int .i64 0, .string t]] w fun e w' => e = .returned (.agg #[.int .i64 4, .int .i64 1, .string ⟨#[]⟩]) ∧ Below w.heap.size w w' := by
    have h := two_any 15 (Vl.text s) (Vl.text t) ho1 ho2
    rw [show twoV 15 (Vl.text s) (Vl.text t) = Vl.err 1 from by
      rw [show twoV 15 (Vl.text s) (Vl.text t) = joinV (Vl.text s) (Vl.text t) from rfl]
      unfold joinV
      rw [show textV (Vl.text s) = s from rfl, show textV (Vl.text t) = t from rfl, if_pos hl]] at h
    exact h
  have hs1 : ¬ (200 : Int) < (s.size : Int) := by omega
  have hs2 : ¬ (200 : Int) < (t.size : Int) := by omega
  have hs3 : (200 : Int) < (s.size : Int) + (t.size : Int) := by omega
  have hs4 : wrap64 ((s.size : Int) + (t.size : Int)) = (s.size : Int) + (t.size : Int) := by unfold wrap64; omega
  have hs5 : IntKind.i64.wrap ((s.size : Int) + (t.size : Int)) = (s.size : Int) + (t.size : Int) := by rw [IntKind.wrap_i64]; omega
  have HX := Lib.hid hx; have HY := Lib.hid hy; have H1 := Lib.hid h1
  have HT := Lib.hid ht; have HE := Lib.hid he
  clear hx hy h1 ht he ho1 ho2 hl hs ht2
  go_enter Tryd.func8, Tryd.ntmps8
  go_upto_region 4 with (first
    | (go_at_call 21; ((with_reducible refine (HX.out _).mono ?_); rintro e w2 ⟨rfl, hb⟩; have HB2 := Lib.hid (hb); clear hb))
    | (go_at_call 21; ((with_reducible refine (HY.out _).mono ?_); rintro e w3 ⟨rfl, hb⟩; have HB3 := Lib.hid (HB2.out.trans (hb.mono HB2.out.size)); clear hb)))
  obtain ⟨q1, q2, q4⟩ := vl_pair w3 (Vl.text s) (Vl.text t)
  have HB4 := Lib.hid (show Below w.heap.size w ((w3.alloc (.cells #[.int .i64 2, .int .i64 0, .string s] 23)).alloc (.cells #[.int .i64 2, .int .i64 0, .string t] 23)) from HB3.out.trans (q4.mono HB3.out.size))
  have HVX := Lib.hid (show VlAt ((w3.alloc (.cells #[.int .i64 2, .int .i64 0, .string s] 23)).alloc (.cells #[.int .i64 2, .int .i64 0, .string t] 23)) w3.heap.size (Vl.text s) from q1)
  have HVY := Lib.hid (show VlAt ((w3.alloc (.cells #[.int .i64 2, .int .i64 0, .string s] 23)).alloc (.cells #[.int .i64 2, .int .i64 0, .string t] 23)) (w3.heap.size + 1) (Vl.text t) from q2)
  clear q1 q2 q4
  obtain ⟨q, hq⟩ : ∃ q, w3.heap.size = q := ⟨_, rfl⟩
  obtain ⟨w5, hw5⟩ : ∃ w5, ((w3.alloc (.cells #[.int .i64 2, .int .i64 0, .string s] 23)).alloc (.cells #[.int .i64 2, .int .i64 0, .string t] 23)) = w5 := ⟨_, rfl⟩
  rw [hw5] at HVX HVY HB4 ⊢
  rw [hq] at HVX HVY ⊢
  clear hq hw5 HX HY HB2 HB3
  obtain ⟨x0, x1, x2⟩ : w5.cell? ⟨q, 0, none⟩ = some (.int .i64 2) ∧ w5.cell? ⟨q, 1, none⟩ = some (.int .i64 0) ∧ w5.cell? ⟨q, 2, none⟩ = some (.string s) := HVX.out.cells
  obtain ⟨y0, y1, y2⟩ : w5.cell? ⟨q + 1, 0, none⟩ = some (.int .i64 2) ∧ w5.cell? ⟨q + 1, 1, none⟩ = some (.int .i64 0) ∧ w5.cell? ⟨q + 1, 2, none⟩ = some (.string t) := HVY.out.cells
  go_upto_region 5 with (go_at_call 19; ((with_reducible refine (H1.out _ (HT.out.below HB4.out) (HE.out.below HB4.out)).mono ?_); rintro e w6 ⟨rfl, hb⟩; have HB6 := Lib.hid (HB4.out.trans (hb.mono HB4.out.size)); have HVX6 := Lib.hid (HVX.out.over hb); clear hb))
  have HVV := Lib.hid (show VlAt (w6.alloc (.cells #[.int .i64 4, .int .i64 1, .string ⟨#[]⟩] 23)) w6.heap.size (Vl.err 1) from VlAt.new w6 (Vl.err 1))
  have HBV := Lib.hid (show Below w6.heap.size w6 (w6.alloc (.cells #[.int .i64 4, .int .i64 1, .string ⟨#[]⟩] 23)) from below_vl w6 (Vl.err 1))
  obtain ⟨r, hr⟩ : ∃ r, w6.heap.size = r := ⟨_, rfl⟩
  have HVX7 := Lib.hid (HVX6.out.over HBV.out)
  have HB7 := Lib.hid (HB6.out.trans (HBV.out.mono HB6.out.size))
  obtain ⟨w7, hw7⟩ : ∃ w7, w6.alloc (.cells #[.int .i64 4, .int .i64 1, .string ⟨#[]⟩] 23) = w7 := ⟨_, rfl⟩
  rw [hw7] at HVV HVX7 HB7 ⊢
  rw [hr] at HVV ⊢
  clear hr hw7 HBV HVX6 HB6 HB4 HVX HVY x0 x1 x2 y0 y1 y2 H1
  obtain ⟨v0, v1, v2⟩ : w7.cell? ⟨r, 0, none⟩ = some (.int .i64 4) ∧ w7.cell? ⟨r, 1, none⟩ = some (.int .i64 1) ∧ w7.cell? ⟨r, 2, none⟩ = some (.string ⟨#[]⟩) := HVV.out.cells
  have HAW := Lib.hid (awake7_any w7 (HT.out.below HB7.out) (HE.out.below HB7.out))
  go_wp2_with (go_at_call 10; ((with_reducible refine HAW.out.mono ?_); rintro e w8 ⟨rfl, hb⟩; have HB8 := Lib.hid (HB7.out.trans (hb.mono HB7.out.size)); clear hb))
  all_goals go_ret
  all_goals exact ⟨rfl, HB8.out⟩
set_option maxRecDepth 100000 in
set_option maxHeartbeats 1600000 in
theorem valCat_short (s t : ByteArray) (n : Int) (hs : s.size ≤ 200) (ht2 : t.size ≤ 200) (hl : ¬ 200 < s.size + t.size) (n0 : -9223372036854775808 ≤ n) (n1 : n ≤ 9223372036854775807) (w : World) (ht : Tab w) (he : EtV w) :
    Calls Tryd.prog 8 #[.string s, .string t, .int .i64 n] w fun e w' => e = .returned (.bool true) ∧ Below w.heap.size w w' := by
  have hx : ∀ w : World, Calls Tryd.prog 21 #[.int .u8 2, .int .i64 0, .string s] w fun e w' => e = .returned (.agg #[.int .i64 2, .int .i64 0, .string s]) ∧ Below w.heap.size w w' := by
    have h := make_any 2 0 s (by decide) (by decide)
    rw [show makeV (2 % 5) 0 s = Vl.text s from by unfold makeV; rw [if_neg (by decide), if_pos (by decide), if_neg (by omega)]] at h
    exact h
  have hy : ∀ w : World, Calls Tryd.prog 21 #[.int .u8 2, .int .i64 0, .string t] w fun e w' => e = .returned (.agg #[.int .i64 2, .int .i64 0, .string t]) ∧ Below w.heap.size w w' := by
    have h := make_any 2 0 t (by decide) (by decide)
    rw [show makeV (2 % 5) 0 t = Vl.text t from by unfold makeV; rw [if_neg (by decide), if_pos (by decide), if_neg (by omega)]] at h
    exact h
  have ho1 := ok_text s (by omega)
  have ho2 := ok_text t (by omega)
  have h1 : ∀ w : World, Tab w → EtV w → Calls Tryd.prog 19 #[.int .i64 15, .agg #[.int .i64 2, .int .i64 0, .string s], .agg #[.int .i64 2, .int .i64 0, .string t]] w fun e w' => e = .returned (.agg #[.int .i64 2, .int .i64 0, .string (s ++ t)]) ∧ Below w.heap.size w w' := by
    have h := two_any 15 (Vl.text s) (Vl.text t) ho1 ho2
    rw [show twoV 15 (Vl.text s) (Vl.text t) = Vl.text (s ++ t) from by
      rw [show twoV 15 (Vl.text s) (Vl.text t) = joinV (Vl.text s) (Vl.text t) from rfl]
      unfold joinV
      rw [show textV (Vl.text s) = s from rfl, show textV (Vl.text t) = t from rfl, if_neg hl]] at h
    exact h
  have hs1 : ¬ (200 : Int) < (s.size : Int) := by omega
  have hs2 : ¬ (200 : Int) < (t.size : Int) := by omega
  have hs3 : ¬ (200 : Int) < (s.size : Int) + (t.size : Int) := by omega
  have hs4 : wrap64 ((s.size : Int) + (t.size : Int)) = (s.size : Int) + (t.size : Int) := by unfold wrap64; omega
  have hs5 : IntKind.i64.wrap ((s.size : Int) + (t.size : Int)) = (s.size : Int) + (t.size : Int) := by rw [IntKind.wrap_i64]; omega
  have hz : ∀ w : World, Calls Tryd.prog 21 #[.int .u8 1, .int .i64 n, .string ⟨#[]⟩] w fun e w' => e = .returned (.agg #[.int .i64 1, .int .i64 n, .string ⟨#[]⟩]) ∧ Below w.heap.size w w' := make_any 1 n ⟨#[]⟩ (by decide) (by decide)
  have hd : (strOfNums (decL n)).size ≤ 20 := by rw [strOfNums_size]; exact decL_len n n0 n1
  have ho3 := ok_num n n0 n1
  have h2 : ∀ w : World, Tab w → EtV w → Calls Tryd.prog 19 #[.int .i64 15, .agg #[.int .i64 0, .int .i64 0, .string ⟨#[]⟩], .agg #[.int .i64 1, .int .i64 n, .string ⟨#[]⟩]] w fun e w' => e = .returned (.agg #[.int .i64 2, .int .i64 0, .string (strOfNums (decL n))]) ∧ Below w.heap.size w w' := by
    have h := two_any 15 Vl.none (Vl.num n) ok_none ho3
    rw [show twoV 15 Vl.none (Vl.num n) = Vl.text (strOfNums (decL n)) from by
      rw [show twoV 15 Vl.none (Vl.num n) = joinV Vl.none (Vl.num n) from rfl]
      unfold joinV
      rw [show textV Vl.none = ⟨#[]⟩ from rfl, show textV (Vl.num n) = strOfNums (decL n) from rfl, if_neg (by have : (⟨#[]⟩ : ByteArray).size = 0 := rfl; omega), nil_app]] at h
    exact h
  have h3 : ∀ w : World, Tab w → EtV w → Calls Tryd.prog 15 #[.agg #[.int .i64 1, .int .i64 n, .string ⟨#[]⟩]] w fun e w' => e = .returned (.string (strOfNums (decL n))) ∧ Below w.heap.size w w' := textV_any (Vl.num n) ho3
  have h4 : ∀ w : World, Tab w → EtV w → Calls Tryd.prog 19 #[.int .i64 15, .agg #[.int .i64 2, .int .i64 0, .string s], .agg #[.int .i64 0, .int .i64 0, .string ⟨#[]⟩]] w fun e w' => e = .returned (.agg #[.int .i64 2, .int .i64 0, .string s]) ∧ Below w.heap.size w w' := by
    have h := two_any 15 (Vl.text s) Vl.none ho1 ok_none
    rw [show twoV 15 (Vl.text s) Vl.none = Vl.text s from by
      rw [show twoV 15 (Vl.text s) Vl.none = joinV (Vl.text s) Vl.none from rfl]
      unfold joinV
      rw [show textV Vl.none = ⟨#[]⟩ from rfl, show textV (Vl.text s) = s from rfl, if_neg (by have : (⟨#[]⟩ : ByteArray).size = 0 := rfl; omega), app_nil]] at h
    exact h
  obtain ⟨X, hX⟩ := Cmp.mk (Vl.text s)
  have fx : ∀ w : World, (binOp .eql 23 X (.agg #[.int .i64 2, .int .i64 0, .string s])).run Tryd.prog w = .ok (.bool true) w := hX.self
  have gx : ∀ (a b : Operand) (w : World), (eqGuard .eql 23 a b X (.agg #[.int .i64 2, .int .i64 0, .string s])).run Tryd.prog w = .ok () w := fun a b w => hX.guard a b _ w
  have h4' : ∀ w : World, Tab w → EtV w → Calls Tryd.prog 19 #[.int .i64 15, .agg #[.int .i64 2, .int .i64 0, .string s], .agg #[.int .i64 0, .int .i64 0, .string ⟨#[]⟩]] w fun e w' => e = .returned X ∧ Below w.heap.size w w' := fun w a b => hX.calls (h4 w a b)
  have hns : ¬ 9223372036854775807 < s.size + t.size := by omega
  obtain ⟨d, hdd⟩ : ∃ d, strOfNums (decL n) = d := ⟨_, rfl⟩
  rw [hdd] at h2 h3
  have HZ := Lib.hid hz; have H2 := Lib.hid h2; have H3 := Lib.hid h3; have H4 := Lib.hid h4'
  clear hz h2 h3 h4 h4' ho3 hX hdd hd n0 n1
  have HX := Lib.hid hx; have HY := Lib.hid hy; have H1 := Lib.hid h1
  have HT := Lib.hid ht; have HE := Lib.hid he
  clear hx hy h1 ht he ho1 ho2 hl hs ht2
  go_enter Tryd.func8, Tryd.ntmps8
  go_upto_region 4 with (first
    | (go_at_call 21; ((with_reducible refine (HX.out _).mono ?_); rintro e w2 ⟨rfl, hb⟩; have HB2 := Lib.hid (hb); clear hb))
    | (go_at_call 21; ((with_reducible refine (HY.out _).mono ?_); rintro e w3 ⟨rfl, hb⟩; have HB3 := Lib.hid (HB2.out.trans (hb.mono HB2.out.size)); clear hb)))
  obtain ⟨q1, q2, q4⟩ := vl_pair w3 (Vl.text s) (Vl.text t)
  have HB4 := Lib.hid (show Below w.heap.size w ((w3.alloc (.cells #[.int .i64 2, .int .i64 0, .string s] 23)).alloc (.cells #[.int .i64 2, .int .i64 0, .string t] 23)) from HB3.out.trans (q4.mono HB3.out.size))
  have HVX := Lib.hid (show VlAt ((w3.alloc (.cells #[.int .i64 2, .int .i64 0, .string s] 23)).alloc (.cells #[.int .i64 2, .int .i64 0, .string t] 23)) w3.heap.size (Vl.text s) from q1)
  have HVY := Lib.hid (show VlAt ((w3.alloc (.cells #[.int .i64 2, .int .i64 0, .string s] 23)).alloc (.cells #[.int .i64 2, .int .i64 0, .string t] 23)) (w3.heap.size + 1) (Vl.text t) from q2)
  clear q1 q2 q4
  obtain ⟨q, hq⟩ : ∃ q, w3.heap.size = q := ⟨_, rfl⟩
  obtain ⟨w5, hw5⟩ : ∃ w5, ((w3.alloc (.cells #[.int .i64 2, .int .i64 0, .string s] 23)).alloc (.cells #[.int .i64 2, .int .i64 0, .string t] 23)) = w5 := ⟨_, rfl⟩
  rw [hw5] at HVX HVY HB4 ⊢
  rw [hq] at HVX HVY ⊢
  clear hq hw5 HX HY HB2 HB3
  obtain ⟨x0, x1, x2⟩ : w5.cell? ⟨q, 0, none⟩ = some (.int .i64 2) ∧ w5.cell? ⟨q, 1, none⟩ = some (.int .i64 0) ∧ w5.cell? ⟨q, 2, none⟩ = some (.string s) := HVX.out.cells
  obtain ⟨y0, y1, y2⟩ : w5.cell? ⟨q + 1, 0, none⟩ = some (.int .i64 2) ∧ w5.cell? ⟨q + 1, 1, none⟩ = some (.int .i64 0) ∧ w5.cell? ⟨q + 1, 2, none⟩ = some (.string t) := HVY.out.cells
  go_upto_region 5 with (go_at_call 19; ((with_reducible refine (H1.out _ (HT.out.below HB4.out) (HE.out.below HB4.out)).mono ?_); rintro e w6 ⟨rfl, hb⟩; have HB6 := Lib.hid (HB4.out.trans (hb.mono HB4.out.size)); have HVX6 := Lib.hid (HVX.out.over hb); clear hb))
  have HVV := Lib.hid (show VlAt (w6.alloc (.cells #[.int .i64 2, .int .i64 0, .string (s ++ t)] 23)) w6.heap.size (Vl.text (s ++ t)) from VlAt.new w6 (Vl.text (s ++ t)))
  have HBV := Lib.hid (show Below w6.heap.size w6 (w6.alloc (.cells #[.int .i64 2, .int .i64 0, .string (s ++ t)] 23)) from below_vl w6 (Vl.text (s ++ t)))
  obtain ⟨r, hr⟩ : ∃ r, w6.heap.size = r := ⟨_, rfl⟩
  have HVX7 := Lib.hid (HVX6.out.over HBV.out)
  have HB7 := Lib.hid (HB6.out.trans (HBV.out.mono HB6.out.size))
  obtain ⟨w7, hw7⟩ : ∃ w7, w6.alloc (.cells #[.int .i64 2, .int .i64 0, .string (s ++ t)] 23) = w7 := ⟨_, rfl⟩
  rw [hw7] at HVV HVX7 HB7 ⊢
  rw [hr] at HVV ⊢
  clear hr hw7 HBV HVX6 HB6 HB4 HVX HVY x0 x1 x2 y0 y1 y2 H1
  obtain ⟨v0, v1, v2⟩ : w7.cell? ⟨r, 0, none⟩ = some (.int .i64 2) ∧ w7.cell? ⟨r, 1, none⟩ = some (.int .i64 0) ∧ w7.cell? ⟨r, 2, none⟩ = some (.string (s ++ t)) := HVV.out.cells
  obtain ⟨x0, x1, x2⟩ : w7.cell? ⟨q, 0, none⟩ = some (.int .i64 2) ∧ w7.cell? ⟨q, 1, none⟩ = some (.int .i64 0) ∧ w7.cell? ⟨q, 2, none⟩ = some (.string s) := HVX7.out.cells
  go_upto_region 8 with (first
    | (go_at_call 21; ((with_reducible refine (HZ.out _).mono ?_); rintro e w8 ⟨rfl, hb⟩; have HB8 := Lib.hid (HB7.out.trans (hb.mono HB7.out.size)); have HVX8 := Lib.hid (HVX7.out.over hb); have HVV8 := Lib.hid (HVV.out.over hb); clear hb))
    | (go_at_call 19; ((with_reducible refine (H2.out _ (HT.out.below HB8.out) (HE.out.below HB8.out)).mono ?_); rintro e w9 ⟨rfl, hb⟩; have HB9 := Lib.hid (HB8.out.trans (hb.mono HB8.out.size)); have HVX9 := Lib.hid (HVX8.out.over hb); have HVV9 := Lib.hid (HVV8.out.over hb); clear hb)))
  have HVD := Lib.hid (show VlAt (w9.alloc (.cells #[.int .i64 2, .int .i64 0, .string d] 23)) w9.heap.size (Vl.text d) from VlAt.new w9 (Vl.text d))
  have HBD := Lib.hid (show Below w9.heap.size w9 (w9.alloc (.cells #[.int .i64 2, .int .i64 0, .string d] 23)) from below_vl w9 (Vl.text d))
  have HVX5 := Lib.hid (HVX9.out.over HBD.out)
  have HVV5 := Lib.hid (HVV9.out.over HBD.out)
  have HB5 := Lib.hid (HB9.out.trans (HBD.out.mono HB9.out.size))
  obtain ⟨u, hu⟩ : ∃ u, w9.heap.size = u := ⟨_, rfl⟩
  obtain ⟨w5, hw5⟩ : ∃ w5, w9.alloc (.cells #[.int .i64 2, .int .i64 0, .string d] 23) = w5 := ⟨_, rfl⟩
  rw [hw5] at HVD HVX5 HVV5 HB5 ⊢
  rw [hu] at HVD ⊢
  clear hu hw5 HBD HVX9 HVV9 HVX8 HVV8 HVX7 HVV HB8 HB7 HB9 x0 x1 x2 v0 v1 v2 H2
  obtain ⟨v0, v1, v2⟩ : w5.cell? ⟨r, 0, none⟩ = some (.int .i64 2) ∧ w5.cell? ⟨r, 1, none⟩ = some (.int .i64 0) ∧ w5.cell? ⟨r, 2, none⟩ = some (.string (s ++ t)) := HVV5.out.cells
  obtain ⟨x0, x1, x2⟩ : w5.cell? ⟨q, 0, none⟩ = some (.int .i64 2) ∧ w5.cell? ⟨q, 1, none⟩ = some (.int .i64 0) ∧ w5.cell? ⟨q, 2, none⟩ = some (.string s) := HVX5.out.cells
  have d2 : w5.cell? ⟨u, 2, none⟩ = some (.string d) := HVD.out.cells.2.2
  have HAW := Lib.hid (fun (wr : World) (hr : Below w5.heap.size w5 wr) => awake7_any wr (HT.out.below (HB5.out.trans (hr.mono HB5.out.size))) (HE.out.below (HB5.out.trans (hr.mono HB5.out.size))))
  have H3 := Lib.hid (fun (wr : World) (hr : Below w5.heap.size w5 wr) => H3.out wr (HT.out.below (HB5.out.trans (hr.mono HB5.out.size))) (HE.out.below (HB5.out.trans (hr.mono HB5.out.size))))
  have H4 := Lib.hid (fun (wr : World) (hr : Below w5.heap.size w5 wr) => H4.out wr (HT.out.below (HB5.out.trans (hr.mono HB5.out.size))) (HE.out.below (HB5.out.trans (hr.mono HB5.out.size))))
  have HR := Lib.hid ((Below.refl w5.heap.size w5).drew)
  clear HT HE hs1 hs2 hs3 hs4 hs5
  go_region_held3 (fun w' => w'.cell? ⟨r, 0, none⟩ = some (.int .i64 2) ∧ w'.cell? ⟨r, 2, none⟩ = some (.string (s ++ t)) ∧ w'.cell? ⟨q, 0, none⟩ = some (.int .i64 2) ∧ w'.cell? ⟨q, 1, none⟩ = some (.int .i64 0) ∧ w'.cell? ⟨q, 2, none⟩ = some (.string s) ∧ w'.cell? ⟨u, 2, none⟩ = some (.string d)) (go_keep) (first | (go_at_call 21; ((with_reducible refine (HZ.out _).mono ?_); rintro e w11 ⟨rfl, hb⟩; have HR11 := Lib.hid (HR.out.trans (hb.mono HR.out.size)); obtain ⟨v110, v111, v112⟩ : w11.cell? ⟨r, 0, none⟩ = some (.int .i64 2) ∧ w11.cell? ⟨r, 1, none⟩ = some (.int .i64 0) ∧ w11.cell? ⟨r, 2, none⟩ = some (.string (s ++ t)) := (HVV5.out.over HR11.out).cells; obtain ⟨x110, x111, x112⟩ : w11.cell? ⟨q, 0, none⟩ = some (.int .i64 2) ∧ w11.cell? ⟨q, 1, none⟩ = some (.int .i64 0) ∧ w11.cell? ⟨q, 2, none⟩ = some (.string s) := (HVX5.out.over HR11.out).cells; have d112 : w11.cell? ⟨u, 2, none⟩ = some (.string d) := (HVD.out.over HR11.out).cells.2.2; clear hb)) | (go_at_call 15; ((with_reducible refine (H3.out _ HR11.out).mono ?_); rintro e w12 ⟨rfl, hb⟩; have HR12 := Lib.hid (HR11.out.trans (hb.mono HR11.out.size)); obtain ⟨v120, v121, v122⟩ : w12.cell? ⟨r, 0, none⟩ = some (.int .i64 2) ∧ w12.cell? ⟨r, 1, none⟩ = some (.int .i64 0) ∧ w12.cell? ⟨r, 2, none⟩ = some (.string (s ++ t)) := (HVV5.out.over HR12.out).cells; obtain ⟨x120, x121, x122⟩ : w12.cell? ⟨q, 0, none⟩ = some (.int .i64 2) ∧ w12.cell? ⟨q, 1, none⟩ = some (.int .i64 0) ∧ w12.cell? ⟨q, 2, none⟩ = some (.string s) := (HVX5.out.over HR12.out).cells; have d122 : w12.cell? ⟨u, 2, none⟩ = some (.string d) := (HVD.out.over HR12.out).cells.2.2; clear hb)) | (go_at_call 19; ((with_reducible refine (H4.out _ HR12.out).mono ?_); rintro e w13 ⟨rfl, hb⟩; have HR13 := Lib.hid (HR12.out.trans (hb.mono HR12.out.size)); obtain ⟨v130, v131, v132⟩ : w13.cell? ⟨r, 0, none⟩ = some (.int .i64 2) ∧ w13.cell? ⟨r, 1, none⟩ = some (.int .i64 0) ∧ w13.cell? ⟨r, 2, none⟩ = some (.string (s ++ t)) := (HVV5.out.over HR13.out).cells; obtain ⟨x130, x131, x132⟩ : w13.cell? ⟨q, 0, none⟩ = some (.int .i64 2) ∧ w13.cell? ⟨q, 1, none⟩ = some (.int .i64 0) ∧ w13.cell? ⟨q, 2, none⟩ = some (.string s) := (HVX5.out.over HR13.out).cells; have d132 : w13.cell? ⟨u, 2, none⟩ = some (.string d) := (HVD.out.over HR13.out).cells.2.2; clear hb)) | (go_at_call 10; ((with_reducible refine (HAW.out _ HR13.out).mono ?_); rintro e w14 ⟨rfl, hb⟩; have HR14 := Lib.hid (HR13.out.trans (hb.mono HR13.out.size)); obtain ⟨v140, v141, v142⟩ : w14.cell? ⟨r, 0, none⟩ = some (.int .i64 2) ∧ w14.cell? ⟨r, 1, none⟩ = some (.int .i64 0) ∧ w14.cell? ⟨r, 2, none⟩ = some (.string (s ++ t)) := (HVV5.out.over HR14.out).cells; obtain ⟨x140, x141, x142⟩ : w14.cell? ⟨q, 0, none⟩ = some (.int .i64 2) ∧ w14.cell? ⟨q, 1, none⟩ = some (.int .i64 0) ∧ w14.cell? ⟨q, 2, none⟩ = some (.string s) := (HVX5.out.over HR14.out).cells; have d142 : w14.cell? ⟨u, 2, none⟩ = some (.string d) := (HVD.out.over HR14.out).cells.2.2; clear hb)))
  all_goals go_wp2_with fail
  all_goals go_ret
  all_goals exact ⟨rfl, HB5.out.trans (HR14.out.mono HB5.out.size)⟩
theorem valCat_any (s t : ByteArray) (n : Int) (n0 : -9223372036854775808 ≤ n) (n1 : n ≤ 9223372036854775807) (w : World) (ht : Tab w) (he : EtV w) :
    Calls Tryd.prog 8 #[.string s, .string t, .int .i64 n] w fun e w' => e = .returned (.bool true) ∧ Below w.heap.size w w' := by
  by_cases h : 200 < s.size ∨ 200 < t.size
  · exact valCat_far s t n h w ht he
  · by_cases hl : 200 < s.size + t.size
    · exact valCat_long s t n (by omega) (by omega) hl w ht he
    · exact valCat_short s t n (by omega) (by omega) hl n0 n1 w ht he
end Go.Proofs.YtgnandbokgfeiaaDoor
