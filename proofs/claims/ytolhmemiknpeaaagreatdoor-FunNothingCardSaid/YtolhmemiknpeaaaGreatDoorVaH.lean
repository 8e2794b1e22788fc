/-
  Layer 7, the program: Two and Neg of any values; the document's example.
-/
import Derived.Test.YtolhmemiknpeaaaGreatDoorVaG
namespace Go.Proofs.YtolhmemiknpeaaaGreatDoor
open Go.RowKit

theorem digL_lenV : ∀ (k u : Nat), u < 10 ^ (k + 1) → (digL u).length ≤ k + 1
  | 0, u, h => by rw [digL_small u (by omega)]; simp
  | k + 1, u, h => by
    by_cases h10 : u < 10
    · rw [digL_small u h10]; simp
    · rw [digL_more u h10, List.length_append]
      have := digL_lenV k (u / 10) (by rw [Nat.pow_succ] at h; omega)
      simp only [List.length_cons, List.length_nil]; omega
theorem decL_len (n : Int) (h0 : -9223372036854775808 ≤ n) (h1 : n ≤ 9223372036854775807) : (decL n).length ≤ 20 := by
  have h := digL_lenV 18 n.natAbs (by omega)
  unfold decL
  split
  · simp only [List.length_cons]; omega
  · omega
theorem errT_size (n : Int) : (errT n).size ≤ 8 := by
  unfold errT
  by_cases h : n < 0 ∨ 7 ≤ n
  · rw [if_pos h]; decide
  · rw [if_neg h]
    have hn : n = 0 ∨ n = 1 ∨ n = 2 ∨ n = 3 ∨ n = 4 ∨ n = 5 ∨ n = 6 := by omega
    rcases hn with rfl | rfl | rfl | rfl | rfl | rfl | rfl <;> decide
theorem textV_size (v : Vl) (h : VOk v) : (textV v).size ≤ 4000000000000000000 := by
  obtain ⟨h0, h1, h2⟩ := h
  unfold textV
  split
  · rw [strOfNums_size]; have := decL_len v.n h0 h1; omega
  · split
    · exact h2
    · split
      · split <;> decide
      · split
        · have := errT_size v.n; omega
        · decide
theorem two_any (kind : Int) (a b : Vl) (ha : VOk a) (hb : VOk b) (w : World) (ht : Tab w) (he : EtV w) : Calls Tryz.prog 35 #[.int .i64 kind, .agg #[.int .i64 a.k, .int .i64 a.n, .string a.s], .agg #[.int .i64 b.k, .int .i64 b.n, .string b.s]] w fun e w' => e = .returned (.agg #[.int .i64 (twoV kind a b).k, .int .i64 (twoV kind a b).n, .string (twoV kind a b).s]) ∧ Below w.heap.size w w' := by
  by_cases ha4 : a.k = 4
  · rw [show twoV kind a b = a from by unfold twoV; rw [if_pos ha4]]; exact two_a kind a b ha4 w
  by_cases hb4 : b.k = 4
  · rw [show twoV kind a b = b from by unfold twoV; rw [if_neg ha4, if_pos hb4]]; exact two_b kind a b ha4 hb4 w
  rw [show twoV kind a b = opV kind a b from by unfold twoV; rw [if_neg ha4, if_neg hb4]]
  have hs : (textV a).size + (textV b).size ≤ 9000000000000000000 := by have := textV_size a ha; have := textV_size b hb; omega
  by_cases hk : kind < 9 ∨ 20 ≤ kind
  · rw [show opV kind a b = Vl.err 1 from by unfold opV; iterate 11 rw [if_neg (by omega)]]
    exact two_c kind a b ha4 hb4 hk w
  have hk2 : kind = 9 ∨ kind = 10 ∨ kind = 11 ∨ kind = 12 ∨ kind = 13 ∨ kind = 14 ∨ kind = 15 ∨ kind = 16 ∨ kind = 17 ∨ kind = 18 ∨ kind = 19 := by omega
  rcases hk2 with rfl | rfl | rfl | rfl | rfl | rfl | rfl | rfl | rfl | rfl | rfl
  · exact two_9 a b ha4 hb4 w
  · exact two_10 a b ha4 hb4 w
  · exact two_11 a b ha4 hb4 w
  · exact two_12 a b ha4 hb4 w
  · exact two_13 a b ha4 hb4 w
  · exact two_14 a b ha4 hb4 w
  · exact two_15 a b ha4 hb4 ha hb hs w ht he
  · exact two_16 a b ha4 hb4 ha hb w
  · exact two_17 a b ha4 hb4 ha hb w
  · exact two_18 a b ha4 hb4 ha hb w
  · exact two_19 a b ha4 hb4 ha w
theorem ng_open (w : World) (a : Vl) : VlAt ((w.alloc (.cells #[.int .i64 a.k, .int .i64 a.n, .string a.s] 28)).alloc (.cells #[.int .i64 0, .int .i64 0, .string ⟨#[]⟩] 28)) w.heap.size a ∧ VlAt ((w.alloc (.cells #[.int .i64 a.k, .int .i64 a.n, .string a.s] 28)).alloc (.cells #[.int .i64 0, .int .i64 0, .string ⟨#[]⟩] 28)) (w.heap.size + 1) Vl.none ∧ Below w.heap.size w ((w.alloc (.cells #[.int .i64 a.k, .int .i64 a.n, .string a.s] 28)).alloc (.cells #[.int .i64 0, .int .i64 0, .string ⟨#[]⟩] 28)) := by
  have b1 := below_vl w a
  have b2 := below_z (w.alloc (.cells #[.int .i64 a.k, .int .i64 a.n, .string a.s] 28))
  have h2 := VlAt.zero (w.alloc (.cells #[.int .i64 a.k, .int .i64 a.n, .string a.s] 28))
  rw [World.size_alloc] at h2
  exact ⟨(VlAt.new w a).over b2, h2, b1.trans (b2.mono b1.size)⟩
set_option maxRecDepth 100000 in
set_option maxHeartbeats 1600000 in
theorem neg_a (a : Vl) (ha4 : a.k = 4) (w : World) : Calls Tryz.prog 45 #[.agg #[.int .i64 a.k, .int .i64 a.n, .string a.s]] w fun e w' => e = .returned (.agg #[.int .i64 a.k, .int .i64 a.n, .string a.s]) ∧ Below w.heap.size w w' := by
  have hea := isError_any a
  rw [decide_eq_true ha4] at hea
  have HEA := Lib.hid hea
  clear hea ha4
  obtain ⟨k1, k2, k3⟩ := ng_open w a
  have HA1 := Lib.hid k1; have HZ1 := Lib.hid k2; have HB1 := Lib.hid k3
  clear k1 k2 k3
  go_enter Tryz.func45, Tryz.ntmps45
  go_upto_region 1 with (fail)
  generalize hz : w.heap.size = q at HA1 HZ1 ⊢
  generalize ((w.alloc (.cells #[.int .i64 a.k, .int .i64 a.n, .string a.s] 28)).alloc (.cells #[.int .i64 0, .int .i64 0, .string ⟨#[]⟩] 28)) = w1 at HA1 HZ1 HB1 ⊢
  have HLE := Lib.hid (show w.heap.size ≤ q + 1 by omega)
  obtain ⟨c0, c1, c2⟩ := HA1.out.cells
  clear hz
  go_wp2_with (first
    | (go_at_call 53; ((with_reducible refine (HEA.out _).mono ?_); rintro e w2 ⟨rfl, hb⟩; have HA2 := Lib.hid (HA1.out.over hb); have HZ2 := Lib.hid (HZ1.out.over hb); have HB2 := Lib.hid (HB1.out.trans (hb.mono HB1.out.size)); obtain ⟨d0, d1, d2⟩ := HA2.out.cells; obtain ⟨m0, m1, m2⟩ := HZ2.out.melts; obtain ⟨u0, u1, u2⟩ := HZ2.out.cells; clear hb)))
  exact bodyPost_ret (out_vl (HZ2.out.put3 a) _ _ 2 res_neg rfl) rfl ⟨rfl, belowV3 HB2.out HLE.out a⟩
set_option maxRecDepth 100000 in
set_option maxHeartbeats 1600000 in
theorem neg_b (a : Vl) (ha4 : ¬ a.k = 4) (h : isInt a = false) (w : World) : Calls Tryz.prog 45 #[.agg #[.int .i64 a.k, .int .i64 a.n, .string a.s]] w fun e w' => e = .returned (.agg #[.int .i64 (Vl.err 1).k, .int .i64 (Vl.err 1).n, .string (Vl.err 1).s]) ∧ Below w.heap.size w w' := by
  have hea := isError_any a
  rw [decide_eq_false ha4] at hea
  have HEA := Lib.hid hea
  clear hea ha4
  have hi := int_any a
  rw [h] at hi
  have HI := Lib.hid hi
  clear hi
  have hc := fun (w : World) => fault_any 1 w
  have HC := Lib.hid hc
  clear hc
  obtain ⟨k1, k2, k3⟩ := ng_open w a
  have HA1 := Lib.hid k1; have HZ1 := Lib.hid k2; have HB1 := Lib.hid k3
  clear k1 k2 k3
  go_enter Tryz.func45, Tryz.ntmps45
  go_upto_region 1 with (fail)
  generalize hz : w.heap.size = q at HA1 HZ1 ⊢
  generalize ((w.alloc (.cells #[.int .i64 a.k, .int .i64 a.n, .string a.s] 28)).alloc (.cells #[.int .i64 0, .int .i64 0, .string ⟨#[]⟩] 28)) = w1 at HA1 HZ1 HB1 ⊢
  have HLE := Lib.hid (show w.heap.size ≤ q + 1 by omega)
  obtain ⟨c0, c1, c2⟩ := HA1.out.cells
  clear hz
  go_wp2_with (first
    | (go_at_call 53; ((with_reducible refine (HEA.out _).mono ?_); rintro e w2 ⟨rfl, hb⟩; have HA2 := Lib.hid (HA1.out.over hb); have HZ2 := Lib.hid (HZ1.out.over hb); have HB2 := Lib.hid (HB1.out.trans (hb.mono HB1.out.size)); obtain ⟨d0, d1, d2⟩ := HA2.out.cells; obtain ⟨m0, m1, m2⟩ := HZ2.out.melts; obtain ⟨u0, u1, u2⟩ := HZ2.out.cells; clear hb))
    | (go_at_call 44; ((with_reducible refine (HI.out _).mono ?_); rintro e w3 ⟨rfl, hb⟩; have HA3 := Lib.hid (HA2.out.over hb); have HZ3 := Lib.hid (HZ2.out.over hb); have HB3 := Lib.hid (HB2.out.trans (hb.mono HB2.out.size)); obtain ⟨g0, g1, g2⟩ := HA3.out.cells; obtain ⟨m0, m1, m2⟩ := HZ3.out.melts; obtain ⟨u0, u1, u2⟩ := HZ3.out.cells; clear hb))
    | (go_at_call 55; ((with_reducible refine (HC.out _).mono ?_); rintro e w4 ⟨rfl, hb⟩; have HZ4 := Lib.hid (HZ3.out.over hb); obtain ⟨m0, m1, m2⟩ := HZ4.out.melts; obtain ⟨u0, u1, u2⟩ := HZ4.out.cells; have HB4 := Lib.hid (HB3.out.trans (hb.mono HB3.out.size)); clear hb)))
  exact bodyPost_ret (out_vl (HZ4.out.put3 (Vl.err 1)) _ _ 2 res_neg rfl) rfl ⟨rfl, belowV3 HB4.out HLE.out (Vl.err 1)⟩
set_option maxRecDepth 100000 in
set_option maxHeartbeats 1600000 in
theorem neg_c (a : Vl) (ha4 : ¬ a.k = 4) (h : isInt a = true) (ha : VOk a) (w : World) : Calls Tryz.prog 45 #[.agg #[.int .i64 a.k, .int .i64 a.n, .string a.s]] w fun e w' => e = .returned (.agg #[.int .i64 (fitV (-intV a)).k, .int .i64 (fitV (-intV a)).n, .string (fitV (-intV a)).s]) ∧ Below w.heap.size w w' := by
  have hea := isError_any a
  rw [decide_eq_false ha4] at hea
  have HEA := Lib.hid hea
  clear hea ha4
  have hi := int_any a
  rw [h] at hi
  have HI := Lib.hid hi
  clear hi
  have hc := fun (w : World) => negative_any (intV a) ha.int.1 ha.int.2 w
  generalize fitV (-intV a) = v at hc ⊢
  have HC := Lib.hid hc
  clear hc ha
  obtain ⟨k1, k2, k3⟩ := ng_open w a
  have HA1 := Lib.hid k1; have HZ1 := Lib.hid k2; have HB1 := Lib.hid k3
  clear k1 k2 k3
  go_enter Tryz.func45, Tryz.ntmps45
  go_upto_region 1 with (fail)
  generalize hz : w.heap.size = q at HA1 HZ1 ⊢
  generalize ((w.alloc (.cells #[.int .i64 a.k, .int .i64 a.n, .string a.s] 28)).alloc (.cells #[.int .i64 0, .int .i64 0, .string ⟨#[]⟩] 28)) = w1 at HA1 HZ1 HB1 ⊢
  have HLE := Lib.hid (show w.heap.size ≤ q + 1 by omega)
  obtain ⟨c0, c1, c2⟩ := HA1.out.cells
  clear hz
  go_wp2_with (first
    | (go_at_call 53; ((with_reducible refine (HEA.out _).mono ?_); rintro e w2 ⟨rfl, hb⟩; have HA2 := Lib.hid (HA1.out.over hb); have HZ2 := Lib.hid (HZ1.out.over hb); have HB2 := Lib.hid (HB1.out.trans (hb.mono HB1.out.size)); obtain ⟨d0, d1, d2⟩ := HA2.out.cells; obtain ⟨m0, m1, m2⟩ := HZ2.out.melts; obtain ⟨u0, u1, u2⟩ := HZ2.out.cells; clear hb))
    | (go_at_call 44; ((with_reducible refine (HI.out _).mono ?_); rintro e w3 ⟨rfl, hb⟩; have HA3 := Lib.hid (HA2.out.over hb); have HZ3 := Lib.hid (HZ2.out.over hb); have HB3 := Lib.hid (HB2.out.trans (hb.mono HB2.out.size)); obtain ⟨g0, g1, g2⟩ := HA3.out.cells; obtain ⟨m0, m1, m2⟩ := HZ3.out.melts; obtain ⟨u0, u1, u2⟩ := HZ3.out.cells; clear hb))
    | (go_at_call 57; ((with_reducible refine (HC.out _).mono ?_); rintro e w4 ⟨rfl, hb⟩; have HZ4 := Lib.hid (HZ3.out.over hb); obtain ⟨m0, m1, m2⟩ := HZ4.out.melts; obtain ⟨u0, u1, u2⟩ := HZ4.out.cells; have HB4 := Lib.hid (HB3.out.trans (hb.mono HB3.out.size)); clear hb)))
  exact bodyPost_ret (out_vl (HZ4.out.put3 v) _ _ 2 res_neg rfl) rfl ⟨rfl, belowV3 HB4.out HLE.out v⟩
theorem neg_any (a : Vl) (ha : VOk a) (w : World) : Calls Tryz.prog 45 #[.agg #[.int .i64 a.k, .int .i64 a.n, .string a.s]] w fun e w' => e = .returned (.agg #[.int .i64 (negV a).k, .int .i64 (negV a).n, .string (negV a).s]) ∧ Below w.heap.size w w' := by
  by_cases ha4 : a.k = 4
  · rw [show negV a = a from by unfold negV; rw [if_pos ha4]]; exact neg_a a ha4 w
  · by_cases h : isInt a = true
    · rw [show negV a = fitV (-intV a) from by unfold negV; rw [if_neg ha4, if_pos h]]; exact neg_c a ha4 h ha w
    · rw [show negV a = Vl.err 1 from by unfold negV; rw [if_neg ha4, if_neg h]]; exact neg_b a ha4 (by simpa using h) w
theorem ok_num (n : Int) (h0 : -9223372036854775808 ≤ n) (h1 : n ≤ 9223372036854775807) : VOk (Vl.num n) := ⟨h0, h1, by show (0 : Nat) ≤ _; decide⟩
theorem ok_text (s : ByteArray) (h : s.size ≤ 4000000000000000000) : VOk (Vl.text s) := ⟨by show (_ : Int) ≤ 0; decide, by show (0 : Int) ≤ _; decide, h⟩
theorem ok_none : VOk Vl.none := ⟨by show (_ : Int) ≤ 0; decide, by show (0 : Int) ≤ _; decide, by show (0 : Nat) ≤ _; decide⟩
theorem ok_err (n : Int) (h0 : 0 ≤ n) (h1 : n ≤ 7) : VOk (Vl.err n) := ⟨by show (_ : Int) ≤ n; omega, by show n ≤ _; omega, by show (0 : Nat) ≤ _; decide⟩
theorem ok_truth (b : Bool) : VOk (Vl.truth b) := by cases b <;> exact ⟨by decide, by decide, by decide⟩
end Go.Proofs.YtolhmemiknpeaaaGreatDoor
