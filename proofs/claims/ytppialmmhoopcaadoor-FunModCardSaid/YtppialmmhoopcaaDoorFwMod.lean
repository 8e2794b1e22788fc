/-
  Layer 8, the law: MOD.
-/
import Derived.Test.YtppialmmhoopcaaDoorFuL
import Derived.Deep.DeepCutAuto
namespace Go.Proofs.YtppialmmhoopcaaDoor
open Go.RowKit

theorem mod_is (a b : Int) (u v : Value) : callV 2 2 0 false [agOne (Vl.num a) u, agOne (Vl.num b) v] (restA [agOne (Vl.num a) u, agOne (Vl.num b) v]) = if b = 0 then Vl.err 3 else Vl.num (modI a b) := by
  rw [callV_ok (suit_ones 2 2 _ (by show (2 : Int) ≤ ((2 : Nat) : Int); decide) (by show ((2 : Nat) : Int) ≤ 2; decide) (fun x hx => by
    simp only [List.mem_cons, List.not_mem_nil, or_false] at hx
    rcases hx with rfl | rfl <;> rfl)) (faultA_none _ (fun x hx y hy => by
    simp only [List.mem_cons, List.not_mem_nil, or_false] at hx
    rcases hx with rfl | rfl <;> (simp [agOne] at hy; subst hy; show ¬ (1 : Int) = 4; decide)))]
  rfl
theorem modI_spec (a b : Int) (h0 : ¬ b = 0) : (a - modI a b).tmod b = 0 ∧ (modI a b = 0 ∨ (modI a b < 0 ↔ b < 0)) ∧ (modI a b).natAbs < b.natAbs := by
  have h1 : (a.tmod b).natAbs < b.natAbs := by rw [Int.natAbs_tmod]; exact Nat.mod_lt _ (by omega)
  have h2 : a - a.tmod b = b * a.tdiv b := by have := Int.mul_tdiv_add_tmod a b; omega
  have h3 : modI a b = (if a.tmod b ≠ 0 ∧ (decide (a.tmod b < 0) != decide (b < 0)) = true then a.tmod b + b else a.tmod b) := rfl
  generalize a.tmod b = t at h1 h2 h3
  by_cases hc : t ≠ 0 ∧ (decide (t < 0) != decide (b < 0)) = true
  · rw [if_pos hc] at h3
    have hs : ¬ (t < 0 ↔ b < 0) := fun h => by
      have := hc.2
      rw [show decide (t < 0) = decide (b < 0) from decide_eq_decide.2 h] at this
      simp at this
    have hc1 := hc.1
    rw [h3]
    refine ⟨?_, by omega, by omega⟩
    rw [show a - (t + b) = b * (a.tdiv b - 1) by rw [Int.mul_sub, ← h2]; omega]
    exact Int.mul_tmod_right b _
  · rw [if_neg hc] at h3
    have hs : t = 0 ∨ (t < 0 ↔ b < 0) := by
      by_cases h : t = 0
      · exact .inl h
      · refine .inr ?_
        have h4 : ¬ (decide (t < 0) != decide (b < 0)) = true := fun h5 => hc ⟨h, h5⟩
        rw [bne_iff_ne, ne_eq, Decidable.not_not, decide_eq_decide] at h4
        exact h4
    rw [h3, h2]
    exact ⟨Int.mul_tmod_right b _, hs, h1⟩
set_option maxRecDepth 100000 in
set_option maxHeartbeats 8000000 in
theorem funMod_any (a b : Int) (a0 : -2147483648 ≤ a) (a1 : a ≤ 2147483647) (b0 : -2147483648 ≤ b) (b1 : b ≤ 2147483647) (w : World) (ht : Tab w) (he : EtV w) : Calls Tryd.prog 6 #[.int .i32 a, .int .i32 b] w fun e w' => e = .returned (.bool true) ∧ Below w.heap.size w w' := by
  have H1 := Lib.hid (fun (W : World) => (show Calls Tryd.prog 10 #[.agg #[.int .i64 1, .int .i64 a, .string ⟨#[]⟩]] W _ from one_any (Vl.num a) W))
  have H2 := Lib.hid (fun (W : World) => (show Calls Tryd.prog 10 #[.agg #[.int .i64 1, .int .i64 b, .string ⟨#[]⟩]] W _ from one_any (Vl.num b) W))
  have HAW := Lib.hid (fun (W : World) (hW : Aft w W) => awake8_any W (ht.below hW) (he.below hW))
  have HC := Lib.hid (fun (W : World) (g1 g2 : Addr) (z : Nat) (t : TypeId) (hz : W.heap.size = z) (h1 : SV W W.heap.size (.slice (some g1) 1 1) [Vl.num a]) (h2 : SV W W.heap.size (.slice (some g2) 1 1) [Vl.num b]) =>
    call_MOD (W.alloc (.cells #[.bool false, .int .i64 0, .slice (some g1) 1 1, .bool false, .int .i64 0, .slice (some g2) 1 1] t)) (.slice (some ⟨z, 0, none⟩) 2 2) [agOne (Vl.num a) (.slice (some g1) 1 1), agOne (Vl.num b) (.slice (some g2) 1 1)] (sa_two W _ _ _ _ z t hz h1 h2) (az_two _ _ _ _ (ok_num a (by omega) (by omega)) (ok_num b (by omega) (by omega))))
  clear ht he
  by_cases hb0 : b = 0
  · have e0 : (b == 0) = true := beq_iff_eq.2 hb0
    have HX := Lib.hid (fun (u v : Value) => (mod_is a b u v).trans (if_pos hb0))
    clear hb0
    go_enter Tryd.func6, Tryd.ntmps6
    go_wp2_with (first
      | (go_at_call 10; ((with_reducible refine (H1.out _).mono ?_); rintro e w2 ⟨⟨v2, rfl, ⟨g2, rfl⟩, hs⟩, hb⟩; have HS2 := Lib.hid hs; have HB2 := Lib.hid hb; clear hs hb))
      | (go_at_call 10; ((with_reducible refine (H2.out _).mono ?_); rintro e w3 ⟨⟨v3, rfl, ⟨g3, rfl⟩, hs⟩, hb⟩; have HS3 := Lib.hid hs; have HB3 := Lib.hid hb; clear hs hb))
      | (go_at_call 11; ((with_reducible refine (HC.out _ _ _ _ _ rfl (HS2.out.next HB3.out) HS3.out).mono ?_); rw [HX.out]; rintro e w4 ⟨rfl, hb⟩; have HB4 := Lib.hid ((HB2.out.trans HB3.out).trans ((Aft.alloc w3 _).trans hb)); clear hb))
      | (go_at_call 8; ((with_reducible refine (HAW.out _ (HB4.out.allocR _)).mono ?_); rintro e w5 ⟨rfl, hb⟩; have HB5 := Lib.hid ((HB4.out.allocR _).trans hb); clear hb)))
    go_ret
    exact ⟨by rfl, HB5.out⟩
  · have e0 : (b == 0) = false := beq_eq_false_iff_ne.2 hb0
    have HX := Lib.hid (fun (u v : Value) => (mod_is a b u v).trans (if_neg hb0))
    obtain ⟨s1, s2, s3⟩ := modI_spec a b hb0
    generalize modI a b = m at HX s1 s2 s3
    go_enter Tryd.func6, Tryd.ntmps6
    go_upto_region 5 with (first
      | (go_at_call 10; ((with_reducible refine (H1.out _).mono ?_); rintro e w2 ⟨⟨v2, rfl, ⟨g2, rfl⟩, hs⟩, hb⟩; have HS2 := Lib.hid hs; have HB2 := Lib.hid hb; clear hs hb))
      | (go_at_call 10; ((with_reducible refine (H2.out _).mono ?_); rintro e w3 ⟨⟨v3, rfl, ⟨g3, rfl⟩, hs⟩, hb⟩; have HS3 := Lib.hid hs; have HB3 := Lib.hid hb; clear hs hb))
      | (go_at_call 11; ((with_reducible refine (HC.out _ _ _ _ _ rfl (HS2.out.next HB3.out) HS3.out).mono ?_); rw [HX.out]; rintro e w4 ⟨rfl, hb⟩; have HB4 := Lib.hid ((HB2.out.trans HB3.out).trans ((Aft.alloc w3 _).trans hb)); clear hb)))
    have ek : ((Vl.num m).k == 1) = true := rfl
    have en : (Vl.num m).n = m := rfl
    have ew : wrap64 (a - m) = a - m := by unfold wrap64; omega
    have et : ((a - m).tmod b == 0) = true := by rw [s1]; rfl
    go_wp2_with (first
      | (go_at_call 8; ((with_reducible refine (HAW.out _ (HB4.out.allocR _)).mono ?_); rintro e w5 ⟨rfl, hb⟩; have HB5 := Lib.hid ((HB4.out.allocR _).trans hb); clear hb)))
    all_goals go_ret
    all_goals exact ⟨by rfl, HB5.out⟩
end Go.Proofs.YtppialmmhoopcaaDoor
