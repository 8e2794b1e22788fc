/-
  Layer 8, the law: the example.
-/
import Derived.Test.YtolhmemiknpeaaaGreatDoorFuK
import Derived.Deep.DeepCutAuto
namespace Go.Proofs.YtolhmemiknpeaaaGreatDoor
open Go.RowKit

theorem names_nodup (c : Value) : ((tabF c).map (fun p => p.1.data.toList)).Nodup := by
  have h : ((tabF .nilFunc).map (fun p => p.1.data.toList)).Nodup := by decide +kernel
  exact h
theorem tab_row {c : Value} {i : Nat} {nm : ByteArray} {row : Value} (h : (tabF c)[i]? = some (nm, row)) : (nm, row) ∈ tabF c ∧ ∀ p ∈ tabF c, p.1 = nm → p.2 = row := by
  refine ⟨List.mem_of_getElem? h, fun p hp he => ?_⟩
  obtain ⟨j, hj⟩ := List.mem_iff_getElem?.1 hp
  have h1 : ((tabF c).map (fun p => p.1.data.toList))[i]? = some nm.data.toList := by rw [List.getElem?_map, h]; rfl
  have h2 : ((tabF c).map (fun p => p.1.data.toList))[j]? = some nm.data.toList := by rw [List.getElem?_map, hj, Option.map_some, he]
  have hij : i = j := by
    have hlt : i < ((tabF c).map (fun p => p.1.data.toList)).length := (List.getElem?_eq_some_iff.1 h1).1
    exact (List.getElem?_inj hlt (names_nodup c)).1 (h1.trans h2.symm)
  subst hij
  rw [h] at hj
  exact (congrArg Prod.snd (Option.some.inj hj)).symm
theorem suit_len {least most takes : Int} {ags : List Ag} (h : suitA least most takes ags = true) : least ≤ ags.length ∧ (ags.length : Int) ≤ most := by
  unfold suitA at h
  rw [Bool.and_eq_true, decide_eq_true_iff] at h
  exact h.1
theorem call_SUM (w : World) (v : Value) (ags : List Ag) (h : SA w w.heap.size v ags) (hz : AZ ags) (ht : Tab w) (he : EtV w) : Calls Tryz.prog 6 #[.string ⟨#[83, 85, 77]⟩, v] w fun e w' => e = .returned (.agg #[.int .i64 (callV 1 9223372036854775807 1 false ags (sumA ags)).k, .int .i64 (callV 1 9223372036854775807 1 false ags (sumA ags)).n, .string (callV 1 9223372036854775807 1 false ags (sumA ags)).s]) ∧ Below w.heap.size w w' :=
  call_any w v ags ⟨#[83, 85, 77]⟩ 1 9223372036854775807 1 false 14 (sumA ags) (by decide) h hz (fun c => tab_row (i := 0) rfl) (Go.Proofs.enters_of Tryz.func14 (by kernel_rfl) rfl)
    (fun hs _ W hW => have _ := hs; fsum_any W v ags ((h.below hW (Nat.le_refl _)).mono hW.size) hz (ht.below hW) (he.below hW))
theorem call_MOD (w : World) (v : Value) (ags : List Ag) (h : SA w w.heap.size v ags) (hz : AZ ags) : Calls Tryz.prog 6 #[.string ⟨#[77, 79, 68]⟩, v] w fun e w' => e = .returned (.agg #[.int .i64 (callV 2 2 0 false ags (restA ags)).k, .int .i64 (callV 2 2 0 false ags (restA ags)).n, .string (callV 2 2 0 false ags (restA ags)).s]) ∧ Below w.heap.size w w' :=
  call_any w v ags ⟨#[77, 79, 68]⟩ 2 2 0 false 23 (restA ags) (by decide) h hz (fun c => tab_row (i := 9) rfl) (Go.Proofs.enters_of Tryz.func23 (by kernel_rfl) rfl)
    (fun hs _ W hW => rest_any W v ags ((h.below hW (Nat.le_refl _)).mono hW.size) hz (by have := suit_len hs; omega))
theorem callV_ok {least most takes : Int} {sees : Bool} {ags : List Ag} {r : Vl} (hs : suitA least most takes ags = true) (hf : faultA ags = none) : callV least most takes sees ags r = r := by
  unfold callV; rw [if_pos hs]
  split
  · rfl
  · rw [hf]
theorem suit_many (ags : List Ag) (h1 : 1 ≤ ags.length) (h2 : ags.length ≤ 1000000) : suitA 1 9223372036854775807 1 ags = true := by
  unfold suitA
  rw [decide_eq_true (by omega), Bool.true_and, List.all_eq_true]
  intro a _; rfl
theorem suit_ones (least most : Int) (ags : List Ag) (h1 : least ≤ ags.length) (h2 : (ags.length : Int) ≤ most) (h : ∀ a ∈ ags, a.r = false) : suitA least most 0 ags = true := by
  unfold suitA
  rw [decide_eq_true ⟨h1, h2⟩, Bool.true_and, List.all_eq_true]
  intro a ha; rw [h a ha]; rfl
theorem two16_num (a b : Int) (h1 : -9223372036854775808 ≤ a + b) (h2 : a + b ≤ 9223372036854775807) : twoV 16 (Vl.num a) (Vl.num b) = Vl.num (a + b) := by
  unfold twoV
  rw [if_neg (show ¬ (Vl.num a).k = 4 by show ¬ (1 : Int) = 4; decide), if_neg (show ¬ (Vl.num b).k = 4 by show ¬ (1 : Int) = 4; decide)]
  show reckV sumV (Vl.num a) (Vl.num b) = _
  unfold reckV
  rw [if_pos (show isInt (Vl.num a) = true from rfl), if_pos (show isInt (Vl.num b) = true from rfl)]
  show fitV (a + b) = _
  exact fit_in h1 h2
/-- Two that stand alone. -/
theorem sa_two (w : World) (x y : Vl) (u v : Value) (z : Nat) (t : TypeId) (hz : w.heap.size = z) (hx : SV w w.heap.size u [x]) (hy : SV w w.heap.size v [y]) :
    SA (w.alloc (.cells #[.bool false, .int .i64 0, u, .bool false, .int .i64 0, v] t)) (w.alloc (.cells #[.bool false, .int .i64 0, u, .bool false, .int .i64 0, v] t)).heap.size (.slice (some ⟨z, 0, none⟩) 2 2) [agOne x u, agOne y v] :=
  sa_new w _ t [agOne x u, agOne y v] 2 z hz rfl rfl (fun a ha => by
    simp only [List.mem_cons, List.not_mem_nil, or_false] at ha
    rcases ha with rfl | rfl
    · exact hx
    · exact hy)
theorem az_two (x y : Vl) (u v : Value) (hx : VOk x) (hy : VOk y) : AZ [agOne x u, agOne y v] := by
  refine ⟨by show (2 : Nat) ≤ _; decide, by show (2 : Nat) ≤ _; decide, fun a ha => ?_⟩
  simp only [List.mem_cons, List.not_mem_nil, or_false] at ha
  rcases ha with rfl | rfl
  · exact ⟨by show (1 : Nat) ≤ _; decide, fun q hq => by simp [agOne] at hq; subst hq; exact hx⟩
  · exact ⟨by show (1 : Nat) ≤ _; decide, fun q hq => by simp [agOne] at hq; subst hq; exact hy⟩
theorem sum_ex (u v : Value) : callV 1 9223372036854775807 1 false [agOne (Vl.num 1) u, agOne (Vl.num 2) v] (sumA [agOne (Vl.num 1) u, agOne (Vl.num 2) v]) = Vl.num 3 := by
  have h1 : pas2 [1] [] [agOne (Vl.num 1) u, agOne (Vl.num 2) v] = some [Vl.num 1, Vl.num 2] := pas2_all [1] _ [] (fun a ha x hx => by
    simp only [List.mem_cons, List.not_mem_nil, or_false] at ha
    rcases ha with rfl | rfl <;> (simp [agOne] at hx; subst hx; rfl))
  rw [callV_ok (suit_many _ (by show (1 : Nat) ≤ 2; decide) (by show (2 : Nat) ≤ _; decide)) (faultA_none _ (fun a ha x hx => by
    simp only [List.mem_cons, List.not_mem_nil, or_false] at ha
    rcases ha with rfl | rfl <;> (simp [agOne] at hx; subst hx; show ¬ (1 : Int) = 4; decide)))]
  unfold sumA numsA
  rw [h1]
  show twoV 16 (twoV 16 (Vl.num 0) (Vl.num 1)) (Vl.num 2) = Vl.num 3
  rw [two16_num 0 1 (by decide) (by decide), two16_num (0 + 1) 2 (by decide) (by decide)]
  rfl
theorem SV.next {w w' : World} {v : Value} {vs : List Vl} (h : SV w w.heap.size v vs) (hb : Aft w w') : SV w' w'.heap.size v vs := (h.below hb (Nat.le_refl _)).mono hb.size
set_option maxRecDepth 100000 in
set_option maxHeartbeats 1600000 in
theorem awake8_any (w : World) (ht : Tab w) (he : EtV w) : Calls Tryz.prog 4 #[] w fun e w' => e = .returned (.bool true) ∧ Below w.heap.size w w' := by
  have H1 := Lib.hid (fun (W : World) => (show Calls Tryz.prog 8 #[.agg #[.int .i64 1, .int .i64 1, .string ⟨#[]⟩]] W _ from one_any (Vl.num 1) W))
  have H2 := Lib.hid (fun (W : World) => (show Calls Tryz.prog 8 #[.agg #[.int .i64 1, .int .i64 2, .string ⟨#[]⟩]] W _ from one_any (Vl.num 2) W))
  have HT := Lib.hid ht; have HE := Lib.hid he
  have HC := Lib.hid (fun (W : World) (g1 g2 : Addr) (z : Nat) (t : TypeId) (hz : W.heap.size = z) (h1 : SV W W.heap.size (.slice (some g1) 1 1) [Vl.num 1]) (h2 : SV W W.heap.size (.slice (some g2) 1 1) [Vl.num 2]) (hb : Aft w W) =>
    call_SUM (W.alloc (.cells #[.bool false, .int .i64 0, .slice (some g1) 1 1, .bool false, .int .i64 0, .slice (some g2) 1 1] t)) (.slice (some ⟨z, 0, none⟩) 2 2) [agOne (Vl.num 1) (.slice (some g1) 1 1), agOne (Vl.num 2) (.slice (some g2) 1 1)] (sa_two W _ _ _ _ z t hz h1 h2) (az_two _ _ _ _ (ok_num 1 (by omega) (by omega)) (ok_num 2 (by omega) (by omega))) (HT.out.below (hb.trans (Aft.alloc W _))) (HE.out.below (hb.trans (Aft.alloc W _))))
  clear ht he
  go_enter Tryz.func4, Tryz.ntmps4
  go_wp2_with (first
    | (go_at_call 8; ((with_reducible refine (H1.out _).mono ?_); rintro e w2 ⟨⟨v2, rfl, ⟨g2, rfl⟩, hs⟩, hb⟩; have HS2 := Lib.hid hs; have HB2 := Lib.hid hb; clear hs hb))
    | (go_at_call 8; ((with_reducible refine (H2.out _).mono ?_); rintro e w3 ⟨⟨v3, rfl, ⟨g3, rfl⟩, hs⟩, hb⟩; have HS3 := Lib.hid hs; have HB3 := Lib.hid hb; clear hs hb))
    | (go_at_call 6; ((with_reducible refine (HC.out _ _ _ _ _ rfl (HS2.out.next HB3.out) HS3.out (HB2.out.trans HB3.out)).mono ?_); rw [sum_ex]; rintro e w4 ⟨rfl, hb⟩; have HB4 := Lib.hid ((HB2.out.trans HB3.out).trans ((Aft.alloc w3 _).trans hb)); clear hb)))
  go_ret
  exact ⟨by rfl, HB4.out.allocR _⟩
end Go.Proofs.YtolhmemiknpeaaaGreatDoor
