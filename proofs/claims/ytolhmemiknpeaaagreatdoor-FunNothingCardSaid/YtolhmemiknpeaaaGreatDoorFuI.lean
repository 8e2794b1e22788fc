/-
  Layer 8, the program: Call.
-/
import Derived.Test.YtolhmemiknpeaaaGreatDoorFuH
import Derived.Deep.DeepCutAuto
namespace Go.Proofs.YtolhmemiknpeaaaGreatDoor
open Go.RowKit

def rowF (least most takes : Int) (sees : Bool) (F : FuncId) (c : Value) : Value := .agg #[.int .i64 least, .int .i64 most, .int .i64 takes, .bool sees, .func (.func F) #[.agg #[c]] #[]]
/-- What a function with that row tells. -/
def callV (least most takes : Int) (sees : Bool) (ags : List Ag) (r : Vl) : Vl :=
  if suitA least most takes ags = true then (if sees = true then r else match faultA ags with | some x => x | none => r) else .err 1
theorem res_Call : Tryz.f6.results = #[.cell 4 28] := by kernel_rfl
theorem zc_two (w : World) (c : Value) : VlAt ((w.alloc (.cells #[.int .i64 0, .int .i64 0, .string ⟨#[]⟩] 28)).alloc (.cells #[c] 38)) w.heap.size Vl.none ∧ ((w.alloc (.cells #[.int .i64 0, .int .i64 0, .string ⟨#[]⟩] 28)).alloc (.cells #[c] 38)).cell? ⟨w.heap.size + 1, 0, none⟩ = some c ∧ Below w.heap.size w ((w.alloc (.cells #[.int .i64 0, .int .i64 0, .string ⟨#[]⟩] 28)).alloc (.cells #[c] 38)) ∧ ((w.alloc (.cells #[.int .i64 0, .int .i64 0, .string ⟨#[]⟩] 28)).alloc (.cells #[c] 38)).heap.size = w.heap.size + 2 := by
  have h2 := (Go.MapKept.heap_alloc (w.alloc (.cells #[.int .i64 0, .int .i64 0, .string ⟨#[]⟩] 28)) (.cells #[c] 38)).1
  rw [World.size_alloc] at h2
  refine ⟨(VlAt.zero w).over (Aft.alloc _ _), ?_, (Aft.alloc w (.cells #[.int .i64 0, .int .i64 0, .string ⟨#[]⟩] 28)).trans (Aft.alloc _ _), by rw [World.size_alloc, World.size_alloc]⟩
  rw [cell_of_row _ _ 0 _ _ _ h2]; rfl
theorem fn_new (w : World) (l m t s f : Value) : (w.alloc (.cells #[l, m, t, s, f] 42)).cell? ⟨w.heap.size, 0, none⟩ = some l ∧ (w.alloc (.cells #[l, m, t, s, f] 42)).cell? ⟨w.heap.size, 1, none⟩ = some m ∧ (w.alloc (.cells #[l, m, t, s, f] 42)).cell? ⟨w.heap.size, 2, none⟩ = some t ∧ (w.alloc (.cells #[l, m, t, s, f] 42)).cell? ⟨w.heap.size, 3, none⟩ = some s ∧ (w.alloc (.cells #[l, m, t, s, f] 42)).cell? ⟨w.heap.size, 4, none⟩ = some f := by
  have h := (Go.MapKept.heap_alloc w (.cells #[l, m, t, s, f] 42)).1
  exact ⟨by rw [cell_of_row _ _ 0 _ _ _ h]; rfl, by rw [cell_of_row _ _ 1 _ _ _ h]; rfl, by rw [cell_of_row _ _ 2 _ _ _ h]; rfl, by rw [cell_of_row _ _ 3 _ _ _ h]; rfl, by rw [cell_of_row _ _ 4 _ _ _ h]; rfl⟩
theorem zero_fn (w : World) : (zeroValue 42).run Tryz.prog w = .ok (.agg #[.int .i64 0, .int .i64 0, .int .i64 0, .bool false, .nilFunc]) w := by kernel_rfl
set_option maxRecDepth 100000 in
set_option maxHeartbeats 8000000 in
theorem call_any (w : World) (v : Value) (ags : List Ag) (nm : ByteArray) (least most takes : Int) (sees : Bool) (F : FuncId) (r : Vl) (hnm : nm.size ≤ 1000000) (h : SA w w.heap.size v ags) (hz : AZ ags) (hrow : ∀ c, (nm, rowF least most takes sees F c) ∈ tabF c ∧ ∀ p ∈ tabF c, p.1 = nm → p.2 = rowF least most takes sees F c) (hen : ∀ args W, (callFunc F args).run Tryz.prog W = .ok (.enter F args) W)
    (hval : suitA least most takes ags = true → (sees = true ∨ faultA ags = none) → ∀ W, Below w.heap.size w W → Calls Tryz.prog F #[.agg #[v]] W fun e w' => e = .returned (.agg #[.int .i64 r.k, .int .i64 r.n, .string r.s]) ∧ Below W.heap.size W w') :
    Calls Tryz.prog 6 #[.string nm, v] w fun e w' => e = .returned (.agg #[.int .i64 (callV least most takes sees ags r).k, .int .i64 (callV least most takes sees ags r).n, .string (callV least most takes sees ags r).s]) ∧ Below w.heap.size w w' := by
  obtain ⟨cv, hcv⟩ : ∃ cv, callV least most takes sees ags r = cv := ⟨_, rfl⟩
  rw [hcv]
  have HCV := Lib.hid hcv
  clear hcv
  have hzf := zero_fn
  obtain ⟨⟨A, cap, rfl, hat⟩, hkid⟩ := id h
  obtain ⟨n, hn⟩ : ∃ n, ags.length = n := ⟨_, rfl⟩
  rw [hn] at h hval ⊢
  obtain ⟨hzv, c0, hb, hs1⟩ := zc_two w (.slice A n cap)
  have HH := Lib.hid h; have HZ := Lib.hid hz; have HW1 := Lib.hid hb; have HZV := Lib.hid hzv; have HVAL := Lib.hid hval; have HROW := Lib.hid hrow
  have HFN := Lib.hid (fun (W : World) => functions_any (.slice A n cap) W)
  clear h hz hb hzv hval hat hkid hrow
  have hst := fun (W : World) (a : Addr) (m : Mode) => run_store Tryz.prog W a (.func (.func F) #[.agg #[.slice A n cap]] #[]) m rfl
  go_enter Tryz.func6, Tryz.ntmps6
  go_upto_region 2 with (fail)
  generalize hq : w.heap.size = q at HW1 hs1 c0 HZV HH HVAL ⊢
  generalize ((w.alloc (.cells #[.int .i64 0, .int .i64 0, .string ⟨#[]⟩] 28)).alloc (.cells #[.slice A n cap] 38)) = w1 at HW1 hs1 c0 HZV ⊢
  go_upto_region 3 with (first
    | (go_at_call 10; ((with_reducible refine (HFN.out _).mono ?_); rintro e w2 ⟨mb, rfl, hm, hmb, hmb2, hb⟩; have HB2 := Lib.hid hb; have HM := Lib.hid hm; have hlk := hm.find (P := Tryz.prog) Tryz.underlying44 Tryz.underlying9 (tab_size _) nm (Nat.le_trans hnm (by unfold maxLen; decide)) _ (HROW.out _).1 (HROW.out _).2; unfold rowF at hlk; clear hm hb)))
  have hs2 := HB2.out.size
  have hn5 := fn_new w2 (.int .i64 least) (.int .i64 most) (.int .i64 takes) (.bool sees) (.func (.func F) #[.agg #[.slice A n cap]] #[])
  have HB3 := Lib.hid (show Below w1.heap.size w1 (w2.alloc (.cells #[.int .i64 least, .int .i64 most, .int .i64 takes, .bool sees, .func (.func F) #[.agg #[.slice A n cap]] #[]] 42)) from HB2.out.alloc HB2.out.size _)
  have hs3 : w2.heap.size < (w2.alloc (.cells #[.int .i64 least, .int .i64 most, .int .i64 takes, .bool sees, .func (.func F) #[.agg #[.slice A n cap]] #[]] 42)).heap.size := by rw [World.size_alloc]; omega
  have HSU := Lib.hid (suits_any (w2.alloc (.cells #[.int .i64 least, .int .i64 most, .int .i64 takes, .bool sees, .func (.func F) #[.agg #[.slice A n cap]] #[]] 42)) (.slice A n cap) ags least most takes sees (.func (.func F) #[.agg #[.slice A n cap]] #[]) ((HH.out.below (HW1.out.trans (HB3.out.mono (by omega))) (Nat.le_refl _)).mono (by omega)) HZ.out.1)
  generalize hz6 : w2.heap.size = z6 at hn5 hs2 hs3 ⊢
  generalize w2.alloc (.cells #[.int .i64 least, .int .i64 most, .int .i64 takes, .bool sees, .func (.func F) #[.agg #[.slice A n cap]] #[]] 42) = w3 at hn5 HB3 hs3 HSU ⊢
  obtain ⟨f0, f1, f2, f3, f4⟩ := hn5
  have c3 : w3.cell? ⟨q + 1, 0, none⟩ = some (.slice A n cap) := (HB3.out.cell (p := ⟨q + 1, 0, none⟩) (by show q + 1 < w1.heap.size; omega)).trans c0
  have HZ3 := Lib.hid (HZV.out.below HB3.out (by omega))
  obtain ⟨su, hsu⟩ : ∃ su, suitA least most takes ags = su := ⟨_, rfl⟩
  rw [hsu] at HSU
  have HSV := Lib.hid hsu
  clear hsu hlk c0 HM HFN
  cases su with
  | false =>
    have HX := Lib.hid (show cv = Vl.err 1 by rw [← HCV.out]; unfold callV; rw [HSV.out]; rfl)
    have HF := Lib.hid (fun (W : World) => ffault_any 1 W)
    go_wp2_with (first
      | (go_at_call 12; ((with_reducible refine HSU.out.mono ?_); rintro e w4 ⟨rfl, hb⟩; have HB4 := Lib.hid hb; have HZ4 := Lib.hid (HZ3.out.over hb); have c4 := (hb.cell (p := ⟨q + 1, 0, none⟩) (by show q + 1 < w3.heap.size; omega)).trans c3; have g3 := (hb.cell (p := ⟨z6, 3, none⟩) hs3).trans f3; have g4 := (hb.cell (p := ⟨z6, 4, none⟩) hs3).trans f4; obtain ⟨m0, m1, m2⟩ := HZ4.out.melts; obtain ⟨u0, u1, u2⟩ := HZ4.out.cells; clear hb))
      | (go_at_call 11; ((with_reducible refine (HF.out _).mono ?_); rintro e w5 ⟨rfl, hb⟩; have HB5 := Lib.hid (HB3.out.trans ((HB4.out.trans (hb.mono HB4.out.size)).mono (by omega))); have HZ5 := Lib.hid (HZ4.out.over hb); obtain ⟨m0, m1, m2⟩ := HZ5.out.melts; obtain ⟨u0, u1, u2⟩ := HZ5.out.cells; clear hb)))
    exact bodyPost_ret (out_vl (HZ5.out.put3 (Vl.err 1)) _ _ 4 res_Call rfl) rfl ⟨by rw [HX.out], (by first | exact belowV3 (HW1.out.trans (HB5.out.mono (by omega))) (by omega) (Vl.err 1) | (rw [hq]; exact belowV3 (HW1.out.trans (HB5.out.mono (by omega))) (by omega) (Vl.err 1)))⟩
  | true =>
    cases sees with
    | true =>
      have HX := Lib.hid (show cv = r by rw [← HCV.out]; unfold callV; rw [HSV.out]; rfl)
      have HR := Lib.hid (HVAL.out HSV.out (.inl rfl))
      have HBW := Lib.hid (HW1.out.trans (HB3.out.mono (by omega)))
      go_wp2_with (first
        | (go_at_call 12; ((with_reducible refine HSU.out.mono ?_); rintro e w4 ⟨rfl, hb⟩; have HB4 := Lib.hid hb; have HZ4 := Lib.hid (HZ3.out.over hb); have c4 := (hb.cell (p := ⟨q + 1, 0, none⟩) (by show q + 1 < w3.heap.size; omega)).trans c3; have g3 := (hb.cell (p := ⟨z6, 3, none⟩) hs3).trans f3; have g4 := (hb.cell (p := ⟨z6, 4, none⟩) hs3).trans f4; obtain ⟨m0, m1, m2⟩ := HZ4.out.melts; obtain ⟨u0, u1, u2⟩ := HZ4.out.cells; clear hb))
        | ((with_reducible refine (HR.out _ (HBW.out.trans (HB4.out.mono (by omega)))).mono ?_); rintro e w5 ⟨rfl, hb⟩; have HB5 := Lib.hid (HB3.out.trans ((HB4.out.trans (hb.mono HB4.out.size)).mono (by omega))); have HZ5 := Lib.hid (HZ4.out.over hb); obtain ⟨m0, m1, m2⟩ := HZ5.out.melts; obtain ⟨u0, u1, u2⟩ := HZ5.out.cells; clear hb))
      exact bodyPost_ret (out_vl (HZ5.out.put3 r) _ _ 4 res_Call rfl) rfl ⟨by rw [HX.out], (by first | exact belowV3 (HW1.out.trans (HB5.out.mono (by omega))) (by omega) r | (rw [hq]; exact belowV3 (HW1.out.trans (HB5.out.mono (by omega))) (by omega) r))⟩
    | false =>
      have HFE := Lib.hid (fun (W : World) (hW : Below w3.heap.size w3 W) => firstError_any W (.slice A n cap) ags ((HH.out.below ((HW1.out.trans (HB3.out.mono (by omega))).trans (hW.mono (by omega))) (Nat.le_refl _)).mono (by have := hW.size; omega)) HZ.out)
      obtain ⟨o, ho⟩ : ∃ o, faultA ags = o := ⟨_, rfl⟩
      rw [ho] at HFE
      have HO := Lib.hid ho
      clear ho
      cases o with
      | none =>
        have HX := Lib.hid (show cv = r by rw [← HCV.out]; unfold callV; rw [HSV.out, HO.out]; rfl)
        have HR := Lib.hid (HVAL.out HSV.out (.inr HO.out))
        have HBW := Lib.hid (HW1.out.trans (HB3.out.mono (by omega)))
        go_wp2_with (first
          | (go_at_call 12; ((with_reducible refine HSU.out.mono ?_); rintro e w4 ⟨rfl, hb⟩; have HB4 := Lib.hid hb; have HZ4 := Lib.hid (HZ3.out.over hb); have c4 := (hb.cell (p := ⟨q + 1, 0, none⟩) (by show q + 1 < w3.heap.size; omega)).trans c3; have g3 := (hb.cell (p := ⟨z6, 3, none⟩) hs3).trans f3; have g4 := (hb.cell (p := ⟨z6, 4, none⟩) hs3).trans f4; obtain ⟨m0, m1, m2⟩ := HZ4.out.melts; obtain ⟨u0, u1, u2⟩ := HZ4.out.cells; clear hb))
          | (go_at_call 13; ((with_reducible refine (HFE.out _ HB4.out).mono ?_); rintro e w5 ⟨rfl, hb⟩; have HB5 := Lib.hid (HB4.out.trans (hb.mono HB4.out.size)); have hs45 := HB5.out.size; have HA6 := Lib.hid (Aft.alloc w5 (.cells #[.int .i64 (fstV none).k, .int .i64 (fstV none).n, .string (fstV none).s] 28)); have HB6 := Lib.hid (show Below w3.heap.size w3 (w5.alloc (.cells #[.int .i64 (fstV none).k, .int .i64 (fstV none).n, .string (fstV none).s] 28)) from HB5.out.alloc HB5.out.size _); have HV6 := Lib.hid (VlAt.new w5 (fstV none)); have HZ6 := Lib.hid (show VlAt (w5.alloc (.cells #[.int .i64 (fstV none).k, .int .i64 (fstV none).n, .string (fstV none).s] 28)) q Vl.none from HZ3.out.over HB6.out); have g6 := (HB6.out.cell (p := ⟨z6, 4, none⟩) hs3).trans f4; obtain ⟨v0, v1, v2⟩ := HV6.out.cells; obtain ⟨m0, m1, m2⟩ := HZ6.out.melts; obtain ⟨u0, u1, u2⟩ := HZ6.out.cells; clear hb))
          | ((with_reducible refine (HR.out _ (HBW.out.trans (HB6.out.mono (by omega)))).mono ?_); rintro e w7 ⟨rfl, hb⟩; have HB7 := Lib.hid (HB3.out.trans ((HB6.out.trans (hb.mono HB6.out.size)).mono (by omega))); have HZ7 := Lib.hid (HZ6.out.over hb); obtain ⟨m0, m1, m2⟩ := HZ7.out.melts; obtain ⟨u0, u1, u2⟩ := HZ7.out.cells; clear hb))
        exact bodyPost_ret (out_vl (HZ7.out.put3 r) _ _ 4 res_Call rfl) rfl ⟨by rw [HX.out], (by first | exact belowV3 (HW1.out.trans (HB7.out.mono (by omega))) (by omega) r | (rw [hq]; exact belowV3 (HW1.out.trans (HB7.out.mono (by omega))) (by omega) r))⟩
      | some x =>
        have HX := Lib.hid (show cv = x by rw [← HCV.out]; unfold callV; rw [HSV.out, HO.out]; rfl)
        go_wp2_with (first
          | (go_at_call 12; ((with_reducible refine HSU.out.mono ?_); rintro e w4 ⟨rfl, hb⟩; have HB4 := Lib.hid hb; have HZ4 := Lib.hid (HZ3.out.over hb); have c4 := (hb.cell (p := ⟨q + 1, 0, none⟩) (by show q + 1 < w3.heap.size; omega)).trans c3; have g3 := (hb.cell (p := ⟨z6, 3, none⟩) hs3).trans f3; have g4 := (hb.cell (p := ⟨z6, 4, none⟩) hs3).trans f4; obtain ⟨m0, m1, m2⟩ := HZ4.out.melts; obtain ⟨u0, u1, u2⟩ := HZ4.out.cells; clear hb))
          | (go_at_call 13; ((with_reducible refine (HFE.out _ HB4.out).mono ?_); rintro e w5 ⟨rfl, hb⟩; have HB5 := Lib.hid (HB4.out.trans (hb.mono HB4.out.size)); have hs45 := HB5.out.size; have HA6 := Lib.hid (Aft.alloc w5 (.cells #[.int .i64 (fstV (some x)).k, .int .i64 (fstV (some x)).n, .string (fstV (some x)).s] 28)); have HB6 := Lib.hid (show Below w3.heap.size w3 (w5.alloc (.cells #[.int .i64 (fstV (some x)).k, .int .i64 (fstV (some x)).n, .string (fstV (some x)).s] 28)) from HB5.out.alloc HB5.out.size _); have HV6 := Lib.hid (VlAt.new w5 (fstV (some x))); have HZ6 := Lib.hid (show VlAt (w5.alloc (.cells #[.int .i64 (fstV (some x)).k, .int .i64 (fstV (some x)).n, .string (fstV (some x)).s] 28)) q Vl.none from HZ3.out.over HB6.out); have g6 := (HB6.out.cell (p := ⟨z6, 4, none⟩) hs3).trans f4; obtain ⟨v0, v1, v2⟩ := HV6.out.cells; obtain ⟨m0, m1, m2⟩ := HZ6.out.melts; obtain ⟨u0, u1, u2⟩ := HZ6.out.cells; clear hb)))
        exact bodyPost_ret (out_vl (HZ6.out.put3 x) _ _ 4 res_Call rfl) rfl ⟨by rw [HX.out], (by first | exact belowV3 (HW1.out.trans ((HB3.out.trans (HB6.out.mono (by omega))).mono (by omega))) (by omega) x | (rw [hq]; exact belowV3 (HW1.out.trans ((HB3.out.trans (HB6.out.mono (by omega))).mono (by omega))) (by omega) x))⟩
end Go.Proofs.YtolhmemiknpeaaaGreatDoor
