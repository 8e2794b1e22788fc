/-
  Layer 8, the program: truths.
-/
import Derived.Test.YtolhmemiknpeaaaGreatDoorFuG
import Derived.Deep.DeepCutAuto
namespace Go.Proofs.YtolhmemiknpeaaaGreatDoor
open Go.RowKit

theorem Elem.boF : ∃ n, n ≤ 100 ∧ Elem Tryz.prog 59 4 1 n := ⟨1, by omega, Tryz.underlying59, ⟨.bool false, by kernel_rfl, rfl⟩, by decide⟩
/-- What the truths are told as. -/
def TruRet (w : World) (B : Nat) (e : Ending) (o : Option (List Vl)) : Prop := ∃ lv, e = .returned (.tuple #[lv, .bool (o.isSome && decide (0 < (o.getD []).length))]) ∧ Own encBo 4 w B lv ((o.getD []).map truthV)
set_option maxRecDepth 100000 in
set_option maxHeartbeats 8000000 in
theorem truths_any (w : World) (v : Value) (ags : List Ag) (h : SA w w.heap.size v ags) (hz : AZ ags) : Calls Tryz.prog 39 #[.agg #[v]] w fun e w' => TruRet w' w.heap.size e (pas2 [1, 3] [] ags) ∧ Below w.heap.size w w' := by
  have hb : Below w.heap.size w (w.alloc (.cells #[v] 38)) := (Below.refl _ _).alloc (Nat.le_refl _) _
  have hs1 : (w.alloc (.cells #[v] 38)).heap.size = w.heap.size + 1 := World.size_alloc _ _
  have hpl := pas2_len [1, 3] ags []
  obtain ⟨o, ho⟩ : ∃ o, pas2 [1, 3] [] ags = o := ⟨_, rfl⟩
  have hol : (o.getD []).length ≤ 1000000 := by
    cases o with
    | none => simp
    | some l => have := hpl l ho; rw [List.length_nil, Nat.zero_add] at this; exact Nat.le_trans this hz.2.1
  have HP := Lib.hid (fun (W : World) (t : TypeId) (z : Nat) (hz0 : W.heap.size = z) (hW : Below w.heap.size w W) => passing_any (W.alloc (.cells #[.int .i64 1, .int .i64 3] t)) v (.slice (some ⟨z, 0, none⟩) 2 2) ags [1, 3] ((h.below (hW.alloc hW.size _) (Nat.le_refl _)).mono (hW.alloc hW.size _).size) hz (sg_new _ W _ t [1, 3] 2 2 z hz0 rfl rfl) (by decide))
  rw [ho] at HP ⊢
  have HW1 := Lib.hid hb; have HOL := Lib.hid hol
  have c1 : (w.alloc (.cells #[v] 38)).cell? ⟨w.heap.size, 0, none⟩ = some v := by rw [cell_of_row _ w.heap.size 0 #[v] 38 _ (Go.MapKept.heap_alloc w _).1]; rfl
  obtain ⟨eb, hEB, EL⟩ := Elem.boF
  have HEL := Lib.hid EL
  clear hb hpl ho hol h EL
  go_enter Tryz.func39, Tryz.ntmps39
  go_upto_region 1 with (fail)
  generalize hq : w.heap.size = q at HW1 hs1 c1 HP ⊢
  generalize (w.alloc (.cells #[v] 38)) = w1 at HW1 hs1 c1 ⊢
  go_upto_region 2 with (first
    | (go_at_call 52; ((with_reducible refine (HP.out _ _ _ hs1 HW1.out).mono ?_); rintro e w2 ⟨⟨lv, ok, rfl, hp⟩, hb⟩; obtain ⟨hp1, hp2⟩ := hp.own; subst hp2; have HPV := Lib.hid hp1; have HB2 := Lib.hid hb; clear hp hp1 hb)))
  have HW2 := Lib.hid (show Below q w w2 from (HW1.out.alloc (by omega) _).trans (HB2.out.mono (by rw [World.size_alloc]; omega)))
  have hsv := own_sv HPV.out
  obtain ⟨vs, hvs⟩ : ∃ vs, o.getD [] = vs := ⟨_, rfl⟩
  have HVS := Lib.hid hvs
  rw [hvs] at hsv HOL
  obtain ⟨A, cap, rfl, hsv2⟩ := id hsv
  obtain ⟨m, hm⟩ : ∃ m, vs.length = m := ⟨_, rfl⟩
  rw [hm] at hsv HOL ⊢
  have hm6 : m ≤ 1000000 := HOL.out
  have HM := Lib.hid hm; have HSV := Lib.hid hsv
  have hq2 : q ≤ w2.heap.size := by have := HW2.out.size; omega
  clear hsv hsv2 hm hvs HPV HB2 c1 HP
  go_upto_region 3 with (fail)
  go_loopw [2, 17] (fun rv iv wr => ∃ (i : Nat) (lw : Value), i ≤ m ∧ lw = rv ∧ iv = .int .i64 (i : Int) ∧ Hid (Own encBo 4 wr w2.heap.size lw ((vs.take i).map truthV)) ∧ Hid (Below w2.heap.size w2 wr))
    (fun _ iv _ => m - (intOf iv).toNat)
  case atStart => exact ⟨0, .slice none 0 0, Nat.zero_le _, rfl, rfl, Lib.hid (Own.nil _ _ _ _), Lib.hid (Below.refl _ _)⟩
  case round =>
    obtain ⟨i, lw, hi, rfl, rfl, HOW, HR⟩ := hrel
    by_cases hlt : i < m
    · have hii : (i : Int) < (m : Int) := by omega
      have hi0 : (0 : Int) ≤ (i : Int) := by omega
      obtain ⟨x, hx⟩ : ∃ x, vs[i]? = some x := ⟨_, List.getElem?_eq_getElem (by rw [HM.out]; exact hlt)⟩
      obtain ⟨vb, vo, rfl, hvb, e0, e1, e2⟩ := takeVal HSV.out hx
      have v0 : wr.cell? ⟨vb, vo + i * 3, none⟩ = some (.int .i64 x.k) := (HR.out.cell (p := ⟨vb, vo + i * 3, none⟩) hvb).trans e0
      have v1 : wr.cell? ⟨vb, vo + i * 3 + 1, none⟩ = some (.int .i64 x.n) := (HR.out.cell (p := ⟨vb, vo + i * 3 + 1, none⟩) hvb).trans e1
      have v2 : wr.cell? ⟨vb, vo + i * 3 + 2, none⟩ = some (.string x.s) := (HR.out.cell (p := ⟨vb, vo + i * 3 + 2, none⟩) hvb).trans e2
      have HTK := Lib.hid (show (vs.take (i + 1)).map truthV = (vs.take i).map truthV ++ [truthV x] by
        rw [List.take_add_one, hx]; simp)
      have HLEN := Lib.hid (show ((vs.take i).map truthV).length = i by rw [List.length_map, List.length_take, HM.out]; omega)
      have HV3 := Lib.hid (VlAt.new wr x)
      have HR3 := Lib.hid (HR.out.alloc HR.out.size (.cells #[.int .i64 x.k, .int .i64 x.n, .string x.s] 28))
      have HO3 := Lib.hid (HOW.out.alloc (.cells #[.int .i64 x.k, .int .i64 x.n, .string x.s] 28))
      clear e0 e1 e2 hx
      go_upto_region 5 with (fail)
      generalize hz3' : wr.heap.size = z3 at HV3 ⊢
      generalize wr.alloc (.cells #[.int .i64 x.k, .int .i64 x.n, .string x.s] 28) = w3 at HV3 HR3 HO3 ⊢
      obtain ⟨u0, u1, u2⟩ := HV3.out.cells
      have hs3 := HR3.out.size
      clear v0 v1 v2 hz3'
      have HTR := Lib.hid (tru_any x w3)
      go_upto_region 6 with (first
        | (go_at_call 43; ((with_reducible refine HTR.out.mono ?_); rintro e w4 ⟨rfl, hb⟩; have HB4 := Lib.hid hb; clear hb)))
      have HO4 := Lib.hid (HO3.out.below HB4.out (Nat.le_refl _))
      have HR4 := Lib.hid (HR3.out.trans (HB4.out.mono HR3.out.size))
      have hs4 := HR4.out.size
      go_wp2_with (first
        | (at_builtin; refine wpList_app HEL.out encBo rfl (.tmp 26) (.tmp 28) rfl w2.heap.size _ ((vs.take i).map truthV) rfl (HO4.out.alloc _) ⟨_, 0, none⟩ 1 1 [truthV x] rfl rfl ?_ ?_ ?_ ?_ ?_; exact cells_new _ _ _ rfl; (rw [HLEN.out]; exact Nat.le_trans (Nat.mul_le_mul_left _ hEB) (by omega)); (rw [HLEN.out]; unfold maxLen; omega); (rw [World.size_alloc]; omega); intro v5 w5 h1 h2; have HO5 := Lib.hid h1; have HB5 := Lib.hid h2; clear h1 h2))
      go_roundw
      case rel => exact ⟨i + 1, _, by omega, rfl, by go_num, Lib.hid (by rw [HTK.out]; exact HO5.out), Lib.hid ((HR4.out.alloc hs4 _).trans HB5.out)⟩
      case measure => simp [intOf]; omega
    · have hii : ¬ (i : Int) < (m : Int) := by omega
      have HF := Lib.hid (show (vs.take i).map truthV = (o.getD []).map truthV by rw [List.take_of_length_le (by rw [HM.out]; omega), HVS.out])
      have HOW2 := Lib.hid (show Own encBo 4 wr w2.heap.size lw ((o.getD []).map truthV) by rw [← HF.out]; exact HOW.out)
      have HLN := Lib.hid (show ((o.getD []).map truthV).length = m by rw [List.length_map, HVS.out]; exact HM.out)
      have HB := Lib.hid (show Below w.heap.size w wr by first | exact HW2.out.trans (HR.out.mono hq2) | (rw [hq]; exact HW2.out.trans (HR.out.mono hq2)))
      have hqq : w.heap.size ≤ w2.heap.size := by first | exact hq2 | (rw [hq]; exact hq2)
      clear HOW HF
      rcases HOW2.out.shape with ⟨rfl, hx⟩ | ⟨g, cap2, rfl, hg, hl, hc, hmx⟩
      · have hm0 : m = 0 := by rw [← HLN.out, hx]; rfl
        have HZ := Lib.hid (show (o.isSome && decide (0 < (o.getD []).length)) = false by rw [← List.length_map (f := truthV), HLN.out, hm0]; simp)
        rcases Bool.eq_false_or_eq_true o.isSome with hos | hos
        · go_wp2_with fail
          go_ret2
          exact ⟨⟨_, by rw [HZ.out] <;> rfl, by first | exact HOW2.out.mono hq2 | (rw [hq]; exact HOW2.out.mono hq2)⟩, by first | exact HB.out | (rw [← hq]; exact HB.out)⟩
        · go_wp2_with fail
          go_ret2
          exact ⟨⟨_, by rw [HZ.out] <;> rfl, by first | exact HOW2.out.mono hq2 | (rw [hq]; exact HOW2.out.mono hq2)⟩, by first | exact HB.out | (rw [← hq]; exact HB.out)⟩
      · obtain ⟨ln, hln⟩ : ∃ ln, ((o.getD []).map truthV).length = ln := ⟨_, rfl⟩
        have hlm : ln = m := hln.symm.trans HLN.out
        have HP2 := HOW2
        rw [hln] at HP2 ⊢
        subst hlm
        rcases Bool.eq_false_or_eq_true o.isSome with hos | hos
        · have HZ := Lib.hid (show (o.isSome && decide (0 < (o.getD []).length)) = decide (0 < ln) by rw [← List.length_map (f := truthV), hln, hos, Bool.true_and])
          go_wp2_with fail
          go_ret2
          exact ⟨⟨_, by rw [HZ.out] <;> rfl, by first | exact HP2.out.mono hq2 | (rw [hq]; exact HP2.out.mono hq2)⟩, by first | exact HB.out | (rw [← hq]; exact HB.out)⟩
        · have HZ := Lib.hid (show (o.isSome && decide (0 < (o.getD []).length)) = false by rw [hos, Bool.false_and])
          go_wp2_with fail
          go_ret2
          exact ⟨⟨_, by rw [HZ.out] <;> rfl, by first | exact HP2.out.mono hq2 | (rw [hq]; exact HP2.out.mono hq2)⟩, by first | exact HB.out | (rw [← hq]; exact HB.out)⟩
end Go.Proofs.YtolhmemiknpeaaaGreatDoor
