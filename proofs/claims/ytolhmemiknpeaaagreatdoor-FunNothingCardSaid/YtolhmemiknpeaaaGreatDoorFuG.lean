/-
  Layer 8, the program: numbers.
-/
import Derived.Test.YtolhmemiknpeaaaGreatDoorFuF
import Derived.Deep.DeepCutAuto
namespace Go.Proofs.YtolhmemiknpeaaaGreatDoor
open Go.RowKit

theorem PasIs.own {w : World} {B : Nat} {lv : Value} {ok : Bool} {o : Option (List Vl)} (h : PasIs w B lv ok o) : Own encVl 28 w B lv (o.getD []) ∧ ok = o.isSome := by
  rcases h with ⟨out, rfl, rfl, h1⟩ | ⟨rfl, rfl, rfl⟩
  · exact ⟨h1, rfl⟩
  · exact ⟨Own.nil _ _ _ _, rfl⟩
theorem sg_new {α : Type} (f : α → Value) (w : World) (C : Array Value) (t : TypeId) (xs : List α) (n cap z : Nat) (hz : w.heap.size = z) (hn : xs.length = n) (h : C.toList = xs.map f) : SG f (w.alloc (.cells C t)) (w.alloc (.cells C t)).heap.size (.slice (some ⟨z, 0, none⟩) n cap) xs := by
  subst hz
  refine ⟨_, cap, by rw [hn], .inr ⟨w.heap.size, 0, rfl, by rw [World.size_alloc]; omega, fun j x hj => ?_⟩⟩
  rw [Nat.zero_add, cell_of_row _ w.heap.size j C t _ (Go.MapKept.heap_alloc w _).1, ← Array.getElem?_toList, h, List.getElem?_map, hj]; rfl
/-- What the numbers, the truths are told as. -/
def NumRet {α : Type} (E : Enc α 1) (t : TypeId) (f : Vl → α) (w : World) (B : Nat) (e : Ending) (o : Option (List Vl)) : Prop := ∃ lv, e = .returned (.tuple #[lv, .bool o.isSome]) ∧ Own E t w B lv ((o.getD []).map f)
set_option maxRecDepth 100000 in
set_option maxHeartbeats 8000000 in
theorem numbers_any (w : World) (v : Value) (ags : List Ag) (h : SA w w.heap.size v ags) (hz : AZ ags) : Calls Tryz.prog 33 #[.agg #[v]] w fun e w' => NumRet (encInt .i64) 3 (·.n) w' w.heap.size e (pas2 [1] [] ags) ∧ Below w.heap.size w w' := by
  have hb : Below w.heap.size w (w.alloc (.cells #[v] 38)) := (Below.refl _ _).alloc (Nat.le_refl _) _
  have hs1 : (w.alloc (.cells #[v] 38)).heap.size = w.heap.size + 1 := World.size_alloc _ _
  have hpl := pas2_len [1] ags []
  obtain ⟨o, ho⟩ : ∃ o, pas2 [1] [] ags = o := ⟨_, rfl⟩
  have hol : (o.getD []).length ≤ 1000000 := by
    cases o with
    | none => simp
    | some l => have := hpl l ho; rw [List.length_nil, Nat.zero_add] at this; exact Nat.le_trans this hz.2.1
  have HP := Lib.hid (fun (W : World) (t : TypeId) (z : Nat) (hz0 : W.heap.size = z) (hW : Below w.heap.size w W) => passing_any (W.alloc (.cells #[.int .i64 1] t)) v (.slice (some ⟨z, 0, none⟩) 1 1) ags [1] ((h.below (hW.alloc hW.size _) (Nat.le_refl _)).mono (hW.alloc hW.size _).size) hz (sg_new _ W _ t [1] 1 1 z hz0 rfl rfl) (by decide))
  rw [ho] at HP ⊢
  have HW1 := Lib.hid hb; have HOL := Lib.hid hol
  have c1 : (w.alloc (.cells #[v] 38)).cell? ⟨w.heap.size, 0, none⟩ = some v := by rw [cell_of_row _ w.heap.size 0 #[v] 38 _ (Go.MapKept.heap_alloc w _).1]; rfl
  obtain ⟨eb, hEB, EL⟩ := Elem.intF
  have HEL := Lib.hid EL
  clear hb hpl ho hol h EL
  go_enter Tryz.func33, Tryz.ntmps33
  go_upto_region 1 with (fail)
  generalize hq : w.heap.size = q at HW1 hs1 c1 HP ⊢
  generalize (w.alloc (.cells #[v] 38)) = w1 at HW1 hs1 c1 ⊢
  go_upto_region 2 with (first
    | (go_at_call 52; ((with_reducible refine (HP.out _ _ _ hs1 HW1.out).mono ?_); rintro e w2 ⟨⟨lv, ok, rfl, hp⟩, hb⟩; obtain ⟨hp1, hp2⟩ := hp.own; subst hp2; have HPV := Lib.hid hp1; have HB2 := Lib.hid hb; clear hp hp1 hb)))
  have HW2 := Lib.hid (show Below q w w2 from (HW1.out.alloc (by omega) _).trans (HB2.out.mono (by rw [World.size_alloc]; omega)))
  have hsv := own_sv HPV.out
  obtain ⟨vs, hvs⟩ : ∃ vs, o.getD [] = vs := ⟨_, rfl⟩
  have HVS := Lib.hid hvs
  rw [hvs] at hsv HOL
  obtain ⟨A, cap, rfl, hsv2⟩ := id hsv
  obtain ⟨m, hm⟩ : ∃ m, vs.length = m := ⟨_, rfl⟩
  rw [hm] at hsv HOL ⊢
  have hm6 : m ≤ 1000000 := HOL.out
  have HM := Lib.hid hm; have HSV := Lib.hid hsv
  have hq2 : q ≤ w2.heap.size := by have := HW2.out.size; omega
  clear hsv hsv2 hm hvs HPV HB2 c1 HP
  go_upto_region 3 with (fail)
  go_loopw [2, 15] (fun lw iv wr => ∃ i : Nat, i ≤ m ∧ iv = .int .i64 (i : Int) ∧ Hid (Own (encInt .i64) 3 wr w2.heap.size lw ((vs.take i).map (·.n))) ∧ Hid (Below w2.heap.size w2 wr))
    (fun _ iv _ => m - (intOf iv).toNat)
  case atStart => exact ⟨0, Nat.zero_le _, rfl, Lib.hid (Own.nil _ _ _ _), Lib.hid (Below.refl _ _)⟩
  case round =>
    obtain ⟨i, hi, rfl, HOW, HR⟩ := hrel
    by_cases hlt : i < m
    · have hii : (i : Int) < (m : Int) := by omega
      have hi0 : (0 : Int) ≤ (i : Int) := by omega
      obtain ⟨x, hx⟩ : ∃ x, vs[i]? = some x := ⟨_, List.getElem?_eq_getElem (by rw [HM.out]; exact hlt)⟩
      obtain ⟨vb, vo, rfl, hvb, e0, e1, e2⟩ := takeVal HSV.out hx
      have v0 : wr.cell? ⟨vb, vo + i * 3, none⟩ = some (.int .i64 x.k) := (HR.out.cell (p := ⟨vb, vo + i * 3, none⟩) hvb).trans e0
      have v1 : wr.cell? ⟨vb, vo + i * 3 + 1, none⟩ = some (.int .i64 x.n) := (HR.out.cell (p := ⟨vb, vo + i * 3 + 1, none⟩) hvb).trans e1
      have v2 : wr.cell? ⟨vb, vo + i * 3 + 2, none⟩ = some (.string x.s) := (HR.out.cell (p := ⟨vb, vo + i * 3 + 2, none⟩) hvb).trans e2
      have HTK := Lib.hid (show (vs.take (i + 1)).map (·.n) = (vs.take i).map (·.n) ++ [x.n] by
        rw [List.take_add_one, hx]; simp)
      have HLEN := Lib.hid (show ((vs.take i).map (·.n)).length = i by rw [List.length_map, List.length_take, HM.out]; omega)
      have HV3 := Lib.hid (VlAt.new wr x)
      have HR3 := Lib.hid (HR.out.alloc HR.out.size (.cells #[.int .i64 x.k, .int .i64 x.n, .string x.s] 28))
      have HO3 := Lib.hid (HOW.out.alloc (.cells #[.int .i64 x.k, .int .i64 x.n, .string x.s] 28))
      clear e0 e1 e2 hx
      go_upto_region 5 with (fail)
      generalize hz3' : wr.heap.size = z3 at HV3 ⊢
      generalize wr.alloc (.cells #[.int .i64 x.k, .int .i64 x.n, .string x.s] 28) = w3 at HV3 HR3 HO3 ⊢
      obtain ⟨u0, u1, u2⟩ := HV3.out.cells
      have hs3 := HR3.out.size
      clear v0 v1 v2 hz3'
      go_wp2_with (first
        | (at_builtin; refine wpList_app HEL.out (encInt .i64) rfl (.tmp 19) (.tmp 22) rfl w2.heap.size _ ((vs.take i).map (·.n)) rfl (HO3.out.alloc _) ⟨_, 0, none⟩ 1 1 [x.n] rfl rfl ?_ ?_ ?_ ?_ ?_; exact cells_new _ _ _ rfl; (rw [HLEN.out]; exact Nat.le_trans (Nat.mul_le_mul_left _ hEB) (by omega)); (rw [HLEN.out]; unfold maxLen; omega); (rw [World.size_alloc]; omega); intro v5 w5 h1 h2; have HO5 := Lib.hid h1; have HB5 := Lib.hid h2; clear h1 h2))
      go_roundw
      case rel => exact ⟨i + 1, by omega, by go_num, Lib.hid (by rw [HTK.out]; exact HO5.out), Lib.hid ((HR3.out.alloc hs3 _).trans HB5.out)⟩
      case measure => simp [intOf]; omega
    · have hii : ¬ (i : Int) < (m : Int) := by omega
      have HF := Lib.hid (show (vs.take i).map (·.n) = (o.getD []).map (·.n) by rw [List.take_of_length_le (by rw [HM.out]; omega), HVS.out])
      go_wp2_with fail
      go_ret2
      exact ⟨⟨_, rfl, by rw [← HF.out]; first | exact HOW.out.mono hq2 | (rw [hq]; exact HOW.out.mono hq2)⟩, by first | exact HW2.out.trans (HR.out.mono hq2) | (rw [hq]; exact HW2.out.trans (HR.out.mono hq2))⟩
end Go.Proofs.YtolhmemiknpeaaaGreatDoor
