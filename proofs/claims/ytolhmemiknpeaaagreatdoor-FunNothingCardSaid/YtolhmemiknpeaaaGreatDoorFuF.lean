/-
  Layer 8, the program: what passes.
-/
import Derived.Test.YtolhmemiknpeaaaGreatDoorFuE
import Derived.Deep.DeepCutAuto
namespace Go.Proofs.YtolhmemiknpeaaaGreatDoor
open Go.RowKit

theorem Elem.vlF : ∃ n, n ≤ 100 ∧ Elem Tryz.prog 25 28 3 n := ⟨32, by omega, Tryz.underlying25, ⟨.agg #[.int .i64 0, .int .i64 0, .string ⟨#[]⟩], by kernel_rfl, rfl⟩, by decide⟩
theorem Elem.intF : ∃ n, n ≤ 100 ∧ Elem Tryz.prog 53 3 1 n := ⟨8, by omega, Tryz.underlying53, ⟨.int .i64 0, by kernel_rfl, rfl⟩, by decide⟩
/-- What passing leaves. -/
def PasIs (w : World) (B : Nat) (lv : Value) (ok : Bool) (o : Option (List Vl)) : Prop :=
  (∃ out, o = some out ∧ ok = true ∧ Own encVl 28 w B lv out) ∨ (o = none ∧ ok = false ∧ lv = .slice none 0 0)
def PasRet (w : World) (B : Nat) (e : Ending) (o : Option (List Vl)) : Prop := ∃ lv ok, e = .returned (.tuple #[lv, .bool ok]) ∧ PasIs w B lv ok o
def pasTail (ks : List Int) (t : List Ag) : Option (List Vl) → Option (List Vl)
  | none => none
  | some l => pas2 ks l t
theorem pas2_cons (ks : List Int) (acc : List Vl) (a : Ag) (t : List Ag) : pas2 ks acc (a :: t) = pasTail ks t (pas1 ks a.r acc a.vs) := by
  show (match pas1 ks a.r acc a.vs with | none => none | some l => pas2 ks l t) = _
  cases pas1 ks a.r acc a.vs <;> rfl
theorem pas1_yes {ks : List Int} {r : Bool} {acc : List Vl} {v : Vl} {t : List Vl} (h : ks.contains v.k = true) : pas1 ks r acc (v :: t) = pas1 ks r (acc ++ [v]) t := by
  show (if ks.contains v.k = true then _ else _) = _; rw [if_pos h]
theorem pas1_no {ks : List Int} {r : Bool} {acc : List Vl} {v : Vl} {t : List Vl} (h : ks.contains v.k = false) (h2 : ¬ (¬ v.k = 0 ∧ r = false)) : pas1 ks r acc (v :: t) = pas1 ks r acc t := by
  show (if ks.contains v.k = true then _ else _) = _; rw [if_neg (by rw [h]; decide), if_neg h2]
theorem pas1_bad {ks : List Int} {r : Bool} {acc : List Vl} {v : Vl} {t : List Vl} (h : ks.contains v.k = false) (h2 : ¬ v.k = 0) (h3 : r = false) : pas1 ks r acc (v :: t) = none := by
  show (if ks.contains v.k = true then _ else _) = _; rw [if_neg (by rw [h]; decide), if_pos ⟨h2, h3⟩]
theorem cnt_drop {ags : List Ag} {i : Nat} {a : Ag} (h : ags.drop i = a :: ags.drop (i + 1)) : cntA (ags.drop i) = a.vs.length + cntA (ags.drop (i + 1)) := by rw [h, cntA_cons]
theorem AgAt.grown {w w' : World} {row : Option Nat} {b : Nat} {r : Bool} {c : Int} {v : Value} (h : AgAt w b r c v) (hg : w.grownBy w' row) (hne : some b ≠ row) : AgAt w' b r c v := by
  unfold AgAt; rw [hg.block b h.lt hne]; exact h
theorem own_grown {α : Type} {size : Nat} {E : Enc α size} {e : TypeId} {w w' : World} {base : Nat} {v : Value} {xs : List α} (h : Own E e w base v xs) (hb : base ≤ w.heap.size) (hg : w.grownBy w' v.ownBlock) : Below base w w' :=
  Below.grown (Below.refl _ _) hg hb (fun k hk => (World.ownsRow.lt h k hk).1)
theorem own_block {α : Type} {size : Nat} {E : Enc α size} {e : TypeId} {w : World} {base z : Nat} {v : Value} {xs : List α} (h : Own E e w base v xs) (hz : w.heap.size ≤ z) : v.ownBlock ≠ some z := by
  intro e1
  have := (World.ownsRow.lt h z e1).2
  omega
set_option maxRecDepth 100000 in
set_option maxHeartbeats 8000000 in
theorem passing_any (w : World) (v kv : Value) (ags : List Ag) (ks : List Int) (h : SA w w.heap.size v ags) (hz : AZ ags) (hk : SG (Value.int .i64) w w.heap.size kv ks) (hkl : ks.length ≤ 1000000) : Calls Tryz.prog 52 #[.agg #[v], kv] w fun e w' => PasRet w' w.heap.size e (pas2 ks [] ags) ∧ Below w.heap.size w w' := by
  obtain ⟨⟨A, cap, rfl, hat⟩, hkid⟩ := h
  obtain ⟨hlen, hcnt, hel⟩ := hz
  obtain ⟨n, hn⟩ : ∃ n, ags.length = n := ⟨_, rfl⟩
  rw [hn] at hlen ⊢
  have hb : Below w.heap.size w (w.alloc (.cells #[.slice A n cap] 38)) := (Below.refl _ _).alloc (Nat.le_refl _) _
  have hs1 : (w.alloc (.cells #[.slice A n cap] 38)).heap.size = w.heap.size + 1 := World.size_alloc _ _
  obtain ⟨o, ho⟩ : ∃ o, pas2 ks [] ags = o := ⟨_, rfl⟩
  rw [ho]
  have HW1 := Lib.hid hb; have HAT := Lib.hid hat; have HN := Lib.hid hn; have HKID := Lib.hid hkid; have HZ := Lib.hid hel; have HO := Lib.hid ho; have HK := Lib.hid hk; have HCNT := Lib.hid hcnt
  obtain ⟨eb, hEB, EL⟩ := Elem.vlF
  have HEL := Lib.hid EL
  clear hb hat hn hkid hel ho hk EL hcnt
  go_enter Tryz.func52, Tryz.ntmps52
  go_upto_region 2 with (fail)
  generalize hq : w.heap.size = q at HAT HKID hs1 HW1 HK ⊢
  generalize (w.alloc (.cells #[.slice A n cap] 38)) = w1 at HW1 hs1 ⊢
  go_loopw [4, 13] (fun lv iv wr => ∃ (i : Nat) (acc : List Vl), i ≤ n ∧ iv = .int .i64 (i : Int) ∧ acc.length + cntA (ags.drop i) ≤ 1000000 ∧ Hid (o = pas2 ks acc (ags.drop i)) ∧ Hid (Own encVl 28 wr w1.heap.size lv acc) ∧ Hid (Below w1.heap.size w1 wr))
    (fun _ iv _ => n - (intOf iv).toNat)
  case atStart => exact ⟨0, [], Nat.zero_le _, rfl, (by rw [List.length_nil, Nat.zero_add]; exact HCNT.out), Lib.hid HO.out.symm, Lib.hid (Own.nil _ _ _ _), Lib.hid (Below.refl _ _)⟩
  case round =>
    obtain ⟨i, acc, hi, rfl, hac, HT, HOW, HR⟩ := hrel
    by_cases hlt : i < n
    · have hii : (i : Int) < (n : Int) := by omega
      have hi0 : (0 : Int) ≤ (i : Int) := by omega
      obtain ⟨a, ha⟩ : ∃ a, ags[i]? = some a := ⟨_, List.getElem?_eq_getElem (by rw [HN.out]; exact hlt)⟩
      obtain ⟨pb, po, Av, capv, rfl, hpb, e0, e1, e2, hsv⟩ := takeArg HAT.out HKID.out ha
      obtain ⟨m, hm⟩ : ∃ m, a.vs.length = m := ⟨_, rfl⟩
      rw [hm] at e2 hsv
      have hm6 : m ≤ 1000000 := hm ▸ (HZ.out a (List.mem_of_getElem? ha)).1
      have HM := Lib.hid hm; have HSV := Lib.hid hsv; have HIN := Lib.hid (List.mem_of_getElem? ha)
      have hpw1 : pb < w1.heap.size := by omega
      have x0 : wr.cell? ⟨pb, po + i * 3, none⟩ = some (.bool a.r) := (HR.out.cell (p := ⟨pb, po + i * 3, none⟩) hpw1).trans ((HW1.out.cell (p := ⟨pb, po + i * 3, none⟩) hpb).trans e0)
      have x1 : wr.cell? ⟨pb, po + i * 3 + 1, none⟩ = some (.int .i64 a.c) := (HR.out.cell (p := ⟨pb, po + i * 3 + 1, none⟩) hpw1).trans ((HW1.out.cell (p := ⟨pb, po + i * 3 + 1, none⟩) hpb).trans e1)
      have x2 : wr.cell? ⟨pb, po + i * 3 + 2, none⟩ = some (.slice Av m capv) := (HR.out.cell (p := ⟨pb, po + i * 3 + 2, none⟩) hpw1).trans ((HW1.out.cell (p := ⟨pb, po + i * 3 + 2, none⟩) hpb).trans e2)
      have HD := Lib.hid (drop_at ha)
      have HX := Lib.hid (AgAt.new wr a.r a.c (.slice Av m capv))
      have HR2 := Lib.hid (HR.out.alloc HR.out.size (.cells #[.bool a.r, .int .i64 a.c, .slice Av m capv] 32))
      have hz2 : w1.heap.size ≤ wr.heap.size := HR.out.size
      clear e0 e1 e2 ha hm hsv
      have HOW2 := Lib.hid (HOW.out.alloc (.cells #[.bool a.r, .int .i64 a.c, .slice Av m capv] 32))
      have HNE := Lib.hid (own_block HOW.out (Nat.le_refl _))
      have HT2 := Lib.hid (show o = pasTail ks (ags.drop (i + 1)) (pas1 ks a.r acc a.vs) by rw [HT.out, HD.out, pas2_cons])
      rw [cnt_drop HD.out, HM.out] at hac
      go_upto_region 4 with (fail)
      generalize hz2' : wr.heap.size = z2 at HX HNE hz2 ⊢
      generalize wr.alloc (.cells #[.bool a.r, .int .i64 a.c, .slice Av m capv] 32) = w2 at HX HR2 HOW2 ⊢
      obtain ⟨y0, y1, y2⟩ := HX.out.cells
      clear x0 x1 x2 hz2'
      go_upto_region 5 with (fail)
      clear y0 y1 y2
      go_loopw [4, 20] (fun lw jv wr => ∃ (j : Nat) (acc : List Vl), j ≤ m ∧ jv = .int .i64 (j : Int) ∧ acc.length + ((m - j) + cntA (ags.drop (i + 1))) ≤ 1000000 ∧ Hid (o = pasTail ks (ags.drop (i + 1)) (pas1 ks a.r acc (a.vs.drop j))) ∧ Hid (Own encVl 28 wr w1.heap.size lw acc) ∧ Hid (Below w1.heap.size w1 wr) ∧ Hid (AgAt wr z2 a.r a.c (.slice Av m capv)) ∧ Hid (lw.ownBlock ≠ some z2))
        (fun _ jv _ => m - (intOf jv).toNat)
      case atStart => exact ⟨0, acc, Nat.zero_le _, rfl, (by rw [Nat.sub_zero]; exact hac), HT2, HOW2, HR2, HX, HNE⟩
      case round =>
        clear HX HOW2 HR2 HOW HR HNE hac HT HT2
        obtain ⟨j, acc, hj, rfl, hac, HTJ, HOW, HI, HX, HNE⟩ := hrel
        by_cases hjt : j < m
        · have hjj : (j : Int) < (m : Int) := by omega
          have hj0 : (0 : Int) ≤ (j : Int) := by omega
          obtain ⟨x, hx⟩ : ∃ x, a.vs[j]? = some x := ⟨_, List.getElem?_eq_getElem (by rw [HM.out]; exact hjt)⟩
          obtain ⟨vb, vo, rfl, hvb, e0, e1, e2⟩ := takeVal HSV.out hx
          have hvw1 : vb < w1.heap.size := by omega
          have v0 : wr.cell? ⟨vb, vo + j * 3, none⟩ = some (.int .i64 x.k) := (HI.out.cell (p := ⟨vb, vo + j * 3, none⟩) hvw1).trans ((HW1.out.cell (p := ⟨vb, vo + j * 3, none⟩) hvb).trans e0)
          have v1 : wr.cell? ⟨vb, vo + j * 3 + 1, none⟩ = some (.int .i64 x.n) := (HI.out.cell (p := ⟨vb, vo + j * 3 + 1, none⟩) hvw1).trans ((HW1.out.cell (p := ⟨vb, vo + j * 3 + 1, none⟩) hvb).trans e1)
          have v2 : wr.cell? ⟨vb, vo + j * 3 + 2, none⟩ = some (.string x.s) := (HI.out.cell (p := ⟨vb, vo + j * 3 + 2, none⟩) hvw1).trans ((HW1.out.cell (p := ⟨vb, vo + j * 3 + 2, none⟩) hvb).trans e2)
          have HDV := Lib.hid (drop_at hx)
          have HV3 := Lib.hid (VlAt.new wr x)
          have HI3 := Lib.hid (HI.out.alloc HI.out.size (.cells #[.int .i64 x.k, .int .i64 x.n, .string x.s] 28))
          have hz3 : w1.heap.size ≤ wr.heap.size := HI.out.size
          clear e0 e1 e2
          clear hx
          have HO3 := Lib.hid (HOW.out.alloc (.cells #[.int .i64 x.k, .int .i64 x.n, .string x.s] 28))
          have HX3 := Lib.hid (HX.out.over (below_vl wr x))
          go_upto_region 7 with (fail)
          generalize hz3' : wr.heap.size = z3 at HV3 hz3 ⊢
          generalize wr.alloc (.cells #[.int .i64 x.k, .int .i64 x.n, .string x.s] 28) = w3 at HV3 HI3 HO3 HX3 ⊢
          obtain ⟨u0, u1, u2⟩ := HV3.out.cells
          clear v0 v1 v2 hz3'
          have hq3 : q ≤ w3.heap.size := by have := HI3.out.size; omega
          have hkc := contains_int w3 q kv ks x.k ((HK.out.below HW1.out (Nat.le_refl _)).below HI3.out (by omega)) hkl
          obtain ⟨cb, hcb⟩ : ∃ cb, ks.contains x.k = cb := ⟨_, rfl⟩
          rw [hcb] at hkc
          have HKC := Lib.hid hkc; have HCB := Lib.hid hcb
          clear hkc hcb
          cases cb with
          | true =>
            go_upto_region 8 with (first
              | (go_at_call 61; ((with_reducible refine HKC.out.mono ?_); rintro e w4 ⟨rfl, hb⟩; have HB4 := Lib.hid (show Below w3.heap.size w3 w4 from hb); clear hb)))
            have HV4 := Lib.hid (HV3.out.over HB4.out)
            have HX4 := Lib.hid (HX3.out.over HB4.out)
            have HO4 := Lib.hid (HO3.out.below HB4.out (Nat.le_refl _))
            have HI4 := Lib.hid (HI3.out.trans (HB4.out.mono HI3.out.size))
            have h34 := HB4.out.size
            have hz4 : w1.heap.size ≤ w4.heap.size := HI4.out.size
            obtain ⟨u0, u1, u2⟩ := HV4.out.cells
            obtain ⟨y0, y1, y2⟩ := HX4.out.cells
            clear HV3 HX3 HO3
            have HF := Lib.hid (show o = pasTail ks (ags.drop (i + 1)) (pas1 ks a.r (acc ++ [x]) (a.vs.drop (j + 1))) by rw [HTJ.out, HDV.out, pas1_yes HCB.out])
            have hz24 : z2 < w4.heap.size := HX4.out.lt
            go_wp2_with (first
              | (at_builtin; refine wpList_app_at HEL.out encVl rfl (.tmp 28) (.tmp 30) rfl w1.heap.size _ acc rfl (HO4.out.alloc _) ⟨_, 0, none⟩ 1 1 [x] rfl rfl ?_ ?_ ?_ ?_ ?_; exact cells_new _ _ _ rfl; (exact Nat.le_trans (Nat.mul_le_mul_left _ hEB) (by omega)); (unfold maxLen; omega); (rw [World.size_alloc]; omega); intro v5 w5 h1 h2 h3; have HO5 := Lib.hid h1; have HG5 := Lib.hid h2; have HN5 := Lib.hid h3; clear h1 h2 h3))
            have HB5 := Lib.hid (own_grown (HO4.out.alloc _) (by rw [World.size_alloc]; omega) HG5.out)
            have HI5 := Lib.hid ((HI4.out.alloc hz4 _).trans HB5.out)
            have HX5 := Lib.hid ((HX4.out.over (Aft.alloc _ _)).grown HG5.out (fun e => HNE.out e.symm))
            go_roundw
            case rel =>
              refine ⟨j + 1, acc ++ [x], by omega, by go_num, (by rw [List.length_append]; simp only [List.length_cons, List.length_nil]; omega), HF, HO5, HI5, HX5, Lib.hid ?_⟩
              rcases HN5.out with e | e
              · rw [e]; exact HNE.out
              · rw [e, World.size_alloc]; intro e2; injection e2 with e2; omega
            case measure => simp [intOf]; omega
          | false =>
            go_upto_region 9 with (first
              | (go_at_call 61; ((with_reducible refine HKC.out.mono ?_); rintro e w4 ⟨rfl, hb⟩; have HB4 := Lib.hid (show Below w3.heap.size w3 w4 from hb); clear hb)))
            have HV4 := Lib.hid (HV3.out.over HB4.out)
            have HX4 := Lib.hid (HX3.out.over HB4.out)
            have HO4 := Lib.hid (HO3.out.below HB4.out (Nat.le_refl _))
            have HI4 := Lib.hid (HI3.out.trans (HB4.out.mono HI3.out.size))
            have h34 := HB4.out.size
            have hz4 : w1.heap.size ≤ w4.heap.size := HI4.out.size
            obtain ⟨u0, u1, u2⟩ := HV4.out.cells
            obtain ⟨y0, y1, y2⟩ := HX4.out.cells
            clear HV3 HX3 HO3
            by_cases hx0 : x.k = 0
            · have e0 : (x.k != 0) = false := by rw [hx0]; rfl
              have HF := Lib.hid (show o = pasTail ks (ags.drop (i + 1)) (pas1 ks a.r acc (a.vs.drop (j + 1))) by rw [HTJ.out, HDV.out, pas1_no HCB.out (fun h => h.1 hx0)])
              go_wp2_with fail
              go_roundw
              case rel => exact ⟨j + 1, acc, by omega, by go_num, by omega, HF, HO4, HI4, HX4, HNE⟩
              case measure => simp [intOf]; omega
            · have e0 : (x.k != 0) = true := by rw [bne_iff_ne]; exact hx0
              rcases Bool.eq_false_or_eq_true a.r with hr | hr
              · rw [hr] at y0
                have HF := Lib.hid (show o = pasTail ks (ags.drop (i + 1)) (pas1 ks a.r acc (a.vs.drop (j + 1))) by rw [HTJ.out, HDV.out, pas1_no HCB.out (fun h => absurd h.2 (by rw [hr]; decide))])
                go_wp2_with fail
                go_roundw
                case rel => exact ⟨j + 1, acc, by omega, by go_num, by omega, HF, HO4, HI4, HX4, HNE⟩
                case measure => simp [intOf]; omega
              · rw [hr] at y0
                have HF := Lib.hid (show o = none by rw [HTJ.out, HDV.out, pas1_bad HCB.out hx0 hr]; rfl)
                go_wp2_with fail
                go_ret2
                exact ⟨⟨_, _, rfl, .inr ⟨HF.out, rfl, rfl⟩⟩, (by first | exact HW1.out.trans (HI4.out.mono (by omega)) | (rw [hq]; exact HW1.out.trans (HI4.out.mono (by omega))))⟩
        · have hjj : ¬ (j : Int) < (m : Int) := by omega
          have HF := Lib.hid (show o = pas2 ks acc (ags.drop (i + 1)) by rw [HTJ.out, show a.vs.drop j = [] from List.drop_of_length_le (by rw [HM.out]; omega)]; rfl)
          go_wp2_with fail
          go_roundw
          case rel => exact ⟨i + 1, acc, by omega, by go_num, by omega, HF, HOW, HI⟩
          case measure => simp [intOf]; omega
    · have hii : ¬ (i : Int) < (n : Int) := by omega
      have HF := Lib.hid (show o = some acc by rw [HT.out, List.drop_of_length_le (by rw [HN.out]; omega)]; rfl)
      go_wp2_with fail
      go_ret2
      exact ⟨⟨_, _, rfl, .inl ⟨acc, HF.out, rfl, by first | exact HOW.out.mono (by omega) | (rw [hq]; exact HOW.out.mono (by omega))⟩⟩, (by first | exact HW1.out.trans (HR.out.mono (by omega)) | (rw [hq]; exact HW1.out.trans (HR.out.mono (by omega))))⟩
end Go.Proofs.YtolhmemiknpeaaaGreatDoor
