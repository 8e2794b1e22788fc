/-
  Layer 11, the reference: maps of one place.
-/
import Derived.Test.YtnnnpjdlhdkeaaaMaF
import Derived.Deep.CutBlock
namespace Go.Proofs.Ytnnnpjdlhdkeaaa
open Go.RowKit

/-- A map that is being made at b, from the world w1 on. -/
structure ApI (w1 w : World) (b : Nat) (tv : Value) (k : Int) (xs : List Int) : Prop where
  cur : PrAt 24 w b tv k
  own : Own (encInt .i64) 3 w w1.heap.size tv xs
  gr : w1.grownBy w (some b)
  blt : b < w1.heap.size
theorem ApI.nil {w : World} {b : Nat} {k : Int} (h : PrAt 24 w b (.slice none 0 0) k) : ApI w w b (.slice none 0 0) k [] := ⟨h, Own.nil _ _ _ _, grownBy.refl' _ _, h.lt⟩
theorem ApI.next {w1 w w' : World} {b : Nat} {tv : Value} {k : Int} {xs : List Int} (h : ApI w1 w b tv k xs) (hb : Below w.heap.size w w') : ApI w1 w' b tv k xs := ⟨h.cur.over hb, h.own.below hb (Nat.le_refl _), grownBy.below' h.gr hb, h.blt⟩
theorem ApI.ne {w1 w : World} {b : Nat} {tv : Value} {k : Int} {xs : List Int} (h : ApI w1 w b tv k xs) : Option.some b ≠ tv.ownBlock := by
  intro hv
  have := (h.own.lies hv.symm).1
  have := h.blt
  omega
theorem ApI.at5 {w1 wa wb : World} {b : Nat} {tv : Value} {k : Int} {xs : List Int} (h : ApI w1 wa b tv k xs) (hg : wa.grownBy wb tv.ownBlock) : PrAt 24 wb b tv k := h.cur.keep (hg.block b h.cur.lt h.ne)
theorem ApI.grow {w1 wa wb : World} {b : Nat} {tv : Value} {k : Int} {xs : List Int} (h : ApI w1 wa b tv k xs) (hg : wa.grownBy wb tv.ownBlock) : w1.grownBy wb (some b) :=
  ⟨hg.os.trans h.gr.os, hg.tape.trans h.gr.tape, hg.output.trans h.gr.output, Nat.le_trans h.gr.size hg.size, fun j hj hr => by
    rw [hg.block j (Nat.lt_of_lt_of_le hj h.gr.size) (fun e => by have := (h.own.lies e.symm).1; omega)]; exact h.gr.block j hj hr⟩
theorem ApI.push {w1 wa wb : World} {b : Nat} {tv v' : Value} {k : Int} {xs ys : List Int} (h : ApI w1 wa b tv k xs) (ho : Own (encInt .i64) 3 wb w1.heap.size v' ys) (hg : wa.grownBy wb tv.ownBlock) : ApI w1 (wb.setCell ⟨b, 0, none⟩ v') b v' k ys :=
  ⟨(h.at5 hg).put0 v', ho.keep (fun g h1 _ _ => heap_setCell_other wb _ g _ (by show g ≠ b; have := h.blt; omega)), grownBy.setCell' (h.grow hg) 0 v', h.blt⟩
theorem ApI.setN {w1 w : World} {b : Nat} {tv : Value} {k : Int} {xs : List Int} (h : ApI w1 w b tv k xs) (m : Int) : ApI w1 (w.setCell ⟨b, 1, none⟩ (.int .i64 m)) b tv m xs :=
  ⟨h.cur.put1 m, h.own.keep (fun g h1 _ _ => heap_setCell_other w _ g _ (by show g ≠ b; have := h.blt; omega)), grownBy.setCell' h.gr 1 _, h.blt⟩
theorem ApI.other {w1 w : World} {b c : Nat} {tv : Value} {k : Int} {xs : List Int} (h : ApI w1 w b tv k xs) {t : TypeId} {v : Value} {m : Int} (hp : PrAt t w1 c v m) (hne : c ≠ b) : PrAt t w c v m :=
  hp.keep (h.gr.block c hp.lt (fun e => hne (Option.some.inj e)))
theorem ApI.aft {w0 w1 w : World} {B b : Nat} {tv : Value} {k : Int} {xs : List Int} (h : ApI w1 w b tv k xs) (hb : Below B w0 w1) (hB : B ≤ b) (hw : B ≤ w1.heap.size) : Below B w0 w :=
  hb.grown h.gr hw (fun g e => by have := Option.some.inj e; omega)
theorem ApI.keeps {w1 w : World} {B b : Nat} {tv : Value} {k : Int} {xs : List Int} (h : ApI w1 w b tv k xs) (hB : B ≤ b) : Below B w1 w := h.aft (Below.refl _ _) hB (by have := h.blt; omega)
theorem two_pr (t : TypeId) (w : World) (u v : Value) (m n : Int) : ∃ w3, (w.alloc (.cells #[u, .int .i64 m] t)).alloc (.cells #[v, .int .i64 n] t) = w3 ∧ Below w.heap.size w w3 ∧ PrAt t w3 w.heap.size u m ∧ PrAt t w3 (w.heap.size + 1) v n ∧ w3.heap.size = w.heap.size + 2 := by
  have s1 := World.size_alloc w (.cells #[u, .int .i64 m] t)
  have s2 := World.size_alloc (w.alloc (.cells #[u, .int .i64 m] t)) (.cells #[v, .int .i64 n] t)
  have b1 := below_pr t w u m
  have b2 := below_pr t (w.alloc (.cells #[u, .int .i64 m] t)) v n
  have p1 := PrAt.new t w u m
  have p2 := PrAt.new t (w.alloc (.cells #[u, .int .i64 m] t)) v n
  rw [s1] at p2
  exact ⟨_, rfl, b1.trans (b2.mono b1.size), p1.over b2, p2, by omega⟩
theorem sameM_next (n i : Nat) (h : i < n) : (sameM n).take i ++ [(i : Int)] = (sameM n).take (i + 1) := by
  unfold sameM
  rw [List.take_add_one, List.getElem?_map, List.getElem?_range h]; rfl
theorem res_rsame : Try.f14.results = #[.cell 2 24] := by kernel_rfl
/-- What a reference's call that makes a map leaves. -/
def RefOut (w w' : World) (xs : List Int) (nw : Int) (e : Ending) : Prop := ∃ v, e = .returned (.agg #[v, .int .i64 nw]) ∧ Own (encInt .i64) 3 w' w.heap.size v xs ∧ Below w.heap.size w w'
set_option maxRecDepth 100000 in
set_option maxHeartbeats 4000000 in
theorem rsame_map (w : World) (n : Int) : Calls Try.prog 14 #[.int .i64 n] w fun e w' => RefOut w w' (sameM (cntM n)) (cntM n : Int) e := by
  have hle := cntM_le n
  have hci := cntM_is n
  obtain ⟨N, hN⟩ : ∃ N, cntM n = N := ⟨_, rfl⟩
  rw [hN] at hle hci ⊢
  obtain ⟨w2, hw2, hb, hp1, hp2, hsz⟩ := two_pr 24 w (.slice none 0 0) (.slice none 0 0) 0 (N : Int)
  have HB := Lib.hid hb; have HP1 := Lib.hid hp1; have HSZ := Lib.hid hsz
  have HI := Lib.hid (ApI.nil hp2)
  have HCI := Lib.hid hci
  clear hb hp1 hp2 hsz hN hci
  go_enter Try.func14, Try.ntmps14
  go_upto_region 1 with (fail)
  obtain ⟨w0, hw0⟩ : ∃ w0, w.alloc (.cells #[.slice none 0 0, .int .i64 0] 24) = w0 := ⟨_, rfl⟩
  have hz0 : w0.heap.size = w.heap.size + 1 := by rw [← hw0]; exact World.size_alloc _ _
  have HZ0 := Lib.hid hz0
  clear hz0
  rw [hw0] at hw2 ⊢
  go_cut [3] from 6 to 8 (fun v wx => ∃ (wu : World), v = .int .i64 (N : Int) ∧ wu = wx ∧ wu = w0)
  case first =>
    by_cases h1 : n < 0
    · have h2 : ¬ (1048576 : Int) < n := by omega
      go_wp2_with fail
      go_meet
      case rel => exact ⟨_, (show Value.int .i64 _ = Value.int .i64 _ from congrArg _ (by have := HCI.out; omega)), rfl, rfl⟩
    · by_cases h2 : (1048576 : Int) < n
      · go_wp2_with fail
        go_meet
        case rel => exact ⟨_, (show Value.int .i64 _ = Value.int .i64 _ from congrArg _ (by have := HCI.out; omega)), rfl, rfl⟩
      · go_wp2_with fail
        all_goals go_meet
        all_goals exact ⟨_, (show Value.int .i64 _ = Value.int .i64 _ from congrArg _ (by have := HCI.out; omega)), rfl, rfl⟩
  case rest =>
    obtain ⟨wu, rfl, rfl, hw⟩ := hcut
    have hw := hw.symm
    subst hw
    clear hw0
    go_upto_region 4 with (fail)
    clear hw2
    rw [HZ0.out]
    go_loopw [5] (fun iv wr => ∃ (i : Nat) (A1 : Option Addr) (c1 : Nat), i ≤ N ∧ iv = .int .i64 (i : Int) ∧ Hid (ApI w2 wr (w.heap.size + 1) (.slice A1 i c1) (N : Int) ((sameM N).take i)))
      (fun iv _ => N - (intOf iv).toNat)
    case atStart => exact ⟨0, none, 0, Nat.zero_le _, rfl, HI⟩
    case round =>
      obtain ⟨i, A1, c1, hi, rfl, HA⟩ := hrel
      have HTL := Lib.hid (show ((sameM N).take i).length = i from by rw [List.length_take, length_sameM]; omega)
      obtain ⟨x0, x1⟩ := HA.out.cur.cells
      by_cases hlt : i < N
      · have hii : (i : Int) < (N : Int) := by omega
        have HN := Lib.hid (sameM_next N i hlt)
        have hln : w.heap.size + 1 < wr.heap.size := HA.out.cur.lt
        have HBA := Lib.hid ((Below.refl wr.heap.size wr).alloc (Nat.le_refl _) (.cells #[.int .i64 (i : Int)] 3))
        have HAA := Lib.hid (HA.out.next HBA.out)
        go_wp2_with (at_builtin; refine wpList_app_at Elem.pl (encInt .i64) rfl (.tmp 17) (.tmp 19) rfl w2.heap.size _ ((sameM N).take i) rfl HAA.out.own ⟨_, 0, none⟩ 1 1 [(i : Int)] rfl rfl ?_ ?_ ?_ ?_ ?_; exact cells_new _ _ _ rfl; (rw [HTL.out]; omega); (rw [HTL.out]; unfold maxLen; omega); (have h1 := HBA.out.size; have h2 := HA.out.gr.size; omega); intro v5 w5 h1 h2 _; obtain ⟨A5, c5, hv5⟩ := own_sl h1; simp only [List.length_append, List.length_singleton, HTL.out] at hv5; subst hv5; have HO5 := Lib.hid h1; have HG5 := Lib.hid h2; obtain ⟨m0, m1⟩ := (HAA.out.at5 h2).melts; obtain ⟨z0, z1⟩ := (HAA.out.at5 h2).cells; clear h1 h2)
        clear m0 m1 z0 z1 x0 x1
        go_roundw
        case rel => exact ⟨i + 1, A5, c5, by omega, by go_num, Lib.hid (by have h1 := HO5.out; rw [HN.out] at h1; exact HAA.out.push h1 HG5.out)⟩
        case measure => simp [intOf]; omega
      · have hii : ¬ (i : Int) < (N : Int) := by omega
        have hin : i = N := by omega
        subst hin
        have HP := Lib.hid (HA.out.other HP1.out (by omega))
        obtain ⟨y0, y1⟩ := HP.out.cells
        obtain ⟨m0, m1⟩ := HP.out.melts
        go_wp2_with fail
        have hfull : (sameM i).take i = sameM i := List.take_of_length_le (by rw [length_sameM]; exact Nat.le_refl _)
        have ho := HA.out.own
        rw [hfull, HSZ.out] at ho
        refine bodyPost_ret (out_mp (HP.out.put2 (.slice A1 i c1) (i : Int)) _ _ 2 res_rsame rfl) rfl ⟨_, rfl, ?_, below_put2 (HA.out.aft HB.out (by omega) (by have := HSZ.out; omega)) (Nat.le_refl _) _ _⟩
        exact (ho.keep (fun g h1 _ _ => heap_put2 _ _ _ _ _ (by omega))).mono (by omega)
end Go.Proofs.Ytnnnpjdlhdkeaaa
