/-
  Layer 11, the laws: one map behind another.
-/
import Derived.Test.YtnnnpjdlhdkeaaaMaO
import Derived.Test.YtnnnpjdlhdkeaaaMaP
namespace Go.Proofs.Ytnnnpjdlhdkeaaa
open Go.RowKit

theorem own_ne_pr {w : World} {lo b : Nat} {v u : Value} {xs : List Int} {k : Int} (h : Own (encInt .i64) 3 w lo v xs) (hp : PrAt 24 w b u k) : Option.some b ≠ v.ownBlock := by
  intro hv
  obtain ⟨_, cur, h1⟩ := h.lies hv.symm
  unfold PrAt at hp
  rw [hp] at h1
  injection h1 with h1
  injection h1 with h1 h2 h3
  exact absurd h2 (by decide)
theorem ir_take {w : World} {B : Nat} {A : Option Addr} {n cap : Nat} {xs : List Int} (h : IR w B A n cap xs) (k : Nat) (hk : k ≤ n) : IR w B A k cap (xs.take k) := by
  obtain ⟨hl, hc, hm⟩ := h.len
  have hkl : (xs.take k).length = k := by rw [List.length_take]; omega
  obtain ⟨A', cap', h1, _, _, h4⟩ := h
  injection h1 with e1 e2 e3
  subst e1
  refine ⟨A, cap, by rw [hkl], by rw [hkl]; omega, hm, h4.imp (fun e => by rw [e, List.take_nil]) ?_⟩
  rintro ⟨pb, po, f1, f2, f3⟩
  refine ⟨pb, po, f1, f2, fun j u hj => f3 j u ?_⟩
  rw [all_encInt] at hj ⊢
  rw [List.map_take, List.getElem?_take] at hj
  split at hj
  · exact hj
  · cases hj
theorem run_uptoA {w0 : World} {lo : Nat} {A : Option Addr} {n c : Nat} {xs : List Int} (h : Own (encInt .i64) 3 w0 lo (.slice A n c) xs) (hn : xs.length = n) (k : Nat) (hk : k ≤ n) (w : World) : (Instr.slice 22 (.slice A n c) none (some (.int .i64 (k : Int))) none).run Try.prog w = .ok (.slice A k c) w := by
  have e2 : (Try.prog.info? 3).map (·.size) = some 1 := by kernel_rfl
  have hkc : k ≤ c ∧ (A = none ∨ ∃ g, A = some ⟨g, 0, none⟩) := by
    rcases h.shape with ⟨h1, h2⟩ | ⟨g, cap, h1, _, _, h4, _⟩
    · injection h1 with h1 h3 h4
      subst h1; subst h4
      rw [h2] at hn
      have : n = 0 := hn.symm
      exact ⟨by omega, .inl rfl⟩
    · injection h1 with h1 h3 h5
      subst h5
      exact ⟨by omega, .inr ⟨g, h1⟩⟩
  have hk1 := hkc.1
  have e1 : (k : Int) ≤ (c : Int) := by omega
  cases hq : Try.prog.info? 3 with
  | none => rw [hq] at e2; cases e2
  | some i =>
    rcases hkc.2 with rfl | ⟨g, rfl⟩
    · simp [Instr.slice, run_underlying Try.underlying22, Instr.sliceBounds, Instr.sliceBound, asIntOf, sizeOf, typeInfo, hq, hk1, go_sem]
    · simp [Instr.slice, run_underlying Try.underlying22, Instr.sliceBounds, Instr.sliceBound, asIntOf, sizeOf, typeInfo, hq, hk1, go_sem]
/-- How long the map's list at q is. -/
def lenAt (w : World) (q : Nat) : Nat := match w.cell? ⟨q, 0, none⟩ with
  | some (.slice _ n _) => n
  | _ => 0
/-- Two maps, the second one being made longer. -/
structure ThB (w1 w : World) (p q : Nat) (va : Value) (nw : Int) (A : Option Addr) (k c : Nat) (nb : Int) (ys : List Int) : Prop where
  pa : PrAt 24 w p va nw
  pb : PrAt 24 w q (.slice A k c) nb
  own : Own (encInt .i64) 3 w w1.heap.size (.slice A k c) ys
  aft : Below w1.heap.size w1 w
  hp : w1.heap.size ≤ p
  hq : w1.heap.size ≤ q
  ne : p ≠ q
theorem ThB.next {w1 w w' : World} {p q : Nat} {va : Value} {nw : Int} {A : Option Addr} {k c : Nat} {nb : Int} {ys : List Int} (h : ThB w1 w p q va nw A k c nb ys) (hb : Below w.heap.size w w') : ThB w1 w' p q va nw A k c nb ys :=
  ⟨h.pa.over hb, h.pb.over hb, h.own.below hb (Nat.le_refl _), h.aft.trans (hb.mono h.aft.size), h.hp, h.hq, h.ne⟩
theorem ThB.at5 {w1 wa wb : World} {p q : Nat} {va : Value} {nw : Int} {A : Option Addr} {k c : Nat} {nb : Int} {ys : List Int} (h : ThB w1 wa p q va nw A k c nb ys) (hg : wa.grownBy wb (Value.slice A k c).ownBlock) : PrAt 24 wb q (.slice A k c) nb :=
  h.pb.keep (hg.block q h.pb.lt (own_ne_pr h.own h.pb))
theorem ThB.push {w1 wa wb : World} {p q : Nat} {va : Value} {nw : Int} {A A5 : Option Addr} {k c k5 c5 : Nat} {nb : Int} {ys zs : List Int} (h : ThB w1 wa p q va nw A k c nb ys) (ho : Own (encInt .i64) 3 wb w1.heap.size (.slice A5 k5 c5) zs) (hg : wa.grownBy wb (Value.slice A k c).ownBlock) :
    ThB w1 (wb.setCell ⟨q, 0, none⟩ (.slice A5 k5 c5)) p q va nw A5 k5 c5 nb zs := by
  have h5 := h.at5 hg
  have hpa := h.pa.keep (hg.block p h.pa.lt (own_ne_pr h.own h.pa))
  refine ⟨hpa.other _ _ (by show p ≠ q; exact h.ne), h5.put0 _, ho.keep (fun g h1 _ h3 => heap_setCell_other wb _ g _ (by
    show g ≠ q
    intro e
    subst e
    exact own_ne_pr ho h5 h3.symm)), ?_, h.hp, h.hq, h.ne⟩
  exact (h.aft.grown hg h.aft.size fun g e => (h.own.lies e).1).setCell (by show w1.heap.size ≤ q; exact h.hq) _
theorem ThB.setN {w1 w : World} {p q : Nat} {va : Value} {nw : Int} {A : Option Addr} {k c : Nat} {nb : Int} {ys : List Int} (h : ThB w1 w p q va nw A k c nb ys) (m : Int) : ThB w1 (w.setCell ⟨q, 1, none⟩ (.int .i64 m)) p q va nw A k c m ys :=
  ⟨h.pa.other _ _ (by show p ≠ q; exact h.ne), h.pb.put1 m, h.own.keep (fun g h1 _ h3 => heap_setCell_other w _ g _ (by
    show g ≠ q
    intro e
    subst e
    exact own_ne_pr h.own h.pb h3.symm)), h.aft.setCell (by show w1.heap.size ≤ q; exact h.hq) _, h.hp, h.hq, h.ne⟩
theorem ThB.len {w1 w : World} {p q : Nat} {va : Value} {nw : Int} {A : Option Addr} {k c : Nat} {nb : Int} {ys : List Int} (h : ThB w1 w p q va nw A k c nb ys) : lenAt w q = k := by
  unfold lenAt; rw [h.pb.cells.1]
/-- What the second map is between two rounds. -/
structure ThY (nb : Int) (ys : List Int) : Prop where
  low : 0 ≤ nb
  high : nb ≤ 180 + ys.length
  rise : Rises (-1) nb ys
theorem ThY.next {nb : Int} {ys : List Int} (h : ThY nb ys) : ThY (nb + 1) (ys ++ [nb]) :=
  ⟨by have := h.low; omega, by have := h.high; rw [List.length_append, List.length_singleton]; omega, rises_append _ _ _ _ _ h.rise (.inr ⟨Int.le_refl _, by have := h.low; omega, by omega⟩) (by omega)⟩
set_option maxRecDepth 100000 in
set_option maxHeartbeats 16000000 in
theorem mapsThen_any (w : World) (A : Option Addr) (n cap : Nat) (ns : List Int) (hs : S8 w w.heap.size A n cap ns) (B : Option Addr) (n2 cap2 : Nat) (ms : List Int) (hs2 : S8 w w.heap.size B n2 cap2 ms) (k : Nat) (hk : k < 256) :
    Calls Try.prog 5 #[.slice A n cap, .slice B n2 cap2, .int .u8 (k : Int)] w fun e w' => e = .returned (.bool true) ∧ Below w.heap.size w w' := by
  have HAW := Lib.hid (fun (wq : World) => awake11_any wq)
  by_cases h60 : 60 < n
  · have hi60 : (60 : Int) < (n : Int) := by omega
    clear hs hs2
    go_enter Try.func5, Try.ntmps5
    go_wp2_with (go_at_call 9; ((with_reducible refine (HAW.out _).mono ?_); rintro e w2 ⟨rfl, h1⟩; have HB2 := Lib.hid h1; clear h1))
    go_ret
    exact ⟨rfl, HB2.out⟩
  by_cases h602 : 60 < n2
  · have hi60 : ¬ (60 : Int) < (n : Int) := by omega
    have hi602 : (60 : Int) < (n2 : Int) := by omega
    clear hs hs2
    go_enter Try.func5, Try.ntmps5
    go_wp2_with (go_at_call 9; ((with_reducible refine (HAW.out _).mono ?_); rintro e w2 ⟨rfl, h1⟩; have HB2 := Lib.hid h1; clear h1))
    go_ret
    exact ⟨rfl, HB2.out⟩
  have hi60 : ¬ (60 : Int) < (n : Int) := by omega
  have hi602 : ¬ (60 : Int) < (n2 : Int) := by omega
  have hmk := make_map w A n cap ns hs (by omega)
  have hmk2 := fun (wq : World) (hq : Below w.heap.size w wq) => make_map wq B n2 cap2 ms ((hs2.below hq (Nat.le_refl _)).mono hq.size) (by omega)
  have hok := makeM_ok ns
  have hok2 := makeM_ok ms
  rw [hs.hlen] at hok
  rw [hs2.hlen] at hok2
  obtain ⟨xs, na, hm⟩ : ∃ xs nw, makeM ns = (xs, nw) := ⟨_, _, rfl⟩
  obtain ⟨ys0, nb0, hm2⟩ : ∃ xs nw, makeM ms = (xs, nw) := ⟨_, _, rfl⟩
  rw [hm] at hmk hok
  simp only [hm2] at hmk2
  rw [hm2] at hok2
  obtain ⟨k1, k2, k3, k4⟩ := hok
  obtain ⟨l1, l2, l3, l4⟩ := hok2
  obtain ⟨N, rfl⟩ : ∃ N : Nat, na = (N : Int) := ⟨na.toNat, by have : 0 ≤ na := k1; omega⟩
  have HMK := Lib.hid hmk; have HMK2 := Lib.hid hmk2
  have HRS := Lib.hid k4
  have hN : N ≤ 180 := by have : (N : Int) ≤ 3 * (n : Int) := k2; omega
  have hk3 : xs.length ≤ 60 := by have : xs.length ≤ n := k3; omega
  have hl3 : ys0.length ≤ 60 := by have : ys0.length ≤ n2 := l3; omega
  have HY0 := Lib.hid (show ThY nb0 ys0 from ⟨l1, by have : nb0 ≤ 3 * (n2 : Int) := l2; omega, l4⟩)
  clear hmk hmk2 hm hm2 k1 k2 k3 k4 l1 l2 l3 l4 hs hs2
  go_enter Try.func5, Try.ntmps5
  go_upto_region 4 with (first
    | (go_at_call 27; ((with_reducible refine HMK.out.mono ?_); rintro e w1 ⟨v, rfl, h1, h2⟩; obtain ⟨A1, c1, hv⟩ := own_sl h1; subst hv; have HO := Lib.hid h1; have HB1 := Lib.hid h2; clear h1 h2))
    | (go_at_call 27; ((with_reducible refine (HMK2.out _ HB1.out).mono ?_); rintro e w2 ⟨v2, rfl, h1, h2⟩; obtain ⟨A2, c2, hv2⟩ := own_sl h1; subst hv2; have HO2 := Lib.hid h1; have HB2 := Lib.hid h2; clear h1 h2)))
  obtain ⟨w4, hw4, hb4, hp4, hq4, hsz4⟩ := two_pr 24 w2 (.slice A1 xs.length c1) (.slice A2 ys0.length c2) (N : Int) nb0
  have hw4' := hw4
  rw [hw4']
  obtain ⟨m, hm⟩ : ∃ m, xs.length = m := ⟨_, rfl⟩
  obtain ⟨p, hp⟩ : ∃ p, w2.heap.size = p := ⟨_, rfl⟩
  have HIR1 := Lib.hid HO.out.se
  have HTB := Lib.hid (show ThB w1 w4 w2.heap.size (w2.heap.size + 1) (.slice A1 xs.length c1) (N : Int) A2 ys0.length c2 nb0 ys0 from
    ⟨hp4, hq4, HO2.out.below hb4 (Nat.le_refl _), HB2.out.trans (hb4.mono HB2.out.size), HB2.out.size, by have := HB2.out.size; omega, by omega⟩)
  have HM := Lib.hid hm
  rw [hm] at HTB hk3 HIR1
  rw [hm]
  rw [hp] at HTB
  rw [hp]
  clear hw4 hw4' hb4 hp4 hq4 hsz4 hp hm
  go_loopw [24] (fun uv wr => ∃ (u : Value) (A3 : Option Addr) (k3 c3 : Nat) (nb : Int) (ys : List Int), u = uv ∧ k3 ≤ 180 ∧ Hid (ys.length = k3) ∧ Hid (ThY nb ys) ∧ Hid (ThB w1 wr p (p + 1) (.slice A1 m c1) (N : Int) A3 k3 c3 nb ys))
    (fun _ wr => N - lenAt wr (p + 1))
  case atStart => exact ⟨_, A2, ys0.length, c2, nb0, ys0, rfl, by omega, Lib.hid rfl, HY0, HTB⟩
  case round =>
    obtain ⟨u, A3, k3, c3, nb, ys, rfl, hk180, HYL, HY, HT⟩ := hrel
    obtain ⟨x0, x1⟩ := HT.out.pa.cells
    obtain ⟨y0, y1⟩ := HT.out.pb.cells
    obtain ⟨m0, m1⟩ := HT.out.pb.melts
    have hnb : 0 ≤ nb ∧ nb ≤ 400 := ⟨HY.out.low, by have := HY.out.high; have := HYL.out; omega⟩
    by_cases hlt : k3 < N
    · have hii : (k3 : Int) < (N : Int) := by omega
      have HBA := Lib.hid ((Below.refl wr.heap.size wr).alloc (Nat.le_refl _) (.cells #[.int .i64 nb] 3))
      have HAA := Lib.hid (HT.out.next HBA.out)
      have HLE := Lib.hid HT.out.len
      clear m0 m1
      go_wp2_with (at_builtin; refine wpList_app_at Elem.pl (encInt .i64) rfl (.tmp 31) (.tmp 34) rfl w1.heap.size _ ys rfl HAA.out.own ⟨_, 0, none⟩ 1 1 [nb] rfl rfl ?_ ?_ ?_ ?_ ?_; exact cells_new _ _ _ rfl; (rw [HYL.out]; omega); (rw [HYL.out]; unfold maxLen; omega); (have h1 := HBA.out.size; have h2 := HT.out.aft.size; omega); intro v5 w5 h1 h2 _; obtain ⟨A5, c5, hv5⟩ := own_sl h1; simp only [List.length_append, List.length_singleton, HYL.out] at hv5; subst hv5; have HO5 := Lib.hid h1; have HG5 := Lib.hid h2; obtain ⟨m0, m1⟩ := (HAA.out.at5 h2).melts; obtain ⟨v0, v1⟩ := (HAA.out.at5 h2).cells; clear h1 h2)
      clear m0 m1 v0 v1 x0 x1 y0 y1
      have HTN := Lib.hid ((HAA.out.push HO5.out HG5.out).setN (nb + 1))
      go_roundw
      case rel => exact ⟨_, A5, k3 + 1, c5, nb + 1, ys ++ [nb], rfl, by omega, Lib.hid (by rw [List.length_append, HYL.out]; rfl), Lib.hid HY.out.next, HTN⟩
      case measure => rw [HLE.out, HTN.out.len]; omega
    · have hii : ¬ (k3 : Int) < (N : Int) := by omega
      have hup := fun w => run_uptoA HT.out.own HYL.out N (by omega) w
      have HT2 := Lib.hid (HT.out.pb.put0 (.slice A3 N c3))
      have HPA2 := Lib.hid (HT.out.pa.other ⟨p + 1, 0, none⟩ (.slice A3 N c3) (by show p ≠ p + 1; omega))
      have HBS := Lib.hid (show Below w1.heap.size w1 (wr.setCell ⟨p + 1, 0, none⟩ (.slice A3 N c3)) from HT.out.aft.setCell (by show w1.heap.size ≤ p + 1; have := HT.out.hp; omega) _)
      have HIY := Lib.hid (show IR (wr.setCell ⟨p + 1, 0, none⟩ (.slice A3 N c3)) wr.heap.size A3 N c3 (ys.take N) from by
        have ho := (HT.out.own.keep (w' := wr.setCell ⟨p + 1, 0, none⟩ (.slice A3 N c3)) (fun g h1 _ h3 => heap_setCell_other wr _ g _ (by
          show g ≠ p + 1
          intro e
          subst e
          exact own_ne_pr HT.out.own HT.out.pb h3.symm)))
        have hse := ho.se
        rw [World.size_setCell] at hse
        exact ir_take hse N (by omega))
      have hlen2 : (ys.take N).length = N := by rw [List.length_take, HYL.out]; omega
      have hrs2 := rises_take ys (-1) nb N HY.out.rise
      have hir1 := HIR1.out.below HBS.out (Nat.le_refl _)
      have hws : w1.heap.size ≤ wr.heap.size := HT.out.aft.size
      obtain ⟨zs, hzs⟩ : ∃ zs, ys.take N = zs := ⟨_, rfl⟩
      rw [hzs] at HIY hlen2 hrs2
      go_upto_region 8 with (fail)
      obtain ⟨w5, hw5⟩ : ∃ w5, wr.setCell ⟨p + 1, 0, none⟩ (.slice A3 N c3) = w5 := ⟨_, rfl⟩
      have hz5 : w5.heap.size = wr.heap.size := by rw [← hw5, World.size_setCell]
      rw [hw5] at HT2 HPA2 HBS HIY hir1 ⊢
      have HIY5 := Lib.hid (show IR w5 w5.heap.size A3 N c3 zs from by rw [hz5]; exact HIY.out)
      have HIX5 := Lib.hid (show IR w5 w5.heap.size A1 m c1 xs from hir1.mono (by rw [hz5]; exact hws))
      have HRZ := Lib.hid hrs2; have HLZ := Lib.hid hlen2
      have hxb : ∀ i, i < m → xs.getD i 0 ≤ 4398046511104 := fun i hi => by have := rises_at HRS.out i (by rw [HM.out]; exact hi); omega
      have HTH := Lib.hid (then_map w5 A1 m c1 xs (N : Int) A3 N c3 zs nb HIX5.out HIY5.out (by omega) (by omega) (by omega) (by omega) hnb.1 (by omega) hxb)
      clear hw5 hir1 hzs hrs2 hlen2 x0 x1 y0 y1 m0 m1 hup hz5 hxb
      obtain ⟨x0, x1⟩ := HPA2.out.cells
      obtain ⟨y0, y1⟩ := HT2.out.cells
      go_upto_region 9 with (go_at_call 23; ((with_reducible refine HTH.out.mono ?_); rintro e w6 ⟨T, _, rfl, h1, h2⟩; have HX6 := Lib.hid (mapOut_ir (n := m) h1 (by rw [length_thenM]; exact HM.out) (by omega)); have H6 := Lib.hid h2; clear h1 h2))
      clear x0 x1 y0 y1
      have HBA7 := Lib.hid (below_pr 24 w6 (.slice (some ⟨T, 0, none⟩) m m) nb)
      have HP7 := Lib.hid (PrAt.new 24 w6 (.slice (some ⟨T, 0, none⟩) m m) nb)
      obtain ⟨q, hq⟩ : ∃ q, w6.heap.size = q := ⟨_, rfl⟩
      obtain ⟨w7, hw7⟩ : ∃ w7, w6.alloc (.cells #[.slice (some ⟨T, 0, none⟩) m m, .int .i64 nb] 24) = w7 := ⟨_, rfl⟩
      rw [hw7] at HBA7 HP7 ⊢
      have HB57 := Lib.hid (H6.out.trans (HBA7.out.mono H6.out.size))
      have HX7 := Lib.hid (HX6.out.lift HBA7.out); have HIX7 := Lib.hid (HIX5.out.lift HB57.out); have HIY7 := Lib.hid (HIY5.out.lift HB57.out)
      have HPA7 := Lib.hid (HPA2.out.over HB57.out); have HPB7 := Lib.hid (HT2.out.over HB57.out)
      have HW7 := Lib.hid (show Below w.heap.size w w7 from HB1.out.trans ((HBS.out.trans (HB57.out.mono HBS.out.size)).mono HB1.out.size))
      rw [hq] at HP7 ⊢
      clear hw7 hq
      have HBD := Lib.hid (Below.drew (Below.refl w7.heap.size w7))
      have HKEEP := Lib.hid (fun (wq : World) (hq : Below w7.heap.size w7 wq) => (show wq.cell? ⟨q, 0, none⟩ = some (.slice (some ⟨T, 0, none⟩) m m) ∧ wq.cell? ⟨q, 1, none⟩ = some (.int .i64 nb) ∧ wq.cell? ⟨p, 0, none⟩ = some (.slice A1 m c1) ∧ wq.cell? ⟨p, 1, none⟩ = some (.int .i64 (N : Int)) ∧ wq.cell? ⟨p + 1, 0, none⟩ = some (.slice A3 N c3) ∧ wq.cell? ⟨p + 1, 1, none⟩ = some (.int .i64 nb) from
        ⟨(HP7.out.over hq).cells.1, (HP7.out.over hq).cells.2, (HPA7.out.over hq).cells.1, (HPA7.out.over hq).cells.2, (HPB7.out.over hq).cells.1, (HPB7.out.over hq).cells.2⟩))
      have hmayC := mayM_of (xs := thenM xs zs nb) (nw := nb) hnb.1 (by omega) (by rw [length_thenM, HM.out]; omega) (then_rises HRS.out HRZ.out (by rw [HLZ.out]))
      have HMY := Lib.hid (fun (wq : World) (hq : Below w7.heap.size w7 wq) => (show Calls Try.prog 10 #[.agg #[.slice (some ⟨T, 0, none⟩) m m, .int .i64 nb]] wq fun e w' => e = .returned (.bool true) ∧ Below wq.heap.size wq w' from by
        have := mayMap_any wq _ m m (thenM xs zs nb) nb (HX7.out.lift hq)
        rwa [hmayC] at this))
      have HEQ := Lib.hid (then_img xs zs (N : Int) nb k (by rw [HLZ.out]))
      have HBY := Lib.hid (show imgM xs (N : Int) (k : Int) ≤ 1000 from by
        by_cases h : k < xs.length
        · rw [imgM_in _ _ _ h]; have := rises_at HRS.out k h; omega
        · rw [imgM_out _ _ _ (by omega) (by omega)]; omega)
      obtain ⟨y, hy⟩ : ∃ y, imgM xs (N : Int) (k : Int) = y := ⟨_, rfl⟩
      rw [hy] at HEQ HBY
      have HI2 := Lib.hid (fun (wq : World) (hq : Below w7.heap.size w7 wq) => (show Calls Try.prog 21 #[.agg #[.slice A1 m c1, .int .i64 (N : Int)], .int .i64 (k : Int)] wq fun e w' => e = .returned (.int .i64 y) ∧ Below wq.heap.size wq w' from hy ▸ image_any wq _ m c1 xs (N : Int) (k : Int) (HIX7.out.lift hq) (by omega) (by omega) (by omega) (by omega)))
      obtain ⟨z, hz⟩ : ∃ z, imgM zs nb y = z := ⟨_, rfl⟩
      rw [hz] at HEQ
      have HI1 := Lib.hid (fun (wq : World) (hq : Below w7.heap.size w7 wq) => (show Calls Try.prog 21 #[.agg #[.slice (some ⟨T, 0, none⟩) m m, .int .i64 nb], .int .i64 (k : Int)] wq fun e w' => e = .returned (.int .i64 z) ∧ Below wq.heap.size wq w' from HEQ.out ▸ image_any wq _ m m (thenM xs zs nb) nb (k : Int) (HX7.out.lift hq) (by omega) hnb.1 (by omega) (by omega)))
      have HI3 := Lib.hid (fun (wq : World) (hq : Below w7.heap.size w7 wq) => (show Calls Try.prog 21 #[.agg #[.slice A3 N c3, .int .i64 nb], .int .i64 y] wq fun e w' => e = .returned (.int .i64 z) ∧ Below wq.heap.size wq w' from hz ▸ image_any wq _ N c3 zs nb y (HIY7.out.lift hq) (by omega) hnb.1 (by omega) (by have := HBY.out; omega)))
      have wk : IntKind.i64.wrap (k : Int) = (k : Int) := by rw [IntKind.wrap_i64]; omega
      have hzz : (z == z) = true := beq_self_eq_true z
      clear hmayC hy hz
      go_upto_region 10 with (fail)
      obtain ⟨x0, x1, x2, x3, x4, x5⟩ := HKEEP.out _ HBD.out
      go_region_held3 (fun wq => wq.cell? ⟨q, 0, none⟩ = some (.slice (some ⟨T, 0, none⟩) m m) ∧ wq.cell? ⟨q, 1, none⟩ = some (.int .i64 nb) ∧ wq.cell? ⟨p, 0, none⟩ = some (.slice A1 m c1) ∧ wq.cell? ⟨p, 1, none⟩ = some (.int .i64 (N : Int)) ∧ wq.cell? ⟨p + 1, 0, none⟩ = some (.slice A3 N c3) ∧ wq.cell? ⟨p + 1, 1, none⟩ = some (.int .i64 nb)) (first | exact ⟨x0, x1, x2, x3, x4, x5⟩ | exact HKEEP.out _ H12.out | exact HKEEP.out _ H11.out | exact HKEEP.out _ H10.out | exact HKEEP.out _ H9.out | exact HKEEP.out _ H8.out) (first
        | (go_at_call 10; ((with_reducible refine (HMY.out _ HBD.out).mono ?_); rintro e w8 ⟨rfl, h1⟩; have H8 := Lib.hid (HBD.out.trans (h1.mono HBD.out.size)); clear h1))
        | (go_at_call 21; ((with_reducible refine (HI1.out _ H8.out).mono ?_); rintro e w9 ⟨rfl, h1⟩; have H9 := Lib.hid (H8.out.trans (h1.mono H8.out.size)); clear h1))
        | (go_at_call 21; ((with_reducible refine (HI2.out _ H9.out).mono ?_); rintro e w10 ⟨rfl, h1⟩; have H10 := Lib.hid (H9.out.trans (h1.mono H9.out.size)); clear h1))
        | (go_at_call 21; ((with_reducible refine (HI3.out _ H10.out).mono ?_); rintro e w11 ⟨rfl, h1⟩; have H11 := Lib.hid (H10.out.trans (h1.mono H10.out.size)); clear h1))
        | (go_at_call 9; ((with_reducible refine (HAW.out _).mono ?_); rintro e w12 ⟨rfl, h1⟩; have H12 := Lib.hid (H11.out.trans (h1.mono H11.out.size)); clear h1)))
      all_goals go_wp2_with fail
      all_goals go_ret
      all_goals exact ⟨rfl, HW7.out.trans (H12.out.mono HW7.out.size)⟩
end Go.Proofs.Ytnnnpjdlhdkeaaa
