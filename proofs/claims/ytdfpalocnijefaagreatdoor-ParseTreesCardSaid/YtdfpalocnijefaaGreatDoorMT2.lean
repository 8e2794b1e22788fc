/-
  Texts of layers, put together.
-/
import Derived.Test.YtdfpalocnijefaaGreatDoorMT1
import Derived.Laws.ResultCell
import Derived.Deep.DeepCutAuto
import Derived.Deep.CutBlock
/-
  Layer 3, the reference: ReadRef, walked.
-/
namespace Go.Proofs.YtdfpalocnijefaaGreatDoor
open Go.RowKit

/-- What a false answer leaves. -/
def Nay (w : World) (e : Ending) (w' : World) : Prop := e = .returned (.tuple #[.agg #[.string ⟨#[]⟩, .int .i64 0, .int .i64 0, .bool false, .bool false], .bool false]) ∧ Below w.heap.size w w'
theorem ref_facts {w wr : World} {sh : ByteArray} {c r : Int} {ac ar : Bool} (h : RSt w wr sh c r ac ar) :
    (wr.cell? ⟨w.heap.size + 1, 0, none⟩ = some (.string sh) ∧ wr.cell? ⟨w.heap.size + 1, 1, none⟩ = some (.int .i64 c) ∧ wr.cell? ⟨w.heap.size + 1, 2, none⟩ = some (.int .i64 r) ∧ wr.cell? ⟨w.heap.size + 1, 3, none⟩ = some (.bool ac) ∧ wr.cell? ⟨w.heap.size + 1, 4, none⟩ = some (.bool ar)) ∧
    (wr.cell? ⟨w.heap.size, 0, none⟩ = some (.string ⟨#[]⟩) ∧ wr.cell? ⟨w.heap.size, 1, none⟩ = some (.int .i64 0) ∧ wr.cell? ⟨w.heap.size, 2, none⟩ = some (.int .i64 0) ∧ wr.cell? ⟨w.heap.size, 3, none⟩ = some (.bool false) ∧ wr.cell? ⟨w.heap.size, 4, none⟩ = some (.bool false)) := ⟨h.ref.facts, h.res.facts⟩
theorem ext_sb (s : ByteArray) (a m : Nat) : sb (s.extract a (a + m)) = ((sb s).drop a).take m := by
  unfold sb; rw [← List.map_drop, ← List.map_take]; congr 1
  rw [ByteArray.data_extract, Array.toList_extract]
  rw [List.extract_eq_take_drop]
  congr 1; omega
theorem rd_at (d : Rd) (m : Nat) (h : d.k + m < d.s.size) : d.rest[m]? = some ((d.s[d.k + m].toNat : Nat) : Int) := by
  unfold Rd.rest; rw [List.getElem?_drop, sb_at d.s _ h]
theorem take_nx (d : Rd) (s : ByteArray) (m p : Nat) (a : Int) (hs : d.s = s) (hp : d.k + m = p) (h : p < s.size) (ha : ((s[p].toNat : Nat) : Int) = a) : d.rest.take (m + 1) = d.rest.take m ++ [a] ∧ d.rest[m]? = some a := by
  subst hs; subst hp; subst ha
  exact ⟨take_next d m h, rd_at d m h⟩
theorem val_bd4 (l : List Int) (h : ∀ x ∈ l, isNum x = true) (hl : l.length ≤ 4) : 0 ≤ valL l ∧ valL l ≤ 9999 := by
  match l, hl, h with
  | [], _, _ => exact ⟨by decide, by decide⟩
  | [a], _, h =>
    have h1 := num_bd (h a (by simp))
    unfold valL; simp only [List.foldl_cons, List.foldl_nil]; omega
  | [a, b], _, h =>
    have h1 := num_bd (h a (by simp)); have h2 := num_bd (h b (by simp))
    unfold valL; simp only [List.foldl_cons, List.foldl_nil]; omega
  | [a, b, c], _, h =>
    have h1 := num_bd (h a (by simp)); have h2 := num_bd (h b (by simp)); have h3 := num_bd (h c (by simp))
    unfold valL; simp only [List.foldl_cons, List.foldl_nil]; omega
  | [a, b, c, d], _, h =>
    have h1 := num_bd (h a (by simp)); have h2 := num_bd (h b (by simp)); have h3 := num_bd (h c (by simp)); have h4 := num_bd (h d (by simp))
    unfold valL; simp only [List.foldl_cons, List.foldl_nil]; omega
theorem span_take (p : Int → Bool) (d : Rd) : ((sb d.s).drop d.k).take (d.rest.takeWhile p).length = d.rest.takeWhile p := by
  have e := take_split p d.rest
  have h : (d.rest.takeWhile p ++ d.rest.drop (d.rest.takeWhile p).length).take (d.rest.takeWhile p).length = d.rest.takeWhile p := List.take_left
  rw [e] at h; exact h
theorem ref_size : (Tryz.prog.info? 35).map (·.size) = some 5 := by kernel_rfl
/-- A reference stored whole into a block that holds one. -/
theorem wpList_store_ref {ops : Array Oper} {rest : List Oper} {op : Oper} {a : Act} {w : World} {Q : Exit → Act → World → Prop} (hgd : op.guard = none) (x y : Operand) (ho : op.op = .store 35 x y)
    (g : Nat) (s0 : ByteArray) (c0 r0 : Int) (ac0 ar0 : Bool) (s : ByteArray) (c r : Int) (ac ar : Bool) (hx : a.eval x = .pointer (some ⟨g, 0, none⟩)) (hy : a.eval y = .agg #[.string s, .int .i64 c, .int .i64 r, .bool ac, .bool ar]) (hr : RefAt w g s0 c0 r0 ac0 ar0)
    (h : ∀ w', RefAt w' g s c r ac ar → w.grownBy w' (some g) → wpList Tryz.prog ops Q rest (a.put op.dst undef) w') : wpList Tryz.prog ops Q (op :: rest) a w := by
  refine wpList_store_row hgd 35 x y ho g 35 _ _ hx hy hr rfl ref_size ?_ (h _ (setRow_heap w g _ _ _ _ hr) (grownBy.setRow' (grownBy.refl' w _) _))
  intro v hv
  simp only [List.mem_cons, List.not_mem_nil, or_false] at hv
  rcases hv with rfl | rfl | rfl | rfl | rfl <;> rfl
theorem RefAt.load {w : World} {b : Nat} {s : ByteArray} {c r : Int} {ac ar : Bool} (h : RefAt w b s c r ac ar) : (loadVar 35 ⟨b, 0, none⟩).run Tryz.prog w = .ok (.agg #[.string s, .int .i64 c, .int .i64 r, .bool ac, .bool ar]) w :=
  run_loadVar_row w b 35 35 _ _ _ h Tryz.underlying35 rfl ref_size
/-- The way out: a result out of its cell, a Bool beside it. -/
theorem out_ref {w : World} {b : Nat} {s : ByteArray} {c r : Int} {ac ar : Bool} (h : RefAt w b s c r ac ar) (fn : Func) (tmps : Array Value) (ok : Bool) (p u : Tmp) (hf : fn.results = #[.cell p 35, .tmp u]) (hp : tmps.getD p undef = .pointer (some ⟨b, 0, none⟩)) (hu : tmps.getD u undef = .bool ok) :
    (results fn tmps).run Tryz.prog w = .ok (.tuple #[.agg #[.string s, .int .i64 c, .int .i64 r, .bool ac, .bool ar], .bool ok]) w := by
  rw [results_cell_tmp hf, hp, hu]
  simp [asAddr, h.load, Result.andThen]
theorem res_ReadRef : Tryz.f56.results = #[.cell 2 35, .tmp 3] := by kernel_rfl
theorem rd_past (d : Rd) (m : Nat) (h : d.s.size ≤ d.k + m) : d.rest[m]? = none := by
  rw [List.getElem?_eq_none_iff, length_rest]; omega
theorem mark_t (d : Rd) (h : d.k < d.s.size) (h2 : ((d.s[d.k].toNat : Nat) : Int) = 36) : d.mark = true := by
  unfold Rd.mark; rw [rest_get d h, h2]; rfl
theorem mark_f (d : Rd) (h : d.k < d.s.size) (h2 : ¬ ((d.s[d.k].toNat : Nat) : Int) = 36) : d.mark = false := by
  unfold Rd.mark; rw [rest_get d h, decide_eq_false_iff_not]; intro h3; injection h3 with h3; exact h2 h3
theorem mark_ts (d : Rd) (s : ByteArray) (hs : d.s = s) (h : d.k < s.size) (h2 : ((s[d.k].toNat : Nat) : Int) = 36) : d.mark = true := by subst hs; exact mark_t d h h2
theorem mark_fs (d : Rd) (s : ByteArray) (hs : d.s = s) (h : d.k < s.size) (h2 : ¬ ((s[d.k].toNat : Nat) : Int) = 36) : d.mark = false := by subst hs; exact mark_f d h h2
theorem absColF_k (d : Rd) : d.absColF.k = d.k + (dol d.mark).length := rfl
theorem absRowF_k (d : Rd) : d.absRowF.k = d.k + (dol d.mark).length := rfl
theorem mark_e (d : Rd) (h : d.s.size ≤ d.k) : d.mark = false := by unfold Rd.mark; rw [rest_end d h]; rfl
theorem mark_es (d : Rd) (s : ByteArray) (hs : d.s = s) (h : s.size ≤ d.k) : d.mark = false := by subst hs; exact mark_e d h

set_option maxRecDepth 100000 in
set_option maxHeartbeats 1000000 in
theorem refRead_main (s : ByteArray) (w : World) (_hs : s.size ≤ 1000000) (d1 : Rd) (hs1 : d1.s = s) (hk1 : d1.k ≤ s.size) (hsheet : ∀ e, (Rd.start s).sheet = some e → e = d1) (m : Nat)
    (hd1 : (m = s.size ∧ d1.k = 0 ∧ d1.sh = ⟨#[]⟩) ∨ (m < s.size ∧ 0 < m ∧ d1.k = m + 1 ∧ d1.sh = s.extract 0 m ∧ ∀ h : m < s.size, ((s[m].toNat : Nat) : Int) = 33)) (hbytes : ∀ (k : Nat) (h : k < s.size), k < m → ¬ ((s[k].toNat : Nat) : Int) = 33) :
    Calls Tryz.prog 56 #[.string s] w fun e w' => Says (sb s) e ∧ Below w.heap.size w w' := by
  have hst : RSt w ((w.alloc (.cells #[.string ⟨#[]⟩, .int .i64 0, .int .i64 0, .bool false, .bool false] 35)).alloc (.cells #[.string ⟨#[]⟩, .int .i64 0, .int .i64 0, .bool false, .bool false] 35)) ⟨#[]⟩ 0 0 false false := by
    have h0 := RefAt.new w ⟨#[]⟩ 0 0 false false
    have hsz : (w.alloc (.cells #[.string ⟨#[]⟩, .int .i64 0, .int .i64 0, .bool false, .bool false] 35)).heap.size = w.heap.size + 1 := by simp
    have h1 := RefAt.new (w.alloc (.cells #[.string ⟨#[]⟩, .int .i64 0, .int .i64 0, .bool false, .bool false] 35)) ⟨#[]⟩ 0 0 false false
    rw [hsz] at h1
    exact ⟨h0.below ((Below.refl _ _).alloc (Nat.le_refl _) _) h0.lt, h1, ((Below.refl _ _).alloc (Nat.le_refl _) _).alloc (by rw [hsz]; omega) _⟩
  have HST := Lib.hid hst; clear hst
  have HS1 := Lib.hid hs1; clear hs1
  have HSHT := Lib.hid hsheet; clear hsheet
  have hshz : d1.sh.size ≤ 1000000 := by
    rcases hd1 with ⟨_, _, h⟩ | ⟨_, _, _, h, _⟩
    · rw [h]; exact Nat.zero_le _
    · rw [h, ByteArray.size_extract]; omega
  have HD1 := Lib.hid hd1; clear hd1
  have HBY := Lib.hid hbytes; clear hbytes
  go_enter Tryz.func56, Tryz.ntmps56
  go_upto_block 0 with (fail)
  go_cut [5] (fun at_ wx => at_ = .int .i64 (d1.k : Int) ∧ RSt w wx d1.sh 0 0 false false)
  case first =>
    go_wp2_with fail
    go_loopw [5, 6] (fun at_ i wr => ∃ k : Nat, k ≤ s.size ∧ k ≤ m ∧ at_ = .int .i64 0 ∧ i = .int .i64 k ∧ Hid (RSt w wr ⟨#[]⟩ 0 0 false false))
      (fun _ i _ => s.size - (intOf i).toNat)
    case atStart => exact ⟨0, by omega, by omega, rfl, rfl, HST⟩
    case round =>
      clear HST
      obtain ⟨k, hk, hkm, rfl, rfl, HST⟩ := hrel
      by_cases hlt : k < s.size
      · have hki : (k : Int) < (s.size : Int) := by omega
        obtain ⟨a, ha⟩ : ∃ a : Int, (s[k].toNat : Int) = a := ⟨_, rfl⟩
        by_cases hm : k < m
        · have ha33 : (a == 33) = false := beq_eq_false_iff_ne.2 (by rw [← ha]; exact HBY.out k hlt hm)
          go_wp2_with fail
          go_roundw
          case rel => exact ⟨k + 1, by omega, by omega, rfl, by go_num, HST⟩
          case measure => simp [intOf]; omega
        · obtain rfl : k = m := by omega
          have hd := HD1.out.resolve_left (by omega)
          have ha33 : (a == 33) = true := beq_iff_eq.2 (by rw [← ha]; exact hd.2.2.2.2 hlt)
          have hk0 : ((k : Int) == 0) = false := beq_eq_false_iff_ne.2 (by have := hd.2.1; omega)
          have hk00 : (0 : Int) ≤ (k : Int) := by omega
          have HDD := Lib.hid hd; clear hd
          obtain ⟨x0, x1, x2, x3, x4⟩ := HST.out.ref.facts
          clear x1 x2 x3 x4
          have z0 := (HST.out.ref.frozen 0)
          go_wp2_with fail
          go_meet
          case rel => exact ⟨by rw [HDD.out.2.2.1]; rfl, by rw [HDD.out.2.2.2.1]; exact RSt.set 0 HST.out (.string (s.extract 0 k)) _ 0 0 false false rfl⟩
      · have hki : ¬ (k : Int) < (s.size : Int) := by omega
        have hd := HD1.out.resolve_right (by omega)
        have HDD := Lib.hid hd; clear hd
        go_wp2_with fail
        go_meet
        case rel => exact ⟨by rw [HDD.out.2.1]; rfl, by rw [HDD.out.2.2]; exact HST.out⟩
  case rest =>
    obtain ⟨rfl, hst2⟩ := hcut
    clear HST
    have HST := Lib.hid hst2; clear hst2
    go_upto_region 11 with (fail)
    go_cut [40] (fun t wx => t = .bool d1.mark ∧ RSt w wx d1.sh 0 0 false false)
    case first =>
      by_cases hlt : d1.k < s.size
      · have hki : (d1.k : Int) < (s.size : Int) := by omega
        obtain ⟨a, ha⟩ : ∃ a : Int, (s[d1.k].toNat : Int) = a := ⟨_, rfl⟩
        by_cases h36 : a = 36
        · have hj : (a == 36) = true := beq_iff_eq.2 h36
          have hmk : d1.mark = true := mark_ts d1 s HS1.out hlt (by rw [ha, h36])
          have HMK := Lib.hid hmk; clear hmk h36
          go_wp2_with fail
          go_meet
          case rel => exact ⟨by rw [HMK.out], HST.out⟩
        · have hj : (a == 36) = false := beq_eq_false_iff_ne.2 h36
          have hmk : d1.mark = false := mark_fs d1 s HS1.out hlt (by rw [ha]; exact h36)
          have HMK := Lib.hid hmk; clear hmk h36
          go_wp2_with fail
          go_meet
          case rel => exact ⟨by rw [HMK.out], HST.out⟩
      · have hki : ¬ (d1.k : Int) < (s.size : Int) := by omega
        have hmk : d1.mark = false := mark_es d1 s HS1.out (by omega)
        have HMK := Lib.hid hmk; clear hmk
        go_wp2_with fail
        go_meet
        case rel => exact ⟨by rw [HMK.out], HST.out⟩
    case rest =>
      obtain ⟨rfl, hst2⟩ := hcut
      clear HST
      have HST := Lib.hid hst2; clear hst2
      go_upto_if 40 with (fail)
      go_cut [5] (fun k wx => k = .int .i64 (d1.absColF.k : Int) ∧ RSt w wx d1.sh 0 0 d1.mark false)
      case first =>
        obtain ⟨x0, x1, x2, x3, x4⟩ := HST.out.ref.facts
        have z0 := (HST.out.ref.frozen 0); have z1 := (HST.out.ref.frozen 1); have z2 := (HST.out.ref.frozen 2); have z3 := (HST.out.ref.frozen 3); have z4 := (HST.out.ref.frozen 4)
        cases hm : d1.mark with
        | true =>
          have HMK := Lib.hid hm; clear hm
          go_wp2_with fail
          go_meet
          case rel => exact ⟨by rw [show d1.absColF.k = d1.k + 1 from by rw [absColF_k, HMK.out]; rfl]; rfl, (by first | (rw [HMK.out]; exact RSt.set 3 HST.out (.bool true) d1.sh 0 0 true false rfl) | exact RSt.set 3 HST.out (.bool true) d1.sh 0 0 true false rfl)⟩
        | false =>
          have HMK := Lib.hid hm; clear hm
          go_wp2_with fail
          go_meet
          case rel => exact ⟨by rw [show d1.absColF.k = d1.k from by rw [absColF_k, HMK.out]; rfl], (by first | (rw [HMK.out]; exact HST.out) | exact HST.out)⟩
      case rest =>
        obtain ⟨rfl, hst2⟩ := hcut
        clear HST
        have HST := Lib.hid hst2; clear hst2
        obtain ⟨d2, hd2⟩ : ∃ d : Rd, d1.absColF = d := ⟨_, rfl⟩
        rw [hd2]
        have hs2 : d2.s = s := by rw [← hd2]; exact HS1.out
        have hk2 : d2.k ≤ s.size := by rw [← hd2, absColF_k, ← HS1.out]; exact mark_le d1 (by rw [HS1.out]; exact hk1)
        obtain ⟨d3, hd3⟩ : ∃ d : Rd, d2.colF = d := ⟨_, rfl⟩
        have hk3 : d3.k = d2.k + (d2.rest.takeWhile isCap).length := by rw [← hd3]; rfl
        have hle3 : d3.k ≤ s.size := by rw [hk3, ← hs2]; exact span_le isCap d2 (by rw [hs2]; exact hk2)
        have hs3 : d3.s = s := by rw [← hd3]; exact hs2
        have hc3 : readColL (d2.rest.takeWhile isCap) = d3.c := by rw [← hd3]; rfl
        obtain ⟨ok3, hok3⟩ : ∃ b : Bool, isCol (d2.rest.takeWhile isCap) = b := ⟨_, rfl⟩
        have hspan : sb (s.extract d2.k d3.k) = d2.rest.takeWhile isCap := by
          rw [hk3, ext_sb, ← hs2]; exact span_take isCap d2
        have hesz : (s.extract d2.k d3.k).size ≤ 1000000 := by rw [ByteArray.size_extract]; omega
        have hkp : (d2.k : Int) ≤ (d3.k : Int) := by omega
        have hps : (d3.k : Int) ≤ (s.size : Int) := by omega
        have HD2 := Lib.hid hd2; clear hd2
        have HS2 := Lib.hid hs2; clear hs2
        have HD3 := Lib.hid hd3; clear hd3
        have HS3 := Lib.hid hs3; clear hs3
        have HC3 := Lib.hid hc3; clear hc3
        have HK3 := Lib.hid hk3; clear hk3
        have HOK3 := Lib.hid hok3; clear hok3
        have HSPAN := Lib.hid hspan; clear hspan
        go_upto_block 2 with (fail)
        go_cut [7] (fun t wx => t = .int .i64 (d3.k : Int) ∧ RSt w wx d1.sh 0 0 d1.mark false)
        case first =>
          go_wp2_with fail
          go_loopw [7] (fun t wr => ∃ m : Nat, d2.k + m ≤ s.size ∧ t = .int .i64 ((d2.k + m : Nat) : Int) ∧ Hid (∀ x ∈ d2.rest.take m, isCap x = true) ∧ Hid (RSt w wr d1.sh 0 0 d1.mark false))
            (fun t _ => s.size - (intOf t).toNat)
          case atStart => exact ⟨0, by omega, rfl, Lib.hid (by simp), HST⟩
          case round =>
            clear HST
            obtain ⟨m, hm, rfl, HALL, HST⟩ := hrel
            obtain ⟨p, hp⟩ : ∃ p : Nat, d2.k + m = p := ⟨_, rfl⟩
            rw [hp]
            have HP := Lib.hid hp
            have hp2 : p ≤ s.size := by omega
            clear hp
            by_cases hlt : p < s.size
            · have hki : (p : Int) < (s.size : Int) := by omega
              obtain ⟨a, ha⟩ : ∃ a : Int, (s[p].toNat : Int) = a := ⟨_, rfl⟩
              have ha1 : 0 ≤ a ∧ a ≤ 255 := by have := s[p].toNat_lt; omega
              have hnx := take_nx d2 s m p a HS2.out HP.out hlt ha
              have HNX := Lib.hid hnx; clear hnx
              by_cases hc : isCap a = true
              · go_wp2_with (go_at_call 95; ((with_reducible refine (refCapital_any _ ?_ ?_ _).mono ?_); (first | omega | skip); (first | omega | skip); rintro e w' ⟨rfl, rfl⟩))
                go_roundw
                case rel => exact ⟨m + 1, by have := HP.out; omega, by rw [show d2.k + (m + 1) = p + 1 from by have := HP.out; omega]; rfl, Lib.hid (by rw [HNX.out.1]; exact all_snoc HALL.out hc), HST⟩
                case measure => simp [intOf]; omega
              · have hc' : isCap a = false := by simpa using hc
                clear hc
                have hsp := span_stop isCap d2.rest m HALL.out (fun x hx => by rw [HNX.out.2] at hx; injection hx with hx; rw [← hx]; exact hc')
                have hpk : p = d3.k := by rw [HK3.out, hsp, List.length_take, length_rest, HS2.out]; have := HP.out; omega
                have HPK := Lib.hid hpk; clear hpk hsp
                go_wp2_with (go_at_call 95; ((with_reducible refine (refCapital_any _ ?_ ?_ _).mono ?_); (first | omega | skip); (first | omega | skip); rintro e w' ⟨rfl, rfl⟩))
                go_meet
                case rel => exact ⟨by rw [HPK.out], HST.out⟩
            · have hki : ¬ (p : Int) < (s.size : Int) := by omega
              have hsp := span_stop isCap d2.rest m HALL.out (fun x hx => by rw [rd_past d2 m (by rw [HS2.out]; have := HP.out; omega)] at hx; cases hx)
              have hpk : p = d3.k := by rw [HK3.out, hsp, List.length_take, length_rest, HS2.out]; have := HP.out; omega
              have HPK := Lib.hid hpk; clear hpk hsp
              go_wp2_with fail
              go_meet
              case rel => exact ⟨by rw [HPK.out], HST.out⟩
        case rest =>
          obtain ⟨rfl, hst2⟩ := hcut
          clear HST
          have HST := Lib.hid hst2; clear hst2
          go_upto_region 18 with (first | (go_at_call 96; ((with_reducible refine (refReadCol_any _ _ ?_).mono ?_); (first | omega | skip); rintro e w1 ⟨rfl, n, rfl⟩; rw [HSPAN.out, HC3.out, HOK3.out]; have HST := Lib.hid (HST.out.drewN n))))
          clear hkp hps hesz
          go_upto_region 18 with (fail)
          go_cut [74] (fun t wx => t = .bool d3.mark ∧ RSt w wx d1.sh 0 0 d1.mark false)
          case first =>
            by_cases hlt : d3.k < s.size
            · have hki : (d3.k : Int) < (s.size : Int) := by omega
              obtain ⟨a, ha⟩ : ∃ a : Int, (s[d3.k].toNat : Int) = a := ⟨_, rfl⟩
              by_cases h36 : a = 36
              · have hj : (a == 36) = true := beq_iff_eq.2 h36
                have hmk : d3.mark = true := mark_ts d3 s HS3.out hlt (by rw [ha, h36])
                have HMK := Lib.hid hmk; clear hmk h36
                go_wp2_with fail
                go_meet
                case rel => exact ⟨by rw [HMK.out], HST.out⟩
              · have hj : (a == 36) = false := beq_eq_false_iff_ne.2 h36
                have hmk : d3.mark = false := mark_fs d3 s HS3.out hlt (by rw [ha]; exact h36)
                have HMK := Lib.hid hmk; clear hmk h36
                go_wp2_with fail
                go_meet
                case rel => exact ⟨by rw [HMK.out], HST.out⟩
            · have hki : ¬ (d3.k : Int) < (s.size : Int) := by omega
              have hmk : d3.mark = false := mark_es d3 s HS3.out (by omega)
              have HMK := Lib.hid hmk; clear hmk
              go_wp2_with fail
              go_meet
              case rel => exact ⟨by rw [HMK.out], HST.out⟩
          case rest =>
            obtain ⟨rfl, hst2⟩ := hcut
            clear HST
            have HST := Lib.hid hst2; clear hst2
            go_upto_if 74 with (fail)
            go_cut [7] (fun k wx => k = .int .i64 (d3.absRowF.k : Int) ∧ RSt w wx d1.sh 0 0 d1.mark d3.mark)
            case first =>
              obtain ⟨x0, x1, x2, x3, x4⟩ := HST.out.ref.facts
              have z0 := (HST.out.ref.frozen 0); have z1 := (HST.out.ref.frozen 1); have z2 := (HST.out.ref.frozen 2); have z3 := (HST.out.ref.frozen 3); have z4 := (HST.out.ref.frozen 4)
              cases hm : d3.mark with
              | true =>
                have HMK := Lib.hid hm; clear hm
                go_wp2_with fail
                go_meet
                case rel => exact ⟨by rw [show d3.absRowF.k = d3.k + 1 from by rw [absRowF_k, HMK.out]; rfl]; rfl, (by first | (rw [HMK.out]; exact RSt.set 4 HST.out (.bool true) d1.sh 0 0 d1.mark true rfl) | exact RSt.set 4 HST.out (.bool true) d1.sh 0 0 d1.mark true rfl)⟩
              | false =>
                have HMK := Lib.hid hm; clear hm
                go_wp2_with fail
                go_meet
                case rel => exact ⟨by rw [show d3.absRowF.k = d3.k from by rw [absRowF_k, HMK.out]; rfl], (by first | (rw [HMK.out]; exact HST.out) | exact HST.out)⟩
            case rest =>
              obtain ⟨rfl, hst2⟩ := hcut
              clear HST
              have HST := Lib.hid hst2; clear hst2
              obtain ⟨d4, hd4⟩ : ∃ d : Rd, d3.absRowF = d := ⟨_, rfl⟩
              rw [hd4]
              have hs4 : d4.s = s := by rw [← hd4]; exact HS3.out
              have hk4 : d4.k ≤ s.size := by rw [← hd4, absRowF_k, ← HS3.out]; exact mark_le d3 (by rw [HS3.out]; exact hle3)
              have hat4 : d1.at4 = d4 := by unfold Rd.at4; rw [HD2.out, HD3.out, hd4]
              have hcand : ∀ d, readS s = some d → ok3 = true ∧ (∀ x ∈ d4.rest, isNum x = true) ∧ d4.rest.length ≤ 3 ∧ d.sh = d1.sh ∧ d.c = d3.c ∧ d.ac = d1.mark ∧ d.ar = d3.mark ∧ d.r = valL d4.rest - 1 := by
                intro d hd
                obtain ⟨g1, g2, g3, g4, g5, g6, g7, g8⟩ := cand_of s d1 d HSHT.out HS1.out hd
                rw [hat4] at g2 g3 g8
                rw [HD2.out, HOK3.out] at g1
                have g5' : d.c = d1.absColF.colF.c := g5
                have g7' : d.ar = d1.absColF.colF.mark := g7
                rw [HD2.out, HD3.out] at g5' g7'
                exact ⟨g1, g2, g3, g4, g5', g6, g7', g8⟩
              have HS4 := Lib.hid hs4; clear hs4
              have HCAND := Lib.hid hcand; clear hcand hat4 hd4
              obtain ⟨v4, hv4⟩ : ∃ v, valL (d4.rest.take 4) = v := ⟨_, rfl⟩
              by_cases hall : ∀ x ∈ d4.rest.take 4, isNum x = true
              · have hvb := val_bd4 (d4.rest.take 4) hall (by rw [List.length_take]; omega)
                rw [hv4] at hvb
                have HALL := Lib.hid hall; clear hall
                have HV4 := Lib.hid hv4; clear hv4
                go_upto_block 4 with (fail)
                go_cut [10] (fun rr wx => rr = .int .i64 v4 ∧ RSt w wx d1.sh 0 0 d1.mark d3.mark)
                case first =>
                  go_wp2_with fail
                  go_loopw [10, 11] (fun rr t wr => ∃ (j : Nat) (v : Int), j ≤ 4 ∧ d4.k + j ≤ s.size ∧ rr = .int .i64 v ∧ t = .int .i64 ((d4.k + j : Nat) : Int) ∧ Hid (valL (d4.rest.take j) = v) ∧ Hid (RSt w wr d1.sh 0 0 d1.mark d3.mark))
                    (fun _ t _ => s.size - (intOf t).toNat)
                  case atStart => exact ⟨0, 0, by omega, by omega, rfl, rfl, Lib.hid rfl, HST⟩
                  case round =>
                    clear HST
                    obtain ⟨j, v, hj4, hjk, rfl, rfl, HV, HST⟩ := hrel
                    obtain ⟨p, hp⟩ : ∃ p : Nat, d4.k + j = p := ⟨_, rfl⟩
                    rw [hp]
                    have hp2 : p ≤ s.size := by omega
                    by_cases hlt : p < s.size ∧ j < 4
                    · obtain ⟨hlt, hj⟩ := hlt
                      have hki : (p : Int) < (s.size : Int) := by omega
                      have hji : (p : Int) < (d4.k : Int) + 4 := by omega
                      obtain ⟨a, ha⟩ : ∃ a : Int, (s[p].toNat : Int) = a := ⟨_, rfl⟩
                      have ha1 : 0 ≤ a ∧ a ≤ 255 := by have := s[p].toNat_lt; omega
                      have hnx := take_nx d4 s j p a HS4.out hp hlt ha
                      have hc : isNum a = true := HALL.out a (by
                        have h1 : a ∈ d4.rest.take (j + 1) := by rw [hnx.1]; simp
                        exact List.mem_of_mem_take (i := j + 1) (by rw [List.take_take]; rw [Nat.min_eq_left (by omega)]; exact h1))
                      have hab := num_bd hc
                      have hvb2 := val_bd4 (d4.rest.take j) (fun x hx => HALL.out x (List.mem_of_mem_take (i := j) (by rw [List.take_take, Nat.min_eq_left (by omega)]; exact hx))) (by rw [List.length_take]; omega)
                      rw [HV.out] at hvb2
                      have HNX := Lib.hid hnx; clear hnx
                      have HP := Lib.hid hp; clear hp
                      go_wp2_with (go_at_call 82; ((with_reducible refine (refDigit_any _ ?_ ?_ _).mono ?_); (first | omega | skip); (first | omega | skip); rintro e w' ⟨rfl, rfl⟩))
                      go_roundw
                      case rel => exact ⟨j + 1, 10 * v + (a - 48), by omega, by have := HP.out; omega, rfl, by rw [show d4.k + (j + 1) = p + 1 from by have := HP.out; omega]; rfl, Lib.hid (by rw [HNX.out.1, valL_snoc, HV.out]), HST⟩
                      case measure => simp [intOf]; omega
                    · have hve : v4 = v := by
                        rw [← HV.out, ← HV4.out]
                        by_cases hj : j = 4
                        · rw [hj]
                        · have hl : d4.rest.length ≤ j := by rw [length_rest, HS4.out]; omega
                          rw [List.take_of_length_le hl, List.take_of_length_le (by omega)]
                      have HVE := Lib.hid hve; clear hve
                      by_cases hps : p < s.size
                      · have hki : (p : Int) < (s.size : Int) := by omega
                        have hji : ¬ (p : Int) < (d4.k : Int) + 4 := by omega
                        have HP := Lib.hid hp; clear hp hlt
                        go_wp2_with fail
                        go_meet
                        case rel => exact ⟨by rw [HVE.out], HST.out⟩
                      · have hki : ¬ (p : Int) < (s.size : Int) := by omega
                        have HP := Lib.hid hp; clear hp hlt
                        go_wp2_with fail
                        go_meet
                        case rel => exact ⟨by rw [HVE.out], HST.out⟩
                case rest =>
                  obtain ⟨rfl, hst2⟩ := hcut
                  clear HST
                  have HST := Lib.hid hst2; clear hst2
                  have hyes : ok3 = true → mayL (sb d1.sh) d3.c (v4 - 1) = true → strOfNums (textL (sb d1.sh) d3.c (v4 - 1) d1.mark d3.mark) = s → Says (sb s) (.returned (.tuple #[.agg #[.string d1.sh, .int .i64 d3.c, .int .i64 (v4 - 1), .bool d1.mark, .bool d3.mark], .bool true])) := by
                    intro _ h2 h3
                    refine .inl ⟨d1.sh, d3.c, v4 - 1, d1.mark, d3.mark, ?_, h2, ?_, rfl⟩
                    · rcases mayL_sheet h2 with h | h
                      · rw [← length_sb, h]; exact Nat.zero_le _
                      · rw [← length_sb]; exact (nameL_size h).2
                    · rw [← sb_str _ (bytes_textL d1.sh d3.c (v4 - 1) d1.mark d3.mark), h3]
                  have hno : ¬ (ok3 = true ∧ mayL (sb d1.sh) d3.c (v4 - 1) = true ∧ strOfNums (textL (sb d1.sh) d3.c (v4 - 1) d1.mark d3.mark) = s) → NoRef (sb s) := by
                    intro h
                    apply read_none
                    cases hq : readS s with
                    | none => rfl
                    | some d =>
                      exfalso
                      obtain ⟨g1, g2, g3, g4, g5, g6, g7, g8⟩ := HCAND.out d hq
                      obtain ⟨r1, r2, r3⟩ := read_some s d hq
                      rw [List.take_of_length_le (by omega)] at HV4
                      rw [HV4.out] at g8
                      rw [g4, g5, g8] at r2
                      rw [g4, g5, g6, g7, g8] at r3
                      exact h ⟨g1, r2, by rw [r3, str_sb]⟩
                  have HYES := Lib.hid hyes; clear hyes
                  have HNO := Lib.hid hno; clear hno
                  obtain ⟨tt, htt⟩ : ∃ t : ByteArray, strOfNums (textL (sb d1.sh) d3.c (v4 - 1) d1.mark d3.mark) = t := ⟨_, rfl⟩
                  obtain ⟨my, hmy⟩ : ∃ b : Bool, mayL (sb d1.sh) d3.c (v4 - 1) = b := ⟨_, rfl⟩
                  rw [htt, hmy] at HYES HNO
                  have HTT := Lib.hid htt; clear htt
                  have HMY := Lib.hid hmy; clear hmy
                  go_upto_region 28 with (fail)
                  obtain ⟨x0, x1, x2, x3, x4⟩ := HST.out.ref.facts
                  have z0 := (HST.out.ref.frozen 0); have z1 := (HST.out.ref.frozen 1); have z2 := (HST.out.ref.frozen 2); have z3 := (HST.out.ref.frozen 3); have z4 := (HST.out.ref.frozen 4)
                  go_upto_region 30 with (fail)
                  clear x0 x1 x2 x3 x4 z0 z1 z2 z3 z4
                  have hst3 := RSt.set 2 (RSt.set 1 HST.out (.int .i64 d3.c) d1.sh d3.c 0 d1.mark d3.mark rfl) (.int .i64 (v4 - 1)) d1.sh d3.c (v4 - 1) d1.mark d3.mark rfl
                  clear HST
                  generalize (wc.setCell ⟨w.heap.size + 1, 1, none⟩ (.int .i64 d3.c)).setCell ⟨w.heap.size + 1, 2, none⟩ (.int .i64 (v4 - 1)) = w3 at hst3 ⊢
                  have HST := Lib.hid hst3; clear hst3
                  obtain ⟨x0, x1, x2, x3, x4⟩ := HST.out.ref.facts
                  have z0 := (HST.out.ref.frozen 0); have z1 := (HST.out.ref.frozen 1); have z2 := (HST.out.ref.frozen 2); have z3 := (HST.out.ref.frozen 3); have z4 := (HST.out.ref.frozen 4)
                  cases ok3 with
                  | false =>
                    have hnr := HNO.out (by rintro ⟨h, _⟩; cases h)
                    have HNR := Lib.hid hnr; clear hnr
                    go_upto_region 31 with (fail)
                    repeat (first | go_says ((with_reducible refine wpList_store_ref (op := ⟨none, .store 35 (.tmp 2) (.tmp 123), _, _, _, _⟩) rfl (.tmp 2) (.tmp 123) rfl w.heap.size _ _ _ _ _ ⟨#[]⟩ 0 0 false false ?_ ?_ HST.out.res ?_); rfl; rfl; intro w9 h9 g9; have HR9 := Lib.hid h9; clear h9; have HG9 := Lib.hid g9; clear g9) | go_values | go_skip | go_guarded | go_step | go_upon)
                    (try simp only [Exit.inBlock, Exit.then])
                    refine bodyPost_ret (out_ref HR9.out _ _ false 2 3 res_ReadRef rfl rfl) rfl ⟨.inr ⟨HNR.out, rfl⟩, below_of_grownBy HST.out.below HG9.out HST.out.below.size (Nat.le_refl _)⟩
                  | true =>
                    cases my with
                    | false =>
                      have hnr := HNO.out (by rintro ⟨_, h, _⟩; cases h)
                      have HNR := Lib.hid hnr; clear hnr
                      go_upto_region 31 with (first | (go_at_call 58; ((with_reducible refine (refMay_any _ _ _ _ _ _ ?_).mono ?_); (first | omega | skip); rintro e w1 ⟨rfl, h1⟩; rw [HMY.out]; have HST := Lib.hid (HST.out.next h1); clear h1; clear x0 x1 x2 x3 x4 z0 z1 z2 z3 z4; obtain ⟨x0, x1, x2, x3, x4⟩ := HST.out.ref.facts; have z0 := (HST.out.ref.frozen 0); have z1 := (HST.out.ref.frozen 1); have z2 := (HST.out.ref.frozen 2); have z3 := (HST.out.ref.frozen 3); have z4 := (HST.out.ref.frozen 4))))
                      repeat (first | go_says ((with_reducible refine wpList_store_ref (op := ⟨none, .store 35 (.tmp 2) (.tmp 123), _, _, _, _⟩) rfl (.tmp 2) (.tmp 123) rfl w.heap.size _ _ _ _ _ ⟨#[]⟩ 0 0 false false ?_ ?_ HST.out.res ?_); rfl; rfl; intro w9 h9 g9; have HR9 := Lib.hid h9; clear h9; have HG9 := Lib.hid g9; clear g9) | go_values | go_skip | go_guarded | go_step | go_upon)
                      (try simp only [Exit.inBlock, Exit.then])
                      refine bodyPost_ret (out_ref HR9.out _ _ false 2 3 res_ReadRef rfl rfl) rfl ⟨.inr ⟨HNR.out, rfl⟩, below_of_grownBy HST.out.below HG9.out HST.out.below.size (Nat.le_refl _)⟩
                    | true =>
                      by_cases hts : tt = s
                      · have hys := HYES.out rfl rfl hts
                        have HYS := Lib.hid hys; clear hys
                        have htb : (s.toList == s.toList) = true := beq_self_eq_true _
                        have hTS := Lib.hid hts; clear hts
                        go_upto_region 32 with (first | (go_at_call 58; ((with_reducible refine (refMay_any _ _ _ _ _ _ ?_).mono ?_); (first | omega | skip); rintro e w1 ⟨rfl, h1⟩; rw [HMY.out]; have HST := Lib.hid (HST.out.next h1); clear h1; clear x0 x1 x2 x3 x4 z0 z1 z2 z3 z4; obtain ⟨x0, x1, x2, x3, x4⟩ := HST.out.ref.facts; have z0 := (HST.out.ref.frozen 0); have z1 := (HST.out.ref.frozen 1); have z2 := (HST.out.ref.frozen 2); have z3 := (HST.out.ref.frozen 3); have z4 := (HST.out.ref.frozen 4))) | (go_at_call 66; ((with_reducible refine (refText_any _ _ _ _ _ _ ?_).mono ?_); (first | omega | skip); rintro e w1 ⟨rfl, h1⟩; rw [HTT.out]; (try rw [hTS.out]); have HST := Lib.hid (HST.out.next h1); clear h1; clear x0 x1 x2 x3 x4 z0 z1 z2 z3 z4; obtain ⟨x0, x1, x2, x3, x4⟩ := HST.out.ref.facts; have z0 := (HST.out.ref.frozen 0); have z1 := (HST.out.ref.frozen 1); have z2 := (HST.out.ref.frozen 2); have z3 := (HST.out.ref.frozen 3); have z4 := (HST.out.ref.frozen 4))))
                        repeat (first | go_says ((with_reducible refine wpList_store_ref (op := ⟨none, .store 35 (.tmp 2) (.tmp 124), _, _, _, _⟩) rfl (.tmp 2) (.tmp 124) rfl w.heap.size _ _ _ _ _ d1.sh d3.c (v4 - 1) d1.mark d3.mark ?_ ?_ HST.out.res ?_); rfl; rfl; intro w9 h9 g9; have HR9 := Lib.hid h9; clear h9; have HG9 := Lib.hid g9; clear g9) | go_values | go_skip | go_guarded | go_step | go_upon)
                        (try simp only [Exit.inBlock, Exit.then])
                        exact bodyPost_ret (out_ref HR9.out _ _ true 2 3 res_ReadRef rfl rfl) rfl ⟨HYS.out, below_of_grownBy HST.out.below HG9.out HST.out.below.size (Nat.le_refl _)⟩
                      · have hnr := HNO.out (by rintro ⟨_, _, h⟩; exact hts h)
                        have HNR := Lib.hid hnr; clear hnr
                        have htn := text_ne tt s hts
                        have htb : (tt.toList == s.toList) = false := beq_eq_false_iff_ne.2 htn
                        clear hts
                        go_upto_region 31 with (first | (go_at_call 58; ((with_reducible refine (refMay_any _ _ _ _ _ _ ?_).mono ?_); (first | omega | skip); rintro e w1 ⟨rfl, h1⟩; rw [HMY.out]; have HST := Lib.hid (HST.out.next h1); clear h1; clear x0 x1 x2 x3 x4 z0 z1 z2 z3 z4; obtain ⟨x0, x1, x2, x3, x4⟩ := HST.out.ref.facts; have z0 := (HST.out.ref.frozen 0); have z1 := (HST.out.ref.frozen 1); have z2 := (HST.out.ref.frozen 2); have z3 := (HST.out.ref.frozen 3); have z4 := (HST.out.ref.frozen 4))) | (go_at_call 66; ((with_reducible refine (refText_any _ _ _ _ _ _ ?_).mono ?_); (first | omega | skip); rintro e w1 ⟨rfl, h1⟩; rw [HTT.out]; (try rw [hTS.out]); have HST := Lib.hid (HST.out.next h1); clear h1; clear x0 x1 x2 x3 x4 z0 z1 z2 z3 z4; obtain ⟨x0, x1, x2, x3, x4⟩ := HST.out.ref.facts; have z0 := (HST.out.ref.frozen 0); have z1 := (HST.out.ref.frozen 1); have z2 := (HST.out.ref.frozen 2); have z3 := (HST.out.ref.frozen 3); have z4 := (HST.out.ref.frozen 4))))
                        repeat (first | go_says ((with_reducible refine wpList_store_ref (op := ⟨none, .store 35 (.tmp 2) (.tmp 123), _, _, _, _⟩) rfl (.tmp 2) (.tmp 123) rfl w.heap.size _ _ _ _ _ ⟨#[]⟩ 0 0 false false ?_ ?_ HST.out.res ?_); rfl; rfl; intro w9 h9 g9; have HR9 := Lib.hid h9; clear h9; have HG9 := Lib.hid g9; clear g9) | go_values | go_skip | go_guarded | go_step | go_upon)
                        (try simp only [Exit.inBlock, Exit.then])
                        refine bodyPost_ret (out_ref HR9.out _ _ false 2 3 res_ReadRef rfl rfl) rfl ⟨.inr ⟨HNR.out, rfl⟩, below_of_grownBy HST.out.below HG9.out HST.out.below.size (Nat.le_refl _)⟩
              · have hall2 := hall
                clear hall
                have HALL := Lib.hid hall2; clear hall2
                go_wp2_with fail
                go_loopw [10, 11] (fun rr t wr => ∃ (j : Nat) (v : Int), j ≤ 4 ∧ d4.k + j ≤ s.size ∧ rr = .int .i64 v ∧ t = .int .i64 ((d4.k + j : Nat) : Int) ∧ Hid (valL (d4.rest.take j) = v ∧ (∀ x ∈ d4.rest.take j, isNum x = true)) ∧ Hid (RSt w wr d1.sh 0 0 d1.mark d3.mark))
                  (fun _ t _ => s.size - (intOf t).toNat)
                case atStart => exact ⟨0, 0, by omega, by omega, rfl, rfl, Lib.hid ⟨rfl, by simp⟩, HST⟩
                case round =>
                  clear HST
                  obtain ⟨j, v, hj4, hjk, rfl, rfl, HV, HST⟩ := hrel
                  obtain ⟨p, hp⟩ : ∃ p : Nat, d4.k + j = p := ⟨_, rfl⟩
                  rw [hp]
                  have hp2 : p ≤ s.size := by omega
                  have hj : j < 4 ∧ p < s.size := by
                    refine Decidable.byContradiction fun hn => HALL.out ?_
                    have he : d4.rest.take 4 = d4.rest.take j := by
                      by_cases hj : j = 4
                      · rw [hj]
                      · have hl : d4.rest.length ≤ j := by rw [length_rest, HS4.out]; omega
                        rw [List.take_of_length_le hl, List.take_of_length_le (by omega)]
                    rw [he]; exact HV.out.2
                  obtain ⟨hj, hlt⟩ := hj
                  have hvb := val_bd4 (d4.rest.take j) HV.out.2 (by rw [List.length_take]; omega)
                  rw [HV.out.1] at hvb
                  have hki : (p : Int) < (s.size : Int) := by omega
                  have hji : (p : Int) < (d4.k : Int) + 4 := by omega
                  obtain ⟨a, ha⟩ : ∃ a : Int, (s[p].toNat : Int) = a := ⟨_, rfl⟩
                  have ha1 : 0 ≤ a ∧ a ≤ 255 := by have := s[p].toNat_lt; omega
                  have hnx := take_nx d4 s j p a HS4.out hp hlt ha
                  have HNX := Lib.hid hnx; clear hnx
                  have HP := Lib.hid hp; clear hp
                  by_cases hc : isNum a = true
                  · have hab := num_bd hc
                    go_wp2_with (go_at_call 82; ((with_reducible refine (refDigit_any _ ?_ ?_ _).mono ?_); (first | omega | skip); (first | omega | skip); rintro e w' ⟨rfl, rfl⟩))
                    go_roundw
                    case rel => exact ⟨j + 1, 10 * v + (a - 48), by omega, by have := HP.out; omega, rfl, by rw [show d4.k + (j + 1) = p + 1 from by have := HP.out; omega]; rfl, Lib.hid ⟨by rw [HNX.out.1, valL_snoc, HV.out.1], by rw [HNX.out.1]; exact all_snoc HV.out.2 hc⟩, HST⟩
                    case measure => simp [intOf]; omega
                  · have hc' : isNum a = false := by simpa using hc
                    clear hc
                    have hno : readS s = none := by
                      cases hq : readS s with
                      | none => rfl
                      | some d =>
                        have h1 := (HCAND.out d hq).2.1 a (List.mem_of_getElem? HNX.out.2)
                        rw [hc'] at h1; cases h1
                    have hnr := read_none s hno
                    have HNR := Lib.hid hnr; clear hnr hno
                    go_upto_region 26 with (first | (go_at_call 82; ((with_reducible refine (refDigit_any _ ?_ ?_ _).mono ?_); (first | omega | skip); (first | omega | skip); rintro e w' ⟨rfl, rfl⟩)))
                    repeat (first | go_says ((with_reducible refine wpList_store_ref (op := ⟨none, .store 35 (.tmp 2) (.tmp 96), _, _, _, _⟩) rfl (.tmp 2) (.tmp 96) rfl w.heap.size _ _ _ _ _ ⟨#[]⟩ 0 0 false false ?_ ?_ HST.out.res ?_); rfl; rfl; intro w9 h9 g9; have HR9 := Lib.hid h9; clear h9; have HG9 := Lib.hid g9; clear g9) | go_values | go_skip | go_guarded | go_step | go_upon)
                    (try simp only [Exit.inBlock, Exit.then])
                    refine bodyPost_ret (out_ref HR9.out _ _ false 2 3 res_ReadRef rfl rfl) rfl ⟨.inr ⟨HNR.out, rfl⟩, below_of_grownBy HST.out.below HG9.out HST.out.below.size (Nat.le_refl _)⟩

end Go.Proofs.YtdfpalocnijefaaGreatDoor

/-
  Layer 3, the reference: ReadRef, whatever the text.
-/
namespace Go.Proofs.YtdfpalocnijefaaGreatDoor
open Go.RowKit

theorem sheetP_bytes (s : ByteArray) (k : Nat) (h : k < s.size) (hk : k < (Rd.start s).sheetP.length) : ¬ ((s[k].toNat : Nat) : Int) = 33 := by
  intro h33
  have h1 := take_all ne33 (sb s) 33 (by
    have h2 := take_split ne33 (sb s)
    have h3 : ((sb s).takeWhile ne33)[k]? = (sb s)[k]? := by
      conv => rhs; rw [← h2]
      rw [List.getElem?_append_left (show k < ((sb s).takeWhile ne33).length from hk)]
    rw [sb_at s k h, h33] at h3
    exact List.mem_of_getElem? h3)
  exact absurd h1 (by decide)
theorem sheetP_mark (s : ByteArray) (m : Nat) (hm : (Rd.start s).sheetP.length = m) (h : m < s.size) : ((s[m].toNat : Nat) : Int) = 33 := by
  have h1 := take_head ne33 (sb s) ((s[m].toNat : Nat) : Int) (by
    have h2 : ((sb s).takeWhile ne33).length = m := hm
    rw [h2, List.head?_drop, sb_at s m h])
  unfold ne33 at h1
  simpa using h1
theorem sheetP_cut (s : ByteArray) : s.extract 0 (Rd.start s).sheetP.length = strOfNums (Rd.start s).sheetP := by
  have h := sheetP_take (Rd.start s)
  have h2 : (sb s).take (Rd.start s).sheetP.length = (Rd.start s).sheetP := h
  rw [← str_sb (s.extract 0 (Rd.start s).sheetP.length)]
  congr 1
  have e := ext_sb s 0 (Rd.start s).sheetP.length
  rw [Nat.zero_add, List.drop_zero, h2] at e
  exact e

set_option maxRecDepth 100000 in
set_option maxHeartbeats 400000 in
theorem refRead_zero (s : ByteArray) (w : World) (_hs : s.size ≤ 1000000) (hp : 0 < s.size) (h0 : (Rd.start s).sheetP.length = 0) :
    Calls Tryz.prog 56 #[.string s] w fun e w' => Says (sb s) e ∧ Below w.heap.size w w' := by
  have hst : RSt w ((w.alloc (.cells #[.string ⟨#[]⟩, .int .i64 0, .int .i64 0, .bool false, .bool false] 35)).alloc (.cells #[.string ⟨#[]⟩, .int .i64 0, .int .i64 0, .bool false, .bool false] 35)) ⟨#[]⟩ 0 0 false false := by
    have h0 := RefAt.new w ⟨#[]⟩ 0 0 false false
    have hsz : (w.alloc (.cells #[.string ⟨#[]⟩, .int .i64 0, .int .i64 0, .bool false, .bool false] 35)).heap.size = w.heap.size + 1 := by simp
    have h1 := RefAt.new (w.alloc (.cells #[.string ⟨#[]⟩, .int .i64 0, .int .i64 0, .bool false, .bool false] 35)) ⟨#[]⟩ 0 0 false false
    rw [hsz] at h1
    exact ⟨h0.below ((Below.refl _ _).alloc (Nat.le_refl _) _) h0.lt, h1, ((Below.refl _ _).alloc (Nat.le_refl _) _).alloc (by rw [hsz]; omega) _⟩
  have hnr : NoRef (sb s) := by
    apply read_none
    have hsh : (Rd.start s).sheet = none := by
      unfold Rd.sheet
      rw [if_neg (show ¬ (Rd.start s).sheetP.length = (Rd.start s).s.size by rw [h0]; show ¬ 0 = s.size; omega)]
      rw [List.eq_nil_of_length_eq_zero h0]; rfl
    unfold readS; rw [hsh]; rfl
  have hb := sheetP_mark s 0 h0 hp
  obtain ⟨a, ha⟩ : ∃ a : Int, (s[0].toNat : Int) = a := ⟨_, rfl⟩
  have hb2 : (a == 33) = true := beq_iff_eq.2 (by rw [← ha]; exact hb)
  have hpi : (0 : Int) < (s.size : Int) := by omega
  have HST := Lib.hid hst; clear hst
  have HNR := Lib.hid hnr; clear hnr hb h0
  go_enter Tryz.func56, Tryz.ntmps56
  go_wp2_with fail
  go_loopw [3, 5, 6] (fun rk at_ i wr => rk = .bool false ∧ at_ = .int .i64 0 ∧ i = .int .i64 0 ∧ Hid (RSt w wr ⟨#[]⟩ 0 0 false false))
    (fun _ _ i _ => s.size - (intOf i).toNat)
  case atStart => exact ⟨rfl, rfl, rfl, HST⟩
  case round =>
    clear HST
    obtain ⟨rfl, rfl, rfl, HST⟩ := hrel
    obtain ⟨x0, x1, x2, x3, x4⟩ := HST.out.ref.facts
    clear x1 x2 x3 x4
    have z0 := (HST.out.ref.frozen 0)
    have hst2 := RSt.set 0 HST.out (.string ByteArray.empty) ByteArray.empty 0 0 false false rfl
    have HST2 := Lib.hid hst2; clear hst2
    go_wp2_with ((with_reducible refine wpList_store_ref (op := ⟨none, .store 35 (.tmp 2) (.tmp 30), _, _, _, _⟩) rfl (.tmp 2) (.tmp 30) rfl w.heap.size _ _ _ _ _ ⟨#[]⟩ 0 0 false false ?_ ?_ HST2.out.res ?_); rfl; rfl; intro w9 h9 g9; have HR9 := Lib.hid h9; clear h9; have HG9 := Lib.hid g9; clear g9)
    (try simp only [Exit.inBlock, Exit.then])
    exact bodyPost_ret (out_ref HR9.out _ _ false 2 3 res_ReadRef rfl rfl) rfl ⟨.inr ⟨HNR.out, rfl⟩, below_of_grownBy HST2.out.below HG9.out HST2.out.below.size (Nat.le_refl _)⟩

theorem refRead_any (s : ByteArray) (w : World) (hs : s.size ≤ 1000000) :
    Calls Tryz.prog 56 #[.string s] w fun e w' => Says (sb s) e ∧ Below w.heap.size w w' := by
  by_cases hno : (Rd.start s).sheetP.length = s.size
  · refine refRead_main s w hs (Rd.start s) rfl (Nat.zero_le _) ?_ s.size (.inl ⟨rfl, rfl, rfl⟩) ?_
    · intro e he
      unfold Rd.sheet at he; rw [if_pos (show (Rd.start s).sheetP.length = (Rd.start s).s.size from hno)] at he; injection he with he; exact he.symm
    · intro k h hk; exact sheetP_bytes s k h (by rw [hno]; exact hk)
  · have hlt : (Rd.start s).sheetP.length < s.size := sheetP_lt (Rd.start s) hno
    by_cases h0 : (Rd.start s).sheetP.length = 0
    · exact refRead_zero s w hs (by omega) h0
    · refine refRead_main s w hs { Rd.start s with sh := s.extract 0 (Rd.start s).sheetP.length, k := (Rd.start s).sheetP.length + 1 } rfl hlt ?_ (Rd.start s).sheetP.length (.inr ⟨hlt, by omega, rfl, rfl, fun h => sheetP_mark s _ rfl h⟩) (fun k h hk => sheetP_bytes s k h hk)
      intro e he
      unfold Rd.sheet at he; rw [if_neg (show ¬ (Rd.start s).sheetP.length = (Rd.start s).s.size from hno)] at he
      by_cases hn : nameL (Rd.start s).sheetP = true
      · rw [if_pos hn] at he; injection he with he; rw [← he, sheetP_cut]
      · rw [if_neg hn] at he; cases he
end Go.Proofs.YtdfpalocnijefaaGreatDoor

/-
  Layer 4, the reference: numbers.
-/
namespace Go.Proofs.YtdfpalocnijefaaGreatDoor
open Go.RowKit

/-- What the reference's readers answer: a token and its length, or a nought. -/
def RefTok (o : Option (Tk × Nat)) (k : Nat) (w : World) (e : Ending) (w' : World) : Prop :=
  Below w.heap.size w w' ∧ ((∃ t n, o = some (t, n) ∧ e = .returned (.tuple #[.agg (tokA (t.goto k)), .int .i64 (n : Int)])) ∨ (o = none ∧ ∃ t, e = .returned (.tuple #[.agg (tokA t), .int .i64 0])))
theorem below_set9r {w w1 : World} {g : Nat} (h : Below w.heap.size w w1) (hg : w.heap.size ≤ g) (v0 v1 v2 v3 v4 v5 v6 v7 v8 : Value) :
    Below w.heap.size w (((((((((w1.setCell ⟨g, 0, none⟩ v0).setCell ⟨g, 1, none⟩ v1).setCell ⟨g, 2, none⟩ v2).setCell ⟨g, 3, none⟩ v3).setCell ⟨g, 4, none⟩ v4).setCell ⟨g, 5, none⟩ v5).setCell ⟨g, 6, none⟩ v6).setCell ⟨g, 7, none⟩ v7).setCell ⟨g, 8, none⟩ v8) :=
  ((((((((h.setCell hg _).setCell hg _).setCell hg _).setCell hg _).setCell hg _).setCell hg _).setCell hg _).setCell hg _).setCell hg _
/-- The way out: a token out of its cell, a number beside it. -/
theorem out_tokn {w : World} {b : Nat} {t : Tk} (h : TkAt w b t) (fn : Func) (tmps : Array Value) (n : Int) (p u : Tmp) (hf : fn.results = #[.cell p 54, .tmp u]) (hp : tmps.getD p undef = .pointer (some ⟨b, 0, none⟩)) (hu : tmps.getD u undef = .int .i64 n) :
    (results fn tmps).run Tryz.prog w = .ok (.tuple #[.agg (tokA t), .int .i64 n]) w := by
  rw [results_cell_tmp hf, hp, hu]
  simp [asAddr, h.load, Result.andThen]
theorem res_rnumber : Tryz.f83.results = #[.cell 4 54, .tmp 5] := by kernel_rfl

/-- A number whose digits have been taken so far. -/
structure NumSt (l : List Int) (m : Nat) (v : Int) : Prop where
  val : valL (l.take m) = v
  dig : ∀ x ∈ l.take m, isNum x = true
  pos : 0 ≤ v
  max : v ≤ 9223372036854775807
  len : m ≤ l.length
  head : 1 < m → l.head? ≠ some 48
theorem numSt_zero (l : List Int) : NumSt l 0 0 := ⟨rfl, by simp, by omega, by omega, by omega, by omega⟩
theorem valL_one (x : Int) : valL [x] = x - 48 := by unfold valL; simp
theorem take_snocR {l : List Int} {m : Nat} {a : Int} (ha : l[m]? = some a) : l.take (m + 1) = l.take m ++ [a] := by rw [List.take_add_one, ha]; rfl
theorem numSt_val {l : List Int} {m : Nat} {v a : Int} (h : NumSt l m v) (ha : l[m]? = some a) : valL (l.take (m + 1)) = 10 * v + (a - 48) := by rw [take_snocR ha, valL_snoc, h.val]
theorem numSt_big {l : List Int} {m : Nat} {v a : Int} (h : NumSt l m v) (ha : l[m]? = some a) (hn : isNum a = true) (hb : 9223372036854775807 < 10 * v + (a - 48)) : numT l = none := by
  have hall := all_snoc h.dig hn
  rw [← take_snocR ha] at hall
  have h1 := span_over isNum l (m + 1) hall
  have h2 := valL_ge ((l.drop (m + 1)).takeWhile isNum) (l.take (m + 1)) (take_all isNum _) (by rw [numSt_val h ha]; omega)
  rw [← h1, numSt_val h ha] at h2
  unfold numT; rw [if_pos (.inr (by omega))]
theorem numSt_nought {l : List Int} {m : Nat} {a : Int} (h : NumSt l m 0) (hm : 0 < m) (ha : l[m]? = some a) (hn : isNum a = true) : numT l = none := by
  have hall := all_snoc h.dig hn
  rw [← take_snocR ha] at hall
  have h1 := span_over isNum l (m + 1) hall
  have hlen : 1 < (l.takeWhile isNum).length := by
    rw [h1, List.length_append, List.length_take]
    have := (List.getElem?_eq_some_iff.1 ha).1; omega
  cases l with
  | nil => simp at ha
  | cons x r =>
    have hx := h.dig x (by rw [show m = (m - 1) + 1 by omega, List.take_succ_cons]; simp)
    have hb := num_bd hx
    have h2 := valL_ge ((x :: r).take m).tail [x] (fun y hy => h.dig y (List.mem_of_mem_tail hy)) (by rw [valL_one]; omega)
    have e : [x] ++ ((x :: r).take m).tail = (x :: r).take m := by rw [show m = (m - 1) + 1 by omega, List.take_succ_cons]; rfl
    rw [e, h.val, valL_one] at h2
    unfold numT; rw [if_pos (.inl ⟨hlen, by simp; omega⟩)]
theorem numSt_next {l : List Int} {m : Nat} {v a : Int} (h : NumSt l m v) (ha : l[m]? = some a) (hn : isNum a = true) (hb : 10 * v + (a - 48) ≤ 9223372036854775807) (h0 : 0 < m → v ≠ 0) : NumSt l (m + 1) (10 * v + (a - 48)) := by
  have hbd := num_bd hn
  have hp := h.pos
  refine ⟨numSt_val h ha, ?_, by omega, hb, ?_, ?_⟩
  · rw [take_snocR ha]; exact all_snoc h.dig hn
  · have := (List.getElem?_eq_some_iff.1 ha).1; omega
  · intro hm hh
    by_cases h1 : 1 < m
    · exact h.head h1 hh
    · have hm1 : m = 1 := by omega
      subst hm1
      cases l with
      | nil => simp at hh
      | cons x r =>
        simp at hh
        have := h.val
        rw [List.take_succ_cons, List.take_zero, valL_one] at this
        exact h0 (by omega) (by omega)
theorem numSt_end {l : List Int} {m : Nat} {v : Int} (h : NumSt l m v) (hs : ∀ x, l[m]? = some x → isNum x = false) : numT l = some ({ Tk.zero with kind := 1, num := v }, m) := by
  have hsp := span_stop isNum l m h.dig hs
  have hlen : (l.take m).length = m := by rw [List.length_take]; have := h.len; omega
  unfold numT
  rw [hsp, hlen, h.val, if_neg]
  rintro (⟨h1, h2⟩ | h1)
  · exact h.head h1 h2
  · have := h.max; omega

set_option maxRecDepth 100000 in
set_option maxHeartbeats 1600000 in
theorem refNumber_any (s : ByteArray) (k : Nat) (w : World) (_hs : s.size ≤ 1000000) (_hk : k ≤ s.size) :
    Calls Tryz.prog 83 #[.string s, .int .i64 (k : Int)] w (RefTok (numT (restL s k)) k w) := by
  have HTK := Lib.hid (TkAt.zero w)
  go_enter Tryz.func83, Tryz.ntmps83
  go_wp2_with fail
  go_loopw [6, 7] (fun n p wr => ∃ (m : Nat) (v : Int), n = .int .i64 v ∧ p = .int .i64 ((k + m : Nat) : Int) ∧ k + m ≤ s.size ∧ Hid (NumSt (restL s k) m v) ∧ w.alloc (.cells zTok 54) = wr)
    (fun _ p _ => s.size - (intOf p).toNat)
  case atStart => exact ⟨0, 0, rfl, rfl, by omega, Lib.hid (numSt_zero _), rfl⟩
  case round =>
    obtain ⟨m, v, rfl, rfl, hkm, HN, rfl⟩ := hrel
    obtain ⟨p, hp⟩ : ∃ p : Nat, k + m = p := ⟨_, rfl⟩
    rw [hp]
    by_cases hlt : p < s.size
    · have hlt2 : (p : Int) < (s.size : Int) := by omega
      obtain ⟨a, ha⟩ : ∃ a : Int, (s[p].toNat : Int) = a := ⟨_, rfl⟩
      have ha1 : 0 ≤ a ∧ a ≤ 255 := by have := s[p].toNat_lt; omega
      have hat : (restL s k)[m]? = some a := by subst hp; rw [restL_at s k m hlt, ha]
      have hv0 := HN.out.pos
      have hv1 := HN.out.max
      cases hn : isNum a
      · have hN := numSt_end HN.out (fun x hx => by rw [hat] at hx; injection hx with hx; rw [← hx]; exact hn)
        clear hat
        have HNT := Lib.hid hN; clear hN
        go_wp2_with (first
          | (go_at_call 82; ((with_reducible refine (refDigit_any _ ?_ ?_ _).mono ?_); (first | omega | skip); (first | omega | skip); rintro e w' ⟨rfl, rfl⟩; rw [hn])))
        exact bodyPost_ret (out_tokn (TkAt.new w (({ Tk.zero with kind := 1, num := v } : Tk).goto k)) _ _ ((p : Int) - (k : Int)) 4 5 res_rnumber rfl rfl) rfl ⟨(Below.refl _ _).alloc (Nat.le_refl _) _, .inl ⟨_, m, HNT.out, by rw [show ((p : Int) - (k : Int)) = (m : Int) by omega]⟩⟩
      · have hnb := num_bd hn
        by_cases hbig : (9223372036854775807 - (a - 48)) / 10 < v
        · have HNT := Lib.hid (numSt_big HN.out hat hn (by omega))
          clear hat
          go_wp2_with (first
            | (go_at_call 82; ((with_reducible refine (refDigit_any _ ?_ ?_ _).mono ?_); (first | omega | skip); (first | omega | skip); rintro e w' ⟨rfl, rfl⟩; rw [hn])))
          exact bodyPost_ret (out_tokn (TkAt.zero w) _ _ 0 4 5 res_rnumber rfl rfl) rfl ⟨(Below.refl _ _).alloc (Nat.le_refl _) _, .inr ⟨HNT.out, _, rfl⟩⟩
        · have hsm : 10 * v + (a - 48) ≤ 9223372036854775807 := by omega
          by_cases hm : 0 < m
          · have hpk : (k : Int) < (p : Int) := by omega
            by_cases hv : v = 0
            · subst hv
              have HNT := Lib.hid (numSt_nought HN.out hm hat hn)
              clear hat
              go_wp2_with (first
                | (go_at_call 82; ((with_reducible refine (refDigit_any _ ?_ ?_ _).mono ?_); (first | omega | skip); (first | omega | skip); rintro e w' ⟨rfl, rfl⟩; rw [hn])))
              exact bodyPost_ret (out_tokn (TkAt.zero w) _ _ 0 4 5 res_rnumber rfl rfl) rfl ⟨(Below.refl _ _).alloc (Nat.le_refl _) _, .inr ⟨HNT.out, _, rfl⟩⟩
            · have hvb : (v == 0) = false := beq_eq_false_iff_ne.2 hv
              have HNX := Lib.hid (numSt_next HN.out hat hn hsm (fun _ => hv))
              clear hat
              go_wp2_with (first
                | (go_at_call 82; ((with_reducible refine (refDigit_any _ ?_ ?_ _).mono ?_); (first | omega | skip); (first | omega | skip); rintro e w' ⟨rfl, rfl⟩; rw [hn])))
              go_roundw
              case rel => exact ⟨m + 1, 10 * v + (a - 48), rfl, by rw [show ((p : Int) + 1) = ((k + (m + 1) : Nat) : Int) by omega], by omega, HNX, by trivial⟩
              case measure => simp [intOf]; omega
          · have hpk : ¬ (k : Int) < (p : Int) := by omega
            have HNX := Lib.hid (numSt_next HN.out hat hn hsm (fun h => absurd h hm))
            clear hat
            go_wp2_with (first
              | (go_at_call 82; ((with_reducible refine (refDigit_any _ ?_ ?_ _).mono ?_); (first | omega | skip); (first | omega | skip); rintro e w' ⟨rfl, rfl⟩; rw [hn])))
            go_roundw
            case rel => exact ⟨m + 1, 10 * v + (a - 48), rfl, by rw [show ((p : Int) + 1) = ((k + (m + 1) : Nat) : Int) by omega], by omega, HNX, by trivial⟩
            case measure => simp [intOf]; omega
    · have hlt2 : ¬ (p : Int) < (s.size : Int) := by omega
      have HNT := Lib.hid (numSt_end HN.out (fun x hx => by have h1 := (List.getElem?_eq_some_iff.1 hx).1; rw [length_restL] at h1; omega))
      go_wp2_with fail
      exact bodyPost_ret (out_tokn (TkAt.new w (({ Tk.zero with kind := 1, num := v } : Tk).goto k)) _ _ ((p : Int) - (k : Int)) 4 5 res_rnumber rfl rfl) rfl ⟨(Below.refl _ _).alloc (Nat.le_refl _) _, .inl ⟨_, m, HNT.out, by rw [show ((p : Int) - (k : Int)) = (m : Int) by omega]⟩⟩
end Go.Proofs.YtdfpalocnijefaaGreatDoor

/-
  Layer 4, the reference: words.
-/
namespace Go.Proofs.YtdfpalocnijefaaGreatDoor
open Go.RowKit

theorem called_bad (s : ByteArray) (k : Nat) (h : k < s.size) (hx : (isCap ((sb s).getD k 0) || isNum ((sb s).getD k 0)) = false) : calledL (sb s) = false := by
  unfold calledL; rw [Bool.and_eq_false_iff]; left; rw [decide_eq_false_iff_not]; intro hall
  have := hall ((sb s).getD k 0) (by rw [sb_getD s k h]; exact List.mem_of_getElem? (sb_at s k h))
  rw [hx] at this; cases this
theorem called_all (s : ByteArray) (h : ∀ j, j < s.size → (isCap ((sb s).getD j 0) || isNum ((sb s).getD j 0)) = true) : calledL (sb s) = (decide (1 ≤ s.size ∧ s.size ≤ 12) && isCap ((sb s).getD 0 0)) := by
  unfold calledL; rw [decide_eq_true (show ∀ x ∈ sb s, (isCap x || isNum x) = true from ?_), Bool.true_and, length_sb]
  intro x hx
  obtain ⟨j, hj, rfl⟩ := List.mem_iff_getElem.1 hx
  have := h j (by rw [length_sb] at hj; exact hj)
  rw [List.getD_eq_getElem?_getD, List.getElem?_eq_getElem hj] at this
  exact this
set_option maxRecDepth 100000 in
set_option maxHeartbeats 800000 in
theorem refCalled_any (s : ByteArray) (w : World) (_hs : s.size ≤ 1000000) :
    Calls Tryz.prog 57 #[.string s] w fun e w' => e = .returned (.bool (calledL (sb s))) ∧ w = w' := by
  go_enter Tryz.func57, Tryz.ntmps57
  go_wp2_with fail
  go_loopw [3] (fun i wr => ∃ k : Nat, k ≤ s.size ∧ i = .int .i64 k ∧ Hid (∀ j, j < k → (isCap ((sb s).getD j 0) || isNum ((sb s).getD j 0)) = true) ∧ w = wr)
    (fun i _ => s.size - (intOf i).toNat)
  case atStart => exact ⟨0, by omega, rfl, Lib.hid (by intro j hj; omega), rfl⟩
  case round =>
    obtain ⟨k, hk, rfl, HG, rfl⟩ := hrel
    by_cases hlt : k < s.size
    · have hki : (k : Int) < (s.size : Int) := by omega
      obtain ⟨a, ha⟩ : ∃ a : Int, (s[k].toNat : Int) = a := ⟨_, rfl⟩
      have ha1 : 0 ≤ a ∧ a ≤ 255 := by have := s[k].toNat_lt; omega
      have HGB := Lib.hid (show (sb s).getD k 0 = a by rw [sb_getD s k hlt, ha])
      have hnext : (isCap a || isNum a) = true → ∀ j, j < k + 1 → (isCap ((sb s).getD j 0) || isNum ((sb s).getD j 0)) = true := by
        intro h j hj
        by_cases h1 : j < k
        · exact HG.out j h1
        · rw [show j = k from by omega, HGB.out]; exact h
      have HNEXT := Lib.hid hnext; clear hnext
      cases hc : isCap a
      · cases hn : isNum a
        · have HNO := Lib.hid (called_bad s k hlt (by rw [HGB.out, hc, hn]; rfl))
          go_wp2_with (first
            | (go_at_call 95; ((with_reducible refine (refCapital_any _ ?_ ?_ _).mono ?_); (first | omega | skip); (first | omega | skip); rintro e w' ⟨rfl, rfl⟩; rw [hc]))
            | (go_at_call 82; ((with_reducible refine (refDigit_any _ ?_ ?_ _).mono ?_); (first | omega | skip); (first | omega | skip); rintro e w' ⟨rfl, rfl⟩; rw [hn])))
          go_ret
          exact ⟨ret_bool HNO.out.symm, rfl⟩
        · go_wp2_with (first
            | (go_at_call 95; ((with_reducible refine (refCapital_any _ ?_ ?_ _).mono ?_); (first | omega | skip); (first | omega | skip); rintro e w' ⟨rfl, rfl⟩; rw [hc]))
            | (go_at_call 82; ((with_reducible refine (refDigit_any _ ?_ ?_ _).mono ?_); (first | omega | skip); (first | omega | skip); rintro e w' ⟨rfl, rfl⟩; rw [hn])))
          go_roundw
          case rel => exact ⟨k + 1, by omega, by go_num, Lib.hid (HNEXT.out (by rw [hc, hn]; rfl)), by trivial⟩
          case measure => simp [intOf]; omega
      · go_wp2_with (first
          | (go_at_call 95; ((with_reducible refine (refCapital_any _ ?_ ?_ _).mono ?_); (first | omega | skip); (first | omega | skip); rintro e w' ⟨rfl, rfl⟩; rw [hc])))
        go_roundw
        case rel => exact ⟨k + 1, by omega, by go_num, Lib.hid (HNEXT.out (by rw [hc]; rfl)), by trivial⟩
        case measure => simp [intOf]; omega
    · have hki : ¬ (k : Int) < (s.size : Int) := by omega
      have HA := Lib.hid (called_all s (fun j hj => HG.out j (by omega)))
      by_cases h1 : 1 ≤ s.size ∧ s.size ≤ 12
      · have hi1 : (1 : Int) ≤ (s.size : Int) := by omega
        have hi2 : (s.size : Int) ≤ 12 := by omega
        have hp0 : 0 < s.size := by omega
        obtain ⟨a, ha⟩ : ∃ a : Int, (s[0].toNat : Int) = a := ⟨_, rfl⟩
        have ha1 : 0 ≤ a ∧ a ≤ 255 := by have := s[0].toNat_lt; omega
        rw [decide_eq_true h1, Bool.true_and, sb_getD s 0 hp0, ha] at HA
        go_wp2_with (first
          | (go_at_call 95; ((with_reducible refine (refCapital_any _ ?_ ?_ _).mono ?_); (first | omega | skip); (first | omega | skip); rintro e w' ⟨rfl, rfl⟩)))
        go_ret
        exact ⟨ret_bool HA.out.symm, rfl⟩
      · rw [decide_eq_false h1, Bool.false_and] at HA
        by_cases h0 : 1 ≤ s.size
        · have hi1 : (1 : Int) ≤ (s.size : Int) := by omega
          have hi2 : ¬ (s.size : Int) ≤ 12 := by omega
          go_wp2_with fail
          go_ret
          exact ⟨ret_bool HA.out.symm, rfl⟩
        · have hi1 : ¬ (1 : Int) ≤ (s.size : Int) := by omega
          go_wp2_with fail
          go_ret
          exact ⟨ret_bool HA.out.symm, rfl⟩
end Go.Proofs.YtdfpalocnijefaaGreatDoor

/-
  Layer 4, the reference: words, walked.
-/
namespace Go.Proofs.YtdfpalocnijefaaGreatDoor
open Go.RowKit

theorem ref_word (s : ByteArray) (k m p : Nat) (hp : k + m = p) (hkm : k + m ≤ s.size) (hall : ∀ x ∈ (restL s k).take m, isWord x = true) (hstop : ∀ x, (restL s k)[m]? = some x → isWord x = false) :
    wordT (restL s k) = match readS (s.extract k p) with
      | some d => some ({ Tk.zero with kind := 4, sh := d.sh, c := d.c, r := d.r, ac := d.ac, ar := d.ar }, m)
      | none => if calledL (sb (s.extract k p)) = true then some ({ Tk.zero with kind := 3, text := s.extract k p }, m) else none := by
  subst hp
  have hsp := span_stop isWord (restL s k) m hall hstop
  have hlen : ((restL s k).take m).length = m := by rw [List.length_take, length_restL]; omega
  have hc := restL_cut s k m
  have hb : sb (s.extract k (k + m)) = (restL s k).take m := by rw [hc]; exact sb_str _ (fun x hx => restL_bd s k x (List.mem_of_mem_take hx))
  rw [word_val _ _ hsp, hlen, ← hc, hb]
  rfl
theorem res_rword : Tryz.f86.results = #[.cell 4 54, .tmp 5] := by kernel_rfl
theorem word_noR {a : Int} (hl : isLet a = false) (hn : isNum a = false) (h36 : ¬ a = 36) (h33 : ¬ a = 33) : isWord a = false := by unfold isWord; rw [hl, hn, decide_eq_false (by omega)]; rfl
theorem word_l {a : Int} (hl : isLet a = true) : isWord a = true := by unfold isWord; rw [hl]; rfl
theorem word_n {a : Int} (hn : isNum a = true) : isWord a = true := by unfold isWord; rw [hn]; simp
theorem word_s {a : Int} (h : a = 36 ∨ a = 33) : isWord a = true := by unfold isWord; rw [decide_eq_true h]; simp

set_option maxRecDepth 100000 in
set_option maxHeartbeats 4000000 in
theorem refWord_any (s : ByteArray) (k : Nat) (w : World) (_hs : s.size ≤ 1000000) (_hk : k ≤ s.size) :
    Calls Tryz.prog 86 #[.string s, .int .i64 (k : Int)] w (RefTok (wordT (restL s k)) k w) := by
  have HTK := Lib.hid (TkAt.zero w)
  have HAL := Lib.hid (show Below w.heap.size w (w.alloc (.cells zTok 54)) from (Below.refl _ _).alloc (Nat.le_refl _) _)
  have hz0 : (0 : Int) ≤ (k : Int) := by omega
  go_enter Tryz.func86, Tryz.ntmps86
  go_wp2_with fail
  go_loopw [6] (fun i wr => ∃ (m : Nat), i = .int .i64 ((k + m : Nat) : Int) ∧ k + m ≤ s.size ∧ Hid (∀ x ∈ (restL s k).take m, isWord x = true) ∧ w.alloc (.cells zTok 54) = wr)
    (fun i _ => s.size - (intOf i).toNat)
  case atStart => exact ⟨0, rfl, by omega, Lib.hid (by simp), rfl⟩
  case round =>
    obtain ⟨m, rfl, hkm, HM, rfl⟩ := hrel
    obtain ⟨p, hp⟩ : ∃ p : Nat, k + m = p := ⟨_, rfl⟩
    rw [hp]
    have hz1 : (k : Int) ≤ (p : Int) := by omega
    have hz2 : (p : Int) ≤ (s.size : Int) := by omega
    by_cases hlt : p < s.size
    · have hlt2 : (p : Int) < (s.size : Int) := by omega
      obtain ⟨a, ha⟩ : ∃ a : Int, (s[p].toNat : Int) = a := ⟨_, rfl⟩
      have ha1 : 0 ≤ a ∧ a ≤ 255 := by have := s[p].toNat_lt; omega
      have hat : (restL s k)[m]? = some a := by subst hp; rw [restL_at s k m hlt, ha]
      have HTK1 := Lib.hid (take_snocR hat)
      have HAT := Lib.hid hat; clear hat
      cases hl : isLet a
      · cases hn : isNum a
        · by_cases h36 : a = 36
          · have hb36 : (a == 36) = true := beq_iff_eq.2 h36
            have HNX := Lib.hid (show ∀ x ∈ (restL s k).take (m + 1), isWord x = true by rw [HTK1.out]; exact all_snoc HM.out (word_s (.inl h36)))
            clear h36
            go_wp2_with (first
              | (go_at_call 85; ((with_reducible refine (refLetter_any _ ?_ ?_ _).mono ?_); (first | omega | skip); (first | omega | skip); rintro e w' ⟨rfl, rfl⟩; rw [hl]))
              | (go_at_call 82; ((with_reducible refine (refDigit_any _ ?_ ?_ _).mono ?_); (first | omega | skip); (first | omega | skip); rintro e w' ⟨rfl, rfl⟩; rw [hn])))
            go_roundw
            case rel => exact ⟨m + 1, by rw [show ((p : Int) + 1) = ((k + (m + 1) : Nat) : Int) by omega], by omega, HNX, by trivial⟩
            case measure => simp [intOf]; omega
          · have hb36 : (a == 36) = false := beq_eq_false_iff_ne.2 h36
            by_cases h33 : a = 33
            · have hb33 : (a == 33) = true := beq_iff_eq.2 h33
              have HNX := Lib.hid (show ∀ x ∈ (restL s k).take (m + 1), isWord x = true by rw [HTK1.out]; exact all_snoc HM.out (word_s (.inr h33)))
              clear h33
              go_wp2_with (first
                | (go_at_call 85; ((with_reducible refine (refLetter_any _ ?_ ?_ _).mono ?_); (first | omega | skip); (first | omega | skip); rintro e w' ⟨rfl, rfl⟩; rw [hl]))
                | (go_at_call 82; ((with_reducible refine (refDigit_any _ ?_ ?_ _).mono ?_); (first | omega | skip); (first | omega | skip); rintro e w' ⟨rfl, rfl⟩; rw [hn])))
              go_roundw
              case rel => exact ⟨m + 1, by rw [show ((p : Int) + 1) = ((k + (m + 1) : Nat) : Int) by omega], by omega, HNX, by trivial⟩
              case measure => simp [intOf]; omega
            · have hb33 : (a == 33) = false := beq_eq_false_iff_ne.2 h33
              have HSTOP := Lib.hid (show ∀ x, (restL s k)[m]? = some x → isWord x = false from fun x hx => by rw [HAT.out] at hx; injection hx with hx; rw [← hx]; exact word_noR hl hn h36 h33)
              clear h36 h33 HTK1
              have hval := ref_word s k m p hp hkm HM.out HSTOP.out
              obtain ⟨D, hD⟩ : ∃ D, s.extract k p = D := ⟨_, rfl⟩
              rw [hD] at hval
              have hDz : D.size ≤ 1000000 := by rw [← hD, ByteArray.size_extract]; omega
              cases hq : readS D with
              | some d =>
                rw [hq] at hval
                have HN := Lib.hid hval; clear hval
                have HSY := Lib.hid (fun (e : Ending) (he : Says (sb D) e) => says_some hq he); clear hq
                go_upto_region 6 with (first
                  | (go_at_call 85; ((with_reducible refine (refLetter_any _ ?_ ?_ _).mono ?_); (first | omega | skip); (first | omega | skip); rintro e w' ⟨rfl, rfl⟩; rw [hl])) | (go_at_call 82; ((with_reducible refine (refDigit_any _ ?_ ?_ _).mono ?_); (first | omega | skip); (first | omega | skip); rintro e w' ⟨rfl, rfl⟩; rw [hn]))
                  | (go_at_call 56; ((with_reducible refine (refRead_any D _ ?_).mono ?_); (first | omega | skip); rintro e w2 ⟨h1, h2⟩; obtain rfl := HSY.out e h1; clear h1; have H3 := Lib.hid h2; clear h2; have HT2 := Lib.hid (HTK.out.below H3.out HTK.out.lt))))
                have hR3 := RefAt.new w2 d.sh d.c d.r d.ac d.ar
                have hB3 : Below w2.heap.size w2 (w2.alloc (.cells #[.string d.sh, .int .i64 d.c, .int .i64 d.r, .bool d.ac, .bool d.ar] 35)) := (Below.refl _ _).alloc (Nat.le_refl _) _
                have HT3 := Lib.hid (HT2.out.below hB3 HT2.out.lt)
                have HG3 := Lib.hid (HAL.out.trans ((Below.of _ _ _ H3.out hB3).mono HAL.out.size))
                clear hB3
                generalize w2.alloc (.cells #[.string d.sh, .int .i64 d.c, .int .i64 d.r, .bool d.ac, .bool d.ar] 35) = w3 at hR3 HT3 HG3 ⊢
                obtain ⟨x0, x1, x2, x3, x4, x5, x6, x7, x8⟩ := HT3.out.cells
                obtain ⟨f0, f1, f2, f3, f4, f5, f6, f7, f8⟩ := HT3.out.melts
                obtain ⟨y0, y1, y2, y3, y4⟩ := hR3.facts
                clear hR3
                go_wp2_with fail
                exact bodyPost_ret (out_tokn (HT3.out.put9 (({ Tk.zero with kind := 4, sh := d.sh, c := d.c, r := d.r, ac := d.ac, ar := d.ar } : Tk).goto k)) _ _ ((p : Int) - (k : Int)) 4 5 res_rword rfl rfl) rfl ⟨below_set9r HG3.out (Nat.le_refl _) _ _ _ _ _ _ _ _ _, .inl ⟨_, m, HN.out, by rw [show ((p : Int) - (k : Int)) = (m : Int) by omega]⟩⟩
              | none =>
                rw [hq] at hval
                have HSY := Lib.hid (fun (e : Ending) (he : Says (sb D) e) => says_none hq he); clear hq
                cases hnm : calledL (sb D)
                all_goals
                  rw [hnm] at hval
                  have HN := Lib.hid hval; clear hval
                  have HNM := Lib.hid hnm; clear hnm
                  go_upto_region 7 with (first
                    | (go_at_call 85; ((with_reducible refine (refLetter_any _ ?_ ?_ _).mono ?_); (first | omega | skip); (first | omega | skip); rintro e w' ⟨rfl, rfl⟩; rw [hl])) | (go_at_call 82; ((with_reducible refine (refDigit_any _ ?_ ?_ _).mono ?_); (first | omega | skip); (first | omega | skip); rintro e w' ⟨rfl, rfl⟩; rw [hn]))
                    | (go_at_call 56; ((with_reducible refine (refRead_any D _ ?_).mono ?_); (first | omega | skip); rintro e w2 ⟨h1, h2⟩; obtain rfl := HSY.out e h1; clear h1; have H3 := Lib.hid h2; clear h2; have HT2 := Lib.hid (HTK.out.below H3.out HTK.out.lt))))
                  have hB3 : Below w2.heap.size w2 (w2.alloc (.cells #[.string ⟨#[]⟩, .int .i64 0, .int .i64 0, .bool false, .bool false] 35)) := (Below.refl _ _).alloc (Nat.le_refl _) _
                  have HT3 := Lib.hid (HT2.out.below hB3 HT2.out.lt)
                  have HG3 := Lib.hid (HAL.out.trans ((Below.of _ _ _ H3.out hB3).mono HAL.out.size))
                  clear hB3
                  generalize w2.alloc (.cells #[.string ⟨#[]⟩, .int .i64 0, .int .i64 0, .bool false, .bool false] 35) = w3 at HT3 HG3 ⊢
                  obtain ⟨x0, x1, x2, x3, x4, x5, x6, x7, x8⟩ := HT3.out.cells
                  obtain ⟨f0, f1, f2, f3, f4, f5, f6, f7, f8⟩ := HT3.out.melts
                  go_wp2_with (go_at_call 57; ((with_reducible refine (refCalled_any D _ ?_).mono ?_); (first | omega | skip); rintro e w4 ⟨rfl, rfl⟩; rw [HNM.out]))
                · exact bodyPost_ret (out_tokn (HT3.out.put9 Tk.zero) _ _ 0 4 5 res_rword rfl rfl) rfl ⟨below_set9r HG3.out (Nat.le_refl _) _ _ _ _ _ _ _ _ _, .inr ⟨HN.out, Tk.zero, rfl⟩⟩
                · exact bodyPost_ret (out_tokn (HT3.out.put9 (({ Tk.zero with kind := 3, text := D } : Tk).goto k)) _ _ ((p : Int) - (k : Int)) 4 5 res_rword rfl rfl) rfl ⟨below_set9r HG3.out (Nat.le_refl _) _ _ _ _ _ _ _ _ _, .inl ⟨_, m, HN.out, by rw [show ((p : Int) - (k : Int)) = (m : Int) by omega]⟩⟩
        · skip
          have HNX := Lib.hid (show ∀ x ∈ (restL s k).take (m + 1), isWord x = true by rw [HTK1.out]; exact all_snoc HM.out (word_n hn))
          skip
          go_wp2_with (first
            | (go_at_call 85; ((with_reducible refine (refLetter_any _ ?_ ?_ _).mono ?_); (first | omega | skip); (first | omega | skip); rintro e w' ⟨rfl, rfl⟩; rw [hl]))
            | (go_at_call 82; ((with_reducible refine (refDigit_any _ ?_ ?_ _).mono ?_); (first | omega | skip); (first | omega | skip); rintro e w' ⟨rfl, rfl⟩; rw [hn])))
          go_roundw
          case rel => exact ⟨m + 1, by rw [show ((p : Int) + 1) = ((k + (m + 1) : Nat) : Int) by omega], by omega, HNX, by trivial⟩
          case measure => simp [intOf]; omega
      · skip
        have HNX := Lib.hid (show ∀ x ∈ (restL s k).take (m + 1), isWord x = true by rw [HTK1.out]; exact all_snoc HM.out (word_l hl))
        skip
        go_wp2_with (first
          | (go_at_call 85; ((with_reducible refine (refLetter_any _ ?_ ?_ _).mono ?_); (first | omega | skip); (first | omega | skip); rintro e w' ⟨rfl, rfl⟩; rw [hl])))
        go_roundw
        case rel => exact ⟨m + 1, by rw [show ((p : Int) + 1) = ((k + (m + 1) : Nat) : Int) by omega], by omega, HNX, by trivial⟩
        case measure => simp [intOf]; omega
    · have hlt2 : ¬ (p : Int) < (s.size : Int) := by omega
      have HSTOP := Lib.hid (show ∀ x, (restL s k)[m]? = some x → isWord x = false from fun x hx => by have h1 := (List.getElem?_eq_some_iff.1 hx).1; rw [length_restL] at h1; omega)
      have hval := ref_word s k m p hp hkm HM.out HSTOP.out
      obtain ⟨D, hD⟩ : ∃ D, s.extract k p = D := ⟨_, rfl⟩
      rw [hD] at hval
      have hDz : D.size ≤ 1000000 := by rw [← hD, ByteArray.size_extract]; omega
      cases hq : readS D with
      | some d =>
        rw [hq] at hval
        have HN := Lib.hid hval; clear hval
        have HSY := Lib.hid (fun (e : Ending) (he : Says (sb D) e) => says_some hq he); clear hq
        go_upto_region 6 with (first
                | (go_at_call 56; ((with_reducible refine (refRead_any D _ ?_).mono ?_); (first | omega | skip); rintro e w2 ⟨h1, h2⟩; obtain rfl := HSY.out e h1; clear h1; have H3 := Lib.hid h2; clear h2; have HT2 := Lib.hid (HTK.out.below H3.out HTK.out.lt))))
        have hR3 := RefAt.new w2 d.sh d.c d.r d.ac d.ar
        have hB3 : Below w2.heap.size w2 (w2.alloc (.cells #[.string d.sh, .int .i64 d.c, .int .i64 d.r, .bool d.ac, .bool d.ar] 35)) := (Below.refl _ _).alloc (Nat.le_refl _) _
        have HT3 := Lib.hid (HT2.out.below hB3 HT2.out.lt)
        have HG3 := Lib.hid (HAL.out.trans ((Below.of _ _ _ H3.out hB3).mono HAL.out.size))
        clear hB3
        generalize w2.alloc (.cells #[.string d.sh, .int .i64 d.c, .int .i64 d.r, .bool d.ac, .bool d.ar] 35) = w3 at hR3 HT3 HG3 ⊢
        obtain ⟨x0, x1, x2, x3, x4, x5, x6, x7, x8⟩ := HT3.out.cells
        obtain ⟨f0, f1, f2, f3, f4, f5, f6, f7, f8⟩ := HT3.out.melts
        obtain ⟨y0, y1, y2, y3, y4⟩ := hR3.facts
        clear hR3
        go_wp2_with fail
        exact bodyPost_ret (out_tokn (HT3.out.put9 (({ Tk.zero with kind := 4, sh := d.sh, c := d.c, r := d.r, ac := d.ac, ar := d.ar } : Tk).goto k)) _ _ ((p : Int) - (k : Int)) 4 5 res_rword rfl rfl) rfl ⟨below_set9r HG3.out (Nat.le_refl _) _ _ _ _ _ _ _ _ _, .inl ⟨_, m, HN.out, by rw [show ((p : Int) - (k : Int)) = (m : Int) by omega]⟩⟩
      | none =>
        rw [hq] at hval
        have HSY := Lib.hid (fun (e : Ending) (he : Says (sb D) e) => says_none hq he); clear hq
        cases hnm : calledL (sb D)
        all_goals
          rw [hnm] at hval
          have HN := Lib.hid hval; clear hval
          have HNM := Lib.hid hnm; clear hnm
          go_upto_region 7 with (first
                    | (go_at_call 56; ((with_reducible refine (refRead_any D _ ?_).mono ?_); (first | omega | skip); rintro e w2 ⟨h1, h2⟩; obtain rfl := HSY.out e h1; clear h1; have H3 := Lib.hid h2; clear h2; have HT2 := Lib.hid (HTK.out.below H3.out HTK.out.lt))))
          have hB3 : Below w2.heap.size w2 (w2.alloc (.cells #[.string ⟨#[]⟩, .int .i64 0, .int .i64 0, .bool false, .bool false] 35)) := (Below.refl _ _).alloc (Nat.le_refl _) _
          have HT3 := Lib.hid (HT2.out.below hB3 HT2.out.lt)
          have HG3 := Lib.hid (HAL.out.trans ((Below.of _ _ _ H3.out hB3).mono HAL.out.size))
          clear hB3
          generalize w2.alloc (.cells #[.string ⟨#[]⟩, .int .i64 0, .int .i64 0, .bool false, .bool false] 35) = w3 at HT3 HG3 ⊢
          obtain ⟨x0, x1, x2, x3, x4, x5, x6, x7, x8⟩ := HT3.out.cells
          obtain ⟨f0, f1, f2, f3, f4, f5, f6, f7, f8⟩ := HT3.out.melts
          go_wp2_with (go_at_call 57; ((with_reducible refine (refCalled_any D _ ?_).mono ?_); (first | omega | skip); rintro e w4 ⟨rfl, rfl⟩; rw [HNM.out]))
        · exact bodyPost_ret (out_tokn (HT3.out.put9 Tk.zero) _ _ 0 4 5 res_rword rfl rfl) rfl ⟨below_set9r HG3.out (Nat.le_refl _) _ _ _ _ _ _ _ _ _, .inr ⟨HN.out, Tk.zero, rfl⟩⟩
        · exact bodyPost_ret (out_tokn (HT3.out.put9 (({ Tk.zero with kind := 3, text := D } : Tk).goto k)) _ _ ((p : Int) - (k : Int)) 4 5 res_rword rfl rfl) rfl ⟨below_set9r HG3.out (Nat.le_refl _) _ _ _ _ _ _ _ _ _, .inl ⟨_, m, HN.out, by rw [show ((p : Int) - (k : Int)) = (m : Int) by omega]⟩⟩
end Go.Proofs.YtdfpalocnijefaaGreatDoor

/-
  Layer 5, the reference: what a node's fields may be.
-/
namespace Go.Proofs.YtdfpalocnijefaaGreatDoor
open Go.RowKit

set_option maxHeartbeats 800000 in
theorem refArms_any (k : Int) (w : World) : Calls Tryz.prog 31 #[.int .i64 k] w fun e w' => e = .returned (.int .i64 (armsN k)) ∧ w = w' := by
  have fin : ∀ r : Int, armsN k = r → (Calls Tryz.prog 31 #[.int .i64 k] w fun e w' => e = .returned (.int .i64 r) ∧ w = w') → Calls Tryz.prog 31 #[.int .i64 k] w fun e w' => e = .returned (.int .i64 (armsN k)) ∧ w = w' := fun r h g => by rw [h]; exact g
  by_cases h1 : 1 ≤ k
  · by_cases h6 : k ≤ 6
    · refine fin 0 (by unfold armsN; rw [if_pos ⟨h1, h6⟩]) ?_
      go_enter Tryz.func31, Tryz.ntmps31
      go_wp2_with fail
      go_ret
      exact ⟨rfl, rfl⟩
    · by_cases h7 : k = 7
      · have e7 : (k == 7) = true := beq_iff_eq.2 h7
        refine fin (-1) (by unfold armsN; rw [if_neg (by omega), if_pos h7]) ?_
        clear h7
        go_enter Tryz.func31, Tryz.ntmps31
        go_wp2_with fail
        go_ret
        exact ⟨rfl, rfl⟩
      · have e7 : (k == 7) = false := beq_eq_false_iff_ne.2 h7
        by_cases h8 : k = 8
        · have e8 : (k == 8) = true := beq_iff_eq.2 h8
          refine fin 1 (by unfold armsN; rw [if_neg (by omega), if_neg h7, if_pos h8]) ?_
          clear h7 h8
          go_enter Tryz.func31, Tryz.ntmps31
          go_wp2_with fail
          go_ret
          exact ⟨rfl, rfl⟩
        · have e8 : (k == 8) = false := beq_eq_false_iff_ne.2 h8
          have h9 : 9 ≤ k := by omega
          by_cases h19 : k ≤ 19
          · refine fin 2 (by unfold armsN; rw [if_neg (by omega), if_neg h7, if_neg h8, if_pos ⟨h9, h19⟩]) ?_
            clear h7 h8
            go_enter Tryz.func31, Tryz.ntmps31
            go_wp2_with fail
            go_ret
            exact ⟨rfl, rfl⟩
          · refine fin (-2) (by unfold armsN; rw [if_neg (by omega), if_neg h7, if_neg h8, if_neg (by omega)]) ?_
            clear h7 h8
            go_enter Tryz.func31, Tryz.ntmps31
            go_wp2_with fail
            go_ret
            exact ⟨rfl, rfl⟩
  · have e7 : (k == 7) = false := beq_eq_false_iff_ne.2 (by omega)
    have e8 : (k == 8) = false := beq_eq_false_iff_ne.2 (by omega)
    have h9 : ¬ 9 ≤ k := by omega
    refine fin (-2) (by unfold armsN; rw [if_neg (by omega), if_neg (by omega), if_neg (by omega), if_neg (by omega)]) ?_
    go_enter Tryz.func31, Tryz.ntmps31
    go_wp2_with fail
    go_ret
    exact ⟨rfl, rfl⟩
theorem eqR_no {a b : Rf} (h : ¬ eqR a b = true) : eqR a b = false := by cases hq : eqR a b <;> first | rfl | exact absurd hq h
set_option maxRecDepth 100000 in
set_option maxHeartbeats 800000 in
theorem refNoRef_any (f : Rf) (w : World) : Calls Tryz.prog 54 #[.agg #[.string f.sh, .int .i64 f.c, .int .i64 f.r, .bool f.ac, .bool f.ar]] w fun e w' => e = .returned (.bool (noRf f)) ∧ Below w.heap.size w w' := by
  have HN := Lib.hid (noRf_eq f)
  have hx := RefAt.new w f.sh f.c f.r f.ac f.ar
  have HB := Lib.hid ((Below.refl w.heap.size w).alloc (Nat.le_refl _) (.cells #[.string f.sh, .int .i64 f.c, .int .i64 f.r, .bool f.ac, .bool f.ar] 35))
  go_enter Tryz.func54, Tryz.ntmps54
  go_upto_region 1 with (fail)
  generalize w.alloc (.cells #[.string f.sh, .int .i64 f.c, .int .i64 f.r, .bool f.ac, .bool f.ar] 35) = w1 at hx HB ⊢
  obtain ⟨x0, x1, x2, x3, x4⟩ := hx.facts
  clear hx
  have HEQ := Lib.hid (fun (h1 : f.sh.toList = []) (h2 : f.c = 0) (h3 : f.r = 0) (h4 : f.ac = false) (h5 : f.ar = false) => (eqR_of (a := f) (b := Rf.zero) (h1.trans empty_list.symm) h2 h3 h4 h5))
  go_wp2_with fail
  all_goals go_ret
  all_goals first
    | (have hv : eqR f Rf.zero = true := HEQ.out ‹f.sh.toList = []› ‹f.c = 0› ‹f.r = 0› (by simpa using ‹¬ f.ac = true›) (by simpa using ‹¬ f.ar = true›)
       exact ⟨by rw [HN.out, hv]; rfl, HB.out⟩)
    | (have hv : eqR f Rf.zero = false := by
         cases hq : eqR f Rf.zero
         · rfl
         · exfalso
           have hz := (eqR_iff f Rf.zero).1 hq
           clear x0 x1 x2 x3 x4 HEQ HN hq
           subst hz
           first
             | exact absurd (show Rf.zero.sh.toList = [] from empty_list) ‹¬ Rf.zero.sh.toList = []›
             | exact absurd (show Rf.zero.c = 0 from rfl) ‹¬ Rf.zero.c = 0›
             | exact absurd (show Rf.zero.r = 0 from rfl) ‹¬ Rf.zero.r = 0›
             | exact absurd ‹Rf.zero.ac = true› (by decide)
             | exact absurd ‹Rf.zero.ar = true› (by decide)
       exact ⟨by rw [HN.out, hv]; rfl, HB.out⟩)
end Go.Proofs.YtdfpalocnijefaaGreatDoor

/-
  Layer 5, the reference: what a node's fields may be, kind by kind.
-/
namespace Go.Proofs.YtdfpalocnijefaaGreatDoor
open Go.RowKit

set_option maxRecDepth 100000 in
set_option maxHeartbeats 800000 in
theorem refPrintable_any (s : ByteArray) (w : World) (_hs : s.size ≤ 1000000) : Calls Tryz.prog 55 #[.string s] w fun e w' => e = .returned (.bool (printB (sb s))) ∧ w = w' := by
  go_enter Tryz.func55, Tryz.ntmps55
  go_wp2_with fail
  go_loopw [3] (fun i wr => ∃ k : Nat, k ≤ s.size ∧ i = .int .i64 k ∧ Hid (∀ (j : Nat) (hj : j < s.size), j < k → ¬ ((s[j].toNat : Nat) : Int) < 32) ∧ w = wr)
    (fun i _ => s.size - (intOf i).toNat)
  case atStart => exact ⟨0, by omega, rfl, Lib.hid (by intro j _ hj; omega), rfl⟩
  case round =>
    obtain ⟨k, hk, rfl, HG, rfl⟩ := hrel
    by_cases hlt : k < s.size
    · have hki : (k : Int) < (s.size : Int) := by omega
      obtain ⟨a, ha⟩ : ∃ a : Int, (s[k].toNat : Int) = a := ⟨_, rfl⟩
      have ha1 : 0 ≤ a ∧ a ≤ 255 := by have := s[k].toNat_lt; omega
      have HA := Lib.hid ha
      by_cases h32 : a < 32
      · have HB := Lib.hid (printB_bad s k hlt (by rw [ha]; exact h32))
        go_wp2_with fail
        go_ret
        exact ⟨by rw [HB.out] <;> rfl, rfl⟩
      · go_wp2_with fail
        go_roundw
        case rel =>
          refine ⟨k + 1, by omega, by go_num, Lib.hid ?_, by first | rfl | trivial⟩
          intro j hj hjk
          by_cases e : j = k
          · subst e; rw [HA.out]; exact h32
          · exact HG.out j hj (by omega)
        case measure => simp [intOf]; omega
    · have hki : ¬ (k : Int) < (s.size : Int) := by omega
      have HB := Lib.hid (printB_all s (fun j hj => HG.out j hj (by omega)))
      go_wp2_with fail
      go_ret
      exact ⟨by rw [HB.out] <;> rfl, rfl⟩

set_option maxRecDepth 100000 in
set_option maxHeartbeats 800000 in
theorem refSpan_any (s1 s2 : ByteArray) (c1 r1 c2 r2 : Int) (a1 b1 a2 b2 : Bool) (w : World) :
    Calls Tryz.prog 59 #[.agg #[.string s1, .int .i64 c1, .int .i64 r1, .bool a1, .bool b1], .agg #[.string s2, .int .i64 c2, .int .i64 r2, .bool a2, .bool b2]] w fun e w' => e = .returned (.bool (spanB ⟨s1, c1, r1, a1, b1⟩ ⟨s2, c2, r2, a2, b2⟩)) ∧ Below w.heap.size w w' := by
  have hsz : (w.alloc (.cells #[.string s1, .int .i64 c1, .int .i64 r1, .bool a1, .bool b1] 35)).heap.size = w.heap.size + 1 := by simp
  have h1 := RefAt.new w s1 c1 r1 a1 b1
  have h2 := RefAt.new (w.alloc (.cells #[.string s1, .int .i64 c1, .int .i64 r1, .bool a1, .bool b1] 35)) s2 c2 r2 a2 b2
  have h3 := h1.below ((Below.refl _ _).alloc (Nat.le_refl _) (.cells #[.string s2, .int .i64 c2, .int .i64 r2, .bool a2, .bool b2] 35)) h1.lt
  rw [hsz] at h2
  have HB := Lib.hid (((Below.refl w.heap.size w).alloc (Nat.le_refl _) (.cells #[.string s1, .int .i64 c1, .int .i64 r1, .bool a1, .bool b1] 35)).alloc (by simp) (.cells #[.string s2, .int .i64 c2, .int .i64 r2, .bool a2, .bool b2] 35))
  have HS := Lib.hid (show spanB ⟨s1, c1, r1, a1, b1⟩ ⟨s2, c2, r2, a2, b2⟩ = (decide (s2 = ⟨#[]⟩) && (decide (c1 ≤ c2) && decide (r1 ≤ r2))) from rfl)
  clear h1
  go_enter Tryz.func59, Tryz.ntmps59
  go_upto_region 1 with (fail)
  generalize (w.alloc (.cells #[.string s1, .int .i64 c1, .int .i64 r1, .bool a1, .bool b1] 35)).alloc (.cells #[.string s2, .int .i64 c2, .int .i64 r2, .bool a2, .bool b2] 35) = w1 at h2 h3 HB ⊢
  obtain ⟨x0, x1, x2, x3, x4⟩ := h2.facts
  obtain ⟨y0, y1, y2, y3, y4⟩ := h3.facts
  clear h2 h3
  by_cases hs : s2 = ⟨#[]⟩
  · subst hs
    have e0 := empty_list
    by_cases hc : c1 ≤ c2
    · by_cases hr : r1 ≤ r2
      · have HT := Lib.hid (show spanB ⟨s1, c1, r1, a1, b1⟩ ⟨⟨#[]⟩, c2, r2, a2, b2⟩ = true by rw [HS.out, decide_eq_true hc, decide_eq_true hr]; rfl)
        go_wp2_with fail
        go_ret
        exact ⟨by rw [HT.out]; rfl, HB.out⟩
      · have HT := Lib.hid (show spanB ⟨s1, c1, r1, a1, b1⟩ ⟨⟨#[]⟩, c2, r2, a2, b2⟩ = false by rw [HS.out, decide_eq_true hc, decide_eq_false hr]; rfl)
        go_wp2_with fail
        go_ret
        exact ⟨by rw [HT.out]; rfl, HB.out⟩
    · have HT := Lib.hid (show spanB ⟨s1, c1, r1, a1, b1⟩ ⟨⟨#[]⟩, c2, r2, a2, b2⟩ = false by rw [HS.out, decide_eq_false hc]; rfl)
      go_wp2_with fail
      go_ret
      exact ⟨by rw [HT.out]; rfl, HB.out⟩
  · have HT := Lib.hid (show spanB ⟨s1, c1, r1, a1, b1⟩ ⟨s2, c2, r2, a2, b2⟩ = false by rw [HS.out, decide_eq_false hs]; rfl)
    have e0 : ¬ s2.toList = [] := by rw [← empty_list]; exact text_ne _ _ hs
    have e1 : s2.toList.isEmpty = false := by simpa using e0
    clear hs
    go_wp2_with fail
    go_ret
    exact ⟨by rw [HT.out]; rfl, HB.out⟩

set_option maxRecDepth 100000 in
set_option maxHeartbeats 2000000 in
theorem refLeaf_1 (n : Nd) (hk : n.kind = 1) (_hs : n.text.size ≤ 1000000) (_hr : n.ref.sh.size ≤ 1000000) (_ht : n.to.sh.size ≤ 1000000) (A : Option Addr) (m c : Nat) (w : World) : Calls Tryz.prog 32 #[.agg #[.int .i64 n.kind, .int .i64 n.num, .string n.text, .string n.ref.sh, .int .i64 n.ref.c, .int .i64 n.ref.r, .bool n.ref.ac, .bool n.ref.ar, .string n.to.sh, .int .i64 n.to.c, .int .i64 n.to.r, .bool n.to.ac, .bool n.to.ar, .slice A m c]] w fun e w' => e = .returned (.bool (leafB n)) ∧ Below w.heap.size w w' := by
  have hx : NdAt (w.alloc (.cells #[.int .i64 n.kind, .int .i64 n.num, .string n.text, .string n.ref.sh, .int .i64 n.ref.c, .int .i64 n.ref.r, .bool n.ref.ac, .bool n.ref.ar, .string n.to.sh, .int .i64 n.to.c, .int .i64 n.to.r, .bool n.to.ac, .bool n.to.ar, .slice A m c] 38)) w.heap.size n (.slice A m c) := NdAt.new w n _
  have HB := Lib.hid ((Below.refl w.heap.size w).alloc (Nat.le_refl _) (.cells #[.int .i64 n.kind, .int .i64 n.num, .string n.text, .string n.ref.sh, .int .i64 n.ref.c, .int .i64 n.ref.r, .bool n.ref.ac, .bool n.ref.ar, .string n.to.sh, .int .i64 n.to.c, .int .i64 n.to.r, .bool n.to.ac, .bool n.to.ar, .slice A m c] 38))
  have HN1 := Lib.hid (fun w => refNoRef_any n.ref w)
  have HN2 := Lib.hid (fun w => refNoRef_any n.to w)
  have HK := Lib.hid hk
  clear hk
  go_enter Tryz.func32, Tryz.ntmps32
  go_upto_region 1 with (fail)
  generalize w.alloc (.cells #[.int .i64 n.kind, .int .i64 n.num, .string n.text, .string n.ref.sh, .int .i64 n.ref.c, .int .i64 n.ref.r, .bool n.ref.ac, .bool n.ref.ar, .string n.to.sh, .int .i64 n.to.c, .int .i64 n.to.r, .bool n.to.ac, .bool n.to.ar, .slice A m c] 38) = w1 at hx HB ⊢
  generalize hb0 : w.heap.size = b0 at hx ⊢
  obtain ⟨x0, x1, x2, x3, x4, x5, x6, x7, x8, x9, x10, x11, x12, x13⟩ := hx.cells
  have HX := Lib.hid hx
  clear hx
  have hk := HK.out
  rw [hk] at x0
  by_cases htext : n.text = ⟨#[]⟩
  rotate_left
  · have t0 : ¬ n.text.toList = [] := by rw [← empty_list]; exact text_ne _ _ htext
    have t1 : n.text.toList.isEmpty = false := by simpa using t0
    have HR := Lib.hid (show leafB n = false by unfold leafB; simp [hk, htext])
    clear htext
    clear hk
    go_wp2_with (fail)
    go_ret
    exact ⟨by rw [HR.out] <;> rfl, HB.out⟩
  have t0 := empty_list
  rw [htext] at x2
  cases hq1 : noRf n.ref
  · have HQref := Lib.hid hq1
    have HR := Lib.hid (show leafB n = false by unfold leafB; simp [hk, htext, hq1])
    clear hq1
    clear htext
    clear hk
    go_wp2_with ((go_at_call 54; ((with_reducible refine (HN1.out _).mono ?_); rintro e w2 ⟨rfl, h1⟩; rw [HQref.out]; have HB2 := Lib.hid (HB.out.trans (h1.mono HB.out.size)); have HX2 := Lib.hid (HX.out.below h1 HX.out.lt); clear x0 x1 x2 x3 x4 x5 x6 x7 x8 x9 x10 x11 x12 x13; obtain ⟨x0, x1, x2, x3, x4, x5, x6, x7, x8, x9, x10, x11, x12, x13⟩ := HX2.out.cells; rw [HK.out] at x0; clear h1)))
    go_ret
    exact ⟨by rw [HR.out] <;> rfl, HB2.out⟩
  have HQref := Lib.hid hq1
  cases hq2 : noRf n.to
  · have HQto := Lib.hid hq2
    have HR := Lib.hid (show leafB n = false by unfold leafB; simp [hk, htext, hq1, hq2])
    clear hq2
    clear htext
    clear hq1
    clear hk
    go_wp2_with (first
      | (go_at_call 54; ((with_reducible refine (HN1.out _).mono ?_); rintro e w2 ⟨rfl, h1⟩; rw [HQref.out]; have HB2 := Lib.hid (HB.out.trans (h1.mono HB.out.size)); have HX2 := Lib.hid (HX.out.below h1 HX.out.lt); clear x0 x1 x2 x3 x4 x5 x6 x7 x8 x9 x10 x11 x12 x13; obtain ⟨x0, x1, x2, x3, x4, x5, x6, x7, x8, x9, x10, x11, x12, x13⟩ := HX2.out.cells; rw [HK.out] at x0; clear h1; clear HN1))
      | (go_at_call 54; ((with_reducible refine (HN2.out _).mono ?_); rintro e w3 ⟨rfl, h1⟩; rw [HQto.out]; have HB3 := Lib.hid (HB2.out.trans (h1.mono HB2.out.size)); have HX3 := Lib.hid (HX2.out.below h1 HX2.out.lt); clear x0 x1 x2 x3 x4 x5 x6 x7 x8 x9 x10 x11 x12 x13; obtain ⟨x0, x1, x2, x3, x4, x5, x6, x7, x8, x9, x10, x11, x12, x13⟩ := HX3.out.cells; rw [HK.out] at x0; clear h1)))
    go_ret
    exact ⟨by rw [HR.out] <;> rfl, HB3.out⟩
  have HQto := Lib.hid hq2
  have HR := Lib.hid (show leafB n = decide (0 ≤ n.num) by unfold leafB; simp [hk, htext, hq1, hq2])
  clear htext
  clear hq1
  clear hq2
  clear hk
  go_wp2_with (first
    | (go_at_call 54; ((with_reducible refine (HN1.out _).mono ?_); rintro e w2 ⟨rfl, h1⟩; rw [HQref.out]; have HB2 := Lib.hid (HB.out.trans (h1.mono HB.out.size)); have HX2 := Lib.hid (HX.out.below h1 HX.out.lt); clear x0 x1 x2 x3 x4 x5 x6 x7 x8 x9 x10 x11 x12 x13; obtain ⟨x0, x1, x2, x3, x4, x5, x6, x7, x8, x9, x10, x11, x12, x13⟩ := HX2.out.cells; rw [HK.out] at x0; clear h1; clear HN1))
    | (go_at_call 54; ((with_reducible refine (HN2.out _).mono ?_); rintro e w3 ⟨rfl, h1⟩; rw [HQto.out]; have HB3 := Lib.hid (HB2.out.trans (h1.mono HB2.out.size)); have HX3 := Lib.hid (HX2.out.below h1 HX2.out.lt); clear x0 x1 x2 x3 x4 x5 x6 x7 x8 x9 x10 x11 x12 x13; obtain ⟨x0, x1, x2, x3, x4, x5, x6, x7, x8, x9, x10, x11, x12, x13⟩ := HX3.out.cells; rw [HK.out] at x0; clear h1)))
  go_ret
  exact ⟨by rw [HR.out] <;> rfl, HB3.out⟩

set_option maxRecDepth 100000 in
set_option maxHeartbeats 2000000 in
theorem refLeaf_2 (n : Nd) (hk : n.kind = 2) (hs : n.text.size ≤ 1000000) (_hr : n.ref.sh.size ≤ 1000000) (_ht : n.to.sh.size ≤ 1000000) (A : Option Addr) (m c : Nat) (w : World) : Calls Tryz.prog 32 #[.agg #[.int .i64 n.kind, .int .i64 n.num, .string n.text, .string n.ref.sh, .int .i64 n.ref.c, .int .i64 n.ref.r, .bool n.ref.ac, .bool n.ref.ar, .string n.to.sh, .int .i64 n.to.c, .int .i64 n.to.r, .bool n.to.ac, .bool n.to.ar, .slice A m c]] w fun e w' => e = .returned (.bool (leafB n)) ∧ Below w.heap.size w w' := by
  have hx : NdAt (w.alloc (.cells #[.int .i64 n.kind, .int .i64 n.num, .string n.text, .string n.ref.sh, .int .i64 n.ref.c, .int .i64 n.ref.r, .bool n.ref.ac, .bool n.ref.ar, .string n.to.sh, .int .i64 n.to.c, .int .i64 n.to.r, .bool n.to.ac, .bool n.to.ar, .slice A m c] 38)) w.heap.size n (.slice A m c) := NdAt.new w n _
  have HB := Lib.hid ((Below.refl w.heap.size w).alloc (Nat.le_refl _) (.cells #[.int .i64 n.kind, .int .i64 n.num, .string n.text, .string n.ref.sh, .int .i64 n.ref.c, .int .i64 n.ref.r, .bool n.ref.ac, .bool n.ref.ar, .string n.to.sh, .int .i64 n.to.c, .int .i64 n.to.r, .bool n.to.ac, .bool n.to.ar, .slice A m c] 38))
  have HN1 := Lib.hid (fun w => refNoRef_any n.ref w)
  have HN2 := Lib.hid (fun w => refNoRef_any n.to w)
  have HK := Lib.hid hk
  clear hk
  go_enter Tryz.func32, Tryz.ntmps32
  go_upto_region 1 with (fail)
  generalize w.alloc (.cells #[.int .i64 n.kind, .int .i64 n.num, .string n.text, .string n.ref.sh, .int .i64 n.ref.c, .int .i64 n.ref.r, .bool n.ref.ac, .bool n.ref.ar, .string n.to.sh, .int .i64 n.to.c, .int .i64 n.to.r, .bool n.to.ac, .bool n.to.ar, .slice A m c] 38) = w1 at hx HB ⊢
  generalize hb0 : w.heap.size = b0 at hx ⊢
  obtain ⟨x0, x1, x2, x3, x4, x5, x6, x7, x8, x9, x10, x11, x12, x13⟩ := hx.cells
  have HX := Lib.hid hx
  clear hx
  have hk := HK.out
  rw [hk] at x0
  by_cases hnum : n.num = 0
  rotate_left
  · have en : (n.num != 0) = true := by rw [bne_iff_ne]; exact hnum
    have HR := Lib.hid (show leafB n = false by unfold leafB; simp [hk, hnum])
    clear hnum
    clear hk
    go_wp2_with (fail)
    go_ret
    exact ⟨by rw [HR.out] <;> rfl, HB.out⟩
  rw [hnum] at x1
  cases hq1 : noRf n.ref
  · have HQref := Lib.hid hq1
    have HR := Lib.hid (show leafB n = false by unfold leafB; simp [hk, hnum, hq1])
    clear hq1
    clear hnum
    clear hk
    go_wp2_with ((go_at_call 54; ((with_reducible refine (HN1.out _).mono ?_); rintro e w2 ⟨rfl, h1⟩; rw [HQref.out]; have HB2 := Lib.hid (HB.out.trans (h1.mono HB.out.size)); have HX2 := Lib.hid (HX.out.below h1 HX.out.lt); clear x0 x1 x2 x3 x4 x5 x6 x7 x8 x9 x10 x11 x12 x13; obtain ⟨x0, x1, x2, x3, x4, x5, x6, x7, x8, x9, x10, x11, x12, x13⟩ := HX2.out.cells; rw [HK.out] at x0; clear h1)))
    go_ret
    exact ⟨by rw [HR.out] <;> rfl, HB2.out⟩
  have HQref := Lib.hid hq1
  cases hq2 : noRf n.to
  · have HQto := Lib.hid hq2
    have HR := Lib.hid (show leafB n = false by unfold leafB; simp [hk, hnum, hq1, hq2])
    clear hq2
    clear hnum
    clear hq1
    clear hk
    go_wp2_with (first
      | (go_at_call 54; ((with_reducible refine (HN1.out _).mono ?_); rintro e w2 ⟨rfl, h1⟩; rw [HQref.out]; have HB2 := Lib.hid (HB.out.trans (h1.mono HB.out.size)); have HX2 := Lib.hid (HX.out.below h1 HX.out.lt); clear x0 x1 x2 x3 x4 x5 x6 x7 x8 x9 x10 x11 x12 x13; obtain ⟨x0, x1, x2, x3, x4, x5, x6, x7, x8, x9, x10, x11, x12, x13⟩ := HX2.out.cells; rw [HK.out] at x0; clear h1; clear HN1))
      | (go_at_call 54; ((with_reducible refine (HN2.out _).mono ?_); rintro e w3 ⟨rfl, h1⟩; rw [HQto.out]; have HB3 := Lib.hid (HB2.out.trans (h1.mono HB2.out.size)); have HX3 := Lib.hid (HX2.out.below h1 HX2.out.lt); clear x0 x1 x2 x3 x4 x5 x6 x7 x8 x9 x10 x11 x12 x13; obtain ⟨x0, x1, x2, x3, x4, x5, x6, x7, x8, x9, x10, x11, x12, x13⟩ := HX3.out.cells; rw [HK.out] at x0; clear h1)))
    go_ret
    exact ⟨by rw [HR.out] <;> rfl, HB3.out⟩
  have HQto := Lib.hid hq2
  have HR := Lib.hid (show leafB n = printB (sb n.text) by unfold leafB; simp [hk, hnum, hq1, hq2])
  clear hnum
  clear hq1
  clear hq2
  clear hk
  go_wp2_with (first
    | (go_at_call 54; ((with_reducible refine (HN1.out _).mono ?_); rintro e w2 ⟨rfl, h1⟩; rw [HQref.out]; have HB2 := Lib.hid (HB.out.trans (h1.mono HB.out.size)); have HX2 := Lib.hid (HX.out.below h1 HX.out.lt); clear x0 x1 x2 x3 x4 x5 x6 x7 x8 x9 x10 x11 x12 x13; obtain ⟨x0, x1, x2, x3, x4, x5, x6, x7, x8, x9, x10, x11, x12, x13⟩ := HX2.out.cells; rw [HK.out] at x0; clear h1; clear HN1))
    | (go_at_call 54; ((with_reducible refine (HN2.out _).mono ?_); rintro e w3 ⟨rfl, h1⟩; rw [HQto.out]; have HB3 := Lib.hid (HB2.out.trans (h1.mono HB2.out.size)); have HX3 := Lib.hid (HX2.out.below h1 HX2.out.lt); clear x0 x1 x2 x3 x4 x5 x6 x7 x8 x9 x10 x11 x12 x13; obtain ⟨x0, x1, x2, x3, x4, x5, x6, x7, x8, x9, x10, x11, x12, x13⟩ := HX3.out.cells; rw [HK.out] at x0; clear h1))
    | (go_at_call 55; ((with_reducible refine (refPrintable_any _ _ hs).mono ?_); rintro e wp ⟨rfl, rfl⟩)))
  go_ret
  exact ⟨by rw [HR.out] <;> rfl, HB3.out⟩

set_option maxRecDepth 100000 in
set_option maxHeartbeats 2000000 in
theorem refLeaf_3 (n : Nd) (hk : n.kind = 3) (_hs : n.text.size ≤ 1000000) (_hr : n.ref.sh.size ≤ 1000000) (_ht : n.to.sh.size ≤ 1000000) (A : Option Addr) (m c : Nat) (w : World) : Calls Tryz.prog 32 #[.agg #[.int .i64 n.kind, .int .i64 n.num, .string n.text, .string n.ref.sh, .int .i64 n.ref.c, .int .i64 n.ref.r, .bool n.ref.ac, .bool n.ref.ar, .string n.to.sh, .int .i64 n.to.c, .int .i64 n.to.r, .bool n.to.ac, .bool n.to.ar, .slice A m c]] w fun e w' => e = .returned (.bool (leafB n)) ∧ Below w.heap.size w w' := by
  have hx : NdAt (w.alloc (.cells #[.int .i64 n.kind, .int .i64 n.num, .string n.text, .string n.ref.sh, .int .i64 n.ref.c, .int .i64 n.ref.r, .bool n.ref.ac, .bool n.ref.ar, .string n.to.sh, .int .i64 n.to.c, .int .i64 n.to.r, .bool n.to.ac, .bool n.to.ar, .slice A m c] 38)) w.heap.size n (.slice A m c) := NdAt.new w n _
  have HB := Lib.hid ((Below.refl w.heap.size w).alloc (Nat.le_refl _) (.cells #[.int .i64 n.kind, .int .i64 n.num, .string n.text, .string n.ref.sh, .int .i64 n.ref.c, .int .i64 n.ref.r, .bool n.ref.ac, .bool n.ref.ar, .string n.to.sh, .int .i64 n.to.c, .int .i64 n.to.r, .bool n.to.ac, .bool n.to.ar, .slice A m c] 38))
  have HN1 := Lib.hid (fun w => refNoRef_any n.ref w)
  have HN2 := Lib.hid (fun w => refNoRef_any n.to w)
  have HK := Lib.hid hk
  clear hk
  go_enter Tryz.func32, Tryz.ntmps32
  go_upto_region 1 with (fail)
  generalize w.alloc (.cells #[.int .i64 n.kind, .int .i64 n.num, .string n.text, .string n.ref.sh, .int .i64 n.ref.c, .int .i64 n.ref.r, .bool n.ref.ac, .bool n.ref.ar, .string n.to.sh, .int .i64 n.to.c, .int .i64 n.to.r, .bool n.to.ac, .bool n.to.ar, .slice A m c] 38) = w1 at hx HB ⊢
  generalize hb0 : w.heap.size = b0 at hx ⊢
  obtain ⟨x0, x1, x2, x3, x4, x5, x6, x7, x8, x9, x10, x11, x12, x13⟩ := hx.cells
  have HX := Lib.hid hx
  clear hx
  have hk := HK.out
  rw [hk] at x0
  by_cases htext : n.text = ⟨#[]⟩
  rotate_left
  · have t0 : ¬ n.text.toList = [] := by rw [← empty_list]; exact text_ne _ _ htext
    have t1 : n.text.toList.isEmpty = false := by simpa using t0
    have HR := Lib.hid (show leafB n = false by unfold leafB; simp [hk, htext])
    clear htext
    clear hk
    go_wp2_with (fail)
    go_ret
    exact ⟨by rw [HR.out] <;> rfl, HB.out⟩
  have t0 := empty_list
  rw [htext] at x2
  cases hq1 : noRf n.ref
  · have HQref := Lib.hid hq1
    have HR := Lib.hid (show leafB n = false by unfold leafB; simp [hk, htext, hq1])
    clear hq1
    clear htext
    clear hk
    go_wp2_with ((go_at_call 54; ((with_reducible refine (HN1.out _).mono ?_); rintro e w2 ⟨rfl, h1⟩; rw [HQref.out]; have HB2 := Lib.hid (HB.out.trans (h1.mono HB.out.size)); have HX2 := Lib.hid (HX.out.below h1 HX.out.lt); clear x0 x1 x2 x3 x4 x5 x6 x7 x8 x9 x10 x11 x12 x13; obtain ⟨x0, x1, x2, x3, x4, x5, x6, x7, x8, x9, x10, x11, x12, x13⟩ := HX2.out.cells; rw [HK.out] at x0; clear h1)))
    go_ret
    exact ⟨by rw [HR.out] <;> rfl, HB2.out⟩
  have HQref := Lib.hid hq1
  cases hq2 : noRf n.to
  · have HQto := Lib.hid hq2
    have HR := Lib.hid (show leafB n = false by unfold leafB; simp [hk, htext, hq1, hq2])
    clear hq2
    clear htext
    clear hq1
    clear hk
    go_wp2_with (first
      | (go_at_call 54; ((with_reducible refine (HN1.out _).mono ?_); rintro e w2 ⟨rfl, h1⟩; rw [HQref.out]; have HB2 := Lib.hid (HB.out.trans (h1.mono HB.out.size)); have HX2 := Lib.hid (HX.out.below h1 HX.out.lt); clear x0 x1 x2 x3 x4 x5 x6 x7 x8 x9 x10 x11 x12 x13; obtain ⟨x0, x1, x2, x3, x4, x5, x6, x7, x8, x9, x10, x11, x12, x13⟩ := HX2.out.cells; rw [HK.out] at x0; clear h1; clear HN1))
      | (go_at_call 54; ((with_reducible refine (HN2.out _).mono ?_); rintro e w3 ⟨rfl, h1⟩; rw [HQto.out]; have HB3 := Lib.hid (HB2.out.trans (h1.mono HB2.out.size)); have HX3 := Lib.hid (HX2.out.below h1 HX2.out.lt); clear x0 x1 x2 x3 x4 x5 x6 x7 x8 x9 x10 x11 x12 x13; obtain ⟨x0, x1, x2, x3, x4, x5, x6, x7, x8, x9, x10, x11, x12, x13⟩ := HX3.out.cells; rw [HK.out] at x0; clear h1)))
    go_ret
    exact ⟨by rw [HR.out] <;> rfl, HB3.out⟩
  have HQto := Lib.hid hq2
  by_cases h0 : n.num = 0
  · have HR := Lib.hid (show leafB n = true by unfold leafB; simp [hk, htext, hq1, hq2, h0])
    have e0 : (n.num == 0) = true := beq_iff_eq.2 h0
    clear htext
    clear hq1
    clear hq2
    clear hk
    clear h0
    go_wp2_with (first
      | (go_at_call 54; ((with_reducible refine (HN1.out _).mono ?_); rintro e w2 ⟨rfl, h1⟩; rw [HQref.out]; have HB2 := Lib.hid (HB.out.trans (h1.mono HB.out.size)); have HX2 := Lib.hid (HX.out.below h1 HX.out.lt); clear x0 x1 x2 x3 x4 x5 x6 x7 x8 x9 x10 x11 x12 x13; obtain ⟨x0, x1, x2, x3, x4, x5, x6, x7, x8, x9, x10, x11, x12, x13⟩ := HX2.out.cells; rw [HK.out] at x0; clear h1; clear HN1))
      | (go_at_call 54; ((with_reducible refine (HN2.out _).mono ?_); rintro e w3 ⟨rfl, h1⟩; rw [HQto.out]; have HB3 := Lib.hid (HB2.out.trans (h1.mono HB2.out.size)); have HX3 := Lib.hid (HX2.out.below h1 HX2.out.lt); clear x0 x1 x2 x3 x4 x5 x6 x7 x8 x9 x10 x11 x12 x13; obtain ⟨x0, x1, x2, x3, x4, x5, x6, x7, x8, x9, x10, x11, x12, x13⟩ := HX3.out.cells; rw [HK.out] at x0; clear h1)))
    go_ret
    exact ⟨by rw [HR.out] <;> rfl, HB3.out⟩
  · have e0 : (n.num == 0) = false := beq_eq_false_iff_ne.2 h0
    by_cases h1 : n.num = 1
    · have e1 : (n.num == 1) = true := beq_iff_eq.2 h1
      have HR := Lib.hid (show leafB n = true by unfold leafB; simp [hk, htext, hq1, hq2, h1])
      clear htext
      clear hq1
      clear hq2
      clear hk
      clear h0 h1
      go_wp2_with (first
        | (go_at_call 54; ((with_reducible refine (HN1.out _).mono ?_); rintro e w2 ⟨rfl, h1⟩; rw [HQref.out]; have HB2 := Lib.hid (HB.out.trans (h1.mono HB.out.size)); have HX2 := Lib.hid (HX.out.below h1 HX.out.lt); clear x0 x1 x2 x3 x4 x5 x6 x7 x8 x9 x10 x11 x12 x13; obtain ⟨x0, x1, x2, x3, x4, x5, x6, x7, x8, x9, x10, x11, x12, x13⟩ := HX2.out.cells; rw [HK.out] at x0; clear h1; clear HN1))
        | (go_at_call 54; ((with_reducible refine (HN2.out _).mono ?_); rintro e w3 ⟨rfl, h1⟩; rw [HQto.out]; have HB3 := Lib.hid (HB2.out.trans (h1.mono HB2.out.size)); have HX3 := Lib.hid (HX2.out.below h1 HX2.out.lt); clear x0 x1 x2 x3 x4 x5 x6 x7 x8 x9 x10 x11 x12 x13; obtain ⟨x0, x1, x2, x3, x4, x5, x6, x7, x8, x9, x10, x11, x12, x13⟩ := HX3.out.cells; rw [HK.out] at x0; clear h1)))
      go_ret
      exact ⟨by rw [HR.out] <;> rfl, HB3.out⟩
    · have e1 : (n.num == 1) = false := beq_eq_false_iff_ne.2 h1
      have HR := Lib.hid (show leafB n = false by unfold leafB; simp [hk, htext, hq1, hq2, h0, h1])
      clear htext
      clear hq1
      clear hq2
      clear hk
      clear h0 h1
      go_wp2_with (first
        | (go_at_call 54; ((with_reducible refine (HN1.out _).mono ?_); rintro e w2 ⟨rfl, h1⟩; rw [HQref.out]; have HB2 := Lib.hid (HB.out.trans (h1.mono HB.out.size)); have HX2 := Lib.hid (HX.out.below h1 HX.out.lt); clear x0 x1 x2 x3 x4 x5 x6 x7 x8 x9 x10 x11 x12 x13; obtain ⟨x0, x1, x2, x3, x4, x5, x6, x7, x8, x9, x10, x11, x12, x13⟩ := HX2.out.cells; rw [HK.out] at x0; clear h1; clear HN1))
        | (go_at_call 54; ((with_reducible refine (HN2.out _).mono ?_); rintro e w3 ⟨rfl, h1⟩; rw [HQto.out]; have HB3 := Lib.hid (HB2.out.trans (h1.mono HB2.out.size)); have HX3 := Lib.hid (HX2.out.below h1 HX2.out.lt); clear x0 x1 x2 x3 x4 x5 x6 x7 x8 x9 x10 x11 x12 x13; obtain ⟨x0, x1, x2, x3, x4, x5, x6, x7, x8, x9, x10, x11, x12, x13⟩ := HX3.out.cells; rw [HK.out] at x0; clear h1)))
      go_ret
      exact ⟨by rw [HR.out] <;> rfl, HB3.out⟩

set_option maxRecDepth 100000 in
set_option maxHeartbeats 2000000 in
theorem refLeaf_5 (n : Nd) (hk : n.kind = 5) (_hs : n.text.size ≤ 1000000) (hr : n.ref.sh.size ≤ 1000000) (_ht : n.to.sh.size ≤ 1000000) (A : Option Addr) (m c : Nat) (w : World) : Calls Tryz.prog 32 #[.agg #[.int .i64 n.kind, .int .i64 n.num, .string n.text, .string n.ref.sh, .int .i64 n.ref.c, .int .i64 n.ref.r, .bool n.ref.ac, .bool n.ref.ar, .string n.to.sh, .int .i64 n.to.c, .int .i64 n.to.r, .bool n.to.ac, .bool n.to.ar, .slice A m c]] w fun e w' => e = .returned (.bool (leafB n)) ∧ Below w.heap.size w w' := by
  have hx : NdAt (w.alloc (.cells #[.int .i64 n.kind, .int .i64 n.num, .string n.text, .string n.ref.sh, .int .i64 n.ref.c, .int .i64 n.ref.r, .bool n.ref.ac, .bool n.ref.ar, .string n.to.sh, .int .i64 n.to.c, .int .i64 n.to.r, .bool n.to.ac, .bool n.to.ar, .slice A m c] 38)) w.heap.size n (.slice A m c) := NdAt.new w n _
  have HB := Lib.hid ((Below.refl w.heap.size w).alloc (Nat.le_refl _) (.cells #[.int .i64 n.kind, .int .i64 n.num, .string n.text, .string n.ref.sh, .int .i64 n.ref.c, .int .i64 n.ref.r, .bool n.ref.ac, .bool n.ref.ar, .string n.to.sh, .int .i64 n.to.c, .int .i64 n.to.r, .bool n.to.ac, .bool n.to.ar, .slice A m c] 38))
  have HN1 := Lib.hid (fun w => refNoRef_any n.ref w)
  have HN2 := Lib.hid (fun w => refNoRef_any n.to w)
  have HK := Lib.hid hk
  clear hk
  go_enter Tryz.func32, Tryz.ntmps32
  go_upto_region 1 with (fail)
  generalize w.alloc (.cells #[.int .i64 n.kind, .int .i64 n.num, .string n.text, .string n.ref.sh, .int .i64 n.ref.c, .int .i64 n.ref.r, .bool n.ref.ac, .bool n.ref.ar, .string n.to.sh, .int .i64 n.to.c, .int .i64 n.to.r, .bool n.to.ac, .bool n.to.ar, .slice A m c] 38) = w1 at hx HB ⊢
  generalize hb0 : w.heap.size = b0 at hx ⊢
  obtain ⟨x0, x1, x2, x3, x4, x5, x6, x7, x8, x9, x10, x11, x12, x13⟩ := hx.cells
  have HX := Lib.hid hx
  clear hx
  have hk := HK.out
  rw [hk] at x0
  by_cases hnum : n.num = 0
  rotate_left
  · have en : (n.num != 0) = true := by rw [bne_iff_ne]; exact hnum
    have HR := Lib.hid (show leafB n = false by unfold leafB; simp [hk, hnum])
    clear hnum
    clear hk
    go_wp2_with (fail)
    go_ret
    exact ⟨by rw [HR.out] <;> rfl, HB.out⟩
  rw [hnum] at x1
  by_cases htext : n.text = ⟨#[]⟩
  rotate_left
  · have t0 : ¬ n.text.toList = [] := by rw [← empty_list]; exact text_ne _ _ htext
    have t1 : n.text.toList.isEmpty = false := by simpa using t0
    have HR := Lib.hid (show leafB n = false by unfold leafB; simp [hk, hnum, htext])
    clear htext
    clear hnum
    clear hk
    go_wp2_with (fail)
    go_ret
    exact ⟨by rw [HR.out] <;> rfl, HB.out⟩
  have t0 := empty_list
  rw [htext] at x2
  cases hq2 : noRf n.to
  · have HQto := Lib.hid hq2
    have HR := Lib.hid (show leafB n = false by unfold leafB; simp [hk, hnum, htext, hq2])
    clear hq2
    clear hnum
    clear htext
    clear hk
    go_wp2_with ((go_at_call 54; ((with_reducible refine (HN2.out _).mono ?_); rintro e w2 ⟨rfl, h1⟩; rw [HQto.out]; have HB2 := Lib.hid (HB.out.trans (h1.mono HB.out.size)); have HX2 := Lib.hid (HX.out.below h1 HX.out.lt); clear x0 x1 x2 x3 x4 x5 x6 x7 x8 x9 x10 x11 x12 x13; obtain ⟨x0, x1, x2, x3, x4, x5, x6, x7, x8, x9, x10, x11, x12, x13⟩ := HX2.out.cells; rw [HK.out] at x0; clear h1)))
    go_ret
    exact ⟨by rw [HR.out] <;> rfl, HB2.out⟩
  have HQto := Lib.hid hq2
  have HR := Lib.hid (show leafB n = mayRf n.ref by unfold leafB; simp [hk, hnum, htext, hq2])
  clear hnum
  clear htext
  clear hq2
  clear hk
  go_wp2_with (first
    | (go_at_call 54; ((with_reducible refine (HN2.out _).mono ?_); rintro e w2 ⟨rfl, h1⟩; rw [HQto.out]; have HB2 := Lib.hid (HB.out.trans (h1.mono HB.out.size)); have HX2 := Lib.hid (HX.out.below h1 HX.out.lt); clear x0 x1 x2 x3 x4 x5 x6 x7 x8 x9 x10 x11 x12 x13; obtain ⟨x0, x1, x2, x3, x4, x5, x6, x7, x8, x9, x10, x11, x12, x13⟩ := HX2.out.cells; rw [HK.out] at x0; clear h1))
    | (go_at_call 58; ((with_reducible refine (refMay_any _ _ _ _ _ _ hr).mono ?_); rintro e wp ⟨rfl, h1⟩; have HBP := Lib.hid (HB2.out.trans (h1.mono HB2.out.size)); clear h1)))
  go_ret
  exact ⟨by rw [HR.out] <;> rfl, HBP.out⟩

set_option maxRecDepth 100000 in
set_option maxHeartbeats 2000000 in
theorem refLeaf_6 (n : Nd) (hk : n.kind = 6) (_hs : n.text.size ≤ 1000000) (hr : n.ref.sh.size ≤ 1000000) (ht : n.to.sh.size ≤ 1000000) (A : Option Addr) (m c : Nat) (w : World) : Calls Tryz.prog 32 #[.agg #[.int .i64 n.kind, .int .i64 n.num, .string n.text, .string n.ref.sh, .int .i64 n.ref.c, .int .i64 n.ref.r, .bool n.ref.ac, .bool n.ref.ar, .string n.to.sh, .int .i64 n.to.c, .int .i64 n.to.r, .bool n.to.ac, .bool n.to.ar, .slice A m c]] w fun e w' => e = .returned (.bool (leafB n)) ∧ Below w.heap.size w w' := by
  have hx : NdAt (w.alloc (.cells #[.int .i64 n.kind, .int .i64 n.num, .string n.text, .string n.ref.sh, .int .i64 n.ref.c, .int .i64 n.ref.r, .bool n.ref.ac, .bool n.ref.ar, .string n.to.sh, .int .i64 n.to.c, .int .i64 n.to.r, .bool n.to.ac, .bool n.to.ar, .slice A m c] 38)) w.heap.size n (.slice A m c) := NdAt.new w n _
  have HB := Lib.hid ((Below.refl w.heap.size w).alloc (Nat.le_refl _) (.cells #[.int .i64 n.kind, .int .i64 n.num, .string n.text, .string n.ref.sh, .int .i64 n.ref.c, .int .i64 n.ref.r, .bool n.ref.ac, .bool n.ref.ar, .string n.to.sh, .int .i64 n.to.c, .int .i64 n.to.r, .bool n.to.ac, .bool n.to.ar, .slice A m c] 38))
  have HN1 := Lib.hid (fun w => refNoRef_any n.ref w)
  have HN2 := Lib.hid (fun w => refNoRef_any n.to w)
  have HK := Lib.hid hk
  clear hk
  go_enter Tryz.func32, Tryz.ntmps32
  go_upto_region 1 with (fail)
  generalize w.alloc (.cells #[.int .i64 n.kind, .int .i64 n.num, .string n.text, .string n.ref.sh, .int .i64 n.ref.c, .int .i64 n.ref.r, .bool n.ref.ac, .bool n.ref.ar, .string n.to.sh, .int .i64 n.to.c, .int .i64 n.to.r, .bool n.to.ac, .bool n.to.ar, .slice A m c] 38) = w1 at hx HB ⊢
  generalize hb0 : w.heap.size = b0 at hx ⊢
  obtain ⟨x0, x1, x2, x3, x4, x5, x6, x7, x8, x9, x10, x11, x12, x13⟩ := hx.cells
  have HX := Lib.hid hx
  clear hx
  have hk := HK.out
  rw [hk] at x0
  by_cases hnum : n.num = 0
  rotate_left
  · have en : (n.num != 0) = true := by rw [bne_iff_ne]; exact hnum
    have HR := Lib.hid (show leafB n = false by unfold leafB; simp [hk, hnum])
    clear hnum
    clear hk
    go_wp2_with (fail)
    go_ret
    exact ⟨by rw [HR.out] <;> rfl, HB.out⟩
  rw [hnum] at x1
  by_cases htext : n.text = ⟨#[]⟩
  rotate_left
  · have t0 : ¬ n.text.toList = [] := by rw [← empty_list]; exact text_ne _ _ htext
    have t1 : n.text.toList.isEmpty = false := by simpa using t0
    have HR := Lib.hid (show leafB n = false by unfold leafB; simp [hk, hnum, htext])
    clear htext
    clear hnum
    clear hk
    go_wp2_with (fail)
    go_ret
    exact ⟨by rw [HR.out] <;> rfl, HB.out⟩
  have t0 := empty_list
  rw [htext] at x2
  cases q1 : mayRf n.ref
  · have M1 := Lib.hid (show mayL (sb n.ref.sh) n.ref.c n.ref.r = false from q1)
    have HR := Lib.hid (show leafB n = false by unfold leafB; simp [hk, hnum, htext, q1])
    clear q1
    clear hnum
    clear htext
    clear hk
    go_wp2_with ((go_at_call 58; ((with_reducible refine (refMay_any n.ref.sh n.ref.c n.ref.r n.ref.ac n.ref.ar _ hr).mono ?_); rintro e w2 ⟨rfl, h1⟩; rw [M1.out]; have HB2 := Lib.hid (HB.out.trans (h1.mono HB.out.size)); have HX2 := Lib.hid (HX.out.below h1 HX.out.lt); clear x0 x1 x2 x3 x4 x5 x6 x7 x8 x9 x10 x11 x12 x13; obtain ⟨x0, x1, x2, x3, x4, x5, x6, x7, x8, x9, x10, x11, x12, x13⟩ := HX2.out.cells; rw [HK.out] at x0; clear h1)))
    go_ret
    exact ⟨by rw [HR.out] <;> rfl, HB2.out⟩
  have M1 := Lib.hid (show mayL (sb n.ref.sh) n.ref.c n.ref.r = true from q1)
  cases q2 : mayRf n.to
  · have M2 := Lib.hid (show mayL (sb n.to.sh) n.to.c n.to.r = false from q2)
    have HR := Lib.hid (show leafB n = false by unfold leafB; simp [hk, hnum, htext, q1, q2])
    clear q1 q2
    clear hnum
    clear htext
    clear hk
    go_wp2_with (first
      | (go_at_call 58; ((with_reducible refine (refMay_any n.ref.sh n.ref.c n.ref.r n.ref.ac n.ref.ar _ hr).mono ?_); rintro e w2 ⟨rfl, h1⟩; rw [M1.out]; have HB2 := Lib.hid (HB.out.trans (h1.mono HB.out.size)); have HX2 := Lib.hid (HX.out.below h1 HX.out.lt); clear x0 x1 x2 x3 x4 x5 x6 x7 x8 x9 x10 x11 x12 x13; obtain ⟨x0, x1, x2, x3, x4, x5, x6, x7, x8, x9, x10, x11, x12, x13⟩ := HX2.out.cells; rw [HK.out] at x0; clear h1; clear M1))
      | (go_at_call 58; ((with_reducible refine (refMay_any n.to.sh n.to.c n.to.r n.to.ac n.to.ar _ ht).mono ?_); rintro e w3 ⟨rfl, h1⟩; rw [M2.out]; have HB3 := Lib.hid (HB2.out.trans (h1.mono HB2.out.size)); have HX3 := Lib.hid (HX2.out.below h1 HX2.out.lt); clear x0 x1 x2 x3 x4 x5 x6 x7 x8 x9 x10 x11 x12 x13; obtain ⟨x0, x1, x2, x3, x4, x5, x6, x7, x8, x9, x10, x11, x12, x13⟩ := HX3.out.cells; rw [HK.out] at x0; clear h1)))
    go_ret
    exact ⟨by rw [HR.out] <;> rfl, HB3.out⟩
  have M2 := Lib.hid (show mayL (sb n.to.sh) n.to.c n.to.r = true from q2)
  have HR := Lib.hid (show leafB n = spanB n.ref n.to by unfold leafB; simp [hk, hnum, htext, q1, q2])
  clear q1 q2
  clear hnum
  clear htext
  clear hk
  go_wp2_with (first
    | (go_at_call 58; ((with_reducible refine (refMay_any n.ref.sh n.ref.c n.ref.r n.ref.ac n.ref.ar _ hr).mono ?_); rintro e w2 ⟨rfl, h1⟩; rw [M1.out]; have HB2 := Lib.hid (HB.out.trans (h1.mono HB.out.size)); have HX2 := Lib.hid (HX.out.below h1 HX.out.lt); clear x0 x1 x2 x3 x4 x5 x6 x7 x8 x9 x10 x11 x12 x13; obtain ⟨x0, x1, x2, x3, x4, x5, x6, x7, x8, x9, x10, x11, x12, x13⟩ := HX2.out.cells; rw [HK.out] at x0; clear h1; clear M1))
    | (go_at_call 58; ((with_reducible refine (refMay_any n.to.sh n.to.c n.to.r n.to.ac n.to.ar _ ht).mono ?_); rintro e w3 ⟨rfl, h1⟩; rw [M2.out]; have HB3 := Lib.hid (HB2.out.trans (h1.mono HB2.out.size)); have HX3 := Lib.hid (HX2.out.below h1 HX2.out.lt); clear x0 x1 x2 x3 x4 x5 x6 x7 x8 x9 x10 x11 x12 x13; obtain ⟨x0, x1, x2, x3, x4, x5, x6, x7, x8, x9, x10, x11, x12, x13⟩ := HX3.out.cells; rw [HK.out] at x0; clear h1))
    | (go_at_call 59; ((with_reducible refine (refSpan_any _ _ _ _ _ _ _ _ _ _ _).mono ?_); rintro e w4 ⟨rfl, h1⟩; have HB4 := Lib.hid (HB3.out.trans (h1.mono HB3.out.size)); clear h1)))
  go_ret
  exact ⟨by rw [HR.out] <;> rfl, HB4.out⟩

set_option maxRecDepth 100000 in
set_option maxHeartbeats 2000000 in
theorem refLeaf_x (n : Nd) (k1 : ¬ n.kind = 1) (k2 : ¬ n.kind = 2) (k3 : ¬ n.kind = 3) (k5 : ¬ n.kind = 5) (k6 : ¬ n.kind = 6) (k7 : ¬ n.kind = 7) (_hs : n.text.size ≤ 1000000) (_hr : n.ref.sh.size ≤ 1000000) (_ht : n.to.sh.size ≤ 1000000) (A : Option Addr) (m c : Nat) (w : World) : Calls Tryz.prog 32 #[.agg #[.int .i64 n.kind, .int .i64 n.num, .string n.text, .string n.ref.sh, .int .i64 n.ref.c, .int .i64 n.ref.r, .bool n.ref.ac, .bool n.ref.ar, .string n.to.sh, .int .i64 n.to.c, .int .i64 n.to.r, .bool n.to.ac, .bool n.to.ar, .slice A m c]] w fun e w' => e = .returned (.bool (leafB n)) ∧ Below w.heap.size w w' := by
  have hx : NdAt (w.alloc (.cells #[.int .i64 n.kind, .int .i64 n.num, .string n.text, .string n.ref.sh, .int .i64 n.ref.c, .int .i64 n.ref.r, .bool n.ref.ac, .bool n.ref.ar, .string n.to.sh, .int .i64 n.to.c, .int .i64 n.to.r, .bool n.to.ac, .bool n.to.ar, .slice A m c] 38)) w.heap.size n (.slice A m c) := NdAt.new w n _
  have HB := Lib.hid ((Below.refl w.heap.size w).alloc (Nat.le_refl _) (.cells #[.int .i64 n.kind, .int .i64 n.num, .string n.text, .string n.ref.sh, .int .i64 n.ref.c, .int .i64 n.ref.r, .bool n.ref.ac, .bool n.ref.ar, .string n.to.sh, .int .i64 n.to.c, .int .i64 n.to.r, .bool n.to.ac, .bool n.to.ar, .slice A m c] 38))
  have HN1 := Lib.hid (fun w => refNoRef_any n.ref w)
  have HN2 := Lib.hid (fun w => refNoRef_any n.to w)
  go_enter Tryz.func32, Tryz.ntmps32
  go_upto_region 1 with (fail)
  generalize w.alloc (.cells #[.int .i64 n.kind, .int .i64 n.num, .string n.text, .string n.ref.sh, .int .i64 n.ref.c, .int .i64 n.ref.r, .bool n.ref.ac, .bool n.ref.ar, .string n.to.sh, .int .i64 n.to.c, .int .i64 n.to.r, .bool n.to.ac, .bool n.to.ar, .slice A m c] 38) = w1 at hx HB ⊢
  generalize hb0 : w.heap.size = b0 at hx ⊢
  obtain ⟨x0, x1, x2, x3, x4, x5, x6, x7, x8, x9, x10, x11, x12, x13⟩ := hx.cells
  have HX := Lib.hid hx
  clear hx
  obtain ⟨kd, hkd⟩ : ∃ kd, n.kind = kd := ⟨_, rfl⟩
  rw [hkd] at x0
  have HK := Lib.hid hkd
  have e1 : (kd == 1) = false := beq_eq_false_iff_ne.2 (by omega)
  have d1 : (kd != 1) = true := by rw [bne, e1]; rfl
  have e2 : (kd == 2) = false := beq_eq_false_iff_ne.2 (by omega)
  have d2 : (kd != 2) = true := by rw [bne, e2]; rfl
  have e3 : (kd == 3) = false := beq_eq_false_iff_ne.2 (by omega)
  have d3 : (kd != 3) = true := by rw [bne, e3]; rfl
  have e5 : (kd == 5) = false := beq_eq_false_iff_ne.2 (by omega)
  have d5 : (kd != 5) = true := by rw [bne, e5]; rfl
  have e6 : (kd == 6) = false := beq_eq_false_iff_ne.2 (by omega)
  have d6 : (kd != 6) = true := by rw [bne, e6]; rfl
  have e7 : (kd == 7) = false := beq_eq_false_iff_ne.2 (by omega)
  have d7 : (kd != 7) = true := by rw [bne, e7]; rfl
  by_cases hnum : n.num = 0
  rotate_left
  · have en : (n.num != 0) = true := by rw [bne_iff_ne]; exact hnum
    have HR := Lib.hid (show leafB n = false by unfold leafB; simp [k1, k2, k3, k5, k6, k7, hnum])
    clear hnum
    go_wp2_with (fail)
    go_ret
    exact ⟨by rw [HR.out] <;> rfl, HB.out⟩
  rw [hnum] at x1
  by_cases htext : n.text = ⟨#[]⟩
  rotate_left
  · have t0 : ¬ n.text.toList = [] := by rw [← empty_list]; exact text_ne _ _ htext
    have t1 : n.text.toList.isEmpty = false := by simpa using t0
    have HR := Lib.hid (show leafB n = false by unfold leafB; simp [k1, k2, k3, k5, k6, k7, hnum, htext])
    clear htext
    clear hnum
    go_wp2_with (fail)
    go_ret
    exact ⟨by rw [HR.out] <;> rfl, HB.out⟩
  have t0 := empty_list
  rw [htext] at x2
  cases hq1 : noRf n.ref
  · have HQref := Lib.hid hq1
    have HR := Lib.hid (show leafB n = false by unfold leafB; simp [k1, k2, k3, k5, k6, k7, hnum, htext, hq1])
    clear hq1
    clear hnum
    clear htext
    go_wp2_with ((go_at_call 54; ((with_reducible refine (HN1.out _).mono ?_); rintro e w2 ⟨rfl, h1⟩; rw [HQref.out]; have HB2 := Lib.hid (HB.out.trans (h1.mono HB.out.size)); have HX2 := Lib.hid (HX.out.below h1 HX.out.lt); clear x0 x1 x2 x3 x4 x5 x6 x7 x8 x9 x10 x11 x12 x13; obtain ⟨x0, x1, x2, x3, x4, x5, x6, x7, x8, x9, x10, x11, x12, x13⟩ := HX2.out.cells; rw [HK.out] at x0; clear h1)))
    go_ret
    exact ⟨by rw [HR.out] <;> rfl, HB2.out⟩
  have HQref := Lib.hid hq1
  cases hq2 : noRf n.to
  · have HQto := Lib.hid hq2
    have HR := Lib.hid (show leafB n = false by unfold leafB; simp [k1, k2, k3, k5, k6, k7, hnum, htext, hq1, hq2])
    clear hq2
    clear hnum
    clear htext
    clear hq1
    go_wp2_with (first
      | (go_at_call 54; ((with_reducible refine (HN1.out _).mono ?_); rintro e w2 ⟨rfl, h1⟩; rw [HQref.out]; have HB2 := Lib.hid (HB.out.trans (h1.mono HB.out.size)); have HX2 := Lib.hid (HX.out.below h1 HX.out.lt); clear x0 x1 x2 x3 x4 x5 x6 x7 x8 x9 x10 x11 x12 x13; obtain ⟨x0, x1, x2, x3, x4, x5, x6, x7, x8, x9, x10, x11, x12, x13⟩ := HX2.out.cells; rw [HK.out] at x0; clear h1; clear HN1))
      | (go_at_call 54; ((with_reducible refine (HN2.out _).mono ?_); rintro e w3 ⟨rfl, h1⟩; rw [HQto.out]; have HB3 := Lib.hid (HB2.out.trans (h1.mono HB2.out.size)); have HX3 := Lib.hid (HX2.out.below h1 HX2.out.lt); clear x0 x1 x2 x3 x4 x5 x6 x7 x8 x9 x10 x11 x12 x13; obtain ⟨x0, x1, x2, x3, x4, x5, x6, x7, x8, x9, x10, x11, x12, x13⟩ := HX3.out.cells; rw [HK.out] at x0; clear h1)))
    go_ret
    exact ⟨by rw [HR.out] <;> rfl, HB3.out⟩
  have HQto := Lib.hid hq2
  have HR := Lib.hid (show leafB n = true by unfold leafB; simp [k1, k2, k3, k5, k6, k7, hnum, htext, hq1, hq2])
  clear hnum
  clear htext
  clear hq1
  clear hq2
  go_wp2_with (first
    | (go_at_call 54; ((with_reducible refine (HN1.out _).mono ?_); rintro e w2 ⟨rfl, h1⟩; rw [HQref.out]; have HB2 := Lib.hid (HB.out.trans (h1.mono HB.out.size)); have HX2 := Lib.hid (HX.out.below h1 HX.out.lt); clear x0 x1 x2 x3 x4 x5 x6 x7 x8 x9 x10 x11 x12 x13; obtain ⟨x0, x1, x2, x3, x4, x5, x6, x7, x8, x9, x10, x11, x12, x13⟩ := HX2.out.cells; rw [HK.out] at x0; clear h1; clear HN1))
    | (go_at_call 54; ((with_reducible refine (HN2.out _).mono ?_); rintro e w3 ⟨rfl, h1⟩; rw [HQto.out]; have HB3 := Lib.hid (HB2.out.trans (h1.mono HB2.out.size)); have HX3 := Lib.hid (HX2.out.below h1 HX2.out.lt); clear x0 x1 x2 x3 x4 x5 x6 x7 x8 x9 x10 x11 x12 x13; obtain ⟨x0, x1, x2, x3, x4, x5, x6, x7, x8, x9, x10, x11, x12, x13⟩ := HX3.out.cells; rw [HK.out] at x0; clear h1)))
  go_ret
  exact ⟨by rw [HR.out] <;> rfl, HB3.out⟩

end Go.Proofs.YtdfpalocnijefaaGreatDoor

/-
  Layer 5, the reference: what a node's fields may be: names that are called; all kinds.
-/
namespace Go.Proofs.YtdfpalocnijefaaGreatDoor
open Go.RowKit

set_option maxRecDepth 100000 in
set_option maxHeartbeats 2000000 in
theorem refLeaf_7 (n : Nd) (hk : n.kind = 7) (hs : n.text.size ≤ 1000000) (_hr : n.ref.sh.size ≤ 1000000) (_ht : n.to.sh.size ≤ 1000000) (A : Option Addr) (m c : Nat) (w : World) : Calls Tryz.prog 32 #[.agg #[.int .i64 n.kind, .int .i64 n.num, .string n.text, .string n.ref.sh, .int .i64 n.ref.c, .int .i64 n.ref.r, .bool n.ref.ac, .bool n.ref.ar, .string n.to.sh, .int .i64 n.to.c, .int .i64 n.to.r, .bool n.to.ac, .bool n.to.ar, .slice A m c]] w fun e w' => e = .returned (.bool (leafB n)) ∧ Below w.heap.size w w' := by
  have hx : NdAt (w.alloc (.cells #[.int .i64 n.kind, .int .i64 n.num, .string n.text, .string n.ref.sh, .int .i64 n.ref.c, .int .i64 n.ref.r, .bool n.ref.ac, .bool n.ref.ar, .string n.to.sh, .int .i64 n.to.c, .int .i64 n.to.r, .bool n.to.ac, .bool n.to.ar, .slice A m c] 38)) w.heap.size n (.slice A m c) := NdAt.new w n _
  have HB := Lib.hid ((Below.refl w.heap.size w).alloc (Nat.le_refl _) (.cells #[.int .i64 n.kind, .int .i64 n.num, .string n.text, .string n.ref.sh, .int .i64 n.ref.c, .int .i64 n.ref.r, .bool n.ref.ac, .bool n.ref.ar, .string n.to.sh, .int .i64 n.to.c, .int .i64 n.to.r, .bool n.to.ac, .bool n.to.ar, .slice A m c] 38))
  have HN1 := Lib.hid (fun w => refNoRef_any n.ref w)
  have HN2 := Lib.hid (fun w => refNoRef_any n.to w)
  have HK := Lib.hid hk
  clear hk
  go_enter Tryz.func32, Tryz.ntmps32
  go_upto_region 1 with (fail)
  generalize w.alloc (.cells #[.int .i64 n.kind, .int .i64 n.num, .string n.text, .string n.ref.sh, .int .i64 n.ref.c, .int .i64 n.ref.r, .bool n.ref.ac, .bool n.ref.ar, .string n.to.sh, .int .i64 n.to.c, .int .i64 n.to.r, .bool n.to.ac, .bool n.to.ar, .slice A m c] 38) = w1 at hx HB ⊢
  generalize hb0 : w.heap.size = b0 at hx ⊢
  obtain ⟨x0, x1, x2, x3, x4, x5, x6, x7, x8, x9, x10, x11, x12, x13⟩ := hx.cells
  have HX := Lib.hid hx
  clear hx
  have hk := HK.out
  rw [hk] at x0
  by_cases hnum : n.num = 0
  rotate_left
  · have en : (n.num != 0) = true := by rw [bne_iff_ne]; exact hnum
    have HR := Lib.hid (show leafB n = false by unfold leafB; simp [hk, hnum])
    clear hnum
    clear hk
    go_wp2_with (fail)
    go_ret
    exact ⟨by rw [HR.out] <;> rfl, HB.out⟩
  rw [hnum] at x1
  cases hq1 : noRf n.ref
  · have HQref := Lib.hid hq1
    have HR := Lib.hid (show leafB n = false by unfold leafB; simp [hk, hnum, hq1])
    clear hq1
    clear hnum
    clear hk
    go_wp2_with ((go_at_call 54; ((with_reducible refine (HN1.out _).mono ?_); rintro e w2 ⟨rfl, h1⟩; rw [HQref.out]; have HB2 := Lib.hid (HB.out.trans (h1.mono HB.out.size)); have HX2 := Lib.hid (HX.out.below h1 HX.out.lt); clear x0 x1 x2 x3 x4 x5 x6 x7 x8 x9 x10 x11 x12 x13; obtain ⟨x0, x1, x2, x3, x4, x5, x6, x7, x8, x9, x10, x11, x12, x13⟩ := HX2.out.cells; rw [HK.out] at x0; clear h1)))
    go_ret
    exact ⟨by rw [HR.out] <;> rfl, HB2.out⟩
  have HQref := Lib.hid hq1
  cases hq2 : noRf n.to
  · have HQto := Lib.hid hq2
    have HR := Lib.hid (show leafB n = false by unfold leafB; simp [hk, hnum, hq1, hq2])
    clear hq2
    clear hnum
    clear hq1
    clear hk
    go_wp2_with (first
      | (go_at_call 54; ((with_reducible refine (HN1.out _).mono ?_); rintro e w2 ⟨rfl, h1⟩; rw [HQref.out]; have HB2 := Lib.hid (HB.out.trans (h1.mono HB.out.size)); have HX2 := Lib.hid (HX.out.below h1 HX.out.lt); clear x0 x1 x2 x3 x4 x5 x6 x7 x8 x9 x10 x11 x12 x13; obtain ⟨x0, x1, x2, x3, x4, x5, x6, x7, x8, x9, x10, x11, x12, x13⟩ := HX2.out.cells; rw [HK.out] at x0; clear h1; clear HN1))
      | (go_at_call 54; ((with_reducible refine (HN2.out _).mono ?_); rintro e w3 ⟨rfl, h1⟩; rw [HQto.out]; have HB3 := Lib.hid (HB2.out.trans (h1.mono HB2.out.size)); have HX3 := Lib.hid (HX2.out.below h1 HX2.out.lt); clear x0 x1 x2 x3 x4 x5 x6 x7 x8 x9 x10 x11 x12 x13; obtain ⟨x0, x1, x2, x3, x4, x5, x6, x7, x8, x9, x10, x11, x12, x13⟩ := HX3.out.cells; rw [HK.out] at x0; clear h1)))
    go_ret
    exact ⟨by rw [HR.out] <;> rfl, HB3.out⟩
  have HQto := Lib.hid hq2
  obtain ⟨tx, htx⟩ : ∃ tx, n.text = tx := ⟨_, rfl⟩
  have HC := Lib.hid (show leafB n = callB tx by unfold leafB; simp [hk, hnum, hq1, hq2]; rw [htx])
  have HTX := Lib.hid htx
  rw [htx] at hs
  clear hnum
  clear hq1
  clear hq2
  clear hk
  clear htx
  have q1 := word_eq tx ⟨#[84, 82, 85, 69]⟩
  have q2 := word_eq tx ⟨#[70, 65, 76, 83, 69]⟩
  rw [list_true] at q1
  rw [list_false] at q2
  cases hq : readS tx with
  | some d =>
    have HSY := Lib.hid (fun (e : Ending) (he : Says (sb tx) e) => says_some hq he)
    have HQ := Lib.hid hq
    clear hq
    go_upto_region 12 with (first
      | (go_at_call 54; ((with_reducible refine (HN1.out _).mono ?_); rintro e w2 ⟨rfl, h1⟩; rw [HQref.out]; have HB2 := Lib.hid (HB.out.trans (h1.mono HB.out.size)); have HX2 := Lib.hid (HX.out.below h1 HX.out.lt); clear x0 x1 x2 x3 x4 x5 x6 x7 x8 x9 x10 x11 x12 x13; obtain ⟨x0, x1, x2, x3, x4, x5, x6, x7, x8, x9, x10, x11, x12, x13⟩ := HX2.out.cells; rw [HTX.out] at x2; rw [HK.out] at x0; clear h1; clear HN1))
      | (go_at_call 54; ((with_reducible refine (HN2.out _).mono ?_); rintro e w3 ⟨rfl, h1⟩; rw [HQto.out]; have HB3 := Lib.hid (HB2.out.trans (h1.mono HB2.out.size)); have HX3 := Lib.hid (HX2.out.below h1 HX2.out.lt); clear x0 x1 x2 x3 x4 x5 x6 x7 x8 x9 x10 x11 x12 x13; obtain ⟨x0, x1, x2, x3, x4, x5, x6, x7, x8, x9, x10, x11, x12, x13⟩ := HX3.out.cells; rw [HTX.out] at x2; rw [HK.out] at x0; clear h1))
      | (go_at_call 56; ((with_reducible refine (refRead_any tx _ hs).mono ?_); rintro e w4 ⟨h1, h2⟩; obtain rfl := HSY.out e h1; clear h1; have HB4 := Lib.hid (HB3.out.trans (h2.mono HB3.out.size)); have HX4 := Lib.hid (HX3.out.below h2 HX3.out.lt); clear h2)))
    have hB5 : Below w4.heap.size w4 (w4.alloc (.cells #[.string d.sh, .int .i64 d.c, .int .i64 d.r, .bool d.ac, .bool d.ar] 35)) := (Below.refl _ _).alloc (Nat.le_refl _) _
    have HB5 := Lib.hid (HB4.out.trans (hB5.mono HB4.out.size))
    have HX5 := Lib.hid (HX4.out.below hB5 HX4.out.lt)
    clear hB5 x0 x1 x2 x3 x4 x5 x6 x7 x8 x9 x10 x11 x12 x13
    generalize w4.alloc (.cells #[.string d.sh, .int .i64 d.c, .int .i64 d.r, .bool d.ac, .bool d.ar] 35) = w5 at HB5 HX5 ⊢
    obtain ⟨x0, x1, x2, x3, x4, x5, x6, x7, x8, x9, x10, x11, x12, x13⟩ := HX5.out.cells
    rw [HTX.out] at x2
    cases hc : calledL (sb tx)
    · have HCL := Lib.hid hc
      have HR := Lib.hid (show leafB n = false by rw [HC.out]; unfold callB; rw [HQ.out, hc]; rfl)
      clear hc
      go_wp2_with ((go_at_call 57; ((with_reducible refine (refCalled_any tx _ hs).mono ?_); rintro e wq ⟨rfl, rfl⟩; rw [HCL.out])))
      go_ret
      exact ⟨by rw [HR.out] <;> rfl, HB5.out⟩
    have HCL := Lib.hid hc
    have HR := Lib.hid (show leafB n = false by rw [HC.out]; unfold callB; rw [HQ.out, hc]; rfl)
    clear hc
    go_wp2_with ((go_at_call 57; ((with_reducible refine (refCalled_any tx _ hs).mono ?_); rintro e wq ⟨rfl, rfl⟩; rw [HCL.out])))
    go_ret
    exact ⟨by rw [HR.out] <;> rfl, HB5.out⟩
  | none =>
    have HSY := Lib.hid (fun (e : Ending) (he : Says (sb tx) e) => says_none hq he)
    have HQ := Lib.hid hq
    clear hq
    go_upto_region 12 with (first
      | (go_at_call 54; ((with_reducible refine (HN1.out _).mono ?_); rintro e w2 ⟨rfl, h1⟩; rw [HQref.out]; have HB2 := Lib.hid (HB.out.trans (h1.mono HB.out.size)); have HX2 := Lib.hid (HX.out.below h1 HX.out.lt); clear x0 x1 x2 x3 x4 x5 x6 x7 x8 x9 x10 x11 x12 x13; obtain ⟨x0, x1, x2, x3, x4, x5, x6, x7, x8, x9, x10, x11, x12, x13⟩ := HX2.out.cells; rw [HTX.out] at x2; rw [HK.out] at x0; clear h1; clear HN1))
      | (go_at_call 54; ((with_reducible refine (HN2.out _).mono ?_); rintro e w3 ⟨rfl, h1⟩; rw [HQto.out]; have HB3 := Lib.hid (HB2.out.trans (h1.mono HB2.out.size)); have HX3 := Lib.hid (HX2.out.below h1 HX2.out.lt); clear x0 x1 x2 x3 x4 x5 x6 x7 x8 x9 x10 x11 x12 x13; obtain ⟨x0, x1, x2, x3, x4, x5, x6, x7, x8, x9, x10, x11, x12, x13⟩ := HX3.out.cells; rw [HTX.out] at x2; rw [HK.out] at x0; clear h1))
      | (go_at_call 56; ((with_reducible refine (refRead_any tx _ hs).mono ?_); rintro e w4 ⟨h1, h2⟩; obtain rfl := HSY.out e h1; clear h1; have HB4 := Lib.hid (HB3.out.trans (h2.mono HB3.out.size)); have HX4 := Lib.hid (HX3.out.below h2 HX3.out.lt); clear h2)))
    have hB5 : Below w4.heap.size w4 (w4.alloc (.cells #[.string ⟨#[]⟩, .int .i64 0, .int .i64 0, .bool false, .bool false] 35)) := (Below.refl _ _).alloc (Nat.le_refl _) _
    have HB5 := Lib.hid (HB4.out.trans (hB5.mono HB4.out.size))
    have HX5 := Lib.hid (HX4.out.below hB5 HX4.out.lt)
    clear hB5 x0 x1 x2 x3 x4 x5 x6 x7 x8 x9 x10 x11 x12 x13
    generalize w4.alloc (.cells #[.string ⟨#[]⟩, .int .i64 0, .int .i64 0, .bool false, .bool false] 35) = w5 at HB5 HX5 ⊢
    obtain ⟨x0, x1, x2, x3, x4, x5, x6, x7, x8, x9, x10, x11, x12, x13⟩ := HX5.out.cells
    rw [HTX.out] at x2
    cases hc : calledL (sb tx)
    · have HCL := Lib.hid hc
      have HR := Lib.hid (show leafB n = false by rw [HC.out]; unfold callB; rw [HQ.out, hc]; rfl)
      clear hc
      go_wp2_with ((go_at_call 57; ((with_reducible refine (refCalled_any tx _ hs).mono ?_); rintro e wq ⟨rfl, rfl⟩; rw [HCL.out])))
      go_ret
      exact ⟨by rw [HR.out] <;> rfl, HB5.out⟩
    have HCL := Lib.hid hc
    by_cases g1 : tx = ⟨#[84, 82, 85, 69]⟩
    · rw [decide_eq_true g1] at q1
      have q1n : (tx.toList != [84, 82, 85, 69]) = false := by rw [bne, q1]; rfl
      have HR := Lib.hid (show leafB n = false by rw [HC.out]; unfold callB; rw [HQ.out, hc, decide_eq_false (show ¬ ¬ tx = _ from fun h => h g1)]; rfl)
      clear hc g1
      go_wp2_with ((go_at_call 57; ((with_reducible refine (refCalled_any tx _ hs).mono ?_); rintro e wq ⟨rfl, rfl⟩; rw [HCL.out])))
      go_ret
      exact ⟨by rw [HR.out] <;> rfl, HB5.out⟩
    rw [decide_eq_false g1] at q1
    have q1n : (tx.toList != [84, 82, 85, 69]) = true := by rw [bne, q1]; rfl
    by_cases g2 : tx = ⟨#[70, 65, 76, 83, 69]⟩
    · rw [decide_eq_true g2] at q2
      have q2n : (tx.toList != [70, 65, 76, 83, 69]) = false := by rw [bne, q2]; rfl
      have HR := Lib.hid (show leafB n = false by rw [HC.out]; unfold callB; rw [HQ.out, hc, decide_eq_false (show ¬ ¬ tx = ⟨#[70, 65, 76, 83, 69]⟩ from fun h => h g2)]; simp)
      clear hc g1 g2
      go_wp2_with ((go_at_call 57; ((with_reducible refine (refCalled_any tx _ hs).mono ?_); rintro e wq ⟨rfl, rfl⟩; rw [HCL.out])))
      go_ret
      exact ⟨by rw [HR.out] <;> rfl, HB5.out⟩
    rw [decide_eq_false g2] at q2
    have q2n : (tx.toList != [70, 65, 76, 83, 69]) = true := by rw [bne, q2]; rfl
    have HR := Lib.hid (show leafB n = true by rw [HC.out]; unfold callB; rw [HQ.out, hc, decide_eq_true g1, decide_eq_true g2]; rfl)
    clear hc g1 g2
    go_wp2_with ((go_at_call 57; ((with_reducible refine (refCalled_any tx _ hs).mono ?_); rintro e wq ⟨rfl, rfl⟩; rw [HCL.out])))
    go_ret
    exact ⟨by rw [HR.out] <;> rfl, HB5.out⟩


theorem refLeaf_any (n : Nd) (hs : n.text.size ≤ 1000000) (hr : n.ref.sh.size ≤ 1000000) (ht : n.to.sh.size ≤ 1000000) (A : Option Addr) (m c : Nat) (w : World) : Calls Tryz.prog 32 #[.agg #[.int .i64 n.kind, .int .i64 n.num, .string n.text, .string n.ref.sh, .int .i64 n.ref.c, .int .i64 n.ref.r, .bool n.ref.ac, .bool n.ref.ar, .string n.to.sh, .int .i64 n.to.c, .int .i64 n.to.r, .bool n.to.ac, .bool n.to.ar, .slice A m c]] w fun e w' => e = .returned (.bool (leafB n)) ∧ Below w.heap.size w w' := by
  by_cases h1 : n.kind = 1
  · exact refLeaf_1 n h1 hs hr ht A m c w
  by_cases h2 : n.kind = 2
  · exact refLeaf_2 n h2 hs hr ht A m c w
  by_cases h3 : n.kind = 3
  · exact refLeaf_3 n h3 hs hr ht A m c w
  by_cases h5 : n.kind = 5
  · exact refLeaf_5 n h5 hs hr ht A m c w
  by_cases h6 : n.kind = 6
  · exact refLeaf_6 n h6 hs hr ht A m c w
  by_cases h7 : n.kind = 7
  · exact refLeaf_7 n h7 hs hr ht A m c w
  exact refLeaf_x n h1 h2 h3 h5 h6 h7 hs hr ht A m c w
end Go.Proofs.YtdfpalocnijefaaGreatDoor

/-
  Layer 5, the program: slices of numbers compared.
-/
namespace Go.Proofs.YtdfpalocnijefaaGreatDoor
open Go.RowKit

/-- A slice of numbers that reads as xs, below block B. -/
def SI (w : World) (B : Nat) (v : Value) (xs : List Int) : Prop :=
  ∃ A cap, v = .slice A xs.length cap ∧ xs.length ≤ cap ∧ cap ≤ maxLen ∧ (xs = [] ∨ ∃ pb po, A = some ⟨pb, po, none⟩ ∧ pb < B ∧ ∀ (j : Nat) (x : Int), xs[j]? = some x → w.cell? ⟨pb, po + j, none⟩ = some (.int .i64 x))
theorem SI.below {w w' : World} {B C : Nat} {v : Value} {xs : List Int} (h : SI w B v xs) (hb : Below C w w') (hC : B ≤ C) : SI w' B v xs := by
  obtain ⟨A, cap, h1, h2, h3, h4⟩ := h
  refine ⟨A, cap, h1, h2, h3, h4.imp id ?_⟩
  rintro ⟨pb, po, e1, e2, e3⟩
  exact ⟨pb, po, e1, e2, fun j x hj => (hb.cell (p := ⟨pb, po + j, none⟩) (by show pb < C; omega)).trans (e3 j x hj)⟩
theorem SI.mono {w : World} {B C : Nat} {v : Value} {xs : List Int} (h : SI w B v xs) (hC : B ≤ C) : SI w C v xs := by
  obtain ⟨A, cap, h1, h2, h3, h4⟩ := h
  refine ⟨A, cap, h1, h2, h3, h4.imp id ?_⟩
  rintro ⟨pb, po, e1, e2, e3⟩
  exact ⟨pb, po, e1, by omega, e3⟩
theorem own_at {w : World} {base g n cap : Nat} {st : List Int} (h : Own (encInt .i64) 3 w base (.slice (some ⟨g, 0, none⟩) n cap) st) (j : Nat) (x : Int) (hj : st[j]? = some x) : w.cell? ⟨g, j, none⟩ = some (.int .i64 x) := by
  have hl := (List.getElem?_eq_some_iff.1 hj).1
  have h1 := Own.intCell h j hl
  rw [List.getD_eq_getElem?_getD, hj] at h1; exact h1
/-- The end of a slice that the call made. -/
theorem SI.tail {w : World} {base g cap : Nat} {st : List Int} (h : Own (encInt .i64) 3 w base (.slice (some ⟨g, 0, none⟩) st.length cap) st) (f : Nat) (hf : f ≤ st.length) (hc : st.length ≤ cap) (hm : cap ≤ maxLen) (hg : g < w.heap.size) : SI w w.heap.size (.slice (if cap = f then some ⟨g, 0, none⟩ else some ⟨g, f, none⟩) (st.length - f) (cap - f)) (st.drop f) := by
  refine ⟨_, _, by rw [List.length_drop], by rw [List.length_drop]; omega, by omega, ?_⟩
  by_cases h0 : st.drop f = []
  · exact .inl h0
  · have hne : ¬ cap = f := fun e => h0 (List.drop_of_length_le (by omega))
    refine .inr ⟨g, f, by rw [if_neg hne], hg, fun j x hj => ?_⟩
    rw [List.getElem?_drop] at hj
    exact own_at h (f + j) x hj
theorem own_take {w : World} {base g cap : Nat} {st : List Int} (h : Own (encInt .i64) 3 w base (.slice (some ⟨g, 0, none⟩) st.length cap) st) (k : Nat) (hk : k ≤ st.length) : Own (encInt .i64) 3 w base (.slice (some ⟨g, 0, none⟩) k cap) (st.take k) := by
  have hl : (st.take k).length = k := by rw [List.length_take]; omega
  rcases h.2 with ⟨h1, _⟩ | ⟨g', cap', cur, h1, h2, h3, h4, h5, h6, h7⟩
  · cases h1
  · injection h1 with e1 e2 e3
    injection e1 with e1; injection e1 with e1
    subst e1; subst e3
    refine ⟨by rw [Enc.length_all], .inr ⟨g, cap, cur, by rw [hl], h2, h3, by omega, h5, h6, ?_⟩⟩
    rw [hl, all_encInt, List.map_take, ← all_encInt, ← h7, List.take_take, Nat.mul_one, Nat.mul_one]
    congr 1; omega

theorem take_snoc {xs ys : List Int} {k : Nat} {x : Int} (h : xs.take k = ys.take k) (hx : xs[k]? = some x) (hy : ys[k]? = some x) : xs.take (k + 1) = ys.take (k + 1) := by
  rw [List.take_add_one, List.take_add_one, h, hx, hy]
set_option maxRecDepth 100000 in
set_option maxHeartbeats 1600000 in
theorem equal_any (w : World) (B : Nat) (v1 v2 : Value) (xs ys : List Int) (h1 : SI w B v1 xs) (h2 : SI w B v2 ys) : Calls Tryz.prog 29 #[v1, v2] w fun e w' => e = .returned (.bool (decide (xs = ys))) ∧ Below w.heap.size w w' := by
  obtain ⟨A1, cap1, rfl, hc1, hm1, a1⟩ := h1
  obtain ⟨A2, cap2, rfl, hc2, hm2, a2⟩ := h2
  unfold maxLen at hm1 hm2
  obtain ⟨n1, hn1⟩ : ∃ n1, xs.length = n1 := ⟨_, rfl⟩
  obtain ⟨n2, hn2⟩ : ∃ n2, ys.length = n2 := ⟨_, rfl⟩
  rw [hn1] at hc1 ⊢
  rw [hn2] at hc2 ⊢
  by_cases hl : n1 = n2
  · subst hl
    have HA1 := Lib.hid a1; have HA2 := Lib.hid a2; have HN1 := Lib.hid hn1; have HN2 := Lib.hid hn2
    clear a1 a2 hn1 hn2
    go_enter Tryz.func29, Tryz.ntmps29
    go_upto_region 4 with (fail)
    go_loopw [13] (fun i wr => ∃ (k m : Nat), k ≤ n1 ∧ i = .int .i64 (k : Int) ∧ Hid (xs.take k = ys.take k) ∧ w.drewN m = wr)
      (fun i _ => n1 - (intOf i).toNat)
    case atStart => exact ⟨0, 0, Nat.zero_le _, rfl, Lib.hid rfl, rfl⟩
    case round =>
      obtain ⟨k, m, hk, rfl, HT, rfl⟩ := hrel
      by_cases hlt : k < n1
      · have hki : (k : Int) < (n1 : Int) := by omega
        obtain ⟨x, hx⟩ : ∃ x, xs[k]? = some x := ⟨_, List.getElem?_eq_getElem (by rw [HN1.out]; exact hlt)⟩
        obtain ⟨y, hy⟩ : ∃ y, ys[k]? = some y := ⟨_, List.getElem?_eq_getElem (by rw [HN2.out]; exact hlt)⟩
        rcases HA1.out with e | ⟨p1, o1, rfl, -, c1⟩
        · exfalso; rw [e] at hx; simp at hx
        rcases HA2.out with e | ⟨p2, o2, rfl, -, c2⟩
        · exfalso; rw [e] at hy; simp at hy
        have k1 := c1 k x hx
        have k2 := c2 k y hy
        have HX := Lib.hid hx; have HY := Lib.hid hy
        clear c1 c2 hx hy
        by_cases hxy : x = y
        · have ex : (x != y) = false := by rw [hxy]; simp
          have HT2 := Lib.hid (take_snoc HT.out HX.out (by rw [hxy]; exact HY.out))
          clear hxy
          go_wp2_with fail
          go_quiet (fail)
          go_wp2_with fail
          go_roundw
          case rel => exact ⟨k + 1, _, by omega, by go_num, HT2, by first | rfl | trivial⟩
          case measure => simp [intOf]; omega
        · have ex : (x != y) = true := by rw [bne_iff_ne]; exact hxy
          have HR := Lib.hid (show ¬ xs = ys from fun e => hxy (by have h1 := HX.out; rw [e, HY.out] at h1; exact (Option.some.inj h1).symm))
          clear hxy
          go_wp2_with fail
          go_quiet (fail)
          go_wp2_with fail
          go_ret
          exact ⟨by rw [decide_eq_false HR.out] <;> rfl, drew_below (drew_below (Below.refl _ _) m) nq⟩
      · have hki : ¬ (k : Int) < (n1 : Int) := by omega
        have HR := Lib.hid (show xs = ys by
          have h1 := HT.out
          rw [List.take_of_length_le (by rw [HN1.out]; omega), List.take_of_length_le (by rw [HN2.out]; omega)] at h1
          exact h1)
        go_wp2_with fail
        go_ret
        exact ⟨by rw [decide_eq_true HR.out] <;> rfl, drew_below (Below.refl _ _) m⟩
  · have hne : ((n1 : Int) != (n2 : Int)) = true := by rw [bne_iff_ne]; omega
    have HR := Lib.hid (show ¬ xs = ys from fun e => hl (by rw [← hn1, ← hn2, e]))
    clear a1 a2 hn1 hn2
    go_enter Tryz.func29, Tryz.ntmps29
    go_wp2_with fail
    go_ret
    exact ⟨by rw [decide_eq_false HR.out] <;> rfl, Below.refl _ _⟩
end Go.Proofs.YtdfpalocnijefaaGreatDoor
