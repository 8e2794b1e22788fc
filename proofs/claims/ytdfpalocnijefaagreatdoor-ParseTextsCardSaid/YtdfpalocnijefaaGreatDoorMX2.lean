/-
  Texts of layers, put together.
-/
import Derived.Test.YtdfpalocnijefaaGreatDoorMX1
import Derived.Laws.ResultCell
import Derived.Deep.DeepCutAuto
import Derived.Deep.CutBlock
/-
  Layer 3, the reference: ReadRef, walked.
-/
namespace Go.Proofs.YtdfpalocnijefaaGreatDoor
open Go.RowKit

/-- What a false answer leaves. -/
def Nay (w : World) (e : Ending) (w' : World) : Prop := e = .returned (.tuple #[.agg #[.string ⟨#[]⟩, .int .i64 0, .int .i64 0, .bool false, .bool false], .bool false]) ∧ Below w.heap.size w w'
theorem ref_facts {w wr : World} {sh : ByteArray} {c r : Int} {ac ar : Bool} (h : RSt w wr sh c r ac ar) :
    (wr.cell? ⟨w.heap.size + 1, 0, none⟩ = some (.string sh) ∧ wr.cell? ⟨w.heap.size + 1, 1, none⟩ = some (.int .i64 c) ∧ wr.cell? ⟨w.heap.size + 1, 2, none⟩ = some (.int .i64 r) ∧ wr.cell? ⟨w.heap.size + 1, 3, none⟩ = some (.bool ac) ∧ wr.cell? ⟨w.heap.size + 1, 4, none⟩ = some (.bool ar)) ∧
    (wr.cell? ⟨w.heap.size, 0, none⟩ = some (.string ⟨#[]⟩) ∧ wr.cell? ⟨w.heap.size, 1, none⟩ = some (.int .i64 0) ∧ wr.cell? ⟨w.heap.size, 2, none⟩ = some (.int .i64 0) ∧ wr.cell? ⟨w.heap.size, 3, none⟩ = some (.bool false) ∧ wr.cell? ⟨w.heap.size, 4, none⟩ = some (.bool false)) := ⟨h.ref.facts, h.res.facts⟩
theorem ext_sb (s : ByteArray) (a m : Nat) : sb (s.extract a (a + m)) = ((sb s).drop a).take m := by
  unfold sb; rw [← List.map_drop, ← List.map_take]; congr 1
  rw [ByteArray.data_extract, Array.toList_extract]
  rw [List.extract_eq_take_drop]
  congr 1; omega
theorem rd_at (d : Rd) (m : Nat) (h : d.k + m < d.s.size) : d.rest[m]? = some ((d.s[d.k + m].toNat : Nat) : Int) := by
  unfold Rd.rest; rw [List.getElem?_drop, sb_at d.s _ h]
theorem take_nx (d : Rd) (s : ByteArray) (m p : Nat) (a : Int) (hs : d.s = s) (hp : d.k + m = p) (h : p < s.size) (ha : ((s[p].toNat : Nat) : Int) = a) : d.rest.take (m + 1) = d.rest.take m ++ [a] ∧ d.rest[m]? = some a := by
  subst hs; subst hp; subst ha
  exact ⟨take_next d m h, rd_at d m h⟩
theorem val_bd4 (l : List Int) (h : ∀ x ∈ l, isNum x = true) (hl : l.length ≤ 4) : 0 ≤ valL l ∧ valL l ≤ 9999 := by
  match l, hl, h with
  | [], _, _ => exact ⟨by decide, by decide⟩
  | [a], _, h =>
    have h1 := num_bd (h a (by simp))
    unfold valL; simp only [List.foldl_cons, List.foldl_nil]; omega
  | [a, b], _, h =>
    have h1 := num_bd (h a (by simp)); have h2 := num_bd (h b (by simp))
    unfold valL; simp only [List.foldl_cons, List.foldl_nil]; omega
  | [a, b, c], _, h =>
    have h1 := num_bd (h a (by simp)); have h2 := num_bd (h b (by simp)); have h3 := num_bd (h c (by simp))
    unfold valL; simp only [List.foldl_cons, List.foldl_nil]; omega
  | [a, b, c, d], _, h =>
    have h1 := num_bd (h a (by simp)); have h2 := num_bd (h b (by simp)); have h3 := num_bd (h c (by simp)); have h4 := num_bd (h d (by simp))
    unfold valL; simp only [List.foldl_cons, List.foldl_nil]; omega
theorem span_take (p : Int → Bool) (d : Rd) : ((sb d.s).drop d.k).take (d.rest.takeWhile p).length = d.rest.takeWhile p := by
  have e := take_split p d.rest
  have h : (d.rest.takeWhile p ++ d.rest.drop (d.rest.takeWhile p).length).take (d.rest.takeWhile p).length = d.rest.takeWhile p := List.take_left
  rw [e] at h; exact h
theorem ref_size : (Tryz.prog.info? 35).map (·.size) = some 5 := by kernel_rfl
/-- A reference stored whole into a block that holds one. -/
theorem wpList_store_ref {ops : Array Oper} {rest : List Oper} {op : Oper} {a : Act} {w : World} {Q : Exit → Act → World → Prop} (hgd : op.guard = none) (x y : Operand) (ho : op.op = .store 35 x y)
    (g : Nat) (s0 : ByteArray) (c0 r0 : Int) (ac0 ar0 : Bool) (s : ByteArray) (c r : Int) (ac ar : Bool) (hx : a.eval x = .pointer (some ⟨g, 0, none⟩)) (hy : a.eval y = .agg #[.string s, .int .i64 c, .int .i64 r, .bool ac, .bool ar]) (hr : RefAt w g s0 c0 r0 ac0 ar0)
    (h : ∀ w', RefAt w' g s c r ac ar → w.grownBy w' (some g) → wpList Tryz.prog ops Q rest (a.put op.dst undef) w') : wpList Tryz.prog ops Q (op :: rest) a w := by
  refine wpList_store_row hgd 35 x y ho g 35 _ _ hx hy hr rfl ref_size ?_ (h _ (setRow_heap w g _ _ _ _ hr) (grownBy.setRow' (grownBy.refl' w _) _))
  intro v hv
  simp only [List.mem_cons, List.not_mem_nil, or_false] at hv
  rcases hv with rfl | rfl | rfl | rfl | rfl <;> rfl
theorem RefAt.load {w : World} {b : Nat} {s : ByteArray} {c r : Int} {ac ar : Bool} (h : RefAt w b s c r ac ar) : (loadVar 35 ⟨b, 0, none⟩).run Tryz.prog w = .ok (.agg #[.string s, .int .i64 c, .int .i64 r, .bool ac, .bool ar]) w :=
  run_loadVar_row w b 35 35 _ _ _ h Tryz.underlying35 rfl ref_size
/-- The way out: a result out of its cell, a Bool beside it. -/
theorem out_ref {w : World} {b : Nat} {s : ByteArray} {c r : Int} {ac ar : Bool} (h : RefAt w b s c r ac ar) (fn : Func) (tmps : Array Value) (ok : Bool) (p u : Tmp) (hf : fn.results = #[.cell p 35, .tmp u]) (hp : tmps.getD p undef = .pointer (some ⟨b, 0, none⟩)) (hu : tmps.getD u undef = .bool ok) :
    (results fn tmps).run Tryz.prog w = .ok (.tuple #[.agg #[.string s, .int .i64 c, .int .i64 r, .bool ac, .bool ar], .bool ok]) w := by
  rw [results_cell_tmp hf, hp, hu]
  simp [asAddr, h.load, Result.andThen]
theorem res_ReadRef : Tryz.f56.results = #[.cell 2 35, .tmp 3] := by kernel_rfl
theorem rd_past (d : Rd) (m : Nat) (h : d.s.size ≤ d.k + m) : d.rest[m]? = none := by
  rw [List.getElem?_eq_none_iff, length_rest]; omega
theorem mark_t (d : Rd) (h : d.k < d.s.size) (h2 : ((d.s[d.k].toNat : Nat) : Int) = 36) : d.mark = true := by
  unfold Rd.mark; rw [rest_get d h, h2]; rfl
theorem mark_f (d : Rd) (h : d.k < d.s.size) (h2 : ¬ ((d.s[d.k].toNat : Nat) : Int) = 36) : d.mark = false := by
  unfold Rd.mark; rw [rest_get d h, decide_eq_false_iff_not]; intro h3; injection h3 with h3; exact h2 h3
theorem mark_ts (d : Rd) (s : ByteArray) (hs : d.s = s) (h : d.k < s.size) (h2 : ((s[d.k].toNat : Nat) : Int) = 36) : d.mark = true := by subst hs; exact mark_t d h h2
theorem mark_fs (d : Rd) (s : ByteArray) (hs : d.s = s) (h : d.k < s.size) (h2 : ¬ ((s[d.k].toNat : Nat) : Int) = 36) : d.mark = false := by subst hs; exact mark_f d h h2
theorem absColF_k (d : Rd) : d.absColF.k = d.k + (dol d.mark).length := rfl
theorem absRowF_k (d : Rd) : d.absRowF.k = d.k + (dol d.mark).length := rfl
theorem mark_e (d : Rd) (h : d.s.size ≤ d.k) : d.mark = false := by unfold Rd.mark; rw [rest_end d h]; rfl
theorem mark_es (d : Rd) (s : ByteArray) (hs : d.s = s) (h : s.size ≤ d.k) : d.mark = false := by subst hs; exact mark_e d h

set_option maxRecDepth 100000 in
set_option maxHeartbeats 1000000 in
theorem refRead_main (s : ByteArray) (w : World) (_hs : s.size ≤ 1000000) (d1 : Rd) (hs1 : d1.s = s) (hk1 : d1.k ≤ s.size) (hsheet : ∀ e, (Rd.start s).sheet = some e → e = d1) (m : Nat)
    (hd1 : (m = s.size ∧ d1.k = 0 ∧ d1.sh = ⟨#[]⟩) ∨ (m < s.size ∧ 0 < m ∧ d1.k = m + 1 ∧ d1.sh = s.extract 0 m ∧ ∀ h : m < s.size, ((s[m].toNat : Nat) : Int) = 33)) (hbytes : ∀ (k : Nat) (h : k < s.size), k < m → ¬ ((s[k].toNat : Nat) : Int) = 33) :
    Calls Tryz.prog 56 #[.string s] w fun e w' => Says (sb s) e ∧ Below w.heap.size w w' := by
  have hst : RSt w ((w.alloc (.cells #[.string ⟨#[]⟩, .int .i64 0, .int .i64 0, .bool false, .bool false] 35)).alloc (.cells #[.string ⟨#[]⟩, .int .i64 0, .int .i64 0, .bool false, .bool false] 35)) ⟨#[]⟩ 0 0 false false := by
    have h0 := RefAt.new w ⟨#[]⟩ 0 0 false false
    have hsz : (w.alloc (.cells #[.string ⟨#[]⟩, .int .i64 0, .int .i64 0, .bool false, .bool false] 35)).heap.size = w.heap.size + 1 := by simp
    have h1 := RefAt.new (w.alloc (.cells #[.string ⟨#[]⟩, .int .i64 0, .int .i64 0, .bool false, .bool false] 35)) ⟨#[]⟩ 0 0 false false
    rw [hsz] at h1
    exact ⟨h0.below ((Below.refl _ _).alloc (Nat.le_refl _) _) h0.lt, h1, ((Below.refl _ _).alloc (Nat.le_refl _) _).alloc (by rw [hsz]; omega) _⟩
  have HST := Lib.hid hst; clear hst
  have HS1 := Lib.hid hs1; clear hs1
  have HSHT := Lib.hid hsheet; clear hsheet
  have hshz : d1.sh.size ≤ 1000000 := by
    rcases hd1 with ⟨_, _, h⟩ | ⟨_, _, _, h, _⟩
    · rw [h]; exact Nat.zero_le _
    · rw [h, ByteArray.size_extract]; omega
  have HD1 := Lib.hid hd1; clear hd1
  have HBY := Lib.hid hbytes; clear hbytes
  go_enter Tryz.func56, Tryz.ntmps56
  go_upto_block 0 with (fail)
  go_cut [5] (fun at_ wx => at_ = .int .i64 (d1.k : Int) ∧ RSt w wx d1.sh 0 0 false false)
  case first =>
    go_wp2_with fail
    go_loopw [5, 6] (fun at_ i wr => ∃ k : Nat, k ≤ s.size ∧ k ≤ m ∧ at_ = .int .i64 0 ∧ i = .int .i64 k ∧ Hid (RSt w wr ⟨#[]⟩ 0 0 false false))
      (fun _ i _ => s.size - (intOf i).toNat)
    case atStart => exact ⟨0, by omega, by omega, rfl, rfl, HST⟩
    case round =>
      clear HST
      obtain ⟨k, hk, hkm, rfl, rfl, HST⟩ := hrel
      by_cases hlt : k < s.size
      · have hki : (k : Int) < (s.size : Int) := by omega
        obtain ⟨a, ha⟩ : ∃ a : Int, (s[k].toNat : Int) = a := ⟨_, rfl⟩
        by_cases hm : k < m
        · have ha33 : (a == 33) = false := beq_eq_false_iff_ne.2 (by rw [← ha]; exact HBY.out k hlt hm)
          go_wp2_with fail
          go_roundw
          case rel => exact ⟨k + 1, by omega, by omega, rfl, by go_num, HST⟩
          case measure => simp [intOf]; omega
        · obtain rfl : k = m := by omega
          have hd := HD1.out.resolve_left (by omega)
          have ha33 : (a == 33) = true := beq_iff_eq.2 (by rw [← ha]; exact hd.2.2.2.2 hlt)
          have hk0 : ((k : Int) == 0) = false := beq_eq_false_iff_ne.2 (by have := hd.2.1; omega)
          have hk00 : (0 : Int) ≤ (k : Int) := by omega
          have HDD := Lib.hid hd; clear hd
          obtain ⟨x0, x1, x2, x3, x4⟩ := HST.out.ref.facts
          clear x1 x2 x3 x4
          have z0 := (HST.out.ref.frozen 0)
          go_wp2_with fail
          go_meet
          case rel => exact ⟨by rw [HDD.out.2.2.1]; rfl, by rw [HDD.out.2.2.2.1]; exact RSt.set 0 HST.out (.string (s.extract 0 k)) _ 0 0 false false rfl⟩
      · have hki : ¬ (k : Int) < (s.size : Int) := by omega
        have hd := HD1.out.resolve_right (by omega)
        have HDD := Lib.hid hd; clear hd
        go_wp2_with fail
        go_meet
        case rel => exact ⟨by rw [HDD.out.2.1]; rfl, by rw [HDD.out.2.2]; exact HST.out⟩
  case rest =>
    obtain ⟨rfl, hst2⟩ := hcut
    clear HST
    have HST := Lib.hid hst2; clear hst2
    go_upto_region 11 with (fail)
    go_cut [40] (fun t wx => t = .bool d1.mark ∧ RSt w wx d1.sh 0 0 false false)
    case first =>
      by_cases hlt : d1.k < s.size
      · have hki : (d1.k : Int) < (s.size : Int) := by omega
        obtain ⟨a, ha⟩ : ∃ a : Int, (s[d1.k].toNat : Int) = a := ⟨_, rfl⟩
        by_cases h36 : a = 36
        · have hj : (a == 36) = true := beq_iff_eq.2 h36
          have hmk : d1.mark = true := mark_ts d1 s HS1.out hlt (by rw [ha, h36])
          have HMK := Lib.hid hmk; clear hmk h36
          go_wp2_with fail
          go_meet
          case rel => exact ⟨by rw [HMK.out], HST.out⟩
        · have hj : (a == 36) = false := beq_eq_false_iff_ne.2 h36
          have hmk : d1.mark = false := mark_fs d1 s HS1.out hlt (by rw [ha]; exact h36)
          have HMK := Lib.hid hmk; clear hmk h36
          go_wp2_with fail
          go_meet
          case rel => exact ⟨by rw [HMK.out], HST.out⟩
      · have hki : ¬ (d1.k : Int) < (s.size : Int) := by omega
        have hmk : d1.mark = false := mark_es d1 s HS1.out (by omega)
        have HMK := Lib.hid hmk; clear hmk
        go_wp2_with fail
        go_meet
        case rel => exact ⟨by rw [HMK.out], HST.out⟩
    case rest =>
      obtain ⟨rfl, hst2⟩ := hcut
      clear HST
      have HST := Lib.hid hst2; clear hst2
      go_upto_if 40 with (fail)
      go_cut [5] (fun k wx => k = .int .i64 (d1.absColF.k : Int) ∧ RSt w wx d1.sh 0 0 d1.mark false)
      case first =>
        obtain ⟨x0, x1, x2, x3, x4⟩ := HST.out.ref.facts
        have z0 := (HST.out.ref.frozen 0); have z1 := (HST.out.ref.frozen 1); have z2 := (HST.out.ref.frozen 2); have z3 := (HST.out.ref.frozen 3); have z4 := (HST.out.ref.frozen 4)
        cases hm : d1.mark with
        | true =>
          have HMK := Lib.hid hm; clear hm
          go_wp2_with fail
          go_meet
          case rel => exact ⟨by rw [show d1.absColF.k = d1.k + 1 from by rw [absColF_k, HMK.out]; rfl]; rfl, (by first | (rw [HMK.out]; exact RSt.set 3 HST.out (.bool true) d1.sh 0 0 true false rfl) | exact RSt.set 3 HST.out (.bool true) d1.sh 0 0 true false rfl)⟩
        | false =>
          have HMK := Lib.hid hm; clear hm
          go_wp2_with fail
          go_meet
          case rel => exact ⟨by rw [show d1.absColF.k = d1.k from by rw [absColF_k, HMK.out]; rfl], (by first | (rw [HMK.out]; exact HST.out) | exact HST.out)⟩
      case rest =>
        obtain ⟨rfl, hst2⟩ := hcut
        clear HST
        have HST := Lib.hid hst2; clear hst2
        obtain ⟨d2, hd2⟩ : ∃ d : Rd, d1.absColF = d := ⟨_, rfl⟩
        rw [hd2]
        have hs2 : d2.s = s := by rw [← hd2]; exact HS1.out
        have hk2 : d2.k ≤ s.size := by rw [← hd2, absColF_k, ← HS1.out]; exact mark_le d1 (by rw [HS1.out]; exact hk1)
        obtain ⟨d3, hd3⟩ : ∃ d : Rd, d2.colF = d := ⟨_, rfl⟩
        have hk3 : d3.k = d2.k + (d2.rest.takeWhile isCap).length := by rw [← hd3]; rfl
        have hle3 : d3.k ≤ s.size := by rw [hk3, ← hs2]; exact span_le isCap d2 (by rw [hs2]; exact hk2)
        have hs3 : d3.s = s := by rw [← hd3]; exact hs2
        have hc3 : readColL (d2.rest.takeWhile isCap) = d3.c := by rw [← hd3]; rfl
        obtain ⟨ok3, hok3⟩ : ∃ b : Bool, isCol (d2.rest.takeWhile isCap) = b := ⟨_, rfl⟩
        have hspan : sb (s.extract d2.k d3.k) = d2.rest.takeWhile isCap := by
          rw [hk3, ext_sb, ← hs2]; exact span_take isCap d2
        have hesz : (s.extract d2.k d3.k).size ≤ 1000000 := by rw [ByteArray.size_extract]; omega
        have hkp : (d2.k : Int) ≤ (d3.k : Int) := by omega
        have hps : (d3.k : Int) ≤ (s.size : Int) := by omega
        have HD2 := Lib.hid hd2; clear hd2
        have HS2 := Lib.hid hs2; clear hs2
        have HD3 := Lib.hid hd3; clear hd3
        have HS3 := Lib.hid hs3; clear hs3
        have HC3 := Lib.hid hc3; clear hc3
        have HK3 := Lib.hid hk3; clear hk3
        have HOK3 := Lib.hid hok3; clear hok3
        have HSPAN := Lib.hid hspan; clear hspan
        go_upto_block 2 with (fail)
        go_cut [7] (fun t wx => t = .int .i64 (d3.k : Int) ∧ RSt w wx d1.sh 0 0 d1.mark false)
        case first =>
          go_wp2_with fail
          go_loopw [7] (fun t wr => ∃ m : Nat, d2.k + m ≤ s.size ∧ t = .int .i64 ((d2.k + m : Nat) : Int) ∧ Hid (∀ x ∈ d2.rest.take m, isCap x = true) ∧ Hid (RSt w wr d1.sh 0 0 d1.mark false))
            (fun t _ => s.size - (intOf t).toNat)
          case atStart => exact ⟨0, by omega, rfl, Lib.hid (by simp), HST⟩
          case round =>
            clear HST
            obtain ⟨m, hm, rfl, HALL, HST⟩ := hrel
            obtain ⟨p, hp⟩ : ∃ p : Nat, d2.k + m = p := ⟨_, rfl⟩
            rw [hp]
            have HP := Lib.hid hp
            have hp2 : p ≤ s.size := by omega
            clear hp
            by_cases hlt : p < s.size
            · have hki : (p : Int) < (s.size : Int) := by omega
              obtain ⟨a, ha⟩ : ∃ a : Int, (s[p].toNat : Int) = a := ⟨_, rfl⟩
              have ha1 : 0 ≤ a ∧ a ≤ 255 := by have := s[p].toNat_lt; omega
              have hnx := take_nx d2 s m p a HS2.out HP.out hlt ha
              have HNX := Lib.hid hnx; clear hnx
              by_cases hc : isCap a = true
              · go_wp2_with (go_at_call 95; ((with_reducible refine (refCapital_any _ ?_ ?_ _).mono ?_); (first | omega | skip); (first | omega | skip); rintro e w' ⟨rfl, rfl⟩))
                go_roundw
                case rel => exact ⟨m + 1, by have := HP.out; omega, by rw [show d2.k + (m + 1) = p + 1 from by have := HP.out; omega]; rfl, Lib.hid (by rw [HNX.out.1]; exact all_snoc HALL.out hc), HST⟩
                case measure => simp [intOf]; omega
              · have hc' : isCap a = false := by simpa using hc
                clear hc
                have hsp := span_stop isCap d2.rest m HALL.out (fun x hx => by rw [HNX.out.2] at hx; injection hx with hx; rw [← hx]; exact hc')
                have hpk : p = d3.k := by rw [HK3.out, hsp, List.length_take, length_rest, HS2.out]; have := HP.out; omega
                have HPK := Lib.hid hpk; clear hpk hsp
                go_wp2_with (go_at_call 95; ((with_reducible refine (refCapital_any _ ?_ ?_ _).mono ?_); (first | omega | skip); (first | omega | skip); rintro e w' ⟨rfl, rfl⟩))
                go_meet
                case rel => exact ⟨by rw [HPK.out], HST.out⟩
            · have hki : ¬ (p : Int) < (s.size : Int) := by omega
              have hsp := span_stop isCap d2.rest m HALL.out (fun x hx => by rw [rd_past d2 m (by rw [HS2.out]; have := HP.out; omega)] at hx; cases hx)
              have hpk : p = d3.k := by rw [HK3.out, hsp, List.length_take, length_rest, HS2.out]; have := HP.out; omega
              have HPK := Lib.hid hpk; clear hpk hsp
              go_wp2_with fail
              go_meet
              case rel => exact ⟨by rw [HPK.out], HST.out⟩
        case rest =>
          obtain ⟨rfl, hst2⟩ := hcut
          clear HST
          have HST := Lib.hid hst2; clear hst2
          go_upto_region 18 with (first | (go_at_call 96; ((with_reducible refine (refReadCol_any _ _ ?_).mono ?_); (first | omega | skip); rintro e w1 ⟨rfl, n, rfl⟩; rw [HSPAN.out, HC3.out, HOK3.out]; have HST := Lib.hid (HST.out.drewN n))))
          clear hkp hps hesz
          go_upto_region 18 with (fail)
          go_cut [74] (fun t wx => t = .bool d3.mark ∧ RSt w wx d1.sh 0 0 d1.mark false)
          case first =>
            by_cases hlt : d3.k < s.size
            · have hki : (d3.k : Int) < (s.size : Int) := by omega
              obtain ⟨a, ha⟩ : ∃ a : Int, (s[d3.k].toNat : Int) = a := ⟨_, rfl⟩
              by_cases h36 : a = 36
              · have hj : (a == 36) = true := beq_iff_eq.2 h36
                have hmk : d3.mark = true := mark_ts d3 s HS3.out hlt (by rw [ha, h36])
                have HMK := Lib.hid hmk; clear hmk h36
                go_wp2_with fail
                go_meet
                case rel => exact ⟨by rw [HMK.out], HST.out⟩
              · have hj : (a == 36) = false := beq_eq_false_iff_ne.2 h36
                have hmk : d3.mark = false := mark_fs d3 s HS3.out hlt (by rw [ha]; exact h36)
                have HMK := Lib.hid hmk; clear hmk h36
                go_wp2_with fail
                go_meet
                case rel => exact ⟨by rw [HMK.out], HST.out⟩
            · have hki : ¬ (d3.k : Int) < (s.size : Int) := by omega
              have hmk : d3.mark = false := mark_es d3 s HS3.out (by omega)
              have HMK := Lib.hid hmk; clear hmk
              go_wp2_with fail
              go_meet
              case rel => exact ⟨by rw [HMK.out], HST.out⟩
          case rest =>
            obtain ⟨rfl, hst2⟩ := hcut
            clear HST
            have HST := Lib.hid hst2; clear hst2
            go_upto_if 74 with (fail)
            go_cut [7] (fun k wx => k = .int .i64 (d3.absRowF.k : Int) ∧ RSt w wx d1.sh 0 0 d1.mark d3.mark)
            case first =>
              obtain ⟨x0, x1, x2, x3, x4⟩ := HST.out.ref.facts
              have z0 := (HST.out.ref.frozen 0); have z1 := (HST.out.ref.frozen 1); have z2 := (HST.out.ref.frozen 2); have z3 := (HST.out.ref.frozen 3); have z4 := (HST.out.ref.frozen 4)
              cases hm : d3.mark with
              | true =>
                have HMK := Lib.hid hm; clear hm
                go_wp2_with fail
                go_meet
                case rel => exact ⟨by rw [show d3.absRowF.k = d3.k + 1 from by rw [absRowF_k, HMK.out]; rfl]; rfl, (by first | (rw [HMK.out]; exact RSt.set 4 HST.out (.bool true) d1.sh 0 0 d1.mark true rfl) | exact RSt.set 4 HST.out (.bool true) d1.sh 0 0 d1.mark true rfl)⟩
              | false =>
                have HMK := Lib.hid hm; clear hm
                go_wp2_with fail
                go_meet
                case rel => exact ⟨by rw [show d3.absRowF.k = d3.k from by rw [absRowF_k, HMK.out]; rfl], (by first | (rw [HMK.out]; exact HST.out) | exact HST.out)⟩
            case rest =>
              obtain ⟨rfl, hst2⟩ := hcut
              clear HST
              have HST := Lib.hid hst2; clear hst2
              obtain ⟨d4, hd4⟩ : ∃ d : Rd, d3.absRowF = d := ⟨_, rfl⟩
              rw [hd4]
              have hs4 : d4.s = s := by rw [← hd4]; exact HS3.out
              have hk4 : d4.k ≤ s.size := by rw [← hd4, absRowF_k, ← HS3.out]; exact mark_le d3 (by rw [HS3.out]; exact hle3)
              have hat4 : d1.at4 = d4 := by unfold Rd.at4; rw [HD2.out, HD3.out, hd4]
              have hcand : ∀ d, readS s = some d → ok3 = true ∧ (∀ x ∈ d4.rest, isNum x = true) ∧ d4.rest.length ≤ 3 ∧ d.sh = d1.sh ∧ d.c = d3.c ∧ d.ac = d1.mark ∧ d.ar = d3.mark ∧ d.r = valL d4.rest - 1 := by
                intro d hd
                obtain ⟨g1, g2, g3, g4, g5, g6, g7, g8⟩ := cand_of s d1 d HSHT.out HS1.out hd
                rw [hat4] at g2 g3 g8
                rw [HD2.out, HOK3.out] at g1
                have g5' : d.c = d1.absColF.colF.c := g5
                have g7' : d.ar = d1.absColF.colF.mark := g7
                rw [HD2.out, HD3.out] at g5' g7'
                exact ⟨g1, g2, g3, g4, g5', g6, g7', g8⟩
              have HS4 := Lib.hid hs4; clear hs4
              have HCAND := Lib.hid hcand; clear hcand hat4 hd4
              obtain ⟨v4, hv4⟩ : ∃ v, valL (d4.rest.take 4) = v := ⟨_, rfl⟩
              by_cases hall : ∀ x ∈ d4.rest.take 4, isNum x = true
              · have hvb := val_bd4 (d4.rest.take 4) hall (by rw [List.length_take]; omega)
                rw [hv4] at hvb
                have HALL := Lib.hid hall; clear hall
                have HV4 := Lib.hid hv4; clear hv4
                go_upto_block 4 with (fail)
                go_cut [10] (fun rr wx => rr = .int .i64 v4 ∧ RSt w wx d1.sh 0 0 d1.mark d3.mark)
                case first =>
                  go_wp2_with fail
                  go_loopw [10, 11] (fun rr t wr => ∃ (j : Nat) (v : Int), j ≤ 4 ∧ d4.k + j ≤ s.size ∧ rr = .int .i64 v ∧ t = .int .i64 ((d4.k + j : Nat) : Int) ∧ Hid (valL (d4.rest.take j) = v) ∧ Hid (RSt w wr d1.sh 0 0 d1.mark d3.mark))
                    (fun _ t _ => s.size - (intOf t).toNat)
                  case atStart => exact ⟨0, 0, by omega, by omega, rfl, rfl, Lib.hid rfl, HST⟩
                  case round =>
                    clear HST
                    obtain ⟨j, v, hj4, hjk, rfl, rfl, HV, HST⟩ := hrel
                    obtain ⟨p, hp⟩ : ∃ p : Nat, d4.k + j = p := ⟨_, rfl⟩
                    rw [hp]
                    have hp2 : p ≤ s.size := by omega
                    by_cases hlt : p < s.size ∧ j < 4
                    · obtain ⟨hlt, hj⟩ := hlt
                      have hki : (p : Int) < (s.size : Int) := by omega
                      have hji : (p : Int) < (d4.k : Int) + 4 := by omega
                      obtain ⟨a, ha⟩ : ∃ a : Int, (s[p].toNat : Int) = a := ⟨_, rfl⟩
                      have ha1 : 0 ≤ a ∧ a ≤ 255 := by have := s[p].toNat_lt; omega
                      have hnx := take_nx d4 s j p a HS4.out hp hlt ha
                      have hc : isNum a = true := HALL.out a (by
                        have h1 : a ∈ d4.rest.take (j + 1) := by rw [hnx.1]; simp
                        exact List.mem_of_mem_take (i := j + 1) (by rw [List.take_take]; rw [Nat.min_eq_left (by omega)]; exact h1))
                      have hab := num_bd hc
                      have hvb2 := val_bd4 (d4.rest.take j) (fun x hx => HALL.out x (List.mem_of_mem_take (i := j) (by rw [List.take_take, Nat.min_eq_left (by omega)]; exact hx))) (by rw [List.length_take]; omega)
                      rw [HV.out] at hvb2
                      have HNX := Lib.hid hnx; clear hnx
                      have HP := Lib.hid hp; clear hp
                      go_wp2_with (go_at_call 82; ((with_reducible refine (refDigit_any _ ?_ ?_ _).mono ?_); (first | omega | skip); (first | omega | skip); rintro e w' ⟨rfl, rfl⟩))
                      go_roundw
                      case rel => exact ⟨j + 1, 10 * v + (a - 48), by omega, by have := HP.out; omega, rfl, by rw [show d4.k + (j + 1) = p + 1 from by have := HP.out; omega]; rfl, Lib.hid (by rw [HNX.out.1, valL_snoc, HV.out]), HST⟩
                      case measure => simp [intOf]; omega
                    · have hve : v4 = v := by
                        rw [← HV.out, ← HV4.out]
                        by_cases hj : j = 4
                        · rw [hj]
                        · have hl : d4.rest.length ≤ j := by rw [length_rest, HS4.out]; omega
                          rw [List.take_of_length_le hl, List.take_of_length_le (by omega)]
                      have HVE := Lib.hid hve; clear hve
                      by_cases hps : p < s.size
                      · have hki : (p : Int) < (s.size : Int) := by omega
                        have hji : ¬ (p : Int) < (d4.k : Int) + 4 := by omega
                        have HP := Lib.hid hp; clear hp hlt
                        go_wp2_with fail
                        go_meet
                        case rel => exact ⟨by rw [HVE.out], HST.out⟩
                      · have hki : ¬ (p : Int) < (s.size : Int) := by omega
                        have HP := Lib.hid hp; clear hp hlt
                        go_wp2_with fail
                        go_meet
                        case rel => exact ⟨by rw [HVE.out], HST.out⟩
                case rest =>
                  obtain ⟨rfl, hst2⟩ := hcut
                  clear HST
                  have HST := Lib.hid hst2; clear hst2
                  have hyes : ok3 = true → mayL (sb d1.sh) d3.c (v4 - 1) = true → strOfNums (textL (sb d1.sh) d3.c (v4 - 1) d1.mark d3.mark) = s → Says (sb s) (.returned (.tuple #[.agg #[.string d1.sh, .int .i64 d3.c, .int .i64 (v4 - 1), .bool d1.mark, .bool d3.mark], .bool true])) := by
                    intro _ h2 h3
                    refine .inl ⟨d1.sh, d3.c, v4 - 1, d1.mark, d3.mark, ?_, h2, ?_, rfl⟩
                    · rcases mayL_sheet h2 with h | h
                      · rw [← length_sb, h]; exact Nat.zero_le _
                      · rw [← length_sb]; exact (nameL_size h).2
                    · rw [← sb_str _ (bytes_textL d1.sh d3.c (v4 - 1) d1.mark d3.mark), h3]
                  have hno : ¬ (ok3 = true ∧ mayL (sb d1.sh) d3.c (v4 - 1) = true ∧ strOfNums (textL (sb d1.sh) d3.c (v4 - 1) d1.mark d3.mark) = s) → NoRef (sb s) := by
                    intro h
                    apply read_none
                    cases hq : readS s with
                    | none => rfl
                    | some d =>
                      exfalso
                      obtain ⟨g1, g2, g3, g4, g5, g6, g7, g8⟩ := HCAND.out d hq
                      obtain ⟨r1, r2, r3⟩ := read_some s d hq
                      rw [List.take_of_length_le (by omega)] at HV4
                      rw [HV4.out] at g8
                      rw [g4, g5, g8] at r2
                      rw [g4, g5, g6, g7, g8] at r3
                      exact h ⟨g1, r2, by rw [r3, str_sb]⟩
                  have HYES := Lib.hid hyes; clear hyes
                  have HNO := Lib.hid hno; clear hno
                  obtain ⟨tt, htt⟩ : ∃ t : ByteArray, strOfNums (textL (sb d1.sh) d3.c (v4 - 1) d1.mark d3.mark) = t := ⟨_, rfl⟩
                  obtain ⟨my, hmy⟩ : ∃ b : Bool, mayL (sb d1.sh) d3.c (v4 - 1) = b := ⟨_, rfl⟩
                  rw [htt, hmy] at HYES HNO
                  have HTT := Lib.hid htt; clear htt
                  have HMY := Lib.hid hmy; clear hmy
                  go_upto_region 28 with (fail)
                  obtain ⟨x0, x1, x2, x3, x4⟩ := HST.out.ref.facts
                  have z0 := (HST.out.ref.frozen 0); have z1 := (HST.out.ref.frozen 1); have z2 := (HST.out.ref.frozen 2); have z3 := (HST.out.ref.frozen 3); have z4 := (HST.out.ref.frozen 4)
                  go_upto_region 30 with (fail)
                  clear x0 x1 x2 x3 x4 z0 z1 z2 z3 z4
                  have hst3 := RSt.set 2 (RSt.set 1 HST.out (.int .i64 d3.c) d1.sh d3.c 0 d1.mark d3.mark rfl) (.int .i64 (v4 - 1)) d1.sh d3.c (v4 - 1) d1.mark d3.mark rfl
                  clear HST
                  generalize (wc.setCell ⟨w.heap.size + 1, 1, none⟩ (.int .i64 d3.c)).setCell ⟨w.heap.size + 1, 2, none⟩ (.int .i64 (v4 - 1)) = w3 at hst3 ⊢
                  have HST := Lib.hid hst3; clear hst3
                  obtain ⟨x0, x1, x2, x3, x4⟩ := HST.out.ref.facts
                  have z0 := (HST.out.ref.frozen 0); have z1 := (HST.out.ref.frozen 1); have z2 := (HST.out.ref.frozen 2); have z3 := (HST.out.ref.frozen 3); have z4 := (HST.out.ref.frozen 4)
                  cases ok3 with
                  | false =>
                    have hnr := HNO.out (by rintro ⟨h, _⟩; cases h)
                    have HNR := Lib.hid hnr; clear hnr
                    go_upto_region 31 with (fail)
                    repeat (first | go_says ((with_reducible refine wpList_store_ref (op := ⟨none, .store 35 (.tmp 2) (.tmp 123), _, _, _, _⟩) rfl (.tmp 2) (.tmp 123) rfl w.heap.size _ _ _ _ _ ⟨#[]⟩ 0 0 false false ?_ ?_ HST.out.res ?_); rfl; rfl; intro w9 h9 g9; have HR9 := Lib.hid h9; clear h9; have HG9 := Lib.hid g9; clear g9) | go_values | go_skip | go_guarded | go_step | go_upon)
                    (try simp only [Exit.inBlock, Exit.then])
                    refine bodyPost_ret (out_ref HR9.out _ _ false 2 3 res_ReadRef rfl rfl) rfl ⟨.inr ⟨HNR.out, rfl⟩, below_of_grownBy HST.out.below HG9.out HST.out.below.size (Nat.le_refl _)⟩
                  | true =>
                    cases my with
                    | false =>
                      have hnr := HNO.out (by rintro ⟨_, h, _⟩; cases h)
                      have HNR := Lib.hid hnr; clear hnr
                      go_upto_region 31 with (first | (go_at_call 58; ((with_reducible refine (refMay_any _ _ _ _ _ _ ?_).mono ?_); (first | omega | skip); rintro e w1 ⟨rfl, h1⟩; rw [HMY.out]; have HST := Lib.hid (HST.out.next h1); clear h1; clear x0 x1 x2 x3 x4 z0 z1 z2 z3 z4; obtain ⟨x0, x1, x2, x3, x4⟩ := HST.out.ref.facts; have z0 := (HST.out.ref.frozen 0); have z1 := (HST.out.ref.frozen 1); have z2 := (HST.out.ref.frozen 2); have z3 := (HST.out.ref.frozen 3); have z4 := (HST.out.ref.frozen 4))))
                      repeat (first | go_says ((with_reducible refine wpList_store_ref (op := ⟨none, .store 35 (.tmp 2) (.tmp 123), _, _, _, _⟩) rfl (.tmp 2) (.tmp 123) rfl w.heap.size _ _ _ _ _ ⟨#[]⟩ 0 0 false false ?_ ?_ HST.out.res ?_); rfl; rfl; intro w9 h9 g9; have HR9 := Lib.hid h9; clear h9; have HG9 := Lib.hid g9; clear g9) | go_values | go_skip | go_guarded | go_step | go_upon)
                      (try simp only [Exit.inBlock, Exit.then])
                      refine bodyPost_ret (out_ref HR9.out _ _ false 2 3 res_ReadRef rfl rfl) rfl ⟨.inr ⟨HNR.out, rfl⟩, below_of_grownBy HST.out.below HG9.out HST.out.below.size (Nat.le_refl _)⟩
                    | true =>
                      by_cases hts : tt = s
                      · have hys := HYES.out rfl rfl hts
                        have HYS := Lib.hid hys; clear hys
                        have htb : (s.toList == s.toList) = true := beq_self_eq_true _
                        have hTS := Lib.hid hts; clear hts
                        go_upto_region 32 with (first | (go_at_call 58; ((with_reducible refine (refMay_any _ _ _ _ _ _ ?_).mono ?_); (first | omega | skip); rintro e w1 ⟨rfl, h1⟩; rw [HMY.out]; have HST := Lib.hid (HST.out.next h1); clear h1; clear x0 x1 x2 x3 x4 z0 z1 z2 z3 z4; obtain ⟨x0, x1, x2, x3, x4⟩ := HST.out.ref.facts; have z0 := (HST.out.ref.frozen 0); have z1 := (HST.out.ref.frozen 1); have z2 := (HST.out.ref.frozen 2); have z3 := (HST.out.ref.frozen 3); have z4 := (HST.out.ref.frozen 4))) | (go_at_call 66; ((with_reducible refine (refText_any _ _ _ _ _ _ ?_).mono ?_); (first | omega | skip); rintro e w1 ⟨rfl, h1⟩; rw [HTT.out]; (try rw [hTS.out]); have HST := Lib.hid (HST.out.next h1); clear h1; clear x0 x1 x2 x3 x4 z0 z1 z2 z3 z4; obtain ⟨x0, x1, x2, x3, x4⟩ := HST.out.ref.facts; have z0 := (HST.out.ref.frozen 0); have z1 := (HST.out.ref.frozen 1); have z2 := (HST.out.ref.frozen 2); have z3 := (HST.out.ref.frozen 3); have z4 := (HST.out.ref.frozen 4))))
                        repeat (first | go_says ((with_reducible refine wpList_store_ref (op := ⟨none, .store 35 (.tmp 2) (.tmp 124), _, _, _, _⟩) rfl (.tmp 2) (.tmp 124) rfl w.heap.size _ _ _ _ _ d1.sh d3.c (v4 - 1) d1.mark d3.mark ?_ ?_ HST.out.res ?_); rfl; rfl; intro w9 h9 g9; have HR9 := Lib.hid h9; clear h9; have HG9 := Lib.hid g9; clear g9) | go_values | go_skip | go_guarded | go_step | go_upon)
                        (try simp only [Exit.inBlock, Exit.then])
                        exact bodyPost_ret (out_ref HR9.out _ _ true 2 3 res_ReadRef rfl rfl) rfl ⟨HYS.out, below_of_grownBy HST.out.below HG9.out HST.out.below.size (Nat.le_refl _)⟩
                      · have hnr := HNO.out (by rintro ⟨_, _, h⟩; exact hts h)
                        have HNR := Lib.hid hnr; clear hnr
                        have htn := text_ne tt s hts
                        have htb : (tt.toList == s.toList) = false := beq_eq_false_iff_ne.2 htn
                        clear hts
                        go_upto_region 31 with (first | (go_at_call 58; ((with_reducible refine (refMay_any _ _ _ _ _ _ ?_).mono ?_); (first | omega | skip); rintro e w1 ⟨rfl, h1⟩; rw [HMY.out]; have HST := Lib.hid (HST.out.next h1); clear h1; clear x0 x1 x2 x3 x4 z0 z1 z2 z3 z4; obtain ⟨x0, x1, x2, x3, x4⟩ := HST.out.ref.facts; have z0 := (HST.out.ref.frozen 0); have z1 := (HST.out.ref.frozen 1); have z2 := (HST.out.ref.frozen 2); have z3 := (HST.out.ref.frozen 3); have z4 := (HST.out.ref.frozen 4))) | (go_at_call 66; ((with_reducible refine (refText_any _ _ _ _ _ _ ?_).mono ?_); (first | omega | skip); rintro e w1 ⟨rfl, h1⟩; rw [HTT.out]; (try rw [hTS.out]); have HST := Lib.hid (HST.out.next h1); clear h1; clear x0 x1 x2 x3 x4 z0 z1 z2 z3 z4; obtain ⟨x0, x1, x2, x3, x4⟩ := HST.out.ref.facts; have z0 := (HST.out.ref.frozen 0); have z1 := (HST.out.ref.frozen 1); have z2 := (HST.out.ref.frozen 2); have z3 := (HST.out.ref.frozen 3); have z4 := (HST.out.ref.frozen 4))))
                        repeat (first | go_says ((with_reducible refine wpList_store_ref (op := ⟨none, .store 35 (.tmp 2) (.tmp 123), _, _, _, _⟩) rfl (.tmp 2) (.tmp 123) rfl w.heap.size _ _ _ _ _ ⟨#[]⟩ 0 0 false false ?_ ?_ HST.out.res ?_); rfl; rfl; intro w9 h9 g9; have HR9 := Lib.hid h9; clear h9; have HG9 := Lib.hid g9; clear g9) | go_values | go_skip | go_guarded | go_step | go_upon)
                        (try simp only [Exit.inBlock, Exit.then])
                        refine bodyPost_ret (out_ref HR9.out _ _ false 2 3 res_ReadRef rfl rfl) rfl ⟨.inr ⟨HNR.out, rfl⟩, below_of_grownBy HST.out.below HG9.out HST.out.below.size (Nat.le_refl _)⟩
              · have hall2 := hall
                clear hall
                have HALL := Lib.hid hall2; clear hall2
                go_wp2_with fail
                go_loopw [10, 11] (fun rr t wr => ∃ (j : Nat) (v : Int), j ≤ 4 ∧ d4.k + j ≤ s.size ∧ rr = .int .i64 v ∧ t = .int .i64 ((d4.k + j : Nat) : Int) ∧ Hid (valL (d4.rest.take j) = v ∧ (∀ x ∈ d4.rest.take j, isNum x = true)) ∧ Hid (RSt w wr d1.sh 0 0 d1.mark d3.mark))
                  (fun _ t _ => s.size - (intOf t).toNat)
                case atStart => exact ⟨0, 0, by omega, by omega, rfl, rfl, Lib.hid ⟨rfl, by simp⟩, HST⟩
                case round =>
                  clear HST
                  obtain ⟨j, v, hj4, hjk, rfl, rfl, HV, HST⟩ := hrel
                  obtain ⟨p, hp⟩ : ∃ p : Nat, d4.k + j = p := ⟨_, rfl⟩
                  rw [hp]
                  have hp2 : p ≤ s.size := by omega
                  have hj : j < 4 ∧ p < s.size := by
                    refine Decidable.byContradiction fun hn => HALL.out ?_
                    have he : d4.rest.take 4 = d4.rest.take j := by
                      by_cases hj : j = 4
                      · rw [hj]
                      · have hl : d4.rest.length ≤ j := by rw [length_rest, HS4.out]; omega
                        rw [List.take_of_length_le hl, List.take_of_length_le (by omega)]
                    rw [he]; exact HV.out.2
                  obtain ⟨hj, hlt⟩ := hj
                  have hvb := val_bd4 (d4.rest.take j) HV.out.2 (by rw [List.length_take]; omega)
                  rw [HV.out.1] at hvb
                  have hki : (p : Int) < (s.size : Int) := by omega
                  have hji : (p : Int) < (d4.k : Int) + 4 := by omega
                  obtain ⟨a, ha⟩ : ∃ a : Int, (s[p].toNat : Int) = a := ⟨_, rfl⟩
                  have ha1 : 0 ≤ a ∧ a ≤ 255 := by have := s[p].toNat_lt; omega
                  have hnx := take_nx d4 s j p a HS4.out hp hlt ha
                  have HNX := Lib.hid hnx; clear hnx
                  have HP := Lib.hid hp; clear hp
                  by_cases hc : isNum a = true
                  · have hab := num_bd hc
                    go_wp2_with (go_at_call 82; ((with_reducible refine (refDigit_any _ ?_ ?_ _).mono ?_); (first | omega | skip); (first | omega | skip); rintro e w' ⟨rfl, rfl⟩))
                    go_roundw
                    case rel => exact ⟨j + 1, 10 * v + (a - 48), by omega, by have := HP.out; omega, rfl, by rw [show d4.k + (j + 1) = p + 1 from by have := HP.out; omega]; rfl, Lib.hid ⟨by rw [HNX.out.1, valL_snoc, HV.out.1], by rw [HNX.out.1]; exact all_snoc HV.out.2 hc⟩, HST⟩
                    case measure => simp [intOf]; omega
                  · have hc' : isNum a = false := by simpa using hc
                    clear hc
                    have hno : readS s = none := by
                      cases hq : readS s with
                      | none => rfl
                      | some d =>
                        have h1 := (HCAND.out d hq).2.1 a (List.mem_of_getElem? HNX.out.2)
                        rw [hc'] at h1; cases h1
                    have hnr := read_none s hno
                    have HNR := Lib.hid hnr; clear hnr hno
                    go_upto_region 26 with (first | (go_at_call 82; ((with_reducible refine (refDigit_any _ ?_ ?_ _).mono ?_); (first | omega | skip); (first | omega | skip); rintro e w' ⟨rfl, rfl⟩)))
                    repeat (first | go_says ((with_reducible refine wpList_store_ref (op := ⟨none, .store 35 (.tmp 2) (.tmp 96), _, _, _, _⟩) rfl (.tmp 2) (.tmp 96) rfl w.heap.size _ _ _ _ _ ⟨#[]⟩ 0 0 false false ?_ ?_ HST.out.res ?_); rfl; rfl; intro w9 h9 g9; have HR9 := Lib.hid h9; clear h9; have HG9 := Lib.hid g9; clear g9) | go_values | go_skip | go_guarded | go_step | go_upon)
                    (try simp only [Exit.inBlock, Exit.then])
                    refine bodyPost_ret (out_ref HR9.out _ _ false 2 3 res_ReadRef rfl rfl) rfl ⟨.inr ⟨HNR.out, rfl⟩, below_of_grownBy HST.out.below HG9.out HST.out.below.size (Nat.le_refl _)⟩

end Go.Proofs.YtdfpalocnijefaaGreatDoor

/-
  Layer 3, the reference: ReadRef, whatever the text.
-/
namespace Go.Proofs.YtdfpalocnijefaaGreatDoor
open Go.RowKit

theorem sheetP_bytes (s : ByteArray) (k : Nat) (h : k < s.size) (hk : k < (Rd.start s).sheetP.length) : ¬ ((s[k].toNat : Nat) : Int) = 33 := by
  intro h33
  have h1 := take_all ne33 (sb s) 33 (by
    have h2 := take_split ne33 (sb s)
    have h3 : ((sb s).takeWhile ne33)[k]? = (sb s)[k]? := by
      conv => rhs; rw [← h2]
      rw [List.getElem?_append_left (show k < ((sb s).takeWhile ne33).length from hk)]
    rw [sb_at s k h, h33] at h3
    exact List.mem_of_getElem? h3)
  exact absurd h1 (by decide)
theorem sheetP_mark (s : ByteArray) (m : Nat) (hm : (Rd.start s).sheetP.length = m) (h : m < s.size) : ((s[m].toNat : Nat) : Int) = 33 := by
  have h1 := take_head ne33 (sb s) ((s[m].toNat : Nat) : Int) (by
    have h2 : ((sb s).takeWhile ne33).length = m := hm
    rw [h2, List.head?_drop, sb_at s m h])
  unfold ne33 at h1
  simpa using h1
theorem sheetP_cut (s : ByteArray) : s.extract 0 (Rd.start s).sheetP.length = strOfNums (Rd.start s).sheetP := by
  have h := sheetP_take (Rd.start s)
  have h2 : (sb s).take (Rd.start s).sheetP.length = (Rd.start s).sheetP := h
  rw [← str_sb (s.extract 0 (Rd.start s).sheetP.length)]
  congr 1
  have e := ext_sb s 0 (Rd.start s).sheetP.length
  rw [Nat.zero_add, List.drop_zero, h2] at e
  exact e

set_option maxRecDepth 100000 in
set_option maxHeartbeats 400000 in
theorem refRead_zero (s : ByteArray) (w : World) (_hs : s.size ≤ 1000000) (hp : 0 < s.size) (h0 : (Rd.start s).sheetP.length = 0) :
    Calls Tryz.prog 56 #[.string s] w fun e w' => Says (sb s) e ∧ Below w.heap.size w w' := by
  have hst : RSt w ((w.alloc (.cells #[.string ⟨#[]⟩, .int .i64 0, .int .i64 0, .bool false, .bool false] 35)).alloc (.cells #[.string ⟨#[]⟩, .int .i64 0, .int .i64 0, .bool false, .bool false] 35)) ⟨#[]⟩ 0 0 false false := by
    have h0 := RefAt.new w ⟨#[]⟩ 0 0 false false
    have hsz : (w.alloc (.cells #[.string ⟨#[]⟩, .int .i64 0, .int .i64 0, .bool false, .bool false] 35)).heap.size = w.heap.size + 1 := by simp
    have h1 := RefAt.new (w.alloc (.cells #[.string ⟨#[]⟩, .int .i64 0, .int .i64 0, .bool false, .bool false] 35)) ⟨#[]⟩ 0 0 false false
    rw [hsz] at h1
    exact ⟨h0.below ((Below.refl _ _).alloc (Nat.le_refl _) _) h0.lt, h1, ((Below.refl _ _).alloc (Nat.le_refl _) _).alloc (by rw [hsz]; omega) _⟩
  have hnr : NoRef (sb s) := by
    apply read_none
    have hsh : (Rd.start s).sheet = none := by
      unfold Rd.sheet
      rw [if_neg (show ¬ (Rd.start s).sheetP.length = (Rd.start s).s.size by rw [h0]; show ¬ 0 = s.size; omega)]
      rw [List.eq_nil_of_length_eq_zero h0]; rfl
    unfold readS; rw [hsh]; rfl
  have hb := sheetP_mark s 0 h0 hp
  obtain ⟨a, ha⟩ : ∃ a : Int, (s[0].toNat : Int) = a := ⟨_, rfl⟩
  have hb2 : (a == 33) = true := beq_iff_eq.2 (by rw [← ha]; exact hb)
  have hpi : (0 : Int) < (s.size : Int) := by omega
  have HST := Lib.hid hst; clear hst
  have HNR := Lib.hid hnr; clear hnr hb h0
  go_enter Tryz.func56, Tryz.ntmps56
  go_wp2_with fail
  go_loopw [3, 5, 6] (fun rk at_ i wr => rk = .bool false ∧ at_ = .int .i64 0 ∧ i = .int .i64 0 ∧ Hid (RSt w wr ⟨#[]⟩ 0 0 false false))
    (fun _ _ i _ => s.size - (intOf i).toNat)
  case atStart => exact ⟨rfl, rfl, rfl, HST⟩
  case round =>
    clear HST
    obtain ⟨rfl, rfl, rfl, HST⟩ := hrel
    obtain ⟨x0, x1, x2, x3, x4⟩ := HST.out.ref.facts
    clear x1 x2 x3 x4
    have z0 := (HST.out.ref.frozen 0)
    have hst2 := RSt.set 0 HST.out (.string ByteArray.empty) ByteArray.empty 0 0 false false rfl
    have HST2 := Lib.hid hst2; clear hst2
    go_wp2_with ((with_reducible refine wpList_store_ref (op := ⟨none, .store 35 (.tmp 2) (.tmp 30), _, _, _, _⟩) rfl (.tmp 2) (.tmp 30) rfl w.heap.size _ _ _ _ _ ⟨#[]⟩ 0 0 false false ?_ ?_ HST2.out.res ?_); rfl; rfl; intro w9 h9 g9; have HR9 := Lib.hid h9; clear h9; have HG9 := Lib.hid g9; clear g9)
    (try simp only [Exit.inBlock, Exit.then])
    exact bodyPost_ret (out_ref HR9.out _ _ false 2 3 res_ReadRef rfl rfl) rfl ⟨.inr ⟨HNR.out, rfl⟩, below_of_grownBy HST2.out.below HG9.out HST2.out.below.size (Nat.le_refl _)⟩

theorem refRead_any (s : ByteArray) (w : World) (hs : s.size ≤ 1000000) :
    Calls Tryz.prog 56 #[.string s] w fun e w' => Says (sb s) e ∧ Below w.heap.size w w' := by
  by_cases hno : (Rd.start s).sheetP.length = s.size
  · refine refRead_main s w hs (Rd.start s) rfl (Nat.zero_le _) ?_ s.size (.inl ⟨rfl, rfl, rfl⟩) ?_
    · intro e he
      unfold Rd.sheet at he; rw [if_pos (show (Rd.start s).sheetP.length = (Rd.start s).s.size from hno)] at he; injection he with he; exact he.symm
    · intro k h hk; exact sheetP_bytes s k h (by rw [hno]; exact hk)
  · have hlt : (Rd.start s).sheetP.length < s.size := sheetP_lt (Rd.start s) hno
    by_cases h0 : (Rd.start s).sheetP.length = 0
    · exact refRead_zero s w hs (by omega) h0
    · refine refRead_main s w hs { Rd.start s with sh := s.extract 0 (Rd.start s).sheetP.length, k := (Rd.start s).sheetP.length + 1 } rfl hlt ?_ (Rd.start s).sheetP.length (.inr ⟨hlt, by omega, rfl, rfl, fun h => sheetP_mark s _ rfl h⟩) (fun k h hk => sheetP_bytes s k h hk)
      intro e he
      unfold Rd.sheet at he; rw [if_neg (show ¬ (Rd.start s).sheetP.length = (Rd.start s).s.size from hno)] at he
      by_cases hn : nameL (Rd.start s).sheetP = true
      · rw [if_pos hn] at he; injection he with he; rw [← he, sheetP_cut]
      · rw [if_neg hn] at he; cases he
end Go.Proofs.YtdfpalocnijefaaGreatDoor

/-
  Layer 4, the reference: numbers.
-/
namespace Go.Proofs.YtdfpalocnijefaaGreatDoor
open Go.RowKit

/-- What the reference's readers answer: a token and its length, or a nought. -/
def RefTok (o : Option (Tk × Nat)) (k : Nat) (w : World) (e : Ending) (w' : World) : Prop :=
  Below w.heap.size w w' ∧ ((∃ t n, o = some (t, n) ∧ e = .returned (.tuple #[.agg (tokA (t.goto k)), .int .i64 (n : Int)])) ∨ (o = none ∧ ∃ t, e = .returned (.tuple #[.agg (tokA t), .int .i64 0])))
theorem below_set9r {w w1 : World} {g : Nat} (h : Below w.heap.size w w1) (hg : w.heap.size ≤ g) (v0 v1 v2 v3 v4 v5 v6 v7 v8 : Value) :
    Below w.heap.size w (((((((((w1.setCell ⟨g, 0, none⟩ v0).setCell ⟨g, 1, none⟩ v1).setCell ⟨g, 2, none⟩ v2).setCell ⟨g, 3, none⟩ v3).setCell ⟨g, 4, none⟩ v4).setCell ⟨g, 5, none⟩ v5).setCell ⟨g, 6, none⟩ v6).setCell ⟨g, 7, none⟩ v7).setCell ⟨g, 8, none⟩ v8) :=
  ((((((((h.setCell hg _).setCell hg _).setCell hg _).setCell hg _).setCell hg _).setCell hg _).setCell hg _).setCell hg _).setCell hg _
/-- The way out: a token out of its cell, a number beside it. -/
theorem out_tokn {w : World} {b : Nat} {t : Tk} (h : TkAt w b t) (fn : Func) (tmps : Array Value) (n : Int) (p u : Tmp) (hf : fn.results = #[.cell p 54, .tmp u]) (hp : tmps.getD p undef = .pointer (some ⟨b, 0, none⟩)) (hu : tmps.getD u undef = .int .i64 n) :
    (results fn tmps).run Tryz.prog w = .ok (.tuple #[.agg (tokA t), .int .i64 n]) w := by
  rw [results_cell_tmp hf, hp, hu]
  simp [asAddr, h.load, Result.andThen]
theorem res_rnumber : Tryz.f83.results = #[.cell 4 54, .tmp 5] := by kernel_rfl

/-- A number whose digits have been taken so far. -/
structure NumSt (l : List Int) (m : Nat) (v : Int) : Prop where
  val : valL (l.take m) = v
  dig : ∀ x ∈ l.take m, isNum x = true
  pos : 0 ≤ v
  max : v ≤ 9223372036854775807
  len : m ≤ l.length
  head : 1 < m → l.head? ≠ some 48
theorem numSt_zero (l : List Int) : NumSt l 0 0 := ⟨rfl, by simp, by omega, by omega, by omega, by omega⟩
theorem valL_one (x : Int) : valL [x] = x - 48 := by unfold valL; simp
theorem take_snocR {l : List Int} {m : Nat} {a : Int} (ha : l[m]? = some a) : l.take (m + 1) = l.take m ++ [a] := by rw [List.take_add_one, ha]; rfl
theorem numSt_val {l : List Int} {m : Nat} {v a : Int} (h : NumSt l m v) (ha : l[m]? = some a) : valL (l.take (m + 1)) = 10 * v + (a - 48) := by rw [take_snocR ha, valL_snoc, h.val]
theorem numSt_big {l : List Int} {m : Nat} {v a : Int} (h : NumSt l m v) (ha : l[m]? = some a) (hn : isNum a = true) (hb : 9223372036854775807 < 10 * v + (a - 48)) : numT l = none := by
  have hall := all_snoc h.dig hn
  rw [← take_snocR ha] at hall
  have h1 := span_over isNum l (m + 1) hall
  have h2 := valL_ge ((l.drop (m + 1)).takeWhile isNum) (l.take (m + 1)) (take_all isNum _) (by rw [numSt_val h ha]; omega)
  rw [← h1, numSt_val h ha] at h2
  unfold numT; rw [if_pos (.inr (by omega))]
theorem numSt_nought {l : List Int} {m : Nat} {a : Int} (h : NumSt l m 0) (hm : 0 < m) (ha : l[m]? = some a) (hn : isNum a = true) : numT l = none := by
  have hall := all_snoc h.dig hn
  rw [← take_snocR ha] at hall
  have h1 := span_over isNum l (m + 1) hall
  have hlen : 1 < (l.takeWhile isNum).length := by
    rw [h1, List.length_append, List.length_take]
    have := (List.getElem?_eq_some_iff.1 ha).1; omega
  cases l with
  | nil => simp at ha
  | cons x r =>
    have hx := h.dig x (by rw [show m = (m - 1) + 1 by omega, List.take_succ_cons]; simp)
    have hb := num_bd hx
    have h2 := valL_ge ((x :: r).take m).tail [x] (fun y hy => h.dig y (List.mem_of_mem_tail hy)) (by rw [valL_one]; omega)
    have e : [x] ++ ((x :: r).take m).tail = (x :: r).take m := by rw [show m = (m - 1) + 1 by omega, List.take_succ_cons]; rfl
    rw [e, h.val, valL_one] at h2
    unfold numT; rw [if_pos (.inl ⟨hlen, by simp; omega⟩)]
theorem numSt_next {l : List Int} {m : Nat} {v a : Int} (h : NumSt l m v) (ha : l[m]? = some a) (hn : isNum a = true) (hb : 10 * v + (a - 48) ≤ 9223372036854775807) (h0 : 0 < m → v ≠ 0) : NumSt l (m + 1) (10 * v + (a - 48)) := by
  have hbd := num_bd hn
  have hp := h.pos
  refine ⟨numSt_val h ha, ?_, by omega, hb, ?_, ?_⟩
  · rw [take_snocR ha]; exact all_snoc h.dig hn
  · have := (List.getElem?_eq_some_iff.1 ha).1; omega
  · intro hm hh
    by_cases h1 : 1 < m
    · exact h.head h1 hh
    · have hm1 : m = 1 := by omega
      subst hm1
      cases l with
      | nil => simp at hh
      | cons x r =>
        simp at hh
        have := h.val
        rw [List.take_succ_cons, List.take_zero, valL_one] at this
        exact h0 (by omega) (by omega)
theorem numSt_end {l : List Int} {m : Nat} {v : Int} (h : NumSt l m v) (hs : ∀ x, l[m]? = some x → isNum x = false) : numT l = some ({ Tk.zero with kind := 1, num := v }, m) := by
  have hsp := span_stop isNum l m h.dig hs
  have hlen : (l.take m).length = m := by rw [List.length_take]; have := h.len; omega
  unfold numT
  rw [hsp, hlen, h.val, if_neg]
  rintro (⟨h1, h2⟩ | h1)
  · exact h.head h1 h2
  · have := h.max; omega

set_option maxRecDepth 100000 in
set_option maxHeartbeats 1600000 in
theorem refNumber_any (s : ByteArray) (k : Nat) (w : World) (_hs : s.size ≤ 1000000) (_hk : k ≤ s.size) :
    Calls Tryz.prog 83 #[.string s, .int .i64 (k : Int)] w (RefTok (numT (restL s k)) k w) := by
  have HTK := Lib.hid (TkAt.zero w)
  go_enter Tryz.func83, Tryz.ntmps83
  go_wp2_with fail
  go_loopw [6, 7] (fun n p wr => ∃ (m : Nat) (v : Int), n = .int .i64 v ∧ p = .int .i64 ((k + m : Nat) : Int) ∧ k + m ≤ s.size ∧ Hid (NumSt (restL s k) m v) ∧ w.alloc (.cells zTok 54) = wr)
    (fun _ p _ => s.size - (intOf p).toNat)
  case atStart => exact ⟨0, 0, rfl, rfl, by omega, Lib.hid (numSt_zero _), rfl⟩
  case round =>
    obtain ⟨m, v, rfl, rfl, hkm, HN, rfl⟩ := hrel
    obtain ⟨p, hp⟩ : ∃ p : Nat, k + m = p := ⟨_, rfl⟩
    rw [hp]
    by_cases hlt : p < s.size
    · have hlt2 : (p : Int) < (s.size : Int) := by omega
      obtain ⟨a, ha⟩ : ∃ a : Int, (s[p].toNat : Int) = a := ⟨_, rfl⟩
      have ha1 : 0 ≤ a ∧ a ≤ 255 := by have := s[p].toNat_lt; omega
      have hat : (restL s k)[m]? = some a := by subst hp; rw [restL_at s k m hlt, ha]
      have hv0 := HN.out.pos
      have hv1 := HN.out.max
      cases hn : isNum a
      · have hN := numSt_end HN.out (fun x hx => by rw [hat] at hx; injection hx with hx; rw [← hx]; exact hn)
        clear hat
        have HNT := Lib.hid hN; clear hN
        go_wp2_with (first
          | (go_at_call 82; ((with_reducible refine (refDigit_any _ ?_ ?_ _).mono ?_); (first | omega | skip); (first | omega | skip); rintro e w' ⟨rfl, rfl⟩; rw [hn])))
        exact bodyPost_ret (out_tokn (TkAt.new w (({ Tk.zero with kind := 1, num := v } : Tk).goto k)) _ _ ((p : Int) - (k : Int)) 4 5 res_rnumber rfl rfl) rfl ⟨(Below.refl _ _).alloc (Nat.le_refl _) _, .inl ⟨_, m, HNT.out, by rw [show ((p : Int) - (k : Int)) = (m : Int) by omega]⟩⟩
      · have hnb := num_bd hn
        by_cases hbig : (9223372036854775807 - (a - 48)) / 10 < v
        · have HNT := Lib.hid (numSt_big HN.out hat hn (by omega))
          clear hat
          go_wp2_with (first
            | (go_at_call 82; ((with_reducible refine (refDigit_any _ ?_ ?_ _).mono ?_); (first | omega | skip); (first | omega | skip); rintro e w' ⟨rfl, rfl⟩; rw [hn])))
          exact bodyPost_ret (out_tokn (TkAt.zero w) _ _ 0 4 5 res_rnumber rfl rfl) rfl ⟨(Below.refl _ _).alloc (Nat.le_refl _) _, .inr ⟨HNT.out, _, rfl⟩⟩
        · have hsm : 10 * v + (a - 48) ≤ 9223372036854775807 := by omega
          by_cases hm : 0 < m
          · have hpk : (k : Int) < (p : Int) := by omega
            by_cases hv : v = 0
            · subst hv
              have HNT := Lib.hid (numSt_nought HN.out hm hat hn)
              clear hat
              go_wp2_with (first
                | (go_at_call 82; ((with_reducible refine (refDigit_any _ ?_ ?_ _).mono ?_); (first | omega | skip); (first | omega | skip); rintro e w' ⟨rfl, rfl⟩; rw [hn])))
              exact bodyPost_ret (out_tokn (TkAt.zero w) _ _ 0 4 5 res_rnumber rfl rfl) rfl ⟨(Below.refl _ _).alloc (Nat.le_refl _) _, .inr ⟨HNT.out, _, rfl⟩⟩
            · have hvb : (v == 0) = false := beq_eq_false_iff_ne.2 hv
              have HNX := Lib.hid (numSt_next HN.out hat hn hsm (fun _ => hv))
              clear hat
              go_wp2_with (first
                | (go_at_call 82; ((with_reducible refine (refDigit_any _ ?_ ?_ _).mono ?_); (first | omega | skip); (first | omega | skip); rintro e w' ⟨rfl, rfl⟩; rw [hn])))
              go_roundw
              case rel => exact ⟨m + 1, 10 * v + (a - 48), rfl, by rw [show ((p : Int) + 1) = ((k + (m + 1) : Nat) : Int) by omega], by omega, HNX, by trivial⟩
              case measure => simp [intOf]; omega
          · have hpk : ¬ (k : Int) < (p : Int) := by omega
            have HNX := Lib.hid (numSt_next HN.out hat hn hsm (fun h => absurd h hm))
            clear hat
            go_wp2_with (first
              | (go_at_call 82; ((with_reducible refine (refDigit_any _ ?_ ?_ _).mono ?_); (first | omega | skip); (first | omega | skip); rintro e w' ⟨rfl, rfl⟩; rw [hn])))
            go_roundw
            case rel => exact ⟨m + 1, 10 * v + (a - 48), rfl, by rw [show ((p : Int) + 1) = ((k + (m + 1) : Nat) : Int) by omega], by omega, HNX, by trivial⟩
            case measure => simp [intOf]; omega
    · have hlt2 : ¬ (p : Int) < (s.size : Int) := by omega
      have HNT := Lib.hid (numSt_end HN.out (fun x hx => by have h1 := (List.getElem?_eq_some_iff.1 hx).1; rw [length_restL] at h1; omega))
      go_wp2_with fail
      exact bodyPost_ret (out_tokn (TkAt.new w (({ Tk.zero with kind := 1, num := v } : Tk).goto k)) _ _ ((p : Int) - (k : Int)) 4 5 res_rnumber rfl rfl) rfl ⟨(Below.refl _ _).alloc (Nat.le_refl _) _, .inl ⟨_, m, HNT.out, by rw [show ((p : Int) - (k : Int)) = (m : Int) by omega]⟩⟩
end Go.Proofs.YtdfpalocnijefaaGreatDoor

/-
  Layer 4, the reference: words.
-/
namespace Go.Proofs.YtdfpalocnijefaaGreatDoor
open Go.RowKit

theorem called_bad (s : ByteArray) (k : Nat) (h : k < s.size) (hx : (isCap ((sb s).getD k 0) || isNum ((sb s).getD k 0)) = false) : calledL (sb s) = false := by
  unfold calledL; rw [Bool.and_eq_false_iff]; left; rw [decide_eq_false_iff_not]; intro hall
  have := hall ((sb s).getD k 0) (by rw [sb_getD s k h]; exact List.mem_of_getElem? (sb_at s k h))
  rw [hx] at this; cases this
theorem called_all (s : ByteArray) (h : ∀ j, j < s.size → (isCap ((sb s).getD j 0) || isNum ((sb s).getD j 0)) = true) : calledL (sb s) = (decide (1 ≤ s.size ∧ s.size ≤ 12) && isCap ((sb s).getD 0 0)) := by
  unfold calledL; rw [decide_eq_true (show ∀ x ∈ sb s, (isCap x || isNum x) = true from ?_), Bool.true_and, length_sb]
  intro x hx
  obtain ⟨j, hj, rfl⟩ := List.mem_iff_getElem.1 hx
  have := h j (by rw [length_sb] at hj; exact hj)
  rw [List.getD_eq_getElem?_getD, List.getElem?_eq_getElem hj] at this
  exact this
set_option maxRecDepth 100000 in
set_option maxHeartbeats 800000 in
theorem refCalled_any (s : ByteArray) (w : World) (_hs : s.size ≤ 1000000) :
    Calls Tryz.prog 57 #[.string s] w fun e w' => e = .returned (.bool (calledL (sb s))) ∧ w = w' := by
  go_enter Tryz.func57, Tryz.ntmps57
  go_wp2_with fail
  go_loopw [3] (fun i wr => ∃ k : Nat, k ≤ s.size ∧ i = .int .i64 k ∧ Hid (∀ j, j < k → (isCap ((sb s).getD j 0) || isNum ((sb s).getD j 0)) = true) ∧ w = wr)
    (fun i _ => s.size - (intOf i).toNat)
  case atStart => exact ⟨0, by omega, rfl, Lib.hid (by intro j hj; omega), rfl⟩
  case round =>
    obtain ⟨k, hk, rfl, HG, rfl⟩ := hrel
    by_cases hlt : k < s.size
    · have hki : (k : Int) < (s.size : Int) := by omega
      obtain ⟨a, ha⟩ : ∃ a : Int, (s[k].toNat : Int) = a := ⟨_, rfl⟩
      have ha1 : 0 ≤ a ∧ a ≤ 255 := by have := s[k].toNat_lt; omega
      have HGB := Lib.hid (show (sb s).getD k 0 = a by rw [sb_getD s k hlt, ha])
      have hnext : (isCap a || isNum a) = true → ∀ j, j < k + 1 → (isCap ((sb s).getD j 0) || isNum ((sb s).getD j 0)) = true := by
        intro h j hj
        by_cases h1 : j < k
        · exact HG.out j h1
        · rw [show j = k from by omega, HGB.out]; exact h
      have HNEXT := Lib.hid hnext; clear hnext
      cases hc : isCap a
      · cases hn : isNum a
        · have HNO := Lib.hid (called_bad s k hlt (by rw [HGB.out, hc, hn]; rfl))
          go_wp2_with (first
            | (go_at_call 95; ((with_reducible refine (refCapital_any _ ?_ ?_ _).mono ?_); (first | omega | skip); (first | omega | skip); rintro e w' ⟨rfl, rfl⟩; rw [hc]))
            | (go_at_call 82; ((with_reducible refine (refDigit_any _ ?_ ?_ _).mono ?_); (first | omega | skip); (first | omega | skip); rintro e w' ⟨rfl, rfl⟩; rw [hn])))
          go_ret
          exact ⟨ret_bool HNO.out.symm, rfl⟩
        · go_wp2_with (first
            | (go_at_call 95; ((with_reducible refine (refCapital_any _ ?_ ?_ _).mono ?_); (first | omega | skip); (first | omega | skip); rintro e w' ⟨rfl, rfl⟩; rw [hc]))
            | (go_at_call 82; ((with_reducible refine (refDigit_any _ ?_ ?_ _).mono ?_); (first | omega | skip); (first | omega | skip); rintro e w' ⟨rfl, rfl⟩; rw [hn])))
          go_roundw
          case rel => exact ⟨k + 1, by omega, by go_num, Lib.hid (HNEXT.out (by rw [hc, hn]; rfl)), by trivial⟩
          case measure => simp [intOf]; omega
      · go_wp2_with (first
          | (go_at_call 95; ((with_reducible refine (refCapital_any _ ?_ ?_ _).mono ?_); (first | omega | skip); (first | omega | skip); rintro e w' ⟨rfl, rfl⟩; rw [hc])))
        go_roundw
        case rel => exact ⟨k + 1, by omega, by go_num, Lib.hid (HNEXT.out (by rw [hc]; rfl)), by trivial⟩
        case measure => simp [intOf]; omega
    · have hki : ¬ (k : Int) < (s.size : Int) := by omega
      have HA := Lib.hid (called_all s (fun j hj => HG.out j (by omega)))
      by_cases h1 : 1 ≤ s.size ∧ s.size ≤ 12
      · have hi1 : (1 : Int) ≤ (s.size : Int) := by omega
        have hi2 : (s.size : Int) ≤ 12 := by omega
        have hp0 : 0 < s.size := by omega
        obtain ⟨a, ha⟩ : ∃ a : Int, (s[0].toNat : Int) = a := ⟨_, rfl⟩
        have ha1 : 0 ≤ a ∧ a ≤ 255 := by have := s[0].toNat_lt; omega
        rw [decide_eq_true h1, Bool.true_and, sb_getD s 0 hp0, ha] at HA
        go_wp2_with (first
          | (go_at_call 95; ((with_reducible refine (refCapital_any _ ?_ ?_ _).mono ?_); (first | omega | skip); (first | omega | skip); rintro e w' ⟨rfl, rfl⟩)))
        go_ret
        exact ⟨ret_bool HA.out.symm, rfl⟩
      · rw [decide_eq_false h1, Bool.false_and] at HA
        by_cases h0 : 1 ≤ s.size
        · have hi1 : (1 : Int) ≤ (s.size : Int) := by omega
          have hi2 : ¬ (s.size : Int) ≤ 12 := by omega
          go_wp2_with fail
          go_ret
          exact ⟨ret_bool HA.out.symm, rfl⟩
        · have hi1 : ¬ (1 : Int) ≤ (s.size : Int) := by omega
          go_wp2_with fail
          go_ret
          exact ⟨ret_bool HA.out.symm, rfl⟩
end Go.Proofs.YtdfpalocnijefaaGreatDoor

/-
  Layer 4, the reference: words, walked.
-/
namespace Go.Proofs.YtdfpalocnijefaaGreatDoor
open Go.RowKit

theorem ref_word (s : ByteArray) (k m p : Nat) (hp : k + m = p) (hkm : k + m ≤ s.size) (hall : ∀ x ∈ (restL s k).take m, isWord x = true) (hstop : ∀ x, (restL s k)[m]? = some x → isWord x = false) :
    wordT (restL s k) = match readS (s.extract k p) with
      | some d => some ({ Tk.zero with kind := 4, sh := d.sh, c := d.c, r := d.r, ac := d.ac, ar := d.ar }, m)
      | none => if calledL (sb (s.extract k p)) = true then some ({ Tk.zero with kind := 3, text := s.extract k p }, m) else none := by
  subst hp
  have hsp := span_stop isWord (restL s k) m hall hstop
  have hlen : ((restL s k).take m).length = m := by rw [List.length_take, length_restL]; omega
  have hc := restL_cut s k m
  have hb : sb (s.extract k (k + m)) = (restL s k).take m := by rw [hc]; exact sb_str _ (fun x hx => restL_bd s k x (List.mem_of_mem_take hx))
  rw [word_val _ _ hsp, hlen, ← hc, hb]
  rfl
theorem res_rword : Tryz.f86.results = #[.cell 4 54, .tmp 5] := by kernel_rfl
theorem word_noR {a : Int} (hl : isLet a = false) (hn : isNum a = false) (h36 : ¬ a = 36) (h33 : ¬ a = 33) : isWord a = false := by unfold isWord; rw [hl, hn, decide_eq_false (by omega)]; rfl
theorem word_l {a : Int} (hl : isLet a = true) : isWord a = true := by unfold isWord; rw [hl]; rfl
theorem word_n {a : Int} (hn : isNum a = true) : isWord a = true := by unfold isWord; rw [hn]; simp
theorem word_s {a : Int} (h : a = 36 ∨ a = 33) : isWord a = true := by unfold isWord; rw [decide_eq_true h]; simp

set_option maxRecDepth 100000 in
set_option maxHeartbeats 4000000 in
theorem refWord_any (s : ByteArray) (k : Nat) (w : World) (_hs : s.size ≤ 1000000) (_hk : k ≤ s.size) :
    Calls Tryz.prog 86 #[.string s, .int .i64 (k : Int)] w (RefTok (wordT (restL s k)) k w) := by
  have HTK := Lib.hid (TkAt.zero w)
  have HAL := Lib.hid (show Below w.heap.size w (w.alloc (.cells zTok 54)) from (Below.refl _ _).alloc (Nat.le_refl _) _)
  have hz0 : (0 : Int) ≤ (k : Int) := by omega
  go_enter Tryz.func86, Tryz.ntmps86
  go_wp2_with fail
  go_loopw [6] (fun i wr => ∃ (m : Nat), i = .int .i64 ((k + m : Nat) : Int) ∧ k + m ≤ s.size ∧ Hid (∀ x ∈ (restL s k).take m, isWord x = true) ∧ w.alloc (.cells zTok 54) = wr)
    (fun i _ => s.size - (intOf i).toNat)
  case atStart => exact ⟨0, rfl, by omega, Lib.hid (by simp), rfl⟩
  case round =>
    obtain ⟨m, rfl, hkm, HM, rfl⟩ := hrel
    obtain ⟨p, hp⟩ : ∃ p : Nat, k + m = p := ⟨_, rfl⟩
    rw [hp]
    have hz1 : (k : Int) ≤ (p : Int) := by omega
    have hz2 : (p : Int) ≤ (s.size : Int) := by omega
    by_cases hlt : p < s.size
    · have hlt2 : (p : Int) < (s.size : Int) := by omega
      obtain ⟨a, ha⟩ : ∃ a : Int, (s[p].toNat : Int) = a := ⟨_, rfl⟩
      have ha1 : 0 ≤ a ∧ a ≤ 255 := by have := s[p].toNat_lt; omega
      have hat : (restL s k)[m]? = some a := by subst hp; rw [restL_at s k m hlt, ha]
      have HTK1 := Lib.hid (take_snocR hat)
      have HAT := Lib.hid hat; clear hat
      cases hl : isLet a
      · cases hn : isNum a
        · by_cases h36 : a = 36
          · have hb36 : (a == 36) = true := beq_iff_eq.2 h36
            have HNX := Lib.hid (show ∀ x ∈ (restL s k).take (m + 1), isWord x = true by rw [HTK1.out]; exact all_snoc HM.out (word_s (.inl h36)))
            clear h36
            go_wp2_with (first
              | (go_at_call 85; ((with_reducible refine (refLetter_any _ ?_ ?_ _).mono ?_); (first | omega | skip); (first | omega | skip); rintro e w' ⟨rfl, rfl⟩; rw [hl]))
              | (go_at_call 82; ((with_reducible refine (refDigit_any _ ?_ ?_ _).mono ?_); (first | omega | skip); (first | omega | skip); rintro e w' ⟨rfl, rfl⟩; rw [hn])))
            go_roundw
            case rel => exact ⟨m + 1, by rw [show ((p : Int) + 1) = ((k + (m + 1) : Nat) : Int) by omega], by omega, HNX, by trivial⟩
            case measure => simp [intOf]; omega
          · have hb36 : (a == 36) = false := beq_eq_false_iff_ne.2 h36
            by_cases h33 : a = 33
            · have hb33 : (a == 33) = true := beq_iff_eq.2 h33
              have HNX := Lib.hid (show ∀ x ∈ (restL s k).take (m + 1), isWord x = true by rw [HTK1.out]; exact all_snoc HM.out (word_s (.inr h33)))
              clear h33
              go_wp2_with (first
                | (go_at_call 85; ((with_reducible refine (refLetter_any _ ?_ ?_ _).mono ?_); (first | omega | skip); (first | omega | skip); rintro e w' ⟨rfl, rfl⟩; rw [hl]))
                | (go_at_call 82; ((with_reducible refine (refDigit_any _ ?_ ?_ _).mono ?_); (first | omega | skip); (first | omega | skip); rintro e w' ⟨rfl, rfl⟩; rw [hn])))
              go_roundw
              case rel => exact ⟨m + 1, by rw [show ((p : Int) + 1) = ((k + (m + 1) : Nat) : Int) by omega], by omega, HNX, by trivial⟩
              case measure => simp [intOf]; omega
            · have hb33 : (a == 33) = false := beq_eq_false_iff_ne.2 h33
              have HSTOP := Lib.hid (show ∀ x, (restL s k)[m]? = some x → isWord x = false from fun x hx => by rw [HAT.out] at hx; injection hx with hx; rw [← hx]; exact word_noR hl hn h36 h33)
              clear h36 h33 HTK1
              have hval := ref_word s k m p hp hkm HM.out HSTOP.out
              obtain ⟨D, hD⟩ : ∃ D, s.extract k p = D := ⟨_, rfl⟩
              rw [hD] at hval
              have hDz : D.size ≤ 1000000 := by rw [← hD, ByteArray.size_extract]; omega
              cases hq : readS D with
              | some d =>
                rw [hq] at hval
                have HN := Lib.hid hval; clear hval
                have HSY := Lib.hid (fun (e : Ending) (he : Says (sb D) e) => says_some hq he); clear hq
                go_upto_region 6 with (first
                  | (go_at_call 85; ((with_reducible refine (refLetter_any _ ?_ ?_ _).mono ?_); (first | omega | skip); (first | omega | skip); rintro e w' ⟨rfl, rfl⟩; rw [hl])) | (go_at_call 82; ((with_reducible refine (refDigit_any _ ?_ ?_ _).mono ?_); (first | omega | skip); (first | omega | skip); rintro e w' ⟨rfl, rfl⟩; rw [hn]))
                  | (go_at_call 56; ((with_reducible refine (refRead_any D _ ?_).mono ?_); (first | omega | skip); rintro e w2 ⟨h1, h2⟩; obtain rfl := HSY.out e h1; clear h1; have H3 := Lib.hid h2; clear h2; have HT2 := Lib.hid (HTK.out.below H3.out HTK.out.lt))))
                have hR3 := RefAt.new w2 d.sh d.c d.r d.ac d.ar
                have hB3 : Below w2.heap.size w2 (w2.alloc (.cells #[.string d.sh, .int .i64 d.c, .int .i64 d.r, .bool d.ac, .bool d.ar] 35)) := (Below.refl _ _).alloc (Nat.le_refl _) _
                have HT3 := Lib.hid (HT2.out.below hB3 HT2.out.lt)
                have HG3 := Lib.hid (HAL.out.trans ((Below.of _ _ _ H3.out hB3).mono HAL.out.size))
                clear hB3
                generalize w2.alloc (.cells #[.string d.sh, .int .i64 d.c, .int .i64 d.r, .bool d.ac, .bool d.ar] 35) = w3 at hR3 HT3 HG3 ⊢
                obtain ⟨x0, x1, x2, x3, x4, x5, x6, x7, x8⟩ := HT3.out.cells
                obtain ⟨f0, f1, f2, f3, f4, f5, f6, f7, f8⟩ := HT3.out.melts
                obtain ⟨y0, y1, y2, y3, y4⟩ := hR3.facts
                clear hR3
                go_wp2_with fail
                exact bodyPost_ret (out_tokn (HT3.out.put9 (({ Tk.zero with kind := 4, sh := d.sh, c := d.c, r := d.r, ac := d.ac, ar := d.ar } : Tk).goto k)) _ _ ((p : Int) - (k : Int)) 4 5 res_rword rfl rfl) rfl ⟨below_set9r HG3.out (Nat.le_refl _) _ _ _ _ _ _ _ _ _, .inl ⟨_, m, HN.out, by rw [show ((p : Int) - (k : Int)) = (m : Int) by omega]⟩⟩
              | none =>
                rw [hq] at hval
                have HSY := Lib.hid (fun (e : Ending) (he : Says (sb D) e) => says_none hq he); clear hq
                cases hnm : calledL (sb D)
                all_goals
                  rw [hnm] at hval
                  have HN := Lib.hid hval; clear hval
                  have HNM := Lib.hid hnm; clear hnm
                  go_upto_region 7 with (first
                    | (go_at_call 85; ((with_reducible refine (refLetter_any _ ?_ ?_ _).mono ?_); (first | omega | skip); (first | omega | skip); rintro e w' ⟨rfl, rfl⟩; rw [hl])) | (go_at_call 82; ((with_reducible refine (refDigit_any _ ?_ ?_ _).mono ?_); (first | omega | skip); (first | omega | skip); rintro e w' ⟨rfl, rfl⟩; rw [hn]))
                    | (go_at_call 56; ((with_reducible refine (refRead_any D _ ?_).mono ?_); (first | omega | skip); rintro e w2 ⟨h1, h2⟩; obtain rfl := HSY.out e h1; clear h1; have H3 := Lib.hid h2; clear h2; have HT2 := Lib.hid (HTK.out.below H3.out HTK.out.lt))))
                  have hB3 : Below w2.heap.size w2 (w2.alloc (.cells #[.string ⟨#[]⟩, .int .i64 0, .int .i64 0, .bool false, .bool false] 35)) := (Below.refl _ _).alloc (Nat.le_refl _) _
                  have HT3 := Lib.hid (HT2.out.below hB3 HT2.out.lt)
                  have HG3 := Lib.hid (HAL.out.trans ((Below.of _ _ _ H3.out hB3).mono HAL.out.size))
                  clear hB3
                  generalize w2.alloc (.cells #[.string ⟨#[]⟩, .int .i64 0, .int .i64 0, .bool false, .bool false] 35) = w3 at HT3 HG3 ⊢
                  obtain ⟨x0, x1, x2, x3, x4, x5, x6, x7, x8⟩ := HT3.out.cells
                  obtain ⟨f0, f1, f2, f3, f4, f5, f6, f7, f8⟩ := HT3.out.melts
                  go_wp2_with (go_at_call 57; ((with_reducible refine (refCalled_any D _ ?_).mono ?_); (first | omega | skip); rintro e w4 ⟨rfl, rfl⟩; rw [HNM.out]))
                · exact bodyPost_ret (out_tokn (HT3.out.put9 Tk.zero) _ _ 0 4 5 res_rword rfl rfl) rfl ⟨below_set9r HG3.out (Nat.le_refl _) _ _ _ _ _ _ _ _ _, .inr ⟨HN.out, Tk.zero, rfl⟩⟩
                · exact bodyPost_ret (out_tokn (HT3.out.put9 (({ Tk.zero with kind := 3, text := D } : Tk).goto k)) _ _ ((p : Int) - (k : Int)) 4 5 res_rword rfl rfl) rfl ⟨below_set9r HG3.out (Nat.le_refl _) _ _ _ _ _ _ _ _ _, .inl ⟨_, m, HN.out, by rw [show ((p : Int) - (k : Int)) = (m : Int) by omega]⟩⟩
        · skip
          have HNX := Lib.hid (show ∀ x ∈ (restL s k).take (m + 1), isWord x = true by rw [HTK1.out]; exact all_snoc HM.out (word_n hn))
          skip
          go_wp2_with (first
            | (go_at_call 85; ((with_reducible refine (refLetter_any _ ?_ ?_ _).mono ?_); (first | omega | skip); (first | omega | skip); rintro e w' ⟨rfl, rfl⟩; rw [hl]))
            | (go_at_call 82; ((with_reducible refine (refDigit_any _ ?_ ?_ _).mono ?_); (first | omega | skip); (first | omega | skip); rintro e w' ⟨rfl, rfl⟩; rw [hn])))
          go_roundw
          case rel => exact ⟨m + 1, by rw [show ((p : Int) + 1) = ((k + (m + 1) : Nat) : Int) by omega], by omega, HNX, by trivial⟩
          case measure => simp [intOf]; omega
      · skip
        have HNX := Lib.hid (show ∀ x ∈ (restL s k).take (m + 1), isWord x = true by rw [HTK1.out]; exact all_snoc HM.out (word_l hl))
        skip
        go_wp2_with (first
          | (go_at_call 85; ((with_reducible refine (refLetter_any _ ?_ ?_ _).mono ?_); (first | omega | skip); (first | omega | skip); rintro e w' ⟨rfl, rfl⟩; rw [hl])))
        go_roundw
        case rel => exact ⟨m + 1, by rw [show ((p : Int) + 1) = ((k + (m + 1) : Nat) : Int) by omega], by omega, HNX, by trivial⟩
        case measure => simp [intOf]; omega
    · have hlt2 : ¬ (p : Int) < (s.size : Int) := by omega
      have HSTOP := Lib.hid (show ∀ x, (restL s k)[m]? = some x → isWord x = false from fun x hx => by have h1 := (List.getElem?_eq_some_iff.1 hx).1; rw [length_restL] at h1; omega)
      have hval := ref_word s k m p hp hkm HM.out HSTOP.out
      obtain ⟨D, hD⟩ : ∃ D, s.extract k p = D := ⟨_, rfl⟩
      rw [hD] at hval
      have hDz : D.size ≤ 1000000 := by rw [← hD, ByteArray.size_extract]; omega
      cases hq : readS D with
      | some d =>
        rw [hq] at hval
        have HN := Lib.hid hval; clear hval
        have HSY := Lib.hid (fun (e : Ending) (he : Says (sb D) e) => says_some hq he); clear hq
        go_upto_region 6 with (first
                | (go_at_call 56; ((with_reducible refine (refRead_any D _ ?_).mono ?_); (first | omega | skip); rintro e w2 ⟨h1, h2⟩; obtain rfl := HSY.out e h1; clear h1; have H3 := Lib.hid h2; clear h2; have HT2 := Lib.hid (HTK.out.below H3.out HTK.out.lt))))
        have hR3 := RefAt.new w2 d.sh d.c d.r d.ac d.ar
        have hB3 : Below w2.heap.size w2 (w2.alloc (.cells #[.string d.sh, .int .i64 d.c, .int .i64 d.r, .bool d.ac, .bool d.ar] 35)) := (Below.refl _ _).alloc (Nat.le_refl _) _
        have HT3 := Lib.hid (HT2.out.below hB3 HT2.out.lt)
        have HG3 := Lib.hid (HAL.out.trans ((Below.of _ _ _ H3.out hB3).mono HAL.out.size))
        clear hB3
        generalize w2.alloc (.cells #[.string d.sh, .int .i64 d.c, .int .i64 d.r, .bool d.ac, .bool d.ar] 35) = w3 at hR3 HT3 HG3 ⊢
        obtain ⟨x0, x1, x2, x3, x4, x5, x6, x7, x8⟩ := HT3.out.cells
        obtain ⟨f0, f1, f2, f3, f4, f5, f6, f7, f8⟩ := HT3.out.melts
        obtain ⟨y0, y1, y2, y3, y4⟩ := hR3.facts
        clear hR3
        go_wp2_with fail
        exact bodyPost_ret (out_tokn (HT3.out.put9 (({ Tk.zero with kind := 4, sh := d.sh, c := d.c, r := d.r, ac := d.ac, ar := d.ar } : Tk).goto k)) _ _ ((p : Int) - (k : Int)) 4 5 res_rword rfl rfl) rfl ⟨below_set9r HG3.out (Nat.le_refl _) _ _ _ _ _ _ _ _ _, .inl ⟨_, m, HN.out, by rw [show ((p : Int) - (k : Int)) = (m : Int) by omega]⟩⟩
      | none =>
        rw [hq] at hval
        have HSY := Lib.hid (fun (e : Ending) (he : Says (sb D) e) => says_none hq he); clear hq
        cases hnm : calledL (sb D)
        all_goals
          rw [hnm] at hval
          have HN := Lib.hid hval; clear hval
          have HNM := Lib.hid hnm; clear hnm
          go_upto_region 7 with (first
                    | (go_at_call 56; ((with_reducible refine (refRead_any D _ ?_).mono ?_); (first | omega | skip); rintro e w2 ⟨h1, h2⟩; obtain rfl := HSY.out e h1; clear h1; have H3 := Lib.hid h2; clear h2; have HT2 := Lib.hid (HTK.out.below H3.out HTK.out.lt))))
          have hB3 : Below w2.heap.size w2 (w2.alloc (.cells #[.string ⟨#[]⟩, .int .i64 0, .int .i64 0, .bool false, .bool false] 35)) := (Below.refl _ _).alloc (Nat.le_refl _) _
          have HT3 := Lib.hid (HT2.out.below hB3 HT2.out.lt)
          have HG3 := Lib.hid (HAL.out.trans ((Below.of _ _ _ H3.out hB3).mono HAL.out.size))
          clear hB3
          generalize w2.alloc (.cells #[.string ⟨#[]⟩, .int .i64 0, .int .i64 0, .bool false, .bool false] 35) = w3 at HT3 HG3 ⊢
          obtain ⟨x0, x1, x2, x3, x4, x5, x6, x7, x8⟩ := HT3.out.cells
          obtain ⟨f0, f1, f2, f3, f4, f5, f6, f7, f8⟩ := HT3.out.melts
          go_wp2_with (go_at_call 57; ((with_reducible refine (refCalled_any D _ ?_).mono ?_); (first | omega | skip); rintro e w4 ⟨rfl, rfl⟩; rw [HNM.out]))
        · exact bodyPost_ret (out_tokn (HT3.out.put9 Tk.zero) _ _ 0 4 5 res_rword rfl rfl) rfl ⟨below_set9r HG3.out (Nat.le_refl _) _ _ _ _ _ _ _ _ _, .inr ⟨HN.out, Tk.zero, rfl⟩⟩
        · exact bodyPost_ret (out_tokn (HT3.out.put9 (({ Tk.zero with kind := 3, text := D } : Tk).goto k)) _ _ ((p : Int) - (k : Int)) 4 5 res_rword rfl rfl) rfl ⟨below_set9r HG3.out (Nat.le_refl _) _ _ _ _ _ _ _ _ _, .inl ⟨_, m, HN.out, by rw [show ((p : Int) - (k : Int)) = (m : Int) by omega]⟩⟩
end Go.Proofs.YtdfpalocnijefaaGreatDoor

/-
  Layer 5, the reference: what a node's fields may be.
-/
namespace Go.Proofs.YtdfpalocnijefaaGreatDoor
open Go.RowKit

set_option maxHeartbeats 800000 in
theorem refArms_any (k : Int) (w : World) : Calls Tryz.prog 31 #[.int .i64 k] w fun e w' => e = .returned (.int .i64 (armsN k)) ∧ w = w' := by
  have fin : ∀ r : Int, armsN k = r → (Calls Tryz.prog 31 #[.int .i64 k] w fun e w' => e = .returned (.int .i64 r) ∧ w = w') → Calls Tryz.prog 31 #[.int .i64 k] w fun e w' => e = .returned (.int .i64 (armsN k)) ∧ w = w' := fun r h g => by rw [h]; exact g
  by_cases h1 : 1 ≤ k
  · by_cases h6 : k ≤ 6
    · refine fin 0 (by unfold armsN; rw [if_pos ⟨h1, h6⟩]) ?_
      go_enter Tryz.func31, Tryz.ntmps31
      go_wp2_with fail
      go_ret
      exact ⟨rfl, rfl⟩
    · by_cases h7 : k = 7
      · have e7 : (k == 7) = true := beq_iff_eq.2 h7
        refine fin (-1) (by unfold armsN; rw [if_neg (by omega), if_pos h7]) ?_
        clear h7
        go_enter Tryz.func31, Tryz.ntmps31
        go_wp2_with fail
        go_ret
        exact ⟨rfl, rfl⟩
      · have e7 : (k == 7) = false := beq_eq_false_iff_ne.2 h7
        by_cases h8 : k = 8
        · have e8 : (k == 8) = true := beq_iff_eq.2 h8
          refine fin 1 (by unfold armsN; rw [if_neg (by omega), if_neg h7, if_pos h8]) ?_
          clear h7 h8
          go_enter Tryz.func31, Tryz.ntmps31
          go_wp2_with fail
          go_ret
          exact ⟨rfl, rfl⟩
        · have e8 : (k == 8) = false := beq_eq_false_iff_ne.2 h8
          have h9 : 9 ≤ k := by omega
          by_cases h19 : k ≤ 19
          · refine fin 2 (by unfold armsN; rw [if_neg (by omega), if_neg h7, if_neg h8, if_pos ⟨h9, h19⟩]) ?_
            clear h7 h8
            go_enter Tryz.func31, Tryz.ntmps31
            go_wp2_with fail
            go_ret
            exact ⟨rfl, rfl⟩
          · refine fin (-2) (by unfold armsN; rw [if_neg (by omega), if_neg h7, if_neg h8, if_neg (by omega)]) ?_
            clear h7 h8
            go_enter Tryz.func31, Tryz.ntmps31
            go_wp2_with fail
            go_ret
            exact ⟨rfl, rfl⟩
  · have e7 : (k == 7) = false := beq_eq_false_iff_ne.2 (by omega)
    have e8 : (k == 8) = false := beq_eq_false_iff_ne.2 (by omega)
    have h9 : ¬ 9 ≤ k := by omega
    refine fin (-2) (by unfold armsN; rw [if_neg (by omega), if_neg (by omega), if_neg (by omega), if_neg (by omega)]) ?_
    go_enter Tryz.func31, Tryz.ntmps31
    go_wp2_with fail
    go_ret
    exact ⟨rfl, rfl⟩
theorem eqR_no {a b : Rf} (h : ¬ eqR a b = true) : eqR a b = false := by cases hq : eqR a b <;> first | rfl | exact absurd hq h
set_option maxRecDepth 100000 in
set_option maxHeartbeats 800000 in
theorem refNoRef_any (f : Rf) (w : World) : Calls Tryz.prog 54 #[.agg #[.string f.sh, .int .i64 f.c, .int .i64 f.r, .bool f.ac, .bool f.ar]] w fun e w' => e = .returned (.bool (noRf f)) ∧ Below w.heap.size w w' := by
  have HN := Lib.hid (noRf_eq f)
  have hx := RefAt.new w f.sh f.c f.r f.ac f.ar
  have HB := Lib.hid ((Below.refl w.heap.size w).alloc (Nat.le_refl _) (.cells #[.string f.sh, .int .i64 f.c, .int .i64 f.r, .bool f.ac, .bool f.ar] 35))
  go_enter Tryz.func54, Tryz.ntmps54
  go_upto_region 1 with (fail)
  generalize w.alloc (.cells #[.string f.sh, .int .i64 f.c, .int .i64 f.r, .bool f.ac, .bool f.ar] 35) = w1 at hx HB ⊢
  obtain ⟨x0, x1, x2, x3, x4⟩ := hx.facts
  clear hx
  have HEQ := Lib.hid (fun (h1 : f.sh.toList = []) (h2 : f.c = 0) (h3 : f.r = 0) (h4 : f.ac = false) (h5 : f.ar = false) => (eqR_of (a := f) (b := Rf.zero) (h1.trans empty_list.symm) h2 h3 h4 h5))
  go_wp2_with fail
  all_goals go_ret
  all_goals first
    | (have hv : eqR f Rf.zero = true := HEQ.out ‹f.sh.toList = []› ‹f.c = 0› ‹f.r = 0› (by simpa using ‹¬ f.ac = true›) (by simpa using ‹¬ f.ar = true›)
       exact ⟨by rw [HN.out, hv]; rfl, HB.out⟩)
    | (have hv : eqR f Rf.zero = false := by
         cases hq : eqR f Rf.zero
         · rfl
         · exfalso
           have hz := (eqR_iff f Rf.zero).1 hq
           clear x0 x1 x2 x3 x4 HEQ HN hq
           subst hz
           first
             | exact absurd (show Rf.zero.sh.toList = [] from empty_list) ‹¬ Rf.zero.sh.toList = []›
             | exact absurd (show Rf.zero.c = 0 from rfl) ‹¬ Rf.zero.c = 0›
             | exact absurd (show Rf.zero.r = 0 from rfl) ‹¬ Rf.zero.r = 0›
             | exact absurd ‹Rf.zero.ac = true› (by decide)
             | exact absurd ‹Rf.zero.ar = true› (by decide)
       exact ⟨by rw [HN.out, hv]; rfl, HB.out⟩)
end Go.Proofs.YtdfpalocnijefaaGreatDoor

/-
  Layer 5, the reference: what a node's fields may be, kind by kind.
-/
namespace Go.Proofs.YtdfpalocnijefaaGreatDoor
open Go.RowKit

set_option maxRecDepth 100000 in
set_option maxHeartbeats 800000 in
theorem refPrintable_any (s : ByteArray) (w : World) (_hs : s.size ≤ 1000000) : Calls Tryz.prog 55 #[.string s] w fun e w' => e = .returned (.bool (printB (sb s))) ∧ w = w' := by
  go_enter Tryz.func55, Tryz.ntmps55
  go_wp2_with fail
  go_loopw [3] (fun i wr => ∃ k : Nat, k ≤ s.size ∧ i = .int .i64 k ∧ Hid (∀ (j : Nat) (hj : j < s.size), j < k → ¬ ((s[j].toNat : Nat) : Int) < 32) ∧ w = wr)
    (fun i _ => s.size - (intOf i).toNat)
  case atStart => exact ⟨0, by omega, rfl, Lib.hid (by intro j _ hj; omega), rfl⟩
  case round =>
    obtain ⟨k, hk, rfl, HG, rfl⟩ := hrel
    by_cases hlt : k < s.size
    · have hki : (k : Int) < (s.size : Int) := by omega
      obtain ⟨a, ha⟩ : ∃ a : Int, (s[k].toNat : Int) = a := ⟨_, rfl⟩
      have ha1 : 0 ≤ a ∧ a ≤ 255 := by have := s[k].toNat_lt; omega
      have HA := Lib.hid ha
      by_cases h32 : a < 32
      · have HB := Lib.hid (printB_bad s k hlt (by rw [ha]; exact h32))
        go_wp2_with fail
        go_ret
        exact ⟨by rw [HB.out] <;> rfl, rfl⟩
      · go_wp2_with fail
        go_roundw
        case rel =>
          refine ⟨k + 1, by omega, by go_num, Lib.hid ?_, by first | rfl | trivial⟩
          intro j hj hjk
          by_cases e : j = k
          · subst e; rw [HA.out]; exact h32
          · exact HG.out j hj (by omega)
        case measure => simp [intOf]; omega
    · have hki : ¬ (k : Int) < (s.size : Int) := by omega
      have HB := Lib.hid (printB_all s (fun j hj => HG.out j hj (by omega)))
      go_wp2_with fail
      go_ret
      exact ⟨by rw [HB.out] <;> rfl, rfl⟩

set_option maxRecDepth 100000 in
set_option maxHeartbeats 800000 in
theorem refSpan_any (s1 s2 : ByteArray) (c1 r1 c2 r2 : Int) (a1 b1 a2 b2 : Bool) (w : World) :
    Calls Tryz.prog 59 #[.agg #[.string s1, .int .i64 c1, .int .i64 r1, .bool a1, .bool b1], .agg #[.string s2, .int .i64 c2, .int .i64 r2, .bool a2, .bool b2]] w fun e w' => e = .returned (.bool (spanB ⟨s1, c1, r1, a1, b1⟩ ⟨s2, c2, r2, a2, b2⟩)) ∧ Below w.heap.size w w' := by
  have hsz : (w.alloc (.cells #[.string s1, .int .i64 c1, .int .i64 r1, .bool a1, .bool b1] 35)).heap.size = w.heap.size + 1 := by simp
  have h1 := RefAt.new w s1 c1 r1 a1 b1
  have h2 := RefAt.new (w.alloc (.cells #[.string s1, .int .i64 c1, .int .i64 r1, .bool a1, .bool b1] 35)) s2 c2 r2 a2 b2
  have h3 := h1.below ((Below.refl _ _).alloc (Nat.le_refl _) (.cells #[.string s2, .int .i64 c2, .int .i64 r2, .bool a2, .bool b2] 35)) h1.lt
  rw [hsz] at h2
  have HB := Lib.hid (((Below.refl w.heap.size w).alloc (Nat.le_refl _) (.cells #[.string s1, .int .i64 c1, .int .i64 r1, .bool a1, .bool b1] 35)).alloc (by simp) (.cells #[.string s2, .int .i64 c2, .int .i64 r2, .bool a2, .bool b2] 35))
  have HS := Lib.hid (show spanB ⟨s1, c1, r1, a1, b1⟩ ⟨s2, c2, r2, a2, b2⟩ = (decide (s2 = ⟨#[]⟩) && (decide (c1 ≤ c2) && decide (r1 ≤ r2))) from rfl)
  clear h1
  go_enter Tryz.func59, Tryz.ntmps59
  go_upto_region 1 with (fail)
  generalize (w.alloc (.cells #[.string s1, .int .i64 c1, .int .i64 r1, .bool a1, .bool b1] 35)).alloc (.cells #[.string s2, .int .i64 c2, .int .i64 r2, .bool a2, .bool b2] 35) = w1 at h2 h3 HB ⊢
  obtain ⟨x0, x1, x2, x3, x4⟩ := h2.facts
  obtain ⟨y0, y1, y2, y3, y4⟩ := h3.facts
  clear h2 h3
  by_cases hs : s2 = ⟨#[]⟩
  · subst hs
    have e0 := empty_list
    by_cases hc : c1 ≤ c2
    · by_cases hr : r1 ≤ r2
      · have HT := Lib.hid (show spanB ⟨s1, c1, r1, a1, b1⟩ ⟨⟨#[]⟩, c2, r2, a2, b2⟩ = true by rw [HS.out, decide_eq_true hc, decide_eq_true hr]; rfl)
        go_wp2_with fail
        go_ret
        exact ⟨by rw [HT.out]; rfl, HB.out⟩
      · have HT := Lib.hid (show spanB ⟨s1, c1, r1, a1, b1⟩ ⟨⟨#[]⟩, c2, r2, a2, b2⟩ = false by rw [HS.out, decide_eq_true hc, decide_eq_false hr]; rfl)
        go_wp2_with fail
        go_ret
        exact ⟨by rw [HT.out]; rfl, HB.out⟩
    · have HT := Lib.hid (show spanB ⟨s1, c1, r1, a1, b1⟩ ⟨⟨#[]⟩, c2, r2, a2, b2⟩ = false by rw [HS.out, decide_eq_false hc]; rfl)
      go_wp2_with fail
      go_ret
      exact ⟨by rw [HT.out]; rfl, HB.out⟩
  · have HT := Lib.hid (show spanB ⟨s1, c1, r1, a1, b1⟩ ⟨s2, c2, r2, a2, b2⟩ = false by rw [HS.out, decide_eq_false hs]; rfl)
    have e0 : ¬ s2.toList = [] := by rw [← empty_list]; exact text_ne _ _ hs
    have e1 : s2.toList.isEmpty = false := by simpa using e0
    clear hs
    go_wp2_with fail
    go_ret
    exact ⟨by rw [HT.out]; rfl, HB.out⟩

set_option maxRecDepth 100000 in
set_option maxHeartbeats 2000000 in
theorem refLeaf_1 (n : Nd) (hk : n.kind = 1) (_hs : n.text.size ≤ 1000000) (_hr : n.ref.sh.size ≤ 1000000) (_ht : n.to.sh.size ≤ 1000000) (A : Option Addr) (m c : Nat) (w : World) : Calls Tryz.prog 32 #[.agg #[.int .i64 n.kind, .int .i64 n.num, .string n.text, .string n.ref.sh, .int .i64 n.ref.c, .int .i64 n.ref.r, .bool n.ref.ac, .bool n.ref.ar, .string n.to.sh, .int .i64 n.to.c, .int .i64 n.to.r, .bool n.to.ac, .bool n.to.ar, .slice A m c]] w fun e w' => e = .returned (.bool (leafB n)) ∧ Below w.heap.size w w' := by
  have hx : NdAt (w.alloc (.cells #[.int .i64 n.kind, .int .i64 n.num, .string n.text, .string n.ref.sh, .int .i64 n.ref.c, .int .i64 n.ref.r, .bool n.ref.ac, .bool n.ref.ar, .string n.to.sh, .int .i64 n.to.c, .int .i64 n.to.r, .bool n.to.ac, .bool n.to.ar, .slice A m c] 38)) w.heap.size n (.slice A m c) := NdAt.new w n _
  have HB := Lib.hid ((Below.refl w.heap.size w).alloc (Nat.le_refl _) (.cells #[.int .i64 n.kind, .int .i64 n.num, .string n.text, .string n.ref.sh, .int .i64 n.ref.c, .int .i64 n.ref.r, .bool n.ref.ac, .bool n.ref.ar, .string n.to.sh, .int .i64 n.to.c, .int .i64 n.to.r, .bool n.to.ac, .bool n.to.ar, .slice A m c] 38))
  have HN1 := Lib.hid (fun w => refNoRef_any n.ref w)
  have HN2 := Lib.hid (fun w => refNoRef_any n.to w)
  have HK := Lib.hid hk
  clear hk
  go_enter Tryz.func32, Tryz.ntmps32
  go_upto_region 1 with (fail)
  generalize w.alloc (.cells #[.int .i64 n.kind, .int .i64 n.num, .string n.text, .string n.ref.sh, .int .i64 n.ref.c, .int .i64 n.ref.r, .bool n.ref.ac, .bool n.ref.ar, .string n.to.sh, .int .i64 n.to.c, .int .i64 n.to.r, .bool n.to.ac, .bool n.to.ar, .slice A m c] 38) = w1 at hx HB ⊢
  generalize hb0 : w.heap.size = b0 at hx ⊢
  obtain ⟨x0, x1, x2, x3, x4, x5, x6, x7, x8, x9, x10, x11, x12, x13⟩ := hx.cells
  have HX := Lib.hid hx
  clear hx
  have hk := HK.out
  rw [hk] at x0
  by_cases htext : n.text = ⟨#[]⟩
  rotate_left
  · have t0 : ¬ n.text.toList = [] := by rw [← empty_list]; exact text_ne _ _ htext
    have t1 : n.text.toList.isEmpty = false := by simpa using t0
    have HR := Lib.hid (show leafB n = false by unfold leafB; simp [hk, htext])
    clear htext
    clear hk
    go_wp2_with (fail)
    go_ret
    exact ⟨by rw [HR.out] <;> rfl, HB.out⟩
  have t0 := empty_list
  rw [htext] at x2
  cases hq1 : noRf n.ref
  · have HQref := Lib.hid hq1
    have HR := Lib.hid (show leafB n = false by unfold leafB; simp [hk, htext, hq1])
    clear hq1
    clear htext
    clear hk
    go_wp2_with ((go_at_call 54; ((with_reducible refine (HN1.out _).mono ?_); rintro e w2 ⟨rfl, h1⟩; rw [HQref.out]; have HB2 := Lib.hid (HB.out.trans (h1.mono HB.out.size)); have HX2 := Lib.hid (HX.out.below h1 HX.out.lt); clear x0 x1 x2 x3 x4 x5 x6 x7 x8 x9 x10 x11 x12 x13; obtain ⟨x0, x1, x2, x3, x4, x5, x6, x7, x8, x9, x10, x11, x12, x13⟩ := HX2.out.cells; rw [HK.out] at x0; clear h1)))
    go_ret
    exact ⟨by rw [HR.out] <;> rfl, HB2.out⟩
  have HQref := Lib.hid hq1
  cases hq2 : noRf n.to
  · have HQto := Lib.hid hq2
    have HR := Lib.hid (show leafB n = false by unfold leafB; simp [hk, htext, hq1, hq2])
    clear hq2
    clear htext
    clear hq1
    clear hk
    go_wp2_with (first
      | (go_at_call 54; ((with_reducible refine (HN1.out _).mono ?_); rintro e w2 ⟨rfl, h1⟩; rw [HQref.out]; have HB2 := Lib.hid (HB.out.trans (h1.mono HB.out.size)); have HX2 := Lib.hid (HX.out.below h1 HX.out.lt); clear x0 x1 x2 x3 x4 x5 x6 x7 x8 x9 x10 x11 x12 x13; obtain ⟨x0, x1, x2, x3, x4, x5, x6, x7, x8, x9, x10, x11, x12, x13⟩ := HX2.out.cells; rw [HK.out] at x0; clear h1; clear HN1))
      | (go_at_call 54; ((with_reducible refine (HN2.out _).mono ?_); rintro e w3 ⟨rfl, h1⟩; rw [HQto.out]; have HB3 := Lib.hid (HB2.out.trans (h1.mono HB2.out.size)); have HX3 := Lib.hid (HX2.out.below h1 HX2.out.lt); clear x0 x1 x2 x3 x4 x5 x6 x7 x8 x9 x10 x11 x12 x13; obtain ⟨x0, x1, x2, x3, x4, x5, x6, x7, x8, x9, x10, x11, x12, x13⟩ := HX3.out.cells; rw [HK.out] at x0; clear h1)))
    go_ret
    exact ⟨by rw [HR.out] <;> rfl, HB3.out⟩
  have HQto := Lib.hid hq2
  have HR := Lib.hid (show leafB n = decide (0 ≤ n.num) by unfold leafB; simp [hk, htext, hq1, hq2])
  clear htext
  clear hq1
  clear hq2
  clear hk
  go_wp2_with (first
    | (go_at_call 54; ((with_reducible refine (HN1.out _).mono ?_); rintro e w2 ⟨rfl, h1⟩; rw [HQref.out]; have HB2 := Lib.hid (HB.out.trans (h1.mono HB.out.size)); have HX2 := Lib.hid (HX.out.below h1 HX.out.lt); clear x0 x1 x2 x3 x4 x5 x6 x7 x8 x9 x10 x11 x12 x13; obtain ⟨x0, x1, x2, x3, x4, x5, x6, x7, x8, x9, x10, x11, x12, x13⟩ := HX2.out.cells; rw [HK.out] at x0; clear h1; clear HN1))
    | (go_at_call 54; ((with_reducible refine (HN2.out _).mono ?_); rintro e w3 ⟨rfl, h1⟩; rw [HQto.out]; have HB3 := Lib.hid (HB2.out.trans (h1.mono HB2.out.size)); have HX3 := Lib.hid (HX2.out.below h1 HX2.out.lt); clear x0 x1 x2 x3 x4 x5 x6 x7 x8 x9 x10 x11 x12 x13; obtain ⟨x0, x1, x2, x3, x4, x5, x6, x7, x8, x9, x10, x11, x12, x13⟩ := HX3.out.cells; rw [HK.out] at x0; clear h1)))
  go_ret
  exact ⟨by rw [HR.out] <;> rfl, HB3.out⟩

set_option maxRecDepth 100000 in
set_option maxHeartbeats 2000000 in
theorem refLeaf_2 (n : Nd) (hk : n.kind = 2) (hs : n.text.size ≤ 1000000) (_hr : n.ref.sh.size ≤ 1000000) (_ht : n.to.sh.size ≤ 1000000) (A : Option Addr) (m c : Nat) (w : World) : Calls Tryz.prog 32 #[.agg #[.int .i64 n.kind, .int .i64 n.num, .string n.text, .string n.ref.sh, .int .i64 n.ref.c, .int .i64 n.ref.r, .bool n.ref.ac, .bool n.ref.ar, .string n.to.sh, .int .i64 n.to.c, .int .i64 n.to.r, .bool n.to.ac, .bool n.to.ar, .slice A m c]] w fun e w' => e = .returned (.bool (leafB n)) ∧ Below w.heap.size w w' := by
  have hx : NdAt (w.alloc (.cells #[.int .i64 n.kind, .int .i64 n.num, .string n.text, .string n.ref.sh, .int .i64 n.ref.c, .int .i64 n.ref.r, .bool n.ref.ac, .bool n.ref.ar, .string n.to.sh, .int .i64 n.to.c, .int .i64 n.to.r, .bool n.to.ac, .bool n.to.ar, .slice A m c] 38)) w.heap.size n (.slice A m c) := NdAt.new w n _
  have HB := Lib.hid ((Below.refl w.heap.size w).alloc (Nat.le_refl _) (.cells #[.int .i64 n.kind, .int .i64 n.num, .string n.text, .string n.ref.sh, .int .i64 n.ref.c, .int .i64 n.ref.r, .bool n.ref.ac, .bool n.ref.ar, .string n.to.sh, .int .i64 n.to.c, .int .i64 n.to.r, .bool n.to.ac, .bool n.to.ar, .slice A m c] 38))
  have HN1 := Lib.hid (fun w => refNoRef_any n.ref w)
  have HN2 := Lib.hid (fun w => refNoRef_any n.to w)
  have HK := Lib.hid hk
  clear hk
  go_enter Tryz.func32, Tryz.ntmps32
  go_upto_region 1 with (fail)
  generalize w.alloc (.cells #[.int .i64 n.kind, .int .i64 n.num, .string n.text, .string n.ref.sh, .int .i64 n.ref.c, .int .i64 n.ref.r, .bool n.ref.ac, .bool n.ref.ar, .string n.to.sh, .int .i64 n.to.c, .int .i64 n.to.r, .bool n.to.ac, .bool n.to.ar, .slice A m c] 38) = w1 at hx HB ⊢
  generalize hb0 : w.heap.size = b0 at hx ⊢
  obtain ⟨x0, x1, x2, x3, x4, x5, x6, x7, x8, x9, x10, x11, x12, x13⟩ := hx.cells
  have HX := Lib.hid hx
  clear hx
  have hk := HK.out
  rw [hk] at x0
  by_cases hnum : n.num = 0
  rotate_left
  · have en : (n.num != 0) = true := by rw [bne_iff_ne]; exact hnum
    have HR := Lib.hid (show leafB n = false by unfold leafB; simp [hk, hnum])
    clear hnum
    clear hk
    go_wp2_with (fail)
    go_ret
    exact ⟨by rw [HR.out] <;> rfl, HB.out⟩
  rw [hnum] at x1
  cases hq1 : noRf n.ref
  · have HQref := Lib.hid hq1
    have HR := Lib.hid (show leafB n = false by unfold leafB; simp [hk, hnum, hq1])
    clear hq1
    clear hnum
    clear hk
    go_wp2_with ((go_at_call 54; ((with_reducible refine (HN1.out _).mono ?_); rintro e w2 ⟨rfl, h1⟩; rw [HQref.out]; have HB2 := Lib.hid (HB.out.trans (h1.mono HB.out.size)); have HX2 := Lib.hid (HX.out.below h1 HX.out.lt); clear x0 x1 x2 x3 x4 x5 x6 x7 x8 x9 x10 x11 x12 x13; obtain ⟨x0, x1, x2, x3, x4, x5, x6, x7, x8, x9, x10, x11, x12, x13⟩ := HX2.out.cells; rw [HK.out] at x0; clear h1)))
    go_ret
    exact ⟨by rw [HR.out] <;> rfl, HB2.out⟩
  have HQref := Lib.hid hq1
  cases hq2 : noRf n.to
  · have HQto := Lib.hid hq2
    have HR := Lib.hid (show leafB n = false by unfold leafB; simp [hk, hnum, hq1, hq2])
    clear hq2
    clear hnum
    clear hq1
    clear hk
    go_wp2_with (first
      | (go_at_call 54; ((with_reducible refine (HN1.out _).mono ?_); rintro e w2 ⟨rfl, h1⟩; rw [HQref.out]; have HB2 := Lib.hid (HB.out.trans (h1.mono HB.out.size)); have HX2 := Lib.hid (HX.out.below h1 HX.out.lt); clear x0 x1 x2 x3 x4 x5 x6 x7 x8 x9 x10 x11 x12 x13; obtain ⟨x0, x1, x2, x3, x4, x5, x6, x7, x8, x9, x10, x11, x12, x13⟩ := HX2.out.cells; rw [HK.out] at x0; clear h1; clear HN1))
      | (go_at_call 54; ((with_reducible refine (HN2.out _).mono ?_); rintro e w3 ⟨rfl, h1⟩; rw [HQto.out]; have HB3 := Lib.hid (HB2.out.trans (h1.mono HB2.out.size)); have HX3 := Lib.hid (HX2.out.below h1 HX2.out.lt); clear x0 x1 x2 x3 x4 x5 x6 x7 x8 x9 x10 x11 x12 x13; obtain ⟨x0, x1, x2, x3, x4, x5, x6, x7, x8, x9, x10, x11, x12, x13⟩ := HX3.out.cells; rw [HK.out] at x0; clear h1)))
    go_ret
    exact ⟨by rw [HR.out] <;> rfl, HB3.out⟩
  have HQto := Lib.hid hq2
  have HR := Lib.hid (show leafB n = printB (sb n.text) by unfold leafB; simp [hk, hnum, hq1, hq2])
  clear hnum
  clear hq1
  clear hq2
  clear hk
  go_wp2_with (first
    | (go_at_call 54; ((with_reducible refine (HN1.out _).mono ?_); rintro e w2 ⟨rfl, h1⟩; rw [HQref.out]; have HB2 := Lib.hid (HB.out.trans (h1.mono HB.out.size)); have HX2 := Lib.hid (HX.out.below h1 HX.out.lt); clear x0 x1 x2 x3 x4 x5 x6 x7 x8 x9 x10 x11 x12 x13; obtain ⟨x0, x1, x2, x3, x4, x5, x6, x7, x8, x9, x10, x11, x12, x13⟩ := HX2.out.cells; rw [HK.out] at x0; clear h1; clear HN1))
    | (go_at_call 54; ((with_reducible refine (HN2.out _).mono ?_); rintro e w3 ⟨rfl, h1⟩; rw [HQto.out]; have HB3 := Lib.hid (HB2.out.trans (h1.mono HB2.out.size)); have HX3 := Lib.hid (HX2.out.below h1 HX2.out.lt); clear x0 x1 x2 x3 x4 x5 x6 x7 x8 x9 x10 x11 x12 x13; obtain ⟨x0, x1, x2, x3, x4, x5, x6, x7, x8, x9, x10, x11, x12, x13⟩ := HX3.out.cells; rw [HK.out] at x0; clear h1))
    | (go_at_call 55; ((with_reducible refine (refPrintable_any _ _ hs).mono ?_); rintro e wp ⟨rfl, rfl⟩)))
  go_ret
  exact ⟨by rw [HR.out] <;> rfl, HB3.out⟩

set_option maxRecDepth 100000 in
set_option maxHeartbeats 2000000 in
theorem refLeaf_3 (n : Nd) (hk : n.kind = 3) (_hs : n.text.size ≤ 1000000) (_hr : n.ref.sh.size ≤ 1000000) (_ht : n.to.sh.size ≤ 1000000) (A : Option Addr) (m c : Nat) (w : World) : Calls Tryz.prog 32 #[.agg #[.int .i64 n.kind, .int .i64 n.num, .string n.text, .string n.ref.sh, .int .i64 n.ref.c, .int .i64 n.ref.r, .bool n.ref.ac, .bool n.ref.ar, .string n.to.sh, .int .i64 n.to.c, .int .i64 n.to.r, .bool n.to.ac, .bool n.to.ar, .slice A m c]] w fun e w' => e = .returned (.bool (leafB n)) ∧ Below w.heap.size w w' := by
  have hx : NdAt (w.alloc (.cells #[.int .i64 n.kind, .int .i64 n.num, .string n.text, .string n.ref.sh, .int .i64 n.ref.c, .int .i64 n.ref.r, .bool n.ref.ac, .bool n.ref.ar, .string n.to.sh, .int .i64 n.to.c, .int .i64 n.to.r, .bool n.to.ac, .bool n.to.ar, .slice A m c] 38)) w.heap.size n (.slice A m c) := NdAt.new w n _
  have HB := Lib.hid ((Below.refl w.heap.size w).alloc (Nat.le_refl _) (.cells #[.int .i64 n.kind, .int .i64 n.num, .string n.text, .string n.ref.sh, .int .i64 n.ref.c, .int .i64 n.ref.r, .bool n.ref.ac, .bool n.ref.ar, .string n.to.sh, .int .i64 n.to.c, .int .i64 n.to.r, .bool n.to.ac, .bool n.to.ar, .slice A m c] 38))
  have HN1 := Lib.hid (fun w => refNoRef_any n.ref w)
  have HN2 := Lib.hid (fun w => refNoRef_any n.to w)
  have HK := Lib.hid hk
  clear hk
  go_enter Tryz.func32, Tryz.ntmps32
  go_upto_region 1 with (fail)
  generalize w.alloc (.cells #[.int .i64 n.kind, .int .i64 n.num, .string n.text, .string n.ref.sh, .int .i64 n.ref.c, .int .i64 n.ref.r, .bool n.ref.ac, .bool n.ref.ar, .string n.to.sh, .int .i64 n.to.c, .int .i64 n.to.r, .bool n.to.ac, .bool n.to.ar, .slice A m c] 38) = w1 at hx HB ⊢
  generalize hb0 : w.heap.size = b0 at hx ⊢
  obtain ⟨x0, x1, x2, x3, x4, x5, x6, x7, x8, x9, x10, x11, x12, x13⟩ := hx.cells
  have HX := Lib.hid hx
  clear hx
  have hk := HK.out
  rw [hk] at x0
  by_cases htext : n.text = ⟨#[]⟩
  rotate_left
  · have t0 : ¬ n.text.toList = [] := by rw [← empty_list]; exact text_ne _ _ htext
    have t1 : n.text.toList.isEmpty = false := by simpa using t0
    have HR := Lib.hid (show leafB n = false by unfold leafB; simp [hk, htext])
    clear htext
    clear hk
    go_wp2_with (fail)
    go_ret
    exact ⟨by rw [HR.out] <;> rfl, HB.out⟩
  have t0 := empty_list
  rw [htext] at x2
  cases hq1 : noRf n.ref
  · have HQref := Lib.hid hq1
    have HR := Lib.hid (show leafB n = false by unfold leafB; simp [hk, htext, hq1])
    clear hq1
    clear htext
    clear hk
    go_wp2_with ((go_at_call 54; ((with_reducible refine (HN1.out _).mono ?_); rintro e w2 ⟨rfl, h1⟩; rw [HQref.out]; have HB2 := Lib.hid (HB.out.trans (h1.mono HB.out.size)); have HX2 := Lib.hid (HX.out.below h1 HX.out.lt); clear x0 x1 x2 x3 x4 x5 x6 x7 x8 x9 x10 x11 x12 x13; obtain ⟨x0, x1, x2, x3, x4, x5, x6, x7, x8, x9, x10, x11, x12, x13⟩ := HX2.out.cells; rw [HK.out] at x0; clear h1)))
    go_ret
    exact ⟨by rw [HR.out] <;> rfl, HB2.out⟩
  have HQref := Lib.hid hq1
  cases hq2 : noRf n.to
  · have HQto := Lib.hid hq2
    have HR := Lib.hid (show leafB n = false by unfold leafB; simp [hk, htext, hq1, hq2])
    clear hq2
    clear htext
    clear hq1
    clear hk
    go_wp2_with (first
      | (go_at_call 54; ((with_reducible refine (HN1.out _).mono ?_); rintro e w2 ⟨rfl, h1⟩; rw [HQref.out]; have HB2 := Lib.hid (HB.out.trans (h1.mono HB.out.size)); have HX2 := Lib.hid (HX.out.below h1 HX.out.lt); clear x0 x1 x2 x3 x4 x5 x6 x7 x8 x9 x10 x11 x12 x13; obtain ⟨x0, x1, x2, x3, x4, x5, x6, x7, x8, x9, x10, x11, x12, x13⟩ := HX2.out.cells; rw [HK.out] at x0; clear h1; clear HN1))
      | (go_at_call 54; ((with_reducible refine (HN2.out _).mono ?_); rintro e w3 ⟨rfl, h1⟩; rw [HQto.out]; have HB3 := Lib.hid (HB2.out.trans (h1.mono HB2.out.size)); have HX3 := Lib.hid (HX2.out.below h1 HX2.out.lt); clear x0 x1 x2 x3 x4 x5 x6 x7 x8 x9 x10 x11 x12 x13; obtain ⟨x0, x1, x2, x3, x4, x5, x6, x7, x8, x9, x10, x11, x12, x13⟩ := HX3.out.cells; rw [HK.out] at x0; clear h1)))
    go_ret
    exact ⟨by rw [HR.out] <;> rfl, HB3.out⟩
  have HQto := Lib.hid hq2
  by_cases h0 : n.num = 0
  · have HR := Lib.hid (show leafB n = true by unfold leafB; simp [hk, htext, hq1, hq2, h0])
    have e0 : (n.num == 0) = true := beq_iff_eq.2 h0
    clear htext
    clear hq1
    clear hq2
    clear hk
    clear h0
    go_wp2_with (first
      | (go_at_call 54; ((with_reducible refine (HN1.out _).mono ?_); rintro e w2 ⟨rfl, h1⟩; rw [HQref.out]; have HB2 := Lib.hid (HB.out.trans (h1.mono HB.out.size)); have HX2 := Lib.hid (HX.out.below h1 HX.out.lt); clear x0 x1 x2 x3 x4 x5 x6 x7 x8 x9 x10 x11 x12 x13; obtain ⟨x0, x1, x2, x3, x4, x5, x6, x7, x8, x9, x10, x11, x12, x13⟩ := HX2.out.cells; rw [HK.out] at x0; clear h1; clear HN1))
      | (go_at_call 54; ((with_reducible refine (HN2.out _).mono ?_); rintro e w3 ⟨rfl, h1⟩; rw [HQto.out]; have HB3 := Lib.hid (HB2.out.trans (h1.mono HB2.out.size)); have HX3 := Lib.hid (HX2.out.below h1 HX2.out.lt); clear x0 x1 x2 x3 x4 x5 x6 x7 x8 x9 x10 x11 x12 x13; obtain ⟨x0, x1, x2, x3, x4, x5, x6, x7, x8, x9, x10, x11, x12, x13⟩ := HX3.out.cells; rw [HK.out] at x0; clear h1)))
    go_ret
    exact ⟨by rw [HR.out] <;> rfl, HB3.out⟩
  · have e0 : (n.num == 0) = false := beq_eq_false_iff_ne.2 h0
    by_cases h1 : n.num = 1
    · have e1 : (n.num == 1) = true := beq_iff_eq.2 h1
      have HR := Lib.hid (show leafB n = true by unfold leafB; simp [hk, htext, hq1, hq2, h1])
      clear htext
      clear hq1
      clear hq2
      clear hk
      clear h0 h1
      go_wp2_with (first
        | (go_at_call 54; ((with_reducible refine (HN1.out _).mono ?_); rintro e w2 ⟨rfl, h1⟩; rw [HQref.out]; have HB2 := Lib.hid (HB.out.trans (h1.mono HB.out.size)); have HX2 := Lib.hid (HX.out.below h1 HX.out.lt); clear x0 x1 x2 x3 x4 x5 x6 x7 x8 x9 x10 x11 x12 x13; obtain ⟨x0, x1, x2, x3, x4, x5, x6, x7, x8, x9, x10, x11, x12, x13⟩ := HX2.out.cells; rw [HK.out] at x0; clear h1; clear HN1))
        | (go_at_call 54; ((with_reducible refine (HN2.out _).mono ?_); rintro e w3 ⟨rfl, h1⟩; rw [HQto.out]; have HB3 := Lib.hid (HB2.out.trans (h1.mono HB2.out.size)); have HX3 := Lib.hid (HX2.out.below h1 HX2.out.lt); clear x0 x1 x2 x3 x4 x5 x6 x7 x8 x9 x10 x11 x12 x13; obtain ⟨x0, x1, x2, x3, x4, x5, x6, x7, x8, x9, x10, x11, x12, x13⟩ := HX3.out.cells; rw [HK.out] at x0; clear h1)))
      go_ret
      exact ⟨by rw [HR.out] <;> rfl, HB3.out⟩
    · have e1 : (n.num == 1) = false := beq_eq_false_iff_ne.2 h1
      have HR := Lib.hid (show leafB n = false by unfold leafB; simp [hk, htext, hq1, hq2, h0, h1])
      clear htext
      clear hq1
      clear hq2
      clear hk
      clear h0 h1
      go_wp2_with (first
        | (go_at_call 54; ((with_reducible refine (HN1.out _).mono ?_); rintro e w2 ⟨rfl, h1⟩; rw [HQref.out]; have HB2 := Lib.hid (HB.out.trans (h1.mono HB.out.size)); have HX2 := Lib.hid (HX.out.below h1 HX.out.lt); clear x0 x1 x2 x3 x4 x5 x6 x7 x8 x9 x10 x11 x12 x13; obtain ⟨x0, x1, x2, x3, x4, x5, x6, x7, x8, x9, x10, x11, x12, x13⟩ := HX2.out.cells; rw [HK.out] at x0; clear h1; clear HN1))
        | (go_at_call 54; ((with_reducible refine (HN2.out _).mono ?_); rintro e w3 ⟨rfl, h1⟩; rw [HQto.out]; have HB3 := Lib.hid (HB2.out.trans (h1.mono HB2.out.size)); have HX3 := Lib.hid (HX2.out.below h1 HX2.out.lt); clear x0 x1 x2 x3 x4 x5 x6 x7 x8 x9 x10 x11 x12 x13; obtain ⟨x0, x1, x2, x3, x4, x5, x6, x7, x8, x9, x10, x11, x12, x13⟩ := HX3.out.cells; rw [HK.out] at x0; clear h1)))
      go_ret
      exact ⟨by rw [HR.out] <;> rfl, HB3.out⟩

set_option maxRecDepth 100000 in
set_option maxHeartbeats 2000000 in
theorem refLeaf_5 (n : Nd) (hk : n.kind = 5) (_hs : n.text.size ≤ 1000000) (hr : n.ref.sh.size ≤ 1000000) (_ht : n.to.sh.size ≤ 1000000) (A : Option Addr) (m c : Nat) (w : World) : Calls Tryz.prog 32 #[.agg #[.int .i64 n.kind, .int .i64 n.num, .string n.text, .string n.ref.sh, .int .i64 n.ref.c, .int .i64 n.ref.r, .bool n.ref.ac, .bool n.ref.ar, .string n.to.sh, .int .i64 n.to.c, .int .i64 n.to.r, .bool n.to.ac, .bool n.to.ar, .slice A m c]] w fun e w' => e = .returned (.bool (leafB n)) ∧ Below w.heap.size w w' := by
  have hx : NdAt (w.alloc (.cells #[.int .i64 n.kind, .int .i64 n.num, .string n.text, .string n.ref.sh, .int .i64 n.ref.c, .int .i64 n.ref.r, .bool n.ref.ac, .bool n.ref.ar, .string n.to.sh, .int .i64 n.to.c, .int .i64 n.to.r, .bool n.to.ac, .bool n.to.ar, .slice A m c] 38)) w.heap.size n (.slice A m c) := NdAt.new w n _
  have HB := Lib.hid ((Below.refl w.heap.size w).alloc (Nat.le_refl _) (.cells #[.int .i64 n.kind, .int .i64 n.num, .string n.text, .string n.ref.sh, .int .i64 n.ref.c, .int .i64 n.ref.r, .bool n.ref.ac, .bool n.ref.ar, .string n.to.sh, .int .i64 n.to.c, .int .i64 n.to.r, .bool n.to.ac, .bool n.to.ar, .slice A m c] 38))
  have HN1 := Lib.hid (fun w => refNoRef_any n.ref w)
  have HN2 := Lib.hid (fun w => refNoRef_any n.to w)
  have HK := Lib.hid hk
  clear hk
  go_enter Tryz.func32, Tryz.ntmps32
  go_upto_region 1 with (fail)
  generalize w.alloc (.cells #[.int .i64 n.kind, .int .i64 n.num, .string n.text, .string n.ref.sh, .int .i64 n.ref.c, .int .i64 n.ref.r, .bool n.ref.ac, .bool n.ref.ar, .string n.to.sh, .int .i64 n.to.c, .int .i64 n.to.r, .bool n.to.ac, .bool n.to.ar, .slice A m c] 38) = w1 at hx HB ⊢
  generalize hb0 : w.heap.size = b0 at hx ⊢
  obtain ⟨x0, x1, x2, x3, x4, x5, x6, x7, x8, x9, x10, x11, x12, x13⟩ := hx.cells
  have HX := Lib.hid hx
  clear hx
  have hk := HK.out
  rw [hk] at x0
  by_cases hnum : n.num = 0
  rotate_left
  · have en : (n.num != 0) = true := by rw [bne_iff_ne]; exact hnum
    have HR := Lib.hid (show leafB n = false by unfold leafB; simp [hk, hnum])
    clear hnum
    clear hk
    go_wp2_with (fail)
    go_ret
    exact ⟨by rw [HR.out] <;> rfl, HB.out⟩
  rw [hnum] at x1
  by_cases htext : n.text = ⟨#[]⟩
  rotate_left
  · have t0 : ¬ n.text.toList = [] := by rw [← empty_list]; exact text_ne _ _ htext
    have t1 : n.text.toList.isEmpty = false := by simpa using t0
    have HR := Lib.hid (show leafB n = false by unfold leafB; simp [hk, hnum, htext])
    clear htext
    clear hnum
    clear hk
    go_wp2_with (fail)
    go_ret
    exact ⟨by rw [HR.out] <;> rfl, HB.out⟩
  have t0 := empty_list
  rw [htext] at x2
  cases hq2 : noRf n.to
  · have HQto := Lib.hid hq2
    have HR := Lib.hid (show leafB n = false by unfold leafB; simp [hk, hnum, htext, hq2])
    clear hq2
    clear hnum
    clear htext
    clear hk
    go_wp2_with ((go_at_call 54; ((with_reducible refine (HN2.out _).mono ?_); rintro e w2 ⟨rfl, h1⟩; rw [HQto.out]; have HB2 := Lib.hid (HB.out.trans (h1.mono HB.out.size)); have HX2 := Lib.hid (HX.out.below h1 HX.out.lt); clear x0 x1 x2 x3 x4 x5 x6 x7 x8 x9 x10 x11 x12 x13; obtain ⟨x0, x1, x2, x3, x4, x5, x6, x7, x8, x9, x10, x11, x12, x13⟩ := HX2.out.cells; rw [HK.out] at x0; clear h1)))
    go_ret
    exact ⟨by rw [HR.out] <;> rfl, HB2.out⟩
  have HQto := Lib.hid hq2
  have HR := Lib.hid (show leafB n = mayRf n.ref by unfold leafB; simp [hk, hnum, htext, hq2])
  clear hnum
  clear htext
  clear hq2
  clear hk
  go_wp2_with (first
    | (go_at_call 54; ((with_reducible refine (HN2.out _).mono ?_); rintro e w2 ⟨rfl, h1⟩; rw [HQto.out]; have HB2 := Lib.hid (HB.out.trans (h1.mono HB.out.size)); have HX2 := Lib.hid (HX.out.below h1 HX.out.lt); clear x0 x1 x2 x3 x4 x5 x6 x7 x8 x9 x10 x11 x12 x13; obtain ⟨x0, x1, x2, x3, x4, x5, x6, x7, x8, x9, x10, x11, x12, x13⟩ := HX2.out.cells; rw [HK.out] at x0; clear h1))
    | (go_at_call 58; ((with_reducible refine (refMay_any _ _ _ _ _ _ hr).mono ?_); rintro e wp ⟨rfl, h1⟩; have HBP := Lib.hid (HB2.out.trans (h1.mono HB2.out.size)); clear h1)))
  go_ret
  exact ⟨by rw [HR.out] <;> rfl, HBP.out⟩

set_option maxRecDepth 100000 in
set_option maxHeartbeats 2000000 in
theorem refLeaf_6 (n : Nd) (hk : n.kind = 6) (_hs : n.text.size ≤ 1000000) (hr : n.ref.sh.size ≤ 1000000) (ht : n.to.sh.size ≤ 1000000) (A : Option Addr) (m c : Nat) (w : World) : Calls Tryz.prog 32 #[.agg #[.int .i64 n.kind, .int .i64 n.num, .string n.text, .string n.ref.sh, .int .i64 n.ref.c, .int .i64 n.ref.r, .bool n.ref.ac, .bool n.ref.ar, .string n.to.sh, .int .i64 n.to.c, .int .i64 n.to.r, .bool n.to.ac, .bool n.to.ar, .slice A m c]] w fun e w' => e = .returned (.bool (leafB n)) ∧ Below w.heap.size w w' := by
  have hx : NdAt (w.alloc (.cells #[.int .i64 n.kind, .int .i64 n.num, .string n.text, .string n.ref.sh, .int .i64 n.ref.c, .int .i64 n.ref.r, .bool n.ref.ac, .bool n.ref.ar, .string n.to.sh, .int .i64 n.to.c, .int .i64 n.to.r, .bool n.to.ac, .bool n.to.ar, .slice A m c] 38)) w.heap.size n (.slice A m c) := NdAt.new w n _
  have HB := Lib.hid ((Below.refl w.heap.size w).alloc (Nat.le_refl _) (.cells #[.int .i64 n.kind, .int .i64 n.num, .string n.text, .string n.ref.sh, .int .i64 n.ref.c, .int .i64 n.ref.r, .bool n.ref.ac, .bool n.ref.ar, .string n.to.sh, .int .i64 n.to.c, .int .i64 n.to.r, .bool n.to.ac, .bool n.to.ar, .slice A m c] 38))
  have HN1 := Lib.hid (fun w => refNoRef_any n.ref w)
  have HN2 := Lib.hid (fun w => refNoRef_any n.to w)
  have HK := Lib.hid hk
  clear hk
  go_enter Tryz.func32, Tryz.ntmps32
  go_upto_region 1 with (fail)
  generalize w.alloc (.cells #[.int .i64 n.kind, .int .i64 n.num, .string n.text, .string n.ref.sh, .int .i64 n.ref.c, .int .i64 n.ref.r, .bool n.ref.ac, .bool n.ref.ar, .string n.to.sh, .int .i64 n.to.c, .int .i64 n.to.r, .bool n.to.ac, .bool n.to.ar, .slice A m c] 38) = w1 at hx HB ⊢
  generalize hb0 : w.heap.size = b0 at hx ⊢
  obtain ⟨x0, x1, x2, x3, x4, x5, x6, x7, x8, x9, x10, x11, x12, x13⟩ := hx.cells
  have HX := Lib.hid hx
  clear hx
  have hk := HK.out
  rw [hk] at x0
  by_cases hnum : n.num = 0
  rotate_left
  · have en : (n.num != 0) = true := by rw [bne_iff_ne]; exact hnum
    have HR := Lib.hid (show leafB n = false by unfold leafB; simp [hk, hnum])
    clear hnum
    clear hk
    go_wp2_with (fail)
    go_ret
    exact ⟨by rw [HR.out] <;> rfl, HB.out⟩
  rw [hnum] at x1
  by_cases htext : n.text = ⟨#[]⟩
  rotate_left
  · have t0 : ¬ n.text.toList = [] := by rw [← empty_list]; exact text_ne _ _ htext
    have t1 : n.text.toList.isEmpty = false := by simpa using t0
    have HR := Lib.hid (show leafB n = false by unfold leafB; simp [hk, hnum, htext])
    clear htext
    clear hnum
    clear hk
    go_wp2_with (fail)
    go_ret
    exact ⟨by rw [HR.out] <;> rfl, HB.out⟩
  have t0 := empty_list
  rw [htext] at x2
  cases q1 : mayRf n.ref
  · have M1 := Lib.hid (show mayL (sb n.ref.sh) n.ref.c n.ref.r = false from q1)
    have HR := Lib.hid (show leafB n = false by unfold leafB; simp [hk, hnum, htext, q1])
    clear q1
    clear hnum
    clear htext
    clear hk
    go_wp2_with ((go_at_call 58; ((with_reducible refine (refMay_any n.ref.sh n.ref.c n.ref.r n.ref.ac n.ref.ar _ hr).mono ?_); rintro e w2 ⟨rfl, h1⟩; rw [M1.out]; have HB2 := Lib.hid (HB.out.trans (h1.mono HB.out.size)); have HX2 := Lib.hid (HX.out.below h1 HX.out.lt); clear x0 x1 x2 x3 x4 x5 x6 x7 x8 x9 x10 x11 x12 x13; obtain ⟨x0, x1, x2, x3, x4, x5, x6, x7, x8, x9, x10, x11, x12, x13⟩ := HX2.out.cells; rw [HK.out] at x0; clear h1)))
    go_ret
    exact ⟨by rw [HR.out] <;> rfl, HB2.out⟩
  have M1 := Lib.hid (show mayL (sb n.ref.sh) n.ref.c n.ref.r = true from q1)
  cases q2 : mayRf n.to
  · have M2 := Lib.hid (show mayL (sb n.to.sh) n.to.c n.to.r = false from q2)
    have HR := Lib.hid (show leafB n = false by unfold leafB; simp [hk, hnum, htext, q1, q2])
    clear q1 q2
    clear hnum
    clear htext
    clear hk
    go_wp2_with (first
      | (go_at_call 58; ((with_reducible refine (refMay_any n.ref.sh n.ref.c n.ref.r n.ref.ac n.ref.ar _ hr).mono ?_); rintro e w2 ⟨rfl, h1⟩; rw [M1.out]; have HB2 := Lib.hid (HB.out.trans (h1.mono HB.out.size)); have HX2 := Lib.hid (HX.out.below h1 HX.out.lt); clear x0 x1 x2 x3 x4 x5 x6 x7 x8 x9 x10 x11 x12 x13; obtain ⟨x0, x1, x2, x3, x4, x5, x6, x7, x8, x9, x10, x11, x12, x13⟩ := HX2.out.cells; rw [HK.out] at x0; clear h1; clear M1))
      | (go_at_call 58; ((with_reducible refine (refMay_any n.to.sh n.to.c n.to.r n.to.ac n.to.ar _ ht).mono ?_); rintro e w3 ⟨rfl, h1⟩; rw [M2.out]; have HB3 := Lib.hid (HB2.out.trans (h1.mono HB2.out.size)); have HX3 := Lib.hid (HX2.out.below h1 HX2.out.lt); clear x0 x1 x2 x3 x4 x5 x6 x7 x8 x9 x10 x11 x12 x13; obtain ⟨x0, x1, x2, x3, x4, x5, x6, x7, x8, x9, x10, x11, x12, x13⟩ := HX3.out.cells; rw [HK.out] at x0; clear h1)))
    go_ret
    exact ⟨by rw [HR.out] <;> rfl, HB3.out⟩
  have M2 := Lib.hid (show mayL (sb n.to.sh) n.to.c n.to.r = true from q2)
  have HR := Lib.hid (show leafB n = spanB n.ref n.to by unfold leafB; simp [hk, hnum, htext, q1, q2])
  clear q1 q2
  clear hnum
  clear htext
  clear hk
  go_wp2_with (first
    | (go_at_call 58; ((with_reducible refine (refMay_any n.ref.sh n.ref.c n.ref.r n.ref.ac n.ref.ar _ hr).mono ?_); rintro e w2 ⟨rfl, h1⟩; rw [M1.out]; have HB2 := Lib.hid (HB.out.trans (h1.mono HB.out.size)); have HX2 := Lib.hid (HX.out.below h1 HX.out.lt); clear x0 x1 x2 x3 x4 x5 x6 x7 x8 x9 x10 x11 x12 x13; obtain ⟨x0, x1, x2, x3, x4, x5, x6, x7, x8, x9, x10, x11, x12, x13⟩ := HX2.out.cells; rw [HK.out] at x0; clear h1; clear M1))
    | (go_at_call 58; ((with_reducible refine (refMay_any n.to.sh n.to.c n.to.r n.to.ac n.to.ar _ ht).mono ?_); rintro e w3 ⟨rfl, h1⟩; rw [M2.out]; have HB3 := Lib.hid (HB2.out.trans (h1.mono HB2.out.size)); have HX3 := Lib.hid (HX2.out.below h1 HX2.out.lt); clear x0 x1 x2 x3 x4 x5 x6 x7 x8 x9 x10 x11 x12 x13; obtain ⟨x0, x1, x2, x3, x4, x5, x6, x7, x8, x9, x10, x11, x12, x13⟩ := HX3.out.cells; rw [HK.out] at x0; clear h1))
    | (go_at_call 59; ((with_reducible refine (refSpan_any _ _ _ _ _ _ _ _ _ _ _).mono ?_); rintro e w4 ⟨rfl, h1⟩; have HB4 := Lib.hid (HB3.out.trans (h1.mono HB3.out.size)); clear h1)))
  go_ret
  exact ⟨by rw [HR.out] <;> rfl, HB4.out⟩

set_option maxRecDepth 100000 in
set_option maxHeartbeats 2000000 in
theorem refLeaf_x (n : Nd) (k1 : ¬ n.kind = 1) (k2 : ¬ n.kind = 2) (k3 : ¬ n.kind = 3) (k5 : ¬ n.kind = 5) (k6 : ¬ n.kind = 6) (k7 : ¬ n.kind = 7) (_hs : n.text.size ≤ 1000000) (_hr : n.ref.sh.size ≤ 1000000) (_ht : n.to.sh.size ≤ 1000000) (A : Option Addr) (m c : Nat) (w : World) : Calls Tryz.prog 32 #[.agg #[.int .i64 n.kind, .int .i64 n.num, .string n.text, .string n.ref.sh, .int .i64 n.ref.c, .int .i64 n.ref.r, .bool n.ref.ac, .bool n.ref.ar, .string n.to.sh, .int .i64 n.to.c, .int .i64 n.to.r, .bool n.to.ac, .bool n.to.ar, .slice A m c]] w fun e w' => e = .returned (.bool (leafB n)) ∧ Below w.heap.size w w' := by
  have hx : NdAt (w.alloc (.cells #[.int .i64 n.kind, .int .i64 n.num, .string n.text, .string n.ref.sh, .int .i64 n.ref.c, .int .i64 n.ref.r, .bool n.ref.ac, .bool n.ref.ar, .string n.to.sh, .int .i64 n.to.c, .int .i64 n.to.r, .bool n.to.ac, .bool n.to.ar, .slice A m c] 38)) w.heap.size n (.slice A m c) := NdAt.new w n _
  have HB := Lib.hid ((Below.refl w.heap.size w).alloc (Nat.le_refl _) (.cells #[.int .i64 n.kind, .int .i64 n.num, .string n.text, .string n.ref.sh, .int .i64 n.ref.c, .int .i64 n.ref.r, .bool n.ref.ac, .bool n.ref.ar, .string n.to.sh, .int .i64 n.to.c, .int .i64 n.to.r, .bool n.to.ac, .bool n.to.ar, .slice A m c] 38))
  have HN1 := Lib.hid (fun w => refNoRef_any n.ref w)
  have HN2 := Lib.hid (fun w => refNoRef_any n.to w)
  go_enter Tryz.func32, Tryz.ntmps32
  go_upto_region 1 with (fail)
  generalize w.alloc (.cells #[.int .i64 n.kind, .int .i64 n.num, .string n.text, .string n.ref.sh, .int .i64 n.ref.c, .int .i64 n.ref.r, .bool n.ref.ac, .bool n.ref.ar, .string n.to.sh, .int .i64 n.to.c, .int .i64 n.to.r, .bool n.to.ac, .bool n.to.ar, .slice A m c] 38) = w1 at hx HB ⊢
  generalize hb0 : w.heap.size = b0 at hx ⊢
  obtain ⟨x0, x1, x2, x3, x4, x5, x6, x7, x8, x9, x10, x11, x12, x13⟩ := hx.cells
  have HX := Lib.hid hx
  clear hx
  obtain ⟨kd, hkd⟩ : ∃ kd, n.kind = kd := ⟨_, rfl⟩
  rw [hkd] at x0
  have HK := Lib.hid hkd
  have e1 : (kd == 1) = false := beq_eq_false_iff_ne.2 (by omega)
  have d1 : (kd != 1) = true := by rw [bne, e1]; rfl
  have e2 : (kd == 2) = false := beq_eq_false_iff_ne.2 (by omega)
  have d2 : (kd != 2) = true := by rw [bne, e2]; rfl
  have e3 : (kd == 3) = false := beq_eq_false_iff_ne.2 (by omega)
  have d3 : (kd != 3) = true := by rw [bne, e3]; rfl
  have e5 : (kd == 5) = false := beq_eq_false_iff_ne.2 (by omega)
  have d5 : (kd != 5) = true := by rw [bne, e5]; rfl
  have e6 : (kd == 6) = false := beq_eq_false_iff_ne.2 (by omega)
  have d6 : (kd != 6) = true := by rw [bne, e6]; rfl
  have e7 : (kd == 7) = false := beq_eq_false_iff_ne.2 (by omega)
  have d7 : (kd != 7) = true := by rw [bne, e7]; rfl
  by_cases hnum : n.num = 0
  rotate_left
  · have en : (n.num != 0) = true := by rw [bne_iff_ne]; exact hnum
    have HR := Lib.hid (show leafB n = false by unfold leafB; simp [k1, k2, k3, k5, k6, k7, hnum])
    clear hnum
    go_wp2_with (fail)
    go_ret
    exact ⟨by rw [HR.out] <;> rfl, HB.out⟩
  rw [hnum] at x1
  by_cases htext : n.text = ⟨#[]⟩
  rotate_left
  · have t0 : ¬ n.text.toList = [] := by rw [← empty_list]; exact text_ne _ _ htext
    have t1 : n.text.toList.isEmpty = false := by simpa using t0
    have HR := Lib.hid (show leafB n = false by unfold leafB; simp [k1, k2, k3, k5, k6, k7, hnum, htext])
    clear htext
    clear hnum
    go_wp2_with (fail)
    go_ret
    exact ⟨by rw [HR.out] <;> rfl, HB.out⟩
  have t0 := empty_list
  rw [htext] at x2
  cases hq1 : noRf n.ref
  · have HQref := Lib.hid hq1
    have HR := Lib.hid (show leafB n = false by unfold leafB; simp [k1, k2, k3, k5, k6, k7, hnum, htext, hq1])
    clear hq1
    clear hnum
    clear htext
    go_wp2_with ((go_at_call 54; ((with_reducible refine (HN1.out _).mono ?_); rintro e w2 ⟨rfl, h1⟩; rw [HQref.out]; have HB2 := Lib.hid (HB.out.trans (h1.mono HB.out.size)); have HX2 := Lib.hid (HX.out.below h1 HX.out.lt); clear x0 x1 x2 x3 x4 x5 x6 x7 x8 x9 x10 x11 x12 x13; obtain ⟨x0, x1, x2, x3, x4, x5, x6, x7, x8, x9, x10, x11, x12, x13⟩ := HX2.out.cells; rw [HK.out] at x0; clear h1)))
    go_ret
    exact ⟨by rw [HR.out] <;> rfl, HB2.out⟩
  have HQref := Lib.hid hq1
  cases hq2 : noRf n.to
  · have HQto := Lib.hid hq2
    have HR := Lib.hid (show leafB n = false by unfold leafB; simp [k1, k2, k3, k5, k6, k7, hnum, htext, hq1, hq2])
    clear hq2
    clear hnum
    clear htext
    clear hq1
    go_wp2_with (first
      | (go_at_call 54; ((with_reducible refine (HN1.out _).mono ?_); rintro e w2 ⟨rfl, h1⟩; rw [HQref.out]; have HB2 := Lib.hid (HB.out.trans (h1.mono HB.out.size)); have HX2 := Lib.hid (HX.out.below h1 HX.out.lt); clear x0 x1 x2 x3 x4 x5 x6 x7 x8 x9 x10 x11 x12 x13; obtain ⟨x0, x1, x2, x3, x4, x5, x6, x7, x8, x9, x10, x11, x12, x13⟩ := HX2.out.cells; rw [HK.out] at x0; clear h1; clear HN1))
      | (go_at_call 54; ((with_reducible refine (HN2.out _).mono ?_); rintro e w3 ⟨rfl, h1⟩; rw [HQto.out]; have HB3 := Lib.hid (HB2.out.trans (h1.mono HB2.out.size)); have HX3 := Lib.hid (HX2.out.below h1 HX2.out.lt); clear x0 x1 x2 x3 x4 x5 x6 x7 x8 x9 x10 x11 x12 x13; obtain ⟨x0, x1, x2, x3, x4, x5, x6, x7, x8, x9, x10, x11, x12, x13⟩ := HX3.out.cells; rw [HK.out] at x0; clear h1)))
    go_ret
    exact ⟨by rw [HR.out] <;> rfl, HB3.out⟩
  have HQto := Lib.hid hq2
  have HR := Lib.hid (show leafB n = true by unfold leafB; simp [k1, k2, k3, k5, k6, k7, hnum, htext, hq1, hq2])
  clear hnum
  clear htext
  clear hq1
  clear hq2
  go_wp2_with (first
    | (go_at_call 54; ((with_reducible refine (HN1.out _).mono ?_); rintro e w2 ⟨rfl, h1⟩; rw [HQref.out]; have HB2 := Lib.hid (HB.out.trans (h1.mono HB.out.size)); have HX2 := Lib.hid (HX.out.below h1 HX.out.lt); clear x0 x1 x2 x3 x4 x5 x6 x7 x8 x9 x10 x11 x12 x13; obtain ⟨x0, x1, x2, x3, x4, x5, x6, x7, x8, x9, x10, x11, x12, x13⟩ := HX2.out.cells; rw [HK.out] at x0; clear h1; clear HN1))
    | (go_at_call 54; ((with_reducible refine (HN2.out _).mono ?_); rintro e w3 ⟨rfl, h1⟩; rw [HQto.out]; have HB3 := Lib.hid (HB2.out.trans (h1.mono HB2.out.size)); have HX3 := Lib.hid (HX2.out.below h1 HX2.out.lt); clear x0 x1 x2 x3 x4 x5 x6 x7 x8 x9 x10 x11 x12 x13; obtain ⟨x0, x1, x2, x3, x4, x5, x6, x7, x8, x9, x10, x11, x12, x13⟩ := HX3.out.cells; rw [HK.out] at x0; clear h1)))
  go_ret
  exact ⟨by rw [HR.out] <;> rfl, HB3.out⟩

end Go.Proofs.YtdfpalocnijefaaGreatDoor

/-
  Layer 4, the reference: texts.
-/
namespace Go.Proofs.YtdfpalocnijefaaGreatDoor
open Go.RowKit

theorem res_rquoted : Tryz.f84.results = #[.cell 4 54, .tmp 5] := by kernel_rfl
set_option maxRecDepth 100000 in
set_option maxHeartbeats 4000000 in
theorem refQuoted_any (s : ByteArray) (k : Nat) (w : World) (_hs : s.size ≤ 1000000) (_hk : k < s.size) :
    Calls Tryz.prog 84 #[.string s, .int .i64 (k : Int)] w (RefTok (quoT (restL s (k + 1))) k w) := by
  have HTK := Lib.hid (TkAt.zero w)
  have HAL := Lib.hid (show Below w.heap.size w (w.alloc (.cells zTok 54)) from (Below.refl _ _).alloc (Nat.le_refl _) _)
  go_enter Tryz.func84, Tryz.ntmps84
  go_wp2_with fail
  go_loopw [6, 7] (fun v i wr => ∃ (p : Nat) (xs : List Int), i = .int .i64 (p : Int) ∧ k + 1 ≤ p ∧ p ≤ s.size ∧ xs.length ≤ p ∧ Hid (QuoSt s k p xs) ∧ Hid (Own8 wr (w.heap.size + 1) v xs) ∧ Hid (TkAt wr w.heap.size Tk.zero) ∧ Hid (Below w.heap.size w wr))
    (fun _ i _ => s.size - (intOf i).toNat)
  case atStart =>
    refine ⟨k + 1, [], by go_num, by omega, by omega, by simp, Lib.hid ?_, Lib.hid (Own.nil _ _ _ _), HTK, HAL⟩
    unfold QuoSt
    cases quoF (restL s (k + 1)) with
    | none => rfl
    | some q => simp
  case round =>
    clear HTK HAL
    obtain ⟨p, xs, rfl, hkp, hps, hxl, HQ, HO, HT, HB⟩ := hrel
    by_cases hlt : p < s.size
    · have hlt2 : (p : Int) < (s.size : Int) := by omega
      obtain ⟨a, ha⟩ : ∃ a : Int, (s[p].toNat : Int) = a := ⟨_, rfl⟩
      have ha1 : 0 ≤ a ∧ a ≤ 255 := by have := s[p].toNat_lt; omega
      by_cases hlow : a < 32
      · have HN := Lib.hid (quo_low HQ.out hlt (by rw [ha]; exact hlow))
        obtain ⟨x0, x1, x2, x3, x4, x5, x6, x7, x8⟩ := HT.out.cells
        obtain ⟨g0, g1, g2, g3, g4, g5, g6, g7, g8⟩ := HT.out.melts
        go_wp2_with fail
        exact bodyPost_ret (out_tokn (HT.out.put9 Tk.zero) _ _ 0 4 5 res_rquoted rfl rfl) rfl ⟨below_set9r HB.out (Nat.le_refl _) _ _ _ _ _ _ _ _ _, .inr ⟨HN.out, Tk.zero, rfl⟩⟩
      · by_cases h34 : a = 34
        · have hb34 : (a == 34) = true := beq_iff_eq.2 h34
          obtain ⟨q, hq⟩ : ∃ q : Nat, p + 1 = q := ⟨_, rfl⟩
          have hqi : (p : Int) + 1 = (q : Int) := by omega
          by_cases hlt3 : q < s.size
          · have hlt5 : ¬ (s.size : Int) ≤ (q : Int) := by omega
            have hlt6 : (q : Int) < (s.size : Int) := by omega
            obtain ⟨a2, ha2⟩ : ∃ a2 : Int, (s[q].toNat : Int) = a2 := ⟨_, rfl⟩
            have ha21 : 0 ≤ a2 ∧ a2 ≤ 255 := by have := s[q].toNat_lt; omega
            by_cases h342 : a2 = 34
            · have hb342 : (a2 == 34) = true := beq_iff_eq.2 h342
              have HQ2 := Lib.hid (show QuoSt s k (q + 1) (xs ++ [34]) by subst hq; exact quo_two HQ.out hkp hlt (by rw [ha, h34]) hlt3 (by rw [ha2, h342]))
              clear HQ
              go_wp2_with (at_builtin; refine wpList_app Elem.u8 (encInt .u8) rfl (.tmp 51) (.tmp 52) rfl (w.heap.size + 1) _ _ rfl (HO.out.alloc _) ⟨_, 0, none⟩ 1 1 [34] rfl rfl ?_ ?_ ?_ ?_ ?_; exact cells_new _ _ _ rfl; omega; (unfold maxLen; omega); (have := HT.out.lt; simp <;> omega); intro v' wz h1 h2; have HOz := Lib.hid h1; have HBz := Lib.hid (((Below.refl (w.heap.size + 1) _).alloc (by have := HT.out.lt; omega) _).trans h2); clear h1 h2; have HTz := Lib.hid (HT.out.below HBz.out (Nat.lt_succ_self _)); have HBB := Lib.hid (HB.out.trans (HBz.out.mono (Nat.le_succ _))))
              go_roundw
              case rel => exact ⟨q + 1, xs ++ [34], by go_num, by omega, by omega, by simp; omega, HQ2, HOz, HTz, HBB⟩
              case measure => simp [intOf]; omega
            · have hb342 : (a2 == 34) = false := beq_eq_false_iff_ne.2 h342
              have HN := Lib.hid (show quoT (restL s (k + 1)) = some ({ Tk.zero with kind := 2, text := strOfNums xs }, q - k) by subst hq; exact quo_last HQ.out hkp hlt (by rw [ha, h34]) (fun h => by rw [ha2]; exact h342))
              clear HQ
              have hconv := run_str8 HO.out
              obtain ⟨x0, x1, x2, x3, x4, x5, x6, x7, x8⟩ := HT.out.cells
              obtain ⟨g0, g1, g2, g3, g4, g5, g6, g7, g8⟩ := HT.out.melts
              go_wp2_with fail
              exact bodyPost_ret (out_tokn (HT.out.put9 (({ Tk.zero with kind := 2, text := strOfNums xs } : Tk).goto k)) _ _ ((q : Int) - (k : Int)) 4 5 res_rquoted rfl rfl) rfl ⟨below_set9r HB.out (Nat.le_refl _) _ _ _ _ _ _ _ _ _, .inl ⟨_, q - k, HN.out, by rw [show ((q : Int) - (k : Int)) = ((q - k : Nat) : Int) by omega]⟩⟩
          · have hlt5 : (s.size : Int) ≤ (q : Int) := by omega
            have HN := Lib.hid (show quoT (restL s (k + 1)) = some ({ Tk.zero with kind := 2, text := strOfNums xs }, q - k) by subst hq; exact quo_last HQ.out hkp hlt (by rw [ha, h34]) (fun h => absurd h hlt3))
            clear HQ
            have hconv := run_str8 HO.out
            obtain ⟨x0, x1, x2, x3, x4, x5, x6, x7, x8⟩ := HT.out.cells
            obtain ⟨g0, g1, g2, g3, g4, g5, g6, g7, g8⟩ := HT.out.melts
            go_wp2_with fail
            exact bodyPost_ret (out_tokn (HT.out.put9 (({ Tk.zero with kind := 2, text := strOfNums xs } : Tk).goto k)) _ _ ((q : Int) - (k : Int)) 4 5 res_rquoted rfl rfl) rfl ⟨below_set9r HB.out (Nat.le_refl _) _ _ _ _ _ _ _ _ _, .inl ⟨_, q - k, HN.out, by rw [show ((q : Int) - (k : Int)) = ((q - k : Nat) : Int) by omega]⟩⟩
        · have hb34 : (a == 34) = false := beq_eq_false_iff_ne.2 h34
          have HQ2 := Lib.hid (quo_next HQ.out hkp hlt ha hlow h34)
          clear HQ
          go_wp2_with (at_builtin; refine wpList_app Elem.u8 (encInt .u8) rfl (.tmp 25) (.tmp 29) rfl (w.heap.size + 1) _ _ rfl (HO.out.alloc _) ⟨_, 0, none⟩ 1 1 [a] rfl rfl ?_ ?_ ?_ ?_ ?_; exact cells_new _ _ _ rfl; omega; (unfold maxLen; omega); (have := HT.out.lt; simp <;> omega); intro v' wz h1 h2; have HOz := Lib.hid h1; have HBz := Lib.hid (((Below.refl (w.heap.size + 1) _).alloc (by have := HT.out.lt; omega) _).trans h2); clear h1 h2; have HTz := Lib.hid (HT.out.below HBz.out (Nat.lt_succ_self _)); have HBB := Lib.hid (HB.out.trans (HBz.out.mono (Nat.le_succ _))))
          go_roundw
          case rel => exact ⟨p + 1, xs ++ [a], by go_num, by omega, by omega, by simp; omega, HQ2, HOz, HTz, HBB⟩
          case measure => simp [intOf]; omega
    · have hlt2 : ¬ (p : Int) < (s.size : Int) := by omega
      have HN := Lib.hid (quo_end HQ.out (by omega))
      obtain ⟨x0, x1, x2, x3, x4, x5, x6, x7, x8⟩ := HT.out.cells
      obtain ⟨g0, g1, g2, g3, g4, g5, g6, g7, g8⟩ := HT.out.melts
      go_wp2_with fail
      exact bodyPost_ret (out_tokn (HT.out.put9 Tk.zero) _ _ 0 4 5 res_rquoted rfl rfl) rfl ⟨below_set9r HB.out (Nat.le_refl _) _ _ _ _ _ _ _ _ _, .inr ⟨HN.out, Tk.zero, rfl⟩⟩
end Go.Proofs.YtdfpalocnijefaaGreatDoor

/-
  Layer 4, the reference: signs.
-/
namespace Go.Proofs.YtdfpalocnijefaaGreatDoor
open Go.RowKit

/-- The sign that stands at a place, or none. -/
def signS (s : ByteArray) (k : Nat) : ByteArray := strOfNums ((restL s k).take (signN (restL s k)))
theorem extract_sb (s E : ByteArray) (k m : Nat) (h : (restL s k).take m = sb E) : s.extract k (k + m) = E := by rw [restL_cut, h, str_sb]
theorem rest_two (s : ByteArray) (k : Nat) (h : k + 1 < s.size) : (restL s k).take 2 = [((s[k].toNat : Nat) : Int), ((s[k + 1].toNat : Nat) : Int)] := by
  rw [restL_cons s k (by omega), restL_cons s (k + 1) h]; rfl
theorem rest_one (s : ByteArray) (k : Nat) (h : k < s.size) : (restL s k).take 1 = [((s[k].toNat : Nat) : Int)] := by
  rw [restL_cons s k h]; rfl
abbrev twoL (x y : Int) : Prop := (x = 60 ∧ (y = 62 ∨ y = 61)) ∨ (x = 62 ∧ y = 61)
abbrev oneL (x : Int) : Prop := x = 43 ∨ x = 45 ∨ x = 42 ∨ x = 47 ∨ x = 38 ∨ x = 61 ∨ x = 60 ∨ x = 62 ∨ x = 40 ∨ x = 41 ∨ x = 44 ∨ x = 58
theorem rest_head (s : ByteArray) (k : Nat) (h : k + 1 < s.size) : (restL s (k + 1)).head? = some ((s[k + 1].toNat : Nat) : Int) := by rw [restL_cons s (k + 1) h]; rfl
theorem sign_two {s : ByteArray} {k : Nat} {x y : Int} (h : k + 1 < s.size) (hx : ((s[k].toNat : Nat) : Int) = x) (hy : ((s[k + 1].toNat : Nat) : Int) = y) (h2 : twoL x y) : signS s k = s.extract k (k + 2) := by
  unfold signS
  have hn : signN (restL s k) = 2 := by
    rw [restL_cons s k (by omega), signN_cons, rest_head s k h, hx, hy, if_pos]
    rcases h2 with ⟨h1, h2 | h2⟩ | ⟨h1, h2⟩
    · exact .inl ⟨h1, .inl (by rw [h2])⟩
    · exact .inl ⟨h1, .inr (by rw [h2])⟩
    · exact .inr ⟨h1, by rw [h2]⟩
  rw [hn, ← restL_cut]
theorem sign_not2 {s : ByteArray} {k : Nat} {x : Int} (hk : k < s.size) (hx : ((s[k].toNat : Nat) : Int) = x) (h2 : ∀ h : k + 1 < s.size, ¬ twoL x ((s[k + 1].toNat : Nat) : Int)) :
    signN (restL s k) = if oneL x then 1 else 0 := by
  rw [restL_cons s k hk, signN_cons, hx, if_neg]
  intro h
  by_cases h1 : k + 1 < s.size
  · rw [rest_head s k h1] at h
    simp only [Option.some.injEq] at h
    exact h2 h1 h
  · rw [restL_nil s (k + 1) (by omega)] at h; simp at h
theorem sign_one {s : ByteArray} {k : Nat} {x : Int} (hk : k < s.size) (hx : ((s[k].toNat : Nat) : Int) = x) (h2 : ∀ h : k + 1 < s.size, ¬ twoL x ((s[k + 1].toNat : Nat) : Int)) (h1 : oneL x) : signS s k = s.extract k (k + 1) := by
  unfold signS; rw [sign_not2 hk hx h2, if_pos h1, ← restL_cut]
theorem sign_zero {s : ByteArray} {k : Nat} {x : Int} (hk : k < s.size) (hx : ((s[k].toNat : Nat) : Int) = x) (h2 : ∀ h : k + 1 < s.size, ¬ twoL x ((s[k + 1].toNat : Nat) : Int)) (h1 : ¬ oneL x) : signS s k = ⟨#[]⟩ := by
  unfold signS; rw [sign_not2 hk hx h2, if_neg h1, List.take_zero]; rfl
theorem ret_text {a b : ByteArray} (h : a = b) : Ending.returned (.string a) = .returned (.string b) := by rw [h]

set_option maxRecDepth 100000 in
set_option maxHeartbeats 4000000 in
theorem refSign_last (s : ByteArray) (k : Nat) (w : World) (_hs : s.size ≤ 1000000) (_hk : k < s.size) (hl : s.size ≤ k + 1) :
    Calls Tryz.prog 87 #[.string s, .int .i64 (k : Int)] w fun e w' => e = .returned (.string (signS s k)) ∧ w = w' := by
  obtain ⟨x, hx⟩ : ∃ x : Int, (s[k].toNat : Int) = x := ⟨_, rfl⟩
  have hx1 : 0 ≤ x ∧ x ≤ 255 := by have := s[k].toNat_lt; omega
  have H1 := Lib.hid (fun h1 => sign_one _hk hx (fun h => by omega) h1)
  have H0 := Lib.hid (fun h1 => sign_zero _hk hx (fun h => by omega) h1)
  have hi1 : ¬ (k : Int) + 1 < (s.size : Int) := by omega
  have hi2 : (k : Int) < (s.size : Int) := by omega
  have hi3 : (k : Int) + 1 ≤ (s.size : Int) := by omega
  go_enter Tryz.func87, Tryz.ntmps87
  go_wp2_with fail
  all_goals go_ret
  all_goals first
    | exact ⟨ret_text (H1.out (by simp only [beq_iff_eq, beq_eq_false_iff_ne, ne_eq] at *; unfold oneL; omega)).symm, rfl⟩
    | exact ⟨ret_text (H0.out (by simp only [beq_eq_false_iff_ne, ne_eq] at *; unfold oneL; omega)).symm, rfl⟩

set_option maxRecDepth 100000 in
set_option maxHeartbeats 4000000 in
theorem refSign_not2 (s : ByteArray) (k : Nat) (w : World) (_hs : s.size ≤ 1000000) (_hk : k < s.size) (hl : k + 1 < s.size) (h2 : ∀ h : k + 1 < s.size, ¬ twoL ((s[k].toNat : Nat) : Int) ((s[k + 1].toNat : Nat) : Int)) :
    Calls Tryz.prog 87 #[.string s, .int .i64 (k : Int)] w fun e w' => e = .returned (.string (signS s k)) ∧ w = w' := by
  obtain ⟨x, hx⟩ : ∃ x : Int, (s[k].toNat : Int) = x := ⟨_, rfl⟩
  have hx1 : 0 ≤ x ∧ x ≤ 255 := by have := s[k].toNat_lt; omega
  have h2' : ∀ h : k + 1 < s.size, ¬ twoL x ((s[k + 1].toNat : Nat) : Int) := by rw [← hx]; exact h2
  have H1 := Lib.hid (fun h1 => sign_one _hk hx h2' h1)
  have H0 := Lib.hid (fun h1 => sign_zero _hk hx h2' h1)
  have hE := rest_two s k hl
  have n1 : ¬ (s.extract k (k + 2)).toList = [60, 62] := fun h => by
    have e : s.extract k (k + 2) = ⟨#[60, 62]⟩ := by rw [list_bytes] at h; exact congrArg ByteArray.mk (Array.toList_inj.1 h)
    have e2 := ext_sbL s k 2
    rw [e] at e2
    rw [show (sb s).drop k = restL s k from rfl, hE] at e2
    exact h2 hl (.inl ⟨by simpa [sb] using (congrArg (·.head?) e2).symm, .inl (by simpa [sb] using (congrArg (·.tail.head?) e2).symm)⟩)
  have n2 : ¬ (s.extract k (k + 2)).toList = [60, 61] := fun h => by
    have e : s.extract k (k + 2) = ⟨#[60, 61]⟩ := by rw [list_bytes] at h; exact congrArg ByteArray.mk (Array.toList_inj.1 h)
    have e2 := ext_sbL s k 2
    rw [e] at e2
    rw [show (sb s).drop k = restL s k from rfl, hE] at e2
    exact h2 hl (.inl ⟨by simpa [sb] using (congrArg (·.head?) e2).symm, .inr (by simpa [sb] using (congrArg (·.tail.head?) e2).symm)⟩)
  have n3 : ¬ (s.extract k (k + 2)).toList = [62, 61] := fun h => by
    have e : s.extract k (k + 2) = ⟨#[62, 61]⟩ := by rw [list_bytes] at h; exact congrArg ByteArray.mk (Array.toList_inj.1 h)
    have e2 := ext_sbL s k 2
    rw [e] at e2
    rw [show (sb s).drop k = restL s k from rfl, hE] at e2
    exact h2 hl (.inr ⟨by simpa [sb] using (congrArg (·.head?) e2).symm, by simpa [sb] using (congrArg (·.tail.head?) e2).symm⟩)
  have hi1 : (k : Int) + 1 < (s.size : Int) := by omega
  have hi2 : (k : Int) < (s.size : Int) := by omega
  have hi3 : (k : Int) + 1 ≤ (s.size : Int) := by omega
  have hi4 : (k : Int) + 2 ≤ (s.size : Int) := by omega
  have b1 := beq_eq_false_iff_ne.2 n1
  have b2 := beq_eq_false_iff_ne.2 n2
  have b3 := beq_eq_false_iff_ne.2 n3
  clear hE h2 h2' n1 n2 n3
  go_enter Tryz.func87, Tryz.ntmps87
  go_wp2_with fail
  all_goals go_ret
  all_goals first
    | exact ⟨ret_text (H1.out (by simp only [beq_iff_eq, beq_eq_false_iff_ne, ne_eq] at *; unfold oneL; omega)).symm, rfl⟩
    | exact ⟨ret_text (H0.out (by simp only [beq_eq_false_iff_ne, ne_eq] at *; unfold oneL; omega)).symm, rfl⟩

set_option maxRecDepth 100000 in
set_option maxHeartbeats 4000000 in
theorem refSign_is2 (s E : ByteArray) (k : Nat) (w : World) (_hs : s.size ≤ 1000000) (hl : k + 1 < s.size) (hE : s.extract k (k + 2) = E) (hq : signS s k = E) (h : E = ⟨#[60, 62]⟩ ∨ E = ⟨#[60, 61]⟩ ∨ E = ⟨#[62, 61]⟩) :
    Calls Tryz.prog 87 #[.string s, .int .i64 (k : Int)] w fun e w' => e = .returned (.string (signS s k)) ∧ w = w' := by
  have HQ := Lib.hid hq
  have hi1 : (k : Int) + 1 < (s.size : Int) := by omega
  have hi2 : (k : Int) < (s.size : Int) := by omega
  have hi4 : (k : Int) + 2 ≤ (s.size : Int) := by omega
  clear hq
  rcases h with rfl | rfl | rfl
  all_goals
    go_enter Tryz.func87, Tryz.ntmps87
    go_wp2_with fail
    go_ret
    exact ⟨ret_text (by rw [hE]; exact HQ.out.symm), rfl⟩
theorem refSign_any (s : ByteArray) (k : Nat) (w : World) (_hs : s.size ≤ 1000000) (_hk : k < s.size) :
    Calls Tryz.prog 87 #[.string s, .int .i64 (k : Int)] w fun e w' => e = .returned (.string (signS s k)) ∧ w = w' := by
  by_cases hl : k + 1 < s.size
  · by_cases h2 : twoL ((s[k].toNat : Nat) : Int) ((s[k + 1].toNat : Nat) : Int)
    · have hq := sign_two hl rfl rfl h2
      refine refSign_is2 s _ k w _hs hl rfl hq ?_
      have hE := rest_two s k hl
      rcases h2 with ⟨h1, h2 | h2⟩ | ⟨h1, h2⟩
      · exact .inl (extract_sb s ⟨#[60, 62]⟩ k 2 (by rw [hE, h1, h2]; decide))
      · exact .inr (.inl (extract_sb s ⟨#[60, 61]⟩ k 2 (by rw [hE, h1, h2]; decide)))
      · exact .inr (.inr (extract_sb s ⟨#[62, 61]⟩ k 2 (by rw [hE, h1, h2]; decide)))
    · exact refSign_not2 s k w _hs _hk hl (fun _ => h2)
  · exact refSign_last s k w _hs _hk (by omega)
end Go.Proofs.YtdfpalocnijefaaGreatDoor

/-
  Layer 4, the reference: the next token.
-/
namespace Go.Proofs.YtdfpalocnijefaaGreatDoor
open Go.RowKit

theorem RefTok.no {k : Nat} {w w' : World} {e : Ending} (h : RefTok none k w e w') : Below w.heap.size w w' ∧ ∃ t : Tk, e = .returned (.tuple #[.agg #[.int .i64 t.kind, .string t.text, .int .i64 t.num, .string t.sh, .int .i64 t.c, .int .i64 t.r, .bool t.ac, .bool t.ar, .int .i64 t.pos], .int .i64 0]) := by
  rcases h with ⟨h1, ⟨t, n, h2, _⟩ | ⟨_, h2⟩⟩
  · cases h2
  · exact ⟨h1, h2⟩
theorem RefTok.yes {k n : Nat} {t : Tk} {w w' : World} {e : Ending} (h : RefTok (some (t, n)) k w e w') : Below w.heap.size w w' ∧ e = .returned (.tuple #[.agg #[.int .i64 t.kind, .string t.text, .int .i64 t.num, .string t.sh, .int .i64 t.c, .int .i64 t.r, .bool t.ac, .bool t.ar, .int .i64 (k : Int)], .int .i64 (n : Int)]) := by
  rcases h with ⟨h1, ⟨t', n', h2, h3⟩ | ⟨h2, _⟩⟩
  · injection h2 with h2; injection h2 with h2 h5; subst h2; subst h5; exact ⟨h1, h3⟩
  · cases h2
theorem res_rtoken : Tryz.f47.results = #[.cell 4 54, .tmp 5] := by kernel_rfl
theorem sign_T (s : ByteArray) (k : Nat) : signT (restL s k) = if (signS s k).size = 0 then none else some ({ Tk.zero with kind := 5, text := signS s k }, (signS s k).size) := by
  have h : (signS s k).size = signN (restL s k) := by
    unfold signS; rw [strOfNums_size, List.length_take]; have := signN_le (restL s k); omega
  unfold signT; rw [h]; rfl
theorem dead_T (s : ByteArray) (k : Nat) : deadT (restL s k) = if k + 5 ≤ s.size ∧ s.extract k (k + 5) = ⟨#[35, 82, 69, 70, 33]⟩ then some ({ Tk.zero with kind := 6 }, 5) else none := by
  unfold deadT
  by_cases h : (restL s k).take 5 = [35, 82, 69, 70, 33]
  · have hlen : k + 5 ≤ s.size := by
      have := congrArg List.length h
      rw [List.length_take, length_restL] at this; simp at this; omega
    rw [if_pos h, if_pos ⟨hlen, extract_sb s _ k 5 (by rw [h]; decide)⟩]
  · rw [if_neg h, if_neg]
    rintro ⟨_, h2⟩
    apply h
    have := ext_sbL s k 5
    rw [h2] at this
    exact this.symm

set_option maxRecDepth 100000 in
set_option maxHeartbeats 4000000 in
theorem refToken_any (s : ByteArray) (k : Nat) (w : World) (_hs : s.size ≤ 1000000) (_hk : k < s.size) :
    Calls Tryz.prog 47 #[.string s, .int .i64 (k : Int)] w (RefTok (tokT (restL s k)) k w) := by
  have HTK := Lib.hid (TkAt.zero w)
  have HAL := Lib.hid (show Below w.heap.size w (w.alloc (.cells zTok 54)) from (Below.refl _ _).alloc (Nat.le_refl _) _)
  have hz0 : (0 : Int) ≤ (k : Int) := by omega
  have hz1 : (k : Int) < (s.size : Int) := by omega
  obtain ⟨a, ha⟩ : ∃ a : Int, (s[k].toNat : Int) = a := ⟨_, rfl⟩
  have ha1 : 0 ≤ a ∧ a ≤ 255 := by have := s[k].toNat_lt; omega
  have hcs := restL_cons s k _hk
  rw [ha] at hcs
  have htk := tokT_cons a (restL s (k + 1))
  rw [← hcs] at htk
  clear hcs
  cases hn : isNum a
  · rw [hn, if_neg (by simp)] at htk
    by_cases h34 : a = 34
    · rw [if_pos h34] at htk
      have hb34 : (a == 34) = true := beq_iff_eq.2 h34
      cases hq : quoT (restL s (k + 1)) with
      | none =>
        rw [hq] at htk
        have HTQ := Lib.hid htk; clear htk
        have hc := refQuoted_any s k (w.alloc (.cells zTok 54)) _hs _hk
        rw [hq] at hc
        have HC := Lib.hid hc; clear hc hq h34
        go_enter Tryz.func47, Tryz.ntmps47
        go_wp2_with (first
          | (go_at_call 82; ((with_reducible refine (refDigit_any _ ?_ ?_ _).mono ?_); (first | omega | skip); (first | omega | skip); rintro e w' ⟨rfl, rfl⟩; rw [hn]))
          | (go_at_call 84; ((with_reducible refine HC.out.mono ?_); intro e w1 he; obtain ⟨h1, t, rfl⟩ := RefTok.no he; have HB1 := Lib.hid (HAL.out.trans (h1.mono HAL.out.size)); have HT1 := Lib.hid (HTK.out.below h1 HTK.out.lt); clear h1 he; obtain ⟨x0, x1, x2, x3, x4, x5, x6, x7, x8⟩ := HT1.out.cells; obtain ⟨f0, f1, f2, f3, f4, f5, f6, f7, f8⟩ := HT1.out.melts)))
        exact bodyPost_ret (out_tokn (HT1.out.put9 t) _ _ 0 4 5 res_rtoken rfl rfl) rfl ⟨below_set9r HB1.out (Nat.le_refl _) _ _ _ _ _ _ _ _ _, .inr ⟨HTQ.out, t, rfl⟩⟩
      | some q =>
        obtain ⟨t, n⟩ := q
        rw [hq] at htk
        have HTQ := Lib.hid htk; clear htk
        have hc := refQuoted_any s k (w.alloc (.cells zTok 54)) _hs _hk
        rw [hq] at hc
        have HC := Lib.hid hc; clear hc hq h34
        go_enter Tryz.func47, Tryz.ntmps47
        go_wp2_with (first
          | (go_at_call 82; ((with_reducible refine (refDigit_any _ ?_ ?_ _).mono ?_); (first | omega | skip); (first | omega | skip); rintro e w' ⟨rfl, rfl⟩; rw [hn]))
          | (go_at_call 84; ((with_reducible refine HC.out.mono ?_); intro e w1 he; obtain ⟨h1, rfl⟩ := RefTok.yes he; have HB1 := Lib.hid (HAL.out.trans (h1.mono HAL.out.size)); have HT1 := Lib.hid (HTK.out.below h1 HTK.out.lt); clear h1 he; obtain ⟨x0, x1, x2, x3, x4, x5, x6, x7, x8⟩ := HT1.out.cells; obtain ⟨f0, f1, f2, f3, f4, f5, f6, f7, f8⟩ := HT1.out.melts)))
        exact bodyPost_ret (out_tokn (HT1.out.put9 (t.goto k)) _ _ (n : Int) 4 5 res_rtoken rfl rfl) rfl ⟨below_set9r HB1.out (Nat.le_refl _) _ _ _ _ _ _ _ _ _, .inl ⟨t, n, HTQ.out, rfl⟩⟩
    · rw [if_neg h34] at htk
      have hb34 : (a == 34) = false := beq_eq_false_iff_ne.2 h34
      by_cases h35 : a = 35
      · rw [if_pos h35, dead_T] at htk
        have hb35 : (a == 35) = true := beq_iff_eq.2 h35
        by_cases h5 : k + 5 ≤ s.size
        · have hi5 : (k : Int) + 5 ≤ (s.size : Int) := by omega
          by_cases hE : s.extract k (k + 5) = ⟨#[35, 82, 69, 70, 33]⟩
          · rw [if_pos ⟨h5, hE⟩] at htk
            have HTQ := Lib.hid htk
            clear htk h34 h35
            go_enter Tryz.func47, Tryz.ntmps47
            go_wp2_with (first
              | (go_at_call 82; ((with_reducible refine (refDigit_any _ ?_ ?_ _).mono ?_); (first | omega | skip); (first | omega | skip); rintro e w' ⟨rfl, rfl⟩; rw [hn])))
            exact bodyPost_ret (out_tokn (TkAt.new w (({ Tk.zero with kind := 6 } : Tk).goto k)) _ _ 5 4 5 res_rtoken rfl rfl) rfl ⟨(Below.refl _ _).alloc (Nat.le_refl _) _, .inl ⟨_, 5, HTQ.out, rfl⟩⟩
          · rw [if_neg (fun h => hE h.2)] at htk
            have HTQ := Lib.hid htk
            have hEb : ((s.extract k (k + 5)).toList == [35, 82, 69, 70, 33]) = false := beq_eq_false_iff_ne.2 (fun h => hE (by rw [list_bytes] at h; exact congrArg ByteArray.mk (Array.toList_inj.1 h)))
            clear htk h34 h35 hE
            go_enter Tryz.func47, Tryz.ntmps47
            go_wp2_with (first
              | (go_at_call 82; ((with_reducible refine (refDigit_any _ ?_ ?_ _).mono ?_); (first | omega | skip); (first | omega | skip); rintro e w' ⟨rfl, rfl⟩; rw [hn])))
            exact bodyPost_ret (out_tokn (TkAt.zero w) _ _ 0 4 5 res_rtoken rfl rfl) rfl ⟨(Below.refl _ _).alloc (Nat.le_refl _) _, .inr ⟨HTQ.out, _, rfl⟩⟩
        · have hi5 : ¬ (k : Int) + 5 ≤ (s.size : Int) := by omega
          rw [if_neg (fun h => h5 h.1)] at htk
          have HTQ := Lib.hid htk
          clear htk h34 h35
          go_enter Tryz.func47, Tryz.ntmps47
          go_wp2_with (first
            | (go_at_call 82; ((with_reducible refine (refDigit_any _ ?_ ?_ _).mono ?_); (first | omega | skip); (first | omega | skip); rintro e w' ⟨rfl, rfl⟩; rw [hn])))
          exact bodyPost_ret (out_tokn (TkAt.zero w) _ _ 0 4 5 res_rtoken rfl rfl) rfl ⟨(Below.refl _ _).alloc (Nat.le_refl _) _, .inr ⟨HTQ.out, _, rfl⟩⟩
      · rw [if_neg h35] at htk
        have hb35 : (a == 35) = false := beq_eq_false_iff_ne.2 h35
        cases hl : isLet a
        · by_cases h36 : a = 36
          · rw [if_pos (.inr h36)] at htk
            have hb36 : (a == 36) = true := beq_iff_eq.2 h36
            cases hq : wordT (restL s k) with
            | none =>
              rw [hq] at htk
              have HTQ := Lib.hid htk; clear htk
              have hc := refWord_any s k (w.alloc (.cells zTok 54)) _hs (Nat.le_of_lt _hk)
              rw [hq] at hc
              have HC := Lib.hid hc; clear hc hq h34 h35 h36
              go_enter Tryz.func47, Tryz.ntmps47
              go_wp2_with (first
                | (go_at_call 82; ((with_reducible refine (refDigit_any _ ?_ ?_ _).mono ?_); (first | omega | skip); (first | omega | skip); rintro e w' ⟨rfl, rfl⟩; rw [hn])) | (go_at_call 85; ((with_reducible refine (refLetter_any _ ?_ ?_ _).mono ?_); (first | omega | skip); (first | omega | skip); rintro e w' ⟨rfl, rfl⟩; rw [hl]))
                | (go_at_call 86; ((with_reducible refine HC.out.mono ?_); intro e w1 he; obtain ⟨h1, t, rfl⟩ := RefTok.no he; have HB1 := Lib.hid (HAL.out.trans (h1.mono HAL.out.size)); have HT1 := Lib.hid (HTK.out.below h1 HTK.out.lt); clear h1 he; obtain ⟨x0, x1, x2, x3, x4, x5, x6, x7, x8⟩ := HT1.out.cells; obtain ⟨f0, f1, f2, f3, f4, f5, f6, f7, f8⟩ := HT1.out.melts)))
              exact bodyPost_ret (out_tokn (HT1.out.put9 t) _ _ 0 4 5 res_rtoken rfl rfl) rfl ⟨below_set9r HB1.out (Nat.le_refl _) _ _ _ _ _ _ _ _ _, .inr ⟨HTQ.out, t, rfl⟩⟩
            | some q =>
              obtain ⟨t, n⟩ := q
              rw [hq] at htk
              have HTQ := Lib.hid htk; clear htk
              have hc := refWord_any s k (w.alloc (.cells zTok 54)) _hs (Nat.le_of_lt _hk)
              rw [hq] at hc
              have HC := Lib.hid hc; clear hc hq h34 h35 h36
              go_enter Tryz.func47, Tryz.ntmps47
              go_wp2_with (first
                | (go_at_call 82; ((with_reducible refine (refDigit_any _ ?_ ?_ _).mono ?_); (first | omega | skip); (first | omega | skip); rintro e w' ⟨rfl, rfl⟩; rw [hn])) | (go_at_call 85; ((with_reducible refine (refLetter_any _ ?_ ?_ _).mono ?_); (first | omega | skip); (first | omega | skip); rintro e w' ⟨rfl, rfl⟩; rw [hl]))
                | (go_at_call 86; ((with_reducible refine HC.out.mono ?_); intro e w1 he; obtain ⟨h1, rfl⟩ := RefTok.yes he; have HB1 := Lib.hid (HAL.out.trans (h1.mono HAL.out.size)); have HT1 := Lib.hid (HTK.out.below h1 HTK.out.lt); clear h1 he; obtain ⟨x0, x1, x2, x3, x4, x5, x6, x7, x8⟩ := HT1.out.cells; obtain ⟨f0, f1, f2, f3, f4, f5, f6, f7, f8⟩ := HT1.out.melts)))
              exact bodyPost_ret (out_tokn (HT1.out.put9 (t.goto k)) _ _ (n : Int) 4 5 res_rtoken rfl rfl) rfl ⟨below_set9r HB1.out (Nat.le_refl _) _ _ _ _ _ _ _ _ _, .inl ⟨t, n, HTQ.out, rfl⟩⟩
          · rw [if_neg (by rw [hl]; simp; exact h36), sign_T] at htk
            have hb36 : (a == 36) = false := beq_eq_false_iff_ne.2 h36
            have HC := Lib.hid (refSign_any s k (w.alloc (.cells zTok 54)) _hs _hk)
            obtain ⟨E, hE⟩ : ∃ E, signS s k = E := ⟨_, rfl⟩
            rw [hE] at HC htk
            clear h34 h35 h36 hE
            by_cases h0 : E.size = 0
            · rw [if_pos h0] at htk
              have HTQ := Lib.hid htk; clear htk
              have hei : (E.size : Int) = 0 := by omega
              go_enter Tryz.func47, Tryz.ntmps47
              go_wp2_with (first
                | (go_at_call 82; ((with_reducible refine (refDigit_any _ ?_ ?_ _).mono ?_); (first | omega | skip); (first | omega | skip); rintro e w' ⟨rfl, rfl⟩; rw [hn]))
                | (go_at_call 85; ((with_reducible refine (refLetter_any _ ?_ ?_ _).mono ?_); (first | omega | skip); (first | omega | skip); rintro e w' ⟨rfl, rfl⟩; rw [hl]))
                | (go_at_call 87; ((with_reducible refine HC.out.mono ?_); rintro e w' ⟨rfl, rfl⟩)))
              exact bodyPost_ret (out_tokn (TkAt.new w (({ Tk.zero with kind := 5, text := E } : Tk).goto k)) _ _ 0 4 5 res_rtoken rfl rfl) rfl ⟨(Below.refl _ _).alloc (Nat.le_refl _) _, .inr ⟨HTQ.out, (({ Tk.zero with kind := 5, text := E } : Tk).goto k), rfl⟩⟩
            · rw [if_neg h0] at htk
              have HTQ := Lib.hid htk; clear htk
              go_enter Tryz.func47, Tryz.ntmps47
              go_wp2_with (first
                | (go_at_call 82; ((with_reducible refine (refDigit_any _ ?_ ?_ _).mono ?_); (first | omega | skip); (first | omega | skip); rintro e w' ⟨rfl, rfl⟩; rw [hn]))
                | (go_at_call 85; ((with_reducible refine (refLetter_any _ ?_ ?_ _).mono ?_); (first | omega | skip); (first | omega | skip); rintro e w' ⟨rfl, rfl⟩; rw [hl]))
                | (go_at_call 87; ((with_reducible refine HC.out.mono ?_); rintro e w' ⟨rfl, rfl⟩)))
              exact bodyPost_ret (out_tokn (TkAt.new w (({ Tk.zero with kind := 5, text := E } : Tk).goto k)) _ _ (E.size : Int) 4 5 res_rtoken rfl rfl) rfl ⟨(Below.refl _ _).alloc (Nat.le_refl _) _, .inl ⟨_, E.size, HTQ.out, rfl⟩⟩
        · rw [if_pos (.inl hl)] at htk
          cases hq : wordT (restL s k) with
          | none =>
            rw [hq] at htk
            have HTQ := Lib.hid htk; clear htk
            have hc := refWord_any s k (w.alloc (.cells zTok 54)) _hs (Nat.le_of_lt _hk)
            rw [hq] at hc
            have HC := Lib.hid hc; clear hc hq h34 h35
            go_enter Tryz.func47, Tryz.ntmps47
            go_wp2_with (first
              | (go_at_call 82; ((with_reducible refine (refDigit_any _ ?_ ?_ _).mono ?_); (first | omega | skip); (first | omega | skip); rintro e w' ⟨rfl, rfl⟩; rw [hn])) | (go_at_call 85; ((with_reducible refine (refLetter_any _ ?_ ?_ _).mono ?_); (first | omega | skip); (first | omega | skip); rintro e w' ⟨rfl, rfl⟩; rw [hl]))
              | (go_at_call 86; ((with_reducible refine HC.out.mono ?_); intro e w1 he; obtain ⟨h1, t, rfl⟩ := RefTok.no he; have HB1 := Lib.hid (HAL.out.trans (h1.mono HAL.out.size)); have HT1 := Lib.hid (HTK.out.below h1 HTK.out.lt); clear h1 he; obtain ⟨x0, x1, x2, x3, x4, x5, x6, x7, x8⟩ := HT1.out.cells; obtain ⟨f0, f1, f2, f3, f4, f5, f6, f7, f8⟩ := HT1.out.melts)))
            exact bodyPost_ret (out_tokn (HT1.out.put9 t) _ _ 0 4 5 res_rtoken rfl rfl) rfl ⟨below_set9r HB1.out (Nat.le_refl _) _ _ _ _ _ _ _ _ _, .inr ⟨HTQ.out, t, rfl⟩⟩
          | some q =>
            obtain ⟨t, n⟩ := q
            rw [hq] at htk
            have HTQ := Lib.hid htk; clear htk
            have hc := refWord_any s k (w.alloc (.cells zTok 54)) _hs (Nat.le_of_lt _hk)
            rw [hq] at hc
            have HC := Lib.hid hc; clear hc hq h34 h35
            go_enter Tryz.func47, Tryz.ntmps47
            go_wp2_with (first
              | (go_at_call 82; ((with_reducible refine (refDigit_any _ ?_ ?_ _).mono ?_); (first | omega | skip); (first | omega | skip); rintro e w' ⟨rfl, rfl⟩; rw [hn])) | (go_at_call 85; ((with_reducible refine (refLetter_any _ ?_ ?_ _).mono ?_); (first | omega | skip); (first | omega | skip); rintro e w' ⟨rfl, rfl⟩; rw [hl]))
              | (go_at_call 86; ((with_reducible refine HC.out.mono ?_); intro e w1 he; obtain ⟨h1, rfl⟩ := RefTok.yes he; have HB1 := Lib.hid (HAL.out.trans (h1.mono HAL.out.size)); have HT1 := Lib.hid (HTK.out.below h1 HTK.out.lt); clear h1 he; obtain ⟨x0, x1, x2, x3, x4, x5, x6, x7, x8⟩ := HT1.out.cells; obtain ⟨f0, f1, f2, f3, f4, f5, f6, f7, f8⟩ := HT1.out.melts)))
            exact bodyPost_ret (out_tokn (HT1.out.put9 (t.goto k)) _ _ (n : Int) 4 5 res_rtoken rfl rfl) rfl ⟨below_set9r HB1.out (Nat.le_refl _) _ _ _ _ _ _ _ _ _, .inl ⟨t, n, HTQ.out, rfl⟩⟩
  · rw [hn, if_pos rfl] at htk
    cases hq : numT (restL s k) with
    | none =>
      rw [hq] at htk
      have HTQ := Lib.hid htk; clear htk
      have hc := refNumber_any s k (w.alloc (.cells zTok 54)) _hs (Nat.le_of_lt _hk)
      rw [hq] at hc
      have HC := Lib.hid hc; clear hc hq
      go_enter Tryz.func47, Tryz.ntmps47
      go_wp2_with (first
        | (go_at_call 82; ((with_reducible refine (refDigit_any _ ?_ ?_ _).mono ?_); (first | omega | skip); (first | omega | skip); rintro e w' ⟨rfl, rfl⟩; rw [hn]))
        | (go_at_call 83; ((with_reducible refine HC.out.mono ?_); intro e w1 he; obtain ⟨h1, t, rfl⟩ := RefTok.no he; have HB1 := Lib.hid (HAL.out.trans (h1.mono HAL.out.size)); have HT1 := Lib.hid (HTK.out.below h1 HTK.out.lt); clear h1 he; obtain ⟨x0, x1, x2, x3, x4, x5, x6, x7, x8⟩ := HT1.out.cells; obtain ⟨f0, f1, f2, f3, f4, f5, f6, f7, f8⟩ := HT1.out.melts)))
      exact bodyPost_ret (out_tokn (HT1.out.put9 t) _ _ 0 4 5 res_rtoken rfl rfl) rfl ⟨below_set9r HB1.out (Nat.le_refl _) _ _ _ _ _ _ _ _ _, .inr ⟨HTQ.out, t, rfl⟩⟩
    | some q =>
      obtain ⟨t, n⟩ := q
      rw [hq] at htk
      have HTQ := Lib.hid htk; clear htk
      have hc := refNumber_any s k (w.alloc (.cells zTok 54)) _hs (Nat.le_of_lt _hk)
      rw [hq] at hc
      have HC := Lib.hid hc; clear hc hq
      go_enter Tryz.func47, Tryz.ntmps47
      go_wp2_with (first
        | (go_at_call 82; ((with_reducible refine (refDigit_any _ ?_ ?_ _).mono ?_); (first | omega | skip); (first | omega | skip); rintro e w' ⟨rfl, rfl⟩; rw [hn]))
        | (go_at_call 83; ((with_reducible refine HC.out.mono ?_); intro e w1 he; obtain ⟨h1, rfl⟩ := RefTok.yes he; have HB1 := Lib.hid (HAL.out.trans (h1.mono HAL.out.size)); have HT1 := Lib.hid (HTK.out.below h1 HTK.out.lt); clear h1 he; obtain ⟨x0, x1, x2, x3, x4, x5, x6, x7, x8⟩ := HT1.out.cells; obtain ⟨f0, f1, f2, f3, f4, f5, f6, f7, f8⟩ := HT1.out.melts)))
      exact bodyPost_ret (out_tokn (HT1.out.put9 (t.goto k)) _ _ (n : Int) 4 5 res_rtoken rfl rfl) rfl ⟨below_set9r HB1.out (Nat.le_refl _) _ _ _ _ _ _ _ _ _, .inl ⟨t, n, HTQ.out, rfl⟩⟩
end Go.Proofs.YtdfpalocnijefaaGreatDoor

/-
  Layer 4, the reference: Lex.
-/
namespace Go.Proofs.YtdfpalocnijefaaGreatDoor
open Go.RowKit

/-- A block that holds tokens and an error's number. -/
def LkAt (w : World) (b : Nat) (v : Value) (e : Int) : Prop := w.heap[b]? = some (.cells #[v, .int .i64 e] 57)
theorem LkAt.lt {w : World} {b : Nat} {v : Value} {e : Int} (h : LkAt w b v e) : b < w.heap.size := (Array.getElem?_eq_some_iff.1 h).1
theorem LkAt.below {w w' : World} {B b : Nat} {v : Value} {e : Int} (h : LkAt w b v e) (hb : Below B w w') (hB : b < B) : LkAt w' b v e := by unfold LkAt; rw [hb.block b hB]; exact h
theorem LkAt.facts {w : World} {b : Nat} {v : Value} {e : Int} (h : LkAt w b v e) : w.cell? ⟨b, 0, none⟩ = some v ∧ w.cell? ⟨b, 1, none⟩ = some (.int .i64 e) :=
  ⟨by rw [cell_of_row w b 0 _ _ _ h]; rfl, by rw [cell_of_row w b 1 _ _ _ h]; rfl⟩
theorem LkAt.melts {w : World} {b : Nat} {v : Value} {e : Int} (h : LkAt w b v e) : w.frozen? ⟨b, 0, none⟩ = false ∧ w.frozen? ⟨b, 1, none⟩ = false := ⟨frozen_of_row w b 0 _ _ h, frozen_of_row w b 1 _ _ h⟩
theorem LkAt.put2 {w : World} {b : Nat} {v0 : Value} {e0 : Int} (h : LkAt w b v0 e0) (v : Value) (e : Int) : LkAt ((w.setCell ⟨b, 0, none⟩ v).setCell ⟨b, 1, none⟩ (.int .i64 e)) b v e := by
  have h1 : (w.setCell ⟨b, 0, none⟩ v).heap[b]? = some (.cells #[v, .int .i64 e0] 57) := by rw [heap_setCell_same w b 0 _ _ _ h]; rfl
  unfold LkAt; rw [heap_setCell_same _ b 1 _ _ _ h1]; rfl
theorem LkAt.new (w : World) (v : Value) (e : Int) : LkAt (w.alloc (.cells #[v, .int .i64 e] 57)) w.heap.size v e := (Go.MapKept.heap_alloc w _).1
theorem lk_size : (Tryz.prog.info? 57).map (·.size) = some 2 := by kernel_rfl
theorem out_lk {w : World} {b : Nat} {v : Value} {e : Int} (h : LkAt w b v e) (fn : Func) (tmps : Array Value) (p : Tmp) (hf : fn.results = #[.cell p 57]) (hp : tmps.getD p undef = .pointer (some ⟨b, 0, none⟩)) :
    (results fn tmps).run Tryz.prog w = .ok (.agg #[v, .int .i64 e]) w :=
  results_cell_row hf tmps w b _ _ _ _ hp h Tryz.underlying57 rfl lk_size
theorem res_rlex : Tryz.f25.results = #[.cell 2 57] := by kernel_rfl
/-- What the reference's Lex answers. -/
def RefLexed (s : ByteArray) (w : World) (e : Ending) (w' : World) : Prop :=
  Below w.heap.size w w' ∧ ((300 < s.size ∧ e = .returned (.agg #[.slice none 0 0, .int .i64 4])) ∨ (s.size ≤ 300 ∧ lexL (sb s) = none ∧ e = .returned (.agg #[.slice none 0 0, .int .i64 5])) ∨
    (s.size ≤ 300 ∧ ∃ ts v, lexL (sb s) = some ts ∧ e = .returned (.agg #[v, .int .i64 0]) ∧ OwnT w' w.heap.size v ts))
theorem Own.set2 {α : Type} {size : Nat} {E : Enc α size} {e : TypeId} {w : World} {base r : Nat} {v : Value} {xs : List α} (h : Own E e w base v xs) (hr : r < base) (a b : Value) : Own E e ((w.setCell ⟨r, 0, none⟩ a).setCell ⟨r, 1, none⟩ b) base v xs :=
  Own.other h (grownBy.setCell' (grownBy.setCell' (grownBy.refl' _ _) _ _) _ _) hr

set_option maxRecDepth 100000 in
set_option maxHeartbeats 4000000 in
theorem refLex_any (s : ByteArray) (w : World) : Calls Tryz.prog 25 #[.string s] w (RefLexed s w) := by
  by_cases hbig : 300 < s.size
  · have hi : (300 : Int) < (s.size : Int) := by omega
    go_enter Tryz.func25, Tryz.ntmps25
    go_wp2_with fail
    exact bodyPost_ret (out_lk (LkAt.new w (.slice none 0 0) 4) _ _ 2 res_rlex rfl) rfl ⟨(Below.refl _ _).alloc (Nat.le_refl _) _, .inl ⟨hbig, rfl⟩⟩
  have hi : ¬ (300 : Int) < (s.size : Int) := by omega
  have hs0 : s.size ≤ 1000000 := by omega
  obtain ⟨eb, hEB, EL⟩ := Elem.tok
  have HEL := Lib.hid EL; clear EL
  have HLK := Lib.hid (LkAt.new w (.slice none 0 0) 0)
  have HAL := Lib.hid (show Below w.heap.size w (w.alloc (.cells #[.slice none 0 0, .int .i64 0] 57)) from (Below.refl _ _).alloc (Nat.le_refl _) _)
  have HL0 := Lib.hid (show lexL (sb s) = (lexP s 0).map (([] : List Tk) ++ ·) by rw [lexL_P]; cases lexP s 0 <;> rfl)
  go_enter Tryz.func25, Tryz.ntmps25
  go_wp2_with fail
  go_loopw [3, 4] (fun v i wr => ∃ (p : Nat) (acc : List Tk), i = .int .i64 (p : Int) ∧ p ≤ s.size ∧ acc.length ≤ p ∧ Hid (lexL (sb s) = (lexP s p).map (acc ++ ·)) ∧ Hid (OwnT wr (w.heap.size + 1) v acc) ∧ Hid (LkAt wr w.heap.size (.slice none 0 0) 0) ∧ Hid (Below w.heap.size w wr))
    (fun _ i _ => s.size - (intOf i).toNat)
  case atStart => exact ⟨0, [], rfl, by omega, by simp, HL0, Lib.hid (Own.nil _ _ _ _), HLK, HAL⟩
  case round =>
    clear HL0 HLK HAL
    obtain ⟨p, acc, rfl, hps, hal, HL, HO, HK, HB⟩ := hrel
    by_cases hlt : p < s.size
    · have hlt2 : (p : Int) < (s.size : Int) := by omega
      obtain ⟨a, ha⟩ : ∃ a : Int, (s[p].toNat : Int) = a := ⟨_, rfl⟩
      by_cases h32 : a = 32
      · have hb32 : (a == 32) = true := beq_iff_eq.2 h32
        have HL2 := Lib.hid (show lexL (sb s) = (lexP s (p + 1)).map (acc ++ ·) by rw [HL.out, lexP_blank s p hlt (by rw [ha]; exact h32)])
        clear h32
        go_wp2_with fail
        go_roundw
        case rel => exact ⟨p + 1, acc, by go_num, by omega, by omega, HL2, HO, HK, HB⟩
        case measure => simp [intOf]; omega
      · have hb32 : (a == 32) = false := beq_eq_false_iff_ne.2 h32
        have h32' : ¬ ((s[p].toNat : Nat) : Int) = 32 := by rw [ha]; exact h32
        have hT := refToken_any s p wr hs0 hlt
        cases hq : tokT (restL s p) with
        | none =>
          rw [hq] at hT
          have HT := Lib.hid hT; clear hT
          have HN := Lib.hid (show lexL (sb s) = none by rw [HL.out, lexP_none s p hlt h32' hq]; rfl)
          clear hq h32 h32'
          go_upto_region 10 with (go_at_call 47; ((with_reducible refine HT.out.mono ?_); intro e w1 he; obtain ⟨h1, t, rfl⟩ := RefTok.no he; have HB1 := Lib.hid (HB.out.trans (h1.mono HB.out.size)); have HK1 := Lib.hid (HK.out.below h1 HK.out.lt); clear h1 he))
          have hB3 : Below w1.heap.size w1 (w1.alloc (.cells #[.int .i64 t.kind, .string t.text, .int .i64 t.num, .string t.sh, .int .i64 t.c, .int .i64 t.r, .bool t.ac, .bool t.ar, .int .i64 t.pos] 54)) := (Below.refl _ _).alloc (Nat.le_refl _) _
          have HB3 := Lib.hid (HB1.out.trans (hB3.mono HB1.out.size))
          have HK3 := Lib.hid (HK1.out.below hB3 HK1.out.lt)
          clear hB3
          generalize w1.alloc (.cells #[.int .i64 t.kind, .string t.text, .int .i64 t.num, .string t.sh, .int .i64 t.c, .int .i64 t.r, .bool t.ac, .bool t.ar, .int .i64 t.pos] 54) = w3 at HB3 HK3 ⊢
          obtain ⟨c0, c1⟩ := HK3.out.facts
          obtain ⟨f0, f1⟩ := HK3.out.melts
          go_wp2_with fail
          exact bodyPost_ret (out_lk (HK3.out.put2 (.slice none 0 0) 5) _ _ 2 res_rlex rfl) rfl ⟨(HB3.out.setCell (Nat.le_refl _) _).setCell (Nat.le_refl _) _, .inr (.inl ⟨by omega, HN.out, rfl⟩)⟩
        | some q =>
          obtain ⟨t0, n0⟩ := q
          rw [hq] at hT
          obtain ⟨t1, ht1⟩ : ∃ t1, t0.goto p = t1 := ⟨_, rfl⟩
          have HT := Lib.hid hT; clear hT
          have hn0 := tokT_le _ _ _ hq
          rw [length_restL] at hn0
          have HL1 := Lib.hid (show lexL (sb s) = (lexP s (p + n0)).map ((acc ++ [t0.goto p]) ++ ·) by
            rw [HL.out, lexP_tok s p hlt h32' t0 n0 hq, Option.map_map]
            congr 1; funext l; simp)
          have hn1 : ((n0 : Int) == 0) = false := beq_eq_false_iff_ne.2 (by omega)
          clear hq HL h32 h32' ht1
          go_upto_region 11 with (go_at_call 47; ((with_reducible refine HT.out.mono ?_); intro e w1 he; obtain ⟨h1, rfl⟩ := RefTok.yes he; have HB1 := Lib.hid (HB.out.trans (h1.mono HB.out.size)); have HK1 := Lib.hid (HK.out.below h1 HK.out.lt); have HO1 := Lib.hid (Own.below HO.out h1 (Nat.le_refl _)); clear h1 he))
          have hB3 : Below w1.heap.size w1 (w1.alloc (.cells #[.int .i64 t0.kind, .string t0.text, .int .i64 t0.num, .string t0.sh, .int .i64 t0.c, .int .i64 t0.r, .bool t0.ac, .bool t0.ar, .int .i64 (p : Int)] 54)) := (Below.refl _ _).alloc (Nat.le_refl _) _
          have HN3 : TkAt (w1.alloc (.cells #[.int .i64 t0.kind, .string t0.text, .int .i64 t0.num, .string t0.sh, .int .i64 t0.c, .int .i64 t0.r, .bool t0.ac, .bool t0.ar, .int .i64 (p : Int)] 54)) w1.heap.size (t0.goto p) := TkAt.new w1 (t0.goto p)
          have HB3 := Lib.hid (HB1.out.trans (hB3.mono HB1.out.size))
          have HK3 := Lib.hid (HK1.out.below hB3 HK1.out.lt)
          have HO3 := Lib.hid (Own.below HO1.out hB3 (Nat.le_refl _))
          clear hB3 HT HB1 HK1 HO1 HB HK HO
          generalize w1.alloc (.cells #[.int .i64 t0.kind, .string t0.text, .int .i64 t0.num, .string t0.sh, .int .i64 t0.c, .int .i64 t0.r, .bool t0.ac, .bool t0.ar, .int .i64 (p : Int)] 54) = w3 at HB3 HK3 HO3 HN3 ⊢
          obtain ⟨y0, y1, y2, y3, y4, y5, y6, y7, y8⟩ := HN3.cells
          clear HN3
          simp only [Tk.goto] at y0 y1 y2 y3 y4 y5 y6 y7 y8
          go_wp2_with (at_builtin; refine wpList_app HEL.out encTk rfl (.tmp 30) (.tmp 32) rfl (w.heap.size + 1) _ _ rfl (HO3.out.alloc _) ⟨_, 0, none⟩ 1 1 [t0.goto p] rfl rfl ?_ ?_ ?_ ?_ ?_; exact cells_new _ _ _ rfl; exact Nat.le_trans (Nat.mul_le_mul_left _ hEB) (by omega); (unfold maxLen; omega); (have := HK3.out.lt; simp <;> omega); intro v' wz h1 h2; have HOz := Lib.hid h1; have HBz := Lib.hid (((Below.refl (w.heap.size + 1) _).alloc (by have := HK3.out.lt; omega) _).trans h2); clear h1 h2)
          go_roundw
          case rel => exact ⟨p + n0, acc ++ [t0.goto p], by go_num, by omega, by simp; omega, HL1, HOz, Lib.hid (HK3.out.below HBz.out (Nat.lt_succ_self _)), Lib.hid (HB3.out.trans (HBz.out.mono (Nat.le_succ _)))⟩
          case measure => simp [intOf]; omega
    · have hlt2 : ¬ (p : Int) < (s.size : Int) := by omega
      have hpz : p = s.size := by omega
      have HN := Lib.hid (show lexL (sb s) = some (acc ++ [Tk.zero.goto p]) by rw [HL.out, lexP_end s p (by omega)]; rfl)
      clear HL
      obtain ⟨c0, c1⟩ := HK.out.facts
      obtain ⟨f0, f1⟩ := HK.out.melts
      go_wp2_with (at_builtin; refine wpList_app HEL.out encTk rfl (.tmp 37) (.tmp 41) rfl (w.heap.size + 1) _ _ rfl (HO.out.alloc _) ⟨_, 0, none⟩ 1 1 [Tk.zero.goto s.size] rfl rfl ?_ ?_ ?_ ?_ ?_; exact cells_new _ _ _ rfl; exact Nat.le_trans (Nat.mul_le_mul_left _ hEB) (by omega); (unfold maxLen; omega); (have := HK.out.lt; simp <;> omega); intro v' wz h1 h2; obtain ⟨gz, capz, rfl, _, _, _, _⟩ := Own.some h1 (by simp); have HOz := Lib.hid h1; have HBz := Lib.hid (((Below.refl (w.heap.size + 1) _).alloc (by have := HK.out.lt; omega) _).trans h2); clear h1 h2; have HKz := Lib.hid (HK.out.below HBz.out (Nat.lt_succ_self _)); clear c0 c1 f0 f1; obtain ⟨c0, c1⟩ := HKz.out.facts; obtain ⟨f0, f1⟩ := HKz.out.melts)
      exact bodyPost_ret (out_lk (HKz.out.put2 _ 0) _ _ 2 res_rlex rfl) rfl ⟨((HB.out.trans (HBz.out.mono (Nat.le_succ _))).setCell (Nat.le_refl _) _).setCell (Nat.le_refl _) _, .inr (.inr ⟨by omega, _, _, HN.out, rfl, by have h9 := (Own.set2 HOz.out (Nat.lt_succ_self _) (.slice (some ⟨gz, 0, none⟩) (acc.length + 1) capz) (.int .i64 0)).mono (Nat.le_succ _); rw [show (acc ++ [Tk.zero.goto s.size]).length = acc.length + 1 by simp] at h9; rw [hpz]; exact h9⟩)⟩
end Go.Proofs.YtdfpalocnijefaaGreatDoor

/-
  Layer 5, the reference: a reader in memory; what stays as it is.
-/
namespace Go.Proofs.YtdfpalocnijefaaGreatDoor
open Go.RowKit

/-- A reader: its tokens, its place, how deep, its error, its nodes. -/
structure Rs (w : World) (b : Nat) (tv : Value) (ts : List Tk) (p : Nat) (d er : Int) (nv : Value) (vs : List Nv) : Prop where
  cell : w.heap[b]? = some (.cells #[tv, .int .i64 (p : Int), .int .i64 d, .int .i64 er, nv] 61)
  toks : TokV w b tv ts
  nodes : NodV w (b + 1) nv vs
  lt : p < ts.length
  fit : Fit ts
  few : ts.length ≤ 1000
  cnt : vs.length ≤ ts.length + 100
section
variable {w : World} {b : Nat} {tv : Value} {ts : List Tk} {p : Nat} {d er : Int} {nv : Value} {vs : List Nv}
theorem Rs.blt (h : Rs w b tv ts p d er nv vs) : b < w.heap.size := (Array.getElem?_eq_some_iff.1 h.cell).1
theorem Rs.below {w' : World} (h : Rs w b tv ts p d er nv vs) (hb : Below w.heap.size w w') : Rs w' b tv ts p d er nv vs := by
  have hl := h.blt
  refine ⟨by rw [hb.block b hl]; exact h.cell, ?_, h.nodes.keep fun g _ hg => hb.block g hg, h.lt, h.fit, h.few, h.cnt⟩
  obtain ⟨g, cap, h1, h2, h3⟩ := h.toks
  exact ⟨g, cap, h1, h2, h3.keep fun g _ hg _ => hb.block g hg⟩
theorem Rs.facts (h : Rs w b tv ts p d er nv vs) : w.cell? ⟨b, 0, none⟩ = some tv ∧ w.cell? ⟨b, 1, none⟩ = some (.int .i64 (p : Int)) ∧ w.cell? ⟨b, 2, none⟩ = some (.int .i64 d) ∧ w.cell? ⟨b, 3, none⟩ = some (.int .i64 er) ∧ w.cell? ⟨b, 4, none⟩ = some nv :=
  ⟨by rw [cell_of_row w b 0 _ _ _ h.cell]; rfl, by rw [cell_of_row w b 1 _ _ _ h.cell]; rfl, by rw [cell_of_row w b 2 _ _ _ h.cell]; rfl, by rw [cell_of_row w b 3 _ _ _ h.cell]; rfl, by rw [cell_of_row w b 4 _ _ _ h.cell]; rfl⟩
theorem Rs.frozen (h : Rs w b tv ts p d er nv vs) (j : Nat) : w.frozen? ⟨b, j, none⟩ = false := frozen_of_row w b j _ _ h.cell
theorem Rs.setP (h : Rs w b tv ts p d er nv vs) (m : Nat) (hm : m < ts.length) : Rs (w.setCell ⟨b, 1, none⟩ (.int .i64 (m : Int))) b tv ts m d er nv vs :=
  ⟨by rw [heap_setCell_same w b 1 _ _ _ h.cell]; rfl, h.toks.set _ _, h.nodes.set (by omega) _ _, hm, h.fit, h.few, h.cnt⟩
theorem Rs.next (h : Rs w b tv ts p d er nv vs) (hm : p + 1 < ts.length) : Rs (w.setCell ⟨b, 1, none⟩ (.int .i64 ((p : Int) + 1))) b tv ts (p + 1) d er nv vs := h.setP (p + 1) hm
theorem Rs.setD (h : Rs w b tv ts p d er nv vs) (m : Int) : Rs (w.setCell ⟨b, 2, none⟩ (.int .i64 m)) b tv ts p m er nv vs :=
  ⟨by rw [heap_setCell_same w b 2 _ _ _ h.cell]; rfl, h.toks.set _ _, h.nodes.set (by omega) _ _, h.lt, h.fit, h.few, h.cnt⟩
theorem Rs.setE (h : Rs w b tv ts p d er nv vs) (m : Int) : Rs (w.setCell ⟨b, 3, none⟩ (.int .i64 m)) b tv ts p d m nv vs :=
  ⟨by rw [heap_setCell_same w b 3 _ _ _ h.cell]; rfl, h.toks.set _ _, h.nodes.set (by omega) _ _, h.lt, h.fit, h.few, h.cnt⟩
/-- The token at its place. -/
theorem Rs.tok (h : Rs w b tv ts p d er nv vs) : ∃ g cap t, tv = .slice (some ⟨g, 0, none⟩) ts.length cap ∧ ts[p]? = some t ∧ ts.drop p = t :: ts.drop (p + 1) ∧ g < b ∧ w.cell? ⟨g, p * 9, none⟩ = some (.int .i64 t.kind) ∧ w.cell? ⟨g, p * 9 + 1, none⟩ = some (.string t.text) ∧ w.cell? ⟨g, p * 9 + 2, none⟩ = some (.int .i64 t.num) ∧ w.cell? ⟨g, p * 9 + 3, none⟩ = some (.string t.sh) ∧ w.cell? ⟨g, p * 9 + 4, none⟩ = some (.int .i64 t.c) ∧ w.cell? ⟨g, p * 9 + 5, none⟩ = some (.int .i64 t.r) ∧ w.cell? ⟨g, p * 9 + 6, none⟩ = some (.bool t.ac) ∧ w.cell? ⟨g, p * 9 + 7, none⟩ = some (.bool t.ar) ∧ w.cell? ⟨g, p * 9 + 8, none⟩ = some (.int .i64 t.pos) := by
  obtain ⟨g, cap, h1, h2, h3⟩ := h.toks
  have hl := h.lt
  rw [h1] at h3
  have hc := fun j hj => OwnT.cell h3 p _ (List.getElem?_eq_getElem hl) j hj
  exact ⟨g, cap, ts[p], h1, List.getElem?_eq_getElem hl, List.drop_eq_getElem_cons hl, h2, hc 0 (by omega), hc 1 (by omega), hc 2 (by omega), hc 3 (by omega), hc 4 (by omega), hc 5 (by omega), hc 6 (by omega), hc 7 (by omega), hc 8 (by omega)⟩
theorem Rs.row (h : Rs w b tv ts p d er nv vs) : ∀ g, nv.ownBlock = some g → b < g ∧ NodeRow w g := by
  intro g e
  rcases h.nodes.1.2 with ⟨h1, _⟩ | ⟨g', cap, cur, h1, h2, h3, _⟩
  · rw [h1] at e; cases e
  · rw [h1] at e; injection e with e
    have e : g' = g := e
    subst e
    exact ⟨by omega, cur, _, h3⟩
theorem Rs.grown4 {w' : World} (h : Rs w b tv ts p d er nv vs) (hg : w.grownBy w' nv.ownBlock) : w'.cell? ⟨b, 4, none⟩ = some nv ∧ w'.frozen? ⟨b, 4, none⟩ = false := by
  have hbb : w'.heap[b]? = w.heap[b]? := hg.block b h.blt (by intro e; have := (h.row b e.symm).1; omega)
  have hc := hbb.trans h.cell
  exact ⟨by rw [cell_of_row w' b 4 _ _ _ hc]; rfl, frozen_of_row w' b 4 _ _ hc⟩
/-- Behind the append, and the store of the longer list. -/
theorem Rs.grow {w' : World} {nv' : Value} {v : Nv} (h : Rs w b tv ts p d er nv vs) (hg : w.grownBy w' nv.ownBlock) (ho : Own encNv 38 w' (b + 1) nv' (vs ++ [v]))
    (hk : Own (encInt .i64) 3 w (b + 1) v.kv v.n.kids) (hc : vs.length + 1 ≤ ts.length + 100) : Rs (w'.setCell ⟨b, 4, none⟩ nv') b tv ts p d er nv' (vs ++ [v]) ∧ Fr w (w'.setCell ⟨b, 4, none⟩ nv') b := by
  have hnv := h.row
  have hfr : Fr w w' b := (Fr.refl w b).row hg (fun g e => ⟨(hnv g e).1, .inr (hnv g e).2⟩)
  have hbb : w'.heap[b]? = w.heap[b]? := hg.block b h.blt (by intro e; have := (hnv b e.symm).1; omega)
  refine ⟨⟨?_, ?_, ⟨ho.keep fun j hj _ _ => Below.heap_setCell _ _ _ _ (by show j ≠ b; omega), ?_⟩, h.lt, h.fit, h.few, by rw [List.length_append, List.length_singleton]; exact hc⟩, hfr.setCell _ _⟩
  · rw [heap_setCell_same w' b 4 _ _ _ (hbb.trans h.cell)]; rfl
  · have h1 : TokV w' b tv ts := by
      obtain ⟨g, cap, h1, h2, h3⟩ := h.toks
      exact ⟨g, cap, h1, h2, h3.keep fun j _ hj e => hfr.block j hj (by rw [h1] at e; injection e with e; have : g = j := e; omega) (.inl (by rw [h1] at e; injection e with e; have : g = j := e; omega))⟩
    exact h1.set _ _
  · intro u hu
    have h1 : Own (encInt .i64) 3 w (b + 1) u.kv u.n.kids := by
      rcases List.mem_append.1 hu with hu | hu
      · exact h.nodes.2 u hu
      · rw [List.mem_singleton.1 hu]; exact hk
    exact (h1.fr hfr (by omega) (by decide)).keep fun j hj _ _ => Below.heap_setCell _ _ _ _ (by show j ≠ b; omega)
/-- A row of kids of the call's own grows. -/
theorem Rs.kids {w' : World} (h : Rs w b tv ts p d er nv vs) {r : Option Nat} (hg : w.grownBy w' r) (hr : ∀ g, r = some g → b < g ∧ ¬ NodeRow w g ∧ ∀ v ∈ vs, v.kv.ownBlock ≠ some g) : Rs w' b tv ts p d er nv vs := by
  refine ⟨?_, ?_, ⟨h.nodes.1.keep ?_, fun v hv => (h.nodes.2 v hv).keep ?_⟩, h.lt, h.fit, h.few, h.cnt⟩
  · rw [hg.block b h.blt (by intro e; have := (hr b e.symm).1; omega)]; exact h.cell
  · obtain ⟨g, cap, h1, h2, h3⟩ := h.toks
    exact ⟨g, cap, h1, h2, h3.keep fun j _ hj e => hg.block j hj (by
      intro e2
      have := (hr j e2.symm).1
      rw [h1] at e; injection e with e; have : g = j := e; omega)⟩
  · intro g h1 h2 h3
    exact hg.block g h2 (fun e => (hr g e.symm).2.1 (h.row g h3).2)
  · intro g h1 h2 h3
    exact hg.block g h2 (fun e => (hr g e.symm).2.2 v hv h3)
end
/-- For a loop's measure. -/
def rsm (b n : Nat) (w : World) : Nat := match w.cell? ⟨b, 3, none⟩ with
  | some (.int _ e) => if e = 0 then n + 1 - (match w.cell? ⟨b, 1, none⟩ with | some (.int _ m) => m.toNat | _ => 0) else 0
  | _ => 0
theorem Rs.rsm {w : World} {b : Nat} {tv : Value} {ts : List Tk} {p : Nat} {d er : Int} {nv : Value} {vs : List Nv} (h : Rs w b tv ts p d er nv vs) (n : Nat) : rsm b n w = if er = 0 then n + 1 - p else 0 := by
  unfold Go.Proofs.YtdfpalocnijefaaGreatDoor.rsm; rw [h.facts.2.2.2.1, h.facts.2.1]; rfl
theorem rsign_next {w : World} {b : Nat} {tv : Value} {ts : List Tk} {p : Nat} {d er : Int} {nv : Value} {vs : List Nv} (h : Rs w b tv ts p d er nv vs) {s : ByteArray} (hs : signIs s (ts.drop p) = true) : p + 1 < ts.length := by
  obtain ⟨g, cap, t, -, ht, hd, -⟩ := h.tok
  rw [sign_at hd, Bool.and_eq_true, decide_eq_true_iff] at hs
  exact h.fit.next ht (by omega)

set_option maxRecDepth 100000 in
set_option maxHeartbeats 4000000 in
theorem ris_any {w : World} {b : Nat} {tv : Value} {ts : List Tk} {p : Nat} {d er : Int} {nv : Value} {vs : List Nv} (h : Rs w b tv ts p d er nv vs) (s : ByteArray) :
    Calls Tryz.prog 50 #[.pointer (some ⟨b, 0, none⟩), .string s] w fun e w' => e = .returned (.bool (decide (er = 0) && signIs s (ts.drop p))) ∧ Below w.heap.size w w' := by
  obtain ⟨c0, c1, c2, c3, c4⟩ := h.facts
  obtain ⟨g, cap, t, rfl, ht, hd, -, k0, k1, -⟩ := h.tok
  have hlt := h.lt
  have HS := Lib.hid (sign_at (s := s) hd)
  have hi1 : (0 : Int) ≤ (p : Int) := by omega
  have hi2 : (p : Int) < (ts.length : Int) := by omega
  obtain ⟨n, hn⟩ : ∃ n, ts.length = n := ⟨_, rfl⟩
  rw [hn] at hi2 hlt c0
  clear h ht hd hn c2 c4
  by_cases he : er = 0
  · have ee : (er == 0) = true := beq_iff_eq.2 he
    have HE := Lib.hid (decide_eq_true he)
    clear he
    by_cases h5 : t.kind = 5
    · have e5 : (t.kind == 5) = true := beq_iff_eq.2 h5
      by_cases hs : t.text = s
      · have hs1 : (t.text.toList == s.toList) = true := by rw [hs]; simp
        have hs2 : t.text.toList = s.toList := by rw [hs]
        have HR := Lib.hid (show (decide (er = 0) && signIs s (ts.drop p)) = true by rw [HE.out, HS.out, decide_eq_true h5, decide_eq_true hs]; rfl)
        clear h5 hs
        go_enter Tryz.func50, Tryz.ntmps50
        go_wp2_with fail
        go_quiet (fail)
        go_wp2_with fail
        go_ret
        exact ⟨by rw [HR.out] <;> rfl, drew_below (Below.refl _ _) nq⟩
      · have hs1 : (t.text.toList == s.toList) = false := beq_eq_false_iff_ne.2 (text_ne _ _ hs)
        have hs2 : ¬ t.text.toList = s.toList := text_ne _ _ hs
        have HR := Lib.hid (show (decide (er = 0) && signIs s (ts.drop p)) = false by rw [HE.out, HS.out, decide_eq_true h5, decide_eq_false hs]; rfl)
        clear h5 hs
        go_enter Tryz.func50, Tryz.ntmps50
        go_wp2_with fail
        go_quiet (fail)
        go_wp2_with fail
        go_ret
        exact ⟨by rw [HR.out] <;> rfl, drew_below (Below.refl _ _) nq⟩
    · have e5 : (t.kind == 5) = false := beq_eq_false_iff_ne.2 h5
      have HR := Lib.hid (show (decide (er = 0) && signIs s (ts.drop p)) = false by rw [HE.out, HS.out, decide_eq_false h5]; rfl)
      clear h5
      go_enter Tryz.func50, Tryz.ntmps50
      go_wp2_with fail
      go_quiet (fail)
      go_wp2_with fail
      go_ret
      exact ⟨by rw [HR.out] <;> rfl, drew_below (Below.refl _ _) nq⟩
  · have ee : (er == 0) = false := beq_eq_false_iff_ne.2 he
    have HR := Lib.hid (show (decide (er = 0) && signIs s (ts.drop p)) = false by rw [decide_eq_false he]; rfl)
    clear he
    go_enter Tryz.func50, Tryz.ntmps50
    go_wp2_with fail
    go_quiet (fail)
    go_wp2_with fail
    go_ret
    exact ⟨by rw [HR.out] <;> rfl, drew_below (Below.refl _ _) nq⟩
end Go.Proofs.YtdfpalocnijefaaGreatDoor
