/-
  Layer 3, the reference: ReadRef, walked.
-/
import Derived.Test.YtdapnipodnhpkaaDoorRefRd
import Derived.Laws.ResultCell
import Derived.Deep.DeepCutAuto
import Derived.Deep.CutBlock
namespace Go.Proofs.YtdapnipodnhpkaaDoor
open Go.RowKit

/-- What a false answer leaves. -/
def Nay (w : World) (e : Ending) (w' : World) : Prop := e = .returned (.tuple #[.agg #[.string ⟨#[]⟩, .int .i64 0, .int .i64 0, .bool false, .bool false], .bool false]) ∧ Below w.heap.size w w'
theorem ref_facts {w wr : World} {sh : ByteArray} {c r : Int} {ac ar : Bool} (h : RSt w wr sh c r ac ar) :
    (wr.cell? ⟨w.heap.size + 1, 0, none⟩ = some (.string sh) ∧ wr.cell? ⟨w.heap.size + 1, 1, none⟩ = some (.int .i64 c) ∧ wr.cell? ⟨w.heap.size + 1, 2, none⟩ = some (.int .i64 r) ∧ wr.cell? ⟨w.heap.size + 1, 3, none⟩ = some (.bool ac) ∧ wr.cell? ⟨w.heap.size + 1, 4, none⟩ = some (.bool ar)) ∧
    (wr.cell? ⟨w.heap.size, 0, none⟩ = some (.string ⟨#[]⟩) ∧ wr.cell? ⟨w.heap.size, 1, none⟩ = some (.int .i64 0) ∧ wr.cell? ⟨w.heap.size, 2, none⟩ = some (.int .i64 0) ∧ wr.cell? ⟨w.heap.size, 3, none⟩ = some (.bool false) ∧ wr.cell? ⟨w.heap.size, 4, none⟩ = some (.bool false)) := ⟨h.ref.facts, h.res.facts⟩
theorem ext_sb (s : ByteArray) (a m : Nat) : sb (s.extract a (a + m)) = ((sb s).drop a).take m := by
  unfold sb; rw [← List.map_drop, ← List.map_take]; congr 1
  rw [ByteArray.data_extract, Array.toList_extract]
  rw [List.extract_eq_take_drop]
  congr 1; omega
theorem rd_at (d : Rd) (m : Nat) (h : d.k + m < d.s.size) : d.rest[m]? = some ((d.s[d.k + m].toNat : Nat) : Int) := by
  unfold Rd.rest; rw [List.getElem?_drop, sb_at d.s _ h]
theorem take_nx (d : Rd) (s : ByteArray) (m p : Nat) (a : Int) (hs : d.s = s) (hp : d.k + m = p) (h : p < s.size) (ha : ((s[p].toNat : Nat) : Int) = a) : d.rest.take (m + 1) = d.rest.take m ++ [a] ∧ d.rest[m]? = some a := by
  subst hs; subst hp; subst ha
  exact ⟨take_next d m h, rd_at d m h⟩
theorem val_bd4 (l : List Int) (h : ∀ x ∈ l, isNum x = true) (hl : l.length ≤ 4) : 0 ≤ valL l ∧ valL l ≤ 9999 := by
  match l, hl, h with
  | [], _, _ => exact ⟨by decide, by decide⟩
  | [a], _, h =>
    have h1 := num_bd (h a (by simp))
    unfold valL; simp only [List.foldl_cons, List.foldl_nil]; omega
  | [a, b], _, h =>
    have h1 := num_bd (h a (by simp)); have h2 := num_bd (h b (by simp))
    unfold valL; simp only [List.foldl_cons, List.foldl_nil]; omega
  | [a, b, c], _, h =>
    have h1 := num_bd (h a (by simp)); have h2 := num_bd (h b (by simp)); have h3 := num_bd (h c (by simp))
    unfold valL; simp only [List.foldl_cons, List.foldl_nil]; omega
  | [a, b, c, d], _, h =>
    have h1 := num_bd (h a (by simp)); have h2 := num_bd (h b (by simp)); have h3 := num_bd (h c (by simp)); have h4 := num_bd (h d (by simp))
    unfold valL; simp only [List.foldl_cons, List.foldl_nil]; omega
theorem span_take (p : Int → Bool) (d : Rd) : ((sb d.s).drop d.k).take (d.rest.takeWhile p).length = d.rest.takeWhile p := by
  have e := take_split p d.rest
  have h : (d.rest.takeWhile p ++ d.rest.drop (d.rest.takeWhile p).length).take (d.rest.takeWhile p).length = d.rest.takeWhile p := List.take_left
  rw [e] at h; exact h
theorem ref_size : (Tryd.prog.info? 32).map (·.size) = some 5 := by kernel_rfl
/-- A reference stored whole into a block that holds one. -/
theorem wpList_store_ref {ops : Array Oper} {rest : List Oper} {op : Oper} {a : Act} {w : World} {Q : Exit → Act → World → Prop} (hgd : op.guard = none) (x y : Operand) (ho : op.op = .store 32 x y)
    (g : Nat) (s0 : ByteArray) (c0 r0 : Int) (ac0 ar0 : Bool) (s : ByteArray) (c r : Int) (ac ar : Bool) (hx : a.eval x = .pointer (some ⟨g, 0, none⟩)) (hy : a.eval y = .agg #[.string s, .int .i64 c, .int .i64 r, .bool ac, .bool ar]) (hr : RefAt w g s0 c0 r0 ac0 ar0)
    (h : ∀ w', RefAt w' g s c r ac ar → w.grownBy w' (some g) → wpList Tryd.prog ops Q rest (a.put op.dst undef) w') : wpList Tryd.prog ops Q (op :: rest) a w := by
  refine wpList_store_row hgd 32 x y ho g 32 _ _ hx hy hr rfl ref_size ?_ (h _ (setRow_heap w g _ _ _ _ hr) (grownBy.setRow' (grownBy.refl' w _) _))
  intro v hv
  simp only [List.mem_cons, List.not_mem_nil, or_false] at hv
  rcases hv with rfl | rfl | rfl | rfl | rfl <;> rfl
theorem RefAt.load {w : World} {b : Nat} {s : ByteArray} {c r : Int} {ac ar : Bool} (h : RefAt w b s c r ac ar) : (loadVar 32 ⟨b, 0, none⟩).run Tryd.prog w = .ok (.agg #[.string s, .int .i64 c, .int .i64 r, .bool ac, .bool ar]) w :=
  run_loadVar_row w b 32 32 _ _ _ h Tryd.underlying32 rfl ref_size
/-- The way out: a result out of its cell, a Bool beside it. -/
theorem out_ref {w : World} {b : Nat} {s : ByteArray} {c r : Int} {ac ar : Bool} (h : RefAt w b s c r ac ar) (fn : Func) (tmps : Array Value) (ok : Bool) (p u : Tmp) (hf : fn.results = #[.cell p 32, .tmp u]) (hp : tmps.getD p undef = .pointer (some ⟨b, 0, none⟩)) (hu : tmps.getD u undef = .bool ok) :
    (results fn tmps).run Tryd.prog w = .ok (.tuple #[.agg #[.string s, .int .i64 c, .int .i64 r, .bool ac, .bool ar], .bool ok]) w := by
  rw [results_cell_tmp hf, hp, hu]
  simp [asAddr, h.load, Result.andThen]
theorem res_ReadRef : Tryd.f35.results = #[.cell 2 32, .tmp 3] := by kernel_rfl
theorem rd_past (d : Rd) (m : Nat) (h : d.s.size ≤ d.k + m) : d.rest[m]? = none := by
  rw [List.getElem?_eq_none_iff, length_rest]; omega
theorem mark_t (d : Rd) (h : d.k < d.s.size) (h2 : ((d.s[d.k].toNat : Nat) : Int) = 36) : d.mark = true := by
  unfold Rd.mark; rw [rest_get d h, h2]; rfl
theorem mark_f (d : Rd) (h : d.k < d.s.size) (h2 : ¬ ((d.s[d.k].toNat : Nat) : Int) = 36) : d.mark = false := by
  unfold Rd.mark; rw [rest_get d h, decide_eq_false_iff_not]; intro h3; injection h3 with h3; exact h2 h3
theorem mark_ts (d : Rd) (s : ByteArray) (hs : d.s = s) (h : d.k < s.size) (h2 : ((s[d.k].toNat : Nat) : Int) = 36) : d.mark = true := by subst hs; exact mark_t d h h2
theorem mark_fs (d : Rd) (s : ByteArray) (hs : d.s = s) (h : d.k < s.size) (h2 : ¬ ((s[d.k].toNat : Nat) : Int) = 36) : d.mark = false := by subst hs; exact mark_f d h h2
theorem absColF_k (d : Rd) : d.absColF.k = d.k + (dol d.mark).length := rfl
theorem absRowF_k (d : Rd) : d.absRowF.k = d.k + (dol d.mark).length := rfl
theorem mark_e (d : Rd) (h : d.s.size ≤ d.k) : d.mark = false := by unfold Rd.mark; rw [rest_end d h]; rfl
theorem mark_es (d : Rd) (s : ByteArray) (hs : d.s = s) (h : s.size ≤ d.k) : d.mark = false := by subst hs; exact mark_e d h

set_option maxRecDepth 100000 in
set_option maxHeartbeats 1000000 in
theorem refRead_main (s : ByteArray) (w : World) (_hs : s.size ≤ 1000000) (d1 : Rd) (hs1 : d1.s = s) (hk1 : d1.k ≤ s.size) (hsheet : ∀ e, (Rd.start s).sheet = some e → e = d1) (m : Nat)
    (hd1 : (m = s.size ∧ d1.k = 0 ∧ d1.sh = ⟨#[]⟩) ∨ (m < s.size ∧ 0 < m ∧ d1.k = m + 1 ∧ d1.sh = s.extract 0 m ∧ ∀ h : m < s.size, ((s[m].toNat : Nat) : Int) = 33)) (hbytes : ∀ (k : Nat) (h : k < s.size), k < m → ¬ ((s[k].toNat : Nat) : Int) = 33) :
    Calls Tryd.prog 35 #[.string s] w fun e w' => Says (sb s) e ∧ Below w.heap.size w w' := by
  have hst : RSt w ((w.alloc (.cells #[.string ⟨#[]⟩, .int .i64 0, .int .i64 0, .bool false, .bool false] 32)).alloc (.cells #[.string ⟨#[]⟩, .int .i64 0, .int .i64 0, .bool false, .bool false] 32)) ⟨#[]⟩ 0 0 false false := by
    have h0 := RefAt.new w ⟨#[]⟩ 0 0 false false
    have hsz : (w.alloc (.cells #[.string ⟨#[]⟩, .int .i64 0, .int .i64 0, .bool false, .bool false] 32)).heap.size = w.heap.size + 1 := by simp
    have h1 := RefAt.new (w.alloc (.cells #[.string ⟨#[]⟩, .int .i64 0, .int .i64 0, .bool false, .bool false] 32)) ⟨#[]⟩ 0 0 false false
    rw [hsz] at h1
    exact ⟨h0.below ((Below.refl _ _).alloc (Nat.le_refl _) _) h0.lt, h1, ((Below.refl _ _).alloc (Nat.le_refl _) _).alloc (by rw [hsz]; omega) _⟩
  have HST := Lib.hid hst; clear hst
  have HS1 := Lib.hid hs1; clear hs1
  have HSHT := Lib.hid hsheet; clear hsheet
  have hshz : d1.sh.size ≤ 1000000 := by
    rcases hd1 with ⟨_, _, h⟩ | ⟨_, _, _, h, _⟩
    · rw [h]; exact Nat.zero_le _
    · rw [h, ByteArray.size_extract]; omega
  have HD1 := Lib.hid hd1; clear hd1
  have HBY := Lib.hid hbytes; clear hbytes
  go_enter Tryd.func35, Tryd.ntmps35
  go_upto_block 0 with (fail)
  go_cut [5] (fun at_ wx => at_ = .int .i64 (d1.k : Int) ∧ RSt w wx d1.sh 0 0 false false)
  case first =>
    go_wp2_with fail
    go_loopw [5, 6] (fun at_ i wr => ∃ k : Nat, k ≤ s.size ∧ k ≤ m ∧ at_ = .int .i64 0 ∧ i = .int .i64 k ∧ Hid (RSt w wr ⟨#[]⟩ 0 0 false false))
      (fun _ i _ => s.size - (intOf i).toNat)
    case atStart => exact ⟨0, by omega, by omega, rfl, rfl, HST⟩
    case round =>
      clear HST
      obtain ⟨k, hk, hkm, rfl, rfl, HST⟩ := hrel
      by_cases hlt : k < s.size
      · have hki : (k : Int) < (s.size : Int) := by omega
        obtain ⟨a, ha⟩ : ∃ a : Int, (s[k].toNat : Int) = a := ⟨_, rfl⟩
        by_cases hm : k < m
        · have ha33 : (a == 33) = false := beq_eq_false_iff_ne.2 (by rw [← ha]; exact HBY.out k hlt hm)
          go_wp2_with fail
          go_roundw
          case rel => exact ⟨k + 1, by omega, by omega, rfl, by go_num, HST⟩
          case measure => simp [intOf]; omega
        · obtain rfl : k = m := by omega
          have hd := HD1.out.resolve_left (by omega)
          have ha33 : (a == 33) = true := beq_iff_eq.2 (by rw [← ha]; exact hd.2.2.2.2 hlt)
          have hk0 : ((k : Int) == 0) = false := beq_eq_false_iff_ne.2 (by have := hd.2.1; omega)
          have hk00 : (0 : Int) ≤ (k : Int) := by omega
          have HDD := Lib.hid hd; clear hd
          obtain ⟨x0, x1, x2, x3, x4⟩ := HST.out.ref.facts
          clear x1 x2 x3 x4
          have z0 := (HST.out.ref.frozen 0)
          go_wp2_with fail
          go_meet
          case rel => exact ⟨by rw [HDD.out.2.2.1]; rfl, by rw [HDD.out.2.2.2.1]; exact RSt.set 0 HST.out (.string (s.extract 0 k)) _ 0 0 false false rfl⟩
      · have hki : ¬ (k : Int) < (s.size : Int) := by omega
        have hd := HD1.out.resolve_right (by omega)
        have HDD := Lib.hid hd; clear hd
        go_wp2_with fail
        go_meet
        case rel => exact ⟨by rw [HDD.out.2.1]; rfl, by rw [HDD.out.2.2]; exact HST.out⟩
  case rest =>
    obtain ⟨rfl, hst2⟩ := hcut
    clear HST
    have HST := Lib.hid hst2; clear hst2
    go_upto_region 11 with (fail)
    go_cut [40] (fun t wx => t = .bool d1.mark ∧ RSt w wx d1.sh 0 0 false false)
    case first =>
      by_cases hlt : d1.k < s.size
      · have hki : (d1.k : Int) < (s.size : Int) := by omega
        obtain ⟨a, ha⟩ : ∃ a : Int, (s[d1.k].toNat : Int) = a := ⟨_, rfl⟩
        by_cases h36 : a = 36
        · have hj : (a == 36) = true := beq_iff_eq.2 h36
          have hmk : d1.mark = true := mark_ts d1 s HS1.out hlt (by rw [ha, h36])
          have HMK := Lib.hid hmk; clear hmk h36
          go_wp2_with fail
          go_meet
          case rel => exact ⟨by rw [HMK.out], HST.out⟩
        · have hj : (a == 36) = false := beq_eq_false_iff_ne.2 h36
          have hmk : d1.mark = false := mark_fs d1 s HS1.out hlt (by rw [ha]; exact h36)
          have HMK := Lib.hid hmk; clear hmk h36
          go_wp2_with fail
          go_meet
          case rel => exact ⟨by rw [HMK.out], HST.out⟩
      · have hki : ¬ (d1.k : Int) < (s.size : Int) := by omega
        have hmk : d1.mark = false := mark_es d1 s HS1.out (by omega)
        have HMK := Lib.hid hmk; clear hmk
        go_wp2_with fail
        go_meet
        case rel => exact ⟨by rw [HMK.out], HST.out⟩
    case rest =>
      obtain ⟨rfl, hst2⟩ := hcut
      clear HST
      have HST := Lib.hid hst2; clear hst2
      go_upto_if 40 with (fail)
      go_cut [5] (fun k wx => k = .int .i64 (d1.absColF.k : Int) ∧ RSt w wx d1.sh 0 0 d1.mark false)
      case first =>
        obtain ⟨x0, x1, x2, x3, x4⟩ := HST.out.ref.facts
        have z0 := (HST.out.ref.frozen 0); have z1 := (HST.out.ref.frozen 1); have z2 := (HST.out.ref.frozen 2); have z3 := (HST.out.ref.frozen 3); have z4 := (HST.out.ref.frozen 4)
        cases hm : d1.mark with
        | true =>
          have HMK := Lib.hid hm; clear hm
          go_wp2_with fail
          go_meet
          case rel => exact ⟨by rw [show d1.absColF.k = d1.k + 1 from by rw [absColF_k, HMK.out]; rfl]; rfl, (by first | (rw [HMK.out]; exact RSt.set 3 HST.out (.bool true) d1.sh 0 0 true false rfl) | exact RSt.set 3 HST.out (.bool true) d1.sh 0 0 true false rfl)⟩
        | false =>
          have HMK := Lib.hid hm; clear hm
          go_wp2_with fail
          go_meet
          case rel => exact ⟨by rw [show d1.absColF.k = d1.k from by rw [absColF_k, HMK.out]; rfl], (by first | (rw [HMK.out]; exact HST.out) | exact HST.out)⟩
      case rest =>
        obtain ⟨rfl, hst2⟩ := hcut
        clear HST
        have HST := Lib.hid hst2; clear hst2
        obtain ⟨d2, hd2⟩ : ∃ d : Rd, d1.absColF = d := ⟨_, rfl⟩
        rw [hd2]
        have hs2 : d2.s = s := by rw [← hd2]; exact HS1.out
        have hk2 : d2.k ≤ s.size := by rw [← hd2, absColF_k, ← HS1.out]; exact mark_le d1 (by rw [HS1.out]; exact hk1)
        obtain ⟨d3, hd3⟩ : ∃ d : Rd, d2.colF = d := ⟨_, rfl⟩
        have hk3 : d3.k = d2.k + (d2.rest.takeWhile isCap).length := by rw [← hd3]; rfl
        have hle3 : d3.k ≤ s.size := by rw [hk3, ← hs2]; exact span_le isCap d2 (by rw [hs2]; exact hk2)
        have hs3 : d3.s = s := by rw [← hd3]; exact hs2
        have hc3 : readColL (d2.rest.takeWhile isCap) = d3.c := by rw [← hd3]; rfl
        obtain ⟨ok3, hok3⟩ : ∃ b : Bool, isCol (d2.rest.takeWhile isCap) = b := ⟨_, rfl⟩
        have hspan : sb (s.extract d2.k d3.k) = d2.rest.takeWhile isCap := by
          rw [hk3, ext_sb, ← hs2]; exact span_take isCap d2
        have hesz : (s.extract d2.k d3.k).size ≤ 1000000 := by rw [ByteArray.size_extract]; omega
        have hkp : (d2.k : Int) ≤ (d3.k : Int) := by omega
        have hps : (d3.k : Int) ≤ (s.size : Int) := by omega
        have HD2 := Lib.hid hd2; clear hd2
        have HS2 := Lib.hid hs2; clear hs2
        have HD3 := Lib.hid hd3; clear hd3
        have HS3 := Lib.hid hs3; clear hs3
        have HC3 := Lib.hid hc3; clear hc3
        have HK3 := Lib.hid hk3; clear hk3
        have HOK3 := Lib.hid hok3; clear hok3
        have HSPAN := Lib.hid hspan; clear hspan
        go_upto_block 2 with (fail)
        go_cut [7] (fun t wx => t = .int .i64 (d3.k : Int) ∧ RSt w wx d1.sh 0 0 d1.mark false)
        case first =>
          go_wp2_with fail
          go_loopw [7] (fun t wr => ∃ m : Nat, d2.k + m ≤ s.size ∧ t = .int .i64 ((d2.k + m : Nat) : Int) ∧ Hid (∀ x ∈ d2.rest.take m, isCap x = true) ∧ Hid (RSt w wr d1.sh 0 0 d1.mark false))
            (fun t _ => s.size - (intOf t).toNat)
          case atStart => exact ⟨0, by omega, rfl, Lib.hid (by simp), HST⟩
          case round =>
            clear HST
            obtain ⟨m, hm, rfl, HALL, HST⟩ := hrel
            obtain ⟨p, hp⟩ : ∃ p : Nat, d2.k + m = p := ⟨_, rfl⟩
            rw [hp]
            have HP := Lib.hid hp
            have hp2 : p ≤ s.size := by omega
            clear hp
            by_cases hlt : p < s.size
            · have hki : (p : Int) < (s.size : Int) := by omega
              obtain ⟨a, ha⟩ : ∃ a : Int, (s[p].toNat : Int) = a := ⟨_, rfl⟩
              have ha1 : 0 ≤ a ∧ a ≤ 255 := by have := s[p].toNat_lt; omega
              have hnx := take_nx d2 s m p a HS2.out HP.out hlt ha
              have HNX := Lib.hid hnx; clear hnx
              by_cases hc : isCap a = true
              · go_wp2_with (go_at_call 43; ((with_reducible refine (refCapital_any _ ?_ ?_ _).mono ?_); (first | omega | skip); (first | omega | skip); rintro e w' ⟨rfl, rfl⟩))
                go_roundw
                case rel => exact ⟨m + 1, by have := HP.out; omega, by rw [show d2.k + (m + 1) = p + 1 from by have := HP.out; omega]; rfl, Lib.hid (by rw [HNX.out.1]; exact all_snoc HALL.out hc), HST⟩
                case measure => simp [intOf]; omega
              · have hc' : isCap a = false := by simpa using hc
                clear hc
                have hsp := span_stop isCap d2.rest m HALL.out (fun x hx => by rw [HNX.out.2] at hx; injection hx with hx; rw [← hx]; exact hc')
                have hpk : p = d3.k := by rw [HK3.out, hsp, List.length_take, length_rest, HS2.out]; have := HP.out; omega
                have HPK := Lib.hid hpk; clear hpk hsp
                go_wp2_with (go_at_call 43; ((with_reducible refine (refCapital_any _ ?_ ?_ _).mono ?_); (first | omega | skip); (first | omega | skip); rintro e w' ⟨rfl, rfl⟩))
                go_meet
                case rel => exact ⟨by rw [HPK.out], HST.out⟩
            · have hki : ¬ (p : Int) < (s.size : Int) := by omega
              have hsp := span_stop isCap d2.rest m HALL.out (fun x hx => by rw [rd_past d2 m (by rw [HS2.out]; have := HP.out; omega)] at hx; cases hx)
              have hpk : p = d3.k := by rw [HK3.out, hsp, List.length_take, length_rest, HS2.out]; have := HP.out; omega
              have HPK := Lib.hid hpk; clear hpk hsp
              go_wp2_with fail
              go_meet
              case rel => exact ⟨by rw [HPK.out], HST.out⟩
        case rest =>
          obtain ⟨rfl, hst2⟩ := hcut
          clear HST
          have HST := Lib.hid hst2; clear hst2
          go_upto_region 18 with (first | (go_at_call 44; ((with_reducible refine (refReadCol_any _ _ ?_).mono ?_); (first | omega | skip); rintro e w1 ⟨rfl, n, rfl⟩; rw [HSPAN.out, HC3.out, HOK3.out]; have HST := Lib.hid (HST.out.drewN n))))
          clear hkp hps hesz
          go_upto_region 18 with (fail)
          go_cut [74] (fun t wx => t = .bool d3.mark ∧ RSt w wx d1.sh 0 0 d1.mark false)
          case first =>
            by_cases hlt : d3.k < s.size
            · have hki : (d3.k : Int) < (s.size : Int) := by omega
              obtain ⟨a, ha⟩ : ∃ a : Int, (s[d3.k].toNat : Int) = a := ⟨_, rfl⟩
              by_cases h36 : a = 36
              · have hj : (a == 36) = true := beq_iff_eq.2 h36
                have hmk : d3.mark = true := mark_ts d3 s HS3.out hlt (by rw [ha, h36])
                have HMK := Lib.hid hmk; clear hmk h36
                go_wp2_with fail
                go_meet
                case rel => exact ⟨by rw [HMK.out], HST.out⟩
              · have hj : (a == 36) = false := beq_eq_false_iff_ne.2 h36
                have hmk : d3.mark = false := mark_fs d3 s HS3.out hlt (by rw [ha]; exact h36)
                have HMK := Lib.hid hmk; clear hmk h36
                go_wp2_with fail
                go_meet
                case rel => exact ⟨by rw [HMK.out], HST.out⟩
            · have hki : ¬ (d3.k : Int) < (s.size : Int) := by omega
              have hmk : d3.mark = false := mark_es d3 s HS3.out (by omega)
              have HMK := Lib.hid hmk; clear hmk
              go_wp2_with fail
              go_meet
              case rel => exact ⟨by rw [HMK.out], HST.out⟩
          case rest =>
            obtain ⟨rfl, hst2⟩ := hcut
            clear HST
            have HST := Lib.hid hst2; clear hst2
            go_upto_if 74 with (fail)
            go_cut [7] (fun k wx => k = .int .i64 (d3.absRowF.k : Int) ∧ RSt w wx d1.sh 0 0 d1.mark d3.mark)
            case first =>
              obtain ⟨x0, x1, x2, x3, x4⟩ := HST.out.ref.facts
              have z0 := (HST.out.ref.frozen 0); have z1 := (HST.out.ref.frozen 1); have z2 := (HST.out.ref.frozen 2); have z3 := (HST.out.ref.frozen 3); have z4 := (HST.out.ref.frozen 4)
              cases hm : d3.mark with
              | true =>
                have HMK := Lib.hid hm; clear hm
                go_wp2_with fail
                go_meet
                case rel => exact ⟨by rw [show d3.absRowF.k = d3.k + 1 from by rw [absRowF_k, HMK.out]; rfl]; rfl, (by first | (rw [HMK.out]; exact RSt.set 4 HST.out (.bool true) d1.sh 0 0 d1.mark true rfl) | exact RSt.set 4 HST.out (.bool true) d1.sh 0 0 d1.mark true rfl)⟩
              | false =>
                have HMK := Lib.hid hm; clear hm
                go_wp2_with fail
                go_meet
                case rel => exact ⟨by rw [show d3.absRowF.k = d3.k from by rw [absRowF_k, HMK.out]; rfl], (by first | (rw [HMK.out]; exact HST.out) | exact HST.out)⟩
            case rest =>
              obtain ⟨rfl, hst2⟩ := hcut
              clear HST
              have HST := Lib.hid hst2; clear hst2
              obtain ⟨d4, hd4⟩ : ∃ d : Rd, d3.absRowF = d := ⟨_, rfl⟩
              rw [hd4]
              have hs4 : d4.s = s := by rw [← hd4]; exact HS3.out
              have hk4 : d4.k ≤ s.size := by rw [← hd4, absRowF_k, ← HS3.out]; exact mark_le d3 (by rw [HS3.out]; exact hle3)
              have hat4 : d1.at4 = d4 := by unfold Rd.at4; rw [HD2.out, HD3.out, hd4]
              have hcand : ∀ d, readS s = some d → ok3 = true ∧ (∀ x ∈ d4.rest, isNum x = true) ∧ d4.rest.length ≤ 3 ∧ d.sh = d1.sh ∧ d.c = d3.c ∧ d.ac = d1.mark ∧ d.ar = d3.mark ∧ d.r = valL d4.rest - 1 := by
                intro d hd
                obtain ⟨g1, g2, g3, g4, g5, g6, g7, g8⟩ := cand_of s d1 d HSHT.out HS1.out hd
                rw [hat4] at g2 g3 g8
                rw [HD2.out, HOK3.out] at g1
                have g5' : d.c = d1.absColF.colF.c := g5
                have g7' : d.ar = d1.absColF.colF.mark := g7
                rw [HD2.out, HD3.out] at g5' g7'
                exact ⟨g1, g2, g3, g4, g5', g6, g7', g8⟩
              have HS4 := Lib.hid hs4; clear hs4
              have HCAND := Lib.hid hcand; clear hcand hat4 hd4
              obtain ⟨v4, hv4⟩ : ∃ v, valL (d4.rest.take 4) = v := ⟨_, rfl⟩
              by_cases hall : ∀ x ∈ d4.rest.take 4, isNum x = true
              · have hvb := val_bd4 (d4.rest.take 4) hall (by rw [List.length_take]; omega)
                rw [hv4] at hvb
                have HALL := Lib.hid hall; clear hall
                have HV4 := Lib.hid hv4; clear hv4
                go_upto_block 4 with (fail)
                go_cut [10] (fun rr wx => rr = .int .i64 v4 ∧ RSt w wx d1.sh 0 0 d1.mark d3.mark)
                case first =>
                  go_wp2_with fail
                  go_loopw [10, 11] (fun rr t wr => ∃ (j : Nat) (v : Int), j ≤ 4 ∧ d4.k + j ≤ s.size ∧ rr = .int .i64 v ∧ t = .int .i64 ((d4.k + j : Nat) : Int) ∧ Hid (valL (d4.rest.take j) = v) ∧ Hid (RSt w wr d1.sh 0 0 d1.mark d3.mark))
                    (fun _ t _ => s.size - (intOf t).toNat)
                  case atStart => exact ⟨0, 0, by omega, by omega, rfl, rfl, Lib.hid rfl, HST⟩
                  case round =>
                    clear HST
                    obtain ⟨j, v, hj4, hjk, rfl, rfl, HV, HST⟩ := hrel
                    obtain ⟨p, hp⟩ : ∃ p : Nat, d4.k + j = p := ⟨_, rfl⟩
                    rw [hp]
                    have hp2 : p ≤ s.size := by omega
                    by_cases hlt : p < s.size ∧ j < 4
                    · obtain ⟨hlt, hj⟩ := hlt
                      have hki : (p : Int) < (s.size : Int) := by omega
                      have hji : (p : Int) < (d4.k : Int) + 4 := by omega
                      obtain ⟨a, ha⟩ : ∃ a : Int, (s[p].toNat : Int) = a := ⟨_, rfl⟩
                      have ha1 : 0 ≤ a ∧ a ≤ 255 := by have := s[p].toNat_lt; omega
                      have hnx := take_nx d4 s j p a HS4.out hp hlt ha
                      have hc : isNum a = true := HALL.out a (by
                        have h1 : a ∈ d4.rest.take (j + 1) := by rw [hnx.1]; simp
                        exact List.mem_of_mem_take (i := j + 1) (by rw [List.take_take]; rw [Nat.min_eq_left (by omega)]; exact h1))
                      have hab := num_bd hc
                      have hvb2 := val_bd4 (d4.rest.take j) (fun x hx => HALL.out x (List.mem_of_mem_take (i := j) (by rw [List.take_take, Nat.min_eq_left (by omega)]; exact hx))) (by rw [List.length_take]; omega)
                      rw [HV.out] at hvb2
                      have HNX := Lib.hid hnx; clear hnx
                      have HP := Lib.hid hp; clear hp
                      go_wp2_with (go_at_call 21; ((with_reducible refine (refDigit_any _ ?_ ?_ _).mono ?_); (first | omega | skip); (first | omega | skip); rintro e w' ⟨rfl, rfl⟩))
                      go_roundw
                      case rel => exact ⟨j + 1, 10 * v + (a - 48), by omega, by have := HP.out; omega, rfl, by rw [show d4.k + (j + 1) = p + 1 from by have := HP.out; omega]; rfl, Lib.hid (by rw [HNX.out.1, valL_snoc, HV.out]), HST⟩
                      case measure => simp [intOf]; omega
                    · have hve : v4 = v := by
                        rw [← HV.out, ← HV4.out]
                        by_cases hj : j = 4
                        · rw [hj]
                        · have hl : d4.rest.length ≤ j := by rw [length_rest, HS4.out]; omega
                          rw [List.take_of_length_le hl, List.take_of_length_le (by omega)]
                      have HVE := Lib.hid hve; clear hve
                      by_cases hps : p < s.size
                      · have hki : (p : Int) < (s.size : Int) := by omega
                        have hji : ¬ (p : Int) < (d4.k : Int) + 4 := by omega
                        have HP := Lib.hid hp; clear hp hlt
                        go_wp2_with fail
                        go_meet
                        case rel => exact ⟨by rw [HVE.out], HST.out⟩
                      · have hki : ¬ (p : Int) < (s.size : Int) := by omega
                        have HP := Lib.hid hp; clear hp hlt
                        go_wp2_with fail
                        go_meet
                        case rel => exact ⟨by rw [HVE.out], HST.out⟩
                case rest =>
                  obtain ⟨rfl, hst2⟩ := hcut
                  clear HST
                  have HST := Lib.hid hst2; clear hst2
                  have hyes : ok3 = true → mayL (sb d1.sh) d3.c (v4 - 1) = true → strOfNums (textL (sb d1.sh) d3.c (v4 - 1) d1.mark d3.mark) = s → Says (sb s) (.returned (.tuple #[.agg #[.string d1.sh, .int .i64 d3.c, .int .i64 (v4 - 1), .bool d1.mark, .bool d3.mark], .bool true])) := by
                    intro _ h2 h3
                    refine .inl ⟨d1.sh, d3.c, v4 - 1, d1.mark, d3.mark, ?_, h2, ?_, rfl⟩
                    · rcases mayL_sheet h2 with h | h
                      · rw [← length_sb, h]; exact Nat.zero_le _
                      · rw [← length_sb]; exact (nameL_size h).2
                    · rw [← sb_str _ (bytes_textL d1.sh d3.c (v4 - 1) d1.mark d3.mark), h3]
                  have hno : ¬ (ok3 = true ∧ mayL (sb d1.sh) d3.c (v4 - 1) = true ∧ strOfNums (textL (sb d1.sh) d3.c (v4 - 1) d1.mark d3.mark) = s) → NoRef (sb s) := by
                    intro h
                    apply read_none
                    cases hq : readS s with
                    | none => rfl
                    | some d =>
                      exfalso
                      obtain ⟨g1, g2, g3, g4, g5, g6, g7, g8⟩ := HCAND.out d hq
                      obtain ⟨r1, r2, r3⟩ := read_some s d hq
                      rw [List.take_of_length_le (by omega)] at HV4
                      rw [HV4.out] at g8
                      rw [g4, g5, g8] at r2
                      rw [g4, g5, g6, g7, g8] at r3
                      exact h ⟨g1, r2, by rw [r3, str_sb]⟩
                  have HYES := Lib.hid hyes; clear hyes
                  have HNO := Lib.hid hno; clear hno
                  obtain ⟨tt, htt⟩ : ∃ t : ByteArray, strOfNums (textL (sb d1.sh) d3.c (v4 - 1) d1.mark d3.mark) = t := ⟨_, rfl⟩
                  obtain ⟨my, hmy⟩ : ∃ b : Bool, mayL (sb d1.sh) d3.c (v4 - 1) = b := ⟨_, rfl⟩
                  rw [htt, hmy] at HYES HNO
                  have HTT := Lib.hid htt; clear htt
                  have HMY := Lib.hid hmy; clear hmy
                  go_upto_region 28 with (fail)
                  obtain ⟨x0, x1, x2, x3, x4⟩ := HST.out.ref.facts
                  have z0 := (HST.out.ref.frozen 0); have z1 := (HST.out.ref.frozen 1); have z2 := (HST.out.ref.frozen 2); have z3 := (HST.out.ref.frozen 3); have z4 := (HST.out.ref.frozen 4)
                  go_upto_region 30 with (fail)
                  clear x0 x1 x2 x3 x4 z0 z1 z2 z3 z4
                  have hst3 := RSt.set 2 (RSt.set 1 HST.out (.int .i64 d3.c) d1.sh d3.c 0 d1.mark d3.mark rfl) (.int .i64 (v4 - 1)) d1.sh d3.c (v4 - 1) d1.mark d3.mark rfl
                  clear HST
                  generalize (wc.setCell ⟨w.heap.size + 1, 1, none⟩ (.int .i64 d3.c)).setCell ⟨w.heap.size + 1, 2, none⟩ (.int .i64 (v4 - 1)) = w3 at hst3 ⊢
                  have HST := Lib.hid hst3; clear hst3
                  obtain ⟨x0, x1, x2, x3, x4⟩ := HST.out.ref.facts
                  have z0 := (HST.out.ref.frozen 0); have z1 := (HST.out.ref.frozen 1); have z2 := (HST.out.ref.frozen 2); have z3 := (HST.out.ref.frozen 3); have z4 := (HST.out.ref.frozen 4)
                  cases ok3 with
                  | false =>
                    have hnr := HNO.out (by rintro ⟨h, _⟩; cases h)
                    have HNR := Lib.hid hnr; clear hnr
                    go_upto_region 31 with (fail)
                    repeat (first | go_says ((with_reducible refine wpList_store_ref (op := ⟨none, .store 32 (.tmp 2) (.tmp 123), _, _, _, _⟩) rfl (.tmp 2) (.tmp 123) rfl w.heap.size _ _ _ _ _ ⟨#[]⟩ 0 0 false false ?_ ?_ HST.out.res ?_); rfl; rfl; intro w9 h9 g9; have HR9 := Lib.hid h9; clear h9; have HG9 := Lib.hid g9; clear g9) | go_values | go_skip | go_guarded | go_step | go_upon)
                    (try simp only [Exit.inBlock, Exit.then])
                    refine bodyPost_ret (out_ref HR9.out _ _ false 2 3 res_ReadRef rfl rfl) rfl ⟨.inr ⟨HNR.out, rfl⟩, below_of_grownBy HST.out.below HG9.out HST.out.below.size (Nat.le_refl _)⟩
                  | true =>
                    cases my with
                    | false =>
                      have hnr := HNO.out (by rintro ⟨_, h, _⟩; cases h)
                      have HNR := Lib.hid hnr; clear hnr
                      go_upto_region 31 with (first | (go_at_call 16; ((with_reducible refine (refMay_any _ _ _ _ _ _ ?_).mono ?_); (first | omega | skip); rintro e w1 ⟨rfl, h1⟩; rw [HMY.out]; have HST := Lib.hid (HST.out.next h1); clear h1; clear x0 x1 x2 x3 x4 z0 z1 z2 z3 z4; obtain ⟨x0, x1, x2, x3, x4⟩ := HST.out.ref.facts; have z0 := (HST.out.ref.frozen 0); have z1 := (HST.out.ref.frozen 1); have z2 := (HST.out.ref.frozen 2); have z3 := (HST.out.ref.frozen 3); have z4 := (HST.out.ref.frozen 4))))
                      repeat (first | go_says ((with_reducible refine wpList_store_ref (op := ⟨none, .store 32 (.tmp 2) (.tmp 123), _, _, _, _⟩) rfl (.tmp 2) (.tmp 123) rfl w.heap.size _ _ _ _ _ ⟨#[]⟩ 0 0 false false ?_ ?_ HST.out.res ?_); rfl; rfl; intro w9 h9 g9; have HR9 := Lib.hid h9; clear h9; have HG9 := Lib.hid g9; clear g9) | go_values | go_skip | go_guarded | go_step | go_upon)
                      (try simp only [Exit.inBlock, Exit.then])
                      refine bodyPost_ret (out_ref HR9.out _ _ false 2 3 res_ReadRef rfl rfl) rfl ⟨.inr ⟨HNR.out, rfl⟩, below_of_grownBy HST.out.below HG9.out HST.out.below.size (Nat.le_refl _)⟩
                    | true =>
                      by_cases hts : tt = s
                      · have hys := HYES.out rfl rfl hts
                        have HYS := Lib.hid hys; clear hys
                        have htb : (s.toList == s.toList) = true := beq_self_eq_true _
                        have hTS := Lib.hid hts; clear hts
                        go_upto_region 32 with (first | (go_at_call 16; ((with_reducible refine (refMay_any _ _ _ _ _ _ ?_).mono ?_); (first | omega | skip); rintro e w1 ⟨rfl, h1⟩; rw [HMY.out]; have HST := Lib.hid (HST.out.next h1); clear h1; clear x0 x1 x2 x3 x4 z0 z1 z2 z3 z4; obtain ⟨x0, x1, x2, x3, x4⟩ := HST.out.ref.facts; have z0 := (HST.out.ref.frozen 0); have z1 := (HST.out.ref.frozen 1); have z2 := (HST.out.ref.frozen 2); have z3 := (HST.out.ref.frozen 3); have z4 := (HST.out.ref.frozen 4))) | (go_at_call 12; ((with_reducible refine (refText_any _ _ _ _ _ _ ?_).mono ?_); (first | omega | skip); rintro e w1 ⟨rfl, h1⟩; rw [HTT.out]; (try rw [hTS.out]); have HST := Lib.hid (HST.out.next h1); clear h1; clear x0 x1 x2 x3 x4 z0 z1 z2 z3 z4; obtain ⟨x0, x1, x2, x3, x4⟩ := HST.out.ref.facts; have z0 := (HST.out.ref.frozen 0); have z1 := (HST.out.ref.frozen 1); have z2 := (HST.out.ref.frozen 2); have z3 := (HST.out.ref.frozen 3); have z4 := (HST.out.ref.frozen 4))))
                        repeat (first | go_says ((with_reducible refine wpList_store_ref (op := ⟨none, .store 32 (.tmp 2) (.tmp 124), _, _, _, _⟩) rfl (.tmp 2) (.tmp 124) rfl w.heap.size _ _ _ _ _ d1.sh d3.c (v4 - 1) d1.mark d3.mark ?_ ?_ HST.out.res ?_); rfl; rfl; intro w9 h9 g9; have HR9 := Lib.hid h9; clear h9; have HG9 := Lib.hid g9; clear g9) | go_values | go_skip | go_guarded | go_step | go_upon)
                        (try simp only [Exit.inBlock, Exit.then])
                        exact bodyPost_ret (out_ref HR9.out _ _ true 2 3 res_ReadRef rfl rfl) rfl ⟨HYS.out, below_of_grownBy HST.out.below HG9.out HST.out.below.size (Nat.le_refl _)⟩
                      · have hnr := HNO.out (by rintro ⟨_, _, h⟩; exact hts h)
                        have HNR := Lib.hid hnr; clear hnr
                        have htn := text_ne tt s hts
                        have htb : (tt.toList == s.toList) = false := beq_eq_false_iff_ne.2 htn
                        clear hts
                        go_upto_region 31 with (first | (go_at_call 16; ((with_reducible refine (refMay_any _ _ _ _ _ _ ?_).mono ?_); (first | omega | skip); rintro e w1 ⟨rfl, h1⟩; rw [HMY.out]; have HST := Lib.hid (HST.out.next h1); clear h1; clear x0 x1 x2 x3 x4 z0 z1 z2 z3 z4; obtain ⟨x0, x1, x2, x3, x4⟩ := HST.out.ref.facts; have z0 := (HST.out.ref.frozen 0); have z1 := (HST.out.ref.frozen 1); have z2 := (HST.out.ref.frozen 2); have z3 := (HST.out.ref.frozen 3); have z4 := (HST.out.ref.frozen 4))) | (go_at_call 12; ((with_reducible refine (refText_any _ _ _ _ _ _ ?_).mono ?_); (first | omega | skip); rintro e w1 ⟨rfl, h1⟩; rw [HTT.out]; (try rw [hTS.out]); have HST := Lib.hid (HST.out.next h1); clear h1; clear x0 x1 x2 x3 x4 z0 z1 z2 z3 z4; obtain ⟨x0, x1, x2, x3, x4⟩ := HST.out.ref.facts; have z0 := (HST.out.ref.frozen 0); have z1 := (HST.out.ref.frozen 1); have z2 := (HST.out.ref.frozen 2); have z3 := (HST.out.ref.frozen 3); have z4 := (HST.out.ref.frozen 4))))
                        repeat (first | go_says ((with_reducible refine wpList_store_ref (op := ⟨none, .store 32 (.tmp 2) (.tmp 123), _, _, _, _⟩) rfl (.tmp 2) (.tmp 123) rfl w.heap.size _ _ _ _ _ ⟨#[]⟩ 0 0 false false ?_ ?_ HST.out.res ?_); rfl; rfl; intro w9 h9 g9; have HR9 := Lib.hid h9; clear h9; have HG9 := Lib.hid g9; clear g9) | go_values | go_skip | go_guarded | go_step | go_upon)
                        (try simp only [Exit.inBlock, Exit.then])
                        refine bodyPost_ret (out_ref HR9.out _ _ false 2 3 res_ReadRef rfl rfl) rfl ⟨.inr ⟨HNR.out, rfl⟩, below_of_grownBy HST.out.below HG9.out HST.out.below.size (Nat.le_refl _)⟩
              · have hall2 := hall
                clear hall
                have HALL := Lib.hid hall2; clear hall2
                go_wp2_with fail
                go_loopw [10, 11] (fun rr t wr => ∃ (j : Nat) (v : Int), j ≤ 4 ∧ d4.k + j ≤ s.size ∧ rr = .int .i64 v ∧ t = .int .i64 ((d4.k + j : Nat) : Int) ∧ Hid (valL (d4.rest.take j) = v ∧ (∀ x ∈ d4.rest.take j, isNum x = true)) ∧ Hid (RSt w wr d1.sh 0 0 d1.mark d3.mark))
                  (fun _ t _ => s.size - (intOf t).toNat)
                case atStart => exact ⟨0, 0, by omega, by omega, rfl, rfl, Lib.hid ⟨rfl, by simp⟩, HST⟩
                case round =>
                  clear HST
                  obtain ⟨j, v, hj4, hjk, rfl, rfl, HV, HST⟩ := hrel
                  obtain ⟨p, hp⟩ : ∃ p : Nat, d4.k + j = p := ⟨_, rfl⟩
                  rw [hp]
                  have hp2 : p ≤ s.size := by omega
                  have hj : j < 4 ∧ p < s.size := by
                    refine Decidable.byContradiction fun hn => HALL.out ?_
                    have he : d4.rest.take 4 = d4.rest.take j := by
                      by_cases hj : j = 4
                      · rw [hj]
                      · have hl : d4.rest.length ≤ j := by rw [length_rest, HS4.out]; omega
                        rw [List.take_of_length_le hl, List.take_of_length_le (by omega)]
                    rw [he]; exact HV.out.2
                  obtain ⟨hj, hlt⟩ := hj
                  have hvb := val_bd4 (d4.rest.take j) HV.out.2 (by rw [List.length_take]; omega)
                  rw [HV.out.1] at hvb
                  have hki : (p : Int) < (s.size : Int) := by omega
                  have hji : (p : Int) < (d4.k : Int) + 4 := by omega
                  obtain ⟨a, ha⟩ : ∃ a : Int, (s[p].toNat : Int) = a := ⟨_, rfl⟩
                  have ha1 : 0 ≤ a ∧ a ≤ 255 := by have := s[p].toNat_lt; omega
                  have hnx := take_nx d4 s j p a HS4.out hp hlt ha
                  have HNX := Lib.hid hnx; clear hnx
                  have HP := Lib.hid hp; clear hp
                  by_cases hc : isNum a = true
                  · have hab := num_bd hc
                    go_wp2_with (go_at_call 21; ((with_reducible refine (refDigit_any _ ?_ ?_ _).mono ?_); (first | omega | skip); (first | omega | skip); rintro e w' ⟨rfl, rfl⟩))
                    go_roundw
                    case rel => exact ⟨j + 1, 10 * v + (a - 48), by omega, by have := HP.out; omega, rfl, by rw [show d4.k + (j + 1) = p + 1 from by have := HP.out; omega]; rfl, Lib.hid ⟨by rw [HNX.out.1, valL_snoc, HV.out.1], by rw [HNX.out.1]; exact all_snoc HV.out.2 hc⟩, HST⟩
                    case measure => simp [intOf]; omega
                  · have hc' : isNum a = false := by simpa using hc
                    clear hc
                    have hno : readS s = none := by
                      cases hq : readS s with
                      | none => rfl
                      | some d =>
                        have h1 := (HCAND.out d hq).2.1 a (List.mem_of_getElem? HNX.out.2)
                        rw [hc'] at h1; cases h1
                    have hnr := read_none s hno
                    have HNR := Lib.hid hnr; clear hnr hno
                    go_upto_region 26 with (first | (go_at_call 21; ((with_reducible refine (refDigit_any _ ?_ ?_ _).mono ?_); (first | omega | skip); (first | omega | skip); rintro e w' ⟨rfl, rfl⟩)))
                    repeat (first | go_says ((with_reducible refine wpList_store_ref (op := ⟨none, .store 32 (.tmp 2) (.tmp 96), _, _, _, _⟩) rfl (.tmp 2) (.tmp 96) rfl w.heap.size _ _ _ _ _ ⟨#[]⟩ 0 0 false false ?_ ?_ HST.out.res ?_); rfl; rfl; intro w9 h9 g9; have HR9 := Lib.hid h9; clear h9; have HG9 := Lib.hid g9; clear g9) | go_values | go_skip | go_guarded | go_step | go_upon)
                    (try simp only [Exit.inBlock, Exit.then])
                    refine bodyPost_ret (out_ref HR9.out _ _ false 2 3 res_ReadRef rfl rfl) rfl ⟨.inr ⟨HNR.out, rfl⟩, below_of_grownBy HST.out.below HG9.out HST.out.below.size (Nat.le_refl _)⟩

end Go.Proofs.YtdapnipodnhpkaaDoor
