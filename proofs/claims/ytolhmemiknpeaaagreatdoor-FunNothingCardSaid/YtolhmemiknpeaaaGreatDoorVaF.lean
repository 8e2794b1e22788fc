/-
  Layer 7, the program: texts joined; Two, Neg.
-/
import Derived.Test.YtolhmemiknpeaaaGreatDoorVaE
namespace Go.Proofs.YtolhmemiknpeaaaGreatDoor
open Go.RowKit

theorem res_pjoin : Tryz.f68.results = #[.cell 2 28] := by kernel_rfl
set_option maxRecDepth 100000 in
set_option maxHeartbeats 1600000 in
theorem join_long (a b : Vl) (ha : VOk a) (hb : VOk b) (hl : 200 < (textV a).size + (textV b).size) (hs : (textV a).size + (textV b).size ≤ 9000000000000000000) (w : World) (ht : Tab w) (he : EtV w) : Calls Tryz.prog 68 #[.agg #[.int .i64 a.k, .int .i64 a.n, .string a.s, .int .i64 b.k, .int .i64 b.n, .string b.s]] w fun e w' => e = .returned (.agg #[.int .i64 (joinV a b).k, .int .i64 (joinV a b).n, .string (joinV a b).s]) ∧ Below w.heap.size w w' := by
  have hv : joinV a b = Vl.err 1 := by unfold joinV; rw [if_pos hl]
  have hc := fun (w : World) => fault_any 1 w
  rw [hv]
  generalize Vl.err 1 = v at hc ⊢
  have h1 := fun (w : World) (ht : Tab w) (he : EtV w) => textV_any a ha w ht he
  have h2 := fun (w : World) (ht : Tab w) (he : EtV w) => textV_any b hb w ht he
  have hsz : (textV a ++ textV b).size = (textV a).size + (textV b).size := ByteArray.size_append
  generalize textV a = s at hl hs h1 hsz hc
  generalize textV b = t at hl hs h2 hsz hc
  have hl2 : (200 : Int) < ((s ++ t).size : Int) := by rw [hsz]; omega
  have hl3 : (200 : Int) < ((s.size : Int) + (t.size : Int)) := by omega
  have hns : ¬ 9223372036854775807 < s.size + t.size := by omega
  have HC := Lib.hid hc
  have HT := Lib.hid ht; have HE := Lib.hid he
  clear hc hv hs ha hb ht he hl
  obtain ⟨k1, k2, k3⟩ := pr_open w a b
  have HP := Lib.hid k1; have HZ := Lib.hid k2; have HB := Lib.hid k3
  clear k1 k2 k3
  go_enter Tryz.func68, Tryz.ntmps68
  go_upto_region 1 with (fail)
  generalize hz : w.heap.size = q at HP HZ ⊢
  generalize ((w.alloc (.cells #[.int .i64 a.k, .int .i64 a.n, .string a.s, .int .i64 b.k, .int .i64 b.n, .string b.s] 87)).alloc (.cells #[.int .i64 0, .int .i64 0, .string ⟨#[]⟩] 28)) = w1 at HP HZ HB ⊢
  have HLE := Lib.hid (show w.heap.size ≤ q + 1 by omega)
  obtain ⟨c0, c1, c2, c3, c4, c5⟩ := HP.out.cells
  clear hz
  have H1 := Lib.hid (fun (wr : World) (hr : Below w1.heap.size w1 wr) => h1 wr (HT.out.below (HB.out.trans (hr.mono HB.out.size))) (HE.out.below (HB.out.trans (hr.mono HB.out.size))))
  have H2 := Lib.hid (fun (wr : World) (hr : Below w1.heap.size w1 wr) => h2 wr (HT.out.below (HB.out.trans (hr.mono HB.out.size))) (HE.out.below (HB.out.trans (hr.mono HB.out.size))))
  have HR := Lib.hid ((Below.refl w1.heap.size w1).drew)
  clear h1 h2
  go_region_held3 (fun w' => w'.cell? ⟨q, 0, none⟩ = some (.int .i64 a.k) ∧ w'.cell? ⟨q, 1, none⟩ = some (.int .i64 a.n) ∧ w'.cell? ⟨q, 2, none⟩ = some (.string a.s) ∧ w'.cell? ⟨q, 3, none⟩ = some (.int .i64 b.k) ∧ w'.cell? ⟨q, 4, none⟩ = some (.int .i64 b.n) ∧ w'.cell? ⟨q, 5, none⟩ = some (.string b.s)) (go_keep) (first | (go_at_call 46; ((with_reducible refine (H1.out _ HR.out).mono ?_); rintro e w2 ⟨rfl, hb⟩; have HR2 := Lib.hid (HR.out.trans (hb.mono HR.out.size)); obtain ⟨d0, d1, d2, d3, d4, d5⟩ := (HP.out.over HR2.out).cells; have HZ2 := Lib.hid (HZ.out.over HR2.out); clear hb)) | (go_at_call 46; ((with_reducible refine (H2.out _ HR2.out).mono ?_); rintro e w3 ⟨rfl, hb⟩; have HR3 := Lib.hid (HR2.out.trans (hb.mono HR2.out.size)); obtain ⟨g0, g1, g2, g3, g4, g5⟩ := (HP.out.over HR3.out).cells; have HZ3 := Lib.hid (HZ.out.over HR3.out); clear hb)))
  have HB3 := Lib.hid (HB.out.trans (HR3.out.mono HB.out.size))
  obtain ⟨m0, m1, m2⟩ := HZ3.out.melts
  obtain ⟨u0, u1, u2⟩ := HZ3.out.cells
  go_wp2_with (go_at_call 55; ((with_reducible refine (HC.out _).mono ?_); rintro e w4 ⟨rfl, hb⟩; have HZ4 := Lib.hid (HZ3.out.over hb); obtain ⟨m0, m1, m2⟩ := HZ4.out.melts; obtain ⟨u0, u1, u2⟩ := HZ4.out.cells; have HB4 := Lib.hid (HB3.out.trans (hb.mono HB3.out.size)); clear hb))
  exact bodyPost_ret (out_vl (HZ4.out.put3 v) _ _ 2 res_pjoin rfl) rfl ⟨rfl, belowV3 HB4.out HLE.out v⟩
set_option maxRecDepth 100000 in
set_option maxHeartbeats 1600000 in
theorem join_short (a b : Vl) (ha : VOk a) (hb : VOk b) (hl : ¬ 200 < (textV a).size + (textV b).size) (w : World) (ht : Tab w) (he : EtV w) : Calls Tryz.prog 68 #[.agg #[.int .i64 a.k, .int .i64 a.n, .string a.s, .int .i64 b.k, .int .i64 b.n, .string b.s]] w fun e w' => e = .returned (.agg #[.int .i64 (joinV a b).k, .int .i64 (joinV a b).n, .string (joinV a b).s]) ∧ Below w.heap.size w w' := by
  have hv : joinV a b = Vl.text (textV a ++ textV b) := by unfold joinV; rw [if_neg hl]
  have hc := fun (w : World) => vtext_any (textV a ++ textV b) w
  rw [hv]
  generalize Vl.text (textV a ++ textV b) = v at hc ⊢
  have h1 := fun (w : World) (ht : Tab w) (he : EtV w) => textV_any a ha w ht he
  have h2 := fun (w : World) (ht : Tab w) (he : EtV w) => textV_any b hb w ht he
  have hsz : (textV a ++ textV b).size = (textV a).size + (textV b).size := ByteArray.size_append
  generalize textV a = s at hl h1 hsz hc
  generalize textV b = t at hl h2 hsz hc
  have hl2 : ¬ (200 : Int) < ((s ++ t).size : Int) := by rw [hsz]; omega
  have hl3 : ¬ (200 : Int) < ((s.size : Int) + (t.size : Int)) := by omega
  have hns : ¬ 9223372036854775807 < s.size + t.size := by omega
  have HC := Lib.hid hc
  have HT := Lib.hid ht; have HE := Lib.hid he
  clear hc hv ha hb ht he hl
  obtain ⟨k1, k2, k3⟩ := pr_open w a b
  have HP := Lib.hid k1; have HZ := Lib.hid k2; have HB := Lib.hid k3
  clear k1 k2 k3
  go_enter Tryz.func68, Tryz.ntmps68
  go_upto_region 1 with (fail)
  generalize hz : w.heap.size = q at HP HZ ⊢
  generalize ((w.alloc (.cells #[.int .i64 a.k, .int .i64 a.n, .string a.s, .int .i64 b.k, .int .i64 b.n, .string b.s] 87)).alloc (.cells #[.int .i64 0, .int .i64 0, .string ⟨#[]⟩] 28)) = w1 at HP HZ HB ⊢
  have HLE := Lib.hid (show w.heap.size ≤ q + 1 by omega)
  obtain ⟨c0, c1, c2, c3, c4, c5⟩ := HP.out.cells
  clear hz
  have H1 := Lib.hid (fun (wr : World) (hr : Below w1.heap.size w1 wr) => h1 wr (HT.out.below (HB.out.trans (hr.mono HB.out.size))) (HE.out.below (HB.out.trans (hr.mono HB.out.size))))
  have H2 := Lib.hid (fun (wr : World) (hr : Below w1.heap.size w1 wr) => h2 wr (HT.out.below (HB.out.trans (hr.mono HB.out.size))) (HE.out.below (HB.out.trans (hr.mono HB.out.size))))
  have HR := Lib.hid ((Below.refl w1.heap.size w1).drew)
  clear h1 h2
  go_region_held3 (fun w' => w'.cell? ⟨q, 0, none⟩ = some (.int .i64 a.k) ∧ w'.cell? ⟨q, 1, none⟩ = some (.int .i64 a.n) ∧ w'.cell? ⟨q, 2, none⟩ = some (.string a.s) ∧ w'.cell? ⟨q, 3, none⟩ = some (.int .i64 b.k) ∧ w'.cell? ⟨q, 4, none⟩ = some (.int .i64 b.n) ∧ w'.cell? ⟨q, 5, none⟩ = some (.string b.s)) (go_keep) (first | (go_at_call 46; ((with_reducible refine (H1.out _ HR.out).mono ?_); rintro e w2 ⟨rfl, hb⟩; have HR2 := Lib.hid (HR.out.trans (hb.mono HR.out.size)); obtain ⟨d0, d1, d2, d3, d4, d5⟩ := (HP.out.over HR2.out).cells; have HZ2 := Lib.hid (HZ.out.over HR2.out); clear hb)) | (go_at_call 46; ((with_reducible refine (H2.out _ HR2.out).mono ?_); rintro e w3 ⟨rfl, hb⟩; have HR3 := Lib.hid (HR2.out.trans (hb.mono HR2.out.size)); obtain ⟨g0, g1, g2, g3, g4, g5⟩ := (HP.out.over HR3.out).cells; have HZ3 := Lib.hid (HZ.out.over HR3.out); clear hb)))
  have HB3 := Lib.hid (HB.out.trans (HR3.out.mono HB.out.size))
  obtain ⟨m0, m1, m2⟩ := HZ3.out.melts
  obtain ⟨u0, u1, u2⟩ := HZ3.out.cells
  go_wp2_with (go_at_call 79; ((with_reducible refine (HC.out _).mono ?_); rintro e w4 ⟨rfl, hb⟩; have HZ4 := Lib.hid (HZ3.out.over hb); obtain ⟨m0, m1, m2⟩ := HZ4.out.melts; obtain ⟨u0, u1, u2⟩ := HZ4.out.cells; have HB4 := Lib.hid (HB3.out.trans (hb.mono HB3.out.size)); clear hb))
  exact bodyPost_ret (out_vl (HZ4.out.put3 v) _ _ 2 res_pjoin rfl) rfl ⟨rfl, belowV3 HB4.out HLE.out v⟩
theorem pjoin_any (a b : Vl) (ha : VOk a) (hb : VOk b) (hs : (textV a).size + (textV b).size ≤ 9000000000000000000) (w : World) (ht : Tab w) (he : EtV w) : Calls Tryz.prog 68 #[.agg #[.int .i64 a.k, .int .i64 a.n, .string a.s, .int .i64 b.k, .int .i64 b.n, .string b.s]] w fun e w' => e = .returned (.agg #[.int .i64 (joinV a b).k, .int .i64 (joinV a b).n, .string (joinV a b).s]) ∧ Below w.heap.size w w' := by
  by_cases hl : 200 < (textV a).size + (textV b).size
  · exact join_long a b ha hb hl hs w ht he
  · exact join_short a b ha hb hl w ht he
/-- The table of operators. -/
def opA : Array Value := #[.nilFunc, .nilFunc, .nilFunc, .nilFunc, .nilFunc, .nilFunc, .nilFunc, .nilFunc, .nilFunc, .func (.func 62) #[] #[], .func (.func 63) #[] #[], .func (.func 64) #[] #[], .func (.func 65) #[] #[], .func (.func 66) #[] #[], .func (.func 67) #[] #[], .func (.func 68) #[] #[], .func (.func 69) #[] #[], .func (.func 70) #[] #[], .func (.func 71) #[] #[], .func (.func 72) #[] #[]]
theorem op_size : (Tryz.prog.info? 91).map (·.size) = some opA.size := by kernel_rfl
theorem op_one : ∀ v ∈ opA.toList, v.oneCell' = true := by
  have h : opA.toList.all (fun v => v.oneCell') = true := by kernel_rfl
  exact List.all_eq_true.1 h
theorem below_setRowV {B : Nat} {a w : World} {g : Nat} (h : Below B a w) (hg : B ≤ g) (cs : Array Value) : Below B a (w.setRow g cs) :=
  ⟨h.os, h.tape, h.output, by simpa using h.size, fun j hj => by rw [Go.setRow_other w g j cs (by omega)]; exact h.block j hj⟩
set_option maxRecDepth 100000 in
set_option maxHeartbeats 1600000 in
theorem operator_in (n : Nat) (h9 : 9 ≤ n) (h20 : n < 20) (F : FuncId) (hF : opA[n]? = some (.func (.func F) #[] #[])) (w : World) : Calls Tryz.prog 54 #[.int .i64 (n : Int)] w fun e w' => e = .returned (.tuple #[.func (.func F) #[] #[], .bool true]) ∧ Below w.heap.size w w' := by
  have hi1 : (0 : Int) ≤ (n : Int) := by omega
  have hi2 : (n : Int) < 20 := by omega
  have hi3 : ¬ (n : Int) < 9 := by omega
  have hi4 : ¬ (20 : Int) ≤ (n : Int) := by omega
  have hh : (w.alloc (.cells #[.nilFunc, .nilFunc, .nilFunc, .nilFunc, .nilFunc, .nilFunc, .nilFunc, .nilFunc, .nilFunc, .nilFunc, .nilFunc, .nilFunc, .nilFunc, .nilFunc, .nilFunc, .nilFunc, .nilFunc, .nilFunc, .nilFunc, .nilFunc] 91)).heap[w.heap.size]? = some (.cells #[.nilFunc, .nilFunc, .nilFunc, .nilFunc, .nilFunc, .nilFunc, .nilFunc, .nilFunc, .nilFunc, .nilFunc, .nilFunc, .nilFunc, .nilFunc, .nilFunc, .nilFunc, .nilFunc, .nilFunc, .nilFunc, .nilFunc, .nilFunc] 91) := (Go.MapKept.heap_alloc w _).1
  have HB := Lib.hid (below_setRowV ((Below.refl w.heap.size w).alloc (Nat.le_refl _) (.cells #[.nilFunc, .nilFunc, .nilFunc, .nilFunc, .nilFunc, .nilFunc, .nilFunc, .nilFunc, .nilFunc, .nilFunc, .nilFunc, .nilFunc, .nilFunc, .nilFunc, .nilFunc, .nilFunc, .nilFunc, .nilFunc, .nilFunc, .nilFunc] 91)) (Nat.le_refl _) opA)
  have HW := Lib.hid (setRow_heap _ w.heap.size _ opA _ _ hh)
  have HH := Lib.hid hh
  have HF := Lib.hid hF
  clear hh h9 hF
  go_enter Tryz.func54, Tryz.ntmps54
  go_upto_region 2 with ((with_reducible refine wpList_store_row (op := ⟨none, .store 91 (.tmp 4) (.tmp 5), _, _, _, _⟩) rfl 91 (.tmp 4) (.tmp 5) rfl w.heap.size 91 _ opA ?_ ?_ HH.out ?_ op_size op_one ?_); rfl; rfl; rfl)
  generalize (w.alloc (.cells #[.nilFunc, .nilFunc, .nilFunc, .nilFunc, .nilFunc, .nilFunc, .nilFunc, .nilFunc, .nilFunc, .nilFunc, .nilFunc, .nilFunc, .nilFunc, .nilFunc, .nilFunc, .nilFunc, .nilFunc, .nilFunc, .nilFunc, .nilFunc] 91)).setRow w.heap.size opA = w1 at HB HW ⊢
  have hce : w1.cell? ⟨w.heap.size, n, none⟩ = some (.func (.func F) #[] #[]) := by
    rw [cell_of_row w1 w.heap.size n _ _ _ HW.out]; exact HF.out
  go_wp2_with fail
  go_ret2
  exact ⟨rfl, HB.out⟩
set_option maxRecDepth 100000 in
set_option maxHeartbeats 1600000 in
theorem operator_out (k : Int) (hk : k < 9 ∨ 20 ≤ k) (w : World) : Calls Tryz.prog 54 #[.int .i64 k] w fun e w' => e = .returned (.tuple #[.nilFunc, .bool false]) ∧ Below w.heap.size w w' := by
  have hh : (w.alloc (.cells #[.nilFunc, .nilFunc, .nilFunc, .nilFunc, .nilFunc, .nilFunc, .nilFunc, .nilFunc, .nilFunc, .nilFunc, .nilFunc, .nilFunc, .nilFunc, .nilFunc, .nilFunc, .nilFunc, .nilFunc, .nilFunc, .nilFunc, .nilFunc] 91)).heap[w.heap.size]? = some (.cells #[.nilFunc, .nilFunc, .nilFunc, .nilFunc, .nilFunc, .nilFunc, .nilFunc, .nilFunc, .nilFunc, .nilFunc, .nilFunc, .nilFunc, .nilFunc, .nilFunc, .nilFunc, .nilFunc, .nilFunc, .nilFunc, .nilFunc, .nilFunc] 91) := (Go.MapKept.heap_alloc w _).1
  have HB := Lib.hid (below_setRowV ((Below.refl w.heap.size w).alloc (Nat.le_refl _) (.cells #[.nilFunc, .nilFunc, .nilFunc, .nilFunc, .nilFunc, .nilFunc, .nilFunc, .nilFunc, .nilFunc, .nilFunc, .nilFunc, .nilFunc, .nilFunc, .nilFunc, .nilFunc, .nilFunc, .nilFunc, .nilFunc, .nilFunc, .nilFunc] 91)) (Nat.le_refl _) opA)
  have HH := Lib.hid hh
  clear hh
  by_cases h9 : k < 9
  · clear hk
    go_enter Tryz.func54, Tryz.ntmps54
    go_upto_region 2 with ((with_reducible refine wpList_store_row (op := ⟨none, .store 91 (.tmp 4) (.tmp 5), _, _, _, _⟩) rfl 91 (.tmp 4) (.tmp 5) rfl w.heap.size 91 _ opA ?_ ?_ HH.out ?_ op_size op_one ?_); rfl; rfl; rfl)
    generalize (w.alloc (.cells #[.nilFunc, .nilFunc, .nilFunc, .nilFunc, .nilFunc, .nilFunc, .nilFunc, .nilFunc, .nilFunc, .nilFunc, .nilFunc, .nilFunc, .nilFunc, .nilFunc, .nilFunc, .nilFunc, .nilFunc, .nilFunc, .nilFunc, .nilFunc] 91)).setRow w.heap.size opA = w1 at HB ⊢
    go_wp2_with fail
    go_ret2
    exact ⟨rfl, HB.out⟩
  · have h20 : (20 : Int) ≤ k := hk.resolve_left h9
    clear hk
    go_enter Tryz.func54, Tryz.ntmps54
    go_upto_region 2 with ((with_reducible refine wpList_store_row (op := ⟨none, .store 91 (.tmp 4) (.tmp 5), _, _, _, _⟩) rfl 91 (.tmp 4) (.tmp 5) rfl w.heap.size 91 _ opA ?_ ?_ HH.out ?_ op_size op_one ?_); rfl; rfl; rfl)
    generalize (w.alloc (.cells #[.nilFunc, .nilFunc, .nilFunc, .nilFunc, .nilFunc, .nilFunc, .nilFunc, .nilFunc, .nilFunc, .nilFunc, .nilFunc, .nilFunc, .nilFunc, .nilFunc, .nilFunc, .nilFunc, .nilFunc, .nilFunc, .nilFunc, .nilFunc] 91)).setRow w.heap.size opA = w1 at HB ⊢
    go_wp2_with fail
    go_ret2
    exact ⟨rfl, HB.out⟩
end Go.Proofs.YtolhmemiknpeaaaGreatDoor
