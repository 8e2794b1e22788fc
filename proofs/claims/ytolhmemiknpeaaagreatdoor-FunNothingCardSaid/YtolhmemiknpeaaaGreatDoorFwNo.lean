/-
  Layer 8, the law: a nothing among numbers changes no sum, and an unknown name answers error 5.
-/
import Derived.Test.YtolhmemiknpeaaaGreatDoorFwSumU
import Derived.Test.YtolhmemiknpeaaaGreatDoorFuJn
import Derived.Test.YtolhmemiknpeaaaGreatDoorVaT
import Derived.Test.YtolhmemiknpeaaaGreatDoorVaL
import Derived.Test.YtolhmemiknpeaaaGreatDoorDigA
import Derived.Test.YtolhmemiknpeaaaGreatDoorSwBG
import Derived.Test.YtolhmemiknpeaaaGreatDoorHeld
set_option linter.unusedSimpArgs false
namespace Go.Proofs.YtolhmemiknpeaaaGreatDoor
open Go.RowKit

theorem call_CONCAT (w : World) (v : Value) (ags : List Ag) (h : SA w w.heap.size v ags) (hz : AZ ags) (ht : Tab w) (he : EtV w) : Calls Tryz.prog 6 #[.string ⟨#[67, 79, 78, 67, 65, 84]⟩, v] w fun e w' => e = .returned (.agg #[.int .i64 (callV 1 9223372036854775807 1 false ags (joinA ags)).k, .int .i64 (callV 1 9223372036854775807 1 false ags (joinA ags)).n, .string (callV 1 9223372036854775807 1 false ags (joinA ags)).s]) ∧ Below w.heap.size w w' :=
  call_any w v ags ⟨#[67, 79, 78, 67, 65, 84]⟩ 1 9223372036854775807 1 false 28 (joinA ags) (by decide) h hz (fun c => tab_row (i := 14) rfl) (Go.Proofs.enters_of Tryz.func28 (by kernel_rfl) rfl)
    (fun _ _ W hW => fjoin_any W v ags ((h.below hW (Nat.le_refl _)).mono hW.size) hz (ht.below hW) (he.below hW))
set_option maxRecDepth 100000 in
set_option maxHeartbeats 4000000 in
theorem call_miss (w : World) (v : Value) (ags : List Ag) (nm : ByteArray) (hnm : nm.size ≤ 1000000) (h : SA w w.heap.size v ags) (hno : ∀ c, ∀ p ∈ tabF c, p.1 ≠ nm) :
    Calls Tryz.prog 6 #[.string nm, v] w fun e w' => e = .returned (.agg #[.int .i64 (Vl.err 5).k, .int .i64 (Vl.err 5).n, .string (Vl.err 5).s]) ∧ Below w.heap.size w w' := by
  have hzf := zero_fn
  obtain ⟨⟨A, cap, rfl, hat⟩, hkid⟩ := h
  obtain ⟨n, hn⟩ : ∃ n, ags.length = n := ⟨_, rfl⟩
  rw [hn]
  obtain ⟨hzv, c0, hb, hs1⟩ := zc_two w (.slice A n cap)
  have HW1 := Lib.hid hb; have HZV := Lib.hid hzv; have HNO := Lib.hid hno
  have HFN := Lib.hid (fun (W : World) => functions_any (.slice A n cap) W)
  have HF := Lib.hid (fun (W : World) => ffault_any 5 W)
  have hst := fun (W : World) (a : Addr) (m : Mode) => run_store Tryz.prog W a Value.nilFunc m rfl
  clear hb hzv hat hkid hno hn
  go_enter Tryz.func6, Tryz.ntmps6
  go_upto_region 2 with (fail)
  generalize hq : w.heap.size = q at HW1 hs1 c0 HZV ⊢
  generalize ((w.alloc (.cells #[.int .i64 0, .int .i64 0, .string ⟨#[]⟩] 28)).alloc (.cells #[.slice A n cap] 38)) = w1 at HW1 hs1 c0 HZV ⊢
  have hq1 : q < w1.heap.size := by omega
  have hqle : q ≤ w1.heap.size := by omega
  go_upto_region 3 with (first
    | (go_at_call 10; ((with_reducible refine (HFN.out _).mono ?_); rintro e w2 ⟨mb, rfl, hm, hmb, hmb2, hb⟩; have HB2 := Lib.hid hb; have hlk := hm.miss (P := Tryz.prog) Tryz.underlying44 Tryz.underlying9 (tab_size _) (hzf w2) nm (Nat.le_trans hnm (by unfold maxLen; decide)) (HNO.out _); clear hm hb)))
  have HB3 := Lib.hid (show Below w1.heap.size w1 (w2.alloc (.cells #[.int .i64 0, .int .i64 0, .int .i64 0, .bool false, .nilFunc] 42)) from HB2.out.alloc HB2.out.size _)
  generalize w2.alloc (.cells #[.int .i64 0, .int .i64 0, .int .i64 0, .bool false, .nilFunc] 42) = w3 at HB3 ⊢
  have HZ3 := Lib.hid (HZV.out.below HB3.out hq1)
  clear hlk c0
  go_wp2_with (first
    | (go_at_call 11; ((with_reducible refine (HF.out _).mono ?_); rintro e w5 ⟨rfl, hb⟩; have HB5 := Lib.hid (HB3.out.trans (hb.mono HB3.out.size)); have HZ5 := Lib.hid (HZ3.out.over hb); obtain ⟨m0, m1, m2⟩ := HZ5.out.melts; obtain ⟨u0, u1, u2⟩ := HZ5.out.cells; clear hb)))
  exact bodyPost_ret (out_vl (HZ5.out.put3 (Vl.err 5)) _ _ 4 res_Call rfl) rfl ⟨rfl, (by first | exact belowV3 (HW1.out.trans (HB5.out.mono hqle)) (Nat.le_refl q) (Vl.err 5) | (rw [hq]; exact belowV3 (HW1.out.trans (HB5.out.mono hqle)) (Nat.le_refl q) (Vl.err 5)))⟩
/-- NOPE, and more. -/
theorem nope_no (d : ByteArray) (c : Value) : ∀ p ∈ tabF c, p.1 ≠ (⟨#[78, 79, 80, 69]⟩ : ByteArray) ++ d := by
  have h : ∀ x ∈ (tabF .nilFunc).map (·.1), (sb x).take 4 ≠ [78, 79, 80, 69] := by decide +kernel
  intro p hp e
  have e2 : (tabF c).map (·.1) = (tabF .nilFunc).map (·.1) := rfl
  refine h p.1 (e2 ▸ List.mem_map.2 ⟨p, hp, rfl⟩) ?_
  rw [e]
  have : sb ((⟨#[78, 79, 80, 69]⟩ : ByteArray) ++ d) = [78, 79, 80, 69] ++ sb d := by unfold sb; rw [ByteArray.data_append, Array.toList_append, List.map_append]; rfl
  rw [this]; rfl
/-- Values with nothing put in among them. -/
def insN (vs : List Vl) (k : Nat) : List Vl := vs.take k ++ (Vl.none :: vs.drop k)
structure Like (us vs : List Vl) : Prop where
  fil : ∀ ks : List Int, ks.contains 0 = false → us.filter (fun v => ks.contains v.k) = vs.filter (fun v => ks.contains v.k)
  flt : ∀ x ∈ us, ¬ x.k = 4
  cnt : ∀ n, cntF n us = cntF n vs
  joi : ∀ s : ByteArray, s.size ≤ 200 → joinF s us = joinF s vs
theorem Like.refl (vs : List Vl) (h : ∀ x ∈ vs, ¬ x.k = 4) : Like vs vs := ⟨fun _ _ => rfl, h, fun _ => rfl, fun _ _ => rfl⟩
theorem joinF_ins : ∀ (a b : List Vl) (s : ByteArray), s.size ≤ 200 → joinF s (a ++ Vl.none :: b) = joinF s (a ++ b)
  | [], b, s, hs => by
    have e : textV Vl.none = ⟨#[]⟩ := rfl
    have e2 : s ++ (⟨#[]⟩ : ByteArray) = s := ByteArray.append_empty
    rw [List.nil_append, List.nil_append, joinF_cons, e, e2, if_neg (by show ¬ 200 < s.size + 0; omega)]
  | x :: a, b, s, hs => by
    rw [List.cons_append, List.cons_append, joinF_cons, joinF_cons]
    by_cases h : 200 < s.size + (textV x).size
    · rw [if_pos h, if_pos h]
    · rw [if_neg h, if_neg h]
      exact joinF_ins a b _ (by rw [ByteArray.size_append]; omega)
theorem Like.ins (vs : List Vl) (k : Nat) (h : ∀ x ∈ vs, ¬ x.k = 4) : Like (insN vs k) vs := by
  refine ⟨fun ks hk => ?_, fun x hx => ?_, fun n => ?_, fun s hs => ?_⟩
  · unfold insN
    have e : (Vl.none :: vs.drop k).filter (fun v => ks.contains v.k) = (vs.drop k).filter (fun v => ks.contains v.k) := by
      rw [List.filter_cons]
      have : ks.contains Vl.none.k = false := hk
      simp only [this, Bool.false_eq_true, if_false]
    rw [List.filter_append, e, ← List.filter_append, List.take_append_drop]
  · unfold insN at hx
    rcases List.mem_append.1 hx with hx | hx
    · exact h x (List.mem_of_mem_take hx)
    · rcases List.mem_cons.1 hx with rfl | hx
      · show ¬ (0 : Int) = 4; decide
      · exact h x (List.mem_of_mem_drop hx)
  · unfold insN
    have e : cntF (cntF n (vs.take k)) (Vl.none :: vs.drop k) = cntF (cntF n (vs.take k)) (vs.drop k) := rfl
    rw [cntF_app, e, ← cntF_app, List.take_append_drop]
  · unfold insN
    rw [joinF_ins _ _ s hs, List.take_append_drop]
theorem pas2_like {us vs : List Vl} (h : Like us vs) (ks : List Int) (hk : ks.contains 0 = false) (u : Value) : pas2 ks [] [agRange us u] = some (vs.filter (fun v => ks.contains v.k)) := by
  show (match pas1 ks true [] us with | none => none | some l => pas2 ks l []) = _
  rw [pas1_range ks us []]
  show some ([] ++ us.filter _) = _
  rw [List.nil_append, h.fil ks hk]
theorem vals_range (us : List Vl) (u : Value) : valsA [agRange us u] = us := by show [agRange us u].flatMap (·.vs) = us; rw [List.flatMap_singleton]; rfl
theorem like_call {us vs : List Vl} (h : Like us vs) (u : Value) (sees : Bool) (r : Vl) : callV 1 9223372036854775807 1 sees [agRange us u] r = r :=
  callV_ok (suit_many _ (by show (1 : Nat) ≤ 1; decide) (by show (1 : Nat) ≤ _; decide)) (faultA_none _ (fun a ha x hx => by
    obtain rfl := List.mem_singleton.1 ha
    exact h.flt x hx))
/-- What the seven functions tell of a range. -/
def sevenV (j : Nat) (vs : List Vl) : Vl :=
  match j with
  | 0 => sumA [agRange vs .nilFunc]
  | 1 => minA [agRange vs .nilFunc]
  | 2 => maxA [agRange vs .nilFunc]
  | 3 => Vl.num (cntF 0 vs)
  | 4 => allA [agRange vs .nilFunc]
  | 5 => anyA [agRange vs .nilFunc]
  | _ => joinA [agRange vs .nilFunc]
def sevenN : List ByteArray := [⟨#[83, 85, 77]⟩, ⟨#[77, 73, 78]⟩, ⟨#[77, 65, 88]⟩, ⟨#[67, 79, 85, 78, 84]⟩, ⟨#[65, 78, 68]⟩, ⟨#[79, 82]⟩, ⟨#[67, 79, 78, 67, 65, 84]⟩]
theorem seven_call (j : Nat) (hj : j < 7) (us vs : List Vl) (h : Like us vs) (hv : ∀ x ∈ vs, ¬ x.k = 4) (u c : Value) (W : World) (hs : SA W W.heap.size c [agRange us u]) (hz : AZ [agRange us u]) (ht : Tab W) (he : EtV W) :
    Calls Tryz.prog 6 #[.string (sevenN.getD j ⟨#[]⟩), c] W fun e w' => e = .returned (.agg #[.int .i64 (sevenV j vs).k, .int .i64 (sevenV j vs).n, .string (sevenV j vs).s]) ∧ Below W.heap.size W w' := by
  have hp1 : ∀ ks : List Int, ks.contains 0 = false → pas2 ks [] [agRange us u] = pas2 ks [] [agRange vs .nilFunc] := fun ks hk => (pas2_like h ks hk u).trans (pas2_like (Like.refl vs hv) ks hk _).symm
  match j, hj with
  | 0, _ =>
    have e : callV 1 9223372036854775807 1 false [agRange us u] (sumA [agRange us u]) = sevenV 0 vs := (like_call h u false _).trans (by show sumA _ = sumA _; unfold sumA numsA; rw [hp1 [1] rfl])
    exact e ▸ call_SUM W c _ hs hz ht he
  | 1, _ =>
    have e : callV 1 9223372036854775807 1 false [agRange us u] (minA [agRange us u]) = sevenV 1 vs := (like_call h u false _).trans (by show minA _ = minA _; unfold minA numsA; rw [hp1 [1] rfl])
    exact e ▸ call_MIN W c _ hs hz
  | 2, _ =>
    have e : callV 1 9223372036854775807 1 false [agRange us u] (maxA [agRange us u]) = sevenV 2 vs := (like_call h u false _).trans (by show maxA _ = maxA _; unfold maxA numsA; rw [hp1 [1] rfl])
    exact e ▸ call_MAX W c _ hs hz
  | 3, _ =>
    have e : callV 1 9223372036854775807 1 true [agRange us u] (Vl.num (cntF 0 (valsA [agRange us u]))) = sevenV 3 vs := (like_call h u true _).trans (by rw [vals_range, h.cnt]; rfl)
    exact e ▸ call_COUNT W c _ hs hz
  | 4, _ =>
    have e : callV 1 9223372036854775807 1 false [agRange us u] (allA [agRange us u]) = sevenV 4 vs := (like_call h u false _).trans (by show allA _ = allA _; unfold allA trusA; rw [hp1 [1, 3] rfl])
    exact e ▸ call_AND W c _ hs hz
  | 5, _ =>
    have e : callV 1 9223372036854775807 1 false [agRange us u] (anyA [agRange us u]) = sevenV 5 vs := (like_call h u false _).trans (by show anyA _ = anyA _; unfold anyA trusA; rw [hp1 [1, 3] rfl])
    exact e ▸ call_OR W c _ hs hz
  | 6, _ =>
    have e : callV 1 9223372036854775807 1 false [agRange us u] (joinA [agRange us u]) = sevenV 6 vs := (like_call h u false _).trans (by show joinA _ = joinA _; unfold joinA; rw [vals_range, vals_range, h.joi _ (by decide)])
    exact e ▸ call_CONCAT W c _ hs hz ht he
end Go.Proofs.YtolhmemiknpeaaaGreatDoor
namespace Go.Proofs.YtolhmemiknpeaaaGreatDoor
open Go.RowKit

theorem wp_app_srcG {P : Program} {α : Type} {size t tx e bytes : Nat} {w : World} {o : Oper} {a : Act} {K : Act → World → Prop} {Q : Exit → Act → World → Prop} (EL : Elem P t e size bytes) (E : Enc α size)
    (s x : Operand) (ho : o.op = .call { callee := .builtin .append, args := #[s, x], argTypes := #[t, tx] }) (base : Nat) (v : Value) (xs : List α)
    (hs : a.eval s = v) (hown : Own E e w base v xs) (y : Value) (m : Nat) (ys : List α) (hx : a.eval x = y) (hl : ys.length = m) (hsrc : Src P size tx y m (E.all ys) w)
    (hb : (xs.length + m) * bytes ≤ 140737488355328) (hb2 : xs.length + m ≤ maxLen) (hbase : base ≤ w.heap.size)
    (h : ∀ (v' : Value) (w' : World), Own E e w' base v' (xs ++ ys) → w.grownBy w' v.ownBlock → Below base w w' → K (a.put o.dst v') w') : Oper.wp P o a w K Q := by
  obtain ⟨v', w', hrun, h2, h3⟩ := run_app_srcG (ty := o.type) EL E base v xs hown y m ys hl hsrc hb hb2 hbase
  unfold Oper.wp
  simp [execOp, ho, resolve, invoke, builtin, hs, hx, hrun, Result.andThen]
  exact h v' w' h2 h3 (Below.grown (Below.refl _ _) h3 hbase fun k hk => (World.ownsRow.lt hown k hk).1)
theorem src_sv {w : World} {B : Nat} {v : Value} {vs : List Vl} (h : SV w B v vs) : Src Tryz.prog 3 25 v vs.length (encVl.all vs) w := by
  obtain ⟨A, cap, rfl, h⟩ := h
  rcases h with rfl | ⟨pb, po, rfl, hlt, hc⟩
  · cases A with
    | none => exact Src.ofNil w Tryz.underlying25 cap
    | some ad => exact Src.ofSlice w Tryz.underlying25 ad 0 cap [] rfl (fun j u hu => by simp at hu) (fun u hu => by cases hu)
  · refine Src.ofSlice w Tryz.underlying25 ⟨pb, po, none⟩ vs.length cap _ (by rw [Enc.length_all]) (fun j u hu => ?_) (encVl.one_all vs)
    have hj : j < vs.length * 3 := by
      have := (List.getElem?_eq_some_iff.1 hu).1
      rw [Enc.length_all] at this; exact this
    obtain ⟨x, hx⟩ : ∃ x, vs[j / 3]? = some x := ⟨_, List.getElem?_eq_getElem (by omega)⟩
    obtain ⟨c0, c1, c2⟩ := hc _ x hx
    have e := encVl.at vs (j / 3) (j % 3) x hx (by omega)
    have hje : j / 3 * 3 + j % 3 = j := by omega
    rw [hje, hu] at e
    rw [Addr.add_mid]
    have hr : j % 3 = 0 ∨ j % 3 = 1 ∨ j % 3 = 2 := by omega
    rcases hr with hr | hr | hr
    · rw [hr] at e
      rw [show po + j = po + j / 3 * 3 by omega, c0]; exact e.symm
    · rw [hr] at e
      rw [show po + j = po + j / 3 * 3 + 1 by omega, c1]; exact e.symm
    · rw [hr] at e
      rw [show po + j = po + j / 3 * 3 + 2 by omega, c2]; exact e.symm
theorem Elem.vl : ∃ b, b ≤ 100 ∧ Elem Tryz.prog 25 28 3 b := ⟨32, by omega, Tryz.underlying25, ⟨.agg #[.int .i64 0, .int .i64 0, .string ⟨#[]⟩], by kernel_rfl, rfl⟩, by decide⟩
theorem own_lit0 (w : World) (B : Nat) (hB : B ≤ w.heap.size) : Own encVl 28 (w.alloc (.cells #[] 28)) B (.slice (some ⟨w.heap.size, 0, none⟩) 0 0) ([] : List Vl) :=
  Own.made encVl 28 w B w.heap.size 0 #[] rfl hB (Nat.zero_le _) rfl
end Go.Proofs.YtolhmemiknpeaaaGreatDoor
namespace Go.Proofs.YtolhmemiknpeaaaGreatDoor
open Go.RowKit
theorem rem_facts (a : Int) (n : Nat) (b0 : 0 ≤ a) : ∃ (k : Nat), k ≤ n ∧ a % ((n : Int) + 1) = (k : Int) ∧ a.tmod ((n : Int) + 1) = (k : Int) ∧ ((0 : Int) ≤ (k : Int) ∧ (k : Int) ≤ (n : Int)) ∧ ¬ (n : Int) + 1 = 0 := by
  have h1 := Int.emod_nonneg a (show (n : Int) + 1 ≠ 0 by omega)
  have h2 := Int.emod_lt_of_pos a (show (0 : Int) < (n : Int) + 1 by omega)
  have h3 := Int.tmod_eq_emod_of_nonneg (b := (n : Int) + 1) b0
  generalize a % ((n : Int) + 1) = m at h1 h2 h3
  obtain ⟨k, rfl⟩ : ∃ k : Nat, m = (k : Int) := ⟨m.toNat, by omega⟩
  exact ⟨k, by omega, rfl, h3, ⟨by omega, by omega⟩, by omega⟩
theorem own_addr {w : World} {B n c : Nat} {A : Option Addr} {vs : List Vl} (h : Own encVl 28 w B (.slice A n c) vs) : (A = none ∧ n = 0 ∧ c = 0 ∧ vs = []) ∨ ∃ g, A = some ⟨g, 0, none⟩ ∧ g < w.heap.size := by
  rcases h.2 with ⟨h1, h2⟩ | ⟨g, cap, cur, h1, _, h3, _⟩
  · injection h1 with h1 h3 h4; exact .inl ⟨h1, h3, h4, List.eq_nil_of_length_eq_zero h2⟩
  · injection h1 with h1 _ _; exact .inr ⟨g, h1, (Array.getElem?_eq_some_iff.1 h3).1⟩
theorem tail_addr (g k n cp : Nat) (h : n ≤ cp) (A : Option Addr) (hA : (if cp = k then some (⟨g, 0, none⟩ : Addr) else some ⟨g, k * 3, none⟩) = A) : k < n → A = some ⟨g, k * 3, none⟩ := fun hk => by rw [← hA, if_neg (by omega)]
theorem own_form {w : World} {B : Nat} {v : Value} {xs : List Int} (n : Nat) (hn : xs.length = n) (h : Own encVl 28 w B v (xs.map Vl.num)) : ∃ A c, v = .slice A n c ∧ n ≤ c := by
  rcases h.2 with ⟨h1, h2⟩ | ⟨g, cap, cur, h1, _, _, h4, _⟩
  · rw [List.length_map] at h2; exact ⟨none, 0, by rw [h1, ← hn, h2], by omega⟩
  · rw [List.length_map] at h1 h4; exact ⟨_, cap, by rw [h1, hn], by omega⟩
set_option maxRecDepth 100000 in
set_option maxHeartbeats 16000000 in
theorem funNothing_main (xs : List Int) (wh at' e : Int) (v : Value) (w : World) (a0 : 0 ≤ wh) (_a1 : wh ≤ 255) (b0 : 0 ≤ at') (b1 : at' ≤ 255) (c0 : 0 ≤ e) (c1 : e ≤ 255) (hs : SG (Value.int .i32) w w.heap.size v xs) (hx : ∀ x ∈ xs, -2147483648 ≤ x ∧ x ≤ 2147483647) (hl : xs.length ≤ 20) (ht : Tab w) (he : EtV w) :
    Calls Tryz.prog 3 #[.int .u8 wh, v, .int .u8 at', .int .u8 e] w fun e' w' => e' = .returned (.bool true) ∧ Below w.heap.size w w' := by
  obtain ⟨j, hj⟩ : ∃ j : Nat, wh % 7 = (j : Int) := ⟨(wh % 7).toNat, by omega⟩
  have hj7 : j < 7 := by omega
  have hj1 : wh.tmod 7 = (j : Int) := by rw [Int.tmod_eq_emod_of_nonneg a0]; exact hj
  have hj2 : IntKind.u8.wrap (wh.tmod 7) = (j : Int) := by rw [hj1, IntKind.wrap_u8]; omega
  have hj3 : IntKind.u8.wrap (j : Int) = (j : Int) := by rw [IntKind.wrap_u8]; omega
  have hj4 : (0 : Int) ≤ (j : Int) := by omega
  have hj5 : (j : Int) < 7 := by omega
  obtain ⟨nm, hnm⟩ : ∃ nm, sevenN.getD j ⟨#[]⟩ = nm := ⟨_, rfl⟩
  have hce : ∀ t : TypeId, (w.alloc (.cells #[.string ⟨#[83, 85, 77]⟩, .string ⟨#[77, 73, 78]⟩, .string ⟨#[77, 65, 88]⟩, .string ⟨#[67, 79, 85, 78, 84]⟩, .string ⟨#[65, 78, 68]⟩, .string ⟨#[79, 82]⟩, .string ⟨#[67, 79, 78, 67, 65, 84]⟩] t)).cell? ⟨w.heap.size, j, none⟩ = some (.string nm) := by
    intro t
    have h := (Go.MapKept.heap_alloc w (.cells #[.string ⟨#[83, 85, 77]⟩, .string ⟨#[77, 73, 78]⟩, .string ⟨#[77, 65, 88]⟩, .string ⟨#[67, 79, 85, 78, 84]⟩, .string ⟨#[65, 78, 68]⟩, .string ⟨#[79, 82]⟩, .string ⟨#[67, 79, 78, 67, 65, 84]⟩] t)).1
    rw [cell_of_row _ _ j _ _ _ h, ← hnm]
    match j, hj7 with
    | 0, _ => rfl
    | 1, _ => rfl
    | 2, _ => rfl
    | 3, _ => rfl
    | 4, _ => rfl
    | 5, _ => rfl
    | 6, _ => rfl
  obtain ⟨A, cap, rfl, hat⟩ := id hs
  obtain ⟨n, hn⟩ : ∃ n, xs.length = n := ⟨_, rfl⟩
  rw [hn] at hl hs ⊢
  have hgt : ¬ (n : Int) > 20 := by omega
  obtain ⟨k, hkn, hkm2, hkm, ⟨hk0, hkni⟩, hn0⟩ := rem_facts at' n b0
  have hwa : IntKind.i64.wrap at' = at' := by rw [IntKind.wrap_i64]; omega
  have HS := Lib.hid hs; have HN := Lib.hid hn; have HX := Lib.hid hx; have HT := Lib.hid ht; have HE := Lib.hid he; have HNM := Lib.hid hnm
  clear hs hn hx ht he hat hnm hj
  go_enter Tryz.func3, Tryz.ntmps3
  go_upto_region 4 with (fail)
  have HB1 := Lib.hid (show Below w.heap.size w (w.alloc (.cells #[.string ⟨#[83, 85, 77]⟩, .string ⟨#[77, 73, 78]⟩, .string ⟨#[77, 65, 88]⟩, .string ⟨#[67, 79, 85, 78, 84]⟩, .string ⟨#[65, 78, 68]⟩, .string ⟨#[79, 82]⟩, .string ⟨#[67, 79, 78, 67, 65, 84]⟩] 9)) from (Below.refl _ _).alloc (Nat.le_refl _) _)
  generalize w.alloc (.cells #[.string ⟨#[83, 85, 77]⟩, .string ⟨#[77, 73, 78]⟩, .string ⟨#[77, 65, 88]⟩, .string ⟨#[67, 79, 85, 78, 84]⟩, .string ⟨#[65, 78, 68]⟩, .string ⟨#[79, 82]⟩, .string ⟨#[67, 79, 78, 67, 65, 84]⟩] 9) = w1 at HB1 ⊢
  clear hce
  have HIN := Lib.hid (ints_any w1 (.slice A n cap) xs ((HS.out.below HB1.out (Nat.le_refl _)).mono HB1.out.size) (by rw [HN.out]; omega) HX.out)
  go_upto_region 5 with (go_at_call 5; ((with_reducible refine HIN.out.mono ?_); rintro e w2 ⟨⟨vv, rfl, ho⟩, hb⟩; obtain ⟨A2, cp, rfl, hncp⟩ := own_form n HN.out ho; have HO := Lib.hid ho; have HB2 := Lib.hid (HB1.out.trans (hb.mono HB1.out.size)); have HZ2 := Lib.hid hb.size; clear hb))
  have hncp2 : (n : Int) ≤ (cp : Int) := Int.ofNat_le.2 hncp
  have hkc : (k : Int) ≤ (cp : Int) := Int.le_trans hkni hncp2
  go_upto_region 6 with (fail)
  obtain ⟨eb, hEB, EL⟩ := Elem.vl
  have HEL := Lib.hid EL
  have HSZ := Lib.hid (fun (a b : Nat) (h : a + b ≤ 40) => (show (a + b) * eb ≤ 140737488355328 from Nat.le_trans (Nat.mul_le_mul h hEB) (by decide)))
  have HMX := Lib.hid (fun (a : Nat) (h : a ≤ 40) => (show a ≤ maxLen from Nat.le_trans h (by unfold maxLen; decide)))
  have HN0 := Lib.hid (show xs.length = n from HN.out)
  have HTL := Lib.hid (show ((xs.map Vl.num).take k).length = k by rw [List.length_take, List.length_map, HN0.out]; exact Nat.min_eq_left hkn)
  have HDL := Lib.hid (show ((xs.map Vl.num).drop k).length = n - k by rw [List.length_drop, List.length_map, HN0.out])
  have HD0 := Lib.hid (show Below w2.heap.size w2 w2.drew from Below.drew (Below.refl _ _))
  clear EL hEB
  go_cut [12] (fun cv wx => ∃ (wu : World), wu = wx ∧ Hid (SV wu wu.heap.size cv (insN (xs.map Vl.num) k) ∧ Aft w2 wu))
  case first =>
    rcases own_addr HO.out with ⟨rfl, rfl, rfl, hv0⟩ | ⟨g, rfl, hgl⟩
    · obtain rfl : k = 0 := Nat.le_zero.1 hkn
      have HV1 := Lib.hid (show SV w2 w2.heap.size (.slice none 0 0) ((xs.map Vl.num).take 0) from ⟨none, 0, rfl, .inl rfl⟩)
      have HV2 := Lib.hid (show SV w2 w2.heap.size (.slice none 0 0) ((xs.map Vl.num).drop 0) from by rw [hv0]; exact ⟨none, 0, rfl, .inl rfl⟩)
      refine wp_region_held_drew (S := fun _ => True) (by kernel_rfl) trivial (fun _ => ?_)
      show wpAnyH _ _ _ _ _ 13 #[false, false, false, false, false, false, false, false, false, false, false, false, false] _ _
      refine held_take (i := 1) (d := some 32) (fuel := 12) (listed' := #[false, true, false, false, false, false, false, false, false, false, false, false, false]) (v := ?_) rfl rfl (by kernel_rfl) (by kernel_rfl) (by kernel_rfl) rfl (fun _ _ _ h => h) (by rfl) ?_ trivial ?_
      rotate_left
      · (intro wS hSw; go_simp; try (with_reducible rfl))
      simp only [Act.put, List.setIfInBounds_toArray, List.set_cons_zero, List.set_cons_succ]
      refine held_take (i := 2) (d := some 33) (fuel := 11) (listed' := #[false, true, true, false, false, false, false, false, false, false, false, false, false]) (v := ?_) rfl rfl (by kernel_rfl) (by kernel_rfl) (by kernel_rfl) rfl (fun _ _ _ h => h) (by rfl) ?_ trivial ?_
      rotate_left
      · (intro wS hSw; go_simp; try (with_reducible rfl))
      simp only [Act.put, List.setIfInBounds_toArray, List.set_cons_zero, List.set_cons_succ]
      refine held_take (i := 3) (d := some 34) (fuel := 10) (listed' := #[false, true, true, true, false, false, false, false, false, false, false, false, false]) (v := ?_) rfl rfl (by kernel_rfl) (by kernel_rfl) (by kernel_rfl) rfl (fun _ _ _ h => h) (by rfl) ?_ trivial ?_
      rotate_left
      · (intro wS hSw; go_simp; try (with_reducible rfl))
      simp only [Act.put, List.setIfInBounds_toArray, List.set_cons_zero, List.set_cons_succ]
      refine held_take (i := 5) (d := some 36) (fuel := 9) (listed' := #[false, true, true, true, false, true, false, false, false, false, false, false, false]) (v := ?_) rfl rfl (by kernel_rfl) (by kernel_rfl) (by kernel_rfl) rfl (fun _ _ _ h => h) (by rfl) ?_ trivial ?_
      rotate_left
      · (intro wS hSw; go_simp; try (with_reducible rfl))
      simp only [Act.put, List.setIfInBounds_toArray, List.set_cons_zero, List.set_cons_succ]
      refine held_take (i := 8) (d := some 39) (fuel := 8) (listed' := #[false, true, true, true, false, true, false, false, true, false, false, false, false]) (v := ?_) rfl rfl (by kernel_rfl) (by kernel_rfl) (by kernel_rfl) rfl (fun _ _ _ h => h) (by rfl) ?_ trivial ?_
      rotate_left
      · (intro wS hSw; go_simp; try (with_reducible rfl))
      simp only [Act.put, List.setIfInBounds_toArray, List.set_cons_zero, List.set_cons_succ]
      refine held_take (i := 9) (d := some 40) (fuel := 7) (listed' := #[false, true, true, true, false, true, false, false, true, true, false, false, false]) (v := ?_) rfl rfl (by kernel_rfl) (by kernel_rfl) (by kernel_rfl) rfl (fun _ _ _ h => h) (by rfl) ?_ trivial ?_
      rotate_left
      · (intro wS hSw; go_simp; try (with_reducible rfl))
      simp only [Act.put, List.setIfInBounds_toArray, List.set_cons_zero, List.set_cons_succ]
      refine held_take (i := 10) (d := some 41) (fuel := 6) (listed' := #[false, true, true, true, false, true, false, false, true, true, true, false, false]) (v := ?_) rfl rfl (by kernel_rfl) (by kernel_rfl) (by kernel_rfl) rfl (fun _ _ _ h => h) (by rfl) ?_ trivial ?_
      rotate_left
      · (intro wS hSw; go_simp; try (with_reducible rfl))
      simp only [Act.put, List.setIfInBounds_toArray, List.set_cons_zero, List.set_cons_succ]
      obtain ⟨Y1, hY1⟩ : ∃ Y1, Value.slice none 0 0 = Y1 := ⟨_, rfl⟩
      rw [hY1] at HV1 HV2 ⊢
      replace hY1 := Lib.hid hY1
      refine wpAnyH_ready (rs := [0, 6]) (by kernel_rfl) (by simp) (AllReadyH.cons rfl (fun K hK => ?_) (AllReadyH.cons rfl (fun K hK => ?_) AllReadyH.nil))
      · rw [if_pos (by rfl)]
        go_simp
        refine hK.out _ _ trivial (fun _ => ?_)
        clear hK K
        simp only [Act.put, List.setIfInBounds_toArray, List.set_cons_zero, List.set_cons_succ]
        have HLa := Lib.hid (show Own encVl 28 (w2.drew.alloc (.cells #[] 28)) w2.heap.size (.slice (some ⟨w2.heap.size, 0, none⟩) 0 0) ([] : List Vl) from by have h0 := own_lit0 w2.drew w2.heap.size HD0.out.size; rw [show w2.drew.heap.size = w2.heap.size from rfl] at h0; exact h0)
        have HAa := Lib.hid (show Below w2.heap.size w2 (w2.drew.alloc (.cells #[] 28)) from HD0.out.alloc HD0.out.size _)
        refine wpAnyH_ready (rs := [4, 6]) (by kernel_rfl) (by simp) (AllReadyH.cons rfl (fun K hK => ?_) (AllReadyH.cons rfl (fun K hK => ?_) AllReadyH.nil))
        · rw [if_pos (by rfl)]
          refine wp_app_srcG HEL.out encVl (.tmp 31) (.tmp 34) rfl w2.heap.size (.slice (some ⟨w2.heap.size, 0, none⟩) 0 0) [] rfl HLa.out Y1 0 ((xs.map Vl.num).take 0) rfl HTL.out (by have h0 := src_sv (HV1.out.next HAa.out); rw [HTL.out] at h0; exact h0) ?_ ?_ ?_ ?_
          · exact HSZ.out _ _ (by first | (simp only [List.length_append, List.length_take, List.length_map, List.length_cons, List.length_nil, List.length_drop]; omega) | (simp only [List.length_append, List.length_take, List.length_map, List.length_cons, List.length_nil, List.length_drop]; rw [HN0.out]; omega) | simp only [List.length_append, List.length_take, List.length_map, List.length_cons, List.length_nil, List.length_drop])
          · exact HMX.out _ (by first | (simp only [List.length_append, List.length_take, List.length_map, List.length_cons, List.length_nil, List.length_drop]; omega) | (simp only [List.length_append, List.length_take, List.length_map, List.length_cons, List.length_nil, List.length_drop]; rw [HN0.out]; omega) | simp only [List.length_append, List.length_take, List.length_map, List.length_cons, List.length_nil, List.length_drop])
          · exact HAa.out.size
          intro va W3 h1 h2 h3
          refine hK.out _ _ trivial (fun _ => ?_)
          clear hK K
          simp only [Act.put, List.getElem_toArray, List.getElem_cons_succ, List.getElem_cons_zero, List.setIfInBounds_toArray, List.set_cons_zero, List.set_cons_succ]
          have HO3 := Lib.hid h1; have HA3 := Lib.hid (show Below w2.heap.size w2 W3 from HAa.out.trans h3); clear h1 h2 h3
          refine held_one (i := 6) (d := some 37) (fuel := 3) (listed' := #[true, true, true, true, true, true, true, false, true, true, true, false, false]) rfl rfl (by kernel_rfl) rfl (by rfl) (fun K hK => ?_)
          go_simp
          refine hK.out _ _ trivial ?_
          clear hK K
          simp only [Act.put, List.setIfInBounds_toArray, List.set_cons_zero, List.set_cons_succ]
          have HNb := Lib.hid (show SV (W3.alloc (.cells #[.int .i64 0, .int .i64 0, .string ⟨#[]⟩] 28)) (W3.alloc (.cells #[.int .i64 0, .int .i64 0, .string ⟨#[]⟩] 28)).heap.size (.slice (some ⟨W3.heap.size, 0, none⟩) 1 1) [Vl.none] from by have h0 : SV (W3.alloc (.cells #[.int .i64 0, .int .i64 0, .string ⟨#[]⟩] 28)) (W3.alloc (.cells #[.int .i64 0, .int .i64 0, .string ⟨#[]⟩] 28)).heap.size (.slice (some ⟨W3.heap.size, 0, none⟩) 1 1) [Vl.none] := sv_one W3 Vl.none 28; rw [show W3.heap.size = W3.heap.size from rfl] at h0; exact h0)
          have HAb := Lib.hid (show Below w2.heap.size w2 (W3.alloc (.cells #[.int .i64 0, .int .i64 0, .string ⟨#[]⟩] 28)) from HA3.out.alloc HA3.out.size _)
          have HO4 := Lib.hid (HO3.out.alloc (.cells #[.int .i64 0, .int .i64 0, .string ⟨#[]⟩] 28))
          refine held_one (i := 7) (d := some 38) (fuel := 2) (listed' := #[true, true, true, true, true, true, true, true, true, true, true, false, false]) rfl rfl (by kernel_rfl) rfl (by rfl) (fun K hK => ?_)
          refine wp_app_srcG HEL.out encVl (.tmp 35) (.tmp 37) rfl w2.heap.size va ([] ++ (xs.map Vl.num).take 0) rfl HO4.out (.slice (some ⟨W3.heap.size, 0, none⟩) 1 1) 1 [Vl.none] rfl rfl (src_sv HNb.out) ?_ ?_ ?_ ?_
          · exact HSZ.out _ _ (by first | (simp only [List.length_append, List.length_take, List.length_map, List.length_cons, List.length_nil, List.length_drop]; omega) | (simp only [List.length_append, List.length_take, List.length_map, List.length_cons, List.length_nil, List.length_drop]; rw [HN0.out]; omega) | simp only [List.length_append, List.length_take, List.length_map, List.length_cons, List.length_nil, List.length_drop])
          · exact HMX.out _ (by first | (simp only [List.length_append, List.length_take, List.length_map, List.length_cons, List.length_nil, List.length_drop]; omega) | (simp only [List.length_append, List.length_take, List.length_map, List.length_cons, List.length_nil, List.length_drop]; rw [HN0.out]; omega) | simp only [List.length_append, List.length_take, List.length_map, List.length_cons, List.length_nil, List.length_drop])
          · exact HAb.out.size
          intro vb W8 h1 h2 h3
          refine hK.out _ _ trivial ?_
          clear hK K
          simp only [Act.put, List.setIfInBounds_toArray, List.set_cons_zero, List.set_cons_succ]
          have HB8 := Lib.hid h1; have HA8 := Lib.hid (show Below w2.heap.size w2 W8 from HAb.out.trans h3); clear h1 h2 h3
          refine held_one (i := 11) (d := some 42) (fuel := 1) (listed' := #[true, true, true, true, true, true, true, true, true, true, true, true, false]) rfl rfl (by kernel_rfl) rfl (by rfl) (fun K hK => ?_)
          refine wp_app_srcG HEL.out encVl (.tmp 38) (.tmp 41) rfl w2.heap.size vb (([] ++ (xs.map Vl.num).take 0) ++ [Vl.none]) rfl HB8.out Y1 (0 - 0) ((xs.map Vl.num).drop 0) rfl HDL.out (by have h0 := src_sv (HV2.out.next HA8.out); rw [HDL.out] at h0; exact h0) ?_ ?_ ?_ ?_
          · exact HSZ.out _ _ (by first | (simp only [List.length_append, List.length_take, List.length_map, List.length_cons, List.length_nil, List.length_drop]; omega) | (simp only [List.length_append, List.length_take, List.length_map, List.length_cons, List.length_nil, List.length_drop]; rw [HN0.out]; omega) | simp only [List.length_append, List.length_take, List.length_map, List.length_cons, List.length_nil, List.length_drop])
          · exact HMX.out _ (by first | (simp only [List.length_append, List.length_take, List.length_map, List.length_cons, List.length_nil, List.length_drop]; omega) | (simp only [List.length_append, List.length_take, List.length_map, List.length_cons, List.length_nil, List.length_drop]; rw [HN0.out]; omega) | simp only [List.length_append, List.length_take, List.length_map, List.length_cons, List.length_nil, List.length_drop])
          · exact HA8.out.size
          intro vc W9 h1 h2 h3
          refine hK.out _ _ trivial ?_
          clear hK K
          simp only [Act.put, List.setIfInBounds_toArray, List.set_cons_zero, List.set_cons_succ]
          have HB9 := Lib.hid h1; have HA9 := Lib.hid (show Below w2.heap.size w2 W9 from HA8.out.trans h3); clear h1 h2 h3
          refine held_one (i := 12) (d := some 12) (fuel := 0) (listed' := #[true, true, true, true, true, true, true, true, true, true, true, true, true]) rfl rfl (by kernel_rfl) rfl (by rfl) (fun K hK => ?_)
          go_simp
          refine hK.out _ _ trivial ?_
          clear hK K
          simp only [Act.put, List.setIfInBounds_toArray, List.set_cons_zero, List.set_cons_succ]
          refine wpAnyH_done (by kernel_rfl) ?_ _
          go_wp2_with fail
          have hY9 := hY1.out
          subst hY9
          go_meet
          exact ⟨_, rfl, Lib.hid ⟨by have := own_sv HB9.out; rw [List.nil_append, List.append_assoc] at this; exact this, HA9.out⟩⟩
        · rw [if_pos (by rfl)]
          go_simp
          refine hK.out _ _ trivial (fun _ => ?_)
          clear hK K
          simp only [Act.put, List.setIfInBounds_toArray, List.set_cons_zero, List.set_cons_succ]
          have HNb := Lib.hid (show SV ((w2.drew.alloc (.cells #[] 28)).alloc (.cells #[.int .i64 0, .int .i64 0, .string ⟨#[]⟩] 28)) ((w2.drew.alloc (.cells #[] 28)).alloc (.cells #[.int .i64 0, .int .i64 0, .string ⟨#[]⟩] 28)).heap.size (.slice (some ⟨w2.heap.size + 1, 0, none⟩) 1 1) [Vl.none] from by have h0 : SV ((w2.drew.alloc (.cells #[] 28)).alloc (.cells #[.int .i64 0, .int .i64 0, .string ⟨#[]⟩] 28)) ((w2.drew.alloc (.cells #[] 28)).alloc (.cells #[.int .i64 0, .int .i64 0, .string ⟨#[]⟩] 28)).heap.size (.slice (some ⟨(w2.drew.alloc (.cells #[] 28)).heap.size, 0, none⟩) 1 1) [Vl.none] := sv_one (w2.drew.alloc (.cells #[] 28)) Vl.none 28; rw [show (w2.drew.alloc (.cells #[] 28)).heap.size = w2.heap.size + 1 from World.size_alloc _ _] at h0; exact h0)
          have HAb := Lib.hid (show Below w2.heap.size w2 ((w2.drew.alloc (.cells #[] 28)).alloc (.cells #[.int .i64 0, .int .i64 0, .string ⟨#[]⟩] 28)) from HAa.out.alloc HAa.out.size _)
          have HL4 := Lib.hid (HLa.out.alloc (.cells #[.int .i64 0, .int .i64 0, .string ⟨#[]⟩] 28))
          refine held_one (i := 4) (d := some 35) (fuel := 3) (listed' := #[true, true, true, true, true, true, true, false, true, true, true, false, false]) rfl rfl (by kernel_rfl) rfl (by rfl) (fun K hK => ?_)
          refine wp_app_srcG HEL.out encVl (.tmp 31) (.tmp 34) rfl w2.heap.size (.slice (some ⟨w2.heap.size, 0, none⟩) 0 0) [] rfl HL4.out Y1 0 ((xs.map Vl.num).take 0) rfl HTL.out (by have h0 := src_sv (HV1.out.next HAb.out); rw [HTL.out] at h0; exact h0) ?_ ?_ ?_ ?_
          · exact HSZ.out _ _ (by first | (simp only [List.length_append, List.length_take, List.length_map, List.length_cons, List.length_nil, List.length_drop]; omega) | (simp only [List.length_append, List.length_take, List.length_map, List.length_cons, List.length_nil, List.length_drop]; rw [HN0.out]; omega) | simp only [List.length_append, List.length_take, List.length_map, List.length_cons, List.length_nil, List.length_drop])
          · exact HMX.out _ (by first | (simp only [List.length_append, List.length_take, List.length_map, List.length_cons, List.length_nil, List.length_drop]; omega) | (simp only [List.length_append, List.length_take, List.length_map, List.length_cons, List.length_nil, List.length_drop]; rw [HN0.out]; omega) | simp only [List.length_append, List.length_take, List.length_map, List.length_cons, List.length_nil, List.length_drop])
          · exact HAb.out.size
          intro va W3 h1 h2 h3
          refine hK.out _ _ trivial ?_
          clear hK K
          simp only [Act.put, List.setIfInBounds_toArray, List.set_cons_zero, List.set_cons_succ]
          have HO3 := Lib.hid h1; have HA3 := Lib.hid (show Below w2.heap.size w2 W3 from HAb.out.trans h3)
          have HN3 := Lib.hid (sv_grown HNb.out h2 (.inr fun b hb e => by have e1 : some (w2.heap.size) = some b := e; have e2 : some (w2.heap.size + 1) = some b := hb; have e3 := (Option.some.inj e1).trans (Option.some.inj e2).symm; omega)); clear h1 h2 h3
          refine held_one (i := 7) (d := some 38) (fuel := 2) (listed' := #[true, true, true, true, true, true, true, true, true, true, true, false, false]) rfl rfl (by kernel_rfl) rfl (by rfl) (fun K hK => ?_)
          refine wp_app_srcG HEL.out encVl (.tmp 35) (.tmp 37) rfl w2.heap.size va ([] ++ (xs.map Vl.num).take 0) rfl HO3.out (.slice (some ⟨w2.heap.size + 1, 0, none⟩) 1 1) 1 [Vl.none] rfl rfl (src_sv HN3.out) ?_ ?_ ?_ ?_
          · exact HSZ.out _ _ (by first | (simp only [List.length_append, List.length_take, List.length_map, List.length_cons, List.length_nil, List.length_drop]; omega) | (simp only [List.length_append, List.length_take, List.length_map, List.length_cons, List.length_nil, List.length_drop]; rw [HN0.out]; omega) | simp only [List.length_append, List.length_take, List.length_map, List.length_cons, List.length_nil, List.length_drop])
          · exact HMX.out _ (by first | (simp only [List.length_append, List.length_take, List.length_map, List.length_cons, List.length_nil, List.length_drop]; omega) | (simp only [List.length_append, List.length_take, List.length_map, List.length_cons, List.length_nil, List.length_drop]; rw [HN0.out]; omega) | simp only [List.length_append, List.length_take, List.length_map, List.length_cons, List.length_nil, List.length_drop])
          · exact HA3.out.size
          intro vb W8 h1 h2 h3
          refine hK.out _ _ trivial ?_
          clear hK K
          simp only [Act.put, List.setIfInBounds_toArray, List.set_cons_zero, List.set_cons_succ]
          have HB8 := Lib.hid h1; have HA8 := Lib.hid (show Below w2.heap.size w2 W8 from HA3.out.trans h3); clear h1 h2 h3
          refine held_one (i := 11) (d := some 42) (fuel := 1) (listed' := #[true, true, true, true, true, true, true, true, true, true, true, true, false]) rfl rfl (by kernel_rfl) rfl (by rfl) (fun K hK => ?_)
          refine wp_app_srcG HEL.out encVl (.tmp 38) (.tmp 41) rfl w2.heap.size vb (([] ++ (xs.map Vl.num).take 0) ++ [Vl.none]) rfl HB8.out Y1 (0 - 0) ((xs.map Vl.num).drop 0) rfl HDL.out (by have h0 := src_sv (HV2.out.next HA8.out); rw [HDL.out] at h0; exact h0) ?_ ?_ ?_ ?_
          · exact HSZ.out _ _ (by first | (simp only [List.length_append, List.length_take, List.length_map, List.length_cons, List.length_nil, List.length_drop]; omega) | (simp only [List.length_append, List.length_take, List.length_map, List.length_cons, List.length_nil, List.length_drop]; rw [HN0.out]; omega) | simp only [List.length_append, List.length_take, List.length_map, List.length_cons, List.length_nil, List.length_drop])
          · exact HMX.out _ (by first | (simp only [List.length_append, List.length_take, List.length_map, List.length_cons, List.length_nil, List.length_drop]; omega) | (simp only [List.length_append, List.length_take, List.length_map, List.length_cons, List.length_nil, List.length_drop]; rw [HN0.out]; omega) | simp only [List.length_append, List.length_take, List.length_map, List.length_cons, List.length_nil, List.length_drop])
          · exact HA8.out.size
          intro vc W9 h1 h2 h3
          refine hK.out _ _ trivial ?_
          clear hK K
          simp only [Act.put, List.setIfInBounds_toArray, List.set_cons_zero, List.set_cons_succ]
          have HB9 := Lib.hid h1; have HA9 := Lib.hid (show Below w2.heap.size w2 W9 from HA8.out.trans h3); clear h1 h2 h3
          refine held_one (i := 12) (d := some 12) (fuel := 0) (listed' := #[true, true, true, true, true, true, true, true, true, true, true, true, true]) rfl rfl (by kernel_rfl) rfl (by rfl) (fun K hK => ?_)
          go_simp
          refine hK.out _ _ trivial ?_
          clear hK K
          simp only [Act.put, List.setIfInBounds_toArray, List.set_cons_zero, List.set_cons_succ]
          refine wpAnyH_done (by kernel_rfl) ?_ _
          go_wp2_with fail
          have hY9 := hY1.out
          subst hY9
          go_meet
          exact ⟨_, rfl, Lib.hid ⟨by have := own_sv HB9.out; rw [List.nil_append, List.append_assoc] at this; exact this, HA9.out⟩⟩
      · rw [if_pos (by rfl)]
        go_simp
        refine hK.out _ _ trivial (fun _ => ?_)
        clear hK K
        simp only [Act.put, List.setIfInBounds_toArray, List.set_cons_zero, List.set_cons_succ]
        have HNa := Lib.hid (show SV (w2.drew.alloc (.cells #[.int .i64 0, .int .i64 0, .string ⟨#[]⟩] 28)) (w2.drew.alloc (.cells #[.int .i64 0, .int .i64 0, .string ⟨#[]⟩] 28)).heap.size (.slice (some ⟨w2.heap.size, 0, none⟩) 1 1) [Vl.none] from by have h0 : SV (w2.drew.alloc (.cells #[.int .i64 0, .int .i64 0, .string ⟨#[]⟩] 28)) (w2.drew.alloc (.cells #[.int .i64 0, .int .i64 0, .string ⟨#[]⟩] 28)).heap.size (.slice (some ⟨w2.drew.heap.size, 0, none⟩) 1 1) [Vl.none] := sv_one w2.drew Vl.none 28; rw [show w2.drew.heap.size = w2.heap.size from rfl] at h0; exact h0)
        have HAa := Lib.hid (show Below w2.heap.size w2 (w2.drew.alloc (.cells #[.int .i64 0, .int .i64 0, .string ⟨#[]⟩] 28)) from HD0.out.alloc HD0.out.size _)
        refine held_one (i := 0) (d := some 31) (fuel := 4) (listed' := #[true, true, true, true, false, true, true, false, true, true, true, false, false]) rfl rfl (by kernel_rfl) rfl (by rfl) (fun K hK => ?_)
        go_simp
        refine hK.out _ _ trivial ?_
        clear hK K
        simp only [Act.put, List.setIfInBounds_toArray, List.set_cons_zero, List.set_cons_succ]
        have HLb := Lib.hid (show Own encVl 28 ((w2.drew.alloc (.cells #[.int .i64 0, .int .i64 0, .string ⟨#[]⟩] 28)).alloc (.cells #[] 28)) w2.heap.size (.slice (some ⟨w2.heap.size + 1, 0, none⟩) 0 0) ([] : List Vl) from by have h0 := own_lit0 (w2.drew.alloc (.cells #[.int .i64 0, .int .i64 0, .string ⟨#[]⟩] 28)) w2.heap.size HAa.out.size; rw [show (w2.drew.alloc (.cells #[.int .i64 0, .int .i64 0, .string ⟨#[]⟩] 28)).heap.size = w2.heap.size + 1 from World.size_alloc _ _] at h0; exact h0)
        have HAb := Lib.hid (show Below w2.heap.size w2 ((w2.drew.alloc (.cells #[.int .i64 0, .int .i64 0, .string ⟨#[]⟩] 28)).alloc (.cells #[] 28)) from HAa.out.alloc HAa.out.size _)
        have HN4 := Lib.hid (HNa.out.next (Aft.alloc _ (.cells #[] 28)))
        refine held_one (i := 4) (d := some 35) (fuel := 3) (listed' := #[true, true, true, true, true, true, true, false, true, true, true, false, false]) rfl rfl (by kernel_rfl) rfl (by rfl) (fun K hK => ?_)
        refine wp_app_srcG HEL.out encVl (.tmp 31) (.tmp 34) rfl w2.heap.size (.slice (some ⟨w2.heap.size + 1, 0, none⟩) 0 0) [] rfl HLb.out Y1 0 ((xs.map Vl.num).take 0) rfl HTL.out (by have h0 := src_sv (HV1.out.next HAb.out); rw [HTL.out] at h0; exact h0) ?_ ?_ ?_ ?_
        · exact HSZ.out _ _ (by first | (simp only [List.length_append, List.length_take, List.length_map, List.length_cons, List.length_nil, List.length_drop]; omega) | (simp only [List.length_append, List.length_take, List.length_map, List.length_cons, List.length_nil, List.length_drop]; rw [HN0.out]; omega) | simp only [List.length_append, List.length_take, List.length_map, List.length_cons, List.length_nil, List.length_drop])
        · exact HMX.out _ (by first | (simp only [List.length_append, List.length_take, List.length_map, List.length_cons, List.length_nil, List.length_drop]; omega) | (simp only [List.length_append, List.length_take, List.length_map, List.length_cons, List.length_nil, List.length_drop]; rw [HN0.out]; omega) | simp only [List.length_append, List.length_take, List.length_map, List.length_cons, List.length_nil, List.length_drop])
        · exact HAb.out.size
        intro va W3 h1 h2 h3
        refine hK.out _ _ trivial ?_
        clear hK K
        simp only [Act.put, List.setIfInBounds_toArray, List.set_cons_zero, List.set_cons_succ]
        have HO3 := Lib.hid h1; have HA3 := Lib.hid (show Below w2.heap.size w2 W3 from HAb.out.trans h3)
        have HN3 := Lib.hid (sv_grown HN4.out h2 (.inr fun b hb e => by have e1 : some (w2.heap.size + 1) = some b := e; have e2 : some (w2.heap.size) = some b := hb; have e3 := (Option.some.inj e1).trans (Option.some.inj e2).symm; omega)); clear h1 h2 h3
        refine held_one (i := 7) (d := some 38) (fuel := 2) (listed' := #[true, true, true, true, true, true, true, true, true, true, true, false, false]) rfl rfl (by kernel_rfl) rfl (by rfl) (fun K hK => ?_)
        refine wp_app_srcG HEL.out encVl (.tmp 35) (.tmp 37) rfl w2.heap.size va ([] ++ (xs.map Vl.num).take 0) rfl HO3.out (.slice (some ⟨w2.heap.size, 0, none⟩) 1 1) 1 [Vl.none] rfl rfl (src_sv HN3.out) ?_ ?_ ?_ ?_
        · exact HSZ.out _ _ (by first | (simp only [List.length_append, List.length_take, List.length_map, List.length_cons, List.length_nil, List.length_drop]; omega) | (simp only [List.length_append, List.length_take, List.length_map, List.length_cons, List.length_nil, List.length_drop]; rw [HN0.out]; omega) | simp only [List.length_append, List.length_take, List.length_map, List.length_cons, List.length_nil, List.length_drop])
        · exact HMX.out _ (by first | (simp only [List.length_append, List.length_take, List.length_map, List.length_cons, List.length_nil, List.length_drop]; omega) | (simp only [List.length_append, List.length_take, List.length_map, List.length_cons, List.length_nil, List.length_drop]; rw [HN0.out]; omega) | simp only [List.length_append, List.length_take, List.length_map, List.length_cons, List.length_nil, List.length_drop])
        · exact HA3.out.size
        intro vb W8 h1 h2 h3
        refine hK.out _ _ trivial ?_
        clear hK K
        simp only [Act.put, List.setIfInBounds_toArray, List.set_cons_zero, List.set_cons_succ]
        have HB8 := Lib.hid h1; have HA8 := Lib.hid (show Below w2.heap.size w2 W8 from HA3.out.trans h3); clear h1 h2 h3
        refine held_one (i := 11) (d := some 42) (fuel := 1) (listed' := #[true, true, true, true, true, true, true, true, true, true, true, true, false]) rfl rfl (by kernel_rfl) rfl (by rfl) (fun K hK => ?_)
        refine wp_app_srcG HEL.out encVl (.tmp 38) (.tmp 41) rfl w2.heap.size vb (([] ++ (xs.map Vl.num).take 0) ++ [Vl.none]) rfl HB8.out Y1 (0 - 0) ((xs.map Vl.num).drop 0) rfl HDL.out (by have h0 := src_sv (HV2.out.next HA8.out); rw [HDL.out] at h0; exact h0) ?_ ?_ ?_ ?_
        · exact HSZ.out _ _ (by first | (simp only [List.length_append, List.length_take, List.length_map, List.length_cons, List.length_nil, List.length_drop]; omega) | (simp only [List.length_append, List.length_take, List.length_map, List.length_cons, List.length_nil, List.length_drop]; rw [HN0.out]; omega) | simp only [List.length_append, List.length_take, List.length_map, List.length_cons, List.length_nil, List.length_drop])
        · exact HMX.out _ (by first | (simp only [List.length_append, List.length_take, List.length_map, List.length_cons, List.length_nil, List.length_drop]; omega) | (simp only [List.length_append, List.length_take, List.length_map, List.length_cons, List.length_nil, List.length_drop]; rw [HN0.out]; omega) | simp only [List.length_append, List.length_take, List.length_map, List.length_cons, List.length_nil, List.length_drop])
        · exact HA8.out.size
        intro vc W9 h1 h2 h3
        refine hK.out _ _ trivial ?_
        clear hK K
        simp only [Act.put, List.setIfInBounds_toArray, List.set_cons_zero, List.set_cons_succ]
        have HB9 := Lib.hid h1; have HA9 := Lib.hid (show Below w2.heap.size w2 W9 from HA8.out.trans h3); clear h1 h2 h3
        refine held_one (i := 12) (d := some 12) (fuel := 0) (listed' := #[true, true, true, true, true, true, true, true, true, true, true, true, true]) rfl rfl (by kernel_rfl) rfl (by rfl) (fun K hK => ?_)
        go_simp
        refine hK.out _ _ trivial ?_
        clear hK K
        simp only [Act.put, List.setIfInBounds_toArray, List.set_cons_zero, List.set_cons_succ]
        refine wpAnyH_done (by kernel_rfl) ?_ _
        go_wp2_with fail
        have hY9 := hY1.out
        subst hY9
        go_meet
        exact ⟨_, rfl, Lib.hid ⟨by have := own_sv HB9.out; rw [List.nil_append, List.append_assoc] at this; exact this, HA9.out⟩⟩
    · have hv1 := sv_cut HO.out k (by rw [List.length_map, HN0.out]; exact hkn) hgl
      obtain ⟨A3, hA3⟩ : ∃ A3, (if cp = k then some (⟨g, 0, none⟩ : Addr) else some ⟨g, k * 3, none⟩) = A3 := ⟨_, rfl⟩
      have hv2 := sv_tail HO.out k (by rw [List.length_map, HN0.out]; exact hkn) hgl A3 (by rw [List.length_map, HN0.out]; exact tail_addr g k n cp hncp A3 hA3)
      rw [List.length_map, HN0.out] at hv2
      have HV1 := Lib.hid hv1; have HV2 := Lib.hid hv2
      clear hv1 hv2
      refine wp_region_held_drew (S := fun _ => True) (by kernel_rfl) trivial (fun _ => ?_)
      show wpAnyH _ _ _ _ _ 13 #[false, false, false, false, false, false, false, false, false, false, false, false, false] _ _
      refine held_take (i := 1) (d := some 32) (fuel := 12) (listed' := #[false, true, false, false, false, false, false, false, false, false, false, false, false]) (v := ?_) rfl rfl (by kernel_rfl) (by kernel_rfl) (by kernel_rfl) rfl (fun _ _ _ h => h) (by rfl) ?_ trivial ?_
      rotate_left
      · (intro wS hSw; go_simp; try (with_reducible rfl))
      simp only [Act.put, List.setIfInBounds_toArray, List.set_cons_zero, List.set_cons_succ]
      refine held_take (i := 2) (d := some 33) (fuel := 11) (listed' := #[false, true, true, false, false, false, false, false, false, false, false, false, false]) (v := ?_) rfl rfl (by kernel_rfl) (by kernel_rfl) (by kernel_rfl) rfl (fun _ _ _ h => h) (by rfl) ?_ trivial ?_
      rotate_left
      · (intro wS hSw; go_simp; try (with_reducible rfl))
      simp only [Act.put, List.setIfInBounds_toArray, List.set_cons_zero, List.set_cons_succ]
      refine held_take (i := 3) (d := some 34) (fuel := 10) (listed' := #[false, true, true, true, false, false, false, false, false, false, false, false, false]) (v := ?_) rfl rfl (by kernel_rfl) (by kernel_rfl) (by kernel_rfl) rfl (fun _ _ _ h => h) (by rfl) ?_ trivial ?_
      rotate_left
      · (intro wS hSw; go_simp; try (with_reducible rfl))
      simp only [Act.put, List.setIfInBounds_toArray, List.set_cons_zero, List.set_cons_succ]
      refine held_take (i := 5) (d := some 36) (fuel := 9) (listed' := #[false, true, true, true, false, true, false, false, false, false, false, false, false]) (v := ?_) rfl rfl (by kernel_rfl) (by kernel_rfl) (by kernel_rfl) rfl (fun _ _ _ h => h) (by rfl) ?_ trivial ?_
      rotate_left
      · (intro wS hSw; go_simp; try (with_reducible rfl))
      simp only [Act.put, List.setIfInBounds_toArray, List.set_cons_zero, List.set_cons_succ]
      refine held_take (i := 8) (d := some 39) (fuel := 8) (listed' := #[false, true, true, true, false, true, false, false, true, false, false, false, false]) (v := ?_) rfl rfl (by kernel_rfl) (by kernel_rfl) (by kernel_rfl) rfl (fun _ _ _ h => h) (by rfl) ?_ trivial ?_
      rotate_left
      · (intro wS hSw; go_simp; try (with_reducible rfl))
      simp only [Act.put, List.setIfInBounds_toArray, List.set_cons_zero, List.set_cons_succ]
      refine held_take (i := 9) (d := some 40) (fuel := 7) (listed' := #[false, true, true, true, false, true, false, false, true, true, false, false, false]) (v := ?_) rfl rfl (by kernel_rfl) (by kernel_rfl) (by kernel_rfl) rfl (fun _ _ _ h => h) (by rfl) ?_ trivial ?_
      rotate_left
      · (intro wS hSw; go_simp; try (with_reducible rfl))
      simp only [Act.put, List.setIfInBounds_toArray, List.set_cons_zero, List.set_cons_succ]
      refine held_take (i := 10) (d := some 41) (fuel := 6) (listed' := #[false, true, true, true, false, true, false, false, true, true, true, false, false]) (v := ?_) rfl rfl (by kernel_rfl) (by kernel_rfl) (by kernel_rfl) rfl (fun _ _ _ h => h) (by rfl) ?_ trivial ?_
      rotate_left
      · (intro wS hSw; go_simp; try (with_reducible rfl))
      simp only [Act.put, List.setIfInBounds_toArray, List.set_cons_zero, List.set_cons_succ]

      obtain ⟨Y1, hY1⟩ : ∃ Y1, Value.slice (some ⟨g, 0, none⟩) k cp = Y1 := ⟨_, rfl⟩
      obtain ⟨Y2, hY2⟩ : ∃ Y2, Value.slice A3 (n - k) (cp - k) = Y2 := ⟨_, rfl⟩
      rw [hY1] at HV1 ⊢
      rw [hY2] at HV2 ⊢
      clear hY1 hY2 hA3
      refine wpAnyH_ready (rs := [0, 6]) (by kernel_rfl) (by simp) (AllReadyH.cons rfl (fun K hK => ?_) (AllReadyH.cons rfl (fun K hK => ?_) AllReadyH.nil))
      · rw [if_pos (by rfl)]
        go_simp
        refine hK.out _ _ trivial (fun _ => ?_)
        clear hK K
        simp only [Act.put, List.setIfInBounds_toArray, List.set_cons_zero, List.set_cons_succ]
        have HLa := Lib.hid (show Own encVl 28 (w2.drew.alloc (.cells #[] 28)) w2.heap.size (.slice (some ⟨w2.heap.size, 0, none⟩) 0 0) ([] : List Vl) from by have h0 := own_lit0 w2.drew w2.heap.size HD0.out.size; rw [show w2.drew.heap.size = w2.heap.size from rfl] at h0; exact h0)
        have HAa := Lib.hid (show Below w2.heap.size w2 (w2.drew.alloc (.cells #[] 28)) from HD0.out.alloc HD0.out.size _)
        refine wpAnyH_ready (rs := [4, 6]) (by kernel_rfl) (by simp) (AllReadyH.cons rfl (fun K hK => ?_) (AllReadyH.cons rfl (fun K hK => ?_) AllReadyH.nil))
        · rw [if_pos (by rfl)]
          refine wp_app_srcG HEL.out encVl (.tmp 31) (.tmp 34) rfl w2.heap.size (.slice (some ⟨w2.heap.size, 0, none⟩) 0 0) [] rfl HLa.out Y1 k ((xs.map Vl.num).take k) rfl HTL.out (by have h0 := src_sv (HV1.out.next HAa.out); rw [HTL.out] at h0; exact h0) ?_ ?_ ?_ ?_
          · exact HSZ.out _ _ (by first | (simp only [List.length_append, List.length_take, List.length_map, List.length_cons, List.length_nil, List.length_drop]; omega) | (simp only [List.length_append, List.length_take, List.length_map, List.length_cons, List.length_nil, List.length_drop]; rw [HN0.out]; omega) | simp only [List.length_append, List.length_take, List.length_map, List.length_cons, List.length_nil, List.length_drop])
          · exact HMX.out _ (by first | (simp only [List.length_append, List.length_take, List.length_map, List.length_cons, List.length_nil, List.length_drop]; omega) | (simp only [List.length_append, List.length_take, List.length_map, List.length_cons, List.length_nil, List.length_drop]; rw [HN0.out]; omega) | simp only [List.length_append, List.length_take, List.length_map, List.length_cons, List.length_nil, List.length_drop])
          · exact HAa.out.size
          intro va W3 h1 h2 h3
          refine hK.out _ _ trivial (fun _ => ?_)
          clear hK K
          simp only [Act.put, List.getElem_toArray, List.getElem_cons_succ, List.getElem_cons_zero, List.setIfInBounds_toArray, List.set_cons_zero, List.set_cons_succ]
          have HO3 := Lib.hid h1; have HA3 := Lib.hid (show Below w2.heap.size w2 W3 from HAa.out.trans h3); clear h1 h2 h3
          refine held_one (i := 6) (d := some 37) (fuel := 3) (listed' := #[true, true, true, true, true, true, true, false, true, true, true, false, false]) rfl rfl (by kernel_rfl) rfl (by rfl) (fun K hK => ?_)
          go_simp
          refine hK.out _ _ trivial ?_
          clear hK K
          simp only [Act.put, List.setIfInBounds_toArray, List.set_cons_zero, List.set_cons_succ]
          have HNb := Lib.hid (show SV (W3.alloc (.cells #[.int .i64 0, .int .i64 0, .string ⟨#[]⟩] 28)) (W3.alloc (.cells #[.int .i64 0, .int .i64 0, .string ⟨#[]⟩] 28)).heap.size (.slice (some ⟨W3.heap.size, 0, none⟩) 1 1) [Vl.none] from by have h0 : SV (W3.alloc (.cells #[.int .i64 0, .int .i64 0, .string ⟨#[]⟩] 28)) (W3.alloc (.cells #[.int .i64 0, .int .i64 0, .string ⟨#[]⟩] 28)).heap.size (.slice (some ⟨W3.heap.size, 0, none⟩) 1 1) [Vl.none] := sv_one W3 Vl.none 28; rw [show W3.heap.size = W3.heap.size from rfl] at h0; exact h0)
          have HAb := Lib.hid (show Below w2.heap.size w2 (W3.alloc (.cells #[.int .i64 0, .int .i64 0, .string ⟨#[]⟩] 28)) from HA3.out.alloc HA3.out.size _)
          have HO4 := Lib.hid (HO3.out.alloc (.cells #[.int .i64 0, .int .i64 0, .string ⟨#[]⟩] 28))
          refine held_one (i := 7) (d := some 38) (fuel := 2) (listed' := #[true, true, true, true, true, true, true, true, true, true, true, false, false]) rfl rfl (by kernel_rfl) rfl (by rfl) (fun K hK => ?_)
          refine wp_app_srcG HEL.out encVl (.tmp 35) (.tmp 37) rfl w2.heap.size va ([] ++ (xs.map Vl.num).take k) rfl HO4.out (.slice (some ⟨W3.heap.size, 0, none⟩) 1 1) 1 [Vl.none] rfl rfl (src_sv HNb.out) ?_ ?_ ?_ ?_
          · exact HSZ.out _ _ (by first | (simp only [List.length_append, List.length_take, List.length_map, List.length_cons, List.length_nil, List.length_drop]; omega) | (simp only [List.length_append, List.length_take, List.length_map, List.length_cons, List.length_nil, List.length_drop]; rw [HN0.out]; omega) | simp only [List.length_append, List.length_take, List.length_map, List.length_cons, List.length_nil, List.length_drop])
          · exact HMX.out _ (by first | (simp only [List.length_append, List.length_take, List.length_map, List.length_cons, List.length_nil, List.length_drop]; omega) | (simp only [List.length_append, List.length_take, List.length_map, List.length_cons, List.length_nil, List.length_drop]; rw [HN0.out]; omega) | simp only [List.length_append, List.length_take, List.length_map, List.length_cons, List.length_nil, List.length_drop])
          · exact HAb.out.size
          intro vb W8 h1 h2 h3
          refine hK.out _ _ trivial ?_
          clear hK K
          simp only [Act.put, List.setIfInBounds_toArray, List.set_cons_zero, List.set_cons_succ]
          have HB8 := Lib.hid h1; have HA8 := Lib.hid (show Below w2.heap.size w2 W8 from HAb.out.trans h3); clear h1 h2 h3
          refine held_one (i := 11) (d := some 42) (fuel := 1) (listed' := #[true, true, true, true, true, true, true, true, true, true, true, true, false]) rfl rfl (by kernel_rfl) rfl (by rfl) (fun K hK => ?_)
          refine wp_app_srcG HEL.out encVl (.tmp 38) (.tmp 41) rfl w2.heap.size vb (([] ++ (xs.map Vl.num).take k) ++ [Vl.none]) rfl HB8.out Y2 (n - k) ((xs.map Vl.num).drop k) rfl HDL.out (by have h0 := src_sv (HV2.out.next HA8.out); rw [HDL.out] at h0; exact h0) ?_ ?_ ?_ ?_
          · exact HSZ.out _ _ (by first | (simp only [List.length_append, List.length_take, List.length_map, List.length_cons, List.length_nil, List.length_drop]; omega) | (simp only [List.length_append, List.length_take, List.length_map, List.length_cons, List.length_nil, List.length_drop]; rw [HN0.out]; omega) | simp only [List.length_append, List.length_take, List.length_map, List.length_cons, List.length_nil, List.length_drop])
          · exact HMX.out _ (by first | (simp only [List.length_append, List.length_take, List.length_map, List.length_cons, List.length_nil, List.length_drop]; omega) | (simp only [List.length_append, List.length_take, List.length_map, List.length_cons, List.length_nil, List.length_drop]; rw [HN0.out]; omega) | simp only [List.length_append, List.length_take, List.length_map, List.length_cons, List.length_nil, List.length_drop])
          · exact HA8.out.size
          intro vc W9 h1 h2 h3
          refine hK.out _ _ trivial ?_
          clear hK K
          simp only [Act.put, List.setIfInBounds_toArray, List.set_cons_zero, List.set_cons_succ]
          have HB9 := Lib.hid h1; have HA9 := Lib.hid (show Below w2.heap.size w2 W9 from HA8.out.trans h3); clear h1 h2 h3
          refine held_one (i := 12) (d := some 12) (fuel := 0) (listed' := #[true, true, true, true, true, true, true, true, true, true, true, true, true]) rfl rfl (by kernel_rfl) rfl (by rfl) (fun K hK => ?_)
          go_simp
          refine hK.out _ _ trivial ?_
          clear hK K
          simp only [Act.put, List.setIfInBounds_toArray, List.set_cons_zero, List.set_cons_succ]
          refine wpAnyH_done (by kernel_rfl) ?_ _
          go_wp2_with fail
          go_meet
          exact ⟨_, rfl, Lib.hid ⟨by have := own_sv HB9.out; rw [List.nil_append, List.append_assoc] at this; exact this, HA9.out⟩⟩
        · rw [if_pos (by rfl)]
          go_simp
          refine hK.out _ _ trivial (fun _ => ?_)
          clear hK K
          simp only [Act.put, List.setIfInBounds_toArray, List.set_cons_zero, List.set_cons_succ]
          have HNb := Lib.hid (show SV ((w2.drew.alloc (.cells #[] 28)).alloc (.cells #[.int .i64 0, .int .i64 0, .string ⟨#[]⟩] 28)) ((w2.drew.alloc (.cells #[] 28)).alloc (.cells #[.int .i64 0, .int .i64 0, .string ⟨#[]⟩] 28)).heap.size (.slice (some ⟨w2.heap.size + 1, 0, none⟩) 1 1) [Vl.none] from by have h0 : SV ((w2.drew.alloc (.cells #[] 28)).alloc (.cells #[.int .i64 0, .int .i64 0, .string ⟨#[]⟩] 28)) ((w2.drew.alloc (.cells #[] 28)).alloc (.cells #[.int .i64 0, .int .i64 0, .string ⟨#[]⟩] 28)).heap.size (.slice (some ⟨(w2.drew.alloc (.cells #[] 28)).heap.size, 0, none⟩) 1 1) [Vl.none] := sv_one (w2.drew.alloc (.cells #[] 28)) Vl.none 28; rw [show (w2.drew.alloc (.cells #[] 28)).heap.size = w2.heap.size + 1 from World.size_alloc _ _] at h0; exact h0)
          have HAb := Lib.hid (show Below w2.heap.size w2 ((w2.drew.alloc (.cells #[] 28)).alloc (.cells #[.int .i64 0, .int .i64 0, .string ⟨#[]⟩] 28)) from HAa.out.alloc HAa.out.size _)
          have HL4 := Lib.hid (HLa.out.alloc (.cells #[.int .i64 0, .int .i64 0, .string ⟨#[]⟩] 28))
          refine held_one (i := 4) (d := some 35) (fuel := 3) (listed' := #[true, true, true, true, true, true, true, false, true, true, true, false, false]) rfl rfl (by kernel_rfl) rfl (by rfl) (fun K hK => ?_)
          refine wp_app_srcG HEL.out encVl (.tmp 31) (.tmp 34) rfl w2.heap.size (.slice (some ⟨w2.heap.size, 0, none⟩) 0 0) [] rfl HL4.out Y1 k ((xs.map Vl.num).take k) rfl HTL.out (by have h0 := src_sv (HV1.out.next HAb.out); rw [HTL.out] at h0; exact h0) ?_ ?_ ?_ ?_
          · exact HSZ.out _ _ (by first | (simp only [List.length_append, List.length_take, List.length_map, List.length_cons, List.length_nil, List.length_drop]; omega) | (simp only [List.length_append, List.length_take, List.length_map, List.length_cons, List.length_nil, List.length_drop]; rw [HN0.out]; omega) | simp only [List.length_append, List.length_take, List.length_map, List.length_cons, List.length_nil, List.length_drop])
          · exact HMX.out _ (by first | (simp only [List.length_append, List.length_take, List.length_map, List.length_cons, List.length_nil, List.length_drop]; omega) | (simp only [List.length_append, List.length_take, List.length_map, List.length_cons, List.length_nil, List.length_drop]; rw [HN0.out]; omega) | simp only [List.length_append, List.length_take, List.length_map, List.length_cons, List.length_nil, List.length_drop])
          · exact HAb.out.size
          intro va W3 h1 h2 h3
          refine hK.out _ _ trivial ?_
          clear hK K
          simp only [Act.put, List.setIfInBounds_toArray, List.set_cons_zero, List.set_cons_succ]
          have HO3 := Lib.hid h1; have HA3 := Lib.hid (show Below w2.heap.size w2 W3 from HAb.out.trans h3)
          have HN3 := Lib.hid (sv_grown HNb.out h2 (.inr fun b hb e => by have e1 : some (w2.heap.size) = some b := e; have e2 : some (w2.heap.size + 1) = some b := hb; have e3 := (Option.some.inj e1).trans (Option.some.inj e2).symm; omega)); clear h1 h2 h3
          refine held_one (i := 7) (d := some 38) (fuel := 2) (listed' := #[true, true, true, true, true, true, true, true, true, true, true, false, false]) rfl rfl (by kernel_rfl) rfl (by rfl) (fun K hK => ?_)
          refine wp_app_srcG HEL.out encVl (.tmp 35) (.tmp 37) rfl w2.heap.size va ([] ++ (xs.map Vl.num).take k) rfl HO3.out (.slice (some ⟨w2.heap.size + 1, 0, none⟩) 1 1) 1 [Vl.none] rfl rfl (src_sv HN3.out) ?_ ?_ ?_ ?_
          · exact HSZ.out _ _ (by first | (simp only [List.length_append, List.length_take, List.length_map, List.length_cons, List.length_nil, List.length_drop]; omega) | (simp only [List.length_append, List.length_take, List.length_map, List.length_cons, List.length_nil, List.length_drop]; rw [HN0.out]; omega) | simp only [List.length_append, List.length_take, List.length_map, List.length_cons, List.length_nil, List.length_drop])
          · exact HMX.out _ (by first | (simp only [List.length_append, List.length_take, List.length_map, List.length_cons, List.length_nil, List.length_drop]; omega) | (simp only [List.length_append, List.length_take, List.length_map, List.length_cons, List.length_nil, List.length_drop]; rw [HN0.out]; omega) | simp only [List.length_append, List.length_take, List.length_map, List.length_cons, List.length_nil, List.length_drop])
          · exact HA3.out.size
          intro vb W8 h1 h2 h3
          refine hK.out _ _ trivial ?_
          clear hK K
          simp only [Act.put, List.setIfInBounds_toArray, List.set_cons_zero, List.set_cons_succ]
          have HB8 := Lib.hid h1; have HA8 := Lib.hid (show Below w2.heap.size w2 W8 from HA3.out.trans h3); clear h1 h2 h3
          refine held_one (i := 11) (d := some 42) (fuel := 1) (listed' := #[true, true, true, true, true, true, true, true, true, true, true, true, false]) rfl rfl (by kernel_rfl) rfl (by rfl) (fun K hK => ?_)
          refine wp_app_srcG HEL.out encVl (.tmp 38) (.tmp 41) rfl w2.heap.size vb (([] ++ (xs.map Vl.num).take k) ++ [Vl.none]) rfl HB8.out Y2 (n - k) ((xs.map Vl.num).drop k) rfl HDL.out (by have h0 := src_sv (HV2.out.next HA8.out); rw [HDL.out] at h0; exact h0) ?_ ?_ ?_ ?_
          · exact HSZ.out _ _ (by first | (simp only [List.length_append, List.length_take, List.length_map, List.length_cons, List.length_nil, List.length_drop]; omega) | (simp only [List.length_append, List.length_take, List.length_map, List.length_cons, List.length_nil, List.length_drop]; rw [HN0.out]; omega) | simp only [List.length_append, List.length_take, List.length_map, List.length_cons, List.length_nil, List.length_drop])
          · exact HMX.out _ (by first | (simp only [List.length_append, List.length_take, List.length_map, List.length_cons, List.length_nil, List.length_drop]; omega) | (simp only [List.length_append, List.length_take, List.length_map, List.length_cons, List.length_nil, List.length_drop]; rw [HN0.out]; omega) | simp only [List.length_append, List.length_take, List.length_map, List.length_cons, List.length_nil, List.length_drop])
          · exact HA8.out.size
          intro vc W9 h1 h2 h3
          refine hK.out _ _ trivial ?_
          clear hK K
          simp only [Act.put, List.setIfInBounds_toArray, List.set_cons_zero, List.set_cons_succ]
          have HB9 := Lib.hid h1; have HA9 := Lib.hid (show Below w2.heap.size w2 W9 from HA8.out.trans h3); clear h1 h2 h3
          refine held_one (i := 12) (d := some 12) (fuel := 0) (listed' := #[true, true, true, true, true, true, true, true, true, true, true, true, true]) rfl rfl (by kernel_rfl) rfl (by rfl) (fun K hK => ?_)
          go_simp
          refine hK.out _ _ trivial ?_
          clear hK K
          simp only [Act.put, List.setIfInBounds_toArray, List.set_cons_zero, List.set_cons_succ]
          refine wpAnyH_done (by kernel_rfl) ?_ _
          go_wp2_with fail
          go_meet
          exact ⟨_, rfl, Lib.hid ⟨by have := own_sv HB9.out; rw [List.nil_append, List.append_assoc] at this; exact this, HA9.out⟩⟩
      · rw [if_pos (by rfl)]
        go_simp
        refine hK.out _ _ trivial (fun _ => ?_)
        clear hK K
        simp only [Act.put, List.setIfInBounds_toArray, List.set_cons_zero, List.set_cons_succ]
        have HNa := Lib.hid (show SV (w2.drew.alloc (.cells #[.int .i64 0, .int .i64 0, .string ⟨#[]⟩] 28)) (w2.drew.alloc (.cells #[.int .i64 0, .int .i64 0, .string ⟨#[]⟩] 28)).heap.size (.slice (some ⟨w2.heap.size, 0, none⟩) 1 1) [Vl.none] from by have h0 : SV (w2.drew.alloc (.cells #[.int .i64 0, .int .i64 0, .string ⟨#[]⟩] 28)) (w2.drew.alloc (.cells #[.int .i64 0, .int .i64 0, .string ⟨#[]⟩] 28)).heap.size (.slice (some ⟨w2.drew.heap.size, 0, none⟩) 1 1) [Vl.none] := sv_one w2.drew Vl.none 28; rw [show w2.drew.heap.size = w2.heap.size from rfl] at h0; exact h0)
        have HAa := Lib.hid (show Below w2.heap.size w2 (w2.drew.alloc (.cells #[.int .i64 0, .int .i64 0, .string ⟨#[]⟩] 28)) from HD0.out.alloc HD0.out.size _)
        refine held_one (i := 0) (d := some 31) (fuel := 4) (listed' := #[true, true, true, true, false, true, true, false, true, true, true, false, false]) rfl rfl (by kernel_rfl) rfl (by rfl) (fun K hK => ?_)
        go_simp
        refine hK.out _ _ trivial ?_
        clear hK K
        simp only [Act.put, List.setIfInBounds_toArray, List.set_cons_zero, List.set_cons_succ]
        have HLb := Lib.hid (show Own encVl 28 ((w2.drew.alloc (.cells #[.int .i64 0, .int .i64 0, .string ⟨#[]⟩] 28)).alloc (.cells #[] 28)) w2.heap.size (.slice (some ⟨w2.heap.size + 1, 0, none⟩) 0 0) ([] : List Vl) from by have h0 := own_lit0 (w2.drew.alloc (.cells #[.int .i64 0, .int .i64 0, .string ⟨#[]⟩] 28)) w2.heap.size HAa.out.size; rw [show (w2.drew.alloc (.cells #[.int .i64 0, .int .i64 0, .string ⟨#[]⟩] 28)).heap.size = w2.heap.size + 1 from World.size_alloc _ _] at h0; exact h0)
        have HAb := Lib.hid (show Below w2.heap.size w2 ((w2.drew.alloc (.cells #[.int .i64 0, .int .i64 0, .string ⟨#[]⟩] 28)).alloc (.cells #[] 28)) from HAa.out.alloc HAa.out.size _)
        have HN4 := Lib.hid (HNa.out.next (Aft.alloc _ (.cells #[] 28)))
        refine held_one (i := 4) (d := some 35) (fuel := 3) (listed' := #[true, true, true, true, true, true, true, false, true, true, true, false, false]) rfl rfl (by kernel_rfl) rfl (by rfl) (fun K hK => ?_)
        refine wp_app_srcG HEL.out encVl (.tmp 31) (.tmp 34) rfl w2.heap.size (.slice (some ⟨w2.heap.size + 1, 0, none⟩) 0 0) [] rfl HLb.out Y1 k ((xs.map Vl.num).take k) rfl HTL.out (by have h0 := src_sv (HV1.out.next HAb.out); rw [HTL.out] at h0; exact h0) ?_ ?_ ?_ ?_
        · exact HSZ.out _ _ (by first | (simp only [List.length_append, List.length_take, List.length_map, List.length_cons, List.length_nil, List.length_drop]; omega) | (simp only [List.length_append, List.length_take, List.length_map, List.length_cons, List.length_nil, List.length_drop]; rw [HN0.out]; omega) | simp only [List.length_append, List.length_take, List.length_map, List.length_cons, List.length_nil, List.length_drop])
        · exact HMX.out _ (by first | (simp only [List.length_append, List.length_take, List.length_map, List.length_cons, List.length_nil, List.length_drop]; omega) | (simp only [List.length_append, List.length_take, List.length_map, List.length_cons, List.length_nil, List.length_drop]; rw [HN0.out]; omega) | simp only [List.length_append, List.length_take, List.length_map, List.length_cons, List.length_nil, List.length_drop])
        · exact HAb.out.size
        intro va W3 h1 h2 h3
        refine hK.out _ _ trivial ?_
        clear hK K
        simp only [Act.put, List.setIfInBounds_toArray, List.set_cons_zero, List.set_cons_succ]
        have HO3 := Lib.hid h1; have HA3 := Lib.hid (show Below w2.heap.size w2 W3 from HAb.out.trans h3)
        have HN3 := Lib.hid (sv_grown HN4.out h2 (.inr fun b hb e => by have e1 : some (w2.heap.size + 1) = some b := e; have e2 : some (w2.heap.size) = some b := hb; have e3 := (Option.some.inj e1).trans (Option.some.inj e2).symm; omega)); clear h1 h2 h3
        refine held_one (i := 7) (d := some 38) (fuel := 2) (listed' := #[true, true, true, true, true, true, true, true, true, true, true, false, false]) rfl rfl (by kernel_rfl) rfl (by rfl) (fun K hK => ?_)
        refine wp_app_srcG HEL.out encVl (.tmp 35) (.tmp 37) rfl w2.heap.size va ([] ++ (xs.map Vl.num).take k) rfl HO3.out (.slice (some ⟨w2.heap.size, 0, none⟩) 1 1) 1 [Vl.none] rfl rfl (src_sv HN3.out) ?_ ?_ ?_ ?_
        · exact HSZ.out _ _ (by first | (simp only [List.length_append, List.length_take, List.length_map, List.length_cons, List.length_nil, List.length_drop]; omega) | (simp only [List.length_append, List.length_take, List.length_map, List.length_cons, List.length_nil, List.length_drop]; rw [HN0.out]; omega) | simp only [List.length_append, List.length_take, List.length_map, List.length_cons, List.length_nil, List.length_drop])
        · exact HMX.out _ (by first | (simp only [List.length_append, List.length_take, List.length_map, List.length_cons, List.length_nil, List.length_drop]; omega) | (simp only [List.length_append, List.length_take, List.length_map, List.length_cons, List.length_nil, List.length_drop]; rw [HN0.out]; omega) | simp only [List.length_append, List.length_take, List.length_map, List.length_cons, List.length_nil, List.length_drop])
        · exact HA3.out.size
        intro vb W8 h1 h2 h3
        refine hK.out _ _ trivial ?_
        clear hK K
        simp only [Act.put, List.setIfInBounds_toArray, List.set_cons_zero, List.set_cons_succ]
        have HB8 := Lib.hid h1; have HA8 := Lib.hid (show Below w2.heap.size w2 W8 from HA3.out.trans h3); clear h1 h2 h3
        refine held_one (i := 11) (d := some 42) (fuel := 1) (listed' := #[true, true, true, true, true, true, true, true, true, true, true, true, false]) rfl rfl (by kernel_rfl) rfl (by rfl) (fun K hK => ?_)
        refine wp_app_srcG HEL.out encVl (.tmp 38) (.tmp 41) rfl w2.heap.size vb (([] ++ (xs.map Vl.num).take k) ++ [Vl.none]) rfl HB8.out Y2 (n - k) ((xs.map Vl.num).drop k) rfl HDL.out (by have h0 := src_sv (HV2.out.next HA8.out); rw [HDL.out] at h0; exact h0) ?_ ?_ ?_ ?_
        · exact HSZ.out _ _ (by first | (simp only [List.length_append, List.length_take, List.length_map, List.length_cons, List.length_nil, List.length_drop]; omega) | (simp only [List.length_append, List.length_take, List.length_map, List.length_cons, List.length_nil, List.length_drop]; rw [HN0.out]; omega) | simp only [List.length_append, List.length_take, List.length_map, List.length_cons, List.length_nil, List.length_drop])
        · exact HMX.out _ (by first | (simp only [List.length_append, List.length_take, List.length_map, List.length_cons, List.length_nil, List.length_drop]; omega) | (simp only [List.length_append, List.length_take, List.length_map, List.length_cons, List.length_nil, List.length_drop]; rw [HN0.out]; omega) | simp only [List.length_append, List.length_take, List.length_map, List.length_cons, List.length_nil, List.length_drop])
        · exact HA8.out.size
        intro vc W9 h1 h2 h3
        refine hK.out _ _ trivial ?_
        clear hK K
        simp only [Act.put, List.setIfInBounds_toArray, List.set_cons_zero, List.set_cons_succ]
        have HB9 := Lib.hid h1; have HA9 := Lib.hid (show Below w2.heap.size w2 W9 from HA8.out.trans h3); clear h1 h2 h3
        refine held_one (i := 12) (d := some 12) (fuel := 0) (listed' := #[true, true, true, true, true, true, true, true, true, true, true, true, true]) rfl rfl (by kernel_rfl) rfl (by rfl) (fun K hK => ?_)
        go_simp
        refine hK.out _ _ trivial ?_
        clear hK K
        simp only [Act.put, List.setIfInBounds_toArray, List.set_cons_zero, List.set_cons_succ]
        refine wpAnyH_done (by kernel_rfl) ?_ _
        go_wp2_with fail
        go_meet
        exact ⟨_, rfl, Lib.hid ⟨by have := own_sv HB9.out; rw [List.nil_append, List.append_assoc] at this; exact this, HA9.out⟩⟩
  case rest =>
    obtain ⟨wy, rfl, HC⟩ := hcut
    obtain ⟨A4, cp4, hu4, hdm⟩ := id HC.out.1
    clear hdm
    obtain ⟨m4, hm4⟩ : ∃ m, (insN (xs.map Vl.num) k).length = m := ⟨_, rfl⟩
    rw [hm4] at hu4
    subst hu4
    clear hm4 HSZ HMX HEL HTL HDL HD0 HIN
    have HAY := Lib.hid (show Aft w wy from (show Aft w w2 from HB2.out).trans HC.out.2)
    have HV2 := Lib.hid (SV.next (own_sv HO.out) HC.out.2)
    have HV4 := Lib.hid HC.out.1
    have hvo : ∀ x ∈ xs.map Vl.num, VOk x := by
      intro x hx
      obtain ⟨y, hy, rfl⟩ := List.mem_map.1 hx
      have := HX.out y hy
      exact ok_num y (by omega) (by omega)
    have hv4 : ∀ x ∈ xs.map Vl.num, ¬ x.k = 4 := by
      intro x hx
      obtain ⟨y, hy, rfl⟩ := List.mem_map.1 hx
      show ¬ (1 : Int) = 4
      decide
    have hvi : ∀ x ∈ insN (xs.map Vl.num) k, VOk x := by
      intro x hx
      unfold insN at hx
      rcases List.mem_append.1 hx with h | h
      · exact hvo x (List.mem_of_mem_take h)
      · rcases List.mem_cons.1 h with rfl | h
        · exact ⟨by decide, by decide, by decide⟩
        · exact hvo x (List.mem_of_mem_drop h)
    have hln : (xs.map Vl.num).length ≤ 1000000 := by rw [List.length_map, HN0.out]; omega
    have hli : (insN (xs.map Vl.num) k).length ≤ 1000000 := by
      unfold insN
      rw [List.length_append, List.length_cons, List.length_take, List.length_drop, List.length_map, HN0.out]
      omega
    obtain ⟨s, hsv⟩ : ∃ s, sevenV j (xs.map Vl.num) = s := ⟨_, rfl⟩
    obtain ⟨d, hd⟩ : ∃ d, strOfNums (decL at') = d := ⟨_, rfl⟩
    have hds : d.size ≤ 20 := by rw [← hd, strOfNums_size]; exact decL_len at' (by omega) (by omega)
    have hnz : ((⟨#[78, 79, 80, 69]⟩ : ByteArray) ++ d).size ≤ 1000000 := by rw [ByteArray.size_append]; show 4 + d.size ≤ _; omega
    have HDG := Lib.hid (fun (W : World) => refDigits_any at' (by omega) (by omega) W)
    rw [hd] at HDG
    obtain ⟨x, hx⟩ : ∃ x, makeV (4 % 5) e ⟨#[]⟩ = x := ⟨_, rfl⟩
    have HMK := Lib.hid (fun (W : World) => make_any 4 e ⟨#[]⟩ (by decide) (by decide) W)
    rw [hx] at HMK
    have HON := Lib.hid (fun (W : World) => one_any x W)
    have HMISS := Lib.hid (fun (W : World) (g1 : Addr) (o : Nat) (ty : TypeId) (ho : W.heap.size = o) (h1 : SV W W.heap.size (.slice (some g1) 1 1) [x]) =>
      (show Calls Tryz.prog 6 #[.string ((⟨#[78, 79, 80, 69]⟩ : ByteArray) ++ d), .slice (some ⟨o, 0, none⟩) 1 1] (W.alloc (.cells #[.bool false, .int .i64 0, .slice (some g1) 1 1] ty)) (fun er w' => er = .returned (.agg #[.int .i64 4, .int .i64 5, .string ⟨#[]⟩]) ∧ Below (W.alloc (.cells #[.bool false, .int .i64 0, .slice (some g1) 1 1] ty)).heap.size (W.alloc (.cells #[.bool false, .int .i64 0, .slice (some g1) 1 1] ty)) w') from
        call_miss _ _ [agOne x (.slice (some g1) 1 1)] _ hnz (sa_new W _ ty [agOne x (.slice (some g1) 1 1)] 1 o ho rfl rfl (fun a ha => by simp only [List.mem_cons, List.not_mem_nil, or_false] at ha; subst ha; exact h1)) (fun c => nope_no d c)))
    have HC1 := Lib.hid (fun (W : World) (hW : Aft wy W) (o : Nat) (ty : TypeId) (ho : W.heap.size = o) =>
      (show Calls Tryz.prog 6 #[.string nm, .slice (some ⟨o, 0, none⟩) 1 1] (W.alloc (.cells #[.bool true, .int .i64 1, .slice A2 n cp] ty)) (fun er w' => er = .returned (.agg #[.int .i64 s.k, .int .i64 s.n, .string s.s]) ∧ Below (W.alloc (.cells #[.bool true, .int .i64 1, .slice A2 n cp] ty)).heap.size (W.alloc (.cells #[.bool true, .int .i64 1, .slice A2 n cp] ty)) w') from by
        have h := seven_call j hj7 _ _ (Like.refl _ hv4) hv4 _ _ _ (sa_range W _ _ o ty ho (SV.next HV2.out hW)) (az_range _ _ hln hvo) (HT.out.below (Aft.allocR _ (HAY.out.trans hW))) (HE.out.below (Aft.allocR _ (HAY.out.trans hW)))
        rw [HNM.out, hsv] at h
        exact h))
    have HC2 := Lib.hid (fun (W : World) (hW : Aft wy W) (o : Nat) (ty : TypeId) (ho : W.heap.size = o) =>
      (show Calls Tryz.prog 6 #[.string nm, .slice (some ⟨o, 0, none⟩) 1 1] (W.alloc (.cells #[.bool true, .int .i64 1, .slice A4 m4 cp4] ty)) (fun er w' => er = .returned (.agg #[.int .i64 s.k, .int .i64 s.n, .string s.s]) ∧ Below (W.alloc (.cells #[.bool true, .int .i64 1, .slice A4 m4 cp4] ty)).heap.size (W.alloc (.cells #[.bool true, .int .i64 1, .slice A4 m4 cp4] ty)) w') from by
        have h := seven_call j hj7 _ _ (Like.ins _ k hv4) hv4 _ _ _ (sa_range W _ _ o ty ho (SV.next HV4.out hW)) (az_range _ _ hli hvi) (HT.out.below (Aft.allocR _ (HAY.out.trans hW))) (HE.out.below (Aft.allocR _ (HAY.out.trans hW)))
        rw [HNM.out, hsv] at h
        exact h))
    have HAWK := Lib.hid (fun (W : World) (hW : Aft w W) => awake8_any W (HT.out.below hW) (HE.out.below hW))
    have hwe : IntKind.i64.wrap e = e := by rw [IntKind.wrap_i64]; omega
    clear hvo hv4 hvi hln hli hsv hd hnz hx HT HE HX HNM HO HC
    have hcat : (⟨#[78, 79, 80, 69]⟩ : ByteArray).size + d.size ≤ maxLen := by show 4 + d.size ≤ maxLen; unfold maxLen; omega
    have eqv := fun W => eq_val_self s W
    go_upto_region 8 with (first
      | (go_at_call 7; ((with_reducible refine (HDG.out _).mono ?_); rintro er w3 ⟨rfl, hb⟩; have HY3 := Lib.hid (show Aft wy w3 from hb); clear hb))
      | (go_at_call 9; ((with_reducible refine (HMK.out _).mono ?_); rintro er w4 ⟨rfl, hb⟩; have HY4 := Lib.hid (HY3.out.trans hb); clear hb))
      | (go_at_call 8; ((with_reducible refine (HON.out _).mono ?_); rintro er w5 ⟨⟨v5, rfl, ⟨g5, rfl⟩, hs5⟩, hb⟩; have HY5 := Lib.hid (HY4.out.trans hb); have HS5 := Lib.hid hs5; clear hb hs5))
      | (go_at_call 6; ((with_reducible refine (HMISS.out _ _ _ _ rfl HS5.out).mono ?_); rintro er w6 ⟨rfl, hb⟩; have HY6 := Lib.hid ((HY5.out.allocR _).trans hb); clear hb)))
    have HV8 := Lib.hid (show VlAt (w6.alloc (.cells #[.int .i64 4, .int .i64 5, .string ⟨#[]⟩] 28)) w6.heap.size (Vl.err 5) from VlAt.new w6 (Vl.err 5))
    have HY8 := Lib.hid (HY6.out.allocR (.cells #[.int .i64 4, .int .i64 5, .string ⟨#[]⟩] 28))
    generalize (w6.alloc (.cells #[.int .i64 4, .int .i64 5, .string ⟨#[]⟩] 28)) = w8 at HV8 HY8 ⊢
    generalize w6.heap.size = q at HV8 ⊢
    go_wp2_with (first
      | (go_at_call 6; ((with_reducible refine (HC1.out w8 HY8.out _ _ rfl).mono ?_); rintro er w9 ⟨rfl, hb⟩; have HX9 := Lib.hid ((Aft.alloc w8 _).trans hb); have HY9 := Lib.hid (HY8.out.trans HX9.out); clear hb))
      | (go_at_call 6; ((with_reducible refine (HC2.out w9 HY9.out _ _ rfl).mono ?_); rintro er wA ⟨rfl, hb⟩; have HXA := Lib.hid (HX9.out.trans ((Aft.alloc w9 _).trans hb)); have HYA := Lib.hid (HY8.out.trans HXA.out); clear hb; obtain ⟨a0, a1, a2⟩ := (show wA.cell? ⟨q, 0, none⟩ = some (.int .i64 4) ∧ wA.cell? ⟨q, 1, none⟩ = some (.int .i64 5) ∧ wA.cell? ⟨q, 2, none⟩ = some (.string ⟨#[]⟩) from (HV8.out.over HXA.out).cells)))
      | (go_at_call 4; ((with_reducible refine (HAWK.out _ (HAY.out.trans HYA.out)).mono ?_); rintro er wB ⟨rfl, hb⟩; have HWB := Lib.hid ((HAY.out.trans HYA.out).trans hb); clear hb)))
    go_ret
    exact ⟨by rfl, HWB.out⟩

set_option maxRecDepth 100000 in
set_option maxHeartbeats 4000000 in
theorem funNothing_any (xs : List Int) (wh at' e : Int) (v : Value) (w : World) (a0 : 0 ≤ wh) (a1 : wh ≤ 255) (b0 : 0 ≤ at') (b1 : at' ≤ 255) (c0 : 0 ≤ e) (c1 : e ≤ 255) (hs : SG (Value.int .i32) w w.heap.size v xs) (hx : ∀ x ∈ xs, -2147483648 ≤ x ∧ x ≤ 2147483647) (ht : Tab w) (he : EtV w) :
    Calls Tryz.prog 3 #[.int .u8 wh, v, .int .u8 at', .int .u8 e] w fun e' w' => e' = .returned (.bool true) ∧ Below w.heap.size w w' := by
  by_cases hl : xs.length ≤ 20
  · exact funNothing_main xs wh at' e v w a0 a1 b0 b1 c0 c1 hs hx hl ht he
  · obtain ⟨A, cap, rfl, hat⟩ := hs
    clear hat
    obtain ⟨n, hnn⟩ : ∃ n, xs.length = n := ⟨_, rfl⟩
    rw [hnn] at hl ⊢
    have hgt : (n : Int) > 20 := by omega
    have HA := Lib.hid (awake8_any w ht he)
    clear ht he hx hnn
    go_enter Tryz.func3, Tryz.ntmps3
    go_wp2_with (first
      | (go_at_call 4; ((with_reducible refine HA.out.mono ?_); rintro er w1 ⟨rfl, hb⟩; have HB := Lib.hid hb; clear hb)))
    go_ret
    exact ⟨by rfl, HB.out⟩
end Go.Proofs.YtolhmemiknpeaaaGreatDoor
