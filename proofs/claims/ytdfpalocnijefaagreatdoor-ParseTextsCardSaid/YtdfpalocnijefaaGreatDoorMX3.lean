/-
  Texts of layers, put together.
-/
import Derived.Test.YtdfpalocnijefaaGreatDoorMX2
/-
  Layer 5, the reference: how a reader fails, takes signs, opens; a node is put; signs of a rank.
-/
namespace Go.Proofs.YtdfpalocnijefaaGreatDoor
open Go.RowKit

/-- What 'fail' leaves. -/
def RFail (b : Nat) (tv : Value) (ts : List Tk) (p : Nat) (d er : Int) (nv : Value) (vs : List Nv) (c : Int) (w' : World) : Prop := Rs w' b tv ts p d (if er = 0 then c else er) nv vs
set_option maxRecDepth 100000 in
set_option maxHeartbeats 400000 in
theorem rfail_any {w : World} {b : Nat} {tv : Value} {ts : List Tk} {p : Nat} {d er : Int} {nv : Value} {vs : List Nv} (h : Rs w b tv ts p d er nv vs) (c : Int) :
    Calls Tryz.prog 27 #[.pointer (some ⟨b, 0, none⟩), .int .i64 c] w fun e w' => e = .returned (.tuple #[]) ∧ Fr w w' b ∧ RFail b tv ts p d er nv vs c w' := by
  obtain ⟨c0, c1, c2, c3, c4⟩ := h.facts
  have f3 := h.frozen 3
  have HP := Lib.hid h
  clear h c0 c1 c2 c4
  by_cases he : er = 0
  · have ee : (er == 0) = true := beq_iff_eq.2 he
    have HE := Lib.hid he
    clear he
    go_enter Tryz.func27, Tryz.ntmps27
    go_wp2_with fail
    have hq : RFail b tv ts p d er nv vs c (w.setCell ⟨b, 3, none⟩ (.int .i64 c)) := by unfold RFail; rw [if_pos HE.out]; exact HP.out.setE c
    first
      | exact bodyPost_ret (results_none rfl _ _ _) rfl ⟨rfl, (Fr.refl _ _).setCell _ _, hq⟩
      | (go_end0; exact ⟨rfl, (Fr.refl _ _).setCell _ _, hq⟩)
  · have ee : (er == 0) = false := beq_eq_false_iff_ne.2 he
    have HE := Lib.hid he
    clear he
    go_enter Tryz.func27, Tryz.ntmps27
    go_wp2_with fail
    have hq : RFail b tv ts p d er nv vs c w := by unfold RFail; rw [if_neg HE.out]; exact HP.out
    first
      | exact bodyPost_ret (results_none rfl _ _ _) rfl ⟨rfl, Fr.refl _ _, hq⟩
      | (go_end0; exact ⟨rfl, Fr.refl _ _, hq⟩)

/-- What 'want' leaves. -/
def RWant (b : Nat) (tv : Value) (ts : List Tk) (p : Nat) (d er : Int) (nv : Value) (vs : List Nv) (s : ByteArray) (w' : World) : Prop :=
  (er ≠ 0 ∧ Rs w' b tv ts p d er nv vs) ∨ (er = 0 ∧ signIs s (ts.drop p) = true ∧ Rs w' b tv ts (p + 1) d 0 nv vs) ∨ (er = 0 ∧ signIs s (ts.drop p) = false ∧ Rs w' b tv ts p d 5 nv vs)
set_option maxRecDepth 100000 in
set_option maxHeartbeats 1000000 in
theorem rwant_any {w : World} {b : Nat} {tv : Value} {ts : List Tk} {p : Nat} {d er : Int} {nv : Value} {vs : List Nv} (h : Rs w b tv ts p d er nv vs) (s : ByteArray) :
    Calls Tryz.prog 121 #[.pointer (some ⟨b, 0, none⟩), .string s] w fun e w' => e = .returned (.tuple #[]) ∧ Fr w w' b ∧ RWant b tv ts p d er nv vs s w' := by
  have HS := Lib.hid (ris_any h s)
  have HP := Lib.hid h
  have hfew := h.few
  have hlt := h.lt
  obtain ⟨q, hq⟩ : ∃ q, (decide (er = 0) && signIs s (ts.drop p)) = q := ⟨_, rfl⟩
  rw [hq] at HS
  cases q
  · have HF := Lib.hid (fun w1 (h1 : Below w.heap.size w w1) => rfail_any (HP.out.below h1) 5)
    have HQ := Lib.hid hq
    clear h hq
    go_enter Tryz.func121, Tryz.ntmps121
    go_wp2_with (first
      | (go_at_call 50; ((with_reducible refine HS.out.mono ?_); rintro e w1 ⟨rfl, h1⟩; have HB := Lib.hid h1; clear h1))
      | (go_at_call 27; ((with_reducible refine (HF.out _ HB.out).mono ?_); rintro e w2 ⟨rfl, h1, h2⟩; have HF2 := Lib.hid h1; have HP2 := Lib.hid h2; clear h1 h2)))
    have fin : RWant b tv ts p d er nv vs s w2 := by
      have hP := HP2.out
      unfold RFail at hP
      by_cases he : er = 0
      · rw [if_pos he] at hP
        have := HQ.out
        rw [decide_eq_true he, Bool.true_and] at this
        exact .inr (.inr ⟨he, this, hP⟩)
      · rw [if_neg he] at hP
        exact .inl ⟨he, hP⟩
    first
      | exact bodyPost_ret (results_none rfl _ _ _) rfl ⟨rfl, (Fr.of b HB.out).trans HF2.out, fin⟩
      | (go_end0; exact ⟨rfl, (Fr.of b HB.out).trans HF2.out, fin⟩)
  · rw [Bool.and_eq_true, decide_eq_true_iff] at hq
    have hnx := rsign_next h hq.2
    have HQ := Lib.hid hq
    clear h hq
    go_enter Tryz.func121, Tryz.ntmps121
    go_upto_region 2 with (go_at_call 50; ((with_reducible refine HS.out.mono ?_); rintro e w1 ⟨rfl, h1⟩; have HB := Lib.hid h1; have HP1 := Lib.hid (HP.out.below h1); clear h1))
    obtain ⟨c0, c1, c2, c3, c4⟩ := HP1.out.facts
    have f1 := HP1.out.frozen 1
    clear c0 c2 c3 c4
    go_wp2_with fail
    have fin : RWant b tv ts p d er nv vs s (w1.setCell ⟨b, 1, none⟩ (.int .i64 ((p : Int) + 1))) := by
      have hP := HP1.out.next hnx
      rw [HQ.out.1] at hP
      exact .inr (.inl ⟨HQ.out.1, HQ.out.2, hP⟩)
    first
      | exact bodyPost_ret (results_none rfl _ _ _) rfl ⟨rfl, (Fr.of b HB.out).setCell _ _, fin⟩
      | (go_end0; exact ⟨rfl, (Fr.of b HB.out).setCell _ _, fin⟩)

/-- What 'open' leaves. -/
def ROpen (b : Nat) (tv : Value) (ts : List Tk) (p deep : Nat) (nv : Value) (vs : List Nv) (w' : World) : Prop := (12 ≤ deep ∧ Rs w' b tv ts p (deep : Int) 6 nv vs) ∨ (¬ 12 ≤ deep ∧ Rs w' b tv ts (p + 1) ((deep + 1 : Nat) : Int) 0 nv vs)
set_option maxRecDepth 100000 in
set_option maxHeartbeats 1000000 in
theorem ropen_any {w : World} {b : Nat} {tv : Value} {ts : List Tk} {p deep : Nat} {nv : Value} {vs : List Nv} (h : Rs w b tv ts p (deep : Int) 0 nv vs) (hn : deep ≤ 12) (hnx : p + 1 < ts.length) :
    Calls Tryz.prog 89 #[.pointer (some ⟨b, 0, none⟩)] w fun e w' => e = .returned (.tuple #[]) ∧ Fr w w' b ∧ ROpen b tv ts p deep nv vs w' := by
  obtain ⟨c0, c1, c2, c3, c4⟩ := h.facts
  have f1 := h.frozen 1
  have f2 := h.frozen 2
  have hf := h.few
  have HP := Lib.hid h
  have HF := Lib.hid (rfail_any h 6)
  clear h c0 c3 c4
  by_cases hd : 12 ≤ deep
  · have e12 : (12 : Int) ≤ (deep : Int) := by omega
    go_enter Tryz.func89, Tryz.ntmps89
    go_wp2_with (go_at_call 27; ((with_reducible refine HF.out.mono ?_); rintro e w2 ⟨rfl, h1, h2⟩; have HF2 := Lib.hid h1; have HP2 := Lib.hid h2; clear h1 h2))
    have fin : ROpen b tv ts p deep nv vs w2 := by have := HP2.out; unfold RFail at this; rw [if_pos rfl] at this; exact .inl ⟨hd, this⟩
    first
      | exact bodyPost_ret (results_none rfl _ _ _) rfl ⟨rfl, HF2.out, fin⟩
      | (go_end0; exact ⟨rfl, HF2.out, fin⟩)
  · have e12 : ¬ (12 : Int) ≤ (deep : Int) := by omega
    have HD := Lib.hid hd
    go_enter Tryz.func89, Tryz.ntmps89
    go_wp2_with fail
    have fin : ROpen b tv ts p deep nv vs ((w.setCell ⟨b, 2, none⟩ (.int .i64 ((deep : Int) + 1))).setCell ⟨b, 1, none⟩ (.int .i64 ((p : Int) + 1))) := .inr ⟨HD.out, (HP.out.setD ((deep + 1 : Nat) : Int)).next hnx⟩
    first
      | exact bodyPost_ret (results_none rfl _ _ _) rfl ⟨rfl, ((Fr.refl _ _).setCell _ _).setCell _ _, fin⟩
      | (go_end0; exact ⟨rfl, ((Fr.refl _ _).setCell _ _).setCell _ _, fin⟩)

set_option maxRecDepth 100000 in
set_option maxHeartbeats 4000000 in
theorem rput_any {w : World} {b : Nat} {tv : Value} {ts : List Tk} {p : Nat} {d er : Int} {nv : Value} {vs : List Nv} (h : Rs w b tv ts p d er nv vs) (v : Nv) (hk : Own (encInt .i64) 3 w (b + 1) v.kv v.n.kids) (hc : vs.length + 1 ≤ ts.length + 100) (k : Value) (hkv : v.kv = k) (n : Nd) (hn : v.n = n) :
    Calls Tryz.prog 51 #[.pointer (some ⟨b, 0, none⟩), .agg #[.int .i64 n.kind, .int .i64 n.num, .string n.text, .string n.ref.sh, .int .i64 n.ref.c, .int .i64 n.ref.r, .bool n.ref.ac, .bool n.ref.ar, .string n.to.sh, .int .i64 n.to.c, .int .i64 n.to.r, .bool n.to.ac, .bool n.to.ar, k]] w fun e w' => Fr w w' b ∧ e = .returned (.int .i64 (vs.length : Int)) ∧ ∃ nv', Rs w' b tv ts p d er nv' (vs ++ [v]) := by
  obtain ⟨eb, hEB, EL⟩ := Elem.nod
  have hal : Below w.heap.size w (w.alloc (.cells #[.int .i64 n.kind, .int .i64 n.num, .string n.text, .string n.ref.sh, .int .i64 n.ref.c, .int .i64 n.ref.r, .bool n.ref.ac, .bool n.ref.ar, .string n.to.sh, .int .i64 n.to.c, .int .i64 n.to.r, .bool n.to.ac, .bool n.to.ar, k] 38)) := (Below.refl _ _).alloc (Nat.le_refl _) _
  have HP1 := Lib.hid (h.below hal)
  have HK1 := Lib.hid (hk.alloc (.cells #[.int .i64 n.kind, .int .i64 n.num, .string n.text, .string n.ref.sh, .int .i64 n.ref.c, .int .i64 n.ref.r, .bool n.ref.ac, .bool n.ref.ar, .string n.to.sh, .int .i64 n.to.c, .int .i64 n.to.r, .bool n.to.ac, .bool n.to.ar, k] 38))
  have hx : NdAt (w.alloc (.cells #[.int .i64 n.kind, .int .i64 n.num, .string n.text, .string n.ref.sh, .int .i64 n.ref.c, .int .i64 n.ref.r, .bool n.ref.ac, .bool n.ref.ar, .string n.to.sh, .int .i64 n.to.c, .int .i64 n.to.r, .bool n.to.ac, .bool n.to.ar, k] 38)) w.heap.size n k := NdAt.new w n k
  have h2 := h.few
  have h3 := h.lt
  have hbl := h.blt
  have hsz : (w.alloc (.cells #[.int .i64 n.kind, .int .i64 n.num, .string n.text, .string n.ref.sh, .int .i64 n.ref.c, .int .i64 n.ref.r, .bool n.ref.ac, .bool n.ref.ar, .string n.to.sh, .int .i64 n.to.c, .int .i64 n.to.r, .bool n.to.ac, .bool n.to.ar, k] 38)).heap.size = w.heap.size + 1 := by simp
  have HEL := Lib.hid EL
  have HAL := Lib.hid hal
  clear h hk EL hal
  go_enter Tryz.func51, Tryz.ntmps51
  go_upto_region 1 with (fail)
  generalize w.alloc (.cells #[.int .i64 n.kind, .int .i64 n.num, .string n.text, .string n.ref.sh, .int .i64 n.ref.c, .int .i64 n.ref.r, .bool n.ref.ac, .bool n.ref.ar, .string n.to.sh, .int .i64 n.to.c, .int .i64 n.to.r, .bool n.to.ac, .bool n.to.ar, k] 38) = w1 at HP1 HK1 HAL hx hsz ⊢
  obtain ⟨x0, x1, x2, x3, x4, x5, x6, x7, x8, x9, x10, x11, x12, x13⟩ := hx.cells
  obtain ⟨c0, c1, c2, c3, c4⟩ := HP1.out.facts
  have f4 := HP1.out.frozen 4
  clear hx c0 c1 c2 c3
  have HPQ := Lib.hid (HP1.out.below (((Below.refl _ _).drew).alloc (Nat.le_refl _) (.cells #[.int .i64 n.kind, .int .i64 n.num, .string n.text, .string n.ref.sh, .int .i64 n.ref.c, .int .i64 n.ref.r, .bool n.ref.ac, .bool n.ref.ar, .string n.to.sh, .int .i64 n.to.c, .int .i64 n.to.r, .bool n.to.ac, .bool n.to.ar, k] 38)))
  have hw1 : -9223372036854775808 ≤ (vs.length : Int) + 1 - 1 := by omega
  have hw2 : (vs.length : Int) + 1 - 1 ≤ 9223372036854775807 := by omega
  go_region_law (refine step_app_at HEL.out encNv rfl (.tmp 9) (.tmp 11) rfl (b + 1) nv vs ?_ (HP1.out.nodes.1.drew.alloc _) ⟨w1.heap.size, 0, none⟩ 1 1 [v] ?_ rfl ?_ ?_ ?_ ?_ ?_; go_simp; go_simp; (subst hkv; subst hn; exact cells_new (w := w1.drew) _ _ _ rfl); exact Nat.le_trans (Nat.mul_le_mul_left _ hEB) (by omega); (unfold maxLen; omega); (simp <;> omega); intro v' wz h1 h2 h4; obtain ⟨g1, cap1, rfl, hg0, hg1, hg2, hg3⟩ := Own.some h1 (by simp); obtain ⟨d1, d2⟩ := HPQ.out.grown4 h2; have HO := Lib.hid h1; have HG := Lib.hid h2; clear h1 h2 h4)
  all_goals
    obtain ⟨q1, q2⟩ := HPQ.out.grow HG.out HO.out (HK1.out.drew.alloc _) hc
    rw [List.length_append, List.length_singleton] at q1 q2
    obtain ⟨c0, c1, c2, c3, c4⟩ := q1.facts
    have HQ1 := Lib.hid q1
    have HQ2 := Lib.hid q2
    clear q1 q2 c0 c1 c2 c3
    go_wp2_with fail
    have hF := (((Fr.of b HAL.out).drew).below ((Below.refl _ _).alloc (Nat.le_refl _) (.cells #[.int .i64 n.kind, .int .i64 n.num, .string n.text, .string n.ref.sh, .int .i64 n.ref.c, .int .i64 n.ref.r, .bool n.ref.ac, .bool n.ref.ar, .string n.to.sh, .int .i64 n.to.c, .int .i64 n.to.r, .bool n.to.ac, .bool n.to.ar, k] 38))).trans HQ2.out
    go_ret
    exact ⟨hF, ret_int (by first | rfl | omega), _, HQ1.out⟩
end Go.Proofs.YtdfpalocnijefaaGreatDoor

/-
  Layer 5, the reference: signs of a rank; what a reading leaves.
-/
namespace Go.Proofs.YtdfpalocnijefaaGreatDoor
open Go.RowKit

/-- Signs and their nodes' kinds in two rows. -/
def LvV (w : World) (gs gk : Nat) (L : List (ByteArray × Int)) : Prop := w.heap[gs]? = some (.cells (L.map fun q => Value.string q.1).toArray 9) ∧ w.heap[gk]? = some (.cells (L.map fun q => Value.int .i64 q.2).toArray 3)
theorem LvV.below {w w' : World} {gs gk : Nat} {L : List (ByteArray × Int)} (h : LvV w gs gk L) (hb : Below w.heap.size w w') : LvV w' gs gk L :=
  ⟨by rw [hb.block gs (Array.getElem?_eq_some_iff.1 h.1).1]; exact h.1, by rw [hb.block gk (Array.getElem?_eq_some_iff.1 h.2).1]; exact h.2⟩
theorem LvV.fr {w w' : World} {b gs gk : Nat} {L : List (ByteArray × Int)} (h : LvV w gs gk L) (hf : Fr w w' b) (h1 : b < gs) (h2 : b < gk) : LvV w' gs gk L := by
  refine ⟨?_, ?_⟩
  · rw [hf.block gs (Array.getElem?_eq_some_iff.1 h.1).1 (by omega) (.inr (by rintro ⟨cur, fr, e⟩; rw [h.1] at e; injection e with e; injection e with _ e; exact absurd e (by decide)))]; exact h.1
  · rw [hf.block gk (Array.getElem?_eq_some_iff.1 h.2).1 (by omega) (.inr (by rintro ⟨cur, fr, e⟩; rw [h.2] at e; injection e with e; injection e with _ e; exact absurd e (by decide)))]; exact h.2
theorem LvV.cells {w : World} {gs gk : Nat} {L : List (ByteArray × Int)} (h : LvV w gs gk L) (j : Nat) (q : ByteArray × Int) (hj : L[j]? = some q) : w.cell? ⟨gs, j, none⟩ = some (.string q.1) ∧ w.cell? ⟨gk, j, none⟩ = some (.int .i64 q.2) := by
  refine ⟨?_, ?_⟩
  · rw [cell_of_row w gs j _ _ _ h.1]; simp [hj]
  · rw [cell_of_row w gk j _ _ _ h.2]; simp [hj]
def RLevel (n : Nat) (w : World) (e : Ending) (w' : World) : Prop :=
  Below w.heap.size w w' ∧ ∃ gs gk, e = .returned (.tuple #[.slice (some ⟨gs, 0, none⟩) (levelL n).length (levelL n).length, .slice (some ⟨gk, 0, none⟩) (levelL n).length (levelL n).length]) ∧ w.heap.size ≤ gs ∧ w.heap.size ≤ gk ∧ LvV w' gs gk (levelL n)
theorem lev_any (n : Nat) (w : World) (A B : Array Value) (h1 : A = ((levelL n).map fun q => Value.string q.1).toArray) (h2 : B = ((levelL n).map fun q => Value.int .i64 q.2).toArray) :
    RLevel n w (.returned (.tuple #[.slice (some ⟨w.heap.size, 0, none⟩) (levelL n).length (levelL n).length, .slice (some ⟨w.heap.size + 1, 0, none⟩) (levelL n).length (levelL n).length])) ((w.alloc (.cells A 9)).alloc (.cells B 3)) := by
  subst h1; subst h2
  refine ⟨((Below.refl _ _).alloc (Nat.le_refl _) _).alloc (by simp) _, w.heap.size, w.heap.size + 1, rfl, Nat.le_refl _, by omega, ?_, ?_⟩
  · rw [Below.heap_alloc _ _ _ (by simp)]; exact (Go.MapKept.heap_alloc w _).1
  · have := (Go.MapKept.heap_alloc (w.alloc (.cells ((levelL n).map fun q => Value.string q.1).toArray 9)) (.cells ((levelL n).map fun q => Value.int .i64 q.2).toArray 3)).1
    rwa [show (w.alloc (.cells ((levelL n).map fun q => Value.string q.1).toArray 9)).heap.size = w.heap.size + 1 by simp] at this
set_option maxRecDepth 100000 in
set_option maxHeartbeats 1000000 in
theorem rlevel_any (n : Nat) (hn : n ≤ 3) (w : World) : Calls Tryz.prog 49 #[.int .i64 (n : Int)] w (RLevel n w) := by
  rcases (show n = 0 ∨ n = 1 ∨ n = 2 ∨ n = 3 by omega) with rfl | rfl | rfl | rfl
  all_goals
    go_enter Tryz.func49, Tryz.ntmps49
    go_wp2_with fail
    go_ret2
    exact lev_any _ _ _ _ rfl rfl

theorem Rs.of_fail {w' : World} {b : Nat} {tv : Value} {ts : List Tk} {p : Nat} {d : Int} {nv : Value} {vs : List Nv} {c : Int} (h : RFail b tv ts p d 0 nv vs c w') : Rs w' b tv ts p d c nv vs := by unfold RFail at h; rw [if_pos rfl] at h; exact h
/-- What a reading leaves. -/
def ROut (sl : Nat) (res : Res) (w : World) (b : Nat) (tv : Value) (ts : List Tk) (deep : Nat) (vs : List Nv) (e : Ending) (w' : World) : Prop :=
  Fr w w' b ∧ ((∃ c, res = .error c ∧ (c = 5 ∨ c = 6) ∧ (∃ x : Int, e = .returned (.int .i64 x)) ∧ ∃ p' d nv' us, (∀ u ∈ us, ∀ g, u.kv.ownBlock = some g → w.heap.size ≤ g) ∧ Rs w' b tv ts p' d c nv' (vs ++ us) ∧ (vs ++ us).length + sl ≤ ts.length + 100 ∧ (sl : Int) ≤ d + 100 ∧ d ≤ 100) ∨
    (∃ ms a r, res = .ok (ms, a, r) ∧ e = .returned (.int .i64 ((a : Nat) : Int)) ∧ ∃ p' nv' us, ts.drop p' = r ∧ us.map Nv.n = ms ∧ (∀ u ∈ us, ∀ g, u.kv.ownBlock = some g → w.heap.size ≤ g) ∧ Rs w' b tv ts p' (deep : Int) 0 nv' (vs ++ us) ∧ (vs ++ us).length ≤ p'))
theorem ROut.ret {sl : Nat} {res : Res} {w w' : World} {b : Nat} {tv : Value} {ts : List Tk} {deep : Nat} {vs : List Nv} {e : Ending} (h : ROut sl res w b tv ts deep vs e w') : ∃ c : Int, e = .returned (.int .i64 c) := by
  rcases h.2 with ⟨c, _, _, h, _⟩ | ⟨_, a, _, _, h, _⟩
  · exact h
  · exact ⟨a, h⟩
theorem ROut.from {sl : Nat} {res : Res} {w w2 w3 : World} {b : Nat} {tv : Value} {ts : List Tk} {deep : Nat} {vs : List Nv} {e : Ending} (hf : Fr w w2 b) (h : ROut sl res w2 b tv ts deep vs e w3) : ROut sl res w b tv ts deep vs e w3 := by
  refine ⟨hf.trans h.1, h.2.imp ?_ ?_⟩
  · rintro ⟨c, g1, g2, g3, p', d, nv', us, g4, g5, g6⟩
    exact ⟨c, g1, g2, g3, p', d, nv', us, fun u hu j hj => Nat.le_trans hf.size (g4 u hu j hj), g5, g6⟩
  · rintro ⟨ms, a, r, g1, g2, p', nv', us, g3, g4, g5, g6⟩
    exact ⟨ms, a, r, g1, g2, p', nv', us, g3, g4, fun u hu j hj => Nat.le_trans hf.size (g5 u hu j hj), g6⟩
theorem ROut.leaf {sl : Nat} {res : Res} {w w' : World} {b : Nat} {tv : Value} {ts : List Tk} {deep p' : Nat} {vs : List Nv} {nv' : Value} {n : Nd} {a : Nat} {r : List Tk} (hr : res = .ok ([n], a, r)) (hf : Fr w w' b) (hp : ts.drop p' = r) (h : Rs w' b tv ts p' (deep : Int) 0 nv' (vs ++ [Nv.leaf n])) (hc : vs.length + 1 ≤ p') : ROut sl res w b tv ts deep vs (.returned (.int .i64 (a : Int))) w' :=
  ⟨hf, .inr ⟨[n], a, r, hr, rfl, p', nv', [Nv.leaf n], hp, rfl, (by intro u hu g hg; rw [List.mem_singleton.1 hu] at hg; cases hg), h, by rw [List.length_append]; exact hc⟩⟩
theorem ROut.err {sl : Nat} {res : Res} {w w' : World} {b : Nat} {tv : Value} {ts : List Tk} {deep p' : Nat} {d : Int} {vs : List Nv} {nv' : Value} {c x : Int} (hr : res = .error c) (hc : c = 5 ∨ c = 6) (hf : Fr w w' b) (h : Rs w' b tv ts p' d c nv' vs) (hs : vs.length + sl ≤ ts.length + 100) (hd : (sl : Int) ≤ d + 100 ∧ d ≤ 100) : ROut sl res w b tv ts deep vs (.returned (.int .i64 x)) w' :=
  ⟨hf, .inl ⟨c, hr, hc, ⟨x, rfl⟩, p', d, nv', [], (fun u hu => absurd hu (by simp)), by rw [List.append_nil]; exact h, by rw [List.append_nil]; exact hs, hd⟩⟩

theorem ROut.bad {sl : Nat} {res : Res} {w w' : World} {b : Nat} {tv : Value} {ts : List Tk} {deep : Nat} {vs : List Nv} {e : Ending} {c : Int} (h : ROut sl res w b tv ts deep vs e w') (hr : res = .error c) :
    Fr w w' b ∧ (c = 5 ∨ c = 6) ∧ ∃ x : Int, e = .returned (.int .i64 x) ∧ ∃ p' d nv' us, (∀ u ∈ us, ∀ g, u.kv.ownBlock = some g → w.heap.size ≤ g) ∧ Rs w' b tv ts p' d c nv' (vs ++ us) ∧ (vs ++ us).length + sl ≤ ts.length + 100 ∧ (sl : Int) ≤ d + 100 ∧ d ≤ 100 := by
  rcases h.2 with ⟨c', h1, h2, ⟨x, h3⟩, h4⟩ | ⟨ms, a, r, h1, _⟩
  · rw [hr] at h1; injection h1 with h1; subst h1; exact ⟨h.1, h2, x, h3, h4⟩
  · rw [hr] at h1; cases h1
theorem ROut.good {sl : Nat} {res : Res} {w w' : World} {b : Nat} {tv : Value} {ts : List Tk} {deep : Nat} {vs : List Nv} {e : Ending} {ms : List Nd} {a : Nat} {r : List Tk} (h : ROut sl res w b tv ts deep vs e w') (hr : res = .ok (ms, a, r)) :
    Fr w w' b ∧ e = .returned (.int .i64 ((a : Nat) : Int)) ∧ ∃ p' nv' us, ts.drop p' = r ∧ us.map Nv.n = ms ∧ (∀ u ∈ us, ∀ g, u.kv.ownBlock = some g → w.heap.size ≤ g) ∧ Rs w' b tv ts p' (deep : Int) 0 nv' (vs ++ us) ∧ (vs ++ us).length ≤ p' := by
  rcases h.2 with ⟨c', h1, h2, h3⟩ | ⟨ms', a', r', h1, h2, h3⟩
  · rw [hr] at h1; cases h1
  · rw [hr] at h1; injection h1 with h1; injection h1 with e1 e2; injection e2 with e2 e3; subst e1; subst e2; subst e3; exact ⟨h.1, h2, h3⟩
/-- What is proved of a rank: by the rounds that the tokens' reading takes. -/
def REX (f : Nat) : Prop := ∀ (n deep : Nat) (res : Res) (w : World) (b : Nat) (tv : Value) (ts : List Tk) (p : Nat) (nv : Value) (vs : List Nv), n ≤ 4 → deep ≤ 12 → Rs w b tv ts p (deep : Int) 0 nv vs → vs.length ≤ p → exprP f n deep vs.length (ts.drop p) = some res →
  Calls Tryz.prog 26 #[.pointer (some ⟨b, 0, none⟩), .int .i64 (n : Int)] w (ROut (n + 6 * deep) res w b tv ts deep vs)
set_option maxRecDepth 100000 in
set_option maxHeartbeats 4000000 in
theorem rref_any {w : World} {b : Nat} {tv : Value} {ts : List Tk} {p deep : Nat} {nv : Value} {vs : List Nv} (h : Rs w b tv ts p (deep : Int) 0 nv vs) (hcnt : vs.length ≤ p) (hdeep : deep ≤ 12) (t : Tk) (hnx : p + 1 < ts.length) :
    Calls Tryz.prog 122 #[.pointer (some ⟨b, 0, none⟩), .agg #[.string t.sh, .int .i64 t.c, .int .i64 t.r, .bool t.ac, .bool t.ar]] w (ROut (5 + 6 * deep) (refP vs.length t (ts.drop (p + 1))) w b tv ts deep vs) := by
  have hal : Below w.heap.size w (w.alloc (.cells #[.string t.sh, .int .i64 t.c, .int .i64 t.r, .bool t.ac, .bool t.ar] 35)) := (Below.refl _ _).alloc (Nat.le_refl _) _
  have HP1 := Lib.hid (h.below hal)
  have hx := RefAt.new w t.sh t.c t.r t.ac t.ar
  have h2 := h.few
  have hlt := h.lt
  have hbl := h.blt
  have HAL := Lib.hid hal
  clear h hal
  go_enter Tryz.func122, Tryz.ntmps122
  go_upto_region 1 with (fail)
  generalize w.alloc (.cells #[.string t.sh, .int .i64 t.c, .int .i64 t.r, .bool t.ac, .bool t.ar] 35) = w1 at HP1 HAL hx ⊢
  obtain ⟨c0, c1, c2, c3, c4⟩ := HP1.out.facts
  have f1 := HP1.out.frozen 1
  clear c0 c2 c3 c4
  go_upto_region 2 with (fail)
  have HP2 := Lib.hid (HP1.out.next hnx)
  have HX2 := Lib.hid (hx.set (show w.heap.size ≠ b by omega) 1 (.int .i64 ((p : Int) + 1)))
  have HF2 := Lib.hid ((Fr.of b HAL.out).setCell 1 (.int .i64 ((p : Int) + 1)))
  clear c1 f1 hx HP1 HAL
  generalize w1.setCell ⟨b, 1, none⟩ (.int .i64 ((p : Int) + 1)) = w2 at HP2 HX2 HF2 ⊢
  have HT := Lib.hid (ris_any HP2.out ⟨#[58]⟩)
  rw [decide_eq_true rfl, Bool.true_and] at HT
  have hw0 : w.heap.size ≠ b := by omega
  cases hq : signIs ⟨#[58]⟩ (ts.drop (p + 1))
  · rw [hq] at HT
    have HR := Lib.hid (show refP vs.length t (ts.drop (p + 1)) = .ok ([{ Nd.zero with kind := 5, ref := t.rf }], vs.length, ts.drop (p + 1)) by unfold refP; rw [hq, if_neg (by decide)])
    clear hq
    go_upto_region 3 with (go_at_call 50; ((with_reducible refine HT.out.mono ?_); rintro e w3 ⟨rfl, h1⟩; have HF3 := Lib.hid (HF2.out.below h1); have HX3 := Lib.hid (HX2.out.below h1 HX2.out.lt); have HP3 := Lib.hid (HP2.out.below h1); clear h1))
    obtain ⟨x0, x1, x2, x3, x4⟩ := HX3.out.facts
    have HA := Lib.hid (show Calls Tryz.prog 51 #[.pointer (some ⟨b, 0, none⟩), .agg #[.int .i64 5, .int .i64 0, .string ⟨#[]⟩, .string t.sh, .int .i64 t.c, .int .i64 t.r, .bool t.ac, .bool t.ar, .string ⟨#[]⟩, .int .i64 0, .int .i64 0, .bool false, .bool false, .slice none 0 0]] w3 _ from rput_any HP3.out (Nv.leaf { Nd.zero with kind := 5, ref := t.rf }) (leaf_own _ _ _ rfl) (by omega) (.slice none 0 0) rfl { Nd.zero with kind := 5, ref := t.rf } rfl)
    go_wp2_with (go_at_call 51; ((with_reducible refine HA.out.mono ?_); rintro e w4 ⟨h1, rfl, nv', h3⟩; have HF4 := Lib.hid (HF3.out.trans h1); have HP4 := Lib.hid h3; clear h1 h3))
    go_ret
    exact ROut.leaf HR.out HF4.out rfl HP4.out (by omega)
  · have hnx2 := rsign_next HP2.out hq
    obtain ⟨u, hu⟩ : ∃ u, ts[p + 2]? = some u := ⟨_, List.getElem?_eq_getElem hnx2⟩
    have hd : (ts.drop (p + 1)).tail = u :: ts.drop (p + 3) := by
      rw [List.tail_drop, List.drop_eq_getElem_cons hnx2]
      rw [List.getElem?_eq_getElem hnx2] at hu; rw [Option.some.inj hu]
    have hR : refP vs.length t (ts.drop (p + 1)) = if u.kind = 4 ∧ spanB t.rf u.rf = true then .ok ([(⟨6, 0, ⟨#[]⟩, t.rf, u.rf, []⟩ : Nd)], vs.length, ts.drop (p + 3)) else .error 5 := by
      unfold refP; rw [hq, if_pos rfl, hd] <;> rfl
    rw [hq] at HT
    clear hq hd
    go_upto_region 4 with (go_at_call 50; ((with_reducible refine HT.out.mono ?_); rintro e w3 ⟨rfl, h1⟩; have HF3 := Lib.hid (HF2.out.below h1); have HX3 := Lib.hid (HX2.out.below h1 HX2.out.lt); have HP3 := Lib.hid (HP2.out.below h1); clear h1))
    obtain ⟨c0, c1, c2, c3, c4⟩ := HP3.out.facts
    have f1 := HP3.out.frozen 1
    clear c0 c2 c3 c4
    go_upto_region 5 with (fail)
    have HP4 := Lib.hid (HP3.out.next hnx2)
    have HX4 := Lib.hid (HX3.out.set hw0 1 (.int .i64 (((p + 1 : Nat) : Int) + 1)))
    have HF4 := Lib.hid (HF3.out.setCell 1 (.int .i64 (((p + 1 : Nat) : Int) + 1)))
    clear c1 f1 HP3 HX3 HF3 HT HF2 HX2 HP2
    rw [show ((p + 1 : Nat) : Int) = (p : Int) + 1 from rfl] at HP4 HX4 HF4
    generalize w3.setCell ⟨b, 1, none⟩ (.int .i64 ((p : Int) + 1 + 1)) = w4 at HP4 HX4 HF4 ⊢
    obtain ⟨c0, c1, c2, c3, c4⟩ := HP4.out.facts
    obtain ⟨g, cap, u', rfl, hu', -, hg, k0, k1, k2, k3, k4, k5, k6, k7, k8⟩ := HP4.out.tok
    have hu' : ts[p + 2]? = some u' := hu'
    rw [hu] at hu'; injection hu' with hu'; subst hu'
    have hal4 : Below w4.heap.size w4 (w4.alloc (.cells zTok 54)) := (Below.refl _ _).alloc (Nat.le_refl _) _
    obtain ⟨a0, a1, -, -, -⟩ := (HP4.out.below hal4).facts
    have hgb : g < w4.heap.size := by have := HP4.out.blt; omega
    have j0 := (hal4.cell (p := ⟨g, (p + 1 + 1) * 9, none⟩) hgb).trans k0
    have j1 := (hal4.cell (p := ⟨g, (p + 1 + 1) * 9 + 1, none⟩) hgb).trans k1
    have j2 := (hal4.cell (p := ⟨g, (p + 1 + 1) * 9 + 2, none⟩) hgb).trans k2
    have j3 := (hal4.cell (p := ⟨g, (p + 1 + 1) * 9 + 3, none⟩) hgb).trans k3
    have j4 := (hal4.cell (p := ⟨g, (p + 1 + 1) * 9 + 4, none⟩) hgb).trans k4
    have j5 := (hal4.cell (p := ⟨g, (p + 1 + 1) * 9 + 5, none⟩) hgb).trans k5
    have j6 := (hal4.cell (p := ⟨g, (p + 1 + 1) * 9 + 6, none⟩) hgb).trans k6
    have j7 := (hal4.cell (p := ⟨g, (p + 1 + 1) * 9 + 7, none⟩) hgb).trans k7
    have j8 := (hal4.cell (p := ⟨g, (p + 1 + 1) * 9 + 8, none⟩) hgb).trans k8
    have HTK := TkAt.zero w4
    obtain ⟨x0, x1, x2, x3, x4, x5, x6, x7, x8⟩ := HTK.cells
    obtain ⟨f0, f1, f2, f3, f4, f5, f6, f7, f8⟩ := HTK.melts
    clear HTK hal4
    obtain ⟨q, hq⟩ : ∃ q, p + 1 + 1 = q := ⟨_, rfl⟩
    rw [hq] at c1 k0 k1 k2 k3 k4 k5 k6 k7 k8 a1 j0 j1 j2 j3 j4 j5 j6 j7 j8
    have hi1 : (0 : Int) ≤ (q : Int) := by omega
    have hi2 : (q : Int) < (ts.length : Int) := by omega
    clear c2 c3 c4 hq
    go_region
    have hB : Below w4.heap.size w4 (w4.alloc (.cells #[.int .i64 u.kind, .string u.text, .int .i64 u.num, .string u.sh, .int .i64 u.c, .int .i64 u.r, .bool u.ac, .bool u.ar, .int .i64 u.pos] 54)).drew := ((Below.refl _ _).alloc (Nat.le_refl _) _).drew
    have HN5 : TkAt (w4.alloc (.cells #[.int .i64 u.kind, .string u.text, .int .i64 u.num, .string u.sh, .int .i64 u.c, .int .i64 u.r, .bool u.ac, .bool u.ar, .int .i64 u.pos] 54)).drew w4.heap.size u := (TkAt.new w4 u).drew
    have HF5 := Lib.hid (HF4.out.below hB)
    have HX5 := Lib.hid (HX4.out.below hB HX4.out.lt)
    have HP5 := Lib.hid (HP4.out.below hB)
    clear hB HX4 HP4 HF4 c0 c1 a0 a1 j0 j1 j2 j3 j4 j5 j6 j7 j8 k0 k1 k2 k3 k4 k5 k6 k7 k8 x0 x1 x2 x3 x4 x5 x6 x7 x8 f0 f1 f2 f3 f4 f5 f6 f7 f8 hgb
    generalize hb4 : w4.heap.size = b4 at HN5 ⊢
    generalize (w4.alloc (.cells #[.int .i64 u.kind, .string u.text, .int .i64 u.num, .string u.sh, .int .i64 u.c, .int .i64 u.r, .bool u.ac, .bool u.ar, .int .i64 u.pos] 54)).drew = w5 at HN5 HF5 HX5 HP5 ⊢
    clear hb4
    obtain ⟨x0, x1, x2, x3, x4, x5, x6, x7, x8⟩ := HN5.cells
    obtain ⟨y0, y1, y2, y3, y4⟩ := HX5.out.facts
    have hcs : vs.length + (5 + 6 * deep) ≤ ts.length + 100 := by omega
    by_cases h4 : u.kind = 4
    · have e4 : (u.kind != 4) = false := by rw [h4]; rfl
      have e5 : (u.kind == 4) = true := beq_iff_eq.2 h4
      have HI := Lib.hid (refSpan_any t.sh u.sh t.c t.r u.c u.r t.ac t.ar u.ac u.ar w5)
      cases hs : spanB t.rf u.rf
      · have HR := Lib.hid (show refP vs.length t (ts.drop (p + 1)) = .error 5 by rw [hR, hs, if_neg (by simp)])
        have HS := Lib.hid (show spanB ⟨t.sh, t.c, t.r, t.ac, t.ar⟩ ⟨u.sh, u.c, u.r, u.ac, u.ar⟩ = false from hs)
        rw [HS.out] at HI
        clear hR hs h4
        go_wp2_with (first
          | (go_at_call 59; ((with_reducible refine HI.out.mono ?_); rintro e w6 ⟨rfl, h1⟩; have HF6 := Lib.hid (HF5.out.below h1); have HFA := Lib.hid (rfail_any (HP5.out.below h1) 5); clear h1))
          | (go_at_call 27; ((with_reducible refine HFA.out.mono ?_); rintro e w7 ⟨rfl, h1, h2⟩; have HF7 := Lib.hid (HF6.out.trans h1); have HP7 := Lib.hid h2; clear h1 h2)))
        go_ret
        exact ROut.err HR.out (.inl rfl) HF7.out (by have := HP7.out; unfold RFail at this; rw [if_pos rfl] at this; exact this) hcs (by omega)
      · have HR := Lib.hid (show refP vs.length t (ts.drop (p + 1)) = .ok ([(⟨6, 0, ⟨#[]⟩, t.rf, u.rf, []⟩ : Nd)], vs.length, ts.drop (p + 3)) by rw [hR, hs, if_pos ⟨h4, rfl⟩])
        have HS := Lib.hid (show spanB ⟨t.sh, t.c, t.r, t.ac, t.ar⟩ ⟨u.sh, u.c, u.r, u.ac, u.ar⟩ = true from hs)
        rw [HS.out] at HI
        have HNX := Lib.hid (show p + 1 + 1 + 1 < ts.length from HP5.out.fit.next hu (by omega))
        have HN5 := Lib.hid HN5
        clear hR hs h4
        go_upto_region 9 with (go_at_call 59; ((with_reducible refine HI.out.mono ?_); rintro e w6 ⟨rfl, h1⟩; have HF6 := Lib.hid (HF5.out.below h1); have HP6 := Lib.hid (HP5.out.below h1); have HX6 := Lib.hid (HX5.out.below h1 HX5.out.lt); have HN6 := Lib.hid (HN5.out.below h1 HN5.out.lt); clear h1))
        clear x0 x1 x2 x3 x4 x5 x6 x7 x8 y0 y1 y2 y3 y4 HP5 HX5 HN5 HF5
        obtain ⟨c0, c1, c2, c3, c4⟩ := HP6.out.facts
        have f1 := HP6.out.frozen 1
        clear c0 c2 c3 c4
        rw [show ((p + 1 + 1 : Nat) : Int) = (p : Int) + 1 + 1 from rfl] at c1
        go_upto_region 10 with (fail)
        have HNB := Lib.hid (show b4 ≠ b from by
          intro e
          have h1 := HN6.out
          unfold TkAt at h1
          rw [e, HP6.out.cell] at h1
          injection h1 with h1; injection h1 with _ h1
          exact absurd h1 (by decide))
        have HP7 := Lib.hid (HP6.out.next HNX.out)
        have HX7 := Lib.hid (HX6.out.set hw0 1 (.int .i64 (((p + 1 + 1 : Nat) : Int) + 1)))
        have HN7 := Lib.hid (show TkAt (w6.setCell ⟨b, 1, none⟩ (.int .i64 (((p + 1 + 1 : Nat) : Int) + 1))) b4 u from by unfold TkAt; rw [Below.heap_setCell _ _ _ _ (by exact HNB.out)]; exact HN6.out)
        have HF7 := Lib.hid (HF6.out.setCell 1 (.int .i64 (((p + 1 + 1 : Nat) : Int) + 1)))
        clear c1 f1 HP6 HX6 HN6 HF6
        rw [show ((p + 1 + 1 : Nat) : Int) = (p : Int) + 1 + 1 from rfl] at HP7 HX7 HN7 HF7
        generalize w6.setCell ⟨b, 1, none⟩ (.int .i64 ((p : Int) + 1 + 1 + 1)) = w7 at HP7 HX7 HN7 HF7 ⊢
        obtain ⟨x0, x1, x2, x3, x4, x5, x6, x7, x8⟩ := HN7.out.cells
        obtain ⟨y0, y1, y2, y3, y4⟩ := HX7.out.facts
        have HA := Lib.hid (show Calls Tryz.prog 51 #[.pointer (some ⟨b, 0, none⟩), .agg #[.int .i64 6, .int .i64 0, .string ⟨#[]⟩, .string t.sh, .int .i64 t.c, .int .i64 t.r, .bool t.ac, .bool t.ar, .string u.sh, .int .i64 u.c, .int .i64 u.r, .bool u.ac, .bool u.ar, .slice none 0 0]] w7 _ from rput_any HP7.out (Nv.leaf (⟨6, 0, ⟨#[]⟩, t.rf, u.rf, []⟩ : Nd)) (leaf_own _ _ _ rfl) (by omega) (.slice none 0 0) rfl (⟨6, 0, ⟨#[]⟩, t.rf, u.rf, []⟩ : Nd) rfl)
        go_wp2_with (go_at_call 51; ((with_reducible refine HA.out.mono ?_); rintro e w8 ⟨h1, rfl, nv', h3⟩; have HF8 := Lib.hid (HF7.out.trans h1); have HP8 := Lib.hid h3; clear h1 h3))
        go_ret
        exact ROut.leaf HR.out HF8.out rfl HP8.out (by omega)
    · have e4 : (u.kind != 4) = true := by rw [bne_iff_ne]; exact h4
      have e5 : (u.kind == 4) = false := beq_eq_false_iff_ne.2 h4
      have HR := Lib.hid (show refP vs.length t (ts.drop (p + 1)) = .error 5 by rw [hR, if_neg (fun h => h4 h.1)])
      have HFA := Lib.hid (rfail_any HP5.out 5)
      clear hR h4
      go_wp2_with (go_at_call 27; ((with_reducible refine HFA.out.mono ?_); rintro e w7 ⟨rfl, h1, h2⟩; have HF7 := Lib.hid (HF5.out.trans h1); have HP7 := Lib.hid h2; clear h1 h2))
      go_ret
      exact ROut.err HR.out (.inl rfl) HF7.out (by have := HP7.out; unfold RFail at this; rw [if_pos rfl] at this; exact this) hcs (by omega)
end Go.Proofs.YtdfpalocnijefaaGreatDoor

/-
  Layer 5, the reference: names.
-/
namespace Go.Proofs.YtdfpalocnijefaaGreatDoor
open Go.RowKit

/-- The end of a call: a node, whatever was told. -/
theorem ROut.errs {sl : Nat} {res : Res} {w w' : World} {b : Nat} {tv : Value} {ts : List Tk} {deep p' : Nat} {d : Int} {vs us : List Nv} {nv' : Value} {c x : Int} (hr : res = .error c) (hc : c = 5 ∨ c = 6) (hf : Fr w w' b)
    (hu : ∀ u ∈ us, ∀ g, u.kv.ownBlock = some g → w.heap.size ≤ g) (h : Rs w' b tv ts p' d c nv' (vs ++ us)) (hs : (vs ++ us).length + sl ≤ ts.length + 100) (hd : (sl : Int) ≤ d + 100 ∧ d ≤ 100) : ROut sl res w b tv ts deep vs (.returned (.int .i64 x)) w' :=
  ⟨hf, .inl ⟨c, hr, hc, ⟨x, rfl⟩, p', d, nv', us, hu, h, hs, hd⟩⟩
set_option maxRecDepth 100000 in
set_option maxHeartbeats 8000000 in
theorem rname_any (f : Nat) (IH : ∀ g, g ≤ f → REX g) (name : ByteArray) {w : World} {b : Nat} {tv : Value} {ts : List Tk} {p deep : Nat} {nv : Value} {vs : List Nv} (h : Rs w b tv ts p (deep : Int) 0 nv vs) (hcnt : vs.length ≤ p) (hdeep : deep ≤ 12) (hnx : p + 1 < ts.length) (res : Res) (hres : wordP f deep vs.length name (ts.drop (p + 1)) = some res) :
    Calls Tryz.prog 123 #[.pointer (some ⟨b, 0, none⟩), .string name] w (ROut (5 + 6 * deep) res w b tv ts deep vs) := by
  unfold wordP at hres
  have q1 := word_eq name ⟨#[84, 82, 85, 69]⟩
  have q2 := word_eq name ⟨#[70, 65, 76, 83, 69]⟩
  rw [list_true] at q1
  rw [list_false] at q2
  have hfew := h.few
  have hlt := h.lt
  have hbl := h.blt
  obtain ⟨c0, c1, c2, c3, c4⟩ := h.facts
  have f1 := h.frozen 1
  have HP1 := Lib.hid (h.next hnx)
  have HF1 := Lib.hid ((Fr.refl w b).setCell 1 (.int .i64 ((p : Int) + 1)))
  have hcs : vs.length + (5 + 6 * deep) ≤ ts.length + 100 := by omega
  clear c0 c2 c3 c4 h
  go_enter Tryz.func123, Tryz.ntmps123
  go_upto_region 2 with (fail)
  generalize w.setCell ⟨b, 1, none⟩ (.int .i64 ((p : Int) + 1)) = w1 at HP1 HF1 ⊢
  clear c1 f1
  by_cases h1 : name = ⟨#[84, 82, 85, 69]⟩
  · rw [decide_eq_true h1] at q1
    rw [if_pos h1] at hres
    injection hres with hres
    have HR := Lib.hid hres.symm
    have HA := Lib.hid (show Calls Tryz.prog 51 #[.pointer (some ⟨b, 0, none⟩), .agg #[.int .i64 3, .int .i64 1, .string ⟨#[]⟩, .string ⟨#[]⟩, .int .i64 0, .int .i64 0, .bool false, .bool false, .string ⟨#[]⟩, .int .i64 0, .int .i64 0, .bool false, .bool false, .slice none 0 0]] w1 _ from rput_any HP1.out (Nv.leaf { Nd.zero with kind := 3, num := 1 }) (leaf_own _ _ _ rfl) (by omega) (.slice none 0 0) rfl { Nd.zero with kind := 3, num := 1 } rfl)
    clear hres h1 q2
    go_wp2_with (go_at_call 51; ((with_reducible refine HA.out.mono ?_); rintro e w7 ⟨h1, rfl, nv', h3⟩; have HF7 := Lib.hid (HF1.out.trans h1); have HP7 := Lib.hid h3; clear h1 h3))
    go_ret
    exact ROut.leaf HR.out HF7.out rfl HP7.out (by omega)
  rw [decide_eq_false h1] at q1
  rw [if_neg h1] at hres
  by_cases h2 : name = ⟨#[70, 65, 76, 83, 69]⟩
  · rw [decide_eq_true h2] at q2
    rw [if_pos h2] at hres
    injection hres with hres
    have HR := Lib.hid hres.symm
    have HA := Lib.hid (show Calls Tryz.prog 51 #[.pointer (some ⟨b, 0, none⟩), .agg #[.int .i64 3, .int .i64 0, .string ⟨#[]⟩, .string ⟨#[]⟩, .int .i64 0, .int .i64 0, .bool false, .bool false, .string ⟨#[]⟩, .int .i64 0, .int .i64 0, .bool false, .bool false, .slice none 0 0]] w1 _ from rput_any HP1.out (Nv.leaf { Nd.zero with kind := 3 }) (leaf_own _ _ _ rfl) (by omega) (.slice none 0 0) rfl { Nd.zero with kind := 3 } rfl)
    clear hres h1 h2
    go_wp2_with (go_at_call 51; ((with_reducible refine HA.out.mono ?_); rintro e w7 ⟨h1, rfl, nv', h3⟩; have HF7 := Lib.hid (HF1.out.trans h1); have HP7 := Lib.hid h3; clear h1 h3))
    go_ret
    exact ROut.leaf HR.out HF7.out rfl HP7.out (by omega)
  rw [decide_eq_false h2] at q2
  rw [if_neg h2] at hres
  clear h1 h2
  have HS := Lib.hid (ris_any HP1.out ⟨#[40]⟩)
  rw [decide_eq_true rfl, Bool.true_and] at HS
  cases hs : signIs ⟨#[40]⟩ (ts.drop (p + 1))
  · rw [hs, if_neg (by decide)] at hres
    injection hres with hres
    have HR := Lib.hid hres.symm
    rw [hs] at HS
    clear hres hs
    go_wp2_with (first
      | (go_at_call 50; ((with_reducible refine HS.out.mono ?_); rintro e w2 ⟨rfl, h1⟩; have HF2 := Lib.hid (HF1.out.below h1); have HFA := Lib.hid (rfail_any (HP1.out.below h1) 5); clear h1))
      | (go_at_call 27; ((with_reducible refine HFA.out.mono ?_); rintro e w7 ⟨rfl, h1, h2⟩; have HF7 := Lib.hid (HF2.out.trans h1); have HP7 := Lib.hid h2; clear h1 h2)))
    go_ret
    exact ROut.err HR.out (.inl rfl) HF7.out (Rs.of_fail HP7.out) hcs (by omega)
  have hnx1 := rsign_next HP1.out hs
  rw [hs, if_pos rfl] at hres
  rw [hs] at HS
  clear hs
  go_upto_region 9 with (go_at_call 50; ((with_reducible refine HS.out.mono ?_); rintro e w2 ⟨rfl, h1⟩; have HF2 := Lib.hid (HF1.out.below h1); have HP2 := Lib.hid (HP1.out.below h1); clear h1))
  have HO := Lib.hid (ropen_any HP2.out hdeep hnx1)
  unfold caP at hres
  have hz2 := HF2.out.size
  have hbl2 := HP2.out.blt
  have HOW := Lib.hid (show Own (encInt .i64) 3 w2 (b + 1) (.slice none 0 0) [] from Own.nil _ _ _ _)
  by_cases hd : 12 ≤ deep
  · rw [if_pos hd] at hres
    injection hres with hres
    have HR := Lib.hid hres.symm
    clear hres
    go_upto_region 17 with (first
      | (go_at_call 89; ((with_reducible refine HO.out.mono ?_); rintro e w3 ⟨rfl, h1, h2⟩; rcases h2 with ⟨-, h2⟩ | ⟨h2, -⟩; rotate_left; exact absurd hd h2; have HF3 := Lib.hid (HF2.out.trans h1); have HP3 := Lib.hid h2; have HWA := Lib.hid (rwant_any h2 ⟨#[41]⟩); obtain ⟨c0, c1, c2, c3, c4⟩ := h2.facts; clear c0 c1 c2 c4 h1 h2))
      | (go_at_call 121; ((with_reducible refine HWA.out.mono ?_); rintro e w4 ⟨rfl, h1, h2⟩; have HF4 := Lib.hid (HF3.out.trans h1); have HP4 := Lib.hid (show Rs w4 b tv ts (p + 1) (deep : Int) 6 nv vs from (by rcases h2 with ⟨_, h2⟩ | ⟨h2, _⟩ | ⟨h2, _⟩; exact h2; exact absurd h2 (by decide); exact absurd h2 (by decide))); clear h1 h2)))
    have HVN := Lib.hid (show (⟨{ Nd.zero with kind := 7, text := name, kids := [] }, none⟩ : Nv).n = { Nd.zero with kind := 7, text := name, kids := [] } from rfl)
    have HVK := Lib.hid (show (⟨{ Nd.zero with kind := 7, text := name, kids := [] }, none⟩ : Nv).kv = .slice none 0 0 from rfl)
    obtain ⟨c0, c1, c2, c3, c4⟩ := HP4.out.facts
    have f2 := HP4.out.frozen 2
    clear c0 c1 c3 c4
    have hd1 : -9223372036854775808 ≤ (deep : Int) - 1 := by omega
    have hd2 : (deep : Int) - 1 ≤ 9223372036854775807 := by omega
    go_upto_region 18 with (fail)
    have HPm := Lib.hid (HP4.out.setD ((deep : Int) - 1))
    have HFm := Lib.hid (HF4.out.setCell 2 (.int .i64 ((deep : Int) - 1)))
    have HOm := Lib.hid (show Own (encInt .i64) 3 (w4.setCell ⟨b, 2, none⟩ (.int .i64 ((deep : Int) - 1))) (b + 1) (.slice none 0 0) [] from (show Own (encInt .i64) 3 w4 (b + 1) (.slice none 0 0) [] from Own.nil _ _ _ _).keep fun j hj _ _ => Below.heap_setCell _ _ _ _ (by show j ≠ b; omega))
    generalize w4.setCell ⟨b, 2, none⟩ (.int .i64 ((deep : Int) - 1)) = wm at HPm HFm HOm ⊢
    clear c2 f2
    have HA := Lib.hid (show Calls Tryz.prog 51 #[.pointer (some ⟨b, 0, none⟩), .agg #[.int .i64 7, .int .i64 0, .string name, .string ⟨#[]⟩, .int .i64 0, .int .i64 0, .bool false, .bool false, .string ⟨#[]⟩, .int .i64 0, .int .i64 0, .bool false, .bool false, (.slice none 0 0)]] wm _ from rput_any HPm.out ⟨{ Nd.zero with kind := 7, text := name, kids := [] }, none⟩ (by rw [HVK.out, HVN.out]; exact HOm.out) (by omega) _ HVK.out { Nd.zero with kind := 7, text := name, kids := [] } HVN.out)
    go_wp2_with (go_at_call 51; ((with_reducible refine HA.out.mono ?_); rintro e w8 ⟨h1, rfl, nv8, h3⟩; have HF8 := Lib.hid (HFm.out.trans h1); have HP8 := Lib.hid h3; clear h1 h3))
    go_ret
    refine ROut.errs (us := [⟨{ Nd.zero with kind := 7, text := name, kids := [] }, none⟩]) HR.out (.inr rfl) HF8.out ?_ HP8.out (by simp; omega) (by omega)
    intro u hu g hg
    rw [List.mem_singleton.1 hu] at hg; cases hg
  · rw [if_neg hd, List.tail_drop] at hres
    have HRES := Lib.hid hres
    have HIH := Lib.hid IH
    obtain ⟨eb, hEB, EL⟩ := Elem.kid
    have HEL := Lib.hid EL
    have hdp : deep + 1 ≤ 12 := by omega
    clear hres IH EL
    go_upto_region 10 with (go_at_call 89; ((with_reducible refine HO.out.mono ?_); rintro e w3 ⟨rfl, h1, h2⟩; rcases h2 with ⟨h2, -⟩ | ⟨-, h2⟩; exact absurd h2 hd; have HF3 := Lib.hid (HF2.out.trans h1); have HP3 := Lib.hid h2; clear h1 h2))
    have HIS := Lib.hid (ris_any HP3.out ⟨#[41]⟩)
    rw [decide_eq_true rfl, Bool.true_and] at HIS
    obtain ⟨c0, c1, c2, c3, c4⟩ := HP3.out.facts
    clear c0 c1 c2 c4 HO HP2 HOW HS
    have hz3 := HF3.out.size
    have hbl3 := HP3.out.blt
    cases hs : signIs ⟨#[41]⟩ (ts.drop (p + 1 + 1))
    rotate_left
    · have hr := HRES.out
      rw [hs, if_pos rfl] at hr
      have hr : callK vs.length name [] [] (ts.drop (p + 1 + 1)) = some res := hr
      unfold callK at hr
      rw [hs, if_pos rfl, List.tail_drop] at hr
      injection hr with hr
      have HR := Lib.hid hr.symm
      have hnx2 := rsign_next HP3.out hs
      rw [hs] at HIS
      have HSG := Lib.hid hs
      clear hr hs
      go_upto_region 17 with (first
        | (go_at_call 50; ((with_reducible refine HIS.out.mono ?_); rintro e w4 ⟨rfl, h1⟩; have HF4 := Lib.hid (HF3.out.below h1); have HWA := Lib.hid (rwant_any (HP3.out.below h1) ⟨#[41]⟩); clear h1))
        | (go_at_call 121; ((with_reducible refine HWA.out.mono ?_); rintro e w5 ⟨rfl, h1, h2⟩; have HF5 := Lib.hid (HF4.out.trans h1); have HP5 := Lib.hid (show Rs w5 b tv ts (p + 1 + 1 + 1) ((deep + 1 : Nat) : Int) 0 nv vs from (by rcases h2 with ⟨h2, _⟩ | ⟨_, _, h2⟩ | ⟨_, h2, _⟩; exact absurd rfl h2; exact h2; rw [HSG.out] at h2; cases h2)); clear h1 h2)))
      rw [show ((deep + 1 : Nat) : Int) = (deep : Int) + 1 from rfl] at HP5
      have HVN := Lib.hid (show (⟨{ Nd.zero with kind := 7, text := name, kids := [] }, none⟩ : Nv).n = { Nd.zero with kind := 7, text := name, kids := [] } from rfl)
      have HVK := Lib.hid (show (⟨{ Nd.zero with kind := 7, text := name, kids := [] }, none⟩ : Nv).kv = .slice none 0 0 from rfl)
      obtain ⟨c0, c1, c2, c3, c4⟩ := HP5.out.facts
      have f2 := HP5.out.frozen 2
      clear c0 c1 c3 c4
      have hd1 : -9223372036854775808 ≤ (deep : Int) + 1 - 1 := by omega
      have hd2 : (deep : Int) + 1 - 1 ≤ 9223372036854775807 := by omega
      go_upto_region 18 with (fail)
      have HPm := Lib.hid (HP5.out.setD ((deep : Int)))
      have HFm := Lib.hid (HF5.out.setCell 2 (.int .i64 ((deep : Int))))
      have HOm := Lib.hid (show Own (encInt .i64) 3 (w5.setCell ⟨b, 2, none⟩ (.int .i64 ((deep : Int)))) (b + 1) (.slice none 0 0) [] from (show Own (encInt .i64) 3 w5 (b + 1) (.slice none 0 0) [] from Own.nil _ _ _ _).keep fun j hj _ _ => Below.heap_setCell _ _ _ _ (by show j ≠ b; omega))
      generalize w5.setCell ⟨b, 2, none⟩ (.int .i64 ((deep : Int))) = wm at HPm HFm HOm ⊢
      clear c2 f2
      have HA := Lib.hid (show Calls Tryz.prog 51 #[.pointer (some ⟨b, 0, none⟩), .agg #[.int .i64 7, .int .i64 0, .string name, .string ⟨#[]⟩, .int .i64 0, .int .i64 0, .bool false, .bool false, .string ⟨#[]⟩, .int .i64 0, .int .i64 0, .bool false, .bool false, (.slice none 0 0)]] wm _ from rput_any HPm.out ⟨{ Nd.zero with kind := 7, text := name, kids := [] }, none⟩ (by rw [HVK.out, HVN.out]; exact HOm.out) (by omega) _ HVK.out { Nd.zero with kind := 7, text := name, kids := [] } HVN.out)
      go_wp2_with (go_at_call 51; ((with_reducible refine HA.out.mono ?_); rintro e w8 ⟨h1, rfl, nv8, h3⟩; have HF8 := Lib.hid (HFm.out.trans h1); have HP8 := Lib.hid h3; clear h1 h3))
      go_ret
      refine ⟨HF8.out, .inr ⟨_, _, _, HR.out, rfl, p + 1 + 1 + 1, nv8, [⟨{ Nd.zero with kind := 7, text := name, kids := [] }, none⟩], rfl, rfl, ?_, HP8.out, by simp; omega⟩⟩
      intro u hu g hg
      rw [List.mem_singleton.1 hu] at hg; cases hg
    have hr := HRES.out
    rw [hs, if_neg (by decide)] at hr
    have HR0 := Lib.hid hr
    rw [hs] at HIS
    clear hr hs HRES
    go_upto_region 12 with (go_at_call 50; ((with_reducible refine HIS.out.mono ?_); rintro e w4 ⟨rfl, h1⟩; have HF4 := Lib.hid (HF3.out.below h1); have HP4 := Lib.hid (HP3.out.below h1); clear h1))
    clear c3
    go_loopw [5] (fun kvs wr => ∃ (kv : Value) (g : Nat) (ns : List Nd) (ks : List Int) (p' : Nat) (nv' : Value) (us : List Nv), kv = kvs ∧ g ≤ f ∧ ks.length ≤ us.length ∧ us.length = ns.length ∧ vs.length + us.length ≤ p' ∧
        Hid (bindR (argsP g (deep + 1) vs.length ns ks (ts.drop p')) (callK vs.length name) = some res) ∧
        Hid (us.map Nv.n = ns) ∧ Hid (∀ u ∈ us, ∀ j, u.kv.ownBlock = some j → w.heap.size ≤ j) ∧ Hid (∀ u ∈ vs ++ us, ∀ j, u.kv.ownBlock = some j → kv.ownBlock ≠ some j) ∧
        Hid (Own (encInt .i64) 3 wr w.heap.size kv ks) ∧ Hid (Rs wr b tv ts p' ((deep + 1 : Nat) : Int) 0 nv' (vs ++ us)) ∧ Hid (Fr w wr b))
      (fun _ wr => rsm b ts.length wr)
    case atStart =>
      exact ⟨.slice none 0 0, f, [], [], p + 1 + 1, nv, [], rfl, Nat.le_refl _, Nat.le_refl _, rfl, by simp; omega, HR0, Lib.hid rfl, Lib.hid (by simp), Lib.hid (by intro u _ j _ e; cases e), Lib.hid (Own.nil _ _ _ _), by rw [List.append_nil]; exact HP4, HF4⟩
    case round =>
      clear HIS HR0 HF3 HP3 HF4 HP4 HF2
      obtain ⟨kv, g, ns, ks, p', nv', us, rfl, hg, hkl, hul, hcn, HM, HU, HK, HJ, HOK, HPr, HF⟩ := hrel
      have hltr := HPr.out.lt
      have hlen : (vs ++ us).length = vs.length + us.length := List.length_append
      have HPM := Lib.hid (HPr.out.rsm ts.length)
      have HZW := Lib.hid HF.out.size
      obtain ⟨c0, c1, c2, c3, c4⟩ := HPr.out.facts
      clear c0 c1 c2 c4
      have hA := HM.out
      match g, hg, hA with
      | 0, _, hA => unfold argsP bindR at hA; cases hA
      | g + 1, hg, hA =>
      rw [argsP_succ, bindR_bind] at hA
      have hbase : vs.length + ns.length = (vs ++ us).length := by rw [hlen, hul]
      rw [hbase] at hA
      rcases bindR_some hA with ⟨c, h1, rfl⟩ | ⟨ms, a, r, h1, h2⟩
      · have HL := Lib.hid (show Calls Tryz.prog 26 #[.pointer (some ⟨b, 0, none⟩), .int .i64 0] wr (ROut (0 + 6 * (deep + 1)) (.error c) wr b tv ts (deep + 1) (vs ++ us)) from HIH.out g (by omega) 0 (deep + 1) _ wr b tv ts p' nv' (vs ++ us) (by omega) (by omega) HPr.out (by omega) h1)
        clear h1 hA HM
        go_upto_region 14 with (first
          | (go_at_call 26; ((with_reducible refine HL.out.mono ?_); intro e w5 ho; obtain ⟨hf, hc, x, rfl, p5, d5, nv5, us5, hk5, hps5, hn5, hd5, hd5'⟩ := ho.bad rfl; have HF5 := Lib.hid (HF.out.trans hf); have HOK5 := Lib.hid (HOK.out.fr hf hbl (by decide)); have HC := Lib.hid hc; have HP5 := Lib.hid hps5; have HK5 := Lib.hid hk5; have HZ5 := Lib.hid hf.size; clear hf hc ho hps5 hk5))
          | (at_builtin; refine wpList_app_at HEL.out (encInt .i64) rfl (.tmp 45) (.tmp 48) rfl w.heap.size kv ks rfl (HOK5.out.alloc _) ⟨w5.heap.size, 0, none⟩ 1 1 [x] rfl rfl ?_ ?_ ?_ ?_ ?_; exact cells_new _ _ _ rfl; exact Nat.le_trans (Nat.mul_le_mul_left _ hEB) (by omega); (unfold maxLen; omega); (have := HF5.out.size; simp; omega); intro kv' w6 h1 h2 h3; have HO6 := Lib.hid h1; have HG6 := Lib.hid h2; have HAT := Lib.hid h3; clear h1 h2 h3))
        have hB6 : Below w5.heap.size w5 (w5.alloc (.cells #[.int .i64 x] 3)) := (Below.refl _ _).alloc (Nat.le_refl _) _
        have hO5 := HOK5.out.alloc (.cells #[.int .i64 x] 3)
        have hsz5 := HF5.out.size
        have HJ5 := Lib.hid (show ∀ u ∈ (vs ++ us) ++ us5, ∀ j, u.kv.ownBlock = some j → kv.ownBlock ≠ some j from by
          intro u hu j hj
          rcases List.mem_append.1 hu with hu | hu
          · exact HJ.out u hu j hj
          · intro e
            have h3 := HK5.out u hu j hj
            have h4 := (HOK.out.blockLt j e).2.1
            omega)
        have HP6 := Lib.hid ((HP5.out.below hB6).kids HG6.out (by
          intro j e
          obtain ⟨q1, q2, cur, q3⟩ := hO5.blockLt j e
          refine ⟨by omega, ?_, fun u hu e2 => HJ5.out u hu j e2 e⟩
          rintro ⟨cur', fr, e2⟩
          rw [q3] at e2; injection e2 with e2; injection e2 with _ e2
          exact absurd e2 (by decide)))
        have HF6 := Lib.hid ((HF5.out.below hB6).row HG6.out (by
          intro j e
          obtain ⟨q1, q2, cur, q3⟩ := hO5.blockLt j e
          exact ⟨by omega, .inl q1⟩))
        have HT6 := Lib.hid (ris_any HP6.out ⟨#[44]⟩)
        rw [decide_eq_false (show ¬ c = 0 by rcases HC.out with h | h <;> omega), Bool.false_and] at HT6
        have HWF := Lib.hid (fun w7 (h1 : Below w6.heap.size w6 w7) => rwant_any (HP6.out.below h1) ⟨#[41]⟩)
        clear hB6 hO5 HG6 HAT HJ5 HOK5 HF HPr HL
        go_upto_region 17 with (first
          | (go_at_call 50; ((with_reducible refine HT6.out.mono ?_); rintro e w7 ⟨rfl, h1⟩; have HF7 := Lib.hid (HF6.out.below h1); have HW := Lib.hid (HWF.out _ h1); have HO7 := Lib.hid (HO6.out.below h1 (Nat.le_refl _)); clear h1))
          | (go_at_call 121; ((with_reducible refine HW.out.mono ?_); rintro e w9 ⟨rfl, h1, h2⟩; have HF9 := Lib.hid (HF7.out.trans h1); have HO9 := Lib.hid (HO7.out.fr h1 hbl (by decide)); have HP9 := Lib.hid (show Rs w9 b tv ts p5 d5 c nv5 ((vs ++ us) ++ us5) from (by rcases h2 with ⟨_, h2⟩ | ⟨h2, _⟩ | ⟨h2, _⟩; exact h2; (exfalso; rcases HC.out with h | h <;> omega); (exfalso; rcases HC.out with h | h <;> omega))); clear h1 h2)))
        obtain ⟨v, hvn, hvk⟩ : ∃ v : Nv, v.n = { Nd.zero with kind := 7, text := name, kids := ks ++ [x] } ∧ v.kv = kv' := by
          rcases HO9.out.shape with ⟨rfl, h0⟩ | ⟨g1, cap, rfl, _⟩
          · exact absurd h0 (by simp)
          · exact ⟨⟨_, some (g1, cap)⟩, rfl, rfl⟩
        have HVN := Lib.hid hvn; have HVK := Lib.hid hvk
        clear hvn hvk
        obtain ⟨g1, cap1, hkv, -, -, -, -⟩ := Own.some HO9.out (by simp)
        obtain ⟨n1, hn1⟩ : ∃ n1, (ks ++ [x]).length = n1 := ⟨_, rfl⟩
        rw [hn1] at hkv
        subst hkv
        have hnew : ∀ u ∈ us ++ (us5 ++ [v]), ∀ j, u.kv.ownBlock = some j → w.heap.size ≤ j := by
          intro u hu j hj
          rcases List.mem_append.1 hu with hu | hu
          · exact HK.out u hu j hj
          · rcases List.mem_append.1 hu with hu | hu
            · exact Nat.le_trans HZW.out (HK5.out u hu j hj)
            · rw [List.mem_singleton.1 hu, HVK.out] at hj
              exact (HO9.out.blockLt j hj).1
        have HNEW := Lib.hid hnew
        clear hnew hn1
        obtain ⟨c0, c1, c2, c3, c4⟩ := HP9.out.facts
        have f2 := HP9.out.frozen 2
        clear c0 c1 c3 c4
        have hd1 : -9223372036854775808 ≤ d5 - 1 := by omega
        have hd2 : d5 - 1 ≤ 9223372036854775807 := by omega
        go_upto_region 18 with (fail)
        have HPm := Lib.hid (HP9.out.setD (d5 - 1))
        have HFm := Lib.hid (HF9.out.setCell 2 (.int .i64 (d5 - 1)))
        have HOm := Lib.hid (show Own (encInt .i64) 3 (w9.setCell ⟨b, 2, none⟩ (.int .i64 (d5 - 1))) (b + 1) (.slice (some ⟨g1, 0, none⟩) n1 cap1) (ks ++ [x]) from (HO9.out.mono (show b + 1 ≤ w.heap.size by omega)).keep fun j hj _ _ => Below.heap_setCell _ _ _ _ (by show j ≠ b; omega))
        generalize w9.setCell ⟨b, 2, none⟩ (.int .i64 (d5 - 1)) = wm at HPm HFm HOm ⊢
        clear c2 f2
        have HA := Lib.hid (show Calls Tryz.prog 51 #[.pointer (some ⟨b, 0, none⟩), .agg #[.int .i64 7, .int .i64 0, .string name, .string ⟨#[]⟩, .int .i64 0, .int .i64 0, .bool false, .bool false, .string ⟨#[]⟩, .int .i64 0, .int .i64 0, .bool false, .bool false, (.slice (some ⟨g1, 0, none⟩) n1 cap1)]] wm _ from rput_any HPm.out v (by rw [HVK.out, HVN.out]; exact HOm.out) (by omega) _ HVK.out { Nd.zero with kind := 7, text := name, kids := (ks ++ [x]) } HVN.out)
        go_wp2_with (go_at_call 51; ((with_reducible refine HA.out.mono ?_); rintro e w8 ⟨h1, rfl, nv8, h3⟩; have HF8 := Lib.hid (HFm.out.trans h1); have HP8 := Lib.hid h3; clear h1 h3))
        go_ret
        refine ROut.errs (us := us ++ (us5 ++ [v])) rfl HC.out HF8.out HNEW.out (by rw [← List.append_assoc, ← List.append_assoc]; exact HP8.out) (by simp only [List.length_append, List.length_singleton] at hn5 ⊢; omega) (by omega)
      · have HL := Lib.hid (show Calls Tryz.prog 26 #[.pointer (some ⟨b, 0, none⟩), .int .i64 0] wr (ROut (0 + 6 * (deep + 1)) (.ok (ms, a, r)) wr b tv ts (deep + 1) (vs ++ us)) from HIH.out g (by omega) 0 (deep + 1) _ wr b tv ts p' nv' (vs ++ us) (by omega) (by omega) HPr.out (by omega) h1)
        have H1 := Lib.hid h1
        have H2 := Lib.hid h2
        clear h1 h2 hA HM
        go_upto_region 14 with (first
          | (go_at_call 26; ((with_reducible refine HL.out.mono ?_); intro e w5 ho; obtain ⟨hf, rfl, p5, nv5, us5, hp5, hu5, hk5, hps5, hn5⟩ := ho.good rfl; have HF5 := Lib.hid (HF.out.trans hf); have HOK5 := Lib.hid (HOK.out.fr hf hbl (by decide)); have HP5 := Lib.hid hps5; have HD5 := Lib.hid hp5; have HU5 := Lib.hid hu5; have HK5 := Lib.hid hk5; clear hf ho hps5 hk5 hp5 hu5))
          | (at_builtin; refine wpList_app_at HEL.out (encInt .i64) rfl (.tmp 45) (.tmp 48) rfl w.heap.size kv ks rfl (HOK5.out.alloc _) ⟨w5.heap.size, 0, none⟩ 1 1 [((a : Nat) : Int)] rfl rfl ?_ ?_ ?_ ?_ ?_; exact cells_new _ _ _ rfl; exact Nat.le_trans (Nat.mul_le_mul_left _ hEB) (by omega); (unfold maxLen; omega); (have := HF5.out.size; simp; omega); intro kv' w6 h1 h2 h3; have HO6 := Lib.hid h1; have HG6 := Lib.hid h2; have HAT := Lib.hid h3; clear h1 h2 h3))
        have hB6 : Below w5.heap.size w5 (w5.alloc (.cells #[.int .i64 ((a : Nat) : Int)] 3)) := (Below.refl _ _).alloc (Nat.le_refl _) _
        have hO5 := HOK5.out.alloc (.cells #[.int .i64 ((a : Nat) : Int)] 3)
        have hsz5 := HF5.out.size
        have hus5 : us5.length = ms.length := by rw [← HU5.out, List.length_map]
        obtain ⟨hc1, hc2, hc3⟩ := count_at H1.out HD5.out HP5.out.lt
        have hlen5 : ((vs ++ us) ++ us5).length = vs.length + us.length + us5.length := by rw [List.length_append, List.length_append]
        have HJ5 := Lib.hid (show ∀ u ∈ (vs ++ us) ++ us5, ∀ j, u.kv.ownBlock = some j → kv.ownBlock ≠ some j from by
          intro u hu j hj
          rcases List.mem_append.1 hu with hu | hu
          · exact HJ.out u hu j hj
          · intro e
            have h3 := HK5.out u hu j hj
            have h4 := (HOK.out.blockLt j e).2.1
            omega)
        have HP6 := Lib.hid ((HP5.out.below hB6).kids HG6.out (by
          intro j e
          obtain ⟨q1, q2, cur, q3⟩ := hO5.blockLt j e
          refine ⟨by omega, ?_, fun u hu e2 => HJ5.out u hu j e2 e⟩
          rintro ⟨cur', fr, e2⟩
          rw [q3] at e2; injection e2 with e2; injection e2 with _ e2
          exact absurd e2 (by decide)))
        have HF6 := Lib.hid ((HF5.out.below hB6).row HG6.out (by
          intro j e
          obtain ⟨q1, q2, cur, q3⟩ := hO5.blockLt j e
          exact ⟨by omega, .inl q1⟩))
        have HJ6 := Lib.hid (show ∀ u ∈ (vs ++ us) ++ us5, ∀ j, u.kv.ownBlock = some j → kv'.ownBlock ≠ some j from by
          intro u hu j hj
          rcases HAT.out with e | e
          · rw [e]; exact HJ5.out u hu j hj
          · rw [e]
            have h4 := ((HP5.out.nodes.2 u hu).blockLt j hj).2.1
            intro e2; injection e2 with e2
            simp at e2; omega)
        have hKU : ∀ u ∈ us ++ us5, ∀ j, u.kv.ownBlock = some j → w.heap.size ≤ j := by
          intro u hu j hj
          rcases List.mem_append.1 hu with hu | hu
          · exact HK.out u hu j hj
          · exact Nat.le_trans HZW.out (HK5.out u hu j hj)
        have HKU := Lib.hid hKU
        have HT6 := Lib.hid (ris_any HP6.out ⟨#[44]⟩)
        rw [decide_eq_true rfl, Bool.true_and] at HT6
        have h2 := H2.out
        rw [← HD5.out] at h2
        clear hB6 hO5 HG6 HAT HJ5 HOK5 HF HPr H2 HL hKU
        cases hs : signIs ⟨#[44]⟩ (ts.drop p5)
        rotate_left
        · rw [hs, if_pos rfl, List.tail_drop] at h2
          have HN := Lib.hid h2
          have hnx5 := rsign_next HP6.out hs
          rw [hs] at HT6
          clear h2 hs
          go_upto_region 15 with (go_at_call 50; ((with_reducible refine HT6.out.mono ?_); rintro e w7 ⟨rfl, h1⟩; have HF7 := Lib.hid (HF6.out.below h1); have HO7 := Lib.hid (HO6.out.below h1 (Nat.le_refl _)); have HP7 := Lib.hid (HP6.out.below h1); clear h1))
          obtain ⟨c0, c1, c2, c3, c4⟩ := HP7.out.facts
          have f1 := HP7.out.frozen 1
          clear c0 c2 c3 c4
          go_wp2_with fail
          have HP8 := Lib.hid (HP7.out.next hnx5)
          have HO8 := Lib.hid (show Own (encInt .i64) 3 (w7.setCell ⟨b, 1, none⟩ (.int .i64 ((p5 : Int) + 1))) w.heap.size kv' (ks ++ [((a : Nat) : Int)]) from HO7.out.keep fun j hj _ _ => Below.heap_setCell _ _ _ _ (by show j ≠ b; omega))
          have HF8 := Lib.hid (HF7.out.setCell 1 (.int .i64 ((p5 : Int) + 1)))
          go_roundw
          case rel =>
            refine ⟨kv', g, ns ++ ms, ks ++ [((a : Nat) : Int)], p5 + 1, nv5, us ++ us5, rfl, by omega, by rw [List.length_append, List.length_append, List.length_singleton]; omega, by rw [List.length_append, List.length_append]; omega, by rw [List.length_append]; omega, HN, Lib.hid (by rw [List.map_append, HU.out, HU5.out]), HKU, ?_, HO8, ?_, HF8⟩
            · rw [← List.append_assoc]; exact HJ6
            · rw [← List.append_assoc]; exact HP8
          case measure =>
            have h1 := HP8.out.rsm ts.length
            rw [HPM.out, h1]; simp only [if_true]; omega
        rw [hs, if_neg (by decide)] at h2
        have HN := Lib.hid (show callK vs.length name (ns ++ ms) (ks ++ [((a : Nat) : Int)]) (ts.drop p5) = some res from h2)
        rw [hs] at HT6
        clear h2 hs
        have HWF := Lib.hid (fun w7 (h1 : Below w6.heap.size w6 w7) => rwant_any (HP6.out.below h1) ⟨#[41]⟩)
        go_upto_region 17 with (first
          | (go_at_call 50; ((with_reducible refine HT6.out.mono ?_); rintro e w7 ⟨rfl, h1⟩; have HF7 := Lib.hid (HF6.out.below h1); have HW := Lib.hid (HWF.out _ h1); have HO7 := Lib.hid (HO6.out.below h1 (Nat.le_refl _)); clear h1))
          | (go_at_call 121; ((with_reducible refine HW.out.mono ?_); rintro e w9 ⟨rfl, h1, h2⟩; have HF9 := Lib.hid (HF7.out.trans h1); have HO9 := Lib.hid (HO7.out.fr h1 hbl (by decide)); have HW9 := Lib.hid h2; clear h1 h2)))
        obtain ⟨v, hvn, hvk⟩ : ∃ v : Nv, v.n = { Nd.zero with kind := 7, text := name, kids := ks ++ [((a : Nat) : Int)] } ∧ v.kv = kv' := by
          rcases HO9.out.shape with ⟨rfl, h0⟩ | ⟨g1, cap, rfl, _⟩
          · exact absurd h0 (by simp)
          · exact ⟨⟨_, some (g1, cap)⟩, rfl, rfl⟩
        have HVN := Lib.hid hvn; have HVK := Lib.hid hvk
        clear hvn hvk
        obtain ⟨g1, cap1, hkv, -, -, -, -⟩ := Own.some HO9.out (by simp)
        obtain ⟨n1, hn1⟩ : ∃ n1, (ks ++ [((a : Nat) : Int)]).length = n1 := ⟨_, rfl⟩
        rw [hn1] at hkv
        subst hkv
        have HNEW := Lib.hid (show ∀ u ∈ us ++ (us5 ++ [v]), ∀ j, u.kv.ownBlock = some j → w.heap.size ≤ j from by
          intro u hu j hj
          rw [← List.append_assoc] at hu
          rcases List.mem_append.1 hu with hu | hu
          · exact HKU.out u hu j hj
          · rw [List.mem_singleton.1 hu, HVK.out] at hj
            exact (HO9.out.blockLt j hj).1)
        clear hn1
        have hN := HN.out
        unfold callK at hN
        have hp5l := HP5.out.lt
        rw [show ((deep + 1 : Nat) : Int) = (deep : Int) + 1 from rfl] at HW9
        cases hs : signIs ⟨#[41]⟩ (ts.drop p5)
        · rw [hs, if_neg (by decide)] at hN
          injection hN with hN
          have HR := Lib.hid hN.symm
          have HP9 := Lib.hid (show Rs w9 b tv ts p5 ((deep : Int) + 1) 5 nv5 ((vs ++ us) ++ us5) from (by rcases HW9.out with ⟨h2, _⟩ | ⟨_, h2, _⟩ | ⟨_, _, h2⟩; exact absurd rfl h2; (rw [hs] at h2; cases h2); exact h2))
          clear hN hs
          obtain ⟨c0, c1, c2, c3, c4⟩ := HP9.out.facts
          have f2 := HP9.out.frozen 2
          clear c0 c1 c3 c4
          have hd1 : -9223372036854775808 ≤ (deep : Int) + 1 - 1 := by omega
          have hd2 : (deep : Int) + 1 - 1 ≤ 9223372036854775807 := by omega
          go_upto_region 18 with (fail)
          have HPm := Lib.hid (HP9.out.setD ((deep : Int)))
          have HFm := Lib.hid (HF9.out.setCell 2 (.int .i64 ((deep : Int))))
          have HOm := Lib.hid (show Own (encInt .i64) 3 (w9.setCell ⟨b, 2, none⟩ (.int .i64 ((deep : Int)))) (b + 1) (.slice (some ⟨g1, 0, none⟩) n1 cap1) (ks ++ [((a : Nat) : Int)]) from (HO9.out.mono (show b + 1 ≤ w.heap.size by omega)).keep fun j hj _ _ => Below.heap_setCell _ _ _ _ (by show j ≠ b; omega))
          generalize w9.setCell ⟨b, 2, none⟩ (.int .i64 ((deep : Int))) = wm at HPm HFm HOm ⊢
          clear c2 f2
          have HA := Lib.hid (show Calls Tryz.prog 51 #[.pointer (some ⟨b, 0, none⟩), .agg #[.int .i64 7, .int .i64 0, .string name, .string ⟨#[]⟩, .int .i64 0, .int .i64 0, .bool false, .bool false, .string ⟨#[]⟩, .int .i64 0, .int .i64 0, .bool false, .bool false, (.slice (some ⟨g1, 0, none⟩) n1 cap1)]] wm _ from rput_any HPm.out v (by rw [HVK.out, HVN.out]; exact HOm.out) (by omega) _ HVK.out { Nd.zero with kind := 7, text := name, kids := (ks ++ [((a : Nat) : Int)]) } HVN.out)
          go_wp2_with (go_at_call 51; ((with_reducible refine HA.out.mono ?_); rintro e w8 ⟨h1, rfl, nv8, h3⟩; have HF8 := Lib.hid (HFm.out.trans h1); have HP8 := Lib.hid h3; clear h1 h3))
          go_ret
          exact ROut.errs (us := us ++ (us5 ++ [v])) HR.out (.inl rfl) HF8.out HNEW.out (by rw [← List.append_assoc, ← List.append_assoc]; exact HP8.out) (by simp only [List.length_append, List.length_singleton]; omega) (by omega)
        rw [hs, if_pos rfl, List.tail_drop] at hN
        injection hN with hN
        have HR := Lib.hid hN.symm
        have HP9 := Lib.hid (show Rs w9 b tv ts (p5 + 1) ((deep : Int) + 1) 0 nv5 ((vs ++ us) ++ us5) from (by rcases HW9.out with ⟨h2, _⟩ | ⟨_, _, h2⟩ | ⟨_, h2, _⟩; exact absurd rfl h2; exact h2; (rw [hs] at h2; cases h2)))
        clear hN hs
        obtain ⟨c0, c1, c2, c3, c4⟩ := HP9.out.facts
        have f2 := HP9.out.frozen 2
        clear c0 c1 c3 c4
        have hd1 : -9223372036854775808 ≤ (deep : Int) + 1 - 1 := by omega
        have hd2 : (deep : Int) + 1 - 1 ≤ 9223372036854775807 := by omega
        go_upto_region 18 with (fail)
        have HPm := Lib.hid (HP9.out.setD ((deep : Int)))
        have HFm := Lib.hid (HF9.out.setCell 2 (.int .i64 ((deep : Int))))
        have HOm := Lib.hid (show Own (encInt .i64) 3 (w9.setCell ⟨b, 2, none⟩ (.int .i64 ((deep : Int)))) (b + 1) (.slice (some ⟨g1, 0, none⟩) n1 cap1) (ks ++ [((a : Nat) : Int)]) from (HO9.out.mono (show b + 1 ≤ w.heap.size by omega)).keep fun j hj _ _ => Below.heap_setCell _ _ _ _ (by show j ≠ b; omega))
        generalize w9.setCell ⟨b, 2, none⟩ (.int .i64 ((deep : Int))) = wm at HPm HFm HOm ⊢
        clear c2 f2
        have HA := Lib.hid (show Calls Tryz.prog 51 #[.pointer (some ⟨b, 0, none⟩), .agg #[.int .i64 7, .int .i64 0, .string name, .string ⟨#[]⟩, .int .i64 0, .int .i64 0, .bool false, .bool false, .string ⟨#[]⟩, .int .i64 0, .int .i64 0, .bool false, .bool false, (.slice (some ⟨g1, 0, none⟩) n1 cap1)]] wm _ from rput_any HPm.out v (by rw [HVK.out, HVN.out]; exact HOm.out) (by omega) _ HVK.out { Nd.zero with kind := 7, text := name, kids := (ks ++ [((a : Nat) : Int)]) } HVN.out)
        go_wp2_with (go_at_call 51; ((with_reducible refine HA.out.mono ?_); rintro e w8 ⟨h1, rfl, nv8, h3⟩; have HF8 := Lib.hid (HFm.out.trans h1); have HP8 := Lib.hid h3; clear h1 h3))
        go_ret
        refine ⟨HF8.out, .inr ⟨_, _, _, HR.out, ret_int (by simp only [List.length_append]; omega), p5 + 1, nv8, us ++ (us5 ++ [v]), rfl, ?_, HNEW.out, by rw [← List.append_assoc, ← List.append_assoc]; exact HP8.out, by simp only [List.length_append, List.length_singleton]; omega⟩⟩
        rw [List.map_append, List.map_append, HU.out, HU5.out, List.map_cons, List.map_nil, HVN.out, List.append_assoc]
end Go.Proofs.YtdfpalocnijefaaGreatDoor

/-
  Layer 5, the reference: what no operator parts; signs ahead; rows of operators; every rank.
-/
namespace Go.Proofs.YtdfpalocnijefaaGreatDoor
open Go.RowKit

set_option maxRecDepth 100000 in
set_option maxHeartbeats 8000000 in
theorem rprim_any (f : Nat) (IH : ∀ g, g ≤ f → REX g) {w : World} {b : Nat} {tv : Value} {ts : List Tk} {p deep : Nat} {nv : Value} {vs : List Nv} (h : Rs w b tv ts p (deep : Int) 0 nv vs) (hcnt : vs.length ≤ p) (hdeep : deep ≤ 12) (res : Res) (hres : primP (f + 1) deep vs.length (ts.drop p) = some res) :
    Calls Tryz.prog 88 #[.pointer (some ⟨b, 0, none⟩)] w (ROut (5 + 6 * deep) res w b tv ts deep vs) := by
  have hfew := h.few
  have hlt := h.lt
  have hbl := h.blt
  have hcs : vs.length + (5 + 6 * deep) ≤ ts.length + 100 := by omega
  have HP := Lib.hid h
  obtain ⟨c0, c1, c2, c3, c4⟩ := h.facts
  obtain ⟨g, cap, t, rfl, ht, hd, hg, k0, k1, k2, k3, k4, k5, k6, k7, k8⟩ := h.tok
  rw [hd, primP_cons] at hres
  have HD := Lib.hid hd
  have hnxt : t.kind ≠ 0 → p + 1 < ts.length := fun hk => h.fit.next ht hk
  have hal4 : Below w.heap.size w (w.alloc (.cells zTok 54)) := (Below.refl _ _).alloc (Nat.le_refl _) _
  obtain ⟨a0, a1, -, -, -⟩ := (h.below hal4).facts
  have hgb : g < w.heap.size := by omega
  have j0 := (hal4.cell (p := ⟨g, p * 9, none⟩) hgb).trans k0
  have j1 := (hal4.cell (p := ⟨g, p * 9 + 1, none⟩) hgb).trans k1
  have j2 := (hal4.cell (p := ⟨g, p * 9 + 2, none⟩) hgb).trans k2
  have j3 := (hal4.cell (p := ⟨g, p * 9 + 3, none⟩) hgb).trans k3
  have j4 := (hal4.cell (p := ⟨g, p * 9 + 4, none⟩) hgb).trans k4
  have j5 := (hal4.cell (p := ⟨g, p * 9 + 5, none⟩) hgb).trans k5
  have j6 := (hal4.cell (p := ⟨g, p * 9 + 6, none⟩) hgb).trans k6
  have j7 := (hal4.cell (p := ⟨g, p * 9 + 7, none⟩) hgb).trans k7
  have j8 := (hal4.cell (p := ⟨g, p * 9 + 8, none⟩) hgb).trans k8
  have HTK := TkAt.zero w
  obtain ⟨x0, x1, x2, x3, x4, x5, x6, x7, x8⟩ := HTK.cells
  obtain ⟨f0, f1, f2, f3, f4, f5, f6, f7, f8⟩ := HTK.melts
  have hi1 : (0 : Int) ≤ (p : Int) := by omega
  have hi2 : (p : Int) < (ts.length : Int) := by omega
  have HRES := Lib.hid hres
  have HNX := Lib.hid hnxt
  clear HTK hal4 c2 c4 hres hnxt hd ht h
  go_enter Tryz.func88, Tryz.ntmps88
  go_upto_region 3 with (fail)
  go_region
  have hB : Below w.heap.size w (w.alloc (.cells #[.int .i64 t.kind, .string t.text, .int .i64 t.num, .string t.sh, .int .i64 t.c, .int .i64 t.r, .bool t.ac, .bool t.ar, .int .i64 t.pos] 54)).drew := ((Below.refl _ _).alloc (Nat.le_refl _) _).drew
  have HN3 := Lib.hid (show TkAt (w.alloc (.cells #[.int .i64 t.kind, .string t.text, .int .i64 t.num, .string t.sh, .int .i64 t.c, .int .i64 t.r, .bool t.ac, .bool t.ar, .int .i64 t.pos] 54)).drew w.heap.size t from (TkAt.new w t).drew)
  have HF3 := Lib.hid (Fr.of b hB)
  have HP3 := Lib.hid (HP.out.below hB)
  clear hB c0 c1 c3 a0 a1 j0 j1 j2 j3 j4 j5 j6 j7 j8 k0 k1 k2 k3 k4 k5 k6 k7 k8 x0 x1 x2 x3 x4 x5 x6 x7 x8 f0 f1 f2 f3 f4 f5 f6 f7 f8 hgb hg HP
  generalize hb3 : w.heap.size = b3 at HN3 ⊢
  generalize (w.alloc (.cells #[.int .i64 t.kind, .string t.text, .int .i64 t.num, .string t.sh, .int .i64 t.c, .int .i64 t.r, .bool t.ac, .bool t.ar, .int .i64 t.pos] 54)).drew = w3 at HN3 HF3 HP3 ⊢
  clear hb3
  have HS := Lib.hid (ris_any HP3.out ⟨#[40]⟩)
  rw [decide_eq_true rfl, Bool.true_and] at HS
  have hres := HRES.out
  clear HRES
  cases hs : signIs ⟨#[40]⟩ (ts.drop p)
  rotate_left
  · have hnx := rsign_next HP3.out hs
    have hs2 : signIs ⟨#[40]⟩ (t :: ts.drop (p + 1)) = true := by rw [← HD.out]; exact hs
    rw [if_pos hs2] at hres
    rw [hs] at HS
    clear hs hs2
    by_cases hdp : 12 ≤ deep
    · rw [if_pos hdp] at hres
      injection hres with hres
      have HR := Lib.hid hres.symm
      clear hres
      go_wp2_with (first
        | (go_at_call 50; ((with_reducible refine HS.out.mono ?_); rintro e w4 ⟨rfl, h1⟩; have HF4 := Lib.hid (HF3.out.below h1); have HO := Lib.hid (ropen_any (HP3.out.below h1) hdeep hnx); clear h1))
        | (go_at_call 89; ((with_reducible refine HO.out.mono ?_); rintro e w5 ⟨rfl, h1, h2⟩; rcases h2 with ⟨-, h2⟩ | ⟨h2, -⟩; rotate_left; exact absurd hdp h2; have HF5 := Lib.hid (HF4.out.trans h1); have HP5 := Lib.hid h2; obtain ⟨c0, c1, c2, c3, c4⟩ := h2.facts; clear c0 c1 c2 c4 h1 h2)))
      go_ret
      exact ROut.err HR.out (.inr rfl) HF5.out HP5.out hcs (by omega)
    · rw [if_neg hdp] at hres
      have hdp1 : deep + 1 ≤ 12 := by omega
      rcases bindR_some hres with ⟨c, h1, rfl⟩ | ⟨ns, a, r, h1, h2⟩
      · have HI := Lib.hid (fun w2 hps => IH f (Nat.le_refl _) 0 (deep + 1) _ w2 b (.slice (some ⟨g, 0, none⟩) ts.length cap) ts (p + 1) nv vs (by omega) hdp1 hps (by omega) h1)
        clear hres IH h1
        go_upto_region 10 with (first
          | (go_at_call 50; ((with_reducible refine HS.out.mono ?_); rintro e w4 ⟨rfl, h1⟩; have HF4 := Lib.hid (HF3.out.below h1); have HO := Lib.hid (ropen_any (HP3.out.below h1) hdeep hnx); clear h1))
          | (go_at_call 89; ((with_reducible refine HO.out.mono ?_); rintro e w5 ⟨rfl, h1, h2⟩; rcases h2 with ⟨h2, -⟩ | ⟨-, h2⟩; exact absurd h2 hdp; have HF5 := Lib.hid (HF4.out.trans h1); have HP5 := Lib.hid h2; obtain ⟨c0, c1, c2, c3, c4⟩ := h2.facts; have HL := Lib.hid (show Calls Tryz.prog 26 #[.pointer (some ⟨b, 0, none⟩), .int .i64 0] w5 (ROut (0 + 6 * (deep + 1)) (.error c) w5 b (.slice (some ⟨g, 0, none⟩) ts.length cap) ts (deep + 1) vs) from HI.out w5 h2); clear c0 c1 c2 c4 h1 h2))
          | (go_at_call 26; ((with_reducible refine HL.out.mono ?_); intro e w6 ho; obtain ⟨hf, hc, x, rfl, p6, d6, nv6, us6, hk6, hps6, hn6, hd6, hd6'⟩ := ho.bad rfl; have HF6 := Lib.hid (HF5.out.trans hf); have HC := Lib.hid hc; have HP6 := Lib.hid hps6; have HZ5 := Lib.hid HF5.out.size; have HK6 := Lib.hid hk6; have HWA := Lib.hid (rwant_any hps6 ⟨#[41]⟩); clear hf hc ho hps6 hk6))
          | (go_at_call 121; ((with_reducible refine HWA.out.mono ?_); rintro e w7 ⟨rfl, h1, h2⟩; have HF7 := Lib.hid (HF6.out.trans h1); have HP7 := Lib.hid (show Rs w7 b (.slice (some ⟨g, 0, none⟩) ts.length cap) ts p6 d6 c nv6 (vs ++ us6) from (by rcases h2 with ⟨_, h2⟩ | ⟨h2, _⟩ | ⟨h2, _⟩; exact h2; (exfalso; rcases HC.out with h | h <;> omega); (exfalso; rcases HC.out with h | h <;> omega))); clear h1 h2)))
        clear c3
        obtain ⟨c0, c1, c2, c3, c4⟩ := HP7.out.facts
        have f2 := HP7.out.frozen 2
        clear c0 c1 c3 c4
        have hd1 : -9223372036854775808 ≤ d6 - 1 := by omega
        have hd2 : d6 - 1 ≤ 9223372036854775807 := by omega
        go_wp2_with fail
        go_ret
        exact ROut.errs (us := us6) rfl HC.out (HF7.out.setCell _ _) (fun u hu j hj => Nat.le_trans HZ5.out (HK6.out u hu j hj)) (HP7.out.setD (d6 - 1)) (by omega) (by omega)
      · have HI := Lib.hid (fun w2 hps => IH f (Nat.le_refl _) 0 (deep + 1) _ w2 b (.slice (some ⟨g, 0, none⟩) ts.length cap) ts (p + 1) nv vs (by omega) hdp1 hps (by omega) h1)
        have H2 := Lib.hid h2
        clear hres IH h1 h2
        go_upto_region 10 with (first
          | (go_at_call 50; ((with_reducible refine HS.out.mono ?_); rintro e w4 ⟨rfl, h1⟩; have HF4 := Lib.hid (HF3.out.below h1); have HO := Lib.hid (ropen_any (HP3.out.below h1) hdeep hnx); clear h1))
          | (go_at_call 89; ((with_reducible refine HO.out.mono ?_); rintro e w5 ⟨rfl, h1, h2⟩; rcases h2 with ⟨h2, -⟩ | ⟨-, h2⟩; exact absurd h2 hdp; have HF5 := Lib.hid (HF4.out.trans h1); have HP5 := Lib.hid h2; obtain ⟨c0, c1, c2, c3, c4⟩ := h2.facts; have HL := Lib.hid (show Calls Tryz.prog 26 #[.pointer (some ⟨b, 0, none⟩), .int .i64 0] w5 (ROut (0 + 6 * (deep + 1)) (.ok (ns, a, r)) w5 b (.slice (some ⟨g, 0, none⟩) ts.length cap) ts (deep + 1) vs) from HI.out w5 h2); clear c0 c1 c2 c4 h1 h2))
          | (go_at_call 26; ((with_reducible refine HL.out.mono ?_); intro e w6 ho; obtain ⟨hf, rfl, p6, nv6, us6, hp6, hu6, hk6, hps6, hn6⟩ := ho.good rfl; have HF6 := Lib.hid (HF5.out.trans hf); have HP6 := Lib.hid hps6; have HZ5 := Lib.hid HF5.out.size; have HD6 := Lib.hid hp6; have HU6 := Lib.hid hu6; have HK6 := Lib.hid hk6; have HWA := Lib.hid (rwant_any hps6 ⟨#[41]⟩); clear hf ho hps6 hk6 hp6 hu6))
          | (go_at_call 121; ((with_reducible refine HWA.out.mono ?_); rintro e w7 ⟨rfl, h1, h2⟩; have HF7 := Lib.hid (HF6.out.trans h1); have HW7 := Lib.hid h2; clear h1 h2)))
        clear c3
        have h2 := H2.out
        rw [← HD6.out] at h2
        have hp6l := HP6.out.lt
        rw [show ((deep + 1 : Nat) : Int) = (deep : Int) + 1 from rfl] at HW7
        cases hs : signIs ⟨#[41]⟩ (ts.drop p6)
        · rw [hs, if_neg (by decide)] at h2
          injection h2 with h2
          have HR := Lib.hid h2.symm
          have HP7 := Lib.hid (show Rs w7 b (.slice (some ⟨g, 0, none⟩) ts.length cap) ts p6 ((deep : Int) + 1) 5 nv6 (vs ++ us6) from (by rcases HW7.out with ⟨h2, _⟩ | ⟨_, h2, _⟩ | ⟨_, _, h2⟩; exact absurd rfl h2; (rw [hs] at h2; cases h2); exact h2))
          clear h2 hs
          obtain ⟨c0, c1, c2, c3, c4⟩ := HP7.out.facts
          have f2 := HP7.out.frozen 2
          clear c0 c1 c3 c4
          go_wp2_with fail
          go_ret
          exact ROut.errs (us := us6) HR.out (.inl rfl) (HF7.out.setCell _ _) (fun u hu j hj => Nat.le_trans HZ5.out (HK6.out u hu j hj)) (HP7.out.setD (deep : Int)) (by omega) (by omega)
        · rw [hs, if_pos rfl, List.tail_drop] at h2
          injection h2 with h2
          have HR := Lib.hid h2.symm
          have HP7 := Lib.hid (show Rs w7 b (.slice (some ⟨g, 0, none⟩) ts.length cap) ts (p6 + 1) ((deep : Int) + 1) 0 nv6 (vs ++ us6) from (by rcases HW7.out with ⟨h2, _⟩ | ⟨_, _, h2⟩ | ⟨_, h2, _⟩; exact absurd rfl h2; exact h2; (rw [hs] at h2; cases h2)))
          clear h2 hs
          obtain ⟨c0, c1, c2, c3, c4⟩ := HP7.out.facts
          have f2 := HP7.out.frozen 2
          clear c0 c1 c3 c4
          go_wp2_with fail
          go_ret
          exact ⟨HF7.out.setCell _ _, .inr ⟨_, _, _, HR.out, rfl, p6 + 1, nv6, us6, rfl, HU6.out, fun u hu j hj => Nat.le_trans HZ5.out (HK6.out u hu j hj), HP7.out.setD (deep : Int), by omega⟩⟩
  have hs2 : ¬ signIs ⟨#[40]⟩ (t :: ts.drop (p + 1)) = true := by rw [← HD.out, hs]; decide
  rw [if_neg hs2] at hres
  rw [hs] at HS
  clear hs hs2
  go_upto_region 12 with (go_at_call 50; ((with_reducible refine HS.out.mono ?_); rintro e w4 ⟨rfl, h1⟩; have HF4 := Lib.hid (HF3.out.below h1); have HP4 := Lib.hid (HP3.out.below h1); have HN4 := Lib.hid (HN3.out.below h1 HN3.out.lt); clear h1))
  clear HS HF3 HP3 HN3
  obtain ⟨x0, x1, x2, x3, x4, x5, x6, x7, x8⟩ := HN4.out.cells
  have HNB := Lib.hid (show b3 ≠ b from by
    intro e
    have h1 := HN4.out
    unfold TkAt at h1
    rw [e, HP4.out.cell] at h1
    injection h1 with h1; injection h1 with _ h1
    exact absurd h1 (by decide))
  obtain ⟨kd, hkd⟩ : ∃ kd, t.kind = kd := ⟨_, rfl⟩
  rw [hkd] at x0
  by_cases k1 : t.kind = 1
  · have hnx := HNX.out (by omega)
    rw [if_pos k1] at hres
    injection hres with hres
    have HR := Lib.hid hres.symm
    have e1 : (kd == 1) = true := beq_iff_eq.2 (by omega)
    obtain ⟨c0, c1, c2, c3, c4⟩ := HP4.out.facts
    have f1 := HP4.out.frozen 1
    clear hres k1 hkd IH c0 c2 c3 c4
    go_upto_region 14 with (fail)
    have HP5 := Lib.hid (HP4.out.next hnx)
    have HN5 := Lib.hid (show TkAt (w4.setCell ⟨b, 1, none⟩ (.int .i64 ((p : Int) + 1))) b3 t from by unfold TkAt; rw [Below.heap_setCell _ _ _ _ (by exact HNB.out)]; exact HN4.out)
    have HF5 := Lib.hid (HF4.out.setCell 1 (.int .i64 ((p : Int) + 1)))
    clear c1 f1 x0 x1 x2 x3 x4 x5 x6 x7 x8
    generalize w4.setCell ⟨b, 1, none⟩ (.int .i64 ((p : Int) + 1)) = w5 at HP5 HN5 HF5 ⊢
    obtain ⟨x0, x1, x2, x3, x4, x5, x6, x7, x8⟩ := HN5.out.cells
    have HA := Lib.hid (show Calls Tryz.prog 51 #[.pointer (some ⟨b, 0, none⟩), .agg #[.int .i64 1, .int .i64 t.num, .string ⟨#[]⟩, .string ⟨#[]⟩, .int .i64 0, .int .i64 0, .bool false, .bool false, .string ⟨#[]⟩, .int .i64 0, .int .i64 0, .bool false, .bool false, .slice none 0 0]] w5 _ from rput_any HP5.out (Nv.leaf { Nd.zero with kind := 1, num := t.num }) (leaf_own _ _ _ rfl) (by omega) (.slice none 0 0) rfl { Nd.zero with kind := 1, num := t.num } rfl)
    go_wp2_with (go_at_call 51; ((with_reducible refine HA.out.mono ?_); rintro e w7 ⟨h1, rfl, nv', h3⟩; have HF7 := Lib.hid (HF5.out.trans h1); have HP7 := Lib.hid h3; clear h1 h3))
    go_ret
    exact ROut.leaf HR.out HF7.out rfl HP7.out (by omega)
  have e1 : (kd == 1) = false := beq_eq_false_iff_ne.2 (by omega)
  by_cases k2 : t.kind = 2
  · have hnx := HNX.out (by omega)
    rw [if_neg k1, if_pos k2] at hres
    injection hres with hres
    have HR := Lib.hid hres.symm
    have e2 : (kd == 2) = true := beq_iff_eq.2 (by omega)
    obtain ⟨c0, c1, c2, c3, c4⟩ := HP4.out.facts
    have f1 := HP4.out.frozen 1
    clear hres k1 k2 hkd IH c0 c2 c3 c4
    go_upto_region 17 with (fail)
    have HP5 := Lib.hid (HP4.out.next hnx)
    have HN5 := Lib.hid (show TkAt (w4.setCell ⟨b, 1, none⟩ (.int .i64 ((p : Int) + 1))) b3 t from by unfold TkAt; rw [Below.heap_setCell _ _ _ _ (by exact HNB.out)]; exact HN4.out)
    have HF5 := Lib.hid (HF4.out.setCell 1 (.int .i64 ((p : Int) + 1)))
    clear c1 f1 x0 x1 x2 x3 x4 x5 x6 x7 x8
    generalize w4.setCell ⟨b, 1, none⟩ (.int .i64 ((p : Int) + 1)) = w5 at HP5 HN5 HF5 ⊢
    obtain ⟨x0, x1, x2, x3, x4, x5, x6, x7, x8⟩ := HN5.out.cells
    have HA := Lib.hid (show Calls Tryz.prog 51 #[.pointer (some ⟨b, 0, none⟩), .agg #[.int .i64 2, .int .i64 0, .string t.text, .string ⟨#[]⟩, .int .i64 0, .int .i64 0, .bool false, .bool false, .string ⟨#[]⟩, .int .i64 0, .int .i64 0, .bool false, .bool false, .slice none 0 0]] w5 _ from rput_any HP5.out (Nv.leaf { Nd.zero with kind := 2, text := t.text }) (leaf_own _ _ _ rfl) (by omega) (.slice none 0 0) rfl { Nd.zero with kind := 2, text := t.text } rfl)
    go_wp2_with (go_at_call 51; ((with_reducible refine HA.out.mono ?_); rintro e w7 ⟨h1, rfl, nv', h3⟩; have HF7 := Lib.hid (HF5.out.trans h1); have HP7 := Lib.hid h3; clear h1 h3))
    go_ret
    exact ROut.leaf HR.out HF7.out rfl HP7.out (by omega)
  have e2 : (kd == 2) = false := beq_eq_false_iff_ne.2 (by omega)
  by_cases k6 : t.kind = 6
  · have hnx := HNX.out (by omega)
    rw [if_neg k1, if_neg k2, if_pos k6] at hres
    injection hres with hres
    have HR := Lib.hid hres.symm
    have e6 : (kd == 6) = true := beq_iff_eq.2 (by omega)
    obtain ⟨c0, c1, c2, c3, c4⟩ := HP4.out.facts
    have f1 := HP4.out.frozen 1
    clear hres k1 k2 k6 hkd IH c0 c2 c3 c4
    go_upto_region 20 with (fail)
    have HP5 := Lib.hid (HP4.out.next hnx)
    have HN5 := Lib.hid (show TkAt (w4.setCell ⟨b, 1, none⟩ (.int .i64 ((p : Int) + 1))) b3 t from by unfold TkAt; rw [Below.heap_setCell _ _ _ _ (by exact HNB.out)]; exact HN4.out)
    have HF5 := Lib.hid (HF4.out.setCell 1 (.int .i64 ((p : Int) + 1)))
    clear c1 f1 x0 x1 x2 x3 x4 x5 x6 x7 x8
    generalize w4.setCell ⟨b, 1, none⟩ (.int .i64 ((p : Int) + 1)) = w5 at HP5 HN5 HF5 ⊢
    obtain ⟨x0, x1, x2, x3, x4, x5, x6, x7, x8⟩ := HN5.out.cells
    have HA := Lib.hid (show Calls Tryz.prog 51 #[.pointer (some ⟨b, 0, none⟩), .agg #[.int .i64 4, .int .i64 0, .string ⟨#[]⟩, .string ⟨#[]⟩, .int .i64 0, .int .i64 0, .bool false, .bool false, .string ⟨#[]⟩, .int .i64 0, .int .i64 0, .bool false, .bool false, .slice none 0 0]] w5 _ from rput_any HP5.out (Nv.leaf { Nd.zero with kind := 4 }) (leaf_own _ _ _ rfl) (by omega) (.slice none 0 0) rfl { Nd.zero with kind := 4 } rfl)
    go_wp2_with (go_at_call 51; ((with_reducible refine HA.out.mono ?_); rintro e w7 ⟨h1, rfl, nv', h3⟩; have HF7 := Lib.hid (HF5.out.trans h1); have HP7 := Lib.hid h3; clear h1 h3))
    go_ret
    exact ROut.leaf HR.out HF7.out rfl HP7.out (by omega)
  have e6 : (kd == 6) = false := beq_eq_false_iff_ne.2 (by omega)
  by_cases k4 : t.kind = 4
  · have hnx := HNX.out (by omega)
    rw [if_neg k1, if_neg k2, if_neg k6, if_pos k4] at hres
    injection hres with hres
    have HA := Lib.hid (rref_any HP4.out hcnt hdeep t hnx)
    rw [hres] at HA
    have e4 : (kd == 4) = true := beq_iff_eq.2 (by omega)
    clear hres k1 k2 k6 k4 hkd
    go_wp2_with (go_at_call 122; ((with_reducible refine HA.out.mono ?_); intro e w7 ho; have HOO := Lib.hid (ROut.from HF4.out ho); obtain ⟨c, rfl⟩ := ho.ret; clear ho))
    go_ret
    exact HOO.out
  have e4 : (kd == 4) = false := beq_eq_false_iff_ne.2 (by omega)
  by_cases k3 : t.kind = 3
  · have hnx := HNX.out (by omega)
    rw [if_neg k1, if_neg k2, if_neg k6, if_neg k4, if_pos k3] at hres
    have HA := Lib.hid (rname_any f IH t.text HP4.out hcnt hdeep hnx res hres)
    have e3 : (kd == 3) = true := beq_iff_eq.2 (by omega)
    clear hres k1 k2 k6 k4 k3 hkd IH
    go_wp2_with (go_at_call 123; ((with_reducible refine HA.out.mono ?_); intro e w7 ho; have HOO := Lib.hid (ROut.from HF4.out ho); obtain ⟨c, rfl⟩ := ho.ret; clear ho))
    go_ret
    exact HOO.out
  have e3 : (kd == 3) = false := beq_eq_false_iff_ne.2 (by omega)
  rw [if_neg k1, if_neg k2, if_neg k6, if_neg k4, if_neg k3] at hres
  injection hres with hres
  have HR := Lib.hid hres.symm
  have HFA := Lib.hid (rfail_any HP4.out 5)
  clear hres k1 k2 k6 k4 k3 hkd IH
  go_wp2_with (go_at_call 27; ((with_reducible refine HFA.out.mono ?_); rintro e w7 ⟨rfl, h1, h2⟩; have HF7 := Lib.hid (HF4.out.trans h1); have HP7 := Lib.hid h2; clear h1 h2))
  go_ret
  exact ROut.err HR.out (.inl rfl) HF7.out (Rs.of_fail HP7.out) hcs (by omega)
end Go.Proofs.YtdfpalocnijefaaGreatDoor

/-
  Layer 5, the reference: signs ahead; rows of operators; every rank.
-/
namespace Go.Proofs.YtdfpalocnijefaaGreatDoor
open Go.RowKit

theorem ROut.less {sl sl' : Nat} {res : Res} {w w' : World} {b : Nat} {tv : Value} {ts : List Tk} {deep : Nat} {vs : List Nv} {e : Ending} (h : ROut sl res w b tv ts deep vs e w') (hs : sl' ≤ sl) : ROut sl' res w b tv ts deep vs e w' := by
  refine ⟨h.1, h.2.imp ?_ id⟩
  rintro ⟨c, g1, g2, g3, p', d, nv', us, g4, g5, g6, g7, g8⟩
  exact ⟨c, g1, g2, g3, p', d, nv', us, g4, g5, by omega, by omega, g8⟩
/-- What is proved of signs ahead. -/
def RUX (f : Nat) : Prop := ∀ (deep : Nat) (res : Res) (w : World) (b : Nat) (tv : Value) (ts : List Tk) (p : Nat) (nv : Value) (vs : List Nv), deep ≤ 12 → Rs w b tv ts p (deep : Int) 0 nv vs → vs.length ≤ p → exprP f 4 deep vs.length (ts.drop p) = some res →
  Calls Tryz.prog 48 #[.pointer (some ⟨b, 0, none⟩)] w (ROut (4 + 6 * deep) res w b tv ts deep vs)
set_option maxRecDepth 100000 in
set_option maxHeartbeats 8000000 in
theorem runary_any (f : Nat) (IH : ∀ g, g ≤ f → REX g) (IHU : ∀ g, g ≤ f → RUX g) {w : World} {b : Nat} {tv : Value} {ts : List Tk} {p deep : Nat} {nv : Value} {vs : List Nv} (h : Rs w b tv ts p (deep : Int) 0 nv vs) (hcnt : vs.length ≤ p) (hdeep : deep ≤ 12) (res : Res) (hres : exprP (f + 1) 4 deep vs.length (ts.drop p) = some res) :
    Calls Tryz.prog 48 #[.pointer (some ⟨b, 0, none⟩)] w (ROut (4 + 6 * deep) res w b tv ts deep vs) := by
  have HS := Lib.hid (ris_any h ⟨#[45]⟩)
  rw [decide_eq_true rfl, Bool.true_and] at HS
  rw [exprP_succ, if_neg (by omega)] at hres
  have hfew := h.few
  have hlt := h.lt
  have hbl := h.blt
  have hcs : vs.length + (4 + 6 * deep) ≤ ts.length + 100 := by omega
  have HP := Lib.hid h
  cases hq : signIs ⟨#[45]⟩ (ts.drop p)
  · rw [hq, if_neg (by decide)] at hres
    rw [hq] at HS
    match f, IH, hres with
    | 0, _, hres => unfold primP at hres; cases hres
    | f + 1, IH, hres =>
    have HL := Lib.hid (fun w1 (hb : Below w.heap.size w w1) => (rprim_any f (fun g hg => IH g (by omega)) (HP.out.below hb) hcnt hdeep res hres).mono fun e w3 ho => (ROut.from (Fr.of b hb) ho).less (show 4 + 6 * deep ≤ 5 + 6 * deep by omega))
    clear hq hres h IH IHU
    go_enter Tryz.func48, Tryz.ntmps48
    go_wp2_with (first
      | (go_at_call 50; ((with_reducible refine HS.out.mono ?_); rintro e w1 ⟨rfl, h1⟩; have HL1 := Lib.hid (HL.out w1 h1); clear h1))
      | (go_at_call 88; ((with_reducible refine HL1.out.mono ?_); intro e w7 ho; have HOO := Lib.hid ho; obtain ⟨c, rfl⟩ := ho.ret; clear ho)))
    go_ret
    exact HOO.out
  · have hnx := rsign_next h hq
    rw [hq, if_pos rfl] at hres
    rw [hq] at HS
    by_cases hd : 12 ≤ deep
    · rw [if_pos hd] at hres
      injection hres with hres
      have HR := Lib.hid hres.symm
      clear hq hres h IH IHU
      go_enter Tryz.func48, Tryz.ntmps48
      go_wp2_with (first
        | (go_at_call 50; ((with_reducible refine HS.out.mono ?_); rintro e w4 ⟨rfl, h1⟩; have HF4 := Lib.hid (Fr.of b h1); have HO := Lib.hid (ropen_any (HP.out.below h1) hdeep hnx); clear h1))
        | (go_at_call 89; ((with_reducible refine HO.out.mono ?_); rintro e w5 ⟨rfl, h1, h2⟩; rcases h2 with ⟨-, h2⟩ | ⟨h2, -⟩; rotate_left; exact absurd hd h2; have HF5 := Lib.hid (HF4.out.trans h1); have HP5 := Lib.hid h2; obtain ⟨c0, c1, c2, c3, c4⟩ := h2.facts; clear c0 c1 c2 c4 h1 h2)))
      go_ret
      exact ROut.err HR.out (.inr rfl) HF5.out HP5.out hcs (by omega)
    · rw [if_neg hd, List.tail_drop] at hres
      have hdp1 : deep + 1 ≤ 12 := by omega
      rcases bindR_some hres with ⟨c, h1, rfl⟩ | ⟨ns, a, r, h1, h2⟩
      · have HI := Lib.hid (fun w2 hps => IHU f (Nat.le_refl _) (deep + 1) _ w2 b tv ts (p + 1) nv vs hdp1 hps (by omega) h1)
        clear hq hres h IH IHU h1
        go_enter Tryz.func48, Tryz.ntmps48
        go_upto_region 7 with (first
          | (go_at_call 50; ((with_reducible refine HS.out.mono ?_); rintro e w4 ⟨rfl, h1⟩; have HF4 := Lib.hid (Fr.of b h1); have HO := Lib.hid (ropen_any (HP.out.below h1) hdeep hnx); clear h1))
          | (go_at_call 89; ((with_reducible refine HO.out.mono ?_); rintro e w5 ⟨rfl, h1, h2⟩; rcases h2 with ⟨h2, -⟩ | ⟨-, h2⟩; exact absurd h2 hd; have HF5 := Lib.hid (HF4.out.trans h1); have HP5 := Lib.hid h2; obtain ⟨c0, c1, c2, c3, c4⟩ := h2.facts; have HL := Lib.hid (HI.out w5 h2); clear c0 c1 c2 c4 h1 h2))
          | (go_at_call 48; ((with_reducible refine HL.out.mono ?_); intro e w6 ho; obtain ⟨hf, hc, x, rfl, p6, d6, nv6, us6, hk6, hps6, hn6, hd6, hd6'⟩ := ho.bad rfl; have HF6 := Lib.hid (HF5.out.trans hf); have HC := Lib.hid hc; have HP6 := Lib.hid hps6; have HZ5 := Lib.hid HF5.out.size; have HK6 := Lib.hid hk6; clear hf hc ho hps6 hk6)))
        clear c3
        obtain ⟨c0, c1, c2, c3, c4⟩ := HP6.out.facts
        have f2 := HP6.out.frozen 2
        clear c0 c1 c3 c4
        have hd1 : -9223372036854775808 ≤ d6 - 1 := by omega
        have hd2 : d6 - 1 ≤ 9223372036854775807 := by omega
        go_upto_region 8 with (fail)
        have HP7 := Lib.hid (HP6.out.setD (d6 - 1))
        have HF7 := Lib.hid (HF6.out.setCell 2 (.int .i64 (d6 - 1)))
        clear c2 f2
        generalize w6.setCell ⟨b, 2, none⟩ (.int .i64 (d6 - 1)) = w7 at HP7 HF7 ⊢
        have hbl7 := HP7.out.blt
        have hB8 : Below w7.heap.size w7 (w7.alloc (.cells #[.int .i64 x] 3)) := (Below.refl _ _).alloc (Nat.le_refl _) _
        have HP8 := Lib.hid (HP7.out.below hB8)
        have HF8 := Lib.hid (HF7.out.below hB8)
        have HZ7 := Lib.hid HF7.out.size
        have HA := Lib.hid (show Calls Tryz.prog 51 #[.pointer (some ⟨b, 0, none⟩), .agg #[.int .i64 8, .int .i64 0, .string ⟨#[]⟩, .string ⟨#[]⟩, .int .i64 0, .int .i64 0, .bool false, .bool false, .string ⟨#[]⟩, .int .i64 0, .int .i64 0, .bool false, .bool false, .slice (some ⟨w7.heap.size, 0, none⟩) 1 1]] (w7.alloc (.cells #[.int .i64 x] 3)) _ from rput_any HP8.out ⟨{ Nd.zero with kind := 8, kids := [x] }, some (w7.heap.size, 1)⟩ (own_lit1 w7 (b + 1) x (by omega)) (by omega) (.slice (some ⟨w7.heap.size, 0, none⟩) 1 1) rfl { Nd.zero with kind := 8, kids := [x] } rfl)
        clear hB8
        go_wp2_with (go_at_call 51; ((with_reducible refine HA.out.mono ?_); rintro e w9 ⟨h1, rfl, nv9, h3⟩; have HF9 := Lib.hid (HF8.out.trans h1); have HP9 := Lib.hid h3; clear h1 h3))
        go_ret
        refine ROut.errs (us := us6 ++ [⟨{ Nd.zero with kind := 8, kids := [x] }, some (w7.heap.size, 1)⟩]) rfl HC.out HF9.out ?_ (by rw [← List.append_assoc]; exact HP9.out) (by simp only [List.length_append, List.length_singleton] at hn6 ⊢; omega) (by omega)
        intro u hu j hj
        rcases List.mem_append.1 hu with hu | hu
        · exact Nat.le_trans HZ5.out (HK6.out u hu j hj)
        · rw [List.mem_singleton.1 hu] at hj
          have hj : some w7.heap.size = some j := hj
          injection hj with hj
          have := HZ7.out; omega
      · have HI := Lib.hid (fun w2 hps => IHU f (Nat.le_refl _) (deep + 1) _ w2 b tv ts (p + 1) nv vs hdp1 hps (by omega) h1)
        have H1 := Lib.hid h1
        injection h2 with h2
        have HR := Lib.hid h2.symm
        clear hq hres h IH IHU h1 h2
        go_enter Tryz.func48, Tryz.ntmps48
        go_upto_region 7 with (first
          | (go_at_call 50; ((with_reducible refine HS.out.mono ?_); rintro e w4 ⟨rfl, h1⟩; have HF4 := Lib.hid (Fr.of b h1); have HO := Lib.hid (ropen_any (HP.out.below h1) hdeep hnx); clear h1))
          | (go_at_call 89; ((with_reducible refine HO.out.mono ?_); rintro e w5 ⟨rfl, h1, h2⟩; rcases h2 with ⟨h2, -⟩ | ⟨-, h2⟩; exact absurd h2 hd; have HF5 := Lib.hid (HF4.out.trans h1); have HP5 := Lib.hid h2; obtain ⟨c0, c1, c2, c3, c4⟩ := h2.facts; have HL := Lib.hid (HI.out w5 h2); clear c0 c1 c2 c4 h1 h2))
          | (go_at_call 48; ((with_reducible refine HL.out.mono ?_); intro e w6 ho; obtain ⟨hf, rfl, p6, nv6, us6, hp6, hu6, hk6, hps6, hn6⟩ := ho.good rfl; have HF6 := Lib.hid (HF5.out.trans hf); have HP6 := Lib.hid hps6; have HZ5 := Lib.hid HF5.out.size; have HD6 := Lib.hid hp6; have HU6 := Lib.hid hu6; have HK6 := Lib.hid hk6; clear hf ho hps6 hk6 hp6 hu6)))
        clear c3
        rw [show ((deep + 1 : Nat) : Int) = (deep : Int) + 1 from rfl] at HP6
        obtain ⟨c0, c1, c2, c3, c4⟩ := HP6.out.facts
        have f2 := HP6.out.frozen 2
        have hp6l := HP6.out.lt
        have hus6 : us6.length = ns.length := by rw [← HU6.out, List.length_map]
        clear c0 c1 c3 c4
        go_upto_region 8 with (fail)
        have HP7 := Lib.hid (HP6.out.setD (deep : Int))
        have HF7 := Lib.hid (HF6.out.setCell 2 (.int .i64 (deep : Int)))
        clear c2 f2
        generalize w6.setCell ⟨b, 2, none⟩ (.int .i64 (deep : Int)) = w7 at HP7 HF7 ⊢
        have hbl7 := HP7.out.blt
        have hB8 : Below w7.heap.size w7 (w7.alloc (.cells #[.int .i64 ((a : Nat) : Int)] 3)) := (Below.refl _ _).alloc (Nat.le_refl _) _
        have HP8 := Lib.hid (HP7.out.below hB8)
        have HF8 := Lib.hid (HF7.out.below hB8)
        have HZ7 := Lib.hid HF7.out.size
        have HA := Lib.hid (show Calls Tryz.prog 51 #[.pointer (some ⟨b, 0, none⟩), .agg #[.int .i64 8, .int .i64 0, .string ⟨#[]⟩, .string ⟨#[]⟩, .int .i64 0, .int .i64 0, .bool false, .bool false, .string ⟨#[]⟩, .int .i64 0, .int .i64 0, .bool false, .bool false, .slice (some ⟨w7.heap.size, 0, none⟩) 1 1]] (w7.alloc (.cells #[.int .i64 ((a : Nat) : Int)] 3)) _ from rput_any HP8.out ⟨{ Nd.zero with kind := 8, kids := [((a : Nat) : Int)] }, some (w7.heap.size, 1)⟩ (own_lit1 w7 (b + 1) ((a : Nat) : Int) (by omega)) (by omega) (.slice (some ⟨w7.heap.size, 0, none⟩) 1 1) rfl { Nd.zero with kind := 8, kids := [((a : Nat) : Int)] } rfl)
        clear hB8
        go_wp2_with (go_at_call 51; ((with_reducible refine HA.out.mono ?_); rintro e w9 ⟨h1, rfl, nv9, h3⟩; have HF9 := Lib.hid (HF8.out.trans h1); have HP9 := Lib.hid h3; clear h1 h3))
        go_ret
        obtain ⟨hc1, hc2, hc3⟩ := count_at H1.out HD6.out hp6l
        refine ⟨HF9.out, .inr ⟨_, _, _, HR.out, ret_int (by first | omega | (simp only [List.length_append]; omega)), p6, nv9, us6 ++ [⟨{ Nd.zero with kind := 8, kids := [((a : Nat) : Int)] }, some (w7.heap.size, 1)⟩], HD6.out, by rw [List.map_append, HU6.out]; rfl, ?_, by rw [← List.append_assoc]; exact HP9.out, by simp only [List.length_append, List.length_singleton] at hn6 ⊢; omega⟩⟩
        intro u hu j hj
        rcases List.mem_append.1 hu with hu | hu
        · exact Nat.le_trans HZ5.out (HK6.out u hu j hj)
        · rw [List.mem_singleton.1 hu] at hj
          have hj : some w7.heap.size = some j := hj
          injection hj with hj
          have := HZ7.out; omega
end Go.Proofs.YtdfpalocnijefaaGreatDoor

/-
  Layer 5, the reference: rows of operators; every rank.
-/
namespace Go.Proofs.YtdfpalocnijefaaGreatDoor
open Go.RowKit

theorem lev_kinds : ∀ n : Nat, n ≤ 3 → ∀ q ∈ levelL n, 9 ≤ q.2 ∧ q.2 ≤ 19
  | 0, _ => by decide
  | 1, _ => by decide
  | 2, _ => by decide
  | 3, _ => by decide
  | n + 4, h => by omega
theorem lev_len : ∀ n : Nat, n ≤ 3 → 1 ≤ (levelL n).length ∧ (levelL n).length ≤ 6
  | 0, _ => by decide
  | 1, _ => by decide
  | 2, _ => by decide
  | 3, _ => by decide
  | n + 4, h => by omega
def NoSign (n : Nat) (ts : List Tk) (j : Nat) : Prop := ∀ (q : Nat) (y : ByteArray × Int), q < j → (levelL n)[q]? = some y → signIs y.1 ts = false
theorem NoSign.none {n : Nat} {ts : List Tk} {j : Nat} (h : NoSign n ts j) (hj : (levelL n).length ≤ j) : opK n ts = 0 := by
  unfold opK
  rw [find_no (fun p => signIs p.1 ts) (levelL n) (fun q y hy => h q y (by have := (List.getElem?_eq_some_iff.1 hy).1; omega) hy)]
theorem NoSign.at {n : Nat} {ts : List Tk} {j : Nat} {y : ByteArray × Int} (h : NoSign n ts j) (hy : (levelL n)[j]? = some y) (hs : signIs y.1 ts = true) : opK n ts = y.2 := by
  unfold opK
  rw [find_at (fun p => signIs p.1 ts) (levelL n) j y hy hs (fun q z hq hz => h q z hq hz)]
theorem NoSign.succ {n : Nat} {ts : List Tk} {j : Nat} {y : ByteArray × Int} (h : NoSign n ts j) (hy : (levelL n)[j]? = some y) (hs : signIs y.1 ts = false) : NoSign n ts (j + 1) := by
  intro q z hq hz
  by_cases e : q < j
  · exact h q z e hz
  · rw [show q = j by omega, hy] at hz; injection hz with hz; subst hz; exact hs
/-- Between two rounds of a row. -/
def RRowOk (f n : Nat) (res : Res) (w : World) (b : Nat) (tv : Value) (ts : List Tk) (deep : Nat) (vs : List Nv) (gs gk : Nat) (av : Value) (wr : World) : Prop :=
  ∃ (g : Nat) (ns' : List Nd) (a' p' : Nat) (nv' : Value) (us : List Nv), av = .int .i64 ((a' : Nat) : Int) ∧ g ≤ f ∧ a' + 1 = vs.length + ns'.length ∧ us.length = ns'.length ∧ vs.length + us.length ≤ p' ∧
    rowP g n deep vs.length ns' a' (ts.drop p') = some res ∧ us.map Nv.n = ns' ∧ (∀ u ∈ us, ∀ j, u.kv.ownBlock = some j → w.heap.size ≤ j) ∧ Rs wr b tv ts p' (deep : Int) 0 nv' (vs ++ us) ∧ Fr w wr b ∧ LvV wr gs gk (levelL n)
def RRowBad (n : Nat) (res : Res) (w : World) (b : Nat) (tv : Value) (ts : List Tk) (deep : Nat) (vs : List Nv) (av : Value) (wr : World) : Prop :=
  ∃ (c x d : Int) (p' : Nat) (nv' : Value) (us : List Nv), av = .int .i64 x ∧ res = .error c ∧ (c = 5 ∨ c = 6) ∧ (∀ u ∈ us, ∀ j, u.kv.ownBlock = some j → w.heap.size ≤ j) ∧ Rs wr b tv ts p' d c nv' (vs ++ us) ∧ Fr w wr b ∧ (vs ++ us).length + (n + 6 * deep) ≤ ts.length + 100 ∧ ((n + 6 * deep : Nat) : Int) ≤ d + 100 ∧ d ≤ 100
set_option maxRecDepth 100000 in
set_option maxHeartbeats 16000000 in
theorem rrow_any (f : Nat) (IH : ∀ g, g ≤ f → REX g) (n : Nat) (hn : n ≤ 3) {w : World} {b : Nat} {tv : Value} {ts : List Tk} {p deep : Nat} {nv : Value} {vs : List Nv} (h : Rs w b tv ts p (deep : Int) 0 nv vs) (hcnt : vs.length ≤ p) (hdeep : deep ≤ 12) (res : Res)
    (hres : bindR (exprP f (n + 1) deep vs.length (ts.drop p)) (fun ns a r => rowP f n deep vs.length ns a r) = some res) :
    Calls Tryz.prog 26 #[.pointer (some ⟨b, 0, none⟩), .int .i64 (n : Int)] w (ROut (n + 6 * deep) res w b tv ts deep vs) := by
  have hw1 : -9223372036854775808 ≤ (n : Int) + 1 := by omega
  have hw2 : (n : Int) + 1 ≤ 9223372036854775807 := by omega
  have hn3 : ¬ (3 : Int) < (n : Int) := by omega
  have hn4 : n + 1 ≤ 4 := by omega
  have hfew := h.few
  have hbl := h.blt
  have HLV := Lib.hid (fun w => rlevel_any n hn w)
  obtain ⟨hl1, hl6⟩ := lev_len n hn
  obtain ⟨LL, hLL⟩ : ∃ LL, (levelL n).length = LL := ⟨_, rfl⟩
  have HLL := Lib.hid hLL
  rw [hLL] at hl1 hl6
  clear hLL
  rcases bindR_some hres with ⟨c, h1, rfl⟩ | ⟨ns, a, r, h1, h2⟩
  · have HL := Lib.hid (show Calls Tryz.prog 26 #[.pointer (some ⟨b, 0, none⟩), .int .i64 ((n : Int) + 1)] w (ROut (n + 1 + 6 * deep) (.error c) w b tv ts deep vs) from IH f (Nat.le_refl _) (n + 1) deep _ w b tv ts p nv vs hn4 hdeep h hcnt h1)
    clear hres h1 IH h
    go_enter Tryz.func26, Tryz.ntmps26
    go_upto_region 5 with (first
      | (go_at_call 26; ((with_reducible refine HL.out.mono ?_); intro e w2 ho; obtain ⟨hf, hc, x, rfl, p2, d2, nv2, us2, hk2, hps2, hn2, hd2, hd2'⟩ := ho.bad rfl; have HF2 := Lib.hid hf; have HC := Lib.hid hc; have HP2 := Lib.hid hps2; have HK2 := Lib.hid hk2; clear hf hc ho hps2 hk2))
      | (go_at_call 49; ((with_reducible refine (HLV.out _).mono ?_); rintro e w3 ⟨h1, gs, gk, rfl, h2, h3, h4⟩; rw [HLL.out]; have HF3 := Lib.hid (HF2.out.below h1); have HP3 := Lib.hid (HP2.out.below h1); clear h1 h2 h3 h4)))
    obtain ⟨c0, c1, c2, c3, c4⟩ := HP3.out.facts
    clear c0 c1 c2 c4
    have hc0 : (c == 0) = false := by rw [beq_eq_false_iff_ne]; rcases HC.out with h | h <;> omega
    go_loopw [5] (fun av wr => av = .int .i64 x ∧ w3 = wr) (fun _ _ => 0)
    case atStart => exact ⟨rfl, rfl⟩
    case round =>
      obtain ⟨rfl, rfl⟩ := hrel
      go_wp2_with fail
      go_ret
      exact ROut.errs rfl HC.out HF3.out HK2.out HP3.out (by omega) (by omega)
  · have HL := Lib.hid (show Calls Tryz.prog 26 #[.pointer (some ⟨b, 0, none⟩), .int .i64 ((n : Int) + 1)] w (ROut (n + 1 + 6 * deep) (.ok (ns, a, r)) w b tv ts deep vs) from IH f (Nat.le_refl _) (n + 1) deep _ w b tv ts p nv vs hn4 hdeep h hcnt h1)
    have HIH := Lib.hid IH
    have H1 := Lib.hid h1
    have H2 := Lib.hid h2
    clear hres h1 h2 IH h
    go_enter Tryz.func26, Tryz.ntmps26
    go_upto_region 5 with (first
      | (go_at_call 26; ((with_reducible refine HL.out.mono ?_); intro e w2 ho; obtain ⟨hf, rfl, p2, nv2, us2, hp2, hu2, hk2, hps2, hn2⟩ := ho.good rfl; have HF2 := Lib.hid hf; have HP2 := Lib.hid hps2; have HD2 := Lib.hid hp2; have HU2 := Lib.hid hu2; have HK2 := Lib.hid hk2; clear hf ho hps2 hk2 hp2 hu2))
      | (go_at_call 49; ((with_reducible refine (HLV.out _).mono ?_); rintro e w3 ⟨h1, gs, gk, rfl, h2, h3, h4⟩; rw [HLL.out]; have HF3 := Lib.hid (HF2.out.below h1); have HP3 := Lib.hid (HP2.out.below h1); have HV3 := Lib.hid h4; have hgs := HP2.out.blt; have hgs2 := HF2.out.size; clear h1 h4)))
    have hbs : b < gs := by omega
    have hbk : b < gk := by omega
    have hus2 : us2.length = ns.length := by rw [← HU2.out, List.length_map]
    have hlen2 : (vs ++ us2).length = vs.length + us2.length := List.length_append
    have h3 := count_at H1.out HD2.out HP3.out.lt
    go_loopw [5] (fun av wr => Hid (RRowOk f n res w b tv ts deep vs gs gk av wr) ∨ Hid (RRowBad n res w b tv ts deep vs av wr)) (fun _ wr => rsm b ts.length wr)
    case atStart =>
      refine .inl (Lib.hid ⟨f, ns, a, p2, nv2, us2, rfl, Nat.le_refl _, h3.2.1, hus2, by omega, ?_, HU2.out, HK2.out, HP3.out, HF3.out, HV3.out⟩)
      rw [HD2.out]; exact H2.out
    case round =>
      clear HL H1 H2 HF2 HP2 HD2 HU2 HK2 HF3 HP3 HV3 h3 hus2 hlen2 hn2 hgs hgs2 h2
      rcases hrel with hrel | hrel
      rotate_left
      · obtain ⟨c, x, d, p', nv', us, rfl, hrc, hc, hk, hps, hf, hct, hd1, hd2⟩ := hrel.out
        have HP := Lib.hid hps; have HF := Lib.hid hf; have HK := Lib.hid hk; have HC := Lib.hid hc; have HRC := Lib.hid hrc
        have hc0 : (c == 0) = false := by rw [beq_eq_false_iff_ne]; rcases hc with h | h <;> omega
        obtain ⟨c0, c1, c2, c3, c4⟩ := hps.facts
        clear hps hf hk hc hrc c0 c1 c2 c4 hrel
        go_wp2_with fail
        go_ret
        exact ROut.errs HRC.out HC.out HF.out HK.out HP.out hct (by omega)
      obtain ⟨g, ns', a', p', nv', us, rfl, hg, ha, hul, hcn, hR, hU, hK, hPr, hF, hV⟩ := hrel.out
      have HU := Lib.hid hU; have HK := Lib.hid hK; have HPr := Lib.hid hPr; have HF := Lib.hid hF; have HV := Lib.hid hV; have HR := Lib.hid hR
      clear hU hK hPr hF hV hR hrel
      have hltr := HPr.out.lt
      have HM := Lib.hid (HPr.out.rsm ts.length)
      obtain ⟨c0, c1, c2, c3, c4⟩ := HPr.out.facts
      clear c0 c1 c2 c4
      go_upto_region 8 with (fail)
      match g, hg, HR with
      | 0, _, HR => have := HR.out; unfold rowP at this; cases this
      | g + 1, hg, HR =>
      have hr := HR.out
      rw [rowP_succ] at hr
      have HRR := Lib.hid hr
      clear hr HR
      go_loopw [8, 9] (fun kv jv wq => ∃ (j : Nat), j ≤ LL ∧ jv = .int .i64 (j : Int) ∧ ((kv = .int .i64 0 ∧ Hid (NoSign n (ts.drop p') j) ∧ Hid (Below wr.heap.size wr wq)) ∨
          (∃ kd : Int, kv = .int .i64 kd ∧ Hid (opK n (ts.drop p') = kd) ∧ 9 ≤ kd ∧ Hid (Rs wq b tv ts (p' + 1) (deep : Int) 0 nv' (vs ++ us)) ∧ Hid (Fr wr wq b))))
        (fun _ jv _ => LL - (intOf jv).toNat)
      case atStart => exact ⟨0, Nat.zero_le _, rfl, .inl ⟨rfl, Lib.hid (by intro q y hq; omega), Lib.hid (Below.refl _ _)⟩⟩
      case round =>
        obtain ⟨j, hj, rfl, hk⟩ := hrel
        rcases hk with ⟨rfl, HN, HB⟩ | ⟨kd, rfl, HK1, hk9, HPq, HFq⟩
        · by_cases hjl : j < LL
          · have hji : (j : Int) < (LL : Int) := by omega
            obtain ⟨q, hq⟩ : ∃ q, (levelL n)[j]? = some q := ⟨_, List.getElem?_eq_getElem (by rw [HLL.out]; exact hjl)⟩
            obtain ⟨d0, d1⟩ := (HV.out.below HB.out).cells j q hq
            have HPq := Lib.hid (HPr.out.below HB.out)
            have HS := Lib.hid (ris_any HPq.out q.1)
            rw [decide_eq_true rfl, Bool.true_and] at HS
            have HQ := Lib.hid hq
            cases hs : signIs q.1 (ts.drop p')
            · rw [hs] at HS
              have HN2 := Lib.hid (HN.out.succ hq hs)
              clear hs hq
              go_wp2_with (go_at_call 50; ((with_reducible refine HS.out.mono ?_); rintro e w4 ⟨rfl, h1⟩; have HB4 := Lib.hid (HB.out.trans (h1.mono HB.out.size)); clear h1))
              go_roundw
              case rel => exact ⟨j + 1, by omega, by go_num, .inl ⟨rfl, HN2, HB4⟩⟩
              case measure => simp [intOf]; omega
            · have hnx := rsign_next HPq.out hs
              rw [hs] at HS
              have HOK := Lib.hid (HN.out.at hq hs)
              have hkr := (lev_kinds n hn q (List.mem_of_getElem? hq)).1
              clear hs hq
              go_upto_region 12 with (go_at_call 50; ((with_reducible refine HS.out.mono ?_); rintro e w4 ⟨rfl, h1⟩; have HB4 := Lib.hid (HB.out.trans (h1.mono HB.out.size)); have HP4 := Lib.hid (HPq.out.below h1); obtain ⟨z0, z1⟩ := (HV.out.below HB4.out).cells j q HQ.out; clear h1))
              clear z0 z1 d0 d1 c3
              obtain ⟨c0, c1, c2, c3, c4⟩ := HP4.out.facts
              have f1 := HP4.out.frozen 1
              clear c0 c2 c3 c4
              go_wp2_with fail
              go_roundw
              case rel => exact ⟨j + 1, by omega, by go_num, .inr ⟨q.2, rfl, HOK, hkr, Lib.hid (HP4.out.next hnx), Lib.hid ((Fr.of b HB4.out).setCell _ _)⟩⟩
              case measure => simp [intOf]; omega
          · have hji : ¬ (j : Int) < (LL : Int) := by omega
            have h0 := HN.out.none (by rw [HLL.out]; omega)
            have hr := HRR.out
            rw [if_pos h0] at hr
            injection hr with hr
            have HRS := Lib.hid hr.symm
            have HP4 := Lib.hid (HPr.out.below HB.out)
            have HF4 := Lib.hid (HF.out.below HB.out)
            have hlen : (vs ++ us).length = vs.length + us.length := List.length_append
            clear hr h0
            go_wp2_with fail
            go_ret
            exact ⟨HF4.out, .inr ⟨_, _, _, HRS.out, rfl, p', nv', us, rfl, HU.out, HK.out, HP4.out, by omega⟩⟩
        · have hk0 : (kd == 0) = false := by rw [beq_eq_false_iff_ne]; omega
          have hr := HRR.out
          rw [if_neg (by rw [HK1.out]; omega), HK1.out, List.tail_drop] at hr
          have hlen : (vs ++ us).length = vs.length + us.length := List.length_append
          have hbase : vs.length + ns'.length = (vs ++ us).length := by rw [hlen, hul]
          rw [hbase] at hr
          have hpq := HPq.out.lt
          have HZQ := Lib.hid (Nat.le_trans HF.out.size HFq.out.size)
          have HFW := Lib.hid (HF.out.trans HFq.out)
          have HVQ := Lib.hid (HV.out.fr HFq.out hbs hbk)
          clear c3
          have hjc : (j : Int) < (LL : Int) ∨ ¬ (j : Int) < (LL : Int) := by omega
          rcases bindR_some hr with ⟨c, h1, h2⟩ | ⟨ms, b2, r2, h1, h2⟩
          · have HRC := Lib.hid h2
            have HL := Lib.hid (show Calls Tryz.prog 26 #[.pointer (some ⟨b, 0, none⟩), .int .i64 ((n : Int) + 1)] wr (ROut (n + 1 + 6 * deep) (.error c) wr b tv ts deep (vs ++ us)) from HIH.out g (by omega) (n + 1) deep _ wr b tv ts (p' + 1) nv' (vs ++ us) hn4 hdeep HPq.out (by omega) h1)
            clear h1 h2 hr HRR
            rcases hjc with hji | hji
            all_goals
            go_upto_region 15 with (go_at_call 26; ((with_reducible refine HL.out.mono ?_); intro e w5 ho; obtain ⟨hf, hc, x, rfl, p5, d5, nv5, us5, hk5, hps5, hn5, hd5, hd5'⟩ := ho.bad rfl; have HF5 := Lib.hid (HFW.out.trans hf); have HP5 := Lib.hid hps5; have HK5 := Lib.hid hk5; have HC := Lib.hid hc; clear hf hc ho hps5 hk5))
            have hbl := HP5.out.blt
            have hB6 : Below w5.heap.size w5 (w5.alloc (.cells #[.int .i64 ((a' : Nat) : Int), .int .i64 x] 3)) := (Below.refl _ _).alloc (Nat.le_refl _) _
            have HP6 := Lib.hid (HP5.out.below hB6)
            have HF6 := Lib.hid (HF5.out.below hB6)
            have HA := Lib.hid (show Calls Tryz.prog 51 #[.pointer (some ⟨b, 0, none⟩), .agg #[.int .i64 kd, .int .i64 0, .string ⟨#[]⟩, .string ⟨#[]⟩, .int .i64 0, .int .i64 0, .bool false, .bool false, .string ⟨#[]⟩, .int .i64 0, .int .i64 0, .bool false, .bool false, .slice (some ⟨w5.heap.size, 0, none⟩) 2 2]] (w5.alloc (.cells #[.int .i64 ((a' : Nat) : Int), .int .i64 x] 3)) _ from rput_any HP6.out ⟨{ Nd.zero with kind := kd, kids := [((a' : Nat) : Int), x] }, some (w5.heap.size, 2)⟩ (own_lit2 w5 (b + 1) ((a' : Nat) : Int) (x) (by omega)) (by omega) (.slice (some ⟨w5.heap.size, 0, none⟩) 2 2) rfl { Nd.zero with kind := kd, kids := [((a' : Nat) : Int), x] } rfl)
            clear hB6
            go_wp2_with (go_at_call 51; ((with_reducible refine HA.out.mono ?_); rintro e w7 ⟨h1, rfl, nv7, h3⟩; have HF7 := Lib.hid (HF6.out.trans h1); have HP7 := Lib.hid h3; clear h1 h3))
            have HNW := Lib.hid (show ∀ u ∈ us ++ (us5 ++ [⟨{ Nd.zero with kind := kd, kids := [((a' : Nat) : Int), x] }, some (w5.heap.size, 2)⟩]), ∀ j, u.kv.ownBlock = some j → w.heap.size ≤ j from by
              intro u hu j hj
              rcases List.mem_append.1 hu with hu | hu
              · exact HK.out u hu j hj
              · rcases List.mem_append.1 hu with hu | hu
                · exact Nat.le_trans HZQ.out (HK5.out u hu j hj)
                · rw [List.mem_singleton.1 hu] at hj
                  have hj : some w5.heap.size = some j := hj
                  injection hj with hj
                  have := HF5.out.size; omega)
            go_roundw
            case rel =>
              refine .inr (Lib.hid ⟨c, _, d5, p5, nv7, us ++ (us5 ++ [⟨{ Nd.zero with kind := kd, kids := [((a' : Nat) : Int), x] }, some (w5.heap.size, 2)⟩]), rfl, HRC.out, HC.out, HNW.out, by rw [← List.append_assoc, ← List.append_assoc]; exact HP7.out, HF7.out, ?_, by omega, hd5'⟩)
              simp only [List.length_append, List.length_singleton] at hn5 ⊢; omega
            case measure =>
              have h1 := HP7.out.rsm ts.length
              rw [HM.out, h1, if_neg (show ¬ c = 0 by rcases HC.out with h | h <;> omega)]; simp only [if_true]; omega
          · have HL := Lib.hid (show Calls Tryz.prog 26 #[.pointer (some ⟨b, 0, none⟩), .int .i64 ((n : Int) + 1)] wr (ROut (n + 1 + 6 * deep) (.ok (ms, b2, r2)) wr b tv ts deep (vs ++ us)) from HIH.out g (by omega) (n + 1) deep _ wr b tv ts (p' + 1) nv' (vs ++ us) hn4 hdeep HPq.out (by omega) h1)
            have H1 := Lib.hid h1
            have H2 := Lib.hid h2
            clear h1 h2 hr HRR
            rcases hjc with hji | hji
            all_goals
            go_upto_region 15 with (go_at_call 26; ((with_reducible refine HL.out.mono ?_); intro e w5 ho; obtain ⟨hf, rfl, p5, nv5, us5, hp5, hu5, hk5, hps5, hn5⟩ := ho.good rfl; have HF5 := Lib.hid (HFW.out.trans hf); have HP5 := Lib.hid hps5; have HD5 := Lib.hid hp5; have HU5 := Lib.hid hu5; have HK5 := Lib.hid hk5; have HV5 := Lib.hid (HVQ.out.fr hf hbs hbk); clear hf ho hps5 hk5 hp5 hu5))
            obtain ⟨hc1, hc2, hc3⟩ := count_at H1.out HD5.out HP5.out.lt
            have hus5 : us5.length = ms.length := by rw [← HU5.out, List.length_map]
            have hlen5 : ((vs ++ us) ++ us5).length = vs.length + us.length + us5.length := by rw [List.length_append, List.length_append]
            have hp5l := HP5.out.lt
            have hbl := HP5.out.blt
            have hB6 : Below w5.heap.size w5 (w5.alloc (.cells #[.int .i64 ((a' : Nat) : Int), .int .i64 ((b2 : Nat) : Int)] 3)) := (Below.refl _ _).alloc (Nat.le_refl _) _
            have HP6 := Lib.hid (HP5.out.below hB6)
            have HF6 := Lib.hid (HF5.out.below hB6)
            have HA := Lib.hid (show Calls Tryz.prog 51 #[.pointer (some ⟨b, 0, none⟩), .agg #[.int .i64 kd, .int .i64 0, .string ⟨#[]⟩, .string ⟨#[]⟩, .int .i64 0, .int .i64 0, .bool false, .bool false, .string ⟨#[]⟩, .int .i64 0, .int .i64 0, .bool false, .bool false, .slice (some ⟨w5.heap.size, 0, none⟩) 2 2]] (w5.alloc (.cells #[.int .i64 ((a' : Nat) : Int), .int .i64 ((b2 : Nat) : Int)] 3)) _ from rput_any HP6.out ⟨{ Nd.zero with kind := kd, kids := [((a' : Nat) : Int), ((b2 : Nat) : Int)] }, some (w5.heap.size, 2)⟩ (own_lit2 w5 (b + 1) ((a' : Nat) : Int) (((b2 : Nat) : Int)) (by omega)) (by omega) (.slice (some ⟨w5.heap.size, 0, none⟩) 2 2) rfl { Nd.zero with kind := kd, kids := [((a' : Nat) : Int), ((b2 : Nat) : Int)] } rfl)
            have HBA := Lib.hid hB6
            clear hB6
            go_wp2_with (go_at_call 51; ((with_reducible refine HA.out.mono ?_); rintro e w7 ⟨h1, rfl, nv7, h3⟩; have HFA := Lib.hid h1; have HF7 := Lib.hid (HF6.out.trans h1); have HP7 := Lib.hid h3; clear h1 h3))
            have HNW := Lib.hid (show ∀ u ∈ us ++ (us5 ++ [⟨{ Nd.zero with kind := kd, kids := [((a' : Nat) : Int), ((b2 : Nat) : Int)] }, some (w5.heap.size, 2)⟩]), ∀ j, u.kv.ownBlock = some j → w.heap.size ≤ j from by
              intro u hu j hj
              rcases List.mem_append.1 hu with hu | hu
              · exact HK.out u hu j hj
              · rcases List.mem_append.1 hu with hu | hu
                · exact Nat.le_trans HZQ.out (HK5.out u hu j hj)
                · rw [List.mem_singleton.1 hu] at hj
                  have hj : some w5.heap.size = some j := hj
                  injection hj with hj
                  have := HF5.out.size; omega)
            have HV7 := Lib.hid (HV5.out.fr ((Fr.of b HBA.out).trans HFA.out) hbs hbk)
            go_roundw
            case rel =>
              refine .inl (Lib.hid ⟨g, ns' ++ (ms ++ [{ Nd.zero with kind := kd, kids := [((a' : Nat) : Int), ((b2 : Nat) : Int)] }]), vs.length + (ns'.length + ms.length), p5, nv7, us ++ (us5 ++ [⟨{ Nd.zero with kind := kd, kids := [((a' : Nat) : Int), ((b2 : Nat) : Int)] }, some (w5.heap.size, 2)⟩]), ?_, by omega, ?_, ?_, ?_, ?_, ?_, HNW.out, by rw [← List.append_assoc, ← List.append_assoc]; exact HP7.out, HF7.out, HV7.out⟩)
              · congr 1
              · rw [List.length_append, List.length_append, List.length_singleton]; omega
              · rw [List.length_append, List.length_append, List.length_append, List.length_append, List.length_singleton, List.length_singleton]; omega
              · rw [List.length_append, List.length_append, List.length_singleton]; omega
              · rw [HD5.out]; exact H2.out
              · rw [List.map_append, List.map_append, HU.out, HU5.out]; rfl
            case measure =>
              have h1 := HP7.out.rsm ts.length
              rw [HM.out, h1]; simp only [if_true]; omega
/-- EVERY RANK READS AS THE TOKENS' READING SAYS. -/
theorem rex_all : ∀ F : Nat, REX F ∧ RUX F := by
  intro F
  induction F using Nat.strongRecOn with
  | _ F ih =>
    have main : RUX F := by
      intro deep res w b tv ts p nv vs hd h hc hres
      match F, ih, hres with
      | 0, _, hres => unfold exprP at hres; cases hres
      | f + 1, ih, hres => exact runary_any f (fun g hg => (ih g (by omega)).1) (fun g hg => (ih g (by omega)).2) h hc hd res hres
    refine ⟨?_, main⟩
    intro n deep res w b tv ts p nv vs hn hd h hc hres
    by_cases h3 : n ≤ 3
    · match F, ih, hres with
      | 0, _, hres => unfold exprP at hres; cases hres
      | f + 1, ih, hres =>
      rw [exprP_succ, if_pos h3] at hres
      exact rrow_any f (fun g hg => (ih g (by omega)).1) n h3 h hc hd res hres
    · have e4 : n = 4 := by omega
      subst e4
      have HM := Lib.hid (main deep res w b tv ts p nv vs hd h hc hres)
      clear hres h main ih hc hn h3
      go_enter Tryz.func26, Tryz.ntmps26
      go_wp2_with (go_at_call 48; ((with_reducible refine HM.out.mono ?_); intro e w7 ho; have HOO := Lib.hid ho; obtain ⟨c, rfl⟩ := ho.ret; clear ho))
      go_ret
      exact HOO.out
end Go.Proofs.YtdfpalocnijefaaGreatDoor

/-
  Layer 5, the reference: Parse.
-/
namespace Go.Proofs.YtdfpalocnijefaaGreatDoor
open Go.RowKit

/-- A block that holds what Parse answers. -/
def PkAt (w : World) (b : Nat) (v : Value) (e : Int) : Prop := w.heap[b]? = some (.cells #[v, .int .i64 e] 28)
theorem PkAt.lt {w : World} {b : Nat} {v : Value} {e : Int} (h : PkAt w b v e) : b < w.heap.size := (Array.getElem?_eq_some_iff.1 h).1
theorem PkAt.below {w w' : World} {B b : Nat} {v : Value} {e : Int} (h : PkAt w b v e) (hb : Below B w w') (hB : b < B) : PkAt w' b v e := by unfold PkAt; rw [hb.block b hB]; exact h
theorem PkAt.facts {w : World} {b : Nat} {v : Value} {e : Int} (h : PkAt w b v e) : w.cell? ⟨b, 0, none⟩ = some v ∧ w.cell? ⟨b, 1, none⟩ = some (.int .i64 e) :=
  ⟨by rw [cell_of_row w b 0 _ _ _ h]; rfl, by rw [cell_of_row w b 1 _ _ _ h]; rfl⟩
theorem PkAt.melts {w : World} {b : Nat} {v : Value} {e : Int} (h : PkAt w b v e) : w.frozen? ⟨b, 0, none⟩ = false ∧ w.frozen? ⟨b, 1, none⟩ = false := ⟨frozen_of_row w b 0 _ _ h, frozen_of_row w b 1 _ _ h⟩
theorem PkAt.put2 {w : World} {b : Nat} {v0 : Value} {e0 : Int} (h : PkAt w b v0 e0) (v : Value) (e : Int) : PkAt ((w.setCell ⟨b, 0, none⟩ v).setCell ⟨b, 1, none⟩ (.int .i64 e)) b v e := by
  have h1 : (w.setCell ⟨b, 0, none⟩ v).heap[b]? = some (.cells #[v, .int .i64 e0] 28) := by rw [heap_setCell_same w b 0 _ _ _ h]; rfl
  unfold PkAt; rw [heap_setCell_same _ b 1 _ _ _ h1]; rfl
theorem PkAt.new (w : World) (v : Value) (e : Int) : PkAt (w.alloc (.cells #[v, .int .i64 e] 28)) w.heap.size v e := (Go.MapKept.heap_alloc w _).1
theorem pk_size : (Tryz.prog.info? 28).map (·.size) = some 2 := by kernel_rfl
theorem out_pk {w : World} {b : Nat} {v : Value} {e : Int} (h : PkAt w b v e) (fn : Func) (tmps : Array Value) (p : Tmp) (hf : fn.results = #[.cell p 28]) (hp : tmps.getD p undef = .pointer (some ⟨b, 0, none⟩)) :
    (results fn tmps).run Tryz.prog w = .ok (.agg #[v, .int .i64 e]) w :=
  results_cell_row hf tmps w b _ _ _ _ hp h Tryz.underlying28 rfl pk_size
theorem res_rparse : Tryz.f12.results = #[.cell 2 28] := by kernel_rfl
theorem below_set2 {B : Nat} {a w : World} {g : Nat} (h : Below B a w) (hg : B ≤ g) (v0 v1 : Value) : Below B a ((w.setCell ⟨g, 0, none⟩ v0).setCell ⟨g, 1, none⟩ v1) := (h.setCell hg _).setCell hg _
/-- What the reference's Parse answers. -/
def RParsed (res : Except Int (List Nd)) (w : World) (e : Ending) (w' : World) : Prop :=
  Below w.heap.size w w' ∧ ((∃ c, res = .error c ∧ (c = 4 ∨ c = 5 ∨ c = 6) ∧ e = .returned (.agg #[.slice none 0 0, .int .i64 c])) ∨
    (∃ ns g cap vs, res = .ok ns ∧ vs.map Nv.n = ns ∧ e = .returned (.agg #[.slice (some ⟨g, 0, none⟩) vs.length cap, .int .i64 0]) ∧ NodV w' w.heap.size (.slice (some ⟨g, 0, none⟩) vs.length cap) vs ∧ vs.length ≤ 1000))
theorem lexed_is {s : ByteArray} {w w1 : World} {e : Ending} (h : RefLexed s w e w1) (h1 : s.size ≤ 300) (ts : List Tk) (h2 : lexL (sb s) = some ts) : Below w.heap.size w w1 ∧ ∃ v, e = .returned (.agg #[v, .int .i64 0]) ∧ OwnT w1 w.heap.size v ts := by
  rcases h with ⟨hb, ⟨h, _⟩ | ⟨_, h, _⟩ | ⟨_, ts', v, h3, h4, h5⟩⟩
  · omega
  · rw [h2] at h; cases h
  · rw [h2] at h3; injection h3 with h3; subst h3; exact ⟨hb, v, h4, h5⟩
theorem lexed_isnt {s : ByteArray} {w w1 : World} {e : Ending} (h : RefLexed s w e w1) (h1 : 300 < s.size ∨ (s.size ≤ 300 ∧ lexL (sb s) = none)) : Below w.heap.size w w1 ∧ e = .returned (.agg #[.slice none 0 0, .int .i64 (if 300 < s.size then 4 else 5)]) := by
  rcases h with ⟨hb, ⟨h, he⟩ | ⟨h, h0, he⟩ | ⟨h, ts', v, h3, _⟩⟩
  · rw [if_pos h]; exact ⟨hb, he⟩
  · rw [if_neg (by omega)]; exact ⟨hb, he⟩
  · rcases h1 with h1 | ⟨_, h1⟩
    · omega
    · rw [h1] at h3; cases h3
theorem nodv_drew {w : World} {B : Nat} {v : Value} {us : List Nv} (h : NodV w B v us) (n : Nat) : NodV (w.drewN n) B v us := h
theorem PkAt.fr {w w' : World} {b c : Nat} {v : Value} {e : Int} (h : PkAt w c v e) (hf : Fr w w' b) (hc : c < b) : PkAt w' c v e := by
  unfold PkAt; rw [hf.block c h.lt (by omega) (.inl hc)]; exact h
set_option maxRecDepth 100000 in
set_option maxHeartbeats 4000000 in
theorem rparse_bad (s : ByteArray) (w : World) (c : Int) (hc : c = 4 ∨ c = 5) (hl : ∀ w e w1, RefLexed s w e w1 → Below w.heap.size w w1 ∧ e = .returned (.agg #[.slice none 0 0, .int .i64 c])) :
    Calls Tryz.prog 12 #[.string s] w fun e w' => Below w.heap.size w w' ∧ e = .returned (.agg #[.slice none 0 0, .int .i64 c]) := by
  have HL := Lib.hid hl
  have hc0 : (c != 0) = true := by rw [bne_iff_ne]; omega
  have HPK := Lib.hid (PkAt.new w (.slice none 0 0) 0)
  have HAL := Lib.hid (show Below w.heap.size w (w.alloc (.cells #[.slice none 0 0, .int .i64 0] 28)) from (Below.refl _ _).alloc (Nat.le_refl _) _)
  have HLX := Lib.hid (fun w => refLex_any s w)
  clear hl
  go_enter Tryz.func12, Tryz.ntmps12
  go_upto_region 1 with (fail)
  generalize w.alloc (.cells #[.slice none 0 0, .int .i64 0] 28) = w1 at HPK HAL ⊢
  go_upto_region 2 with (go_at_call 25; ((with_reducible refine (HLX.out _).mono ?_); intro e w2 hx; obtain ⟨hb, he⟩ := HL.out _ _ _ hx; subst he; have HB2 := Lib.hid (HAL.out.trans (hb.mono HAL.out.size)); have HPK2 := Lib.hid (HPK.out.below hb HPK.out.lt); clear hb hx))
  have hB3 : Below w2.heap.size w2 (w2.alloc (.cells #[.slice none 0 0, .int .i64 c] 57)) := (Below.refl _ _).alloc (Nat.le_refl _) _
  have HT3 := LkAt.new w2 (.slice none 0 0) c
  have HB3 := Lib.hid (HB2.out.trans (hB3.mono HB2.out.size))
  have HPK3 := Lib.hid (HPK2.out.below hB3 HPK2.out.lt)
  clear hB3
  generalize hb2 : w2.heap.size = b2 at HT3 ⊢
  generalize w2.alloc (.cells #[.slice none 0 0, .int .i64 c] 57) = w3 at HT3 HB3 HPK3 ⊢
  clear hb2
  obtain ⟨x0, x1⟩ := HT3.facts
  obtain ⟨y0, y1⟩ := HPK3.out.facts
  obtain ⟨z0, z1⟩ := HPK3.out.melts
  go_wp2_with fail
  exact bodyPost_ret (out_pk (HPK3.out.put2 (.slice none 0 0) c) _ _ 2 res_rparse rfl) rfl ⟨below_set2 HB3.out (Nat.le_refl _) _ _, rfl⟩
set_option maxRecDepth 100000 in
set_option maxHeartbeats 8000000 in
theorem rparse_any (s : ByteArray) (w : World) (res : Except Int (List Nd)) (hp : PIs s res) : Calls Tryz.prog 12 #[.string s] w (RParsed res w) := by
  rcases hp with ⟨h1, rfl⟩ | ⟨h1, h2, rfl⟩ | ⟨h1, ts, f, h2, h3⟩
  · refine (rparse_bad s w 4 (.inl rfl) (fun w e w1 h => by have := lexed_isnt h (.inl h1); rw [if_pos h1] at this; exact this)).mono ?_
    rintro e w' ⟨hb, rfl⟩
    exact ⟨hb, .inl ⟨4, rfl, .inl rfl, rfl⟩⟩
  · refine (rparse_bad s w 5 (.inr rfl) (fun w e w1 h => by have := lexed_isnt h (.inr ⟨h1, h2⟩); rw [if_neg (by omega)] at this; exact this)).mono ?_
    rintro e w' ⟨hb, rfl⟩
    exact ⟨hb, .inl ⟨5, rfl, .inr (.inl rfl), rfl⟩⟩
  obtain ⟨hgood, hfit⟩ := lexL_good s ts h2
  have hlen := lexL_len s ts h2
  have hne := List.length_pos_iff.2 (lexL_ne s ts h2)
  have HFIT := Lib.hid hfit
  have HPK := Lib.hid (PkAt.new w (.slice none 0 0) 0)
  have HAL := Lib.hid (show Below w.heap.size w (w.alloc (.cells #[.slice none 0 0, .int .i64 0] 28)) from (Below.refl _ _).alloc (Nat.le_refl _) _)
  have HLX := Lib.hid (fun w => (refLex_any s w).mono fun e w1 h => lexed_is h h1 ts h2)
  unfold parseP at h3
  have H3 := Lib.hid h3
  obtain ⟨nt, hnt⟩ : ∃ nt, ts.length = nt := ⟨_, rfl⟩
  have HNT := Lib.hid hnt
  rw [hnt] at hlen hne
  clear h2 h3 hgood hfit hnt
  go_enter Tryz.func12, Tryz.ntmps12
  go_upto_region 1 with (fail)
  generalize w.alloc (.cells #[.slice none 0 0, .int .i64 0] 28) = w1 at HPK HAL ⊢
  go_upto_region 2 with (go_at_call 25; ((with_reducible refine (HLX.out _).mono ?_); rintro e w2 ⟨hb, tv, rfl, ho⟩; obtain ⟨g1, cap1, htv, hg0, hg1, -, -⟩ := Own.some ho (by rw [HNT.out]; exact hne); rw [HNT.out] at htv; subst htv; have HB2 := Lib.hid (HAL.out.trans (hb.mono HAL.out.size)); have HPK2 := Lib.hid (HPK.out.below hb HPK.out.lt); have HO2 := Lib.hid ho; clear hb ho))
  have hB3 : Below w2.heap.size w2 (w2.alloc (.cells #[.slice (some ⟨g1, 0, none⟩) nt cap1, .int .i64 0] 57)) := (Below.refl _ _).alloc (Nat.le_refl _) _
  have HT3 := LkAt.new w2 (.slice (some ⟨g1, 0, none⟩) nt cap1) 0
  have HB3 := Lib.hid (HB2.out.trans (hB3.mono HB2.out.size))
  have HPK3 := Lib.hid (HPK2.out.below hB3 HPK2.out.lt)
  have HO3 := Lib.hid (HO2.out.below hB3 (Nat.le_refl _))
  have hg3 : g1 < (w2.alloc (.cells #[.slice (some ⟨g1, 0, none⟩) nt cap1, .int .i64 0] 57)).heap.size := by simp; omega
  clear hB3 HB2 HPK2 HO2 HLX hg0 hg1
  generalize hb2 : w2.heap.size = b2 at HT3 ⊢
  generalize w2.alloc (.cells #[.slice (some ⟨g1, 0, none⟩) nt cap1, .int .i64 0] 57) = w3 at HT3 HB3 HPK3 HO3 hg3 ⊢
  clear hb2
  obtain ⟨x0, x1⟩ := HT3.facts
  clear HT3
  go_upto_region 5 with (fail)
  have hB4 : Below w3.heap.size w3 (w3.alloc (.cells #[.slice (some ⟨g1, 0, none⟩) nt cap1, .int .i64 0, .int .i64 0, .int .i64 0, .slice none 0 0] 61)) := (Below.refl _ _).alloc (Nat.le_refl _) _
  have hC4 : (w3.alloc (.cells #[.slice (some ⟨g1, 0, none⟩) nt cap1, .int .i64 0, .int .i64 0, .int .i64 0, .slice none 0 0] 61)).heap[w3.heap.size]? = some (.cells #[.slice (some ⟨g1, 0, none⟩) nt cap1, .int .i64 0, .int .i64 0, .int .i64 0, .slice none 0 0] 61) := (Go.MapKept.heap_alloc w3 _).1
  have HB4 := Lib.hid (HB3.out.trans (hB4.mono HB3.out.size))
  have HPK4 := Lib.hid (HPK3.out.below hB4 HPK3.out.lt)
  have HO4 := Lib.hid (HO3.out.below hB4 (Nat.le_refl _))
  have hpb := HPK3.out.lt
  have hzb := HB3.out.size
  clear hB4 x0 x1
  generalize w3.alloc (.cells #[.slice (some ⟨g1, 0, none⟩) nt cap1, .int .i64 0, .int .i64 0, .int .i64 0, .slice none 0 0] 61) = w4 at hC4 HB4 HPK4 HO4 ⊢
  generalize w3.heap.size = b at hC4 hg3 hpb hzb ⊢
  have HP := Lib.hid (show Rs w4 b (.slice (some ⟨g1, 0, none⟩) nt cap1) ts 0 ((0 : Nat) : Int) 0 (.slice none 0 0) [] from
    ⟨hC4, ⟨g1, cap1, by rw [HNT.out], hg3, HO4.out.mono (Nat.zero_le _)⟩, NodV.nil _ _, by rw [HNT.out]; exact hne, HFIT.out, by rw [HNT.out]; omega, Nat.zero_le _⟩)
  clear hC4 HO4 HFIT HO3 HB3 HPK3 HAL HPK
  have hB0 : w.heap.size ≤ b := by omega
  rcases bindR_some H3.out with ⟨c, g2, rfl⟩ | ⟨ns, a, r, g2, g3⟩
  · have HX := Lib.hid (show Calls Tryz.prog 26 #[.pointer (some ⟨b, 0, none⟩), .int .i64 0] w4 (ROut (0 + 6 * 0) (.error c) w4 b (.slice (some ⟨g1, 0, none⟩) nt cap1) ts 0 []) from (rex_all f).1 0 0 _ w4 b _ ts 0 _ [] (by omega) (by omega) HP.out (Nat.le_refl _) g2)
    clear g2 H3
    go_upto_region 6 with (go_at_call 26; ((with_reducible refine HX.out.mono ?_); intro e w5 ho; obtain ⟨hf, hc, x, rfl, p5, d5, nv5, us5, hk5, hps5, -, -, -⟩ := ho.bad rfl; have HB5 := Lib.hid (HB4.out.trans (hf.toBelow hB0 HB4.out.size)); have HPK5 := Lib.hid (HPK4.out.fr hf hpb); have HP5 := Lib.hid hps5; have HC := Lib.hid hc; clear hf hc ho hk5 hps5))
    obtain ⟨c0, c1, c2, c3, c4⟩ := HP5.out.facts
    obtain ⟨y0, y1⟩ := HPK5.out.facts
    obtain ⟨z0, z1⟩ := HPK5.out.melts
    have hc0 : (c == 0) = false := by rw [beq_eq_false_iff_ne]; rcases HC.out with h | h <;> omega
    have hc1 : (c != 0) = true := by rw [bne, hc0]; rfl
    go_quiet (fail)
    go_wp2_with fail
    exact bodyPost_ret (out_pk ((show PkAt (w5.drewN nq) w.heap.size (.slice none 0 0) 0 from HPK5.out).put2 (.slice none 0 0) c) _ _ 2 res_rparse rfl) rfl ⟨below_set2 (drew_below HB5.out nq) (Nat.le_refl _) _ _, .inl ⟨c, rfl, .inr HC.out, rfl⟩⟩
  · have HX := Lib.hid (show Calls Tryz.prog 26 #[.pointer (some ⟨b, 0, none⟩), .int .i64 0] w4 (ROut (0 + 6 * 0) (.ok (ns, a, r)) w4 b (.slice (some ⟨g1, 0, none⟩) nt cap1) ts 0 []) from (rex_all f).1 0 0 _ w4 b _ ts 0 _ [] (by omega) (by omega) HP.out (Nat.le_refl _) g2)
    have hns := ((told_all f).1 _ _ _ _ _ _ _ g2).2.2
    have H4 := Lib.hid g3
    clear g2 g3 H3
    go_upto_region 6 with (go_at_call 26; ((with_reducible refine HX.out.mono ?_); intro e w5 ho; obtain ⟨hf, rfl, p5, nv5, us5, hp5, hu5, hk5, hps5, -⟩ := ho.good rfl; have HB5 := Lib.hid (HB4.out.trans (hf.toBelow hB0 HB4.out.size)); have HPK5 := Lib.hid (HPK4.out.fr hf hpb); have HP5 := Lib.hid hps5; have HD5 := Lib.hid hp5; have HU5 := Lib.hid hu5; clear hf ho hp5 hu5 hk5 hps5))
    obtain ⟨c0, c1, c2, c3, c4⟩ := HP5.out.facts
    obtain ⟨gt, ct, t, htv, ht, hd, -, k0, -⟩ := HP5.out.tok
    injection htv with htv htl htc
    injection htv with htv
    injection htv with htv
    subst htv
    have h4 := H4.out
    rw [← HD5.out, hd] at h4
    have hlt5 := HP5.out.lt
    obtain ⟨g5, cap5, rfl, -, -, -, -⟩ := Own.some HP5.out.nodes.1 (show 0 < (([] : List Nv) ++ us5).length by rw [List.nil_append, ← List.length_map (f := Nv.n), HU5.out]; omega)
    have hi1 : (0 : Int) ≤ (p5 : Int) := by omega
    have hi2 : (p5 : Int) < (nt : Int) := by rw [HNT.out] at hlt5; omega
    obtain ⟨kd, hkd⟩ : ∃ kd, t.kind = kd := ⟨_, rfl⟩
    rw [hkd] at k0
    clear HX ht hd H4 htl htc hlt5
    by_cases h0 : t.kind = 0
    · rw [show kindAt (t :: ts.drop (p5 + 1)) = t.kind from rfl, if_pos h0] at h4
      injection h4 with h4
      have HR := Lib.hid h4.symm
      have e0 : (kd != 0) = false := by rw [← hkd, h0]; rfl
      clear h4 h0 hkd
      go_quiet (fail)
      obtain ⟨y0, y1⟩ := HPK5.out.facts
      obtain ⟨z0, z1⟩ := HPK5.out.melts
      go_wp2_with fail
      have HND := Lib.hid (nodv_drew HP5.out.nodes nq)
      exact bodyPost_ret (out_pk ((show PkAt (w5.drewN nq) w.heap.size (.slice none 0 0) 0 from HPK5.out).put2 _ 0) _ _ 2 res_rparse rfl) rfl ⟨below_set2 (drew_below HB5.out nq) (Nat.le_refl _) _ _, .inr ⟨ns, g5, cap5, ([] : List Nv) ++ us5, HR.out, by rw [List.nil_append]; exact HU5.out, rfl, ((HND.out.set (by omega) _ _).set (by omega) _ _).mono (by omega), by have h1 := HP5.out.cnt; have h2 := HNT.out; omega⟩⟩
    · rw [show kindAt (t :: ts.drop (p5 + 1)) = t.kind from rfl, if_neg h0] at h4
      injection h4 with h4
      have HR := Lib.hid h4.symm
      have e0 : (kd != 0) = true := by rw [bne_iff_ne, ← hkd]; exact h0
      clear h4 h0 hkd
      go_quiet (fail)
      have hB6 : Below w5.heap.size w5 (w5.drewN nq) := drew_below (Below.refl _ _) nq
      have HP6 := Lib.hid (HP5.out.below hB6)
      have HB6 := Lib.hid (drew_below HB5.out nq)
      have HPK6 := Lib.hid (show PkAt (w5.drewN nq) w.heap.size (.slice none 0 0) 0 from HPK5.out)
      have HFA := Lib.hid (rfail_any HP6.out 5)
      clear c0 c1 c2 c3 c4 k0 hB6
      generalize w5.drewN nq = w6 at HP6 HB6 HPK6 HFA ⊢
      go_wp2_with (go_at_call 27; ((with_reducible refine HFA.out.mono ?_); rintro e w7 ⟨rfl, h1, h2⟩; have HB7 := Lib.hid (HB6.out.trans (h1.toBelow hB0 HB6.out.size)); have HPK7 := Lib.hid (HPK6.out.fr h1 hpb); obtain ⟨c0, c1, c2, c3, c4⟩ := (Rs.of_fail h2).facts; obtain ⟨y0, y1⟩ := HPK7.out.facts; obtain ⟨z0, z1⟩ := HPK7.out.melts; clear h1 h2 c0 c1 c2 c4))
      exact bodyPost_ret (out_pk (HPK7.out.put2 (.slice none 0 0) 5) _ _ 2 res_rparse rfl) rfl ⟨below_set2 HB7.out (Nat.le_refl _) _ _, .inl ⟨5, HR.out, .inr (.inl rfl), rfl⟩⟩
end Go.Proofs.YtdfpalocnijefaaGreatDoor

/-
  Layer 5, the reference: what a node's fields may be: names that are called; all kinds.
-/
namespace Go.Proofs.YtdfpalocnijefaaGreatDoor
open Go.RowKit

set_option maxRecDepth 100000 in
set_option maxHeartbeats 2000000 in
theorem refLeaf_7 (n : Nd) (hk : n.kind = 7) (hs : n.text.size ≤ 1000000) (_hr : n.ref.sh.size ≤ 1000000) (_ht : n.to.sh.size ≤ 1000000) (A : Option Addr) (m c : Nat) (w : World) : Calls Tryz.prog 32 #[.agg #[.int .i64 n.kind, .int .i64 n.num, .string n.text, .string n.ref.sh, .int .i64 n.ref.c, .int .i64 n.ref.r, .bool n.ref.ac, .bool n.ref.ar, .string n.to.sh, .int .i64 n.to.c, .int .i64 n.to.r, .bool n.to.ac, .bool n.to.ar, .slice A m c]] w fun e w' => e = .returned (.bool (leafB n)) ∧ Below w.heap.size w w' := by
  have hx : NdAt (w.alloc (.cells #[.int .i64 n.kind, .int .i64 n.num, .string n.text, .string n.ref.sh, .int .i64 n.ref.c, .int .i64 n.ref.r, .bool n.ref.ac, .bool n.ref.ar, .string n.to.sh, .int .i64 n.to.c, .int .i64 n.to.r, .bool n.to.ac, .bool n.to.ar, .slice A m c] 38)) w.heap.size n (.slice A m c) := NdAt.new w n _
  have HB := Lib.hid ((Below.refl w.heap.size w).alloc (Nat.le_refl _) (.cells #[.int .i64 n.kind, .int .i64 n.num, .string n.text, .string n.ref.sh, .int .i64 n.ref.c, .int .i64 n.ref.r, .bool n.ref.ac, .bool n.ref.ar, .string n.to.sh, .int .i64 n.to.c, .int .i64 n.to.r, .bool n.to.ac, .bool n.to.ar, .slice A m c] 38))
  have HN1 := Lib.hid (fun w => refNoRef_any n.ref w)
  have HN2 := Lib.hid (fun w => refNoRef_any n.to w)
  have HK := Lib.hid hk
  clear hk
  go_enter Tryz.func32, Tryz.ntmps32
  go_upto_region 1 with (fail)
  generalize w.alloc (.cells #[.int .i64 n.kind, .int .i64 n.num, .string n.text, .string n.ref.sh, .int .i64 n.ref.c, .int .i64 n.ref.r, .bool n.ref.ac, .bool n.ref.ar, .string n.to.sh, .int .i64 n.to.c, .int .i64 n.to.r, .bool n.to.ac, .bool n.to.ar, .slice A m c] 38) = w1 at hx HB ⊢
  generalize hb0 : w.heap.size = b0 at hx ⊢
  obtain ⟨x0, x1, x2, x3, x4, x5, x6, x7, x8, x9, x10, x11, x12, x13⟩ := hx.cells
  have HX := Lib.hid hx
  clear hx
  have hk := HK.out
  rw [hk] at x0
  by_cases hnum : n.num = 0
  rotate_left
  · have en : (n.num != 0) = true := by rw [bne_iff_ne]; exact hnum
    have HR := Lib.hid (show leafB n = false by unfold leafB; simp [hk, hnum])
    clear hnum
    clear hk
    go_wp2_with (fail)
    go_ret
    exact ⟨by rw [HR.out] <;> rfl, HB.out⟩
  rw [hnum] at x1
  cases hq1 : noRf n.ref
  · have HQref := Lib.hid hq1
    have HR := Lib.hid (show leafB n = false by unfold leafB; simp [hk, hnum, hq1])
    clear hq1
    clear hnum
    clear hk
    go_wp2_with ((go_at_call 54; ((with_reducible refine (HN1.out _).mono ?_); rintro e w2 ⟨rfl, h1⟩; rw [HQref.out]; have HB2 := Lib.hid (HB.out.trans (h1.mono HB.out.size)); have HX2 := Lib.hid (HX.out.below h1 HX.out.lt); clear x0 x1 x2 x3 x4 x5 x6 x7 x8 x9 x10 x11 x12 x13; obtain ⟨x0, x1, x2, x3, x4, x5, x6, x7, x8, x9, x10, x11, x12, x13⟩ := HX2.out.cells; rw [HK.out] at x0; clear h1)))
    go_ret
    exact ⟨by rw [HR.out] <;> rfl, HB2.out⟩
  have HQref := Lib.hid hq1
  cases hq2 : noRf n.to
  · have HQto := Lib.hid hq2
    have HR := Lib.hid (show leafB n = false by unfold leafB; simp [hk, hnum, hq1, hq2])
    clear hq2
    clear hnum
    clear hq1
    clear hk
    go_wp2_with (first
      | (go_at_call 54; ((with_reducible refine (HN1.out _).mono ?_); rintro e w2 ⟨rfl, h1⟩; rw [HQref.out]; have HB2 := Lib.hid (HB.out.trans (h1.mono HB.out.size)); have HX2 := Lib.hid (HX.out.below h1 HX.out.lt); clear x0 x1 x2 x3 x4 x5 x6 x7 x8 x9 x10 x11 x12 x13; obtain ⟨x0, x1, x2, x3, x4, x5, x6, x7, x8, x9, x10, x11, x12, x13⟩ := HX2.out.cells; rw [HK.out] at x0; clear h1; clear HN1))
      | (go_at_call 54; ((with_reducible refine (HN2.out _).mono ?_); rintro e w3 ⟨rfl, h1⟩; rw [HQto.out]; have HB3 := Lib.hid (HB2.out.trans (h1.mono HB2.out.size)); have HX3 := Lib.hid (HX2.out.below h1 HX2.out.lt); clear x0 x1 x2 x3 x4 x5 x6 x7 x8 x9 x10 x11 x12 x13; obtain ⟨x0, x1, x2, x3, x4, x5, x6, x7, x8, x9, x10, x11, x12, x13⟩ := HX3.out.cells; rw [HK.out] at x0; clear h1)))
    go_ret
    exact ⟨by rw [HR.out] <;> rfl, HB3.out⟩
  have HQto := Lib.hid hq2
  obtain ⟨tx, htx⟩ : ∃ tx, n.text = tx := ⟨_, rfl⟩
  have HC := Lib.hid (show leafB n = callB tx by unfold leafB; simp [hk, hnum, hq1, hq2]; rw [htx])
  have HTX := Lib.hid htx
  rw [htx] at hs
  clear hnum
  clear hq1
  clear hq2
  clear hk
  clear htx
  have q1 := word_eq tx ⟨#[84, 82, 85, 69]⟩
  have q2 := word_eq tx ⟨#[70, 65, 76, 83, 69]⟩
  rw [list_true] at q1
  rw [list_false] at q2
  cases hq : readS tx with
  | some d =>
    have HSY := Lib.hid (fun (e : Ending) (he : Says (sb tx) e) => says_some hq he)
    have HQ := Lib.hid hq
    clear hq
    go_upto_region 12 with (first
      | (go_at_call 54; ((with_reducible refine (HN1.out _).mono ?_); rintro e w2 ⟨rfl, h1⟩; rw [HQref.out]; have HB2 := Lib.hid (HB.out.trans (h1.mono HB.out.size)); have HX2 := Lib.hid (HX.out.below h1 HX.out.lt); clear x0 x1 x2 x3 x4 x5 x6 x7 x8 x9 x10 x11 x12 x13; obtain ⟨x0, x1, x2, x3, x4, x5, x6, x7, x8, x9, x10, x11, x12, x13⟩ := HX2.out.cells; rw [HTX.out] at x2; rw [HK.out] at x0; clear h1; clear HN1))
      | (go_at_call 54; ((with_reducible refine (HN2.out _).mono ?_); rintro e w3 ⟨rfl, h1⟩; rw [HQto.out]; have HB3 := Lib.hid (HB2.out.trans (h1.mono HB2.out.size)); have HX3 := Lib.hid (HX2.out.below h1 HX2.out.lt); clear x0 x1 x2 x3 x4 x5 x6 x7 x8 x9 x10 x11 x12 x13; obtain ⟨x0, x1, x2, x3, x4, x5, x6, x7, x8, x9, x10, x11, x12, x13⟩ := HX3.out.cells; rw [HTX.out] at x2; rw [HK.out] at x0; clear h1))
      | (go_at_call 56; ((with_reducible refine (refRead_any tx _ hs).mono ?_); rintro e w4 ⟨h1, h2⟩; obtain rfl := HSY.out e h1; clear h1; have HB4 := Lib.hid (HB3.out.trans (h2.mono HB3.out.size)); have HX4 := Lib.hid (HX3.out.below h2 HX3.out.lt); clear h2)))
    have hB5 : Below w4.heap.size w4 (w4.alloc (.cells #[.string d.sh, .int .i64 d.c, .int .i64 d.r, .bool d.ac, .bool d.ar] 35)) := (Below.refl _ _).alloc (Nat.le_refl _) _
    have HB5 := Lib.hid (HB4.out.trans (hB5.mono HB4.out.size))
    have HX5 := Lib.hid (HX4.out.below hB5 HX4.out.lt)
    clear hB5 x0 x1 x2 x3 x4 x5 x6 x7 x8 x9 x10 x11 x12 x13
    generalize w4.alloc (.cells #[.string d.sh, .int .i64 d.c, .int .i64 d.r, .bool d.ac, .bool d.ar] 35) = w5 at HB5 HX5 ⊢
    obtain ⟨x0, x1, x2, x3, x4, x5, x6, x7, x8, x9, x10, x11, x12, x13⟩ := HX5.out.cells
    rw [HTX.out] at x2
    cases hc : calledL (sb tx)
    · have HCL := Lib.hid hc
      have HR := Lib.hid (show leafB n = false by rw [HC.out]; unfold callB; rw [HQ.out, hc]; rfl)
      clear hc
      go_wp2_with ((go_at_call 57; ((with_reducible refine (refCalled_any tx _ hs).mono ?_); rintro e wq ⟨rfl, rfl⟩; rw [HCL.out])))
      go_ret
      exact ⟨by rw [HR.out] <;> rfl, HB5.out⟩
    have HCL := Lib.hid hc
    have HR := Lib.hid (show leafB n = false by rw [HC.out]; unfold callB; rw [HQ.out, hc]; rfl)
    clear hc
    go_wp2_with ((go_at_call 57; ((with_reducible refine (refCalled_any tx _ hs).mono ?_); rintro e wq ⟨rfl, rfl⟩; rw [HCL.out])))
    go_ret
    exact ⟨by rw [HR.out] <;> rfl, HB5.out⟩
  | none =>
    have HSY := Lib.hid (fun (e : Ending) (he : Says (sb tx) e) => says_none hq he)
    have HQ := Lib.hid hq
    clear hq
    go_upto_region 12 with (first
      | (go_at_call 54; ((with_reducible refine (HN1.out _).mono ?_); rintro e w2 ⟨rfl, h1⟩; rw [HQref.out]; have HB2 := Lib.hid (HB.out.trans (h1.mono HB.out.size)); have HX2 := Lib.hid (HX.out.below h1 HX.out.lt); clear x0 x1 x2 x3 x4 x5 x6 x7 x8 x9 x10 x11 x12 x13; obtain ⟨x0, x1, x2, x3, x4, x5, x6, x7, x8, x9, x10, x11, x12, x13⟩ := HX2.out.cells; rw [HTX.out] at x2; rw [HK.out] at x0; clear h1; clear HN1))
      | (go_at_call 54; ((with_reducible refine (HN2.out _).mono ?_); rintro e w3 ⟨rfl, h1⟩; rw [HQto.out]; have HB3 := Lib.hid (HB2.out.trans (h1.mono HB2.out.size)); have HX3 := Lib.hid (HX2.out.below h1 HX2.out.lt); clear x0 x1 x2 x3 x4 x5 x6 x7 x8 x9 x10 x11 x12 x13; obtain ⟨x0, x1, x2, x3, x4, x5, x6, x7, x8, x9, x10, x11, x12, x13⟩ := HX3.out.cells; rw [HTX.out] at x2; rw [HK.out] at x0; clear h1))
      | (go_at_call 56; ((with_reducible refine (refRead_any tx _ hs).mono ?_); rintro e w4 ⟨h1, h2⟩; obtain rfl := HSY.out e h1; clear h1; have HB4 := Lib.hid (HB3.out.trans (h2.mono HB3.out.size)); have HX4 := Lib.hid (HX3.out.below h2 HX3.out.lt); clear h2)))
    have hB5 : Below w4.heap.size w4 (w4.alloc (.cells #[.string ⟨#[]⟩, .int .i64 0, .int .i64 0, .bool false, .bool false] 35)) := (Below.refl _ _).alloc (Nat.le_refl _) _
    have HB5 := Lib.hid (HB4.out.trans (hB5.mono HB4.out.size))
    have HX5 := Lib.hid (HX4.out.below hB5 HX4.out.lt)
    clear hB5 x0 x1 x2 x3 x4 x5 x6 x7 x8 x9 x10 x11 x12 x13
    generalize w4.alloc (.cells #[.string ⟨#[]⟩, .int .i64 0, .int .i64 0, .bool false, .bool false] 35) = w5 at HB5 HX5 ⊢
    obtain ⟨x0, x1, x2, x3, x4, x5, x6, x7, x8, x9, x10, x11, x12, x13⟩ := HX5.out.cells
    rw [HTX.out] at x2
    cases hc : calledL (sb tx)
    · have HCL := Lib.hid hc
      have HR := Lib.hid (show leafB n = false by rw [HC.out]; unfold callB; rw [HQ.out, hc]; rfl)
      clear hc
      go_wp2_with ((go_at_call 57; ((with_reducible refine (refCalled_any tx _ hs).mono ?_); rintro e wq ⟨rfl, rfl⟩; rw [HCL.out])))
      go_ret
      exact ⟨by rw [HR.out] <;> rfl, HB5.out⟩
    have HCL := Lib.hid hc
    by_cases g1 : tx = ⟨#[84, 82, 85, 69]⟩
    · rw [decide_eq_true g1] at q1
      have q1n : (tx.toList != [84, 82, 85, 69]) = false := by rw [bne, q1]; rfl
      have HR := Lib.hid (show leafB n = false by rw [HC.out]; unfold callB; rw [HQ.out, hc, decide_eq_false (show ¬ ¬ tx = _ from fun h => h g1)]; rfl)
      clear hc g1
      go_wp2_with ((go_at_call 57; ((with_reducible refine (refCalled_any tx _ hs).mono ?_); rintro e wq ⟨rfl, rfl⟩; rw [HCL.out])))
      go_ret
      exact ⟨by rw [HR.out] <;> rfl, HB5.out⟩
    rw [decide_eq_false g1] at q1
    have q1n : (tx.toList != [84, 82, 85, 69]) = true := by rw [bne, q1]; rfl
    by_cases g2 : tx = ⟨#[70, 65, 76, 83, 69]⟩
    · rw [decide_eq_true g2] at q2
      have q2n : (tx.toList != [70, 65, 76, 83, 69]) = false := by rw [bne, q2]; rfl
      have HR := Lib.hid (show leafB n = false by rw [HC.out]; unfold callB; rw [HQ.out, hc, decide_eq_false (show ¬ ¬ tx = ⟨#[70, 65, 76, 83, 69]⟩ from fun h => h g2)]; simp)
      clear hc g1 g2
      go_wp2_with ((go_at_call 57; ((with_reducible refine (refCalled_any tx _ hs).mono ?_); rintro e wq ⟨rfl, rfl⟩; rw [HCL.out])))
      go_ret
      exact ⟨by rw [HR.out] <;> rfl, HB5.out⟩
    rw [decide_eq_false g2] at q2
    have q2n : (tx.toList != [70, 65, 76, 83, 69]) = true := by rw [bne, q2]; rfl
    have HR := Lib.hid (show leafB n = true by rw [HC.out]; unfold callB; rw [HQ.out, hc, decide_eq_true g1, decide_eq_true g2]; rfl)
    clear hc g1 g2
    go_wp2_with ((go_at_call 57; ((with_reducible refine (refCalled_any tx _ hs).mono ?_); rintro e wq ⟨rfl, rfl⟩; rw [HCL.out])))
    go_ret
    exact ⟨by rw [HR.out] <;> rfl, HB5.out⟩


theorem refLeaf_any (n : Nd) (hs : n.text.size ≤ 1000000) (hr : n.ref.sh.size ≤ 1000000) (ht : n.to.sh.size ≤ 1000000) (A : Option Addr) (m c : Nat) (w : World) : Calls Tryz.prog 32 #[.agg #[.int .i64 n.kind, .int .i64 n.num, .string n.text, .string n.ref.sh, .int .i64 n.ref.c, .int .i64 n.ref.r, .bool n.ref.ac, .bool n.ref.ar, .string n.to.sh, .int .i64 n.to.c, .int .i64 n.to.r, .bool n.to.ac, .bool n.to.ar, .slice A m c]] w fun e w' => e = .returned (.bool (leafB n)) ∧ Below w.heap.size w w' := by
  by_cases h1 : n.kind = 1
  · exact refLeaf_1 n h1 hs hr ht A m c w
  by_cases h2 : n.kind = 2
  · exact refLeaf_2 n h2 hs hr ht A m c w
  by_cases h3 : n.kind = 3
  · exact refLeaf_3 n h3 hs hr ht A m c w
  by_cases h5 : n.kind = 5
  · exact refLeaf_5 n h5 hs hr ht A m c w
  by_cases h6 : n.kind = 6
  · exact refLeaf_6 n h6 hs hr ht A m c w
  by_cases h7 : n.kind = 7
  · exact refLeaf_7 n h7 hs hr ht A m c w
  exact refLeaf_x n h1 h2 h3 h5 h6 h7 hs hr ht A m c w
end Go.Proofs.YtdfpalocnijefaaGreatDoor

/-
  Layer 5, the program: slices of numbers compared.
-/
namespace Go.Proofs.YtdfpalocnijefaaGreatDoor
open Go.RowKit

/-- A slice of numbers that reads as xs, below block B. -/
def SI (w : World) (B : Nat) (v : Value) (xs : List Int) : Prop :=
  ∃ A cap, v = .slice A xs.length cap ∧ xs.length ≤ cap ∧ cap ≤ maxLen ∧ (xs = [] ∨ ∃ pb po, A = some ⟨pb, po, none⟩ ∧ pb < B ∧ ∀ (j : Nat) (x : Int), xs[j]? = some x → w.cell? ⟨pb, po + j, none⟩ = some (.int .i64 x))
theorem SI.below {w w' : World} {B C : Nat} {v : Value} {xs : List Int} (h : SI w B v xs) (hb : Below C w w') (hC : B ≤ C) : SI w' B v xs := by
  obtain ⟨A, cap, h1, h2, h3, h4⟩ := h
  refine ⟨A, cap, h1, h2, h3, h4.imp id ?_⟩
  rintro ⟨pb, po, e1, e2, e3⟩
  exact ⟨pb, po, e1, e2, fun j x hj => (hb.cell (p := ⟨pb, po + j, none⟩) (by show pb < C; omega)).trans (e3 j x hj)⟩
theorem SI.mono {w : World} {B C : Nat} {v : Value} {xs : List Int} (h : SI w B v xs) (hC : B ≤ C) : SI w C v xs := by
  obtain ⟨A, cap, h1, h2, h3, h4⟩ := h
  refine ⟨A, cap, h1, h2, h3, h4.imp id ?_⟩
  rintro ⟨pb, po, e1, e2, e3⟩
  exact ⟨pb, po, e1, by omega, e3⟩
theorem own_at {w : World} {base g n cap : Nat} {st : List Int} (h : Own (encInt .i64) 3 w base (.slice (some ⟨g, 0, none⟩) n cap) st) (j : Nat) (x : Int) (hj : st[j]? = some x) : w.cell? ⟨g, j, none⟩ = some (.int .i64 x) := by
  have hl := (List.getElem?_eq_some_iff.1 hj).1
  have h1 := Own.intCell h j hl
  rw [List.getD_eq_getElem?_getD, hj] at h1; exact h1
/-- The end of a slice that the call made. -/
theorem SI.tail {w : World} {base g cap : Nat} {st : List Int} (h : Own (encInt .i64) 3 w base (.slice (some ⟨g, 0, none⟩) st.length cap) st) (f : Nat) (hf : f ≤ st.length) (hc : st.length ≤ cap) (hm : cap ≤ maxLen) (hg : g < w.heap.size) : SI w w.heap.size (.slice (if cap = f then some ⟨g, 0, none⟩ else some ⟨g, f, none⟩) (st.length - f) (cap - f)) (st.drop f) := by
  refine ⟨_, _, by rw [List.length_drop], by rw [List.length_drop]; omega, by omega, ?_⟩
  by_cases h0 : st.drop f = []
  · exact .inl h0
  · have hne : ¬ cap = f := fun e => h0 (List.drop_of_length_le (by omega))
    refine .inr ⟨g, f, by rw [if_neg hne], hg, fun j x hj => ?_⟩
    rw [List.getElem?_drop] at hj
    exact own_at h (f + j) x hj
theorem own_take {w : World} {base g cap : Nat} {st : List Int} (h : Own (encInt .i64) 3 w base (.slice (some ⟨g, 0, none⟩) st.length cap) st) (k : Nat) (hk : k ≤ st.length) : Own (encInt .i64) 3 w base (.slice (some ⟨g, 0, none⟩) k cap) (st.take k) := by
  have hl : (st.take k).length = k := by rw [List.length_take]; omega
  rcases h.2 with ⟨h1, _⟩ | ⟨g', cap', cur, h1, h2, h3, h4, h5, h6, h7⟩
  · cases h1
  · injection h1 with e1 e2 e3
    injection e1 with e1; injection e1 with e1
    subst e1; subst e3
    refine ⟨by rw [Enc.length_all], .inr ⟨g, cap, cur, by rw [hl], h2, h3, by omega, h5, h6, ?_⟩⟩
    rw [hl, all_encInt, List.map_take, ← all_encInt, ← h7, List.take_take, Nat.mul_one, Nat.mul_one]
    congr 1; omega

theorem take_snoc {xs ys : List Int} {k : Nat} {x : Int} (h : xs.take k = ys.take k) (hx : xs[k]? = some x) (hy : ys[k]? = some x) : xs.take (k + 1) = ys.take (k + 1) := by
  rw [List.take_add_one, List.take_add_one, h, hx, hy]
set_option maxRecDepth 100000 in
set_option maxHeartbeats 1600000 in
theorem equal_any (w : World) (B : Nat) (v1 v2 : Value) (xs ys : List Int) (h1 : SI w B v1 xs) (h2 : SI w B v2 ys) : Calls Tryz.prog 29 #[v1, v2] w fun e w' => e = .returned (.bool (decide (xs = ys))) ∧ Below w.heap.size w w' := by
  obtain ⟨A1, cap1, rfl, hc1, hm1, a1⟩ := h1
  obtain ⟨A2, cap2, rfl, hc2, hm2, a2⟩ := h2
  unfold maxLen at hm1 hm2
  obtain ⟨n1, hn1⟩ : ∃ n1, xs.length = n1 := ⟨_, rfl⟩
  obtain ⟨n2, hn2⟩ : ∃ n2, ys.length = n2 := ⟨_, rfl⟩
  rw [hn1] at hc1 ⊢
  rw [hn2] at hc2 ⊢
  by_cases hl : n1 = n2
  · subst hl
    have HA1 := Lib.hid a1; have HA2 := Lib.hid a2; have HN1 := Lib.hid hn1; have HN2 := Lib.hid hn2
    clear a1 a2 hn1 hn2
    go_enter Tryz.func29, Tryz.ntmps29
    go_upto_region 4 with (fail)
    go_loopw [13] (fun i wr => ∃ (k m : Nat), k ≤ n1 ∧ i = .int .i64 (k : Int) ∧ Hid (xs.take k = ys.take k) ∧ w.drewN m = wr)
      (fun i _ => n1 - (intOf i).toNat)
    case atStart => exact ⟨0, 0, Nat.zero_le _, rfl, Lib.hid rfl, rfl⟩
    case round =>
      obtain ⟨k, m, hk, rfl, HT, rfl⟩ := hrel
      by_cases hlt : k < n1
      · have hki : (k : Int) < (n1 : Int) := by omega
        obtain ⟨x, hx⟩ : ∃ x, xs[k]? = some x := ⟨_, List.getElem?_eq_getElem (by rw [HN1.out]; exact hlt)⟩
        obtain ⟨y, hy⟩ : ∃ y, ys[k]? = some y := ⟨_, List.getElem?_eq_getElem (by rw [HN2.out]; exact hlt)⟩
        rcases HA1.out with e | ⟨p1, o1, rfl, -, c1⟩
        · exfalso; rw [e] at hx; simp at hx
        rcases HA2.out with e | ⟨p2, o2, rfl, -, c2⟩
        · exfalso; rw [e] at hy; simp at hy
        have k1 := c1 k x hx
        have k2 := c2 k y hy
        have HX := Lib.hid hx; have HY := Lib.hid hy
        clear c1 c2 hx hy
        by_cases hxy : x = y
        · have ex : (x != y) = false := by rw [hxy]; simp
          have HT2 := Lib.hid (take_snoc HT.out HX.out (by rw [hxy]; exact HY.out))
          clear hxy
          go_wp2_with fail
          go_quiet (fail)
          go_wp2_with fail
          go_roundw
          case rel => exact ⟨k + 1, _, by omega, by go_num, HT2, by first | rfl | trivial⟩
          case measure => simp [intOf]; omega
        · have ex : (x != y) = true := by rw [bne_iff_ne]; exact hxy
          have HR := Lib.hid (show ¬ xs = ys from fun e => hxy (by have h1 := HX.out; rw [e, HY.out] at h1; exact (Option.some.inj h1).symm))
          clear hxy
          go_wp2_with fail
          go_quiet (fail)
          go_wp2_with fail
          go_ret
          exact ⟨by rw [decide_eq_false HR.out] <;> rfl, drew_below (drew_below (Below.refl _ _) m) nq⟩
      · have hki : ¬ (k : Int) < (n1 : Int) := by omega
        have HR := Lib.hid (show xs = ys by
          have h1 := HT.out
          rw [List.take_of_length_le (by rw [HN1.out]; omega), List.take_of_length_le (by rw [HN2.out]; omega)] at h1
          exact h1)
        go_wp2_with fail
        go_ret
        exact ⟨by rw [decide_eq_true HR.out] <;> rfl, drew_below (Below.refl _ _) m⟩
  · have hne : ((n1 : Int) != (n2 : Int)) = true := by rw [bne_iff_ne]; omega
    have HR := Lib.hid (show ¬ xs = ys from fun e => hl (by rw [← hn1, ← hn2, e]))
    clear a1 a2 hn1 hn2
    go_enter Tryz.func29, Tryz.ntmps29
    go_wp2_with fail
    go_ret
    exact ⟨by rw [decide_eq_false HR.out] <;> rfl, Below.refl _ _⟩
end Go.Proofs.YtdfpalocnijefaaGreatDoor
