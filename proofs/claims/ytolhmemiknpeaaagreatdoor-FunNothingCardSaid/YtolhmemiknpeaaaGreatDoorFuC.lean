/-
  Layer 8, the program: whether arguments suit.
-/
import Derived.Test.YtolhmemiknpeaaaGreatDoorFuB
import Derived.Deep.DeepCutAuto
namespace Go.Proofs.YtolhmemiknpeaaaGreatDoor
open Go.RowKit

/-- The i-th argument, where it lies, and its slice. -/
theorem takeArg {w : World} {B : Nat} {A : Option Addr} {ags : List Ag} {i : Nat} {a : Ag} (h : ags = [] ∨ ∃ pb po, A = some ⟨pb, po, none⟩ ∧ pb < B ∧ ∀ (i : Nat) (a : Ag), ags[i]? = some a → w.cell? ⟨pb, po + i * 3, none⟩ = some (.bool a.r) ∧ w.cell? ⟨pb, po + i * 3 + 1, none⟩ = some (.int .i64 a.c) ∧ w.cell? ⟨pb, po + i * 3 + 2, none⟩ = some a.v) (hk : ∀ a ∈ ags, SV w B a.v a.vs) (hi : ags[i]? = some a) :
    ∃ pb po Av capv, A = some ⟨pb, po, none⟩ ∧ pb < B ∧ w.cell? ⟨pb, po + i * 3, none⟩ = some (.bool a.r) ∧ w.cell? ⟨pb, po + i * 3 + 1, none⟩ = some (.int .i64 a.c) ∧ w.cell? ⟨pb, po + i * 3 + 2, none⟩ = some (.slice Av a.vs.length capv) ∧ SV w B (.slice Av a.vs.length capv) a.vs := by
  rcases h with rfl | ⟨pb, po, h1, h2, h3⟩
  · simp at hi
  · obtain ⟨c0, c1, c2⟩ := h3 i a hi
    have hs := hk a (List.mem_of_getElem? hi)
    obtain ⟨Av, capv, hv, hx⟩ := id hs
    rw [hv] at c2 hs
    exact ⟨pb, po, Av, capv, h1, h2, c0, c1, c2, hs⟩
theorem drop_at {α : Type} {l : List α} {i : Nat} {a : α} (h : l[i]? = some a) : l.drop i = a :: l.drop (i + 1) := by
  obtain ⟨hl, he⟩ := List.getElem?_eq_some_iff.1 h
  rw [List.drop_eq_getElem_cons hl, he]
theorem dec_beq' (x y : Bool) : decide (x = y) = (x == y) := by cases x <;> cases y <;> rfl
def fitsB (takes : Int) (a : Ag) : Bool := decide (takes = 1) || decide (a.r = decide (takes = 2))
theorem suit_two (w : World) (c g : Value) (l m t : Value) (s : Value) :
    (w.alloc (.cells #[c] 38)).heap.size = w.heap.size + 1 ∧ ((w.alloc (.cells #[c] 38)).alloc (.cells #[l, m, t, s, g] 42)).cell? ⟨w.heap.size, 0, none⟩ = some c ∧
    ((w.alloc (.cells #[c] 38)).alloc (.cells #[l, m, t, s, g] 42)).cell? ⟨w.heap.size + 1, 0, none⟩ = some l ∧ ((w.alloc (.cells #[c] 38)).alloc (.cells #[l, m, t, s, g] 42)).cell? ⟨w.heap.size + 1, 1, none⟩ = some m ∧
    ((w.alloc (.cells #[c] 38)).alloc (.cells #[l, m, t, s, g] 42)).cell? ⟨w.heap.size + 1, 2, none⟩ = some t ∧ Below w.heap.size w ((w.alloc (.cells #[c] 38)).alloc (.cells #[l, m, t, s, g] 42)) := by
  have h1 := (Go.MapKept.heap_alloc w (.cells #[c] 38)).1
  have h2 := (Go.MapKept.heap_alloc (w.alloc (.cells #[c] 38)) (.cells #[l, m, t, s, g] 42)).1
  rw [World.size_alloc] at h2
  have h3 : ((w.alloc (.cells #[c] 38)).alloc (.cells #[l, m, t, s, g] 42)).heap[w.heap.size]? = _ := ((Go.MapKept.heap_alloc (w.alloc (.cells #[c] 38)) (.cells #[l, m, t, s, g] 42)).2 _ (by rw [World.size_alloc]; omega)).trans h1
  refine ⟨World.size_alloc _ _, ?_, ?_, ?_, ?_, ((Below.refl w.heap.size w).alloc (Nat.le_refl _) _).alloc (by rw [World.size_alloc]; omega) _⟩
  · rw [cell_of_row _ _ 0 _ _ _ h3]; rfl
  · rw [cell_of_row _ _ 0 _ _ _ h2]; rfl
  · rw [cell_of_row _ _ 1 _ _ _ h2]; rfl
  · rw [cell_of_row _ _ 2 _ _ _ h2]; rfl
set_option maxRecDepth 100000 in
set_option maxHeartbeats 1600000 in
theorem suits_far (w : World) (v : Value) (ags : List Ag) (least most takes : Int) (sees : Bool) (fn : Value) (h : SA w w.heap.size v ags) (hf : (ags.length : Int) < least ∨ most < (ags.length : Int)) : Calls Tryz.prog 12 #[.agg #[v], .agg #[.int .i64 least, .int .i64 most, .int .i64 takes, .bool sees, fn]] w fun e w' => e = .returned (.bool false) ∧ Below w.heap.size w w' := by
  obtain ⟨⟨A, cap, rfl, hat⟩, hkid⟩ := h
  obtain ⟨n, hn⟩ : ∃ n, ags.length = n := ⟨_, rfl⟩
  rw [hn]
  obtain ⟨hsz, c0, f0, f1, f2, hb⟩ := suit_two w (.slice A n cap) fn (.int .i64 least) (.int .i64 most) (.int .i64 takes) (.bool sees)
  have HB := Lib.hid hb; have HAT := Lib.hid hat; have HN := Lib.hid hn; have HKID := Lib.hid hkid
  rw [hn] at hf
  clear hb hat hn hkid hsz
  by_cases hlo : (n : Int) < least
  · go_enter Tryz.func12, Tryz.ntmps12
    go_wp2_with fail
    go_ret
    exact ⟨rfl, HB.out⟩
  · have hhi : most < (n : Int) := hf.resolve_left hlo
    have hhi2 : (n : Int) > most := hhi
    go_enter Tryz.func12, Tryz.ntmps12
    go_wp2_with fail
    go_ret
    exact ⟨rfl, HB.out⟩
set_option maxRecDepth 100000 in
set_option maxHeartbeats 1600000 in
theorem suits_near (w : World) (v : Value) (ags : List Ag) (least most takes : Int) (sees : Bool) (fn : Value) (h : SA w w.heap.size v ags) (hz : ags.length ≤ 1000000) (hlo : ¬ (ags.length : Int) < least) (hhi : ¬ most < (ags.length : Int)) : Calls Tryz.prog 12 #[.agg #[v], .agg #[.int .i64 least, .int .i64 most, .int .i64 takes, .bool sees, fn]] w fun e w' => e = .returned (.bool (ags.all (fitsB takes))) ∧ Below w.heap.size w w' := by
  obtain ⟨⟨A, cap, rfl, hat⟩, hkid⟩ := h
  obtain ⟨n, hn⟩ : ∃ n, ags.length = n := ⟨_, rfl⟩
  rw [hn]
  obtain ⟨hsz, c0, f0, f1, f2, hb⟩ := suit_two w (.slice A n cap) fn (.int .i64 least) (.int .i64 most) (.int .i64 takes) (.bool sees)
  have HB := Lib.hid hb; have HAT := Lib.hid hat; have HN := Lib.hid hn; have HKID := Lib.hid hkid
  rw [hn] at hlo hhi hz
  have HSZ := Lib.hid hsz
  clear hb hat hn hkid hsz
  have hhi2 : ¬ (n : Int) > most := hhi
  go_enter Tryz.func12, Tryz.ntmps12
  go_upto_region 4 with (fail)
  obtain ⟨q, hq⟩ : ∃ q, w.heap.size = q := ⟨_, rfl⟩
  rw [hq] at HAT HKID HSZ c0 f0 f1 f2 ⊢
  have HW1 : Below q w ((w.alloc (.cells #[.slice A n cap] 38)).alloc (.cells #[.int .i64 least, .int .i64 most, .int .i64 takes, .bool sees, fn] 42)) := by rw [← hq]; exact HB.out
  have hq1 : q + 1 < ((w.alloc (.cells #[.slice A n cap] 38)).alloc (.cells #[.int .i64 least, .int .i64 most, .int .i64 takes, .bool sees, fn] 42)).heap.size := by rw [World.size_alloc, HSZ.out]; omega
  have hqw : q ≤ ((w.alloc (.cells #[.slice A n cap] 38)).alloc (.cells #[.int .i64 least, .int .i64 most, .int .i64 takes, .bool sees, fn] 42)).heap.size := by omega
  generalize ((w.alloc (.cells #[.slice A n cap] 38)).alloc (.cells #[.int .i64 least, .int .i64 most, .int .i64 takes, .bool sees, fn] 42)) = w1 at HW1 hq1 hqw c0 f0 f1 f2 ⊢
  go_loopw [24] (fun iv wr => ∃ i : Nat, i ≤ n ∧ iv = .int .i64 (i : Int) ∧ Hid (ags.all (fitsB takes) = (ags.drop i).all (fitsB takes)) ∧ Hid (Below w1.heap.size w1 wr))
    (fun iv _ => n - (intOf iv).toNat)
  case atStart => exact ⟨0, Nat.zero_le _, rfl, Lib.hid rfl, Lib.hid (Below.refl _ _)⟩
  case round =>
    obtain ⟨i, hi, rfl, HT, HR⟩ := hrel
    by_cases hlt : i < n
    · have hii : (i : Int) < (n : Int) := by omega
      have hi0 : (0 : Int) ≤ (i : Int) := by omega
      obtain ⟨a, ha⟩ : ∃ a, ags[i]? = some a := ⟨_, List.getElem?_eq_getElem (by rw [HN.out]; exact hlt)⟩
      obtain ⟨pb, po, Av, capv, rfl, hpb, e0, e1, e2, -⟩ := takeArg HAT.out HKID.out ha
      obtain ⟨m, hm⟩ : ∃ m, a.vs.length = m := ⟨_, rfl⟩
      rw [hm] at e2
      clear hm
      have hpw := hpb
      have hpw1 : pb < w1.heap.size := by omega
      have x0 : wr.cell? ⟨pb, po + i * 3, none⟩ = some (.bool a.r) := (HR.out.cell (p := ⟨pb, po + i * 3, none⟩) hpw1).trans ((HW1.cell (p := ⟨pb, po + i * 3, none⟩) hpw).trans e0)
      have x1 : wr.cell? ⟨pb, po + i * 3 + 1, none⟩ = some (.int .i64 a.c) := (HR.out.cell (p := ⟨pb, po + i * 3 + 1, none⟩) hpw1).trans ((HW1.cell (p := ⟨pb, po + i * 3 + 1, none⟩) hpw).trans e1)
      have x2 : wr.cell? ⟨pb, po + i * 3 + 2, none⟩ = some (.slice Av m capv) := (HR.out.cell (p := ⟨pb, po + i * 3 + 2, none⟩) hpw1).trans ((HW1.cell (p := ⟨pb, po + i * 3 + 2, none⟩) hpw).trans e2)
      have HD := Lib.hid (drop_at ha)
      have HX := Lib.hid (AgAt.new wr a.r a.c (.slice Av m capv))
      have HR2 := Lib.hid (HR.out.alloc HR.out.size (.cells #[.bool a.r, .int .i64 a.c, .slice Av m capv] 32))
      clear e0 e1 e2 ha
      go_upto_region 6 with (fail)
      generalize hz2 : wr.heap.size = z2 at HX ⊢
      generalize wr.alloc (.cells #[.bool a.r, .int .i64 a.c, .slice Av m capv] 32) = w2 at HX HR2 ⊢
      obtain ⟨y0, y1, y2⟩ := HX.out.cells
      have g2 : w2.cell? ⟨q + 1, 2, none⟩ = some (.int .i64 takes) := (HR2.out.cell (p := ⟨q + 1, 2, none⟩) hq1).trans f2
      by_cases ht : takes = 1
      · have t1 : (takes != 1) = false := by rw [ht]; rfl
        have HF := Lib.hid (show fitsB takes a = true by unfold fitsB; rw [decide_eq_true ht]; rfl)
        go_wp2_with fail
        go_roundw
        case rel => exact ⟨i + 1, by omega, by go_num, Lib.hid (by rw [HT.out, HD.out, List.all_cons, HF.out, Bool.true_and]), HR2⟩
        case measure => simp [intOf]; omega
      · have t1 : (takes != 1) = true := by rw [bne_iff_ne]; exact ht
        have HF := Lib.hid (show fitsB takes a = decide (a.r = decide (takes = 2)) by unfold fitsB; rw [decide_eq_false ht, Bool.false_or])
        by_cases h2 : takes = 2
        · have t2 : (takes == 2) = true := beq_iff_eq.2 h2
          cases hr : a.r with
          | false =>
            rw [hr] at y0
            have HF2 := Lib.hid (show fitsB takes a = false by rw [HF.out, hr, decide_eq_true h2]; rfl)
            go_wp2_with fail
            go_ret
            exact ⟨by rw [HT.out, HD.out, List.all_cons, HF2.out, Bool.false_and] <;> rfl, (by first | exact HW1.trans (HR2.out.mono hqw) | (rw [hq]; exact HW1.trans (HR2.out.mono hqw)))⟩
          | true =>
            rw [hr] at y0
            have HF2 := Lib.hid (show fitsB takes a = true by rw [HF.out, hr, decide_eq_true h2]; rfl)
            go_wp2_with fail
            go_roundw
            case rel => exact ⟨i + 1, by omega, by go_num, Lib.hid (by rw [HT.out, HD.out, List.all_cons, HF2.out, Bool.true_and]), HR2⟩
            case measure => simp [intOf]; omega
        · have t2 : (takes == 2) = false := beq_eq_false_iff_ne.2 h2
          cases hr : a.r with
          | true =>
            rw [hr] at y0
            have HF2 := Lib.hid (show fitsB takes a = false by rw [HF.out, hr, decide_eq_false h2]; rfl)
            go_wp2_with fail
            go_ret
            exact ⟨by rw [HT.out, HD.out, List.all_cons, HF2.out, Bool.false_and] <;> rfl, (by first | exact HW1.trans (HR2.out.mono hqw) | (rw [hq]; exact HW1.trans (HR2.out.mono hqw)))⟩
          | false =>
            rw [hr] at y0
            have HF2 := Lib.hid (show fitsB takes a = true by rw [HF.out, hr, decide_eq_false h2]; rfl)
            go_wp2_with fail
            go_roundw
            case rel => exact ⟨i + 1, by omega, by go_num, Lib.hid (by rw [HT.out, HD.out, List.all_cons, HF2.out, Bool.true_and]), HR2⟩
            case measure => simp [intOf]; omega
    · have hii : ¬ (i : Int) < (n : Int) := by omega
      have HL := Lib.hid (show ags.all (fitsB takes) = true by rw [HT.out, List.drop_of_length_le (by rw [HN.out]; omega)]; rfl)
      go_wp2_with fail
      go_ret
      exact ⟨by rw [HL.out] <;> rfl, (by first | exact HW1.trans (HR.out.mono hqw) | (rw [hq]; exact HW1.trans (HR.out.mono hqw)))⟩
theorem suits_any (w : World) (v : Value) (ags : List Ag) (least most takes : Int) (sees : Bool) (fn : Value) (h : SA w w.heap.size v ags) (hz : ags.length ≤ 1000000) : Calls Tryz.prog 12 #[.agg #[v], .agg #[.int .i64 least, .int .i64 most, .int .i64 takes, .bool sees, fn]] w fun e w' => e = .returned (.bool (suitA least most takes ags)) ∧ Below w.heap.size w w' := by
  by_cases hf : (ags.length : Int) < least ∨ most < (ags.length : Int)
  · rw [show suitA least most takes ags = false by unfold suitA; rw [decide_eq_false (by omega), Bool.false_and]]
    exact suits_far w v ags least most takes sees fn h hf
  · rw [show suitA least most takes ags = ags.all (fitsB takes) by unfold suitA; rw [decide_eq_true (by omega), Bool.true_and]; rfl]
    exact suits_near w v ags least most takes sees fn h hz (by omega) (by omega)
end Go.Proofs.YtolhmemiknpeaaaGreatDoor
