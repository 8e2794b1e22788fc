/-
  Layer 11, the reference: a place put in, one taken out.
-/
import Derived.Test.YtnnnpjdlhdkeaaaMaI
namespace Go.Proofs.Ytnnnpjdlhdkeaaa
open Go.RowKit

theorem Own.set1 {α : Type} {E : Enc α 1} {e : TypeId} {w : World} {lo g n cap : Nat} {xs : List α} (h : Own E e w lo (.slice (Option.some ⟨g, 0, none⟩) n cap) xs) (i : Nat) (x : α) (u : Value) (hu : E.f x = [u]) : Own E e (w.setCell ⟨g, i, none⟩ u) lo (.slice (Option.some ⟨g, 0, none⟩) n cap) (xs.set i x) := by
  obtain ⟨h1, h2⟩ := h
  refine ⟨by rw [E.length_all], ?_⟩
  rcases h2 with ⟨h3, _⟩ | ⟨g', cap', cur, h3, h4, h5, h6, h7, h8, h9⟩
  · cases h3
  · injection h3 with h3 h3' h3''
    injection h3 with h3
    injection h3 with h3
    subst h3
    refine .inr ⟨g, cap', _, ?_, h4, heap_setCell_same w g i cur e u h5, ?_, h7, by rw [Array.size_setIfInBounds]; exact h8, ?_⟩
    · rw [List.length_set, ← h3', ← h3'']
    · rw [List.length_set]; exact h6
    · rw [List.length_set, all_set1 E xs i x u hu, ← h9, Array.toList_setIfInBounds, List.take_set]
theorem mapU_set (f : Nat → Int) (n i : Nat) (x : Int) : ((List.range n).map f).set i x = (List.range n).map fun j => if j = i then x else f j := by
  apply List.ext_getElem?
  intro j
  rw [List.getElem?_set, List.getElem?_map, List.length_map, List.length_range, List.getElem?_map]
  by_cases hj : j < n
  · rw [List.getElem?_range hj]
    by_cases hij : i = j
    · subst hij; rw [if_pos rfl, if_pos hj, Option.map_some, if_pos rfl]
    · rw [if_neg hij, Option.map_some, Option.map_some, if_neg (fun e => hij e.symm)]
  · rw [List.getElem?_eq_none (by simp; omega)]
    by_cases hij : i = j
    · subst hij; rw [if_pos rfl, if_neg hj]; rfl
    · rw [if_neg hij]; rfl
theorem mapU_at (f : Nat → Int) (n i : Nat) (h : i < n) : ((List.range n).map f).getD i 0 = f i := by
  rw [List.getD_eq_getElem?_getD, List.getElem?_map, List.getElem?_range h]; rfl
theorem mapU_eq {f g : Nat → Int} {n : Nat} (h : ∀ j, j < n → f j = g j) : (List.range n).map f = (List.range n).map g := List.map_congr_left fun j hj => h j (List.mem_range.1 hj)
def insF (a i j : Nat) : Int := if j < a then (j : Int) else if j < i then (j : Int) + 1 else (j : Int)
def delF (a i j : Nat) : Int := if j < a then (j : Int) else if j = a then -1 else if j < i then (j : Int) - 1 else (j : Int)
theorem insF_start (a n : Nat) : sameM n = (List.range n).map (insF a a) := by
  unfold sameM; apply mapU_eq; intro j _; unfold insF; split
  · rfl
  · rfl
theorem insF_next (a i n : Nat) (h : a ≤ i) : ((List.range n).map (insF a i)).set i ((i : Int) + 1) = (List.range n).map (insF a (i + 1)) := by
  rw [mapU_set]; apply mapU_eq; intro j _; unfold insF
  by_cases hj : j = i
  · subst hj; rw [if_pos rfl, if_neg (by omega), if_pos (by omega)]
  · rw [if_neg hj]
    by_cases h1 : j < a
    · rw [if_pos h1, if_pos h1]
    · rw [if_neg h1, if_neg h1]
      by_cases h2 : j < i
      · rw [if_pos h2, if_pos (by omega)]
      · rw [if_neg h2, if_neg (by omega)]
theorem insF_end (a n : Nat) : (List.range n).map (insF a n) = insM n a := by
  unfold insM; apply mapU_eq; intro j hj; unfold insF
  by_cases h1 : j < a
  · rw [if_pos h1, if_pos (by omega)]
  · rw [if_neg h1, if_pos hj, if_neg (by omega)]
theorem delF_start (a n : Nat) : (sameM n).set a (-1) = (List.range n).map (delF a (a + 1)) := by
  unfold sameM; rw [mapU_set]; apply mapU_eq; intro j _; unfold delF
  by_cases hj : j = a
  · subst hj; rw [if_pos rfl, if_neg (by omega), if_pos rfl]
  · rw [if_neg hj]
    by_cases h1 : j < a
    · rw [if_pos h1]
    · rw [if_neg h1, if_neg hj, if_neg (by omega)]
theorem delF_next (a i n : Nat) (h : a < i) : ((List.range n).map (delF a i)).set i ((i : Int) - 1) = (List.range n).map (delF a (i + 1)) := by
  rw [mapU_set]; apply mapU_eq; intro j _; unfold delF
  by_cases hj : j = i
  · subst hj; rw [if_pos rfl, if_neg (by omega), if_neg (by omega), if_pos (by omega)]
  · rw [if_neg hj]
    by_cases h1 : j < a
    · rw [if_pos h1, if_pos h1]
    · rw [if_neg h1, if_neg h1]
      by_cases h3 : j = a
      · rw [if_pos h3, if_pos h3]
      · rw [if_neg h3, if_neg h3]
        by_cases h2 : j < i
        · rw [if_pos h2, if_pos (by omega)]
        · rw [if_neg h2, if_neg (by omega)]
theorem delF_end (a n : Nat) : (List.range n).map (delF a n) = delM n a := by
  unfold delM; apply mapU_eq; intro j hj; unfold delF
  by_cases h1 : j < a
  · rw [if_pos h1, if_pos (by omega)]
  · rw [if_neg h1, if_neg (show ¬ (j : Int) < (a : Int) by omega)]
    by_cases h3 : j = a
    · rw [if_pos h3, if_pos (by omega)]
    · rw [if_neg h3, if_pos hj, if_neg (by omega)]
/-- A map of the call's own that is written over: at p, the result's block at q. -/
structure WvI (w0 w : World) (q p : Nat) (A : Option Addr) (N c : Nat) (k : Int) (xs : List Int) : Prop where
  out : PrAt 24 w q (.slice none 0 0) 0
  cur : PrAt 24 w p (.slice A N c) k
  own : Own (encInt .i64) 3 w (q + 1) (.slice A N c) xs
  row : ∀ g, A = Option.some ⟨g, 0, none⟩ → g < p
  aft : Below q w0 w
  qp : q < p
theorem WvI.set {w0 w : World} {q p g : Nat} {N c : Nat} {k : Int} {xs : List Int} (h : WvI w0 w q p (Option.some ⟨g, 0, none⟩) N c k xs) (i : Nat) (x : Int) : WvI w0 (w.setCell ⟨g, i, none⟩ (.int .i64 x)) q p (Option.some ⟨g, 0, none⟩) N c k (xs.set i x) := by
  have hg := h.row g rfl
  have hl := (h.own.lies (g := g) rfl).1
  exact ⟨h.out.other _ _ (by show q ≠ g; omega), h.cur.other _ _ (by show p ≠ g; omega), h.own.set1 i x _ rfl, h.row, h.aft.setCell (by show q ≤ g; omega) _, h.qp⟩
theorem WvI.setN {w0 w : World} {q p : Nat} {A : Option Addr} {N c : Nat} {k : Int} {xs : List Int} (h : WvI w0 w q p A N c k xs) (m : Int) : WvI w0 (w.setCell ⟨p, 1, none⟩ (.int .i64 m)) q p A N c m xs :=
  ⟨h.out.other _ _ (by show q ≠ p; have := h.qp; omega), h.cur.put1 m, h.own.keep (fun g h1 h2 h3 => heap_setCell_other w _ g _ (by
    show g ≠ p
    rcases h.own.shape with ⟨h4, _⟩ | ⟨g', c', h4, _⟩
    · rw [h4] at h3; cases h3
    · injection h4 with h4
      have := h.row g' h4
      rw [h4] at h3
      have : g' = g := Option.some.inj h3
      omega)), h.row, h.aft.setCell (by show q ≤ p; have := h.qp; omega) _, h.qp⟩
theorem res_rins : Try.f16.results = #[.cell 4 24] := by kernel_rfl
theorem res_rdel : Try.f18.results = #[.cell 4 24] := by kernel_rfl
theorem WvI.start {w w1 w2 : World} {A : Option Addr} {N c : Nat} {k : Int} {xs : List Int} (hb : Below w.heap.size w w1) (hp : PrAt 24 w1 w.heap.size (.slice none 0 0) 0) (ho : Own (encInt .i64) 3 w2 w1.heap.size (.slice A N c) xs) (hb2 : Below w1.heap.size w1 w2) :
    WvI w (w2.alloc (.cells #[.slice A N c, .int .i64 k] 24)) w.heap.size w2.heap.size A N c k xs := by
  have h1 := hp.lt
  have h2 := hb2.size
  have hn := below_pr 24 w2 (.slice A N c) k
  refine ⟨(hp.over hb2).over hn, PrAt.new _ _ _ _, (ho.below hn (Nat.le_refl _)).mono (by omega), fun g hg => ?_, (hb.trans (hb2.mono hb.size)).trans (hn.mono (by omega)), by omega⟩
  subst hg
  exact ho.less rfl
set_option maxRecDepth 100000 in
set_option maxHeartbeats 8000000 in
theorem rins_map (w : World) (n a : Int) : Calls Try.prog 16 #[.int .i64 n, .int .i64 a] w fun e w' => RefOut w w' (insO n a).1 (insO n a).2 e := by
  have HB := Lib.hid (below_pr 24 w (.slice none 0 0) 0)
  have HP := Lib.hid (PrAt.new 24 w (.slice none 0 0) 0)
  have hle := cntM_le n
  have hs := fun w => rsame_map w n
  have hO : insO n a = if a < 0 ∨ (cntM n : Int) < a then (sameM (cntM n), (cntM n : Int)) else (insM (cntM n) a, (cntM n : Int) + 1) := rfl
  obtain ⟨N, hN⟩ : ∃ N, cntM n = N := ⟨_, rfl⟩
  simp only [hN] at hs hO hle
  have HS := Lib.hid hs
  clear hN hs
  by_cases hbad : a < 0 ∨ (N : Int) < a
  · rw [if_pos hbad] at hO
    rw [hO]
    clear hO
    go_enter Try.func16, Try.ntmps16
    go_upto_region 1 with (fail)
    obtain ⟨w1, hw1⟩ : ∃ w1, w.alloc (.cells #[.slice none 0 0, .int .i64 0] 24) = w1 := ⟨_, rfl⟩
    rw [hw1] at HB HP ⊢
    clear hw1
    go_upto_region 2 with (go_at_call 14; ((with_reducible refine (HS.out _).mono ?_); rintro e w2 ⟨v, rfl, h1, h2⟩; have H1 := Lib.hid h1; have H2 := Lib.hid h2; obtain ⟨A, c, hv⟩ := own_sl h1; rw [length_sameM] at hv; subst hv; clear h1 h2))
    have HW := Lib.hid (WvI.start (k := (N : Int)) HB.out HP.out H1.out H2.out)
    obtain ⟨p, hp⟩ : ∃ p, w2.heap.size = p := ⟨_, rfl⟩
    rw [hp] at HW ⊢
    obtain ⟨w3, hw3⟩ : ∃ w3, w2.alloc (.cells #[.slice A N c, .int .i64 (N : Int)] 24) = w3 := ⟨_, rfl⟩
    rw [hw3] at HW ⊢
    clear hw3 hp
    obtain ⟨x0, x1⟩ := HW.out.cur.cells
    obtain ⟨y0, y1⟩ := HW.out.out.cells
    obtain ⟨m0, m1⟩ := HW.out.out.melts
    by_cases h0 : a < 0
    · go_wp2_with fail
      refine bodyPost_ret (out_mp (HW.out.out.put2 (.slice A N c) (N : Int)) _ _ 4 res_rins rfl) rfl ⟨_, rfl, ?_, below_put2 HW.out.aft (Nat.le_refl _) _ _⟩
      exact (HW.out.own.keep (fun g h1 _ _ => heap_put2 _ _ _ _ _ (by omega))).mono (by omega)
    · have h9 : (N : Int) < a := hbad.resolve_left h0
      clear hbad
      go_wp2_with fail
      refine bodyPost_ret (out_mp (HW.out.out.put2 (.slice A N c) (N : Int)) _ _ 4 res_rins rfl) rfl ⟨_, rfl, ?_, below_put2 HW.out.aft (Nat.le_refl _) _ _⟩
      exact (HW.out.own.keep (fun g h1 _ _ => heap_put2 _ _ _ _ _ (by omega))).mono (by omega)
  · rw [if_neg hbad] at hO
    rw [hO]
    obtain ⟨a0, rfl⟩ : ∃ a0 : Nat, a = (a0 : Int) := ⟨a.toNat, by omega⟩
    have h0 : ¬ (a0 : Int) < 0 := fun e => hbad (.inl e)
    have h9 : ¬ (N : Int) < (a0 : Int) := fun e => hbad (.inr e)
    clear hO hbad
    go_enter Try.func16, Try.ntmps16
    go_upto_region 1 with (fail)
    obtain ⟨w1, hw1⟩ : ∃ w1, w.alloc (.cells #[.slice none 0 0, .int .i64 0] 24) = w1 := ⟨_, rfl⟩
    rw [hw1] at HB HP ⊢
    clear hw1
    go_upto_region 2 with (go_at_call 14; ((with_reducible refine (HS.out _).mono ?_); rintro e w2 ⟨v, rfl, h1, h2⟩; have H1 := Lib.hid h1; have H2 := Lib.hid h2; obtain ⟨A, c, hv⟩ := own_sl h1; rw [length_sameM] at hv; subst hv; clear h1 h2))
    have HW := Lib.hid (WvI.start (k := (N : Int)) HB.out HP.out H1.out H2.out)
    obtain ⟨p, hp⟩ : ∃ p, w2.heap.size = p := ⟨_, rfl⟩
    rw [hp] at HW ⊢
    obtain ⟨w3, hw3⟩ : ∃ w3, w2.alloc (.cells #[.slice A N c, .int .i64 (N : Int)] 24) = w3 := ⟨_, rfl⟩
    rw [hw3] at HW ⊢
    clear hw3 hp
    obtain ⟨x0, x1⟩ := HW.out.cur.cells
    obtain ⟨m0, m1⟩ := HW.out.cur.melts
    go_upto_region 5 with (fail)
    clear x0 x1 m0 m1
    have HW2 := Lib.hid (HW.out.setN ((N : Int) + 1))
    obtain ⟨w4, hw4⟩ : ∃ w4, w3.setCell ⟨p, 1, none⟩ (.int .i64 ((N : Int) + 1)) = w4 := ⟨_, rfl⟩
    rw [hw4] at HW2 ⊢
    clear hw4
    have HS0 := Lib.hid (show WvI w w4 w.heap.size p A N c ((N : Int) + 1) ((List.range N).map (insF a0 a0)) from by rw [← insF_start]; exact HW2.out)
    go_wp2_with fail
    go_loopw [6] (fun iv wr => ∃ i : Nat, a0 ≤ i ∧ i ≤ N ∧ iv = .int .i64 (i : Int) ∧ Hid (WvI w wr w.heap.size p A N c ((N : Int) + 1) ((List.range N).map (insF a0 i))))
      (fun iv _ => N - (intOf iv).toNat)
    case atStart => exact ⟨_, Nat.le_refl _, by omega, by first | rfl | trivial | go_num, HS0⟩
    case round =>
      obtain ⟨i, hai, hi, rfl, HR⟩ := hrel
      obtain ⟨x0, x1⟩ := HR.out.cur.cells
      by_cases hlt : i < N
      · have hii : (i : Int) < (N : Int) := by omega
        have hi0 : (0 : Int) ≤ (i : Int) := by omega
        have HLN := Lib.hid (show ((List.range N).map (insF a0 i)).length = N from by simp)
        obtain ⟨g, c', hA, _⟩ := HR.out.own.some (by rw [HLN.out]; omega)
        injection hA with hA h2 h3
        subst hA
        clear h2 h3
        have e0 := HR.out.own.intCell i (by rw [HLN.out]; exact hlt)
        rw [mapU_at _ _ _ hlt] at e0
        have hf : insF a0 i i = (i : Int) := by unfold insF; (repeat' split) <;> omega
        rw [hf] at e0
        have f0 := HR.out.own.rwA.melt i
        have HN := Lib.hid (insF_next a0 i N hai)
        clear hf
        go_wp2_with fail
        clear e0 f0 x0 x1
        go_roundw
        case rel => exact ⟨i + 1, by omega, by omega, by go_num, Lib.hid (by rw [← HN.out]; exact HR.out.set i ((i : Int) + 1))⟩
        case measure => simp [intOf]; omega
      · have hii : ¬ (i : Int) < (N : Int) := by omega
        have hin : i = N := by omega
        subst hin
        have HE := Lib.hid (insF_end a0 i)
        obtain ⟨y0, y1⟩ := HR.out.out.cells
        obtain ⟨m0, m1⟩ := HR.out.out.melts
        go_wp2_with fail
        have ho := HR.out.own
        rw [HE.out] at ho
        refine bodyPost_ret (out_mp (HR.out.out.put2 (.slice A i c) ((i : Int) + 1)) _ _ 4 res_rins rfl) rfl ⟨_, rfl, ?_, below_put2 HR.out.aft (Nat.le_refl _) _ _⟩
        exact (ho.keep (fun g h1 _ _ => heap_put2 _ _ _ _ _ (by omega))).mono (by omega)
set_option maxRecDepth 100000 in
set_option maxHeartbeats 8000000 in
theorem rdel_map (w : World) (n a : Int) : Calls Try.prog 18 #[.int .i64 n, .int .i64 a] w fun e w' => RefOut w w' (delO n a).1 (delO n a).2 e := by
  have HB := Lib.hid (below_pr 24 w (.slice none 0 0) 0)
  have HP := Lib.hid (PrAt.new 24 w (.slice none 0 0) 0)
  have hle := cntM_le n
  have hs := fun w => rsame_map w n
  have hO : delO n a = if a < 0 ∨ (cntM n : Int) ≤ a then (sameM (cntM n), (cntM n : Int)) else (delM (cntM n) a, (cntM n : Int) - 1) := rfl
  obtain ⟨N, hN⟩ : ∃ N, cntM n = N := ⟨_, rfl⟩
  simp only [hN] at hs hO hle
  have HS := Lib.hid hs
  clear hN hs
  by_cases hbad : a < 0 ∨ (N : Int) ≤ a
  · rw [if_pos hbad] at hO
    rw [hO]
    clear hO
    go_enter Try.func18, Try.ntmps18
    go_upto_region 1 with (fail)
    obtain ⟨w1, hw1⟩ : ∃ w1, w.alloc (.cells #[.slice none 0 0, .int .i64 0] 24) = w1 := ⟨_, rfl⟩
    rw [hw1] at HB HP ⊢
    clear hw1
    go_upto_region 2 with (go_at_call 14; ((with_reducible refine (HS.out _).mono ?_); rintro e w2 ⟨v, rfl, h1, h2⟩; have H1 := Lib.hid h1; have H2 := Lib.hid h2; obtain ⟨A, c, hv⟩ := own_sl h1; rw [length_sameM] at hv; subst hv; clear h1 h2))
    have HW := Lib.hid (WvI.start (k := (N : Int)) HB.out HP.out H1.out H2.out)
    obtain ⟨p, hp⟩ : ∃ p, w2.heap.size = p := ⟨_, rfl⟩
    rw [hp] at HW ⊢
    obtain ⟨w3, hw3⟩ : ∃ w3, w2.alloc (.cells #[.slice A N c, .int .i64 (N : Int)] 24) = w3 := ⟨_, rfl⟩
    rw [hw3] at HW ⊢
    clear hw3 hp
    obtain ⟨x0, x1⟩ := HW.out.cur.cells
    obtain ⟨y0, y1⟩ := HW.out.out.cells
    obtain ⟨m0, m1⟩ := HW.out.out.melts
    by_cases h0 : a < 0
    · go_wp2_with fail
      refine bodyPost_ret (out_mp (HW.out.out.put2 (.slice A N c) (N : Int)) _ _ 4 res_rdel rfl) rfl ⟨_, rfl, ?_, below_put2 HW.out.aft (Nat.le_refl _) _ _⟩
      exact (HW.out.own.keep (fun g h1 _ _ => heap_put2 _ _ _ _ _ (by omega))).mono (by omega)
    · have h9 : (N : Int) ≤ a := hbad.resolve_left h0
      clear hbad
      go_wp2_with fail
      refine bodyPost_ret (out_mp (HW.out.out.put2 (.slice A N c) (N : Int)) _ _ 4 res_rdel rfl) rfl ⟨_, rfl, ?_, below_put2 HW.out.aft (Nat.le_refl _) _ _⟩
      exact (HW.out.own.keep (fun g h1 _ _ => heap_put2 _ _ _ _ _ (by omega))).mono (by omega)
  · rw [if_neg hbad] at hO
    rw [hO]
    obtain ⟨a0, rfl⟩ : ∃ a0 : Nat, a = (a0 : Int) := ⟨a.toNat, by omega⟩
    have h0 : ¬ (a0 : Int) < 0 := fun e => hbad (.inl e)
    have h9 : ¬ (N : Int) ≤ (a0 : Int) := fun e => hbad (.inr e)
    clear hO hbad
    go_enter Try.func18, Try.ntmps18
    go_upto_region 1 with (fail)
    obtain ⟨w1, hw1⟩ : ∃ w1, w.alloc (.cells #[.slice none 0 0, .int .i64 0] 24) = w1 := ⟨_, rfl⟩
    rw [hw1] at HB HP ⊢
    clear hw1
    go_upto_region 2 with (go_at_call 14; ((with_reducible refine (HS.out _).mono ?_); rintro e w2 ⟨v, rfl, h1, h2⟩; have H1 := Lib.hid h1; have H2 := Lib.hid h2; obtain ⟨A, c, hv⟩ := own_sl h1; rw [length_sameM] at hv; subst hv; clear h1 h2))
    have HW := Lib.hid (WvI.start (k := (N : Int)) HB.out HP.out H1.out H2.out)
    obtain ⟨p, hp⟩ : ∃ p, w2.heap.size = p := ⟨_, rfl⟩
    rw [hp] at HW ⊢
    obtain ⟨w3, hw3⟩ : ∃ w3, w2.alloc (.cells #[.slice A N c, .int .i64 (N : Int)] 24) = w3 := ⟨_, rfl⟩
    rw [hw3] at HW ⊢
    clear hw3 hp
    obtain ⟨x0, x1⟩ := HW.out.cur.cells
    obtain ⟨m0, m1⟩ := HW.out.cur.melts
    go_upto_region 5 with (fail)
    clear x0 x1 m0 m1
    have HW2 := Lib.hid (HW.out.setN ((N : Int) - 1))
    obtain ⟨w4, hw4⟩ : ∃ w4, w3.setCell ⟨p, 1, none⟩ (.int .i64 ((N : Int) - 1)) = w4 := ⟨_, rfl⟩
    rw [hw4] at HW2 ⊢
    clear hw4
    have hlt0 : (a0 : Int) < (N : Int) := by omega
    have ha00 : (0 : Int) ≤ (a0 : Int) := by omega
    obtain ⟨g0, c0, hA0, _⟩ := HW2.out.own.some (by rw [length_sameM]; omega)
    injection hA0 with hA0 h2 h3
    subst hA0
    clear h2 h3
    have e0 := HW2.out.own.intCell a0 (by rw [length_sameM]; omega)
    have f0 := HW2.out.own.rwA.melt a0
    obtain ⟨x0, x1⟩ := HW2.out.cur.cells
    have HS0 := Lib.hid (show WvI w (w4.setCell ⟨g0, a0, none⟩ (.int .i64 (-1))) w.heap.size p (some ⟨g0, 0, none⟩) N c ((N : Int) - 1) ((List.range N).map (delF a0 (a0 + 1))) from by rw [← delF_start]; exact HW2.out.set a0 (-1))
    go_wp2_with fail
    clear e0 f0 x0 x1
    go_loopw [6] (fun iv wr => ∃ i : Nat, a0 < i ∧ i ≤ N ∧ iv = .int .i64 (i : Int) ∧ Hid (WvI w wr w.heap.size p (some ⟨g0, 0, none⟩) N c ((N : Int) - 1) ((List.range N).map (delF a0 i))))
      (fun iv _ => N - (intOf iv).toNat)
    case atStart => exact ⟨_, Nat.le_refl _, by omega, by first | rfl | trivial | go_num, HS0⟩
    case round =>
      obtain ⟨i, hai, hi, rfl, HR⟩ := hrel
      obtain ⟨x0, x1⟩ := HR.out.cur.cells
      by_cases hlt : i < N
      · have hii : (i : Int) < (N : Int) := by omega
        have hi0 : (0 : Int) ≤ (i : Int) := by omega
        have HLN := Lib.hid (show ((List.range N).map (delF a0 i)).length = N from by simp)
        have e0 := HR.out.own.intCell i (by rw [HLN.out]; exact hlt)
        rw [mapU_at _ _ _ hlt] at e0
        have hf : delF a0 i i = (i : Int) := by unfold delF; (repeat' split) <;> omega
        rw [hf] at e0
        have f0 := HR.out.own.rwA.melt i
        have HN := Lib.hid (delF_next a0 i N hai)
        clear hf
        go_wp2_with fail
        clear e0 f0 x0 x1
        go_roundw
        case rel => exact ⟨i + 1, by omega, by omega, by go_num, Lib.hid (by rw [← HN.out]; exact HR.out.set i ((i : Int) - 1))⟩
        case measure => simp [intOf]; omega
      · have hii : ¬ (i : Int) < (N : Int) := by omega
        have hin : i = N := by omega
        subst hin
        have HE := Lib.hid (delF_end a0 i)
        obtain ⟨y0, y1⟩ := HR.out.out.cells
        obtain ⟨m0, m1⟩ := HR.out.out.melts
        go_wp2_with fail
        have ho := HR.out.own
        rw [HE.out] at ho
        refine bodyPost_ret (out_mp (HR.out.out.put2 (.slice (some ⟨g0, 0, none⟩) i c) ((i : Int) - 1)) _ _ 4 res_rdel rfl) rfl ⟨_, rfl, ?_, below_put2 HR.out.aft (Nat.le_refl _) _ _⟩
        exact (ho.keep (fun g h1 _ _ => heap_put2 _ _ _ _ _ (by omega))).mono (by omega)
end Go.Proofs.Ytnnnpjdlhdkeaaa
