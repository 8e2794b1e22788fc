/-
  Layer 11, the program: maps of one place, one map behind another.
-/
import Derived.Test.YtnnnpjdlhdkeaaaMaC
namespace Go.Proofs.Ytnnnpjdlhdkeaaa
open Go.RowKit

def cntM (n : Int) : Nat := (min (max n 0) 1048576).toNat
theorem cntM_le (n : Int) : cntM n ≤ 1048576 := by unfold cntM; omega
theorem cntM_is (n : Int) : (cntM n : Int) = min (max n 0) 1048576 := by unfold cntM; omega
theorem cntM_same (n : Nat) (h : n ≤ 1048576) : cntM (n : Int) = n := by unfold cntM; omega
set_option maxRecDepth 100000 in
theorem counted_any (w : World) (n : Int) : Calls Try.prog 31 #[.int .i64 n] w fun e w' => e = .returned (.int .i64 (cntM n : Int)) ∧ w = w' := by
  have HC := Lib.hid (cntM_is n)
  go_enter Try.func31, Try.ntmps31
  by_cases h1 : n < 0
  · go_wp2_with fail
    go_ret
    exact ⟨ret_int (by have := HC.out; omega), rfl⟩
  · by_cases h2 : (1048576 : Int) < n
    · go_wp2_with fail
      go_ret
      exact ⟨ret_int (by have := HC.out; omega), rfl⟩
    · go_wp2_with fail
      go_ret
      exact ⟨ret_int (by have := HC.out; omega), rfl⟩
/-- A list of what is told of each place, so far. -/
def imgsU (g : Nat → Int) (n i : Nat) : List Int := (List.range n).map fun j => if j < i then g j else 0
theorem imgsU_zero (g : Nat → Int) (n : Nat) : imgsU g n 0 = List.replicate n 0 := by
  unfold imgsU
  apply List.ext_getElem?
  intro j
  rw [List.getElem?_map, List.getElem?_replicate]
  by_cases h : j < n
  · rw [List.getElem?_range h, if_pos h]; rfl
  · rw [List.getElem?_eq_none (by simp; omega), if_neg h]; rfl
theorem imgsU_next (g : Nat → Int) (n i : Nat) : (imgsU g n i).set i (g i) = imgsU g n (i + 1) := by
  unfold imgsU
  apply List.ext_getElem?
  intro j
  rw [List.getElem?_set]
  by_cases hij : i = j
  · subst hij
    rw [if_pos rfl, List.length_map, List.length_range, List.getElem?_map]
    by_cases h : i < n
    · rw [if_pos h, List.getElem?_range h, Option.map_some, if_pos (by omega)]
    · rw [if_neg h, List.getElem?_eq_none (by simp; omega)]; rfl
  · rw [if_neg hij, List.getElem?_map, List.getElem?_map]
    by_cases h : j < n
    · rw [List.getElem?_range h, Option.map_some, Option.map_some]
      congr 1
      by_cases h2 : j < i
      · rw [if_pos h2, if_pos (by omega)]
      · rw [if_neg h2, if_neg (by omega)]
    · rw [List.getElem?_eq_none (by simp; omega)]; rfl
theorem imgsU_end (g : Nat → Int) (n : Nat) : imgsU g n n = (List.range n).map g := by
  unfold imgsU
  apply List.map_congr_left
  intro j hj
  rw [if_pos (List.mem_range.1 hj)]
theorem made_int (w : World) (n : Nat) : RwX (encInt .i64) 3 (w.alloc (.cells (madeCells #[.int .i64 0] n) 3)) w.heap.size (List.replicate n 0) := by
  have h1 := (Go.MapKept.heap_alloc w (.cells (madeCells #[.int .i64 0] n) 3)).1
  have e : madeCells #[.int .i64 0] n = ((encInt .i64).all (List.replicate n 0)).toArray := by
    rw [all_encInt, List.map_replicate]
    apply Array.ext
    · simp [madeCells]
    · intro i h1 h2; simp [madeCells, Nat.mod_one]
  unfold RwX
  rw [h1, e]
theorem RwX.intCell {w : World} {g : Nat} {xs : List Int} (h : RwX (encInt .i64) 3 w g xs) (i : Nat) (hi : i < xs.length) : w.cell? ⟨g, i, none⟩ = some (.int .i64 (xs.getD i 0)) := by
  apply h.rwA.cell
  rw [all_encInt]; exact getElem?_map_int _ xs i hi
theorem RwX.ir {w : World} {g n B : Nat} {xs : List Int} (h : RwX (encInt .i64) 3 w g xs) (hn : xs.length = n) (hm : n ≤ 2000000) (hB : g < B) : IR w B (some ⟨g, 0, none⟩) n n xs := by
  subst hn
  exact h.rwA.se hB (Nat.le_refl _) (by unfold maxLen; omega)
set_option maxRecDepth 100000 in
set_option maxHeartbeats 4000000 in
theorem images_any (w : World) (n : Nat) (hn : n ≤ 1048577) (F : FuncId) (rc : Value) (g : Nat → Int) (henter : ∀ args (v : World), (callFunc F args).run Try.prog v = .ok (.enter F args) v)
    (hcall : ∀ i, i < n → ∀ w1, Below w.heap.size w w1 → Calls Try.prog F #[rc, .int .i64 (i : Int)] w1 fun e w' => e = .returned (.int .i64 (g i)) ∧ Below w1.heap.size w1 w') :
    Calls Try.prog 32 #[.int .i64 (n : Int), .func (.func F) #[rc] #[]] w fun e w' => e = .returned (.slice (some ⟨w.heap.size, 0, none⟩) n n) ∧ RwX (encInt .i64) 3 w' w.heap.size ((List.range n).map g) ∧ Below w.heap.size w w' := by
  have HC := Lib.hid hcall
  clear hcall
  have hmk := fun w => run_mki n (by omega) w
  have HT := Lib.hid (made_int w n)
  have HB0 := Lib.hid ((Below.refl w.heap.size w).alloc (Nat.le_refl _) (.cells (madeCells #[.int .i64 0] n) 3))
  go_enter Try.func32, Try.ntmps32
  go_upto_region 3 with (fail)
  obtain ⟨w1, hw1⟩ : ∃ w1, w.alloc (.cells (madeCells #[.int .i64 0] n) 3) = w1 := ⟨_, rfl⟩
  rw [hw1] at HT HB0 ⊢
  clear hw1 hmk
  obtain ⟨T, hTq⟩ : ∃ T, w.heap.size = T := ⟨_, rfl⟩
  have HTQ := Lib.hid hTq
  rw [hTq] at HT HB0 ⊢
  go_loopw [11] (fun iv wr => ∃ i : Nat, i ≤ n ∧ iv = .int .i64 (i : Int) ∧ Hid (RwX (encInt .i64) 3 wr T (imgsU g n i)) ∧ Hid (Below T w wr))
    (fun iv _ => n - (intOf iv).toNat)
  case atStart => exact ⟨0, Nat.zero_le _, rfl, Lib.hid (by rw [imgsU_zero]; exact HT.out), HB0⟩
  case round =>
    obtain ⟨i, hi, rfl, HA, HB⟩ := hrel
    by_cases hlt : i < n
    · have hii : (i : Int) < (n : Int) := by omega
      have hi0 : (0 : Int) ≤ (i : Int) := by omega
      have HCI := Lib.hid (HC.out i hlt wr (by rw [HTQ.out]; exact HB.out))
      go_wp2_with fail
      refine HCI.out.mono ?_
      rintro e w2 ⟨rfl, h1⟩
      have hTr : T < wr.heap.size := HA.out.lt
      have HA2 := Lib.hid (HA.out.keep (h1.block T hTr))
      have HB2 := Lib.hid (HB.out.trans (h1.mono (Nat.le_of_lt hTr)))
      have f2 := HA2.out.rwA.melt i
      have g2 := HA2.out.intCell i (by unfold imgsU; rw [List.length_map, List.length_range]; exact hlt)
      clear h1
      go_wp2_with fail
      clear f2 g2
      go_roundw
      case rel => exact ⟨i + 1, by omega, by go_num, Lib.hid (by rw [← imgsU_next]; exact HA2.out.set1 i (g i) _ rfl), Lib.hid (HB2.out.setCell (Nat.le_refl T) _)⟩
      case measure => simp [intOf]; omega
    · have hii : ¬ (i : Int) < (n : Int) := by omega
      have hin : i = n := by omega
      subst hin
      go_wp2_with fail
      go_ret
      exact ⟨rfl, by rw [← imgsU_end]; exact HA.out, HB.out⟩
theorem e_opened : ∀ args (v : World), (callFunc 33 args).run Try.prog v = .ok (.enter 33 args) v := Go.Proofs.enters_of Try.func33 (by kernel_rfl) rfl
theorem e_closed : ∀ args (v : World), (callFunc 34 args).run Try.prog v = .ok (.enter 34 args) v := Go.Proofs.enters_of Try.func34 (by kernel_rfl) rfl
theorem e_both : ∀ args (v : World), (callFunc 38 args).run Try.prog v = .ok (.enter 38 args) v := Go.Proofs.enters_of Try.func38 (by kernel_rfl) rfl
theorem opens_any (w : World) (n : Nat) (hn : n ≤ 1048577) (s : Int) : Calls Try.prog 32 #[.int .i64 (n : Int), .func (.func 33) #[.int .i64 s] #[]] w fun e w' => e = .returned (.slice (some ⟨w.heap.size, 0, none⟩) n n) ∧ RwX (encInt .i64) 3 w' w.heap.size (insM n s) ∧ Below w.heap.size w w' :=
  images_any w n hn _ _ (fun i => if (i : Int) < s then (i : Int) else (i : Int) + 1) e_opened (fun i hi w1 _ => opened_any w1 s i (by omega))
theorem closes_any (w : World) (n : Nat) (hn : n ≤ 1048577) (s : Int) : Calls Try.prog 32 #[.int .i64 (n : Int), .func (.func 34) #[.int .i64 s] #[]] w fun e w' => e = .returned (.slice (some ⟨w.heap.size, 0, none⟩) n n) ∧ RwX (encInt .i64) 3 w' w.heap.size (delM n s) ∧ Below w.heap.size w w' :=
  images_any w n hn _ _ (fun i => if (i : Int) < s then (i : Int) else if (i : Int) = s then -1 else (i : Int) - 1) e_closed (fun i hi w1 _ => closed_any w1 s i (by omega))
theorem insM_end (n : Nat) : insM n n = sameM n := by
  unfold insM sameM
  apply List.map_congr_left
  intro j hj
  rw [if_pos (by have := List.mem_range.1 hj; omega)]
/-- What a call that makes a map leaves. -/
def MapOut (w w' : World) (xs : List Int) (n : Nat) (nw : Int) (e : Ending) : Prop := ∃ T, w.heap.size ≤ T ∧ e = .returned (.agg #[.slice (some ⟨T, 0, none⟩) n n, .int .i64 nw]) ∧ RwX (encInt .i64) 3 w' T xs ∧ Below w.heap.size w w'
theorem mp_size : (Try.prog.info? 24).map (·.size) = some 2 := by kernel_rfl
theorem out_mp {w : World} {b : Nat} {A : Option Addr} {n cap : Nat} {nw : Int} (h : PrAt 24 w b (.slice A n cap) nw) (fn : Func) (tmps : Array Value) (s : Tmp) (hf : fn.results = #[.cell s 24]) (hp : tmps.getD s undef = .pointer (some ⟨b, 0, none⟩)) :
    (results fn tmps).run Try.prog w = .ok (.agg #[.slice A n cap, .int .i64 nw]) w :=
  results_cell_row hf tmps w b _ _ _ _ hp h Try.underlying24 rfl mp_size
theorem PrAt.put2 {t : TypeId} {w : World} {b : Nat} {v : Value} {nw : Int} (h : PrAt t w b v nw) (u : Value) (m : Int) : PrAt t ((w.setCell ⟨b, 0, none⟩ u).setCell ⟨b, 1, none⟩ (.int .i64 m)) b u m := (h.put0 u).put1 m
theorem below_put2 {w0 w : World} {b B : Nat} (h : Below B w0 w) (hB : B ≤ b) (u v : Value) : Below B w0 ((w.setCell ⟨b, 0, none⟩ u).setCell ⟨b, 1, none⟩ v) := by
  have h1 : Below B w0 (w.setCell ⟨b, 0, none⟩ u) := h.setCell hB u
  exact h1.setCell hB v
theorem heap_put2 (w : World) (b g : Nat) (u v : Value) (hne : g ≠ b) : ((w.setCell ⟨b, 0, none⟩ u).setCell ⟨b, 1, none⟩ v).heap[g]? = w.heap[g]? :=
  (heap_setCell_other _ ⟨b, 1, none⟩ g v hne).trans (heap_setCell_other w ⟨b, 0, none⟩ g u hne)
theorem res_same : Try.f13.results = #[.cell 2 24] := by kernel_rfl
set_option maxRecDepth 100000 in
set_option maxHeartbeats 1600000 in
theorem same_map (w : World) (n : Int) : Calls Try.prog 13 #[.int .i64 n] w fun e w' => MapOut w w' (sameM (cntM n)) (cntM n) (cntM n : Int) e := by
  have HB := Lib.hid (below_pr 24 w (.slice none 0 0) 0)
  have HP := Lib.hid (PrAt.new 24 w (.slice none 0 0) 0)
  have HC := Lib.hid (fun w => counted_any w n)
  have hle := cntM_le n
  obtain ⟨N, hN⟩ : ∃ N, cntM n = N := ⟨_, rfl⟩
  rw [hN] at hle
  simp only [hN] at HC ⊢
  have HO := Lib.hid (fun w => opens_any w N (by omega) (N : Int))
  simp only [insM_end] at HO
  clear hN
  go_enter Try.func13, Try.ntmps13
  go_upto_region 1 with (fail)
  obtain ⟨w1, hw1⟩ : ∃ w1, w.alloc (.cells #[.slice none 0 0, .int .i64 0] 24) = w1 := ⟨_, rfl⟩
  rw [hw1] at HB HP ⊢
  clear hw1
  go_wp2_with (first
    | (go_at_call 31; ((with_reducible refine (HC.out _).mono ?_); rintro e w2 ⟨rfl, rfl⟩))
    | (go_at_call 32; ((with_reducible refine (HO.out _).mono ?_); rintro e w3 ⟨rfl, h1, h2⟩; have H1 := Lib.hid h1; have H2 := Lib.hid h2; obtain ⟨y0, y1⟩ := (HP.out.over h2).cells; obtain ⟨m0, m1⟩ := (HP.out.over h2).melts; clear h1 h2)))
  have hlt : w.heap.size < w1.heap.size := HP.out.lt
  refine bodyPost_ret (out_mp ((HP.out.over H2.out).put2 (.slice (some ⟨w1.heap.size, 0, none⟩) N N) (N : Int)) _ _ 2 res_same rfl) rfl ⟨w1.heap.size, HB.out.size, rfl, ?_, below_put2 (HB.out.trans (H2.out.mono HB.out.size)) (Nat.le_refl _) _ _⟩
  exact H1.out.keep (heap_put2 _ _ _ _ _ (by omega))
def insO (n at_ : Int) : List Int × Int := if at_ < 0 ∨ (cntM n : Int) < at_ then (sameM (cntM n), (cntM n : Int)) else (insM (cntM n) at_, (cntM n : Int) + 1)
def delO (n at_ : Int) : List Int × Int := if at_ < 0 ∨ (cntM n : Int) ≤ at_ then (sameM (cntM n), (cntM n : Int)) else (delM (cntM n) at_, (cntM n : Int) - 1)
theorem res_ins : Try.f15.results = #[.cell 4 24] := by kernel_rfl
theorem res_del : Try.f17.results = #[.cell 4 24] := by kernel_rfl
set_option maxRecDepth 100000 in
set_option maxHeartbeats 1600000 in
theorem ins_map (w : World) (n a : Int) : Calls Try.prog 15 #[.int .i64 n, .int .i64 a] w fun e w' => MapOut w w' (insO n a).1 (cntM n) (insO n a).2 e := by
  have HB := Lib.hid (below_pr 24 w (.slice none 0 0) 0)
  have HP := Lib.hid (PrAt.new 24 w (.slice none 0 0) 0)
  have HC := Lib.hid (fun w => counted_any w n)
  have hle := cntM_le n
  have hO : insO n a = if a < 0 ∨ (cntM n : Int) < a then (sameM (cntM n), (cntM n : Int)) else (insM (cntM n) a, (cntM n : Int) + 1) := rfl
  obtain ⟨N, hN⟩ : ∃ N, cntM n = N := ⟨_, rfl⟩
  rw [hN] at hle hO
  simp only [hN] at HC ⊢
  have HO := Lib.hid (fun w => opens_any w N (by omega) a)
  have hs := fun w => same_map w (N : Int)
  rw [cntM_same N hle] at hs
  have HS := Lib.hid hs
  clear hN hs
  by_cases hbad : a < 0 ∨ (N : Int) < a
  · rw [if_pos hbad] at hO
    rw [hO]
    clear hO
    go_enter Try.func15, Try.ntmps15
    go_upto_region 1 with (fail)
    obtain ⟨w1, hw1⟩ : ∃ w1, w.alloc (.cells #[.slice none 0 0, .int .i64 0] 24) = w1 := ⟨_, rfl⟩
    rw [hw1] at HB HP ⊢
    clear hw1
    by_cases h0 : a < 0
    · go_wp2_with (first
        | (go_at_call 31; ((with_reducible refine (HC.out _).mono ?_); rintro e w2 ⟨rfl, rfl⟩))
        | (go_at_call 13; ((with_reducible refine (HS.out _).mono ?_); rintro e w3 ⟨T, hT, rfl, h1, h2⟩; have HT := Lib.hid hT; have H1 := Lib.hid h1; have H2 := Lib.hid h2; obtain ⟨y0, y1⟩ := (HP.out.over h2).cells; obtain ⟨m0, m1⟩ := (HP.out.over h2).melts; clear h1 h2 hT)))
      have hlt : w.heap.size < w1.heap.size := HP.out.lt
      have hT := HT.out
      refine bodyPost_ret (out_mp ((HP.out.over H2.out).put2 (.slice (some ⟨T, 0, none⟩) N N) (N : Int)) _ _ 4 res_ins rfl) rfl ⟨T, by omega, rfl, ?_, below_put2 (HB.out.trans (H2.out.mono HB.out.size)) (Nat.le_refl _) _ _⟩
      exact H1.out.keep (heap_put2 _ _ _ _ _ (by omega))
    · have h9 : (N : Int) < a := hbad.resolve_left h0
      clear hbad
      go_wp2_with (first
        | (go_at_call 31; ((with_reducible refine (HC.out _).mono ?_); rintro e w2 ⟨rfl, rfl⟩))
        | (go_at_call 13; ((with_reducible refine (HS.out _).mono ?_); rintro e w3 ⟨T, hT, rfl, h1, h2⟩; have HT := Lib.hid hT; have H1 := Lib.hid h1; have H2 := Lib.hid h2; obtain ⟨y0, y1⟩ := (HP.out.over h2).cells; obtain ⟨m0, m1⟩ := (HP.out.over h2).melts; clear h1 h2 hT)))
      have hlt : w.heap.size < w1.heap.size := HP.out.lt
      have hT := HT.out
      refine bodyPost_ret (out_mp ((HP.out.over H2.out).put2 (.slice (some ⟨T, 0, none⟩) N N) (N : Int)) _ _ 4 res_ins rfl) rfl ⟨T, by omega, rfl, ?_, below_put2 (HB.out.trans (H2.out.mono HB.out.size)) (Nat.le_refl _) _ _⟩
      exact H1.out.keep (heap_put2 _ _ _ _ _ (by omega))
  · rw [if_neg hbad] at hO
    rw [hO]
    have h0 : ¬ a < 0 := fun e => hbad (.inl e)
    have h9 : ¬ (N : Int) < a := fun e => hbad (.inr e)
    clear hO hbad
    go_enter Try.func15, Try.ntmps15
    go_upto_region 1 with (fail)
    obtain ⟨w1, hw1⟩ : ∃ w1, w.alloc (.cells #[.slice none 0 0, .int .i64 0] 24) = w1 := ⟨_, rfl⟩
    rw [hw1] at HB HP ⊢
    clear hw1
    go_wp2_with (first
      | (go_at_call 31; ((with_reducible refine (HC.out _).mono ?_); rintro e w2 ⟨rfl, rfl⟩))
      | (go_at_call 32; ((with_reducible refine (HO.out _).mono ?_); rintro e w3 ⟨rfl, h1, h2⟩; have H1 := Lib.hid h1; have H2 := Lib.hid h2; obtain ⟨y0, y1⟩ := (HP.out.over h2).cells; obtain ⟨m0, m1⟩ := (HP.out.over h2).melts; clear h1 h2)))
    have hlt : w.heap.size < w1.heap.size := HP.out.lt
    refine bodyPost_ret (out_mp ((HP.out.over H2.out).put2 (.slice (some ⟨w1.heap.size, 0, none⟩) N N) ((N : Int) + 1)) _ _ 4 res_ins rfl) rfl ⟨w1.heap.size, HB.out.size, rfl, ?_, below_put2 (HB.out.trans (H2.out.mono HB.out.size)) (Nat.le_refl _) _ _⟩
    exact H1.out.keep (heap_put2 _ _ _ _ _ (by omega))
set_option maxRecDepth 100000 in
set_option maxHeartbeats 1600000 in
theorem del_map (w : World) (n a : Int) : Calls Try.prog 17 #[.int .i64 n, .int .i64 a] w fun e w' => MapOut w w' (delO n a).1 (cntM n) (delO n a).2 e := by
  have HB := Lib.hid (below_pr 24 w (.slice none 0 0) 0)
  have HP := Lib.hid (PrAt.new 24 w (.slice none 0 0) 0)
  have HC := Lib.hid (fun w => counted_any w n)
  have hle := cntM_le n
  have hO : delO n a = if a < 0 ∨ (cntM n : Int) ≤ a then (sameM (cntM n), (cntM n : Int)) else (delM (cntM n) a, (cntM n : Int) - 1) := rfl
  obtain ⟨N, hN⟩ : ∃ N, cntM n = N := ⟨_, rfl⟩
  rw [hN] at hle hO
  simp only [hN] at HC ⊢
  have HO := Lib.hid (fun w => closes_any w N (by omega) a)
  have hs := fun w => same_map w (N : Int)
  rw [cntM_same N hle] at hs
  have HS := Lib.hid hs
  clear hN hs
  by_cases hbad : a < 0 ∨ (N : Int) ≤ a
  · rw [if_pos hbad] at hO
    rw [hO]
    clear hO
    go_enter Try.func17, Try.ntmps17
    go_upto_region 1 with (fail)
    obtain ⟨w1, hw1⟩ : ∃ w1, w.alloc (.cells #[.slice none 0 0, .int .i64 0] 24) = w1 := ⟨_, rfl⟩
    rw [hw1] at HB HP ⊢
    clear hw1
    by_cases h0 : a < 0
    · go_wp2_with (first
        | (go_at_call 31; ((with_reducible refine (HC.out _).mono ?_); rintro e w2 ⟨rfl, rfl⟩))
        | (go_at_call 13; ((with_reducible refine (HS.out _).mono ?_); rintro e w3 ⟨T, hT, rfl, h1, h2⟩; have HT := Lib.hid hT; have H1 := Lib.hid h1; have H2 := Lib.hid h2; obtain ⟨y0, y1⟩ := (HP.out.over h2).cells; obtain ⟨m0, m1⟩ := (HP.out.over h2).melts; clear h1 h2 hT)))
      have hlt : w.heap.size < w1.heap.size := HP.out.lt
      have hT := HT.out
      refine bodyPost_ret (out_mp ((HP.out.over H2.out).put2 (.slice (some ⟨T, 0, none⟩) N N) (N : Int)) _ _ 4 res_del rfl) rfl ⟨T, by omega, rfl, ?_, below_put2 (HB.out.trans (H2.out.mono HB.out.size)) (Nat.le_refl _) _ _⟩
      exact H1.out.keep (heap_put2 _ _ _ _ _ (by omega))
    · have h9 : (N : Int) ≤ a := hbad.resolve_left h0
      clear hbad
      go_wp2_with (first
        | (go_at_call 31; ((with_reducible refine (HC.out _).mono ?_); rintro e w2 ⟨rfl, rfl⟩))
        | (go_at_call 13; ((with_reducible refine (HS.out _).mono ?_); rintro e w3 ⟨T, hT, rfl, h1, h2⟩; have HT := Lib.hid hT; have H1 := Lib.hid h1; have H2 := Lib.hid h2; obtain ⟨y0, y1⟩ := (HP.out.over h2).cells; obtain ⟨m0, m1⟩ := (HP.out.over h2).melts; clear h1 h2 hT)))
      have hlt : w.heap.size < w1.heap.size := HP.out.lt
      have hT := HT.out
      refine bodyPost_ret (out_mp ((HP.out.over H2.out).put2 (.slice (some ⟨T, 0, none⟩) N N) (N : Int)) _ _ 4 res_del rfl) rfl ⟨T, by omega, rfl, ?_, below_put2 (HB.out.trans (H2.out.mono HB.out.size)) (Nat.le_refl _) _ _⟩
      exact H1.out.keep (heap_put2 _ _ _ _ _ (by omega))
  · rw [if_neg hbad] at hO
    rw [hO]
    have h0 : ¬ a < 0 := fun e => hbad (.inl e)
    have h9 : ¬ (N : Int) ≤ a := fun e => hbad (.inr e)
    clear hO hbad
    go_enter Try.func17, Try.ntmps17
    go_upto_region 1 with (fail)
    obtain ⟨w1, hw1⟩ : ∃ w1, w.alloc (.cells #[.slice none 0 0, .int .i64 0] 24) = w1 := ⟨_, rfl⟩
    rw [hw1] at HB HP ⊢
    clear hw1
    go_wp2_with (first
      | (go_at_call 31; ((with_reducible refine (HC.out _).mono ?_); rintro e w2 ⟨rfl, rfl⟩))
      | (go_at_call 32; ((with_reducible refine (HO.out _).mono ?_); rintro e w3 ⟨rfl, h1, h2⟩; have H1 := Lib.hid h1; have H2 := Lib.hid h2; obtain ⟨y0, y1⟩ := (HP.out.over h2).cells; obtain ⟨m0, m1⟩ := (HP.out.over h2).melts; clear h1 h2)))
    have hlt : w.heap.size < w1.heap.size := HP.out.lt
    refine bodyPost_ret (out_mp ((HP.out.over H2.out).put2 (.slice (some ⟨w1.heap.size, 0, none⟩) N N) ((N : Int) - 1)) _ _ 4 res_del rfl) rfl ⟨w1.heap.size, HB.out.size, rfl, ?_, below_put2 (HB.out.trans (H2.out.mono HB.out.size)) (Nat.le_refl _) _ _⟩
    exact H1.out.keep (heap_put2 _ _ _ _ _ (by omega))
end Go.Proofs.Ytnnnpjdlhdkeaaa
