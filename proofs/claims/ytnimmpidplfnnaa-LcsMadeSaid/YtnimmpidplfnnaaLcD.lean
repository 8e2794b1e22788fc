/-
  Layer 15, the program: the table of two rows of texts.
-/
import Derived.Test.YtnimmpidplfnnaaLcC
namespace Go.Proofs.Ytnimmpidplfnnaa
open Go.RowKit

/-- What is gone through: nothing, where one has too many. -/
def cutL (a b : List ByteArray) : List ByteArray × List ByteArray := if 200 < a.length ∨ 200 < b.length then ([], []) else (a, b)
theorem cutL_le (a b : List ByteArray) : (cutL a b).1.length ≤ 200 ∧ (cutL a b).2.length ≤ 200 := by
  unfold cutL; split
  · exact ⟨Nat.zero_le _, Nat.zero_le _⟩
  · exact ⟨by show a.length ≤ 200; omega, by show b.length ≤ 200; omega⟩
/-- The table of two rows of texts, as it lies, from block B on. -/
structure LcT (w : World) (B tb : Nat) (a b : List ByteArray) : Prop where
  ex : ∃ (ga gb bl : Nat) (r : Nat → Nat) (na nb : List Int), TblAt w tb ga gb bl a.length b.length ∧ TbN w bl r a.length b.length (fun x y => (lcsAt a b x y : Int)) ∧ RowN w ga na ∧ RowN w gb nb ∧ (∀ (i j : Nat) (x y : ByteArray), a[i]? = some x → b[j]? = some y → ∃ u v, na[i]? = some u ∧ nb[j]? = some v ∧ (u = v ↔ x = y)) ∧ B ≤ tb ∧ tb ≠ bl ∧ (∀ i, i < a.length + 1 → r i ≠ tb)
theorem run_mkr (n : Nat) (hn : n ≤ 2000000) (w : World) : (Instr.makeSlice 43 (.int .i64 (n : Int)) (.int .i64 (n : Int))).run Try.prog w = .ok (.slice (some ⟨w.heap.size, 0, none⟩) n n) (w.alloc (.cells (madeCells #[.slice none 0 0] n) 25)) := by
  exact run_make_row' 43 25 (.slice none 0 0) 24 Try.underlying43 (by kernel_rfl) rfl .i64 .i64 n (by omega) (by omega) w
theorem TbP.start {tr te : TypeId} (w : World) (r : Nat → Nat) (N M : Nat) (g : Nat → Nat → Int) : TbP tr te (w.alloc (.cells (madeCells #[.slice none 0 0] N) tr)) w.heap.size r N M (fun x => decide (x < 0)) g := by
  refine ⟨?_, fun i _ h => by simp at h, fun i _ h => by simp at h, fun i j _ _ h => by simp at h⟩
  rw [(Go.MapKept.heap_alloc w _).1, rowA_made]
  congr 2
theorem nums_same {D a b : List ByteArray} (ha : ∀ x ∈ a, x ∈ D) (hb : ∀ x ∈ b, x ∈ D) : ∀ (i j : Nat) (x y : ByteArray), a[i]? = some x → b[j]? = some y → ∃ u v, (nums D a)[i]? = some u ∧ (nums D b)[j]? = some v ∧ (u = v ↔ x = y) := fun i j x y hx hy =>
  ⟨_, _, nums_at hx, nums_at hy, fun e => dix_inj (ha x (List.mem_of_getElem? hx)) (hb y (List.mem_of_getElem? hy)) (by exact Int.ofNat_inj.1 e), fun e => by rw [e]⟩
theorem nums_inj {D a b : List ByteArray} (ha : ∀ x ∈ a, x ∈ D) (hb : ∀ x ∈ b, x ∈ D) : ∀ x ∈ a, ∀ y ∈ b, (fun t => (dix D t : Int)) x = (fun t => (dix D t : Int)) y → x = y := fun x hx y hy e => dix_inj (ha x hx) (hb y hy) (by exact Int.ofNat_inj.1 e)
/-- The first row's numbers are those of all. -/
theorem nums_more (d a b : List ByteArray) (ha : ∀ x ∈ a, x ∈ d) : nums d a = nums (dAll d b) a := by
  unfold nums
  refine List.map_congr_left fun t ht => ?_
  rw [dix_all (ha t ht)]
set_option maxRecDepth 100000 in
set_option maxHeartbeats 8000000 in
theorem tableOf_any (w : World) (A B : Option Addr) (n cap m capb : Nat) (a b : List ByteArray) (hA : SE encStr w w.heap.size (.slice A n cap) a) (hB : SE encStr w w.heap.size (.slice B m capb) b) (hza : ∀ x ∈ a, x.size ≤ maxLen) (hzb : ∀ x ∈ b, x.size ≤ maxLen) :
    Calls Try.prog 16 #[.slice A n cap, .slice B m capb] w fun e w' => ∃ tb, e = .returned (.pointer (some ⟨tb, 0, none⟩)) ∧ LcT w' w.heap.size tb (cutL a b).1 (cutL a b).2 ∧ Below w.heap.size w w' := by
  have hmm := @run_makeMap Try.prog
  have hla := hA.len.1
  have hlb := hB.len.1
  by_cases hn : n ≤ 200
  · by_cases hm : m ≤ 200
    · have in1 : ¬ (200 : Int) < (n : Int) := by omega
      have in2 : ¬ (200 : Int) < (m : Int) := by omega
      have HC := Lib.hid (show cutL a b = (a, b) from if_neg (by omega))
      have HSA := Lib.hid hA; have HSB := Lib.hid hB; have HZA := Lib.hid hza; have HZB := Lib.hid hzb
      clear hA hB hza hzb
      go_enter Try.func16, Try.ntmps16
      go_upto_region 3 with (fail)
      clear in1 in2
      have hmk1 := run_mkr (n + 1) (by omega)
      rw [Int.natCast_add, Int.natCast_one] at hmk1
      have hmk2 := run_mkn (m + 1) (by omega)
      rw [Int.natCast_add, Int.natCast_one] at hmk2
      have wn : IntKind.i64.wrap ((n : Int) + 1) = (n : Int) + 1 := by rw [IntKind.wrap_i64]; omega
      have wm : IntKind.i64.wrap ((m : Int) + 1) = (m : Int) + 1 := by rw [IntKind.wrap_i64]; omega
      go_upto_region 4 with (fail)
      obtain ⟨w1, hw1⟩ : ∃ w1, w.alloc (.map #[] 0) = w1 := ⟨_, rfl⟩
      have HM1 := Lib.hid (show FnMap w1 w.heap.size (dEs []) from by rw [← hw1]; exact FnMap.made w)
      have HB1 := Lib.hid (show Below w.heap.size w w1 from by rw [← hw1]; exact (Below.refl _ _).alloc (Nat.le_refl _) _)
      have hs1 : w1.heap.size = w.heap.size + 1 := by rw [← hw1]; simp
      obtain ⟨mb, hmb⟩ : ∃ mb, w.heap.size = mb := ⟨_, rfl⟩
      rw [hw1]
      clear hw1
      rw [hmb] at hs1 HM1 ⊢
      have nA : ∀ pb po, A = some ⟨pb, po, none⟩ → 0 < n → pb ≠ mb := fun pb po e h => by
        obtain ⟨x, hx⟩ : ∃ x, a[0]? = some x := ⟨_, List.getElem?_eq_getElem (by omega)⟩
        obtain ⟨pb2, po2, e2, h2, _⟩ := HSA.out.at hx
        rw [e] at e2; injection e2 with e2; injection e2 with e2 e3; omega
      have nB : ∀ pb po, B = some ⟨pb, po, none⟩ → 0 < m → pb ≠ mb := fun pb po e h => by
        obtain ⟨x, hx⟩ : ∃ x, b[0]? = some x := ⟨_, List.getElem?_eq_getElem (by omega)⟩
        obtain ⟨pb2, po2, e2, h2, _⟩ := HSB.out.at hx
        rw [e] at e2; injection e2 with e2; injection e2 with e2 e3; omega
      have HE1 := Lib.hid (each_any w1 mb A n cap a [] (HSA.out.lift HB1.out) HM1.out List.nodup_nil (fun x hx => by simp at hx) HZA.out (by omega) nA)
      rw [hs1] at HE1
      have HE2 := Lib.hid (fun (w2 : World) (h0 : w1.heap.size ≤ w2.heap.size) (hm : FnMap w2 mb (dEs (dAll [] a))) (hg : w1.grownBy w2 (some mb)) => each_any w2 mb B m capb b (dAll [] a) (by
          have h := HSB.out.below HB1.out (Nat.le_refl _)
          obtain ⟨A', cap', e1, e2, e3, e4⟩ := h
          refine ⟨A', cap', e1, e2, e3, e4.imp id ?_⟩
          rintro ⟨pb, po, e5, e6, e7⟩
          refine ⟨pb, po, e5, by omega, fun j x hj => ?_⟩
          rw [cell_other hg (by show pb < w1.heap.size; omega) (fun e => by have e : pb = mb := Option.some.inj e; omega)]; exact e7 j x hj) hm (dAll_nodup _ List.nodup_nil) (fun x hx => HZA.out x ((dAll_in _ hx).resolve_left (by simp))) HZB.out (by omega) nB)
      go_upto_region 5 with (first
        | (go_at_call_of 20 (Value.slice A n cap); ((with_reducible refine HE1.out.mono ?_); rintro e w2 ⟨rfl, h1, h2, h3⟩; have HR2 := Lib.hid h1; have HM2 := Lib.hid h2; have HG2 := Lib.hid h3; have hs2 : mb + 2 ≤ w2.heap.size := (by have := h1.lt; omega); have HE3 := Lib.hid (HE2.out w2 (by omega) h2 h3); clear h1 h2 h3))
        | (go_at_call 20; ((with_reducible refine HE3.out.mono ?_); rintro e w3 ⟨rfl, h1, h2, h3⟩; have HR3 := Lib.hid h1; have HG3 := Lib.hid h3; clear h1 h2 h3)))
      obtain ⟨tb, htb⟩ : ∃ tb, w3.heap.size = tb := ⟨_, rfl⟩
      obtain ⟨gb, hgb⟩ : ∃ gb, w2.heap.size = gb := ⟨_, rfl⟩
      have hlt3 : gb < tb := by have := HR3.out.lt; omega
      have HT4 := Lib.hid (Go.MapKept.heap_alloc w3 (.cells #[.slice (some ⟨mb + 1, 0, none⟩) n n, .slice (some ⟨w2.heap.size, 0, none⟩) m m, .slice none 0 0] 46)).1
      have HB4 := Lib.hid (show Below w3.heap.size w3 (w3.alloc (.cells #[.slice (some ⟨mb + 1, 0, none⟩) n n, .slice (some ⟨w2.heap.size, 0, none⟩) m m, .slice none 0 0] 46)) from (Below.refl _ _).alloc (Nat.le_refl _) _)
      have hs4 : (w3.alloc (.cells #[.slice (some ⟨mb + 1, 0, none⟩) n n, .slice (some ⟨w2.heap.size, 0, none⟩) m m, .slice none 0 0] 46)).heap.size = tb + 1 := by simp [htb]
      obtain ⟨w4, hw4⟩ : ∃ w4, w3.alloc (.cells #[.slice (some ⟨mb + 1, 0, none⟩) n n, .slice (some ⟨w2.heap.size, 0, none⟩) m m, .slice none 0 0] 46) = w4 := ⟨_, rfl⟩
      rw [hw4] at HT4 HB4 hs4 ⊢
      clear hw4
      have hT4' := HT4.out
      rw [htb] at hT4'
      have hRow := (Below.heap_alloc w4 (.cells (madeCells #[.slice none 0 0] (n + 1)) 25) tb (by omega)).trans hT4'
      have x2 := cell_of_row _ tb 2 _ _ _ hRow
      have m2 := frozen_of_row _ tb 2 _ _ hRow
      have HRow := Lib.hid hRow
      clear hRow hT4'
      rw [htb, hgb]
      go_upto_region 6 with (fail)
      have HS5 := Lib.hid (TbP.start (tr := 25) (te := 3) (w4.setCell ⟨tb, 2, none⟩ (.slice (some ⟨tb + 1, 0, none⟩) (n + 1) (n + 1))) (fun _ => 0) (n + 1) (m + 1) (fun _ _ => 0))
      have HT5 := Lib.hid (show TblAt ((w4.setCell ⟨tb, 2, none⟩ (.slice (some ⟨tb + 1, 0, none⟩) (n + 1) (n + 1))).alloc (.cells (madeCells #[.slice none 0 0] (n + 1)) 25)) tb (mb + 1) gb (tb + 1) n m from by
        have h := HT4.out
        rw [htb] at h
        unfold TblAt TblA
        rw [Below.heap_alloc _ _ tb (by simp; omega), heap_setCell_same w4 tb 2 _ _ _ h, hgb]; rfl)
      have HB5 := Lib.hid (show Below w3.heap.size w3 ((w4.setCell ⟨tb, 2, none⟩ (.slice (some ⟨tb + 1, 0, none⟩) (n + 1) (n + 1))).alloc (.cells (madeCells #[.slice none 0 0] (n + 1)) 25)) from (HB4.out.setCell (by show w3.heap.size ≤ tb; omega) _).alloc (by simp; omega) _)
      have hs5 : ((w4.setCell ⟨tb, 2, none⟩ (.slice (some ⟨tb + 1, 0, none⟩) (n + 1) (n + 1))).alloc (.cells (madeCells #[.slice none 0 0] (n + 1)) 25)).heap.size = tb + 2 := by simp [hs4]
      have hs5b : (w4.setCell ⟨tb, 2, none⟩ (.slice (some ⟨tb + 1, 0, none⟩) (n + 1) (n + 1))).heap.size = tb + 1 := by simp [hs4]
      rw [hs5b] at HS5
      obtain ⟨w5, hw5⟩ : ∃ w5, (w4.setCell ⟨tb, 2, none⟩ (.slice (some ⟨tb + 1, 0, none⟩) (n + 1) (n + 1))).alloc (.cells (madeCells #[.slice none 0 0] (n + 1)) 25) = w5 := ⟨_, rfl⟩
      rw [hw5] at HS5 HT5 HB5 hs5 ⊢
      clear hw5 x2 m2 hs5b
      have hg23 := Below.grown (Below.refl mb w2) HG3.out (by omega) (fun k e => by cases e; exact Nat.le_refl _)
      have HBB := Lib.hid (show Below mb w w5 from (((hmb ▸ HB1.out : Below mb w w1).trans (Below.grown (Below.refl mb w1) HG2.out (by omega) (fun k e => by cases e; exact Nat.le_refl _))).trans hg23).trans (HB5.out.mono (by omega)))
      have HRA := Lib.hid (show RowN w5 (mb + 1) (nums (dAll [] a) a) from (HR2.out.keep (HG3.out.block _ HR2.out.lt (fun e => by have e : mb + 1 = mb := Option.some.inj e; omega))).keep (HB5.out.block _ (by omega)))
      have HRB := Lib.hid (show RowN w5 gb (nums (dAll (dAll [] a) b) b) from (by have h := HR3.out; rw [hgb] at h; exact h.keep (HB5.out.block _ (by omega))))
      clear hg23
      obtain ⟨x0, x1, x2⟩ := HT5.out.cells
      go_upto_region 7 with (fail)
      go_loopw [39] (fun iv wr => ∃ (i : Nat) (r : Nat → Nat), i ≤ n + 1 ∧ iv = .int .i64 (i : Int) ∧ Hid (TbP 25 3 wr (tb + 1) r (n + 1) (m + 1) (fun x => decide (x < i)) (fun _ _ => 0)) ∧ Hid (∀ x, x < i → tb + 1 < r x) ∧ Hid (KpR (fun k => k = tb + 1) w5 wr))
        (fun iv _ => n + 1 - (intOf iv).toNat)
      case atStart => exact ⟨0, _, Nat.zero_le _, rfl, HS5, Lib.hid (fun x hx => by omega), Lib.hid (KpR.refl _ _)⟩
      case round =>
        obtain ⟨i, r, hi, rfl, HP, HL, HK⟩ := hrel
        have hk5 := HK.out.size
        have HTr := Lib.hid (show TblAt wr tb (mb + 1) gb (tb + 1) n m from (HK.out.block tb (by omega) (by omega)).trans HT5.out)
        obtain ⟨y0, y1, y2⟩ := HTr.out.cells
        by_cases hlt : i < n + 1
        · have hii : (i : Int) < (n : Int) + 1 := by omega
          have hi0 : (0 : Int) ≤ (i : Int) := by omega
          have hSA : ∀ o : Obj, (wr.alloc o).cell? ⟨tb, 2, none⟩ = some (.slice (some ⟨tb + 1, 0, none⟩) (n + 1) (n + 1)) := fun o => (((Below.refl wr.heap.size wr).alloc (Nat.le_refl _) o).cell (p := ⟨tb, 2, none⟩) (by show tb < wr.heap.size; omega)).trans y2
          have HSF := Lib.hid (show (wr.alloc (.cells (madeCells #[.int .i64 0] (m + 1)) 3)).frozen? ⟨tb + 1, i, none⟩ = false ∧ ∃ u, (wr.alloc (.cells (madeCells #[.int .i64 0] (m + 1)) 3)).cell? ⟨tb + 1, i, none⟩ = some u from by
            have h := (Below.heap_alloc wr (.cells (madeCells #[.int .i64 0] (m + 1)) 3) (tb + 1) (by omega)).trans HP.out.head
            exact ⟨frozen_of_row _ _ i _ _ h, _, (cell_of_row _ _ i _ _ _ h).trans (rowA_at _ _ _ hlt)⟩)
          go_upto_region 9 with (fail)
          refine wp_region_held_drew (S := (fun X => X.cell? ⟨tb, 2, none⟩ = some (.slice (some ⟨tb + 1, 0, none⟩) (n + 1) (n + 1)))) (by kernel_rfl) y2 (fun _ => ?_)
          show wpAnyH _ _ _ _ _ 11 #[false, false, false, false, false, false, false, false, false, false, false] _ _
          refine hV 0 y2 ?_
          refine hV 1 y2 ?_
          refine hV 2 y2 ?_
          refine hV 3 y2 ?_
          refine hV 4 y2 ?_
          refine hV 5 y2 ?_
          refine hV 6 y2 ?_
          refine hV 7 y2 ?_
          refine hO 8 (fun K hK => ?_)
          go_simp
          refine hK.out _ _ (hSA _) ?_
          clear hK K
          simp only [Act.put, sT, sZ, sS]
          refine hV 9 (hSA _) ?_
          obtain ⟨f0, u0, c0⟩ := HSF.out
          refine hO 10 (fun K hK => ?_)
          go_simp
          have hrb := HP.out.lt
          have hput := HP.out.put hlt (fun j _ => rfl)
          have hKS : KpR (fun k => k = tb + 1) w5 ((wr.alloc (.cells (madeCells #[.int .i64 0] (m + 1)) 3)).setCell ⟨tb + 1, i, none⟩ (.slice (some ⟨wr.heap.size, 0, none⟩) (m + 1) (m + 1))).drew := ((HK.out.alloc _).setCell _ _ _ (.inl rfl)).drew
          rw [World.setCell_alloc_past _ _ _ _ hrb] at hput hKS
          have HPU := Lib.hid (TbP.drew (hput.congr (p' := fun x => decide (x < i + 1)) (g' := fun _ _ => 0) (fun x _ => by
            by_cases e : x = i
            · subst e; simp
            · rw [if_neg e]; exact decide_eq_decide.2 (by omega)) (fun _ _ _ _ => rfl)))
          have HKS := Lib.hid hKS
          clear hput hKS f0 c0
          refine hK.out undef _ (by rw [World.setCell_alloc_past _ _ _ _ hrb]; exact (World.cell?_of_block (a := ⟨tb, 2, none⟩) (HKS.out.block tb (by omega) (by omega))).trans x2) ?_
          clear hK K
          refine wpAnyH_done (by kernel_rfl) ?_ _
          go_wp2_with fail
          go_roundw
          case rel => exact ⟨i + 1, _, by omega, by go_num, HPU, Lib.hid (fun x hx => by
            by_cases e : x = i
            · rw [if_pos e]; omega
            · rw [if_neg e]; exact HL.out x (by omega)), HKS⟩
          case measure => simp [intOf]; omega
        · have hii : ¬ (i : Int) < (n : Int) + 1 := by omega
          obtain rfl : i = n + 1 := by omega
          have HN := Lib.hid (HP.out.congr (p' := fun _ => true) (g' := fun _ _ => 0) (fun x hx => decide_eq_true hx) (fun _ _ _ _ => rfl))
          have hnR : ∀ k, k ≤ tb + 1 → ¬ RowsB r n k := fun k hk ⟨x, hx, e⟩ => by have := HL.out x hx; omega
          have HF := Lib.hid (fill_any wr tb (tb + 1) (mb + 1) gb n m (nums (dAll [] a) a) (nums (dAll (dAll [] a) b) b) r HTr.out (HRA.out.keep (HK.out.block _ (by omega) (by omega))) (HRB.out.keep (HK.out.block _ (by omega) (by omega))) (by rw [nums_len]; exact hla) (by rw [nums_len]; exact hlb) hn hm HN.out (hnR _ (by omega)) (hnR _ (by omega)))
          clear y0 y1 y2
          go_wp2_with (go_at_call 22; ((with_reducible refine HF.out.mono ?_); rintro e w7 ⟨⟨v, rfl⟩, h1, h2⟩; have HT7 := Lib.hid h1; have HK7 := Lib.hid h2; clear h1 h2))
          go_ret
          have hge : ∀ k, RowsB r n k → tb + 1 < k := fun k ⟨x, hx, e⟩ => by rw [e]; exact HL.out x hx
          have hB7 : Below mb w w7 := (HBB.out.trans (HK.out.below (fun k e => by omega) (by omega))).trans (HK7.out.below (fun k e => by have := hge k e; omega) (by omega))
          have hall : ∀ x ∈ a, x ∈ dAll [] a := fun x hx => dAll_mem _ (.inr hx)
          have hal2 : ∀ x ∈ a, x ∈ dAll (dAll [] a) b := fun x hx => dAll_mem _ (.inl (hall x hx))
          have hbl2 : ∀ x ∈ b, x ∈ dAll (dAll [] a) b := fun x hx => dAll_mem _ (.inr hx)
          refine ⟨tb, rfl, ?_, by rw [hmb]; exact hB7⟩
          rw [HC.out]
          refine ⟨mb + 1, gb, tb + 1, r, nums (dAll [] a) a, nums (dAll (dAll [] a) b) b, ?_, ?_, ?_, ?_, ?_, by omega, by omega, fun x hx => ?_⟩
          · show TblAt w7 tb (mb + 1) gb (tb + 1) a.length b.length
            rw [hla, hlb]; exact (HK7.out.block tb (by omega) (hnR _ (by omega))).trans HTr.out
          · show TbN w7 (tb + 1) r a.length b.length _
            rw [hla, hlb]
            refine HT7.out.congr (fun _ _ => rfl) (fun x y _ _ => ?_)
            rw [nums_more (dAll [] a) a b hall]
            have h := lcsAt_map (fun t : ByteArray => (dix (dAll (dAll [] a) b) t : Int)) a b (nums_inj hal2 hbl2) x y
            exact congrArg Int.ofNat h
          · exact (HRA.out.keep (HK.out.block _ (by omega) (by omega))).keep (HK7.out.block _ (by omega) (hnR _ (by omega)))
          · exact (HRB.out.keep (HK.out.block _ (by omega) (by omega))).keep (HK7.out.block _ (by omega) (hnR _ (by omega)))
          · rw [nums_more (dAll [] a) a b hall]
            exact nums_same hal2 hbl2
          · have hx : x < a.length + 1 := hx
            have := HL.out x (by omega); omega
    · have in1 : ¬ (200 : Int) < (n : Int) := by omega
      have in2 : (200 : Int) < (m : Int) := by omega
      have HC := Lib.hid (show cutL a b = ([], []) from if_pos (by omega))
      clear hA hB hza hzb hn hm hla hlb
      go_enter Try.func16, Try.ntmps16
      go_upto_region 3 with (fail)
      clear in1 in2
      obtain ⟨A, n, cap, hA0, hn0, hc0⟩ : ∃ (A0 : Option Addr) (n0 c0 : Nat), A0 = none ∧ n0 = 0 ∧ c0 = 0 := ⟨none, 0, 0, rfl, rfl, rfl⟩
      have hnv : Value.slice none 0 0 = Value.slice A n cap := by rw [hA0, hn0, hc0]
      rw [hnv]
      obtain ⟨a, ha0⟩ : ∃ a : List ByteArray, a = [] := ⟨_, rfl⟩
      obtain ⟨b, hb0⟩ : ∃ b : List ByteArray, b = [] := ⟨_, rfl⟩
      have HSA := Lib.hid (show SE encStr w w.heap.size (.slice A n cap) a from by rw [hA0, hn0, hc0, ha0]; exact SE.nil _ _ _)
      have HSB := Lib.hid (show SE encStr w w.heap.size (.slice A n cap) b from by rw [hA0, hn0, hc0, hb0]; exact SE.nil _ _ _)
      have hla : a.length = n := by rw [ha0, hn0]; rfl
      have hlb : b.length = n := by rw [hb0, hn0]; rfl
      have HZA := Lib.hid (show ∀ x ∈ a, x.size ≤ maxLen from by rw [ha0]; exact fun x hx => by simp at hx)
      have HZB := Lib.hid (show ∀ x ∈ b, x.size ≤ maxLen from by rw [hb0]; exact fun x hx => by simp at hx)
      have hn : n ≤ 200 := by omega
      have HC2 := Lib.hid (show _ = (a, b) from HC.out.trans (by rw [ha0, hb0]))
      clear HC hA0 hn0 hc0 hnv ha0 hb0
      have hmk1 := run_mkr (n + 1) (by omega)
      rw [Int.natCast_add, Int.natCast_one] at hmk1
      have hmk2 := run_mkn (n + 1) (by omega)
      rw [Int.natCast_add, Int.natCast_one] at hmk2
      have wn : IntKind.i64.wrap ((n : Int) + 1) = (n : Int) + 1 := by rw [IntKind.wrap_i64]; omega
      have wm : IntKind.i64.wrap ((n : Int) + 1) = (n : Int) + 1 := by rw [IntKind.wrap_i64]; omega
      go_upto_region 4 with (fail)
      obtain ⟨w1, hw1⟩ : ∃ w1, w.alloc (.map #[] 0) = w1 := ⟨_, rfl⟩
      have HM1 := Lib.hid (show FnMap w1 w.heap.size (dEs []) from by rw [← hw1]; exact FnMap.made w)
      have HB1 := Lib.hid (show Below w.heap.size w w1 from by rw [← hw1]; exact (Below.refl _ _).alloc (Nat.le_refl _) _)
      have hs1 : w1.heap.size = w.heap.size + 1 := by rw [← hw1]; simp
      obtain ⟨mb, hmb⟩ : ∃ mb, w.heap.size = mb := ⟨_, rfl⟩
      rw [hw1]
      clear hw1
      rw [hmb] at hs1 HM1 ⊢
      have nA : ∀ pb po, A = some ⟨pb, po, none⟩ → 0 < n → pb ≠ mb := fun pb po e h => by
        obtain ⟨x, hx⟩ : ∃ x, a[0]? = some x := ⟨_, List.getElem?_eq_getElem (by omega)⟩
        obtain ⟨pb2, po2, e2, h2, _⟩ := HSA.out.at hx
        rw [e] at e2; injection e2 with e2; injection e2 with e2 e3; omega
      have nB : ∀ pb po, A = some ⟨pb, po, none⟩ → 0 < n → pb ≠ mb := fun pb po e h => by
        obtain ⟨x, hx⟩ : ∃ x, b[0]? = some x := ⟨_, List.getElem?_eq_getElem (by omega)⟩
        obtain ⟨pb2, po2, e2, h2, _⟩ := HSB.out.at hx
        rw [e] at e2; injection e2 with e2; injection e2 with e2 e3; omega
      have HE1 := Lib.hid (each_any w1 mb A n cap a [] (HSA.out.lift HB1.out) HM1.out List.nodup_nil (fun x hx => by simp at hx) HZA.out (by omega) nA)
      rw [hs1] at HE1
      have HE2 := Lib.hid (fun (w2 : World) (h0 : w1.heap.size ≤ w2.heap.size) (hm : FnMap w2 mb (dEs (dAll [] a))) (hg : w1.grownBy w2 (some mb)) => each_any w2 mb A n cap b (dAll [] a) (by
          have h := HSB.out.below HB1.out (Nat.le_refl _)
          obtain ⟨A', cap', e1, e2, e3, e4⟩ := h
          refine ⟨A', cap', e1, e2, e3, e4.imp id ?_⟩
          rintro ⟨pb, po, e5, e6, e7⟩
          refine ⟨pb, po, e5, by omega, fun j x hj => ?_⟩
          rw [cell_other hg (by show pb < w1.heap.size; omega) (fun e => by have e : pb = mb := Option.some.inj e; omega)]; exact e7 j x hj) hm (dAll_nodup _ List.nodup_nil) (fun x hx => HZA.out x ((dAll_in _ hx).resolve_left (by simp))) HZB.out (by omega) nB)
      go_upto_region 5 with (first
        | (go_at_call_of 20 (Value.slice A n cap); ((with_reducible refine HE1.out.mono ?_); rintro e w2 ⟨rfl, h1, h2, h3⟩; have HR2 := Lib.hid h1; have HM2 := Lib.hid h2; have HG2 := Lib.hid h3; have hs2 : mb + 2 ≤ w2.heap.size := (by have := h1.lt; omega); have HE3 := Lib.hid (HE2.out w2 (by omega) h2 h3); clear h1 h2 h3))
        | (go_at_call 20; ((with_reducible refine HE3.out.mono ?_); rintro e w3 ⟨rfl, h1, h2, h3⟩; have HR3 := Lib.hid h1; have HG3 := Lib.hid h3; clear h1 h2 h3)))
      obtain ⟨tb, htb⟩ : ∃ tb, w3.heap.size = tb := ⟨_, rfl⟩
      obtain ⟨gb, hgb⟩ : ∃ gb, w2.heap.size = gb := ⟨_, rfl⟩
      have hlt3 : gb < tb := by have := HR3.out.lt; omega
      have HT4 := Lib.hid (Go.MapKept.heap_alloc w3 (.cells #[.slice (some ⟨mb + 1, 0, none⟩) n n, .slice (some ⟨w2.heap.size, 0, none⟩) n n, .slice none 0 0] 46)).1
      have HB4 := Lib.hid (show Below w3.heap.size w3 (w3.alloc (.cells #[.slice (some ⟨mb + 1, 0, none⟩) n n, .slice (some ⟨w2.heap.size, 0, none⟩) n n, .slice none 0 0] 46)) from (Below.refl _ _).alloc (Nat.le_refl _) _)
      have hs4 : (w3.alloc (.cells #[.slice (some ⟨mb + 1, 0, none⟩) n n, .slice (some ⟨w2.heap.size, 0, none⟩) n n, .slice none 0 0] 46)).heap.size = tb + 1 := by simp [htb]
      obtain ⟨w4, hw4⟩ : ∃ w4, w3.alloc (.cells #[.slice (some ⟨mb + 1, 0, none⟩) n n, .slice (some ⟨w2.heap.size, 0, none⟩) n n, .slice none 0 0] 46) = w4 := ⟨_, rfl⟩
      rw [hw4] at HT4 HB4 hs4 ⊢
      clear hw4
      have hT4' := HT4.out
      rw [htb] at hT4'
      have hRow := (Below.heap_alloc w4 (.cells (madeCells #[.slice none 0 0] (n + 1)) 25) tb (by omega)).trans hT4'
      have x2 := cell_of_row _ tb 2 _ _ _ hRow
      have m2 := frozen_of_row _ tb 2 _ _ hRow
      have HRow := Lib.hid hRow
      clear hRow hT4'
      rw [htb, hgb]
      go_upto_region 6 with (fail)
      have HS5 := Lib.hid (TbP.start (tr := 25) (te := 3) (w4.setCell ⟨tb, 2, none⟩ (.slice (some ⟨tb + 1, 0, none⟩) (n + 1) (n + 1))) (fun _ => 0) (n + 1) (n + 1) (fun _ _ => 0))
      have HT5 := Lib.hid (show TblAt ((w4.setCell ⟨tb, 2, none⟩ (.slice (some ⟨tb + 1, 0, none⟩) (n + 1) (n + 1))).alloc (.cells (madeCells #[.slice none 0 0] (n + 1)) 25)) tb (mb + 1) gb (tb + 1) n n from by
        have h := HT4.out
        rw [htb] at h
        unfold TblAt TblA
        rw [Below.heap_alloc _ _ tb (by simp; omega), heap_setCell_same w4 tb 2 _ _ _ h, hgb]; rfl)
      have HB5 := Lib.hid (show Below w3.heap.size w3 ((w4.setCell ⟨tb, 2, none⟩ (.slice (some ⟨tb + 1, 0, none⟩) (n + 1) (n + 1))).alloc (.cells (madeCells #[.slice none 0 0] (n + 1)) 25)) from (HB4.out.setCell (by show w3.heap.size ≤ tb; omega) _).alloc (by simp; omega) _)
      have hs5 : ((w4.setCell ⟨tb, 2, none⟩ (.slice (some ⟨tb + 1, 0, none⟩) (n + 1) (n + 1))).alloc (.cells (madeCells #[.slice none 0 0] (n + 1)) 25)).heap.size = tb + 2 := by simp [hs4]
      have hs5b : (w4.setCell ⟨tb, 2, none⟩ (.slice (some ⟨tb + 1, 0, none⟩) (n + 1) (n + 1))).heap.size = tb + 1 := by simp [hs4]
      rw [hs5b] at HS5
      obtain ⟨w5, hw5⟩ : ∃ w5, (w4.setCell ⟨tb, 2, none⟩ (.slice (some ⟨tb + 1, 0, none⟩) (n + 1) (n + 1))).alloc (.cells (madeCells #[.slice none 0 0] (n + 1)) 25) = w5 := ⟨_, rfl⟩
      rw [hw5] at HS5 HT5 HB5 hs5 ⊢
      clear hw5 x2 m2 hs5b
      have hg23 := Below.grown (Below.refl mb w2) HG3.out (by omega) (fun k e => by cases e; exact Nat.le_refl _)
      have HBB := Lib.hid (show Below mb w w5 from (((hmb ▸ HB1.out : Below mb w w1).trans (Below.grown (Below.refl mb w1) HG2.out (by omega) (fun k e => by cases e; exact Nat.le_refl _))).trans hg23).trans (HB5.out.mono (by omega)))
      have HRA := Lib.hid (show RowN w5 (mb + 1) (nums (dAll [] a) a) from (HR2.out.keep (HG3.out.block _ HR2.out.lt (fun e => by have e : mb + 1 = mb := Option.some.inj e; omega))).keep (HB5.out.block _ (by omega)))
      have HRB := Lib.hid (show RowN w5 gb (nums (dAll (dAll [] a) b) b) from (by have h := HR3.out; rw [hgb] at h; exact h.keep (HB5.out.block _ (by omega))))
      clear hg23
      obtain ⟨x0, x1, x2⟩ := HT5.out.cells
      go_upto_region 7 with (fail)
      go_loopw [39] (fun iv wr => ∃ (i : Nat) (r : Nat → Nat), i ≤ n + 1 ∧ iv = .int .i64 (i : Int) ∧ Hid (TbP 25 3 wr (tb + 1) r (n + 1) (n + 1) (fun x => decide (x < i)) (fun _ _ => 0)) ∧ Hid (∀ x, x < i → tb + 1 < r x) ∧ Hid (KpR (fun k => k = tb + 1) w5 wr))
        (fun iv _ => n + 1 - (intOf iv).toNat)
      case atStart => exact ⟨0, _, Nat.zero_le _, rfl, HS5, Lib.hid (fun x hx => by omega), Lib.hid (KpR.refl _ _)⟩
      case round =>
        obtain ⟨i, r, hi, rfl, HP, HL, HK⟩ := hrel
        have hk5 := HK.out.size
        have HTr := Lib.hid (show TblAt wr tb (mb + 1) gb (tb + 1) n n from (HK.out.block tb (by omega) (by omega)).trans HT5.out)
        obtain ⟨y0, y1, y2⟩ := HTr.out.cells
        by_cases hlt : i < n + 1
        · have hii : (i : Int) < (n : Int) + 1 := by omega
          have hi0 : (0 : Int) ≤ (i : Int) := by omega
          have hSA : ∀ o : Obj, (wr.alloc o).cell? ⟨tb, 2, none⟩ = some (.slice (some ⟨tb + 1, 0, none⟩) (n + 1) (n + 1)) := fun o => (((Below.refl wr.heap.size wr).alloc (Nat.le_refl _) o).cell (p := ⟨tb, 2, none⟩) (by show tb < wr.heap.size; omega)).trans y2
          have HSF := Lib.hid (show (wr.alloc (.cells (madeCells #[.int .i64 0] (n + 1)) 3)).frozen? ⟨tb + 1, i, none⟩ = false ∧ ∃ u, (wr.alloc (.cells (madeCells #[.int .i64 0] (n + 1)) 3)).cell? ⟨tb + 1, i, none⟩ = some u from by
            have h := (Below.heap_alloc wr (.cells (madeCells #[.int .i64 0] (n + 1)) 3) (tb + 1) (by omega)).trans HP.out.head
            exact ⟨frozen_of_row _ _ i _ _ h, _, (cell_of_row _ _ i _ _ _ h).trans (rowA_at _ _ _ hlt)⟩)
          go_upto_region 9 with (fail)
          refine wp_region_held_drew (S := (fun X => X.cell? ⟨tb, 2, none⟩ = some (.slice (some ⟨tb + 1, 0, none⟩) (n + 1) (n + 1)))) (by kernel_rfl) y2 (fun _ => ?_)
          show wpAnyH _ _ _ _ _ 11 #[false, false, false, false, false, false, false, false, false, false, false] _ _
          refine hV 0 y2 ?_
          refine hV 1 y2 ?_
          refine hV 2 y2 ?_
          refine hV 3 y2 ?_
          refine hV 4 y2 ?_
          refine hV 5 y2 ?_
          refine hV 6 y2 ?_
          refine hV 7 y2 ?_
          refine hO 8 (fun K hK => ?_)
          go_simp
          refine hK.out _ _ (hSA _) ?_
          clear hK K
          simp only [Act.put, sT, sZ, sS]
          refine hV 9 (hSA _) ?_
          obtain ⟨f0, u0, c0⟩ := HSF.out
          refine hO 10 (fun K hK => ?_)
          go_simp
          have hrb := HP.out.lt
          have hput := HP.out.put hlt (fun j _ => rfl)
          have hKS : KpR (fun k => k = tb + 1) w5 ((wr.alloc (.cells (madeCells #[.int .i64 0] (n + 1)) 3)).setCell ⟨tb + 1, i, none⟩ (.slice (some ⟨wr.heap.size, 0, none⟩) (n + 1) (n + 1))).drew := ((HK.out.alloc _).setCell _ _ _ (.inl rfl)).drew
          rw [World.setCell_alloc_past _ _ _ _ hrb] at hput hKS
          have HPU := Lib.hid (TbP.drew (hput.congr (p' := fun x => decide (x < i + 1)) (g' := fun _ _ => 0) (fun x _ => by
            by_cases e : x = i
            · subst e; simp
            · rw [if_neg e]; exact decide_eq_decide.2 (by omega)) (fun _ _ _ _ => rfl)))
          have HKS := Lib.hid hKS
          clear hput hKS f0 c0
          refine hK.out undef _ (by rw [World.setCell_alloc_past _ _ _ _ hrb]; exact (World.cell?_of_block (a := ⟨tb, 2, none⟩) (HKS.out.block tb (by omega) (by omega))).trans x2) ?_
          clear hK K
          refine wpAnyH_done (by kernel_rfl) ?_ _
          go_wp2_with fail
          go_roundw
          case rel => exact ⟨i + 1, _, by omega, by go_num, HPU, Lib.hid (fun x hx => by
            by_cases e : x = i
            · rw [if_pos e]; omega
            · rw [if_neg e]; exact HL.out x (by omega)), HKS⟩
          case measure => simp [intOf]; omega
        · have hii : ¬ (i : Int) < (n : Int) + 1 := by omega
          obtain rfl : i = n + 1 := by omega
          have HN := Lib.hid (HP.out.congr (p' := fun _ => true) (g' := fun _ _ => 0) (fun x hx => decide_eq_true hx) (fun _ _ _ _ => rfl))
          have hnR : ∀ k, k ≤ tb + 1 → ¬ RowsB r n k := fun k hk ⟨x, hx, e⟩ => by have := HL.out x hx; omega
          have HF := Lib.hid (fill_any wr tb (tb + 1) (mb + 1) gb n n (nums (dAll [] a) a) (nums (dAll (dAll [] a) b) b) r HTr.out (HRA.out.keep (HK.out.block _ (by omega) (by omega))) (HRB.out.keep (HK.out.block _ (by omega) (by omega))) (by rw [nums_len]; exact hla) (by rw [nums_len]; exact hlb) hn hn HN.out (hnR _ (by omega)) (hnR _ (by omega)))
          clear y0 y1 y2
          go_wp2_with (go_at_call 22; ((with_reducible refine HF.out.mono ?_); rintro e w7 ⟨⟨v, rfl⟩, h1, h2⟩; have HT7 := Lib.hid h1; have HK7 := Lib.hid h2; clear h1 h2))
          go_ret
          have hge : ∀ k, RowsB r n k → tb + 1 < k := fun k ⟨x, hx, e⟩ => by rw [e]; exact HL.out x hx
          have hB7 : Below mb w w7 := (HBB.out.trans (HK.out.below (fun k e => by omega) (by omega))).trans (HK7.out.below (fun k e => by have := hge k e; omega) (by omega))
          have hall : ∀ x ∈ a, x ∈ dAll [] a := fun x hx => dAll_mem _ (.inr hx)
          have hal2 : ∀ x ∈ a, x ∈ dAll (dAll [] a) b := fun x hx => dAll_mem _ (.inl (hall x hx))
          have hbl2 : ∀ x ∈ b, x ∈ dAll (dAll [] a) b := fun x hx => dAll_mem _ (.inr hx)
          refine ⟨tb, rfl, ?_, by rw [hmb]; exact hB7⟩
          rw [HC2.out]
          refine ⟨mb + 1, gb, tb + 1, r, nums (dAll [] a) a, nums (dAll (dAll [] a) b) b, ?_, ?_, ?_, ?_, ?_, by omega, by omega, fun x hx => ?_⟩
          · show TblAt w7 tb (mb + 1) gb (tb + 1) a.length b.length
            rw [hla, hlb]; exact (HK7.out.block tb (by omega) (hnR _ (by omega))).trans HTr.out
          · show TbN w7 (tb + 1) r a.length b.length _
            rw [hla, hlb]
            refine HT7.out.congr (fun _ _ => rfl) (fun x y _ _ => ?_)
            rw [nums_more (dAll [] a) a b hall]
            have h := lcsAt_map (fun t : ByteArray => (dix (dAll (dAll [] a) b) t : Int)) a b (nums_inj hal2 hbl2) x y
            exact congrArg Int.ofNat h
          · exact (HRA.out.keep (HK.out.block _ (by omega) (by omega))).keep (HK7.out.block _ (by omega) (hnR _ (by omega)))
          · exact (HRB.out.keep (HK.out.block _ (by omega) (by omega))).keep (HK7.out.block _ (by omega) (hnR _ (by omega)))
          · rw [nums_more (dAll [] a) a b hall]
            exact nums_same hal2 hbl2
          · have hx : x < a.length + 1 := hx
            have := HL.out x (by omega); omega
  · have in1 : (200 : Int) < (n : Int) := by omega
    have HC := Lib.hid (show cutL a b = ([], []) from if_pos (by omega))
    clear hA hB hza hzb hn hla hlb
    go_enter Try.func16, Try.ntmps16
    go_upto_region 3 with (fail)
    clear in1
    obtain ⟨A, n, cap, hA0, hn0, hc0⟩ : ∃ (A0 : Option Addr) (n0 c0 : Nat), A0 = none ∧ n0 = 0 ∧ c0 = 0 := ⟨none, 0, 0, rfl, rfl, rfl⟩
    have hnv : Value.slice none 0 0 = Value.slice A n cap := by rw [hA0, hn0, hc0]
    rw [hnv]
    obtain ⟨a, ha0⟩ : ∃ a : List ByteArray, a = [] := ⟨_, rfl⟩
    obtain ⟨b, hb0⟩ : ∃ b : List ByteArray, b = [] := ⟨_, rfl⟩
    have HSA := Lib.hid (show SE encStr w w.heap.size (.slice A n cap) a from by rw [hA0, hn0, hc0, ha0]; exact SE.nil _ _ _)
    have HSB := Lib.hid (show SE encStr w w.heap.size (.slice A n cap) b from by rw [hA0, hn0, hc0, hb0]; exact SE.nil _ _ _)
    have hla : a.length = n := by rw [ha0, hn0]; rfl
    have hlb : b.length = n := by rw [hb0, hn0]; rfl
    have HZA := Lib.hid (show ∀ x ∈ a, x.size ≤ maxLen from by rw [ha0]; exact fun x hx => by simp at hx)
    have HZB := Lib.hid (show ∀ x ∈ b, x.size ≤ maxLen from by rw [hb0]; exact fun x hx => by simp at hx)
    have hn : n ≤ 200 := by omega
    have HC2 := Lib.hid (show _ = (a, b) from HC.out.trans (by rw [ha0, hb0]))
    clear HC hA0 hn0 hc0 hnv ha0 hb0
    have hmk1 := run_mkr (n + 1) (by omega)
    rw [Int.natCast_add, Int.natCast_one] at hmk1
    have hmk2 := run_mkn (n + 1) (by omega)
    rw [Int.natCast_add, Int.natCast_one] at hmk2
    have wn : IntKind.i64.wrap ((n : Int) + 1) = (n : Int) + 1 := by rw [IntKind.wrap_i64]; omega
    have wm : IntKind.i64.wrap ((n : Int) + 1) = (n : Int) + 1 := by rw [IntKind.wrap_i64]; omega
    go_upto_region 4 with (fail)
    obtain ⟨w1, hw1⟩ : ∃ w1, w.alloc (.map #[] 0) = w1 := ⟨_, rfl⟩
    have HM1 := Lib.hid (show FnMap w1 w.heap.size (dEs []) from by rw [← hw1]; exact FnMap.made w)
    have HB1 := Lib.hid (show Below w.heap.size w w1 from by rw [← hw1]; exact (Below.refl _ _).alloc (Nat.le_refl _) _)
    have hs1 : w1.heap.size = w.heap.size + 1 := by rw [← hw1]; simp
    obtain ⟨mb, hmb⟩ : ∃ mb, w.heap.size = mb := ⟨_, rfl⟩
    rw [hw1]
    clear hw1
    rw [hmb] at hs1 HM1 ⊢
    have nA : ∀ pb po, A = some ⟨pb, po, none⟩ → 0 < n → pb ≠ mb := fun pb po e h => by
      obtain ⟨x, hx⟩ : ∃ x, a[0]? = some x := ⟨_, List.getElem?_eq_getElem (by omega)⟩
      obtain ⟨pb2, po2, e2, h2, _⟩ := HSA.out.at hx
      rw [e] at e2; injection e2 with e2; injection e2 with e2 e3; omega
    have nB : ∀ pb po, A = some ⟨pb, po, none⟩ → 0 < n → pb ≠ mb := fun pb po e h => by
      obtain ⟨x, hx⟩ : ∃ x, b[0]? = some x := ⟨_, List.getElem?_eq_getElem (by omega)⟩
      obtain ⟨pb2, po2, e2, h2, _⟩ := HSB.out.at hx
      rw [e] at e2; injection e2 with e2; injection e2 with e2 e3; omega
    have HE1 := Lib.hid (each_any w1 mb A n cap a [] (HSA.out.lift HB1.out) HM1.out List.nodup_nil (fun x hx => by simp at hx) HZA.out (by omega) nA)
    rw [hs1] at HE1
    have HE2 := Lib.hid (fun (w2 : World) (h0 : w1.heap.size ≤ w2.heap.size) (hm : FnMap w2 mb (dEs (dAll [] a))) (hg : w1.grownBy w2 (some mb)) => each_any w2 mb A n cap b (dAll [] a) (by
        have h := HSB.out.below HB1.out (Nat.le_refl _)
        obtain ⟨A', cap', e1, e2, e3, e4⟩ := h
        refine ⟨A', cap', e1, e2, e3, e4.imp id ?_⟩
        rintro ⟨pb, po, e5, e6, e7⟩
        refine ⟨pb, po, e5, by omega, fun j x hj => ?_⟩
        rw [cell_other hg (by show pb < w1.heap.size; omega) (fun e => by have e : pb = mb := Option.some.inj e; omega)]; exact e7 j x hj) hm (dAll_nodup _ List.nodup_nil) (fun x hx => HZA.out x ((dAll_in _ hx).resolve_left (by simp))) HZB.out (by omega) nB)
    go_upto_region 5 with (first
      | (go_at_call_of 20 (Value.slice A n cap); ((with_reducible refine HE1.out.mono ?_); rintro e w2 ⟨rfl, h1, h2, h3⟩; have HR2 := Lib.hid h1; have HM2 := Lib.hid h2; have HG2 := Lib.hid h3; have hs2 : mb + 2 ≤ w2.heap.size := (by have := h1.lt; omega); have HE3 := Lib.hid (HE2.out w2 (by omega) h2 h3); clear h1 h2 h3))
      | (go_at_call 20; ((with_reducible refine HE3.out.mono ?_); rintro e w3 ⟨rfl, h1, h2, h3⟩; have HR3 := Lib.hid h1; have HG3 := Lib.hid h3; clear h1 h2 h3)))
    obtain ⟨tb, htb⟩ : ∃ tb, w3.heap.size = tb := ⟨_, rfl⟩
    obtain ⟨gb, hgb⟩ : ∃ gb, w2.heap.size = gb := ⟨_, rfl⟩
    have hlt3 : gb < tb := by have := HR3.out.lt; omega
    have HT4 := Lib.hid (Go.MapKept.heap_alloc w3 (.cells #[.slice (some ⟨mb + 1, 0, none⟩) n n, .slice (some ⟨w2.heap.size, 0, none⟩) n n, .slice none 0 0] 46)).1
    have HB4 := Lib.hid (show Below w3.heap.size w3 (w3.alloc (.cells #[.slice (some ⟨mb + 1, 0, none⟩) n n, .slice (some ⟨w2.heap.size, 0, none⟩) n n, .slice none 0 0] 46)) from (Below.refl _ _).alloc (Nat.le_refl _) _)
    have hs4 : (w3.alloc (.cells #[.slice (some ⟨mb + 1, 0, none⟩) n n, .slice (some ⟨w2.heap.size, 0, none⟩) n n, .slice none 0 0] 46)).heap.size = tb + 1 := by simp [htb]
    obtain ⟨w4, hw4⟩ : ∃ w4, w3.alloc (.cells #[.slice (some ⟨mb + 1, 0, none⟩) n n, .slice (some ⟨w2.heap.size, 0, none⟩) n n, .slice none 0 0] 46) = w4 := ⟨_, rfl⟩
    rw [hw4] at HT4 HB4 hs4 ⊢
    clear hw4
    have hT4' := HT4.out
    rw [htb] at hT4'
    have hRow := (Below.heap_alloc w4 (.cells (madeCells #[.slice none 0 0] (n + 1)) 25) tb (by omega)).trans hT4'
    have x2 := cell_of_row _ tb 2 _ _ _ hRow
    have m2 := frozen_of_row _ tb 2 _ _ hRow
    have HRow := Lib.hid hRow
    clear hRow hT4'
    rw [htb, hgb]
    go_upto_region 6 with (fail)
    have HS5 := Lib.hid (TbP.start (tr := 25) (te := 3) (w4.setCell ⟨tb, 2, none⟩ (.slice (some ⟨tb + 1, 0, none⟩) (n + 1) (n + 1))) (fun _ => 0) (n + 1) (n + 1) (fun _ _ => 0))
    have HT5 := Lib.hid (show TblAt ((w4.setCell ⟨tb, 2, none⟩ (.slice (some ⟨tb + 1, 0, none⟩) (n + 1) (n + 1))).alloc (.cells (madeCells #[.slice none 0 0] (n + 1)) 25)) tb (mb + 1) gb (tb + 1) n n from by
      have h := HT4.out
      rw [htb] at h
      unfold TblAt TblA
      rw [Below.heap_alloc _ _ tb (by simp; omega), heap_setCell_same w4 tb 2 _ _ _ h, hgb]; rfl)
    have HB5 := Lib.hid (show Below w3.heap.size w3 ((w4.setCell ⟨tb, 2, none⟩ (.slice (some ⟨tb + 1, 0, none⟩) (n + 1) (n + 1))).alloc (.cells (madeCells #[.slice none 0 0] (n + 1)) 25)) from (HB4.out.setCell (by show w3.heap.size ≤ tb; omega) _).alloc (by simp; omega) _)
    have hs5 : ((w4.setCell ⟨tb, 2, none⟩ (.slice (some ⟨tb + 1, 0, none⟩) (n + 1) (n + 1))).alloc (.cells (madeCells #[.slice none 0 0] (n + 1)) 25)).heap.size = tb + 2 := by simp [hs4]
    have hs5b : (w4.setCell ⟨tb, 2, none⟩ (.slice (some ⟨tb + 1, 0, none⟩) (n + 1) (n + 1))).heap.size = tb + 1 := by simp [hs4]
    rw [hs5b] at HS5
    obtain ⟨w5, hw5⟩ : ∃ w5, (w4.setCell ⟨tb, 2, none⟩ (.slice (some ⟨tb + 1, 0, none⟩) (n + 1) (n + 1))).alloc (.cells (madeCells #[.slice none 0 0] (n + 1)) 25) = w5 := ⟨_, rfl⟩
    rw [hw5] at HS5 HT5 HB5 hs5 ⊢
    clear hw5 x2 m2 hs5b
    have hg23 := Below.grown (Below.refl mb w2) HG3.out (by omega) (fun k e => by cases e; exact Nat.le_refl _)
    have HBB := Lib.hid (show Below mb w w5 from (((hmb ▸ HB1.out : Below mb w w1).trans (Below.grown (Below.refl mb w1) HG2.out (by omega) (fun k e => by cases e; exact Nat.le_refl _))).trans hg23).trans (HB5.out.mono (by omega)))
    have HRA := Lib.hid (show RowN w5 (mb + 1) (nums (dAll [] a) a) from (HR2.out.keep (HG3.out.block _ HR2.out.lt (fun e => by have e : mb + 1 = mb := Option.some.inj e; omega))).keep (HB5.out.block _ (by omega)))
    have HRB := Lib.hid (show RowN w5 gb (nums (dAll (dAll [] a) b) b) from (by have h := HR3.out; rw [hgb] at h; exact h.keep (HB5.out.block _ (by omega))))
    clear hg23
    obtain ⟨x0, x1, x2⟩ := HT5.out.cells
    go_upto_region 7 with (fail)
    go_loopw [39] (fun iv wr => ∃ (i : Nat) (r : Nat → Nat), i ≤ n + 1 ∧ iv = .int .i64 (i : Int) ∧ Hid (TbP 25 3 wr (tb + 1) r (n + 1) (n + 1) (fun x => decide (x < i)) (fun _ _ => 0)) ∧ Hid (∀ x, x < i → tb + 1 < r x) ∧ Hid (KpR (fun k => k = tb + 1) w5 wr))
      (fun iv _ => n + 1 - (intOf iv).toNat)
    case atStart => exact ⟨0, _, Nat.zero_le _, rfl, HS5, Lib.hid (fun x hx => by omega), Lib.hid (KpR.refl _ _)⟩
    case round =>
      obtain ⟨i, r, hi, rfl, HP, HL, HK⟩ := hrel
      have hk5 := HK.out.size
      have HTr := Lib.hid (show TblAt wr tb (mb + 1) gb (tb + 1) n n from (HK.out.block tb (by omega) (by omega)).trans HT5.out)
      obtain ⟨y0, y1, y2⟩ := HTr.out.cells
      by_cases hlt : i < n + 1
      · have hii : (i : Int) < (n : Int) + 1 := by omega
        have hi0 : (0 : Int) ≤ (i : Int) := by omega
        have hSA : ∀ o : Obj, (wr.alloc o).cell? ⟨tb, 2, none⟩ = some (.slice (some ⟨tb + 1, 0, none⟩) (n + 1) (n + 1)) := fun o => (((Below.refl wr.heap.size wr).alloc (Nat.le_refl _) o).cell (p := ⟨tb, 2, none⟩) (by show tb < wr.heap.size; omega)).trans y2
        have HSF := Lib.hid (show (wr.alloc (.cells (madeCells #[.int .i64 0] (n + 1)) 3)).frozen? ⟨tb + 1, i, none⟩ = false ∧ ∃ u, (wr.alloc (.cells (madeCells #[.int .i64 0] (n + 1)) 3)).cell? ⟨tb + 1, i, none⟩ = some u from by
          have h := (Below.heap_alloc wr (.cells (madeCells #[.int .i64 0] (n + 1)) 3) (tb + 1) (by omega)).trans HP.out.head
          exact ⟨frozen_of_row _ _ i _ _ h, _, (cell_of_row _ _ i _ _ _ h).trans (rowA_at _ _ _ hlt)⟩)
        go_upto_region 9 with (fail)
        refine wp_region_held_drew (S := (fun X => X.cell? ⟨tb, 2, none⟩ = some (.slice (some ⟨tb + 1, 0, none⟩) (n + 1) (n + 1)))) (by kernel_rfl) y2 (fun _ => ?_)
        show wpAnyH _ _ _ _ _ 11 #[false, false, false, false, false, false, false, false, false, false, false] _ _
        refine hV 0 y2 ?_
        refine hV 1 y2 ?_
        refine hV 2 y2 ?_
        refine hV 3 y2 ?_
        refine hV 4 y2 ?_
        refine hV 5 y2 ?_
        refine hV 6 y2 ?_
        refine hV 7 y2 ?_
        refine hO 8 (fun K hK => ?_)
        go_simp
        refine hK.out _ _ (hSA _) ?_
        clear hK K
        simp only [Act.put, sT, sZ, sS]
        refine hV 9 (hSA _) ?_
        obtain ⟨f0, u0, c0⟩ := HSF.out
        refine hO 10 (fun K hK => ?_)
        go_simp
        have hrb := HP.out.lt
        have hput := HP.out.put hlt (fun j _ => rfl)
        have hKS : KpR (fun k => k = tb + 1) w5 ((wr.alloc (.cells (madeCells #[.int .i64 0] (n + 1)) 3)).setCell ⟨tb + 1, i, none⟩ (.slice (some ⟨wr.heap.size, 0, none⟩) (n + 1) (n + 1))).drew := ((HK.out.alloc _).setCell _ _ _ (.inl rfl)).drew
        rw [World.setCell_alloc_past _ _ _ _ hrb] at hput hKS
        have HPU := Lib.hid (TbP.drew (hput.congr (p' := fun x => decide (x < i + 1)) (g' := fun _ _ => 0) (fun x _ => by
          by_cases e : x = i
          · subst e; simp
          · rw [if_neg e]; exact decide_eq_decide.2 (by omega)) (fun _ _ _ _ => rfl)))
        have HKS := Lib.hid hKS
        clear hput hKS f0 c0
        refine hK.out undef _ (by rw [World.setCell_alloc_past _ _ _ _ hrb]; exact (World.cell?_of_block (a := ⟨tb, 2, none⟩) (HKS.out.block tb (by omega) (by omega))).trans x2) ?_
        clear hK K
        refine wpAnyH_done (by kernel_rfl) ?_ _
        go_wp2_with fail
        go_roundw
        case rel => exact ⟨i + 1, _, by omega, by go_num, HPU, Lib.hid (fun x hx => by
          by_cases e : x = i
          · rw [if_pos e]; omega
          · rw [if_neg e]; exact HL.out x (by omega)), HKS⟩
        case measure => simp [intOf]; omega
      · have hii : ¬ (i : Int) < (n : Int) + 1 := by omega
        obtain rfl : i = n + 1 := by omega
        have HN := Lib.hid (HP.out.congr (p' := fun _ => true) (g' := fun _ _ => 0) (fun x hx => decide_eq_true hx) (fun _ _ _ _ => rfl))
        have hnR : ∀ k, k ≤ tb + 1 → ¬ RowsB r n k := fun k hk ⟨x, hx, e⟩ => by have := HL.out x hx; omega
        have HF := Lib.hid (fill_any wr tb (tb + 1) (mb + 1) gb n n (nums (dAll [] a) a) (nums (dAll (dAll [] a) b) b) r HTr.out (HRA.out.keep (HK.out.block _ (by omega) (by omega))) (HRB.out.keep (HK.out.block _ (by omega) (by omega))) (by rw [nums_len]; exact hla) (by rw [nums_len]; exact hlb) hn hn HN.out (hnR _ (by omega)) (hnR _ (by omega)))
        clear y0 y1 y2
        go_wp2_with (go_at_call 22; ((with_reducible refine HF.out.mono ?_); rintro e w7 ⟨⟨v, rfl⟩, h1, h2⟩; have HT7 := Lib.hid h1; have HK7 := Lib.hid h2; clear h1 h2))
        go_ret
        have hge : ∀ k, RowsB r n k → tb + 1 < k := fun k ⟨x, hx, e⟩ => by rw [e]; exact HL.out x hx
        have hB7 : Below mb w w7 := (HBB.out.trans (HK.out.below (fun k e => by omega) (by omega))).trans (HK7.out.below (fun k e => by have := hge k e; omega) (by omega))
        have hall : ∀ x ∈ a, x ∈ dAll [] a := fun x hx => dAll_mem _ (.inr hx)
        have hal2 : ∀ x ∈ a, x ∈ dAll (dAll [] a) b := fun x hx => dAll_mem _ (.inl (hall x hx))
        have hbl2 : ∀ x ∈ b, x ∈ dAll (dAll [] a) b := fun x hx => dAll_mem _ (.inr hx)
        refine ⟨tb, rfl, ?_, by rw [hmb]; exact hB7⟩
        rw [HC2.out]
        refine ⟨mb + 1, gb, tb + 1, r, nums (dAll [] a) a, nums (dAll (dAll [] a) b) b, ?_, ?_, ?_, ?_, ?_, by omega, by omega, fun x hx => ?_⟩
        · show TblAt w7 tb (mb + 1) gb (tb + 1) a.length b.length
          rw [hla, hlb]; exact (HK7.out.block tb (by omega) (hnR _ (by omega))).trans HTr.out
        · show TbN w7 (tb + 1) r a.length b.length _
          rw [hla, hlb]
          refine HT7.out.congr (fun _ _ => rfl) (fun x y _ _ => ?_)
          rw [nums_more (dAll [] a) a b hall]
          have h := lcsAt_map (fun t : ByteArray => (dix (dAll (dAll [] a) b) t : Int)) a b (nums_inj hal2 hbl2) x y
          exact congrArg Int.ofNat h
        · exact (HRA.out.keep (HK.out.block _ (by omega) (by omega))).keep (HK7.out.block _ (by omega) (hnR _ (by omega)))
        · exact (HRB.out.keep (HK.out.block _ (by omega) (by omega))).keep (HK7.out.block _ (by omega) (hnR _ (by omega)))
        · rw [nums_more (dAll [] a) a b hall]
          exact nums_same hal2 hbl2
        · have hx : x < a.length + 1 := hx
          have := HL.out x (by omega); omega
end Go.Proofs.Ytnimmpidplfnnaa
