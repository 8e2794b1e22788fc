/-
  Layer 4, the reference: Lex.
-/
import Derived.Test.YtdapnipodnhpkaaDoorLexRF
import Derived.Test.YtdapnipodnhpkaaDoorLexJ
namespace Go.Proofs.YtdapnipodnhpkaaDoor
open Go.RowKit

/-- A block that holds tokens and an error's number. -/
def LkAt (w : World) (b : Nat) (v : Value) (e : Int) : Prop := w.heap[b]? = some (.cells #[v, .int .i64 e] 28)
theorem LkAt.lt {w : World} {b : Nat} {v : Value} {e : Int} (h : LkAt w b v e) : b < w.heap.size := (Array.getElem?_eq_some_iff.1 h).1
theorem LkAt.below {w w' : World} {B b : Nat} {v : Value} {e : Int} (h : LkAt w b v e) (hb : Below B w w') (hB : b < B) : LkAt w' b v e := by unfold LkAt; rw [hb.block b hB]; exact h
theorem LkAt.facts {w : World} {b : Nat} {v : Value} {e : Int} (h : LkAt w b v e) : w.cell? ⟨b, 0, none⟩ = some v ∧ w.cell? ⟨b, 1, none⟩ = some (.int .i64 e) :=
  ⟨by rw [cell_of_row w b 0 _ _ _ h]; rfl, by rw [cell_of_row w b 1 _ _ _ h]; rfl⟩
theorem LkAt.melts {w : World} {b : Nat} {v : Value} {e : Int} (h : LkAt w b v e) : w.frozen? ⟨b, 0, none⟩ = false ∧ w.frozen? ⟨b, 1, none⟩ = false := ⟨frozen_of_row w b 0 _ _ h, frozen_of_row w b 1 _ _ h⟩
theorem LkAt.put2 {w : World} {b : Nat} {v0 : Value} {e0 : Int} (h : LkAt w b v0 e0) (v : Value) (e : Int) : LkAt ((w.setCell ⟨b, 0, none⟩ v).setCell ⟨b, 1, none⟩ (.int .i64 e)) b v e := by
  have h1 : (w.setCell ⟨b, 0, none⟩ v).heap[b]? = some (.cells #[v, .int .i64 e0] 28) := by rw [heap_setCell_same w b 0 _ _ _ h]; rfl
  unfold LkAt; rw [heap_setCell_same _ b 1 _ _ _ h1]; rfl
theorem LkAt.new (w : World) (v : Value) (e : Int) : LkAt (w.alloc (.cells #[v, .int .i64 e] 28)) w.heap.size v e := (Go.MapKept.heap_alloc w _).1
theorem lk_size : (Tryd.prog.info? 28).map (·.size) = some 2 := by kernel_rfl
theorem out_lk {w : World} {b : Nat} {v : Value} {e : Int} (h : LkAt w b v e) (fn : Func) (tmps : Array Value) (p : Tmp) (hf : fn.results = #[.cell p 28]) (hp : tmps.getD p undef = .pointer (some ⟨b, 0, none⟩)) :
    (results fn tmps).run Tryd.prog w = .ok (.agg #[v, .int .i64 e]) w :=
  results_cell_row hf tmps w b _ _ _ _ hp h Tryd.underlying28 rfl lk_size
theorem res_rlex : Tryd.f9.results = #[.cell 2 28] := by kernel_rfl
/-- What the reference's Lex answers. -/
def RefLexed (s : ByteArray) (w : World) (e : Ending) (w' : World) : Prop :=
  Below w.heap.size w w' ∧ ((300 < s.size ∧ e = .returned (.agg #[.slice none 0 0, .int .i64 4])) ∨ (s.size ≤ 300 ∧ lexL (sb s) = none ∧ e = .returned (.agg #[.slice none 0 0, .int .i64 5])) ∨
    (s.size ≤ 300 ∧ ∃ ts v, lexL (sb s) = some ts ∧ e = .returned (.agg #[v, .int .i64 0]) ∧ OwnT w' w.heap.size v ts))
theorem Own.set2 {α : Type} {size : Nat} {E : Enc α size} {e : TypeId} {w : World} {base r : Nat} {v : Value} {xs : List α} (h : Own E e w base v xs) (hr : r < base) (a b : Value) : Own E e ((w.setCell ⟨r, 0, none⟩ a).setCell ⟨r, 1, none⟩ b) base v xs :=
  Own.other h (grownBy.setCell' (grownBy.setCell' (grownBy.refl' _ _) _ _) _ _) hr

set_option maxRecDepth 100000 in
set_option maxHeartbeats 4000000 in
theorem refLex_any (s : ByteArray) (w : World) : Calls Tryd.prog 9 #[.string s] w (RefLexed s w) := by
  by_cases hbig : 300 < s.size
  · have hi : (300 : Int) < (s.size : Int) := by omega
    go_enter Tryd.func9, Tryd.ntmps9
    go_wp2_with fail
    exact bodyPost_ret (out_lk (LkAt.new w (.slice none 0 0) 4) _ _ 2 res_rlex rfl) rfl ⟨(Below.refl _ _).alloc (Nat.le_refl _) _, .inl ⟨hbig, rfl⟩⟩
  have hi : ¬ (300 : Int) < (s.size : Int) := by omega
  have hs0 : s.size ≤ 1000000 := by omega
  obtain ⟨eb, hEB, EL⟩ := Elem.tok
  have HEL := Lib.hid EL; clear EL
  have HLK := Lib.hid (LkAt.new w (.slice none 0 0) 0)
  have HAL := Lib.hid (show Below w.heap.size w (w.alloc (.cells #[.slice none 0 0, .int .i64 0] 28)) from (Below.refl _ _).alloc (Nat.le_refl _) _)
  have HL0 := Lib.hid (show lexL (sb s) = (lexP s 0).map (([] : List Tk) ++ ·) by rw [lexL_P]; cases lexP s 0 <;> rfl)
  go_enter Tryd.func9, Tryd.ntmps9
  go_wp2_with fail
  go_loopw [3, 4] (fun v i wr => ∃ (p : Nat) (acc : List Tk), i = .int .i64 (p : Int) ∧ p ≤ s.size ∧ acc.length ≤ p ∧ Hid (lexL (sb s) = (lexP s p).map (acc ++ ·)) ∧ Hid (OwnT wr (w.heap.size + 1) v acc) ∧ Hid (LkAt wr w.heap.size (.slice none 0 0) 0) ∧ Hid (Below w.heap.size w wr))
    (fun _ i _ => s.size - (intOf i).toNat)
  case atStart => exact ⟨0, [], rfl, by omega, by simp, HL0, Lib.hid (Own.nil _ _ _ _), HLK, HAL⟩
  case round =>
    clear HL0 HLK HAL
    obtain ⟨p, acc, rfl, hps, hal, HL, HO, HK, HB⟩ := hrel
    by_cases hlt : p < s.size
    · have hlt2 : (p : Int) < (s.size : Int) := by omega
      obtain ⟨a, ha⟩ : ∃ a : Int, (s[p].toNat : Int) = a := ⟨_, rfl⟩
      by_cases h32 : a = 32
      · have hb32 : (a == 32) = true := beq_iff_eq.2 h32
        have HL2 := Lib.hid (show lexL (sb s) = (lexP s (p + 1)).map (acc ++ ·) by rw [HL.out, lexP_blank s p hlt (by rw [ha]; exact h32)])
        clear h32
        go_wp2_with fail
        go_roundw
        case rel => exact ⟨p + 1, acc, by go_num, by omega, by omega, HL2, HO, HK, HB⟩
        case measure => simp [intOf]; omega
      · have hb32 : (a == 32) = false := beq_eq_false_iff_ne.2 h32
        have h32' : ¬ ((s[p].toNat : Nat) : Int) = 32 := by rw [ha]; exact h32
        have hT := refToken_any s p wr hs0 hlt
        cases hq : tokT (restL s p) with
        | none =>
          rw [hq] at hT
          have HT := Lib.hid hT; clear hT
          have HN := Lib.hid (show lexL (sb s) = none by rw [HL.out, lexP_none s p hlt h32' hq]; rfl)
          clear hq h32 h32'
          go_upto_region 10 with (go_at_call 15; ((with_reducible refine HT.out.mono ?_); intro e w1 he; obtain ⟨h1, t, rfl⟩ := RefTok.no he; have HB1 := Lib.hid (HB.out.trans (h1.mono HB.out.size)); have HK1 := Lib.hid (HK.out.below h1 HK.out.lt); clear h1 he))
          have hB3 : Below w1.heap.size w1 (w1.alloc (.cells #[.int .i64 t.kind, .string t.text, .int .i64 t.num, .string t.sh, .int .i64 t.c, .int .i64 t.r, .bool t.ac, .bool t.ar, .int .i64 t.pos] 34)) := (Below.refl _ _).alloc (Nat.le_refl _) _
          have HB3 := Lib.hid (HB1.out.trans (hB3.mono HB1.out.size))
          have HK3 := Lib.hid (HK1.out.below hB3 HK1.out.lt)
          clear hB3
          generalize w1.alloc (.cells #[.int .i64 t.kind, .string t.text, .int .i64 t.num, .string t.sh, .int .i64 t.c, .int .i64 t.r, .bool t.ac, .bool t.ar, .int .i64 t.pos] 34) = w3 at HB3 HK3 ⊢
          obtain ⟨c0, c1⟩ := HK3.out.facts
          obtain ⟨f0, f1⟩ := HK3.out.melts
          go_wp2_with fail
          exact bodyPost_ret (out_lk (HK3.out.put2 (.slice none 0 0) 5) _ _ 2 res_rlex rfl) rfl ⟨(HB3.out.setCell (Nat.le_refl _) _).setCell (Nat.le_refl _) _, .inr (.inl ⟨by omega, HN.out, rfl⟩)⟩
        | some q =>
          obtain ⟨t0, n0⟩ := q
          rw [hq] at hT
          obtain ⟨t1, ht1⟩ : ∃ t1, t0.goto p = t1 := ⟨_, rfl⟩
          have HT := Lib.hid hT; clear hT
          have hn0 := tokT_le _ _ _ hq
          rw [length_restL] at hn0
          have HL1 := Lib.hid (show lexL (sb s) = (lexP s (p + n0)).map ((acc ++ [t0.goto p]) ++ ·) by
            rw [HL.out, lexP_tok s p hlt h32' t0 n0 hq, Option.map_map]
            congr 1; funext l; simp)
          have hn1 : ((n0 : Int) == 0) = false := beq_eq_false_iff_ne.2 (by omega)
          clear hq HL h32 h32' ht1
          go_upto_region 11 with (go_at_call 15; ((with_reducible refine HT.out.mono ?_); intro e w1 he; obtain ⟨h1, rfl⟩ := RefTok.yes he; have HB1 := Lib.hid (HB.out.trans (h1.mono HB.out.size)); have HK1 := Lib.hid (HK.out.below h1 HK.out.lt); have HO1 := Lib.hid (Own.below HO.out h1 (Nat.le_refl _)); clear h1 he))
          have hB3 : Below w1.heap.size w1 (w1.alloc (.cells #[.int .i64 t0.kind, .string t0.text, .int .i64 t0.num, .string t0.sh, .int .i64 t0.c, .int .i64 t0.r, .bool t0.ac, .bool t0.ar, .int .i64 (p : Int)] 34)) := (Below.refl _ _).alloc (Nat.le_refl _) _
          have HN3 : TkAt (w1.alloc (.cells #[.int .i64 t0.kind, .string t0.text, .int .i64 t0.num, .string t0.sh, .int .i64 t0.c, .int .i64 t0.r, .bool t0.ac, .bool t0.ar, .int .i64 (p : Int)] 34)) w1.heap.size (t0.goto p) := TkAt.new w1 (t0.goto p)
          have HB3 := Lib.hid (HB1.out.trans (hB3.mono HB1.out.size))
          have HK3 := Lib.hid (HK1.out.below hB3 HK1.out.lt)
          have HO3 := Lib.hid (Own.below HO1.out hB3 (Nat.le_refl _))
          clear hB3 HT HB1 HK1 HO1 HB HK HO
          generalize w1.alloc (.cells #[.int .i64 t0.kind, .string t0.text, .int .i64 t0.num, .string t0.sh, .int .i64 t0.c, .int .i64 t0.r, .bool t0.ac, .bool t0.ar, .int .i64 (p : Int)] 34) = w3 at HB3 HK3 HO3 HN3 ⊢
          obtain ⟨y0, y1, y2, y3, y4, y5, y6, y7, y8⟩ := HN3.cells
          clear HN3
          simp only [Tk.goto] at y0 y1 y2 y3 y4 y5 y6 y7 y8
          go_wp2_with (at_builtin; refine wpList_app HEL.out encTk rfl (.tmp 30) (.tmp 32) rfl (w.heap.size + 1) _ _ rfl (HO3.out.alloc _) ⟨_, 0, none⟩ 1 1 [t0.goto p] rfl rfl ?_ ?_ ?_ ?_ ?_; exact cells_new _ _ _ rfl; exact Nat.le_trans (Nat.mul_le_mul_left _ hEB) (by omega); (unfold maxLen; omega); (have := HK3.out.lt; simp <;> omega); intro v' wz h1 h2; have HOz := Lib.hid h1; have HBz := Lib.hid (((Below.refl (w.heap.size + 1) _).alloc (by have := HK3.out.lt; omega) _).trans h2); clear h1 h2)
          go_roundw
          case rel => exact ⟨p + n0, acc ++ [t0.goto p], by go_num, by omega, by simp; omega, HL1, HOz, Lib.hid (HK3.out.below HBz.out (Nat.lt_succ_self _)), Lib.hid (HB3.out.trans (HBz.out.mono (Nat.le_succ _)))⟩
          case measure => simp [intOf]; omega
    · have hlt2 : ¬ (p : Int) < (s.size : Int) := by omega
      have hpz : p = s.size := by omega
      have HN := Lib.hid (show lexL (sb s) = some (acc ++ [Tk.zero.goto p]) by rw [HL.out, lexP_end s p (by omega)]; rfl)
      clear HL
      obtain ⟨c0, c1⟩ := HK.out.facts
      obtain ⟨f0, f1⟩ := HK.out.melts
      go_wp2_with (at_builtin; refine wpList_app HEL.out encTk rfl (.tmp 37) (.tmp 41) rfl (w.heap.size + 1) _ _ rfl (HO.out.alloc _) ⟨_, 0, none⟩ 1 1 [Tk.zero.goto s.size] rfl rfl ?_ ?_ ?_ ?_ ?_; exact cells_new _ _ _ rfl; exact Nat.le_trans (Nat.mul_le_mul_left _ hEB) (by omega); (unfold maxLen; omega); (have := HK.out.lt; simp <;> omega); intro v' wz h1 h2; obtain ⟨gz, capz, rfl, _, _, _, _⟩ := Own.some h1 (by simp); have HOz := Lib.hid h1; have HBz := Lib.hid (((Below.refl (w.heap.size + 1) _).alloc (by have := HK.out.lt; omega) _).trans h2); clear h1 h2; have HKz := Lib.hid (HK.out.below HBz.out (Nat.lt_succ_self _)); clear c0 c1 f0 f1; obtain ⟨c0, c1⟩ := HKz.out.facts; obtain ⟨f0, f1⟩ := HKz.out.melts)
      exact bodyPost_ret (out_lk (HKz.out.put2 _ 0) _ _ 2 res_rlex rfl) rfl ⟨((HB.out.trans (HBz.out.mono (Nat.le_succ _))).setCell (Nat.le_refl _) _).setCell (Nat.le_refl _) _, .inr (.inr ⟨by omega, _, _, HN.out, rfl, by have h9 := (Own.set2 HOz.out (Nat.lt_succ_self _) (.slice (some ⟨gz, 0, none⟩) (acc.length + 1) capz) (.int .i64 0)).mono (Nat.le_succ _); rw [show (acc ++ [Tk.zero.goto s.size]).length = acc.length + 1 by simp] at h9; rw [hpz]; exact h9⟩)⟩
end Go.Proofs.YtdapnipodnhpkaaDoor
