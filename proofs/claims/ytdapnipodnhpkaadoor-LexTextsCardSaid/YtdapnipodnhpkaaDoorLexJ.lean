/-
  Layer 4, the program: Lex.
-/
import Derived.Test.YtdapnipodnhpkaaDoorLexI
namespace Go.Proofs.YtdapnipodnhpkaaDoor
open Go.RowKit

/-- Tokens in a slice. -/
def encTk : Enc Tk 9 := { f := fun t => (tokA t).toList, len := fun _ => rfl, one := fun t u hu => tok_one t u hu }
theorem Elem.tok : ∃ n, n ≤ 100 ∧ Elem Tryd.prog 23 34 9 n := ⟨80, by omega, Tryd.underlying23, ⟨.agg zTok, by kernel_rfl, rfl⟩, by decide⟩
abbrev OwnT (w : World) (base : Nat) (v : Value) (ts : List Tk) : Prop := Own encTk 34 w base v ts

/-- All tokens from a place on. -/
def lexP (s : ByteArray) (p : Nat) : Option (List Tk) := lexF (restL s p).length p (restL s p)
theorem lexL_P (s : ByteArray) : lexL (sb s) = lexP s 0 := rfl
theorem lexP_end (s : ByteArray) (p : Nat) (h : s.size ≤ p) : lexP s p = some [Tk.zero.goto p] := by
  unfold lexP; rw [restL_nil s p h]; unfold lexF; rfl
theorem lexP_blank (s : ByteArray) (p : Nat) (h : p < s.size) (ha : ((s[p].toNat : Nat) : Int) = 32) : lexP s p = lexP s (p + 1) := by
  unfold lexP; rw [restL_cons s p h, ha, List.length_cons, lexF_cons, if_pos rfl]
theorem lexP_skip (s : ByteArray) : ∀ (m p : Nat), (∀ x ∈ (restL s p).take m, isBl x = true) → p + m ≤ s.size → lexP s p = lexP s (p + m)
  | 0, _, _, _ => rfl
  | m + 1, p, h, hm => by
    have hp : p < s.size := by omega
    rw [restL_cons s p hp] at h
    have h0 : ((s[p].toNat : Nat) : Int) = 32 := by
      have := h ((s[p].toNat : Nat) : Int) (by simp)
      unfold isBl at this; simpa using this
    rw [lexP_blank s p hp h0, lexP_skip s m (p + 1) (fun x hx => h x (by simp [hx])) (by omega), show p + 1 + m = p + (m + 1) from by omega]
theorem lexP_none (s : ByteArray) (p : Nat) (h : p < s.size) (h32 : ¬ ((s[p].toNat : Nat) : Int) = 32) (ht : tokT (restL s p) = none) : lexP s p = none := by
  unfold lexP; rw [restL_cons s p h] at ht ⊢; rw [List.length_cons, lexF_cons, if_neg h32, ht]
theorem lexP_tok (s : ByteArray) (p : Nat) (h : p < s.size) (h32 : ¬ ((s[p].toNat : Nat) : Int) = 32) (t : Tk) (n : Nat) (ht : tokT (restL s p) = some (t, n)) : lexP s p = (lexP s (p + n)).map (t.goto p :: ·) := by
  have hn := tokT_le _ _ _ ht
  have hd := restL_drop s p n
  unfold lexP
  rw [restL_cons s p h] at ht hd hn ⊢
  rw [List.length_cons, lexF_cons, if_neg h32, ht]
  simp only
  rw [hd, lexF_more _ (restL s (p + n)).length _ _ (by rw [length_restL, length_restL]; omega) (Nat.le_refl _)]
theorem span_all (p : Int → Bool) (l : List Int) : ∀ x ∈ l.take (l.takeWhile p).length, p x = true := by
  have e := take_split p l
  have h : l.take (l.takeWhile p).length = l.takeWhile p := by
    have h0 : (l.takeWhile p ++ l.drop (l.takeWhile p).length).take (l.takeWhile p).length = l.takeWhile p := List.take_left
    rw [e] at h0; exact h0
  rw [h]; exact take_all p l
theorem skip_head (s : ByteArray) (p q : Nat) (hq : p + ((restL s p).takeWhile isBl).length = q) (h : q < s.size) : ¬ ((s[q].toNat : Nat) : Int) = 32 := by
  have h1 := take_head isBl (restL s p)
  rw [restL_drop, hq, restL_cons s q h] at h1
  have := h1 _ rfl
  unfold isBl at this; simpa using this
theorem skip_le (s : ByteArray) (p : Nat) (h : p ≤ s.size) : p + ((restL s p).takeWhile isBl).length ≤ s.size := by
  have := take_le isBl (restL s p); rw [length_restL] at this; omega
theorem Vars.lt {w : World} (h : Vars w) : 2 < w.heap.size := by
  obtain ⟨ev, h1, _⟩ := h.err
  rcases Nat.lt_or_ge 2 w.heap.size with h' | h'
  · exact h'
  · exfalso; unfold World.cell? at h1; simp only at h1; rw [Array.getElem?_eq_none h'] at h1; cases h1
theorem TokOut.no {b : Nat} {s : ByteArray} {k : Nat} {w w' : World} {e : Ending} (h : TokOut none b s k w e w') : w.grownBy w' (some b) ∧ ∃ t : Tk, e = .returned (.tuple #[.agg #[.int .i64 t.kind, .string t.text, .int .i64 t.num, .string t.sh, .int .i64 t.c, .int .i64 t.r, .bool t.ac, .bool t.ar, .int .i64 t.pos], .bool false]) := by
  rcases h.lit with ⟨h1, ⟨t, n, h2, _⟩ | ⟨_, h2⟩⟩
  · cases h2
  · exact ⟨h1, h2⟩
theorem TokOut.yes {b : Nat} {s : ByteArray} {k n : Nat} {t : Tk} {w w' : World} {e : Ending} (h : TokOut (some (t, n)) b s k w e w') : w.grownBy w' (some b) ∧ e = .returned (.tuple #[.agg #[.int .i64 t.kind, .string t.text, .int .i64 t.num, .string t.sh, .int .i64 t.c, .int .i64 t.r, .bool t.ac, .bool t.ar, .int .i64 t.pos], .bool true]) ∧ LxAt w' b s (k + n) := by
  rcases h.lit with ⟨h1, ⟨t', n', h2, h3, h4⟩ | ⟨h2, _⟩⟩
  · injection h2 with h2; injection h2 with h2 h5; subst h2; subst h5; exact ⟨h1, h3, h4⟩
  · cases h2
/-- What Lex answers. -/
def Lexed (s : ByteArray) (w : World) (e : Ending) (w' : World) : Prop :=
  Below w.heap.size w w' ∧ ((300 < s.size ∧ e = .returned (.tuple #[.slice none 0 0, .int .i64 4])) ∨ (s.size ≤ 300 ∧ lexL (sb s) = none ∧ e = .returned (.tuple #[.slice none 0 0, .int .i64 5])) ∨
    (s.size ≤ 300 ∧ ∃ ts v, lexL (sb s) = some ts ∧ e = .returned (.tuple #[v, .int .i64 0]) ∧ OwnT w' w.heap.size v ts))

set_option maxRecDepth 100000 in
set_option maxHeartbeats 400000 in
theorem lex_large (s : ByteArray) (w : World) (h : 300 < s.size) : Calls Tryd.prog 8 #[.string s] w (Lexed s w) := by
  have hi : (300 : Int) < (s.size : Int) := by omega
  go_enter Tryd.func8, Tryd.ntmps8
  go_wp2_with fail
  go_ret2
  exact ⟨Below.refl _ _, .inl ⟨h, rfl⟩⟩

set_option maxRecDepth 100000 in
set_option maxHeartbeats 4000000 in
theorem lex_any (s : ByteArray) (w : World) (hv : Vars w) : Calls Tryd.prog 8 #[.string s] w (Lexed s w) := by
  by_cases hbig : 300 < s.size
  · exact lex_large s w hbig
  have hi : ¬ (300 : Int) < (s.size : Int) := by omega
  have hs0 : s.size ≤ 1000000 := by omega
  obtain ⟨eb, hEB, EL⟩ := Elem.tok
  have HEL := Lib.hid EL; clear EL
  have hb2 := hv.lt
  have HV := Lib.hid hv; clear hv
  have hsk := skipBlanks_any w.heap.size s 0 _ (LxAt.new w s) hs0 (by omega)
  rw [Nat.zero_add] at hsk
  obtain ⟨p0, hp0⟩ : ∃ p0, ((restL s 0).takeWhile isBl).length = p0 := ⟨_, rfl⟩
  rw [hp0] at hsk
  have HSK := Lib.hid hsk; clear hsk
  have hp0le := skip_le s 0 (Nat.zero_le _)
  rw [Nat.zero_add, hp0] at hp0le
  have HL0 := Lib.hid (show lexL (sb s) = (lexP s p0).map (([] : List Tk) ++ ·) by
    have := lexP_skip s p0 0 (by rw [← hp0]; exact span_all _ _) (by omega)
    rw [lexL_P, this, Nat.zero_add]; cases lexP s p0 <;> rfl)
  have HH0 := Lib.hid (fun h => skip_head s 0 p0 (by rw [hp0]; omega) h)
  clear hp0
  go_enter Tryd.func8, Tryd.ntmps8
  go_wp2_with (go_at_call 13; ((with_reducible refine HSK.out.mono ?_); rintro e w1 ⟨h1, rfl, h2⟩; have HB := Lib.hid (below_of_grownBy ((Below.refl _ _).alloc (Nat.le_refl _) _) h1 (by simp) (Nat.le_refl _)); have HR := Lib.hid h2; clear h1 h2))
  go_loopw [5] (fun v wr => ∃ (p : Nat) (acc : List Tk), p ≤ s.size ∧ acc.length ≤ p ∧ Hid (lexL (sb s) = (lexP s p).map (acc ++ ·)) ∧ Hid (∀ h : p < s.size, ¬ ((s[p].toNat : Nat) : Int) = 32) ∧ Hid (LxAt wr w.heap.size s p) ∧ Hid (OwnT wr (w.heap.size + 1) v acc) ∧ Hid (Below w.heap.size w wr))
    (fun _ wr => lxm w.heap.size s.size wr)
  case atStart => exact ⟨p0, [], hp0le, by simp, HL0, HH0, HR, Lib.hid (Own.nil _ _ _ _), HB⟩
  case round =>
    clear HL0 HH0 HSK HR HB
    obtain ⟨p, acc, hps, hal, HL, HH, HR, HO, HB⟩ := hrel
    obtain ⟨c0, c1⟩ := HR.out.facts
    have HME := Lib.hid (HR.out.lxm s.size)
    by_cases hlt : p < s.size
    · have hlt2 : (p : Int) < (s.size : Int) := by omega
      have hT := token_any w.heap.size s p wr HR.out hs0 hlt hb2 (HV.out.below HB.out)
      cases hq : tokT (restL s p) with
      | none =>
        rw [hq] at hT
        have HT := Lib.hid hT; clear hT
        have HN := Lib.hid (show lexL (sb s) = none by rw [HL.out, lexP_none s p hlt (HH.out hlt) hq]; rfl)
        clear hq
        go_wp2_with (go_at_call 14; ((with_reducible refine HT.out.mono ?_); intro e w1 he; obtain ⟨h1, t, rfl⟩ := TokOut.no he; have HB1 := Lib.hid (below_of_grownBy HB.out h1 HB.out.size (Nat.le_refl _)); clear h1 he))
        go_ret2
        exact ⟨HB1.out.alloc HB1.out.size _, .inr (.inl ⟨by omega, HN.out, rfl⟩)⟩
      | some q =>
        obtain ⟨t0, n0⟩ := q
        rw [hq] at hT
        obtain ⟨t1, ht1⟩ : ∃ t1, t0.goto p = t1 := ⟨_, rfl⟩
        have hT : Calls Tryd.prog 14 #[.pointer (some ⟨w.heap.size, 0, none⟩)] wr (TokOut (some (t1, n0)) w.heap.size s p wr) := by rw [← ht1]; exact hT
        have HT := Lib.hid hT; clear hT
        have hn0 := tokT_le _ _ _ hq
        rw [length_restL] at hn0
        have HL1 := Lib.hid (show lexL (sb s) = (lexP s (p + n0)).map ((acc ++ [t1]) ++ ·) by
          rw [← ht1, HL.out, lexP_tok s p hlt (HH.out hlt) t0 n0 hq, Option.map_map]
          congr 1; funext l; simp)
        clear hq HL HH ht1
        have hlt6 : p + n0 ≤ s.size := by omega
        go_upto_region 11 with (go_at_call 14; ((with_reducible refine HT.out.mono ?_); intro e w1 he; obtain ⟨h1, rfl, h2⟩ := TokOut.yes he; have HB1 := Lib.hid (below_of_grownBy HB.out h1 HB.out.size (Nat.le_refl _)); have HO1 := Lib.hid (Own.other HO.out h1 (Nat.lt_succ_self _)); have HR1 := Lib.hid h2; clear h1 h2 he))
        have hB3 : Below w1.heap.size w1 (w1.alloc (.cells #[.int .i64 t1.kind, .string t1.text, .int .i64 t1.num, .string t1.sh, .int .i64 t1.c, .int .i64 t1.r, .bool t1.ac, .bool t1.ar, .int .i64 t1.pos] 34)) := (Below.refl _ _).alloc (Nat.le_refl _) _
        have HN3 : TkAt (w1.alloc (.cells #[.int .i64 t1.kind, .string t1.text, .int .i64 t1.num, .string t1.sh, .int .i64 t1.c, .int .i64 t1.r, .bool t1.ac, .bool t1.ar, .int .i64 t1.pos] 34)) w1.heap.size t1 := TkAt.new w1 t1
        have HR3 := Lib.hid (HR1.out.below hB3 HR1.out.lt)
        have HO3 := Lib.hid (HO1.out.alloc (.cells #[.int .i64 t1.kind, .string t1.text, .int .i64 t1.num, .string t1.sh, .int .i64 t1.c, .int .i64 t1.r, .bool t1.ac, .bool t1.ar, .int .i64 t1.pos] 34))
        have HB3 := Lib.hid (HB1.out.trans (hB3.mono HB1.out.size))
        clear hB3 HT HB1 HO1 HR1 HB HO HR c0 c1
        generalize w1.alloc (.cells #[.int .i64 t1.kind, .string t1.text, .int .i64 t1.num, .string t1.sh, .int .i64 t1.c, .int .i64 t1.r, .bool t1.ac, .bool t1.ar, .int .i64 t1.pos] 34) = w3 at HR3 HN3 HO3 HB3 ⊢
        obtain ⟨y0, y1, y2, y3, y4, y5, y6, y7, y8⟩ := HN3.cells
        clear HN3
        go_upto_region 7 with (at_builtin; refine wpList_app HEL.out encTk rfl (.tmp 32) (.tmp 34) rfl (w.heap.size + 1) _ _ rfl (HO3.out.alloc _) ⟨_, 0, none⟩ 1 1 [t1] rfl rfl ?_ ?_ ?_ ?_ ?_; exact cells_new _ _ _ rfl; exact Nat.le_trans (Nat.mul_le_mul_left _ hEB) (by omega); (unfold maxLen; omega); (have := HR3.out.lt; simp <;> omega); intro v' wz h1 h2; have HOz := Lib.hid h1; have HBz := Lib.hid (((Below.refl (w.heap.size + 1) _).alloc (by have := HR3.out.lt; omega) _).trans h2); clear h1 h2)
        have HR4 := Lib.hid (HR3.out.below HBz.out (Nat.lt_succ_self _))
        have HB4 := Lib.hid (HB3.out.trans (HBz.out.mono (Nat.le_succ _)))
        have hsk2 := skipBlanks_any w.heap.size s (p + n0) wz HR4.out hs0 hlt6
        obtain ⟨q, hq⟩ : ∃ q, p + n0 + ((restL s (p + n0)).takeWhile isBl).length = q := ⟨_, rfl⟩
        rw [hq] at hsk2
        have HSK2 := Lib.hid hsk2; clear hsk2
        have hqle := skip_le s (p + n0) hlt6
        rw [hq] at hqle
        have HL5 := Lib.hid (show lexL (sb s) = (lexP s q).map ((acc ++ [t1]) ++ ·) by
          rw [HL1.out, ← hq]
          have := lexP_skip s _ (p + n0) (span_all isBl _) (by rw [hq]; exact hqle)
          rw [this])
        have HH5 := Lib.hid (fun h => skip_head s (p + n0) q hq h)
        have hpq : p < q := by omega
        clear hq HL1
        go_wp2_with (go_at_call 13; ((with_reducible refine HSK2.out.mono ?_); rintro e w5 ⟨h1, rfl, h2⟩; have HB5 := Lib.hid (below_of_grownBy HB4.out h1 HB4.out.size (Nat.le_refl _)); have HO5 := Lib.hid (Own.other HOz.out h1 (Nat.lt_succ_self _)); have HR5 := Lib.hid h2; clear h1 h2))
        go_roundw
        case rel => exact ⟨q, acc ++ [t1], hqle, by simp; omega, HL5, HH5, HR5, HO5, HB5⟩
        case measure =>
          have h1 := HR5.out.lxm s.size
          rw [HME.out, h1]; omega
    · have hlt2 : ¬ (p : Int) < (s.size : Int) := by omega
      have HN := Lib.hid (show lexL (sb s) = some (acc ++ [Tk.zero.goto p]) by rw [HL.out, lexP_end s p (by omega)]; rfl)
      clear HL HH
      go_wp2_with (at_builtin; refine wpList_app HEL.out encTk rfl (.tmp 36) (.tmp 42) rfl (w.heap.size + 1) _ _ rfl (HO.out.alloc _) ⟨_, 0, none⟩ 1 1 [Tk.zero.goto p] rfl rfl ?_ ?_ ?_ ?_ ?_; exact cells_new _ _ _ rfl; exact Nat.le_trans (Nat.mul_le_mul_left _ hEB) (by omega); (unfold maxLen; omega); (have := HR.out.lt; simp <;> omega); intro v' wz h1 h2; have HOz := Lib.hid h1; have HBz := Lib.hid (((Below.refl (w.heap.size + 1) _).alloc (by have := HR.out.lt; omega) _).trans h2); clear h1 h2)
      go_ret2
      exact ⟨HB.out.trans (HBz.out.mono (by have := HR.out.lt; omega)), .inr (.inr ⟨by omega, _, _, HN.out, rfl, HOz.out.mono (by omega)⟩)⟩
end Go.Proofs.YtdapnipodnhpkaaDoor
