/-
  Layer 4, the reference: the next token.
-/
import Derived.Test.YtdapnipodnhpkaaDoorLexRB
import Derived.Test.YtdapnipodnhpkaaDoorLexRD
import Derived.Test.YtdapnipodnhpkaaDoorLexRE
namespace Go.Proofs.YtdapnipodnhpkaaDoor
open Go.RowKit

theorem RefTok.no {k : Nat} {w w' : World} {e : Ending} (h : RefTok none k w e w') : Below w.heap.size w w' ∧ ∃ t : Tk, e = .returned (.tuple #[.agg #[.int .i64 t.kind, .string t.text, .int .i64 t.num, .string t.sh, .int .i64 t.c, .int .i64 t.r, .bool t.ac, .bool t.ar, .int .i64 t.pos], .int .i64 0]) := by
  rcases h with ⟨h1, ⟨t, n, h2, _⟩ | ⟨_, h2⟩⟩
  · cases h2
  · exact ⟨h1, h2⟩
theorem RefTok.yes {k n : Nat} {t : Tk} {w w' : World} {e : Ending} (h : RefTok (some (t, n)) k w e w') : Below w.heap.size w w' ∧ e = .returned (.tuple #[.agg #[.int .i64 t.kind, .string t.text, .int .i64 t.num, .string t.sh, .int .i64 t.c, .int .i64 t.r, .bool t.ac, .bool t.ar, .int .i64 (k : Int)], .int .i64 (n : Int)]) := by
  rcases h with ⟨h1, ⟨t', n', h2, h3⟩ | ⟨h2, _⟩⟩
  · injection h2 with h2; injection h2 with h2 h5; subst h2; subst h5; exact ⟨h1, h3⟩
  · cases h2
theorem res_rtoken : Tryd.f15.results = #[.cell 4 34, .tmp 5] := by kernel_rfl
theorem sign_T (s : ByteArray) (k : Nat) : signT (restL s k) = if (signS s k).size = 0 then none else some ({ Tk.zero with kind := 5, text := signS s k }, (signS s k).size) := by
  have h : (signS s k).size = signN (restL s k) := by
    unfold signS; rw [strOfNums_size, List.length_take]; have := signN_le (restL s k); omega
  unfold signT; rw [h]; rfl
theorem dead_T (s : ByteArray) (k : Nat) : deadT (restL s k) = if k + 5 ≤ s.size ∧ s.extract k (k + 5) = ⟨#[35, 82, 69, 70, 33]⟩ then some ({ Tk.zero with kind := 6 }, 5) else none := by
  unfold deadT
  by_cases h : (restL s k).take 5 = [35, 82, 69, 70, 33]
  · have hlen : k + 5 ≤ s.size := by
      have := congrArg List.length h
      rw [List.length_take, length_restL] at this; simp at this; omega
    rw [if_pos h, if_pos ⟨hlen, extract_sb s _ k 5 (by rw [h]; decide)⟩]
  · rw [if_neg h, if_neg]
    rintro ⟨_, h2⟩
    apply h
    have := ext_sbL s k 5
    rw [h2] at this
    exact this.symm

set_option maxRecDepth 100000 in
set_option maxHeartbeats 4000000 in
theorem refToken_any (s : ByteArray) (k : Nat) (w : World) (_hs : s.size ≤ 1000000) (_hk : k < s.size) :
    Calls Tryd.prog 15 #[.string s, .int .i64 (k : Int)] w (RefTok (tokT (restL s k)) k w) := by
  have HTK := Lib.hid (TkAt.zero w)
  have HAL := Lib.hid (show Below w.heap.size w (w.alloc (.cells zTok 34)) from (Below.refl _ _).alloc (Nat.le_refl _) _)
  have hz0 : (0 : Int) ≤ (k : Int) := by omega
  have hz1 : (k : Int) < (s.size : Int) := by omega
  obtain ⟨a, ha⟩ : ∃ a : Int, (s[k].toNat : Int) = a := ⟨_, rfl⟩
  have ha1 : 0 ≤ a ∧ a ≤ 255 := by have := s[k].toNat_lt; omega
  have hcs := restL_cons s k _hk
  rw [ha] at hcs
  have htk := tokT_cons a (restL s (k + 1))
  rw [← hcs] at htk
  clear hcs
  cases hn : isNum a
  · rw [hn, if_neg (by simp)] at htk
    by_cases h34 : a = 34
    · rw [if_pos h34] at htk
      have hb34 : (a == 34) = true := beq_iff_eq.2 h34
      cases hq : quoT (restL s (k + 1)) with
      | none =>
        rw [hq] at htk
        have HTQ := Lib.hid htk; clear htk
        have hc := refQuoted_any s k (w.alloc (.cells zTok 34)) _hs _hk
        rw [hq] at hc
        have HC := Lib.hid hc; clear hc hq h34
        go_enter Tryd.func15, Tryd.ntmps15
        go_wp2_with (first
          | (go_at_call 21; ((with_reducible refine (refDigit_any _ ?_ ?_ _).mono ?_); (first | omega | skip); (first | omega | skip); rintro e w' ⟨rfl, rfl⟩; rw [hn]))
          | (go_at_call 23; ((with_reducible refine HC.out.mono ?_); intro e w1 he; obtain ⟨h1, t, rfl⟩ := RefTok.no he; have HB1 := Lib.hid (HAL.out.trans (h1.mono HAL.out.size)); have HT1 := Lib.hid (HTK.out.below h1 HTK.out.lt); clear h1 he; obtain ⟨x0, x1, x2, x3, x4, x5, x6, x7, x8⟩ := HT1.out.cells; obtain ⟨f0, f1, f2, f3, f4, f5, f6, f7, f8⟩ := HT1.out.melts)))
        exact bodyPost_ret (out_tokn (HT1.out.put9 t) _ _ 0 4 5 res_rtoken rfl rfl) rfl ⟨below_set9 HB1.out (Nat.le_refl _) _ _ _ _ _ _ _ _ _, .inr ⟨HTQ.out, t, rfl⟩⟩
      | some q =>
        obtain ⟨t, n⟩ := q
        rw [hq] at htk
        have HTQ := Lib.hid htk; clear htk
        have hc := refQuoted_any s k (w.alloc (.cells zTok 34)) _hs _hk
        rw [hq] at hc
        have HC := Lib.hid hc; clear hc hq h34
        go_enter Tryd.func15, Tryd.ntmps15
        go_wp2_with (first
          | (go_at_call 21; ((with_reducible refine (refDigit_any _ ?_ ?_ _).mono ?_); (first | omega | skip); (first | omega | skip); rintro e w' ⟨rfl, rfl⟩; rw [hn]))
          | (go_at_call 23; ((with_reducible refine HC.out.mono ?_); intro e w1 he; obtain ⟨h1, rfl⟩ := RefTok.yes he; have HB1 := Lib.hid (HAL.out.trans (h1.mono HAL.out.size)); have HT1 := Lib.hid (HTK.out.below h1 HTK.out.lt); clear h1 he; obtain ⟨x0, x1, x2, x3, x4, x5, x6, x7, x8⟩ := HT1.out.cells; obtain ⟨f0, f1, f2, f3, f4, f5, f6, f7, f8⟩ := HT1.out.melts)))
        exact bodyPost_ret (out_tokn (HT1.out.put9 (t.goto k)) _ _ (n : Int) 4 5 res_rtoken rfl rfl) rfl ⟨below_set9 HB1.out (Nat.le_refl _) _ _ _ _ _ _ _ _ _, .inl ⟨t, n, HTQ.out, rfl⟩⟩
    · rw [if_neg h34] at htk
      have hb34 : (a == 34) = false := beq_eq_false_iff_ne.2 h34
      by_cases h35 : a = 35
      · rw [if_pos h35, dead_T] at htk
        have hb35 : (a == 35) = true := beq_iff_eq.2 h35
        by_cases h5 : k + 5 ≤ s.size
        · have hi5 : (k : Int) + 5 ≤ (s.size : Int) := by omega
          by_cases hE : s.extract k (k + 5) = ⟨#[35, 82, 69, 70, 33]⟩
          · rw [if_pos ⟨h5, hE⟩] at htk
            have HTQ := Lib.hid htk
            clear htk h34 h35
            go_enter Tryd.func15, Tryd.ntmps15
            go_wp2_with (first
              | (go_at_call 21; ((with_reducible refine (refDigit_any _ ?_ ?_ _).mono ?_); (first | omega | skip); (first | omega | skip); rintro e w' ⟨rfl, rfl⟩; rw [hn])))
            exact bodyPost_ret (out_tokn (TkAt.new w (({ Tk.zero with kind := 6 } : Tk).goto k)) _ _ 5 4 5 res_rtoken rfl rfl) rfl ⟨(Below.refl _ _).alloc (Nat.le_refl _) _, .inl ⟨_, 5, HTQ.out, rfl⟩⟩
          · rw [if_neg (fun h => hE h.2)] at htk
            have HTQ := Lib.hid htk
            have hEb : ((s.extract k (k + 5)).toList == [35, 82, 69, 70, 33]) = false := beq_eq_false_iff_ne.2 (fun h => hE (by rw [list_bytes] at h; exact congrArg ByteArray.mk (Array.toList_inj.1 h)))
            clear htk h34 h35 hE
            go_enter Tryd.func15, Tryd.ntmps15
            go_wp2_with (first
              | (go_at_call 21; ((with_reducible refine (refDigit_any _ ?_ ?_ _).mono ?_); (first | omega | skip); (first | omega | skip); rintro e w' ⟨rfl, rfl⟩; rw [hn])))
            exact bodyPost_ret (out_tokn (TkAt.zero w) _ _ 0 4 5 res_rtoken rfl rfl) rfl ⟨(Below.refl _ _).alloc (Nat.le_refl _) _, .inr ⟨HTQ.out, _, rfl⟩⟩
        · have hi5 : ¬ (k : Int) + 5 ≤ (s.size : Int) := by omega
          rw [if_neg (fun h => h5 h.1)] at htk
          have HTQ := Lib.hid htk
          clear htk h34 h35
          go_enter Tryd.func15, Tryd.ntmps15
          go_wp2_with (first
            | (go_at_call 21; ((with_reducible refine (refDigit_any _ ?_ ?_ _).mono ?_); (first | omega | skip); (first | omega | skip); rintro e w' ⟨rfl, rfl⟩; rw [hn])))
          exact bodyPost_ret (out_tokn (TkAt.zero w) _ _ 0 4 5 res_rtoken rfl rfl) rfl ⟨(Below.refl _ _).alloc (Nat.le_refl _) _, .inr ⟨HTQ.out, _, rfl⟩⟩
      · rw [if_neg h35] at htk
        have hb35 : (a == 35) = false := beq_eq_false_iff_ne.2 h35
        cases hl : isLet a
        · by_cases h36 : a = 36
          · rw [if_pos (.inr h36)] at htk
            have hb36 : (a == 36) = true := beq_iff_eq.2 h36
            cases hq : wordT (restL s k) with
            | none =>
              rw [hq] at htk
              have HTQ := Lib.hid htk; clear htk
              have hc := refWord_any s k (w.alloc (.cells zTok 34)) _hs (Nat.le_of_lt _hk)
              rw [hq] at hc
              have HC := Lib.hid hc; clear hc hq h34 h35 h36
              go_enter Tryd.func15, Tryd.ntmps15
              go_wp2_with (first
                | (go_at_call 21; ((with_reducible refine (refDigit_any _ ?_ ?_ _).mono ?_); (first | omega | skip); (first | omega | skip); rintro e w' ⟨rfl, rfl⟩; rw [hn])) | (go_at_call 24; ((with_reducible refine (refLetter_any _ ?_ ?_ _).mono ?_); (first | omega | skip); (first | omega | skip); rintro e w' ⟨rfl, rfl⟩; rw [hl]))
                | (go_at_call 25; ((with_reducible refine HC.out.mono ?_); intro e w1 he; obtain ⟨h1, t, rfl⟩ := RefTok.no he; have HB1 := Lib.hid (HAL.out.trans (h1.mono HAL.out.size)); have HT1 := Lib.hid (HTK.out.below h1 HTK.out.lt); clear h1 he; obtain ⟨x0, x1, x2, x3, x4, x5, x6, x7, x8⟩ := HT1.out.cells; obtain ⟨f0, f1, f2, f3, f4, f5, f6, f7, f8⟩ := HT1.out.melts)))
              exact bodyPost_ret (out_tokn (HT1.out.put9 t) _ _ 0 4 5 res_rtoken rfl rfl) rfl ⟨below_set9 HB1.out (Nat.le_refl _) _ _ _ _ _ _ _ _ _, .inr ⟨HTQ.out, t, rfl⟩⟩
            | some q =>
              obtain ⟨t, n⟩ := q
              rw [hq] at htk
              have HTQ := Lib.hid htk; clear htk
              have hc := refWord_any s k (w.alloc (.cells zTok 34)) _hs (Nat.le_of_lt _hk)
              rw [hq] at hc
              have HC := Lib.hid hc; clear hc hq h34 h35 h36
              go_enter Tryd.func15, Tryd.ntmps15
              go_wp2_with (first
                | (go_at_call 21; ((with_reducible refine (refDigit_any _ ?_ ?_ _).mono ?_); (first | omega | skip); (first | omega | skip); rintro e w' ⟨rfl, rfl⟩; rw [hn])) | (go_at_call 24; ((with_reducible refine (refLetter_any _ ?_ ?_ _).mono ?_); (first | omega | skip); (first | omega | skip); rintro e w' ⟨rfl, rfl⟩; rw [hl]))
                | (go_at_call 25; ((with_reducible refine HC.out.mono ?_); intro e w1 he; obtain ⟨h1, rfl⟩ := RefTok.yes he; have HB1 := Lib.hid (HAL.out.trans (h1.mono HAL.out.size)); have HT1 := Lib.hid (HTK.out.below h1 HTK.out.lt); clear h1 he; obtain ⟨x0, x1, x2, x3, x4, x5, x6, x7, x8⟩ := HT1.out.cells; obtain ⟨f0, f1, f2, f3, f4, f5, f6, f7, f8⟩ := HT1.out.melts)))
              exact bodyPost_ret (out_tokn (HT1.out.put9 (t.goto k)) _ _ (n : Int) 4 5 res_rtoken rfl rfl) rfl ⟨below_set9 HB1.out (Nat.le_refl _) _ _ _ _ _ _ _ _ _, .inl ⟨t, n, HTQ.out, rfl⟩⟩
          · rw [if_neg (by rw [hl]; simp; exact h36), sign_T] at htk
            have hb36 : (a == 36) = false := beq_eq_false_iff_ne.2 h36
            have HC := Lib.hid (refSign_any s k (w.alloc (.cells zTok 34)) _hs _hk)
            obtain ⟨E, hE⟩ : ∃ E, signS s k = E := ⟨_, rfl⟩
            rw [hE] at HC htk
            clear h34 h35 h36 hE
            by_cases h0 : E.size = 0
            · rw [if_pos h0] at htk
              have HTQ := Lib.hid htk; clear htk
              have hei : (E.size : Int) = 0 := by omega
              go_enter Tryd.func15, Tryd.ntmps15
              go_wp2_with (first
                | (go_at_call 21; ((with_reducible refine (refDigit_any _ ?_ ?_ _).mono ?_); (first | omega | skip); (first | omega | skip); rintro e w' ⟨rfl, rfl⟩; rw [hn]))
                | (go_at_call 24; ((with_reducible refine (refLetter_any _ ?_ ?_ _).mono ?_); (first | omega | skip); (first | omega | skip); rintro e w' ⟨rfl, rfl⟩; rw [hl]))
                | (go_at_call 26; ((with_reducible refine HC.out.mono ?_); rintro e w' ⟨rfl, rfl⟩)))
              exact bodyPost_ret (out_tokn (TkAt.new w (({ Tk.zero with kind := 5, text := E } : Tk).goto k)) _ _ 0 4 5 res_rtoken rfl rfl) rfl ⟨(Below.refl _ _).alloc (Nat.le_refl _) _, .inr ⟨HTQ.out, (({ Tk.zero with kind := 5, text := E } : Tk).goto k), rfl⟩⟩
            · rw [if_neg h0] at htk
              have HTQ := Lib.hid htk; clear htk
              go_enter Tryd.func15, Tryd.ntmps15
              go_wp2_with (first
                | (go_at_call 21; ((with_reducible refine (refDigit_any _ ?_ ?_ _).mono ?_); (first | omega | skip); (first | omega | skip); rintro e w' ⟨rfl, rfl⟩; rw [hn]))
                | (go_at_call 24; ((with_reducible refine (refLetter_any _ ?_ ?_ _).mono ?_); (first | omega | skip); (first | omega | skip); rintro e w' ⟨rfl, rfl⟩; rw [hl]))
                | (go_at_call 26; ((with_reducible refine HC.out.mono ?_); rintro e w' ⟨rfl, rfl⟩)))
              exact bodyPost_ret (out_tokn (TkAt.new w (({ Tk.zero with kind := 5, text := E } : Tk).goto k)) _ _ (E.size : Int) 4 5 res_rtoken rfl rfl) rfl ⟨(Below.refl _ _).alloc (Nat.le_refl _) _, .inl ⟨_, E.size, HTQ.out, rfl⟩⟩
        · rw [if_pos (.inl hl)] at htk
          cases hq : wordT (restL s k) with
          | none =>
            rw [hq] at htk
            have HTQ := Lib.hid htk; clear htk
            have hc := refWord_any s k (w.alloc (.cells zTok 34)) _hs (Nat.le_of_lt _hk)
            rw [hq] at hc
            have HC := Lib.hid hc; clear hc hq h34 h35
            go_enter Tryd.func15, Tryd.ntmps15
            go_wp2_with (first
              | (go_at_call 21; ((with_reducible refine (refDigit_any _ ?_ ?_ _).mono ?_); (first | omega | skip); (first | omega | skip); rintro e w' ⟨rfl, rfl⟩; rw [hn])) | (go_at_call 24; ((with_reducible refine (refLetter_any _ ?_ ?_ _).mono ?_); (first | omega | skip); (first | omega | skip); rintro e w' ⟨rfl, rfl⟩; rw [hl]))
              | (go_at_call 25; ((with_reducible refine HC.out.mono ?_); intro e w1 he; obtain ⟨h1, t, rfl⟩ := RefTok.no he; have HB1 := Lib.hid (HAL.out.trans (h1.mono HAL.out.size)); have HT1 := Lib.hid (HTK.out.below h1 HTK.out.lt); clear h1 he; obtain ⟨x0, x1, x2, x3, x4, x5, x6, x7, x8⟩ := HT1.out.cells; obtain ⟨f0, f1, f2, f3, f4, f5, f6, f7, f8⟩ := HT1.out.melts)))
            exact bodyPost_ret (out_tokn (HT1.out.put9 t) _ _ 0 4 5 res_rtoken rfl rfl) rfl ⟨below_set9 HB1.out (Nat.le_refl _) _ _ _ _ _ _ _ _ _, .inr ⟨HTQ.out, t, rfl⟩⟩
          | some q =>
            obtain ⟨t, n⟩ := q
            rw [hq] at htk
            have HTQ := Lib.hid htk; clear htk
            have hc := refWord_any s k (w.alloc (.cells zTok 34)) _hs (Nat.le_of_lt _hk)
            rw [hq] at hc
            have HC := Lib.hid hc; clear hc hq h34 h35
            go_enter Tryd.func15, Tryd.ntmps15
            go_wp2_with (first
              | (go_at_call 21; ((with_reducible refine (refDigit_any _ ?_ ?_ _).mono ?_); (first | omega | skip); (first | omega | skip); rintro e w' ⟨rfl, rfl⟩; rw [hn])) | (go_at_call 24; ((with_reducible refine (refLetter_any _ ?_ ?_ _).mono ?_); (first | omega | skip); (first | omega | skip); rintro e w' ⟨rfl, rfl⟩; rw [hl]))
              | (go_at_call 25; ((with_reducible refine HC.out.mono ?_); intro e w1 he; obtain ⟨h1, rfl⟩ := RefTok.yes he; have HB1 := Lib.hid (HAL.out.trans (h1.mono HAL.out.size)); have HT1 := Lib.hid (HTK.out.below h1 HTK.out.lt); clear h1 he; obtain ⟨x0, x1, x2, x3, x4, x5, x6, x7, x8⟩ := HT1.out.cells; obtain ⟨f0, f1, f2, f3, f4, f5, f6, f7, f8⟩ := HT1.out.melts)))
            exact bodyPost_ret (out_tokn (HT1.out.put9 (t.goto k)) _ _ (n : Int) 4 5 res_rtoken rfl rfl) rfl ⟨below_set9 HB1.out (Nat.le_refl _) _ _ _ _ _ _ _ _ _, .inl ⟨t, n, HTQ.out, rfl⟩⟩
  · rw [hn, if_pos rfl] at htk
    cases hq : numT (restL s k) with
    | none =>
      rw [hq] at htk
      have HTQ := Lib.hid htk; clear htk
      have hc := refNumber_any s k (w.alloc (.cells zTok 34)) _hs (Nat.le_of_lt _hk)
      rw [hq] at hc
      have HC := Lib.hid hc; clear hc hq
      go_enter Tryd.func15, Tryd.ntmps15
      go_wp2_with (first
        | (go_at_call 21; ((with_reducible refine (refDigit_any _ ?_ ?_ _).mono ?_); (first | omega | skip); (first | omega | skip); rintro e w' ⟨rfl, rfl⟩; rw [hn]))
        | (go_at_call 22; ((with_reducible refine HC.out.mono ?_); intro e w1 he; obtain ⟨h1, t, rfl⟩ := RefTok.no he; have HB1 := Lib.hid (HAL.out.trans (h1.mono HAL.out.size)); have HT1 := Lib.hid (HTK.out.below h1 HTK.out.lt); clear h1 he; obtain ⟨x0, x1, x2, x3, x4, x5, x6, x7, x8⟩ := HT1.out.cells; obtain ⟨f0, f1, f2, f3, f4, f5, f6, f7, f8⟩ := HT1.out.melts)))
      exact bodyPost_ret (out_tokn (HT1.out.put9 t) _ _ 0 4 5 res_rtoken rfl rfl) rfl ⟨below_set9 HB1.out (Nat.le_refl _) _ _ _ _ _ _ _ _ _, .inr ⟨HTQ.out, t, rfl⟩⟩
    | some q =>
      obtain ⟨t, n⟩ := q
      rw [hq] at htk
      have HTQ := Lib.hid htk; clear htk
      have hc := refNumber_any s k (w.alloc (.cells zTok 34)) _hs (Nat.le_of_lt _hk)
      rw [hq] at hc
      have HC := Lib.hid hc; clear hc hq
      go_enter Tryd.func15, Tryd.ntmps15
      go_wp2_with (first
        | (go_at_call 21; ((with_reducible refine (refDigit_any _ ?_ ?_ _).mono ?_); (first | omega | skip); (first | omega | skip); rintro e w' ⟨rfl, rfl⟩; rw [hn]))
        | (go_at_call 22; ((with_reducible refine HC.out.mono ?_); intro e w1 he; obtain ⟨h1, rfl⟩ := RefTok.yes he; have HB1 := Lib.hid (HAL.out.trans (h1.mono HAL.out.size)); have HT1 := Lib.hid (HTK.out.below h1 HTK.out.lt); clear h1 he; obtain ⟨x0, x1, x2, x3, x4, x5, x6, x7, x8⟩ := HT1.out.cells; obtain ⟨f0, f1, f2, f3, f4, f5, f6, f7, f8⟩ := HT1.out.melts)))
      exact bodyPost_ret (out_tokn (HT1.out.put9 (t.goto k)) _ _ (n : Int) 4 5 res_rtoken rfl rfl) rfl ⟨below_set9 HB1.out (Nat.le_refl _) _ _ _ _ _ _ _ _ _, .inl ⟨t, n, HTQ.out, rfl⟩⟩
end Go.Proofs.YtdapnipodnhpkaaDoor
