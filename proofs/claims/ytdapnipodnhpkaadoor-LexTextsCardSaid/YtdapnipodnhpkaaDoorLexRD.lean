/-
  Layer 4, the reference: words, walked.
-/
import Derived.Test.YtdapnipodnhpkaaDoorLexRC
namespace Go.Proofs.YtdapnipodnhpkaaDoor
open Go.RowKit

theorem ref_word (s : ByteArray) (k m p : Nat) (hp : k + m = p) (hkm : k + m ≤ s.size) (hall : ∀ x ∈ (restL s k).take m, isWord x = true) (hstop : ∀ x, (restL s k)[m]? = some x → isWord x = false) :
    wordT (restL s k) = match readS (s.extract k p) with
      | some d => some ({ Tk.zero with kind := 4, sh := d.sh, c := d.c, r := d.r, ac := d.ac, ar := d.ar }, m)
      | none => if calledL (sb (s.extract k p)) = true then some ({ Tk.zero with kind := 3, text := s.extract k p }, m) else none := by
  subst hp
  have hsp := span_stop isWord (restL s k) m hall hstop
  have hlen : ((restL s k).take m).length = m := by rw [List.length_take, length_restL]; omega
  have hc := restL_cut s k m
  have hb : sb (s.extract k (k + m)) = (restL s k).take m := by rw [hc]; exact sb_str _ (fun x hx => restL_bd s k x (List.mem_of_mem_take hx))
  rw [word_val _ _ hsp, hlen, ← hc, hb]
  rfl
theorem res_rword : Tryd.f25.results = #[.cell 4 34, .tmp 5] := by kernel_rfl
theorem word_no {a : Int} (hl : isLet a = false) (hn : isNum a = false) (h36 : ¬ a = 36) (h33 : ¬ a = 33) : isWord a = false := by unfold isWord; rw [hl, hn, decide_eq_false (by omega)]; rfl
theorem word_l {a : Int} (hl : isLet a = true) : isWord a = true := by unfold isWord; rw [hl]; rfl
theorem word_n {a : Int} (hn : isNum a = true) : isWord a = true := by unfold isWord; rw [hn]; simp
theorem word_s {a : Int} (h : a = 36 ∨ a = 33) : isWord a = true := by unfold isWord; rw [decide_eq_true h]; simp

set_option maxRecDepth 100000 in
set_option maxHeartbeats 4000000 in
theorem refWord_any (s : ByteArray) (k : Nat) (w : World) (_hs : s.size ≤ 1000000) (_hk : k ≤ s.size) :
    Calls Tryd.prog 25 #[.string s, .int .i64 (k : Int)] w (RefTok (wordT (restL s k)) k w) := by
  have HTK := Lib.hid (TkAt.zero w)
  have HAL := Lib.hid (show Below w.heap.size w (w.alloc (.cells zTok 34)) from (Below.refl _ _).alloc (Nat.le_refl _) _)
  have hz0 : (0 : Int) ≤ (k : Int) := by omega
  go_enter Tryd.func25, Tryd.ntmps25
  go_wp2_with fail
  go_loopw [6] (fun i wr => ∃ (m : Nat), i = .int .i64 ((k + m : Nat) : Int) ∧ k + m ≤ s.size ∧ Hid (∀ x ∈ (restL s k).take m, isWord x = true) ∧ w.alloc (.cells zTok 34) = wr)
    (fun i _ => s.size - (intOf i).toNat)
  case atStart => exact ⟨0, rfl, by omega, Lib.hid (by simp), rfl⟩
  case round =>
    obtain ⟨m, rfl, hkm, HM, rfl⟩ := hrel
    obtain ⟨p, hp⟩ : ∃ p : Nat, k + m = p := ⟨_, rfl⟩
    rw [hp]
    have hz1 : (k : Int) ≤ (p : Int) := by omega
    have hz2 : (p : Int) ≤ (s.size : Int) := by omega
    by_cases hlt : p < s.size
    · have hlt2 : (p : Int) < (s.size : Int) := by omega
      obtain ⟨a, ha⟩ : ∃ a : Int, (s[p].toNat : Int) = a := ⟨_, rfl⟩
      have ha1 : 0 ≤ a ∧ a ≤ 255 := by have := s[p].toNat_lt; omega
      have hat : (restL s k)[m]? = some a := by subst hp; rw [restL_at s k m hlt, ha]
      have HTK1 := Lib.hid (take_snoc hat)
      have HAT := Lib.hid hat; clear hat
      cases hl : isLet a
      · cases hn : isNum a
        · by_cases h36 : a = 36
          · have hb36 : (a == 36) = true := beq_iff_eq.2 h36
            have HNX := Lib.hid (show ∀ x ∈ (restL s k).take (m + 1), isWord x = true by rw [HTK1.out]; exact all_snoc HM.out (word_s (.inl h36)))
            clear h36
            go_wp2_with (first
              | (go_at_call 24; ((with_reducible refine (refLetter_any _ ?_ ?_ _).mono ?_); (first | omega | skip); (first | omega | skip); rintro e w' ⟨rfl, rfl⟩; rw [hl]))
              | (go_at_call 21; ((with_reducible refine (refDigit_any _ ?_ ?_ _).mono ?_); (first | omega | skip); (first | omega | skip); rintro e w' ⟨rfl, rfl⟩; rw [hn])))
            go_roundw
            case rel => exact ⟨m + 1, by rw [show ((p : Int) + 1) = ((k + (m + 1) : Nat) : Int) by omega], by omega, HNX, by trivial⟩
            case measure => simp [intOf]; omega
          · have hb36 : (a == 36) = false := beq_eq_false_iff_ne.2 h36
            by_cases h33 : a = 33
            · have hb33 : (a == 33) = true := beq_iff_eq.2 h33
              have HNX := Lib.hid (show ∀ x ∈ (restL s k).take (m + 1), isWord x = true by rw [HTK1.out]; exact all_snoc HM.out (word_s (.inr h33)))
              clear h33
              go_wp2_with (first
                | (go_at_call 24; ((with_reducible refine (refLetter_any _ ?_ ?_ _).mono ?_); (first | omega | skip); (first | omega | skip); rintro e w' ⟨rfl, rfl⟩; rw [hl]))
                | (go_at_call 21; ((with_reducible refine (refDigit_any _ ?_ ?_ _).mono ?_); (first | omega | skip); (first | omega | skip); rintro e w' ⟨rfl, rfl⟩; rw [hn])))
              go_roundw
              case rel => exact ⟨m + 1, by rw [show ((p : Int) + 1) = ((k + (m + 1) : Nat) : Int) by omega], by omega, HNX, by trivial⟩
              case measure => simp [intOf]; omega
            · have hb33 : (a == 33) = false := beq_eq_false_iff_ne.2 h33
              have HSTOP := Lib.hid (show ∀ x, (restL s k)[m]? = some x → isWord x = false from fun x hx => by rw [HAT.out] at hx; injection hx with hx; rw [← hx]; exact word_no hl hn h36 h33)
              clear h36 h33 HTK1
              have hval := ref_word s k m p hp hkm HM.out HSTOP.out
              obtain ⟨D, hD⟩ : ∃ D, s.extract k p = D := ⟨_, rfl⟩
              rw [hD] at hval
              have hDz : D.size ≤ 1000000 := by rw [← hD, ByteArray.size_extract]; omega
              cases hq : readS D with
              | some d =>
                rw [hq] at hval
                have HN := Lib.hid hval; clear hval
                have HSY := Lib.hid (fun (e : Ending) (he : Says (sb D) e) => says_some hq he); clear hq
                go_upto_region 6 with (first
                  | (go_at_call 24; ((with_reducible refine (refLetter_any _ ?_ ?_ _).mono ?_); (first | omega | skip); (first | omega | skip); rintro e w' ⟨rfl, rfl⟩; rw [hl])) | (go_at_call 21; ((with_reducible refine (refDigit_any _ ?_ ?_ _).mono ?_); (first | omega | skip); (first | omega | skip); rintro e w' ⟨rfl, rfl⟩; rw [hn]))
                  | (go_at_call 35; ((with_reducible refine (refRead_any D _ ?_).mono ?_); (first | omega | skip); rintro e w2 ⟨h1, h2⟩; obtain rfl := HSY.out e h1; clear h1; have H3 := Lib.hid h2; clear h2; have HT2 := Lib.hid (HTK.out.below H3.out HTK.out.lt))))
                have hR3 := RefAt.new w2 d.sh d.c d.r d.ac d.ar
                have hB3 : Below w2.heap.size w2 (w2.alloc (.cells #[.string d.sh, .int .i64 d.c, .int .i64 d.r, .bool d.ac, .bool d.ar] 32)) := (Below.refl _ _).alloc (Nat.le_refl _) _
                have HT3 := Lib.hid (HT2.out.below hB3 HT2.out.lt)
                have HG3 := Lib.hid (HAL.out.trans ((Below.of _ _ _ H3.out hB3).mono HAL.out.size))
                clear hB3
                generalize w2.alloc (.cells #[.string d.sh, .int .i64 d.c, .int .i64 d.r, .bool d.ac, .bool d.ar] 32) = w3 at hR3 HT3 HG3 ⊢
                obtain ⟨x0, x1, x2, x3, x4, x5, x6, x7, x8⟩ := HT3.out.cells
                obtain ⟨f0, f1, f2, f3, f4, f5, f6, f7, f8⟩ := HT3.out.melts
                obtain ⟨y0, y1, y2, y3, y4⟩ := hR3.facts
                clear hR3
                go_wp2_with fail
                exact bodyPost_ret (out_tokn (HT3.out.put9 (({ Tk.zero with kind := 4, sh := d.sh, c := d.c, r := d.r, ac := d.ac, ar := d.ar } : Tk).goto k)) _ _ ((p : Int) - (k : Int)) 4 5 res_rword rfl rfl) rfl ⟨below_set9 HG3.out (Nat.le_refl _) _ _ _ _ _ _ _ _ _, .inl ⟨_, m, HN.out, by rw [show ((p : Int) - (k : Int)) = (m : Int) by omega]⟩⟩
              | none =>
                rw [hq] at hval
                have HSY := Lib.hid (fun (e : Ending) (he : Says (sb D) e) => says_none hq he); clear hq
                cases hnm : calledL (sb D)
                all_goals
                  rw [hnm] at hval
                  have HN := Lib.hid hval; clear hval
                  have HNM := Lib.hid hnm; clear hnm
                  go_upto_region 7 with (first
                    | (go_at_call 24; ((with_reducible refine (refLetter_any _ ?_ ?_ _).mono ?_); (first | omega | skip); (first | omega | skip); rintro e w' ⟨rfl, rfl⟩; rw [hl])) | (go_at_call 21; ((with_reducible refine (refDigit_any _ ?_ ?_ _).mono ?_); (first | omega | skip); (first | omega | skip); rintro e w' ⟨rfl, rfl⟩; rw [hn]))
                    | (go_at_call 35; ((with_reducible refine (refRead_any D _ ?_).mono ?_); (first | omega | skip); rintro e w2 ⟨h1, h2⟩; obtain rfl := HSY.out e h1; clear h1; have H3 := Lib.hid h2; clear h2; have HT2 := Lib.hid (HTK.out.below H3.out HTK.out.lt))))
                  have hB3 : Below w2.heap.size w2 (w2.alloc (.cells #[.string ⟨#[]⟩, .int .i64 0, .int .i64 0, .bool false, .bool false] 32)) := (Below.refl _ _).alloc (Nat.le_refl _) _
                  have HT3 := Lib.hid (HT2.out.below hB3 HT2.out.lt)
                  have HG3 := Lib.hid (HAL.out.trans ((Below.of _ _ _ H3.out hB3).mono HAL.out.size))
                  clear hB3
                  generalize w2.alloc (.cells #[.string ⟨#[]⟩, .int .i64 0, .int .i64 0, .bool false, .bool false] 32) = w3 at HT3 HG3 ⊢
                  obtain ⟨x0, x1, x2, x3, x4, x5, x6, x7, x8⟩ := HT3.out.cells
                  obtain ⟨f0, f1, f2, f3, f4, f5, f6, f7, f8⟩ := HT3.out.melts
                  go_wp2_with (go_at_call 36; ((with_reducible refine (refCalled_any D _ ?_).mono ?_); (first | omega | skip); rintro e w4 ⟨rfl, rfl⟩; rw [HNM.out]))
                · exact bodyPost_ret (out_tokn (HT3.out.put9 Tk.zero) _ _ 0 4 5 res_rword rfl rfl) rfl ⟨below_set9 HG3.out (Nat.le_refl _) _ _ _ _ _ _ _ _ _, .inr ⟨HN.out, Tk.zero, rfl⟩⟩
                · exact bodyPost_ret (out_tokn (HT3.out.put9 (({ Tk.zero with kind := 3, text := D } : Tk).goto k)) _ _ ((p : Int) - (k : Int)) 4 5 res_rword rfl rfl) rfl ⟨below_set9 HG3.out (Nat.le_refl _) _ _ _ _ _ _ _ _ _, .inl ⟨_, m, HN.out, by rw [show ((p : Int) - (k : Int)) = (m : Int) by omega]⟩⟩
        · skip
          have HNX := Lib.hid (show ∀ x ∈ (restL s k).take (m + 1), isWord x = true by rw [HTK1.out]; exact all_snoc HM.out (word_n hn))
          skip
          go_wp2_with (first
            | (go_at_call 24; ((with_reducible refine (refLetter_any _ ?_ ?_ _).mono ?_); (first | omega | skip); (first | omega | skip); rintro e w' ⟨rfl, rfl⟩; rw [hl]))
            | (go_at_call 21; ((with_reducible refine (refDigit_any _ ?_ ?_ _).mono ?_); (first | omega | skip); (first | omega | skip); rintro e w' ⟨rfl, rfl⟩; rw [hn])))
          go_roundw
          case rel => exact ⟨m + 1, by rw [show ((p : Int) + 1) = ((k + (m + 1) : Nat) : Int) by omega], by omega, HNX, by trivial⟩
          case measure => simp [intOf]; omega
      · skip
        have HNX := Lib.hid (show ∀ x ∈ (restL s k).take (m + 1), isWord x = true by rw [HTK1.out]; exact all_snoc HM.out (word_l hl))
        skip
        go_wp2_with (first
          | (go_at_call 24; ((with_reducible refine (refLetter_any _ ?_ ?_ _).mono ?_); (first | omega | skip); (first | omega | skip); rintro e w' ⟨rfl, rfl⟩; rw [hl])))
        go_roundw
        case rel => exact ⟨m + 1, by rw [show ((p : Int) + 1) = ((k + (m + 1) : Nat) : Int) by omega], by omega, HNX, by trivial⟩
        case measure => simp [intOf]; omega
    · have hlt2 : ¬ (p : Int) < (s.size : Int) := by omega
      have HSTOP := Lib.hid (show ∀ x, (restL s k)[m]? = some x → isWord x = false from fun x hx => by have h1 := (List.getElem?_eq_some_iff.1 hx).1; rw [length_restL] at h1; omega)
      have hval := ref_word s k m p hp hkm HM.out HSTOP.out
      obtain ⟨D, hD⟩ : ∃ D, s.extract k p = D := ⟨_, rfl⟩
      rw [hD] at hval
      have hDz : D.size ≤ 1000000 := by rw [← hD, ByteArray.size_extract]; omega
      cases hq : readS D with
      | some d =>
        rw [hq] at hval
        have HN := Lib.hid hval; clear hval
        have HSY := Lib.hid (fun (e : Ending) (he : Says (sb D) e) => says_some hq he); clear hq
        go_upto_region 6 with (first
                | (go_at_call 35; ((with_reducible refine (refRead_any D _ ?_).mono ?_); (first | omega | skip); rintro e w2 ⟨h1, h2⟩; obtain rfl := HSY.out e h1; clear h1; have H3 := Lib.hid h2; clear h2; have HT2 := Lib.hid (HTK.out.below H3.out HTK.out.lt))))
        have hR3 := RefAt.new w2 d.sh d.c d.r d.ac d.ar
        have hB3 : Below w2.heap.size w2 (w2.alloc (.cells #[.string d.sh, .int .i64 d.c, .int .i64 d.r, .bool d.ac, .bool d.ar] 32)) := (Below.refl _ _).alloc (Nat.le_refl _) _
        have HT3 := Lib.hid (HT2.out.below hB3 HT2.out.lt)
        have HG3 := Lib.hid (HAL.out.trans ((Below.of _ _ _ H3.out hB3).mono HAL.out.size))
        clear hB3
        generalize w2.alloc (.cells #[.string d.sh, .int .i64 d.c, .int .i64 d.r, .bool d.ac, .bool d.ar] 32) = w3 at hR3 HT3 HG3 ⊢
        obtain ⟨x0, x1, x2, x3, x4, x5, x6, x7, x8⟩ := HT3.out.cells
        obtain ⟨f0, f1, f2, f3, f4, f5, f6, f7, f8⟩ := HT3.out.melts
        obtain ⟨y0, y1, y2, y3, y4⟩ := hR3.facts
        clear hR3
        go_wp2_with fail
        exact bodyPost_ret (out_tokn (HT3.out.put9 (({ Tk.zero with kind := 4, sh := d.sh, c := d.c, r := d.r, ac := d.ac, ar := d.ar } : Tk).goto k)) _ _ ((p : Int) - (k : Int)) 4 5 res_rword rfl rfl) rfl ⟨below_set9 HG3.out (Nat.le_refl _) _ _ _ _ _ _ _ _ _, .inl ⟨_, m, HN.out, by rw [show ((p : Int) - (k : Int)) = (m : Int) by omega]⟩⟩
      | none =>
        rw [hq] at hval
        have HSY := Lib.hid (fun (e : Ending) (he : Says (sb D) e) => says_none hq he); clear hq
        cases hnm : calledL (sb D)
        all_goals
          rw [hnm] at hval
          have HN := Lib.hid hval; clear hval
          have HNM := Lib.hid hnm; clear hnm
          go_upto_region 7 with (first
                    | (go_at_call 35; ((with_reducible refine (refRead_any D _ ?_).mono ?_); (first | omega | skip); rintro e w2 ⟨h1, h2⟩; obtain rfl := HSY.out e h1; clear h1; have H3 := Lib.hid h2; clear h2; have HT2 := Lib.hid (HTK.out.below H3.out HTK.out.lt))))
          have hB3 : Below w2.heap.size w2 (w2.alloc (.cells #[.string ⟨#[]⟩, .int .i64 0, .int .i64 0, .bool false, .bool false] 32)) := (Below.refl _ _).alloc (Nat.le_refl _) _
          have HT3 := Lib.hid (HT2.out.below hB3 HT2.out.lt)
          have HG3 := Lib.hid (HAL.out.trans ((Below.of _ _ _ H3.out hB3).mono HAL.out.size))
          clear hB3
          generalize w2.alloc (.cells #[.string ⟨#[]⟩, .int .i64 0, .int .i64 0, .bool false, .bool false] 32) = w3 at HT3 HG3 ⊢
          obtain ⟨x0, x1, x2, x3, x4, x5, x6, x7, x8⟩ := HT3.out.cells
          obtain ⟨f0, f1, f2, f3, f4, f5, f6, f7, f8⟩ := HT3.out.melts
          go_wp2_with (go_at_call 36; ((with_reducible refine (refCalled_any D _ ?_).mono ?_); (first | omega | skip); rintro e w4 ⟨rfl, rfl⟩; rw [HNM.out]))
        · exact bodyPost_ret (out_tokn (HT3.out.put9 Tk.zero) _ _ 0 4 5 res_rword rfl rfl) rfl ⟨below_set9 HG3.out (Nat.le_refl _) _ _ _ _ _ _ _ _ _, .inr ⟨HN.out, Tk.zero, rfl⟩⟩
        · exact bodyPost_ret (out_tokn (HT3.out.put9 (({ Tk.zero with kind := 3, text := D } : Tk).goto k)) _ _ ((p : Int) - (k : Int)) 4 5 res_rword rfl rfl) rfl ⟨below_set9 HG3.out (Nat.le_refl _) _ _ _ _ _ _ _ _ _, .inl ⟨_, m, HN.out, by rw [show ((p : Int) - (k : Int)) = (m : Int) by omega]⟩⟩
end Go.Proofs.YtdapnipodnhpkaaDoor
