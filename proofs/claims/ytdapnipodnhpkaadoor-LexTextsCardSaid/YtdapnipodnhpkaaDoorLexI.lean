/-
  Layer 4, the program: the next token.
-/
import Derived.Test.YtdapnipodnhpkaaDoorLexF
import Derived.Test.YtdapnipodnhpkaaDoorLexG
import Derived.Test.YtdapnipodnhpkaaDoorLexH
namespace Go.Proofs.YtdapnipodnhpkaaDoor
open Go.RowKit

/-- What the program's variables hold. -/
structure Vars (w : World) : Prop where
  err : ErrV w
  sig : SigV w
theorem Vars.grown {w w' : World} {b : Nat} (h : Vars w) (hg : w.grownBy w' (some b)) (hb : 2 < b) : Vars w' := ⟨h.err.grown hg hb, h.sig.grown hg hb⟩
theorem Vars.below {w w' : World} (h : Vars w) (hb : Below w.heap.size w w') : Vars w' := ⟨h.err.below hb, h.sig.below hb⟩
theorem m_num : ∀ args (v : World), (callFunc 29 args).run Tryd.prog v = .ok (.enter 29 args) v := Go.Proofs.enters_of Tryd.func29 (by kernel_rfl) rfl
theorem m_quo : ∀ args (v : World), (callFunc 30 args).run Tryd.prog v = .ok (.enter 30 args) v := Go.Proofs.enters_of Tryd.func30 (by kernel_rfl) rfl
theorem m_dead : ∀ args (v : World), (callFunc 31 args).run Tryd.prog v = .ok (.enter 31 args) v := Go.Proofs.enters_of Tryd.func31 (by kernel_rfl) rfl
theorem m_word : ∀ args (v : World), (callFunc 33 args).run Tryd.prog v = .ok (.enter 33 args) v := Go.Proofs.enters_of Tryd.func33 (by kernel_rfl) rfl
theorem m_sign : ∀ args (v : World), (callFunc 34 args).run Tryd.prog v = .ok (.enter 34 args) v := Go.Proofs.enters_of Tryd.func34 (by kernel_rfl) rfl

/-- The method that a byte calls reads the token that stands there. -/
theorem method_any (b : Nat) (s : ByteArray) (k : Nat) (_hs : s.size ≤ 1000000) (_hk : k < s.size) (hb2 : 2 < b) (a : Int) (ha : ((s[k].toNat : Nat) : Int) = a) :
    (∀ args (v : World), (callFunc (methN a) args).run Tryd.prog v = .ok (.enter (methN a) args) v) ∧
    (∀ w, LxAt w b s k → Vars w → Calls Tryd.prog (methN a) #[.pointer (some ⟨b, 0, none⟩)] w (TokOut (tokT (restL s k)) b s k w)) := by
  have hc := restL_cons s k _hk
  rw [ha] at hc
  have ht := tokT_cons a (restL s (k + 1))
  rw [← hc] at ht
  rw [ht]
  cases hn : isNum a
  · rw [if_neg (by simp)]
    by_cases h34 : a = 34
    · rw [methN_quo hn h34, if_pos h34]
      exact ⟨m_quo, fun w h _ => quoted_any b s k w h _hs _hk⟩
    · rw [if_neg h34]
      by_cases h35 : a = 35
      · rw [methN_dead hn h34 h35, if_pos h35]
        exact ⟨m_dead, fun w h _ => dead_any b s k w h _hs _hk⟩
      · rw [if_neg h35]
        cases hb : isBeg a
        · rw [methN_sign hn h34 h35 hb, if_neg (by unfold isBeg at hb; simpa using hb)]
          exact ⟨m_sign, fun w h hv => sign_any b s k w h _hs _hk hv.sig hb2⟩
        · rw [methN_word hn h34 h35 hb, if_pos (by unfold isBeg at hb; simpa using hb)]
          exact ⟨m_word, fun w h _ => word_any b s k w h _hs _hk (by rw [ha]; exact hb)⟩
  · rw [methN_num hn, if_pos rfl]
    exact ⟨m_num, fun w h hv => number_any b s k w h _hs _hk (by rw [ha]; exact hn) hv.err hb2⟩

theorem TokOut.lit {o : Option (Tk × Nat)} {b : Nat} {s : ByteArray} {k : Nat} {w w' : World} {e : Ending} (h : TokOut o b s k w e w') :
    w.grownBy w' (some b) ∧ ((∃ t n, o = some (t, n) ∧ e = .returned (.tuple #[.agg #[.int .i64 t.kind, .string t.text, .int .i64 t.num, .string t.sh, .int .i64 t.c, .int .i64 t.r, .bool t.ac, .bool t.ar, .int .i64 t.pos], .bool true]) ∧ LxAt w' b s (k + n)) ∨ (o = none ∧ ∃ t : Tk, e = .returned (.tuple #[.agg #[.int .i64 t.kind, .string t.text, .int .i64 t.num, .string t.sh, .int .i64 t.c, .int .i64 t.r, .bool t.ac, .bool t.ar, .int .i64 t.pos], .bool false]))) := h
theorem res_token : Tryd.f14.results = #[.cell 2 34, .tmp 3] := by kernel_rfl

set_option maxRecDepth 100000 in
set_option maxHeartbeats 1600000 in
theorem token_any (b : Nat) (s : ByteArray) (k : Nat) (w : World) (h : LxAt w b s k) (_hs : s.size ≤ 1000000) (_hk : k < s.size) (hb2 : 2 < b) (hv : Vars w) :
    Calls Tryd.prog 14 #[.pointer (some ⟨b, 0, none⟩)] w (TokOut ((tokT (restL s k)).map fun q => (q.1.goto k, q.2)) b s k w) := by
  have hlt := h.lt
  have hw0 : w.heap.size ≠ b := by omega
  obtain ⟨a, ha⟩ : ∃ a : Int, (s[k].toNat : Int) = a := ⟨_, rfl⟩
  have ha1 : 0 ≤ a ∧ a ≤ 255 := by have := s[k].toNat_lt; omega
  obtain ⟨hen, hmeth⟩ := method_any b s k _hs _hk hb2 a ha
  have hmo := fun w => methodOf_any a ha1.1 ha1.2 w
  obtain ⟨F, hF⟩ : ∃ F, methN a = F := ⟨_, rfl⟩
  rw [hF] at hen hmeth
  simp only [hF] at hmo
  have HMO := Lib.hid hmo; clear hmo hF
  have HM := Lib.hid (hmeth _ h.tok (hv.grown (new_tok w b) hb2)); clear hmeth hv
  have HAL := Lib.hid (new_tok w b)
  have HTK := Lib.hid (TkAt.zero w)
  obtain ⟨c0, c1⟩ := h.tok.facts
  clear h
  have hk2 : (k : Int) < (s.size : Int) := by omega
  obtain ⟨o, ho⟩ : ∃ o, tokT (restL s k) = o := ⟨_, rfl⟩
  rw [ho] at HM ⊢
  clear ho
  go_enter Tryd.func14, Tryd.ntmps14
  go_wp2_with (go_at_call 20; ((with_reducible refine (HMO.out _).mono ?_); rintro e w1 ⟨rfl, rfl⟩))
  refine HM.out.mono ?_
  intro e w1 he
  obtain ⟨h1, ⟨t, n, rfl, rfl, h2⟩ | ⟨rfl, t, rfl⟩⟩ := he.lit
  · have H1 := Lib.hid h1; have H2 := Lib.hid h2; clear h1 h2 he
    have hB3 : Below w1.heap.size w1 (w1.alloc (.cells #[.int .i64 t.kind, .string t.text, .int .i64 t.num, .string t.sh, .int .i64 t.c, .int .i64 t.r, .bool t.ac, .bool t.ar, .int .i64 (k : Int)] 34)) := (Below.refl _ _).alloc (Nat.le_refl _) _
    have hT1 := HTK.out.grown H1.out hw0
    have HT3 := Lib.hid (hT1.below hB3 hT1.lt)
    have HN3 : TkAt (w1.alloc (.cells #[.int .i64 t.kind, .string t.text, .int .i64 t.num, .string t.sh, .int .i64 t.c, .int .i64 t.r, .bool t.ac, .bool t.ar, .int .i64 (k : Int)] 34)) w1.heap.size (t.goto k) := TkAt.new w1 (t.goto k)
    have HG3 := Lib.hid (grownBy.below' (grownBy.trans' HAL.out H1.out) hB3)
    have HL3 := Lib.hid (H2.out.below hB3 H2.out.lt)
    have hne2 : w.heap.size ≠ w1.heap.size := Nat.ne_of_lt hT1.lt
    clear hB3 hT1 HMO HM c0 c1
    go_upto_region 4 with (fail)
    generalize w1.alloc (.cells #[.int .i64 t.kind, .string t.text, .int .i64 t.num, .string t.sh, .int .i64 t.c, .int .i64 t.r, .bool t.ac, .bool t.ar, .int .i64 (k : Int)] 34) = w3 at HT3 HN3 HG3 HL3 ⊢
    obtain ⟨x0, x1, x2, x3, x4, x5, x6, x7, x8⟩ := HT3.out.cells
    obtain ⟨f0, f1, f2, f3, f4, f5, f6, f7, f8⟩ := HT3.out.melts
    obtain ⟨y0, y1, y2, y3, y4, y5, y6, y7, y8⟩ := HN3.cells
    clear HN3
    simp only [Tk.goto] at y0 y1 y2 y3 y4 y5 y6 y7 y8
    go_wp2_with fail
    exact bodyPost_ret (out_tok (HT3.out.put9 (t.goto k)) _ _ true 2 3 res_token rfl rfl) rfl ⟨grownBy.set9 HG3.out (Nat.le_refl _) _ _ _ _ _ _ _ _ _, .inl ⟨_, _, rfl, rfl, HL3.out.set9 hw0 _ _ _ _ _ _ _ _ _⟩⟩
  · have H1 := Lib.hid h1; clear h1 he
    have hB3 : Below w1.heap.size w1 (w1.alloc (.cells #[.int .i64 t.kind, .string t.text, .int .i64 t.num, .string t.sh, .int .i64 t.c, .int .i64 t.r, .bool t.ac, .bool t.ar, .int .i64 (k : Int)] 34)) := (Below.refl _ _).alloc (Nat.le_refl _) _
    have hT1 := HTK.out.grown H1.out hw0
    have HT3 := Lib.hid (hT1.below hB3 hT1.lt)
    have HN3 : TkAt (w1.alloc (.cells #[.int .i64 t.kind, .string t.text, .int .i64 t.num, .string t.sh, .int .i64 t.c, .int .i64 t.r, .bool t.ac, .bool t.ar, .int .i64 (k : Int)] 34)) w1.heap.size (t.goto k) := TkAt.new w1 (t.goto k)
    have HG3 := Lib.hid (grownBy.below' (grownBy.trans' HAL.out H1.out) hB3)
    have hne2 : w.heap.size ≠ w1.heap.size := Nat.ne_of_lt hT1.lt
    clear hB3 hT1 HMO HM c0 c1
    go_upto_region 4 with (fail)
    generalize w1.alloc (.cells #[.int .i64 t.kind, .string t.text, .int .i64 t.num, .string t.sh, .int .i64 t.c, .int .i64 t.r, .bool t.ac, .bool t.ar, .int .i64 (k : Int)] 34) = w3 at HT3 HN3 HG3 ⊢
    obtain ⟨x0, x1, x2, x3, x4, x5, x6, x7, x8⟩ := HT3.out.cells
    obtain ⟨f0, f1, f2, f3, f4, f5, f6, f7, f8⟩ := HT3.out.melts
    obtain ⟨y0, y1, y2, y3, y4, y5, y6, y7, y8⟩ := HN3.cells
    clear HN3
    simp only [Tk.goto] at y0 y1 y2 y3 y4 y5 y6 y7 y8
    go_wp2_with fail
    exact bodyPost_ret (out_tok (HT3.out.put9 (t.goto k)) _ _ false 2 3 res_token rfl rfl) rfl ⟨grownBy.set9 HG3.out (Nat.le_refl _) _ _ _ _ _ _ _ _ _, .inr ⟨rfl, t.goto k, rfl⟩⟩
end Go.Proofs.YtdapnipodnhpkaaDoor
