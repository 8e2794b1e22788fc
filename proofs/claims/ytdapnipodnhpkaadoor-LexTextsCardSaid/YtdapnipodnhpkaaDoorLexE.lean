/-
  Layer 4, the program: what is dead; words.
-/
import Derived.Test.YtdapnipodnhpkaaDoorLexD
import Derived.Test.YtdapnipodnhpkaaDoorAddrW
namespace Go.Proofs.YtdapnipodnhpkaaDoor
open Go.RowKit

theorem res_dead : Tryd.f31.results = #[.cell 2 34, .tmp 3] := by kernel_rfl
theorem res_word : Tryd.f33.results = #[.cell 2 34, .tmp 3] := by kernel_rfl
theorem grownBy.below_new {w w' : World} {b : Nat} (h : Below w.heap.size w w') : w.grownBy w' (some b) := grownBy.below' (grownBy.refl' _ _) h
theorem new_tok (w : World) (b : Nat) : w.grownBy (w.alloc (.cells zTok 34)) (some b) := grownBy.below_new ((Below.refl _ _).alloc (Nat.le_refl _) _)
theorem LxAt.tok {w : World} {b : Nat} {s : ByteArray} {k : Nat} (h : LxAt w b s k) : LxAt (w.alloc (.cells zTok 34)) b s k := h.below ((Below.refl _ _).alloc (Nat.le_refl _) _) h.lt
theorem sb_dead : sb ⟨#[35, 82, 69, 70, 33]⟩ = [35, 82, 69, 70, 33] := by decide

set_option maxRecDepth 100000 in
set_option maxHeartbeats 800000 in
theorem dead_any (b : Nat) (s : ByteArray) (k : Nat) (w : World) (h : LxAt w b s k) (_hs : s.size ≤ 1000000) (_hk : k < s.size) :
    Calls Tryd.prog 31 #[.pointer (some ⟨b, 0, none⟩)] w (TokOut (deadT (restL s k)) b s k w) := by
  have hlt := h.lt
  have hw0 : w.heap.size ≠ b := by omega
  have hT := take_any b s ⟨#[35, 82, 69, 70, 33]⟩ k _ h.tok _hs (by omega) (by decide)
  rw [sb_dead] at hT
  have HAL := Lib.hid (new_tok w b)
  have HTK := Lib.hid (TkAt.zero w)
  have hN : deadT (restL s k) = if headL [35, 82, 69, 70, 33] (restL s k) = true then some ({ Tk.zero with kind := 6 }, 5) else none := by
    unfold deadT headL; simp
  cases hq : headL [35, 82, 69, 70, 33] (restL s k)
  · rw [hq] at hN hT
    have HN := Lib.hid hN; clear hN
    have HT := Lib.hid hT; clear hT h
    go_enter Tryd.func31, Tryd.ntmps31
    go_wp2_with (first
        | (go_at_call 38; ((with_reducible refine HT.out.mono ?_); rintro e w1 ⟨h1, rfl, h2⟩; have H1 := Lib.hid h1; have H2 := Lib.hid h2; clear h1 h2; have HT2 := Lib.hid (HTK.out.grown H1.out hw0); obtain ⟨x0, x1, x2, x3, x4, x5, x6, x7, x8⟩ := HT2.out.cells; obtain ⟨f0, f1, f2, f3, f4, f5, f6, f7, f8⟩ := HT2.out.melts)))
    exact bodyPost_ret (out_tok (HT2.out.put9 { Tk.zero with kind := 6 }) _ _ false 2 3 res_dead rfl rfl) rfl ⟨grownBy.set9 (grownBy.trans' HAL.out H1.out) (Nat.le_refl _) _ _ _ _ _ _ _ _ _, .inr ⟨HN.out, { Tk.zero with kind := 6 }, rfl⟩⟩
  · rw [hq] at hN hT
    have HN := Lib.hid hN; clear hN
    have HT := Lib.hid hT; clear hT h
    go_enter Tryd.func31, Tryd.ntmps31
    go_wp2_with (first
        | (go_at_call 38; ((with_reducible refine HT.out.mono ?_); rintro e w1 ⟨h1, rfl, h2⟩; have H1 := Lib.hid h1; have H2 := Lib.hid h2; clear h1 h2; have HT2 := Lib.hid (HTK.out.grown H1.out hw0); obtain ⟨x0, x1, x2, x3, x4, x5, x6, x7, x8⟩ := HT2.out.cells; obtain ⟨f0, f1, f2, f3, f4, f5, f6, f7, f8⟩ := HT2.out.melts)))
    exact bodyPost_ret (out_tok (HT2.out.put9 { Tk.zero with kind := 6 }) _ _ true 2 3 res_dead rfl rfl) rfl ⟨grownBy.set9 (grownBy.trans' HAL.out H1.out) (Nat.le_refl _) _ _ _ _ _ _ _ _ _, .inl ⟨_, _, HN.out, rfl, H2.out.set9 hw0 _ _ _ _ _ _ _ _ _⟩⟩

/-! Words. -/
theorem says_some {s : ByteArray} {d : Rd} (h : readS s = some d) {e : Ending} (he : Says (sb s) e) : e = .returned (.tuple #[.agg #[.string d.sh, .int .i64 d.c, .int .i64 d.r, .bool d.ac, .bool d.ar], .bool true]) := by
  obtain ⟨_, h2, h3⟩ := read_some s d h
  refine Says.text h2 ?_
  rw [h3, str_sb]; exact he
theorem says_none {s : ByteArray} (h : readS s = none) {e : Ending} (he : Says (sb s) e) : e = .returned (.tuple #[.agg #[.string ⟨#[]⟩, .int .i64 0, .int .i64 0, .bool false, .bool false], .bool false]) := by
  rcases he with ⟨_, _, _, _, _, _, h2, h3, _⟩ | ⟨_, rfl⟩
  · exact absurd h3 (read_none s h _ _ _ _ _ h2)
  · rfl
theorem nm_called {l : List Int} {x : Int} (h0 : l.head? = some x) (hx : isBeg x = true) : nmL l = calledL l := by
  cases l with
  | nil => simp at h0
  | cons y m =>
    simp at h0; subst h0
    unfold nmL calledL
    rw [Bool.eq_iff_iff]
    simp only [Bool.and_eq_true, decide_eq_true_iff, List.getD_cons_zero]
    constructor
    · rintro ⟨h1, h2⟩
      refine ⟨h1, ⟨by simp, h2⟩, ?_⟩
      have := h1 y (by simp)
      rw [Bool.or_eq_true] at this
      rcases this with h | h
      · exact h
      · exfalso
        unfold isBeg isLet at hx; unfold isNum at h
        simp only [Bool.or_eq_true, decide_eq_true_iff] at hx h; omega
    · rintro ⟨h1, ⟨_, h2⟩, _⟩
      exact ⟨h1, h2⟩
end Go.Proofs.YtdapnipodnhpkaaDoor
