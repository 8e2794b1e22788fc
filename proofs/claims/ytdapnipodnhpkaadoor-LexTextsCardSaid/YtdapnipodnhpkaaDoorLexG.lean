/-
  Layer 4, the program: signs.
-/
import Derived.Test.YtdapnipodnhpkaaDoorLexE
namespace Go.Proofs.YtdapnipodnhpkaaDoor
open Go.RowKit

theorem run_index_arr {P : Program} {w : World} (t e : TypeId) (n : Nat) (cs : Array Value) (k : Nat) (v : Value) (d : TypeDesc) (h : P.underlying t = some (.array n e)) (he : P.underlying e = some d) (hd : (match d with | .struct _ | .array _ _ => true | _ => false) = false)
    (hsz : (P.info? e).map (·.size) = some 1) (hk : k < n) (hv : cs[k]? = some v) : (Instr.index t (.agg cs) (.int .i64 (k : Int))).run P w = .ok v w := by
  have h1 : (0 : Int) ≤ (k : Int) ∧ (k : Int) < (n : Int) := by omega
  cases hq : P.info? e with
  | none => simp [hq] at hsz
  | some i =>
    have hs' : i.size = 1 := by simp [hq] at hsz; exact hsz
    simp [Instr.index, run_underlying h, asIntOf, h1, sizeOf, typeInfo, hq, hs', part, isAgg, run_underlying he, hv, go_sem]
    cases d <;> simp_all
theorem wpList_index_arr {P : Program} {ops : Array Oper} {rest : List Oper} {op : Oper} {a : Act} {w : World} {Q : Exit → Act → World → Prop} (hgd : op.guard = none) (t e : TypeId) (n : Nat) (x y : Operand) (ho : op.op = .index t x y)
    (cs : Array Value) (k : Nat) (v : Value) (d : TypeDesc) (h : P.underlying t = some (.array n e)) (he : P.underlying e = some d) (hd : (match d with | .struct _ | .array _ _ => true | _ => false) = false)
    (hsz : (P.info? e).map (·.size) = some 1) (hx : a.eval x = .agg cs) (hy : a.eval y = .int .i64 (k : Int)) (hk : k < n) (hv : cs[k]? = some v)
    (hh : wpList P ops Q rest (a.put op.dst v) w) : wpList P ops Q (op :: rest) a w :=
  wpList_plain hgd fun _ hK => by
    unfold Oper.wp execOp
    simp only [ho, hx, hy, Sem.run_bind, Sem.run_pure, Result.andThen_ok, run_index_arr t e n cs k v d h he hd hsz hk hv]
    exact hK _ _ hh

/-- The signs, the longer ones ahead. -/
def sigL : List (List Int) := [[60, 62], [60, 61], [62, 61], [43], [45], [42], [47], [38], [61], [60], [62], [40], [41], [44], [58]]
def sigB : List ByteArray := [⟨#[60, 62]⟩, ⟨#[60, 61]⟩, ⟨#[62, 61]⟩, ⟨#[43]⟩, ⟨#[45]⟩, ⟨#[42]⟩, ⟨#[47]⟩, ⟨#[38]⟩, ⟨#[61]⟩, ⟨#[60]⟩, ⟨#[62]⟩, ⟨#[40]⟩, ⟨#[41]⟩, ⟨#[44]⟩, ⟨#[58]⟩]
def sigA : Array Value := (sigB.map Value.string).toArray
theorem sig_at : ∀ j : Nat, j < 15 → ∃ t, sigB[j]? = some t ∧ sigA[j]? = some (.string t) ∧ sb t = sigL.getD j [] ∧ t.size ≤ 2 ∧ t = strOfNums (sigL.getD j [])
  | 0, _ => ⟨_, rfl, rfl, by decide, by decide, by decide +kernel⟩
  | 1, _ => ⟨_, rfl, rfl, by decide, by decide, by decide +kernel⟩
  | 2, _ => ⟨_, rfl, rfl, by decide, by decide, by decide +kernel⟩
  | 3, _ => ⟨_, rfl, rfl, by decide, by decide, by decide +kernel⟩
  | 4, _ => ⟨_, rfl, rfl, by decide, by decide, by decide +kernel⟩
  | 5, _ => ⟨_, rfl, rfl, by decide, by decide, by decide +kernel⟩
  | 6, _ => ⟨_, rfl, rfl, by decide, by decide, by decide +kernel⟩
  | 7, _ => ⟨_, rfl, rfl, by decide, by decide, by decide +kernel⟩
  | 8, _ => ⟨_, rfl, rfl, by decide, by decide, by decide +kernel⟩
  | 9, _ => ⟨_, rfl, rfl, by decide, by decide, by decide +kernel⟩
  | 10, _ => ⟨_, rfl, rfl, by decide, by decide, by decide +kernel⟩
  | 11, _ => ⟨_, rfl, rfl, by decide, by decide, by decide +kernel⟩
  | 12, _ => ⟨_, rfl, rfl, by decide, by decide, by decide +kernel⟩
  | 13, _ => ⟨_, rfl, rfl, by decide, by decide, by decide +kernel⟩
  | 14, _ => ⟨_, rfl, rfl, by decide, by decide, by decide +kernel⟩
  | j + 15, h => by omega
theorem head_two (a b : Int) (l : List Int) : headL [a, b] l = true ↔ l.head? = some a ∧ l.tail.head? = some b := by
  unfold headL; rw [decide_eq_true_iff]
  match l with
  | [] => simp
  | [x] => simp
  | x :: y :: m => simp
theorem head_one (a : Int) (l : List Int) : headL [a] l = true ↔ l.head? = some a := by
  unfold headL; rw [decide_eq_true_iff]
  match l with
  | [] => simp
  | x :: m => simp
/-- The first sign that fits is the longest. -/
theorem sig_some : ∀ j : Nat, j < 15 → ∀ l : List Int, (∀ q, q < j → headL (sigL.getD q []) l = false) → headL (sigL.getD j []) l = true → signT l = some ({ Tk.zero with kind := 5, text := strOfNums (sigL.getD j []) }, (sigL.getD j []).length) := by
  intro j hj l hno hyes
  have hlen : signN l = (sigL.getD j []).length := by
    have hn0 : ∀ a b q, q < j → sigL.getD q [] = [a, b] → ¬ (l.head? = some a ∧ l.tail.head? = some b) := by
      intro a b q hq he h
      have := hno q hq
      rw [he, (head_two a b l).2 h] at this; cases this
    cases l with
    | nil =>
      exfalso
      have : ∀ j, j < 15 → sigL.getD j [] ≠ [] := by decide
      unfold headL at hyes
      rw [decide_eq_true_iff, List.take_nil] at hyes
      exact this j hj hyes.symm
    | cons x m =>
      rw [signN_cons]
      simp only [List.head?_cons, List.tail_cons, Option.some.injEq] at hn0
      match j, hj with
      | 0, _ => obtain ⟨h1, h2⟩ := (head_two _ _ _).1 hyes; simp at h1 h2; rw [if_pos (by left; exact ⟨h1, .inl h2⟩)]; rfl
      | 1, _ => obtain ⟨h1, h2⟩ := (head_two _ _ _).1 hyes; simp at h1 h2; rw [if_pos (by left; exact ⟨h1, .inr h2⟩)]; rfl
      | 2, _ => obtain ⟨h1, h2⟩ := (head_two _ _ _).1 hyes; simp at h1 h2; rw [if_pos (by right; exact ⟨h1, h2⟩)]; rfl
      | j + 3, hj =>
        have g0 := hn0 60 62 0 (by omega) rfl
        have g1 := hn0 60 61 1 (by omega) rfl
        have g2 := hn0 62 61 2 (by omega) rfl
        rw [if_neg (by
          rintro (⟨h1, h2 | h2⟩ | ⟨h1, h2⟩)
          · exact g0 ⟨h1, h2⟩
          · exact g1 ⟨h1, h2⟩
          · exact g2 ⟨h1, h2⟩)]
        have hx : ∃ a, sigL.getD (j + 3) [] = [a] ∧ (a = 43 ∨ a = 45 ∨ a = 42 ∨ a = 47 ∨ a = 38 ∨ a = 61 ∨ a = 60 ∨ a = 62 ∨ a = 40 ∨ a = 41 ∨ a = 44 ∨ a = 58) := by
          have : ∀ j, j < 12 → ∃ a, sigL.getD (j + 3) [] = [a] ∧ (a = 43 ∨ a = 45 ∨ a = 42 ∨ a = 47 ∨ a = 38 ∨ a = 61 ∨ a = 60 ∨ a = 62 ∨ a = 40 ∨ a = 41 ∨ a = 44 ∨ a = 58) := by
            intro j hj
            match j, hj with
            | 0, _ => exact ⟨43, rfl, by omega⟩
            | 1, _ => exact ⟨45, rfl, by omega⟩
            | 2, _ => exact ⟨42, rfl, by omega⟩
            | 3, _ => exact ⟨47, rfl, by omega⟩
            | 4, _ => exact ⟨38, rfl, by omega⟩
            | 5, _ => exact ⟨61, rfl, by omega⟩
            | 6, _ => exact ⟨60, rfl, by omega⟩
            | 7, _ => exact ⟨62, rfl, by omega⟩
            | 8, _ => exact ⟨40, rfl, by omega⟩
            | 9, _ => exact ⟨41, rfl, by omega⟩
            | 10, _ => exact ⟨44, rfl, by omega⟩
            | 11, _ => exact ⟨58, rfl, by omega⟩
            | j + 12, h => omega
          exact this j (by omega)
        obtain ⟨a, ha, hor⟩ := hx
        rw [ha] at hyes ⊢
        have h1 := (head_one _ _).1 hyes
        simp at h1; subst h1
        rw [if_pos hor]; rfl
  have hpos : (sigL.getD j []).length ≠ 0 := by
    have : ∀ j, j < 15 → (sigL.getD j []).length ≠ 0 := by decide
    exact this j hj
  unfold signT
  rw [hlen, if_neg hpos]
  unfold headL at hyes
  rw [decide_eq_true_iff] at hyes
  rw [hyes]
theorem sig_none (l : List Int) (hno : ∀ q, q < 15 → headL (sigL.getD q []) l = false) : signT l = none := by
  have h2 : ∀ a b q, q < 15 → sigL.getD q [] = [a, b] → ¬ (l.head? = some a ∧ l.tail.head? = some b) := by
    intro a b q hq he h
    have := hno q hq
    rw [he, (head_two a b l).2 h] at this; cases this
  have h1 : ∀ a q, q < 15 → sigL.getD q [] = [a] → ¬ l.head? = some a := by
    intro a q hq he h
    have := hno q hq
    rw [he, (head_one a l).2 h] at this; cases this
  have hz : signN l = 0 := by
    cases l with
    | nil => rfl
    | cons x m =>
      rw [signN_cons]
      simp only [List.head?_cons, List.tail_cons, Option.some.injEq] at h1 h2
      have g0 := h2 60 62 0 (by omega) rfl
      have g1 := h2 60 61 1 (by omega) rfl
      have g2 := h2 62 61 2 (by omega) rfl
      have k3 := h1 43 3 (by omega) rfl
      have k4 := h1 45 4 (by omega) rfl
      have k5 := h1 42 5 (by omega) rfl
      have k6 := h1 47 6 (by omega) rfl
      have k7 := h1 38 7 (by omega) rfl
      have k8 := h1 61 8 (by omega) rfl
      have k9 := h1 60 9 (by omega) rfl
      have k10 := h1 62 10 (by omega) rfl
      have k11 := h1 40 11 (by omega) rfl
      have k12 := h1 41 12 (by omega) rfl
      have k13 := h1 44 13 (by omega) rfl
      have k14 := h1 58 14 (by omega) rfl
      rw [if_neg (by
        rintro (⟨h1, h2 | h2⟩ | ⟨h1, h2⟩)
        · exact g0 ⟨h1, h2⟩
        · exact g1 ⟨h1, h2⟩
        · exact g2 ⟨h1, h2⟩), if_neg (by omega)]
  unfold signT; rw [if_pos hz]

/-- What the program's list of signs holds. -/
def SigV (w : World) : Prop := ∃ ty fr, w.heap[(0 : Nat)]? = some (.cells sigA ty fr)
theorem SigV.lt {w : World} (h : SigV w) : 0 < w.heap.size := by obtain ⟨_, _, h⟩ := h; exact (Array.getElem?_eq_some_iff.1 h).1
theorem SigV.grown {w w' : World} {b : Nat} (h : SigV w) (hg : w.grownBy w' (some b)) (hb : 2 < b) : SigV w' := by
  have h0 := h.lt
  obtain ⟨ty, fr, h1⟩ := h
  exact ⟨ty, fr, by rw [hg.block _ h0 (by intro e; have := Option.some.inj e; omega)]; exact h1⟩
theorem SigV.below {w w' : World} (h : SigV w) (hb : Below w.heap.size w w') : SigV w' := by
  have h0 := h.lt
  obtain ⟨ty, fr, h1⟩ := h
  exact ⟨ty, fr, by rw [hb.block _ h0]; exact h1⟩
theorem ErrV.below {w w' : World} (h : ErrV w) (hb : Below w.heap.size w w') : ErrV w' := h.grown (b := w.heap.size + 3) (grownBy.below_new hb) (by omega)

theorem res_sign : Tryd.f34.results = #[.cell 2 34, .tmp 3] := by kernel_rfl
theorem sig_und : Tryd.prog.underlying 64 = some (.array 15 9) := Tryd.underlying64
theorem sig_size : (Tryd.prog.info? 64).map (·.size) = some sigA.size := by kernel_rfl
theorem str_size : (Tryd.prog.info? 9).map (·.size) = some 1 := by kernel_rfl
set_option maxRecDepth 100000 in
set_option maxHeartbeats 1600000 in
theorem sign_any (b : Nat) (s : ByteArray) (k : Nat) (w : World) (h : LxAt w b s k) (_hs : s.size ≤ 1000000) (_hk : k < s.size) (hsv : SigV w) (hb2 : 2 < b) :
    Calls Tryd.prog 34 #[.pointer (some ⟨b, 0, none⟩)] w (TokOut (signT (restL s k)) b s k w) := by
  have hlt := h.lt
  have hw0 : w.heap.size ≠ b := by omega
  obtain ⟨ty, fr, hrow⟩ := hsv.grown (new_tok w b) hb2
  clear hsv
  have HAL := Lib.hid (new_tok w b)
  have HTK := Lib.hid (TkAt.zero w)
  have HLX := Lib.hid h.tok; clear h
  have HROW := Lib.hid hrow; clear hrow
  go_enter Tryd.func34, Tryd.ntmps34
  go_upto_region 1 with (fail)
  refine wp_region_lit ?_
  refine wpList_load_row rfl 64 (.global 0) rfl 0 rfl ty sigA fr _ HROW.out sig_und rfl sig_size ?_
  go_wp2_with fail
  go_loopw [7] (fun i wr => ∃ j : Nat, j ≤ 15 ∧ i = .int .i64 j ∧ Hid (∀ q, q < j → headL (sigL.getD q []) (restL s k) = false) ∧ Hid (LxAt wr b s k) ∧ Hid ((w.alloc (.cells zTok 34)).grownBy wr (some b)))
    (fun i _ => 15 - (intOf i).toNat)
  case atStart => exact ⟨0, by omega, rfl, Lib.hid (by intro q hq; omega), HLX, Lib.hid (grownBy.refl' _ _)⟩
  case round =>
    obtain ⟨j, hj, rfl, HNO, HR, HG⟩ := hrel
    by_cases hlt : j < 15
    · have hji : (j : Int) < 15 := by omega
      obtain ⟨t, ht1, ht2, ht3, ht4, ht5⟩ := sig_at j hlt
      have hT := take_any b s t k wr HR.out _hs (by omega) (by omega)
      rw [ht3] at hT
      have HT2 := Lib.hid ht2; have HT3 := Lib.hid ht3; have HT5 := Lib.hid ht5
      clear ht1 ht2 ht3 ht5
      cases hq : headL (sigL.getD j []) (restL s k)
      · rw [hq] at hT
        have HT := Lib.hid hT; have HQ := Lib.hid hq; clear hT hq
        go_upto_region 3 with (fail)
        refine wp_region_lit ?_
        refine wpList_index_arr rfl 64 9 15 (.tmp 6) (.tmp 7) rfl sigA j (.string t) _ sig_und Tryd.underlying9 rfl str_size rfl rfl hlt HT2.out ?_
        go_wp2_with (go_at_call 38; ((with_reducible refine HT.out.mono ?_); rintro e w1 ⟨h1, rfl, h2⟩; have H1 := Lib.hid h1; have H2 := Lib.hid h2; clear h1 h2))
        go_roundw
        case rel =>
          refine ⟨j + 1, by omega, by go_num, Lib.hid ?_, H2, Lib.hid (grownBy.trans' HG.out H1.out)⟩
          intro q hq
          by_cases hqj : q < j
          · exact HNO.out q hqj
          · rw [show q = j from by omega]; exact HQ.out
        case measure => simp [intOf]; omega
      · rw [hq] at hT
        have HT := Lib.hid hT; clear hT
        have hsz : t.size = (sigL.getD j []).length := by rw [← HT3.out, length_sb]
        have hN := sig_some j hlt (restL s k) HNO.out hq
        rw [← HT5.out, ← hsz] at hN
        have HN := Lib.hid hN; clear hN hq hsz
        go_upto_region 3 with (fail)
        refine wp_region_lit ?_
        refine wpList_index_arr rfl 64 9 15 (.tmp 6) (.tmp 7) rfl sigA j (.string t) _ sig_und Tryd.underlying9 rfl str_size rfl rfl hlt HT2.out ?_
        go_wp2_with (go_at_call 38; ((with_reducible refine HT.out.mono ?_); rintro e w1 ⟨h1, rfl, h2⟩; have H1 := Lib.hid (grownBy.trans' HG.out h1); have H2 := Lib.hid h2; clear h1 h2; have HT2 := Lib.hid (HTK.out.grown H1.out hw0); obtain ⟨x0, x1, x2, x3, x4, x5, x6, x7, x8⟩ := HT2.out.cells; obtain ⟨f0, f1, f2, f3, f4, f5, f6, f7, f8⟩ := HT2.out.melts))
        exact bodyPost_ret (out_tok (HT2.out.put9 { Tk.zero with kind := 5, text := t }) _ _ true 2 3 res_sign rfl rfl) rfl ⟨grownBy.set9 (grownBy.trans' HAL.out H1.out) (Nat.le_refl _) _ _ _ _ _ _ _ _ _, .inl ⟨_, _, HN.out, rfl, H2.out.set9 hw0 _ _ _ _ _ _ _ _ _⟩⟩
    · have hji : ¬ (j : Int) < 15 := by omega
      have HN := Lib.hid (sig_none (restL s k) (fun q hq => HNO.out q (by omega)))
      have HT2 := Lib.hid (HTK.out.grown HG.out hw0)
      obtain ⟨x0, x1, x2, x3, x4, x5, x6, x7, x8⟩ := HT2.out.cells
      obtain ⟨f0, f1, f2, f3, f4, f5, f6, f7, f8⟩ := HT2.out.melts
      go_wp2_with fail
      exact bodyPost_ret (out_tok (HT2.out.put9 Tk.zero) _ _ false 2 3 res_sign rfl rfl) rfl ⟨grownBy.set9 (grownBy.trans' HAL.out HG.out) (Nat.le_refl _) _ _ _ _ _ _ _ _ _, .inr ⟨HN.out, Tk.zero, rfl⟩⟩
end Go.Proofs.YtdapnipodnhpkaaDoor
