/-
  Layer 3, the program: the sheet; parts one behind the other; ReadCol, Read.
-/
import Derived.Test.YtdapnipodnhpkaaDoorAddrS
import Derived.Test.YtdapnipodnhpkaaDoorShelf
namespace Go.Proofs.YtdapnipodnhpkaaDoor
open Go.RowKit

theorem idx_list : ∀ (l : List UInt8), Lib.indexByte l 33 = if ((l.map (fun b => (b.toNat : Int))).takeWhile ne33).length = l.length then -1 else (((l.map (fun b => (b.toNat : Int))).takeWhile ne33).length : Int)
  | [] => rfl
  | x :: l => by
    have ih := idx_list l
    unfold Lib.indexByte
    by_cases hx : x = 33
    · subst hx
      have hne : ne33 ((33 : UInt8).toNat : Int) = false := by decide
      rw [List.map_cons, List.takeWhile_cons, hne]
      simp
    · have hne : ne33 (x.toNat : Int) = true := by
        unfold ne33; rw [decide_eq_true_iff]; intro h; apply hx
        apply UInt8.toNat_inj.1; show x.toNat = 33; omega
      have hb : (x == (33 : UInt8)) = false := by rw [beq_eq_false_iff_ne]; exact hx
      rw [hb, List.map_cons, List.takeWhile_cons, hne, if_pos rfl, List.length_cons, List.length_cons, ih]
      obtain ⟨n, hn⟩ : ∃ n, ((l.map (fun b => (b.toNat : Int))).takeWhile ne33).length = n := ⟨_, rfl⟩
      rw [hn]
      by_cases h : n = l.length
      · have h2 : n + 1 = l.length + 1 := by omega
        rw [if_pos h, if_pos h2]; rfl
      · have h2 : ¬ n + 1 = l.length + 1 := by omega
        rw [if_neg h, if_neg h2]
        have : ((n : Int) == -1) = false := by rw [beq_eq_false_iff_ne]; omega
        rw [this]; simp
theorem idx_sheet (d : Rd) : Lib.indexByte d.s.data.toList 33 = if d.sheetP.length = d.s.size then -1 else (d.sheetP.length : Int) := by
  rw [idx_list]; unfold Rd.sheetP sb; rw [← list_bytes]
  have : d.s.toList.length = d.s.size := by rw [list_bytes]; rfl
  rw [this]
theorem sheetP_take (d : Rd) : (sb d.s).take d.sheetP.length = d.sheetP := by
  have e := take_split ne33 (sb d.s)
  have h : (d.sheetP ++ (sb d.s).drop d.sheetP.length).take d.sheetP.length = d.sheetP := List.take_left
  have e2 : d.sheetP ++ (sb d.s).drop d.sheetP.length = sb d.s := e
  rw [e2] at h; exact h
theorem sheetP_lt (d : Rd) (h : ¬ d.sheetP.length = d.s.size) : d.sheetP.length < d.s.size := by
  have e := congrArg List.length (take_split ne33 (sb d.s))
  rw [List.length_append, length_sb] at e
  unfold Rd.sheetP at h ⊢; omega

set_option maxRecDepth 100000 in
set_option maxHeartbeats 400000 in
theorem sheet_any (b : Nat) (d : Rd) (w : World) (h : RdAt w b d) (_hs : d.s.size ≤ 1000000) :
    Calls Tryd.prog 49 #[.pointer (some ⟨b, 0, none⟩)] w (Part d.sheet b w) := by
  obtain ⟨c0, c1, c2, c3, c4, c5, c6⟩ := h.facts
  have f1 := h.frozen 1
  have f2 := h.frozen 2
  clear c3 c4 c5 c6
  have HR := Lib.hid h; clear h
  have hix := idx_sheet d
  by_cases hno : d.sheetP.length = d.s.size
  · have hf : d.sheet = some d := by unfold Rd.sheet; rw [if_pos hno]
    rw [if_pos hno] at hix
    have HF := Lib.hid hf; clear hf hno
    have HIX := Lib.hid hix; clear hix
    go_enter Tryd.func49, Tryd.ntmps49
    go_wp2_with (go_at_call 61; ((with_reducible refine (Tryd.strings_IndexByte d.s 33 _).mono ?_); rintro e w1 ⟨rfl, rfl⟩; (rw [show (33 : Int).toNat.toUInt8 = 33 from rfl, HIX.out])))
    go_ret
    exact ⟨grownBy.refl' _ _, .inl ⟨d, HF.out, rfl, HR.out⟩⟩
  · have hlt := sheetP_lt d hno
    rw [if_neg hno] at hix
    obtain ⟨i, hi⟩ : ∃ i : Nat, d.sheetP.length = i := ⟨_, rfl⟩
    rw [hi] at hix hlt
    have hf : d.sheet = if nameL d.sheetP = true then some { d with sh := strOfNums d.sheetP, k := i + 1 } else none := by unfold Rd.sheet; rw [if_neg hno, hi]
    have hcut : d.s.extract 0 i = strOfNums d.sheetP := by
      rw [← sheetP_take, hi, ← str_sb (d.s.extract 0 i)]
      congr 1
      unfold sb; rw [← List.map_take]; congr 1
      simp [ByteArray.data_extract]
    have hsz : (strOfNums d.sheetP).size ≤ 1000000 := by rw [strOfNums_size]; omega
    have hb : sb (strOfNums d.sheetP) = d.sheetP := sb_str _ (fun x hx => sb_bd d.s x (by rw [← sheetP_take] at hx; exact List.mem_of_mem_take hx))
    have HIX := Lib.hid hix; clear hix
    have HF := Lib.hid hf; clear hf
    have HCUT := Lib.hid hcut; clear hcut
    have HB := Lib.hid hb; clear hb
    have hile : (i : Int) ≤ (d.s.size : Int) := by omega
    have hi0 : (0 : Int) ≤ (i : Int) := by omega
    clear hno hi
    go_enter Tryd.func49, Tryd.ntmps49
    by_cases hn : nameL d.sheetP = true
    · have hf2 : d.sheet = some { d with sh := strOfNums d.sheetP, k := i + 1 } := by rw [HF.out, if_pos hn]
      have HF2 := Lib.hid hf2; clear hf2
      go_wp2_with (first
        | (go_at_call 61; ((with_reducible refine (Tryd.strings_IndexByte d.s 33 _).mono ?_); rintro e w1 ⟨rfl, rfl⟩; (rw [show (33 : Int).toNat.toUInt8 = 33 from rfl, HIX.out])))
        | (go_at_call 62; rw [HCUT.out]; ((with_reducible refine (name_any _ _ ?_).mono ?_); (first | omega | skip); rintro e w2 ⟨rfl, rfl⟩; rw [HB.out, hn])))
      go_ret
      exact ⟨grownBy.setCell' (grownBy.setCell' (grownBy.refl' _ _) _ _) _ _, .inl ⟨_, HF2.out, rfl, (HR.out.setSh (strOfNums d.sheetP)).setK (i + 1)⟩⟩
    · have hf2 : d.sheet = none := by rw [HF.out, if_neg hn]
      have hn' : nameL d.sheetP = false := by simpa using hn
      have HF2 := Lib.hid hf2; clear hf2 hn
      go_wp2_with (first
        | (go_at_call 61; ((with_reducible refine (Tryd.strings_IndexByte d.s 33 _).mono ?_); rintro e w1 ⟨rfl, rfl⟩; (rw [show (33 : Int).toNat.toUInt8 = 33 from rfl, HIX.out])))
        | (go_at_call 62; rw [HCUT.out]; ((with_reducible refine (name_any _ _ ?_).mono ?_); (first | omega | skip); rintro e w2 ⟨rfl, rfl⟩; rw [HB.out, hn'])))
      go_ret
      exact ⟨grownBy.setCell' (grownBy.setCell' (grownBy.refl' _ _) _ _) _ _, .inr ⟨HF2.out, rfl⟩⟩

/-- Parts one behind the other: so many method values of one reader, each with what it leaves. -/
theorem all_any (b g n : Nat) (f : Nat → FuncId) (run : Nat → Rd → Option Rd) (w : World) (_hn : n ≤ 100) (hgb : g ≠ b) (hg : g < w.heap.size)
    (hcall : ∀ j, j < n → ∀ args (v : World), (callFunc (f j) args).run Tryd.prog v = .ok (.enter (f j) args) v)
    (hcell : ∀ j, j < n → w.cell? ⟨g, j, none⟩ = some (.func (.func (f j)) #[.pointer (some ⟨b, 0, none⟩)] #[]))
    (P : Nat → Rd → Prop) (d : Rd) (h0 : P 0 d) (hr : RdAt w b d)
    (hstep : ∀ j, j < n → ∀ d (w : World), P j d → RdAt w b d → (∀ d', run j d = some d' → P (j + 1) d') ∧ Calls Tryd.prog (f j) #[.pointer (some ⟨b, 0, none⟩)] w (Part (run j d) b w))
    (o : Option Rd) (hend : ∀ d', P n d' → o = some d') (hbad : ∀ j d', j < n → P j d' → run j d' = none → o = none) :
    Calls Tryd.prog 48 #[.slice (some ⟨g, 0, none⟩) n n] w (Part o b w) := by
  have HC := Lib.hid hcall; clear hcall
  have HL := Lib.hid hcell; clear hcell
  have HS := Lib.hid hstep; clear hstep
  have HE := Lib.hid hend; clear hend
  have HB := Lib.hid hbad; clear hbad
  have H0 := Lib.hid h0; clear h0
  have HR := Lib.hid hr; clear hr
  go_enter Tryd.func48, Tryd.ntmps48
  go_wp2_with fail
  go_loopw [7] (fun i wr => ∃ (j : Nat) (d : Rd), i = .int .i64 j ∧ j ≤ n ∧ Hid (P j d) ∧ Hid (RdAt wr b d) ∧ Hid (w.grownBy wr (some b)))
    (fun i _ => n - (intOf i).toNat)
  case atStart => exact ⟨0, d, rfl, by omega, H0, HR, Lib.hid (grownBy.refl' _ _)⟩
  case round =>
    obtain ⟨j, d, rfl, hj, HP, HRD, HG⟩ := hrel
    by_cases hlt : j < n
    · have hji : (j : Int) < (n : Int) := by omega
      have hce : wr.cell? ⟨g, j, none⟩ = some (.func (.func (f j)) #[.pointer (some ⟨b, 0, none⟩)] #[]) := by
        rw [cell_other HG.out (by exact hg) (by intro h; exact hgb (Option.some.inj h))]; exact HL.out j hlt
      have hca := HC.out j hlt
      obtain ⟨fj, hfj⟩ : ∃ fj, f j = fj := ⟨_, rfl⟩
      rw [hfj] at hce hca
      have HFJ := Lib.hid hfj; clear hfj
      cases hq : run j d with
      | some d' =>
        have HQ := Lib.hid hq; clear hq
        go_wp2_with fail
        have hs := HS.out j hlt d wr HP.out HRD.out
        rw [HFJ.out, HQ.out] at hs
        have HS1 := Lib.hid (hs.1 d' rfl)
        refine hs.2.mono ?_
        rintro e w1 ⟨hg1, ⟨d2, h1, rfl, h3⟩ | ⟨h1, _⟩⟩
        · injection h1 with h1; subst h1
          have HG1 := Lib.hid (grownBy.trans' HG.out hg1); clear hg1
          have HR1 := Lib.hid h3; clear h3
          clear hs
          go_wp2_with fail
          go_roundw
          case rel => exact ⟨j + 1, d', by go_num, by omega, HS1, HR1, HG1⟩
          case measure => simp [intOf]; omega
        · cases h1
      | none =>
        have HQ := Lib.hid hq; clear hq
        go_wp2_with fail
        have hs := HS.out j hlt d wr HP.out HRD.out
        rw [HFJ.out, HQ.out] at hs
        refine hs.2.mono ?_
        rintro e w1 ⟨hg1, ⟨d2, h1, _, _⟩ | ⟨_, rfl⟩⟩
        · cases h1
        · have HG1 := Lib.hid (grownBy.trans' HG.out hg1); clear hg1
          clear hs
          go_wp2_with fail
          go_ret
          exact ⟨HG1.out, .inr ⟨HB.out j d hlt HP.out HQ.out, rfl⟩⟩
    · have hji : ¬ (j : Int) < (n : Int) := by omega
      have hjn : j = n := by omega
      have hen := HE.out d (by rw [← hjn]; exact HP.out)
      have HEN := Lib.hid hen; clear hen hjn
      go_wp2_with fail
      go_ret
      exact ⟨HG.out, .inl ⟨d, HEN.out, rfl, HRD.out⟩⟩
end Go.Proofs.YtdapnipodnhpkaaDoor
