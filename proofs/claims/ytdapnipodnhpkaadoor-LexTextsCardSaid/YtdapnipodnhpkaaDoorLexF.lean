/-
  Layer 4, the program: words.
-/
import Derived.Test.YtdapnipodnhpkaaDoorLexE
namespace Go.Proofs.YtdapnipodnhpkaaDoor
open Go.RowKit

theorem word_val (l ds : List Int) (h : l.takeWhile isWord = ds) : wordT l = match readS (strOfNums ds) with
  | some d => some ({ Tk.zero with kind := 4, sh := d.sh, c := d.c, r := d.r, ac := d.ac, ar := d.ar }, ds.length)
  | none => if calledL ds = true then some ({ Tk.zero with kind := 3, text := strOfNums ds }, ds.length) else none := by subst h; rfl

set_option maxRecDepth 100000 in
set_option maxHeartbeats 1600000 in
theorem word_any (b : Nat) (s : ByteArray) (k : Nat) (w : World) (h : LxAt w b s k) (_hs : s.size ≤ 1000000) (_hk : k < s.size) (hd : isBeg ((s[k].toNat : Nat) : Int) = true) :
    Calls Tryd.prog 33 #[.pointer (some ⟨b, 0, none⟩)] w (TokOut (wordT (restL s k)) b s k w) := by
  have hlt := h.lt
  have hw0 : w.heap.size ≠ b := by omega
  obtain ⟨ds, hds⟩ : ∃ ds, (restL s k).takeWhile isWord = ds := ⟨_, rfl⟩
  obtain ⟨D, hD⟩ : ∃ D, strOfNums ds = D := ⟨_, rfl⟩
  have hbd : Bytes ds := fun x hx => restL_bd s k x (by rw [← hds] at hx; exact (List.takeWhile_prefix _).subset hx)
  have hsD : sb D = ds := by rw [← hD]; exact sb_str ds hbd
  have hszD : D.size = ds.length := by rw [← length_sb, hsD]
  have hlen : ds.length ≤ s.size := by rw [← hds]; have h0 := take_le isWord (restL s k); rw [length_restL] at h0; omega
  have hW := (whileWord_any b s k _ h.tok _hs (by omega)).mono (R' := fun e w' => (w.alloc (.cells zTok 34)).grownBy w' (some b) ∧ e = .returned (.string D) ∧ LxAt w' b s (k + ds.length)) (fun e w' ⟨x1, x2, x3⟩ => ⟨x1, by rw [x2, hds, hD], by rw [hds] at x3; exact x3⟩)
  have HW := Lib.hid hW; clear hW h
  have HAL := Lib.hid (new_tok w b)
  have HTK := Lib.hid (TkAt.zero w)
  have hN := word_val (restL s k) ds hds
  rw [hD] at hN
  have hhd : ds.head? = some ((s[k].toNat : Nat) : Int) := by
    have h0 := restL_at s k 0 (by omega)
    rw [← hds]
    cases hr : restL s k with
    | nil => rw [hr] at h0; simp at h0
    | cons x l =>
      rw [hr] at h0; simp at h0
      have hwd : isWord x = true := by rw [isWord_beg, h0, hd]; rfl
      rw [List.takeWhile_cons, hwd]; simp [h0]
  rw [← nm_called hhd hd] at hN
  have hmx : D.size ≤ 1000000 := by omega
  clear hhd hd hbd hds hlen hD
  cases hq : readS D with
  | some d =>
    rw [hq] at hN
    have HN := Lib.hid hN; clear hN
    have hsz : d.sh.size ≤ 12 := (read_some D d hq).1
    have HSY := Lib.hid (fun (e : Ending) (he : Says (sb D) e) => says_some hq he); clear hq hsD
    go_enter Tryd.func33, Tryd.ntmps33
    go_upto_region 4 with (first
        | (go_at_call 18; ((with_reducible refine HW.out.mono ?_); rintro e w1 ⟨h1, rfl, h2⟩; have H1 := Lib.hid h1; have H2 := Lib.hid h2; clear h1 h2))
        | (go_at_call 41; ((with_reducible refine (read_any D _ ?_).mono ?_); (first | omega | skip); rintro e w2 ⟨h1, h2⟩; obtain rfl := HSY.out e h1; clear h1; have H3 := Lib.hid h2; clear h2; have HL2 := Lib.hid (H2.out.below H3.out H2.out.lt); have HT2 := Lib.hid ((HTK.out.grown H1.out hw0).below H3.out (HTK.out.grown H1.out hw0).lt); have hlt2 := HT2.out.lt; have hne2 : w.heap.size ≠ w2.heap.size := Nat.ne_of_lt hlt2; obtain ⟨x0, x1, x2, x3, x4, x5, x6, x7, x8⟩ := HT2.out.cells; obtain ⟨f0, f1, f2, f3, f4, f5, f6, f7, f8⟩ := HT2.out.melts)))
    have hR3 := RefAt.new w2 d.sh d.c d.r d.ac d.ar
    have hB3 : Below w2.heap.size w2 (w2.alloc (.cells #[.string d.sh, .int .i64 d.c, .int .i64 d.r, .bool d.ac, .bool d.ar] 32)) := (Below.refl _ _).alloc (Nat.le_refl _) _
    have HL3 := Lib.hid (HL2.out.below hB3 HL2.out.lt)
    have HT3 := Lib.hid (HT2.out.below hB3 HT2.out.lt)
    have HG3 := Lib.hid (grownBy.below' (grownBy.below' (grownBy.trans' HAL.out H1.out) H3.out) hB3)
    clear x0 x1 x2 x3 x4 x5 x6 x7 x8 f0 f1 f2 f3 f4 f5 f6 f7 f8 hB3
    generalize w2.alloc (.cells #[.string d.sh, .int .i64 d.c, .int .i64 d.r, .bool d.ac, .bool d.ar] 32) = w3 at hR3 HL3 HT3 HG3 ⊢
    obtain ⟨x0, x1, x2, x3, x4, x5, x6, x7, x8⟩ := HT3.out.cells
    obtain ⟨f0, f1, f2, f3, f4, f5, f6, f7, f8⟩ := HT3.out.melts
    obtain ⟨y0, y1, y2, y3, y4⟩ := hR3.facts
    clear hR3
    go_wp2_with fail
    exact bodyPost_ret (out_tok (HT3.out.put9 { Tk.zero with kind := 4, sh := d.sh, c := d.c, r := d.r, ac := d.ac, ar := d.ar }) _ _ true 2 3 res_word rfl rfl) rfl ⟨grownBy.set9 HG3.out (Nat.le_refl _) _ _ _ _ _ _ _ _ _, .inl ⟨_, _, HN.out, rfl, HL3.out.set9 hw0 _ _ _ _ _ _ _ _ _⟩⟩
  | none =>
    rw [hq] at hN
    have HSY := Lib.hid (fun (e : Ending) (he : Says (sb D) e) => says_none hq he); clear hq
    cases hnm : nmL ds
    all_goals
      rw [hnm] at hN
      have HN := Lib.hid hN; clear hN
      have HNM := Lib.hid (show nmL (sb D) = _ by rw [hsD, hnm])
      clear hnm hsD
      go_enter Tryd.func33, Tryd.ntmps33
      go_upto_region 5 with (first
        | (go_at_call 18; ((with_reducible refine HW.out.mono ?_); rintro e w1 ⟨h1, rfl, h2⟩; have H1 := Lib.hid h1; have H2 := Lib.hid h2; clear h1 h2))
        | (go_at_call 41; ((with_reducible refine (read_any D _ ?_).mono ?_); (first | omega | skip); rintro e w2 ⟨h1, h2⟩; obtain rfl := HSY.out e h1; clear h1; have H3 := Lib.hid h2; clear h2; have HL2 := Lib.hid (H2.out.below H3.out H2.out.lt); have HT2 := Lib.hid ((HTK.out.grown H1.out hw0).below H3.out (HTK.out.grown H1.out hw0).lt))))
      have hB3 : Below w2.heap.size w2 (w2.alloc (.cells #[.string ⟨#[]⟩, .int .i64 0, .int .i64 0, .bool false, .bool false] 32)) := (Below.refl _ _).alloc (Nat.le_refl _) _
      have HL3 := Lib.hid (HL2.out.below hB3 HL2.out.lt)
      have HT3 := Lib.hid (HT2.out.below hB3 HT2.out.lt)
      have HG3 := Lib.hid (grownBy.below' (grownBy.below' (grownBy.trans' HAL.out H1.out) H3.out) hB3)
      clear hB3
      generalize w2.alloc (.cells #[.string ⟨#[]⟩, .int .i64 0, .int .i64 0, .bool false, .bool false] 32) = w3 at HL3 HT3 HG3 ⊢
      obtain ⟨x0, x1, x2, x3, x4, x5, x6, x7, x8⟩ := HT3.out.cells
      obtain ⟨f0, f1, f2, f3, f4, f5, f6, f7, f8⟩ := HT3.out.melts
      go_wp2_with (go_at_call 42; ((with_reducible refine (isName_any D _ ?_).mono ?_); (first | omega | skip); rintro e w4 ⟨rfl, rfl⟩; rw [HNM.out]))
    · exact bodyPost_ret (out_tok (HT3.out.put9 { Tk.zero with kind := 3, text := D }) _ _ false 2 3 res_word rfl rfl) rfl ⟨grownBy.set9 HG3.out (Nat.le_refl _) _ _ _ _ _ _ _ _ _, .inr ⟨HN.out, { Tk.zero with kind := 3, text := D }, rfl⟩⟩
    · exact bodyPost_ret (out_tok (HT3.out.put9 { Tk.zero with kind := 3, text := D }) _ _ true 2 3 res_word rfl rfl) rfl ⟨grownBy.set9 HG3.out (Nat.le_refl _) _ _ _ _ _ _ _ _ _, .inl ⟨_, _, HN.out, rfl, HL3.out.set9 hw0 _ _ _ _ _ _ _ _ _⟩⟩
end Go.Proofs.YtdapnipodnhpkaaDoor
