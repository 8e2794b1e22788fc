/-
  Layer 4, the program: what a method leaves; numbers.
-/
import Derived.Test.YtdapnipodnhpkaaDoorLexC
import Derived.Laws.ResultCell
namespace Go.Proofs.YtdapnipodnhpkaaDoor
open Go.RowKit

/-- What a method of the reader leaves: a token and the place behind it, or a false. -/
def TokOut (o : Option (Tk × Nat)) (b : Nat) (s : ByteArray) (k : Nat) (w : World) (e : Ending) (w' : World) : Prop :=
  w.grownBy w' (some b) ∧ ((∃ t n, o = some (t, n) ∧ e = .returned (.tuple #[.agg (tokA t), .bool true]) ∧ LxAt w' b s (k + n)) ∨ (o = none ∧ ∃ t, e = .returned (.tuple #[.agg (tokA t), .bool false])))
theorem grownBy.setNew {a w : World} {r : Option Nat} (h : a.grownBy w r) (ad : Addr) (v : Value) (hg : a.heap.size ≤ ad.block) : a.grownBy (w.setCell ad v) r :=
  ⟨h.os, h.tape, h.output, by simpa using h.size, fun j hj hr => by
    rw [Below.heap_setCell _ _ _ _ (by intro e; omega)]; exact h.block j hj hr⟩
theorem grownBy.set9 {a w : World} {r : Option Nat} {g : Nat} (h : a.grownBy w r) (hg : a.heap.size ≤ g) (v0 v1 v2 v3 v4 v5 v6 v7 v8 : Value) :
    a.grownBy (((((((((w.setCell ⟨g, 0, none⟩ v0).setCell ⟨g, 1, none⟩ v1).setCell ⟨g, 2, none⟩ v2).setCell ⟨g, 3, none⟩ v3).setCell ⟨g, 4, none⟩ v4).setCell ⟨g, 5, none⟩ v5).setCell ⟨g, 6, none⟩ v6).setCell ⟨g, 7, none⟩ v7).setCell ⟨g, 8, none⟩ v8) r :=
  grownBy.setNew (grownBy.setNew (grownBy.setNew (grownBy.setNew (grownBy.setNew (grownBy.setNew (grownBy.setNew (grownBy.setNew (grownBy.setNew (h) _ _ hg) _ _ hg) _ _ hg) _ _ hg) _ _ hg) _ _ hg) _ _ hg) _ _ hg) _ _ hg
theorem LxAt.other {w : World} {b : Nat} {s : ByteArray} {k : Nat} (h : LxAt w b s k) (ad : Addr) (v : Value) (hne : ad.block ≠ b) : LxAt (w.setCell ad v) b s k := by
  unfold LxAt; rw [Below.heap_setCell _ _ _ _ (by intro e; exact hne e.symm)]; exact h
theorem LxAt.set9 {w : World} {b : Nat} {s : ByteArray} {k g : Nat} (h : LxAt w b s k) (hg : g ≠ b) (v0 v1 v2 v3 v4 v5 v6 v7 v8 : Value) :
    LxAt (((((((((w.setCell ⟨g, 0, none⟩ v0).setCell ⟨g, 1, none⟩ v1).setCell ⟨g, 2, none⟩ v2).setCell ⟨g, 3, none⟩ v3).setCell ⟨g, 4, none⟩ v4).setCell ⟨g, 5, none⟩ v5).setCell ⟨g, 6, none⟩ v6).setCell ⟨g, 7, none⟩ v7).setCell ⟨g, 8, none⟩ v8) b s k :=
  ((((((((h.other _ _ hg).other _ _ hg).other _ _ hg).other _ _ hg).other _ _ hg).other _ _ hg).other _ _ hg).other _ _ hg).other _ _ hg
theorem TkAt.cells {w : World} {b : Nat} {t : Tk} (h : TkAt w b t) : w.cell? ⟨b, 0, none⟩ = some (.int .i64 t.kind) ∧ w.cell? ⟨b, 1, none⟩ = some (.string t.text) ∧ w.cell? ⟨b, 2, none⟩ = some (.int .i64 t.num) ∧ w.cell? ⟨b, 3, none⟩ = some (.string t.sh) ∧ w.cell? ⟨b, 4, none⟩ = some (.int .i64 t.c) ∧ w.cell? ⟨b, 5, none⟩ = some (.int .i64 t.r) ∧ w.cell? ⟨b, 6, none⟩ = some (.bool t.ac) ∧ w.cell? ⟨b, 7, none⟩ = some (.bool t.ar) ∧ w.cell? ⟨b, 8, none⟩ = some (.int .i64 t.pos) :=
  ⟨by rw [cell_of_row w b 0 _ _ _ h]; rfl, by rw [cell_of_row w b 1 _ _ _ h]; rfl, by rw [cell_of_row w b 2 _ _ _ h]; rfl, by rw [cell_of_row w b 3 _ _ _ h]; rfl, by rw [cell_of_row w b 4 _ _ _ h]; rfl, by rw [cell_of_row w b 5 _ _ _ h]; rfl, by rw [cell_of_row w b 6 _ _ _ h]; rfl, by rw [cell_of_row w b 7 _ _ _ h]; rfl, by rw [cell_of_row w b 8 _ _ _ h]; rfl⟩
theorem TkAt.melts {w : World} {b : Nat} {t : Tk} (h : TkAt w b t) : w.frozen? ⟨b, 0, none⟩ = false ∧ w.frozen? ⟨b, 1, none⟩ = false ∧ w.frozen? ⟨b, 2, none⟩ = false ∧ w.frozen? ⟨b, 3, none⟩ = false ∧ w.frozen? ⟨b, 4, none⟩ = false ∧ w.frozen? ⟨b, 5, none⟩ = false ∧ w.frozen? ⟨b, 6, none⟩ = false ∧ w.frozen? ⟨b, 7, none⟩ = false ∧ w.frozen? ⟨b, 8, none⟩ = false :=
  ⟨h.frozen 0, h.frozen 1, h.frozen 2, h.frozen 3, h.frozen 4, h.frozen 5, h.frozen 6, h.frozen 7, h.frozen 8⟩
/-- A new token's cells, as the walk writes them. -/
abbrev zTok : Array Value := #[.int .i64 0, .string ⟨#[]⟩, .int .i64 0, .string ⟨#[]⟩, .int .i64 0, .int .i64 0, .bool false, .bool false, .int .i64 0]
theorem TkAt.zero (w : World) : TkAt (w.alloc (.cells zTok 34)) w.heap.size Tk.zero := TkAt.new w Tk.zero
/-- A token stored whole into a block that holds one. -/
theorem wpList_store_tok {ops : Array Oper} {rest : List Oper} {op : Oper} {a : Act} {w : World} {Q : Exit → Act → World → Prop} (hgd : op.guard = none) (x y : Operand) (ho : op.op = .store 34 x y)
    (g : Nat) (t0 t : Tk) (hx : a.eval x = .pointer (some ⟨g, 0, none⟩)) (hy : a.eval y = .agg (tokA t)) (hr : TkAt w g t0)
    (h : ∀ w', TkAt w' g t → w.grownBy w' (some g) → wpList Tryd.prog ops Q rest (a.put op.dst undef) w') : wpList Tryd.prog ops Q (op :: rest) a w :=
  wpList_store_row hgd 34 x y ho g 34 _ _ hx hy hr rfl tok_size (tok_one t) (h _ (setRow_heap w g _ _ _ _ hr) (grownBy.setRow' (grownBy.refl' w _) _))
theorem TkAt.load {w : World} {b : Nat} {t : Tk} (h : TkAt w b t) : (loadVar 34 ⟨b, 0, none⟩).run Tryd.prog w = .ok (.agg (tokA t)) w :=
  run_loadVar_row w b 34 34 _ _ _ h Tryd.underlying34 rfl tok_size
/-- The way out: a token out of its cell, a Bool beside it. -/
theorem out_tok {w : World} {b : Nat} {t : Tk} (h : TkAt w b t) (fn : Func) (tmps : Array Value) (ok : Bool) (p u : Tmp) (hf : fn.results = #[.cell p 34, .tmp u]) (hp : tmps.getD p undef = .pointer (some ⟨b, 0, none⟩)) (hu : tmps.getD u undef = .bool ok) :
    (results fn tmps).run Tryd.prog w = .ok (.tuple #[.agg (tokA t), .bool ok]) w := by
  rw [results_cell_tmp hf, hp, hu]
  simp [asAddr, h.load, Result.andThen]
theorem TkAt.set0 {w : World} {b : Nat} {t : Tk} (h : TkAt w b t) (x : Int) : TkAt (w.setCell ⟨b, 0, none⟩ (.int .i64 x)) b { t with kind := x } := by unfold TkAt; rw [heap_setCell_same w b 0 _ _ _ h]; rfl
theorem TkAt.set1 {w : World} {b : Nat} {t : Tk} (h : TkAt w b t) (x : ByteArray) : TkAt (w.setCell ⟨b, 1, none⟩ (.string x)) b { t with text := x } := by unfold TkAt; rw [heap_setCell_same w b 1 _ _ _ h]; rfl
theorem TkAt.set2 {w : World} {b : Nat} {t : Tk} (h : TkAt w b t) (x : Int) : TkAt (w.setCell ⟨b, 2, none⟩ (.int .i64 x)) b { t with num := x } := by unfold TkAt; rw [heap_setCell_same w b 2 _ _ _ h]; rfl
theorem TkAt.set3 {w : World} {b : Nat} {t : Tk} (h : TkAt w b t) (x : ByteArray) : TkAt (w.setCell ⟨b, 3, none⟩ (.string x)) b { t with sh := x } := by unfold TkAt; rw [heap_setCell_same w b 3 _ _ _ h]; rfl
theorem TkAt.set4 {w : World} {b : Nat} {t : Tk} (h : TkAt w b t) (x : Int) : TkAt (w.setCell ⟨b, 4, none⟩ (.int .i64 x)) b { t with c := x } := by unfold TkAt; rw [heap_setCell_same w b 4 _ _ _ h]; rfl
theorem TkAt.set5 {w : World} {b : Nat} {t : Tk} (h : TkAt w b t) (x : Int) : TkAt (w.setCell ⟨b, 5, none⟩ (.int .i64 x)) b { t with r := x } := by unfold TkAt; rw [heap_setCell_same w b 5 _ _ _ h]; rfl
theorem TkAt.set6 {w : World} {b : Nat} {t : Tk} (h : TkAt w b t) (x : Bool) : TkAt (w.setCell ⟨b, 6, none⟩ (.bool x)) b { t with ac := x } := by unfold TkAt; rw [heap_setCell_same w b 6 _ _ _ h]; rfl
theorem TkAt.set7 {w : World} {b : Nat} {t : Tk} (h : TkAt w b t) (x : Bool) : TkAt (w.setCell ⟨b, 7, none⟩ (.bool x)) b { t with ar := x } := by unfold TkAt; rw [heap_setCell_same w b 7 _ _ _ h]; rfl
theorem TkAt.set8 {w : World} {b : Nat} {t : Tk} (h : TkAt w b t) (x : Int) : TkAt (w.setCell ⟨b, 8, none⟩ (.int .i64 x)) b { t with pos := x } := by unfold TkAt; rw [heap_setCell_same w b 8 _ _ _ h]; rfl
theorem TkAt.put9 {w : World} {b : Nat} {t0 : Tk} (h : TkAt w b t0) (t : Tk) : TkAt (((((((((w.setCell ⟨b, 0, none⟩ (.int .i64 t.kind)).setCell ⟨b, 1, none⟩ (.string t.text)).setCell ⟨b, 2, none⟩ (.int .i64 t.num)).setCell ⟨b, 3, none⟩ (.string t.sh)).setCell ⟨b, 4, none⟩ (.int .i64 t.c)).setCell ⟨b, 5, none⟩ (.int .i64 t.r)).setCell ⟨b, 6, none⟩ (.bool t.ac)).setCell ⟨b, 7, none⟩ (.bool t.ar)).setCell ⟨b, 8, none⟩ (.int .i64 t.pos)) b t := by
  have h9 := (((((((((h.set0 t.kind).set1 t.text).set2 t.num).set3 t.sh).set4 t.c).set5 t.r).set6 t.ac).set7 t.ar).set8 t.pos)
  exact h9

/-! The library's reading of digits. -/
theorem atoi_parse : ∀ (l : List UInt8) (a : Nat) (L : List Int), a < 18446744073709551616 → valL L = (a : Int) → (∀ c ∈ l, 48 ≤ c.toNat ∧ c.toNat ≤ 57) →
    Lib.parseUint10 a l = if valL (L ++ l.map fun x => (x.toNat : Int)) < 18446744073709551616 then .ok (valL (L ++ l.map fun x => (x.toNat : Int))).toNat else .range
  | [], a, L, ha, hL, _ => by
    simp only [List.map_nil, List.append_nil]
    rw [hL, if_pos (by omega)]; unfold Lib.parseUint10; simp
  | c :: l, a, L, ha, hL, h => by
    have hc := h c (by simp)
    have hv : valL (L ++ [(c.toNat : Int)]) = 10 * (a : Int) + ((c.toNat : Int) - 48) := by rw [valL_snoc, hL]
    have hge := valL_ge (l.map fun x => (x.toNat : Int)) (L ++ [(c.toNat : Int)]) (by
      intro x hx; rw [List.mem_map] at hx; obtain ⟨d, hd, rfl⟩ := hx
      have := h d (by simp [hd])
      unfold isNum; rw [decide_eq_true_iff]; omega) (by omega)
    have e : L ++ (c :: l).map (fun x => (x.toNat : Int)) = L ++ [(c.toNat : Int)] ++ l.map fun x => (x.toNat : Int) := by simp
    rw [e]
    unfold Lib.parseUint10
    rw [if_pos hc]
    by_cases h1 : 1844674407370955162 ≤ a
    · rw [if_pos h1, if_neg (by omega)]
    · rw [if_neg h1]
      by_cases h2 : 18446744073709551616 ≤ a * 10 + (c.toNat - 48)
      · rw [if_pos h2, if_neg (by omega)]
      · rw [if_neg h2]
        exact atoi_parse l (a * 10 + (c.toNat - 48)) (L ++ [(c.toNat : Int)]) (by omega) (by rw [hv]; omega) (fun d hd => h d (by simp [hd]))
theorem atoi_nums (D : ByteArray) (h0 : sb D ≠ []) (h : ∀ x ∈ sb D, isNum x = true) : Lib.atoiAll D.data.toList = if 9223372036854775807 < valL (sb D) then .range else .ok (valL (sb D)) := by
  have hsb : sb D = D.data.toList.map fun x => (x.toNat : Int) := rfl
  have hpos := valL_ge (sb D) [] h (by decide)
  rw [List.nil_append, show valL [] = 0 from rfl] at hpos
  rw [hsb] at h0 h hpos ⊢
  cases hl : D.data.toList with
  | nil => rw [hl] at h0; exact absurd rfl h0
  | cons c r =>
    rw [hl] at h hpos
    have hall : ∀ d ∈ c :: r, 48 ≤ d.toNat ∧ d.toNat ≤ 57 := by
      intro d hd
      have := num_bd (h (d.toNat : Int) (List.mem_map_of_mem (f := fun x : UInt8 => (x.toNat : Int)) hd))
      omega
    have hc := hall c (by simp)
    unfold Lib.atoiAll
    simp only
    rw [if_neg (by omega)]
    unfold Lib.parseMag
    rw [if_neg (by simp)]
    rw [atoi_parse (c :: r) 0 [] (by omega) rfl hall, List.nil_append]
    have hneg : ¬ c.toNat = 45 := by omega
    by_cases h1 : valL ((c :: r).map fun x => (x.toNat : Int)) < 18446744073709551616
    · rw [if_pos h1]
      simp only [hneg, false_and, not_false_iff, true_and, if_false]
      by_cases h2 : 9223372036854775807 < valL ((c :: r).map fun x => (x.toNat : Int))
      · rw [if_pos h2, if_pos (by omega)]
      · rw [if_neg h2, if_neg (by omega)]
        congr 1; omega
    · rw [if_neg h1, if_pos (by omega)]

/-- What the error variable holds does not matter: an error, or none. -/
def ErrV (w : World) : Prop := ∃ ev, w.cell? ⟨2, 0, none⟩ = some ev ∧ (ev = .nilIface ∨ ∃ te pe, ev = .iface te pe)
theorem ErrV.grown {w w' : World} {b : Nat} (h : ErrV w) (hg : w.grownBy w' (some b)) (hb : 2 < b) : ErrV w' := by
  obtain ⟨ev, h1, h2⟩ := h
  refine ⟨ev, ?_, h2⟩
  rw [cell_other hg ?_ (by intro e; have := Option.some.inj e; simp at this; omega)]
  · exact h1
  · rcases Nat.lt_or_ge 2 w.heap.size with h' | h'
    · exact h'
    · exfalso; unfold World.cell? at h1; simp only at h1; rw [Array.getElem?_eq_none h'] at h1; cases h1

theorem TkAt.drew {w : World} {b : Nat} {t : Tk} (h : TkAt w b t) : TkAt w.drew b t := h
theorem LxAt.drew {w : World} {b : Nat} {s : ByteArray} {k : Nat} (h : LxAt w b s k) : LxAt w.drew b s k := h
theorem grownBy.drew' {a w : World} {r : Option Nat} (h : a.grownBy w r) : a.grownBy w.drew r := ⟨h.os, h.tape, h.output, h.size, h.block⟩
theorem atoi_ok (D : ByteArray) (hD : D.size ≤ 1000000) (v : Int) (h : Lib.atoiAll D.data.toList = .ok v) (w : World) : Calls Tryd.prog 37 #[.string D] w fun e w' => e = .returned (.tuple #[.int .i64 v, .nilIface]) ∧ Below w.heap.size w w' := by
  refine (Tryd.strconv_Atoi_ok D (by omega) v h w).mono ?_
  rintro e w' ⟨rfl, rfl | ⟨t, rfl⟩⟩
  · exact ⟨rfl, Below.refl _ _⟩
  · exact ⟨rfl, Lib.bytesWorld_below _ _ _⟩
theorem res_number : Tryd.f29.results = #[.cell 2 34, .tmp 3] := by kernel_rfl
set_option maxRecDepth 100000 in
set_option maxHeartbeats 800000 in
theorem number_any (b : Nat) (s : ByteArray) (k : Nat) (w : World) (h : LxAt w b s k) (_hs : s.size ≤ 1000000) (_hk : k < s.size) (hd : isNum ((s[k].toNat : Nat) : Int) = true) (hev : ErrV w) (hb2 : 2 < b) :
    Calls Tryd.prog 29 #[.pointer (some ⟨b, 0, none⟩)] w (TokOut (numT (restL s k)) b s k w) := by
  have hal : w.grownBy (w.alloc (.cells zTok 34)) (some b) := grownBy.below' (grownBy.refl' _ _) ((Below.refl _ _).alloc (Nat.le_refl _) _)
  have h1 : LxAt (w.alloc (.cells zTok 34)) b s k := h.below ((Below.refl _ _).alloc (Nat.le_refl _) _) h.lt
  have hlt := h.lt
  have HEV := Lib.hid (hev.grown hal hb2); clear hev
  obtain ⟨ds, hds⟩ : ∃ ds, (restL s k).takeWhile isNum = ds := ⟨_, rfl⟩
  obtain ⟨D, hD⟩ : ∃ D, strOfNums ds = D := ⟨_, rfl⟩
  have hbd : Bytes ds := fun x hx => restL_bd s k x (by rw [← hds] at hx; exact (List.takeWhile_prefix _).subset hx)
  have hsD : sb D = ds := by rw [← hD]; exact sb_str ds hbd
  have hszD : D.size = ds.length := by rw [← length_sb, hsD]
  have hlen : ds.length ≤ s.size := by rw [← hds]; have h0 := take_le isNum (restL s k); rw [length_restL] at h0; omega
  have hW := (whileDigit_any b s k _ h1 _hs (by omega)).mono (R' := fun e w' => (w.alloc (.cells zTok 34)).grownBy w' (some b) ∧ e = .returned (.string D) ∧ LxAt w' b s (k + ds.length)) (fun e w' ⟨x1, x2, x3⟩ => ⟨x1, by rw [x2, hds, hD], by rw [hds] at x3; exact x3⟩)
  have HW := Lib.hid hW; clear hW h1 h
  have HAL := Lib.hid hal; clear hal
  have HTK := Lib.hid (TkAt.zero w)
  have hne : ds ≠ [] := by
    have h0 := restL_at s k 0 (by omega)
    rw [← hds]
    cases hr : restL s k with
    | nil => rw [hr] at h0; simp at h0
    | cons x l => rw [hr] at h0; simp at h0; rw [List.takeWhile_cons, h0, hd]; simp
  have hall : ∀ x ∈ ds, isNum x = true := by rw [← hds]; exact take_all isNum _
  have hN : numT (restL s k) = if (1 < ds.length ∧ ds.head? = some 48) ∨ 9223372036854775807 < valL ds then none else some ({ Tk.zero with kind := 1, num := valL ds }, ds.length) := by
    unfold numT
    rw [hds]
    have hh : (restL s k).head? = ds.head? := by
      have e := take_split isNum (restL s k)
      rw [hds] at e
      rw [← e]
      cases ds with
      | nil => exact absurd rfl hne
      | cons x l => rfl
    rw [hh]
  have hat := atoi_nums D (by rw [hsD]; exact hne) (by rw [hsD]; exact hall)
  rw [hsD] at hat
  have hp := List.length_pos_iff.2 hne
  have hD0 : 0 < D.size := by omega
  obtain ⟨a, ha⟩ : ∃ a : Int, (D[0].toNat : Int) = a := ⟨_, rfl⟩
  have hhd : ds.head? = some a := by rw [← ha, ← hsD, List.head?_eq_getElem?, sb_at D 0 hD0]
  have hmx : D.size ≤ 1000000 := by omega
  have HD := Lib.hid hD; have HSD := Lib.hid hsD
  have HLEN := Lib.hid hlen
  have HALL := Lib.hid hall
  clear hne hall hbd hds hD hsD hlen
  have hw0 : w.heap.size ≠ b := by omega
  by_cases h48 : 1 < ds.length ∧ ds.head? = some 48
  · rw [if_pos (Or.inl h48)] at hN
    have HN := Lib.hid hN; clear hN hat
    have h481 : (1 : Int) < (D.size : Int) := by omega
    have h482 : (a == 48) = true := by rw [hhd] at h48; exact beq_iff_eq.2 (Option.some.inj h48.2)
    have HHD := Lib.hid hhd
    clear h48 hhd hp
    go_enter Tryd.func29, Tryd.ntmps29
    go_wp2_with (go_at_call 18; ((with_reducible refine HW.out.mono ?_); rintro e w1 ⟨h1, rfl, h2⟩; have H1 := Lib.hid h1; have H2 := Lib.hid h2; clear h1 h2; have HT1 := Lib.hid (HTK.out.grown H1.out hw0); obtain ⟨x0, x1, x2, x3, x4, x5, x6, x7, x8⟩ := HT1.out.cells; obtain ⟨f0, f1, f2, f3, f4, f5, f6, f7, f8⟩ := HT1.out.melts))
    exact bodyPost_ret (out_tok (HT1.out.put9 Tk.zero) _ _ false 2 3 res_number rfl rfl) rfl ⟨grownBy.set9 (grownBy.trans' HAL.out H1.out) (Nat.le_refl _) _ _ _ _ _ _ _ _ _, .inr ⟨HN.out, Tk.zero, rfl⟩⟩
  · by_cases hbig : 9223372036854775807 < valL ds
    · rw [if_pos (Or.inr hbig)] at hN
      rw [if_pos hbig] at hat
      have HN := Lib.hid hN
      have HAT := Lib.hid hat
      clear hN hat
      have hcond : (a == 48) = false ∨ ((a == 48) = true ∧ ¬ (1 : Int) < (D.size : Int)) := by
        by_cases ha48 : a = 48
        · refine .inr ⟨beq_iff_eq.2 ha48, fun h1 => h48 ⟨by omega, by rw [hhd, ha48]⟩⟩
        · exact .inl (beq_eq_false_iff_ne.2 ha48)
      clear h48 hhd hp hbig
      go_enter Tryd.func29, Tryd.ntmps29
      rcases hcond with hc1 | ⟨hc1, hc2⟩
      all_goals go_wp2_with (first
        | (go_at_call 18; ((with_reducible refine HW.out.mono ?_); rintro e w1 ⟨h1, rfl, h2⟩; have H1 := Lib.hid h1; have H2 := Lib.hid h2; clear h1 h2; obtain ⟨ev, HE1, HE2⟩ := HEV.out.grown H1.out hb2; have HE1 := Lib.hid HE1; have HE2 := Lib.hid HE2))
        | (go_at_call 37; ((with_reducible refine (Tryd.strconv_Atoi_range D ?_ HAT.out ev _ HE1.out HE2.out).mono ?_); (first | omega | skip); rintro e w2 ⟨N, rfl, -, -, h3⟩; have H3 := Lib.hid h3; clear h3; have HT2 := Lib.hid ((HTK.out.grown H1.out hw0).below H3.out (HTK.out.grown H1.out hw0).lt); obtain ⟨x0, x1, x2, x3, x4, x5, x6, x7, x8⟩ := HT2.out.cells; obtain ⟨f0, f1, f2, f3, f4, f5, f6, f7, f8⟩ := HT2.out.melts)))
      all_goals (generalize Lib.atoiSat D.data.toList = sat)
      all_goals go_region
      all_goals go_wp2_with fail
      all_goals exact bodyPost_ret (out_tok (HT2.out.put9 { Tk.zero with kind := 1, num := sat }).drew _ _ false 2 3 res_number rfl rfl) rfl ⟨grownBy.drew' (grownBy.set9 (grownBy.below' (grownBy.trans' HAL.out H1.out) H3.out) (Nat.le_refl _) _ _ _ _ _ _ _ _ _), .inr ⟨HN.out, { Tk.zero with kind := 1, num := sat }, rfl⟩⟩
    · rw [if_neg (show ¬ ((1 < ds.length ∧ ds.head? = some 48) ∨ 9223372036854775807 < valL ds) from fun h1 => h1.elim h48 hbig)] at hN
      rw [if_neg hbig] at hat
      obtain ⟨v, hv⟩ : ∃ v, valL ds = v := ⟨_, rfl⟩
      rw [hv] at hN hat
      have HN := Lib.hid hN
      have HAT := Lib.hid hat
      clear hN hat hv
      have hcond : (a == 48) = false ∨ ((a == 48) = true ∧ ¬ (1 : Int) < (D.size : Int)) := by
        by_cases ha48 : a = 48
        · refine .inr ⟨beq_iff_eq.2 ha48, fun h1 => h48 ⟨by omega, by rw [hhd, ha48]⟩⟩
        · exact .inl (beq_eq_false_iff_ne.2 ha48)
      clear h48 hhd hp hbig
      go_enter Tryd.func29, Tryd.ntmps29
      rcases hcond with hc1 | ⟨hc1, hc2⟩
      all_goals go_wp2_with (first
        | (go_at_call 18; ((with_reducible refine HW.out.mono ?_); rintro e w1 ⟨h1, rfl, h2⟩; have H1 := Lib.hid h1; have H2 := Lib.hid h2; clear h1 h2))
        | (go_at_call 37; ((with_reducible refine (atoi_ok D ?_ v HAT.out _).mono ?_); (first | omega | skip); rintro e w2 ⟨rfl, h3⟩; have H3 := Lib.hid h3; clear h3; have HL2 := Lib.hid (H2.out.below H3.out H2.out.lt); have HT2 := Lib.hid ((HTK.out.grown H1.out hw0).below H3.out (HTK.out.grown H1.out hw0).lt); obtain ⟨x0, x1, x2, x3, x4, x5, x6, x7, x8⟩ := HT2.out.cells; obtain ⟨f0, f1, f2, f3, f4, f5, f6, f7, f8⟩ := HT2.out.melts)))
      all_goals go_region
      all_goals go_wp2_with fail
      all_goals exact bodyPost_ret (out_tok (HT2.out.put9 { Tk.zero with kind := 1, num := v }).drew _ _ true 2 3 res_number rfl rfl) rfl ⟨grownBy.drew' (grownBy.set9 (grownBy.below' (grownBy.trans' HAL.out H1.out) H3.out) (Nat.le_refl _) _ _ _ _ _ _ _ _ _), .inl ⟨_, _, HN.out, rfl, (HL2.out.set9 hw0 _ _ _ _ _ _ _ _ _).drew⟩⟩
end Go.Proofs.YtdapnipodnhpkaaDoor
