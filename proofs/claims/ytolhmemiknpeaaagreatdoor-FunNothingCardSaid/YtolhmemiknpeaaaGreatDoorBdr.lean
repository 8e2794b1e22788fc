/-
  A Builder in a block of its own: WriteString, String, Len.
-/
import Derived.Test.YtolhmemiknpeaaaGreatDoorSwBG
import Derived.Lib.UnsafeStr
import Derived.MapKept
namespace Go.Proofs.YtolhmemiknpeaaaGreatDoor
open Go.RowKit

/-- A Builder's block. -/
def BdAt (w : World) (b : Nat) (ad bv : Value) : Prop := w.heap[b]? = some (.cells #[ad, bv] 74)
section
variable {w : World} {b : Nat} {ad bv : Value}
theorem BdAt.new (w : World) : BdAt (w.alloc (.cells #[.pointer none, .slice none 0 0] 74)) w.heap.size (.pointer none) (.slice none 0 0) := (Go.MapKept.heap_alloc w _).1
theorem BdAt.lt (h : BdAt w b ad bv) : b < w.heap.size := (Array.getElem?_eq_some_iff.1 h).1
theorem BdAt.facts (h : BdAt w b ad bv) : w.cell? ⟨b, 0, none⟩ = some ad ∧ w.cell? ⟨b, 1, none⟩ = some bv :=
  ⟨by rw [cell_of_row w b 0 _ _ _ h]; rfl, by rw [cell_of_row w b 1 _ _ _ h]; rfl⟩
theorem BdAt.frozen (h : BdAt w b ad bv) (j : Nat) : w.frozen? ⟨b, j, none⟩ = false := frozen_of_row w b j _ _ h
theorem BdAt.below {w' : World} {B : Nat} (h : BdAt w b ad bv) (hb : Below B w w') (hB : b < B) : BdAt w' b ad bv := by unfold BdAt; rw [hb.block b hB]; exact h
theorem BdAt.put0 (h : BdAt w b ad bv) (v : Value) : BdAt (w.setCell ⟨b, 0, none⟩ v) b v bv := by unfold BdAt; rw [heap_setCell_same w b 0 _ _ _ h]; rfl
theorem BdAt.put1 (h : BdAt w b ad bv) (v : Value) : BdAt (w.setCell ⟨b, 1, none⟩ v) b ad v := by unfold BdAt; rw [heap_setCell_same w b 1 _ _ _ h]; rfl
theorem BdAt.shape (h : BdAt w b ad bv) : w.shape? b = some (74, 2) := by
  have h' : w.heap[b]? = some (.cells #[ad, bv] 74) := h
  simp [World.shape?, h']
end
set_option maxRecDepth 100000 in
set_option maxHeartbeats 1600000 in
theorem copyb_used (w : World) (b : Nat) (h0 : w.cell? ⟨b, 0, none⟩ = some (.pointer (some ⟨b, 0, none⟩))) :
    Calls Tryz.prog 60 #[.pointer (some ⟨b, 0, none⟩)] w fun e w' => e = .returned (.tuple #[]) ∧ w = w' := by
  obtain ⟨j, hj, _⟩ := bld_info
  go_enter Tryz.func60, Tryz.ntmps60
  go_wp2_with fail
  rw [Lib.run_neq_ptr_same w _ Tryz.underlying72 hj]
  go_wp2_with fail
  go_end0
  exact ⟨rfl, rfl⟩
set_option maxRecDepth 100000 in
set_option maxHeartbeats 1600000 in
theorem copyb_fresh (w : World) (b : Nat) (bv : Value) (h : BdAt w b (.pointer none) bv) :
    Calls Tryz.prog 60 #[.pointer (some ⟨b, 0, none⟩)] w fun e w' => e = .returned (.tuple #[]) ∧ w.setCell ⟨b, 0, none⟩ (.pointer (some ⟨b, 0, none⟩)) = w' := by
  obtain ⟨j, hj, hjs⟩ := bld_info
  obtain ⟨h0, -⟩ := h.facts
  have hfz := h.frozen 0
  have hsh := h.shape
  have hlies : liesAt Tryz.prog Tryz.prog.depth 74 (2 / Tryz.prog.cellsOf 74) 0 74 1 = true := by kernel_rfl
  go_enter Tryz.func60, Tryz.ntmps60
  go_wp2_with fail
  rw [Lib.run_to_unsafe w ⟨b, 0, none⟩ Tryz.underlying72 Tryz.underlying94 hj (by rw [hjs]; decide) hsh (by show 0 < 2; omega)]
  simp only [Result.andThen]
  rw [Oper.upon_value]
  go_wp2_with fail
  rw [run_callFunc_extern Tryz.func75 (by kernel_rfl) (by kernel_rfl) (by kernel_rfl) (e := Extern.AbiNoEscape.same) (by kernel_rfl)]
  rw [Lib.run_noEscape]
  simp only [Result.andThen]
  rw [Oper.upon_value]
  go_wp2_with fail
  rw [Lib.run_from_unsafe w ⟨b, 0, none⟩ Tryz.underlying94 Tryz.underlying72 hj hsh hlies]
  simp only [Result.andThen]
  rw [Oper.upon_value]
  go_wp2_with fail
  go_end0
  exact ⟨rfl, rfl⟩

/-- A Builder that holds these bytes. -/
def BS (w : World) (b : Nat) (txt : List Int) : Prop := ∃ ad bv, BdAt w b ad bv ∧ (ad = .pointer none ∨ ad = .pointer (some ⟨b, 0, none⟩)) ∧ Own8 w (b + 1) bv txt ∧ Bytes txt
theorem BS.lt {w : World} {b : Nat} {txt : List Int} (h : BS w b txt) : b < w.heap.size := by obtain ⟨_, _, h, _⟩ := h; exact h.lt
theorem BS.below {w w' : World} {b : Nat} {txt : List Int} (h : BS w b txt) (hb : Below w.heap.size w w') : BS w' b txt := by
  have hl := h.lt
  obtain ⟨ad, bv, h1, h2, h3, h4⟩ := h; exact ⟨ad, bv, h1.below hb hl, h2, h3.below hb (Nat.le_refl _), h4⟩
set_option maxRecDepth 100000 in
set_option maxHeartbeats 1600000 in
theorem writeb_any (w : World) (b : Nat) (txt : List Int) (s : ByteArray) (h : BS w b txt) (hlen : txt.length + s.size ≤ 10000000000) :
    Calls Tryz.prog 50 #[.pointer (some ⟨b, 0, none⟩), .string s] w fun e w' => (∃ x, e = .returned (.tuple #[x, .nilIface])) ∧ BS w' b (txt ++ sb s) ∧ Fb w w' b := by
  have step : ∀ (ad bv : Value) (wc : World), BdAt wc b ad bv → Own8 wc (b + 1) bv txt → ∀ (v' : Value) (w1 : World), Own8 w1 (b + 1) v' (txt ++ sb s) → wc.grownBy w1 bv.ownBlock → BdAt w1 b ad bv ∧ Fb wc w1 b := by
    intro ad bv wc h1 h2 v' w1 _ hg
    have hf := Fb.own h2 hg
    refine ⟨?_, hf⟩
    unfold BdAt
    rw [hg.block b h1.lt (fun e => by have := own_row8 h2 b e.symm; omega)]; exact h1
  have HST := Lib.hid step
  have hsm : s.size ≤ 10000000000 := by omega
  obtain ⟨ad, bv, hw, had, ho, hby⟩ := h
  have HBY := Lib.hid (hby.append (sb_bd s))
  clear hby
  clear step
  rcases had with rfl | rfl
  · have HCP := Lib.hid (copyb_fresh w b bv hw)
    have HW := Lib.hid (hw.put0 (.pointer (some ⟨b, 0, none⟩)))
    have HO := Lib.hid (Own.other ho (grownBy.setCell' (grownBy.refl' w (some b)) 0 (.pointer (some ⟨b, 0, none⟩))) (Nat.lt_succ_self b) : Own8 (w.setCell ⟨b, 0, none⟩ (.pointer (some ⟨b, 0, none⟩))) (b + 1) bv txt)
    have HF := Lib.hid (Fb.setCell (w := w) (b := b) 0 (.pointer (some ⟨b, 0, none⟩)))
    clear hw ho
    go_enter Tryz.func50, Tryz.ntmps50
    go_upto_region 2 with (go_at_call 60; ((with_reducible refine HCP.out.mono ?_); rintro e w1 ⟨rfl, rfl⟩))
    generalize w.setCell ⟨b, 0, none⟩ (.pointer (some ⟨b, 0, none⟩)) = w1 at HW HO HF ⊢
    obtain ⟨c0, c1⟩ := HW.out.facts
    have hbz := HW.out.lt
    go_wp2_with (at_builtin; refine wpList_app_srcG Elem.u8 (encInt .u8) rfl (.tmp 12) (.tmp 13) rfl (b + 1) _ _ rfl HO.out (.string s) s.size (sb s) rfl (length_sb s) (src_text s) ?_ ?_ ?_ ?_; omega; (unfold maxLen; omega); omega; intro v3 w3 h1 h2; obtain ⟨ao3, n3, c3', hv3⟩ := own_slice h1; subst hv3; obtain ⟨h3, h4⟩ := HST.out _ _ _ HW.out HO.out _ w3 h1 h2; have f3 := h3.frozen 1; obtain ⟨y0, y1⟩ := h3.facts; have HW3 := Lib.hid (h3.put1 (.slice ao3 n3 c3')); have HF3 := Lib.hid ((HF.out.trans h4).trans (Fb.setCell 1 (.slice ao3 n3 c3'))); have HO3 := Lib.hid (Own.other h1 (grownBy.setCell' (grownBy.refl' w3 (some b)) 1 (.slice ao3 n3 c3')) (Nat.lt_succ_self b) : Own8 (w3.setCell ⟨b, 1, none⟩ (.slice ao3 n3 c3')) (b + 1) (.slice ao3 n3 c3') (txt ++ sb s)); clear h1 h2 h3 h4 c0 c1)
    go_ret2
    exact ⟨⟨_, rfl⟩, ⟨_, _, HW3.out, .inr rfl, HO3.out, HBY.out⟩, HF3.out⟩
  · have HCP := Lib.hid (copyb_used w b hw.facts.1)
    have HW := Lib.hid hw
    have HO := Lib.hid ho
    have HF := Lib.hid (Fb.refl w b)
    clear hw ho
    go_enter Tryz.func50, Tryz.ntmps50
    go_upto_region 2 with (go_at_call 60; ((with_reducible refine HCP.out.mono ?_); rintro e w1 ⟨rfl, rfl⟩))
    obtain ⟨c0, c1⟩ := HW.out.facts
    have hbz := HW.out.lt
    go_wp2_with (at_builtin; refine wpList_app_srcG Elem.u8 (encInt .u8) rfl (.tmp 12) (.tmp 13) rfl (b + 1) _ _ rfl HO.out (.string s) s.size (sb s) rfl (length_sb s) (src_text s) ?_ ?_ ?_ ?_; omega; (unfold maxLen; omega); omega; intro v3 w3 h1 h2; obtain ⟨ao3, n3, c3', hv3⟩ := own_slice h1; subst hv3; obtain ⟨h3, h4⟩ := HST.out _ _ _ HW.out HO.out _ w3 h1 h2; have f3 := h3.frozen 1; obtain ⟨y0, y1⟩ := h3.facts; have HW3 := Lib.hid (h3.put1 (.slice ao3 n3 c3')); have HF3 := Lib.hid ((HF.out.trans h4).trans (Fb.setCell 1 (.slice ao3 n3 c3'))); have HO3 := Lib.hid (Own.other h1 (grownBy.setCell' (grownBy.refl' w3 (some b)) 1 (.slice ao3 n3 c3')) (Nat.lt_succ_self b) : Own8 (w3.setCell ⟨b, 1, none⟩ (.slice ao3 n3 c3')) (b + 1) (.slice ao3 n3 c3') (txt ++ sb s)); clear h1 h2 h3 h4 c0 c1)
    go_ret2
    exact ⟨⟨_, rfl⟩, ⟨_, _, HW3.out, .inr rfl, HO3.out, HBY.out⟩, HF3.out⟩
theorem cellsb_byte : Tryz.prog.cellsOf 5 = 1 := by kernel_rfl
theorem sbb_list (s : ByteArray) : sb s = s.data.toList.map fun x => (x.toNat : Int) := rfl
set_option maxRecDepth 100000 in
set_option maxHeartbeats 2000000 in
theorem stringb_any (w : World) (b : Nat) (txt : List Int) (h : BS w b txt) (hne : txt ≠ []) :
    Calls Tryz.prog 51 #[.pointer (some ⟨b, 0, none⟩)] w fun e w' => e = .returned (.string (strOfNums txt)) ∧ Below (b + 1) w w' := by
  obtain ⟨ad, bv, hw, -, ho, hby⟩ := h
  obtain ⟨s, hs⟩ : ∃ s, strOfNums txt = s := ⟨_, rfl⟩
  have hsb : sb s = txt := by rw [← hs]; exact sb_str txt hby
  rw [hs]
  obtain ⟨l, hl⟩ : ∃ l, s.data.toList = l := ⟨_, rfl⟩
  have hls : (⟨l.toArray⟩ : ByteArray) = s := by rw [← hl]
  have htx : txt = l.map fun x => (x.toNat : Int) := by rw [← hsb, sbb_list, hl]
  have hl0 : l ≠ [] := fun e => hne (by rw [htx, e]; rfl)
  have hlen : txt.length = l.length := by rw [htx, List.length_map]
  obtain ⟨g, cap, cur, rfl, hbg, hg, hnc, hcm, hcs, htake⟩ := ho.2.resolve_left (fun h => hl0 (List.length_eq_zero_iff.1 (by rw [← hlen]; exact h.2)))
  have hlp : 0 < l.length := List.length_pos_iff.2 hl0
  have HO := ho
  rw [hlen] at hnc hw
  have c1 : w.cell? ⟨b, 1, none⟩ = some (.slice (some ⟨g, 0, none⟩) l.length cap) := hw.facts.2
  have hSD : (Builtin.unsafeSliceData_ #[51] 89 #[.slice (some ⟨g, 0, none⟩) l.length cap]).run Tryz.prog w.drew = .ok (.pointer (some ⟨g, 0, none⟩)) w.drew :=
    Lib.run_unsafeSliceData_row _ _ _ _ _ _ (by omega)
  have hUS : (Builtin.unsafeString_ #[89, 3] 9 #[.pointer (some ⟨g, 0, none⟩), .int .i64 l.length]).run Tryz.prog w.drew = .ok (.string s) (w.drew.freeze ⟨g, 0, none⟩ l.length) := by
    rw [← hls]
    refine Lib.run_unsafeString_row w.drew 89 3 9 5 Tryz.underlying89 cellsb_byte g cur.size (by have hg' : w.drew.heap[g]? = some (.cells cur 5) := hg; simp [World.shape?, hg']) l hl0 (by omega) (by unfold maxLen at hcm; omega) ?_
    intro j x hx
    have h1 : (txt.map fun y => Value.int .u8 y)[j]? = some (.int .u8 (x.toNat : Int)) := by rw [htx, List.map_map, List.getElem?_map, hx]; rfl
    have h2 : ((encInt .u8).all txt)[j]? = some (.int .u8 (x.toNat : Int)) := by rw [all_encInt]; exact h1
    have := Own.cells HO j _ h2
    simpa [Addr.add_mid] using this
  clear HO ho hby htake hcs htx hsb hl hls hs
  go_enter Tryz.func51, Tryz.ntmps51
  go_wp2_with fail
  go_region
  all_goals (go_wp2_with fail; go_ret; exact ⟨rfl, Lib.below_freeze (Below.drew (Below.refl (b + 1) w)) (p := ⟨g, 0, none⟩) hbg _⟩)
set_option maxRecDepth 100000 in
set_option maxHeartbeats 1600000 in
theorem lenb_any (w : World) (b : Nat) (txt : List Int) (h : BS w b txt) :
    Calls Tryz.prog 49 #[.pointer (some ⟨b, 0, none⟩)] w fun e w' => e = .returned (.int .i64 (txt.length : Int)) ∧ w = w' := by
  obtain ⟨ad, bv, hw, -, ho, hby⟩ := h
  obtain ⟨A, c, rfl⟩ : ∃ A c, bv = .slice A txt.length c := by
    rcases ho.2 with ⟨h1, h2⟩ | ⟨g, cap, cur, h1, _⟩
    · exact ⟨none, 0, by rw [h1, h2]⟩
    · exact ⟨_, _, h1⟩
  obtain ⟨c0, c1⟩ := hw.facts
  clear hw ho hby
  go_enter Tryz.func49, Tryz.ntmps49
  go_wp2_with fail
  go_ret
  exact ⟨rfl, rfl⟩
set_option maxRecDepth 100000 in
set_option maxHeartbeats 2000000 in
theorem stringb_nil (w : World) (b : Nat) (h : BS w b []) :
    Calls Tryz.prog 51 #[.pointer (some ⟨b, 0, none⟩)] w fun e w' => e = .returned (.string ⟨#[]⟩) ∧ Below (b + 1) w w' := by
  obtain ⟨ad, bv, hw, -, ho, -⟩ := h
  have hlt := hw.lt
  rcases ho.2 with ⟨h1, -⟩ | ⟨g, cap, cur, h1, hbg, hg, -, -, -, -⟩
  · subst h1
    have c1 : w.cell? ⟨b, 1, none⟩ = some (.slice none 0 0) := hw.facts.2
    have hSD : (Builtin.unsafeSliceData_ #[51] 89 #[.slice none 0 0]).run Tryz.prog w.drew = .ok (.pointer none) w.drew := Lib.run_unsafeSliceData_nil _ _ _ _ _
    have hUS : (Builtin.unsafeString_ #[89, 3] 9 #[.pointer none, .int .i64 0]).run Tryz.prog w.drew = .ok (.string ⟨#[]⟩) w.drew := Lib.run_unsafeString_none _ _ _ _ _
    clear hw ho hlt
    go_enter Tryz.func51, Tryz.ntmps51
    go_wp2_with fail
    go_region
    all_goals (go_wp2_with fail; go_ret; exact ⟨rfl, Below.drew (Below.refl (b + 1) w)⟩)
  · have h1 : bv = .slice (some ⟨g, 0, none⟩) 0 cap := h1
    subst h1
    have c1 : w.cell? ⟨b, 1, none⟩ = some (.slice (some ⟨g, 0, none⟩) 0 cap) := hw.facts.2
    by_cases hc : cap = 0
    · subst hc
      have hSD : (Builtin.unsafeSliceData_ #[51] 89 #[.slice (some ⟨g, 0, none⟩) 0 0]).run Tryz.prog w.drew = .ok (.pointer (some ⟨w.heap.size, 0, none⟩)) (w.drew.alloc (.view ⟨g, 0, none⟩ 5)) :=
        Lib.run_unsafeSliceData_zero _ _ _ _ Tryz.underlying89 _ _ (5, cur.size) (by have hg' : w.drew.heap[g]? = some (.cells cur 5) := hg; simp [World.shape?, hg'])
      have hb1 : Below (b + 1) w (w.drew.alloc (.view ⟨g, 0, none⟩ 5)) := (Below.drew (Below.refl (b + 1) w)).alloc (by show b + 1 ≤ w.heap.size; omega) _
      obtain ⟨w1, hw1⟩ : ∃ w1, w.drew.alloc (.view ⟨g, 0, none⟩ 5) = w1 := ⟨_, rfl⟩
      rw [hw1] at hSD hb1
      have c2 : w1.cell? ⟨b, 1, none⟩ = some (.slice (some ⟨g, 0, none⟩) 0 0) := (hb1.cell (show (⟨b, 1, none⟩ : Addr).block < b + 1 from Nat.lt_succ_self b)).trans c1
      have hUS : (Builtin.unsafeString_ #[89, 3] 9 #[.pointer (some ⟨w.heap.size, 0, none⟩), .int .i64 0]).run Tryz.prog w1 = .ok (.string ⟨#[]⟩) w1 := Lib.run_unsafeString_none _ _ _ _ _
      have HB1 := Lib.hid hb1
      clear hw ho hlt hb1 hw1 hg
      go_enter Tryz.func51, Tryz.ntmps51
      go_wp2_with fail
      go_region
      all_goals (go_wp2_with fail; go_ret; exact ⟨rfl, HB1.out⟩)
    · have hSD : (Builtin.unsafeSliceData_ #[51] 89 #[.slice (some ⟨g, 0, none⟩) 0 cap]).run Tryz.prog w.drew = .ok (.pointer (some ⟨g, 0, none⟩)) w.drew := Lib.run_unsafeSliceData_row _ _ _ _ _ _ hc
      have hUS : (Builtin.unsafeString_ #[89, 3] 9 #[.pointer (some ⟨g, 0, none⟩), .int .i64 0]).run Tryz.prog w.drew = .ok (.string ⟨#[]⟩) w.drew := Lib.run_unsafeString_none _ _ _ _ _
      clear hw ho hlt hg
      go_enter Tryz.func51, Tryz.ntmps51
      go_wp2_with fail
      go_region
      all_goals (go_wp2_with fail; go_ret; exact ⟨rfl, Below.drew (Below.refl (b + 1) w)⟩)
theorem stringb_all (w : World) (b : Nat) (txt : List Int) (h : BS w b txt) :
    Calls Tryz.prog 51 #[.pointer (some ⟨b, 0, none⟩)] w fun e w' => e = .returned (.string (strOfNums txt)) ∧ Below (b + 1) w w' := by
  by_cases hne : txt = []
  · subst hne; exact stringb_nil w b h
  · exact stringb_any w b txt h hne
theorem Fb.belowB {w w' : World} {b B : Nat} (h : Fb w w' b) (hB : B ≤ b) (hs : B ≤ w.heap.size) : Below B w w' :=
  ⟨h.os, h.tape, h.output, by have := h.size; omega, fun k hk => h.block k (by omega) (by omega) (.inl (by omega))⟩
theorem BS.new (w : World) : BS (w.alloc (.cells #[.pointer none, .slice none 0 0] 74)) w.heap.size [] :=
  ⟨_, _, BdAt.new w, .inl rfl, Own.nil _ _ _ _, fun x hx => by cases hx⟩
end Go.Proofs.YtolhmemiknpeaaaGreatDoor
