/-
  Texts of layers, put together.
-/
import Derived.Test.YtkdamdmnchcceaaGreatDoorMS5
namespace Go.Proofs.YtkdamdmnchcceaaGreatDoor
open Go.RowKit

theorem ix34 : ∀ l : List UInt8, (Lib.index l [34] = -1 ∧ ∀ x ∈ l, x ≠ 34) ∨ ∃ i : Nat, Lib.index l [34] = i ∧ i < l.length ∧ (∀ x ∈ l.take i, x ≠ 34) ∧ l.drop i = 34 :: l.drop (i + 1)
  | [] => .inl ⟨rfl, fun x hx => by cases hx⟩
  | b :: l => by
    by_cases hb : b = 34
    · subst hb; exact .inr ⟨0, rfl, by simp, fun x hx => by simp at hx, rfl⟩
    · have hp : List.isPrefixOf [34] (b :: l) = false := by
        show ((34 : UInt8) == b && List.isPrefixOf [] l) = false
        rw [beq_eq_false_iff_ne.2 (fun e => hb e.symm)]; rfl
      have e : Lib.index (b :: l) [34] = if Lib.index l [34] == -1 then -1 else Lib.index l [34] + 1 := by
        rw [Lib.index, if_neg (by rw [hp]; decide)]
      rcases ix34 l with ⟨h1, h2⟩ | ⟨i, h1, h2, h3, h4⟩
      · refine .inl ⟨by rw [e, h1]; rfl, fun x hx => ?_⟩
        rcases List.mem_cons.1 hx with rfl | hx
        · exact hb
        · exact h2 x hx
      · refine .inr ⟨i + 1, ?_, by simp; omega, fun x hx => ?_, by simpa using h4⟩
        · rw [e, h1, if_neg (by intro h; have := beq_iff_eq.1 h; omega)]; rfl
        · rw [List.take_succ_cons] at hx
          rcases List.mem_cons.1 hx with rfl | hx
          · exact hb
          · exact h3 x hx
def dblU : List UInt8 → List UInt8
  | [] => []
  | x :: l => (if x = 34 then [34, 34] else [x]) ++ dblU l
theorem dblU_none : ∀ l : List UInt8, (∀ x ∈ l, x ≠ 34) → dblU l = l
  | [], _ => rfl
  | x :: l, h => by
    show (if x = 34 then [34, 34] else [x]) ++ dblU l = x :: l
    rw [if_neg (h x (List.mem_cons_self ..)), dblU_none l (fun y hy => h y (List.mem_cons_of_mem _ hy))]; rfl
theorem dblU_app : ∀ (p r : List UInt8), (∀ x ∈ p, x ≠ 34) → dblU (p ++ 34 :: r) = p ++ [34, 34] ++ dblU r
  | [], r, _ => rfl
  | x :: p, r, h => by
    show (if x = 34 then [34, 34] else [x]) ++ dblU (p ++ 34 :: r) = _
    rw [if_neg (h x (List.mem_cons_self ..)), dblU_app p r (fun y hy => h y (List.mem_cons_of_mem _ hy))]; rfl
theorem rep34 : ∀ (n : Nat) (l : List UInt8), l.length ≤ n → Lib.replaceK [34] [34, 34] (Lib.count l [34]) l = dblU l ∧ Lib.count l [34] ≤ l.length
  | n, l, hn => by
    rcases ix34 l with ⟨h1, h2⟩ | ⟨i, h1, h2, h3, h4⟩
    · rw [Lib.count_miss h1, dblU_none l h2]; exact ⟨rfl, Nat.zero_le _⟩
    · have hc := Lib.count_hit (s := l) (sub := [34]) (by decide) h1
      have hd : (l.drop (i + 1)).length = l.length - (i + 1) := List.length_drop
      match n with
      | 0 => omega
      | n + 1 =>
        obtain ⟨e1, e2⟩ := rep34 n (l.drop (i + 1)) (by omega)
        have hc2 : Lib.count l [34] = Lib.count (l.drop (i + 1)) [34] + 1 := by rw [hc]; show 1 + Lib.count (l.drop (i + 1)) [34] = _; omega
        refine ⟨?_, by omega⟩
        rw [hc2, Lib.replaceK_hit _ _ _ _ i h1]
        show l.take i ++ [34, 34] ++ Lib.replaceK [34] [34, 34] (Lib.count (l.drop (i + 1)) [34]) (l.drop (i + 1)) = _
        rw [e1, ← dblU_app _ _ h3, ← h4, List.take_append_drop]
theorem all34 (l : List UInt8) : Lib.replaceAll l [34] [34, 34] = dblU l := by
  unfold Lib.replaceAll Lib.replace Lib.replaceNum
  rw [if_neg (by decide), if_pos (.inl (by decide))]
  exact (rep34 l.length l (Nat.le_refl _)).1
theorem dblU_sb : ∀ l : List UInt8, (dblU l).map (fun b => (b.toNat : Int)) = dblL (l.map fun b => (b.toNat : Int))
  | [] => rfl
  | x :: l => by
    show ((if x = 34 then [34, 34] else [x]) ++ dblU l).map _ = (if (x.toNat : Int) = 34 then [34, 34] else [(x.toNat : Int)]) ++ dblL (l.map _)
    rw [List.map_append, dblU_sb l]
    by_cases h : x = 34
    · subst h; rfl
    · rw [if_neg h, if_neg (fun e => h (UInt8.toNat_inj.1 (by have : (34 : UInt8).toNat = 34 := rfl; omega)))]; rfl
def MaxV (w : World) : Prop := ∃ m, w.cell? ⟨(4 : Nat), 0, none⟩ = some (.int .i64 m)
theorem MaxV.below {w w' : World} (h : MaxV w) (hb : Below w.heap.size w w') : MaxV w' := by
  obtain ⟨m, hm⟩ := h
  exact ⟨m, (hb.cell (p := ⟨(4 : Nat), 0, none⟩) (World.block_lt_of_cell? w _ hm)).trans hm⟩
theorem MaxV.wrote {w w' : World} {b : Nat} (h : MaxV w) (hf : Fb w w' b) (hg : 4 < b) : MaxV w' := by
  obtain ⟨m, hm⟩ := h
  exact ⟨m, (World.cell?_of_block (a := ⟨(4 : Nat), 0, none⟩) (hf.block _ (World.block_lt_of_cell? w _ hm) (Nat.ne_of_lt hg) (.inl hg))).trans hm⟩
theorem replace_any (s : ByteArray) (hs : s.size ≤ 1000000) (w : World) (hm : MaxV w) : Calls Tryz.prog 88 #[.string s, .string ⟨#[34]⟩, .string ⟨#[34, 34]⟩] w fun e w' => e = .returned (.string (strOfNums (dblL (sb s)))) ∧ Below w.heap.size w w' := by
  obtain ⟨m, hm⟩ := hm
  have hc : Lib.countB s ⟨#[34]⟩ ≤ s.size := (rep34 _ s.data.toList (Nat.le_refl _)).2
  have h := Tryz.strings_ReplaceAll s ⟨#[34]⟩ ⟨#[34, 34]⟩ m w (by omega) hm (by decide) (by have : (⟨#[34, 34]⟩ : ByteArray).size = 2 := rfl; rw [this]; omega)
  rw [show (⟨(Lib.replaceAll s.data.toList (⟨#[34]⟩ : ByteArray).data.toList (⟨#[34, 34]⟩ : ByteArray).data.toList).toArray⟩ : ByteArray) = strOfNums (dblL (sb s)) from by
    rw [show (⟨#[34]⟩ : ByteArray).data.toList = [34] from rfl, show (⟨#[34, 34]⟩ : ByteArray).data.toList = [34, 34] from rfl, all34, ← str_sb ⟨(dblU s.data.toList).toArray⟩]
    congr 1
    show (dblU s.data.toList).map (fun b => (b.toNat : Int)) = _
    rw [dblU_sb]; rfl] at h
  exact h
theorem Fb.below {w w' : World} {b : Nat} (h : Below w.heap.size w w') : Fb w w' b := ⟨h.os, h.tape, h.output, h.size, fun k hk _ _ => h.block k hk⟩
set_option maxRecDepth 100000 in
set_option maxHeartbeats 4000000 in
theorem quoted_node (w : World) (b : Nat) (nv : Value) (st : List Pt) (txt : List Int) (n : Nd) (A : Option Addr) (m c : Nat) (h : WQ w b nv st txt) (hk : n.kind = 2) (hz : n.text.size ≤ 1000000) (hmv : MaxV w) (hgb : 4 < b) (hl : txt.length ≤ 1000000000) :
    Calls Tryz.prog 54 #[.pointer (some ⟨b, 0, none⟩), .agg #[.int .i64 n.kind, .int .i64 n.num, .string n.text, .string n.ref.sh, .int .i64 n.ref.c, .int .i64 n.ref.r, .bool n.ref.ac, .bool n.ref.ar, .string n.to.sh, .int .i64 n.to.c, .int .i64 n.to.r, .bool n.to.ac, .bool n.to.ar, .slice A m c]] w (Wrote w b nv st txt n) := by
  have hB : Below w.heap.size w (w.alloc (.cells #[.int .i64 n.kind, .int .i64 n.num, .string n.text, .string n.ref.sh, .int .i64 n.ref.c, .int .i64 n.ref.r, .bool n.ref.ac, .bool n.ref.ar, .string n.to.sh, .int .i64 n.to.c, .int .i64 n.to.r, .bool n.to.ac, .bool n.to.ar, .slice A m c] 27)) := (Below.refl _ _).alloc (Nat.le_refl _) _
  have HN : NdAt (w.alloc (.cells #[.int .i64 n.kind, .int .i64 n.num, .string n.text, .string n.ref.sh, .int .i64 n.ref.c, .int .i64 n.ref.r, .bool n.ref.ac, .bool n.ref.ar, .string n.to.sh, .int .i64 n.to.c, .int .i64 n.to.r, .bool n.to.ac, .bool n.to.ar, .slice A m c] 27)) w.heap.size n (.slice A m c) := NdAt.new w n _
  have hs : stepN n = (34 :: (dblL (sb n.text) ++ [34]), []) := by unfold stepN; rw [if_neg (by omega), if_pos hk]
  have hd := dblL_len (sb n.text)
  rw [length_sb] at hd
  have hbw : b < w.heap.size := by obtain ⟨wv, h1, -⟩ := h; exact h1.lt
  have hby := bytes_dbl (sb n.text) (sb_bd n.text)
  have HS := Lib.hid hs
  have HB := Lib.hid hB
  obtain ⟨wv, h1, h2⟩ := h.below hB
  have HMV := Lib.hid (hmv.below hB)
  clear h hs hk hmv hB
  go_enter Tryz.func54, Tryz.ntmps54
  go_upto_region 1 with (fail)
  obtain ⟨z, hzz⟩ : ∃ z, w.heap.size = z := ⟨_, rfl⟩
  obtain ⟨w1, hw1⟩ : ∃ w1, w.alloc (.cells #[.int .i64 n.kind, .int .i64 n.num, .string n.text, .string n.ref.sh, .int .i64 n.ref.c, .int .i64 n.ref.r, .bool n.ref.ac, .bool n.ref.ar, .string n.to.sh, .int .i64 n.to.c, .int .i64 n.to.r, .bool n.to.ac, .bool n.to.ar, .slice A m c] 27) = w1 := ⟨_, rfl⟩
  rw [hw1] at HN HB HMV h1 h2 ⊢
  rw [hzz] at HN ⊢
  have hzl := HN.lt
  have hzb : z ≠ b := by omega
  have HN2 := Lib.hid HN
  have HW := Lib.hid (write_any w1 b nv wv txt ⟨#[34]⟩ h1 (by show txt.length + 1 ≤ _; omega))
  have HO := Lib.hid h2
  clear hzz hw1 h1 h2 HN
  go_upto_region 2 with (go_at_call 30; ((with_reducible refine HW.out.mono ?_); rintro e w2 ⟨⟨x, rfl⟩, h3, h4⟩; have HWS := Lib.hid h3; have HF := Lib.hid h4; clear h3 h4))
  have HN3 := Lib.hid (show NdAt w2 z n (.slice A m c) by
    unfold NdAt
    rw [HF.out.block z hzl hzb (.inr fun cur fr e => by
      have h6 : w1.heap[z]? = some (.cells (nodA n (.slice A m c)) 27) := HN2.out
      rw [h6] at e; injection e with e; injection e with _ e2; exact absurd e2 (by decide))]
    exact HN2.out)
  have HMV2 := Lib.hid (HMV.out.wrote HF.out hgb)
  have x2 := HN3.out.cells.2.2.1
  have hz2 := HN3.out.lt
  have HI := Lib.hid (fun wr (hr : Below w2.heap.size w2 wr) => replace_any n.text hz wr (HMV2.out.below hr))
  have HW2 := Lib.hid (fun wr (hr : Below w2.heap.size w2 wr) => write_any wr b nv wv (txt ++ sb ⟨#[34]⟩) (strOfNums (dblL (sb n.text))) (HWS.out.below hr) (by rw [strOfNums_size, List.length_append]; show txt.length + 1 + _ ≤ _; omega))
  have H1 := Lib.hid ((Below.refl w2.heap.size w2).drew)
  go_region_held3 (fun w' => w'.cell? ⟨z, 2, none⟩ = some (.string n.text)) (go_keep) (first
    | (go_at_call 88; ((with_reducible refine (HI.out _ H1.out).mono ?_); rintro e w3 ⟨rfl, h3⟩; have H3 := Lib.hid (H1.out.trans (h3.mono H1.out.size)); have y2 := (H3.out.cell (p := ⟨z, 2, none⟩) hz2).trans x2; clear h3))
    | (go_at_call 30; ((with_reducible refine (HW2.out _ H3.out).mono ?_); rintro e w4 ⟨⟨x, rfl⟩, h3, h4⟩; have HWS4 := Lib.hid h3; have HF4 := Lib.hid h4; have hzk := HF4.out.block z (Nat.lt_of_lt_of_le hz2 H3.out.size) hzb (.inr fun cur fr e => by
          have h5 := H3.out.block z hz2
          have h6 : w2.heap[z]? = some (.cells (nodA n (.slice A m c)) 27) := HN3.out
          rw [h5, h6] at e; injection e with e; injection e with _ e2; exact absurd e2 (by decide)); have z2 := (World.cell?_of_block (a := ⟨z, 2, none⟩) hzk).trans y2; clear h3 h4 hzk)))
  have HW3 := Lib.hid (write_any w4 b nv wv _ ⟨#[34]⟩ HWS4.out (by rw [List.length_append, List.length_append, sb_str _ hby]; show txt.length + 1 + _ + 1 ≤ _; omega))
  go_wp2_with (go_at_call 30; ((with_reducible refine HW3.out.mono ?_); rintro e w5 ⟨⟨x, rfl⟩, h3, h4⟩; have HWS5 := Lib.hid h3; have HF5 := Lib.hid h4; clear h3 h4))
  go_end0
  have HFF := Lib.hid (((HF.out).trans (Fb.below H3.out)).trans (HF4.out.trans HF5.out))
  exact Wrote.of HB.out HO.out HWS5.out HFF.out (by rw [HS.out]) (by rw [HS.out, sb_str _ hby, show sb ⟨#[34]⟩ = [34] by decide]; simp [List.append_assoc])
end Go.Proofs.YtkdamdmnchcceaaGreatDoor

namespace Go.Proofs.YtkdamdmnchcceaaGreatDoor
open Go.RowKit

theorem own_litP (w : World) (ps : List Pt) (cs : Array Value) (hcs : cs.toList = encPt.all ps) (hl : ps.length ≤ 1000000) : Own encPt 50 (w.alloc (.cells cs 50)) 0 (.slice (some ⟨w.heap.size, 0, none⟩) ps.length ps.length) ps := by
  have hs : cs.size = ps.length * 3 := by rw [← Array.length_toList, hcs, Enc.length_all]
  refine ⟨by rw [Enc.length_all], .inr ⟨w.heap.size, ps.length, cs, rfl, Nat.zero_le _, (Go.MapKept.heap_alloc w _).1, Nat.le_refl _, by unfold maxLen; omega, hs, ?_⟩⟩
  rw [hcs, List.take_of_length_le (by rw [Enc.length_all]; exact Nat.le_refl _)]
theorem WS.one {w : World} {b : Nat} {nv wv wv2 : Value} {t1 t2 : List Int} (h : WS w b nv wv t1) (h2 : WS w b nv wv2 t2) : wv2 = wv := by
  obtain ⟨ad, bv, h3, _⟩ := h
  obtain ⟨ad2, bv2, h4, _⟩ := h2
  have e : w.heap[b]? = some (.cells #[nv, wv, ad, bv] 47) := h3
  have e2 : w.heap[b]? = some (.cells #[nv, wv2, ad2, bv2] 47) := h4
  rw [e] at e2; injection e2 with e2; injection e2 with e2; simp at e2; exact e2.1.symm
theorem push_lit (w : World) (b : Nat) (nv : Value) (st ps : List Pt) (txt : List Int) (cs : Array Value) (k : Nat) (hk : ps.length = k) (hcs : cs.toList = encPt.all ps) (h : WQ w b nv st txt) (hl1 : ps.length ≤ 1000000) (hl2 : st.length ≤ 2000000000) :
    Calls Tryz.prog 15 #[.pointer (some ⟨b, 0, none⟩), .slice (some ⟨w.heap.size, 0, none⟩) k k] (w.alloc (.cells cs 50)) fun e w' => e = .returned (.tuple #[]) ∧ WQ w' b nv (st ++ ps.reverse) txt ∧ Fq w w' b := by
  subst hk
  have hb : Below w.heap.size w (w.alloc (.cells cs 50)) := (Below.refl _ _).alloc (Nat.le_refl _) _
  obtain ⟨wv, hws, ho⟩ := h
  refine (push_any (w.alloc (.cells cs 50)) b nv st ps txt w.heap.size ps.length ⟨wv, hws.below hb, ho.below hb (Nat.le_refl _)⟩ (own_litP w ps cs hcs hl1) ?_ hl1 hl2).mono ?_
  · intro wv2 h2 e
    rw [(hws.below hb).one h2] at e
    have := (Own.blockLt ho _ e).2.1
    omega
  · rintro e w' ⟨h1, h2, h3⟩
    exact ⟨h1, h2, (Fq.ofBelow hb).trans h3⟩
theorem op_lit (i m : Int) (w : World) : Calls Tryz.prog 16 #[.int .i64 i, .int .i64 m] w fun e w' => e = .returned (.agg #[.string ⟨#[]⟩, .int .i64 i, .int .i64 m]) ∧ Below w.heap.size w w' := operand_any i m w
theorem plain_lit (t : ByteArray) (w : World) : Calls Tryz.prog 32 #[.string t] w fun e w' => e = .returned (.agg #[.string t, .int .i64 0, .int .i64 0]) ∧ Below w.heap.size w w' := plain_any t w
theorem SI.fq {w w' : World} {B b : Nat} {v : Value} {xs : List Int} (h : SI w B v xs) (hf : Fq w w' b) (hB : B ≤ b) (hw : b < w.heap.size) : SI w' B v xs := by
  obtain ⟨A, cap, h1, h2, h3, h4⟩ := h
  refine ⟨A, cap, h1, h2, h3, h4.imp id ?_⟩
  rintro ⟨pb, po, e1, e2, e3⟩
  exact ⟨pb, po, e1, e2, fun j x hj => (World.cell?_of_block (a := ⟨pb, po + j, none⟩) (hf.block pb (by omega) (by omega) (.inl (by omega)))).trans (e3 j x hj)⟩
set_option maxRecDepth 100000 in
set_option maxHeartbeats 4000000 in
theorem negative_node (w : World) (b : Nat) (nv : Value) (st : List Pt) (txt : List Int) (n : Nd) (A : Option Addr) (m c : Nat) (h : WQ w b nv st txt) (hk : n.kind = 8) (k0 : Int) (hk0 : n.kids[0]? = some k0) (hsi : SI w b (.slice A m c) n.kids) (hl : txt.length ≤ 1000000000) (hls : st.length ≤ 2000000000) :
    Calls Tryz.prog 60 #[.pointer (some ⟨b, 0, none⟩), .agg #[.int .i64 n.kind, .int .i64 n.num, .string n.text, .string n.ref.sh, .int .i64 n.ref.c, .int .i64 n.ref.r, .bool n.ref.ac, .bool n.ref.ar, .string n.to.sh, .int .i64 n.to.c, .int .i64 n.to.r, .bool n.to.ac, .bool n.to.ar, .slice A m c]] w (Wrote w b nv st txt n) := by
  have hB : Below w.heap.size w (w.alloc (.cells #[.int .i64 n.kind, .int .i64 n.num, .string n.text, .string n.ref.sh, .int .i64 n.ref.c, .int .i64 n.ref.r, .bool n.ref.ac, .bool n.ref.ar, .string n.to.sh, .int .i64 n.to.c, .int .i64 n.to.r, .bool n.to.ac, .bool n.to.ar, .slice A m c] 27)) := (Below.refl _ _).alloc (Nat.le_refl _) _
  have HN : NdAt (w.alloc (.cells #[.int .i64 n.kind, .int .i64 n.num, .string n.text, .string n.ref.sh, .int .i64 n.ref.c, .int .i64 n.ref.r, .bool n.ref.ac, .bool n.ref.ar, .string n.to.sh, .int .i64 n.to.c, .int .i64 n.to.r, .bool n.to.ac, .bool n.to.ar, .slice A m c] 27)) w.heap.size n (.slice A m c) := NdAt.new w n _
  have hs : stepN n = ([45], [Pt.op k0 5]) := by
    unfold stepN; rw [if_neg (by omega), if_neg (by omega), if_neg (by omega), if_neg (by omega), if_neg (by omega), if_neg (by omega), if_neg (by omega), if_pos hk, List.getD_eq_getElem?_getD, hk0]; rfl
  have hbw : b < w.heap.size := by obtain ⟨wv, h1, -⟩ := h; exact h1.lt
  have hsi1 := hsi.below hB (Nat.le_of_lt hbw)
  obtain ⟨A', cap', hsl, hcm, -, hcell⟩ := hsi1
  injection hsl with e1 e2 e3
  have hpos : 0 < n.kids.length := (List.getElem?_eq_some_iff.1 hk0).1
  obtain ⟨pb, po, hA, hpb, hcl⟩ := hcell.resolve_left (fun e => by rw [e] at hpos; exact absurd hpos (by decide))
  have hc0 := hcl 0 k0 hk0
  rw [Nat.add_zero] at hc0
  have hA2 := e1.trans hA
  subst hA2; subst e3
  clear e1 hA
  have hm0 : (0 : Int) < (m : Int) := by omega
  have hm1 : 0 < m := by omega
  have HS := Lib.hid hs
  have HB := Lib.hid hB
  obtain ⟨wv, h1, h2⟩ := h.below hB
  clear h hs hk hB hsi e2 hcl hpos hcell hk0
  go_enter Tryz.func60, Tryz.ntmps60
  go_upto_region 1 with (fail)
  obtain ⟨z, hzz⟩ : ∃ z, w.heap.size = z := ⟨_, rfl⟩
  obtain ⟨w1, hw1⟩ : ∃ w1, w.alloc (.cells #[.int .i64 n.kind, .int .i64 n.num, .string n.text, .string n.ref.sh, .int .i64 n.ref.c, .int .i64 n.ref.r, .bool n.ref.ac, .bool n.ref.ar, .string n.to.sh, .int .i64 n.to.c, .int .i64 n.to.r, .bool n.to.ac, .bool n.to.ar, .slice (some ⟨pb, po, none⟩) m c] 27) = w1 := ⟨_, rfl⟩
  rw [hw1] at HN HB h1 h2 hc0 ⊢
  rw [hzz] at HN ⊢
  have hzl := HN.lt
  have hzb : z ≠ b := by omega
  have HN2 := Lib.hid HN
  have HW := Lib.hid (write_any w1 b nv wv txt ⟨#[45]⟩ h1 (by show txt.length + 1 ≤ _; omega))
  have HO := Lib.hid h2
  clear hzz hw1 h1 h2 HN
  go_upto_region 2 with (go_at_call 30; ((with_reducible refine HW.out.mono ?_); rintro e w2 ⟨⟨x, rfl⟩, h3, h4⟩; have HWS := Lib.hid h3; have HF := Lib.hid h4; clear h3 h4))
  have hN3 : NdAt w2 z n (.slice (some ⟨pb, po, none⟩) m c) := by
    unfold NdAt
    rw [HF.out.block z hzl hzb (.inr fun cur fr e => by
      have h6 : w1.heap[z]? = some (.cells (nodA n (.slice (some ⟨pb, po, none⟩) m c)) 27) := HN2.out
      rw [h6] at e; injection e with e; injection e with _ e2; exact absurd e2 (by decide))]
    exact HN2.out
  obtain ⟨-, -, -, -, -, -, -, -, -, -, -, -, -, x13⟩ := hN3.cells
  have hbw1 : b < w1.heap.size := Nat.lt_of_lt_of_le hbw HB.out.size
  have hd0 : w2.cell? ⟨pb, po, none⟩ = some (.int .i64 k0) := (World.cell?_of_block (a := ⟨pb, po, none⟩) (HF.out.block pb (by omega) (by omega) (.inl hpb))).trans hc0
  have HWQ2 := Lib.hid (show WQ w2 b nv st (txt ++ [45]) from by
    have h := WQ.wrote HO.out HWS.out HF.out
    rwa [show sb ⟨#[45]⟩ = [45] by decide] at h)
  have HPU := Lib.hid (fun (w3 : World) (h3 : Below w2.heap.size w2 w3) => push_lit w3 b nv st [Pt.op k0 5] (txt ++ [45]) #[.string ⟨#[]⟩, .int .i64 k0, .int .i64 5] 1 rfl rfl (HWQ2.out.below h3) (by show 1 ≤ 1000000; decide) hls)
  clear hN3 hc0
  go_wp2_with (first
    | (go_at_call 16; ((with_reducible refine (op_lit _ _ _).mono ?_); rintro e w3 ⟨rfl, h3⟩; have HB3 := Lib.hid h3; clear h3))
    | (go_at_call 15; ((with_reducible refine (HPU.out _ HB3.out).mono ?_); rintro e w5 ⟨rfl, h3, h4⟩; have HQ5 := Lib.hid h3; have HF5 := Lib.hid h4; clear h3 h4)))
  go_end0
  refine ⟨rfl, ?_, (Fq.ofBelow HB.out).trans ((Fq.ofB HF.out).trans ((Fq.ofBelow HB3.out).trans HF5.out))⟩
  rw [HS.out]; exact HQ5.out
end Go.Proofs.YtkdamdmnchcceaaGreatDoor
