/-
  Texts of layers, put together.
-/
import Derived.Test.YtpnnchjmaggmpaaGreatDoorMC7
import Derived.Laws.ResultCell
import Derived.Deep.DeepCutAuto
import Derived.Deep.CutBlock
import Derived.OpenShut
import Derived.ProofKit
import Derived.ChangeArms
import Derived.Deep.Slices
import Derived.ChangeSlices
import Derived.Lib.Bytealg
import Derived.Lib.Small
import Derived.Deep.DeepHandedRow
import Derived.Lib.LaidTab
import Derived.Test.YtpnnchjmaggmpaaGreatDoorCards
import Derived.Test.YtpnnchjmaggmpaaGreatDoorTie
import Derived.Shelf.Vars
import Derived.Deep.Strs
import Derived.Stop.LaidErr
import Derived.Lay
namespace Go.Proofs.YtpnnchjmaggmpaaGreatDoor
open Go.RowKit

def Nay (w : World) (e : Ending) (w' : World) : Prop := e = .returned (.tuple #[.agg #[.string ⟨#[]⟩, .int .i64 0, .int .i64 0, .bool false, .bool false], .bool false]) ∧ Below w.heap.size w w'
theorem ref_size : (Tryz.prog.info? 45).map (·.size) = some 5 := by kernel_rfl
theorem RefAt.load {w : World} {b : Nat} {s : ByteArray} {c r : Int} {ac ar : Bool} (h : RefAt w b s c r ac ar) : (loadVar 45 ⟨b, 0, none⟩).run Tryz.prog w = .ok (.agg #[.string s, .int .i64 c, .int .i64 r, .bool ac, .bool ar]) w :=
  run_loadVar_row w b 45 45 _ _ _ h Tryz.underlying45 rfl ref_size
end Go.Proofs.YtpnnchjmaggmpaaGreatDoor

namespace Go.Proofs.YtpnnchjmaggmpaaGreatDoor
open Go.RowKit

end Go.Proofs.YtpnnchjmaggmpaaGreatDoor

namespace Go.Proofs.YtpnnchjmaggmpaaGreatDoor
open Go.RowKit

end Go.Proofs.YtpnnchjmaggmpaaGreatDoor

namespace Go.Proofs.YtpnnchjmaggmpaaGreatDoor
open Go.RowKit

end Go.Proofs.YtpnnchjmaggmpaaGreatDoor

namespace Go.Proofs.YtpnnchjmaggmpaaGreatDoor
open Go.RowKit

end Go.Proofs.YtpnnchjmaggmpaaGreatDoor

namespace Go.Proofs.YtpnnchjmaggmpaaGreatDoor
open Go.RowKit

end Go.Proofs.YtpnnchjmaggmpaaGreatDoor

namespace Go.Proofs.YtpnnchjmaggmpaaGreatDoor
open Go.RowKit

end Go.Proofs.YtpnnchjmaggmpaaGreatDoor

namespace Go.Proofs.YtpnnchjmaggmpaaGreatDoor
open Go.RowKit

end Go.Proofs.YtpnnchjmaggmpaaGreatDoor

namespace Go.Proofs.YtpnnchjmaggmpaaGreatDoor
open Go.RowKit

end Go.Proofs.YtpnnchjmaggmpaaGreatDoor

namespace Go.Proofs.YtpnnchjmaggmpaaGreatDoor
open Go.ChangeShapes Go.WideShapes Go.ChangeAt Go.RowKit

end Go.Proofs.YtpnnchjmaggmpaaGreatDoor

namespace Go.Proofs.YtpnnchjmaggmpaaGreatDoor
open Go.ChangeShapes Go.WideShapes Go.ChangeAt Go.RowKit

structure Nb (n : Nd) : Prop where
  kind : -9223372036854775808 ≤ n.kind ∧ n.kind ≤ 9223372036854775807
  num : -9223372036854775808 ≤ n.num ∧ n.num ≤ 9223372036854775807
  text : n.text.size ≤ maxLen
  refs : n.ref.sh.size ≤ maxLen
  refc : -9223372036854775808 ≤ n.ref.c ∧ n.ref.c ≤ 9223372036854775807
  refr : -9223372036854775808 ≤ n.ref.r ∧ n.ref.r ≤ 9223372036854775807
  tos : n.to.sh.size ≤ maxLen
  toc : -9223372036854775808 ≤ n.to.c ∧ n.to.c ≤ 9223372036854775807
  tor : -9223372036854775808 ≤ n.to.r ∧ n.to.r ≤ 9223372036854775807
end Go.Proofs.YtpnnchjmaggmpaaGreatDoor

namespace Go.Proofs.YtpnnchjmaggmpaaGreatDoor
open Go.RowKit

theorem Own.si {w : World} {lo : Nat} {v : Value} {xs : List Int} (h : Own (encInt .i64) 3 w lo v xs) : SI w w.heap.size v xs := by
  rcases h.shape with ⟨rfl, rfl⟩ | ⟨g, cap, rfl, h1, h2, h3, h4⟩
  · exact ⟨none, 0, rfl, Nat.le_refl _, by unfold maxLen; omega, .inl rfl⟩
  · refine ⟨_, cap, rfl, h3, h4, .inr ⟨g, 0, rfl, h2, fun j x hj => ?_⟩⟩
    rw [Nat.zero_add]
    have := (encInt .i64).at xs j 0 x hj (by omega)
    rw [Nat.mul_one, Nat.add_zero] at this
    exact Own.cells h j _ (by rw [this]; rfl)
theorem NodV.sn {w : World} {lo g n cap : Nat} {vs : List Nv} (h : NodV w lo (.slice (some ⟨g, 0, none⟩) n cap) vs) (hn : vs.length = n) : SN w w.heap.size (.slice (some ⟨g, 0, none⟩) n cap) (vs.map fun v => (v.n, v.kv)) := by
  refine ⟨⟨_, cap, by rw [List.length_map, hn], .inr ⟨g, 0, rfl, (Own.blockLt h.1 g rfl).2.1, fun i nd k hi j hj => ?_⟩⟩, ?_⟩
  · rw [List.getElem?_map] at hi
    obtain ⟨v, hv, e⟩ := Option.map_eq_some_iff.1 hi
    injection e with e1 e2; subst e1; subst e2
    rw [Nat.zero_add]; exact h.cell i v hv j hj
  · intro p hp
    obtain ⟨v, hv, rfl⟩ := List.mem_map.1 hp
    exact (h.2 v hv).si
theorem sn_fst (vs : List Nv) : (vs.map fun v => (v.n, v.kv)).map (·.1) = vs.map Nv.n := by rw [List.map_map]; rfl
end Go.Proofs.YtpnnchjmaggmpaaGreatDoor

namespace Go.Proofs.YtpnnchjmaggmpaaGreatDoor
open Go.RowKit

end Go.Proofs.YtpnnchjmaggmpaaGreatDoor

namespace Go.Proofs.YtpnnchjmaggmpaaGreatDoor
open Go.RowKit

def SameSays (l1 l2 : List Nd) (e : Ending) : Prop := ∃ b : Bool, e = .returned (.bool b) ∧ (b = true ↔ l1 = l2)
theorem SameSays.yes {l1 l2 : List Nd} (h : l1 = l2) : SameSays l1 l2 (.returned (.bool true)) := ⟨true, rfl, ⟨fun _ => h, fun _ => rfl⟩⟩
theorem SameSays.no {l1 l2 : List Nd} (h : ¬ l1 = l2) : SameSays l1 l2 (.returned (.bool false)) := ⟨false, rfl, ⟨fun e => absurd e Bool.false_ne_true, fun e => absurd e h⟩⟩
theorem SN.lenle {w : World} {B : Nat} {v : Value} {vs : List (Nd × Value)} (h : SN w B v vs) : ∃ A cap, v = .slice A vs.length cap := by
  obtain ⟨⟨A, cap, h, _⟩, _⟩ := h; exact ⟨A, cap, h⟩
end Go.Proofs.YtpnnchjmaggmpaaGreatDoor

namespace Go.Proofs.YtpnnchjmaggmpaaGreatDoor
open Go.RowKit

structure ShC (w : World) (v : Value) (l : List (Nd × Value)) (ns : List Nd) : Prop where
  sn : SN w w.heap.size v l
  map : l.map (·.1) = ns
  tree : treeB ns = true
  few : l.length ≤ 1000
  sizes : ∀ q ∈ l, q.1.text.size ≤ 1000000 ∧ q.1.ref.sh.size ≤ 1000000 ∧ q.1.to.sh.size ≤ 1000000
  nums : ∀ q ∈ l, q.1.num ≤ 9223372036854775807
theorem ShC.node {w : World} {v : Value} {l : List (Nd × Value)} {ns : List Nd} (h : ShC w v l ns) {i : Nat} {n : Nd} {k : Value} (hi : l[i]? = some (n, k)) : nodeAt ns (i : Int) = n ∧ i < ns.length := by
  rw [← h.map]
  have hl := (List.getElem?_eq_some_iff.1 hi).1
  refine ⟨?_, by rw [List.length_map]; exact hl⟩
  unfold nodeAt
  rw [show ((i : Int)).toNat = i by omega, List.getD_eq_getElem?_getD, List.getElem?_map, hi]; rfl
theorem ShC.leaf {w : World} {v : Value} {l : List (Nd × Value)} {ns : List Nd} (h : ShC w v l ns) {i : Nat} {n : Nd} {k : Value} (hi : l[i]? = some (n, k)) : nodeB n = true := by
  obtain ⟨h1, h2⟩ := h.node hi
  have := (tree_at h.tree (i := (i : Int)) (by omega) (by omega)).1
  rw [h1] at this; exact this
def ShR (ns : List Nd) (i : Nat) (w1 : World) (e : Ending) (w' : World) : Prop := e = .returned (.string (strOfNums (shN ns (i : Int)))) ∧ Below w1.heap.size w1 w'
end Go.Proofs.YtpnnchjmaggmpaaGreatDoor

namespace Go.Proofs.YtpnnchjmaggmpaaGreatDoor
open Go.RowKit

theorem ShC.kid {w : World} {v : Value} {l : List (Nd × Value)} {ns : List Nd} (h : ShC w v l ns) {i : Nat} {n : Nd} {k : Value} (hi : l[i]? = some (n, k)) {x : Int} (hx : x ∈ n.kids) : ∃ j : Nat, x = (j : Int) ∧ j < i ∧ j < l.length ∧ ∃ q kq, l[j]? = some (q, kq) ∧ nodeAt ns (j : Int) = q := by
  obtain ⟨h1, h2⟩ := h.node hi
  have hk := (tree_at h.tree (i := (i : Int)) (by omega) (by omega)).2
  rw [h1] at hk
  obtain ⟨h3, h4⟩ := hk x hx
  have hl := (List.getElem?_eq_some_iff.1 hi).1
  have hjl : x.toNat < l.length := by omega
  have he : l[x.toNat]? = some (l[x.toNat].1, l[x.toNat].2) := List.getElem?_eq_getElem hjl
  exact ⟨x.toNat, by omega, by omega, hjl, _, _, he, (h.node he).1⟩
def ShIH (w : World) (v : Value) (ns : List Nd) (i : Nat) : Prop := ∀ j : Nat, j < i → (shN ns (j : Int)).length ≤ 1000000000 → ∀ w1, Below w.heap.size w w1 → Calls Tryz.prog 28 #[v, .int .i64 (j : Int)] w1 (ShR ns j w1)
end Go.Proofs.YtpnnchjmaggmpaaGreatDoor

namespace Go.Proofs.YtpnnchjmaggmpaaGreatDoor
open Go.RowKit

end Go.Proofs.YtpnnchjmaggmpaaGreatDoor

namespace Go.Proofs.YtpnnchjmaggmpaaGreatDoor
open Go.RowKit

end Go.Proofs.YtpnnchjmaggmpaaGreatDoor

namespace Go.Proofs.YtpnnchjmaggmpaaGreatDoor
open Go.RowKit

def callX (n : Nd) (ns : List Nd) (j : Nat) : List Int := sb n.text ++ 40 :: joinA ((n.kids.map (shN ns)).take j)
end Go.Proofs.YtpnnchjmaggmpaaGreatDoor

namespace Go.Proofs.YtpnnchjmaggmpaaGreatDoor
open Go.RowKit

end Go.Proofs.YtpnnchjmaggmpaaGreatDoor

namespace Go.Proofs.YtpnnchjmaggmpaaGreatDoor
open Go.RowKit

theorem SN.fq {w w' : World} {b : Nat} {v : Value} {vs : List (Nd × Value)} (h : SN w b v vs) (hf : Fq w w' b) (hw : b < w.heap.size) : SN w' b v vs := by
  obtain ⟨⟨A, cap, h1, h2⟩, h3⟩ := h
  refine ⟨⟨A, cap, h1, h2.imp id ?_⟩, fun p hp => (h3 p hp).fq hf (Nat.le_refl _) hw⟩
  rintro ⟨pb, po, e1, e2, e3⟩
  exact ⟨pb, po, e1, e2, fun i n k hi j hj => (World.cell?_of_block (a := ⟨pb, po + i * 14 + j, none⟩) (hf.block pb (by omega) (by omega) (.inl e2))).trans (e3 i n k hi j hj)⟩
theorem SN.lift {w w' : World} {B C : Nat} {v : Value} {vs : List (Nd × Value)} (h : SN w B v vs) (hb : Below B w w') (hC : B ≤ C) : SN w' C v vs := by
  obtain ⟨⟨A, cap, h1, h2⟩, h3⟩ := h
  refine ⟨⟨A, cap, h1, h2.imp id ?_⟩, fun p hp => ?_⟩
  · rintro ⟨pb, po, e1, e2, e3⟩
    exact ⟨pb, po, e1, by omega, fun i n k hi j hj => (hb.cell (p := ⟨pb, po + i * 14 + j, none⟩) e2).trans (e3 i n k hi j hj)⟩
  · obtain ⟨A2, c2, g1, g2, g3, g4⟩ := h3 p hp
    refine ⟨A2, c2, g1, g2, g3, g4.imp id ?_⟩
    rintro ⟨pb, po, e1, e2, e3⟩
    exact ⟨pb, po, e1, by omega, fun j x hj => (hb.cell (p := ⟨pb, po + j, none⟩) e2).trans (e3 j x hj)⟩
def slen (o : Option Value) : Nat := match o with | some (.slice _ n _) => n | _ => 0
theorem slen_own {α : Type} {size : Nat} {E : Enc α size} {e : TypeId} {w : World} {base : Nat} {v : Value} {xs : List α} (h : Own E e w base v xs) : slen (some v) = xs.length := by
  rcases h.shape with ⟨rfl, rfl⟩ | ⟨g, cap, rfl, -⟩
  · rfl
  · rfl
def wm (b L : Nat) (w : World) : Nat := 2 * (L - slen (w.cell? ⟨b, 3, none⟩)) - slen (w.cell? ⟨b, 1, none⟩)
theorem WQ.wm {w : World} {b : Nat} {nv : Value} {st : List Pt} {txt : List Int} (h : WQ w b nv st txt) (L : Nat) : wm b L w = 2 * (L - txt.length) - st.length := by
  obtain ⟨wv, ⟨ad, bv, h1, _, h3, _⟩, h4⟩ := h
  obtain ⟨-, c1, -, c3⟩ := h1.facts
  unfold Go.Proofs.YtpnnchjmaggmpaaGreatDoor.wm
  rw [c1, c3, slen_own h4, slen_own h3]
theorem WQ.wait {w : World} {b : Nat} {nv : Value} {st : List Pt} {txt : List Int} (h : WQ w b nv st txt) : ∃ A c, w.cell? ⟨b, 1, none⟩ = some (.slice A st.length c) := by
  obtain ⟨wv, ⟨ad, bv, h1, -⟩, h4⟩ := h
  have c1 := h1.facts.2.1
  rcases h4.shape with ⟨rfl, rfl⟩ | ⟨g, cap, rfl, -⟩
  · exact ⟨_, _, c1⟩
  · exact ⟨_, _, c1⟩
set_option maxRecDepth 100000 in
set_option maxHeartbeats 4000000 in
theorem print_not (w : World) (v : Value) (vs : List (Nd × Value)) (hv : Vars w) (h : SN w w.heap.size v vs) (hz : SZ vs) (ht : ¬ treeB (vs.map (·.1)) = true) :
    Calls Tryz.prog 10 #[v] w fun e w' => e = .returned (.string (strOfNums (printL (vs.map (·.1))))) ∧ Below w.heap.size w w' := by
  have hT := ptree_any w v vs hv h hz
  rw [show treeB (vs.map (·.1)) = false from by cases hq : treeB (vs.map (·.1)) with | false => rfl | true => exact absurd hq ht] at hT
  have HT := Lib.hid hT
  have HP := Lib.hid (show printL (vs.map (·.1)) = [] from by unfold printL; rw [if_neg ht])
  clear hT hv h hz ht
  go_enter Tryz.func10, Tryz.ntmps10
  go_wp2_with (go_at_call 21; ((with_reducible refine HT.out.mono ?_); rintro e w1 ⟨rfl, h1⟩; have H1 := Lib.hid h1; clear h1))
  go_ret
  exact ⟨by rw [HP.out] <;> rfl, H1.out⟩
set_option maxRecDepth 100000 in
set_option maxHeartbeats 8000000 in
theorem print_tree (w : World) (v : Value) (vs : List (Nd × Value)) (hv : Vars w) (htab : Tab w) (hmax : MaxV w) (hsh : ShV w) (h : SN w w.heap.size v vs) (hz : SZ vs) (hnum : ∀ q ∈ vs, q.1.num ≤ 9223372036854775807) (hlen : (printL (vs.map (·.1))).length ≤ 1000000000) (ht : treeB (vs.map (·.1)) = true) :
    Calls Tryz.prog 10 #[v] w fun e w' => e = .returned (.string (strOfNums (printL (vs.map (·.1))))) ∧ Below w.heap.size w w' := by
  have hT := ptree_any w v vs hv h hz
  rw [ht] at hT
  have HT := Lib.hid hT
  obtain ⟨l, hl⟩ : ∃ l, vs.map (·.1) = l := ⟨_, rfl⟩
  have hpos : 0 < vs.length := by
    rcases Nat.eq_zero_or_pos vs.length with e | e
    · rw [List.length_eq_zero_iff.1 e] at ht; exact absurd ht (by decide)
    · exact e
  have hlv : l.length = vs.length := by rw [← hl, List.length_map]
  obtain ⟨L, hL⟩ : ∃ L, (printL l).length = L := ⟨_, rfl⟩
  rw [hl, hL] at hlen
  have hpl : printL l = shN l ((l.length : Int) - 1) := by unfold printL shN; rw [if_pos (hl ▸ ht)]
  have hp0 : ptL l (Pt.op ((l.length : Int) - 1) 1) = printL l := by rw [ptL_op, inL_any, hpl]
  have hok0 : PtOk l (Pt.op ((l.length : Int) - 1) 1) := PtOk.op (by omega) (by omega) 1
  rw [hlv] at hp0 hok0
  obtain ⟨N, hN⟩ : ∃ N, vs.length = N := ⟨_, rfl⟩
  have hN9 : N ≤ 1000 := by rw [← hN]; exact hz.1
  rw [hN] at hp0 hok0 hpos
  have hw1 : wrap64 ((N : Int) - 1) = (N : Int) - 1 := by unfold wrap64; omega
  obtain ⟨A, cap, hva⟩ := h.lenle
  rw [hN] at hva
  subst hva
  have HSN := Lib.hid h; have HZ := Lib.hid hz; have HNUM := Lib.hid hnum; have HTR := Lib.hid ht
  have HL := Lib.hid hl; have HLL := Lib.hid hL; have HP0 := Lib.hid hp0; have HOK0 := Lib.hid hok0
  have HG0 := Lib.hid (show Tab w ∧ MaxV w ∧ ShV w from ⟨htab, hmax, hsh⟩)
  rw [hl]
  clear hT hv htab hmax hsh h hz hnum ht hl hL hpl hp0 hok0 hlv hN
  go_enter Tryz.func10, Tryz.ntmps10
  go_upto_region 3 with (go_at_call 21; ((with_reducible refine HT.out.mono ?_); rintro e w1 ⟨rfl, h1⟩; have H1 := Lib.hid h1; clear h1))
  go_upto_region 4 with (fail)
  have hwr : WrAt (w1.alloc (.cells #[.slice A N cap, .slice none 0 0, .pointer none, .slice none 0 0] 56)) w1.heap.size (.slice A N cap) (.slice none 0 0) (.pointer none) (.slice none 0 0) := (Go.MapKept.heap_alloc w1 _).1
  have hB2 : Below w1.heap.size w1 (w1.alloc (.cells #[.slice A N cap, .slice none 0 0, .pointer none, .slice none 0 0] 56)) := (Below.refl _ _).alloc (Nat.le_refl _) _
  obtain ⟨b, hb⟩ : ∃ b, w1.heap.size = b := ⟨_, rfl⟩
  obtain ⟨w2, hw2⟩ : ∃ w2, w1.alloc (.cells #[.slice A N cap, .slice none 0 0, .pointer none, .slice none 0 0] 56) = w2 := ⟨_, rfl⟩
  have hwb : w.heap.size ≤ b := by rw [← hb]; exact H1.out.size
  have HB02 := Lib.hid (H1.out.trans (hB2.mono H1.out.size))
  rw [hw2] at hwr HB02 ⊢
  rw [hb] at hwr ⊢
  have hbl : b < w2.heap.size := hwr.lt
  have HQ2 := Lib.hid (show WQ w2 b (.slice A N cap) [] [] from ⟨_, ⟨_, _, hwr, .inl rfl, Own.nil _ _ _ _, fun x hx => absurd hx (by simp)⟩, Own.nil _ _ _ _⟩)
  have HG2 := Lib.hid (show Gl w w2 b from ⟨hwb, HB02.out, HG0.out⟩)
  have HSN2 := Lib.hid (HSN.out.lift HB02.out hwb)
  have HPU := Lib.hid (fun (wr : World) (hr : Below w2.heap.size w2 wr) => push_lit wr b (.slice A N cap) [] [Pt.op ((N : Int) - 1) 1] [] #[.string ⟨#[]⟩, .int .i64 ((N : Int) - 1), .int .i64 1] 1 rfl rfl (HQ2.out.below hr) (by show 1 ≤ 1000000; decide) (Nat.zero_le _))
  clear hw2 hb hwr hB2 HT
  go_upto_region 5 with (first
    | (go_at_call 23; ((with_reducible refine (op_lit _ _ _).mono ?_); rintro e w3 ⟨rfl, h3⟩; have HB3 := Lib.hid h3; clear h3))
    | (go_at_call 22; ((with_reducible refine (HPU.out _ HB3.out).mono ?_); rintro e w4 ⟨rfl, h3, h4⟩; have HQ4 := Lib.hid h3; have HF4 := Lib.hid ((Fq.ofBelow HB3.out).trans h4); clear h3 h4)))
  go_loopw [] (fun wr => ∃ (st : List Pt) (txt : List Int), Hid (WQ wr b (.slice A N cap) st txt) ∧ Hid (Fq w2 wr b) ∧ Hid (∀ p ∈ st, PtOk l p) ∧ Hid (txt ++ st.reverse.flatMap (ptL l) = printL l))
    (fun wr => wm b L wr)
  case atStart => exact ⟨[Pt.op ((N : Int) - 1) 1], [], HQ4, HF4, Lib.hid (fun p hp => by rw [List.mem_singleton.1 hp]; exact HOK0.out), Lib.hid (by show ptL l (Pt.op ((N : Int) - 1) 1) ++ [] = _; rw [List.append_nil]; exact HP0.out)⟩
  case round =>
    obtain ⟨st, txt, HQ, HF, HOK, HE⟩ := hrel
    rcases List.eq_nil_or_concat st with rfl | ⟨st', p, rfl⟩
    · obtain ⟨Aw, cw, c1⟩ := HQ.out.wait
      rw [List.length_nil] at c1
      have HTX := Lib.hid (show txt = printL l from by have h := HE.out; rw [List.reverse_nil, List.flatMap_nil, List.append_nil] at h; exact h)
      obtain ⟨wv, hws, -⟩ := HQ.out
      have HSTR := Lib.hid (string_any wr b (.slice A N cap) wv txt hws (by rw [HTX.out]; exact HL.out ▸ tree_ne HTR.out (fun n hn => by obtain ⟨q, hq, rfl⟩ := List.mem_map.1 hn; exact HNUM.out q hq)))
      clear hws
      go_wp2_with (go_at_call 26; ((with_reducible refine HSTR.out.mono ?_); rintro e w5 ⟨rfl, h3⟩; have H5 := Lib.hid h3; clear h3))
      go_ret
      refine ⟨by rw [HTX.out] <;> rfl, ?_⟩
      have hg := ((HG2.out.fq HF.out)).2.1
      exact hg.trans ((H5.out.mono (by omega)))
    · rw [List.concat_eq_append] at HQ HOK HE
      obtain ⟨Aw, cw, c1⟩ := HQ.out.wait
      rw [List.length_append, List.length_singleton] at c1
      obtain ⟨M, hM⟩ : ∃ M : Nat, st'.length + 1 = M := ⟨_, rfl⟩
      have hM0 : (0 : Int) < (M : Int) := by omega
      rw [hM] at c1
      have htr : treeB l = true := by rw [← HL.out]; exact HTR.out
      have hpk : PtOk l p := HOK.out p (by simp)
      have hE := HE.out
      rw [List.reverse_append, List.reverse_singleton, List.singleton_append, List.flatMap_cons] at hE
      have hE2 := congrArg List.length hE
      rw [List.length_append, List.length_append, HLL.out] at hE2
      have hfl := flat_len htr st'.reverse (fun q hq => HOK.out q (List.mem_append_left _ (List.mem_reverse.1 hq)))
      rw [List.length_reverse] at hfl
      have hSL := stepP_L htr p hpk
      have hSL2 := congrArg List.length hSL
      rw [List.length_append] at hSL2
      have hSF := flat_len htr _ (stepP_ok htr p hpk)
      have hSM := stepP_less htr p hpk
      have HPOP := Lib.hid (pop_any wr b (.slice A N cap) st' p txt HQ.out (by omega))
      have HWR := Lib.hid (fun (w5 : World) (h5 : WQ w5 b (.slice A N cap) st' txt) (hf : Fb wr w5 b) => writeP_any w w5 b (.slice A N cap) vs st' txt p (HG2.out.fq (HF.out.trans (Fq.ofB hf))) h5 (HSN2.out.fq (HF.out.trans (Fq.ofB hf)) hbl) HZ.out (by rw [HL.out]; exact htr) HNUM.out (by rw [HL.out]; exact hpk) (by rw [HL.out]; omega) (by rw [HL.out]; omega))
      rw [HL.out] at HWR
      have HQN := Lib.hid (fun (w6 : World) (hq : WQ w6 b (.slice A N cap) (st' ++ (stepP l p).2.reverse) (txt ++ (stepP l p).1)) => show wm b L w6 < wm b L wr from by
        rw [hq.wm, HQ.out.wm, List.length_append, List.length_append, List.length_append, List.length_reverse, List.length_singleton]; omega)
      have HEN := Lib.hid (show (txt ++ (stepP l p).1) ++ (st' ++ (stepP l p).2.reverse).reverse.flatMap (ptL l) = printL l from by
        rw [List.reverse_append, List.reverse_reverse, List.flatMap_append, List.append_assoc txt, ← List.append_assoc (stepP l p).1, ← hSL]; exact hE)
      have HON := Lib.hid (show ∀ q ∈ st' ++ (stepP l p).2.reverse, PtOk l q from fun q hq => by
        rcases List.mem_append.1 hq with hq | hq
        · exact HOK.out q (List.mem_append_left _ hq)
        · exact stepP_ok htr p hpk q (List.mem_reverse.1 hq))
      clear hE hE2 hfl hSL hSL2 hSF hSM hM
      go_wp2_with (first
        | (go_at_call 25; ((with_reducible refine HPOP.out.mono ?_); rintro e w5 ⟨rfl, h3, h4⟩; have HQ5 := Lib.hid h3; have HF5 := Lib.hid h4; clear h3 h4))
        | (go_at_call 24; ((with_reducible refine (HWR.out _ HQ5.out HF5.out).mono ?_); rintro e w6 ⟨rfl, h3, h4⟩; have HQ6 := Lib.hid h3; have HF6 := Lib.hid h4; clear h3 h4)))
      go_roundw
      case rel => exact ⟨_, _, HQ6, Lib.hid (HF.out.trans ((Fq.ofB HF5.out).trans HF6.out)), HON, HEN⟩
      case measure => exact HQN.out _ HQ6.out
theorem print_any (w : World) (v : Value) (vs : List (Nd × Value)) (hv : Vars w) (htab : Tab w) (hmax : MaxV w) (hsh : ShV w) (h : SN w w.heap.size v vs) (hz : SZ vs) (hnum : ∀ q ∈ vs, q.1.num ≤ 9223372036854775807) (hlen : (printL (vs.map (·.1))).length ≤ 1000000000) :
    Calls Tryz.prog 10 #[v] w fun e w' => e = .returned (.string (strOfNums (printL (vs.map (·.1))))) ∧ Below w.heap.size w w' := by
  by_cases ht : treeB (vs.map (·.1)) = true
  · exact print_tree w v vs hv htab hmax hsh h hz hnum hlen ht
  · exact print_not w v vs hv h hz ht
end Go.Proofs.YtpnnchjmaggmpaaGreatDoor

namespace Go.Proofs.YtpnnchjmaggmpaaGreatDoor
open Go.RowKit

structure Sx (w : World) : Prop where
  vars : Vars w
  ops : OpV w
  tab : Tab w
  max : MaxV w
  sh : ShV w
theorem Sx.below {w w' : World} (h : Sx w) (hb : Below w.heap.size w w') : Sx w' := ⟨h.vars.below hb, h.ops.below hb, h.tab.below hb, h.max.below hb, h.sh.below hb⟩
theorem Sx.print {w : World} (h : Sx w) (v : Value) (vs : List (Nd × Value)) (hs : SN w w.heap.size v vs) (hz : SZ vs) (hnum : ∀ q ∈ vs, q.1.num ≤ 9223372036854775807) (hlen : (printL (vs.map (·.1))).length ≤ 1000000000) :
    Calls Tryz.prog 10 #[v] w fun e w' => e = .returned (.string (strOfNums (printL (vs.map (·.1))))) ∧ Below w.heap.size w w' := print_any w v vs h.vars h.tab h.max h.sh hs hz hnum hlen
def okN (n : Nd) : Bool := decide (n.text.size ≤ 1000000) && (decide (n.ref.sh.size ≤ 1000000) && (decide (n.to.sh.size ≤ 1000000) && decide (n.num ≤ 9223372036854775807)))
def showB (l out : List Int) (k : Nat) : Bool := match lexL l with
  | none => false
  | some ts => match parseP 200 ts with
    | some (.ok ns) => decide (printL ns = out) && (decide (ns.length = k) && ns.all okN)
    | _ => false
theorem show_PIs (s : ByteArray) (h : s.size ≤ 300) {out : List Int} {k : Nat} (hs : showB (sb s) out k = true) : ∃ ns, PIs s (.ok ns) ∧ printL ns = out ∧ ns.length = k ∧ ∀ n ∈ ns, okN n = true := by
  unfold showB at hs
  split at hs
  · cases hs
  · rename_i ts hl
    split at hs
    · rename_i ns hp
      rw [Bool.and_eq_true, Bool.and_eq_true, decide_eq_true_iff, decide_eq_true_iff, List.all_eq_true] at hs
      exact ⟨ns, .inr (.inr ⟨h, ts, 200, hl, hp⟩), hs.1, hs.2.1, hs.2.2⟩
    · cases hs
end Go.Proofs.YtpnnchjmaggmpaaGreatDoor

namespace Go.Proofs.YtpnnchjmaggmpaaGreatDoor
open Go.RowKit

def TS (M : Nat) (t : Tk) : Prop := t.text.size ≤ M ∧ t.sh.size ≤ M
def NS (M : Nat) (n : Nd) : Prop := n.text.size ≤ M ∧ n.ref.sh.size ≤ M ∧ n.to.sh.size ≤ M
def TSs (M : Nat) (ts : List Tk) : Prop := ∀ t ∈ ts, TS M t
def NSs (M : Nat) (ns : List Nd) : Prop := ∀ n ∈ ns, NS M n
theorem TSs.tail {M : Nat} {ts : List Tk} (h : TSs M ts) : TSs M ts.tail := fun t ht => h t (List.mem_of_mem_tail ht)
theorem NSs.app {M : Nat} {a b : List Nd} (h : NSs M a) (k : NSs M b) : NSs M (a ++ b) := fun n hn => (List.mem_append.1 hn).elim (h n) (k n)
theorem NSs.one {M : Nat} {n : Nd} (h : NS M n) : NSs M [n] := fun m hm => by rw [List.mem_singleton] at hm; subst hm; exact h
theorem NS.plain (M : Nat) (k n : Int) (ks : List Int) : NS M { Nd.zero with kind := k, num := n, kids := ks } := ⟨Nat.zero_le _, Nat.zero_le _, Nat.zero_le _⟩
theorem refP_sizes {M base : Nat} {t : Tk} {ts : List Tk} {ns : List Nd} {a : Nat} {r : List Tk} (ht : TS M t) (hs : TSs M ts) (h : refP base t ts = .ok (ns, a, r)) : NSs M ns ∧ TSs M r := by
  unfold refP at h
  split at h
  · split at h
    · rename_i u us hu
      split at h
      · injection h with h; injection h with h1 h2; injection h2 with h2 h3
        subst h1; subst h3
        have hus : TSs M (u :: us) := by rw [← hu]; exact hs.tail
        exact ⟨NSs.one ⟨Nat.zero_le _, ht.2, (hus u (by simp)).2⟩, fun x hx => hus x (by simp [hx])⟩
      · cases h
    · cases h
  · injection h with h; injection h with h1 h2; injection h2 with h2 h3
    subst h1; subst h3
    exact ⟨NSs.one ⟨Nat.zero_le _, ht.2, Nat.zero_le _⟩, hs⟩
theorem sizes_all (M : Nat) : ∀ f : Nat, (∀ n deep base ts ns a r, exprP f n deep base ts = some (.ok (ns, a, r)) → TSs M ts → NSs M ns ∧ TSs M r) ∧
    (∀ n deep base ns a ts ns' a' r, rowP f n deep base ns a ts = some (.ok (ns', a', r)) → TSs M ts → NSs M ns → NSs M ns' ∧ TSs M r) ∧
    (∀ deep base ts ns a r, primP f deep base ts = some (.ok (ns, a, r)) → TSs M ts → NSs M ns ∧ TSs M r) ∧
    (∀ deep base ns ks ts ns' ks' r, argsP f deep base ns ks ts = some (.ok (ns', ks', r)) → TSs M ts → NSs M ns → NSs M ns' ∧ TSs M r)
  | 0 => by
    refine ⟨?_, ?_, ?_, ?_⟩
    · intro n deep base ts ns a r h; unfold exprP at h; cases h
    · intro n deep base ns a ts ns' a' r h; unfold rowP at h; cases h
    · intro deep base ts ns a r h; unfold primP at h; cases h
    · intro deep base ns ks ts ns' ks' r h; unfold argsP at h; cases h
  | f + 1 => by
    obtain ⟨i1, i2, i3, i4⟩ := sizes_all M f
    refine ⟨?_, ?_, ?_, ?_⟩
    · intro n deep base ts ns a r h ht
      rw [exprP_succ] at h
      by_cases c : n ≤ 3
      · rw [if_pos c] at h
        rcases bindR_some h with ⟨e, _, h2⟩ | ⟨ms, b, s, h1, h2⟩
        · cases h2
        · obtain ⟨k1, k2⟩ := i1 _ _ _ _ _ _ _ h1 ht
          exact i2 _ _ _ _ _ _ _ _ _ h2 k2 k1
      · rw [if_neg c] at h
        by_cases d : signIs ⟨#[45]⟩ ts = true
        · rw [if_pos d] at h
          by_cases d2 : 12 ≤ deep
          · rw [if_pos d2] at h; cases h
          · rw [if_neg d2] at h
            rcases bindR_some h with ⟨e, _, h2⟩ | ⟨ms, b, s, h1, h2⟩
            · cases h2
            · obtain ⟨k1, k2⟩ := i1 _ _ _ _ _ _ _ h1 ht.tail
              injection h2 with h2; injection h2 with h2; injection h2 with h3 h4; injection h4 with h4 h5
              subst h3; subst h4; subst h5
              exact ⟨k1.app (NSs.one (NS.plain _ _ _ _)), k2⟩
        · rw [if_neg d] at h; exact i3 _ _ _ _ _ _ h ht
    · intro n deep base ns a ts ns' a' r h ht hn
      rw [rowP_succ] at h
      by_cases c : opK n ts = 0
      · rw [if_pos c] at h
        injection h with h; injection h with h; injection h with h1 h2; injection h2 with h2 h3
        subst h1; subst h2; subst h3
        exact ⟨hn, ht⟩
      · rw [if_neg c] at h
        rcases bindR_some h with ⟨e, _, h2⟩ | ⟨ms, b, s, h1, h2⟩
        · cases h2
        · obtain ⟨k1, k2⟩ := i1 _ _ _ _ _ _ _ h1 ht.tail
          exact i2 _ _ _ _ _ _ _ _ _ h2 k2 (hn.app (k1.app (NSs.one (NS.plain _ _ _ _))))
    · intro deep base ts ns a r h ht
      cases ts with
      | nil => rw [primP_nil] at h; cases h
      | cons t ts =>
        have h0 : TS M t := ht t (by simp)
        have hts : TSs M ts := fun x hx => ht x (by simp [hx])
        have leaf : ∀ (x : Nd), NS M x → (some (.ok ([x], base, ts)) : Option Res) = some (.ok (ns, a, r)) → NSs M ns ∧ TSs M r := by
          intro x hk h
          injection h with h; injection h with h; injection h with h1 h2; injection h2 with h2 h3
          subst h1; subst h2; subst h3
          exact ⟨NSs.one hk, hts⟩
        rw [primP_cons] at h
        by_cases c1 : signIs ⟨#[40]⟩ (t :: ts) = true
        · rw [if_pos c1] at h
          by_cases d2 : 12 ≤ deep
          · rw [if_pos d2] at h; cases h
          · rw [if_neg d2] at h
            rcases bindR_some h with ⟨e, _, h2⟩ | ⟨ms, b, s, h1, h2⟩
            · cases h2
            · obtain ⟨k1, k2⟩ := i1 _ _ _ _ _ _ _ h1 hts
              split at h2
              · injection h2 with h2; injection h2 with h2; injection h2 with h3 h4; injection h4 with h4 h5
                subst h3; subst h4; subst h5
                exact ⟨k1, k2.tail⟩
              · cases h2
        rw [if_neg c1] at h
        by_cases c2 : t.kind = 1
        · rw [if_pos c2] at h; exact leaf _ (NS.plain _ _ _ _) h
        rw [if_neg c2] at h
        by_cases c3 : t.kind = 2
        · rw [if_pos c3] at h; exact leaf _ ⟨h0.1, Nat.zero_le _, Nat.zero_le _⟩ h
        rw [if_neg c3] at h
        by_cases c4 : t.kind = 6
        · rw [if_pos c4] at h; exact leaf _ (NS.plain _ _ _ _) h
        rw [if_neg c4] at h
        by_cases c5 : t.kind = 4
        · rw [if_pos c5] at h; injection h with h; exact refP_sizes h0 hts h
        rw [if_neg c5] at h
        by_cases c6 : t.kind = 3
        · rw [if_pos c6] at h
          by_cases e1 : t.text = ⟨#[84, 82, 85, 69]⟩
          · rw [if_pos e1] at h; exact leaf _ (NS.plain _ _ _ _) h
          rw [if_neg e1] at h
          by_cases e2 : t.text = ⟨#[70, 65, 76, 83, 69]⟩
          · rw [if_pos e2] at h; exact leaf _ (NS.plain _ _ _ _) h
          rw [if_neg e2] at h
          by_cases e3 : signIs ⟨#[40]⟩ ts = true
          · rw [if_pos e3] at h
            by_cases d2 : 12 ≤ deep
            · rw [if_pos d2] at h; cases h
            · rw [if_neg d2] at h
              rcases bindR_some h with ⟨e, _, h2⟩ | ⟨ms, ks, s, h1, h2⟩
              · cases h2
              · have hk : NSs M ms ∧ TSs M s := by
                  split at h1
                  · injection h1 with h1; injection h1 with h1; injection h1 with h3 h4; injection h4 with h4 h5
                    subst h3; subst h5
                    exact ⟨fun _ h => absurd h (by simp), hts.tail⟩
                  · exact i4 _ _ _ _ _ _ _ _ h1 hts.tail (fun _ h => absurd h (by simp))
                split at h2
                · injection h2 with h2; injection h2 with h2; injection h2 with h3 h4; injection h4 with h4 h5
                  subst h3; subst h4; subst h5
                  exact ⟨hk.1.app (NSs.one ⟨h0.1, Nat.zero_le _, Nat.zero_le _⟩), hk.2.tail⟩
                · cases h2
          · rw [if_neg e3] at h; cases h
        · rw [if_neg c6] at h; cases h
    · intro deep base ns ks ts ns' ks' r h ht hn
      rw [argsP_succ] at h
      rcases bindR_some h with ⟨e, _, h2⟩ | ⟨ms, b, s, h1, h2⟩
      · cases h2
      · obtain ⟨k1, k2⟩ := i1 _ _ _ _ _ _ _ h1 ht
        split at h2
        · exact i4 _ _ _ _ _ _ _ _ h2 k2.tail (hn.app k1)
        · injection h2 with h2; injection h2 with h2; injection h2 with h3 h4; injection h4 with h4 h5
          subst h3; subst h4; subst h5
          exact ⟨hn.app k1, k2⟩
theorem parseP_sizes {M f : Nat} {ts : List Tk} {ns : List Nd} (h : parseP f ts = some (.ok ns)) (ht : TSs M ts) : NSs M ns := by
  unfold parseP at h
  rcases bindR_some h with ⟨e, _, h2⟩ | ⟨ms, b, s, h1, h2⟩
  · cases h2
  · split at h2
    · injection h2 with h2; injection h2 with h2; subst h2
      exact ((sizes_all M f).1 _ _ _ _ _ _ _ h1 ht).1
    · cases h2
end Go.Proofs.YtpnnchjmaggmpaaGreatDoor

namespace Go.Proofs.YtpnnchjmaggmpaaGreatDoor
open Go.RowKit

theorem strN_size {l : List Int} (h : Bytes l) : (strOfNums l).size = l.length := by rw [← length_sb, sb_str _ h]
theorem quoF_size : ∀ (n : Nat) (l : List Int) (t : List Int) (k : Nat), l.length ≤ n → quoF l = some (t, k) → t.length ≤ l.length
  | _, [], _, _, _, h => by simp [quoF] at h
  | 0, _ :: _, _, _, hn, _ => by simp at hn
  | n + 1, x :: l, t, k, hn, h => by
    rw [quoF_cons] at h
    by_cases h1 : x < 32
    · rw [if_pos h1] at h; cases h
    · rw [if_neg h1] at h
      by_cases h2 : x ≠ 34
      · rw [if_pos h2] at h
        cases hq : quoF l with
        | none => rw [hq] at h; cases h
        | some q =>
          rw [hq] at h
          simp only [Option.map_some, Option.some.injEq, Prod.mk.injEq] at h
          have := quoF_size n l q.1 q.2 (by simp at hn; omega) hq
          rw [← h.1]; simp only [List.length_cons]; omega
      · rw [if_neg h2] at h
        cases l with
        | nil => simp only [Option.some.injEq, Prod.mk.injEq] at h; rw [← h.1]; simp
        | cons y m =>
          simp only at h
          by_cases h3 : y = 34
          · rw [if_pos h3] at h
            cases hq : quoF m with
            | none => rw [hq] at h; cases h
            | some q =>
              rw [hq] at h
              simp only [Option.map_some, Option.some.injEq, Prod.mk.injEq] at h
              have := quoF_size n m q.1 q.2 (by simp at hn; omega) hq
              rw [← h.1]; simp only [List.length_cons]; omega
          · rw [if_neg h3] at h
            simp only [Option.some.injEq, Prod.mk.injEq] at h; rw [← h.1]; simp
theorem textL_size (sh : List Int) (c r : Int) (ac ar : Bool) (hm : mayL sh c r = true) : sh.length ≤ (textL sh c r ac ar).length := by
  unfold textL
  rw [if_pos hm]
  by_cases h : sh = []
  · rw [h]; exact Nat.zero_le _
  · rw [if_neg h]; simp only [List.length_append]; omega
theorem tokT_size (l : List Int) (t : Tk) (n p M : Nat) (hb : Bytes l) (hM : l.length ≤ M) (h : tokT l = some (t, n)) : TS M (t.goto p) := by
  have z : (⟨#[]⟩ : ByteArray).size ≤ M := Nat.zero_le _
  cases l with
  | nil => simp [tokT] at h
  | cons x l =>
    have hspan : ∀ q : Int → Bool, ((x :: l).takeWhile q).length ≤ M := fun q => Nat.le_trans (take_le q _) hM
    rw [tokT_cons] at h
    by_cases h1 : isNum x = true
    · rw [if_pos h1] at h
      unfold numT at h
      split at h
      · cases h
      · simp only [Option.some.injEq, Prod.mk.injEq] at h
        rw [← h.1]; exact ⟨z, z⟩
    · rw [if_neg h1] at h
      by_cases h2 : x = 34
      · rw [if_pos h2] at h
        unfold quoT at h
        cases hq : quoF l with
        | none => rw [hq] at h; cases h
        | some q =>
          rw [hq] at h
          simp only [Option.map_some, Option.some.injEq, Prod.mk.injEq] at h
          obtain ⟨g1, g2⟩ := quoF_good _ l q.1 q.2 (Nat.le_refl _) (fun y hy => hb y (by simp [hy])) hq
          rw [← h.1]
          refine ⟨?_, z⟩
          show (strOfNums q.1).size ≤ M
          rw [strN_size g1]
          have := quoF_size _ l q.1 q.2 (Nat.le_refl _) hq
          simp only [List.length_cons] at hM; omega
      · rw [if_neg h2] at h
        by_cases h3 : x = 35
        · rw [if_pos h3] at h
          unfold deadT at h
          split at h
          · simp only [Option.some.injEq, Prod.mk.injEq] at h
            rw [← h.1]; exact ⟨z, z⟩
          · cases h
        · rw [if_neg h3] at h
          by_cases h4 : isLet x = true ∨ x = 36
          · rw [if_pos h4] at h
            unfold wordT at h
            cases hq : readS (strOfNums ((x :: l).takeWhile isWord)) with
            | some d =>
              rw [hq] at h
              simp only [Option.some.injEq, Prod.mk.injEq] at h
              rw [← h.1]
              refine ⟨z, ?_⟩
              show d.sh.size ≤ M
              have e := (read_some _ d hq).2.2
              rw [sb_str _ (hb.span isWord)] at e
              have k1 := textL_size (sb d.sh) d.c d.r d.ac d.ar (read_some _ d hq).2.1
              rw [e, length_sb] at k1
              exact Nat.le_trans k1 (hspan isWord)
            | none =>
              rw [hq] at h
              simp only at h
              by_cases hc : calledL ((x :: l).takeWhile isWord) = true
              · rw [if_pos hc] at h
                simp only [Option.some.injEq, Prod.mk.injEq] at h
                rw [← h.1]
                refine ⟨?_, z⟩
                show (strOfNums ((x :: l).takeWhile isWord)).size ≤ M
                rw [strN_size (hb.span isWord)]; exact hspan isWord
              · rw [if_neg hc] at h; cases h
          · rw [if_neg h4] at h
            unfold signT at h
            split at h
            · cases h
            · simp only [Option.some.injEq, Prod.mk.injEq] at h
              rw [← h.1]
              refine ⟨?_, z⟩
              show (strOfNums ((x :: l).take (signN (x :: l)))).size ≤ M
              rw [strN_size (fun y hy => hb y (List.mem_of_mem_take hy)), List.length_take]; omega
theorem lexF_sizes (M : Nat) : ∀ (f p : Nat) (l : List Int) (ts : List Tk), Bytes l → l.length ≤ M → lexF f p l = some ts → TSs M ts
  | f, p, [], ts, _, _, h => by
    have h0 : lexF f p [] = some [Tk.zero.goto p] := by unfold lexF; rfl
    rw [h0] at h; injection h with h; subst h
    intro t ht; rw [List.mem_singleton] at ht; subst ht
    exact ⟨Nat.zero_le _, Nat.zero_le _⟩
  | 0, _, _ :: _, _, _, _, h => by unfold lexF at h; cases h
  | f + 1, p, x :: l, ts, hb, hM, h => by
    have hbl : Bytes l := fun y hy => hb y (by simp [hy])
    rw [lexF_cons] at h
    by_cases hx : x = 32
    · rw [if_pos hx] at h
      exact lexF_sizes M f (p + 1) l ts hbl (by simp only [List.length_cons] at hM; omega) h
    · rw [if_neg hx] at h
      cases hq : tokT (x :: l) with
      | none => rw [hq] at h; cases h
      | some q =>
        obtain ⟨t0, n⟩ := q
        rw [hq] at h
        simp only [Option.map_eq_some_iff] at h
        obtain ⟨us, h1, rfl⟩ := h
        have k1 := lexF_sizes M f (p + n) _ us (fun y hy => hb y (List.mem_of_mem_drop hy)) (by rw [List.length_drop]; omega) h1
        intro t ht
        rcases List.mem_cons.1 ht with rfl | ht
        · exact tokT_size (x :: l) t0 n p M hb hM hq
        · exact k1 t ht
end Go.Proofs.YtpnnchjmaggmpaaGreatDoor

namespace Go.Proofs.YtpnnchjmaggmpaaGreatDoor
open Go.RowKit

theorem tokT_num (l : List Int) (t : Tk) (n : Nat) (h : tokT l = some (t, n)) : t.num ≤ 9223372036854775807 := by
  cases l with
  | nil => simp [tokT] at h
  | cons x l =>
    rw [tokT_cons] at h
    split at h
    · unfold numT at h
      split at h
      · cases h
      · simp only [Option.some.injEq, Prod.mk.injEq] at h
        rw [← h.1]
        show valL _ ≤ _
        omega
    split at h
    · unfold quoT at h
      cases hq : quoF l with
      | none => rw [hq] at h; cases h
      | some q =>
        rw [hq] at h
        simp only [Option.map_some, Option.some.injEq, Prod.mk.injEq] at h
        rw [← h.1]; show (0 : Int) ≤ _; omega
    split at h
    · unfold deadT at h
      split at h
      · simp only [Option.some.injEq, Prod.mk.injEq] at h
        rw [← h.1]; show (0 : Int) ≤ _; omega
      · cases h
    split at h
    · unfold wordT at h
      split at h
      · simp only [Option.some.injEq, Prod.mk.injEq] at h
        rw [← h.1]; show (0 : Int) ≤ _; omega
      · split at h
        · simp only [Option.some.injEq, Prod.mk.injEq] at h
          rw [← h.1]; show (0 : Int) ≤ _; omega
        · cases h
    · unfold signT at h
      split at h
      · cases h
      · simp only [Option.some.injEq, Prod.mk.injEq] at h
        rw [← h.1]; show (0 : Int) ≤ _; omega
theorem Tok.num {t : Tk} (h : Tok t) : t.num ≤ 9223372036854775807 := by
  have := tokT_num _ _ _ h.2.1
  exact this
theorem Tok.pos {t : Tk} (h : Tok t) : 1 ≤ (txK t).length := (tokT_le _ _ _ h.2.1).1
theorem wr_mem {n rk d : Nat} {ts : List Tk} {d' : Nat} {ts' : List Tk} (h : Wr n rk d ts d' ts') : ts.length ≤ ts'.length ∧ ∀ t ∈ ts, t ∈ ts' := by
  rcases h with ⟨_, rfl, _⟩ | ⟨_, _, l, r, _, _, rfl⟩
  · exact ⟨Nat.le_refl _, fun _ h => h⟩
  · exact ⟨by simp; omega, fun t ht => by simp [ht]⟩
theorem sh_few {m : Bool} {base : Nat} {ns : List Nd} {ks : List Int} {ts : List Tk} {rk d : Nat} (h : Sh m base ns ks ts rk d) : (∀ t ∈ ts, t.num ≤ 9223372036854775807) → ns.length ≤ ts.length ∧ ∀ n ∈ ns, n.num ≤ 9223372036854775807 := by
  induction h with
  | leaf base ts nd h =>
    intro ht
    refine ⟨by cases h <;> simp, fun n hn => ?_⟩
    rw [List.mem_singleton.1 hn]
    cases h with
    | num t h => exact ht t (by simp)
    | yes t h g => show (1 : Int) ≤ _; omega
    | _ => show (0 : Int) ≤ _; omega
  | neg base ns a ts rk d h m hm d' ts' hw ih =>
    intro ht
    obtain ⟨w1, w2⟩ := wr_mem hw
    obtain ⟨g1, g2⟩ := ih fun t h => ht t (List.mem_cons_of_mem _ (w2 t h))
    refine ⟨by simp only [List.length_append, List.length_cons, List.length_nil]; omega, fun n hn => ?_⟩
    rcases List.mem_append.1 hn with hn | hn
    · exact g2 n hn
    · rw [List.mem_singleton.1 hn]; show (0 : Int) ≤ _; omega
  | op base o ho ns ms a b ts us rk1 rk2 d1 d2 h g s hs e1 e2 ts' us' hw gw ih ig =>
    intro ht
    obtain ⟨w1, w2⟩ := wr_mem hw
    obtain ⟨x1, x2⟩ := wr_mem gw
    obtain ⟨g1, g2⟩ := ih fun t h => ht t (List.mem_append_left _ (w2 t h))
    obtain ⟨y1, y2⟩ := ig fun t h => ht t (List.mem_append_right _ (List.mem_cons_of_mem _ (x2 t h)))
    refine ⟨by simp only [List.length_append, List.length_cons, List.length_nil]; omega, fun n hn => ?_⟩
    rcases List.mem_append.1 hn with hn | hn
    · exact g2 n hn
    rcases List.mem_append.1 hn with hn | hn
    · exact y2 n hn
    · rw [List.mem_singleton.1 hn]; show (0 : Int) ≤ _; omega
  | call base ns ks ts d h t l r =>
    rename_i ih
    intro ht
    obtain ⟨g1, g2⟩ := ih fun t h => ht t (by simp [h])
    refine ⟨by simp only [List.length_append, List.length_cons, List.length_nil]; omega, fun n hn => ?_⟩
    rcases List.mem_append.1 hn with hn | hn
    · exact g2 n hn
    · rw [List.mem_singleton.1 hn]; show (0 : Int) ≤ _; omega
  | none base => intro _; exact ⟨Nat.le_refl _, fun n hn => by cases hn⟩
  | one base ns a ts rk d h ih => exact ih
  | and base ns ms ks b ts us rk d1 d2 h hk c hc g ih ig =>
    intro ht
    obtain ⟨g1, g2⟩ := ih fun t h => ht t (List.mem_append_left _ h)
    obtain ⟨y1, y2⟩ := ig fun t h => ht t (List.mem_append_right _ (List.mem_cons_of_mem _ h))
    refine ⟨by simp only [List.length_append, List.length_cons]; omega, fun n hn => ?_⟩
    rcases List.mem_append.1 hn with hn | hn
    · exact g2 n hn
    · exact y2 n hn
theorem txL_few : ∀ ts : List Tk, (∀ t ∈ ts, Tok t) → ts.length ≤ (txL ts).length
  | [], _ => Nat.zero_le _
  | t :: ts, h => by
    have ih := txL_few ts fun u hu => h u (List.mem_cons_of_mem _ hu)
    have h1 := (h t (by simp)).pos
    rw [txL_cons, List.length_append, List.length_cons]; omega
theorem txL_bytes : ∀ ts : List Tk, (∀ t ∈ ts, Tok t) → Bytes (txL ts)
  | [], _ => fun x hx => by cases hx
  | t :: ts, h => fun x hx => by
    rw [txL_cons] at hx
    rcases List.mem_append.1 hx with hx | hx
    · exact (h t (by simp)).2.2 x hx
    · exact txL_bytes ts (fun u hu => h u (List.mem_cons_of_mem _ hu)) x hx
theorem PIs_told (s : ByteArray) (ns : List Nd) (h : PIs s (.ok ns)) : (ns.length ≤ 300 ∧ 0 < ns.length ∧ treeB ns = true) ∧ (∀ n ∈ ns, n.num ≤ 9223372036854775807) ∧ (printL ns).length ≤ s.size ∧ s.size ≤ 300 ∧ PIs (strOfNums (printL ns)) (.ok ns) := by
  rcases h with ⟨_, h⟩ | ⟨_, _, h⟩ | ⟨h0, ts, f, h1, h2⟩
  · cases h
  · cases h
  · have hb : Bytes (sb s) := fun x hx => sb_bd s x hx
    have ht := parse_tree h2 (lexL_good s ts h1).1
    obtain ⟨us, rq, d, a, g1, g2, g3, g4, g5⟩ := told_text hb h1 h2
    rw [length_sb] at g4
    obtain ⟨k1, k2⟩ := sh_few g1 fun t h => (g3 t h).num
    have k3 := txL_few us g3
    obtain ⟨p1, vs, g, p2, p3⟩ := print_told hb h1 h2 ht
    rw [length_sb] at p1
    have hpos : 0 < ns.length := by
      cases ns with
      | nil => exact absurd ht (by decide)
      | cons n ns => simp
    have hby : Bytes (printL ns) := by
      rw [sh_print g1 ht]
      exact txL_bytes us g3
    refine ⟨⟨by omega, hpos, ht⟩, k2, p1, h0, .inr (.inr ⟨by rw [strOfNums_size]; omega, vs, g, by rw [sb_str _ hby]; exact p2, p3⟩)⟩
end Go.Proofs.YtpnnchjmaggmpaaGreatDoor

namespace Go.Proofs.YtpnnchjmaggmpaaGreatDoor
open Go.RowKit

theorem PIs_sizes6 (s : ByteArray) (ns : List Nd) (h : PIs s (.ok ns)) : ∀ n ∈ ns, n.text.size ≤ 1000000 ∧ n.ref.sh.size ≤ 1000000 ∧ n.to.sh.size ≤ 1000000 := by
  rcases h with ⟨_, h⟩ | ⟨_, _, h⟩ | ⟨h0, ts, f, h1, h2⟩
  · cases h
  · cases h
  · exact parseP_sizes h2 (lexF_sizes 1000000 _ _ _ _ (fun x hx => sb_bd s x hx) (by rw [length_sb]; omega) h1)
theorem parse_sn (s : ByteArray) (w : World) (hx : Sx w) (ns : List Nd) (hp : PIs s (.ok ns)) :
    Calls Tryz.prog 12 #[.string s] w fun e w' => Below w.heap.size w w' ∧ ∃ g cap vs, e = .returned (.tuple #[.slice (some ⟨g, 0, none⟩) ns.length cap, .int .i64 0]) ∧ vs.map Prod.fst = ns ∧ SN w' w'.heap.size (.slice (some ⟨g, 0, none⟩) ns.length cap) vs := by
  refine (parse_ok s w hx.vars hx.ops ns hp (PIs_told s ns hp).1.2.1).mono ?_
  rintro e w' ⟨hb, g, cap, vs, he, h1, h2, h3, -⟩
  exact ⟨hb, g, cap, _, he, (sn_fst vs).trans h1, h3.sn h2⟩
end Go.Proofs.YtpnnchjmaggmpaaGreatDoor

namespace Go.Proofs.YtpnnchjmaggmpaaGreatDoor
open Go.RowKit

def OkE {α : Type} (x : Option (Except Int α)) : Prop := ∀ c, x = some (.error c) → c = 5 ∨ c = 6
theorem OkE.non {α : Type} : OkE (none : Option (Except Int α)) := fun c h => by cases h
theorem OkE.ok {α : Type} (v : α) : OkE (some (.ok v) : Option (Except Int α)) := fun c h => by injection h with h; cases h
theorem OkE.e5 {α : Type} : OkE (some (.error 5) : Option (Except Int α)) := fun c h => by injection h with h; injection h with h; exact .inl h.symm
theorem OkE.e6 {α : Type} : OkE (some (.error 6) : Option (Except Int α)) := fun c h => by injection h with h; injection h with h; exact .inr h.symm
theorem OkE.ite {α : Type} {p : Prop} [Decidable p] {x y : Option (Except Int α)} (h : OkE x) (g : OkE y) : OkE (if p then x else y) := by split; exact h; exact g
theorem OkE.bind {α β γ δ : Type} {x : Option (Except Int (α × β × γ))} {k : α → β → γ → Option (Except Int δ)} (h : OkE x) (g : ∀ a b c, OkE (k a b c)) : OkE (bindR x k) := fun c hc => by
  rcases bindR_some hc with ⟨e, h1, h2⟩ | ⟨a, b, d, _, h2⟩
  · injection h2 with h2; subst h2; exact h c h1
  · exact g a b d c h2
theorem refP_e (base : Nat) (t : Tk) (ts : List Tk) : OkE (some (refP base t ts)) := by
  unfold refP
  split
  · split
    · split
      · exact OkE.ok _
      · exact OkE.e5
    · exact OkE.e5
  · exact OkE.ok _
theorem err_all : ∀ f : Nat, (∀ n deep base ts, OkE (exprP f n deep base ts)) ∧ (∀ n deep base ns a ts, OkE (rowP f n deep base ns a ts)) ∧ (∀ deep base ts, OkE (primP f deep base ts)) ∧ (∀ deep base ns ks ts, OkE (argsP f deep base ns ks ts))
  | 0 => ⟨fun _ _ _ _ => by unfold exprP; exact OkE.non, fun _ _ _ _ _ _ => by unfold rowP; exact OkE.non, fun _ _ _ => by unfold primP; exact OkE.non, fun _ _ _ _ _ => by unfold argsP; exact OkE.non⟩
  | f + 1 => by
    obtain ⟨i1, i2, i3, i4⟩ := err_all f
    refine ⟨fun n deep base ts => ?_, fun n deep base ns a ts => ?_, fun deep base ts => ?_, fun deep base ns ks ts => ?_⟩
    · rw [exprP_succ]
      exact OkE.ite (OkE.bind (i1 _ _ _ _) fun _ _ _ => i2 _ _ _ _ _ _) (OkE.ite (OkE.ite OkE.e6 (OkE.bind (i1 _ _ _ _) fun _ _ _ => OkE.ok _)) (i3 _ _ _))
    · rw [rowP_succ]
      exact OkE.ite (OkE.ok _) (OkE.bind (i1 _ _ _ _) fun _ _ _ => i2 _ _ _ _ _ _)
    · cases ts with
      | nil => rw [primP_nil]; exact OkE.e5
      | cons t ts =>
        rw [primP_cons]
        repeat' first
          | exact OkE.ok _
          | exact OkE.e5
          | exact OkE.e6
          | exact refP_e _ _ _
          | exact i1 _ _ _ _
          | exact i4 _ _ _ _ _
          | (apply OkE.bind)
          | (apply OkE.ite)
          | intro
    · rw [argsP_succ]
      exact OkE.bind (i1 _ _ _ _) fun _ _ _ => OkE.ite (i4 _ _ _ _ _) (OkE.ok _)
theorem PIs_err (s : ByteArray) (c : Int) (h : PIs s (.error c)) : c ≠ 0 := by
  rcases h with ⟨_, h⟩ | ⟨_, _, h⟩ | ⟨_, ts, f, _, h⟩
  · injection h with h; omega
  · injection h with h; omega
  · unfold parseP at h
    have := OkE.bind ((err_all f).1 0 0 0 ts) (k := fun ns _ r => if kindAt r = 0 then some (.ok ns) else some (.error 5)) (fun _ _ _ => OkE.ite (OkE.ok _) OkE.e5) c h
    omega
end Go.Proofs.YtpnnchjmaggmpaaGreatDoor

namespace Go.Proofs.YtpnnchjmaggmpaaGreatDoor
open Go.RowKit

def ErrS (w : World) : Prop := ∃ ev, w.cell? ⟨3, 0, none⟩ = some ev ∧ (ev = .nilIface ∨ ∃ te pe, ev = .iface te pe)
theorem ErrS.below {w w' : World} (h : ErrS w) (hb : Below w.heap.size w w') : ErrS w' := by
  obtain ⟨ev, h1, h2⟩ := h
  exact ⟨ev, (hb.cell (show (⟨3, 0, none⟩ : Addr).block < w.heap.size from Lib.lt_of_cell h1)).trans h1, h2⟩
structure Cx (w : World) : Prop where
  sx : Sx w
  syn : ErrS w
theorem Cx.below {w w' : World} (h : Cx w) (hb : Below w.heap.size w w') : Cx w' := ⟨h.sx.below hb, h.syn.below hb⟩
set_option maxHeartbeats 400000 in
theorem cdig_any (c : Int) (_h0 : 0 ≤ c) (_h1 : c ≤ 255) (w : World) :
    Calls Tryz.prog 62 #[.int .u8 c] w fun e w' => e = .returned (.bool (isNum c)) ∧ w = w' := by
  go_enter Tryz.func62, Tryz.ntmps62
  go_wp2
  all_goals go_ret
  all_goals exact ⟨ret_bool (by unfold isNum; first | rfl | (symm; rw [decide_eq_true_iff]; omega) | (symm; rw [decide_eq_false_iff_not]; omega) | (rw [decide_eq_decide]; omega)), rfl⟩
theorem kd_empty (s : ByteArray) (h : s.size = 0) : kd s = 0 := by unfold kd; rw [sb_nil s h]; rfl
theorem kd_first (s : ByteArray) (hp0 : 0 < s.size) (a : Int) (ha : (s[0].toNat : Int) = a) : kd s = if a = 39 then 1 else if a = 61 then 2 else if a = 45 ∨ isNum a = true then 3 else 4 := by
  have hga : (sb s).getD 0 0 = a := by rw [sb_getD s 0 hp0, ha]
  have hl : (sb s).length = s.size := length_sb s
  unfold kd
  cases h : sb s with
  | nil => rw [h] at hl; simp at hl; omega
  | cons c l =>
    rw [h] at hga
    have : c = a := by simpa using hga
    subst this; rfl
set_option maxRecDepth 100000 in
set_option maxHeartbeats 400000 in
theorem kindOf_any (s : ByteArray) (_hs : s.size ≤ 1000000) (w : World) : Calls Tryz.prog 33 #[.string s] w fun e w' => e = .returned (.int .i64 (kd s)) ∧ w = w' := by
  by_cases h0 : s.size = 0
  · have hk := kd_empty s h0
    have hz := sb_nil s h0
    have HK := Lib.hid hk; clear hk
    obtain rfl : s = ⟨#[]⟩ := by first | exact hz | (rw [← str_sb s, hz]; rfl)
    clear h0 hz _hs
    go_enter Tryz.func33, Tryz.ntmps33
    go_wp2_with fail
    all_goals go_ret
    all_goals exact ⟨by rw [HK.out]; first | done | rfl, rfl⟩
  · have hne := text_ne0 s h0
    have hne2 : s.toList.isEmpty = false := by cases hq : s.toList with | nil => exact absurd hq hne | cons a l => rfl
    have hp0 : 0 < s.size := by omega
    obtain ⟨a, ha⟩ : ∃ a : Int, (s[0].toNat : Int) = a := ⟨_, rfl⟩
    have ha1 : 0 ≤ a ∧ a ≤ 255 := by have := s[0].toNat_lt; omega
    have hk := kd_first s hp0 a ha
    by_cases c1 : a = 39
    · rw [if_pos c1] at hk
      have HK := Lib.hid hk
      have e1 : (a == 39) = true := beq_iff_eq.2 c1
      clear hk c1 h0
      go_enter Tryz.func33, Tryz.ntmps33
      go_wp2_with fail
      all_goals go_ret
      all_goals exact ⟨by rw [HK.out]; first | done | rfl, rfl⟩
    rw [if_neg c1] at hk
    have e1 : (a == 39) = false := beq_eq_false_iff_ne.2 c1
    by_cases c2 : a = 61
    · rw [if_pos c2] at hk
      have HK := Lib.hid hk
      have e2 : (a == 61) = true := beq_iff_eq.2 c2
      clear hk c1 c2 h0
      go_enter Tryz.func33, Tryz.ntmps33
      go_wp2_with fail
      all_goals go_ret
      all_goals exact ⟨by rw [HK.out]; first | done | rfl, rfl⟩
    rw [if_neg c2] at hk
    have e2 : (a == 61) = false := beq_eq_false_iff_ne.2 c2
    by_cases c3 : a = 45
    · rw [if_pos (Or.inl c3)] at hk
      have HK := Lib.hid hk
      have e3 : (a == 45) = true := beq_iff_eq.2 c3
      clear hk c1 c2 c3 h0
      go_enter Tryz.func33, Tryz.ntmps33
      go_wp2_with fail
      all_goals go_ret
      all_goals exact ⟨by rw [HK.out]; first | done | rfl, rfl⟩
    have e3 : (a == 45) = false := beq_eq_false_iff_ne.2 c3
    cases c4 : isNum a with
    | true =>
      rw [if_pos (Or.inr c4)] at hk
      have HK := Lib.hid hk
      clear hk c1 c2 c3 h0
      go_enter Tryz.func33, Tryz.ntmps33
      go_wp2_with (go_at_call 62; ((with_reducible refine (cdig_any _ ?_ ?_ _).mono ?_); (first | omega | skip); (first | omega | skip); rintro e w' ⟨rfl, rfl⟩))
      all_goals go_ret
      all_goals exact ⟨by rw [HK.out]; first | done | rfl, rfl⟩
    | false =>
      rw [if_neg (by rw [c4]; simp; exact c3)] at hk
      have HK := Lib.hid hk
      clear hk c1 c2 c3 h0
      go_enter Tryz.func33, Tryz.ntmps33
      go_wp2_with (go_at_call 62; ((with_reducible refine (cdig_any _ ?_ ?_ _).mono ?_); (first | omega | skip); (first | omega | skip); rintro e w' ⟨rfl, rfl⟩))
      all_goals go_ret
      all_goals exact ⟨by rw [HK.out]; first | done | rfl, rfl⟩
theorem kindOf_is (s : ByteArray) (_hs : s.size ≤ 1000000) (k : Int) (hk : kd s = k) (w : World) : Calls Tryz.prog 33 #[.string s] w fun e w' => e = .returned (.int .i64 k) ∧ w = w' := hk ▸ kindOf_any s _hs w
theorem below_drew {B : Nat} {w w' : World} (h : Below B w w') : Below B w w'.drew := ⟨h.os, h.tape, h.output, h.size, h.block⟩
def WholeR (s : ByteArray) (n : Int) : Prop := ∀ v, atoiO s = some v → n = v
theorem WholeR.no {s : ByteArray} (h : atoiO s = none) (n : Int) : WholeR s n := fun u hu => by rw [h] at hu; cases hu
set_option maxRecDepth 100000 in
set_option maxHeartbeats 400000 in
theorem whole_any (s : ByteArray) (_hs : s.size ≤ 1000000) (w : World) (hx : Cx w) : Calls Tryz.prog 35 #[.string s] w fun e w' => ∃ n, e = .returned (.tuple #[.int .i64 n, .bool (atoiO s).isSome]) ∧ WholeR s n ∧ Below w.heap.size w w' := by
  cases h : Lib.atoiAll s.data.toList with
  | ok v =>
    have HA := Lib.hid (atoi_ok s _hs v h w)
    have HO := Lib.hid (atoiO_ok h)
    clear h hx
    go_enter Tryz.func35, Tryz.ntmps35
    go_wp2_with (go_at_call 63; ((with_reducible refine HA.out.mono ?_); rintro e w1 ⟨rfl, hb⟩; have HB := Lib.hid hb; clear hb))
    go_region
    all_goals go_wp2_with fail
    all_goals go_ret2
    all_goals exact ⟨v, by rw [HO.out]; rfl, fun u hu => by rw [HO.out] at hu; exact Option.some.inj hu, below_drew HB.out⟩
  | range =>
    obtain ⟨ev, h1, h2⟩ := hx.sx.vars.err
    have HA := Lib.hid (Tryz.strconv_Atoi_range s (by omega) h ev w h1 h2)
    have HO := Lib.hid (show atoiO s = none by unfold atoiO; rw [h])
    clear h hx h1 h2
    go_enter Tryz.func35, Tryz.ntmps35
    go_wp2_with (go_at_call 63; ((with_reducible refine HA.out.mono ?_); rintro e w1 ⟨N, rfl, -, -, hb⟩; have HB := Lib.hid hb; clear hb))
    go_region
    all_goals go_wp2_with fail
    all_goals go_ret2
    all_goals exact ⟨_, by rw [HO.out]; rfl, WholeR.no HO.out _, below_drew HB.out⟩
  | _ =>
    obtain ⟨ev, h1, h2⟩ := hx.syn
    have HA := Lib.hid (Tryz.strconv_Atoi_syntax s (by omega) _ h trivial ev w h1 h2)
    have HO := Lib.hid (show atoiO s = none by unfold atoiO; rw [h])
    clear h hx h1 h2
    go_enter Tryz.func35, Tryz.ntmps35
    go_wp2_with (go_at_call 63; ((with_reducible refine HA.out.mono ?_); rintro e w1 ⟨N, rfl, -, -, hb⟩; have HB := Lib.hid hb; clear hb))
    go_region
    all_goals go_wp2_with fail
    all_goals go_ret2
    all_goals exact ⟨_, by rw [HO.out]; rfl, WholeR.no HO.out _, below_drew HB.out⟩
theorem whole_is (s : ByteArray) (_hs : s.size ≤ 1000000) (v : Int) (h : atoiO s = some v) (w : World) (hx : Cx w) : Calls Tryz.prog 35 #[.string s] w fun e w' => e = .returned (.tuple #[.int .i64 v, .bool true]) ∧ Below w.heap.size w w' := by
  refine (whole_any s _hs w hx).mono ?_
  rintro e w' ⟨n, rfl, h1, h2⟩
  exact ⟨by rw [h1 v h, h]; rfl, h2⟩
theorem whole_no (s : ByteArray) (_hs : s.size ≤ 1000000) (h : atoiO s = none) (w : World) (hx : Cx w) : Calls Tryz.prog 35 #[.string s] w fun e w' => (∃ n, e = .returned (.tuple #[.int .i64 n, .bool false])) ∧ Below w.heap.size w w' := by
  refine (whole_any s _hs w hx).mono ?_
  rintro e w' ⟨n, rfl, h1, h2⟩
  exact ⟨⟨n, by rw [h]; rfl⟩, h2⟩
set_option maxRecDepth 100000 in
theorem conv39 (w : World) : (convert 21 9 (.int .i32 39)).run Tryz.prog w = .ok (.string ⟨#[39]⟩) w := by first | rfl | kernel_rfl | simp [convert]
set_option maxRecDepth 100000 in
theorem conv61 (w : World) : (convert 21 9 (.int .i32 61)).run Tryz.prog w = .ok (.string ⟨#[61]⟩) w := by first | rfl | kernel_rfl | simp [convert]
set_option maxRecDepth 100000 in
set_option maxHeartbeats 400000 in
theorem kept_any (m : Int) (mk s t : ByteArray) (hcv : ∀ w : World, (convert 21 9 (.int .i32 m)).run Tryz.prog w = .ok (.string mk) w) (hmk : mk.size = 1) (hs : s.size ≤ 1000000) (ht : mk ++ s = t) (w : World) :
    Calls Tryz.prog 37 #[.int .i32 m, .string s] w fun e w' => e = .returned (.tuple #[.string (if s.size + 1 ≤ 100 then t else ⟨#[]⟩), .int .i64 (if s.size + 1 ≤ 100 then 0 else 4)]) ∧ w = w' := by
  have hsz : t.size = s.size + 1 := by rw [← ht, ByteArray.size_append]; omega
  have hz : ¬ (9223372036854775807 : Int) < (mk.size : Int) + (s.size : Int) := by omega
  have hz2 : mk.size + s.size ≤ 9223372036854775807 := by omega
  by_cases h : s.size + 1 ≤ 100
  · have hi : ¬ (100 : Int) < (t.size : Int) := by omega
    rw [if_pos h, if_pos h]
    clear h hsz hs hmk
    go_enter Tryz.func37, Tryz.ntmps37
    go_wp2_with fail
    go_ret2
    exact ⟨rfl, rfl⟩
  · have hi : (100 : Int) < (t.size : Int) := by omega
    rw [if_neg h, if_neg h]
    clear h hsz hs hmk
    go_enter Tryz.func37, Tryz.ntmps37
    go_wp2_with fail
    go_ret2
    exact ⟨rfl, rfl⟩
end Go.Proofs.YtpnnchjmaggmpaaGreatDoor

namespace Go.Proofs.YtpnnchjmaggmpaaGreatDoor
open Go.RowKit

theorem print_told6 (s : ByteArray) (ns : List Nd) (hp : PIs s (.ok ns)) (w1 wr : World) (hx : Sx wr) (v : Value) (l : List (Nd × Value)) (hm : l.map Prod.fst = ns) (hs : SN w1 w1.heap.size v l) (hr : Below w1.heap.size w1 wr) :
    Calls Tryz.prog 10 #[v] wr fun e w' => e = .returned (.string (strOfNums (printL ns))) ∧ Below wr.heap.size wr w' := by
  obtain ⟨⟨hl300, hpos, htree⟩, hnum, hpl, hs300, hp2⟩ := PIs_told s ns hp
  have hsz := PIs_sizes6 s ns hp
  have hl : l.length = ns.length := by rw [← hm, List.length_map]
  have := hx.print v l (hs.lift hr hr.size) ⟨by omega, fun p hp => hsz p.1 (by rw [← hm]; exact List.mem_map_of_mem hp)⟩ (fun p hp => hnum p.1 (by rw [← hm]; exact List.mem_map_of_mem hp)) (by rw [show l.map (·.1) = ns from hm]; omega)
  rwa [show l.map (·.1) = ns from hm] at this
def mkF : ByteArray := ⟨#[61]⟩
def mkT : ByteArray := ⟨#[39]⟩
set_option maxRecDepth 100000 in
set_option maxHeartbeats 1000000 in
theorem normF_ok (s r : ByteArray) (h1 : 1 ≤ s.size) (h2 : s.size ≤ 100) (hr : s.extract 1 s.size = r) (ns : List Nd) (hp : PIs r (.ok ns)) (t : ByteArray) (ht : mkF ++ strOfNums (printL ns) = t) (w : World) (hx : Cx w) :
    Calls Tryz.prog 34 #[.string s] w fun e w' => e = .returned (.tuple #[.string t, .int .i64 0]) ∧ Below w.heap.size w w' := by
  have hrs : r.size + 1 ≤ 100 := by rw [← hr, ByteArray.size_extract]; omega
  have hpl := (PIs_told r ns hp).2.2.1
  obtain ⟨p, hpp⟩ : ∃ p, strOfNums (printL ns) = p := ⟨_, rfl⟩
  have hps : p.size + 1 ≤ 100 := by rw [← hpp, strOfNums_size]; omega
  have HA := Lib.hid (parse_sn r w hx.sx ns hp)
  have HPR := Lib.hid (fun (w1 : World) (h1 : Below w.heap.size w w1) (v : Value) (l : List (Nd × Value)) (hm : l.map Prod.fst = ns) (hs : SN w1 w1.heap.size v l) => (show Calls Tryz.prog 10 #[v] w1 fun e w' => e = .returned (.string p) ∧ Below w1.heap.size w1 w' from hpp ▸ print_told6 r ns hp w1 w1 (hx.sx.below h1) v l hm hs (Below.refl _ _)))
  have HK := Lib.hid (fun (w1 : World) => (show Calls Tryz.prog 37 #[.int .i32 61, .string p] w1 fun e w' => e = .returned (.tuple #[.string t, .int .i64 0]) ∧ w1 = w' from by
    have := kept_any 61 mkF p t conv61 rfl (by omega) (by rw [← hpp]; exact ht) w1
    rwa [if_pos hps, if_pos hps] at this))
  have hi1 : (1 : Int) ≤ (s.size : Int) := by omega
  obtain ⟨L, hL⟩ : ∃ L, ns.length = L := ⟨_, rfl⟩
  rw [hL] at HA
  clear hp hpl hpp hps hrs ht hL hx h2
  go_enter Tryz.func34, Tryz.ntmps34
  go_wp2_with (first
    | (go_at_call 12; ((with_reducible refine HA.out.mono ?_); rintro e w1 ⟨hb, g1, cap1, l1, rfl, hm1, hs1⟩; have HB1 := Lib.hid hb; have HP1 := Lib.hid (HPR.out w1 hb _ l1 hm1 hs1); clear hb hm1 hs1))
    | (go_at_call 10; ((with_reducible refine HP1.out.mono ?_); rintro e w2 ⟨rfl, h1⟩; have HB2 := Lib.hid (HB1.out.trans (h1.mono HB1.out.size)); clear h1))
    | (go_at_call 37; ((with_reducible refine (HK.out _).mono ?_); rintro e w3 ⟨rfl, rfl⟩)))
  go_ret2
  exact ⟨rfl, HB2.out⟩
set_option maxRecDepth 100000 in
set_option maxHeartbeats 1000000 in
theorem normF_bad (s r : ByteArray) (h1 : 1 ≤ s.size) (hr : s.extract 1 s.size = r) (c : Int) (hp : PIs r (.error c)) (w : World) (hx : Cx w) :
    Calls Tryz.prog 34 #[.string s] w fun e w' => e = .returned (.tuple #[.string ⟨#[]⟩, .int .i64 c]) ∧ Below w.heap.size w w' := by
  have hc0 : (c == 0) = false := beq_eq_false_iff_ne.2 (PIs_err r c hp)
  have HA := Lib.hid (parse_err r w hx.sx.vars hx.sx.ops c hp)
  have hi1 : (1 : Int) ≤ (s.size : Int) := by omega
  clear hp hx
  go_enter Tryz.func34, Tryz.ntmps34
  go_wp2_with (go_at_call 12; ((with_reducible refine HA.out.mono ?_); rintro e w1 ⟨hb, rfl⟩; have HB1 := Lib.hid hb; clear hb))
  go_ret2
  exact ⟨rfl, HB1.out⟩
inductive NormR (s : ByteArray) : ByteArray → Int → Prop
  | large (h : 100 < s.size) : NormR s ⟨#[]⟩ 4
  | stays (h : s.size ≤ 100) (hk : kd s = 0 ∨ kd s = 1) : NormR s s 0
  | form (h : s.size ≤ 100) (hk : kd s = 2) (r : ByteArray) (hr : s.extract 1 s.size = r) (ns : List Nd) (hp : PIs r (.ok ns)) (t : ByteArray) (ht : mkF ++ strOfNums (printL ns) = t) : NormR s t 0
  | bad (h : s.size ≤ 100) (hk : kd s = 2) (r : ByteArray) (hr : s.extract 1 s.size = r) (c : Int) (hp : PIs r (.error c)) : NormR s ⟨#[]⟩ c
  | num (h : s.size ≤ 100) (hk : kd s = 3) (n : Int) (ha : atoiO s = some n) : NormR s (strOfNums (decL n)) 0
  | text (h : s.size + 1 ≤ 100) (hk : kd s = 4 ∨ (kd s = 3 ∧ atoiO s = none)) (t : ByteArray) (ht : mkT ++ s = t) : NormR s t 0
  | long (h : s.size ≤ 100) (h2 : ¬ s.size + 1 ≤ 100) (hk : kd s = 4 ∨ (kd s = 3 ∧ atoiO s = none)) : NormR s ⟨#[]⟩ 4
theorem NormR.all (s : ByteArray) : ∃ t e, NormR s t e := by
  by_cases h : s.size ≤ 100
  · have hb := kdL_bd (sb s)
    have hb : 0 ≤ kd s ∧ kd s ≤ 4 := hb
    by_cases h01 : kd s = 0 ∨ kd s = 1
    · exact ⟨_, _, .stays h h01⟩
    by_cases h2 : kd s = 2
    · obtain ⟨res, hp⟩ := PIs.all (s.extract 1 s.size)
      cases res with
      | ok ns => exact ⟨_, _, .form h h2 _ rfl ns hp _ rfl⟩
      | error c => exact ⟨_, _, .bad h h2 _ rfl c hp⟩
    have hrest : (∃ n, kd s = 3 ∧ atoiO s = some n) ∨ (kd s = 4 ∨ (kd s = 3 ∧ atoiO s = none)) := by
      by_cases h3 : kd s = 3
      · cases ha : atoiO s with
        | some n => exact .inl ⟨n, h3, rfl⟩
        | none => exact .inr (.inr ⟨h3, rfl⟩)
      · exact .inr (.inl (by omega))
    rcases hrest with ⟨n, h3, ha⟩ | hk
    · exact ⟨_, _, .num h h3 n ha⟩
    · by_cases h1 : s.size + 1 ≤ 100
      · exact ⟨_, _, .text h1 hk _ rfl⟩
      · exact ⟨_, _, .long h h1 hk⟩
  · exact ⟨_, _, .large (by omega)⟩
theorem kd_pos (s : ByteArray) (h : kd s ≠ 0) : 1 ≤ s.size := by
  rcases Nat.eq_zero_or_pos s.size with h0 | h0
  · exact absurd (kd_empty s h0) h
  · exact h0
set_option maxRecDepth 100000 in
set_option maxHeartbeats 1000000 in
theorem norm_any (s t : ByteArray) (e : Int) (h : NormR s t e) (hs : s.size ≤ 1000000) (w : World) (hx : Cx w) :
    Calls Tryz.prog 17 #[.string s] w fun e' w' => e' = .returned (.tuple #[.string t, .int .i64 e]) ∧ Below w.heap.size w w' := by
  cases h with
  | large h =>
    have hi : (100 : Int) < (s.size : Int) := by omega
    clear h hx
    go_enter Tryz.func17, Tryz.ntmps17
    go_wp2_with fail
    go_ret2
    exact ⟨rfl, Below.refl _ _⟩
  | stays h hk =>
    have hi : ¬ (100 : Int) < (s.size : Int) := by omega
    rcases hk with hk | hk
    all_goals
      have HK := Lib.hid (kindOf_is s hs _ hk w)
      clear h hk hx hs
      go_enter Tryz.func17, Tryz.ntmps17
      go_wp2_with (go_at_call 33; ((with_reducible refine HK.out.mono ?_); rintro e w1 ⟨rfl, rfl⟩))
      go_ret2
      exact ⟨rfl, Below.refl _ _⟩
  | form h hk r hr ns hp t ht =>
    have hi : ¬ (100 : Int) < (s.size : Int) := by omega
    have HK := Lib.hid (kindOf_is s hs _ hk w)
    have HF := Lib.hid (normF_ok s r (kd_pos s (by omega)) h hr ns hp _ ht w hx)
    clear h hk hx hs hp ht hr
    go_enter Tryz.func17, Tryz.ntmps17
    go_wp2_with (first
      | (go_at_call 33; ((with_reducible refine HK.out.mono ?_); rintro e w1 ⟨rfl, rfl⟩))
      | (go_at_call 34; ((with_reducible refine HF.out.mono ?_); rintro e w2 ⟨rfl, hb⟩; have HB := Lib.hid hb; clear hb)))
    go_ret2
    exact ⟨rfl, HB.out⟩
  | bad h hk r hr c hp =>
    have hi : ¬ (100 : Int) < (s.size : Int) := by omega
    have HK := Lib.hid (kindOf_is s hs _ hk w)
    have HF := Lib.hid (normF_bad s r (kd_pos s (by omega)) hr e hp w hx)
    clear h hk hx hs hp hr
    go_enter Tryz.func17, Tryz.ntmps17
    go_wp2_with (first
      | (go_at_call 33; ((with_reducible refine HK.out.mono ?_); rintro e w1 ⟨rfl, rfl⟩))
      | (go_at_call 34; ((with_reducible refine HF.out.mono ?_); rintro e w2 ⟨rfl, hb⟩; have HB := Lib.hid hb; clear hb)))
    go_ret2
    exact ⟨rfl, HB.out⟩
  | num h hk n ha =>
    have hi : ¬ (100 : Int) < (s.size : Int) := by omega
    have HK := Lib.hid (kindOf_is s hs _ hk w)
    have HW := Lib.hid (whole_is s hs n ha w hx)
    have hbd := atoiO_bd ha
    have HI := Lib.hid (fun (w1 : World) (hb : Below w.heap.size w w1) => itoaZ_any n hbd.1 hbd.2 w1 (hx.sx.tab.below hb))
    clear h hk hx hs ha hbd
    go_enter Tryz.func17, Tryz.ntmps17
    go_wp2_with (first
      | (go_at_call 33; ((with_reducible refine HK.out.mono ?_); rintro e w1 ⟨rfl, rfl⟩))
      | (go_at_call 35; ((with_reducible refine HW.out.mono ?_); rintro e w2 ⟨rfl, hb⟩; have HB := Lib.hid hb; clear hb))
      | (go_at_call 36; ((with_reducible refine (HI.out _ HB.out).mono ?_); rintro e w3 ⟨rfl, hb⟩; have HB3 := Lib.hid (HB.out.trans (hb.mono HB.out.size)); clear hb)))
    go_ret2
    exact ⟨rfl, HB3.out⟩
  | text h hk t ht =>
    have hi : ¬ (100 : Int) < (s.size : Int) := by omega
    have HKP := Lib.hid (fun (w1 : World) => (show Calls Tryz.prog 37 #[.int .i32 39, .string s] w1 fun e w' => e = .returned (.tuple #[.string t, .int .i64 0]) ∧ w1 = w' from by
      have := kept_any 39 mkT s t conv39 rfl hs ht w1
      rwa [if_pos h, if_pos h] at this))
    rcases hk with hk | ⟨hk, ha⟩
    · have HK := Lib.hid (kindOf_is s hs _ hk w)
      clear h hk hx hs ht
      go_enter Tryz.func17, Tryz.ntmps17
      go_wp2_with (first
        | (go_at_call 33; ((with_reducible refine HK.out.mono ?_); rintro e w1 ⟨rfl, rfl⟩))
        | (go_at_call 37; ((with_reducible refine (HKP.out _).mono ?_); rintro e w3 ⟨rfl, rfl⟩)))
      go_ret2
      exact ⟨rfl, Below.refl _ _⟩
    · have HK := Lib.hid (kindOf_is s hs _ hk w)
      have HW := Lib.hid (whole_no s hs ha w hx)
      clear h hk hx hs ha ht
      go_enter Tryz.func17, Tryz.ntmps17
      go_wp2_with (first
        | (go_at_call 33; ((with_reducible refine HK.out.mono ?_); rintro e w1 ⟨rfl, rfl⟩))
        | (go_at_call 35; ((with_reducible refine HW.out.mono ?_); rintro e w2 ⟨⟨n, rfl⟩, hb⟩; have HB := Lib.hid hb; clear hb))
        | (go_at_call 37; ((with_reducible refine (HKP.out _).mono ?_); rintro e w3 ⟨rfl, rfl⟩)))
      go_ret2
      exact ⟨rfl, HB.out⟩
  | long h h2 hk =>
    have hi : ¬ (100 : Int) < (s.size : Int) := by omega
    have HKP := Lib.hid (fun (w1 : World) => (show Calls Tryz.prog 37 #[.int .i32 39, .string s] w1 fun e w' => e = .returned (.tuple #[.string ⟨#[]⟩, .int .i64 4]) ∧ w1 = w' from by
      have := kept_any 39 mkT s _ conv39 rfl hs rfl w1
      rwa [if_neg h2, if_neg h2] at this))
    rcases hk with hk | ⟨hk, ha⟩
    · have HK := Lib.hid (kindOf_is s hs _ hk w)
      clear h h2 hk hx hs
      go_enter Tryz.func17, Tryz.ntmps17
      go_wp2_with (first
        | (go_at_call 33; ((with_reducible refine HK.out.mono ?_); rintro e w1 ⟨rfl, rfl⟩))
        | (go_at_call 37; ((with_reducible refine (HKP.out _).mono ?_); rintro e w3 ⟨rfl, rfl⟩)))
      go_ret2
      exact ⟨rfl, Below.refl _ _⟩
    · have HK := Lib.hid (kindOf_is s hs _ hk w)
      have HW := Lib.hid (whole_no s hs ha w hx)
      clear h h2 hk hx hs ha
      go_enter Tryz.func17, Tryz.ntmps17
      go_wp2_with (first
        | (go_at_call 33; ((with_reducible refine HK.out.mono ?_); rintro e w1 ⟨rfl, rfl⟩))
        | (go_at_call 35; ((with_reducible refine HW.out.mono ?_); rintro e w2 ⟨⟨n, rfl⟩, hb⟩; have HB := Lib.hid hb; clear hb))
        | (go_at_call 37; ((with_reducible refine (HKP.out _).mono ?_); rintro e w3 ⟨rfl, rfl⟩)))
      go_ret2
      exact ⟨rfl, HB.out⟩
end Go.Proofs.YtpnnchjmaggmpaaGreatDoor

namespace Go.Proofs.YtpnnchjmaggmpaaGreatDoor
open Go.RowKit

theorem mk_sb (c : Int) (mk s : ByteArray) (h : sb mk = [c]) : sb (mk ++ s) = c :: sb s := by
  have : sb (mk ++ s) = sb mk ++ sb s := by unfold sb; rw [ByteArray.data_append, Array.toList_append, List.map_append]
  rw [this, h]; rfl
theorem kd_form (s : ByteArray) : kd (mkF ++ s) = 2 := by unfold kd; rw [mk_sb 61 mkF s (by decide)]; rfl
theorem kd_text (s : ByteArray) : kd (mkT ++ s) = 1 := by unfold kd; rw [mk_sb 39 mkT s (by decide)]; rfl
theorem mk_rest (mk s t : ByteArray) (hm : mk.size = 1) (ht : mk ++ s = t) : t.extract 1 t.size = s := by
  subst ht
  rw [ByteArray.extract_append, hm, ByteArray.size_append, hm]
  rw [show mk.extract 1 (1 + s.size) = ByteArray.empty from ByteArray.extract_eq_empty_iff.2 (by omega)]
  rw [ByteArray.empty_append, show 1 + s.size - 1 = s.size by omega]
  exact ByteArray.extract_zero_size
theorem decL_size (n : Int) (h0 : -9223372036854775808 ≤ n) (h1 : n ≤ 9223372036854775807) : (strOfNums (decL n)).size ≤ 20 := by
  rw [strOfNums_size]
  have := digL_len 18 n.natAbs (by omega)
  unfold decL
  split
  · rw [List.length_cons]; omega
  · omega
theorem NormR.again {s t : ByteArray} {e : Int} (h : NormR s t e) (he : e = 0) : NormR t t 0 := by
  cases h with
  | large h => omega
  | stays h hk => exact .stays h hk
  | form h hk r hr ns hp t ht =>
    obtain ⟨_, _, hpl, _, hp2⟩ := PIs_told r ns hp
    have h1 := kd_pos s (by omega)
    have hrs : r.size + 1 = s.size := by rw [← hr, ByteArray.size_extract]; omega
    have hts : t.size = (printL ns).length + 1 := by rw [← ht, ByteArray.size_append, strOfNums_size, Nat.add_comm]; rfl
    exact .form (by omega) (by rw [← ht]; exact kd_form _) _ (mk_rest mkF _ t rfl ht) ns hp2 t ht
  | bad h hk r hr c hp => exact absurd he (PIs_err r e hp)
  | num h hk n ha =>
    have hb := atoiO_bd ha
    have h20 := decL_size n hb.1 hb.2
    have h1 := kd_numZ 0 n
    have h2 := atoi_numZ 0 n hb.1 hb.2
    rw [numZ_dec] at h1 h2
    exact .num (by omega) h1 n h2
  | text h hk t ht =>
    have hts : t.size = s.size + 1 := by rw [← ht, ByteArray.size_append, Nat.add_comm]; rfl
    exact .stays (by omega) (.inr (by rw [← ht]; exact kd_text s))
  | long h h2 hk => omega
theorem NormR.first {t : ByteArray} (h : NormR t t 0) : t.size ≤ 100 ∧ kd t ≤ 3 := by
  generalize hu : t = u at h
  generalize he : (0 : Int) = e at h
  cases h with
  | large h => omega
  | stays h hk => exact ⟨by omega, by rcases hk with hk | hk <;> omega⟩
  | form h hk r hr ns hp t ht => exact ⟨h, by omega⟩
  | bad h hk r hr c hp => exact absurd he.symm (PIs_err r _ hp)
  | num h hk n ha => exact ⟨h, by omega⟩
  | text h hk t ht =>
    exfalso
    have : (mkT ++ u).size = u.size := by rw [ht]
    rw [ByteArray.size_append] at this
    have : mkT.size = 1 := rfl
    omega
  | long h h2 hk => omega
set_option maxRecDepth 100000 in
set_option maxHeartbeats 1000000 in
theorem formula_ok (t p : ByteArray) (hs : t.size ≤ 300) (h1 : 1 ≤ t.size) (hk : kd t = 2) (hr : t.extract 1 t.size = p) (ns : List Nd) (hp : PIs p (.ok ns)) (hpp : strOfNums (printL ns) = p) (w : World) (hx : Cx w) :
    Calls Tryz.prog 38 #[.string t] w fun e w' => (∃ v, e = .returned (.tuple #[v, .bool true])) ∧ Below w.heap.size w w' := by
  have HA := Lib.hid (parse_sn p w hx.sx ns hp)
  have HPR := Lib.hid (fun (w1 : World) (h1 : Below w.heap.size w w1) (v : Value) (l : List (Nd × Value)) (hm : l.map Prod.fst = ns) (hs : SN w1 w1.heap.size v l) => (show Calls Tryz.prog 10 #[v] w1.drew fun e w' => e = .returned (.string p) ∧ Below w1.drew.heap.size w1.drew w' from hpp ▸ print_told6 p ns hp w1 w1.drew (hx.sx.below (below_drew h1)) v l hm hs (below_drew (Below.refl _ _))))
  have HK := Lib.hid (kindOf_is t (by omega) _ hk w)
  have hi1 : (1 : Int) ≤ (t.size : Int) := by omega
  have hi : ¬ (300 : Int) < (t.size : Int) := by omega
  obtain ⟨L, hL⟩ : ∃ L, ns.length = L := ⟨_, rfl⟩
  rw [hL] at HA
  clear hp hpp hL hx hs hk
  go_enter Tryz.func38, Tryz.ntmps38
  go_wp2_with (first
    | (go_at_call 33; ((with_reducible refine HK.out.mono ?_); rintro e w1 ⟨rfl, rfl⟩))
    | (go_at_call 12; ((with_reducible refine HA.out.mono ?_); rintro e w1 ⟨hb, g1, cap1, l1, rfl, hm1, hs1⟩; have HB1 := Lib.hid hb; have HP1 := Lib.hid (HPR.out w1 hb _ l1 hm1 hs1); clear hb hm1 hs1)))
  go_region_held3 (fun _ => True) (trivial) (first
    | (go_at_call 10; ((with_reducible refine HP1.out.mono ?_); rintro e w2 ⟨rfl, h1⟩; have HB2 := Lib.hid ((below_drew HB1.out).trans (h1.mono HB1.out.size)); clear h1)))
  all_goals go_wp2_with fail
  all_goals go_ret2
  all_goals exact ⟨⟨_, rfl⟩, HB2.out⟩
set_option maxRecDepth 100000 in
set_option maxHeartbeats 1000000 in
theorem decimal_ok (t : ByteArray) (hs : t.size ≤ 300) (n : Int) (ha : atoiO t = some n) (ht : strOfNums (decL n) = t) (w : World) (hx : Cx w) :
    Calls Tryz.prog 39 #[.string t] w fun e w' => e = .returned (.tuple #[.int .i64 n, .bool true]) ∧ Below w.heap.size w w' := by
  have HW := Lib.hid (whole_is t (by omega) n ha w hx)
  have hbd := atoiO_bd ha
  have HI := Lib.hid (fun (w1 : World) (hb : Below w.heap.size w w1) => (show Calls Tryz.prog 36 #[.int .i64 n] w1 fun e w' => e = .returned (.string t) ∧ Below w1.heap.size w1 w' from ht ▸ itoaZ_any n hbd.1 hbd.2 w1 (hx.sx.tab.below hb)))
  clear hx ha hbd ht hs
  go_enter Tryz.func39, Tryz.ntmps39
  go_wp2_with (first
    | (go_at_call 35; ((with_reducible refine HW.out.mono ?_); rintro e w2 ⟨rfl, hb⟩; have HB := Lib.hid hb; clear hb))
    | (go_at_call 36; ((with_reducible refine (HI.out _ HB.out).mono ?_); rintro e w3 ⟨rfl, hb⟩; have HB3 := Lib.hid (HB.out.trans (hb.mono HB.out.size)); clear hb)))
  go_ret2
  exact ⟨by rfl, HB3.out⟩
theorem NormR.kinds {t : ByteArray} (h : NormR t t 0) : (kd t = 0 ∨ kd t = 1) ∨ (kd t = 2 ∧ ∃ p ns, t.extract 1 t.size = p ∧ PIs p (.ok ns) ∧ strOfNums (printL ns) = p) ∨ (kd t = 3 ∧ ∃ n, atoiO t = some n ∧ strOfNums (decL n) = t) := by
  generalize hu : t = u at h
  generalize he : (0 : Int) = e at h
  cases h with
  | large h => omega
  | stays h hk => exact .inl hk
  | form h hk r hr ns hp t' ht =>
    have hp2 := (PIs_told r ns hp).2.2.2.2
    exact .inr (.inl ⟨hk, _, ns, mk_rest mkF _ _ rfl ht, hp2, rfl⟩)
  | bad h hk r hr c hp => exact absurd he.symm (PIs_err r _ hp)
  | num h hk n ha => exact .inr (.inr ⟨hk, n, ha, rfl⟩)
  | text h hk t' ht =>
    exfalso
    have : (mkT ++ u).size = u.size := by rw [ht]
    rw [ByteArray.size_append] at this
    have : mkT.size = 1 := rfl
    omega
  | long h h2 hk => omega
set_option maxRecDepth 100000 in
set_option maxHeartbeats 1000000 in
theorem mayc_any (t : ByteArray) (h : NormR t t 0) (w : World) (hx : Cx w) :
    Calls Tryz.prog 18 #[.string t] w fun e w' => e = .returned (.bool true) ∧ Below w.heap.size w w' := by
  have hsz := h.first.1
  have hs : t.size ≤ 1000000 := by omega
  have hi : ¬ (300 : Int) < (t.size : Int) := by omega
  rcases h.kinds with hk | ⟨hk, p, ns, hr, hp, hpp⟩ | ⟨hk, n, ha, ht⟩
  · rcases hk with hk | hk
    all_goals
      have HK := Lib.hid (kindOf_is t hs _ hk w)
      clear h hk hx hs hsz
      go_enter Tryz.func18, Tryz.ntmps18
      go_wp2_with (go_at_call 33; ((with_reducible refine HK.out.mono ?_); rintro e w1 ⟨rfl, rfl⟩))
      go_ret
      exact ⟨rfl, Below.refl _ _⟩
  · have HK := Lib.hid (kindOf_is t hs _ hk w)
    have HF := Lib.hid (formula_ok t p (by omega) (kd_pos t (by omega)) hk hr ns hp hpp w hx)
    clear h hk hx hs hsz hp hpp hr
    go_enter Tryz.func18, Tryz.ntmps18
    go_wp2_with (first
      | (go_at_call 33; ((with_reducible refine HK.out.mono ?_); rintro e w1 ⟨rfl, rfl⟩))
      | (go_at_call 38; ((with_reducible refine HF.out.mono ?_); rintro e w1 ⟨⟨v, rfl⟩, hb⟩; have HB := Lib.hid hb; clear hb)))
    go_ret
    exact ⟨rfl, HB.out⟩
  · have HK := Lib.hid (kindOf_is t hs _ hk w)
    have HF := Lib.hid (decimal_ok t (by omega) n ha ht w hx)
    clear h hk hx hs hsz ha ht
    go_enter Tryz.func18, Tryz.ntmps18
    go_wp2_with (first
      | (go_at_call 33; ((with_reducible refine HK.out.mono ?_); rintro e w1 ⟨rfl, rfl⟩))
      | (go_at_call 39; ((with_reducible refine HF.out.mono ?_); rintro e w1 ⟨rfl, hb⟩; have HB := Lib.hid hb; clear hb)))
    go_ret
    exact ⟨rfl, HB.out⟩
end Go.Proofs.YtpnnchjmaggmpaaGreatDoor

namespace Go.Proofs.YtpnnchjmaggmpaaGreatDoor
open Go.RowKit

structure Vl where
  k : Int
  n : Int
  s : ByteArray
def vlA (v : Vl) : Array Value := #[.int .i64 v.k, .int .i64 v.n, .string v.s]
def Vl.none : Vl := ⟨0, 0, ⟨#[]⟩⟩
def Vl.num (n : Int) : Vl := ⟨1, n, ⟨#[]⟩⟩
def Vl.text (s : ByteArray) : Vl := ⟨2, 0, s⟩
def Vl.truth (b : Bool) : Vl := ⟨3, if b = true then 1 else 0, ⟨#[]⟩⟩
def Vl.err (e : Int) : Vl := ⟨4, e, ⟨#[]⟩⟩
def errTs : List ByteArray := [⟨#[]⟩, ⟨#[35, 86, 65, 76, 85, 69, 33]⟩, ⟨#[35, 78, 85, 77, 33]⟩, ⟨#[35, 68, 73, 86, 48, 33]⟩, ⟨#[35, 82, 69, 70, 33]⟩, ⟨#[35, 78, 65, 77, 69, 33]⟩, ⟨#[35, 67, 89, 67, 76, 69, 33]⟩]
def errT (n : Int) : ByteArray := if n < 0 ∨ 7 ≤ n then ⟨#[]⟩ else errTs.getD n.toNat ⟨#[]⟩
def textV (v : Vl) : ByteArray :=
  if v.k = 1 then strOfNums (decL v.n) else if v.k = 2 then v.s else if v.k = 3 then (if v.n = 1 then ⟨#[84, 82, 85, 69]⟩ else ⟨#[70, 65, 76, 83, 69]⟩) else if v.k = 4 then errT v.n else ⟨#[]⟩
def intV (v : Vl) : Int := if v.k = 1 then v.n else 0
def isInt (v : Vl) : Bool := decide (v.k = 0 ∨ v.k = 1)
def truthV (v : Vl) : Bool := if v.k = 1 then decide (¬ v.n = 0) else if v.k = 3 then decide (v.n = 1) else false
def isTruth (v : Vl) : Bool := decide (v.k = 0 ∨ v.k = 1 ∨ v.k = 3)
def fitV (n : Int) : Vl := if -9223372036854775808 ≤ n ∧ n ≤ 9223372036854775807 then .num n else .err 2
def negV (v : Vl) : Vl := if v.k = 4 then v else if isInt v = true then fitV (-intV v) else .err 1
def asV (v o : Vl) : Vl := if v.k = 0 then ⟨o.k, 0, ⟨#[]⟩⟩ else v
def cmpV (a b : Vl) : Int :=
  if ¬ (asV a b).k = (asV b a).k then Lib.compareInt (asV a b).k (asV b a).k
  else if (asV a b).k = 2 then Lib.compareBytes (asV a b).s.data.toList (asV b a).s.data.toList
  else Lib.compareInt (asV a b).n (asV b a).n
def sumV (x y : Int) : Vl := fitV (x + y)
def subV (x y : Int) : Vl := fitV (x - y)
def mulV (x y : Int) : Vl := fitV (x * y)
def divV (x y : Int) : Vl := if y = 0 then .err 3 else fitV (x.tdiv y)
def reckV (f : Int → Int → Vl) (a b : Vl) : Vl := if isInt a = true then (if isInt b = true then f (intV a) (intV b) else .err 1) else .err 1
def joinV (a b : Vl) : Vl := if 200 < (textV a).size + (textV b).size then .err 1 else .text (textV a ++ textV b)
def opV (kind : Int) (a b : Vl) : Vl :=
  if kind = 9 then .truth (decide (cmpV a b = 0)) else if kind = 10 then .truth (decide (¬ cmpV a b = 0)) else if kind = 11 then .truth (decide (cmpV a b < 0)) else if kind = 12 then .truth (decide (cmpV a b ≤ 0))
  else if kind = 13 then .truth (decide (0 < cmpV a b)) else if kind = 14 then .truth (decide (0 ≤ cmpV a b)) else if kind = 15 then joinV a b
  else if kind = 16 then reckV sumV a b else if kind = 17 then reckV subV a b else if kind = 18 then reckV mulV a b else if kind = 19 then reckV divV a b else .err 1
def twoV (kind : Int) (a b : Vl) : Vl := if a.k = 4 then a else if b.k = 4 then b else opV kind a b
def mayV (v : Vl) : Bool :=
  if v.k = 0 then decide (v.n = 0 ∧ v.s = ⟨#[]⟩) else if v.k = 1 then decide (v.s = ⟨#[]⟩) else if v.k = 2 then decide (v.n = 0 ∧ v.s.size ≤ 200) else if v.k = 3 then decide (v.s = ⟨#[]⟩ ∧ (v.n = 0 ∨ v.n = 1))
  else if v.k = 4 then decide (v.s = ⟨#[]⟩ ∧ 1 ≤ v.n ∧ v.n ≤ 6) else false

def wr64 (n : Int) : Int := IntKind.i64.wrap n
end Go.Proofs.YtpnnchjmaggmpaaGreatDoor

namespace Go.Proofs.YtpnnchjmaggmpaaGreatDoor
open Go.RowKit

def VlAt (w : World) (b : Nat) (v : Vl) : Prop := w.heap[b]? = some (.cells #[.int .i64 v.k, .int .i64 v.n, .string v.s] 39)
theorem VlAt.new (w : World) (v : Vl) : VlAt (w.alloc (.cells #[.int .i64 v.k, .int .i64 v.n, .string v.s] 39)) w.heap.size v := (Go.MapKept.heap_alloc w _).1
theorem VlAt.zero (w : World) : VlAt (w.alloc (.cells #[.int .i64 0, .int .i64 0, .string ⟨#[]⟩] 39)) w.heap.size Vl.none := VlAt.new w Vl.none
theorem vl_size : (Tryz.prog.info? 39).map (·.size) = some 3 := by kernel_rfl
theorem out_vl {w : World} {b : Nat} {v : Vl} (h : VlAt w b v) (fn : Func) (tmps : Array Value) (s : Tmp) (hf : fn.results = #[.cell s 39]) (hp : tmps.getD s undef = .pointer (some ⟨b, 0, none⟩)) :
    (results fn tmps).run Tryz.prog w = .ok (.agg #[.int .i64 v.k, .int .i64 v.n, .string v.s]) w :=
  results_cell_row hf tmps w b _ _ _ _ hp h Tryz.underlying39 rfl vl_size
theorem VlAt.lt {w : World} {b : Nat} {v : Vl} (h : VlAt w b v) : b < w.heap.size := (Array.getElem?_eq_some_iff.1 h).1
theorem VlAt.below {w w' : World} {b B : Nat} {v : Vl} (h : VlAt w b v) (hb : Below B w w') (hB : b < B) : VlAt w' b v := by unfold VlAt; rw [hb.block b hB]; exact h
theorem VlAt.over {w w' : World} {b : Nat} {v : Vl} (h : VlAt w b v) (hb : Below w.heap.size w w') : VlAt w' b v := h.below hb h.lt
theorem VlAt.cells {w : World} {b : Nat} {v : Vl} (h : VlAt w b v) : w.cell? ⟨b, 0, none⟩ = some (.int .i64 v.k) ∧ w.cell? ⟨b, 1, none⟩ = some (.int .i64 v.n) ∧ w.cell? ⟨b, 2, none⟩ = some (.string v.s) :=
  ⟨by rw [cell_of_row w b 0 _ _ _ h]; rfl, by rw [cell_of_row w b 1 _ _ _ h]; rfl, by rw [cell_of_row w b 2 _ _ _ h]; rfl⟩
theorem VlAt.melts {w : World} {b : Nat} {v : Vl} (h : VlAt w b v) : w.frozen? ⟨b, 0, none⟩ = false ∧ w.frozen? ⟨b, 1, none⟩ = false ∧ w.frozen? ⟨b, 2, none⟩ = false := ⟨frozen_of_row w b 0 _ _ h, frozen_of_row w b 1 _ _ h, frozen_of_row w b 2 _ _ h⟩
theorem VlAt.put3 {w : World} {b : Nat} {v0 : Vl} (h : VlAt w b v0) (v : Vl) : VlAt (((w.setCell ⟨b, 0, none⟩ (.int .i64 v.k)).setCell ⟨b, 1, none⟩ (.int .i64 v.n)).setCell ⟨b, 2, none⟩ (.string v.s)) b v := by
  have h1 : (w.setCell ⟨b, 0, none⟩ (.int .i64 v.k)).heap[b]? = some (.cells #[.int .i64 v.k, .int .i64 v0.n, .string v0.s] 39) := by rw [heap_setCell_same w b 0 _ _ _ h]; rfl
  have h2 : ((w.setCell ⟨b, 0, none⟩ (.int .i64 v.k)).setCell ⟨b, 1, none⟩ (.int .i64 v.n)).heap[b]? = some (.cells #[.int .i64 v.k, .int .i64 v.n, .string v0.s] 39) := by rw [heap_setCell_same _ b 1 _ _ _ h1]; rfl
  unfold VlAt; rw [heap_setCell_same _ b 2 _ _ _ h2]; rfl
theorem belowV3 {w w1 : World} {B z : Nat} (h : Below B w w1) (hz : B ≤ z) (v : Vl) : Below B w (((w1.setCell ⟨z, 0, none⟩ (.int .i64 v.k)).setCell ⟨z, 1, none⟩ (.int .i64 v.n)).setCell ⟨z, 2, none⟩ (.string v.s)) :=
  ((h.setCell hz _).setCell hz _).setCell hz _
theorem below_vl (w : World) (v : Vl) : Below w.heap.size w (w.alloc (.cells #[.int .i64 v.k, .int .i64 v.n, .string v.s] 39)) := (Below.refl _ _).alloc (Nat.le_refl _) _
theorem below_z (w : World) : Below w.heap.size w (w.alloc (.cells #[.int .i64 0, .int .i64 0, .string ⟨#[]⟩] 39)) := (Below.refl _ _).alloc (Nat.le_refl _) _
end Go.Proofs.YtpnnchjmaggmpaaGreatDoor

namespace Go.Proofs.YtpnnchjmaggmpaaGreatDoor
open Go.RowKit

theorem res_cplain : Tryz.f20.results = #[.cell 2 39] := by kernel_rfl
set_option maxRecDepth 100000 in
set_option maxHeartbeats 1000000 in
theorem plain_none (w : World) : Calls Tryz.prog 20 #[.string ⟨#[]⟩] w fun e w' => e = .returned (.agg #[.int .i64 0, .int .i64 0, .string ⟨#[]⟩]) ∧ Below w.heap.size w w' := by
  have HK := Lib.hid (fun (w1 : World) => kindOf_is ⟨#[]⟩ (by decide) 0 (by decide) w1)
  have HN := Lib.hid (VlAt.new w Vl.none)
  have HB := Lib.hid (below_vl w Vl.none)
  go_enter Tryz.func20, Tryz.ntmps20
  go_wp2_with (go_at_call 33; ((with_reducible refine (HK.out _).mono ?_); rintro e w1 ⟨rfl, rfl⟩))
  exact bodyPost_ret (out_vl HN.out _ _ 2 res_cplain rfl) rfl ⟨rfl, HB.out⟩
set_option maxRecDepth 100000 in
set_option maxHeartbeats 1000000 in
theorem plain_text (s t : ByteArray) (ht : mkT ++ s = t) (hs : s.size ≤ 200) (w : World) : Calls Tryz.prog 20 #[.string t] w fun e w' => e = .returned (.agg #[.int .i64 2, .int .i64 0, .string s]) ∧ Below w.heap.size w w' := by
  have hr := mk_rest mkT s t rfl ht
  have hts : t.size = s.size + 1 := by rw [← ht, ByteArray.size_append, Nat.add_comm]; rfl
  have hk : kd t = 1 := by rw [← ht]; exact kd_text s
  have HK := Lib.hid (fun (w1 : World) => kindOf_is t (by omega) 1 hk w1)
  have HN := Lib.hid (VlAt.new w (Vl.text s))
  have HB := Lib.hid (below_vl w (Vl.text s))
  have hi1 : (1 : Int) ≤ (t.size : Int) := by omega
  have hi : (s.size : Int) ≤ 200 := by omega
  clear hts hk ht hs
  go_enter Tryz.func20, Tryz.ntmps20
  go_wp2_with (go_at_call 33; ((with_reducible refine (HK.out _).mono ?_); rintro e w1 ⟨rfl, rfl⟩))
  exact bodyPost_ret (out_vl HN.out _ _ 2 res_cplain rfl) rfl ⟨rfl, HB.out⟩
set_option maxRecDepth 100000 in
set_option maxHeartbeats 1000000 in
theorem plain_num (t : ByteArray) (hs : t.size ≤ 300) (n : Int) (hk : kd t = 3) (ha : atoiO t = some n) (ht : strOfNums (decL n) = t) (w : World) (hx : Cx w) : Calls Tryz.prog 20 #[.string t] w fun e w' => e = .returned (.agg #[.int .i64 1, .int .i64 n, .string ⟨#[]⟩]) ∧ Below w.heap.size w w' := by
  have HK := Lib.hid (fun (w1 : World) => kindOf_is t (by omega) 3 hk w1)
  have HD := Lib.hid (fun (w1 : World) (hb : Below w.heap.size w w1) => decimal_ok t hs n ha ht w1 (hx.below hb))
  have HA0 := Lib.hid (below_z w)
  clear hk ht hs ha hx
  go_enter Tryz.func20, Tryz.ntmps20
  go_wp2_with (first
    | (go_at_call 33; ((with_reducible refine (HK.out _).mono ?_); rintro e w1 ⟨rfl, rfl⟩))
    | (go_at_call 39; ((with_reducible refine (HD.out _ HA0.out).mono ?_); rintro e w2 ⟨rfl, hb⟩; have HV := Lib.hid ((VlAt.zero w).over hb); obtain ⟨c0, c1, c2⟩ := HV.out.cells; obtain ⟨m0, m1, m2⟩ := HV.out.melts; have HB2 := Lib.hid (HA0.out.trans (hb.mono HA0.out.size)); clear hb)))
  exact bodyPost_ret (out_vl (HV.out.put3 (Vl.num n)) _ _ 2 res_cplain rfl) rfl ⟨rfl, belowV3 HB2.out (Nat.le_refl _) (Vl.num n)⟩
theorem cell_ex : showB [32, 49, 32, 43, 32, 50] [49, 43, 50] 3 = true := by decide +kernel
theorem norm_ex : NormR ⟨#[61, 32, 49, 32, 43, 32, 50]⟩ ⟨#[61, 49, 43, 50]⟩ 0 := by
  obtain ⟨ns, hp, h1, _, _⟩ := show_PIs ⟨#[32, 49, 32, 43, 32, 50]⟩ (by decide) (by rw [show sb ⟨#[32, 49, 32, 43, 32, 50]⟩ = [32, 49, 32, 43, 32, 50] by decide]; exact cell_ex)
  exact .form (by decide) (by decide) _ (by decide +kernel) ns hp _ (by rw [h1]; decide +kernel)
set_option maxRecDepth 100000 in
set_option maxHeartbeats 1000000 in
theorem awake9_any (w : World) (hx : Cx w) : Calls Tryz.prog 16 #[] w fun e w' => e = .returned (.bool true) ∧ Below w.heap.size w w' := by
  have HA := Lib.hid (norm_any _ _ _ norm_ex (by decide) w hx)
  clear hx
  go_enter Tryz.func16, Tryz.ntmps16
  go_wp2_with (first
    | (go_at_call 17; ((with_reducible refine HA.out.mono ?_); rintro e w1 ⟨rfl, hb⟩; have HB := Lib.hid hb; clear hb))
    | (go_at_call 13; ((with_reducible refine (num_is _ _).mono ?_); rintro e wn ⟨rfl, rfl⟩)))
  go_ret
  exact ⟨rfl, HB.out⟩
end Go.Proofs.YtpnnchjmaggmpaaGreatDoor

namespace Go.Proofs.YtpnnchjmaggmpaaGreatDoor
open Go.RowKit

theorem NormR.none {s t : ByteArray} {e : Int} (h : NormR s t e) (he : ¬ e = 0) : t = ⟨#[]⟩ := by
  cases h <;> first | rfl | exact absurd rfl he
def FirstC (t : ByteArray) (h : 0 < t.size) (a : Int) : Prop := (t[0].toNat : Int) = a
theorem first_cases (t : ByteArray) (hk : kd t ≤ 3) : t = ⟨#[]⟩ ∨ ∃ (h : 0 < t.size) (a : Int), (t[0].toNat : Int) = a ∧ (a = 39 ∨ a = 61 ∨ a = 45 ∨ (48 ≤ a ∧ a ≤ 57 ∧ ¬ a = 39 ∧ ¬ a = 61 ∧ ¬ a = 45)) := by
  by_cases h0 : t.size = 0
  · left
    have := sb_nil t h0
    first | exact this | (rw [← str_sb t, this]; rfl)
  · refine .inr ⟨by omega, _, rfl, ?_⟩
    have h1 := kd_first t (by omega) _ rfl
    rw [h1] at hk
    generalize (t[0].toNat : Int) = a at hk
    by_cases c1 : a = 39
    · exact .inl c1
    rw [if_neg c1] at hk
    by_cases c2 : a = 61
    · exact .inr (.inl c2)
    rw [if_neg c2] at hk
    by_cases c3 : a = 45
    · exact .inr (.inr (.inl c3))
    by_cases c4 : isNum a = true
    · have := num_bd c4
      exact .inr (.inr (.inr ⟨by omega, by omega, c1, c2, c3⟩))
    · rw [if_neg (by rintro (h | h); exact c3 h; exact c4 h)] at hk
      omega
set_option maxRecDepth 100000 in
set_option maxHeartbeats 4000000 in
theorem stays_ok (s t : ByteArray) (hs : s.size ≤ 300) (h : NormR s t 0) (w : World) (hx : Cx w) :
    Calls Tryz.prog 5 #[.string s] w fun e w' => e = .returned (.bool true) ∧ Below w.heap.size w w' := by
  have ha := h.again rfl
  obtain ⟨h100, hk3⟩ := ha.first
  have HA := Lib.hid (norm_any s t 0 h (by omega) w hx)
  have HN := Lib.hid (fun (w1 : World) (hb : Below w.heap.size w w1) => norm_any t t 0 ha (by omega) w1 (hx.below hb))
  have HM := Lib.hid (fun (w1 : World) (hb : Below w.heap.size w w1) => mayc_any t ha w1 (hx.below hb))
  have HW := Lib.hid (fun (w1 : World) (hb : Below w.heap.size w w1) => awake9_any w1 (hx.below hb))
  have hi : ¬ (300 : Int) < (s.size : Int) := by omega
  have hc := first_cases t hk3
  clear h ha hx hk3 hs h100
  rcases hc with rfl | ⟨hp0, a, hat, hc⟩
  · go_enter Tryz.func5, Tryz.ntmps5
    go_wp2_with (first
      | (go_at_call 17; ((with_reducible refine HA.out.mono ?_); rintro e w1 ⟨rfl, hb⟩; have HB := Lib.hid hb; clear hb HA))
      | (go_at_call 17; ((with_reducible refine (HN.out _ HB.out).mono ?_); rintro e w2 ⟨rfl, hb⟩; have HB2 := Lib.hid (HB.out.trans (hb.mono HB.out.size)); clear hb))
      | (go_at_call 18; ((with_reducible refine (HM.out _ HB2.out).mono ?_); rintro e w3 ⟨rfl, hb⟩; have HB3 := Lib.hid (HB2.out.trans (hb.mono HB2.out.size)); clear hb))
      | (go_at_call 16; ((with_reducible refine (HW.out _ HB3.out).mono ?_); rintro e w4 ⟨rfl, hb⟩; have HB4 := Lib.hid (HB3.out.trans (hb.mono HB3.out.size)); clear hb))
      | (go_at_call 13; ((with_reducible refine (num_is _ _).mono ?_); rintro e wn ⟨rfl, rfl⟩)))
    go_ret
    exact ⟨rfl, HB4.out⟩
  · have hne : t.toList.isEmpty = false := by cases hq : t.toList with | nil => exact absurd hq (text_ne0 t (by omega)) | cons a l => rfl
    have hne2 := text_ne0 t (by omega)
    rcases hc with hc | hc | hc | ⟨d1, d2, d3, d4, d5⟩
    · have e1 : (a == 39) = true := beq_iff_eq.2 hc
      clear hc
      go_enter Tryz.func5, Tryz.ntmps5
      go_wp2_with (first
        | (go_at_call 17; ((with_reducible refine HA.out.mono ?_); rintro e w1 ⟨rfl, hb⟩; have HB := Lib.hid hb; clear hb HA))
        | (go_at_call 17; ((with_reducible refine (HN.out _ HB.out).mono ?_); rintro e w2 ⟨rfl, hb⟩; have HB2 := Lib.hid (HB.out.trans (hb.mono HB.out.size)); clear hb))
        | (go_at_call 18; ((with_reducible refine (HM.out _ HB2.out).mono ?_); rintro e w3 ⟨rfl, hb⟩; have HB3 := Lib.hid (HB2.out.trans (hb.mono HB2.out.size)); clear hb))
        | (go_at_call 16; ((with_reducible refine (HW.out _ HB3.out).mono ?_); rintro e w4 ⟨rfl, hb⟩; have HB4 := Lib.hid (HB3.out.trans (hb.mono HB3.out.size)); clear hb))
        | (go_at_call 13; ((with_reducible refine (num_is _ _).mono ?_); rintro e wn ⟨rfl, rfl⟩)))
      go_ret
      exact ⟨by rfl, HB4.out⟩
    · have e1 : (a == 39) = false := beq_eq_false_iff_ne.2 (by omega)
      have e2 : (a == 61) = true := beq_iff_eq.2 hc
      clear hc
      go_enter Tryz.func5, Tryz.ntmps5
      go_wp2_with (first
        | (go_at_call 17; ((with_reducible refine HA.out.mono ?_); rintro e w1 ⟨rfl, hb⟩; have HB := Lib.hid hb; clear hb HA))
        | (go_at_call 17; ((with_reducible refine (HN.out _ HB.out).mono ?_); rintro e w2 ⟨rfl, hb⟩; have HB2 := Lib.hid (HB.out.trans (hb.mono HB.out.size)); clear hb))
        | (go_at_call 18; ((with_reducible refine (HM.out _ HB2.out).mono ?_); rintro e w3 ⟨rfl, hb⟩; have HB3 := Lib.hid (HB2.out.trans (hb.mono HB2.out.size)); clear hb))
        | (go_at_call 16; ((with_reducible refine (HW.out _ HB3.out).mono ?_); rintro e w4 ⟨rfl, hb⟩; have HB4 := Lib.hid (HB3.out.trans (hb.mono HB3.out.size)); clear hb))
        | (go_at_call 13; ((with_reducible refine (num_is _ _).mono ?_); rintro e wn ⟨rfl, rfl⟩)))
      go_ret
      exact ⟨by rfl, HB4.out⟩
    · have e1 : (a == 39) = false := beq_eq_false_iff_ne.2 (by omega)
      have e2 : (a == 61) = false := beq_eq_false_iff_ne.2 (by omega)
      have e3 : (a == 45) = true := beq_iff_eq.2 hc
      clear hc
      go_enter Tryz.func5, Tryz.ntmps5
      go_wp2_with (first
        | (go_at_call 17; ((with_reducible refine HA.out.mono ?_); rintro e w1 ⟨rfl, hb⟩; have HB := Lib.hid hb; clear hb HA))
        | (go_at_call 17; ((with_reducible refine (HN.out _ HB.out).mono ?_); rintro e w2 ⟨rfl, hb⟩; have HB2 := Lib.hid (HB.out.trans (hb.mono HB.out.size)); clear hb))
        | (go_at_call 18; ((with_reducible refine (HM.out _ HB2.out).mono ?_); rintro e w3 ⟨rfl, hb⟩; have HB3 := Lib.hid (HB2.out.trans (hb.mono HB2.out.size)); clear hb))
        | (go_at_call 16; ((with_reducible refine (HW.out _ HB3.out).mono ?_); rintro e w4 ⟨rfl, hb⟩; have HB4 := Lib.hid (HB3.out.trans (hb.mono HB3.out.size)); clear hb))
        | (go_at_call 13; ((with_reducible refine (num_is _ _).mono ?_); rintro e wn ⟨rfl, rfl⟩)))
      go_ret
      exact ⟨by rfl, HB4.out⟩
    · have e1 : (a == 39) = false := beq_eq_false_iff_ne.2 d3
      have e2 : (a == 61) = false := beq_eq_false_iff_ne.2 d4
      have e3 : (a == 45) = false := beq_eq_false_iff_ne.2 d5
      clear d3 d4 d5
      go_enter Tryz.func5, Tryz.ntmps5
      go_wp2_with (first
        | (go_at_call 17; ((with_reducible refine HA.out.mono ?_); rintro e w1 ⟨rfl, hb⟩; have HB := Lib.hid hb; clear hb HA))
        | (go_at_call 17; ((with_reducible refine (HN.out _ HB.out).mono ?_); rintro e w2 ⟨rfl, hb⟩; have HB2 := Lib.hid (HB.out.trans (hb.mono HB.out.size)); clear hb))
        | (go_at_call 18; ((with_reducible refine (HM.out _ HB2.out).mono ?_); rintro e w3 ⟨rfl, hb⟩; have HB3 := Lib.hid (HB2.out.trans (hb.mono HB2.out.size)); clear hb))
        | (go_at_call 16; ((with_reducible refine (HW.out _ HB3.out).mono ?_); rintro e w4 ⟨rfl, hb⟩; have HB4 := Lib.hid (HB3.out.trans (hb.mono HB3.out.size)); clear hb))
        | (go_at_call 13; ((with_reducible refine (num_is _ _).mono ?_); rintro e wn ⟨rfl, rfl⟩)))
      go_ret
      exact ⟨by rfl, HB4.out⟩
set_option maxRecDepth 100000 in
set_option maxHeartbeats 1000000 in
theorem cellStays_any (s : ByteArray) (w : World) (hx : Cx w) : Calls Tryz.prog 5 #[.string s] w fun e w' => e = .returned (.bool true) ∧ Below w.heap.size w w' := by
  by_cases h3 : s.size ≤ 300
  · obtain ⟨t, e, h⟩ := NormR.all s
    by_cases he : e = 0
    · subst he; exact stays_ok s t h3 h w hx
    · obtain rfl := h.none he
      have he2 : (e == 0) = false := beq_eq_false_iff_ne.2 he
      have HA := Lib.hid (norm_any s _ e h (by omega) w hx)
      have HW := Lib.hid (fun (w1 : World) (hb : Below w.heap.size w w1) => awake9_any w1 (hx.below hb))
      have hi : ¬ (300 : Int) < (s.size : Int) := by omega
      clear h hx h3 he
      go_enter Tryz.func5, Tryz.ntmps5
      go_wp2_with (first
        | (go_at_call 17; ((with_reducible refine HA.out.mono ?_); rintro e w1 ⟨rfl, hb⟩; have HB := Lib.hid hb; clear hb))
        | (go_at_call 16; ((with_reducible refine (HW.out _ HB.out).mono ?_); rintro e w4 ⟨rfl, hb⟩; have HB4 := Lib.hid (HB.out.trans (hb.mono HB.out.size)); clear hb))
        | (go_at_call 13; ((with_reducible refine (num_is _ _).mono ?_); rintro e wn ⟨rfl, rfl⟩)))
      go_ret
      exact ⟨rfl, HB4.out⟩
  · have hi : (300 : Int) < (s.size : Int) := by omega
    have HW := Lib.hid (awake9_any w hx)
    clear hx h3
    go_enter Tryz.func5, Tryz.ntmps5
    go_wp2_with (go_at_call 16; ((with_reducible refine HW.out.mono ?_); rintro e w2 ⟨rfl, h1⟩; have HB2 := Lib.hid h1; clear h1))
    go_ret
    exact ⟨rfl, HB2.out⟩
end Go.Proofs.YtpnnchjmaggmpaaGreatDoor

namespace Go.Proofs.YtpnnchjmaggmpaaGreatDoor
open Go.ChangeShapes Go.WideShapes Go.ChangeAt Go.RowKit

theorem trodAll_below {H : Type} {enc : TypeId × Value → H} {P : Program} (hl : laidOutB P = true) {W W' : World} (hb : Below W.heap.size W W') :
    ∀ (ts : List TypeId) (vs : List Value) (ds : List (DataW H)) (p : List MemPlace), (ts.all fun t => P.readableRec t && decide (t < P.types.size)) = true → (∀ x ∈ p, x.block < W.heap.size) →
      DataW.TrodAll enc P W 0 (fun _ => true) true ts vs ds p → DataW.TrodAll enc P W' 0 (fun b => decide (b < W.heap.size)) true ts vs ds p := by
  intro ts
  induction ts with
  | nil =>
    intro vs ds p _ _ h
    obtain ⟨rfl, rfl, rfl⟩ := trodAll_nil h
    exact trodAll_mk0
  | cons t ts ih =>
    intro vs ds p ht hlt h
    obtain ⟨v, vs', d, ds', p1, q1, rfl, rfl, rfl, h0, hr⟩ := trodAll_cons h
    rw [List.all_cons, Bool.and_eq_true, Bool.and_eq_true, decide_eq_true_eq] at ht
    exact trodAll_cons_mk (Below.trod hl ht.1.1 ht.1.2 h0 hb (fun x hx => hlt x (List.mem_append_left _ hx))) (ih vs' ds' q1 ht.2 (fun x hx => hlt x (List.mem_append_right _ hx)) hr)

theorem own : ownKnob Tryz.prog.godebug = none := by kernel_rfl
theorem laidOut : laidOutB Tryz.prog = true := by kernel_rfl
theorem law_post {H : Type} {enc : TypeId × Value → H} {f : Func} {s : ChangeSpec} {W W' : World} {args : Array Value} {ds gs : List (DataW H)} {before : List MemPlace} (hl : laidOutB Tryz.prog = true)
    (hparams : (f.params.toList.all fun t => Tryz.prog.readableRec t && decide (t < Tryz.prog.types.size)) = true) (hres : f.resultTypes = #[4])
    (hvars : s.vars = []) (hfn : s.fn H (ds ++ gs) = { results := [.lit (.bool true)], args := ds })
    (hW : DataW.Whole enc Tryz.prog f.params.toList s.vars false W args.toList ds gs before) (hlt : ∀ x ∈ before, x.block < W.heap.size) (hb : Below W.heap.size W W') :
    s.post enc Tryz.prog f false true false false W args (.bool true) W' := by
  have hW0 := hW
  obtain ⟨p, q, hA, hV, rfl, _, _⟩ := hW
  refine ⟨ds, gs, p ++ q, [], p, [], hW0, ?_, ?_, ?_, hb.frame _, fun h => by cases h⟩
  · rw [hfn, hres]
    exact trodAll_cons_mk (shut_bool Tryz.underlying4 true) trodAll_mk0
  · rw [hfn]
    exact trodAll_below hl hb _ _ _ _ hparams (fun x hx => hlt x (List.mem_append_left _ hx)) hA
  · rw [hvars, hfn]; rfl
end Go.Proofs.YtpnnchjmaggmpaaGreatDoor

namespace Go.Proofs.YtpnnchjmaggmpaaGreatDoor
open Go.ChangeShapes Go.WideShapes Go.ChangeAt Go.RowKit

def textData {H : Type} (bs : List (List UInt8)) : DataW H := .agg (bs.map fun b => .lit (.string b))
theorem cells_of_texts {H : Type} {enc : TypeId × Value → H} {P : Program} {w : World} {base : Nat} {sp : Nat → Bool} {held : Bool} {fuel : Nat} {t e : TypeId} {n : Nat} {cs : List Value} {bs : List (List UInt8)} {p : List MemPlace}
    (ht : P.underlying t = some (.array n e)) (he : P.underlying e = some .string) (hce : P.cellsOf e = 1) (hct : P.cellsOf t = n)
    (h : DataW.trod enc P w base sp held fuel t cs = some (textData bs, p)) : cs = bs.map fun b => Value.string ⟨b.toArray⟩ := by
  cases fuel with
  | zero => simp [DataW.trod] at h
  | succ fuel =>
    simp only [DataW.trod, ht, hce, hct, Nat.mul_one] at h
    split at h
    · rename_i hl
      obtain ⟨xs, hm, hx⟩ := Option.map_eq_some_iff.1 h
      have hxs : xs.map (·.1) = bs.map fun b => (DataW.lit (.string b) : DataW H) := by
        have := congrArg Prod.fst hx
        simpa [textData] using this
      have hxl : xs.length = n := by simpa using Lib.mapM_length hm
      have hzl : bs.length = n := by
        have := congrArg List.length hxs
        simp at this
        omega
      apply List.ext_getElem?
      intro i
      by_cases hi : i < n
      · obtain ⟨b, hb, hf⟩ := Lib.mapM_at hm i i (by simp [hi])
        obtain ⟨z, hc, rfl, _⟩ := DataW.trod_string he hf
        have h1 : cs[i]? = some (.string z) := by
          have := congrArg (·[0]?) hc
          simpa [List.getElem?_take, List.getElem?_drop] using this
        have h2 : (xs.map (·.1))[i]? = some (DataW.lit (.string z.data.toList) : DataW H) := by simp [hb]
        rw [hxs] at h2
        simp only [List.getElem?_map, Option.map_eq_some_iff, DataW.lit.injEq, Lit.string.injEq] at h2
        obtain ⟨z', hz', e⟩ := h2
        simp only [h1, List.getElem?_map, hz', Option.map_some, e]
      · rw [List.getElem?_eq_none (by omega), List.getElem?_eq_none (by simp; omega)]
    · cases h
def laidList : List (String × DataW Unit) := [("math/bits.deBruijn32tab", Rows.laid_math_bits_deBruijn32tab), ("math/bits.deBruijn64tab", Rows.laid_math_bits_deBruijn64tab), ("internal/strconv.uint64pow10", Rows.laid_internal_strconv_uint64pow10), ("unicode/utf8.acceptRanges", Rows.laid_unicode_utf8_acceptRanges), ("strconv.ErrRange", Rows.laid_strconv_ErrRange), ("strconv.ErrSyntax", Rows.laid_strconv_ErrSyntax), ("chequer/lex.signs", Rows.laid_chequer_lex_signs), ("chequer/parse.operators", Rows.laid_chequer_parse_operators), ("chequer/show.signs", Rows.laid_chequer_show_signs), ("unicode/utf8.first", Rows.laid_unicode_utf8_first)]
theorem gErr : Tryz.prog.globalNamed "strconv.ErrRange" = some 4 := by kernel_rfl
theorem gErr_t : (Tryz.prog.globals[(4 : Nat)]?).map (·.type) = some 88 := by kernel_rfl
theorem gSig : Tryz.prog.globalNamed "chequer/lex.signs" = some 1 := by kernel_rfl
theorem gSig_t : (Tryz.prog.globals[(1 : Nat)]?).map (·.type) = some 145 := by kernel_rfl
theorem cellsErr : Tryz.prog.cellsOf 172 = 1 := by kernel_rfl
theorem cellsStr : Tryz.prog.cellsOf 9 = 1 := by kernel_rfl
theorem cellsSig : Tryz.prog.cellsOf 145 = 15 := by kernel_rfl
theorem star : "*" ++ "errors.errorString" = "*errors.errorString" := by decide
theorem rowErr (u : TypeId) (h : Tryz.prog.typeName? 3 u = some "*errors.errorString") : u = 170 :=
  typeName_ptr_named (nm := "errors.errorString") (by rw [star]; kernel_rfl) (by kernel_rfl) (by decide) u (by rw [star]; exact h)
def sigBytes : List (List UInt8) := [[60, 62], [60, 61], [62, 61], [43], [45], [42], [47], [38], [61], [60], [62], [40], [41], [44], [58]]
theorem sigData : (Rows.laid_chequer_lex_signs : DataW Unit) = textData sigBytes := rfl
theorem sigCells : (sigBytes.map fun b => Value.string ⟨b.toArray⟩) = sigA.toList := rfl
theorem laidMet_tail6 {P : Program} {x : String × DataW Unit} {l : List (String × DataW Unit)} {w : World} (h : laidMet P (x :: l) w) : laidMet P l w := by
  obtain ⟨ps, h1, h2, h3⟩ := h
  obtain ⟨n, d⟩ := x
  obtain ⟨g, t, cs, fuel, p, q, _, _, _, _, hq, rfl⟩ := h1
  exact ⟨q, hq, (List.nodup_append.1 h2).2.1, fun b off hm => h3 b off (List.mem_append_right _ hm)⟩
theorem gTab_t : (Tryz.prog.globals[5]?).map (·.type) = some 156 := by kernel_rfl
theorem cTab20 : Tryz.prog.cellsOf 156 = 20 := by kernel_rfl
theorem cTab1 : Tryz.prog.cellsOf 82 = 1 := by kernel_rfl
theorem tablesTab {W : World} (h : laidMetH Tryz.prog laidList W) : Tab W := by
  have h1 : laidMet Tryz.prog laidList W := h
  exact Lib.tabIs_of_head gTab gTab_t Tryz.underlying156 Tryz.underlying82 cTab1 cTab20 (laidMet_tail6 (laidMet_tail6 h1))
theorem gSho : Tryz.prog.globalNamed "chequer/show.signs" = some 0 := by kernel_rfl
theorem gSho_t : (Tryz.prog.globals[(0 : Nat)]?).map (·.type) = some 130 := by kernel_rfl
theorem cellsSho : Tryz.prog.cellsOf 130 = 20 := by kernel_rfl
def shoBytes : List (List UInt8) := [[], [], [], [], [], [], [], [], [], [61], [60, 62], [60], [60, 61], [62], [62, 61], [38], [43], [45], [42], [47]]
theorem shoData : (Rows.laid_chequer_show_signs : DataW Unit) = textData shoBytes := rfl
theorem shoCells : (shoBytes.map fun b => Value.string ⟨b.toArray⟩) = shA.toList := rfl
theorem tablesSho {W : World} (h : laidMetH Tryz.prog laidList W) : ShV W := by
  have h1 : laidMet Tryz.prog laidList W := h
  have h6 := laidMet_tail6 (laidMet_tail6 (laidMet_tail6 (laidMet_tail6 (laidMet_tail6 (laidMet_tail6 (laidMet_tail6 (laidMet_tail6 (h1))))))))
  obtain ⟨ps, ⟨g', t', cs, fuel, p, q, hg', ht', hvar, hd, _, _⟩, _⟩ := h6
  obtain rfl := Option.some.inj (gSho.symm.trans hg')
  obtain rfl := Option.some.inj (gSho_t.symm.trans ht')
  rw [shoData] at hd
  have hc := cells_of_texts Tryz.underlying130 Tryz.underlying9 cellsStr cellsSho hd
  rw [shoCells] at hc
  unfold World.var? at hvar
  rw [gSho] at hvar
  simp only [Option.bind_some] at hvar
  split at hvar
  · rename_i cs' ty fr hh
    injection hvar with hvar
    subst hvar
    have : cs' = shA := Array.toList_inj.1 hc
    exact ⟨ty, fr, by rw [← this]; exact hh⟩
  · cases hvar
theorem tables {W : World} (h : laidMetH Tryz.prog laidList W) : Vars W := by
  have h1 : laidMet Tryz.prog laidList W := h
  have h4 := laidMet_tail6 (laidMet_tail6 (laidMet_tail6 (laidMet_tail6 (h1))))
  constructor
  · obtain ⟨a0, s0, hv0, -, -, -⟩ := laid_sentinel h4 gErr gErr_t Tryz.underlying88 rowErr Tryz.underlying170 Tryz.underlying172 rfl rfl Tryz.underlying9 cellsErr cellsStr
    exact ⟨_, by have h0 := World.var?_cell gErr hv0 0; simpa using h0, Or.inr ⟨_, _, rfl⟩⟩
  · have h6 := laidMet_tail6 (laidMet_tail6 h4)
    obtain ⟨ps, ⟨g', t', cs, fuel, p, q, hg', ht', hvar, hd, _, _⟩, _⟩ := h6
    obtain rfl := Option.some.inj (gSig.symm.trans hg')
    obtain rfl := Option.some.inj (gSig_t.symm.trans ht')
    rw [sigData] at hd
    have hc := cells_of_texts Tryz.underlying145 Tryz.underlying9 cellsStr cellsSig hd
    rw [sigCells] at hc
    unfold World.var? at hvar
    rw [gSig] at hvar
    simp only [Option.bind_some] at hvar
    split at hvar
    · rename_i cs' ty fr hh
      injection hvar with hvar
      subst hvar
      have : cs' = sigA := Array.toList_inj.1 hc
      exact ⟨ty, fr, by rw [← this]; exact hh⟩
    · cases hvar
def opC (q : ByteArray × Nat × Int) : List Value := [.string q.1, .int .i64 (q.2.1 : Int), .int .i64 q.2.2]
theorem cells3 : ∀ (L : List (ByteArray × Nat × Int)) (cs : List Value), cs.length = L.length * 3 → (∀ (i : Nat) q, L[i]? = some q → (cs.drop (i * 3)).take 3 = opC q) → cs = L.flatMap opC
  | [], cs, h, _ => by simpa using h
  | q :: L, cs, h, hi => by
    have h0 := hi 0 q rfl
    rw [Nat.zero_mul, List.drop_zero] at h0
    have h1 := cells3 L (cs.drop 3) (by rw [List.length_drop, h, List.length_cons]; omega) (fun i q' hq => by
      have := hi (i + 1) q' (by simpa using hq)
      rw [Nat.succ_mul] at this
      rw [List.drop_drop, Nat.add_comm 3]; exact this)
    rw [List.flatMap_cons, ← h0, ← h1, List.take_append_drop]
def opData {H : Type} (q : ByteArray × Nat × Int) : DataW H := .agg [.lit (.string q.1.data.toList), .lit (.int .i64 (q.2.1 : Int)), .lit (.int .i64 q.2.2)]
theorem opsData : (Rows.laid_chequer_parse_operators : DataW Unit) = .agg (opL3.map opData) := rfl
theorem gOps : Tryz.prog.globalNamed "chequer/parse.operators" = some 2 := by kernel_rfl
theorem gOps_t : (Tryz.prog.globals[(2 : Nat)]?).map (·.type) = some 148 := by kernel_rfl
theorem cellsOps : Tryz.prog.cellsOf 148 = 33 := by kernel_rfl
theorem cellsOp : Tryz.prog.cellsOf 147 = 3 := by kernel_rfl
set_option maxRecDepth 100000 in
theorem op_of_trod {enc : TypeId × Value → Unit} {w : World} {base : Nat} {sp : Nat → Bool} {held : Bool} {fuel : Nat} {cs : List Value} {q : ByteArray × Nat × Int} {p : List MemPlace}
    (h : DataW.trod enc Tryz.prog w base sp held fuel 147 cs = some (opData q, p)) : cs = opC q := by
  obtain ⟨y0, y1, y2, n, hx, hl, h0, h1, h2⟩ := Go.Deep.trod_struct3 Tryz.underlying147 h
  injection hx with hx _
  unfold opData at hx
  injection hx with hx
  injection hx with e0 hx; injection hx with e1 hx; injection hx with e2 _
  rw [cellsOp] at hl
  match cs, hl with
  | [c0, c1, c2], _ =>
    obtain ⟨s, g0, g0', _⟩ := DataW.trod_string Tryz.underlying9 h0
    obtain ⟨n1, g1, g1', _⟩ := DataW.trod_int Tryz.underlying3 h1
    obtain ⟨n2, g2, g2', _⟩ := DataW.trod_int Tryz.underlying3 h2
    have k0 : [c0] = [Value.string s] := g0
    have k1 : [c1] = [Value.int .i64 n1] := g1
    have k2 : [c2] = [Value.int .i64 n2] := g2
    injection k0 with k0 _; injection k1 with k1 _; injection k2 with k2 _
    rw [g0'] at e0; rw [g1'] at e1; rw [g2'] at e2
    injection e0 with e0; injection e0 with e0
    injection e1 with e1; injection e1 with _ e1
    injection e2 with e2; injection e2 with _ e2
    have es : s = q.1 := by
      cases s; cases hq : q.1
      rw [hq] at e0
      simp only at e0
      rw [Array.toList_inj.1 e0.symm]
    rw [k0, k1, k2, es, ← e1, ← e2]; rfl
set_option maxRecDepth 100000 in
theorem cells_of_ops {enc : TypeId × Value → Unit} {w : World} {base : Nat} {sp : Nat → Bool} {held : Bool} {fuel : Nat} {cs : List Value} {p : List MemPlace}
    (h : DataW.trod enc Tryz.prog w base sp held fuel 148 cs = some (.agg (opL3.map opData), p)) : cs = opL3.flatMap opC := by
  obtain ⟨xs, m, _, hx, hl, hxl, hi⟩ := DataW.trod_array Tryz.underlying148 h
  injection hx with hx _
  injection hx with hx
  rw [cellsOps] at hl
  refine cells3 opL3 cs (by rw [hl]; rfl) fun i q hq => ?_
  have hlt := (List.getElem?_eq_some_iff.1 hq).1
  have hlt : i < 11 := hlt
  have h1 := hi i hlt
  rw [cellsOp] at h1
  obtain ⟨y, hy⟩ : ∃ y, xs[i]? = some y := ⟨_, List.getElem?_eq_getElem (by omega)⟩
  rw [hy] at h1
  have h2 : (xs.map (·.1))[i]? = some y.1 := by rw [List.getElem?_map, hy]; rfl
  rw [← hx, List.getElem?_map, hq] at h2
  have h2 : opData q = y.1 := Option.some.inj h2
  obtain ⟨y1, y2⟩ := y
  have h2 : opData q = y1 := h2
  subst h2
  exact op_of_trod h1
theorem opA_list : opA.toList = opL3.flatMap opC := rfl
theorem tablesOp {W : World} (h : laidMetH Tryz.prog laidList W) : OpV W := by
  have h1 : laidMet Tryz.prog laidList W := h
  have h4 := laidMet_tail6 (laidMet_tail6 (laidMet_tail6 (laidMet_tail6 (laidMet_tail6 (laidMet_tail6 (laidMet_tail6 (h1)))))))
  obtain ⟨ps, ⟨g', t', cs, fuel, p, q, hg', ht', hvar, hd, _, _⟩, _⟩ := h4
  obtain rfl := Option.some.inj (gOps.symm.trans hg')
  obtain rfl := Option.some.inj (gOps_t.symm.trans ht')
  rw [opsData] at hd
  have hc := cells_of_ops hd
  rw [← opA_list] at hc
  unfold World.var? at hvar
  rw [gOps] at hvar
  simp only [Option.bind_some] at hvar
  split at hvar
  · rename_i cs' ty fr hh
    injection hvar with hvar
    subst hvar
    have : cs' = opA := Array.toList_inj.1 hc
    exact ⟨ty, fr, by rw [← this]; exact hh⟩
  · cases hvar
theorem maxOf {W : World} (h : W.ShapedOpen Tryz.prog) : MaxV W :=
  cell_of_shapedOpen_int (g := 8) (t := 3) (zero := #[.int .i64 0]) h (of_decide_eq_true (by kernel_rfl)) (by kernel_rfl) rfl (by kernel_rfl) (by kernel_rfl) Tryz.underlying3
theorem tablesSx {W : World} (h : laidMetH Tryz.prog laidList W) (hs : W.ShapedOpen Tryz.prog) : Sx W := ⟨tables h, tablesOp h, tablesTab h, maxOf hs, tablesSho h⟩
noncomputable def laidWorld (os : Os) : World := World.laidAll Tryz.prog os laidList
theorem laid_met0 (os : Os) (args : Array Value) : laidMet Tryz.prog laidList ((laidWorld os).forCall (fun _ _ => 0) ⟨#[], args, []⟩).memory := laidMet_laidAll args (by kernel_rfl) (by kernel_rfl)
end Go.Proofs.YtpnnchjmaggmpaaGreatDoor

namespace Go.Proofs.YtpnnchjmaggmpaaGreatDoor
open Go.ChangeShapes Go.WideShapes Go.ChangeAt Go.RowKit

theorem gSyn : Tryz.prog.globalNamed "strconv.ErrSyntax" = some 3 := by kernel_rfl
theorem gSyn_t : (Tryz.prog.globals[(3 : Nat)]?).map (·.type) = some 88 := by kernel_rfl
theorem tablesSyn {W : World} (h : laidMetH Tryz.prog laidList W) : ErrS W := by
  have h1 : laidMet Tryz.prog laidList W := h
  have h5 := laidMet_tail6 (laidMet_tail6 (laidMet_tail6 (laidMet_tail6 (laidMet_tail6 (h1)))))
  obtain ⟨a0, s0, hv0, -, -, -⟩ := laid_sentinel h5 gSyn gSyn_t Tryz.underlying88 rowErr Tryz.underlying170 Tryz.underlying172 rfl rfl Tryz.underlying9 cellsErr cellsStr
  exact ⟨_, by have h0 := World.var?_cell gSyn hv0 0; simpa using h0, Or.inr ⟨_, _, rfl⟩⟩
theorem tablesCx {W : World} (h : laidMetH Tryz.prog laidList W) (hs : W.ShapedOpen Tryz.prog) : Cx W := ⟨tablesSx h hs, tablesSyn h⟩
end Go.Proofs.YtpnnchjmaggmpaaGreatDoor

namespace Go.Proofs.YtpnnchjmaggmpaaGreatDoor
open Go.RowKit

theorem run_cval (k N : Int) (t : ByteArray) (w : World) : Sem.run Tryz.prog (Instr.field 39 (.agg #[.int .i64 k, .int .i64 N, .string t]) 1) w = .ok (.int .i64 N) w := by
  simp [Instr.field, run_underlying Tryz.underlying39, part, isAgg, run_underlying Tryz.underlying3, asAgg, go_sem]
theorem numZ_size (z : Nat) (n : Int) (h0 : -9223372036854775808 ≤ n) (h1 : n ≤ 9223372036854775807) (hz : z < 20) : (strOfNums (numZ z n)).size ≤ 40 := by
  rw [strOfNums_size]
  have := digL_len 18 n.natAbs (by omega)
  unfold numZ
  split
  · rw [List.length_cons, List.length_append, List.length_replicate]; omega
  · rw [List.length_append, List.length_replicate]; omega
theorem norm_num (z : Nat) (n : Int) (h0 : -9223372036854775808 ≤ n) (h1 : n ≤ 9223372036854775807) (hz : z < 20) : NormR (strOfNums (numZ z n)) (strOfNums (decL n)) 0 := by
  have := numZ_size z n h0 h1 hz
  exact .num (by omega) (kd_numZ z n) n (atoi_numZ z n h0 h1)
theorem norm_big : NormR ⟨#[57, 50, 50, 51, 51, 55, 50, 48, 51, 54, 56, 53, 52, 55, 55, 53, 56, 48, 56]⟩ ⟨#[39, 57, 50, 50, 51, 51, 55, 50, 48, 51, 54, 56, 53, 52, 55, 55, 53, 56, 48, 56]⟩ 0 :=
  .text (by decide) (.inr ⟨by decide, by decide +kernel⟩) _ (by decide +kernel)
theorem sub_digits (n : Int) (hn : n < 0) : (strOfNums (decL n)).extract 1 (strOfNums (decL n)).size = strOfNums (digL n.natAbs) := by
  have e : decL n = [45] ++ digL n.natAbs := by unfold decL; rw [if_pos hn]; rfl
  rw [e, ← str_append]
  exact mk_rest (strOfNums [45]) (strOfNums (digL n.natAbs)) _ rfl rfl
set_option maxRecDepth 100000 in
set_option maxHeartbeats 4000000 in
theorem cellNumbers_any (n z : Int) (h0 : -9223372036854775808 ≤ n) (h1 : n ≤ 9223372036854775807) (z0 : 0 ≤ z) (z1 : z ≤ 255) (w : World) (hx : Cx w) :
    Calls Tryz.prog 6 #[.int .i64 n, .int .u8 z] w fun e w' => e = .returned (.bool true) ∧ Below w.heap.size w w' := by
  obtain ⟨k, hk⟩ : ∃ k : Nat, z % 20 = (k : Int) := ⟨(z % 20).toNat, by omega⟩
  have hk20 : k < 20 := by omega
  have hk2 : z.tmod 20 = (k : Int) := by rw [Int.tmod_eq_emod_of_nonneg z0]; exact hk
  obtain ⟨d, hd⟩ : ∃ d, strOfNums (decL n) = d := ⟨_, rfl⟩
  obtain ⟨g, hg⟩ : ∃ g, digL n.natAbs = g := ⟨_, rfl⟩
  have hgl : g.length ≤ 19 := by rw [← hg]; exact digL_len 18 n.natAbs (by omega)
  have hds : d.size ≤ 20 := by rw [← hd]; exact decL_size n h0 h1
  have hdp : 1 ≤ d.size := by
    rw [← hd, strOfNums_size]; unfold decL; have := digL_ne n.natAbs
    split
    · simp
    · exact List.length_pos_iff.2 this
  have HD := Lib.hid (show Calls Tryz.prog 19 #[.int .i64 n] w fun e w' => e = .returned (.string d) ∧ Below w.heap.size w w' from hd ▸ refDigits_any n h0 h1 w)
  have hnn : NormR (strOfNums (numZ k n)) d 0 := hd ▸ norm_num k n h0 h1 hk20
  have hzs := numZ_size k n h0 h1 hk20
  have HN := Lib.hid (fun (w1 : World) (hb : Below w.heap.size w w1) => norm_any _ _ 0 hnn (by omega) w1 (hx.below hb))
  have HP := Lib.hid (fun (w1 : World) (hb : Below w.heap.size w w1) => plain_num d (by omega) n (by rw [← hd]; exact kd_numZ 0 n) (by rw [← hd]; exact atoi_numZ 0 n h0 h1) hd w1 (hx.below hb))
  have HB2 := Lib.hid (fun (w1 : World) (hb : Below w.heap.size w w1) => norm_any _ _ 0 norm_big (by decide) w1 (hx.below hb))
  have HW := Lib.hid (fun (w1 : World) (hb : Below w.heap.size w w1) => awake9_any w1 (hx.below hb))
  have hcv := run_cval
  have hi1 : (1 : Int) ≤ (d.size : Int) := by omega
  by_cases hn : n < 0
  · have hex : d.extract 1 d.size = strOfNums g := by rw [← hd, ← hg]; exact sub_digits n hn
    have hze : strOfNums [45] ++ strOfNums (List.replicate k 48 ++ g) = strOfNums (numZ k n) := by
      rw [str_append]; unfold numZ; rw [if_pos hn, hg]; rfl
    obtain ⟨s, hs⟩ : ∃ s, strOfNums (numZ k n) = s := ⟨_, rfl⟩
    rw [hs] at hze HN
    have HZE := Lib.hid hze
    clear hze hs hnn hzs hd hg hds hdp hx
    go_enter Tryz.func6, Tryz.ntmps6
    go_wp2_with (go_at_call 19; ((with_reducible refine HD.out.mono ?_); rintro e w1 ⟨rfl, hb⟩; have HB := Lib.hid hb; clear hb))
    go_loopw [7, 8] (fun sv iv wr => ∃ i : Nat, i ≤ k ∧ sv = .string (strOfNums (List.replicate i 48 ++ g)) ∧ iv = .int .i64 (i : Int) ∧ wr = w1) (fun _ iv _ => k - (intOf iv).toNat)
    case atStart => exact ⟨0, by omega, rfl, rfl, rfl⟩
    case round =>
      obtain ⟨i, hi, rfl, rfl, rfl⟩ := hrel
      by_cases hlt : i < k
      · have hik : (i : Int) < (k : Int) := by omega
        have hap : (⟨#[48]⟩ : ByteArray) ++ strOfNums (List.replicate i 48 ++ g) = strOfNums (List.replicate (i + 1) 48 ++ g) := by
          rw [show (⟨#[48]⟩ : ByteArray) = strOfNums [48] from rfl, str_append]; rfl
        have hsz : (⟨#[48]⟩ : ByteArray).size + (strOfNums (List.replicate i 48 ++ g)).size ≤ 9223372036854775807 := by
          rw [strOfNums_size, List.length_append, List.length_replicate]
          have : (⟨#[48]⟩ : ByteArray).size = 1 := rfl
          omega
        go_wp2
        go_roundw
        case rel => exact ⟨i + 1, by omega, by first | rfl | exact val_str hap, by go_num, by first | rfl | trivial⟩
        case measure => simp [intOf]; omega
      · obtain rfl : i = k := by omega
        have hik : ¬ (i : Int) < (i : Int) := by omega
        have hsz : (⟨#[45]⟩ : ByteArray).size + (strOfNums (List.replicate i 48 ++ g)).size ≤ 9223372036854775807 := by
          rw [strOfNums_size, List.length_append, List.length_replicate]
          have : (⟨#[45]⟩ : ByteArray).size = 1 := rfl
          omega
        have hze : (⟨#[45]⟩ : ByteArray) ++ strOfNums (List.replicate i 48 ++ g) = s := HZE.out
        go_upto_region 14 with (first
          | (go_at_call 17; ((with_reducible refine (HN.out _ HB.out).mono ?_); rintro e w2 ⟨rfl, hb⟩; have HC := Lib.hid (HB.out.trans (hb.mono HB.out.size)); clear hb))
          | (go_at_call 20; ((with_reducible refine (HP.out _ HC.out).mono ?_); rintro e w3 ⟨rfl, hb⟩; have HE := Lib.hid (HC.out.trans (hb.mono HC.out.size)); clear hb)))
        have HV := Lib.hid (show VlAt (w3.alloc (.cells #[.int .i64 1, .int .i64 n, .string ⟨#[]⟩] 39)) w3.heap.size (Vl.num n) from VlAt.new w3 (Vl.num n))
        have HE2 := Lib.hid (show Below w.heap.size w (w3.alloc (.cells #[.int .i64 1, .int .i64 n, .string ⟨#[]⟩] 39)) from HE.out.trans ((below_vl w3 (Vl.num n)).mono HE.out.size))
        generalize w3.heap.size = q at HV ⊢
        generalize w3.alloc (.cells #[.int .i64 1, .int .i64 n, .string ⟨#[]⟩] 39) = w7 at HV HE2 ⊢
        go_wp2_with (first
          | (go_at_call 17; ((with_reducible refine (HB2.out _ HE2.out).mono ?_); rintro e w4 ⟨rfl, hb⟩; have HF := Lib.hid (HE2.out.trans (hb.mono HE2.out.size)); obtain ⟨c0, c1, c2⟩ := (show w4.cell? ⟨q, 0, none⟩ = some (.int .i64 1) ∧ w4.cell? ⟨q, 1, none⟩ = some (.int .i64 n) ∧ w4.cell? ⟨q, 2, none⟩ = some (.string ⟨#[]⟩) from (HV.out.over hb).cells); clear hb))
          | (go_at_call 16; ((with_reducible refine (HW.out _ HF.out).mono ?_); rintro e w5 ⟨rfl, hb⟩; have HG := Lib.hid (HF.out.trans (hb.mono HF.out.size)); clear hb))
          | (go_at_call 13; ((with_reducible refine (num_is _ _).mono ?_); rintro e wn ⟨rfl, rfl⟩)))
        go_ret
        exact ⟨by rfl, HG.out⟩
  · have hze : strOfNums (List.replicate k 48 ++ g) = strOfNums (numZ k n) := by
      unfold numZ; rw [if_neg hn, hg]
    have hd2 : d = strOfNums (List.replicate 0 48 ++ g) := by
      rw [← hd, ← hg]; unfold decL; rw [if_neg hn]; rfl
    have HD2 := Lib.hid hd2
    rw [← hze] at HN
    clear hze hd2 hnn hzs hd hg hds hdp hx
    go_enter Tryz.func6, Tryz.ntmps6
    go_wp2_with (go_at_call 19; ((with_reducible refine HD.out.mono ?_); rintro e w1 ⟨rfl, hb⟩; have HB := Lib.hid hb; clear hb))
    go_loopw [7, 8] (fun sv iv wr => ∃ i : Nat, i ≤ k ∧ sv = .string (strOfNums (List.replicate i 48 ++ g)) ∧ iv = .int .i64 (i : Int) ∧ wr = w1) (fun _ iv _ => k - (intOf iv).toNat)
    case atStart => exact ⟨0, by omega, val_str HD2.out, rfl, rfl⟩
    case round =>
      obtain ⟨i, hi, rfl, rfl, rfl⟩ := hrel
      by_cases hlt : i < k
      · have hik : (i : Int) < (k : Int) := by omega
        have hap : (⟨#[48]⟩ : ByteArray) ++ strOfNums (List.replicate i 48 ++ g) = strOfNums (List.replicate (i + 1) 48 ++ g) := by
          rw [show (⟨#[48]⟩ : ByteArray) = strOfNums [48] from rfl, str_append]; rfl
        have hsz : (⟨#[48]⟩ : ByteArray).size + (strOfNums (List.replicate i 48 ++ g)).size ≤ 9223372036854775807 := by
          rw [strOfNums_size, List.length_append, List.length_replicate]
          have : (⟨#[48]⟩ : ByteArray).size = 1 := rfl
          omega
        go_wp2
        go_roundw
        case rel => exact ⟨i + 1, by omega, by first | rfl | exact val_str hap, by go_num, by first | rfl | trivial⟩
        case measure => simp [intOf]; omega
      · obtain rfl : i = k := by omega
        have hik : ¬ (i : Int) < (i : Int) := by omega
        go_upto_region 14 with (first
          | (go_at_call 17; ((with_reducible refine (HN.out _ HB.out).mono ?_); rintro e w2 ⟨rfl, hb⟩; have HC := Lib.hid (HB.out.trans (hb.mono HB.out.size)); clear hb))
          | (go_at_call 20; ((with_reducible refine (HP.out _ HC.out).mono ?_); rintro e w3 ⟨rfl, hb⟩; have HE := Lib.hid (HC.out.trans (hb.mono HC.out.size)); clear hb)))
        have HV := Lib.hid (show VlAt (w3.alloc (.cells #[.int .i64 1, .int .i64 n, .string ⟨#[]⟩] 39)) w3.heap.size (Vl.num n) from VlAt.new w3 (Vl.num n))
        have HE2 := Lib.hid (show Below w.heap.size w (w3.alloc (.cells #[.int .i64 1, .int .i64 n, .string ⟨#[]⟩] 39)) from HE.out.trans ((below_vl w3 (Vl.num n)).mono HE.out.size))
        generalize w3.heap.size = q at HV ⊢
        generalize w3.alloc (.cells #[.int .i64 1, .int .i64 n, .string ⟨#[]⟩] 39) = w7 at HV HE2 ⊢
        go_wp2_with (first
          | (go_at_call 17; ((with_reducible refine (HB2.out _ HE2.out).mono ?_); rintro e w4 ⟨rfl, hb⟩; have HF := Lib.hid (HE2.out.trans (hb.mono HE2.out.size)); obtain ⟨c0, c1, c2⟩ := (show w4.cell? ⟨q, 0, none⟩ = some (.int .i64 1) ∧ w4.cell? ⟨q, 1, none⟩ = some (.int .i64 n) ∧ w4.cell? ⟨q, 2, none⟩ = some (.string ⟨#[]⟩) from (HV.out.over hb).cells); clear hb))
          | (go_at_call 16; ((with_reducible refine (HW.out _ HF.out).mono ?_); rintro e w5 ⟨rfl, hb⟩; have HG := Lib.hid (HF.out.trans (hb.mono HF.out.size)); clear hb))
          | (go_at_call 13; ((with_reducible refine (num_is _ _).mono ?_); rintro e wn ⟨rfl, rfl⟩)))
        go_ret
        exact ⟨by rfl, HG.out⟩
end Go.Proofs.YtpnnchjmaggmpaaGreatDoor

namespace Go.Proofs.YtpnnchjmaggmpaaGreatDoor
open Go.RowKit

theorem run_cval0 (k N : Int) (t : ByteArray) (w : World) : Sem.run Tryz.prog (Instr.field 39 (.agg #[.int .i64 k, .int .i64 N, .string t]) 0) w = .ok (.int .i64 k) w := by
  simp [Instr.field, run_underlying Tryz.underlying39, part, isAgg, run_underlying Tryz.underlying3, asAgg, go_sem]
theorem run_cval2 (k N : Int) (t : ByteArray) (w : World) : Sem.run Tryz.prog (Instr.field 39 (.agg #[.int .i64 k, .int .i64 N, .string t]) 2) w = .ok (.string t) w := by
  simp [Instr.field, run_underlying Tryz.underlying39, part, isAgg, run_underlying Tryz.underlying9, asAgg, go_sem]
def mkX : ByteArray := ⟨#[120]⟩
theorem kd_x (s : ByteArray) : kd (mkX ++ s) = 4 := by unfold kd; rw [mk_sb 120 mkX s (by decide)]; rfl
set_option maxRecDepth 100000 in
set_option maxHeartbeats 4000000 in
theorem cellTexts_any (s : ByteArray) (w : World) (hx : Cx w) : Calls Tryz.prog 7 #[.string s] w fun e w' => e = .returned (.bool true) ∧ Below w.heap.size w w' := by
  by_cases h99 : s.size ≤ 99
  · have hi : ¬ (99 : Int) < (s.size : Int) := by omega
    have hz1 : (⟨#[39]⟩ : ByteArray).size + s.size ≤ 9223372036854775807 := by have : (⟨#[39]⟩ : ByteArray).size = 1 := rfl; omega
    have hz2 : (⟨#[120]⟩ : ByteArray).size + s.size ≤ 9223372036854775807 := by have : (⟨#[120]⟩ : ByteArray).size = 1 := rfl; omega
    obtain ⟨t, ht⟩ : ∃ t, (⟨#[39]⟩ : ByteArray) ++ s = t := ⟨_, rfl⟩
    obtain ⟨x, hx1⟩ : ∃ x, (⟨#[120]⟩ : ByteArray) ++ s = x := ⟨_, rfl⟩
    have hts : t.size = s.size + 1 := by rw [← ht, ByteArray.size_append, Nat.add_comm]; rfl
    have hxs : x.size = s.size + 1 := by rw [← hx1, ByteArray.size_append, Nat.add_comm]; rfl
    have hkt : kd t = 1 := by rw [← ht]; exact kd_text s
    have hkx : kd x = 4 := by rw [← hx1]; exact kd_x s
    have HA := Lib.hid (norm_any t t 0 (.stays (by omega) (.inr hkt)) (by omega) w hx)
    have HP := Lib.hid (fun (w1 : World) => plain_text s t ht (by omega) w1)
    have HW := Lib.hid (fun (w1 : World) (hb : Below w.heap.size w w1) => awake9_any w1 (hx.below hb))
    have hf2 := run_cval2
    have hf0 := run_cval0
    by_cases h98 : s.size ≤ 98
    · have hi98 : ¬ (98 : Int) < (s.size : Int) := by omega
      obtain ⟨y, hy⟩ : ∃ y, mkT ++ x = y := ⟨_, rfl⟩
      have HN := Lib.hid (fun (w1 : World) (hb : Below w.heap.size w w1) => norm_any x y 0 (.text (by omega) (.inl hkx) y hy) (by omega) w1 (hx.below hb))
      have HP2 := Lib.hid (fun (w1 : World) => plain_text x y hy (by omega) w1)
      clear hts hxs hkt hkx hy hx h99 h98
      go_enter Tryz.func7, Tryz.ntmps7
      go_upto_region 5 with (first
        | (go_at_call 17; ((with_reducible refine HA.out.mono ?_); rintro e w1 ⟨rfl, hb⟩; have HB := Lib.hid hb; clear hb HA))
        | (go_at_call 20; ((with_reducible refine (HP.out _).mono ?_); rintro e w2 ⟨rfl, hb⟩; have HC := Lib.hid (HB.out.trans (hb.mono HB.out.size)); clear hb)))
      have HV := Lib.hid (show VlAt (w2.alloc (.cells #[.int .i64 2, .int .i64 0, .string s] 39)) w2.heap.size (Vl.text s) from VlAt.new w2 (Vl.text s))
      have HC2 := Lib.hid (show Below w.heap.size w (w2.alloc (.cells #[.int .i64 2, .int .i64 0, .string s] 39)) from HC.out.trans ((below_vl w2 (Vl.text s)).mono HC.out.size))
      generalize w2.heap.size = q at HV ⊢
      generalize w2.alloc (.cells #[.int .i64 2, .int .i64 0, .string s] 39) = w7 at HV HC2 ⊢
      go_upto_region 7 with (first
        | (go_at_call 17; ((with_reducible refine (HN.out _ HC2.out).mono ?_); rintro e w3 ⟨rfl, hb⟩; have HE := Lib.hid (HC2.out.trans (hb.mono HC2.out.size)); have HV3 := Lib.hid (HV.out.over hb); clear hb HP))
        | (go_at_call 20; ((with_reducible refine (HP2.out _).mono ?_); rintro e w4 ⟨rfl, hb⟩; have HF := Lib.hid (HE.out.trans (hb.mono HE.out.size)); have HV4 := Lib.hid (HV3.out.over hb); clear hb)))
      have HV5 := Lib.hid (HV4.out.over (below_vl w4 (Vl.text x)))
      have HU5 := Lib.hid (show VlAt (w4.alloc (.cells #[.int .i64 2, .int .i64 0, .string x] 39)) w4.heap.size (Vl.text x) from VlAt.new w4 (Vl.text x))
      have HF5 := Lib.hid (show Below w.heap.size w (w4.alloc (.cells #[.int .i64 2, .int .i64 0, .string x] 39)) from HF.out.trans ((below_vl w4 (Vl.text x)).mono HF.out.size))
      replace HV5 := (show Hid (VlAt (w4.alloc (.cells #[.int .i64 2, .int .i64 0, .string x] 39)) q (Vl.text s)) from HV5)
      generalize w4.heap.size = q2 at HU5 ⊢
      generalize w4.alloc (.cells #[.int .i64 2, .int .i64 0, .string x] 39) = w8 at HV5 HU5 HF5 ⊢
      obtain ⟨c0, c1, c2⟩ := (show w8.cell? ⟨q, 0, none⟩ = some (.int .i64 2) ∧ w8.cell? ⟨q, 1, none⟩ = some (.int .i64 0) ∧ w8.cell? ⟨q, 2, none⟩ = some (.string s) from HV5.out.cells)
      obtain ⟨d0, d1, d2⟩ := (show w8.cell? ⟨q2, 0, none⟩ = some (.int .i64 (2)) ∧ w8.cell? ⟨q2, 1, none⟩ = some (.int .i64 0) ∧ w8.cell? ⟨q2, 2, none⟩ = some (.string x) from HU5.out.cells)
      go_wp2_with (first
        | (go_at_call 16; ((with_reducible refine (HW.out _ HF5.out).mono ?_); rintro e w5 ⟨rfl, hb⟩; have HG := Lib.hid (HF5.out.trans (hb.mono HF5.out.size)); clear hb))
        | (go_at_call 13; ((with_reducible refine (num_is _ _).mono ?_); rintro e wn ⟨rfl, rfl⟩)))
      go_ret
      exact ⟨by rfl, HG.out⟩
    · have hi98 : (98 : Int) < (s.size : Int) := by omega
      have HN := Lib.hid (fun (w1 : World) (hb : Below w.heap.size w w1) => norm_any x _ 4 (.long (by omega) (by omega) (.inl hkx)) (by omega) w1 (hx.below hb))
      have HP2 := Lib.hid (fun (w1 : World) => plain_none w1)
      clear hts hxs hkt hkx hx h99 h98
      go_enter Tryz.func7, Tryz.ntmps7
      go_upto_region 5 with (first
        | (go_at_call 17; ((with_reducible refine HA.out.mono ?_); rintro e w1 ⟨rfl, hb⟩; have HB := Lib.hid hb; clear hb HA))
        | (go_at_call 20; ((with_reducible refine (HP.out _).mono ?_); rintro e w2 ⟨rfl, hb⟩; have HC := Lib.hid (HB.out.trans (hb.mono HB.out.size)); clear hb)))
      have HV := Lib.hid (show VlAt (w2.alloc (.cells #[.int .i64 2, .int .i64 0, .string s] 39)) w2.heap.size (Vl.text s) from VlAt.new w2 (Vl.text s))
      have HC2 := Lib.hid (show Below w.heap.size w (w2.alloc (.cells #[.int .i64 2, .int .i64 0, .string s] 39)) from HC.out.trans ((below_vl w2 (Vl.text s)).mono HC.out.size))
      generalize w2.heap.size = q at HV ⊢
      generalize w2.alloc (.cells #[.int .i64 2, .int .i64 0, .string s] 39) = w7 at HV HC2 ⊢
      go_upto_region 7 with (first
        | (go_at_call 17; ((with_reducible refine (HN.out _ HC2.out).mono ?_); rintro e w3 ⟨rfl, hb⟩; have HE := Lib.hid (HC2.out.trans (hb.mono HC2.out.size)); have HV3 := Lib.hid (HV.out.over hb); clear hb HP))
        | (go_at_call 20; ((with_reducible refine (HP2.out _).mono ?_); rintro e w4 ⟨rfl, hb⟩; have HF := Lib.hid (HE.out.trans (hb.mono HE.out.size)); have HV4 := Lib.hid (HV3.out.over hb); clear hb)))
      have HV5 := Lib.hid (HV4.out.over (below_vl w4 (Vl.none)))
      have HU5 := Lib.hid (show VlAt (w4.alloc (.cells #[.int .i64 0, .int .i64 0, .string ⟨#[]⟩] 39)) w4.heap.size (Vl.none) from VlAt.new w4 (Vl.none))
      have HF5 := Lib.hid (show Below w.heap.size w (w4.alloc (.cells #[.int .i64 0, .int .i64 0, .string ⟨#[]⟩] 39)) from HF.out.trans ((below_vl w4 (Vl.none)).mono HF.out.size))
      replace HV5 := (show Hid (VlAt (w4.alloc (.cells #[.int .i64 0, .int .i64 0, .string ⟨#[]⟩] 39)) q (Vl.text s)) from HV5)
      generalize w4.heap.size = q2 at HU5 ⊢
      generalize w4.alloc (.cells #[.int .i64 0, .int .i64 0, .string ⟨#[]⟩] 39) = w8 at HV5 HU5 HF5 ⊢
      obtain ⟨c0, c1, c2⟩ := (show w8.cell? ⟨q, 0, none⟩ = some (.int .i64 2) ∧ w8.cell? ⟨q, 1, none⟩ = some (.int .i64 0) ∧ w8.cell? ⟨q, 2, none⟩ = some (.string s) from HV5.out.cells)
      obtain ⟨d0, d1, d2⟩ := (show w8.cell? ⟨q2, 0, none⟩ = some (.int .i64 (0)) ∧ w8.cell? ⟨q2, 1, none⟩ = some (.int .i64 0) ∧ w8.cell? ⟨q2, 2, none⟩ = some (.string ⟨#[]⟩) from HU5.out.cells)
      go_wp2_with (first
        | (go_at_call 16; ((with_reducible refine (HW.out _ HF5.out).mono ?_); rintro e w5 ⟨rfl, hb⟩; have HG := Lib.hid (HF5.out.trans (hb.mono HF5.out.size)); clear hb))
        | (go_at_call 13; ((with_reducible refine (num_is _ _).mono ?_); rintro e wn ⟨rfl, rfl⟩)))
      go_ret
      exact ⟨by rfl, HG.out⟩
  · have hi : (99 : Int) < (s.size : Int) := by omega
    have HW := Lib.hid (awake9_any w hx)
    clear hx h99
    go_enter Tryz.func7, Tryz.ntmps7
    go_wp2_with (go_at_call 16; ((with_reducible refine HW.out.mono ?_); rintro e w2 ⟨rfl, h1⟩; have HB2 := Lib.hid h1; clear h1))
    go_ret
    exact ⟨rfl, HB2.out⟩
end Go.Proofs.YtpnnchjmaggmpaaGreatDoor

namespace Go.Proofs.YtpnnchjmaggmpaaGreatDoor
open Go.RowKit

def onesL (k : Nat) : List Int := List.replicate k 49
def quoL (k : Nat) : List Int := 34 :: (onesL k ++ [34])
def okQ (k : Nat) : Bool := match lexL (quoL k) with
  | none => false
  | some ts => match parseP 200 ts with
    | some (.ok _) => true
    | _ => false
theorem okQ_all : ∀ k < 98, okQ k = true := by decide +kernel
theorem ones_bytes (k : Nat) : Bytes (onesL k) := fun x hx => by rw [List.eq_of_mem_replicate hx]; omega
theorem quo_bytes (k : Nat) : Bytes (quoL k) := by
  intro x hx
  rcases List.mem_cons.1 hx with rfl | hx
  · omega
  · rcases List.mem_append.1 hx with hx | hx
    · exact ones_bytes k x hx
    · rw [List.mem_singleton.1 hx]; omega
theorem quo_len (k : Nat) : (quoL k).length = k + 2 := by unfold quoL onesL; rw [List.length_cons, List.length_append, List.length_replicate]; rfl
theorem quo_PIs (k : Nat) (hk : k < 98) : ∃ ns, PIs (strOfNums (quoL k)) (.ok ns) := by
  have h := okQ_all k hk
  unfold okQ at h
  split at h
  · cases h
  · rename_i ts hl
    split at h
    · rename_i ns hp
      exact ⟨ns, .inr (.inr ⟨by rw [strOfNums_size, quo_len]; omega, ts, 200, by rw [sb_str _ (quo_bytes k)]; exact hl, hp⟩)⟩
    · cases h
theorem wr_add1 (k : Nat) (h : k ≤ 255) : wrap64 ((k : Int) + 1) = (k : Int) + 1 := by unfold wrap64; omega
theorem wr_add2 (k : Nat) (h : k ≤ 255) : wrap64 ((k : Int) + 2) = (k : Int) + 2 := by unfold wrap64; omega
theorem wr_add3 (k : Nat) (h : k ≤ 255) : wrap64 ((k : Int) + 3) = (k : Int) + 3 := by unfold wrap64; omega
def lateE (k m : Nat) : Int := if k + m ≤ 100 then 0 else 4
theorem long_e (k : Nat) (t : ByteArray) (ht : (⟨#[39]⟩ : ByteArray) ++ strOfNums (onesL k) = t) : ∃ u, NormR t u (lateE k 1) := by
  have hts : t.size = k + 1 := by rw [← ht, ByteArray.size_append, strOfNums_size]; unfold onesL; rw [List.length_replicate, Nat.add_comm]; rfl
  have hkt : kd t = 1 := by rw [← ht]; exact kd_text _
  unfold lateE
  by_cases h : k + 1 ≤ 100
  · rw [if_pos h]; exact ⟨_, .stays (by omega) (.inr hkt)⟩
  · rw [if_neg h]; exact ⟨_, .large (by omega)⟩
theorem long_f (k : Nat) (t : ByteArray) (ht : (⟨#[120]⟩ : ByteArray) ++ strOfNums (onesL k) = t) : ∃ u, NormR t u (lateE k 2) := by
  have hts : t.size = k + 1 := by rw [← ht, ByteArray.size_append, strOfNums_size]; unfold onesL; rw [List.length_replicate, Nat.add_comm]; rfl
  have hkt : kd t = 4 := by rw [← ht]; exact kd_x _
  unfold lateE
  by_cases h : k + 2 ≤ 100
  · rw [if_pos h]; exact ⟨_, .text (by omega) (.inl hkt) _ rfl⟩
  · rw [if_neg h]
    by_cases h1 : k + 1 ≤ 100
    · exact ⟨_, .long (by omega) (by omega) (.inl hkt)⟩
    · exact ⟨_, .large (by omega)⟩
theorem quo_text (k : Nat) : (⟨#[61, 34]⟩ : ByteArray) ++ strOfNums (onesL k) ++ (⟨#[34]⟩ : ByteArray) = mkF ++ strOfNums (quoL k) := by
  rw [show (⟨#[61, 34]⟩ : ByteArray) = strOfNums [61, 34] from rfl, show (⟨#[34]⟩ : ByteArray) = strOfNums [34] from rfl, show mkF = strOfNums [61] from rfl, str_append, str_append, str_append]
  rfl
theorem long_g (k : Nat) (t : ByteArray) (ht : (⟨#[61, 34]⟩ : ByteArray) ++ strOfNums (onesL k) ++ (⟨#[34]⟩ : ByteArray) = t) : ∃ u, NormR t u (lateE k 3) := by
  rw [quo_text] at ht
  have hts : t.size = k + 3 := by rw [← ht, ByteArray.size_append, strOfNums_size, quo_len, Nat.add_comm]; rfl
  have hkt : kd t = 2 := by rw [← ht]; exact kd_form _
  unfold lateE
  by_cases h : k + 3 ≤ 100
  · rw [if_pos h]
    obtain ⟨ns, hp⟩ := quo_PIs k (by omega)
    exact ⟨_, .form (by omega) hkt _ (mk_rest mkF _ t rfl ht) ns hp _ rfl⟩
  · rw [if_neg h]; exact ⟨_, .large (by omega)⟩
theorem late_cases (k m : Nat) : (k + m ≤ 100 ∧ lateE k m = 0) ∨ (¬ k + m ≤ 100 ∧ lateE k m = 4) := by
  unfold lateE
  by_cases h : k + m ≤ 100
  · exact .inl ⟨h, if_pos h⟩
  · exact .inr ⟨h, if_neg h⟩
set_option maxRecDepth 100000 in
set_option maxHeartbeats 8000000 in
theorem cellLong_any (n : Int) (n0 : 0 ≤ n) (n1 : n ≤ 255) (w : World) (hx : Cx w) : Calls Tryz.prog 8 #[.int .u8 n] w fun e w' => e = .returned (.bool true) ∧ Below w.heap.size w w' := by
  obtain ⟨k, rfl⟩ : ∃ k : Nat, n = (k : Int) := ⟨n.toNat, by omega⟩
  have hk : k ≤ 255 := by omega
  obtain ⟨s, hs⟩ : ∃ s, strOfNums (onesL k) = s := ⟨_, rfl⟩
  have hss : s.size = k := by rw [← hs, strOfNums_size]; unfold onesL; rw [List.length_replicate]
  obtain ⟨t1, ht1⟩ : ∃ t, (⟨#[39]⟩ : ByteArray) ++ s = t := ⟨_, rfl⟩
  obtain ⟨t2, ht2⟩ : ∃ t, (⟨#[120]⟩ : ByteArray) ++ s = t := ⟨_, rfl⟩
  obtain ⟨t4, ht4⟩ : ∃ t, (⟨#[61, 34]⟩ : ByteArray) ++ s = t := ⟨_, rfl⟩
  obtain ⟨t3, ht3⟩ : ∃ t, t4 ++ (⟨#[34]⟩ : ByteArray) = t := ⟨_, rfl⟩
  obtain ⟨u1, hu1⟩ := long_e k t1 (by rw [hs]; exact ht1)
  obtain ⟨u2, hu2⟩ := long_f k t2 (by rw [hs]; exact ht2)
  obtain ⟨u3, hu3⟩ := long_g k t3 (by rw [hs, ht4]; exact ht3)
  have e39 : (⟨#[39]⟩ : ByteArray).size = 1 := rfl
  have e120 : (⟨#[120]⟩ : ByteArray).size = 1 := rfl
  have e61 : (⟨#[61, 34]⟩ : ByteArray).size = 2 := rfl
  have e34 : (⟨#[34]⟩ : ByteArray).size = 1 := rfl
  have hz1 : (⟨#[39]⟩ : ByteArray).size + s.size ≤ 9223372036854775807 := by omega
  have hz2 : (⟨#[120]⟩ : ByteArray).size + s.size ≤ 9223372036854775807 := by omega
  have hz4 : (⟨#[61, 34]⟩ : ByteArray).size + s.size ≤ 9223372036854775807 := by omega
  have s1 : t1.size = k + 1 := by rw [← ht1, ByteArray.size_append]; omega
  have s2 : t2.size = k + 1 := by rw [← ht2, ByteArray.size_append]; omega
  have s4 : t4.size = k + 2 := by rw [← ht4, ByteArray.size_append]; omega
  have s3 : t3.size = k + 3 := by rw [← ht3, ByteArray.size_append]; omega
  have hz3 : t4.size + (⟨#[34]⟩ : ByteArray).size ≤ 9223372036854775807 := by omega
  have HN1 := Lib.hid (fun (w1 : World) (hb : Below w.heap.size w w1) => norm_any t1 u1 _ hu1 (by omega) w1 (hx.below hb))
  have HN2 := Lib.hid (fun (w1 : World) (hb : Below w.heap.size w w1) => norm_any t2 u2 _ hu2 (by omega) w1 (hx.below hb))
  have HN3 := Lib.hid (fun (w1 : World) (hb : Below w.heap.size w w1) => norm_any t3 u3 _ hu3 (by omega) w1 (hx.below hb))
  have HW := Lib.hid (fun (w1 : World) (hb : Below w.heap.size w w1) => awake9_any w1 (hx.below hb))
  have c1 := late_cases k 1
  have c2 := late_cases k 2
  have c3 := late_cases k 3
  have q1 := wr_add1 k hk
  have q2 := wr_add2 k hk
  have q3 := wr_add3 k hk
  have q1' : IntKind.i64.wrap ((k : Int) + 1) = (k : Int) + 1 := (IntWalk.i64_left _).trans q1
  have q2' : IntKind.i64.wrap ((k : Int) + 2) = (k : Int) + 2 := (IntWalk.i64_left _).trans q2
  have q3' : IntKind.i64.wrap ((k : Int) + 3) = (k : Int) + 3 := (IntWalk.i64_left _).trans q3
  have HS := Lib.hid hs
  have HH := Lib.hid hx
  have HT := Lib.hid (And.intro ht1 (And.intro ht2 (And.intro ht4 ht3)))
  clear hu1 hu2 hu3 hx s1 s2 s3 s4 hs hss e39 e120 e61 e34
  go_enter Tryz.func8, Tryz.ntmps8
  go_wp2_with fail
  go_loopw [4, 5] (fun sv iv wr => ∃ i : Nat, i ≤ k ∧ sv = .string (strOfNums (onesL i)) ∧ iv = .int .i64 (i : Int) ∧ wr = w) (fun _ iv _ => k - (intOf iv).toNat)
  case atStart => exact ⟨0, by omega, rfl, rfl, rfl⟩
  case round =>
    obtain ⟨i, hi, rfl, rfl, rfl⟩ := hrel
    by_cases hlt : i < k
    · have hik : (i : Int) < (k : Int) := by omega
      have hap : strOfNums (onesL i) ++ (⟨#[49]⟩ : ByteArray) = strOfNums (onesL (i + 1)) := by
        rw [show (⟨#[49]⟩ : ByteArray) = strOfNums [49] from rfl, str_append]; unfold onesL; rw [List.replicate_succ']
      have hsz : (strOfNums (onesL i)).size + (⟨#[49]⟩ : ByteArray).size ≤ 9223372036854775807 := by
        rw [strOfNums_size]; unfold onesL; rw [List.length_replicate]
        have : (⟨#[49]⟩ : ByteArray).size = 1 := rfl
        omega
      clear hz1 hz2 hz3 hz4 ht1 ht2 ht3 ht4 c1 c2 c3
      go_wp2
      go_roundw
      case rel => exact ⟨i + 1, by omega, by first | rfl | exact val_str hap, by go_num, by first | rfl | trivial⟩
      case measure => simp [intOf]; omega
    · obtain rfl : i = k := by omega
      have hik : ¬ (i : Int) < (i : Int) := by omega
      have hs := HS.out
      rcases c1 with ⟨c1, d1⟩ | ⟨c1, d1⟩ <;> rcases c2 with ⟨c2, d2⟩ | ⟨c2, d2⟩ <;> rcases c3 with ⟨c3, d3⟩ | ⟨c3, d3⟩
      all_goals first
        | (exfalso; omega)
        | (rw [d1] at HN1; rw [d2] at HN2; rw [d3] at HN3
           have b1 : ((i : Int) + 1 ≤ 100) ∨ ¬ ((i : Int) + 1 ≤ 100) := Decidable.em _
           have b2 : ((i : Int) + 2 ≤ 100) ∨ ¬ ((i : Int) + 2 ≤ 100) := Decidable.em _
           have b3 : ((i : Int) + 3 ≤ 100) ∨ ¬ ((i : Int) + 3 ≤ 100) := Decidable.em _
           rcases b1 with b1 | b1 <;> rcases b2 with b2 | b2 <;> rcases b3 with b3 | b3
           all_goals first
             | (exfalso; omega)
             | (clear d1 d2 d3 c1 c2 c3 hlt hi
                go_wp2_with (first
                  | (go_at_call 17; ((with_reducible refine (HN1.out _ (Below.refl _ _)).mono ?_); rintro e w1 ⟨rfl, hb⟩; have HB := Lib.hid hb; clear hb HN1))
                  | (go_at_call 17; ((with_reducible refine (HN2.out _ HB.out).mono ?_); rintro e w2 ⟨rfl, hb⟩; have HC := Lib.hid (HB.out.trans (hb.mono HB.out.size)); clear hb HN2))
                  | (go_at_call 17; ((with_reducible refine (HN3.out _ HC.out).mono ?_); rintro e w3 ⟨rfl, hb⟩; have HE := Lib.hid (HC.out.trans (hb.mono HC.out.size)); clear hb HN3))
                  | (go_at_call 16; ((with_reducible refine (HW.out _ HE.out).mono ?_); rintro e w5 ⟨rfl, hb⟩; have HG := Lib.hid (HE.out.trans (hb.mono HE.out.size)); clear hb))
                  | (go_at_call 13; ((with_reducible refine (num_is _ _).mono ?_); rintro e wn ⟨rfl, rfl⟩)))
                go_ret
                refine ⟨?_, HG.out⟩
                first | rfl | (simp <;> omega)))
end Go.Proofs.YtpnnchjmaggmpaaGreatDoor
