/-
  Layer 3, the reference: what its ReadRef holds on its way, and what of it a text of a reference says (no walk).
-/
import Derived.Test.YtdapnipodnhpkaaDoorAddrD
import Derived.Test.YtdapnipodnhpkaaDoorAddrX
namespace Go.Proofs.YtdapnipodnhpkaaDoor
open Go.RowKit

def Rd.absColF (d : Rd) : Rd := { d with ac := d.mark, k := d.k + (dol d.mark).length }
def Rd.colF (d : Rd) : Rd := { d with c := readColL (d.rest.takeWhile isCap), k := d.k + (d.rest.takeWhile isCap).length }
def Rd.absRowF (d : Rd) : Rd := { d with ar := d.mark, k := d.k + (dol d.mark).length }
/-- The reader behind the mark ahead of a row. -/
def Rd.at4 (d : Rd) : Rd := d.absColF.colF.absRowF
theorem length_digL3 (u : Nat) (h : u ≤ 999) : (digL u).length ≤ 3 := by
  by_cases h1 : u < 10
  · rw [digL_small u h1]; simp
  · rw [digL_more u h1, List.length_append]
    by_cases h2 : u / 10 < 10
    · rw [digL_small _ h2]; simp
    · rw [digL_more _ h2, List.length_append, digL_small _ (by omega)]; simp
theorem isRow_len {l : List Int} (hall : ∀ x ∈ l, isNum x = true) (h : isRow l = true) : l.length ≤ 3 := by
  obtain ⟨h1, h2, h3⟩ := isRow_parts h
  obtain ⟨h4, h5⟩ := digL_valL _ _ rfl h1 hall h2
  rw [← h5]; exact length_digL3 _ (by omega)
/-- WHERE A TEXT READS AS A REFERENCE, all that was gathered is that reference's. -/
theorem cand_of (s : ByteArray) (d1 d : Rd) (h1 : ∀ e, (Rd.start s).sheet = some e → e = d1) (hs : d1.s = s) (h : readS s = some d) :
    isCol (d1.absColF.rest.takeWhile isCap) = true ∧ (∀ x ∈ d1.at4.rest, isNum x = true) ∧ d1.at4.rest.length ≤ 3 ∧ d.sh = d1.at4.sh ∧ d.c = d1.at4.c ∧ d.ac = d1.at4.ac ∧ d.ar = d1.at4.ar ∧ d.r = valL d1.at4.rest - 1 := by
  unfold readS at h
  simp only [Option.bind_eq_some_iff] at h
  obtain ⟨d5, ⟨d4, ⟨d3, ⟨d2, ⟨e1, g1, g2⟩, g3⟩, g4⟩, g5⟩, g6⟩ := h
  have := h1 e1 g1
  subst this
  have e2 : d2 = e1.absColF := by unfold Rd.absCol at g2; injection g2 with g2; exact g2.symm
  subst e2
  unfold Rd.col at g3
  by_cases hc : isCol (e1.absColF.rest.takeWhile isCap) = true
  · rw [if_pos hc] at g3
    have e3 : d3 = e1.absColF.colF := by injection g3 with g3; exact g3.symm
    subst e3
    have e4 : d4 = e1.at4 := by unfold Rd.absRow at g4; injection g4 with g4; exact g4.symm
    subst e4
    unfold Rd.row at g5
    by_cases hr : isRow (e1.at4.rest.takeWhile isNum) = true
    · rw [if_pos hr] at g5; injection g5 with g5; subst g5
      unfold Rd.fin at g6
      by_cases hk : e1.at4.k + (e1.at4.rest.takeWhile isNum).length = e1.at4.s.size
      · rw [if_pos hk] at g6; injection g6 with g6; subst g6
        have hl := length_rest e1.at4
        have hsp := take_split isNum e1.at4.rest
        have hdrop : e1.at4.rest.drop (e1.at4.rest.takeWhile isNum).length = [] := by rw [List.drop_eq_nil_iff]; omega
        rw [hdrop, List.append_nil] at hsp
        have hall := take_all isNum e1.at4.rest
        have hlen := isRow_len hall hr
        rw [hsp] at hall hlen
        refine ⟨hc, hall, hlen, rfl, rfl, rfl, rfl, ?_⟩
        show valL (e1.at4.rest.takeWhile isNum) - 1 = _
        rw [hsp]
      · rw [if_neg hk] at g6; cases g6
    · rw [if_neg hr] at g5; cases g5
  · rw [if_neg hc] at g3; cases g3

/-- What ReadRef holds: the result, still nothing; the reference so far. -/
structure RSt (w wr : World) (sh : ByteArray) (c r : Int) (ac ar : Bool) : Prop where
  res : RefAt wr w.heap.size ⟨#[]⟩ 0 0 false false
  ref : RefAt wr (w.heap.size + 1) sh c r ac ar
  below : Below w.heap.size w wr
theorem RefAt.drewN {w : World} {b : Nat} {s : ByteArray} {c r : Int} {ac ar : Bool} (h : RefAt w b s c r ac ar) (n : Nat) : RefAt (w.drewN n) b s c r ac ar := h
theorem RefAt.frozen {w : World} {b : Nat} {s : ByteArray} {c r : Int} {ac ar : Bool} (h : RefAt w b s c r ac ar) (j : Nat) : w.frozen? ⟨b, j, none⟩ = false := frozen_of_row w b j _ _ h
theorem RefAt.other {w : World} {b : Nat} {s : ByteArray} {c r : Int} {ac ar : Bool} (h : RefAt w b s c r ac ar) (a : Addr) (v : Value) (hne : b ≠ a.block) : RefAt (w.setCell a v) b s c r ac ar := by
  unfold RefAt; rw [heap_setCell_other w a b v hne]; exact h
theorem RSt.drewN {w wr : World} {sh : ByteArray} {c r : Int} {ac ar : Bool} (h : RSt w wr sh c r ac ar) (n : Nat) : RSt w (wr.drewN n) sh c r ac ar := ⟨h.res.drewN n, h.ref.drewN n, ⟨h.below.os, h.below.tape, h.below.output, h.below.size, h.below.block⟩⟩
theorem RSt.next {w wr w2 : World} {sh : ByteArray} {c r : Int} {ac ar : Bool} (h : RSt w wr sh c r ac ar) (hb : Below wr.heap.size wr w2) : RSt w w2 sh c r ac ar :=
  ⟨h.res.below hb h.res.lt, h.ref.below hb h.ref.lt, h.below.trans (hb.mono h.below.size)⟩
theorem RSt.set (i : Nat) {w wr : World} {sh : ByteArray} {c r : Int} {ac ar : Bool} (h : RSt w wr sh c r ac ar) (v : Value) (sh' : ByteArray) (c' r' : Int) (ac' ar' : Bool)
    (hv : (#[.string sh, .int .i64 c, .int .i64 r, .bool ac, .bool ar] : Array Value).setIfInBounds i v = #[.string sh', .int .i64 c', .int .i64 r', .bool ac', .bool ar']) : RSt w (wr.setCell ⟨w.heap.size + 1, i, none⟩ v) sh' c' r' ac' ar' := by
  refine ⟨h.res.other _ _ (by show w.heap.size ≠ w.heap.size + 1; omega), ?_, h.below.setCell (by show w.heap.size ≤ w.heap.size + 1; omega) _⟩
  have hr := h.ref
  unfold RefAt at hr ⊢
  rw [heap_setCell_same wr (w.heap.size + 1) i _ _ _ hr, hv]
end Go.Proofs.YtdapnipodnhpkaaDoor
