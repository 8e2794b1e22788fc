/-
  A region that draws its order and holds one call that makes memory: its steps, typed one by one.
-/
import Derived.Test.YtnimmpidplfnnaaOwnS
import Derived.Deep.RegionHeld3
namespace Go.Proofs.Ytnimmpidplfnnaa
open Go.RowKit

theorem held_take {P : Program} {md : Region.Mode} {ops : Array Oper} {Q : Exit → Act → World → Prop} {S : World → Prop} {i : Nat} {oi : Oper} {d : Option Tmp} {v : Value} {fuel : Nat} {listed listed' : Array Bool} {a : Act} {w : World} (hi : ops[i]? = some oi) (hd : oi.dst = d)
    (hs : Region.noSelect ops = true) (hf : Region.free md ops listed i = true) (hr : (Region.ready md ops listed).contains i = true) (hl : listed.setIfInBounds i true = listed')
    (hQ : ∀ c a w, Q (.panic c) (a.put d v) w → Q (.panic c) a w) (hw : Region.wanted oi (yielded ops a.tmps) = true) (hy : ∀ w, S w → (execOp a.eval oi).run P w = .ok (.value v) w) (hS : S w)
    (h : wpAnyH P md ops Q S fuel listed' (a.put d v) w) : wpAnyH P md ops Q S (fuel + 1) listed a w := by
  subst hd; subst hl
  exact wpAnyH_take hi hs hf hr hQ (.inl ⟨hw, hy⟩) hS h
theorem held_skip {P : Program} {md : Region.Mode} {ops : Array Oper} {Q : Exit → Act → World → Prop} {S : World → Prop} {i : Nat} {oi : Oper} {d : Option Tmp} {fuel : Nat} {listed listed' : Array Bool} {a : Act} {w : World} (hi : ops[i]? = some oi) (hd : oi.dst = d)
    (hs : Region.noSelect ops = true) (hf : Region.free md ops listed i = true) (hr : (Region.ready md ops listed).contains i = true) (hl : listed.setIfInBounds i true = listed')
    (hQ : ∀ c a w, Q (.panic c) (a.put d undef) w → Q (.panic c) a w) (hw : Region.wanted oi (yielded ops a.tmps) = false) (hS : S w)
    (h : wpAnyH P md ops Q S fuel listed' (a.put d undef) w) : wpAnyH P md ops Q S (fuel + 1) listed a w := by
  subst hd; subst hl
  exact wpAnyH_take hi hs hf hr hQ (.inr ⟨hw, rfl⟩) hS h
/-- The one that alone may come up. -/
theorem held_one {P : Program} {md : Region.Mode} {ops : Array Oper} {Q : Exit → Act → World → Prop} {S : World → Prop} {i : Nat} {oi : Oper} {d : Option Tmp} {fuel : Nat} {listed listed' : Array Bool} {a : Act} {w : World} (hi : ops[i]? = some oi) (hd : oi.dst = d)
    (hr : Region.ready md ops listed = [i]) (hl : listed.setIfInBounds i true = listed') (hw : Region.wanted oi (yielded ops a.tmps) = true)
    (h : ∀ K : Act → World → Prop, Shut (∀ v w, S w → wpAnyH P md ops Q S fuel listed' (a.put d v) w → K (a.put d v) w) → Oper.wp P oi a w K Q) : wpAnyH P md ops Q S (fuel + 1) listed a w := by
  subst hd; subst hl
  refine wpAnyH_ready hr (by simp) (AllReadyH.cons hi (fun K hK => ?_) AllReadyH.nil)
  rw [if_pos hw]
  exact h K (fun v w hS hW => hK _ _ hS (fun _ => hW))

/-! The same steps, with all that is plain left to be found: hT takes a step, hU and hV with what is held laid open, hN leaves one out, hO is the one that alone may come up; kT, kN, kC, kA: where all is held that there was. -/
theorem gA {α : Type} (l : List α) (i : Nat) : l.toArray[i]? = l[i]? := List.getElem?_toArray ..
theorem gS {α : Type} (x : α) (l : List α) (n : Nat) : (x :: l)[n + 1]? = l[n]? := rfl
theorem gZ {α : Type} (x : α) (l : List α) : (x :: l)[0]? = some x := rfl
theorem sT {α : Type} (l : List α) (i : Nat) (a : α) : l.toArray.setIfInBounds i a = (l.set i a).toArray := List.setIfInBounds_toArray ..
theorem sZ {α : Type} (x : α) (l : List α) (a : α) : (x :: l).set 0 a = a :: l := rfl
theorem sS {α : Type} (x : α) (l : List α) (n : Nat) (a : α) : (x :: l).set (n + 1) a = x :: l.set n a := rfl
def tkOk (md : Region.Mode) (ops : Array Oper) (listed : Array Bool) (i : Nat) : Bool := Region.noSelect ops && (Region.free md ops listed i && (Region.ready md ops listed).contains i)
theorem tkOk_out {md : Region.Mode} {ops : Array Oper} {listed : Array Bool} {i : Nat} (h : tkOk md ops listed i = true) : Region.noSelect ops = true ∧ Region.free md ops listed i = true ∧ (Region.ready md ops listed).contains i = true :=
  ⟨(Bool.and_eq_true_iff.1 h).1, (Bool.and_eq_true_iff.1 (Bool.and_eq_true_iff.1 h).2).1, (Bool.and_eq_true_iff.1 (Bool.and_eq_true_iff.1 h).2).2⟩
theorem hT {P : Program} {md : Region.Mode} {ops : Array Oper} {Q : Exit → Act → World → Prop} {S : World → Prop} (i : Nat) {oi : Oper} {v : Value} {fuel : Nat} {listed listed' : Array Bool} {a a' : Act} {w : World} (hS : S w) (h : wpAnyH P md ops Q S fuel listed' a' w) (hi : ops[i]? = some oi := by (first | (simp only [gA, gS, gZ]; done) | (simp only [gA, gS, gZ]; rfl)))
    (hc : tkOk md ops listed i = true := by kernel_rfl) (hl : listed.setIfInBounds i true = listed' := by (simp only [sT, sZ, sS]; rfl)) (hw : Region.wanted oi (yielded ops a.tmps) = true := by rfl) (hy : ∀ w, S w → (execOp a.eval oi).run P w = .ok (.value v) w := by (intro wS hSw; go_simp; try (with_reducible rfl)))
    (ha : a.put oi.dst v = a' := by (simp only [Act.put, sT, sZ, sS]; rfl)) (hQ : ∀ c a w, Q (.panic c) (a.put oi.dst v) w → Q (.panic c) a w := by exact fun _ _ _ h => h) : wpAnyH P md ops Q S (fuel + 1) listed a w := by
  obtain ⟨h1, h2, h3⟩ := tkOk_out hc
  subst hl; subst ha
  exact wpAnyH_take hi h1 h2 h3 hQ (.inl ⟨hw, hy⟩) hS h
theorem hU {P : Program} {md : Region.Mode} {ops : Array Oper} {Q : Exit → Act → World → Prop} {S : World → Prop} (i : Nat) {oi : Oper} {v : Value} {fuel : Nat} {listed listed' : Array Bool} {a a' : Act} {w : World} (hS : S w) (h : wpAnyH P md ops Q S fuel listed' a' w) (hi : ops[i]? = some oi := by (first | (simp only [gA, gS, gZ]; done) | (simp only [gA, gS, gZ]; rfl)))
    (hc : tkOk md ops listed i = true := by kernel_rfl) (hl : listed.setIfInBounds i true = listed' := by (simp only [sT, sZ, sS]; rfl)) (hw : Region.wanted oi (yielded ops a.tmps) = true := by rfl) (hy : ∀ w, S w → (execOp a.eval oi).run P w = .ok (.value v) w := by (intro wS hSw; have hz := hSw; go_simp; try (with_reducible rfl)))
    (ha : a.put oi.dst v = a' := by (simp only [Act.put, sT, sZ, sS]; rfl)) (hQ : ∀ c a w, Q (.panic c) (a.put oi.dst v) w → Q (.panic c) a w := by exact fun _ _ _ h => h) : wpAnyH P md ops Q S (fuel + 1) listed a w := by
  obtain ⟨h1, h2, h3⟩ := tkOk_out hc
  subst hl; subst ha
  exact wpAnyH_take hi h1 h2 h3 hQ (.inl ⟨hw, hy⟩) hS h
theorem hV {P : Program} {md : Region.Mode} {ops : Array Oper} {Q : Exit → Act → World → Prop} {S : World → Prop} (i : Nat) {oi : Oper} {v : Value} {fuel : Nat} {listed listed' : Array Bool} {a a' : Act} {w : World} (hS : S w) (h : wpAnyH P md ops Q S fuel listed' a' w) (hi : ops[i]? = some oi := by (first | (simp only [gA, gS, gZ]; done) | (simp only [gA, gS, gZ]; rfl)))
    (hc : tkOk md ops listed i = true := by kernel_rfl) (hl : listed.setIfInBounds i true = listed' := by (simp only [sT, sZ, sS]; rfl)) (hw : Region.wanted oi (yielded ops a.tmps) = true := by rfl) (hy : ∀ w, S w → (execOp a.eval oi).run P w = .ok (.value v) w := by (intro wS hSw; (try dsimp only at hSw); go_simp; try (with_reducible rfl)))
    (ha : a.put oi.dst v = a' := by (simp only [Act.put, sT, sZ, sS]; rfl)) (hQ : ∀ c a w, Q (.panic c) (a.put oi.dst v) w → Q (.panic c) a w := by exact fun _ _ _ h => h) : wpAnyH P md ops Q S (fuel + 1) listed a w := by
  obtain ⟨h1, h2, h3⟩ := tkOk_out hc
  subst hl; subst ha
  exact wpAnyH_take hi h1 h2 h3 hQ (.inl ⟨hw, hy⟩) hS h
theorem hN {P : Program} {md : Region.Mode} {ops : Array Oper} {Q : Exit → Act → World → Prop} {S : World → Prop} (i : Nat) {oi : Oper} {fuel : Nat} {listed listed' : Array Bool} {a a' : Act} {w : World} (hS : S w) (h : wpAnyH P md ops Q S fuel listed' a' w) (hi : ops[i]? = some oi := by (first | (simp only [gA, gS, gZ]; done) | (simp only [gA, gS, gZ]; rfl)))
    (hc : tkOk md ops listed i = true := by kernel_rfl) (hl : listed.setIfInBounds i true = listed' := by (simp only [sT, sZ, sS]; rfl)) (hw : Region.wanted oi (yielded ops a.tmps) = false := by rfl) (ha : a.put oi.dst undef = a' := by (simp only [Act.put, sT, sZ, sS]; rfl))
    (hQ : ∀ c a w, Q (.panic c) (a.put oi.dst undef) w → Q (.panic c) a w := by exact fun _ _ _ h => h) : wpAnyH P md ops Q S (fuel + 1) listed a w := by
  obtain ⟨h1, h2, h3⟩ := tkOk_out hc
  subst hl; subst ha
  exact wpAnyH_take hi h1 h2 h3 hQ (.inr ⟨hw, rfl⟩) hS h
theorem hO {P : Program} {md : Region.Mode} {ops : Array Oper} {Q : Exit → Act → World → Prop} {S : World → Prop} (i : Nat) {oi : Oper} {d : Option Tmp} {fuel : Nat} {listed listed' : Array Bool} {a : Act} {w : World}
    (h : ∀ K : Act → World → Prop, Shut (∀ v w, S w → wpAnyH P md ops Q S fuel listed' (a.put d v) w → K (a.put d v) w) → Oper.wp P oi a w K Q) (hi : ops[i]? = some oi := by (first | (simp only [gA, gS, gZ]; done) | (simp only [gA, gS, gZ]; rfl))) (hd : oi.dst = d := by (first | (dsimp only; done) | (dsimp only; rfl) | rfl)) (hr : Region.ready md ops listed = [i] := by kernel_rfl)
    (hl : listed.setIfInBounds i true = listed' := by (simp only [sT, sZ, sS]; rfl)) (hw : Region.wanted oi (yielded ops a.tmps) = true := by rfl) : wpAnyH P md ops Q S (fuel + 1) listed a w := held_one hi hd hr hl hw h
theorem Below.of (w w' w'' : World) (h : Below w.heap.size w w') (k : Below w'.heap.size w' w'') : Below w.heap.size w w'' := h.trans (k.mono h.size)

theorem wpOp_imp {P : Program} {ops : Array Oper} {Q : Exit → Act → World → Prop} {i : Nat} {a : Act} {w : World} {K K' : Act → World → Prop} (h : ∀ a w, K a w → K' a w) (hk : wpOp P ops Q i K a w) : wpOp P ops Q i K' a w := wpOp_mono h hk
/-- What is held may be said with less. -/
theorem held_less {P : Program} {md : Region.Mode} {ops : Array Oper} {Q : Exit → Act → World → Prop} {S S' : World → Prop} (hS : ∀ w, S w → S' w) : ∀ (fuel : Nat) (listed : Array Bool) (a : Act) (w : World), wpAnyH P md ops Q S fuel listed a w → wpAnyH P md ops Q S' fuel listed a w
  | 0, _, _, _, h => h
  | fuel + 1, _, _, _, h => ⟨h.1, fun i hi => wpOp_imp (fun a' w' h' => ⟨hS _ h'.1, held_less hS fuel _ a' w' h'.2⟩) (h.2 i hi)⟩
/-! What is held: all that there is in the world at hand is as it was. A call that makes memory leaves a world of which the same is held anew. -/
theorem kept_start {P : Program} {ops : Array Oper} {Q : Exit → Act → World → Prop} {id : Nat} {a : Act} {w : World} (hm : P.follows .mixedOrders = true)
    (h : wpAnyH P .any ops Q (Below w.heap.size w.drew) ops.size (Array.replicate ops.size false) a w.drew) : (Code.region id ops true).wp P Q a w :=
  wp_region_held_drew (S := Below w.heap.size w.drew) hm (Below.refl _ _) (fun _ => h)
theorem kept_take {P : Program} {md : Region.Mode} {ops : Array Oper} {Q : Exit → Act → World → Prop} {i : Nat} {oi : Oper} {d : Option Tmp} {v : Value} {fuel : Nat} {listed listed' : Array Bool} {a : Act} {B : Nat} {w : World} (hi : ops[i]? = some oi) (hd : oi.dst = d)
    (hs : Region.noSelect ops = true) (hf : Region.free md ops listed i = true) (hr : (Region.ready md ops listed).contains i = true) (hl : listed.setIfInBounds i true = listed')
    (hQ : ∀ c a w, Q (.panic c) (a.put d v) w → Q (.panic c) a w) (hw : Region.wanted oi (yielded ops a.tmps) = true) (hy : ∀ w', Below B w w' → (execOp a.eval oi).run P w' = .ok (.value v) w')
    (h : wpAnyH P md ops Q (Below B w) fuel listed' (a.put d v) w) : wpAnyH P md ops Q (Below B w) (fuel + 1) listed a w :=
  held_take hi hd hs hf hr hl hQ hw hy (Below.refl _ _) h
theorem kept_skip {P : Program} {md : Region.Mode} {ops : Array Oper} {Q : Exit → Act → World → Prop} {i : Nat} {oi : Oper} {d : Option Tmp} {fuel : Nat} {listed listed' : Array Bool} {a : Act} {B : Nat} {w : World} (hi : ops[i]? = some oi) (hd : oi.dst = d)
    (hs : Region.noSelect ops = true) (hf : Region.free md ops listed i = true) (hr : (Region.ready md ops listed).contains i = true) (hl : listed.setIfInBounds i true = listed')
    (hQ : ∀ c a w, Q (.panic c) (a.put d undef) w → Q (.panic c) a w) (hw : Region.wanted oi (yielded ops a.tmps) = false)
    (h : wpAnyH P md ops Q (Below B w) fuel listed' (a.put d undef) w) : wpAnyH P md ops Q (Below B w) (fuel + 1) listed a w :=
  held_skip hi hd hs hf hr hl hQ hw (Below.refl _ _) h
theorem kept_call {P : Program} {md : Region.Mode} {ops : Array Oper} {Q : Exit → Act → World → Prop} {i : Nat} {oi : Oper} {d : Option Tmp} {fuel : Nat} {listed listed' : Array Bool} {a : Act} {B : Nat} {w : World} (hi : ops[i]? = some oi) (hd : oi.dst = d)
    (hr : Region.ready md ops listed = [i]) (hl : listed.setIfInBounds i true = listed') (hw : Region.wanted oi (yielded ops a.tmps) = true)
    (h : ∀ K : Act → World → Prop, Shut (∀ v w', Below B w w' → B ≤ w'.heap.size → wpAnyH P md ops Q (Below w'.heap.size w') fuel listed' (a.put d v) w' → K (a.put d v) w') → Oper.wp P oi a w K Q) : wpAnyH P md ops Q (Below B w) (fuel + 1) listed a w :=
  held_one hi hd hr hl hw (fun K hK => h K (fun v w' hb hB hn => hK v w' hb (held_less (fun _ h' => hb.trans (h'.mono hB)) _ _ _ _ hn)))
/-! The same, below a block that is chosen once: for a region that appends to a row of the call's own. -/
theorem kept_start_at {P : Program} {ops : Array Oper} {Q : Exit → Act → World → Prop} {id : Nat} {a : Act} {w : World} (B : Nat) (hm : P.follows .mixedOrders = true)
    (h : wpAnyH P .any ops Q (Below B w.drew) ops.size (Array.replicate ops.size false) a w.drew) : (Code.region id ops true).wp P Q a w :=
  wp_region_held_drew (S := Below B w.drew) hm (Below.refl _ _) (fun _ => h)
theorem kept_call_at {P : Program} {md : Region.Mode} {ops : Array Oper} {Q : Exit → Act → World → Prop} {i : Nat} {oi : Oper} {d : Option Tmp} {fuel : Nat} {listed listed' : Array Bool} {a : Act} {B : Nat} {w : World} (hi : ops[i]? = some oi) (hd : oi.dst = d)
    (hr : Region.ready md ops listed = [i]) (hl : listed.setIfInBounds i true = listed') (hw : Region.wanted oi (yielded ops a.tmps) = true)
    (h : ∀ K : Act → World → Prop, Shut (∀ v w', Below B w w' → wpAnyH P md ops Q (Below B w') fuel listed' (a.put d v) w' → K (a.put d v) w') → Oper.wp P oi a w K Q) : wpAnyH P md ops Q (Below B w) (fuel + 1) listed a w :=
  held_one hi hd hr hl hw (fun K hK => h K (fun v w' hb hn => hK v w' hb (held_less (fun _ h' => hb.trans h') _ _ _ _ hn)))
theorem kT {P : Program} {md : Region.Mode} {ops : Array Oper} {Q : Exit → Act → World → Prop} {B : Nat} (i : Nat) {oi : Oper} {v : Value} {fuel : Nat} {listed listed' : Array Bool} {a a' : Act} {w : World} (h : wpAnyH P md ops Q (Below B w) fuel listed' a' w) (hi : ops[i]? = some oi := by (first | (simp only [gA, gS, gZ]; done) | (simp only [gA, gS, gZ]; rfl)))
    (hc : tkOk md ops listed i = true := by kernel_rfl) (hl : listed.setIfInBounds i true = listed' := by (simp only [sT, sZ, sS]; rfl)) (hw : Region.wanted oi (yielded ops a.tmps) = true := by rfl) (hy : ∀ w', Below B w w' → (execOp a.eval oi).run P w' = .ok (.value v) w' := by (intro wS hSw; go_simp; try (with_reducible rfl)))
    (ha : a.put oi.dst v = a' := by (simp only [Act.put, sT, sZ, sS]; rfl)) (hQ : ∀ c a w, Q (.panic c) (a.put oi.dst v) w → Q (.panic c) a w := by exact fun _ _ _ h => h) : wpAnyH P md ops Q (Below B w) (fuel + 1) listed a w :=
  hT i (Below.refl _ _) h hi hc hl hw hy ha hQ
theorem kN {P : Program} {md : Region.Mode} {ops : Array Oper} {Q : Exit → Act → World → Prop} {B : Nat} (i : Nat) {oi : Oper} {fuel : Nat} {listed listed' : Array Bool} {a a' : Act} {w : World} (h : wpAnyH P md ops Q (Below B w) fuel listed' a' w) (hi : ops[i]? = some oi := by (first | (simp only [gA, gS, gZ]; done) | (simp only [gA, gS, gZ]; rfl)))
    (hc : tkOk md ops listed i = true := by kernel_rfl) (hl : listed.setIfInBounds i true = listed' := by (simp only [sT, sZ, sS]; rfl)) (hw : Region.wanted oi (yielded ops a.tmps) = false := by rfl) (ha : a.put oi.dst undef = a' := by (simp only [Act.put, sT, sZ, sS]; rfl))
    (hQ : ∀ c a w, Q (.panic c) (a.put oi.dst undef) w → Q (.panic c) a w := by exact fun _ _ _ h => h) : wpAnyH P md ops Q (Below B w) (fuel + 1) listed a w :=
  hN i (Below.refl _ _) h hi hc hl hw ha hQ
theorem kC {P : Program} {md : Region.Mode} {ops : Array Oper} {Q : Exit → Act → World → Prop} (i : Nat) {oi : Oper} {d : Option Tmp} {fuel : Nat} {listed listed' : Array Bool} {a : Act} {B : Nat} {w : World}
    (h : ∀ K : Act → World → Prop, Shut (∀ v w', Below B w w' → B ≤ w'.heap.size → wpAnyH P md ops Q (Below w'.heap.size w') fuel listed' (a.put d v) w' → K (a.put d v) w') → Oper.wp P oi a w K Q) (hi : ops[i]? = some oi := by (first | (simp only [gA, gS, gZ]; done) | (simp only [gA, gS, gZ]; rfl))) (hd : oi.dst = d := by (first | (dsimp only; done) | (dsimp only; rfl) | rfl))
    (hr : Region.ready md ops listed = [i] := by kernel_rfl) (hl : listed.setIfInBounds i true = listed' := by (simp only [sT, sZ, sS]; rfl)) (hw : Region.wanted oi (yielded ops a.tmps) = true := by rfl) : wpAnyH P md ops Q (Below B w) (fuel + 1) listed a w := kept_call hi hd hr hl hw h
theorem kA {P : Program} {md : Region.Mode} {ops : Array Oper} {Q : Exit → Act → World → Prop} (i : Nat) {oi : Oper} {d : Option Tmp} {fuel : Nat} {listed listed' : Array Bool} {a : Act} {B : Nat} {w : World}
    (h : ∀ K : Act → World → Prop, Shut (∀ v w', Below B w w' → wpAnyH P md ops Q (Below B w') fuel listed' (a.put d v) w' → K (a.put d v) w') → Oper.wp P oi a w K Q) (hi : ops[i]? = some oi := by (first | (simp only [gA, gS, gZ]; done) | (simp only [gA, gS, gZ]; rfl))) (hd : oi.dst = d := by (first | (dsimp only; done) | (dsimp only; rfl) | rfl))
    (hr : Region.ready md ops listed = [i] := by kernel_rfl) (hl : listed.setIfInBounds i true = listed' := by (simp only [sT, sZ, sS]; rfl)) (hw : Region.wanted oi (yielded ops a.tmps) = true := by rfl) : wpAnyH P md ops Q (Below B w) (fuel + 1) listed a w := kept_call_at hi hd hr hl hw h
/-- The append laws at one operation. -/
theorem wp_app {P : Program} {α : Type} {size t e bytes : Nat} {w : World} {o : Oper} {a : Act} {K : Act → World → Prop} {Q : Exit → Act → World → Prop} (EL : Elem P t e size bytes) (E : Enc α size)
    (s x : Operand) (ho : o.op = .call { callee := .builtin .append, args := #[s, x], argTypes := #[t, t] }) (base : Nat) (v : Value) (xs : List α)
    (hs : a.eval s = v) (hown : Own E e w base v xs) (ad : Addr) (m c : Nat) (ys : List α) (hx : a.eval x = .slice (some ad) m c) (hl : ys.length = m)
    (hc : ∀ (j : Nat) (u : Value), (E.all ys)[j]? = some u → w.cell? (ad.add j) = some u) (hb : (xs.length + m) * bytes ≤ 140737488355328) (hb2 : xs.length + m ≤ maxLen) (hbase : base ≤ w.heap.size)
    (h : ∀ (v' : Value) (w' : World), Own E e w' base v' (xs ++ ys) → Below base w w' → K (a.put o.dst v') w') : Oper.wp P o a w K Q := by
  obtain ⟨z, hi, hz⟩ := EL.inf
  obtain ⟨i, hi1, hi2, hi3, hi4⟩ := info_parts hi
  obtain ⟨v', w', hrun, r1, r2, _⟩ := run_append_own (P := P) w base t o.type e i z size bytes EL.und hi1 hi2 hi3 hi4 hz EL.pos v xs.length (E.all xs) hown ad m c (E.all ys) (by rw [E.length_all, hl]) hc (E.one_all ys) hb2 hb hbase
  unfold Oper.wp
  simp [execOp, ho, resolve, invoke, builtin, hs, hx, hrun, Result.andThen]
  refine h v' w' ?_ (Below.grown (Below.refl _ _) r2 hbase fun k hk => (World.ownsRow.lt hown k hk).1)
  unfold Own; rw [E.all_append, List.length_append, hl]; exact r1
end Go.Proofs.Ytnimmpidplfnnaa
