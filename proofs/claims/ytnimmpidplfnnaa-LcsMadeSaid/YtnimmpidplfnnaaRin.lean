/-
  A region of a loop's round, walked as if it stood outside of one: where it ends in order.
-/
import Derived.RangeFuncCalls
import Derived.OrdersIn
import Derived.OrdersHeld
import Derived.Test.YtnimmpidplfnnaaHeld
namespace Go.Proofs.Ytnimmpidplfnnaa
open Go.RowKit

variable {P : Program} {ops : Array Oper} {md : Region.Mode} {l n : Nat}
/-- It goes on in order, or not at all. -/
def QN (N : Act → World → Prop) : Exit → Act → World → Prop := fun e a w => e = .normal ∧ N a w
theorem qn_letsOut (N : Act → World → Prop) : ¬ LetsOut (QN N) := by
  rintro ⟨a, w, h, _⟩; cases h
theorem rows_in {row : String} {args : Array Value} {w : World} {R : Value → World → Prop} (h : Rows P row args w R) : RowsIn (Fence.wide.inRound l) n P row args w R := fun c cs _ => by
  obtain ⟨v, w', r, s⟩ := h c cs
  exact ⟨v, w', r, stepsIn_wide.2 s⟩
theorem upon_in {o : Oper} {a : Act} {K K' : Act → World → Prop} (hK : ∀ a w, K a w → K' a w) {Q : Exit → Act → World → Prop} {r : Result Next} (h : o.upon P a K (QN (Q .normal)) r) : o.uponIn (Fence.wide.inRound l) n P a K' Q r := by
  unfold Oper.upon at h
  split at h
  · exact hK _ _ h
  · exact hK _ _ h
  · exact hK _ _ h
  · refine ⟨fun hd => (by cases hd), CallsIn.inRound l ((callsIn_wide.2 h).mono ?_)⟩
    rintro e w' he
    cases e with
    | returned v => exact hK _ _ he
    | panicked c => exact absurd he.1 (by intro h; cases h)
    | outgrown => exact absurd he (qn_letsOut _)
  · exact ⟨fun hd => (by cases hd), (rows_in h).mono fun v w' hv => hK _ _ hv⟩
  · exact absurd h.1 (by intro h; cases h)
  · exact h.elim
theorem any_in {Q : Exit → Act → World → Prop} (hnd : ∀ (i : Nat) (o : Oper), ops[i]? = some o → ∀ c, o.op ≠ .defer c) : ∀ (fuel : Nat) (listed : Array Bool) (a : Act) (w : World), wpAny P md ops (QN (Q .normal)) fuel listed a w → wpAnyIn (Fence.wide.inRound l) n P md ops Q fuel listed a w
  | 0, _, _, _, h => ⟨h.1, h.2.2⟩
  | fuel + 1, listed, a, w, h => by
    refine ⟨fun hr => (h.1 hr).2, fun i hi => ?_⟩
    have hs := h.2 i hi
    unfold wpOp at hs
    unfold wpOpIn
    cases ho : ops[i]? with
    | none => rw [ho] at hs; exact any_in hnd fuel _ _ _ hs
    | some o =>
      rw [ho] at hs
      simp only at hs ⊢
      by_cases hw : Region.wanted o (yielded ops a.tmps) = true
      · rw [if_pos hw] at hs ⊢
        have hs := hs.resolve_right (fun hx => qn_letsOut _ hx.2)
        refine ⟨fun _ _ => trivial, ?_⟩
        rw [Oper.semAt_eq _ _ _ (hnd i o ho)]
        exact upon_in (fun a' w' h' => any_in hnd fuel _ a' w' h') hs
      · rw [if_neg hw] at hs ⊢
        exact ⟨fun _ _ => trivial, any_in hnd fuel _ _ _ hs⟩
def noDef (ops : Array Oper) : Bool := ops.toList.all fun o => match o.op with | .defer _ => false | _ => true
theorem noDef_spec {ops : Array Oper} (h : noDef ops = true) (i : Nat) (o : Oper) (ho : ops[i]? = some o) : ∀ c, o.op ≠ .defer c := by
  intro c e
  unfold noDef at h
  rw [List.all_eq_true] at h
  have h2 := h o (by rw [← Array.getElem?_toList] at ho; exact List.mem_of_getElem? ho)
  rw [e] at h2; cases h2
/-- A region that draws its order, in a round. -/
theorem region_in {Q : Exit → Act → World → Prop} {id : Nat} {a : Act} {w : World} (hm : P.follows .mixedOrders = true) (hnd : noDef ops = true)
    (h : wpAny P .any ops (QN (Q .normal)) ops.size (Array.replicate ops.size false) a w.drew) : (Code.region id ops true).wpIn (Fence.wide.inRound l) n P Q a w :=
  wpIn_region_any hm (any_in (fun i o ho => noDef_spec hnd i o ho) _ _ _ _ h)
end Go.Proofs.Ytnimmpidplfnnaa
