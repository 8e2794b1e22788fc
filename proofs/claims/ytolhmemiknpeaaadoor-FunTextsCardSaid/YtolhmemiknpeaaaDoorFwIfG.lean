/-
  Layer 8, the laws: three arguments.
-/
import Derived.Test.YtolhmemiknpeaaaDoorFuL
namespace Go.Proofs.YtolhmemiknpeaaaDoor
open Go.RowKit

theorem sa_three (w : World) (x y z : Vl) (u v t : Value) (o : Nat) (ty : TypeId) (ho : w.heap.size = o) (hx : SV w w.heap.size u [x]) (hy : SV w w.heap.size v [y]) (hz : SV w w.heap.size t [z]) :
    SA (w.alloc (.cells #[.bool false, .int .i64 0, u, .bool false, .int .i64 0, v, .bool false, .int .i64 0, t] ty)) (w.alloc (.cells #[.bool false, .int .i64 0, u, .bool false, .int .i64 0, v, .bool false, .int .i64 0, t] ty)).heap.size (.slice (some ⟨o, 0, none⟩) 3 3) [agOne x u, agOne y v, agOne z t] :=
  sa_new w _ ty [agOne x u, agOne y v, agOne z t] 3 o ho rfl rfl (fun a ha => by
    simp only [List.mem_cons, List.not_mem_nil, or_false] at ha
    rcases ha with rfl | rfl | rfl
    · exact hx
    · exact hy
    · exact hz)
theorem az_three (x y z : Vl) (u v t : Value) (hx : VOk x) (hy : VOk y) (hz : VOk z) : AZ [agOne x u, agOne y v, agOne z t] := by
  refine ⟨by show (3 : Nat) ≤ _; decide, by show (3 : Nat) ≤ _; decide, fun a ha => ?_⟩
  simp only [List.mem_cons, List.not_mem_nil, or_false] at ha
  rcases ha with rfl | rfl | rfl
  · exact ⟨by show (1 : Nat) ≤ _; decide, fun q hq => by simp [agOne] at hq; subst hq; exact hx⟩
  · exact ⟨by show (1 : Nat) ≤ _; decide, fun q hq => by simp [agOne] at hq; subst hq; exact hy⟩
  · exact ⟨by show (1 : Nat) ≤ _; decide, fun q hq => by simp [agOne] at hq; subst hq; exact hz⟩
end Go.Proofs.YtolhmemiknpeaaaDoor
