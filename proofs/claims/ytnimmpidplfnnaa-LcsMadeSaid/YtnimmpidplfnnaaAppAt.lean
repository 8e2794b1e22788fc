/-
  Appends to slices that the call made, at one operation: where the new one lies (parted off).
-/
import Derived.Test.YtnimmpidplfnnaaOwnAt
import Derived.Test.YtnimmpidplfnnaaHeld
namespace Go.Proofs.Ytnimmpidplfnnaa
open Go.RowKit

theorem wp_app_at {P : Program} {α : Type} {size t e bytes : Nat} {w : World} {o : Oper} {a : Act} {K : Act → World → Prop} {Q : Exit → Act → World → Prop} (EL : Elem P t e size bytes) (E : Enc α size)
    (s x : Operand) (ho : o.op = .call { callee := .builtin .append, args := #[s, x], argTypes := #[t, t] }) (base : Nat) (v : Value) (xs : List α)
    (hs : a.eval s = v) (hown : Own E e w base v xs) (ad : Addr) (m c : Nat) (ys : List α) (hx : a.eval x = .slice (some ad) m c) (hl : ys.length = m)
    (hc : ∀ (j : Nat) (u : Value), (E.all ys)[j]? = some u → w.cell? (ad.add j) = some u) (hb : (xs.length + m) * bytes ≤ 140737488355328) (hb2 : xs.length + m ≤ maxLen) (hbase : base ≤ w.heap.size)
    (h : ∀ (v' : Value) (w' : World), Own E e w' base v' (xs ++ ys) → w.grownBy w' v.ownBlock → (v'.ownBlock = v.ownBlock ∨ v'.ownBlock = some w.heap.size) → K (a.put o.dst v') w') : Oper.wp P o a w K Q := by
  obtain ⟨z, hi, hz⟩ := EL.inf
  obtain ⟨i, hi1, hi2, hi3, hi4⟩ := info_parts hi
  obtain ⟨v', w', hrun, r1, r2, _, r4⟩ := run_append_own_at (P := P) w base t o.type e i z size bytes EL.und hi1 hi2 hi3 hi4 hz EL.pos v xs.length (E.all xs) hown ad m c (E.all ys) (by rw [E.length_all, hl]) hc (E.one_all ys) hb2 hb hbase
  unfold Oper.wp
  simp [execOp, ho, resolve, invoke, builtin, hs, hx, hrun, Result.andThen]
  refine h v' w' ?_ r2 r4
  unfold Own; rw [E.all_append, List.length_append, hl]; exact r1
end Go.Proofs.Ytnimmpidplfnnaa
