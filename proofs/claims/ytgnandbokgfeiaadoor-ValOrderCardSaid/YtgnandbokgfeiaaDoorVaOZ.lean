/-
  Layer 7, the law: comparisons are an order: all.
-/
import Derived.Test.YtgnandbokgfeiaaDoorVaOA
import Derived.Test.YtgnandbokgfeiaaDoorVaOB
import Derived.Test.YtgnandbokgfeiaaDoorVaOC
namespace Go.Proofs.YtgnandbokgfeiaaDoor
open Go.RowKit

theorem valOrder_any (k l m a b c : Int) (s t u : ByteArray) (k0 : 0 ≤ k) (l0 : 0 ≤ l) (m0 : 0 ≤ m) (k1 : k ≤ 255) (l1 : l ≤ 255) (m1 : m ≤ 255) (a0 : -9223372036854775808 ≤ a) (a1 : a ≤ 9223372036854775807) (b0 : -9223372036854775808 ≤ b) (b1 : b ≤ 9223372036854775807) (c0 : -9223372036854775808 ≤ c) (c1 : c ≤ 9223372036854775807) (w : World) (ht : Tab w) (he : EtV w) :
    Calls Tryd.prog 6 #[.int .u8 k, .int .u8 l, .int .u8 m, .int .i64 a, .int .i64 b, .int .i64 c, .string s, .string t, .string u] w fun e w' => e = .returned (.bool true) ∧ Below w.heap.size w w' := by
  by_cases g0 : 300 < s.size
  · exact valOrder_far0 k l m a b c s t u  g0 w ht he
  by_cases g1 : 300 < t.size
  · exact valOrder_far1 k l m a b c s t u  g0 g1 w ht he
  by_cases g2 : 300 < u.size
  · exact valOrder_far2 k l m a b c s t u  g0 g1 g2 w ht he
  by_cases g3 : k % 5 = 4
  · exact valOrder_far3 k l m a b c s t u k0 g0 g1 g2 g3 w ht he
  by_cases g4 : l % 5 = 4
  · exact valOrder_far4 k l m a b c s t u k0 l0 g0 g1 g2 g3 g4 w ht he
  by_cases g5 : m % 5 = 4
  · exact valOrder_far5 k l m a b c s t u k0 l0 m0 g0 g1 g2 g3 g4 g5 w ht he
  by_cases g6 : k % 5 = 0
  · exact valOrder_far6 k l m a b c s t u k0 l0 m0 g0 g1 g2 g3 g4 g5 g6 w ht he
  by_cases g7 : l % 5 = 0
  · exact valOrder_far7 k l m a b c s t u k0 l0 m0 g0 g1 g2 g3 g4 g5 g6 g7 w ht he
  by_cases g8 : m % 5 = 0
  · exact valOrder_far8 k l m a b c s t u k0 l0 m0 g0 g1 g2 g3 g4 g5 g6 g7 g8 w ht he
  have hx := make_any k a s k0 k1
  have hy := make_any l b t l0 l1
  have hz := make_any m c u m0 m1
  have nx := make_ne (k % 5) a s (by omega)
  have ny := make_ne (l % 5) b t (by omega)
  have nz := make_ne (m % 5) c u (by omega)
  have ox := ok_make (k % 5) a s a0 a1
  have oy := ok_make (l % 5) b t b0 b1
  have oz := ok_make (m % 5) c u c0 c1
  generalize makeV (k % 5) a s = x at hx nx ox
  generalize makeV (l % 5) b t = y at hy ny oy
  generalize makeV (m % 5) c u = z at hz nz oz
  have h3 := cmpV_three x y nx.1 ny.1
  have hf := cmpV_flip x y nx.1 ny.1
  have htr := cmpV_trans x y z nx.1 ny.1 nz.1
  have lt := fun (p q : Vl) (np : ¬ p.k = 4) (nq : ¬ q.k = 4) (op : VOk p) (oq : VOk q) (N : Int) (h : (if decide (cmpV p q < 0) = true then (1 : Int) else 0) = N) => two_cmp 11 p q (decide (cmpV p q < 0)) N np nq op oq (by unfold opV; rw [if_neg (by decide), if_neg (by decide), if_pos rfl]) h
  have gt := fun (p q : Vl) (np : ¬ p.k = 4) (nq : ¬ q.k = 4) (op : VOk p) (oq : VOk q) (N : Int) (h : (if decide (0 < cmpV p q) = true then (1 : Int) else 0) = N) => two_cmp 13 p q (decide (0 < cmpV p q)) N np nq op oq (by unfold opV; rw [if_neg (by decide), if_neg (by decide), if_neg (by decide), if_neg (by decide), if_pos rfl]) h
  have eq := fun (p q : Vl) (np : ¬ p.k = 4) (nq : ¬ q.k = 4) (op : VOk p) (oq : VOk q) (N : Int) (h : (if decide (cmpV p q = 0) = true then (1 : Int) else 0) = N) => two_cmp 9 p q (decide (cmpV p q = 0)) N np nq op oq (by unfold opV; rw [if_pos rfl]) h
  have le := fun (p q : Vl) (np : ¬ p.k = 4) (nq : ¬ q.k = 4) (op : VOk p) (oq : VOk q) (N : Int) (h : (if decide (cmpV p q ≤ 0) = true then (1 : Int) else 0) = N) => two_cmp 12 p q (decide (cmpV p q ≤ 0)) N np nq op oq (by unfold opV; rw [if_neg (by decide), if_neg (by decide), if_neg (by decide), if_pos rfl]) h
  have ge := fun (p q : Vl) (np : ¬ p.k = 4) (nq : ¬ q.k = 4) (op : VOk p) (oq : VOk q) (N : Int) (h : (if decide (0 ≤ cmpV p q) = true then (1 : Int) else 0) = N) => two_cmp 14 p q (decide (0 ≤ cmpV p q)) N np nq op oq (by unfold opV; rw [if_neg (by decide), if_neg (by decide), if_neg (by decide), if_neg (by decide), if_neg (by decide), if_pos rfl]) h
  have ne := fun (p q : Vl) (np : ¬ p.k = 4) (nq : ¬ q.k = 4) (op : VOk p) (oq : VOk q) (N : Int) (h : (if decide (¬ cmpV p q = 0) = true then (1 : Int) else 0) = N) => two_cmp 10 p q (decide (¬ cmpV p q = 0)) N np nq op oq (by unfold opV; rw [if_neg (by decide), if_pos rfl]) h
  have yes : ∀ {P : Prop} [Decidable P], P → (if decide P = true then (1 : Int) else 0) = 1 := fun h => by rw [decide_eq_true h]; rfl
  have no : ∀ {P : Prop} [Decidable P], ¬ P → (if decide P = true then (1 : Int) else 0) = 0 := fun h => by rw [decide_eq_false h]; rfl
  rcases h3 with h3 | h3 | h3
  · by_cases hd : cmpV y z ≤ 0
    · exact valOrder_a1 k l m a b c s t u k0 l0 m0 g0 g1 g2 g3 g4 g5 g6 g7 g8 x y z hx hy hz (lt x y nx.2 ny.2 ox oy 1 (yes (by omega))) (gt x y nx.2 ny.2 ox oy 0 (no (by omega))) (eq x y nx.2 ny.2 ox oy 0 (no (by omega))) (le x y nx.2 ny.2 ox oy 1 (yes (by omega))) (ge x y nx.2 ny.2 ox oy 0 (no (by omega))) (ne x y nx.2 ny.2 ox oy 1 (yes (by omega))) (gt y x ny.2 nx.2 oy ox 1 (yes (by omega))) (le y z ny.2 nz.2 oy oz 1 (yes hd)) (le x z nx.2 nz.2 ox oz 1 (yes (htr (by omega) hd))) w ht he
    · exact valOrder_a0 k l m a b c s t u k0 l0 m0 g0 g1 g2 g3 g4 g5 g6 g7 g8 x y z hx hy hz (lt x y nx.2 ny.2 ox oy 1 (yes (by omega))) (gt x y nx.2 ny.2 ox oy 0 (no (by omega))) (eq x y nx.2 ny.2 ox oy 0 (no (by omega))) (le x y nx.2 ny.2 ox oy 1 (yes (by omega))) (ge x y nx.2 ny.2 ox oy 0 (no (by omega))) (ne x y nx.2 ny.2 ox oy 1 (yes (by omega))) (gt y x ny.2 nx.2 oy ox 1 (yes (by omega))) (le y z ny.2 nz.2 oy oz 0 (no hd)) w ht he
  · by_cases hd : cmpV y z ≤ 0
    · exact valOrder_c1 k l m a b c s t u k0 l0 m0 g0 g1 g2 g3 g4 g5 g6 g7 g8 x y z hx hy hz (lt x y nx.2 ny.2 ox oy 0 (no (by omega))) (gt x y nx.2 ny.2 ox oy 0 (no (by omega))) (eq x y nx.2 ny.2 ox oy 1 (yes (by omega))) (le x y nx.2 ny.2 ox oy 1 (yes (by omega))) (ge x y nx.2 ny.2 ox oy 1 (yes (by omega))) (ne x y nx.2 ny.2 ox oy 0 (no (by omega))) (gt y x ny.2 nx.2 oy ox 0 (no (by omega))) (le y z ny.2 nz.2 oy oz 1 (yes hd)) (le x z nx.2 nz.2 ox oz 1 (yes (htr (by omega) hd))) w ht he
    · exact valOrder_c0 k l m a b c s t u k0 l0 m0 g0 g1 g2 g3 g4 g5 g6 g7 g8 x y z hx hy hz (lt x y nx.2 ny.2 ox oy 0 (no (by omega))) (gt x y nx.2 ny.2 ox oy 0 (no (by omega))) (eq x y nx.2 ny.2 ox oy 1 (yes (by omega))) (le x y nx.2 ny.2 ox oy 1 (yes (by omega))) (ge x y nx.2 ny.2 ox oy 1 (yes (by omega))) (ne x y nx.2 ny.2 ox oy 0 (no (by omega))) (gt y x ny.2 nx.2 oy ox 0 (no (by omega))) (le y z ny.2 nz.2 oy oz 0 (no hd)) w ht he
  · by_cases hd : cmpV y z ≤ 0
    · exact valOrder_b1 k l m a b c s t u k0 l0 m0 g0 g1 g2 g3 g4 g5 g6 g7 g8 x y z hx hy hz (lt x y nx.2 ny.2 ox oy 0 (no (by omega))) (gt x y nx.2 ny.2 ox oy 1 (yes (by omega))) (eq x y nx.2 ny.2 ox oy 0 (no (by omega))) (le x y nx.2 ny.2 ox oy 0 (no (by omega))) (ge x y nx.2 ny.2 ox oy 1 (yes (by omega))) (ne x y nx.2 ny.2 ox oy 1 (yes (by omega))) (gt y x ny.2 nx.2 oy ox 0 (no (by omega))) (le y z ny.2 nz.2 oy oz 1 (yes hd)) w ht he
    · exact valOrder_b0 k l m a b c s t u k0 l0 m0 g0 g1 g2 g3 g4 g5 g6 g7 g8 x y z hx hy hz (lt x y nx.2 ny.2 ox oy 0 (no (by omega))) (gt x y nx.2 ny.2 ox oy 1 (yes (by omega))) (eq x y nx.2 ny.2 ox oy 0 (no (by omega))) (le x y nx.2 ny.2 ox oy 0 (no (by omega))) (ge x y nx.2 ny.2 ox oy 1 (yes (by omega))) (ne x y nx.2 ny.2 ox oy 1 (yes (by omega))) (gt y x ny.2 nx.2 oy ox 0 (no (by omega))) (le y z ny.2 nz.2 oy oz 0 (no hd)) w ht he
end Go.Proofs.YtgnandbokgfeiaaDoor
