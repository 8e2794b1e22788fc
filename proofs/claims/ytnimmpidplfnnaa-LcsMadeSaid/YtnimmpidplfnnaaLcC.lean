/-
  Layer 15, the program: the table is filled.
-/
import Derived.Test.YtnimmpidplfnnaaLcB
import Derived.Test.YtnimmpidplfnnaaBaI
import Derived.Test.YtnimmpidplfnnaaRin
import Derived.Maps.OwnIn
namespace Go.Proofs.Ytnimmpidplfnnaa
open Go.RowKit Go.Shelf

attribute [local go_sem] Oper.semAt_some

/-- All that there was stays, but the blocks that R tells. -/
structure KpR (R : Nat → Prop) (w w' : World) : Prop where
  os : w'.os = w.os
  tape : w'.tape = w.tape
  output : w'.output = w.output
  size : w.heap.size ≤ w'.heap.size
  block : ∀ k, k < w.heap.size → ¬ R k → w'.heap[k]? = w.heap[k]?
theorem KpR.refl (R : Nat → Prop) (w : World) : KpR R w w := ⟨rfl, rfl, rfl, Nat.le_refl _, fun _ _ _ => rfl⟩
theorem KpR.trans {R : Nat → Prop} {a b c : World} (h : KpR R a b) (k : KpR R b c) : KpR R a c :=
  ⟨k.os.trans h.os, k.tape.trans h.tape, k.output.trans h.output, Nat.le_trans h.size k.size, fun j hj hr => (k.block j (Nat.lt_of_lt_of_le hj h.size) hr).trans (h.block j hj hr)⟩
theorem KpR.ofBelow {R : Nat → Prop} {w w' : World} (h : Below w.heap.size w w') : KpR R w w' := ⟨h.os, h.tape, h.output, h.size, fun k hk _ => h.block k hk⟩
theorem KpR.alloc {R : Nat → Prop} {a w : World} (h : KpR R a w) (o : Obj) : KpR R a (w.alloc o) := h.trans (KpR.ofBelow ((Below.refl _ _).alloc (Nat.le_refl _) _))
theorem KpR.setCell {R : Nat → Prop} {a w : World} (h : KpR R a w) (b o : Nat) (v : Value) (hb : R b ∨ a.heap.size ≤ b) : KpR R a (w.setCell ⟨b, o, none⟩ v) :=
  ⟨h.os, h.tape, h.output, by simpa using h.size, fun j hj hr => by
    rw [heap_setCell_other _ _ _ _ (by rcases hb with hb | hb; exact fun e => hr (by rw [e]; exact hb); show j ≠ b; omega)]; exact h.block j hj hr⟩
theorem KpR.drewN {R : Nat → Prop} {a w : World} (h : KpR R a w) (n : Nat) : KpR R a (w.drewN n) := ⟨h.os, h.tape, h.output, h.size, h.block⟩
theorem KpR.grown {R : Nat → Prop} {a X Y : World} {row : Option Nat} (h : KpR R a X) (hg : X.grownBy Y row) (hr : ∀ r, row = some r → a.heap.size ≤ r) : KpR R a Y :=
  ⟨hg.os.trans h.os, hg.tape.trans h.tape, hg.output.trans h.output, Nat.le_trans h.size hg.size, fun k hk hR => (hg.block k (Nat.lt_of_lt_of_le hk h.size) (fun e => by have := hr k e.symm; omega)).trans (h.block k hk hR)⟩
theorem KpR.grownR {R : Nat → Prop} {a X Y : World} {row : Option Nat} (h : KpR R a X) (hg : X.grownBy Y row) (hr : ∀ r, row = some r → a.heap.size ≤ r ∨ R r) : KpR R a Y :=
  ⟨hg.os.trans h.os, hg.tape.trans h.tape, hg.output.trans h.output, Nat.le_trans h.size hg.size, fun k hk hR => (hg.block k (Nat.lt_of_lt_of_le hk h.size) (fun e => by rcases hr k e.symm with h | h; omega; exact hR h)).trans (h.block k hk hR)⟩
theorem KpR.keeps {R : Nat → Prop} {W W' : World} {B : Nat} (h : KpR R W W') (hB : ∀ k, R k → k < B) : KeepsFrom B W W' := ⟨h.size, fun k o hk ho _ => (h.block k (Array.getElem?_eq_some_iff.1 ho).1 (fun hR => by have := hB k hR; omega)).trans ho⟩
theorem KpR.below {R : Nat → Prop} {W W' : World} {B : Nat} (h : KpR R W W') (hB : ∀ k, R k → B ≤ k) (hW : B ≤ W.heap.size) : Below B W W' := ⟨h.os, h.tape, h.output, h.size, fun k hk => h.block k (by omega) (fun hR => by have := hB k hR; omega)⟩
theorem KpR.mono {R R' : Nat → Prop} {W W' : World} (h : KpR R W W') (hR : ∀ k, k < W.heap.size → R k → R' k) : KpR R' W W' := ⟨h.os, h.tape, h.output, h.size, fun k hk hn => h.block k hk (fun h2 => hn (hR k hk h2))⟩
/-- The table's block. -/
def TblA (ga gb bl n m : Nat) : Array Value := #[.slice (some ⟨ga, 0, none⟩) n n, .slice (some ⟨gb, 0, none⟩) m m, .slice (some ⟨bl, 0, none⟩) (n + 1) (n + 1)]
def TblAt (w : World) (tb ga gb bl n m : Nat) : Prop := w.heap[tb]? = some (.cells (TblA ga gb bl n m) 46)
theorem TblAt.lt {w : World} {tb ga gb bl n m : Nat} (h : TblAt w tb ga gb bl n m) : tb < w.heap.size := (Array.getElem?_eq_some_iff.1 h).1
theorem TblAt.cells {w : World} {tb ga gb bl n m : Nat} (h : TblAt w tb ga gb bl n m) : w.cell? ⟨tb, 0, none⟩ = some (.slice (some ⟨ga, 0, none⟩) n n) ∧ w.cell? ⟨tb, 1, none⟩ = some (.slice (some ⟨gb, 0, none⟩) m m) ∧ w.cell? ⟨tb, 2, none⟩ = some (.slice (some ⟨bl, 0, none⟩) (n + 1) (n + 1)) :=
  ⟨cell_of_row w tb 0 _ _ _ h, cell_of_row w tb 1 _ _ _ h, cell_of_row w tb 2 _ _ _ h⟩
/-- The table, all of it. -/
abbrev TbN (w : World) (bl : Nat) (r : Nat → Nat) (n m : Nat) (g : Nat → Nat → Int) : Prop := TbP 25 3 w bl r (n + 1) (m + 1) (fun _ => true) g
/-- The rows. -/
def RowsB (r : Nat → Nat) (n k : Nat) : Prop := ∃ i, i < n + 1 ∧ k = r i
/-- Between two rounds of the outer range. -/
def FoI (w2 : World) (bl : Nat) (r : Nat → Nat) (n m : Nat) (na nb : List Int) (pre : List (Ti na)) (W : World) : Prop :=
  KpR (RowsB r n) w2 W ∧ ∃ g, TbN W bl r n m g ∧ (Okc na (pre.map (·.1)) → ∀ x y, x < n + 1 → y < m + 1 → g x y = gAt na nb (n - pre.length) 0 x y)
theorem TbP.stay {tr te : TypeId} {X Y : World} {bl : Nat} {r : Nat → Nat} {N M : Nat} {p : Nat → Bool} {g : Nat → Nat → Int} (h : TbP tr te X bl r N M p g) {row : Option Nat} (hg : X.grownBy Y row) (hr : ∀ k, row = some k → ∃ o : Obj, X.heap[k]? = some o ∧ o.isCells = false) : TbP tr te Y bl r N M p g := by
  refine h.keep fun b hlt hb => hg.block b hlt fun e => ?_
  obtain ⟨o, ho, hc⟩ := hr b e.symm
  rcases hb with rfl | ⟨i, hi, hp, rfl⟩
  · rw [h.head] at ho; cases ho; cases hc
  · rw [h.row i hi hp] at ho; cases ho; cases hc
theorem boxed_stay {X Y : World} {b : Nat} {t : TypeId} {v : Value} (h : Boxed X b t v) {row : Option Nat} (hg : X.grownBy Y row) (hr : ∀ k, row = some k → ∃ o : Obj, X.heap[k]? = some o ∧ o.isCells = false) : Boxed Y b t v :=
  (hg.block b h.lt (fun e => by obtain ⟨o, ho, hc⟩ := hr b e.symm; have h2 : X.heap[b]? = _ := h; rw [h2] at ho; cases ho; cases hc)).trans h
theorem KpR.drew {R : Nat → Prop} {a w : World} (h : KpR R a w) : KpR R a w.drew := ⟨h.os, h.tape, h.output, h.size, h.block⟩
theorem TbP.drew {tr te : TypeId} {w : World} {bl : Nat} {r : Nat → Nat} {N M : Nat} {p : Nat → Bool} {g : Nat → Nat → Int} (h : TbP tr te w bl r N M p g) : TbP tr te w.drew bl r N M p g := ⟨h.head, h.row, h.off, h.inj⟩
theorem foI_own {w2 : World} {bl : Nat} {r : Nat → Nat} {n m : Nat} {na nb : List Int} {B : Nat} (hB : w2.heap.size ≤ B) : OwnFrom B (FoI w2 bl r n m na nb) := by
  rintro pre X Y row ⟨h1, g, h2, h3⟩ hg hr
  exact ⟨h1.grown hg (fun k e => Nat.le_trans hB (hr k e).1), g, h2.stay hg (fun k e => (hr k e).2), h3⟩
/-- Between two rounds of the inner range, in the round of place i: from world W on. -/
def FiI (W : World) (bl : Nat) (r : Nat → Nat) (n m i : Nat) (na nb : List Int) (ok : Prop) (pre : List (Ti nb)) (W' : World) : Prop :=
  KpR (RowsB r n) W W' ∧ ∃ g, TbN W' bl r n m g ∧ (ok → Okc nb (pre.map (·.1)) → ∀ x y, x < n + 1 → y < m + 1 → g x y = gAt na nb i (m - pre.length) x y)
theorem fiI_own {W : World} {bl : Nat} {r : Nat → Nat} {n m i : Nat} {na nb : List Int} {ok : Prop} {B : Nat} (hB : W.heap.size ≤ B) : OwnFrom B (FiI W bl r n m i na nb ok) := by
  rintro pre X Y row ⟨h1, g, h2, h3⟩ hg hr
  exact ⟨h1.grown hg (fun k e => Nat.le_trans hB (hr k e).1), g, h2.stay hg (fun k e => (hr k e).2), h3⟩
theorem FiI.snoc {W W2 : World} {bl : Nat} {r : Nat → Nat} {n m i j : Nat} {na nb : List Int} {ok : Prop} {pre : List (Ti nb)} {o v : Int} {hy : nb[j]? = some o} {g : Nat → Nat → Int} (hK : KpR (RowsB r n) W W2) (hT : TbN W2 bl r n m (fun a b => if a = i ∧ b = j then v else g a b)) (hlb : nb.length = m)
    (hg : ok → Okc nb (pre.map (·.1)) → ∀ x y, x < n + 1 → y < m + 1 → g x y = gAt na nb i (m - pre.length) x y) (hv : (∀ x y, x < n + 1 → y < m + 1 → g x y = gAt na nb i (j + 1) x y) → v = (lcsAt na nb i j : Int)) (hl : pre.length < nb.length) : FiI W bl r n m i na nb ok (pre ++ [⟨(j, o), hy⟩]) W2 := by
  refine ⟨hK, _, hT, fun hok hc x y hx hy => ?_⟩
  rw [List.map_append] at hc
  obtain ⟨h1, h2⟩ := okc_snoc hc (by rw [List.length_map]; exact hl)
  rw [List.length_map] at h2
  have h2 : j + 1 + pre.length = nb.length := h2
  have h3 := hg hok h1
  rw [show m - pre.length = j + 1 from by omega] at h3
  rw [hv h3, List.length_append, List.length_singleton, show m - (pre.length + 1) = j from by omega, ← gAt_step na nb i j x y]
  by_cases e : x = i ∧ y = j
  · rw [if_pos e, if_pos e]
  · rw [if_neg e, if_neg e]; exact h3 x y hx hy
theorem fill_eq {na nb : List Int} {n m i j : Nat} {o t : Int} {g : Nat → Nat → Int} (hi : na[i]? = some t) (hj : nb[j]? = some o) (hla : na.length = n) (hlb : nb.length = m) (hn : n ≤ 200) (e : t = o) (h : ∀ x y, x < n + 1 → y < m + 1 → g x y = gAt na nb i (j + 1) x y) : IntKind.i64.wrap (1 + g (i + 1) (j + 1)) = (lcsAt na nb i j : Int) := by
  have h1 := (List.getElem?_eq_some_iff.1 hi).1
  have h2 := (List.getElem?_eq_some_iff.1 hj).1
  rw [h _ _ (by omega) (by omega), gAt_1, lcsAt_eq hi hj e, IntKind.wrap_i64]
  have := lcsAt_le na nb (i + 1) (j + 1)
  omega
theorem fill_ne {na nb : List Int} {n m i j : Nat} {o t : Int} {g : Nat → Nat → Int} (hi : na[i]? = some t) (hj : nb[j]? = some o) (hla : na.length = n) (hlb : nb.length = m) (e : t ≠ o) (h : ∀ x y, x < n + 1 → y < m + 1 → g x y = gAt na nb i (j + 1) x y) : max (g (i + 1) j) (g i (j + 1)) = (lcsAt na nb i j : Int) := by
  have h1 := (List.getElem?_eq_some_iff.1 hi).1
  have h2 := (List.getElem?_eq_some_iff.1 hj).1
  rw [h _ _ (by omega) (by omega), h _ _ (by omega) (by omega), gAt_1, gAt_0 _ _ _ _ _ (Nat.le_refl _), lcsAt_ne hi hj e]
  omega
set_option maxRecDepth 100000 in
set_option maxHeartbeats 8000000 in
theorem fill_any (w : World) (tb bl ga gb n m : Nat) (na nb : List Int) (r : Nat → Nat) (hT : TblAt w tb ga gb bl n m) (ha : RowN w ga na) (hb : RowN w gb nb) (hla : na.length = n) (hlb : nb.length = m) (hn : n ≤ 200) (hm : m ≤ 200)
    (ht : TbN w bl r n m (fun _ _ => 0)) (hga : ¬ RowsB r n ga) (hgb : ¬ RowsB r n gb) :
    Calls Try.prog 22 #[.pointer (some ⟨tb, 0, none⟩)] w fun e w' => (∃ v, e = .returned v) ∧ TbN w' bl r n m (fun x y => (lcsAt na nb x y : Int)) ∧ KpR (RowsB r n) w w' := by
  have hRT : ¬ RowsB r n tb := by
    rintro ⟨i, hi, e⟩
    have h1 := ht.row i hi rfl
    rw [← e] at h1
    have h2 : w.heap[tb]? = _ := hT
    rw [h2] at h1
    injection h1 with h1
    injection h1 with _ h1
    exact absurd h1 (by decide)
  have hRlt : ∀ k, RowsB r n k → k < w.heap.size := fun k ⟨i, hi, e⟩ => by rw [e]; exact ht.rlt hi rfl
  obtain ⟨z, hz⟩ : ∃ z, w.heap.size = z := ⟨_, rfl⟩
  obtain ⟨w1, hw1⟩ : ∃ w1, w.alloc (.cells #[.pointer (some ⟨tb, 0, none⟩)] 38) = w1 := ⟨_, rfl⟩
  have hB1 : Below w.heap.size w w1 := by rw [← hw1]; exact (Below.refl _ _).alloc (Nat.le_refl _) _
  have bz1 : Boxed w1 z 38 (.pointer (some ⟨tb, 0, none⟩)) := by rw [← hw1, ← hz]; exact Boxed.new w 38 _
  have hs1 : w1.heap.size = z + 1 := by rw [← hw1, ← hz]; simp
  have x0 : w1.cell? ⟨tb, 0, none⟩ = some (.slice (some ⟨ga, 0, none⟩) n n) := (hB1.cell (p := ⟨tb, 0, none⟩) hT.lt).trans hT.cells.1
  have y0 := bz1.cell
  have HT := Lib.hid hT; have HA := Lib.hid ha; have HB := Lib.hid hb; have HTT := Lib.hid ht; have HB1 := Lib.hid hB1; have HZ1 := Lib.hid bz1
  have HRT := Lib.hid hRT; have HRL := Lib.hid hRlt
  clear hT ha hb ht hB1 bz1 hRT hRlt
  refine (callsIn_wide (n := 8)).1 ?_
  refine callsIn_of_wp_marks Try.func22 rfl trivial ?_ rfl
  simp only [Try.ntmps22, List.size_toArray, List.length_cons, List.length_nil, Nat.reduceAdd, Nat.reduceSub, Array.replicate_succ, Array.replicate_zero, List.push_toArray, List.append_toArray, List.nil_append, List.cons_append]
  gi_wp2_with (refine ⟨trivial, ?_⟩; gi_at_call 26; refine (backwardI_in Fence.wide _ trivial rfl _ _ _ _).mono ?_; rintro e w' ⟨rfl, rfl⟩)
  have bS := Boxed.new w1 25 (.slice (some ⟨ga, 0, none⟩) n n)
  have hB2 : Below w1.heap.size w1 (w1.alloc (.cells #[.slice (some ⟨ga, 0, none⟩) n n] 25)) := (Below.refl _ _).alloc (Nat.le_refl _) _
  have bz2 := HZ1.out.alloc (.cells #[.slice (some ⟨ga, 0, none⟩) n n] 25)
  have hs2 : (w1.alloc (.cells #[.slice (some ⟨ga, 0, none⟩) n n] 25)).heap.size = z + 2 := by simp [hs1]
  obtain ⟨w2, hw2⟩ : ∃ w2, w1.alloc (.cells #[.slice (some ⟨ga, 0, none⟩) n n] 25) = w2 := ⟨_, rfl⟩
  rw [hw2] at bS hB2 bz2 hs2 ⊢
  rw [hs1] at bS
  clear hw2 hw1 x0 y0
  have hBB : Below w.heap.size w w2 := HB1.out.trans (hB2.mono (by omega))
  have hT2 : TblAt w2 tb ga gb bl n m := (hBB.block tb HT.out.lt).trans HT.out
  have hA2 : RowN w2 ga na := HA.out.keep (hBB.block ga HA.out.lt)
  have hB3 : RowN w2 gb nb := HB.out.keep (hBB.block gb HB.out.lt)
  have hTT2 := HTT.out.below hBB
  have hRz : ∀ k, RowsB r n k → k < z := fun k hk => by have := HRL.out k hk; omega
  have hgal := HA.out.lt
  have hgbl := HB.out.lt
  have htbl := HT.out.lt
  have HKB := Lib.hid hBB
  clear hBB hB2
  refine wpIn_rangeFunc_ownH (F := Fence.wide) (n := 8) rfl (by omega) (gf := 27) (lb := #[.pointer (some ⟨z + 1, 0, none⟩)]) rfl trivial (enters_of Try.func27 (by kernel_rfl) rfl)
    (backT_stops Fence.wide 7 trivial rfl (by omega) (z + 1) ga 0 n (some ⟨ga, 0, none⟩) na (by omega) w2 bS.lt (by omega) (by rw [hla]; exact bS.cell) (fun k x hx => ⟨rfl, by rw [Nat.zero_add]; exact hA2.cell hx⟩))
    Twos.trans (twosK_b bS.lt (by omega)) (Below.refl _ _) (fun _ => rfl)
    (FoI w2 bl r n m na nb) (fun _ _ _ => False) (foI_own (Nat.le_refl _)) (fun _ _ _ _ _ hs _ _ => hs) ⟨KpR.refl _ _, _, hTT2, fun _ x y hx hy => by rw [List.length_nil, Nat.sub_zero, ← hla, gAt_start]⟩
    (fun x a' W => ∃ p, w2.heap.size ≤ p ∧ Boxed W p 3 (.int .i64 (x.1.1 : Int)) ∧ Boxed W (p + 1) 3 (.int .i64 x.1.2) ∧ a' = { tmps := #[.pointer (some ⟨tb, 0, none⟩), .pointer (some ⟨z, 0, none⟩), .pointer (some ⟨p, 0, none⟩), .pointer (some ⟨p + 1, 0, none⟩), undef, undef, .pointer (some ⟨tb, 0, none⟩), .pointer (some ⟨tb, 0, none⟩), .pointer (some ⟨tb, 0, none⟩), .slice (some ⟨ga, 0, none⟩) n n, .func (.func 27) #[] #[.pointer (some ⟨z + 1, 0, none⟩)], .int .i64 (x.1.1 : Int), .int .i64 x.1.2, undef, undef, undef, undef, undef, undef, undef, undef, undef, undef, undef, undef, undef, undef, undef, undef, undef, undef, undef, undef, undef, undef, undef, undef, undef, undef, undef, undef, undef, undef, undef, undef, undef, undef, undef, undef, undef, undef, undef, undef, undef, undef, undef, undef, undef, undef, undef, undef, undef, undef, undef, undef, undef, undef, undef, undef, undef, undef, undef, undef, undef, undef, undef, undef], defers := [] })
    ?stay ?assign ?body ?done ?stop
  case stay =>
    rintro x a' s W W' row ⟨p, h1, h2, h3, h4⟩ hg hr
    have hr2 : ∀ r, row = some r → ∃ o : Obj, W.heap[r]? = some o ∧ o.isCells = false := fun r e => (hr r e).2
    exact ⟨p, h1, boxed_stay h2 hg hr2, boxed_stay h3 hg hr2, h4⟩
  case assign =>
    rintro l pre ⟨⟨i, t⟩, hx⟩ W K hI hK
    have hk2 := hI.1.size
    dsimp only
    gi_wp2
    have hKp : KpR (RowsB r n) W ((W.alloc (.cells #[.int .i64 (i : Int)] 3)).alloc (.cells #[.int .i64 t] 3)) := ((KpR.refl _ W).alloc _).alloc _
    refine hK _ _ (hKp.keeps (fun k hk => by have := hRz k hk; omega)) ⟨hKp.block _ (by omega) (fun hk => by have := hRz _ hk; omega), hKp.block _ (by omega) hga⟩ ?_ ⟨W.heap.size, hk2, (Boxed.new W 3 _).alloc _, ?_, rfl⟩
    · obtain ⟨h1, g, h2, h3⟩ := hI
      exact ⟨h1.trans hKp, g, h2.below (((Below.refl _ _).alloc (Nat.le_refl _) _).alloc (by simp) _), h3⟩
    · have h := Boxed.new (W.alloc (.cells #[.int .i64 (i : Int)] 3)) 3 (.int .i64 t)
      rwa [World.size_alloc] at h
  case body =>
    rintro l pre ⟨⟨i, t⟩, hx⟩ a' W hl ⟨r0, hr0⟩ ⟨hKW, g, hTW, hg⟩ ⟨p, hp2, hbi, hbt, rfl⟩ hlen
    have hx : na[i]? = some t := hx
    have hin : i < n := by have := (List.getElem?_eq_some_iff.1 hx).1; omega
    have hpl := hbt.lt
    have hk2 := hKW.size
    have nR : ∀ {k : Nat}, z ≤ k → ¬ RowsB r n k := fun h hk => by have := hRz _ hk; omega
    have u0 : W.cell? ⟨z, 0, none⟩ = some (.pointer (some ⟨tb, 0, none⟩)) := (World.cell?_of_block (a := ⟨z, 0, none⟩) (hKW.block z (by omega) (nR (Nat.le_refl _)))).trans bz2.cell
    have hTW1 : TblAt W tb ga gb bl n m := (hKW.block tb (by omega) HRT.out).trans hT2
    have u1 := hTW1.cells.2.1
    dsimp only
    gi_wp2_with (refine ⟨trivial, ?_⟩; gi_at_call 26; refine (CallsIn.inRound l (backwardI_in Fence.wide _ trivial rfl _ _ _ _)).mono ?_; rintro e w' ⟨rfl, rfl⟩)
    have bN := Boxed.new W 25 (.slice (some ⟨gb, 0, none⟩) m m)
    have hB5 : Below W.heap.size W (W.alloc (.cells #[.slice (some ⟨gb, 0, none⟩) m m] 25)) := (Below.refl _ _).alloc (Nat.le_refl _) _
    have hr1 : (W.alloc (.cells #[.slice (some ⟨gb, 0, none⟩) m m] 25)).heap[l]? = some (.loop r0) := (hB5.block l (Array.getElem?_eq_some_iff.1 hr0).1).trans hr0
    have hs5 : (W.alloc (.cells #[.slice (some ⟨gb, 0, none⟩) m m] 25)).heap.size = W.heap.size + 1 := by simp
    have hgbW : RowN (W.alloc (.cells #[.slice (some ⟨gb, 0, none⟩) m m] 25)) gb nb := hB3.keep ((hB5.block gb (by omega)).trans (hKW.block gb (by omega) hgb))
    refine wpIn_rangeFunc_ownN (F := Fence.wide.inRound l) (n := 8 - 1 - 1) (l₀ := l) (r₀ := r0) rfl hr1 (by omega) (gf := 27) (lb := #[.pointer (some ⟨W.heap.size, 0, none⟩)]) rfl trivial (enters_of Try.func27 (by kernel_rfl) rfl)
      ((backT_stops Fence.wide (8 - 1 - 1 - 1) trivial rfl (by omega) W.heap.size gb 0 m (some ⟨gb, 0, none⟩) nb (by omega) _ bN.lt (by omega) (by rw [hlb]; exact bN.cell) (fun k x hx => ⟨rfl, by rw [Nat.zero_add]; exact hgbW.cell hx⟩)).inRound l)
      Twos.trans (twosK_b bN.lt (by omega)) (Below.refl _ _) (fun _ => rfl)
      (FiI (W.alloc (.cells #[.slice (some ⟨gb, 0, none⟩) m m] 25)) bl r n m i na nb (Okc na (pre.map (·.1) ++ [(i, t)]))) (fun _ _ _ => False) (fiI_own (Nat.le_refl _)) (fun _ _ _ _ _ hs _ _ => hs)
      ⟨KpR.refl _ _, g, hTW.below hB5, fun hok _ x y hx2 hy2 => by
        obtain ⟨h1, h2⟩ := okc_snoc hok (by rw [List.length_map]; exact hlen)
        rw [List.length_map] at h2
        have h2 : i + 1 + pre.length = na.length := h2
        rw [hg h1 x y hx2 hy2, show n - pre.length = i + 1 from by omega, List.length_nil, Nat.sub_zero, ← hlb, gAt_row]⟩
      (fun (y : Ti nb) a'' _ => a'' = { tmps := #[.pointer (some ⟨tb, 0, none⟩), .pointer (some ⟨z, 0, none⟩), .pointer (some ⟨p, 0, none⟩), .pointer (some ⟨p + 1, 0, none⟩), .int .i64 (y.1.1 : Int), .int .i64 y.1.2, .pointer (some ⟨tb, 0, none⟩), .pointer (some ⟨tb, 0, none⟩), .pointer (some ⟨tb, 0, none⟩), .slice (some ⟨ga, 0, none⟩) n n, .func (.func 27) #[] #[.pointer (some ⟨z + 1, 0, none⟩)], .int .i64 (i : Int), .int .i64 t, .pointer (some ⟨tb, 0, none⟩), .pointer (some ⟨tb, 0, none⟩), .pointer (some ⟨tb, 1, none⟩), .slice (some ⟨gb, 0, none⟩) m m, .func (.func 27) #[] #[.pointer (some ⟨W.heap.size, 0, none⟩)], .int .i64 (y.1.1 : Int), .int .i64 y.1.2, undef, undef, undef, undef, undef, undef, undef, undef, undef, undef, undef, undef, undef, undef, undef, undef, undef, undef, undef, undef, undef, undef, undef, undef, undef, undef, undef, undef, undef, undef, undef, undef, undef, undef, undef, undef, undef, undef, undef, undef, undef, undef, undef, undef, undef, undef, undef, undef, undef, undef, undef, undef, undef, undef, undef, undef, undef], defers := [] })
      (fun _ _ _ _ _ _ hs _ _ => hs)
      ?assign2 ?body2 ?done2 ?stop2
    case assign2 =>
      rintro l2 pre2 ⟨⟨j, o⟩, hy⟩ W' K hi hK
      dsimp only
      gi_wp2
      exact hK _ _ (KeepsFrom.refl _ _) (Twos.refl _ _ _) hi rfl
    case body2 =>
      rintro l2 pre2 ⟨⟨j, o⟩, hy⟩ a'' W' - - ⟨hK5, g2, hT2', hg2⟩ rfl hlen2
      have hK2 := (KpR.ofBelow (R := RowsB r n) hB5).trans hK5
      have hy : nb[j]? = some o := hy
      have hjm : j < m := by have := (List.getElem?_eq_some_iff.1 hy).1; omega
      have hsW := hK5.size
      rw [hs5] at hsW
      have v0 : W'.cell? ⟨z, 0, none⟩ = some (.pointer (some ⟨tb, 0, none⟩)) := (World.cell?_of_block (a := ⟨z, 0, none⟩) (hK2.block z (by omega) (nR (Nat.le_refl _)))).trans u0
      have v1 : W'.cell? ⟨tb, 2, none⟩ = some (.slice (some ⟨bl, 0, none⟩) (n + 1) (n + 1)) := (World.cell?_of_block (a := ⟨tb, 2, none⟩) (hK2.block tb (by omega) HRT.out)).trans hTW1.cells.2.2
      have v2 : W'.cell? ⟨p, 0, none⟩ = some (.int .i64 (i : Int)) := (World.cell?_of_block (a := ⟨p, 0, none⟩) (hK2.block p (by omega) (nR (by omega)))).trans hbi.cell
      have v3 : W'.cell? ⟨p + 1, 0, none⟩ = some (.int .i64 t) := (World.cell?_of_block (a := ⟨p + 1, 0, none⟩) (hK2.block (p + 1) (by omega) (nR (by omega)))).trans hbt.cell
      have f0 := hT2'.melt2 (i := i) (by omega) rfl j
      have i1 : IntKind.i64.wrap ((i : Int) + 1) = (i : Int) + 1 := by rw [IntKind.wrap_i64]; omega
      have j1 : IntKind.i64.wrap ((j : Int) + 1) = (j : Int) + 1 := by rw [IntKind.wrap_i64]; omega
      have i2 : (i : Int) < (n : Int) + 1 := by omega
      have i3 : (i : Int) < (n : Int) := by omega
      have j2 : (j : Int) < (m : Int) + 1 := by omega
      have j3 : (j : Int) < (m : Int) := by omega
      have i4 : ((i : Int) + 1).toNat = i + 1 := by omega
      have j4 : ((j : Int) + 1).toNat = j + 1 := by omega
      have i5 : (0 : Int) ≤ (i : Int) + 1 := by omega
      have j5 : (0 : Int) ≤ (j : Int) + 1 := by omega
      have hKd : KpR (RowsB r n) W' W'.drew := (KpR.refl _ _).drew
      have HTd := Lib.hid hT2'
      have hKf : ∀ v : Value, KpR (RowsB r n) W' (W'.setCell ⟨r i, j, none⟩ v).drew := fun v => ((KpR.refl _ _).setCell _ _ _ (.inl ⟨i, by omega, rfl⟩)).drew
      have HMK := Lib.hid (show ∀ (X : World) (g' : Nat → Nat → Int), KpR (RowsB r n) W' X → TbN X bl r n m g' → g' (i + 1) (j + 1) = g2 (i + 1) (j + 1) → g' (i + 1) j = g2 (i + 1) j → g' i (j + 1) = g2 i (j + 1) → (fun X : World => X.cell? ⟨z, 0, none⟩ = some (.pointer (some ⟨tb, 0, none⟩)) ∧ X.cell? ⟨tb, 2, none⟩ = some (.slice (some ⟨bl, 0, none⟩) (n + 1) (n + 1)) ∧ X.cell? ⟨p, 0, none⟩ = some (.int .i64 (i : Int)) ∧ X.cell? ⟨bl, i, none⟩ = some (.slice (some ⟨r i, 0, none⟩) (m + 1) (m + 1)) ∧ X.cell? ⟨bl, i + 1, none⟩ = some (.slice (some ⟨r (i + 1), 0, none⟩) (m + 1) (m + 1)) ∧ X.cell? ⟨r (i + 1), j + 1, none⟩ = some (.int .i64 (g2 (i + 1) (j + 1))) ∧ X.cell? ⟨r (i + 1), j, none⟩ = some (.int .i64 (g2 (i + 1) j)) ∧ X.cell? ⟨r i, j + 1, none⟩ = some (.int .i64 (g2 i (j + 1)))) X from
        fun X g' hk ht e1 e2 e3 => ⟨(World.cell?_of_block (a := ⟨z, 0, none⟩) (hk.block z (by omega) (nR (Nat.le_refl _)))).trans v0, (World.cell?_of_block (a := ⟨tb, 2, none⟩) (hk.block tb (by omega) HRT.out)).trans v1, (World.cell?_of_block (a := ⟨p, 0, none⟩) (hk.block p (by omega) (nR (by omega)))).trans v2, ht.cell1 (i := i) (by omega) rfl, ht.cell1 (i := i + 1) (by omega) rfl, by rw [ht.cell2 (i := i + 1) (j := j + 1) (by omega) rfl (by omega), e1], by rw [ht.cell2 (i := i + 1) (j := j) (by omega) rfl (by omega), e2], by rw [ht.cell2 (i := i) (j := j + 1) (by omega) rfl (by omega), e3]⟩)
      have f1 := hT2'.cell2 (i := i) (j := j) (by omega) rfl (by omega)
      clear hT2'
      by_cases e : t = o
      · have e1 : (t == o) = true := by rw [e]; exact beq_self_eq_true o
        have HE := Lib.hid e
        clear e
        dsimp only
        gi_wp2
        have HS0 : (fun X : World => X.cell? ⟨z, 0, none⟩ = some (.pointer (some ⟨tb, 0, none⟩)) ∧ X.cell? ⟨tb, 2, none⟩ = some (.slice (some ⟨bl, 0, none⟩) (n + 1) (n + 1)) ∧ X.cell? ⟨p, 0, none⟩ = some (.int .i64 (i : Int)) ∧ X.cell? ⟨bl, i, none⟩ = some (.slice (some ⟨r i, 0, none⟩) (m + 1) (m + 1)) ∧ X.cell? ⟨bl, i + 1, none⟩ = some (.slice (some ⟨r (i + 1), 0, none⟩) (m + 1) (m + 1)) ∧ X.cell? ⟨r (i + 1), j + 1, none⟩ = some (.int .i64 (g2 (i + 1) (j + 1))) ∧ X.cell? ⟨r (i + 1), j, none⟩ = some (.int .i64 (g2 (i + 1) j)) ∧ X.cell? ⟨r i, j + 1, none⟩ = some (.int .i64 (g2 i (j + 1)))) W'.drew := HMK.out _ _ hKd (TbP.drew HTd.out) rfl rfl rfl
        refine region_in (by kernel_rfl) (by kernel_rfl) (wpAny_of_held (S := (fun X : World => X.cell? ⟨z, 0, none⟩ = some (.pointer (some ⟨tb, 0, none⟩)) ∧ X.cell? ⟨tb, 2, none⟩ = some (.slice (some ⟨bl, 0, none⟩) (n + 1) (n + 1)) ∧ X.cell? ⟨p, 0, none⟩ = some (.int .i64 (i : Int)) ∧ X.cell? ⟨bl, i, none⟩ = some (.slice (some ⟨r i, 0, none⟩) (m + 1) (m + 1)) ∧ X.cell? ⟨bl, i + 1, none⟩ = some (.slice (some ⟨r (i + 1), 0, none⟩) (m + 1) (m + 1)) ∧ X.cell? ⟨r (i + 1), j + 1, none⟩ = some (.int .i64 (g2 (i + 1) (j + 1))) ∧ X.cell? ⟨r (i + 1), j, none⟩ = some (.int .i64 (g2 (i + 1) j)) ∧ X.cell? ⟨r i, j + 1, none⟩ = some (.int .i64 (g2 i (j + 1))))) _ _ _ _ ?_)
        show wpAnyH _ _ _ _ _ 23 #[false, false, false, false, false, false, false, false, false, false, false, false, false, false, false, false, false, false, false, false, false, false, false] _ _
        refine hV 0 HS0 ?_ (hQ := (fun _ _ _ h => (by cases h.1)))
        refine hV 1 HS0 ?_ (hQ := (fun _ _ _ h => (by cases h.1)))
        refine hV 2 HS0 ?_ (hQ := (fun _ _ _ h => (by cases h.1)))
        refine hV 3 HS0 ?_ (hQ := (fun _ _ _ h => (by cases h.1)))
        refine hV 4 HS0 ?_ (hQ := (fun _ _ _ h => (by cases h.1)))
        refine hV 5 HS0 ?_ (hQ := (fun _ _ _ h => (by cases h.1)))
        refine hV 6 HS0 ?_ (hQ := (fun _ _ _ h => (by cases h.1)))
        refine hV 7 HS0 ?_ (hQ := (fun _ _ _ h => (by cases h.1)))
        refine hV 8 HS0 ?_ (hQ := (fun _ _ _ h => (by cases h.1)))
        refine hV 9 HS0 ?_ (hQ := (fun _ _ _ h => (by cases h.1)))
        refine hV 10 HS0 ?_ (hQ := (fun _ _ _ h => (by cases h.1)))
        refine hV 11 HS0 ?_ (hQ := (fun _ _ _ h => (by cases h.1)))
        refine hV 12 HS0 ?_ (hQ := (fun _ _ _ h => (by cases h.1)))
        refine hV 13 HS0 ?_ (hQ := (fun _ _ _ h => (by cases h.1)))
        refine hV 14 HS0 ?_ (hQ := (fun _ _ _ h => (by cases h.1)))
        refine hV 15 HS0 ?_ (hQ := (fun _ _ _ h => (by cases h.1)))
        refine hV 16 HS0 ?_ (hQ := (fun _ _ _ h => (by cases h.1)))
        refine hV 17 HS0 ?_ (hQ := (fun _ _ _ h => (by cases h.1)))
        refine hV 18 HS0 ?_ (hQ := (fun _ _ _ h => (by cases h.1)))
        refine hV 19 HS0 ?_ (hQ := (fun _ _ _ h => (by cases h.1)))
        refine hV 20 HS0 ?_ (hQ := (fun _ _ _ h => (by cases h.1)))
        refine hV 21 HS0 ?_ (hQ := (fun _ _ _ h => (by cases h.1)))
        refine hO 22 (fun K hK => ?_)
        go_simp
        refine hK.out undef _ (HMK.out _ _ (hKf _) (TbP.drew (HTd.out.set (by omega) rfl j _)) (if_neg (by omega)) (if_neg (by omega)) (if_neg (by omega))) ?_
        clear hK K
        refine wpAnyH_done (by kernel_rfl) ?_ _
        refine ⟨rfl, ?_⟩
        gi_wp2
        all_goals exact ⟨(hKf _).keeps (fun k hk => by have := hRz k hk; omega), ⟨(hKf _).block _ (by omega) (nR (by omega)), (hKf _).block _ (by omega) hgb⟩, FiI.snoc (hK5.trans (hKf _)) (TbP.drew (HTd.out.set (by omega) rfl j _)) hlb hg2 (fun h => fill_eq hx hy hla hlb hn HE.out h) hlen2⟩
      · have e1 : (t == o) = false := by rw [beq_eq_false_iff_ne]; exact e
        have HE := Lib.hid e
        clear e
        dsimp only
        gi_wp2
        have HS0 : (fun X : World => X.cell? ⟨z, 0, none⟩ = some (.pointer (some ⟨tb, 0, none⟩)) ∧ X.cell? ⟨tb, 2, none⟩ = some (.slice (some ⟨bl, 0, none⟩) (n + 1) (n + 1)) ∧ X.cell? ⟨p, 0, none⟩ = some (.int .i64 (i : Int)) ∧ X.cell? ⟨bl, i, none⟩ = some (.slice (some ⟨r i, 0, none⟩) (m + 1) (m + 1)) ∧ X.cell? ⟨bl, i + 1, none⟩ = some (.slice (some ⟨r (i + 1), 0, none⟩) (m + 1) (m + 1)) ∧ X.cell? ⟨r (i + 1), j + 1, none⟩ = some (.int .i64 (g2 (i + 1) (j + 1))) ∧ X.cell? ⟨r (i + 1), j, none⟩ = some (.int .i64 (g2 (i + 1) j)) ∧ X.cell? ⟨r i, j + 1, none⟩ = some (.int .i64 (g2 i (j + 1)))) W'.drew := HMK.out _ _ hKd (TbP.drew HTd.out) rfl rfl rfl
        refine region_in (by kernel_rfl) (by kernel_rfl) (wpAny_of_held (S := (fun X : World => X.cell? ⟨z, 0, none⟩ = some (.pointer (some ⟨tb, 0, none⟩)) ∧ X.cell? ⟨tb, 2, none⟩ = some (.slice (some ⟨bl, 0, none⟩) (n + 1) (n + 1)) ∧ X.cell? ⟨p, 0, none⟩ = some (.int .i64 (i : Int)) ∧ X.cell? ⟨bl, i, none⟩ = some (.slice (some ⟨r i, 0, none⟩) (m + 1) (m + 1)) ∧ X.cell? ⟨bl, i + 1, none⟩ = some (.slice (some ⟨r (i + 1), 0, none⟩) (m + 1) (m + 1)) ∧ X.cell? ⟨r (i + 1), j + 1, none⟩ = some (.int .i64 (g2 (i + 1) (j + 1))) ∧ X.cell? ⟨r (i + 1), j, none⟩ = some (.int .i64 (g2 (i + 1) j)) ∧ X.cell? ⟨r i, j + 1, none⟩ = some (.int .i64 (g2 i (j + 1))))) _ _ _ _ ?_)
        show wpAnyH _ _ _ _ _ 33 #[false, false, false, false, false, false, false, false, false, false, false, false, false, false, false, false, false, false, false, false, false, false, false, false, false, false, false, false, false, false, false, false, false] _ _
        refine hV 0 HS0 ?_ (hQ := (fun _ _ _ h => (by cases h.1)))
        refine hV 1 HS0 ?_ (hQ := (fun _ _ _ h => (by cases h.1)))
        refine hV 2 HS0 ?_ (hQ := (fun _ _ _ h => (by cases h.1)))
        refine hV 3 HS0 ?_ (hQ := (fun _ _ _ h => (by cases h.1)))
        refine hV 4 HS0 ?_ (hQ := (fun _ _ _ h => (by cases h.1)))
        refine hV 5 HS0 ?_ (hQ := (fun _ _ _ h => (by cases h.1)))
        refine hV 6 HS0 ?_ (hQ := (fun _ _ _ h => (by cases h.1)))
        refine hV 7 HS0 ?_ (hQ := (fun _ _ _ h => (by cases h.1)))
        refine hV 8 HS0 ?_ (hQ := (fun _ _ _ h => (by cases h.1)))
        refine hV 9 HS0 ?_ (hQ := (fun _ _ _ h => (by cases h.1)))
        refine hV 10 HS0 ?_ (hQ := (fun _ _ _ h => (by cases h.1)))
        refine hV 11 HS0 ?_ (hQ := (fun _ _ _ h => (by cases h.1)))
        refine hV 12 HS0 ?_ (hQ := (fun _ _ _ h => (by cases h.1)))
        refine hV 13 HS0 ?_ (hQ := (fun _ _ _ h => (by cases h.1)))
        refine hV 14 HS0 ?_ (hQ := (fun _ _ _ h => (by cases h.1)))
        refine hV 15 HS0 ?_ (hQ := (fun _ _ _ h => (by cases h.1)))
        refine hV 16 HS0 ?_ (hQ := (fun _ _ _ h => (by cases h.1)))
        refine hV 17 HS0 ?_ (hQ := (fun _ _ _ h => (by cases h.1)))
        refine hV 18 HS0 ?_ (hQ := (fun _ _ _ h => (by cases h.1)))
        refine hV 19 HS0 ?_ (hQ := (fun _ _ _ h => (by cases h.1)))
        refine hV 20 HS0 ?_ (hQ := (fun _ _ _ h => (by cases h.1)))
        refine hV 21 HS0 ?_ (hQ := (fun _ _ _ h => (by cases h.1)))
        refine hV 22 HS0 ?_ (hQ := (fun _ _ _ h => (by cases h.1)))
        refine hV 23 HS0 ?_ (hQ := (fun _ _ _ h => (by cases h.1)))
        refine hV 24 HS0 ?_ (hQ := (fun _ _ _ h => (by cases h.1)))
        refine hV 25 HS0 ?_ (hQ := (fun _ _ _ h => (by cases h.1)))
        refine hV 26 HS0 ?_ (hQ := (fun _ _ _ h => (by cases h.1)))
        refine hV 27 HS0 ?_ (hQ := (fun _ _ _ h => (by cases h.1)))
        refine hV 28 HS0 ?_ (hQ := (fun _ _ _ h => (by cases h.1)))
        refine hV 29 HS0 ?_ (hQ := (fun _ _ _ h => (by cases h.1)))
        refine hV 30 HS0 ?_ (hQ := (fun _ _ _ h => (by cases h.1)))
        refine hV 31 HS0 ?_ (hQ := (fun _ _ _ h => (by cases h.1)))
        refine hO 32 (fun K hK => ?_)
        go_simp
        refine hK.out undef _ (HMK.out _ _ (hKf _) (TbP.drew (HTd.out.set (by omega) rfl j _)) (if_neg (by omega)) (if_neg (by omega)) (if_neg (by omega))) ?_
        clear hK K
        refine wpAnyH_done (by kernel_rfl) ?_ _
        refine ⟨rfl, ?_⟩
        gi_wp2
        all_goals exact ⟨(hKf _).keeps (fun k hk => by have := hRz k hk; omega), ⟨(hKf _).block _ (by omega) (nR (by omega)), (hKf _).block _ (by omega) hgb⟩, FiI.snoc (hK5.trans (hKf _)) (TbP.drew (HTd.out.set (by omega) rfl j _)) hlb hg2 (fun h => by have h9 := fill_ne hx hy hla hlb HE.out h; omega) hlen2⟩
    case done2 =>
      rintro ys W' hys ⟨hK5, g2, hT2', hg2⟩
      have hK2 := (KpR.ofBelow (R := RowsB r n) hB5).trans hK5
      gi_wp2
      refine ⟨hK2.keeps (fun k hk => by have := hRz k hk; omega), ⟨hK2.block _ (by omega) (nR (by omega)), hK2.block _ (by omega) hga⟩, hKW.trans hK2, g2, hT2', fun hok x y hx2 hy2 => ?_⟩
      rw [List.map_append] at hok
      rw [hg2 hok (by rw [hys]; exact okc_all _) x y hx2 hy2]
      obtain ⟨h1, h2⟩ := okc_snoc hok (by rw [List.length_map]; exact hlen)
      rw [List.length_map] at h2
      have h2 : i + 1 + pre.length = na.length := h2
      have hyl := congrArg List.length hys
      rw [List.length_map, cameI_len] at hyl
      rw [List.length_append, List.length_singleton, show n - (pre.length + 1) = i from by omega, show m - ys.length = 0 from by omega]
    case stop2 =>
      rintro c pre' W' _ h
      exact h.elim
  case done =>
    rintro D ys W hD hys ⟨hKW, g, hTW, hg⟩ hK
    gi_wp2
    have hgr := grownBy_putObj' W D (.deferred none)
    have hr : ∀ r, some D = some r → ∃ o : Obj, W.heap[r]? = some o ∧ o.isCells = false := fun r e => by cases e; exact ⟨_, hK, rfl⟩
    refine ⟨by simp, .inl ⟨_, _, rfl, run_takeDeferred hK, ?_⟩⟩
    refine ⟨_, results_none rfl _ _ _, ⟨_, rfl⟩, ?_, ?_⟩
    · refine (hTW.stay hgr hr).congr (fun _ _ => rfl) fun x y hx hy => ?_
      have hyl := congrArg List.length hys
      rw [List.length_map, cameI_len] at hyl
      rw [hg (by rw [hys]; exact okc_all _) x y hx hy, show n - ys.length = 0 from by omega, gAt_eq]
    · exact ((KpR.ofBelow HKB.out).trans hKW).grown hgr (fun k e => by cases e; have := HKB.out.size; omega)
  case stop =>
    rintro D c pre W _ _ h _
    exact h.elim
end Go.Proofs.Ytnimmpidplfnnaa
