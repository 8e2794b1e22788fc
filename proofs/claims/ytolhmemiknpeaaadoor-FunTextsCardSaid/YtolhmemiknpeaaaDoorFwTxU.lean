/-
  Layer 8, the law: texts: what it works on.
-/
import Derived.Test.YtolhmemiknpeaaaDoorFuL
import Derived.Test.YtolhmemiknpeaaaDoorFzA
import Derived.Test.YtolhmemiknpeaaaDoorVaC
namespace Go.Proofs.YtolhmemiknpeaaaDoor
open Go.RowKit

theorem call_LEFT (w : World) (v : Value) (ags : List Ag) (h : SA w w.heap.size v ags) (hz : AZ ags) (ht : Tab w) (he : EtV w) : Calls Tryd.prog 6 #[.string ⟨#[76, 69, 70, 84]⟩, v] w fun e w' => e = .returned (.agg #[.int .i64 (callV 2 2 0 false ags (leftV (textV (sglA ags 0)) (nbV (sglA ags 1) 0) (nbOk (sglA ags 1) 0))).k, .int .i64 (callV 2 2 0 false ags (leftV (textV (sglA ags 0)) (nbV (sglA ags 1) 0) (nbOk (sglA ags 1) 0))).n, .string (callV 2 2 0 false ags (leftV (textV (sglA ags 0)) (nbV (sglA ags 1) 0) (nbOk (sglA ags 1) 0))).s]) ∧ Below w.heap.size w w' :=
  call_any w v ags ⟨#[76, 69, 70, 84]⟩ 2 2 0 false 22 (leftV (textV (sglA ags 0)) (nbV (sglA ags 1) 0) (nbOk (sglA ags 1) 0)) (by decide) h hz (fun c => tab_row (i := 11) rfl) (Go.Proofs.enters_of Tryd.func22 (by kernel_rfl) rfl)
    (fun hs _ W hW => left_any W v ags ((h.below hW (Nat.le_refl _)).mono hW.size) hz (by have := suit_len hs; omega) (ht.below hW) (he.below hW))
theorem call_RIGHT (w : World) (v : Value) (ags : List Ag) (h : SA w w.heap.size v ags) (hz : AZ ags) (ht : Tab w) (he : EtV w) : Calls Tryd.prog 6 #[.string ⟨#[82, 73, 71, 72, 84]⟩, v] w fun e w' => e = .returned (.agg #[.int .i64 (callV 2 2 0 false ags (rightV (textV (sglA ags 0)) (nbV (sglA ags 1) 0) (nbOk (sglA ags 1) 0))).k, .int .i64 (callV 2 2 0 false ags (rightV (textV (sglA ags 0)) (nbV (sglA ags 1) 0) (nbOk (sglA ags 1) 0))).n, .string (callV 2 2 0 false ags (rightV (textV (sglA ags 0)) (nbV (sglA ags 1) 0) (nbOk (sglA ags 1) 0))).s]) ∧ Below w.heap.size w w' :=
  call_any w v ags ⟨#[82, 73, 71, 72, 84]⟩ 2 2 0 false 23 (rightV (textV (sglA ags 0)) (nbV (sglA ags 1) 0) (nbOk (sglA ags 1) 0)) (by decide) h hz (fun c => tab_row (i := 12) rfl) (Go.Proofs.enters_of Tryd.func23 (by kernel_rfl) rfl)
    (fun hs _ W hW => right_any W v ags ((h.below hW (Nat.le_refl _)).mono hW.size) hz (by have := suit_len hs; omega) (ht.below hW) (he.below hW))
theorem call_MID (w : World) (v : Value) (ags : List Ag) (h : SA w w.heap.size v ags) (hz : AZ ags) (ht : Tab w) (he : EtV w) : Calls Tryd.prog 6 #[.string ⟨#[77, 73, 68]⟩, v] w fun e w' => e = .returned (.agg #[.int .i64 (callV 3 3 0 false ags (midV (textV (sglA ags 0)) (nbV (sglA ags 1) 1) (nbOk (sglA ags 1) 1) (nbV (sglA ags 2) 0) (nbOk (sglA ags 2) 0))).k, .int .i64 (callV 3 3 0 false ags (midV (textV (sglA ags 0)) (nbV (sglA ags 1) 1) (nbOk (sglA ags 1) 1) (nbV (sglA ags 2) 0) (nbOk (sglA ags 2) 0))).n, .string (callV 3 3 0 false ags (midV (textV (sglA ags 0)) (nbV (sglA ags 1) 1) (nbOk (sglA ags 1) 1) (nbV (sglA ags 2) 0) (nbOk (sglA ags 2) 0))).s]) ∧ Below w.heap.size w w' :=
  call_any w v ags ⟨#[77, 73, 68]⟩ 3 3 0 false 24 (midV (textV (sglA ags 0)) (nbV (sglA ags 1) 1) (nbOk (sglA ags 1) 1) (nbV (sglA ags 2) 0) (nbOk (sglA ags 2) 0)) (by decide) h hz (fun c => tab_row (i := 13) rfl) (Go.Proofs.enters_of Tryd.func24 (by kernel_rfl) rfl)
    (fun hs _ W hW => middle_any W v ags ((h.below hW (Nat.le_refl _)).mono hW.size) hz (by have := suit_len hs; omega) (ht.below hW) (he.below hW))
theorem call_LEN (w : World) (v : Value) (ags : List Ag) (h : SA w w.heap.size v ags) (hz : AZ ags) (ht : Tab w) (he : EtV w) : Calls Tryd.prog 6 #[.string ⟨#[76, 69, 78]⟩, v] w fun e w' => e = .returned (.agg #[.int .i64 (callV 1 1 0 false ags (Vl.num (textV (sglA ags 0)).size)).k, .int .i64 (callV 1 1 0 false ags (Vl.num (textV (sglA ags 0)).size)).n, .string (callV 1 1 0 false ags (Vl.num (textV (sglA ags 0)).size)).s]) ∧ Below w.heap.size w w' :=
  call_any w v ags ⟨#[76, 69, 78]⟩ 1 1 0 false 21 (Vl.num (textV (sglA ags 0)).size) (by decide) h hz (fun c => tab_row (i := 10) rfl) (Go.Proofs.enters_of Tryd.func21 (by kernel_rfl) rfl)
    (fun hs _ W hW => length_any W v ags ((h.below hW (Nat.le_refl _)).mono hW.size) hz (by have := suit_len hs; omega) (ht.below hW) (he.below hW))
theorem tx_faults (s : ByteArray) (ns : List Int) (u : Value) (vs : List Value) : faultA (agOne (Vl.text s) u :: (ns.zip vs).map (fun p => agOne (Vl.num p.1) p.2)) = none := faultA_none _ (fun a ha x hx => by
  rcases List.mem_cons.1 ha with rfl | ha
  · simp [agOne] at hx; subst hx; show ¬ (2 : Int) = 4; decide
  · obtain ⟨p, _, rfl⟩ := List.mem_map.1 ha
    simp [agOne] at hx; subst hx; show ¬ (1 : Int) = 4; decide)
theorem nb_num (k l : Int) (h : l ≤ k) : nbOk (Vl.num k) l = true ∧ nbV (Vl.num k) l = k := by
  have h1 : nbOk (Vl.num k) l = true := by
    show (true && decide (¬ k < l)) = true
    rw [decide_eq_true (by omega)]; rfl
  exact ⟨h1, by unfold nbV; rw [if_pos h1]; rfl⟩
theorem left_is (s : ByteArray) (k : Nat) (u v : Value) : callV 2 2 0 false [agOne (Vl.text s) u, agOne (Vl.num k) v] (leftV (textV (sglA [agOne (Vl.text s) u, agOne (Vl.num k) v] 0)) (nbV (sglA [agOne (Vl.text s) u, agOne (Vl.num k) v] 1) 0) (nbOk (sglA [agOne (Vl.text s) u, agOne (Vl.num k) v] 1) 0)) = Vl.text (s.extract 0 (min k s.size)) := by
  rw [callV_ok (suit_ones 2 2 _ (by show (2 : Int) ≤ ((2 : Nat) : Int); decide) (by show ((2 : Nat) : Int) ≤ 2; decide) (fun a ha => by
    simp only [List.mem_cons, List.not_mem_nil, or_false] at ha
    rcases ha with rfl | rfl <;> rfl)) (show faultA [agOne (Vl.text s) u, agOne (Vl.num (k : Int)) v] = none from tx_faults s [(k : Int)] u [v])]
  obtain ⟨h1, h2⟩ := nb_num (k : Int) 0 (by omega)
  show leftV s (nbV (Vl.num k) 0) (nbOk (Vl.num k) 0) = _
  rw [h1, h2]; rfl
theorem right_is (s : ByteArray) (k : Nat) (u v : Value) : callV 2 2 0 false [agOne (Vl.text s) u, agOne (Vl.num k) v] (rightV (textV (sglA [agOne (Vl.text s) u, agOne (Vl.num k) v] 0)) (nbV (sglA [agOne (Vl.text s) u, agOne (Vl.num k) v] 1) 0) (nbOk (sglA [agOne (Vl.text s) u, agOne (Vl.num k) v] 1) 0)) = Vl.text (s.extract (s.size - min k s.size) s.size) := by
  rw [callV_ok (suit_ones 2 2 _ (by show (2 : Int) ≤ ((2 : Nat) : Int); decide) (by show ((2 : Nat) : Int) ≤ 2; decide) (fun a ha => by
    simp only [List.mem_cons, List.not_mem_nil, or_false] at ha
    rcases ha with rfl | rfl <;> rfl)) (show faultA [agOne (Vl.text s) u, agOne (Vl.num (k : Int)) v] = none from tx_faults s [(k : Int)] u [v])]
  obtain ⟨h1, h2⟩ := nb_num (k : Int) 0 (by omega)
  show rightV s (nbV (Vl.num k) 0) (nbOk (Vl.num k) 0) = _
  rw [h1, h2]; rfl
theorem mid_is (s : ByteArray) (f k : Nat) (u v t : Value) : callV 3 3 0 false [agOne (Vl.text s) u, agOne (Vl.num (1 + (f : Int))) v, agOne (Vl.num k) t] (midV (textV (sglA [agOne (Vl.text s) u, agOne (Vl.num (1 + (f : Int))) v, agOne (Vl.num k) t] 0)) (nbV (sglA [agOne (Vl.text s) u, agOne (Vl.num (1 + (f : Int))) v, agOne (Vl.num k) t] 1) 1) (nbOk (sglA [agOne (Vl.text s) u, agOne (Vl.num (1 + (f : Int))) v, agOne (Vl.num k) t] 1) 1) (nbV (sglA [agOne (Vl.text s) u, agOne (Vl.num (1 + (f : Int))) v, agOne (Vl.num k) t] 2) 0) (nbOk (sglA [agOne (Vl.text s) u, agOne (Vl.num (1 + (f : Int))) v, agOne (Vl.num k) t] 2) 0)) = Vl.text (s.extract (min f s.size) (min s.size (min f s.size + k))) := by
  rw [callV_ok (suit_ones 3 3 _ (by show (3 : Int) ≤ ((3 : Nat) : Int); decide) (by show ((3 : Nat) : Int) ≤ 3; decide) (fun a ha => by
    simp only [List.mem_cons, List.not_mem_nil, or_false] at ha
    rcases ha with rfl | rfl | rfl <;> rfl)) (show faultA [agOne (Vl.text s) u, agOne (Vl.num (1 + (f : Int))) v, agOne (Vl.num (k : Int)) t] = none from tx_faults s [1 + (f : Int), (k : Int)] u [v, t])]
  obtain ⟨h1, h2⟩ := nb_num (1 + (f : Int)) 1 (by omega)
  obtain ⟨h3, h4⟩ := nb_num (k : Int) 0 (by omega)
  show midV s (nbV (Vl.num (1 + (f : Int))) 1) (nbOk (Vl.num (1 + (f : Int))) 1) (nbV (Vl.num k) 0) (nbOk (Vl.num k) 0) = _
  rw [h1, h2, h3, h4]
  unfold midV
  rw [if_pos ⟨rfl, rfl⟩, show (1 + (f : Int) - 1).toNat = f by omega, Int.toNat_natCast]
  congr 1
  have hm : min f s.size ≤ s.size := Nat.min_le_right _ _
  generalize min f s.size = m at hm
  have hsz : (s.extract m s.size).size = s.size - m := by rw [ByteArray.size_extract]; omega
  rw [hsz, ByteArray.extract_extract]
  congr 1 <;> omega
theorem len_is (s : ByteArray) (u : Value) : callV 1 1 0 false [agOne (Vl.text s) u] (Vl.num (textV (sglA [agOne (Vl.text s) u] 0)).size) = Vl.num s.size := by
  rw [callV_ok (suit_ones 1 1 _ (by show (1 : Int) ≤ ((1 : Nat) : Int); decide) (by show ((1 : Nat) : Int) ≤ 1; decide) (fun a ha => by
    simp only [List.mem_singleton] at ha
    subst ha; rfl)) (show faultA [agOne (Vl.text s) u] = none from tx_faults s [] u [])]
  rfl
/-- What was made between two steps: places for what comes. -/
def ZG (w0 : World) (rs : List Nat) (w : World) : Prop := Aft w0 w ∧ rs.Nodup ∧ ∀ r ∈ rs, VlAt w r Vl.none ∧ w0.heap.size ≤ r
theorem ZG.a1 {w0 w : World} {rs : List Nat} (h : ZG w0 rs w) (r : Nat) (hr : w.heap.size = r) : ZG w0 (r :: rs) (w.alloc (.cells #[.int .i64 0, .int .i64 0, .string ⟨#[]⟩] 24)) := by
  obtain ⟨h2, h5, h4⟩ := h
  refine ⟨h2.allocR _, List.nodup_cons.2 ⟨fun hm => by have := (h4 r hm).1.lt; omega, h5⟩, ?_⟩
  intro x hx
  rcases List.mem_cons.1 hx with rfl | hx
  · subst hr; exact ⟨VlAt.zero w, h2.size⟩
  · exact ⟨(h4 x hx).1.over (below_z w), (h4 x hx).2⟩
theorem ZG.over {w0 w w' : World} {rs : List Nat} (h : ZG w0 rs w) (hb : Below w.heap.size w w') : ZG w0 rs w' := by
  obtain ⟨h2, h5, h4⟩ := h
  exact ⟨h2.trans hb, h5, fun r hr => ⟨(h4 r hr).1.over hb, (h4 r hr).2⟩⟩
theorem ZG.any {w0 w : World} {rs : List Nat} (h : ZG w0 rs w) (o : Obj) : ZG w0 rs (w.alloc o) := h.over (Aft.alloc w o)
theorem SA.next {w w' : World} {v : Value} {ags : List Ag} (h : SA w w.heap.size v ags) (hb : Aft w w') : SA w' w'.heap.size v ags := (h.below hb (Nat.le_refl _)).mono hb.size
theorem az_one (x : Vl) (u : Value) (hx : VOk x) : AZ [agOne x u] := by
  refine ⟨by show (1 : Nat) ≤ _; decide, by show (1 : Nat) ≤ _; decide, fun a ha => ?_⟩
  simp only [List.mem_singleton] at ha
  subst ha
  exact ⟨by show (1 : Nat) ≤ _; decide, fun q hq => by simp [agOne] at hq; subst hq; exact hx⟩
theorem sa_one (w : World) (x : Vl) (u : Value) (z : Nat) (t : TypeId) (hz : w.heap.size = z) (hx : SV w w.heap.size u [x]) :
    SA (w.alloc (.cells #[.bool false, .int .i64 0, u] t)) (w.alloc (.cells #[.bool false, .int .i64 0, u] t)).heap.size (.slice (some ⟨z, 0, none⟩) 1 1) [agOne x u] :=
  sa_new w _ t [agOne x u] 1 z hz rfl rfl (fun a ha => by
    simp only [List.mem_singleton] at ha
    subst ha; exact hx)
theorem ZG.put1 {w0 w : World} {r : Nat} (h : ZG w0 [r] w) (x : Vl) : VlAt (((w.setCell ⟨r, 0, none⟩ (.int .i64 x.k)).setCell ⟨r, 1, none⟩ (.int .i64 x.n)).setCell ⟨r, 2, none⟩ (.string x.s)) r x ∧ Aft w0 (((w.setCell ⟨r, 0, none⟩ (.int .i64 x.k)).setCell ⟨r, 1, none⟩ (.int .i64 x.n)).setCell ⟨r, 2, none⟩ (.string x.s)) := by
  obtain ⟨h2, _, h4⟩ := h
  have k := h4 r (by simp)
  exact ⟨k.1.put3 x, belowV3 (show Below w0.heap.size w0 w from h2) k.2 x⟩
theorem ZG.new1 {w0 w : World} (h : ZG w0 [] w) (x : Vl) : VlAt (w.alloc (.cells #[.int .i64 x.k, .int .i64 x.n, .string x.s] 24)) w.heap.size x ∧ Aft w0 (w.alloc (.cells #[.int .i64 x.k, .int .i64 x.n, .string x.s] 24)) := ⟨VlAt.new w x, h.1.allocR _⟩
theorem ZG.ov {w0 w w' : World} {rs : List Nat} (h : ZG w0 rs w) (hb : Aft w w') : ZG w0 rs w' := h.over hb
theorem tx_all (k f n : Nat) (hk : k < 60) (hf : f < 60) (hn : n ≤ 200) : ∃ i fr tt j : Nat, min k n = i ∧ min f n = fr ∧ min n (fr + k) = tt ∧ n - i = j ∧ min (k : Int) (n : Int) = (i : Int) ∧ min (f : Int) (n : Int) = (fr : Int) ∧ min (n : Int) ((fr : Int) + (k : Int)) = (tt : Int) ∧
    wrap64 (1 + (f : Int) - 1) = (f : Int) ∧ wrap64 ((fr : Int) + (k : Int)) = (fr : Int) + (k : Int) ∧ wrap64 ((n : Int) - (i : Int)) = (j : Int) ∧ (i : Int) ≤ (n : Int) ∧ (j : Int) ≤ (n : Int) ∧ (fr : Int) ≤ (tt : Int) ∧ (tt : Int) ≤ (n : Int) := by
  have h1 : min k n ≤ n := Nat.min_le_right _ _
  have h2 : min f n ≤ n := Nat.min_le_right _ _
  refine ⟨min k n, min f n, min n (min f n + k), n - min k n, rfl, rfl, rfl, rfl, by omega, by omega, ?_, ?_, ?_, ?_, by omega, by omega, ?_, by omega⟩
  · generalize min f n = a at h2; omega
  · unfold wrap64; omega
  · generalize min f n = a at h2; unfold wrap64; omega
  · generalize min k n = a at h1; unfold wrap64; omega
  · generalize min f n = a at h2; omega
theorem sizeD (w : World) : w.drew.heap.size = w.heap.size := rfl
theorem size1 (w : World) (o : Obj) : (w.alloc o).heap.size = w.heap.size + 1 := World.size_alloc w o
theorem size2 (w : World) (o p : Obj) : ((w.alloc o).alloc p).heap.size = w.heap.size + 1 + 1 := by rw [World.size_alloc, World.size_alloc]
theorem ZG.done {w0 w : World} {r s : Nat} (h : ZG w0 [r, s] w) (x y : Vl) :
    (VlAt ((((((w.setCell ⟨r, 0, none⟩ (.int .i64 x.k)).setCell ⟨r, 1, none⟩ (.int .i64 x.n)).setCell ⟨r, 2, none⟩ (.string x.s)).setCell ⟨s, 0, none⟩ (.int .i64 y.k)).setCell ⟨s, 1, none⟩ (.int .i64 y.n)).setCell ⟨s, 2, none⟩ (.string y.s)) r x
    ∧ VlAt ((((((w.setCell ⟨r, 0, none⟩ (.int .i64 x.k)).setCell ⟨r, 1, none⟩ (.int .i64 x.n)).setCell ⟨r, 2, none⟩ (.string x.s)).setCell ⟨s, 0, none⟩ (.int .i64 y.k)).setCell ⟨s, 1, none⟩ (.int .i64 y.n)).setCell ⟨s, 2, none⟩ (.string y.s)) s y
    ∧ Below w0.heap.size w0 ((((((w.setCell ⟨r, 0, none⟩ (.int .i64 x.k)).setCell ⟨r, 1, none⟩ (.int .i64 x.n)).setCell ⟨r, 2, none⟩ (.string x.s)).setCell ⟨s, 0, none⟩ (.int .i64 y.k)).setCell ⟨s, 1, none⟩ (.int .i64 y.n)).setCell ⟨s, 2, none⟩ (.string y.s))) := by
  obtain ⟨h2, h5, h4⟩ := h
  have h2 : Below w0.heap.size w0 w := h2
  have k1 := h4 r (by simp)
  have k2 := h4 s (by simp)
  have hne : r ≠ s := fun e => (List.nodup_cons.1 h5).1 (by rw [e]; simp)
  exact ⟨(k1.1.put3 x).far (fun e => hne e.symm) y, (k2.1.far hne x).put3 y, belowV3 (belowV3 h2 (by omega) x) (by omega) y⟩
theorem ZG.one {w0 w : World} {s : Nat} (h : ZG w0 [s] w) (x y : Vl) :
    VlAt ((((w.setCell ⟨s, 0, none⟩ (.int .i64 x.k)).setCell ⟨s, 1, none⟩ (.int .i64 x.n)).setCell ⟨s, 2, none⟩ (.string x.s)).alloc (.cells #[.int .i64 y.k, .int .i64 y.n, .string y.s] 24)) s x
    ∧ VlAt ((((w.setCell ⟨s, 0, none⟩ (.int .i64 x.k)).setCell ⟨s, 1, none⟩ (.int .i64 x.n)).setCell ⟨s, 2, none⟩ (.string x.s)).alloc (.cells #[.int .i64 y.k, .int .i64 y.n, .string y.s] 24)) w.heap.size y
    ∧ Below w0.heap.size w0 ((((w.setCell ⟨s, 0, none⟩ (.int .i64 x.k)).setCell ⟨s, 1, none⟩ (.int .i64 x.n)).setCell ⟨s, 2, none⟩ (.string x.s)).alloc (.cells #[.int .i64 y.k, .int .i64 y.n, .string y.s] 24)) := by
  obtain ⟨h2, _, h4⟩ := h
  have h2 : Below w0.heap.size w0 w := h2
  have k2 := h4 s (by simp)
  have hp := k2.1.put3 x
  have hb := belowV3 h2 (show w0.heap.size ≤ s by omega) x
  have hn := VlAt.new (((w.setCell ⟨s, 0, none⟩ (.int .i64 x.k)).setCell ⟨s, 1, none⟩ (.int .i64 x.n)).setCell ⟨s, 2, none⟩ (.string x.s)) y
  rw [World.size_setCell, World.size_setCell, World.size_setCell] at hn
  exact ⟨hp.over (below_vl _ y), hn, hb.trans ((below_vl _ y).mono hb.size)⟩
theorem ZG.one2 {w0 w : World} {s : Nat} (h : ZG w0 [s] w) (x y : Vl) :
    VlAt ((((w.setCell ⟨s, 0, none⟩ (.int .i64 y.k)).setCell ⟨s, 1, none⟩ (.int .i64 y.n)).setCell ⟨s, 2, none⟩ (.string y.s)).alloc (.cells #[.int .i64 x.k, .int .i64 x.n, .string x.s] 24)) w.heap.size x
    ∧ VlAt ((((w.setCell ⟨s, 0, none⟩ (.int .i64 y.k)).setCell ⟨s, 1, none⟩ (.int .i64 y.n)).setCell ⟨s, 2, none⟩ (.string y.s)).alloc (.cells #[.int .i64 x.k, .int .i64 x.n, .string x.s] 24)) s y
    ∧ Below w0.heap.size w0 ((((w.setCell ⟨s, 0, none⟩ (.int .i64 y.k)).setCell ⟨s, 1, none⟩ (.int .i64 y.n)).setCell ⟨s, 2, none⟩ (.string y.s)).alloc (.cells #[.int .i64 x.k, .int .i64 x.n, .string x.s] 24)) := by
  obtain ⟨h5, h6, h7⟩ := ZG.one h y x
  exact ⟨h6, h5, h7⟩
theorem ZG.two {w0 w : World}  (h : ZG w0 [] w) (x y : Vl) :
    VlAt ((w.alloc (.cells #[.int .i64 x.k, .int .i64 x.n, .string x.s] 24)).alloc (.cells #[.int .i64 y.k, .int .i64 y.n, .string y.s] 24)) w.heap.size x ∧ VlAt ((w.alloc (.cells #[.int .i64 x.k, .int .i64 x.n, .string x.s] 24)).alloc (.cells #[.int .i64 y.k, .int .i64 y.n, .string y.s] 24)) (w.heap.size + 1) y ∧ Below w0.heap.size w0 ((w.alloc (.cells #[.int .i64 x.k, .int .i64 x.n, .string x.s] 24)).alloc (.cells #[.int .i64 y.k, .int .i64 y.n, .string y.s] 24)) := by
  obtain ⟨h2, _, _⟩ := h
  have h2 : Below w0.heap.size w0 w := h2
  have b1 := below_vl w x
  have b2 := below_vl (w.alloc (.cells #[.int .i64 x.k, .int .i64 x.n, .string x.s] 24)) y
  have hn := VlAt.new (w.alloc (.cells #[.int .i64 x.k, .int .i64 x.n, .string x.s] 24)) y
  rw [World.size_alloc] at hn
  exact ⟨(VlAt.new w x).over b2, hn, (h2.trans (b1.mono h2.size)).trans (b2.mono (h2.trans (b1.mono h2.size)).size)⟩
theorem ZG.two2 {w0 w : World}  (h : ZG w0 [] w) (x y : Vl) :
    VlAt ((w.alloc (.cells #[.int .i64 y.k, .int .i64 y.n, .string y.s] 24)).alloc (.cells #[.int .i64 x.k, .int .i64 x.n, .string x.s] 24)) (w.heap.size + 1) x ∧ VlAt ((w.alloc (.cells #[.int .i64 y.k, .int .i64 y.n, .string y.s] 24)).alloc (.cells #[.int .i64 x.k, .int .i64 x.n, .string x.s] 24)) w.heap.size y ∧ Below w0.heap.size w0 ((w.alloc (.cells #[.int .i64 y.k, .int .i64 y.n, .string y.s] 24)).alloc (.cells #[.int .i64 x.k, .int .i64 x.n, .string x.s] 24)) := by
  obtain ⟨h5, h6, h7⟩ := ZG.two h y x
  exact ⟨h6, h5, h7⟩
theorem ZG.swap {w0 w : World} {r s : Nat} (h : ZG w0 [r, s] w) : ZG w0 [s, r] w := by
  obtain ⟨h2, h5, h4⟩ := h
  refine ⟨h2, ?_, fun x hx => h4 x (by simp at hx ⊢; exact hx.symm)⟩
  have hne : r ≠ s := fun e => (List.nodup_cons.1 h5).1 (by rw [e]; simp)
  exact List.nodup_cons.2 ⟨by simp; exact fun e => hne e.symm, by simp⟩
end Go.Proofs.YtolhmemiknpeaaaDoor
