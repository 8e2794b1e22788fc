/-
  sha.mixBlock: a block's rounds.
-/
import Derived.Test.YtlghholonjmeaaaDoorShaA
namespace Go.Proofs.YtlghholonjmeaaaDoor
open Go.RowKit

def kn : List Int := [1116352408, 1899447441, 3049323471, 3921009573, 961987163, 1508970993, 2453635748, 2870763221, 3624381080, 310598401, 607225278, 1426881987, 1925078388, 2162078206, 2614888103, 3248222580, 3835390401, 4022224774, 264347078, 604807628, 770255983, 1249150122, 1555081692, 1996064986, 2554220882, 2821834349, 2952996808, 3210313671, 3336571891, 3584528711, 113926993, 338241895, 666307205, 773529912, 1294757372, 1396182291, 1695183700, 1986661051, 2177026350, 2456956037, 2730485921, 2820302411, 3259730800, 3345764771, 3516065817, 3600352804, 4094571909, 275423344, 430227734, 506948616, 659060556, 883997877, 958139571, 1322822218, 1537002063, 1747873779, 1955562222, 2024104815, 2227730452, 2361852424, 2428436474, 2756734187, 3204031479, 3329325298]
def W32 (a : Int) : Prop := 0 ≤ a ∧ a ≤ 4294967295
theorem kn_bd (i : Nat) : W32 (kn.getD i 0) := by
  by_cases h : i < 64
  · have : ∀ i, i < 64 → W32 (kn.getD i 0) := by unfold W32; decide +kernel
    exact this i h
  · have : kn.getD i 0 = 0 := by rw [List.getD_eq_getElem?_getD, List.getElem?_eq_none (by show 64 ≤ i; omega)]; rfl
    rw [this]; unfold W32; omega

def rstep (l : List Int) (k w : Int) : List Int :=
  match l with
  | [a, b, c, d, e, f, g, h] =>
    let first := (h + xor3 (rotw e 6) (rotw e 11) (rotw e 25) + bits .xor .u32 (bits .and .u32 e f) (bits .and .u32 (bits .xor .u32 IntKind.u32.max e) g) + k + w) % 4294967296
    let second := (xor3 (rotw a 2) (rotw a 13) (rotw a 22) + bits .xor .u32 (bits .xor .u32 (bits .and .u32 a b) (bits .and .u32 a c)) (bits .and .u32 b c)) % 4294967296
    [(first + second) % 4294967296, a, b, c, (d + first) % 4294967296, e, f, g]
  | _ => []
def rounds (s : List Int) (ws : List Int) : Nat → List Int
  | 0 => s
  | k + 1 => rstep (rounds s ws k) (kn.getD k 0) (ws.getD k 0)
theorem W32_mod (a : Int) : W32 (a % 4294967296) := by unfold W32; omega
theorem rounds_bd (s ws : List Int) (h : ∀ a ∈ s, W32 a) (k : Nat) : ∀ a ∈ rounds s ws k, W32 a := by
  induction k with
  | zero => exact h
  | succ k ih =>
    rw [rounds]
    generalize rounds s ws k = l at ih
    unfold rstep
    split
    · simp only [List.mem_cons, List.not_mem_nil, or_false, forall_eq_or_imp, forall_eq] at ih ⊢
      exact ⟨W32_mod _, ih.1, ih.2.1, ih.2.2.1, W32_mod _, ih.2.2.2.2.1, ih.2.2.2.2.2.1, ih.2.2.2.2.2.2.1⟩
    · simp
def comp (s : List Int) (x : Nat → Int) : List Int := List.zipWith (fun a b => (a + b) % 4294967296) s (rounds s (sched x 64) 64)

set_option maxRecDepth 100000 in
set_option maxHeartbeats 300000 in
theorem mixBlock_any (b off len cap : Nat) (x : Nat → Int) (s : List Int) (w : World) (_hlen : 64 ≤ len) (_hmax : len ≤ 9223372036854775807)
    (_hb : b < w.heap.size) (hx : ∀ j, 0 ≤ x j ∧ x j ≤ 255) (hc : ∀ j, j < 64 → w.cell? ⟨b, off + j, none⟩ = some (.int .u8 (x j)))
    (hs : s.length = 8) (hsb : ∀ a ∈ s, W32 a) (_hg : 1 < w.heap.size) (hk : ∀ j, j < 64 → w.cell? ⟨1, j, none⟩ = some (.int .u32 (kn.getD j 0))) :
    Calls Tryd.prog 26 #[.agg (U s).toArray, .slice (some ⟨b, off, none⟩) len cap] w fun e w' => e = .returned (.agg (U (comp s x)).toArray) ∧ Below w.heap.size w w' := by
  have HX := Lib.hid hx; clear hx
  have HC := Lib.hid hc; clear hc
  have HK := Lib.hid hk; clear hk
  obtain ⟨s0, s1, s2, s3, s4, s5, s6, s7, rfl⟩ : ∃ s0 s1 s2 s3 s4 s5 s6 s7, s = [s0, s1, s2, s3, s4, s5, s6, s7] := by
    match s, hs with
    | [s0, s1, s2, s3, s4, s5, s6, s7], _ => exact ⟨_, _, _, _, _, _, _, _, rfl⟩
  have B0 := hsb s0 (by simp)
  have B1 := hsb s1 (by simp)
  have B2 := hsb s2 (by simp)
  have B3 := hsb s3 (by simp)
  have B4 := hsb s4 (by simp)
  have B5 := hsb s5 (by simp)
  have B6 := hsb s6 (by simp)
  have B7 := hsb s7 (by simp)
  clear hsb hs
  unfold W32 at B0 B1 B2 B3 B4 B5 B6 B7
  show Calls Tryd.prog 26 #[.agg #[.int .u32 s0, .int .u32 s1, .int .u32 s2, .int .u32 s3, .int .u32 s4, .int .u32 s5, .int .u32 s6, .int .u32 s7], .slice (some ⟨b, off, none⟩) len cap] w _
  go_enter Tryd.func26, Tryd.ntmps26
  go_wp2_with fail
  refine (schedule_any b off len cap x _ _hlen _hmax ?_ HX.out ?_).mono ?_
  · simp; omega
  · intro j hj; exact (Below.cell (B := w.heap.size) (by go_grown) (p := ⟨b, off + j, none⟩) _hb).trans (HC.out j hj)
  rintro e w1 ⟨rfl, hb1⟩
  have HB1 := Lib.hid hb1; clear hb1
  have hi : (Tryd.prog.info? 56).map (fun x => x.size) = some (U (sched x 64)).toArray.size := by
    simp only [List.size_toArray, length_U, length_sched]; kernel_rfl
  have HI := Lib.hid hi; clear hi
  have HS : Hid ((U (pad [])).toArray.size = (U (sched x 64)).toArray.size) := Lib.hid (by simp only [List.size_toArray, length_U, length_sched]; exact length_pad [] (by simp))
  go_upto_region 2 with ((with_reducible refine wpList_store_row (op := ⟨none, .store 56 (.tmp 5) (.tmp 21), _, _, _, _⟩) rfl 56 (.tmp 5) (.tmp 21) rfl w1.heap.size 56 (U (pad [])).toArray (U (sched x 64)).toArray ?_ ?_ ?_ ?_ ?_ ?_ ?_); rfl; rfl; exact heap_alloc_last _ _; exact HS.out; exact HI.out; exact oneCell_Ua (sched x 64); rw [World.setRow_alloc_new])
  have hz : w.heap.size + 1 + 1 ≤ w1.heap.size := by have := HB1.out.size; simpa using this
  have a1 : Arr (w1.alloc (.cells (U (sched x 64)).toArray 56)) w.heap.size 39 [s0, s1, s2, s3, s4, s5, s6, s7] := by
    unfold Arr; rw [Below.heap_alloc _ _ _ (by omega), HB1.out.block _ (by simp only [World.size_alloc]; omega), heap_alloc2_old]; rfl
  have a2 : Arr (w1.alloc (.cells (U (sched x 64)).toArray 56)) (w.heap.size + 1) 39 [0, 0, 0, 0, 0, 0, 0, 0] := by
    unfold Arr; rw [Below.heap_alloc _ _ _ (by omega), HB1.out.block _ (by simp only [World.size_alloc]; omega), heap_alloc2_new]; rfl
  have a3 : Arr (w1.alloc (.cells (U (sched x 64)).toArray 56)) w1.heap.size 56 (sched x 64) := heap_alloc_last _ _
  have hbl : Below w.heap.size w (w1.alloc (.cells (U (sched x 64)).toArray 56)) :=
    (Below.trans (by go_grown) (HB1.out.mono (by simp; omega))).alloc (by omega) _
  generalize w1.alloc (.cells (U (sched x 64)).toArray 56) = W2 at *
  have hg5 : w.heap.size + 2 ≤ w1.heap.size := hz
  clear HB1 HI HS
  generalize w1.heap.size = g5 at *
  clear hz
  have A1 := Lib.hid a1; clear a1
  have A2 := Lib.hid a2; clear a2
  have A3 := Lib.hid a3; clear a3
  have HB := Lib.hid hbl; clear hbl
  have k0 := A1.out.cell 0 (by simp)
  have k1 := A1.out.cell 1 (by simp)
  have k2 := A1.out.cell 2 (by simp)
  have k3 := A1.out.cell 3 (by simp)
  have k4 := A1.out.cell 4 (by simp)
  have k5 := A1.out.cell 5 (by simp)
  have k6 := A1.out.cell 6 (by simp)
  have k7 := A1.out.cell 7 (by simp)
  simp only [List.getD_cons_zero, List.getD_cons_succ] at k0 k1 k2 k3 k4 k5 k6 k7
  have hrb : ∀ k, ∀ a ∈ rounds [s0, s1, s2, s3, s4, s5, s6, s7] (sched x 64) k, W32 a := fun k => rounds_bd _ _ (by unfold W32; simp only [List.mem_cons, List.not_mem_nil, or_false, forall_eq_or_imp, forall_eq]; exact ⟨B0, B1, B2, B3, B4, B5, B6, B7⟩) k
  have HRB := Lib.hid hrb; clear hrb
  go_simp
  go_quiet (fail)
  go_wp2
  go_quiet (fail)
  go_wp2
  go_loopw [6, 7, 8, 9, 10, 11, 12, 13, 14] (fun ta tb tc td te tf tg th i wr => ∃ (k : Nat) (a b c d e f g z : Int) (n : Nat), k ≤ 64 ∧ i = .int .i64 k ∧ ta = .int .u32 a ∧ tb = .int .u32 b ∧ tc = .int .u32 c ∧ td = .int .u32 d ∧ te = .int .u32 e ∧ tf = .int .u32 f ∧ tg = .int .u32 g ∧ th = .int .u32 z ∧
      Hid ([a, b, c, d, e, f, g, z] = rounds [s0, s1, s2, s3, s4, s5, s6, s7] (sched x 64) k) ∧ wr = W2.drewN n)
    (fun _ _ _ _ _ _ _ _ i _ => 64 - (intOf i).toNat)
  case atStart => exact ⟨0, s0, s1, s2, s3, s4, s5, s6, s7, _, by omega, rfl, rfl, rfl, rfl, rfl, rfl, rfl, rfl, rfl, Lib.hid rfl, World.drewN_drewN _ _ _⟩
  case round =>
    obtain ⟨k, a, b', c, d, e, f, g, z, n, hk64, rfl, rfl, rfl, rfl, rfl, rfl, rfl, rfl, rfl, HR, rfl⟩ := hrel
    have hbd := HRB.out k
    rw [← HR.out] at hbd
    have D0 := hbd a (by simp)
    have D1 := hbd b' (by simp)
    have D2 := hbd c (by simp)
    have D3 := hbd d (by simp)
    have D4 := hbd e (by simp)
    have D5 := hbd f (by simp)
    have D6 := hbd g (by simp)
    have D7 := hbd z (by simp)
    clear hbd
    unfold W32 at D0 D1 D2 D3 D4 D5 D6 D7
    by_cases hlt : k < 64
    · obtain ⟨yk, hyk⟩ : ∃ y, y = kn.getD k 0 := ⟨_, rfl⟩
      obtain ⟨yw, hyw⟩ : ∃ y, y = (sched x 64).getD k 0 := ⟨_, rfl⟩
      have q1 : W2.cell? ⟨1, k, none⟩ = some (.int .u32 yk) := by rw [hyk]; exact (HB.out.cell (p := ⟨1, k, none⟩) _hg).trans (HK.out k hlt)
      have q2 : W2.cell? ⟨g5, k, none⟩ = some (.int .u32 yw) := by rw [hyw]; exact A3.out.cell k (by rw [length_sched]; exact hlt)
      have E1 := kn_bd k
      have E2 := sched_bd x 64 k
      rw [← hyk] at E1
      rw [← hyw] at E2
      unfold W32 at E1
      have HYK := Lib.hid hyk; clear hyk
      have HYW := Lib.hid hyw; clear hyw
      go_wp2_with (first
        | ((with_reducible refine (rot_6 _ ?_ ?_ _).mono ?_); (first | omega | skip); (first | omega | skip); rintro e w' ⟨rfl, rfl⟩)
        | ((with_reducible refine (rot_11 _ ?_ ?_ _).mono ?_); (first | omega | skip); (first | omega | skip); rintro e w' ⟨rfl, rfl⟩)
        | ((with_reducible refine (rot_25 _ ?_ ?_ _).mono ?_); (first | omega | skip); (first | omega | skip); rintro e w' ⟨rfl, rfl⟩))
      go_quiet (fail)
      go_wp2_with (first
        | ((with_reducible refine (rot_2 _ ?_ ?_ _).mono ?_); (first | omega | skip); (first | omega | skip); rintro e w' ⟨rfl, rfl⟩)
        | ((with_reducible refine (rot_13 _ ?_ ?_ _).mono ?_); (first | omega | skip); (first | omega | skip); rintro e w' ⟨rfl, rfl⟩)
        | ((with_reducible refine (rot_22 _ ?_ ?_ _).mono ?_); (first | omega | skip); (first | omega | skip); rintro e w' ⟨rfl, rfl⟩))
      go_roundw
      case rel =>
        exact ⟨k + 1, _, _, _, _, _, _, _, _, _, by omega, by go_num, rfl, rfl, rfl, rfl, rfl, rfl, rfl, rfl, Lib.hid (by rw [rounds, ← HR.out, ← HYK.out, ← HYW.out]; rfl), by first | rfl | exact World.drewN_drewN _ _ _⟩
      case measure => simp [intOf]; omega
    · have hk' : k = 64 := by omega
      have HK' := Lib.hid hk'; clear hk'
      have hi8 : (Tryd.prog.info? 39).map (fun x => x.size) = some 8 := by kernel_rfl
      have HI8 := Lib.hid hi8; clear hi8
      go_wp2_with ((with_reducible refine wpList_store_row (op := ⟨none, .store 39 (.tmp 4) (.tmp 137), _, _, _, _⟩) rfl 39 (.tmp 4) (.tmp 137) rfl (w.heap.size + 1) 39 (U [0, 0, 0, 0, 0, 0, 0, 0]).toArray (U [(s0 + a) % 4294967296, (s1 + b') % 4294967296, (s2 + c) % 4294967296, (s3 + d) % 4294967296, (s4 + e) % 4294967296, (s5 + f) % 4294967296, (s6 + g) % 4294967296, (s7 + z) % 4294967296]).toArray ?_ ?_ ?_ ?_ ?_ ?_ ?_); rfl; rfl; exact A2.out; rfl; exact HI8.out; exact oneCell_Ua _)
      have hcomp : comp [s0, s1, s2, s3, s4, s5, s6, s7] x = [(s0 + a) % 4294967296, (s1 + b') % 4294967296, (s2 + c) % 4294967296, (s3 + d) % 4294967296, (s4 + e) % 4294967296, (s5 + f) % 4294967296, (s6 + g) % 4294967296, (s7 + z) % 4294967296] := by
        unfold comp
        have := HR.out
        rw [HK'.out] at this
        rw [← this]; rfl
      refine bodyPost_ret (v := .agg (U [(s0 + a) % 4294967296, (s1 + b') % 4294967296, (s2 + c) % 4294967296, (s3 + d) % 4294967296, (s4 + e) % 4294967296, (s5 + f) % 4294967296, (s6 + g) % 4294967296, (s7 + z) % 4294967296]).toArray) (results_cell_row Tryd.results26 _ _ (w.heap.size + 1) 39 (U [(s0 + a) % 4294967296, (s1 + b') % 4294967296, (s2 + c) % 4294967296, (s3 + d) % 4294967296, (s4 + e) % 4294967296, (s5 + f) % 4294967296, (s6 + g) % 4294967296, (s7 + z) % 4294967296]).toArray (0, 0) _ rfl ((A2.out.drewN n).setRow _) Tryd.underlying39 rfl HI8.out) rfl ?_
      exact ⟨by rw [hcomp], below_setRow (below_drewN HB.out _) (by omega) _⟩
end Go.Proofs.YtlghholonjmeaaaDoor
