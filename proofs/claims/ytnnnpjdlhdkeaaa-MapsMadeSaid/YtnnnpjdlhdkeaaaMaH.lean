/-
  Layer 11, the program: the library's product of two words of 64 bits, where it is small; so many of one number.
-/
import Derived.Test.YtnnnpjdlhdkeaaaMaF
import Derived.Laws.CopyOwn
namespace Go.Proofs.Ytnnnpjdlhdkeaaa
open Go.RowKit

theorem and_u64 (n : Nat) (h : n < 4294967296) : bits .and .u64 (n : Int) 4294967295 = (n : Int) := by
  show IntKind.u64.wrap ((BitVec.ofInt 64 (n : Int) &&& BitVec.ofInt 64 4294967295).toNat : Int) = _
  have e : (4294967295 : Int) = ((2 ^ 32 - 1 : Nat) : Int) := rfl
  rw [e, BitVec.toNat_and, BitVec.ofInt_natCast, BitVec.ofInt_natCast, BitVec.toNat_ofNat, BitVec.toNat_ofNat, Nat.mod_eq_of_lt (show 2 ^ 32 - 1 < 2 ^ 64 by decide), Nat.and_two_pow_sub_one_eq_mod, IntKind.wrap_u64]
  omega
set_option maxRecDepth 100000 in
set_option maxHeartbeats 1600000 in
theorem mul64_any (w : World) (n : Nat) (h : n ≤ 2000000) : Calls Try.prog 43 #[.int .u64 1, .int .u64 (n : Int)] w fun e w' => e = .returned (.tuple #[.int .u64 0, .int .u64 (n : Int)]) ∧ w = w' := by
  have e1 : bits .and .u64 1 4294967295 = 1 := by decide
  have e2 := and_u64 n (by omega)
  have e3 : IntKind.u64.wrap (n : Int) = (n : Int) := by rw [IntKind.wrap_u64]; omega
  have e4 : (n : Int) / 4294967296 = 0 := by omega
  go_enter Try.func43, Try.ntmps43
  go_wp2_with fail
  go_ret2
  exact ⟨rfl, rfl⟩
set_option maxRecDepth 100000 in
set_option maxHeartbeats 1600000 in
theorem mul_any (w : World) (n : Nat) (h : n ≤ 2000000) : Calls Try.prog 41 #[.int .u64 1, .int .u64 (n : Int)] w fun e w' => e = .returned (.tuple #[.int .u64 0, .int .u64 (n : Int)]) ∧ w = w' := by
  have HM := Lib.hid (fun w => mul64_any w n h)
  go_enter Try.func41, Try.ntmps41
  go_wp2_with (go_at_call 43; ((with_reducible refine (HM.out _).mono ?_); rintro e w2 ⟨rfl, rfl⟩))
  go_ret2
  exact ⟨rfl, rfl⟩
/-- So many are filled. -/
def fillV (n k : Nat) : List Value := List.replicate k (.int .i64 (-1)) ++ List.replicate (n - k) (.int .i64 0)
theorem length_fillV (n k : Nat) (h : k ≤ n) : (fillV n k).length = n := by unfold fillV; rw [List.length_append, List.length_replicate, List.length_replicate]; omega
theorem fillV_at (n k j : Nat) (h : j < k) : (fillV n k)[j]? = some (.int .i64 (-1)) := by
  unfold fillV
  rw [List.getElem?_append_left (by rw [List.length_replicate]; exact h), List.getElem?_replicate, if_pos h]
theorem fillV_next (n k m : Nat) (h : k + m ≤ n) : splice (fillV n k) k (List.replicate m (.int .i64 (-1))) = fillV n (k + m) := by
  unfold splice fillV
  rw [List.length_replicate, List.take_left' (List.length_replicate ..), List.drop_append, List.drop_of_length_le (by rw [List.length_replicate]; omega), List.nil_append, List.length_replicate, List.drop_replicate, ← List.append_assoc, List.replicate_append_replicate]
  congr 2
  omega
theorem fillV_end (n : Nat) : fillV n n = (encInt .i64).all (List.replicate n (-1)) := by
  unfold fillV
  rw [all_encInt, Nat.sub_self, List.replicate_zero, List.append_nil, List.map_replicate]
theorem fillV_zero (n : Nat) : madeCells #[.int .i64 0] n = (fillV n 0).toArray := by
  unfold fillV
  apply Array.ext
  · simp [madeCells]
  · intro i h1 h2; simp [madeCells, Nat.mod_one]
theorem run_from (T n k : Nat) (h : k < n) (w : World) : (Instr.slice 22 (.slice (some ⟨T, 0, none⟩) n n) (some (.int .i64 (k : Int))) none none).run Try.prog w = .ok (.slice (some ⟨T, k, none⟩) (n - k) (n - k)) w := by
  have e1 : (k : Int) ≤ (n : Int) := by omega
  have e2 : (Try.prog.info? 3).map (·.size) = some 1 := by kernel_rfl
  cases hq : Try.prog.info? 3 with
  | none => rw [hq] at e2; cases e2
  | some i =>
    have hi : i.size = 1 := by rw [hq] at e2; simpa using e2
    have h3 : ¬ n = k := by omega
    have h4 : k ≤ n := by omega
    simp [Instr.slice, run_underlying Try.underlying22, Instr.sliceBounds, Instr.sliceBound, asIntOf, sizeOf, typeInfo, hq, hi, h3, h4, go_sem, Addr.add_mid]
theorem run_upto (T n k : Nat) (h : k ≤ n) (w : World) : (Instr.slice 22 (.slice (some ⟨T, 0, none⟩) n n) none (some (.int .i64 (k : Int))) none).run Try.prog w = .ok (.slice (some ⟨T, 0, none⟩) k n) w := by
  have e1 : (k : Int) ≤ (n : Int) := by omega
  have e2 : (Try.prog.info? 3).map (·.size) = some 1 := by kernel_rfl
  cases hq : Try.prog.info? 3 with
  | none => rw [hq] at e2; cases e2
  | some i => simp [Instr.slice, run_underlying Try.underlying22, Instr.sliceBounds, Instr.sliceBound, asIntOf, sizeOf, typeInfo, hq, h, go_sem]
theorem int_size : (Try.prog.info? 3).map (·.size) = some 1 := by kernel_rfl
theorem one_ones (m : Nat) : ∀ v ∈ List.replicate m (Value.int .i64 (-1)), v.oneCell' = true := fun v hv => by rw [(List.mem_replicate.1 hv).2]; rfl
set_option maxRecDepth 100000 in
set_option maxHeartbeats 4000000 in
theorem repeat_any (w : World) (pb po c n : Nat) (hn : n ≤ 1048576) (hpb : pb < w.heap.size) (hc : w.cell? ⟨pb, po, none⟩ = some (.int .i64 (-1))) :
    Calls Try.prog 39 #[.slice (some ⟨pb, po, none⟩) 1 c, .int .i64 (n : Int)] w fun e w' => e = .returned (.slice (some ⟨w.heap.size, 0, none⟩) n n) ∧ RwX (encInt .i64) 3 w' w.heap.size (List.replicate n (-1)) ∧ Below w.heap.size w w' := by
  have HM := Lib.hid (fun w => mul_any w n (by omega))
  have hmk := fun w => run_mki n (by omega) w
  have HT := Lib.hid ((Go.MapKept.heap_alloc w (.cells (madeCells #[.int .i64 0] n) 3)).1.trans (by rw [fillV_zero n]))
  have HB0 := Lib.hid ((Below.refl w.heap.size w).alloc (Nat.le_refl _) (.cells (madeCells #[.int .i64 0] n) 3))
  have hc2 : (w.alloc (.cells (madeCells #[.int .i64 0] n) 3)).cell? ⟨pb, po, none⟩ = some (.int .i64 (-1)) := (HB0.out.cell (p := ⟨pb, po, none⟩) hpb).trans hc
  have HC := Lib.hid hc2
  have hw3 : IntKind.u64.wrap (n : Int) = (n : Int) := by rw [IntKind.wrap_u64]; omega
  have hn0 : ¬ (n : Int) < 0 := by omega
  have hn1 : ¬ (9223372036854775807 : Int) < (n : Int) := by omega
  have HM1 := Lib.hid (show min 1 n ≤ n from Nat.min_le_right _ _)
  clear hc hc2 hpb
  go_enter Try.func39, Try.ntmps39
  go_upto_region 7 with (go_at_call 41; ((with_reducible refine (HM.out _).mono ?_); rintro e w2 ⟨rfl, rfl⟩))
  obtain ⟨w1, hw1⟩ : ∃ w1, w.alloc (.cells (madeCells #[.int .i64 0] n) 3) = w1 := ⟨_, rfl⟩
  rw [hw1] at HT HB0 HC ⊢
  clear hw1 hmk
  obtain ⟨T, hTq⟩ : ∃ T, w.heap.size = T := ⟨_, rfl⟩
  have HTQ := Lib.hid hTq
  rw [hTq] at HT HB0 ⊢
  obtain ⟨k0, hk0⟩ : ∃ k0, min 1 n = k0 := ⟨_, rfl⟩
  have HK0 := Lib.hid (show k0 ≤ n ∧ k0 ≤ 1 ∧ (0 < n → 0 < k0) from by omega)
  have HL0 := Lib.hid (show (List.replicate k0 (Value.int .i64 (-1))).length = Nat.min 1 n from by rw [List.length_replicate, ← hk0])
  have HP0 := Lib.hid (show 0 < (List.replicate k0 (Value.int .i64 (-1))).length → some (⟨T, 0, none⟩ : Addr) = some ⟨T, 0, none⟩ ∧ ∃ ad, some (⟨pb, po, none⟩ : Addr) = some ad ∧ ∀ (j : Nat) (v : Value), (List.replicate k0 (Value.int .i64 (-1)))[j]? = some v → w1.cell? (ad.add j) = some v from fun _ => ⟨rfl, _, rfl, fun j v hv => by
    have hj := (List.getElem?_eq_some_iff.1 hv).1
    rw [List.length_replicate] at hj
    have h1 := HK0.out.2.1
    obtain rfl : j = 0 := by omega
    rw [List.getElem?_replicate, if_pos hj] at hv
    rw [← hv, Addr.add_mid, Nat.add_zero]; exact HC.out⟩)
  have HFT := Lib.hid (show 0 + (List.replicate k0 (Value.int .i64 (-1))).length ≤ (fillV n 0).length from by rw [List.length_replicate, length_fillV n 0 (Nat.zero_le _)]; have := HK0.out.1; omega)
  have HN0 := Lib.hid (show splice (fillV n 0) 0 (List.replicate k0 (Value.int .i64 (-1))) = fillV n k0 from by
    have := fillV_next n 0 k0 (by have := HK0.out.1; omega)
    rwa [Nat.zero_add] at this)
  clear hk0
  go_wp2_with (refine wpList_copy_splice rfl (.tmp 31) (.tmp 32) 22 22 rfl 3 Try.underlying22 int_size (some ⟨T, 0, none⟩) (some ⟨pb, po, none⟩) n n 1 c rfl rfl T 0 (fillV n 0) 3 HT.out (List.replicate k0 (.int .i64 (-1))) HL0.out HP0.out HFT.out (one_ones _) T w HB0.out (Nat.le_refl _) ?_; rintro w2 h1 h2; rw [HN0.out] at h1; rw [List.length_replicate]; have HT2 := h1; have HB2 := Lib.hid h2; clear h1 h2)
  go_loopw [8] (fun iv wr => ∃ k : Nat, k ≤ n ∧ iv = .int .i64 (k : Int) ∧ Hid (0 < n → 0 < k) ∧ Hid (wr.heap[T]? = some (.cells (fillV n k).toArray 3 (0, 0))) ∧ Hid (Below T w wr))
    (fun iv _ => n - (intOf iv).toNat)
  case atStart => exact ⟨k0, HK0.out.1, rfl, Lib.hid HK0.out.2.2, HT2, HB2⟩
  case round =>
    clear HT2 HB2
    obtain ⟨k, hk, rfl, HKP, HTR, HB⟩ := hrel
    by_cases hlt : k < n
    · have hii : (k : Int) < (n : Int) := by omega
      have hi0 : (0 : Int) ≤ (k : Int) := by omega
      have hfrom := fun w => run_from T n k hlt w
      have hup := fun w => run_upto T n k hk w
      obtain ⟨m, hm⟩ : ∃ m, min k (n - k) = m := ⟨_, rfl⟩
      have HMB := Lib.hid (show m ≤ n - k ∧ 0 < m from by have := HKP.out (by omega); omega)
      have HLM := Lib.hid (show (List.replicate m (Value.int .i64 (-1))).length = Nat.min k (n - k) from by rw [List.length_replicate, ← hm])
      have HTD := Lib.hid (show wr.drew.heap[T]? = some (.cells (fillV n k).toArray 3 (0, 0)) from HTR.out)
      have HPM := Lib.hid (show 0 < (List.replicate m (Value.int .i64 (-1))).length → some (⟨T, k, none⟩ : Addr) = some ⟨T, k, none⟩ ∧ ∃ ad, some (⟨T, 0, none⟩ : Addr) = some ad ∧ ∀ (j : Nat) (v : Value), (List.replicate m (Value.int .i64 (-1)))[j]? = some v → wr.drew.cell? (ad.add j) = some v from fun _ => ⟨rfl, _, rfl, fun j v hv => by
        have hj := (List.getElem?_eq_some_iff.1 hv).1
        rw [List.length_replicate] at hj
        rw [List.getElem?_replicate, if_pos hj] at hv
        rw [← hv, Addr.add_mid, Nat.zero_add, cell_of_row wr.drew T j _ _ _ HTD.out, List.getElem?_toArray]
        exact fillV_at n k j (by omega)⟩)
      have HFM := Lib.hid (show k + (List.replicate m (Value.int .i64 (-1))).length ≤ (fillV n k).length from by rw [List.length_replicate, length_fillV n k hk]; have := HMB.out.1; omega)
      have HNM := Lib.hid (fillV_next n k m (by have := HMB.out.1; omega))
      have HBD := Lib.hid (show Below T w wr.drew from Below.drew HB.out)
      have hkm : (m : Int) ≤ (n : Int) - (k : Int) := by have := HMB.out.1; omega
      have hmp : (0 : Int) < (m : Int) := by have := HMB.out.2; omega
      have HWS := Lib.hid (show IntKind.i64.wrap ((k : Int) + (m : Int)) = ((k + m : Nat) : Int) from by rw [IntKind.wrap_i64]; omega)
      clear hm
      go_upto_region 9 with (fail)
      go_region_law (refine step_copy_splice (w := wr.drew) rfl (.tmp 41) (.tmp 44) 22 22 rfl 3 Try.underlying22 int_size (some ⟨T, k, none⟩) (some ⟨T, 0, none⟩) (n - k) (n - k) k n ?_ ?_ T k (fillV n k) 3 HTD.out (List.replicate m (.int .i64 (-1))) HLM.out HPM.out HFM.out (one_ones _) T w HBD.out (Nat.le_refl _) ?_; go_simp; go_simp; rintro w3 h1 h2; rw [HNM.out] at h1; rw [List.length_replicate]; have HT3 := h1; have HB3 := Lib.hid h2; clear h1 h2)
      all_goals go_wp2_with fail
      all_goals go_roundw
      all_goals first
        | exact ⟨k + m, by omega, HWS.out, Lib.hid (fun _ => by omega), HT3⟩
        | (rw [HWS.out]; simp [intOf]; omega)
        | fail
    · have hii : ¬ (k : Int) < (n : Int) := by omega
      have hin : k = n := by omega
      subst hin
      go_wp2_with fail
      go_ret
      exact ⟨rfl, by unfold RwX; rw [← fillV_end]; exact HTR.out, HB.out⟩
end Go.Proofs.Ytnnnpjdlhdkeaaa
