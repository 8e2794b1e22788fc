/-
  Layer 15, the laws' helpers: texts by numbers.
-/
import Derived.Test.YtnimmpidplfnnaaLcH
namespace Go.Proofs.Ytnimmpidplfnnaa
open Go.RowKit

theorem own_slX {α : Type} {k : Nat} {E : Enc α k} {e : TypeId} {w : World} {lo : Nat} {v : Value} {xs : List α} (h : Own E e w lo v xs) : ∃ A c, v = .slice A xs.length c := by
  rcases h.shape with ⟨rfl, rfl⟩ | ⟨g, c, rfl, _⟩
  · exact ⟨none, 0, rfl⟩
  · exact ⟨_, c, rfl⟩
/-- One letter as a text. -/
def ltr (n : Int) : ByteArray := strOfNums [97 + n]
def letL (xs : List Int) : List ByteArray := xs.map fun x => ltr (x % 5)
theorem letL_len (xs : List Int) : (letL xs).length = xs.length := by unfold letL; simp
theorem ltr_size (n : Int) : (ltr n).size = 1 := rfl
theorem letL_one {xs : List Int} : ∀ t ∈ letL xs, t.size = 1 := fun t ht => by
  unfold letL at ht
  obtain ⟨x, _, rfl⟩ := List.mem_map.1 ht
  exact ltr_size _
theorem conv1 (w : World) (x : Int) : (convert 31 9 (.slice (some ⟨w.heap.size, 0, none⟩) 1 1)).run Try.prog (w.alloc (.cells #[.int .u8 x] 5)) = .ok (.string (strOfNums [x])) (w.alloc (.cells #[.int .u8 x] 5)) := by
  refine run_convert_bytes_arg _ _ 5 Try.underlying31 Try.underlying5 w.heap.size 0 1 1 [x] rfl (fun i hi => ?_) _ Try.underlying9
  obtain rfl : i = 0 := by omega
  exact World.cell?_alloc_at _ _ _ _ rfl
set_option maxRecDepth 100000 in
set_option maxHeartbeats 4000000 in
theorem letters_any (w : World) (A : Option Addr) (n cap : Nat) (xs : List Int) (h : S8 w w.heap.size A n cap xs) (hn : n ≤ 1000) :
    Calls Try.prog 14 #[.slice A n cap] w fun e w' => ∃ v, e = .returned v ∧ OwnT w' w.heap.size v (letL xs) ∧ Below w.heap.size w w' := by
  have HL := Lib.hid h.hlen
  have HS := Lib.hid h
  have HBY := Lib.hid h.bytes
  clear h
  go_enter Try.func14, Try.ntmps14
  go_upto_region 3 with (fail)
  go_loopw [3, 4] (fun lv iv wr => ∃ (i : Nat) (v : Value), i ≤ n ∧ v = lv ∧ iv = .int .i64 (i : Int) ∧ Hid (OwnT wr w.heap.size v (letL (xs.take i))) ∧ Hid (Below w.heap.size w wr))
    (fun _ iv _ => n - (intOf iv).toNat)
  case atStart => exact ⟨0, _, Nat.zero_le _, rfl, rfl, Lib.hid (Own.nil _ _ _ _), Lib.hid (Below.refl _ _)⟩
  case round =>
    obtain ⟨i, v, hi, rfl, rfl, HO, HB⟩ := hrel
    by_cases hlt : i < n
    · have hii : (i : Int) < (n : Int) := by omega
      have hi0 : (0 : Int) ≤ (i : Int) := by omega
      obtain ⟨x, hx⟩ : ∃ x, xs[i]? = some x := ⟨_, List.getElem?_eq_getElem (by rw [HL.out]; exact hlt)⟩
      obtain ⟨pb, po, rfl, hpb, hat⟩ := HS.out.at_.resolve_left (by omega)
      have hxd : xs.getD i 0 = x := by rw [List.getD_eq_getElem?_getD, hx]; rfl
      have x0 : wr.cell? ⟨pb, po + i, none⟩ = some (.int .u8 x) := (HB.out.cell (p := ⟨pb, po + i, none⟩) hpb).trans (by rw [hat i hlt, hxd])
      have hbd := HBY.out x (List.mem_of_getElem? hx)
      obtain ⟨r, hr⟩ : ∃ r, Int.tmod x 5 = r := ⟨_, rfl⟩
      have hre : x % 5 = r := by rw [← hr, Int.tmod_eq_emod_of_nonneg hbd.1]
      have hr1 : 0 ≤ r ∧ r < 5 := by omega
      have w1 : IntKind.u8.wrap r = r := by rw [show IntKind.u8.wrap _ = _ % 256 from rfl]; omega
      have w2 : IntKind.u8.wrap (97 + r) = 97 + r := by rw [show IntKind.u8.wrap _ = _ % 256 from rfl]; omega
      have hcv := conv1 wr (97 + r)
      have HN := Lib.hid (show letL (xs.take (i + 1)) = letL (xs.take i) ++ [ltr r] from by unfold letL; rw [List.take_add_one, hx, List.map_append, ← hre]; rfl)
      have hlen : (letL (xs.take i)).length = i := by rw [letL_len, List.length_take, HL.out]; omega
      have HLEN := Lib.hid hlen
      clear hx hxd hat hpb hre hlen
      go_wp2_with (at_builtin; refine wpList_app Elem.str encStr rfl (.tmp 11) (.tmp 20) rfl w.heap.size v (letL (xs.take i)) rfl ((HO.out.alloc (.cells #[.int .u8 (97 + r)] 5)).alloc (.cells #[.string (strOfNums [97 + r])] 9)) ⟨wr.heap.size + 1, 0, none⟩ 1 1 [ltr r] rfl rfl ?_ ?_ ?_ ?_ ?_; (have hc := cells_new (w := wr.alloc (.cells #[.int .u8 (97 + r)] 5)) #[.string (strOfNums [97 + r])] 9 (encStr.all [ltr r]) rfl; rw [World.size_alloc] at hc; exact hc); (rw [HLEN.out]; omega); (rw [HLEN.out]; unfold maxLen; omega); (have := HB.out.size; simp; omega); intro v3 w3 h1 h2; have HO3 := Lib.hid h1; have HB3 := Lib.hid (((HB.out.alloc HB.out.size (.cells #[.int .u8 (97 + r)] 5)).alloc (by have := HB.out.size; simp; omega) (.cells #[.string (strOfNums [97 + r])] 9)).trans h2); clear h1 h2)
      go_roundw
      case rel => exact ⟨i + 1, v3, by omega, rfl, by go_num, Lib.hid (by rw [HN.out]; exact HO3.out), HB3⟩
      case measure => simp [intOf]; omega
    · have hii : ¬ (i : Int) < (n : Int) := by omega
      have HE := Lib.hid (show letL (xs.take i) = letL xs from by rw [List.take_of_length_le (by rw [HL.out]; omega)])
      go_wp2_with fail
      go_ret
      exact ⟨_, rfl, by rw [← HE.out]; exact HO.out, HB.out⟩
end Go.Proofs.Ytnimmpidplfnnaa
