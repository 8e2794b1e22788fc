/-
  'chequerlaw5.ParseCalls': for any two numbers: a call with so many arguments has them as its kids, and a text that is no formula is refused; the document's example holds. Condition: none (the operators, the list of signs, the library's two errors and its tables start as the program's text lays them: the card ties them).
-/
import Derived.Test.YtinnbfdhejmaaaaDoorMD3
import Derived.ProofKit
import Derived.OpenShut
import Derived.Deep.DeepHandedRow
import Derived.Lib.LaidTab
import Derived.Test.YtinnbfdhejmaaaaDoorCards
import Derived.Test.YtinnbfdhejmaaaaDoorTie
import Derived.Deep.Strs
import Derived.Stop.LaidErr
import Derived.Lay
/-
  'chequerlaw5.ParseCalls', walked.
-/
namespace Go.Proofs.YtinnbfdhejmaaaaDoor
open Go.RowKit

def argT (i : Nat) : ByteArray := [⟨#[49]⟩, ⟨#[65, 49]⟩, ⟨#[65, 49, 58, 66, 50]⟩, ⟨#[34, 120, 34]⟩, ⟨#[84, 82, 85, 69]⟩, ⟨#[35, 82, 69, 70, 33]⟩].getD (i % 6) ⟨#[]⟩
def badT (i : Nat) : ByteArray := [⟨#[70, 40, 49, 44, 41]⟩, ⟨#[70, 40, 44, 49, 41]⟩, ⟨#[70, 40, 49]⟩, ⟨#[49, 43]⟩, ⟨#[43, 49]⟩, ⟨#[65, 49, 58]⟩, ⟨#[66, 50, 58, 65, 49]⟩, ⟨#[65, 49, 58, 83, 33, 66, 50]⟩, ⟨#[49, 32, 50]⟩, ⟨#[84, 82, 85, 69, 40, 49, 41]⟩, ⟨#[70]⟩, ⟨#[97, 49]⟩, ⟨#[]⟩, ⟨#[58, 65, 49]⟩, ⟨#[40, 49]⟩, ⟨#[49, 41]⟩].getD i ⟨#[]⟩
theorem arg_sb (i : Nat) : sb (argT i) = argL i := by
  have : ∀ c : Nat, c < 6 → sb ([⟨#[49]⟩, ⟨#[65, 49]⟩, ⟨#[65, 49, 58, 66, 50]⟩, ⟨#[34, 120, 34]⟩, ⟨#[84, 82, 85, 69]⟩, ⟨#[35, 82, 69, 70, 33]⟩].getD c ⟨#[]⟩ : ByteArray) = ([[49], [65, 49], [65, 49, 58, 66, 50], [34, 120, 34], [84, 82, 85, 69], [35, 82, 69, 70, 33]] : List (List Int)).getD c [] := by decide +kernel
  exact this (i % 6) (Nat.mod_lt _ (by decide))
theorem arg_size (i : Nat) : (argT i).size ≤ 5 := by
  have : ∀ c : Nat, c < 6 → ([⟨#[49]⟩, ⟨#[65, 49]⟩, ⟨#[65, 49, 58, 66, 50]⟩, ⟨#[34, 120, 34]⟩, ⟨#[84, 82, 85, 69]⟩, ⟨#[35, 82, 69, 70, 33]⟩].getD c ⟨#[]⟩ : ByteArray).size ≤ 5 := by decide +kernel
  exact this (i % 6) (Nat.mod_lt _ (by decide))
theorem bad_sb : ∀ j : Nat, j < 16 → sb (badT j) = badL j ∧ (badT j).size ≤ 300 := by decide +kernel
theorem bad_PIs (j : Nat) (hj : j < 16) : PIs (badT j) (.error 5) := by
  obtain ⟨h1, h2⟩ := bad_sb j hj
  have h3 := bad_all j hj
  rw [← h1] at h3
  rcases size_PIs _ h2 5 0 h3 with ⟨h0, _⟩ | ⟨hp, _⟩
  · cases h0
  · exact hp

/-- What the text with so many arguments is told to be. -/
structure Told5 (w : World) (k g cap : Nat) : Prop where
  kind : w.cell? ⟨g, k * 14, none⟩ = some (.int .i64 7)
  text : w.cell? ⟨g, k * 14 + 2, none⟩ = some (.string ⟨#[70]⟩)
  kids : ∃ A c, w.cell? ⟨g, k * 14 + 13, none⟩ = some (.slice A k c)
theorem told5 {k : Nat} {ns : List Nd} {n : Nd} {vs : List Nv} {w : World} {lo g cap : Nat} (hn : ns.getLast? = some n) (hl : ns.length = k + 1) (h1 : n.kind = 7) (h2 : sb n.text = [70]) (h3 : n.kids.length = k) (hvn : vs.map Nv.n = ns) (hvl : vs.length = ns.length)
    (hv : NodV w lo (.slice (some ⟨g, 0, none⟩) (k + 1) cap) vs) : Told5 w k g cap := by
  obtain ⟨v, hv2⟩ : ∃ v, vs[k]? = some v := ⟨_, List.getElem?_eq_getElem (by omega)⟩
  have hvk : v.n = n := by
    rw [List.getLast?_eq_getElem?, hl, show k + 1 - 1 = k from by omega] at hn
    have h4 := congrArg (·[k]?) hvn
    simp only [List.getElem?_map, hv2, Option.map_some, hn] at h4
    exact Option.some.inj h4
  have k0 := hv.cell k v hv2 0 (by omega)
  have k2 := hv.cell k v hv2 2 (by omega)
  have k13 := hv.cell k v hv2 13 (by omega)
  have hkid := hv.2 v (List.mem_of_getElem? hv2)
  refine ⟨k0.trans (by show some (Value.int .i64 v.n.kind) = _; rw [hvk, h1]), k2.trans (by show some (Value.string v.n.text) = _; rw [hvk, ← str_sb n.text, h2, show strOfNums [70] = ⟨#[70]⟩ from by decide +kernel]), ?_⟩
  rcases hkid.shape with ⟨e1, e2⟩ | ⟨g1, c1, e1, _⟩
  · refine ⟨none, 0, k13.trans ?_⟩
    show some v.kv = _
    have : k = 0 := by rw [← h3, ← hvk, e2]; rfl
    rw [e1, this]
  · refine ⟨some ⟨g1, 0, none⟩, c1, k13.trans ?_⟩
    show some v.kv = _
    rw [e1, hvk, h3]

set_option maxRecDepth 100000 in
set_option maxHeartbeats 8000000 in
theorem parseCalls_any (n bad : Nat) (hn : n ≤ 255) (hb : bad ≤ 255) (w : World) (hv : Vars w) (ho : OpV w) :
    Calls Tryd.prog 4 #[.int .u8 (n : Int), .int .u8 (bad : Int)] w fun e w' => e = .returned (.bool true) ∧ Below w.heap.size w w' := by
  have HV := Lib.hid hv; have HO := Lib.hid ho; clear hv ho
  obtain ⟨k, hk⟩ : ∃ k : Nat, n % 12 = k := ⟨_, rfl⟩
  have hki : (n : Int) % 12 = (k : Int) := by omega
  have hk12 : k < 12 := by omega
  obtain ⟨j, hj⟩ : ∃ j : Nat, bad % 16 = j := ⟨_, rfl⟩
  have hji : (bad : Int) % 16 = (j : Int) := by omega
  have hj16 : j < 16 := by omega
  clear hk hj
  go_enter Tryd.func4, Tryd.ntmps4
  go_upto_region 4 with (fail)
  go_loopw [6, 7] (fun sv iv wr => ∃ (i : Nat) (T : ByteArray), i ≤ k ∧ sv = .string T ∧ iv = .int .i64 (i : Int) ∧ T.size ≤ 2 + 6 * i ∧ Hid (sb T = callL i) ∧ Hid (Below w.heap.size w wr))
    (fun _ iv _ => k - (intOf iv).toNat)
  case atStart => exact ⟨0, ⟨#[70, 40]⟩, Nat.zero_le _, rfl, rfl, by decide, Lib.hid (by decide), Lib.hid (Below.refl _ _)⟩
  case round =>
    obtain ⟨i, T, hi, rfl, rfl, hT, HT, HB⟩ := hrel
    by_cases hlt : i < k
    · have hli : (i : Int) < (k : Int) := by omega
      have hz := arg_size i
      by_cases h0 : i = 0
      · subst h0
        have hz1 : T.size + (⟨#[49]⟩ : ByteArray).size ≤ 1000 := by show T.size + 1 ≤ 1000; omega
        go_wp2_with fail
        go_roundw
        case rel =>
          refine ⟨1, T ++ ⟨#[49]⟩, by omega, rfl, rfl, by rw [ByteArray.size_append]; show T.size + 1 ≤ 8; omega, Lib.hid (by rw [sb_append, HT.out]; decide), Lib.hid (HB.out.alloc HB.out.size _)⟩
        case measure => simp [intOf]; omega
      · have h0i : (0 : Int) < (i : Int) := by omega
        have hz1 : T.size + (⟨#[44]⟩ : ByteArray).size ≤ 1000 := by show T.size + 1 ≤ 1000; omega
        have HS := Lib.hid (show ∀ X : ByteArray, argT i = X → sb (T ++ ⟨#[44]⟩ ++ X) = callL (i + 1) from by
          intro X hX
          rw [sb_append, sb_append, HT.out, ← hX, arg_sb]
          show _ = [70, 40] ++ argsL (i + 1)
          unfold callL
          rw [show argsL (i + 1) = argsL i ++ (if i = 0 then [] else [44]) ++ argL i from rfl, if_neg h0, show sb ⟨#[44]⟩ = [44] from by decide]
          simp)
        have HZ := Lib.hid (show ∀ X : ByteArray, X.size ≤ 5 → (T ++ ⟨#[44]⟩ ++ X).size ≤ 2 + 6 * (i + 1) from by
          intro X hX
          rw [ByteArray.size_append, ByteArray.size_append]; show T.size + 1 + X.size ≤ _; omega)
        rcases (show i % 6 = 0 ∨ i % 6 = 1 ∨ i % 6 = 2 ∨ i % 6 = 3 ∨ i % 6 = 4 ∨ i % 6 = 5 by omega) with h6 | h6 | h6 | h6 | h6 | h6
        · have h6i : (i : Int) % 6 = 0 := by omega
          have hX : argT i = ⟨#[49]⟩ := by unfold argT; rw [h6]; rfl
          have hz2 : (T ++ ⟨#[44]⟩).size + (⟨#[49]⟩ : ByteArray).size ≤ 1000 := by rw [ByteArray.size_append]; exact Nat.le_trans (Nat.add_le_add (show T.size + 1 ≤ 500 by omega) (show (⟨#[49]⟩ : ByteArray).size ≤ 5 by decide)) (by decide)
          have HS1 := Lib.hid (HS.out _ hX)
          have HZ1 := Lib.hid (HZ.out ⟨#[49]⟩ (by decide))
          clear hX
          go_wp2_with fail
          go_roundw
          case rel => exact ⟨i + 1, T ++ ⟨#[44]⟩ ++ ⟨#[49]⟩, by omega, rfl, by go_num, HZ1.out, HS1, Lib.hid (HB.out.alloc HB.out.size _)⟩
          case measure => simp [intOf]; omega
        · have h6i : (i : Int) % 6 = 1 := by omega
          have hX : argT i = ⟨#[65, 49]⟩ := by unfold argT; rw [h6]; rfl
          have hz2 : (T ++ ⟨#[44]⟩).size + (⟨#[65, 49]⟩ : ByteArray).size ≤ 1000 := by rw [ByteArray.size_append]; exact Nat.le_trans (Nat.add_le_add (show T.size + 1 ≤ 500 by omega) (show (⟨#[65, 49]⟩ : ByteArray).size ≤ 5 by decide)) (by decide)
          have HS1 := Lib.hid (HS.out _ hX)
          have HZ1 := Lib.hid (HZ.out ⟨#[65, 49]⟩ (by decide))
          clear hX
          go_wp2_with fail
          go_roundw
          case rel => exact ⟨i + 1, T ++ ⟨#[44]⟩ ++ ⟨#[65, 49]⟩, by omega, rfl, by go_num, HZ1.out, HS1, Lib.hid (HB.out.alloc HB.out.size _)⟩
          case measure => simp [intOf]; omega
        · have h6i : (i : Int) % 6 = 2 := by omega
          have hX : argT i = ⟨#[65, 49, 58, 66, 50]⟩ := by unfold argT; rw [h6]; rfl
          have hz2 : (T ++ ⟨#[44]⟩).size + (⟨#[65, 49, 58, 66, 50]⟩ : ByteArray).size ≤ 1000 := by rw [ByteArray.size_append]; exact Nat.le_trans (Nat.add_le_add (show T.size + 1 ≤ 500 by omega) (show (⟨#[65, 49, 58, 66, 50]⟩ : ByteArray).size ≤ 5 by decide)) (by decide)
          have HS1 := Lib.hid (HS.out _ hX)
          have HZ1 := Lib.hid (HZ.out ⟨#[65, 49, 58, 66, 50]⟩ (by decide))
          clear hX
          go_wp2_with fail
          go_roundw
          case rel => exact ⟨i + 1, T ++ ⟨#[44]⟩ ++ ⟨#[65, 49, 58, 66, 50]⟩, by omega, rfl, by go_num, HZ1.out, HS1, Lib.hid (HB.out.alloc HB.out.size _)⟩
          case measure => simp [intOf]; omega
        · have h6i : (i : Int) % 6 = 3 := by omega
          have hX : argT i = ⟨#[34, 120, 34]⟩ := by unfold argT; rw [h6]; rfl
          have hz2 : (T ++ ⟨#[44]⟩).size + (⟨#[34, 120, 34]⟩ : ByteArray).size ≤ 1000 := by rw [ByteArray.size_append]; exact Nat.le_trans (Nat.add_le_add (show T.size + 1 ≤ 500 by omega) (show (⟨#[34, 120, 34]⟩ : ByteArray).size ≤ 5 by decide)) (by decide)
          have HS1 := Lib.hid (HS.out _ hX)
          have HZ1 := Lib.hid (HZ.out ⟨#[34, 120, 34]⟩ (by decide))
          clear hX
          go_wp2_with fail
          go_roundw
          case rel => exact ⟨i + 1, T ++ ⟨#[44]⟩ ++ ⟨#[34, 120, 34]⟩, by omega, rfl, by go_num, HZ1.out, HS1, Lib.hid (HB.out.alloc HB.out.size _)⟩
          case measure => simp [intOf]; omega
        · have h6i : (i : Int) % 6 = 4 := by omega
          have hX : argT i = ⟨#[84, 82, 85, 69]⟩ := by unfold argT; rw [h6]; rfl
          have hz2 : (T ++ ⟨#[44]⟩).size + (⟨#[84, 82, 85, 69]⟩ : ByteArray).size ≤ 1000 := by rw [ByteArray.size_append]; exact Nat.le_trans (Nat.add_le_add (show T.size + 1 ≤ 500 by omega) (show (⟨#[84, 82, 85, 69]⟩ : ByteArray).size ≤ 5 by decide)) (by decide)
          have HS1 := Lib.hid (HS.out _ hX)
          have HZ1 := Lib.hid (HZ.out ⟨#[84, 82, 85, 69]⟩ (by decide))
          clear hX
          go_wp2_with fail
          go_roundw
          case rel => exact ⟨i + 1, T ++ ⟨#[44]⟩ ++ ⟨#[84, 82, 85, 69]⟩, by omega, rfl, by go_num, HZ1.out, HS1, Lib.hid (HB.out.alloc HB.out.size _)⟩
          case measure => simp [intOf]; omega
        · have h6i : (i : Int) % 6 = 5 := by omega
          have hX : argT i = ⟨#[35, 82, 69, 70, 33]⟩ := by unfold argT; rw [h6]; rfl
          have hz2 : (T ++ ⟨#[44]⟩).size + (⟨#[35, 82, 69, 70, 33]⟩ : ByteArray).size ≤ 1000 := by rw [ByteArray.size_append]; exact Nat.le_trans (Nat.add_le_add (show T.size + 1 ≤ 500 by omega) (show (⟨#[35, 82, 69, 70, 33]⟩ : ByteArray).size ≤ 5 by decide)) (by decide)
          have HS1 := Lib.hid (HS.out _ hX)
          have HZ1 := Lib.hid (HZ.out ⟨#[35, 82, 69, 70, 33]⟩ (by decide))
          clear hX
          go_wp2_with fail
          go_roundw
          case rel => exact ⟨i + 1, T ++ ⟨#[44]⟩ ++ ⟨#[35, 82, 69, 70, 33]⟩, by omega, rfl, by go_num, HZ1.out, HS1, Lib.hid (HB.out.alloc HB.out.size _)⟩
          case measure => simp [intOf]; omega
    · have hli : ¬ (i : Int) < (k : Int) := by omega
      have hik : k = i := by omega
      subst hik
      have hz1 : T.size + (⟨#[41]⟩ : ByteArray).size ≤ 1000 := by show T.size + 1 ≤ 1000; omega
      have hz2 : (T ++ ⟨#[41]⟩).size ≤ 300 := by rw [ByteArray.size_append]; show T.size + 1 ≤ 300; omega
      have hall := calls_all k hk12
      have hsb : sb (T ++ ⟨#[41]⟩) = callL k ++ [41] := by rw [sb_append, HT.out]; rfl
      rw [← hsb] at hall
      obtain ⟨ns, nn, hp, hnl, hl, e1, e2, e3⟩ := top_PIs _ hz2 hall
      have HX := Lib.hid (fun wr hb => parse_ok _ wr (HV.out.below hb) (HO.out.below hb) ns hp (by omega))
      have HXT := Lib.hid (fun (w2 : World) (lo g cap : Nat) (vs : List Nv) h1 h2 h3 => told5 (w := w2) (lo := lo) (g := g) (cap := cap) (vs := vs) hnl hl e1 e2 e3 h1 h2 h3)
      have hl : ns.length = k + 1 := hl
      have HL := Lib.hid hl
      have HXX := HX.out wr HB.out
      rw [hl] at HXX
      have HXX := Lib.hid HXX
      have hw1 : (k : Int) + 1 ≤ 9223372036854775807 := by omega
      clear hsb hall hp hnl hl e1 e2 e3 HX
      go_upto_region 12 with (first
        | (go_at_call 5; ((with_reducible refine HXX.out.mono ?_); rintro e w2 ⟨hb, g, cap, vs, rfl, hvn, hvl, hnv, -⟩; have HB2 := Lib.hid (HB.out.trans (hb.mono HB.out.size)); obtain ⟨q0, q2, A, c, q13⟩ := HXT.out w2 _ g cap vs hvn (by rw [hvl, HL.out]) hnv; clear hb hvn hvl hnv))
        | (go_at_call 6; ((with_reducible refine (num_is _ _).mono ?_); rintro e wn ⟨rfl, rfl⟩)))
      clear q0 q2 q13 HXX HXT
      have HBB := Lib.hid (fun (wr : World) (s : ByteArray) (hp : PIs s (.error 5)) (hb : Below w.heap.size w wr) => parse_err s wr (HV.out.below hb) (HO.out.below hb) 5 hp)
      rcases (show j = 0 ∨ j = 1 ∨ j = 2 ∨ j = 3 ∨ j = 4 ∨ j = 5 ∨ j = 6 ∨ j = 7 ∨ j = 8 ∨ j = 9 ∨ j = 10 ∨ j = 11 ∨ j = 12 ∨ j = 13 ∨ j = 14 ∨ j = 15 by omega) with rfl | rfl | rfl | rfl | rfl | rfl | rfl | rfl | rfl | rfl | rfl | rfl | rfl | rfl | rfl | rfl
      · have HX := Lib.hid (fun wr hb => HBB.out wr ⟨#[70, 40, 49, 44, 41]⟩ (bad_PIs 0 (by decide)) hb)
        go_wp2_with (first
          | (go_at_call 5; ((with_reducible refine (HX.out _ (HB2.out.alloc HB2.out.size _)).mono ?_); rintro e w4 ⟨hb, rfl⟩; have HB4 := Lib.hid ((HB2.out.alloc HB2.out.size _).trans (hb.mono (by have := HB2.out.size; simp; omega))); clear hb))
          | (go_at_call 6; ((with_reducible refine (num_is _ _).mono ?_); rintro e wn ⟨rfl, rfl⟩))
          | (go_at_call 7; ((with_reducible refine (awake5_any _ (HV.out.below HB4.out) (HO.out.below HB4.out)).mono ?_); rintro e w3 ⟨rfl, h1⟩; have HB5 := Lib.hid (HB4.out.trans (h1.mono HB4.out.size)); clear h1)))
        go_ret
        exact ⟨rfl, HB5.out⟩
      · have HX := Lib.hid (fun wr hb => HBB.out wr ⟨#[70, 40, 44, 49, 41]⟩ (bad_PIs 1 (by decide)) hb)
        go_wp2_with (first
          | (go_at_call 5; ((with_reducible refine (HX.out _ (HB2.out.alloc HB2.out.size _)).mono ?_); rintro e w4 ⟨hb, rfl⟩; have HB4 := Lib.hid ((HB2.out.alloc HB2.out.size _).trans (hb.mono (by have := HB2.out.size; simp; omega))); clear hb))
          | (go_at_call 6; ((with_reducible refine (num_is _ _).mono ?_); rintro e wn ⟨rfl, rfl⟩))
          | (go_at_call 7; ((with_reducible refine (awake5_any _ (HV.out.below HB4.out) (HO.out.below HB4.out)).mono ?_); rintro e w3 ⟨rfl, h1⟩; have HB5 := Lib.hid (HB4.out.trans (h1.mono HB4.out.size)); clear h1)))
        go_ret
        exact ⟨rfl, HB5.out⟩
      · have HX := Lib.hid (fun wr hb => HBB.out wr ⟨#[70, 40, 49]⟩ (bad_PIs 2 (by decide)) hb)
        go_wp2_with (first
          | (go_at_call 5; ((with_reducible refine (HX.out _ (HB2.out.alloc HB2.out.size _)).mono ?_); rintro e w4 ⟨hb, rfl⟩; have HB4 := Lib.hid ((HB2.out.alloc HB2.out.size _).trans (hb.mono (by have := HB2.out.size; simp; omega))); clear hb))
          | (go_at_call 6; ((with_reducible refine (num_is _ _).mono ?_); rintro e wn ⟨rfl, rfl⟩))
          | (go_at_call 7; ((with_reducible refine (awake5_any _ (HV.out.below HB4.out) (HO.out.below HB4.out)).mono ?_); rintro e w3 ⟨rfl, h1⟩; have HB5 := Lib.hid (HB4.out.trans (h1.mono HB4.out.size)); clear h1)))
        go_ret
        exact ⟨rfl, HB5.out⟩
      · have HX := Lib.hid (fun wr hb => HBB.out wr ⟨#[49, 43]⟩ (bad_PIs 3 (by decide)) hb)
        go_wp2_with (first
          | (go_at_call 5; ((with_reducible refine (HX.out _ (HB2.out.alloc HB2.out.size _)).mono ?_); rintro e w4 ⟨hb, rfl⟩; have HB4 := Lib.hid ((HB2.out.alloc HB2.out.size _).trans (hb.mono (by have := HB2.out.size; simp; omega))); clear hb))
          | (go_at_call 6; ((with_reducible refine (num_is _ _).mono ?_); rintro e wn ⟨rfl, rfl⟩))
          | (go_at_call 7; ((with_reducible refine (awake5_any _ (HV.out.below HB4.out) (HO.out.below HB4.out)).mono ?_); rintro e w3 ⟨rfl, h1⟩; have HB5 := Lib.hid (HB4.out.trans (h1.mono HB4.out.size)); clear h1)))
        go_ret
        exact ⟨rfl, HB5.out⟩
      · have HX := Lib.hid (fun wr hb => HBB.out wr ⟨#[43, 49]⟩ (bad_PIs 4 (by decide)) hb)
        go_wp2_with (first
          | (go_at_call 5; ((with_reducible refine (HX.out _ (HB2.out.alloc HB2.out.size _)).mono ?_); rintro e w4 ⟨hb, rfl⟩; have HB4 := Lib.hid ((HB2.out.alloc HB2.out.size _).trans (hb.mono (by have := HB2.out.size; simp; omega))); clear hb))
          | (go_at_call 6; ((with_reducible refine (num_is _ _).mono ?_); rintro e wn ⟨rfl, rfl⟩))
          | (go_at_call 7; ((with_reducible refine (awake5_any _ (HV.out.below HB4.out) (HO.out.below HB4.out)).mono ?_); rintro e w3 ⟨rfl, h1⟩; have HB5 := Lib.hid (HB4.out.trans (h1.mono HB4.out.size)); clear h1)))
        go_ret
        exact ⟨rfl, HB5.out⟩
      · have HX := Lib.hid (fun wr hb => HBB.out wr ⟨#[65, 49, 58]⟩ (bad_PIs 5 (by decide)) hb)
        go_wp2_with (first
          | (go_at_call 5; ((with_reducible refine (HX.out _ (HB2.out.alloc HB2.out.size _)).mono ?_); rintro e w4 ⟨hb, rfl⟩; have HB4 := Lib.hid ((HB2.out.alloc HB2.out.size _).trans (hb.mono (by have := HB2.out.size; simp; omega))); clear hb))
          | (go_at_call 6; ((with_reducible refine (num_is _ _).mono ?_); rintro e wn ⟨rfl, rfl⟩))
          | (go_at_call 7; ((with_reducible refine (awake5_any _ (HV.out.below HB4.out) (HO.out.below HB4.out)).mono ?_); rintro e w3 ⟨rfl, h1⟩; have HB5 := Lib.hid (HB4.out.trans (h1.mono HB4.out.size)); clear h1)))
        go_ret
        exact ⟨rfl, HB5.out⟩
      · have HX := Lib.hid (fun wr hb => HBB.out wr ⟨#[66, 50, 58, 65, 49]⟩ (bad_PIs 6 (by decide)) hb)
        go_wp2_with (first
          | (go_at_call 5; ((with_reducible refine (HX.out _ (HB2.out.alloc HB2.out.size _)).mono ?_); rintro e w4 ⟨hb, rfl⟩; have HB4 := Lib.hid ((HB2.out.alloc HB2.out.size _).trans (hb.mono (by have := HB2.out.size; simp; omega))); clear hb))
          | (go_at_call 6; ((with_reducible refine (num_is _ _).mono ?_); rintro e wn ⟨rfl, rfl⟩))
          | (go_at_call 7; ((with_reducible refine (awake5_any _ (HV.out.below HB4.out) (HO.out.below HB4.out)).mono ?_); rintro e w3 ⟨rfl, h1⟩; have HB5 := Lib.hid (HB4.out.trans (h1.mono HB4.out.size)); clear h1)))
        go_ret
        exact ⟨rfl, HB5.out⟩
      · have HX := Lib.hid (fun wr hb => HBB.out wr ⟨#[65, 49, 58, 83, 33, 66, 50]⟩ (bad_PIs 7 (by decide)) hb)
        go_wp2_with (first
          | (go_at_call 5; ((with_reducible refine (HX.out _ (HB2.out.alloc HB2.out.size _)).mono ?_); rintro e w4 ⟨hb, rfl⟩; have HB4 := Lib.hid ((HB2.out.alloc HB2.out.size _).trans (hb.mono (by have := HB2.out.size; simp; omega))); clear hb))
          | (go_at_call 6; ((with_reducible refine (num_is _ _).mono ?_); rintro e wn ⟨rfl, rfl⟩))
          | (go_at_call 7; ((with_reducible refine (awake5_any _ (HV.out.below HB4.out) (HO.out.below HB4.out)).mono ?_); rintro e w3 ⟨rfl, h1⟩; have HB5 := Lib.hid (HB4.out.trans (h1.mono HB4.out.size)); clear h1)))
        go_ret
        exact ⟨rfl, HB5.out⟩
      · have HX := Lib.hid (fun wr hb => HBB.out wr ⟨#[49, 32, 50]⟩ (bad_PIs 8 (by decide)) hb)
        go_wp2_with (first
          | (go_at_call 5; ((with_reducible refine (HX.out _ (HB2.out.alloc HB2.out.size _)).mono ?_); rintro e w4 ⟨hb, rfl⟩; have HB4 := Lib.hid ((HB2.out.alloc HB2.out.size _).trans (hb.mono (by have := HB2.out.size; simp; omega))); clear hb))
          | (go_at_call 6; ((with_reducible refine (num_is _ _).mono ?_); rintro e wn ⟨rfl, rfl⟩))
          | (go_at_call 7; ((with_reducible refine (awake5_any _ (HV.out.below HB4.out) (HO.out.below HB4.out)).mono ?_); rintro e w3 ⟨rfl, h1⟩; have HB5 := Lib.hid (HB4.out.trans (h1.mono HB4.out.size)); clear h1)))
        go_ret
        exact ⟨rfl, HB5.out⟩
      · have HX := Lib.hid (fun wr hb => HBB.out wr ⟨#[84, 82, 85, 69, 40, 49, 41]⟩ (bad_PIs 9 (by decide)) hb)
        go_wp2_with (first
          | (go_at_call 5; ((with_reducible refine (HX.out _ (HB2.out.alloc HB2.out.size _)).mono ?_); rintro e w4 ⟨hb, rfl⟩; have HB4 := Lib.hid ((HB2.out.alloc HB2.out.size _).trans (hb.mono (by have := HB2.out.size; simp; omega))); clear hb))
          | (go_at_call 6; ((with_reducible refine (num_is _ _).mono ?_); rintro e wn ⟨rfl, rfl⟩))
          | (go_at_call 7; ((with_reducible refine (awake5_any _ (HV.out.below HB4.out) (HO.out.below HB4.out)).mono ?_); rintro e w3 ⟨rfl, h1⟩; have HB5 := Lib.hid (HB4.out.trans (h1.mono HB4.out.size)); clear h1)))
        go_ret
        exact ⟨rfl, HB5.out⟩
      · have HX := Lib.hid (fun wr hb => HBB.out wr ⟨#[70]⟩ (bad_PIs 10 (by decide)) hb)
        go_wp2_with (first
          | (go_at_call 5; ((with_reducible refine (HX.out _ (HB2.out.alloc HB2.out.size _)).mono ?_); rintro e w4 ⟨hb, rfl⟩; have HB4 := Lib.hid ((HB2.out.alloc HB2.out.size _).trans (hb.mono (by have := HB2.out.size; simp; omega))); clear hb))
          | (go_at_call 6; ((with_reducible refine (num_is _ _).mono ?_); rintro e wn ⟨rfl, rfl⟩))
          | (go_at_call 7; ((with_reducible refine (awake5_any _ (HV.out.below HB4.out) (HO.out.below HB4.out)).mono ?_); rintro e w3 ⟨rfl, h1⟩; have HB5 := Lib.hid (HB4.out.trans (h1.mono HB4.out.size)); clear h1)))
        go_ret
        exact ⟨rfl, HB5.out⟩
      · have HX := Lib.hid (fun wr hb => HBB.out wr ⟨#[97, 49]⟩ (bad_PIs 11 (by decide)) hb)
        go_wp2_with (first
          | (go_at_call 5; ((with_reducible refine (HX.out _ (HB2.out.alloc HB2.out.size _)).mono ?_); rintro e w4 ⟨hb, rfl⟩; have HB4 := Lib.hid ((HB2.out.alloc HB2.out.size _).trans (hb.mono (by have := HB2.out.size; simp; omega))); clear hb))
          | (go_at_call 6; ((with_reducible refine (num_is _ _).mono ?_); rintro e wn ⟨rfl, rfl⟩))
          | (go_at_call 7; ((with_reducible refine (awake5_any _ (HV.out.below HB4.out) (HO.out.below HB4.out)).mono ?_); rintro e w3 ⟨rfl, h1⟩; have HB5 := Lib.hid (HB4.out.trans (h1.mono HB4.out.size)); clear h1)))
        go_ret
        exact ⟨rfl, HB5.out⟩
      · have HX := Lib.hid (fun wr hb => HBB.out wr ⟨#[]⟩ (bad_PIs 12 (by decide)) hb)
        go_wp2_with (first
          | (go_at_call 5; ((with_reducible refine (HX.out _ (HB2.out.alloc HB2.out.size _)).mono ?_); rintro e w4 ⟨hb, rfl⟩; have HB4 := Lib.hid ((HB2.out.alloc HB2.out.size _).trans (hb.mono (by have := HB2.out.size; simp; omega))); clear hb))
          | (go_at_call 6; ((with_reducible refine (num_is _ _).mono ?_); rintro e wn ⟨rfl, rfl⟩))
          | (go_at_call 7; ((with_reducible refine (awake5_any _ (HV.out.below HB4.out) (HO.out.below HB4.out)).mono ?_); rintro e w3 ⟨rfl, h1⟩; have HB5 := Lib.hid (HB4.out.trans (h1.mono HB4.out.size)); clear h1)))
        go_ret
        exact ⟨rfl, HB5.out⟩
      · have HX := Lib.hid (fun wr hb => HBB.out wr ⟨#[58, 65, 49]⟩ (bad_PIs 13 (by decide)) hb)
        go_wp2_with (first
          | (go_at_call 5; ((with_reducible refine (HX.out _ (HB2.out.alloc HB2.out.size _)).mono ?_); rintro e w4 ⟨hb, rfl⟩; have HB4 := Lib.hid ((HB2.out.alloc HB2.out.size _).trans (hb.mono (by have := HB2.out.size; simp; omega))); clear hb))
          | (go_at_call 6; ((with_reducible refine (num_is _ _).mono ?_); rintro e wn ⟨rfl, rfl⟩))
          | (go_at_call 7; ((with_reducible refine (awake5_any _ (HV.out.below HB4.out) (HO.out.below HB4.out)).mono ?_); rintro e w3 ⟨rfl, h1⟩; have HB5 := Lib.hid (HB4.out.trans (h1.mono HB4.out.size)); clear h1)))
        go_ret
        exact ⟨rfl, HB5.out⟩
      · have HX := Lib.hid (fun wr hb => HBB.out wr ⟨#[40, 49]⟩ (bad_PIs 14 (by decide)) hb)
        go_wp2_with (first
          | (go_at_call 5; ((with_reducible refine (HX.out _ (HB2.out.alloc HB2.out.size _)).mono ?_); rintro e w4 ⟨hb, rfl⟩; have HB4 := Lib.hid ((HB2.out.alloc HB2.out.size _).trans (hb.mono (by have := HB2.out.size; simp; omega))); clear hb))
          | (go_at_call 6; ((with_reducible refine (num_is _ _).mono ?_); rintro e wn ⟨rfl, rfl⟩))
          | (go_at_call 7; ((with_reducible refine (awake5_any _ (HV.out.below HB4.out) (HO.out.below HB4.out)).mono ?_); rintro e w3 ⟨rfl, h1⟩; have HB5 := Lib.hid (HB4.out.trans (h1.mono HB4.out.size)); clear h1)))
        go_ret
        exact ⟨rfl, HB5.out⟩
      · have HX := Lib.hid (fun wr hb => HBB.out wr ⟨#[49, 41]⟩ (bad_PIs 15 (by decide)) hb)
        go_wp2_with (first
          | (go_at_call 5; ((with_reducible refine (HX.out _ (HB2.out.alloc HB2.out.size _)).mono ?_); rintro e w4 ⟨hb, rfl⟩; have HB4 := Lib.hid ((HB2.out.alloc HB2.out.size _).trans (hb.mono (by have := HB2.out.size; simp; omega))); clear hb))
          | (go_at_call 6; ((with_reducible refine (num_is _ _).mono ?_); rintro e wn ⟨rfl, rfl⟩))
          | (go_at_call 7; ((with_reducible refine (awake5_any _ (HV.out.below HB4.out) (HO.out.below HB4.out)).mono ?_); rintro e w3 ⟨rfl, h1⟩; have HB5 := Lib.hid (HB4.out.trans (h1.mono HB4.out.size)); clear h1)))
        go_ret
        exact ⟨rfl, HB5.out⟩
end Go.Proofs.YtinnbfdhejmaaaaDoor

/-
  What every law's row asks behind its walk: the answer true; the arguments read as they did. One lemma for all laws, whatever their parameters.
-/
namespace Go.Proofs.YtinnbfdhejmaaaaDoor
open Go.ChangeShapes Go.WideShapes Go.ChangeAt Go.RowKit

/-- Whatever was there below the old heap's end reads as it did. -/
theorem trodAll_below {H : Type} {enc : TypeId × Value → H} {P : Program} (hl : laidOutB P = true) {W W' : World} (hb : Below W.heap.size W W') :
    ∀ (ts : List TypeId) (vs : List Value) (ds : List (DataW H)) (p : List MemPlace), (ts.all fun t => P.readableRec t && decide (t < P.types.size)) = true → (∀ x ∈ p, x.block < W.heap.size) →
      DataW.TrodAll enc P W 0 (fun _ => true) true ts vs ds p → DataW.TrodAll enc P W' 0 (fun b => decide (b < W.heap.size)) true ts vs ds p := by
  intro ts
  induction ts with
  | nil =>
    intro vs ds p _ _ h
    obtain ⟨rfl, rfl, rfl⟩ := trodAll_nil h
    exact trodAll_mk0
  | cons t ts ih =>
    intro vs ds p ht hlt h
    obtain ⟨v, vs', d, ds', p1, q1, rfl, rfl, rfl, h0, hr⟩ := trodAll_cons h
    rw [List.all_cons, Bool.and_eq_true, Bool.and_eq_true, decide_eq_true_eq] at ht
    exact trodAll_cons_mk (Below.trod hl ht.1.1 ht.1.2 h0 hb (fun x hx => hlt x (List.mem_append_left _ hx))) (ih vs' ds' q1 ht.2 (fun x hx => hlt x (List.mem_append_right _ hx)) hr)

theorem own : ownKnob Tryd.prog.godebug = none := by kernel_rfl
theorem laidOut : laidOutB Tryd.prog = true := by kernel_rfl
/-- THE CLOSING: the law answers true and has left what was there. -/
theorem law_post {H : Type} {enc : TypeId × Value → H} {f : Func} {s : ChangeSpec} {W W' : World} {args : Array Value} {ds gs : List (DataW H)} {before : List MemPlace} (hl : laidOutB Tryd.prog = true)
    (hparams : (f.params.toList.all fun t => Tryd.prog.readableRec t && decide (t < Tryd.prog.types.size)) = true) (hres : f.resultTypes = #[4])
    (hvars : s.vars = []) (hfn : s.fn H (ds ++ gs) = { results := [.lit (.bool true)], args := ds })
    (hW : DataW.Whole enc Tryd.prog f.params.toList s.vars false W args.toList ds gs before) (hlt : ∀ x ∈ before, x.block < W.heap.size) (hb : Below W.heap.size W W') :
    s.post enc Tryd.prog f false true false false W args (.bool true) W' := by
  have hW0 := hW
  obtain ⟨p, q, hA, hV, rfl, _, _⟩ := hW
  refine ⟨ds, gs, p ++ q, [], p, [], hW0, ?_, ?_, ?_, hb.frame _, fun h => by cases h⟩
  · rw [hfn, hres]
    exact trodAll_cons_mk (shut_bool Tryd.underlying4 true) trodAll_mk0
  · rw [hfn]
    exact trodAll_below hl hb _ _ _ _ hparams (fun x hx => hlt x (List.mem_append_left _ hx)) hA
  · rw [hvars, hfn]; rfl
end Go.Proofs.YtinnbfdhejmaaaaDoor

/-
  What a law over the signs, the operators and the library's errors asks: the variables' facts, a world for the witness.
-/
namespace Go.Proofs.YtinnbfdhejmaaaaDoor
open Go.ChangeShapes Go.WideShapes Go.ChangeAt Go.RowKit

/-- Texts as a datum. -/
def textData {H : Type} (bs : List (List UInt8)) : DataW H := .agg (bs.map fun b => .lit (.string b))
/-- An array of texts that reads so holds the texts, cell for cell. -/
theorem cells_of_texts {H : Type} {enc : TypeId × Value → H} {P : Program} {w : World} {base : Nat} {sp : Nat → Bool} {held : Bool} {fuel : Nat} {t e : TypeId} {n : Nat} {cs : List Value} {bs : List (List UInt8)} {p : List MemPlace}
    (ht : P.underlying t = some (.array n e)) (he : P.underlying e = some .string) (hce : P.cellsOf e = 1) (hct : P.cellsOf t = n)
    (h : DataW.trod enc P w base sp held fuel t cs = some (textData bs, p)) : cs = bs.map fun b => Value.string ⟨b.toArray⟩ := by
  cases fuel with
  | zero => simp [DataW.trod] at h
  | succ fuel =>
    simp only [DataW.trod, ht, hce, hct, Nat.mul_one] at h
    split at h
    · rename_i hl
      obtain ⟨xs, hm, hx⟩ := Option.map_eq_some_iff.1 h
      have hxs : xs.map (·.1) = bs.map fun b => (DataW.lit (.string b) : DataW H) := by
        have := congrArg Prod.fst hx
        simpa [textData] using this
      have hxl : xs.length = n := by simpa using Lib.mapM_length hm
      have hzl : bs.length = n := by
        have := congrArg List.length hxs
        simp at this
        omega
      apply List.ext_getElem?
      intro i
      by_cases hi : i < n
      · obtain ⟨b, hb, hf⟩ := Lib.mapM_at hm i i (by simp [hi])
        obtain ⟨z, hc, rfl, _⟩ := DataW.trod_string he hf
        have h1 : cs[i]? = some (.string z) := by
          have := congrArg (·[0]?) hc
          simpa [List.getElem?_take, List.getElem?_drop] using this
        have h2 : (xs.map (·.1))[i]? = some (DataW.lit (.string z.data.toList) : DataW H) := by simp [hb]
        rw [hxs] at h2
        simp only [List.getElem?_map, Option.map_eq_some_iff, DataW.lit.injEq, Lit.string.injEq] at h2
        obtain ⟨z', hz', e⟩ := h2
        simp only [h1, List.getElem?_map, hz', Option.map_some, e]
      · rw [List.getElem?_eq_none (by omega), List.getElem?_eq_none (by simp; omega)]
    · cases h
def laidList : List (String × DataW Unit) := [("math/bits.deBruijn32tab", Rows.laid_math_bits_deBruijn32tab), ("math/bits.deBruijn64tab", Rows.laid_math_bits_deBruijn64tab), ("internal/strconv.uint64pow10", Rows.laid_internal_strconv_uint64pow10), ("strconv.ErrRange", Rows.laid_strconv_ErrRange), ("strconv.ErrSyntax", Rows.laid_strconv_ErrSyntax), ("chequer/lex.signs", Rows.laid_chequer_lex_signs), ("chequer/parse.operators", Rows.laid_chequer_parse_operators)]
theorem gErr : Tryd.prog.globalNamed "strconv.ErrRange" = some 3 := by kernel_rfl
theorem gErr_t : (Tryd.prog.globals[(3 : Nat)]?).map (·.type) = some 66 := by kernel_rfl
theorem gSig : Tryd.prog.globalNamed "chequer/lex.signs" = some 0 := by kernel_rfl
theorem gSig_t : (Tryd.prog.globals[(0 : Nat)]?).map (·.type) = some 72 := by kernel_rfl
theorem cellsErr : Tryd.prog.cellsOf 103 = 1 := by kernel_rfl
theorem cellsStr : Tryd.prog.cellsOf 9 = 1 := by kernel_rfl
theorem cellsSig : Tryd.prog.cellsOf 72 = 15 := by kernel_rfl
theorem star : "*" ++ "errors.errorString" = "*errors.errorString" := by decide
theorem rowErr (u : TypeId) (h : Tryd.prog.typeName? 3 u = some "*errors.errorString") : u = 101 :=
  typeName_ptr_named (nm := "errors.errorString") (by rw [star]; kernel_rfl) (by kernel_rfl) (by decide) u (by rw [star]; exact h)
def sigBytes : List (List UInt8) := [[60, 62], [60, 61], [62, 61], [43], [45], [42], [47], [38], [61], [60], [62], [40], [41], [44], [58]]
theorem sigData : (Rows.laid_chequer_lex_signs : DataW Unit) = textData sigBytes := rfl
theorem sigCells : (sigBytes.map fun b => Value.string ⟨b.toArray⟩) = sigA.toList := rfl
/-- What a row's list gives. -/
theorem tables {W : World} (h : laidMetH Tryd.prog laidList W) : Vars W := by
  have h1 : laidMet Tryd.prog laidList W := h
  have h4 := laidMet.tail (laidMet.tail (laidMet.tail h1))
  constructor
  · obtain ⟨a0, s0, hv0, -, -, -⟩ := laid_sentinel h4 gErr gErr_t Tryd.underlying66 rowErr Tryd.underlying101 Tryd.underlying103 rfl rfl Tryd.underlying9 cellsErr cellsStr
    exact ⟨_, by have h0 := World.var?_cell gErr hv0 0; simpa using h0, Or.inr ⟨_, _, rfl⟩⟩
  · have h6 := laidMet.tail (laidMet.tail h4)
    obtain ⟨ps, ⟨g', t', cs, fuel, p, q, hg', ht', hvar, hd, _, _⟩, _⟩ := h6
    obtain rfl := Option.some.inj (gSig.symm.trans hg')
    obtain rfl := Option.some.inj (gSig_t.symm.trans ht')
    rw [sigData] at hd
    have hc := cells_of_texts Tryd.underlying72 Tryd.underlying9 cellsStr cellsSig hd
    rw [sigCells] at hc
    unfold World.var? at hvar
    rw [gSig] at hvar
    simp only [Option.bind_some] at hvar
    split at hvar
    · rename_i cs' ty fr hh
      injection hvar with hvar
      subst hvar
      have : cs' = sigA := Array.toList_inj.1 hc
      exact ⟨ty, fr, by rw [← this]; exact hh⟩
    · cases hvar
/-- The operators' cells. -/
def opC (q : ByteArray × Nat × Int) : List Value := [.string q.1, .int .i64 (q.2.1 : Int), .int .i64 q.2.2]
theorem cells3 : ∀ (L : List (ByteArray × Nat × Int)) (cs : List Value), cs.length = L.length * 3 → (∀ (i : Nat) q, L[i]? = some q → (cs.drop (i * 3)).take 3 = opC q) → cs = L.flatMap opC
  | [], cs, h, _ => by simpa using h
  | q :: L, cs, h, hi => by
    have h0 := hi 0 q rfl
    rw [Nat.zero_mul, List.drop_zero] at h0
    have h1 := cells3 L (cs.drop 3) (by rw [List.length_drop, h, List.length_cons]; omega) (fun i q' hq => by
      have := hi (i + 1) q' (by simpa using hq)
      rw [Nat.succ_mul] at this
      rw [List.drop_drop, Nat.add_comm 3]; exact this)
    rw [List.flatMap_cons, ← h0, ← h1, List.take_append_drop]
def opData {H : Type} (q : ByteArray × Nat × Int) : DataW H := .agg [.lit (.string q.1.data.toList), .lit (.int .i64 (q.2.1 : Int)), .lit (.int .i64 q.2.2)]
theorem opsData : (Rows.laid_chequer_parse_operators : DataW Unit) = .agg (opL3.map opData) := rfl
theorem gOps : Tryd.prog.globalNamed "chequer/parse.operators" = some 1 := by kernel_rfl
theorem gOps_t : (Tryd.prog.globals[(1 : Nat)]?).map (·.type) = some 75 := by kernel_rfl
theorem cellsOps : Tryd.prog.cellsOf 75 = 33 := by kernel_rfl
theorem cellsOp : Tryd.prog.cellsOf 74 = 3 := by kernel_rfl
theorem cellsInt : Tryd.prog.cellsOf 3 = 1 := by kernel_rfl
set_option maxRecDepth 100000 in
theorem op_of_trod {enc : TypeId × Value → Unit} {w : World} {base : Nat} {sp : Nat → Bool} {held : Bool} {fuel : Nat} {cs : List Value} {q : ByteArray × Nat × Int} {p : List MemPlace}
    (h : DataW.trod enc Tryd.prog w base sp held fuel 74 cs = some (opData q, p)) : cs = opC q := by
  obtain ⟨y0, y1, y2, n, hx, hl, h0, h1, h2⟩ := Go.Deep.trod_struct3 Tryd.underlying74 h
  injection hx with hx _
  unfold opData at hx
  injection hx with hx
  injection hx with e0 hx; injection hx with e1 hx; injection hx with e2 _
  rw [cellsOp] at hl
  match cs, hl with
  | [c0, c1, c2], _ =>
    obtain ⟨s, g0, g0', _⟩ := DataW.trod_string Tryd.underlying9 h0
    obtain ⟨n1, g1, g1', _⟩ := DataW.trod_int Tryd.underlying3 h1
    obtain ⟨n2, g2, g2', _⟩ := DataW.trod_int Tryd.underlying3 h2
    have k0 : [c0] = [Value.string s] := g0
    have k1 : [c1] = [Value.int .i64 n1] := g1
    have k2 : [c2] = [Value.int .i64 n2] := g2
    injection k0 with k0 _; injection k1 with k1 _; injection k2 with k2 _
    rw [g0'] at e0; rw [g1'] at e1; rw [g2'] at e2
    injection e0 with e0; injection e0 with e0
    injection e1 with e1; injection e1 with _ e1
    injection e2 with e2; injection e2 with _ e2
    have es : s = q.1 := by
      cases s; cases hq : q.1
      rw [hq] at e0
      simp only at e0
      rw [Array.toList_inj.1 e0.symm]
    rw [k0, k1, k2, es, ← e1, ← e2]; rfl
set_option maxRecDepth 100000 in
theorem cells_of_ops {enc : TypeId × Value → Unit} {w : World} {base : Nat} {sp : Nat → Bool} {held : Bool} {fuel : Nat} {cs : List Value} {p : List MemPlace}
    (h : DataW.trod enc Tryd.prog w base sp held fuel 75 cs = some (.agg (opL3.map opData), p)) : cs = opL3.flatMap opC := by
  obtain ⟨xs, m, _, hx, hl, hxl, hi⟩ := DataW.trod_array Tryd.underlying75 h
  injection hx with hx _
  injection hx with hx
  rw [cellsOps] at hl
  refine cells3 opL3 cs (by rw [hl]; rfl) fun i q hq => ?_
  have hlt := (List.getElem?_eq_some_iff.1 hq).1
  have hlt : i < 11 := hlt
  have h1 := hi i hlt
  rw [cellsOp] at h1
  obtain ⟨y, hy⟩ : ∃ y, xs[i]? = some y := ⟨_, List.getElem?_eq_getElem (by omega)⟩
  rw [hy] at h1
  have h2 : (xs.map (·.1))[i]? = some y.1 := by rw [List.getElem?_map, hy]; rfl
  rw [← hx, List.getElem?_map, hq] at h2
  have h2 : opData q = y.1 := Option.some.inj h2
  obtain ⟨y1, y2⟩ := y
  have h2 : opData q = y1 := h2
  subst h2
  exact op_of_trod h1
theorem opA_list : opA.toList = opL3.flatMap opC := rfl
/-- The operators out of a row's list. -/
theorem tablesOp {W : World} (h : laidMetH Tryd.prog laidList W) : OpV W := by
  have h1 : laidMet Tryd.prog laidList W := h
  have h4 := laidMet.tail (laidMet.tail (laidMet.tail (laidMet.tail (laidMet.tail (laidMet.tail h1)))))
  obtain ⟨ps, ⟨g', t', cs, fuel, p, q, hg', ht', hvar, hd, _, _⟩, _⟩ := h4
  obtain rfl := Option.some.inj (gOps.symm.trans hg')
  obtain rfl := Option.some.inj (gOps_t.symm.trans ht')
  rw [opsData] at hd
  have hc := cells_of_ops hd
  rw [← opA_list] at hc
  unfold World.var? at hvar
  rw [gOps] at hvar
  simp only [Option.bind_some] at hvar
  split at hvar
  · rename_i cs' ty fr hh
    injection hvar with hvar
    subst hvar
    have : cs' = opA := Array.toList_inj.1 hc
    exact ⟨ty, fr, by rw [← this]; exact hh⟩
  · cases hvar
/-- A WORLD FOR THE WITNESS: the settled one, the variables holding what their initialisers lay. -/
noncomputable def laidWorld (os : Os) : World := World.laidAll Tryd.prog os laidList
theorem laid_met0 (os : Os) (args : Array Value) : laidMet Tryd.prog laidList ((laidWorld os).forCall (fun _ _ => 0) ⟨#[], args, []⟩).memory := laidMet_laidAll args (by kernel_rfl) (by kernel_rfl)
end Go.Proofs.YtinnbfdhejmaaaaDoor

namespace Go.Proofs.YtinnbfdhejmaaaaDoor.lawPCalls
open Go.ChangeShapes Go.WideShapes Go.ChangeAt Go.RowKit
open Go.WideMaps Go.WideElems
open Go.ChangeMaps (open_string shut_string)

set_option maxRecDepth 100000 in
theorem contract (H : Type) (enc : TypeId × Value → H) (W : World) (base : Nat) (args : Array Value) (ds gs : List (DataW H)) (before : List MemPlace)
    (hval : ∀ (j : Nat) t v, Tryd.f4.params[j]? = some t → args[j]? = some v → Value.okWide Tryd.prog W .any base t v)
    (hW : DataW.Whole enc Tryd.prog Tryd.f4.params.toList Rows.parseCallsSpec.vars false W args.toList ds gs before) (hL : laidMetH Tryd.prog Rows.parseCallsRow.laid W) :
    Calls Tryd.prog 4 args W fun e W' => ∃ v, e = .returned v ∧ Rows.parseCallsSpec.post enc Tryd.prog Tryd.f4 false true false false W args v W' := by
  have hW' := hW
  have hlt := hW.lt
  obtain ⟨p, q, hA, hV, rfl, hfz, hnd⟩ := hW
  rw [Tryd.params4] at hA hval
  obtain ⟨v0, vs0, d0, ds0, p0, q0, hargs, rfl, rfl, h0, r0⟩ := trodAll_cons hA
  obtain ⟨v1, vs1, d1, ds1, p1, q1, rfl, rfl, rfl, h1, r1⟩ := trodAll_cons r0
  obtain ⟨rfl, rfl, rfl⟩ := trodAll_nil r1
  obtain rfl : args = #[v0, v1] := by cases args; simp_all
  obtain ⟨rfl, rfl⟩ := trodVars_none hV
  obtain ⟨n0, rfl, rfl, rfl, wn0⟩ := open_int Tryd.underlying5 (hval 0 5 v0 rfl rfl) h0
  have bn0 := bounds_u8 wn0
  obtain ⟨m0, rfl⟩ : ∃ m : Nat, n0 = (m : Int) := ⟨n0.toNat, by omega⟩
  obtain ⟨n1, rfl, rfl, rfl, wn1⟩ := open_int Tryd.underlying5 (hval 1 5 v1 rfl rfl) h1
  have bn1 := bounds_u8 wn1
  obtain ⟨m1, rfl⟩ : ∃ m : Nat, n1 = (m : Int) := ⟨n1.toNat, by omega⟩
  have hL2 : laidMetH Tryd.prog laidList W := by rw [show laidList = Rows.parseCallsRow.laid from rfl]; exact hL
  refine (parseCalls_any m0 m1 (by omega) (by omega) W (tables hL2) (tablesOp hL2)).mono fun e W' ⟨he, hb⟩ => ?_
  subst he
  exact ⟨_, rfl, law_post laidOut (by kernel_rfl) (by kernel_rfl) rfl rfl hW' hlt hb⟩

set_option maxRecDepth 100000 in
theorem laid_met (os : Os) : laidMet Tryd.prog Rows.parseCallsRow.laid ((laidWorld os).forCall (fun _ _ => 0) ⟨#[], #[.int .u8 0, .int .u8 0], []⟩).memory :=
  laid_met0 os _
theorem reads (os : Os) {H : Type} (enc : TypeId × Value → H) : ∃ places, DataW.whole enc Tryd.prog ((laidWorld os).forCall (fun _ _ => 0) ⟨#[], #[.int .u8 0, .int .u8 0], []⟩).memory Tryd.f4.params.toList Rows.parseCallsSpec.vars false (#[.int .u8 0, .int .u8 0] : Array Value).toList 8 = some ([.lit (.int .u8 0), .lit (.int .u8 0)], [], places) :=
  ⟨[], by kernel_rfl⟩

set_option maxRecDepth 100000 in
theorem lifted (os : Os) (started : os.Started) (H : Type) (enc : TypeId × Value → H) (F : Stop.Interp) :
    ReturnsInHanded {} Tryd.checked os 4 .any ((OpenSpec.ofChange Rows.parseCallsSpec).preRow enc Tryd.prog Tryd.f4 Rows.parseCallsRow.domain false Rows.parseCallsRow.laid) (((OpenSpec.ofChange Rows.parseCallsSpec).at F).post enc Tryd.prog Tryd.f4 false true false false) := by
  obtain ⟨places, hx⟩ := reads os enc
  refine returnsInHanded_of_row (C := Tryd.checked) (s := OpenSpec.ofChange Rows.parseCallsSpec) own started (by kernel_rfl) Tryd.func4
    (witness_row_at (enc := enc) (C := Tryd.checked) false (laidWorld os) #[.int .u8 0, .int .u8 0] (World.laidAll_os _ _ _) (by kernel_rfl) (by kernel_rfl) (by kernel_rfl)
      (OpenSpec.preRow_of_cond 8 hx (by kernel_rfl) (fun k hk => by cases hk) (by kernel_rfl) (laid_met os))) ?_
  intro W base args ds gs before hval hW _ _ _ hL _ _
  exact contract H enc W base args ds gs before hval hW hL

theorem said : Rows.ParseCallsSaid :=
  OpenClaim.holds_of_cond 4 Tryd.f4 rfl rfl rfl rfl rfl rfl rfl ⟨rfl, rfl, rfl, rfl, rfl⟩ rfl rfl rfl rfl rfl (by kernel_rfl) Tryd.func4 (by kernel_rfl)
    (of_decide_eq_true (by kernel_rfl)) (by unfold Func.isWrapper; first | (rw [if_pos (by decide +kernel)]; kernel_rfl) | (rw [if_neg (by decide +kernel)]; exact ⟨rfl, rfl⟩))
    (fun os started H enc _ F => by rw [OpenClaim.pre_eq_preRow]; exact lifted os started H enc F)

theorem plain (f : FuncId) (fn : Func) (hf : Tryd.pinned.checked.prog.funcNamed "chequer/chequerlaw5.ParseCalls" = some f) (hfn : Tryd.pinned.checked.prog.funcs[f]? = some fn) :
    true = Tryd.pinned.checked.prog.looks [] ∧ ∀ (j : Nat) t, fn.params[j]? = some t → Tryd.pinned.checked.prog.wantsStandIn t = false := by
  obtain rfl : f = 4 := Option.some.inj ((show Tryd.prog.funcNamed "chequer/chequerlaw5.ParseCalls" = some 4 by kernel_rfl).symm.trans hf) |>.symm
  obtain rfl : fn = Tryd.f4 := (Option.some.inj (Tryd.func4.symm.trans hfn)).symm
  refine ⟨by kernel_rfl, fun j t ht => ?_⟩
  rw [Tryd.params4] at ht
  have hall : (#[5, 5].all fun t => !Tryd.prog.wantsStandIn t) = true := by kernel_rfl
  have := (Array.all_eq_true_iff_forall_mem.1 hall) t (Array.mem_of_getElem? ht)
  exact (show Tryd.prog.wantsStandIn t = false from by simpa using this)

/-- THE CARD -/
theorem card : Rows.ParseCallsCardSaid :=
  Claim7.holds_tied_plain_at .later [] _ _ _ _ said (fun _ h => by cases h) (by kernel_rfl) (fun _ h => by cases h) parseCalls_row_tie rfl ⟨rfl, rfl⟩ (by kernel_rfl) rfl plain (by kernel_rfl)
end Go.Proofs.YtinnbfdhejmaaaaDoor.lawPCalls
