/-
  Layer 11, the laws: the document's example; a place put in, and taken away again.
-/
import Derived.Test.YtnnnpjdlhdkeaaaMaK
import Derived.Test.YtnnnpjdlhdkeaaaMaL
namespace Go.Proofs.Ytnnnpjdlhdkeaaa
open Go.RowKit

theorem ins21 : insO 2 1 = ([0, 2], 3) := by decide
theorem cnt2 : cntM 2 = 2 := by decide
set_option maxRecDepth 100000 in
set_option maxHeartbeats 1600000 in
theorem awake11_any (w : World) : Calls Try.prog 9 #[] w fun e w' => e = .returned (.bool true) ∧ Below w.heap.size w w' := by
  have hi := fun w => ins_map w 2 1
  simp only [ins21, cnt2] at hi
  have HI := Lib.hid hi
  have HS := Lib.hid (fun (w2 : World) (T : Nat) (hT : T < w2.heap.size) (h1 : RwX (encInt .i64) 3 w2 T [0, 2]) => (show Calls Try.prog 12 #[.agg #[.slice (some ⟨T, 0, none⟩) 2 2, .int .i64 3], .agg #[.slice (some ⟨w2.heap.size, 0, none⟩) 2 2, .int .i64 3]] (w2.alloc (.cells #[.int .i64 0, .int .i64 2] 3)) fun e w' => e = .returned (.bool true) ∧ Below w2.heap.size w2 w' from by
    have hz := World.size_alloc w2 (.cells #[.int .i64 0, .int .i64 2] 3)
    have hb := (Below.refl w2.heap.size w2).alloc (Nat.le_refl _) (.cells #[.int .i64 0, .int .i64 2] 3)
    have h2 : RwX (encInt .i64) 3 (w2.alloc (.cells #[.int .i64 0, .int .i64 2] 3)) w2.heap.size [0, 2] := (Go.MapKept.heap_alloc w2 _).1
    have h3 : RwX (encInt .i64) 3 (w2.alloc (.cells #[.int .i64 0, .int .i64 2] 3)) T [0, 2] := h1.keep (hb.block T hT)
    have := rsameMap_any (w2.alloc (.cells #[.int .i64 0, .int .i64 2] 3)) _ 2 2 [0, 2] 3 _ 2 2 [0, 2] 3 (h3.ir (n := 2) rfl (by decide) (by omega)) (h2.ir (n := 2) rfl (by decide) (by omega))
    exact this.mono fun e w' h => ⟨h.1, hb.trans (h.2.mono hb.size)⟩))
  clear hi
  go_enter Try.func9, Try.ntmps9
  go_wp2_with (first
    | (go_at_call 15; ((with_reducible refine (HI.out _).mono ?_); rintro e w2 ⟨T, hT, rfl, h1, h2⟩; have HSS := Lib.hid (HS.out w2 T h1.lt h1); have HB2 := Lib.hid h2; clear hT h1 h2))
    | (go_at_call 12; ((with_reducible refine HSS.out.mono ?_); rintro e w3 ⟨rfl, h3⟩; have HB3 := Lib.hid (HB2.out.trans (h3.mono HB2.out.size)); clear h3)))
  go_ret
  exact ⟨rfl, HB3.out⟩
theorem mapOut_ir {w' : World} {xs : List Int} {n T : Nat} (h : RwX (encInt .i64) 3 w' T xs) (hn : xs.length = n) (hm : n ≤ 2000000) : IR w' w'.heap.size (some ⟨T, 0, none⟩) n n xs := h.ir hn hm h.lt
end Go.Proofs.Ytnnnpjdlhdkeaaa
