/-
  Layer 3, the program: Read; the document's example.
-/
import Derived.Test.YtdapnipodnhpkaaDoorAddrV
import Derived.Laws.ResultCell
namespace Go.Proofs.YtdapnipodnhpkaaDoor
open Go.RowKit

theorem below_setCell5 {w w1 : World} {a0 a1 a2 a3 a4 : Value} (h : Below w.heap.size w w1) : Below w.heap.size w (((((w1.setCell ⟨w.heap.size, 0, none⟩ a0).setCell ⟨w.heap.size, 1, none⟩ a1).setCell ⟨w.heap.size, 2, none⟩ a2).setCell ⟨w.heap.size, 3, none⟩ a3).setCell ⟨w.heap.size, 4, none⟩ a4) :=
  ((((h.setCell (Nat.le_refl _) _).setCell (Nat.le_refl _) _).setCell (Nat.le_refl _) _).setCell (Nat.le_refl _) _).setCell (Nat.le_refl _) _
set_option maxRecDepth 100000 in
set_option maxHeartbeats 400000 in
theorem read_any (s : ByteArray) (w : World) (_hs : s.size ≤ 1000000) :
    Calls Tryd.prog 41 #[.string s] w fun e w' => Says (sb s) e ∧ Below w.heap.size w w' := by
  have hmf := hmf
  have hall := ref_parts s (w.alloc (.cells #[.string ⟨#[]⟩, .int .i64 0, .int .i64 0, .bool false, .bool false] 32)) _hs
  have hsz : (w.alloc (.cells #[.string ⟨#[]⟩, .int .i64 0, .int .i64 0, .bool false, .bool false] 32)).heap.size = w.heap.size + 1 := by simp
  have hr0 := RefAt.new w ⟨#[]⟩ 0 0 false false
  have hb0 : Below w.heap.size w (w.alloc (.cells #[.string ⟨#[]⟩, .int .i64 0, .int .i64 0, .bool false, .bool false] 32)) := (Below.refl _ _).alloc (Nat.le_refl _) _
  rw [hsz] at hall
  have HALL := Lib.hid hall; clear hall
  have HR := Lib.hid hr0; clear hr0
  have HB0 := Lib.hid hb0; clear hb0
  have HSZ := Lib.hid hsz; clear hsz
  go_enter Tryd.func41, Tryd.ntmps41
  go_wp2_with fail
  refine HALL.out.mono ?_
  rintro e w1 ⟨hb, ⟨d', h1, rfl, h3⟩ | ⟨h1, rfl⟩⟩
  · have hr1 := HR.out.below hb (by omega)
    obtain ⟨x0, x1, x2, x3, x4⟩ := hr1.facts
    have f0 := frozen_of_row w1 w.heap.size 0 _ _ hr1
    have f1 := frozen_of_row w1 w.heap.size 1 _ _ hr1
    have f2 := frozen_of_row w1 w.heap.size 2 _ _ hr1
    have f3 := frozen_of_row w1 w.heap.size 3 _ _ hr1
    have f4 := frozen_of_row w1 w.heap.size 4 _ _ hr1
    have hB := HB0.out.trans (hb.mono (by omega))
    obtain ⟨c0, c1, c2, c3, c4, c5, c6⟩ := h3.facts
    clear c0 c1
    have H1 := Lib.hid h1; clear h1
    have H3 := Lib.hid h3; clear h3
    have HB := Lib.hid hB; clear hB hb
    have HR1 := Lib.hid hr1; clear hr1
    go_wp2_with fail
    obtain ⟨r1, r2, r3⟩ := read_some s d' H1.out
    (try simp only [Exit.inBlock, Exit.then])
    refine bodyPost_ret (v := .tuple #[.agg #[.string d'.sh, .int .i64 d'.c, .int .i64 d'.r, .bool d'.ac, .bool d'.ar], .bool true]) ?_ rfl ⟨.inl ⟨d'.sh, d'.c, d'.r, d'.ac, d'.ar, r1, r2, r3, rfl⟩, ?_⟩
    · rw [results_cell_tmp rfl]
      go_simp
    · exact below_setCell5 HB.out
  · have hr1 := HR.out.below hb (by omega)
    obtain ⟨x0, x1, x2, x3, x4⟩ := hr1.facts
    have f0 := frozen_of_row w1 w.heap.size 0 _ _ hr1
    have f1 := frozen_of_row w1 w.heap.size 1 _ _ hr1
    have f2 := frozen_of_row w1 w.heap.size 2 _ _ hr1
    have f3 := frozen_of_row w1 w.heap.size 3 _ _ hr1
    have f4 := frozen_of_row w1 w.heap.size 4 _ _ hr1
    have hB := HB0.out.trans (hb.mono (by omega))
    have H1 := Lib.hid h1; clear h1
    have HB := Lib.hid hB; clear hB hb
    have HR1 := Lib.hid hr1; clear hr1
    go_wp2_with fail
    have r1 := read_none s H1.out
    (try simp only [Exit.inBlock, Exit.then])
    refine bodyPost_ret (v := .tuple #[.agg #[.string ⟨#[]⟩, .int .i64 0, .int .i64 0, .bool false, .bool false], .bool false]) ?_ rfl ⟨.inr ⟨r1, rfl⟩, ?_⟩
    · rw [results_cell_tmp rfl]
      go_simp
    · exact below_setCell5 HB.out
end Go.Proofs.YtdapnipodnhpkaaDoor
