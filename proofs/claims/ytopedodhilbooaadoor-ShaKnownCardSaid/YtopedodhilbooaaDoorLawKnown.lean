/-
  The standard's examples.
-/
import Derived.Test.YtopedodhilbooaaDoorLawNil
namespace Go.Proofs.YtopedodhilbooaaDoor
open Go.RowKit

theorem length_shaL (m : List Int) : (shaL m).length = 32 := by
  unfold shaL; rw [length_stText, length_comps _ _ (length_comps _ _ rfl _)]

/-- '[]byte(s)', its sum. -/
theorem sum_text (l : List Int) (s : ByteArray) (hs : sb s = l) (hlen : 0 < l.length) (hl : l.length ≤ 1000) (w : World) (ht : Tables w) :
    Calls Tryd.prog 8 #[.slice (some ⟨w.heap.size, 0, none⟩) s.size (grownCap w s.size 0 5)] (w.drew.alloc (.cells (bytesRow s (grownCap w s.size 0 5)) 5 ((bytesRow s (grownCap w s.size 0 5)).size, (bytesRow s (grownCap w s.size 0 5)).size + 1)))
      fun e w' => e = .returned (.string (strOfNums (shaL l))) ∧ Below w.heap.size w w' := by
  have hsz : s.size = l.length := by rw [← hs, length_sb]
  have hg1 := grownCap_ge w s.size 0 5
  have hg2 := grownCap_le_maxLen w s.size 0 5 (by unfold maxLen; omega)
  unfold maxLen at hg2
  have hb : Below w.heap.size w (w.drew.alloc (.cells (bytesRow s (grownCap w s.size 0 5)) 5 ((bytesRow s (grownCap w s.size 0 5)).size, (bytesRow s (grownCap w s.size 0 5)).size + 1))) := (Below.refl _ _).drew.alloc (Nat.le_refl _) _
  refine (sum_any w.heap.size 0 s.size _ l _ (ht.below hb ht.g0 ht.g1) (by simp) hsz.symm (by omega) hg1 hg2 (by omega) ?_ (by rw [← hs]; exact sb_bd s)).mono ?_
  · intro j hj
    have h1 := cell_of_row (w.drew.alloc (.cells (bytesRow s (grownCap w s.size 0 5)) 5 ((bytesRow s (grownCap w s.size 0 5)).size, (bytesRow s (grownCap w s.size 0 5)).size + 1))) w.heap.size (0 + j) _ _ _ (heap_alloc_new w.drew _)
    rw [h1, Nat.zero_add, bytesRow_at _ _ _ (by simpa using hj)]
    congr 2
    have h2 := sb_at s j hj
    rw [hs] at h2
    unfold fn
    rw [List.getD_eq_getElem?_getD, h2]; rfl
  · rintro e w' ⟨rfl, h1⟩
    exact ⟨rfl, hb.trans (h1.mono (by simp))⟩
theorem run_bytes (s : ByteArray) (w : World) : (convert 9 22 (.string s)).run Tryd.prog w = .ok (.slice (some ⟨w.heap.size, 0, none⟩) s.size (grownCap w s.size 0 5)) (w.drew.alloc (.cells (bytesRow s (grownCap w s.size 0 5)) 5 ((bytesRow s (grownCap w s.size 0 5)).size, (bytesRow s (grownCap w s.size 0 5)).size + 1))) :=
  run_bytes_of_string w _ _ _ s Tryd.underlying9 Tryd.underlying22 Tryd.underlying5

def kt0 : ByteArray := ⟨#[]⟩
def kd0 : ByteArray := ⟨#[101, 51, 98, 48, 99, 52, 52, 50, 57, 56, 102, 99, 49, 99, 49, 52, 57, 97, 102, 98, 102, 52, 99, 56, 57, 57, 54, 102, 98, 57, 50, 52, 50, 55, 97, 101, 52, 49, 101, 52, 54, 52, 57, 98, 57, 51, 52, 99, 97, 52, 57, 53, 57, 57, 49, 98, 55, 56, 53, 50, 98, 56, 53, 53]⟩
theorem kk0 : strOfNums (hexL (sb (strOfNums (shaL (sb kt0))))) = kd0 := by kernel_rfl
def kt1 : ByteArray := ⟨#[97, 98, 99]⟩
def kd1 : ByteArray := ⟨#[98, 97, 55, 56, 49, 54, 98, 102, 56, 102, 48, 49, 99, 102, 101, 97, 52, 49, 52, 49, 52, 48, 100, 101, 53, 100, 97, 101, 50, 50, 50, 51, 98, 48, 48, 51, 54, 49, 97, 51, 57, 54, 49, 55, 55, 97, 57, 99, 98, 52, 49, 48, 102, 102, 54, 49, 102, 50, 48, 48, 49, 53, 97, 100]⟩
theorem kk1 : strOfNums (hexL (sb (strOfNums (shaL (sb kt1))))) = kd1 := by kernel_rfl
def kt2 : ByteArray := ⟨#[97, 98, 99, 100, 98, 99, 100, 101, 99, 100, 101, 102, 100, 101, 102, 103, 101, 102, 103, 104, 102, 103, 104, 105, 103, 104, 105, 106, 104, 105, 106, 107, 105, 106, 107, 108, 106, 107, 108, 109, 107, 108, 109, 110, 108, 109, 110, 111, 109, 110, 111, 112, 110, 111, 112, 113]⟩
def kd2 : ByteArray := ⟨#[50, 52, 56, 100, 54, 97, 54, 49, 100, 50, 48, 54, 51, 56, 98, 56, 101, 53, 99, 48, 50, 54, 57, 51, 48, 99, 51, 101, 54, 48, 51, 57, 97, 51, 51, 99, 101, 52, 53, 57, 54, 52, 102, 102, 50, 49, 54, 55, 102, 54, 101, 99, 101, 100, 100, 52, 49, 57, 100, 98, 48, 54, 99, 49]⟩
theorem kk2 : strOfNums (hexL (sb (strOfNums (shaL (sb kt2))))) = kd2 := by kernel_rfl
def kt3 : ByteArray := ⟨#[97]⟩
def kd3 : ByteArray := ⟨#[99, 97, 57, 55, 56, 49, 49, 50, 99, 97, 49, 98, 98, 100, 99, 97, 102, 97, 99, 50, 51, 49, 98, 51, 57, 97, 50, 51, 100, 99, 52, 100, 97, 55, 56, 54, 101, 102, 102, 56, 49, 52, 55, 99, 52, 101, 55, 50, 98, 57, 56, 48, 55, 55, 56, 53, 97, 102, 101, 101, 52, 56, 98, 98]⟩
theorem kk3 : strOfNums (hexL (sb (strOfNums (shaL (sb kt3))))) = kd3 := by kernel_rfl

theorem sum_text' (s : ByteArray) (hl : s.size ≤ 1000) (w : World) (ht : Tables w) :
    Calls Tryd.prog 8 #[.slice (some ⟨w.heap.size, 0, none⟩) s.size (grownCap w s.size 0 5)] (w.drew.alloc (.cells (bytesRow s (grownCap w s.size 0 5)) 5 ((bytesRow s (grownCap w s.size 0 5)).size, (bytesRow s (grownCap w s.size 0 5)).size + 1)))
      fun e w' => e = .returned (.string (strOfNums (shaL (sb s)))) ∧ Below w.heap.size w w' := by
  by_cases h : 0 < (sb s).length
  · exact sum_text (sb s) s rfl h (by rw [length_sb]; exact hl) w ht
  · have h0 : s.size = 0 := by rw [length_sb] at h; omega
    have h1 : sb s = [] := by apply List.eq_nil_of_length_eq_zero; rw [length_sb]; exact h0
    generalize grownCap w s.size 0 5 = c
    rw [h0, h1]
    have hb : Below w.heap.size w (w.drew.alloc (.cells (bytesRow s c) 5 ((bytesRow s c).size, (bytesRow s c).size + 1))) := (Below.refl _ _).drew.alloc (Nat.le_refl _) _
    exact (sum_empty (some ⟨w.heap.size, 0, none⟩) c (w.drew.alloc (.cells (bytesRow s c) 5 ((bytesRow s c).size, (bytesRow s c).size + 1))) (ht.below hb ht.g0 ht.g1)).mono fun e w' ⟨h1, h2⟩ => ⟨h1, hb.trans (h2.mono (by simp))⟩

set_option maxRecDepth 100000 in
set_option maxHeartbeats 2000000 in
theorem shaKnown_any (n : Int) (_h0 : 0 ≤ n) (_h1 : n ≤ 255) (w : World) (ht : Tables w) : Calls Tryd.prog 5 #[.int .u8 n] w fun e w' => e = .returned (.bool true) ∧ Below w.heap.size w w' := by
  have HT := Lib.hid ht; clear ht
  have hcv := run_bytes
  go_enter Tryd.func5, Tryd.ntmps5
  go_wp2_with fail
  have hcells : ∃ S D : ByteArray, S.size ≤ 1000 ∧ strOfNums (hexL (sb (strOfNums (shaL (sb S))))) = D ∧
      ((w.alloc (.cells #[.string kt0, .string kt1, .string kt2, .string kt3] 9)).alloc (.cells #[.string kd0, .string kd1, .string kd2, .string kd3] 9)).cell? ⟨w.heap.size, (n % 4).toNat, none⟩ = some (.string S) ∧
      ((w.alloc (.cells #[.string kt0, .string kt1, .string kt2, .string kt3] 9)).alloc (.cells #[.string kd0, .string kd1, .string kd2, .string kd3] 9)).cell? ⟨w.heap.size + 1, (n % 4).toNat, none⟩ = some (.string D) := by
    have h4 : (n % 4).toNat = 0 ∨ (n % 4).toNat = 1 ∨ (n % 4).toNat = 2 ∨ (n % 4).toNat = 3 := by omega
    have e1 : ∀ j, ((w.alloc (.cells #[.string kt0, .string kt1, .string kt2, .string kt3] 9)).alloc (.cells #[.string kd0, .string kd1, .string kd2, .string kd3] 9)).cell? ⟨w.heap.size, j, none⟩ = (#[.string kt0, .string kt1, .string kt2, .string kt3] : Array Value)[j]? := by
      intro j; rw [World.cell?_alloc_past _ _ _ (by simp), World.cell?_alloc_at _ _ _ _ rfl]
    have e2 : ∀ j, ((w.alloc (.cells #[.string kt0, .string kt1, .string kt2, .string kt3] 9)).alloc (.cells #[.string kd0, .string kd1, .string kd2, .string kd3] 9)).cell? ⟨w.heap.size + 1, j, none⟩ = (#[.string kd0, .string kd1, .string kd2, .string kd3] : Array Value)[j]? := by
      intro j; rw [World.cell?_alloc_at _ _ _ _ (by simp)]
    rw [e1, e2]
    rcases h4 with h | h | h | h <;> rw [h]
    · exact ⟨kt0, kd0, by decide, kk0, rfl, rfl⟩
    · exact ⟨kt1, kd1, by decide, kk1, rfl, rfl⟩
    · exact ⟨kt2, kd2, by decide, kk2, rfl, rfl⟩
    · exact ⟨kt3, kd3, by decide, kk3, rfl, rfl⟩
  obtain ⟨S, D, hS, hD, hc1, hc2⟩ := hcells
  have hbw : Below w.heap.size w ((w.alloc (.cells #[.string kt0, .string kt1, .string kt2, .string kt3] 9)).alloc (.cells #[.string kd0, .string kd1, .string kd2, .string kd3] 9)) := by go_grown
  have hsz : ((w.alloc (.cells #[.string kt0, .string kt1, .string kt2, .string kt3] 9)).alloc (.cells #[.string kd0, .string kd1, .string kd2, .string kd3] 9)).heap.size = w.heap.size + 2 := by simp
  change Code.wp _ _ _ _ ((w.alloc (.cells #[.string kt0, .string kt1, .string kt2, .string kt3] 9)).alloc (.cells #[.string kd0, .string kd1, .string kd2, .string kd3] 9))
  generalize (w.alloc (.cells #[.string kt0, .string kt1, .string kt2, .string kt3] 9)).alloc (.cells #[.string kd0, .string kd1, .string kd2, .string kd3] 9) = W at hc1 hc2 hbw hsz ⊢
  have hm0 : 0 ≤ n % 4 := by omega
  have hm1 : n % 4 < 4 := by omega
  have HB := Lib.hid hbw; clear hbw
  have hlt1 : w.heap.size + 1 < W.heap.size := by omega
  have hlt0 : w.heap.size < W.heap.size := by omega
  have HS := Lib.hid hsz; clear hsz
  have hd3 : ∀ o, (W.alloc o).cell? ⟨w.heap.size + 1, (n % 4).toNat, none⟩ = some (.string D) := fun o => (World.cell?_alloc_past _ _ _ hlt1).trans hc2
  have HD := Lib.hid hD; clear hD
  have hd2 : ∀ w', Below W.heap.size W w' → w'.cell? ⟨w.heap.size + 1, (n % 4).toNat, none⟩ = some (.string D) := fun w' h => (h.cell (p := ⟨w.heap.size + 1, (n % 4).toNat, none⟩) (by show w.heap.size + 1 < W.heap.size; have := HS.out; omega)).trans hc2
  have HD2 := Lib.hid hd2; clear hd2
  have hTW := HT.out.below HB.out HT.out.g0 HT.out.g1
  have HTW := Lib.hid hTW; clear hTW
  go_region_with (first
    | (go_at_call 8; refine (sum_text' S hS W.drew (HTW.out.below (Below.refl W.heap.size W).drew HTW.out.g0 HTW.out.g1)).mono ?_; rintro e w1 ⟨rfl, h1⟩; have h2 : Below W.heap.size W w1 := (Below.drew (Below.refl _ _)).trans h1; have hx := HD2.out w1 h2; have H1 := Lib.hid h2; clear h1 h2)
    | (go_at_call 14; refine (hex_any _ _ (by rw [strOfNums_size]; have := length_shaL (sb S); omega)).mono ?_; rintro e w2 ⟨rfl, h1⟩; rw [HD.out]; have h2 : Below W.heap.size W w2 := H1.out.trans (h1.mono H1.out.size); have hy := HD2.out w2 h2; have H2 := Lib.hid h2; clear h1 h2)
    | (go_at_call 10; refine (awake_any _ (HTW.out.below H2.out HTW.out.g0 HTW.out.g1)).mono ?_; rintro e w3 ⟨rfl, h1⟩; have h3 := H2.out.trans (h1.mono H2.out.size); have H3 := Lib.hid h3; clear h1 h3))
  all_goals go_wp2_with fail
  all_goals go_ret
  all_goals exact ⟨rfl, HB.out.trans (H3.out.mono HB.out.size)⟩
end Go.Proofs.YtopedodhilbooaaDoor
