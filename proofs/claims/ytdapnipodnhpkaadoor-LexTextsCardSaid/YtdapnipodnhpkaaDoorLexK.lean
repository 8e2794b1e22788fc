/-
  Layer 4, the laws' parts: what Lex answers where the tokens are known; the document's example.
-/
import Derived.Test.YtdapnipodnhpkaaDoorLexJ
namespace Go.Proofs.YtdapnipodnhpkaaDoor
open Go.RowKit

theorem OwnT.cell {w : World} {base g n cap : Nat} {ts : List Tk} (h : OwnT w base (.slice (some ⟨g, 0, none⟩) n cap) ts) (i : Nat) (t : Tk) (hi : ts[i]? = some t) (j : Nat) (hj : j < 9) : w.cell? ⟨g, i * 9 + j, none⟩ = (tokA t).toList[j]? := by
  have hl : (tokA t).toList.length = 9 := rfl
  have hu : (encTk.f t)[j]? = some ((tokA t).toList[j]'(by omega)) := List.getElem?_eq_getElem _
  have := Own.cells h (i * 9 + j) _ (by rw [encTk.at ts i j t hi hj]; exact hu)
  rw [this]; exact hu.symm
/-- Lex, where all tokens are known. -/
theorem lex_is (s : ByteArray) (w : World) (hv : Vars w) (hs : s.size ≤ 300) (ts : List Tk) (hl : lexL (sb s) = some ts) (hne : 0 < ts.length) :
    Calls Tryd.prog 8 #[.string s] w fun e w' => Below w.heap.size w w' ∧ ∃ g cap, e = .returned (.tuple #[.slice (some ⟨g, 0, none⟩) ts.length cap, .int .i64 0]) ∧ w.heap.size ≤ g ∧ g < w'.heap.size ∧ OwnT w' w.heap.size (.slice (some ⟨g, 0, none⟩) ts.length cap) ts := by
  refine (lex_any s w hv).mono ?_
  rintro e w' ⟨hb, h | ⟨_, h, _⟩ | ⟨_, ts', v, h1, rfl, h2⟩⟩
  · omega
  · rw [hl] at h; cases h
  · rw [hl] at h1; injection h1 with h1; subst h1
    obtain ⟨g, cap, rfl, h3, h4, _, _⟩ := Own.some h2 hne
    exact ⟨hb, g, cap, rfl, h3, h4, h2⟩
theorem lex_isnt (s : ByteArray) (w : World) (hv : Vars w) (hs : s.size ≤ 300) (hl : lexL (sb s) = none) :
    Calls Tryd.prog 8 #[.string s] w fun e w' => Below w.heap.size w w' ∧ e = .returned (.tuple #[.slice none 0 0, .int .i64 5]) := by
  refine (lex_any s w hv).mono ?_
  rintro e w' ⟨hb, h | ⟨_, _, rfl⟩ | ⟨_, ts', v, h1, _⟩⟩
  · omega
  · exact ⟨hb, rfl⟩
  · rw [hl] at h1; cases h1
theorem lex_ex : ((lexL (sb ⟨#[65, 49, 43, 49]⟩)).map fun ts => (ts.length, ts.map (·.kind), ts.map (·.num))) = some (4, [4, 5, 1, 0], [0, 0, 1, 0]) := by decide +kernel

set_option maxRecDepth 100000 in
set_option maxHeartbeats 400000 in
theorem lexAwake_any (w : World) (hv : Vars w) : Calls Tryd.prog 7 #[] w fun e w' => e = .returned (.bool true) ∧ Below w.heap.size w w' := by
  have hex := lex_ex
  simp only [Option.map_eq_some_iff, Prod.mk.injEq] at hex
  obtain ⟨ts, hl, hlen, hk, hn⟩ := hex
  match ts, hlen, hk, hn, hl with
  | [a, b, c, d], _, hk, hn, hl =>
    simp only [List.map_cons, List.map_nil, List.cons.injEq, and_true] at hk hn
    have hlex := lex_is ⟨#[65, 49, 43, 49]⟩ w hv (by decide) _ hl (by simp)
    have HX := Lib.hid hlex
    have HK := Lib.hid hk.1
    have HN := Lib.hid hn.2.2.1
    clear hlex hk hn hl hv
    go_enter Tryd.func7, Tryd.ntmps7
    go_wp2_with (first
      | (go_at_call 8; ((with_reducible refine HX.out.mono ?_); rintro e w1 ⟨hb, g, cap, rfl, hg0, hg1, ho⟩; have HB := Lib.hid hb; have k1 := ho.cell 0 a rfl 0 (by omega); have k2 := ho.cell 2 c rfl 2 (by omega); simp only [tokA] at k1 k2; rw [show ([a, b, c, d] : List Tk).length = 4 from rfl]; simp at k1 k2; rw [HK.out] at k1; rw [HN.out] at k2; clear hb ho))
      | go_in)
    go_ret
    exact ⟨rfl, HB.out⟩
end Go.Proofs.YtdapnipodnhpkaaDoor
