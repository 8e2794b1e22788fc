/-
  Layer 15, the program: texts' numbers.
-/
import Derived.Test.YtnimmpidplfnnaaLcM
import Derived.Test.YtnimmpidplfnnaaFuM
import Derived.Test.YtnimmpidplfnnaaStE
import Derived.Test.YtnimmpidplfnnaaSeG
import Derived.Test.YtnimmpidplfnnaaHeld
namespace Go.Proofs.Ytnimmpidplfnnaa
open Go Go.WideMaps Go.ChangeMaps Go.MapKept Go.Maps Go.WideElems Go.RowKit

/-- A text's number. -/
def dix {α : Type} [DecidableEq α] (d : List α) (t : α) : Nat := d.idxOf t
def dAdd {α : Type} [DecidableEq α] (d : List α) (t : α) : List α := if t ∈ d then d else d ++ [t]
def dAll {α : Type} [DecidableEq α] (d l : List α) : List α := l.foldl dAdd d
theorem dAdd_pre {α : Type} [DecidableEq α] (d : List α) (t : α) : ∃ e, dAdd d t = d ++ e := by
  unfold dAdd; split
  · exact ⟨[], by simp⟩
  · exact ⟨_, rfl⟩
theorem dAdd_mem {α : Type} [DecidableEq α] (d : List α) (t : α) : t ∈ dAdd d t := by
  unfold dAdd; split
  · assumption
  · simp
theorem dAdd_nodup {α : Type} [DecidableEq α] {d : List α} (h : d.Nodup) (t : α) : (dAdd d t).Nodup := by
  unfold dAdd; split
  · exact h
  · rename_i hn
    exact List.nodup_append.2 ⟨h, by simp, fun a ha b hb e => hn (by simp at hb; rw [← hb, ← e]; exact ha)⟩
theorem dAdd_in {α : Type} [DecidableEq α] {d : List α} {t x : α} (h : x ∈ dAdd d t) : x ∈ d ∨ x = t := by
  unfold dAdd at h; split at h
  · exact .inl h
  · simpa using h
theorem dAdd_len {α : Type} [DecidableEq α] (d : List α) (t : α) : (dAdd d t).length ≤ d.length + 1 := by
  unfold dAdd; split <;> simp
theorem dAll_pre {α : Type} [DecidableEq α] (l : List α) : ∀ d, ∃ e, dAll d l = d ++ e := by
  induction l with
  | nil => intro d; exact ⟨[], by simp [dAll]⟩
  | cons t l ih =>
    intro d
    obtain ⟨e1, h1⟩ := dAdd_pre d t
    obtain ⟨e2, h2⟩ := ih (dAdd d t)
    exact ⟨e1 ++ e2, by show dAll (dAdd d t) l = _; rw [h2, h1, List.append_assoc]⟩
theorem dAll_nodup {α : Type} [DecidableEq α] (l : List α) : ∀ {d : List α}, d.Nodup → (dAll d l).Nodup := by
  induction l with
  | nil => intro d h; exact h
  | cons t l ih => intro d h; exact ih (dAdd_nodup h t)
theorem dAll_in {α : Type} [DecidableEq α] (l : List α) : ∀ {d : List α} {x : α}, x ∈ dAll d l → x ∈ d ∨ x ∈ l := by
  induction l with
  | nil => intro d x h; exact .inl h
  | cons t l ih =>
    intro d x h
    rcases ih (d := dAdd d t) h with h | h
    · rcases dAdd_in h with h | h
      · exact .inl h
      · exact .inr (by rw [h]; exact List.mem_cons_self ..)
    · exact .inr (List.mem_cons_of_mem _ h)
theorem dAll_len {α : Type} [DecidableEq α] (l : List α) : ∀ d : List α, (dAll d l).length ≤ d.length + l.length := by
  induction l with
  | nil => intro d; exact Nat.le_refl _
  | cons t l ih => intro d; have h1 := ih (dAdd d t); have h2 := dAdd_len d t; rw [List.length_cons]; show (dAll (dAdd d t) l).length ≤ _; omega
theorem dAll_app {α : Type} [DecidableEq α] (d l m : List α) : dAll d (l ++ m) = dAll (dAll d l) m := List.foldl_append ..
theorem dix_all {α : Type} [DecidableEq α] {d : List α} {t : α} (h : t ∈ d) (l : List α) : dix (dAll d l) t = dix d t := by
  obtain ⟨e, he⟩ := dAll_pre l d
  unfold dix
  rw [he, List.idxOf_append, if_pos h]
theorem dAll_mem {α : Type} [DecidableEq α] (l : List α) : ∀ {d : List α} {x : α}, x ∈ d ∨ x ∈ l → x ∈ dAll d l := by
  induction l with
  | nil => intro d x h; exact h.elim id (fun h => by simp at h)
  | cons t l ih =>
    intro d x h
    refine ih (d := dAdd d t) ?_
    rcases h with h | h
    · left; obtain ⟨e, he⟩ := dAdd_pre d t; rw [he]; exact List.mem_append_left _ h
    · rcases List.mem_cons.1 h with rfl | h
      · left; exact dAdd_mem _ _
      · right; exact h
theorem dix_inj {α : Type} [DecidableEq α] {d : List α} {x y : α} (hx : x ∈ d) (hy : y ∈ d) (h : dix d x = dix d y) : x = y := by
  unfold dix at h
  have h1 := List.getElem_idxOf (List.idxOf_lt_length_iff.2 hx)
  have h2 := List.getElem_idxOf (List.idxOf_lt_length_iff.2 hy)
  rw [← h1, ← h2]
  simp only [h]
theorem dix_take {α : Type} [DecidableEq α] {d l : List α} {i : Nat} {t : α} (h : l[i]? = some t) : dAll d (l.take (i + 1)) = dAdd (dAll d (l.take i)) t ∧ dix (dAdd (dAll d (l.take i)) t) t = dix (dAll d l) t := by
  have h1 : dAll d (l.take (i + 1)) = dAdd (dAll d (l.take i)) t := by rw [List.take_add_one, h, dAll_app]; rfl
  refine ⟨h1, ?_⟩
  have h2 := dix_all (dAdd_mem (dAll d (l.take i)) t) (l.drop (i + 1))
  rw [← h1, ← dAll_app, List.take_append_drop] at h2
  rw [← h1]; exact h2.symm
theorem dAdd_old {α : Type} [DecidableEq α] {d : List α} {t : α} (h : t ∈ d) : dAdd d t = d := by unfold dAdd; exact if_pos h
theorem dAdd_new {α : Type} [DecidableEq α] {d : List α} {t : α} (h : t ∉ d) : dAdd d t = d ++ [t] := by unfold dAdd; exact if_neg h
theorem dix_get {α : Type} [DecidableEq α] {d : List α} {t : α} (h : t ∈ d) : d[dix d t]? = some t := by
  have hlt := List.idxOf_lt_length_iff.2 h
  unfold dix
  rw [List.getElem?_eq_getElem hlt, List.getElem_idxOf hlt]
theorem dix_new {α : Type} [DecidableEq α] {d : List α} {t : α} (h : t ∉ d) : dix (d ++ [t]) t = d.length := by
  unfold dix; rw [List.idxOf_append, if_neg h]; simp
theorem dix_at {α : Type} [DecidableEq α] {d : List α} (hn : d.Nodup) (i : Nat) (hi : i < d.length) : dix d d[i] = i := by
  unfold dix; rw [hn.idxOf_getElem i hi]
def dEs (d : List ByteArray) : List (ByteArray × Value) := d.zipIdx.map fun p => (p.1, .int .i64 (p.2 : Int))
theorem dEs_add (d : List ByteArray) (t : ByteArray) : dEs (d ++ [t]) = dEs d ++ [(t, .int .i64 (d.length : Int))] := by
  unfold dEs
  rw [List.zipIdx_append, List.map_append]
  simp
theorem dEs_mem {d : List ByteArray} {p : ByteArray × Value} (h : p ∈ dEs d) (hn : d.Nodup) : p.1 ∈ d ∧ p.2 = .int .i64 (dix d p.1 : Int) := by
  unfold dEs at h
  obtain ⟨q, hq, rfl⟩ := List.mem_map.1 h
  obtain ⟨t, i⟩ := q
  have h1 := List.mem_zipIdx hq
  obtain ⟨_, h2, h3⟩ := h1
  have hi : i < d.length := by omega
  have h4 : t = d[i] := by simpa using h3
  subst h4
  refine ⟨List.getElem_mem _, ?_⟩
  show Value.int .i64 (i : Int) = .int .i64 (dix d d[i] : Int)
  rw [dix_at hn i hi]
theorem dEs_len (d : List ByteArray) : (dEs d).length = d.length := by unfold dEs; simp
theorem FnMap.keep {w w' : World} {b : Nat} {es : List (ByteArray × Value)} (h : FnMap w b es) (hk : w'.heap[b]? = w.heap[b]?) : FnMap w' b es := by
  obtain ⟨a, c, h1, h2⟩ := h
  exact ⟨a, c, hk.trans h1, h2⟩
theorem FnMap.put2 {P : Program} {w : World} {b : Nat} {es : List (ByteArray × Value)} {t k e : TypeId} (h : FnMap w b es) (ht : P.underlying t = some (.map k e)) (hk : P.underlying k = some .string) (hsz : ∀ p ∈ es, p.1.size ≤ maxLen) (key : ByteArray) (hks : key.size ≤ maxLen) (hnew : ∀ p ∈ es, p.1 ≠ key) (v : Value) :
    ∃ w', (Instr.mapUpdate t (.map (some b)) (.string key) v).run P w = .ok () w' ∧ FnMap w' b (es ++ [(key, v)]) ∧ w'.heap.size = w.heap.size ∧ w.grownBy w' (some b) := by
  obtain ⟨a, clock, hb, hes⟩ := h
  have K := string_keyed hk
  have hkey := keyOf_string_mk hk hks
  have hgr : ∀ o : Obj, w.grownBy (setBlock w b o) (some b) := fun o => ⟨rfl, rfl, rfl, by simp [setBlock], fun j _ hne => heap_setBlock_other hb _ (fun e => hne (by rw [e]))⟩
  rcases K.find w hkey a.toList (fun x hx => by
      obtain ⟨p, hp, h1, _⟩ := FnMap.keys hes x hx
      exact ⟨_, by rw [h1]; exact keyOf_string_mk hk (hsz p hp)⟩) with ⟨h1, h2⟩ | ⟨j, x, _, h2, h3⟩
  · refine ⟨setBlock w b (.map (a.push ⟨.string key, v, clock⟩) (clock + 1)), ?_, ⟨_, _, heap_setBlock_same hb _, ?_⟩, by simp [setBlock], hgr _⟩
    · simp [Instr.mapUpdate, run_underlying ht, MapKept.run_getObj_map hb, K.check w false hkey, h1, MapKept.run_setObj_map _ hb, Result.andThen, setBlock]
    · rw [Array.toList_push, List.map_append, List.map_append, hes]; rfl
  · exfalso
    obtain ⟨p, hp, h4, _⟩ := FnMap.keys hes x (List.mem_of_getElem? h2)
    rw [h3] at h4
    exact hnew p hp (Value.string.inj h4).symm
theorem FnMap.len {P : Program} {w : World} {b : Nat} {es : List (ByteArray × Value)} {t k e ty : TypeId} (h : FnMap w b es) (ht : P.underlying t = some (.map k e)) : (Builtin.len_ #[t] ty #[.map (some b)]).run P w = .ok (goInt es.length) w := by
  obtain ⟨a, clock, hb, hes⟩ := h
  have hu : P.underlying t = some (.map (P.mapKeyOf t) (P.mapElemOf t)) := by simp [Program.mapKeyOf, Program.mapElemOf, ht]
  have h1 : a.size = es.length := by have := congrArg List.length hes; simpa using this
  rw [← h1]
  exact run_len_map (w := w) t ty b a clock hu hb
set_option maxRecDepth 100000 in
set_option maxHeartbeats 1600000 in
theorem of_any (w : World) (b : Nat) (d : List ByteArray) (t : ByteArray) (h : FnMap w b (dEs d)) (hn : d.Nodup) (hs : ∀ x ∈ d, x.size ≤ maxLen) (ht : t.size ≤ maxLen) :
    Calls Try.prog 21 #[.map (some b), .string t] w fun e w' => e = .returned (.int .i64 (dix (dAdd d t) t : Int)) ∧ FnMap w' b (dEs (dAdd d t)) ∧ w'.heap.size = w.heap.size ∧ w.grownBy w' (some b) := by
  have hsz : ∀ p ∈ dEs d, p.1.size ≤ maxLen := fun p hp => hs _ (dEs_mem hp hn).1
  have hu := Try.underlying48
  have hz : (zeroValue 3).run Try.prog w = .ok (.int .i64 0) w := Try.zeroValue3 w
  by_cases hin : t ∈ d
  · have e1 : dAdd d t = d := dAdd_old hin
    have hlk := h.find hu Try.underlying9 hsz t ht (.int .i64 (dix d t : Int)) (by
      unfold dEs
      refine List.mem_map.2 ⟨(t, dix d t), ?_, rfl⟩
      rw [List.mem_zipIdx_iff_getElem?]
      exact dix_get hin) (fun p hp e => by rw [← e]; exact (dEs_mem hp hn).2)
    have HH := Lib.hid h
    have HE := Lib.hid e1
    clear h hsz hin e1
    go_enter Try.func21, Try.ntmps21
    go_wp2_with fail
    go_ret
    exact ⟨by rw [HE.out] <;> rfl, by rw [HE.out]; exact HH.out, rfl, ⟨rfl, rfl, rfl, Nat.le_refl _, fun _ _ _ => rfl⟩⟩
  · have e1 : dAdd d t = d ++ [t] := dAdd_new hin
    have hne : ∀ p ∈ dEs d, p.1 ≠ t := fun p hp e => hin (by rw [← e]; exact (dEs_mem hp hn).1)
    have hlk := h.miss hu Try.underlying9 hsz hz t ht hne
    have hln := fun ty => h.len (ty := ty) hu
    obtain ⟨w1, hup, h1, h2, h3⟩ := h.put2 hu Try.underlying9 hsz t ht hne (.int .i64 (d.length : Int))
    rw [← dEs_add, ← e1] at h1
    have hgi : goInt (dEs d).length = .int .i64 (d.length : Int) := by rw [dEs_len]; rfl
    rw [hgi] at hln
    have HE := Lib.hid (show dix (dAdd d t) t = d.length from by
      rw [e1]; exact dix_new hin)
    have H1 := Lib.hid h1; have H2 := Lib.hid h2; have H3 := Lib.hid h3
    clear h h1 h2 h3 hsz hin e1 hne hgi
    go_enter Try.func21, Try.ntmps21
    go_wp2_with fail
    go_ret
    exact ⟨by rw [HE.out] <;> rfl, H1.out, H2.out, H3.out⟩
end Go.Proofs.Ytnimmpidplfnnaa
