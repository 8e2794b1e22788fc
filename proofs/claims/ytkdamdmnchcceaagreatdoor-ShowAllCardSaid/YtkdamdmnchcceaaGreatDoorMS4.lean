/-
  Texts of layers, put together.
-/
import Derived.Test.YtkdamdmnchcceaaGreatDoorMS3
import Derived.Deep.RegionHeld3
import Derived.Lib.LaidTab
import Derived.Deep.RegionWith
namespace Go.Proofs.YtkdamdmnchcceaaGreatDoor
open Go.RowKit

theorem Elem.kid : ∃ n, n ≤ 100 ∧ Elem Tryz.prog 25 3 1 n := ⟨8, by omega, Tryz.underlying25, ⟨.int .i64 0, by kernel_rfl, rfl⟩, by decide⟩
theorem Own.blockLt {α : Type} {size : Nat} {E : Enc α size} {e : TypeId} {w : World} {base : Nat} {v : Value} {xs : List α} (h : Own E e w base v xs) : ∀ g, v.ownBlock = Option.some g → base ≤ g ∧ g < w.heap.size ∧ ∃ cur, w.heap[g]? = Option.some (.cells cur e) := by
  intro g e
  rcases h.2 with ⟨h1, _⟩ | ⟨g', cap, cur, h1, h2, h3, _⟩
  · rw [h1] at e; cases e
  · rw [h1] at e; injection e with e
    have e : g' = g := e
    subst e
    exact ⟨h2, (Array.getElem?_eq_some_iff.1 h3).1, cur, h3⟩
theorem Ps.kids {w w' : World} {b : Nat} {tv : Value} {ts : List Tk} {p deep : Nat} {nv : Value} {vs : List Nv} (h : Ps w b tv ts p deep nv vs) {r : Option Nat} (hg : w.grownBy w' r) (hr : ∀ g, r = some g → b < g ∧ ¬ NodeRow w g ∧ ∀ v ∈ vs, v.kv.ownBlock ≠ some g) : Ps w' b tv ts p deep nv vs := by
  have hlow := h.low
  refine ⟨?_, ?_, ⟨h.nodes.1.keep ?_, fun v hv => (h.nodes.2 v hv).keep ?_⟩, ?_, h.lt, h.low, h.fit, h.few, h.cnt, h.nest⟩
  · rw [hg.block b h.blt (by intro e; have := (hr b e.symm).1; omega)]; exact h.cell
  · obtain ⟨g, cap, h1, h2, h3⟩ := h.toks
    exact ⟨g, cap, h1, h2, h3.keep fun j _ hj e => hg.block j hj (by
      intro e2
      have := (hr j e2.symm).1
      rw [h1] at e; injection e with e; have : g = j := e; omega)⟩
  · intro g h1 h2 h3
    exact hg.block g h2 (fun e => (hr g e.symm).2.1 (h.row g h3).2)
  · intro g h1 h2 h3
    exact hg.block g h2 (fun e => (hr g e.symm).2.2 v hv h3)
  · exact h.ops.keep (hg.block _ h.ops.lt (by intro e; have := (hr _ e.symm).1; omega))
def callK (base : Nat) (name : ByteArray) (ns : List Nd) (ks : List Int) (r : List Tk) : Option Res :=
  if signIs ⟨#[41]⟩ r = true then some (.ok (ns ++ [{ Nd.zero with kind := 7, text := name, kids := ks }], base + ns.length, r.tail)) else some (.error 5)
def caP (f deep base : Nat) (name : ByteArray) (ts : List Tk) : Option Res :=
  if 12 ≤ deep then some (.error 6)
  else bindR (if signIs ⟨#[41]⟩ ts.tail = true then some (.ok ([], [], ts.tail)) else argsP f (deep + 1) base [] [] ts.tail) (callK base name)

set_option maxRecDepth 100000 in
set_option maxHeartbeats 2000000 in
theorem call_deep (f : Nat) (name : ByteArray) {w : World} {b : Nat} {tv : Value} {ts : List Tk} {p deep : Nat} {nv : Value} {vs : List Nv} (h : Ps w b tv ts p deep nv vs) (hnx : p + 1 < ts.length) (res : Res) (hres : caP f deep vs.length name (ts.drop p) = some res) (hd : 12 ≤ deep) :
    Calls Tryz.prog 104 #[.pointer (some ⟨b, 0, none⟩), .string name] w (Out res w b tv ts deep vs) := by
  have HO := Lib.hid (popen_any h hnx)
  unfold caP at hres
  rw [if_pos hd] at hres
  injection hres with hres
  have HR := Lib.hid hres.symm
  clear hres h
  go_enter Tryz.func104, Tryz.ntmps104
  go_wp2_with (go_at_call 74; ((with_reducible refine HO.out.mono ?_); rintro e w2 ⟨h1, ⟨-, rfl⟩ | ⟨h2, -⟩⟩; rotate_left; exact absurd hd h2; have HF2 := Lib.hid h1; clear h1))
  go_ret
  exact Out.err HR.out (.inr rfl) HF2.out

theorem bindR_bind {α β γ α' β' γ' δ : Type} (x : Option (Except Int (α × β × γ))) (k : α → β → γ → Option (Except Int (α' × β' × γ'))) (K : α' → β' → γ' → Option (Except Int δ)) : bindR (bindR x k) K = bindR x fun a b c => bindR (k a b c) K := by
  match x with
  | none => rfl
  | some (.error e) => rfl
  | some (.ok (a, b, c)) => rfl

set_option maxRecDepth 100000 in
set_option maxHeartbeats 4000000 in
theorem call_any (f : Nat) (IH : ∀ g, g ≤ f → EX g) (name : ByteArray) {w : World} {b : Nat} {tv : Value} {ts : List Tk} {p deep : Nat} {nv : Value} {vs : List Nv} (h : Ps w b tv ts p deep nv vs) (hnx : p + 1 < ts.length) (res : Res) (hres : caP f deep vs.length name (ts.drop p) = some res) :
    Calls Tryz.prog 104 #[.pointer (some ⟨b, 0, none⟩), .string name] w (Out res w b tv ts deep vs) := by
  by_cases hd : 12 ≤ deep
  · exact call_deep f name h hnx res hres hd
  have HO := Lib.hid (popen_any h hnx)
  unfold caP at hres
  rw [if_neg hd, List.tail_drop] at hres
  have HRES := Lib.hid hres
  have HIH := Lib.hid IH
  have hbl := h.blt
  obtain ⟨eb, hEB, EL⟩ := Elem.kid
  have HEL := Lib.hid EL
  clear hres h IH EL
  go_enter Tryz.func104, Tryz.ntmps104
  go_upto_region 6 with (first
    | (go_at_call 74; ((with_reducible refine HO.out.mono ?_); rintro e w2 ⟨h1, ⟨h2, -⟩ | ⟨-, rfl, h3⟩⟩; exact absurd h2 hd; have HF2 := Lib.hid h1; have HP2 := Lib.hid h3; have HS2 := Lib.hid (isSign_any h3 ⟨#[41]⟩); clear h1 h3))
    | (go_at_call 73; ((with_reducible refine HS2.out.mono ?_); rintro e w3 ⟨rfl, h1⟩; have HF3 := Lib.hid (HF2.out.below h1); have HP3 := Lib.hid (HP2.out.below h1); clear h1)))
  go_loopw [6, 7] (fun kvs mv wr => ∃ (kv : Value) (more : Bool) (g : Nat) (ns : List Nd) (ks : List Int) (p' : Nat) (nv' : Value) (us : List Nv), kv = kvs ∧ mv = .bool more ∧ g ≤ f ∧ ks.length ≤ us.length ∧ us.length = ns.length ∧
      Hid ((more = true ∧ bindR (argsP g (deep + 1) vs.length ns ks (ts.drop p')) (callK vs.length name) = some res) ∨ (more = false ∧ callK vs.length name ns ks (ts.drop p') = some res)) ∧
      Hid (us.map Nv.n = ns) ∧ Hid (∀ u ∈ us, ∀ j, u.kv.ownBlock = some j → w.heap.size ≤ j) ∧ Hid (∀ u ∈ vs ++ us, ∀ j, u.kv.ownBlock = some j → kv.ownBlock ≠ some j) ∧
      Hid (Own (encInt .i64) 3 wr w.heap.size kv ks) ∧ Hid (Ps wr b tv ts p' (deep + 1) nv' (vs ++ us)) ∧ Hid (Fr w wr b))
    (fun _ _ wr => psm b ts.length wr)
  case atStart =>
    have hr := HRES.out
    refine ⟨.slice none 0 0, _, f, [], [], p + 1, nv, [], rfl, rfl, Nat.le_refl _, Nat.le_refl _, rfl, ?_, Lib.hid rfl, Lib.hid (by simp), Lib.hid (by intro u _ j _ e; cases e), Lib.hid (Own.nil _ _ _ _), by rw [List.append_nil]; exact HP3, HF3⟩
    refine Lib.hid ?_
    cases hs : signIs ⟨#[41]⟩ (ts.drop (p + 1))
    · rw [hs, if_neg (by decide)] at hr
      exact .inl ⟨rfl, hr⟩
    · rw [hs, if_pos rfl] at hr
      exact .inr ⟨rfl, hr⟩
  case round =>
    clear HO HRES HF2 HP2 HS2 HF3 HP3
    obtain ⟨kv, more, g, ns, ks, p', nv', us, rfl, rfl, hg, hkl, hul, HM, HU, HK, HJ, HOK, HPr, HF⟩ := hrel
    have hfew := HPr.out.few
    have hlt := HPr.out.lt
    have hcnt := HPr.out.cnt
    have hlen : (vs ++ us).length = vs.length + us.length := List.length_append
    have HPM := Lib.hid (HPr.out.psm ts.length)
    cases more
    · have hK : callK vs.length name ns ks (ts.drop p') = some res := by
        rcases HM.out with ⟨h1, _⟩ | ⟨_, h1⟩
        · cases h1
        · exact h1
      unfold callK at hK
      have HC := Lib.hid (pclose_any HPr.out)
      cases hs : signIs ⟨#[41]⟩ (ts.drop p')
      · rw [hs, if_neg (by decide)] at hK
        injection hK with hK
        have HR := Lib.hid hK.symm
        rw [hs] at HC
        clear hK hs HM
        go_wp2_with (go_at_call 105; ((with_reducible refine HC.out.mono ?_); rintro e w6 ⟨h1, ⟨-, rfl⟩ | ⟨h2, -⟩⟩; rotate_left; cases h2; have HF6 := Lib.hid (HF.out.trans h1); clear h1))
        go_ret
        exact Out.err HR.out (.inl rfl) HF6.out
      · rw [hs, if_pos rfl, List.tail_drop] at hK
        injection hK with hK
        have HR := Lib.hid hK.symm
        rw [hs] at HC
        clear hK hs HM
        obtain ⟨v, hvn, hvk⟩ : ∃ v : Nv, v.n = { Nd.zero with kind := 7, text := name, kids := ks } ∧ v.kv = kv := by
          rcases HOK.out.shape with ⟨rfl, rfl⟩ | ⟨g1, cap, rfl, _⟩
          · exact ⟨⟨_, none⟩, rfl, rfl⟩
          · exact ⟨⟨_, some (g1, cap)⟩, rfl, rfl⟩
        have HVN := Lib.hid hvn; have HVK := Lib.hid hvk
        clear hvn hvk
        have hkv : (∃ g1 n1 cap, kv = .slice (some ⟨g1, 0, none⟩) n1 cap) ∨ kv = .slice none 0 0 := by
          rcases HOK.out.shape with ⟨h1, _⟩ | ⟨g1, cap, h1, _⟩
          · exact .inr h1
          · exact .inl ⟨g1, _, cap, h1⟩
        rcases hkv with ⟨g1, n1, cap, rfl⟩ | rfl
        all_goals
          go_upto_region 15 with (go_at_call 105; ((with_reducible refine HC.out.mono ?_); rintro e w6 ⟨h1, ⟨h2, -⟩ | ⟨-, rfl, h3⟩⟩; cases h2; have HF6 := Lib.hid (HF.out.trans h1); have HOK6 := Lib.hid (HOK.out.fr h1 hbl (by decide)); have HP6 := Lib.hid h3; clear h1 h3))
          have HA := Lib.hid (show Calls Tryz.prog 75 #[.pointer (some ⟨b, 0, none⟩), .agg #[.int .i64 7, .int .i64 0, .string name, .string ⟨#[]⟩, .int .i64 0, .int .i64 0, .bool false, .bool false, .string ⟨#[]⟩, .int .i64 0, .int .i64 0, .bool false, .bool false, _]] w6 _ from add_any HP6.out v (by rw [HVK.out, HVN.out]; exact HOK6.out.mono (by omega)) (by omega) _ HVK.out { Nd.zero with kind := 7, text := name, kids := ks } HVN.out)
          go_wp2_with (go_at_call 75; ((with_reducible refine HA.out.mono ?_); rintro e w7 ⟨h1, rfl, nv7, h3⟩; have HF7 := Lib.hid (HF6.out.trans h1); have HP7 := Lib.hid h3; clear h1 h3))
          go_ret
          refine ⟨HF7.out, .inr ⟨_, _, _, HR.out, rfl, p' + 1, nv7, us ++ [v], rfl, ?_, ?_, by rw [← List.append_assoc]; exact HP7.out⟩⟩
          · rw [List.map_append, HU.out, List.map_cons, List.map_nil, HVN.out]
          · intro u hu j hj
            rcases List.mem_append.1 hu with hu | hu
            · exact HK.out u hu j hj
            · rw [List.mem_singleton.1 hu, HVK.out] at hj
              exact (HOK.out.blockLt j hj).1
    · have hA : bindR (argsP g (deep + 1) vs.length ns ks (ts.drop p')) (callK vs.length name) = some res := by
        rcases HM.out with ⟨_, h1⟩ | ⟨h1, _⟩
        · exact h1
        · cases h1
      match g, hg, hA with
      | 0, _, hA => unfold argsP bindR at hA; cases hA
      | g + 1, hg, hA =>
      rw [argsP_succ, bindR_bind] at hA
      have hbase : vs.length + ns.length = (vs ++ us).length := by rw [hlen, hul]
      rw [hbase] at hA
      rcases bindR_some hA with ⟨c, h1, rfl⟩ | ⟨ms, a, r, h1, h2⟩
      · have HL := Lib.hid (show Calls Tryz.prog 23 #[.pointer (some ⟨b, 0, none⟩), .int .i64 0] wr (Out (.error c) wr b tv ts (deep + 1) (vs ++ us)) from HIH.out g (by omega) 0 (deep + 1) _ wr b tv ts p' nv' (vs ++ us) (by omega) HPr.out h1)
        clear h1 hA HM
        go_wp2_with (go_at_call 23; ((with_reducible refine HL.out.mono ?_); intro e w5 ho; obtain ⟨hf, hc, rfl⟩ := ho.bad rfl; have HF5 := Lib.hid (HF.out.trans hf); have HC := Lib.hid hc; have hc0 : (c != 0) = true := (by rw [bne_iff_ne]; rcases hc with h | h <;> omega); clear hf hc ho))
        go_ret
        exact Out.err rfl HC.out HF5.out
      · have HL := Lib.hid (show Calls Tryz.prog 23 #[.pointer (some ⟨b, 0, none⟩), .int .i64 0] wr (Out (.ok (ms, a, r)) wr b tv ts (deep + 1) (vs ++ us)) from HIH.out g (by omega) 0 (deep + 1) _ wr b tv ts p' nv' (vs ++ us) (by omega) HPr.out h1)
        have H1 := Lib.hid h1
        have H2 := Lib.hid h2
        clear h1 h2 hA HM
        go_upto_region 11 with (go_at_call 23; ((with_reducible refine HL.out.mono ?_); intro e w5 ho; obtain ⟨hf, rfl, p5, nv5, us5, hp5, hu5, hk5, hps5⟩ := ho.good rfl; have HF5 := Lib.hid (HF.out.trans hf); have HOK5 := Lib.hid (HOK.out.fr hf hbl (by decide)); have HP5 := Lib.hid hps5; have HD5 := Lib.hid hp5; have HU5 := Lib.hid hu5; have HK5 := Lib.hid hk5; clear hf ho hp5 hu5 hk5 hps5))
        obtain ⟨hc1, hc2, hc3⟩ := count_at H1.out HD5.out HP5.out.lt
        have hus5 : us5.length = ms.length := by rw [← HU5.out, List.length_map]
        have hlen5 : ((vs ++ us) ++ us5).length = vs.length + us.length + us5.length := by rw [List.length_append, List.length_append]
        have HRT5 := Lib.hid (root_is HP5.out a (by omega))
        have hsz5 := HF5.out.size
        have HZr := Lib.hid HF.out.size
        have HJ5 := Lib.hid (show ∀ u ∈ (vs ++ us) ++ us5, ∀ j, u.kv.ownBlock = some j → kv.ownBlock ≠ some j from by
          intro u hu j hj
          rcases List.mem_append.1 hu with hu | hu
          · exact HJ.out u hu j hj
          · intro e
            have h3 := HK5.out u hu j hj
            have h4 := (HOK.out.blockLt j e).2.1
            omega)
        clear HL HOK HJ
        go_upto_region 7 with (first
          | (go_at_call 76; ((with_reducible refine HRT5.out.mono ?_); rintro e wn ⟨rfl, rfl⟩))
          | (at_builtin; refine wpList_app_at HEL.out (encInt .i64) rfl (.tmp 26) (.tmp 29) rfl w.heap.size kv ks rfl (HOK5.out.alloc _) ⟨w5.heap.size, 0, none⟩ 1 1 [(a : Int)] rfl rfl ?_ ?_ ?_ ?_ ?_; exact cells_new _ _ _ rfl; exact Nat.le_trans (Nat.mul_le_mul_left _ hEB) (by omega); (unfold maxLen; omega); (simp <;> omega); intro kv' w6 h1 h2 h3; have HO6 := Lib.hid h1; have HG6 := Lib.hid h2; have HAT := Lib.hid h3; clear h1 h2 h3))
        have hB6 : Below w5.heap.size w5 (w5.alloc (.cells #[.int .i64 (a : Int)] 3)) := (Below.refl _ _).alloc (Nat.le_refl _) _
        have hO5 := HOK5.out.alloc (.cells #[.int .i64 (a : Int)] 3)
        have HP6 := Lib.hid ((HP5.out.below hB6).kids HG6.out (by
          intro j e
          obtain ⟨q1, q2, cur, q3⟩ := hO5.blockLt j e
          refine ⟨by omega, ?_, fun u hu e2 => HJ5.out u hu j e2 e⟩
          rintro ⟨cur', fr, e2⟩
          rw [q3] at e2; injection e2 with e2; injection e2 with _ e2
          exact absurd e2 (by decide)))
        have HF6 := Lib.hid ((HF5.out.below hB6).row HG6.out (by
          intro j e
          obtain ⟨q1, q2, cur, q3⟩ := hO5.blockLt j e
          exact ⟨by omega, .inl q1⟩))
        have HJ6 := Lib.hid (show ∀ u ∈ (vs ++ us) ++ us5, ∀ j, u.kv.ownBlock = some j → kv'.ownBlock ≠ some j from by
          intro u hu j hj
          rcases HAT.out with e | e
          · rw [e]; exact HJ5.out u hu j hj
          · rw [e]
            have h4 := ((HP5.out.nodes.2 u hu).blockLt j hj).2.1
            intro e2; injection e2 with e2
            simp at e2; omega)
        have HT6 := Lib.hid (ptake_any HP6.out ⟨#[44]⟩)
        have h2 := H2.out
        rw [← HD5.out] at h2
        clear hB6 hO5 HG6 HAT HJ5 HOK5 HF HPr H2 HRT5
        have hKU : ∀ u ∈ us ++ us5, ∀ j, u.kv.ownBlock = some j → w.heap.size ≤ j := by
          intro u hu j hj
          rcases List.mem_append.1 hu with hu | hu
          · exact HK.out u hu j hj
          · exact Nat.le_trans HZr.out (HK5.out u hu j hj)
        have HKU := Lib.hid hKU; clear hKU
        cases hs : signIs ⟨#[44]⟩ (ts.drop p5)
        · rw [hs, if_neg (by decide)] at h2
          have HN := Lib.hid (show callK vs.length name (ns ++ ms) (ks ++ [(a : Int)]) (ts.drop p5) = some res from h2)
          rw [hs, if_neg (by decide)] at HT6
          clear h2 hs
          go_wp2_with (go_at_call 103; ((with_reducible refine HT6.out.mono ?_); rintro e w7 ⟨h1, rfl, h3⟩; have HF7 := Lib.hid (HF6.out.trans h1); have HO7 := Lib.hid (HO6.out.fr h1 hbl (by decide)); have HP7 := Lib.hid h3; clear h1 h3))
          go_roundw
          case rel =>
            refine ⟨kv', false, g, ns ++ ms, ks ++ [(a : Int)], p5, nv5, us ++ us5, rfl, rfl, by omega, by rw [List.length_append, List.length_append, List.length_singleton]; omega, by rw [List.length_append, List.length_append]; omega, Lib.hid (.inr ⟨rfl, HN.out⟩), Lib.hid (by rw [List.map_append, HU.out, HU5.out]), HKU, ?_, HO7, ?_, HF7⟩
            · rw [← List.append_assoc]; exact HJ6
            · rw [← List.append_assoc]; exact HP7
          case measure =>
            have h1 := HP7.out.psm ts.length
            rw [HPM.out, h1]; omega
        · rw [hs, if_pos rfl, List.tail_drop] at h2
          have HN := Lib.hid h2
          have hnx5 := sign_next HP6.out hs
          rw [hs, if_pos rfl] at HT6
          clear h2 hs
          go_wp2_with (go_at_call 103; ((with_reducible refine HT6.out.mono ?_); rintro e w7 ⟨h1, rfl, h3⟩; have HF7 := Lib.hid (HF6.out.trans h1); have HO7 := Lib.hid (HO6.out.fr h1 hbl (by decide)); have HP7 := Lib.hid h3; clear h1 h3))
          go_roundw
          case rel =>
            refine ⟨kv', true, g, ns ++ ms, ks ++ [(a : Int)], p5 + 1, nv5, us ++ us5, rfl, rfl, by omega, by rw [List.length_append, List.length_append, List.length_singleton]; omega, by rw [List.length_append, List.length_append]; omega, Lib.hid (.inl ⟨rfl, HN.out⟩), Lib.hid (by rw [List.map_append, HU.out, HU5.out]), HKU, ?_, HO7, ?_, HF7⟩
            · rw [← List.append_assoc]; exact HJ6
            · rw [← List.append_assoc]; exact HP7
          case measure =>
            have h1 := HP7.out.psm ts.length
            rw [HPM.out, h1]; omega
end Go.Proofs.YtkdamdmnchcceaaGreatDoor

namespace Go.Proofs.YtkdamdmnchcceaaGreatDoor
open Go.RowKit

def wordP (f deep base : Nat) (name : ByteArray) (ts : List Tk) : Option Res :=
  if name = ⟨#[84, 82, 85, 69]⟩ then some (.ok ([{ Nd.zero with kind := 3, num := 1 }], base, ts))
  else if name = ⟨#[70, 65, 76, 83, 69]⟩ then some (.ok ([{ Nd.zero with kind := 3 }], base, ts))
  else if signIs ⟨#[40]⟩ ts = true then caP f deep base name ts else some (.error 5)
theorem word_eq (name c : ByteArray) : (name.toList == c.toList) = decide (name = c) := by
  by_cases h : name = c
  · rw [h, decide_eq_true rfl]; simp
  · rw [decide_eq_false h]; exact beq_eq_false_iff_ne.2 (text_ne _ _ h)
theorem list_true : (⟨#[84, 82, 85, 69]⟩ : ByteArray).toList = [84, 82, 85, 69] := by rw [list_bytes]
theorem list_false : (⟨#[70, 65, 76, 83, 69]⟩ : ByteArray).toList = [70, 65, 76, 83, 69] := by rw [list_bytes]
set_option maxRecDepth 100000 in
set_option maxHeartbeats 2000000 in
theorem pword_any (f : Nat) (IH : ∀ g, g ≤ f → EX g) (name : ByteArray) {w : World} {b : Nat} {tv : Value} {ts : List Tk} {p deep : Nat} {nv : Value} {vs : List Nv} (h : Ps w b tv ts p deep nv vs) (hnx : p + 1 < ts.length) (res : Res) (hres : wordP f deep vs.length name (ts.drop (p + 1)) = some res) :
    Calls Tryz.prog 79 #[.pointer (some ⟨b, 0, none⟩), .string name] w (Out res w b tv ts deep vs) := by
  unfold wordP at hres
  have q1 := word_eq name ⟨#[84, 82, 85, 69]⟩
  have q2 := word_eq name ⟨#[70, 65, 76, 83, 69]⟩
  rw [list_true] at q1
  rw [list_false] at q2
  by_cases h1 : name = ⟨#[84, 82, 85, 69]⟩
  · rw [decide_eq_true h1] at q1
    rw [if_pos h1] at hres
    injection hres with hres
    have HR := Lib.hid hres.symm
    have HA := Lib.hid (show Calls Tryz.prog 77 #[.pointer (some ⟨b, 0, none⟩), .agg #[.int .i64 3, .int .i64 1, .string ⟨#[]⟩, .string ⟨#[]⟩, .int .i64 0, .int .i64 0, .bool false, .bool false, .string ⟨#[]⟩, .int .i64 0, .int .i64 0, .bool false, .bool false, .slice none 0 0]] w _ from leaf_any h hnx { Nd.zero with kind := 3, num := 1 } rfl)
    clear hres h h1 q2
    go_enter Tryz.func79, Tryz.ntmps79
    go_wp2_with (go_at_call 77; ((with_reducible refine HA.out.mono ?_); rintro e w7 ⟨h1, rfl, nv', h3⟩; have HF7 := Lib.hid h1; have HP7 := Lib.hid h3; clear h1 h3))
    go_ret
    exact Out.leaf HR.out HF7.out rfl HP7.out
  rw [decide_eq_false h1] at q1
  rw [if_neg h1] at hres
  by_cases h2 : name = ⟨#[70, 65, 76, 83, 69]⟩
  · rw [decide_eq_true h2] at q2
    rw [if_pos h2] at hres
    injection hres with hres
    have HR := Lib.hid hres.symm
    have HA := Lib.hid (show Calls Tryz.prog 77 #[.pointer (some ⟨b, 0, none⟩), .agg #[.int .i64 3, .int .i64 0, .string ⟨#[]⟩, .string ⟨#[]⟩, .int .i64 0, .int .i64 0, .bool false, .bool false, .string ⟨#[]⟩, .int .i64 0, .int .i64 0, .bool false, .bool false, .slice none 0 0]] w _ from leaf_any h hnx { Nd.zero with kind := 3 } rfl)
    clear hres h h1 h2
    go_enter Tryz.func79, Tryz.ntmps79
    go_wp2_with (go_at_call 77; ((with_reducible refine HA.out.mono ?_); rintro e w7 ⟨h1, rfl, nv', h3⟩; have HF7 := Lib.hid h1; have HP7 := Lib.hid h3; clear h1 h3))
    go_ret
    exact Out.leaf HR.out HF7.out rfl HP7.out
  rw [decide_eq_false h2] at q2
  rw [if_neg h2] at hres
  obtain ⟨c0, c1, c2, c3⟩ := h.facts
  have f1 := h.frozen 1
  have hfew := h.few
  have HP := Lib.hid h
  clear c0 c2 c3 h1 h2 h
  have HP1 := Lib.hid (HP.out.next hnx)
  have HF1 := Lib.hid ((Fr.refl w b).setCell 1 (.int .i64 ((p : Int) + 1)))
  cases hs : signIs ⟨#[40]⟩ (ts.drop (p + 1))
  · rw [hs, if_neg (by decide)] at hres
    injection hres with hres
    have HR := Lib.hid hres.symm
    have HS := isSign_any HP1.out ⟨#[40]⟩
    rw [hs] at HS
    have HS := Lib.hid HS
    clear hres hs
    go_enter Tryz.func79, Tryz.ntmps79
    go_upto_region 7 with (fail)
    generalize w.setCell ⟨b, 1, none⟩ (.int .i64 ((p : Int) + 1)) = w1 at HP1 HF1 HS ⊢
    go_wp2_with (go_at_call 73; ((with_reducible refine HS.out.mono ?_); rintro e w2 ⟨rfl, h1⟩; have HF2 := Lib.hid (HF1.out.below h1); clear h1))
    go_ret
    exact Out.err HR.out (.inl rfl) HF2.out
  · rw [hs, if_pos rfl] at hres
    have HRES := Lib.hid hres
    have hnx1 := sign_next HP1.out hs
    have HS := isSign_any HP1.out ⟨#[40]⟩
    rw [hs] at HS
    have HS := Lib.hid HS
    have HIH := Lib.hid IH
    clear hres hs IH
    go_enter Tryz.func79, Tryz.ntmps79
    go_upto_region 7 with (fail)
    generalize w.setCell ⟨b, 1, none⟩ (.int .i64 ((p : Int) + 1)) = w1 at HP1 HF1 HS ⊢
    go_wp2_with (first
      | (go_at_call 73; ((with_reducible refine HS.out.mono ?_); rintro e w2 ⟨rfl, h1⟩; have HF2 := Lib.hid (HF1.out.below h1); have HCA := Lib.hid (call_any f HIH.out name (HP1.out.below h1) hnx1 res HRES.out); clear h1))
      | (go_at_call 104; ((with_reducible refine HCA.out.mono ?_); intro e w3 ho; have HOO := Lib.hid ho; obtain ⟨c, rfl⟩ := ho.ret; clear ho)))
    go_ret
    obtain ⟨hf, h2⟩ := HOO.out
    refine ⟨HF2.out.trans hf, h2.imp id ?_⟩
    rintro ⟨ms, a, r, g1, g2, p', nv', us, g3, g4, g5, g6⟩
    exact ⟨ms, a, r, g1, g2, p', nv', us, g3, g4, fun u hu j hj => Nat.le_trans HF2.out.size (g5 u hu j hj), g6⟩
end Go.Proofs.YtkdamdmnchcceaaGreatDoor

namespace Go.Proofs.YtkdamdmnchcceaaGreatDoor
open Go.RowKit

theorem Out.from {res : Res} {w w2 w3 : World} {b : Nat} {tv : Value} {ts : List Tk} {deep : Nat} {vs : List Nv} {e : Ending} (hf : Fr w w2 b) (h : Out res w2 b tv ts deep vs e w3) : Out res w b tv ts deep vs e w3 := by
  refine ⟨hf.trans h.1, h.2.imp id ?_⟩
  rintro ⟨ms, a, r, g1, g2, p', nv', us, g3, g4, g5, g6⟩
  exact ⟨ms, a, r, g1, g2, p', nv', us, g3, g4, fun u hu j hj => Nat.le_trans hf.size (g5 u hu j hj), g6⟩
theorem sign_kind {s : ByteArray} {t : Tk} {ts : List Tk} (h : ¬ t.kind = 5) : signIs s (t :: ts) = false := by
  show (decide (t.kind = 5) && decide (t.text = s)) = false
  rw [decide_eq_false h]; rfl
set_option maxRecDepth 100000 in
set_option maxHeartbeats 4000000 in
theorem prim_any (f : Nat) (IH : ∀ g, g ≤ f → EX g) {w : World} {b : Nat} {tv : Value} {ts : List Tk} {p deep : Nat} {nv : Value} {vs : List Nv} (h : Ps w b tv ts p deep nv vs) (res : Res) (hres : primP (f + 1) deep vs.length (ts.drop p) = some res) :
    Calls Tryz.prog 48 #[.pointer (some ⟨b, 0, none⟩)] w (Out res w b tv ts deep vs) := by
  obtain ⟨g, cap, t, -, ht, hd, -⟩ := h.tok
  have HTK := Lib.hid (ptoken_any h t ht)
  have HP := Lib.hid h
  have hbl := h.blt
  rw [hd, primP_cons] at hres
  go_enter Tryz.func48, Tryz.ntmps48
  go_upto_region 2 with (go_at_call 24; ((with_reducible refine HTK.out.mono ?_); rintro e w1 ⟨rfl, h1⟩; have HB := Lib.hid h1; clear h1))
  have hB3 : Below w1.heap.size w1 (w1.alloc (.cells #[.int .i64 t.kind, .string t.text, .int .i64 t.num, .string t.sh, .int .i64 t.c, .int .i64 t.r, .bool t.ac, .bool t.ar, .int .i64 t.pos] 64)) := (Below.refl _ _).alloc (Nat.le_refl _) _
  have HN3 : TkAt (w1.alloc (.cells #[.int .i64 t.kind, .string t.text, .int .i64 t.num, .string t.sh, .int .i64 t.c, .int .i64 t.r, .bool t.ac, .bool t.ar, .int .i64 t.pos] 64)) w1.heap.size t := TkAt.new w1 t
  have HB3 := Lib.hid (HB.out.trans (hB3.mono HB.out.size))
  clear hB3 HB
  generalize hb4 : w1.heap.size = b4 at HN3 ⊢
  generalize w1.alloc (.cells #[.int .i64 t.kind, .string t.text, .int .i64 t.num, .string t.sh, .int .i64 t.c, .int .i64 t.r, .bool t.ac, .bool t.ar, .int .i64 t.pos] 64) = w3 at HN3 HB3 ⊢
  clear hb4 HTK
  obtain ⟨x0, x1, x2, x3, x4, x5, x6, x7, x8⟩ := HN3.cells
  clear HN3
  have HP3 := Lib.hid (HP.out.below HB3.out)
  have HF3 := Lib.hid (Fr.of b HB3.out)
  obtain ⟨kd, hkd⟩ : ∃ kd, t.kind = kd := ⟨_, rfl⟩
  by_cases k1 : t.kind = 1
  · have hnx := h.fit.next ht (by omega)
    rw [sign_kind (by omega), if_neg (by decide), if_pos k1] at hres
    injection hres with hres
    have HR := Lib.hid hres.symm
    have HA := Lib.hid (show Calls Tryz.prog 77 #[.pointer (some ⟨b, 0, none⟩), .agg #[.int .i64 1, .int .i64 t.num, .string ⟨#[]⟩, .string ⟨#[]⟩, .int .i64 0, .int .i64 0, .bool false, .bool false, .string ⟨#[]⟩, .int .i64 0, .int .i64 0, .bool false, .bool false, .slice none 0 0]] w3 _ from leaf_any HP3.out hnx { Nd.zero with kind := 1, num := t.num } rfl)
    have e1 : (kd == 1) = true := beq_iff_eq.2 (by omega)
    rw [hkd] at x0
    clear hres hd ht k1 hkd h
    go_wp2_with (go_at_call 77; ((with_reducible refine HA.out.mono ?_); rintro e w7 ⟨h1, rfl, nv', h3⟩; have HF7 := Lib.hid (HF3.out.trans h1); have HP7 := Lib.hid h3; clear h1 h3))
    go_ret
    exact Out.leaf HR.out HF7.out rfl HP7.out
  have e1 : (kd == 1) = false := beq_eq_false_iff_ne.2 (by omega)
  by_cases k2 : t.kind = 2
  · have hnx := h.fit.next ht (by omega)
    rw [sign_kind (by omega), if_neg (by decide), if_neg k1, if_pos k2] at hres
    injection hres with hres
    have HR := Lib.hid hres.symm
    have HA := Lib.hid (show Calls Tryz.prog 77 #[.pointer (some ⟨b, 0, none⟩), .agg #[.int .i64 2, .int .i64 0, .string t.text, .string ⟨#[]⟩, .int .i64 0, .int .i64 0, .bool false, .bool false, .string ⟨#[]⟩, .int .i64 0, .int .i64 0, .bool false, .bool false, .slice none 0 0]] w3 _ from leaf_any HP3.out hnx { Nd.zero with kind := 2, text := t.text } rfl)
    have e2 : (kd == 2) = true := beq_iff_eq.2 (by omega)
    rw [hkd] at x0
    clear hres hd ht k1 k2 hkd h
    go_wp2_with (go_at_call 77; ((with_reducible refine HA.out.mono ?_); rintro e w7 ⟨h1, rfl, nv', h3⟩; have HF7 := Lib.hid (HF3.out.trans h1); have HP7 := Lib.hid h3; clear h1 h3))
    go_ret
    exact Out.leaf HR.out HF7.out rfl HP7.out
  have e2 : (kd == 2) = false := beq_eq_false_iff_ne.2 (by omega)
  by_cases k6 : t.kind = 6
  · have hnx := h.fit.next ht (by omega)
    rw [sign_kind (by omega), if_neg (by decide), if_neg k1, if_neg k2, if_pos k6] at hres
    injection hres with hres
    have HR := Lib.hid hres.symm
    have HA := Lib.hid (show Calls Tryz.prog 77 #[.pointer (some ⟨b, 0, none⟩), .agg #[.int .i64 4, .int .i64 0, .string ⟨#[]⟩, .string ⟨#[]⟩, .int .i64 0, .int .i64 0, .bool false, .bool false, .string ⟨#[]⟩, .int .i64 0, .int .i64 0, .bool false, .bool false, .slice none 0 0]] w3 _ from leaf_any HP3.out hnx { Nd.zero with kind := 4 } rfl)
    have e6 : (kd == 6) = true := beq_iff_eq.2 (by omega)
    rw [hkd] at x0
    clear hres hd ht k1 k2 k6 hkd h
    go_wp2_with (go_at_call 77; ((with_reducible refine HA.out.mono ?_); rintro e w7 ⟨h1, rfl, nv', h3⟩; have HF7 := Lib.hid (HF3.out.trans h1); have HP7 := Lib.hid h3; clear h1 h3))
    go_ret
    exact Out.leaf HR.out HF7.out rfl HP7.out
  have e6 : (kd == 6) = false := beq_eq_false_iff_ne.2 (by omega)
  by_cases k4 : t.kind = 4
  · have hnx := h.fit.next ht (by omega)
    rw [sign_kind (by omega), if_neg (by decide), if_neg k1, if_neg k2, if_neg k6, if_pos k4] at hres
    injection hres with hres
    have HA := Lib.hid (place_any HP3.out t hnx vs.length)
    rw [hres] at HA
    have e4 : (kd == 4) = true := beq_iff_eq.2 (by omega)
    rw [hkd] at x0
    clear hres hd ht k1 k2 k6 k4 hkd h
    go_wp2_with (go_at_call 78; ((with_reducible refine HA.out.mono ?_); intro e w7 ho; have HOO := Lib.hid (Out.from HF3.out ho); obtain ⟨c, rfl⟩ := ho.ret; clear ho))
    go_ret
    exact HOO.out
  have e4 : (kd == 4) = false := beq_eq_false_iff_ne.2 (by omega)
  by_cases k3 : t.kind = 3
  · have hnx := h.fit.next ht (by omega)
    rw [sign_kind (by omega), if_neg (by decide), if_neg k1, if_neg k2, if_neg k6, if_neg k4, if_pos k3] at hres
    have HA := Lib.hid (pword_any f IH t.text HP3.out hnx res hres)
    have e3 : (kd == 3) = true := beq_iff_eq.2 (by omega)
    rw [hkd] at x0
    clear hres hd ht k1 k2 k6 k4 k3 hkd h IH
    go_wp2_with (go_at_call 79; ((with_reducible refine HA.out.mono ?_); intro e w7 ho; have HOO := Lib.hid (Out.from HF3.out ho); obtain ⟨c, rfl⟩ := ho.ret; clear ho))
    go_ret
    exact HOO.out
  have e3 : (kd == 3) = false := beq_eq_false_iff_ne.2 (by omega)
  have hb : brP f deep vs.length (ts.drop p) = some res := by
    unfold brP
    rw [hd]
    by_cases c : signIs ⟨#[40]⟩ (t :: ts.drop (p + 1)) = true
    · rw [if_pos c] at hres ⊢; exact hres
    · rw [if_neg c, if_neg k1, if_neg k2, if_neg k6, if_neg k4, if_neg k3] at hres
      rw [if_neg c]; exact hres
  have HA := Lib.hid (inBrackets_any f (IH f (Nat.le_refl _)) HP3.out res hb)
  rw [hkd] at x0
  clear hres hd ht k1 k2 k6 k4 k3 hkd h IH hb
  go_wp2_with (go_at_call 80; ((with_reducible refine HA.out.mono ?_); intro e w7 ho; have HOO := Lib.hid (Out.from HF3.out ho); obtain ⟨c, rfl⟩ := ho.ret; clear ho))
  go_ret
  exact HOO.out
end Go.Proofs.YtkdamdmnchcceaaGreatDoor

namespace Go.Proofs.YtkdamdmnchcceaaGreatDoor
open Go.RowKit

set_option maxRecDepth 100000 in
set_option maxHeartbeats 4000000 in
theorem unary_any (f : Nat) (IH : ∀ g, g ≤ f → EX g) {w : World} {b : Nat} {tv : Value} {ts : List Tk} {p deep : Nat} {nv : Value} {vs : List Nv} (h : Ps w b tv ts p deep nv vs) (res : Res) (hres : exprP (f + 1) 4 deep vs.length (ts.drop p) = some res) :
    Calls Tryz.prog 47 #[.pointer (some ⟨b, 0, none⟩)] w (Out res w b tv ts deep vs) := by
  have HS := Lib.hid (isSign_any h ⟨#[45]⟩)
  rw [exprP_succ, if_neg (by omega)] at hres
  have HP := Lib.hid h
  cases hq : signIs ⟨#[45]⟩ (ts.drop p)
  · rw [hq, if_neg (by decide)] at hres
    rw [hq] at HS
    match f, IH, hres with
    | 0, _, hres => unfold primP at hres; cases hres
    | f + 1, IH, hres =>
    have HL := Lib.hid (fun w1 (hb : Below w.heap.size w w1) => level_enter b 5 (by omega) w1 (Out res w b tv ts deep vs) (fun e w' ho => ho.ret) (fun w2 hb2 => by
      rw [lv5]
      exact (prim_any f (fun g hg => IH g (by omega)) (HP.out.below (hb.trans (hb2.mono hb.size))) res hres).mono fun e w3 ho => Out.from (Fr.of b (hb.trans (hb2.mono hb.size))) ho))
    clear hq hres h IH
    go_enter Tryz.func47, Tryz.ntmps47
    go_wp2_with (first
      | (go_at_call 73; ((with_reducible refine HS.out.mono ?_); rintro e w1 ⟨rfl, h1⟩; have HL1 := Lib.hid (show Calls Tryz.prog 23 #[.pointer (some ⟨b, 0, none⟩), .int .i64 5] w1 (Out res w b tv ts deep vs) from HL.out w1 h1); clear h1))
      | (go_at_call 23; ((with_reducible refine HL1.out.mono ?_); intro e w2 ho; have HOO := Lib.hid ho; obtain ⟨c, rfl⟩ := ho.ret; clear ho)))
    go_ret
    exact HOO.out
  · have hnx := sign_next h hq
    rw [hq, if_pos rfl] at hres
    rw [hq] at HS
    by_cases hd : 12 ≤ deep
    · rw [if_pos hd] at hres
      injection hres with hres
      have HR := Lib.hid hres.symm
      clear hq hres h IH
      go_enter Tryz.func47, Tryz.ntmps47
      go_wp2_with (first
        | (go_at_call 73; ((with_reducible refine HS.out.mono ?_); rintro e w1 ⟨rfl, h1⟩; have HF1 := Lib.hid (Fr.of b h1); have HO1 := Lib.hid (popen_any (HP.out.below h1) hnx); clear h1))
        | (go_at_call 74; ((with_reducible refine HO1.out.mono ?_); rintro e w2 ⟨h1, ⟨-, rfl⟩ | ⟨h2, -⟩⟩; rotate_left; exact absurd hd h2; have HF2 := Lib.hid (HF1.out.trans h1); clear h1)))
      go_ret
      exact Out.err HR.out (.inr rfl) HF2.out
    · rw [if_neg hd, List.tail_drop] at hres
      rcases bindR_some hres with ⟨c, h1, rfl⟩ | ⟨ns, a, r, h1, h2⟩
      · have HI := Lib.hid (fun w2 hps => IH f (Nat.le_refl _) 4 (deep + 1) _ w2 b tv ts (p + 1) nv vs (by omega) hps h1)
        clear hq hres h IH h1
        go_enter Tryz.func47, Tryz.ntmps47
        go_wp2_with (first
          | (go_at_call 73; ((with_reducible refine HS.out.mono ?_); rintro e w1 ⟨rfl, h1⟩; have HF1 := Lib.hid (Fr.of b h1); have HO1 := Lib.hid (popen_any (HP.out.below h1) hnx); clear h1))
          | (go_at_call 74; ((with_reducible refine HO1.out.mono ?_); rintro e w2 ⟨h1, ⟨h2, -⟩ | ⟨-, rfl, h3⟩⟩; exact absurd h2 hd; have HF2 := Lib.hid (HF1.out.trans h1); have HL := Lib.hid (show Calls Tryz.prog 23 #[.pointer (some ⟨b, 0, none⟩), .int .i64 4] w2 (Out (.error c) w2 b tv ts (deep + 1) vs) from HI.out w2 h3); clear h1 h3))
          | (go_at_call 23; ((with_reducible refine HL.out.mono ?_); intro e w5 ho; obtain ⟨hf, hc, rfl⟩ := ho.bad rfl; have HF5 := Lib.hid (HF2.out.trans hf); have HC := Lib.hid hc; have hc0 : (c != 0) = true := (by rw [bne_iff_ne]; rcases hc with h | h <;> omega); clear hf hc ho)))
        go_ret
        exact Out.err rfl HC.out HF5.out
      · have HI := Lib.hid (fun w2 hps => IH f (Nat.le_refl _) 4 (deep + 1) _ w2 b tv ts (p + 1) nv vs (by omega) hps h1)
        have H1 := Lib.hid h1
        injection h2 with h2
        have HR := Lib.hid h2.symm
        have hcn := h.cnt
        have hnest : deep ≤ 12 := by omega
        clear hq hres h IH h1 h2
        go_enter Tryz.func47, Tryz.ntmps47
        go_upto_region 9 with (first
          | (go_at_call 73; ((with_reducible refine HS.out.mono ?_); rintro e w1 ⟨rfl, h1⟩; have HF1 := Lib.hid (Fr.of b h1); have HO1 := Lib.hid (popen_any (HP.out.below h1) hnx); clear h1))
          | (go_at_call 74; ((with_reducible refine HO1.out.mono ?_); rintro e w2 ⟨h1, ⟨h2, -⟩ | ⟨-, rfl, h3⟩⟩; exact absurd h2 hd; have HF2 := Lib.hid (HF1.out.trans h1); have HL := Lib.hid (show Calls Tryz.prog 23 #[.pointer (some ⟨b, 0, none⟩), .int .i64 4] w2 (Out (.ok (ns, a, r)) w2 b tv ts (deep + 1) vs) from HI.out w2 h3); clear h1 h3))
          | (go_at_call 23; ((with_reducible refine HL.out.mono ?_); intro e w5 ho; obtain ⟨hf, rfl, p5, nv5, us5, hp5, hu5, hk5, hps5⟩ := ho.good rfl; have HF5 := Lib.hid (HF2.out.trans hf); have HP5 := Lib.hid hps5; have HD5 := Lib.hid hp5; have HU5 := Lib.hid hu5; have HK5 := Lib.hid hk5; clear hf ho hp5 hu5 hk5 hps5)))
        have hz := HF2.out.size
        obtain ⟨c0, c1, c2, c3⟩ := HP5.out.facts
        have f2 := HP5.out.frozen 2
        rw [show ((deep + 1 : Nat) : Int) = (deep : Int) + 1 from rfl] at c2
        clear c0 c1 c3
        go_upto_region 10 with (fail)
        have HP6 := Lib.hid (HP5.out.setD deep hnest)
        have HF6 := Lib.hid (HF5.out.setCell 2 (.int .i64 (deep : Int)))
        have HSZ := Lib.hid (show (w5.setCell ⟨b, 2, none⟩ (.int .i64 (deep : Int))).heap.size = w5.heap.size by simp)
        obtain ⟨hc1, hc2, hc3⟩ := count_at H1.out HD5.out HP5.out.lt
        have hfz5 := HF5.out.size
        clear c2 f2 HP5 HF5 HL
        generalize w5.setCell ⟨b, 2, none⟩ (.int .i64 (deep : Int)) = w6 at HP6 HF6 HSZ ⊢
        have hus5 : us5.length = ns.length := by rw [← HU5.out, List.length_map]
        have hlen5 : (vs ++ us5).length = vs.length + us5.length := List.length_append
        have HRT6 := Lib.hid (root_is HP6.out a (by omega))
        have hbl := HP6.out.blt
        have hB7 : Below w6.heap.size w6 (w6.alloc (.cells #[.int .i64 (a : Int)] 3)) := (Below.refl _ _).alloc (Nat.le_refl _) _
        have HP7 := Lib.hid (HP6.out.below hB7)
        have HF7 := Lib.hid (HF6.out.below hB7)
        have HA := Lib.hid (show Calls Tryz.prog 75 #[.pointer (some ⟨b, 0, none⟩), .agg #[.int .i64 8, .int .i64 0, .string ⟨#[]⟩, .string ⟨#[]⟩, .int .i64 0, .int .i64 0, .bool false, .bool false, .string ⟨#[]⟩, .int .i64 0, .int .i64 0, .bool false, .bool false, .slice (some ⟨w6.heap.size, 0, none⟩) 1 1]] (w6.alloc (.cells #[.int .i64 (a : Int)] 3)) _ from add_any HP7.out ⟨{ Nd.zero with kind := 8, kids := [(a : Int)] }, some (w6.heap.size, 1)⟩ (own_lit1 w6 (b + 1) (a : Int) (by omega)) (by omega) (.slice (some ⟨w6.heap.size, 0, none⟩) 1 1) rfl { Nd.zero with kind := 8, kids := [(a : Int)] } rfl)
        clear hB7
        go_wp2_with (first
          | (go_at_call 76; ((with_reducible refine HRT6.out.mono ?_); rintro e wn ⟨rfl, rfl⟩))
          | (go_at_call 75; ((with_reducible refine HA.out.mono ?_); rintro e w8 ⟨h1, rfl, nv8, h3⟩; have HF8 := Lib.hid (HF7.out.trans h1); have HP8 := Lib.hid h3; clear h1 h3)))
        go_ret
        refine ⟨HF8.out, .inr ⟨_, _, _, HR.out, rfl, p5, nv8, us5 ++ [⟨{ Nd.zero with kind := 8, kids := [(a : Int)] }, some (w6.heap.size, 1)⟩], HD5.out, ?_, ?_, by rw [← List.append_assoc]; exact HP8.out⟩⟩
        · rw [List.map_append, HU5.out]; rfl
        · intro u hu j hj
          rcases List.mem_append.1 hu with hu | hu
          · exact Nat.le_trans hz (HK5.out u hu j hj)
          · rw [List.mem_singleton.1 hu] at hj
            have hj : some w6.heap.size = some j := hj
            injection hj with hj
            have := HSZ.out; omega

theorem ex_all : ∀ F : Nat, EX F := by
  intro F
  induction F using Nat.strongRecOn with
  | _ F ih =>
    intro n deep res w b tv ts p nv vs hn h hres
    match F, ih, hres with
    | 0, _, hres => unfold exprP at hres; cases hres
    | f + 1, ih, hres =>
    have IH : ∀ g, g ≤ f → EX g := fun g hg => ih g (by omega)
    by_cases h3 : n ≤ 3
    · rw [exprP_succ, if_pos h3] at hres
      exact level_row b w _ (fun e w' ho => ho.ret) n h3 fun w' hb => (row_any f IH n h3 (h.below hb) res hres).mono fun e w'' ho => Out.from (Fr.of b hb) ho
    · have e4 : n = 4 := by omega
      subst e4
      refine level_enter b 4 (by omega) w _ (fun e w' ho => ho.ret) fun w' hb => ?_
      rw [lv4]
      exact (unary_any f IH (h.below hb) res hres).mono fun e w'' ho => Out.from (Fr.of b hb) ho
end Go.Proofs.YtkdamdmnchcceaaGreatDoor

namespace Go.Proofs.YtkdamdmnchcceaaGreatDoor
open Go.RowKit

def Ups : Nat → Nat → List Tk → Prop
  | p, q, [] => p ≤ q
  | p, q, t :: ts => ∃ m : Nat, t.pos = (m : Int) ∧ p ≤ m ∧ m ≤ q ∧ Ups m q ts
theorem Ups.less {p p' q : Nat} (h : p' ≤ p) : ∀ {ts : List Tk}, Ups p q ts → Ups p' q ts
  | [], k => Nat.le_trans h k
  | _ :: _, ⟨m, h1, h2, h3, h4⟩ => ⟨m, h1, Nat.le_trans h h2, h3, h4⟩
theorem lexL_ne (s : ByteArray) (ts : List Tk) (h : lexL (sb s) = some ts) : ts ≠ [] := by
  have key : ∀ (f p : Nat) (l : List Int) (ts : List Tk), lexF f p l = some ts → ts ≠ [] := by
    intro f
    induction f with
    | zero =>
      intro p l ts h
      cases l with
      | nil => have h0 : lexF 0 p [] = some [Tk.zero.goto p] := by unfold lexF; rfl
               rw [h0] at h; injection h with h; subst h; simp
      | cons x l => unfold lexF at h; cases h
    | succ f ih =>
      intro p l ts h
      cases l with
      | nil => have h0 : lexF (f + 1) p [] = some [Tk.zero.goto p] := by unfold lexF; rfl
               rw [h0] at h; injection h with h; subst h; simp
      | cons x l =>
        rw [lexF_cons] at h
        by_cases hx : x = 32
        · rw [if_pos hx] at h; exact ih _ _ _ h
        · rw [if_neg hx] at h
          split at h
          · cases h
          · simp only [Option.map_eq_some_iff] at h
            obtain ⟨us, _, rfl⟩ := h; simp
  exact key _ _ _ _ h
theorem lexL_len (s : ByteArray) (ts : List Tk) (h : lexL (sb s) = some ts) : ts.length ≤ s.size + 1 := by
  have key : ∀ (f p : Nat) (l : List Int) (ts : List Tk), lexF f p l = some ts → ts.length ≤ l.length + 1 := by
    intro f
    induction f with
    | zero =>
      intro p l ts h
      cases l with
      | nil => have h0 : lexF 0 p [] = some [Tk.zero.goto p] := by unfold lexF; rfl
               rw [h0] at h; injection h with h; subst h; simp
      | cons x l => unfold lexF at h; cases h
    | succ f ih =>
      intro p l ts h
      cases l with
      | nil => have h0 : lexF (f + 1) p [] = some [Tk.zero.goto p] := by unfold lexF; rfl
               rw [h0] at h; injection h with h; subst h; simp
      | cons x l =>
        rw [lexF_cons] at h
        by_cases hx : x = 32
        · rw [if_pos hx] at h; have := ih _ _ _ h; simp only [List.length_cons]; omega
        · rw [if_neg hx] at h
          cases hq : tokT (x :: l) with
          | none => rw [hq] at h; cases h
          | some q =>
            obtain ⟨t0, n⟩ := q
            have hn := tokT_le _ _ _ hq
            rw [hq] at h
            simp only [Option.map_eq_some_iff] at h
            obtain ⟨us, h1, rfl⟩ := h
            have := ih _ _ _ h1
            rw [List.length_drop] at this
            simp only [List.length_cons] at this hn ⊢; omega
  have := key _ _ _ _ h
  rw [length_sb] at this; exact this
def blanks (xs : List Int) : List Nat := xs.map fun x => (x % 3).toNat
def Piece (s : ByteArray) (ts : List Tk) (xs : List Int) (i last : Nat) (l : List Int) : Prop := ins 0 (sb s) ts (blanks xs) = l ++ ins last (restL s last) (ts.drop i) ((blanks xs).drop i)
theorem Ups.at {q : Nat} : ∀ {p : Nat} {ts : List Tk}, Ups p q ts → ∀ (i : Nat) (t : Tk), ts[i]? = some t → ∃ m : Nat, t.pos = (m : Int) ∧ m ≤ q
  | _, [], _, i, t, h => by simp at h
  | _, a :: ts, ⟨m, h1, _, h3, h4⟩, 0, t, h => by simp at h; subst h; exact ⟨m, h1, h3⟩
  | _, a :: ts, ⟨m, _, _, _, h4⟩, i + 1, t, h => Ups.at h4 i t (by simpa using h)
theorem Ups.drop {q : Nat} : ∀ {p : Nat} {ts : List Tk}, Ups p q ts → ∀ (i : Nat) (t : Tk) (m : Nat), ts[i]? = some t → t.pos = (m : Int) → Ups m q (ts.drop (i + 1))
  | _, [], _, i, t, _, h, _ => by simp at h
  | _, a :: ts, ⟨m, h1, _, h3, h4⟩, 0, t, k, h, hk => by
    simp at h; subst h
    rw [show m = k from by omega] at h4
    exact h4
  | _, a :: ts, ⟨m, _, _, _, h4⟩, i + 1, t, k, h, hk => by
    have := Ups.drop h4 i t k (by simpa using h) hk
    simpa using this
end Go.Proofs.YtkdamdmnchcceaaGreatDoor

namespace Go.Proofs.YtkdamdmnchcceaaGreatDoor
open Go.RowKit

theorem drew_below {w w' : World} (h : Below w.heap.size w w') (n : Nat) : Below w.heap.size w (w'.drewN n) := ⟨h.os, h.tape, h.output, h.size, h.block⟩
theorem lex_over (s : ByteArray) (w : World) (hv : Vars w) (hs : 300 < s.size) :
    Calls Tryz.prog 22 #[.string s] w fun e w' => Below w.heap.size w w' ∧ e = .returned (.tuple #[.slice none 0 0, .int .i64 4]) := by
  refine (lex_any s w hv).mono ?_
  rintro e w' ⟨hb, ⟨_, rfl⟩ | ⟨h, _⟩ | ⟨h, _⟩⟩
  · exact ⟨hb, rfl⟩
  · omega
  · omega
end Go.Proofs.YtkdamdmnchcceaaGreatDoor

namespace Go.Proofs.YtkdamdmnchcceaaGreatDoor
open Go.RowKit

theorem run_tok_kind (kd : Int) (l : Array Value) (hl : l[0]? = some (.int .i64 kd)) (w : World) : Sem.run Tryz.prog (Instr.field 64 (.agg l) 0) w = .ok (.int .i64 kd) w := by
  simp [Instr.field, run_underlying Tryz.underlying64, part, isAgg, run_underlying Tryz.underlying3, asAgg, hl, go_sem]
def PIs (s : ByteArray) (res : Except Int (List Nd)) : Prop :=
  (300 < s.size ∧ res = .error 4) ∨ (s.size ≤ 300 ∧ lexL (sb s) = none ∧ res = .error 5) ∨ (s.size ≤ 300 ∧ ∃ ts f, lexL (sb s) = some ts ∧ parseP f ts = some res)
theorem PIs.all (s : ByteArray) : ∃ res, PIs s res := by
  by_cases h : 300 < s.size
  · exact ⟨_, .inl ⟨h, rfl⟩⟩
  · cases hl : lexL (sb s) with
    | none => exact ⟨_, .inr (.inl ⟨by omega, hl, rfl⟩)⟩
    | some ts =>
      obtain ⟨f, y, hy⟩ := parse_ends ts
      exact ⟨y, .inr (.inr ⟨by omega, ts, f, hl, hy⟩)⟩
def Parsed (res : Except Int (List Nd)) (w : World) (e : Ending) (w' : World) : Prop :=
  Below w.heap.size w w' ∧ ((∃ c, res = .error c ∧ e = .returned (.tuple #[.slice none 0 0, .int .i64 c])) ∨
    (∃ ns nv vs, res = .ok ns ∧ vs.map Nv.n = ns ∧ e = .returned (.tuple #[nv, .int .i64 0]) ∧ NodV w' w.heap.size nv vs ∧ treeB ns = true))
theorem NodV.mono {w : World} {lo lo' : Nat} {nv : Value} {vs : List Nv} (h : NodV w lo nv vs) (hl : lo' ≤ lo) : NodV w lo' nv vs := ⟨h.1.mono hl, fun v hv => (h.2 v hv).mono hl⟩
theorem NodV.below {w w' : World} {lo : Nat} {nv : Value} {vs : List Nv} (h : NodV w lo nv vs) (hb : Below w.heap.size w w') : NodV w' lo nv vs := h.keep fun g _ hg => hb.block g hg
set_option maxRecDepth 100000 in
set_option maxHeartbeats 4000000 in
theorem parse_any (s : ByteArray) (w : World) (hv : Vars w) (ho : OpV w) (res : Except Int (List Nd)) (hp : PIs s res) :
    Calls Tryz.prog 10 #[.string s] w (Parsed res w) := by
  rcases hp with ⟨h1, rfl⟩ | ⟨h1, h2, rfl⟩ | ⟨h1, ts, f, h2, h3⟩
  · have HL := Lib.hid (lex_over s w hv h1)
    clear hv ho h1
    go_enter Tryz.func10, Tryz.ntmps10
    go_wp2_with (go_at_call 22; ((with_reducible refine HL.out.mono ?_); rintro e w1 ⟨hb, rfl⟩; have HB := Lib.hid hb; clear hb))
    go_ret2
    exact ⟨HB.out, .inl ⟨4, rfl, rfl⟩⟩
  · have HL := Lib.hid (lex_isnt s w hv h1 h2)
    clear hv ho h1 h2
    go_enter Tryz.func10, Tryz.ntmps10
    go_wp2_with (go_at_call 22; ((with_reducible refine HL.out.mono ?_); rintro e w1 ⟨hb, rfl⟩; have HB := Lib.hid hb; clear hb))
    go_ret2
    exact ⟨HB.out, .inl ⟨5, rfl, rfl⟩⟩
  · obtain ⟨hgood, hfit⟩ := lexL_good s ts h2
    have hlen := lexL_len s ts h2
    have hne := List.length_pos_iff.2 (lexL_ne s ts h2)
    have HL := Lib.hid (lex_is s w hv h1 ts h2 hne)
    have hvl := hv.lt
    have HOV := Lib.hid ho
    have HFIT := Lib.hid hfit
    have HTREE := Lib.hid (fun ns (h : res = .ok ns) => parse_tree (by rw [← h]; exact h3) hgood)
    unfold parseP at h3
    have H3 := Lib.hid h3
    obtain ⟨nt, hnt⟩ : ∃ nt, ts.length = nt := ⟨_, rfl⟩
    have HNT := Lib.hid hnt
    rw [hnt] at HL hlen hne
    clear hv ho h2 h3 hgood hfit hnt
    go_enter Tryz.func10, Tryz.ntmps10
    go_upto_region 5 with (go_at_call 22; ((with_reducible refine HL.out.mono ?_); rintro e w1 ⟨hb, g1, cap1, rfl, hg0, hg1, ho⟩; have HO1 := Lib.hid ho; have HB := Lib.hid hb; clear hb ho))
    have hB2 : Below w1.heap.size w1 (w1.alloc (.cells #[.slice (some ⟨g1, 0, none⟩) nt cap1, .int .i64 0, .int .i64 0, .slice none 0 0] 61)) := (Below.refl _ _).alloc (Nat.le_refl _) _
    have hC2 : (w1.alloc (.cells #[.slice (some ⟨g1, 0, none⟩) nt cap1, .int .i64 0, .int .i64 0, .slice none 0 0] 61)).heap[w1.heap.size]? = some (.cells #[.slice (some ⟨g1, 0, none⟩) nt cap1, .int .i64 0, .int .i64 0, .slice none 0 0] 61) := (Go.MapKept.heap_alloc w1 _).1
    have HO2 := Lib.hid (HO1.out.below hB2 (Nat.le_refl _))
    have HOV2 := Lib.hid (HOV.out.below (HB.out.trans (hB2.mono HB.out.size)))
    have HZ1 := Lib.hid HB.out.size
    have HB2 := Lib.hid (HB.out.trans (hB2.mono HB.out.size))
    clear hB2 HB HL HO1 HOV
    generalize w1.alloc (.cells #[.slice (some ⟨g1, 0, none⟩) nt cap1, .int .i64 0, .int .i64 0, .slice none 0 0] 61) = w2 at hC2 HO2 HOV2 HB2 ⊢
    obtain ⟨b, hb⟩ : ∃ b, w1.heap.size = b := ⟨_, rfl⟩
    rw [hb] at hC2 hg1 HZ1 ⊢
    have hz1 := HZ1.out
    have HP := Lib.hid (show Ps w2 b (.slice (some ⟨g1, 0, none⟩) nt cap1) ts 0 0 (.slice none 0 0) [] from
      ⟨hC2, ⟨g1, cap1, by rw [HNT.out], hg1, HO2.out.mono (Nat.zero_le _)⟩, NodV.nil _ _, HOV2.out, by rw [HNT.out]; exact hne, by omega, HFIT.out, by rw [HNT.out]; omega, Nat.zero_le _, by omega⟩)
    clear hb hC2 HO2 HOV2 HFIT w1
    rcases bindR_some H3.out with ⟨c, g2, rfl⟩ | ⟨ns, a, r, g2, g3⟩
    · have HX := Lib.hid (show Calls Tryz.prog 23 #[.pointer (some ⟨b, 0, none⟩), .int .i64 0] w2 (Out (.error c) w2 b (.slice (some ⟨g1, 0, none⟩) nt cap1) ts 0 []) from ex_all f 0 0 _ w2 b _ ts 0 _ [] (by omega) HP.out g2)
      clear g2 H3
      go_wp2_with (go_at_call 23; ((with_reducible refine HX.out.mono ?_); intro e w5 ho; obtain ⟨hf, hc, rfl⟩ := ho.bad rfl; have HB5 := Lib.hid (HB2.out.trans (hf.toBelow hz1 HB2.out.size)); have hc0 : (c != 0) = true := (by rw [bne_iff_ne]; rcases hc with h | h <;> omega); clear hf hc ho))
      go_ret2
      exact ⟨HB5.out, .inl ⟨c, rfl, rfl⟩⟩
    · have HX := Lib.hid (show Calls Tryz.prog 23 #[.pointer (some ⟨b, 0, none⟩), .int .i64 0] w2 (Out (.ok (ns, a, r)) w2 b (.slice (some ⟨g1, 0, none⟩) nt cap1) ts 0 []) from ex_all f 0 0 _ w2 b _ ts 0 _ [] (by omega) HP.out g2)
      have hns := ((told_all f).1 _ _ _ _ _ _ _ g2).2.2
      have H4 := Lib.hid g3
      clear g2 g3 H3
      go_upto_region 8 with (go_at_call 23; ((with_reducible refine HX.out.mono ?_); intro e w5 ho; obtain ⟨hf, rfl, p5, nv5, us5, hp5, hu5, hk5, hps5⟩ := ho.good rfl; have HB5 := Lib.hid (HB2.out.trans (hf.toBelow hz1 HB2.out.size)); have HP5 := Lib.hid hps5; have HD5 := Lib.hid hp5; have HU5 := Lib.hid hu5; clear hf ho hp5 hu5 hk5 hps5))
      obtain ⟨gt, ct, t, -, ht, hd, -⟩ := HP5.out.tok
      have h4 := H4.out
      rw [← HD5.out, hd] at h4
      have HTK := Lib.hid (ptoken_any HP5.out t ht)
      obtain ⟨g5, cap5, rfl, -⟩ := Own.some HP5.out.nodes.1 (show 0 < ([] ++ us5).length by rw [List.nil_append, ← List.length_map (f := Nv.n), HU5.out]; omega)
      obtain ⟨kd, hkd⟩ : ∃ kd, t.kind = kd := ⟨_, rfl⟩
      rw [hkd] at HTK
      clear HX ht hd H4
      by_cases h0 : t.kind = 0
      · rw [show kindAt (t :: ts.drop (p5 + 1)) = t.kind from rfl, if_pos h0] at h4
        injection h4 with h4
        have HR := Lib.hid h4.symm
        have e0 : (kd != 0) = false := by rw [← hkd, h0]; rfl
        clear h4 h0 hkd
        go_wp2_with (go_at_call 24; ((with_reducible refine HTK.out.mono ?_); rintro e w6 ⟨rfl, h1⟩; have HB6 := Lib.hid (HB5.out.trans (h1.mono HB5.out.size)); have HP6 := Lib.hid (HP5.out.below h1); obtain ⟨c0, c1, c2, c3⟩ := HP6.out.facts; have hfd := run_tok_kind kd #[.int .i64 kd, .string t.text, .int .i64 t.num, .string t.sh, .int .i64 t.c, .int .i64 t.r, .bool t.ac, .bool t.ar, .int .i64 t.pos] rfl w6; clear h1))
        go_ret2
        exact ⟨HB6.out, .inr ⟨ns, _, [] ++ us5, HR.out, by rw [List.nil_append]; exact HU5.out, rfl, HP6.out.nodes.mono (by omega), HTREE.out ns HR.out⟩⟩
      · rw [show kindAt (t :: ts.drop (p5 + 1)) = t.kind from rfl, if_neg h0] at h4
        injection h4 with h4
        have HR := Lib.hid h4.symm
        have e0 : (kd != 0) = true := by rw [bne_iff_ne, ← hkd]; exact h0
        clear h4 h0 hkd
        go_wp2_with (go_at_call 24; ((with_reducible refine HTK.out.mono ?_); rintro e w6 ⟨rfl, h1⟩; have HB6 := Lib.hid (HB5.out.trans (h1.mono HB5.out.size)); have hfd := run_tok_kind kd #[.int .i64 kd, .string t.text, .int .i64 t.num, .string t.sh, .int .i64 t.c, .int .i64 t.r, .bool t.ac, .bool t.ar, .int .i64 t.pos] rfl w6; clear h1))
        go_ret2
        exact ⟨HB6.out, .inl ⟨5, HR.out, rfl⟩⟩
end Go.Proofs.YtkdamdmnchcceaaGreatDoor

namespace Go.Proofs.YtkdamdmnchcceaaGreatDoor
open Go.RowKit

def deepA (how : Nat) : List Int := [[40], [45], [83, 85, 77, 40]].getD how []
def deepB (how : Nat) : List Int := [[41], [], [41]].getD how []
def timesL : Nat → List Int → List Int
  | 0, _ => []
  | n + 1, l => timesL n l ++ l
def deepL (how k : Nat) : List Int := timesL k (deepA how) ++ [49] ++ timesL k (deepB how)
def sizeP (f : Nat) (l : List Int) : Option (Int × Nat) := match lexL l with
  | none => some (5, 0)
  | some ts => match parseP f ts with
    | none => none
    | some (.error e) => some (e, 0)
    | some (.ok ns) => some (0, ns.length)
def argL (i : Nat) : List Int := [[49], [65, 49], [65, 49, 58, 66, 50], [34, 120, 34], [84, 82, 85, 69], [35, 82, 69, 70, 33]].getD (i % 6) []
def argsL : Nat → List Int
  | 0 => []
  | n + 1 => argsL n ++ (if n = 0 then [] else [44]) ++ argL n
def callL (k : Nat) : List Int := [70, 40] ++ argsL k
def topP (f : Nat) (l : List Int) : Option (Nat × Int × List Int × Nat) := match lexL l with
  | none => none
  | some ts => match parseP f ts with
    | some (.ok ns) => (ns.getLast?).map fun n => (ns.length, n.kind, sb n.text, n.kids.length)
    | _ => none
def topB (f : Nat) (l : List Int) (a : Nat) (b : Int) (c : List Int) (d : Nat) : Bool := match topP f l with
  | some (x, y, z, w) => decide (x = a) && (decide (y = b) && (decide (z = c) && decide (w = d)))
  | none => false
def badL (i : Nat) : List Int := [[70, 40, 49, 44, 41], [70, 40, 44, 49, 41], [70, 40, 49], [49, 43], [43, 49], [65, 49, 58], [66, 50, 58, 65, 49], [65, 49, 58, 83, 33, 66, 50], [49, 32, 50], [84, 82, 85, 69, 40, 49, 41], [70], [97, 49], [], [58, 65, 49], [40, 49], [49, 41]].getD (i % 16) []
end Go.Proofs.YtkdamdmnchcceaaGreatDoor

namespace Go.Proofs.YtkdamdmnchcceaaGreatDoor
open Go.RowKit

theorem parse_ok (s : ByteArray) (w : World) (hv : Vars w) (ho : OpV w) (ns : List Nd) (hp : PIs s (.ok ns)) (hne : 0 < ns.length) :
    Calls Tryz.prog 10 #[.string s] w fun e w' => Below w.heap.size w w' ∧ ∃ g cap vs, e = .returned (.tuple #[.slice (some ⟨g, 0, none⟩) ns.length cap, .int .i64 0]) ∧ vs.map Nv.n = ns ∧ vs.length = ns.length ∧ NodV w' w.heap.size (.slice (some ⟨g, 0, none⟩) ns.length cap) vs ∧ treeB ns = true := by
  refine (parse_any s w hv ho _ hp).mono ?_
  rintro e w' ⟨hb, ⟨c', h1, h2⟩ | ⟨ns', nv, vs, h1, h2, h3, h4, h5⟩⟩
  · cases h1
  · injection h1 with h1; subst h1
    have hl : vs.length = ns.length := by rw [← h2, List.length_map]
    obtain ⟨g, cap, rfl, -⟩ := Own.some h4.1 (by omega)
    rw [hl] at h3 h4
    exact ⟨hb, g, cap, vs, h3, h2, hl, h4, h5⟩
theorem NodV.cell {w : World} {lo g n cap : Nat} {vs : List Nv} (h : NodV w lo (.slice (some ⟨g, 0, none⟩) n cap) vs) (i : Nat) (v : Nv) (hi : vs[i]? = some v) (j : Nat) (hj : j < 14) : w.cell? ⟨g, i * 14 + j, none⟩ = (nodA v.n v.kv).toList[j]? := by
  have hl : (nodA v.n v.kv).toList.length = 14 := rfl
  have hu : (encNv.f v)[j]? = some ((nodA v.n v.kv).toList[j]'(by omega)) := List.getElem?_eq_getElem _
  have := Own.cells h.1 (i * 14 + j) _ (by rw [encNv.at vs i j v hi hj]; exact hu)
  rw [this]; exact hu.symm
end Go.Proofs.YtkdamdmnchcceaaGreatDoor

namespace Go.Proofs.YtkdamdmnchcceaaGreatDoor
open Go.RowKit

theorem held_take {P : Program} {md : Region.Mode} {ops : Array Oper} {Q : Exit → Act → World → Prop} {S : World → Prop} {i : Nat} {oi : Oper} {d : Option Tmp} {v : Value} {fuel : Nat} {listed listed' : Array Bool} {a : Act} {w : World} (hi : ops[i]? = some oi) (hd : oi.dst = d)
    (hs : Region.noSelect ops = true) (hf : Region.free md ops listed i = true) (hr : (Region.ready md ops listed).contains i = true) (hl : listed.setIfInBounds i true = listed')
    (hQ : ∀ c a w, Q (.panic c) (a.put d v) w → Q (.panic c) a w) (hw : Region.wanted oi (yielded ops a.tmps) = true) (hy : ∀ w, S w → (execOp a.eval oi).run P w = .ok (.value v) w) (hS : S w)
    (h : wpAnyH P md ops Q S fuel listed' (a.put d v) w) : wpAnyH P md ops Q S (fuel + 1) listed a w := by
  subst hd; subst hl
  exact wpAnyH_take hi hs hf hr hQ (.inl ⟨hw, hy⟩) hS h
theorem held_skip {P : Program} {md : Region.Mode} {ops : Array Oper} {Q : Exit → Act → World → Prop} {S : World → Prop} {i : Nat} {oi : Oper} {d : Option Tmp} {fuel : Nat} {listed listed' : Array Bool} {a : Act} {w : World} (hi : ops[i]? = some oi) (hd : oi.dst = d)
    (hs : Region.noSelect ops = true) (hf : Region.free md ops listed i = true) (hr : (Region.ready md ops listed).contains i = true) (hl : listed.setIfInBounds i true = listed')
    (hQ : ∀ c a w, Q (.panic c) (a.put d undef) w → Q (.panic c) a w) (hw : Region.wanted oi (yielded ops a.tmps) = false) (hS : S w)
    (h : wpAnyH P md ops Q S fuel listed' (a.put d undef) w) : wpAnyH P md ops Q S (fuel + 1) listed a w := by
  subst hd; subst hl
  exact wpAnyH_take hi hs hf hr hQ (.inr ⟨hw, rfl⟩) hS h
theorem held_one {P : Program} {md : Region.Mode} {ops : Array Oper} {Q : Exit → Act → World → Prop} {S : World → Prop} {i : Nat} {oi : Oper} {d : Option Tmp} {fuel : Nat} {listed listed' : Array Bool} {a : Act} {w : World} (hi : ops[i]? = some oi) (hd : oi.dst = d)
    (hr : Region.ready md ops listed = [i]) (hl : listed.setIfInBounds i true = listed') (hw : Region.wanted oi (yielded ops a.tmps) = true)
    (h : ∀ K : Act → World → Prop, Shut (∀ v w, S w → wpAnyH P md ops Q S fuel listed' (a.put d v) w → K (a.put d v) w) → Oper.wp P oi a w K Q) : wpAnyH P md ops Q S (fuel + 1) listed a w := by
  subst hd; subst hl
  refine wpAnyH_ready hr (by simp) (AllReadyH.cons hi (fun K hK => ?_) AllReadyH.nil)
  rw [if_pos hw]
  exact h K (fun v w hS hW => hK _ _ hS (fun _ => hW))
theorem Below.of (w w' w'' : World) (h : Below w.heap.size w w') (k : Below w'.heap.size w' w'') : Below w.heap.size w w'' := h.trans (k.mono h.size)

theorem wpOp_imp {P : Program} {ops : Array Oper} {Q : Exit → Act → World → Prop} {i : Nat} {a : Act} {w : World} {K K' : Act → World → Prop} (h : ∀ a w, K a w → K' a w) (hk : wpOp P ops Q i K a w) : wpOp P ops Q i K' a w := wpOp_mono h hk
theorem held_less {P : Program} {md : Region.Mode} {ops : Array Oper} {Q : Exit → Act → World → Prop} {S S' : World → Prop} (hS : ∀ w, S w → S' w) : ∀ (fuel : Nat) (listed : Array Bool) (a : Act) (w : World), wpAnyH P md ops Q S fuel listed a w → wpAnyH P md ops Q S' fuel listed a w
  | 0, _, _, _, h => h
  | fuel + 1, _, _, _, h => ⟨h.1, fun i hi => wpOp_imp (fun a' w' h' => ⟨hS _ h'.1, held_less hS fuel _ a' w' h'.2⟩) (h.2 i hi)⟩
theorem kept_start {P : Program} {ops : Array Oper} {Q : Exit → Act → World → Prop} {id : Nat} {a : Act} {w : World} (hm : P.follows .mixedOrders = true)
    (h : wpAnyH P .any ops Q (Below w.heap.size w.drew) ops.size (Array.replicate ops.size false) a w.drew) : (Code.region id ops true).wp P Q a w :=
  wp_region_held_drew (S := Below w.heap.size w.drew) hm (Below.refl _ _) (fun _ => h)
theorem kept_take {P : Program} {md : Region.Mode} {ops : Array Oper} {Q : Exit → Act → World → Prop} {i : Nat} {oi : Oper} {d : Option Tmp} {v : Value} {fuel : Nat} {listed listed' : Array Bool} {a : Act} {B : Nat} {w : World} (hi : ops[i]? = some oi) (hd : oi.dst = d)
    (hs : Region.noSelect ops = true) (hf : Region.free md ops listed i = true) (hr : (Region.ready md ops listed).contains i = true) (hl : listed.setIfInBounds i true = listed')
    (hQ : ∀ c a w, Q (.panic c) (a.put d v) w → Q (.panic c) a w) (hw : Region.wanted oi (yielded ops a.tmps) = true) (hy : ∀ w', Below B w w' → (execOp a.eval oi).run P w' = .ok (.value v) w')
    (h : wpAnyH P md ops Q (Below B w) fuel listed' (a.put d v) w) : wpAnyH P md ops Q (Below B w) (fuel + 1) listed a w :=
  held_take hi hd hs hf hr hl hQ hw hy (Below.refl _ _) h
theorem kept_call {P : Program} {md : Region.Mode} {ops : Array Oper} {Q : Exit → Act → World → Prop} {i : Nat} {oi : Oper} {d : Option Tmp} {fuel : Nat} {listed listed' : Array Bool} {a : Act} {B : Nat} {w : World} (hi : ops[i]? = some oi) (hd : oi.dst = d)
    (hr : Region.ready md ops listed = [i]) (hl : listed.setIfInBounds i true = listed') (hw : Region.wanted oi (yielded ops a.tmps) = true)
    (h : ∀ K : Act → World → Prop, Shut (∀ v w', Below B w w' → B ≤ w'.heap.size → wpAnyH P md ops Q (Below w'.heap.size w') fuel listed' (a.put d v) w' → K (a.put d v) w') → Oper.wp P oi a w K Q) : wpAnyH P md ops Q (Below B w) (fuel + 1) listed a w :=
  held_one hi hd hr hl hw (fun K hK => h K (fun v w' hb hB hn => hK v w' hb (held_less (fun _ h' => hb.trans (h'.mono hB)) _ _ _ _ hn)))
end Go.Proofs.YtkdamdmnchcceaaGreatDoor

namespace Go.Proofs.YtkdamdmnchcceaaGreatDoor
open Go.RowKit

theorem sb_dec : ∀ (n u : Nat), u < n → sb ⟨(Lib.decDigits u).toArray⟩ = digL u := by
  have sbm : ∀ l : List UInt8, sb ⟨l.toArray⟩ = l.map (fun b => (b.toNat : Int)) := fun l => rfl
  intro n
  induction n with
  | zero => intro u h; omega
  | succ n ih =>
    intro u hu
    rw [sbm, Lib.decDigits]
    by_cases h : u < 10
    · rw [dif_pos h, digL_small u h]
      simp only [List.map_cons, List.map_nil]
      rw [UInt8.toNat_ofNat_of_lt' (by show 48 + u < 256; omega)]; congr 1
    · rw [dif_neg h, digL_more u h, List.map_append, ← sbm, ih (u / 10) (by omega)]
      simp only [List.map_cons, List.map_nil]
      rw [UInt8.toNat_ofNat_of_lt' (by show 48 + u % 10 < 256; omega)]; congr 1
theorem dec_str (u : Nat) : (⟨(Lib.decDigits u).toArray⟩ : ByteArray) = strOfNums (digL u) := by
  rw [← str_sb ⟨(Lib.decDigits u).toArray⟩, sb_dec (u + 1) u (by omega)]
def Tab (w : World) : Prop := Lib.TabIs Tryz.prog w "internal/strconv.uint64pow10" .u64 Lib.pow10Tab
theorem gTab : Tryz.prog.globalNamed "internal/strconv.uint64pow10" = some 3 := by kernel_rfl
theorem Tab.below {w w' : World} (h : Tab w) (hb : Below w.heap.size w w') : Tab w' := by
  unfold Tab Lib.TabIs World.var? at h ⊢
  rw [gTab] at h ⊢
  simp only [Option.bind_some] at h ⊢
  rw [hb.block _ ?_]
  · exact h
  · rcases Nat.lt_or_ge 3 w.heap.size with h' | h'
    · exact h'
    · rw [Array.getElem?_eq_none h'] at h; cases h
theorem below_grow (w : World) (k : Nat) (os : Array Obj) : Below w.heap.size w (Sort.grow (w.drewN k) os) := by
  refine ⟨rfl, rfl, rfl, ?_, ?_⟩
  · show w.heap.size ≤ (w.heap ++ os).size
    simp
  · intro j hj
    show (w.heap ++ os)[j]? = w.heap[j]?
    rw [Array.getElem?_append_left hj]
theorem itoa_any (n : Nat) (_h1 : n ≤ 9223372036854775807) (w : World) (ht : Tab w) :
    Calls Tryz.prog 87 #[.int .i64 (n : Int)] w fun e w' => e = .returned (.string (strOfNums (digL n))) ∧ Below w.heap.size w w' := by
  refine (Tryz.strconv_Itoa (n : Int) (by omega) (by omega) w ht).mono ?_
  rintro e w' ⟨rfl, k, os, rfl⟩
  refine ⟨?_, below_grow w k os⟩
  have : Lib.itoa (n : Int) = Lib.decDigits n := by unfold Lib.itoa; rw [if_neg (by omega)]; rfl
  rw [this, dec_str]
end Go.Proofs.YtkdamdmnchcceaaGreatDoor



namespace Go.Proofs.YtkdamdmnchcceaaGreatDoor
open Go.RowKit

set_option maxRecDepth 100000 in
set_option maxHeartbeats 400000 in
theorem may_any (s : ByteArray) (c r : Int) (ac ar : Bool) (w : World) (_hs : s.size ≤ 1000000) :
    Calls Tryz.prog 82 #[.agg #[.string s, .int .i64 c, .int .i64 r, .bool ac, .bool ar]] w fun e w' => e = .returned (.bool (mayL (sb s) c r)) ∧ Below w.heap.size w w' := by
  by_cases h0 : s.size = 0
  · have := sb_nil s h0
    subst this
    have hm : mayL (sb ⟨#[]⟩) c r = decide (0 ≤ c ∧ c ≤ 701 ∧ 0 ≤ r ∧ r ≤ 998) := by unfold mayL; rw [show decide (sb ⟨#[]⟩ = []) = true from by decide, Bool.true_or, Bool.true_and]
    have HM := Lib.hid hm; clear hm
    go_enter Tryz.func82, Tryz.ntmps82
    go_wp2
    all_goals go_ret
    all_goals exact ⟨ret_bool (by rw [HM.out]; first | (symm; rw [decide_eq_true_iff]; omega) | (symm; rw [decide_eq_false_iff_not]; omega) | (rw [decide_eq_decide]; omega)), (Below.refl _ _).alloc (Nat.le_refl _) _⟩
  · have hne := text_ne0 s h0
    have hne2 : s.toList.isEmpty = false := by cases hq : s.toList with | nil => exact absurd hq hne | cons a l => rfl
    have hm : mayL (sb s) c r = (nameL (sb s) && decide (0 ≤ c ∧ c ≤ 701 ∧ 0 ≤ r ∧ r ≤ 998)) := by
      unfold mayL; rw [decide_eq_false (by intro h; have := length_sb s; rw [h] at this; exact h0 this.symm), Bool.false_or]
    have HM := Lib.hid hm; clear hm h0
    by_cases hn : nameL (sb s) = true
    · go_enter Tryz.func82, Tryz.ntmps82
      go_wp2_with (first
        | (go_at_call 106; ((with_reducible refine (name_any _ _ ?_).mono ?_); (first | omega | skip); rintro e w' ⟨rfl, rfl⟩)))
      all_goals go_ret
      all_goals exact ⟨ret_bool (by rw [HM.out, hn, Bool.true_and]; first | (symm; rw [decide_eq_true_iff]; omega) | (symm; rw [decide_eq_false_iff_not]; omega) | (rw [decide_eq_decide]; omega)), (Below.refl _ _).alloc (Nat.le_refl _) _⟩
    · have hn' : nameL (sb s) = false := by simpa using hn
      clear hn
      go_enter Tryz.func82, Tryz.ntmps82
      go_wp2_with (first
        | (go_at_call 106; ((with_reducible refine (name_any _ _ ?_).mono ?_); (first | omega | skip); rintro e w' ⟨rfl, rfl⟩)))
      all_goals go_ret
      all_goals exact ⟨ret_bool (by rw [HM.out, hn', Bool.false_and]), (Below.refl _ _).alloc (Nat.le_refl _) _⟩

end Go.Proofs.YtkdamdmnchcceaaGreatDoor

namespace Go.Proofs.YtkdamdmnchcceaaGreatDoor
open Go.RowKit

theorem name_lex (s : ByteArray) (h : calledL (sb s) = true) (hr : readS s = none) : ∃ t ts, lexL (sb s) = some (t :: ts) ∧ t.kind = 3 ∧ t.text = s := by
  have hc := h
  unfold calledL at hc
  rw [Bool.and_eq_true, Bool.and_eq_true, decide_eq_true_iff, decide_eq_true_iff] at hc
  obtain ⟨c1, c2, c3⟩ := hc
  have hs := str_sb s
  cases hq : sb s with
  | nil => rw [hq] at c2; simp at c2
  | cons x l =>
    rw [hq] at c1 c3 hs h
    have hall : ∀ y ∈ x :: l, isWord y = true := by
      intro y hy
      have := c1 y hy
      rw [Bool.or_eq_true] at this
      rcases this with g | g
      · rw [isWord_beg, isBeg_cap g]; rfl
      · rw [isWord_beg, g]; simp
    have hx : isCap x = true := by simpa using c3
    have hxr : 65 ≤ x ∧ x ≤ 90 := by unfold isCap at hx; rw [decide_eq_true_iff] at hx; omega
    have h1 : ¬ isNum x = true := by unfold isNum; rw [decide_eq_true_iff]; omega
    have hl : isLet x = true := by unfold isLet; rw [decide_eq_true_iff]; omega
    have ht : (x :: l).takeWhile isWord = x :: l := by
      have := take_part isWord (x :: l) [] hall (fun y hy => by simp at hy)
      rw [List.append_nil] at this; exact this
    have htok : tokT (x :: l) = some ({ Tk.zero with kind := 3, text := s }, (x :: l).length) := by
      rw [tokT_cons, if_neg h1, if_neg (by omega), if_neg (by omega), if_pos (.inl hl)]
      unfold wordT
      rw [ht, hs, hr]
      simp only
      rw [if_pos h]
    refine ⟨({ Tk.zero with kind := 3, text := s } : Tk).goto 0, [Tk.zero.goto (0 + (x :: l).length)], ?_, rfl, rfl⟩
    unfold lexL
    rw [List.length_cons, lexF_cons, if_neg (by omega), htok]
    simp only
    rw [List.drop_length]
    have : lexF l.length (0 + (x :: l).length) [] = some [Tk.zero.goto (0 + (x :: l).length)] := by unfold lexF; rfl
    rw [this]; rfl
theorem callB_eq (s : ByteArray) : callB s = ((calledL (sb s) && (readS s).isNone) && (decide (¬ s = ⟨#[84, 82, 85, 69]⟩) && decide (¬ s = ⟨#[70, 65, 76, 83, 69]⟩))) := by unfold callB; rw [Bool.and_assoc]
theorem callB_bad (s : ByteArray) (h : ∀ t ts, lexL (sb s) = some (t :: ts) → ¬ (t.kind = 3 ∧ t.text = s)) : callB s = false := by
  rw [callB_eq]
  cases hc : calledL (sb s)
  · rfl
  · cases hr : readS s with
    | some d => rfl
    | none =>
      obtain ⟨t, ts, h1, h2, h3⟩ := name_lex s hc hr
      exact absurd ⟨h2, h3⟩ (h t ts h1)
theorem callB_big (s : ByteArray) (h : 12 < s.size) : callB s = false := by
  rw [callB_eq]
  have : calledL (sb s) = false := by
    unfold calledL
    rw [decide_eq_false (show ¬ (1 ≤ (sb s).length ∧ (sb s).length ≤ 12) by rw [length_sb]; omega), Bool.false_and, Bool.and_false]
  rw [this]; rfl
set_option maxRecDepth 100000 in
set_option maxHeartbeats 2000000 in
theorem isName5_any (s : ByteArray) (w : World) (hv : Vars w) : Calls Tryz.prog 84 #[.string s] w fun e w' => e = .returned (.bool (callB s)) ∧ Below w.heap.size w w' := by
  have bad : ∀ c : Int, (c != 0) = true → callB s = false → (Calls Tryz.prog 22 #[.string s] w fun e w' => Below w.heap.size w w' ∧ e = .returned (.tuple #[.slice none 0 0, .int .i64 c])) →
      Calls Tryz.prog 84 #[.string s] w fun e w' => e = .returned (.bool (callB s)) ∧ Below w.heap.size w w' := by
    intro c hc hb hl
    have HL := Lib.hid hl; have HB0 := Lib.hid hb
    have hc2 : (c == 0) = false := by rw [beq_eq_false_iff_ne]; exact bne_iff_ne.1 hc
    clear hl hb
    go_enter Tryz.func84, Tryz.ntmps84
    go_wp2_with (go_at_call 22; ((with_reducible refine HL.out.mono ?_); rintro e w1 ⟨hb, rfl⟩; have HB := Lib.hid hb; clear hb))
    go_ret
    exact ⟨by rw [HB0.out] <;> rfl, HB.out⟩
  by_cases hbig : 300 < s.size
  · exact bad 4 rfl (callB_big s (by omega)) (lex_over s w hv hbig)
  · cases hl : lexL (sb s) with
    | none => exact bad 5 rfl (callB_bad s (fun t ts h => by rw [hl] at h; cases h)) (lex_isnt s w hv (by omega) hl)
    | some ts =>
      have hne := lexL_ne s ts hl
      obtain ⟨hgood, _⟩ := lexL_good s ts hl
      match ts, hne, hl, hgood with
      | t :: tl, _, hl, hgood =>
      have HX := Lib.hid (lex_is s w hv (by omega) (t :: tl) hl (by simp))
      have hg := hgood t (by simp)
      obtain ⟨kd, hkd⟩ : ∃ kd, t.kind = kd := ⟨_, rfl⟩
      obtain ⟨tx, htx⟩ : ∃ tx, t.text = tx := ⟨_, rfl⟩
      have HC := Lib.hid (fun h => callB_bad s (fun t' ts' h' => by rw [hl] at h'; injection h' with h'; injection h' with h1 h2; subst h1; exact h))
      have HG := Lib.hid (show kd = 3 → tx = s → callB s = (decide (¬ s = ⟨#[84, 82, 85, 69]⟩) && decide (¬ s = ⟨#[70, 65, 76, 83, 69]⟩)) from by
        intro h1 h2
        obtain ⟨g1, g2⟩ := hg.name (by rw [hkd, h1])
        rw [htx, h2] at g1 g2
        rw [callB_eq, g1, g2]; rfl)
      have HK := Lib.hid hkd; have HT := Lib.hid htx
      obtain ⟨n, hn⟩ : ∃ n, (t :: tl).length = n := ⟨_, rfl⟩
      have hn1 : 0 < n := by rw [← hn]; simp
      rw [hn] at HX
      have q1 := word_eq s ⟨#[84, 82, 85, 69]⟩
      have q2 := word_eq s ⟨#[70, 65, 76, 83, 69]⟩
      rw [list_true] at q1
      rw [list_false] at q2
      clear hl hgood hg hkd htx hn hne bad
      go_enter Tryz.func84, Tryz.ntmps84
      go_upto_region 2 with (go_at_call 22; ((with_reducible refine HX.out.mono ?_); rintro e w1 ⟨hb, g, cap, rfl, hg0, hg1, ho⟩; have HB := Lib.hid hb; have k0 : w1.cell? ⟨g, 0, none⟩ = some (.int .i64 kd) := ((OwnT.cell ho 0 t rfl 0 (by omega)).trans (by show some (Value.int .i64 t.kind) = _; rw [HK.out])); have k1 : w1.cell? ⟨g, 1, none⟩ = some (.string tx) := ((OwnT.cell ho 0 t rfl 1 (by omega)).trans (by show some (Value.string t.text) = _; rw [HT.out])); clear hb ho))
      have hni : (0 : Int) < (n : Int) := by omega
      by_cases h3 : kd = 3
      · have e3 : (kd == 3) = true := beq_iff_eq.2 h3
        by_cases hs : tx = s
        · have HR := Lib.hid (HG.out h3 hs)
          have q3 : (tx.toList == s.toList) = true := by rw [hs]; simp
          clear h3 hs HC HG HK HT HX
          by_cases h1 : s = ⟨#[84, 82, 85, 69]⟩
          · rw [decide_eq_true h1] at q1
            rw [decide_eq_false (show ¬ ¬ s = ⟨#[84, 82, 85, 69]⟩ from fun h => h h1), Bool.false_and] at HR
            have q1n : (s.toList != [84, 82, 85, 69]) = false := by rw [bne, q1]; rfl
            clear h1
            go_wp2_with fail
            go_ret
            exact ⟨by rw [HR.out] <;> rfl, HB.out⟩
          · rw [decide_eq_false h1] at q1
            rw [decide_eq_true h1, Bool.true_and] at HR
            have q1n : (s.toList != [84, 82, 85, 69]) = true := by rw [bne, q1]; rfl
            clear h1
            by_cases h2 : s = ⟨#[70, 65, 76, 83, 69]⟩
            · rw [decide_eq_true h2] at q2
              rw [decide_eq_false (show ¬ ¬ s = ⟨#[70, 65, 76, 83, 69]⟩ from fun h => h h2)] at HR
              have q2n : (s.toList != [70, 65, 76, 83, 69]) = false := by rw [bne, q2]; rfl
              clear h2
              go_wp2_with fail
              go_ret
              exact ⟨by rw [HR.out] <;> rfl, HB.out⟩
            · rw [decide_eq_false h2] at q2
              rw [decide_eq_true h2] at HR
              have q2n : (s.toList != [70, 65, 76, 83, 69]) = true := by rw [bne, q2]; rfl
              clear h2
              go_wp2_with fail
              go_ret
              exact ⟨by rw [HR.out] <;> rfl, HB.out⟩
        · have HR := Lib.hid (HC.out (fun h => hs (by rw [← HT.out]; exact h.2)))
          have q3 : (tx.toList == s.toList) = false := beq_eq_false_iff_ne.2 (text_ne _ _ hs)
          clear h3 hs HC HG HK HT HX
          go_wp2_with fail
          go_ret
          exact ⟨by rw [HR.out] <;> rfl, HB.out⟩
      · have HR := Lib.hid (HC.out (fun h => h3 (by rw [← HK.out]; exact h.1)))
        have e3 : (kd == 3) = false := beq_eq_false_iff_ne.2 h3
        clear h3 HC HG HK HT HX
        go_wp2_with fail
        go_ret
        exact ⟨by rw [HR.out] <;> rfl, HB.out⟩
end Go.Proofs.YtkdamdmnchcceaaGreatDoor

namespace Go.Proofs.YtkdamdmnchcceaaGreatDoor
open Go.RowKit

theorem printB_bad (s : ByteArray) (k : Nat) (h : k < s.size) (hx : ((s[k].toNat : Nat) : Int) < 32) : printB (sb s) = false := by
  unfold printB; rw [decide_eq_false_iff_not]; intro hall
  exact hall _ (List.mem_of_getElem? (sb_at s k h)) hx
theorem printB_all (s : ByteArray) (h : ∀ (j : Nat) (hj : j < s.size), ¬ ((s[j].toNat : Nat) : Int) < 32) : printB (sb s) = true := by
  unfold printB; rw [decide_eq_true_iff]
  intro x hx
  obtain ⟨j, hj, rfl⟩ := List.mem_iff_getElem.1 hx
  rw [length_sb] at hj
  have := sb_at s j hj
  rw [List.getElem?_eq_getElem (by rw [length_sb]; exact hj)] at this
  rw [Option.some.inj this]; exact h j hj
set_option maxRecDepth 100000 in
set_option maxHeartbeats 800000 in
theorem isText_any (s : ByteArray) (w : World) (_hs : s.size ≤ 1000000) : Calls Tryz.prog 81 #[.string s] w fun e w' => e = .returned (.bool (printB (sb s))) ∧ w = w' := by
  go_enter Tryz.func81, Tryz.ntmps81
  go_wp2_with fail
  go_loopw [6] (fun i wr => ∃ k : Nat, k ≤ s.size ∧ i = .int .i64 k ∧ Hid (∀ (j : Nat) (hj : j < s.size), j < k → ¬ ((s[j].toNat : Nat) : Int) < 32) ∧ w = wr)
    (fun i _ => s.size - (intOf i).toNat)
  case atStart => exact ⟨0, by omega, rfl, Lib.hid (by intro j _ hj; omega), rfl⟩
  case round =>
    obtain ⟨k, hk, rfl, HG, rfl⟩ := hrel
    by_cases hlt : k < s.size
    · have hki : (k : Int) < (s.size : Int) := by omega
      obtain ⟨a, ha⟩ : ∃ a : Int, (s[k].toNat : Int) = a := ⟨_, rfl⟩
      have ha1 : 0 ≤ a ∧ a ≤ 255 := by have := s[k].toNat_lt; omega
      have HA := Lib.hid ha
      by_cases h32 : a < 32
      · have HB := Lib.hid (printB_bad s k hlt (by rw [ha]; exact h32))
        go_wp2_with fail
        go_ret
        exact ⟨by rw [HB.out] <;> rfl, rfl⟩
      · go_wp2_with fail
        go_roundw
        case rel =>
          refine ⟨k + 1, by omega, by go_num, Lib.hid ?_, by first | rfl | trivial⟩
          intro j hj hjk
          by_cases e : j = k
          · subst e; rw [HA.out]; exact h32
          · exact HG.out j hj (by omega)
        case measure => simp [intOf]; omega
    · have hki : ¬ (k : Int) < (s.size : Int) := by omega
      have HB := Lib.hid (printB_all s (fun j hj => HG.out j hj (by omega)))
      go_wp2_with fail
      go_ret
      exact ⟨by rw [HB.out] <;> rfl, rfl⟩
def twoB (k : Int) : Bool := decide (9 ≤ k ∧ k ≤ 19)
set_option maxHeartbeats 400000 in
theorem isOfTwo_any (k : Int) (w : World) : Calls Tryz.prog 85 #[.int .i64 k] w fun e w' => e = .returned (.bool (twoB k)) ∧ w = w' := by
  go_enter Tryz.func85, Tryz.ntmps85
  by_cases h1 : 9 ≤ k
  · by_cases h2 : k ≤ 19
    · go_wp2
      go_ret
      exact ⟨ret_bool (by unfold twoB; symm; rw [decide_eq_true_iff]; exact ⟨h1, h2⟩), rfl⟩
    · go_wp2
      go_ret
      exact ⟨ret_bool (by unfold twoB; symm; rw [decide_eq_false_iff_not]; omega), rfl⟩
  · go_wp2
    go_ret
    exact ⟨ret_bool (by unfold twoB; symm; rw [decide_eq_false_iff_not]; omega), rfl⟩
def hkB (kind : Int) (m : Nat) : Bool := if kind = 7 then true else if kind = 8 then decide (m = 1) else if twoB kind = true then decide (m = 2) else decide (m = 0)
set_option maxRecDepth 100000 in
set_option maxHeartbeats 1600000 in
theorem hasKids_any (n : Nd) (A : Option Addr) (m c : Nat) (hm : m ≤ maxLen) (w : World) : Calls Tryz.prog 50 #[.agg #[.int .i64 n.kind, .int .i64 n.num, .string n.text, .string n.ref.sh, .int .i64 n.ref.c, .int .i64 n.ref.r, .bool n.ref.ac, .bool n.ref.ar, .string n.to.sh, .int .i64 n.to.c, .int .i64 n.to.r, .bool n.to.ac, .bool n.to.ar, .slice A m c]] w fun e w' => e = .returned (.bool (hkB n.kind m)) ∧ Below w.heap.size w w' := by
  have hx : NdAt (w.alloc (.cells #[.int .i64 n.kind, .int .i64 n.num, .string n.text, .string n.ref.sh, .int .i64 n.ref.c, .int .i64 n.ref.r, .bool n.ref.ac, .bool n.ref.ar, .string n.to.sh, .int .i64 n.to.c, .int .i64 n.to.r, .bool n.to.ac, .bool n.to.ar, .slice A m c] 27)) w.heap.size n (.slice A m c) := NdAt.new w n _
  have HB := Lib.hid ((Below.refl w.heap.size w).alloc (Nat.le_refl _) (.cells #[.int .i64 n.kind, .int .i64 n.num, .string n.text, .string n.ref.sh, .int .i64 n.ref.c, .int .i64 n.ref.r, .bool n.ref.ac, .bool n.ref.ar, .string n.to.sh, .int .i64 n.to.c, .int .i64 n.to.r, .bool n.to.ac, .bool n.to.ar, .slice A m c] 27))
  go_enter Tryz.func50, Tryz.ntmps50
  go_upto_region 1 with (fail)
  generalize w.alloc (.cells #[.int .i64 n.kind, .int .i64 n.num, .string n.text, .string n.ref.sh, .int .i64 n.ref.c, .int .i64 n.ref.r, .bool n.ref.ac, .bool n.ref.ar, .string n.to.sh, .int .i64 n.to.c, .int .i64 n.to.r, .bool n.to.ac, .bool n.to.ar, .slice A m c] 27) = w1 at hx HB ⊢
  obtain ⟨x0, x1, x2, x3, x4, x5, x6, x7, x8, x9, x10, x11, x12, x13⟩ := hx.cells
  clear hx
  obtain ⟨kd, hkd⟩ : ∃ kd, n.kind = kd := ⟨_, rfl⟩
  rw [hkd] at x0
  have HKD := Lib.hid hkd; clear hkd
  by_cases h7 : kd = 7
  · have e7 : (kd == 7) = true := beq_iff_eq.2 h7
    have HR := Lib.hid (show hkB kd m = true by unfold hkB; rw [if_pos h7])
    clear h7
    go_wp2_with fail
    go_ret
    exact ⟨by rw [HKD.out, HR.out] <;> rfl, HB.out⟩
  have e7 : (kd == 7) = false := beq_eq_false_iff_ne.2 h7
  by_cases h8 : kd = 8
  · have e8 : (kd == 8) = true := beq_iff_eq.2 h8
    have HR := Lib.hid (show hkB kd m = decide (m = 1) by unfold hkB; rw [if_neg h7, if_pos h8])
    clear h7 h8
    by_cases hm1 : m = 1
    · subst hm1
      go_wp2_with fail
      go_ret
      exact ⟨by rw [HKD.out, HR.out] <;> rfl, HB.out⟩
    · have em : ((m : Int) == 1) = false := by rw [beq_eq_false_iff_ne]; omega
      rw [decide_eq_false hm1] at HR
      go_wp2_with fail
      go_ret
      exact ⟨by rw [HKD.out, HR.out]; first | rfl | (simp; omega), HB.out⟩
  have e8 : (kd == 8) = false := beq_eq_false_iff_ne.2 h8
  cases ht : twoB kd
  · have HR := Lib.hid (show hkB kd m = decide (m = 0) by unfold hkB; rw [if_neg h7, if_neg h8, ht, if_neg (by decide)])
    have HT := isOfTwo_any kd
    rw [ht] at HT
    have HT := Lib.hid HT
    clear h7 h8 ht
    by_cases hm1 : m = 0
    · subst hm1
      go_wp2_with (go_at_call 85; ((with_reducible refine (HT.out _).mono ?_); rintro e w2 ⟨rfl, rfl⟩))
      go_ret
      exact ⟨by rw [HKD.out, HR.out] <;> rfl, HB.out⟩
    · have em : ((m : Int) == 0) = false := by rw [beq_eq_false_iff_ne]; omega
      rw [decide_eq_false hm1] at HR
      go_wp2_with (go_at_call 85; ((with_reducible refine (HT.out _).mono ?_); rintro e w2 ⟨rfl, rfl⟩))
      go_ret
      exact ⟨by rw [HKD.out, HR.out]; first | rfl | (simp; omega), HB.out⟩
  · have HR := Lib.hid (show hkB kd m = decide (m = 2) by unfold hkB; rw [if_neg h7, if_neg h8, ht, if_pos rfl])
    have HT := isOfTwo_any kd
    rw [ht] at HT
    have HT := Lib.hid HT
    clear h7 h8 ht
    by_cases hm1 : m = 2
    · subst hm1
      go_wp2_with (go_at_call 85; ((with_reducible refine (HT.out _).mono ?_); rintro e w2 ⟨rfl, rfl⟩))
      go_ret
      exact ⟨by rw [HKD.out, HR.out] <;> rfl, HB.out⟩
    · have em : ((m : Int) == 2) = false := by rw [beq_eq_false_iff_ne]; omega
      rw [decide_eq_false hm1] at HR
      go_wp2_with (go_at_call 85; ((with_reducible refine (HT.out _).mono ?_); rintro e w2 ⟨rfl, rfl⟩))
      go_ret
      exact ⟨by rw [HKD.out, HR.out]; first | rfl | (simp; omega), HB.out⟩
end Go.Proofs.YtkdamdmnchcceaaGreatDoor

namespace Go.Proofs.YtkdamdmnchcceaaGreatDoor
open Go.RowKit

def namedN (n : Nd) : Nd :=
  if n.kind = 1 then { Nd.zero with num := n.num } else if n.kind = 2 then { Nd.zero with text := n.text } else if n.kind = 3 then { Nd.zero with num := n.num }
  else if n.kind = 5 then { Nd.zero with ref := n.ref } else if n.kind = 6 then ⟨0, 0, ⟨#[]⟩, n.ref, n.to, []⟩ else if n.kind = 7 then { Nd.zero with text := n.text } else Nd.zero
def okF (n : Nd) : Bool :=
  if n.kind = 1 then decide (0 ≤ n.num) else if n.kind = 2 then printB (sb n.text) else if n.kind = 3 then decide (n.num = 0 ∨ n.num = 1)
  else if n.kind = 5 then mayRf n.ref else if n.kind = 6 then mayRf n.ref && (mayRf n.to && spanB n.ref n.to) else if n.kind = 7 then callB n.text else decide (n.kind = 4 ∨ n.kind = 8) || twoB n.kind
theorem res_fields : Tryz.f49.results = #[.cell 2 27, .tmp 3] := by kernel_rfl
theorem NdAt.load {w : World} {b : Nat} {n : Nd} {k : Value} (h : NdAt w b n k) : (loadVar 27 ⟨b, 0, none⟩).run Tryz.prog w = .ok (.agg (nodA n k)) w :=
  run_loadVar_row w b 27 27 _ _ _ h Tryz.underlying27 rfl nod_size
theorem out_nod {w : World} {b : Nat} {n : Nd} {k : Value} (h : NdAt w b n k) (fn : Func) (tmps : Array Value) (ok : Bool) (p u : Tmp) (hf : fn.results = #[.cell p 27, .tmp u]) (hp : tmps.getD p undef = .pointer (some ⟨b, 0, none⟩)) (hu : tmps.getD u undef = .bool ok) :
    (results fn tmps).run Tryz.prog w = .ok (.tuple #[.agg (nodA n k), .bool ok]) w := by
  rw [results_cell_tmp hf, hp, hu]
  simp [asAddr, h.load, Result.andThen]
abbrev zNod : Array Value := #[.int .i64 0, .int .i64 0, .string ⟨#[]⟩, .string ⟨#[]⟩, .int .i64 0, .int .i64 0, .bool false, .bool false, .string ⟨#[]⟩, .int .i64 0, .int .i64 0, .bool false, .bool false, .slice none 0 0]
theorem NdAt.drew {w : World} {b : Nat} {n : Nd} {k : Value} (h : NdAt w b n k) : NdAt w.drew b n k := h
theorem NdAt.frozen {w : World} {b : Nat} {n : Nd} {k : Value} (h : NdAt w b n k) (j : Nat) : w.frozen? ⟨b, j, none⟩ = false := frozen_of_row w b j _ _ h
theorem row14 (w : World) (b : Nat) (t : TypeId) (u0 u1 u2 u3 u4 u5 u6 u7 u8 u9 u10 u11 u12 u13 v0 v1 v2 v3 v4 v5 v6 v7 v8 v9 v10 v11 v12 v13 : Value) (h : w.heap[b]? = some (.cells #[u0, u1, u2, u3, u4, u5, u6, u7, u8, u9, u10, u11, u12, u13] t)) :
    ((((((((((((((w.setCell ⟨b, 0, none⟩ v0).setCell ⟨b, 1, none⟩ v1).setCell ⟨b, 2, none⟩ v2).setCell ⟨b, 3, none⟩ v3).setCell ⟨b, 4, none⟩ v4).setCell ⟨b, 5, none⟩ v5).setCell ⟨b, 6, none⟩ v6).setCell ⟨b, 7, none⟩ v7).setCell ⟨b, 8, none⟩ v8).setCell ⟨b, 9, none⟩ v9).setCell ⟨b, 10, none⟩ v10).setCell ⟨b, 11, none⟩ v11).setCell ⟨b, 12, none⟩ v12).setCell ⟨b, 13, none⟩ v13).heap[b]? = some (.cells #[v0, v1, v2, v3, v4, v5, v6, v7, v8, v9, v10, v11, v12, v13] t) := by
  have h0 : (w.setCell ⟨b, 0, none⟩ v0).heap[b]? = some (.cells #[v0, u1, u2, u3, u4, u5, u6, u7, u8, u9, u10, u11, u12, u13] t) := by rw [heap_setCell_same _ b 0 _ _ _ h]; rfl
  have h1 : ((w.setCell ⟨b, 0, none⟩ v0).setCell ⟨b, 1, none⟩ v1).heap[b]? = some (.cells #[v0, v1, u2, u3, u4, u5, u6, u7, u8, u9, u10, u11, u12, u13] t) := by rw [heap_setCell_same _ b 1 _ _ _ h0]; rfl
  have h2 : (((w.setCell ⟨b, 0, none⟩ v0).setCell ⟨b, 1, none⟩ v1).setCell ⟨b, 2, none⟩ v2).heap[b]? = some (.cells #[v0, v1, v2, u3, u4, u5, u6, u7, u8, u9, u10, u11, u12, u13] t) := by rw [heap_setCell_same _ b 2 _ _ _ h1]; rfl
  have h3 : ((((w.setCell ⟨b, 0, none⟩ v0).setCell ⟨b, 1, none⟩ v1).setCell ⟨b, 2, none⟩ v2).setCell ⟨b, 3, none⟩ v3).heap[b]? = some (.cells #[v0, v1, v2, v3, u4, u5, u6, u7, u8, u9, u10, u11, u12, u13] t) := by rw [heap_setCell_same _ b 3 _ _ _ h2]; rfl
  have h4 : (((((w.setCell ⟨b, 0, none⟩ v0).setCell ⟨b, 1, none⟩ v1).setCell ⟨b, 2, none⟩ v2).setCell ⟨b, 3, none⟩ v3).setCell ⟨b, 4, none⟩ v4).heap[b]? = some (.cells #[v0, v1, v2, v3, v4, u5, u6, u7, u8, u9, u10, u11, u12, u13] t) := by rw [heap_setCell_same _ b 4 _ _ _ h3]; rfl
  have h5 : ((((((w.setCell ⟨b, 0, none⟩ v0).setCell ⟨b, 1, none⟩ v1).setCell ⟨b, 2, none⟩ v2).setCell ⟨b, 3, none⟩ v3).setCell ⟨b, 4, none⟩ v4).setCell ⟨b, 5, none⟩ v5).heap[b]? = some (.cells #[v0, v1, v2, v3, v4, v5, u6, u7, u8, u9, u10, u11, u12, u13] t) := by rw [heap_setCell_same _ b 5 _ _ _ h4]; rfl
  have h6 : (((((((w.setCell ⟨b, 0, none⟩ v0).setCell ⟨b, 1, none⟩ v1).setCell ⟨b, 2, none⟩ v2).setCell ⟨b, 3, none⟩ v3).setCell ⟨b, 4, none⟩ v4).setCell ⟨b, 5, none⟩ v5).setCell ⟨b, 6, none⟩ v6).heap[b]? = some (.cells #[v0, v1, v2, v3, v4, v5, v6, u7, u8, u9, u10, u11, u12, u13] t) := by rw [heap_setCell_same _ b 6 _ _ _ h5]; rfl
  have h7 : ((((((((w.setCell ⟨b, 0, none⟩ v0).setCell ⟨b, 1, none⟩ v1).setCell ⟨b, 2, none⟩ v2).setCell ⟨b, 3, none⟩ v3).setCell ⟨b, 4, none⟩ v4).setCell ⟨b, 5, none⟩ v5).setCell ⟨b, 6, none⟩ v6).setCell ⟨b, 7, none⟩ v7).heap[b]? = some (.cells #[v0, v1, v2, v3, v4, v5, v6, v7, u8, u9, u10, u11, u12, u13] t) := by rw [heap_setCell_same _ b 7 _ _ _ h6]; rfl
  have h8 : (((((((((w.setCell ⟨b, 0, none⟩ v0).setCell ⟨b, 1, none⟩ v1).setCell ⟨b, 2, none⟩ v2).setCell ⟨b, 3, none⟩ v3).setCell ⟨b, 4, none⟩ v4).setCell ⟨b, 5, none⟩ v5).setCell ⟨b, 6, none⟩ v6).setCell ⟨b, 7, none⟩ v7).setCell ⟨b, 8, none⟩ v8).heap[b]? = some (.cells #[v0, v1, v2, v3, v4, v5, v6, v7, v8, u9, u10, u11, u12, u13] t) := by rw [heap_setCell_same _ b 8 _ _ _ h7]; rfl
  have h9 : ((((((((((w.setCell ⟨b, 0, none⟩ v0).setCell ⟨b, 1, none⟩ v1).setCell ⟨b, 2, none⟩ v2).setCell ⟨b, 3, none⟩ v3).setCell ⟨b, 4, none⟩ v4).setCell ⟨b, 5, none⟩ v5).setCell ⟨b, 6, none⟩ v6).setCell ⟨b, 7, none⟩ v7).setCell ⟨b, 8, none⟩ v8).setCell ⟨b, 9, none⟩ v9).heap[b]? = some (.cells #[v0, v1, v2, v3, v4, v5, v6, v7, v8, v9, u10, u11, u12, u13] t) := by rw [heap_setCell_same _ b 9 _ _ _ h8]; rfl
  have h10 : (((((((((((w.setCell ⟨b, 0, none⟩ v0).setCell ⟨b, 1, none⟩ v1).setCell ⟨b, 2, none⟩ v2).setCell ⟨b, 3, none⟩ v3).setCell ⟨b, 4, none⟩ v4).setCell ⟨b, 5, none⟩ v5).setCell ⟨b, 6, none⟩ v6).setCell ⟨b, 7, none⟩ v7).setCell ⟨b, 8, none⟩ v8).setCell ⟨b, 9, none⟩ v9).setCell ⟨b, 10, none⟩ v10).heap[b]? = some (.cells #[v0, v1, v2, v3, v4, v5, v6, v7, v8, v9, v10, u11, u12, u13] t) := by rw [heap_setCell_same _ b 10 _ _ _ h9]; rfl
  have h11 : ((((((((((((w.setCell ⟨b, 0, none⟩ v0).setCell ⟨b, 1, none⟩ v1).setCell ⟨b, 2, none⟩ v2).setCell ⟨b, 3, none⟩ v3).setCell ⟨b, 4, none⟩ v4).setCell ⟨b, 5, none⟩ v5).setCell ⟨b, 6, none⟩ v6).setCell ⟨b, 7, none⟩ v7).setCell ⟨b, 8, none⟩ v8).setCell ⟨b, 9, none⟩ v9).setCell ⟨b, 10, none⟩ v10).setCell ⟨b, 11, none⟩ v11).heap[b]? = some (.cells #[v0, v1, v2, v3, v4, v5, v6, v7, v8, v9, v10, v11, u12, u13] t) := by rw [heap_setCell_same _ b 11 _ _ _ h10]; rfl
  have h12 : (((((((((((((w.setCell ⟨b, 0, none⟩ v0).setCell ⟨b, 1, none⟩ v1).setCell ⟨b, 2, none⟩ v2).setCell ⟨b, 3, none⟩ v3).setCell ⟨b, 4, none⟩ v4).setCell ⟨b, 5, none⟩ v5).setCell ⟨b, 6, none⟩ v6).setCell ⟨b, 7, none⟩ v7).setCell ⟨b, 8, none⟩ v8).setCell ⟨b, 9, none⟩ v9).setCell ⟨b, 10, none⟩ v10).setCell ⟨b, 11, none⟩ v11).setCell ⟨b, 12, none⟩ v12).heap[b]? = some (.cells #[v0, v1, v2, v3, v4, v5, v6, v7, v8, v9, v10, v11, v12, u13] t) := by rw [heap_setCell_same _ b 12 _ _ _ h11]; rfl
  have h13 : ((((((((((((((w.setCell ⟨b, 0, none⟩ v0).setCell ⟨b, 1, none⟩ v1).setCell ⟨b, 2, none⟩ v2).setCell ⟨b, 3, none⟩ v3).setCell ⟨b, 4, none⟩ v4).setCell ⟨b, 5, none⟩ v5).setCell ⟨b, 6, none⟩ v6).setCell ⟨b, 7, none⟩ v7).setCell ⟨b, 8, none⟩ v8).setCell ⟨b, 9, none⟩ v9).setCell ⟨b, 10, none⟩ v10).setCell ⟨b, 11, none⟩ v11).setCell ⟨b, 12, none⟩ v12).setCell ⟨b, 13, none⟩ v13).heap[b]? = some (.cells #[v0, v1, v2, v3, v4, v5, v6, v7, v8, v9, v10, v11, v12, v13] t) := by rw [heap_setCell_same _ b 13 _ _ _ h12]; rfl
  exact h13
theorem NdAt.put14 {w : World} {b : Nat} {n0 : Nd} {k0 : Value} (h : NdAt w b n0 k0) (n : Nd) (k : Value) : NdAt ((((((((((((((w.setCell ⟨b, 0, none⟩ (.int .i64 n.kind)).setCell ⟨b, 1, none⟩ (.int .i64 n.num)).setCell ⟨b, 2, none⟩ (.string n.text)).setCell ⟨b, 3, none⟩ (.string n.ref.sh)).setCell ⟨b, 4, none⟩ (.int .i64 n.ref.c)).setCell ⟨b, 5, none⟩ (.int .i64 n.ref.r)).setCell ⟨b, 6, none⟩ (.bool n.ref.ac)).setCell ⟨b, 7, none⟩ (.bool n.ref.ar)).setCell ⟨b, 8, none⟩ (.string n.to.sh)).setCell ⟨b, 9, none⟩ (.int .i64 n.to.c)).setCell ⟨b, 10, none⟩ (.int .i64 n.to.r)).setCell ⟨b, 11, none⟩ (.bool n.to.ac)).setCell ⟨b, 12, none⟩ (.bool n.to.ar)).setCell ⟨b, 13, none⟩ (k)) b n k := row14 w b _ _ _ _ _ _ _ _ _ _ _ _ _ _ _ _ _ _ _ _ _ _ _ _ _ _ _ _ _ h
theorem below_set14 {B : Nat} {a w : World} {b : Nat} (h : Below B a w) (hb : B ≤ b) (v0 v1 v2 v3 v4 v5 v6 v7 v8 v9 v10 v11 v12 v13 : Value) : Below B a ((((((((((((((w.setCell ⟨b, 0, none⟩ v0).setCell ⟨b, 1, none⟩ v1).setCell ⟨b, 2, none⟩ v2).setCell ⟨b, 3, none⟩ v3).setCell ⟨b, 4, none⟩ v4).setCell ⟨b, 5, none⟩ v5).setCell ⟨b, 6, none⟩ v6).setCell ⟨b, 7, none⟩ v7).setCell ⟨b, 8, none⟩ v8).setCell ⟨b, 9, none⟩ v9).setCell ⟨b, 10, none⟩ v10).setCell ⟨b, 11, none⟩ v11).setCell ⟨b, 12, none⟩ v12).setCell ⟨b, 13, none⟩ v13) :=
  ((((((((((((((h.setCell hb _).setCell hb _).setCell hb _).setCell hb _).setCell hb _).setCell hb _).setCell hb _).setCell hb _).setCell hb _).setCell hb _).setCell hb _).setCell hb _).setCell hb _).setCell hb _)
set_option maxRecDepth 100000 in
set_option maxHeartbeats 1600000 in
theorem fields_1 (n : Nd) (h1 : n.kind = 1) (A : Option Addr) (m c : Nat) (w : World) : Calls Tryz.prog 49 #[.agg #[.int .i64 n.kind, .int .i64 n.num, .string n.text, .string n.ref.sh, .int .i64 n.ref.c, .int .i64 n.ref.r, .bool n.ref.ac, .bool n.ref.ar, .string n.to.sh, .int .i64 n.to.c, .int .i64 n.to.r, .bool n.to.ac, .bool n.to.ar, .slice A m c]] w fun e w' => e = .returned (.tuple #[.agg (nodA { Nd.zero with num := n.num } (.slice none 0 0)), .bool (decide (0 ≤ n.num))]) ∧ Below w.heap.size w w' := by
  have hsz : (w.alloc (.cells #[.int .i64 n.kind, .int .i64 n.num, .string n.text, .string n.ref.sh, .int .i64 n.ref.c, .int .i64 n.ref.r, .bool n.ref.ac, .bool n.ref.ar, .string n.to.sh, .int .i64 n.to.c, .int .i64 n.to.r, .bool n.to.ac, .bool n.to.ar, .slice A m c] 27)).heap.size = w.heap.size + 1 := by simp
  have hx : NdAt (w.alloc (.cells #[.int .i64 n.kind, .int .i64 n.num, .string n.text, .string n.ref.sh, .int .i64 n.ref.c, .int .i64 n.ref.r, .bool n.ref.ac, .bool n.ref.ar, .string n.to.sh, .int .i64 n.to.c, .int .i64 n.to.r, .bool n.to.ac, .bool n.to.ar, .slice A m c] 27)) w.heap.size n (.slice A m c) := NdAt.new w n _
  have hy : NdAt ((w.alloc (.cells #[.int .i64 n.kind, .int .i64 n.num, .string n.text, .string n.ref.sh, .int .i64 n.ref.c, .int .i64 n.ref.r, .bool n.ref.ac, .bool n.ref.ar, .string n.to.sh, .int .i64 n.to.c, .int .i64 n.to.r, .bool n.to.ac, .bool n.to.ar, .slice A m c] 27)).alloc (.cells zNod 27)) (w.heap.size + 1) Nd.zero (.slice none 0 0) := by rw [← hsz]; exact NdAt.new _ Nd.zero _
  have hx2 := hx.below ((Below.refl _ _).alloc (Nat.le_refl _) (.cells zNod 27)) hx.lt
  have HB := Lib.hid (((Below.refl w.heap.size w).alloc (Nat.le_refl _) (.cells #[.int .i64 n.kind, .int .i64 n.num, .string n.text, .string n.ref.sh, .int .i64 n.ref.c, .int .i64 n.ref.r, .bool n.ref.ac, .bool n.ref.ar, .string n.to.sh, .int .i64 n.to.c, .int .i64 n.to.r, .bool n.to.ac, .bool n.to.ar, .slice A m c] 27)).alloc (by simp) (.cells zNod 27))
  have e1 : (n.kind == 1) = true := beq_iff_eq.2 h1
  clear h1
  go_enter Tryz.func49, Tryz.ntmps49
  go_upto_region 3 with (fail)
  generalize (w.alloc (.cells #[.int .i64 n.kind, .int .i64 n.num, .string n.text, .string n.ref.sh, .int .i64 n.ref.c, .int .i64 n.ref.r, .bool n.ref.ac, .bool n.ref.ar, .string n.to.sh, .int .i64 n.to.c, .int .i64 n.to.r, .bool n.to.ac, .bool n.to.ar, .slice A m c] 27)).alloc (.cells zNod 27) = w1 at hx2 hy HB ⊢
  obtain ⟨x0, x1, x2, x3, x4, x5, x6, x7, x8, x9, x10, x11, x12, x13⟩ := hx2.cells
  obtain ⟨y0, y1, y2, y3, y4, y5, y6, y7, y8, y9, y10, y11, y12, y13⟩ := hy.cells
  have f0 := hy.frozen 0
  have f1 := hy.frozen 1
  have f2 := hy.frozen 2
  have f3 := hy.frozen 3
  have f4 := hy.frozen 4
  have f5 := hy.frozen 5
  have f6 := hy.frozen 6
  have f7 := hy.frozen 7
  have f8 := hy.frozen 8
  have f9 := hy.frozen 9
  have f10 := hy.frozen 10
  have f11 := hy.frozen 11
  have f12 := hy.frozen 12
  have f13 := hy.frozen 13
  have HY := Lib.hid hy
  clear hx hx2 hy
  go_region
  all_goals go_wp2_with fail
  all_goals exact bodyPost_ret (out_nod (HY.out.put14 { Nd.zero with num := n.num } (.slice none 0 0)).drew _ _ _ 2 3 res_fields rfl rfl) rfl ⟨rfl, (below_set14 HB.out (by omega) _ _ _ _ _ _ _ _ _ _ _ _ _ _).drew⟩
end Go.Proofs.YtkdamdmnchcceaaGreatDoor

namespace Go.Proofs.YtkdamdmnchcceaaGreatDoor
open Go.RowKit

theorem NdAt.melts {w : World} {b : Nat} {n : Nd} {k : Value} (h : NdAt w b n k) : w.frozen? ⟨b, 0, none⟩ = false ∧ w.frozen? ⟨b, 1, none⟩ = false ∧ w.frozen? ⟨b, 2, none⟩ = false ∧ w.frozen? ⟨b, 3, none⟩ = false ∧ w.frozen? ⟨b, 4, none⟩ = false ∧ w.frozen? ⟨b, 5, none⟩ = false ∧ w.frozen? ⟨b, 6, none⟩ = false ∧ w.frozen? ⟨b, 7, none⟩ = false ∧ w.frozen? ⟨b, 8, none⟩ = false ∧ w.frozen? ⟨b, 9, none⟩ = false ∧ w.frozen? ⟨b, 10, none⟩ = false ∧ w.frozen? ⟨b, 11, none⟩ = false ∧ w.frozen? ⟨b, 12, none⟩ = false ∧ w.frozen? ⟨b, 13, none⟩ = false :=
  ⟨h.frozen 0, h.frozen 1, h.frozen 2, h.frozen 3, h.frozen 4, h.frozen 5, h.frozen 6, h.frozen 7, h.frozen 8, h.frozen 9, h.frozen 10, h.frozen 11, h.frozen 12, h.frozen 13⟩

theorem NdAt.setOther {w : World} {b g : Nat} {n : Nd} {k : Value} (h : NdAt w b n k) (hg : b ≠ g) (o : Nat) (v : Value) : NdAt (w.setCell ⟨g, o, none⟩ v) b n k := by
  unfold NdAt; rw [Below.heap_setCell _ _ _ _ (by exact hg)]; exact h
theorem NdAt.other14 {w : World} {b g : Nat} {n : Nd} {k : Value} (h : NdAt w b n k) (hg : b ≠ g) (v0 v1 v2 v3 v4 v5 v6 v7 v8 v9 v10 v11 v12 v13 : Value) : NdAt ((((((((((((((w.setCell ⟨g, 0, none⟩ v0).setCell ⟨g, 1, none⟩ v1).setCell ⟨g, 2, none⟩ v2).setCell ⟨g, 3, none⟩ v3).setCell ⟨g, 4, none⟩ v4).setCell ⟨g, 5, none⟩ v5).setCell ⟨g, 6, none⟩ v6).setCell ⟨g, 7, none⟩ v7).setCell ⟨g, 8, none⟩ v8).setCell ⟨g, 9, none⟩ v9).setCell ⟨g, 10, none⟩ v10).setCell ⟨g, 11, none⟩ v11).setCell ⟨g, 12, none⟩ v12).setCell ⟨g, 13, none⟩ v13) b n k :=
  (NdAt.setOther (NdAt.setOther (NdAt.setOther (NdAt.setOther (NdAt.setOther (NdAt.setOther (NdAt.setOther (NdAt.setOther (NdAt.setOther (NdAt.setOther (NdAt.setOther (NdAt.setOther (NdAt.setOther (NdAt.setOther h hg _ _) hg _ _) hg _ _) hg _ _) hg _ _) hg _ _) hg _ _) hg _ _) hg _ _) hg _ _) hg _ _) hg _ _) hg _ _) hg _ _)

set_option maxRecDepth 100000 in
set_option maxHeartbeats 4000000 in
theorem fields_2 (w : World) (n : Nd) (h2 : n.kind = 2) (hs : n.text.size ≤ 1000000) (A : Option Addr) (m c : Nat) : Calls Tryz.prog 49 #[.agg #[.int .i64 n.kind, .int .i64 n.num, .string n.text, .string n.ref.sh, .int .i64 n.ref.c, .int .i64 n.ref.r, .bool n.ref.ac, .bool n.ref.ar, .string n.to.sh, .int .i64 n.to.c, .int .i64 n.to.r, .bool n.to.ac, .bool n.to.ar, .slice A m c]] w fun e w' => e = .returned (.tuple #[.agg (nodA { Nd.zero with text := n.text } (.slice none 0 0)), .bool (printB (sb n.text))]) ∧ Below w.heap.size w w' := by
  have hsz : (w.alloc (.cells #[.int .i64 n.kind, .int .i64 n.num, .string n.text, .string n.ref.sh, .int .i64 n.ref.c, .int .i64 n.ref.r, .bool n.ref.ac, .bool n.ref.ar, .string n.to.sh, .int .i64 n.to.c, .int .i64 n.to.r, .bool n.to.ac, .bool n.to.ar, .slice A m c] 27)).heap.size = w.heap.size + 1 := by simp
  have hx : NdAt (w.alloc (.cells #[.int .i64 n.kind, .int .i64 n.num, .string n.text, .string n.ref.sh, .int .i64 n.ref.c, .int .i64 n.ref.r, .bool n.ref.ac, .bool n.ref.ar, .string n.to.sh, .int .i64 n.to.c, .int .i64 n.to.r, .bool n.to.ac, .bool n.to.ar, .slice A m c] 27)) w.heap.size n (.slice A m c) := NdAt.new w n _
  have hy : NdAt ((w.alloc (.cells #[.int .i64 n.kind, .int .i64 n.num, .string n.text, .string n.ref.sh, .int .i64 n.ref.c, .int .i64 n.ref.r, .bool n.ref.ac, .bool n.ref.ar, .string n.to.sh, .int .i64 n.to.c, .int .i64 n.to.r, .bool n.to.ac, .bool n.to.ar, .slice A m c] 27)).alloc (.cells zNod 27)) (w.heap.size + 1) Nd.zero (.slice none 0 0) := by rw [← hsz]; exact NdAt.new _ Nd.zero _
  have hx2 := hx.below ((Below.refl _ _).alloc (Nat.le_refl _) (.cells zNod 27)) hx.lt
  have HB := Lib.hid (((Below.refl w.heap.size w).alloc (Nat.le_refl _) (.cells #[.int .i64 n.kind, .int .i64 n.num, .string n.text, .string n.ref.sh, .int .i64 n.ref.c, .int .i64 n.ref.r, .bool n.ref.ac, .bool n.ref.ar, .string n.to.sh, .int .i64 n.to.c, .int .i64 n.to.r, .bool n.to.ac, .bool n.to.ar, .slice A m c] 27)).alloc (by simp) (.cells zNod 27))
  have hb2 : w.heap.size + 1 < ((w.alloc (.cells #[.int .i64 n.kind, .int .i64 n.num, .string n.text, .string n.ref.sh, .int .i64 n.ref.c, .int .i64 n.ref.r, .bool n.ref.ac, .bool n.ref.ar, .string n.to.sh, .int .i64 n.to.c, .int .i64 n.to.r, .bool n.to.ac, .bool n.to.ar, .slice A m c] 27)).alloc (.cells zNod 27)).heap.size := hy.lt
  have e1 : (n.kind == 1) = false := by rw [h2]; rfl
  have e2 : (n.kind == 2) = true := beq_iff_eq.2 h2
  clear h2
  go_enter Tryz.func49, Tryz.ntmps49
  go_upto_region 5 with (fail)
  generalize (w.alloc (.cells #[.int .i64 n.kind, .int .i64 n.num, .string n.text, .string n.ref.sh, .int .i64 n.ref.c, .int .i64 n.ref.r, .bool n.ref.ac, .bool n.ref.ar, .string n.to.sh, .int .i64 n.to.c, .int .i64 n.to.r, .bool n.to.ac, .bool n.to.ar, .slice A m c] 27)).alloc (.cells zNod 27) = w1 at hx2 hy HB hb2 ⊢
  obtain ⟨x0, x1, x2, x3, x4, x5, x6, x7, x8, x9, x10, x11, x12, x13⟩ := hx2.cells
  obtain ⟨y0, y1, y2, y3, y4, y5, y6, y7, y8, y9, y10, y11, y12, y13⟩ := hy.cells
  obtain ⟨f0, f1, f2, f3, f4, f5, f6, f7, f8, f9, f10, f11, f12, f13⟩ := hy.melts
  have HY := Lib.hid hy
  have HX := Lib.hid hx2
  clear hx hx2 hy
  have HT := Lib.hid (fun w => isText_any n.text w hs)
  go_region_with (go_at_call 81; ((with_reducible refine (HT.out _).mono ?_); rintro e w2 ⟨rfl, rfl⟩))
  all_goals go_wp2_with fail
  all_goals exact bodyPost_ret (out_nod (HY.out.put14 { Nd.zero with text := n.text } (.slice none 0 0)).drew _ _ _ 2 3 res_fields rfl rfl) rfl ⟨rfl, (below_set14 HB.out (by have := HB.out.size; omega) _ _ _ _ _ _ _ _ _ _ _ _ _ _).drew⟩

set_option maxRecDepth 100000 in
set_option maxHeartbeats 4000000 in
theorem fields_3a (w : World) (n : Nd) (h3 : n.kind = 3) (h0 : n.num = 0) (A : Option Addr) (m c : Nat) : Calls Tryz.prog 49 #[.agg #[.int .i64 n.kind, .int .i64 n.num, .string n.text, .string n.ref.sh, .int .i64 n.ref.c, .int .i64 n.ref.r, .bool n.ref.ac, .bool n.ref.ar, .string n.to.sh, .int .i64 n.to.c, .int .i64 n.to.r, .bool n.to.ac, .bool n.to.ar, .slice A m c]] w fun e w' => e = .returned (.tuple #[.agg (nodA { Nd.zero with num := n.num } (.slice none 0 0)), .bool true]) ∧ Below w.heap.size w w' := by
  have hsz : (w.alloc (.cells #[.int .i64 n.kind, .int .i64 n.num, .string n.text, .string n.ref.sh, .int .i64 n.ref.c, .int .i64 n.ref.r, .bool n.ref.ac, .bool n.ref.ar, .string n.to.sh, .int .i64 n.to.c, .int .i64 n.to.r, .bool n.to.ac, .bool n.to.ar, .slice A m c] 27)).heap.size = w.heap.size + 1 := by simp
  have hx : NdAt (w.alloc (.cells #[.int .i64 n.kind, .int .i64 n.num, .string n.text, .string n.ref.sh, .int .i64 n.ref.c, .int .i64 n.ref.r, .bool n.ref.ac, .bool n.ref.ar, .string n.to.sh, .int .i64 n.to.c, .int .i64 n.to.r, .bool n.to.ac, .bool n.to.ar, .slice A m c] 27)) w.heap.size n (.slice A m c) := NdAt.new w n _
  have hy : NdAt ((w.alloc (.cells #[.int .i64 n.kind, .int .i64 n.num, .string n.text, .string n.ref.sh, .int .i64 n.ref.c, .int .i64 n.ref.r, .bool n.ref.ac, .bool n.ref.ar, .string n.to.sh, .int .i64 n.to.c, .int .i64 n.to.r, .bool n.to.ac, .bool n.to.ar, .slice A m c] 27)).alloc (.cells zNod 27)) (w.heap.size + 1) Nd.zero (.slice none 0 0) := by rw [← hsz]; exact NdAt.new _ Nd.zero _
  have hx2 := hx.below ((Below.refl _ _).alloc (Nat.le_refl _) (.cells zNod 27)) hx.lt
  have HB := Lib.hid (((Below.refl w.heap.size w).alloc (Nat.le_refl _) (.cells #[.int .i64 n.kind, .int .i64 n.num, .string n.text, .string n.ref.sh, .int .i64 n.ref.c, .int .i64 n.ref.r, .bool n.ref.ac, .bool n.ref.ar, .string n.to.sh, .int .i64 n.to.c, .int .i64 n.to.r, .bool n.to.ac, .bool n.to.ar, .slice A m c] 27)).alloc (by simp) (.cells zNod 27))
  have hb2 : w.heap.size + 1 < ((w.alloc (.cells #[.int .i64 n.kind, .int .i64 n.num, .string n.text, .string n.ref.sh, .int .i64 n.ref.c, .int .i64 n.ref.r, .bool n.ref.ac, .bool n.ref.ar, .string n.to.sh, .int .i64 n.to.c, .int .i64 n.to.r, .bool n.to.ac, .bool n.to.ar, .slice A m c] 27)).alloc (.cells zNod 27)).heap.size := hy.lt
  have e1 : (n.kind == 1) = false := by rw [h3]; rfl
  have e2 : (n.kind == 2) = false := by rw [h3]; rfl
  have e3 : (n.kind == 3) = true := beq_iff_eq.2 h3
  clear h3
  have q0 : (n.num == 0) = true := beq_iff_eq.2 h0
  clear h0
  go_enter Tryz.func49, Tryz.ntmps49
  go_upto_region 7 with (fail)
  generalize (w.alloc (.cells #[.int .i64 n.kind, .int .i64 n.num, .string n.text, .string n.ref.sh, .int .i64 n.ref.c, .int .i64 n.ref.r, .bool n.ref.ac, .bool n.ref.ar, .string n.to.sh, .int .i64 n.to.c, .int .i64 n.to.r, .bool n.to.ac, .bool n.to.ar, .slice A m c] 27)).alloc (.cells zNod 27) = w1 at hx2 hy HB hb2 ⊢
  obtain ⟨x0, x1, x2, x3, x4, x5, x6, x7, x8, x9, x10, x11, x12, x13⟩ := hx2.cells
  obtain ⟨y0, y1, y2, y3, y4, y5, y6, y7, y8, y9, y10, y11, y12, y13⟩ := hy.cells
  obtain ⟨f0, f1, f2, f3, f4, f5, f6, f7, f8, f9, f10, f11, f12, f13⟩ := hy.melts
  have HY := Lib.hid hy
  have HX := Lib.hid hx2
  clear hx hx2 hy
  go_region
  all_goals go_wp2_with fail
  all_goals exact bodyPost_ret (out_nod (HY.out.put14 { Nd.zero with num := n.num } (.slice none 0 0)).drew _ _ _ 2 3 res_fields rfl rfl) rfl ⟨rfl, (below_set14 HB.out (by have := HB.out.size; omega) _ _ _ _ _ _ _ _ _ _ _ _ _ _).drew⟩

set_option maxRecDepth 100000 in
set_option maxHeartbeats 4000000 in
theorem fields_3b (w : World) (n : Nd) (h3 : n.kind = 3) (h0 : n.num = 1) (A : Option Addr) (m c : Nat) : Calls Tryz.prog 49 #[.agg #[.int .i64 n.kind, .int .i64 n.num, .string n.text, .string n.ref.sh, .int .i64 n.ref.c, .int .i64 n.ref.r, .bool n.ref.ac, .bool n.ref.ar, .string n.to.sh, .int .i64 n.to.c, .int .i64 n.to.r, .bool n.to.ac, .bool n.to.ar, .slice A m c]] w fun e w' => e = .returned (.tuple #[.agg (nodA { Nd.zero with num := n.num } (.slice none 0 0)), .bool true]) ∧ Below w.heap.size w w' := by
  have hsz : (w.alloc (.cells #[.int .i64 n.kind, .int .i64 n.num, .string n.text, .string n.ref.sh, .int .i64 n.ref.c, .int .i64 n.ref.r, .bool n.ref.ac, .bool n.ref.ar, .string n.to.sh, .int .i64 n.to.c, .int .i64 n.to.r, .bool n.to.ac, .bool n.to.ar, .slice A m c] 27)).heap.size = w.heap.size + 1 := by simp
  have hx : NdAt (w.alloc (.cells #[.int .i64 n.kind, .int .i64 n.num, .string n.text, .string n.ref.sh, .int .i64 n.ref.c, .int .i64 n.ref.r, .bool n.ref.ac, .bool n.ref.ar, .string n.to.sh, .int .i64 n.to.c, .int .i64 n.to.r, .bool n.to.ac, .bool n.to.ar, .slice A m c] 27)) w.heap.size n (.slice A m c) := NdAt.new w n _
  have hy : NdAt ((w.alloc (.cells #[.int .i64 n.kind, .int .i64 n.num, .string n.text, .string n.ref.sh, .int .i64 n.ref.c, .int .i64 n.ref.r, .bool n.ref.ac, .bool n.ref.ar, .string n.to.sh, .int .i64 n.to.c, .int .i64 n.to.r, .bool n.to.ac, .bool n.to.ar, .slice A m c] 27)).alloc (.cells zNod 27)) (w.heap.size + 1) Nd.zero (.slice none 0 0) := by rw [← hsz]; exact NdAt.new _ Nd.zero _
  have hx2 := hx.below ((Below.refl _ _).alloc (Nat.le_refl _) (.cells zNod 27)) hx.lt
  have HB := Lib.hid (((Below.refl w.heap.size w).alloc (Nat.le_refl _) (.cells #[.int .i64 n.kind, .int .i64 n.num, .string n.text, .string n.ref.sh, .int .i64 n.ref.c, .int .i64 n.ref.r, .bool n.ref.ac, .bool n.ref.ar, .string n.to.sh, .int .i64 n.to.c, .int .i64 n.to.r, .bool n.to.ac, .bool n.to.ar, .slice A m c] 27)).alloc (by simp) (.cells zNod 27))
  have hb2 : w.heap.size + 1 < ((w.alloc (.cells #[.int .i64 n.kind, .int .i64 n.num, .string n.text, .string n.ref.sh, .int .i64 n.ref.c, .int .i64 n.ref.r, .bool n.ref.ac, .bool n.ref.ar, .string n.to.sh, .int .i64 n.to.c, .int .i64 n.to.r, .bool n.to.ac, .bool n.to.ar, .slice A m c] 27)).alloc (.cells zNod 27)).heap.size := hy.lt
  have e1 : (n.kind == 1) = false := by rw [h3]; rfl
  have e2 : (n.kind == 2) = false := by rw [h3]; rfl
  have e3 : (n.kind == 3) = true := beq_iff_eq.2 h3
  clear h3
  have q0 : (n.num == 0) = false := by rw [h0]; rfl
  have q1 : (n.num == 1) = true := beq_iff_eq.2 h0
  clear h0
  go_enter Tryz.func49, Tryz.ntmps49
  go_upto_region 7 with (fail)
  generalize (w.alloc (.cells #[.int .i64 n.kind, .int .i64 n.num, .string n.text, .string n.ref.sh, .int .i64 n.ref.c, .int .i64 n.ref.r, .bool n.ref.ac, .bool n.ref.ar, .string n.to.sh, .int .i64 n.to.c, .int .i64 n.to.r, .bool n.to.ac, .bool n.to.ar, .slice A m c] 27)).alloc (.cells zNod 27) = w1 at hx2 hy HB hb2 ⊢
  obtain ⟨x0, x1, x2, x3, x4, x5, x6, x7, x8, x9, x10, x11, x12, x13⟩ := hx2.cells
  obtain ⟨y0, y1, y2, y3, y4, y5, y6, y7, y8, y9, y10, y11, y12, y13⟩ := hy.cells
  obtain ⟨f0, f1, f2, f3, f4, f5, f6, f7, f8, f9, f10, f11, f12, f13⟩ := hy.melts
  have HY := Lib.hid hy
  have HX := Lib.hid hx2
  clear hx hx2 hy
  go_region
  all_goals go_wp2_with fail
  all_goals exact bodyPost_ret (out_nod (HY.out.put14 { Nd.zero with num := n.num } (.slice none 0 0)).drew _ _ _ 2 3 res_fields rfl rfl) rfl ⟨rfl, (below_set14 HB.out (by have := HB.out.size; omega) _ _ _ _ _ _ _ _ _ _ _ _ _ _).drew⟩

set_option maxRecDepth 100000 in
set_option maxHeartbeats 4000000 in
theorem fields_3c (w : World) (n : Nd) (h3 : n.kind = 3) (h0 : ¬ (n.num = 0 ∨ n.num = 1)) (A : Option Addr) (m c : Nat) : Calls Tryz.prog 49 #[.agg #[.int .i64 n.kind, .int .i64 n.num, .string n.text, .string n.ref.sh, .int .i64 n.ref.c, .int .i64 n.ref.r, .bool n.ref.ac, .bool n.ref.ar, .string n.to.sh, .int .i64 n.to.c, .int .i64 n.to.r, .bool n.to.ac, .bool n.to.ar, .slice A m c]] w fun e w' => e = .returned (.tuple #[.agg (nodA { Nd.zero with num := n.num } (.slice none 0 0)), .bool false]) ∧ Below w.heap.size w w' := by
  have hsz : (w.alloc (.cells #[.int .i64 n.kind, .int .i64 n.num, .string n.text, .string n.ref.sh, .int .i64 n.ref.c, .int .i64 n.ref.r, .bool n.ref.ac, .bool n.ref.ar, .string n.to.sh, .int .i64 n.to.c, .int .i64 n.to.r, .bool n.to.ac, .bool n.to.ar, .slice A m c] 27)).heap.size = w.heap.size + 1 := by simp
  have hx : NdAt (w.alloc (.cells #[.int .i64 n.kind, .int .i64 n.num, .string n.text, .string n.ref.sh, .int .i64 n.ref.c, .int .i64 n.ref.r, .bool n.ref.ac, .bool n.ref.ar, .string n.to.sh, .int .i64 n.to.c, .int .i64 n.to.r, .bool n.to.ac, .bool n.to.ar, .slice A m c] 27)) w.heap.size n (.slice A m c) := NdAt.new w n _
  have hy : NdAt ((w.alloc (.cells #[.int .i64 n.kind, .int .i64 n.num, .string n.text, .string n.ref.sh, .int .i64 n.ref.c, .int .i64 n.ref.r, .bool n.ref.ac, .bool n.ref.ar, .string n.to.sh, .int .i64 n.to.c, .int .i64 n.to.r, .bool n.to.ac, .bool n.to.ar, .slice A m c] 27)).alloc (.cells zNod 27)) (w.heap.size + 1) Nd.zero (.slice none 0 0) := by rw [← hsz]; exact NdAt.new _ Nd.zero _
  have hx2 := hx.below ((Below.refl _ _).alloc (Nat.le_refl _) (.cells zNod 27)) hx.lt
  have HB := Lib.hid (((Below.refl w.heap.size w).alloc (Nat.le_refl _) (.cells #[.int .i64 n.kind, .int .i64 n.num, .string n.text, .string n.ref.sh, .int .i64 n.ref.c, .int .i64 n.ref.r, .bool n.ref.ac, .bool n.ref.ar, .string n.to.sh, .int .i64 n.to.c, .int .i64 n.to.r, .bool n.to.ac, .bool n.to.ar, .slice A m c] 27)).alloc (by simp) (.cells zNod 27))
  have hb2 : w.heap.size + 1 < ((w.alloc (.cells #[.int .i64 n.kind, .int .i64 n.num, .string n.text, .string n.ref.sh, .int .i64 n.ref.c, .int .i64 n.ref.r, .bool n.ref.ac, .bool n.ref.ar, .string n.to.sh, .int .i64 n.to.c, .int .i64 n.to.r, .bool n.to.ac, .bool n.to.ar, .slice A m c] 27)).alloc (.cells zNod 27)).heap.size := hy.lt
  have e1 : (n.kind == 1) = false := by rw [h3]; rfl
  have e2 : (n.kind == 2) = false := by rw [h3]; rfl
  have e3 : (n.kind == 3) = true := beq_iff_eq.2 h3
  clear h3
  have q0 : (n.num == 0) = false := by rw [beq_eq_false_iff_ne]; omega
  have q1 : (n.num == 1) = false := by rw [beq_eq_false_iff_ne]; omega
  clear h0
  go_enter Tryz.func49, Tryz.ntmps49
  go_upto_region 7 with (fail)
  generalize (w.alloc (.cells #[.int .i64 n.kind, .int .i64 n.num, .string n.text, .string n.ref.sh, .int .i64 n.ref.c, .int .i64 n.ref.r, .bool n.ref.ac, .bool n.ref.ar, .string n.to.sh, .int .i64 n.to.c, .int .i64 n.to.r, .bool n.to.ac, .bool n.to.ar, .slice A m c] 27)).alloc (.cells zNod 27) = w1 at hx2 hy HB hb2 ⊢
  obtain ⟨x0, x1, x2, x3, x4, x5, x6, x7, x8, x9, x10, x11, x12, x13⟩ := hx2.cells
  obtain ⟨y0, y1, y2, y3, y4, y5, y6, y7, y8, y9, y10, y11, y12, y13⟩ := hy.cells
  obtain ⟨f0, f1, f2, f3, f4, f5, f6, f7, f8, f9, f10, f11, f12, f13⟩ := hy.melts
  have HY := Lib.hid hy
  have HX := Lib.hid hx2
  clear hx hx2 hy
  go_region
  all_goals go_wp2_with fail
  all_goals exact bodyPost_ret (out_nod (HY.out.put14 { Nd.zero with num := n.num } (.slice none 0 0)).drew _ _ _ 2 3 res_fields rfl rfl) rfl ⟨rfl, (below_set14 HB.out (by have := HB.out.size; omega) _ _ _ _ _ _ _ _ _ _ _ _ _ _).drew⟩

set_option maxRecDepth 100000 in
set_option maxHeartbeats 4000000 in
theorem fields_5 (w : World) (n : Nd) (h5 : n.kind = 5) (hs : n.ref.sh.size ≤ 1000000) (A : Option Addr) (m c : Nat) : Calls Tryz.prog 49 #[.agg #[.int .i64 n.kind, .int .i64 n.num, .string n.text, .string n.ref.sh, .int .i64 n.ref.c, .int .i64 n.ref.r, .bool n.ref.ac, .bool n.ref.ar, .string n.to.sh, .int .i64 n.to.c, .int .i64 n.to.r, .bool n.to.ac, .bool n.to.ar, .slice A m c]] w fun e w' => e = .returned (.tuple #[.agg (nodA { Nd.zero with ref := n.ref } (.slice none 0 0)), .bool (mayRf n.ref)]) ∧ Below w.heap.size w w' := by
  have hsz : (w.alloc (.cells #[.int .i64 n.kind, .int .i64 n.num, .string n.text, .string n.ref.sh, .int .i64 n.ref.c, .int .i64 n.ref.r, .bool n.ref.ac, .bool n.ref.ar, .string n.to.sh, .int .i64 n.to.c, .int .i64 n.to.r, .bool n.to.ac, .bool n.to.ar, .slice A m c] 27)).heap.size = w.heap.size + 1 := by simp
  have hx : NdAt (w.alloc (.cells #[.int .i64 n.kind, .int .i64 n.num, .string n.text, .string n.ref.sh, .int .i64 n.ref.c, .int .i64 n.ref.r, .bool n.ref.ac, .bool n.ref.ar, .string n.to.sh, .int .i64 n.to.c, .int .i64 n.to.r, .bool n.to.ac, .bool n.to.ar, .slice A m c] 27)) w.heap.size n (.slice A m c) := NdAt.new w n _
  have hy : NdAt ((w.alloc (.cells #[.int .i64 n.kind, .int .i64 n.num, .string n.text, .string n.ref.sh, .int .i64 n.ref.c, .int .i64 n.ref.r, .bool n.ref.ac, .bool n.ref.ar, .string n.to.sh, .int .i64 n.to.c, .int .i64 n.to.r, .bool n.to.ac, .bool n.to.ar, .slice A m c] 27)).alloc (.cells zNod 27)) (w.heap.size + 1) Nd.zero (.slice none 0 0) := by rw [← hsz]; exact NdAt.new _ Nd.zero _
  have hx2 := hx.below ((Below.refl _ _).alloc (Nat.le_refl _) (.cells zNod 27)) hx.lt
  have HB := Lib.hid (((Below.refl w.heap.size w).alloc (Nat.le_refl _) (.cells #[.int .i64 n.kind, .int .i64 n.num, .string n.text, .string n.ref.sh, .int .i64 n.ref.c, .int .i64 n.ref.r, .bool n.ref.ac, .bool n.ref.ar, .string n.to.sh, .int .i64 n.to.c, .int .i64 n.to.r, .bool n.to.ac, .bool n.to.ar, .slice A m c] 27)).alloc (by simp) (.cells zNod 27))
  have hb2 : w.heap.size + 1 < ((w.alloc (.cells #[.int .i64 n.kind, .int .i64 n.num, .string n.text, .string n.ref.sh, .int .i64 n.ref.c, .int .i64 n.ref.r, .bool n.ref.ac, .bool n.ref.ar, .string n.to.sh, .int .i64 n.to.c, .int .i64 n.to.r, .bool n.to.ac, .bool n.to.ar, .slice A m c] 27)).alloc (.cells zNod 27)).heap.size := hy.lt
  have e1 : (n.kind == 1) = false := by rw [h5]; rfl
  have e2 : (n.kind == 2) = false := by rw [h5]; rfl
  have e3 : (n.kind == 3) = false := by rw [h5]; rfl
  have e5 : (n.kind == 5) = true := beq_iff_eq.2 h5
  clear h5
  go_enter Tryz.func49, Tryz.ntmps49
  go_upto_region 9 with (fail)
  generalize (w.alloc (.cells #[.int .i64 n.kind, .int .i64 n.num, .string n.text, .string n.ref.sh, .int .i64 n.ref.c, .int .i64 n.ref.r, .bool n.ref.ac, .bool n.ref.ar, .string n.to.sh, .int .i64 n.to.c, .int .i64 n.to.r, .bool n.to.ac, .bool n.to.ar, .slice A m c] 27)).alloc (.cells zNod 27) = w1 at hx2 hy HB hb2 ⊢
  obtain ⟨x0, x1, x2, x3, x4, x5, x6, x7, x8, x9, x10, x11, x12, x13⟩ := hx2.cells
  obtain ⟨y0, y1, y2, y3, y4, y5, y6, y7, y8, y9, y10, y11, y12, y13⟩ := hy.cells
  obtain ⟨f0, f1, f2, f3, f4, f5, f6, f7, f8, f9, f10, f11, f12, f13⟩ := hy.melts
  have HY := Lib.hid hy
  have HX := Lib.hid hx2
  clear hx hx2 hy
  have HT := Lib.hid (fun w => may_any n.ref.sh n.ref.c n.ref.r n.ref.ac n.ref.ar w hs)
  go_region_held3 (fun w' => w'.cell? ⟨w.heap.size, 3, none⟩ = some (.string n.ref.sh) ∧ w'.cell? ⟨w.heap.size, 4, none⟩ = some (.int .i64 n.ref.c) ∧ w'.cell? ⟨w.heap.size, 5, none⟩ = some (.int .i64 n.ref.r) ∧ w'.cell? ⟨w.heap.size, 6, none⟩ = some (.bool n.ref.ac) ∧ w'.cell? ⟨w.heap.size, 7, none⟩ = some (.bool n.ref.ar)) (go_keep) (first | (go_at_call 82; ((with_reducible refine (HT.out _).mono ?_); rintro e w2 ⟨rfl, h1⟩; have HY2 := Lib.hid (HY.out.drew.below h1 HY.out.lt); have HX2 := Lib.hid (HX.out.drew.below h1 HX.out.lt); have HB2 := Lib.hid (HB.out.drew.trans (h1.mono HB.out.size)); obtain ⟨z0, z1, z2, z3, z4, z5, z6, z7, z8, z9, z10, z11, z12, z13⟩ := HY2.out.cells; obtain ⟨g0, g1, g2, g3, g4, g5, g6, g7, g8, g9, g10, g11, g12, g13⟩ := HY2.out.melts; obtain ⟨t0, t1, t2, t3, t4, t5, t6, t7, t8, t9, t10, t11, t12, t13⟩ := HX2.out.cells; clear h1)))
  all_goals go_wp2_with fail
  all_goals exact bodyPost_ret (out_nod (HY2.out.put14 { Nd.zero with ref := n.ref } (.slice none 0 0)) _ _ _ 2 3 res_fields rfl rfl) rfl ⟨rfl, below_set14 HB2.out (by have := HB.out.size; omega) _ _ _ _ _ _ _ _ _ _ _ _ _ _⟩

set_option maxRecDepth 100000 in
set_option maxHeartbeats 4000000 in
theorem fields_7 (w : World) (n : Nd) (h7 : n.kind = 7) (hv : Vars w) (A : Option Addr) (m c : Nat) : Calls Tryz.prog 49 #[.agg #[.int .i64 n.kind, .int .i64 n.num, .string n.text, .string n.ref.sh, .int .i64 n.ref.c, .int .i64 n.ref.r, .bool n.ref.ac, .bool n.ref.ar, .string n.to.sh, .int .i64 n.to.c, .int .i64 n.to.r, .bool n.to.ac, .bool n.to.ar, .slice A m c]] w fun e w' => e = .returned (.tuple #[.agg (nodA { Nd.zero with text := n.text } (.slice none 0 0)), .bool (callB n.text)]) ∧ Below w.heap.size w w' := by
  have hsz : (w.alloc (.cells #[.int .i64 n.kind, .int .i64 n.num, .string n.text, .string n.ref.sh, .int .i64 n.ref.c, .int .i64 n.ref.r, .bool n.ref.ac, .bool n.ref.ar, .string n.to.sh, .int .i64 n.to.c, .int .i64 n.to.r, .bool n.to.ac, .bool n.to.ar, .slice A m c] 27)).heap.size = w.heap.size + 1 := by simp
  have hx : NdAt (w.alloc (.cells #[.int .i64 n.kind, .int .i64 n.num, .string n.text, .string n.ref.sh, .int .i64 n.ref.c, .int .i64 n.ref.r, .bool n.ref.ac, .bool n.ref.ar, .string n.to.sh, .int .i64 n.to.c, .int .i64 n.to.r, .bool n.to.ac, .bool n.to.ar, .slice A m c] 27)) w.heap.size n (.slice A m c) := NdAt.new w n _
  have hy : NdAt ((w.alloc (.cells #[.int .i64 n.kind, .int .i64 n.num, .string n.text, .string n.ref.sh, .int .i64 n.ref.c, .int .i64 n.ref.r, .bool n.ref.ac, .bool n.ref.ar, .string n.to.sh, .int .i64 n.to.c, .int .i64 n.to.r, .bool n.to.ac, .bool n.to.ar, .slice A m c] 27)).alloc (.cells zNod 27)) (w.heap.size + 1) Nd.zero (.slice none 0 0) := by rw [← hsz]; exact NdAt.new _ Nd.zero _
  have hx2 := hx.below ((Below.refl _ _).alloc (Nat.le_refl _) (.cells zNod 27)) hx.lt
  have HB := Lib.hid (((Below.refl w.heap.size w).alloc (Nat.le_refl _) (.cells #[.int .i64 n.kind, .int .i64 n.num, .string n.text, .string n.ref.sh, .int .i64 n.ref.c, .int .i64 n.ref.r, .bool n.ref.ac, .bool n.ref.ar, .string n.to.sh, .int .i64 n.to.c, .int .i64 n.to.r, .bool n.to.ac, .bool n.to.ar, .slice A m c] 27)).alloc (by simp) (.cells zNod 27))
  have hb2 : w.heap.size + 1 < ((w.alloc (.cells #[.int .i64 n.kind, .int .i64 n.num, .string n.text, .string n.ref.sh, .int .i64 n.ref.c, .int .i64 n.ref.r, .bool n.ref.ac, .bool n.ref.ar, .string n.to.sh, .int .i64 n.to.c, .int .i64 n.to.r, .bool n.to.ac, .bool n.to.ar, .slice A m c] 27)).alloc (.cells zNod 27)).heap.size := hy.lt
  have e1 : (n.kind == 1) = false := by rw [h7]; rfl
  have e2 : (n.kind == 2) = false := by rw [h7]; rfl
  have e3 : (n.kind == 3) = false := by rw [h7]; rfl
  have e5 : (n.kind == 5) = false := by rw [h7]; rfl
  have e6 : (n.kind == 6) = false := by rw [h7]; rfl
  have e7 : (n.kind == 7) = true := beq_iff_eq.2 h7
  clear h7
  have HVV := Lib.hid hv; clear hv
  go_enter Tryz.func49, Tryz.ntmps49
  go_upto_region 13 with (fail)
  generalize (w.alloc (.cells #[.int .i64 n.kind, .int .i64 n.num, .string n.text, .string n.ref.sh, .int .i64 n.ref.c, .int .i64 n.ref.r, .bool n.ref.ac, .bool n.ref.ar, .string n.to.sh, .int .i64 n.to.c, .int .i64 n.to.r, .bool n.to.ac, .bool n.to.ar, .slice A m c] 27)).alloc (.cells zNod 27) = w1 at hx2 hy HB hb2 ⊢
  obtain ⟨x0, x1, x2, x3, x4, x5, x6, x7, x8, x9, x10, x11, x12, x13⟩ := hx2.cells
  obtain ⟨y0, y1, y2, y3, y4, y5, y6, y7, y8, y9, y10, y11, y12, y13⟩ := hy.cells
  obtain ⟨f0, f1, f2, f3, f4, f5, f6, f7, f8, f9, f10, f11, f12, f13⟩ := hy.melts
  have HY := Lib.hid hy
  have HX := Lib.hid hx2
  clear hx hx2 hy
  have HT := Lib.hid (fun wr (hb : Below w.heap.size w wr) => isName5_any n.text wr (HVV.out.below hb))
  go_region_held3 (fun w' => w'.cell? ⟨w.heap.size, 2, none⟩ = some (.string n.text)) (go_keep) (first | (go_at_call 84; ((with_reducible refine (HT.out _ HB.out.drew).mono ?_); rintro e w2 ⟨rfl, h1⟩; have HY2 := Lib.hid (HY.out.drew.below h1 HY.out.lt); have HX2 := Lib.hid (HX.out.drew.below h1 HX.out.lt); have HB2 := Lib.hid (HB.out.drew.trans (h1.mono HB.out.size)); clear h1; obtain ⟨z0, z1, z2, z3, z4, z5, z6, z7, z8, z9, z10, z11, z12, z13⟩ := HY2.out.cells; obtain ⟨g0, g1, g2, g3, g4, g5, g6, g7, g8, g9, g10, g11, g12, g13⟩ := HY2.out.melts; obtain ⟨t0, t1, t2, t3, t4, t5, t6, t7, t8, t9, t10, t11, t12, t13⟩ := HX2.out.cells)))
  all_goals go_wp2_with fail
  all_goals exact bodyPost_ret (out_nod (HY2.out.put14 { Nd.zero with text := n.text } (.slice none 0 0)) _ _ _ 2 3 res_fields rfl rfl) rfl ⟨rfl, below_set14 HB2.out (by have := HB.out.size; omega) _ _ _ _ _ _ _ _ _ _ _ _ _ _⟩

set_option maxRecDepth 100000 in
set_option maxHeartbeats 4000000 in
theorem fields_6a (w : World) (n : Nd) (h6 : n.kind = 6) (hs : n.ref.sh.size ≤ 1000000) (_ht : n.to.sh.size ≤ 1000000) (q1 : mayRf n.ref = false) (A : Option Addr) (m c : Nat) : Calls Tryz.prog 49 #[.agg #[.int .i64 n.kind, .int .i64 n.num, .string n.text, .string n.ref.sh, .int .i64 n.ref.c, .int .i64 n.ref.r, .bool n.ref.ac, .bool n.ref.ar, .string n.to.sh, .int .i64 n.to.c, .int .i64 n.to.r, .bool n.to.ac, .bool n.to.ar, .slice A m c]] w fun e w' => e = .returned (.tuple #[.agg (nodA ⟨0, 0, ⟨#[]⟩, n.ref, n.to, []⟩ (.slice none 0 0)), .bool false]) ∧ Below w.heap.size w w' := by
  have hsz : (w.alloc (.cells #[.int .i64 n.kind, .int .i64 n.num, .string n.text, .string n.ref.sh, .int .i64 n.ref.c, .int .i64 n.ref.r, .bool n.ref.ac, .bool n.ref.ar, .string n.to.sh, .int .i64 n.to.c, .int .i64 n.to.r, .bool n.to.ac, .bool n.to.ar, .slice A m c] 27)).heap.size = w.heap.size + 1 := by simp
  have hx : NdAt (w.alloc (.cells #[.int .i64 n.kind, .int .i64 n.num, .string n.text, .string n.ref.sh, .int .i64 n.ref.c, .int .i64 n.ref.r, .bool n.ref.ac, .bool n.ref.ar, .string n.to.sh, .int .i64 n.to.c, .int .i64 n.to.r, .bool n.to.ac, .bool n.to.ar, .slice A m c] 27)) w.heap.size n (.slice A m c) := NdAt.new w n _
  have hy : NdAt ((w.alloc (.cells #[.int .i64 n.kind, .int .i64 n.num, .string n.text, .string n.ref.sh, .int .i64 n.ref.c, .int .i64 n.ref.r, .bool n.ref.ac, .bool n.ref.ar, .string n.to.sh, .int .i64 n.to.c, .int .i64 n.to.r, .bool n.to.ac, .bool n.to.ar, .slice A m c] 27)).alloc (.cells zNod 27)) (w.heap.size + 1) Nd.zero (.slice none 0 0) := by rw [← hsz]; exact NdAt.new _ Nd.zero _
  have hx2 := hx.below ((Below.refl _ _).alloc (Nat.le_refl _) (.cells zNod 27)) hx.lt
  have HB := Lib.hid (((Below.refl w.heap.size w).alloc (Nat.le_refl _) (.cells #[.int .i64 n.kind, .int .i64 n.num, .string n.text, .string n.ref.sh, .int .i64 n.ref.c, .int .i64 n.ref.r, .bool n.ref.ac, .bool n.ref.ar, .string n.to.sh, .int .i64 n.to.c, .int .i64 n.to.r, .bool n.to.ac, .bool n.to.ar, .slice A m c] 27)).alloc (by simp) (.cells zNod 27))
  have hb2 : w.heap.size + 1 < ((w.alloc (.cells #[.int .i64 n.kind, .int .i64 n.num, .string n.text, .string n.ref.sh, .int .i64 n.ref.c, .int .i64 n.ref.r, .bool n.ref.ac, .bool n.ref.ar, .string n.to.sh, .int .i64 n.to.c, .int .i64 n.to.r, .bool n.to.ac, .bool n.to.ar, .slice A m c] 27)).alloc (.cells zNod 27)).heap.size := hy.lt
  have e1 : (n.kind == 1) = false := by rw [h6]; rfl
  have e2 : (n.kind == 2) = false := by rw [h6]; rfl
  have e3 : (n.kind == 3) = false := by rw [h6]; rfl
  have e5 : (n.kind == 5) = false := by rw [h6]; rfl
  have e6 : (n.kind == 6) = true := beq_iff_eq.2 h6
  clear h6
  go_enter Tryz.func49, Tryz.ntmps49
  go_upto_region 11 with (fail)
  generalize (w.alloc (.cells #[.int .i64 n.kind, .int .i64 n.num, .string n.text, .string n.ref.sh, .int .i64 n.ref.c, .int .i64 n.ref.r, .bool n.ref.ac, .bool n.ref.ar, .string n.to.sh, .int .i64 n.to.c, .int .i64 n.to.r, .bool n.to.ac, .bool n.to.ar, .slice A m c] 27)).alloc (.cells zNod 27) = w1 at hx2 hy HB hb2 ⊢
  obtain ⟨x0, x1, x2, x3, x4, x5, x6, x7, x8, x9, x10, x11, x12, x13⟩ := hx2.cells
  obtain ⟨y0, y1, y2, y3, y4, y5, y6, y7, y8, y9, y10, y11, y12, y13⟩ := hy.cells
  obtain ⟨f0, f1, f2, f3, f4, f5, f6, f7, f8, f9, f10, f11, f12, f13⟩ := hy.melts
  have HY := Lib.hid hy
  have HX := Lib.hid hx2
  clear hx hx2 hy
  have HT1 := Lib.hid (show ∀ w, Calls Tryz.prog 82 #[.agg #[.string n.ref.sh, .int .i64 n.ref.c, .int .i64 n.ref.r, .bool n.ref.ac, .bool n.ref.ar]] w fun e w' => e = .returned (.bool false) ∧ Below w.heap.size w w' from fun w => by rw [← q1]; exact may_any n.ref.sh n.ref.c n.ref.r n.ref.ac n.ref.ar w hs)
  refine wp_region_held_drew (S := fun W => NdAt W w.heap.size n (.slice A m c)) (by kernel_rfl) HX.out.drew (fun _ => ?_)
  show wpAnyH _ _ _ _ _ 22 #[false, false, false, false, false, false, false, false, false, false, false, false, false, false, false, false, false, false, false, false, false, false] _ _
  refine held_take (i := 0) (d := some 45) (fuel := 21) (listed' := #[true, false, false, false, false, false, false, false, false, false, false, false, false, false, false, false, false, false, false, false, false, false]) (v := ?_) rfl rfl (by kernel_rfl) (by kernel_rfl) (by kernel_rfl) rfl (fun _ _ _ h => h) (by rfl) ?_ HX.out.drew ?_
  rotate_left
  · (intro wS hSw; go_simp; try (with_reducible rfl))
  simp only [Act.put, List.setIfInBounds_toArray, List.set_cons_zero, List.set_cons_succ]
  refine held_take (i := 1) (d := some 46) (fuel := 20) (listed' := #[true, true, false, false, false, false, false, false, false, false, false, false, false, false, false, false, false, false, false, false, false, false]) (v := ?_) rfl rfl (by kernel_rfl) (by kernel_rfl) (by kernel_rfl) rfl (fun _ _ _ h => h) (by rfl) ?_ HX.out.drew ?_
  rotate_left
  · (intro wS hSw; have hz := NdAt.cells hSw; go_simp; try (with_reducible rfl))
  simp only [Act.put, List.setIfInBounds_toArray, List.set_cons_zero, List.set_cons_succ]
  refine held_take (i := 2) (d := some 47) (fuel := 19) (listed' := #[true, true, true, false, false, false, false, false, false, false, false, false, false, false, false, false, false, false, false, false, false, false]) (v := ?_) rfl rfl (by kernel_rfl) (by kernel_rfl) (by kernel_rfl) rfl (fun _ _ _ h => h) (by rfl) ?_ HX.out.drew ?_
  rotate_left
  · (intro wS hSw; go_simp; try (with_reducible rfl))
  simp only [Act.put, List.setIfInBounds_toArray, List.set_cons_zero, List.set_cons_succ]
  refine held_take (i := 3) (d := some 48) (fuel := 18) (listed' := #[true, true, true, true, false, false, false, false, false, false, false, false, false, false, false, false, false, false, false, false, false, false]) (v := ?_) rfl rfl (by kernel_rfl) (by kernel_rfl) (by kernel_rfl) rfl (fun _ _ _ h => h) (by rfl) ?_ HX.out.drew ?_
  rotate_left
  · (intro wS hSw; have hz := NdAt.cells hSw; go_simp; try (with_reducible rfl))
  simp only [Act.put, List.setIfInBounds_toArray, List.set_cons_zero, List.set_cons_succ]
  refine held_take (i := 4) (d := some 49) (fuel := 17) (listed' := #[true, true, true, true, true, false, false, false, false, false, false, false, false, false, false, false, false, false, false, false, false, false]) (v := ?_) rfl rfl (by kernel_rfl) (by kernel_rfl) (by kernel_rfl) rfl (fun _ _ _ h => h) (by rfl) ?_ HX.out.drew ?_
  rotate_left
  · (intro wS hSw; go_simp; try (with_reducible rfl))
  simp only [Act.put, List.setIfInBounds_toArray, List.set_cons_zero, List.set_cons_succ]
  refine held_take (i := 5) (d := some 50) (fuel := 16) (listed' := #[true, true, true, true, true, true, false, false, false, false, false, false, false, false, false, false, false, false, false, false, false, false]) (v := ?_) rfl rfl (by kernel_rfl) (by kernel_rfl) (by kernel_rfl) rfl (fun _ _ _ h => h) (by rfl) ?_ HX.out.drew ?_
  rotate_left
  · (intro wS hSw; go_simp; try (with_reducible rfl))
  simp only [Act.put, List.setIfInBounds_toArray, List.set_cons_zero, List.set_cons_succ]
  refine held_take (i := 6) (d := some 51) (fuel := 15) (listed' := #[true, true, true, true, true, true, true, false, false, false, false, false, false, false, false, false, false, false, false, false, false, false]) (v := ?_) rfl rfl (by kernel_rfl) (by kernel_rfl) (by kernel_rfl) rfl (fun _ _ _ h => h) (by rfl) ?_ HX.out.drew ?_
  rotate_left
  · (intro wS hSw; have hz := NdAt.cells hSw; go_simp; try (with_reducible rfl))
  simp only [Act.put, List.setIfInBounds_toArray, List.set_cons_zero, List.set_cons_succ]
  refine held_one (i := 7) (d := some 52) (fuel := 14) (listed' := #[true, true, true, true, true, true, true, true, false, false, false, false, false, false, false, false, false, false, false, false, false, false]) rfl rfl (by kernel_rfl) rfl (by rfl) (fun K hK => ?_)
  go_simp
  refine (HT1.out _).mono ?_
  rintro e w2 ⟨rfl, h1⟩
  have HY2 := Lib.hid (HY.out.drew.below h1 HY.out.lt)
  have HX2 := Lib.hid (HX.out.drew.below h1 HX.out.lt)
  have HB2 := Lib.hid (HB.out.drew.trans (h1.mono HB.out.size))
  clear h1
  obtain ⟨z0, z1, z2, z3, z4, z5, z6, z7, z8, z9, z10, z11, z12, z13⟩ := HY2.out.cells
  obtain ⟨g0, g1, g2, g3, g4, g5, g6, g7, g8, g9, g10, g11, g12, g13⟩ := HY2.out.melts
  obtain ⟨t0, t1, t2, t3, t4, t5, t6, t7, t8, t9, t10, t11, t12, t13⟩ := HX2.out.cells
  go_wp2_with fail
  refine hK.out _ _ HX2.out ?_
  clear hK K
  simp only [Act.put, List.setIfInBounds_toArray, List.set_cons_zero, List.set_cons_succ]
  refine held_take (i := 8) (d := some 53) (fuel := 13) (listed' := #[true, true, true, true, true, true, true, true, true, false, false, false, false, false, false, false, false, false, false, false, false, false]) (v := ?_) rfl rfl (by kernel_rfl) (by kernel_rfl) (by kernel_rfl) rfl (fun _ _ _ h => h) (by rfl) ?_ HX2.out ?_
  rotate_left
  · (intro wS hSw; go_simp; try (with_reducible rfl))
  simp only [Act.put, List.setIfInBounds_toArray, List.set_cons_zero, List.set_cons_succ]
  refine held_skip (i := 9) (d := some 54) (fuel := 12) (listed' := #[true, true, true, true, true, true, true, true, true, true, false, false, false, false, false, false, false, false, false, false, false, false]) rfl rfl (by kernel_rfl) (by kernel_rfl) (by kernel_rfl) rfl (fun _ _ _ h => h) (by rfl) HX2.out ?_
  simp only [Act.put, List.setIfInBounds_toArray, List.set_cons_zero, List.set_cons_succ]
  refine held_skip (i := 10) (d := some 55) (fuel := 11) (listed' := #[true, true, true, true, true, true, true, true, true, true, true, false, false, false, false, false, false, false, false, false, false, false]) rfl rfl (by kernel_rfl) (by kernel_rfl) (by kernel_rfl) rfl (fun _ _ _ h => h) (by rfl) HX2.out ?_
  simp only [Act.put, List.setIfInBounds_toArray, List.set_cons_zero, List.set_cons_succ]
  refine held_skip (i := 11) (d := some 56) (fuel := 10) (listed' := #[true, true, true, true, true, true, true, true, true, true, true, true, false, false, false, false, false, false, false, false, false, false]) rfl rfl (by kernel_rfl) (by kernel_rfl) (by kernel_rfl) rfl (fun _ _ _ h => h) (by rfl) HX2.out ?_
  simp only [Act.put, List.setIfInBounds_toArray, List.set_cons_zero, List.set_cons_succ]
  refine held_take (i := 12) (d := some 57) (fuel := 9) (listed' := #[true, true, true, true, true, true, true, true, true, true, true, true, true, false, false, false, false, false, false, false, false, false]) (v := ?_) rfl rfl (by kernel_rfl) (by kernel_rfl) (by kernel_rfl) rfl (fun _ _ _ h => h) (by rfl) ?_ HX2.out ?_
  rotate_left
  · (intro wS hSw; go_simp; try (with_reducible rfl))
  simp only [Act.put, List.setIfInBounds_toArray, List.set_cons_zero, List.set_cons_succ]
  refine held_take (i := 13) (d := some 58) (fuel := 8) (listed' := #[true, true, true, true, true, true, true, true, true, true, true, true, true, true, false, false, false, false, false, false, false, false]) (v := ?_) rfl rfl (by kernel_rfl) (by kernel_rfl) (by kernel_rfl) rfl (fun _ _ _ h => h) (by rfl) ?_ HX2.out ?_
  rotate_left
  · (intro wS hSw; go_simp; try (with_reducible rfl))
  simp only [Act.put, List.setIfInBounds_toArray, List.set_cons_zero, List.set_cons_succ]
  refine held_skip (i := 14) (d := some 59) (fuel := 7) (listed' := #[true, true, true, true, true, true, true, true, true, true, true, true, true, true, true, false, false, false, false, false, false, false]) rfl rfl (by kernel_rfl) (by kernel_rfl) (by kernel_rfl) rfl (fun _ _ _ h => h) (by rfl) HX2.out ?_
  simp only [Act.put, List.setIfInBounds_toArray, List.set_cons_zero, List.set_cons_succ]
  refine held_skip (i := 15) (d := some 60) (fuel := 6) (listed' := #[true, true, true, true, true, true, true, true, true, true, true, true, true, true, true, true, false, false, false, false, false, false]) rfl rfl (by kernel_rfl) (by kernel_rfl) (by kernel_rfl) rfl (fun _ _ _ h => h) (by rfl) HX2.out ?_
  simp only [Act.put, List.setIfInBounds_toArray, List.set_cons_zero, List.set_cons_succ]
  refine held_skip (i := 16) (d := some 61) (fuel := 5) (listed' := #[true, true, true, true, true, true, true, true, true, true, true, true, true, true, true, true, true, false, false, false, false, false]) rfl rfl (by kernel_rfl) (by kernel_rfl) (by kernel_rfl) rfl (fun _ _ _ h => h) (by rfl) HX2.out ?_
  simp only [Act.put, List.setIfInBounds_toArray, List.set_cons_zero, List.set_cons_succ]
  refine held_skip (i := 17) (d := some 62) (fuel := 4) (listed' := #[true, true, true, true, true, true, true, true, true, true, true, true, true, true, true, true, true, true, false, false, false, false]) rfl rfl (by kernel_rfl) (by kernel_rfl) (by kernel_rfl) rfl (fun _ _ _ h => h) (by rfl) HX2.out ?_
  simp only [Act.put, List.setIfInBounds_toArray, List.set_cons_zero, List.set_cons_succ]
  refine held_skip (i := 18) (d := some 63) (fuel := 3) (listed' := #[true, true, true, true, true, true, true, true, true, true, true, true, true, true, true, true, true, true, true, false, false, false]) rfl rfl (by kernel_rfl) (by kernel_rfl) (by kernel_rfl) rfl (fun _ _ _ h => h) (by rfl) HX2.out ?_
  simp only [Act.put, List.setIfInBounds_toArray, List.set_cons_zero, List.set_cons_succ]
  refine held_take (i := 19) (d := some 64) (fuel := 2) (listed' := #[true, true, true, true, true, true, true, true, true, true, true, true, true, true, true, true, true, true, true, true, false, false]) (v := ?_) rfl rfl (by kernel_rfl) (by kernel_rfl) (by kernel_rfl) rfl (fun _ _ _ h => h) (by rfl) ?_ HX2.out ?_
  rotate_left
  · (intro wS hSw; go_simp; try (with_reducible rfl))
  simp only [Act.put, List.setIfInBounds_toArray, List.set_cons_zero, List.set_cons_succ]
  refine held_one (i := 20) (d := none) (fuel := 1) (listed' := #[true, true, true, true, true, true, true, true, true, true, true, true, true, true, true, true, true, true, true, true, true, false]) rfl rfl (by kernel_rfl) rfl (by rfl) (fun K hK => ?_)
  go_simp
  refine hK.out undef _ (NdAt.other14 HX2.out (by omega) _ _ _ _ _ _ _ _ _ _ _ _ _ _) ?_
  clear hK K
  simp only [Act.put]
  refine held_take (i := 21) (d := some 3) (fuel := 0) (listed' := #[true, true, true, true, true, true, true, true, true, true, true, true, true, true, true, true, true, true, true, true, true, true]) (v := ?_) rfl rfl (by kernel_rfl) (by kernel_rfl) (by kernel_rfl) rfl (fun _ _ _ h => h) (by rfl) ?_ (NdAt.other14 HX2.out (by omega) _ _ _ _ _ _ _ _ _ _ _ _ _ _) ?_
  rotate_left
  · (intro wS hSw; go_simp; try (with_reducible rfl))
  simp only [Act.put, List.setIfInBounds_toArray, List.set_cons_zero, List.set_cons_succ]
  refine wpAnyH_done (by kernel_rfl) ?_ _
  go_wp2_with fail
  all_goals exact bodyPost_ret (out_nod (HY2.out.put14 ⟨0, 0, ⟨#[]⟩, n.ref, n.to, []⟩ (.slice none 0 0)) _ _ _ 2 3 res_fields rfl rfl) rfl ⟨rfl, below_set14 HB2.out (by have := HB.out.size; omega) _ _ _ _ _ _ _ _ _ _ _ _ _ _⟩

set_option maxRecDepth 100000 in
set_option maxHeartbeats 4000000 in
theorem fields_6b (w : World) (n : Nd) (h6 : n.kind = 6) (hs : n.ref.sh.size ≤ 1000000) (ht : n.to.sh.size ≤ 1000000) (q1 : mayRf n.ref = true) (q2 : mayRf n.to = false) (A : Option Addr) (m c : Nat) : Calls Tryz.prog 49 #[.agg #[.int .i64 n.kind, .int .i64 n.num, .string n.text, .string n.ref.sh, .int .i64 n.ref.c, .int .i64 n.ref.r, .bool n.ref.ac, .bool n.ref.ar, .string n.to.sh, .int .i64 n.to.c, .int .i64 n.to.r, .bool n.to.ac, .bool n.to.ar, .slice A m c]] w fun e w' => e = .returned (.tuple #[.agg (nodA ⟨0, 0, ⟨#[]⟩, n.ref, n.to, []⟩ (.slice none 0 0)), .bool false]) ∧ Below w.heap.size w w' := by
  have hsz : (w.alloc (.cells #[.int .i64 n.kind, .int .i64 n.num, .string n.text, .string n.ref.sh, .int .i64 n.ref.c, .int .i64 n.ref.r, .bool n.ref.ac, .bool n.ref.ar, .string n.to.sh, .int .i64 n.to.c, .int .i64 n.to.r, .bool n.to.ac, .bool n.to.ar, .slice A m c] 27)).heap.size = w.heap.size + 1 := by simp
  have hx : NdAt (w.alloc (.cells #[.int .i64 n.kind, .int .i64 n.num, .string n.text, .string n.ref.sh, .int .i64 n.ref.c, .int .i64 n.ref.r, .bool n.ref.ac, .bool n.ref.ar, .string n.to.sh, .int .i64 n.to.c, .int .i64 n.to.r, .bool n.to.ac, .bool n.to.ar, .slice A m c] 27)) w.heap.size n (.slice A m c) := NdAt.new w n _
  have hy : NdAt ((w.alloc (.cells #[.int .i64 n.kind, .int .i64 n.num, .string n.text, .string n.ref.sh, .int .i64 n.ref.c, .int .i64 n.ref.r, .bool n.ref.ac, .bool n.ref.ar, .string n.to.sh, .int .i64 n.to.c, .int .i64 n.to.r, .bool n.to.ac, .bool n.to.ar, .slice A m c] 27)).alloc (.cells zNod 27)) (w.heap.size + 1) Nd.zero (.slice none 0 0) := by rw [← hsz]; exact NdAt.new _ Nd.zero _
  have hx2 := hx.below ((Below.refl _ _).alloc (Nat.le_refl _) (.cells zNod 27)) hx.lt
  have HB := Lib.hid (((Below.refl w.heap.size w).alloc (Nat.le_refl _) (.cells #[.int .i64 n.kind, .int .i64 n.num, .string n.text, .string n.ref.sh, .int .i64 n.ref.c, .int .i64 n.ref.r, .bool n.ref.ac, .bool n.ref.ar, .string n.to.sh, .int .i64 n.to.c, .int .i64 n.to.r, .bool n.to.ac, .bool n.to.ar, .slice A m c] 27)).alloc (by simp) (.cells zNod 27))
  have hb2 : w.heap.size + 1 < ((w.alloc (.cells #[.int .i64 n.kind, .int .i64 n.num, .string n.text, .string n.ref.sh, .int .i64 n.ref.c, .int .i64 n.ref.r, .bool n.ref.ac, .bool n.ref.ar, .string n.to.sh, .int .i64 n.to.c, .int .i64 n.to.r, .bool n.to.ac, .bool n.to.ar, .slice A m c] 27)).alloc (.cells zNod 27)).heap.size := hy.lt
  have e1 : (n.kind == 1) = false := by rw [h6]; rfl
  have e2 : (n.kind == 2) = false := by rw [h6]; rfl
  have e3 : (n.kind == 3) = false := by rw [h6]; rfl
  have e5 : (n.kind == 5) = false := by rw [h6]; rfl
  have e6 : (n.kind == 6) = true := beq_iff_eq.2 h6
  clear h6
  go_enter Tryz.func49, Tryz.ntmps49
  go_upto_region 11 with (fail)
  generalize (w.alloc (.cells #[.int .i64 n.kind, .int .i64 n.num, .string n.text, .string n.ref.sh, .int .i64 n.ref.c, .int .i64 n.ref.r, .bool n.ref.ac, .bool n.ref.ar, .string n.to.sh, .int .i64 n.to.c, .int .i64 n.to.r, .bool n.to.ac, .bool n.to.ar, .slice A m c] 27)).alloc (.cells zNod 27) = w1 at hx2 hy HB hb2 ⊢
  obtain ⟨x0, x1, x2, x3, x4, x5, x6, x7, x8, x9, x10, x11, x12, x13⟩ := hx2.cells
  obtain ⟨y0, y1, y2, y3, y4, y5, y6, y7, y8, y9, y10, y11, y12, y13⟩ := hy.cells
  obtain ⟨f0, f1, f2, f3, f4, f5, f6, f7, f8, f9, f10, f11, f12, f13⟩ := hy.melts
  have HY := Lib.hid hy
  have HX := Lib.hid hx2
  clear hx hx2 hy
  have HT1 := Lib.hid (show ∀ w, Calls Tryz.prog 82 #[.agg #[.string n.ref.sh, .int .i64 n.ref.c, .int .i64 n.ref.r, .bool n.ref.ac, .bool n.ref.ar]] w fun e w' => e = .returned (.bool true) ∧ Below w.heap.size w w' from fun w => by rw [← q1]; exact may_any n.ref.sh n.ref.c n.ref.r n.ref.ac n.ref.ar w hs)
  have HT2 := Lib.hid (show ∀ w, Calls Tryz.prog 82 #[.agg #[.string n.to.sh, .int .i64 n.to.c, .int .i64 n.to.r, .bool n.to.ac, .bool n.to.ar]] w fun e w' => e = .returned (.bool false) ∧ Below w.heap.size w w' from fun w => by rw [← q2]; exact may_any n.to.sh n.to.c n.to.r n.to.ac n.to.ar w ht)
  refine wp_region_held_drew (S := fun W => NdAt W w.heap.size n (.slice A m c)) (by kernel_rfl) HX.out.drew (fun _ => ?_)
  show wpAnyH _ _ _ _ _ 22 #[false, false, false, false, false, false, false, false, false, false, false, false, false, false, false, false, false, false, false, false, false, false] _ _
  refine held_take (i := 0) (d := some 45) (fuel := 21) (listed' := #[true, false, false, false, false, false, false, false, false, false, false, false, false, false, false, false, false, false, false, false, false, false]) (v := ?_) rfl rfl (by kernel_rfl) (by kernel_rfl) (by kernel_rfl) rfl (fun _ _ _ h => h) (by rfl) ?_ HX.out.drew ?_
  rotate_left
  · (intro wS hSw; go_simp; try (with_reducible rfl))
  simp only [Act.put, List.setIfInBounds_toArray, List.set_cons_zero, List.set_cons_succ]
  refine held_take (i := 1) (d := some 46) (fuel := 20) (listed' := #[true, true, false, false, false, false, false, false, false, false, false, false, false, false, false, false, false, false, false, false, false, false]) (v := ?_) rfl rfl (by kernel_rfl) (by kernel_rfl) (by kernel_rfl) rfl (fun _ _ _ h => h) (by rfl) ?_ HX.out.drew ?_
  rotate_left
  · (intro wS hSw; have hz := NdAt.cells hSw; go_simp; try (with_reducible rfl))
  simp only [Act.put, List.setIfInBounds_toArray, List.set_cons_zero, List.set_cons_succ]
  refine held_take (i := 2) (d := some 47) (fuel := 19) (listed' := #[true, true, true, false, false, false, false, false, false, false, false, false, false, false, false, false, false, false, false, false, false, false]) (v := ?_) rfl rfl (by kernel_rfl) (by kernel_rfl) (by kernel_rfl) rfl (fun _ _ _ h => h) (by rfl) ?_ HX.out.drew ?_
  rotate_left
  · (intro wS hSw; go_simp; try (with_reducible rfl))
  simp only [Act.put, List.setIfInBounds_toArray, List.set_cons_zero, List.set_cons_succ]
  refine held_take (i := 3) (d := some 48) (fuel := 18) (listed' := #[true, true, true, true, false, false, false, false, false, false, false, false, false, false, false, false, false, false, false, false, false, false]) (v := ?_) rfl rfl (by kernel_rfl) (by kernel_rfl) (by kernel_rfl) rfl (fun _ _ _ h => h) (by rfl) ?_ HX.out.drew ?_
  rotate_left
  · (intro wS hSw; have hz := NdAt.cells hSw; go_simp; try (with_reducible rfl))
  simp only [Act.put, List.setIfInBounds_toArray, List.set_cons_zero, List.set_cons_succ]
  refine held_take (i := 4) (d := some 49) (fuel := 17) (listed' := #[true, true, true, true, true, false, false, false, false, false, false, false, false, false, false, false, false, false, false, false, false, false]) (v := ?_) rfl rfl (by kernel_rfl) (by kernel_rfl) (by kernel_rfl) rfl (fun _ _ _ h => h) (by rfl) ?_ HX.out.drew ?_
  rotate_left
  · (intro wS hSw; go_simp; try (with_reducible rfl))
  simp only [Act.put, List.setIfInBounds_toArray, List.set_cons_zero, List.set_cons_succ]
  refine held_take (i := 5) (d := some 50) (fuel := 16) (listed' := #[true, true, true, true, true, true, false, false, false, false, false, false, false, false, false, false, false, false, false, false, false, false]) (v := ?_) rfl rfl (by kernel_rfl) (by kernel_rfl) (by kernel_rfl) rfl (fun _ _ _ h => h) (by rfl) ?_ HX.out.drew ?_
  rotate_left
  · (intro wS hSw; go_simp; try (with_reducible rfl))
  simp only [Act.put, List.setIfInBounds_toArray, List.set_cons_zero, List.set_cons_succ]
  refine held_take (i := 6) (d := some 51) (fuel := 15) (listed' := #[true, true, true, true, true, true, true, false, false, false, false, false, false, false, false, false, false, false, false, false, false, false]) (v := ?_) rfl rfl (by kernel_rfl) (by kernel_rfl) (by kernel_rfl) rfl (fun _ _ _ h => h) (by rfl) ?_ HX.out.drew ?_
  rotate_left
  · (intro wS hSw; have hz := NdAt.cells hSw; go_simp; try (with_reducible rfl))
  simp only [Act.put, List.setIfInBounds_toArray, List.set_cons_zero, List.set_cons_succ]
  refine held_one (i := 7) (d := some 52) (fuel := 14) (listed' := #[true, true, true, true, true, true, true, true, false, false, false, false, false, false, false, false, false, false, false, false, false, false]) rfl rfl (by kernel_rfl) rfl (by rfl) (fun K hK => ?_)
  go_simp
  refine (HT1.out _).mono ?_
  rintro e w2 ⟨rfl, h1⟩
  have HY2 := Lib.hid (HY.out.drew.below h1 HY.out.lt)
  have HX2 := Lib.hid (HX.out.drew.below h1 HX.out.lt)
  have HB2 := Lib.hid (HB.out.drew.trans (h1.mono HB.out.size))
  clear h1
  obtain ⟨z0, z1, z2, z3, z4, z5, z6, z7, z8, z9, z10, z11, z12, z13⟩ := HY2.out.cells
  obtain ⟨g0, g1, g2, g3, g4, g5, g6, g7, g8, g9, g10, g11, g12, g13⟩ := HY2.out.melts
  obtain ⟨t0, t1, t2, t3, t4, t5, t6, t7, t8, t9, t10, t11, t12, t13⟩ := HX2.out.cells
  go_wp2_with fail
  refine hK.out _ _ HX2.out ?_
  clear hK K
  simp only [Act.put, List.setIfInBounds_toArray, List.set_cons_zero, List.set_cons_succ]
  refine held_take (i := 8) (d := some 53) (fuel := 13) (listed' := #[true, true, true, true, true, true, true, true, true, false, false, false, false, false, false, false, false, false, false, false, false, false]) (v := ?_) rfl rfl (by kernel_rfl) (by kernel_rfl) (by kernel_rfl) rfl (fun _ _ _ h => h) (by rfl) ?_ HX2.out ?_
  rotate_left
  · (intro wS hSw; go_simp; try (with_reducible rfl))
  simp only [Act.put, List.setIfInBounds_toArray, List.set_cons_zero, List.set_cons_succ]
  refine held_take (i := 9) (d := some 54) (fuel := 12) (listed' := #[true, true, true, true, true, true, true, true, true, true, false, false, false, false, false, false, false, false, false, false, false, false]) (v := ?_) rfl rfl (by kernel_rfl) (by kernel_rfl) (by kernel_rfl) rfl (fun _ _ _ h => h) (by rfl) ?_ HX2.out ?_
  rotate_left
  · (intro wS hSw; go_simp; try (with_reducible rfl))
  simp only [Act.put, List.setIfInBounds_toArray, List.set_cons_zero, List.set_cons_succ]
  refine held_take (i := 10) (d := some 55) (fuel := 11) (listed' := #[true, true, true, true, true, true, true, true, true, true, true, false, false, false, false, false, false, false, false, false, false, false]) (v := ?_) rfl rfl (by kernel_rfl) (by kernel_rfl) (by kernel_rfl) rfl (fun _ _ _ h => h) (by rfl) ?_ HX2.out ?_
  rotate_left
  · (intro wS hSw; have hz := NdAt.cells hSw; go_simp; try (with_reducible rfl))
  simp only [Act.put, List.setIfInBounds_toArray, List.set_cons_zero, List.set_cons_succ]
  refine held_one (i := 11) (d := some 56) (fuel := 10) (listed' := #[true, true, true, true, true, true, true, true, true, true, true, true, false, false, false, false, false, false, false, false, false, false]) rfl rfl (by kernel_rfl) rfl (by rfl) (fun K hK => ?_)
  go_simp
  refine (HT2.out _).mono ?_
  rintro e w3 ⟨rfl, h1⟩
  have HY3 := Lib.hid (HY2.out.below h1 HY2.out.lt)
  have HX3 := Lib.hid (HX2.out.below h1 HX2.out.lt)
  have HB3 := Lib.hid (HB2.out.trans (h1.mono HB2.out.size))
  clear h1
  obtain ⟨z0, z1, z2, z3, z4, z5, z6, z7, z8, z9, z10, z11, z12, z13⟩ := HY3.out.cells
  obtain ⟨g0, g1, g2, g3, g4, g5, g6, g7, g8, g9, g10, g11, g12, g13⟩ := HY3.out.melts
  obtain ⟨t0, t1, t2, t3, t4, t5, t6, t7, t8, t9, t10, t11, t12, t13⟩ := HX3.out.cells
  go_wp2_with fail
  refine hK.out _ _ HX3.out ?_
  clear hK K
  simp only [Act.put, List.setIfInBounds_toArray, List.set_cons_zero, List.set_cons_succ]
  refine held_take (i := 12) (d := some 57) (fuel := 9) (listed' := #[true, true, true, true, true, true, true, true, true, true, true, true, true, false, false, false, false, false, false, false, false, false]) (v := ?_) rfl rfl (by kernel_rfl) (by kernel_rfl) (by kernel_rfl) rfl (fun _ _ _ h => h) (by rfl) ?_ HX3.out ?_
  rotate_left
  · (intro wS hSw; go_simp; try (with_reducible rfl))
  simp only [Act.put, List.setIfInBounds_toArray, List.set_cons_zero, List.set_cons_succ]
  refine held_take (i := 13) (d := some 58) (fuel := 8) (listed' := #[true, true, true, true, true, true, true, true, true, true, true, true, true, true, false, false, false, false, false, false, false, false]) (v := ?_) rfl rfl (by kernel_rfl) (by kernel_rfl) (by kernel_rfl) rfl (fun _ _ _ h => h) (by rfl) ?_ HX3.out ?_
  rotate_left
  · (intro wS hSw; go_simp; try (with_reducible rfl))
  simp only [Act.put, List.setIfInBounds_toArray, List.set_cons_zero, List.set_cons_succ]
  refine held_skip (i := 14) (d := some 59) (fuel := 7) (listed' := #[true, true, true, true, true, true, true, true, true, true, true, true, true, true, true, false, false, false, false, false, false, false]) rfl rfl (by kernel_rfl) (by kernel_rfl) (by kernel_rfl) rfl (fun _ _ _ h => h) (by rfl) HX3.out ?_
  simp only [Act.put, List.setIfInBounds_toArray, List.set_cons_zero, List.set_cons_succ]
  refine held_skip (i := 15) (d := some 60) (fuel := 6) (listed' := #[true, true, true, true, true, true, true, true, true, true, true, true, true, true, true, true, false, false, false, false, false, false]) rfl rfl (by kernel_rfl) (by kernel_rfl) (by kernel_rfl) rfl (fun _ _ _ h => h) (by rfl) HX3.out ?_
  simp only [Act.put, List.setIfInBounds_toArray, List.set_cons_zero, List.set_cons_succ]
  refine held_skip (i := 16) (d := some 61) (fuel := 5) (listed' := #[true, true, true, true, true, true, true, true, true, true, true, true, true, true, true, true, true, false, false, false, false, false]) rfl rfl (by kernel_rfl) (by kernel_rfl) (by kernel_rfl) rfl (fun _ _ _ h => h) (by rfl) HX3.out ?_
  simp only [Act.put, List.setIfInBounds_toArray, List.set_cons_zero, List.set_cons_succ]
  refine held_skip (i := 17) (d := some 62) (fuel := 4) (listed' := #[true, true, true, true, true, true, true, true, true, true, true, true, true, true, true, true, true, true, false, false, false, false]) rfl rfl (by kernel_rfl) (by kernel_rfl) (by kernel_rfl) rfl (fun _ _ _ h => h) (by rfl) HX3.out ?_
  simp only [Act.put, List.setIfInBounds_toArray, List.set_cons_zero, List.set_cons_succ]
  refine held_skip (i := 18) (d := some 63) (fuel := 3) (listed' := #[true, true, true, true, true, true, true, true, true, true, true, true, true, true, true, true, true, true, true, false, false, false]) rfl rfl (by kernel_rfl) (by kernel_rfl) (by kernel_rfl) rfl (fun _ _ _ h => h) (by rfl) HX3.out ?_
  simp only [Act.put, List.setIfInBounds_toArray, List.set_cons_zero, List.set_cons_succ]
  refine held_take (i := 19) (d := some 64) (fuel := 2) (listed' := #[true, true, true, true, true, true, true, true, true, true, true, true, true, true, true, true, true, true, true, true, false, false]) (v := ?_) rfl rfl (by kernel_rfl) (by kernel_rfl) (by kernel_rfl) rfl (fun _ _ _ h => h) (by rfl) ?_ HX3.out ?_
  rotate_left
  · (intro wS hSw; go_simp; try (with_reducible rfl))
  simp only [Act.put, List.setIfInBounds_toArray, List.set_cons_zero, List.set_cons_succ]
  refine held_one (i := 20) (d := none) (fuel := 1) (listed' := #[true, true, true, true, true, true, true, true, true, true, true, true, true, true, true, true, true, true, true, true, true, false]) rfl rfl (by kernel_rfl) rfl (by rfl) (fun K hK => ?_)
  go_simp
  refine hK.out undef _ (NdAt.other14 HX3.out (by omega) _ _ _ _ _ _ _ _ _ _ _ _ _ _) ?_
  clear hK K
  simp only [Act.put]
  refine held_take (i := 21) (d := some 3) (fuel := 0) (listed' := #[true, true, true, true, true, true, true, true, true, true, true, true, true, true, true, true, true, true, true, true, true, true]) (v := ?_) rfl rfl (by kernel_rfl) (by kernel_rfl) (by kernel_rfl) rfl (fun _ _ _ h => h) (by rfl) ?_ (NdAt.other14 HX3.out (by omega) _ _ _ _ _ _ _ _ _ _ _ _ _ _) ?_
  rotate_left
  · (intro wS hSw; go_simp; try (with_reducible rfl))
  simp only [Act.put, List.setIfInBounds_toArray, List.set_cons_zero, List.set_cons_succ]
  refine wpAnyH_done (by kernel_rfl) ?_ _
  go_wp2_with fail
  all_goals exact bodyPost_ret (out_nod (HY3.out.put14 ⟨0, 0, ⟨#[]⟩, n.ref, n.to, []⟩ (.slice none 0 0)) _ _ _ 2 3 res_fields rfl rfl) rfl ⟨rfl, below_set14 HB3.out (by have := HB.out.size; omega) _ _ _ _ _ _ _ _ _ _ _ _ _ _⟩

set_option maxRecDepth 100000 in
set_option maxHeartbeats 4000000 in
theorem fields_6c (w : World) (n : Nd) (h6 : n.kind = 6) (hs : n.ref.sh.size ≤ 1000000) (ht : n.to.sh.size ≤ 1000000) (q1 : mayRf n.ref = true) (q2 : mayRf n.to = true) (A : Option Addr) (m c : Nat) : Calls Tryz.prog 49 #[.agg #[.int .i64 n.kind, .int .i64 n.num, .string n.text, .string n.ref.sh, .int .i64 n.ref.c, .int .i64 n.ref.r, .bool n.ref.ac, .bool n.ref.ar, .string n.to.sh, .int .i64 n.to.c, .int .i64 n.to.r, .bool n.to.ac, .bool n.to.ar, .slice A m c]] w fun e w' => e = .returned (.tuple #[.agg (nodA ⟨0, 0, ⟨#[]⟩, n.ref, n.to, []⟩ (.slice none 0 0)), .bool (spanB n.ref n.to)]) ∧ Below w.heap.size w w' := by
  have hsz : (w.alloc (.cells #[.int .i64 n.kind, .int .i64 n.num, .string n.text, .string n.ref.sh, .int .i64 n.ref.c, .int .i64 n.ref.r, .bool n.ref.ac, .bool n.ref.ar, .string n.to.sh, .int .i64 n.to.c, .int .i64 n.to.r, .bool n.to.ac, .bool n.to.ar, .slice A m c] 27)).heap.size = w.heap.size + 1 := by simp
  have hx : NdAt (w.alloc (.cells #[.int .i64 n.kind, .int .i64 n.num, .string n.text, .string n.ref.sh, .int .i64 n.ref.c, .int .i64 n.ref.r, .bool n.ref.ac, .bool n.ref.ar, .string n.to.sh, .int .i64 n.to.c, .int .i64 n.to.r, .bool n.to.ac, .bool n.to.ar, .slice A m c] 27)) w.heap.size n (.slice A m c) := NdAt.new w n _
  have hy : NdAt ((w.alloc (.cells #[.int .i64 n.kind, .int .i64 n.num, .string n.text, .string n.ref.sh, .int .i64 n.ref.c, .int .i64 n.ref.r, .bool n.ref.ac, .bool n.ref.ar, .string n.to.sh, .int .i64 n.to.c, .int .i64 n.to.r, .bool n.to.ac, .bool n.to.ar, .slice A m c] 27)).alloc (.cells zNod 27)) (w.heap.size + 1) Nd.zero (.slice none 0 0) := by rw [← hsz]; exact NdAt.new _ Nd.zero _
  have hx2 := hx.below ((Below.refl _ _).alloc (Nat.le_refl _) (.cells zNod 27)) hx.lt
  have HB := Lib.hid (((Below.refl w.heap.size w).alloc (Nat.le_refl _) (.cells #[.int .i64 n.kind, .int .i64 n.num, .string n.text, .string n.ref.sh, .int .i64 n.ref.c, .int .i64 n.ref.r, .bool n.ref.ac, .bool n.ref.ar, .string n.to.sh, .int .i64 n.to.c, .int .i64 n.to.r, .bool n.to.ac, .bool n.to.ar, .slice A m c] 27)).alloc (by simp) (.cells zNod 27))
  have hb2 : w.heap.size + 1 < ((w.alloc (.cells #[.int .i64 n.kind, .int .i64 n.num, .string n.text, .string n.ref.sh, .int .i64 n.ref.c, .int .i64 n.ref.r, .bool n.ref.ac, .bool n.ref.ar, .string n.to.sh, .int .i64 n.to.c, .int .i64 n.to.r, .bool n.to.ac, .bool n.to.ar, .slice A m c] 27)).alloc (.cells zNod 27)).heap.size := hy.lt
  have e1 : (n.kind == 1) = false := by rw [h6]; rfl
  have e2 : (n.kind == 2) = false := by rw [h6]; rfl
  have e3 : (n.kind == 3) = false := by rw [h6]; rfl
  have e5 : (n.kind == 5) = false := by rw [h6]; rfl
  have e6 : (n.kind == 6) = true := beq_iff_eq.2 h6
  clear h6
  go_enter Tryz.func49, Tryz.ntmps49
  go_upto_region 11 with (fail)
  generalize (w.alloc (.cells #[.int .i64 n.kind, .int .i64 n.num, .string n.text, .string n.ref.sh, .int .i64 n.ref.c, .int .i64 n.ref.r, .bool n.ref.ac, .bool n.ref.ar, .string n.to.sh, .int .i64 n.to.c, .int .i64 n.to.r, .bool n.to.ac, .bool n.to.ar, .slice A m c] 27)).alloc (.cells zNod 27) = w1 at hx2 hy HB hb2 ⊢
  obtain ⟨x0, x1, x2, x3, x4, x5, x6, x7, x8, x9, x10, x11, x12, x13⟩ := hx2.cells
  obtain ⟨y0, y1, y2, y3, y4, y5, y6, y7, y8, y9, y10, y11, y12, y13⟩ := hy.cells
  obtain ⟨f0, f1, f2, f3, f4, f5, f6, f7, f8, f9, f10, f11, f12, f13⟩ := hy.melts
  have HY := Lib.hid hy
  have HX := Lib.hid hx2
  clear hx hx2 hy
  have HT1 := Lib.hid (show ∀ w, Calls Tryz.prog 82 #[.agg #[.string n.ref.sh, .int .i64 n.ref.c, .int .i64 n.ref.r, .bool n.ref.ac, .bool n.ref.ar]] w fun e w' => e = .returned (.bool true) ∧ Below w.heap.size w w' from fun w => by rw [← q1]; exact may_any n.ref.sh n.ref.c n.ref.r n.ref.ac n.ref.ar w hs)
  have HT2 := Lib.hid (show ∀ w, Calls Tryz.prog 82 #[.agg #[.string n.to.sh, .int .i64 n.to.c, .int .i64 n.to.r, .bool n.to.ac, .bool n.to.ar]] w fun e w' => e = .returned (.bool true) ∧ Below w.heap.size w w' from fun w => by rw [← q2]; exact may_any n.to.sh n.to.c n.to.r n.to.ac n.to.ar w ht)
  have HT3 := Lib.hid (fun w => isRange_any n.ref.sh n.to.sh n.ref.c n.ref.r n.to.c n.to.r n.ref.ac n.ref.ar n.to.ac n.to.ar w)
  first
    | go_region_held3 (fun w' => w'.cell? ⟨w.heap.size, 3, none⟩ = some (.string n.ref.sh) ∧ w'.cell? ⟨w.heap.size, 4, none⟩ = some (.int .i64 n.ref.c) ∧ w'.cell? ⟨w.heap.size, 5, none⟩ = some (.int .i64 n.ref.r) ∧ w'.cell? ⟨w.heap.size, 6, none⟩ = some (.bool n.ref.ac) ∧ w'.cell? ⟨w.heap.size, 7, none⟩ = some (.bool n.ref.ar) ∧ w'.cell? ⟨w.heap.size, 8, none⟩ = some (.string n.to.sh) ∧ w'.cell? ⟨w.heap.size, 9, none⟩ = some (.int .i64 n.to.c) ∧ w'.cell? ⟨w.heap.size, 10, none⟩ = some (.int .i64 n.to.r) ∧ w'.cell? ⟨w.heap.size, 11, none⟩ = some (.bool n.to.ac) ∧ w'.cell? ⟨w.heap.size, 12, none⟩ = some (.bool n.to.ar)) (go_keep) (first | (go_at_call 82; ((with_reducible refine (HT1.out _).mono ?_); rintro e w2 ⟨rfl, h1⟩; have HY2 := Lib.hid (HY.out.drew.below h1 HY.out.lt); have HX2 := Lib.hid (HX.out.drew.below h1 HX.out.lt); have HB2 := Lib.hid (HB.out.drew.trans (h1.mono HB.out.size)); clear h1; obtain ⟨z0, z1, z2, z3, z4, z5, z6, z7, z8, z9, z10, z11, z12, z13⟩ := HY2.out.cells; obtain ⟨g0, g1, g2, g3, g4, g5, g6, g7, g8, g9, g10, g11, g12, g13⟩ := HY2.out.melts; obtain ⟨t0, t1, t2, t3, t4, t5, t6, t7, t8, t9, t10, t11, t12, t13⟩ := HX2.out.cells)) | (go_at_call 82; ((with_reducible refine (HT2.out _).mono ?_); rintro e w3 ⟨rfl, h1⟩; have HY3 := Lib.hid (HY2.out.below h1 HY2.out.lt); have HX3 := Lib.hid (HX2.out.below h1 HX2.out.lt); have HB3 := Lib.hid (HB2.out.trans (h1.mono HB2.out.size)); clear h1; obtain ⟨z0, z1, z2, z3, z4, z5, z6, z7, z8, z9, z10, z11, z12, z13⟩ := HY3.out.cells; obtain ⟨g0, g1, g2, g3, g4, g5, g6, g7, g8, g9, g10, g11, g12, g13⟩ := HY3.out.melts; obtain ⟨t0, t1, t2, t3, t4, t5, t6, t7, t8, t9, t10, t11, t12, t13⟩ := HX3.out.cells)) | (go_at_call 83; ((with_reducible refine (HT3.out _).mono ?_); rintro e w4 ⟨rfl, h1⟩; have HY4 := Lib.hid (HY3.out.below h1 HY3.out.lt); have HX4 := Lib.hid (HX3.out.below h1 HX3.out.lt); have HB4 := Lib.hid (HB3.out.trans (h1.mono HB3.out.size)); clear h1; obtain ⟨z0, z1, z2, z3, z4, z5, z6, z7, z8, z9, z10, z11, z12, z13⟩ := HY4.out.cells; obtain ⟨g0, g1, g2, g3, g4, g5, g6, g7, g8, g9, g10, g11, g12, g13⟩ := HY4.out.melts; obtain ⟨t0, t1, t2, t3, t4, t5, t6, t7, t8, t9, t10, t11, t12, t13⟩ := HX4.out.cells)))
    | fail
  all_goals go_wp2_with fail
  all_goals exact bodyPost_ret (out_nod (HY4.out.put14 ⟨0, 0, ⟨#[]⟩, n.ref, n.to, []⟩ (.slice none 0 0)) _ _ _ 2 3 res_fields rfl rfl) rfl ⟨rfl, below_set14 HB4.out (by have := HB.out.size; omega) _ _ _ _ _ _ _ _ _ _ _ _ _ _⟩

set_option maxRecDepth 100000 in
set_option maxHeartbeats 4000000 in
theorem fields_0a (w : World) (n : Nd) (h1 : ¬ n.kind = 1) (h2 : ¬ n.kind = 2) (h3 : ¬ n.kind = 3) (h5 : ¬ n.kind = 5) (h6 : ¬ n.kind = 6) (h7 : ¬ n.kind = 7) (h4 : n.kind = 4) (A : Option Addr) (m c : Nat) : Calls Tryz.prog 49 #[.agg #[.int .i64 n.kind, .int .i64 n.num, .string n.text, .string n.ref.sh, .int .i64 n.ref.c, .int .i64 n.ref.r, .bool n.ref.ac, .bool n.ref.ar, .string n.to.sh, .int .i64 n.to.c, .int .i64 n.to.r, .bool n.to.ac, .bool n.to.ar, .slice A m c]] w fun e w' => e = .returned (.tuple #[.agg (nodA Nd.zero (.slice none 0 0)), .bool true]) ∧ Below w.heap.size w w' := by
  have hsz : (w.alloc (.cells #[.int .i64 n.kind, .int .i64 n.num, .string n.text, .string n.ref.sh, .int .i64 n.ref.c, .int .i64 n.ref.r, .bool n.ref.ac, .bool n.ref.ar, .string n.to.sh, .int .i64 n.to.c, .int .i64 n.to.r, .bool n.to.ac, .bool n.to.ar, .slice A m c] 27)).heap.size = w.heap.size + 1 := by simp
  have hx : NdAt (w.alloc (.cells #[.int .i64 n.kind, .int .i64 n.num, .string n.text, .string n.ref.sh, .int .i64 n.ref.c, .int .i64 n.ref.r, .bool n.ref.ac, .bool n.ref.ar, .string n.to.sh, .int .i64 n.to.c, .int .i64 n.to.r, .bool n.to.ac, .bool n.to.ar, .slice A m c] 27)) w.heap.size n (.slice A m c) := NdAt.new w n _
  have hy : NdAt ((w.alloc (.cells #[.int .i64 n.kind, .int .i64 n.num, .string n.text, .string n.ref.sh, .int .i64 n.ref.c, .int .i64 n.ref.r, .bool n.ref.ac, .bool n.ref.ar, .string n.to.sh, .int .i64 n.to.c, .int .i64 n.to.r, .bool n.to.ac, .bool n.to.ar, .slice A m c] 27)).alloc (.cells zNod 27)) (w.heap.size + 1) Nd.zero (.slice none 0 0) := by rw [← hsz]; exact NdAt.new _ Nd.zero _
  have hx2 := hx.below ((Below.refl _ _).alloc (Nat.le_refl _) (.cells zNod 27)) hx.lt
  have HB := Lib.hid (((Below.refl w.heap.size w).alloc (Nat.le_refl _) (.cells #[.int .i64 n.kind, .int .i64 n.num, .string n.text, .string n.ref.sh, .int .i64 n.ref.c, .int .i64 n.ref.r, .bool n.ref.ac, .bool n.ref.ar, .string n.to.sh, .int .i64 n.to.c, .int .i64 n.to.r, .bool n.to.ac, .bool n.to.ar, .slice A m c] 27)).alloc (by simp) (.cells zNod 27))
  have hb2 : w.heap.size + 1 < ((w.alloc (.cells #[.int .i64 n.kind, .int .i64 n.num, .string n.text, .string n.ref.sh, .int .i64 n.ref.c, .int .i64 n.ref.r, .bool n.ref.ac, .bool n.ref.ar, .string n.to.sh, .int .i64 n.to.c, .int .i64 n.to.r, .bool n.to.ac, .bool n.to.ar, .slice A m c] 27)).alloc (.cells zNod 27)).heap.size := hy.lt
  have e1 : (n.kind == 1) = false := beq_eq_false_iff_ne.2 h1
  have e2 : (n.kind == 2) = false := beq_eq_false_iff_ne.2 h2
  have e3 : (n.kind == 3) = false := beq_eq_false_iff_ne.2 h3
  have e5 : (n.kind == 5) = false := beq_eq_false_iff_ne.2 h5
  have e6 : (n.kind == 6) = false := beq_eq_false_iff_ne.2 h6
  have e7 : (n.kind == 7) = false := beq_eq_false_iff_ne.2 h7
  clear h1 h2 h3 h5 h6 h7
  have e4 : (n.kind == 4) = true := beq_iff_eq.2 h4
  clear h4
  go_enter Tryz.func49, Tryz.ntmps49
  go_upto_region 14 with (fail)
  generalize (w.alloc (.cells #[.int .i64 n.kind, .int .i64 n.num, .string n.text, .string n.ref.sh, .int .i64 n.ref.c, .int .i64 n.ref.r, .bool n.ref.ac, .bool n.ref.ar, .string n.to.sh, .int .i64 n.to.c, .int .i64 n.to.r, .bool n.to.ac, .bool n.to.ar, .slice A m c] 27)).alloc (.cells zNod 27) = w1 at hx2 hy HB hb2 ⊢
  obtain ⟨x0, x1, x2, x3, x4, x5, x6, x7, x8, x9, x10, x11, x12, x13⟩ := hx2.cells
  obtain ⟨y0, y1, y2, y3, y4, y5, y6, y7, y8, y9, y10, y11, y12, y13⟩ := hy.cells
  obtain ⟨f0, f1, f2, f3, f4, f5, f6, f7, f8, f9, f10, f11, f12, f13⟩ := hy.melts
  have HY := Lib.hid hy
  have HX := Lib.hid hx2
  clear hx hx2 hy
  go_wp2_with (go_at_call 85; ((with_reducible refine (isOfTwo_any _ _).mono ?_); rintro e w2 ⟨rfl, rfl⟩))
  all_goals exact bodyPost_ret (out_nod (HY.out.put14 Nd.zero (.slice none 0 0)) _ _ _ 2 3 res_fields rfl rfl) rfl ⟨rfl, below_set14 HB.out (by have := HB.out.size; omega) _ _ _ _ _ _ _ _ _ _ _ _ _ _⟩

set_option maxRecDepth 100000 in
set_option maxHeartbeats 4000000 in
theorem fields_0b (w : World) (n : Nd) (h1 : ¬ n.kind = 1) (h2 : ¬ n.kind = 2) (h3 : ¬ n.kind = 3) (h5 : ¬ n.kind = 5) (h6 : ¬ n.kind = 6) (h7 : ¬ n.kind = 7) (h4 : n.kind = 8) (A : Option Addr) (m c : Nat) : Calls Tryz.prog 49 #[.agg #[.int .i64 n.kind, .int .i64 n.num, .string n.text, .string n.ref.sh, .int .i64 n.ref.c, .int .i64 n.ref.r, .bool n.ref.ac, .bool n.ref.ar, .string n.to.sh, .int .i64 n.to.c, .int .i64 n.to.r, .bool n.to.ac, .bool n.to.ar, .slice A m c]] w fun e w' => e = .returned (.tuple #[.agg (nodA Nd.zero (.slice none 0 0)), .bool true]) ∧ Below w.heap.size w w' := by
  have hsz : (w.alloc (.cells #[.int .i64 n.kind, .int .i64 n.num, .string n.text, .string n.ref.sh, .int .i64 n.ref.c, .int .i64 n.ref.r, .bool n.ref.ac, .bool n.ref.ar, .string n.to.sh, .int .i64 n.to.c, .int .i64 n.to.r, .bool n.to.ac, .bool n.to.ar, .slice A m c] 27)).heap.size = w.heap.size + 1 := by simp
  have hx : NdAt (w.alloc (.cells #[.int .i64 n.kind, .int .i64 n.num, .string n.text, .string n.ref.sh, .int .i64 n.ref.c, .int .i64 n.ref.r, .bool n.ref.ac, .bool n.ref.ar, .string n.to.sh, .int .i64 n.to.c, .int .i64 n.to.r, .bool n.to.ac, .bool n.to.ar, .slice A m c] 27)) w.heap.size n (.slice A m c) := NdAt.new w n _
  have hy : NdAt ((w.alloc (.cells #[.int .i64 n.kind, .int .i64 n.num, .string n.text, .string n.ref.sh, .int .i64 n.ref.c, .int .i64 n.ref.r, .bool n.ref.ac, .bool n.ref.ar, .string n.to.sh, .int .i64 n.to.c, .int .i64 n.to.r, .bool n.to.ac, .bool n.to.ar, .slice A m c] 27)).alloc (.cells zNod 27)) (w.heap.size + 1) Nd.zero (.slice none 0 0) := by rw [← hsz]; exact NdAt.new _ Nd.zero _
  have hx2 := hx.below ((Below.refl _ _).alloc (Nat.le_refl _) (.cells zNod 27)) hx.lt
  have HB := Lib.hid (((Below.refl w.heap.size w).alloc (Nat.le_refl _) (.cells #[.int .i64 n.kind, .int .i64 n.num, .string n.text, .string n.ref.sh, .int .i64 n.ref.c, .int .i64 n.ref.r, .bool n.ref.ac, .bool n.ref.ar, .string n.to.sh, .int .i64 n.to.c, .int .i64 n.to.r, .bool n.to.ac, .bool n.to.ar, .slice A m c] 27)).alloc (by simp) (.cells zNod 27))
  have hb2 : w.heap.size + 1 < ((w.alloc (.cells #[.int .i64 n.kind, .int .i64 n.num, .string n.text, .string n.ref.sh, .int .i64 n.ref.c, .int .i64 n.ref.r, .bool n.ref.ac, .bool n.ref.ar, .string n.to.sh, .int .i64 n.to.c, .int .i64 n.to.r, .bool n.to.ac, .bool n.to.ar, .slice A m c] 27)).alloc (.cells zNod 27)).heap.size := hy.lt
  have e1 : (n.kind == 1) = false := beq_eq_false_iff_ne.2 h1
  have e2 : (n.kind == 2) = false := beq_eq_false_iff_ne.2 h2
  have e3 : (n.kind == 3) = false := beq_eq_false_iff_ne.2 h3
  have e5 : (n.kind == 5) = false := beq_eq_false_iff_ne.2 h5
  have e6 : (n.kind == 6) = false := beq_eq_false_iff_ne.2 h6
  have e7 : (n.kind == 7) = false := beq_eq_false_iff_ne.2 h7
  clear h1 h2 h3 h5 h6 h7
  have e4 : (n.kind == 4) = false := by rw [h4]; rfl
  have e8 : (n.kind == 8) = true := beq_iff_eq.2 h4
  clear h4
  go_enter Tryz.func49, Tryz.ntmps49
  go_upto_region 14 with (fail)
  generalize (w.alloc (.cells #[.int .i64 n.kind, .int .i64 n.num, .string n.text, .string n.ref.sh, .int .i64 n.ref.c, .int .i64 n.ref.r, .bool n.ref.ac, .bool n.ref.ar, .string n.to.sh, .int .i64 n.to.c, .int .i64 n.to.r, .bool n.to.ac, .bool n.to.ar, .slice A m c] 27)).alloc (.cells zNod 27) = w1 at hx2 hy HB hb2 ⊢
  obtain ⟨x0, x1, x2, x3, x4, x5, x6, x7, x8, x9, x10, x11, x12, x13⟩ := hx2.cells
  obtain ⟨y0, y1, y2, y3, y4, y5, y6, y7, y8, y9, y10, y11, y12, y13⟩ := hy.cells
  obtain ⟨f0, f1, f2, f3, f4, f5, f6, f7, f8, f9, f10, f11, f12, f13⟩ := hy.melts
  have HY := Lib.hid hy
  have HX := Lib.hid hx2
  clear hx hx2 hy
  go_wp2_with (go_at_call 85; ((with_reducible refine (isOfTwo_any _ _).mono ?_); rintro e w2 ⟨rfl, rfl⟩))
  all_goals exact bodyPost_ret (out_nod (HY.out.put14 Nd.zero (.slice none 0 0)) _ _ _ 2 3 res_fields rfl rfl) rfl ⟨rfl, below_set14 HB.out (by have := HB.out.size; omega) _ _ _ _ _ _ _ _ _ _ _ _ _ _⟩

set_option maxRecDepth 100000 in
set_option maxHeartbeats 4000000 in
theorem fields_0c (w : World) (n : Nd) (h1 : ¬ n.kind = 1) (h2 : ¬ n.kind = 2) (h3 : ¬ n.kind = 3) (h5 : ¬ n.kind = 5) (h6 : ¬ n.kind = 6) (h7 : ¬ n.kind = 7) (h4 : ¬ n.kind = 4) (h8 : ¬ n.kind = 8) (A : Option Addr) (m c : Nat) : Calls Tryz.prog 49 #[.agg #[.int .i64 n.kind, .int .i64 n.num, .string n.text, .string n.ref.sh, .int .i64 n.ref.c, .int .i64 n.ref.r, .bool n.ref.ac, .bool n.ref.ar, .string n.to.sh, .int .i64 n.to.c, .int .i64 n.to.r, .bool n.to.ac, .bool n.to.ar, .slice A m c]] w fun e w' => e = .returned (.tuple #[.agg (nodA Nd.zero (.slice none 0 0)), .bool (twoB n.kind)]) ∧ Below w.heap.size w w' := by
  have hsz : (w.alloc (.cells #[.int .i64 n.kind, .int .i64 n.num, .string n.text, .string n.ref.sh, .int .i64 n.ref.c, .int .i64 n.ref.r, .bool n.ref.ac, .bool n.ref.ar, .string n.to.sh, .int .i64 n.to.c, .int .i64 n.to.r, .bool n.to.ac, .bool n.to.ar, .slice A m c] 27)).heap.size = w.heap.size + 1 := by simp
  have hx : NdAt (w.alloc (.cells #[.int .i64 n.kind, .int .i64 n.num, .string n.text, .string n.ref.sh, .int .i64 n.ref.c, .int .i64 n.ref.r, .bool n.ref.ac, .bool n.ref.ar, .string n.to.sh, .int .i64 n.to.c, .int .i64 n.to.r, .bool n.to.ac, .bool n.to.ar, .slice A m c] 27)) w.heap.size n (.slice A m c) := NdAt.new w n _
  have hy : NdAt ((w.alloc (.cells #[.int .i64 n.kind, .int .i64 n.num, .string n.text, .string n.ref.sh, .int .i64 n.ref.c, .int .i64 n.ref.r, .bool n.ref.ac, .bool n.ref.ar, .string n.to.sh, .int .i64 n.to.c, .int .i64 n.to.r, .bool n.to.ac, .bool n.to.ar, .slice A m c] 27)).alloc (.cells zNod 27)) (w.heap.size + 1) Nd.zero (.slice none 0 0) := by rw [← hsz]; exact NdAt.new _ Nd.zero _
  have hx2 := hx.below ((Below.refl _ _).alloc (Nat.le_refl _) (.cells zNod 27)) hx.lt
  have HB := Lib.hid (((Below.refl w.heap.size w).alloc (Nat.le_refl _) (.cells #[.int .i64 n.kind, .int .i64 n.num, .string n.text, .string n.ref.sh, .int .i64 n.ref.c, .int .i64 n.ref.r, .bool n.ref.ac, .bool n.ref.ar, .string n.to.sh, .int .i64 n.to.c, .int .i64 n.to.r, .bool n.to.ac, .bool n.to.ar, .slice A m c] 27)).alloc (by simp) (.cells zNod 27))
  have hb2 : w.heap.size + 1 < ((w.alloc (.cells #[.int .i64 n.kind, .int .i64 n.num, .string n.text, .string n.ref.sh, .int .i64 n.ref.c, .int .i64 n.ref.r, .bool n.ref.ac, .bool n.ref.ar, .string n.to.sh, .int .i64 n.to.c, .int .i64 n.to.r, .bool n.to.ac, .bool n.to.ar, .slice A m c] 27)).alloc (.cells zNod 27)).heap.size := hy.lt
  have e1 : (n.kind == 1) = false := beq_eq_false_iff_ne.2 h1
  have e2 : (n.kind == 2) = false := beq_eq_false_iff_ne.2 h2
  have e3 : (n.kind == 3) = false := beq_eq_false_iff_ne.2 h3
  have e5 : (n.kind == 5) = false := beq_eq_false_iff_ne.2 h5
  have e6 : (n.kind == 6) = false := beq_eq_false_iff_ne.2 h6
  have e7 : (n.kind == 7) = false := beq_eq_false_iff_ne.2 h7
  clear h1 h2 h3 h5 h6 h7
  have e4 : (n.kind == 4) = false := beq_eq_false_iff_ne.2 h4
  have e8 : (n.kind == 8) = false := beq_eq_false_iff_ne.2 h8
  clear h4 h8
  go_enter Tryz.func49, Tryz.ntmps49
  go_upto_region 14 with (fail)
  generalize (w.alloc (.cells #[.int .i64 n.kind, .int .i64 n.num, .string n.text, .string n.ref.sh, .int .i64 n.ref.c, .int .i64 n.ref.r, .bool n.ref.ac, .bool n.ref.ar, .string n.to.sh, .int .i64 n.to.c, .int .i64 n.to.r, .bool n.to.ac, .bool n.to.ar, .slice A m c] 27)).alloc (.cells zNod 27) = w1 at hx2 hy HB hb2 ⊢
  obtain ⟨x0, x1, x2, x3, x4, x5, x6, x7, x8, x9, x10, x11, x12, x13⟩ := hx2.cells
  obtain ⟨y0, y1, y2, y3, y4, y5, y6, y7, y8, y9, y10, y11, y12, y13⟩ := hy.cells
  obtain ⟨f0, f1, f2, f3, f4, f5, f6, f7, f8, f9, f10, f11, f12, f13⟩ := hy.melts
  have HY := Lib.hid hy
  have HX := Lib.hid hx2
  clear hx hx2 hy
  go_wp2_with (go_at_call 85; ((with_reducible refine (isOfTwo_any _ _).mono ?_); rintro e w2 ⟨rfl, rfl⟩))
  all_goals exact bodyPost_ret (out_nod (HY.out.put14 Nd.zero (.slice none 0 0)) _ _ _ 2 3 res_fields rfl rfl) rfl ⟨rfl, below_set14 HB.out (by have := HB.out.size; omega) _ _ _ _ _ _ _ _ _ _ _ _ _ _⟩

end Go.Proofs.YtkdamdmnchcceaaGreatDoor

namespace Go.Proofs.YtkdamdmnchcceaaGreatDoor
open Go.RowKit

set_option maxRecDepth 100000 in
theorem fields_any (w : World) (n : Nd) (hv : Vars w) (hs : n.text.size ≤ 1000000) (hr : n.ref.sh.size ≤ 1000000) (ht : n.to.sh.size ≤ 1000000) (A : Option Addr) (m c : Nat) :
    Calls Tryz.prog 49 #[.agg #[.int .i64 n.kind, .int .i64 n.num, .string n.text, .string n.ref.sh, .int .i64 n.ref.c, .int .i64 n.ref.r, .bool n.ref.ac, .bool n.ref.ar, .string n.to.sh, .int .i64 n.to.c, .int .i64 n.to.r, .bool n.to.ac, .bool n.to.ar, .slice A m c]] w fun e w' => e = .returned (.tuple #[.agg (nodA (namedN n) (.slice none 0 0)), .bool (okF n)]) ∧ Below w.heap.size w w' := by
  by_cases h1 : n.kind = 1
  · have e1 : namedN n = { Nd.zero with num := n.num } := by unfold namedN; rw [if_pos h1]
    have e2 : okF n = decide (0 ≤ n.num) := by unfold okF; rw [if_pos h1]
    rw [e1, e2]; exact fields_1 n h1 A m c w
  by_cases h2 : n.kind = 2
  · have e1 : namedN n = { Nd.zero with text := n.text } := by unfold namedN; rw [if_neg h1, if_pos h2]
    have e2 : okF n = printB (sb n.text) := by unfold okF; rw [if_neg h1, if_pos h2]
    rw [e1, e2]; exact fields_2 w n h2 hs A m c
  by_cases h3 : n.kind = 3
  · have e1 : namedN n = { Nd.zero with num := n.num } := by unfold namedN; rw [if_neg h1, if_neg h2, if_pos h3]
    have e2 : okF n = decide (n.num = 0 ∨ n.num = 1) := by unfold okF; rw [if_neg h1, if_neg h2, if_pos h3]
    rw [e1, e2]
    by_cases k0 : n.num = 0
    · rw [decide_eq_true (Or.inl k0)]; exact fields_3a w n h3 k0 A m c
    · by_cases k1 : n.num = 1
      · rw [decide_eq_true (Or.inr k1)]; exact fields_3b w n h3 k1 A m c
      · have k : ¬ (n.num = 0 ∨ n.num = 1) := by omega
        rw [decide_eq_false k]; exact fields_3c w n h3 k A m c
  by_cases h5 : n.kind = 5
  · have e1 : namedN n = { Nd.zero with ref := n.ref } := by unfold namedN; rw [if_neg h1, if_neg h2, if_neg h3, if_pos h5]
    have e2 : okF n = mayRf n.ref := by unfold okF; rw [if_neg h1, if_neg h2, if_neg h3, if_pos h5]
    rw [e1, e2]; exact fields_5 w n h5 hr A m c
  by_cases h6 : n.kind = 6
  · have e1 : namedN n = ⟨0, 0, ⟨#[]⟩, n.ref, n.to, []⟩ := by unfold namedN; rw [if_neg h1, if_neg h2, if_neg h3, if_neg h5, if_pos h6]
    have e2 : okF n = (mayRf n.ref && (mayRf n.to && spanB n.ref n.to)) := by unfold okF; rw [if_neg h1, if_neg h2, if_neg h3, if_neg h5, if_pos h6]
    rw [e1, e2]
    cases q1 : mayRf n.ref
    · exact fields_6a w n h6 hr ht q1 A m c
    · cases q2 : mayRf n.to
      · exact fields_6b w n h6 hr ht q1 q2 A m c
      · exact fields_6c w n h6 hr ht q1 q2 A m c
  by_cases h7 : n.kind = 7
  · have e1 : namedN n = { Nd.zero with text := n.text } := by unfold namedN; rw [if_neg h1, if_neg h2, if_neg h3, if_neg h5, if_neg h6, if_pos h7]
    have e2 : okF n = callB n.text := by unfold okF; rw [if_neg h1, if_neg h2, if_neg h3, if_neg h5, if_neg h6, if_pos h7]
    rw [e1, e2]; exact fields_7 w n h7 hv A m c
  have e1 : namedN n = Nd.zero := by unfold namedN; rw [if_neg h1, if_neg h2, if_neg h3, if_neg h5, if_neg h6, if_neg h7]
  have e2 : okF n = (decide (n.kind = 4 ∨ n.kind = 8) || twoB n.kind) := by unfold okF; rw [if_neg h1, if_neg h2, if_neg h3, if_neg h5, if_neg h6, if_neg h7]
  rw [e1, e2]
  by_cases h4 : n.kind = 4
  · rw [decide_eq_true (Or.inl h4), Bool.true_or]; exact fields_0a w n h1 h2 h3 h5 h6 h7 h4 A m c
  · by_cases h8 : n.kind = 8
    · rw [decide_eq_true (Or.inr h8), Bool.true_or]; exact fields_0b w n h1 h2 h3 h5 h6 h7 h8 A m c
    · rw [decide_eq_false (by omega), Bool.false_or]; exact fields_0c w n h1 h2 h3 h5 h6 h7 h4 h8 A m c
def eqR (a b : Rf) : Bool := decide (a.sh = b.sh) && (decide (a.c = b.c) && (decide (a.r = b.r) && ((a.ac == b.ac) && (a.ar == b.ar))))
theorem eqR_iff (a b : Rf) : eqR a b = true ↔ a = b := by
  unfold eqR
  simp only [Bool.and_eq_true, decide_eq_true_iff, beq_iff_eq]
  cases a; cases b
  simp
theorem eqR_of {a b : Rf} (h1 : a.sh.toList = b.sh.toList) (h2 : a.c = b.c) (h3 : a.r = b.r) (h4 : a.ac = b.ac) (h5 : a.ar = b.ar) : eqR a b = true := by
  have hs : a.sh = b.sh := by
    by_cases h : a.sh = b.sh
    · exact h
    · exact absurd h1 (text_ne _ _ h)
  rw [eqR_iff]
  cases a; cases b
  simp only at hs h2 h3 h4 h5
  rw [hs, h2, h3, h4, h5]
def isNd (n : Nd) (m : Nat) : Bool := okF n && (hkB n.kind m && (decide (n.num = (namedN n).num) && (decide (n.text = (namedN n).text) && (eqR n.ref (namedN n).ref && eqR n.to (namedN n).to))))

set_option maxRecDepth 100000 in
set_option maxHeartbeats 4000000 in
theorem isNode_any (w : World) (n : Nd) (hv : Vars w) (hs : n.text.size ≤ 1000000) (hr : n.ref.sh.size ≤ 1000000) (ht : n.to.sh.size ≤ 1000000) (A : Option Addr) (m c : Nat) (hm : m ≤ maxLen) :
    Calls Tryz.prog 28 #[.agg #[.int .i64 n.kind, .int .i64 n.num, .string n.text, .string n.ref.sh, .int .i64 n.ref.c, .int .i64 n.ref.r, .bool n.ref.ac, .bool n.ref.ar, .string n.to.sh, .int .i64 n.to.c, .int .i64 n.to.r, .bool n.to.ac, .bool n.to.ar, .slice A m c]] w fun e w' => e = .returned (.bool (isNd n m)) ∧ Below w.heap.size w w' := by
  obtain ⟨N, hN⟩ : ∃ N, namedN n = N := ⟨_, rfl⟩
  obtain ⟨ok, hok⟩ : ∃ ok, okF n = ok := ⟨_, rfl⟩
  obtain ⟨hk, hhk⟩ : ∃ hk, hkB n.kind m = hk := ⟨_, rfl⟩
  have HI := Lib.hid (show isNd n m = (ok && (hk && (decide (n.num = N.num) && (decide (n.text = N.text) && (eqR n.ref N.ref && eqR n.to N.to))))) by unfold isNd; rw [hN, hok, hhk])
  have HF := Lib.hid (show ∀ w, Vars w → Calls Tryz.prog 49 #[.agg #[.int .i64 n.kind, .int .i64 n.num, .string n.text, .string n.ref.sh, .int .i64 n.ref.c, .int .i64 n.ref.r, .bool n.ref.ac, .bool n.ref.ar, .string n.to.sh, .int .i64 n.to.c, .int .i64 n.to.r, .bool n.to.ac, .bool n.to.ar, .slice A m c]] w fun e w' => e = .returned (.tuple #[.agg #[.int .i64 N.kind, .int .i64 N.num, .string N.text, .string N.ref.sh, .int .i64 N.ref.c, .int .i64 N.ref.r, .bool N.ref.ac, .bool N.ref.ar, .string N.to.sh, .int .i64 N.to.c, .int .i64 N.to.r, .bool N.to.ac, .bool N.to.ar, .slice none 0 0], .bool ok]) ∧ Below w.heap.size w w' from fun w hv => by rw [← hN, ← hok]; exact fields_any w n hv hs hr ht A m c)
  have HH := Lib.hid (show ∀ w, Calls Tryz.prog 50 #[.agg #[.int .i64 n.kind, .int .i64 n.num, .string n.text, .string n.ref.sh, .int .i64 n.ref.c, .int .i64 n.ref.r, .bool n.ref.ac, .bool n.ref.ar, .string n.to.sh, .int .i64 n.to.c, .int .i64 n.to.r, .bool n.to.ac, .bool n.to.ar, .slice A m c]] w fun e w' => e = .returned (.bool hk) ∧ Below w.heap.size w w' from fun w => by rw [← hhk]; exact hasKids_any n A m c hm w)
  have hx : NdAt (w.alloc (.cells #[.int .i64 n.kind, .int .i64 n.num, .string n.text, .string n.ref.sh, .int .i64 n.ref.c, .int .i64 n.ref.r, .bool n.ref.ac, .bool n.ref.ar, .string n.to.sh, .int .i64 n.to.c, .int .i64 n.to.r, .bool n.to.ac, .bool n.to.ar, .slice A m c] 27)) w.heap.size n (.slice A m c) := NdAt.new w n _
  have HB := Lib.hid ((Below.refl w.heap.size w).alloc (Nat.le_refl _) (.cells #[.int .i64 n.kind, .int .i64 n.num, .string n.text, .string n.ref.sh, .int .i64 n.ref.c, .int .i64 n.ref.r, .bool n.ref.ac, .bool n.ref.ar, .string n.to.sh, .int .i64 n.to.c, .int .i64 n.to.r, .bool n.to.ac, .bool n.to.ar, .slice A m c] 27))
  have HV := Lib.hid hv
  clear hN hok hhk hv
  go_enter Tryz.func28, Tryz.ntmps28
  go_upto_region 1 with (fail)
  generalize w.alloc (.cells #[.int .i64 n.kind, .int .i64 n.num, .string n.text, .string n.ref.sh, .int .i64 n.ref.c, .int .i64 n.ref.r, .bool n.ref.ac, .bool n.ref.ar, .string n.to.sh, .int .i64 n.to.c, .int .i64 n.to.r, .bool n.to.ac, .bool n.to.ar, .slice A m c] 27) = w1 at hx HB ⊢
  generalize hb0 : w.heap.size = b0 at hx ⊢
  obtain ⟨x0, x1, x2, x3, x4, x5, x6, x7, x8, x9, x10, x11, x12, x13⟩ := hx.cells
  have HX := Lib.hid hx
  clear hx
  go_upto_region 2 with (go_at_call 49; ((with_reducible refine (HF.out _ (HV.out.below HB.out)).mono ?_); rintro e w2 ⟨rfl, h1⟩; have HX2 := Lib.hid (HX.out.below h1 HX.out.lt); have HB2 := Lib.hid (HB.out.trans (h1.mono HB.out.size)); clear h1))
  have hB3 : Below w2.heap.size w2 (w2.alloc (.cells #[.int .i64 N.kind, .int .i64 N.num, .string N.text, .string N.ref.sh, .int .i64 N.ref.c, .int .i64 N.ref.r, .bool N.ref.ac, .bool N.ref.ar, .string N.to.sh, .int .i64 N.to.c, .int .i64 N.to.r, .bool N.to.ac, .bool N.to.ar, .slice none 0 0] 27)) := (Below.refl _ _).alloc (Nat.le_refl _) _
  have hy : NdAt (w2.alloc (.cells #[.int .i64 N.kind, .int .i64 N.num, .string N.text, .string N.ref.sh, .int .i64 N.ref.c, .int .i64 N.ref.r, .bool N.ref.ac, .bool N.ref.ar, .string N.to.sh, .int .i64 N.to.c, .int .i64 N.to.r, .bool N.to.ac, .bool N.to.ar, .slice none 0 0] 27)) w2.heap.size N (.slice none 0 0) := NdAt.new w2 N _
  have HX3 := Lib.hid (HX2.out.below hB3 HX2.out.lt)
  have HB3 := Lib.hid (HB2.out.trans (hB3.mono HB2.out.size))
  clear hB3 x0 x1 x2 x3 x4 x5 x6 x7 x8 x9 x10 x11 x12 x13
  generalize hb3 : w2.heap.size = b3 at hy ⊢
  generalize w2.alloc (.cells #[.int .i64 N.kind, .int .i64 N.num, .string N.text, .string N.ref.sh, .int .i64 N.ref.c, .int .i64 N.ref.r, .bool N.ref.ac, .bool N.ref.ar, .string N.to.sh, .int .i64 N.to.c, .int .i64 N.to.r, .bool N.to.ac, .bool N.to.ar, .slice none 0 0] 27) = w3 at hy HX3 HB3 ⊢
  clear hb3
  have HY3 := Lib.hid hy
  clear hy
  cases ok
  · obtain ⟨x0, x1, x2, x3, x4, x5, x6, x7, x8, x9, x10, x11, x12, x13⟩ := HX3.out.cells
    have HR := Lib.hid (show isNd n m = false by rw [HI.out]; rfl)
    go_wp2_with fail
    go_ret
    exact ⟨by rw [HR.out] <;> rfl, HB3.out⟩
  have go1 := HX3.out.cells
  obtain ⟨x0, x1, x2, x3, x4, x5, x6, x7, x8, x9, x10, x11, x12, x13⟩ := go1
  cases hk
  · have HR := Lib.hid (show isNd n m = false by rw [HI.out]; rfl)
    go_wp2_with (go_at_call 50; ((with_reducible refine (HH.out _).mono ?_); rintro e w4 ⟨rfl, h1⟩; have HB4 := Lib.hid (HB3.out.trans (h1.mono HB3.out.size)); clear h1))
    go_ret
    exact ⟨by rw [HR.out] <;> rfl, HB4.out⟩
  by_cases hnum : n.num = N.num
  rotate_left
  · have HR := Lib.hid (show isNd n m = false by rw [HI.out, decide_eq_false hnum]; rfl)
    have en : (n.num == N.num) = false := beq_eq_false_iff_ne.2 hnum
    go_wp2_with (go_at_call 50; ((with_reducible refine (HH.out _).mono ?_); rintro e w4 ⟨rfl, h1⟩; have HB4 := Lib.hid (HB3.out.trans (h1.mono HB3.out.size)); obtain ⟨z0, z1, z2, z3, z4, z5, z6, z7, z8, z9, z10, z11, z12, z13⟩ := (HX3.out.below h1 HX3.out.lt).cells; obtain ⟨y0, y1, y2, y3, y4, y5, y6, y7, y8, y9, y10, y11, y12, y13⟩ := (HY3.out.below h1 HY3.out.lt).cells; clear h1))
    go_ret
    exact ⟨by rw [HR.out] <;> rfl, HB4.out⟩
  have en : (n.num == N.num) = true := beq_iff_eq.2 hnum
  by_cases htx : n.text = N.text
  rotate_left
  · have HR := Lib.hid (show isNd n m = false by rw [HI.out, decide_eq_true hnum, decide_eq_false htx]; rfl)
    have et : (n.text.toList == N.text.toList) = false := beq_eq_false_iff_ne.2 (text_ne _ _ htx)
    clear hnum htx
    go_wp2_with (go_at_call 50; ((with_reducible refine (HH.out _).mono ?_); rintro e w4 ⟨rfl, h1⟩; have HB4 := Lib.hid (HB3.out.trans (h1.mono HB3.out.size)); obtain ⟨z0, z1, z2, z3, z4, z5, z6, z7, z8, z9, z10, z11, z12, z13⟩ := (HX3.out.below h1 HX3.out.lt).cells; obtain ⟨y0, y1, y2, y3, y4, y5, y6, y7, y8, y9, y10, y11, y12, y13⟩ := (HY3.out.below h1 HY3.out.lt).cells; clear h1))
    go_ret
    exact ⟨by rw [HR.out] <;> rfl, HB4.out⟩
  have et : (n.text.toList == N.text.toList) = true := by rw [htx]; simp
  have HR := Lib.hid (show isNd n m = (eqR n.ref N.ref && eqR n.to N.to) by rw [HI.out, decide_eq_true hnum, decide_eq_true htx]; rfl)
  clear hnum htx
  go_wp2_with (go_at_call 50; ((with_reducible refine (HH.out _).mono ?_); rintro e w4 ⟨rfl, h1⟩; have HB4 := Lib.hid (HB3.out.trans (h1.mono HB3.out.size)); obtain ⟨z0, z1, z2, z3, z4, z5, z6, z7, z8, z9, z10, z11, z12, z13⟩ := (HX3.out.below h1 HX3.out.lt).cells; obtain ⟨y0, y1, y2, y3, y4, y5, y6, y7, y8, y9, y10, y11, y12, y13⟩ := (HY3.out.below h1 HY3.out.lt).cells; clear h1))
  all_goals go_ret
  all_goals first
    | exact ⟨by rw [HR.out, eqR_of ‹n.ref.sh.toList = N.ref.sh.toList› ‹n.ref.c = N.ref.c› ‹n.ref.r = N.ref.r› ‹n.ref.ac = N.ref.ac› ‹n.ref.ar = N.ref.ar›, eqR_of ‹n.to.sh.toList = N.to.sh.toList› ‹n.to.c = N.to.c› ‹n.to.r = N.to.r› ‹n.to.ac = N.to.ac› ‹n.to.ar = N.to.ar›] <;> rfl, HB4.out⟩
    | (have key : (eqR n.ref N.ref && eqR n.to N.to) = false := by
        cases hq : (eqR n.ref N.ref && eqR n.to N.to)
        · rfl
        · exfalso
          rw [Bool.and_eq_true, eqR_iff, eqR_iff] at hq
          obtain ⟨q1, q2⟩ := hq
          first
            | exact absurd (by rw [q1]) ‹¬ n.ref.sh.toList = N.ref.sh.toList›
            | exact absurd (by rw [q1]) ‹¬ n.ref.c = N.ref.c›
            | exact absurd (by rw [q1]) ‹¬ n.ref.r = N.ref.r›
            | exact absurd (by rw [q1]) ‹¬ n.ref.ac = N.ref.ac›
            | exact absurd (by rw [q1]) ‹¬ n.ref.ar = N.ref.ar›
            | exact absurd (by rw [q2]) ‹¬ n.to.sh.toList = N.to.sh.toList›
            | exact absurd (by rw [q2]) ‹¬ n.to.c = N.to.c›
            | exact absurd (by rw [q2]) ‹¬ n.to.r = N.to.r›
            | exact absurd (by rw [q2]) ‹¬ n.to.ac = N.to.ac›
            | exact absurd (by rw [q2]) ‹¬ n.to.ar = N.to.ar›
       exact ⟨by rw [HR.out, key] <;> rfl, HB4.out⟩)
end Go.Proofs.YtkdamdmnchcceaaGreatDoor
