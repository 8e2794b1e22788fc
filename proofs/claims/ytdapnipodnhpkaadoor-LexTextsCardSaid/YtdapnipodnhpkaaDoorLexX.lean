/-
  'chequerlaw4.LexBlanks', walked.
-/
import Derived.Test.YtdapnipodnhpkaaDoorLexW
import Derived.Test.YtdapnipodnhpkaaDoorLexK
namespace Go.Proofs.YtdapnipodnhpkaaDoor
open Go.RowKit

theorem Ups.head {p q i : Nat} {ts : List Tk} {t : Tk} (h : Ups p q (ts.drop i)) (ht : ts[i]? = some t) : ∃ m : Nat, t.pos = (m : Int) ∧ p ≤ m ∧ m ≤ q ∧ Ups m q (ts.drop (i + 1)) := by
  have hlt := (List.getElem?_eq_some_iff.1 ht).1
  have hd : ts.drop i = t :: ts.drop (i + 1) := by
    rw [List.drop_eq_getElem_cons hlt]
    rw [List.getElem?_eq_getElem hlt] at ht
    rw [Option.some.inj ht]
  rw [hd] at h; exact h
theorem Ups.le {p q : Nat} : ∀ {ts : List Tk}, Ups p q ts → p ≤ q
  | [], h => h
  | _ :: _, ⟨_, _, h2, h3, _⟩ => Nat.le_trans h2 h3

theorem num_is (x : Int) (w : World) : Calls Tryd.prog 10 #[.int .i64 x] w fun e w' => e = .returned (.int .i64 x) ∧ w = w' := by
  go_enter Tryd.func10, Tryd.ntmps10
  go_wp2
  go_ret
  exact ⟨rfl, rfl⟩
theorem drew_below {w w' : World} (h : Below w.heap.size w w') (n : Nat) : Below w.heap.size w (w'.drewN n) := ⟨h.os, h.tape, h.output, h.size, h.block⟩
theorem lex_over (s : ByteArray) (w : World) (hv : Vars w) (hs : 300 < s.size) :
    Calls Tryd.prog 8 #[.string s] w fun e w' => Below w.heap.size w w' ∧ e = .returned (.tuple #[.slice none 0 0, .int .i64 4]) := by
  refine (lex_any s w hv).mono ?_
  rintro e w' ⟨hb, ⟨_, rfl⟩ | ⟨h, _⟩ | ⟨h, _⟩⟩
  · exact ⟨hb, rfl⟩
  · omega
  · omega
set_option maxRecDepth 100000 in
set_option maxHeartbeats 4000000 in
theorem blanks_some (s : ByteArray) (A : Option Addr) (len cap : Nat) (xs : List Int) (w : World) (hv : Vars w) (hx : S8 w w.heap.size A len cap xs) (h2 : s.size ≤ 200) (h6 : len ≤ 60) (ts : List Tk) (hl : lexL (sb s) = some ts) :
    Calls Tryd.prog 4 #[.string s, .slice A len cap] w fun e w' => e = .returned (.bool true) ∧ Below w.heap.size w w' := by
  have HV := Lib.hid hv; clear hv
  have hne := lexL_ne s ts hl
  have hnl := List.length_pos_iff.2 hne
  have hlen := lexL_len s ts hl
  have HX := Lib.hid hx
  have hxl := hx.hlen
  have HL1 := Lib.hid (fun w hv => lex_is s w hv (by omega) ts hl hnl)
  have HUPS := Lib.hid (lexL_ups s ts hl)
  have HLX := Lib.hid hl
  have hi1 : ¬ (200 : Int) < (s.size : Int) := by omega
  have hi2 : ¬ (60 : Int) < (len : Int) := by omega
  obtain ⟨nt, hnt⟩ : ∃ nt, ts.length = nt := ⟨_, rfl⟩
  rw [hnt] at HL1
  have HNT := Lib.hid hnt
  clear hx hl hne
  go_enter Tryd.func4, Tryd.ntmps4
  go_wp2_with (first
    | (go_at_call 8; ((with_reducible refine (HL1.out _ HV.out).mono ?_); rintro e w1 ⟨hb, g1, cap1, rfl, hg0, hg1, ho⟩; have HO := Lib.hid ho; have HB := Lib.hid hb; have HX1 := Lib.hid (HX.out.below hb (Nat.le_refl _)); clear hb ho))
    | (go_at_call 10; ((with_reducible refine (num_is _ _).mono ?_); rintro e wn ⟨rfl, rfl⟩)))
  go_loopw [7, 8, 9] (fun t last i wr => ∃ (j m : Nat) (T : ByteArray), j ≤ nt ∧ t = .string T ∧ last = .int .i64 (m : Int) ∧ i = .int .i64 (j : Int) ∧ T.size ≤ m + 2 * j ∧ Hid (Piece s ts xs j m (sb T)) ∧ Hid (Ups m s.size (ts.drop j)) ∧ w1 = wr)
    (fun _ _ i _ => nt - (intOf i).toNat)
  case atStart => exact ⟨0, 0, ⟨#[]⟩, by omega, rfl, rfl, rfl, by decide, Lib.hid (piece_start s ts xs), Lib.hid (by rw [List.drop_zero]; exact HUPS.out), rfl⟩
  case round =>
    obtain ⟨j, m, T, hj, rfl, rfl, rfl, hTz, HP, HU, rfl⟩ := hrel
    by_cases hlt : j < nt
    · have hji : (j : Int) < (nt : Int) := by omega
      obtain ⟨t, ht⟩ : ∃ t, ts[j]? = some t := by
        have := HNT.out
        exact ⟨_, List.getElem?_eq_getElem (by omega)⟩
      obtain ⟨q, hq1, hq2, hq3, hq4⟩ := Ups.head HU.out ht
      have k8 := OwnT.cell HO.out j t ht 8 (by omega)
      simp only [tokA] at k8
      simp at k8
      rw [hq1] at k8
      have hle1 : ¬ (q : Int) < (m : Int) := by omega
      have hle2 : ¬ (s.size : Int) < (q : Int) := by omega
      have hle3 : (m : Int) ≤ (q : Int) := by omega
      have hle4 : (q : Int) ≤ (s.size : Int) := by omega
      have hcz : (s.extract m q).size = q - m := by rw [ByteArray.size_extract]; omega
      have hsum : T.size + (s.extract m q).size ≤ 1000 := by rw [hcz]; have := HNT.out; omega
      have hpn := piece_next HP.out ht hq1 hq2 hq3
      have hT1z : (T ++ s.extract m q).size ≤ q + 2 * j := by rw [ByteArray.size_append, hcz]; omega
      have hT1s : sb (T ++ s.extract m q) = sb T ++ sb (s.extract m q) := sb_append _ _
      rw [← hT1s] at hpn
      have HPN := Lib.hid hpn
      have HU2 := Lib.hid hq4
      have HTT := Lib.hid ht
      have hntz : nt ≤ 201 := by have := HNT.out; omega
      clear hpn HP HU hT1s hq4 ht
      by_cases hjl : j < xs.length
      · have hjl2 : (j : Int) < (len : Int) := by omega
        rw [if_pos hjl] at HPN
        obtain ⟨x, hxe⟩ : ∃ x, xs.getD j 0 = x := ⟨_, rfl⟩
        have hxb : 0 ≤ x ∧ x ≤ 255 := by rw [← hxe]; exact HX1.out.bytes.get j
        obtain ⟨pb, po, hA, _, hcell⟩ := HX1.out.at_.resolve_left (by omega)
        have kx := hcell j (by omega)
        rw [hxe] at kx HPN
        subst hA
        obtain ⟨c, hc⟩ : ∃ c : Nat, x % 3 = (c : Int) := ⟨(x % 3).toNat, by omega⟩
        have hc2 : c ≤ 2 := by omega
        rw [show (x % 3).toNat = c by omega] at HPN
        clear hcell hxe
        go_wp2_with fail
        go_loopw [7, 10] (fun t k wr => ∃ (d : Nat) (T2 : ByteArray), d ≤ c ∧ k = .int .i64 (d : Int) ∧ t = .string T2 ∧ T2.size = (T ++ s.extract m q).size + d ∧ Hid (sb T2 = sb (T ++ s.extract m q) ++ List.replicate d 32) ∧ w1 = wr)
          (fun _ k _ => c - (intOf k).toNat)
        case atStart => exact ⟨0, _, by omega, rfl, rfl, rfl, Lib.hid (by simp), rfl⟩
        case round =>
          obtain ⟨d, T2, hd, rfl, rfl, hT2, HT2, rfl⟩ := hrel
          by_cases hdc : d < c
          · have hdc2 : (d : Int) < (c : Int) := by omega
            have hz5 : T2.size + (⟨#[32]⟩ : ByteArray).size ≤ 2000 := by show T2.size + 1 ≤ 2000; omega
            go_wp2_with fail
            go_roundw
            case rel => exact ⟨d + 1, _, by omega, by go_num, rfl, by rw [ByteArray.size_append, hT2]; rfl, Lib.hid (by rw [sb_append, HT2.out, List.replicate_succ', List.append_assoc]; rfl), by trivial⟩
            case measure => simp [intOf]; omega
          · have hdc2 : ¬ (d : Int) < (c : Int) := by omega
            have hdc3 : d = c := by omega
            subst hdc3
            go_wp2_with fail
            go_roundw
            case rel => exact ⟨j + 1, q, T2, by omega, rfl, rfl, by go_num, by omega, Lib.hid (by rw [HT2.out]; exact HPN.out), HU2, by trivial⟩
            case measure => simp [intOf]; omega
      · have hjl2 : ¬ (j : Int) < (len : Int) := by omega
        rw [if_neg hjl, List.replicate_zero, List.append_nil] at HPN
        go_wp2_with fail
        obtain ⟨c, hc⟩ : ∃ c : Nat, c = 0 := ⟨0, rfl⟩
        go_loopw [7, 10] (fun t k wr => ∃ (d : Nat) (T2 : ByteArray), d ≤ c ∧ k = .int .i64 (d : Int) ∧ t = .string T2 ∧ T2.size = (T ++ s.extract m q).size + d ∧ Hid (sb T2 = sb (T ++ s.extract m q) ++ List.replicate d 32) ∧ w1 = wr)
          (fun _ k _ => c - (intOf k).toNat)
        case atStart => exact ⟨0, _, by omega, rfl, rfl, rfl, Lib.hid (by simp), rfl⟩
        case round =>
          obtain ⟨d, T2, hd, rfl, rfl, hT2, HT2, rfl⟩ := hrel
          have HT3 := Lib.hid (show sb T2 = sb (T ++ s.extract m q) by rw [HT2.out, show d = 0 by omega]; simp)
          go_wp2_with fail
          go_roundw
          case rel => exact ⟨j + 1, q, T2, by omega, rfl, rfl, by go_num, by omega, Lib.hid (by rw [HT3.out]; exact HPN.out), HU2, by trivial⟩
          case measure => simp [intOf]; omega
    · have hji : ¬ (j : Int) < (nt : Int) := by omega
      have hjn : j = nt := by omega
      subst hjn
      have hP := HP.out
      rw [← HNT.out] at hP
      have hend := piece_end hP
      have hms := HU.out.le
      have hle4 : (m : Int) ≤ (s.size : Int) := by omega
      have hcz : (s.extract m s.size).size = s.size - m := by rw [ByteArray.size_extract]; omega
      have hsum : T.size + (s.extract m s.size).size ≤ 1000 := by rw [hcz]; have := HNT.out; omega
      have htt : sb (T ++ s.extract m s.size) = ins 0 (sb s) ts (blanks xs) := by rw [sb_append, restL_ext s m hms, hend]
      obtain ⟨us, hu1, hu2⟩ := lex_blanks HLX.out htt
      clear hP hend HP HU htt
      obtain ⟨T2, hT2⟩ : ∃ T2, T ++ s.extract m s.size = T2 := ⟨_, rfl⟩
      rw [hT2] at hu1
      by_cases hbig : 300 < T2.size
      · have hbi : (300 : Int) < (T2.size : Int) := by omega
        have HL2 := Lib.hid (fun w hv => lex_over T2 w hv hbig)
        clear hu1 hu2
        go_wp2_with (first
          | (go_at_call 8; ((with_reducible refine (HL2.out _ (HV.out.below HB.out)).mono ?_); rintro e w2 ⟨hb, rfl⟩; have HB := Lib.hid (HB.out.trans (hb.mono HB.out.size)); clear hb))
          | (go_at_call 10; ((with_reducible refine (num_is _ _).mono ?_); rintro e wn ⟨rfl, rfl⟩))
          | (go_at_call 7; ((with_reducible refine (lexAwake_any _ (HV.out.below HB.out)).mono ?_); rintro e w3 ⟨rfl, h1⟩; have HB := Lib.hid (HB.out.trans (h1.mono HB.out.size)); clear h1)))
        go_ret
        exact ⟨rfl, HB.out⟩
      · have hbi : ¬ (300 : Int) < (T2.size : Int) := by omega
        have hul : us.length = j := by
          have := congrArg List.length hu2
          rw [List.length_map, List.length_map, HNT.out] at this; exact this
        have HL2 := Lib.hid (fun w hv => by have := lex_is T2 w hv (by omega) us hu1 (by omega); rw [hul] at this; exact this)
        have HEQ := Lib.hid hu2
        have HUL := Lib.hid hul
        clear hu1 hu2 hul
        go_wp2_with (first
          | (go_at_call 8; ((with_reducible refine (HL2.out _ (HV.out.below HB.out)).mono ?_); rintro e w2 ⟨hb, g2, cap2, rfl, hg2, hg3, ho⟩; have HO2 := Lib.hid ho; have HO := Lib.hid (Own.below HO.out hb (Nat.le_refl _)); have HB := Lib.hid (HB.out.trans (hb.mono HB.out.size)); clear hb ho))
          | (go_at_call 10; ((with_reducible refine (num_is _ _).mono ?_); rintro e wn ⟨rfl, rfl⟩)))
        go_loopw [13] (fun i wr => ∃ (a n : Nat), a ≤ j ∧ i = .int .i64 (a : Int) ∧ w2.drewN n = wr)
          (fun i _ => j - (intOf i).toNat)
        case atStart => exact ⟨0, 0, by omega, rfl, rfl⟩
        case round =>
          obtain ⟨a, n, ha, rfl, rfl⟩ := hrel
          by_cases hlt : a < j
          · have hai : (a : Int) < (j : Int) := by omega
            obtain ⟨t, ht⟩ : ∃ t, ts[a]? = some t := ⟨_, List.getElem?_eq_getElem (by have := HNT.out; omega)⟩
            obtain ⟨u, hu⟩ : ∃ u, us[a]? = some u := ⟨_, List.getElem?_eq_getElem (by have := HUL.out; omega)⟩
            have heq : u.goto 0 = t.goto 0 := by
              have := congrArg (·[a]?) HEQ.out
              simp only [List.getElem?_map, ht, hu, Option.map_some, Option.some.injEq] at this
              exact this
            simp only [Tk.goto, Tk.mk.injEq, and_true] at heq
            obtain ⟨e0, e1, e2, e3, e4, e5, e6, e7⟩ := heq
            have k0 := OwnT.cell HO.out a t ht 0 (by omega)
            have k1 := OwnT.cell HO.out a t ht 1 (by omega)
            have k2 := OwnT.cell HO.out a t ht 2 (by omega)
            have k3 := OwnT.cell HO.out a t ht 3 (by omega)
            have k4 := OwnT.cell HO.out a t ht 4 (by omega)
            have k5 := OwnT.cell HO.out a t ht 5 (by omega)
            have k6 := OwnT.cell HO.out a t ht 6 (by omega)
            have k7 := OwnT.cell HO.out a t ht 7 (by omega)
            have v0 := OwnT.cell HO2.out a u hu 0 (by omega)
            have v1 := OwnT.cell HO2.out a u hu 1 (by omega)
            have v2 := OwnT.cell HO2.out a u hu 2 (by omega)
            have v3 := OwnT.cell HO2.out a u hu 3 (by omega)
            have v4 := OwnT.cell HO2.out a u hu 4 (by omega)
            have v5 := OwnT.cell HO2.out a u hu 5 (by omega)
            have v6 := OwnT.cell HO2.out a u hu 6 (by omega)
            have v7 := OwnT.cell HO2.out a u hu 7 (by omega)
            simp [tokA] at k0 k1 k2 k3 k4 k5 k6 k7 v0 v1 v2 v3 v4 v5 v6 v7
            rw [e0] at v0; rw [e1] at v1; rw [e2] at v2; rw [e3] at v3; rw [e4] at v4; rw [e5] at v5; rw [e6] at v6; rw [e7] at v7
            clear e0 e1 e2 e3 e4 e5 e6 e7
            go_wp2_with fail
            go_quiet (fail)
            go_wp2_with fail
            go_roundw
            case rel => exact ⟨a + 1, _, by omega, by go_num, rfl⟩
            case measure => simp [intOf]; omega
          · have hai : ¬ (a : Int) < (j : Int) := by omega
            have HBn := Lib.hid (drew_below HB.out n)
            clear HB
            go_wp2_with (first
              | (go_at_call 7; ((with_reducible refine (lexAwake_any _ (HV.out.below HBn.out)).mono ?_); rintro e w3 ⟨rfl, h1⟩; have HB := Lib.hid (HBn.out.trans (h1.mono HBn.out.size)); clear h1)))
            go_ret
            exact ⟨rfl, HB.out⟩
end Go.Proofs.YtdapnipodnhpkaaDoor
