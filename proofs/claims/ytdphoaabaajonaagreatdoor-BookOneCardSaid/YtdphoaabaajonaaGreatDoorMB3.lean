/-
 Texts of layers, put together.
-/
import Derived.Test.YtdphoaabaajonaaGreatDoorMB2
import Derived.Laws.ResultCell
namespace Go.Proofs.YtdphoaabaajonaaGreatDoor
open Go.RowKit
set_option maxHeartbeats 400000 in
theorem skipBlanks_any (b:Nat) (s:ByteArray) (k:Nat) (w:World) (h:LxAt w b s k) (_hs:s.size≤1000000) (_hk:k≤s.size) :
 Calls Tryz.prog 99 #[.pointer (some ⟨b,0,none⟩)] w fun e w'=>w.grownBy w' (some b)∧e = .returned (.tuple #[])∧LxAt w' b s (k+((restL s k).takeWhile isBl).length):=by
 have HW:=Lib.hid (whileBlank_any b s k w h _hs _hk);clear h
 go_enter Tryz.func99,Tryz.ntmps99
 go_wp2_with (go_at_call 129;((with_reducible refine HW.out.mono ?_);rintro e w1 ⟨h1,rfl,h2⟩;have H1:=Lib.hid h1;have H2:=Lib.hid h2;clear h1 h2))
 first
  | exact bodyPost_ret (results_none rfl _ _ _) rfl ⟨H1.out,rfl,H2.out⟩
  | (go_end0;exact ⟨H1.out,rfl,H2.out⟩)
def headL (p l:List Int):Bool:=decide (l.take p.length=p)
theorem hasPrefix_nums:∀ (l p:List UInt8),Lib.hasPrefix l p=headL (p.map fun x=>(x.toNat:Int)) (l.map fun x=>(x.toNat:Int))
 | l,[]=>by unfold Lib.hasPrefix headL;simp
 | [],x :: p=>by unfold Lib.hasPrefix headL;simp
 | y :: l,x :: p=>by
   have ih:=hasPrefix_nums l p
   unfold Lib.hasPrefix headL at ih ⊢
   rw [List.isPrefixOf_cons_cons,ih]
   simp only [List.map_cons,List.length_cons,List.take_succ_cons,List.cons.injEq]
   rw [Bool.eq_iff_iff,Bool.and_eq_true,beq_iff_eq,decide_eq_true_iff,decide_eq_true_iff]
   refine and_congr ⟨fun h=>by rw [h],fun h => ?_⟩ Iff.rfl
   apply UInt8.toNat_inj.1;omega
theorem headL_len {p l:List Int} (h:headL p l=true):p.length≤l.length:=by
 unfold headL at h;rw [decide_eq_true_iff] at h
 have:=congrArg List.length h
 rw [List.length_take] at this;omega
theorem prefix_rest (s t:ByteArray) (k:Nat):Lib.hasPrefix (s.extract k s.size).data.toList t.data.toList=headL (sb t) (restL s k):=by
 rw [hasPrefix_nums]
 show headL (sb t) (sb (s.extract k s.size))=_
 congr 1
 by_cases hk:k≤s.size
 · have:=ext_sbL s k (s.size - k)
   rw [show k+(s.size - k)=s.size from by omega] at this
   rw [this]
   unfold restL
   rw [List.take_of_length_le]
   rw [List.length_drop,length_sb];omega
 · have h1:(sb (s.extract k s.size)).length=0:=by rw [length_sb,ByteArray.size_extract];omega
   have h2:(restL s k).length=0:=by rw [length_restL];omega
   rw [List.eq_nil_of_length_eq_zero h1,List.eq_nil_of_length_eq_zero h2]
set_option maxHeartbeats 400000 in
theorem take_any (b:Nat) (s t:ByteArray) (k:Nat) (w:World) (h:LxAt w b s k) (_hs:s.size≤1000000) (_hk:k≤s.size) (_ht:t.size≤1000000) :
 Calls Tryz.prog 196 #[.pointer (some ⟨b,0,none⟩),.string t] w fun e w'=>w.grownBy w' (some b)∧e = .returned (.bool (headL (sb t) (restL s k)))∧LxAt w' b s (if headL (sb t) (restL s k)=true then k+t.size else k):=by
 obtain ⟨c0,c1⟩:=h.facts
 have f1:=h.frozen 1
 have HR:=Lib.hid h;clear h
 have hz1:(0:Int)≤(k:Int):=by omega
 have hz2:(k:Int)≤(s.size:Int):=by omega
 cases hq:headL (sb t) (restL s k)
 · have HP:=Lib.hid (prefix_rest s t k);rw [hq] at HP
   go_enter Tryz.func196,Tryz.ntmps196
   go_wp2_with fail
   go_quiet ((go_at_call 208;exact Calls.quiet_of_same ((Tryz.strings_HasPrefix _ _ _).mono (fun _ _ ⟨a,c⟩=>⟨by rw [a,HP.out],c⟩))))
   go_wp2_with fail
   go_ret
   exact ⟨grownBy.drewN' (grownBy.refl' _ _) _,rfl,HR.out.drewN _⟩
 · have HP:=Lib.hid (prefix_rest s t k);rw [hq] at HP
   have hle:=headL_len hq
   rw [length_restL,length_sb] at hle
   go_enter Tryz.func196,Tryz.ntmps196
   go_wp2_with fail
   go_quiet ((go_at_call 208;exact Calls.quiet_of_same ((Tryz.strings_HasPrefix _ _ _).mono (fun _ _ ⟨a,c⟩=>⟨by rw [a,HP.out],c⟩))))
   go_wp2_with fail
   go_ret
   exact ⟨grownBy.setCell' (grownBy.drewN' (grownBy.refl' _ _) _) _ _,rfl,(HR.out.drewN _).setK (k+t.size)⟩
def nmL (l:List Int):Bool:=decide (∀ x∈l,(isCap x||isNum x)=true)&&decide (l.length≤12)
theorem nmL_bad (s:ByteArray) (k:Nat) (h:k<s.size) (hx:(isCap ((sb s).getD k 0)||isNum ((sb s).getD k 0))=false):nmL (sb s)=false:=by
 unfold nmL;rw [Bool.and_eq_false_iff];left;rw [decide_eq_false_iff_not];intro hall
 have:=hall ((sb s).getD k 0) (by rw [sb_getD s k h];exact List.mem_of_getElem? (sb_at s k h))
 rw [hx] at this;cases this
theorem nmL_all (s:ByteArray) (h:∀ j,j<s.size→(isCap ((sb s).getD j 0)||isNum ((sb s).getD j 0))=true):nmL (sb s)=decide (s.size≤12):=by
 unfold nmL;rw [decide_eq_true (show ∀ x∈sb s,(isCap x||isNum x)=true from ?_),Bool.true_and,length_sb]
 intro x hx
 obtain ⟨j,hj,rfl⟩:=List.mem_iff_getElem.1 hx
 have:=h j (by rw [length_sb] at hj;exact hj)
 rw [List.getD_eq_getElem?_getD,List.getElem?_eq_getElem hj] at this
 exact this
set_option maxRecDepth 100000 in
set_option maxHeartbeats 400000 in
theorem isName_any (s:ByteArray) (w:World) (_hs:s.size≤1000000) :
 Calls Tryz.prog 200 #[.string s] w fun e w'=>e = .returned (.bool (nmL (sb s)))∧w=w':=by
 go_enter Tryz.func200,Tryz.ntmps200
 go_wp2_with fail
 go_loopw [6] (fun i wr=>∃ k:Nat,k≤s.size∧i = .int .i64 k∧Hid (∀ j,j<k→(isCap ((sb s).getD j 0)||isNum ((sb s).getD j 0))=true)∧w=wr)
  (fun i _=>s.size - (intOf i).toNat)
 case atStart=>exact ⟨0,by omega,rfl,Lib.hid (by intro j hj;omega),rfl⟩
 case round =>
  obtain ⟨k,hk,rfl,HG,rfl⟩:=hrel
  by_cases hlt:k<s.size
  · have hki:(k:Int)<(s.size:Int):=by omega
    obtain ⟨a,ha⟩:∃ a:Int,(s[k].toNat:Int)=a:=⟨_,rfl⟩
    have ha1:0≤a∧a≤255:=by have:=s[k].toNat_lt;omega
    have HGB:=Lib.hid (show (sb s).getD k 0=a by rw [sb_getD s k hlt,ha])
    have hnext:(isCap a||isNum a)=true→∀ j,j<k+1→(isCap ((sb s).getD j 0)||isNum ((sb s).getD j 0))=true:=by
     intro h j hj
     by_cases h1:j<k
     · exact HG.out j h1
     · rw [show j=k from by omega,HGB.out];exact h
    have HNEXT:=Lib.hid hnext;clear hnext
    cases hc:isCap a
    · cases hn:isNum a
      · have HNO:=Lib.hid (nmL_bad s k hlt (by rw [HGB.out,hc,hn];rfl))
        go_wp2_with (first
         | (go_at_call 197;((with_reducible refine (lexCapital_any _ ?_ ?_ _).mono ?_);(first | omega | skip);(first | omega | skip);rintro e w' ⟨rfl,rfl⟩;rw [hc]))
         | (go_at_call 168;((with_reducible refine (lexDigit_any _ ?_ ?_ _).mono ?_);(first | omega | skip);(first | omega | skip);rintro e w' ⟨rfl,rfl⟩;rw [hn])))
        go_ret
        exact ⟨ret_bool HNO.out.symm,rfl⟩
      · go_wp2_with (first
         | (go_at_call 197;((with_reducible refine (lexCapital_any _ ?_ ?_ _).mono ?_);(first | omega | skip);(first | omega | skip);rintro e w' ⟨rfl,rfl⟩;rw [hc]))
         | (go_at_call 168;((with_reducible refine (lexDigit_any _ ?_ ?_ _).mono ?_);(first | omega | skip);(first | omega | skip);rintro e w' ⟨rfl,rfl⟩;rw [hn])))
        go_roundw
        case rel=>exact ⟨k+1,by omega,by go_num,Lib.hid (HNEXT.out (by rw [hc,hn];rfl)),by trivial⟩
        case measure=>simp [intOf];omega
    · go_wp2_with (first
       | (go_at_call 197;((with_reducible refine (lexCapital_any _ ?_ ?_ _).mono ?_);(first | omega | skip);(first | omega | skip);rintro e w' ⟨rfl,rfl⟩;rw [hc])))
      go_roundw
      case rel=>exact ⟨k+1,by omega,by go_num,Lib.hid (HNEXT.out (by rw [hc];rfl)),by trivial⟩
      case measure=>simp [intOf];omega
  · have hki:¬ (k:Int)<(s.size:Int):=by omega
    have HA:=Lib.hid (nmL_all s (fun j hj=>HG.out j (by omega)))
    go_wp2_with fail
    go_ret
    refine ⟨ret_bool (by rw [HA.out,decide_eq_decide];omega),rfl⟩
def methN (c:Int):FuncId:=if isNum c=true then 169 else if c=34 then 170 else if c=35 then 171 else if isBeg c=true then 173 else 174
theorem methN_num {c:Int} (h:isNum c=true):methN c=169:=by unfold methN;rw [if_pos h]
theorem methN_quo {c:Int} (h:isNum c=false) (h1:c=34):methN c=170:=by unfold methN;rw [if_neg (by simp [h]),if_pos h1]
theorem methN_dead {c:Int} (h:isNum c=false) (h1:¬ c=34) (h2:c=35):methN c=171:=by unfold methN;rw [if_neg (by simp [h]),if_neg h1,if_pos h2]
theorem methN_word {c:Int} (h:isNum c=false) (h1:¬ c=34) (h2:¬ c=35) (h3:isBeg c=true):methN c=173:=by unfold methN;rw [if_neg (by simp [h]),if_neg h1,if_neg h2,if_pos h3]
theorem methN_sign {c:Int} (h:isNum c=false) (h1:¬ c=34) (h2:¬ c=35) (h3:isBeg c=false):methN c=174:=by unfold methN;rw [if_neg (by simp [h]),if_neg h1,if_neg h2,if_neg (by simp [h3])]
set_option maxHeartbeats 400000 in
theorem methodOf_any (c:Int) (_h0:0≤c) (_h1:c≤255) (w:World) :
 Calls Tryz.prog 131 #[.int .u8 c] w fun e w'=>e = .returned (.func (.func (methN c)) #[] #[])∧w=w':=by
 cases hn:isNum c
 · by_cases h34:c=34
   · have HM:=Lib.hid (methN_quo hn h34)
     have hb1:(c == 34)=true:=beq_iff_eq.2 h34
     clear h34
     go_enter Tryz.func131,Tryz.ntmps131
     go_wp2_with (first
      | (go_at_call 168;((with_reducible refine (lexDigit_any _ ?_ ?_ _).mono ?_);(first | omega | skip);(first | omega | skip);rintro e w' ⟨rfl,rfl⟩;rw [hn]))
      | (go_at_call 172;((with_reducible refine (beginsWord_any _ ?_ ?_ _).mono ?_);(first | omega | skip);(first | omega | skip);rintro e w' ⟨rfl,rfl⟩;rw [hb])))
     all_goals go_ret
     all_goals exact ⟨by rw [HM.out];rfl,rfl⟩
   · have hb1:(c == 34)=false:=beq_eq_false_iff_ne.2 h34
     by_cases h35:c=35
     · have HM:=Lib.hid (methN_dead hn h34 h35)
       have hb2:(c == 35)=true:=beq_iff_eq.2 h35
       clear h34 h35
       go_enter Tryz.func131,Tryz.ntmps131
       go_wp2_with (first
        | (go_at_call 168;((with_reducible refine (lexDigit_any _ ?_ ?_ _).mono ?_);(first | omega | skip);(first | omega | skip);rintro e w' ⟨rfl,rfl⟩;rw [hn]))
        | (go_at_call 172;((with_reducible refine (beginsWord_any _ ?_ ?_ _).mono ?_);(first | omega | skip);(first | omega | skip);rintro e w' ⟨rfl,rfl⟩;rw [hb])))
       all_goals go_ret
       all_goals exact ⟨by rw [HM.out];rfl,rfl⟩
     · have hb2:(c == 35)=false:=beq_eq_false_iff_ne.2 h35
       cases hb:isBeg c
       · have HM:=Lib.hid (methN_sign hn h34 h35 hb)
         clear h34 h35
         go_enter Tryz.func131,Tryz.ntmps131
         go_wp2_with (first
          | (go_at_call 168;((with_reducible refine (lexDigit_any _ ?_ ?_ _).mono ?_);(first | omega | skip);(first | omega | skip);rintro e w' ⟨rfl,rfl⟩;rw [hn]))
          | (go_at_call 172;((with_reducible refine (beginsWord_any _ ?_ ?_ _).mono ?_);(first | omega | skip);(first | omega | skip);rintro e w' ⟨rfl,rfl⟩;rw [hb])))
         all_goals go_ret
         all_goals exact ⟨by rw [HM.out];rfl,rfl⟩
       · have HM:=Lib.hid (methN_word hn h34 h35 hb)
         clear h34 h35
         go_enter Tryz.func131,Tryz.ntmps131
         go_wp2_with (first
          | (go_at_call 168;((with_reducible refine (lexDigit_any _ ?_ ?_ _).mono ?_);(first | omega | skip);(first | omega | skip);rintro e w' ⟨rfl,rfl⟩;rw [hn]))
          | (go_at_call 172;((with_reducible refine (beginsWord_any _ ?_ ?_ _).mono ?_);(first | omega | skip);(first | omega | skip);rintro e w' ⟨rfl,rfl⟩;rw [hb])))
         all_goals go_ret
         all_goals exact ⟨by rw [HM.out];rfl,rfl⟩
 · have HM:=Lib.hid (methN_num hn)
   go_enter Tryz.func131,Tryz.ntmps131
   go_wp2_with (first
    | (go_at_call 168;((with_reducible refine (lexDigit_any _ ?_ ?_ _).mono ?_);(first | omega | skip);(first | omega | skip);rintro e w' ⟨rfl,rfl⟩;rw [hn]))
    | (go_at_call 172;((with_reducible refine (beginsWord_any _ ?_ ?_ _).mono ?_);(first | omega | skip);(first | omega | skip);rintro e w' ⟨rfl,rfl⟩;skip)))
   all_goals go_ret
   all_goals exact ⟨by rw [HM.out];rfl,rfl⟩
def TokOut (o:Option (Tk × Nat)) (b:Nat) (s:ByteArray) (k:Nat) (w:World) (e:Ending) (w':World):Prop :=
 w.grownBy w' (some b)∧((∃ t n,o=some (t,n)∧e = .returned (.tuple #[.agg (tokA t),.bool true])∧LxAt w' b s (k+n))∨(o=none∧∃ t,e = .returned (.tuple #[.agg (tokA t),.bool false])))
theorem grownBy.setNew {a w:World} {r:Option Nat} (h:a.grownBy w r) (ad:Addr) (v:Value) (hg:a.heap.size≤ad.block):a.grownBy (w.setCell ad v) r :=
 ⟨h.os,h.tape,h.output,by simpa using h.size,fun j hj hr=>by
  rw [Below.heap_setCell _ _ _ _ (by intro e;omega)];exact h.block j hj hr⟩
theorem grownBy.set9 {a w:World} {r:Option Nat} {g:Nat} (h:a.grownBy w r) (hg:a.heap.size≤g) (v0 v1 v2 v3 v4 v5 v6 v7 v8:Value) :
 a.grownBy (((((((((w.setCell ⟨g,0,none⟩ v0).setCell ⟨g,1,none⟩ v1).setCell ⟨g,2,none⟩ v2).setCell ⟨g,3,none⟩ v3).setCell ⟨g,4,none⟩ v4).setCell ⟨g,5,none⟩ v5).setCell ⟨g,6,none⟩ v6).setCell ⟨g,7,none⟩ v7).setCell ⟨g,8,none⟩ v8) r :=
 grownBy.setNew (grownBy.setNew (grownBy.setNew (grownBy.setNew (grownBy.setNew (grownBy.setNew (grownBy.setNew (grownBy.setNew (grownBy.setNew (h) _ _ hg) _ _ hg) _ _ hg) _ _ hg) _ _ hg) _ _ hg) _ _ hg) _ _ hg) _ _ hg
theorem LxAt.other {w:World} {b:Nat} {s:ByteArray} {k:Nat} (h:LxAt w b s k) (ad:Addr) (v:Value) (hne:ad.block≠b):LxAt (w.setCell ad v) b s k:=by
 unfold LxAt;rw [Below.heap_setCell _ _ _ _ (by intro e;exact hne e.symm)];exact h
theorem LxAt.set9 {w:World} {b:Nat} {s:ByteArray} {k g:Nat} (h:LxAt w b s k) (hg:g≠b) (v0 v1 v2 v3 v4 v5 v6 v7 v8:Value) :
 LxAt (((((((((w.setCell ⟨g,0,none⟩ v0).setCell ⟨g,1,none⟩ v1).setCell ⟨g,2,none⟩ v2).setCell ⟨g,3,none⟩ v3).setCell ⟨g,4,none⟩ v4).setCell ⟨g,5,none⟩ v5).setCell ⟨g,6,none⟩ v6).setCell ⟨g,7,none⟩ v7).setCell ⟨g,8,none⟩ v8) b s k :=
 ((((((((h.other _ _ hg).other _ _ hg).other _ _ hg).other _ _ hg).other _ _ hg).other _ _ hg).other _ _ hg).other _ _ hg).other _ _ hg
theorem TkAt.cells {w:World} {b:Nat} {t:Tk} (h:TkAt w b t):w.cell? ⟨b,0,none⟩=some (.int .i64 t.kind)∧w.cell? ⟨b,1,none⟩=some (.string t.text)∧w.cell? ⟨b,2,none⟩=some (.int .i64 t.num)∧w.cell? ⟨b,3,none⟩=some (.string t.sh)∧w.cell? ⟨b,4,none⟩=some (.int .i64 t.c)∧w.cell? ⟨b,5,none⟩=some (.int .i64 t.r)∧w.cell? ⟨b,6,none⟩=some (.bool t.ac)∧w.cell? ⟨b,7,none⟩=some (.bool t.ar)∧w.cell? ⟨b,8,none⟩=some (.int .i64 t.pos) :=
 ⟨by rw [cell_of_row w b 0 _ _ _ h];rfl,by rw [cell_of_row w b 1 _ _ _ h];rfl,by rw [cell_of_row w b 2 _ _ _ h];rfl,by rw [cell_of_row w b 3 _ _ _ h];rfl,by rw [cell_of_row w b 4 _ _ _ h];rfl,by rw [cell_of_row w b 5 _ _ _ h];rfl,by rw [cell_of_row w b 6 _ _ _ h];rfl,by rw [cell_of_row w b 7 _ _ _ h];rfl,by rw [cell_of_row w b 8 _ _ _ h];rfl⟩
theorem TkAt.melts {w:World} {b:Nat} {t:Tk} (h:TkAt w b t):w.frozen? ⟨b,0,none⟩=false∧w.frozen? ⟨b,1,none⟩=false∧w.frozen? ⟨b,2,none⟩=false∧w.frozen? ⟨b,3,none⟩=false∧w.frozen? ⟨b,4,none⟩=false∧w.frozen? ⟨b,5,none⟩=false∧w.frozen? ⟨b,6,none⟩=false∧w.frozen? ⟨b,7,none⟩=false∧w.frozen? ⟨b,8,none⟩=false :=
 ⟨h.frozen 0,h.frozen 1,h.frozen 2,h.frozen 3,h.frozen 4,h.frozen 5,h.frozen 6,h.frozen 7,h.frozen 8⟩
abbrev zTok:Array Value:=#[.int .i64 0,.string ⟨#[]⟩,.int .i64 0,.string ⟨#[]⟩,.int .i64 0,.int .i64 0,.bool false,.bool false,.int .i64 0]
theorem TkAt.zero (w:World):TkAt (w.alloc (.cells zTok 101)) w.heap.size Tk.zero:=TkAt.new w Tk.zero
theorem TkAt.load {w:World} {b:Nat} {t:Tk} (h:TkAt w b t):(loadVar 101 ⟨b,0,none⟩).run Tryz.prog w = .ok (.agg (tokA t)) w :=
 run_loadVar_row w b 101 101 _ _ _ h Tryz.underlying101 rfl tok_size
theorem out_tok {w:World} {b:Nat} {t:Tk} (h:TkAt w b t) (fn:Func) (tmps:Array Value) (ok:Bool) (p u:Tmp) (hf:fn.results=#[.cell p 101,.tmp u]) (hp:tmps.getD p undef = .pointer (some ⟨b,0,none⟩)) (hu:tmps.getD u undef = .bool ok) :
 (results fn tmps).run Tryz.prog w = .ok (.tuple #[.agg (tokA t),.bool ok]) w:=by
 rw [results_cell_tmp hf,hp,hu]
 simp [asAddr,h.load,Result.andThen]
theorem TkAt.set0 {w:World} {b:Nat} {t:Tk} (h:TkAt w b t) (x:Int):TkAt (w.setCell ⟨b,0,none⟩ (.int .i64 x)) b { t with kind:=x }:=by unfold TkAt;rw [heap_setCell_same w b 0 _ _ _ h];rfl
theorem TkAt.set1 {w:World} {b:Nat} {t:Tk} (h:TkAt w b t) (x:ByteArray):TkAt (w.setCell ⟨b,1,none⟩ (.string x)) b { t with text:=x }:=by unfold TkAt;rw [heap_setCell_same w b 1 _ _ _ h];rfl
theorem TkAt.set2 {w:World} {b:Nat} {t:Tk} (h:TkAt w b t) (x:Int):TkAt (w.setCell ⟨b,2,none⟩ (.int .i64 x)) b { t with num:=x }:=by unfold TkAt;rw [heap_setCell_same w b 2 _ _ _ h];rfl
theorem TkAt.set3 {w:World} {b:Nat} {t:Tk} (h:TkAt w b t) (x:ByteArray):TkAt (w.setCell ⟨b,3,none⟩ (.string x)) b { t with sh:=x }:=by unfold TkAt;rw [heap_setCell_same w b 3 _ _ _ h];rfl
theorem TkAt.set4 {w:World} {b:Nat} {t:Tk} (h:TkAt w b t) (x:Int):TkAt (w.setCell ⟨b,4,none⟩ (.int .i64 x)) b { t with c:=x }:=by unfold TkAt;rw [heap_setCell_same w b 4 _ _ _ h];rfl
theorem TkAt.set5 {w:World} {b:Nat} {t:Tk} (h:TkAt w b t) (x:Int):TkAt (w.setCell ⟨b,5,none⟩ (.int .i64 x)) b { t with r:=x }:=by unfold TkAt;rw [heap_setCell_same w b 5 _ _ _ h];rfl
theorem TkAt.set6 {w:World} {b:Nat} {t:Tk} (h:TkAt w b t) (x:Bool):TkAt (w.setCell ⟨b,6,none⟩ (.bool x)) b { t with ac:=x }:=by unfold TkAt;rw [heap_setCell_same w b 6 _ _ _ h];rfl
theorem TkAt.set7 {w:World} {b:Nat} {t:Tk} (h:TkAt w b t) (x:Bool):TkAt (w.setCell ⟨b,7,none⟩ (.bool x)) b { t with ar:=x }:=by unfold TkAt;rw [heap_setCell_same w b 7 _ _ _ h];rfl
theorem TkAt.set8 {w:World} {b:Nat} {t:Tk} (h:TkAt w b t) (x:Int):TkAt (w.setCell ⟨b,8,none⟩ (.int .i64 x)) b { t with pos:=x }:=by unfold TkAt;rw [heap_setCell_same w b 8 _ _ _ h];rfl
theorem TkAt.put9 {w:World} {b:Nat} {t0:Tk} (h:TkAt w b t0) (t:Tk):TkAt (((((((((w.setCell ⟨b,0,none⟩ (.int .i64 t.kind)).setCell ⟨b,1,none⟩ (.string t.text)).setCell ⟨b,2,none⟩ (.int .i64 t.num)).setCell ⟨b,3,none⟩ (.string t.sh)).setCell ⟨b,4,none⟩ (.int .i64 t.c)).setCell ⟨b,5,none⟩ (.int .i64 t.r)).setCell ⟨b,6,none⟩ (.bool t.ac)).setCell ⟨b,7,none⟩ (.bool t.ar)).setCell ⟨b,8,none⟩ (.int .i64 t.pos)) b t:=by
 have h9:=(((((((((h.set0 t.kind).set1 t.text).set2 t.num).set3 t.sh).set4 t.c).set5 t.r).set6 t.ac).set7 t.ar).set8 t.pos)
 exact h9
theorem atoi_parse:∀ (l:List UInt8) (a:Nat) (L:List Int),a<18446744073709551616→valL L=(a:Int)→(∀ c∈l,48≤c.toNat∧c.toNat≤57) →
 Lib.parseUint10 a l=if valL (L++l.map fun x=>(x.toNat:Int))<18446744073709551616 then .ok (valL (L++l.map fun x=>(x.toNat:Int))).toNat else .range
 | [],a,L,ha,hL,_=>by
   simp only [List.map_nil,List.append_nil]
   rw [hL,if_pos (by omega)];unfold Lib.parseUint10;simp
 | c :: l,a,L,ha,hL,h=>by
   have hc:=h c (by simp)
   have hv:valL (L++[(c.toNat:Int)])=10*(a:Int)+((c.toNat:Int) - 48):=by rw [valL_snoc,hL]
   have hge:=valL_ge (l.map fun x=>(x.toNat:Int)) (L++[(c.toNat:Int)]) (by
    intro x hx;rw [List.mem_map] at hx;obtain ⟨d,hd,rfl⟩:=hx
    have:=h d (by simp [hd])
    unfold isNum;rw [decide_eq_true_iff];omega) (by omega)
   have e:L++(c :: l).map (fun x=>(x.toNat:Int))=L++[(c.toNat:Int)]++l.map fun x=>(x.toNat:Int):=by simp
   rw [e]
   unfold Lib.parseUint10
   rw [if_pos hc]
   by_cases h1:1844674407370955162≤a
   · rw [if_pos h1,if_neg (by omega)]
   · rw [if_neg h1]
     by_cases h2:18446744073709551616≤a*10+(c.toNat - 48)
     · rw [if_pos h2,if_neg (by omega)]
     · rw [if_neg h2]
       exact atoi_parse l (a*10+(c.toNat - 48)) (L++[(c.toNat:Int)]) (by omega) (by rw [hv];omega) (fun d hd=>h d (by simp [hd]))
theorem atoi_nums (D:ByteArray) (h0:sb D≠[]) (h:∀ x∈sb D,isNum x=true):Lib.atoiAll D.data.toList=if 9223372036854775807<valL (sb D) then .range else .ok (valL (sb D)):=by
 have hsb:sb D=D.data.toList.map fun x=>(x.toNat:Int):=rfl
 have hpos:=valL_ge (sb D) [] h (by decide)
 rw [List.nil_append,show valL []=0 from rfl] at hpos
 rw [hsb] at h0 h hpos ⊢
 cases hl:D.data.toList with
 | nil=>rw [hl] at h0;exact absurd rfl h0
 | cons c r =>
   rw [hl] at h hpos
   have hall:∀ d∈c :: r,48≤d.toNat∧d.toNat≤57:=by
    intro d hd
    have:=num_bd (h (d.toNat:Int) (List.mem_map_of_mem (f:=fun x:UInt8=>(x.toNat:Int)) hd))
    omega
   have hc:=hall c (by simp)
   unfold Lib.atoiAll
   simp only
   rw [if_neg (by omega)]
   unfold Lib.parseMag
   rw [if_neg (by simp)]
   rw [atoi_parse (c :: r) 0 [] (by omega) rfl hall,List.nil_append]
   have hneg:¬ c.toNat=45:=by omega
   by_cases h1:valL ((c :: r).map fun x=>(x.toNat:Int))<18446744073709551616
   · rw [if_pos h1]
     simp only [hneg,false_and,not_false_iff,true_and,if_false]
     by_cases h2:9223372036854775807<valL ((c :: r).map fun x=>(x.toNat:Int))
     · rw [if_pos h2,if_pos (by omega)]
     · rw [if_neg h2,if_neg (by omega)]
       congr 1;omega
   · rw [if_neg h1,if_pos (by omega)]
def ErrV (w:World):Prop:=∃ ev,w.cell? ⟨2,0,none⟩=some ev∧(ev = .nilIface∨∃ te pe,ev = .iface te pe)
theorem ErrV.grown {w w':World} {b:Nat} (h:ErrV w) (hg:w.grownBy w' (some b)) (hb:2<b):ErrV w':=by
 obtain ⟨ev,h1,h2⟩:=h
 refine ⟨ev, ?_,h2⟩
 rw [cell_other hg ?_ (by intro e;have:=Option.some.inj e;simp at this;omega)]
 · exact h1
 · rcases Nat.lt_or_ge 2 w.heap.size with h' | h'
   · exact h'
   · exfalso;unfold World.cell? at h1;simp only at h1;rw [Array.getElem?_eq_none h'] at h1;cases h1
theorem TkAt.drew {w:World} {b:Nat} {t:Tk} (h:TkAt w b t):TkAt w.drew b t:=h
theorem LxAt.drew {w:World} {b:Nat} {s:ByteArray} {k:Nat} (h:LxAt w b s k):LxAt w.drew b s k:=h
theorem grownBy.drew' {a w:World} {r:Option Nat} (h:a.grownBy w r):a.grownBy w.drew r:=⟨h.os,h.tape,h.output,h.size,h.block⟩
theorem atoi_ok (D:ByteArray) (hD:D.size≤1000000) (v:Int) (h:Lib.atoiAll D.data.toList = .ok v) (w:World):Calls Tryz.prog 82 #[.string D] w fun e w'=>e = .returned (.tuple #[.int .i64 v,.nilIface])∧Below w.heap.size w w':=by
 refine (Tryz.strconv_Atoi_ok D (by omega) v h w).mono ?_
 rintro e w' ⟨rfl,rfl | ⟨t,rfl⟩⟩
 · exact ⟨rfl,Below.refl _ _⟩
 · exact ⟨rfl,Lib.bytesWorld_below _ _ _⟩
theorem res_number:Tryz.f169.results=#[.cell 2 101,.tmp 3]:=by kernel_rfl
set_option maxRecDepth 100000 in
set_option maxHeartbeats 800000 in
theorem number_any (b:Nat) (s:ByteArray) (k:Nat) (w:World) (h:LxAt w b s k) (_hs:s.size≤1000000) (_hk:k<s.size) (hd:isNum ((s[k].toNat:Nat):Int)=true) (hev:ErrV w) (hb2:2<b) :
 Calls Tryz.prog 169 #[.pointer (some ⟨b,0,none⟩)] w (TokOut (numT (restL s k)) b s k w):=by
 have hal:w.grownBy (w.alloc (.cells zTok 101)) (some b):=grownBy.below' (grownBy.refl' _ _) ((Below.refl _ _).alloc (Nat.le_refl _) _)
 have h1:LxAt (w.alloc (.cells zTok 101)) b s k:=h.below ((Below.refl _ _).alloc (Nat.le_refl _) _) h.lt
 have hlt:=h.lt
 have HEV:=Lib.hid (hev.grown hal hb2);clear hev
 obtain ⟨ds,hds⟩:∃ ds,(restL s k).takeWhile isNum=ds:=⟨_,rfl⟩
 obtain ⟨D,hD⟩:∃ D,strOfNums ds=D:=⟨_,rfl⟩
 have hbd:Bytes ds:=fun x hx=>restL_bd s k x (by rw [← hds] at hx;exact (List.takeWhile_prefix _).subset hx)
 have hsD:sb D=ds:=by rw [← hD];exact sb_str ds hbd
 have hszD:D.size=ds.length:=by rw [← length_sb,hsD]
 have hlen:ds.length≤s.size:=by rw [← hds];have h0:=take_le isNum (restL s k);rw [length_restL] at h0;omega
 have hW:=(whileDigit_any b s k _ h1 _hs (by omega)).mono (R':=fun e w'=>(w.alloc (.cells zTok 101)).grownBy w' (some b)∧e = .returned (.string D)∧LxAt w' b s (k+ds.length)) (fun e w' ⟨x1,x2,x3⟩=>⟨x1,by rw [x2,hds,hD],by rw [hds] at x3;exact x3⟩)
 have HW:=Lib.hid hW;clear hW h1 h
 have HAL:=Lib.hid hal;clear hal
 have HTK:=Lib.hid (TkAt.zero w)
 have hne:ds≠[]:=by
  have h0:=restL_at s k 0 (by omega)
  rw [← hds]
  cases hr:restL s k with
  | nil=>rw [hr] at h0;simp at h0
  | cons x l=>rw [hr] at h0;simp at h0;rw [List.takeWhile_cons,h0,hd];simp
 have hall:∀ x∈ds,isNum x=true:=by rw [← hds];exact take_all isNum _
 have hN:numT (restL s k)=if (1<ds.length∧ds.head? = some 48)∨9223372036854775807<valL ds then none else some ({ Tk.zero with kind:=1,num:=valL ds },ds.length):=by
  unfold numT
  rw [hds]
  have hh:(restL s k).head? = ds.head? := by
   have e:=take_split isNum (restL s k)
   rw [hds] at e
   rw [← e]
   cases ds with
   | nil=>exact absurd rfl hne
   | cons x l=>rfl
  rw [hh]
 have hat:=atoi_nums D (by rw [hsD];exact hne) (by rw [hsD];exact hall)
 rw [hsD] at hat
 have hp:=List.length_pos_iff.2 hne
 have hD0:0<D.size:=by omega
 obtain ⟨a,ha⟩:∃ a:Int,(D[0].toNat:Int)=a:=⟨_,rfl⟩
 have hhd:ds.head? = some a:=by rw [← ha, ← hsD,List.head?_eq_getElem?,sb_at D 0 hD0]
 have hmx:D.size≤1000000:=by omega
 have HD:=Lib.hid hD;have HSD:=Lib.hid hsD
 have HLEN:=Lib.hid hlen
 have HALL:=Lib.hid hall
 clear hne hall hbd hds hD hsD hlen
 have hw0:w.heap.size≠b:=by omega
 by_cases h48:1<ds.length∧ds.head? = some 48
 · rw [if_pos (Or.inl h48)] at hN
   have HN:=Lib.hid hN;clear hN hat
   have h481:(1:Int)<(D.size:Int):=by omega
   have h482:(a == 48)=true:=by rw [hhd] at h48;exact beq_iff_eq.2 (Option.some.inj h48.2)
   have HHD:=Lib.hid hhd
   clear h48 hhd hp
   go_enter Tryz.func169,Tryz.ntmps169
   go_wp2_with (go_at_call 129;((with_reducible refine HW.out.mono ?_);rintro e w1 ⟨h1,rfl,h2⟩;have H1:=Lib.hid h1;have H2:=Lib.hid h2;clear h1 h2;have HT1:=Lib.hid (HTK.out.grown H1.out hw0);obtain ⟨x0,x1,x2,x3,x4,x5,x6,x7,x8⟩:=HT1.out.cells;obtain ⟨f0,f1,f2,f3,f4,f5,f6,f7,f8⟩:=HT1.out.melts))
   exact bodyPost_ret (out_tok (HT1.out.put9 Tk.zero) _ _ false 2 3 res_number rfl rfl) rfl ⟨grownBy.set9 (grownBy.trans' HAL.out H1.out) (Nat.le_refl _) _ _ _ _ _ _ _ _ _,.inr ⟨HN.out,Tk.zero,rfl⟩⟩
 · by_cases hbig:9223372036854775807<valL ds
   · rw [if_pos (Or.inr hbig)] at hN
     rw [if_pos hbig] at hat
     have HN:=Lib.hid hN
     have HAT:=Lib.hid hat
     clear hN hat
     have hcond:(a == 48)=false∨((a == 48)=true∧¬ (1:Int)<(D.size:Int)):=by
      by_cases ha48:a=48
      · refine .inr ⟨beq_iff_eq.2 ha48,fun h1=>h48 ⟨by omega,by rw [hhd,ha48]⟩⟩
      · exact .inl (beq_eq_false_iff_ne.2 ha48)
     clear h48 hhd hp hbig
     go_enter Tryz.func169,Tryz.ntmps169
     rcases hcond with hc1 | ⟨hc1,hc2⟩
     all_goals go_wp2_with (first
      | (go_at_call 129;((with_reducible refine HW.out.mono ?_);rintro e w1 ⟨h1,rfl,h2⟩;have H1:=Lib.hid h1;have H2:=Lib.hid h2;clear h1 h2;obtain ⟨ev,HE1,HE2⟩:=HEV.out.grown H1.out hb2;have HE1:=Lib.hid HE1;have HE2:=Lib.hid HE2))
      | (go_at_call 82;((with_reducible refine (Tryz.strconv_Atoi_range D ?_ HAT.out ev _ HE1.out HE2.out).mono ?_);(first | omega | skip);rintro e w2 ⟨N,rfl, -, -,h3⟩;have H3:=Lib.hid h3;clear h3;have HT2:=Lib.hid ((HTK.out.grown H1.out hw0).below H3.out (HTK.out.grown H1.out hw0).lt);obtain ⟨x0,x1,x2,x3,x4,x5,x6,x7,x8⟩:=HT2.out.cells;obtain ⟨f0,f1,f2,f3,f4,f5,f6,f7,f8⟩:=HT2.out.melts)))
     all_goals (generalize Lib.atoiSat D.data.toList=sat)
     all_goals go_region
     all_goals go_wp2_with fail
     all_goals exact bodyPost_ret (out_tok (HT2.out.put9 { Tk.zero with kind:=1,num:=sat }).drew _ _ false 2 3 res_number rfl rfl) rfl ⟨grownBy.drew' (grownBy.set9 (grownBy.below' (grownBy.trans' HAL.out H1.out) H3.out) (Nat.le_refl _) _ _ _ _ _ _ _ _ _),.inr ⟨HN.out,{ Tk.zero with kind:=1,num:=sat },rfl⟩⟩
   · rw [if_neg (show ¬ ((1<ds.length∧ds.head? = some 48)∨9223372036854775807<valL ds) from fun h1=>h1.elim h48 hbig)] at hN
     rw [if_neg hbig] at hat
     obtain ⟨v,hv⟩:∃ v,valL ds=v:=⟨_,rfl⟩
     rw [hv] at hN hat
     have HN:=Lib.hid hN
     have HAT:=Lib.hid hat
     clear hN hat hv
     have hcond:(a == 48)=false∨((a == 48)=true∧¬ (1:Int)<(D.size:Int)):=by
      by_cases ha48:a=48
      · refine .inr ⟨beq_iff_eq.2 ha48,fun h1=>h48 ⟨by omega,by rw [hhd,ha48]⟩⟩
      · exact .inl (beq_eq_false_iff_ne.2 ha48)
     clear h48 hhd hp hbig
     go_enter Tryz.func169,Tryz.ntmps169
     rcases hcond with hc1 | ⟨hc1,hc2⟩
     all_goals go_wp2_with (first
      | (go_at_call 129;((with_reducible refine HW.out.mono ?_);rintro e w1 ⟨h1,rfl,h2⟩;have H1:=Lib.hid h1;have H2:=Lib.hid h2;clear h1 h2))
      | (go_at_call 82;((with_reducible refine (atoi_ok D ?_ v HAT.out _).mono ?_);(first | omega | skip);rintro e w2 ⟨rfl,h3⟩;have H3:=Lib.hid h3;clear h3;have HL2:=Lib.hid (H2.out.below H3.out H2.out.lt);have HT2:=Lib.hid ((HTK.out.grown H1.out hw0).below H3.out (HTK.out.grown H1.out hw0).lt);obtain ⟨x0,x1,x2,x3,x4,x5,x6,x7,x8⟩:=HT2.out.cells;obtain ⟨f0,f1,f2,f3,f4,f5,f6,f7,f8⟩:=HT2.out.melts)))
     all_goals go_region
     all_goals go_wp2_with fail
     all_goals exact bodyPost_ret (out_tok (HT2.out.put9 { Tk.zero with kind:=1,num:=v }).drew _ _ true 2 3 res_number rfl rfl) rfl ⟨grownBy.drew' (grownBy.set9 (grownBy.below' (grownBy.trans' HAL.out H1.out) H3.out) (Nat.le_refl _) _ _ _ _ _ _ _ _ _),.inl ⟨_,_,HN.out,rfl,(HL2.out.set9 hw0 _ _ _ _ _ _ _ _ _).drew⟩⟩
def kdL:List Int→Int
 | []=>0
 | c :: _=>if c=39 then 1 else if c=61 then 2 else if c=45∨isNum c=true then 3 else 4
def kd (s:ByteArray):Int:=kdL (sb s)
theorem kdL_cons (c:Int) (l:List Int):kdL (c :: l)=if c=39 then 1 else if c=61 then 2 else if c=45∨isNum c=true then 3 else 4:=rfl
def atoiO (s:ByteArray):Option Int:=match Lib.atoiAll s.data.toList with
 | .ok v=>some v
 | _=>none
theorem atoiO_ok {s:ByteArray} {v:Int} (h:Lib.atoiAll s.data.toList = .ok v):atoiO s=some v:=by unfold atoiO;rw [h]
theorem atoiO_bd {s:ByteArray} {v:Int} (h:atoiO s=some v) : -9223372036854775808≤v∧v≤9223372036854775807:=by
 unfold atoiO at h
 split at h
 · rename_i u hu
   have:=Lib.atoiAll_bounds hu
   injection h with h
   omega
 · cases h
theorem valL_cons0 (l:List Int):valL (48 :: l)=valL l:=by unfold valL;rw [List.foldl_cons];rfl
theorem valL_zeros:∀ (z:Nat) (l:List Int),valL (List.replicate z 48++l)=valL l
 | 0,_=>rfl
 | z+1,l=>by rw [List.replicate_succ,List.cons_append,valL_cons0,valL_zeros z l]
theorem atoi_minus (D:ByteArray) (l:List Int) (hD:sb D=45 :: l) (h0:l≠[]) (h:∀ x∈l,isNum x=true):Lib.atoiAll D.data.toList=if 9223372036854775808<valL l then .range else .ok (-(valL l)):=by
 have hsb:sb D=D.data.toList.map fun x=>(x.toNat:Int):=rfl
 have hpos:=valL_ge l [] h (by decide)
 rw [List.nil_append,show valL []=0 from rfl] at hpos
 rw [hsb] at hD
 cases hl:D.data.toList with
 | nil=>rw [hl] at hD;cases hD
 | cons c r =>
   rw [hl,List.map_cons] at hD
   obtain ⟨hc,hr⟩:=List.cons.inj hD
   have hc45:c.toNat=45:=by omega
   have hall:∀ d∈r,48≤d.toNat∧d.toNat≤57:=by
    intro d hd
    have:=num_bd (h (d.toNat:Int) (hr ▸ List.mem_map_of_mem (f:=fun x:UInt8=>(x.toNat:Int)) hd))
    omega
   have hrne:r≠[]:=by rintro rfl;exact h0 hr.symm
   unfold Lib.atoiAll
   simp only
   rw [if_pos (Or.inr hc45)]
   unfold Lib.parseMag
   rw [if_neg hrne,atoi_parse r 0 [] (by omega) rfl hall,List.nil_append,hr]
   by_cases h1:valL l<18446744073709551616
   · rw [if_pos h1]
     simp only [hc45,not_true,false_and,true_and,if_true,if_false]
     by_cases h2:9223372036854775808<valL l
     · rw [if_pos h2,if_pos (by omega)]
     · rw [if_neg h2,if_neg (by omega)]
       congr 1;omega
   · rw [if_neg h1,if_pos (by omega)]
def numZ (z:Nat) (n:Int):List Int:=if n<0 then 45 :: (List.replicate z 48++digL n.natAbs) else List.replicate z 48++digL n.natAbs
theorem numZ_dec (n:Int):numZ 0 n=decL n:=rfl
theorem zeros_num (z u:Nat):∀ x∈List.replicate z (48:Int)++digL u,isNum x=true:=by
 intro x hx
 rcases List.mem_append.1 hx with hx | hx
 · rw [List.eq_of_mem_replicate hx];rfl
 · exact isNum_digL u x hx
theorem zeros_ne (z u:Nat):List.replicate z (48:Int)++digL u≠[]:=by
 intro e
 exact digL_ne u (List.append_eq_nil_iff.1 e).2
theorem numZ_bytes (z:Nat) (n:Int):Bytes (numZ z n):=by
 have h:Bytes (List.replicate z (48:Int)++digL n.natAbs):=fun x hx=>by have:=num_bd (zeros_num z _ x hx);omega
 unfold numZ
 split
 · intro x hx
   rcases List.mem_cons.1 hx with rfl | hx
   · omega
   · exact h x hx
 · exact h
theorem atoi_numZ (z:Nat) (n:Int) (h0 : -9223372036854775808≤n) (h1:n≤9223372036854775807):atoiO (strOfNums (numZ z n))=some n:=by
 refine atoiO_ok ?_
 have hsb:=sb_str _ (numZ_bytes z n)
 by_cases hn:n<0
 · have e:numZ z n=45 :: (List.replicate z 48++digL n.natAbs):=by unfold numZ;rw [if_pos hn]
   have hv:valL (List.replicate z 48++digL n.natAbs) = -n:=by rw [valL_zeros,valL_digL];omega
   rw [atoi_minus _ _ (hsb.trans e) (zeros_ne z _) (zeros_num z _),hv,if_neg (by omega),Int.neg_neg]
 · have e:numZ z n=List.replicate z 48++digL n.natAbs:=by unfold numZ;rw [if_neg hn]
   have hv:valL (List.replicate z 48++digL n.natAbs)=n:=by rw [valL_zeros,valL_digL];omega
   rw [atoi_nums _ (by rw [hsb,e];exact zeros_ne z _) (by rw [hsb,e];exact zeros_num z _),hsb,e,hv,if_neg (by omega)]
theorem kd_numZ (z:Nat) (n:Int):kd (strOfNums (numZ z n))=3:=by
 unfold kd
 rw [sb_str _ (numZ_bytes z n)]
 have hd:∀ l:List Int,l≠[]→(∀ x∈l,isNum x=true)→kdL l=3:=by
  intro l h0 h
  cases l with
  | nil=>exact absurd rfl h0
  | cons c l =>
    have hc:=h c (by simp)
    have:=num_bd hc
    rw [kdL_cons,if_neg (by omega),if_neg (by omega),if_pos (Or.inr hc)]
 by_cases hn:n<0
 · have e:numZ z n=45 :: (List.replicate z 48++digL n.natAbs):=by unfold numZ;rw [if_pos hn]
   rw [e,kdL_cons,if_neg (by omega),if_neg (by omega),if_pos (Or.inl rfl)]
 · have e:numZ z n=List.replicate z 48++digL n.natAbs:=by unfold numZ;rw [if_neg hn]
   rw [e];exact hd _ (zeros_ne z _) (zeros_num z _)
structure Rf where
 sh:ByteArray
 c:Int
 r:Int
 ac:Bool
 ar:Bool
def Rf.zero:Rf:=⟨⟨#[]⟩,0,0,false,false⟩
def Tk.rf (t:Tk):Rf:=⟨t.sh,t.c,t.r,t.ac,t.ar⟩
structure Nd where
 kind:Int
 num:Int
 text:ByteArray
 ref:Rf
 to:Rf
 kids:List Int
def Nd.zero:Nd:=⟨0,0,⟨#[]⟩,Rf.zero,Rf.zero,[]⟩
abbrev Res:=Except Int (List Nd × Nat × List Tk)
abbrev Args:=Except Int (List Nd × List Int × List Tk)
def bindR {α β γ δ : Type} (x:Option (Except Int (α × β × γ))) (k : α → β → γ → Option (Except Int δ)):Option (Except Int δ) :=
 match x with
 | none=>none
 | some (.error e)=>some (.error e)
 | some (.ok (a,b,c))=>k a b c
def signIs (s:ByteArray) (ts:List Tk):Bool:=match ts with
 | t :: _=>decide (t.kind=5)&&decide (t.text=s)
 | []=>false
def levelL:Nat→List (ByteArray × Int)
 | 0=>[(⟨#[61]⟩,9),(⟨#[60,62]⟩,10),(⟨#[60]⟩,11),(⟨#[60,61]⟩,12),(⟨#[62]⟩,13),(⟨#[62,61]⟩,14)]
 | 1=>[(⟨#[38]⟩,15)]
 | 2=>[(⟨#[43]⟩,16),(⟨#[45]⟩,17)]
 | _=>[(⟨#[42]⟩,18),(⟨#[47]⟩,19)]
def opK (n:Nat) (ts:List Tk):Int:=match (levelL n).find? fun p=>signIs p.1 ts with
 | some p=>p.2
 | none=>0
def spanB (a b:Rf):Bool:=decide (b.sh=⟨#[]⟩)&&(decide (a.c≤b.c)&&decide (a.r≤b.r))
def kindAt (ts:List Tk):Int:=match ts with
 | t :: _=>t.kind
 | []=>0
def refP (base:Nat) (t:Tk) (ts:List Tk):Res :=
 if signIs ⟨#[58]⟩ ts=true then match ts.tail with
  | u :: us=>if u.kind=4∧spanB t.rf u.rf=true then .ok ([{ Nd.zero with kind:=6,ref:=t.rf,to:=u.rf }],base,us) else .error 5
  | [] => .error 5
 else .ok ([{ Nd.zero with kind:=5,ref:=t.rf }],base,ts)
mutual
def exprP:Nat→Nat→Nat→Nat→List Tk→Option Res
 | 0,_,_,_,_=>none
 | f + 1,n,deep,base,ts =>
   if n≤3 then bindR (exprP f (n+1) deep base ts) fun ns a r=>rowP f n deep base ns a r
   else if signIs ⟨#[45]⟩ ts=true then
    if 12≤deep then some (.error 6)
    else bindR (exprP f 4 (deep+1) base ts.tail) fun ns a r=>some (.ok (ns++[{ Nd.zero with kind:=8,kids:=[(a:Int)] }],base+ns.length,r))
   else primP f deep base ts
def rowP:Nat→Nat→Nat→Nat→List Nd→Nat→List Tk→Option Res
 | 0,_,_,_,_,_,_=>none
 | f+1,n,deep,base,ns,a,ts =>
   if opK n ts=0 then some (.ok (ns,a,ts))
   else bindR (exprP f (n+1) deep (base+ns.length) ts.tail) fun ms b r=>rowP f n deep base (ns++(ms++[{ Nd.zero with kind:=opK n ts,kids:=[(a:Int),(b:Int)] }])) (base+(ns.length+ms.length)) r
def primP:Nat→Nat→Nat→List Tk→Option Res
 | 0,_,_,_=>none
 | _,_,_,[]=>some (.error 5)
 | f + 1,deep,base,t :: ts =>
   if signIs ⟨#[40]⟩ (t :: ts)=true then
    if 12≤deep then some (.error 6)
    else bindR (exprP f 0 (deep+1) base ts) fun ns a r=>if signIs ⟨#[41]⟩ r=true then some (.ok (ns,a,r.tail)) else some (.error 5)
   else if t.kind=1 then some (.ok ([{ Nd.zero with kind:=1,num:=t.num }],base,ts))
   else if t.kind=2 then some (.ok ([{ Nd.zero with kind:=2,text:=t.text }],base,ts))
   else if t.kind=6 then some (.ok ([{ Nd.zero with kind:=4 }],base,ts))
   else if t.kind=4 then some (refP base t ts)
   else if t.kind=3 then
    if t.text=⟨#[84,82,85,69]⟩ then some (.ok ([{ Nd.zero with kind:=3,num:=1 }],base,ts))
    else if t.text=⟨#[70,65,76,83,69]⟩ then some (.ok ([{ Nd.zero with kind:=3 }],base,ts))
    else if signIs ⟨#[40]⟩ ts=true then
     if 12≤deep then some (.error 6)
     else bindR (if signIs ⟨#[41]⟩ ts.tail=true then some (.ok ([],[],ts.tail)) else argsP f (deep+1) base [] [] ts.tail) fun ns ks r =>
      if signIs ⟨#[41]⟩ r=true then some (.ok (ns++[{ Nd.zero with kind:=7,text:=t.text,kids:=ks }],base+ns.length,r.tail)) else some (.error 5)
    else some (.error 5)
   else some (.error 5)
def argsP:Nat→Nat→Nat→List Nd→List Int→List Tk→Option Args
 | 0,_,_,_,_,_=>none
 | f + 1,deep,base,ns,ks,ts =>
   bindR (exprP f 0 deep (base+ns.length) ts) fun ms a r =>
    if signIs ⟨#[44]⟩ r=true then argsP f deep base (ns++ms) (ks++[(a:Int)]) r.tail else some (.ok (ns++ms,ks++[(a:Int)],r))
end
def parseP (f:Nat) (ts:List Tk):Option (Except Int (List Nd)) :=
 bindR (exprP f 0 0 0 ts) fun ns _ r=>if kindAt r=0 then some (.ok ns) else some (.error 5)
theorem bindR_some {α β γ δ : Type} {x:Option (Except Int (α × β × γ))} {k : α → β → γ → Option (Except Int δ)} {y:Except Int δ} (h:bindR x k=some y) :
 (∃ e,x=some (.error e)∧y = .error e)∨∃ a b c,x=some (.ok (a,b,c))∧k a b c=some y:=by
 unfold bindR at h
 split at h
 · cases h
 · injection h with h;exact .inl ⟨_,rfl,h.symm⟩
 · exact .inr ⟨_,_,_,rfl,h⟩
theorem bindR_less {α β γ δ : Type} {x x':Option (Except Int (α × β × γ))} {k k' : α → β → γ → Option (Except Int δ)} (hx:∀ y,x=some y→x'=some y) (hk:∀ a b c y,k a b c=some y→k' a b c=some y) :
 ∀ y,bindR x k=some y→bindR x' k'=some y:=by
 intro y h
 rcases bindR_some h with ⟨e,h1,rfl⟩ | ⟨a,b,c,h1,h2⟩
 · rw [hx _ h1];rfl
 · rw [hx _ h1];exact hk _ _ _ _ h2
theorem exprP_succ (f n deep base:Nat) (ts:List Tk):exprP (f+1) n deep base ts=if n≤3 then bindR (exprP f (n+1) deep base ts) fun ns a r=>rowP f n deep base ns a r
 else if signIs ⟨#[45]⟩ ts=true then
  if 12≤deep then some (.error 6)
  else bindR (exprP f 4 (deep+1) base ts.tail) fun ns a r=>some (.ok (ns++[{ Nd.zero with kind:=8,kids:=[(a:Int)] }],base+ns.length,r))
 else primP f deep base ts:=by conv=>lhs;unfold exprP
theorem rowP_succ (f n deep base:Nat) (ns:List Nd) (a:Nat) (ts:List Tk):rowP (f+1) n deep base ns a ts=if opK n ts=0 then some (.ok (ns,a,ts))
 else bindR (exprP f (n+1) deep (base+ns.length) ts.tail) fun ms b r=>rowP f n deep base (ns++(ms++[{ Nd.zero with kind:=opK n ts,kids:=[(a:Int),(b:Int)] }])) (base+(ns.length+ms.length)) r:=by conv=>lhs;unfold rowP
theorem argsP_succ (f deep base:Nat) (ns:List Nd) (ks:List Int) (ts:List Tk):argsP (f+1) deep base ns ks ts=bindR (exprP f 0 deep (base+ns.length) ts) fun ms a r =>
 if signIs ⟨#[44]⟩ r=true then argsP f deep base (ns++ms) (ks++[(a:Int)]) r.tail else some (.ok (ns++ms,ks++[(a:Int)],r)):=by conv=>lhs;unfold argsP
theorem primP_nil (f deep base:Nat):primP (f+1) deep base []=some (.error 5):=by unfold primP;rfl
theorem primP_cons (f deep base:Nat) (t:Tk) (ts:List Tk):primP (f+1) deep base (t :: ts) =
 if signIs ⟨#[40]⟩ (t :: ts)=true then
  if 12≤deep then some (.error 6)
  else bindR (exprP f 0 (deep+1) base ts) fun ns a r=>if signIs ⟨#[41]⟩ r=true then some (.ok (ns,a,r.tail)) else some (.error 5)
 else if t.kind=1 then some (.ok ([{ Nd.zero with kind:=1,num:=t.num }],base,ts))
 else if t.kind=2 then some (.ok ([{ Nd.zero with kind:=2,text:=t.text }],base,ts))
 else if t.kind=6 then some (.ok ([{ Nd.zero with kind:=4 }],base,ts))
 else if t.kind=4 then some (refP base t ts)
 else if t.kind=3 then
  if t.text=⟨#[84,82,85,69]⟩ then some (.ok ([{ Nd.zero with kind:=3,num:=1 }],base,ts))
  else if t.text=⟨#[70,65,76,83,69]⟩ then some (.ok ([{ Nd.zero with kind:=3 }],base,ts))
  else if signIs ⟨#[40]⟩ ts=true then
   if 12≤deep then some (.error 6)
   else bindR (if signIs ⟨#[41]⟩ ts.tail=true then some (.ok ([],[],ts.tail)) else argsP f (deep+1) base [] [] ts.tail) fun ns ks r =>
    if signIs ⟨#[41]⟩ r=true then some (.ok (ns++[{ Nd.zero with kind:=7,text:=t.text,kids:=ks }],base+ns.length,r.tail)) else some (.error 5)
  else some (.error 5)
 else some (.error 5):=by conv=>lhs;unfold primP
theorem more_one : ∀ f : Nat,(∀ n deep base ts y,exprP f n deep base ts=some y→exprP (f+1) n deep base ts=some y)∧(∀ n deep base ns a ts y,rowP f n deep base ns a ts=some y→rowP (f+1) n deep base ns a ts=some y) ∧
 (∀ deep base ts y,primP f deep base ts=some y→primP (f+1) deep base ts=some y)∧(∀ deep base ns ks ts y,argsP f deep base ns ks ts=some y→argsP (f+1) deep base ns ks ts=some y)
 | 0=>⟨fun _ _ _ _ _ h=>by simp [exprP] at h,fun _ _ _ _ _ _ _ h=>by simp [rowP] at h,fun _ _ _ _ h=>by simp [primP] at h,fun _ _ _ _ _ _ h=>by simp [argsP] at h⟩
 | f + 1 => by
   obtain ⟨i1,i2,i3,i4⟩:=more_one f
   refine ⟨?_, ?_, ?_, ?_⟩
   · intro n deep base ts y h
     rw [exprP_succ] at h ⊢
     split
     · rw [if_pos ‹_›] at h
       exact bindR_less (fun y h=>i1 _ _ _ _ y h) (fun a b c y h=>i2 _ _ _ _ _ _ y h) y h
     · rw [if_neg ‹_›] at h
       split
       · rw [if_pos ‹_›] at h
         split
         · rw [if_pos ‹_›] at h;exact h
         · rw [if_neg ‹_›] at h
           exact bindR_less (fun y h=>i1 _ _ _ _ y h) (fun a b c y h=>h) y h
       · rw [if_neg ‹_›] at h
         exact i3 _ _ _ y h
   · intro n deep base ns a ts y h
     rw [rowP_succ] at h ⊢
     split
     · rw [if_pos ‹_›] at h;exact h
     · rw [if_neg ‹_›] at h
       exact bindR_less (fun y h=>i1 _ _ _ _ y h) (fun a b c y h=>i2 _ _ _ _ _ _ y h) y h
   · intro deep base ts y h
     cases ts with
     | nil=>rw [primP_nil] at h ⊢;exact h
     | cons t ts =>
       rw [primP_cons] at h ⊢
       by_cases c1:signIs ⟨#[40]⟩ (t :: ts)=true
       · rw [if_pos c1] at h ⊢
         by_cases d:12≤deep
         · rw [if_pos d] at h ⊢;exact h
         · rw [if_neg d] at h ⊢
           exact bindR_less (fun y h=>i1 _ _ _ _ y h) (fun a b c y h=>h) y h
       · rw [if_neg c1] at h ⊢
         by_cases c2:t.kind=1
         · rw [if_pos c2] at h ⊢
           exact h
         · rw [if_neg c2] at h ⊢
           by_cases c3:t.kind=2
           · rw [if_pos c3] at h ⊢
             exact h
           · rw [if_neg c3] at h ⊢
             by_cases c4:t.kind=6
             · rw [if_pos c4] at h ⊢
               exact h
             · rw [if_neg c4] at h ⊢
               by_cases c5:t.kind=4
               · rw [if_pos c5] at h ⊢
                 exact h
               · rw [if_neg c5] at h ⊢
                 by_cases c6:t.kind=3
                 · rw [if_pos c6] at h ⊢
                   by_cases c7:t.text=⟨#[84,82,85,69]⟩
                   · rw [if_pos c7] at h ⊢;exact h
                   · rw [if_neg c7] at h ⊢
                     by_cases c8:t.text=⟨#[70,65,76,83,69]⟩
                     · rw [if_pos c8] at h ⊢;exact h
                     · rw [if_neg c8] at h ⊢
                       by_cases c9:signIs ⟨#[40]⟩ ts=true
                       · rw [if_pos c9] at h ⊢
                         by_cases d:12≤deep
                         · rw [if_pos d] at h ⊢;exact h
                         · rw [if_neg d] at h ⊢
                           refine bindR_less (fun y h => ?_) (fun a b c y h=>h) y h
                           by_cases c10:signIs ⟨#[41]⟩ ts.tail=true
                           · rw [if_pos c10] at h ⊢;exact h
                           · rw [if_neg c10] at h ⊢;exact i4 _ _ _ _ _ y h
                       · rw [if_neg c9] at h ⊢;exact h
                 · rw [if_neg c6] at h ⊢;exact h
   · intro deep base ns ks ts y h
     rw [argsP_succ] at h ⊢
     refine bindR_less (fun y h=>i1 _ _ _ _ y h) (fun a b c y h => ?_) y h
     split
     · rw [if_pos ‹_›] at h;exact i4 _ _ _ _ _ y h
     · rw [if_neg ‹_›] at h;exact h
theorem exprP_more {f g n deep base:Nat} {ts:List Tk} {y:Res} (hfg:f≤g) (h:exprP f n deep base ts=some y):exprP g n deep base ts=some y:=by
 induction g with
 | zero => obtain rfl:f=0:=by omega
           exact h
 | succ g ih =>
   by_cases e:f=g+1
   · rw [← e];exact h
   · exact (more_one g).1 _ _ _ _ _ (ih (by omega))
theorem rowP_more {f g n deep base:Nat} {ns:List Nd} {a:Nat} {ts:List Tk} {y:Res} (hfg:f≤g) (h:rowP f n deep base ns a ts=some y):rowP g n deep base ns a ts=some y:=by
 induction g with
 | zero => obtain rfl:f=0:=by omega
           exact h
 | succ g ih =>
   by_cases e:f=g+1
   · rw [← e];exact h
   · exact (more_one g).2.1 _ _ _ _ _ _ _ (ih (by omega))
theorem argsP_more {f g deep base:Nat} {ns:List Nd} {ks:List Int} {ts:List Tk} {y:Args} (hfg:f≤g) (h:argsP f deep base ns ks ts=some y):argsP g deep base ns ks ts=some y:=by
 induction g with
 | zero => obtain rfl:f=0:=by omega
           exact h
 | succ g ih =>
   by_cases e:f=g+1
   · rw [← e];exact h
   · exact (more_one g).2.2.2 _ _ _ _ _ _ (ih (by omega))
def Suf (m:Nat) (r ts:List Tk):Prop:=∃ pre:List Tk,ts=pre++r∧(∀ t∈pre,t.kind≠0)∧m≤pre.length
theorem Suf.refl (ts:List Tk):Suf 0 ts ts:=⟨[],rfl,by simp,by simp⟩
theorem Suf.trans {m k:Nat} {r s t:List Tk} (h:Suf m r s) (g:Suf k s t):Suf (k+m) r t:=by
 obtain ⟨p,rfl,h1,h2⟩:=h
 obtain ⟨q,rfl,g1,g2⟩:=g
 refine ⟨q++p,by rw [List.append_assoc], ?_,by rw [List.length_append];omega⟩
 intro x hx;rw [List.mem_append] at hx
 rcases hx with hx | hx
 · exact g1 x hx
 · exact h1 x hx
theorem Suf.less {m k:Nat} {r ts:List Tk} (h:Suf m r ts) (hk:k≤m):Suf k r ts:=by
 obtain ⟨p,h0,h1,h2⟩:=h;exact ⟨p,h0,h1,by omega⟩
theorem Suf.len {m:Nat} {r ts:List Tk} (h:Suf m r ts):r.length+m≤ts.length:=by
 obtain ⟨p,rfl,_,h2⟩:=h;rw [List.length_append];omega
theorem Suf.head {t:Tk} {ts:List Tk} (h:t.kind≠0):Suf 1 ts (t :: ts):=⟨[t],rfl,by simp [h],by simp⟩
theorem Suf.sign {s:ByteArray} {ts:List Tk} (h:signIs s ts=true):Suf 1 ts.tail ts:=by
 cases ts with
 | nil=>simp [signIs] at h
 | cons t ts =>
   unfold signIs at h
   rw [Bool.and_eq_true,decide_eq_true_iff] at h
   exact Suf.head (by omega)
theorem opK_pos {n:Nat} {ts:List Tk} (h:opK n ts≠0):∃ p∈levelL n,signIs p.1 ts=true∧opK n ts=p.2:=by
 unfold opK at h ⊢
 cases hq:(levelL n).find? (fun p=>signIs p.1 ts) with
 | none=>rw [hq] at h;exact absurd rfl h
 | some p=>exact ⟨p,List.mem_of_find?_eq_some hq,List.find?_some (p:=fun p:ByteArray × Int=>signIs p.1 ts) hq,rfl⟩
theorem Suf.op {n:Nat} {ts:List Tk} (h:opK n ts≠0):Suf 1 ts.tail ts:=by
 obtain ⟨p,_,h1,_⟩:=opK_pos h;exact Suf.sign h1
theorem refP_ok {base:Nat} {t:Tk} {ts:List Tk} {ns:List Nd} {a:Nat} {r:List Tk} (h:refP base t ts = .ok (ns,a,r)):Suf 0 r ts∧ns.length=1∧a=base:=by
 unfold refP at h
 by_cases c:signIs ⟨#[58]⟩ ts=true
 · rw [if_pos c] at h
   cases hq:ts.tail with
   | nil=>rw [hq] at h;cases h
   | cons u us =>
     rw [hq] at h
     simp only at h
     by_cases d:u.kind=4∧spanB t.rf u.rf=true
     · rw [if_pos d] at h
       injection h with h;injection h with h1 h2;injection h2 with h2 h3
       subst h1;subst h2;subst h3
       have s1:=Suf.sign c
       rw [hq] at s1
       exact ⟨((Suf.head (ts:=us) (show u.kind≠0 by omega)).trans s1).less (by omega),rfl,rfl⟩
     · rw [if_neg d] at h;cases h
 · rw [if_neg c] at h
   injection h with h;injection h with h1 h2;injection h2 with h2 h3
   subst h1;subst h2;subst h3
   exact ⟨Suf.refl _,rfl,rfl⟩
def Told (base:Nat) (ts:List Tk) (ns:List Nd) (a:Nat) (r:List Tk):Prop:=Suf 1 r ts∧a+1=base+ns.length∧1≤ns.length
theorem told_all : ∀ f : Nat, (∀ n deep base ts ns a r,exprP f n deep base ts=some (.ok (ns,a,r))→Told base ts ns a r) ∧
 (∀ n deep base ns a ts ns' a' r,rowP f n deep base ns a ts=some (.ok (ns',a',r))→a+1=base+ns.length→1≤ns.length→Suf 0 r ts∧a'+1=base+ns'.length∧1≤ns'.length) ∧
 (∀ deep base ts ns a r,primP f deep base ts=some (.ok (ns,a,r))→Told base ts ns a r) ∧
 (∀ deep base ns ks ts ns' ks' r,argsP f deep base ns ks ts=some (.ok (ns',ks',r))→Suf 1 r ts)
 | 0=>by
   refine ⟨?_, ?_, ?_, ?_⟩
   · intro n deep base ts ns a r h;unfold exprP at h;cases h
   · intro n deep base ns a ts ns' a' r h;unfold rowP at h;cases h
   · intro deep base ts ns a r h;unfold primP at h;cases h
   · intro deep base ns ks ts ns' ks' r h;unfold argsP at h;cases h
 | f + 1 => by
   obtain ⟨i1,i2,i3,i4⟩:=told_all f
   refine ⟨?_, ?_, ?_, ?_⟩
   · intro n deep base ts ns a r h
     rw [exprP_succ] at h
     by_cases c:n≤3
     · rw [if_pos c] at h
       rcases bindR_some h with ⟨e,_,h2⟩ | ⟨ms,b,s,h1,h2⟩
       · cases h2
       · obtain ⟨k1,k2,k3⟩:=i1 _ _ _ _ _ _ _ h1
         obtain ⟨g1,g2,g3⟩:=i2 _ _ _ _ _ _ _ _ _ h2 k2 k3
         exact ⟨g1.trans k1,g2,g3⟩
     · rw [if_neg c] at h
       by_cases d:signIs ⟨#[45]⟩ ts=true
       · rw [if_pos d] at h
         by_cases d2:12≤deep
         · rw [if_pos d2] at h;cases h
         · rw [if_neg d2] at h
           rcases bindR_some h with ⟨e,_,h2⟩ | ⟨ms,b,s,h1,h2⟩
           · cases h2
           · obtain ⟨k1,k2,k3⟩:=i1 _ _ _ _ _ _ _ h1
             injection h2 with h2;injection h2 with h2;injection h2 with h3 h4;injection h4 with h4 h5
             subst h3;subst h4;subst h5
             exact ⟨(k1.trans (Suf.sign d)).less (by omega),by rw [List.length_append];simp;omega,by rw [List.length_append];simp⟩
       · rw [if_neg d] at h;exact i3 _ _ _ _ _ _ h
   · intro n deep base ns a ts ns' a' r h ha hn
     rw [rowP_succ] at h
     by_cases c:opK n ts=0
     · rw [if_pos c] at h
       injection h with h;injection h with h;injection h with h1 h2;injection h2 with h2 h3
       subst h1;subst h2;subst h3
       exact ⟨Suf.refl _,ha,hn⟩
     · rw [if_neg c] at h
       rcases bindR_some h with ⟨e,_,h2⟩ | ⟨ms,b,s,h1,h2⟩
       · cases h2
       · obtain ⟨k1,k2,k3⟩:=i1 _ _ _ _ _ _ _ h1
         obtain ⟨g1,g2,g3⟩:=i2 _ _ _ _ _ _ _ _ _ h2 (by simp only [List.length_append,List.length_cons,List.length_nil];omega) (by simp only [List.length_append,List.length_cons,List.length_nil];omega)
         exact ⟨((g1.trans k1).trans (Suf.op c)).less (by omega),g2,g3⟩
   · intro deep base ts ns a r h
     cases ts with
     | nil=>rw [primP_nil] at h;cases h
     | cons t ts =>
       have leaf:∀ (x:Nd),t.kind≠0→(some (.ok ([x],base,ts)):Option Res)=some (.ok (ns,a,r))→Told base (t :: ts) ns a r:=by
        intro x hk h
        injection h with h;injection h with h;injection h with h1 h2;injection h2 with h2 h3
        subst h1;subst h2;subst h3
        exact ⟨Suf.head hk,by simp,by simp⟩
       rw [primP_cons] at h
       by_cases c1:signIs ⟨#[40]⟩ (t :: ts)=true
       · rw [if_pos c1] at h
         have s1:=Suf.sign c1
         by_cases d:12≤deep
         · rw [if_pos d] at h;cases h
         · rw [if_neg d] at h
           rcases bindR_some h with ⟨e,_,h2⟩ | ⟨ms,b,s,h1,h2⟩
           · cases h2
           · obtain ⟨k1,k2,k3⟩:=i1 _ _ _ _ _ _ _ h1
             by_cases d2:signIs ⟨#[41]⟩ s=true
             · rw [if_pos d2] at h2
               injection h2 with h2;injection h2 with h2;injection h2 with h3 h4;injection h4 with h4 h5
               subst h3;subst h4;subst h5
               exact ⟨(((Suf.sign d2).trans k1).trans s1).less (by omega),k2,k3⟩
             · rw [if_neg d2] at h2;cases h2
       · rw [if_neg c1] at h
         by_cases c2:t.kind=1
         · rw [if_pos c2] at h;exact leaf _ (by omega) h
         · rw [if_neg c2] at h
           by_cases c3:t.kind=2
           · rw [if_pos c3] at h;exact leaf _ (by omega) h
           · rw [if_neg c3] at h
             by_cases c4:t.kind=6
             · rw [if_pos c4] at h;exact leaf _ (by omega) h
             · rw [if_neg c4] at h
               by_cases c5:t.kind=4
               · rw [if_pos c5] at h
                 injection h with h
                 obtain ⟨g1,g2,g3⟩:=refP_ok h
                 exact ⟨(g1.trans (Suf.head (show t.kind≠0 by omega))).less (by omega),by omega,by omega⟩
               · rw [if_neg c5] at h
                 by_cases c6:t.kind=3
                 · rw [if_pos c6] at h
                   by_cases c7:t.text=⟨#[84,82,85,69]⟩
                   · rw [if_pos c7] at h;exact leaf _ (by omega) h
                   · rw [if_neg c7] at h
                     by_cases c8:t.text=⟨#[70,65,76,83,69]⟩
                     · rw [if_pos c8] at h;exact leaf _ (by omega) h
                     · rw [if_neg c8] at h
                       by_cases c9:signIs ⟨#[40]⟩ ts=true
                       · rw [if_pos c9] at h
                         by_cases d:12≤deep
                         · rw [if_pos d] at h;cases h
                         · rw [if_neg d] at h
                           rcases bindR_some h with ⟨e,_,h2⟩ | ⟨ms,ks,s,h1,h2⟩
                           · cases h2
                           · have k1:Suf 0 s ts.tail:=by
                              by_cases c10:signIs ⟨#[41]⟩ ts.tail=true
                              · rw [if_pos c10] at h1
                                injection h1 with h1;injection h1 with h1;injection h1 with h3 h4;injection h4 with h4 h5
                                subst h5;exact Suf.refl _
                              · rw [if_neg c10] at h1;exact (i4 _ _ _ _ _ _ _ _ h1).less (by omega)
                             by_cases d2:signIs ⟨#[41]⟩ s=true
                             · rw [if_pos d2] at h2
                               injection h2 with h2;injection h2 with h2;injection h2 with h3 h4;injection h4 with h4 h5
                               subst h3;subst h4;subst h5
                               exact ⟨((((Suf.sign d2).trans k1).trans (Suf.sign c9)).trans (Suf.head (show t.kind≠0 by omega))).less (by omega),by rw [List.length_append];simp;omega,by rw [List.length_append];simp⟩
                             · rw [if_neg d2] at h2;cases h2
                       · rw [if_neg c9] at h;cases h
                 · rw [if_neg c6] at h;cases h
   · intro deep base ns ks ts ns' ks' r h
     rw [argsP_succ] at h
     rcases bindR_some h with ⟨e,_,h2⟩ | ⟨ms,b,s,h1,h2⟩
     · cases h2
     · obtain ⟨k1,k2,k3⟩:=i1 _ _ _ _ _ _ _ h1
       by_cases d:signIs ⟨#[44]⟩ s=true
       · rw [if_pos d] at h2
         exact (((i4 _ _ _ _ _ _ _ _ h2).trans (Suf.sign d)).trans k1).less (by omega)
       · rw [if_neg d] at h2
         injection h2 with h2;injection h2 with h2;injection h2 with h3 h4;injection h4 with h4 h5
         subst h5;exact k1
def noRf (r:Rf):Bool:=decide (r.sh=⟨#[]⟩∧r.c=0∧r.r=0)&&(!r.ac && !r.ar)
def mayRf (r:Rf):Bool:=mayL (sb r.sh) r.c r.r
def printB (l:List Int):Bool:=decide (∀ x∈l,¬ x<32)
def callB (s:ByteArray):Bool:=calledL (sb s)&&((readS s).isNone&&(decide (¬ s=⟨#[84,82,85,69]⟩)&&decide (¬ s=⟨#[70,65,76,83,69]⟩)))
def armsN (k:Int):Int:=if 1≤k∧k≤6 then 0 else if k=7 then -1 else if k=8 then 1 else if 9≤k∧k≤19 then 2 else -2
def leafB (n:Nd):Bool :=
 if (n.kind≠1∧n.kind≠3∧n.num≠0)∨(n.kind≠2∧n.kind≠7∧n.text≠⟨#[]⟩)∨(n.kind≠5∧n.kind≠6∧noRf n.ref=false)∨(n.kind≠6∧noRf n.to=false) then false
 else if n.kind=1 then decide (0≤n.num)
 else if n.kind=3 then decide (n.num=0∨n.num=1)
 else if n.kind=2 then printB (sb n.text)
 else if n.kind=7 then callB n.text
 else if n.kind=5 then mayRf n.ref
 else if n.kind=6 then mayRf n.ref&&(mayRf n.to&&spanB n.ref n.to)
 else true
def nodeB (n:Nd):Bool:=leafB n&&(decide (armsN n.kind = -1)||decide (armsN n.kind=n.kids.length))
def treeF:List Int→Nat→List Nd→Bool
 | st,_,[]=>decide (st.length=1)
 | st,i,n :: ns=>nodeB n&&(decide (n.kids.length≤st.length)&&(decide (st.drop (st.length - n.kids.length)=n.kids)&&treeF (st.take (st.length - n.kids.length)++[(i:Int)]) (i+1) ns))
theorem treeF_cons (st:List Int) (i:Nat) (n:Nd) (ns:List Nd):treeF st i (n :: ns)=(nodeB n&&(decide (n.kids.length≤st.length)&&(decide (st.drop (st.length - n.kids.length)=n.kids)&&treeF (st.take (st.length - n.kids.length)++[(i:Int)]) (i+1) ns))):=rfl
def treeB (l:List Nd):Bool:=treeF [] 0 l
def Plants (base:Nat) (ns:List Nd) (ks:List Int):Prop:=∀ st rest,treeF st base (ns++rest)=treeF (st++ks) (base+ns.length) rest
theorem Plants.nil (base:Nat):Plants base [] []:=fun st rest=>by simp
theorem Plants.app {base:Nat} {ns ms:List Nd} {ks js:List Int} (h:Plants base ns ks) (g:Plants (base+ns.length) ms js):Plants base (ns++ms) (ks++js):=by
 intro st rest
 rw [List.append_assoc,h,g,List.append_assoc,List.length_append,Nat.add_assoc]
theorem Plants.node {base:Nat} {ns:List Nd} {n:Nd} (h:Plants base ns n.kids) (hn:nodeB n=true):Plants base (ns++[n]) [((base+ns.length:Nat):Int)]:=by
 intro st rest
 rw [List.append_assoc,h]
 show treeF (st++n.kids) (base+ns.length) (n :: rest)=_
 rw [treeF_cons]
 have e1:(st++n.kids).length - n.kids.length=st.length:=by rw [List.length_append];omega
 rw [hn,e1,List.drop_left,List.take_left,decide_eq_true (show n.kids.length≤(st++n.kids).length by rw [List.length_append];omega),decide_eq_true rfl,Bool.true_and,Bool.true_and,Bool.true_and,List.length_append]
 rfl
structure GoodT (t:Tk):Prop where
 num:t.kind=1→0≤t.num
 text:t.kind=2→printB (sb t.text)=true
 name:t.kind=3→calledL (sb t.text)=true∧(readS t.text).isNone=true
 ref:t.kind=4→mayRf t.rf=true
def Good (ts:List Tk):Prop:=∀ t∈ts,GoodT t
theorem Good.tail {ts:List Tk} (h:Good ts):Good ts.tail:=fun t ht=>h t (List.mem_of_mem_tail ht)
theorem Good.suf {m:Nat} {r ts:List Tk} (h:Good ts) (hs:Suf m r ts):Good r:=by
 obtain ⟨p,rfl,_,_⟩:=hs;exact fun t ht=>h t (List.mem_append_right _ ht)
theorem noRf_zero:noRf Rf.zero=true:=by decide
theorem opK_kind {n:Nat} {ts:List Tk} (h:opK n ts≠0):9≤opK n ts∧opK n ts≤19:=by
 obtain ⟨p,hp,_,e⟩:=opK_pos h
 rw [e]
 match n with
 | 0=>simp [levelL] at hp;rcases hp with rfl | rfl | rfl | rfl | rfl | rfl <;> decide
 | 1=>simp [levelL] at hp;subst hp;decide
 | 2=>simp [levelL] at hp;rcases hp with rfl | rfl <;> decide
 | n+3=>simp [levelL] at hp;rcases hp with rfl | rfl <;> decide
theorem node_op {k a b:Int} (h:9≤k∧k≤19):nodeB { Nd.zero with kind:=k,kids:=[a,b] }=true:=by
 unfold nodeB
 have h1:leafB { Nd.zero with kind:=k,kids:=[a,b] }=true:=by
  unfold leafB
  rw [if_neg (by
   rintro (⟨_,_,h⟩ | ⟨_,_,h⟩ | ⟨_,_,h⟩ | ⟨_,h⟩)
   · exact h rfl
   · exact h rfl
   · rw [show noRf ({ Nd.zero with kind:=k,kids:=[a,b] }:Nd).ref=true from noRf_zero] at h;cases h
   · rw [show noRf ({ Nd.zero with kind:=k,kids:=[a,b] }:Nd).to=true from noRf_zero] at h;cases h),if_neg (by show ¬ k=1;omega),if_neg (by show ¬ k=3;omega),if_neg (by show ¬ k=2;omega),if_neg (by show ¬ k=7;omega),if_neg (by show ¬ k=5;omega),if_neg (by show ¬ k=6;omega)]
 have h2:armsN k=2:=by unfold armsN;rw [if_neg (by omega),if_neg (by omega),if_neg (by omega),if_pos h]
 rw [h1,Bool.true_and,Bool.or_eq_true]
 right
 rw [decide_eq_true_iff];exact h2
theorem node_neg (a:Int):nodeB { Nd.zero with kind:=8,kids:=[a] }=true:=by
 unfold nodeB leafB;rfl
theorem node_num {n:Int} (h:0≤n):nodeB { Nd.zero with kind:=1,num:=n }=true:=by
 unfold nodeB
 have h1:leafB { Nd.zero with kind:=1,num:=n }=true:=by
  unfold leafB
  rw [if_neg (by
   rintro (⟨h,_⟩ | ⟨_,_,h⟩ | ⟨_,_,h⟩ | ⟨_,h⟩)
   · exact h rfl
   · exact h rfl
   · rw [show noRf ({ Nd.zero with kind:=1,num:=n }:Nd).ref=true from noRf_zero] at h;cases h
   · rw [show noRf ({ Nd.zero with kind:=1,num:=n }:Nd).to=true from noRf_zero] at h;cases h),if_pos rfl]
  exact decide_eq_true h
 rw [h1];rfl
theorem node_text {s:ByteArray} (h:printB (sb s)=true):nodeB { Nd.zero with kind:=2,text:=s }=true:=by
 unfold nodeB
 have h1:leafB { Nd.zero with kind:=2,text:=s }=true:=by
  unfold leafB
  rw [if_neg (by
   rintro (⟨_,_,h⟩ | ⟨h,_⟩ | ⟨_,_,h⟩ | ⟨_,h⟩)
   · exact h rfl
   · exact h rfl
   · rw [show noRf ({ Nd.zero with kind:=2,text:=s }:Nd).ref=true from noRf_zero] at h;cases h
   · rw [show noRf ({ Nd.zero with kind:=2,text:=s }:Nd).to=true from noRf_zero] at h;cases h),if_neg (by show ¬ (2:Int)=1;omega),if_neg (by show ¬ (2:Int)=3;omega),if_pos rfl]
  exact h
 rw [h1];rfl
theorem node_call {s:ByteArray} {ks:List Int} (h:callB s=true):nodeB { Nd.zero with kind:=7,text:=s,kids:=ks }=true:=by
 unfold nodeB
 have h1:leafB { Nd.zero with kind:=7,text:=s,kids:=ks }=true:=by
  unfold leafB
  rw [if_neg (by
   rintro (⟨_,_,h⟩ | ⟨_,h,_⟩ | ⟨_,_,h⟩ | ⟨_,h⟩)
   · exact h rfl
   · exact h rfl
   · rw [show noRf ({ Nd.zero with kind:=7,text:=s,kids:=ks }:Nd).ref=true from noRf_zero] at h;cases h
   · rw [show noRf ({ Nd.zero with kind:=7,text:=s,kids:=ks }:Nd).to=true from noRf_zero] at h;cases h),if_neg (by show ¬ (7:Int)=1;omega),if_neg (by show ¬ (7:Int)=3;omega),if_neg (by show ¬ (7:Int)=2;omega),if_pos rfl]
  exact h
 rw [h1];rfl
theorem node_ref {r:Rf} (h:mayRf r=true):nodeB { Nd.zero with kind:=5,ref:=r }=true:=by
 unfold nodeB
 have h1:leafB { Nd.zero with kind:=5,ref:=r }=true:=by
  unfold leafB
  rw [if_neg (by
   rintro (⟨_,_,h⟩ | ⟨_,_,h⟩ | ⟨h,_⟩ | ⟨_,h⟩)
   · exact h rfl
   · exact h rfl
   · exact h rfl
   · rw [show noRf ({ Nd.zero with kind:=5,ref:=r }:Nd).to=true from noRf_zero] at h;cases h),if_neg (by show ¬ (5:Int)=1;omega),if_neg (by show ¬ (5:Int)=3;omega),if_neg (by show ¬ (5:Int)=2;omega),if_neg (by show ¬ (5:Int)=7;omega),if_pos rfl]
  exact h
 rw [h1];rfl
theorem node_range {r t:Rf} (h:mayRf r=true) (g:mayRf t=true) (hs:spanB r t=true):nodeB { Nd.zero with kind:=6,ref:=r,to:=t }=true:=by
 unfold nodeB
 have h1:leafB { Nd.zero with kind:=6,ref:=r,to:=t }=true:=by
  unfold leafB
  rw [if_neg (by
   rintro (⟨_,_,h⟩ | ⟨_,_,h⟩ | ⟨_,h,_⟩ | ⟨h,_⟩)
   · exact h rfl
   · exact h rfl
   · exact h rfl
   · exact h rfl),if_neg (by show ¬ (6:Int)=1;omega),if_neg (by show ¬ (6:Int)=3;omega),if_neg (by show ¬ (6:Int)=2;omega),if_neg (by show ¬ (6:Int)=7;omega),if_neg (by show ¬ (6:Int)=5;omega),if_pos rfl]
  show (mayRf r&&(mayRf t&&spanB r t))=true
  rw [h,g,hs];rfl
 rw [h1];rfl
theorem Plants.leaf {base:Nat} {n:Nd} (hk:n.kids=[]) (hn:nodeB n=true):Plants base [n] [(base:Int)]:=by
 have h:=Plants.node (base:=base) (ns:=[]) (n:=n) (by rw [hk];exact Plants.nil base) hn
 exact h
theorem refP_tree {base:Nat} {t:Tk} {ts:List Tk} {ns:List Nd} {a:Nat} {r:List Tk} (h:refP base t ts = .ok (ns,a,r)) (ht:mayRf t.rf=true) (hg:Good ts):Plants base ns [(a:Int)]:=by
 unfold refP at h
 by_cases c:signIs ⟨#[58]⟩ ts=true
 · rw [if_pos c] at h
   cases hq:ts.tail with
   | nil=>rw [hq] at h;cases h
   | cons u us =>
     rw [hq] at h
     simp only at h
     by_cases d:u.kind=4∧spanB t.rf u.rf=true
     · rw [if_pos d] at h
       injection h with h;injection h with h1 h2;injection h2 with h2 h3
       subst h1;subst h2
       have hu:=(hg u (List.mem_of_mem_tail (by rw [hq];simp))).ref d.1
       exact Plants.leaf rfl (node_range ht hu d.2)
     · rw [if_neg d] at h;cases h
 · rw [if_neg c] at h
   injection h with h;injection h with h1 h2;injection h2 with h2 h3
   subst h1;subst h2
   exact Plants.leaf rfl (node_ref ht)
theorem told_tree : ∀ f : Nat, (∀ n deep base ts ns a r,exprP f n deep base ts=some (.ok (ns,a,r))→Good ts→Plants base ns [(a:Int)]) ∧
 (∀ n deep base ns a ts ns' a' r,rowP f n deep base ns a ts=some (.ok (ns',a',r))→Good ts→Plants base ns [(a:Int)]→Plants base ns' [(a':Int)]) ∧
 (∀ deep base ts ns a r,primP f deep base ts=some (.ok (ns,a,r))→Good ts→Plants base ns [(a:Int)]) ∧
 (∀ deep base ns ks ts ns' ks' r,argsP f deep base ns ks ts=some (.ok (ns',ks',r))→Good ts→Plants base ns ks→Plants base ns' ks')
 | 0=>by
   refine ⟨?_, ?_, ?_, ?_⟩
   · intro n deep base ts ns a r h;unfold exprP at h;cases h
   · intro n deep base ns a ts ns' a' r h;unfold rowP at h;cases h
   · intro deep base ts ns a r h;unfold primP at h;cases h
   · intro deep base ns ks ts ns' ks' r h;unfold argsP at h;cases h
 | f + 1 => by
   obtain ⟨i1,i2,i3,i4⟩:=told_tree f
   refine ⟨?_, ?_, ?_, ?_⟩
   · intro n deep base ts ns a r h hg
     rw [exprP_succ] at h
     by_cases c:n≤3
     · rw [if_pos c] at h
       rcases bindR_some h with ⟨e,_,h2⟩ | ⟨ms,b,s,h1,h2⟩
       · cases h2
       · exact i2 _ _ _ _ _ _ _ _ _ h2 (hg.suf ((told_all f).1 _ _ _ _ _ _ _ h1).1) (i1 _ _ _ _ _ _ _ h1 hg)
     · rw [if_neg c] at h
       by_cases d:signIs ⟨#[45]⟩ ts=true
       · rw [if_pos d] at h
         by_cases d2:12≤deep
         · rw [if_pos d2] at h;cases h
         · rw [if_neg d2] at h
           rcases bindR_some h with ⟨e,_,h2⟩ | ⟨ms,b,s,h1,h2⟩
           · cases h2
           · injection h2 with h2;injection h2 with h2;injection h2 with h3 h4;injection h4 with h4 h5
             subst h3;subst h4
             exact Plants.node (n:={ Nd.zero with kind:=8,kids:=[(b:Int)] }) (i1 _ _ _ _ _ _ _ h1 hg.tail) (node_neg _)
       · rw [if_neg d] at h;exact i3 _ _ _ _ _ _ h hg
   · intro n deep base ns a ts ns' a' r h hg hp
     rw [rowP_succ] at h
     by_cases c:opK n ts=0
     · rw [if_pos c] at h
       injection h with h;injection h with h;injection h with h1 h2;injection h2 with h2 h3
       subst h1;subst h2;exact hp
     · rw [if_neg c] at h
       rcases bindR_some h with ⟨e,_,h2⟩ | ⟨ms,b,s,h1,h2⟩
       · cases h2
       · have p2:=i1 _ _ _ _ _ _ _ h1 hg.tail
         have p3:=Plants.node (n:={ Nd.zero with kind:=opK n ts,kids:=[(a:Int),(b:Int)] }) (Plants.app hp p2) (node_op (opK_kind c))
         rw [List.append_assoc,List.length_append] at p3
         exact i2 _ _ _ _ _ _ _ _ _ h2 (hg.tail.suf ((told_all f).1 _ _ _ _ _ _ _ h1).1) p3
   · intro deep base ts ns a r h hg
     cases ts with
     | nil=>rw [primP_nil] at h;cases h
     | cons t ts =>
       have ht:=hg t (by simp)
       have hgs:Good ts:=fun x hx=>hg x (by simp [hx])
       have leaf:∀ (x:Nd),x.kids=[]→nodeB x=true→(some (.ok ([x],base,ts)):Option Res)=some (.ok (ns,a,r))→Plants base ns [(a:Int)]:=by
        intro x hk hn h
        injection h with h;injection h with h;injection h with h1 h2;injection h2 with h2 h3
        subst h1;subst h2
        exact Plants.leaf hk hn
       rw [primP_cons] at h
       by_cases c1:signIs ⟨#[40]⟩ (t :: ts)=true
       · rw [if_pos c1] at h
         by_cases d:12≤deep
         · rw [if_pos d] at h;cases h
         · rw [if_neg d] at h
           rcases bindR_some h with ⟨e,_,h2⟩ | ⟨ms,b,s,h1,h2⟩
           · cases h2
           · by_cases d2:signIs ⟨#[41]⟩ s=true
             · rw [if_pos d2] at h2
               injection h2 with h2;injection h2 with h2;injection h2 with h3 h4;injection h4 with h4 h5
               subst h3;subst h4
               exact i1 _ _ _ _ _ _ _ h1 hgs
             · rw [if_neg d2] at h2;cases h2
       · rw [if_neg c1] at h
         by_cases c2:t.kind=1
         · rw [if_pos c2] at h;exact leaf { Nd.zero with kind:=1,num:=t.num } rfl (node_num (ht.num c2)) h
         · rw [if_neg c2] at h
           by_cases c3:t.kind=2
           · rw [if_pos c3] at h;exact leaf { Nd.zero with kind:=2,text:=t.text } rfl (node_text (ht.text c3)) h
           · rw [if_neg c3] at h
             by_cases c4:t.kind=6
             · rw [if_pos c4] at h;exact leaf { Nd.zero with kind:=4 } rfl rfl h
             · rw [if_neg c4] at h
               by_cases c5:t.kind=4
               · rw [if_pos c5] at h
                 injection h with h
                 exact refP_tree h (ht.ref c5) hgs
               · rw [if_neg c5] at h
                 by_cases c6:t.kind=3
                 · rw [if_pos c6] at h
                   by_cases c7:t.text=⟨#[84,82,85,69]⟩
                   · rw [if_pos c7] at h;exact leaf { Nd.zero with kind:=3,num:=1 } rfl rfl h
                   · rw [if_neg c7] at h
                     by_cases c8:t.text=⟨#[70,65,76,83,69]⟩
                     · rw [if_pos c8] at h;exact leaf { Nd.zero with kind:=3 } rfl rfl h
                     · rw [if_neg c8] at h
                       by_cases c9:signIs ⟨#[40]⟩ ts=true
                       · rw [if_pos c9] at h
                         by_cases d:12≤deep
                         · rw [if_pos d] at h;cases h
                         · rw [if_neg d] at h
                           rcases bindR_some h with ⟨e,_,h2⟩ | ⟨ms,ks,s,h1,h2⟩
                           · cases h2
                           · have k1:Plants base ms ks:=by
                              by_cases c10:signIs ⟨#[41]⟩ ts.tail=true
                              · rw [if_pos c10] at h1
                                injection h1 with h1;injection h1 with h1;injection h1 with h3 h4;injection h4 with h4 h5
                                subst h3;subst h4;exact Plants.nil _
                              · rw [if_neg c10] at h1;exact i4 _ _ _ _ _ _ _ _ h1 hgs.tail (Plants.nil _)
                             by_cases d2:signIs ⟨#[41]⟩ s=true
                             · rw [if_pos d2] at h2
                               injection h2 with h2;injection h2 with h2;injection h2 with h3 h4;injection h4 with h4 h5
                               subst h3;subst h4
                               have hcb:callB t.text=true:=by
                                unfold callB
                                rw [(ht.name c6).1,(ht.name c6).2,decide_eq_true c7,decide_eq_true c8];rfl
                               exact Plants.node (n:={ Nd.zero with kind:=7,text:=t.text,kids:=ks }) k1 (node_call hcb)
                             · rw [if_neg d2] at h2;cases h2
                       · rw [if_neg c9] at h;cases h
                 · rw [if_neg c6] at h;cases h
   · intro deep base ns ks ts ns' ks' r h hg hp
     rw [argsP_succ] at h
     rcases bindR_some h with ⟨e,_,h2⟩ | ⟨ms,b,s,h1,h2⟩
     · cases h2
     · have p2:=Plants.app hp (i1 _ _ _ _ _ _ _ h1 hg)
       have hgs:=hg.suf ((told_all f).1 _ _ _ _ _ _ _ h1).1
       by_cases d:signIs ⟨#[44]⟩ s=true
       · rw [if_pos d] at h2
         exact i4 _ _ _ _ _ _ _ _ h2 hgs.tail p2
       · rw [if_neg d] at h2
         injection h2 with h2;injection h2 with h2;injection h2 with h3 h4;injection h4 with h4 h5
         subst h3;subst h4;exact p2
theorem parse_tree {f:Nat} {ts:List Tk} {ns:List Nd} (h:parseP f ts=some (.ok ns)) (hg:Good ts):treeB ns=true:=by
 unfold parseP at h
 rcases bindR_some h with ⟨e,_,h2⟩ | ⟨ms,b,s,h1,h2⟩
 · cases h2
 · have hp:=(told_tree f).1 _ _ _ _ _ _ _ h1 hg
   by_cases c:kindAt s=0
   · rw [if_pos c] at h2
     injection h2 with h2;injection h2 with h2
     subst h2
     have:=hp [] []
     rw [List.append_nil] at this
     unfold treeB;rw [this];rfl
   · rw [if_neg c] at h2;cases h2
theorem quoF_good:∀ (n:Nat) (l t:List Int) (k:Nat),l.length≤n→Bytes l→quoF l=some (t,k)→Bytes t∧∀ x∈t,¬ x<32
 | _,[],_,_,_,_,h=>by simp [quoF] at h
 | 0,_ :: _,_,_,hn,_,_=>by simp at hn
 | n + 1, x :: l,t,k,hn,hb,h=>by
   have hbl:Bytes l:=fun y hy=>hb y (by simp [hy])
   rw [quoF_cons] at h
   by_cases h1:x<32
   · rw [if_pos h1] at h;cases h
   · rw [if_neg h1] at h
     by_cases h2:x≠34
     · rw [if_pos h2] at h
       cases hq:quoF l with
       | none=>rw [hq] at h;cases h
       | some q =>
         rw [hq] at h
         simp only [Option.map_some,Option.some.injEq,Prod.mk.injEq] at h
         obtain ⟨g1,g2⟩:=quoF_good n l q.1 q.2 (by simp at hn;omega) hbl hq
         rw [← h.1]
         refine ⟨?_, ?_⟩
         · intro y hy
           rcases List.mem_cons.1 hy with rfl | hy
           · exact hb _ (by simp)
           · exact g1 y hy
         · intro y hy
           rcases List.mem_cons.1 hy with rfl | hy
           · exact h1
           · exact g2 y hy
     · rw [if_neg h2] at h
       cases l with
       | nil=>simp at h;rw [h.1];exact ⟨Bytes.nil,by simp⟩
       | cons y m =>
         by_cases hy:y=34
         · simp only [hy,if_true] at h
           cases hq:quoF m with
           | none=>rw [hq] at h;cases h
           | some q =>
             rw [hq] at h
             simp only [Option.map_some,Option.some.injEq,Prod.mk.injEq] at h
             obtain ⟨g1,g2⟩:=quoF_good n m q.1 q.2 (by simp at hn;omega) (fun z hz=>hbl z (by simp [hz])) hq
             rw [← h.1]
             refine ⟨?_, ?_⟩
             · intro z hz
               rcases List.mem_cons.1 hz with rfl | hz
               · omega
               · exact g1 z hz
             · intro z hz
               rcases List.mem_cons.1 hz with rfl | hz
               · omega
               · exact g2 z hz
         · simp only [hy,if_false,Option.some.injEq,Prod.mk.injEq] at h
           rw [← h.1];exact ⟨Bytes.nil,by simp⟩
theorem Bytes.span {l:List Int} (h:Bytes l) (p:Int→Bool):Bytes (l.takeWhile p):=fun x hx=>h x ((List.takeWhile_prefix p).subset hx)
theorem tokT_good (l:List Int) (t:Tk) (n p:Nat) (hb:Bytes l) (h:tokT l=some (t,n)):GoodT (t.goto p)∧t.kind≠0:=by
 cases l with
 | nil=>simp [tokT] at h
 | cons x l =>
   rw [tokT_cons] at h
   by_cases h1:isNum x=true
   · rw [if_pos h1] at h
     unfold numT at h
     split at h
     · cases h
     · simp only [Option.some.injEq,Prod.mk.injEq] at h
       rw [← h.1]
       have hv:=valL_ge ((x :: l).takeWhile isNum) [] (take_all isNum _) (by decide)
       rw [List.nil_append] at hv
       exact ⟨⟨fun _=>hv,fun h=>by simp [Tk.goto] at h,fun h=>by simp [Tk.goto] at h,fun h=>by simp [Tk.goto] at h⟩,by simp⟩
   · rw [if_neg h1] at h
     by_cases h2:x=34
     · rw [if_pos h2] at h
       unfold quoT at h
       cases hq:quoF l with
       | none=>rw [hq] at h;cases h
       | some q =>
         rw [hq] at h
         simp only [Option.map_some,Option.some.injEq,Prod.mk.injEq] at h
         obtain ⟨g1,g2⟩:=quoF_good _ l q.1 q.2 (Nat.le_refl _) (fun y hy=>hb y (by simp [hy])) hq
         rw [← h.1]
         refine ⟨⟨fun h=>by simp [Tk.goto] at h,fun _ => ?_,fun h=>by simp [Tk.goto] at h,fun h=>by simp [Tk.goto] at h⟩,by simp⟩
         show printB (sb (strOfNums q.1))=true
         rw [sb_str _ g1];unfold printB;exact decide_eq_true g2
     · rw [if_neg h2] at h
       by_cases h3:x=35
       · rw [if_pos h3] at h
         unfold deadT at h
         split at h
         · simp only [Option.some.injEq,Prod.mk.injEq] at h
           rw [← h.1]
           exact ⟨⟨fun h=>by simp [Tk.goto] at h,fun h=>by simp [Tk.goto] at h,fun h=>by simp [Tk.goto] at h,fun h=>by simp [Tk.goto] at h⟩,by simp⟩
         · cases h
       · rw [if_neg h3] at h
         by_cases h4:isLet x=true∨x=36
         · rw [if_pos h4] at h
           unfold wordT at h
           cases hq:readS (strOfNums ((x :: l).takeWhile isWord)) with
           | some d =>
             rw [hq] at h
             simp only [Option.some.injEq,Prod.mk.injEq] at h
             rw [← h.1]
             exact ⟨⟨fun h=>by simp [Tk.goto] at h,fun h=>by simp [Tk.goto] at h,fun h=>by simp [Tk.goto] at h,fun _=>(read_some _ d hq).2.1⟩,by simp⟩
           | none =>
             rw [hq] at h
             simp only at h
             by_cases hc:calledL ((x :: l).takeWhile isWord)=true
             · rw [if_pos hc] at h
               simp only [Option.some.injEq,Prod.mk.injEq] at h
               rw [← h.1]
               refine ⟨⟨fun h=>by simp [Tk.goto] at h,fun h=>by simp [Tk.goto] at h,fun _=>⟨?_, ?_⟩,fun h=>by simp [Tk.goto] at h⟩,by simp⟩
               · show calledL (sb (strOfNums ((x :: l).takeWhile isWord)))=true
                 rw [sb_str _ (hb.span isWord)];exact hc
               · show (readS (strOfNums ((x :: l).takeWhile isWord))).isNone=true
                 rw [hq];rfl
             · rw [if_neg hc] at h;cases h
         · rw [if_neg h4] at h
           unfold signT at h
           split at h
           · cases h
           · simp only [Option.some.injEq,Prod.mk.injEq] at h
             rw [← h.1]
             exact ⟨⟨fun h=>by simp [Tk.goto] at h,fun h=>by simp [Tk.goto] at h,fun h=>by simp [Tk.goto] at h,fun h=>by simp [Tk.goto] at h⟩,by simp⟩
def Fit (ts:List Tk):Prop:=∃ body e,ts=body++[e]∧e.kind=0∧∀ t∈body,t.kind≠0
theorem lexF_good:∀ (f p:Nat) (l:List Int) (ts:List Tk),Bytes l→lexF f p l=some ts→Good ts∧Fit ts
 | f,p,[],ts,_,h=>by
   have h0:lexF f p []=some [Tk.zero.goto p]:=by unfold lexF;rfl
   rw [h0] at h;injection h with h;subst h
   refine ⟨?_,[],_,rfl,rfl,by simp⟩
   intro t ht;simp at ht;subst ht
   exact ⟨fun h=>by simp [Tk.goto,Tk.zero] at h,fun h=>by simp [Tk.goto,Tk.zero] at h,fun h=>by simp [Tk.goto,Tk.zero] at h,fun h=>by simp [Tk.goto,Tk.zero] at h⟩
 | 0,_,_ :: _,_,_,h=>by unfold lexF at h;cases h
 | f + 1, p,x :: l,ts,hb,h=>by
   rw [lexF_cons] at h
   by_cases hx:x=32
   · rw [if_pos hx] at h
     exact lexF_good f (p+1) l ts (fun y hy=>hb y (by simp [hy])) h
   · rw [if_neg hx] at h
     cases hq:tokT (x :: l) with
     | none=>rw [hq] at h;cases h
     | some q =>
       obtain ⟨t0,n⟩:=q
       obtain ⟨g1,g2⟩:=tokT_good _ _ _ p hb hq
       rw [hq] at h
       simp only [Option.map_eq_some_iff] at h
       obtain ⟨us,h1,rfl⟩:=h
       obtain ⟨k1,body,e,k2,k3,k4⟩:=lexF_good f (p+n) ((x :: l).drop n) us (fun y hy=>hb y (List.mem_of_mem_drop hy)) h1
       refine ⟨?_,t0.goto p :: body,e,by rw [k2];rfl,k3, ?_⟩
       · intro t ht
         rcases List.mem_cons.1 ht with rfl | ht
         · exact g1
         · exact k1 t ht
       · intro t ht
         rcases List.mem_cons.1 ht with rfl | ht
         · exact g2
         · exact k4 t ht
theorem lexL_good (s:ByteArray) (ts:List Tk) (h:lexL (sb s)=some ts):Good ts∧Fit ts:=lexF_good _ _ _ _ (fun x hx=>sb_bd s x hx) h
def opS:List ByteArray:=[⟨#[61]⟩,⟨#[60,62]⟩,⟨#[60]⟩,⟨#[60,61]⟩,⟨#[62]⟩,⟨#[62,61]⟩,⟨#[38]⟩,⟨#[43]⟩,⟨#[45]⟩,⟨#[42]⟩,⟨#[47]⟩]
def rk (o:Nat):Nat:=if o<6 then 0 else if o<7 then 1 else if o<9 then 2 else 3
theorem rk_le (o:Nat):rk o≤3:=by
 unfold rk
 by_cases h1:o<6
 · rw [if_pos h1];omega
 · rw [if_neg h1]
   by_cases h2:o<7
   · rw [if_pos h2];omega
   · rw [if_neg h2]
     by_cases h3:o<9
     · rw [if_pos h3];omega
     · rw [if_neg h3];omega
theorem opK_sign (t:Tk) (ts:List Tk) (o:Nat) (ho:o<11) (hk:t.kind=5) (ht:t.text=opS.getD o ⟨#[]⟩) (n:Nat) (hn:n≤3):opK n (t :: ts)=if rk o=n then 9+(o:Int) else 0:=by
 have hs:∀ s:ByteArray,signIs s (t :: ts)=decide (opS.getD o ⟨#[]⟩=s):=by
  intro s;unfold signIs;simp only [hk,ht,decide_true,Bool.true_and]
 unfold opK
 simp only [hs]
 have key:∀ n:Nat,n<4→∀ o:Nat,o<11→(match (levelL n).find? (fun p=>decide (opS.getD o ⟨#[]⟩=p.1)) with | some p=>p.2 | none=>0)=if rk o=n then 9+(o:Int) else 0:=by decide +kernel
 exact key n (by omega) o ho
def Stop (n:Nat) (ts:List Tk):Prop:=∀ m,n≤m→m≤3→opK m ts=0
def lexG (p:Nat) (l:List Int):Option (List Tk):=lexF l.length p l
theorem lexG_nil (p:Nat):lexG p []=some [Tk.zero.goto p]:=by unfold lexG lexF;rfl
theorem lexG_tok (p:Nat) (x:Int) (l:List Int) (t:Tk) (n:Nat) (hx:x≠32) (h:tokT (x :: l)=some (t,n)):lexG p (x :: l)=(lexG (p+n) ((x :: l).drop n)).map (t.goto p :: ·):=by
 have hn:=tokT_le _ _ _ h
 unfold lexG
 rw [List.length_cons,lexF_cons,if_neg hx,h]
 simp only
 rw [lexF_more _ ((x :: l).drop n).length _ _ (by rw [List.length_drop];simp only [List.length_cons];omega) (Nat.le_refl _)]
theorem lexG_app (p:Nat) (a b:List Int) (t:Tk) (ha:∀ x,a.head? = some x→x≠32) (h:tokT (a++b)=some (t,a.length)):lexG p (a++b)=(lexG (p+a.length) b).map (t.goto p :: ·):=by
 cases a with
 | nil=>have:=(tokT_le _ _ _ h).1;simp at this
 | cons x a =>
   rw [List.cons_append] at h ⊢
   rw [lexG_tok p x (a++b) t _ (ha x rfl) h]
   congr 2
   rw [← List.cons_append,List.drop_left]
theorem tok_digits (v:Nat) (hv:v≤9223372036854775807) (b:List Int) (hb:∀ x,b.head? = some x→isNum x=false):tokT (digL v++b)=some ({ Tk.zero with kind:=1,num:=(v:Int) },(digL v).length):=by
 cases hd:digL v with
 | nil=>exact absurd hd (digL_ne v)
 | cons x l =>
   have hall:=isNum_digL v
   rw [hd] at hall
   have hx:=hall x (by simp)
   rw [List.cons_append,tokT_cons,if_pos hx, ← List.cons_append]
   unfold numT
   rw [take_part isNum (x :: l) b hall hb]
   have hval:valL (x :: l)=v:=by rw [← hd];exact valL_digL v
   rw [hval]
   have hno:¬ ((1<(x :: l).length∧(x :: l++b).head? = some 48)∨9223372036854775807<(v:Int)):=by
    rintro (⟨h1,h2⟩ | h)
    · by_cases h10:v<10
      · rw [digL_small v h10] at hd
        injection hd with _ hl;rw [← hl] at h1;simp at h1
      · have:=digL_head (v+1) v (by omega) (by omega)
        rw [hd] at this;exact this h2
    · omega
   rw [if_neg hno]
def opL (o:Nat):List Int:=[[61],[60,62],[60],[60,61],[62],[62,61],[38],[43],[45],[42],[47]].getD o []
def IsS (s:ByteArray) (t:Tk):Prop:=t.kind=5∧t.text=s
theorem IsS.sign {s:ByteArray} {t:Tk} (h:IsS s t) (u:ByteArray) (ts:List Tk):signIs u (t :: ts)=decide (s=u):=by
 unfold signIs;simp only [h.1,h.2,decide_true,Bool.true_and]
inductive LeafS:List Tk→Nd→Prop
 | num (t:Tk) (h:t.kind=1):LeafS [t] { Nd.zero with kind:=1,num:=t.num }
 | text (t:Tk) (h:t.kind=2):LeafS [t] { Nd.zero with kind:=2,text:=t.text }
 | yes (t:Tk) (h:t.kind=3) (g:t.text=⟨#[84,82,85,69]⟩):LeafS [t] { Nd.zero with kind:=3,num:=1 }
 | no (t:Tk) (h:t.kind=3) (g:t.text=⟨#[70,65,76,83,69]⟩):LeafS [t] { Nd.zero with kind:=3 }
 | dead (t:Tk) (h:t.kind=6):LeafS [t] { Nd.zero with kind:=4 }
 | ref (t:Tk) (h:t.kind=4):LeafS [t] { Nd.zero with kind:=5,ref:=t.rf }
 | range (t c u:Tk) (h:t.kind=4) (hc:IsS ⟨#[58]⟩ c) (g:u.kind=4) (hs:spanB t.rf u.rf=true):LeafS [t,c,u] { Nd.zero with kind:=6,ref:=t.rf,to:=u.rf }
def Wr (n rk d:Nat) (ts:List Tk) (d':Nat) (ts':List Tk):Prop :=
 (n≤rk∧ts'=ts∧d'=d)∨(rk<n∧d'=d+1∧∃ l r,IsS ⟨#[40]⟩ l∧IsS ⟨#[41]⟩ r∧ts'=l :: (ts++[r]))
inductive Sh:Bool→Nat→List Nd→List Int→List Tk→Nat→Nat→Prop
 | leaf (base:Nat) (ts:List Tk) (nd:Nd) (h:LeafS ts nd):Sh false base [nd] [(base:Int)] ts 5 0
 | neg (base:Nat) (ns:List Nd) (a:Int) (ts:List Tk) (rk d:Nat) (h:Sh false base ns [a] ts rk d) (m:Tk) (hm:IsS ⟨#[45]⟩ m) (d':Nat) (ts':List Tk) (hw:Wr 4 rk d ts d' ts') :
    Sh false base (ns++[{ Nd.zero with kind:=8,kids:=[a] }]) [((base+ns.length:Nat):Int)] (m :: ts') 4 (d'+1)
 | op (base o:Nat) (ho:o<11) (ns ms:List Nd) (a b:Int) (ts us:List Tk) (rk1 rk2 d1 d2:Nat) (h:Sh false base ns [a] ts rk1 d1) (g:Sh false (base+ns.length) ms [b] us rk2 d2)
    (s:Tk) (hs:IsS (opS.getD o ⟨#[]⟩) s) (e1 e2:Nat) (ts' us':List Tk) (hw:Wr (rk o) rk1 d1 ts e1 ts') (gw:Wr (rk o+1) rk2 d2 us e2 us') :
    Sh false base (ns++(ms++[{ Nd.zero with kind:=9+(o:Int),kids:=[a,b] }])) [((base+(ns.length+ms.length):Nat):Int)] (ts'++s :: us') (rk o) (max e1 e2)
 | call (base:Nat) (ns:List Nd) (ks:List Int) (ts:List Tk) (d:Nat) (h:Sh true base ns ks ts 0 d) (t l r:Tk) (ht:t.kind=3) (h1:t.text≠⟨#[84,82,85,69]⟩) (h2:t.text≠⟨#[70,65,76,83,69]⟩) (hl:IsS ⟨#[40]⟩ l) (hr:IsS ⟨#[41]⟩ r) :
    Sh false base (ns++[{ Nd.zero with kind:=7,text:=t.text,kids:=ks }]) [((base+ns.length:Nat):Int)] (t :: l :: (ts++[r])) 5 (d+1)
 | none (base:Nat):Sh true base [] [] [] 0 0
 | one (base:Nat) (ns:List Nd) (a:Int) (ts:List Tk) (rk d:Nat) (h:Sh false base ns [a] ts rk d):Sh true base ns [a] ts 0 d
 | and (base:Nat) (ns ms:List Nd) (ks:List Int) (b:Int) (ts us:List Tk) (rk d1 d2:Nat) (h:Sh true base ns ks ts 0 d1) (hk:ks≠[]) (c:Tk) (hc:IsS ⟨#[44]⟩ c) (g:Sh false (base+ns.length) ms [b] us rk d2) :
    Sh true base (ns++ms) (ks++[b]) (ts++c :: us) 0 (max d1 d2)
def At (n deep base:Nat) (ts:List Tk) (ns:List Nd) (a:Nat) (r:List Tk):Prop :=
 if n≤4 then ∃ f,exprP f n deep base ts=some (.ok (ns,a,r)) else ∃ f,primP f deep base ts=some (.ok (ns,a,r))
def Goes (n deep base:Nat) (ts:List Tk) (ns:List Nd) (a:Nat) (r:List Tk):Prop :=
 ∃ ns1 a1 r1,At (n+1) deep base ts ns1 a1 r1∧∀ f y,rowP f n deep base ns a r=some y→∃ g,rowP g n deep base ns1 a1 r1=some y
theorem row_stop {n deep base:Nat} {ns:List Nd} {a:Nat} {r:List Tk} (h:opK n r=0):rowP 1 n deep base ns a r=some (.ok (ns,a,r)):=by
 rw [rowP_succ,if_pos h]
theorem Goes.at {n deep base:Nat} {ts:List Tk} {ns:List Nd} {a:Nat} {r:List Tk} (hn:n≤3) (h:Goes n deep base ts ns a r) (hs:Stop n r):At n deep base ts ns a r:=by
 obtain ⟨ns1,a1,r1,h1,h2⟩:=h
 obtain ⟨g,hg⟩:=h2 1 _ (row_stop (hs n (Nat.le_refl _) hn))
 unfold At at h1 ⊢
 rw [if_pos (by omega)] at h1 ⊢
 obtain ⟨f,hf⟩:=h1
 refine ⟨max f g+1, ?_⟩
 rw [exprP_succ,if_pos hn,exprP_more (Nat.le_max_left f g) hf]
 exact rowP_more (Nat.le_max_right f g) hg
theorem At.goes {n deep base:Nat} {ts:List Tk} {ns:List Nd} {a:Nat} {r:List Tk} (h:At (n+1) deep base ts ns a r):Goes n deep base ts ns a r:=⟨ns,a,r,h,fun f _ hy=>⟨f,hy⟩⟩
theorem At.four {deep base:Nat} {ts:List Tk} {ns:List Nd} {a:Nat} {r:List Tk} (h:At 5 deep base ts ns a r) (hm:signIs ⟨#[45]⟩ ts=false):At 4 deep base ts ns a r:=by
 unfold At at h ⊢
 rw [if_neg (by omega)] at h
 rw [if_pos (by omega)]
 obtain ⟨f,hf⟩:=h
 refine ⟨f+1, ?_⟩
 rw [exprP_succ,if_neg (by omega),hm,if_neg (by simp)]
 exact hf
theorem At.down {deep base:Nat} {ts:List Tk} {ns:List Nd} {a:Nat} {r:List Tk} (n:Nat):∀ (k:Nat),n+k≤5→At (n+k) deep base ts ns a r→Stop n r→(n+k=5→signIs ⟨#[45]⟩ ts=false)→At n deep base ts ns a r
 | 0,_,h,_,_=>h
 | k + 1,hk,h,hs,hm=>by
   have h1:At (n+k) deep base ts ns a r:=by
    by_cases c:n+(k+1)=5
    · rw [c] at h
      have:=h.four (hm c)
      rwa [show n+k=4 by omega]
    · exact Goes.at (by omega) (At.goes h) (fun m h1 h2=>hs m (by omega) h2)
   exact At.down n k (by omega) h1 hs (fun h=>by omega)
structure Back (base:Nat) (ns:List Nd) (a:Nat) (ts:List Tk) (rk d:Nat):Prop where
 le:rk≤5
 close:∀ rest,signIs ⟨#[41]⟩ (ts++rest)=false
 minus:rk=5→∀ rest,signIs ⟨#[45]⟩ (ts++rest)=false
 high:∀ deep rest,deep+d≤12→signIs ⟨#[58]⟩ rest=false→4≤rk→At rk deep base (ts++rest) ns a rest
 low:∀ deep rest,deep+d≤12→signIs ⟨#[58]⟩ rest=false→rk≤3→Stop (rk+1) rest→Goes rk deep base (ts++rest) ns a rest
theorem Stop.more {n m:Nat} {r:List Tk} (h:Stop n r) (hm:n≤m):Stop m r:=fun k h1 h2=>h k (by omega) h2
theorem Back.at {base:Nat} {ns:List Nd} {a:Nat} {ts:List Tk} {rk d:Nat} (h:Back base ns a ts rk d) (n deep:Nat) (rest:List Tk) (hn:n≤rk) (hd:deep+d≤12) (hc:signIs ⟨#[58]⟩ rest=false) (hs:Stop n rest) :
 At n deep base (ts++rest) ns a rest:=by
 have hle:=h.le
 have h1:At rk deep base (ts++rest) ns a rest:=by
  by_cases c:4≤rk
  · exact h.high deep rest hd hc c
  · exact Goes.at (by omega) (h.low deep rest hd hc (by omega) (hs.more (by omega))) (hs.more hn)
 refine At.down n (rk - n) (by omega) ?_ hs (fun e=>h.minus (by omega) rest)
 rwa [show n+(rk - n)=rk by omega]
theorem stop_sign {s:ByteArray} {t:Tk} (h:IsS s t) (ts:List Tk) (hs:(List.range 4).all (fun n=>(levelL n).all fun p=>decide (s≠p.1))=true) (n:Nat):Stop n (t :: ts):=by
 intro m _ hm
 unfold opK
 have hf:(levelL m).find? (fun p=>signIs p.1 (t :: ts))=none:=by
  rw [List.find?_eq_none]
  intro p hp
  rw [h.sign p.1 ts]
  have:=List.all_eq_true.1 hs m (by simp;omega)
  have:=List.all_eq_true.1 this p hp
  simpa using this
 rw [hf]
theorem Back.brk {base:Nat} {ns:List Nd} {a:Nat} {ts:List Tk} {rk d:Nat} (h:Back base ns a ts rk d) {l r:Tk} (hl:IsS ⟨#[40]⟩ l) (hr:IsS ⟨#[41]⟩ r):Back base ns a (l :: (ts++[r])) 5 (d+1):=by
 refine ⟨Nat.le_refl _,fun rest => ?_,fun _ rest => ?_,fun deep rest hd hc _ => ?_,fun deep rest _ _ h=>by omega⟩
 · rw [List.cons_append,hl.sign];decide
 · rw [List.cons_append,hl.sign];decide
 · have h1:=h.at 0 (deep+1) (r :: rest) (by omega) (by omega) (by rw [hr.sign];decide) (stop_sign hr rest (by decide) 0)
   unfold At at h1 ⊢
   rw [if_pos (by omega)] at h1
   rw [if_neg (by omega)]
   obtain ⟨f,hf⟩:=h1
   refine ⟨f+1, ?_⟩
   rw [List.cons_append,primP_cons,hl.sign,if_pos (by decide),if_neg (by omega),List.append_assoc,List.singleton_append,hf]
   show (if signIs ⟨#[41]⟩ (r :: rest)=true then _ else _)=_
   rw [hr.sign,if_pos (by decide)];rfl
theorem Back.wr {base:Nat} {ns:List Nd} {a:Nat} {ts:List Tk} {rk d n d':Nat} {ts':List Tk} (h:Back base ns a ts rk d) (hw:Wr n rk d ts d' ts') (hn:n≤5):∃ rk',n≤rk'∧Back base ns a ts' rk' d':=by
 rcases hw with ⟨h1,rfl,rfl⟩ | ⟨h1,rfl,l,r,hl,hr,rfl⟩
 · exact ⟨rk,h1,h⟩
 · exact ⟨5,hn,h.brk hl hr⟩
theorem Back.goes {base:Nat} {ns:List Nd} {a:Nat} {ts:List Tk} {rk d:Nat} (h:Back base ns a ts rk d) (n deep:Nat) (rest:List Tk) (hn:n≤rk) (hn3:n≤3) (hd:deep+d≤12) (hc:signIs ⟨#[58]⟩ rest=false) (hs:Stop (n+1) rest) :
 Goes n deep base (ts++rest) ns a rest:=by
 by_cases c:n=rk
 · subst c;exact h.low deep rest hd hc hn3 hs
 · exact (h.at (n+1) deep rest (by omega) hd hc hs).goes
theorem back_leaf {base:Nat} {ts:List Tk} {nd:Nd} (h:LeafS ts nd):Back base [nd] base ts 5 0:=by
 have key:(∀ rest,signIs ⟨#[41]⟩ (ts++rest)=false)∧(∀ rest,signIs ⟨#[45]⟩ (ts++rest)=false)∧∀ deep rest,signIs ⟨#[58]⟩ rest=false→primP 1 deep base (ts++rest)=some (.ok ([nd],base,rest)):=by
  have hs:∀ (t:Tk) (s:ByteArray) (us:List Tk),t.kind≠5→signIs s (t :: us)=false:=by
   intro t s us ht;unfold signIs;simp only [decide_eq_false ht,Bool.false_and]
  cases h with
  | num t h =>
    refine ⟨fun rest=>hs _ _ _ (by omega),fun rest=>hs _ _ _ (by omega),fun deep rest hc => ?_⟩
    rw [List.singleton_append,primP_cons,hs _ _ _ (by omega),if_neg (by simp),if_pos h]
  | text t h =>
    refine ⟨fun rest=>hs _ _ _ (by omega),fun rest=>hs _ _ _ (by omega),fun deep rest hc => ?_⟩
    rw [List.singleton_append,primP_cons,hs _ _ _ (by omega),if_neg (by simp),if_neg (by omega),if_pos h]
  | yes t h g =>
    refine ⟨fun rest=>hs _ _ _ (by omega),fun rest=>hs _ _ _ (by omega),fun deep rest hc => ?_⟩
    rw [List.singleton_append,primP_cons,hs _ _ _ (by omega),if_neg (by simp),if_neg (by omega),if_neg (by omega),if_neg (by omega),if_neg (by omega),if_pos h,if_pos g]
  | no t h g =>
    refine ⟨fun rest=>hs _ _ _ (by omega),fun rest=>hs _ _ _ (by omega),fun deep rest hc => ?_⟩
    rw [List.singleton_append,primP_cons,hs _ _ _ (by omega),if_neg (by simp),if_neg (by omega),if_neg (by omega),if_neg (by omega),if_neg (by omega),if_pos h,if_neg (by rw [g];decide),if_pos g]
  | dead t h =>
    refine ⟨fun rest=>hs _ _ _ (by omega),fun rest=>hs _ _ _ (by omega),fun deep rest hc => ?_⟩
    rw [List.singleton_append,primP_cons,hs _ _ _ (by omega),if_neg (by simp),if_neg (by omega),if_neg (by omega),if_pos h]
  | ref t h =>
    refine ⟨fun rest=>hs _ _ _ (by omega),fun rest=>hs _ _ _ (by omega),fun deep rest hc => ?_⟩
    rw [List.singleton_append,primP_cons,hs _ _ _ (by omega),if_neg (by simp),if_neg (by omega),if_neg (by omega),if_neg (by omega),if_pos h]
    unfold refP
    rw [hc,if_neg (by simp)]
  | range t c u h hc g hsp =>
    refine ⟨fun rest=>hs _ _ _ (by omega),fun rest=>hs _ _ _ (by omega),fun deep rest _ => ?_⟩
    show primP 1 deep base (t :: c :: u :: rest)=_
    rw [primP_cons,hs _ _ _ (by omega),if_neg (by simp),if_neg (by omega),if_neg (by omega),if_neg (by omega),if_pos h]
    unfold refP
    rw [hc.sign,if_pos (by decide)]
    show some (if u.kind=4∧spanB t.rf u.rf=true then _ else _)=_
    rw [if_pos ⟨g,hsp⟩]
 refine ⟨Nat.le_refl _,key.1,fun _=>key.2.1,fun deep rest _ hc _ => ?_,fun deep rest _ _ h=>by omega⟩
 unfold At;rw [if_neg (by omega)]
 exact ⟨1,key.2.2 deep rest hc⟩
theorem stop_four (r:List Tk):Stop 4 r:=fun m h1 h2=>by omega
theorem back_neg {base:Nat} {ns:List Nd} {a:Nat} {ts:List Tk} {rk d:Nat} (h:Back base ns a ts rk d) {m:Tk} (hm:IsS ⟨#[45]⟩ m) (h4:4≤rk) :
 Back base (ns++[{ Nd.zero with kind:=8,kids:=[(a:Int)] }]) (base+ns.length) (m :: ts) 4 (d+1):=by
 refine ⟨by omega,fun rest=>by rw [List.cons_append,hm.sign];decide,fun h=>by omega,fun deep rest hd hc _ => ?_,fun deep rest _ _ h=>by omega⟩
 have h1:=h.at 4 (deep+1) rest h4 (by omega) hc (stop_four _)
 unfold At at h1 ⊢
 rw [if_pos (by omega)] at h1 ⊢
 obtain ⟨f,hf⟩:=h1
 refine ⟨f+1, ?_⟩
 rw [List.cons_append,exprP_succ,if_neg (by omega),hm.sign,if_pos (by decide),if_neg (by omega),List.tail_cons,hf]
 rfl
theorem op_colon:∀ o:Nat,o<11→opS.getD o ⟨#[]⟩≠⟨#[58]⟩:=by decide +kernel
theorem stop_op {o:Nat} (ho:o<11) {s:Tk} (hs:IsS (opS.getD o ⟨#[]⟩) s) (ts:List Tk):Stop (rk o+1) (s :: ts):=by
 intro m h1 h2
 rw [opK_sign s ts o ho hs.1 hs.2 m h2,if_neg (by omega)]
theorem back_op {base o:Nat} (ho:o<11) {ns ms:List Nd} {a b:Nat} {ts us:List Tk} {rk1 rk2 d1 d2:Nat} (h:Back base ns a ts rk1 d1) (g:Back (base+ns.length) ms b us rk2 d2) {s:Tk} (hs:IsS (opS.getD o ⟨#[]⟩) s)
 (h1:rk o≤rk1) (h2:rk o+1≤rk2) :
 Back base (ns++(ms++[{ Nd.zero with kind:=9+(o:Int),kids:=[(a:Int),(b:Int)] }])) (base+(ns.length+ms.length)) (ts++s :: us) (rk o) (max d1 d2):=by
 have hr:=rk_le o
 refine ⟨by omega,fun rest=>by rw [List.append_assoc];exact h.close _,fun e=>by omega,fun deep rest _ _ e=>by omega,fun deep rest hd hc _ hst => ?_⟩
 obtain ⟨ns1,a1,r1,k1,k2⟩:=h.goes (rk o) deep (s :: (us++rest)) h1 hr (by omega) (by rw [hs.sign];exact decide_eq_false (op_colon o ho)) (stop_op ho hs _)
 have k3:=g.at (rk o+1) deep rest h2 (by omega) hc hst
 unfold At at k3
 rw [if_pos (by omega)] at k3
 obtain ⟨f,hf⟩:=k3
 refine ⟨ns1,a1,r1,by rw [List.append_assoc];exact k1,fun f' y hy => ?_⟩
 refine k2 (max f f'+1) y ?_
 rw [rowP_succ,opK_sign s _ o ho hs.1 hs.2 _ hr,if_pos rfl,if_neg (by omega),List.tail_cons,exprP_more (Nat.le_max_left f f') hf]
 exact rowP_more (Nat.le_max_right f f') hy
def BackA (base:Nat) (ns:List Nd) (ks:List Int) (ts:List Tk) (d:Nat):Prop :=
 (ks=[]∧ns=[]∧ts=[]∧d=0)∨(ks≠[]∧(∀ rest,signIs ⟨#[41]⟩ (ts++rest)=false)∧∀ deep rest,deep+d≤12→signIs ⟨#[58]⟩ rest=false→Stop 0 rest →
   ∀ f y,(if signIs ⟨#[44]⟩ rest=true then argsP f deep base ns ks rest.tail else some (.ok (ns,ks,rest)))=some y→∃ g,argsP g deep base [] [] (ts++rest)=some y)
theorem back_one {base:Nat} {ns:List Nd} {a:Nat} {ts:List Tk} {rk d:Nat} (h:Back base ns a ts rk d):BackA base ns [(a:Int)] ts d:=by
 refine .inr ⟨by simp,h.close,fun deep rest hd hc hs f y hy => ?_⟩
 have h1:=h.at 0 deep rest (by omega) hd hc hs
 unfold At at h1
 rw [if_pos (by omega)] at h1
 obtain ⟨g,hg⟩:=h1
 refine ⟨max f g+1, ?_⟩
 rw [argsP_succ,List.length_nil,Nat.add_zero,exprP_more (Nat.le_max_right f g) hg]
 show (if signIs ⟨#[44]⟩ rest=true then argsP (max f g) deep base ns [(a:Int)] rest.tail else some (.ok (ns,[(a:Int)],rest)))=some y
 by_cases c:signIs ⟨#[44]⟩ rest=true
 · rw [if_pos c] at hy ⊢;exact argsP_more (Nat.le_max_left f g) hy
 · rw [if_neg c] at hy ⊢;exact hy
theorem back_and {base:Nat} {ns ms:List Nd} {ks:List Int} {b:Nat} {ts us:List Tk} {rk d1 d2:Nat} (h:BackA base ns ks ts d1) (hk:ks≠[]) {c:Tk} (hc:IsS ⟨#[44]⟩ c) (g:Back (base+ns.length) ms b us rk d2) :
 BackA base (ns++ms) (ks++[(b:Int)]) (ts++c :: us) (max d1 d2):=by
 rcases h with ⟨h,_⟩ | ⟨_,h1,h2⟩
 · exact absurd h hk
 · refine .inr ⟨by simp,fun rest=>by rw [List.append_assoc];exact h1 _,fun deep rest hd hcol hs f y hy => ?_⟩
   have k1:=g.at 0 deep rest (by omega) (by omega) hcol hs
   unfold At at k1
   rw [if_pos (by omega)] at k1
   obtain ⟨g',hg⟩:=k1
   obtain ⟨q,hq⟩:=h2 deep (c :: (us++rest)) (by omega) (by rw [hc.sign];decide) (stop_sign hc _ (by decide) 0) (max f g'+1) y (by
    rw [hc.sign,if_pos (by decide),List.tail_cons,argsP_succ,exprP_more (Nat.le_max_right f g') hg]
    show (if signIs ⟨#[44]⟩ rest=true then argsP (max f g') deep base (ns++ms) (ks++[(b:Int)]) rest.tail else some (.ok (ns++ms,ks++[(b:Int)],rest)))=some y
    by_cases e:signIs ⟨#[44]⟩ rest=true
    · rw [if_pos e] at hy ⊢;exact argsP_more (Nat.le_max_left f g') hy
    · rw [if_neg e] at hy ⊢;exact hy)
   exact ⟨q,by rw [List.append_assoc];exact hq⟩
theorem back_call {base:Nat} {ns:List Nd} {ks:List Int} {ts:List Tk} {d:Nat} (h:BackA base ns ks ts d) {t l r:Tk} (ht:t.kind=3) (h1:t.text≠⟨#[84,82,85,69]⟩) (h2:t.text≠⟨#[70,65,76,83,69]⟩) (hl:IsS ⟨#[40]⟩ l) (hr:IsS ⟨#[41]⟩ r) :
 Back base (ns++[{ Nd.zero with kind:=7,text:=t.text,kids:=ks }]) (base+ns.length) (t :: l :: (ts++[r])) 5 (d+1):=by
 have hs:∀ (s:ByteArray) (us:List Tk),signIs s (t :: us)=false:=by
  intro s us;unfold signIs;simp only [ht];rfl
 refine ⟨Nat.le_refl _,fun rest=>hs _ _,fun _ rest=>hs _ _,fun deep rest hd hc _ => ?_,fun deep rest _ _ h=>by omega⟩
 have key:∃ f,(if signIs ⟨#[41]⟩ (ts++r :: rest)=true then some (.ok ([],[],ts++r :: rest)) else argsP f (deep+1) base [] [] (ts++r :: rest))=some (.ok (ns,ks,r :: rest)):=by
  rcases h with ⟨rfl,rfl,rfl,_⟩ | ⟨_,g1,g2⟩
  · refine ⟨0, ?_⟩
    rw [List.nil_append,hr.sign,if_pos (by decide)]
  · obtain ⟨f,hf⟩:=g2 (deep+1) (r :: rest) (by omega) (by rw [hr.sign];decide) (stop_sign hr rest (by decide) 0) 0 (.ok (ns,ks,r :: rest)) (by rw [hr.sign,if_neg (by decide)])
    refine ⟨f, ?_⟩
    rw [g1,if_neg (by simp)];exact hf
 obtain ⟨f,hf⟩:=key
 unfold At;rw [if_neg (by omega)]
 refine ⟨f+1, ?_⟩
 rw [List.cons_append,List.cons_append,List.append_assoc,List.singleton_append,primP_cons,hs,if_neg (by simp),if_neg (by omega),if_neg (by omega),if_neg (by omega),if_neg (by omega),if_pos ht,if_neg h1,if_neg h2,hl.sign,if_pos (by decide),if_neg (by omega),List.tail_cons,hf]
 show (if signIs ⟨#[41]⟩ (r :: rest)=true then _ else _)=_
 rw [hr.sign,if_pos (by decide)];rfl
theorem sh_back {b:Bool} {base:Nat} {ns:List Nd} {ks:List Int} {ts:List Tk} {rk d:Nat} (h:Sh b base ns ks ts rk d) :
 (b=false→∃ a:Nat,ks=[(a:Int)]∧Back base ns a ts rk d)∧(b=true→BackA base ns ks ts d):=by
 induction h with
 | leaf base ts nd h=>exact ⟨fun _=>⟨base,rfl,back_leaf h⟩,fun h=>by cases h⟩
 | neg base ns a ts rk d h m hm d' ts' hw ih =>
   refine ⟨fun _ => ?_,fun h=>by cases h⟩
   obtain ⟨a',e,hb⟩:=ih.1 rfl
   obtain rfl:a=(a':Int):=by simpa using e
   obtain ⟨rk',h1,hb'⟩:=hb.wr hw (by omega)
   exact ⟨_,rfl,back_neg hb' hm h1⟩
 | op base o ho ns ms a b ts us rk1 rk2 d1 d2 h g s hs e1 e2 ts' us' hw gw ih ig =>
   refine ⟨fun _ => ?_,fun h=>by cases h⟩
   have hr:=rk_le o
   obtain ⟨a',e,hb⟩:=ih.1 rfl
   obtain rfl:a=(a':Int):=by simpa using e
   obtain ⟨b',e',gb⟩:=ig.1 rfl
   obtain rfl:b=(b':Int):=by simpa using e'
   obtain ⟨r1,h1,hb'⟩:=hb.wr hw (by omega)
   obtain ⟨r2,h2,gb'⟩:=gb.wr gw (by omega)
   exact ⟨_,rfl,back_op ho hb' gb' hs h1 h2⟩
 | call base ns ks ts d h t l r ht h1 h2 hl hr ih=>exact ⟨fun _=>⟨_,rfl,back_call (ih.2 rfl) ht h1 h2 hl hr⟩,fun h=>by cases h⟩
 | none base=>exact ⟨fun h=>(by cases h),fun _ => .inl ⟨rfl,rfl,rfl,rfl⟩⟩
 | one base ns a ts rk d h ih =>
   refine ⟨fun h=>(by cases h),fun _ => ?_⟩
   obtain ⟨a',e,hb⟩:=ih.1 rfl
   obtain rfl:a=(a':Int):=by simpa using e
   exact back_one hb
 | and base ns ms ks b ts us rk d1 d2 h hk c hc g ih ig =>
   refine ⟨fun h=>(by cases h),fun _ => ?_⟩
   obtain ⟨b',e,gb⟩:=ig.1 rfl
   obtain rfl:b=(b':Int):=by simpa using e
   exact back_and (ih.2 rfl) hk hc gb
theorem sh_parse {ns:List Nd} {a:Int} {ts:List Tk} {rk d:Nat} (h:Sh false 0 ns [a] ts rk d) (hd:d≤12) (e:Tk) (he:e.kind=0):∃ f,parseP f (ts++[e])=some (.ok ns):=by
 obtain ⟨a',_,hb⟩:=(sh_back h).1 rfl
 have hsg:∀ s:ByteArray,signIs s [e]=false:=by intro s;unfold signIs;simp only [he];rfl
 have h1:=hb.at 0 0 [e] (by omega) (by omega) (hsg _) (by
  intro m _ _
  unfold opK
  have hf:(levelL m).find? (fun p=>signIs p.1 [e])=none:=by
   rw [List.find?_eq_none];intro p _;rw [hsg];simp
  rw [hf])
 unfold At at h1
 rw [if_pos (by omega)] at h1
 obtain ⟨f,hf⟩:=h1
 refine ⟨f, ?_⟩
 unfold parseP
 rw [hf]
 show (if kindAt [e]=0 then _ else _)=_
 rw [if_pos (show kindAt [e]=0 from he)]
theorem signIs_of {s:ByteArray} {ts:List Tk} (h:signIs s ts=true):∃ t,ts=t :: ts.tail∧IsS s t:=by
 cases ts with
 | nil=>simp [signIs] at h
 | cons t ts =>
   unfold signIs at h
   rw [Bool.and_eq_true,decide_eq_true_iff,decide_eq_true_iff] at h
   exact ⟨t,rfl,h⟩
theorem opK_of {n:Nat} {ts:List Tk} (hn:n≤3) (h:opK n ts≠0):∃ o t,o<11∧rk o=n∧ts=t :: ts.tail∧IsS (opS.getD o ⟨#[]⟩) t∧opK n ts=9+(o:Int):=by
 obtain ⟨p,h1,h2,h3⟩:=opK_pos h
 obtain ⟨t,e,ht⟩:=signIs_of h2
 have key:∀ n:Nat,n<4→(levelL n).all (fun p=>(List.range 11).any fun o=>decide (rk o=n)&&(decide (p.1=opS.getD o ⟨#[]⟩)&&decide (p.2=9+(o:Int))))=true:=by decide +kernel
 have:=List.all_eq_true.1 (key n (by omega)) p h1
 rw [List.any_eq_true] at this
 obtain ⟨o,ho,hq⟩:=this
 rw [Bool.and_eq_true,Bool.and_eq_true,decide_eq_true_iff,decide_eq_true_iff,decide_eq_true_iff] at hq
 refine ⟨o,t,by simpa using ho,hq.1,e, ?_,by rw [h3,hq.2.2]⟩
 rw [← hq.2.1];exact ht
def Has (n deep base:Nat) (ns:List Nd) (a:Nat) (pre:List Tk):Prop :=
 ∃ ts rk d ts' d',Sh false base ns [(a:Int)] ts rk d∧Wr n rk d ts d' ts'∧ts'.Sublist pre∧deep+d'≤12
theorem Has.less {n deep base:Nat} {ns:List Nd} {a:Nat} {pre:List Tk} (h:Has (n+1) deep base ns a pre):Has n deep base ns a pre:=by
 obtain ⟨ts,rk,d,ts',d',h1,h2,h3,h4⟩:=h
 rcases h2 with ⟨g1,rfl,rfl⟩ | ⟨g1,rfl,l,r,hl,hr,rfl⟩
 · exact ⟨_,_,_,_,_,h1,.inl ⟨by omega,rfl,rfl⟩,h3,h4⟩
 · by_cases c:n≤rk
   · refine ⟨_,_,_,_,_,h1,.inl ⟨c,rfl,rfl⟩, ?_,by omega⟩
     exact ((List.sublist_append_left ts [r]).trans (List.sublist_cons_self l _)).trans h3
   · exact ⟨_,_,_,_,_,h1,.inr ⟨by omega,rfl,l,r,hl,hr,rfl⟩,h3,h4⟩
def HasA (deep base:Nat) (ns:List Nd) (ks:List Int) (pre:List Tk):Prop :=
 (ks=[]∧ns=[])∨(ks≠[]∧∃ ts d c,Sh true base ns ks ts 0 d∧IsS ⟨#[44]⟩ c∧(ts++[c]).Sublist pre∧deep+d≤12)
theorem has_leaf {deep base:Nat} {ts pre:List Tk} {nd:Nd} (h:LeafS ts nd) (hp:ts.Sublist pre) (hd:deep≤12):Has 5 deep base [nd] base pre :=
 ⟨_,_,_,_,_,.leaf base ts nd h,.inl ⟨Nat.le_refl _,rfl,rfl⟩,hp,by omega⟩
theorem has_all : ∀ f : Nat, (∀ n deep base ts ns a r, exprP f n deep base ts=some (.ok (ns,a,r))→n≤4→deep≤12→∃ pre,ts=pre++r∧Has n deep base ns a pre) ∧
 (∀ n deep base ns a ts ns' a' r pre0,rowP f n deep base ns a ts=some (.ok (ns',a',r))→n≤3→deep≤12→Has n deep base ns a pre0→∃ pre,ts=pre++r∧Has n deep base ns' a' (pre0++pre)) ∧
 (∀ deep base ts ns a r,primP f deep base ts=some (.ok (ns,a,r))→deep≤12→∃ pre,ts=pre++r∧Has 5 deep base ns a pre) ∧
 (∀ deep base ns ks ts ns' ks' r pre0,argsP f deep base ns ks ts=some (.ok (ns',ks',r))→deep≤12→HasA deep base ns ks pre0 →
   ∃ pre us d,ts=pre++r∧Sh true base ns' ks' us 0 d∧us.Sublist (pre0++pre)∧deep+d≤12)
 | 0=>by
   refine ⟨?_, ?_, ?_, ?_⟩
   · intro n deep base ts ns a r h;unfold exprP at h;cases h
   · intro n deep base ns a ts ns' a' r pre0 h;unfold rowP at h;cases h
   · intro deep base ts ns a r h;unfold primP at h;cases h
   · intro deep base ns ks ts ns' ks' r pre0 h;unfold argsP at h;cases h
 | f + 1 => by
   obtain ⟨i1,i2,i3,i4⟩:=has_all f
   refine ⟨?_, ?_, ?_, ?_⟩
   · intro n deep base ts ns a r h hn hd
     rw [exprP_succ] at h
     by_cases c:n≤3
     · rw [if_pos c] at h
       rcases bindR_some h with ⟨e,_,h2⟩ | ⟨ms,b,s,h1,h2⟩
       · cases h2
       · obtain ⟨p1,e1,k1⟩:=i1 _ _ _ _ _ _ _ h1 (by omega) hd
         obtain ⟨p2,e2,k2⟩:=i2 _ _ _ _ _ _ _ _ _ p1 h2 c hd k1.less
         exact ⟨p1++p2,by rw [e1,e2,List.append_assoc],k2⟩
     · rw [if_neg c] at h
       have hn4:n=4:=by omega
       subst hn4
       by_cases d:signIs ⟨#[45]⟩ ts=true
       · rw [if_pos d] at h
         by_cases d2:12≤deep
         · rw [if_pos d2] at h;cases h
         · rw [if_neg d2] at h
           obtain ⟨t,et,ht⟩:=signIs_of d
           rcases bindR_some h with ⟨e,_,h2⟩ | ⟨ms,b,s,h1,h2⟩
           · cases h2
           · obtain ⟨p1,e1,us,rk',d',us',e',g1,g2,g3,g4⟩:=i1 _ _ _ _ _ _ _ h1 (by omega) (by omega)
             injection h2 with h2;injection h2 with h2;injection h2 with h3 h4;injection h4 with h4 h5
             subst h3;subst h4;subst h5
             refine ⟨t :: p1,by rw [et,e1];rfl,_,_,_,_,_,.neg base ms _ us rk' d' g1 t ht e' us' g2,.inl ⟨Nat.le_refl _,rfl,rfl⟩,g3.cons_cons t,by omega⟩
       · rw [if_neg d] at h
         obtain ⟨p,e,k⟩:=i3 _ _ _ _ _ _ h hd
         exact ⟨p,e,Has.less (n:=4) k⟩
   · intro n deep base ns a ts ns' a' r pre0 h hn hd hh
     rw [rowP_succ] at h
     by_cases c:opK n ts=0
     · rw [if_pos c] at h
       injection h with h;injection h with h;injection h with h1 h2;injection h2 with h2 h3
       subst h1;subst h2;subst h3
       exact ⟨[],rfl,by rw [List.append_nil];exact hh⟩
     · rw [if_neg c] at h
       obtain ⟨o,t,ho,hrk,et,ht,ek⟩:=opK_of hn c
       rcases bindR_some h with ⟨e,_,h2⟩ | ⟨ms,b,s,h1,h2⟩
       · cases h2
       · obtain ⟨p1,e1,us,rk2,d2,us',e2,g1,g2,g3,g4⟩:=i1 _ _ _ _ _ _ _ h1 (by omega) hd
         obtain ⟨ls,rk1,d1,ls',l2,k1,k2,k3,k4⟩:=hh
         subst hrk
         have hnew:Has (rk o) deep base (ns++(ms++[{ Nd.zero with kind:=9+(o:Int),kids:=[(a:Int),(b:Int)] }])) (base+(ns.length+ms.length)) (pre0++t :: p1) :=
          ⟨_,_,_,_,_,.op base o ho ns ms _ _ ls us rk1 rk2 d1 d2 k1 g1 t ht l2 e2 ls' us' k2 g2,.inl ⟨Nat.le_refl _,rfl,rfl⟩,k3.append (g3.cons_cons t),by omega⟩
         rw [ek] at h2
         obtain ⟨p2,e3,k5⟩:=i2 _ _ _ _ _ _ _ _ _ _ h2 hn hd hnew
         refine ⟨t :: (p1++p2),by rw [et,e1,e3];simp, ?_⟩
         have:pre0++t :: (p1++p2)=pre0++t :: p1++p2:=by simp
         rw [this];exact k5
   · intro deep base ts ns a r h hd
     cases ts with
     | nil=>rw [primP_nil] at h;injection h with h;cases h
     | cons t ts =>
       rw [primP_cons] at h
       by_cases c1:signIs ⟨#[40]⟩ (t :: ts)=true
       · rw [if_pos c1] at h
         obtain ⟨t',et,ht⟩:=signIs_of c1
         injection et with et _
         subst et
         by_cases d:12≤deep
         · rw [if_pos d] at h;cases h
         · rw [if_neg d] at h
           rcases bindR_some h with ⟨e,_,h2⟩ | ⟨ms,b,s,h1,h2⟩
           · cases h2
           · by_cases c2 : signIs ⟨#[41]⟩ s = true
             · rw [if_pos c2] at h2
               injection h2 with h2;injection h2 with h2;injection h2 with h3 h4;injection h4 with h4 h5
               subst h3;subst h4;subst h5
               obtain ⟨u,eu,hu⟩:=signIs_of c2
               obtain ⟨p1,e1,us,rk',d',us',e',g1,g2,g3,g4⟩:=i1 _ _ _ _ _ _ _ h1 (by omega) (by omega)
               rcases g2 with ⟨_,rfl,rfl⟩ | ⟨g2,_⟩
               · refine ⟨t :: (p1 ++ [u]), by rw [e1];conv=>lhs;rw [eu]
                                              simp, ?_⟩
                 by_cases c3:5≤rk'
                 · refine ⟨_,_,_,_,_,g1,.inl ⟨c3,rfl,rfl⟩, ?_,by omega⟩
                   exact (g3.trans (List.sublist_append_left _ _)).trans (List.sublist_cons_self _ _)
                 · exact ⟨_,_,_,_,_,g1,.inr ⟨by omega,rfl,t,u,ht,hu,rfl⟩,(g3.append (List.Sublist.refl [u])).cons_cons t,by omega⟩
               · omega
             · rw [if_neg c2] at h2;injection h2 with h2;cases h2
       · rw [if_neg c1] at h
         by_cases c2:t.kind=1
         · rw [if_pos c2] at h
           injection h with h;injection h with h;injection h with h1 h2;injection h2 with h2 h3
           subst h1;subst h2;subst h3
           exact ⟨[t],rfl,has_leaf (.num t c2) (List.Sublist.refl _) hd⟩
         · rw [if_neg c2] at h
           by_cases c3:t.kind=2
           · rw [if_pos c3] at h
             injection h with h;injection h with h;injection h with h1 h2;injection h2 with h2 h3
             subst h1;subst h2;subst h3
             exact ⟨[t],rfl,has_leaf (.text t c3) (List.Sublist.refl _) hd⟩
           · rw [if_neg c3] at h
             by_cases c4:t.kind=6
             · rw [if_pos c4] at h
               injection h with h;injection h with h;injection h with h1 h2;injection h2 with h2 h3
               subst h1;subst h2;subst h3
               exact ⟨[t],rfl,has_leaf (.dead t c4) (List.Sublist.refl _) hd⟩
             · rw [if_neg c4] at h
               by_cases c5:t.kind=4
               · rw [if_pos c5] at h
                 injection h with h
                 unfold refP at h
                 by_cases c6:signIs ⟨#[58]⟩ ts=true
                 · rw [if_pos c6] at h
                   obtain ⟨q,eq,hq⟩:=signIs_of c6
                   cases hu:ts.tail with
                   | nil=>rw [hu] at h;cases h
                   | cons u us =>
                     rw [hu] at h
                     simp only at h
                     by_cases c7:u.kind=4∧spanB t.rf u.rf=true
                     · rw [if_pos c7] at h
                       injection h with h;injection h with h1 h2;injection h2 with h2 h3
                       subst h1;subst h2;subst h3
                       refine ⟨[t,q,u],by rw [eq,hu];rfl,has_leaf (.range t q u c5 hq c7.1 c7.2) (List.Sublist.refl _) hd⟩
                     · rw [if_neg c7] at h;cases h
                 · rw [if_neg c6] at h
                   injection h with h;injection h with h1 h2;injection h2 with h2 h3
                   subst h1;subst h2;subst h3
                   exact ⟨[t],rfl,has_leaf (.ref t c5) (List.Sublist.refl _) hd⟩
               · rw [if_neg c5] at h
                 by_cases c6:t.kind=3
                 · rw [if_pos c6] at h
                   by_cases c7:t.text=⟨#[84,82,85,69]⟩
                   · rw [if_pos c7] at h
                     injection h with h;injection h with h;injection h with h1 h2;injection h2 with h2 h3
                     subst h1;subst h2;subst h3
                     exact ⟨[t],rfl,has_leaf (.yes t c6 c7) (List.Sublist.refl _) hd⟩
                   · rw [if_neg c7] at h
                     by_cases c8:t.text=⟨#[70,65,76,83,69]⟩
                     · rw [if_pos c8] at h
                       injection h with h;injection h with h;injection h with h1 h2;injection h2 with h2 h3
                       subst h1;subst h2;subst h3
                       exact ⟨[t],rfl,has_leaf (.no t c6 c8) (List.Sublist.refl _) hd⟩
                     · rw [if_neg c8] at h
                       by_cases c9:signIs ⟨#[40]⟩ ts=true
                       · rw [if_pos c9] at h
                         obtain ⟨l,el,hl⟩:=signIs_of c9
                         by_cases d:12≤deep
                         · rw [if_pos d] at h;cases h
                         · rw [if_neg d] at h
                           rcases bindR_some h with ⟨e,_,h2⟩ | ⟨ms,ks,s,h1,h2⟩
                           · cases h2
                           · by_cases c10 : signIs ⟨#[41]⟩ s = true
                             · rw [if_pos c10] at h2
                               injection h2 with h2;injection h2 with h2;injection h2 with h3 h4;injection h4 with h4 h5
                               subst h3;subst h4;subst h5
                               obtain ⟨u,eu,hu⟩:=signIs_of c10
                               have key:∃ p us d,ts.tail=p++s∧Sh true base ms ks us 0 d∧us.Sublist p∧deep+1+d≤12:=by
                                by_cases c11:signIs ⟨#[41]⟩ ts.tail=true
                                · rw [if_pos c11] at h1
                                  injection h1 with h1;injection h1 with h1;injection h1 with h3 h4;injection h4 with h4 h5
                                  subst h3;subst h4;subst h5
                                  exact ⟨[],[],0,rfl,.none base,List.Sublist.refl _,by omega⟩
                                · rw [if_neg c11] at h1
                                  obtain ⟨p,us,d',g1,g2,g3,g4⟩:=i4 _ _ _ _ _ _ _ _ [] h1 (by omega) (.inl ⟨rfl,rfl⟩)
                                  exact ⟨p,us,d',g1,g2,by simpa using g3,g4⟩
                               obtain ⟨p,us,d',g1,g2,g3,g4⟩:=key
                               refine ⟨t :: l :: (p ++ [u]), by rw [el,g1];conv=>lhs;rw [eu]
                                                                simp, ?_⟩
                               exact ⟨_,_,_,_,_,.call base ms ks us d' g2 t l u c6 c7 c8 hl hu,.inl ⟨Nat.le_refl _,rfl,rfl⟩,((g3.append (List.Sublist.refl [u])).cons_cons l).cons_cons t,by omega⟩
                             · rw [if_neg c10] at h2;injection h2 with h2;cases h2
                       · rw [if_neg c9] at h;injection h with h;cases h
                 · rw [if_neg c6] at h;injection h with h;cases h
   · intro deep base ns ks ts ns' ks' r pre0 h hd hh
     rw [argsP_succ] at h
     rcases bindR_some h with ⟨e,_,h2⟩ | ⟨ms,b,s,h1,h2⟩
     · cases h2
     · obtain ⟨p1, e1, us, rk', d', us', e', g1,g2,g3,g4⟩:=i1 _ _ _ _ _ _ _ h1 (by omega) hd
       rcases g2 with ⟨_,rfl,rfl⟩ | ⟨g2,_⟩
       · have key : ∃ ts d, Sh true base (ns ++ ms) (ks++[(b:Int)]) ts 0 d∧ts.Sublist (pre0++p1)∧deep+d≤12:=by
          rcases hh with ⟨rfl,rfl⟩ | ⟨hk,us0,d0,q,k1,k2,k3,k4⟩
          · exact ⟨_,_,.one base ms _ _ _ _ (by simpa using g1),g3.trans (List.sublist_append_right _ _),g4⟩
          · refine ⟨_,_,.and base ns ms ks _ us0 _ _ d0 _ k1 hk q k2 g1, ?_,by omega⟩
            have:=k3.append g3
            simpa using this
         obtain ⟨ts1,d1,j1,j2,j3⟩:=key
         by_cases c:signIs ⟨#[44]⟩ s=true
         · rw [if_pos c] at h2
           obtain ⟨q,eq,hq⟩:=signIs_of c
           obtain ⟨p2,us2,d2,m1,m2,m3,m4⟩:=i4 _ _ _ _ _ _ _ _ (pre0++p1++[q]) h2 hd (.inr ⟨by simp,ts1,d1,q,j1,hq,j2.append (List.Sublist.refl _),j3⟩)
           refine ⟨p1 ++ q :: p2, us2, d2, by rw [e1];conv=>lhs;rw [eq,m1]
                                              simp,m2,by simpa using m3,m4⟩
         · rw [if_neg c] at h2
           injection h2 with h2;injection h2 with h2;injection h2 with h3 h4;injection h4 with h4 h5
           subst h3;subst h4;subst h5
           exact ⟨p1,ts1,d1,e1,j1,j2,j3⟩
       · omega
def txK (t:Tk):List Int :=
 if t.kind=1 then digL t.num.toNat
 else if t.kind=2 then 34 :: (dblL (sb t.text)++[34])
 else if t.kind=4 then textL (sb t.sh) t.c t.r t.ac t.ar
 else if t.kind=6 then [35,82,69,70,33]
 else sb t.text
theorem take_span (p:Int→Bool) (l:List Int):l.take (l.takeWhile p).length=l.takeWhile p:=(List.prefix_iff_eq_take.1 (List.takeWhile_prefix p)).symm
theorem quoF_text:∀ (n:Nat) (l t:List Int) (k:Nat),l.length≤n→quoF l=some (t,k)→l.take k=dblL t++[34]
 | _,[],_,_,_,h=>by simp [quoF] at h
 | 0,_ :: _,_,_,hn,_=>by simp at hn
 | n + 1, x :: l,t,k,hn,h=>by
   rw [quoF_cons] at h
   by_cases h1:x<32
   · rw [if_pos h1] at h;cases h
   · rw [if_neg h1] at h
     by_cases h2:x≠34
     · rw [if_pos h2] at h
       cases hq:quoF l with
       | none=>rw [hq] at h;cases h
       | some q =>
         rw [hq] at h
         simp only [Option.map_some,Option.some.injEq,Prod.mk.injEq] at h
         have g:=quoF_text n l q.1 q.2 (by simp at hn;omega) hq
         rw [← h.1, ← h.2,List.take_succ_cons,g]
         have e:dblL (x :: q.1)=x :: dblL q.1:=by unfold dblL;rw [if_neg h2];cases q.1 <;> rfl
         rw [e];rfl
     · rw [if_neg h2] at h
       have hx:x=34:=by omega
       cases l with
       | nil=>simp only [Option.some.injEq,Prod.mk.injEq] at h;rw [← h.1, ← h.2,hx];rfl
       | cons y m =>
         by_cases hy:y=34
         · simp only [hy,if_true] at h
           cases hq:quoF m with
           | none=>rw [hq] at h;cases h
           | some q =>
             rw [hq] at h
             simp only [Option.map_some,Option.some.injEq,Prod.mk.injEq] at h
             have g:=quoF_text n m q.1 q.2 (by simp at hn;omega) hq
             rw [← h.1, ← h.2,List.take_succ_cons,List.take_succ_cons,g,hx,hy]
             rfl
         · simp only [hy,if_false,Option.some.injEq,Prod.mk.injEq] at h
           rw [← h.1, ← h.2,hx];rfl
theorem tok_text (l:List Int) (t:Tk) (n:Nat) (hb:Bytes l) (h:tokT l=some (t,n)):l.take n=txK t∧t.goto 0=t:=by
 cases l with
 | nil=>simp [tokT] at h
 | cons x l =>
   rw [tokT_cons] at h
   by_cases h1:isNum x=true
   · rw [if_pos h1] at h
     unfold numT at h
     split at h
     · cases h
     · rename_i hn
       simp only [Option.some.injEq,Prod.mk.injEq] at h
       rw [← h.1, ← h.2,take_span]
       refine ⟨?_,rfl⟩
       have hall:=take_all isNum (x :: l)
       have hpos:=take_pos isNum x l h1
       have hcons:(x :: l).takeWhile isNum=x :: l.takeWhile isNum:=by rw [List.takeWhile_cons,if_pos h1]
       show (x :: l).takeWhile isNum=digL (valL ((x :: l).takeWhile isNum)).toNat
       by_cases c:x=48
       · subst c
         have hl:((48 :: l).takeWhile isNum).length=1:=by
          apply Decidable.byContradiction
          intro hc
          exact hn (.inl ⟨by omega,rfl⟩)
         have:l.takeWhile isNum=[]:=by
          rw [hcons,List.length_cons] at hl
          exact List.eq_nil_of_length_eq_zero (by omega)
         rw [hcons,this]
         show [48]=digL 0
         rw [digL_small 0 (by omega)];rfl
       · exact (digL_valL _ _ rfl (by rw [hcons];simp) hall (by rw [hcons];simpa using c)).2.symm
   · rw [if_neg h1] at h
     by_cases h2:x=34
     · rw [if_pos h2] at h
       unfold quoT at h
       cases hq:quoF l with
       | none=>rw [hq] at h;cases h
       | some q =>
         rw [hq] at h
         simp only [Option.map_some,Option.some.injEq,Prod.mk.injEq] at h
         obtain ⟨g1,g2⟩:=quoF_good _ l q.1 q.2 (Nat.le_refl _) (fun y hy=>hb y (by simp [hy])) hq
         rw [← h.1, ← h.2,List.take_succ_cons,quoF_text _ l q.1 q.2 (Nat.le_refl _) hq,h2]
         refine ⟨?_,rfl⟩
         show _=34 :: (dblL (sb (strOfNums q.1))++[34])
         rw [sb_str _ g1]
     · rw [if_neg h2] at h
       by_cases h3:x=35
       · rw [if_pos h3] at h
         unfold deadT at h
         split at h
         · rename_i h5
           simp only [Option.some.injEq,Prod.mk.injEq] at h
           rw [← h.1, ← h.2,h5]
           exact ⟨rfl,rfl⟩
         · cases h
       · rw [if_neg h3] at h
         by_cases h4:isLet x=true∨x=36
         · rw [if_pos h4] at h
           unfold wordT at h
           cases hq:readS (strOfNums ((x :: l).takeWhile isWord)) with
           | some d =>
             rw [hq] at h
             simp only [Option.some.injEq,Prod.mk.injEq] at h
             rw [← h.1, ← h.2,take_span]
             refine ⟨?_,rfl⟩
             have e:=(read_some _ d hq).2.2
             rw [sb_str _ (hb.span isWord)] at e
             exact e.symm
           | none =>
             rw [hq] at h
             simp only at h
             by_cases hc:calledL ((x :: l).takeWhile isWord)=true
             · rw [if_pos hc] at h
               simp only [Option.some.injEq,Prod.mk.injEq] at h
               rw [← h.1, ← h.2,take_span]
               exact ⟨(sb_str _ (hb.span isWord)).symm,rfl⟩
             · rw [if_neg hc] at h;cases h
         · rw [if_neg h4] at h
           unfold signT at h
           split at h
           · cases h
           · simp only [Option.some.injEq,Prod.mk.injEq] at h
             rw [← h.1, ← h.2]
             exact ⟨(sb_str _ (fun y hy=>hb y (List.mem_of_mem_take hy))).symm,rfl⟩
def Tok (t:Tk):Prop:=t.kind≠0∧tokT (txK t++[32])=some (t.goto 0,(txK t).length)∧Bytes (txK t)
theorem tok_tok (l:List Int) (t:Tk) (n p:Nat) (hb:Bytes l) (h:tokT l=some (t,n)):Tok (t.goto p)∧(txK (t.goto p)).length=n:=by
 obtain ⟨h1,h2⟩:=tok_text l t n hb h
 have hn:=(tokT_le _ _ _ h).2
 have e:txK (t.goto p)=txK t:=rfl
 have hl:(txK t).length=n:=by rw [← h1,List.length_take];omega
 refine ⟨⟨(tokT_good l t n p hb h).2, ?_,by rw [e, ← h1];exact fun y hy=>hb y (List.mem_of_mem_take hy)⟩,by rw [e];exact hl⟩
 have h3:tokT (txK t++l.drop n)=some (t,(txK t).length):=by rw [← h1,List.take_append_drop,h,h1,hl]
 have h4:=tokT_alike (b':=[32]) (.inr rfl) h3
 rw [e,h4]
 show some (t,_)=some (t.goto 0,_)
 rw [h2]
def lenK:List Tk→Nat
 | []=>0
 | t :: ts=>(txK t).length+lenK ts
theorem lenK_cons (t:Tk) (ts:List Tk):lenK (t :: ts)=(txK t).length+lenK ts:=rfl
theorem lenK_sub {a b:List Tk} (h:a.Sublist b):lenK a≤lenK b:=by
 induction h with
 | slnil=>exact Nat.le_refl _
 | cons t _ ih=>rw [lenK_cons];omega
 | cons_cons t _ ih=>rw [lenK_cons,lenK_cons];omega
theorem lexF_tok:∀ (f p:Nat) (l:List Int) (ts:List Tk),Bytes l→lexF f p l=some ts→∃ body e,ts=body++[e]∧e.kind=0∧(∀ t∈body,Tok t)∧lenK body≤l.length
 | f,p,[],ts,_,h=>by
   have h0:lexF f p []=some [Tk.zero.goto p]:=by unfold lexF;rfl
   rw [h0] at h;injection h with h;subst h
   exact ⟨[],_,rfl,rfl,by simp,Nat.le_refl _⟩
 | 0,_,_ :: _,_,_,h=>by unfold lexF at h;cases h
 | f + 1, p,x :: l,ts,hb,h=>by
   have hbl:Bytes l:=fun y hy=>hb y (by simp [hy])
   rw [lexF_cons] at h
   by_cases hx:x=32
   · rw [if_pos hx] at h
     obtain ⟨body,e,h1,h2,h3,h4⟩:=lexF_tok f (p+1) l ts hbl h
     exact ⟨body,e,h1,h2,h3,by simp only [List.length_cons];omega⟩
   · rw [if_neg hx] at h
     cases hq:tokT (x :: l) with
     | none=>rw [hq] at h;cases h
     | some q =>
       obtain ⟨t0,n⟩:=q
       have hn:=tokT_le _ _ _ hq
       rw [hq] at h
       simp only [Option.map_eq_some_iff] at h
       obtain ⟨us,h1,rfl⟩:=h
       obtain ⟨body,e,k1,k2,k3,k4⟩:=lexF_tok f (p+n) _ us (fun y hy=>hb y (List.mem_of_mem_drop hy)) h1
       obtain ⟨g1,g2⟩:=tok_tok (x :: l) t0 n p hb hq
       refine ⟨t0.goto p :: body,e,by rw [k1];rfl,k2, ?_, ?_⟩
       · intro t ht
         rcases List.mem_cons.1 ht with rfl | ht
         · exact g1
         · exact k3 t ht
       · rw [lenK_cons,g2];rw [List.length_drop] at k4;omega
theorem quoF_dblB:∀ (l b:List Int),(∀ x∈l,¬ x<32)→(∀ x,b.head? = some x→x≠34)→quoF (dblL l++34 :: b)=some (l,(dblL l).length+1)
 | [],b,_,hb=>by
   show quoF (34 :: b)=_
   rw [quoF_cons,if_neg (by omega),if_neg (by omega)]
   cases b with
   | nil=>rfl
   | cons y m =>
     have:=hb y rfl
     simp only [this,if_false]
     rfl
 | x :: l,b,h,hb=>by
   have ih:=quoF_dblB l b (fun y hy=>h y (by simp [hy])) hb
   have hx:=h x (by simp)
   by_cases h34:x=34
   · subst h34
     show quoF (34 :: 34 :: (dblL l++34 :: b))=_
     rw [quoF_cons,if_neg (by omega),if_neg (by omega)]
     simp only [if_true]
     rw [ih]
     rfl
   · have e:dblL (x :: l)=x :: dblL l:=by show (if x=34 then [34,34] else [x])++dblL l=_;rw [if_neg h34];rfl
     rw [e,List.cons_append,quoF_cons,if_neg hx,if_pos h34,ih]
     rfl
def Behind (t:Tk) (b:List Int):Prop :=
 (t.kind≠5→∀ x,b.head? = some x→isWord x=false∧x≠34)∧(t.kind=5→(t.text=⟨#[60]⟩∨t.text=⟨#[62]⟩)→∀ x,b.head? = some x→x≠61∧x≠62)
theorem word_no {x:Int} (h:isWord x=false):isNum x=false:=by
 cases c:isNum x with
 | false=>rfl
 | true=>rw [word_num c] at h;cases h
theorem tok_behind {a b:List Int} {t:Tk} (hba:Bytes a) (hq:tokT (a++[32])=some (t,a.length)) (hb:Behind t b):tokT (a++b)=some (t,a.length):=by
 cases a with
 | nil =>
   have:=(tokT_le _ _ _ hq).1
   simp at this
 | cons x a =>
   have hsp:∀ (p:Int→Bool),p 32=false→((x :: (a++[32])).takeWhile p).length=(x :: a).length→(∀ y,b.head? = some y→p y=false)→(x :: (a++[32])).takeWhile p=x :: a∧(x :: (a++b)).takeWhile p=x :: a:=by
    intro p hp hl hh
    obtain ⟨e1,_⟩:=span_alike (a:=x :: a) (b:=[32]) (b':=[32]) hp (.inr rfl) hl
    refine ⟨e1, ?_⟩
    have hall:∀ y∈x :: a,p y=true:=fun y hy=>take_all p (x :: (a++[32])) y (by rw [show (x :: (a++[32])).takeWhile p=x :: a from e1];exact hy)
    exact take_part p (x :: a) b hall hh
   rw [List.cons_append,tokT_cons] at hq ⊢
   by_cases h1:isNum x=true
   · rw [if_pos h1] at hq ⊢
     unfold numT at hq
     split at hq
     · cases hq
     · rename_i hn
       simp only [Option.some.injEq,Prod.mk.injEq] at hq
       have hk:t.kind≠5:=by rw [← hq.1];simp
       obtain ⟨e1,e2⟩:=hsp isNum (by decide) hq.2 (fun y hy=>word_no (hb.1 hk y hy).1)
       unfold numT
       rw [e2]
       rw [e1] at hn hq
       rw [if_neg (show ¬(1<(x :: a).length∧(x :: (a++b)).head? = some 48∨9223372036854775807<valL (x :: a)) from hn)]
       exact congrArg (fun u=>some (u,(x :: a).length)) hq.1
   · rw [if_neg h1] at hq ⊢
     by_cases h2:x=34
     · rw [if_pos h2] at hq ⊢
       unfold quoT at hq ⊢
       cases hr:quoF (a++[32]) with
       | none=>rw [hr] at hq;cases hq
       | some q =>
         rw [hr] at hq
         simp only [Option.map_some,Option.some.injEq,Prod.mk.injEq,List.length_cons] at hq
         have hk:t.kind≠5:=by rw [← hq.1];simp
         have hb2:Bytes (a++[32]):=by
          intro y hy
          rcases List.mem_append.1 hy with hy | hy
          · exact hba y (by simp [hy])
          · simp at hy;omega
         have g1:=(quoF_good _ _ q.1 q.2 (Nat.le_refl _) hb2 hr).2
         have g2:=quoF_text _ _ q.1 q.2 (Nat.le_refl _) hr
         have hl:q.2=a.length:=by omega
         rw [hl,List.take_left] at g2
         have e:a++b=dblL q.1++34 :: b:=by rw [g2];simp
         have e2:(dblL q.1).length+1=a.length:=by rw [g2];simp
         rw [e,quoF_dblB q.1 b g1 (fun y hy=>(hb.1 hk y hy).2)]
         simp only [Option.map_some,List.length_cons,Option.some.injEq,Prod.mk.injEq]
         exact ⟨hq.1,by omega⟩
     · rw [if_neg h2] at hq ⊢
       by_cases h3:x=35
       · rw [if_pos h3] at hq ⊢
         unfold deadT at hq ⊢
         by_cases h5:(x :: (a++[32])).take 5=[35,82,69,70,33]
         · rw [if_pos h5] at hq
           simp only [Option.some.injEq,Prod.mk.injEq] at hq
           have e1:(x :: (a++[32])).take 5=x :: a:=by rw [hq.2, ← List.cons_append];exact take_len _ _
           have e2:(x :: (a++b)).take 5=x :: a:=by rw [hq.2, ← List.cons_append];exact take_len _ _
           rw [e1] at h5
           rw [e2,if_pos h5,hq.1]
           exact congrArg (fun k=>some (t,k)) hq.2
         · rw [if_neg h5] at hq;cases hq
       · rw [if_neg h3] at hq ⊢
         by_cases h4:isLet x=true∨x=36
         · rw [if_pos h4] at hq ⊢
           have hn:((x :: (a++[32])).takeWhile isWord).length=(x :: a).length∧t.kind≠5:=by
            unfold wordT at hq
            split at hq
            · simp only [Option.some.injEq,Prod.mk.injEq] at hq;exact ⟨hq.2,by rw [← hq.1];simp⟩
            · split at hq
              · simp only [Option.some.injEq,Prod.mk.injEq] at hq;exact ⟨hq.2,by rw [← hq.1];simp⟩
              · cases hq
           obtain ⟨e1,e2⟩:=hsp isWord (by decide) hn.1 (fun y hy=>(hb.1 hn.2 y hy).1)
           rw [← hq]
           unfold wordT
           rw [e1,e2]
         · rw [if_neg h4] at hq ⊢
           unfold signT at hq ⊢
           by_cases h5:signN (x :: (a++[32]))=0
           · rw [if_pos h5] at hq;cases hq
           · rw [if_neg h5] at hq
             simp only [Option.some.injEq,Prod.mk.injEq] at hq
             have e1:(x :: (a++[32])).take (x :: a).length=x :: a:=by rw [← List.cons_append];exact take_len _ _
             have e2:(x :: (a++b)).take (x :: a).length=x :: a:=by rw [← List.cons_append];exact take_len _ _
             have e:signN (x :: (a++b))=signN (x :: (a++[32])):=by
              cases a with
              | nil =>
                have hs:signN (x :: [32])=1:=hq.2
                have ht:t.text=strOfNums [x]:=by
                 rw [← hq.1]
                 show strOfNums (List.take (signN (x :: [32])) (x :: [32]))=_
                 rw [hs];rfl
                have hk:t.kind=5:=by rw [← hq.1]
                have h6:¬ ((x=60∧(b.head? = some 62∨b.head? = some 61))∨(x=62∧b.head? = some 61)):=by
                 rintro (⟨rfl,h | h⟩ | ⟨rfl,h⟩)
                 · exact (hb.2 hk (.inl ht) _ h).2 rfl
                 · exact (hb.2 hk (.inl ht) _ h).1 rfl
                 · exact (hb.2 hk (.inr ht) _ h).1 rfl
                show signN (x :: b)=signN (x :: [32])
                have h7:¬ ((x=60∧(([32]:List Int).head? = some 62∨([32]:List Int).head? = some 61))∨(x=62∧([32]:List Int).head? = some 61)):=by simp
                rw [signN_cons,signN_cons,if_neg h6,if_neg h7]
              | cons y a=>rw [signN_cons,signN_cons];rfl
             rw [e,if_neg h5, ← hq.1,hq.2,e1,e2]
theorem tok_first {x:Int} {l:List Int} {t:Tk} {n:Nat} (h:tokT (x :: l)=some (t,n)):x≠32∧(t.kind=5→isWord x=false∧x≠34)∧(t.kind≠5→x≠61∧x≠62):=by
 rw [tokT_cons] at h
 by_cases h1:isNum x=true
 · rw [if_pos h1] at h
   have hx:=num_bd h1
   unfold numT at h
   split at h
   · cases h
   · simp only [Option.some.injEq,Prod.mk.injEq] at h
     refine ⟨by omega,fun h5 => ?_,fun _=>by omega⟩
     rw [← h.1] at h5;simp at h5
 · rw [if_neg h1] at h
   by_cases h2:x=34
   · rw [if_pos h2] at h
     unfold quoT at h
     cases hq:quoF l with
     | none=>rw [hq] at h;cases h
     | some q =>
       rw [hq] at h
       simp only [Option.map_some,Option.some.injEq,Prod.mk.injEq] at h
       refine ⟨by omega,fun h5 => ?_,fun _=>by omega⟩
       rw [← h.1] at h5;simp at h5
   · rw [if_neg h2] at h
     by_cases h3:x=35
     · rw [if_pos h3] at h
       unfold deadT at h
       split at h
       · simp only [Option.some.injEq,Prod.mk.injEq] at h
         refine ⟨by omega,fun h5 => ?_,fun _=>by omega⟩
         rw [← h.1] at h5;simp at h5
       · cases h
     · rw [if_neg h3] at h
       by_cases h4:isLet x=true∨x=36
       · rw [if_pos h4] at h
         have hx:x≠32∧x≠61∧x≠62:=by
          rcases h4 with h4 | h4
          · unfold isLet at h4;rw [decide_eq_true_iff] at h4;omega
          · omega
         refine ⟨hx.1,fun h5 => ?_,fun _=>hx.2⟩
         unfold wordT at h
         split at h
         · simp only [Option.some.injEq,Prod.mk.injEq] at h
           rw [← h.1] at h5;simp at h5
         · split at h
           · simp only [Option.some.injEq,Prod.mk.injEq] at h
             rw [← h.1] at h5;simp at h5
           · cases h
       · rw [if_neg h4] at h
         unfold signT at h
         split at h
         · cases h
         · rename_i h5
           simp only [Option.some.injEq,Prod.mk.injEq] at h
           rw [signN_cons] at h5
           have hx:x≠32∧x≠33:=by
            refine ⟨?_, ?_⟩
            · rintro rfl;exact h5 (by rw [if_neg (by omega),if_neg (by omega)])
            · rintro rfl;exact h5 (by rw [if_neg (by omega),if_neg (by omega)])
           refine ⟨hx.1,fun _=>⟨?_,h2⟩,fun h6=>absurd (show t.kind=5 by rw [← h.1]) h6⟩
           unfold isWord
           have g1:isLet x=false:=by cases c:isLet x with
            | false=>rfl
            | true=>exact absurd (.inl c) h4
           have g2:isNum x=false:=by cases c:isNum x with
            | false=>rfl
            | true=>exact absurd c h1
           rw [g1,g2]
           simp only [Bool.false_or]
           exact decide_eq_false (by rintro (h | h);exact h4 (.inr h);exact hx.2 h)
def Fs (t:Tk):Prop:=t.kind≠5∨t.text=⟨#[40]⟩∨t.text=⟨#[45]⟩
def Ls (t:Tk):Prop:=t.kind≠5∨t.text=⟨#[41]⟩
def Pr (t u:Tk):Prop:=(t.kind≠5→u.kind=5)∧(t.kind=5→(t.text=⟨#[60]⟩∨t.text=⟨#[62]⟩)→Fs u)
def Sep:List Tk→Prop
 | []=>True
 | t :: ts=>(∀ u,ts.head? = some u→Pr t u)∧Sep ts
theorem Sep.app:∀ {a b:List Tk},Sep a→Sep b→(∀ t u,a.getLast? = some t→b.head? = some u→Pr t u)→Sep (a++b)
 | [],_,_,h,_=>h
 | [t],b,_,h,hj=>⟨fun u hu=>hj t u rfl hu,h⟩
 | t :: t' :: a,b,g,h,hj=>⟨fun u hu=>g.1 u hu,Sep.app (a:=t' :: a) g.2 h (fun v u hv hu=>hj v u (by rw [← hv];rfl) hu)⟩
theorem ls_sign {t u:Tk} {s:ByteArray} (h:Ls t) (hu:IsS s u):Pr t u:=by
 refine ⟨fun _=>hu.1,fun h5 hs => ?_⟩
 rcases h with h | h
 · exact absurd h5 h
 · rw [h] at hs;exact absurd hs (by decide)
theorem sign_fs {t u:Tk} {s:ByteArray} (ht:IsS s t) (h:Fs u):Pr t u:=⟨fun h5=>absurd ht.1 h5,fun _ _=>h⟩
def Sq (ts:List Tk):Prop:=Sep ts∧(∃ t l,ts=t :: l∧Fs t)∧∃ l t,ts=l++[t]∧Ls t
theorem Sq.one {t:Tk} (h:t.kind≠5):Sq [t]:=⟨⟨fun u hu=>by simp at hu,trivial⟩,⟨t,[],rfl,.inl h⟩,[],t,rfl,.inl h⟩
theorem Sq.ahead {m:Tk} {s:ByteArray} (hm:IsS s m) (hf:Fs m) {a:List Tk} (h:Sq a):Sq (m :: a):=by
 obtain ⟨h1,⟨t,l,rfl,h2⟩,l',t',e,h3⟩:=h
 exact ⟨⟨fun u hu=>by injection hu with hu;subst hu;exact sign_fs hm h2,h1⟩,⟨m,_,rfl,hf⟩,m :: l',t',by rw [e];rfl,h3⟩
theorem Sq.mid {a b:List Tk} {c:Tk} {s:ByteArray} (h:Sq a) (hc:IsS s c) (g:Sq b):Sq (a++c :: b):=by
 obtain ⟨h1,⟨t,l,rfl,h2⟩,l',t',e,h3⟩:=h
 obtain ⟨g1,⟨u,m,rfl,g2⟩,m',u',e',g3⟩:=g
 refine ⟨?_,⟨t,_,rfl,h2⟩,(t :: l)++c :: m',u',by rw [e'];simp,g3⟩
 refine Sep.app h1 ⟨fun v hv=>by injection hv with hv;subst hv;exact sign_fs hc g2,g1⟩ ?_
 intro v w hv hw
 injection hw with hw
 subst hw
 rw [e,List.getLast?_append] at hv
 simp at hv
 subst hv
 exact ls_sign h3 hc
theorem Sq.brk {a:List Tk} {l r:Tk} (h:Sq a) (hl:IsS ⟨#[40]⟩ l) (hr:IsS ⟨#[41]⟩ r):Sq (l :: (a++[r])):=by
 obtain ⟨h1,⟨t,k,rfl,h2⟩,l',t',e,h3⟩:=h
 refine ⟨⟨fun u hu=>by injection hu with hu;subst hu;exact sign_fs hl h2, ?_⟩,⟨l,_,rfl,.inr (.inl hl.2)⟩,l :: (t :: k),r,rfl,.inr hr.2⟩
 refine Sep.app h1 ⟨fun u hu=>by simp at hu,trivial⟩ ?_
 intro v w hv hw
 injection hw with hw
 subst hw
 rw [e,List.getLast?_append] at hv
 simp at hv
 subst hv
 exact ls_sign h3 hr
theorem Sq.wr {n rk d d':Nat} {ts ts':List Tk} (h:Sq ts) (hw:Wr n rk d ts d' ts'):Sq ts':=by
 rcases hw with ⟨_,rfl,_⟩ | ⟨_,_,l,r,hl,hr,rfl⟩
 · exact h
 · exact h.brk hl hr
theorem Sq.name {a:List Tk} {t l r:Tk} (ht:t.kind=3) (hl:IsS ⟨#[40]⟩ l) (hr:IsS ⟨#[41]⟩ r) (h:a=[]∨Sq a):Sq (t :: l :: (a++[r])):=by
 have hp:∀ u,(l :: (a++[r])).head? = some u→Pr t u:=by
  intro u hu;injection hu with hu;subst hu
  exact ⟨fun _=>hl.1,fun h=>by omega⟩
 rcases h with rfl | h
 · exact ⟨⟨hp,fun u hu=>by injection hu with hu;subst hu;exact ⟨fun h=>absurd hl.1 h,fun _ h=>by rw [hl.2] at h;exact absurd h (by decide)⟩,fun u hu=>by simp at hu,trivial⟩,⟨t,_,rfl,.inl (by omega)⟩,[t,l],r,rfl,.inr hr.2⟩
 · have g:=h.brk hl hr
   exact ⟨⟨hp,g.1⟩,⟨t,_,rfl,.inl (by omega)⟩,t :: l :: a,r,rfl,.inr hr.2⟩
theorem leaf_sq {ts:List Tk} {nd:Nd} (h:LeafS ts nd):Sq ts:=by
 cases h with
 | num t h=>exact Sq.one (by omega)
 | text t h=>exact Sq.one (by omega)
 | yes t h _=>exact Sq.one (by omega)
 | no t h _=>exact Sq.one (by omega)
 | dead t h=>exact Sq.one (by omega)
 | ref t h=>exact Sq.one (by omega)
 | range t c u h hc g _=>exact Sq.mid (a:=[t]) (b:=[u]) (Sq.one (by omega)) hc (Sq.one (by omega))
theorem sh_sq {b:Bool} {base:Nat} {ns:List Nd} {ks:List Int} {ts:List Tk} {rk d:Nat} (h:Sh b base ns ks ts rk d) :
 (b=false→Sq ts)∧(b=true→(ks=[]∧ts=[])∨(ks≠[]∧Sq ts)):=by
 induction h with
 | leaf base ts nd h=>exact ⟨fun _=>leaf_sq h,fun h=>by cases h⟩
 | neg base ns a ts rk d h m hm d' ts' hw ih=>exact ⟨fun _=>((ih.1 rfl).wr hw).ahead hm (.inr (.inr hm.2)),fun h=>by cases h⟩
 | op base o ho ns ms a b ts us rk1 rk2 d1 d2 h g s hs e1 e2 ts' us' hw gw ih ig=>exact ⟨fun _=>((ih.1 rfl).wr hw).mid hs ((ig.1 rfl).wr gw),fun h=>by cases h⟩
 | call base ns ks ts d h t l r ht h1 h2 hl hr ih =>
   refine ⟨fun _=>Sq.name ht hl hr ?_,fun h=>by cases h⟩
   rcases ih.2 rfl with ⟨_,h⟩ | ⟨_,h⟩
   · exact .inl h
   · exact .inr h
 | none base=>exact ⟨fun h=>(by cases h),fun _ => .inl ⟨rfl,rfl⟩⟩
 | one base ns a ts rk d h ih=>exact ⟨fun h=>(by cases h),fun _ => .inr ⟨by simp,ih.1 rfl⟩⟩
 | and base ns ms ks b ts us rk d1 d2 h hk c hc g ih ig =>
   refine ⟨fun h=>(by cases h),fun _ => .inr ⟨by simp, ?_⟩⟩
   rcases ih.2 rfl with ⟨h,_⟩ | ⟨_,h⟩
   · exact absurd h hk
   · exact h.mid hc (ig.1 rfl)
def txL (ts:List Tk):List Int:=ts.flatMap txK
theorem txL_cons (t:Tk) (ts:List Tk):txL (t :: ts)=txK t++txL ts:=rfl
theorem txL_len (ts:List Tk):(txL ts).length=lenK ts:=by
 induction ts with
 | nil=>rfl
 | cons t ts ih=>rw [txL_cons,List.length_append,ih];rfl
theorem tok_head {t:Tk} (h:Tok t):∃ x l,txK t=x :: l∧x≠32∧(t.kind=5→isWord x=false∧x≠34)∧(t.kind≠5→x≠61∧x≠62):=by
 have hn:=(tokT_le _ _ _ h.2.1).1
 cases e:txK t with
 | nil=>rw [e] at hn;simp at hn
 | cons x l =>
   have h2:=h.2.1
   rw [e,List.cons_append] at h2
   have g:=tok_first h2
   exact ⟨x,l,rfl,g.1,fun h=>g.2.1 h,fun h=>g.2.2 h⟩
theorem behind_all {t:Tk} {ts:List Tk} (hp:∀ u,ts.head? = some u→Pr t u) (hu:∀ u∈ts,Tok u):Behind t (txL ts):=by
 cases ts with
 | nil=>exact ⟨fun _ x hx=>by simp [txL] at hx,fun _ _ x hx=>by simp [txL] at hx⟩
 | cons u us =>
   obtain ⟨x,l,e,h1,h2,h3⟩:=tok_head (hu u (by simp))
   have hpr:=hp u rfl
   have hh:(txL (u :: us)).head? = some x:=by rw [txL_cons,e];rfl
   refine ⟨fun hk y hy => ?_,fun hk hs y hy => ?_⟩
   · rw [hh] at hy;injection hy with hy;subst hy;exact h2 (hpr.1 hk)
   · rw [hh] at hy;injection hy with hy;subst hy
     rcases hpr.2 hk hs with g | g | g
     · exact h3 g
     · by_cases h5:u.kind=5
       · have:txK u=[40]:=by unfold txK;simp only [h5,g];rfl
         rw [this] at e;injection e with e _;omega
       · exact h3 h5
     · by_cases h5:u.kind=5
       · have:txK u=[45]:=by unfold txK;simp only [h5,g];rfl
         rw [this] at e;injection e with e _;omega
       · exact h3 h5
theorem lex_sep:∀ (ts:List Tk) (p:Nat),Sep ts→(∀ t∈ts,Tok t)→∃ vs e,lexG p (txL ts)=some (vs++[e])∧e.kind=0∧vs.map (Tk.goto · 0)=ts.map (Tk.goto · 0)
 | [],p,_,_=>⟨[],_,lexG_nil p,rfl,rfl⟩
 | t :: ts,p,hs,ht=>by
   have h1:=ht t (by simp)
   have h2:=h1.2.2
   obtain ⟨vs,e,g1,g2,g3⟩:=lex_sep ts (p+(txK t).length) hs.2 (fun u hu=>ht u (by simp [hu]))
   obtain ⟨x,l,hx,hx2,_⟩:=tok_head h1
   have hb:Behind t (txL ts):=behind_all hs.1 (fun u hu=>ht u (by simp [hu]))
   have hq:=tok_behind (t:=t.goto 0) h2 h1.2.1 hb
   refine ⟨(t.goto 0).goto p :: vs,e, ?_,g2,by rw [List.map_cons,List.map_cons,g3];rfl⟩
   rw [txL_cons,lexG_app p (txK t) (txL ts) (t.goto 0) (fun y hy=>by rw [hx] at hy;injection hy with hy;omega) hq,g1]
   rfl
theorem IsS.goto {s:ByteArray} {t v:Tk} (h:IsS s t) (hv:v.goto 0=t.goto 0):IsS s v :=
 ⟨(congrArg Tk.kind hv).trans h.1,(congrArg Tk.text hv).trans h.2⟩
theorem rf_goto {t v:Tk} (hv:v.goto 0=t.goto 0):v.rf=t.rf:=(show (v.goto 0).rf=(t.goto 0).rf by rw [hv])
theorem LeafS.goto {ts:List Tk} {nd:Nd} (h:LeafS ts nd) (vs:List Tk) (hv:vs.map (Tk.goto · 0)=ts.map (Tk.goto · 0)):LeafS vs nd:=by
 have one:∀ t:Tk,vs.map (Tk.goto · 0)=[t].map (Tk.goto · 0)→∃ v,vs=[v]∧v.goto 0=t.goto 0:=by
  intro t h
  rw [List.map_cons,List.map_nil] at h
  obtain ⟨v,l,h1,h2,h3⟩:=List.map_eq_cons_iff.1 h
  rw [List.map_eq_nil_iff] at h3
  exact ⟨v,by rw [h1,h3],h2⟩
 cases h with
 | num t h =>
   obtain ⟨v,rfl,e⟩:=one t hv
   have:=congrArg Tk.num e
   rw [← show v.num=t.num from this]
   exact .num v ((congrArg Tk.kind e).trans h)
 | text t h =>
   obtain ⟨v,rfl,e⟩:=one t hv
   have:=congrArg Tk.text e
   rw [← show v.text=t.text from this]
   exact .text v ((congrArg Tk.kind e).trans h)
 | yes t h g =>
   obtain ⟨v,rfl,e⟩:=one t hv
   exact .yes v ((congrArg Tk.kind e).trans h) ((congrArg Tk.text e).trans g)
 | no t h g =>
   obtain ⟨v,rfl,e⟩:=one t hv
   exact .no v ((congrArg Tk.kind e).trans h) ((congrArg Tk.text e).trans g)
 | dead t h =>
   obtain ⟨v,rfl,e⟩:=one t hv
   exact .dead v ((congrArg Tk.kind e).trans h)
 | ref t h =>
   obtain ⟨v,rfl,e⟩:=one t hv
   rw [← rf_goto e]
   exact .ref v ((congrArg Tk.kind e).trans h)
 | range t c u h hc g hs =>
   rw [List.map_cons,List.map_cons,List.map_cons,List.map_nil] at hv
   obtain ⟨t',l,rfl,e1,h3⟩:=List.map_eq_cons_iff.1 hv
   obtain ⟨c',l,rfl,e2,h3⟩:=List.map_eq_cons_iff.1 h3
   obtain ⟨u',l,rfl,e3,h3⟩:=List.map_eq_cons_iff.1 h3
   rw [List.map_eq_nil_iff] at h3
   subst h3
   rw [← rf_goto e1, ← rf_goto e3] at hs ⊢
   exact .range t' c' u' ((congrArg Tk.kind e1).trans h) (hc.goto e2) ((congrArg Tk.kind e3).trans g) hs
theorem Wr.goto {n rk d d':Nat} {ts ts' vs':List Tk} (h:Wr n rk d ts d' ts') (hv:vs'.map (Tk.goto · 0)=ts'.map (Tk.goto · 0)):∃ vs,vs.map (Tk.goto · 0)=ts.map (Tk.goto · 0)∧Wr n rk d vs d' vs':=by
 rcases h with ⟨h1,rfl,rfl⟩ | ⟨h1,rfl,l,r,hl,hr,rfl⟩
 · exact ⟨vs',hv,.inl ⟨h1,rfl,rfl⟩⟩
 · rw [List.map_cons,List.map_append,List.map_cons,List.map_nil] at hv
   obtain ⟨l',k,rfl,e1,h3⟩:=List.map_eq_cons_iff.1 hv
   obtain ⟨vs,k2,rfl,e2,h3⟩:=List.map_eq_append_iff.1 h3
   obtain ⟨r',k3,rfl,e3,h3⟩:=List.map_eq_cons_iff.1 h3
   rw [List.map_eq_nil_iff] at h3
   subst h3
   exact ⟨vs,e2,.inr ⟨h1,rfl,l',r',hl.goto e1,hr.goto e3,rfl⟩⟩
theorem Sh.goto {b:Bool} {base:Nat} {ns:List Nd} {ks:List Int} {ts:List Tk} {rk d:Nat} (h:Sh b base ns ks ts rk d):∀ vs:List Tk,vs.map (Tk.goto · 0)=ts.map (Tk.goto · 0)→Sh b base ns ks vs rk d:=by
 induction h with
 | leaf base ts nd h=>exact fun vs hv => .leaf base vs nd (h.goto vs hv)
 | neg base ns a ts rk d h m hm d' ts' hw ih =>
   intro vs hv
   rw [List.map_cons] at hv
   obtain ⟨m',k,rfl,e1,h3⟩:=List.map_eq_cons_iff.1 hv
   obtain ⟨us,e2,hw'⟩:=hw.goto h3
   exact .neg base ns a us rk d (ih us e2) m' (hm.goto e1) d' k hw'
 | op base o ho ns ms a b ts us rk1 rk2 d1 d2 h g s hs e1 e2 ts' us' hw gw ih ig =>
   intro vs hv
   rw [List.map_append,List.map_cons] at hv
   obtain ⟨a',k,rfl,f1,h3⟩:=List.map_eq_append_iff.1 hv
   obtain ⟨s',b',rfl,f2,f3⟩:=List.map_eq_cons_iff.1 h3
   obtain ⟨xs,x1,hw'⟩:=hw.goto f1
   obtain ⟨ys,y1,gw'⟩:=gw.goto f3
   exact .op base o ho ns ms a b xs ys rk1 rk2 d1 d2 (ih xs x1) (ig ys y1) s' (hs.goto f2) e1 e2 a' b' hw' gw'
 | call base ns ks ts d h t l r ht h1 h2 hl hr ih =>
   intro vs hv
   rw [List.map_cons,List.map_cons,List.map_append,List.map_cons,List.map_nil] at hv
   obtain ⟨t',k,rfl,f1,h3⟩:=List.map_eq_cons_iff.1 hv
   obtain ⟨l',k,rfl,f2,h3⟩:=List.map_eq_cons_iff.1 h3
   obtain ⟨a',k,rfl,f3,h3⟩:=List.map_eq_append_iff.1 h3
   obtain ⟨r',k,rfl,f4,h3⟩:=List.map_eq_cons_iff.1 h3
   rw [List.map_eq_nil_iff] at h3
   subst h3
   have ht':t'.text=t.text:=(show (t'.goto 0).text=(t.goto 0).text by rw [f1])
   rw [← ht']
   exact .call base ns ks a' d (ih a' f3) t' l' r' ((congrArg Tk.kind f1).trans ht) (by rw [ht'];exact h1) (by rw [ht'];exact h2) (hl.goto f2) (hr.goto f4)
 | none base =>
   intro vs hv
   rw [List.map_nil,List.map_eq_nil_iff] at hv
   subst hv
   exact .none base
 | one base ns a ts rk d h ih=>exact fun vs hv => .one base ns a vs rk d (ih vs hv)
 | and base ns ms ks b ts us rk d1 d2 h hk c hc g ih ig =>
   intro vs hv
   rw [List.map_append,List.map_cons] at hv
   obtain ⟨a',k,rfl,f1,h3⟩:=List.map_eq_append_iff.1 hv
   obtain ⟨c',b',rfl,f2,f3⟩:=List.map_eq_cons_iff.1 h3
   exact .and base ns ms ks b a' b' rk d1 d2 (ih a' f1) hk c' (hc.goto f2) (ig b' f3)
theorem sh_text {ns:List Nd} {a:Int} {ts:List Tk} {rk d:Nat} (h:Sh false 0 ns [a] ts rk d) (hd:d≤12) (ht:∀ t∈ts,Tok t):∃ vs g,lexL (txL ts)=some vs∧parseP g vs=some (.ok ns):=by
 obtain ⟨vs,e,h1,h2,h3⟩:=lex_sep ts 0 ((sh_sq h).1 rfl).1 ht
 obtain ⟨g,hg⟩:=sh_parse (h.goto vs h3) hd e h2
 exact ⟨vs++[e],g,h1,hg⟩
theorem told_text {l:List Int} {ts:List Tk} {f:Nat} {ns:List Nd} (hb:Bytes l) (hl:lexL l=some ts) (hp:parseP f ts=some (.ok ns)) :
 ∃ us rk d a,Sh false 0 ns [a] us rk d∧d≤12∧(∀ t∈us,Tok t)∧(txL us).length≤l.length∧∃ vs g,lexL (txL us)=some vs∧parseP g vs=some (.ok ns):=by
 obtain ⟨body,e,h1,h2,h3,h4⟩:=lexF_tok _ _ _ _ hb hl
 unfold parseP at hp
 rcases bindR_some hp with ⟨er,_,h5⟩ | ⟨ms,a,r,h5,h6⟩
 · cases h5
 · by_cases hk:kindAt r=0
   · rw [if_pos hk] at h6
     injection h6 with h6;injection h6 with h6
     subst h6
     obtain ⟨pre,e1,us,rk,d,us',d',g1,g2,g3,g4⟩:=(has_all f).1 _ _ _ _ _ _ _ h5 (by omega) (by omega)
     obtain ⟨pre',e2,k2,_⟩:=((told_all f).1 _ _ _ _ _ _ _ h5).1
     rcases g2 with ⟨_,rfl,rfl⟩ | ⟨g2,_⟩
     · have ep:pre=pre':=List.append_cancel_right (e1.symm.trans e2)
       subst ep
       have hsub:us'.Sublist body:=by
        have s1:us'.Sublist ts:=by rw [e1];exact g3.trans (List.sublist_append_left _ _)
        have s2:=s1.filter (fun t=>decide (t.kind≠0))
        rw [h1,List.filter_append] at s2
        have f1:us'.filter (fun t=>decide (t.kind≠0))=us':=List.filter_eq_self.2 (fun t ht=>decide_eq_true (k2 t (g3.subset ht)))
        have f2:body.filter (fun t=>decide (t.kind≠0))=body:=List.filter_eq_self.2 (fun t ht=>decide_eq_true (h3 t ht).1)
        have f3:[e].filter (fun t=>decide (t.kind≠0))=[]:=by simp [h2]
        rw [f1,f2,f3,List.append_nil] at s2
        exact s2
       have htok:∀ t∈us',Tok t:=fun t ht=>h3 t (hsub.subset ht)
       refine ⟨us',rk,d',_,g1,by omega,htok, ?_,sh_text g1 (by omega) htok⟩
       rw [txL_len]
       exact Nat.le_trans (lenK_sub hsub) h4
     · omega
   · rw [if_neg hk] at h6;injection h6 with h6;cases h6
def rankL (k:Int):Nat:=if 9≤k∧k≤14 then 0 else if k=15 then 1 else if 16≤k∧k≤17 then 2 else if 18≤k∧k≤19 then 3 else if k=8 then 4 else 5
def inL (b:Bool) (t:List Int):List Int:=if b=true then 40 :: (t++[41]) else t
def joinA:List (List Int)→List Int
 | []=>[]
 | [a]=>a
 | a :: b :: l=>a++44 :: joinA (b :: l)
def nodeAt (l:List Nd) (at':Int):Nd:=l.getD at'.toNat Nd.zero
def shownL:Nat→List Nd→Int→List Int
 | 0,_,_=>[]
 | f + 1,l,i =>
   if (nodeAt l i).kind=1 then digL (nodeAt l i).num.toNat
   else if (nodeAt l i).kind=2 then 34 :: (dblL (sb (nodeAt l i).text)++[34])
   else if (nodeAt l i).kind=3 then (if (nodeAt l i).num=1 then [84,82,85,69] else [70,65,76,83,69])
   else if (nodeAt l i).kind=4 then [35,82,69,70,33]
   else if (nodeAt l i).kind=5 then textL (sb (nodeAt l i).ref.sh) (nodeAt l i).ref.c (nodeAt l i).ref.r (nodeAt l i).ref.ac (nodeAt l i).ref.ar
   else if (nodeAt l i).kind=6 then textL (sb (nodeAt l i).ref.sh) (nodeAt l i).ref.c (nodeAt l i).ref.r (nodeAt l i).ref.ac (nodeAt l i).ref.ar++58 :: textL (sb (nodeAt l i).to.sh) (nodeAt l i).to.c (nodeAt l i).to.r (nodeAt l i).to.ac (nodeAt l i).to.ar
   else if (nodeAt l i).kind=7 then sb (nodeAt l i).text++40 :: (joinA ((nodeAt l i).kids.map (shownL f l))++[41])
   else if (nodeAt l i).kind=8 then 45 :: inL (decide (rankL (nodeAt l ((nodeAt l i).kids.getD 0 0)).kind<4)) (shownL f l ((nodeAt l i).kids.getD 0 0))
   else inL (decide (rankL (nodeAt l ((nodeAt l i).kids.getD 0 0)).kind<rankL (nodeAt l i).kind)) (shownL f l ((nodeAt l i).kids.getD 0 0)) ++
    (opL ((nodeAt l i).kind - 9).toNat++inL (decide (rankL (nodeAt l ((nodeAt l i).kids.getD 1 0)).kind≤rankL (nodeAt l i).kind)) (shownL f l ((nodeAt l i).kids.getD 1 0)))
def printL (l:List Nd):List Int:=if treeB l=true then shownL l.length l ((l.length:Int) - 1) else []
theorem joinA_snoc (y:List Int):∀ xs:List (List Int),xs≠[]→joinA (xs++[y])=joinA xs++44 :: y
 | [],h=>absurd rfl h
 | [x],_=>rfl
 | x :: x' :: xs,_=>by
   have ih:=joinA_snoc y (x' :: xs) (by simp)
   show x++44 :: joinA (x' :: xs++[y])=x++44 :: joinA (x' :: xs)++44 :: y
   rw [ih];simp
theorem shown_succ (f:Nat) (l:List Nd) (i:Int) (n:Nd) (h:nodeAt l i=n):shownL (f+1) l i =
 if n.kind=1 then digL n.num.toNat
 else if n.kind=2 then 34 :: (dblL (sb n.text)++[34])
 else if n.kind=3 then (if n.num=1 then [84,82,85,69] else [70,65,76,83,69])
 else if n.kind=4 then [35,82,69,70,33]
 else if n.kind=5 then textL (sb n.ref.sh) n.ref.c n.ref.r n.ref.ac n.ref.ar
 else if n.kind=6 then textL (sb n.ref.sh) n.ref.c n.ref.r n.ref.ac n.ref.ar++58 :: textL (sb n.to.sh) n.to.c n.to.r n.to.ac n.to.ar
 else if n.kind=7 then sb n.text++40 :: (joinA (n.kids.map (shownL f l))++[41])
 else if n.kind=8 then 45 :: inL (decide (rankL (nodeAt l (n.kids.getD 0 0)).kind<4)) (shownL f l (n.kids.getD 0 0))
 else inL (decide (rankL (nodeAt l (n.kids.getD 0 0)).kind<rankL n.kind)) (shownL f l (n.kids.getD 0 0)) ++
  (opL (n.kind - 9).toNat++inL (decide (rankL (nodeAt l (n.kids.getD 1 0)).kind≤rankL n.kind)) (shownL f l (n.kids.getD 1 0))):=by
 subst h;conv=>lhs;unfold shownL
theorem txL_app (a b:List Tk):txL (a++b)=txL a++txL b:=by unfold txL;rw [List.flatMap_append]
theorem txK_sign {s:ByteArray} {t:Tk} (h:IsS s t):txK t=sb s:=by
 unfold txK;rw [h.1,h.2];rfl
theorem txL_wr {n rk d d':Nat} {ts ts':List Tk} (h:Wr n rk d ts d' ts'):txL ts'=inL (decide (rk<n)) (txL ts):=by
 rcases h with ⟨h,rfl,_⟩ | ⟨h,_,l,r,hl,hr,rfl⟩
 · rw [decide_eq_false (by omega)];rfl
 · rw [decide_eq_true h,txL_cons,txL_app,txL_cons,txK_sign hl,txK_sign hr];rfl
def InL (l:List Nd) (base:Nat) (ns:List Nd):Prop:=∃ pre post,l=pre++(ns++post)∧pre.length=base
theorem InL.left {l ns ms:List Nd} {base:Nat} (h:InL l base (ns++ms)):InL l base ns:=by
 obtain ⟨p,q,h1,h2⟩:=h;exact ⟨p,ms++q,by rw [h1];simp,h2⟩
theorem InL.right {l ns ms:List Nd} {base:Nat} (h:InL l base (ns++ms)):InL l (base+ns.length) ms:=by
 obtain ⟨p,q,h1,h2⟩:=h;exact ⟨p++ns,q,by rw [h1];simp,by rw [List.length_append,h2]⟩
theorem InL.at {l:List Nd} {base:Nat} {n:Nd} (h:InL l base [n]):nodeAt l (base:Int)=n:=by
 obtain ⟨p,q,h1,h2⟩:=h
 unfold nodeAt
 rw [h1,Int.toNat_natCast, ← h2];simp
theorem op_rank:∀ o:Nat,o<11→rankL (9+(o:Int))=rk o∧sb (opS.getD o ⟨#[]⟩)=opL o:=by decide +kernel
theorem sh_shown {b:Bool} {base:Nat} {ns:List Nd} {ks:List Int} {ts:List Tk} {rq d:Nat} (h:Sh b base ns ks ts rq d) :
 ∀ l f,InL l base ns→ns.length≤f→(b=false→∀ a,ks=[a]→shownL f l a=txL ts∧rankL (nodeAt l a).kind=rq)∧(b=true→joinA (ks.map (shownL f l))=txL ts):=by
 induction h with
 | leaf base ts nd h =>
   intro l f hi hf
   refine ⟨fun _ a ha => ?_,fun h=>by cases h⟩
   injection ha with ha _
   subst ha
   obtain ⟨g,rfl⟩:∃ g,f=g+1:=⟨f - 1,by simp at hf;omega⟩
   have hn:=hi.at
   rw [hn]
   rw [shown_succ g l _ nd hn]
   cases h with
   | num t h=>refine ⟨?_,rfl⟩;rw [if_pos rfl,txL_cons];unfold txK;rw [if_pos h];simp [txL]
   | text t h=>refine ⟨?_,rfl⟩;rw [if_neg (by simp),if_pos rfl,txL_cons];unfold txK;rw [h,if_neg (by decide),if_pos rfl];simp [txL]
   | yes t h g=>refine ⟨?_,rfl⟩;rw [if_neg (by decide),if_neg (by decide),if_pos rfl,if_pos rfl,txL_cons];unfold txK;rw [h,g,if_neg (by decide),if_neg (by decide),if_neg (by decide),if_neg (by decide)];rfl
   | no t h g=>refine ⟨?_,rfl⟩;rw [if_neg (by decide),if_neg (by decide),if_pos rfl,if_neg (by decide),txL_cons];unfold txK;rw [h,g,if_neg (by decide),if_neg (by decide),if_neg (by decide),if_neg (by decide)];rfl
   | dead t h=>refine ⟨?_,rfl⟩;rw [if_neg (by decide),if_neg (by decide),if_neg (by decide),if_pos rfl,txL_cons];unfold txK;rw [h,if_neg (by decide),if_neg (by decide),if_neg (by decide),if_pos rfl];rfl
   | ref t h =>
     refine ⟨?_,rfl⟩
     rw [if_neg (by simp),if_neg (by simp),if_neg (by simp),if_neg (by simp),if_pos rfl,txL_cons]
     unfold txK;rw [h,if_neg (by decide),if_neg (by decide),if_pos rfl];simp [txL,Tk.rf]
   | range t c u h hc g hs =>
     refine ⟨?_,rfl⟩
     rw [if_neg (by simp),if_neg (by simp),if_neg (by simp),if_neg (by simp),if_neg (by simp),if_pos rfl,txL_cons,txL_cons,txL_cons,txK_sign hc]
     unfold txK;rw [h,g,if_neg (by decide),if_neg (by decide),if_pos rfl,if_neg (by decide),if_neg (by decide),if_pos rfl]
     have:sb (⟨#[58]⟩:ByteArray)=[58]:=by decide
     rw [this];simp [txL,Tk.rf]
 | neg base ns a ts rk d h m hm d' ts' hw ih =>
   intro l f hi hf
   refine ⟨fun _ a' ha => ?_,fun h=>by cases h⟩
   injection ha with ha _
   subst ha
   rw [List.length_append,List.length_singleton] at hf
   obtain ⟨g,rfl⟩:∃ g,f=g+1:=⟨f - 1,by omega⟩
   obtain ⟨e1,e2⟩:=(ih l g hi.left (by omega)).1 rfl a rfl
   have hn:=hi.right.at
   rw [hn]
   refine ⟨?_,rfl⟩
   rw [shown_succ g l _ _ hn,if_neg (by simp),if_neg (by simp),if_neg (by simp),if_neg (by simp),if_neg (by simp),if_neg (by simp),if_neg (by simp),if_pos rfl,txL_cons,txK_sign hm,txL_wr hw]
   show 45 :: inL (decide (rankL (nodeAt l a).kind<4)) (shownL g l a)=_
   rw [e1,e2];rfl
 | op base o ho ns ms a b ts us rk1 rk2 d1 d2 h g s hs x1 x2 ts' us' hw gw ih ig =>
   intro l f hi hf
   refine ⟨fun _ a' ha => ?_,fun h=>by cases h⟩
   injection ha with ha _
   subst ha
   rw [List.length_append,List.length_append,List.length_singleton] at hf
   obtain ⟨q,rfl⟩:∃ q,f=q+1:=⟨f - 1,by omega⟩
   obtain ⟨e1,e2⟩:=(ih l q hi.left (by omega)).1 rfl a rfl
   obtain ⟨j1,j2⟩:=(ig l q hi.right.left (by omega)).1 rfl b rfl
   have hn:=hi.right.right.at
   rw [Nat.add_assoc] at hn
   obtain ⟨hr,ht⟩:=op_rank o ho
   rw [hn]
   refine ⟨?_,hr⟩
   rw [shown_succ q l _ _ hn,if_neg (by show ¬ 9+(o:Int)=1;omega),if_neg (by show ¬ 9+(o:Int)=2;omega),if_neg (by show ¬ 9+(o:Int)=3;omega),if_neg (by show ¬ 9+(o:Int)=4;omega),if_neg (by show ¬ 9+(o:Int)=5;omega),
    if_neg (by show ¬ 9+(o:Int)=6;omega),if_neg (by show ¬ 9+(o:Int)=7;omega),if_neg (by show ¬ 9+(o:Int)=8;omega),txL_app,txL_cons,txK_sign hs,txL_wr hw,txL_wr gw]
   show inL (decide (rankL (nodeAt l a).kind<rankL (9+(o:Int)))) (shownL q l a)++(opL (9+(o:Int) - 9).toNat++inL (decide (rankL (nodeAt l b).kind≤rankL (9+(o:Int)))) (shownL q l b))=_
   rw [e1,e2,j1,j2,hr,ht,show (9+(o:Int) - 9).toNat=o by omega]
   have:decide (rk2≤rk o)=decide (rk2<rk o+1):=by rw [decide_eq_decide];omega
   rw [this]
 | call base ns ks ts d h t x r ht h1 h2 hl hr ih =>
   intro l f hi hf
   refine ⟨fun _ a' ha => ?_,fun h=>by cases h⟩
   injection ha with ha _
   subst ha
   rw [List.length_append,List.length_singleton] at hf
   obtain ⟨g,rfl⟩:∃ g,f=g+1:=⟨f - 1,by omega⟩
   have e1:=(ih l g hi.left (by omega)).2 rfl
   have hn:=hi.right.at
   rw [hn]
   refine ⟨?_,rfl⟩
   rw [shown_succ g l _ _ hn,if_neg (by simp),if_neg (by simp),if_neg (by simp),if_neg (by simp),if_neg (by simp),if_neg (by simp),if_pos rfl,txL_cons,txL_cons,txL_app,txL_cons,txK_sign hl,txK_sign hr]
   have:txK t=sb t.text:=by unfold txK;rw [ht];rfl
   rw [this]
   show sb t.text++40 :: (joinA (ks.map (shownL g l))++[41])=_
   rw [e1];rfl
 | none base=>exact fun l f _ _=>⟨fun h=>(by cases h),fun _=>rfl⟩
 | one base ns a ts rk d h ih =>
   intro l f hi hf
   exact ⟨fun h=>(by cases h),fun _=>((ih l f hi hf).1 rfl a rfl).1⟩
 | and base ns ms ks b ts us rk d1 d2 h hk c hc g ih ig =>
   intro l f hi hf
   refine ⟨fun h=>(by cases h),fun _ => ?_⟩
   rw [List.length_append] at hf
   have e1:=(ih l f hi.left (by omega)).2 rfl
   have e2:=((ig l f hi.right (by omega)).1 rfl b rfl).1
   rw [List.map_append,List.map_cons,List.map_nil,joinA_snoc _ _ (by simpa using hk),e1,e2,txL_app,txL_cons,txK_sign hc]
   rfl
theorem sh_len {b:Bool} {base:Nat} {ns:List Nd} {ks:List Int} {ts:List Tk} {rq d:Nat} (h:Sh b base ns ks ts rq d):b=false→ks=[((base+ns.length:Nat):Int) - 1]:=by
 cases h with
 | leaf base ts nd h=>intro _;simp
 | neg base ns a ts rk d h m hm d' ts' hw=>intro _;simp;omega
 | op base o ho ns ms a b ts us rk1 rk2 d1 d2 h g s hs e1 e2 ts' us' hw gw=>intro _;simp;omega
 | call base ns ks ts d h t l r ht h1 h2 hl hr=>intro _;simp;omega
 | none base=>intro h;cases h
 | one base ns a ts rk d h=>intro h;cases h
 | and base ns ms ks b ts us rk d1 d2 h hk c hc g=>intro h;cases h
theorem sh_print {ns:List Nd} {a:Int} {ts:List Tk} {rq d:Nat} (h:Sh false 0 ns [a] ts rq d) (ht:treeB ns=true):printL ns=txL ts:=by
 unfold printL
 rw [if_pos ht]
 have e:=sh_len h rfl
 have:=((sh_shown h ns ns.length ⟨[],[],by simp,rfl⟩ (Nat.le_refl _)).1 rfl a rfl).1
 injection e with e _
 rw [e,Nat.zero_add] at this
 exact this
theorem print_told {l:List Int} {ts:List Tk} {f:Nat} {ns:List Nd} (hb:Bytes l) (hl:lexL l=some ts) (hp:parseP f ts=some (.ok ns)) (ht:treeB ns=true) :
 (printL ns).length≤l.length∧∃ vs g,lexL (printL ns)=some vs∧parseP g vs=some (.ok ns):=by
 obtain ⟨us,rq,d,a,h1,h2,h3,h4,h5⟩:=told_text hb hl hp
 rw [sh_print h1 ht]
 exact ⟨h4,h5⟩
theorem tree_kids:∀ (ns:List Nd) (st:List Int) (i:Nat),(∀ k∈st,0≤k∧k<i)→treeF st i ns=true→∀ (j:Nat) (n:Nd),ns[j]? = some n→nodeB n=true∧∀ k∈n.kids,0≤k∧k<((i+j:Nat):Int)
 | [],_,_,_,_,j,n,h=>by simp at h
 | m :: ns,st,i,hst,ht,j,n,h=>by
   rw [treeF_cons,Bool.and_eq_true,Bool.and_eq_true,Bool.and_eq_true,decide_eq_true_iff,decide_eq_true_iff] at ht
   obtain ⟨h1,h2,h3,h4⟩:=ht
   cases j with
   | zero =>
     have:m=n:=by simpa using h
     subst this
     refine ⟨h1,fun k hk => ?_⟩
     rw [← h3] at hk
     exact hst k (List.mem_of_mem_drop hk)
   | succ j =>
     have g:=tree_kids ns _ (i+1) (by
      intro k hk
      rcases List.mem_append.1 hk with hk | hk
      · have:=hst k (List.mem_of_mem_take hk);omega
      · simp at hk;omega) h4 j n (by simpa using h)
     rw [show i+(j+1)=i+1+j by omega]
     exact g
end Go.Proofs.YtdphoaabaajonaaGreatDoor
