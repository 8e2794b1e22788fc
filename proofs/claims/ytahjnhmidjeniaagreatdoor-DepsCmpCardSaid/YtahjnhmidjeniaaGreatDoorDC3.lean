import Derived.Test.YtahjnhmidjeniaaGreatDoorDC2
import Derived.Laws.ResultCell
set_option maxRecDepth 100000
set_option maxHeartbeats 64000000
namespace Go.Proofs.YtahjnhmidjeniaaGreatDoor
open Go.RowKit
theorem Mf (b:Nat)(s:ByteArray)(k:Nat)(w:World)(h:aQ w b s k)(_hs:s.size≤1000000)(_hk:k≤s.size) :
 Calls Tryz.prog 83 #[.pointer (some ⟨b,0,none⟩)] w fun e w'=>w.grownBy w' (some b)∧e = .returned (.tuple #[])∧aQ w' b s (k+((aD s k).takeWhile kJ).length):=by
 have HW:=ae (ZV b s k w h _hs _hk);clear h;go_enter Tryz.func83,Tryz.ntmps83;go_wp2_with (go_at_call 111;((with_reducible refine HW.o.mono ?_);rintro e w1 ⟨h1,rfl,h2⟩;have H1:=ae h1;have H2:=ae h2;clear h1 h2))
 first
  | exact bodyPost_ret (results_none rfl _ _ _) rfl ⟨H1.o,rfl,H2.o⟩
  | (go_end0;exact⟨H1.o,rfl,H2.o⟩)
def gM(p l:List Int):Bool:=decide (l.take p.length=p)
theorem Jg:∀(l p:List UInt8),Lib.hasPrefix l p=gM (p.map fun x=>(x.toNat:Int)) (l.map fun x=>(x.toNat:Int))
 | l,[]=>by unfold Lib.hasPrefix gM;simp
 | [],x :: p=>by unfold Lib.hasPrefix gM;simp
 | y :: l,x :: p=>by
   have ih:=Jg l p;unfold Lib.hasPrefix gM at ih ⊢;rw[List.isPrefixOf_cons_cons,ih];simp only[fP,aN,List.take_succ_cons,List.cons.injEq];rw[Bool.eq_iff_iff,bu,bI,aA,aA];refine and_congr ⟨fun h=>by rw[h],fun h => ?_⟩ Iff.rfl;apply UInt8.toNat_inj.1;omega
theorem Sj {p l:List Int}(h:gM p l=true):p.length≤l.length:=by
 unfold gM at h;rw[aA]at h;have:=congrArg List.length h;rw[iB]at this;omega
theorem Le (s t:ByteArray)(k:Nat):Lib.hasPrefix (s.extract k s.size).data.toList t.data.toList=gM (sb t) (aD s k):=by
 rw[Jg];show gM (sb t) (sb (s.extract k s.size))=_;congr 1;by_cases hk:k≤s.size
 · have:=IL s k (s.size - k)
   rw[show k+(s.size - k)=s.size from by omega]at this;rw[this];unfold aD;rw[mM];rw[jX,bn];omega
 · have h1:(sb (s.extract k s.size)).length=0:=by rw[bn,ByteArray.size_extract];omega
   have h2:(aD s k).length=0:=by rw[ng];omega
   rw[mK h1,mK h2]
theorem Mw (b:Nat)(s t:ByteArray)(k:Nat)(w:World)(h:aQ w b s k)(_hs:s.size≤1000000)(_hk:k≤s.size)(_ht:t.size≤1000000) :
 Calls Tryz.prog 174 #[.pointer (some ⟨b,0,none⟩),.string t] w fun e w'=>w.grownBy w' (some b)∧e = .returned (.bool (gM (sb t) (aD s k)))∧aQ w' b s (if gM (sb t) (aD s k)=true then k+t.size else k):=by
 obtain⟨c0,c1⟩:=h.facts;have f1:=h.frozen 1;have HR:=ae h;clear h;have hz1:(0:Int)≤(k:Int):=by omega
 have hz2:(k:Int)≤(s.size:Int):=by omega
 cases hq:gM (sb t) (aD s k)
 · have HP:=ae (Le s t k);rw[hq]at HP
   go_enter Tryz.func174,Tryz.ntmps174;go_wp2_with fail
   go_quiet ((go_at_call 189;exact Calls.quiet_of_same ((Tryz.strings_HasPrefix _ _ _).mono (fun _ _ ⟨a,c⟩=>⟨by rw[a,HP.o],c⟩))))
   go_wp2_with fail
   go_ret;exact⟨grownBy.bZ (grownBy.dH _ _) _,rfl,HR.o.drewN _⟩
 · have HP:=ae (Le s t k);rw[hq]at HP
   have hle:=Sj hq;rw[ng,bn]at hle;go_enter Tryz.func174,Tryz.ntmps174;go_wp2_with fail
   go_quiet ((go_at_call 189;exact Calls.quiet_of_same ((Tryz.strings_HasPrefix _ _ _).mono (fun _ _ ⟨a,c⟩=>⟨by rw[a,HP.o],c⟩))))
   go_wp2_with fail
   go_ret;exact⟨grownBy.dP (grownBy.bZ (grownBy.dH _ _) _) _ _,rfl,(HR.o.drewN _).oF (k+t.size)⟩
def rQ(l:List Int):Bool:=decide (∀x∈l,(aP x||isNum x)=true)&&decide (l.length≤12)
theorem Vu (s:ByteArray)(k:Nat)(h:k<s.size)(hx:(aP ((sb s).getD k 0)||isNum ((sb s).getD k 0))=false):rQ (sb s)=false:=by
 unfold rQ;rw[Bool.and_eq_false_iff];left;rw[gK];intro aV;have:=aV ((sb s).getD k 0) (by rw[yD s k h];exact bN (p8 s k h));rw[hx]at this;cases this
theorem Vt (s:ByteArray)(h:∀j,j<s.size→(aP ((sb s).getD j 0)||isNum ((sb s).getD j 0))=true):rQ (sb s)=decide (s.size≤12):=by
 unfold rQ;rw[aL (show ∀x∈sb s,(aP x||isNum x)=true from ?_),jW,bn];intro x hx;obtain⟨j,hj,rfl⟩:=List.mem_iff_getElem.1 hx;have:=h j (by rw[bn]at hj;exact hj);rw[iM,aX hj]at this;exact this
theorem TB (s:ByteArray)(w:World)(_hs:s.size≤1000000) :
 Calls Tryz.prog 178 #[.string s] w fun e w'=>e = .returned (.bool (rQ (sb s)))∧w=w':=by
 go_enter Tryz.func178,Tryz.ntmps178;go_wp2_with fail
 go_loopw [6] (fun i wr=>∃k:Nat,k≤s.size∧i = .int .i64 k∧Hid (∀j,j<k→(aP ((sb s).getD j 0)||isNum ((sb s).getD j 0))=true)∧w=wr)
  (fun i _=>s.size - (intOf i).toNat)
 case atStart=>exact⟨0,by omega,rfl,ae (by intro j hj;omega),rfl⟩
 case round =>
  obtain⟨k,hk,rfl,HG,rfl⟩:=hrel;by_cases hlt:k<s.size
  · have hki:(k:Int)<(s.size:Int):=by omega
    obtain⟨a,ha⟩:∃a:Int,(s[k].toNat:Int)=a:=⟨_,rfl⟩;have ha1:0≤a∧a≤255:=by have:=s[k].toNat_lt;omega
    have qU:=ae (show(sb s).getD k 0=a by rw[yD s k hlt,ha])
    have JB:(aP a||isNum a)=true→∀j,j<k+1→(aP ((sb s).getD j 0)||isNum ((sb s).getD j 0))=true:=by
     intro h j hj;by_cases h1:j<k
     · exact HG.o j h1
     · rw[show j=k from by omega,qU.o];exact h
    have F9:=ae JB;clear JB;cases hc:aP a
    · cases hn:isNum a
      · have fo:=ae (Vu s k hlt (by rw[qU.o,hc,hn];rfl))
        go_wp2_with (first
         | (go_at_call 175;((with_reducible refine(yj _ ?_ ?_ _).mono ?_);(first|omega|skip);(first|omega|skip);rintro e w' ⟨rfl,rfl⟩;rw[hc]))
         | (go_at_call 144;((with_reducible refine(pW _ ?_ ?_ _).mono ?_);(first|omega|skip);(first|omega|skip);rintro e w' ⟨rfl,rfl⟩;rw[hn])))
        go_ret;exact⟨fB fo.o.symm,rfl⟩
      · go_wp2_with (first
         | (go_at_call 175;((with_reducible refine(yj _ ?_ ?_ _).mono ?_);(first|omega|skip);(first|omega|skip);rintro e w' ⟨rfl,rfl⟩;rw[hc]))
         | (go_at_call 144;((with_reducible refine(pW _ ?_ ?_ _).mono ?_);(first|omega|skip);(first|omega|skip);rintro e w' ⟨rfl,rfl⟩;rw[hn])))
        go_roundw
        case rel=>exact⟨k+1,by omega,by go_num,ae (F9.o (by rw[hc,hn];rfl)),by trivial⟩
        case measure=>simp[intOf];omega
    · go_wp2_with (first
       | (go_at_call 175;((with_reducible refine(yj _ ?_ ?_ _).mono ?_);(first|omega|skip);(first|omega|skip);rintro e w' ⟨rfl,rfl⟩;rw[hc])))
      go_roundw
      case rel=>exact⟨k+1,by omega,by go_num,ae (F9.o (by rw[hc];rfl)),by trivial⟩
      case measure=>simp[intOf];omega
  · have hki:¬ (k:Int)<(s.size:Int):=by omega
    have HA:=ae (Vt s (fun j hj=>HG.o j (by omega)));go_wp2_with fail
    go_ret;refine⟨fB (by rw[HA.o,decide_eq_decide];omega),rfl⟩
def lQ(c:Int):FuncId:=if isNum c=true then 145 else if c=34 then 146 else if c=35 then 147 else if kz c=true then 149 else 150
theorem KI{c:Int}(h:isNum c=true):lQ c=145:=by unfold lQ;rw[ah h]
theorem KJ{c:Int}(h:isNum c=false)(h1:c=34):lQ c=146:=by unfold lQ;rw[af (by simp[h]),ah h1]
theorem KH{c:Int}(h:isNum c=false)(h1:¬ c=34)(h2:c=35):lQ c=147:=by unfold lQ;rw[af (by simp[h]),af h1,ah h2]
theorem KM{c:Int}(h:isNum c=false)(h1:¬ c=34)(h2:¬ c=35)(h3:kz c=true):lQ c=149:=by unfold lQ;rw[af (by simp[h]),af h1,af h2,ah h3]
theorem KL{c:Int}(h:isNum c=false)(h1:¬ c=34)(h2:¬ c=35)(h3:kz c=false):lQ c=150:=by unfold lQ;rw[af (by simp[h]),af h1,af h2,af (by simp[h3])]
theorem U5 (c:Int)(_h0:0≤c)(_h1:c≤255)(w:World) :
 Calls Tryz.prog 113 #[.int .u8 c] w fun e w'=>e = .returned (.func (.func (lQ c)) #[] #[])∧w=w':=by
 cases hn:isNum c
 · by_cases h34:c=34
   · have HM:=ae (KJ hn h34)
     have hb1:(c == 34)=true:=bI.2 h34;clear h34;go_enter Tryz.func113,Tryz.ntmps113
     go_wp2_with (first
      | (go_at_call 144;((with_reducible refine(pW _ ?_ ?_ _).mono ?_);(first|omega|skip);(first|omega|skip);rintro e w' ⟨rfl,rfl⟩;rw[hn]))
      | (go_at_call 148;((with_reducible refine(sM _ ?_ ?_ _).mono ?_);(first|omega|skip);(first|omega|skip);rintro e w' ⟨rfl,rfl⟩;rw[hb])))
     all_goals go_ret
     all_goals exact⟨by rw[HM.o];rfl,rfl⟩
   · have hb1:(c == 34)=false:=aB.2 h34
     by_cases h35:c=35
     · have HM:=ae (KH hn h34 h35)
       have hb2:(c == 35)=true:=bI.2 h35;clear h34 h35;go_enter Tryz.func113,Tryz.ntmps113
       go_wp2_with (first
        | (go_at_call 144;((with_reducible refine(pW _ ?_ ?_ _).mono ?_);(first|omega|skip);(first|omega|skip);rintro e w' ⟨rfl,rfl⟩;rw[hn]))
        | (go_at_call 148;((with_reducible refine(sM _ ?_ ?_ _).mono ?_);(first|omega|skip);(first|omega|skip);rintro e w' ⟨rfl,rfl⟩;rw[hb])))
       all_goals go_ret
       all_goals exact⟨by rw[HM.o];rfl,rfl⟩
     · have hb2:(c == 35)=false:=aB.2 h35
       cases hb:kz c
       · have HM:=ae (KL hn h34 h35 hb)
         clear h34 h35;go_enter Tryz.func113,Tryz.ntmps113
         go_wp2_with (first
          | (go_at_call 144;((with_reducible refine(pW _ ?_ ?_ _).mono ?_);(first|omega|skip);(first|omega|skip);rintro e w' ⟨rfl,rfl⟩;rw[hn]))
          | (go_at_call 148;((with_reducible refine(sM _ ?_ ?_ _).mono ?_);(first|omega|skip);(first|omega|skip);rintro e w' ⟨rfl,rfl⟩;rw[hb])))
         all_goals go_ret
         all_goals exact⟨by rw[HM.o];rfl,rfl⟩
       · have HM:=ae (KM hn h34 h35 hb)
         clear h34 h35;go_enter Tryz.func113,Tryz.ntmps113
         go_wp2_with (first
          | (go_at_call 144;((with_reducible refine(pW _ ?_ ?_ _).mono ?_);(first|omega|skip);(first|omega|skip);rintro e w' ⟨rfl,rfl⟩;rw[hn]))
          | (go_at_call 148;((with_reducible refine(sM _ ?_ ?_ _).mono ?_);(first|omega|skip);(first|omega|skip);rintro e w' ⟨rfl,rfl⟩;rw[hb])))
         all_goals go_ret
         all_goals exact⟨by rw[HM.o];rfl,rfl⟩
 · have HM:=ae (KI hn)
   go_enter Tryz.func113,Tryz.ntmps113
   go_wp2_with (first
    | (go_at_call 144;((with_reducible refine(pW _ ?_ ?_ _).mono ?_);(first|omega|skip);(first|omega|skip);rintro e w' ⟨rfl,rfl⟩;rw[hn]))
    | (go_at_call 148;((with_reducible refine(sM _ ?_ ?_ _).mono ?_);(first|omega|skip);(first|omega|skip);rintro e w' ⟨rfl,rfl⟩;skip)))
   all_goals go_ret
   all_goals exact⟨by rw[HM.o];rfl,rfl⟩
def kS (o:Option (ai × Nat))(b:Nat)(s:ByteArray)(k:Nat)(w:World)(e:Ending)(w':World):Prop :=
 w.grownBy w' (some b)∧((∃t n,o=some (t,n)∧e = .returned (.tuple #[.agg (nC t),.bool true])∧aQ w' b s (k+n))∨(o=none∧∃t,e = .returned (.tuple #[.agg (nC t),.bool false])))
theorem grownBy.oG {a w:World}{r:Option Nat}(h:a.grownBy w r)(ad:Addr)(v:Value)(hg:a.heap.size≤ad.block):a.grownBy (w.setCell ad v) r :=
 ⟨h.os,h.tape,h.output,by simpa using h.size,fun j hj hr=>by
  rw[jA _ _ _ _ (by intro e;omega)];exact h.block j hj hr⟩
theorem grownBy.gT {a w:World}{r:Option Nat}{g:Nat}(h:a.grownBy w r)(hg:a.heap.size≤g)(v0 v1 v2 v3 v4 v5 v6 v7 v8:Value) :
 a.grownBy (((((((((w.setCell ⟨g,0,none⟩ v0).setCell ⟨g,1,none⟩ v1).setCell ⟨g,2,none⟩ v2).setCell ⟨g,3,none⟩ v3).setCell ⟨g,4,none⟩ v4).setCell ⟨g,5,none⟩ v5).setCell ⟨g,6,none⟩ v6).setCell ⟨g,7,none⟩ v7).setCell ⟨g,8,none⟩ v8) r :=
 grownBy.oG (grownBy.oG (grownBy.oG (grownBy.oG (grownBy.oG (grownBy.oG (grownBy.oG (grownBy.oG (grownBy.oG (h) _ _ hg) _ _ hg) _ _ hg) _ _ hg) _ _ hg) _ _ hg) _ _ hg) _ _ hg) _ _ hg
theorem aQ.other {w:World}{b:Nat}{s:ByteArray}{k:Nat}(h:aQ w b s k)(ad:Addr)(v:Value)(hne:ad.block≠b):aQ (w.setCell ad v) b s k:=by
 unfold aQ;rw[jA _ _ _ _ (by intro e;exact hne e.symm)];exact h
theorem aQ.gT {w:World}{b:Nat}{s:ByteArray}{k g:Nat}(h:aQ w b s k)(hg:g≠b)(v0 v1 v2 v3 v4 v5 v6 v7 v8:Value) :
 aQ (((((((((w.setCell ⟨g,0,none⟩ v0).setCell ⟨g,1,none⟩ v1).setCell ⟨g,2,none⟩ v2).setCell ⟨g,3,none⟩ v3).setCell ⟨g,4,none⟩ v4).setCell ⟨g,5,none⟩ v5).setCell ⟨g,6,none⟩ v6).setCell ⟨g,7,none⟩ v7).setCell ⟨g,8,none⟩ v8) b s k :=
 ((((((((h.other _ _ hg).other _ _ hg).other _ _ hg).other _ _ hg).other _ _ hg).other _ _ hg).other _ _ hg).other _ _ hg).other _ _ hg
theorem aC.cells {w:World}{b:Nat}{t:ai}(h:aC w b t):w.cell? ⟨b,0,none⟩=some (.int .i64 t.kind)∧w.cell? ⟨b,1,none⟩=some (.string t.text)∧w.cell? ⟨b,2,none⟩=some (.int .i64 t.num)∧w.cell? ⟨b,3,none⟩=some (.string t.sh)∧w.cell? ⟨b,4,none⟩=some (.int .i64 t.c)∧w.cell? ⟨b,5,none⟩=some (.int .i64 t.r)∧w.cell? ⟨b,6,none⟩=some (.bool t.ac)∧w.cell? ⟨b,7,none⟩=some (.bool t.ar)∧w.cell? ⟨b,8,none⟩=some (.int .i64 t.pos) :=
 ⟨by rw[cell_of_row w b 0 _ _ _ h];rfl,by rw[cell_of_row w b 1 _ _ _ h];rfl,by rw[cell_of_row w b 2 _ _ _ h];rfl,by rw[cell_of_row w b 3 _ _ _ h];rfl,by rw[cell_of_row w b 4 _ _ _ h];rfl,by rw[cell_of_row w b 5 _ _ _ h];rfl,by rw[cell_of_row w b 6 _ _ _ h];rfl,by rw[cell_of_row w b 7 _ _ _ h];rfl,by rw[cell_of_row w b 8 _ _ _ h];rfl⟩
theorem aC.dM {w:World}{b:Nat}{t:ai}(h:aC w b t):w.frozen? ⟨b,0,none⟩=false∧w.frozen? ⟨b,1,none⟩=false∧w.frozen? ⟨b,2,none⟩=false∧w.frozen? ⟨b,3,none⟩=false∧w.frozen? ⟨b,4,none⟩=false∧w.frozen? ⟨b,5,none⟩=false∧w.frozen? ⟨b,6,none⟩=false∧w.frozen? ⟨b,7,none⟩=false∧w.frozen? ⟨b,8,none⟩=false :=
 ⟨h.frozen 0,h.frozen 1,h.frozen 2,h.frozen 3,h.frozen 4,h.frozen 5,h.frozen 6,h.frozen 7,h.frozen 8⟩
abbrev qf:Array Value:=#[.int .i64 0,.string ⟨#[]⟩,.int .i64 0,.string ⟨#[]⟩,.int .i64 0,.int .i64 0,.bool false,.bool false,.int .i64 0]
theorem aC.zero(w:World):aC (w.alloc (.cells qf 130)) w.heap.size ai.zero:=aC.new w ai.zero
theorem aC.load {w:World}{b:Nat}{t:ai}(h:aC w b t):(loadVar 130 ⟨b,0,none⟩).run Tryz.prog w = .ok (.agg (nC t)) w :=
 run_loadVar_row w b 130 130 _ _ _ h Tryz.underlying130 rfl MI
theorem lg {w:World}{b:Nat}{t:ai}(h:aC w b t)(fn:Func)(tmps:Array Value)(ok:Bool)(p u:Tmp)(hf:fn.results=#[.cell p 130,.tmp u])(hp:tmps.getD p undef = .pointer (some ⟨b,0,none⟩))(hu:tmps.getD u undef = .bool ok) :
 (results fn tmps).run Tryz.prog w = .ok (.tuple #[.agg (nC t),.bool ok]) w:=by
 rw[results_cell_tmp hf,hp,hu];simp[asAddr,h.load,Result.andThen]
theorem aC.XY{w:World}{b:Nat}{t:ai}(h:aC w b t)(x:Int):aC (w.setCell ⟨b,0,none⟩ (.int .i64 x)) b { t with kind:=x }:=by unfold aC;rw[heap_setCell_same w b 0 _ _ _ h];rfl
theorem aC.AU{w:World}{b:Nat}{t:ai}(h:aC w b t)(x:ByteArray):aC (w.setCell ⟨b,1,none⟩ (.string x)) b { t with text:=x }:=by unfold aC;rw[heap_setCell_same w b 1 _ _ _ h];rfl
theorem aC.XZ{w:World}{b:Nat}{t:ai}(h:aC w b t)(x:Int):aC (w.setCell ⟨b,2,none⟩ (.int .i64 x)) b { t with num:=x }:=by unfold aC;rw[heap_setCell_same w b 2 _ _ _ h];rfl
theorem aC.X0{w:World}{b:Nat}{t:ai}(h:aC w b t)(x:ByteArray):aC (w.setCell ⟨b,3,none⟩ (.string x)) b { t with sh:=x }:=by unfold aC;rw[heap_setCell_same w b 3 _ _ _ h];rfl
theorem aC.X3{w:World}{b:Nat}{t:ai}(h:aC w b t)(x:Int):aC (w.setCell ⟨b,4,none⟩ (.int .i64 x)) b { t with c:=x }:=by unfold aC;rw[heap_setCell_same w b 4 _ _ _ h];rfl
theorem aC.X4{w:World}{b:Nat}{t:ai}(h:aC w b t)(x:Int):aC (w.setCell ⟨b,5,none⟩ (.int .i64 x)) b { t with r:=x }:=by unfold aC;rw[heap_setCell_same w b 5 _ _ _ h];rfl
theorem aC.X5{w:World}{b:Nat}{t:ai}(h:aC w b t)(x:Bool):aC (w.setCell ⟨b,6,none⟩ (.bool x)) b { t with ac:=x }:=by unfold aC;rw[heap_setCell_same w b 6 _ _ _ h];rfl
theorem aC.X6{w:World}{b:Nat}{t:ai}(h:aC w b t)(x:Bool):aC (w.setCell ⟨b,7,none⟩ (.bool x)) b { t with ar:=x }:=by unfold aC;rw[heap_setCell_same w b 7 _ _ _ h];rfl
theorem aC.X7{w:World}{b:Nat}{t:ai}(h:aC w b t)(x:Int):aC (w.setCell ⟨b,8,none⟩ (.int .i64 x)) b { t with pos:=x }:=by unfold aC;rw[heap_setCell_same w b 8 _ _ _ h];rfl
theorem aC.ll {w:World}{b:Nat}{t0:ai}(h:aC w b t0)(t:ai):aC (((((((((w.setCell ⟨b,0,none⟩ (.int .i64 t.kind)).setCell ⟨b,1,none⟩ (.string t.text)).setCell ⟨b,2,none⟩ (.int .i64 t.num)).setCell ⟨b,3,none⟩ (.string t.sh)).setCell ⟨b,4,none⟩ (.int .i64 t.c)).setCell ⟨b,5,none⟩ (.int .i64 t.r)).setCell ⟨b,6,none⟩ (.bool t.ac)).setCell ⟨b,7,none⟩ (.bool t.ar)).setCell ⟨b,8,none⟩ (.int .i64 t.pos)) b t:=by
 have h9:=(((((((((h.XY t.kind).AU t.text).XZ t.num).X0 t.sh).X3 t.c).X4 t.r).X5 t.ac).X6 t.ar).X7 t.pos);exact h9
theorem Hd:∀(l:List UInt8)(a:Nat)(L:List Int),a<18446744073709551616→bV L=(a:Int)→(∀c∈l,48≤c.toNat∧c.toNat≤57) →
 Lib.parseUint10 a l=if bV (L++l.map fun x=>(x.toNat:Int))<18446744073709551616 then .ok (bV (L++l.map fun x=>(x.toNat:Int))).toNat else .range
 | [],a,L,ha,hL,_=>by
   simp only[List.map_nil,bE];rw[hL,ah (by omega)];unfold Lib.parseUint10;simp
 | c :: l,a,L,ha,hL,h=>by
   have hc:=h c (by simp);have hv:bV (L++[(c.toNat:Int)])=10*(a:Int)+((c.toNat:Int) - 48):=by rw[yR,hL]
   have hge:=yQ (l.map fun x=>(x.toNat:Int)) (L++[(c.toNat:Int)]) (by
    intro x hx;rw[List.mem_map]at hx;obtain⟨d,hd,rfl⟩:=hx;have:=h d (by simp[hd]);unfold isNum;rw[aA];omega) (by omega)
   have e:L++(c :: l).map (fun x=>(x.toNat:Int))=L++[(c.toNat:Int)]++l.map fun x=>(x.toNat:Int):=by simp
   rw[e];unfold Lib.parseUint10;rw[ah hc];by_cases h1:1844674407370955162≤a
   · rw[ah h1,af (by omega)]
   · rw [af h1]
     by_cases h2:18446744073709551616≤a*10+(c.toNat - 48)
     · rw[ah h2,af (by omega)]
     · rw[af h2]
       exact Hd l (a*10+(c.toNat - 48)) (L++[(c.toNat:Int)]) (by omega) (by rw[hv];omega) (fun d hd=>h d (by simp[hd]))
theorem Pm (D:ByteArray)(h0:sb D≠[])(h:∀x∈sb D,isNum x=true):Lib.atoiAll D.data.toList=if 9223372036854775807<bV (sb D)then .range else .ok (bV (sb D)):=by
 have hsb:sb D=D.data.toList.map fun x=>(x.toNat:Int):=rfl
 have jI:=yQ (sb D) [] h (by decide);rw[eY,show bV []=0 from rfl]at jI;rw[hsb]at h0 h jI ⊢;cases hl:D.data.toList with
 | nil=>rw[hl]at h0;exact absurd rfl h0
 | cons c r =>
   rw[hl]at h jI
   have aV:∀d∈c :: r,48≤d.toNat∧d.toNat≤57:=by
    intro d hd;have:=oq (h (d.toNat:Int) (List.mem_map_of_mem (f:=fun x:UInt8=>(x.toNat:Int)) hd));omega
   have hc:=aV c (by simp);unfold Lib.atoiAll;simp only;rw[af (by omega)];unfold Lib.parseMag;rw[af (by simp)];rw[Hd (c :: r) 0 [] (by omega) rfl aV,eY];have DI:¬ c.toNat=45:=by omega
   by_cases h1:bV ((c :: r).map fun x=>(x.toNat:Int))<18446744073709551616
   · rw [ah h1]
     simp only[DI,false_and,not_false_iff,true_and,if_false];by_cases h2:9223372036854775807<bV ((c :: r).map fun x=>(x.toNat:Int))
     · rw[ah h2,ah (by omega)]
     · rw[af h2,af (by omega)]
       congr 1;omega
   · rw[af h1,ah (by omega)]
def si(w:World):Prop:=∃ev,w.cell? ⟨4,0,none⟩=some ev∧(ev = .nilIface∨∃te pe,ev = .iface te pe)
theorem si.grown {w w':World}{b:Nat}(h:si w)(hg:w.grownBy w' (some b))(hb:4<b):si w':=by
 obtain⟨ev,h1,h2⟩:=h;refine⟨ev, ?_,h2⟩;rw[H7 hg ?_ (by intro e;have:=dV e;simp at this;omega)]
 · exact h1
 · rcases Nat.lt_or_ge 4 w.heap.size with h'|h'
   · exact h'
   · exfalso;unfold World.cell? at h1;simp only at h1;rw[Array.getElem?_eq_none h']at h1;cases h1
theorem aC.drew{w:World}{b:Nat}{t:ai}(h:aC w b t):aC w.drew b t:=h
theorem aQ.drew{w:World}{b:Nat}{s:ByteArray}{k:Nat}(h:aQ w b s k):aQ w.drew b s k:=h
theorem grownBy.Iy{a w:World}{r:Option Nat}(h:a.grownBy w r):a.grownBy w.drew r:=⟨h.os,h.tape,h.output,h.size,h.block⟩
theorem Ha (D:ByteArray)(hD:D.size≤1000000)(v:Int)(h:Lib.atoiAll D.data.toList = .ok v)(w:World):Calls Tryz.prog 109 #[.string D] w fun e w'=>e = .returned (.tuple #[.int .i64 v,.nilIface])∧Below w.heap.size w w':=by
 refine(Tryz.strconv_Atoi_ok D (by omega) v h w).mono ?_;rintro e w' ⟨rfl,rfl|⟨t,rfl⟩⟩
 · exact⟨rfl,ak _ _⟩
 · exact⟨rfl,Lib.bytesWorld_below _ _ _⟩
theorem EF:Tryz.f145.results=#[.cell 2 130,.tmp 3]:=by kernel_rfl
theorem VH (b:Nat)(s:ByteArray)(k:Nat)(w:World)(h:aQ w b s k)(_hs:s.size≤1000000)(_hk:k<s.size)(hd:isNum ((s[k].toNat:Nat):Int)=true)(hev:si w)(hb2:4<b) :
 Calls Tryz.prog 145 #[.pointer (some ⟨b,0,none⟩)] w (kS (kZ (aD s k)) b s k w):=by
 have hal:w.grownBy (w.alloc (.cells qf 130)) (some b):=grownBy.below' (grownBy.dH _ _) ((ak _ _).alloc (aj _) _);have h1:aQ (w.alloc (.cells qf 130)) b s k:=h.below ((ak _ _).alloc (aj _) _) h.lt;have hlt:=h.lt;have ND:=ae (hev.grown hal hb2);clear hev;obtain⟨ds,hds⟩:∃ds,(aD s k).takeWhile isNum=ds:=⟨_,rfl⟩;obtain⟨D,hD⟩:∃D,strOfNums ds=D:=⟨_,rfl⟩;have hbd:Bytes ds:=fun x hx=>Lv s k x (by rw[← hds]at hx;exact(List.takeWhile_prefix _).subset hx)
 have og:sb D=ds:=by rw[← hD];exact iJ ds hbd
 have Td:D.size=ds.length:=by rw[← bn,og]
 have hlen:ds.length≤s.size:=by rw[← hds];have h0:=vB isNum (aD s k);rw[ng]at h0;omega
 have hW:=(ZW b s k _ h1 _hs (by omega)).mono (R':=fun e w'=>(w.alloc (.cells qf 130)).grownBy w' (some b)∧e = .returned (.string D)∧aQ w' b s (k+ds.length)) (fun e w' ⟨x1,x2,x3⟩=>⟨x1,by rw[x2,hds,hD],by rw[hds]at x3;exact x3⟩);have HW:=ae hW;clear hW h1 h;have dJ:=ae hal;clear hal;have cO:=ae (aC.zero w)
 have hne:ds≠[]:=by
  have h0:=wL s k 0 (by omega);rw[← hds];cases hr:aD s k with
  | nil=>rw[hr]at h0;simp at h0
  | cons x l=>rw[hr]at h0;simp at h0;rw[List.takeWhile_cons,h0,hd];simp
 have aV:∀x∈ds,isNum x=true:=by rw[← hds];exact rW isNum _
 have hN:kZ (aD s k)=if (1<ds.length∧ds.head? = some 48)∨9223372036854775807<bV ds then none else some ({ ai.zero with kind:=1,num:=bV ds },ds.length):=by
  unfold kZ;rw[hds]
  have hh:(aD s k).head? = ds.head? := by
   have e:=take_split isNum (aD s k);rw[hds]at e;rw[← e];cases ds with
   | nil=>exact absurd rfl hne
   | cons x l=>rfl
  rw[hh]
 have hat:=Pm D (by rw[og];exact hne) (by rw[og];exact aV);rw[og]at hat;have hp:=List.length_pos_iff.2 hne;have hD0:0<D.size:=by omega
 obtain⟨a,ha⟩:∃a:Int,(D[0].toNat:Int)=a:=⟨_,rfl⟩;have hhd:ds.head? = some a:=by rw[← ha, ← og,List.head?_eq_getElem?,p8 D 0 hD0]
 have hmx:D.size≤1000000:=by omega
 have HD:=ae hD;have HSD:=ae og;have aan:=ae hlen;have lC:=ae aV;clear hne aV hbd hds hD og hlen;have hw0:w.heap.size≠b:=by omega
 by_cases h48:1<ds.length∧ds.head? = some 48
 · rw[ah (Or.inl h48)]at hN
   have HN:=ae hN;clear hN hat;have aaw:(1:Int)<(D.size:Int):=by omega
   have aax:(a == 48)=true:=by rw[hhd]at h48;exact bI.2 (dV h48.2)
   have HHD:=ae hhd;clear h48 hhd hp;go_enter Tryz.func145,Tryz.ntmps145;go_wp2_with (go_at_call 111;((with_reducible refine HW.o.mono ?_);rintro e w1 ⟨h1,rfl,h2⟩;have H1:=ae h1;have H2:=ae h2;clear h1 h2;have HT1:=ae (cO.o.grown H1.o hw0);obtain⟨x0,x1,x2,x3,x4,x5,x6,x7,aY⟩:=HT1.o.cells;obtain⟨f0,f1,f2,f3,f4,f5,f6,f7,f8⟩:=HT1.o.dM))
   exact bodyPost_ret (lg (HT1.o.ll ai.zero) _ _ false 2 3 EF rfl rfl) rfl ⟨grownBy.gT (grownBy.trans' dJ.o H1.o) (aj _) _ _ _ _ _ _ _ _ _,.inr ⟨HN.o,ai.zero,rfl⟩⟩
 · by_cases pI:9223372036854775807<bV ds
   · rw [ah (Or.inr pI)]at hN
     rw[ah pI]at hat;have HN:=ae hN;have HAT:=ae hat;clear hN hat
     have Dp:(a == 48)=false∨((a == 48)=true∧¬ (1:Int)<(D.size:Int)):=by
      by_cases uI:a=48
      · refine .inr ⟨bI.2 uI,fun h1=>h48 ⟨by omega,by rw[hhd,uI]⟩⟩
      · exact .inl (aB.2 uI)
     clear h48 hhd hp pI;go_enter Tryz.func145,Tryz.ntmps145;rcases Dp with hc1|⟨hc1,hc2⟩
     all_goals go_wp2_with (first
      | (go_at_call 111;((with_reducible refine HW.o.mono ?_);rintro e w1 ⟨h1,rfl,h2⟩;have H1:=ae h1;have H2:=ae h2;clear h1 h2;obtain⟨ev,Bw,HE2⟩:=ND.o.grown H1.o hb2;have Bw:=ae Bw;have HE2:=ae HE2))
      | (go_at_call 109;((with_reducible refine(Tryz.strconv_Atoi_range D ?_ HAT.o ev _ Bw.o HE2.o).mono ?_);(first|omega|skip);rintro e w2 ⟨N,rfl, -, -,h3⟩;have H3:=ae h3;clear h3;have HT2:=ae ((cO.o.grown H1.o hw0).below H3.o (cO.o.grown H1.o hw0).lt);obtain⟨x0,x1,x2,x3,x4,x5,x6,x7,aY⟩:=HT2.o.cells;obtain⟨f0,f1,f2,f3,f4,f5,f6,f7,f8⟩:=HT2.o.dM)))
     all_goals (generalize Lib.atoiSat D.data.toList=sat)
     all_goals go_region
     all_goals go_wp2_with fail
     all_goals exact bodyPost_ret (lg (HT2.o.ll { ai.zero with kind:=1,num:=sat }).drew _ _ false 2 3 EF rfl rfl) rfl ⟨grownBy.Iy (grownBy.gT (grownBy.below' (grownBy.trans' dJ.o H1.o) H3.o) (aj _) _ _ _ _ _ _ _ _ _),.inr ⟨HN.o,{ ai.zero with kind:=1,num:=sat },rfl⟩⟩
   · rw [af (show ¬ ((1<ds.length∧ds.head? = some 48)∨9223372036854775807<bV ds)from fun h1=>h1.elim h48 pI)]at hN
     rw[af pI]at hat;obtain⟨v,hv⟩:∃v,bV ds=v:=⟨_,rfl⟩;rw[hv]at hN hat;have HN:=ae hN;have HAT:=ae hat;clear hN hat hv
     have Dp:(a == 48)=false∨((a == 48)=true∧¬ (1:Int)<(D.size:Int)):=by
      by_cases uI:a=48
      · refine .inr ⟨bI.2 uI,fun h1=>h48 ⟨by omega,by rw[hhd,uI]⟩⟩
      · exact .inl (aB.2 uI)
     clear h48 hhd hp pI;go_enter Tryz.func145,Tryz.ntmps145;rcases Dp with hc1|⟨hc1,hc2⟩
     all_goals go_wp2_with (first
      | (go_at_call 111;((with_reducible refine HW.o.mono ?_);rintro e w1 ⟨h1,rfl,h2⟩;have H1:=ae h1;have H2:=ae h2;clear h1 h2))
      | (go_at_call 109;((with_reducible refine(Ha D ?_ v HAT.o _).mono ?_);(first|omega|skip);rintro e w2 ⟨rfl,h3⟩;have H3:=ae h3;clear h3;have HL2:=ae (H2.o.below H3.o H2.o.lt);have HT2:=ae ((cO.o.grown H1.o hw0).below H3.o (cO.o.grown H1.o hw0).lt);obtain⟨x0,x1,x2,x3,x4,x5,x6,x7,aY⟩:=HT2.o.cells;obtain⟨f0,f1,f2,f3,f4,f5,f6,f7,f8⟩:=HT2.o.dM)))
     all_goals go_region
     all_goals go_wp2_with fail
     all_goals exact bodyPost_ret (lg (HT2.o.ll { ai.zero with kind:=1,num:=v }).drew _ _ true 2 3 EF rfl rfl) rfl ⟨grownBy.Iy (grownBy.gT (grownBy.below' (grownBy.trans' dJ.o H1.o) H3.o) (aj _) _ _ _ _ _ _ _ _ _),.inl ⟨_,_,HN.o,rfl,(HL2.o.gT hw0 _ _ _ _ _ _ _ _ _).drew⟩⟩
theorem JU:∀(l:List UInt8),Lib.indexByte l 33=if ((l.map (fun b=>(b.toNat:Int))).takeWhile ja).length=l.length then -1 else (((l.map (fun b=>(b.toNat:Int))).takeWhile ja).length:Int)
 | []=>rfl
 | x :: l=>by
   have ih:=JU l;unfold Lib.indexByte;by_cases hx:x=33
   · subst hx
     have hne:ja ((33:UInt8).toNat:Int)=false:=by decide
     rw[fP,List.takeWhile_cons,hne];simp
   · have hne:ja (x.toNat:Int)=true:=by
      unfold ja;rw[aA];intro h;apply hx;apply UInt8.toNat_inj.1;show x.toNat=33;omega
     have hb:(x == (33:UInt8))=false:=by rw[aB];exact hx
     rw[hb,fP,List.takeWhile_cons,hne,ah rfl,aN,aN,ih];obtain⟨n,hn⟩:∃n,((l.map (fun b=>(b.toNat:Int))).takeWhile ja).length=n:=⟨_,rfl⟩;rw[hn];by_cases h:n=l.length
     · have h2:n+1=l.length+1:=by omega
       rw[ah h,ah h2];rfl
     · have h2:¬ n+1=l.length+1:=by omega
       rw[af h,af h2];have:((n:Int) == -1)=false:=by rw[aB];omega
       rw[this];simp
theorem Tp (d:Rd):Lib.indexByte d.s.data.toList 33=if d.bG.length=d.s.size then -1 else (d.bG.length:Int):=by
 rw[JU];unfold Rd.bG sb;rw[← rP];have:d.s.toList.length=d.s.size:=by rw[rP];rfl
 rw[this]
theorem LZ (d:Rd):(sb d.s).take d.bG.length=d.bG:=by
 have e:=take_split ja (sb d.s);have h:(d.bG++(sb d.s).drop d.bG.length).take d.bG.length=d.bG:=List.take_left;have e2:d.bG++(sb d.s).drop d.bG.length=sb d.s:=e;rw[e2]at h;exact h
theorem LY (d:Rd)(h:¬ d.bG.length=d.s.size):d.bG.length<d.s.size:=by
 have e:=congrArg List.length (take_split ja (sb d.s));rw[ax,bn]at e;unfold Rd.bG at h ⊢;omega
theorem Yo (b:Nat)(d:Rd)(w:World)(h:aT w b d)(_hs:d.s.size≤1000000) :
 Calls Tryz.prog 191 #[.pointer (some ⟨b,0,none⟩)] w (Part d.lT b w):=by
 obtain⟨c0,c1,c2,c3,c4,c5,c6⟩:=h.facts;have f1:=h.frozen 1;have f2:=h.frozen 2;clear c3 c4 c5 c6;have HR:=ae h;clear h;have hix:=Tp d;by_cases hno:d.bG.length=d.s.size
 · have hf:d.lT=some d:=by unfold Rd.lT;rw[ah hno]
   rw[ah hno]at hix;have HF:=ae hf;clear hf hno;have ze:=ae hix;clear hix;go_enter Tryz.func191,Tryz.ntmps191;go_wp2_with (go_at_call 206;((with_reducible refine(Tryz.strings_IndexByte d.s 33 _).mono ?_);rintro e w1 ⟨rfl,rfl⟩;(rw[show(33:Int).toNat.toUInt8=33 from rfl,ze.o])))
   go_ret;exact⟨grownBy.dH _ _,.inl ⟨d,HF.o,rfl,HR.o⟩⟩
 · have hlt:=LY d hno
   rw[af hno]at hix;obtain⟨i,hi⟩:∃i:Nat,d.bG.length=i:=⟨_,rfl⟩;rw[hi]at hix hlt;have hf:d.lT=if fe d.bG=true then some { d with sh:=strOfNums d.bG,k:=i+1 }else none:=by unfold Rd.lT;rw[af hno,hi]
   have hcut:d.s.extract 0 i=strOfNums d.bG:=by
    rw[← LZ,hi, ← oH (d.s.extract 0 i)];congr 1;unfold sb;rw[← List.map_take];congr 1;simp[ByteArray.data_extract]
   have hsz:(strOfNums d.bG).size≤1000000:=by rw[strOfNums_size];omega
   have hb:sb (strOfNums d.bG)=d.bG:=iJ _ (fun x hx=>p9 d.s x (by rw[← LZ]at hx;exact List.mem_of_mem_take hx));have ze:=ae hix;clear hix;have HF:=ae hf;clear hf;have FN:=ae hcut;clear hcut;have HB:=ae hb;clear hb;have aaE:(i:Int)≤(d.s.size:Int):=by omega
   have hi0:(0:Int)≤(i:Int):=by omega
   clear hno hi;go_enter Tryz.func191,Tryz.ntmps191;by_cases hn:fe d.bG=true
   · have hf2:d.lT=some { d with sh:=strOfNums d.bG,k:=i+1 }:=by rw[HF.o,ah hn]
     have bO:=ae hf2;clear hf2
     go_wp2_with (first
      | (go_at_call 206;((with_reducible refine(Tryz.strings_IndexByte d.s 33 _).mono ?_);rintro e w1 ⟨rfl,rfl⟩;(rw[show(33:Int).toNat.toUInt8=33 from rfl,ze.o])))
      | (go_at_call 29;rw[FN.o];((with_reducible refine(yt _ _ ?_).mono ?_);(first|omega|skip);rintro e w2 ⟨rfl,rfl⟩;rw[HB.o,hn])))
     go_ret;exact⟨grownBy.dP (grownBy.dP (grownBy.dH _ _) _ _) _ _,.inl ⟨_,bO.o,rfl,(HR.o.Yb (strOfNums d.bG)).oF (i+1)⟩⟩
   · have hf2:d.lT=none:=by rw[HF.o,af hn]
     have hn':fe d.bG=false:=by simpa using hn
     have bO:=ae hf2;clear hf2 hn
     go_wp2_with (first
      | (go_at_call 206;((with_reducible refine(Tryz.strings_IndexByte d.s 33 _).mono ?_);rintro e w1 ⟨rfl,rfl⟩;(rw[show(33:Int).toNat.toUInt8=33 from rfl,ze.o])))
      | (go_at_call 29;rw[FN.o];((with_reducible refine(yt _ _ ?_).mono ?_);(first|omega|skip);rintro e w2 ⟨rfl,rfl⟩;rw[HB.o,hn'])))
     go_ret;exact⟨grownBy.dP (grownBy.dP (grownBy.dH _ _) _ _) _ _,.inr ⟨bO.o,rfl⟩⟩
theorem O4 (b g n:Nat)(f:Nat→FuncId)(run:Nat→Rd→Option Rd)(w:World)(_hn:n≤100)(hgb:g≠b)(hg:g<w.heap.size)
 (vY:∀j,j<n→∀args (v:World),(callFunc (f j) args).run Tryz.prog v = .ok (.enter (f j) args) v)
 (hcell:∀j,j<n→w.cell? ⟨g,j,none⟩=some (.func (.func (f j)) #[.pointer (some ⟨b,0,none⟩)] #[]))
 (P:Nat→Rd→Prop) (d:Rd) (h0:P 0 d) (hr:aT w b d)
 (wh:∀j,j<n→∀d (w:World),P j d→aT w b d→(∀d',run j d=some d'→P (j+1) d')∧Calls Tryz.prog (f j) #[.pointer (some ⟨b,0,none⟩)] w (Part (run j d) b w))
 (o:Option Rd) (mo:∀d',P n d'→o=some d') (uL:∀j d',j<n→P j d'→run j d'=none→o=none) :
 Calls Tryz.prog 190 #[.slice (some ⟨g,0,none⟩) n n] w (Part o b w):=by
 have HC:=ae vY;clear vY;have HL:=ae hcell;clear hcell;have HS:=ae wh;clear wh;have HE:=ae mo;clear mo;have HB:=ae uL;clear uL;have H0:=ae h0;clear h0;have HR:=ae hr;clear hr;go_enter Tryz.func190,Tryz.ntmps190;go_wp2_with fail
 go_loopw [7] (fun i wr=>∃(j:Nat)(d:Rd),i = .int .i64 j∧j≤n∧Hid (P j d)∧Hid (aT wr b d)∧Hid (w.grownBy wr (some b)))
  (fun i _=>n - (intOf i).toNat)
 case atStart=>exact⟨0,d,rfl,by omega,H0,HR,ae (grownBy.dH _ _)⟩
 case round =>
  obtain⟨j,d,rfl,hj,HP,bX,HG⟩:=hrel;by_cases hlt:j<n
  · have hji:(j:Int)<(n:Int):=by omega
    have hce:wr.cell? ⟨g,j,none⟩=some (.func (.func (f j)) #[.pointer (some ⟨b,0,none⟩)] #[]):=by
     rw[H7 HG.o (by exact hg) (by intro h;exact hgb (dV h))];exact HL.o j hlt
    have Dm:=HC.o j hlt;obtain⟨fj,hfj⟩:∃fj,f j=fj:=⟨_,rfl⟩;rw[hfj]at hce Dm;have FX:=ae hfj;clear hfj;cases hq:run j d with
    | some d' =>
      have HQ:=ae hq;clear hq;go_wp2_with fail
      have hs:=HS.o j hlt d wr HP.o bX.o;rw[FX.o,HQ.o]at hs;have iW:=ae (hs.1 d' rfl);refine hs.2.mono ?_;rintro e w1 ⟨hg1,⟨d2,h1,rfl,h3⟩|⟨h1,_⟩⟩
      · injection h1 with h1;subst h1
        have j3:=ae (grownBy.trans' HG.o hg1);clear hg1;have HR1:=ae h3;clear h3;clear hs;go_wp2_with fail
        go_roundw
        case rel=>exact⟨j+1,d',by go_num,by omega,iW,HR1,j3⟩
        case measure=>simp[intOf];omega
      · cases h1
    | none =>
      have HQ:=ae hq;clear hq;go_wp2_with fail
      have hs:=HS.o j hlt d wr HP.o bX.o;rw[FX.o,HQ.o]at hs;refine hs.2.mono ?_;rintro e w1 ⟨hg1,⟨d2,h1,_,_⟩|⟨_,rfl⟩⟩
      · cases h1
      · have j3:=ae (grownBy.trans' HG.o hg1);clear hg1
        clear hs;go_wp2_with fail
        go_ret;exact⟨j3.o,.inr ⟨HB.o j d hlt HP.o HQ.o,rfl⟩⟩
  · have hji:¬ (j:Int)<(n:Int):=by omega
    have hjn:j=n:=by omega
    have hen:=HE.o d (by rw[← hjn];exact HP.o);have Bz:=ae hen;clear hen hjn;go_wp2_with fail
    go_ret;exact⟨HG.o,.inl ⟨d,Bz.o,rfl,bX.o⟩⟩
def chain (run:Nat→Rd→Option Rd)(d:Rd):Nat→Option Rd
 | 0=>some d
 | j+1=>(chain run d j).bind (run j)
theorem Ie (run:Nat→Rd→Option Rd)(d:Rd)(j:Nat)(h:chain run d j=none):∀m,chain run d (j+m)=none
 | 0=>h
 | m+1=>by show(chain run d (j+m)).bind (run (j+m))=none;rw[Ie run d j h m];rfl
def sH(f:Rd→Option Rd):Prop:=∀d d',d.k≤d.s.size→f d=some d'→d'.s=d.s∧d'.k≤d.s.size
theorem TR:sH Rd.lT:=by
 intro d d' hk h;unfold Rd.lT at h;by_cases h1:d.bG.length=d.s.size
 · rw[ah h1]at h;injection h with h;subst h;exact⟨rfl,hk⟩
 · rw[af h1]at h
   have:=LY d h1;by_cases h2:fe d.bG=true
   · rw[ah h2]at h;injection h with h;subst h;exact⟨rfl,this⟩
   · rw[af h2]at h;cases h
theorem KE (d:Rd)(hk:d.k≤d.s.size):d.k+(cZ d.mark).length≤d.s.size:=by
 have h1:=congrArg List.length (El d);rw[ax,tC]at h1;omega
theorem TL:sH Rd.uC:=by
 intro d d' hk h;unfold Rd.uC at h;injection h with h;subst h;exact⟨rfl,KE d hk⟩
theorem TM:sH Rd.uD:=by
 intro d d' hk h;unfold Rd.uD at h;injection h with h;subst h;exact⟨rfl,KE d hk⟩
theorem Mm (p:Int→Bool)(d:Rd)(hk:d.k≤d.s.size):d.k+(d.rest.takeWhile p).length≤d.s.size:=by
 have h1:=congrArg List.length (take_split p d.rest);rw[ax,tC]at h1;omega
theorem TN:sH Rd.col:=by
 intro d d' hk h;unfold Rd.col at h;by_cases h2:jl (d.rest.takeWhile aP)=true
 · rw[ah h2]at h;injection h with h;subst h;exact⟨rfl,Mm aP d hk⟩
 · rw[af h2]at h;cases h
theorem TQ:sH Rd.row:=by
 intro d d' hk h;unfold Rd.row at h;by_cases h2:isRow (d.rest.takeWhile isNum)=true
 · rw[ah h2]at h;injection h with h;subst h;exact⟨rfl,Mm isNum d hk⟩
 · rw[af h2]at h;cases h
theorem TP:sH Rd.fin:=by
 intro d d' hk h;unfold Rd.fin at h;by_cases h2:d.k=d.s.size
 · rw[ah h2]at h;injection h with h;subst h;exact⟨rfl,hk⟩
 · rw[af h2]at h;cases h
theorem O5 (b g n:Nat)(f:Nat→FuncId)(run:Nat→Rd→Option Rd)(w:World)(hn:n≤100)(hgb:g≠b)(hg:g<w.heap.size)
 (vY:∀j,j<n→∀args (v:World),(callFunc (f j) args).run Tryz.prog v = .ok (.enter (f j) args) v)
 (hcell:∀j,j<n→w.cell? ⟨g,j,none⟩=some (.func (.func (f j)) #[.pointer (some ⟨b,0,none⟩)] #[]))
 (d:Rd) (hr:aT w b d) (hs:d.s.size≤1000000) (hk:d.k≤d.s.size)
 (Dw:∀j,j<n→sH (run j))
 (DR:∀j,j<n→∀d (w:World),aT w b d→d.s.size≤1000000→d.k≤d.s.size→Calls Tryz.prog (f j) #[.pointer (some ⟨b,0,none⟩)] w (Part (run j d) b w)) :
 Calls Tryz.prog 190 #[.slice (some ⟨g,0,none⟩) n n] w (Part (chain run d n) b w):=by
 refine O4 b g n f run w hn hgb hg vY hcell (fun j e=>chain run d j=some e∧e.s=d.s∧e.k≤d.s.size) d ⟨rfl,rfl,hk⟩ hr ?_ _ ?_ ?_
 · rintro j hj e v ⟨h1,h2,h3⟩ ky
   refine⟨?_,DR j hj e v ky (by rw[h2];exact hs) (by rw[h2];exact h3)⟩;intro e' he';obtain⟨k1,k2⟩:=Dw j hj e e' (by rw[h2];exact h3) he';refine⟨?_,by rw[k1,h2],by rw[← h2];exact k2⟩;show(chain run d j).bind (run j)=some e';rw[h1];exact he'
 · rintro e ⟨h1,_,_⟩;exact h1
 · rintro j e hj ⟨h1,_,_⟩ h2
   have h3:chain run d (j+1)=none:=by show(chain run d j).bind (run j)=none;rw[h1];exact h2
   have:=Ie run d (j+1) h3 (n - (j+1));rw[show j+1+(n - (j+1))=n from by omega]at this;exact this
theorem xI {w w1 w2:World}{r B:Nat}(hb:Below B w w1)(h:w1.grownBy w2 (some r))(hB:B≤w1.heap.size)(hr:B≤r):Below B w w2 :=
 hb.grown h hB (fun k hk=>by cases hk;exact hr)
theorem qA(fn:Fn)(first cap:Array Value)(w:World):(Instr.makeFunc fn first cap).run Tryz.prog w = .ok (.func fn first cap) w:=rfl
def wR(s:ByteArray)(w:World):World:=w.alloc (.cells #[.string s,.int .i64 0,.string ⟨#[]⟩,.int .i64 0,.int .i64 0,.bool false,.bool false] 245)
def mv(f:FuncId)(b:Nat):Value := .func (.func f) #[.pointer (some ⟨b,0,none⟩)] #[]
def uf(s:ByteArray)(l:Array Value)(w:World):World:=(wR s w).alloc (.cells l 25)
theorem EP(s:ByteArray)(w:World):(wR s w).heap.size=w.heap.size+1:=by unfold wR;simp
theorem Md(s:ByteArray)(l:Array Value)(w:World):(uf s l w).heap.size=w.heap.size+1+1:=by unfold uf;rw[← EP s w];simp
theorem Xi (s:ByteArray)(l:Array Value)(w:World):aT (uf s l w) w.heap.size (Rd.start s):=by
 have h:aT (wR s w) w.heap.size (Rd.start s):=(gV w _).1;exact h.below ((ak _ _).alloc (aj _) _) h.lt
theorem PL(s:ByteArray)(l:Array Value)(w:World):Below w.heap.size w (uf s l w):=((ak _ _).alloc (aj _) _).alloc (by have:=EP s w;unfold wR at this;omega) _
theorem Qb (s:ByteArray)(l:Array Value)(w:World)(L:List Value)(hl:l.toList=L)(j:Nat)(u:Value)(hj:L[j]? = some u):(uf s l w).cell? ⟨w.heap.size+1,j,none⟩=some u:=by
 have h:=iH (w:=wR s w) l 25 L hl j u hj;rw[Addr.add_mid,Nat.zero_add,EP]at h;exact h
theorem O6 (n:Nat)(f:Nat→FuncId)(run:Nat→Rd→Option Rd)(s:ByteArray)(w:World)(l:Array Value)(L:List Value)(hl:l.toList=L)(hn:n≤100)(hs:s.size≤1000000)
 (vY:∀j,j<n→∀args (v:World),(callFunc (f j) args).run Tryz.prog v = .ok (.enter (f j) args) v)
 (hL:∀j,j<n→L[j]? = some (mv (f j) w.heap.size))
 (Dw:∀j,j<n→sH (run j))
 (DR:∀j,j<n→∀b d (w:World),aT w b d→d.s.size≤1000000→d.k≤d.s.size→Calls Tryz.prog (f j) #[.pointer (some ⟨b,0,none⟩)] w (Part (run j d) b w)) :
 Calls Tryz.prog 190 #[.slice (some ⟨w.heap.size+1,0,none⟩) n n] (uf s l w) fun e w'=>Below w.heap.size w w'∧((∃d',chain run (Rd.start s) n=some d'∧e = .returned (.bool true)∧aT w' w.heap.size d')∨(chain run (Rd.start s) n=none∧e = .returned (.bool false))):=by
 refine(O5 w.heap.size (w.heap.size+1) n f run (uf s l w) hn (by omega) (by rw[Md];omega) vY (fun j hj=>Qb s l w L hl j _ (hL j hj)) (Rd.start s) (Xi s l w) hs (bA _) Dw (fun j hj d v=>DR j hj w.heap.size d v)).mono ?_;rintro e w' ⟨h1,h2⟩;exact⟨xI (PL s l w) h1 (by rw[Md];omega) (aj _),h2⟩
theorem QS:∀args (v:World),(callFunc 193 args).run Tryz.prog v = .ok (.enter 193 args) v:=Go.Proofs.enters_of Tryz.func193 (by kernel_rfl) rfl
theorem QT:∀args (v:World),(callFunc 196 args).run Tryz.prog v = .ok (.enter 196 args) v:=Go.Proofs.enters_of Tryz.func196 (by kernel_rfl) rfl
theorem QW:∀args (v:World),(callFunc 191 args).run Tryz.prog v = .ok (.enter 191 args) v:=Go.Proofs.enters_of Tryz.func191 (by kernel_rfl) rfl
theorem QQ:∀args (v:World),(callFunc 192 args).run Tryz.prog v = .ok (.enter 192 args) v:=Go.Proofs.enters_of Tryz.func192 (by kernel_rfl) rfl
theorem QR:∀args (v:World),(callFunc 194 args).run Tryz.prog v = .ok (.enter 194 args) v:=Go.Proofs.enters_of Tryz.func194 (by kernel_rfl) rfl
theorem QV:∀args (v:World),(callFunc 195 args).run Tryz.prog v = .ok (.enter 195 args) v:=Go.Proofs.enters_of Tryz.func195 (by kernel_rfl) rfl
def Xp:Nat→Rd→Option Rd
 | 0=>Rd.lT
 | 1=>Rd.uC
 | 2=>Rd.col
 | 3=>Rd.uD
 | 4=>Rd.row
 | _=>Rd.fin
def Xl:Nat→FuncId
 | 0=>191
 | 1=>192
 | 2=>193
 | 3=>194
 | 4=>195
 | _=>196
theorem Xq (s:ByteArray)(w:World)(hs:s.size≤1000000) :
 Calls Tryz.prog 190 #[.slice (some ⟨w.heap.size+1,0,none⟩) 6 6] (uf s #[mv 191 w.heap.size,mv 192 w.heap.size,mv 193 w.heap.size,mv 194 w.heap.size,mv 195 w.heap.size,mv 196 w.heap.size] w) fun e w'=>Below w.heap.size w w'∧((∃d',gQ s=some d'∧e = .returned (.bool true)∧aT w' w.heap.size d')∨(gQ s=none∧e = .returned (.bool false))):=by
 refine O6 6 Xl Xp s w _ _ rfl (by omega) hs ?_ ?_ ?_ ?_
 · intro j hj
   match j,hj with
   | 0,_=>exact QW
   | 1,_=>exact QQ
   | 2,_=>exact QS
   | 3,_=>exact QR
   | 4,_=>exact QV
   | 5,_=>exact QT
 · intro j hj
   match j,hj with
   | 0,_=>rfl
   | 1,_=>rfl
   | 2,_=>rfl
   | 3,_=>rfl
   | 4,_=>rfl
   | 5,_=>rfl
 · intro j hj
   match j,hj with
   | 0,_=>exact TR
   | 1,_=>exact TL
   | 2,_=>exact TN
   | 3,_=>exact TM
   | 4,_=>exact TQ
   | 5,_=>exact TP
 · intro j hj b d v h1 h2 h3
   match j,hj with
   | 0,_=>exact Yo b d v h1 h2
   | 1,_=>exact OW b d v h1 h2 h3
   | 2,_=>exact Qw b d v h1 h2 h3
   | 3,_=>exact OX b d v h1 h2 h3
   | 4,_=>exact XG b d v h1 h2 h3
   | 5,_=>exact Rt b d v h1 h2 h3
theorem Ho {w w1:World}{a0 a1 a2 a3 a4:Value}(h:Below w.heap.size w w1):Below w.heap.size w (((((w1.setCell ⟨w.heap.size,0,none⟩ a0).setCell ⟨w.heap.size,1,none⟩ a1).setCell ⟨w.heap.size,2,none⟩ a2).setCell ⟨w.heap.size,3,none⟩ a3).setCell ⟨w.heap.size,4,none⟩ a4) :=
 ((((h.setCell (aj _) _).setCell (aj _) _).setCell (aj _) _).setCell (aj _) _).setCell (aj _) _
theorem Lm (s:ByteArray)(w:World)(_hs:s.size≤1000000) :
 Calls Tryz.prog 177 #[.string s] w fun e w'=>sI (sb s) e∧Below w.heap.size w w':=by
 have qA:=qA;have aV:=Xq s (w.alloc (.cells #[.string ⟨#[]⟩,.int .i64 0,.int .i64 0,.bool false,.bool false] 104)) _hs;have hsz:(w.alloc (.cells #[.string ⟨#[]⟩,.int .i64 0,.int .i64 0,.bool false,.bool false] 104)).heap.size=w.heap.size+1:=by simp
 have hr0:=fV.new w ⟨#[]⟩ 0 0 false false;have hb0:Below w.heap.size w (w.alloc (.cells #[.string ⟨#[]⟩,.int .i64 0,.int .i64 0,.bool false,.bool false] 104)):=(ak _ _).alloc (aj _) _;rw[hsz]at aV;have lC:=ae aV;clear aV;have HR:=ae hr0;clear hr0;have HB0:=ae hb0;clear hb0;have nO:=ae hsz;clear hsz;go_enter Tryz.func177,Tryz.ntmps177;go_wp2_with fail
 refine lC.o.mono ?_;rintro e w1 ⟨hb,⟨d',h1,rfl,h3⟩|⟨h1,rfl⟩⟩
 · have hr1:=HR.o.below hb (by omega)
   obtain⟨x0,x1,x2,x3,x4⟩:=hr1.facts;have f0:=frozen_of_row w1 w.heap.size 0 _ _ hr1;have f1:=frozen_of_row w1 w.heap.size 1 _ _ hr1;have f2:=frozen_of_row w1 w.heap.size 2 _ _ hr1;have f3:=frozen_of_row w1 w.heap.size 3 _ _ hr1;have f4:=frozen_of_row w1 w.heap.size 4 _ _ hr1;have hB:=HB0.o.trans (hb.mono (by omega));obtain⟨c0,c1,c2,c3,c4,c5,c6⟩:=h3.facts;clear c0 c1;have H1:=ae h1;clear h1;have H3:=ae h3;clear h3;have HB:=ae hB;clear hB hb;have HR1:=ae hr1;clear hr1;go_wp2_with fail
   obtain⟨r1,r2,r3⟩:=tN s d' H1.o
   (try simp only[Exit.inBlock,Exit.then])
   refine bodyPost_ret (v := .tuple #[.agg #[.string d'.sh,.int .i64 d'.c,.int .i64 d'.r,.bool d'.ac,.bool d'.ar],.bool true]) ?_ rfl ⟨.inl ⟨d'.sh,d'.c,d'.r,d'.ac,d'.ar,r1,r2,r3,rfl⟩, ?_⟩
   · rw[results_cell_tmp rfl]
     go_simp
   · exact Ho HB.o
 · have hr1:=HR.o.below hb (by omega)
   obtain⟨x0,x1,x2,x3,x4⟩:=hr1.facts;have f0:=frozen_of_row w1 w.heap.size 0 _ _ hr1;have f1:=frozen_of_row w1 w.heap.size 1 _ _ hr1;have f2:=frozen_of_row w1 w.heap.size 2 _ _ hr1;have f3:=frozen_of_row w1 w.heap.size 3 _ _ hr1;have f4:=frozen_of_row w1 w.heap.size 4 _ _ hr1;have hB:=HB0.o.trans (hb.mono (by omega));have H1:=ae h1;clear h1;have HB:=ae hB;clear hB hb;have HR1:=ae hr1;clear hr1;go_wp2_with fail
   have r1:=EC s H1.o
   (try simp only[Exit.inBlock,Exit.then])
   refine bodyPost_ret (v := .tuple #[.agg #[.string ⟨#[]⟩,.int .i64 0,.int .i64 0,.bool false,.bool false],.bool false]) ?_ rfl ⟨.inr ⟨r1,rfl⟩, ?_⟩
   · rw[results_cell_tmp rfl]
     go_simp
   · exact Ho HB.o
theorem Ls:Tryz.f147.results=#[.cell 2 130,.tmp 3]:=by kernel_rfl
theorem EG:Tryz.f149.results=#[.cell 2 130,.tmp 3]:=by kernel_rfl
theorem grownBy.Hm{w w':World}{b:Nat}(h:Below w.heap.size w w'):w.grownBy w' (some b):=grownBy.below' (grownBy.dH _ _) h
theorem wC(w:World)(b:Nat):w.grownBy (w.alloc (.cells qf 130)) (some b):=grownBy.Hm ((ak _ _).alloc (aj _) _)
theorem aQ.tok{w:World}{b:Nat}{s:ByteArray}{k:Nat}(h:aQ w b s k):aQ (w.alloc (.cells qf 130)) b s k:=h.below ((ak _ _).alloc (aj _) _) h.lt
theorem XW:sb ⟨#[35,82,69,70,33]⟩=[35,82,69,70,33]:=by decide
theorem QJ (b:Nat)(s:ByteArray)(k:Nat)(w:World)(h:aQ w b s k)(_hs:s.size≤1000000)(_hk:k<s.size) :
 Calls Tryz.prog 147 #[.pointer (some ⟨b,0,none⟩)] w (kS (mY (aD s k)) b s k w):=by
 have hlt:=h.lt;have hw0:w.heap.size≠b:=by omega
 have hT:=Mw b s ⟨#[35,82,69,70,33]⟩ k _ h.tok _hs (by omega) (by decide);rw[XW]at hT;have dJ:=ae (wC w b);have cO:=ae (aC.zero w)
 have hN:mY (aD s k)=if gM [35,82,69,70,33] (aD s k)=true then some ({ ai.zero with kind:=6 },5)else none:=by
  unfold mY gM;simp
 cases hq:gM [35,82,69,70,33] (aD s k)
 · rw [hq]at hN hT
   have HN:=ae hN;clear hN;have HT:=ae hT;clear hT h;go_enter Tryz.func147,Tryz.ntmps147
   go_wp2_with (first
    | (go_at_call 174;((with_reducible refine HT.o.mono ?_);rintro e w1 ⟨h1,rfl,h2⟩;have H1:=ae h1;have H2:=ae h2;clear h1 h2;have HT2:=ae (cO.o.grown H1.o hw0);obtain⟨x0,x1,x2,x3,x4,x5,x6,x7,aY⟩:=HT2.o.cells;obtain⟨f0,f1,f2,f3,f4,f5,f6,f7,f8⟩:=HT2.o.dM)))
   exact bodyPost_ret (lg (HT2.o.ll { ai.zero with kind:=6 }) _ _ false 2 3 Ls rfl rfl) rfl ⟨grownBy.gT (grownBy.trans' dJ.o H1.o) (aj _) _ _ _ _ _ _ _ _ _,.inr ⟨HN.o,{ ai.zero with kind:=6 },rfl⟩⟩
 · rw [hq]at hN hT
   have HN:=ae hN;clear hN;have HT:=ae hT;clear hT h;go_enter Tryz.func147,Tryz.ntmps147
   go_wp2_with (first
    | (go_at_call 174;((with_reducible refine HT.o.mono ?_);rintro e w1 ⟨h1,rfl,h2⟩;have H1:=ae h1;have H2:=ae h2;clear h1 h2;have HT2:=ae (cO.o.grown H1.o hw0);obtain⟨x0,x1,x2,x3,x4,x5,x6,x7,aY⟩:=HT2.o.cells;obtain⟨f0,f1,f2,f3,f4,f5,f6,f7,f8⟩:=HT2.o.dM)))
   exact bodyPost_ret (lg (HT2.o.ll { ai.zero with kind:=6 }) _ _ true 2 3 Ls rfl rfl) rfl ⟨grownBy.gT (grownBy.trans' dJ.o H1.o) (aj _) _ _ _ _ _ _ _ _ _,.inl ⟨_,_,HN.o,rfl,H2.o.gT hw0 _ _ _ _ _ _ _ _ _⟩⟩
theorem XT {s:ByteArray}{d:Rd}(h:gQ s=some d){e:Ending}(he:sI (sb s) e):e = .returned (.tuple #[.agg #[.string d.sh,.int .i64 d.c,.int .i64 d.r,.bool d.ac,.bool d.ar],.bool true]):=by
 obtain⟨_,h2,h3⟩:=tN s d h;refine sI.text h2 ?_;rw[h3,oH];exact he
theorem XR {s:ByteArray}(h:gQ s=none){e:Ending}(he:sI (sb s) e):e = .returned (.tuple #[.agg #[.string ⟨#[]⟩,.int .i64 0,.int .i64 0,.bool false,.bool false],.bool false]):=by
 rcases he with ⟨_,_,_,_,_,_,h2,h3,_⟩|⟨_,rfl⟩
 · exact absurd h3 (EC s h _ _ _ _ _ h2)
 · rfl
theorem Vv {l:List Int}{x:Int}(h0:l.head? = some x)(hx:kz x=true):rQ l=jG l:=by
 cases l with
 | nil=>simp at h0
 | cons y m =>
   simp at h0;subst h0;unfold rQ jG;rw[Bool.eq_iff_iff];simp only[bu,aA,List.getD_cons_zero];constructor
   · rintro ⟨h1,h2⟩
     refine⟨h1,⟨by simp,h2⟩, ?_⟩;have:=h1 y (by simp);rw[Bool.or_eq_true]at this;rcases this with h|h
     · exact h
     · exfalso
       unfold kz isLet at hx;unfold isNum at h;simp only[Bool.or_eq_true,aA]at hx h;omega
   · rintro⟨h1,⟨_,h2⟩,_⟩
     exact⟨h1,h2⟩
theorem Z8 (l ds:List Int)(h:l.takeWhile isWord=ds):lq l=match gQ (strOfNums ds)with
 | some d=>some ({ ai.zero with kind:=4,sh:=d.sh,c:=d.c,r:=d.r,ac:=d.ac,ar:=d.ar },ds.length)
 | none=>if jG ds=true then some ({ ai.zero with kind:=3,text:=strOfNums ds },ds.length)else none:=by subst h;rfl
theorem Z0 (b:Nat)(s:ByteArray)(k:Nat)(w:World)(h:aQ w b s k)(_hs:s.size≤1000000)(_hk:k<s.size)(hd:kz ((s[k].toNat:Nat):Int)=true) :
 Calls Tryz.prog 149 #[.pointer (some ⟨b,0,none⟩)] w (kS (lq (aD s k)) b s k w):=by
 have hlt:=h.lt;have hw0:w.heap.size≠b:=by omega
 obtain⟨ds,hds⟩:∃ds,(aD s k).takeWhile isWord=ds:=⟨_,rfl⟩;obtain⟨D,hD⟩:∃D,strOfNums ds=D:=⟨_,rfl⟩;have hbd:Bytes ds:=fun x hx=>Lv s k x (by rw[← hds]at hx;exact(List.takeWhile_prefix _).subset hx)
 have og:sb D=ds:=by rw[← hD];exact iJ ds hbd
 have Td:D.size=ds.length:=by rw[← bn,og]
 have hlen:ds.length≤s.size:=by rw[← hds];have h0:=vB isWord (aD s k);rw[ng]at h0;omega
 have hW:=(ZX b s k _ h.tok _hs (by omega)).mono (R':=fun e w'=>(w.alloc (.cells qf 130)).grownBy w' (some b)∧e = .returned (.string D)∧aQ w' b s (k+ds.length)) (fun e w' ⟨x1,x2,x3⟩=>⟨x1,by rw[x2,hds,hD],by rw[hds]at x3;exact x3⟩);have HW:=ae hW;clear hW h;have dJ:=ae (wC w b);have cO:=ae (aC.zero w);have hN:=Z8 (aD s k) ds hds;rw[hD]at hN
 have hhd:ds.head? = some ((s[k].toNat:Nat):Int):=by
  have h0:=wL s k 0 (by omega);rw[← hds];cases hr:aD s k with
  | nil=>rw[hr]at h0;simp at h0
  | cons x l =>
    rw[hr]at h0;simp at h0;have hwd:isWord x=true:=by rw[Ai,h0,hd];rfl
    rw[List.takeWhile_cons,hwd];simp[h0]
 rw[← Vv hhd hd]at hN;have hmx:D.size≤1000000:=by omega
 clear hhd hd hbd hds hlen hD;cases hq:gQ D with
 | some d =>
   rw[hq]at hN;have HN:=ae hN;clear hN;have hsz:d.sh.size≤12:=(tN D d hq).1;have Ck:=ae (fun (e:Ending)(he:sI (sb D) e)=>XT hq he);clear hq og;go_enter Tryz.func149,Tryz.ntmps149
   go_upto_region 4 with (first
    | (go_at_call 111;((with_reducible refine HW.o.mono ?_);rintro e w1 ⟨h1,rfl,h2⟩;have H1:=ae h1;have H2:=ae h2;clear h1 h2))
    | (go_at_call 177;((with_reducible refine(Lm D _ ?_).mono ?_);(first|omega|skip);rintro e w2 ⟨h1,h2⟩;obtain rfl:=Ck.o e h1;clear h1;have H3:=ae h2;clear h2;have HL2:=ae (H2.o.below H3.o H2.o.lt);have HT2:=ae ((cO.o.grown H1.o hw0).below H3.o (cO.o.grown H1.o hw0).lt);have kX:=HT2.o.lt;have uQ:w.heap.size≠w2.heap.size:=Nat.ne_of_lt kX;obtain⟨x0,x1,x2,x3,x4,x5,x6,x7,aY⟩:=HT2.o.cells;obtain⟨f0,f1,f2,f3,f4,f5,f6,f7,f8⟩:=HT2.o.dM)))
   have Dh:=fV.new w2 d.sh d.c d.r d.ac d.ar;have hB3:Below w2.heap.size w2 (w2.alloc (.cells #[.string d.sh,.int .i64 d.c,.int .i64 d.r,.bool d.ac,.bool d.ar] 104)):=(ak _ _).alloc (aj _) _;have sw:=ae (HL2.o.below hB3 HL2.o.lt);have HT3:=ae (HT2.o.below hB3 HT2.o.lt);have fT:=ae (grownBy.below' (grownBy.below' (grownBy.trans' dJ.o H1.o) H3.o) hB3);clear x0 x1 x2 x3 x4 x5 x6 x7 aY f0 f1 f2 f3 f4 f5 f6 f7 f8 hB3;generalize w2.alloc (.cells #[.string d.sh,.int .i64 d.c,.int .i64 d.r,.bool d.ac,.bool d.ar] 104)=w3 at Dh sw HT3 fT ⊢;obtain⟨x0,x1,x2,x3,x4,x5,x6,x7,aY⟩:=HT3.o.cells;obtain⟨f0,f1,f2,f3,f4,f5,f6,f7,f8⟩:=HT3.o.dM;obtain⟨y0,y1,y2,y3,y4⟩:=Dh.facts;clear Dh;go_wp2_with fail
   exact bodyPost_ret (lg (HT3.o.ll { ai.zero with kind:=4,sh:=d.sh,c:=d.c,r:=d.r,ac:=d.ac,ar:=d.ar }) _ _ true 2 3 EG rfl rfl) rfl ⟨grownBy.gT fT.o (aj _) _ _ _ _ _ _ _ _ _,.inl ⟨_,_,HN.o,rfl,sw.o.gT hw0 _ _ _ _ _ _ _ _ _⟩⟩
 | none =>
   rw[hq]at hN;have Ck:=ae (fun (e:Ending)(he:sI (sb D) e)=>XR hq he);clear hq;cases hnm:rQ ds
   all_goals
    rw[hnm]at hN;have HN:=ae hN;clear hN;have zi:=ae (show rQ (sb D)=_ by rw[og,hnm]);clear hnm og;go_enter Tryz.func149,Tryz.ntmps149
    go_upto_region 5 with (first
     | (go_at_call 111;((with_reducible refine HW.o.mono ?_);rintro e w1 ⟨h1,rfl,h2⟩;have H1:=ae h1;have H2:=ae h2;clear h1 h2))
     | (go_at_call 177;((with_reducible refine(Lm D _ ?_).mono ?_);(first|omega|skip);rintro e w2 ⟨h1,h2⟩;obtain rfl:=Ck.o e h1;clear h1;have H3:=ae h2;clear h2;have HL2:=ae (H2.o.below H3.o H2.o.lt);have HT2:=ae ((cO.o.grown H1.o hw0).below H3.o (cO.o.grown H1.o hw0).lt))))
    have hB3:Below w2.heap.size w2 (w2.alloc (.cells #[.string ⟨#[]⟩,.int .i64 0,.int .i64 0,.bool false,.bool false] 104)):=(ak _ _).alloc (aj _) _;have sw:=ae (HL2.o.below hB3 HL2.o.lt);have HT3:=ae (HT2.o.below hB3 HT2.o.lt);have fT:=ae (grownBy.below' (grownBy.below' (grownBy.trans' dJ.o H1.o) H3.o) hB3);clear hB3;generalize w2.alloc (.cells #[.string ⟨#[]⟩,.int .i64 0,.int .i64 0,.bool false,.bool false] 104)=w3 at sw HT3 fT ⊢;obtain⟨x0,x1,x2,x3,x4,x5,x6,x7,aY⟩:=HT3.o.cells;obtain⟨f0,f1,f2,f3,f4,f5,f6,f7,f8⟩:=HT3.o.dM;go_wp2_with (go_at_call 178;((with_reducible refine(TB D _ ?_).mono ?_);(first|omega|skip);rintro e w4 ⟨rfl,rfl⟩;rw[zi.o]))
   · exact bodyPost_ret (lg (HT3.o.ll { ai.zero with kind:=3,text:=D }) _ _ false 2 3 EG rfl rfl) rfl ⟨grownBy.gT fT.o (aj _) _ _ _ _ _ _ _ _ _,.inr ⟨HN.o,{ ai.zero with kind:=3,text:=D },rfl⟩⟩
   · exact bodyPost_ret (lg (HT3.o.ll { ai.zero with kind:=3,text:=D }) _ _ true 2 3 EG rfl rfl) rfl ⟨grownBy.gT fT.o (aj _) _ _ _ _ _ _ _ _ _,.inl ⟨_,_,HN.o,rfl,sw.o.gT hw0 _ _ _ _ _ _ _ _ _⟩⟩
theorem XM {P:Program}{w:World}(t e:TypeId)(n:Nat)(cs:Array Value)(k:Nat)(v:Value)(d:TypeDesc)(h:P.underlying t=some (.array n e))(he:P.underlying e=some d)(hd:(match d with | .struct _ | .array _ _=>true|_=>false)=false)
 (hsz:(P.info? e).map (·.size)=some 1) (hk:k<n) (hv:cs[k]? = some v):(Instr.index t (.agg cs) (.int .i64 (k:Int))).run P w = .ok v w:=by
 have h1:(0:Int)≤(k:Int)∧(k:Int)<(n:Int):=by omega
 cases hq:P.info? e with
 | none=>simp[hq]at hsz
 | some i =>
   have hs':i.size=1:=by simp[hq]at hsz;exact hsz
   simp[Instr.index,run_underlying h,asIntOf,h1,sizeOf,typeInfo,hq,hs',part,isAgg,run_underlying he,hv,go_sem];cases d <;> simp_all
theorem Nf {P:Program}{ops:Array Oper}{rest:List Oper}{op:Oper}{a:Act}{w:World}{Q:Exit→Act→World→Prop}(hgd:op.guard=none)(t e:TypeId)(n:Nat)(x y:Operand)(ho:op.op = .index t x y)
 (cs:Array Value) (k:Nat) (v:Value) (d:TypeDesc) (h:P.underlying t=some (.array n e)) (he:P.underlying e=some d) (hd:(match d with | .struct _ | .array _ _=>true|_=>false)=false)
 (hsz:(P.info? e).map (·.size)=some 1) (hx:a.eval x = .agg cs) (hy:a.eval y = .int .i64 (k:Int)) (hk:k<n) (hv:cs[k]? = some v)
 (hh:wpList P ops Q rest (a.put op.dst v) w):wpList P ops Q (op :: rest) a w :=
 wpList_plain hgd fun _ hK=>by
  unfold Oper.wp execOp;simp only[ho,hx,hy,Sem.run_bind,Sem.run_pure,Result.andThen_ok,XM t e n cs k v d h he hd hsz hk hv];exact hK _ _ hh
def jR:List (List Int):=[[60,62],[60,61],[62,61],[43],[45],[42],[47],[38],[61],[60],[62],[40],[41],[44],[58]]
def L9:List ByteArray:=[⟨#[60,62]⟩,⟨#[60,61]⟩,⟨#[62,61]⟩,⟨#[43]⟩,⟨#[45]⟩,⟨#[42]⟩,⟨#[47]⟩,⟨#[38]⟩,⟨#[61]⟩,⟨#[60]⟩,⟨#[62]⟩,⟨#[40]⟩,⟨#[41]⟩,⟨#[44]⟩,⟨#[58]⟩]
def tO:Array Value:=(L9.map Value.string).toArray
theorem Yw:∀j:Nat,j<15→∃t,L9[j]? = some t∧tO[j]? = some (.string t)∧sb t=jR.getD j []∧t.size≤2∧t=strOfNums (jR.getD j [])
 | 0,_=>⟨_,rfl,rfl,by decide,by decide,by decide +kernel⟩
 | 1,_=>⟨_,rfl,rfl,by decide,by decide,by decide +kernel⟩
 | 2,_=>⟨_,rfl,rfl,by decide,by decide,by decide +kernel⟩
 | 3,_=>⟨_,rfl,rfl,by decide,by decide,by decide +kernel⟩
 | 4,_=>⟨_,rfl,rfl,by decide,by decide,by decide +kernel⟩
 | 5,_=>⟨_,rfl,rfl,by decide,by decide,by decide +kernel⟩
 | 6,_=>⟨_,rfl,rfl,by decide,by decide,by decide +kernel⟩
 | 7,_=>⟨_,rfl,rfl,by decide,by decide,by decide +kernel⟩
 | 8,_=>⟨_,rfl,rfl,by decide,by decide,by decide +kernel⟩
 | 9,_=>⟨_,rfl,rfl,by decide,by decide,by decide +kernel⟩
 | 10,_=>⟨_,rfl,rfl,by decide,by decide,by decide +kernel⟩
 | 11,_=>⟨_,rfl,rfl,by decide,by decide,by decide +kernel⟩
 | 12,_=>⟨_,rfl,rfl,by decide,by decide,by decide +kernel⟩
 | 13,_=>⟨_,rfl,rfl,by decide,by decide,by decide +kernel⟩
 | 14,_=>⟨_,rfl,rfl,by decide,by decide,by decide +kernel⟩
 | j+15,h=>by omega
theorem xS (a b:Int)(l:List Int):gM [a,b] l=true↔l.head? = some a∧l.tail.head? = some b:=by
 unfold gM;rw[aA]
 match l with
 | []=>simp
 | [x]=>simp
 | x :: y :: m=>simp
theorem Jl (a:Int)(l:List Int):gM [a] l=true↔l.head? = some a:=by
 unfold gM;rw[aA]
 match l with
 | []=>simp
 | x :: m=>simp
theorem Yz:∀j:Nat,j<15→∀l:List Int,(∀q,q<j→gM (jR.getD q []) l=false)→gM (jR.getD j []) l=true→lU l=some ({ ai.zero with kind:=5,text:=strOfNums (jR.getD j []) },(jR.getD j []).length):=by
 intro j hj l hno iq
 have hlen:jv l=(jR.getD j []).length:=by
  have hn0:∀a b q,q<j→jR.getD q []=[a,b]→¬ (l.head? = some a∧l.tail.head? = some b):=by
   intro a b q hq he h;have:=hno q hq;rw[he,(xS a b l).2 h]at this;cases this
  cases l with
  | nil =>
    exfalso;have:∀j,j<15→jR.getD j []≠[]:=by decide
    unfold gM at iq;rw[aA,List.take_nil]at iq;exact this j hj iq.symm
  | cons x m =>
    rw[qa];simp only[List.head?_cons,List.tail_cons,aI]at hn0
    match j,hj with
    | 0,_=>obtain⟨h1,h2⟩:=(xS _ _ _).1 iq;simp at h1 h2;rw[ah (by left;exact⟨h1,.inl h2⟩)];rfl
    | 1,_=>obtain⟨h1,h2⟩:=(xS _ _ _).1 iq;simp at h1 h2;rw[ah (by left;exact⟨h1,.inr h2⟩)];rfl
    | 2,_=>obtain⟨h1,h2⟩:=(xS _ _ _).1 iq;simp at h1 h2;rw[ah (by right;exact⟨h1,h2⟩)];rfl
    | j + 3,hj =>
      have g0:=hn0 60 62 0 (by omega) rfl;have g1:=hn0 60 61 1 (by omega) rfl;have g2:=hn0 62 61 2 (by omega) rfl
      rw [af (by
       rintro(⟨h1,h2|h2⟩|⟨h1,h2⟩)
       · exact g0 ⟨h1,h2⟩
       · exact g1 ⟨h1,h2⟩
       · exact g2 ⟨h1,h2⟩)]
      have hx:∃a,jR.getD (j+3) []=[a]∧(a=43∨a=45∨a=42∨a=47∨a=38∨a=61∨a=60∨a=62∨a=40∨a=41∨a=44∨a=58):=by
       have:∀j,j<12→∃a,jR.getD (j+3) []=[a]∧(a=43∨a=45∨a=42∨a=47∨a=38∨a=61∨a=60∨a=62∨a=40∨a=41∨a=44∨a=58):=by
        intro j hj
        match j,hj with
        | 0,_=>exact⟨43,rfl,by omega⟩
        | 1,_=>exact⟨45,rfl,by omega⟩
        | 2,_=>exact⟨42,rfl,by omega⟩
        | 3,_=>exact⟨47,rfl,by omega⟩
        | 4,_=>exact⟨38,rfl,by omega⟩
        | 5,_=>exact⟨61,rfl,by omega⟩
        | 6,_=>exact⟨60,rfl,by omega⟩
        | 7,_=>exact⟨62,rfl,by omega⟩
        | 8,_=>exact⟨40,rfl,by omega⟩
        | 9,_=>exact⟨41,rfl,by omega⟩
        | 10,_=>exact⟨44,rfl,by omega⟩
        | 11,_=>exact⟨58,rfl,by omega⟩
        | j+12,h=>omega
       exact this j (by omega)
      obtain⟨a,ha,hor⟩:=hx;rw[ha]at iq ⊢;have h1:=(Jl _ _).1 iq;simp at h1;subst h1;rw[ah hor];rfl
 have jI:(jR.getD j []).length≠0:=by
  have:∀j,j<15→(jR.getD j []).length≠0:=by decide
  exact this j hj
 unfold lU;rw[hlen,af jI];unfold gM at iq;rw[aA]at iq;rw[iq]
theorem Yx (l:List Int)(hno:∀q,q<15→gM (jR.getD q []) l=false):lU l=none:=by
 have h2:∀a b q,q<15→jR.getD q []=[a,b]→¬ (l.head? = some a∧l.tail.head? = some b):=by
  intro a b q hq he h;have:=hno q hq;rw[he,(xS a b l).2 h]at this;cases this
 have h1:∀a q,q<15→jR.getD q []=[a]→¬ l.head? = some a:=by
  intro a q hq he h;have:=hno q hq;rw[he,(Jl a l).2 h]at this;cases this
 have hz:jv l=0:=by
  cases l with
  | nil=>rfl
  | cons x m =>
    rw[qa];simp only[List.head?_cons,List.tail_cons,aI]at h1 h2;have g0:=h2 60 62 0 (by omega) rfl;have g1:=h2 60 61 1 (by omega) rfl;have g2:=h2 62 61 2 (by omega) rfl;have k3:=h1 43 3 (by omega) rfl;have k4:=h1 45 4 (by omega) rfl;have k5:=h1 42 5 (by omega) rfl;have k6:=h1 47 6 (by omega) rfl;have k7:=h1 38 7 (by omega) rfl;have k8:=h1 61 8 (by omega) rfl;have k9:=h1 60 9 (by omega) rfl;have k10:=h1 62 10 (by omega) rfl;have k11:=h1 40 11 (by omega) rfl;have k12:=h1 41 12 (by omega) rfl;have k13:=h1 44 13 (by omega) rfl;have k14:=h1 58 14 (by omega) rfl
    rw [af (by
     rintro(⟨h1,h2|h2⟩|⟨h1,h2⟩)
     · exact g0 ⟨h1,h2⟩
     · exact g1 ⟨h1,h2⟩
     · exact g2 ⟨h1,h2⟩),af (by omega)]
 unfold lU;rw[ah hz]
def ql(w:World):Prop:=∃ty fr,w.heap[(1:Nat)]? = some (.cells tO ty fr)
theorem ql.lt{w:World}(h:ql w):1<w.heap.size:=by obtain⟨_,_,h⟩:=h;exact(cu.1 h).1
theorem ql.grown {w w':World}{b:Nat}(h:ql w)(hg:w.grownBy w' (some b))(hb:max 4 1<b):ql w':=by
 have h0:=h.lt;obtain⟨ty,fr,h1⟩:=h;exact⟨ty,fr,by rw[hg.block _ h0 (by intro e;have:=dV e;omega)];exact h1⟩
theorem ql.below {w w':World}(h:ql w)(hb:Below w.heap.size w w'):ql w':=by
 have h0:=h.lt;obtain⟨ty,fr,h1⟩:=h;exact⟨ty,fr,by rw[hb.block _ h0];exact h1⟩
theorem si.below{w w':World}(h:si w)(hb:Below w.heap.size w w'):si w':=h.grown (b:=w.heap.size+4+1) (grownBy.Hm hb) (by omega)
theorem Lt:Tryz.f150.results=#[.cell 2 130,.tmp 3]:=by kernel_rfl
theorem EN:Tryz.prog.underlying 229=some (.array 15 9):=Tryz.underlying229
theorem Yy:(Tryz.prog.info? 229).map (·.size)=some tO.size:=by kernel_rfl
theorem Ms:(Tryz.prog.info? 9).map (·.size)=some 1:=by kernel_rfl
theorem YC (b:Nat)(s:ByteArray)(k:Nat)(w:World)(h:aQ w b s k)(_hs:s.size≤1000000)(_hk:k<s.size)(hsv:ql w)(hb2:max 4 1<b) :
 Calls Tryz.prog 150 #[.pointer (some ⟨b,0,none⟩)] w (kS (lU (aD s k)) b s k w):=by
 have hlt:=h.lt;have hw0:w.heap.size≠b:=by omega
 obtain⟨ty,fr,jJ⟩:=hsv.grown (wC w b) hb2;clear hsv;have dJ:=ae (wC w b);have cO:=ae (aC.zero w);have zg:=ae h.tok;clear h;have uA:=ae jJ;clear jJ;go_enter Tryz.func150,Tryz.ntmps150;go_upto_region 1 with (fail)
 refine wp_region_lit ?_;refine wpList_load_row rfl 229 (.global 1) rfl 1 rfl ty tO fr _ uA.o EN rfl Yy ?_;go_wp2_with fail
 go_loopw [7] (fun i wr=>∃j:Nat,j≤15∧i = .int .i64 j∧Hid (∀q,q<j→gM (jR.getD q []) (aD s k)=false)∧Hid (aQ wr b s k)∧Hid ((w.alloc (.cells qf 130)).grownBy wr (some b)))
  (fun i _=>15 - (intOf i).toNat)
 case atStart=>exact⟨0,by omega,rfl,ae (by intro q hq;omega),zg,ae (grownBy.dH _ _)⟩
 case round =>
  obtain⟨j,hj,rfl,fo,HR,HG⟩:=hrel;by_cases hlt:j<15
  · have hji:(j:Int)<15:=by omega
    obtain⟨t,ht1,ht2,ht3,ht4,JK⟩:=Yw j hlt;have hT:=Mw b s t k wr HR.o _hs (by omega) (by omega);rw[ht3]at hT;have HT2:=ae ht2;have HT3:=ae ht3;have Ox:=ae JK;clear ht1 ht2 ht3 JK;cases hq:gM (jR.getD j []) (aD s k)
    · rw [hq]at hT
      have HT:=ae hT;have HQ:=ae hq;clear hT hq;go_upto_region 3 with (fail)
      refine wp_region_lit ?_;refine Nf rfl 229 9 15 (.tmp 6) (.tmp 7) rfl tO j (.string t) _ EN Tryz.underlying9 rfl Ms rfl rfl hlt HT2.o ?_;go_wp2_with (go_at_call 174;((with_reducible refine HT.o.mono ?_);rintro e w1 ⟨h1,rfl,h2⟩;have H1:=ae h1;have H2:=ae h2;clear h1 h2))
      go_roundw
      case rel =>
       refine⟨j+1,by omega,by go_num,ae ?_,H2,ae (grownBy.trans' HG.o H1.o)⟩;intro q hq;by_cases hqj:q<j
       · exact fo.o q hqj
       · rw[show q=j from by omega];exact HQ.o
      case measure=>simp[intOf];omega
    · rw[hq]at hT
      have HT:=ae hT;clear hT;have hsz:t.size=(jR.getD j []).length:=by rw[← HT3.o,bn]
      have hN:=Yz j hlt (aD s k) fo.o hq;rw[← Ox.o, ← hsz]at hN;have HN:=ae hN;clear hN hq hsz;go_upto_region 3 with (fail)
      refine wp_region_lit ?_;refine Nf rfl 229 9 15 (.tmp 6) (.tmp 7) rfl tO j (.string t) _ EN Tryz.underlying9 rfl Ms rfl rfl hlt HT2.o ?_;go_wp2_with (go_at_call 174;((with_reducible refine HT.o.mono ?_);rintro e w1 ⟨h1,rfl,h2⟩;have H1:=ae (grownBy.trans' HG.o h1);have H2:=ae h2;clear h1 h2;have HT2:=ae (cO.o.grown H1.o hw0);obtain⟨x0,x1,x2,x3,x4,x5,x6,x7,aY⟩:=HT2.o.cells;obtain⟨f0,f1,f2,f3,f4,f5,f6,f7,f8⟩:=HT2.o.dM))
      exact bodyPost_ret (lg (HT2.o.ll { ai.zero with kind:=5,text:=t }) _ _ true 2 3 Lt rfl rfl) rfl ⟨grownBy.gT (grownBy.trans' dJ.o H1.o) (aj _) _ _ _ _ _ _ _ _ _,.inl ⟨_,_,HN.o,rfl,H2.o.gT hw0 _ _ _ _ _ _ _ _ _⟩⟩
  · have hji:¬ (j:Int)<15:=by omega
    have HN:=ae (Yx (aD s k) (fun q hq=>fo.o q (by omega)));have HT2:=ae (cO.o.grown HG.o hw0);obtain⟨x0,x1,x2,x3,x4,x5,x6,x7,aY⟩:=HT2.o.cells;obtain⟨f0,f1,f2,f3,f4,f5,f6,f7,f8⟩:=HT2.o.dM;go_wp2_with fail
    exact bodyPost_ret (lg (HT2.o.ll ai.zero) _ _ false 2 3 Lt rfl rfl) rfl ⟨grownBy.gT (grownBy.trans' dJ.o HG.o) (aj _) _ _ _ _ _ _ _ _ _,.inr ⟨HN.o,ai.zero,rfl⟩⟩
def lJ(s:ByteArray)(k p:Nat)(xs:List Int):Prop:=bP (aD s (k+1))=(bP (aD s p)).map fun q=>(xs++q.1,p - (k+1)+q.2)
theorem oC (s:ByteArray)(p:Nat)(h:p<s.size):aD s p=((s[p].toNat:Nat):Int) :: aD s (p+1):=by
 unfold aD;rw[List.drop_eq_getElem_cons (by rw[bn];exact h)];congr 1;have:=p8 s p h;rw[aX (by rw[bn];exact h)]at this;exact dV this
theorem EH (s:ByteArray)(p:Nat)(h:s.size≤p):aD s p=[]:=by
 apply mK;rw[ng];omega
theorem W9 {s:ByteArray}{k p:Nat}{xs:List Int}(h:lJ s k p xs)(hp:s.size≤p):jr (aD s (k+1))=none:=by
 unfold lJ at h;unfold jr;rw[h,EH s p hp];rfl
theorem Xa {s:ByteArray}{k p:Nat}{xs:List Int}(h:lJ s k p xs)(hp:p<s.size)(hc:((s[p].toNat:Nat):Int)<32):jr (aD s (k+1))=none:=by
 unfold lJ at h;unfold jr;rw[h,oC s p hp,oz,ah hc];rfl
theorem Xb {s:ByteArray}{k p:Nat}{xs:List Int}{a:Int}(h:lJ s k p xs)(hk:k+1≤p)(hp:p<s.size)(ha:((s[p].toNat:Nat):Int)=a)(h1:¬ a<32)(h2:¬ a=34):lJ s k (p+1) (xs++[a]):=by
 unfold lJ at h ⊢;rw[h,oC s p hp,oz,ha,af h1,ah h2];cases bP (aD s (p+1))with
 | none=>rfl
 | some q =>
   simp only[gq,aI,aJ,bD,bM,eY,true_and];omega
theorem Xc {s:ByteArray}{k p:Nat}{xs:List Int}(h:lJ s k p xs)(hk:k+1≤p)(hp:p<s.size)(ha:((s[p].toNat:Nat):Int)=34)(hp2:p+1<s.size)(ha2:((s[p+1].toNat:Nat):Int)=34):lJ s k (p+1+1) (xs++[34]):=by
 unfold lJ at h ⊢;rw[h,oC s p hp,oC s (p+1) hp2,oz,ha,ha2,af (by omega),af (by omega)];simp only[if_true];cases bP (aD s (p+1+1))with
 | none=>rfl
 | some q =>
   simp only[gq,aI,aJ,bD,bM,eY,true_and];omega
theorem Ll {s:ByteArray}{k p:Nat}{xs:List Int}(h:lJ s k p xs)(hk:k+1≤p)(hp:p<s.size)(ha:((s[p].toNat:Nat):Int)=34)(h2:∀h:p+1<s.size,¬ ((s[p+1].toNat:Nat):Int)=34) :
 jr (aD s (k+1))=some ({ ai.zero with kind:=2,text:=strOfNums xs },p+1 - k):=by
 unfold lJ at h
 have hq:bP (aD s p)=some ([],1):=by
  rw[oC s p hp,oz,ha,af (by omega),af (by omega)];by_cases hp2:p+1<s.size
  · rw[oC s (p+1) hp2]
    simp only[af (h2 hp2)]
  · rw[EH s (p+1) (by omega)]
 unfold jr;rw[h,hq];simp only[gq,bE,aI,aJ,true_and];omega
theorem grownBy.Hg {a w w':World}{r:Option Nat}(h:a.grownBy w r)(k:Below (a.heap.size+1) w w'):a.grownBy w' r :=
 ⟨k.os.trans h.os,k.tape.trans h.tape,k.output.trans h.output,eO h.size k.size,fun j hj hr=>(k.block j (by omega)).trans (h.block j hj hr)⟩
theorem AQ:Tryz.f146.results=#[.cell 2 130,.tmp 3]:=by kernel_rfl
theorem Xd (b:Nat)(s:ByteArray)(k:Nat)(w:World)(h:aQ w b s k)(_hs:s.size≤1000000)(_hk:k<s.size) :
 Calls Tryz.prog 146 #[.pointer (some ⟨b,0,none⟩)] w (kS (jr (aD s (k+1))) b s k w):=by
 have hlt:=h.lt;have hw0:w.heap.size≠b:=by omega
 have xQ:b<w.heap.size+1:=by omega
 obtain⟨c0,c1⟩:=h.tok.facts;have f1:=h.tok.frozen 1;have Jc:w.grownBy ((w.setCell ⟨b,1,none⟩ (.int .i64 ((k:Int)+1))).alloc (.cells qf 130)) (some b):=grownBy.below' (grownBy.dP (grownBy.dH _ _) _ _) ((ak _ _).alloc (aj _) _);have dJ:=ae Jc;clear Jc;have Dj:=aC.zero (w.setCell ⟨b,1,none⟩ (.int .i64 ((k:Int)+1)));rw[show(w.setCell ⟨b,1,none⟩ (.int .i64 ((k:Int)+1))).heap.size=w.heap.size by simp]at Dj;have cO:=ae Dj;clear Dj;have zg:=ae (h.rV.tok);clear h;go_enter Tryz.func146,Tryz.ntmps146;go_wp2_with fail
 clear c0 c1 f1
 go_loopw [4] (fun v wr=>∃(p:Nat)(xs:List Int),k+1≤p∧p≤s.size∧xs.length≤p∧Hid (Bytes xs)∧Hid (lJ s k p xs)∧Hid (aQ wr b s p)∧Hid (mU wr (w.heap.size+1) v xs)∧Hid (aC wr w.heap.size ai.zero)∧Hid (w.grownBy wr (some b)))
  (fun _ wr=>jO b s.size wr)
 case atStart =>
  refine⟨k+1,[],by omega,by omega,by simp,ae Bytes.nil,ae ?_,zg,ae (Own.nil _ _ _ _),cO,dJ⟩;unfold lJ;cases bP (aD s (k+1))with
  | none=>rfl
  | some q=>simp
 case round =>
  obtain⟨p,xs,hkp,hps,hxl,uk,HQ,HR,HO,HT,HG⟩:=hrel;clear dJ cO zg;have Jv:=HR.o.jO s.size;have sD:=ae Jv;clear Jv;obtain⟨c0,c1⟩:=HR.o.facts;have f1:=HR.o.frozen 1;by_cases hlt:p<s.size
  · have kX : (p:Int)<(s.size:Int):=by omega
    obtain⟨a,ha⟩:∃a:Int,(s[p].toNat:Int)=a:=⟨_,rfl⟩;have ha1:0≤a∧a≤255:=by have:=s[p].toNat_lt;omega
    by_cases uO:a<32
    · have HN:=ae (Xa HQ.o hlt (by rw[ha];exact uO))
      go_wp2_with fail
      go_quiet (fail)
      have HR1:=ae (HR.o.drewN nq);have eQ:=ae (HO.o.drewN nq);have HT1:=ae (HT.o.drewN nq);have j3:=ae (grownBy.bZ HG.o nq);generalize wr.drewN nq=w1 at HR1 eQ HT1 j3 ⊢;clear c0 c1 f1 HR HO HT HG;obtain⟨c0,c1⟩:=HR1.o.facts;have f1:=HR1.o.frozen 1;go_wp2_with fail
      go_quiet (fail)
      have HR2:=ae (HR1.o.drewN nq);have gD:=ae (eQ.o.drewN nq);have HT2:=ae (HT1.o.drewN nq);have HG2:=ae (grownBy.bZ j3.o nq);generalize w1.drewN nq=w2 at HR2 gD HT2 HG2 ⊢;clear c0 c1 f1 HR1 eQ HT1 j3;obtain⟨c0,c1⟩:=HR2.o.facts;have f1:=HR2.o.frozen 1;obtain⟨x0,x1,x2,x3,x4,x5,x6,x7,aY⟩:=HT2.o.cells;obtain⟨g0,g1,g2,g3,g4,g5,g6,g7,g8⟩:=HT2.o.dM;go_wp2_with fail
      exact bodyPost_ret (lg (HT2.o.ll ai.zero) _ _ false 2 3 AQ rfl rfl) rfl ⟨grownBy.gT HG2.o (aj _) _ _ _ _ _ _ _ _ _,.inr ⟨HN.o,ai.zero,rfl⟩⟩
    · by_cases h34:a=34
      · have R8:(a == 34)=true:=bI.2 h34
        obtain⟨q,hq⟩:∃q:Nat,p+1=q:=⟨_,rfl⟩;go_wp2_with fail
        go_quiet (fail)
        have HR1:=ae (HR.o.drewN nq);have eQ:=ae (HO.o.drewN nq);have HT1:=ae (HT.o.drewN nq);have j3:=ae (grownBy.bZ HG.o nq);generalize wr.drewN nq=w1 at HR1 eQ HT1 j3 ⊢;clear c0 c1 f1 HR HO HT HG;obtain⟨c0,c1⟩:=HR1.o.facts;have f1:=HR1.o.frozen 1;go_wp2_with fail
        go_quiet (fail)
        have HR2:=ae (HR1.o.drewN nq);have gD:=ae (eQ.o.drewN nq);have HT2:=ae (HT1.o.drewN nq);have HG2:=ae (grownBy.bZ j3.o nq);generalize w1.drewN nq=w2 at HR2 gD HT2 HG2 ⊢;clear c0 c1 f1 HR1 eQ HT1 j3;obtain⟨c0,c1⟩:=HR2.o.facts;have f1:=HR2.o.frozen 1;go_upto_region 10 with (fail)
        have HR3:=ae (HR2.o.rV);have bF:=ae (Own.other gD.o (grownBy.dP (grownBy.dH _ _) _ _) xQ:mU (w2.setCell ⟨b,1,none⟩ (.int .i64 ((p:Int)+1))) _ _ _);have HT3:=ae (HT2.o.grown (grownBy.dP (grownBy.dH _ _) 1 (.int .i64 ((p:Int)+1))) hw0);have fT:=ae (grownBy.dP HG2.o 1 (.int .i64 ((p:Int)+1)));generalize w2.setCell ⟨b,1,none⟩ (.int .i64 ((p:Int)+1))=w3 at HR3 bF HT3 fT ⊢;clear c0 c1 f1 HR2 gD HT2 HG2;obtain⟨c0,c1⟩:=HR3.o.facts;have f1:=HR3.o.frozen 1;have Gj:=ae (show aQ w3 b s q by rw[← hq];exact HR3.o);clear c0 c1 HR3;have HR3:=Gj;clear Gj;obtain⟨c0,c1⟩:=HR3.o.facts;have xq:=ae hq;by_cases DC:q<s.size
        · have SE:((q:Int) == (s.size:Int))=false:=aB.2 (by omega)
          have DF:(q:Int)<(s.size:Int):=by omega
          obtain⟨a2,ha2⟩:∃a2:Int,(s[q].toNat:Int)=a2:=⟨_,rfl⟩;have aaA:0≤a2∧a2≤255:=by have:=s[q].toNat_lt;omega
          by_cases zY:a2=34
          · have R9:(a2 == 34)=true:=bI.2 zY
            have nN:=ae (show lJ s k (q+1) (xs++[34])by subst hq;exact Xc HQ.o hkp hlt (by rw[ha,h34]) DC (by rw[ha2,zY]));clear HQ hq;go_quiet (fail)
            have HR4:=ae (HR3.o.drewN nq);have fq:=ae (bF.o.drewN nq);have lD:=ae (HT3.o.drewN nq);have mQ:=ae (grownBy.bZ fT.o nq);generalize w3.drewN nq=w4 at HR4 fq lD mQ ⊢;clear c0 c1 f1 HR3 bF HT3 fT;obtain⟨c0,c1⟩:=HR4.o.facts;have f1:=HR4.o.frozen 1;go_wp2_with (at_builtin;refine lW Elem.u8 (bK .u8) rfl (.tmp 76) (.tmp 78) rfl (w.heap.size+1) _ _ rfl (fq.o.alloc _) ⟨_,0,none⟩ 1 1 [34] rfl rfl ?_ ?_ ?_ ?_ ?_;exact iH _ _ _ rfl;omega;(unfold maxLen;omega);(have:=lD.o.lt;simp <;> omega);intro v' nH h1 h2;have uw:=ae h1;have nK:=ae (((ak (w.heap.size+1) _).alloc (by have:=lD.o.lt;omega) _).trans h2);clear h1 h2;have q8:=ae (HR4.o.below nK.o xQ);have Cm:=ae (lD.o.below nK.o (Nat.lt_succ_self _));have BD:=ae (grownBy.Hg mQ.o nK.o);clear HR4 fq lD mQ c0 c1 f1;obtain⟨c0,c1⟩:=q8.o.facts;have f1:=q8.o.frozen 1)
            go_roundw
            case rel =>
             refine⟨q+1,xs++[34],by have:=xq.o;omega,by omega,by have:=xq.o;simp;omega,ae (uk.o.append (by intro x hx;simp at hx;omega)),nN,ae q8.o.rV,ae (Own.other uw.o (grownBy.dP (grownBy.dH _ _) _ _) xQ),ae (Cm.o.grown (grownBy.dP (grownBy.dH _ _) _ _) hw0),ae (grownBy.dP BD.o _ _)⟩
            case measure =>
             have h1:=q8.o.rV.jO s.size;have h2:=xq.o;rw[sD.o];exact Nat.lt_of_le_of_lt (Nat.le_of_eq h1) (by omega)
          · have R9:(a2 == 34)=false:=aB.2 zY
            have HN:=ae (show jr (aD s (k+1))=some ({ ai.zero with kind:=2,text:=strOfNums xs },q - k)by subst hq;exact Ll HQ.o hkp hlt (by rw[ha,h34]) (fun h=>by rw[ha2];exact zY));clear HQ hq;go_quiet (fail)
            have HR4:=ae (HR3.o.drewN nq);have fq:=ae (bF.o.drewN nq);have lD:=ae (HT3.o.drewN nq);have mQ:=ae (grownBy.bZ fT.o nq);generalize w3.drewN nq=w4 at HR4 fq lD mQ ⊢;clear c0 c1 f1 HR3 bF HT3 fT;obtain⟨c0,c1⟩:=HR4.o.facts;have f1:=HR4.o.frozen 1;have Sg:=EK fq.o;obtain⟨x0,x1,x2,x3,x4,x5,x6,x7,aY⟩:=lD.o.cells;obtain⟨g0,g1,g2,g3,g4,g5,g6,g7,g8⟩:=lD.o.dM;go_wp2_with fail
            exact bodyPost_ret (lg (lD.o.ll { ai.zero with kind:=2,text:=strOfNums xs }) _ _ true 2 3 AQ rfl rfl) rfl ⟨grownBy.gT mQ.o (aj _) _ _ _ _ _ _ _ _ _,.inl ⟨_,_,HN.o,rfl,by rw[show k+(q - k)=q from by have:=xq.o;omega];exact HR4.o.gT hw0 _ _ _ _ _ _ _ _ _⟩⟩
        · have SE:((q:Int) == (s.size:Int))=true:=bI.2 (by omega)
          have HN:=ae (show jr (aD s (k+1))=some ({ ai.zero with kind:=2,text:=strOfNums xs },q - k)by subst hq;exact Ll HQ.o hkp hlt (by rw[ha,h34]) (fun h=>absurd h DC));clear HQ hq;go_quiet (fail)
          have HR4:=ae (HR3.o.drewN nq);have fq:=ae (bF.o.drewN nq);have lD:=ae (HT3.o.drewN nq);have mQ:=ae (grownBy.bZ fT.o nq);generalize w3.drewN nq=w4 at HR4 fq lD mQ ⊢;clear c0 c1 f1 HR3 bF HT3 fT;obtain⟨c0,c1⟩:=HR4.o.facts;have f1:=HR4.o.frozen 1;have Sg:=EK fq.o;obtain⟨x0,x1,x2,x3,x4,x5,x6,x7,aY⟩:=lD.o.cells;obtain⟨g0,g1,g2,g3,g4,g5,g6,g7,g8⟩:=lD.o.dM;go_wp2_with fail
          exact bodyPost_ret (lg (lD.o.ll { ai.zero with kind:=2,text:=strOfNums xs }) _ _ true 2 3 AQ rfl rfl) rfl ⟨grownBy.gT mQ.o (aj _) _ _ _ _ _ _ _ _ _,.inl ⟨_,_,HN.o,rfl,by rw[show k+(q - k)=q from by have:=xq.o;omega];exact HR4.o.gT hw0 _ _ _ _ _ _ _ _ _⟩⟩
      · have R8:(a == 34)=false:=aB.2 h34
        have nN:=ae (Xb HQ.o hkp hlt ha uO h34);clear HQ;go_wp2_with fail
        go_quiet (fail)
        have HR1:=ae (HR.o.drewN nq);have eQ:=ae (HO.o.drewN nq);have HT1:=ae (HT.o.drewN nq);have j3:=ae (grownBy.bZ HG.o nq);generalize wr.drewN nq=w1 at HR1 eQ HT1 j3 ⊢;clear c0 c1 f1 HR HO HT HG;obtain⟨c0,c1⟩:=HR1.o.facts;have f1:=HR1.o.frozen 1;go_wp2_with fail
        go_quiet (fail)
        have HR2:=ae (HR1.o.drewN nq);have gD:=ae (eQ.o.drewN nq);have HT2:=ae (HT1.o.drewN nq);have HG2:=ae (grownBy.bZ j3.o nq);generalize w1.drewN nq=w2 at HR2 gD HT2 HG2 ⊢;clear c0 c1 f1 HR1 eQ HT1 j3;obtain⟨c0,c1⟩:=HR2.o.facts;have f1:=HR2.o.frozen 1;go_wp2_with (at_builtin;refine lW Elem.u8 (bK .u8) rfl (.tmp 76) (.tmp 78) rfl (w.heap.size+1) _ _ rfl (gD.o.alloc _) ⟨_,0,none⟩ 1 1 [a] rfl rfl ?_ ?_ ?_ ?_ ?_;exact iH _ _ _ rfl;omega;(unfold maxLen;omega);(have:=HT2.o.lt;simp <;> omega);intro v' nH h1 h2;have uw:=ae h1;have nK:=ae (((ak (w.heap.size+1) _).alloc (by have:=HT2.o.lt;omega) _).trans h2);clear h1 h2;have q8:=ae (HR2.o.below nK.o xQ);have Cm:=ae (HT2.o.below nK.o (Nat.lt_succ_self _));have BD:=ae (grownBy.Hg HG2.o nK.o);clear HR2 gD HT2 HG2 c0 c1 f1;obtain⟨c0,c1⟩:=q8.o.facts;have f1:=q8.o.frozen 1)
        go_roundw
        case rel =>
         refine⟨p+1,xs++[a],by omega,by omega,by simp;omega,ae (uk.o.append (by intro x hx;simp at hx;omega)),nN,ae q8.o.rV,ae (Own.other uw.o (grownBy.dP (grownBy.dH _ _) _ _) xQ),ae (Cm.o.grown (grownBy.dP (grownBy.dH _ _) _ _) hw0),ae (grownBy.dP BD.o _ _)⟩
        case measure =>
         have h1:=q8.o.rV.jO s.size;rw[sD.o];exact Nat.lt_of_le_of_lt (Nat.le_of_eq h1) (by omega)
  · have kX:¬ (p:Int)<(s.size:Int):=by omega
    have HN:=ae (W9 HQ.o (by omega));go_wp2_with fail
    go_quiet (fail)
    have HR1:=ae (HR.o.drewN nq);have eQ:=ae (HO.o.drewN nq);have HT1:=ae (HT.o.drewN nq);have j3:=ae (grownBy.bZ HG.o nq);generalize wr.drewN nq=w1 at HR1 eQ HT1 j3 ⊢;clear c0 c1 f1 HR HO HT HG;obtain⟨c0,c1⟩:=HR1.o.facts;have f1:=HR1.o.frozen 1;obtain⟨x0,x1,x2,x3,x4,x5,x6,x7,aY⟩:=HT1.o.cells;obtain⟨g0,g1,g2,g3,g4,g5,g6,g7,g8⟩:=HT1.o.dM;go_wp2_with fail
    exact bodyPost_ret (lg (HT1.o.ll ai.zero) _ _ false 2 3 AQ rfl rfl) rfl ⟨grownBy.gT j3.o (aj _) _ _ _ _ _ _ _ _ _,.inr ⟨HN.o,ai.zero,rfl⟩⟩
structure Vars (w:World):Prop where
 err:si w
 sig:ql w
theorem Vars.grown{w w':World}{b:Nat}(h:Vars w)(hg:w.grownBy w' (some b))(hb:max 4 1<b):Vars w':=⟨h.err.grown hg (by omega),h.sig.grown hg hb⟩
theorem Vars.below{w w':World}(h:Vars w)(hb:Below w.heap.size w w'):Vars w':=⟨h.err.below hb,h.sig.below hb⟩
theorem m_num:∀args (v:World),(callFunc 145 args).run Tryz.prog v = .ok (.enter 145 args) v:=Go.Proofs.enters_of Tryz.func145 (by kernel_rfl) rfl
theorem UZ:∀args (v:World),(callFunc 146 args).run Tryz.prog v = .ok (.enter 146 args) v:=Go.Proofs.enters_of Tryz.func146 (by kernel_rfl) rfl
theorem UY:∀args (v:World),(callFunc 147 args).run Tryz.prog v = .ok (.enter 147 args) v:=Go.Proofs.enters_of Tryz.func147 (by kernel_rfl) rfl
theorem U1:∀args (v:World),(callFunc 149 args).run Tryz.prog v = .ok (.enter 149 args) v:=Go.Proofs.enters_of Tryz.func149 (by kernel_rfl) rfl
theorem U0:∀args (v:World),(callFunc 150 args).run Tryz.prog v = .ok (.enter 150 args) v:=Go.Proofs.enters_of Tryz.func150 (by kernel_rfl) rfl
theorem U6 (b:Nat)(s:ByteArray)(k:Nat)(_hs:s.size≤1000000)(_hk:k<s.size)(hb2:max 4 1<b)(a:Int)(ha:((s[k].toNat:Nat):Int)=a) :
 (∀args (v:World),(callFunc (lQ a) args).run Tryz.prog v = .ok (.enter (lQ a) args) v) ∧
 (∀w,aQ w b s k→Vars w→Calls Tryz.prog (lQ a) #[.pointer (some ⟨b,0,none⟩)] w (kS (cK (aD s k)) b s k w)):=by
 have hc:=oC s k _hk;rw[ha]at hc;have ht:=nD a (aD s (k+1));rw[← hc]at ht;rw[ht];cases hn:isNum a
 · rw [af (by simp)]
   by_cases h34:a=34
   · rw[KJ hn h34,ah h34]
     exact⟨UZ,fun w h _=>Xd b s k w h _hs _hk⟩
   · rw [af h34]
     by_cases h35:a=35
     · rw[KH hn h34 h35,ah h35]
       exact⟨UY,fun w h _=>QJ b s k w h _hs _hk⟩
     · rw [af h35]
       cases hb:kz a
       · rw[KL hn h34 h35 hb,af (by unfold kz at hb;simpa using hb)]
         exact⟨U0,fun w h hv=>YC b s k w h _hs _hk hv.sig hb2⟩
       · rw[KM hn h34 h35 hb,ah (by unfold kz at hb;simpa using hb)]
         exact⟨U1,fun w h _=>Z0 b s k w h _hs _hk (by rw[ha];exact hb)⟩
 · rw[KI hn,ah rfl]
   exact⟨m_num,fun w h hv=>VH b s k w h _hs _hk (by rw[ha];exact hn) hv.err (by omega)⟩
theorem kS.lit {o:Option (ai × Nat)}{b:Nat}{s:ByteArray}{k:Nat}{w w':World}{e:Ending}(h:kS o b s k w e w') :
 w.grownBy w' (some b)∧((∃t n,o=some (t,n)∧e = .returned (.tuple #[.agg #[.int .i64 t.kind,.string t.text,.int .i64 t.num,.string t.sh,.int .i64 t.c,.int .i64 t.r,.bool t.ac,.bool t.ar,.int .i64 t.pos],.bool true])∧aQ w' b s (k+n))∨(o=none∧∃t:ai,e = .returned (.tuple #[.agg #[.int .i64 t.kind,.string t.text,.int .i64 t.num,.string t.sh,.int .i64 t.c,.int .i64 t.r,.bool t.ac,.bool t.ar,.int .i64 t.pos],.bool false]))):=h
theorem Lu:Tryz.f84.results=#[.cell 2 130,.tmp 3]:=by kernel_rfl
theorem Zq (b:Nat)(s:ByteArray)(k:Nat)(w:World)(h:aQ w b s k)(_hs:s.size≤1000000)(_hk:k<s.size)(hb2:max 4 1<b)(hv:Vars w) :
 Calls Tryz.prog 84 #[.pointer (some ⟨b,0,none⟩)] w (kS ((cK (aD s k)).map fun q=>(q.1.goto k,q.2)) b s k w):=by
 have hlt:=h.lt;have hw0:w.heap.size≠b:=by omega
 obtain⟨a,ha⟩:∃a:Int,(s[k].toNat:Int)=a:=⟨_,rfl⟩;have ha1:0≤a∧a≤255:=by have:=s[k].toNat_lt;omega
 obtain⟨hen,pK⟩:=U6 b s k _hs _hk hb2 a ha;have hmo:=fun w=>U5 a ha1.1 ha1.2 w
 obtain⟨F,hF⟩:∃F,lQ a=F:=⟨_,rfl⟩;rw[hF]at hen pK;simp only[hF]at hmo;have BL:=ae hmo;clear hmo hF;have HM:=ae (pK _ h.tok (hv.grown (wC w b) hb2));clear pK hv;have dJ:=ae (wC w b);have cO:=ae (aC.zero w);obtain⟨c0,c1⟩:=h.tok.facts;clear h;have hk2:(k:Int)<(s.size:Int):=by omega
 obtain⟨o,ho⟩:∃o,cK (aD s k)=o:=⟨_,rfl⟩;rw[ho]at HM ⊢;clear ho;go_enter Tryz.func84,Tryz.ntmps84;go_wp2_with (go_at_call 113;((with_reducible refine(BL.o _).mono ?_);rintro e w1 ⟨rfl,rfl⟩))
 refine HM.o.mono ?_;intro e w1 he;obtain⟨h1,⟨t,n,rfl,rfl,h2⟩|⟨rfl,t,rfl⟩⟩:=he.lit
 · have H1:=ae h1;have H2:=ae h2;clear h1 h2 he
   have hB3:Below w1.heap.size w1 (w1.alloc (.cells #[.int .i64 t.kind,.string t.text,.int .i64 t.num,.string t.sh,.int .i64 t.c,.int .i64 t.r,.bool t.ac,.bool t.ar,.int .i64 (k:Int)] 130)):=(ak _ _).alloc (aj _) _;have hT1:=cO.o.grown H1.o hw0;have HT3:=ae (hT1.below hB3 hT1.lt);have bf:aC (w1.alloc (.cells #[.int .i64 t.kind,.string t.text,.int .i64 t.num,.string t.sh,.int .i64 t.c,.int .i64 t.r,.bool t.ac,.bool t.ar,.int .i64 (k:Int)] 130)) w1.heap.size (t.goto k):=aC.new w1 (t.goto k);have fT:=ae (grownBy.below' (grownBy.trans' dJ.o H1.o) hB3);have sw:=ae (H2.o.below hB3 H2.o.lt);have uQ:w.heap.size≠w1.heap.size:=Nat.ne_of_lt hT1.lt;clear hB3 hT1 BL HM c0 c1;go_upto_region 4 with (fail)
   generalize w1.alloc (.cells #[.int .i64 t.kind,.string t.text,.int .i64 t.num,.string t.sh,.int .i64 t.c,.int .i64 t.r,.bool t.ac,.bool t.ar,.int .i64 (k:Int)] 130)=w3 at HT3 bf fT sw ⊢;obtain⟨x0,x1,x2,x3,x4,x5,x6,x7,aY⟩:=HT3.o.cells;obtain⟨f0,f1,f2,f3,f4,f5,f6,f7,f8⟩:=HT3.o.dM;obtain⟨y0,y1,y2,y3,y4,iy,y6,iA,iR⟩:=bf.cells;clear bf;simp only[ai.goto]at y0 y1 y2 y3 y4 iy y6 iA iR;go_wp2_with fail
   exact bodyPost_ret (lg (HT3.o.ll (t.goto k)) _ _ true 2 3 Lu rfl rfl) rfl ⟨grownBy.gT fT.o (aj _) _ _ _ _ _ _ _ _ _,.inl ⟨_,_,rfl,rfl,sw.o.gT hw0 _ _ _ _ _ _ _ _ _⟩⟩
 · have H1:=ae h1;clear h1 he
   have hB3:Below w1.heap.size w1 (w1.alloc (.cells #[.int .i64 t.kind,.string t.text,.int .i64 t.num,.string t.sh,.int .i64 t.c,.int .i64 t.r,.bool t.ac,.bool t.ar,.int .i64 (k:Int)] 130)):=(ak _ _).alloc (aj _) _;have hT1:=cO.o.grown H1.o hw0;have HT3:=ae (hT1.below hB3 hT1.lt);have bf:aC (w1.alloc (.cells #[.int .i64 t.kind,.string t.text,.int .i64 t.num,.string t.sh,.int .i64 t.c,.int .i64 t.r,.bool t.ac,.bool t.ar,.int .i64 (k:Int)] 130)) w1.heap.size (t.goto k):=aC.new w1 (t.goto k);have fT:=ae (grownBy.below' (grownBy.trans' dJ.o H1.o) hB3);have uQ:w.heap.size≠w1.heap.size:=Nat.ne_of_lt hT1.lt;clear hB3 hT1 BL HM c0 c1;go_upto_region 4 with (fail)
   generalize w1.alloc (.cells #[.int .i64 t.kind,.string t.text,.int .i64 t.num,.string t.sh,.int .i64 t.c,.int .i64 t.r,.bool t.ac,.bool t.ar,.int .i64 (k:Int)] 130)=w3 at HT3 bf fT ⊢;obtain⟨x0,x1,x2,x3,x4,x5,x6,x7,aY⟩:=HT3.o.cells;obtain⟨f0,f1,f2,f3,f4,f5,f6,f7,f8⟩:=HT3.o.dM;obtain⟨y0,y1,y2,y3,y4,iy,y6,iA,iR⟩:=bf.cells;clear bf;simp only[ai.goto]at y0 y1 y2 y3 y4 iy y6 iA iR;go_wp2_with fail
   exact bodyPost_ret (lg (HT3.o.ll (t.goto k)) _ _ false 2 3 Lu rfl rfl) rfl ⟨grownBy.gT fT.o (aj _) _ _ _ _ _ _ _ _ _,.inr ⟨rfl,t.goto k,rfl⟩⟩
def xO:Enc ai 9:={ f:=fun t=>(nC t).toList,len:=fun _=>rfl,one:=fun t u hu=>Zm t u hu }
theorem Elem.tok:∃n,n≤100∧Elem Tryz.prog 122 130 9 n:=⟨80,by omega,Tryz.underlying122,⟨.agg qf,by kernel_rfl,rfl⟩,by decide⟩
abbrev rf(w:World)(base:Nat)(v:Value)(ts:List ai):Prop:=Own xO 130 w base v ts
def kC(s:ByteArray)(p:Nat):Option (List ai):=bU (aD s p).length p (aD s p)
theorem UF(s:ByteArray):gH (sb s)=kC s 0:=rfl
theorem UI (s:ByteArray)(p:Nat)(h:s.size≤p):kC s p=some [ai.zero.goto p]:=by
 unfold kC;rw[EH s p h];unfold bU;rfl
theorem UH (s:ByteArray)(p:Nat)(h:p<s.size)(ha:((s[p].toNat:Nat):Int)=32):kC s p=kC s (p+1):=by
 unfold kC;rw[oC s p h,ha,aN,nk,ah rfl]
theorem Eh (s:ByteArray):∀(m p:Nat),(∀x∈(aD s p).take m,kJ x=true)→p+m≤s.size→kC s p=kC s (p+m)
 | 0,_,_,_=>rfl
 | m + 1,p,h,hm=>by
   have hp:p<s.size:=by omega
   rw[oC s p hp]at h
   have h0:((s[p].toNat:Nat):Int)=32:=by
    have:=h ((s[p].toNat:Nat):Int) (by simp);unfold kJ at this;simpa using this
   rw[UH s p hp h0,Eh s m (p+1) (fun x hx=>h x (by simp[hx])) (by omega),show p+1+m=p+(m+1)from by omega]
theorem UJ (s:ByteArray)(p:Nat)(h:p<s.size)(h32:¬ ((s[p].toNat:Nat):Int)=32)(ht:cK (aD s p)=none):kC s p=none:=by
 unfold kC;rw[oC s p h]at ht ⊢;rw[aN,nk,af h32,ht]
theorem UK (s:ByteArray)(p:Nat)(h:p<s.size)(h32:¬ ((s[p].toNat:Nat):Int)=32)(t:ai)(n:Nat)(ht:cK (aD s p)=some (t,n)):kC s p=(kC s (p+n)).map (t.goto p :: ·):=by
 have hn:=nE _ _ _ ht;have hd:=Lx s p n;unfold kC;rw[oC s p h]at ht hd hn ⊢;rw[aN,nk,af h32,ht];simp only;rw[hd,Ap _ (aD s (p+n)).length _ _ (by rw[ng,ng];omega) (aj _)]
theorem Ml (p:Int→Bool)(l:List Int):∀x∈l.take (l.takeWhile p).length,p x=true:=by
 have e:=take_split p l
 have h:l.take (l.takeWhile p).length=l.takeWhile p:=by
  have h0:(l.takeWhile p++l.drop (l.takeWhile p).length).take (l.takeWhile p).length=l.takeWhile p:=List.take_left;rw[e]at h0;exact h0
 rw[h];exact rW p l
theorem Mg (s:ByteArray)(p q:Nat)(hq:p+((aD s p).takeWhile kJ).length=q)(h:q<s.size):¬ ((s[q].toNat:Nat):Int)=32:=by
 have h1:=A8 kJ (aD s p);rw[Lx,hq,oC s q h]at h1;have:=h1 _ rfl;unfold kJ at this;simpa using this
theorem Mh (s:ByteArray)(p:Nat)(h:p≤s.size):p+((aD s p).takeWhile kJ).length≤s.size:=by
 have:=vB kJ (aD s p);rw[ng]at this;omega
theorem Vars.lt {w:World}(h:Vars w):max 4 1<w.heap.size:=by
 have hs:=h.sig.lt;obtain⟨ev,h1,_⟩:=h.err
 have hr:4<w.heap.size:=by
  rcases Nat.lt_or_ge 4 w.heap.size with h'|h'
  · exact h'
  · exfalso;unfold World.cell? at h1;simp only at h1;rw[Array.getElem?_eq_none h']at h1;cases h1
 omega
theorem kS.no {b:Nat}{s:ByteArray}{k:Nat}{w w':World}{e:Ending}(h:kS none b s k w e w'):w.grownBy w' (some b)∧∃t:ai,e = .returned (.tuple #[.agg #[.int .i64 t.kind,.string t.text,.int .i64 t.num,.string t.sh,.int .i64 t.c,.int .i64 t.r,.bool t.ac,.bool t.ar,.int .i64 t.pos],.bool false]):=by
 rcases h.lit with ⟨h1,⟨t,n,h2,_⟩|⟨_,h2⟩⟩
 · cases h2
 · exact⟨h1,h2⟩
theorem kS.yes {b:Nat}{s:ByteArray}{k n:Nat}{t:ai}{w w':World}{e:Ending}(h:kS (some (t,n)) b s k w e w'):w.grownBy w' (some b)∧e = .returned (.tuple #[.agg #[.int .i64 t.kind,.string t.text,.int .i64 t.num,.string t.sh,.int .i64 t.c,.int .i64 t.r,.bool t.ac,.bool t.ar,.int .i64 t.pos],.bool true])∧aQ w' b s (k+n):=by
 rcases h.lit with ⟨h1,⟨t',n',h2,h3,h4⟩|⟨h2,_⟩⟩
 · injection h2 with h2;injection h2 with h2 h5;subst h2;subst h5;exact⟨h1,h3,h4⟩
 · cases h2
def GK (s:ByteArray)(w:World)(e:Ending)(w':World):Prop :=
 Below w.heap.size w w'∧((300<s.size∧e = .returned (.tuple #[.slice none 0 0,.int .i64 4]))∨(s.size≤300∧gH (sb s)=none∧e = .returned (.tuple #[.slice none 0 0,.int .i64 5])) ∨
  (s.size≤300∧∃ts v,gH (sb s)=some ts∧e = .returned (.tuple #[v,.int .i64 0])∧rf w' w.heap.size v ts))
theorem UL (s:ByteArray)(w:World)(h:300<s.size):Calls Tryz.prog 65 #[.string s] w (GK s w):=by
 have hi:(300:Int)<(s.size:Int):=by omega
 go_enter Tryz.func65,Tryz.ntmps65;go_wp2_with fail
 go_ret2
 exact⟨ak _ _,.inl ⟨h,rfl⟩⟩
theorem Ei (s:ByteArray)(w:World)(hv:Vars w):Calls Tryz.prog 65 #[.string s] w (GK s w):=by
 by_cases pI:300<s.size
 · exact UL s w pI
 have hi:¬ (300:Int)<(s.size:Int):=by omega
 have hs0:s.size≤1000000:=by omega
 obtain⟨eb,rG,bS⟩:=Elem.tok;have qQ:=ae bS;clear bS;have hb2:=hv.lt;have ib:=ae hv;clear hv;have hsk:=Mf w.heap.size s 0 _ (aQ.new w s) hs0 (by omega);rw[Nat.zero_add]at hsk;obtain⟨p0,hp0⟩:∃p0,((aD s 0).takeWhile kJ).length=p0:=⟨_,rfl⟩;rw[hp0]at hsk;have xx:=ae hsk;clear hsk;have JC:=Mh s 0 (bA _);rw[Nat.zero_add,hp0]at JC
 have F4:=ae (show gH (sb s)=(kC s p0).map (([]:List ai) ++ ·)by
  have:=Eh s p0 0 (by rw[← hp0];exact Ml _ _) (by omega);rw[UF,this,Nat.zero_add];cases kC s p0 <;> rfl)
 have HH0:=ae (fun h=>Mg s 0 p0 (by rw[hp0];omega) h);clear hp0;go_enter Tryz.func65,Tryz.ntmps65;go_wp2_with (go_at_call 83;((with_reducible refine xx.o.mono ?_);rintro e w1 ⟨h1,rfl,h2⟩;have HB:=ae (xI ((ak _ _).alloc (aj _) _) h1 (by simp) (aj _));have HR:=ae h2;clear h1 h2))
 go_loopw [5] (fun v wr=>∃(p:Nat)(acc:List ai),p≤s.size∧acc.length≤p∧Hid (gH (sb s)=(kC s p).map (acc ++ ·))∧Hid (∀h:p<s.size,¬ ((s[p].toNat:Nat):Int)=32)∧Hid (aQ wr w.heap.size s p)∧Hid (rf wr (w.heap.size+1) v acc)∧Hid (Below w.heap.size w wr))
  (fun _ wr=>jO w.heap.size s.size wr)
 case atStart=>exact⟨p0,[],JC,by simp,F4,HH0,HR,ae (Own.nil _ _ _ _),HB⟩
 case round =>
  clear F4 HH0 xx HR HB;obtain⟨p,acc,hps,hal,HL,HH,HR,HO,HB⟩:=hrel;obtain⟨c0,c1⟩:=HR.o.facts;have sD:=ae (HR.o.jO s.size);by_cases hlt:p<s.size
  · have kX:(p:Int)<(s.size:Int):=by omega
    have hT:=Zq w.heap.size s p wr HR.o hs0 hlt hb2 (ib.o.below HB.o);cases hq:cK (aD s p)with
    | none =>
      rw[hq]at hT;have HT:=ae hT;clear hT;have HN:=ae (show gH (sb s)=none by rw[HL.o,UJ s p hlt (HH.o hlt) hq];rfl);clear hq;go_wp2_with (go_at_call 84;((with_reducible refine HT.o.mono ?_);intro e w1 he;obtain⟨h1,t,rfl⟩:=kS.no he;have HB1:=ae (xI HB.o h1 HB.o.size (aj _));clear h1 he))
      go_ret2
      exact⟨HB1.o.alloc HB1.o.size _,.inr (.inl ⟨by omega,HN.o,rfl⟩)⟩
    | some q =>
      obtain⟨t0,n0⟩:=q;rw[hq]at hT;obtain⟨t1,ht1⟩:∃t1,t0.goto p=t1:=⟨_,rfl⟩;have hT:Calls Tryz.prog 84 #[.pointer (some ⟨w.heap.size,0,none⟩)] wr (kS (some (t1,n0)) w.heap.size s p wr):=by rw[← ht1];exact hT
      have HT:=ae hT;clear hT;have hn0:=nE _ _ _ hq;rw[ng]at hn0
      have zf:=ae (show gH (sb s)=(kC s (p+n0)).map ((acc++[t1]) ++ ·)by
       rw[← ht1,HL.o,UK s p hlt (HH.o hlt) t0 n0 hq,Option.map_map];congr 1;funext l;simp)
      clear hq HL HH ht1;have Jt:p+n0≤s.size:=by omega
      go_upto_region 11 with (go_at_call 84;((with_reducible refine HT.o.mono ?_);intro e w1 he;obtain⟨h1,rfl,h2⟩:=kS.yes he;have HB1:=ae (xI HB.o h1 HB.o.size (aj _));have eQ:=ae (Own.other HO.o h1 (Nat.lt_succ_self _));have HR1:=ae h2;clear h1 h2 he))
      have hB3:Below w1.heap.size w1 (w1.alloc (.cells #[.int .i64 t1.kind,.string t1.text,.int .i64 t1.num,.string t1.sh,.int .i64 t1.c,.int .i64 t1.r,.bool t1.ac,.bool t1.ar,.int .i64 t1.pos] 130)):=(ak _ _).alloc (aj _) _;have bf:aC (w1.alloc (.cells #[.int .i64 t1.kind,.string t1.text,.int .i64 t1.num,.string t1.sh,.int .i64 t1.c,.int .i64 t1.r,.bool t1.ac,.bool t1.ar,.int .i64 t1.pos] 130)) w1.heap.size t1:=aC.new w1 t1;have HR3:=ae (HR1.o.below hB3 HR1.o.lt);have bF:=ae (eQ.o.alloc (.cells #[.int .i64 t1.kind,.string t1.text,.int .i64 t1.num,.string t1.sh,.int .i64 t1.c,.int .i64 t1.r,.bool t1.ac,.bool t1.ar,.int .i64 t1.pos] 130));have HB3:=ae (HB1.o.trans (hB3.mono HB1.o.size));clear hB3 HT HB1 eQ HR1 HB HO HR c0 c1;generalize w1.alloc (.cells #[.int .i64 t1.kind,.string t1.text,.int .i64 t1.num,.string t1.sh,.int .i64 t1.c,.int .i64 t1.r,.bool t1.ac,.bool t1.ar,.int .i64 t1.pos] 130)=w3 at HR3 bf bF HB3 ⊢;obtain⟨y0,y1,y2,y3,y4,iy,y6,iA,iR⟩:=bf.cells;clear bf;go_upto_region 7 with (at_builtin;refine lW qQ.o xO rfl (.tmp 32) (.tmp 34) rfl (w.heap.size+1) _ _ rfl (bF.o.alloc _) ⟨_,0,none⟩ 1 1 [t1] rfl rfl ?_ ?_ ?_ ?_ ?_;exact iH _ _ _ rfl;exact eO (Nat.mul_le_mul_left _ rG) (by omega);(unfold maxLen;omega);(have:=HR3.o.lt;simp <;> omega);intro v' nH h1 h2;have uw:=ae h1;have nK:=ae (((ak (w.heap.size+1) _).alloc (by have:=HR3.o.lt;omega) _).trans h2);clear h1 h2)
      have HR4:=ae (HR3.o.below nK.o (Nat.lt_succ_self _));have dz:=ae (HB3.o.trans (nK.o.mono (Nat.le_succ _)));have DW:=Mf w.heap.size s (p+n0) nH HR4.o hs0 Jt;obtain⟨q,hq⟩:∃q,p+n0+((aD s (p+n0)).takeWhile kJ).length=q:=⟨_,rfl⟩;rw[hq]at DW;have Ot:=ae DW;clear DW;have DU:=Mh s (p+n0) Jt;rw[hq]at DU
      have NN:=ae (show gH (sb s)=(kC s q).map ((acc++[t1]) ++ ·)by
       rw[zf.o, ← hq];have:=Eh s _ (p+n0) (Ml kJ _) (by rw[hq];exact DU);rw[this])
      have BG:=ae (fun h=>Mg s (p+n0) q hq h);have hpq:p<q:=by omega
      clear hq zf;go_wp2_with (go_at_call 83;((with_reducible refine Ot.o.mono ?_);rintro e w5 ⟨h1,rfl,h2⟩;have cz:=ae (xI dz.o h1 dz.o.size (aj _));have iU:=ae (Own.other uw.o h1 (Nat.lt_succ_self _));have qh:=ae h2;clear h1 h2))
      go_roundw
      case rel=>exact⟨q,acc++[t1],DU,by simp;omega,NN,BG,qh,iU,cz⟩
      case measure =>
       have h1:=qh.o.jO s.size;rw[sD.o,h1];omega
  · have kX:¬ (p:Int)<(s.size:Int):=by omega
    have HN:=ae (show gH (sb s)=some (acc++[ai.zero.goto p])by rw[HL.o,UI s p (by omega)];rfl);clear HL HH;go_wp2_with (at_builtin;refine lW qQ.o xO rfl (.tmp 36) (.tmp 42) rfl (w.heap.size+1) _ _ rfl (HO.o.alloc _) ⟨_,0,none⟩ 1 1 [ai.zero.goto p] rfl rfl ?_ ?_ ?_ ?_ ?_;exact iH _ _ _ rfl;exact eO (Nat.mul_le_mul_left _ rG) (by omega);(unfold maxLen;omega);(have:=HR.o.lt;simp <;> omega);intro v' nH h1 h2;have uw:=ae h1;have nK:=ae (((ak (w.heap.size+1) _).alloc (by have:=HR.o.lt;omega) _).trans h2);clear h1 h2)
    go_ret2
    exact⟨HB.o.trans (nK.o.mono (by have:=HR.o.lt;omega)),.inr (.inr ⟨by omega,_,_,HN.o,rfl,uw.o.mono (by omega)⟩)⟩
theorem rf.cell {w:World}{base g n cap:Nat}{ts:List ai}(h:rf w base (.slice (some ⟨g,0,none⟩) n cap) ts)(i:Nat)(t:ai)(hi:ts[i]? = some t)(j:Nat)(hj:j<9):w.cell? ⟨g,i*9+j,none⟩=(nC t).toList[j]? := by
 have hl:(nC t).toList.length=9:=rfl;have hu:(xO.f t)[j]? = some ((nC t).toList[j]'(by omega)):=aX _;have:=Own.cells h (i*9+j) _ (by rw[xO.at ts i j t hi hj];exact hu);rw[this];exact hu.symm
theorem Km (s:ByteArray)(w:World)(hv:Vars w)(hs:s.size≤300)(ts:List ai)(hl:gH (sb s)=some ts)(hne:0<ts.length) :
 Calls Tryz.prog 65 #[.string s] w fun e w'=>Below w.heap.size w w'∧∃g cap,e = .returned (.tuple #[.slice (some ⟨g,0,none⟩) ts.length cap,.int .i64 0])∧w.heap.size≤g∧g<w'.heap.size∧rf w' w.heap.size (.slice (some ⟨g,0,none⟩) ts.length cap) ts:=by
 refine(Ei s w hv).mono ?_;rintro e w' ⟨hb,h|⟨_,h,_⟩|⟨_,ts',v,h1,rfl,h2⟩⟩
 · omega
 · rw[hl]at h;cases h
 · rw[hl]at h1;injection h1 with h1;subst h1
   obtain⟨g,cap,rfl,h3,h4,_,_⟩:=Own.some h2 hne;exact⟨hb,g,cap,rfl,h3,h4,h2⟩
theorem Kn (s:ByteArray)(w:World)(hv:Vars w)(hs:s.size≤300)(hl:gH (sb s)=none) :
 Calls Tryz.prog 65 #[.string s] w fun e w'=>Below w.heap.size w w'∧e = .returned (.tuple #[.slice none 0 0,.int .i64 5]):=by
 refine(Ei s w hv).mono ?_;rintro e w' ⟨hb,h|⟨_,_,rfl⟩|⟨_,ts',v,h1,_⟩⟩
 · omega
 · exact⟨hb,rfl⟩
 · rw[hl]at h1;cases h1
structure aO where
 n:Nd
 g:Option (Nat × Nat)
def aO.dL (v:aO):Value:=match v.g with
 | none => .slice none 0 0
 | some (g,c) => .slice (some ⟨g,0,none⟩) v.n.kids.length c
def dh(n:Nd)(k:Value):Array Value:=#[.int .i64 n.kind,.int .i64 n.num,.string n.text,.string n.ref.sh,.int .i64 n.ref.c,.int .i64 n.ref.r,.bool n.ref.ac,.bool n.ref.ar,.string n.ag.sh,.int .i64 n.ag.c,.int .i64 n.ag.r,.bool n.ag.ac,.bool n.ag.ar,k]
theorem aO.one (v:aO):v.dL.oneCell'=true:=by
 unfold aO.dL;split <;> rfl
theorem Vy (n:Nd)(k:Value)(hk:k.oneCell'=true):∀u∈(dh n k).toList,u.oneCell'=true:=by
 intro v hv;simp only[dh,gp,List.not_mem_nil,or_false]at hv;rcases hv with rfl|rfl|rfl|rfl|rfl|rfl|rfl|rfl|rfl|rfl|rfl|rfl|rfl|rfl
 all_goals first|rfl|exact hk
theorem zO {w w1:World}{pb q:Nat}{n:Nd}{k:Value}(hb:Below w.heap.size w w1)(hp:pb<w.heap.size)(hc:∀j,j<14→w.cell? ⟨pb,q+j,none⟩=(dh n k).toList[j]?) :
 w1.cell? ⟨pb,q,none⟩=some (.int .i64 n.kind)∧w1.cell? ⟨pb,q+1,none⟩=some (.int .i64 n.num)∧w1.cell? ⟨pb,q+2,none⟩=some (.string n.text)∧w1.cell? ⟨pb,q+3,none⟩=some (.string n.ref.sh)∧w1.cell? ⟨pb,q+4,none⟩=some (.int .i64 n.ref.c)∧w1.cell? ⟨pb,q+5,none⟩=some (.int .i64 n.ref.r)∧w1.cell? ⟨pb,q+6,none⟩=some (.bool n.ref.ac)∧w1.cell? ⟨pb,q+7,none⟩=some (.bool n.ref.ar)∧w1.cell? ⟨pb,q+8,none⟩=some (.string n.ag.sh)∧w1.cell? ⟨pb,q+9,none⟩=some (.int .i64 n.ag.c)∧w1.cell? ⟨pb,q+10,none⟩=some (.int .i64 n.ag.r)∧w1.cell? ⟨pb,q+11,none⟩=some (.bool n.ag.ac)∧w1.cell? ⟨pb,q+12,none⟩=some (.bool n.ag.ar)∧w1.cell? ⟨pb,q+13,none⟩=some k:=by
 have h:=fun j (hj:j<14)=>(hb.cell (p:=⟨pb,q+j,none⟩) hp).trans (hc j hj)
 exact⟨h 0 (by decide),h 1 (by decide),h 2 (by decide),h 3 (by decide),h 4 (by decide),h 5 (by decide),h 6 (by decide),h 7 (by decide),h 8 (by decide),h 9 (by decide),h 10 (by decide),h 11 (by decide),h 12 (by decide),h 13 (by decide)⟩
def xM:Enc aO 14:={ f:=fun v=>(dh v.n v.dL).toList,len:=fun _=>rfl,one:=fun v u hu=>Vy _ _ v.one u hu }
def jD(w:World)(lo:Nat)(nv:Value)(vs:List aO):Prop:=Own xM 106 w lo nv vs∧∀v∈vs,Own (bK .i64) 3 w lo v.dL v.n.kids
theorem jD.keep {w w':World}{lo:Nat}{nv:Value}{vs:List aO}(h:jD w lo nv vs)(hk:∀g,lo≤g→g<w.heap.size→w'.heap[g]? = w.heap[g]?):jD w' lo nv vs :=
 ⟨h.1.keep fun g a b _=>hk g a b,fun v hv=>(h.2 v hv).keep fun g a b _=>hk g a b⟩
theorem jD.nil(w:World)(lo:Nat):jD w lo (.slice none 0 0) []:=⟨Own.nil _ _ _ _,fun v hv=>absurd hv (by simp)⟩
def zA(w:World)(k:Nat):Prop:=∃cur fr,w.heap[k]? = some (.cells cur 106 fr)
structure Fr (w w':World)(b:Nat):Prop where
 os:w'.os=w.os
 tape:w'.tape=w.tape
 output:w'.output=w.output
 size:w.heap.size≤w'.heap.size
 block:∀k,k<w.heap.size→k≠b→(k<b∨¬ zA w k)→w'.heap[k]? = w.heap[k]?
theorem Fr.refl(w:World)(b:Nat):Fr w w b:=⟨rfl,rfl,rfl,aj _,fun _ _ _ _=>rfl⟩
theorem Fr.trans {w w1 w2:World}{b:Nat}(h:Fr w w1 b)(k:Fr w1 w2 b):Fr w w2 b :=
 ⟨k.os.trans h.os,k.tape.trans h.tape,k.output.trans h.output,eO h.size k.size,fun j hj hb hr=>by
  have h1:=h.block j hj hb hr;rw[k.block j (fM hj h.size) hb (hr.imp id fun hn ⟨cur,fr,e⟩=>hn ⟨cur,fr,by rw[← h1];exact e⟩)];exact h1⟩
theorem Fr.below {w w1 w2:World}{b:Nat}(h:Fr w w1 b)(k:Below w1.heap.size w1 w2):Fr w w2 b :=
 ⟨k.os.trans h.os,k.tape.trans h.tape,k.output.trans h.output,eO h.size k.size,fun j hj hb hr=>by
  rw[k.block j (fM hj h.size)];exact h.block j hj hb hr⟩
theorem Fr.of{w w1:World}(b:Nat)(k:Below w.heap.size w w1):Fr w w1 b:=(Fr.refl w b).below k
theorem Fr.setCell {w w1:World}{b:Nat}(h:Fr w w1 b)(o:Nat)(v:Value):Fr w (w1.setCell ⟨b,o,none⟩ v) b :=
 ⟨h.os,h.tape,h.output,by simpa using h.size,fun j hj hb hr=>by
  rw[jA _ _ _ _ (by intro e;exact hb e)];exact h.block j hj hb hr⟩
theorem Fr.drew{w w1:World}{b:Nat}(h:Fr w w1 b):Fr w w1.drew b:=⟨h.os,h.tape,h.output,h.size,h.block⟩
theorem Fr.row {w w1 w2:World}{b:Nat}{r:Option Nat}(h:Fr w w1 b)(k:w1.grownBy w2 r)(hr:∀g,r=some g→b<g∧(w.heap.size≤g∨zA w1 g)):Fr w w2 b :=
 ⟨k.os.trans h.os,k.tape.trans h.tape,k.output.trans h.output,eO h.size k.size,fun j hj hb hc=>by
  have h1:=h.block j hj hb hc
  rw [k.block j (fM hj h.size) (by
   intro e;obtain⟨h2,h3⟩:=hr j e.symm;rcases h3 with h3|⟨cur,fr,h3⟩
   · omega
   · rcases hc with hc|hc
     · omega
     · exact hc ⟨cur,fr,by rw[← h1];exact h3⟩)]
  exact h1⟩
theorem Fr.toBelow {w w':World}{B b:Nat}(h:Fr w w' b)(hb:B≤b)(hB:B≤w.heap.size):Below B w w' :=
 ⟨h.os,h.tape,h.output,h.size,fun j hj=>h.block j (by omega) (by omega) (.inl (by omega))⟩
theorem Own.fr {α : Type}{size:Nat}{E:Enc α size}{e:TypeId}{w w':World}{base b:Nat}{v:Value}{xs:List α}(h:Own E e w base v xs)(hf:Fr w w' b)(hb:b<base)(he:e≠106):Own E e w' base v xs:=by
 refine⟨h.1, ?_⟩;rcases h.2 with h|⟨g,cap,cur,h1,h2,h3,h4⟩
 · exact .inl h
 · refine .inr ⟨g,cap,cur,h1,h2, ?_,h4⟩
   rw [hf.block g (cu.1 h3).1 (by omega) (.inr (by
    rintro⟨c,fr,e2⟩;rw[h3]at e2;injection e2 with e2;injection e2 with _ e2;exact he e2))];exact h3
def xC(w:World)(b:Nat)(tv:Value)(ts:List ai):Prop:=∃g cap,tv = .slice (some ⟨g,0,none⟩) ts.length cap∧g<b∧rf w 0 tv ts
def mE:List (ByteArray × Nat × Int):=[(⟨#[61]⟩,0,9),(⟨#[60,62]⟩,0,10),(⟨#[60]⟩,0,11),(⟨#[60,61]⟩,0,12),(⟨#[62]⟩,0,13),(⟨#[62,61]⟩,0,14),(⟨#[38]⟩,1,15),(⟨#[43]⟩,2,16),(⟨#[45]⟩,2,17),(⟨#[42]⟩,3,18),(⟨#[47]⟩,3,19)]
def ve:Array Value:=(mE.flatMap fun p=>[.string p.1,.int .i64 (p.2.1:Int),.int .i64 p.2.2]).toArray
def kE(w:World):Prop:=∃ty fr,w.heap[(2:Nat)]? = some (.cells ve ty fr)
theorem kE.lt{w:World}(h:kE w):2<w.heap.size:=by obtain⟨_,_,h⟩:=h;exact(cu.1 h).1
theorem kE.keep{w w':World}(h:kE w)(hk:w'.heap[(2:Nat)]? = w.heap[(2:Nat)]?):kE w':=by obtain⟨ty,fr,h⟩:=h;exact⟨ty,fr,by rw[hk];exact h⟩
theorem kE.below{w w':World}(h:kE w)(hb:Below w.heap.size w w'):kE w':=h.keep (hb.block _ h.lt)
structure aR (w:World)(b:Nat)(tv:Value)(ts:List ai)(p deep:Nat)(nv:Value)(vs:List aO):Prop where
 cell:w.heap[b]? = some (.cells #[tv,.int .i64 (p:Int),.int .i64 (deep:Int),nv] 127)
 vD:xC w b tv ts
 nodes:jD w (b+1) nv vs
 ops:kE w
 lt:p<ts.length
 low:max 4 2<b
 fit:Fit ts
 few:ts.length≤1000
 cnt:vs.length≤p
 nest:deep≤12
section
variable {w:World} {b:Nat} {tv:Value} {ts:List ai} {p deep:Nat} {nv:Value} {vs:List aO}
theorem aR.blt(h:aR w b tv ts p deep nv vs):b<w.heap.size:=(cu.1 h.cell).1
theorem aR.below {w':World}(h:aR w b tv ts p deep nv vs)(hb:Below w.heap.size w w'):aR w' b tv ts p deep nv vs:=by
 have hl:=h.blt;refine⟨by rw[hb.block b hl];exact h.cell, ?_,h.nodes.keep fun g _ hg=>hb.block g hg,h.ops.below hb,h.lt,h.low,h.fit,h.few,h.cnt,h.nest⟩;obtain⟨g,cap,h1,h2,h3⟩:=h.vD;exact⟨g,cap,h1,h2,h3.keep fun g _ hg _=>hb.block g hg⟩
theorem aR.facts (h:aR w b tv ts p deep nv vs):w.cell? ⟨b,0,none⟩=some tv∧w.cell? ⟨b,1,none⟩=some (.int .i64 (p:Int))∧w.cell? ⟨b,2,none⟩=some (.int .i64 (deep:Int))∧w.cell? ⟨b,3,none⟩=some nv :=
 ⟨by rw[cell_of_row w b 0 _ _ _ h.cell];rfl,by rw[cell_of_row w b 1 _ _ _ h.cell];rfl,by rw[cell_of_row w b 2 _ _ _ h.cell];rfl,by rw[cell_of_row w b 3 _ _ _ h.cell];rfl⟩
theorem aR.frozen(h:aR w b tv ts p deep nv vs)(j:Nat):w.frozen? ⟨b,j,none⟩=false:=frozen_of_row w b j _ _ h.cell
theorem xC.set (h:xC w b tv ts)(o:Nat)(v:Value):xC (w.setCell ⟨b,o,none⟩ v) b tv ts:=by
 obtain⟨g,cap,h1,h2,h3⟩:=h;refine⟨g,cap,h1,h2,h3.keep fun j _ _ hj=>jA _ _ _ _ ?_⟩;rw[h1]at hj;injection hj with hj;show j≠b;have:g=j:=hj;omega
theorem jD.set {c:Nat}(h:jD w (b+1) nv vs)(hc:c<b+1)(o:Nat)(v:Value):jD (w.setCell ⟨c,o,none⟩ v) (b+1) nv vs :=
 h.keep fun j hj _=>jA _ _ _ _ (by show j≠c;omega)
theorem kE.set(h:kE w)(hb:max 4 2<b)(o:Nat)(v:Value):kE (w.setCell ⟨b,o,none⟩ v):=h.keep (jA _ _ _ _ (by show 2≠b;omega))
theorem aR.Ya (h:aR w b tv ts p deep nv vs)(m:Nat)(hm:m<ts.length)(hp:p≤m):aR (w.setCell ⟨b,1,none⟩ (.int .i64 (m:Int))) b tv ts m deep nv vs :=
 ⟨by rw[heap_setCell_same w b 1 _ _ _ h.cell];rfl,h.vD.set _ _,h.nodes.set (by omega) _ _,h.ops.set h.low _ _,hm,h.low,h.fit,h.few,by have:=h.cnt;omega,h.nest⟩
theorem aR.next(h:aR w b tv ts p deep nv vs)(hm:p+1<ts.length):aR (w.setCell ⟨b,1,none⟩ (.int .i64 ((p:Int)+1))) b tv ts (p+1) deep nv vs:=h.Ya (p+1) hm (by omega)
theorem aR.EL (h:aR w b tv ts p deep nv vs)(m:Nat)(hm:m≤12):aR (w.setCell ⟨b,2,none⟩ (.int .i64 (m:Int))) b tv ts p m nv vs :=
 ⟨by rw[heap_setCell_same w b 2 _ _ _ h.cell];rfl,h.vD.set _ _,h.nodes.set (by omega) _ _,h.ops.set h.low _ _,h.lt,h.low,h.fit,h.few,h.cnt,hm⟩
theorem aR.drew(h:aR w b tv ts p deep nv vs):aR w.drew b tv ts p deep nv vs:=⟨h.cell,h.vD,h.nodes,h.ops,h.lt,h.low,h.fit,h.few,h.cnt,h.nest⟩
theorem aR.tok (h:aR w b tv ts p deep nv vs):∃g cap t,tv = .slice (some ⟨g,0,none⟩) ts.length cap∧ts[p]? = some t∧ts.drop p=t :: ts.drop (p+1)∧g<w.heap.size∧w.cell? ⟨g,p*9,none⟩=some (.int .i64 t.kind)∧w.cell? ⟨g,p*9+1,none⟩=some (.string t.text)∧w.cell? ⟨g,p*9+2,none⟩=some (.int .i64 t.num)∧w.cell? ⟨g,p*9+3,none⟩=some (.string t.sh)∧w.cell? ⟨g,p*9+4,none⟩=some (.int .i64 t.c)∧w.cell? ⟨g,p*9+5,none⟩=some (.int .i64 t.r)∧w.cell? ⟨g,p*9+6,none⟩=some (.bool t.ac)∧w.cell? ⟨g,p*9+7,none⟩=some (.bool t.ar)∧w.cell? ⟨g,p*9+8,none⟩=some (.int .i64 t.pos):=by
 obtain⟨g,cap,h1,h2,h3⟩:=h.vD;have hl:=h.lt;rw[h1]at h3;have hc:=fun j hj=>rf.cell h3 p _ (aX hl) j hj
 exact⟨g,cap,ts[p],h1,aX hl,List.drop_eq_getElem_cons hl,by have:=h.blt;omega,hc 0 (by omega),hc 1 (by omega),hc 2 (by omega),hc 3 (by omega),hc 4 (by omega),hc 5 (by omega),hc 6 (by omega),hc 7 (by omega),hc 8 (by omega)⟩
end
theorem Fit.next {ts:List ai}{p:Nat}{t:ai}(h:Fit ts)(ht:ts[p]? = some t)(hk:t.kind≠0):p+1<ts.length:=by
 obtain⟨body,e,rfl,he,_⟩:=h;have hp:=(eH.1 ht).1;rw[ax,gu]at hp ⊢;rcases Nat.lt_or_ge p body.length with h1|h1
 · omega
 · exfalso
   rw[List.getElem?_append_right h1,show p - body.length=0 from by omega]at ht;simp at ht;subst ht;exact hk he
def qD(b n:Nat)(w:World):Nat:=n - (match w.cell? ⟨b,1,none⟩with|some (.int _ m)=>m.toNat|_=>0)
theorem aR.qD {w:World}{b:Nat}{tv:Value}{ts:List ai}{p deep:Nat}{nv:Value}{vs:List aO}(h:aR w b tv ts p deep nv vs)(n:Nat):qD b n w=n - p:=by
 unfold Go.Proofs.YtahjnhmidjeniaaGreatDoor.qD;rw[h.facts.2.1];rfl
theorem Xw:Tryz.f67.results=#[.cell 2 130]:=by kernel_rfl
theorem Wd {w:World}{b:Nat}{t:ai}(h:aC w b t)(fn:Func)(tmps:Array Value)(p:Tmp)(hf:fn.results=#[.cell p 130])(hp:tmps.getD p undef = .pointer (some ⟨b,0,none⟩)) :
 (results fn tmps).run Tryz.prog w = .ok (.agg (nC t)) w:=results_cell_row hf tmps w b 130 _ _ _ hp h Tryz.underlying130 rfl MI
theorem AJ {w:World}{b:Nat}{tv:Value}{ts:List ai}{p deep:Nat}{nv:Value}{vs:List aO}(h:aR w b tv ts p deep nv vs)(t:ai)(ht:ts[p]? = some t) :
 Calls Tryz.prog 67 #[.pointer (some ⟨b,0,none⟩)] w fun e w'=>e = .returned (.agg #[.int .i64 t.kind,.string t.text,.int .i64 t.num,.string t.sh,.int .i64 t.c,.int .i64 t.r,.bool t.ac,.bool t.ar,.int .i64 t.pos])∧Below w.heap.size w w':=by
 have hal:Below w.heap.size w (w.alloc (.cells qf 130)):=(ak _ _).alloc (aj _) _;have h1:=h.below hal;obtain⟨c0,c1,c2,c3⟩:=h1.facts;obtain⟨g,cap,t',rfl,ht', -,hg,k0,k1,k2,k3,k4,k5,k6,k7,k8⟩:=h1.tok;rw[ht]at ht';injection ht' with ht';subst ht';have hlt:=h.lt;have hi1:(0:Int)≤(p:Int):=by omega
 have hi2:(p:Int)<(ts.length:Int):=by omega
 obtain⟨n,hn⟩:∃n,ts.length=n:=⟨_,rfl⟩;rw[hn]at hi2 c0;have cO:=aC.zero w;obtain⟨x0,x1,x2,x3,x4,x5,x6,x7,aY⟩:=cO.cells;obtain⟨f0,f1,f2,f3,f4,f5,f6,f7,f8⟩:=cO.dM;have cO:=ae cO;have dJ:=ae hal;clear h h1 hal c2 c3 ht hlt hn;go_enter Tryz.func67,Tryz.ntmps67;go_wp2_with fail
 go_region
 go_wp2_with fail
 exact bodyPost_ret (Wd (aC.new w t).drew _ _ 2 Xw rfl) rfl ⟨rfl,((ak _ _).alloc (aj _) _).drew⟩
theorem Mc{s:ByteArray}{ts:List ai}{p:Nat}{t:ai}(hd:ts.drop p=t :: ts.drop (p+1)):ay s (ts.drop p)=(decide (t.kind=5)&&decide (t.text=s)):=by rw[hd];rfl
theorem uU {w:World}{b:Nat}{tv:Value}{ts:List ai}{p deep:Nat}{nv:Value}{vs:List aO}(h:aR w b tv ts p deep nv vs)(s:ByteArray) :
 Calls Tryz.prog 115 #[.pointer (some ⟨b,0,none⟩),.string s] w fun e w'=>e = .returned (.bool (ay s (ts.drop p)))∧Below w.heap.size w w':=by
 obtain⟨g,cap,t, -,ht,hd, -⟩:=h.tok;have HT:=ae (AJ h t ht);have HS:=ae (Mc (s:=s) hd);clear h ht hd;go_enter Tryz.func115,Tryz.ntmps115;go_upto_region 2 with (go_at_call 67;((with_reducible refine HT.o.mono ?_);rintro e w1 ⟨rfl,h1⟩;have HB:=ae h1;clear h1))
 have hB3:Below w1.heap.size w1 (w1.alloc (.cells #[.int .i64 t.kind,.string t.text,.int .i64 t.num,.string t.sh,.int .i64 t.c,.int .i64 t.r,.bool t.ac,.bool t.ar,.int .i64 t.pos] 130)):=(ak _ _).alloc (aj _) _;have bf:aC (w1.alloc (.cells #[.int .i64 t.kind,.string t.text,.int .i64 t.num,.string t.sh,.int .i64 t.c,.int .i64 t.r,.bool t.ac,.bool t.ar,.int .i64 t.pos] 130)) w1.heap.size t:=aC.new w1 t;have HB3:=ae (HB.o.trans (hB3.mono HB.o.size));clear hB3 HB;generalize w1.alloc (.cells #[.int .i64 t.kind,.string t.text,.int .i64 t.num,.string t.sh,.int .i64 t.c,.int .i64 t.r,.bool t.ac,.bool t.ar,.int .i64 t.pos] 130)=w3 at bf HB3 ⊢;obtain⟨x0,x1,x2,x3,x4,x5,x6,x7,aY⟩:=bf.cells;clear bf;by_cases h5:t.kind=5
 · have e5:(t.kind == 5)=true:=bI.2 h5
   by_cases hs:t.text=s
   · have hs1:t.text.toList=s.toList:=by rw[hs]
     have iW:=ae (show ay s (ts.drop p)=true by rw[HS.o,aL h5,aL hs];rfl);clear h5 hs;go_wp2_with fail
     go_ret;exact⟨by rw[iW.o];rfl,HB3.o⟩
   · have iW:=ae (show ay s (ts.drop p)=false by rw[HS.o,aL h5,aK hs];rfl)
     have HE:=ae (show(t.text.toList == s.toList)=false from aB.2 (yI _ _ hs));clear h5 hs;go_wp2_with fail
     go_ret;exact⟨by rw[iW.o];exact fB HE.o,HB3.o⟩
 · have e5:(t.kind == 5)=false:=aB.2 h5
   have iW:=ae (show ay s (ts.drop p)=false by rw[HS.o,aK h5];rfl);clear h5;go_wp2_with fail
   go_ret;exact⟨by rw[iW.o];rfl,HB3.o⟩
theorem vz {w:World}{b:Nat}{tv:Value}{ts:List ai}{p deep:Nat}{nv:Value}{vs:List aO}(h:aR w b tv ts p deep nv vs){s:ByteArray}(hs:ay s (ts.drop p)=true):p+1<ts.length:=by
 obtain⟨g,cap,t, -,ht,hd, -⟩:=h.tok;rw[Mc hd,bu,aA]at hs;exact h.fit.next ht (by omega)
theorem XC {w:World}{b:Nat}{tv:Value}{ts:List ai}{p deep:Nat}{nv:Value}{vs:List aO}(h:aR w b tv ts p deep nv vs)(hne:0<vs.length) :
 Calls Tryz.prog 118 #[.pointer (some ⟨b,0,none⟩)] w fun e w'=>e = .returned (.int .i64 ((vs.length:Int) - 1))∧w=w':=by
 obtain⟨c0,c1,c2,c3⟩:=h.facts;obtain⟨g,cap,rfl, -, -, -, -⟩:=Own.some h.nodes.1 hne;have h1:=h.cnt;have h2:=h.few;have h3:=h.lt;have hw1 : -9223372036854775808≤(vs.length:Int) - 1:=by omega
 have hw2:(vs.length:Int) - 1≤9223372036854775807:=by omega
 obtain⟨n,hn⟩:∃n,vs.length=n:=⟨_,rfl⟩;rw[hn]at c3 hw1 hw2 ⊢;clear h c0 c1 c2 h1 h2 h3 hne hn;go_enter Tryz.func118,Tryz.ntmps118;go_wp2_with fail
 go_ret;exact⟨rfl,rfl⟩
theorem Ew {w:World}{b:Nat}{tv:Value}{ts:List ai}{p deep:Nat}{nv:Value}{vs:List aO}(h:aR w b tv ts p deep nv vs)(s:ByteArray) :
 Calls Tryz.prog 152 #[.pointer (some ⟨b,0,none⟩),.string s] w fun e w'=>Fr w w' b∧e = .returned (.bool (ay s (ts.drop p)))∧aR w' b tv ts (if ay s (ts.drop p)=true then p+1 else p) deep nv vs:=by
 have HS:=ae (uU h s);have HP:=ae h;cases hq:ay s (ts.drop p)
 · rw[hq]at HS
   clear h hq;go_enter Tryz.func152,Tryz.ntmps152;go_wp2_with (go_at_call 115;((with_reducible refine HS.o.mono ?_);rintro e w1 ⟨rfl,h1⟩;have HB:=ae h1;clear h1))
   go_ret;exact⟨Fr.of b HB.o,rfl,HP.o.below HB.o⟩
 · have hnx:=vz h hq
   have h2:=h.few;rw[hq]at HS;clear h hq;go_enter Tryz.func152,Tryz.ntmps152;go_wp2_with (go_at_call 115;((with_reducible refine HS.o.mono ?_);rintro e w1 ⟨rfl,h1⟩;have HB:=ae h1;have bW:=ae (HP.o.below h1);clear h1;obtain⟨c0,c1,c2,c3⟩:=bW.o.facts;have f1:=bW.o.frozen 1))
   go_ret;exact⟨(Fr.of b HB.o).setCell _ _,rfl,bW.o.next hnx⟩
theorem tL {w:World}{b:Nat}{tv:Value}{ts:List ai}{p deep:Nat}{nv:Value}{vs:List aO}(h:aR w b tv ts p deep nv vs)(hnx:p+1<ts.length) :
 Calls Tryz.prog 116 #[.pointer (some ⟨b,0,none⟩)] w fun e w'=>Fr w w' b∧((12≤deep∧e = .returned (.int .i64 6))∨(¬ 12≤deep∧e = .returned (.int .i64 0)∧aR w' b tv ts (p+1) (deep+1) nv vs)):=by
 obtain⟨c0,c1,c2,c3⟩:=h.facts;have f1:=h.frozen 1;have f2:=h.frozen 2;have hn:=h.nest;have hf:=h.few;have HP:=ae h;clear h;by_cases hd:12≤deep
 · have e12:((deep:Int) == 12)=true:=by rw[bI];omega
   go_enter Tryz.func116,Tryz.ntmps116;go_wp2_with fail
   go_ret;exact⟨Fr.refl _ _,.inl ⟨hd,rfl⟩⟩
 · have e12:((deep:Int) == 12)=false:=by rw[aB];omega
   go_enter Tryz.func116,Tryz.ntmps116;go_wp2_with fail
   go_ret;exact⟨((Fr.refl _ _).setCell _ _).setCell _ _,.inr ⟨hd,rfl,(HP.o.EL (deep+1) (by omega)).next hnx⟩⟩
theorem Lc {w:World}{b:Nat}{tv:Value}{ts:List ai}{p deep:Nat}{nv:Value}{vs:List aO}(h:aR w b tv ts p (deep+1) nv vs) :
 Calls Tryz.prog 155 #[.pointer (some ⟨b,0,none⟩)] w fun e w'=>Fr w w' b∧((ay ⟨#[41]⟩ (ts.drop p)=false∧e = .returned (.int .i64 5))∨(ay ⟨#[41]⟩ (ts.drop p)=true∧e = .returned (.int .i64 0)∧aR w' b tv ts (p+1) deep nv vs)):=by
 have HT:=ae (Ew h ⟨#[41]⟩);have hn:=h.nest;clear h;cases hq:ay ⟨#[41]⟩ (ts.drop p)
 · rw[hq]at HT
   clear hq;go_enter Tryz.func155,Tryz.ntmps155;go_wp2_with (go_at_call 152;((with_reducible refine HT.o.mono ?_);rintro e w1 ⟨h1,rfl,h2⟩;have HF:=ae h1;clear h1 h2))
   go_ret;exact⟨HF.o,.inl ⟨by trivial,rfl⟩⟩
 · rw [hq]at HT
   clear hq;go_enter Tryz.func155,Tryz.ntmps155;go_wp2_with (go_at_call 152;((with_reducible refine HT.o.mono ?_);rintro e w1 ⟨h1,rfl,h2⟩;rw[ah rfl]at h2;have HF:=ae h1;have bW:=ae h2;obtain⟨c0,c1,c2,c3⟩:=h2.facts;have f2:=h2.frozen 2;rw[show((deep+1:Nat):Int)=(deep:Int)+1 from rfl]at c2;clear h1 h2))
   go_ret;refine⟨HF.o.setCell _ _,.inr ⟨by trivial,rfl, ?_⟩⟩;have:=bW.o.EL deep (by omega)
   first
    | exact this
    | (rw[show(deep:Int)+1 - 1=(deep:Int)from by omega];exact this)
theorem XL {P:Program}{w:World}(t e:TypeId)(n sz:Nat)(cs:Array Value)(k:Nat)(v:Array Value)(d:TypeDesc)(h:P.underlying t=some (.array n e))(he:P.underlying e=some d)(hd:(match d with | .struct _ | .array _ _=>true|_=>false)=true)
 (hsz:(P.info? e).map (·.size)=some sz) (hk:k<n) (hv:cs.extract (k*sz) (k*sz+sz)=v):(Instr.index t (.agg cs) (.int .i64 (k:Int))).run P w = .ok (.agg v) w:=by
 have h1:(0:Int)≤(k:Int)∧(k:Int)<(n:Int):=by omega
 cases hq:P.info? e with
 | none=>simp[hq]at hsz
 | some i =>
   have hs':i.size=sz:=by simp[hq]at hsz;exact hsz
   simp[Instr.index,run_underlying h,asIntOf,h1,sizeOf,typeInfo,hq,hs',part,isAgg,run_underlying he,go_sem];cases d <;> simp_all
theorem Z9 {P:Program}{ops:Array Oper}{rest:List Oper}{op:Oper}{a:Act}{w:World}{Q:Exit→Act→World→Prop}(hgd:op.guard=none)(t e:TypeId)(n sz:Nat)(x y:Operand)(ho:op.op = .index t x y)
 (cs:Array Value) (k:Nat) (v:Array Value) (d:TypeDesc) (h:P.underlying t=some (.array n e)) (he:P.underlying e=some d) (hd:(match d with | .struct _ | .array _ _=>true|_=>false)=true)
 (hsz:(P.info? e).map (·.size)=some sz) (hx:a.eval x = .agg cs) (hy:a.eval y = .int .i64 (k:Int)) (hk:k<n) (hv:cs.extract (k*sz) (k*sz+sz)=v)
 (hh:wpList P ops Q rest (a.put op.dst (.agg v)) w):wpList P ops Q (op :: rest) a w :=
 wpList_plain hgd fun _ hK=>by
  unfold Oper.wp execOp;simp only[ho,hx,hy,Sem.run_bind,Sem.run_pure,Result.andThen_ok,XL t e n sz cs k v d h he hd hsz hk hv];exact hK _ _ hh
theorem IX {α : Type}(f : α → Bool):∀(l:List α)(j:Nat)(x : α),l[j]? = some x→f x=true→(∀q y,q<j→l[q]? = some y→f y=false)→l.find? f=some x
 | [],j,x,h,_,_=>by simp at h
 | a :: l,0,x,h,hx,_=>by simp at h;subst h;rw[List.find?_cons,hx]
 | a :: l,j+1,x,h,hx,hn=>by
   rw[List.find?_cons,hn 0 a (by omega) rfl];exact IX f l j x (by simpa using h) hx fun q y hq hy=>hn (q+1) y (by omega) (by simpa using hy)
theorem IZ {α : Type}(f : α → Bool):∀(l:List α),(∀(q:Nat) y,l[q]? = some y→f y=false)→l.find? f=none
 | [],_=>rfl
 | a :: l,h=>by rw[List.find?_cons,h 0 a rfl];exact IZ f l fun q y hy=>h (q+1) y (by simpa using hy)
def lS(n:Nat)(ts:List ai)(q:ByteArray × Nat × Int):Bool:=decide (q.2.1=n)&&ay q.1 ts
theorem IY (n:Nat)(ts:List ai):∀L:List (ByteArray × Nat × Int),(((L.filter fun q=>decide (q.2.1=n)).map fun q=>(q.1,q.2.2)).find? fun p=>ay p.1 ts)=(L.find? (lS n ts)).map fun q=>(q.1,q.2.2)
 | []=>rfl
 | a :: L=>by
   have ih:=IY n ts L;by_cases h:a.2.1=n
   · rw[List.filter_cons,ah (by simpa using h),fP,List.find?_cons,List.find?_cons]
     have e:lS n ts a=ay a.1 ts:=by unfold lS;rw[aL h,jW]
     rw[e];cases ay a.1 ts
     · exact ih
     · rfl
   · rw[List.filter_cons,af (by simpa using h),List.find?_cons]
     have e:lS n ts a=false:=by unfold lS;rw[aK h,Bool.false_and]
     rw[e];exact ih
theorem UA:∀n:Nat,n≤3→ni n=(mE.filter fun q=>decide (q.2.1=n)).map fun q=>(q.1,q.2.2)
 | 0,_=>rfl
 | 1,_=>rfl
 | 2,_=>rfl
 | 3,_=>rfl
 | n+4,h=>by omega
theorem VO (n:Nat)(ts:List ai)(h:n≤3):dO n ts=match mE.find? (lS n ts)with
 | some q=>q.2.2
 | none=>0:=by
 unfold dO;rw[UA n h,IY];cases mE.find? (lS n ts) <;> rfl
theorem VT:∀j:Nat,j<11→∃q:ByteArray × Nat × Int,mE[j]? = some q∧ve.extract (j*3) (j*3+3)=#[.string q.1,.int .i64 (q.2.1:Int),.int .i64 q.2.2]∧q.2.1≤3
 | 0,_=>⟨_,rfl,rfl,by decide⟩
 | 1,_=>⟨_,rfl,rfl,by decide⟩
 | 2,_=>⟨_,rfl,rfl,by decide⟩
 | 3,_=>⟨_,rfl,rfl,by decide⟩
 | 4,_=>⟨_,rfl,rfl,by decide⟩
 | 5,_=>⟨_,rfl,rfl,by decide⟩
 | 6,_=>⟨_,rfl,rfl,by decide⟩
 | 7,_=>⟨_,rfl,rfl,by decide⟩
 | 8,_=>⟨_,rfl,rfl,by decide⟩
 | 9,_=>⟨_,rfl,rfl,by decide⟩
 | 10,_=>⟨_,rfl,rfl,by decide⟩
 | j+11,h=>by omega
theorem KZ:Tryz.prog.underlying 232=some (.array 11 231):=Tryz.underlying232
theorem V4:(Tryz.prog.info? 232).map (·.size)=some ve.size:=by kernel_rfl
theorem VX:(Tryz.prog.info? 231).map (·.size)=some 3:=by kernel_rfl
def o6(w:World)(b:Nat)(q:ByteArray × Nat × Int):Prop:=w.heap[b]? = some (.cells #[.string q.1,.int .i64 (q.2.1:Int),.int .i64 q.2.2] 231)
theorem o6.new(w:World)(q:ByteArray × Nat × Int):o6 (w.alloc (.cells #[.string q.1,.int .i64 (q.2.1:Int),.int .i64 q.2.2] 231)) w.heap.size q:=(gV w _).1
theorem o6.facts {w:World}{b:Nat}{q:ByteArray × Nat × Int}(h:o6 w b q):w.cell? ⟨b,0,none⟩=some (.string q.1)∧w.cell? ⟨b,1,none⟩=some (.int .i64 (q.2.1:Int))∧w.cell? ⟨b,2,none⟩=some (.int .i64 q.2.2) :=
 ⟨by rw[cell_of_row w b 0 _ _ _ h];rfl,by rw[cell_of_row w b 1 _ _ _ h];rfl,by rw[cell_of_row w b 2 _ _ _ h];rfl⟩
theorem o6.lt{w:World}{b:Nat}{q:ByteArray × Nat × Int}(h:o6 w b q):b<w.heap.size:=(cu.1 h).1
theorem o6.below{w w':World}{B b:Nat}{q:ByteArray × Nat × Int}(h:o6 w b q)(hb:Below B w w')(hB:b<B):o6 w' b q:=by unfold o6;rw[hb.block b hB];exact h
theorem VZ {w:World}{b:Nat}{tv:Value}{ts:List ai}{p deep:Nat}{nv:Value}{vs:List aO}(h:aR w b tv ts p deep nv vs)(n:Nat)(hn:n≤3) :
 Calls Tryz.prog 151 #[.pointer (some ⟨b,0,none⟩),.int .i64 (n:Int)] w fun e w'=>e = .returned (.tuple #[.int .i64 (dO n (ts.drop p)),.bool (decide (dO n (ts.drop p)≠0))])∧Below w.heap.size w w':=by
 obtain⟨ty,fr,jJ⟩:=h.ops;have HP:=ae h;clear h;have uA:=ae jJ;clear jJ;have HK:=ae (VO n (ts.drop p) hn);go_enter Tryz.func151,Tryz.ntmps151;go_upto_region 1 with (fail)
 refine wp_region_lit ?_;refine wpList_load_row rfl 232 (.global 2) rfl 2 rfl ty ve fr _ uA.o KZ rfl V4 ?_;go_wp2_with fail
 go_loopw [9] (fun i wr=>∃j:Nat,j≤11∧i = .int .i64 j∧Hid (∀q y,q<j→mE[q]? = some y→lS n (ts.drop p) y=false)∧Hid (Below w.heap.size w wr))
  (fun i _=>11 - (intOf i).toNat)
 case atStart=>exact⟨0,by omega,rfl,ae (by intro q _ hq;omega),ae (ak _ _)⟩
 case round =>
  obtain⟨j,hj,rfl,fo,HB⟩:=hrel;by_cases hlt:j<11
  · have hji:(j:Int)<11:=by omega
    obtain⟨q,hq1,hq2,hq3⟩:=VT j hlt;have uz:=ae hq1;have nN:=ae hq2;clear hq1 hq2;go_upto_region 3 with (fail)
    refine wp_region_lit ?_;refine Z9 rfl 232 231 11 3 (.tmp 8) (.tmp 9) rfl ve j _ _ KZ Tryz.underlying231 rfl VX rfl rfl hlt nN.o ?_;go_upto_region 4 with (fail)
    have hB3:Below wr.heap.size wr (wr.alloc (.cells #[.string q.1,.int .i64 (q.2.1:Int),.int .i64 q.2.2] 231)):=(ak _ _).alloc (aj _) _;have HO:=o6.new wr q;have HB3:=ae (HB.o.trans (hB3.mono HB.o.size));clear hB3 HB nN;generalize wr.alloc (.cells #[.string q.1,.int .i64 (q.2.1:Int),.int .i64 q.2.2] 231)=w3 at HO HB3 ⊢;generalize wr.heap.size=b3 at HO ⊢;obtain⟨x0,x1,x2⟩:=HO.facts;have fu:=ae (HP.o.below HB3.o);by_cases hr:q.2.1=n
    · have er:((q.2.1:Int) == (n:Int))=true:=by rw[bI,hr]
      have HS:=ae (uU fu.o q.1);cases hs:ay q.1 (ts.drop p)
      · have BP:=ae (show lS n (ts.drop p) q=false by unfold lS;rw[hs,Bool.and_false])
        rw[hs]at HS;clear hs hr;go_wp2_with (go_at_call 115;((with_reducible refine HS.o.mono ?_);rintro e w4 ⟨rfl,h1⟩;have dz:=ae (HB3.o.trans (h1.mono HB3.o.size));clear h1))
        go_roundw
        case rel =>
         refine⟨j+1,by omega,by go_num,ae ?_,dz⟩;intro q' y hq' hy;by_cases hqj:q'<j
         · exact fo.o q' y hqj hy
         · rw[show q'=j from by omega,uz.o]at hy;injection hy with hy;subst hy;exact BP.o
        case measure=>simp[intOf];omega
      · have vJ:=ae (show dO n (ts.drop p)=q.2.2 by rw[HK.o,IX (lS n (ts.drop p)) mE j q uz.o (by unfold lS;rw[hs,aL hr];rfl) fo.o])
        have BI:=ae (show q.2.2≠0 from by
         have:∀q∈mE,q.2.2≠0:=by decide
         exact this q (bN uz.o))
        rw[hs]at HS;clear hs hr;have bF:=ae HO;clear x0 x1 x2;obtain⟨x0,x1,x2⟩:=bF.o.facts;go_upto_region 5 with (go_at_call 115;((with_reducible refine HS.o.mono ?_);rintro e w4 ⟨rfl,h1⟩;have dz:=ae (HB3.o.trans (h1.mono HB3.o.size));have fq:=ae (bF.o.below h1 bF.o.lt);clear h1))
        clear x0 x1 x2;obtain⟨x0,x1,x2⟩:=fq.o.facts;go_wp2_with fail
        go_ret2
        exact⟨by rw[vJ.o,aL BI.o];rfl,dz.o⟩
    · have er:((q.2.1:Int) == (n:Int))=false:=by rw[aB];omega
      have BP:=ae (show lS n (ts.drop p) q=false by unfold lS;rw[aK hr,Bool.false_and]);clear hr;go_wp2_with fail
      go_roundw
      case rel =>
       refine⟨j+1,by omega,by go_num,ae ?_,HB3⟩;intro q' y hq' hy;by_cases hqj:q'<j
       · exact fo.o q' y hqj hy
       · rw[show q'=j from by omega,uz.o]at hy;injection hy with hy;subst hy;exact BP.o
      case measure=>simp[intOf];omega
  · have hji:¬ (j:Int)<11:=by omega
    have vJ:=ae (show dO n (ts.drop p)=0 by
     rw[HK.o,IZ (lS n (ts.drop p)) mE (fun q y hy=>fo.o q y (by have:=(eH.1 hy).1;have:q<11:=this;omega) hy)])
    go_wp2_with fail
    go_ret2
    exact⟨by rw[vJ.o];rfl,HB.o⟩
def pX:Nat→FuncId
 | 0=>85
 | 1=>86
 | 2=>87
 | 3=>88
 | 4=>89
 | _=>90
theorem QU:∀n:Nat,n<6→∀args (v:World),(callFunc (pX n) args).run Tryz.prog v = .ok (.enter (pX n) args) v
 | 0,_=>Go.Proofs.enters_of Tryz.func85 (by kernel_rfl) rfl
 | 1,_=>Go.Proofs.enters_of Tryz.func86 (by kernel_rfl) rfl
 | 2,_=>Go.Proofs.enters_of Tryz.func87 (by kernel_rfl) rfl
 | 3,_=>Go.Proofs.enters_of Tryz.func88 (by kernel_rfl) rfl
 | 4,_=>Go.Proofs.enters_of Tryz.func89 (by kernel_rfl) rfl
 | 5,_=>Go.Proofs.enters_of Tryz.func90 (by kernel_rfl) rfl
 | n+6,h=>by omega
def tH(b:Nat):Array Value:=#[.func (.func 85) #[.pointer (some ⟨b,0,none⟩)] #[],.func (.func 86) #[.pointer (some ⟨b,0,none⟩)] #[],.func (.func 87) #[.pointer (some ⟨b,0,none⟩)] #[],.func (.func 88) #[.pointer (some ⟨b,0,none⟩)] #[],.func (.func 89) #[.pointer (some ⟨b,0,none⟩)] #[],.func (.func 90) #[.pointer (some ⟨b,0,none⟩)] #[]]
theorem UU (b:Nat):∀n:Nat,n<6→(tH b)[n]? = some (.func (.func (pX n)) #[.pointer (some ⟨b,0,none⟩)] #[])
 | 0,_=>rfl
 | 1,_=>rfl
 | 2,_=>rfl
 | 3,_=>rfl
 | 4,_=>rfl
 | 5,_=>rfl
 | n+6,h=>by omega
theorem UX(b:Nat):(Tryz.prog.info? 159).map (·.size)=some (tH b).size:=by kernel_rfl
theorem UW (b:Nat):∀v∈(tH b).toList,v.oneCell'=true:=by
 intro v hv;simp only[tH,gp,List.not_mem_nil,or_false]at hv;rcases hv with rfl|rfl|rfl|rfl|rfl|rfl <;> rfl
theorem below_setRow {B:Nat}{a w:World}{g:Nat}(h:Below B a w)(hg:B≤g)(cs:Array Value):Below B a (w.setRow g cs) :=
 ⟨h.os,h.tape,h.output,by simpa using h.size,fun j hj=>by rw[Go.setRow_other w g j cs (by omega)];exact h.block j hj⟩
theorem Ec (b n:Nat)(hn:n<6)(w:World)(R:Ending→World→Prop)(hR:∀e w',R e w'→∃c,e = .returned (.int .i64 c))(hc:∀w',Below w.heap.size w w'→Calls Tryz.prog (pX n) #[.pointer (some ⟨b,0,none⟩)] w' R) :
 Calls Tryz.prog 66 #[.pointer (some ⟨b,0,none⟩),.int .i64 (n:Int)] w R:=by
 have HC:=ae hc;clear hc;have HRR:=ae hR;clear hR;have Dm:=QU n hn;have HAT:=ae (UU b n hn);have hi1:(0:Int)≤(n:Int):=by omega
 have hi2:(n:Int)<6:=by omega
 obtain⟨F,hF⟩:∃F,pX n=F:=⟨_,rfl⟩;rw[hF]at HC Dm HAT;have hh:(w.alloc (.cells #[.nilFunc,.nilFunc,.nilFunc,.nilFunc,.nilFunc,.nilFunc] 159)).heap[w.heap.size]? = some (.cells #[.nilFunc,.nilFunc,.nilFunc,.nilFunc,.nilFunc,.nilFunc] 159):=(gV w _).1;have HB:=ae (below_setRow ((ak w.heap.size w).alloc (aj _) (.cells #[.nilFunc,.nilFunc,.nilFunc,.nilFunc,.nilFunc,.nilFunc] 159)) (aj _) (tH b));have HW:=ae (setRow_heap _ w.heap.size _ (tH b) _ _ hh);have HH:=ae hh;clear hF hh;go_enter Tryz.func66,Tryz.ntmps66;go_upto_region 2 with ((with_reducible refine wpList_store_row (op:=⟨none,.store 159 (.tmp 5) (.tmp 18),_,_,_,_⟩) rfl 159 (.tmp 5) (.tmp 18) rfl w.heap.size 159 _ (tH b) ?_ ?_ HH.o ?_ (UX b) (UW b) ?_);rfl;rfl;rfl)
 generalize (w.alloc (.cells #[.nilFunc,.nilFunc,.nilFunc,.nilFunc,.nilFunc,.nilFunc] 159)).setRow w.heap.size (tH b)=w1 at HB HW ⊢
 have hce:w1.cell? ⟨w.heap.size,n,none⟩=some (.func (.func F) #[.pointer (some ⟨b,0,none⟩)] #[]):=by
  rw[cell_of_row w1 w.heap.size n _ _ _ HW.o];exact HAT.o
 go_wp2_with fail
 refine(HC.o w1 HB.o).mono ?_;intro e w2 hr;obtain⟨c,rfl⟩:=HRR.o e w2 hr;have HR:=ae hr;clear hr;go_wp2_with fail
 exact HR.o
theorem Re (b:Nat)(w:World)(R:Ending→World→Prop)(hR:∀e w',R e w'→∃c,e = .returned (.int .i64 c))(hc:Calls Tryz.prog 114 #[.pointer (some ⟨b,0,none⟩),.int .i64 0] w R) :
 Calls Tryz.prog 85 #[.pointer (some ⟨b,0,none⟩)] w R:=by
 have HC:=ae hc;have HRR:=ae hR;clear hc hR;go_enter Tryz.func85,Tryz.ntmps85;go_wp2_with (go_at_call 114;((with_reducible refine HC.o.mono ?_);intro e w2 hr;obtain⟨c,rfl⟩:=HRR.o e w2 hr;have HR:=ae hr;clear hr))
 exact HR.o
theorem Qa (b:Nat)(w:World)(R:Ending→World→Prop)(hR:∀e w',R e w'→∃c,e = .returned (.int .i64 c))(hc:Calls Tryz.prog 114 #[.pointer (some ⟨b,0,none⟩),.int .i64 1] w R) :
 Calls Tryz.prog 86 #[.pointer (some ⟨b,0,none⟩)] w R:=by
 have HC:=ae hc;have HRR:=ae hR;clear hc hR;go_enter Tryz.func86,Tryz.ntmps86;go_wp2_with (go_at_call 114;((with_reducible refine HC.o.mono ?_);intro e w2 hr;obtain⟨c,rfl⟩:=HRR.o e w2 hr;have HR:=ae hr;clear hr))
 exact HR.o
theorem YY (b:Nat)(w:World)(R:Ending→World→Prop)(hR:∀e w',R e w'→∃c,e = .returned (.int .i64 c))(hc:Calls Tryz.prog 114 #[.pointer (some ⟨b,0,none⟩),.int .i64 2] w R) :
 Calls Tryz.prog 87 #[.pointer (some ⟨b,0,none⟩)] w R:=by
 have HC:=ae hc;have HRR:=ae hR;clear hc hR;go_enter Tryz.func87,Tryz.ntmps87;go_wp2_with (go_at_call 114;((with_reducible refine HC.o.mono ?_);intro e w2 hr;obtain⟨c,rfl⟩:=HRR.o e w2 hr;have HR:=ae hr;clear hr))
 exact HR.o
theorem Y6 (b:Nat)(w:World)(R:Ending→World→Prop)(hR:∀e w',R e w'→∃c,e = .returned (.int .i64 c))(hc:Calls Tryz.prog 114 #[.pointer (some ⟨b,0,none⟩),.int .i64 3] w R) :
 Calls Tryz.prog 88 #[.pointer (some ⟨b,0,none⟩)] w R:=by
 have HC:=ae hc;have HRR:=ae hR;clear hc hR;go_enter Tryz.func88,Tryz.ntmps88;go_wp2_with (go_at_call 114;((with_reducible refine HC.o.mono ?_);intro e w2 hr;obtain⟨c,rfl⟩:=HRR.o e w2 hr;have HR:=ae hr;clear hr))
 exact HR.o
theorem UM:pX 0=85:=rfl
theorem UN:pX 1=86:=rfl
theorem UO:pX 2=87:=rfl
theorem UQ:pX 3=88:=rfl
theorem UR:pX 4=89:=rfl
theorem UT:pX 5=90:=rfl
theorem UB (b:Nat)(w:World)(R:Ending→World→Prop)(hR:∀e w',R e w'→∃c,e = .returned (.int .i64 c))(n:Nat)(hn:n≤3)(hc:∀w',Below w.heap.size w w'→Calls Tryz.prog 114 #[.pointer (some ⟨b,0,none⟩),.int .i64 (n:Int)] w' R) :
 Calls Tryz.prog 66 #[.pointer (some ⟨b,0,none⟩),.int .i64 (n:Int)] w R:=by
 refine Ec b n (by omega) w R hR fun w' hb => ?_
 have h:=hc w' hb;obtain⟨i,hi⟩:∃i:Int,(n:Int)=i:=⟨_,rfl⟩;rw[hi]at h;rcases(show n=0∨n=1∨n=2∨n=3 by omega)with e|e|e|e
 · rw[e,UM];rw[show i=0 by omega]at h;exact Re b w' R hR h
 · rw[e,UN];rw[show i=1 by omega]at h;exact Qa b w' R hR h
 · rw[e,UO];rw[show i=2 by omega]at h;exact YY b w' R hR h
 · rw[e,UQ];rw[show i=3 by omega]at h;exact Y6 b w' R hR h
theorem Elem.Vx:∃n,n≤200∧Elem Tryz.prog 76 106 14 n:=⟨136,by omega,Tryz.underlying76,⟨.agg #[.int .i64 0,.int .i64 0,.string ⟨#[]⟩,.string ⟨#[]⟩,.int .i64 0,.int .i64 0,.bool false,.bool false,.string ⟨#[]⟩,.int .i64 0,.int .i64 0,.bool false,.bool false,.slice none 0 0],by kernel_rfl,rfl⟩,by decide⟩
theorem Vz:(Tryz.prog.info? 106).map (·.size)=some 14:=by kernel_rfl
def aF(w:World)(b:Nat)(n:Nd)(k:Value):Prop:=w.heap[b]? = some (.cells (dh n k) 106)
theorem aF.new(w:World)(n:Nd)(k:Value):aF (w.alloc (.cells (dh n k) 106)) w.heap.size n k:=(gV w _).1
theorem aF.below{w w':World}{B b:Nat}{n:Nd}{k:Value}(h:aF w b n k)(hb:Below B w w')(hB:b<B):aF w' b n k:=by unfold aF;rw[hb.block b hB];exact h
theorem aF.lt{w:World}{b:Nat}{n:Nd}{k:Value}(h:aF w b n k):b<w.heap.size:=(cu.1 h).1
theorem aF.cells {w:World}{b:Nat}{n:Nd}{k:Value}(h:aF w b n k):w.cell? ⟨b,0,none⟩=some (.int .i64 n.kind)∧w.cell? ⟨b,1,none⟩=some (.int .i64 n.num)∧w.cell? ⟨b,2,none⟩=some (.string n.text)∧w.cell? ⟨b,3,none⟩=some (.string n.ref.sh)∧w.cell? ⟨b,4,none⟩=some (.int .i64 n.ref.c)∧w.cell? ⟨b,5,none⟩=some (.int .i64 n.ref.r)∧w.cell? ⟨b,6,none⟩=some (.bool n.ref.ac)∧w.cell? ⟨b,7,none⟩=some (.bool n.ref.ar)∧w.cell? ⟨b,8,none⟩=some (.string n.ag.sh)∧w.cell? ⟨b,9,none⟩=some (.int .i64 n.ag.c)∧w.cell? ⟨b,10,none⟩=some (.int .i64 n.ag.r)∧w.cell? ⟨b,11,none⟩=some (.bool n.ag.ac)∧w.cell? ⟨b,12,none⟩=some (.bool n.ag.ar)∧w.cell? ⟨b,13,none⟩=some k :=
 ⟨by rw[cell_of_row w b 0 _ _ _ h];rfl,by rw[cell_of_row w b 1 _ _ _ h];rfl,by rw[cell_of_row w b 2 _ _ _ h];rfl,by rw[cell_of_row w b 3 _ _ _ h];rfl,by rw[cell_of_row w b 4 _ _ _ h];rfl,by rw[cell_of_row w b 5 _ _ _ h];rfl,by rw[cell_of_row w b 6 _ _ _ h];rfl,by rw[cell_of_row w b 7 _ _ _ h];rfl,by rw[cell_of_row w b 8 _ _ _ h];rfl,by rw[cell_of_row w b 9 _ _ _ h];rfl,by rw[cell_of_row w b 10 _ _ _ h];rfl,by rw[cell_of_row w b 11 _ _ _ h];rfl,by rw[cell_of_row w b 12 _ _ _ h];rfl,by rw[cell_of_row w b 13 _ _ _ h];rfl⟩
theorem aR.row {w:World}{b:Nat}{tv:Value}{ts:List ai}{p deep:Nat}{nv:Value}{vs:List aO}(h:aR w b tv ts p deep nv vs):∀g,nv.ownBlock=some g→b<g∧zA w g:=by
 intro g e;rcases h.nodes.1.2 with ⟨h1,_⟩|⟨g',cap,cur,h1,h2,h3,_⟩
 · rw[h1]at e;cases e
 · rw[h1]at e;injection e with e
   have e:g'=g:=e;subst e;exact⟨by omega,cur,_,h3⟩
theorem aR.Da {w w':World}{b:Nat}{tv:Value}{ts:List ai}{p deep:Nat}{nv:Value}{vs:List aO}(h:aR w b tv ts p deep nv vs)(hg:w.grownBy w' nv.ownBlock):w'.cell? ⟨b,3,none⟩=some nv∧w'.frozen? ⟨b,3,none⟩=false:=by
 have hbb:w'.heap[b]? = w.heap[b]? := hg.block b h.blt (by intro e;have:=(h.row b e.symm).1;omega);have hc:=hbb.trans h.cell;exact⟨by rw[cell_of_row w' b 3 _ _ _ hc];rfl,frozen_of_row w' b 3 _ _ hc⟩
theorem aR.grow {w w':World}{b:Nat}{tv:Value}{ts:List ai}{p deep:Nat}{nv di:Value}{vs:List aO}{v:aO}(h:aR w b tv ts p deep nv vs)(hg:w.grownBy w' nv.ownBlock)(ho:Own xM 106 w' (b+1) di (vs++[v]))
 (hk:Own (bK .i64) 3 w (b+1) v.dL v.n.kids) (hc:vs.length+1≤p):aR (w'.setCell ⟨b,3,none⟩ di) b tv ts p deep di (vs++[v])∧Fr w (w'.setCell ⟨b,3,none⟩ di) b:=by
 have DL:=h.row;have hfr:Fr w w' b:=(Fr.refl w b).row hg (fun g e=>⟨(DL g e).1,.inr (DL g e).2⟩);have hbb:w'.heap[b]? = w.heap[b]? := hg.block b h.blt (by intro e;have:=(DL b e.symm).1;omega);refine⟨⟨?_, ?_,⟨ho.keep fun j hj _ _=>jA _ _ _ _ (by show j≠b;omega), ?_⟩, ?_,h.lt,h.low,h.fit,h.few,by rw[ax,gu];exact hc,h.nest⟩,hfr.setCell _ _⟩
 · rw[heap_setCell_same w' b 3 _ _ _ (hbb.trans h.cell)];rfl
 · have h1:xC w' b tv ts:=by
    obtain⟨g,cap,h1,h2,h3⟩:=h.vD;exact⟨g,cap,h1,h2,h3.keep fun j _ hj e=>hfr.block j hj (by rw[h1]at e;injection e with e;have:g=j:=e;omega) (.inl (by rw[h1]at e;injection e with e;have:g=j:=e;omega))⟩
   exact h1.set _ _
 · intro u hu
   have h1:Own (bK .i64) 3 w (b+1) u.dL u.n.kids:=by
    rcases eG.1 hu with hu|hu
    · exact h.nodes.2 u hu
    · rw[gX.1 hu];exact hk
   exact(h1.fr hfr (by omega) (by decide)).keep fun j hj _ _=>jA _ _ _ _ (by show j≠b;omega)
 · have h1:kE w':=h.ops.keep (hfr.block _ h.ops.lt (by have:=h.low;omega) (.inl (by have:=h.low;omega)))
   exact h1.set h.low _ _
theorem xG {w:World}{b:Nat}{tv:Value}{ts:List ai}{p deep:Nat}{nv:Value}{vs:List aO}(h:aR w b tv ts p deep nv vs)(v:aO)(hk:Own (bK .i64) 3 w (b+1) v.dL v.n.kids)(hc:vs.length+1≤p)(k:Value)(Dx:v.dL=k)(n:Nd)(hn:v.n=n) :
 Calls Tryz.prog 117 #[.pointer (some ⟨b,0,none⟩),.agg #[.int .i64 n.kind,.int .i64 n.num,.string n.text,.string n.ref.sh,.int .i64 n.ref.c,.int .i64 n.ref.r,.bool n.ref.ac,.bool n.ref.ar,.string n.ag.sh,.int .i64 n.ag.c,.int .i64 n.ag.r,.bool n.ag.ac,.bool n.ag.ar,k]] w fun e w'=>Fr w w' b∧e = .returned (.tuple #[])∧∃di,aR w' b tv ts p deep di (vs++[v]):=by
 obtain⟨eb,rG,bS⟩:=Elem.Vx;have hal:Below w.heap.size w (w.alloc (.cells #[.int .i64 n.kind,.int .i64 n.num,.string n.text,.string n.ref.sh,.int .i64 n.ref.c,.int .i64 n.ref.r,.bool n.ref.ac,.bool n.ref.ar,.string n.ag.sh,.int .i64 n.ag.c,.int .i64 n.ag.r,.bool n.ag.ac,.bool n.ag.ar,k] 106)):=(ak _ _).alloc (aj _) _;have bW:=ae (h.below hal);have xe:=ae (hk.alloc (.cells #[.int .i64 n.kind,.int .i64 n.num,.string n.text,.string n.ref.sh,.int .i64 n.ref.c,.int .i64 n.ref.r,.bool n.ref.ac,.bool n.ref.ar,.string n.ag.sh,.int .i64 n.ag.c,.int .i64 n.ag.r,.bool n.ag.ac,.bool n.ag.ar,k] 106));have hx:aF (w.alloc (.cells #[.int .i64 n.kind,.int .i64 n.num,.string n.text,.string n.ref.sh,.int .i64 n.ref.c,.int .i64 n.ref.r,.bool n.ref.ac,.bool n.ref.ar,.string n.ag.sh,.int .i64 n.ag.c,.int .i64 n.ag.r,.bool n.ag.ac,.bool n.ag.ar,k] 106)) w.heap.size n k:=aF.new w n k;have h2:=h.few;have h3:=h.lt;have hbl:=h.blt;have hsz:(w.alloc (.cells #[.int .i64 n.kind,.int .i64 n.num,.string n.text,.string n.ref.sh,.int .i64 n.ref.c,.int .i64 n.ref.r,.bool n.ref.ac,.bool n.ref.ar,.string n.ag.sh,.int .i64 n.ag.c,.int .i64 n.ag.r,.bool n.ag.ac,.bool n.ag.ar,k] 106)).heap.size=w.heap.size+1:=by simp
 have qQ:=ae bS;have dJ:=ae hal;clear h hk bS hal;go_enter Tryz.func117,Tryz.ntmps117;go_wp2_with fail
 generalize w.alloc (.cells #[.int .i64 n.kind,.int .i64 n.num,.string n.text,.string n.ref.sh,.int .i64 n.ref.c,.int .i64 n.ref.r,.bool n.ref.ac,.bool n.ref.ar,.string n.ag.sh,.int .i64 n.ag.c,.int .i64 n.ag.r,.bool n.ag.ac,.bool n.ag.ar,k] 106)=w1 at bW xe dJ hx hsz ⊢;obtain⟨x0,x1,x2,x3,x4,x5,x6,x7,aY,eF,eD,jU,jV,iQ⟩:=hx.cells;obtain⟨c0,c1,c2,c3⟩:=bW.o.facts;have f3:=bW.o.frozen 3;clear hx c0 c1 c2;have Gg:=ae (bW.o.drew.below ((ak _ _).alloc (aj _) (.cells #[.int .i64 n.kind,.int .i64 n.num,.string n.text,.string n.ref.sh,.int .i64 n.ref.c,.int .i64 n.ref.r,.bool n.ref.ac,.bool n.ref.ar,.string n.ag.sh,.int .i64 n.ag.c,.int .i64 n.ag.r,.bool n.ag.ac,.bool n.ag.ar,k] 106)))
 go_region_law (refine YP qQ.o xM rfl (.tmp 8) (.tmp 10) rfl (b+1) nv vs ?_ (bW.o.nodes.1.drew.alloc _) ⟨w1.heap.size,0,none⟩ 1 1 [v] ?_ rfl ?_ ?_ ?_ ?_ ?_;go_simp;go_simp;(subst Dx;subst hn;exact iH (w:=w1.drew) _ _ _ rfl);exact eO (Nat.mul_le_mul_left _ rG) (by omega);(unfold maxLen;omega);(simp <;> omega);intro v' nH h1 h2 h4;obtain⟨g1,lL,rfl,hg0,hg1,hg2,hg3⟩:=Own.some h1 (by simp);obtain⟨d1,d2⟩:=Gg.o.Da h2;have HO:=ae h1;have HG:=ae h2;clear h1 h2 h4)
 all_goals
  go_wp2_with fail
  obtain⟨q1,q2⟩:=Gg.o.grow HG.o HO.o (xe.o.drew.alloc _) hc;rw[ax,gu]at q1 q2;have hF:=(((Fr.of b dJ.o).drew).below ((ak _ _).alloc (aj _) (.cells #[.int .i64 n.kind,.int .i64 n.num,.string n.text,.string n.ref.sh,.int .i64 n.ref.c,.int .i64 n.ref.r,.bool n.ref.ac,.bool n.ref.ar,.string n.ag.sh,.int .i64 n.ag.c,.int .i64 n.ag.r,.bool n.ag.ac,.bool n.ag.ar,k] 106))).trans q2
  first
   | exact bodyPost_ret (results_none rfl _ _ _) rfl ⟨hF,rfl,_,q1⟩
   | (go_end0;exact⟨hF,rfl,_,q1⟩)
def Out (res:fF)(w:World)(b:Nat)(tv:Value)(ts:List ai)(deep:Nat)(vs:List aO)(e:Ending)(w':World):Prop :=
 Fr w w' b∧((∃c,res = .error c∧(c=5∨c=6)∧e = .returned (.int .i64 c)) ∨
  (∃ms a r,res = .ok (ms,a,r)∧e = .returned (.int .i64 0)∧∃p' di us,ts.drop p'=r∧us.map aO.n=ms∧(∀u∈us,∀g,u.dL.ownBlock=some g→w.heap.size≤g)∧aR w' b tv ts p' deep di (vs++us)))
def aO.leaf(n:Nd):aO:=⟨n,none⟩
theorem Kg (w:World)(lo:Nat)(n:Nd)(h:n.kids=[]):Own (bK .i64) 3 w lo (aO.leaf n).dL (aO.leaf n).n.kids:=by
 show Own (bK .i64) 3 w lo (.slice none 0 0) n.kids;rw[h];exact Own.nil _ _ _ _
theorem wz {w:World}{b:Nat}{tv:Value}{ts:List ai}{p deep:Nat}{nv:Value}{vs:List aO}(h:aR w b tv ts p deep nv vs)(hnx:p+1<ts.length)(n:Nd)(hn:n.kids=[]) :
 Calls Tryz.prog 119 #[.pointer (some ⟨b,0,none⟩),.agg #[.int .i64 n.kind,.int .i64 n.num,.string n.text,.string n.ref.sh,.int .i64 n.ref.c,.int .i64 n.ref.r,.bool n.ref.ac,.bool n.ref.ar,.string n.ag.sh,.int .i64 n.ag.c,.int .i64 n.ag.r,.bool n.ag.ac,.bool n.ag.ar,.slice none 0 0]] w fun e w'=>Fr w w' b∧e = .returned (.int .i64 0)∧∃di,aR w' b tv ts (p+1) deep di (vs++[aO.leaf n]):=by
 have hal:Below w.heap.size w (w.alloc (.cells #[.int .i64 n.kind,.int .i64 n.num,.string n.text,.string n.ref.sh,.int .i64 n.ref.c,.int .i64 n.ref.r,.bool n.ref.ac,.bool n.ref.ar,.string n.ag.sh,.int .i64 n.ag.c,.int .i64 n.ag.r,.bool n.ag.ac,.bool n.ag.ar,.slice none 0 0] 106)):=(ak _ _).alloc (aj _) _;have bW:=ae (h.below hal);have hx:aF (w.alloc (.cells #[.int .i64 n.kind,.int .i64 n.num,.string n.text,.string n.ref.sh,.int .i64 n.ref.c,.int .i64 n.ref.r,.bool n.ref.ac,.bool n.ref.ar,.string n.ag.sh,.int .i64 n.ag.c,.int .i64 n.ag.r,.bool n.ag.ac,.bool n.ag.ar,.slice none 0 0] 106)) w.heap.size n (.slice none 0 0):=aF.new w n _;have h2:=h.few;have h4:=h.cnt;have hbl:=h.blt;have hsz:(w.alloc (.cells #[.int .i64 n.kind,.int .i64 n.num,.string n.text,.string n.ref.sh,.int .i64 n.ref.c,.int .i64 n.ref.r,.bool n.ref.ac,.bool n.ref.ar,.string n.ag.sh,.int .i64 n.ag.c,.int .i64 n.ag.r,.bool n.ag.ac,.bool n.ag.ar,.slice none 0 0] 106)).heap.size=w.heap.size+1:=by simp
 have dJ:=ae hal;clear h hal;go_enter Tryz.func119,Tryz.ntmps119;go_upto_region 1 with (fail)
 generalize w.alloc (.cells #[.int .i64 n.kind,.int .i64 n.num,.string n.text,.string n.ref.sh,.int .i64 n.ref.c,.int .i64 n.ref.r,.bool n.ref.ac,.bool n.ref.ar,.string n.ag.sh,.int .i64 n.ag.c,.int .i64 n.ag.r,.bool n.ag.ac,.bool n.ag.ar,.slice none 0 0] 106)=w1 at bW dJ hx hsz ⊢;obtain⟨c0,c1,c2,c3⟩:=bW.o.facts;have f1:=bW.o.frozen 1;clear c0 c2 c3;go_upto_region 2 with (fail)
 have l5:=ae (bW.o.next hnx);have j6:=ae (show aF (w1.setCell ⟨b,1,none⟩ (.int .i64 ((p:Int)+1))) w.heap.size n (.slice none 0 0)from by unfold aF;rw[jA _ _ _ _ (by show w.heap.size≠b;omega)];exact hx);have bO:=ae ((Fr.of b dJ.o).setCell 1 (.int .i64 ((p:Int)+1)));clear c1 f1 hx bW dJ hsz;generalize w1.setCell ⟨b,1,none⟩ (.int .i64 ((p:Int)+1))=w2 at l5 j6 bO ⊢;obtain⟨x0,x1,x2,x3,x4,x5,x6,x7,aY,eF,eD,jU,jV,iQ⟩:=j6.o.cells;have HA:=ae (xG l5.o (aO.leaf n) (Kg _ _ n hn) (by omega) (.slice none 0 0) rfl n rfl);go_wp2_with (go_at_call 117;((with_reducible refine HA.o.mono ?_);rintro e w3 ⟨h1,rfl,di,h3⟩;have fE:=ae (bO.o.trans h1);have fu:=ae h3;clear h1 h3))
 go_ret;exact⟨fE.o,rfl,_,fu.o⟩
theorem Iz:(⟨#[]⟩:ByteArray).toList=[]:=by rw[rP]
theorem J5 (s1 s2:ByteArray)(c1 r1 c2 r2:Int)(a1 b1 a2 b2:Bool)(w:World) :
 Calls Tryz.prog 153 #[.agg #[.string s1,.int .i64 c1,.int .i64 r1,.bool a1,.bool b1],.agg #[.string s2,.int .i64 c2,.int .i64 r2,.bool a2,.bool b2]] w fun e w'=>e = .returned (.bool (gU ⟨s1,c1,r1,a1,b1⟩ ⟨s2,c2,r2,a2,b2⟩))∧Below w.heap.size w w':=by
 have hsz:(w.alloc (.cells #[.string s1,.int .i64 c1,.int .i64 r1,.bool a1,.bool b1] 104)).heap.size=w.heap.size+1:=by simp
 have h1:=fV.new w s1 c1 r1 a1 b1;have h2:=fV.new (w.alloc (.cells #[.string s1,.int .i64 c1,.int .i64 r1,.bool a1,.bool b1] 104)) s2 c2 r2 a2 b2;have h3:=h1.below ((ak _ _).alloc (aj _) (.cells #[.string s2,.int .i64 c2,.int .i64 r2,.bool a2,.bool b2] 104)) h1.lt;rw[hsz]at h2;have HB:=ae (((ak w.heap.size w).alloc (aj _) (.cells #[.string s1,.int .i64 c1,.int .i64 r1,.bool a1,.bool b1] 104)).alloc (by simp) (.cells #[.string s2,.int .i64 c2,.int .i64 r2,.bool a2,.bool b2] 104));have HS:=ae (show gU ⟨s1,c1,r1,a1,b1⟩ ⟨s2,c2,r2,a2,b2⟩=(decide (s2=⟨#[]⟩)&&(decide (c1≤c2)&&decide (r1≤r2)))from rfl);clear h1;go_enter Tryz.func153,Tryz.ntmps153;go_upto_region 1 with (fail)
 generalize (w.alloc (.cells #[.string s1,.int .i64 c1,.int .i64 r1,.bool a1,.bool b1] 104)).alloc (.cells #[.string s2,.int .i64 c2,.int .i64 r2,.bool a2,.bool b2] 104)=w1 at h2 h3 HB ⊢;obtain⟨x0,x1,x2,x3,x4⟩:=h2.facts;obtain⟨y0,y1,y2,y3,y4⟩:=h3.facts;clear h2 h3;by_cases hs:s2=⟨#[]⟩
 · subst hs
   have e0:=Iz;by_cases hc:c1≤c2
   · by_cases hr:r1≤r2
     · have HT:=ae (show gU ⟨s1,c1,r1,a1,b1⟩ ⟨⟨#[]⟩,c2,r2,a2,b2⟩=true by rw[HS.o,aL hc,aL hr];rfl)
       go_wp2_with fail
       go_ret;exact⟨by rw[HT.o];rfl,HB.o⟩
     · have HT:=ae (show gU ⟨s1,c1,r1,a1,b1⟩ ⟨⟨#[]⟩,c2,r2,a2,b2⟩=false by rw[HS.o,aL hc,aK hr];rfl)
       go_wp2_with fail
       go_ret;exact⟨by rw[HT.o];rfl,HB.o⟩
   · have HT:=ae (show gU ⟨s1,c1,r1,a1,b1⟩ ⟨⟨#[]⟩,c2,r2,a2,b2⟩=false by rw[HS.o,aK hc];rfl)
     go_wp2_with fail
     go_ret;exact⟨by rw[HT.o];rfl,HB.o⟩
 · have HT:=ae (show gU ⟨s1,c1,r1,a1,b1⟩ ⟨s2,c2,r2,a2,b2⟩=false by rw[HS.o,aK hs];rfl)
   have e0:¬ s2.toList=[]:=by rw[← Iz];exact yI _ _ hs
   have e1:s2.toList.isEmpty=false:=by simpa using e0
   clear hs;go_wp2_with fail
   go_ret;exact⟨by rw[HT.o];rfl,HB.o⟩
end Go.Proofs.YtahjnhmidjeniaaGreatDoor
