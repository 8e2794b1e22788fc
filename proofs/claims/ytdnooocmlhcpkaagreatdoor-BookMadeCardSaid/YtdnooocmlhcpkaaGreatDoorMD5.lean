import Derived.Test.YtdnooocmlhcpkaaGreatDoorMD4
import Derived.RangeFuncNested
import Derived.RangeFuncBound
import Derived.RangeFuncCalls
import Derived.RangeFuncLeaves
import Derived.Shelf.Abstract
import Derived.OwnWalkIn
import Derived.TacticsInMore
import Derived.LoopNIn
import Derived.LoopIn
import Derived.Shelf.RegionOpen
import Derived.OrdersIn
import Derived.OrdersHeld
set_option maxRecDepth 100000
set_option maxHeartbeats 64000000
namespace Go.Proofs.YtdnooocmlhcpkaaGreatDoor
open Go.RowKit
theorem Out.ret {res:dW}{w w':World}{b:Nat}{tv:Value}{ts:List af}{deep:Nat}{vs:List aB}{e:Ending}(h:Out res w b tv ts deep vs e w'):∃c,e = .returned (.int .i64 c):=by
 rcases h.2 with ⟨c,_,_,h⟩|⟨_,_,_,_,h,_⟩
 · exact⟨c,h⟩
 · exact⟨0,h⟩
theorem Out.bad {res:dW}{w w':World}{b:Nat}{tv:Value}{ts:List af}{deep:Nat}{vs:List aB}{e:Ending}{c:Int}(h:Out res w b tv ts deep vs e w')(hr:res = .error c):Fr w w' b∧(c=5∨c=6)∧e = .returned (.int .i64 c):=by
 rcases h.2 with ⟨c',h1,h2,h3⟩|⟨ms,a,r,h1,_⟩
 · rw[hr]at h1;injection h1 with h1;subst h1;exact⟨h.1,h2,h3⟩
 · rw[hr]at h1;cases h1
theorem Out.good {res:dW}{w w':World}{b:Nat}{tv:Value}{ts:List af}{deep:Nat}{vs:List aB}{e:Ending}{ms:List Nd}{a:Nat}{r:List af}(h:Out res w b tv ts deep vs e w')(hr:res = .ok (ms,a,r)) :
 Fr w w' b∧e = .returned (.int .i64 0)∧∃p' aM us,ts.drop p'=r∧us.map aB.n=ms∧(∀u∈us,∀g,u.bf.ownBlock=some g→w.heap.size≤g)∧bQ w' b tv ts p' deep aM (vs++us):=by
 rcases h.2 with ⟨c',h1,h2,h3⟩|⟨ms',a',r',h1,h2,h3⟩
 · rw[hr]at h1;cases h1
 · rw[hr]at h1;injection h1 with h1;injection h1 with e1 e2;injection e2 with e2 e3;subst e1;subst e3;exact⟨h.1,h2,h3⟩
theorem E9 {w:World}{b:Nat}{tv:Value}{ts:List af}{p deep:Nat}{nv:Value}{vs:List aB}(h:bQ w b tv ts p deep nv vs)(a:Nat)(ha:a+1=vs.length) :
 Calls Tryz.prog 188 #[.pointer (some ⟨b,0,none⟩)] w fun e w'=>e = .returned (.int .i64 (a:Int))∧w=w':=by
 have:=ab4 h (by omega);rw[show(vs.length:Int) - 1=(a:Int)by omega]at this;exact this
theorem Jq (w:World)(base:Nat)(x y:Int)(hb:base≤w.heap.size):Own (bT .i64) 3 (w.alloc (.cells #[.int .i64 x,.int .i64 y] 3)) base (.slice (some ⟨w.heap.size,0,none⟩) 2 2) [x,y] :=
 ⟨rfl,.inr ⟨w.heap.size,2,_,rfl,hb,(jw w _).1,ag _,by decide,rfl,rfl⟩⟩
theorem Jp (w:World)(base:Nat)(x:Int)(hb:base≤w.heap.size):Own (bT .i64) 3 (w.alloc (.cells #[.int .i64 x] 3)) base (.slice (some ⟨w.heap.size,0,none⟩) 1 1) [x] :=
 ⟨rfl,.inr ⟨w.heap.size,1,_,rfl,hb,(jw w _).1,ag _,by decide,rfl,rfl⟩⟩
def wz (f:Nat):Prop:=∀(n deep:Nat)(res:dW)(w:World)(b:Nat)(tv:Value)(ts:List af)(p:Nat)(nv:Value)(vs:List aB),n≤4→bQ w b tv ts p deep nv vs→eF f n deep vs.length (ts.drop p)=some res →
 Calls Tryz.prog 126 #[.pointer (some ⟨b,0,none⟩),.int .i64 (n:Int)] w (Out res w b tv ts deep vs)
theorem wZ {f n deep base:Nat}{ts:List af}{p p':Nat}{ns:List Nd}{a:Nat}{r:List af}(h:eF f n deep base (ts.drop p)=some (.ok (ns,a,r)))(hr:ts.drop p'=r)(hl:p'<ts.length):ns.length+p≤p'∧a+1=base+ns.length∧1≤ns.length:=by
 have h1:=(MK f).1 _ _ _ _ _ _ _ h;have h2:=(xC f).1 _ _ _ _ _ _ _ h;subst hr;rw[List.length_drop,List.length_drop]at h1;exact⟨by omega,h2.2.1,h2.2.2⟩
theorem ab9 (f:Nat)(IH:∀g,g≤f→wz g)(n:Nat)(hn:n≤3){w:World}{b:Nat}{tv:Value}{ts:List af}{p deep:Nat}{nv:Value}{vs:List aB}(h:bQ w b tv ts p deep nv vs)(res:dW)
 (hres:il (eF f (n+1) deep vs.length (ts.drop p)) (fun ns a r=>rowP f n deep vs.length ns a r)=some res) :
 Calls Tryz.prog 184 #[.pointer (some ⟨b,0,none⟩),.int .i64 (n:Int)] w (Out res w b tv ts deep vs):=by
 have hw1 : -9223372036854775808≤(n:Int)+1:=by omega
 have hw2:(n:Int)+1≤9223372036854775807:=by omega
 have tF:n+1≤4:=by omega
 rcases dQ hres with ⟨c,h1,rfl⟩|⟨ns,a,r,h1,h2⟩
 · have HL:=aa (show Calls Tryz.prog 126 #[.pointer (some ⟨b,0,none⟩),.int .i64 ((n:Int)+1)] w (Out (.error c) w b tv ts deep vs)from IH f (ag _) (n+1) deep _ w b tv ts p nv vs tF h h1)
   clear hres h1 IH h;go_enter Tryz.func184,Tryz.ntmps184;go_wp2_with (go_at_call 126;((with_reducible refine HL.o.mono ?_);intro e w2 ho;obtain⟨hf,hc,rfl⟩:=ho.bad rfl;have HF:=aa hf;have HC:=aa hc;have hc0:(c != 0)=true:=(by rw[bne_iff_ne];rcases hc with h|h <;> omega);clear hf hc ho))
   go_ret;exact Out.err rfl HC.o HF.o
 · have HL := aa (show Calls Tryz.prog 126 #[.pointer (some ⟨b,0,none⟩),.int .i64 ((n:Int)+1)] w (Out (.ok (ns,a,r)) w b tv ts deep vs)from IH f (ag _) (n+1) deep _ w b tv ts p nv vs tF h h1)
   have qh:=aa IH;have H1:=aa h1;have H2:=aa h2;have hcn:=h.cnt;have HP:=aa h;clear hres h1 h2 IH h;go_enter Tryz.func184,Tryz.ntmps184;go_upto_region 4 with (go_at_call 126;((with_reducible refine HL.o.mono ?_);intro e w2 ho;obtain⟨hf,rfl,p1,Z7,us1,hp1,hu1,hk1,NY⟩:=ho.good rfl;have jy:=aa hf;have bJ:=aa NY;have HD1:=aa hp1;have x8:=aa hu1;have l7:=aa hk1;clear hf ho hp1 hu1 hk1 NY))
   go_loopw [] (fun wr=>∃(g:Nat)(ns':List Nd)(a' p':Nat)(aM:Value)(us:List aB),g≤f∧a'+1=vs.length+ns'.length∧us.length=ns'.length∧Hid (rowP g n deep vs.length ns' a' (ts.drop p')=some res)∧Hid (us.map aB.n=ns')∧Hid (∀u∈us,∀j,u.bf.ownBlock=some j→w.heap.size≤j)∧Hid (bQ wr b tv ts p' deep aM (vs++us))∧Hid (Fr w wr b))
    (fun wr=>uU b ts.length wr)
   case atStart =>
    have h3:=wZ H1.o HD1.o bJ.o.lt;refine⟨f,ns,a,p1,Z7,us1,ag _,h3.2.1,by rw[← x8.o,dN], ?_,x8,l7,bJ,jy⟩;rw[HD1.o];exact H2
   case round =>
    clear HL H1 H2 jy bJ HD1 x8 l7;obtain⟨g,ns',a',p',aM,us,hg,ha,yL,HR,HU,HK,gP,HF⟩:=hrel;have hlt:=gP.o.lt;have jD:=gP.o.few;have hcnt:=gP.o.cnt;rw[aj]at hcnt;have HM:=aa (gP.o.uU ts.length);have HO:=aa (aak gP.o n hn)
    match g,hg,HR with
    | 0,_,HR=>have:=HR.o;unfold rowP at this;cases this
    | g+1,hg,HR =>
    have hr:=HR.o;rw[ug]at hr;by_cases h0:fD n (ts.drop p')=0
    · rw[if_pos h0]at hr
      injection hr with hr;have Bw:=aa hr.symm;rw[h0]at HO;have HO:=aa (show Calls Tryz.prog 217 #[.pointer (some ⟨b,0,none⟩),.int .i64 (n:Int)] wr fun e w'=>e = .returned (.tuple #[.int .i64 0,.bool false])∧Below wr.heap.size wr w' from HO.o);clear hr h0 HR;go_wp2_with (go_at_call 217;((with_reducible refine HO.o.mono ?_);rintro e w3 ⟨rfl,h1⟩;have dF:=aa (HF.o.below h1);have bW:=aa (gP.o.below h1);clear h1))
      go_ret;exact⟨dF.o,.inr ⟨_,_,_,Bw.o,rfl,p',aM,us,rfl,HU.o,HK.o,bW.o⟩⟩
    · rw [if_neg h0]at hr
      obtain⟨kd,hkd⟩:∃kd,fD n (ts.drop p')=kd:=⟨_,rfl⟩;obtain⟨q,hq1,hq2,hq3⟩:=Cv h0;have hnx:=zh gP.o hq2;clear hq1 hq2 hq3 q;rw[hkd]at HO hr h0;have HO:=aa (show Calls Tryz.prog 217 #[.pointer (some ⟨b,0,none⟩),.int .i64 (n:Int)] wr fun e w'=>e = .returned (.tuple #[.int .i64 kd,.bool true])∧Below wr.heap.size wr w' by have:=HO.o;rw[decide_eq_true h0]at this;exact this);rw[List.tail_drop]at hr;have hbase:vs.length+ns'.length=(vs++us).length:=by rw[aj,yL]
      rw[hbase]at hr;have HRR:=aa hr;clear hr h0 HR hkd;go_upto_region 7 with (go_at_call 217;((with_reducible refine HO.o.mono ?_);rintro e w3 ⟨rfl,h1⟩;have dF:=aa (HF.o.below h1);have bW:=aa (gP.o.below h1);clear h1))
      clear HO HF gP;obtain⟨c0,c1,c2,c3⟩:=bW.o.facts;have f1:=bW.o.frozen 1;clear c0 c2 c3;go_upto_region 8 with (fail)
      have dP:=aa (bW.o.next hnx);have dL:=aa (dF.o.setCell 1 (.int .i64 ((p':Int)+1)));clear c1 f1 bW dF;generalize w3.setCell ⟨b,1,none⟩ (.int .i64 ((p':Int)+1))=w4 at dP dL ⊢;have Gv:=aa (E9 dP.o a' (by rw[ha,hbase]));rcases dQ HRR.o with ⟨c,h1,h2⟩|⟨ms,b2,r2,h1,h2⟩
      · subst h2
        have HL:=aa (show Calls Tryz.prog 126 #[.pointer (some ⟨b,0,none⟩),.int .i64 ((n:Int)+1)] w4 (Out (.error c) w4 b tv ts deep (vs++us))from qh.o g (by omega) (n+1) deep _ w4 b tv ts (p'+1) aM (vs++us) tF dP.o h1);clear h1 HRR
        go_wp2_with (first
         | (go_at_call 188;((with_reducible refine Gv.o.mono ?_);rintro e wn ⟨rfl,rfl⟩))
         | (go_at_call 126;((with_reducible refine HL.o.mono ?_);intro e w5 ho;obtain⟨hf,hc,rfl⟩:=ho.bad rfl;have aL:=aa (dL.o.trans hf);have HC:=aa hc;have hc0:(c != 0)=true:=(by rw[bne_iff_ne];rcases hc with h|h <;> omega);clear hf hc ho)))
        go_ret;exact Out.err rfl HC.o aL.o
      · have HL := aa (show Calls Tryz.prog 126 #[.pointer (some ⟨b,0,none⟩),.int .i64 ((n:Int)+1)] w4 (Out (.ok (ms,b2,r2)) w4 b tv ts deep (vs++us))from qh.o g (by omega) (n+1) deep _ w4 b tv ts (p'+1) aM (vs++us) tF dP.o h1)
        have H1:=aa h1;have H2:=aa h2;clear h1 h2 HRR
        go_upto_region 12 with (first
         | (go_at_call 188;((with_reducible refine Gv.o.mono ?_);rintro e wn ⟨rfl,rfl⟩))
         | (go_at_call 126;((with_reducible refine HL.o.mono ?_);intro e w5 ho;obtain⟨hf,rfl,p5,ni,dx,kg,kr,hk5,gU⟩:=ho.good rfl;have Gy:=aa hf.size;have aL:=aa (dL.o.trans hf);have bq:=aa gU;have HD5:=aa kg;have jK:=aa kr;have l8:=aa hk5;clear hf ho kg kr hk5 gU)))
        obtain⟨hc1,hc2,hc3⟩:=wZ H1.o HD5.o bq.o.lt;have El:dx.length=ms.length:=by rw[← jK.o,dN]
        have Ef:((vs++us)++dx).length=vs.length+us.length+dx.length:=by rw[aj,aj]
        have afK:(vs++us).length=vs.length+us.length:=aj;have Dw:=aa (E9 bq.o b2 (by omega));have hbl:=bq.o.blt;have gT:Below w5.heap.size w5 (w5.alloc (.cells #[.int .i64 (a':Int),.int .i64 (b2:Int)] 3)):=(ai _ _).alloc (ag _) _;have bM:=aa (bq.o.below gT);have cK:=aa (aL.o.below gT);have HA:=aa (show Calls Tryz.prog 187 #[.pointer (some ⟨b,0,none⟩),.agg #[.int .i64 kd,.int .i64 0,.string ⟨#[]⟩,.string ⟨#[]⟩,.int .i64 0,.int .i64 0,.bool false,.bool false,.string ⟨#[]⟩,.int .i64 0,.int .i64 0,.bool false,.bool false,.slice (some ⟨w5.heap.size,0,none⟩) 2 2]] (w5.alloc (.cells #[.int .i64 (a':Int),.int .i64 (b2:Int)] 3)) _ from BI bM.o ⟨{ Nd.zero with kind:=kd,kids:=[(a':Int),(b2:Int)] },some (w5.heap.size,2)⟩ (Jq w5 (b+1) (a':Int) (b2:Int) (by omega)) (by omega) (.slice (some ⟨w5.heap.size,0,none⟩) 2 2) rfl { Nd.zero with kind:=kd,kids:=[(a':Int),(b2:Int)] } rfl);clear gT HL Gv
        go_wp2_with (first
         | (go_at_call 188;((with_reducible refine Dw.o.mono ?_);rintro e wn ⟨rfl,rfl⟩))
         | (go_at_call 187;((with_reducible refine HA.o.mono ?_);rintro e w7 ⟨h1,rfl,yV,h3⟩;have bP:=aa (cK.o.trans h1);have bB:=aa h3;clear h1 h3)))
        go_roundw
        case rel =>
         refine⟨g,ns'++(ms++[{ Nd.zero with kind:=kd,kids:=[(a':Int),(b2:Int)] }]),vs.length+(ns'.length+ms.length),p5,yV,us++(dx++[⟨{ Nd.zero with kind:=kd,kids:=[(a':Int),(b2:Int)] },some (w5.heap.size,2)⟩]),by omega, ?_, ?_, ?_, ?_, ?_, ?_,bP⟩;rotate_left 2
         · rw[HD5.o];exact H2
         · refine aa ?_
           rw[iE,iE,HU.o,jK.o];rfl
         · refine aa ?_
           intro u hu j hj;rcases List.mem_append.1 hu with hu|hu
           · exact HK.o u hu j hj
           · rcases List.mem_append.1 hu with hu|hu
             · have:=l8.o u hu j hj;have:=dL.o.size;omega
             · rw[List.mem_singleton.1 hu]at hj
               have hj:some w5.heap.size=some j:=hj;injection hj with hj;have:=aL.o.size;omega
         · rw[← bO, ← bO];exact bB
         · rw[aj,aj,fq];omega
         · rw[aj,aj,aj,aj,fq,fq];omega
        case measure =>
         have h1:=bB.o.uU ts.length;rw[HM.o,h1];omega
def D5 (f deep base:Nat)(ts:List af):Option dW :=
 if au ⟨#[40]⟩ ts=true then
  if 12≤deep then some (.error 6)
  else il (eF f 0 (deep+1) base ts.tail) fun ns a r=>if au ⟨#[41]⟩ r=true then some (.ok (ns,a,r.tail))else some (.error 5)
 else some (.error 5)
theorem XX (f:Nat)(IH:wz f){w:World}{b:Nat}{tv:Value}{ts:List af}{p deep:Nat}{nv:Value}{vs:List aB}(h:bQ w b tv ts p deep nv vs)(res:dW)(hres:D5 f deep vs.length (ts.drop p)=some res) :
 Calls Tryz.prog 192 #[.pointer (some ⟨b,0,none⟩)] w (Out res w b tv ts deep vs):=by
 have HS:=aa (yO h ⟨#[40]⟩);unfold D5 at hres;have HP:=aa h;cases hq:au ⟨#[40]⟩ (ts.drop p)
 · rw[hq,if_neg (by decide)]at hres
   injection hres with hres;have HR:=aa hres.symm;rw[hq]at HS;clear hq hres h;go_enter Tryz.func192,Tryz.ntmps192;go_wp2_with (go_at_call 185;((with_reducible refine HS.o.mono ?_);rintro e w1 ⟨rfl,h1⟩;have HB:=aa h1;clear h1))
   go_ret;exact Out.err HR.o (.inl rfl) (Fr.of b HB.o)
 · have hnx:=zh h hq
   rw[hq,if_pos rfl]at hres;rw[hq]at HS;by_cases hd:12≤deep
   · rw [if_pos hd]at hres
     injection hres with hres;have HR:=aa hres.symm;clear hq hres h;go_enter Tryz.func192,Tryz.ntmps192
     go_wp2_with (first
      | (go_at_call 185;((with_reducible refine HS.o.mono ?_);rintro e w1 ⟨rfl,h1⟩;have jy:=aa (Fr.of b h1);have eX:=aa (xq (HP.o.below h1) hnx);clear h1))
      | (go_at_call 186;((with_reducible refine eX.o.mono ?_);rintro e w2 ⟨h1,⟨-,rfl⟩|⟨h2, -⟩⟩;rotate_left;exact absurd hd h2;have bI:=aa (jy.o.trans h1);clear h1)))
     go_ret;exact Out.err HR.o (.inr rfl) bI.o
   · rw [if_neg hd,List.tail_drop]at hres
     rcases dQ hres with ⟨c,h1,rfl⟩|⟨ns,a,r,h1,h2⟩
     · have HI:=aa (fun w2 hps=>IH 0 (deep+1) _ w2 b tv ts (p+1) nv vs (by omega) hps h1)
       clear hq hres h IH h1;go_enter Tryz.func192,Tryz.ntmps192
       go_wp2_with (first
        | (go_at_call 185;((with_reducible refine HS.o.mono ?_);rintro e w1 ⟨rfl,h1⟩;have jy:=aa (Fr.of b h1);have eX:=aa (xq (HP.o.below h1) hnx);clear h1))
        | (go_at_call 186;((with_reducible refine eX.o.mono ?_);rintro e w2 ⟨h1,⟨h2, -⟩|⟨-,rfl,h3⟩⟩;exact absurd h2 hd;have bI:=aa (jy.o.trans h1);have HL:=aa (show Calls Tryz.prog 126 #[.pointer (some ⟨b,0,none⟩),.int .i64 0] w2 (Out (.error c) w2 b tv ts (deep+1) vs)from HI.o w2 h3);clear h1 h3))
        | (go_at_call 126;((with_reducible refine HL.o.mono ?_);intro e w5 ho;obtain⟨hf,hc,rfl⟩:=ho.bad rfl;have aL:=aa (bI.o.trans hf);have HC:=aa hc;have hc0:(c != 0)=true:=(by rw[bne_iff_ne];rcases hc with h|h <;> omega);clear hf hc ho)))
       go_ret;exact Out.err rfl HC.o aL.o
     · have HI:=aa (fun w2 hps=>IH 0 (deep+1) _ w2 b tv ts (p+1) nv vs (by omega) hps h1)
       have H2:=aa h2;clear hq hres h IH h1 h2;go_enter Tryz.func192,Tryz.ntmps192
       go_upto_region 9 with (first
        | (go_at_call 185;((with_reducible refine HS.o.mono ?_);rintro e w1 ⟨rfl,h1⟩;have jy:=aa (Fr.of b h1);have HZ1:=aa h1.size;have eX:=aa (xq (HP.o.below h1) hnx);clear h1))
        | (go_at_call 186;((with_reducible refine eX.o.mono ?_);rintro e w2 ⟨h1,⟨h2, -⟩|⟨-,rfl,h3⟩⟩;exact absurd h2 hd;have bI:=aa (jy.o.trans h1);have HL:=aa (show Calls Tryz.prog 126 #[.pointer (some ⟨b,0,none⟩),.int .i64 0] w2 (Out (.ok (ns,a,r)) w2 b tv ts (deep+1) vs)from HI.o w2 h3);clear h1 h3))
        | (go_at_call 126;((with_reducible refine HL.o.mono ?_);intro e w5 ho;obtain⟨hf,rfl,p5,ni,dx,kg,kr,hk5,gU⟩:=ho.good rfl;have aL:=aa (bI.o.trans hf);have Dn:=aa (P5 gU);have HD5:=aa kg;have jK:=aa kr;have l8:=aa hk5;clear hf ho kg kr hk5 gU)))
       have h2:=H2.o;rw[← HD5.o]at h2;have hz:=bI.o.size;cases hs:au ⟨#[41]⟩ (ts.drop p5)
       · rw[hs,if_neg (by decide)]at h2
         injection h2 with h2;have HR:=aa h2.symm;rw[hs]at Dn;clear h2 hs;go_wp2_with (go_at_call 220;((with_reducible refine Dn.o.mono ?_);rintro e w6 ⟨h1,⟨-,rfl⟩|⟨h2, -⟩⟩;rotate_left;cases h2;have cK:=aa (aL.o.trans h1);clear h1))
         go_ret;exact Out.err HR.o (.inl rfl) cK.o
       · rw[hs,if_pos rfl,List.tail_drop]at h2
         injection h2 with h2;have HR:=aa h2.symm;rw[hs]at Dn;clear h2 hs;go_wp2_with (go_at_call 220;((with_reducible refine Dn.o.mono ?_);rintro e w6 ⟨h1,⟨h2, -⟩|⟨-,rfl,h3⟩⟩;cases h2;have cK:=aa (aL.o.trans h1);have bM:=aa h3;clear h1 h3))
         go_ret;exact⟨cK.o,.inr ⟨_,_,_,HR.o,rfl,p5+1,ni,dx,rfl,jK.o,fun u hu j hj=>bZ hz (l8.o u hu j hj),bM.o⟩⟩
theorem Elem.kid:∃n,n≤100∧Elem Tryz.prog 46 3 1 n:=⟨8,by omega,Tryz.underlying46,⟨.int .i64 0,by kernel_rfl,rfl⟩,by decide⟩
theorem Own.jB {α : Type}{size:Nat}{E:Enc α size}{e:TypeId}{w:World}{base:Nat}{v:Value}{xs:List α}(h:Own E e w base v xs):∀g,v.ownBlock=Option.some g→base≤g∧g<w.heap.size∧∃cur,w.heap[g]? = Option.some (.cells cur e):=by
 intro g e;rcases h.2 with ⟨h1,_⟩|⟨g',cap,cur,h1,h2,h3,_⟩
 · rw[h1]at e;cases e
 · rw[h1]at e;injection e with e
   have e:g'=g:=e;subst e;exact⟨h2,(dZ.1 h3).1,cur,h3⟩
theorem bQ.kids {w w':World}{b:Nat}{tv:Value}{ts:List af}{p deep:Nat}{nv:Value}{vs:List aB}(h:bQ w b tv ts p deep nv vs){r:Option Nat}(hg:w.grownBy w' r)(hr:∀g,r=some g→b<g∧¬ zL w g∧∀v∈vs,v.bf.ownBlock≠some g):bQ w' b tv ts p deep nv vs:=by
 have hlow:=h.low;refine⟨?_, ?_,⟨h.nodes.1.keep ?_,fun v hv=>(h.nodes.2 v hv).keep ?_⟩, ?_,h.lt,h.low,h.fit,h.few,h.cnt,h.nest⟩
 · rw[hg.block b h.blt (by intro e;have:=(hr b e.symm).1;omega)];exact h.cell
 · obtain ⟨g,cap,h1,h2,h3⟩:=h.toks
   exact ⟨g,cap,h1,h2,h3.keep fun j _ hj e=>hg.block j hj (by
    intro e2;have:=(hr j e2.symm).1;rw[h1]at e;injection e with e;have:g=j:=e;omega)⟩
 · intro g h1 h2 h3
   exact hg.block g h2 (fun e=>(hr g e.symm).2.1 (h.row g h3).2)
 · intro g h1 h2 h3
   exact hg.block g h2 (fun e=>(hr g e.symm).2.2 v hv h3)
 · exact h.ops.keep (hg.block _ h.ops.lt (by intro e;have:=(hr _ e.symm).1;omega))
def rf (base:Nat)(name:ByteArray)(ns:List Nd)(ks:List Int)(r:List af):Option dW :=
 if au ⟨#[41]⟩ r=true then some (.ok (ns++[{ Nd.zero with kind:=7,text:=name,kids:=ks }],base+ns.length,r.tail))else some (.error 5)
def zS (f deep base:Nat)(name:ByteArray)(ts:List af):Option dW :=
 if 12≤deep then some (.error 6)
 else il (if au ⟨#[41]⟩ ts.tail=true then some (.ok ([],[],ts.tail))else gy f (deep+1) base [] [] ts.tail) (rf base name)
theorem U3 (f:Nat)(name:ByteArray){w:World}{b:Nat}{tv:Value}{ts:List af}{p deep:Nat}{nv:Value}{vs:List aB}(h:bQ w b tv ts p deep nv vs)(hnx:p+1<ts.length)(res:dW)(hres:zS f deep vs.length name (ts.drop p)=some res)(hd:12≤deep) :
 Calls Tryz.prog 219 #[.pointer (some ⟨b,0,none⟩),.string name] w (Out res w b tv ts deep vs):=by
 have HO:=aa (xq h hnx);unfold zS at hres;rw[if_pos hd]at hres;injection hres with hres;have HR:=aa hres.symm;clear hres h;go_enter Tryz.func219,Tryz.ntmps219;go_wp2_with (go_at_call 186;((with_reducible refine HO.o.mono ?_);rintro e w2 ⟨h1,⟨-,rfl⟩|⟨h2, -⟩⟩;rotate_left;exact absurd hd h2;have bI:=aa h1;clear h1))
 go_ret;exact Out.err HR.o (.inr rfl) bI.o
theorem Mi {α β γ α' β' γ' δ : Type}(x:Option (Except Int (α × β × γ)))(k : α → β → γ → Option (Except Int (α' × β' × γ')))(K : α' → β' → γ'→Option (Except Int δ)):il (il x k) K=il x fun a b c=>il (k a b c) K:=by
 match x with
 | none=>rfl
 | some (.error e)=>rfl
 | some (.ok (a,b,c))=>rfl
theorem U2 (f:Nat)(IH:∀g,g≤f→wz g)(name:ByteArray){w:World}{b:Nat}{tv:Value}{ts:List af}{p deep:Nat}{nv:Value}{vs:List aB}(h:bQ w b tv ts p deep nv vs)(hnx:p+1<ts.length)(res:dW)(hres:zS f deep vs.length name (ts.drop p)=some res) :
 Calls Tryz.prog 219 #[.pointer (some ⟨b,0,none⟩),.string name] w (Out res w b tv ts deep vs):=by
 by_cases hd:12≤deep
 · exact U3 f name h hnx res hres hd
 have HO:=aa (xq h hnx);unfold zS at hres;rw[if_neg hd,List.tail_drop]at hres;have si:=aa hres;have qh:=aa IH;have hbl:=h.blt;obtain⟨eb,lh,dA⟩:=Elem.kid;have kS:=aa dA;clear hres h IH dA;go_enter Tryz.func219,Tryz.ntmps219
 go_upto_region 6 with (first
  | (go_at_call 186;((with_reducible refine HO.o.mono ?_);rintro e w2 ⟨h1,⟨h2, -⟩|⟨-,rfl,h3⟩⟩;exact absurd h2 hd;have bI:=aa h1;have eY:=aa h3;have HS2:=aa (yO h3 ⟨#[41]⟩);clear h1 h3))
  | (go_at_call 185;((with_reducible refine HS2.o.mono ?_);rintro e w3 ⟨rfl,h1⟩;have dF:=aa (bI.o.below h1);have bW:=aa (eY.o.below h1);clear h1)))
 go_loopw [6,7] (fun IW mv wr=>∃(bf:Value)(more:Bool)(g:Nat)(ns:List Nd)(ks:List Int)(p':Nat)(aM:Value)(us:List aB),bf=IW∧mv = .bool more∧g≤f∧ks.length≤us.length∧us.length=ns.length ∧
  Hid ((more=true∧il (gy g (deep+1) vs.length ns ks (ts.drop p')) (rf vs.length name)=some res)∨(more=false∧rf vs.length name ns ks (ts.drop p')=some res)) ∧
  Hid (us.map aB.n=ns)∧Hid (∀u∈us,∀j,u.bf.ownBlock=some j→w.heap.size≤j)∧Hid (∀u∈vs++us,∀j,u.bf.ownBlock=some j→bf.ownBlock≠some j) ∧
  Hid (Own (bT .i64) 3 wr w.heap.size bf ks)∧Hid (bQ wr b tv ts p' (deep+1) aM (vs++us))∧Hid (Fr w wr b))
  (fun _ _ wr=>uU b ts.length wr)
 case atStart =>
  have hr:=si.o;refine⟨.slice none 0 0,_,f,[],[],p+1,nv,[],rfl,rfl,ag _,ag _,rfl, ?_,aa rfl,aa (by simp),aa (by intro u _ j _ e;cases e),aa (Own.nil _ _ _ _),by rw[fu];exact bW,dF⟩;refine aa ?_;cases hs:au ⟨#[41]⟩ (ts.drop (p+1))
  · rw[hs,if_neg (by decide)]at hr
    exact .inl ⟨rfl,hr⟩
  · rw[hs,if_pos rfl]at hr
    exact .inr ⟨rfl,hr⟩
 case round =>
  clear HO si bI eY HS2 dF bW;obtain⟨bf,more,g,ns,ks,p',aM,us,rfl,rfl,hg,hkl,yL,HM,HU,HK,HJ,kH,gP,HF⟩:=hrel;have jD:=gP.o.few;have hlt:=gP.o.lt;have hcnt:=gP.o.cnt;have hlen:(vs++us).length=vs.length+us.length:=aj;have Dv:=aa (gP.o.uU ts.length);cases more
  · have hK : rf vs.length name ns ks (ts.drop p')=some res:=by
     rcases HM.o with ⟨h1,_⟩|⟨_,h1⟩
     · cases h1
     · exact h1
    unfold rf at hK;have HC:=aa (P5 gP.o);cases hs:au ⟨#[41]⟩ (ts.drop p')
    · rw[hs,if_neg (by decide)]at hK
      injection hK with hK;have HR:=aa hK.symm;rw[hs]at HC;clear hK hs HM;go_wp2_with (go_at_call 220;((with_reducible refine HC.o.mono ?_);rintro e w6 ⟨h1,⟨-,rfl⟩|⟨h2, -⟩⟩;rotate_left;cases h2;have cK:=aa (HF.o.trans h1);clear h1))
      go_ret;exact Out.err HR.o (.inl rfl) cK.o
    · rw [hs,if_pos rfl,List.tail_drop]at hK
      injection hK with hK;have HR:=aa hK.symm;rw[hs]at HC;clear hK hs HM
      obtain ⟨v,pM,hvk⟩:∃v:aB,v.n={ Nd.zero with kind:=7,text:=name,kids:=ks }∧v.bf=bf:=by
       rcases kH.o.shape with ⟨rfl,rfl⟩|⟨g1,cap,rfl,_⟩
       · exact⟨⟨_,none⟩,rfl,rfl⟩
       · exact⟨⟨_,some (g1,cap)⟩,rfl,rfl⟩
      have jA:=aa pM;have lM:=aa hvk;clear pM hvk
      have tu:(∃g1 n1 cap,bf = .slice (some ⟨g1,0,none⟩) n1 cap)∨bf = .slice none 0 0:=by
       rcases kH.o.shape with ⟨h1,_⟩|⟨g1,cap,h1,_⟩
       · exact .inr h1
       · exact .inl ⟨g1,_,cap,h1⟩
      rcases tu with ⟨g1,n1,cap,rfl⟩|rfl
      all_goals
       go_upto_region 15 with (go_at_call 220;((with_reducible refine HC.o.mono ?_);rintro e w6 ⟨h1,⟨h2, -⟩|⟨-,rfl,h3⟩⟩;cases h2;have cK:=aa (HF.o.trans h1);have SG:=aa (kH.o.fr h1 hbl (by decide));have bM:=aa h3;clear h1 h3))
       have HA:=aa (show Calls Tryz.prog 187 #[.pointer (some ⟨b,0,none⟩),.agg #[.int .i64 7,.int .i64 0,.string name,.string ⟨#[]⟩,.int .i64 0,.int .i64 0,.bool false,.bool false,.string ⟨#[]⟩,.int .i64 0,.int .i64 0,.bool false,.bool false,_]] w6 _ from BI bM.o v (by rw[lM.o,jA.o];exact SG.o.mono (by omega)) (by omega) _ lM.o { Nd.zero with kind:=7,text:=name,kids:=ks } jA.o);go_wp2_with (go_at_call 187;((with_reducible refine HA.o.mono ?_);rintro e w7 ⟨h1,rfl,yV,h3⟩;have bP:=aa (cK.o.trans h1);have bB:=aa h3;clear h1 h3))
       go_ret;refine⟨bP.o,.inr ⟨_,_,_,HR.o,rfl,p'+1,yV,us++[v],rfl, ?_, ?_,by rw[← bO];exact bB.o⟩⟩
       · rw[iE,HU.o,jb,List.map_nil,jA.o]
       · intro u hu j hj
         rcases List.mem_append.1 hu with hu|hu
         · exact HK.o u hu j hj
         · rw[List.mem_singleton.1 hu,lM.o]at hj
           exact(kH.o.jB j hj).1
  · have hA:il (gy g (deep+1) vs.length ns ks (ts.drop p')) (rf vs.length name)=some res:=by
     rcases HM.o with ⟨_,h1⟩|⟨h1,_⟩
     · exact h1
     · cases h1
    match g,hg,hA with
    | 0,_,hA=>unfold gy il at hA;cases hA
    | g+1,hg,hA =>
    rw[sJ,Mi]at hA;have hbase:vs.length+ns.length=(vs++us).length:=by rw[hlen,yL]
    rw[hbase]at hA;rcases dQ hA with ⟨c,h1,rfl⟩|⟨ms,a,r,h1,h2⟩
    · have HL:=aa (show Calls Tryz.prog 126 #[.pointer (some ⟨b,0,none⟩),.int .i64 0] wr (Out (.error c) wr b tv ts (deep+1) (vs++us))from qh.o g (by omega) 0 (deep+1) _ wr b tv ts p' aM (vs++us) (by omega) gP.o h1)
      clear h1 hA HM;go_wp2_with (go_at_call 126;((with_reducible refine HL.o.mono ?_);intro e w5 ho;obtain⟨hf,hc,rfl⟩:=ho.bad rfl;have aL:=aa (HF.o.trans hf);have HC:=aa hc;have hc0:(c != 0)=true:=(by rw[bne_iff_ne];rcases hc with h|h <;> omega);clear hf hc ho))
      go_ret;exact Out.err rfl HC.o aL.o
    · have HL:=aa (show Calls Tryz.prog 126 #[.pointer (some ⟨b,0,none⟩),.int .i64 0] wr (Out (.ok (ms,a,r)) wr b tv ts (deep+1) (vs++us))from qh.o g (by omega) 0 (deep+1) _ wr b tv ts p' aM (vs++us) (by omega) gP.o h1)
      have H1:=aa h1;have H2:=aa h2;clear h1 h2 hA HM;go_upto_region 11 with (go_at_call 126;((with_reducible refine HL.o.mono ?_);intro e w5 ho;obtain⟨hf,rfl,p5,ni,dx,kg,kr,hk5,gU⟩:=ho.good rfl;have aL:=aa (HF.o.trans hf);have r9:=aa (kH.o.fr hf hbl (by decide));have bq:=aa gU;have HD5:=aa kg;have jK:=aa kr;have l8:=aa hk5;clear hf ho kg kr hk5 gU))
      obtain⟨hc1,hc2,hc3⟩:=wZ H1.o HD5.o bq.o.lt;have El:dx.length=ms.length:=by rw[← jK.o,dN]
      have Ef:((vs++us)++dx).length=vs.length+us.length+dx.length:=by rw[aj,aj]
      have Dw:=aa (E9 bq.o a (by omega));have hsz5:=aL.o.size;have TS:=aa HF.o.size
      have uC:=aa (show ∀u∈(vs++us)++dx,∀j,u.bf.ownBlock=some j→bf.ownBlock≠some j from by
       intro u hu j hj;rcases List.mem_append.1 hu with hu|hu
       · exact HJ.o u hu j hj
       · intro e
         have h3:=l8.o u hu j hj;have h4:=(kH.o.jB j e).2.1;omega)
      clear HL kH HJ
      go_upto_region 7 with (first
       | (go_at_call 188;((with_reducible refine Dw.o.mono ?_);rintro e wn ⟨rfl,rfl⟩))
       | (at_builtin;refine AP kS.o (bT .i64) rfl (.tmp 26) (.tmp 29) rfl w.heap.size bf ks rfl (r9.o.alloc _) ⟨w5.heap.size,0,none⟩ 1 1 [(a:Int)] rfl rfl ?_ ?_ ?_ ?_ ?_;exact fZ _ _ _ rfl;exact bZ (Nat.mul_le_mul_left _ lh) (by omega);(unfold maxLen;omega);(simp <;> omega);intro pO w6 h1 h2 h3;have rZ:=aa h1;have rU:=aa h2;have HAT:=aa h3;clear h1 h2 h3))
      have gT:Below w5.heap.size w5 (w5.alloc (.cells #[.int .i64 (a:Int)] 3)):=(ai _ _).alloc (ag _) _;have sV:=r9.o.alloc (.cells #[.int .i64 (a:Int)] 3)
      have bM:=aa ((bq.o.below gT).kids rU.o (by
       intro j e;obtain⟨q1,q2,cur,q3⟩:=sV.jB j e;refine⟨by omega, ?_,fun u hu e2=>uC.o u hu j e2 e⟩;rintro⟨cur',fr,e2⟩;rw[q3]at e2;injection e2 with e2;injection e2 with _ e2;exact absurd e2 (by decide)))
      have cK:=aa ((aL.o.below gT).row rU.o (by
       intro j e;obtain⟨q1,q2,cur,q3⟩:=sV.jB j e;exact⟨by omega,.inl q1⟩))
      have Dr:=aa (show ∀u∈(vs++us)++dx,∀j,u.bf.ownBlock=some j→pO.ownBlock≠some j from by
       intro u hu j hj;rcases HAT.o with e|e
       · rw[e];exact uC.o u hu j hj
       · rw[e]
         have h4:=((bq.o.nodes.2 u hu).jB j hj).2.1;intro e2;injection e2 with e2;simp at e2;omega)
      have qx:=aa (Js bM.o ⟨#[44]⟩);have h2:=H2.o;rw[← HD5.o]at h2;clear gT sV rU HAT uC r9 HF gP H2 Dw
      have BP:∀u∈us++dx,∀j,u.bf.ownBlock=some j→w.heap.size≤j:=by
       intro u hu j hj;rcases List.mem_append.1 hu with hu|hu
       · exact HK.o u hu j hj
       · exact bZ TS.o (l8.o u hu j hj)
      have Bn:=aa BP;clear BP;cases hs:au ⟨#[44]⟩ (ts.drop p5)
      · rw [hs,if_neg (by decide)]at h2
        have HN:=aa (show rf vs.length name (ns++ms) (ks++[(a:Int)]) (ts.drop p5)=some res from h2);rw[hs,if_neg (by decide)]at qx;clear h2 hs;go_wp2_with (go_at_call 218;((with_reducible refine qx.o.mono ?_);rintro e w7 ⟨h1,rfl,h3⟩;have bP:=aa (cK.o.trans h1);have qm:=aa (rZ.o.fr h1 hbl (by decide));have bB:=aa h3;clear h1 h3))
        go_roundw
        case rel =>
         refine⟨pO,false,g,ns++ms,ks++[(a:Int)],p5,ni,us++dx,rfl,rfl,by omega,by rw[aj,aj,fq];omega,by rw[aj,aj];omega,aa (.inr ⟨rfl,HN.o⟩),aa (by rw[iE,HU.o,jK.o]),Bn, ?_,qm, ?_,bP⟩
         · rw[← bO];exact Dr
         · rw[← bO];exact bB
        case measure =>
         have h1:=bB.o.uU ts.length;rw[Dv.o,h1];omega
      · rw [hs,if_pos rfl,List.tail_drop]at h2
        have HN:=aa h2;have NQ:=zh bM.o hs;rw[hs,if_pos rfl]at qx;clear h2 hs;go_wp2_with (go_at_call 218;((with_reducible refine qx.o.mono ?_);rintro e w7 ⟨h1,rfl,h3⟩;have bP:=aa (cK.o.trans h1);have qm:=aa (rZ.o.fr h1 hbl (by decide));have bB:=aa h3;clear h1 h3))
        go_roundw
        case rel =>
         refine⟨pO,true,g,ns++ms,ks++[(a:Int)],p5+1,ni,us++dx,rfl,rfl,by omega,by rw[aj,aj,fq];omega,by rw[aj,aj];omega,aa (.inl ⟨rfl,HN.o⟩),aa (by rw[iE,HU.o,jK.o]),Bn, ?_,qm, ?_,bP⟩
         · rw[← bO];exact Dr
         · rw[← bO];exact bB
        case measure =>
         have h1:=bB.o.uU ts.length;rw[Dv.o,h1];omega
def FD (f deep base:Nat)(name:ByteArray)(ts:List af):Option dW :=
 if name=⟨#[84,82,85,69]⟩then some (.ok ([{ Nd.zero with kind:=3,num:=1 }],base,ts))
 else if name=⟨#[70,65,76,83,69]⟩then some (.ok ([{ Nd.zero with kind:=3 }],base,ts))
 else if au ⟨#[40]⟩ ts=true then zS f deep base name ts else some (.error 5)
theorem xN (name c:ByteArray):(name.toList == c.toList)=decide (name=c):=by
 by_cases h:name=c
 · rw[h,decide_eq_true rfl];simp
 · rw[decide_eq_false h];exact beq_eq_false_iff_ne.2 (nX _ _ h)
theorem EA:(⟨#[84,82,85,69]⟩:ByteArray).toList=[84,82,85,69]:=by rw[oI]
theorem Ez:(⟨#[70,65,76,83,69]⟩:ByteArray).toList=[70,65,76,83,69]:=by rw[oI]
theorem aaS (f:Nat)(IH:∀g,g≤f→wz g)(name:ByteArray){w:World}{b:Nat}{tv:Value}{ts:List af}{p deep:Nat}{nv:Value}{vs:List aB}(h:bQ w b tv ts p deep nv vs)(hnx:p+1<ts.length)(res:dW)(hres:FD f deep vs.length name (ts.drop (p+1))=some res) :
 Calls Tryz.prog 191 #[.pointer (some ⟨b,0,none⟩),.string name] w (Out res w b tv ts deep vs):=by
 unfold FD at hres;have q1:=xN name ⟨#[84,82,85,69]⟩;have q2:=xN name ⟨#[70,65,76,83,69]⟩;rw[EA]at q1;rw[Ez]at q2;by_cases h1:name=⟨#[84,82,85,69]⟩
 · rw[decide_eq_true h1]at q1
   rw[if_pos h1]at hres;injection hres with hres;have HR:=aa hres.symm;have HA:=aa (show Calls Tryz.prog 189 #[.pointer (some ⟨b,0,none⟩),.agg #[.int .i64 3,.int .i64 1,.string ⟨#[]⟩,.string ⟨#[]⟩,.int .i64 0,.int .i64 0,.bool false,.bool false,.string ⟨#[]⟩,.int .i64 0,.int .i64 0,.bool false,.bool false,.slice none 0 0]] w _ from Af h hnx { Nd.zero with kind:=3,num:=1 } rfl);clear hres h h1 q2;go_enter Tryz.func191,Tryz.ntmps191;go_wp2_with (go_at_call 189;((with_reducible refine HA.o.mono ?_);rintro e w7 ⟨h1,rfl,aM,h3⟩;have bP:=aa h1;have bB:=aa h3;clear h1 h3))
   go_ret;exact Out.leaf HR.o bP.o rfl bB.o
 rw[decide_eq_false h1]at q1;rw[if_neg h1]at hres;by_cases h2:name=⟨#[70,65,76,83,69]⟩
 · rw[decide_eq_true h2]at q2
   rw[if_pos h2]at hres;injection hres with hres;have HR:=aa hres.symm;have HA:=aa (show Calls Tryz.prog 189 #[.pointer (some ⟨b,0,none⟩),.agg #[.int .i64 3,.int .i64 0,.string ⟨#[]⟩,.string ⟨#[]⟩,.int .i64 0,.int .i64 0,.bool false,.bool false,.string ⟨#[]⟩,.int .i64 0,.int .i64 0,.bool false,.bool false,.slice none 0 0]] w _ from Af h hnx { Nd.zero with kind:=3 } rfl);clear hres h h1 h2;go_enter Tryz.func191,Tryz.ntmps191;go_wp2_with (go_at_call 189;((with_reducible refine HA.o.mono ?_);rintro e w7 ⟨h1,rfl,aM,h3⟩;have bP:=aa h1;have bB:=aa h3;clear h1 h3))
   go_ret;exact Out.leaf HR.o bP.o rfl bB.o
 rw[decide_eq_false h2]at q2;rw[if_neg h2]at hres;obtain⟨c0,c1,c2,c3⟩:=h.facts;have f1:=h.frozen 1;have jD:=h.few;have HP:=aa h;clear c0 c2 c3 h1 h2 h;have bJ:=aa (HP.o.next hnx);have jy:=aa ((Fr.refl w b).setCell 1 (.int .i64 ((p:Int)+1)));cases hs:au ⟨#[40]⟩ (ts.drop (p+1))
 · rw[hs,if_neg (by decide)]at hres
   injection hres with hres;have HR:=aa hres.symm;have HS:=yO bJ.o ⟨#[40]⟩;rw[hs]at HS;have HS:=aa HS;clear hres hs;go_enter Tryz.func191,Tryz.ntmps191;go_upto_region 7 with (fail)
   generalize w.setCell ⟨b,1,none⟩ (.int .i64 ((p:Int)+1))=w1 at bJ jy HS ⊢;go_wp2_with (go_at_call 185;((with_reducible refine HS.o.mono ?_);rintro e w2 ⟨rfl,h1⟩;have bI:=aa (jy.o.below h1);clear h1))
   go_ret;exact Out.err HR.o (.inl rfl) bI.o
 · rw [hs,if_pos rfl]at hres
   have si:=aa hres;have hnx1:=zh bJ.o hs;have HS:=yO bJ.o ⟨#[40]⟩;rw[hs]at HS;have HS:=aa HS;have qh:=aa IH;clear hres hs IH;go_enter Tryz.func191,Tryz.ntmps191;go_upto_region 7 with (fail)
   generalize w.setCell ⟨b,1,none⟩ (.int .i64 ((p:Int)+1))=w1 at bJ jy HS ⊢
   go_wp2_with (first
    | (go_at_call 185;((with_reducible refine HS.o.mono ?_);rintro e w2 ⟨rfl,h1⟩;have bI:=aa (jy.o.below h1);have qU:=aa (U2 f qh.o name (bJ.o.below h1) hnx1 res si.o);clear h1))
    | (go_at_call 219;((with_reducible refine qU.o.mono ?_);intro e w3 ho;have mP:=aa ho;obtain⟨c,rfl⟩:=ho.ret;clear ho)))
   go_ret;obtain⟨hf,h2⟩:=mP.o;refine⟨bI.o.trans hf,h2.imp id ?_⟩;rintro⟨ms,a,r,g1,g2,p',aM,us,g3,g4,g5,g6⟩;exact⟨ms,a,r,g1,g2,p',aM,us,g3,g4,fun u hu j hj=>bZ bI.o.size (g5 u hu j hj),g6⟩
theorem Out.from {res:dW}{w w2 w3:World}{b:Nat}{tv:Value}{ts:List af}{deep:Nat}{vs:List aB}{e:Ending}(hf:Fr w w2 b)(h:Out res w2 b tv ts deep vs e w3):Out res w b tv ts deep vs e w3:=by
 refine⟨hf.trans h.1,h.2.imp id ?_⟩;rintro⟨ms,a,r,g1,g2,p',aM,us,g3,g4,g5,g6⟩;exact⟨ms,a,r,g1,g2,p',aM,us,g3,g4,fun u hu j hj=>bZ hf.size (g5 u hu j hj),g6⟩
theorem CL {s:ByteArray}{t:af}{ts:List af}(h:¬ t.kind=5):au s (t :: ts)=false:=by
 show(decide (t.kind=5)&&decide (t.text=s))=false;rw[decide_eq_false h];rfl
theorem aaI (f:Nat)(IH:∀g,g≤f→wz g){w:World}{b:Nat}{tv:Value}{ts:List af}{p deep:Nat}{nv:Value}{vs:List aB}(h:bQ w b tv ts p deep nv vs)(res:dW)(hres:iY (f+1) deep vs.length (ts.drop p)=some res) :
 Calls Tryz.prog 158 #[.pointer (some ⟨b,0,none⟩)] w (Out res w b tv ts deep vs):=by
 obtain⟨g,cap,t, -,ht,hd, -⟩:=h.tok;have bu:=aa (ER h t ht);have HP:=aa h;have hbl:=h.blt;rw[hd,mG]at hres;go_enter Tryz.func158,Tryz.ntmps158;go_upto_region 2 with (go_at_call 127;((with_reducible refine bu.o.mono ?_);rintro e w1 ⟨rfl,h1⟩;have HB:=aa h1;clear h1))
 have hB3:Below w1.heap.size w1 (w1.alloc (.cells #[.int .i64 t.kind,.string t.text,.int .i64 t.num,.string t.sh,.int .i64 t.c,.int .i64 t.r,.bool t.ac,.bool t.ar,.int .i64 t.pos] 154)):=(ai _ _).alloc (ag _) _;have aA:aC (w1.alloc (.cells #[.int .i64 t.kind,.string t.text,.int .i64 t.num,.string t.sh,.int .i64 t.c,.int .i64 t.r,.bool t.ac,.bool t.ar,.int .i64 t.pos] 154)) w1.heap.size t:=aC.new w1 t;have HB3:=aa (HB.o.trans (hB3.mono HB.o.size));clear hB3 HB;generalize hb4:w1.heap.size=b4 at aA ⊢;generalize w1.alloc (.cells #[.int .i64 t.kind,.string t.text,.int .i64 t.num,.string t.sh,.int .i64 t.c,.int .i64 t.r,.bool t.ac,.bool t.ar,.int .i64 t.pos] 154)=w3 at aA HB3 ⊢;clear hb4 bu;obtain⟨x0,x1,x2,x3,x4,x5,x6,x7,az⟩:=aA.cells;clear aA;have bW:=aa (HP.o.below HB3.o);have dF:=aa (Fr.of b HB3.o);obtain⟨kd,hkd⟩:∃kd,t.kind=kd:=⟨_,rfl⟩;by_cases k1:t.kind=1
 · have hnx:=h.fit.next ht (by omega)
   rw[CL (by omega),if_neg (by decide),if_pos k1]at hres;injection hres with hres;have HR:=aa hres.symm;have HA:=aa (show Calls Tryz.prog 189 #[.pointer (some ⟨b,0,none⟩),.agg #[.int .i64 1,.int .i64 t.num,.string ⟨#[]⟩,.string ⟨#[]⟩,.int .i64 0,.int .i64 0,.bool false,.bool false,.string ⟨#[]⟩,.int .i64 0,.int .i64 0,.bool false,.bool false,.slice none 0 0]] w3 _ from Af bW.o hnx { Nd.zero with kind:=1,num:=t.num } rfl);have e1:(kd == 1)=true:=beq_iff_eq.2 (by omega);rw[hkd]at x0;clear hres hd ht k1 hkd h;go_wp2_with (go_at_call 189;((with_reducible refine HA.o.mono ?_);rintro e w7 ⟨h1,rfl,aM,h3⟩;have bP:=aa (dF.o.trans h1);have bB:=aa h3;clear h1 h3))
   go_ret;exact Out.leaf HR.o bP.o rfl bB.o
 have e1:(kd == 1)=false:=beq_eq_false_iff_ne.2 (by omega);by_cases k2:t.kind=2
 · have hnx:=h.fit.next ht (by omega)
   rw[CL (by omega),if_neg (by decide),if_neg k1,if_pos k2]at hres;injection hres with hres;have HR:=aa hres.symm;have HA:=aa (show Calls Tryz.prog 189 #[.pointer (some ⟨b,0,none⟩),.agg #[.int .i64 2,.int .i64 0,.string t.text,.string ⟨#[]⟩,.int .i64 0,.int .i64 0,.bool false,.bool false,.string ⟨#[]⟩,.int .i64 0,.int .i64 0,.bool false,.bool false,.slice none 0 0]] w3 _ from Af bW.o hnx { Nd.zero with kind:=2,text:=t.text } rfl);have e2:(kd == 2)=true:=beq_iff_eq.2 (by omega);rw[hkd]at x0;clear hres hd ht k1 k2 hkd h;go_wp2_with (go_at_call 189;((with_reducible refine HA.o.mono ?_);rintro e w7 ⟨h1,rfl,aM,h3⟩;have bP:=aa (dF.o.trans h1);have bB:=aa h3;clear h1 h3))
   go_ret;exact Out.leaf HR.o bP.o rfl bB.o
 have e2:(kd == 2)=false:=beq_eq_false_iff_ne.2 (by omega);by_cases k6:t.kind=6
 · have hnx:=h.fit.next ht (by omega)
   rw[CL (by omega),if_neg (by decide),if_neg k1,if_neg k2,if_pos k6]at hres;injection hres with hres;have HR:=aa hres.symm;have HA:=aa (show Calls Tryz.prog 189 #[.pointer (some ⟨b,0,none⟩),.agg #[.int .i64 4,.int .i64 0,.string ⟨#[]⟩,.string ⟨#[]⟩,.int .i64 0,.int .i64 0,.bool false,.bool false,.string ⟨#[]⟩,.int .i64 0,.int .i64 0,.bool false,.bool false,.slice none 0 0]] w3 _ from Af bW.o hnx { Nd.zero with kind:=4 } rfl);have e6:(kd == 6)=true:=beq_iff_eq.2 (by omega);rw[hkd]at x0;clear hres hd ht k1 k2 k6 hkd h;go_wp2_with (go_at_call 189;((with_reducible refine HA.o.mono ?_);rintro e w7 ⟨h1,rfl,aM,h3⟩;have bP:=aa (dF.o.trans h1);have bB:=aa h3;clear h1 h3))
   go_ret;exact Out.leaf HR.o bP.o rfl bB.o
 have e6:(kd == 6)=false:=beq_eq_false_iff_ne.2 (by omega);by_cases k4:t.kind=4
 · have hnx:=h.fit.next ht (by omega)
   rw[CL (by omega),if_neg (by decide),if_neg k1,if_neg k2,if_neg k6,if_pos k4]at hres;injection hres with hres;have HA:=aa (aaA bW.o t hnx vs.length);rw[hres]at HA;have e4:(kd == 4)=true:=beq_iff_eq.2 (by omega);rw[hkd]at x0;clear hres hd ht k1 k2 k6 k4 hkd h;go_wp2_with (go_at_call 190;((with_reducible refine HA.o.mono ?_);intro e w7 ho;have mP:=aa (Out.from dF.o ho);obtain⟨c,rfl⟩:=ho.ret;clear ho))
   go_ret;exact mP.o
 have e4:(kd == 4)=false:=beq_eq_false_iff_ne.2 (by omega);by_cases k3:t.kind=3
 · have hnx:=h.fit.next ht (by omega)
   rw[CL (by omega),if_neg (by decide),if_neg k1,if_neg k2,if_neg k6,if_neg k4,if_pos k3]at hres;have HA:=aa (aaS f IH t.text bW.o hnx res hres);have e3:(kd == 3)=true:=beq_iff_eq.2 (by omega);rw[hkd]at x0;clear hres hd ht k1 k2 k6 k4 k3 hkd h IH;go_wp2_with (go_at_call 191;((with_reducible refine HA.o.mono ?_);intro e w7 ho;have mP:=aa (Out.from dF.o ho);obtain⟨c,rfl⟩:=ho.ret;clear ho))
   go_ret;exact mP.o
 have e3:(kd == 3)=false:=beq_eq_false_iff_ne.2 (by omega)
 have hb:D5 f deep vs.length (ts.drop p)=some res:=by
  unfold D5;rw[hd];by_cases c:au ⟨#[40]⟩ (t :: ts.drop (p+1))=true
  · rw[if_pos c]at hres ⊢;exact hres
  · rw[if_neg c,if_neg k1,if_neg k2,if_neg k6,if_neg k4,if_neg k3]at hres
    rw[if_neg c];exact hres
 have HA:=aa (XX f (IH f (ag _)) bW.o res hb);rw[hkd]at x0;clear hres hd ht k1 k2 k6 k4 k3 hkd h IH hb;go_wp2_with (go_at_call 192;((with_reducible refine HA.o.mono ?_);intro e w7 ho;have mP:=aa (Out.from dF.o ho);obtain⟨c,rfl⟩:=ho.ret;clear ho))
 go_ret;exact mP.o
theorem aez (f:Nat)(IH:∀g,g≤f→wz g){w:World}{b:Nat}{tv:Value}{ts:List af}{p deep:Nat}{nv:Value}{vs:List aB}(h:bQ w b tv ts p deep nv vs)(res:dW)(hres:eF (f+1) 4 deep vs.length (ts.drop p)=some res) :
 Calls Tryz.prog 157 #[.pointer (some ⟨b,0,none⟩)] w (Out res w b tv ts deep vs):=by
 have HS:=aa (yO h ⟨#[45]⟩);rw[pG,if_neg (by omega)]at hres;have HP:=aa h;cases hq:au ⟨#[45]⟩ (ts.drop p)
 · rw [hq,if_neg (by decide)]at hres
   rw[hq]at HS
   match f,IH,hres with
   | 0,_,hres=>unfold iY at hres;cases hres
   | f+1,IH,hres =>
   have HL:=aa (fun w1 (hb:Below w.heap.size w w1)=>IY b 5 (by omega) w1 (Out res w b tv ts deep vs) (fun e w' ho=>ho.ret) (fun w2 hb2=>by
    rw[Y7];exact(aaI f (fun g hg=>IH g (by omega)) (HP.o.below (hb.trans (hb2.mono hb.size))) res hres).mono fun e w3 ho=>Out.from (Fr.of b (hb.trans (hb2.mono hb.size))) ho))
   clear hq hres h IH;go_enter Tryz.func157,Tryz.ntmps157
   go_wp2_with (first
    | (go_at_call 185;((with_reducible refine HS.o.mono ?_);rintro e w1 ⟨rfl,h1⟩;have rY:=aa (show Calls Tryz.prog 126 #[.pointer (some ⟨b,0,none⟩),.int .i64 5] w1 (Out res w b tv ts deep vs)from HL.o w1 h1);clear h1))
    | (go_at_call 126;((with_reducible refine rY.o.mono ?_);intro e w2 ho;have mP:=aa ho;obtain⟨c,rfl⟩:=ho.ret;clear ho)))
   go_ret;exact mP.o
 · have hnx := zh h hq
   rw[hq,if_pos rfl]at hres;rw[hq]at HS;by_cases hd:12≤deep
   · rw [if_pos hd]at hres
     injection hres with hres;have HR:=aa hres.symm;clear hq hres h IH;go_enter Tryz.func157,Tryz.ntmps157
     go_wp2_with (first
      | (go_at_call 185;((with_reducible refine HS.o.mono ?_);rintro e w1 ⟨rfl,h1⟩;have jy:=aa (Fr.of b h1);have eX:=aa (xq (HP.o.below h1) hnx);clear h1))
      | (go_at_call 186;((with_reducible refine eX.o.mono ?_);rintro e w2 ⟨h1,⟨-,rfl⟩|⟨h2, -⟩⟩;rotate_left;exact absurd hd h2;have bI:=aa (jy.o.trans h1);clear h1)))
     go_ret;exact Out.err HR.o (.inr rfl) bI.o
   · rw [if_neg hd,List.tail_drop]at hres
     rcases dQ hres with ⟨c,h1,rfl⟩|⟨ns,a,r,h1,h2⟩
     · have HI:=aa (fun w2 hps=>IH f (ag _) 4 (deep+1) _ w2 b tv ts (p+1) nv vs (by omega) hps h1)
       clear hq hres h IH h1;go_enter Tryz.func157,Tryz.ntmps157
       go_wp2_with (first
        | (go_at_call 185;((with_reducible refine HS.o.mono ?_);rintro e w1 ⟨rfl,h1⟩;have jy:=aa (Fr.of b h1);have eX:=aa (xq (HP.o.below h1) hnx);clear h1))
        | (go_at_call 186;((with_reducible refine eX.o.mono ?_);rintro e w2 ⟨h1,⟨h2, -⟩|⟨-,rfl,h3⟩⟩;exact absurd h2 hd;have bI:=aa (jy.o.trans h1);have HL:=aa (show Calls Tryz.prog 126 #[.pointer (some ⟨b,0,none⟩),.int .i64 4] w2 (Out (.error c) w2 b tv ts (deep+1) vs)from HI.o w2 h3);clear h1 h3))
        | (go_at_call 126;((with_reducible refine HL.o.mono ?_);intro e w5 ho;obtain⟨hf,hc,rfl⟩:=ho.bad rfl;have aL:=aa (bI.o.trans hf);have HC:=aa hc;have hc0:(c != 0)=true:=(by rw[bne_iff_ne];rcases hc with h|h <;> omega);clear hf hc ho)))
       go_ret;exact Out.err rfl HC.o aL.o
     · have HI:=aa (fun w2 hps=>IH f (ag _) 4 (deep+1) _ w2 b tv ts (p+1) nv vs (by omega) hps h1)
       have H1:=aa h1;injection h2 with h2;have HR:=aa h2.symm;have hcn:=h.cnt;have Xz:deep≤12:=by omega
       clear hq hres h IH h1 h2;go_enter Tryz.func157,Tryz.ntmps157
       go_upto_region 9 with (first
        | (go_at_call 185;((with_reducible refine HS.o.mono ?_);rintro e w1 ⟨rfl,h1⟩;have jy:=aa (Fr.of b h1);have eX:=aa (xq (HP.o.below h1) hnx);clear h1))
        | (go_at_call 186;((with_reducible refine eX.o.mono ?_);rintro e w2 ⟨h1,⟨h2, -⟩|⟨-,rfl,h3⟩⟩;exact absurd h2 hd;have bI:=aa (jy.o.trans h1);have HL:=aa (show Calls Tryz.prog 126 #[.pointer (some ⟨b,0,none⟩),.int .i64 4] w2 (Out (.ok (ns,a,r)) w2 b tv ts (deep+1) vs)from HI.o w2 h3);clear h1 h3))
        | (go_at_call 126;((with_reducible refine HL.o.mono ?_);intro e w5 ho;obtain⟨hf,rfl,p5,ni,dx,kg,kr,hk5,gU⟩:=ho.good rfl;have aL:=aa (bI.o.trans hf);have bq:=aa gU;have HD5:=aa kg;have jK:=aa kr;have l8:=aa hk5;clear hf ho kg kr hk5 gU)))
       have hz:=bI.o.size;obtain⟨c0,c1,c2,c3⟩:=bq.o.facts;have f2:=bq.o.frozen 2;rw[show((deep+1:Nat):Int)=(deep:Int)+1 from rfl]at c2;clear c0 c1 c3;go_upto_region 10 with (fail)
       have bM:=aa (bq.o.oO deep Xz);have cK:=aa (aL.o.setCell 2 (.int .i64 (deep:Int)));have jZ:=aa (show(w5.setCell ⟨b,2,none⟩ (.int .i64 (deep:Int))).heap.size=w5.heap.size by simp);obtain⟨hc1,hc2,hc3⟩:=wZ H1.o HD5.o bq.o.lt;have afB:=aL.o.size;clear c2 f2 bq aL HL;generalize w5.setCell ⟨b,2,none⟩ (.int .i64 (deep:Int))=w6 at bM cK jZ ⊢;have El:dx.length=ns.length:=by rw[← jK.o,dN]
       have Ef:(vs++dx).length=vs.length+dx.length:=aj;have Tg:=aa (E9 bM.o a (by omega));have hbl:=bM.o.blt;have H7:Below w6.heap.size w6 (w6.alloc (.cells #[.int .i64 (a:Int)] 3)):=(ai _ _).alloc (ag _) _;have bB:=aa (bM.o.below H7);have bP:=aa (cK.o.below H7);have HA:=aa (show Calls Tryz.prog 187 #[.pointer (some ⟨b,0,none⟩),.agg #[.int .i64 8,.int .i64 0,.string ⟨#[]⟩,.string ⟨#[]⟩,.int .i64 0,.int .i64 0,.bool false,.bool false,.string ⟨#[]⟩,.int .i64 0,.int .i64 0,.bool false,.bool false,.slice (some ⟨w6.heap.size,0,none⟩) 1 1]] (w6.alloc (.cells #[.int .i64 (a:Int)] 3)) _ from BI bB.o ⟨{ Nd.zero with kind:=8,kids:=[(a:Int)] },some (w6.heap.size,1)⟩ (Jp w6 (b+1) (a:Int) (by omega)) (by omega) (.slice (some ⟨w6.heap.size,0,none⟩) 1 1) rfl { Nd.zero with kind:=8,kids:=[(a:Int)] } rfl);clear H7
       go_wp2_with (first
        | (go_at_call 188;((with_reducible refine Tg.o.mono ?_);rintro e wn ⟨rfl,rfl⟩))
        | (go_at_call 187;((with_reducible refine HA.o.mono ?_);rintro e w8 ⟨h1,rfl,xn,h3⟩;have lJ:=aa (bP.o.trans h1);have kW:=aa h3;clear h1 h3)))
       go_ret;refine⟨lJ.o,.inr ⟨_,_,_,HR.o,rfl,p5,xn,dx++[⟨{ Nd.zero with kind:=8,kids:=[(a:Int)] },some (w6.heap.size,1)⟩],HD5.o, ?_, ?_,by rw[← bO];exact kW.o⟩⟩
       · rw[iE,jK.o];rfl
       · intro u hu j hj
         rcases List.mem_append.1 hu with hu|hu
         · exact bZ hz (l8.o u hu j hj)
         · rw[List.mem_singleton.1 hu]at hj
           have hj:some w6.heap.size=some j:=hj;injection hj with hj;have:=jZ.o;omega
theorem MU:∀F:Nat,wz F:=by
 intro F
 induction F using Nat.strongRecOn with
 | _ F ih =>
   intro n deep res w b tv ts p nv vs hn h hres
   match F,ih,hres with
   | 0,_,hres=>unfold eF at hres;cases hres
   | f+1,ih,hres =>
   have IH:∀g,g≤f→wz g:=fun g hg=>ih g (by omega)
   by_cases h3:n≤3
   · rw[pG,if_pos h3]at hres
     exact YV b w _ (fun e w' ho=>ho.ret) n h3 fun w' hb=>(ab9 f IH n h3 (h.below hb) res hres).mono fun e w'' ho=>Out.from (Fr.of b hb) ho
   · have e4:n=4:=by omega
     subst e4;refine IY b 4 (by omega) w _ (fun e w' ho=>ho.ret) fun w' hb => ?_
     rw[Y6];exact(aez f IH (h.below hb) res hres).mono fun e w'' ho=>Out.from (Fr.of b hb) ho
def zO:Nat→Nat→List af→Prop
 | p,q,[]=>p≤q
 | p,q,t :: ts=>∃m:Nat,t.pos=(m:Int)∧p≤m∧m≤q∧zO m q ts
theorem zO.less {p p' q:Nat}(h:p'≤p):∀ {ts:List af},zO p q ts→zO p' q ts
 | [],k=>bZ h k
 | _ :: _,⟨m,h1,h2,h3,h4⟩=>⟨m,h1,bZ h h2,h3,h4⟩
theorem OX:∀(f p:Nat)(l:List Int)(ts:List af),eG f p l=some ts→zO p (p+l.length) ts
 | f,p,[],ts,h=>by
   have h0:eG f p []=some [af.zero.goto p]:=by unfold eG;rfl
   rw[h0]at h;injection h with h;subst h;exact⟨p,rfl,ag _,by simp,by simp[zO]⟩
 | 0,_,_ :: _,_,h=>by unfold eG at h;cases h
 | f + 1,p,x :: l,ts,h=>by
   rw[qG]at h;by_cases hx:x=32
   · rw[if_pos hx]at h
     have:=OX f (p+1) l ts h;rw[show p+1+l.length=p+(x :: l).length by simp only[aK];omega]at this;exact this.less (Nat.le_succ _)
   · rw [if_neg hx]at h
     cases hq:eP (x :: l)with
     | none=>rw[hq]at h;cases h
     | some q =>
       obtain⟨t0,n⟩:=q;have hn:=qa _ _ _ hq;rw[hq]at h;simp only[Option.map_eq_some_iff]at h;obtain⟨us,h1,rfl⟩:=h;have:=OX f (p+n) ((x :: l).drop n) us h1;rw[show p+n+((x :: l).drop n).length=p+(x :: l).length by rw[List.length_drop];omega]at this;exact⟨p,rfl,ag _,by omega,this.less (by omega)⟩
theorem I5 (s:ByteArray)(ts:List af)(h:fG (sb s)=some ts):ts≠[]:=by
 have key : ∀ (f p:Nat)(l:List Int)(ts:List af),eG f p l=some ts→ts≠[]:=by
  intro f
  induction f with
  | zero =>
    intro p l ts h;cases l with
    | nil => have h0:eG 0 p []=some [af.zero.goto p]:=by unfold eG;rfl
             rw[h0]at h;injection h with h;subst h;simp
    | cons x l=>unfold eG at h;cases h
  | succ f ih =>
    intro p l ts h;cases l with
    | nil => have h0:eG (f+1) p []=some [af.zero.goto p]:=by unfold eG;rfl
             rw[h0]at h;injection h with h;subst h;simp
    | cons x l =>
      rw[qG]at h;by_cases hx:x=32
      · rw[if_pos hx]at h;exact ih _ _ _ h
      · rw [if_neg hx]at h
        split at h
        · cases h
        · simp only[Option.map_eq_some_iff]at h
          obtain⟨us,_,rfl⟩:=h;simp
 exact key _ _ _ _ h
theorem OZ (s:ByteArray)(ts:List af)(h:fG (sb s)=some ts):ts.length≤s.size+1:=by
 have key : ∀ (f p:Nat)(l:List Int)(ts:List af),eG f p l=some ts→ts.length≤l.length+1:=by
  intro f
  induction f with
  | zero =>
    intro p l ts h;cases l with
    | nil => have h0:eG 0 p []=some [af.zero.goto p]:=by unfold eG;rfl
             rw[h0]at h;injection h with h;subst h;simp
    | cons x l=>unfold eG at h;cases h
  | succ f ih =>
    intro p l ts h;cases l with
    | nil => have h0:eG (f+1) p []=some [af.zero.goto p]:=by unfold eG;rfl
             rw[h0]at h;injection h with h;subst h;simp
    | cons x l =>
      rw[qG]at h;by_cases hx:x=32
      · rw[if_pos hx]at h;have:=ih _ _ _ h;simp only[aK];omega
      · rw [if_neg hx]at h
        cases hq:eP (x :: l)with
        | none=>rw[hq]at h;cases h
        | some q =>
          obtain⟨t0,n⟩:=q;have hn:=qa _ _ _ hq;rw[hq]at h;simp only[Option.map_eq_some_iff]at h;obtain⟨us,h1,rfl⟩:=h;have:=ih _ _ _ h1;rw[List.length_drop]at this;simp only[aK]at this hn ⊢;omega
 have:=key _ _ _ _ h;rw[bC]at this;exact this
theorem PN (x:Int)(w:World):Calls Tryz.prog 18 #[.int .i64 x] w fun e w'=>e = .returned (.int .i64 x)∧w=w':=by
 go_enter Tryz.func18,Tryz.ntmps18
 go_wp2
 go_ret;exact⟨rfl,rfl⟩
theorem oF{w w':World}(h:Below w.heap.size w w')(n:Nat):Below w.heap.size w (w'.drewN n):=⟨h.os,h.tape,h.output,h.size,h.block⟩
theorem O7 (s:ByteArray)(w:World)(hv:Vars w)(hs:300<s.size) :
 Calls Tryz.prog 125 #[.string s] w fun e w'=>Below w.heap.size w w'∧e = .returned (.tuple #[.slice none 0 0,.int .i64 4]):=by
 refine(I7 s w hv).mono ?_;rintro e w' ⟨hb,⟨_,rfl⟩|⟨h,_⟩|⟨h,_⟩⟩
 · exact⟨hb,rfl⟩
 · omega
 · omega
theorem QI (kd:Int)(l:Array Value)(hl:l[0]? = some (.int .i64 kd))(w:World):Sem.run Tryz.prog (Instr.field 154 (.agg l) 0) w = .ok (.int .i64 kd) w:=by
 simp[Instr.field,run_underlying Tryz.underlying154,part,isAgg,run_underlying Tryz.underlying3,asAgg,hl,go_sem]
def nE (s:ByteArray)(res:Except Int (List Nd)):Prop :=
 (300<s.size∧res = .error 4)∨(s.size≤300∧fG (sb s)=none∧res = .error 5)∨(s.size≤300∧∃ts f,fG (sb s)=some ts∧mF f ts=some res)
def TU (res:Except Int (List Nd))(w:World)(e:Ending)(w':World):Prop :=
 Below w.heap.size w w'∧((∃c,res = .error c∧e = .returned (.tuple #[.slice none 0 0,.int .i64 c])) ∨
  (∃ns nv vs,res = .ok ns∧vs.map aB.n=ns∧e = .returned (.tuple #[nv,.int .i64 0])∧jL w' w.heap.size nv vs∧dM ns=true))
theorem jL.mono{w:World}{lo lo':Nat}{nv:Value}{vs:List aB}(h:jL w lo nv vs)(hl:lo'≤lo):jL w lo' nv vs:=⟨h.1.mono hl,fun v hv=>(h.2 v hv).mono hl⟩
theorem aau (s:ByteArray)(w:World)(hv:Vars w)(ho:mV w)(res:Except Int (List Nd))(hp:nE s res) :
 Calls Tryz.prog 87 #[.string s] w (TU res w):=by
 rcases hp with ⟨h1,rfl⟩|⟨h1,h2,rfl⟩|⟨h1,ts,f,h2,h3⟩
 · have HL:=aa (O7 s w hv h1)
   clear hv ho h1;go_enter Tryz.func87,Tryz.ntmps87;go_wp2_with (go_at_call 125;((with_reducible refine HL.o.mono ?_);rintro e w1 ⟨hb,rfl⟩;have HB:=aa hb;clear hb))
   go_ret2
   exact⟨HB.o,.inl ⟨4,rfl,rfl⟩⟩
 · have HL:=aa (O6 s w hv h1 h2)
   clear hv ho h1 h2;go_enter Tryz.func87,Tryz.ntmps87;go_wp2_with (go_at_call 125;((with_reducible refine HL.o.mono ?_);rintro e w1 ⟨hb,rfl⟩;have HB:=aa hb;clear hb))
   go_ret2
   exact⟨HB.o,.inl ⟨5,rfl,rfl⟩⟩
 · obtain ⟨hgood,hfit⟩:=Ey s ts h2
   have hlen:=OZ s ts h2;have hne:=List.length_pos_iff.2 (I5 s ts h2);have HL:=aa (O5 s w hv h1 ts h2 hne);have hvl:=hv.lt;have hol:=ho.lt;have Lb:=aa ho;have Bh:=aa hfit;have TC:=aa (fun ns (h:res = .ok ns)=>PZ (by rw[← h];exact h3) hgood);unfold mF at h3;have H3:=aa h3;obtain⟨nt,hnt⟩:∃nt,ts.length=nt:=⟨_,rfl⟩;have kG:=aa hnt;rw[hnt]at HL hlen hne;clear hv ho h2 h3 hgood hfit hnt;go_enter Tryz.func87,Tryz.ntmps87;go_upto_region 5 with (go_at_call 125;((with_reducible refine HL.o.mono ?_);rintro e w1 ⟨hb,g1,fe,rfl,hg0,hg1,ho⟩;have eX:=aa ho;have HB:=aa hb;clear hb ho))
   have hB2:Below w1.heap.size w1 (w1.alloc (.cells #[.slice (some ⟨g1,0,none⟩) nt fe,.int .i64 0,.int .i64 0,.slice none 0 0] 172)):=(ai _ _).alloc (ag _) _;have hC2:(w1.alloc (.cells #[.slice (some ⟨g1,0,none⟩) nt fe,.int .i64 0,.int .i64 0,.slice none 0 0] 172)).heap[w1.heap.size]? = some (.cells #[.slice (some ⟨g1,0,none⟩) nt fe,.int .i64 0,.int .i64 0,.slice none 0 0] 172):=(jw w1 _).1;have jX:=aa (eX.o.below hB2 (ag _));have Gh:=aa (Lb.o.below (HB.o.trans (hB2.mono HB.o.size)));have HZ1:=aa HB.o.size;have HB2:=aa (HB.o.trans (hB2.mono HB.o.size));clear hB2 HB HL eX Lb;generalize w1.alloc (.cells #[.slice (some ⟨g1,0,none⟩) nt fe,.int .i64 0,.int .i64 0,.slice none 0 0] 172)=w2 at hC2 jX Gh HB2 ⊢;obtain⟨b,hb⟩:∃b,w1.heap.size=b:=⟨_,rfl⟩;rw[hb]at hC2 hg1 HZ1 ⊢;have hz1:=HZ1.o
   have HP:=aa (show bQ w2 b (.slice (some ⟨g1,0,none⟩) nt fe) ts 0 0 (.slice none 0 0) []from
    ⟨hC2,⟨g1,fe,by rw[kG.o],hg1,jX.o.mono (cu _)⟩,jL.nil _ _,Gh.o,by rw[kG.o];exact hne,by omega,Bh.o,by rw[kG.o];omega,cu _,by omega⟩)
   clear hb hC2 jX Gh Bh w1;rcases dQ H3.o with ⟨c,g2,rfl⟩|⟨ns,a,r,g2,g3⟩
   · have HX:=aa (show Calls Tryz.prog 126 #[.pointer (some ⟨b,0,none⟩),.int .i64 0] w2 (Out (.error c) w2 b (.slice (some ⟨g1,0,none⟩) nt fe) ts 0 [])from MU f 0 0 _ w2 b _ ts 0 _ [] (by omega) HP.o g2)
     clear g2 H3;go_wp2_with (go_at_call 126;((with_reducible refine HX.o.mono ?_);intro e w5 ho;obtain⟨hf,hc,rfl⟩:=ho.bad rfl;have dU:=aa (HB2.o.trans (hf.toBelow hz1 HB2.o.size));have hc0:(c != 0)=true:=(by rw[bne_iff_ne];rcases hc with h|h <;> omega);clear hf hc ho))
     go_ret2
     exact⟨dU.o,.inl ⟨c,rfl,rfl⟩⟩
   · have HX:=aa (show Calls Tryz.prog 126 #[.pointer (some ⟨b,0,none⟩),.int .i64 0] w2 (Out (.ok (ns,a,r)) w2 b (.slice (some ⟨g1,0,none⟩) nt fe) ts 0 [])from MU f 0 0 _ w2 b _ ts 0 _ [] (by omega) HP.o g2)
     have hns:=((xC f).1 _ _ _ _ _ _ _ g2).2.2;have H4:=aa g3;clear g2 g3 H3;go_upto_region 8 with (go_at_call 126;((with_reducible refine HX.o.mono ?_);intro e w5 ho;obtain⟨hf,rfl,p5,ni,dx,kg,kr,hk5,gU⟩:=ho.good rfl;have dU:=aa (HB2.o.trans (hf.toBelow hz1 HB2.o.size));have bq:=aa gU;have HD5:=aa kg;have jK:=aa kr;clear hf ho kg kr hk5 gU))
     obtain⟨gt,ct,t, -,ht,hd, -⟩:=bq.o.tok;have h4:=H4.o;rw[← HD5.o,hd]at h4;have bu:=aa (ER bq.o t ht);obtain⟨g5,cap5,rfl, -⟩:=Own.some bq.o.nodes.1 (show 0<([]++dx).length by rw[fQ, ← dN (f:=aB.n),jK.o];omega);obtain⟨kd,hkd⟩:∃kd,t.kind=kd:=⟨_,rfl⟩;rw[hkd]at bu;clear HX ht hd H4;by_cases h0:t.kind=0
     · rw[show uS (t :: ts.drop (p5+1))=t.kind from rfl,if_pos h0]at h4
       injection h4 with h4;have HR:=aa h4.symm;have e0:(kd != 0)=false:=by rw[← hkd,h0];rfl
       clear h4 h0 hkd;go_wp2_with (go_at_call 127;((with_reducible refine bu.o.mono ?_);rintro e w6 ⟨rfl,h1⟩;have lI:=aa (dU.o.trans (h1.mono dU.o.size));have bM:=aa (bq.o.below h1);obtain⟨c0,c1,c2,c3⟩:=bM.o.facts;have Xb:=QI kd #[.int .i64 kd,.string t.text,.int .i64 t.num,.string t.sh,.int .i64 t.c,.int .i64 t.r,.bool t.ac,.bool t.ar,.int .i64 t.pos] rfl w6;clear h1))
       go_ret2
       exact⟨lI.o,.inr ⟨ns,_,[]++dx,HR.o,by rw[fQ];exact jK.o,rfl,bM.o.nodes.mono (by omega),TC.o ns HR.o⟩⟩
     · rw[show uS (t :: ts.drop (p5+1))=t.kind from rfl,if_neg h0]at h4
       injection h4 with h4;have HR:=aa h4.symm;have e0:(kd != 0)=true:=by rw[bne_iff_ne, ← hkd];exact h0
       clear h4 h0 hkd;go_wp2_with (go_at_call 127;((with_reducible refine bu.o.mono ?_);rintro e w6 ⟨rfl,h1⟩;have lI:=aa (dU.o.trans (h1.mono dU.o.size));have Xb:=QI kd #[.int .i64 kd,.string t.text,.int .i64 t.num,.string t.sh,.int .i64 t.c,.int .i64 t.r,.bool t.ac,.bool t.ar,.int .i64 t.pos] rfl w6;clear h1))
       go_ret2
       exact⟨lI.o,.inl ⟨5,HR.o,rfl⟩⟩
theorem aav (s:ByteArray)(w:World)(hv:Vars w)(ho:mV w)(ns:List Nd)(hp:nE s (.ok ns))(hne:0<ns.length) :
 Calls Tryz.prog 87 #[.string s] w fun e w'=>Below w.heap.size w w'∧∃g cap vs,e = .returned (.tuple #[.slice (some ⟨g,0,none⟩) ns.length cap,.int .i64 0])∧vs.map aB.n=ns∧vs.length=ns.length∧jL w' w.heap.size (.slice (some ⟨g,0,none⟩) ns.length cap) vs∧dM ns=true:=by
 refine(aau s w hv ho _ hp).mono ?_;rintro e w' ⟨hb,⟨c',h1,h2⟩|⟨ns',nv,vs,h1,h2,h3,h4,h5⟩⟩
 · cases h1
 · injection h1 with h1;subst h1
   have hl:vs.length=ns.length:=by rw[← h2,dN]
   obtain⟨g,cap,rfl, -⟩:=Own.some h4.1 (by omega);rw[hl]at h3 h4;exact⟨hb,g,cap,vs,h3,h2,hl,h4,h5⟩
theorem jL.cell {w:World}{lo g n cap:Nat}{vs:List aB}(h:jL w lo (.slice (some ⟨g,0,none⟩) n cap) vs)(i:Nat)(v:aB)(hi:vs[i]? = some v)(j:Nat)(hj:j<14):w.cell? ⟨g,i*14+j,none⟩=(fH v.n v.bf).toList[j]? := by
 have hl:(fH v.n v.bf).toList.length=14:=rfl;have hu:(yt.f v)[j]? = some ((fH v.n v.bf).toList[j]'(by omega)):=bn _;have:=Own.cells h.1 (i*14+j) _ (by rw[yt.at vs i j v hi hj];exact hu);rw[this];exact hu.symm
theorem Cq (s:ByteArray)(c r:Int)(ac ar:Bool)(w:World)(_hs:s.size≤1000000) :
 Calls Tryz.prog 119 #[.agg #[.string s,.int .i64 c,.int .i64 r,.bool ac,.bool ar]] w fun e w'=>e = .returned (.bool (dn (sb s) c r))∧Below w.heap.size w w':=by
 by_cases h0:s.size=0
 · have:=rJ s h0
   subst this;have hm:dn (sb ⟨#[]⟩) c r=decide (0≤c∧c≤701∧0≤r∧r≤998):=by unfold dn;rw[show decide (sb ⟨#[]⟩=[])=true from by decide,Bool.true_or,Bool.true_and]
   have HM:=aa hm;clear hm;go_enter Tryz.func119,Tryz.ntmps119
   go_wp2
   all_goals go_ret
   all_goals exact⟨dD (by rw[HM.o];first|(symm;rw[decide_eq_true_iff];omega)|(symm;rw[decide_eq_false_iff_not];omega)|(rw[decide_eq_decide];omega)),(ai _ _).alloc (ag _) _⟩
 · have hne:=p8 s h0
   have hne2:s.toList.isEmpty=false:=by cases hq:s.toList with|nil=>exact absurd hq hne|cons a l=>rfl
   have hm:dn (sb s) c r=(fF (sb s)&&decide (0≤c∧c≤701∧0≤r∧r≤998)):=by
    unfold dn;rw[decide_eq_false (by intro h;have:=bC s;rw[h]at this;exact h0 this.symm),Bool.false_or]
   have HM:=aa hm;clear hm h0;by_cases hn:fF (sb s)=true
   · go_enter Tryz.func119,Tryz.ntmps119
     go_wp2_with (first
      | (go_at_call 73;((with_reducible refine(Ct _ _ ?_).mono ?_);(first|omega|skip);rintro e w' ⟨rfl,rfl⟩)))
     all_goals go_ret
     all_goals exact⟨dD (by rw[HM.o,hn,Bool.true_and];first|(symm;rw[decide_eq_true_iff];omega)|(symm;rw[decide_eq_false_iff_not];omega)|(rw[decide_eq_decide];omega)),(ai _ _).alloc (ag _) _⟩
   · have hn':fF (sb s)=false:=by simpa using hn
     clear hn;go_enter Tryz.func119,Tryz.ntmps119
     go_wp2_with (first
      | (go_at_call 73;((with_reducible refine(Ct _ _ ?_).mono ?_);(first|omega|skip);rintro e w' ⟨rfl,rfl⟩)))
     all_goals go_ret
     all_goals exact⟨dD (by rw[HM.o,hn',Bool.false_and]),(ai _ _).alloc (ag _) _⟩
theorem Zq (s:ByteArray)(h:iO (sb s)=true)(hr:fO s=none):∃t ts,fG (sb s)=some (t :: ts)∧t.kind=3∧t.text=s:=by
 have hc:=h;unfold iO at hc;rw[dE,dE,decide_eq_true_iff,decide_eq_true_iff]at hc;obtain⟨c1,c2,c3⟩:=hc;have hs:=jU s;cases hq:sb s with
 | nil=>rw[hq]at c2;simp at c2
 | cons x l =>
   rw[hq]at c1 c3 hs h
   have hall:∀y∈x :: l,isWord y=true:=by
    intro y hy;have:=c1 y hy;rw[Bool.or_eq_true]at this;rcases this with g|g
    · rw[Er,Ox g];rfl
    · rw[Er,g];simp
   have hx:aG x=true:=by simpa using c3
   have hxr:65≤x∧x≤90:=by unfold aG at hx;rw[decide_eq_true_iff]at hx;omega
   have h1:¬ isNum x=true:=by unfold isNum;rw[decide_eq_true_iff];omega
   have hl:isLet x=true:=by unfold isLet;rw[decide_eq_true_iff];omega
   have ht:(x :: l).takeWhile isWord=x :: l:=by
    have:=uj isWord (x :: l) [] hall (fun y hy=>by simp at hy);rw[fu]at this;exact this
   have Ej:eP (x :: l)=some ({ af.zero with kind:=3,text:=s },(x :: l).length):=by
    rw[p9,if_neg h1,if_neg (by omega),if_neg (by omega),if_pos (.inl hl)];unfold lD;rw[ht,hs,hr];simp only;rw[if_pos h]
   refine⟨({ af.zero with kind:=3,text:=s }:af).goto 0,[af.zero.goto (0+(x :: l).length)], ?_,rfl,rfl⟩;unfold fG;rw[aK,qG,if_neg (by omega),Ej];simp only;rw[List.drop_length];have:eG l.length (0+(x :: l).length) []=some [af.zero.goto (0+(x :: l).length)]:=by unfold eG;rfl
   rw[this];rfl
theorem Hl(s:ByteArray):jo s=((iO (sb s)&&(fO s).isNone)&&(decide (¬ s=⟨#[84,82,85,69]⟩)&&decide (¬ s=⟨#[70,65,76,83,69]⟩))):=by unfold jo;rw[Bool.and_assoc]
theorem Mt (s:ByteArray)(h:∀t ts,fG (sb s)=some (t :: ts)→¬ (t.kind=3∧t.text=s)):jo s=false:=by
 rw[Hl];cases hc:iO (sb s)
 · rfl
 · cases hr:fO s with
   | some d=>rfl
   | none =>
     obtain⟨t,ts,h1,h2,h3⟩:=Zq s hc hr;exact absurd ⟨h2,h3⟩ (h t ts h1)
theorem UW (s:ByteArray)(h:12<s.size):jo s=false:=by
 rw[Hl]
 have:iO (sb s)=false:=by
  unfold iO;rw[decide_eq_false (show ¬ (1≤(sb s).length∧(sb s).length≤12)by rw[bC];omega),Bool.false_and,Bool.and_false]
 rw[this];rfl
theorem X4 (s:ByteArray)(w:World)(hv:Vars w):Calls Tryz.prog 145 #[.string s] w fun e w'=>e = .returned (.bool (jo s))∧Below w.heap.size w w':=by
 have bad:∀c:Int,(c != 0)=true→jo s=false→(Calls Tryz.prog 125 #[.string s] w fun e w'=>Below w.heap.size w w'∧e = .returned (.tuple #[.slice none 0 0,.int .i64 c])) →
  Calls Tryz.prog 145 #[.string s] w fun e w'=>e = .returned (.bool (jo s))∧Below w.heap.size w w':=by
  intro c hc hb hl;have HL:=aa hl;have HB0:=aa hb;have hc2:(c == 0)=false:=by rw[beq_eq_false_iff_ne];exact bne_iff_ne.1 hc
  clear hl hb;go_enter Tryz.func145,Tryz.ntmps145;go_wp2_with (go_at_call 125;((with_reducible refine HL.o.mono ?_);rintro e w1 ⟨hb,rfl⟩;have HB:=aa hb;clear hb))
  go_ret;exact⟨by rw[HB0.o] <;> rfl,HB.o⟩
 by_cases hbig:300<s.size
 · exact bad 4 rfl (UW s (by omega)) (O7 s w hv hbig)
 · cases hl : fG (sb s)with
   | none=>exact bad 5 rfl (Mt s (fun t ts h=>by rw[hl]at h;cases h)) (O6 s w hv (by omega) hl)
   | some ts =>
     have hne:=I5 s ts hl;obtain⟨hgood,_⟩:=Ey s ts hl
     match ts,hne,hl,hgood with
     | t :: tl,_,hl,hgood =>
     have HX:=aa (O5 s w hv (by omega) (t :: tl) hl (by simp));have hg:=hgood t (by simp);obtain⟨kd,hkd⟩:∃kd,t.kind=kd:=⟨_,rfl⟩;obtain⟨tx,htx⟩:∃tx,t.text=tx:=⟨_,rfl⟩;have HC:=aa (fun h=>Mt s (fun t' ts' h'=>by rw[hl]at h';injection h' with h';injection h' with h1 h2;subst h1;exact h))
     have HG:=aa (show kd=3→tx=s→jo s=(decide (¬ s=⟨#[84,82,85,69]⟩)&&decide (¬ s=⟨#[70,65,76,83,69]⟩))from by
      intro h1 h2;obtain⟨g1,g2⟩:=hg.name (by rw[hkd,h1]);rw[htx,h2]at g1 g2;rw[Hl,g1,g2];rfl)
     have HK:=aa hkd;have HT:=aa htx;obtain⟨n,hn⟩:∃n,(t :: tl).length=n:=⟨_,rfl⟩;have hn1:0<n:=by rw[← hn];simp
     rw[hn]at HX;have q1:=xN s ⟨#[84,82,85,69]⟩;have q2:=xN s ⟨#[70,65,76,83,69]⟩;rw[EA]at q1;rw[Ez]at q2;clear hl hgood hg hkd htx hn hne bad;go_enter Tryz.func145,Tryz.ntmps145;go_upto_region 2 with (go_at_call 125;((with_reducible refine HX.o.mono ?_);rintro e w1 ⟨hb,g,cap,rfl,hg0,hg1,ho⟩;have HB:=aa hb;have k0:w1.cell? ⟨g,0,none⟩=some (.int .i64 kd):=((qy.cell ho 0 t rfl 0 (by omega)).trans (by show some (Value.int .i64 t.kind)=_;rw[HK.o]));have k1:w1.cell? ⟨g,1,none⟩=some (.string tx):=((qy.cell ho 0 t rfl 1 (by omega)).trans (by show some (Value.string t.text)=_;rw[HT.o]));clear hb ho))
     have hni:(0:Int)<(n:Int):=by omega
     by_cases h3:kd=3
     · have e3:(kd == 3)=true:=beq_iff_eq.2 h3
       by_cases hs:tx=s
       · have HR:=aa (HG.o h3 hs)
         have q3:(tx.toList == s.toList)=true:=by rw[hs];simp
         clear h3 hs HC HG HK HT HX;by_cases h1:s=⟨#[84,82,85,69]⟩
         · rw[decide_eq_true h1]at q1
           rw[decide_eq_false (show ¬ ¬ s=⟨#[84,82,85,69]⟩from fun h=>h h1),Bool.false_and]at HR;have Jv:(s.toList != [84,82,85,69])=false:=by rw[bne,q1];rfl
           clear h1;go_wp2_with fail
           go_ret;exact⟨by rw[HR.o] <;> rfl,HB.o⟩
         · rw [decide_eq_false h1]at q1
           rw[decide_eq_true h1,Bool.true_and]at HR;have Jv:(s.toList != [84,82,85,69])=true:=by rw[bne,q1];rfl
           clear h1;by_cases h2:s=⟨#[70,65,76,83,69]⟩
           · rw[decide_eq_true h2]at q2
             rw[decide_eq_false (show ¬ ¬ s=⟨#[70,65,76,83,69]⟩from fun h=>h h2)]at HR;have Jw:(s.toList != [70,65,76,83,69])=false:=by rw[bne,q2];rfl
             clear h2;go_wp2_with fail
             go_ret;exact⟨by rw[HR.o] <;> rfl,HB.o⟩
           · rw[decide_eq_false h2]at q2
             rw[decide_eq_true h2]at HR;have Jw:(s.toList != [70,65,76,83,69])=true:=by rw[bne,q2];rfl
             clear h2;go_wp2_with fail
             go_ret;exact⟨by rw[HR.o] <;> rfl,HB.o⟩
       · have HR:=aa (HC.o (fun h=>hs (by rw[← HT.o];exact h.2)))
         have q3:(tx.toList == s.toList)=false:=beq_eq_false_iff_ne.2 (nX _ _ hs);clear h3 hs HC HG HK HT HX;go_wp2_with fail
         go_ret;exact⟨by rw[HR.o] <;> rfl,HB.o⟩
     · have HR:=aa (HC.o (fun h=>h3 (by rw[← HK.o];exact h.1)))
       have e3:(kd == 3)=false:=beq_eq_false_iff_ne.2 h3;clear h3 HC HG HK HT HX;go_wp2_with fail
       go_ret;exact⟨by rw[HR.o] <;> rfl,HB.o⟩
theorem P8 (s:ByteArray)(k:Nat)(h:k<s.size)(hx:((s[k].toNat:Nat):Int)<32):lq (sb s)=false:=by
 unfold lq;rw[decide_eq_false_iff_not];intro hall;exact hall _ (dz (oM s k h)) hx
theorem P7 (s:ByteArray)(h:∀(j:Nat)(hj:j<s.size),¬ ((s[j].toNat:Nat):Int)<32):lq (sb s)=true:=by
 unfold lq;rw[decide_eq_true_iff];intro x hx;obtain⟨j,hj,rfl⟩:=List.mem_iff_getElem.1 hx;rw[bC]at hj;have:=oM s j hj;rw[bn (by rw[bC];exact hj)]at this;rw[dX this];exact h j hj
theorem X8 (s:ByteArray)(w:World)(_hs:s.size≤1000000):Calls Tryz.prog 143 #[.string s] w fun e w'=>e = .returned (.bool (lq (sb s)))∧w=w':=by
 go_enter Tryz.func143,Tryz.ntmps143;go_wp2_with fail
 go_loopw [6] (fun i wr=>∃k:Nat,k≤s.size∧i = .int .i64 k∧Hid (∀(j:Nat)(hj:j<s.size),j<k→¬ ((s[j].toNat:Nat):Int)<32)∧w=wr)
  (fun i _=>s.size - (intOf i).toNat)
 case atStart=>exact⟨0,by omega,rfl,aa (by intro j _ hj;omega),rfl⟩
 case round =>
  obtain⟨k,hk,rfl,HG,rfl⟩:=hrel;by_cases hlt:k<s.size
  · have hki:(k:Int)<(s.size:Int):=by omega
    obtain⟨a,ha⟩:∃a:Int,(s[k].toNat:Int)=a:=⟨_,rfl⟩;have ha1:0≤a∧a≤255:=by have:=s[k].toNat_lt;omega
    have HA:=aa ha;by_cases h32:a<32
    · have HB:=aa (P8 s k hlt (by rw[ha];exact h32))
      go_wp2_with fail
      go_ret;exact⟨by rw[HB.o] <;> rfl,rfl⟩
    · go_wp2_with fail
      go_roundw
      case rel =>
       refine⟨k+1,by omega,by go_num,aa ?_,by first|rfl|trivial⟩;intro j hj hjk;by_cases e:j=k
       · subst e;rw[HA.o];exact h32
       · exact HG.o j hj (by omega)
      case measure=>simp[intOf];omega
  · have hki:¬ (k:Int)<(s.size:Int):=by omega
    have HB:=aa (P7 s (fun j hj=>HG.o j hj (by omega)));go_wp2_with fail
    go_ret;exact⟨by rw[HB.o] <;> rfl,rfl⟩
def u7(k:Int):Bool:=decide (9≤k∧k≤19)
theorem Cm (k:Int)(w:World):Calls Tryz.prog 146 #[.int .i64 k] w fun e w'=>e = .returned (.bool (u7 k))∧w=w':=by
 go_enter Tryz.func146,Tryz.ntmps146;by_cases h1:9≤k
 · by_cases h2:k≤19
   · go_wp2
     go_ret;exact⟨dD (by unfold u7;symm;rw[decide_eq_true_iff];exact⟨h1,h2⟩),rfl⟩
   · go_wp2
     go_ret;exact⟨dD (by unfold u7;symm;rw[decide_eq_false_iff_not];omega),rfl⟩
 · go_wp2
   go_ret;exact⟨dD (by unfold u7;symm;rw[decide_eq_false_iff_not];omega),rfl⟩
def hkB(kind:Int)(m:Nat):Bool:=if kind=7 then true else if kind=8 then decide (m=1)else if u7 kind=true then decide (m=2)else decide (m=0)
theorem WL (n:Nd)(A:Option Addr)(m c:Nat)(hm:m≤maxLen)(w:World):Calls Tryz.prog 115 #[.agg #[.int .i64 n.kind,.int .i64 n.num,.string n.text,.string n.ref.sh,.int .i64 n.ref.c,.int .i64 n.ref.r,.bool n.ref.ac,.bool n.ref.ar,.string n.ae.sh,.int .i64 n.ae.c,.int .i64 n.ae.r,.bool n.ae.ac,.bool n.ae.ar,.slice A m c]] w fun e w'=>e = .returned (.bool (hkB n.kind m))∧Below w.heap.size w w':=by
 have hx:aH (w.alloc (.cells #[.int .i64 n.kind,.int .i64 n.num,.string n.text,.string n.ref.sh,.int .i64 n.ref.c,.int .i64 n.ref.r,.bool n.ref.ac,.bool n.ref.ar,.string n.ae.sh,.int .i64 n.ae.c,.int .i64 n.ae.r,.bool n.ae.ac,.bool n.ae.ar,.slice A m c] 48)) w.heap.size n (.slice A m c):=aH.new w n _;have HB:=aa ((ai w.heap.size w).alloc (ag _) (.cells #[.int .i64 n.kind,.int .i64 n.num,.string n.text,.string n.ref.sh,.int .i64 n.ref.c,.int .i64 n.ref.r,.bool n.ref.ac,.bool n.ref.ar,.string n.ae.sh,.int .i64 n.ae.c,.int .i64 n.ae.r,.bool n.ae.ac,.bool n.ae.ar,.slice A m c] 48));go_enter Tryz.func115,Tryz.ntmps115;go_upto_region 1 with (fail)
 generalize w.alloc (.cells #[.int .i64 n.kind,.int .i64 n.num,.string n.text,.string n.ref.sh,.int .i64 n.ref.c,.int .i64 n.ref.r,.bool n.ref.ac,.bool n.ref.ar,.string n.ae.sh,.int .i64 n.ae.c,.int .i64 n.ae.r,.bool n.ae.ac,.bool n.ae.ar,.slice A m c] 48)=w1 at hx HB ⊢;obtain⟨x0,x1,x2,x3,x4,x5,x6,x7,az,aW,aT,aU,aV,aP⟩:=hx.cells;clear hx;obtain⟨kd,hkd⟩:∃kd,n.kind=kd:=⟨_,rfl⟩;rw[hkd]at x0;have rX:=aa hkd;clear hkd;by_cases h7:kd=7
 · have e7:(kd == 7)=true:=beq_iff_eq.2 h7
   have HR:=aa (show hkB kd m=true by unfold hkB;rw[if_pos h7]);clear h7;go_wp2_with fail
   go_ret;exact⟨by rw[rX.o,HR.o] <;> rfl,HB.o⟩
 have e7:(kd == 7)=false:=beq_eq_false_iff_ne.2 h7;by_cases h8:kd=8
 · have e8:(kd == 8)=true:=beq_iff_eq.2 h8
   have HR:=aa (show hkB kd m=decide (m=1)by unfold hkB;rw[if_neg h7,if_pos h8]);clear h7 h8;by_cases hm1:m=1
   · subst hm1
     go_wp2_with fail
     go_ret;exact⟨by rw[rX.o,HR.o] <;> rfl,HB.o⟩
   · have em:((m:Int) == 1)=false:=by rw[beq_eq_false_iff_ne];omega
     rw[decide_eq_false hm1]at HR;go_wp2_with fail
     go_ret;exact⟨by rw[rX.o,HR.o];first|rfl|(simp;omega),HB.o⟩
 have e8:(kd == 8)=false:=beq_eq_false_iff_ne.2 h8;cases ht:u7 kd
 · have HR:=aa (show hkB kd m=decide (m=0)by unfold hkB;rw[if_neg h7,if_neg h8,ht,if_neg (by decide)])
   have HT:=Cm kd;rw[ht]at HT;have HT:=aa HT;clear h7 h8 ht;by_cases hm1:m=0
   · subst hm1
     go_wp2_with (go_at_call 146;((with_reducible refine(HT.o _).mono ?_);rintro e w2 ⟨rfl,rfl⟩))
     go_ret;exact⟨by rw[rX.o,HR.o] <;> rfl,HB.o⟩
   · have em:((m:Int) == 0)=false:=by rw[beq_eq_false_iff_ne];omega
     rw[decide_eq_false hm1]at HR;go_wp2_with (go_at_call 146;((with_reducible refine(HT.o _).mono ?_);rintro e w2 ⟨rfl,rfl⟩))
     go_ret;exact⟨by rw[rX.o,HR.o];first|rfl|(simp;omega),HB.o⟩
 · have HR:=aa (show hkB kd m=decide (m=2)by unfold hkB;rw[if_neg h7,if_neg h8,ht,if_pos rfl])
   have HT:=Cm kd;rw[ht]at HT;have HT:=aa HT;clear h7 h8 ht;by_cases hm1:m=2
   · subst hm1
     go_wp2_with (go_at_call 146;((with_reducible refine(HT.o _).mono ?_);rintro e w2 ⟨rfl,rfl⟩))
     go_ret;exact⟨by rw[rX.o,HR.o] <;> rfl,HB.o⟩
   · have em:((m:Int) == 2)=false:=by rw[beq_eq_false_iff_ne];omega
     rw[decide_eq_false hm1]at HR;go_wp2_with (go_at_call 146;((with_reducible refine(HT.o _).mono ?_);rintro e w2 ⟨rfl,rfl⟩))
     go_ret;exact⟨by rw[rX.o,HR.o];first|rfl|(simp;omega),HB.o⟩
def gW (n:Nd):Nd :=
 if n.kind=1 then { Nd.zero with num:=n.num }else if n.kind=2 then { Nd.zero with text:=n.text }else if n.kind=3 then { Nd.zero with num:=n.num }
 else if n.kind=5 then { Nd.zero with ref:=n.ref }else if n.kind=6 then ⟨0,0,⟨#[]⟩,n.ref,n.ae,[]⟩else if n.kind=7 then { Nd.zero with text:=n.text }else Nd.zero
def okF (n:Nd):Bool :=
 if n.kind=1 then decide (0≤n.num)else if n.kind=2 then lq (sb n.text)else if n.kind=3 then decide (n.num=0∨n.num=1)
 else if n.kind=5 then gp n.ref else if n.kind=6 then gp n.ref&&(gp n.ae&&fP n.ref n.ae)else if n.kind=7 then jo n.text else decide (n.kind=4∨n.kind=8)||u7 n.kind
theorem uX:Tryz.f114.results=#[.cell 2 48,.tmp 3]:=by kernel_rfl
theorem aH.load {w:World}{b:Nat}{n:Nd}{k:Value}(h:aH w b n k):(loadVar 48 ⟨b,0,none⟩).run Tryz.prog w = .ok (.agg (fH n k)) w :=
 run_loadVar_row w b 48 48 _ _ _ h Tryz.underlying48 rfl ZK
theorem uT {w:World}{b:Nat}{n:Nd}{k:Value}(h:aH w b n k)(fn:Func)(tmps:Array Value)(ok:Bool)(p u:Tmp)(hf:fn.results=#[.cell p 48,.tmp u])(hp:tmps.getD p undef = .pointer (some ⟨b,0,none⟩))(hu:tmps.getD u undef = .bool ok) :
 (results fn tmps).run Tryz.prog w = .ok (.tuple #[.agg (fH n k),.bool ok]) w:=by
 rw[results_cell_tmp hf,hp,hu];simp[asAddr,h.load,Result.andThen]
abbrev zt:Array Value:=#[.int .i64 0,.int .i64 0,.string ⟨#[]⟩,.string ⟨#[]⟩,.int .i64 0,.int .i64 0,.bool false,.bool false,.string ⟨#[]⟩,.int .i64 0,.int .i64 0,.bool false,.bool false,.slice none 0 0]
theorem aH.drew{w:World}{b:Nat}{n:Nd}{k:Value}(h:aH w b n k):aH w.drew b n k:=h
theorem aH.frozen{w:World}{b:Nat}{n:Nd}{k:Value}(h:aH w b n k)(j:Nat):w.frozen? ⟨b,j,none⟩=false:=frozen_of_row w b j _ _ h
theorem ab5 (w:World)(b:Nat)(t:TypeId)(u0 u1 u2 u3 u4 u5 zn xI u8 u9 uk rQ qL qd v0 v1 v2 v3 v4 v5 v6 v7 v8 v9 v10 v11 v12 v13:Value)(h:w.heap[b]? = some (.cells #[u0,u1,u2,u3,u4,u5,zn,xI,u8,u9,uk,rQ,qL,qd] t)) :
 ((((((((((((((w.setCell ⟨b,0,none⟩ v0).setCell ⟨b,1,none⟩ v1).setCell ⟨b,2,none⟩ v2).setCell ⟨b,3,none⟩ v3).setCell ⟨b,4,none⟩ v4).setCell ⟨b,5,none⟩ v5).setCell ⟨b,6,none⟩ v6).setCell ⟨b,7,none⟩ v7).setCell ⟨b,8,none⟩ v8).setCell ⟨b,9,none⟩ v9).setCell ⟨b,10,none⟩ v10).setCell ⟨b,11,none⟩ v11).setCell ⟨b,12,none⟩ v12).setCell ⟨b,13,none⟩ v13).heap[b]? = some (.cells #[v0,v1,v2,v3,v4,v5,v6,v7,v8,v9,v10,v11,v12,v13] t):=by
 have h0:(w.setCell ⟨b,0,none⟩ v0).heap[b]? = some (.cells #[v0,u1,u2,u3,u4,u5,zn,xI,u8,u9,uk,rQ,qL,qd] t):=by rw[heap_setCell_same _ b 0 _ _ _ h];rfl
 have h1:((w.setCell ⟨b,0,none⟩ v0).setCell ⟨b,1,none⟩ v1).heap[b]? = some (.cells #[v0,v1,u2,u3,u4,u5,zn,xI,u8,u9,uk,rQ,qL,qd] t):=by rw[heap_setCell_same _ b 1 _ _ _ h0];rfl
 have h2:(((w.setCell ⟨b,0,none⟩ v0).setCell ⟨b,1,none⟩ v1).setCell ⟨b,2,none⟩ v2).heap[b]? = some (.cells #[v0,v1,v2,u3,u4,u5,zn,xI,u8,u9,uk,rQ,qL,qd] t):=by rw[heap_setCell_same _ b 2 _ _ _ h1];rfl
 have h3:((((w.setCell ⟨b,0,none⟩ v0).setCell ⟨b,1,none⟩ v1).setCell ⟨b,2,none⟩ v2).setCell ⟨b,3,none⟩ v3).heap[b]? = some (.cells #[v0,v1,v2,v3,u4,u5,zn,xI,u8,u9,uk,rQ,qL,qd] t):=by rw[heap_setCell_same _ b 3 _ _ _ h2];rfl
 have h4:(((((w.setCell ⟨b,0,none⟩ v0).setCell ⟨b,1,none⟩ v1).setCell ⟨b,2,none⟩ v2).setCell ⟨b,3,none⟩ v3).setCell ⟨b,4,none⟩ v4).heap[b]? = some (.cells #[v0,v1,v2,v3,v4,u5,zn,xI,u8,u9,uk,rQ,qL,qd] t):=by rw[heap_setCell_same _ b 4 _ _ _ h3];rfl
 have h5:((((((w.setCell ⟨b,0,none⟩ v0).setCell ⟨b,1,none⟩ v1).setCell ⟨b,2,none⟩ v2).setCell ⟨b,3,none⟩ v3).setCell ⟨b,4,none⟩ v4).setCell ⟨b,5,none⟩ v5).heap[b]? = some (.cells #[v0,v1,v2,v3,v4,v5,zn,xI,u8,u9,uk,rQ,qL,qd] t):=by rw[heap_setCell_same _ b 5 _ _ _ h4];rfl
 have h6:(((((((w.setCell ⟨b,0,none⟩ v0).setCell ⟨b,1,none⟩ v1).setCell ⟨b,2,none⟩ v2).setCell ⟨b,3,none⟩ v3).setCell ⟨b,4,none⟩ v4).setCell ⟨b,5,none⟩ v5).setCell ⟨b,6,none⟩ v6).heap[b]? = some (.cells #[v0,v1,v2,v3,v4,v5,v6,xI,u8,u9,uk,rQ,qL,qd] t):=by rw[heap_setCell_same _ b 6 _ _ _ h5];rfl
 have h7:((((((((w.setCell ⟨b,0,none⟩ v0).setCell ⟨b,1,none⟩ v1).setCell ⟨b,2,none⟩ v2).setCell ⟨b,3,none⟩ v3).setCell ⟨b,4,none⟩ v4).setCell ⟨b,5,none⟩ v5).setCell ⟨b,6,none⟩ v6).setCell ⟨b,7,none⟩ v7).heap[b]? = some (.cells #[v0,v1,v2,v3,v4,v5,v6,v7,u8,u9,uk,rQ,qL,qd] t):=by rw[heap_setCell_same _ b 7 _ _ _ h6];rfl
 have h8:(((((((((w.setCell ⟨b,0,none⟩ v0).setCell ⟨b,1,none⟩ v1).setCell ⟨b,2,none⟩ v2).setCell ⟨b,3,none⟩ v3).setCell ⟨b,4,none⟩ v4).setCell ⟨b,5,none⟩ v5).setCell ⟨b,6,none⟩ v6).setCell ⟨b,7,none⟩ v7).setCell ⟨b,8,none⟩ v8).heap[b]? = some (.cells #[v0,v1,v2,v3,v4,v5,v6,v7,v8,u9,uk,rQ,qL,qd] t):=by rw[heap_setCell_same _ b 8 _ _ _ h7];rfl
 have h9:((((((((((w.setCell ⟨b,0,none⟩ v0).setCell ⟨b,1,none⟩ v1).setCell ⟨b,2,none⟩ v2).setCell ⟨b,3,none⟩ v3).setCell ⟨b,4,none⟩ v4).setCell ⟨b,5,none⟩ v5).setCell ⟨b,6,none⟩ v6).setCell ⟨b,7,none⟩ v7).setCell ⟨b,8,none⟩ v8).setCell ⟨b,9,none⟩ v9).heap[b]? = some (.cells #[v0,v1,v2,v3,v4,v5,v6,v7,v8,v9,uk,rQ,qL,qd] t):=by rw[heap_setCell_same _ b 9 _ _ _ h8];rfl
 have h10:(((((((((((w.setCell ⟨b,0,none⟩ v0).setCell ⟨b,1,none⟩ v1).setCell ⟨b,2,none⟩ v2).setCell ⟨b,3,none⟩ v3).setCell ⟨b,4,none⟩ v4).setCell ⟨b,5,none⟩ v5).setCell ⟨b,6,none⟩ v6).setCell ⟨b,7,none⟩ v7).setCell ⟨b,8,none⟩ v8).setCell ⟨b,9,none⟩ v9).setCell ⟨b,10,none⟩ v10).heap[b]? = some (.cells #[v0,v1,v2,v3,v4,v5,v6,v7,v8,v9,v10,rQ,qL,qd] t):=by rw[heap_setCell_same _ b 10 _ _ _ h9];rfl
 have h11:((((((((((((w.setCell ⟨b,0,none⟩ v0).setCell ⟨b,1,none⟩ v1).setCell ⟨b,2,none⟩ v2).setCell ⟨b,3,none⟩ v3).setCell ⟨b,4,none⟩ v4).setCell ⟨b,5,none⟩ v5).setCell ⟨b,6,none⟩ v6).setCell ⟨b,7,none⟩ v7).setCell ⟨b,8,none⟩ v8).setCell ⟨b,9,none⟩ v9).setCell ⟨b,10,none⟩ v10).setCell ⟨b,11,none⟩ v11).heap[b]? = some (.cells #[v0,v1,v2,v3,v4,v5,v6,v7,v8,v9,v10,v11,qL,qd] t):=by rw[heap_setCell_same _ b 11 _ _ _ h10];rfl
 have h12:(((((((((((((w.setCell ⟨b,0,none⟩ v0).setCell ⟨b,1,none⟩ v1).setCell ⟨b,2,none⟩ v2).setCell ⟨b,3,none⟩ v3).setCell ⟨b,4,none⟩ v4).setCell ⟨b,5,none⟩ v5).setCell ⟨b,6,none⟩ v6).setCell ⟨b,7,none⟩ v7).setCell ⟨b,8,none⟩ v8).setCell ⟨b,9,none⟩ v9).setCell ⟨b,10,none⟩ v10).setCell ⟨b,11,none⟩ v11).setCell ⟨b,12,none⟩ v12).heap[b]? = some (.cells #[v0,v1,v2,v3,v4,v5,v6,v7,v8,v9,v10,v11,v12,qd] t):=by rw[heap_setCell_same _ b 12 _ _ _ h11];rfl
 have yw:((((((((((((((w.setCell ⟨b,0,none⟩ v0).setCell ⟨b,1,none⟩ v1).setCell ⟨b,2,none⟩ v2).setCell ⟨b,3,none⟩ v3).setCell ⟨b,4,none⟩ v4).setCell ⟨b,5,none⟩ v5).setCell ⟨b,6,none⟩ v6).setCell ⟨b,7,none⟩ v7).setCell ⟨b,8,none⟩ v8).setCell ⟨b,9,none⟩ v9).setCell ⟨b,10,none⟩ v10).setCell ⟨b,11,none⟩ v11).setCell ⟨b,12,none⟩ v12).setCell ⟨b,13,none⟩ v13).heap[b]? = some (.cells #[v0,v1,v2,v3,v4,v5,v6,v7,v8,v9,v10,v11,v12,v13] t):=by rw[heap_setCell_same _ b 13 _ _ _ h12];rfl
 exact yw
theorem aH.uV{w:World}{b:Nat}{n0:Nd}{k0:Value}(h:aH w b n0 k0)(n:Nd)(k:Value):aH ((((((((((((((w.setCell ⟨b,0,none⟩ (.int .i64 n.kind)).setCell ⟨b,1,none⟩ (.int .i64 n.num)).setCell ⟨b,2,none⟩ (.string n.text)).setCell ⟨b,3,none⟩ (.string n.ref.sh)).setCell ⟨b,4,none⟩ (.int .i64 n.ref.c)).setCell ⟨b,5,none⟩ (.int .i64 n.ref.r)).setCell ⟨b,6,none⟩ (.bool n.ref.ac)).setCell ⟨b,7,none⟩ (.bool n.ref.ar)).setCell ⟨b,8,none⟩ (.string n.ae.sh)).setCell ⟨b,9,none⟩ (.int .i64 n.ae.c)).setCell ⟨b,10,none⟩ (.int .i64 n.ae.r)).setCell ⟨b,11,none⟩ (.bool n.ae.ac)).setCell ⟨b,12,none⟩ (.bool n.ae.ar)).setCell ⟨b,13,none⟩ (k)) b n k:=ab5 w b _ _ _ _ _ _ _ _ _ _ _ _ _ _ _ _ _ _ _ _ _ _ _ _ _ _ _ _ _ h
theorem uN {B:Nat}{a w:World}{b:Nat}(h:Below B a w)(hb:B≤b)(v0 v1 v2 v3 v4 v5 v6 v7 v8 v9 v10 v11 v12 v13:Value):Below B a ((((((((((((((w.setCell ⟨b,0,none⟩ v0).setCell ⟨b,1,none⟩ v1).setCell ⟨b,2,none⟩ v2).setCell ⟨b,3,none⟩ v3).setCell ⟨b,4,none⟩ v4).setCell ⟨b,5,none⟩ v5).setCell ⟨b,6,none⟩ v6).setCell ⟨b,7,none⟩ v7).setCell ⟨b,8,none⟩ v8).setCell ⟨b,9,none⟩ v9).setCell ⟨b,10,none⟩ v10).setCell ⟨b,11,none⟩ v11).setCell ⟨b,12,none⟩ v12).setCell ⟨b,13,none⟩ v13) :=
 ((((((((((((((h.setCell hb _).setCell hb _).setCell hb _).setCell hb _).setCell hb _).setCell hb _).setCell hb _).setCell hb _).setCell hb _).setCell hb _).setCell hb _).setCell hb _).setCell hb _).setCell hb _)
theorem V4 (n:Nd)(h1:n.kind=1)(A:Option Addr)(m c:Nat)(w:World):Calls Tryz.prog 114 #[.agg #[.int .i64 n.kind,.int .i64 n.num,.string n.text,.string n.ref.sh,.int .i64 n.ref.c,.int .i64 n.ref.r,.bool n.ref.ac,.bool n.ref.ar,.string n.ae.sh,.int .i64 n.ae.c,.int .i64 n.ae.r,.bool n.ae.ac,.bool n.ae.ar,.slice A m c]] w fun e w'=>e = .returned (.tuple #[.agg (fH { Nd.zero with num:=n.num } (.slice none 0 0)),.bool (decide (0≤n.num))])∧Below w.heap.size w w':=by
 have hsz:(w.alloc (.cells #[.int .i64 n.kind,.int .i64 n.num,.string n.text,.string n.ref.sh,.int .i64 n.ref.c,.int .i64 n.ref.r,.bool n.ref.ac,.bool n.ref.ar,.string n.ae.sh,.int .i64 n.ae.c,.int .i64 n.ae.r,.bool n.ae.ac,.bool n.ae.ar,.slice A m c] 48)).heap.size=w.heap.size+1:=by simp
 have hx:aH (w.alloc (.cells #[.int .i64 n.kind,.int .i64 n.num,.string n.text,.string n.ref.sh,.int .i64 n.ref.c,.int .i64 n.ref.r,.bool n.ref.ac,.bool n.ref.ar,.string n.ae.sh,.int .i64 n.ae.c,.int .i64 n.ae.r,.bool n.ae.ac,.bool n.ae.ar,.slice A m c] 48)) w.heap.size n (.slice A m c):=aH.new w n _;have hy:aH ((w.alloc (.cells #[.int .i64 n.kind,.int .i64 n.num,.string n.text,.string n.ref.sh,.int .i64 n.ref.c,.int .i64 n.ref.r,.bool n.ref.ac,.bool n.ref.ar,.string n.ae.sh,.int .i64 n.ae.c,.int .i64 n.ae.r,.bool n.ae.ac,.bool n.ae.ar,.slice A m c] 48)).alloc (.cells zt 48)) (w.heap.size+1) Nd.zero (.slice none 0 0):=by rw[← hsz];exact aH.new _ Nd.zero _
 have hx2:=hx.below ((ai _ _).alloc (ag _) (.cells zt 48)) hx.lt;have HB:=aa (((ai w.heap.size w).alloc (ag _) (.cells #[.int .i64 n.kind,.int .i64 n.num,.string n.text,.string n.ref.sh,.int .i64 n.ref.c,.int .i64 n.ref.r,.bool n.ref.ac,.bool n.ref.ar,.string n.ae.sh,.int .i64 n.ae.c,.int .i64 n.ae.r,.bool n.ae.ac,.bool n.ae.ar,.slice A m c] 48)).alloc (by simp) (.cells zt 48));have e1:(n.kind == 1)=true:=beq_iff_eq.2 h1;clear h1;go_enter Tryz.func114,Tryz.ntmps114;go_upto_region 3 with (fail)
 generalize (w.alloc (.cells #[.int .i64 n.kind,.int .i64 n.num,.string n.text,.string n.ref.sh,.int .i64 n.ref.c,.int .i64 n.ref.r,.bool n.ref.ac,.bool n.ref.ar,.string n.ae.sh,.int .i64 n.ae.c,.int .i64 n.ae.r,.bool n.ae.ac,.bool n.ae.ar,.slice A m c] 48)).alloc (.cells zt 48)=w1 at hx2 hy HB ⊢;obtain⟨x0,x1,x2,x3,x4,x5,x6,x7,az,aW,aT,aU,aV,aP⟩:=hx2.cells;obtain⟨y0,y1,y2,y3,y4,kQ,y6,lF,mJ,uu,um,uo,uq,y13⟩:=hy.cells;have f0:=hy.frozen 0;have f1:=hy.frozen 1;have f2:=hy.frozen 2;have f3:=hy.frozen 3;have f4:=hy.frozen 4;have f5:=hy.frozen 5;have f6:=hy.frozen 6;have f7:=hy.frozen 7;have f8:=hy.frozen 8;have f9:=hy.frozen 9;have f10:=hy.frozen 10;have f11:=hy.frozen 11;have f12:=hy.frozen 12;have f13:=hy.frozen 13;have fB:=aa hy;clear hx hx2 hy
 go_region
 all_goals go_wp2_with fail
 all_goals exact bodyPost_ret (uT (fB.o.uV { Nd.zero with num:=n.num } (.slice none 0 0)).drew _ _ _ 2 3 uX rfl rfl) rfl ⟨rfl,(uN HB.o (by omega) _ _ _ _ _ _ _ _ _ _ _ _ _ _).drew⟩
theorem aH.bK {w:World}{b:Nat}{n:Nd}{k:Value}(h:aH w b n k):w.frozen? ⟨b,0,none⟩=false∧w.frozen? ⟨b,1,none⟩=false∧w.frozen? ⟨b,2,none⟩=false∧w.frozen? ⟨b,3,none⟩=false∧w.frozen? ⟨b,4,none⟩=false∧w.frozen? ⟨b,5,none⟩=false∧w.frozen? ⟨b,6,none⟩=false∧w.frozen? ⟨b,7,none⟩=false∧w.frozen? ⟨b,8,none⟩=false∧w.frozen? ⟨b,9,none⟩=false∧w.frozen? ⟨b,10,none⟩=false∧w.frozen? ⟨b,11,none⟩=false∧w.frozen? ⟨b,12,none⟩=false∧w.frozen? ⟨b,13,none⟩=false :=
 ⟨h.frozen 0,h.frozen 1,h.frozen 2,h.frozen 3,h.frozen 4,h.frozen 5,h.frozen 6,h.frozen 7,h.frozen 8,h.frozen 9,h.frozen 10,h.frozen 11,h.frozen 12,h.frozen 13⟩
theorem vU (w:World)(n:Nd)(A:Option Addr)(m c:Nat):∃w1,(w.alloc (.cells #[.int .i64 n.kind,.int .i64 n.num,.string n.text,.string n.ref.sh,.int .i64 n.ref.c,.int .i64 n.ref.r,.bool n.ref.ac,.bool n.ref.ar,.string n.ae.sh,.int .i64 n.ae.c,.int .i64 n.ae.r,.bool n.ae.ac,.bool n.ae.ar,.slice A m c] 48)).alloc (.cells zt 48)=w1∧aH w1 w.heap.size n (.slice A m c)∧aH w1 (w.heap.size+1) Nd.zero (.slice none 0 0)∧Below w.heap.size w w1∧w.heap.size+1<w1.heap.size:=by
 have hx:=aH.new w n (.slice A m c);obtain⟨wa,uR⟩:∃wa,w.alloc (.cells #[.int .i64 n.kind,.int .i64 n.num,.string n.text,.string n.ref.sh,.int .i64 n.ref.c,.int .i64 n.ref.r,.bool n.ref.ac,.bool n.ref.ar,.string n.ae.sh,.int .i64 n.ae.c,.int .i64 n.ae.r,.bool n.ae.ac,.bool n.ae.ar,.slice A m c] 48)=wa:=⟨_,rfl⟩;have vM:Below w.heap.size w wa:=by rw[← uR];exact(ai _ _).alloc (ag _) _
 have hz:wa.heap.size=w.heap.size+1:=by rw[← uR,kD]
 have hx1:aH wa w.heap.size n (.slice A m c):=by rw[← uR];exact hx
 have hb:Below wa.heap.size wa (wa.alloc (.cells zt 48)):=(ai _ _).alloc (ag _) _;have hy:=aH.new wa Nd.zero (.slice none 0 0);rw[hz]at hy;refine⟨wa.alloc (.cells zt 48),by rw[uR],hx1.below hb hx1.lt,hy,vM.trans (hb.mono vM.size),by rw[kD,hz];exact Nat.lt_succ_self _⟩
theorem V5 (w:World)(n:Nd)(h2:n.kind=2)(hs:n.text.size≤1000000)(A:Option Addr)(m c:Nat):Calls Tryz.prog 114 #[.agg #[.int .i64 n.kind,.int .i64 n.num,.string n.text,.string n.ref.sh,.int .i64 n.ref.c,.int .i64 n.ref.r,.bool n.ref.ac,.bool n.ref.ar,.string n.ae.sh,.int .i64 n.ae.c,.int .i64 n.ae.r,.bool n.ae.ac,.bool n.ae.ar,.slice A m c]] w fun e w'=>e = .returned (.tuple #[.agg (fH { Nd.zero with text:=n.text } (.slice none 0 0)),.bool (lq (sb n.text))])∧Below w.heap.size w w':=by
 obtain⟨w1,hw1,hx2,hy,hb,hb2⟩:=vU w n A m c;have HB:=aa hb;obtain⟨x0,x1,x2,x3,x4,x5,x6,x7,az,aW,aT,aU,aV,aP⟩:=hx2.cells;have e1:(n.kind == 1)=false:=by rw[h2];rfl
 have e2:(n.kind == 2)=true:=beq_iff_eq.2 h2;clear h2;go_enter Tryz.func114,Tryz.ntmps114;go_upto_region 5 with (fail)
 clear hw1 hb;obtain⟨y0,y1,y2,y3,y4,kQ,y6,lF,mJ,uu,um,uo,uq,y13⟩:=hy.cells;obtain⟨f0,f1,f2,f3,f4,f5,f6,f7,f8,f9,f10,f11,f12,f13⟩:=hy.bK;have fB:=aa hy;have HX:=aa hx2;clear hx2 hy;have HT:=aa (fun w=>X8 n.text w hs)
 go_region_with (go_at_call 143;((with_reducible refine(HT.o _).mono ?_);rintro e w2 ⟨rfl,rfl⟩))
 all_goals go_wp2_with fail
 all_goals exact bodyPost_ret (uT (fB.o.uV { Nd.zero with text:=n.text } (.slice none 0 0)).drew _ _ _ 2 3 uX rfl rfl) rfl ⟨rfl,(uN HB.o (by have:=HB.o.size;omega) _ _ _ _ _ _ _ _ _ _ _ _ _ _).drew⟩
theorem V6 (w:World)(n:Nd)(h3:n.kind=3)(h0:n.num=0)(A:Option Addr)(m c:Nat):Calls Tryz.prog 114 #[.agg #[.int .i64 n.kind,.int .i64 n.num,.string n.text,.string n.ref.sh,.int .i64 n.ref.c,.int .i64 n.ref.r,.bool n.ref.ac,.bool n.ref.ar,.string n.ae.sh,.int .i64 n.ae.c,.int .i64 n.ae.r,.bool n.ae.ac,.bool n.ae.ar,.slice A m c]] w fun e w'=>e = .returned (.tuple #[.agg (fH { Nd.zero with num:=n.num } (.slice none 0 0)),.bool true])∧Below w.heap.size w w':=by
 obtain⟨w1,hw1,hx2,hy,hb,hb2⟩:=vU w n A m c;have HB:=aa hb;obtain⟨x0,x1,x2,x3,x4,x5,x6,x7,az,aW,aT,aU,aV,aP⟩:=hx2.cells;have e1:(n.kind == 1)=false:=by rw[h3];rfl
 have e2:(n.kind == 2)=false:=by rw[h3];rfl
 have e3:(n.kind == 3)=true:=beq_iff_eq.2 h3;clear h3;have q0:(n.num == 0)=true:=beq_iff_eq.2 h0;clear h0;go_enter Tryz.func114,Tryz.ntmps114;go_upto_region 7 with (fail)
 clear hw1 hb;obtain⟨y0,y1,y2,y3,y4,kQ,y6,lF,mJ,uu,um,uo,uq,y13⟩:=hy.cells;obtain⟨f0,f1,f2,f3,f4,f5,f6,f7,f8,f9,f10,f11,f12,f13⟩:=hy.bK;have fB:=aa hy;have HX:=aa hx2;clear hx2 hy
 go_region
 all_goals go_wp2_with fail
 all_goals exact bodyPost_ret (uT (fB.o.uV { Nd.zero with num:=n.num } (.slice none 0 0)).drew _ _ _ 2 3 uX rfl rfl) rfl ⟨rfl,(uN HB.o (by have:=HB.o.size;omega) _ _ _ _ _ _ _ _ _ _ _ _ _ _).drew⟩
theorem V7 (w:World)(n:Nd)(h3:n.kind=3)(h0:n.num=1)(A:Option Addr)(m c:Nat):Calls Tryz.prog 114 #[.agg #[.int .i64 n.kind,.int .i64 n.num,.string n.text,.string n.ref.sh,.int .i64 n.ref.c,.int .i64 n.ref.r,.bool n.ref.ac,.bool n.ref.ar,.string n.ae.sh,.int .i64 n.ae.c,.int .i64 n.ae.r,.bool n.ae.ac,.bool n.ae.ar,.slice A m c]] w fun e w'=>e = .returned (.tuple #[.agg (fH { Nd.zero with num:=n.num } (.slice none 0 0)),.bool true])∧Below w.heap.size w w':=by
 obtain⟨w1,hw1,hx2,hy,hb,hb2⟩:=vU w n A m c;have HB:=aa hb;obtain⟨x0,x1,x2,x3,x4,x5,x6,x7,az,aW,aT,aU,aV,aP⟩:=hx2.cells;have e1:(n.kind == 1)=false:=by rw[h3];rfl
 have e2:(n.kind == 2)=false:=by rw[h3];rfl
 have e3:(n.kind == 3)=true:=beq_iff_eq.2 h3;clear h3;have q0:(n.num == 0)=false:=by rw[h0];rfl
 have q1:(n.num == 1)=true:=beq_iff_eq.2 h0;clear h0;go_enter Tryz.func114,Tryz.ntmps114;go_upto_region 7 with (fail)
 clear hw1 hb;obtain⟨y0,y1,y2,y3,y4,kQ,y6,lF,mJ,uu,um,uo,uq,y13⟩:=hy.cells;obtain⟨f0,f1,f2,f3,f4,f5,f6,f7,f8,f9,f10,f11,f12,f13⟩:=hy.bK;have fB:=aa hy;have HX:=aa hx2;clear hx2 hy
 go_region
 all_goals go_wp2_with fail
 all_goals exact bodyPost_ret (uT (fB.o.uV { Nd.zero with num:=n.num } (.slice none 0 0)).drew _ _ _ 2 3 uX rfl rfl) rfl ⟨rfl,(uN HB.o (by have:=HB.o.size;omega) _ _ _ _ _ _ _ _ _ _ _ _ _ _).drew⟩
theorem V8 (w:World)(n:Nd)(h5:n.kind=5)(hs:n.ref.sh.size≤1000000)(A:Option Addr)(m c:Nat):Calls Tryz.prog 114 #[.agg #[.int .i64 n.kind,.int .i64 n.num,.string n.text,.string n.ref.sh,.int .i64 n.ref.c,.int .i64 n.ref.r,.bool n.ref.ac,.bool n.ref.ar,.string n.ae.sh,.int .i64 n.ae.c,.int .i64 n.ae.r,.bool n.ae.ac,.bool n.ae.ar,.slice A m c]] w fun e w'=>e = .returned (.tuple #[.agg (fH { Nd.zero with ref:=n.ref } (.slice none 0 0)),.bool (gp n.ref)])∧Below w.heap.size w w':=by
 obtain⟨w1,hw1,hx2,hy,hb,hb2⟩:=vU w n A m c;have HB:=aa hb;obtain⟨x0,x1,x2,x3,x4,x5,x6,x7,az,aW,aT,aU,aV,aP⟩:=hx2.cells;have e1:(n.kind == 1)=false:=by rw[h5];rfl
 have e2:(n.kind == 2)=false:=by rw[h5];rfl
 have e3:(n.kind == 3)=false:=by rw[h5];rfl
 have e5:(n.kind == 5)=true:=beq_iff_eq.2 h5;clear h5;go_enter Tryz.func114,Tryz.ntmps114;go_upto_region 9 with (fail)
 clear hw1 hb;obtain⟨y0,y1,y2,y3,y4,kQ,y6,lF,mJ,uu,um,uo,uq,y13⟩:=hy.cells;obtain⟨f0,f1,f2,f3,f4,f5,f6,f7,f8,f9,f10,f11,f12,f13⟩:=hy.bK;have fB:=aa hy;have HX:=aa hx2;clear hx2 hy;have HT:=aa (fun w=>Cq n.ref.sh n.ref.c n.ref.r n.ref.ac n.ref.ar w hs);go_region_held3 (fun w'=>w'.cell? ⟨w.heap.size,3,none⟩=some (.string n.ref.sh)∧w'.cell? ⟨w.heap.size,4,none⟩=some (.int .i64 n.ref.c)∧w'.cell? ⟨w.heap.size,5,none⟩=some (.int .i64 n.ref.r)∧w'.cell? ⟨w.heap.size,6,none⟩=some (.bool n.ref.ac)∧w'.cell? ⟨w.heap.size,7,none⟩=some (.bool n.ref.ar)) (go_keep) (first|(go_at_call 119;((with_reducible refine(HT.o _).mono ?_);rintro e w2 ⟨rfl,h1⟩;have qZ:=aa (fB.o.drew.below h1 fB.o.lt);have cz:=aa (HX.o.drew.below h1 HX.o.lt);have HB2:=aa (HB.o.drew.trans (h1.mono HB.o.size));obtain⟨z0,z1,z2,z3,z4,z5,z6,z7,AV,z9,AR,AU,z12,Da⟩:=qZ.o.cells;obtain⟨g0,g1,g2,g3,g4,g5,g6,g7,g8,g9,g10,g11,g12,g13⟩:=qZ.o.bK;obtain⟨t0,t1,t2,t3,t4,t5,t6,t7,t8,t9,t10,t11,t12,t13⟩:=cz.o.cells;clear h1)))
 all_goals go_wp2_with fail
 all_goals exact bodyPost_ret (uT (qZ.o.uV { Nd.zero with ref:=n.ref } (.slice none 0 0)) _ _ _ 2 3 uX rfl rfl) rfl ⟨rfl,uN HB2.o (by have:=HB.o.size;omega) _ _ _ _ _ _ _ _ _ _ _ _ _ _⟩
theorem Wd (w:World)(n:Nd)(h7:n.kind=7)(hv:Vars w)(A:Option Addr)(m c:Nat):Calls Tryz.prog 114 #[.agg #[.int .i64 n.kind,.int .i64 n.num,.string n.text,.string n.ref.sh,.int .i64 n.ref.c,.int .i64 n.ref.r,.bool n.ref.ac,.bool n.ref.ar,.string n.ae.sh,.int .i64 n.ae.c,.int .i64 n.ae.r,.bool n.ae.ac,.bool n.ae.ar,.slice A m c]] w fun e w'=>e = .returned (.tuple #[.agg (fH { Nd.zero with text:=n.text } (.slice none 0 0)),.bool (jo n.text)])∧Below w.heap.size w w':=by
 obtain⟨w1,hw1,hx2,hy,hb,hb2⟩:=vU w n A m c;have HB:=aa hb;obtain⟨x0,x1,x2,x3,x4,x5,x6,x7,az,aW,aT,aU,aV,aP⟩:=hx2.cells;have e1:(n.kind == 1)=false:=by rw[h7];rfl
 have e2:(n.kind == 2)=false:=by rw[h7];rfl
 have e3:(n.kind == 3)=false:=by rw[h7];rfl
 have e5:(n.kind == 5)=false:=by rw[h7];rfl
 have e6:(n.kind == 6)=false:=by rw[h7];rfl
 have e7:(n.kind == 7)=true:=beq_iff_eq.2 h7;clear h7;have TF:=aa hv;clear hv;go_enter Tryz.func114,Tryz.ntmps114;go_upto_region 13 with (fail)
 clear hw1 hb;obtain⟨y0,y1,y2,y3,y4,kQ,y6,lF,mJ,uu,um,uo,uq,y13⟩:=hy.cells;obtain⟨f0,f1,f2,f3,f4,f5,f6,f7,f8,f9,f10,f11,f12,f13⟩:=hy.bK;have fB:=aa hy;have HX:=aa hx2;clear hx2 hy;have HT:=aa (fun wr (hb:Below w.heap.size w wr)=>X4 n.text wr (TF.o.below hb));go_region_held3 (fun w'=>w'.cell? ⟨w.heap.size,2,none⟩=some (.string n.text)) (go_keep) (first|(go_at_call 145;((with_reducible refine(HT.o _ HB.o.drew).mono ?_);rintro e w2 ⟨rfl,h1⟩;have qZ:=aa (fB.o.drew.below h1 fB.o.lt);have cz:=aa (HX.o.drew.below h1 HX.o.lt);have HB2:=aa (HB.o.drew.trans (h1.mono HB.o.size));clear h1;obtain⟨z0,z1,z2,z3,z4,z5,z6,z7,AV,z9,AR,AU,z12,Da⟩:=qZ.o.cells;obtain⟨g0,g1,g2,g3,g4,g5,g6,g7,g8,g9,g10,g11,g12,g13⟩:=qZ.o.bK;obtain⟨t0,t1,t2,t3,t4,t5,t6,t7,t8,t9,t10,t11,t12,t13⟩:=cz.o.cells)))
 all_goals go_wp2_with fail
 all_goals exact bodyPost_ret (uT (qZ.o.uV { Nd.zero with text:=n.text } (.slice none 0 0)) _ _ _ 2 3 uX rfl rfl) rfl ⟨rfl,uN HB2.o (by have:=HB.o.size;omega) _ _ _ _ _ _ _ _ _ _ _ _ _ _⟩
theorem V9 (w:World)(n:Nd)(h6:n.kind=6)(hs:n.ref.sh.size≤1000000)(ht:n.ae.sh.size≤1000000)(q1:gp n.ref=true)(q2:gp n.ae=true)(A:Option Addr)(m c:Nat):Calls Tryz.prog 114 #[.agg #[.int .i64 n.kind,.int .i64 n.num,.string n.text,.string n.ref.sh,.int .i64 n.ref.c,.int .i64 n.ref.r,.bool n.ref.ac,.bool n.ref.ar,.string n.ae.sh,.int .i64 n.ae.c,.int .i64 n.ae.r,.bool n.ae.ac,.bool n.ae.ar,.slice A m c]] w fun e w'=>e = .returned (.tuple #[.agg (fH ⟨0,0,⟨#[]⟩,n.ref,n.ae,[]⟩ (.slice none 0 0)),.bool (fP n.ref n.ae)])∧Below w.heap.size w w':=by
 obtain⟨w1,hw1,hx2,hy,hb,hb2⟩:=vU w n A m c;have HB:=aa hb;obtain⟨x0,x1,x2,x3,x4,x5,x6,x7,az,aW,aT,aU,aV,aP⟩:=hx2.cells;have e1:(n.kind == 1)=false:=by rw[h6];rfl
 have e2:(n.kind == 2)=false:=by rw[h6];rfl
 have e3:(n.kind == 3)=false:=by rw[h6];rfl
 have e5:(n.kind == 5)=false:=by rw[h6];rfl
 have e6:(n.kind == 6)=true:=beq_iff_eq.2 h6;clear h6;go_enter Tryz.func114,Tryz.ntmps114;go_upto_region 11 with (fail)
 clear hw1 hb;obtain⟨y0,y1,y2,y3,y4,kQ,y6,lF,mJ,uu,um,uo,uq,y13⟩:=hy.cells;obtain⟨f0,f1,f2,f3,f4,f5,f6,f7,f8,f9,f10,f11,f12,f13⟩:=hy.bK;have fB:=aa hy;have HX:=aa hx2;clear hx2 hy;have HT1:=aa (show ∀w,Calls Tryz.prog 119 #[.agg #[.string n.ref.sh,.int .i64 n.ref.c,.int .i64 n.ref.r,.bool n.ref.ac,.bool n.ref.ar]] w fun e w'=>e = .returned (.bool true)∧Below w.heap.size w w' from fun w=>by rw[← q1];exact Cq n.ref.sh n.ref.c n.ref.r n.ref.ac n.ref.ar w hs);have HT2:=aa (show ∀w,Calls Tryz.prog 119 #[.agg #[.string n.ae.sh,.int .i64 n.ae.c,.int .i64 n.ae.r,.bool n.ae.ac,.bool n.ae.ar]] w fun e w'=>e = .returned (.bool true)∧Below w.heap.size w w' from fun w=>by rw[← q2];exact Cq n.ae.sh n.ae.c n.ae.r n.ae.ac n.ae.ar w ht);have HT3:=aa (fun w=>OE n.ref.sh n.ae.sh n.ref.c n.ref.r n.ae.c n.ae.r n.ref.ac n.ref.ar n.ae.ac n.ae.ar w)
 first
  | go_region_held3 (fun w'=>w'.cell? ⟨w.heap.size,3,none⟩=some (.string n.ref.sh)∧w'.cell? ⟨w.heap.size,4,none⟩=some (.int .i64 n.ref.c)∧w'.cell? ⟨w.heap.size,5,none⟩=some (.int .i64 n.ref.r)∧w'.cell? ⟨w.heap.size,6,none⟩=some (.bool n.ref.ac)∧w'.cell? ⟨w.heap.size,7,none⟩=some (.bool n.ref.ar)∧w'.cell? ⟨w.heap.size,8,none⟩=some (.string n.ae.sh)∧w'.cell? ⟨w.heap.size,9,none⟩=some (.int .i64 n.ae.c)∧w'.cell? ⟨w.heap.size,10,none⟩=some (.int .i64 n.ae.r)∧w'.cell? ⟨w.heap.size,11,none⟩=some (.bool n.ae.ac)∧w'.cell? ⟨w.heap.size,12,none⟩=some (.bool n.ae.ar)) (go_keep) (first|(go_at_call 119;((with_reducible refine(HT1.o _).mono ?_);rintro e w2 ⟨rfl,h1⟩;have qZ:=aa (fB.o.drew.below h1 fB.o.lt);have cz:=aa (HX.o.drew.below h1 HX.o.lt);have HB2:=aa (HB.o.drew.trans (h1.mono HB.o.size));clear h1;obtain⟨z0,z1,z2,z3,z4,z5,z6,z7,AV,z9,AR,AU,z12,Da⟩:=qZ.o.cells;obtain⟨g0,g1,g2,g3,g4,g5,g6,g7,g8,g9,g10,g11,g12,g13⟩:=qZ.o.bK;obtain⟨t0,t1,t2,t3,t4,t5,t6,t7,t8,t9,t10,t11,t12,t13⟩:=cz.o.cells))|(go_at_call 119;((with_reducible refine(HT2.o _).mono ?_);rintro e w3 ⟨rfl,h1⟩;have yc:=aa (qZ.o.below h1 qZ.o.lt);have dV:=aa (cz.o.below h1 cz.o.lt);have HB3:=aa (HB2.o.trans (h1.mono HB2.o.size));clear h1;obtain⟨z0,z1,z2,z3,z4,z5,z6,z7,AV,z9,AR,AU,z12,Da⟩:=yc.o.cells;obtain⟨g0,g1,g2,g3,g4,g5,g6,g7,g8,g9,g10,g11,g12,g13⟩:=yc.o.bK;obtain⟨t0,t1,t2,t3,t4,t5,t6,t7,t8,t9,t10,t11,t12,t13⟩:=dV.o.cells))|(go_at_call 144;((with_reducible refine(HT3.o _).mono ?_);rintro e w4 ⟨rfl,h1⟩;have GU:=aa (yc.o.below h1 yc.o.lt);have mR:=aa (dV.o.below h1 dV.o.lt);have bG:=aa (HB3.o.trans (h1.mono HB3.o.size));clear h1;obtain⟨z0,z1,z2,z3,z4,z5,z6,z7,AV,z9,AR,AU,z12,Da⟩:=GU.o.cells;obtain⟨g0,g1,g2,g3,g4,g5,g6,g7,g8,g9,g10,g11,g12,g13⟩:=GU.o.bK;obtain⟨t0,t1,t2,t3,t4,t5,t6,t7,t8,t9,t10,t11,t12,t13⟩:=mR.o.cells)))
  | fail
 all_goals go_wp2_with fail
 all_goals exact bodyPost_ret (uT (GU.o.uV ⟨0,0,⟨#[]⟩,n.ref,n.ae,[]⟩ (.slice none 0 0)) _ _ _ 2 3 uX rfl rfl) rfl ⟨rfl,uN bG.o (by have:=HB.o.size;omega) _ _ _ _ _ _ _ _ _ _ _ _ _ _⟩
theorem VY (w:World)(n:Nd)(h1:¬ n.kind=1)(h2:¬ n.kind=2)(h3:¬ n.kind=3)(h5:¬ n.kind=5)(h6:¬ n.kind=6)(h7:¬ n.kind=7)(h4:n.kind=4)(A:Option Addr)(m c:Nat):Calls Tryz.prog 114 #[.agg #[.int .i64 n.kind,.int .i64 n.num,.string n.text,.string n.ref.sh,.int .i64 n.ref.c,.int .i64 n.ref.r,.bool n.ref.ac,.bool n.ref.ar,.string n.ae.sh,.int .i64 n.ae.c,.int .i64 n.ae.r,.bool n.ae.ac,.bool n.ae.ar,.slice A m c]] w fun e w'=>e = .returned (.tuple #[.agg (fH Nd.zero (.slice none 0 0)),.bool true])∧Below w.heap.size w w':=by
 obtain⟨w1,hw1,hx2,hy,hb,hb2⟩:=vU w n A m c;have HB:=aa hb;obtain⟨x0,x1,x2,x3,x4,x5,x6,x7,az,aW,aT,aU,aV,aP⟩:=hx2.cells;have e1:(n.kind == 1)=false:=beq_eq_false_iff_ne.2 h1;have e2:(n.kind == 2)=false:=beq_eq_false_iff_ne.2 h2;have e3:(n.kind == 3)=false:=beq_eq_false_iff_ne.2 h3;have e5:(n.kind == 5)=false:=beq_eq_false_iff_ne.2 h5;have e6:(n.kind == 6)=false:=beq_eq_false_iff_ne.2 h6;have e7:(n.kind == 7)=false:=beq_eq_false_iff_ne.2 h7;clear h1 h2 h3 h5 h6 h7;have e4:(n.kind == 4)=true:=beq_iff_eq.2 h4;clear h4;go_enter Tryz.func114,Tryz.ntmps114;go_upto_region 14 with (fail)
 clear hw1 hb;obtain⟨y0,y1,y2,y3,y4,kQ,y6,lF,mJ,uu,um,uo,uq,y13⟩:=hy.cells;obtain⟨f0,f1,f2,f3,f4,f5,f6,f7,f8,f9,f10,f11,f12,f13⟩:=hy.bK;have fB:=aa hy;have HX:=aa hx2;clear hx2 hy;go_wp2_with (go_at_call 146;((with_reducible refine(Cm _ _).mono ?_);rintro e w2 ⟨rfl,rfl⟩))
 all_goals exact bodyPost_ret (uT (fB.o.uV Nd.zero (.slice none 0 0)) _ _ _ 2 3 uX rfl rfl) rfl ⟨rfl,uN HB.o (by have:=HB.o.size;omega) _ _ _ _ _ _ _ _ _ _ _ _ _ _⟩
theorem VZ (w:World)(n:Nd)(h1:¬ n.kind=1)(h2:¬ n.kind=2)(h3:¬ n.kind=3)(h5:¬ n.kind=5)(h6:¬ n.kind=6)(h7:¬ n.kind=7)(h4:n.kind=8)(A:Option Addr)(m c:Nat):Calls Tryz.prog 114 #[.agg #[.int .i64 n.kind,.int .i64 n.num,.string n.text,.string n.ref.sh,.int .i64 n.ref.c,.int .i64 n.ref.r,.bool n.ref.ac,.bool n.ref.ar,.string n.ae.sh,.int .i64 n.ae.c,.int .i64 n.ae.r,.bool n.ae.ac,.bool n.ae.ar,.slice A m c]] w fun e w'=>e = .returned (.tuple #[.agg (fH Nd.zero (.slice none 0 0)),.bool true])∧Below w.heap.size w w':=by
 obtain⟨w1,hw1,hx2,hy,hb,hb2⟩:=vU w n A m c;have HB:=aa hb;obtain⟨x0,x1,x2,x3,x4,x5,x6,x7,az,aW,aT,aU,aV,aP⟩:=hx2.cells;have e1:(n.kind == 1)=false:=beq_eq_false_iff_ne.2 h1;have e2:(n.kind == 2)=false:=beq_eq_false_iff_ne.2 h2;have e3:(n.kind == 3)=false:=beq_eq_false_iff_ne.2 h3;have e5:(n.kind == 5)=false:=beq_eq_false_iff_ne.2 h5;have e6:(n.kind == 6)=false:=beq_eq_false_iff_ne.2 h6;have e7:(n.kind == 7)=false:=beq_eq_false_iff_ne.2 h7;clear h1 h2 h3 h5 h6 h7;have e4:(n.kind == 4)=false:=by rw[h4];rfl
 have e8:(n.kind == 8)=true:=beq_iff_eq.2 h4;clear h4;go_enter Tryz.func114,Tryz.ntmps114;go_upto_region 14 with (fail)
 clear hw1 hb;obtain⟨y0,y1,y2,y3,y4,kQ,y6,lF,mJ,uu,um,uo,uq,y13⟩:=hy.cells;obtain⟨f0,f1,f2,f3,f4,f5,f6,f7,f8,f9,f10,f11,f12,f13⟩:=hy.bK;have fB:=aa hy;have HX:=aa hx2;clear hx2 hy;go_wp2_with (go_at_call 146;((with_reducible refine(Cm _ _).mono ?_);rintro e w2 ⟨rfl,rfl⟩))
 all_goals exact bodyPost_ret (uT (fB.o.uV Nd.zero (.slice none 0 0)) _ _ _ 2 3 uX rfl rfl) rfl ⟨rfl,uN HB.o (by have:=HB.o.size;omega) _ _ _ _ _ _ _ _ _ _ _ _ _ _⟩
theorem V3 (w:World)(n:Nd)(h1:¬ n.kind=1)(h2:¬ n.kind=2)(h3:¬ n.kind=3)(h5:¬ n.kind=5)(h6:¬ n.kind=6)(h7:¬ n.kind=7)(h4:¬ n.kind=4)(h8:¬ n.kind=8)(A:Option Addr)(m c:Nat):Calls Tryz.prog 114 #[.agg #[.int .i64 n.kind,.int .i64 n.num,.string n.text,.string n.ref.sh,.int .i64 n.ref.c,.int .i64 n.ref.r,.bool n.ref.ac,.bool n.ref.ar,.string n.ae.sh,.int .i64 n.ae.c,.int .i64 n.ae.r,.bool n.ae.ac,.bool n.ae.ar,.slice A m c]] w fun e w'=>e = .returned (.tuple #[.agg (fH Nd.zero (.slice none 0 0)),.bool (u7 n.kind)])∧Below w.heap.size w w':=by
 obtain⟨w1,hw1,hx2,hy,hb,hb2⟩:=vU w n A m c;have HB:=aa hb;obtain⟨x0,x1,x2,x3,x4,x5,x6,x7,az,aW,aT,aU,aV,aP⟩:=hx2.cells;have e1:(n.kind == 1)=false:=beq_eq_false_iff_ne.2 h1;have e2:(n.kind == 2)=false:=beq_eq_false_iff_ne.2 h2;have e3:(n.kind == 3)=false:=beq_eq_false_iff_ne.2 h3;have e5:(n.kind == 5)=false:=beq_eq_false_iff_ne.2 h5;have e6:(n.kind == 6)=false:=beq_eq_false_iff_ne.2 h6;have e7:(n.kind == 7)=false:=beq_eq_false_iff_ne.2 h7;clear h1 h2 h3 h5 h6 h7;have e4:(n.kind == 4)=false:=beq_eq_false_iff_ne.2 h4;have e8:(n.kind == 8)=false:=beq_eq_false_iff_ne.2 h8;clear h4 h8;go_enter Tryz.func114,Tryz.ntmps114;go_upto_region 14 with (fail)
 clear hw1 hb;obtain⟨y0,y1,y2,y3,y4,kQ,y6,lF,mJ,uu,um,uo,uq,y13⟩:=hy.cells;obtain⟨f0,f1,f2,f3,f4,f5,f6,f7,f8,f9,f10,f11,f12,f13⟩:=hy.bK;have fB:=aa hy;have HX:=aa hx2;clear hx2 hy;go_wp2_with (go_at_call 146;((with_reducible refine(Cm _ _).mono ?_);rintro e w2 ⟨rfl,rfl⟩))
 all_goals exact bodyPost_ret (uT (fB.o.uV Nd.zero (.slice none 0 0)) _ _ _ 2 3 uX rfl rfl) rfl ⟨rfl,uN HB.o (by have:=HB.o.size;omega) _ _ _ _ _ _ _ _ _ _ _ _ _ _⟩
def fK(a b:cO):Bool:=decide (a.sh=b.sh)&&(decide (a.c=b.c)&&(decide (a.r=b.r)&&((a.ac == b.ac)&&(a.ar == b.ar))))
theorem BL (a b:cO):fK a b=true↔a=b:=by
 unfold fK;simp only[dE,decide_eq_true_iff,beq_iff_eq];cases a;cases b
 simp
theorem VW {a b:cO}(h1:a.sh.toList=b.sh.toList)(h2:a.c=b.c)(h3:a.r=b.r)(h4:a.ac=b.ac)(h5:a.ar=b.ar):fK a b=true:=by
 have hs:a.sh=b.sh:=by
  by_cases h:a.sh=b.sh
  · exact h
  · exact absurd h1 (nX _ _ h)
 rw[BL];cases a;cases b
 simp only at hs h2 h3 h4 h5;rw[hs,h2,h3,h4,h5]
def tN(n:Nd)(m:Nat):Bool:=okF n&&(hkB n.kind m&&(decide (n.num=(gW n).num)&&(decide (n.text=(gW n).text)&&(fK n.ref (gW n).ref&&fK n.ae (gW n).ae))))
theorem Ht(a:cO):fK a a=true:=(BL a a).2 rfl
theorem Ji (r:cO):gX r=fK r cO.zero:=by
 obtain⟨sh,c,r,ac,ar⟩:=r;unfold gX fK cO.zero;simp only;rw[Bool.eq_iff_iff];simp only[dE,decide_eq_true_iff,beq_iff_eq,Bool.not_eq_true'];constructor
 · rintro⟨⟨h1,h2,h3⟩,h4,h5⟩;exact⟨h1,h2,h3,h4,h5⟩
 · rintro⟨h1,h2,h3,h4,h5⟩;exact⟨⟨h1,h2,h3⟩,h4,h5⟩
def Aj (n:Nd):Bool :=
 if n.kind=1 then decide (0≤n.num)else if n.kind=2 then lq (sb n.text)else if n.kind=3 then decide (n.num=0∨n.num=1)
 else if n.kind=5 then gp n.ref else if n.kind=6 then gp n.ref&&(gp n.ae&&fP n.ref n.ae)else if n.kind=7 then jo n.text else true
def sN(n:Nd):Bool:=decide (n.kind=1∨n.kind=3∨n.num=0)
def sP(n:Nd):Bool:=decide (n.kind=2∨n.kind=7∨n.text=⟨#[]⟩)
def sO(n:Nd):Bool:=decide (n.kind=5∨n.kind=6)||fK n.ref cO.zero
def sQ(n:Nd):Bool:=decide (n.kind=6)||fK n.ae cO.zero
theorem EF (n:Nd):(n.kind=1∧gW n={ Nd.zero with num:=n.num })∨(n.kind=2∧gW n={ Nd.zero with text:=n.text })∨(n.kind=3∧gW n={ Nd.zero with num:=n.num })∨(n.kind=5∧gW n={ Nd.zero with ref:=n.ref })∨(n.kind=6∧gW n=⟨0,0,⟨#[]⟩,n.ref,n.ae,[]⟩)∨(n.kind=7∧gW n={ Nd.zero with text:=n.text })∨(¬ n.kind=1∧¬ n.kind=2∧¬ n.kind=3∧¬ n.kind=5∧¬ n.kind=6∧¬ n.kind=7∧gW n=Nd.zero):=by
 unfold gW;by_cases h1:n.kind=1
 · exact Or.inl ⟨h1,by rw[if_pos h1]⟩
 by_cases h2:n.kind=2
 · exact Or.inr <| Or.inl ⟨h2,by rw[if_neg h1,if_pos h2]⟩
 by_cases h3:n.kind=3
 · exact Or.inr <| Or.inr <| Or.inl ⟨h3,by rw[if_neg h1,if_neg h2,if_pos h3]⟩
 by_cases h5:n.kind=5
 · exact Or.inr <| Or.inr <| Or.inr <| Or.inl ⟨h5,by rw[if_neg h1,if_neg h2,if_neg h3,if_pos h5]⟩
 by_cases h6:n.kind=6
 · exact Or.inr <| Or.inr <| Or.inr <| Or.inr <| Or.inl ⟨h6,by rw[if_neg h1,if_neg h2,if_neg h3,if_neg h5,if_pos h6]⟩
 by_cases h7:n.kind=7
 · exact Or.inr <| Or.inr <| Or.inr <| Or.inr <| Or.inr <| Or.inl ⟨h7,by rw[if_neg h1,if_neg h2,if_neg h3,if_neg h5,if_neg h6,if_pos h7]⟩
 exact Or.inr <| Or.inr <| Or.inr <| Or.inr <| Or.inr <| Or.inr <| ⟨h1,h2,h3,h5,h6,h7,by rw[if_neg h1,if_neg h2,if_neg h3,if_neg h5,if_neg h6,if_neg h7]⟩
theorem Zt (n:Nd):decide (n.num=(gW n).num)=sN n:=by
 rcases EF n with ⟨h,e⟩|⟨h,e⟩|⟨h,e⟩|⟨h,e⟩|⟨h,e⟩|⟨h,e⟩|⟨h1,h2,h3,h5,h6,h7,e⟩
 · rw[e];unfold sN;rw[show decide (n.num=n.num)=true from decide_eq_true rfl];symm;rw[decide_eq_true_iff];first|exact .inl h|exact .inr (.inl h)
 · rw [e];unfold sN;show decide (n.num=0)=_;rw[decide_eq_decide];constructor
   · intro g;exact .inr (.inr g)
   · rintro(g|g|g)
     · omega
     · omega
     · exact g
 · rw[e];unfold sN;rw[show decide (n.num=n.num)=true from decide_eq_true rfl];symm;rw[decide_eq_true_iff];first|exact .inl h|exact .inr (.inl h)
 · rw [e];unfold sN;show decide (n.num=0)=_;rw[decide_eq_decide];constructor
   · intro g;exact .inr (.inr g)
   · rintro(g|g|g)
     · omega
     · omega
     · exact g
 · rw [e];unfold sN;show decide (n.num=0)=_;rw[decide_eq_decide];constructor
   · intro g;exact .inr (.inr g)
   · rintro(g|g|g)
     · omega
     · omega
     · exact g
 · rw [e];unfold sN;show decide (n.num=0)=_;rw[decide_eq_decide];constructor
   · intro g;exact .inr (.inr g)
   · rintro(g|g|g)
     · omega
     · omega
     · exact g
 · rw [e];unfold sN;show decide (n.num=0)=_;rw[decide_eq_decide];constructor
   · intro g;exact .inr (.inr g)
   · rintro(g|g|g)
     · omega
     · omega
     · exact g
theorem Zv (n:Nd):decide (n.text=(gW n).text)=sP n:=by
 rcases EF n with ⟨h,e⟩|⟨h,e⟩|⟨h,e⟩|⟨h,e⟩|⟨h,e⟩|⟨h,e⟩|⟨h1,h2,h3,h5,h6,h7,e⟩
 · rw [e];unfold sP;show decide (n.text=⟨#[]⟩)=_;rw[decide_eq_decide];constructor
   · intro g;exact .inr (.inr g)
   · rintro(g|g|g)
     · omega
     · omega
     · exact g
 · rw[e];unfold sP;rw[show decide (n.text=n.text)=true from decide_eq_true rfl];symm;rw[decide_eq_true_iff];first|exact .inl h|exact .inr (.inl h)
 · rw [e];unfold sP;show decide (n.text=⟨#[]⟩)=_;rw[decide_eq_decide];constructor
   · intro g;exact .inr (.inr g)
   · rintro(g|g|g)
     · omega
     · omega
     · exact g
 · rw [e];unfold sP;show decide (n.text=⟨#[]⟩)=_;rw[decide_eq_decide];constructor
   · intro g;exact .inr (.inr g)
   · rintro(g|g|g)
     · omega
     · omega
     · exact g
 · rw [e];unfold sP;show decide (n.text=⟨#[]⟩)=_;rw[decide_eq_decide];constructor
   · intro g;exact .inr (.inr g)
   · rintro(g|g|g)
     · omega
     · omega
     · exact g
 · rw[e];unfold sP;rw[show decide (n.text=n.text)=true from decide_eq_true rfl];symm;rw[decide_eq_true_iff];first|exact .inl h|exact .inr (.inl h)
 · rw [e];unfold sP;show decide (n.text=⟨#[]⟩)=_;rw[decide_eq_decide];constructor
   · intro g;exact .inr (.inr g)
   · rintro(g|g|g)
     · omega
     · omega
     · exact g
theorem Zu (n:Nd):fK n.ref (gW n).ref=sO n:=by
 rcases EF n with ⟨h,e⟩|⟨h,e⟩|⟨h,e⟩|⟨h,e⟩|⟨h,e⟩|⟨h,e⟩|⟨h1,h2,h3,h5,h6,h7,e⟩
 · rw[e];unfold sO;show fK n.ref cO.zero=_;rw[decide_eq_false (by omega)];rfl
 · rw[e];unfold sO;show fK n.ref cO.zero=_;rw[decide_eq_false (by omega)];rfl
 · rw[e];unfold sO;show fK n.ref cO.zero=_;rw[decide_eq_false (by omega)];rfl
 · rw[e];unfold sO;rw[show fK n.ref n.ref=true from Ht _,decide_eq_true (by omega)];rfl
 · rw[e];unfold sO;rw[show fK n.ref n.ref=true from Ht _,decide_eq_true (by omega)];rfl
 · rw[e];unfold sO;show fK n.ref cO.zero=_;rw[decide_eq_false (by omega)];rfl
 · rw[e];unfold sO;show fK n.ref cO.zero=_;rw[decide_eq_false (by omega)];rfl
theorem Zw (n:Nd):fK n.ae (gW n).ae=sQ n:=by
 rcases EF n with ⟨h,e⟩|⟨h,e⟩|⟨h,e⟩|⟨h,e⟩|⟨h,e⟩|⟨h,e⟩|⟨h1,h2,h3,h5,h6,h7,e⟩
 · rw[e];unfold sQ;show fK n.ae cO.zero=_;rw[decide_eq_false (by omega)];rfl
 · rw[e];unfold sQ;show fK n.ae cO.zero=_;rw[decide_eq_false (by omega)];rfl
 · rw[e];unfold sQ;show fK n.ae cO.zero=_;rw[decide_eq_false (by omega)];rfl
 · rw[e];unfold sQ;show fK n.ae cO.zero=_;rw[decide_eq_false (by omega)];rfl
 · rw[e];unfold sQ;rw[show fK n.ae n.ae=true from Ht _,decide_eq_true (by omega)];rfl
 · rw[e];unfold sQ;show fK n.ae cO.zero=_;rw[decide_eq_false (by omega)];rfl
 · rw[e];unfold sQ;show fK n.ae cO.zero=_;rw[decide_eq_false (by omega)];rfl
theorem YH (n:Nd):aD n=((sN n&&(sP n&&(sO n&&sQ n)))&&Aj n):=by
 unfold aD sN sP sO sQ;rw[Ji,Ji]
 have hk:(if n.kind=1 then decide (0≤n.num)else if n.kind=3 then decide (n.num=0∨n.num=1)else if n.kind=2 then lq (sb n.text)else if n.kind=7 then jo n.text else if n.kind=5 then gp n.ref else if n.kind=6 then gp n.ref&&(gp n.ae&&fP n.ref n.ae)else true)=Aj n:=by
  unfold Aj;by_cases h1:n.kind=1
  · rw[if_pos h1,if_pos h1]
  by_cases h2:n.kind=2
  · rw[if_neg h1,if_neg (by omega),if_pos h2,if_neg h1,if_pos h2]
  by_cases h3:n.kind=3
  · rw[if_neg h1,if_pos h3,if_neg h1,if_neg h2,if_pos h3]
  by_cases h5:n.kind=5
  · rw[if_neg h1,if_neg h3,if_neg h2,if_neg (by omega),if_pos h5,if_neg h1,if_neg h2,if_neg h3,if_pos h5]
  by_cases h6:n.kind=6
  · rw[if_neg h1,if_neg h3,if_neg h2,if_neg (by omega),if_neg h5,if_pos h6,if_neg h1,if_neg h2,if_neg h3,if_neg h5,if_pos h6]
  by_cases h7:n.kind=7
  · rw[if_neg h1,if_neg h3,if_neg h2,if_pos h7,if_neg h1,if_neg h2,if_neg h3,if_neg h5,if_neg h6,if_pos h7]
  rw[if_neg h1,if_neg h3,if_neg h2,if_neg h7,if_neg h5,if_neg h6,if_neg h1,if_neg h2,if_neg h3,if_neg h5,if_neg h6,if_neg h7]
 rw[hk];by_cases q1:n.kind=1∨n.kind=3∨n.num=0
 · by_cases q2 : n.kind=2∨n.kind=7∨n.text=⟨#[]⟩
   · by_cases q3:n.kind=5∨n.kind=6
     · by_cases q4:n.kind=6
       · rw [decide_eq_true q1,decide_eq_true q2,decide_eq_true q3,decide_eq_true q4,if_neg]
         · rfl
         · rintro (g|g|g|g)
           · omega
           · rcases q2 with q|q|q
             · exact g.1 q
             · exact g.2.1 q
             · exact g.2.2 q
           · omega
           · omega
       · cases q5:fK n.ae cO.zero
         · rw[if_pos (.inr (.inr (.inr ⟨q4,rfl⟩))),decide_eq_false q4,Bool.or_false,Bool.and_false,Bool.and_false,Bool.and_false];rfl
         · rw [decide_eq_true q1,decide_eq_true q2,decide_eq_true q3,decide_eq_false q4,if_neg]
           · rfl
           · rintro (g|g|g|g)
             · omega
             · rcases q2 with q|q|q
               · exact g.1 q
               · exact g.2.1 q
               · exact g.2.2 q
             · omega
             · cases g.2
     · cases q5 : fK n.ref cO.zero
       · rw[if_pos (.inr (.inr (.inl ⟨by omega,by omega,rfl⟩))),decide_eq_false q3,Bool.or_false,Bool.false_and,Bool.and_false,Bool.and_false];rfl
       · cases q6:fK n.ae cO.zero
         · rw[if_pos (.inr (.inr (.inr ⟨by omega,rfl⟩))),decide_eq_false (show ¬ n.kind=6 by omega),Bool.or_false,Bool.and_false,Bool.and_false,Bool.and_false];rfl
         · rw [decide_eq_true q1,decide_eq_true q2,decide_eq_false q3,if_neg]
           · cases decide (n.kind=6) <;> rfl
           · rintro (g|g|g|g)
             · omega
             · rcases q2 with q|q|q
               · exact g.1 q
               · exact g.2.1 q
               · exact g.2.2 q
             · cases g.2.2
             · cases g.2
   · rw[if_pos (.inr (.inl ⟨fun h=>q2 (.inl h),fun h=>q2 (.inr (.inl h)),fun h=>q2 (.inr (.inr h))⟩)),decide_eq_false q2,Bool.false_and,Bool.and_false];rfl
 · rw[if_pos (.inl ⟨fun h=>q1 (.inl h),fun h=>q1 (.inr (.inl h)),fun h=>q1 (.inr (.inr h))⟩),decide_eq_false q1];rfl
theorem Yr (n:Nd)(m:Nat):(okF n&&hkB n.kind m)=(Aj n&&(decide (jm n.kind = -1)||decide (jm n.kind=m))):=by
 have c0:decide ((0:Int)=(m:Int))=decide (m=0):=by rw[decide_eq_decide];omega
 have c1:decide ((1:Int)=(m:Int))=decide (m=1):=by rw[decide_eq_decide];omega
 have c2:decide ((2:Int)=(m:Int))=decide (m=2):=by rw[decide_eq_decide];omega
 have c3:decide ((-2:Int)=(m:Int))=false:=by rw[decide_eq_false_iff_not];omega
 unfold okF Aj hkB jm u7;by_cases h1:n.kind=1
 · rw[if_pos h1,if_pos h1,if_neg (show ¬ n.kind=7 by omega),if_neg (show ¬ n.kind=8 by omega),decide_eq_false (show ¬ (9≤n.kind∧n.kind≤19)by omega),if_pos (show 1≤n.kind∧n.kind≤6 by omega),c0];rfl
 by_cases h2:n.kind=2
 · rw[if_neg h1,if_pos h2,if_neg h1,if_pos h2,if_neg (show ¬ n.kind=7 by omega),if_neg (show ¬ n.kind=8 by omega),decide_eq_false (show ¬ (9≤n.kind∧n.kind≤19)by omega),if_pos (show 1≤n.kind∧n.kind≤6 by omega),c0];rfl
 by_cases h3:n.kind=3
 · rw[if_neg h1,if_neg h2,if_pos h3,if_neg h1,if_neg h2,if_pos h3,if_neg (show ¬ n.kind=7 by omega),if_neg (show ¬ n.kind=8 by omega),decide_eq_false (show ¬ (9≤n.kind∧n.kind≤19)by omega),if_pos (show 1≤n.kind∧n.kind≤6 by omega),c0];rfl
 by_cases h5:n.kind=5
 · rw[if_neg h1,if_neg h2,if_neg h3,if_pos h5,if_neg h1,if_neg h2,if_neg h3,if_pos h5,if_neg (show ¬ n.kind=7 by omega),if_neg (show ¬ n.kind=8 by omega),decide_eq_false (show ¬ (9≤n.kind∧n.kind≤19)by omega),if_pos (show 1≤n.kind∧n.kind≤6 by omega),c0];rfl
 by_cases h6:n.kind=6
 · rw[if_neg h1,if_neg h2,if_neg h3,if_neg h5,if_pos h6,if_neg h1,if_neg h2,if_neg h3,if_neg h5,if_pos h6,if_neg (show ¬ n.kind=7 by omega),if_neg (show ¬ n.kind=8 by omega),decide_eq_false (show ¬ (9≤n.kind∧n.kind≤19)by omega),if_pos (show 1≤n.kind∧n.kind≤6 by omega),c0];rfl
 by_cases h7:n.kind=7
 · rw[if_neg h1,if_neg h2,if_neg h3,if_neg h5,if_neg h6,if_pos h7,if_neg h1,if_neg h2,if_neg h3,if_neg h5,if_neg h6,if_pos h7,if_pos h7,if_neg (show ¬ (1≤n.kind∧n.kind≤6)by omega),if_pos h7];rfl
 rw[if_neg h1,if_neg h2,if_neg h3,if_neg h5,if_neg h6,if_neg h7,if_neg h1,if_neg h2,if_neg h3,if_neg h5,if_neg h6,if_neg h7,if_neg h7,Bool.true_and];by_cases h8:n.kind=8
 · rw[if_pos h8,if_neg (show ¬ (1≤n.kind∧n.kind≤6)by omega),if_neg h7,if_pos h8,c1,decide_eq_true (show n.kind=4∨n.kind=8 by omega)];rfl
 by_cases h9:9≤n.kind∧n.kind≤19
 · rw[if_neg h8,if_neg (show ¬ (1≤n.kind∧n.kind≤6)by omega),if_neg h7,if_neg h8,if_pos h9,c2,decide_eq_true h9,if_pos rfl,Bool.or_true];rfl
 by_cases h4:n.kind=4
 · rw[if_neg h8,if_pos (show 1≤n.kind∧n.kind≤6 by omega),c0,decide_eq_true (show n.kind=4∨n.kind=8 by omega),decide_eq_false h9];rfl
 rw[if_neg h8,if_neg (show ¬ (1≤n.kind∧n.kind≤6)by omega),if_neg h7,if_neg h8,if_neg h9,c3,decide_eq_false (show ¬ (n.kind=4∨n.kind=8)by omega),decide_eq_false h9];rfl
theorem OB (n:Nd):tN n n.kids.length=fo n:=by
 unfold tN fo;rw[Zt,Zv,Zu,Zw,YH];have h:=Yr n n.kids.length;revert h;generalize (decide (jm n.kind = -1)||decide (jm n.kind=n.kids.length))=d;generalize hkB n.kind n.kids.length=c;cases okF n <;> cases Aj n <;> cases c <;> cases d <;> cases sN n <;> cases sP n <;> cases sO n <;> cases sQ n <;> simp
def je (w:World)(B:Nat)(v:Value)(xs:List Int):Prop :=
 ∃A cap,v = .slice A xs.length cap∧xs.length≤cap∧cap≤maxLen∧(xs=[]∨∃pb po,A=some ⟨pb,po,none⟩∧pb<B∧∀(j:Nat)(x:Int),xs[j]? = some x→w.cell? ⟨pb,po+j,none⟩=some (.int .i64 x))
theorem je.below {w w':World}{B C:Nat}{v:Value}{xs:List Int}(h:je w B v xs)(hb:Below C w w')(hC:B≤C):je w' B v xs:=by
 obtain⟨A,cap,h1,h2,h3,h4⟩:=h;refine⟨A,cap,h1,h2,h3,h4.imp id ?_⟩;rintro⟨pb,po,e1,e2,e3⟩;exact⟨pb,po,e1,e2,fun j x hj=>(hb.cell (p:=⟨pb,po+j,none⟩) (by show pb<C;omega)).trans (e3 j x hj)⟩
theorem je.mono {w:World}{B C:Nat}{v:Value}{xs:List Int}(h:je w B v xs)(hC:B≤C):je w C v xs:=by
 obtain⟨A,cap,h1,h2,h3,h4⟩:=h;refine⟨A,cap,h1,h2,h3,h4.imp id ?_⟩;rintro⟨pb,po,e1,e2,e3⟩;exact⟨pb,po,e1,by omega,e3⟩
theorem PV {w:World}{base g n cap:Nat}{st:List Int}(h:Own (bT .i64) 3 w base (.slice (some ⟨g,0,none⟩) n cap) st)(j:Nat)(x:Int)(hj:st[j]? = some x):w.cell? ⟨g,j,none⟩=some (.int .i64 x):=by
 have hl:=(dm.1 hj).1;have h1:=Own.Ow h j hl;rw[iC,hj]at h1;exact h1
theorem je.tail {w:World}{base g cap:Nat}{st:List Int}(h:Own (bT .i64) 3 w base (.slice (some ⟨g,0,none⟩) st.length cap) st)(f:Nat)(hf:f≤st.length)(hc:st.length≤cap)(hm:cap≤maxLen)(hg:g<w.heap.size):je w w.heap.size (.slice (if cap=f then some ⟨g,0,none⟩else some ⟨g,f,none⟩) (st.length - f) (cap - f)) (st.drop f):=by
 refine⟨_,_,by rw[List.length_drop],by rw[List.length_drop];omega,by omega, ?_⟩;by_cases h0:st.drop f=[]
 · exact .inl h0
 · have hne:¬ cap=f:=fun e=>h0 (List.drop_of_length_le (by omega))
   refine .inr ⟨g,f,by rw[if_neg hne],hg,fun j x hj => ?_⟩;rw[List.getElem?_drop]at hj;exact PV h (f+j) x hj
theorem PY {w:World}{base g cap:Nat}{st:List Int}(h:Own (bT .i64) 3 w base (.slice (some ⟨g,0,none⟩) st.length cap) st)(k:Nat)(hk:k≤st.length):Own (bT .i64) 3 w base (.slice (some ⟨g,0,none⟩) k cap) (st.take k):=by
 have hl:(st.take k).length=k:=by rw[gD];omega
 rcases h.2 with ⟨h1,_⟩|⟨g',cap',cur,h1,h2,h3,h4,h5,h6,h7⟩
 · cases h1
 · injection h1 with e1 e2 e3
   injection e1 with e1;injection e1 with e1;subst e1;subst e3;refine⟨by rw[Enc.ku],.inr ⟨g,cap,cur,by rw[hl],h2,h3,by omega,h5,h6, ?_⟩⟩;rw[hl,BJ,List.map_take, ← BJ, ← h7,List.take_take,Nat.mul_one,Nat.mul_one];congr 1;omega
theorem Rk {xs ys:List Int}{k:Nat}{x:Int}(h:xs.take k=ys.take k)(hx:xs[k]? = some x)(hy:ys[k]? = some x):xs.take (k+1)=ys.take (k+1):=by
 rw[List.take_add_one,List.take_add_one,h,hx,hy]
theorem MR (w:World)(B:Nat)(v1 v2:Value)(xs ys:List Int)(h1:je w B v1 xs)(h2:je w B v2 ys):Calls Tryz.prog 77 #[v1,v2] w fun e w'=>e = .returned (.bool (decide (xs=ys)))∧Below w.heap.size w w':=by
 obtain⟨A1,fe,rfl,hc1,hm1,a1⟩:=h1;obtain⟨A2,cap2,rfl,hc2,hm2,a2⟩:=h2;unfold maxLen at hm1 hm2;obtain⟨n1,hn1⟩:∃n1,xs.length=n1:=⟨_,rfl⟩;obtain⟨n2,hn2⟩:∃n2,ys.length=n2:=⟨_,rfl⟩;rw[hn1]at hc1 ⊢;rw[hn2]at hc2 ⊢;by_cases hl:n1=n2
 · subst hl
   have HA1:=aa a1;have HA2:=aa a2;have fT:=aa hn1;have ed:=aa hn2;clear a1 a2 hn1 hn2;go_enter Tryz.func77,Tryz.ntmps77;go_upto_region 4 with (fail)
   go_loopw [13] (fun i wr=>∃(k m:Nat),k≤n1∧i = .int .i64 (k:Int)∧Hid (xs.take k=ys.take k)∧w.drewN m=wr)
    (fun i _=>n1 - (intOf i).toNat)
   case atStart=>exact⟨0,0,cu _,rfl,aa rfl,rfl⟩
   case round =>
    obtain⟨k,m,hk,rfl,HT,rfl⟩:=hrel;by_cases hlt:k<n1
    · have hki:(k:Int)<(n1:Int):=by omega
      obtain⟨x,hx⟩:∃x,xs[k]? = some x:=⟨_,bn (by rw[fT.o];exact hlt)⟩;obtain⟨y,hy⟩:∃y,ys[k]? = some y:=⟨_,bn (by rw[ed.o];exact hlt)⟩;rcases HA1.o with e|⟨p1,o1,rfl, -,c1⟩
      · exfalso;rw[e]at hx;simp at hx
      rcases HA2.o with e|⟨p2,o2,rfl, -,c2⟩
      · exfalso;rw[e]at hy;simp at hy
      have k1:=c1 k x hx;have k2:=c2 k y hy;have HX:=aa hx;have fB:=aa hy;clear c1 c2 hx hy;by_cases hxy:x=y
      · have ex:(x != y)=false:=by rw[hxy];simp
        have HT2:=aa (Rk HT.o HX.o (by rw[hxy];exact fB.o));clear hxy;go_wp2_with fail
        go_quiet (fail)
        go_wp2_with fail
        go_roundw
        case rel=>exact⟨k+1,_,by omega,by go_num,HT2,by first|rfl|trivial⟩
        case measure=>simp[intOf];omega
      · have ex:(x != y)=true:=by rw[bne_iff_ne];exact hxy
        have HR:=aa (show ¬ xs=ys from fun e=>hxy (by have h1:=HX.o;rw[e,fB.o]at h1;exact(dX h1).symm));clear hxy;go_wp2_with fail
        go_quiet (fail)
        go_wp2_with fail
        go_ret;exact⟨by rw[decide_eq_false HR.o] <;> rfl,oF (oF (ai _ _) m) nq⟩
    · have hki:¬ (k:Int)<(n1:Int):=by omega
      have HR:=aa (show xs=ys by
       have h1:=HT.o;rw[mK (by rw[fT.o];omega),mK (by rw[ed.o];omega)]at h1;exact h1)
      go_wp2_with fail
      go_ret;exact⟨by rw[decide_eq_true HR.o] <;> rfl,oF (ai _ _) m⟩
 · have hne:((n1:Int) != (n2:Int))=true:=by rw[bne_iff_ne];omega
   have HR:=aa (show ¬ xs=ys from fun e=>hl (by rw[← hn1, ← hn2,e]));clear a1 a2 hn1 hn2;go_enter Tryz.func77,Tryz.ntmps77;go_wp2_with fail
   go_ret;exact⟨by rw[decide_eq_false HR.o] <;> rfl,ai _ _⟩
theorem JB (k:Int)(w:World):Calls Tryz.prog 130 #[.int .i64 k] w fun e w'=>e = .returned (.int .i64 ((bz k:Nat)+1:Int))∧w=w':=by
 have fin:∀r:Nat,bz k=r→(Calls Tryz.prog 130 #[.int .i64 k] w fun e w'=>e = .returned (.int .i64 ((r:Int)+1))∧w=w')→Calls Tryz.prog 130 #[.int .i64 k] w fun e w'=>e = .returned (.int .i64 ((bz k:Nat)+1:Int))∧w=w':=fun r h1 h2=>by rw[h1];exact h2
 by_cases h9:k=9
 · refine fin 0 (by subst h9;rfl) ?_
   clear fin;subst h9;go_enter Tryz.func130,Tryz.ntmps130;go_wp2_with fail
   go_ret;exact⟨rfl,rfl⟩
 by_cases h10:k=10
 · refine fin 0 (by subst h10;rfl) ?_
   clear fin;subst h10;go_enter Tryz.func130,Tryz.ntmps130;go_wp2_with fail
   go_ret;exact⟨rfl,rfl⟩
 by_cases h11:k=11
 · refine fin 0 (by subst h11;rfl) ?_
   clear fin;subst h11;go_enter Tryz.func130,Tryz.ntmps130;go_wp2_with fail
   go_ret;exact⟨rfl,rfl⟩
 by_cases h12:k=12
 · refine fin 0 (by subst h12;rfl) ?_
   clear fin;subst h12;go_enter Tryz.func130,Tryz.ntmps130;go_wp2_with fail
   go_ret;exact⟨rfl,rfl⟩
 by_cases yw:k=13
 · refine fin 0 (by subst yw;rfl) ?_
   clear fin;subst yw;go_enter Tryz.func130,Tryz.ntmps130;go_wp2_with fail
   go_ret;exact⟨rfl,rfl⟩
 by_cases BM:k=14
 · refine fin 0 (by subst BM;rfl) ?_
   clear fin;subst BM;go_enter Tryz.func130,Tryz.ntmps130;go_wp2_with fail
   go_ret;exact⟨rfl,rfl⟩
 by_cases sU:k=15
 · refine fin 1 (by subst sU;rfl) ?_
   clear fin;subst sU;go_enter Tryz.func130,Tryz.ntmps130;go_wp2_with fail
   go_ret;exact⟨rfl,rfl⟩
 by_cases h16:k=16
 · refine fin 2 (by subst h16;rfl) ?_
   clear fin;subst h16;go_enter Tryz.func130,Tryz.ntmps130;go_wp2_with fail
   go_ret;exact⟨rfl,rfl⟩
 by_cases vH:k=17
 · refine fin 2 (by subst vH;rfl) ?_
   clear fin;subst vH;go_enter Tryz.func130,Tryz.ntmps130;go_wp2_with fail
   go_ret;exact⟨rfl,rfl⟩
 by_cases h18:k=18
 · refine fin 3 (by subst h18;rfl) ?_
   clear fin;subst h18;go_enter Tryz.func130,Tryz.ntmps130;go_wp2_with fail
   go_ret;exact⟨rfl,rfl⟩
 by_cases h19:k=19
 · refine fin 3 (by subst h19;rfl) ?_
   clear fin;subst h19;go_enter Tryz.func130,Tryz.ntmps130;go_wp2_with fail
   go_ret;exact⟨rfl,rfl⟩
 by_cases h8:k=8
 · refine fin 4 (by subst h8;rfl) ?_
   clear fin;subst h8;go_enter Tryz.func130,Tryz.ntmps130;go_wp2_with fail
   go_ret;exact⟨rfl,rfl⟩
 refine fin 5 (by unfold bz;rw[if_neg (by omega),if_neg sU,if_neg (by omega),if_neg (by omega),if_neg h8]) ?_;have e8:(k == 8)=false:=beq_eq_false_iff_ne.2 h8;have e9:(k == 9)=false:=beq_eq_false_iff_ne.2 h9;have e10:(k == 10)=false:=beq_eq_false_iff_ne.2 h10;have e11:(k == 11)=false:=beq_eq_false_iff_ne.2 h11;have e12:(k == 12)=false:=beq_eq_false_iff_ne.2 h12;have e13:(k == 13)=false:=beq_eq_false_iff_ne.2 yw;have e14:(k == 14)=false:=beq_eq_false_iff_ne.2 BM;have e15:(k == 15)=false:=beq_eq_false_iff_ne.2 sU;have e16:(k == 16)=false:=beq_eq_false_iff_ne.2 h16;have e17:(k == 17)=false:=beq_eq_false_iff_ne.2 vH;have e18:(k == 18)=false:=beq_eq_false_iff_ne.2 h18;have e19:(k == 19)=false:=beq_eq_false_iff_ne.2 h19;clear fin h8 h9 h10 h11 h12 yw BM sU h16 vH h18 h19;go_enter Tryz.func130,Tryz.ntmps130;go_wp2_with fail
 go_ret;exact⟨rfl,rfl⟩
def lu(p:av):Array Value:=#[.string p.t,.int .i64 p.node,.int .i64 p.least]
theorem aaN (p:av):∀u∈(lu p).toList,u.oneCell'=true:=by
 intro v hv;simp only[lu,List.mem_cons,List.not_mem_nil,or_false]at hv;rcases hv with rfl|rfl|rfl <;> rfl
def nM:Enc av 3:={ f:=fun p=>(lu p).toList,len:=fun _=>rfl,one:=aaN }
theorem aaO:(Tryz.prog.info? 139).map (·.size)=some 3:=by kernel_rfl
def ic(w:World)(b:Nat)(p:av):Prop:=w.heap[b]? = some (.cells (lu p) 139)
theorem ic.new(w:World)(p:av):ic (w.alloc (.cells (lu p) 139)) w.heap.size p:=(jw w _).1
theorem Jo {w:World}{b:Nat}{p:av}(h:ic w b p)(fn:Func)(tmps:Array Value)(s:Tmp)(hf:fn.results=#[.cell s 139])(hp:tmps.getD s undef = .pointer (some ⟨b,0,none⟩)) :
 (results fn tmps).run Tryz.prog w = .ok (.agg (lu p)) w :=
 results_cell_row hf tmps w b _ _ _ _ hp h Tryz.underlying139 rfl aaO
theorem ic.cells {w:World}{b:Nat}{p:av}(h:ic w b p):w.cell? ⟨b,0,none⟩=some (.string p.t)∧w.cell? ⟨b,1,none⟩=some (.int .i64 p.node)∧w.cell? ⟨b,2,none⟩=some (.int .i64 p.least) :=
 ⟨by rw[cell_of_row w b 0 _ _ _ h];rfl,by rw[cell_of_row w b 1 _ _ _ h];rfl,by rw[cell_of_row w b 2 _ _ _ h];rfl⟩
theorem ic.bK{w:World}{b:Nat}{p:av}(h:ic w b p):w.frozen? ⟨b,0,none⟩=false∧w.frozen? ⟨b,1,none⟩=false∧w.frozen? ⟨b,2,none⟩=false:=⟨frozen_of_row w b 0 _ _ h,frozen_of_row w b 1 _ _ h,frozen_of_row w b 2 _ _ h⟩
theorem ic.y8 {w:World}{b:Nat}{p0:av}(h:ic w b p0)(p:av):ic (((w.setCell ⟨b,0,none⟩ (.string p.t)).setCell ⟨b,1,none⟩ (.int .i64 p.node)).setCell ⟨b,2,none⟩ (.int .i64 p.least)) b p:=by
 have h1:(w.setCell ⟨b,0,none⟩ (.string p.t)).heap[b]? = some (.cells #[.string p.t,.int .i64 p0.node,.int .i64 p0.least] 139):=by rw[heap_setCell_same w b 0 _ _ _ h];rfl
 have h2:((w.setCell ⟨b,0,none⟩ (.string p.t)).setCell ⟨b,1,none⟩ (.int .i64 p.node)).heap[b]? = some (.cells #[.string p.t,.int .i64 p.node,.int .i64 p0.least] 139):=by rw[heap_setCell_same _ b 1 _ _ _ h1];rfl
 unfold ic;rw[heap_setCell_same _ b 2 _ _ _ h2];rfl
theorem ic.keep{w w':World}{b:Nat}{p:av}(h:ic w b p)(hk:w'.heap[b]? = w.heap[b]?):ic w' b p:=by unfold ic;rw[hk];exact h
theorem gF.rD{w w':World}{b:Nat}(h:w.grownBy w' (some b)):gF w w' b:=⟨h.os,h.tape,h.output,h.size,fun k hk hkb _=>h.block k hk (fun e=>hkb (dX e))⟩
theorem H5{a w:World}{r:Option Nat}{z:Nat}(h:a.grownBy w r)(hz:a.heap.size≤z)(v0 v1 v2:Value):a.grownBy (((w.setCell ⟨z,0,none⟩ v0).setCell ⟨z,1,none⟩ v1).setCell ⟨z,2,none⟩ v2) r:=grownBy.rO (grownBy.rO (grownBy.rO h ⟨z,0,none⟩ v0 hz) ⟨z,1,none⟩ v1 hz) ⟨z,2,none⟩ v2 hz
theorem abP:Tryz.f131.results=#[.cell 2 139]:=by kernel_rfl
theorem abO:Tryz.f89.results=#[.cell 4 139]:=by kernel_rfl
theorem abQ:Tryz.f91.results=#[.cell 2 139]:=by kernel_rfl
theorem aaD (t:ByteArray)(w:World):Calls Tryz.prog 131 #[.string t] w fun e w'=>e = .returned (.agg (lu (av.plain t)))∧Below w.heap.size w w':=by
 have HN:=aa (ic.new w (av.plain t));have HB:=aa ((ai w.heap.size w).alloc (ag _) (.cells (lu (av.plain t)) 139));go_enter Tryz.func131,Tryz.ntmps131;go_wp2_with fail
 exact bodyPost_ret (Jo HN.o _ _ 2 abP rfl) rfl ⟨rfl,HB.o⟩
theorem aaj (i m:Int)(w:World):Calls Tryz.prog 89 #[.int .i64 i,.int .i64 m] w fun e w'=>e = .returned (.agg (lu (av.op i m)))∧Below w.heap.size w w':=by
 have HN:=aa (ic.new w (av.op i m));have HB:=aa ((ai w.heap.size w).alloc (ag _) (.cells (lu (av.op i m)) 139));go_enter Tryz.func89,Tryz.ntmps89;go_wp2_with fail
 exact bodyPost_ret (Jo HN.o _ _ 4 abO rfl) rfl ⟨rfl,HB.o⟩
def dC(w:World)(b:Nat)(nv:Value)(st:List av)(txt:List Int):Prop:=∃wv,j5 w b nv wv txt∧Own nM 139 w (b+1) wv st
theorem aar {α : Type}{size:Nat}{E:Enc α size}{e:TypeId}{w:World}{base g cap:Nat}{st:List α}(h:Own E e w base (.slice (some ⟨g,0,none⟩) st.length cap) st)(k:Nat)(hk:k≤st.length):Own E e w base (.slice (some ⟨g,0,none⟩) k cap) (st.take k):=by
 have hl:(st.take k).length=k:=by rw[gD];omega
 rcases h.2 with ⟨h1,_⟩|⟨g',cap',cur,h1,h2,h3,h4,h5,h6,h7⟩
 · cases h1
 · injection h1 with e1 e2 e3
   injection e1 with e1;injection e1 with e1;subst e1;subst e3;refine⟨by rw[Enc.ku],.inr ⟨g,cap,cur,by rw[hl],h2,h3,by omega,h5,h6, ?_⟩⟩;have h8:(cur.toList.take (st.length*size)).take (k*size)=(E.all st).take (k*size):=by rw[h7]
   rw[List.take_take,Nat.min_eq_left (Nat.mul_le_mul_right _ hk)]at h8;rw[hl,h8]
   conv=>lhs;rw[← List.take_append_drop k st,E.all_append]
   exact List.take_left' (by rw[E.ku,hl])
theorem aaH (w:World)(b:Nat)(nv:Value)(st:List av)(p:av)(txt:List Int)(h:dC w b nv (st++[p]) txt)(hlen:st.length≤10000000000) :
 Calls Tryz.prog 91 #[.pointer (some ⟨b,0,none⟩)] w fun e w'=>e = .returned (.agg (lu p))∧dC w' b nv st txt∧gF w w' b:=by
 obtain⟨wv,⟨ad,bv,hw,had,ho,hby⟩,hq⟩:=h;have hq0:=hq;obtain⟨g,cap,rfl,hbg,hgs,hnc,hcm⟩:=Own.some hq (by simp);have hlt:=hw.lt;have hn:(st++[p]).length=st.length+1:=by simp
 obtain⟨n,hst⟩:∃n,st.length=n:=⟨_,rfl⟩;have hx:(st++[p])[n]? = some p:=by rw[← hst];simp
 have k0:w.cell? ⟨g,n*3,none⟩=some (.string p.t):=Own.cells hq0 (n*3) _ (by have:=nM.at (st++[p]) n 0 p hx (by omega);rw[Nat.add_zero]at this;rw[this];rfl);have k1:w.cell? ⟨g,n*3+1,none⟩=some (.int .i64 p.node):=Own.cells hq0 (n*3+1) _ (by rw[nM.at (st++[p]) n 1 p hx (by omega)];rfl);have k2:w.cell? ⟨g,n*3+2,none⟩=some (.int .i64 p.least):=Own.cells hq0 (n*3+2) _ (by rw[nM.at (st++[p]) n 2 p hx (by omega)];rfl);rw[hn,hst]at hq0 hnc hw;have hg1:g<w.heap.size:=hgs;have hn9:n≤10000000000:=by omega
 have hi1:(0:Int)≤(n:Int):=by omega
 have hi2:(n:Int)<(n:Int)+1:=by omega
 have hi3:n≤cap:=by omega
 have hi4:(n:Int)≤(cap:Int):=by omega
 obtain⟨c0,c1,c2,c3⟩:=hw.facts;have hB1:Below w.heap.size w (w.alloc (.cells #[.string ⟨#[]⟩,.int .i64 0,.int .i64 0] 139)):=(ai _ _).alloc (ag _) _;have j4:=aa (show ic (w.alloc (.cells #[.string ⟨#[]⟩,.int .i64 0,.int .i64 0] 139)) w.heap.size (av.plain ⟨#[]⟩)from ic.new w (av.plain ⟨#[]⟩));have a1:=(hB1.cell (p:=⟨b,1,none⟩) hlt).trans c1;have j0:=(hB1.cell (p:=⟨g,n*3,none⟩) hg1).trans k0;have j1:=(hB1.cell (p:=⟨g,n*3+1,none⟩) hg1).trans k1;have j2:=(hB1.cell (p:=⟨g,n*3+2,none⟩) hg1).trans k2;have HB1:=aa hB1;have HW:=aa hw;have HO:=aa ho;have HQ:=aa hq;have vk:=aa hby;have HST:=aa hst;clear hB1 c0 c1 c2 c3 k0 k1 k2 hq0 hx hn hst hw ho hq hby hlen;go_enter Tryz.func91,Tryz.ntmps91;go_upto_region 1 with (fail)
 generalize hz:w.heap.size=z at j4 ⊢;have hwz:w.heap.size≤z:=Nat.le_of_eq hz;generalize (w.alloc (.cells #[.string ⟨#[]⟩,.int .i64 0,.int .i64 0] 139))=w1 at j4 HB1 a1 j0 j1 j2 ⊢;clear hz;have Sl:=j4;go_upto_region 2 with (fail)
 have hB2:Below w1.heap.size w1 (w1.alloc (.cells #[.string p.t,.int .i64 p.node,.int .i64 p.least] 139)):=(ai _ _).alloc (ag _) _;have eY:ic (w1.alloc (.cells #[.string p.t,.int .i64 p.node,.int .i64 p.least] 139)) w1.heap.size p:=ic.new w1 p;have hb1:b<w1.heap.size:=eU hlt HB1.o.size;have a2:=(hB2.cell (p:=⟨b,1,none⟩) hb1).trans a1;have HB2:=aa (HB1.o.trans (hB2.mono HB1.o.size))
 have HZ2:=aa (show ic (w1.alloc (.cells #[.string p.t,.int .i64 p.node,.int .i64 p.least] 139)) z (av.plain ⟨#[]⟩)from by
  unfold ic;rw[hB2.block z (dZ.1 j4.o).1];exact j4.o)
 clear hB2;go_upto_region 3 with (fail)
 generalize hq2:w1.heap.size=q at eY ⊢;generalize w1.alloc (.cells #[.string p.t,.int .i64 p.node,.int .i64 p.least] 139)=w2 at eY HB2 HZ2 a2 ⊢;have hb2:b<w2.heap.size:=eU hlt HB2.o.size;have HW2:=aa (HW.o.below HB2.o hlt);have f1:=HW2.o.frozen 1;clear a1 j0 j1 j2;go_upto_region 4 with (fail)
 have HW3:=aa (HW2.o.Qa (.slice (some ⟨g,0,none⟩) n cap));have mq:q≠b:=by have:=HB1.o.size;omega
 have hzb:z≠b:=by omega
 have hzq:z≠q:=by have:=(dZ.1 Sl.o).1;omega
 have bW:=eY.keep (gZ w2 ⟨b,1,none⟩ (.slice (some ⟨g,0,none⟩) n cap) q mq);have HZ3:=HZ2.o.keep (gZ w2 ⟨b,1,none⟩ (.slice (some ⟨g,0,none⟩) n cap) z hzb);have eQ:=aa (grownBy.setCell' (grownBy.below' (grownBy.refl' w (some b)) HB2.o) 1 (.slice (some ⟨g,0,none⟩) n cap));generalize w2.setCell ⟨b,1,none⟩ (.slice (some ⟨g,0,none⟩) n cap)=w3 at HW3 bW HZ3 eQ ⊢;obtain⟨y0,y1,y2⟩:=bW.cells;obtain⟨z0,z1,z2⟩:=HZ3.bK;obtain⟨u0,u1,u2⟩:=HZ3.cells;have TP:=aa (HZ3.y8 p);have qg:=aa (H5 eQ.o hwz (.string p.t) (.int .i64 p.node) (.int .i64 p.least))
 have uI:=aa (show fJ (((w3.setCell ⟨z,0,none⟩ (.string p.t)).setCell ⟨z,1,none⟩ (.int .i64 p.node)).setCell ⟨z,2,none⟩ (.int .i64 p.least)) b nv (.slice (some ⟨g,0,none⟩) n cap) ad bv from by
  unfold fJ;rw[gZ _ ⟨z,2,none⟩ _ b (fun e=>hzb e.symm),gZ _ ⟨z,1,none⟩ _ b (fun e=>hzb e.symm),gZ _ ⟨z,0,none⟩ _ b (fun e=>hzb e.symm)];exact HW3.o)
 clear bW HZ3 f1;go_wp2_with fail
 have N7:=aar HQ.o st.length (by simp);rw[List.take_left,HST.o]at N7;exact bodyPost_ret (Jo TP.o _ _ 2 abQ rfl) rfl ⟨rfl,⟨_,⟨ad,bv,uI.o,had,Own.other HO.o qg.o (Nat.lt_succ_self b),vk.o⟩,Own.other N7 qg.o (Nat.lt_succ_self b)⟩,gF.rD qg.o⟩
end Go.Proofs.YtdnooocmlhcpkaaGreatDoor
namespace Go.Proofs.YtdnooocmlhcpkaaGreatDoor
open Go.RowKit Go.Shelf
attribute [local go_sem] Oper.semAt_some
def jO(x y:Nat)(w w':World):Prop:=w'.heap[x]? = w.heap[x]? ∧ w'.heap[y]? = w.heap[y]?
theorem jO.refl(x y:Nat)(w:World):jO x y w w:=⟨rfl,rfl⟩
theorem jO.trans{x y:Nat}{a b c:World}(h:jO x y a b)(k:jO x y b c):jO x y a c:=⟨k.1.trans h.1,k.2.trans h.2⟩
theorem jO.cell1{x y:Nat}{w w':World}(h:jO x y w w')(j:Nat):w'.cell? ⟨x,j,none⟩=w.cell? ⟨x,j,none⟩:=fI (a:=⟨x,j,none⟩) h.1
theorem jO.D6{x y:Nat}{w w':World}(h:jO x y w w')(j:Nat):w'.cell? ⟨y,j,none⟩=w.cell? ⟨y,j,none⟩:=fI (a:=⟨y,j,none⟩) h.2
theorem RA {w:World}{x y:Nat}(hx:x<w.heap.size)(hy:y<w.heap.size)(W:World)(l:Nat)(o o':Obj)(hl:w.heap.size≤l)(h:W.heap[l]? = some o)(_:o.isCells=false)(_:o.isWalk=false):jO x y W (W.putObj l o'):=by
 have hlt:=(dZ.1 h).1;have hg:=grownBy_putObj' W l o';exact⟨hg.block x (by omega) (fun e=>by have:=dX e;omega),hg.block y (by omega) (fun e=>by have:=dX e;omega)⟩
end Go.Proofs.YtdnooocmlhcpkaaGreatDoor
namespace Go.Proofs.YtdnooocmlhcpkaaGreatDoor
open Go.RowKit Go.Shelf
attribute [local go_sem] Oper.semAt_some
def came(ps:List av)(q:Nat):List (Nat × av):=(List.range (ps.length - q)).map fun j=>(ps.length - 1 - j,ps.getD (ps.length - 1 - j) (av.plain ⟨#[]⟩))
theorem Mw(ps:List av):came ps ps.length=[]:=by unfold came;simp
theorem Mx (ps:List av)(m:Nat)(p:av)(hp:ps[m]? = some p):came ps m=came ps (m+1)++[(m,p)]:=by
 have hl:=(dm.1 hp).1;unfold came;rw[show ps.length - m=(ps.length - (m+1))+1 by omega,List.range_succ,iE];show _++[(ps.length - 1 - (ps.length - (m+1)),_)]=_;rw[show ps.length - 1 - (ps.length - (m+1))=m by omega,iC,hp];rfl
theorem U8(ps:List av)(q:Nat):(came ps q).length=ps.length - q:=by unfold came;simp
theorem Uw (F:Fence)(n:Nat)(h7:F.fn 159)(hro:F.round=none)(hn:1≤n)(l Bs b cap:Nat)(ps:List av)(hlen:ps.length≤1000000000)(J Jx:List (Nat × av)→World→Prop)
 (hY:∀pre x W,J pre W→pre.length<ps.length→YieldAt F (n - 1) Tryz.prog l #[.int .i64 (x.1:Int),.agg (lu x.2)] W fun e W' =>
   (e = .returned (.bool true)∧J (pre++[x]) W'∧jO Bs b W W')∨(e = .returned (.bool false)∧Jx (pre++[x]) W'))
 (W:World) (vK:W.cell? ⟨Bs,0,none⟩=some (.slice (some ⟨b,0,none⟩) ps.length cap)) (hc:∀m p,ps[m]? = some p→W.cell? ⟨b,m*3,none⟩=some (.string p.t)∧W.cell? ⟨b,m*3+1,none⟩=some (.int .i64 p.node)∧W.cell? ⟨b,m*3+2,none⟩=some (.int .i64 p.least)) (h0:J [] W) :
 CallsIn F n Tryz.prog 159 #[.func (.yield l) #[] #[],.pointer (some ⟨Bs,0,none⟩)] W fun e W'=>(∃v,e = .returned v) ∧
  ((∃ys,ys=came ps 0∧J ys W')∨(∃pre,True∧Jx pre W')):=by
 obtain⟨L,hL⟩:∃L,ps.length=L:=⟨_,rfl⟩;have HL:=aa hL;rw[hL]at hlen vK;refine callsIn_of_wp Tryz.func159 rfl h7 ?_ hro;simp only[Tryz.ntmps159,List.size_toArray,aK,dY,Nat.reduceAdd,Nat.reduceSub,Array.replicate_succ,Array.replicate_zero,List.push_toArray,List.append_toArray,fQ,dO];gi_wp2
 gi_loopw [3] (fun i wr=>∃q:Nat,q≤L∧i = .int .i64 ((q:Int) - 1)∧J (came ps q) wr∧jO Bs b W wr)
  (fun i _=>(intOf i+1).toNat)
 case atStart=>exact⟨L,ag _,rfl,by rw[← hL,Mw];exact h0,jO.refl _ _ _⟩
 case round =>
  obtain⟨q,hq,rfl,hJs,hnx⟩:=hrel;have WC:=(hnx.cell1 0).trans vK;cases q with
  | zero =>
    gi_wp2
    go_end0;exact⟨⟨_,rfl⟩,.inl ⟨_,rfl,hJs⟩⟩
  | succ m =>
    obtain⟨p,hp⟩:∃p,ps[m]? = some p:=⟨_,bn (by omega)⟩;obtain⟨c0,c1,c2⟩:=hc m p hp;have d0:=(hnx.D6 (m*3)).trans c0;have d1:=(hnx.D6 (m*3+1)).trans c1;have d2:=(hnx.D6 (m*3+2)).trans c2;have hst:=Mx ps m p hp;obtain⟨fn,tmps,assign,body,hy,hR⟩:=hY _ (m,p) wr hJs (by rw[U8];omega);rw[← hst]at hR;dsimp only[lu]at hy;have hm1:((m+1:Nat):Int) - 1=(m:Int):=by omega
    rw[hm1];have Xv:(m:Int)<(L:Int):=by omega
    have hm0:(0:Int)≤(m:Int):=by omega
    clear hm1 c0 c1 c2 hc hJs hst;gi_wp2
    refine hR.mono ?_;rintro e W3 (⟨rfl,hJ3,hk3⟩|⟨rfl,hJx3⟩)
    · gi_wp2
      go_roundw
      case rel=>exact⟨m,by omega,by simp,hJ3,hnx.trans hk3⟩
      case measure=>simp[intOf]
    · gi_wp2
      refine bodyPost_ret (results_none rfl _ _ _) rfl ?_;exact⟨⟨_,rfl⟩,.inr ⟨_,trivial,hJx3⟩⟩
theorem UH (F:Fence)(n:Nat)(h5:F.fn 128)(hro:F.round=none)(a:Option Addr)(len cap:Nat)(w:World) :
 CallsIn F n Tryz.prog 128 #[.slice a len cap] w fun e w'=>e = .returned (.func (.func 159) #[] #[.pointer (some ⟨w.heap.size,0,none⟩)])∧w.alloc (.cells #[.slice a len cap] 131)=w':=by
 refine callsIn_of_wp Tryz.func128 rfl h5 ?_ hro;simp only[Tryz.ntmps128,List.size_toArray,aK,dY,Nat.reduceAdd,Nat.reduceSub,Array.replicate_succ,Array.replicate_zero,List.push_toArray,List.append_toArray,fQ,dO];gi_wp2
 go_ret;exact⟨rfl,rfl⟩
theorem UF (F:Fence)(n:Nat)(h7:F.fn 159)(hro:F.round=none)(hn:1≤n)(Bs b cap:Nat)(ps:List av)(hlen:ps.length≤1000000000)(w:World)(hB:Bs<w.heap.size)(hb:b<w.heap.size)
 (vK:w.cell? ⟨Bs,0,none⟩=some (.slice (some ⟨b,0,none⟩) ps.length cap)) (hc:∀m p,ps[m]? = some p→w.cell? ⟨b,m*3,none⟩=some (.string p.t)∧w.cell? ⟨b,m*3+1,none⟩=some (.int .i64 p.node)∧w.cell? ⟨b,m*3+2,none⟩=some (.int .i64 p.least)) :
 SeqStopsK F n Tryz.prog 159 #[.pointer (some ⟨Bs,0,none⟩)] (fun x:Nat × av=>#[Value.int .i64 (x.1:Int),.agg (lu x.2)]) (jO Bs b) (fun ys=>ys=came ps 0) (fun _=>True) ps.length w:=fun l J Jx W hW _ _ hY h0 =>
 Uw F n h7 hro hn l Bs b cap ps hlen J Jx hY W ((hW.cell hB).trans vK) (fun m p hp=>by
  obtain⟨c0,c1,c2⟩:=hc m p hp;exact⟨(hW.cell (p:=⟨b,m*3,none⟩) hb).trans c0,(hW.cell (p:=⟨b,m*3+1,none⟩) hb).trans c1,(hW.cell (p:=⟨b,m*3+2,none⟩) hb).trans c2⟩) h0
theorem U9:∀(ps:List av)(q:Nat),q≤ps.length→(came ps q).map (·.2)=(ps.drop q).reverse:=by
 intro ps q
 induction h:ps.length - q generalizing q with
 | zero =>
   intro hq;have:q=ps.length:=by omega
   subst this;rw[Mw,List.drop_length];rfl
 | succ d ih =>
   intro hq;obtain⟨p,hp⟩:∃p,ps[q]? = some p:=⟨_,bn (by omega)⟩;have hl:=(dm.1 hp).1;rw[Mx ps q p hp,iE,ih (q+1) (by omega) (by omega),List.drop_eq_getElem_cons hl,List.reverse_cons];have:ps[q]=p:=by rw[bn hl]at hp;exact dX hp
   rw[this];rfl
end Go.Proofs.YtdnooocmlhcpkaaGreatDoor
namespace Go.Proofs.YtdnooocmlhcpkaaGreatDoor
open Go.RowKit Go.Shelf
attribute [local go_sem] Oper.semAt_some
structure aZ (w w':World)(b:Nat):Prop where
 os:w'.os=w.os
 tape:w'.tape=w.tape
 output:w'.output=w.output
 size:w.heap.size≤w'.heap.size
 block:∀k,k<w.heap.size→k≠b→(k<b∨∀cur fr,w.heap[k]? ≠ some (.cells cur 5 fr)∧w.heap[k]? ≠ some (.cells cur 139 fr))→w'.heap[k]? = w.heap[k]?
theorem aZ.refl(w:World)(b:Nat):aZ w w b:=⟨rfl,rfl,rfl,ag _,fun _ _ _ _=>rfl⟩
theorem aZ.trans {w w1 w2:World}{b:Nat}(h:aZ w w1 b)(k:aZ w1 w2 b):aZ w w2 b :=
 ⟨k.os.trans h.os,k.tape.trans h.tape,k.output.trans h.output,bZ h.size k.size,fun j hj hb hr=>by
  have h1:=h.block j hj hb hr;rw[k.block j (eU hj h.size) hb (hr.imp id fun hn cur fr=>by rw[h1];exact hn cur fr)];exact h1⟩
theorem aZ.rD{w w':World}{b:Nat}(h:gF w w' b):aZ w w' b:=⟨h.os,h.tape,h.output,h.size,fun k hk hb hr=>h.block k hk hb (hr.imp id fun hn cur fr=>(hn cur fr).1)⟩
theorem aZ.gJ{w w':World}{b:Nat}(h:Below w.heap.size w w'):aZ w w' b:=⟨h.os,h.tape,h.output,h.size,fun k hk _ _=>h.block k hk⟩
theorem aZ.stay {w A B:World}{row:Option Nat}{b:Nat}(h:aZ w A b)(hg:A.grownBy B row)(hr:∀r,row=some r→w.heap.size≤r):aZ w B b :=
 ⟨hg.os.trans h.os,hg.tape.trans h.tape,hg.output.trans h.output,bZ h.size hg.size,fun k hk hb h1=>by
  rw[hg.block k (eU hk h.size) (fun e=>by have:=hr k e.symm;omega)];exact h.block k hk hb h1⟩
theorem wY {A B:World}{row:Option Nat}(hg:A.grownBy B row)(hr:∀r,row=some r→∃o:Obj,A.heap[r]? = some o∧o.isCells=false){x:Nat}{cs:Array Value}{t:TypeId}{fr:Nat × Nat}(h:A.heap[x]? = some (.cells cs t fr)):B.heap[x]? = some (.cells cs t fr):=by
 rw [hg.block x (dZ.1 h).1 (fun e=>by
  obtain⟨o,ho,hc⟩:=hr x e.symm;rw[h]at ho;cases ho;cases hc)]
 exact h
theorem EK {α : Type}{size:Nat}{E:Enc α size}{e:TypeId}{A B:World}{base:Nat}{v:Value}{xs:List α}(h:Own E e A base v xs){row:Option Nat}(hg:A.grownBy B row)(hr:∀r,row=some r→∃o:Obj,A.heap[r]? = some o∧o.isCells=false):Own E e B base v xs:=by
 refine⟨h.1, ?_⟩;rcases h.2 with h|⟨g,cap,cur,h1,h2,h3,h4⟩
 · exact .inl h
 · exact .inr ⟨g,cap,cur,h1,h2,wY hg hr h3,h4⟩
theorem j5.stay {A B:World}{b:Nat}{nv wv:Value}{txt:List Int}(h:j5 A b nv wv txt){row:Option Nat}(hg:A.grownBy B row)(hr:∀r,row=some r→∃o:Obj,A.heap[r]? = some o∧o.isCells=false):j5 B b nv wv txt:=by
 obtain⟨ad,bv,h1,h2,h3,h4⟩:=h;exact⟨ad,bv,wY hg hr h1,h2,EK h3 hg hr,h4⟩
def zM (w:World)(b:Nat)(nv:Value)(st:List av)(txt:List Int)(lb:Nat)(pre:List (Nat × av))(W:World):Prop :=
 (∃wv,j5 W b nv wv txt∧Own nM 139 W (b+1) wv (st++pre.map (·.2))∧wv.ownBlock≠some lb)∧Boxed W w.heap.size 130 (.pointer (some ⟨b,0,none⟩))∧W.heap[lb]? = w.heap[lb]?
theorem zM.below {w:World}{b:Nat}{nv:Value}{st:List av}{txt:List Int}{lb:Nat}{pre:List (Nat × av)}{W W':World}(h:zM w b nv st txt lb pre W)(hb:Below W.heap.size W W')(hl:lb<W.heap.size):zM w b nv st txt lb pre W':=by
 obtain⟨⟨wv,h1,h2,h3⟩,h4,h5⟩:=h;have h4':W.heap[w.heap.size]? = some (.cells #[.pointer (some ⟨b,0,none⟩)] 130):=h4;exact⟨⟨wv,h1.below hb,h2.below hb (ag _),h3⟩,(show W'.heap[w.heap.size]? = _ from(hb.block _ (dZ.1 h4').1).trans h4'),(hb.block lb hl).trans h5⟩
theorem aaQ {w:World}{b:Nat}{nv:Value}{st:List av}{txt:List Int}{lb:Nat}{cs:Array Value}{fr:Nat × Nat}(hlb:w.heap[lb]? = some (.cells cs 139 fr))(B:Nat):OwnFrom B (zM w b nv st txt lb):=by
 rintro pre X Y row ⟨⟨wv,h1,h2,h3⟩,h4,h5⟩ hg hr;have hr2:∀r,row=some r→∃o:Obj,X.heap[r]? = some o∧o.isCells=false:=fun r e=>(hr r e).2
 refine⟨⟨wv,j5.stay h1 hg hr2,EK h2 hg hr2,h3⟩,boxed_own w.heap.size 130 (fun (_:Unit)=>Value.pointer (some ⟨b,0,none⟩)) () X Y row h4 hg hr2, ?_⟩;rw[wY hg hr2 (h5.trans hlb)];exact hlb.symm
end Go.Proofs.YtdnooocmlhcpkaaGreatDoor
namespace Go.Proofs.YtdnooocmlhcpkaaGreatDoor
open Go.RowKit
variable {P:Program} {ops:Array Oper} {md:Region.Mode} {l n:Nat}
def DK(N:Act→World→Prop):Exit→Act→World→Prop:=fun e a w=>e = .normal∧N a w
theorem Qb (N:Act→World→Prop):¬ LetsOut (DK N):=by
 rintro⟨a,w,h,_⟩;cases h
theorem aca {row:String}{args:Array Value}{w:World}{R:Value→World→Prop}(h:Rows P row args w R):RowsIn (Fence.wide.inRound l) n P row args w R:=fun c cs _=>by
 obtain⟨v,w',r,s⟩:=h c cs;exact⟨v,w',r,stepsIn_wide.2 s⟩
theorem aeA {o:Oper}{a:Act}{K K':Act→World→Prop}(hK:∀a w,K a w→K' a w){Q:Exit→Act→World→Prop}{r:Result Next}(h:o.upon P a K (DK (Q .normal)) r):o.uponIn (Fence.wide.inRound l) n P a K' Q r:=by
 unfold Oper.upon at h;split at h
 · exact hK _ _ h
 · exact hK _ _ h
 · exact hK _ _ h
 · refine⟨fun hd=>(by cases hd),CallsIn.inRound l ((callsIn_wide.2 h).mono ?_)⟩
   rintro e w' he;cases e with
   | returned v=>exact hK _ _ he
   | panicked c=>exact absurd he.1 (by intro h;cases h)
   | outgrown=>exact absurd he (Qb _)
 · exact⟨fun hd=>(by cases hd),(aca h).mono fun v w' hv=>hK _ _ hv⟩
 · exact absurd h.1 (by intro h;cases h)
 · exact h.elim
theorem DX {Q:Exit→Act→World→Prop}(hnd:∀(i:Nat)(o:Oper),ops[i]? = some o→∀c,o.op ≠ .defer c):∀(fuel:Nat)(listed:Array Bool)(a:Act)(w:World),wpAny P md ops (DK (Q .normal)) fuel listed a w→wpAnyIn (Fence.wide.inRound l) n P md ops Q fuel listed a w
 | 0,_,_,_,h=>⟨h.1,h.2.2⟩
 | fuel + 1,listed,a,w,h=>by
   refine⟨fun hr=>(h.1 hr).2,fun i hi => ?_⟩;have hs:=h.2 i hi;unfold wpOp at hs;unfold wpOpIn;cases ho:ops[i]? with
   | none=>rw[ho]at hs;exact DX hnd fuel _ _ _ hs
   | some o =>
     rw[ho]at hs;simp only at hs ⊢;by_cases hw:Region.wanted o (yielded ops a.tmps)=true
     · rw[if_pos hw]at hs ⊢
       have hs:=hs.resolve_right (fun hx=>Qb _ hx.2);refine⟨fun _ _=>trivial, ?_⟩;rw[Oper.semAt_eq _ _ _ (hnd i o ho)];exact aeA (fun a' w' h'=>DX hnd fuel _ a' w' h') hs
     · rw[if_neg hw]at hs ⊢
       exact⟨fun _ _=>trivial,DX hnd fuel _ _ _ hs⟩
def Jh(ops:Array Oper):Bool:=ops.toList.all fun o=>match o.op with | .defer _=>false|_=>true
theorem ZI {ops:Array Oper}(h:Jh ops=true)(i:Nat)(o:Oper)(ho:ops[i]? = some o):∀c,o.op ≠ .defer c:=by
 intro c e;unfold Jh at h;rw[List.all_eq_true]at h;have h2:=h o (by rw[← Array.getElem?_toList]at ho;exact dz ho);rw[e]at h2;cases h2
theorem JG {Q:Exit→Act→World→Prop}{id:Nat}{a:Act}{w:World}(hm:P.follows .mixedOrders=true)(hnd:Jh ops=true)
 (h:wpAny P .any ops (DK (Q .normal)) ops.size (Array.replicate ops.size false) a w.drew):(Code.region id ops true).wpIn (Fence.wide.inRound l) n P Q a w :=
 wpIn_region_any hm (DX (fun i o ho=>ZI hnd i o ho) _ _ _ _ h)
end Go.Proofs.YtdnooocmlhcpkaaGreatDoor
