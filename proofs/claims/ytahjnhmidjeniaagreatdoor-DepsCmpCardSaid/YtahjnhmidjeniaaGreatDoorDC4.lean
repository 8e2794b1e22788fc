import Derived.Test.YtahjnhmidjeniaaGreatDoorDC3
import Derived.Deep.RegionWith
import Derived.Shelf.Small.Bits
import Derived.Shelf.Small.Wraps
import Derived.Shelf.Sort.Plain
import Derived.Shelf.Slices.CompactS
import Derived.Sort.OwnSorted
set_option maxRecDepth 100000
set_option maxHeartbeats 64000000
namespace Go.Proofs.YtahjnhmidjeniaaGreatDoor
open Go.RowKit
variable {s:ByteArray}{e:Ending}{c:Int}{st xs:List Int}{vs:List aO}{r ts:List ai}{B a b base cap deep g p p':Nat}{n:Nd}{k nv tv:Value}{w w':World}{res:fF}
theorem Out.leaf {di:Value}(hr:res = .ok ([n],a,r))(hf:Fr w w' b)(hp:ts.drop p'=r)(h:aR w' b tv ts p' deep di (vs++[aO.leaf n])):Out res w b tv ts deep vs (.returned (.int .i64 0)) w' :=
 ⟨hf,.inr ⟨[n],a,r,hr,rfl,p',di,[aO.leaf n],hp,rfl,(by intro u hu g hg;rw[gX.1 hu]at hg;cases hg),h⟩⟩
theorem Out.err(hr:res = .error c)(hc:c=5∨c=6)(hf:Fr w w' b):Out res w b tv ts deep vs (.returned (.int .i64 c)) w':=⟨hf,.inl ⟨c,hr,hc,rfl⟩⟩
theorem fV.set {r:Int}{ac ar:Bool}(h:fV w b s c r ac ar)(hg:b≠g)(o:Nat)(v:Value):fV (w.setCell ⟨g,o,none⟩ v) b s c r ac ar:=by
 unfold fV;rw[jA _ _ _ _ (by exact hg)];exact h
theorem fV.fr {r:Int}{ac ar:Bool}(h:fV w g s c r ac ar)(hf:Fr w w' b)(hg:g≠b):fV w' g s c r ac ar:=by
 unfold fV;rw[hf.block g h.lt hg (.inr (by rintro⟨cur,fr,e⟩;unfold fV at h;rw[h]at e;injection e with e;injection e with _ e;exact absurd e (by decide)))];exact h
theorem Wv (h:aR w b tv ts p deep nv vs)(t:ai)(hnx:p+1<ts.length)(base:Nat) :
 Calls Tryz.prog 120 #[.pointer (some ⟨b,0,none⟩),.agg #[.string t.sh,.int .i64 t.c,.int .i64 t.r,.bool t.ac,.bool t.ar]] w (Out (jb base t (ts.drop (p+1))) w b tv ts deep vs):=by
 have hal:Below w.heap.size w (w.alloc (.cells #[.string t.sh,.int .i64 t.c,.int .i64 t.r,.bool t.ac,.bool t.ar] 104)):=(ak _ _).alloc (aj _) _;have bW:=ae (h.below hal);have hx:=fV.new w t.sh t.c t.r t.ac t.ar;have h2:=h.few;have hct:=h.cnt;have hbl:=h.blt;have dJ:=ae hal;clear h hal;go_enter Tryz.func120,Tryz.ntmps120;go_upto_region 1 with (fail)
 generalize w.alloc (.cells #[.string t.sh,.int .i64 t.c,.int .i64 t.r,.bool t.ac,.bool t.ar] 104)=w1 at bW dJ hx ⊢;obtain⟨c0,c1,c2,c3⟩:=bW.o.facts;have f1:=bW.o.frozen 1;clear c0 c2 c3;go_upto_region 2 with (fail)
 have l5:=ae (bW.o.next hnx);have j6:=ae (hx.set (show w.heap.size≠b by omega) 1 (.int .i64 ((p:Int)+1)));have bO:=ae ((Fr.of b dJ.o).setCell 1 (.int .i64 ((p:Int)+1)));clear c1 f1 hx bW dJ;generalize w1.setCell ⟨b,1,none⟩ (.int .i64 ((p:Int)+1))=w2 at l5 j6 bO ⊢;have HT:=ae (Ew l5.o ⟨#[58]⟩);have hw0:w.heap.size≠b:=by omega
 cases hq:ay ⟨#[58]⟩ (ts.drop (p+1))
 · rw[hq,af (by decide)]at HT
   have HR:=ae (show jb base t (ts.drop (p+1)) = .ok ([{ Nd.zero with kind:=5,ref:=t.df }],base,ts.drop (p+1))by unfold jb;rw[hq,af (by decide)]);clear hq;go_upto_region 3 with (go_at_call 152;((with_reducible refine HT.o.mono ?_);rintro e w3 ⟨h1,rfl,h3⟩;have fE:=ae (bO.o.trans h1);have lG:=ae (j6.o.fr h1 hw0);have fu:=ae h3;clear h1 h3))
   obtain⟨x0,x1,x2,x3,x4⟩:=lG.o.facts;have HA:=ae (show Calls Tryz.prog 117 #[.pointer (some ⟨b,0,none⟩),.agg #[.int .i64 5,.int .i64 0,.string ⟨#[]⟩,.string t.sh,.int .i64 t.c,.int .i64 t.r,.bool t.ac,.bool t.ar,.string ⟨#[]⟩,.int .i64 0,.int .i64 0,.bool false,.bool false,.slice none 0 0]] w3 _ from xG fu.o (aO.leaf { Nd.zero with kind:=5,ref:=t.df }) (Kg _ _ _ rfl) (by omega) (.slice none 0 0) rfl { Nd.zero with kind:=5,ref:=t.df } rfl);go_wp2_with (go_at_call 117;((with_reducible refine HA.o.mono ?_);rintro e w4 ⟨h1,rfl,di,h3⟩;have lY:=ae (fE.o.trans h1);have qY:=ae h3;clear h1 h3))
   go_ret;exact Out.leaf HR.o lY.o rfl qY.o
 · have DN:=vz l5.o hq
   rw[hq,ah rfl]at HT;obtain⟨u,hu⟩:∃u,ts[p+2]? = some u:=⟨_,aX DN⟩
   have hd:(ts.drop (p+1)).tail=u :: ts.drop (p+3):=by
    rw[List.tail_drop,List.drop_eq_getElem_cons DN];rw[aX DN]at hu;rw[dV hu]
   have hR:jb base t (ts.drop (p+1))=if u.kind=4∧gU t.df u.df=true then .ok ([(⟨6,0,⟨#[]⟩,t.df,u.df,[]⟩:Nd)],base,ts.drop (p+3))else .error 5:=by
    unfold jb;rw[hq,ah rfl,hd] <;> rfl
   clear hq hd
   go_upto_region 6 with (first
    | (go_at_call 152;((with_reducible refine HT.o.mono ?_);rintro e w3 ⟨h1,rfl,h3⟩;have fE:=ae (bO.o.trans h1);have lG:=ae (j6.o.fr h1 hw0);have fu:=ae h3;have cO:=ae (AJ h3 u hu);clear h1 h3))
    | (go_at_call 67;((with_reducible refine cO.o.mono ?_);rintro e w4 ⟨rfl,h1⟩;have lY:=ae (fE.o.below h1);have xA:=ae (lG.o.below h1 lG.o.lt);have qY:=ae (fu.o.below h1);clear h1)))
   have hB:Below w4.heap.size w4 (w4.alloc (.cells #[.int .i64 u.kind,.string u.text,.int .i64 u.num,.string u.sh,.int .i64 u.c,.int .i64 u.r,.bool u.ac,.bool u.ar,.int .i64 u.pos] 130)):=(ak _ _).alloc (aj _) _;have lZ:aC (w4.alloc (.cells #[.int .i64 u.kind,.string u.text,.int .i64 u.num,.string u.sh,.int .i64 u.c,.int .i64 u.r,.bool u.ac,.bool u.ar,.int .i64 u.pos] 130)) w4.heap.size u:=aC.new w4 u;have bT:=ae (lY.o.below hB);have xB:=ae (xA.o.below hB xA.o.lt);have gZ:=ae (qY.o.below hB);clear hB fE lG fu cO lY xA qY HT j6 l5 bO;generalize hb4:w4.heap.size=b4 at lZ ⊢;generalize w4.alloc (.cells #[.int .i64 u.kind,.string u.text,.int .i64 u.num,.string u.sh,.int .i64 u.c,.int .i64 u.r,.bool u.ac,.bool u.ar,.int .i64 u.pos] 130)=w5 at lZ bT xB gZ ⊢;clear hb4;obtain⟨x0,x1,x2,x3,x4,x5,x6,x7,aY⟩:=lZ.cells;obtain⟨y0,y1,y2,y3,y4⟩:=xB.o.facts;by_cases h4:u.kind=4
   · have e4:(u.kind != 4)=false:=by rw[h4];rfl
     have e5:(u.kind == 4)=true:=bI.2 h4;have HI:=ae (J5 t.sh u.sh t.c t.r u.c u.r t.ac t.ar u.ac u.ar w5);cases hs:gU t.df u.df
     · have HR:=ae (show jb base t (ts.drop (p+1)) = .error 5 by rw[hR,hs,af (by simp)])
       have HS:=ae (show gU ⟨t.sh,t.c,t.r,t.ac,t.ar⟩ ⟨u.sh,u.c,u.r,u.ac,u.ar⟩=false from hs);rw[HS.o]at HI;clear hR hs h4;go_wp2_with (go_at_call 153;((with_reducible refine HI.o.mono ?_);rintro e w6 ⟨rfl,h1⟩;have gB:=ae (bT.o.below h1);clear h1))
       go_ret;exact Out.err HR.o (.inl rfl) gB.o
     · have HR:=ae (show jb base t (ts.drop (p+1)) = .ok ([(⟨6,0,⟨#[]⟩,t.df,u.df,[]⟩:Nd)],base,ts.drop (p+3))by rw[hR,hs,ah ⟨h4,rfl⟩])
       have HS:=ae (show gU ⟨t.sh,t.c,t.r,t.ac,t.ar⟩ ⟨u.sh,u.c,u.r,u.ac,u.ar⟩=true from hs);rw[HS.o]at HI;have dS:=ae (gZ.o.fit.next hu (by omega));have lZ:=ae lZ;clear hR hs h4 x0 x1 x2 x3 x4 x5 x6 x7 aY y0 y1 y2 y3 y4;obtain⟨x0,x1,x2,x3,x4,x5,x6,x7,aY⟩:=lZ.o.cells;obtain⟨y0,y1,y2,y3,y4⟩:=xB.o.facts;go_upto_region 8 with (go_at_call 153;((with_reducible refine HI.o.mono ?_);rintro e w6 ⟨rfl,h1⟩;have gB:=ae (bT.o.below h1);have j4:=ae (gZ.o.below h1);have OH:=ae (xB.o.below h1 xB.o.lt);have NU:=ae (lZ.o.below h1 lZ.o.lt);clear h1))
       clear x0 x1 x2 x3 x4 x5 x6 x7 aY y0 y1 y2 y3 y4;obtain⟨x0,x1,x2,x3,x4,x5,x6,x7,aY⟩:=NU.o.cells;obtain⟨y0,y1,y2,y3,y4⟩:=OH.o.facts;have HA:=ae (show Calls Tryz.prog 119 #[.pointer (some ⟨b,0,none⟩),.agg #[.int .i64 6,.int .i64 0,.string ⟨#[]⟩,.string t.sh,.int .i64 t.c,.int .i64 t.r,.bool t.ac,.bool t.ar,.string u.sh,.int .i64 u.c,.int .i64 u.r,.bool u.ac,.bool u.ar,.slice none 0 0]] w6 _ from wz j4.o dS.o (⟨6,0,⟨#[]⟩,t.df,u.df,[]⟩:Nd) rfl);go_wp2_with (go_at_call 119;((with_reducible refine HA.o.mono ?_);rintro e w7 ⟨h1,rfl,di,h3⟩;have iT:=ae (gB.o.trans h1);have fw:=ae h3;clear h1 h3))
       go_ret;exact Out.leaf HR.o iT.o rfl fw.o
   · have e4:(u.kind != 4)=true:=by rw[bne_iff_ne];exact h4
     have e5:(u.kind == 4)=false:=aB.2 h4;have HR:=ae (show jb base t (ts.drop (p+1)) = .error 5 by rw[hR,af (fun h=>h4 h.1)]);clear hR h4;go_wp2_with fail
     go_ret;exact Out.err HR.o (.inl rfl) bT.o
theorem Out.ret (h:Out res w b tv ts deep vs e w'):∃c,e = .returned (.int .i64 c):=by
 rcases h.2 with ⟨c,_,_,h⟩|⟨_,_,_,_,h,_⟩
 · exact⟨c,h⟩
 · exact⟨0,h⟩
theorem Out.bad (h:Out res w b tv ts deep vs e w')(hr:res = .error c):Fr w w' b∧(c=5∨c=6)∧e = .returned (.int .i64 c):=by
 rcases h.2 with ⟨c',h1,h2,h3⟩|⟨ms,a,r,h1,_⟩
 · rw[hr]at h1;injection h1 with h1;subst h1;exact⟨h.1,h2,h3⟩
 · rw[hr]at h1;cases h1
theorem Out.vW {ms:List Nd}(h:Out res w b tv ts deep vs e w')(hr:res = .ok (ms,a,r)) :
 Fr w w' b∧e = .returned (.int .i64 0)∧∃p' di us,ts.drop p'=r∧us.map aO.n=ms∧(∀u∈us,∀g,u.dL.ownBlock=some g→w.heap.size≤g)∧aR w' b tv ts p' deep di (vs++us):=by
 rcases h.2 with ⟨c',h1,h2,h3⟩|⟨ms',a',r',h1,h2,h3⟩
 · rw[hr]at h1;cases h1
 · rw[hr]at h1;injection h1 with h1;injection h1 with e1 e2;injection e2 with e2 e3;subst e1;subst e3;exact⟨h.1,h2,h3⟩
theorem AR (h:aR w b tv ts p deep nv vs)(a:Nat)(ha:a+1=vs.length) :
 Calls Tryz.prog 118 #[.pointer (some ⟨b,0,none⟩)] w fun e w'=>e = .returned (.int .i64 (a:Int))∧w=w':=by
 have:=XC h (by omega);rw[show(vs.length:Int) - 1=(a:Int)by omega]at this;exact this
theorem Wn (w:World)(base:Nat)(x y:Int)(hb:base≤w.heap.size):Own (bK .i64) 3 (w.alloc (.cells #[.int .i64 x,.int .i64 y] 3)) base (.slice (some ⟨w.heap.size,0,none⟩) 2 2) [x,y] :=
 ⟨rfl,.inr ⟨w.heap.size,2,_,rfl,hb,(gV w _).1,aj _,by decide,rfl,rfl⟩⟩
theorem Wm (w:World)(base:Nat)(x:Int)(hb:base≤w.heap.size):Own (bK .i64) 3 (w.alloc (.cells #[.int .i64 x] 3)) base (.slice (some ⟨w.heap.size,0,none⟩) 1 1) [x] :=
 ⟨rfl,.inr ⟨w.heap.size,1,_,rfl,hb,(gV w _).1,aj _,by decide,rfl,rfl⟩⟩
def r9 (f:Nat):Prop:=∀(n deep:Nat)(res:fF)(w:World)(b:Nat)(tv:Value)(ts:List ai)(p:Nat)(nv:Value)(vs:List aO),n≤4→aR w b tv ts p deep nv vs→dw f n deep vs.length (ts.drop p)=some res →
 Calls Tryz.prog 66 #[.pointer (some ⟨b,0,none⟩),.int .i64 (n:Int)] w (Out res w b tv ts deep vs)
theorem zS {f n:Nat}{ns:List Nd}(h:dw f n deep base (ts.drop p)=some (.ok (ns,a,r)))(hr:ts.drop p'=r)(hl:p'<ts.length):ns.length+p≤p'∧a+1=base+ns.length∧1≤ns.length:=by
 have h1:=(Il f).1 _ _ _ _ _ _ _ h;have h2:=(vE f).1 _ _ _ _ _ _ _ h;subst hr;rw[jX,jX]at h1;exact⟨by omega,h2.2.1,h2.2.2⟩
theorem XH (f:Nat)(IH:∀g,g≤f→r9 g)(n:Nat)(hn:n≤3)(h:aR w b tv ts p deep nv vs)(res:fF)
 (az:fG (dw f (n+1) deep vs.length (ts.drop p)) (fun ns a r=>fC f n deep vs.length ns a r)=some res) :
 Calls Tryz.prog 114 #[.pointer (some ⟨b,0,none⟩),.int .i64 (n:Int)] w (Out res w b tv ts deep vs):=by
 have hw1 : -9223372036854775808≤(n:Int)+1:=by omega
 have hw2:(n:Int)+1≤9223372036854775807:=by omega
 have vZ:n+1≤4:=by omega
 rcases bY az with ⟨c,h1,rfl⟩|⟨ns,a,r,h1,h2⟩
 · have HL:=ae (show Calls Tryz.prog 66 #[.pointer (some ⟨b,0,none⟩),.int .i64 ((n:Int)+1)] w (Out (.error c) w b tv ts deep vs)from IH f (aj _) (n+1) deep _ w b tv ts p nv vs vZ h h1)
   clear az h1 IH h;go_enter Tryz.func114,Tryz.ntmps114;go_wp2_with (go_at_call 66;((with_reducible refine HL.o.mono ?_);intro e w2 ho;obtain⟨hf,hc,rfl⟩:=ho.bad rfl;have HF:=ae hf;have HC:=ae hc;have hc0:(c != 0)=true:=(by rw[bne_iff_ne];rcases hc with h|h <;> omega);clear hf hc ho))
   go_ret;exact Out.err rfl HC.o HF.o
 · have HL := ae (show Calls Tryz.prog 66 #[.pointer (some ⟨b,0,none⟩),.int .i64 ((n:Int)+1)] w (Out (.ok (ns,a,r)) w b tv ts deep vs)from IH f (aj _) (n+1) deep _ w b tv ts p nv vs vZ h h1)
   have uq:=ae IH;have H1:=ae h1;have H2:=ae h2;have hcn:=h.cnt;have HP:=ae h;clear az h1 h2 IH h;go_enter Tryz.func114,Tryz.ntmps114;go_upto_region 4 with (go_at_call 66;((with_reducible refine HL.o.mono ?_);intro e w2 ho;obtain⟨hf,rfl,p1,VJ,ZM,hp1,hu1,hk1,JD⟩:=ho.vW rfl;have jC:=ae hf;have bW:=ae JD;have HD1:=ae hp1;have Cn:=ae hu1;have xe:=ae hk1;clear hf ho hp1 hu1 hk1 JD))
   go_loopw [] (fun wr=>∃(g:Nat)(ns':List Nd)(a' p':Nat)(di:Value)(us:List aO),g≤f∧a'+1=vs.length+ns'.length∧us.length=ns'.length∧Hid (fC g n deep vs.length ns' a' (ts.drop p')=some res)∧Hid (us.map aO.n=ns')∧Hid (∀u∈us,∀j,u.dL.ownBlock=some j→w.heap.size≤j)∧Hid (aR wr b tv ts p' deep di (vs++us))∧Hid (Fr w wr b))
    (fun wr=>qD b ts.length wr)
   case atStart =>
    have h3:=zS H1.o HD1.o bW.o.lt;refine⟨f,ns,a,p1,VJ,ZM,aj _,h3.2.1,by rw[← Cn.o,dQ], ?_,Cn,xe,bW,jC⟩;rw[HD1.o];exact H2
   case round =>
    clear HL H1 H2 jC bW HD1 Cn xe;obtain⟨g,ns',a',p',di,us,hg,ha,DZ,HR,HU,HK,j5,HF⟩:=hrel;have hlt:=j5.o.lt;have Jo:=j5.o.few;have Jk:=j5.o.cnt;rw[ax]at Jk;have HM:=ae (j5.o.qD ts.length);have HO:=ae (VZ j5.o n hn)
    match g,hg,HR with
    | 0,_,HR=>have:=HR.o;unfold fC at this;cases this
    | g+1,hg,HR =>
    have hr:=HR.o;rw[qG]at hr;by_cases h0:dO n (ts.drop p')=0
    · rw[ah h0]at hr
      injection hr with hr;have kP:=ae hr.symm;rw[h0]at HO;have HO:=ae (show Calls Tryz.prog 151 #[.pointer (some ⟨b,0,none⟩),.int .i64 (n:Int)] wr fun e w'=>e = .returned (.tuple #[.int .i64 0,.bool false])∧Below wr.heap.size wr w' from HO.o);clear hr h0 HR;go_wp2_with (go_at_call 151;((with_reducible refine HO.o.mono ?_);rintro e w3 ⟨rfl,h1⟩;have fE:=ae (HF.o.below h1);have fu:=ae (j5.o.below h1);clear h1))
      go_ret;exact⟨fE.o,.inr ⟨_,_,_,kP.o,rfl,p',di,us,rfl,HU.o,HK.o,fu.o⟩⟩
    · rw [af h0]at hr
      obtain⟨kd,hkd⟩:∃kd,dO n (ts.drop p')=kd:=⟨_,rfl⟩;obtain⟨q,hq1,hq2,hq3⟩:=yx h0;have hnx:=vz j5.o hq2;clear hq1 hq2 hq3 q;rw[hkd]at HO hr h0;have HO:=ae (show Calls Tryz.prog 151 #[.pointer (some ⟨b,0,none⟩),.int .i64 (n:Int)] wr fun e w'=>e = .returned (.tuple #[.int .i64 kd,.bool true])∧Below wr.heap.size wr w' by have:=HO.o;rw[aL h0]at this;exact this);rw[List.tail_drop]at hr;have dF:vs.length+ns'.length=(vs++us).length:=by rw[ax,DZ]
      rw[dF]at hr;have HRR:=ae hr;clear hr h0 HR hkd;go_upto_region 7 with (go_at_call 151;((with_reducible refine HO.o.mono ?_);rintro e w3 ⟨rfl,h1⟩;have fE:=ae (HF.o.below h1);have fu:=ae (j5.o.below h1);clear h1))
      clear HO HF j5;obtain⟨c0,c1,c2,c3⟩:=fu.o.facts;have f1:=fu.o.frozen 1;clear c0 c2 c3;go_upto_region 8 with (fail)
      have qY:=ae (fu.o.next hnx);have lY:=ae (fE.o.setCell 1 (.int .i64 ((p':Int)+1)));clear c1 f1 fu fE;generalize w3.setCell ⟨b,1,none⟩ (.int .i64 ((p':Int)+1))=w4 at qY lY ⊢;have Ce:=ae (AR qY.o a' (by rw[ha,dF]));rcases bY HRR.o with ⟨c,h1,h2⟩|⟨ms,b2,r2,h1,h2⟩
      · subst h2
        have HL:=ae (show Calls Tryz.prog 66 #[.pointer (some ⟨b,0,none⟩),.int .i64 ((n:Int)+1)] w4 (Out (.error c) w4 b tv ts deep (vs++us))from uq.o g (by omega) (n+1) deep _ w4 b tv ts (p'+1) di (vs++us) vZ qY.o h1);clear h1 HRR
        go_wp2_with (first
         | (go_at_call 118;((with_reducible refine Ce.o.mono ?_);rintro e wn ⟨rfl,rfl⟩))
         | (go_at_call 66;((with_reducible refine HL.o.mono ?_);intro e w5 ho;obtain⟨hf,hc,rfl⟩:=ho.bad rfl;have bT:=ae (lY.o.trans hf);have HC:=ae hc;have hc0:(c != 0)=true:=(by rw[bne_iff_ne];rcases hc with h|h <;> omega);clear hf hc ho)))
        go_ret;exact Out.err rfl HC.o bT.o
      · have HL := ae (show Calls Tryz.prog 66 #[.pointer (some ⟨b,0,none⟩),.int .i64 ((n:Int)+1)] w4 (Out (.ok (ms,b2,r2)) w4 b tv ts deep (vs++us))from uq.o g (by omega) (n+1) deep _ w4 b tv ts (p'+1) di (vs++us) vZ qY.o h1)
        have H1:=ae h1;have H2:=ae h2;clear h1 h2 HRR
        go_upto_region 12 with (first
         | (go_at_call 118;((with_reducible refine Ce.o.mono ?_);rintro e wn ⟨rfl,rfl⟩))
         | (go_at_call 66;((with_reducible refine HL.o.mono ?_);intro e w5 ho;obtain⟨hf,rfl,p5,uZ,iL,mq,mD,hk5,mr⟩:=ho.vW rfl;have Gp:=ae hf.size;have bT:=ae (lY.o.trans hf);have gZ:=ae mr;have HD5:=ae mq;have l6:=ae mD;have su:=ae hk5;clear hf ho mq mD hk5 mr)))
        obtain⟨hc1,hc2,hc3⟩:=zS H1.o HD5.o gZ.o.lt;have JM:iL.length=ms.length:=by rw[← l6.o,dQ]
        have Jr:((vs++us)++iL).length=vs.length+us.length+iL.length:=by rw[ax,ax]
        have aaL:(vs++us).length=vs.length+us.length:=ax;have zo:=ae (AR gZ.o b2 (by omega));have hbl:=gZ.o.blt;have nY:Below w5.heap.size w5 (w5.alloc (.cells #[.int .i64 (a':Int),.int .i64 (b2:Int)] 3)):=(ak _ _).alloc (aj _) _;have j4:=ae (gZ.o.below nY);have gB:=ae (bT.o.below nY);have HA:=ae (show Calls Tryz.prog 117 #[.pointer (some ⟨b,0,none⟩),.agg #[.int .i64 kd,.int .i64 0,.string ⟨#[]⟩,.string ⟨#[]⟩,.int .i64 0,.int .i64 0,.bool false,.bool false,.string ⟨#[]⟩,.int .i64 0,.int .i64 0,.bool false,.bool false,.slice (some ⟨w5.heap.size,0,none⟩) 2 2]] (w5.alloc (.cells #[.int .i64 (a':Int),.int .i64 (b2:Int)] 3)) _ from xG j4.o ⟨{ Nd.zero with kind:=kd,kids:=[(a':Int),(b2:Int)] },some (w5.heap.size,2)⟩ (Wn w5 (b+1) (a':Int) (b2:Int) (by omega)) (by omega) (.slice (some ⟨w5.heap.size,0,none⟩) 2 2) rfl { Nd.zero with kind:=kd,kids:=[(a':Int),(b2:Int)] } rfl);clear nY HL Ce
        go_wp2_with (first
         | (go_at_call 118;((with_reducible refine zo.o.mono ?_);rintro e wn ⟨rfl,rfl⟩))
         | (go_at_call 117;((with_reducible refine HA.o.mono ?_);rintro e w7 ⟨h1,rfl,Er,h3⟩;have iT:=ae (gB.o.trans h1);have fw:=ae h3;clear h1 h3)))
        go_roundw
        case rel =>
         refine⟨g,ns'++(ms++[{ Nd.zero with kind:=kd,kids:=[(a':Int),(b2:Int)] }]),vs.length+(ns'.length+ms.length),p5,Er,us++(iL++[⟨{ Nd.zero with kind:=kd,kids:=[(a':Int),(b2:Int)] },some (w5.heap.size,2)⟩]),by omega, ?_, ?_, ?_, ?_, ?_, ?_,iT⟩;rotate_left 2
         · rw[HD5.o];exact H2
         · refine ae ?_
           rw[gW,gW,HU.o,l6.o];rfl
         · refine ae ?_
           intro u hu j hj;rcases eG.1 hu with hu|hu
           · exact HK.o u hu j hj
           · rcases eG.1 hu with hu|hu
             · have:=su.o u hu j hj;have:=lY.o.size;omega
             · rw[gX.1 hu]at hj
               have hj:some w5.heap.size=some j:=hj;injection hj with hj;have:=bT.o.size;omega
         · rw[← bD, ← bD];exact fw
         · rw[ax,ax,gu];omega
         · rw[ax,ax,ax,ax,gu,gu];omega
        case measure =>
         have h1:=fw.o.qD ts.length;rw[HM.o,h1];omega
def zM (f deep base:Nat)(ts:List ai):Option fF :=
 if ay ⟨#[40]⟩ ts=true then
  if 12≤deep then some (.error 6)
  else fG (dw f 0 (deep+1) base ts.tail) fun ns a r=>if ay ⟨#[41]⟩ r=true then some (.ok (ns,a,r.tail))else some (.error 5)
 else some (.error 5)
theorem Tq (f:Nat)(IH:r9 f)(h:aR w b tv ts p deep nv vs)(res:fF)(az:zM f deep vs.length (ts.drop p)=some res) :
 Calls Tryz.prog 122 #[.pointer (some ⟨b,0,none⟩)] w (Out res w b tv ts deep vs):=by
 have HS:=ae (uU h ⟨#[40]⟩);unfold zM at az;have HP:=ae h;cases hq:ay ⟨#[40]⟩ (ts.drop p)
 · rw[hq,af (by decide)]at az
   injection az with az;have HR:=ae az.symm;rw[hq]at HS;clear hq az h;go_enter Tryz.func122,Tryz.ntmps122;go_wp2_with (go_at_call 115;((with_reducible refine HS.o.mono ?_);rintro e w1 ⟨rfl,h1⟩;have HB:=ae h1;clear h1))
   go_ret;exact Out.err HR.o (.inl rfl) (Fr.of b HB.o)
 · have hnx:=vz h hq
   rw[hq,ah rfl]at az;rw[hq]at HS;by_cases hd:12≤deep
   · rw [ah hd]at az
     injection az with az;have HR:=ae az.symm;clear hq az h;go_enter Tryz.func122,Tryz.ntmps122
     go_wp2_with (first
      | (go_at_call 115;((with_reducible refine HS.o.mono ?_);rintro e w1 ⟨rfl,h1⟩;have jC:=ae (Fr.of b h1);have eQ:=ae (tL (HP.o.below h1) hnx);clear h1))
      | (go_at_call 116;((with_reducible refine eQ.o.mono ?_);rintro e w2 ⟨h1,⟨-,rfl⟩|⟨h2, -⟩⟩;rotate_left;exact absurd hd h2;have bO:=ae (jC.o.trans h1);clear h1)))
     go_ret;exact Out.err HR.o (.inr rfl) bO.o
   · rw [af hd,List.tail_drop]at az
     rcases bY az with ⟨c,h1,rfl⟩|⟨ns,a,r,h1,h2⟩
     · have HI:=ae (fun w2 hps=>IH 0 (deep+1) _ w2 b tv ts (p+1) nv vs (by omega) hps h1)
       clear hq az h IH h1;go_enter Tryz.func122,Tryz.ntmps122
       go_wp2_with (first
        | (go_at_call 115;((with_reducible refine HS.o.mono ?_);rintro e w1 ⟨rfl,h1⟩;have jC:=ae (Fr.of b h1);have eQ:=ae (tL (HP.o.below h1) hnx);clear h1))
        | (go_at_call 116;((with_reducible refine eQ.o.mono ?_);rintro e w2 ⟨h1,⟨h2, -⟩|⟨-,rfl,h3⟩⟩;exact absurd h2 hd;have bO:=ae (jC.o.trans h1);have HL:=ae (show Calls Tryz.prog 66 #[.pointer (some ⟨b,0,none⟩),.int .i64 0] w2 (Out (.error c) w2 b tv ts (deep+1) vs)from HI.o w2 h3);clear h1 h3))
        | (go_at_call 66;((with_reducible refine HL.o.mono ?_);intro e w5 ho;obtain⟨hf,hc,rfl⟩:=ho.bad rfl;have bT:=ae (bO.o.trans hf);have HC:=ae hc;have hc0:(c != 0)=true:=(by rw[bne_iff_ne];rcases hc with h|h <;> omega);clear hf hc ho)))
       go_ret;exact Out.err rfl HC.o bT.o
     · have HI:=ae (fun w2 hps=>IH 0 (deep+1) _ w2 b tv ts (p+1) nv vs (by omega) hps h1)
       have H2:=ae h2;clear hq az h IH h1 h2;go_enter Tryz.func122,Tryz.ntmps122
       go_upto_region 9 with (first
        | (go_at_call 115;((with_reducible refine HS.o.mono ?_);rintro e w1 ⟨rfl,h1⟩;have jC:=ae (Fr.of b h1);have HZ1:=ae h1.size;have eQ:=ae (tL (HP.o.below h1) hnx);clear h1))
        | (go_at_call 116;((with_reducible refine eQ.o.mono ?_);rintro e w2 ⟨h1,⟨h2, -⟩|⟨-,rfl,h3⟩⟩;exact absurd h2 hd;have bO:=ae (jC.o.trans h1);have HL:=ae (show Calls Tryz.prog 66 #[.pointer (some ⟨b,0,none⟩),.int .i64 0] w2 (Out (.ok (ns,a,r)) w2 b tv ts (deep+1) vs)from HI.o w2 h3);clear h1 h3))
        | (go_at_call 66;((with_reducible refine HL.o.mono ?_);intro e w5 ho;obtain⟨hf,rfl,p5,uZ,iL,mq,mD,hk5,mr⟩:=ho.vW rfl;have bT:=ae (bO.o.trans hf);have y7:=ae (Lc mr);have HD5:=ae mq;have l6:=ae mD;have su:=ae hk5;clear hf ho mq mD hk5 mr)))
       have h2:=H2.o;rw[← HD5.o]at h2;have hz:=bO.o.size;cases hs:ay ⟨#[41]⟩ (ts.drop p5)
       · rw[hs,af (by decide)]at h2
         injection h2 with h2;have HR:=ae h2.symm;rw[hs]at y7;clear h2 hs;go_wp2_with (go_at_call 155;((with_reducible refine y7.o.mono ?_);rintro e w6 ⟨h1,⟨-,rfl⟩|⟨h2, -⟩⟩;rotate_left;cases h2;have gB:=ae (bT.o.trans h1);clear h1))
         go_ret;exact Out.err HR.o (.inl rfl) gB.o
       · rw[hs,ah rfl,List.tail_drop]at h2
         injection h2 with h2;have HR:=ae h2.symm;rw[hs]at y7;clear h2 hs;go_wp2_with (go_at_call 155;((with_reducible refine y7.o.mono ?_);rintro e w6 ⟨h1,⟨h2, -⟩|⟨-,rfl,h3⟩⟩;cases h2;have gB:=ae (bT.o.trans h1);have j4:=ae h3;clear h1 h3))
         go_ret;exact⟨gB.o,.inr ⟨_,_,_,HR.o,rfl,p5+1,uZ,iL,rfl,l6.o,fun u hu j hj=>eO hz (su.o u hu j hj),j4.o⟩⟩
theorem Elem.kid:∃n,n≤100∧Elem Tryz.prog 49 3 1 n:=⟨8,by omega,Tryz.underlying49,⟨.int .i64 0,by kernel_rfl,rfl⟩,by decide⟩
theorem Own.kT {α : Type}{size:Nat}{E:Enc α size}{e:TypeId}{v:Value}{xs:List α}(h:Own E e w base v xs):∀g,v.ownBlock=Option.some g→base≤g∧g<w.heap.size∧∃cur,w.heap[g]? = Option.some (.cells cur e):=by
 intro g e;rcases h.2 with ⟨h1,_⟩|⟨g',cap,cur,h1,h2,h3,_⟩
 · rw[h1]at e;cases e
 · rw[h1]at e;injection e with e
   have e:g'=g:=e;subst e;exact⟨h2,(cu.1 h3).1,cur,h3⟩
theorem aR.kids (h:aR w b tv ts p deep nv vs){r:Option Nat}(hg:w.grownBy w' r)(hr:∀g,r=some g→b<g∧¬ zA w g∧∀v∈vs,v.dL.ownBlock≠some g):aR w' b tv ts p deep nv vs:=by
 have uO:=h.low;refine⟨?_, ?_,⟨h.nodes.1.keep ?_,fun v hv=>(h.nodes.2 v hv).keep ?_⟩, ?_,h.lt,h.low,h.fit,h.few,h.cnt,h.nest⟩
 · rw[hg.block b h.blt (by intro e;have:=(hr b e.symm).1;omega)];exact h.cell
 · obtain ⟨g,cap,h1,h2,h3⟩:=h.vD
   exact ⟨g,cap,h1,h2,h3.keep fun j _ hj e=>hg.block j hj (by
    intro e2;have:=(hr j e2.symm).1;rw[h1]at e;injection e with e;have:g=j:=e;omega)⟩
 · intro g h1 h2 h3
   exact hg.block g h2 (fun e=>(hr g e.symm).2.1 (h.row g h3).2)
 · intro g h1 h2 h3
   exact hg.block g h2 (fun e=>(hr g e.symm).2.2 v hv h3)
 · exact h.ops.keep (hg.block _ h.ops.lt (by intro e;have:=(hr _ e.symm).1;omega))
def uH (base:Nat)(name:ByteArray)(ns:List Nd)(ks:List Int)(r:List ai):Option fF :=
 if ay ⟨#[41]⟩ r=true then some (.ok (ns++[{ Nd.zero with kind:=7,text:=name,kids:=ks }],base+ns.length,r.tail))else some (.error 5)
def xK (f deep base:Nat)(name:ByteArray)(ts:List ai):Option fF :=
 if 12≤deep then some (.error 6)
 else fG (if ay ⟨#[41]⟩ ts.tail=true then some (.ok ([],[],ts.tail))else dY f (deep+1) base [] [] ts.tail) (uH base name)
theorem P5 (f:Nat)(name:ByteArray)(h:aR w b tv ts p deep nv vs)(hnx:p+1<ts.length)(res:fF)(az:xK f deep vs.length name (ts.drop p)=some res)(hd:12≤deep) :
 Calls Tryz.prog 154 #[.pointer (some ⟨b,0,none⟩),.string name] w (Out res w b tv ts deep vs):=by
 have HO:=ae (tL h hnx);unfold xK at az;rw[ah hd]at az;injection az with az;have HR:=ae az.symm;clear az h;go_enter Tryz.func154,Tryz.ntmps154;go_wp2_with (go_at_call 116;((with_reducible refine HO.o.mono ?_);rintro e w2 ⟨h1,⟨-,rfl⟩|⟨h2, -⟩⟩;rotate_left;exact absurd hd h2;have bO:=ae h1;clear h1))
 go_ret;exact Out.err HR.o (.inr rfl) bO.o
theorem PO {α β γ α' β' γ' δ : Type}(x:Option (Except Int (α × β × γ)))(k : α → β → γ → Option (Except Int (α' × β' × γ')))(K : α' → β' → γ'→Option (Except Int δ)):fG (fG x k) K=fG x fun a b c=>fG (k a b c) K:=by
 match x with
 | none=>rfl
 | some (.error e)=>rfl
 | some (.ok (a,b,c))=>rfl
theorem PZ (f:Nat)(IH:∀g,g≤f→r9 g)(name:ByteArray)(h:aR w b tv ts p deep nv vs)(hnx:p+1<ts.length)(res:fF)(az:xK f deep vs.length name (ts.drop p)=some res) :
 Calls Tryz.prog 154 #[.pointer (some ⟨b,0,none⟩),.string name] w (Out res w b tv ts deep vs):=by
 by_cases hd:12≤deep
 · exact P5 f name h hnx res az hd
 have HO:=ae (tL h hnx);unfold xK at az;rw[af hd,List.tail_drop]at az;have vM:=ae az;have uq:=ae IH;have hbl:=h.blt;obtain⟨eb,rG,bS⟩:=Elem.kid;have qQ:=ae bS;clear az h IH bS;go_enter Tryz.func154,Tryz.ntmps154
 go_upto_region 6 with (first
  | (go_at_call 116;((with_reducible refine HO.o.mono ?_);rintro e w2 ⟨h1,⟨h2, -⟩|⟨-,rfl,h3⟩⟩;exact absurd h2 hd;have bO:=ae h1;have l5:=ae h3;have HS2:=ae (uU h3 ⟨#[41]⟩);clear h1 h3))
  | (go_at_call 115;((with_reducible refine HS2.o.mono ?_);rintro e w3 ⟨rfl,h1⟩;have fE:=ae (bO.o.below h1);have fu:=ae (l5.o.below h1);clear h1)))
 go_loopw [6,7] (fun Ub mv wr=>∃(dL:Value)(more:Bool)(g:Nat)(ns:List Nd)(ks:List Int)(p':Nat)(di:Value)(us:List aO),dL=Ub∧mv = .bool more∧g≤f∧ks.length≤us.length∧us.length=ns.length ∧
  Hid ((more=true∧fG (dY g (deep+1) vs.length ns ks (ts.drop p')) (uH vs.length name)=some res)∨(more=false∧uH vs.length name ns ks (ts.drop p')=some res)) ∧
  Hid (us.map aO.n=ns)∧Hid (∀u∈us,∀j,u.dL.ownBlock=some j→w.heap.size≤j)∧Hid (∀u∈vs++us,∀j,u.dL.ownBlock=some j→dL.ownBlock≠some j) ∧
  Hid (Own (bK .i64) 3 wr w.heap.size dL ks)∧Hid (aR wr b tv ts p' (deep+1) di (vs++us))∧Hid (Fr w wr b))
  (fun _ _ wr=>qD b ts.length wr)
 case atStart =>
  have hr:=vM.o;refine⟨.slice none 0 0,_,f,[],[],p+1,nv,[],rfl,rfl,aj _,aj _,rfl, ?_,ae rfl,ae (by simp),ae (by intro u _ j _ e;cases e),ae (Own.nil _ _ _ _),by rw[bE];exact fu,fE⟩;refine ae ?_;cases hs:ay ⟨#[41]⟩ (ts.drop (p+1))
  · rw[hs,af (by decide)]at hr
    exact .inl ⟨rfl,hr⟩
  · rw[hs,ah rfl]at hr
    exact .inr ⟨rfl,hr⟩
 case round =>
  clear HO vM bO l5 HS2 fE fu;obtain⟨dL,more,g,ns,ks,p',di,us,rfl,rfl,hg,hkl,DZ,HM,HU,HK,HJ,nM,j5,HF⟩:=hrel;have Jo:=j5.o.few;have hlt:=j5.o.lt;have Jk:=j5.o.cnt;have hlen:(vs++us).length=vs.length+us.length:=ax;have xn:=ae (j5.o.qD ts.length);cases more
  · have hK : uH vs.length name ns ks (ts.drop p')=some res:=by
     rcases HM.o with ⟨h1,_⟩|⟨_,h1⟩
     · cases h1
     · exact h1
    unfold uH at hK;have HC:=ae (Lc j5.o);cases hs:ay ⟨#[41]⟩ (ts.drop p')
    · rw[hs,af (by decide)]at hK
      injection hK with hK;have HR:=ae hK.symm;rw[hs]at HC;clear hK hs HM;go_wp2_with (go_at_call 155;((with_reducible refine HC.o.mono ?_);rintro e w6 ⟨h1,⟨-,rfl⟩|⟨h2, -⟩⟩;rotate_left;cases h2;have gB:=ae (HF.o.trans h1);clear h1))
      go_ret;exact Out.err HR.o (.inl rfl) gB.o
    · rw [hs,ah rfl,List.tail_drop]at hK
      injection hK with hK;have HR:=ae hK.symm;rw[hs]at HC;clear hK hs HM
      obtain ⟨v,tq,hvk⟩:∃v:aO,v.n={ Nd.zero with kind:=7,text:=name,kids:=ks }∧v.dL=dL:=by
       rcases nM.o.shape with ⟨rfl,rfl⟩|⟨g1,cap,rfl,_⟩
       · exact⟨⟨_,none⟩,rfl,rfl⟩
       · exact⟨⟨_,some (g1,cap)⟩,rfl,rfl⟩
      have qi:=ae tq;have Co:=ae hvk;clear tq hvk
      have Dx:(∃g1 n1 cap,dL = .slice (some ⟨g1,0,none⟩) n1 cap)∨dL = .slice none 0 0:=by
       rcases nM.o.shape with ⟨h1,_⟩|⟨g1,cap,h1,_⟩
       · exact .inr h1
       · exact .inl ⟨g1,_,cap,h1⟩
      rcases Dx with ⟨g1,n1,cap,rfl⟩|rfl
      all_goals
       go_upto_region 15 with (go_at_call 155;((with_reducible refine HC.o.mono ?_);rintro e w6 ⟨h1,⟨h2, -⟩|⟨-,rfl,h3⟩⟩;cases h2;have gB:=ae (HF.o.trans h1);have NY:=ae (nM.o.fr h1 hbl (by decide));have j4:=ae h3;clear h1 h3))
       have HA:=ae (show Calls Tryz.prog 117 #[.pointer (some ⟨b,0,none⟩),.agg #[.int .i64 7,.int .i64 0,.string name,.string ⟨#[]⟩,.int .i64 0,.int .i64 0,.bool false,.bool false,.string ⟨#[]⟩,.int .i64 0,.int .i64 0,.bool false,.bool false,_]] w6 _ from xG j4.o v (by rw[Co.o,qi.o];exact NY.o.mono (by omega)) (by omega) _ Co.o { Nd.zero with kind:=7,text:=name,kids:=ks } qi.o);go_wp2_with (go_at_call 117;((with_reducible refine HA.o.mono ?_);rintro e w7 ⟨h1,rfl,Er,h3⟩;have iT:=ae (gB.o.trans h1);have fw:=ae h3;clear h1 h3))
       go_ret;refine⟨iT.o,.inr ⟨_,_,_,HR.o,rfl,p'+1,Er,us++[v],rfl, ?_, ?_,by rw[← bD];exact fw.o⟩⟩
       · rw[gW,HU.o,fP,List.map_nil,qi.o]
       · intro u hu j hj
         rcases eG.1 hu with hu|hu
         · exact HK.o u hu j hj
         · rw[gX.1 hu,Co.o]at hj
           exact(nM.o.kT j hj).1
  · have hA:fG (dY g (deep+1) vs.length ns ks (ts.drop p')) (uH vs.length name)=some res:=by
     rcases HM.o with ⟨_,h1⟩|⟨h1,_⟩
     · exact h1
     · cases h1
    match g,hg,hA with
    | 0,_,hA=>unfold dY fG at hA;cases hA
    | g+1,hg,hA =>
    rw[qm,PO]at hA;have dF:vs.length+ns.length=(vs++us).length:=by rw[hlen,DZ]
    rw[dF]at hA;rcases bY hA with ⟨c,h1,rfl⟩|⟨ms,a,r,h1,h2⟩
    · have HL:=ae (show Calls Tryz.prog 66 #[.pointer (some ⟨b,0,none⟩),.int .i64 0] wr (Out (.error c) wr b tv ts (deep+1) (vs++us))from uq.o g (by omega) 0 (deep+1) _ wr b tv ts p' di (vs++us) (by omega) j5.o h1)
      clear h1 hA HM;go_wp2_with (go_at_call 66;((with_reducible refine HL.o.mono ?_);intro e w5 ho;obtain⟨hf,hc,rfl⟩:=ho.bad rfl;have bT:=ae (HF.o.trans hf);have HC:=ae hc;have hc0:(c != 0)=true:=(by rw[bne_iff_ne];rcases hc with h|h <;> omega);clear hf hc ho))
      go_ret;exact Out.err rfl HC.o bT.o
    · have HL:=ae (show Calls Tryz.prog 66 #[.pointer (some ⟨b,0,none⟩),.int .i64 0] wr (Out (.ok (ms,a,r)) wr b tv ts (deep+1) (vs++us))from uq.o g (by omega) 0 (deep+1) _ wr b tv ts p' di (vs++us) (by omega) j5.o h1)
      have H1:=ae h1;have H2:=ae h2;clear h1 h2 hA HM;go_upto_region 11 with (go_at_call 66;((with_reducible refine HL.o.mono ?_);intro e w5 ho;obtain⟨hf,rfl,p5,uZ,iL,mq,mD,hk5,mr⟩:=ho.vW rfl;have bT:=ae (HF.o.trans hf);have BR:=ae (nM.o.fr hf hbl (by decide));have gZ:=ae mr;have HD5:=ae mq;have l6:=ae mD;have su:=ae hk5;clear hf ho mq mD hk5 mr))
      obtain⟨hc1,hc2,hc3⟩:=zS H1.o HD5.o gZ.o.lt;have JM:iL.length=ms.length:=by rw[← l6.o,dQ]
      have Jr:((vs++us)++iL).length=vs.length+us.length+iL.length:=by rw[ax,ax]
      have zo:=ae (AR gZ.o a (by omega));have Tc:=bT.o.size;have OO:=ae HF.o.size
      have BH:=ae (show ∀u∈(vs++us)++iL,∀j,u.dL.ownBlock=some j→dL.ownBlock≠some j from by
       intro u hu j hj;rcases eG.1 hu with hu|hu
       · exact HJ.o u hu j hj
       · intro e
         have h3:=su.o u hu j hj;have h4:=(nM.o.kT j e).2.1;omega)
      clear HL nM HJ
      go_upto_region 7 with (first
       | (go_at_call 118;((with_reducible refine zo.o.mono ?_);rintro e wn ⟨rfl,rfl⟩))
       | (at_builtin;refine Fw qQ.o (bK .i64) rfl (.tmp 26) (.tmp 29) rfl w.heap.size dL ks rfl (BR.o.alloc _) ⟨w5.heap.size,0,none⟩ 1 1 [(a:Int)] rfl rfl ?_ ?_ ?_ ?_ ?_;exact iH _ _ _ rfl;exact eO (Nat.mul_le_mul_left _ rG) (by omega);(unfold maxLen;omega);(simp <;> omega);intro uX w6 h1 h2 h3;have gY:=ae h1;have BB:=ae h2;have HAT:=ae h3;clear h1 h2 h3))
      have nY:Below w5.heap.size w5 (w5.alloc (.cells #[.int .i64 (a:Int)] 3)):=(ak _ _).alloc (aj _) _;have Df:=BR.o.alloc (.cells #[.int .i64 (a:Int)] 3)
      have j4:=ae ((gZ.o.below nY).kids BB.o (by
       intro j e;obtain⟨q1,q2,cur,q3⟩:=Df.kT j e;refine⟨by omega, ?_,fun u hu e2=>BH.o u hu j e2 e⟩;rintro⟨aaq,fr,e2⟩;rw[q3]at e2;injection e2 with e2;injection e2 with _ e2;exact absurd e2 (by decide)))
      have gB:=ae ((bT.o.below nY).row BB.o (by
       intro j e;obtain⟨q1,q2,cur,q3⟩:=Df.kT j e;exact⟨by omega,.inl q1⟩))
      have FZ:=ae (show ∀u∈(vs++us)++iL,∀j,u.dL.ownBlock=some j→uX.ownBlock≠some j from by
       intro u hu j hj;rcases HAT.o with e|e
       · rw[e];exact BH.o u hu j hj
       · rw[e]
         have h4:=((gZ.o.nodes.2 u hu).kT j hj).2.1;intro e2;injection e2 with e2;simp at e2;omega)
      have zw:=ae (Ew j4.o ⟨#[44]⟩);have h2:=H2.o;rw[← HD5.o]at h2;clear nY Df BB HAT BH BR HF j5 H2 zo
      have Jd:∀u∈us++iL,∀j,u.dL.ownBlock=some j→w.heap.size≤j:=by
       intro u hu j hj;rcases eG.1 hu with hu|hu
       · exact HK.o u hu j hj
       · exact eO OO.o (su.o u hu j hj)
      have F3:=ae Jd;clear Jd;cases hs:ay ⟨#[44]⟩ (ts.drop p5)
      · rw [hs,af (by decide)]at h2
        have HN:=ae (show uH vs.length name (ns++ms) (ks++[(a:Int)]) (ts.drop p5)=some res from h2);rw[hs,af (by decide)]at zw;clear h2 hs;go_wp2_with (go_at_call 152;((with_reducible refine zw.o.mono ?_);rintro e w7 ⟨h1,rfl,h3⟩;have iT:=ae (gB.o.trans h1);have oQ:=ae (gY.o.fr h1 hbl (by decide));have fw:=ae h3;clear h1 h3))
        go_roundw
        case rel =>
         refine⟨uX,false,g,ns++ms,ks++[(a:Int)],p5,uZ,us++iL,rfl,rfl,by omega,by rw[ax,ax,gu];omega,by rw[ax,ax];omega,ae (.inr ⟨rfl,HN.o⟩),ae (by rw[gW,HU.o,l6.o]),F3, ?_,oQ, ?_,iT⟩
         · rw[← bD];exact FZ
         · rw[← bD];exact fw
        case measure =>
         have h1:=fw.o.qD ts.length;rw[xn.o,h1];omega
      · rw [hs,ah rfl,List.tail_drop]at h2
        have HN:=ae h2;have aaP:=vz j4.o hs;rw[hs,ah rfl]at zw;clear h2 hs;go_wp2_with (go_at_call 152;((with_reducible refine zw.o.mono ?_);rintro e w7 ⟨h1,rfl,h3⟩;have iT:=ae (gB.o.trans h1);have oQ:=ae (gY.o.fr h1 hbl (by decide));have fw:=ae h3;clear h1 h3))
        go_roundw
        case rel =>
         refine⟨uX,true,g,ns++ms,ks++[(a:Int)],p5+1,uZ,us++iL,rfl,rfl,by omega,by rw[ax,ax,gu];omega,by rw[ax,ax];omega,ae (.inl ⟨rfl,HN.o⟩),ae (by rw[gW,HU.o,l6.o]),F3, ?_,oQ, ?_,iT⟩
         · rw[← bD];exact FZ
         · rw[← bD];exact fw
        case measure =>
         have h1:=fw.o.qD ts.length;rw[xn.o,h1];omega
def M9 (f deep base:Nat)(name:ByteArray)(ts:List ai):Option fF :=
 if name=⟨#[84,82,85,69]⟩then some (.ok ([{ Nd.zero with kind:=3,num:=1 }],base,ts))
 else if name=⟨#[70,65,76,83,69]⟩then some (.ok ([{ Nd.zero with kind:=3 }],base,ts))
 else if ay ⟨#[40]⟩ ts=true then xK f deep base name ts else some (.error 5)
theorem Bh (name c:ByteArray):(name.toList == c.toList)=decide (name=c):=by
 by_cases h:name=c
 · rw[h,aL rfl];simp
 · rw[aK h];exact aB.2 (yI _ _ h)
theorem Ku:(⟨#[84,82,85,69]⟩:ByteArray).toList=[84,82,85,69]:=by rw[rP]
theorem Kt:(⟨#[70,65,76,83,69]⟩:ByteArray).toList=[70,65,76,83,69]:=by rw[rP]
theorem WS (f:Nat)(IH:∀g,g≤f→r9 g)(name:ByteArray)(h:aR w b tv ts p deep nv vs)(hnx:p+1<ts.length)(res:fF)(az:M9 f deep vs.length name (ts.drop (p+1))=some res) :
 Calls Tryz.prog 121 #[.pointer (some ⟨b,0,none⟩),.string name] w (Out res w b tv ts deep vs):=by
 unfold M9 at az;have q1:=Bh name ⟨#[84,82,85,69]⟩;have q2:=Bh name ⟨#[70,65,76,83,69]⟩;rw[Ku]at q1;rw[Kt]at q2;by_cases h1:name=⟨#[84,82,85,69]⟩
 · rw[aL h1]at q1
   rw[ah h1]at az;injection az with az;have HR:=ae az.symm;have HA:=ae (show Calls Tryz.prog 119 #[.pointer (some ⟨b,0,none⟩),.agg #[.int .i64 3,.int .i64 1,.string ⟨#[]⟩,.string ⟨#[]⟩,.int .i64 0,.int .i64 0,.bool false,.bool false,.string ⟨#[]⟩,.int .i64 0,.int .i64 0,.bool false,.bool false,.slice none 0 0]] w _ from wz h hnx { Nd.zero with kind:=3,num:=1 } rfl);clear az h h1 q2;go_enter Tryz.func121,Tryz.ntmps121;go_wp2_with (go_at_call 119;((with_reducible refine HA.o.mono ?_);rintro e w7 ⟨h1,rfl,di,h3⟩;have iT:=ae h1;have fw:=ae h3;clear h1 h3))
   go_ret;exact Out.leaf HR.o iT.o rfl fw.o
 rw[aK h1]at q1;rw[af h1]at az;by_cases h2:name=⟨#[70,65,76,83,69]⟩
 · rw[aL h2]at q2
   rw[ah h2]at az;injection az with az;have HR:=ae az.symm;have HA:=ae (show Calls Tryz.prog 119 #[.pointer (some ⟨b,0,none⟩),.agg #[.int .i64 3,.int .i64 0,.string ⟨#[]⟩,.string ⟨#[]⟩,.int .i64 0,.int .i64 0,.bool false,.bool false,.string ⟨#[]⟩,.int .i64 0,.int .i64 0,.bool false,.bool false,.slice none 0 0]] w _ from wz h hnx { Nd.zero with kind:=3 } rfl);clear az h h1 h2;go_enter Tryz.func121,Tryz.ntmps121;go_wp2_with (go_at_call 119;((with_reducible refine HA.o.mono ?_);rintro e w7 ⟨h1,rfl,di,h3⟩;have iT:=ae h1;have fw:=ae h3;clear h1 h3))
   go_ret;exact Out.leaf HR.o iT.o rfl fw.o
 rw[aK h2]at q2;rw[af h2]at az;obtain⟨c0,c1,c2,c3⟩:=h.facts;have f1:=h.frozen 1;have Jo:=h.few;have HP:=ae h;clear c0 c2 c3 h1 h2 h;have bW:=ae (HP.o.next hnx);have jC:=ae ((Fr.refl w b).setCell 1 (.int .i64 ((p:Int)+1)));cases hs:ay ⟨#[40]⟩ (ts.drop (p+1))
 · rw[hs,af (by decide)]at az
   injection az with az;have HR:=ae az.symm;have HS:=uU bW.o ⟨#[40]⟩;rw[hs]at HS;have HS:=ae HS;clear az hs;go_enter Tryz.func121,Tryz.ntmps121;go_upto_region 7 with (fail)
   generalize w.setCell ⟨b,1,none⟩ (.int .i64 ((p:Int)+1))=w1 at bW jC HS ⊢;go_wp2_with (go_at_call 115;((with_reducible refine HS.o.mono ?_);rintro e w2 ⟨rfl,h1⟩;have bO:=ae (jC.o.below h1);clear h1))
   go_ret;exact Out.err HR.o (.inl rfl) bO.o
 · rw [hs,ah rfl]at az
   have vM:=ae az;have SL:=vz bW.o hs;have HS:=uU bW.o ⟨#[40]⟩;rw[hs]at HS;have HS:=ae HS;have uq:=ae IH;clear az hs IH;go_enter Tryz.func121,Tryz.ntmps121;go_upto_region 7 with (fail)
   generalize w.setCell ⟨b,1,none⟩ (.int .i64 ((p:Int)+1))=w1 at bW jC HS ⊢
   go_wp2_with (first
    | (go_at_call 115;((with_reducible refine HS.o.mono ?_);rintro e w2 ⟨rfl,h1⟩;have bO:=ae (jC.o.below h1);have Ny:=ae (PZ f uq.o name (bW.o.below h1) SL res vM.o);clear h1))
    | (go_at_call 154;((with_reducible refine Ny.o.mono ?_);intro e w3 ho;have qX:=ae ho;obtain⟨c,rfl⟩:=ho.ret;clear ho)))
   go_ret;obtain⟨hf,h2⟩:=qX.o;refine⟨bO.o.trans hf,h2.imp id ?_⟩;rintro⟨ms,a,r,g1,g2,p',di,us,g3,g4,g5,g6⟩;exact⟨ms,a,r,g1,g2,p',di,us,g3,g4,fun u hu j hj=>eO bO.o.size (g5 u hu j hj),g6⟩
theorem Out.from {w2 w3:World}(hf:Fr w w2 b)(h:Out res w2 b tv ts deep vs e w3):Out res w b tv ts deep vs e w3:=by
 refine⟨hf.trans h.1,h.2.imp id ?_⟩;rintro⟨ms,a,r,g1,g2,p',di,us,g3,g4,g5,g6⟩;exact⟨ms,a,r,g1,g2,p',di,us,g3,g4,fun u hu j hj=>eO hf.size (g5 u hu j hj),g6⟩
theorem yG {t:ai}(h:¬ t.kind=5):ay s (t :: ts)=false:=by
 show(decide (t.kind=5)&&decide (t.text=s))=false;rw[aK h];rfl
theorem WE (f:Nat)(IH:∀g,g≤f→r9 g)(h:aR w b tv ts p deep nv vs)(res:fF)(az:gJ (f+1) deep vs.length (ts.drop p)=some res) :
 Calls Tryz.prog 90 #[.pointer (some ⟨b,0,none⟩)] w (Out res w b tv ts deep vs):=by
 obtain⟨g,cap,t, -,ht,hd, -⟩:=h.tok;have cO:=ae (AJ h t ht);have HP:=ae h;have hbl:=h.blt;rw[hd,kL]at az;go_enter Tryz.func90,Tryz.ntmps90;go_upto_region 2 with (go_at_call 67;((with_reducible refine cO.o.mono ?_);rintro e w1 ⟨rfl,h1⟩;have HB:=ae h1;clear h1))
 have hB3:Below w1.heap.size w1 (w1.alloc (.cells #[.int .i64 t.kind,.string t.text,.int .i64 t.num,.string t.sh,.int .i64 t.c,.int .i64 t.r,.bool t.ac,.bool t.ar,.int .i64 t.pos] 130)):=(ak _ _).alloc (aj _) _;have bf:aC (w1.alloc (.cells #[.int .i64 t.kind,.string t.text,.int .i64 t.num,.string t.sh,.int .i64 t.c,.int .i64 t.r,.bool t.ac,.bool t.ar,.int .i64 t.pos] 130)) w1.heap.size t:=aC.new w1 t;have HB3:=ae (HB.o.trans (hB3.mono HB.o.size));clear hB3 HB;generalize hb4:w1.heap.size=b4 at bf ⊢;generalize w1.alloc (.cells #[.int .i64 t.kind,.string t.text,.int .i64 t.num,.string t.sh,.int .i64 t.c,.int .i64 t.r,.bool t.ac,.bool t.ar,.int .i64 t.pos] 130)=w3 at bf HB3 ⊢;clear hb4 cO;obtain⟨x0,x1,x2,x3,x4,x5,x6,x7,aY⟩:=bf.cells;clear bf;have fu:=ae (HP.o.below HB3.o);have fE:=ae (Fr.of b HB3.o);obtain⟨kd,hkd⟩:∃kd,t.kind=kd:=⟨_,rfl⟩;by_cases k1:t.kind=1
 · have hnx:=h.fit.next ht (by omega)
   rw[yG (by omega),af (by decide),ah k1]at az;injection az with az;have HR:=ae az.symm;have HA:=ae (show Calls Tryz.prog 119 #[.pointer (some ⟨b,0,none⟩),.agg #[.int .i64 1,.int .i64 t.num,.string ⟨#[]⟩,.string ⟨#[]⟩,.int .i64 0,.int .i64 0,.bool false,.bool false,.string ⟨#[]⟩,.int .i64 0,.int .i64 0,.bool false,.bool false,.slice none 0 0]] w3 _ from wz fu.o hnx { Nd.zero with kind:=1,num:=t.num } rfl);have e1:(kd == 1)=true:=bI.2 (by omega);rw[hkd]at x0;clear az hd ht k1 hkd h;go_wp2_with (go_at_call 119;((with_reducible refine HA.o.mono ?_);rintro e w7 ⟨h1,rfl,di,h3⟩;have iT:=ae (fE.o.trans h1);have fw:=ae h3;clear h1 h3))
   go_ret;exact Out.leaf HR.o iT.o rfl fw.o
 have e1:(kd == 1)=false:=aB.2 (by omega);by_cases k2:t.kind=2
 · have hnx:=h.fit.next ht (by omega)
   rw[yG (by omega),af (by decide),af k1,ah k2]at az;injection az with az;have HR:=ae az.symm;have HA:=ae (show Calls Tryz.prog 119 #[.pointer (some ⟨b,0,none⟩),.agg #[.int .i64 2,.int .i64 0,.string t.text,.string ⟨#[]⟩,.int .i64 0,.int .i64 0,.bool false,.bool false,.string ⟨#[]⟩,.int .i64 0,.int .i64 0,.bool false,.bool false,.slice none 0 0]] w3 _ from wz fu.o hnx { Nd.zero with kind:=2,text:=t.text } rfl);have e2:(kd == 2)=true:=bI.2 (by omega);rw[hkd]at x0;clear az hd ht k1 k2 hkd h;go_wp2_with (go_at_call 119;((with_reducible refine HA.o.mono ?_);rintro e w7 ⟨h1,rfl,di,h3⟩;have iT:=ae (fE.o.trans h1);have fw:=ae h3;clear h1 h3))
   go_ret;exact Out.leaf HR.o iT.o rfl fw.o
 have e2:(kd == 2)=false:=aB.2 (by omega);by_cases k6:t.kind=6
 · have hnx:=h.fit.next ht (by omega)
   rw[yG (by omega),af (by decide),af k1,af k2,ah k6]at az;injection az with az;have HR:=ae az.symm;have HA:=ae (show Calls Tryz.prog 119 #[.pointer (some ⟨b,0,none⟩),.agg #[.int .i64 4,.int .i64 0,.string ⟨#[]⟩,.string ⟨#[]⟩,.int .i64 0,.int .i64 0,.bool false,.bool false,.string ⟨#[]⟩,.int .i64 0,.int .i64 0,.bool false,.bool false,.slice none 0 0]] w3 _ from wz fu.o hnx { Nd.zero with kind:=4 } rfl);have e6:(kd == 6)=true:=bI.2 (by omega);rw[hkd]at x0;clear az hd ht k1 k2 k6 hkd h;go_wp2_with (go_at_call 119;((with_reducible refine HA.o.mono ?_);rintro e w7 ⟨h1,rfl,di,h3⟩;have iT:=ae (fE.o.trans h1);have fw:=ae h3;clear h1 h3))
   go_ret;exact Out.leaf HR.o iT.o rfl fw.o
 have e6:(kd == 6)=false:=aB.2 (by omega);by_cases k4:t.kind=4
 · have hnx:=h.fit.next ht (by omega)
   rw[yG (by omega),af (by decide),af k1,af k2,af k6,ah k4]at az;injection az with az;have HA:=ae (Wv fu.o t hnx vs.length);rw[az]at HA;have e4:(kd == 4)=true:=bI.2 (by omega);rw[hkd]at x0;clear az hd ht k1 k2 k6 k4 hkd h;go_wp2_with (go_at_call 120;((with_reducible refine HA.o.mono ?_);intro e w7 ho;have qX:=ae (Out.from fE.o ho);obtain⟨c,rfl⟩:=ho.ret;clear ho))
   go_ret;exact qX.o
 have e4:(kd == 4)=false:=aB.2 (by omega);by_cases k3:t.kind=3
 · have hnx:=h.fit.next ht (by omega)
   rw[yG (by omega),af (by decide),af k1,af k2,af k6,af k4,ah k3]at az;have HA:=ae (WS f IH t.text fu.o hnx res az);have e3:(kd == 3)=true:=bI.2 (by omega);rw[hkd]at x0;clear az hd ht k1 k2 k6 k4 k3 hkd h IH;go_wp2_with (go_at_call 121;((with_reducible refine HA.o.mono ?_);intro e w7 ho;have qX:=ae (Out.from fE.o ho);obtain⟨c,rfl⟩:=ho.ret;clear ho))
   go_ret;exact qX.o
 have e3:(kd == 3)=false:=aB.2 (by omega)
 have hb:zM f deep vs.length (ts.drop p)=some res:=by
  unfold zM;rw[hd];by_cases c:ay ⟨#[40]⟩ (t :: ts.drop (p+1))=true
  · rw[ah c]at az ⊢;exact az
  · rw[af c,af k1,af k2,af k6,af k4,af k3]at az
    rw[af c];exact az
 have HA:=ae (Tq f (IH f (aj _)) fu.o res hb);rw[hkd]at x0;clear az hd ht k1 k2 k6 k4 k3 hkd h IH hb;go_wp2_with (go_at_call 122;((with_reducible refine HA.o.mono ?_);intro e w7 ho;have qX:=ae (Out.from fE.o ho);obtain⟨c,rfl⟩:=ho.ret;clear ho))
 go_ret;exact qX.o
theorem ZG (f:Nat)(IH:∀g,g≤f→r9 g)(h:aR w b tv ts p deep nv vs)(res:fF)(az:dw (f+1) 4 deep vs.length (ts.drop p)=some res) :
 Calls Tryz.prog 89 #[.pointer (some ⟨b,0,none⟩)] w (Out res w b tv ts deep vs):=by
 have HS:=ae (uU h ⟨#[45]⟩);rw[nV,af (by omega)]at az;have HP:=ae h;cases hq:ay ⟨#[45]⟩ (ts.drop p)
 · rw [hq,af (by decide)]at az
   rw[hq]at HS
   match f,IH,az with
   | 0,_,az=>unfold gJ at az;cases az
   | f+1,IH,az =>
   have HL:=ae (fun w1 (hb:Below w.heap.size w w1)=>Ec b 5 (by omega) w1 (Out res w b tv ts deep vs) (fun e w' ho=>ho.ret) (fun w2 hb2=>by
    rw[UT];exact(WE f (fun g hg=>IH g (by omega)) (HP.o.below (hb.trans (hb2.mono hb.size))) res az).mono fun e w3 ho=>Out.from (Fr.of b (hb.trans (hb2.mono hb.size))) ho))
   clear hq az h IH;go_enter Tryz.func89,Tryz.ntmps89
   go_wp2_with (first
    | (go_at_call 115;((with_reducible refine HS.o.mono ?_);rintro e w1 ⟨rfl,h1⟩;have zf:=ae (show Calls Tryz.prog 66 #[.pointer (some ⟨b,0,none⟩),.int .i64 5] w1 (Out res w b tv ts deep vs)from HL.o w1 h1);clear h1))
    | (go_at_call 66;((with_reducible refine zf.o.mono ?_);intro e w2 ho;have qX:=ae ho;obtain⟨c,rfl⟩:=ho.ret;clear ho)))
   go_ret;exact qX.o
 · have hnx := vz h hq
   rw[hq,ah rfl]at az;rw[hq]at HS;by_cases hd:12≤deep
   · rw [ah hd]at az
     injection az with az;have HR:=ae az.symm;clear hq az h IH;go_enter Tryz.func89,Tryz.ntmps89
     go_wp2_with (first
      | (go_at_call 115;((with_reducible refine HS.o.mono ?_);rintro e w1 ⟨rfl,h1⟩;have jC:=ae (Fr.of b h1);have eQ:=ae (tL (HP.o.below h1) hnx);clear h1))
      | (go_at_call 116;((with_reducible refine eQ.o.mono ?_);rintro e w2 ⟨h1,⟨-,rfl⟩|⟨h2, -⟩⟩;rotate_left;exact absurd hd h2;have bO:=ae (jC.o.trans h1);clear h1)))
     go_ret;exact Out.err HR.o (.inr rfl) bO.o
   · rw [af hd,List.tail_drop]at az
     rcases bY az with ⟨c,h1,rfl⟩|⟨ns,a,r,h1,h2⟩
     · have HI:=ae (fun w2 hps=>IH f (aj _) 4 (deep+1) _ w2 b tv ts (p+1) nv vs (by omega) hps h1)
       clear hq az h IH h1;go_enter Tryz.func89,Tryz.ntmps89
       go_wp2_with (first
        | (go_at_call 115;((with_reducible refine HS.o.mono ?_);rintro e w1 ⟨rfl,h1⟩;have jC:=ae (Fr.of b h1);have eQ:=ae (tL (HP.o.below h1) hnx);clear h1))
        | (go_at_call 116;((with_reducible refine eQ.o.mono ?_);rintro e w2 ⟨h1,⟨h2, -⟩|⟨-,rfl,h3⟩⟩;exact absurd h2 hd;have bO:=ae (jC.o.trans h1);have HL:=ae (show Calls Tryz.prog 66 #[.pointer (some ⟨b,0,none⟩),.int .i64 4] w2 (Out (.error c) w2 b tv ts (deep+1) vs)from HI.o w2 h3);clear h1 h3))
        | (go_at_call 66;((with_reducible refine HL.o.mono ?_);intro e w5 ho;obtain⟨hf,hc,rfl⟩:=ho.bad rfl;have bT:=ae (bO.o.trans hf);have HC:=ae hc;have hc0:(c != 0)=true:=(by rw[bne_iff_ne];rcases hc with h|h <;> omega);clear hf hc ho)))
       go_ret;exact Out.err rfl HC.o bT.o
     · have HI:=ae (fun w2 hps=>IH f (aj _) 4 (deep+1) _ w2 b tv ts (p+1) nv vs (by omega) hps h1)
       have H1:=ae h1;injection h2 with h2;have HR:=ae h2.symm;have hcn:=h.cnt;have SI:deep≤12:=by omega
       clear hq az h IH h1 h2;go_enter Tryz.func89,Tryz.ntmps89
       go_upto_region 9 with (first
        | (go_at_call 115;((with_reducible refine HS.o.mono ?_);rintro e w1 ⟨rfl,h1⟩;have jC:=ae (Fr.of b h1);have eQ:=ae (tL (HP.o.below h1) hnx);clear h1))
        | (go_at_call 116;((with_reducible refine eQ.o.mono ?_);rintro e w2 ⟨h1,⟨h2, -⟩|⟨-,rfl,h3⟩⟩;exact absurd h2 hd;have bO:=ae (jC.o.trans h1);have HL:=ae (show Calls Tryz.prog 66 #[.pointer (some ⟨b,0,none⟩),.int .i64 4] w2 (Out (.ok (ns,a,r)) w2 b tv ts (deep+1) vs)from HI.o w2 h3);clear h1 h3))
        | (go_at_call 66;((with_reducible refine HL.o.mono ?_);intro e w5 ho;obtain⟨hf,rfl,p5,uZ,iL,mq,mD,hk5,mr⟩:=ho.vW rfl;have bT:=ae (bO.o.trans hf);have gZ:=ae mr;have HD5:=ae mq;have l6:=ae mD;have su:=ae hk5;clear hf ho mq mD hk5 mr)))
       have hz:=bO.o.size;obtain⟨c0,c1,c2,c3⟩:=gZ.o.facts;have f2:=gZ.o.frozen 2;rw[show((deep+1:Nat):Int)=(deep:Int)+1 from rfl]at c2;clear c0 c1 c3;go_upto_region 10 with (fail)
       have j4:=ae (gZ.o.EL deep SI);have gB:=ae (bT.o.setCell 2 (.int .i64 (deep:Int)));have nO:=ae (show(w5.setCell ⟨b,2,none⟩ (.int .i64 (deep:Int))).heap.size=w5.heap.size by simp);obtain⟨hc1,hc2,hc3⟩:=zS H1.o HD5.o gZ.o.lt;have aaD:=bT.o.size;clear c2 f2 gZ bT HL;generalize w5.setCell ⟨b,2,none⟩ (.int .i64 (deep:Int))=w6 at j4 gB nO ⊢;have JM:iL.length=ns.length:=by rw[← l6.o,dQ]
       have Jr:(vs++iL).length=vs.length+iL.length:=ax;have Oj:=ae (AR j4.o a (by omega));have hbl:=j4.o.blt;have Dc:Below w6.heap.size w6 (w6.alloc (.cells #[.int .i64 (a:Int)] 3)):=(ak _ _).alloc (aj _) _;have fw:=ae (j4.o.below Dc);have iT:=ae (gB.o.below Dc);have HA:=ae (show Calls Tryz.prog 117 #[.pointer (some ⟨b,0,none⟩),.agg #[.int .i64 8,.int .i64 0,.string ⟨#[]⟩,.string ⟨#[]⟩,.int .i64 0,.int .i64 0,.bool false,.bool false,.string ⟨#[]⟩,.int .i64 0,.int .i64 0,.bool false,.bool false,.slice (some ⟨w6.heap.size,0,none⟩) 1 1]] (w6.alloc (.cells #[.int .i64 (a:Int)] 3)) _ from xG fw.o ⟨{ Nd.zero with kind:=8,kids:=[(a:Int)] },some (w6.heap.size,1)⟩ (Wm w6 (b+1) (a:Int) (by omega)) (by omega) (.slice (some ⟨w6.heap.size,0,none⟩) 1 1) rfl { Nd.zero with kind:=8,kids:=[(a:Int)] } rfl);clear Dc
       go_wp2_with (first
        | (go_at_call 118;((with_reducible refine Oj.o.mono ?_);rintro e wn ⟨rfl,rfl⟩))
        | (go_at_call 117;((with_reducible refine HA.o.mono ?_);rintro e w8 ⟨h1,rfl,VK,h3⟩;have NF:=ae (iT.o.trans h1);have iV:=ae h3;clear h1 h3)))
       go_ret;refine⟨NF.o,.inr ⟨_,_,_,HR.o,rfl,p5,VK,iL++[⟨{ Nd.zero with kind:=8,kids:=[(a:Int)] },some (w6.heap.size,1)⟩],HD5.o, ?_, ?_,by rw[← bD];exact iV.o⟩⟩
       · rw[gW,l6.o];rfl
       · intro u hu j hj
         rcases eG.1 hu with hu|hu
         · exact eO hz (su.o u hu j hj)
         · rw[gX.1 hu]at hj
           have hj:some w6.heap.size=some j:=hj;injection hj with hj;have:=nO.o;omega
theorem IJ:∀F:Nat,r9 F:=by
 intro F
 induction F using Nat.strongRecOn with
 | _ F ih =>
   intro n deep res w b tv ts p nv vs hn h az
   match F,ih,az with
   | 0,_,az=>unfold dw at az;cases az
   | f+1,ih,az =>
   have IH:∀g,g≤f→r9 g:=fun g hg=>ih g (by omega)
   by_cases h3:n≤3
   · rw[nV,ah h3]at az
     exact UB b w _ (fun e w' ho=>ho.ret) n h3 fun w' hb=>(XH f IH n h3 (h.below hb) res az).mono fun e w'' ho=>Out.from (Fr.of b hb) ho
   · have e4:n=4:=by omega
     subst e4;refine Ec b 4 (by omega) w _ (fun e w' ho=>ho.ret) fun w' hb => ?_
     rw[UR];exact(ZG f IH (h.below hb) res az).mono fun e w'' ho=>Out.from (Fr.of b hb) ho
def vS:Nat→Nat→List ai→Prop
 | p,q,[]=>p≤q
 | p,q,t :: ts=>∃m:Nat,t.pos=(m:Int)∧p≤m∧m≤q∧vS m q ts
theorem vS.less {q:Nat}(h:p'≤p):∀ {ts:List ai},vS p q ts→vS p' q ts
 | [],k=>eO h k
 | _ :: _,⟨m,h1,h2,h3,h4⟩=>⟨m,h1,eO h h2,h3,h4⟩
theorem Kk:∀(f p:Nat)(l:List Int)(ts:List ai),bU f p l=some ts→vS p (p+l.length) ts
 | f,p,[],ts,h=>by
   have h0:bU f p []=some [ai.zero.goto p]:=by unfold bU;rfl
   rw[h0]at h;injection h with h;subst h;exact⟨p,rfl,aj _,by simp,by simp[vS]⟩
 | 0,_,_ :: _,_,h=>by unfold bU at h;cases h
 | f + 1,p,x :: l,ts,h=>by
   rw[nk]at h;by_cases hx:x=32
   · rw[ah hx]at h
     have:=Kk f (p+1) l ts h;rw[show p+1+l.length=p+(x :: l).length by simp only[aN];omega]at this;exact this.less (Nat.le_succ _)
   · rw [af hx]at h
     cases hq:cK (x :: l)with
     | none=>rw[hq]at h;cases h
     | some q =>
       obtain⟨t0,n⟩:=q;have hn:=nE _ _ _ hq;rw[hq]at h;simp only[Option.map_eq_some_iff]at h;obtain⟨us,h1,rfl⟩:=h;have:=Kk f (p+n) ((x :: l).drop n) us h1;rw[show p+n+((x :: l).drop n).length=p+(x :: l).length by rw[jX];omega]at this;exact⟨p,rfl,aj _,by omega,this.less (by omega)⟩
theorem Kl (s:ByteArray)(ts:List ai)(h:gH (sb s)=some ts):ts≠[]:=by
 have key : ∀ (f p:Nat)(l:List Int)(ts:List ai),bU f p l=some ts→ts≠[]:=by
  intro f
  induction f with
  | zero =>
    intro p l ts h;cases l with
    | nil => have h0:bU 0 p []=some [ai.zero.goto p]:=by unfold bU;rfl
             rw[h0]at h;injection h with h;subst h;simp
    | cons x l=>unfold bU at h;cases h
  | succ f ih =>
    intro p l ts h;cases l with
    | nil => have h0:bU (f+1) p []=some [ai.zero.goto p]:=by unfold bU;rfl
             rw[h0]at h;injection h with h;subst h;simp
    | cons x l =>
      rw[nk]at h;by_cases hx:x=32
      · rw[ah hx]at h;exact ih _ _ _ h
      · rw [af hx]at h
        split at h
        · cases h
        · simp only[Option.map_eq_some_iff]at h
          obtain⟨us,_,rfl⟩:=h;simp
 exact key _ _ _ _ h
theorem UG (s:ByteArray)(ts:List ai)(h:gH (sb s)=some ts):ts.length≤s.size+1:=by
 have key : ∀ (f p:Nat)(l:List Int)(ts:List ai),bU f p l=some ts→ts.length≤l.length+1:=by
  intro f
  induction f with
  | zero =>
    intro p l ts h;cases l with
    | nil => have h0:bU 0 p []=some [ai.zero.goto p]:=by unfold bU;rfl
             rw[h0]at h;injection h with h;subst h;simp
    | cons x l=>unfold bU at h;cases h
  | succ f ih =>
    intro p l ts h;cases l with
    | nil => have h0:bU (f+1) p []=some [ai.zero.goto p]:=by unfold bU;rfl
             rw[h0]at h;injection h with h;subst h;simp
    | cons x l =>
      rw[nk]at h;by_cases hx:x=32
      · rw[ah hx]at h;have:=ih _ _ _ h;simp only[aN];omega
      · rw [af hx]at h
        cases hq:cK (x :: l)with
        | none=>rw[hq]at h;cases h
        | some q =>
          obtain⟨t0,n⟩:=q;have hn:=nE _ _ _ hq;rw[hq]at h;simp only[Option.map_eq_some_iff]at h;obtain⟨us,h1,rfl⟩:=h;have:=ih _ _ _ h1;rw[jX]at this;simp only[aN]at this hn ⊢;omega
 have:=key _ _ _ _ h;rw[bn]at this;exact this
theorem CW(h:Below w.heap.size w w')(n:Nat):Below w.heap.size w (w'.drewN n):=⟨h.os,h.tape,h.output,h.size,h.block⟩
theorem Ko (s:ByteArray)(w:World)(hv:Vars w)(hs:300<s.size) :
 Calls Tryz.prog 65 #[.string s] w fun e w'=>Below w.heap.size w w'∧e = .returned (.tuple #[.slice none 0 0,.int .i64 4]):=by
 refine(Ei s w hv).mono ?_;rintro e w' ⟨hb,⟨_,rfl⟩|⟨h,_⟩|⟨h,_⟩⟩
 · exact⟨hb,rfl⟩
 · omega
 · omega
theorem LK (kd:Int)(l:Array Value)(hl:l[0]? = some (.int .i64 kd))(w:World):Sem.run Tryz.prog (Instr.field 130 (.agg l) 0) w = .ok (.int .i64 kd) w:=by
 simp[Instr.field,run_underlying Tryz.underlying130,part,isAgg,run_underlying Tryz.underlying3,asAgg,hl,go_sem]
def lI (s:ByteArray)(res:Except Int (List Nd)):Prop :=
 (300<s.size∧res = .error 4)∨(s.size≤300∧gH (sb s)=none∧res = .error 5)∨(s.size≤300∧∃ts f,gH (sb s)=some ts∧lh f ts=some res)
def OT (res:Except Int (List Nd))(w:World)(e:Ending)(w':World):Prop :=
 Below w.heap.size w w'∧((∃c,res = .error c∧e = .returned (.tuple #[.slice none 0 0,.int .i64 c])) ∨
  (∃ns nv vs,res = .ok ns∧vs.map aO.n=ns∧e = .returned (.tuple #[nv,.int .i64 0])∧jD w' w.heap.size nv vs∧dC ns=true))
theorem jD.mono{lo lo':Nat}(h:jD w lo nv vs)(hl:lo'≤lo):jD w lo' nv vs:=⟨h.1.mono hl,fun v hv=>(h.2 v hv).mono hl⟩
theorem Wt (s:ByteArray)(w:World)(hv:Vars w)(ho:kE w)(res:Except Int (List Nd))(hp:lI s res) :
 Calls Tryz.prog 46 #[.string s] w (OT res w):=by
 rcases hp with ⟨h1,rfl⟩|⟨h1,h2,rfl⟩|⟨h1,ts,f,h2,h3⟩
 · have HL:=ae (Ko s w hv h1)
   clear hv ho h1;go_enter Tryz.func46,Tryz.ntmps46;go_wp2_with (go_at_call 65;((with_reducible refine HL.o.mono ?_);rintro e w1 ⟨hb,rfl⟩;have HB:=ae hb;clear hb))
   go_ret2
   exact⟨HB.o,.inl ⟨4,rfl,rfl⟩⟩
 · have HL:=ae (Kn s w hv h1 h2)
   clear hv ho h1 h2;go_enter Tryz.func46,Tryz.ntmps46;go_wp2_with (go_at_call 65;((with_reducible refine HL.o.mono ?_);rintro e w1 ⟨hb,rfl⟩;have HB:=ae hb;clear hb))
   go_ret2
   exact⟨HB.o,.inl ⟨5,rfl,rfl⟩⟩
 · obtain ⟨uN,z8⟩:=Eg s ts h2
   have hlen:=UG s ts h2;have hne:=List.length_pos_iff.2 (Kl s ts h2);have HL:=ae (Km s w hv h1 ts h2 hne);have hvl:=hv.lt;have hol:=ho.lt;have xm:=ae ho;have FW:=ae z8;have Oy:=ae (fun ns (h:res = .ok ns)=>Lb (by rw[← h];exact h3) uN);unfold lh at h3;have H3:=ae h3;obtain⟨nt,hnt⟩:∃nt,ts.length=nt:=⟨_,rfl⟩;have BQ:=ae hnt;rw[hnt]at HL hlen hne;clear hv ho h2 h3 uN z8 hnt;go_enter Tryz.func46,Tryz.ntmps46;go_upto_region 5 with (go_at_call 65;((with_reducible refine HL.o.mono ?_);rintro e w1 ⟨hb,g1,lL,rfl,hg0,hg1,ho⟩;have eQ:=ae ho;have HB:=ae hb;clear hb ho))
   have hB2:Below w1.heap.size w1 (w1.alloc (.cells #[.slice (some ⟨g1,0,none⟩) nt lL,.int .i64 0,.int .i64 0,.slice none 0 0] 127)):=(ak _ _).alloc (aj _) _;have hC2:(w1.alloc (.cells #[.slice (some ⟨g1,0,none⟩) nt lL,.int .i64 0,.int .i64 0,.slice none 0 0] 127)).heap[w1.heap.size]? = some (.cells #[.slice (some ⟨g1,0,none⟩) nt lL,.int .i64 0,.int .i64 0,.slice none 0 0] 127):=(gV w1 _).1;have gD:=ae (eQ.o.below hB2 (aj _));have BU:=ae (xm.o.below (HB.o.trans (hB2.mono HB.o.size)));have HZ1:=ae HB.o.size;have HB2:=ae (HB.o.trans (hB2.mono HB.o.size));clear hB2 HB HL eQ xm;generalize w1.alloc (.cells #[.slice (some ⟨g1,0,none⟩) nt lL,.int .i64 0,.int .i64 0,.slice none 0 0] 127)=w2 at hC2 gD BU HB2 ⊢;obtain⟨b,hb⟩:∃b,w1.heap.size=b:=⟨_,rfl⟩;rw[hb]at hC2 hg1 HZ1 ⊢;have hz1:=HZ1.o
   have HP:=ae (show aR w2 b (.slice (some ⟨g1,0,none⟩) nt lL) ts 0 0 (.slice none 0 0) []from
    ⟨hC2,⟨g1,lL,by rw[BQ.o],hg1,gD.o.mono (bA _)⟩,jD.nil _ _,BU.o,by rw[BQ.o];exact hne,by omega,FW.o,by rw[BQ.o];omega,bA _,by omega⟩)
   clear hb hC2 gD BU FW w1;rcases bY H3.o with ⟨c,g2,rfl⟩|⟨ns,a,r,g2,g3⟩
   · have HX:=ae (show Calls Tryz.prog 66 #[.pointer (some ⟨b,0,none⟩),.int .i64 0] w2 (Out (.error c) w2 b (.slice (some ⟨g1,0,none⟩) nt lL) ts 0 [])from IJ f 0 0 _ w2 b _ ts 0 _ [] (by omega) HP.o g2)
     clear g2 H3;go_wp2_with (go_at_call 66;((with_reducible refine HX.o.mono ?_);intro e w5 ho;obtain⟨hf,hc,rfl⟩:=ho.bad rfl;have cz:=ae (HB2.o.trans (hf.toBelow hz1 HB2.o.size));have hc0:(c != 0)=true:=(by rw[bne_iff_ne];rcases hc with h|h <;> omega);clear hf hc ho))
     go_ret2
     exact⟨cz.o,.inl ⟨c,rfl,rfl⟩⟩
   · have HX:=ae (show Calls Tryz.prog 66 #[.pointer (some ⟨b,0,none⟩),.int .i64 0] w2 (Out (.ok (ns,a,r)) w2 b (.slice (some ⟨g1,0,none⟩) nt lL) ts 0 [])from IJ f 0 0 _ w2 b _ ts 0 _ [] (by omega) HP.o g2)
     have hns:=((vE f).1 _ _ _ _ _ _ _ g2).2.2;have H4:=ae g3;clear g2 g3 H3;go_upto_region 8 with (go_at_call 66;((with_reducible refine HX.o.mono ?_);intro e w5 ho;obtain⟨hf,rfl,p5,uZ,iL,mq,mD,hk5,mr⟩:=ho.vW rfl;have cz:=ae (HB2.o.trans (hf.toBelow hz1 HB2.o.size));have gZ:=ae mr;have HD5:=ae mq;have l6:=ae mD;clear hf ho mq mD hk5 mr))
     obtain⟨gt,ct,t, -,ht,hd, -⟩:=gZ.o.tok;have h4:=H4.o;rw[← HD5.o,hd]at h4;have cO:=ae (AJ gZ.o t ht);obtain⟨g5,aap,rfl, -⟩:=Own.some gZ.o.nodes.1 (show 0<([]++iL).length by rw[eY, ← dQ (f:=aO.n),l6.o];omega);obtain⟨kd,hkd⟩:∃kd,t.kind=kd:=⟨_,rfl⟩;rw[hkd]at cO;clear HX ht hd H4;by_cases h0:t.kind=0
     · rw[show tu (t :: ts.drop (p5+1))=t.kind from rfl,ah h0]at h4
       injection h4 with h4;have HR:=ae h4.symm;have e0:(kd != 0)=false:=by rw[← hkd,h0];rfl
       clear h4 h0 hkd;go_wp2_with (go_at_call 67;((with_reducible refine cO.o.mono ?_);rintro e w6 ⟨rfl,h1⟩;have oM:=ae (cz.o.trans (h1.mono cz.o.size));have j4:=ae (gZ.o.below h1);obtain⟨c0,c1,c2,c3⟩:=j4.o.facts;have Sm:=LK kd #[.int .i64 kd,.string t.text,.int .i64 t.num,.string t.sh,.int .i64 t.c,.int .i64 t.r,.bool t.ac,.bool t.ar,.int .i64 t.pos] rfl w6;clear h1))
       go_ret2
       exact⟨oM.o,.inr ⟨ns,_,[]++iL,HR.o,by rw[eY];exact l6.o,rfl,j4.o.nodes.mono (by omega),Oy.o ns HR.o⟩⟩
     · rw[show tu (t :: ts.drop (p5+1))=t.kind from rfl,af h0]at h4
       injection h4 with h4;have HR:=ae h4.symm;have e0:(kd != 0)=true:=by rw[bne_iff_ne, ← hkd];exact h0
       clear h4 h0 hkd;go_wp2_with (go_at_call 67;((with_reducible refine cO.o.mono ?_);rintro e w6 ⟨rfl,h1⟩;have oM:=ae (cz.o.trans (h1.mono cz.o.size));have Sm:=LK kd #[.int .i64 kd,.string t.text,.int .i64 t.num,.string t.sh,.int .i64 t.c,.int .i64 t.r,.bool t.ac,.bool t.ar,.int .i64 t.pos] rfl w6;clear h1))
       go_ret2
       exact⟨oM.o,.inl ⟨5,HR.o,rfl⟩⟩
theorem Wu (s:ByteArray)(w:World)(hv:Vars w)(ho:kE w)(ns:List Nd)(hp:lI s (.ok ns))(hne:0<ns.length) :
 Calls Tryz.prog 46 #[.string s] w fun e w'=>Below w.heap.size w w'∧∃g cap vs,e = .returned (.tuple #[.slice (some ⟨g,0,none⟩) ns.length cap,.int .i64 0])∧vs.map aO.n=ns∧vs.length=ns.length∧jD w' w.heap.size (.slice (some ⟨g,0,none⟩) ns.length cap) vs∧dC ns=true:=by
 refine(Wt s w hv ho _ hp).mono ?_;rintro e w' ⟨hb,⟨c',h1,h2⟩|⟨ns',nv,vs,h1,h2,h3,h4,h5⟩⟩
 · cases h1
 · injection h1 with h1;subst h1
   have hl:vs.length=ns.length:=by rw[← h2,dQ]
   obtain⟨g,cap,rfl, -⟩:=Own.some h4.1 (by omega);rw[hl]at h3 h4;exact⟨hb,g,cap,vs,h3,h2,hl,h4,h5⟩
theorem jD.cell {w:World}{lo g n cap:Nat}{vs:List aO}(h:jD w lo (.slice (some ⟨g,0,none⟩) n cap) vs)(i:Nat)(v:aO)(hi:vs[i]? = some v)(j:Nat)(hj:j<14):w.cell? ⟨g,i*14+j,none⟩=(dh v.n v.dL).toList[j]? := by
 have hl:(dh v.n v.dL).toList.length=14:=rfl;have hu:(xM.f v)[j]? = some ((dh v.n v.dL).toList[j]'(by omega)):=aX _;have:=Own.cells h.1 (i*14+j) _ (by rw[xM.at vs i j v hi hj];exact hu);rw[this];exact hu.symm
theorem LM:∀(n u:Nat),u<n→sb ⟨(Lib.decDigits u).toArray⟩=aW u:=by
 have yE:∀l:List UInt8,sb ⟨l.toArray⟩=l.map (fun b=>(b.toNat:Int)):=fun l=>rfl
 intro n
 induction n with
 | zero=>intro u h;omega
 | succ n ih =>
   intro u hu;rw[yE,Lib.decDigits];by_cases h:u<10
   · rw[dif_pos h,nU u h]
     simp only[fP,List.map_nil];rw[UInt8.toNat_ofNat_of_lt' (by show 48+u<256;omega)];congr 1
   · rw[dif_neg h,rC u h,gW, ← yE,ih (u / 10) (by omega)]
     simp only[fP,List.map_nil];rw[UInt8.toNat_ofNat_of_lt' (by show 48+u % 10<256;omega)];congr 1
theorem QL (u:Nat):(⟨(Lib.decDigits u).toArray⟩:ByteArray)=strOfNums (aW u):=by
 rw[← oH ⟨(Lib.decDigits u).toArray⟩,LM (u+1) u (by omega)]
def ik (w : World) : Prop := Lib.TabIs Tryz.prog w "internal/strconv.uint64pow10" .u64 Lib.pow10Tab
theorem I9 : Tryz.prog.globalNamed "internal/strconv.uint64pow10" = some 5 := by kernel_rfl
theorem ik.below (h:ik w)(hb:Below w.heap.size w w'):ik w':=by
 unfold ik Lib.TabIs World.var? at h ⊢;rw[I9]at h ⊢;simp only[Option.bind_some]at h ⊢;rw[hb.block _ ?_]
 · exact h
 · rcases Nat.lt_or_ge 5 w.heap.size with h'|h'
   · exact h'
   · rw[Array.getElem?_eq_none h']at h;cases h
theorem Hl (w:World)(k:Nat)(os:Array Obj):Below w.heap.size w (Sort.grow (w.drewN k) os):=by
 refine⟨rfl,rfl,rfl, ?_, ?_⟩
 · show w.heap.size≤(w.heap++os).size
   simp
 · intro j hj
   show(w.heap++os)[j]? = w.heap[j]?;rw[Array.getElem?_append_left hj]
theorem D9 (n:Nat)(_h1:n≤9223372036854775807)(w:World)(ht:ik w) :
 Calls Tryz.prog 82 #[.int .i64 (n:Int)] w fun e w'=>e = .returned (.string (strOfNums (aW n)))∧Below w.heap.size w w':=by
 refine(Tryz.strconv_Itoa (n:Int) (by omega) (by omega) w ht).mono ?_;rintro e w' ⟨rfl,k,os,rfl⟩;refine⟨?_,Hl w k os⟩;have:Lib.itoa (n:Int)=Lib.decDigits n:=by unfold Lib.itoa;rw[af (by omega)];rfl
 rw[this,QL]
theorem Vo (n:Int)(h:n<0):(⟨(Lib.itoa n).toArray⟩:ByteArray)=strOfNums (sQ n):=by
 have yE:∀l:List UInt8,sb ⟨l.toArray⟩=l.map (fun b=>(b.toNat:Int)):=fun l=>rfl
 rw[← oH ⟨(Lib.itoa n).toArray⟩];congr 1;unfold Lib.itoa sQ;rw[ah h,ah h,yE,fP, ← yE,LM (n.natAbs+1) _ (by omega)];rfl
theorem TF (n:Int)(_h0 : -9223372036854775808≤n)(_h1:n≤9223372036854775807)(w:World)(ht:ik w) :
 Calls Tryz.prog 82 #[.int .i64 n] w fun e w'=>e = .returned (.string (strOfNums (sQ n)))∧Below w.heap.size w w':=by
 by_cases h:n<0
 · refine(Tryz.strconv_Itoa n (by omega) (by omega) w ht).mono ?_
   rintro e w' ⟨rfl,k,os,rfl⟩;exact⟨by rw[Vo n h],Hl w k os⟩
 · obtain⟨m,rfl⟩:∃m:Nat,n=m:=⟨n.toNat,by omega⟩
   have hd:sQ (m:Int)=aW m:=by unfold sQ;rw[af (by omega)];rfl
   rw[hd];exact D9 m (by omega) w ht
theorem ym (s:ByteArray)(c r:Int)(ac ar:Bool)(w:World)(_hs:s.size≤1000000) :
 Calls Tryz.prog 157 #[.agg #[.string s,.int .i64 c,.int .i64 r,.bool ac,.bool ar]] w fun e w'=>e = .returned (.bool (ek (sb s) c r))∧Below w.heap.size w w':=by
 by_cases h0:s.size=0
 · have:=wM s h0
   subst this;have hm:ek (sb ⟨#[]⟩) c r=decide (0≤c∧c≤701∧0≤r∧r≤998):=by unfold ek;rw[show decide (sb ⟨#[]⟩=[])=true from by decide,Bool.true_or,jW]
   have HM:=ae hm;clear hm;go_enter Tryz.func157,Tryz.ntmps157
   go_wp2
   all_goals go_ret
   all_goals exact⟨fB (by rw[HM.o];first|(symm;rw[aA];omega)|(symm;rw[gK];omega)|(rw[decide_eq_decide];omega)),(ak _ _).alloc (aj _) _⟩
 · have hne:=yJ s h0
   have uQ:s.toList.isEmpty=false:=by cases hq:s.toList with|nil=>exact absurd hq hne|cons a l=>rfl
   have hm:ek (sb s) c r=(fe (sb s)&&decide (0≤c∧c≤701∧0≤r∧r≤998)):=by
    unfold ek;rw[aK (by intro h;have:=bn s;rw[h]at this;exact h0 this.symm),Bool.false_or]
   have HM:=ae hm;clear hm h0;by_cases hn:fe (sb s)=true
   · go_enter Tryz.func157,Tryz.ntmps157
     go_wp2_with (first
      | (go_at_call 29;((with_reducible refine(yt _ _ ?_).mono ?_);(first|omega|skip);rintro e w' ⟨rfl,rfl⟩)))
     all_goals go_ret
     all_goals exact⟨fB (by rw[HM.o,hn,jW];first|(symm;rw[aA];omega)|(symm;rw[gK];omega)|(rw[decide_eq_decide];omega)),(ak _ _).alloc (aj _) _⟩
   · have hn':fe (sb s)=false:=by simpa using hn
     clear hn;go_enter Tryz.func157,Tryz.ntmps157
     go_wp2_with (first
      | (go_at_call 29;((with_reducible refine(yt _ _ ?_).mono ?_);(first|omega|skip);rintro e w' ⟨rfl,rfl⟩)))
     all_goals go_ret
     all_goals exact⟨fB (by rw[HM.o,hn',Bool.false_and]),(ak _ _).alloc (aj _) _⟩
theorem Ve (s:ByteArray)(h:jG (sb s)=true)(hr:gQ s=none):∃t ts,gH (sb s)=some (t :: ts)∧t.kind=3∧t.text=s:=by
 have hc:=h;unfold jG at hc;rw[bu,bu,aA,aA]at hc;obtain⟨c1,c2,c3⟩:=hc;have hs:=oH s;cases hq:sb s with
 | nil=>rw[hq]at c2;simp at c2
 | cons x l =>
   rw[hq]at c1 c3 hs h
   have aV:∀y∈x :: l,isWord y=true:=by
    intro y hy;have:=c1 y hy;rw[Bool.or_eq_true]at this;rcases this with g|g
    · rw[Ai,JW g];rfl
    · rw[Ai,g];simp
   have hx:aP x=true:=by simpa using c3
   have hxr:65≤x∧x≤90:=by unfold aP at hx;rw[aA]at hx;omega
   have h1:¬ isNum x=true:=by unfold isNum;rw[aA];omega
   have hl:isLet x=true:=by unfold isLet;rw[aA];omega
   have ht:(x :: l).takeWhile isWord=x :: l:=by
    have:=qb isWord (x :: l) [] aV (fun y hy=>by simp at hy);rw[bE]at this;exact this
   have Ad:cK (x :: l)=some ({ ai.zero with kind:=3,text:=s },(x :: l).length):=by
    rw[nD,af h1,af (by omega),af (by omega),ah (.inl hl)];unfold lq;rw[ht,hs,hr];simp only;rw[ah h]
   refine⟨({ ai.zero with kind:=3,text:=s }:ai).goto 0,[ai.zero.goto (0+(x :: l).length)], ?_,rfl,rfl⟩;unfold gH;rw[aN,nk,af (by omega),Ad];simp only;rw[List.drop_length];have:bU l.length (0+(x :: l).length) []=some [ai.zero.goto (0+(x :: l).length)]:=by unfold bU;rfl
   rw[this];rfl
theorem CO(s:ByteArray):jF s=((jG (sb s)&&(gQ s).isNone)&&(decide (¬ s=⟨#[84,82,85,69]⟩)&&decide (¬ s=⟨#[70,65,76,83,69]⟩))):=by unfold jF;rw[Bool.and_assoc]
theorem Hz (s:ByteArray)(h:∀t ts,gH (sb s)=some (t :: ts)→¬ (t.kind=3∧t.text=s)):jF s=false:=by
 rw[CO];cases hc:jG (sb s)
 · rfl
 · cases hr:gQ s with
   | some d=>rfl
   | none =>
     obtain⟨t,ts,h1,h2,h3⟩:=Ve s hc hr;exact absurd ⟨h2,h3⟩ (h t ts h1)
theorem PX (s:ByteArray)(h:12<s.size):jF s=false:=by
 rw[CO]
 have:jG (sb s)=false:=by
  unfold jG;rw[aK (show ¬ (1≤(sb s).length∧(sb s).length≤12)by rw[bn];omega),Bool.false_and,Bool.and_false]
 rw[this];rfl
theorem TA (s:ByteArray)(w:World)(hv:Vars w):Calls Tryz.prog 158 #[.string s] w fun e w'=>e = .returned (.bool (jF s))∧Below w.heap.size w w':=by
 have bad:∀c:Int,(c != 0)=true→jF s=false→(Calls Tryz.prog 65 #[.string s] w fun e w'=>Below w.heap.size w w'∧e = .returned (.tuple #[.slice none 0 0,.int .i64 c])) →
  Calls Tryz.prog 158 #[.string s] w fun e w'=>e = .returned (.bool (jF s))∧Below w.heap.size w w':=by
  intro c hc hb hl;have HL:=ae hl;have HB0:=ae hb;have hc2:(c == 0)=false:=by rw[aB];exact bne_iff_ne.1 hc
  clear hl hb;go_enter Tryz.func158,Tryz.ntmps158;go_wp2_with (go_at_call 65;((with_reducible refine HL.o.mono ?_);rintro e w1 ⟨hb,rfl⟩;have HB:=ae hb;clear hb))
  go_ret;exact⟨by rw[HB0.o] <;> rfl,HB.o⟩
 by_cases pI:300<s.size
 · exact bad 4 rfl (PX s (by omega)) (Ko s w hv pI)
 · cases hl : gH (sb s)with
   | none=>exact bad 5 rfl (Hz s (fun t ts h=>by rw[hl]at h;cases h)) (Kn s w hv (by omega) hl)
   | some ts =>
     have hne:=Kl s ts hl;obtain⟨uN,_⟩:=Eg s ts hl
     match ts,hne,hl,uN with
     | t :: tl,_,hl,uN =>
     have HX:=ae (Km s w hv (by omega) (t :: tl) hl (by simp));have hg:=uN t (by simp);obtain⟨kd,hkd⟩:∃kd,t.kind=kd:=⟨_,rfl⟩;obtain⟨tx,htx⟩:∃tx,t.text=tx:=⟨_,rfl⟩;have HC:=ae (fun h=>Hz s (fun t' ts' h'=>by rw[hl]at h';injection h' with h';injection h' with h1 h2;subst h1;exact h))
     have HG:=ae (show kd=3→tx=s→jF s=(decide (¬ s=⟨#[84,82,85,69]⟩)&&decide (¬ s=⟨#[70,65,76,83,69]⟩))from by
      intro h1 h2;obtain⟨g1,g2⟩:=hg.name (by rw[hkd,h1]);rw[htx,h2]at g1 g2;rw[CO,g1,g2];rfl)
     have HK:=ae hkd;have HT:=ae htx;obtain⟨n,hn⟩:∃n,(t :: tl).length=n:=⟨_,rfl⟩;have hn1:0<n:=by rw[← hn];simp
     rw[hn]at HX;have q1:=Bh s ⟨#[84,82,85,69]⟩;have q2:=Bh s ⟨#[70,65,76,83,69]⟩;rw[Ku]at q1;rw[Kt]at q2;clear hl uN hg hkd htx hn hne bad;go_enter Tryz.func158,Tryz.ntmps158;go_upto_region 2 with (go_at_call 65;((with_reducible refine HX.o.mono ?_);rintro e w1 ⟨hb,g,cap,rfl,hg0,hg1,ho⟩;have HB:=ae hb;have k0:w1.cell? ⟨g,0,none⟩=some (.int .i64 kd):=((rf.cell ho 0 t rfl 0 (by omega)).trans (by show some (Value.int .i64 t.kind)=_;rw[HK.o]));have k1:w1.cell? ⟨g,1,none⟩=some (.string tx):=((rf.cell ho 0 t rfl 1 (by omega)).trans (by show some (Value.string t.text)=_;rw[HT.o]));clear hb ho))
     have hni:(0:Int)<(n:Int):=by omega
     by_cases h3:kd=3
     · have e3:(kd == 3)=true:=bI.2 h3
       by_cases hs:tx=s
       · have HR:=ae (HG.o h3 hs)
         have q3:(tx.toList == s.toList)=true:=by rw[hs];simp
         clear h3 hs HC HG HK HT HX;by_cases h1:s=⟨#[84,82,85,69]⟩
         · rw[aL h1]at q1
           rw[aK (show ¬ ¬ s=⟨#[84,82,85,69]⟩from fun h=>h h1),Bool.false_and]at HR;have WW:(s.toList != [84,82,85,69])=false:=by rw[bne,q1];rfl
           clear h1;go_wp2_with fail
           go_ret;exact⟨by rw[HR.o] <;> rfl,HB.o⟩
         · rw [aK h1]at q1
           rw[aL h1,jW]at HR;have WW:(s.toList != [84,82,85,69])=true:=by rw[bne,q1];rfl
           clear h1;by_cases h2:s=⟨#[70,65,76,83,69]⟩
           · rw[aL h2]at q2
             rw[aK (show ¬ ¬ s=⟨#[70,65,76,83,69]⟩from fun h=>h h2)]at HR;have WX:(s.toList != [70,65,76,83,69])=false:=by rw[bne,q2];rfl
             clear h2;go_wp2_with fail
             go_ret;exact⟨by rw[HR.o] <;> rfl,HB.o⟩
           · rw[aK h2]at q2
             rw[aL h2]at HR;have WX:(s.toList != [70,65,76,83,69])=true:=by rw[bne,q2];rfl
             clear h2;go_wp2_with fail
             go_ret;exact⟨by rw[HR.o] <;> rfl,HB.o⟩
       · have HR:=ae (HC.o (fun h=>hs (by rw[← HT.o];exact h.2)))
         have q3:(tx.toList == s.toList)=false:=aB.2 (yI _ _ hs);clear h3 hs HC HG HK HT HX;go_wp2_with fail
         go_ret;exact⟨by rw[HR.o] <;> rfl,HB.o⟩
     · have HR:=ae (HC.o (fun h=>h3 (by rw[← HK.o];exact h.1)))
       have e3:(kd == 3)=false:=aB.2 h3;clear h3 HC HG HK HT HX;go_wp2_with fail
       go_ret;exact⟨by rw[HR.o] <;> rfl,HB.o⟩
theorem WH (s:ByteArray)(k:Nat)(h:k<s.size)(hx:((s[k].toNat:Nat):Int)<32):kD (sb s)=false:=by
 unfold kD;rw[gK];intro aV;exact aV _ (bN (p8 s k h)) hx
theorem WG (s:ByteArray)(h:∀(j:Nat)(hj:j<s.size),¬ ((s[j].toNat:Nat):Int)<32):kD (sb s)=true:=by
 unfold kD;rw[aA];intro x hx;obtain⟨j,hj,rfl⟩:=List.mem_iff_getElem.1 hx;rw[bn]at hj;have:=p8 s j hj;rw[aX (by rw[bn];exact hj)]at this;rw[dV this];exact h j hj
theorem TE (s:ByteArray)(w:World)(_hs:s.size≤1000000):Calls Tryz.prog 156 #[.string s] w fun e w'=>e = .returned (.bool (kD (sb s)))∧w=w':=by
 go_enter Tryz.func156,Tryz.ntmps156;go_wp2_with fail
 go_loopw [6] (fun i wr=>∃k:Nat,k≤s.size∧i = .int .i64 k∧Hid (∀(j:Nat)(hj:j<s.size),j<k→¬ ((s[j].toNat:Nat):Int)<32)∧w=wr)
  (fun i _=>s.size - (intOf i).toNat)
 case atStart=>exact⟨0,by omega,rfl,ae (by intro j _ hj;omega),rfl⟩
 case round =>
  obtain⟨k,hk,rfl,HG,rfl⟩:=hrel;by_cases hlt:k<s.size
  · have hki:(k:Int)<(s.size:Int):=by omega
    obtain⟨a,ha⟩:∃a:Int,(s[k].toNat:Int)=a:=⟨_,rfl⟩;have ha1:0≤a∧a≤255:=by have:=s[k].toNat_lt;omega
    have HA:=ae ha;by_cases h32:a<32
    · have HB:=ae (WH s k hlt (by rw[ha];exact h32))
      go_wp2_with fail
      go_ret;exact⟨by rw[HB.o] <;> rfl,rfl⟩
    · go_wp2_with fail
      go_roundw
      case rel =>
       refine⟨k+1,by omega,by go_num,ae ?_,by first|rfl|trivial⟩;intro j hj hjk;by_cases e:j=k
       · subst e;rw[HA.o];exact h32
       · exact HG.o j hj (by omega)
      case measure=>simp[intOf];omega
  · have hki:¬ (k:Int)<(s.size:Int):=by omega
    have HB:=ae (WG s (fun j hj=>HG.o j hj (by omega)));go_wp2_with fail
    go_ret;exact⟨by rw[HB.o] <;> rfl,rfl⟩
def qM(k:Int):Bool:=decide (9≤k∧k≤19)
theorem yg (k:Int)(w:World):Calls Tryz.prog 159 #[.int .i64 k] w fun e w'=>e = .returned (.bool (qM k))∧w=w':=by
 go_enter Tryz.func159,Tryz.ntmps159;by_cases h1:9≤k
 · by_cases h2:k≤19
   · go_wp2
     go_ret;exact⟨fB (by unfold qM;symm;rw[aA];exact⟨h1,h2⟩),rfl⟩
   · go_wp2
     go_ret;exact⟨fB (by unfold qM;symm;rw[gK];omega),rfl⟩
 · go_wp2
   go_ret;exact⟨fB (by unfold qM;symm;rw[gK];omega),rfl⟩
def hkB(kind:Int)(m:Nat):Bool:=if kind=7 then true else if kind=8 then decide (m=1)else if qM kind=true then decide (m=2)else decide (m=0)
theorem R6 (n:Nd)(A:Option Addr)(m c:Nat)(hm:m≤maxLen)(w:World):Calls Tryz.prog 124 #[.agg #[.int .i64 n.kind,.int .i64 n.num,.string n.text,.string n.ref.sh,.int .i64 n.ref.c,.int .i64 n.ref.r,.bool n.ref.ac,.bool n.ref.ar,.string n.ag.sh,.int .i64 n.ag.c,.int .i64 n.ag.r,.bool n.ag.ac,.bool n.ag.ar,.slice A m c]] w fun e w'=>e = .returned (.bool (hkB n.kind m))∧Below w.heap.size w w':=by
 have hx:aF (w.alloc (.cells #[.int .i64 n.kind,.int .i64 n.num,.string n.text,.string n.ref.sh,.int .i64 n.ref.c,.int .i64 n.ref.r,.bool n.ref.ac,.bool n.ref.ar,.string n.ag.sh,.int .i64 n.ag.c,.int .i64 n.ag.r,.bool n.ag.ac,.bool n.ag.ar,.slice A m c] 106)) w.heap.size n (.slice A m c):=aF.new w n _;have HB:=ae ((ak w.heap.size w).alloc (aj _) (.cells #[.int .i64 n.kind,.int .i64 n.num,.string n.text,.string n.ref.sh,.int .i64 n.ref.c,.int .i64 n.ref.r,.bool n.ref.ac,.bool n.ref.ar,.string n.ag.sh,.int .i64 n.ag.c,.int .i64 n.ag.r,.bool n.ag.ac,.bool n.ag.ar,.slice A m c] 106));go_enter Tryz.func124,Tryz.ntmps124;go_upto_region 1 with (fail)
 generalize w.alloc (.cells #[.int .i64 n.kind,.int .i64 n.num,.string n.text,.string n.ref.sh,.int .i64 n.ref.c,.int .i64 n.ref.r,.bool n.ref.ac,.bool n.ref.ar,.string n.ag.sh,.int .i64 n.ag.c,.int .i64 n.ag.r,.bool n.ag.ac,.bool n.ag.ar,.slice A m c] 106)=w1 at hx HB ⊢;obtain⟨x0,x1,x2,x3,x4,x5,x6,x7,aY,eF,eD,jU,jV,iQ⟩:=hx.cells;clear hx;obtain⟨kd,hkd⟩:∃kd,n.kind=kd:=⟨_,rfl⟩;rw[hkd]at x0;have qV:=ae hkd;clear hkd;by_cases h7:kd=7
 · have e7:(kd == 7)=true:=bI.2 h7
   have HR:=ae (show hkB kd m=true by unfold hkB;rw[ah h7]);clear h7;go_wp2_with fail
   go_ret;exact⟨by rw[qV.o,HR.o] <;> rfl,HB.o⟩
 have e7:(kd == 7)=false:=aB.2 h7;by_cases h8:kd=8
 · have e8:(kd == 8)=true:=bI.2 h8
   have HR:=ae (show hkB kd m=decide (m=1)by unfold hkB;rw[af h7,ah h8]);clear h7 h8;by_cases hm1:m=1
   · subst hm1
     go_wp2_with fail
     go_ret;exact⟨by rw[qV.o,HR.o] <;> rfl,HB.o⟩
   · have em:((m:Int) == 1)=false:=by rw[aB];omega
     rw[aK hm1]at HR;go_wp2_with fail
     go_ret;exact⟨by rw[qV.o,HR.o];first|rfl|(simp;omega),HB.o⟩
 have e8:(kd == 8)=false:=aB.2 h8;cases ht:qM kd
 · have HR:=ae (show hkB kd m=decide (m=0)by unfold hkB;rw[af h7,af h8,ht,af (by decide)])
   have HT:=yg kd;rw[ht]at HT;have HT:=ae HT;clear h7 h8 ht;by_cases hm1:m=0
   · subst hm1
     go_wp2_with (go_at_call 159;((with_reducible refine(HT.o _).mono ?_);rintro e w2 ⟨rfl,rfl⟩))
     go_ret;exact⟨by rw[qV.o,HR.o] <;> rfl,HB.o⟩
   · have em:((m:Int) == 0)=false:=by rw[aB];omega
     rw[aK hm1]at HR;go_wp2_with (go_at_call 159;((with_reducible refine(HT.o _).mono ?_);rintro e w2 ⟨rfl,rfl⟩))
     go_ret;exact⟨by rw[qV.o,HR.o];first|rfl|(simp;omega),HB.o⟩
 · have HR:=ae (show hkB kd m=decide (m=2)by unfold hkB;rw[af h7,af h8,ht,ah rfl])
   have HT:=yg kd;rw[ht]at HT;have HT:=ae HT;clear h7 h8 ht;by_cases hm1:m=2
   · subst hm1
     go_wp2_with (go_at_call 159;((with_reducible refine(HT.o _).mono ?_);rintro e w2 ⟨rfl,rfl⟩))
     go_ret;exact⟨by rw[qV.o,HR.o] <;> rfl,HB.o⟩
   · have em:((m:Int) == 2)=false:=by rw[aB];omega
     rw[aK hm1]at HR;go_wp2_with (go_at_call 159;((with_reducible refine(HT.o _).mono ?_);rintro e w2 ⟨rfl,rfl⟩))
     go_ret;exact⟨by rw[qV.o,HR.o];first|rfl|(simp;omega),HB.o⟩
def eB (n:Nd):Nd :=
 if n.kind=1 then { Nd.zero with num:=n.num }else if n.kind=2 then { Nd.zero with text:=n.text }else if n.kind=3 then { Nd.zero with num:=n.num }
 else if n.kind=5 then { Nd.zero with ref:=n.ref }else if n.kind=6 then ⟨0,0,⟨#[]⟩,n.ref,n.ag,[]⟩else if n.kind=7 then { Nd.zero with text:=n.text }else Nd.zero
def okF (n:Nd):Bool :=
 if n.kind=1 then decide (0≤n.num)else if n.kind=2 then kD (sb n.text)else if n.kind=3 then decide (n.num=0∨n.num=1)
 else if n.kind=5 then eu n.ref else if n.kind=6 then eu n.ref&&(eu n.ag&&gU n.ref n.ag)else if n.kind=7 then jF n.text else decide (n.kind=4∨n.kind=8)||qM n.kind
theorem qF:Tryz.f123.results=#[.cell 2 106,.tmp 3]:=by kernel_rfl
theorem aF.load (h:aF w b n k):(loadVar 106 ⟨b,0,none⟩).run Tryz.prog w = .ok (.agg (dh n k)) w :=
 run_loadVar_row w b 106 106 _ _ _ h Tryz.underlying106 rfl Vz
theorem qC (h:aF w b n k)(fn:Func)(tmps:Array Value)(ok:Bool)(p u:Tmp)(hf:fn.results=#[.cell p 106,.tmp u])(hp:tmps.getD p undef = .pointer (some ⟨b,0,none⟩))(hu:tmps.getD u undef = .bool ok) :
 (results fn tmps).run Tryz.prog w = .ok (.tuple #[.agg (dh n k),.bool ok]) w:=by
 rw[results_cell_tmp hf,hp,hu];simp[asAddr,h.load,Result.andThen]
abbrev vF:Array Value:=#[.int .i64 0,.int .i64 0,.string ⟨#[]⟩,.string ⟨#[]⟩,.int .i64 0,.int .i64 0,.bool false,.bool false,.string ⟨#[]⟩,.int .i64 0,.int .i64 0,.bool false,.bool false,.slice none 0 0]
theorem aF.drew(h:aF w b n k):aF w.drew b n k:=h
theorem aF.frozen(h:aF w b n k)(j:Nat):w.frozen? ⟨b,j,none⟩=false:=frozen_of_row w b j _ _ h
theorem XD (w:World)(b:Nat)(t:TypeId)(u0 u1 u2 u3 u4 u5 u6 u7 u8 u9 u10 u11 u12 u13 v0 v1 v2 v3 v4 v5 v6 v7 v8 v9 v10 v11 v12 v13:Value)(h:w.heap[b]? = some (.cells #[u0,u1,u2,u3,u4,u5,u6,u7,u8,u9,u10,u11,u12,u13] t)) :
 ((((((((((((((w.setCell ⟨b,0,none⟩ v0).setCell ⟨b,1,none⟩ v1).setCell ⟨b,2,none⟩ v2).setCell ⟨b,3,none⟩ v3).setCell ⟨b,4,none⟩ v4).setCell ⟨b,5,none⟩ v5).setCell ⟨b,6,none⟩ v6).setCell ⟨b,7,none⟩ v7).setCell ⟨b,8,none⟩ v8).setCell ⟨b,9,none⟩ v9).setCell ⟨b,10,none⟩ v10).setCell ⟨b,11,none⟩ v11).setCell ⟨b,12,none⟩ v12).setCell ⟨b,13,none⟩ v13).heap[b]? = some (.cells #[v0,v1,v2,v3,v4,v5,v6,v7,v8,v9,v10,v11,v12,v13] t):=by
 have h0:(w.setCell ⟨b,0,none⟩ v0).heap[b]? = some (.cells #[v0,u1,u2,u3,u4,u5,u6,u7,u8,u9,u10,u11,u12,u13] t):=by rw[heap_setCell_same _ b 0 _ _ _ h];rfl
 have h1:((w.setCell ⟨b,0,none⟩ v0).setCell ⟨b,1,none⟩ v1).heap[b]? = some (.cells #[v0,v1,u2,u3,u4,u5,u6,u7,u8,u9,u10,u11,u12,u13] t):=by rw[heap_setCell_same _ b 1 _ _ _ h0];rfl
 have h2:(((w.setCell ⟨b,0,none⟩ v0).setCell ⟨b,1,none⟩ v1).setCell ⟨b,2,none⟩ v2).heap[b]? = some (.cells #[v0,v1,v2,u3,u4,u5,u6,u7,u8,u9,u10,u11,u12,u13] t):=by rw[heap_setCell_same _ b 2 _ _ _ h1];rfl
 have h3:((((w.setCell ⟨b,0,none⟩ v0).setCell ⟨b,1,none⟩ v1).setCell ⟨b,2,none⟩ v2).setCell ⟨b,3,none⟩ v3).heap[b]? = some (.cells #[v0,v1,v2,v3,u4,u5,u6,u7,u8,u9,u10,u11,u12,u13] t):=by rw[heap_setCell_same _ b 3 _ _ _ h2];rfl
 have h4:(((((w.setCell ⟨b,0,none⟩ v0).setCell ⟨b,1,none⟩ v1).setCell ⟨b,2,none⟩ v2).setCell ⟨b,3,none⟩ v3).setCell ⟨b,4,none⟩ v4).heap[b]? = some (.cells #[v0,v1,v2,v3,v4,u5,u6,u7,u8,u9,u10,u11,u12,u13] t):=by rw[heap_setCell_same _ b 4 _ _ _ h3];rfl
 have h5:((((((w.setCell ⟨b,0,none⟩ v0).setCell ⟨b,1,none⟩ v1).setCell ⟨b,2,none⟩ v2).setCell ⟨b,3,none⟩ v3).setCell ⟨b,4,none⟩ v4).setCell ⟨b,5,none⟩ v5).heap[b]? = some (.cells #[v0,v1,v2,v3,v4,v5,u6,u7,u8,u9,u10,u11,u12,u13] t):=by rw[heap_setCell_same _ b 5 _ _ _ h4];rfl
 have h6:(((((((w.setCell ⟨b,0,none⟩ v0).setCell ⟨b,1,none⟩ v1).setCell ⟨b,2,none⟩ v2).setCell ⟨b,3,none⟩ v3).setCell ⟨b,4,none⟩ v4).setCell ⟨b,5,none⟩ v5).setCell ⟨b,6,none⟩ v6).heap[b]? = some (.cells #[v0,v1,v2,v3,v4,v5,v6,u7,u8,u9,u10,u11,u12,u13] t):=by rw[heap_setCell_same _ b 6 _ _ _ h5];rfl
 have h7:((((((((w.setCell ⟨b,0,none⟩ v0).setCell ⟨b,1,none⟩ v1).setCell ⟨b,2,none⟩ v2).setCell ⟨b,3,none⟩ v3).setCell ⟨b,4,none⟩ v4).setCell ⟨b,5,none⟩ v5).setCell ⟨b,6,none⟩ v6).setCell ⟨b,7,none⟩ v7).heap[b]? = some (.cells #[v0,v1,v2,v3,v4,v5,v6,v7,u8,u9,u10,u11,u12,u13] t):=by rw[heap_setCell_same _ b 7 _ _ _ h6];rfl
 have h8:(((((((((w.setCell ⟨b,0,none⟩ v0).setCell ⟨b,1,none⟩ v1).setCell ⟨b,2,none⟩ v2).setCell ⟨b,3,none⟩ v3).setCell ⟨b,4,none⟩ v4).setCell ⟨b,5,none⟩ v5).setCell ⟨b,6,none⟩ v6).setCell ⟨b,7,none⟩ v7).setCell ⟨b,8,none⟩ v8).heap[b]? = some (.cells #[v0,v1,v2,v3,v4,v5,v6,v7,v8,u9,u10,u11,u12,u13] t):=by rw[heap_setCell_same _ b 8 _ _ _ h7];rfl
 have h9:((((((((((w.setCell ⟨b,0,none⟩ v0).setCell ⟨b,1,none⟩ v1).setCell ⟨b,2,none⟩ v2).setCell ⟨b,3,none⟩ v3).setCell ⟨b,4,none⟩ v4).setCell ⟨b,5,none⟩ v5).setCell ⟨b,6,none⟩ v6).setCell ⟨b,7,none⟩ v7).setCell ⟨b,8,none⟩ v8).setCell ⟨b,9,none⟩ v9).heap[b]? = some (.cells #[v0,v1,v2,v3,v4,v5,v6,v7,v8,v9,u10,u11,u12,u13] t):=by rw[heap_setCell_same _ b 9 _ _ _ h8];rfl
 have h10:(((((((((((w.setCell ⟨b,0,none⟩ v0).setCell ⟨b,1,none⟩ v1).setCell ⟨b,2,none⟩ v2).setCell ⟨b,3,none⟩ v3).setCell ⟨b,4,none⟩ v4).setCell ⟨b,5,none⟩ v5).setCell ⟨b,6,none⟩ v6).setCell ⟨b,7,none⟩ v7).setCell ⟨b,8,none⟩ v8).setCell ⟨b,9,none⟩ v9).setCell ⟨b,10,none⟩ v10).heap[b]? = some (.cells #[v0,v1,v2,v3,v4,v5,v6,v7,v8,v9,v10,u11,u12,u13] t):=by rw[heap_setCell_same _ b 10 _ _ _ h9];rfl
 have h11:((((((((((((w.setCell ⟨b,0,none⟩ v0).setCell ⟨b,1,none⟩ v1).setCell ⟨b,2,none⟩ v2).setCell ⟨b,3,none⟩ v3).setCell ⟨b,4,none⟩ v4).setCell ⟨b,5,none⟩ v5).setCell ⟨b,6,none⟩ v6).setCell ⟨b,7,none⟩ v7).setCell ⟨b,8,none⟩ v8).setCell ⟨b,9,none⟩ v9).setCell ⟨b,10,none⟩ v10).setCell ⟨b,11,none⟩ v11).heap[b]? = some (.cells #[v0,v1,v2,v3,v4,v5,v6,v7,v8,v9,v10,v11,u12,u13] t):=by rw[heap_setCell_same _ b 11 _ _ _ h10];rfl
 have h12:(((((((((((((w.setCell ⟨b,0,none⟩ v0).setCell ⟨b,1,none⟩ v1).setCell ⟨b,2,none⟩ v2).setCell ⟨b,3,none⟩ v3).setCell ⟨b,4,none⟩ v4).setCell ⟨b,5,none⟩ v5).setCell ⟨b,6,none⟩ v6).setCell ⟨b,7,none⟩ v7).setCell ⟨b,8,none⟩ v8).setCell ⟨b,9,none⟩ v9).setCell ⟨b,10,none⟩ v10).setCell ⟨b,11,none⟩ v11).setCell ⟨b,12,none⟩ v12).heap[b]? = some (.cells #[v0,v1,v2,v3,v4,v5,v6,v7,v8,v9,v10,v11,v12,u13] t):=by rw[heap_setCell_same _ b 12 _ _ _ h11];rfl
 have h13:((((((((((((((w.setCell ⟨b,0,none⟩ v0).setCell ⟨b,1,none⟩ v1).setCell ⟨b,2,none⟩ v2).setCell ⟨b,3,none⟩ v3).setCell ⟨b,4,none⟩ v4).setCell ⟨b,5,none⟩ v5).setCell ⟨b,6,none⟩ v6).setCell ⟨b,7,none⟩ v7).setCell ⟨b,8,none⟩ v8).setCell ⟨b,9,none⟩ v9).setCell ⟨b,10,none⟩ v10).setCell ⟨b,11,none⟩ v11).setCell ⟨b,12,none⟩ v12).setCell ⟨b,13,none⟩ v13).heap[b]? = some (.cells #[v0,v1,v2,v3,v4,v5,v6,v7,v8,v9,v10,v11,v12,v13] t):=by rw[heap_setCell_same _ b 13 _ _ _ h12];rfl
 exact h13
theorem aF.qE{n0:Nd}{k0:Value}(h:aF w b n0 k0)(n:Nd)(k:Value):aF ((((((((((((((w.setCell ⟨b,0,none⟩ (.int .i64 n.kind)).setCell ⟨b,1,none⟩ (.int .i64 n.num)).setCell ⟨b,2,none⟩ (.string n.text)).setCell ⟨b,3,none⟩ (.string n.ref.sh)).setCell ⟨b,4,none⟩ (.int .i64 n.ref.c)).setCell ⟨b,5,none⟩ (.int .i64 n.ref.r)).setCell ⟨b,6,none⟩ (.bool n.ref.ac)).setCell ⟨b,7,none⟩ (.bool n.ref.ar)).setCell ⟨b,8,none⟩ (.string n.ag.sh)).setCell ⟨b,9,none⟩ (.int .i64 n.ag.c)).setCell ⟨b,10,none⟩ (.int .i64 n.ag.r)).setCell ⟨b,11,none⟩ (.bool n.ag.ac)).setCell ⟨b,12,none⟩ (.bool n.ag.ar)).setCell ⟨b,13,none⟩ (k)) b n k:=XD w b _ _ _ _ _ _ _ _ _ _ _ _ _ _ _ _ _ _ _ _ _ _ _ _ _ _ _ _ _ h
theorem qp {a:World}(h:Below B a w)(hb:B≤b)(v0 v1 v2 v3 v4 v5 v6 v7 v8 v9 v10 v11 v12 v13:Value):Below B a ((((((((((((((w.setCell ⟨b,0,none⟩ v0).setCell ⟨b,1,none⟩ v1).setCell ⟨b,2,none⟩ v2).setCell ⟨b,3,none⟩ v3).setCell ⟨b,4,none⟩ v4).setCell ⟨b,5,none⟩ v5).setCell ⟨b,6,none⟩ v6).setCell ⟨b,7,none⟩ v7).setCell ⟨b,8,none⟩ v8).setCell ⟨b,9,none⟩ v9).setCell ⟨b,10,none⟩ v10).setCell ⟨b,11,none⟩ v11).setCell ⟨b,12,none⟩ v12).setCell ⟨b,13,none⟩ v13) :=
 ((((((((((((((h.setCell hb _).setCell hb _).setCell hb _).setCell hb _).setCell hb _).setCell hb _).setCell hb _).setCell hb _).setCell hb _).setCell hb _).setCell hb _).setCell hb _).setCell hb _).setCell hb _)
theorem Rk (n:Nd)(h1:n.kind=1)(A:Option Addr)(m c:Nat)(w:World):Calls Tryz.prog 123 #[.agg #[.int .i64 n.kind,.int .i64 n.num,.string n.text,.string n.ref.sh,.int .i64 n.ref.c,.int .i64 n.ref.r,.bool n.ref.ac,.bool n.ref.ar,.string n.ag.sh,.int .i64 n.ag.c,.int .i64 n.ag.r,.bool n.ag.ac,.bool n.ag.ar,.slice A m c]] w fun e w'=>e = .returned (.tuple #[.agg (dh { Nd.zero with num:=n.num } (.slice none 0 0)),.bool (decide (0≤n.num))])∧Below w.heap.size w w':=by
 have hsz:(w.alloc (.cells #[.int .i64 n.kind,.int .i64 n.num,.string n.text,.string n.ref.sh,.int .i64 n.ref.c,.int .i64 n.ref.r,.bool n.ref.ac,.bool n.ref.ar,.string n.ag.sh,.int .i64 n.ag.c,.int .i64 n.ag.r,.bool n.ag.ac,.bool n.ag.ar,.slice A m c] 106)).heap.size=w.heap.size+1:=by simp
 have hx:aF (w.alloc (.cells #[.int .i64 n.kind,.int .i64 n.num,.string n.text,.string n.ref.sh,.int .i64 n.ref.c,.int .i64 n.ref.r,.bool n.ref.ac,.bool n.ref.ar,.string n.ag.sh,.int .i64 n.ag.c,.int .i64 n.ag.r,.bool n.ag.ac,.bool n.ag.ar,.slice A m c] 106)) w.heap.size n (.slice A m c):=aF.new w n _;have hy:aF ((w.alloc (.cells #[.int .i64 n.kind,.int .i64 n.num,.string n.text,.string n.ref.sh,.int .i64 n.ref.c,.int .i64 n.ref.r,.bool n.ref.ac,.bool n.ref.ar,.string n.ag.sh,.int .i64 n.ag.c,.int .i64 n.ag.r,.bool n.ag.ac,.bool n.ag.ar,.slice A m c] 106)).alloc (.cells vF 106)) (w.heap.size+1) Nd.zero (.slice none 0 0):=by rw[← hsz];exact aF.new _ Nd.zero _
 have hx2:=hx.below ((ak _ _).alloc (aj _) (.cells vF 106)) hx.lt;have HB:=ae (((ak w.heap.size w).alloc (aj _) (.cells #[.int .i64 n.kind,.int .i64 n.num,.string n.text,.string n.ref.sh,.int .i64 n.ref.c,.int .i64 n.ref.r,.bool n.ref.ac,.bool n.ref.ar,.string n.ag.sh,.int .i64 n.ag.c,.int .i64 n.ag.r,.bool n.ag.ac,.bool n.ag.ar,.slice A m c] 106)).alloc (by simp) (.cells vF 106));have e1:(n.kind == 1)=true:=bI.2 h1;clear h1;go_enter Tryz.func123,Tryz.ntmps123;go_upto_region 3 with (fail)
 generalize (w.alloc (.cells #[.int .i64 n.kind,.int .i64 n.num,.string n.text,.string n.ref.sh,.int .i64 n.ref.c,.int .i64 n.ref.r,.bool n.ref.ac,.bool n.ref.ar,.string n.ag.sh,.int .i64 n.ag.c,.int .i64 n.ag.r,.bool n.ag.ac,.bool n.ag.ar,.slice A m c] 106)).alloc (.cells vF 106)=w1 at hx2 hy HB ⊢;obtain⟨x0,x1,x2,x3,x4,x5,x6,x7,aY,eF,eD,jU,jV,iQ⟩:=hx2.cells;obtain⟨y0,y1,y2,y3,y4,iy,y6,iA,iR,kN,kM,oJ,oK,y13⟩:=hy.cells;have f0:=hy.frozen 0;have f1:=hy.frozen 1;have f2:=hy.frozen 2;have f3:=hy.frozen 3;have f4:=hy.frozen 4;have f5:=hy.frozen 5;have f6:=hy.frozen 6;have f7:=hy.frozen 7;have f8:=hy.frozen 8;have f9:=hy.frozen 9;have f10:=hy.frozen 10;have f11:=hy.frozen 11;have f12:=hy.frozen 12;have f13:=hy.frozen 13;have gL:=ae hy;clear hx hx2 hy
 go_region
 all_goals go_wp2_with fail
 all_goals exact bodyPost_ret (qC (gL.o.qE { Nd.zero with num:=n.num } (.slice none 0 0)).drew _ _ _ 2 3 qF rfl rfl) rfl ⟨rfl,(qp HB.o (by omega) _ _ _ _ _ _ _ _ _ _ _ _ _ _).drew⟩
theorem aF.dM (h:aF w b n k):w.frozen? ⟨b,0,none⟩=false∧w.frozen? ⟨b,1,none⟩=false∧w.frozen? ⟨b,2,none⟩=false∧w.frozen? ⟨b,3,none⟩=false∧w.frozen? ⟨b,4,none⟩=false∧w.frozen? ⟨b,5,none⟩=false∧w.frozen? ⟨b,6,none⟩=false∧w.frozen? ⟨b,7,none⟩=false∧w.frozen? ⟨b,8,none⟩=false∧w.frozen? ⟨b,9,none⟩=false∧w.frozen? ⟨b,10,none⟩=false∧w.frozen? ⟨b,11,none⟩=false∧w.frozen? ⟨b,12,none⟩=false∧w.frozen? ⟨b,13,none⟩=false :=
 ⟨h.frozen 0,h.frozen 1,h.frozen 2,h.frozen 3,h.frozen 4,h.frozen 5,h.frozen 6,h.frozen 7,h.frozen 8,h.frozen 9,h.frozen 10,h.frozen 11,h.frozen 12,h.frozen 13⟩
theorem rT (w:World)(n:Nd)(A:Option Addr)(m c:Nat):∃w1,(w.alloc (.cells #[.int .i64 n.kind,.int .i64 n.num,.string n.text,.string n.ref.sh,.int .i64 n.ref.c,.int .i64 n.ref.r,.bool n.ref.ac,.bool n.ref.ar,.string n.ag.sh,.int .i64 n.ag.c,.int .i64 n.ag.r,.bool n.ag.ac,.bool n.ag.ar,.slice A m c] 106)).alloc (.cells vF 106)=w1∧aF w1 w.heap.size n (.slice A m c)∧aF w1 (w.heap.size+1) Nd.zero (.slice none 0 0)∧Below w.heap.size w w1∧w.heap.size+1<w1.heap.size:=by
 have hx:=aF.new w n (.slice A m c);obtain⟨wa,Ae⟩:∃wa,w.alloc (.cells #[.int .i64 n.kind,.int .i64 n.num,.string n.text,.string n.ref.sh,.int .i64 n.ref.c,.int .i64 n.ref.r,.bool n.ref.ac,.bool n.ref.ar,.string n.ag.sh,.int .i64 n.ag.c,.int .i64 n.ag.r,.bool n.ag.ac,.bool n.ag.ar,.slice A m c] 106)=wa:=⟨_,rfl⟩;have uK:Below w.heap.size w wa:=by rw[← Ae];exact(ak _ _).alloc (aj _) _
 have hz:wa.heap.size=w.heap.size+1:=by rw[← Ae,iC]
 have hx1:aF wa w.heap.size n (.slice A m c):=by rw[← Ae];exact hx
 have hb:Below wa.heap.size wa (wa.alloc (.cells vF 106)):=(ak _ _).alloc (aj _) _;have hy:=aF.new wa Nd.zero (.slice none 0 0);rw[hz]at hy;refine⟨wa.alloc (.cells vF 106),by rw[Ae],hx1.below hb hx1.lt,hy,uK.trans (hb.mono uK.size),by rw[iC,hz];exact Nat.lt_succ_self _⟩
theorem Rl (w:World)(n:Nd)(h2:n.kind=2)(hs:n.text.size≤1000000)(A:Option Addr)(m c:Nat):Calls Tryz.prog 123 #[.agg #[.int .i64 n.kind,.int .i64 n.num,.string n.text,.string n.ref.sh,.int .i64 n.ref.c,.int .i64 n.ref.r,.bool n.ref.ac,.bool n.ref.ar,.string n.ag.sh,.int .i64 n.ag.c,.int .i64 n.ag.r,.bool n.ag.ac,.bool n.ag.ar,.slice A m c]] w fun e w'=>e = .returned (.tuple #[.agg (dh { Nd.zero with text:=n.text } (.slice none 0 0)),.bool (kD (sb n.text))])∧Below w.heap.size w w':=by
 obtain⟨w1,hw1,hx2,hy,hb,hb2⟩:=rT w n A m c;have HB:=ae hb;obtain⟨x0,x1,x2,x3,x4,x5,x6,x7,aY,eF,eD,jU,jV,iQ⟩:=hx2.cells;have e1:(n.kind == 1)=false:=by rw[h2];rfl
 have e2:(n.kind == 2)=true:=bI.2 h2;clear h2;go_enter Tryz.func123,Tryz.ntmps123;go_upto_region 5 with (fail)
 clear hw1 hb;obtain⟨y0,y1,y2,y3,y4,iy,y6,iA,iR,kN,kM,oJ,oK,y13⟩:=hy.cells;obtain⟨f0,f1,f2,f3,f4,f5,f6,f7,f8,f9,f10,f11,f12,f13⟩:=hy.dM;have gL:=ae hy;have HX:=ae hx2;clear hx2 hy;have HT:=ae (fun w=>TE n.text w hs)
 go_region_with (go_at_call 156;((with_reducible refine(HT.o _).mono ?_);rintro e w2 ⟨rfl,rfl⟩))
 all_goals go_wp2_with fail
 all_goals exact bodyPost_ret (qC (gL.o.qE { Nd.zero with text:=n.text } (.slice none 0 0)).drew _ _ _ 2 3 qF rfl rfl) rfl ⟨rfl,(qp HB.o (by have:=HB.o.size;omega) _ _ _ _ _ _ _ _ _ _ _ _ _ _).drew⟩
theorem Rm (w:World)(n:Nd)(h3:n.kind=3)(h0:n.num=0)(A:Option Addr)(m c:Nat):Calls Tryz.prog 123 #[.agg #[.int .i64 n.kind,.int .i64 n.num,.string n.text,.string n.ref.sh,.int .i64 n.ref.c,.int .i64 n.ref.r,.bool n.ref.ac,.bool n.ref.ar,.string n.ag.sh,.int .i64 n.ag.c,.int .i64 n.ag.r,.bool n.ag.ac,.bool n.ag.ar,.slice A m c]] w fun e w'=>e = .returned (.tuple #[.agg (dh { Nd.zero with num:=n.num } (.slice none 0 0)),.bool true])∧Below w.heap.size w w':=by
 obtain⟨w1,hw1,hx2,hy,hb,hb2⟩:=rT w n A m c;have HB:=ae hb;obtain⟨x0,x1,x2,x3,x4,x5,x6,x7,aY,eF,eD,jU,jV,iQ⟩:=hx2.cells;have e1:(n.kind == 1)=false:=by rw[h3];rfl
 have e2:(n.kind == 2)=false:=by rw[h3];rfl
 have e3:(n.kind == 3)=true:=bI.2 h3;clear h3;have q0:(n.num == 0)=true:=bI.2 h0;clear h0;go_enter Tryz.func123,Tryz.ntmps123;go_upto_region 7 with (fail)
 clear hw1 hb;obtain⟨y0,y1,y2,y3,y4,iy,y6,iA,iR,kN,kM,oJ,oK,y13⟩:=hy.cells;obtain⟨f0,f1,f2,f3,f4,f5,f6,f7,f8,f9,f10,f11,f12,f13⟩:=hy.dM;have gL:=ae hy;have HX:=ae hx2;clear hx2 hy
 go_region
 all_goals go_wp2_with fail
 all_goals exact bodyPost_ret (qC (gL.o.qE { Nd.zero with num:=n.num } (.slice none 0 0)).drew _ _ _ 2 3 qF rfl rfl) rfl ⟨rfl,(qp HB.o (by have:=HB.o.size;omega) _ _ _ _ _ _ _ _ _ _ _ _ _ _).drew⟩
theorem Rn (w:World)(n:Nd)(h3:n.kind=3)(h0:n.num=1)(A:Option Addr)(m c:Nat):Calls Tryz.prog 123 #[.agg #[.int .i64 n.kind,.int .i64 n.num,.string n.text,.string n.ref.sh,.int .i64 n.ref.c,.int .i64 n.ref.r,.bool n.ref.ac,.bool n.ref.ar,.string n.ag.sh,.int .i64 n.ag.c,.int .i64 n.ag.r,.bool n.ag.ac,.bool n.ag.ar,.slice A m c]] w fun e w'=>e = .returned (.tuple #[.agg (dh { Nd.zero with num:=n.num } (.slice none 0 0)),.bool true])∧Below w.heap.size w w':=by
 obtain⟨w1,hw1,hx2,hy,hb,hb2⟩:=rT w n A m c;have HB:=ae hb;obtain⟨x0,x1,x2,x3,x4,x5,x6,x7,aY,eF,eD,jU,jV,iQ⟩:=hx2.cells;have e1:(n.kind == 1)=false:=by rw[h3];rfl
 have e2:(n.kind == 2)=false:=by rw[h3];rfl
 have e3:(n.kind == 3)=true:=bI.2 h3;clear h3;have q0:(n.num == 0)=false:=by rw[h0];rfl
 have q1:(n.num == 1)=true:=bI.2 h0;clear h0;go_enter Tryz.func123,Tryz.ntmps123;go_upto_region 7 with (fail)
 clear hw1 hb;obtain⟨y0,y1,y2,y3,y4,iy,y6,iA,iR,kN,kM,oJ,oK,y13⟩:=hy.cells;obtain⟨f0,f1,f2,f3,f4,f5,f6,f7,f8,f9,f10,f11,f12,f13⟩:=hy.dM;have gL:=ae hy;have HX:=ae hx2;clear hx2 hy
 go_region
 all_goals go_wp2_with fail
 all_goals exact bodyPost_ret (qC (gL.o.qE { Nd.zero with num:=n.num } (.slice none 0 0)).drew _ _ _ 2 3 qF rfl rfl) rfl ⟨rfl,(qp HB.o (by have:=HB.o.size;omega) _ _ _ _ _ _ _ _ _ _ _ _ _ _).drew⟩
theorem Ro (w:World)(n:Nd)(h5:n.kind=5)(hs:n.ref.sh.size≤1000000)(A:Option Addr)(m c:Nat):Calls Tryz.prog 123 #[.agg #[.int .i64 n.kind,.int .i64 n.num,.string n.text,.string n.ref.sh,.int .i64 n.ref.c,.int .i64 n.ref.r,.bool n.ref.ac,.bool n.ref.ar,.string n.ag.sh,.int .i64 n.ag.c,.int .i64 n.ag.r,.bool n.ag.ac,.bool n.ag.ar,.slice A m c]] w fun e w'=>e = .returned (.tuple #[.agg (dh { Nd.zero with ref:=n.ref } (.slice none 0 0)),.bool (eu n.ref)])∧Below w.heap.size w w':=by
 obtain⟨w1,hw1,hx2,hy,hb,hb2⟩:=rT w n A m c;have HB:=ae hb;obtain⟨x0,x1,x2,x3,x4,x5,x6,x7,aY,eF,eD,jU,jV,iQ⟩:=hx2.cells;have e1:(n.kind == 1)=false:=by rw[h5];rfl
 have e2:(n.kind == 2)=false:=by rw[h5];rfl
 have e3:(n.kind == 3)=false:=by rw[h5];rfl
 have e5:(n.kind == 5)=true:=bI.2 h5;clear h5;go_enter Tryz.func123,Tryz.ntmps123;go_upto_region 9 with (fail)
 clear hw1 hb;obtain⟨y0,y1,y2,y3,y4,iy,y6,iA,iR,kN,kM,oJ,oK,y13⟩:=hy.cells;obtain⟨f0,f1,f2,f3,f4,f5,f6,f7,f8,f9,f10,f11,f12,f13⟩:=hy.dM;have gL:=ae hy;have HX:=ae hx2;clear hx2 hy;have HT:=ae (fun w=>ym n.ref.sh n.ref.c n.ref.r n.ref.ac n.ref.ar w hs);go_region_held3 (fun w'=>w'.cell? ⟨w.heap.size,3,none⟩=some (.string n.ref.sh)∧w'.cell? ⟨w.heap.size,4,none⟩=some (.int .i64 n.ref.c)∧w'.cell? ⟨w.heap.size,5,none⟩=some (.int .i64 n.ref.r)∧w'.cell? ⟨w.heap.size,6,none⟩=some (.bool n.ref.ac)∧w'.cell? ⟨w.heap.size,7,none⟩=some (.bool n.ref.ar)) (go_keep) (first|(go_at_call 157;((with_reducible refine(HT.o _).mono ?_);rintro e w2 ⟨rfl,h1⟩;have nP:=ae (gL.o.drew.below h1 gL.o.lt);have j6:=ae (HX.o.drew.below h1 HX.o.lt);have HB2:=ae (HB.o.drew.trans (h1.mono HB.o.size));obtain⟨z0,z1,z2,z3,z4,z5,z6,z7,uh,z9,ug,wS,z12,wT⟩:=nP.o.cells;obtain⟨g0,g1,g2,g3,g4,g5,g6,g7,g8,g9,g10,g11,g12,g13⟩:=nP.o.dM;obtain⟨t0,t1,t2,t3,t4,t5,t6,t7,t8,t9,t10,t11,t12,t13⟩:=j6.o.cells;clear h1)))
 all_goals go_wp2_with fail
 all_goals exact bodyPost_ret (qC (nP.o.qE { Nd.zero with ref:=n.ref } (.slice none 0 0)) _ _ _ 2 3 qF rfl rfl) rfl ⟨rfl,qp HB2.o (by have:=HB.o.size;omega) _ _ _ _ _ _ _ _ _ _ _ _ _ _⟩
theorem Rq (w:World)(n:Nd)(h7:n.kind=7)(hv:Vars w)(A:Option Addr)(m c:Nat):Calls Tryz.prog 123 #[.agg #[.int .i64 n.kind,.int .i64 n.num,.string n.text,.string n.ref.sh,.int .i64 n.ref.c,.int .i64 n.ref.r,.bool n.ref.ac,.bool n.ref.ar,.string n.ag.sh,.int .i64 n.ag.c,.int .i64 n.ag.r,.bool n.ag.ac,.bool n.ag.ar,.slice A m c]] w fun e w'=>e = .returned (.tuple #[.agg (dh { Nd.zero with text:=n.text } (.slice none 0 0)),.bool (jF n.text)])∧Below w.heap.size w w':=by
 obtain⟨w1,hw1,hx2,hy,hb,hb2⟩:=rT w n A m c;have HB:=ae hb;obtain⟨x0,x1,x2,x3,x4,x5,x6,x7,aY,eF,eD,jU,jV,iQ⟩:=hx2.cells;have e1:(n.kind == 1)=false:=by rw[h7];rfl
 have e2:(n.kind == 2)=false:=by rw[h7];rfl
 have e3:(n.kind == 3)=false:=by rw[h7];rfl
 have e5:(n.kind == 5)=false:=by rw[h7];rfl
 have e6:(n.kind == 6)=false:=by rw[h7];rfl
 have e7:(n.kind == 7)=true:=bI.2 h7;clear h7;have Oz:=ae hv;clear hv;go_enter Tryz.func123,Tryz.ntmps123;go_upto_region 13 with (fail)
 clear hw1 hb;obtain⟨y0,y1,y2,y3,y4,iy,y6,iA,iR,kN,kM,oJ,oK,y13⟩:=hy.cells;obtain⟨f0,f1,f2,f3,f4,f5,f6,f7,f8,f9,f10,f11,f12,f13⟩:=hy.dM;have gL:=ae hy;have HX:=ae hx2;clear hx2 hy;have HT:=ae (fun wr (hb:Below w.heap.size w wr)=>TA n.text wr (Oz.o.below hb));go_region_held3 (fun w'=>w'.cell? ⟨w.heap.size,2,none⟩=some (.string n.text)) (go_keep) (first|(go_at_call 158;((with_reducible refine(HT.o _ HB.o.drew).mono ?_);rintro e w2 ⟨rfl,h1⟩;have nP:=ae (gL.o.drew.below h1 gL.o.lt);have j6:=ae (HX.o.drew.below h1 HX.o.lt);have HB2:=ae (HB.o.drew.trans (h1.mono HB.o.size));clear h1;obtain⟨z0,z1,z2,z3,z4,z5,z6,z7,uh,z9,ug,wS,z12,wT⟩:=nP.o.cells;obtain⟨g0,g1,g2,g3,g4,g5,g6,g7,g8,g9,g10,g11,g12,g13⟩:=nP.o.dM;obtain⟨t0,t1,t2,t3,t4,t5,t6,t7,t8,t9,t10,t11,t12,t13⟩:=j6.o.cells)))
 all_goals go_wp2_with fail
 all_goals exact bodyPost_ret (qC (nP.o.qE { Nd.zero with text:=n.text } (.slice none 0 0)) _ _ _ 2 3 qF rfl rfl) rfl ⟨rfl,qp HB2.o (by have:=HB.o.size;omega) _ _ _ _ _ _ _ _ _ _ _ _ _ _⟩
theorem Rp (w:World)(n:Nd)(h6:n.kind=6)(hs:n.ref.sh.size≤1000000)(ht:n.ag.sh.size≤1000000)(q1:eu n.ref=true)(q2:eu n.ag=true)(A:Option Addr)(m c:Nat):Calls Tryz.prog 123 #[.agg #[.int .i64 n.kind,.int .i64 n.num,.string n.text,.string n.ref.sh,.int .i64 n.ref.c,.int .i64 n.ref.r,.bool n.ref.ac,.bool n.ref.ar,.string n.ag.sh,.int .i64 n.ag.c,.int .i64 n.ag.r,.bool n.ag.ac,.bool n.ag.ar,.slice A m c]] w fun e w'=>e = .returned (.tuple #[.agg (dh ⟨0,0,⟨#[]⟩,n.ref,n.ag,[]⟩ (.slice none 0 0)),.bool (gU n.ref n.ag)])∧Below w.heap.size w w':=by
 obtain⟨w1,hw1,hx2,hy,hb,hb2⟩:=rT w n A m c;have HB:=ae hb;obtain⟨x0,x1,x2,x3,x4,x5,x6,x7,aY,eF,eD,jU,jV,iQ⟩:=hx2.cells;have e1:(n.kind == 1)=false:=by rw[h6];rfl
 have e2:(n.kind == 2)=false:=by rw[h6];rfl
 have e3:(n.kind == 3)=false:=by rw[h6];rfl
 have e5:(n.kind == 5)=false:=by rw[h6];rfl
 have e6:(n.kind == 6)=true:=bI.2 h6;clear h6;go_enter Tryz.func123,Tryz.ntmps123;go_upto_region 11 with (fail)
 clear hw1 hb;obtain⟨y0,y1,y2,y3,y4,iy,y6,iA,iR,kN,kM,oJ,oK,y13⟩:=hy.cells;obtain⟨f0,f1,f2,f3,f4,f5,f6,f7,f8,f9,f10,f11,f12,f13⟩:=hy.dM;have gL:=ae hy;have HX:=ae hx2;clear hx2 hy;have HT1:=ae (show ∀w,Calls Tryz.prog 157 #[.agg #[.string n.ref.sh,.int .i64 n.ref.c,.int .i64 n.ref.r,.bool n.ref.ac,.bool n.ref.ar]] w fun e w'=>e = .returned (.bool true)∧Below w.heap.size w w' from fun w=>by rw[← q1];exact ym n.ref.sh n.ref.c n.ref.r n.ref.ac n.ref.ar w hs);have HT2:=ae (show ∀w,Calls Tryz.prog 157 #[.agg #[.string n.ag.sh,.int .i64 n.ag.c,.int .i64 n.ag.r,.bool n.ag.ac,.bool n.ag.ar]] w fun e w'=>e = .returned (.bool true)∧Below w.heap.size w w' from fun w=>by rw[← q2];exact ym n.ag.sh n.ag.c n.ag.r n.ag.ac n.ag.ar w ht);have HT3:=ae (fun w=>J5 n.ref.sh n.ag.sh n.ref.c n.ref.r n.ag.c n.ag.r n.ref.ac n.ref.ar n.ag.ac n.ag.ar w)
 first
  | go_region_held3 (fun w'=>w'.cell? ⟨w.heap.size,3,none⟩=some (.string n.ref.sh)∧w'.cell? ⟨w.heap.size,4,none⟩=some (.int .i64 n.ref.c)∧w'.cell? ⟨w.heap.size,5,none⟩=some (.int .i64 n.ref.r)∧w'.cell? ⟨w.heap.size,6,none⟩=some (.bool n.ref.ac)∧w'.cell? ⟨w.heap.size,7,none⟩=some (.bool n.ref.ar)∧w'.cell? ⟨w.heap.size,8,none⟩=some (.string n.ag.sh)∧w'.cell? ⟨w.heap.size,9,none⟩=some (.int .i64 n.ag.c)∧w'.cell? ⟨w.heap.size,10,none⟩=some (.int .i64 n.ag.r)∧w'.cell? ⟨w.heap.size,11,none⟩=some (.bool n.ag.ac)∧w'.cell? ⟨w.heap.size,12,none⟩=some (.bool n.ag.ar)) (go_keep) (first|(go_at_call 157;((with_reducible refine(HT1.o _).mono ?_);rintro e w2 ⟨rfl,h1⟩;have nP:=ae (gL.o.drew.below h1 gL.o.lt);have j6:=ae (HX.o.drew.below h1 HX.o.lt);have HB2:=ae (HB.o.drew.trans (h1.mono HB.o.size));clear h1;obtain⟨z0,z1,z2,z3,z4,z5,z6,z7,uh,z9,ug,wS,z12,wT⟩:=nP.o.cells;obtain⟨g0,g1,g2,g3,g4,g5,g6,g7,g8,g9,g10,g11,g12,g13⟩:=nP.o.dM;obtain⟨t0,t1,t2,t3,t4,t5,t6,t7,t8,t9,t10,t11,t12,t13⟩:=j6.o.cells))|(go_at_call 157;((with_reducible refine(HT2.o _).mono ?_);rintro e w3 ⟨rfl,h1⟩;have uB:=ae (nP.o.below h1 nP.o.lt);have lG:=ae (j6.o.below h1 j6.o.lt);have HB3:=ae (HB2.o.trans (h1.mono HB2.o.size));clear h1;obtain⟨z0,z1,z2,z3,z4,z5,z6,z7,uh,z9,ug,wS,z12,wT⟩:=uB.o.cells;obtain⟨g0,g1,g2,g3,g4,g5,g6,g7,g8,g9,g10,g11,g12,g13⟩:=uB.o.dM;obtain⟨t0,t1,t2,t3,t4,t5,t6,t7,t8,t9,t10,t11,t12,t13⟩:=lG.o.cells))|(go_at_call 153;((with_reducible refine(HT3.o _).mono ?_);rintro e w4 ⟨rfl,h1⟩;have Cu:=ae (uB.o.below h1 uB.o.lt);have xA:=ae (lG.o.below h1 lG.o.lt);have dz:=ae (HB3.o.trans (h1.mono HB3.o.size));clear h1;obtain⟨z0,z1,z2,z3,z4,z5,z6,z7,uh,z9,ug,wS,z12,wT⟩:=Cu.o.cells;obtain⟨g0,g1,g2,g3,g4,g5,g6,g7,g8,g9,g10,g11,g12,g13⟩:=Cu.o.dM;obtain⟨t0,t1,t2,t3,t4,t5,t6,t7,t8,t9,t10,t11,t12,t13⟩:=xA.o.cells)))
  | fail
 all_goals go_wp2_with fail
 all_goals exact bodyPost_ret (qC (Cu.o.qE ⟨0,0,⟨#[]⟩,n.ref,n.ag,[]⟩ (.slice none 0 0)) _ _ _ 2 3 qF rfl rfl) rfl ⟨rfl,qp dz.o (by have:=HB.o.size;omega) _ _ _ _ _ _ _ _ _ _ _ _ _ _⟩
theorem Rh (w:World)(n:Nd)(h1:¬ n.kind=1)(h2:¬ n.kind=2)(h3:¬ n.kind=3)(h5:¬ n.kind=5)(h6:¬ n.kind=6)(h7:¬ n.kind=7)(h4:n.kind=4)(A:Option Addr)(m c:Nat):Calls Tryz.prog 123 #[.agg #[.int .i64 n.kind,.int .i64 n.num,.string n.text,.string n.ref.sh,.int .i64 n.ref.c,.int .i64 n.ref.r,.bool n.ref.ac,.bool n.ref.ar,.string n.ag.sh,.int .i64 n.ag.c,.int .i64 n.ag.r,.bool n.ag.ac,.bool n.ag.ar,.slice A m c]] w fun e w'=>e = .returned (.tuple #[.agg (dh Nd.zero (.slice none 0 0)),.bool true])∧Below w.heap.size w w':=by
 obtain⟨w1,hw1,hx2,hy,hb,hb2⟩:=rT w n A m c;have HB:=ae hb;obtain⟨x0,x1,x2,x3,x4,x5,x6,x7,aY,eF,eD,jU,jV,iQ⟩:=hx2.cells;have e1:(n.kind == 1)=false:=aB.2 h1;have e2:(n.kind == 2)=false:=aB.2 h2;have e3:(n.kind == 3)=false:=aB.2 h3;have e5:(n.kind == 5)=false:=aB.2 h5;have e6:(n.kind == 6)=false:=aB.2 h6;have e7:(n.kind == 7)=false:=aB.2 h7;clear h1 h2 h3 h5 h6 h7;have e4:(n.kind == 4)=true:=bI.2 h4;clear h4;go_enter Tryz.func123,Tryz.ntmps123;go_upto_region 14 with (fail)
 clear hw1 hb;obtain⟨y0,y1,y2,y3,y4,iy,y6,iA,iR,kN,kM,oJ,oK,y13⟩:=hy.cells;obtain⟨f0,f1,f2,f3,f4,f5,f6,f7,f8,f9,f10,f11,f12,f13⟩:=hy.dM;have gL:=ae hy;have HX:=ae hx2;clear hx2 hy;go_wp2_with (go_at_call 159;((with_reducible refine(yg _ _).mono ?_);rintro e w2 ⟨rfl,rfl⟩))
 all_goals exact bodyPost_ret (qC (gL.o.qE Nd.zero (.slice none 0 0)) _ _ _ 2 3 qF rfl rfl) rfl ⟨rfl,qp HB.o (by have:=HB.o.size;omega) _ _ _ _ _ _ _ _ _ _ _ _ _ _⟩
theorem Ri (w:World)(n:Nd)(h1:¬ n.kind=1)(h2:¬ n.kind=2)(h3:¬ n.kind=3)(h5:¬ n.kind=5)(h6:¬ n.kind=6)(h7:¬ n.kind=7)(h4:n.kind=8)(A:Option Addr)(m c:Nat):Calls Tryz.prog 123 #[.agg #[.int .i64 n.kind,.int .i64 n.num,.string n.text,.string n.ref.sh,.int .i64 n.ref.c,.int .i64 n.ref.r,.bool n.ref.ac,.bool n.ref.ar,.string n.ag.sh,.int .i64 n.ag.c,.int .i64 n.ag.r,.bool n.ag.ac,.bool n.ag.ar,.slice A m c]] w fun e w'=>e = .returned (.tuple #[.agg (dh Nd.zero (.slice none 0 0)),.bool true])∧Below w.heap.size w w':=by
 obtain⟨w1,hw1,hx2,hy,hb,hb2⟩:=rT w n A m c;have HB:=ae hb;obtain⟨x0,x1,x2,x3,x4,x5,x6,x7,aY,eF,eD,jU,jV,iQ⟩:=hx2.cells;have e1:(n.kind == 1)=false:=aB.2 h1;have e2:(n.kind == 2)=false:=aB.2 h2;have e3:(n.kind == 3)=false:=aB.2 h3;have e5:(n.kind == 5)=false:=aB.2 h5;have e6:(n.kind == 6)=false:=aB.2 h6;have e7:(n.kind == 7)=false:=aB.2 h7;clear h1 h2 h3 h5 h6 h7;have e4:(n.kind == 4)=false:=by rw[h4];rfl
 have e8:(n.kind == 8)=true:=bI.2 h4;clear h4;go_enter Tryz.func123,Tryz.ntmps123;go_upto_region 14 with (fail)
 clear hw1 hb;obtain⟨y0,y1,y2,y3,y4,iy,y6,iA,iR,kN,kM,oJ,oK,y13⟩:=hy.cells;obtain⟨f0,f1,f2,f3,f4,f5,f6,f7,f8,f9,f10,f11,f12,f13⟩:=hy.dM;have gL:=ae hy;have HX:=ae hx2;clear hx2 hy;go_wp2_with (go_at_call 159;((with_reducible refine(yg _ _).mono ?_);rintro e w2 ⟨rfl,rfl⟩))
 all_goals exact bodyPost_ret (qC (gL.o.qE Nd.zero (.slice none 0 0)) _ _ _ 2 3 qF rfl rfl) rfl ⟨rfl,qp HB.o (by have:=HB.o.size;omega) _ _ _ _ _ _ _ _ _ _ _ _ _ _⟩
theorem Rj (w:World)(n:Nd)(h1:¬ n.kind=1)(h2:¬ n.kind=2)(h3:¬ n.kind=3)(h5:¬ n.kind=5)(h6:¬ n.kind=6)(h7:¬ n.kind=7)(h4:¬ n.kind=4)(h8:¬ n.kind=8)(A:Option Addr)(m c:Nat):Calls Tryz.prog 123 #[.agg #[.int .i64 n.kind,.int .i64 n.num,.string n.text,.string n.ref.sh,.int .i64 n.ref.c,.int .i64 n.ref.r,.bool n.ref.ac,.bool n.ref.ar,.string n.ag.sh,.int .i64 n.ag.c,.int .i64 n.ag.r,.bool n.ag.ac,.bool n.ag.ar,.slice A m c]] w fun e w'=>e = .returned (.tuple #[.agg (dh Nd.zero (.slice none 0 0)),.bool (qM n.kind)])∧Below w.heap.size w w':=by
 obtain⟨w1,hw1,hx2,hy,hb,hb2⟩:=rT w n A m c;have HB:=ae hb;obtain⟨x0,x1,x2,x3,x4,x5,x6,x7,aY,eF,eD,jU,jV,iQ⟩:=hx2.cells;have e1:(n.kind == 1)=false:=aB.2 h1;have e2:(n.kind == 2)=false:=aB.2 h2;have e3:(n.kind == 3)=false:=aB.2 h3;have e5:(n.kind == 5)=false:=aB.2 h5;have e6:(n.kind == 6)=false:=aB.2 h6;have e7:(n.kind == 7)=false:=aB.2 h7;clear h1 h2 h3 h5 h6 h7;have e4:(n.kind == 4)=false:=aB.2 h4;have e8:(n.kind == 8)=false:=aB.2 h8;clear h4 h8;go_enter Tryz.func123,Tryz.ntmps123;go_upto_region 14 with (fail)
 clear hw1 hb;obtain⟨y0,y1,y2,y3,y4,iy,y6,iA,iR,kN,kM,oJ,oK,y13⟩:=hy.cells;obtain⟨f0,f1,f2,f3,f4,f5,f6,f7,f8,f9,f10,f11,f12,f13⟩:=hy.dM;have gL:=ae hy;have HX:=ae hx2;clear hx2 hy;go_wp2_with (go_at_call 159;((with_reducible refine(yg _ _).mono ?_);rintro e w2 ⟨rfl,rfl⟩))
 all_goals exact bodyPost_ret (qC (gL.o.qE Nd.zero (.slice none 0 0)) _ _ _ 2 3 qF rfl rfl) rfl ⟨rfl,qp HB.o (by have:=HB.o.size;omega) _ _ _ _ _ _ _ _ _ _ _ _ _ _⟩
def dZ(a b:bJ):Bool:=decide (a.sh=b.sh)&&(decide (a.c=b.c)&&(decide (a.r=b.r)&&((a.ac == b.ac)&&(a.ar == b.ar))))
theorem CX (a b:bJ):dZ a b=true↔a=b:=by
 unfold dZ;simp only[bu,aA,bI];cases a;cases b
 simp
def pU(n:Nd)(m:Nat):Bool:=okF n&&(hkB n.kind m&&(decide (n.num=(eB n).num)&&(decide (n.text=(eB n).text)&&(dZ n.ref (eB n).ref&&dZ n.ag (eB n).ag))))
theorem CY(a:bJ):dZ a a=true:=(CX a a).2 rfl
theorem KT (r:bJ):jo r=dZ r bJ.zero:=by
 obtain⟨sh,c,r,ac,ar⟩:=r;unfold jo dZ bJ.zero;simp only;rw[Bool.eq_iff_iff];simp only[bu,aA,bI,Bool.not_eq_true'];constructor
 · rintro⟨⟨h1,h2,h3⟩,h4,h5⟩;exact⟨h1,h2,h3,h4,h5⟩
 · rintro⟨h1,h2,h3,h4,h5⟩;exact⟨⟨h1,h2,h3⟩,h4,h5⟩
def wE (n:Nd):Bool :=
 if n.kind=1 then decide (0≤n.num)else if n.kind=2 then kD (sb n.text)else if n.kind=3 then decide (n.num=0∨n.num=1)
 else if n.kind=5 then eu n.ref else if n.kind=6 then eu n.ref&&(eu n.ag&&gU n.ref n.ag)else if n.kind=7 then jF n.text else true
def pq(n:Nd):Bool:=decide (n.kind=1∨n.kind=3∨n.num=0)
def pE(n:Nd):Bool:=decide (n.kind=2∨n.kind=7∨n.text=⟨#[]⟩)
def pz(n:Nd):Bool:=decide (n.kind=5∨n.kind=6)||dZ n.ref bJ.zero
def pF(n:Nd):Bool:=decide (n.kind=6)||dZ n.ag bJ.zero
theorem Au (n:Nd):(n.kind=1∧eB n={ Nd.zero with num:=n.num })∨(n.kind=2∧eB n={ Nd.zero with text:=n.text })∨(n.kind=3∧eB n={ Nd.zero with num:=n.num })∨(n.kind=5∧eB n={ Nd.zero with ref:=n.ref })∨(n.kind=6∧eB n=⟨0,0,⟨#[]⟩,n.ref,n.ag,[]⟩)∨(n.kind=7∧eB n={ Nd.zero with text:=n.text })∨(¬ n.kind=1∧¬ n.kind=2∧¬ n.kind=3∧¬ n.kind=5∧¬ n.kind=6∧¬ n.kind=7∧eB n=Nd.zero):=by
 unfold eB;by_cases h1:n.kind=1
 · exact Or.inl ⟨h1,by rw[ah h1]⟩
 by_cases h2:n.kind=2
 · exact Or.inr <| Or.inl ⟨h2,by rw[af h1,ah h2]⟩
 by_cases h3:n.kind=3
 · exact Or.inr <| Or.inr <| Or.inl ⟨h3,by rw[af h1,af h2,ah h3]⟩
 by_cases h5:n.kind=5
 · exact Or.inr <| Or.inr <| Or.inr <| Or.inl ⟨h5,by rw[af h1,af h2,af h3,ah h5]⟩
 by_cases h6:n.kind=6
 · exact Or.inr <| Or.inr <| Or.inr <| Or.inr <| Or.inl ⟨h6,by rw[af h1,af h2,af h3,af h5,ah h6]⟩
 by_cases h7:n.kind=7
 · exact Or.inr <| Or.inr <| Or.inr <| Or.inr <| Or.inr <| Or.inl ⟨h7,by rw[af h1,af h2,af h3,af h5,af h6,ah h7]⟩
 exact Or.inr <| Or.inr <| Or.inr <| Or.inr <| Or.inr <| Or.inr <| ⟨h1,h2,h3,h5,h6,h7,by rw[af h1,af h2,af h3,af h5,af h6,af h7]⟩
theorem Vf (n:Nd):decide (n.num=(eB n).num)=pq n:=by
 rcases Au n with ⟨h,e⟩|⟨h,e⟩|⟨h,e⟩|⟨h,e⟩|⟨h,e⟩|⟨h,e⟩|⟨h1,h2,h3,h5,h6,h7,e⟩
 · rw[e];unfold pq;rw[show decide (n.num=n.num)=true from aL rfl];symm;rw[aA];first|exact .inl h|exact .inr (.inl h)
 · rw [e];unfold pq;show decide (n.num=0)=_;rw[decide_eq_decide];constructor
   · intro g;exact .inr (.inr g)
   · rintro(g|g|g)
     · omega
     · omega
     · exact g
 · rw[e];unfold pq;rw[show decide (n.num=n.num)=true from aL rfl];symm;rw[aA];first|exact .inl h|exact .inr (.inl h)
 · rw [e];unfold pq;show decide (n.num=0)=_;rw[decide_eq_decide];constructor
   · intro g;exact .inr (.inr g)
   · rintro(g|g|g)
     · omega
     · omega
     · exact g
 · rw [e];unfold pq;show decide (n.num=0)=_;rw[decide_eq_decide];constructor
   · intro g;exact .inr (.inr g)
   · rintro(g|g|g)
     · omega
     · omega
     · exact g
 · rw [e];unfold pq;show decide (n.num=0)=_;rw[decide_eq_decide];constructor
   · intro g;exact .inr (.inr g)
   · rintro(g|g|g)
     · omega
     · omega
     · exact g
 · rw [e];unfold pq;show decide (n.num=0)=_;rw[decide_eq_decide];constructor
   · intro g;exact .inr (.inr g)
   · rintro(g|g|g)
     · omega
     · omega
     · exact g
theorem Vh (n:Nd):decide (n.text=(eB n).text)=pE n:=by
 rcases Au n with ⟨h,e⟩|⟨h,e⟩|⟨h,e⟩|⟨h,e⟩|⟨h,e⟩|⟨h,e⟩|⟨h1,h2,h3,h5,h6,h7,e⟩
 · rw [e];unfold pE;show decide (n.text=⟨#[]⟩)=_;rw[decide_eq_decide];constructor
   · intro g;exact .inr (.inr g)
   · rintro(g|g|g)
     · omega
     · omega
     · exact g
 · rw[e];unfold pE;rw[show decide (n.text=n.text)=true from aL rfl];symm;rw[aA];first|exact .inl h|exact .inr (.inl h)
 · rw [e];unfold pE;show decide (n.text=⟨#[]⟩)=_;rw[decide_eq_decide];constructor
   · intro g;exact .inr (.inr g)
   · rintro(g|g|g)
     · omega
     · omega
     · exact g
 · rw [e];unfold pE;show decide (n.text=⟨#[]⟩)=_;rw[decide_eq_decide];constructor
   · intro g;exact .inr (.inr g)
   · rintro(g|g|g)
     · omega
     · omega
     · exact g
 · rw [e];unfold pE;show decide (n.text=⟨#[]⟩)=_;rw[decide_eq_decide];constructor
   · intro g;exact .inr (.inr g)
   · rintro(g|g|g)
     · omega
     · omega
     · exact g
 · rw[e];unfold pE;rw[show decide (n.text=n.text)=true from aL rfl];symm;rw[aA];first|exact .inl h|exact .inr (.inl h)
 · rw [e];unfold pE;show decide (n.text=⟨#[]⟩)=_;rw[decide_eq_decide];constructor
   · intro g;exact .inr (.inr g)
   · rintro(g|g|g)
     · omega
     · omega
     · exact g
theorem Vg (n:Nd):dZ n.ref (eB n).ref=pz n:=by
 rcases Au n with ⟨h,e⟩|⟨h,e⟩|⟨h,e⟩|⟨h,e⟩|⟨h,e⟩|⟨h,e⟩|⟨h1,h2,h3,h5,h6,h7,e⟩
 · rw[e];unfold pz;show dZ n.ref bJ.zero=_;rw[aK (by omega)];rfl
 · rw[e];unfold pz;show dZ n.ref bJ.zero=_;rw[aK (by omega)];rfl
 · rw[e];unfold pz;show dZ n.ref bJ.zero=_;rw[aK (by omega)];rfl
 · rw[e];unfold pz;rw[show dZ n.ref n.ref=true from CY _,aL (by omega)];rfl
 · rw[e];unfold pz;rw[show dZ n.ref n.ref=true from CY _,aL (by omega)];rfl
 · rw[e];unfold pz;show dZ n.ref bJ.zero=_;rw[aK (by omega)];rfl
 · rw[e];unfold pz;show dZ n.ref bJ.zero=_;rw[aK (by omega)];rfl
theorem Vi (n:Nd):dZ n.ag (eB n).ag=pF n:=by
 rcases Au n with ⟨h,e⟩|⟨h,e⟩|⟨h,e⟩|⟨h,e⟩|⟨h,e⟩|⟨h,e⟩|⟨h1,h2,h3,h5,h6,h7,e⟩
 · rw[e];unfold pF;show dZ n.ag bJ.zero=_;rw[aK (by omega)];rfl
 · rw[e];unfold pF;show dZ n.ag bJ.zero=_;rw[aK (by omega)];rfl
 · rw[e];unfold pF;show dZ n.ag bJ.zero=_;rw[aK (by omega)];rfl
 · rw[e];unfold pF;show dZ n.ag bJ.zero=_;rw[aK (by omega)];rfl
 · rw[e];unfold pF;rw[show dZ n.ag n.ag=true from CY _,aL (by omega)];rfl
 · rw[e];unfold pF;show dZ n.ag bJ.zero=_;rw[aK (by omega)];rfl
 · rw[e];unfold pF;show dZ n.ag bJ.zero=_;rw[aK (by omega)];rfl
theorem Uq (n:Nd):iI n=((pq n&&(pE n&&(pz n&&pF n)))&&wE n):=by
 unfold iI pq pE pz pF;rw[KT,KT]
 have hk:(if n.kind=1 then decide (0≤n.num)else if n.kind=3 then decide (n.num=0∨n.num=1)else if n.kind=2 then kD (sb n.text)else if n.kind=7 then jF n.text else if n.kind=5 then eu n.ref else if n.kind=6 then eu n.ref&&(eu n.ag&&gU n.ref n.ag)else true)=wE n:=by
  unfold wE;by_cases h1:n.kind=1
  · rw[ah h1,ah h1]
  by_cases h2:n.kind=2
  · rw[af h1,af (by omega),ah h2,af h1,ah h2]
  by_cases h3:n.kind=3
  · rw[af h1,ah h3,af h1,af h2,ah h3]
  by_cases h5:n.kind=5
  · rw[af h1,af h3,af h2,af (by omega),ah h5,af h1,af h2,af h3,ah h5]
  by_cases h6:n.kind=6
  · rw[af h1,af h3,af h2,af (by omega),af h5,ah h6,af h1,af h2,af h3,af h5,ah h6]
  by_cases h7:n.kind=7
  · rw[af h1,af h3,af h2,ah h7,af h1,af h2,af h3,af h5,af h6,ah h7]
  rw[af h1,af h3,af h2,af h7,af h5,af h6,af h1,af h2,af h3,af h5,af h6,af h7]
 rw[hk];by_cases q1:n.kind=1∨n.kind=3∨n.num=0
 · by_cases q2 : n.kind=2∨n.kind=7∨n.text=⟨#[]⟩
   · by_cases q3:n.kind=5∨n.kind=6
     · by_cases q4:n.kind=6
       · rw [aL q1,aL q2,aL q3,aL q4,af]
         · rfl
         · rintro (g|g|g|g)
           · omega
           · rcases q2 with q|q|q
             · exact g.1 q
             · exact g.2.1 q
             · exact g.2.2 q
           · omega
           · omega
       · cases q5:dZ n.ag bJ.zero
         · rw[ah (.inr (.inr (.inr ⟨q4,rfl⟩))),aK q4,Bool.or_false,Bool.and_false,Bool.and_false,Bool.and_false];rfl
         · rw [aL q1,aL q2,aL q3,aK q4,af]
           · rfl
           · rintro (g|g|g|g)
             · omega
             · rcases q2 with q|q|q
               · exact g.1 q
               · exact g.2.1 q
               · exact g.2.2 q
             · omega
             · cases g.2
     · cases q5 : dZ n.ref bJ.zero
       · rw[ah (.inr (.inr (.inl ⟨by omega,by omega,rfl⟩))),aK q3,Bool.or_false,Bool.false_and,Bool.and_false,Bool.and_false];rfl
       · cases q6:dZ n.ag bJ.zero
         · rw[ah (.inr (.inr (.inr ⟨by omega,rfl⟩))),aK (show ¬ n.kind=6 by omega),Bool.or_false,Bool.and_false,Bool.and_false,Bool.and_false];rfl
         · rw [aL q1,aL q2,aK q3,af]
           · cases decide (n.kind=6) <;> rfl
           · rintro (g|g|g|g)
             · omega
             · rcases q2 with q|q|q
               · exact g.1 q
               · exact g.2.1 q
               · exact g.2.2 q
             · cases g.2.2
             · cases g.2
   · rw[ah (.inr (.inl ⟨fun h=>q2 (.inl h),fun h=>q2 (.inr (.inl h)),fun h=>q2 (.inr (.inr h))⟩)),aK q2,Bool.false_and,Bool.and_false];rfl
 · rw[ah (.inl ⟨fun h=>q1 (.inl h),fun h=>q1 (.inr (.inl h)),fun h=>q1 (.inr (.inr h))⟩),aK q1];rfl
theorem TY (n:Nd)(m:Nat):(okF n&&hkB n.kind m)=(wE n&&(decide (mW n.kind = -1)||decide (mW n.kind=m))):=by
 have c0:decide ((0:Int)=(m:Int))=decide (m=0):=by rw[decide_eq_decide];omega
 have c1:decide ((1:Int)=(m:Int))=decide (m=1):=by rw[decide_eq_decide];omega
 have c2:decide ((2:Int)=(m:Int))=decide (m=2):=by rw[decide_eq_decide];omega
 have c3:decide ((-2:Int)=(m:Int))=false:=by rw[gK];omega
 unfold okF wE hkB mW qM;by_cases h1:n.kind=1
 · rw[ah h1,ah h1,af (show ¬ n.kind=7 by omega),af (show ¬ n.kind=8 by omega),aK (show ¬ (9≤n.kind∧n.kind≤19)by omega),ah (show 1≤n.kind∧n.kind≤6 by omega),c0];rfl
 by_cases h2:n.kind=2
 · rw[af h1,ah h2,af h1,ah h2,af (show ¬ n.kind=7 by omega),af (show ¬ n.kind=8 by omega),aK (show ¬ (9≤n.kind∧n.kind≤19)by omega),ah (show 1≤n.kind∧n.kind≤6 by omega),c0];rfl
 by_cases h3:n.kind=3
 · rw[af h1,af h2,ah h3,af h1,af h2,ah h3,af (show ¬ n.kind=7 by omega),af (show ¬ n.kind=8 by omega),aK (show ¬ (9≤n.kind∧n.kind≤19)by omega),ah (show 1≤n.kind∧n.kind≤6 by omega),c0];rfl
 by_cases h5:n.kind=5
 · rw[af h1,af h2,af h3,ah h5,af h1,af h2,af h3,ah h5,af (show ¬ n.kind=7 by omega),af (show ¬ n.kind=8 by omega),aK (show ¬ (9≤n.kind∧n.kind≤19)by omega),ah (show 1≤n.kind∧n.kind≤6 by omega),c0];rfl
 by_cases h6:n.kind=6
 · rw[af h1,af h2,af h3,af h5,ah h6,af h1,af h2,af h3,af h5,ah h6,af (show ¬ n.kind=7 by omega),af (show ¬ n.kind=8 by omega),aK (show ¬ (9≤n.kind∧n.kind≤19)by omega),ah (show 1≤n.kind∧n.kind≤6 by omega),c0];rfl
 by_cases h7:n.kind=7
 · rw[af h1,af h2,af h3,af h5,af h6,ah h7,af h1,af h2,af h3,af h5,af h6,ah h7,ah h7,af (show ¬ (1≤n.kind∧n.kind≤6)by omega),ah h7];rfl
 rw[af h1,af h2,af h3,af h5,af h6,af h7,af h1,af h2,af h3,af h5,af h6,af h7,af h7,jW];by_cases h8:n.kind=8
 · rw[ah h8,af (show ¬ (1≤n.kind∧n.kind≤6)by omega),af h7,ah h8,c1,aL (show n.kind=4∨n.kind=8 by omega)];rfl
 by_cases h9:9≤n.kind∧n.kind≤19
 · rw[af h8,af (show ¬ (1≤n.kind∧n.kind≤6)by omega),af h7,af h8,ah h9,c2,aL h9,ah rfl,Bool.or_true];rfl
 by_cases h4:n.kind=4
 · rw[af h8,ah (show 1≤n.kind∧n.kind≤6 by omega),c0,aL (show n.kind=4∨n.kind=8 by omega),aK h9];rfl
 rw[af h8,af (show ¬ (1≤n.kind∧n.kind≤6)by omega),af h7,af h8,af h9,c3,aK (show ¬ (n.kind=4∨n.kind=8)by omega),aK h9];rfl
theorem J2 (n:Nd):pU n n.kids.length=dN n:=by
 unfold pU dN;rw[Vf,Vh,Vg,Vi,Uq];have h:=TY n n.kids.length;revert h;generalize (decide (mW n.kind = -1)||decide (mW n.kind=n.kids.length))=d;generalize hkB n.kind n.kids.length=c;cases okF n <;> cases wE n <;> cases c <;> cases d <;> cases pq n <;> cases pE n <;> cases pz n <;> cases pF n <;> simp
def gF (w:World)(B:Nat)(v:Value)(xs:List Int):Prop :=
 ∃A cap,v = .slice A xs.length cap∧xs.length≤cap∧cap≤maxLen∧(xs=[]∨∃pb po,A=some ⟨pb,po,none⟩∧pb<B∧∀(j:Nat)(x:Int),xs[j]? = some x→w.cell? ⟨pb,po+j,none⟩=some (.int .i64 x))
theorem gF.below {C:Nat}{v:Value}(h:gF w B v xs)(hb:Below C w w')(hC:B≤C):gF w' B v xs:=by
 obtain⟨A,cap,h1,h2,h3,h4⟩:=h;refine⟨A,cap,h1,h2,h3,h4.imp id ?_⟩;rintro⟨pb,po,e1,e2,e3⟩;exact⟨pb,po,e1,e2,fun j x hj=>(hb.cell (p:=⟨pb,po+j,none⟩) (by show pb<C;omega)).trans (e3 j x hj)⟩
theorem gF.mono {C:Nat}{v:Value}(h:gF w B v xs)(hC:B≤C):gF w C v xs:=by
 obtain⟨A,cap,h1,h2,h3,h4⟩:=h;refine⟨A,cap,h1,h2,h3,h4.imp id ?_⟩;rintro⟨pb,po,e1,e2,e3⟩;exact⟨pb,po,e1,by omega,e3⟩
theorem Wj {n:Nat}(h:Own (bK .i64) 3 w base (.slice (some ⟨g,0,none⟩) n cap) st)(j:Nat)(x:Int)(hj:st[j]? = some x):w.cell? ⟨g,j,none⟩=some (.int .i64 x):=by
 have hl:=(eH.1 hj).1;have h1:=Own.JV h j hl;rw[iM,hj]at h1;exact h1
theorem gF.tail (h:Own (bK .i64) 3 w base (.slice (some ⟨g,0,none⟩) st.length cap) st)(f:Nat)(hf:f≤st.length)(hc:st.length≤cap)(hm:cap≤maxLen)(hg:g<w.heap.size):gF w w.heap.size (.slice (if cap=f then some ⟨g,0,none⟩else some ⟨g,f,none⟩) (st.length - f) (cap - f)) (st.drop f):=by
 refine⟨_,_,by rw[jX],by rw[jX];omega,by omega, ?_⟩;by_cases h0:st.drop f=[]
 · exact .inl h0
 · have hne:¬ cap=f:=fun e=>h0 (List.drop_of_length_le (by omega))
   refine .inr ⟨g,f,by rw[af hne],hg,fun j x hj => ?_⟩;rw[List.getElem?_drop]at hj;exact Wj h (f+j) x hj
theorem Wp (h:Own (bK .i64) 3 w base (.slice (some ⟨g,0,none⟩) st.length cap) st)(k:Nat)(hk:k≤st.length):Own (bK .i64) 3 w base (.slice (some ⟨g,0,none⟩) k cap) (st.take k):=by
 have hl:(st.take k).length=k:=by rw[iB];omega
 rcases h.2 with ⟨h1,_⟩|⟨g',mf,cur,h1,h2,h3,h4,h5,h6,h7⟩
 · cases h1
 · injection h1 with e1 e2 e3
   injection e1 with e1;injection e1 with e1;subst e1;subst e3;refine⟨by rw[Enc.iZ],.inr ⟨g,cap,cur,by rw[hl],h2,h3,by omega,h5,h6, ?_⟩⟩;rw[hl,uF,List.map_take, ← uF, ← h7,List.take_take,Nat.mul_one,Nat.mul_one];congr 1;omega
theorem Y5 {ys:List Int}{k:Nat}{x:Int}(h:xs.take k=ys.take k)(hx:xs[k]? = some x)(hy:ys[k]? = some x):xs.take (k+1)=ys.take (k+1):=by
 rw[List.take_add_one,List.take_add_one,h,hx,hy]
theorem IG (w:World)(B:Nat)(v1 v2:Value)(xs ys:List Int)(h1:gF w B v1 xs)(h2:gF w B v2 ys):Calls Tryz.prog 91 #[v1,v2] w fun e w'=>e = .returned (.bool (decide (xs=ys)))∧Below w.heap.size w w':=by
 obtain⟨A1,lL,rfl,hc1,hm1,a1⟩:=h1;obtain⟨A2,ko,rfl,hc2,hm2,a2⟩:=h2;unfold maxLen at hm1 hm2;obtain⟨n1,hn1⟩:∃n1,xs.length=n1:=⟨_,rfl⟩;obtain⟨n2,hn2⟩:∃n2,ys.length=n2:=⟨_,rfl⟩;rw[hn1]at hc1 ⊢;rw[hn2]at hc2 ⊢;by_cases hl:n1=n2
 · subst hl
   have HA1:=ae a1;have HA2:=ae a2;have F8:=ae hn1;have iE:=ae hn2;clear a1 a2 hn1 hn2;go_enter Tryz.func91,Tryz.ntmps91;go_upto_region 4 with (fail)
   go_loopw [13] (fun i wr=>∃(k m:Nat),k≤n1∧i = .int .i64 (k:Int)∧Hid (xs.take k=ys.take k)∧w.drewN m=wr)
    (fun i _=>n1 - (intOf i).toNat)
   case atStart=>exact⟨0,0,bA _,rfl,ae rfl,rfl⟩
   case round =>
    obtain⟨k,m,hk,rfl,HT,rfl⟩:=hrel;by_cases hlt:k<n1
    · have hki:(k:Int)<(n1:Int):=by omega
      obtain⟨x,hx⟩:∃x,xs[k]? = some x:=⟨_,aX (by rw[F8.o];exact hlt)⟩;obtain⟨y,hy⟩:∃y,ys[k]? = some y:=⟨_,aX (by rw[iE.o];exact hlt)⟩;rcases HA1.o with e|⟨p1,o1,rfl, -,c1⟩
      · exfalso;rw[e]at hx;simp at hx
      rcases HA2.o with e|⟨p2,o2,rfl, -,c2⟩
      · exfalso;rw[e]at hy;simp at hy
      have k1:=c1 k x hx;have k2:=c2 k y hy;have HX:=ae hx;have gL:=ae hy;clear c1 c2 hx hy;by_cases hxy:x=y
      · have ex:(x != y)=false:=by rw[hxy];simp
        have HT2:=ae (Y5 HT.o HX.o (by rw[hxy];exact gL.o));clear hxy;go_wp2_with fail
        go_quiet (fail)
        go_wp2_with fail
        go_roundw
        case rel=>exact⟨k+1,_,by omega,by go_num,HT2,by first|rfl|trivial⟩
        case measure=>simp[intOf];omega
      · have ex:(x != y)=true:=by rw[bne_iff_ne];exact hxy
        have HR:=ae (show ¬ xs=ys from fun e=>hxy (by have h1:=HX.o;rw[e,gL.o]at h1;exact(dV h1).symm));clear hxy;go_wp2_with fail
        go_quiet (fail)
        go_wp2_with fail
        go_ret;exact⟨by rw[aK HR.o] <;> rfl,CW (CW (ak _ _) m) nq⟩
    · have hki:¬ (k:Int)<(n1:Int):=by omega
      have HR:=ae (show xs=ys by
       have h1:=HT.o;rw[mM (by rw[F8.o];omega),mM (by rw[iE.o];omega)]at h1;exact h1)
      go_wp2_with fail
      go_ret;exact⟨by rw[aL HR.o] <;> rfl,CW (ak _ _) m⟩
 · have hne:((n1:Int) != (n2:Int))=true:=by rw[bne_iff_ne];omega
   have HR:=ae (show ¬ xs=ys from fun e=>hl (by rw[← hn1, ← hn2,e]));clear a1 a2 hn1 hn2;go_enter Tryz.func91,Tryz.ntmps91;go_wp2_with fail
   go_ret;exact⟨by rw[aK HR.o] <;> rfl,ak _ _⟩
def ig (w:World)(B:Nat)(v:Value)(vs:List (Nd × Value)):Prop :=
 (∃A cap,v = .slice A vs.length cap∧(vs=[]∨∃pb po,A=some ⟨pb,po,none⟩∧pb<B∧∀(i:Nat)(n:Nd)(k:Value),vs[i]? = some (n,k)→∀j,j<14→w.cell? ⟨pb,po+i*14+j,none⟩=(dh n k).toList[j]?))∧∀p∈vs,gF w B p.2 p.1.kids
def SZ(vs:List (Nd × Value)):Prop:=vs.length≤1000∧∀p∈vs,p.1.text.size≤1000000∧p.1.ref.sh.size≤1000000∧p.1.ag.sh.size≤1000000
end Go.Proofs.YtahjnhmidjeniaaGreatDoor
namespace Go.Proofs.YtahjnhmidjeniaaGreatDoor
open Go.RowKit
def yA(a b:ByteArray):ByteArray:=if a=⟨#[]⟩then b else a
theorem IA (a:ByteArray)(h:¬ a=⟨#[]⟩):a.toList.isEmpty=false:=by
 rw[List.isEmpty_eq_false_iff];intro e;rw[ByteArray.toList_eq]at e;cases a with
 | mk d=>simp only[Array.toList_eq_nil_iff]at e;exact h (by rw[e])
theorem ig.cellAt {w:World}{B:Nat}{vs:List (Nd × Value)}{n:Nd}{A:Option Addr}{L cap:Nat}(h:ig w B (.slice A L cap) vs){i:Nat}{k:Value}(hi:vs[i]? = some (n,k)):gF w B k n.kids∧∃pb po,A=some ⟨pb,po,none⟩∧pb<B∧∀j,j<14→w.cell? ⟨pb,po+i*14+j,none⟩=(dh n k).toList[j]? := by
 obtain⟨⟨A',mf,h1,h2⟩,h3⟩:=h;injection h1 with e1 e2 e3;subst e1;refine⟨h3 _ (bN hi), ?_⟩;rcases h2 with rfl|⟨pb,po,e1,e2,e3⟩
 · simp at hi
 · exact⟨pb,po,e1,e2,e3 i n k hi⟩
theorem V7 (a c:ByteArray)(w:World)(b:Nat)(h0:w.cell? ⟨b,0,none⟩=some (.string a))(h1:w.cell? ⟨b,1,none⟩=some (.string c)) :
 Calls Tryz.prog 49 #[.slice (some ⟨b,0,none⟩) 2 2] w fun e w'=>e = .returned (.string (yA a c))∧w=w':=by
 go_enter Tryz.func49,Tryz.ntmps49;go_upto_region 3 with (fail)
 go_loopw [8] (fun iv wr=>∃i:Nat,i≤2∧iv = .int .i64 (i:Int)∧w=wr∧(0<i→a=⟨#[]⟩)∧(1<i→c=⟨#[]⟩))
  (fun iv _=>2 - (intOf iv).toNat)
 case atStart=>exact⟨0,by omega,rfl,rfl,fun h=>absurd h (by decide),fun h=>absurd h (by decide)⟩
 case round =>
  obtain⟨i,hi,rfl,rfl,ha,hc⟩:=hrel;rcases(show i=0∨i=1∨i=2 by omega)with rfl|rfl|rfl
  · clear ha hc
    by_cases he:a=⟨#[]⟩
    · have HE:=ae he
      subst he;go_wp2_with fail
      go_roundw
      case rel=>exact⟨1,by omega,rfl,(by first|rfl|trivial),fun _=>(by first|rfl|trivial),fun h=>absurd h (by decide)⟩
      case measure=>simp[intOf]
    · have hne:=IA a he
      have HR:=ae (show yA a c=a from af he);clear he;go_wp2_with fail
      go_ret;exact⟨by rw[HR.o];rfl,rfl⟩
  · have h:=ha (by decide)
    subst h;clear ha hc;by_cases he:c=⟨#[]⟩
    · subst he
      go_wp2_with fail
      go_roundw
      case rel=>exact⟨2,by omega,rfl,(by first|rfl|trivial),fun _=>(by first|rfl|trivial),fun _=>(by first|rfl|trivial)⟩
      case measure=>simp[intOf]
    · have hne:=IA c he
      clear he;go_wp2_with fail
      go_ret;exact⟨rfl,rfl⟩
  · have h:=ha (by decide)
    have h2:=hc (by decide);subst h;subst h2;clear ha hc;go_wp2_with fail
    go_ret;exact⟨rfl,rfl⟩
def o9(own:ByteArray)(n:Nd):List aZ:=if n.kind=5 then [⟨yA n.ref.sh own,n.ref,n.ref⟩]else if n.kind=6 then [⟨yA n.ref.sh own,n.ref,n.ag⟩]else []
def kg(own:ByteArray)(ns:List Nd):List aZ:=ns.flatMap (o9 own)
theorem Pb (own:ByteArray)(ns:List Nd)(i:Nat)(n:Nd)(h:ns[i]? = some n):kg own (ns.take (i+1))=kg own (ns.take i)++o9 own n:=by
 unfold kg;rw[List.take_add_one,h,List.flatMap_append];congr 1;show List.flatMap _ [n]=_;rw[fD,List.flatMap_nil,bE]
theorem Cz (own:ByteArray):∀ns:List Nd,(kg own ns).length≤ns.length
 | []=>by simp[kg]
 | n :: ns=>by
   have h:=Cz own ns;have h1:(o9 own n).length≤1:=by unfold o9;(repeat' split) <;> simp
   have h2:kg own (n :: ns)=o9 own n++kg own ns:=by unfold kg;rw[fD]
   rw[h2,ax,aN];omega
theorem Pd (w:World)(A:Option Addr)(nl cap:Nat)(l:List (Nd × Value))(own:ByteArray)(h:ig w w.heap.size (.slice A nl cap) l)(hln:l.length=nl)(hn:nl≤1000) :
 Calls Tryz.prog 34 #[.slice A nl cap,.string own] w fun e w'=>Below w.heap.size w w'∧∃v,e = .returned v∧Own mh 109 w' w.heap.size v (kg own (l.map (·.1))):=by
 have HX:=ae h;have HL:=ae hln;clear h hln;go_enter Tryz.func34,Tryz.ntmps34;go_upto_region 3 with (fail)
 go_loopw [5,11] (fun jN iv wr=>∃(i:Nat)(v:Value),i≤nl∧v=jN∧iv = .int .i64 (i:Int)∧Hid (Own mh 109 wr w.heap.size v (kg own ((l.map (·.1)).take i)))∧Hid (Below w.heap.size w wr))
  (fun _ iv _=>nl - (intOf iv).toNat)
 case atStart=>exact⟨0,_,bA _,rfl,rfl,ae (Own.nil _ _ _ _),ae (ak _ _)⟩
 case round =>
  obtain⟨i,v,hi,rfl,rfl,HO,HR⟩:=hrel;by_cases hlt:i<nl
  · have hii:(i:Int)<(nl:Int):=by omega
    have hi0:(0:Int)≤(i:Int):=by omega
    obtain⟨⟨n,k⟩,hnk⟩:∃q,l[i]? = some q:=⟨_,aX (by rw[HL.o];exact hlt)⟩;obtain⟨hsk,pb,po,rfl,hpb,hcell⟩:=HX.o.cellAt hnk;obtain⟨bR,ck,hkk,_,_,_⟩:=id hsk;obtain⟨m,hm⟩:∃m,n.kids.length=m:=⟨_,rfl⟩;rw[hm]at hkk;subst hkk;obtain⟨k0,k1,k2,k3,k4,k5,k6,k7,k8,k9,k10,k11,k12,k13⟩:=zO HR.o hpb hcell;have dS:=ae (Pb own (l.map (·.1)) i n (by rw[List.getElem?_map,hnk];rfl))
    have nL:=ae (show(kg own ((l.map (·.1)).take i)).length≤1000 by
     have h1:=Cz own ((l.map (·.1)).take i);rw[iB]at h1;omega)
    clear hnk hsk hpb hcell hm;have hB3:Below wr.heap.size wr (wr.alloc (.cells #[.int .i64 n.kind,.int .i64 n.num,.string n.text,.string n.ref.sh,.int .i64 n.ref.c,.int .i64 n.ref.r,.bool n.ref.ac,.bool n.ref.ar,.string n.ag.sh,.int .i64 n.ag.c,.int .i64 n.ag.r,.bool n.ag.ac,.bool n.ag.ar,.slice bR m ck] 106)):=(ak _ _).alloc (aj _) _;have bf:=ae (show aF (wr.alloc (.cells #[.int .i64 n.kind,.int .i64 n.num,.string n.text,.string n.ref.sh,.int .i64 n.ref.c,.int .i64 n.ref.r,.bool n.ref.ac,.bool n.ref.ar,.string n.ag.sh,.int .i64 n.ag.c,.int .i64 n.ag.r,.bool n.ag.ac,.bool n.ag.ar,.slice bR m ck] 106)) wr.heap.size n (.slice bR m ck)from aF.new wr n _);have HB3:=ae (HR.o.trans (hB3.mono HR.o.size));have bF:=ae (HO.o.below hB3 (aj _));clear hB3;go_upto_region 5 with (fail)
    clear k0 k1 k2 k3 k4 k5 k6 k7 k8 k9 k10 k11 k12 k13;generalize hz:wr.heap.size=z at bf ⊢;generalize wr.alloc (.cells #[.int .i64 n.kind,.int .i64 n.num,.string n.text,.string n.ref.sh,.int .i64 n.ref.c,.int .i64 n.ref.r,.bool n.ref.ac,.bool n.ref.ar,.string n.ag.sh,.int .i64 n.ag.c,.int .i64 n.ag.r,.bool n.ag.ac,.bool n.ag.ar,.slice bR m ck] 106)=w3 at bf HB3 bF ⊢;clear HO HR hz;obtain⟨y0,y1,y2,y3,y4,iy,y6,iA,iR,kN,kM,oJ,oK,y13⟩:=bf.o.cells;obtain⟨sn,hsn⟩:∃sn,yA n.ref.sh own=sn:=⟨_,rfl⟩;have hB4:Below w3.heap.size w3 (w3.alloc (.cells #[.string n.ref.sh,.string own] 9)):=(ak _ _).alloc (aj _) _;have zk:=ae (V7 n.ref.sh own (w3.alloc (.cells #[.string n.ref.sh,.string own] 9)) w3.heap.size (by rw[World.cell?_alloc_new];rfl) (by rw[World.cell?_alloc_new];rfl));rw[hsn]at zk;have cz:=ae (HB3.o.trans (hB4.mono HB3.o.size));have iU:=ae (bF.o.below hB4 (aj _));have lZ:=ae (bf.o.below hB4 bf.o.lt);clear hB4;go_upto_region 6 with (go_at_call 49;((with_reducible refine zk.o.mono ?_);rintro e rY ⟨rfl,rfl⟩))
    clear y0 y1 y2 y3 y4 iy y6 iA iR kN kM oJ oK y13;generalize w3.alloc (.cells #[.string n.ref.sh,.string own] 9)=w5 at cz iU lZ ⊢;obtain⟨z0,z1,z2,z3,z4,z5,z6,z7,uh,z9,ug,wS,z12,wT⟩:=lZ.o.cells;by_cases h5:n.kind=5
    · have wX:=ae (show o9 own n=[⟨sn,n.ref,n.ref⟩]by unfold o9;rw[ah h5,hsn])
      clear hsn;go_wp2_with (at_builtin;refine lW Elem.ar mh rfl (.tmp 25) (.tmp 32) rfl w.heap.size v _ rfl (iU.o.below (iX w5 ⟨sn,n.ref,n.ref⟩) (aj _)) ⟨_,0,none⟩ 1 1 [⟨sn,n.ref,n.ref⟩] rfl rfl ?_ ?_ ?_ ?_ ?_;exact iH _ _ _ rfl;(have:=nL.o;omega);(have:=nL.o;unfold maxLen;omega);(have h2:=cz.o.size;rw[iC];omega);intro v6 w6 h1 h2;have gY:=ae h1;have oM:=ae (cz.o.trans (((iX w5 ⟨sn,n.ref,n.ref⟩).mono cz.o.size).trans h2));clear h1 h2)
      go_roundw
      case rel=>exact⟨i+1,_,by omega,rfl,by go_num,ae (by rw[dS.o,wX.o];exact gY.o),oM⟩
      case measure=>simp[intOf];omega
    · by_cases h6:n.kind=6
      · have wX:=ae (show o9 own n=[⟨sn,n.ref,n.ag⟩]by unfold o9;rw[af h5,ah h6,hsn])
        clear hsn;go_wp2_with (at_builtin;refine lW Elem.ar mh rfl (.tmp 36) (.tmp 43) rfl w.heap.size v _ rfl (iU.o.below (iX w5 ⟨sn,n.ref,n.ag⟩) (aj _)) ⟨_,0,none⟩ 1 1 [⟨sn,n.ref,n.ag⟩] rfl rfl ?_ ?_ ?_ ?_ ?_;exact iH _ _ _ rfl;(have:=nL.o;omega);(have:=nL.o;unfold maxLen;omega);(have h2:=cz.o.size;rw[iC];omega);intro v6 w6 h1 h2;have gY:=ae h1;have oM:=ae (cz.o.trans (((iX w5 ⟨sn,n.ref,n.ag⟩).mono cz.o.size).trans h2));clear h1 h2)
        go_roundw
        case rel=>exact⟨i+1,_,by omega,rfl,by go_num,ae (by rw[dS.o,wX.o];exact gY.o),oM⟩
        case measure=>simp[intOf];omega
      · have wX:=ae (show o9 own n=[]by unfold o9;rw[af h5,af h6])
        clear hsn;have k5:(n.kind == 5)=false:=aB.2 h5;have k6:(n.kind == 6)=false:=aB.2 h6;go_wp2_with fail
        go_roundw
        case rel=>exact⟨i+1,_,by omega,rfl,by go_num,ae (by rw[dS.o,wX.o,bE];exact iU.o),cz⟩
        case measure=>simp[intOf];omega
  · have hii:¬ (i:Int)<(nl:Int):=by omega
    have HE:=ae (show(l.map (·.1)).take i=l.map (·.1)from mM (by rw[dQ,HL.o];omega));go_wp2_with fail
    go_ret;exact⟨HR.o,_,rfl,by have h:=HO.o;rw[HE.o]at h;exact h⟩
end Go.Proofs.YtahjnhmidjeniaaGreatDoor
namespace Go.Proofs
open Go.Shelf
def Tryz.Ui:Go.Shelf.Ren:=⟨fun|190=>50|125=>77|258=>76|128=>107|129=>108|302=>98|303=>99|304=>100|305=>101|306=>102|307=>103|308=>104|309=>105|310=>106|333=>136|329=>137|330=>138|334=>139|335=>140|336=>18|344=>164|n=>n,fun|31=>31|9=>9|3=>3|46=>151|0=>0|51=>183|53=>43|4=>4|183=>176|182=>175|131=>63|5=>5|218=>195|222=>199|228=>214|229=>215|n=>n,fun|n=>n⟩
theorem Tryz.Kb:Go.Proofs.Lays.n190 Tryz.prog Tryz.Ui:={
 mixed:=by kernel_rfl
 f125:=Tryz.func77.trans (congrArg some (by kernel_rfl))
 f128:=Tryz.func107.trans (congrArg some (by kernel_rfl))
 f129:=Tryz.func108.trans (congrArg some (by kernel_rfl))
 f190:=Tryz.func50.trans (congrArg some (by kernel_rfl))
 f258:=Tryz.func76.trans (congrArg some (by kernel_rfl))
 f302:=Tryz.func98.trans (congrArg some (by kernel_rfl))
 f303:=Tryz.func99.trans (congrArg some (by kernel_rfl))
 f304:=Tryz.func100.trans (congrArg some (by kernel_rfl))
 f305:=Tryz.func101.trans (congrArg some (by kernel_rfl))
 f306:=Tryz.func102.trans (congrArg some (by kernel_rfl))
 f307:=Tryz.func103.trans (congrArg some (by kernel_rfl))
 f308:=Tryz.func104.trans (congrArg some (by kernel_rfl))
 f309:=Tryz.func105.trans (congrArg some (by kernel_rfl))
 f310:=Tryz.func106.trans (congrArg some (by kernel_rfl))
 f329:=Tryz.func137.trans (congrArg some (by kernel_rfl))
 f330:=Tryz.func138.trans (congrArg some (by kernel_rfl))
 f333:=Tryz.func136.trans (congrArg some (by kernel_rfl))
 f334:=Tryz.func139.trans (congrArg some (by kernel_rfl))
 f335:=Tryz.func140.trans (congrArg some (by kernel_rfl))
 f336:=Tryz.func18.trans (congrArg some (by kernel_rfl))
 f344:=Tryz.func164.trans (congrArg some (by kernel_rfl))
 t0:=Tryz.underlying0
 a0:=Tryz.isAgg0
 z0:=Tryz.sizeOf0
 v0:=Tryz.zeroValue0
 t3:=Tryz.underlying3
 a3:=Tryz.isAgg3
 z3:=Tryz.sizeOf3
 v3:=Tryz.zeroValue3
 t4:=Tryz.underlying4
 a4:=Tryz.isAgg4
 z4:=Tryz.sizeOf4
 v4:=Tryz.zeroValue4
 t5:=Tryz.underlying5
 a5:=Tryz.isAgg5
 z5:=Tryz.sizeOf5
 v5:=Tryz.zeroValue5
 t9:=Tryz.underlying9
 a9:=Tryz.isAgg9
 z9:=Tryz.sizeOf9
 v9:=Tryz.zeroValue9
 t31:=Tryz.underlying31
 a31:=Tryz.isAgg31
 z31:=Tryz.sizeOf31
 v31:=Tryz.zeroValue31
 t46:=Tryz.underlying151
 a46:=Tryz.isAgg151
 z46:=Tryz.sizeOf151
 v46:=Tryz.zeroValue151
 t51:=Tryz.underlying183
 a51:=Tryz.isAgg183
 z51:=Tryz.sizeOf183
 v51:=Tryz.zeroValue183
 t53:=Tryz.underlying43
 a53:=Tryz.isAgg43
 z53:=Tryz.sizeOf43
 v53:=Tryz.zeroValue43
 t131:=Tryz.underlying63
 a131:=Tryz.isAgg63
 z131:=Tryz.sizeOf63
 v131:=Tryz.zeroValue63
 t182:=Tryz.underlying175
 a182:=Tryz.isAgg175
 z182:=Tryz.sizeOf175
 v182:=Tryz.zeroValue175
 t183:=Tryz.underlying176
 a183:=Tryz.isAgg176
 z183:=Tryz.sizeOf176
 v183:=Tryz.zeroValue176
 t218:=Tryz.underlying195
 a218:=Tryz.isAgg195
 z218:=Tryz.sizeOf195
 v218:=Tryz.zeroValue195
 t222:=Tryz.underlying199
 a222:=Tryz.isAgg199
 z222:=Tryz.sizeOf199
 v222:=Tryz.zeroValue199
 t228:=Tryz.underlying214
 a228:=Tryz.isAgg214
 z228:=Tryz.sizeOf214
 v228:=Tryz.zeroValue214
 t229:=Tryz.underlying215
 a229:=Tryz.isAgg215
 z229:=Tryz.sizeOf215
 v229:=Tryz.zeroValue215 }
open Go.Sort Go.RowKit in
theorem Tryz.slices_Sort_string (blk off cap:Nat)(ss:List (List UInt8))(w:World)(hH:Holds encStr w blk off ss.toArray)(Sb:blk<w.heap.size)(hsz:ss.length<4611686018427387904) :
 Calls Tryz.prog 50 #[.slice (some ⟨blk,off,none⟩) ss.length cap] w fun e w' =>
  e = .returned (.tuple #[])∧∃n os,w'=grow (putRow encStr (Sort.ahead w n) blk off (ss.mergeSort fun x y=>decide (x≤y)).toArray) os:=Any.slices_Sort_string Tryz.Kb blk off cap ss w hH Sb hsz
def Tryz.Uj:Go.Shelf.Ren:=⟨fun|194=>51|n=>n,fun|31=>31|9=>9|3=>3|4=>4|0=>0|n=>n,fun|n=>n⟩
theorem Tryz.Kc:Go.Proofs.Lays.n194 Tryz.prog Tryz.Uj:={
 mixed:=by kernel_rfl
 f194:=Tryz.func51.trans (congrArg some (by kernel_rfl))
 t0:=Tryz.underlying0
 a0:=Tryz.isAgg0
 z0:=Tryz.sizeOf0
 v0:=Tryz.zeroValue0
 t3:=Tryz.underlying3
 a3:=Tryz.isAgg3
 z3:=Tryz.sizeOf3
 v3:=Tryz.zeroValue3
 t4:=Tryz.underlying4
 a4:=Tryz.isAgg4
 z4:=Tryz.sizeOf4
 v4:=Tryz.zeroValue4
 t9:=Tryz.underlying9
 a9:=Tryz.isAgg9
 z9:=Tryz.sizeOf9
 v9:=Tryz.zeroValue9
 t31:=Tryz.underlying31
 a31:=Tryz.isAgg31
 z31:=Tryz.sizeOf31
 v31:=Tryz.zeroValue31 }
open Go.RowKit Go.Lib Go.Sort in
theorem Tryz.slices_Compact_string (blk off cap:Nat)(zs:List (List UInt8))(w:World)(hH:Holds encStr w blk off zs.toArray)(hsz:zs.length≤9223372036854775807)(rH:zs.length≤cap) :
 Calls Tryz.prog 51 #[.slice (some ⟨blk,off,none⟩) zs.length cap] w fun e w'=>e = .returned (.slice (some ⟨blk,off,none⟩) (Lib.compact zs).length cap)∧∃q,w'=putRow encStr (Sort.ahead w q) blk off (Lib.compact zs++List.replicate (zs.length - (Lib.compact zs).length) []).toArray:=Any.slices_Compact_string Tryz.Kc blk off cap zs w hH hsz rH
open Go.RowKit Go.Lib Go.Sort in
theorem Tryz.slices_Compact_string_empty (a:Option Addr)(cap:Nat)(w:World) :
 Calls Tryz.prog 51 #[.slice a 0 cap] w fun e w'=>e = .returned (.slice a 0 cap)∧w'=w:=Any.slices_Compact_string_empty Tryz.Kc a cap w
end Go.Proofs
namespace Go.Proofs.YtahjnhmidjeniaaGreatDoor
open Go.RowKit Go.Sort
def jS(b:ByteArray):List UInt8:=b.data.toList
def CF(l:List UInt8):ByteArray:=⟨l.toArray⟩
theorem GX (xs:List ByteArray):kr.all xs=(xs.map jS).map encStr:=by
 rw[GY,List.map_map];apply List.map_congr_left;intro b _;show Value.string b=Value.string ⟨b.data.toList.toArray⟩;simp
theorem GV (zs:List (List UInt8)):kr.all (zs.map CF)=zs.map encStr:=by
 rw[GY,List.map_map];rfl
def qJ(xs:List ByteArray):List ByteArray:=((xs.map jS).mergeSort fun x y=>decide (x≤y)).map CF
def qw(xs:List ByteArray):List ByteArray:=(Lib.compact (xs.map jS)).map CF
theorem AV(xs:List ByteArray):(qJ xs).length=xs.length:=by unfold qJ;rw[dQ,List.length_mergeSort,dQ]
theorem YH (w:World)(base g cap:Nat)(xs:List ByteArray)(h:Own kr 9 w base (.slice (some ⟨g,0,none⟩) xs.length cap) xs)(hn:xs.length≤1000) :
 Calls Tryz.prog 50 #[.slice (some ⟨g,0,none⟩) xs.length cap] w fun e w'=>e = .returned (.tuple #[])∧Own kr 9 w' base (.slice (some ⟨g,0,none⟩) xs.length cap) (qJ xs)∧w.grownBy w' (some g):=by
 rcases h.2 with ⟨h1,_⟩|⟨g',mf,cur,h1,dF,hb,h2,h3,h4,h5⟩
 · cases h1
 · injection h1 with e1 e2 e3
   injection e1 with e1;injection e1 with e1;subst e1;subst e3;rw[Nat.mul_one,GX]at h5;have hss:(xs.map jS).length=xs.length:=dQ ..;have hH:Holds encStr w g 0 (xs.map jS).toArray:=holds_of_block hb (by rw[hss];exact h5);have hs:=Tryz.slices_Sort_string g 0 cap (xs.map jS) w hH (cu.1 hb).1 (by rw[hss];omega);rw[hss]at hs;refine hs.mono fun e w' hq => ?_
   obtain⟨he,n,os,rfl⟩:=hq;refine⟨he, ?_,grownBy_sorted _⟩;have ho:=ownsRow_sorted (n:=n) (os:=os) (ss:=xs.map jS) (ts:=(xs.map jS).mergeSort fun x y=>decide (x≤y)) (by rw[List.length_mergeSort]) dF hb (by rw[hss];exact h2) h3 h4;rw[hss]at ho;unfold Own;rw[AV];unfold qJ;rw[GV];exact ho
theorem Wl {w:World}{base g n cap m:Nat}{e:TypeId}{cs:List Value}(h:w.ownsRow base e 1 (.slice (some ⟨g,0,none⟩) n cap) n cs)(hm:m≤n):w.ownsRow base e 1 (.slice (some ⟨g,0,none⟩) m cap) m (cs.take m):=by
 obtain⟨hl,h⟩:=h;refine⟨by rw[iB];omega, ?_⟩;rcases h with ⟨h1,_⟩|⟨g',mf,cur,h1,dF,hb,h2,h3,h4,h5⟩
 · cases h1
 · injection h1 with e1 e2 e3
   injection e1 with e1;injection e1 with e1;subst e1;subst e3;refine .inr ⟨g,cap,cur,rfl,dF,hb,by omega,h3,h4, ?_⟩;rw[← h5,List.take_take];congr 1;omega
theorem Im (d:Array (List UInt8)):∀m,(Lib.compactUpTo d m).length≤m
 | 0=>aj _
 | m+1=>by
   have h:=Im d m;rw[Lib.compactUpTo_succ,ax];split <;> simp <;> omega
theorem Ik(zs:List (List UInt8)):(Lib.compact zs).length≤zs.length:=Im _ _
theorem QA (w:World)(base g cap:Nat)(xs:List ByteArray)(h:Own kr 9 w base (.slice (some ⟨g,0,none⟩) xs.length cap) xs) :
 Calls Tryz.prog 51 #[.slice (some ⟨g,0,none⟩) xs.length cap] w fun e w'=>e = .returned (.slice (some ⟨g,0,none⟩) (qw xs).length cap)∧Own kr 9 w' base (.slice (some ⟨g,0,none⟩) (qw xs).length cap) (qw xs)∧w.grownBy w' (some g):=by
 rcases h.2 with ⟨h1,_⟩|⟨g',mf,cur,h1,dF,hb,h2,h3,h4,h5⟩
 · cases h1
 · injection h1 with e1 e2 e3
   injection e1 with e1;injection e1 with e1;subst e1;subst e3;rw[Nat.mul_one,GX]at h5;have hss:(xs.map jS).length=xs.length:=dQ ..;have hH:Holds encStr w g 0 (xs.map jS).toArray:=holds_of_block hb (by rw[hss];exact h5);have hs:=Tryz.slices_Compact_string g 0 cap (xs.map jS) w hH (by rw[hss];unfold maxLen at h3;omega) (by rw[hss];exact h2);rw[hss]at hs;have hcl:(qw xs).length=(Lib.compact (xs.map jS)).length:=dQ ..;have hle:=Ik (xs.map jS);rw[hss]at hle;refine hs.mono fun e w' hq => ?_
   obtain⟨he,q,hw⟩:=hq;have hw2:w'=grow (putRow encStr (Sort.ahead w q) g 0 (Lib.compact (xs.map jS)++List.replicate (xs.length - (Lib.compact (xs.map jS)).length) []).toArray) #[]:=by rw[hw,grow_empty]
   subst hw2;refine⟨by rw[he,hcl], ?_,grownBy_sorted _⟩;have ho:=ownsRow_sorted (n:=q) (os:=#[]) (ss:=xs.map jS) (ts:=Lib.compact (xs.map jS)++List.replicate (xs.length - (Lib.compact (xs.map jS)).length) []) (by rw[ax,List.length_replicate,hss];omega) dF hb (by rw[hss];exact h2) h3 h4;rw[hss]at ho;have ho2:=Wl ho hle;rw[gW,List.take_append_of_le_length (by rw[dQ];exact aj _),mM (by rw[dQ];exact aj _)]at ho2;unfold Own;rw[hcl];unfold qw;rw[GV];exact ho2
end Go.Proofs.YtahjnhmidjeniaaGreatDoor
