import Derived.Test.YtbplbjmmfgjdjaaGreatDoorMN10
set_option maxRecDepth 100000
set_option maxHeartbeats 64000000
namespace Go.Proofs.YtbplbjmmfgjdjaaGreatDoor
open Go.RowKit
variable {a e:Int}{ks st st':List Int}{l ns:List Nd}{vs:List aK}{ts:List ah}{B b deep g j lo z:Nat}{n:Nd}{gq k rW sv tv v:Value}{w w' w0:World}
theorem dF.less {sl sl':Nat}{res:eT}{e:Ending}(h:dF sl res w b tv ts deep vs e w')(hs:sl'≤sl):dF sl' res w b tv ts deep vs e w':=by
 refine⟨h.1,h.2.imp ?_ id⟩;rintro⟨c,g1,g2,g3,p',d,bu,us,g4,g5,g6,g7,g8⟩;exact⟨c,g1,g2,g3,p',d,bu,us,g4,g5,by omega,by omega,g8⟩
def KG (f:Nat):Prop:=∀(deep:Nat)(res:eT)(w:World)(b:Nat)(tv:Value)(ts:List ah)(p:Nat)(nv:Value)(vs:List aK),deep≤12→bF w b tv ts p (deep:Int) 0 nv vs→vs.length≤p→eZ f 4 deep vs.length (ts.drop p)=some res →
 Calls Tryz.prog 112 #[.pointer (some ⟨b,0,none⟩)] w (dF (4+6*deep) res w b tv ts deep vs)
theorem ahF (f:Nat)(IH:∀g,g≤f→Eg g)(Ck:∀g,g≤f→KG g){p:Nat}{nv:Value}(h:bF w b tv ts p (deep:Int) 0 nv vs)(uE:vs.length≤p)(oz:deep≤12)(res:eT)(au:eZ (f+1) 4 deep vs.length (ts.drop p)=some res) :
 Calls Tryz.prog 112 #[.pointer (some ⟨b,0,none⟩)] w (dF (4+6*deep) res w b tv ts deep vs):=by
 have HS:=ae (yI h ⟨#[45]⟩);rw[aR rfl,gV]at HS;rw[lW,af (by omega)]at au;have kW:=h.few;have hlt:=h.lt;have hbl:=h.blt;have hcs:vs.length+(4+6*deep)≤ts.length+100:=by omega
 have HP:=ae h;cases hq:ay ⟨#[45]⟩ (ts.drop p)
 · rw [hq,af (by decide)]at au
   rw[hq]at HS
   match f,IH,au with
   | 0,_,au=>unfold jF at au;cases au
   | f+1,IH,au =>
   have HL:=ae (fun w1 (hb:Below w.heap.size w w1)=>(aht f (fun g hg=>IH g (by omega)) (HP.o.below hb) uE oz res au).mono fun e w3 ho=>(dF.from (Fr.of b hb) ho).less (show 4+6*deep≤5+6*deep by omega));clear hq au h IH Ck;go_enter Tryz.func112,Tryz.ntmps112
   go_wp2_with (first
    | (go_at_call 114;((with_reducible refine HS.o.mono ?_);rintro e w1 ⟨rfl,h1⟩;have yY:=ae (HL.o w1 h1);clear h1))
    | (go_at_call 141;((with_reducible refine yY.o.mono ?_);intro e w7 ho;have oP:=ae ho;obtain⟨c,rfl⟩:=ho.ret;clear ho)))
   go_ret;exact oP.o
 · have hnx:=zS h hq
   rw[hq,ag rfl]at au;rw[hq]at HS;by_cases hd:12≤deep
   · rw [ag hd]at au
     injection au with au;have HR:=ae au.symm;clear hq au h IH Ck;go_enter Tryz.func112,Tryz.ntmps112
     go_wp2_with (first
      | (go_at_call 114;((with_reducible refine HS.o.mono ?_);rintro e w4 ⟨rfl,h1⟩;have eD:=ae (Fr.of b h1);have HO:=ae (BH (HP.o.below h1) oz hnx);clear h1))
      | (go_at_call 142;((with_reducible refine HO.o.mono ?_);rintro e w5 ⟨rfl,h1,h2⟩;rcases h2 with ⟨-,h2⟩|⟨h2, -⟩;rotate_left;exact absurd hd h2;have bq:=ae (eD.o.trans h1);have aS:=ae h2;obtain⟨c0,c1,c2,c3,c4⟩:=h2.facts;clear c0 c1 c2 c4 h1 h2)))
     go_ret;exact dF.err HR.o (.inr rfl) bq.o aS.o hcs (by omega)
   · rw [af hd,List.tail_drop]at au
     have Ev:deep+1≤12:=by omega
     rcases eO au with ⟨c,h1,rfl⟩|⟨ns,a,r,h1,h2⟩
     · have HI:=ae (fun w2 hps=>Ck f (aj _) (deep+1) _ w2 b tv ts (p+1) nv vs Ev hps (by omega) h1)
       clear hq au h IH Ck h1;go_enter Tryz.func112,Tryz.ntmps112
       go_upto_region 7 with (first
        | (go_at_call 114;((with_reducible refine HS.o.mono ?_);rintro e w4 ⟨rfl,h1⟩;have eD:=ae (Fr.of b h1);have HO:=ae (BH (HP.o.below h1) oz hnx);clear h1))
        | (go_at_call 142;((with_reducible refine HO.o.mono ?_);rintro e w5 ⟨rfl,h1,h2⟩;rcases h2 with ⟨h2, -⟩|⟨-,h2⟩;exact absurd h2 hd;have bq:=ae (eD.o.trans h1);have aS:=ae h2;obtain⟨c0,c1,c2,c3,c4⟩:=h2.facts;have HL:=ae (HI.o w5 h2);clear c0 c1 c2 c4 h1 h2))
        | (go_at_call 112;((with_reducible refine HL.o.mono ?_);intro e w6 ho;obtain⟨hf,hc,x,rfl,p6,d6,Bw,uX,pX,sZ,EC,hd6,abA⟩:=ho.bad rfl;have eG:=ae (bq.o.trans hf);have HC:=ae hc;have bU:=ae sZ;have xX:=ae bq.o.size;have nU:=ae pX;clear hf hc ho sZ pX)))
       clear c3;obtain⟨c0,c1,c2,c3,c4⟩:=bU.o.facts;have f2:=bU.o.frozen 2;clear c0 c1 c3 c4;have hd1 : -9223372036854775808≤d6 - 1:=by omega
       have hd2:d6 - 1≤9223372036854775807:=by omega
       go_upto_region 8 with (fail)
       have bO:=ae (bU.o.qO (d6 - 1));have cz:=ae (eG.o.setCell 2 (.int .i64 (d6 - 1)));clear c2 f2;generalize w6.setCell ⟨b,2,none⟩ (.int .i64 (d6 - 1))=w7 at bO cz ⊢;have abu:=bO.o.blt;have AR:Below w7.heap.size w7 (w7.alloc (.cells #[.int .i64 x] 3)):=(ak _ _).alloc (aj _) _;have gP:=ae (bO.o.below AR);have nG:=ae (cz.o.below AR);have Kz:=ae cz.o.size;have HA:=ae (show Calls Tryz.prog 115 #[.pointer (some ⟨b,0,none⟩),.agg #[.int .i64 8,.int .i64 0,.string ⟨#[]⟩,.string ⟨#[]⟩,.int .i64 0,.int .i64 0,.bool false,.bool false,.string ⟨#[]⟩,.int .i64 0,.int .i64 0,.bool false,.bool false,.slice (some ⟨w7.heap.size,0,none⟩) 1 1]] (w7.alloc (.cells #[.int .i64 x] 3)) _ from qf gP.o ⟨{ Nd.zero with kind:=8,kids:=[x] },some (w7.heap.size,1)⟩ (Io w7 (b+1) x (by omega)) (by omega) (.slice (some ⟨w7.heap.size,0,none⟩) 1 1) rfl { Nd.zero with kind:=8,kids:=[x] } rfl);clear AR;go_wp2_with (go_at_call 115;((with_reducible refine HA.o.mono ?_);rintro e iG ⟨h1,rfl,UB,h3⟩;have yT:=ae (nG.o.trans h1);have mR:=ae h3;clear h1 h3))
       go_ret;refine dF.zw (us:=uX++[⟨{ Nd.zero with kind:=8,kids:=[x] },some (w7.heap.size,1)⟩]) rfl HC.o yT.o ?_ (by rw[← bQ];exact mR.o) (by simp only[ax,fo]at EC ⊢;omega) (by omega);intro u hu j hj;rcases dQ.1 hu with hu|hu
       · exact bN xX.o (nU.o u hu j hj)
       · rw[gM.1 hu]at hj
         have hj:some w7.heap.size=some j:=hj;injection hj with hj;have:=Kz.o;omega
     · have HI:=ae (fun w2 hps=>Ck f (aj _) (deep+1) _ w2 b tv ts (p+1) nv vs Ev hps (by omega) h1)
       have H1:=ae h1;injection h2 with h2;have HR:=ae h2.symm;clear hq au h IH Ck h1 h2;go_enter Tryz.func112,Tryz.ntmps112
       go_upto_region 7 with (first
        | (go_at_call 114;((with_reducible refine HS.o.mono ?_);rintro e w4 ⟨rfl,h1⟩;have eD:=ae (Fr.of b h1);have HO:=ae (BH (HP.o.below h1) oz hnx);clear h1))
        | (go_at_call 142;((with_reducible refine HO.o.mono ?_);rintro e w5 ⟨rfl,h1,h2⟩;rcases h2 with ⟨h2, -⟩|⟨-,h2⟩;exact absurd h2 hd;have bq:=ae (eD.o.trans h1);have aS:=ae h2;obtain⟨c0,c1,c2,c3,c4⟩:=h2.facts;have HL:=ae (HI.o w5 h2);clear c0 c1 c2 c4 h1 h2))
        | (go_at_call 112;((with_reducible refine HL.o.mono ?_);intro e w6 ho;obtain⟨hf,rfl,p6,Bw,uX,CF,EI,pX,sZ,EC⟩:=ho.sU rfl;have eG:=ae (bq.o.trans hf);have bU:=ae sZ;have xX:=ae bq.o.size;have HD6:=ae CF;have F6:=ae EI;have nU:=ae pX;clear hf ho sZ pX CF EI)))
       clear c3;rw[show((deep+1:Nat):Int)=(deep:Int)+1 from rfl]at bU;obtain⟨c0,c1,c2,c3,c4⟩:=bU.o.facts;have f2:=bU.o.frozen 2;have R7:=bU.o.lt;have akV:uX.length=ns.length:=by rw[← F6.o,eF]
       clear c0 c1 c3 c4;go_upto_region 8 with (fail)
       have bO:=ae (bU.o.qO (deep:Int));have cz:=ae (eG.o.setCell 2 (.int .i64 (deep:Int)));clear c2 f2;generalize w6.setCell ⟨b,2,none⟩ (.int .i64 (deep:Int))=w7 at bO cz ⊢;have abu:=bO.o.blt;have AR:Below w7.heap.size w7 (w7.alloc (.cells #[.int .i64 ((a:Nat):Int)] 3)):=(ak _ _).alloc (aj _) _;have gP:=ae (bO.o.below AR);have nG:=ae (cz.o.below AR);have Kz:=ae cz.o.size;have HA:=ae (show Calls Tryz.prog 115 #[.pointer (some ⟨b,0,none⟩),.agg #[.int .i64 8,.int .i64 0,.string ⟨#[]⟩,.string ⟨#[]⟩,.int .i64 0,.int .i64 0,.bool false,.bool false,.string ⟨#[]⟩,.int .i64 0,.int .i64 0,.bool false,.bool false,.slice (some ⟨w7.heap.size,0,none⟩) 1 1]] (w7.alloc (.cells #[.int .i64 ((a:Nat):Int)] 3)) _ from qf gP.o ⟨{ Nd.zero with kind:=8,kids:=[((a:Nat):Int)] },some (w7.heap.size,1)⟩ (Io w7 (b+1) ((a:Nat):Int) (by omega)) (by omega) (.slice (some ⟨w7.heap.size,0,none⟩) 1 1) rfl { Nd.zero with kind:=8,kids:=[((a:Nat):Int)] } rfl);clear AR;go_wp2_with (go_at_call 115;((with_reducible refine HA.o.mono ?_);rintro e iG ⟨h1,rfl,UB,h3⟩;have yT:=ae (nG.o.trans h1);have mR:=ae h3;clear h1 h3))
       go_ret;obtain⟨hc1,hc2,hc3⟩:=zu H1.o HD6.o R7;refine⟨yT.o,.inr ⟨_,_,_,HR.o,Ny (by first|omega|(simp only[ax];omega)),p6,UB,uX++[⟨{ Nd.zero with kind:=8,kids:=[((a:Nat):Int)] },some (w7.heap.size,1)⟩],HD6.o,by rw[iL,F6.o];rfl, ?_,by rw[← bQ];exact mR.o,by simp only[ax,fo]at EC ⊢;omega⟩⟩;intro u hu j hj;rcases dQ.1 hu with hu|hu
       · exact bN xX.o (nU.o u hu j hj)
       · rw[gM.1 hu]at hj
         have hj:some w7.heap.size=some j:=hj;injection hj with hj;have:=Kz.o;omega
theorem adO:∀n:Nat,n≤3→∀q∈gp n,9≤q.2∧q.2≤19
 | 0,_=>by decide
 | 1,_=>by decide
 | 2,_=>by decide
 | 3,_=>by decide
 | n+4,h=>by omega
theorem adP:∀n:Nat,n≤3→1≤(gp n).length∧(gp n).length≤6
 | 0,_=>by decide
 | 1,_=>by decide
 | 2,_=>by decide
 | 3,_=>by decide
 | n+4,h=>by omega
def ze(n:Nat)(ts:List ah)(j:Nat):Prop:=∀(q:Nat)(y:ByteArray × Int),q<j→(gp n)[q]? = some y→ay y.1 ts=false
theorem ze.none {n:Nat}(h:ze n ts j)(hj:(gp n).length≤j):fH n ts=0:=by
 unfold fH;rw[Ld (fun p=>ay p.1 ts) (gp n) (fun q y hy=>h q y (by have:=(eQ.1 hy).1;omega) hy)]
theorem ze.at {n:Nat}{y:ByteArray × Int}(h:ze n ts j)(hy:(gp n)[j]? = some y)(hs:ay y.1 ts=true):fH n ts=y.2:=by
 unfold fH;rw[Lc (fun p=>ay p.1 ts) (gp n) j y hy hs (fun q z hq hz=>h q z hq hz)]
theorem ze.succ {n:Nat}{y:ByteArray × Int}(h:ze n ts j)(hy:(gp n)[j]? = some y)(hs:ay y.1 ts=false):ze n ts (j+1):=by
 intro q z hq hz;by_cases e:q<j
 · exact h q z e hz
 · rw[show q=j by omega,hy]at hz;injection hz with hz;subst hz;exact hs
def Y3 (f n:Nat)(res:eT)(w:World)(b:Nat)(tv:Value)(ts:List ah)(deep:Nat)(vs:List aK)(gs gk:Nat)(wU:Value)(wr:World):Prop :=
 ∃ (g:Nat)(ns':List Nd)(a' p':Nat)(bu:Value)(us:List aK),wU = .int .i64 ((a':Nat):Int)∧g≤f∧a'+1=vs.length+ns'.length∧us.length=ns'.length∧vs.length+us.length≤p' ∧
   iK g n deep vs.length ns' a' (ts.drop p')=some res∧us.map aK.n=ns'∧(∀u∈us,∀j,u.aY.ownBlock=some j→w.heap.size≤j)∧bF wr b tv ts p' (deep:Int) 0 bu (vs++us)∧Fr w wr b∧wQ wr gs gk (gp n)
def Y2 (n:Nat)(res:eT)(w:World)(b:Nat)(tv:Value)(ts:List ah)(deep:Nat)(vs:List aK)(wU:Value)(wr:World):Prop :=
 ∃(c x d:Int)(p':Nat)(bu:Value)(us:List aK),wU = .int .i64 x∧res = .error c∧(c=5∨c=6)∧(∀u∈us,∀j,u.aY.ownBlock=some j→w.heap.size≤j)∧bF wr b tv ts p' d c bu (vs++us)∧Fr w wr b∧(vs++us).length+(n+6*deep)≤ts.length+100∧((n+6*deep:Nat):Int)≤d+100∧d≤100
theorem ahv (f:Nat)(IH:∀g,g≤f→Eg g)(n:Nat)(hn:n≤3){p:Nat}{nv:Value}(h:bF w b tv ts p (deep:Int) 0 nv vs)(uE:vs.length≤p)(oz:deep≤12)(res:eT)
 (au:iX (eZ f (n+1) deep vs.length (ts.drop p)) (fun ns a r=>iK f n deep vs.length ns a r)=some res) :
 Calls Tryz.prog 77 #[.pointer (some ⟨b,0,none⟩),.int .i64 (n:Int)] w (dF (n+6*deep) res w b tv ts deep vs):=by
 have hw1 : -9223372036854775808≤(n:Int)+1:=by omega
 have hw2:(n:Int)+1≤9223372036854775807:=by omega
 have GR:¬ (3:Int)<(n:Int):=by omega
 have vW:n+1≤4:=by omega
 have kW:=h.few;have hbl:=h.blt;have OY:=ae (fun w=>ahf n hn w);obtain⟨hl1,hl6⟩:=adP n hn;obtain⟨LL,yn⟩:∃LL,(gp n).length=LL:=⟨_,rfl⟩;have xM:=ae yn;rw[yn]at hl1 hl6;clear yn;rcases eO au with ⟨c,h1,rfl⟩|⟨ns,a,r,h1,h2⟩
 · have HL:=ae (show Calls Tryz.prog 77 #[.pointer (some ⟨b,0,none⟩),.int .i64 ((n:Int)+1)] w (dF (n+1+6*deep) (.error c) w b tv ts deep vs)from IH f (aj _) (n+1) deep _ w b tv ts p nv vs vW oz h uE h1)
   clear au h1 IH h;go_enter Tryz.func77,Tryz.ntmps77
   go_upto_region 5 with (first
    | (go_at_call 77;((with_reducible refine HL.o.mono ?_);intro e w2 ho;obtain⟨hf,hc,x,rfl,p2,d2,UA,BQ,hk2,EE,hn2,hd2,akz⟩:=ho.bad rfl;have bT:=ae hf;have HC:=ae hc;have dm:=ae EE;have pz:=ae hk2;clear hf hc ho EE hk2))
    | (go_at_call 113;((with_reducible refine(OY.o _).mono ?_);rintro e w3 ⟨h1,gs,gk,rfl,h2,h3,h4⟩;rw[xM.o];have dY:=ae (bT.o.below h1);have bg:=ae (dm.o.below h1);clear h1 h2 h3 h4)))
   obtain⟨c0,c1,c2,c3,c4⟩:=bg.o.facts;clear c0 c1 c2 c4;have hc0:(c == 0)=false:=by rw[aA];rcases HC.o with h|h <;> omega
   go_loopw [5] (fun wU wr=>wU = .int .i64 x∧w3=wr) (fun _ _=>0)
   case atStart=>exact⟨rfl,rfl⟩
   case round =>
    obtain⟨rfl,rfl⟩:=hrel;go_wp2_with fail
    go_ret;exact dF.zw rfl HC.o dY.o pz.o bg.o (by omega) (by omega)
 · have HL := ae (show Calls Tryz.prog 77 #[.pointer (some ⟨b,0,none⟩),.int .i64 ((n:Int)+1)] w (dF (n+1+6*deep) (.ok (ns,a,r)) w b tv ts deep vs)from IH f (aj _) (n+1) deep _ w b tv ts p nv vs vW oz h uE h1)
   have sw:=ae IH;have H1:=ae h1;have H2:=ae h2;clear au h1 h2 IH h;go_enter Tryz.func77,Tryz.ntmps77
   go_upto_region 5 with (first
    | (go_at_call 77;((with_reducible refine HL.o.mono ?_);intro e w2 ho;obtain⟨hf,rfl,p2,UA,BQ,hp2,hu2,hk2,EE,hn2⟩:=ho.sU rfl;have bT:=ae hf;have dm:=ae EE;have HD2:=ae hp2;have Km:=ae hu2;have pz:=ae hk2;clear hf ho EE hk2 hp2 hu2))
    | (go_at_call 113;((with_reducible refine(OY.o _).mono ?_);rintro e w3 ⟨h1,gs,gk,rfl,h2,h3,h4⟩;rw[xM.o];have dY:=ae (bT.o.below h1);have bg:=ae (dm.o.below h1);have Pp:=ae h4;have hgs:=dm.o.blt;have abK:=bT.o.size;clear h1 h4)))
   have hbs:b<gs:=by omega
   have hbk:b<gk:=by omega
   have Sz:BQ.length=ns.length:=by rw[← Km.o,eF]
   have ab2:(vs++BQ).length=vs.length+BQ.length:=ax;have h3:=zu H1.o HD2.o bg.o.lt
   go_loopw [5] (fun wU wr=>Hid (Y3 f n res w b tv ts deep vs gs gk wU wr)∨Hid (Y2 n res w b tv ts deep vs wU wr)) (fun _ wr=>xy b ts.length wr)
   case atStart =>
    refine .inl (ae ⟨f,ns,a,p2,UA,BQ,rfl,aj _,h3.2.1,Sz,by omega, ?_,Km.o,pz.o,bg.o,dY.o,Pp.o⟩);rw[HD2.o];exact H2.o
   case round =>
    clear HL H1 H2 bT dm HD2 Km pz dY bg Pp h3 Sz ab2 hn2 hgs abK h2;rcases hrel with hrel|hrel
    rotate_left
    · obtain⟨c,x,d,p',bu,us,rfl,hrc,hc,hk,hps,hf,hct,hd1,hd2⟩:=hrel.o
      have HP:=ae hps;have HF:=ae hf;have HK:=ae hk;have HC:=ae hc;have wO:=ae hrc;have hc0:(c == 0)=false:=by rw[aA];rcases hc with h|h <;> omega
      obtain⟨c0,c1,c2,c3,c4⟩:=hps.facts;clear hps hf hk hc hrc c0 c1 c2 c4 hrel;go_wp2_with fail
      go_ret;exact dF.zw wO.o HC.o HF.o HK.o HP.o hct (by omega)
    obtain⟨g,ns',a',p',bu,us,rfl,hg,ha,Bj,hcn,hR,hU,hK,Ro,hF,hV⟩:=hrel.o;have HU:=ae hU;have HK:=ae hK;have iV:=ae Ro;have HF:=ae hF;have aW:=ae hV;have HR:=ae hR;clear hU hK Ro hF hV hR hrel;have ab6:=iV.o.lt;have HM:=ae (iV.o.xy ts.length);obtain⟨c0,c1,c2,c3,c4⟩:=iV.o.facts;clear c0 c1 c2 c4;go_upto_region 8 with (fail)
    match g,hg,HR with
    | 0,_,HR=>have:=HR.o;unfold iK at this;cases this
    | g+1,hg,HR =>
    have hr:=HR.o;rw[qL]at hr;have HRR:=ae hr;clear hr HR
    go_loopw [8,9] (fun aY yA wq=>∃(j:Nat),j≤LL∧yA = .int .i64 (j:Int)∧((aY = .int .i64 0∧Hid (ze n (ts.drop p') j)∧Hid (Below wr.heap.size wr wq)) ∨
     (∃kd:Int,aY = .int .i64 kd∧Hid (fH n (ts.drop p')=kd)∧9≤kd∧Hid (bF wq b tv ts (p'+1) (deep:Int) 0 bu (vs++us))∧Hid (Fr wr wq b))))
     (fun _ yA _=>LL - (intOf yA).toNat)
    case atStart=>exact⟨0,ek _,rfl,.inl ⟨rfl,ae (by intro q y hq;omega),ae (ak _ _)⟩⟩
    case round =>
     obtain⟨j,hj,rfl,hk⟩:=hrel;rcases hk with ⟨rfl,HN,HB⟩|⟨kd,rfl,jH,LC,Am,JI⟩
     · by_cases hjl:j<LL
       · have hji:(j:Int)<(LL:Int):=by omega
         obtain⟨q,hq⟩:∃q,(gp n)[j]? = some q:=⟨_,cZ (by rw[xM.o];exact hjl)⟩;obtain⟨d0,d1⟩:=(aW.o.below HB.o).cells j q hq;have Am:=ae (iV.o.below HB.o);have HS:=ae (yI Am.o q.1);rw[aR rfl,gV]at HS;have HQ:=ae hq;cases hs:ay q.1 (ts.drop p')
         · rw[hs]at HS
           have bV:=ae (HN.o.succ hq hs);clear hs hq;go_wp2_with (go_at_call 114;((with_reducible refine HS.o.mono ?_);rintro e w4 ⟨rfl,h1⟩;have cu:=ae (HB.o.trans (h1.mono HB.o.size));clear h1))
           go_roundw
           case rel=>exact⟨j+1,by omega,by go_num,.inl ⟨rfl,bV,cu⟩⟩
           case measure=>simp[intOf];omega
         · have hnx:=zS Am.o hs
           rw[hs]at HS;have kF:=ae (HN.o.at hq hs);have hkr:=(adO n hn q (fe hq)).1;clear hs hq;go_upto_region 12 with (go_at_call 114;((with_reducible refine HS.o.mono ?_);rintro e w4 ⟨rfl,h1⟩;have cu:=ae (HB.o.trans (h1.mono HB.o.size));have bS:=ae (Am.o.below h1);obtain⟨z0,z1⟩:=(aW.o.below cu.o).cells j q HQ.o;clear h1))
           clear z0 z1 d0 d1 c3;obtain⟨c0,c1,c2,c3,c4⟩:=bS.o.facts;have f1:=bS.o.frozen 1;clear c0 c2 c3 c4;go_wp2_with fail
           go_roundw
           case rel=>exact⟨j+1,by omega,by go_num,.inr ⟨q.2,rfl,kF,hkr,ae (bS.o.next hnx),ae ((Fr.of b cu.o).setCell _ _)⟩⟩
           case measure=>simp[intOf];omega
       · have hji:¬ (j:Int)<(LL:Int):=by omega
         have h0:=HN.o.none (by rw[xM.o];omega);have hr:=HRR.o;rw[ag h0]at hr;injection hr with hr;have Ka:=ae hr.symm;have bS:=ae (iV.o.below HB.o);have eD:=ae (HF.o.below HB.o);have hlen:(vs++us).length=vs.length+us.length:=ax;clear hr h0;go_wp2_with fail
         go_ret;exact⟨eD.o,.inr ⟨_,_,_,Ka.o,rfl,p',bu,us,rfl,HU.o,HK.o,bS.o,by omega⟩⟩
     · have hk0:(kd == 0)=false:=by rw[aA];omega
       have hr:=HRR.o;rw[af (by rw[jH.o];omega),jH.o,List.tail_drop]at hr;have hlen:(vs++us).length=vs.length+us.length:=ax;have jX:vs.length+ns'.length=(vs++us).length:=by rw[hlen,Bj]
       rw[jX]at hr;have hpq:=Am.o.lt;have Py:=ae (bN HF.o.size JI.o.size);have OP:=ae (HF.o.trans JI.o);have YL:=ae (aW.o.fr JI.o hbs hbk);clear c3;have hjc:(j:Int)<(LL:Int)∨¬ (j:Int)<(LL:Int):=by omega
       rcases eO hr with ⟨c,h1,h2⟩|⟨ms,b2,r2,h1,h2⟩
       · have wO:=ae h2
         have HL:=ae (show Calls Tryz.prog 77 #[.pointer (some ⟨b,0,none⟩),.int .i64 ((n:Int)+1)] wr (dF (n+1+6*deep) (.error c) wr b tv ts deep (vs++us))from sw.o g (by omega) (n+1) deep _ wr b tv ts (p'+1) bu (vs++us) vW oz Am.o (by omega) h1);clear h1 h2 hr HRR;rcases hjc with hji|hji
         all_goals
         go_upto_region 15 with (go_at_call 77;((with_reducible refine HL.o.mono ?_);intro e w5 ho;obtain⟨hf,hc,x,rfl,p5,d5,o6,dV,hk5,iY,EB,hd5,RF⟩:=ho.bad rfl;have bq:=ae (OP.o.trans hf);have aS:=ae iY;have jQ:=ae hk5;have HC:=ae hc;clear hf hc ho iY hk5))
         have hbl:=aS.o.blt;have iy:Below w5.heap.size w5 (w5.alloc (.cells #[.int .i64 ((a':Nat):Int),.int .i64 x] 3)):=(ak _ _).alloc (aj _) _;have bU:=ae (aS.o.below iy);have eG:=ae (bq.o.below iy);have HA:=ae (show Calls Tryz.prog 115 #[.pointer (some ⟨b,0,none⟩),.agg #[.int .i64 kd,.int .i64 0,.string ⟨#[]⟩,.string ⟨#[]⟩,.int .i64 0,.int .i64 0,.bool false,.bool false,.string ⟨#[]⟩,.int .i64 0,.int .i64 0,.bool false,.bool false,.slice (some ⟨w5.heap.size,0,none⟩) 2 2]] (w5.alloc (.cells #[.int .i64 ((a':Nat):Int),.int .i64 x] 3)) _ from qf bU.o ⟨{ Nd.zero with kind:=kd,kids:=[((a':Nat):Int),x] },some (w5.heap.size,2)⟩ (Ip w5 (b+1) ((a':Nat):Int) (x) (by omega)) (by omega) (.slice (some ⟨w5.heap.size,0,none⟩) 2 2) rfl { Nd.zero with kind:=kd,kids:=[((a':Nat):Int),x] } rfl);clear iy;go_wp2_with (go_at_call 115;((with_reducible refine HA.o.mono ?_);rintro e w7 ⟨h1,rfl,Bz,h3⟩;have cz:=ae (eG.o.trans h1);have bO:=ae h3;clear h1 h3))
         have wM:=ae (show ∀u∈us++(dV++[⟨{ Nd.zero with kind:=kd,kids:=[((a':Nat):Int),x] },some (w5.heap.size,2)⟩]),∀j,u.aY.ownBlock=some j→w.heap.size≤j from by
          intro u hu j hj;rcases dQ.1 hu with hu|hu
          · exact HK.o u hu j hj
          · rcases dQ.1 hu with hu|hu
            · exact bN Py.o (jQ.o u hu j hj)
            · rw[gM.1 hu]at hj
              have hj:some w5.heap.size=some j:=hj;injection hj with hj;have:=bq.o.size;omega)
         go_roundw
         case rel =>
          refine .inr (ae ⟨c,_,d5,p5,Bz,us++(dV++[⟨{ Nd.zero with kind:=kd,kids:=[((a':Nat):Int),x] },some (w5.heap.size,2)⟩]),rfl,wO.o,HC.o,wM.o,by rw[← bQ, ← bQ];exact bO.o,cz.o, ?_,by omega,RF⟩);simp only[ax,fo]at EB ⊢;omega
         case measure =>
          have h1:=bO.o.xy ts.length;rw[HM.o,h1,af (show ¬ c=0 by rcases HC.o with h|h <;> omega)];simp only[if_true];omega
       · have HL:=ae (show Calls Tryz.prog 77 #[.pointer (some ⟨b,0,none⟩),.int .i64 ((n:Int)+1)] wr (dF (n+1+6*deep) (.ok (ms,b2,r2)) wr b tv ts deep (vs++us))from sw.o g (by omega) (n+1) deep _ wr b tv ts (p'+1) bu (vs++us) vW oz Am.o (by omega) h1)
         have H1:=ae h1;have H2:=ae h2;clear h1 h2 hr HRR;rcases hjc with hji|hji
         all_goals
         go_upto_region 15 with (go_at_call 77;((with_reducible refine HL.o.mono ?_);intro e w5 ho;obtain⟨hf,rfl,p5,o6,dV,lY,l5,hk5,iY,EB⟩:=ho.sU rfl;have bq:=ae (OP.o.trans hf);have aS:=ae iY;have HD5:=ae lY;have lD:=ae l5;have jQ:=ae hk5;have HV5:=ae (YL.o.fr hf hbs hbk);clear hf ho iY hk5 lY l5))
         obtain⟨hc1,hc2,hc3⟩:=zu H1.o HD5.o aS.o.lt;have G7:dV.length=ms.length:=by rw[← lD.o,eF]
         have GN:((vs++us)++dV).length=vs.length+us.length+dV.length:=by rw[ax,ax]
         have aci:=aS.o.lt;have hbl:=aS.o.blt;have iy:Below w5.heap.size w5 (w5.alloc (.cells #[.int .i64 ((a':Nat):Int),.int .i64 ((b2:Nat):Int)] 3)):=(ak _ _).alloc (aj _) _;have bU:=ae (aS.o.below iy);have eG:=ae (bq.o.below iy);have HA:=ae (show Calls Tryz.prog 115 #[.pointer (some ⟨b,0,none⟩),.agg #[.int .i64 kd,.int .i64 0,.string ⟨#[]⟩,.string ⟨#[]⟩,.int .i64 0,.int .i64 0,.bool false,.bool false,.string ⟨#[]⟩,.int .i64 0,.int .i64 0,.bool false,.bool false,.slice (some ⟨w5.heap.size,0,none⟩) 2 2]] (w5.alloc (.cells #[.int .i64 ((a':Nat):Int),.int .i64 ((b2:Nat):Int)] 3)) _ from qf bU.o ⟨{ Nd.zero with kind:=kd,kids:=[((a':Nat):Int),((b2:Nat):Int)] },some (w5.heap.size,2)⟩ (Ip w5 (b+1) ((a':Nat):Int) (((b2:Nat):Int)) (by omega)) (by omega) (.slice (some ⟨w5.heap.size,0,none⟩) 2 2) rfl { Nd.zero with kind:=kd,kids:=[((a':Nat):Int),((b2:Nat):Int)] } rfl);have ma:=ae iy;clear iy;go_wp2_with (go_at_call 115;((with_reducible refine HA.o.mono ?_);rintro e w7 ⟨h1,rfl,Bz,h3⟩;have tX:=ae h1;have cz:=ae (eG.o.trans h1);have bO:=ae h3;clear h1 h3))
         have wM:=ae (show ∀u∈us++(dV++[⟨{ Nd.zero with kind:=kd,kids:=[((a':Nat):Int),((b2:Nat):Int)] },some (w5.heap.size,2)⟩]),∀j,u.aY.ownBlock=some j→w.heap.size≤j from by
          intro u hu j hj;rcases dQ.1 hu with hu|hu
          · exact HK.o u hu j hj
          · rcases dQ.1 hu with hu|hu
            · exact bN Py.o (jQ.o u hu j hj)
            · rw[gM.1 hu]at hj
              have hj:some w5.heap.size=some j:=hj;injection hj with hj;have:=bq.o.size;omega)
         have YJ:=ae (HV5.o.fr ((Fr.of b ma.o).trans tX.o) hbs hbk)
         go_roundw
         case rel =>
          refine .inl (ae ⟨g,ns'++(ms++[{ Nd.zero with kind:=kd,kids:=[((a':Nat):Int),((b2:Nat):Int)] }]),vs.length+(ns'.length+ms.length),p5,Bz,us++(dV++[⟨{ Nd.zero with kind:=kd,kids:=[((a':Nat):Int),((b2:Nat):Int)] },some (w5.heap.size,2)⟩]), ?_,by omega, ?_, ?_, ?_, ?_, ?_,wM.o,by rw[← bQ, ← bQ];exact bO.o,cz.o,YJ.o⟩)
          · congr 1
          · rw[ax,ax,fo];omega
          · rw[ax,ax,ax,ax,fo,fo];omega
          · rw[ax,ax,fo];omega
          · rw[HD5.o];exact H2.o
          · rw[iL,iL,HU.o,lD.o];rfl
         case measure =>
          have h1:=bO.o.xy ts.length;rw[HM.o,h1];simp only[if_true];omega
theorem VB:∀F:Nat,Eg F∧KG F:=by
 intro F
 induction F using Nat.strongRecOn with
 | _ F ih =>
   have main:KG F:=by
    intro deep res w b tv ts p nv vs hd h hc au
    match F,ih,au with
    | 0,_,au=>unfold eZ at au;cases au
    | f+1,ih,au=>exact ahF f (fun g hg=>(ih g (by omega)).1) (fun g hg=>(ih g (by omega)).2) h hc hd res au
   refine⟨?_,main⟩;intro n deep res w b tv ts p nv vs hn hd h hc au;by_cases h3:n≤3
   · match F,ih,au with
     | 0,_,au=>unfold eZ at au;cases au
     | f+1,ih,au =>
     rw[lW,ag h3]at au;exact ahv f (fun g hg=>(ih g (by omega)).1) n h3 h hc hd res au
   · have e4:n=4:=by omega
     subst e4;have HM:=ae (main deep res w b tv ts p nv vs hd h hc au);clear au h main ih hc hn h3;go_enter Tryz.func77,Tryz.ntmps77;go_wp2_with (go_at_call 112;((with_reducible refine HM.o.mono ?_);intro e w7 ho;have oP:=ae ho;obtain⟨c,rfl⟩:=ho.ret;clear ho))
     go_ret;exact oP.o
def jS(w:World)(b:Nat)(v:Value)(e:Int):Prop:=w.heap[b]? = some (.cells #[v,.int .i64 e] 97)
theorem jS.lt(h:jS w b v e):b<w.heap.size:=(dB.1 h).1
theorem jS.below(h:jS w b v e)(hb:Below B w w')(hB:b<B):jS w' b v e:=by unfold jS;rw[hb.block b hB];exact h
theorem jS.facts (h:jS w b v e):w.cell? ⟨b,0,none⟩=some v∧w.cell? ⟨b,1,none⟩=some (.int .i64 e) :=
 ⟨by rw[cell_of_row w b 0 _ _ _ h];rfl,by rw[cell_of_row w b 1 _ _ _ h];rfl⟩
theorem jS.bR(h:jS w b v e):w.frozen? ⟨b,0,none⟩=false∧w.frozen? ⟨b,1,none⟩=false:=⟨frozen_of_row w b 0 _ _ h,frozen_of_row w b 1 _ _ h⟩
theorem jS.qK {v0:Value}{e0:Int}(h:jS w b v0 e0)(v:Value)(e:Int):jS ((w.setCell ⟨b,0,none⟩ v).setCell ⟨b,1,none⟩ (.int .i64 e)) b v e:=by
 have h1:(w.setCell ⟨b,0,none⟩ v).heap[b]? = some (.cells #[v,.int .i64 e0] 97):=by rw[heap_setCell_same w b 0 _ _ _ h];rfl
 unfold jS;rw[heap_setCell_same _ b 1 _ _ _ h1];rfl
theorem jS.new(w:World)(v:Value)(e:Int):jS (w.alloc (.cells #[v,.int .i64 e] 97)) w.heap.size v e:=(lu w _).1
theorem af3:(Tryz.prog.info? 97).map (·.size)=some 2:=by kernel_rfl
theorem Ik (h:jS w b v e)(fn:Func)(tmps:Array Value)(p:Tmp)(hf:fn.results=#[.cell p 97])(hp:tmps.getD p undef = .pointer (some ⟨b,0,none⟩)) :
 (results fn tmps).run Tryz.prog w = .ok (.agg #[v,.int .i64 e]) w :=
 results_cell_row hf tmps w b _ _ _ _ hp h Tryz.underlying97 rfl af3
theorem IQ:Tryz.f52.results=#[.cell 2 97]:=by kernel_rfl
theorem Gu{a:World}(h:Below B a w)(hg:B≤g)(v0 v1:Value):Below B a ((w.setCell ⟨g,0,none⟩ v0).setCell ⟨g,1,none⟩ v1):=(h.setCell hg _).setCell hg _
def Y1 (res:Except Int (List Nd))(w:World)(e:Ending)(w':World):Prop :=
 Below w.heap.size w w'∧((∃c,res = .error c∧(c=4∨c=5∨c=6)∧e = .returned (.agg #[.slice none 0 0,.int .i64 c])) ∨
  (∃ns g cap vs,res = .ok ns∧vs.map aK.n=ns∧e = .returned (.agg #[.slice (some ⟨g,0,none⟩) vs.length cap,.int .i64 0])∧kG w' w.heap.size (.slice (some ⟨g,0,none⟩) vs.length cap) vs∧vs.length≤1000))
theorem adW {s:ByteArray}{w1:World}{e:Ending}(h:Gi s w e w1)(h1:s.size≤300)(ts:List ah)(h2:gT (sb s)=some ts):Below w.heap.size w w1∧∃v,e = .returned (.agg #[v,.int .i64 0])∧sO w1 w.heap.size v ts:=by
 rcases h with ⟨hb,⟨h,_⟩|⟨_,h,_⟩|⟨_,ts',v,h3,h4,h5⟩⟩
 · omega
 · rw[h2]at h;cases h
 · rw[h2]at h3;injection h3 with h3;subst h3;exact⟨hb,v,h4,h5⟩
theorem TH {s:ByteArray}{w1:World}{e:Ending}(h:Gi s w e w1)(h1:300<s.size∨(s.size≤300∧gT (sb s)=none)):Below w.heap.size w w1∧e = .returned (.agg #[.slice none 0 0,.int .i64 (if 300<s.size then 4 else 5)]):=by
 rcases h with ⟨hb,⟨h,he⟩|⟨h,h0,he⟩|⟨h,ts',v,h3,_⟩⟩
 · rw[ag h];exact⟨hb,he⟩
 · rw[af (by omega)];exact⟨hb,he⟩
 · rcases h1 with h1|⟨_,h1⟩
   · omega
   · rw[h1]at h3;cases h3
theorem afp{us:List aK}(h:kG w B v us)(n:Nat):kG (w.drewN n) B v us:=h
theorem jS.fr {c:Nat}(h:jS w c v e)(hf:Fr w w' b)(hc:c<b):jS w' c v e:=by
 unfold jS;rw[hf.block c h.lt (by omega) (.inl hc)];exact h
theorem VK (s:ByteArray)(w:World)(c:Int)(hc:c=4∨c=5)(hl:∀w e w1,Gi s w e w1→Below w.heap.size w w1∧e = .returned (.agg #[.slice none 0 0,.int .i64 c])) :
 Calls Tryz.prog 52 #[.string s] w fun e w'=>Below w.heap.size w w'∧e = .returned (.agg #[.slice none 0 0,.int .i64 c]):=by
 have HL:=ae hl;have hc0:(c != 0)=true:=by rw[bne_iff_ne];omega
 have ui:=ae (jS.new w (.slice none 0 0) 0);have bz:=ae (show Below w.heap.size w (w.alloc (.cells #[.slice none 0 0,.int .i64 0] 97))from(ak _ _).alloc (aj _) _);have xO:=ae (fun w=>Vg s w);clear hl;go_enter Tryz.func52,Tryz.ntmps52;go_upto_region 1 with (fail)
 generalize w.alloc (.cells #[.slice none 0 0,.int .i64 0] 97)=w1 at ui bz ⊢;go_upto_region 2 with (go_at_call 76;((with_reducible refine(xO.o _).mono ?_);intro e w2 hx;obtain⟨hb,he⟩:=HL.o _ _ _ hx;subst he;have HB2:=ae (bz.o.trans (hb.mono bz.o.size));have Cg:=ae (ui.o.below hb ui.o.lt);clear hb hx))
 have hB3:Below w2.heap.size w2 (w2.alloc (.cells #[.slice none 0 0,.int .i64 c] 129)):=(ak _ _).alloc (aj _) _;have HT3:=mh.new w2 (.slice none 0 0) c;have HB3:=ae (HB2.o.trans (hB3.mono HB2.o.size));have wN:=ae (Cg.o.below hB3 Cg.o.lt);clear hB3;generalize hb2:w2.heap.size=b2 at HT3 ⊢;generalize w2.alloc (.cells #[.slice none 0 0,.int .i64 c] 129)=w3 at HT3 HB3 wN ⊢;clear hb2;obtain⟨x0,x1⟩:=HT3.facts;obtain⟨y0,y1⟩:=wN.o.facts;obtain⟨z0,z1⟩:=wN.o.bR;go_wp2_with fail
 exact bodyPost_ret (Ik (wN.o.qK (.slice none 0 0) c) _ _ 2 IQ rfl) rfl ⟨Gu HB3.o (aj _) _ _,rfl⟩
theorem VJ (s:ByteArray)(w:World)(res:Except Int (List Nd))(hp:gZ s res):Calls Tryz.prog 52 #[.string s] w (Y1 res w):=by
 rcases hp with ⟨h1,rfl⟩|⟨h1,h2,rfl⟩|⟨h1,ts,f,h2,h3⟩
 · refine(VK s w 4 (.inl rfl) (fun w e w1 h=>by have:=TH h (.inl h1);rw[ag h1]at this;exact this)).mono ?_
   rintro e w' ⟨hb,rfl⟩;exact⟨hb,.inl ⟨4,rfl,.inl rfl,rfl⟩⟩
 · refine(VK s w 5 (.inr rfl) (fun w e w1 h=>by have:=TH h (.inr ⟨h1,h2⟩);rw[af (by omega)]at this;exact this)).mono ?_
   rintro e w' ⟨hb,rfl⟩;exact⟨hb,.inl ⟨5,rfl,.inr (.inl rfl),rfl⟩⟩
 obtain⟨yu,A9⟩:=Hy s ts h2;have hlen:=Tz s ts h2;have hne:=List.length_pos_iff.2 (Mv s ts h2);have DK:=ae A9;have ui:=ae (jS.new w (.slice none 0 0) 0);have bz:=ae (show Below w.heap.size w (w.alloc (.cells #[.slice none 0 0,.int .i64 0] 97))from(ak _ _).alloc (aj _) _);have xO:=ae (fun w=>(Vg s w).mono fun e w1 h=>adW h h1 ts h2);unfold j4 at h3;have H3:=ae h3;obtain⟨nt,hnt⟩:∃nt,ts.length=nt:=⟨_,rfl⟩;have mE:=ae hnt;rw[hnt]at hlen hne;clear h2 h3 yu A9 hnt;go_enter Tryz.func52,Tryz.ntmps52;go_upto_region 1 with (fail)
 generalize w.alloc (.cells #[.slice none 0 0,.int .i64 0] 97)=w1 at ui bz ⊢;go_upto_region 2 with (go_at_call 76;((with_reducible refine(xO.o _).mono ?_);rintro e w2 ⟨hb,tv,rfl,ho⟩;obtain⟨g1,fu,xk,hg0,hg1, -, -⟩:=Own.some ho (by rw[mE.o];exact hne);rw[mE.o]at xk;subst xk;have HB2:=ae (bz.o.trans (hb.mono bz.o.size));have Cg:=ae (ui.o.below hb ui.o.lt);have nW:=ae ho;clear hb ho))
 have hB3:Below w2.heap.size w2 (w2.alloc (.cells #[.slice (some ⟨g1,0,none⟩) nt fu,.int .i64 0] 129)):=(ak _ _).alloc (aj _) _;have HT3:=mh.new w2 (.slice (some ⟨g1,0,none⟩) nt fu) 0;have HB3:=ae (HB2.o.trans (hB3.mono HB2.o.size));have wN:=ae (Cg.o.below hB3 Cg.o.lt);have gm:=ae (nW.o.below hB3 (aj _));have hg3:g1<(w2.alloc (.cells #[.slice (some ⟨g1,0,none⟩) nt fu,.int .i64 0] 129)).heap.size:=by simp;omega
 clear hB3 HB2 Cg nW xO hg0 hg1;generalize hb2:w2.heap.size=b2 at HT3 ⊢;generalize w2.alloc (.cells #[.slice (some ⟨g1,0,none⟩) nt fu,.int .i64 0] 129)=w3 at HT3 HB3 wN gm hg3 ⊢;clear hb2;obtain⟨x0,x1⟩:=HT3.facts;clear HT3;go_upto_region 5 with (fail)
 have hB4:Below w3.heap.size w3 (w3.alloc (.cells #[.slice (some ⟨g1,0,none⟩) nt fu,.int .i64 0,.int .i64 0,.int .i64 0,.slice none 0 0] 133)):=(ak _ _).alloc (aj _) _;have GK:(w3.alloc (.cells #[.slice (some ⟨g1,0,none⟩) nt fu,.int .i64 0,.int .i64 0,.int .i64 0,.slice none 0 0] 133)).heap[w3.heap.size]? = some (.cells #[.slice (some ⟨g1,0,none⟩) nt fu,.int .i64 0,.int .i64 0,.int .i64 0,.slice none 0 0] 133):=(lu w3 _).1;have cu:=ae (HB3.o.trans (hB4.mono HB3.o.size));have JZ:=ae (wN.o.below hB4 wN.o.lt);have mg:=ae (gm.o.below hB4 (aj _));have hpb:=wN.o.lt;have hzb:=HB3.o.size;clear hB4 x0 x1;generalize w3.alloc (.cells #[.slice (some ⟨g1,0,none⟩) nt fu,.int .i64 0,.int .i64 0,.int .i64 0,.slice none 0 0] 133)=w4 at GK cu JZ mg ⊢;generalize w3.heap.size=b at GK hg3 hpb hzb ⊢
 have HP:=ae (show bF w4 b (.slice (some ⟨g1,0,none⟩) nt fu) ts 0 ((0:Nat):Int) 0 (.slice none 0 0) []from
  ⟨GK,⟨g1,fu,by rw[mE.o],hg3,mg.o.mono (ek _)⟩,kG.nil _ _,by rw[mE.o];exact hne,DK.o,by rw[mE.o];omega,ek _⟩)
 clear GK mg DK gm HB3 wN bz ui;have hB0:w.heap.size≤b:=by omega
 rcases eO H3.o with ⟨c,g2,rfl⟩|⟨ns,a,r,g2,g3⟩
 · have HX:=ae (show Calls Tryz.prog 77 #[.pointer (some ⟨b,0,none⟩),.int .i64 0] w4 (dF (0+6*0) (.error c) w4 b (.slice (some ⟨g1,0,none⟩) nt fu) ts 0 [])from(VB f).1 0 0 _ w4 b _ ts 0 _ [] (by omega) (by omega) HP.o (aj _) g2)
   clear g2 H3;go_upto_region 6 with (go_at_call 77;((with_reducible refine HX.o.mono ?_);intro e w5 ho;obtain⟨hf,hc,x,rfl,p5,d5,o6,dV,hk5,iY, -, -, -⟩:=ho.bad rfl;have eX:=ae (cu.o.trans (hf.toBelow hB0 cu.o.size));have y9:=ae (JZ.o.fr hf hpb);have aS:=ae iY;have HC:=ae hc;clear hf hc ho hk5 iY))
   obtain⟨c0,c1,c2,c3,c4⟩:=aS.o.facts;obtain⟨y0,y1⟩:=y9.o.facts;obtain⟨z0,z1⟩:=y9.o.bR;have hc0:(c == 0)=false:=by rw[aA];rcases HC.o with h|h <;> omega
   have hc1:(c != 0)=true:=by rw[bne,hc0];rfl
   go_quiet (fail)
   go_wp2_with fail
   exact bodyPost_ret (Ik ((show jS (w5.drewN nq) w.heap.size (.slice none 0 0) 0 from y9.o).qK (.slice none 0 0) c) _ _ 2 IQ rfl) rfl ⟨Gu (oq eX.o nq) (aj _) _ _,.inl ⟨c,rfl,.inr HC.o,rfl⟩⟩
 · have HX:=ae (show Calls Tryz.prog 77 #[.pointer (some ⟨b,0,none⟩),.int .i64 0] w4 (dF (0+6*0) (.ok (ns,a,r)) w4 b (.slice (some ⟨g1,0,none⟩) nt fu) ts 0 [])from(VB f).1 0 0 _ w4 b _ ts 0 _ [] (by omega) (by omega) HP.o (aj _) g2)
   have hns:=((wG f).1 _ _ _ _ _ _ _ g2).2.2;have H4:=ae g3;clear g2 g3 H3;go_upto_region 6 with (go_at_call 77;((with_reducible refine HX.o.mono ?_);intro e w5 ho;obtain⟨hf,rfl,p5,o6,dV,lY,l5,hk5,iY, -⟩:=ho.sU rfl;have eX:=ae (cu.o.trans (hf.toBelow hB0 cu.o.size));have y9:=ae (JZ.o.fr hf hpb);have aS:=ae iY;have HD5:=ae lY;have lD:=ae l5;clear hf ho lY l5 hk5 iY))
   obtain⟨c0,c1,c2,c3,c4⟩:=aS.o.facts;obtain⟨gt,ct,t,xk,ht,hd, -,k0, -⟩:=aS.o.tok;injection xk with xk htl htc;injection xk with xk;injection xk with xk;subst xk;have h4:=H4.o;rw[← HD5.o,hd]at h4;have zA:=aS.o.lt;obtain⟨g5,Qs,rfl, -, -, -, -⟩:=Own.some aS.o.nodes.1 (show 0<(([]:List aK)++dV).length by rw[gX, ← eF (f:=aK.n),lD.o];omega);have hi1:(0:Int)≤(p5:Int):=by omega
   have hi2:(p5:Int)<(nt:Int):=by rw[mE.o]at zA;omega
   obtain⟨kd,hkd⟩:∃kd,t.kind=kd:=⟨_,rfl⟩;rw[hkd]at k0;clear HX ht hd H4 htl htc zA;by_cases h0:t.kind=0
   · rw[show uN (t :: ts.drop (p5+1))=t.kind from rfl,ag h0]at h4
     injection h4 with h4;have HR:=ae h4.symm;have e0:(kd != 0)=false:=by rw[← hkd,h0];rfl
     clear h4 h0 hkd;go_quiet (fail)
     obtain⟨y0,y1⟩:=y9.o.facts;obtain⟨z0,z1⟩:=y9.o.bR;go_wp2_with fail
     have fC:=ae (afp aS.o.nodes nq);exact bodyPost_ret (Ik ((show jS (w5.drewN nq) w.heap.size (.slice none 0 0) 0 from y9.o).qK _ 0) _ _ 2 IQ rfl) rfl ⟨Gu (oq eX.o nq) (aj _) _ _,.inr ⟨ns,g5,Qs,([]:List aK)++dV,HR.o,by rw[gX];exact lD.o,rfl,((fC.o.set (by omega) _ _).set (by omega) _ _).mono (by omega),by have h1:=aS.o.cnt;have h2:=mE.o;omega⟩⟩
   · rw[show uN (t :: ts.drop (p5+1))=t.kind from rfl,af h0]at h4
     injection h4 with h4;have HR:=ae h4.symm;have e0:(kd != 0)=true:=by rw[bne_iff_ne, ← hkd];exact h0
     clear h4 h0 hkd;go_quiet (fail)
     have iy:Below w5.heap.size w5 (w5.drewN nq):=oq (ak _ _) nq;have bU:=ae (aS.o.below iy);have iR:=ae (oq eX.o nq);have Pd:=ae (show jS (w5.drewN nq) w.heap.size (.slice none 0 0) 0 from y9.o);have tX:=ae (BG bU.o 5);clear c0 c1 c2 c3 c4 k0 iy;generalize w5.drewN nq=w6 at bU iR Pd tX ⊢;go_wp2_with (go_at_call 78;((with_reducible refine tX.o.mono ?_);rintro e w7 ⟨rfl,h1,h2⟩;have Ae:=ae (iR.o.trans (h1.toBelow hB0 iR.o.size));have J2:=ae (Pd.o.fr h1 hpb);obtain⟨c0,c1,c2,c3,c4⟩:=(bF.MX h2).facts;obtain⟨y0,y1⟩:=J2.o.facts;obtain⟨z0,z1⟩:=J2.o.bR;clear h1 h2 c0 c1 c2 c4))
     exact bodyPost_ret (Ik (J2.o.qK (.slice none 0 0) 5) _ _ 2 IQ rfl) rfl ⟨Gu Ae.o (aj _) _ _,.inl ⟨5,HR.o,.inr (.inl rfl),rfl⟩⟩
theorem Bv (w:World)(n:Nd)(A:Option Addr)(m c:Nat):∃w1,w.alloc (.cells #[.int .i64 n.kind,.int .i64 n.num,.string n.text,.string n.ref.sh,.int .i64 n.ref.c,.int .i64 n.ref.r,.bool n.ref.ac,.bool n.ref.ar,.string n.ai.sh,.int .i64 n.ai.c,.int .i64 n.ai.r,.bool n.ai.ac,.bool n.ai.ar,.slice A m c] 44)=w1∧az w1 w.heap.size n (.slice A m c)∧Below w.heap.size w w1 :=
 ⟨_,rfl,az.new w n _,(ak _ _).alloc (aj _) _⟩
theorem agB (n:Nd)(hk:n.kind=1)(_hs:n.text.size≤1000000)(_hr:n.ref.sh.size≤1000000)(_ht:n.ai.sh.size≤1000000)(dh:aO n=true)(A:Option Addr)(m c:Nat)(w:World):Calls Tryz.prog 29 #[.agg #[.int .i64 n.kind,.int .i64 n.num,.string n.text,.string n.ref.sh,.int .i64 n.ref.c,.int .i64 n.ref.r,.bool n.ref.ac,.bool n.ref.ar,.string n.ai.sh,.int .i64 n.ai.c,.int .i64 n.ai.r,.bool n.ai.ac,.bool n.ai.ar,.slice A m c]] w fun e w'=>e = .returned (.bool (aO n))∧Below w.heap.size w w':=by
 have dx:=ae dh;clear dh;obtain⟨w1,hw1,hx,hb⟩:=Bv w n A m c;have HB:=ae hb;have dK:=ae (fun w=>rV n.ref w);have bV:=ae (fun w=>rV n.ai w);have HK:=ae hk;clear hk;go_enter Tryz.func29,Tryz.ntmps29;go_upto_region 1 with (fail)
 clear hw1 hb;generalize hb0:w.heap.size=b0 at hx ⊢;obtain⟨x0,x1,x2,x3,x4,x5,x6,x7,av,aI,aF,aG,aH,aC⟩:=hx.cells;have HX:=ae hx;clear hx;have hk:=HK.o;rw[hk]at x0;by_cases fP:n.text=⟨#[]⟩;rotate_left
 · have t0:¬ n.text.toList=[]:=by rw[← pU];exact pg _ _ fP
   have t1:n.text.toList.isEmpty=false:=by simpa using t0
   have HR:=ae (show aO n=false by unfold aO;simp[hk,fP]);exact absurd HR.o (by rw[dx.o];decide)
 have t0:=pU;rw[fP]at x2;cases hq1:fQ n.ref
 · have pF:=ae hq1
   have HR:=ae (show aO n=false by unfold aO;simp[hk,fP,hq1]);exact absurd HR.o (by rw[dx.o];decide)
 have pF:=ae hq1;cases hq2:fQ n.ai
 · have nH:=ae hq2
   have HR:=ae (show aO n=false by unfold aO;simp[hk,fP,hq1,hq2]);exact absurd HR.o (by rw[dx.o];decide)
 have nH:=ae hq2;have HR:=ae (show aO n=decide (0≤n.num)by unfold aO;simp[hk,fP,hq1,hq2]);clear fP;clear hq1;clear hq2;clear hk
 go_wp2_with (first
  | (go_at_call 53;((with_reducible refine(dK.o _).mono ?_);rintro e w2 ⟨rfl,h1⟩;rw[pF.o];have HB2:=ae (HB.o.trans (h1.mono HB.o.size));have dw:=ae (HX.o.below h1 HX.o.lt);clear x0 x1 x2 x3 x4 x5 x6 x7 av aI aF aG aH aC;obtain⟨x0,x1,x2,x3,x4,x5,x6,x7,av,aI,aF,aG,aH,aC⟩:=dw.o.cells;rw[HK.o]at x0;clear h1;clear dK))
  | (go_at_call 53;((with_reducible refine(bV.o _).mono ?_);rintro e w3 ⟨rfl,h1⟩;rw[nH.o];have HB3:=ae (HB2.o.trans (h1.mono HB2.o.size));have fq:=ae (dw.o.below h1 dw.o.lt);clear x0 x1 x2 x3 x4 x5 x6 x7 av aI aF aG aH aC;obtain⟨x0,x1,x2,x3,x4,x5,x6,x7,av,aI,aF,aG,aH,aC⟩:=fq.o.cells;rw[HK.o]at x0;clear h1)))
 go_ret;exact⟨by rw[HR.o] <;> rfl,HB3.o⟩
theorem agC (n:Nd)(hk:n.kind=2)(hs:n.text.size≤1000000)(_hr:n.ref.sh.size≤1000000)(_ht:n.ai.sh.size≤1000000)(dh:aO n=true)(A:Option Addr)(m c:Nat)(w:World):Calls Tryz.prog 29 #[.agg #[.int .i64 n.kind,.int .i64 n.num,.string n.text,.string n.ref.sh,.int .i64 n.ref.c,.int .i64 n.ref.r,.bool n.ref.ac,.bool n.ref.ar,.string n.ai.sh,.int .i64 n.ai.c,.int .i64 n.ai.r,.bool n.ai.ac,.bool n.ai.ar,.slice A m c]] w fun e w'=>e = .returned (.bool (aO n))∧Below w.heap.size w w':=by
 have dx:=ae dh;clear dh;obtain⟨w1,hw1,hx,hb⟩:=Bv w n A m c;have HB:=ae hb;have dK:=ae (fun w=>rV n.ref w);have bV:=ae (fun w=>rV n.ai w);have HK:=ae hk;clear hk;go_enter Tryz.func29,Tryz.ntmps29;go_upto_region 1 with (fail)
 clear hw1 hb;generalize hb0:w.heap.size=b0 at hx ⊢;obtain⟨x0,x1,x2,x3,x4,x5,x6,x7,av,aI,aF,aG,aH,aC⟩:=hx.cells;have HX:=ae hx;clear hx;have hk:=HK.o;rw[hk]at x0;by_cases bP:n.num=0;rotate_left
 · have en:(n.num != 0)=true:=by rw[bne_iff_ne];exact bP
   have HR:=ae (show aO n=false by unfold aO;simp[hk,bP]);exact absurd HR.o (by rw[dx.o];decide)
 rw[bP]at x1;cases hq1:fQ n.ref
 · have pF:=ae hq1
   have HR:=ae (show aO n=false by unfold aO;simp[hk,bP,hq1]);exact absurd HR.o (by rw[dx.o];decide)
 have pF:=ae hq1;cases hq2:fQ n.ai
 · have nH:=ae hq2
   have HR:=ae (show aO n=false by unfold aO;simp[hk,bP,hq1,hq2]);exact absurd HR.o (by rw[dx.o];decide)
 have nH:=ae hq2;have HR:=ae (show aO n=mM (sb n.text)by unfold aO;simp[hk,bP,hq1,hq2]);clear bP;clear hq1;clear hq2;clear hk
 go_wp2_with (first
  | (go_at_call 53;((with_reducible refine(dK.o _).mono ?_);rintro e w2 ⟨rfl,h1⟩;rw[pF.o];have HB2:=ae (HB.o.trans (h1.mono HB.o.size));have dw:=ae (HX.o.below h1 HX.o.lt);clear x0 x1 x2 x3 x4 x5 x6 x7 av aI aF aG aH aC;obtain⟨x0,x1,x2,x3,x4,x5,x6,x7,av,aI,aF,aG,aH,aC⟩:=dw.o.cells;rw[HK.o]at x0;clear h1;clear dK))
  | (go_at_call 53;((with_reducible refine(bV.o _).mono ?_);rintro e w3 ⟨rfl,h1⟩;rw[nH.o];have HB3:=ae (HB2.o.trans (h1.mono HB2.o.size));have fq:=ae (dw.o.below h1 dw.o.lt);clear x0 x1 x2 x3 x4 x5 x6 x7 av aI aF aG aH aC;obtain⟨x0,x1,x2,x3,x4,x5,x6,x7,av,aI,aF,aG,aH,aC⟩:=fq.o.cells;rw[HK.o]at x0;clear h1))
  | (go_at_call 54;((with_reducible refine(agP _ _ hs).mono ?_);rintro e wp ⟨rfl,rfl⟩)))
 go_ret;exact⟨by rw[HR.o] <;> rfl,HB3.o⟩
theorem agD (n:Nd)(hk:n.kind=3)(_hs:n.text.size≤1000000)(_hr:n.ref.sh.size≤1000000)(_ht:n.ai.sh.size≤1000000)(dh:aO n=true)(A:Option Addr)(m c:Nat)(w:World):Calls Tryz.prog 29 #[.agg #[.int .i64 n.kind,.int .i64 n.num,.string n.text,.string n.ref.sh,.int .i64 n.ref.c,.int .i64 n.ref.r,.bool n.ref.ac,.bool n.ref.ar,.string n.ai.sh,.int .i64 n.ai.c,.int .i64 n.ai.r,.bool n.ai.ac,.bool n.ai.ar,.slice A m c]] w fun e w'=>e = .returned (.bool (aO n))∧Below w.heap.size w w':=by
 have dx:=ae dh;clear dh;obtain⟨w1,hw1,hx,hb⟩:=Bv w n A m c;have HB:=ae hb;have dK:=ae (fun w=>rV n.ref w);have bV:=ae (fun w=>rV n.ai w);have HK:=ae hk;clear hk;go_enter Tryz.func29,Tryz.ntmps29;go_upto_region 1 with (fail)
 clear hw1 hb;generalize hb0:w.heap.size=b0 at hx ⊢;obtain⟨x0,x1,x2,x3,x4,x5,x6,x7,av,aI,aF,aG,aH,aC⟩:=hx.cells;have HX:=ae hx;clear hx;have hk:=HK.o;rw[hk]at x0;by_cases fP:n.text=⟨#[]⟩;rotate_left
 · have t0:¬ n.text.toList=[]:=by rw[← pU];exact pg _ _ fP
   have t1:n.text.toList.isEmpty=false:=by simpa using t0
   have HR:=ae (show aO n=false by unfold aO;simp[hk,fP]);exact absurd HR.o (by rw[dx.o];decide)
 have t0:=pU;rw[fP]at x2;cases hq1:fQ n.ref
 · have pF:=ae hq1
   have HR:=ae (show aO n=false by unfold aO;simp[hk,fP,hq1]);exact absurd HR.o (by rw[dx.o];decide)
 have pF:=ae hq1;cases hq2:fQ n.ai
 · have nH:=ae hq2
   have HR:=ae (show aO n=false by unfold aO;simp[hk,fP,hq1,hq2]);exact absurd HR.o (by rw[dx.o];decide)
 have nH:=ae hq2;by_cases h0:n.num=0
 · have HR:=ae (show aO n=true by unfold aO;simp[hk,fP,hq1,hq2,h0])
   have e0:(n.num == 0)=true:=bB.2 h0;clear fP;clear hq1;clear hq2;clear hk;clear h0
   go_wp2_with (first
    | (go_at_call 53;((with_reducible refine(dK.o _).mono ?_);rintro e w2 ⟨rfl,h1⟩;rw[pF.o];have HB2:=ae (HB.o.trans (h1.mono HB.o.size));have dw:=ae (HX.o.below h1 HX.o.lt);clear x0 x1 x2 x3 x4 x5 x6 x7 av aI aF aG aH aC;obtain⟨x0,x1,x2,x3,x4,x5,x6,x7,av,aI,aF,aG,aH,aC⟩:=dw.o.cells;rw[HK.o]at x0;clear h1;clear dK))
    | (go_at_call 53;((with_reducible refine(bV.o _).mono ?_);rintro e w3 ⟨rfl,h1⟩;rw[nH.o];have HB3:=ae (HB2.o.trans (h1.mono HB2.o.size));have fq:=ae (dw.o.below h1 dw.o.lt);clear x0 x1 x2 x3 x4 x5 x6 x7 av aI aF aG aH aC;obtain⟨x0,x1,x2,x3,x4,x5,x6,x7,av,aI,aF,aG,aH,aC⟩:=fq.o.cells;rw[HK.o]at x0;clear h1)))
   go_ret;exact⟨by rw[HR.o] <;> rfl,HB3.o⟩
 · have e0:(n.num == 0)=false:=aA.2 h0
   by_cases h1:n.num=1
   · have e1:(n.num == 1)=true:=bB.2 h1
     have HR:=ae (show aO n=true by unfold aO;simp[hk,fP,hq1,hq2,h1]);clear fP;clear hq1;clear hq2;clear hk;clear h0 h1
     go_wp2_with (first
      | (go_at_call 53;((with_reducible refine(dK.o _).mono ?_);rintro e w2 ⟨rfl,h1⟩;rw[pF.o];have HB2:=ae (HB.o.trans (h1.mono HB.o.size));have dw:=ae (HX.o.below h1 HX.o.lt);clear x0 x1 x2 x3 x4 x5 x6 x7 av aI aF aG aH aC;obtain⟨x0,x1,x2,x3,x4,x5,x6,x7,av,aI,aF,aG,aH,aC⟩:=dw.o.cells;rw[HK.o]at x0;clear h1;clear dK))
      | (go_at_call 53;((with_reducible refine(bV.o _).mono ?_);rintro e w3 ⟨rfl,h1⟩;rw[nH.o];have HB3:=ae (HB2.o.trans (h1.mono HB2.o.size));have fq:=ae (dw.o.below h1 dw.o.lt);clear x0 x1 x2 x3 x4 x5 x6 x7 av aI aF aG aH aC;obtain⟨x0,x1,x2,x3,x4,x5,x6,x7,av,aI,aF,aG,aH,aC⟩:=fq.o.cells;rw[HK.o]at x0;clear h1)))
     go_ret;exact⟨by rw[HR.o] <;> rfl,HB3.o⟩
   · have e1:(n.num == 1)=false:=aA.2 h1
     have HR:=ae (show aO n=false by unfold aO;simp[hk,fP,hq1,hq2,h0,h1]);exact absurd HR.o (by rw[dx.o];decide)
theorem agE (n:Nd)(hk:n.kind=5)(_hs:n.text.size≤1000000)(hr:n.ref.sh.size≤1000000)(_ht:n.ai.sh.size≤1000000)(dh:aO n=true)(A:Option Addr)(m c:Nat)(w:World):Calls Tryz.prog 29 #[.agg #[.int .i64 n.kind,.int .i64 n.num,.string n.text,.string n.ref.sh,.int .i64 n.ref.c,.int .i64 n.ref.r,.bool n.ref.ac,.bool n.ref.ar,.string n.ai.sh,.int .i64 n.ai.c,.int .i64 n.ai.r,.bool n.ai.ac,.bool n.ai.ar,.slice A m c]] w fun e w'=>e = .returned (.bool (aO n))∧Below w.heap.size w w':=by
 have dx:=ae dh;clear dh;obtain⟨w1,hw1,hx,hb⟩:=Bv w n A m c;have HB:=ae hb;have dK:=ae (fun w=>rV n.ref w);have bV:=ae (fun w=>rV n.ai w);have HK:=ae hk;clear hk;go_enter Tryz.func29,Tryz.ntmps29;go_upto_region 1 with (fail)
 clear hw1 hb;generalize hb0:w.heap.size=b0 at hx ⊢;obtain⟨x0,x1,x2,x3,x4,x5,x6,x7,av,aI,aF,aG,aH,aC⟩:=hx.cells;have HX:=ae hx;clear hx;have hk:=HK.o;rw[hk]at x0;by_cases bP:n.num=0;rotate_left
 · have en:(n.num != 0)=true:=by rw[bne_iff_ne];exact bP
   have HR:=ae (show aO n=false by unfold aO;simp[hk,bP]);exact absurd HR.o (by rw[dx.o];decide)
 rw[bP]at x1;by_cases fP:n.text=⟨#[]⟩;rotate_left
 · have t0:¬ n.text.toList=[]:=by rw[← pU];exact pg _ _ fP
   have t1:n.text.toList.isEmpty=false:=by simpa using t0
   have HR:=ae (show aO n=false by unfold aO;simp[hk,bP,fP]);exact absurd HR.o (by rw[dx.o];decide)
 have t0:=pU;rw[fP]at x2;cases hq2:fQ n.ai
 · have nH:=ae hq2
   have HR:=ae (show aO n=false by unfold aO;simp[hk,bP,fP,hq2]);exact absurd HR.o (by rw[dx.o];decide)
 have nH:=ae hq2;have HR:=ae (show aO n=bX n.ref by unfold aO;simp[hk,bP,fP,hq2]);clear bP;clear fP;clear hq2;clear hk
 go_wp2_with (first
  | (go_at_call 53;((with_reducible refine(bV.o _).mono ?_);rintro e w2 ⟨rfl,h1⟩;rw[nH.o];have HB2:=ae (HB.o.trans (h1.mono HB.o.size));have dw:=ae (HX.o.below h1 HX.o.lt);clear x0 x1 x2 x3 x4 x5 x6 x7 av aI aF aG aH aC;obtain⟨x0,x1,x2,x3,x4,x5,x6,x7,av,aI,aF,aG,aH,aC⟩:=dw.o.cells;rw[HK.o]at x0;clear h1))
  | (go_at_call 42;((with_reducible refine(oI _ _ _ _ _ _ hr).mono ?_);rintro e wp ⟨rfl,h1⟩;have XC:=ae (HB2.o.trans (h1.mono HB2.o.size));clear h1)))
 go_ret;exact⟨by rw[HR.o] <;> rfl,XC.o⟩
theorem agF (n:Nd)(hk:n.kind=6)(_hs:n.text.size≤1000000)(hr:n.ref.sh.size≤1000000)(ht:n.ai.sh.size≤1000000)(dh:aO n=true)(A:Option Addr)(m c:Nat)(w:World):Calls Tryz.prog 29 #[.agg #[.int .i64 n.kind,.int .i64 n.num,.string n.text,.string n.ref.sh,.int .i64 n.ref.c,.int .i64 n.ref.r,.bool n.ref.ac,.bool n.ref.ar,.string n.ai.sh,.int .i64 n.ai.c,.int .i64 n.ai.r,.bool n.ai.ac,.bool n.ai.ar,.slice A m c]] w fun e w'=>e = .returned (.bool (aO n))∧Below w.heap.size w w':=by
 have dx:=ae dh;clear dh;obtain⟨w1,hw1,hx,hb⟩:=Bv w n A m c;have HB:=ae hb;have dK:=ae (fun w=>rV n.ref w);have bV:=ae (fun w=>rV n.ai w);have HK:=ae hk;clear hk;go_enter Tryz.func29,Tryz.ntmps29;go_upto_region 1 with (fail)
 clear hw1 hb;generalize hb0:w.heap.size=b0 at hx ⊢;obtain⟨x0,x1,x2,x3,x4,x5,x6,x7,av,aI,aF,aG,aH,aC⟩:=hx.cells;have HX:=ae hx;clear hx;have hk:=HK.o;rw[hk]at x0;by_cases bP:n.num=0;rotate_left
 · have en:(n.num != 0)=true:=by rw[bne_iff_ne];exact bP
   have HR:=ae (show aO n=false by unfold aO;simp[hk,bP]);exact absurd HR.o (by rw[dx.o];decide)
 rw[bP]at x1;by_cases fP:n.text=⟨#[]⟩;rotate_left
 · have t0:¬ n.text.toList=[]:=by rw[← pU];exact pg _ _ fP
   have t1:n.text.toList.isEmpty=false:=by simpa using t0
   have HR:=ae (show aO n=false by unfold aO;simp[hk,bP,fP]);exact absurd HR.o (by rw[dx.o];decide)
 have t0:=pU;rw[fP]at x2;cases q1:bX n.ref
 · have M1:=ae (show dO (sb n.ref.sh) n.ref.c n.ref.r=false from q1)
   have HR:=ae (show aO n=false by unfold aO;simp[hk,bP,fP,q1]);exact absurd HR.o (by rw[dx.o];decide)
 have M1:=ae (show dO (sb n.ref.sh) n.ref.c n.ref.r=true from q1);cases q2:bX n.ai
 · have M2:=ae (show dO (sb n.ai.sh) n.ai.c n.ai.r=false from q2)
   have HR:=ae (show aO n=false by unfold aO;simp[hk,bP,fP,q1,q2]);exact absurd HR.o (by rw[dx.o];decide)
 have M2:=ae (show dO (sb n.ai.sh) n.ai.c n.ai.r=true from q2);have HR:=ae (show aO n=fI n.ref n.ai by unfold aO;simp[hk,bP,fP,q1,q2]);clear q1 q2;clear bP;clear fP;clear hk
 go_wp2_with (first
  | (go_at_call 42;((with_reducible refine(oI n.ref.sh n.ref.c n.ref.r n.ref.ac n.ref.ar _ hr).mono ?_);rintro e w2 ⟨rfl,h1⟩;rw[M1.o];have HB2:=ae (HB.o.trans (h1.mono HB.o.size));have dw:=ae (HX.o.below h1 HX.o.lt);clear x0 x1 x2 x3 x4 x5 x6 x7 av aI aF aG aH aC;obtain⟨x0,x1,x2,x3,x4,x5,x6,x7,av,aI,aF,aG,aH,aC⟩:=dw.o.cells;rw[HK.o]at x0;clear h1;clear M1))
  | (go_at_call 42;((with_reducible refine(oI n.ai.sh n.ai.c n.ai.r n.ai.ac n.ai.ar _ ht).mono ?_);rintro e w3 ⟨rfl,h1⟩;rw[M2.o];have HB3:=ae (HB2.o.trans (h1.mono HB2.o.size));have fq:=ae (dw.o.below h1 dw.o.lt);clear x0 x1 x2 x3 x4 x5 x6 x7 av aI aF aG aH aC;obtain⟨x0,x1,x2,x3,x4,x5,x6,x7,av,aI,aF,aG,aH,aC⟩:=fq.o.cells;rw[HK.o]at x0;clear h1))
  | (go_at_call 57;((with_reducible refine(Vn _ _ _ _ _ _ _ _ _ _ _).mono ?_);rintro e w4 ⟨rfl,h1⟩;have cu:=ae (HB3.o.trans (h1.mono HB3.o.size));clear h1)))
 go_ret;exact⟨by rw[HR.o] <;> rfl,cu.o⟩
theorem agI (n:Nd)(k1:¬ n.kind=1)(k2:¬ n.kind=2)(k3:¬ n.kind=3)(k5:¬ n.kind=5)(k6:¬ n.kind=6)(k7:¬ n.kind=7)(_hs:n.text.size≤1000000)(_hr:n.ref.sh.size≤1000000)(_ht:n.ai.sh.size≤1000000)(dh:aO n=true)(A:Option Addr)(m c:Nat)(w:World):Calls Tryz.prog 29 #[.agg #[.int .i64 n.kind,.int .i64 n.num,.string n.text,.string n.ref.sh,.int .i64 n.ref.c,.int .i64 n.ref.r,.bool n.ref.ac,.bool n.ref.ar,.string n.ai.sh,.int .i64 n.ai.c,.int .i64 n.ai.r,.bool n.ai.ac,.bool n.ai.ar,.slice A m c]] w fun e w'=>e = .returned (.bool (aO n))∧Below w.heap.size w w':=by
 have dx:=ae dh;clear dh;obtain⟨w1,hw1,hx,hb⟩:=Bv w n A m c;have HB:=ae hb;have dK:=ae (fun w=>rV n.ref w);have bV:=ae (fun w=>rV n.ai w);go_enter Tryz.func29,Tryz.ntmps29;go_upto_region 1 with (fail)
 clear hw1 hb;generalize hb0:w.heap.size=b0 at hx ⊢;obtain⟨x0,x1,x2,x3,x4,x5,x6,x7,av,aI,aF,aG,aH,aC⟩:=hx.cells;have HX:=ae hx;clear hx;obtain⟨kd,hkd⟩:∃kd,n.kind=kd:=⟨_,rfl⟩;rw[hkd]at x0;have HK:=ae hkd;have e1:(kd == 1)=false:=aA.2 (by omega);have d1:(kd != 1)=true:=by rw[bne,e1];rfl
 have e2:(kd == 2)=false:=aA.2 (by omega);have d2:(kd != 2)=true:=by rw[bne,e2];rfl
 have e3:(kd == 3)=false:=aA.2 (by omega);have d3:(kd != 3)=true:=by rw[bne,e3];rfl
 have e5:(kd == 5)=false:=aA.2 (by omega);have d5:(kd != 5)=true:=by rw[bne,e5];rfl
 have e6:(kd == 6)=false:=aA.2 (by omega);have d6:(kd != 6)=true:=by rw[bne,e6];rfl
 have e7:(kd == 7)=false:=aA.2 (by omega);have d7:(kd != 7)=true:=by rw[bne,e7];rfl
 by_cases bP:n.num=0;rotate_left
 · have en:(n.num != 0)=true:=by rw[bne_iff_ne];exact bP
   have HR:=ae (show aO n=false by unfold aO;simp[k1,k2,k3,k5,k6,k7,bP]);exact absurd HR.o (by rw[dx.o];decide)
 rw[bP]at x1;by_cases fP:n.text=⟨#[]⟩;rotate_left
 · have t0:¬ n.text.toList=[]:=by rw[← pU];exact pg _ _ fP
   have t1:n.text.toList.isEmpty=false:=by simpa using t0
   have HR:=ae (show aO n=false by unfold aO;simp[k1,k2,k3,k5,k6,k7,bP,fP]);exact absurd HR.o (by rw[dx.o];decide)
 have t0:=pU;rw[fP]at x2;cases hq1:fQ n.ref
 · have pF:=ae hq1
   have HR:=ae (show aO n=false by unfold aO;simp[k1,k2,k3,k5,k6,k7,bP,fP,hq1]);exact absurd HR.o (by rw[dx.o];decide)
 have pF:=ae hq1;cases hq2:fQ n.ai
 · have nH:=ae hq2
   have HR:=ae (show aO n=false by unfold aO;simp[k1,k2,k3,k5,k6,k7,bP,fP,hq1,hq2]);exact absurd HR.o (by rw[dx.o];decide)
 have nH:=ae hq2;have HR:=ae (show aO n=true by unfold aO;simp[k1,k2,k3,k5,k6,k7,bP,fP,hq1,hq2]);clear bP;clear fP;clear hq1;clear hq2
 go_wp2_with (first
  | (go_at_call 53;((with_reducible refine(dK.o _).mono ?_);rintro e w2 ⟨rfl,h1⟩;rw[pF.o];have HB2:=ae (HB.o.trans (h1.mono HB.o.size));have dw:=ae (HX.o.below h1 HX.o.lt);clear x0 x1 x2 x3 x4 x5 x6 x7 av aI aF aG aH aC;obtain⟨x0,x1,x2,x3,x4,x5,x6,x7,av,aI,aF,aG,aH,aC⟩:=dw.o.cells;rw[HK.o]at x0;clear h1;clear dK))
  | (go_at_call 53;((with_reducible refine(bV.o _).mono ?_);rintro e w3 ⟨rfl,h1⟩;rw[nH.o];have HB3:=ae (HB2.o.trans (h1.mono HB2.o.size));have fq:=ae (dw.o.below h1 dw.o.lt);clear x0 x1 x2 x3 x4 x5 x6 x7 av aI aF aG aH aC;obtain⟨x0,x1,x2,x3,x4,x5,x6,x7,av,aI,aF,aG,aH,aC⟩:=fq.o.cells;rw[HK.o]at x0;clear h1)))
 go_ret;exact⟨by rw[HR.o] <;> rfl,HB3.o⟩
theorem agG (n:Nd)(hk:n.kind=7)(hs:n.text.size≤1000000)(_hr:n.ref.sh.size≤1000000)(_ht:n.ai.sh.size≤1000000)(dh:aO n=true)(A:Option Addr)(m c:Nat)(w:World):Calls Tryz.prog 29 #[.agg #[.int .i64 n.kind,.int .i64 n.num,.string n.text,.string n.ref.sh,.int .i64 n.ref.c,.int .i64 n.ref.r,.bool n.ref.ac,.bool n.ref.ar,.string n.ai.sh,.int .i64 n.ai.c,.int .i64 n.ai.r,.bool n.ai.ac,.bool n.ai.ar,.slice A m c]] w fun e w'=>e = .returned (.bool (aO n))∧Below w.heap.size w w':=by
 have dx:=ae dh;clear dh;obtain⟨w1,hw1,hx,hb⟩:=Bv w n A m c;have HB:=ae hb;have dK:=ae (fun w=>rV n.ref w);have bV:=ae (fun w=>rV n.ai w);have HK:=ae hk;clear hk;go_enter Tryz.func29,Tryz.ntmps29;go_upto_region 1 with (fail)
 clear hw1 hb;generalize hb0:w.heap.size=b0 at hx ⊢;obtain⟨x0,x1,x2,x3,x4,x5,x6,x7,av,aI,aF,aG,aH,aC⟩:=hx.cells;have HX:=ae hx;clear hx;have hk:=HK.o;rw[hk]at x0;by_cases bP:n.num=0;rotate_left
 · have en:(n.num != 0)=true:=by rw[bne_iff_ne];exact bP
   have HR:=ae (show aO n=false by unfold aO;simp[hk,bP]);exact absurd HR.o (by rw[dx.o];decide)
 rw[bP]at x1;cases hq1:fQ n.ref
 · have pF:=ae hq1
   have HR:=ae (show aO n=false by unfold aO;simp[hk,bP,hq1]);exact absurd HR.o (by rw[dx.o];decide)
 have pF:=ae hq1;cases hq2:fQ n.ai
 · have nH:=ae hq2
   have HR:=ae (show aO n=false by unfold aO;simp[hk,bP,hq1,hq2]);exact absurd HR.o (by rw[dx.o];decide)
 have nH:=ae hq2;obtain⟨tx,htx⟩:∃tx,n.text=tx:=⟨_,rfl⟩;have HC:=ae (show aO n=kv tx by unfold aO;simp[hk,bP,hq1,hq2];rw[htx]);have pG:=ae htx;rw[htx]at hs;clear bP;clear hq1;clear hq2;clear hk;clear htx;have q1:=Ac tx ⟨#[84,82,85,69]⟩;have q2:=Ac tx ⟨#[70,65,76,83,69]⟩;rw[HV]at q1;rw[Hz]at q2;cases hq:iA tx with
 | some d =>
   have nX:=ae (fun (e:Ending)(he:oh (sb tx) e)=>IX hq he);have HQ:=ae hq;clear hq
   go_upto_region 12 with (first
    | (go_at_call 53;((with_reducible refine(dK.o _).mono ?_);rintro e w2 ⟨rfl,h1⟩;rw[pF.o];have HB2:=ae (HB.o.trans (h1.mono HB.o.size));have dw:=ae (HX.o.below h1 HX.o.lt);clear x0 x1 x2 x3 x4 x5 x6 x7 av aI aF aG aH aC;obtain⟨x0,x1,x2,x3,x4,x5,x6,x7,av,aI,aF,aG,aH,aC⟩:=dw.o.cells;rw[pG.o]at x2;rw[HK.o]at x0;clear h1;clear dK))
    | (go_at_call 53;((with_reducible refine(bV.o _).mono ?_);rintro e w3 ⟨rfl,h1⟩;rw[nH.o];have HB3:=ae (HB2.o.trans (h1.mono HB2.o.size));have fq:=ae (dw.o.below h1 dw.o.lt);clear x0 x1 x2 x3 x4 x5 x6 x7 av aI aF aG aH aC;obtain⟨x0,x1,x2,x3,x4,x5,x6,x7,av,aI,aF,aG,aH,aC⟩:=fq.o.cells;rw[pG.o]at x2;rw[HK.o]at x0;clear h1))
    | (go_at_call 55;((with_reducible refine(Db tx _ hs).mono ?_);rintro e w4 ⟨h1,h2⟩;obtain rfl:=nX.o e h1;clear h1;have cu:=ae (HB3.o.trans (h2.mono HB3.o.size));have oQ:=ae (fq.o.below h2 fq.o.lt);clear h2)))
   have AQ:Below w4.heap.size w4 (w4.alloc (.cells #[.string d.sh,.int .i64 d.c,.int .i64 d.r,.bool d.ac,.bool d.ar] 42)):=(ak _ _).alloc (aj _) _;have eX:=ae (cu.o.trans (AQ.mono cu.o.size));have oU:=ae (oQ.o.below AQ oQ.o.lt);clear AQ x0 x1 x2 x3 x4 x5 x6 x7 av aI aF aG aH aC;generalize w4.alloc (.cells #[.string d.sh,.int .i64 d.c,.int .i64 d.r,.bool d.ac,.bool d.ar] 42)=w5 at eX oU ⊢;obtain⟨x0,x1,x2,x3,x4,x5,x6,x7,av,aI,aF,aG,aH,aC⟩:=oU.o.cells;rw[pG.o]at x2;cases hc:jL (sb tx)
   · have Cb:=ae hc
     have HR:=ae (show aO n=false by rw[HC.o];unfold kv;rw[HQ.o,hc];rfl);exact absurd HR.o (by rw[dx.o];decide)
   have Cb:=ae hc;have HR:=ae (show aO n=false by rw[HC.o];unfold kv;rw[HQ.o,hc];rfl);exact absurd HR.o (by rw[dx.o];decide)
 | none =>
   have nX:=ae (fun (e:Ending)(he:oh (sb tx) e)=>IW hq he);have HQ:=ae hq;clear hq
   go_upto_region 12 with (first
    | (go_at_call 53;((with_reducible refine(dK.o _).mono ?_);rintro e w2 ⟨rfl,h1⟩;rw[pF.o];have HB2:=ae (HB.o.trans (h1.mono HB.o.size));have dw:=ae (HX.o.below h1 HX.o.lt);clear x0 x1 x2 x3 x4 x5 x6 x7 av aI aF aG aH aC;obtain⟨x0,x1,x2,x3,x4,x5,x6,x7,av,aI,aF,aG,aH,aC⟩:=dw.o.cells;rw[pG.o]at x2;rw[HK.o]at x0;clear h1;clear dK))
    | (go_at_call 53;((with_reducible refine(bV.o _).mono ?_);rintro e w3 ⟨rfl,h1⟩;rw[nH.o];have HB3:=ae (HB2.o.trans (h1.mono HB2.o.size));have fq:=ae (dw.o.below h1 dw.o.lt);clear x0 x1 x2 x3 x4 x5 x6 x7 av aI aF aG aH aC;obtain⟨x0,x1,x2,x3,x4,x5,x6,x7,av,aI,aF,aG,aH,aC⟩:=fq.o.cells;rw[pG.o]at x2;rw[HK.o]at x0;clear h1))
    | (go_at_call 55;((with_reducible refine(Db tx _ hs).mono ?_);rintro e w4 ⟨h1,h2⟩;obtain rfl:=nX.o e h1;clear h1;have cu:=ae (HB3.o.trans (h2.mono HB3.o.size));have oQ:=ae (fq.o.below h2 fq.o.lt);clear h2)))
   have AQ:Below w4.heap.size w4 (w4.alloc (.cells #[.string ⟨#[]⟩,.int .i64 0,.int .i64 0,.bool false,.bool false] 42)):=(ak _ _).alloc (aj _) _;have eX:=ae (cu.o.trans (AQ.mono cu.o.size));have oU:=ae (oQ.o.below AQ oQ.o.lt);clear AQ x0 x1 x2 x3 x4 x5 x6 x7 av aI aF aG aH aC;generalize w4.alloc (.cells #[.string ⟨#[]⟩,.int .i64 0,.int .i64 0,.bool false,.bool false] 42)=w5 at eX oU ⊢;obtain⟨x0,x1,x2,x3,x4,x5,x6,x7,av,aI,aF,aG,aH,aC⟩:=oU.o.cells;rw[pG.o]at x2;cases hc:jL (sb tx)
   · have Cb:=ae hc
     have HR:=ae (show aO n=false by rw[HC.o];unfold kv;rw[HQ.o,hc];rfl);exact absurd HR.o (by rw[dx.o];decide)
   have Cb:=ae hc;by_cases g1:tx=⟨#[84,82,85,69]⟩
   · rw[aR g1]at q1
     have M8:(tx.toList != [84,82,85,69])=false:=by rw[bne,q1];rfl
     have HR:=ae (show aO n=false by rw[HC.o];unfold kv;rw[HQ.o,hc,aV (show ¬ ¬ tx=_ from fun h=>h g1)];rfl);exact absurd HR.o (by rw[dx.o];decide)
   rw[aV g1]at q1;have M8:(tx.toList != [84,82,85,69])=true:=by rw[bne,q1];rfl
   by_cases g2:tx=⟨#[70,65,76,83,69]⟩
   · rw[aR g2]at q2
     have M9:(tx.toList != [70,65,76,83,69])=false:=by rw[bne,q2];rfl
     have HR:=ae (show aO n=false by rw[HC.o];unfold kv;rw[HQ.o,hc,aV (show ¬ ¬ tx=⟨#[70,65,76,83,69]⟩from fun h=>h g2)];simp);exact absurd HR.o (by rw[dx.o];decide)
   rw[aV g2]at q2;have M9:(tx.toList != [70,65,76,83,69])=true:=by rw[bne,q2];rfl
   have HR:=ae (show aO n=true by rw[HC.o];unfold kv;rw[HQ.o,hc,aR g1,aR g2];rfl);clear hc g1 g2;go_wp2_with ((go_at_call 56;((with_reducible refine(Ni tx _ hs).mono ?_);rintro e wq ⟨rfl,rfl⟩;rw[Cb.o])))
   go_ret;exact⟨by rw[HR.o] <;> rfl,eX.o⟩
theorem agH (n:Nd)(hs:n.text.size≤1000000)(hr:n.ref.sh.size≤1000000)(ht:n.ai.sh.size≤1000000)(dh:aO n=true)(A:Option Addr)(m c:Nat)(w:World):Calls Tryz.prog 29 #[.agg #[.int .i64 n.kind,.int .i64 n.num,.string n.text,.string n.ref.sh,.int .i64 n.ref.c,.int .i64 n.ref.r,.bool n.ref.ac,.bool n.ref.ar,.string n.ai.sh,.int .i64 n.ai.c,.int .i64 n.ai.r,.bool n.ai.ac,.bool n.ai.ar,.slice A m c]] w fun e w'=>e = .returned (.bool (aO n))∧Below w.heap.size w w':=by
 by_cases h1:n.kind=1
 · exact agB n h1 hs hr ht dh A m c w
 by_cases h2:n.kind=2
 · exact agC n h2 hs hr ht dh A m c w
 by_cases h3:n.kind=3
 · exact agD n h3 hs hr ht dh A m c w
 by_cases h5:n.kind=5
 · exact agE n h5 hs hr ht dh A m c w
 by_cases h6:n.kind=6
 · exact agF n h6 hs hr ht dh A m c w
 by_cases h7:n.kind=7
 · exact agG n h7 hs hr ht dh A m c w
 exact agI n h1 h2 h3 h5 h6 h7 hs hr ht dh A m c w
theorem Vp (w:World)(v:Value)(vs:List (Nd × Value))(h:dN w w.heap.size v vs)(hz:SZ vs)(dh:dA (vs.map (·.1))=true):Calls Tryz.prog 17 #[v] w fun e w'=>e = .returned (.bool true)∧Below w.heap.size w w':=by
 obtain⟨⟨A,cap,rfl,hat⟩,rD⟩:=h;obtain⟨hlen,hsz⟩:=hz;obtain⟨nl,hnl⟩:∃nl,vs.length=nl:=⟨_,rfl⟩;rw[hnl]at hlen ⊢;have dx:=ae dh;clear dh;have HAT:=ae hat;have Ak:=ae rD;have mU:=ae hsz;have jI:=ae hnl;obtain⟨eb,jW,df⟩:=Elem.kid;have jw:=ae df;clear hat rD hsz hnl df;go_enter Tryz.func17,Tryz.ntmps17;go_upto_region 3 with (fail)
 go_loopw [3,4] (fun rv iv wr=>∃(i:Nat)(st:List Int)(rk:Value),i≤nl∧st.length≤i∧rk=rv∧iv = .int .i64 (i:Int)∧Hid (dA (vs.map (·.1))=nQ st i ((vs.map (·.1)).drop i))∧Hid (Own (aJ .i64) 3 wr w.heap.size rk st)∧Hid (Below w.heap.size w wr))
  (fun _ iv _=>nl - (intOf iv).toNat)
 case atStart=>exact⟨0,[],.slice none 0 0,ek _,aj _,rfl,rfl,ae rfl,ae (Own.nil _ _ _ _),ae (ak _ _)⟩
 case round =>
  obtain⟨i,st,rk,hi,hsi,rfl,rfl,HT,HO,HB⟩:=hrel;by_cases hlt:i<nl
  · have hii : (i:Int)<(nl:Int):=by omega
    obtain⟨⟨n,k⟩,hnk⟩:∃q,vs[i]? = some q:=⟨_,cZ (by rw[jI.o];exact hlt)⟩;have bW:=fe hnk;obtain⟨hz1,hz2,hz3⟩:=mU.o _ bW;have HZ1:=ae hz1;have HZ2:=ae hz2;have HZ3:=ae hz3;clear hz1 hz2 hz3;have rF:ic w w.heap.size k n.kids:=Ak.o _ bW;obtain⟨bD,ck,hk,hkc,dL,jk⟩:=id rF;obtain⟨m,hm⟩:∃m,n.kids.length=m:=⟨_,rfl⟩;rw[hm]at hk hkc;subst hk;have hmm:m≤maxLen:=bN hkc dL;have hmx:m≤9223372036854775807:=by unfold maxLen at hmm;omega
    have HM:=ae hm;have sF:=ae jk
    have HD:=ae (show(vs.map (·.1)).drop i=n :: (vs.map (·.1)).drop (i+1)by
     have hl:i<(vs.map (·.1)).length:=by rw[eF,jI.o];exact hlt
     rw[List.drop_eq_getElem_cons hl];congr 1;have h1:(vs.map (·.1))[i]? = some n:=by rw[gY,hnk];rfl
     rw[cZ hl]at h1;exact dM h1)
    have JD:=ae (show dD n=false→dA (vs.map (·.1))=false from fun e=>by rw[HT.o,HD.o,nR,e,Bool.false_and]);rcases HAT.o with e|⟨pb,po,rfl,hpb,vT⟩
    · exfalso;rw[e]at hnk;simp at hnk
    have hcell:=vT i n _ hnk;obtain⟨k0,k1,k2,k3,k4,k5,k6,k7,k8,k9,k10,k11,k12,k13⟩:=qB HB.o hpb hcell;clear hcell vT hnk bW rF jk hm hkc dL hmm;have hL:st.length≤1000:=by omega
    have hB3:Below wr.heap.size wr (wr.alloc (.cells #[.int .i64 n.kind,.int .i64 n.num,.string n.text,.string n.ref.sh,.int .i64 n.ref.c,.int .i64 n.ref.r,.bool n.ref.ac,.bool n.ref.ar,.string n.ai.sh,.int .i64 n.ai.c,.int .i64 n.ai.r,.bool n.ai.ac,.bool n.ai.ar,.slice bD m ck] 44)):=(ak _ _).alloc (aj _) _;have aM:az (wr.alloc (.cells #[.int .i64 n.kind,.int .i64 n.num,.string n.text,.string n.ref.sh,.int .i64 n.ref.c,.int .i64 n.ref.r,.bool n.ref.ac,.bool n.ref.ar,.string n.ai.sh,.int .i64 n.ai.c,.int .i64 n.ai.r,.bool n.ai.ac,.bool n.ai.ar,.slice bD m ck] 44)) wr.heap.size n (.slice bD m ck):=az.new wr n _;have HB3:=ae (HB.o.trans (hB3.mono HB.o.size));have gm:=ae (HO.o.alloc (.cells #[.int .i64 n.kind,.int .i64 n.num,.string n.text,.string n.ref.sh,.int .i64 n.ref.c,.int .i64 n.ref.r,.bool n.ref.ac,.bool n.ref.ar,.string n.ai.sh,.int .i64 n.ai.c,.int .i64 n.ai.r,.bool n.ai.ac,.bool n.ai.ar,.slice bD m ck] 44));clear hB3;go_upto_region 6 with (fail)
    generalize hb3:wr.heap.size=b3 at aM ⊢;generalize wr.alloc (.cells #[.int .i64 n.kind,.int .i64 n.num,.string n.text,.string n.ref.sh,.int .i64 n.ref.c,.int .i64 n.ref.r,.bool n.ref.ac,.bool n.ref.ar,.string n.ai.sh,.int .i64 n.ai.c,.int .i64 n.ai.r,.bool n.ai.ac,.bool n.ai.ar,.slice bD m ck] 44)=w3 at aM HB3 gm ⊢;clear hb3 k0 k1 k2 k3 k4 k5 k6 k7 k8 k9 k10 k11 k12 k13 HO;obtain⟨x0,x1,x2,x3,x4,x5,x6,x7,av,aI,aF,aG,aH,aC⟩:=aM.cells;have aM:=ae aM;obtain⟨a,ha⟩:∃a,jT n.kind=a:=⟨_,rfl⟩;have OB:=ae (show ∀w,Calls Tryz.prog 28 #[.int .i64 n.kind] w fun e w'=>e = .returned (.int .i64 a)∧w=w' from fun w=>by rw[← ha];exact agx _ w);have sG:=ae (show dD n=(aO n&&(decide (a = -1)||decide (a=(m:Int))))by rw[afe,ha,HM.o])
    have har:a = -1∨a = -2∨a=0∨a=1∨a=2:=by
     rw[← ha];unfold jT;split
     · omega
     split
     · omega
     split
     · omega
     split <;> omega
    clear ha;have key:(a = -1∨a=(m:Int))∨(¬ a = -1∧¬ a=(m:Int)):=by omega
    rcases key with key|⟨ka,kb⟩
    rotate_left
    · have ea:(a == -1)=false:=aA.2 ka
      have HT2:=ae (show dA (vs.map (·.1))=false from JD.o (by rw[sG.o,aV ka,aV kb,Bool.or_self,Bool.and_false]));exact absurd HT2.o (by rw[dx.o];decide)
    have JU:=ae (show dD n=aO n by
     rw[sG.o];rcases key with e|e
     · rw[aR e,Bool.true_or,Bool.and_true]
     · rw[aR e,Bool.or_true,Bool.and_true])
    have hm0:¬ (m:Int)<0:=by omega
    have hmb:((m:Int) != (m:Int))=false:=by simp
    have PY:(∃ea:(a == -1)=true,True)∨(∃ea:(a == -1)=false,a=(m:Int)):=by
     by_cases e:a = -1
     · exact .inl ⟨bB.2 e,trivial⟩
     · exact .inr ⟨aA.2 e,by omega⟩
    clear key sG har;by_cases qG:m≤st.length;rotate_left
    · have HT2:=ae (show dA (vs.map (·.1))=false by rw[HT.o,HD.o,nR,HM.o,aV qG,Bool.false_and,Bool.and_false])
      exact absurd HT2.o (by rw[dx.o];decide)
    have hmg:¬ (st.length:Int)<(m:Int):=by omega
    have ab9:¬ st.length<m:=by omega
    cases hlf:aO n
    · have HT2:=ae (show dA (vs.map (·.1))=false from JD.o (by rw[JU.o,hlf]))
      exact absurd HT2.o (by rw[dx.o];decide)
    have DU:=ae (show ∀w,Calls Tryz.prog 29 #[.agg #[.int .i64 n.kind,.int .i64 n.num,.string n.text,.string n.ref.sh,.int .i64 n.ref.c,.int .i64 n.ref.r,.bool n.ref.ac,.bool n.ref.ar,.string n.ai.sh,.int .i64 n.ai.c,.int .i64 n.ai.r,.bool n.ai.ac,.bool n.ai.ar,.slice bD m ck]] w fun e w'=>e = .returned (.bool (aO n))∧Below w.heap.size w w' from fun w=>agH n HZ1.o HZ2.o HZ3.o hlf bD m ck w);rw[hlf]at DU;have mE:=ae (show dD n=true by rw[JU.o,hlf]);clear hlf JD JU
    have lT:=ae (show n.kids=[]∨∃kb gF,bD=some ⟨kb,gF,none⟩∧∀(j:Nat)(x:Int),n.kids[j]? = some x→w3.cell? ⟨kb,gF+j,none⟩=some (.int .i64 x)from by
     rcases sF.o with e|⟨kb,gF,e1,e2,e3⟩
     · exact .inl e
     · exact .inr ⟨kb,gF,e1,fun j x hj=>(HB3.o.cell (p:=⟨kb,gF+j,none⟩) e2).trans (e3 j x hj)⟩)
    have abW:=sF.o
    have XU:=ae (show ∀kb gF,bD=some ⟨kb,gF,none⟩→n.kids≠[]→kb<w3.heap.size from by
     intro kb gF e hne;rcases sF.o with e0|⟨kb',ko',e1,e2,e3⟩
     · exact absurd e0 hne
     · rw[e1]at e;injection e with e;injection e with e _ _
       have:=HB3.o.size;omega)
    clear abW;obtain⟨f,hf⟩:∃f,st.length - m=f:=⟨_,rfl⟩
    have JH:=ae (show dA (vs.map (·.1))=(decide (st.drop f=n.kids)&&nQ (st.take f++[(i:Int)]) (i+1) ((vs.map (·.1)).drop (i+1)))by
     rw[HT.o,HD.o,nR,mE.o,HM.o,aR qG,hf,gV,gV])
    have hfm:f+m=st.length:=by omega
    rcases gm.o.shape with ⟨rfl,hst⟩|⟨rg,xu,rfl,hrg,hrl,hrc,hrm⟩
    · have LF:m=0:=by rw[hst]at qG;simp at qG;omega
      have ab9:¬ 0<m:=by omega
      have hmg:¬ 0<(m:Int):=by omega
      have HST:=ae hst;have XV:=ae (show n.kids=[]from kM (by rw[HM.o,LF]));have XH:=ae (show f=0 by rw[hst]at hfm;simp at hfm;omega);have XY:=ae LF;clear qG hst hf hfm LF;rcases PY with ⟨ea, -⟩|⟨ea,rfl⟩
      all_goals
       go_upto_region 12 with (first
        | (go_at_call 28;((with_reducible refine(OB.o _).mono ?_);rintro e w4 ⟨rfl,rfl⟩))
        | (go_at_call 29;((with_reducible refine(DU.o _).mono ?_);rintro e w5 ⟨rfl,h1⟩;have eX:=ae (HB3.o.trans (h1.mono HB3.o.size));clear h1)))
       go_loopw [7] (fun yA wq=>yA = .int .i64 0∧w5=wq) (fun _ _=>0)
       case atStart=>exact⟨rfl,rfl⟩
       case round =>
        obtain⟨rfl,rfl⟩:=hrel;have hmz:m=0:=XY.o;subst hmz;go_wp2_with (at_builtin;refine Jj jw.o (aJ .i64) rfl (.tmp 75) (.tmp 77) rfl none 0 0 ([]:List Int) rfl (fun _=>⟨rfl,rfl⟩) rfl (fun b e=>by cases e) ⟨w5.heap.size,0,none⟩ 1 1 [(i:Int)] rfl rfl ?_ (by omega) ?_ ?_ ?_;exact gD _ _ _ rfl;exact bN (Nat.mul_le_mul_left _ jW) (by omega);(unfold maxLen;omega);intro v' w7 h1 h2;have sI:=ae h1;have Ae:=ae h2;clear h1 h2)
        go_roundw
        case rel =>
         refine⟨i+1,[(i:Int)],v',by omega,by simp,rfl,by go_num,ae ?_,ae (sI.o.mono ?_),ae ?_⟩
         · rw[JH.o,XH.o,HST.o,XV.o];rfl
         · simp;have:=eX.o.size;omega
         · exact(eX.o.trans ((ak _ _).alloc eX.o.size _)).trans (Ae.o.mono (by simp;have:=eX.o.size;omega))
        case measure=>simp[intOf];omega
    · have hw1 : -9223372036854775808≤(st.length:Int) - (m:Int):=by omega
      have hw2:(st.length:Int) - (m:Int)≤9223372036854775807:=by omega
      have hfi:(st.length:Int) - (m:Int)=(f:Int):=by omega
      have OM:=ae hfi;have HRL:=ae hrl;clear qG hf hfi hrl;rcases PY with ⟨ea, -⟩|⟨ea,rfl⟩
      all_goals
       go_upto_region 12 with (first
        | (go_at_call 28;((with_reducible refine(OB.o _).mono ?_);rintro e w4 ⟨rfl,rfl⟩))
        | (go_at_call 29;((with_reducible refine(DU.o _).mono ?_);rintro e w5 ⟨rfl,h1⟩;have eX:=ae (HB3.o.trans (h1.mono HB3.o.size));have mQ:=ae (gm.o.below h1 (aj _));have gN:=ae (aM.o.below h1 aM.o.lt);have XB:=ae h1;clear h1)))
       clear x0 x1 x2 x3 x4 x5 x6 x7 av aI aF aG aH aC;obtain⟨x0,x1,x2,x3,x4,x5,x6,x7,av,aI,aF,aG,aH,aC⟩:=gN.o.cells;clear x0 x1 x2 x3 x4 x5 x6 x7 av aI aF aG aH
       go_loopw [7] (fun yA wq=>∃j q:Nat,j≤m∧yA = .int .i64 (j:Int)∧Hid ((st.drop f).take j=n.kids.take j)∧w5.drewN q=wq) (fun yA _=>m - (intOf yA).toNat)
       case atStart=>exact⟨0,0,ek _,rfl,ae rfl,rfl⟩
       case round =>
        obtain⟨j,q,hj,rfl,aT,rfl⟩:=hrel;by_cases hjm:j<m
        · have hji:(j:Int)<(m:Int):=by omega
          obtain⟨x,hx⟩:∃x,st[f+j]? = some x:=⟨_,cZ (by omega)⟩;obtain⟨y,hy⟩:∃y,n.kids[j]? = some y:=⟨_,cZ (by rw[HM.o];exact hjm)⟩;rcases lT.o with e|⟨kb,gF,rfl,hkc⟩
          · exfalso;rw[e]at hy;simp at hy
          have k1:=UG mQ.o (f+j) x hx;have k2:w5.cell? ⟨kb,gF+j,none⟩=some (.int .i64 y):=(XB.o.cell (p:=⟨kb,gF+j,none⟩) (XU.o kb gF rfl (by intro e;rw[e]at hy;simp at hy))).trans (hkc j y hy);have HX:=ae hx;have iH:=ae hy;have hz1 : -9223372036854775808≤(f:Int)+(j:Int):=by omega
          have hz2:(f:Int)+(j:Int)≤9223372036854775807:=by omega
          have hz3:(0:Int)≤(f:Int)+(j:Int):=by omega
          have EK:(f:Int)+(j:Int)<(st.length:Int):=by omega
          clear hkc hx hy;have hfi:=OM.o;by_cases hxy:x=y
          · have ex:(x != y)=false:=by rw[hxy];simp
            have HT2:=ae (aau aT.o HX.o (by rw[hxy];exact iH.o));clear hxy;have W1:IntKind.i64.wrap ((st.length:Int) - (m:Int))=(f:Int):=by rw[gJ];omega
            have W2:IntKind.i64.wrap ((f:Int)+(j:Int))=(f:Int)+(j:Int):=by rw[gJ];omega
            have W3:((f:Int)+(j:Int)).toNat=f+j:=by omega
            go_wp2_with fail
            go_quiet (fail)
            clear W1 W2 W3;go_wp2_with fail
            go_roundw
            case rel=>exact⟨j+1,_,by omega,by go_num,HT2,by first|rfl|trivial⟩
            case measure=>simp[intOf];omega
          · have HR:=ae (show dA (vs.map (·.1))=false by rw[JH.o,aV (aat HX.o iH.o hxy),Bool.false_and])
            exact absurd HR.o (by rw[dx.o];decide)
        · have hji:¬ (j:Int)<(m:Int):=by omega
          have akF:j=m:=by omega
          have yS:=ae (show st.drop f=n.kids by
           have h1:=aT.o;rw[mP (by rw[lq];omega),mP (by rw[HM.o];omega)]at h1;exact h1)
          have hfi:=OM.o;have Ey:f≤st.length:=by omega
          have hn0:(0:Int)≤(f:Int):=by omega
          have hn1:(f:Int)≤(xu:Int):=by omega
          have hn2:f≤xu:=by omega
          go_wp2_with (at_builtin;refine Jj jw.o (aJ .i64) rfl (.tmp 75) (.tmp 77) rfl (some ⟨rg,0,none⟩) f f (st.take f) ?_ (fun h=>by cases h) ?_ ?_ ⟨w5.heap.size,0,none⟩ 1 1 [(i:Int)] rfl rfl ?_ (by omega) ?_ ?_ ?_;rfl;(rw[gW];omega);(intro b e;injection e with e;subst e;intro j' u hu;rw[Addr.add_mid,Nat.zero_add];exact Own.cells (((UJ mQ.o f Ey).drewN q).alloc _) j' u hu);exact gD _ _ _ rfl;exact bN (Nat.mul_le_mul_left _ jW) (by omega);(unfold maxLen;omega);intro v' w7 h1 h2;have sI:=ae h1;have Ae:=ae h2;clear h1 h2)
          go_roundw
          case rel =>
           refine⟨i+1,st.take f++[(i:Int)],v',by omega,by simp;omega,rfl,by go_num,ae ?_,ae (sI.o.mono ?_),ae ?_⟩
           · rw[JH.o,aR yS.o,gV]
           · simp;have:=eX.o.size;omega
           · exact(Below.alloc (oq eX.o q) (oq eX.o q).size _).trans (Ae.o.mono (by simp;have:=eX.o.size;omega))
          case measure=>simp[intOf];omega
  · have hii:¬ (i:Int)<(nl:Int):=by omega
    have hin:i=nl:=by omega
    have HT2:=ae (show dA (vs.map (·.1))=decide (st.length=1)by
     rw[HT.o,List.drop_of_length_le (by rw[eF,jI.o];omega)];rfl)
    rcases HO.o.shape with ⟨rfl,hst⟩|⟨rg,xu,rfl, -⟩
    · rw[hst]at HT2
      exact absurd HT2.o (by rw[dx.o];decide)
    · by_cases h1:st.length=1
      · have h1i:((st.length:Int) == 1)=true:=by rw[bB];omega
        clear h1 HT2;go_wp2_with fail
        go_ret;exact⟨rfl,HB.o⟩
      · rw[aV h1,dx.o]at HT2
        exact absurd HT2.o (by decide)
theorem Nk (w:World)(v:Value)(l:List (Nd × Value))(h:dN w w.heap.size v l)(hz:SZ l)(hn:∀q∈l,q.1.num≤9223372036854775807)(hlen:(di (l.map (·.1))).length≤1000000000)(dh:dA (l.map (·.1))=true) :
 Calls Tryz.prog 7 #[v] w fun e w'=>e = .returned (.string (strOfNums (di (l.map (·.1)))))∧Below w.heap.size w w':=by
 have HT:=ae (Vp w v l h hz dh);obtain⟨ns,hns⟩:∃ns,l.map (·.1)=ns:=⟨_,rfl⟩;rw[hns]at hlen dh ⊢;have ht:dA ns=true:=dh;clear dh
 · skip
   have C:oV w v l ns:=⟨h,hns,ht,hz.1,hz.2,hn⟩;have mJ:=ajw ht;have hll:l.length=ns.length:=by rw[← hns,eF]
   obtain⟨L,hL⟩:∃L,l.length=L:=⟨_,rfl⟩
   have hp:di ns=bJ ns ((L - 1:Nat):Int):=by
    unfold di bJ;rw[ag ht];congr 1;omega
   rw[hp]at hlen ⊢;have HS:=ae (V6 C L (L - 1) (by omega) (by omega) hlen);obtain⟨A,cap,rfl⟩:=h.rO;have hL1:(L:Int) - 1=((L - 1:Nat):Int):=by omega
   have hlm:L≤1000:=by have:=hz.1;omega
   have hwr:IntKind.i64.wrap ((L:Int) - 1)=(L:Int) - 1:=by rw[gJ];omega
   rw[hL]at HT HS ⊢;rw[← hL1]at HS;clear C h hz hn hlen hns ht hll hp mJ hL hL1;go_enter Tryz.func7,Tryz.ntmps7
   go_wp2_with (first
    | (go_at_call 17;((with_reducible refine HT.o.mono ?_);rintro e w2 ⟨rfl,h1⟩;have HB2:=ae h1;clear h1))
    | (go_at_call 18;((with_reducible refine(HS.o _ HB2.o).mono ?_);rintro e w3 ⟨rfl,h1⟩;have HB3:=ae (HB2.o.trans (h1.mono HB2.o.size));clear h1)))
   go_ret;exact⟨by rfl,HB3.o⟩
theorem Vs (s:ByteArray)(w:World)(ns:List Nd)(hp:gZ s (.ok ns)) :
 Calls Tryz.prog 52 #[.string s] w fun e w'=>Below w.heap.size w w'∧∃g cap vs,e = .returned (.agg #[.slice (some ⟨g,0,none⟩) ns.length cap,.int .i64 0])∧vs.map Prod.fst=ns∧dN w' w'.heap.size (.slice (some ⟨g,0,none⟩) ns.length cap) vs:=by
 refine(VJ s w _ hp).mono ?_;rintro e w' ⟨hb,⟨c,h,_⟩|⟨ns',g,cap,vs,h,h1,he,h3,h4⟩⟩
 · cases h
 · injection h with h;subst h
   have hl:vs.length=ns.length:=by rw[← h1,eF]
   rw[hl]at he h3 h4;exact⟨hb,g,cap,_,he,(NR vs).trans h1,h3.sn hl⟩
theorem ag1 (t:ByteArray)(ns:List Nd)(hp:gZ t (.ok ns))(ht:strOfNums (di ns)=t)(w1 wr:World)(v:Value)(l:List (Nd × Value))(hm:l.map Prod.fst=ns)(hs:dN w1 w1.heap.size v l)(hr:Below w1.heap.size w1 wr) :
 Calls Tryz.prog 7 #[v] wr fun e w'=>e = .returned (.string t)∧Below wr.heap.size wr w':=by
 obtain⟨⟨abY,_,Md⟩,bP,hpl,acv,_⟩:=Ef t ns hp;have hsz:=PL t ns hp;have hl:l.length=ns.length:=by rw[← hm,eF]
 have:=Nk wr v l (hs.lift hr hr.size) ⟨by omega,fun p hp=>hsz p.1 (by rw[← hm];exact r9 hp)⟩ (fun p hp=>bP p.1 (by rw[← hm];exact r9 hp)) (by rw[show l.map (·.1)=ns from hm];omega) (by rw[show l.map (·.1)=ns from hm];exact Md);rw[show l.map (·.1)=ns from hm,ht]at this;exact this
theorem ib.push (h:ib 0 l (st++ks))(hn:dD n=true)(hk:n.kids=ks):ib 0 (l++[n]) (st++[(l.length:Int)]):=by
 intro s rest;subst hk;rw[bQ,h];show nQ (s++(st++n.kids)) (0+l.length) (n :: rest)=_;rw[nR, ← bQ];have e1:((s++st)++n.kids).length - n.kids.length=(s++st).length:=by rw[ax];omega
 rw[hn,e1,List.drop_left,List.take_left,aR (show n.kids.length≤((s++st)++n.kids).length by rw[ax];omega),aR rfl,gV,gV,gV,ax,Nat.zero_add,Nat.zero_add,bQ];rfl
def zT(m:Nat):ByteArray:=if m / 8 % 3=2 then ⟨#[84]⟩else ⟨#[]⟩
def Df(m:Nat):bL:=⟨zT m,((m / 16 % 5:Nat):Int),((m / 8 % 7:Nat):Int),decide (128<m),false⟩
def Ff(m:Nat):bL:=⟨⟨#[]⟩,((m / 16 % 3:Nat):Int),((m / 8 % 4:Nat):Int),false,false⟩
def Fg(m:Nat):bL:=⟨⟨#[]⟩,((1+m / 16:Nat):Int),((2+m / 8:Nat):Int),false,false⟩
def xD(m:Nat):ByteArray:=strOfNums (97 :: 34 :: bn m)
def gH (m k:Nat):Nat :=
 if m % 3=0∧2≤k then 2 else if m % 16=1∧1≤k then 1 else if m % 16=2 then min k (m / 16 % 4)else 0
def kz (m k:Nat)(ks:List Int):Nd :=
 if m % 3=0∧2≤k then { Nd.zero with kind:=9+((m / 3 % 11:Nat):Int),kids:=ks }
 else if m % 16=1∧1≤k then { Nd.zero with kind:=8,kids:=ks }
 else if m % 16=2 then { Nd.zero with kind:=7,text:=⟨#[83,85,77]⟩,kids:=ks }
 else if m % 8=4 then { Nd.zero with kind:=5,ref:=Df m }
 else if m % 8=5 then { Nd.zero with kind:=6,ref:=Ff m,ai:=Fg m }
 else if m % 32=7 then { Nd.zero with kind:=2,text:=xD m }
 else if m % 32=10 then { Nd.zero with kind:=3,num:=((m / 32 % 2:Nat):Int) }
 else if m % 32=11 then { Nd.zero with kind:=4 }
 else { Nd.zero with kind:=1,num:=(m:Int) }
theorem ahb:∀m<256,bX (Df m)=true:=by decide +kernel
theorem ahc:∀m<256,bX (Ff m)=true∧bX (Fg m)=true∧fI (Ff m) (Fg m)=true:=by decide +kernel
theorem aiW:kv ⟨#[83,85,77]⟩=true:=by decide +kernel
theorem Xf (m:Nat):Bytes (97 :: 34 :: bn m):=by
 intro x hx;rcases ik.1 hx with rfl|hx
 · omega
 · rcases ik.1 hx with rfl|hx
   · omega
   · have:=jE (rH m x hx);omega
theorem ajE (m:Nat):mM (sb (xD m))=true:=by
 unfold xD;rw[jN _ (Xf m)];refine aR ?_;intro x hx;rcases ik.1 hx with rfl|hx
 · omega
 · rcases ik.1 hx with rfl|hx
   · omega
   · have:=jE (rH m x hx);omega
theorem aff (k:Nat):dD { Nd.zero with kind:=3,num:=((k % 2:Nat):Int) }=true:=by
 rcases Nat.mod_two_eq_zero_or_one k with h|h <;> rw[h] <;> decide
theorem afg:dD { Nd.zero with kind:=4 }=true:=by decide
theorem Us (m k:Nat)(ks:List Int)(hm:m<256)(hk:ks.length=gH m k):dD (kz m k ks)=true∧(kz m k ks).kids=ks:=by
 unfold kz;unfold gH at hk;by_cases c1:m % 3=0∧2≤k
 · rw[ag c1]at hk ⊢
   match ks,hk with
   | [a,b],_=>exact⟨MR (by omega),rfl⟩
 rw[af c1]at hk ⊢;by_cases c2:m % 16=1∧1≤k
 · rw[ag c2]at hk ⊢
   match ks,hk with
   | [a],_=>exact⟨Uv a,rfl⟩
 rw[af c2]at hk ⊢;by_cases c3:m % 16=2
 · rw[ag c3];exact⟨Uu aiW,rfl⟩
 rw[af c3]at hk ⊢;obtain rfl:=kM hk;by_cases c4:m % 8=4
 · rw[ag c4];exact⟨MU (ahb m hm),rfl⟩
 rw[af c4];by_cases c5:m % 8=5
 · rw[ag c5];obtain⟨h1,h2,h3⟩:=ahc m hm;exact⟨MS h1 h2 h3,rfl⟩
 rw[af c5];by_cases c6:m % 32=7
 · rw[ag c6];exact⟨Ux (ajE m),rfl⟩
 rw[af c6];by_cases c7:m % 32=10
 · rw[ag c7];exact⟨aff _,rfl⟩
 rw[af c7];by_cases c8:m % 32=11
 · rw[ag c8];exact⟨afg,rfl⟩
 rw[af c8];exact⟨Uw (by omega),rfl⟩
def EU(m:Nat):Nd:={ Nd.zero with kind:=6,ref:=Ff m,ai:=Fg m }
def MK(u v x y:Int):Nd:={ Nd.zero with kind:=6,ref:=⟨⟨#[]⟩,u,v,false,false⟩,ai:=⟨⟨#[]⟩,x,y,false,false⟩ }
def yB (m:Nat):Nd :=
 if m % 8=4 then { Nd.zero with kind:=5,ref:=Df m }
 else if m % 8=5 then EU m
 else if m % 32=7 then { Nd.zero with kind:=2,text:=xD m }
 else if m % 32=10 then { Nd.zero with kind:=3,num:=((m / 32 % 2:Nat):Int) }
 else if m % 32=11 then { Nd.zero with kind:=4 }
 else { Nd.zero with kind:=1,num:=(m:Int) }
theorem afi {m k:Nat}(h3:¬ (m % 3=0∧2≤k))(h1:¬ (m % 16=1∧1≤k))(h2:¬ m % 16=2)(ks:List Int):kz m k ks=yB m:=by
 unfold kz yB EU;rw[af h3,af h1,af h2]
def Gp(n:Nd):Prop:=n.num≤255∧n.text.size≤300∧n.ref.sh.size≤1∧n.ai.sh.size≤1
theorem aif(m:Nat):(zT m).size≤1:=by unfold zT;split <;> decide
theorem Xg (m:Nat)(h:m<256):(xD m).size≤300:=by
 unfold xD;rw[strOfNums_size,bf,bf];have:=Mq m;omega
theorem afk (m k:Nat)(ks:List Int)(hm:m<256):Gp (kz m k ks):=by
 have e0:(⟨#[]⟩:ByteArray).size=0:=rfl;have e3:(⟨#[83,85,77]⟩:ByteArray).size=3:=rfl;have h1:=aif m;have h2:=Xg m hm;unfold kz
 repeat' split
 all_goals (refine⟨?_, ?_, ?_, ?_⟩ <;> (first|(show(0:Int)≤255;decide)|(show((m / 32 % 2:Nat):Int)≤255;omega)|(show(m:Int)≤255;omega)|exact h2|exact h1|(show(⟨#[]⟩:ByteArray).size≤_;rw[e0];omega)|(show(⟨#[83,85,77]⟩:ByteArray).size≤_;rw[e3];omega)))
def Dz(n:Nd):Prop:=∀x∈sb n.text,x≠40∧x≠41
theorem QV:Dz Nd.zero:=by
 intro x hx;rw[show sb Nd.zero.text=[]from by decide]at hx;cases hx
theorem afh (m k:Nat)(ks:List Int):Dz (kz m k ks):=by
 have h0:∀x∈sb (⟨#[]⟩:ByteArray),x≠40∧x≠41:=QV;have h1:∀x∈sb (⟨#[83,85,77]⟩:ByteArray),x≠40∧x≠41:=by decide
 have h2:∀x∈sb (xD m),x≠40∧x≠41:=by
  unfold xD;rw[jN _ (Xf m)];intro x hx;rcases ik.1 hx with rfl|hx
  · omega
  · rcases ik.1 hx with rfl|hx
    · omega
    · have:=jE (rH m x hx);omega
 unfold kz
 repeat' split
 all_goals (first|exact h0|exact h1|exact h2)
def Gm(n:Nd):Prop:=(n.ref.sh=⟨#[]⟩∨n.ref.sh=⟨#[84]⟩)∧n.ref.r≤40∧n.ai.r≤40
theorem afj (m k:Nat)(ks:List Int)(hm:m<256):Gm (kz m k ks):=by
 have h1:zT m=⟨#[]⟩∨zT m=⟨#[84]⟩:=by unfold zT;split <;> simp
 have h0:(0:Int)≤40:=by decide
 have h2:((m / 8 % 7:Nat):Int)≤40:=by omega
 have h3:((m / 8 % 4:Nat):Int)≤40:=by omega
 have h4:((2+m / 8:Nat):Int)≤40:=by omega
 unfold kz
 repeat' split
 all_goals (first|exact⟨.inl rfl,h0,h0⟩|exact⟨h1,h2,h0⟩|exact⟨.inl rfl,h3,h4⟩)
structure lF (l:List Nd)(st:List Int):Prop where
 UR:ib 0 l st
 tiny:∀n∈l,Gp n
 few:st.length≤l.length
 some:l≠[]→st≠[]
 free:∀n∈l,Dz n
 kZ:∀n∈l,Gm n
theorem lF.nil:lF [] []:=⟨ib.nil 0,by simp,aj _,by simp,by simp,by simp⟩
theorem lF.push (h:lF l (st++ks))(hn:dD n=true)(hk:n.kids=ks)(ht:Gp n)(hf:Dz n)(hsh:Gm n):lF (l++[n]) (st++[(l.length:Int)]):=by
 refine⟨h.UR.push hn hk, ?_, ?_,by simp, ?_, ?_⟩
 · intro x hx
   rcases dQ.1 hx with hx|hx
   · exact h.tiny x hx
   · rw[gM.1 hx];exact ht
 · have:=h.few
   rw[ax]at this;rw[ax,ax,fo,fo];omega
 · intro x hx
   rcases dQ.1 hx with hx|hx
   · exact h.free x hx
   · rw[gM.1 hx];exact hf
 · intro x hx
   rcases dQ.1 hx with hx|hx
   · exact h.kZ x hx
   · rw[gM.1 hx];exact hsh
theorem WK (m k:Nat):gH m k≤k:=by
 unfold gH;split
 · omega
 split
 · omega
 split
 · exact Nat.min_le_left _ _
 · omega
theorem lF.round (m:Nat)(hm:m<256)(h:lF l st) :
 lF (l++[kz m st.length (st.drop (st.length - gH m st.length))]) (st.take (st.length - gH m st.length)++[(l.length:Int)]):=by
 have ht:=WK m st.length;have hl:(st.drop (st.length - gH m st.length)).length=gH m st.length:=by rw[lq];omega
 obtain⟨h1,h2⟩:=Us m st.length _ hm hl;have h0:lF l (st.take (st.length - gH m st.length)++st.drop (st.length - gH m st.length)):=by rw[List.take_append_drop];exact h
 exact h0.push h1 h2 (afk m _ _ hm) (afh m _ _) (afj m _ _ hm)
def KS(a b:Int):Nd:={ Nd.zero with kind:=15,kids:=[a,b] }
theorem lF.cat {b:Int}(h:lF l (st++[a,b])):lF (l++[KS a b]) (st++[(l.length:Int)]) :=
 h.push (MR (by omega)) rfl ⟨show(0:Int)≤255 by decide,show(⟨#[]⟩:ByteArray).size≤300 by decide,show(⟨#[]⟩:ByteArray).size≤1 by decide,show(⟨#[]⟩:ByteArray).size≤1 by decide⟩ QV ⟨.inl rfl,show(0:Int)≤40 by decide,show(0:Int)≤40 by decide⟩
theorem lF.tree (h:lF l [a]):dA l=true:=by
 have:=h.UR [] [];rw[gL]at this;unfold dA;rw[this];rfl
structure iN (w:World)(lo:Nat)(sv k:Value)(ks:List Int):Prop where
 own:Own (aJ .i64) 3 w lo k ks
 apart:∀g,k.ownBlock=Option.some g→sv.ownBlock≠Option.some g
theorem iN.nil(w:World)(lo:Nat)(sv:Value):iN w lo sv (.slice none 0 0) []:=⟨Own.nil _ _ _ _,fun _ h=>nomatch h⟩
theorem iN.next(h:iN w lo sv k ks)(hb:Below w.heap.size w w'):iN w' lo sv k ks:=⟨h.own.below hb (aj _),h.apart⟩
theorem iN.grow (h:iN w lo sv k ks)(hg:w.grownBy w' sv.ownBlock)(hor:rW.ownBlock=sv.ownBlock∨rW.ownBlock=Option.some w.heap.size):iN w' lo rW k ks:=by
 refine⟨h.own.keep fun g _ hl e=>hg.block g hl (fun e2=>h.apart g e e2.symm),fun g e => ?_⟩;rcases hor with e2|e2
 · rw[e2];exact h.apart g e
 · rw[e2];intro e3;injection e3 with e3;have:=h.own.less e;omega
theorem iN.fresh (h:iN w lo sv k ks)(ho:Own (aJ .i64) 3 w' w.heap.size rW st')(hb:Below w.heap.size w w'):iN w' lo rW k ks:=by
 refine⟨h.own.below hb (aj _),fun g e e2 => ?_⟩;have h1:=h.own.less e;have h2:=(ho.lies e2).1;omega
theorem iN.row {lo2:Nat}(h:iN w lo sv k ks)(hn:Own qD 44 w lo2 gq vs)(hg:w.grownBy w' gq.ownBlock):iN w' lo sv k ks :=
 ⟨h.own.keep fun g _ hl e=>hg.block g hl (h.own.Cr hn (by decide) e),h.apart⟩
theorem iN.nv (h:iN w lo sv k ks)(n:Nd)(hn:n.kids=ks):∃v:aK,v.n=n∧v.aY=k:=by
 subst hn;rcases h.own.shape with ⟨h1,_⟩|⟨g,c,h1,_⟩
 · exact⟨⟨n,none⟩,rfl,h1.symm⟩
 · exact⟨⟨n,Option.some (g,c)⟩,rfl,h1.symm⟩
structure jK (w0 w:World)(gq sv:Value)(vs:List aK)(st:List Int):Prop where
 nodes:Own qD 44 w w0.heap.size gq vs
 kids:∀v∈vs,iN w w0.heap.size sv v.aY v.n.kids
 jP:Own (aJ .i64) 3 w w0.heap.size sv st
 dC:Below w0.heap.size w0 w
theorem jK.nil(w:World):jK w w (.slice none 0 0) (.slice none 0 0) [] []:=⟨Own.nil _ _ _ _,fun v hv=>absurd hv (by simp),Own.nil _ _ _ _,ak _ _⟩
theorem jK.afd(h:jK w0 w gq sv vs st):kG w w0.heap.size gq vs:=⟨h.nodes,fun v hv=>(h.kids v hv).own⟩
theorem jK.next (h:jK w0 w gq sv vs st)(hb:Below w.heap.size w w'):jK w0 w' gq sv vs st :=
 ⟨h.nodes.below hb (aj _),fun v hv=>(h.kids v hv).next hb,h.jP.below hb (aj _),h.dC.trans (hb.mono h.dC.size)⟩
theorem jK.drew(h:jK w0 w gq sv vs st):jK w0 w.drew gq sv vs st:=h.next (Below.drew (ak _ _))
theorem MH {r:Option Nat}(h:Below w0.heap.size w0 w)(hg:w.grownBy w' r)(hr:∀g,r=Option.some g→w0.heap.size≤g):Below w0.heap.size w0 w' :=
 h.grown hg h.size hr
theorem jK.push (h:jK w0 w gq sv vs st)(ho:Own (aJ .i64) 3 w' w0.heap.size rW st')(hg:w.grownBy w' sv.ownBlock)(hor:rW.ownBlock=sv.ownBlock∨rW.ownBlock=Option.some w.heap.size):jK w0 w' gq rW vs st' :=
 ⟨h.nodes.keep fun g _ hl e=>hg.block g hl (h.nodes.Cr h.jP (by decide) e),fun v hv=>(h.kids v hv).grow hg hor,ho,MH h.dC hg (fun g e=>(h.jP.lies e).1)⟩
theorem jK.fresh (h:jK w0 w gq sv vs st)(ho:Own (aJ .i64) 3 w' w.heap.size rW st')(hb:Below w.heap.size w w'):jK w0 w' gq rW vs st' :=
 ⟨h.nodes.below hb (aj _),fun v hv=>(h.kids v hv).fresh ho hb,ho.mono h.dC.size,h.dC.trans (hb.mono h.dC.size)⟩
theorem jK.node {TK:Value}(h:jK w0 w gq sv vs st)(v:aK)(hk:iN w w0.heap.size sv v.aY v.n.kids)(ho:Own qD 44 w' w0.heap.size TK (vs++[v]))(hg:w.grownBy w' gq.ownBlock):jK w0 w' TK sv (vs++[v]) st:=by
 refine⟨ho,fun u hu => ?_,h.jP.keep fun g _ hl e=>hg.block g hl (h.jP.Cr h.nodes (by decide) e),MH h.dC hg (fun g e=>(h.nodes.lies e).1)⟩;rcases dQ.1 hu with hu|hu
 · exact(h.kids u hu).row h.nodes hg
 · rw[gM.1 hu];exact hk.row h.nodes hg
theorem az.grow (h:az w z n k)(ho:Own (aJ .i64) 3 w lo sv st)(hg:w.grownBy w' sv.ownBlock):az w' z n k:=by
 unfold az
 rw [hg.block z h.lt (fun e=>by
  obtain⟨_,cur,h2⟩:=ho.lies e.symm;rw[show w.heap[z]? = _ from h]at h2;injection h2 with h2;injection h2 with _ h2;exact absurd h2 (by decide))]
 exact h
theorem Own.Uf {t:TypeId}{base n c:Nat}{A:Option Addr}(h:Own (aJ .i64) t w base (.slice A n c) st)(f:Nat):(A=none→n=0)∧∀b,A=Option.some b→∀(j:Nat)(u:Value),((aJ .i64).all (st.take f))[j]? = Option.some u→w.cell? (b.add j)=Option.some u:=by
 rcases h.shape with ⟨h1,_⟩|⟨g,cap,h1,_⟩
 · injection h1 with h1 h2
   exact⟨fun _=>h2,fun b hb=>by rw[h1]at hb;cases hb⟩
 · injection h1 with h1 h2
   subst h1;refine⟨(fun e=>nomatch e),fun b hb j u hu => ?_⟩;injection hb with hb;subst hb;rw[Addr.add_mid,Nat.zero_add];refine h.cells j u ?_;rw[wS,gY]at hu ⊢;rw[List.getElem?_take]at hu;split at hu
   · exact hu
   · cases hu
structure YY (w0 w:World)(gq sv:Value)(vs:List aK)(st:List Int)(z m:Nat)(sk:Value):Prop where
 held:jK w0 w gq sv vs st
 node:∃aY,az w z (kz m st.length (st.drop (st.length - gH m st.length))) aY∧iN w w0.heap.size sv aY (st.drop (st.length - gH m st.length))
 view:(sk=sv∧gH m st.length=0)∨∃A c,sv = .slice A st.length c∧sk = .slice A (st.length - gH m st.length) (st.length - gH m st.length)
theorem adk(m k:Nat)(ks:List Int)(hm:m<256)(hk:ks.length=gH m k):(kz m k ks).kids=ks:=(Us m k ks hm hk).2
theorem ML (hn:az w z n k){xs:List Int}(h:Own (aJ .i64) 3 w lo v xs)(e:v.ownBlock=Option.some g):Option.some g≠Option.some z:=by
 intro e2;injection e2 with e2;subst e2;obtain⟨_,cur,h3⟩:=h.lies e;rw[show w.heap[g]? = _ from hn]at h3;injection h3 with h3;injection h3 with _ h3;exact absurd h3 (by decide)
theorem iN.over {aY:Value}(h:iN w lo sv aY ks)(hn:az w z n k)(hg:w.grownBy w' (Option.some z)):iN w' lo sv aY ks :=
 ⟨h.own.keep fun _ _ hl e=>hg.block _ hl (ML hn h.own e),h.apart⟩
theorem jK.over (h:jK w0 w gq sv vs st)(hn:az w z n k)(hz:gq.ownBlock≠Option.some z)(hlo:w0.heap.size≤z)(hg:w.grownBy w' (Option.some z)):jK w0 w' gq sv vs st :=
 ⟨h.nodes.keep fun g _ hl e=>hg.block g hl (fun e2=>hz (e.trans e2)),fun v hv=>(h.kids v hv).over hn hg,h.jP.keep fun _ _ hl e=>hg.block _ hl (ML hn h.jP e),MH h.dC hg (fun g e=>by injection e with e;omega)⟩
theorem QH {k:Nat}(hk:st.length=k)(h2:2≤k):st.drop (k - 2)=[st.getD (k - 2) 0,st.getD (k - 1) 0]:=by
 have e1:k - 2<st.length:=by omega
 have e2:k - 2+1<st.length:=by omega
 rw[List.drop_eq_getElem_cons e1,List.drop_eq_getElem_cons e2,List.drop_of_length_le (by omega)];rw[kg,kg,cZ e1,show k - 1=k - 2+1 by omega,cZ e2];rfl
theorem drop_one {k:Nat}(hk:st.length=k)(h1:1≤k):st.drop (k - 1)=[st.getD (k - 1) 0]:=by
 have e1:k - 1<st.length:=by omega
 rw[List.drop_eq_getElem_cons e1,List.drop_of_length_le (by omega)];rw[kg,cZ e1];rfl
theorem iN.VG (hlo:lo≤w.heap.size)(hs:Own (aJ .i64) 3 w lo sv st)(x y:Int):iN (w.alloc (.cells #[.int .i64 x,.int .i64 y] 3)) lo sv (.slice (some ⟨w.heap.size,0,none⟩) 2 2) [x,y] :=
 ⟨Ip w lo x y hlo,fun g e e2=>by have h1:=hs.less e2;injection e with e;have e:w.heap.size=g:=e;omega⟩
theorem iN.ahn (hlo:lo≤w.heap.size)(hs:Own (aJ .i64) 3 w lo sv st)(x:Int):iN (w.alloc (.cells #[.int .i64 x] 3)) lo sv (.slice (some ⟨w.heap.size,0,none⟩) 1 1) [x] :=
 ⟨Io w lo x hlo,fun g e e2=>by have h1:=hs.less e2;injection e with e;have e:w.heap.size=g:=e;omega⟩
theorem UI (w:World)(B:Nat)(hB:B≤w.heap.size):Own (aJ .i64) 3 (w.alloc (.cells #[] 3)) B (.slice (some ⟨w.heap.size,0,none⟩) 0 0) ([]:List Int) :=
 Own.made (aJ .i64) 3 w B w.heap.size 0 #[] rfl hB (by unfold maxLen;omega) rfl
theorem aiN {base cap k f:Nat}(h:Own (aJ .i64) 3 w base (.slice (some ⟨g,0,none⟩) k cap) st)(hk:st.length=k)(hf:f≤k)(hc:k≤cap):Src Tryz.prog 1 34 (.slice (if cap=f then some ⟨g,0,none⟩else some ⟨g,f,none⟩) (k - f) (cap - f)) (k - f) ((aJ .i64).all (st.drop f)) w:=by
 have hl:(st.drop f).length=k - f:=by rw[lq,hk]
 by_cases h0:cap=f
 · have e:k - f=0:=by omega
   have e2:st.drop f=[]:=kM (by omega);rw[ag h0,e2,e];exact Src.ofSlice w Tryz.underlying34 _ _ _ _ rfl (fun j u hu=>by simp[Enc.all]at hu) ((aJ .i64).xm [])
 · rw[af h0]
   refine Src.ofSlice w Tryz.underlying34 _ _ _ _ (by rw[Enc.mK,hl]) (fun j u hu => ?_) ((aJ .i64).xm _);rw[Addr.add_mid];refine Own.cells h (f+j) u ?_;rw[wS,List.map_drop,List.getElem?_drop]at hu;rw[wS];exact hu
theorem aj2 {P:Program}{α : Type}{size t e bytes:Nat}{o:Oper}{a:Act}{K:Act→World→Prop}{Q:Exit→Act→World→Prop}(df:Elem P t e size bytes)(E:Enc α size)
 (hgd:o.guard=none) (s x:Operand) (ho:o.op = .call { callee := .builtin .append,args:=#[s,x],argTypes:=#[t,t] }) (base:Nat) (v:Value) (xs:List α)
 (hs:a.eval s=v) (gQ:Own E e w base v xs) (ad:Addr) (m c:Nat) (ys:List α) (hx:a.eval x = .slice (some ad) m c) (hl:ys.length=m)
 (hc:∀(j:Nat)(u:Value),(E.all ys)[j]? = some u→w.cell? (ad.add j)=some u) (hb:(xs.length+m)*bytes≤140737488355328) (hb2:xs.length+m≤maxLen) (jX:base≤w.heap.size)
 (h:∀(v':Value)(w':World),Own E e w' base v' (xs++ys)→w.grownBy w' v.ownBlock→(v'.ownBlock=v.ownBlock∨v'.ownBlock=some w.heap.size)→K (a.put o.dst v') w'):Oper.wp P o a w K Q:=by
 have h1:=NU (ops:=#[]) (F:=False) (Q:=Q) df E hgd s x ho base v xs hs gQ ad m c ys hx hl hc hb hb2 jX h;have hw:Region.wanted o (yielded #[] a.tmps)=true:=by simp[Region.wanted,hgd]
 rw[ag hw]at h1;exact h1
theorem WH (c:Nat):∀ns:List Nd,(∀n∈ns,nC n≤c)→qP ns≤ns.length*c
 | [],_=>ek _
 | n :: ns,h=>by
   have ih:=WH c ns fun m hm=>h m (List.mem_cons_of_mem _ hm)
   have h1:=h n (by simp);show nC n+qP ns≤(ns.length+1)*c;rw[Nat.succ_mul];omega
def Gc(w:World)(e:Ending)(w':World):Prop:=∃gq sv vs st,e = .returned gq∧jK w w' gq sv vs st∧lF (vs.map (·.n)) st∧st.length≤1∧vs.length≤80
structure qy (ns:List Nd):Prop where
 few:ns.length≤80
 tiny:∀n∈ns,Gp n
 tree:ns≠[]→dA ns=true
 free:∀n∈ns,Dz n
 kZ:∀n∈ns,Gm n
theorem qy.num(h:qy ns):∀n∈ns,n.num≤9223372036854775807:=fun n hn=>by have:=(h.tiny n hn).1;omega
theorem qy.BL(h:qy ns):∀n∈ns,n.text.size≤1000000∧n.ref.sh.size≤1000000∧n.ai.sh.size≤1000000:=fun n hn=>by obtain⟨_,h2,h3,h4⟩:=h.tiny n hn;omega
theorem qy.len (h:qy ns):(di ns).length≤100000:=by
 by_cases h0:ns=[]
 · subst h0;decide
 · have h1:=UY (h.tree h0) h.num
   have h2:=WH 1000 ns (fun n hn=>by obtain⟨_,h2,h3,h4⟩:=h.tiny n hn;unfold nC;omega);have h3:=h.few;have:ns.length*1000≤80*1000:=Nat.mul_le_mul_right _ h3;omega
theorem Gc.made {e:Ending}(h:Gc w e w'):Below w.heap.size w w'∧∃A c l,e = .returned (.slice A l.length c)∧dN w' w'.heap.size (.slice A l.length c) l∧qy (l.map (·.1)):=by
 obtain⟨gq,sv,vs,st,he,hm,hi,h1,h80⟩:=h
 have hN:qy (vs.map (·.n)):=⟨by rw[eF];exact h80,hi.tiny,fun hne=>by
  have h2:=hi.some hne
  match st,h2,h1,hi with
  | [],h2,_,_=>exact absurd rfl h2
  | [a],_,_,hi=>exact hi.tree
  | _ :: _ :: _,_,h1,_=>simp at h1,hi.free,hi.kZ⟩
 refine⟨hm.dC, ?_⟩;rcases hm.nodes.shape with ⟨e1,e2⟩|⟨g,cap,e1,_⟩
 · subst e2
   exact⟨none,0,[],by rw[he,e1];rfl,aiH w',hN⟩
 · have hsn:dN w' w'.heap.size (.slice (some ⟨g,0,none⟩) vs.length cap) (vs.map fun v=>(v.n,v.aY)):=kG.sn (lo:=w.heap.size) (by have:=hm.afd;rwa[e1]at this) rfl
   exact⟨some ⟨g,0,none⟩,cap,vs.map (fun v=>(v.n,v.aY)),by rw[he,e1,eF],by rw[eF];exact hsn,by rw[NR];exact hN⟩
theorem agc (ht:dA ns=true)(hm:∀n∈ns,n.num≤9223372036854775807):Bytes (di ns):=by
 obtain⟨a,ts,rk,d,h1,h2⟩:=Jf ht hm;rw[Dl h1 ht];exact Ol ts h2
theorem qy.told (h:qy ns)(hne:ns≠[]):strOfNums (di ns)≠⟨#[]⟩∧(gZ (strOfNums (di ns)) (.ok ns)∨∃c,gZ (strOfNums (di ns)) (.error c)∧c≠0∧(300<(strOfNums (di ns)).size∨c=6)):=by
 have ht:=h.tree hne;have hb:=agc ht h.num;refine⟨fun e => ?_, ?_⟩
 · have h1:=congrArg ByteArray.size e
   rw[strOfNums_size]at h1;exact Oh ht h.num (kM h1)
 · by_cases h3:300<(strOfNums (di ns)).size
   · exact .inr ⟨4,.inl ⟨h3,rfl⟩,by omega,.inl h3⟩
   · obtain⟨vs,g,h1,h2⟩:=ajx ht h.num
     rcases h2 with h2|h2
     · exact .inl (.inr (.inr ⟨by omega,vs,g,by rw[jN _ hb];exact h1,h2⟩))
     · exact .inr ⟨6,.inr (.inr ⟨by omega,vs,g,by rw[jN _ hb];exact h1,h2⟩),by omega,.inr rfl⟩
theorem afW:∃c,gZ ⟨#[]⟩ (.error c)∧c≠0:=by
 obtain⟨res,hp⟩:=gZ.all ⟨#[]⟩;cases res with
 | error c=>exact⟨c,hp,PK _ c hp⟩
 | ok ns =>
   obtain⟨⟨_,_,ht⟩,hn,hl,_⟩:=Ef _ ns hp;exact absurd (kM (Nat.le_zero.1 hl)) (Oh ht hn)
theorem ahg (s p:ByteArray)(hs:s.size≤300)(hp0:0<s.size)(sV:(s[0].toNat:Int)=61)(hr:s.extract 1 s.size=p)(w9:gG++p=s)(ns:List Nd)(hp:gZ p (.ok ns))(vY:strOfNums (di ns)=p)(w:World) :
 Calls Tryz.prog 51 #[.string s] w fun e w'=>e = .returned (.bool true)∧Below w.heap.size w w':=by
 have hi:¬ (300:Int)<(s.size:Int):=by omega
 have hi0:(0:Int)<(s.size:Int):=by omega
 have hi1:(1:Int)≤(s.size:Int):=by omega
 have hne:=qg s (by omega);have uG:s.toList.isEmpty=false:=by cases hq:s.toList with|nil=>exact absurd hq hne|cons a l=>rfl
 have LG:(s.toList == [])=false:=aA.2 hne;have hcc:(((⟨#[61]⟩:ByteArray)++p).toList == s.toList)=true:=by rw[show(⟨#[61]⟩:ByteArray)++p=s from w9];exact beq_self_eq_true _
 have aby:(⟨#[61]⟩:ByteArray)++p=s:=w9;have hpz:¬ 9223372036854775807<1+p.size:=by rw[← hr,ByteArray.size_extract];omega
 have HA:=ae (Vs p w ns hp);have qY:=ae (fun (w1 wr:World)(v:Value)(l:List (Nd × Value))(hm:l.map Prod.fst=ns)(hs:dN w1 w1.heap.size v l)(hr:Below w1.heap.size w1 wr)=>ag1 p ns hp vY w1 wr v l hm hs hr);obtain⟨L,hL⟩:∃L,ns.length=L:=⟨_,rfl⟩;rw[hL]at HA;clear hp vY hL hs w9;go_enter Tryz.func51,Tryz.ntmps51;go_upto_region 7 with (go_at_call 52;((with_reducible refine HA.o.mono ?_);rintro e w1 ⟨hb,g1,fu,l1,rfl,hm1,hs1⟩;have HB1:=ae hb;have y5:=ae hm1;have fF:=ae hs1;clear hb hm1 hs1))
 have HK:=ae (jS.new w1 (.slice (some ⟨g1,0,none⟩) L fu) 0);have bz:=ae (show Below w1.heap.size w1 (w1.alloc (.cells #[.slice (some ⟨g1,0,none⟩) L fu,.int .i64 0] 97))from(ak _ _).alloc (aj _) _);obtain⟨b,hb⟩:∃b,w1.heap.size=b:=⟨_,rfl⟩;obtain⟨w2,hw2⟩:∃w2,w1.alloc (.cells #[.slice (some ⟨g1,0,none⟩) L fu,.int .i64 0] 97)=w2:=⟨_,rfl⟩;have bK:=ae (qY.o w1 w2 _ l1 y5.o fF.o (by rw[← hw2];exact bz.o));rw[hw2]at HK bz ⊢;have HB2:=ae (HB1.o.trans (bz.o.mono HB1.o.size));rw[hb]at HK ⊢;clear hw2 hb;obtain⟨y0,y1⟩:=HK.o.facts;go_wp2_with (go_at_call 7;((with_reducible refine bK.o.mono ?_);rintro e w3 ⟨rfl,h1⟩;have H3:=ae (HB2.o.trans (h1.mono HB2.o.size));clear h1))
 go_ret;exact⟨rfl,H3.o⟩
theorem VE (s p:ByteArray)(hs:s.size≤300)(hp0:0<s.size)(sV:(s[0].toNat:Int)=61)(hr:s.extract 1 s.size=p)(w9:gG++p=s)(c:Int)(hp:gZ p (.error c))(hc:c≠0)(w:World) :
 Calls Tryz.prog 51 #[.string s] w fun e w'=>e = .returned (.bool false)∧Below w.heap.size w w':=by
 have hi:¬ (300:Int)<(s.size:Int):=by omega
 have hi0:(0:Int)<(s.size:Int):=by omega
 have hi1:(1:Int)≤(s.size:Int):=by omega
 have hne:=qg s (by omega);have uG:s.toList.isEmpty=false:=by cases hq:s.toList with|nil=>exact absurd hq hne|cons a l=>rfl
 have LG:(s.toList == [])=false:=aA.2 hne;have hcc:(((⟨#[61]⟩:ByteArray)++p).toList == s.toList)=true:=by rw[show(⟨#[61]⟩:ByteArray)++p=s from w9];exact beq_self_eq_true _
 have aby:(⟨#[61]⟩:ByteArray)++p=s:=w9;have hpz:¬ 9223372036854775807<1+p.size:=by rw[← hr,ByteArray.size_extract];omega
 have hc0:(c == 0)=false:=aA.2 hc
 have HA:=ae (show Calls Tryz.prog 52 #[.string p] w fun e w'=>Below w.heap.size w w'∧e = .returned (.agg #[.slice none 0 0,.int .i64 c])from by
  refine(VJ p w _ hp).mono ?_;rintro e w' ⟨hb,⟨c',h,_,he⟩|⟨_,_,_,_,h,_⟩⟩
  · injection h with h;subst h;exact⟨hb,he⟩
  · cases h)
 clear hp hs w9 hc;go_enter Tryz.func51,Tryz.ntmps51;go_upto_region 7 with (go_at_call 52;((with_reducible refine HA.o.mono ?_);rintro e w1 ⟨hb,rfl⟩;have HB1:=ae hb;clear hb))
 have HK:=ae (jS.new w1 (.slice none 0 0) c);have bz:=ae (show Below w1.heap.size w1 (w1.alloc (.cells #[.slice none 0 0,.int .i64 c] 97))from(ak _ _).alloc (aj _) _);obtain⟨b,hb⟩:∃b,w1.heap.size=b:=⟨_,rfl⟩;obtain⟨w2,hw2⟩:∃w2,w1.alloc (.cells #[.slice none 0 0,.int .i64 c] 97)=w2:=⟨_,rfl⟩;rw[hw2]at HK bz ⊢;have HB2:=ae (HB1.o.trans (bz.o.mono HB1.o.size));rw[hb]at HK ⊢;clear hw2 hb;obtain⟨y0,y1⟩:=HK.o.facts;go_wp2_with fail
 go_ret;exact⟨rfl,HB2.o⟩
theorem ahh (s:ByteArray)(hs:300<s.size)(w:World):Calls Tryz.prog 51 #[.string s] w fun e w'=>e = .returned (.bool false)∧Below w.heap.size w w':=by
 have hi:(300:Int)<(s.size:Int):=by omega
 clear hs;go_enter Tryz.func51,Tryz.ntmps51;go_wp2_with fail
 go_ret;exact⟨rfl,ak _ _⟩
theorem Vo (w:World)(A:Option Addr)(cap:Nat):Calls Tryz.prog 17 #[.slice A 0 cap] w fun e w'=>e = .returned (.bool false)∧Below w.heap.size w w':=by
 go_enter Tryz.func17,Tryz.ntmps17;go_upto_region 3 with (fail)
 go_loopw [3,4] (fun rv iv wr=>rv = .slice none 0 0∧iv = .int .i64 0∧Below w.heap.size w wr) (fun _ _ _=>0)
 case atStart=>exact⟨rfl,rfl,ak _ _⟩
 case round =>
  obtain⟨rfl,rfl,hb⟩:=hrel;have HB:=ae hb;clear hb;go_wp2_with fail
  go_ret;exact⟨rfl,HB.o⟩
theorem agO (w:World)(A:Option Addr)(cap:Nat):Calls Tryz.prog 7 #[.slice A 0 cap] w fun e w'=>e = .returned (.string ⟨#[]⟩)∧Below w.heap.size w w':=by
 have HT:=ae (Vo w A cap);go_enter Tryz.func7,Tryz.ntmps7
 go_wp2_with (first
  | (go_at_call 17;((with_reducible refine HT.o.mono ?_);rintro e w2 ⟨rfl,h1⟩;have HB2:=ae h1;clear h1)))
 go_ret;exact⟨rfl,HB2.o⟩
theorem aeg (w:World)(v:Value)(l:List (Nd × Value))(hs:dN w w.heap.size v l)(hN:qy (l.map (·.1))) :
 Calls Tryz.prog 7 #[v] w fun e w'=>e = .returned (.string (strOfNums (di (l.map (·.1)))))∧Below w.heap.size w w':=by
 by_cases h0:l=[]
 · subst h0
   obtain⟨A,cap,rfl⟩:=hs.rO;rw[show strOfNums (di (([]:List (Nd × Value)).map (·.1)))=⟨#[]⟩by decide];exact agO w A cap
 · exact Nk w v l hs ⟨by have:=hN.few;rw[eF]at this;omega,fun p hp=>hN.BL p.1 (r9 hp)⟩ (fun p hp=>hN.num p.1 (r9 hp)) (bN hN.len (by omega)) (hN.tree (by intro e;exact h0 (List.map_eq_nil_iff.1 e)))
theorem aef (h:qy ns):¬ 9223372036854775807<1+(strOfNums (di ns)).size:=by
 have:=h.len;rw[strOfNums_size];omega
theorem zQ:Tryz.f24.results=#[.cell 4 44]:=by kernel_rfl
def p9(n:Nd)(s:Sf):Nd:=if (iW n s).2=true then (iW n s).1 else oo
def Ed (w:World)(n:Nd)(s:Sf)(aY:Value)(e:Ending)(w':World):Prop :=
 ∃K,e = .returned (.agg (bA (p9 n s) K))∧(K=aY∨(K = .slice none 0 0∧p9 n s=oo))∧Below w.heap.size w w'
theorem aeH (w:World)(n:Nd)(A:Option Addr)(m c:Nat)(x:aP)(hg:x.s.gone=true) :
 Calls Tryz.prog 24 #[.agg (bA n (.slice A m c)),.agg (iQ x)] w (Ed w n x.s (.slice A m c)):=by
 obtain⟨w1,hw1,hp⟩:=E8 w n A m c x;have HP:=ae hp;obtain⟨z,hz⟩:∃z,w.heap.size=z:=⟨_,rfl⟩;have eY:=ae hz;rw[hz]at HP;clear hp hz;have y0:=HP.o.sh.cells;dsimp only[aP.rv,aP.cv]at y0;have aW:=ae (show p9 n x.s=oo from by unfold p9 iW;rw[ag hg];rfl);have HG:=ae hg;clear hg;show Calls Tryz.prog 24 #[.agg #[.int .i64 n.kind,.int .i64 n.num,.string n.text,.string n.ref.sh,.int .i64 n.ref.c,.int .i64 n.ref.r,.bool n.ref.ac,.bool n.ref.ar,.string n.ai.sh,.int .i64 n.ai.c,.int .i64 n.ai.r,.bool n.ai.ac,.bool n.ai.ar,.slice A m c],.agg #[.string x.s.sh,.slice x.ra x.s.rx.length x.rc,.int .i64 x.s.rn,.slice x.ca x.s.cx.length x.cc,.int .i64 x.s.cn,.bool x.s.gone]] w _;go_enter Tryz.func24,Tryz.ntmps24;go_upto_region 1 with (fail)
 rw[eY.o,show z+1+1=z+2 from rfl];obtain⟨y0,y1,y2,y3,y4,dH⟩:=y0;have hg:=HG.o;go_wp2_with (refine lh rfl (.tmp 4) (.tmp 13) rfl (z+2) Nd.zero oo (.slice none 0 0) (.slice none 0 0) rfl rfl HP.o.res rfl ?_;intro w7 k1 k2)
 exact bodyPost_ret (uP k1 _ _ 4 zQ rfl) rfl ⟨_,by rw[aW.o],.inr ⟨rfl,aW.o⟩,HP.o.qc k2⟩
theorem aeJ (w:World)(n:Nd)(A:Option Addr)(m c:Nat)(x:aP)(hx:nJ w w.heap.size x)(ho:mV x.s)(hn:zi n)(hg:x.s.gone=false)(hk:n.kind=5) :
 Calls Tryz.prog 24 #[.agg (bA n (.slice A m c)),.agg (iQ x)] w (Ed w n x.s (.slice A m c)):=by
 obtain⟨w1,hw1,hp⟩:=E8 w n A m c x;have HP:=ae hp;have HX:=ae hx;have HN:=ae hn;have h1:=ho.rows.len;have h2:=ho.rows.low;have h3:=ho.rows.top;have h4:=ho.mH.len;have h5:=ho.mH.low;have h6:=ho.mH.top;have g1:=hn.r;have g2:=hn.c;obtain⟨z,hz⟩:∃z,w.heap.size=z:=⟨_,rfl⟩;have eY:=ae hz;rw[hz]at HP;clear hx ho hn hp hz;have x0:=HP.o.dP.cells;have y0:=HP.o.sh.cells;dsimp only[aP.rv,aP.cv]at y0;have HI1:=ae (fun (wa:World)(ha:Below w.heap.size w wa)=>IG wa x.ra x.s.rx.length x.rc x.s.rx x.s.rn n.ref.r (HX.o.lift ha).rows (by omega) h2 (by omega) (by omega));have HI2:=ae (fun (wa:World)(ha:Below w.heap.size w wa)=>IG wa x.ca x.s.cx.length x.cc x.s.cx x.s.cn n.ref.c (HX.o.lift ha).mH (by omega) h5 (by omega) (by omega));obtain⟨a1,ha1⟩:∃a,lI x.s.rx x.s.rn n.ref.r=a:=⟨_,rfl⟩;obtain⟨b1,hb1⟩:∃a,lI x.s.cx x.s.cn n.ref.c=a:=⟨_,rfl⟩;rw[ha1]at HI1;rw[hb1]at HI2;obtain⟨N,hN⟩:∃N,n.kU a1 b1 n.ai.r n.ai.c=N:=⟨_,rfl⟩;have hNs:N.ref.sh=n.ref.sh:=by rw[← hN];rfl
 have y8:=ae hN
 have aW:=ae (show p9 n x.s=if bX N.ref=true then N else oo from by
  have:o7 n x.s=N:=by rw[← hN];unfold o7;rw[ha1,hb1];rfl
  have ha:iW n x.s=if n.kind=6 then (j5 n x.s,tK n x.s&&bX (j5 n x.s).ai)else (o7 n x.s,bX (o7 n x.s).ref):=by
   unfold iW;rw[hg];rfl
  rw[af (show ¬ n.kind=6 by omega)]at ha;unfold p9;rw[ha,this])
 have vg:=ae (fun wq=>oI N.ref.sh N.ref.c N.ref.r N.ref.ac N.ref.ar wq (by rw[hNs];exact HN.o.sh));clear hN ha1 hb1 hNs;show Calls Tryz.prog 24 #[.agg #[.int .i64 n.kind,.int .i64 n.num,.string n.text,.string n.ref.sh,.int .i64 n.ref.c,.int .i64 n.ref.r,.bool n.ref.ac,.bool n.ref.ar,.string n.ai.sh,.int .i64 n.ai.c,.int .i64 n.ai.r,.bool n.ai.ac,.bool n.ai.ar,.slice A m c],.agg #[.string x.s.sh,.slice x.ra x.s.rx.length x.rc,.int .i64 x.s.rn,.slice x.ca x.s.cx.length x.cc,.int .i64 x.s.cn,.bool x.s.gone]] w _;have jQ:=ae (show(n.kind == (5:Int))=true from bB.2 hk);have Ai:=ae hg;clear hk hg;go_enter Tryz.func24,Tryz.ntmps24;go_upto_region 1 with (fail)
 rw[eY.o,show z+1+1=z+2 from rfl];obtain⟨x0,x1,x2,x3,x4,x5,x6,x7,av,aI,aF,aG,aH,aC⟩:=x0;obtain⟨y0,y1,y2,y3,y4,dH⟩:=y0;have hgf:=Ai.o;have hk5:=jQ.o;go_upto_region 5 with (go_at_call 41;((with_reducible refine(HI1.o _ HP.o.below).mono ?_);rintro e w2 ⟨rfl,hq⟩;have dm:=ae (HP.o.call hq);have f5:=dm.o.dP.p8 5;clear x0 x1 x2 x3 x4 x5 x6 x7 av aI aF aG aH aC y0 y1 y2 y3 y4 dH hq;obtain⟨x0,x1,x2,x3,x4,x5,x6,x7,av,aI,aF,aG,aH,aC⟩:=dm.o.dP.cells;obtain⟨y0,y1,y2,y3,y4,dH⟩:=dm.o.sh.cells))
 have bg:=ae (dm.o.put 5 (.int .i64 a1) (n':=n.kU a1 n.ref.c n.ai.r n.ai.c) rfl);clear x0 x1 x2 x3 x4 x5 x6 x7 av aI aF aG aH aC y0 y1 y2 y3 y4 dH f5;obtain⟨w3,hw3⟩:∃w3,w2.setCell ⟨z,5,none⟩ (.int .i64 a1)=w3:=⟨_,rfl⟩;rw[hw3]at bg ⊢;clear hw3;obtain⟨x0,x1,x2,x3,x4,x5,x6,x7,av,aI,aF,aG,aH,aC⟩:=bg.o.dP.cells;obtain⟨y0,y1,y2,y3,y4,dH⟩:=bg.o.sh.cells;dsimp only[aP.rv,aP.cv]at y1 y3;dsimp only[Nd.kU,bL.goto]at x0 x1 x2 x3 x4 x5 x6 x7 av aI aF aG aH aC;go_upto_region 6 with (go_at_call 41;((with_reducible refine(HI2.o _ bg.o.below).mono ?_);rintro e w4 ⟨rfl,hq⟩;have bS:=ae (bg.o.call hq);have f4:=bS.o.dP.p8 4;clear x0 x1 x2 x3 x4 x5 x6 x7 av aI aF aG aH aC y0 y1 y2 y3 y4 dH hq;obtain⟨x0,x1,x2,x3,x4,x5,x6,x7,av,aI,aF,aG,aH,aC⟩:=bS.o.dP.cells;obtain⟨y0,y1,y2,y3,y4,dH⟩:=bS.o.sh.cells;dsimp only[Nd.kU,bL.goto]at x0 x1 x2 x3 x4 x5 x6 x7 av aI aF aG aH aC))
 have aS:=ae (bS.o.put 4 (.int .i64 b1) (n':=n.kU a1 b1 n.ai.r n.ai.c) rfl);clear x0 x1 x2 x3 x4 x5 x6 x7 av aI aF aG aH aC y0 y1 y2 y3 y4 dH f4;obtain⟨w5,wh⟩:∃w5,w4.setCell ⟨z,4,none⟩ (.int .i64 b1)=w5:=⟨_,rfl⟩;rw[wh]at aS ⊢;clear wh;rw[y8.o]at aS;obtain⟨x0,x1,x2,x3,x4,x5,x6,x7,av,aI,aF,aG,aH,aC⟩:=aS.o.dP.cells;obtain⟨b,hb⟩:∃b,bX N.ref=b:=⟨_,rfl⟩;have DW:=ae (fun wq=>(show Calls Tryz.prog 42 #[.agg #[.string N.ref.sh,.int .i64 N.ref.c,.int .i64 N.ref.r,.bool N.ref.ac,.bool N.ref.ar]] wq fun e w'=>e = .returned (.bool b)∧Below wq.heap.size wq w' from hb ▸ vg.o wq));rw[hb]at aW;clear hb;cases b
 · go_wp2_with (first
    | (go_at_call 42;((with_reducible refine(DW.o _).mono ?_);rintro e w6 ⟨rfl,hq⟩;have bU:=ae (aS.o.call hq);clear hq))
    | (refine lh rfl (.tmp 4) (.tmp 37) rfl (z+2) Nd.zero oo (.slice none 0 0) (.slice none 0 0) rfl rfl bU.o.res rfl ?_;intro w7 k1 k2))
   exact bodyPost_ret (uP k1 _ _ 4 zQ rfl) rfl ⟨_,by rw[aW.o];rfl,.inr ⟨rfl,by rw[aW.o];rfl⟩,bU.o.qc k2⟩
 · go_upto_region 8 with (go_at_call 42;((with_reducible refine(DW.o _).mono ?_);rintro e w6 ⟨rfl,hq⟩;have bU:=ae (aS.o.call hq);clear x0 x1 x2 x3 x4 x5 x6 x7 av aI aF aG aH aC hq;obtain⟨x0,x1,x2,x3,x4,x5,x6,x7,av,aI,aF,aG,aH,aC⟩:=bU.o.dP.cells))
   go_wp2_with (refine lh rfl (.tmp 4) (.tmp 38) rfl (z+2) Nd.zero N (.slice none 0 0) (.slice A m c) rfl rfl bU.o.res rfl ?_;intro w7 k1 k2)
   exact bodyPost_ret (uP k1 _ _ 4 zQ rfl) rfl ⟨_,by rw[aW.o];rfl,.inl rfl,bU.o.qc k2⟩
theorem VL (w:World)(A:Option Addr)(n cap:Nat)(xs:List Int)(nw lo hi:Int)(h:IR w w.heap.size A n cap xs)(hm:xZ xs nw)(hn:n≤2000000)(hh:hi≤4398046511104){b:Int}{o:Bool}(hp:jO xs nw lo hi=(a,b,o)) :
 Calls Tryz.prog 43 #[.agg #[.slice A n cap,.int .i64 nw],.int .i64 lo,.int .i64 hi] w fun e w'=>e = .returned (.tuple #[.int .i64 a,.int .i64 b,.bool o])∧Below w.heap.size w w':=by
 have h1:=hm.low;have h2:=hm.top;have h:=agJ w A n cap xs nw lo hi h hn h1 (by omega) hh hm.Dh;rw[hp]at h;exact h
theorem aeK (w:World)(n:Nd)(A:Option Addr)(m c:Nat)(x:aP)(hx:nJ w w.heap.size x)(ho:mV x.s)(hn:zi n)(hg:x.s.gone=false)(hk:n.kind=6)(Si:Aw n) :
 Calls Tryz.prog 24 #[.agg (bA n (.slice A m c)),.agg (iQ x)] w (Ed w n x.s (.slice A m c)):=by
 obtain⟨w1,hw1,hp⟩:=E8 w n A m c x;have HP:=ae hp;have HX:=ae hx;have HN:=ae hn;have h1:=ho.rows.len;have h4:=ho.mH.len;have g1:=hn.r;have g2:=hn.c;have g3:=hn.tr;have g4:=hn.tc;obtain⟨⟨a1,a2,ao⟩,ha⟩:∃p,jO x.s.rx x.s.rn n.ref.r n.ai.r=p:=⟨_,rfl⟩;obtain⟨⟨b1,b2,bo⟩,hb⟩:∃p,jO x.s.cx x.s.cn n.ref.c n.ai.c=p:=⟨_,rfl⟩;have fF:=ae (fun (wa:World)(hq:Below w.heap.size w wa)=>VL wa x.ra x.s.rx.length x.rc x.s.rx x.s.rn n.ref.r n.ai.r (HX.o.lift hq).rows ho.rows (by omega) (by omega) ha);have HS2:=ae (fun (wa:World)(hq:Below w.heap.size w wa)=>VL wa x.ca x.s.cx.length x.cc x.s.cx x.s.cn n.ref.c n.ai.c (HX.o.lift hq).mH ho.mH (by omega) (by omega) hb);have uJ:j5 n x.s=n.kU a1 b1 a2 b2:=by unfold j5;rw[ha,hb]
 have hok:tK n x.s=(ao&&bo):=by unfold tK;rw[ha,hb]
 have zB:=fun h1 h2=>(Wz Si ho h1 h2).1
 obtain⟨N,hN⟩:∃N,n.kU a1 b1 a2 b2=N:=⟨_,rfl⟩;have hNs:N.ref.sh=n.ref.sh:=by rw[← hN];rfl
 have Rn:N.ai.sh=n.ai.sh:=by rw[← hN];rfl
 rw[uJ,hok,hN]at zB;have y8:=ae hN
 have aW:=ae (show p9 n x.s=if (ao&&bo&&bX N.ai)=true then N else oo from by
  have h:iW n x.s=if n.kind=6 then (j5 n x.s,tK n x.s&&bX (j5 n x.s).ai)else (o7 n x.s,bX (o7 n x.s).ref):=by
   unfold iW;rw[hg];rfl
  rw[ag hk,uJ,hok,hN]at h;unfold p9;rw[h])
 have y5:=ae (fun wq=>oI N.ref.sh N.ref.c N.ref.r N.ref.ac N.ref.ar wq (by rw[hNs];exact HN.o.sh));have nV:=ae (fun wq=>oI N.ai.sh N.ai.c N.ai.r N.ai.ac N.ai.ar wq (by rw[Rn];exact HN.o.Xc));obtain⟨z,hz⟩:∃z,w.heap.size=z:=⟨_,rfl⟩;have eY:=ae hz;rw[hz]at HP;clear hx ho hn hp hz hN hNs Rn uJ hok Si ha hb;have x0:=HP.o.dP.cells;have y0:=HP.o.sh.cells;dsimp only[aP.rv,aP.cv]at y0;show Calls Tryz.prog 24 #[.agg #[.int .i64 n.kind,.int .i64 n.num,.string n.text,.string n.ref.sh,.int .i64 n.ref.c,.int .i64 n.ref.r,.bool n.ref.ac,.bool n.ref.ar,.string n.ai.sh,.int .i64 n.ai.c,.int .i64 n.ai.r,.bool n.ai.ac,.bool n.ai.ar,.slice A m c],.agg #[.string x.s.sh,.slice x.ra x.s.rx.length x.rc,.int .i64 x.s.rn,.slice x.ca x.s.cx.length x.cc,.int .i64 x.s.cn,.bool x.s.gone]] w _;have jQ:=ae (show(n.kind == (5:Int))=false from aA.2 (by omega));have Ai:=ae hg;obtain⟨r,hr⟩:∃r,bX N.ref=r:=⟨_,rfl⟩;obtain⟨t,ht⟩:∃t,bX N.ai=t:=⟨_,rfl⟩;have JQ:=ae (fun wq=>(show Calls Tryz.prog 42 #[.agg #[.string N.ref.sh,.int .i64 N.ref.c,.int .i64 N.ref.r,.bool N.ref.ac,.bool N.ref.ar]] wq fun e w'=>e = .returned (.bool r)∧Below wq.heap.size wq w' from hr ▸ y5.o wq));have DW:=ae (fun wq=>(show Calls Tryz.prog 42 #[.agg #[.string N.ai.sh,.int .i64 N.ai.c,.int .i64 N.ai.r,.bool N.ai.ac,.bool N.ai.ar]] wq fun e w'=>e = .returned (.bool t)∧Below wq.heap.size wq w' from ht ▸ nV.o wq));rw[ht]at aW;rw[hr,ht]at zB;have vg:=ae zB;clear hk hg hr ht zB y5 nV;go_enter Tryz.func24,Tryz.ntmps24;go_upto_region 1 with (fail)
 rw[eY.o,show z+1+1=z+2 from rfl];obtain⟨x0,x1,x2,x3,x4,x5,x6,x7,av,aI,aF,aG,aH,aC⟩:=x0;obtain⟨y0,y1,y2,y3,y4,dH⟩:=y0;have hgf:=Ai.o;have hk5:=jQ.o;go_upto_region 10 with (go_at_call 43;((with_reducible refine(fF.o _ HP.o.below).mono ?_);rintro e w2 ⟨rfl,hq⟩;have dm:=ae (HP.o.call hq);clear x0 x1 x2 x3 x4 x5 x6 x7 av aI aF aG aH aC y0 y1 y2 y3 y4 dH hq;obtain⟨x0,x1,x2,x3,x4,x5,x6,x7,av,aI,aF,aG,aH,aC⟩:=dm.o.dP.cells;obtain⟨y0,y1,y2,y3,y4,dH⟩:=dm.o.sh.cells;dsimp only[aP.rv,aP.cv]at y1 y3))
 go_upto_region 11 with (go_at_call 43;((with_reducible refine(HS2.o _ dm.o.below).mono ?_);rintro e w4 ⟨rfl,hq⟩;have bS:=ae (dm.o.call hq);have f5:=bS.o.dP.p8 5;have f10:=bS.o.dP.p8 10;have f4:=bS.o.dP.p8 4;have f9:=bS.o.dP.p8 9;clear x0 x1 x2 x3 x4 x5 x6 x7 av aI aF aG aH aC y0 y1 y2 y3 y4 dH hq;obtain⟨x0,x1,x2,x3,x4,x5,x6,x7,av,aI,aF,aG,aH,aC⟩:=bS.o.dP.cells))
 go_upto_region 15 with fail
 have aS:=ae ((((bS.o.put 5 (.int .i64 a1) (n':=n.kU a1 n.ref.c n.ai.r n.ai.c) rfl).put 10 (.int .i64 a2) (n':=n.kU a1 n.ref.c a2 n.ai.c) rfl).put 4 (.int .i64 b1) (n':=n.kU a1 b1 a2 n.ai.c) rfl).put 9 (.int .i64 b2) (n':=n.kU a1 b1 a2 b2) rfl);clear x0 x1 x2 x3 x4 x5 x6 x7 av aI aF aG aH aC f5 f10 f4 f9;obtain⟨w5,wh⟩:∃w5,(((w4.setCell ⟨z,5,none⟩ (.int .i64 a1)).setCell ⟨z,10,none⟩ (.int .i64 a2)).setCell ⟨z,4,none⟩ (.int .i64 b1)).setCell ⟨z,9,none⟩ (.int .i64 b2)=w5:=⟨_,rfl⟩;rw[wh]at aS ⊢;clear wh;rw[y8.o]at aS;obtain⟨x0,x1,x2,x3,x4,x5,x6,x7,av,aI,aF,aG,aH,aC⟩:=aS.o.dP.cells;cases ao
 · go_wp2_with (refine lh rfl (.tmp 4) (.tmp 95) rfl (z+2) Nd.zero oo (.slice none 0 0) (.slice none 0 0) rfl rfl aS.o.res rfl ?_;intro w7 k1 k2)
   exact bodyPost_ret (uP k1 _ _ 4 zQ rfl) rfl ⟨_,by rw[aW.o];rfl,.inr ⟨rfl,by rw[aW.o];rfl⟩,aS.o.qc k2⟩
 cases bo
 · go_wp2_with (refine lh rfl (.tmp 4) (.tmp 95) rfl (z+2) Nd.zero oo (.slice none 0 0) (.slice none 0 0) rfl rfl aS.o.res rfl ?_;intro w7 k1 k2)
   exact bodyPost_ret (uP k1 _ _ 4 zQ rfl) rfl ⟨_,by rw[aW.o];rfl,.inr ⟨rfl,by rw[aW.o];rfl⟩,aS.o.qc k2⟩
 cases r
 · cases t
   · go_wp2_with (first
      | (go_at_call 42;((with_reducible refine(JQ.o _).mono ?_);rintro e w6 ⟨rfl,hq⟩;have bU:=ae (aS.o.call hq);clear x0 x1 x2 x3 x4 x5 x6 x7 av aI aF aG aH aC hq;obtain⟨x0,x1,x2,x3,x4,x5,x6,x7,av,aI,aF,aG,aH,aC⟩:=bU.o.dP.cells))
      | (refine lh rfl (.tmp 4) (.tmp 95) rfl (z+2) Nd.zero oo (.slice none 0 0) (.slice none 0 0) rfl rfl bU.o.res rfl ?_;intro w7 k1 k2))
     exact bodyPost_ret (uP k1 _ _ 4 zQ rfl) rfl ⟨_,by rw[aW.o];rfl,.inr ⟨rfl,by rw[aW.o];rfl⟩,bU.o.qc k2⟩
   · exact absurd (vg.o rfl rfl) (by decide)
 cases t
 · go_wp2_with (first
    | (go_at_call 42;((with_reducible refine(JQ.o _).mono ?_);rintro e w6 ⟨rfl,hq⟩;have bU:=ae (aS.o.call hq);clear x0 x1 x2 x3 x4 x5 x6 x7 av aI aF aG aH aC hq;obtain⟨x0,x1,x2,x3,x4,x5,x6,x7,av,aI,aF,aG,aH,aC⟩:=bU.o.dP.cells))
    | (go_at_call 42;((with_reducible refine(DW.o _).mono ?_);rintro e w8 ⟨rfl,hq⟩;have gP:=ae (bU.o.call hq);clear x0 x1 x2 x3 x4 x5 x6 x7 av aI aF aG aH aC hq;obtain⟨x0,x1,x2,x3,x4,x5,x6,x7,av,aI,aF,aG,aH,aC⟩:=gP.o.dP.cells))
    | (refine lh rfl (.tmp 4) (.tmp 95) rfl (z+2) Nd.zero oo (.slice none 0 0) (.slice none 0 0) rfl rfl gP.o.res rfl ?_;intro w7 k1 k2))
   exact bodyPost_ret (uP k1 _ _ 4 zQ rfl) rfl ⟨_,by rw[aW.o];rfl,.inr ⟨rfl,by rw[aW.o];rfl⟩,gP.o.qc k2⟩
 · go_upto_region 17 with (first
    | (go_at_call 42;((with_reducible refine(JQ.o _).mono ?_);rintro e w6 ⟨rfl,hq⟩;have bU:=ae (aS.o.call hq);clear x0 x1 x2 x3 x4 x5 x6 x7 av aI aF aG aH aC hq;obtain⟨x0,x1,x2,x3,x4,x5,x6,x7,av,aI,aF,aG,aH,aC⟩:=bU.o.dP.cells))
    | (go_at_call 42;((with_reducible refine(DW.o _).mono ?_);rintro e w8 ⟨rfl,hq⟩;have gP:=ae (bU.o.call hq);clear x0 x1 x2 x3 x4 x5 x6 x7 av aI aF aG aH aC hq;obtain⟨x0,x1,x2,x3,x4,x5,x6,x7,av,aI,aF,aG,aH,aC⟩:=gP.o.dP.cells)))
   go_wp2_with (refine lh rfl (.tmp 4) (.tmp 96) rfl (z+2) Nd.zero N (.slice none 0 0) (.slice A m c) rfl rfl gP.o.res rfl ?_;intro w7 k1 k2)
   exact bodyPost_ret (uP k1 _ _ 4 zQ rfl) rfl ⟨_,by rw[aW.o];rfl,.inl rfl,gP.o.qc k2⟩
theorem ahD (v:Value)(c:Int)(w:World)(hv:v.oneCell'=true):Sem.run Tryz.prog (Instr.field 97 (.agg #[v,.int .i64 c]) 0) w = .ok v w:=by
 cases v <;> first|kernel_rfl|cases hv
theorem ahd (s:ByteArray)(hp0:0<s.size)(sV:(s[0].toNat:Int)=61)(w:World)(hmc:Calls Tryz.prog 51 #[.string s] w fun e w'=>e = .returned (.bool false)∧Below w.heap.size w w') :
 Calls Tryz.prog 27 #[.string s] w fun e w'=>e = .returned (.tuple #[.slice none 0 0,.bool false])∧Below w.heap.size w w':=by
 have hi0:(0:Int)<(s.size:Int):=by omega
 have hne:=qg s (by omega);have uG:s.toList.isEmpty=false:=by cases hq:s.toList with|nil=>exact absurd hq hne|cons a l=>rfl
 have LG:(s.toList == [])=false:=aA.2 hne;have HM:=ae hmc;clear hmc;go_enter Tryz.func27,Tryz.ntmps27;go_wp2_with (go_at_call 51;((with_reducible refine HM.o.mono ?_);rintro e w1 ⟨rfl,hq⟩;have H1:=ae hq;clear hq))
 go_ret2
 exact⟨rfl,H1.o⟩
theorem ahe (s p:ByteArray)(hp0:0<s.size)(sV:(s[0].toNat:Int)=61)(hr:s.extract 1 s.size=p)(ns:List Nd)(hp:gZ p (.ok ns))(w:World)(hmc:Calls Tryz.prog 51 #[.string s] w fun e w'=>e = .returned (.bool true)∧Below w.heap.size w w') :
 Calls Tryz.prog 27 #[.string s] w fun e w'=>∃g cap l,e = .returned (.tuple #[.slice (some ⟨g,0,none⟩) ns.length cap,.bool true])∧dN w' w'.heap.size (.slice (some ⟨g,0,none⟩) ns.length cap) l∧l.map Prod.fst=ns∧Below w.heap.size w w':=by
 have hi0:(0:Int)<(s.size:Int):=by omega
 have hi1:(1:Int)≤(s.size:Int):=by omega
 have hne:=qg s (by omega);have uG:s.toList.isEmpty=false:=by cases hq:s.toList with|nil=>exact absurd hq hne|cons a l=>rfl
 have LG:(s.toList == [])=false:=aA.2 hne;have RJ:=fun (g L cap:Nat)(c:Int)(w:World)=>ahD (.slice (some ⟨g,0,none⟩) L cap) c w rfl
 have HM:=ae hmc;have HA:=ae (fun w=>Vs p w ns hp);obtain⟨L,hL⟩:∃L,ns.length=L:=⟨_,rfl⟩;rw[hL]at HA ⊢;clear hmc hp hL;go_enter Tryz.func27,Tryz.ntmps27
 go_wp2_with (first
  | (go_at_call 51;((with_reducible refine HM.o.mono ?_);rintro e w1 ⟨rfl,hq⟩;have H1:=ae hq;clear hq))
  | (go_at_call 52;((with_reducible refine(HA.o _).mono ?_);rintro e w2 ⟨hb,g1,fu,l1,rfl,hm1,hs1⟩;have H2:=ae (H1.o.trans (hb.mono H1.o.size));have y5:=ae hm1;have fF:=ae hs1;clear hb hm1 hs1)))
 go_ret2
 exact⟨_,_,l1,rfl,fF.o,y5.o,H2.o⟩
theorem ahx (w:World)(t own:ByteArray)(v:Value)(hF:Calls Tryz.prog 27 #[.string t] w fun e w'=>e = .returned (.tuple #[.slice none 0 0,.bool false])∧Below w.heap.size w w') :
 Calls Tryz.prog 12 #[.string t,.string own,v] w fun e w'=>e = .returned (.string t)∧Below w.heap.size w w':=by
 have HF:=ae hF;clear hF;go_enter Tryz.func12,Tryz.ntmps12;go_wp2_with (go_at_call 27;((with_reducible refine HF.o.mono ?_);rintro e w1 ⟨rfl,hq⟩;have H1:=ae hq;clear hq))
 go_ret;exact⟨rfl,H1.o⟩
def yc(w:World)(ms:List Nd)(e:Ending)(w':World):Prop:=∃v l,e = .returned v∧dN w' w'.heap.size v l∧l.map (·.1)=ms∧Below w.heap.size w w'
theorem ahw (w:World)(t own:ByteArray)(v:Value)(ss:List Sf)(ns:List Nd)(hmv:pJ (jo own ss ns))
 (hF:Calls Tryz.prog 27 #[.string t] w fun e w'=>∃g cap l,e = .returned (.tuple #[.slice (some ⟨g,0,none⟩) ns.length cap,.bool true])∧dN w' w'.heap.size (.slice (some ⟨g,0,none⟩) ns.length cap) l∧l.map Prod.fst=ns∧Below w.heap.size w w')
 (Rm:∀(wq:World)(_:Below w.heap.size w wq)(A:Option Addr)(n cap:Nat)(l:List (Nd × Value))(_:dN wq wq.heap.size (.slice A n cap) l)(_:l.map Prod.fst=ns),Calls Tryz.prog 10 #[.slice A n cap,.string own,v] wq (yc wq (jo own ss ns))) :
 Calls Tryz.prog 12 #[.string t,.string own,v] w fun e w'=>e = .returned (.string (yK own ss ns))∧Below w.heap.size w w':=by
 have qY:=ae (fun (wq:World)(v:Value)(l:List (Nd × Value))(hl:dN wq wq.heap.size v l)(hm:l.map (·.1)=jo own ss ns)=>(show Calls Tryz.prog 7 #[v] wq fun e w'=>e = .returned (.string (strOfNums (di (jo own ss ns))))∧Below wq.heap.size wq w' from by
  have h:=hmv;rw[← hm]at h ⊢;exact Nk wq v l hl h.BL (fun p hp=>h.num p.1 (r9 hp)) (by have:=h.long;omega) h.tree))
 obtain⟨q,hq⟩:∃q,strOfNums (di (jo own ss ns))=q:=⟨_,rfl⟩;have hql:q.size≤1000000:=by rw[← hq,strOfNums_size];exact hmv.long
 rw[hq]at qY;obtain⟨L,hL⟩:∃L,ns.length=L:=⟨_,rfl⟩;rw[hL]at hF;have HF:=ae hF;have dR:=ae Rm;unfold yc at dR;have abx:¬ 9223372036854775807<1+q.size:=by omega
 have mU:=ae (show(gG++q).size=1+q.size by rw[ByteArray.size_append];rfl);have aW:=ae (show yK own ss ns=if (gG++q).size≤300 then gG++q else ⟨#[61,35,82,69,70,33]⟩from by unfold yK;rw[hq]);clear hF Rm hmv hq hL;go_enter Tryz.func12,Tryz.ntmps12
 go_upto_region 5 with (first
  | (go_at_call 27;((with_reducible refine HF.o.mono ?_);rintro e w2 ⟨g,cap,l,rfl,hs1,hm1,hq1⟩;have H2:=ae hq1;have HS2:=ae hs1;have nV:=ae hm1;clear hs1 hm1 hq1))
  | (go_at_call 10;((with_reducible refine(dR.o _ H2.o _ _ _ l HS2.o nV.o).mono ?_);rintro e w3 ⟨v3,done,rfl,hs1,hm1,hq1⟩;have H3:=ae (H2.o.trans (hq1.mono H2.o.size));have mG:=ae hs1;have uf:=ae hm1;clear hs1 hm1 hq1))
  | (go_at_call 7;((with_reducible refine(qY.o _ _ done mG.o uf.o).mono ?_);rintro e w4 ⟨rfl,hq1⟩;have H4:=ae (H3.o.trans (hq1.mono H3.o.size));clear hq1)))
 by_cases hc:(gG++q).size≤300
 · have hc1:¬ (300:Int)<1+(q.size:Int):=by rw[mU.o]at hc;omega
   have HC:=ae hc;clear hc;go_wp2_with fail
   go_ret;exact⟨by rw[aW.o,ag HC.o];rfl,H4.o⟩
 · have hc1:(300:Int)<1+(q.size:Int):=by rw[mU.o]at hc;omega
   have HC:=ae hc;clear hc;go_wp2_with fail
   go_ret;exact⟨by rw[aW.o,af HC.o];rfl,H4.o⟩
theorem aeF (own:ByteArray)(ss:List Sf)(n:Nd)(h:∀s∈ss,s.sh≠oH own n):jD own ss n=n:=by
 unfold jD;by_cases hk:¬ n.kind=5∧¬ n.kind=6
 · rw[ag hk]
 · rw[af hk]
   cases hf:yl ss (oH own n)with
   | none=>rfl
   | some s=>exact absurd (Lb hf).2 (h s (Lb hf).1)
theorem WQ (a b:ByteArray):(a.toList == b.toList)=decide (a=b):=by
 by_cases h:a=b
 · subst h;simp
 · rw[aV h]
   exact aA.2 (pg a b h)
end Go.Proofs.YtbplbjmmfgjdjaaGreatDoor
