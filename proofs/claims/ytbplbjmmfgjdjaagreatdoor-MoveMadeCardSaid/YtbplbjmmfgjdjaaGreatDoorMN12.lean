import Derived.Test.YtbplbjmmfgjdjaaGreatDoorMN11
set_option maxRecDepth 100000
set_option maxHeartbeats 64000000
namespace Go.Proofs.YtbplbjmmfgjdjaaGreatDoor
open Go.RowKit
variable {l1 l2:List Nd}{xs:List aP}{B:Nat}{n:Nd}{v:Value}{w w' w0:World}
structure x8 where
 n:Nd
 k:Value
 one:k.oneCell'=true
def GA:Enc x8 14:={ f:=fun v=>(bA v.n v.k).toList,len:=fun _=>rfl,one:=fun v u hu=>EW _ _ v.one u hu }
structure uk (w0 w:World)(v:Value)(vs:List x8):Prop where
 own:Own GA 44 w w0.heap.size v vs
 kids:∀x∈vs,Own (aJ .i64) 3 w w0.heap.size x.k x.n.kids
 dC:Below w0.heap.size w0 w
theorem uk.start(h:Below w0.heap.size w0 w):uk w0 w (.slice none 0 0) []:=⟨Own.nil _ _ _ _,fun x hx=>absurd hx (by simp),h⟩
theorem uk.next {vs:List x8}(h:uk w0 w v vs)(hb:Below w.heap.size w w'):uk w0 w' v vs :=
 ⟨h.own.below hb (aj _),fun x hx=>(h.kids x hx).below hb (aj _),h.dC.trans (hb.mono h.dC.size)⟩
theorem uk.put {v':Value}{vs:List x8}(h:uk w0 w v vs)(x:x8)(hk:Own (aJ .i64) 3 w w0.heap.size x.k x.n.kids)(ho:Own GA 44 w' w0.heap.size v' (vs++[x]))(hg:w.grownBy w' v.ownBlock):uk w0 w' v' (vs++[x]):=by
 have vU:∀ {u:Value}{us:List Int},Own (aJ .i64) 3 w w0.heap.size u us→Own (aJ .i64) 3 w' w0.heap.size u us:=fun hu=>hu.keep fun g _ hl e=>hg.block g hl (hu.Cr h.own (by decide) e)
 refine⟨ho,fun u hu => ?_,h.dC.grown hg h.dC.size (fun g e=>(h.own.lies e).1)⟩;rcases dQ.1 hu with hu|hu
 · exact vU (h.kids u hu)
 · rw[gM.1 hu];exact vU hk
theorem uk.sn {vs:List x8}(h:uk w0 w v vs):dN w w.heap.size v (vs.map fun x=>(x.n,x.k)):=by
 obtain⟨A,c,h1,h2,h3,h4⟩:=h.own.se;refine⟨⟨A,c,by rw[eF];exact h1,h4.imp (fun e=>by rw[e];rfl) ?_⟩,fun p hp => ?_⟩
 · rintro⟨pb,po,e1,e2,e3⟩
   refine⟨pb,po,e1,e2,fun i m k hi j hj => ?_⟩;rw[gY]at hi;obtain⟨x,hx,hxe⟩:=Option.map_eq_some_iff.1 hi;injection hxe with hx1 hx2;subst hx1;subst hx2;have hj2:(bA x.n x.k).toList[j]? = some ((bA x.n x.k).toList[j]'hj):=cZ _;rw[hj2,show po+i*14+j=po+(i*14+j)by omega];exact e3 _ _ (by rw[GA.at vs i j x hx hj];exact hj2)
 · obtain⟨x,hx,rfl⟩:=List.mem_map.1 hp
   exact(h.kids x hx).V8
theorem aiM {xs:List Int}(h:ic w B v xs):Src Tryz.prog 1 34 v xs.length ((aJ .i64).all xs) w:=by
 obtain⟨A,cap,h1,h2,h3,h4⟩:=h.se;subst h1;rcases h4 with rfl|⟨pb,po,rfl,hlt,hc⟩
 · cases A with
   | none=>exact Src.ofNil w Tryz.underlying34 cap
   | some ad=>exact Src.ofSlice w Tryz.underlying34 ad 0 cap [] rfl (fun j u hu=>by simp at hu) (fun u hu=>by cases hu)
 · exact Src.ofSlice w Tryz.underlying34 ⟨pb,po,none⟩ xs.length cap _ (by rw[Enc.mK,Nat.mul_one]) (fun j u hu=>by rw[Addr.add_mid];exact hc j u hu) ((aJ .i64).xm xs)
theorem ahj (w:World)(n:Nd)(A:Option Addr)(m c:Nat)(x:aP)(hx:nJ w w.heap.size x)(ho:mV x.s)(hn:zi n)(hk:n.kind=5∨n.kind=6)(hr:n.kind=6→Aw n) :
 Calls Tryz.prog 24 #[.agg (bA n (.slice A m c)),.agg (iQ x)] w (Ed w n x.s (.slice A m c)):=by
 cases hg:x.s.gone
 · rcases hk with hk|hk
   · exact aeJ w n A m c x hx ho hn hg hk
   · exact aeK w n A m c x hx ho hn hg hk (hr hk)
 · exact aeH w n A m c x hg
theorem aeI (s:Sf)(h0:n.kids=[]):(p9 n s).kids=[]:=by
 unfold p9;split
 · rename_i ha;rw[PR ha];exact h0
 · rfl
theorem aeG {s:Sf}{K aY:Value}(h0:n.kids=[])(h:K=aY∨(K = .slice none 0 0∧p9 n s=oo))(hk:Own (aJ .i64) 3 w B aY n.kids):Own (aJ .i64) 3 w B K (p9 n s).kids:=by
 rw[aeI s h0];rcases h with rfl|⟨rfl,_⟩
 · rwa[h0]at hk
 · exact Own.nil _ _ _ _
theorem afO {z lo:Nat}{k:Value}{xs:List Int}(h:Own (aJ .i64) 3 w lo v xs)(hn:az w z n k)(hg:w.grownBy w' (some z)):Own (aJ .i64) 3 w' lo v xs :=
 h.keep fun g _ hl e=>hg.block g hl fun q=>by
  injection q with q;subst q;obtain⟨_,cur,h3⟩:=h.lies e;unfold az at hn;rw[hn]at h3;injection h3 with h3;injection h3 with _ h3 _;exact absurd h3 (by decide)
theorem aeC {own:ByteArray}{ss:List Sf}(h:¬ (n.kind=5∨n.kind=6)):jD own ss n=n:=by
 unfold jD;rw[ag (by omega)]
theorem aeD {own:ByteArray}(h:∀(j:Nat)(x:aP),j<xs.length→xs[j]? = some x→x.s.sh≠oH own n):jD own (eH xs) n=n :=
 aeF own _ n fun s hs=>by
  obtain⟨x,hx,rfl⟩:=List.mem_map.1 hs;obtain⟨j,hj,rfl⟩:=List.getElem_of_mem hx;exact h j _ hj (cZ hj)
theorem QR (k:ByteArray):∀(xs:List aP)(i:Nat)(x:aP),xs[i]? = some x→x.s.sh=k→(∀(j:Nat)(y:aP),j<i→xs[j]? = some y→y.s.sh≠k)→yl (eH xs) k=some x.s
 | [],i,x,h,_,_=>by simp at h
 | y :: ys,0,x,h,e,_=>by
   have h:y=x:=by simpa using h
   subst h;unfold yl eH;rw[jr,List.find?_cons,aR e]
 | y :: ys,i+1,x,h,e,hb=>by
   have h0:=hb 0 y (by omega) rfl;have ih:=QR k ys i x (by simpa using h) e fun j z hj hz=>hb (j+1) z (by omega) (by simpa using hz)
   unfold yl eH at ih ⊢;rw[jr,List.find?_cons,aV h0];exact ih
theorem aeB {own:ByteArray}(hk:n.kind=5∨n.kind=6){i:Nat}{x:aP}(hx:xs[i]? = some x)(he:x.s.sh=oH own n)(hb:∀(j:Nat)(y:aP),j<i→xs[j]? = some y→y.s.sh≠oH own n):jD own (eH xs) n=p9 n x.s:=by
 unfold jD p9;rw[af (by omega),QR _ xs i x hx he hb]
theorem ah2 {A:Option Addr}{m c:Nat}(h:mW w B (.slice A m c) xs){i:Nat}{x:aP}(hx:xs[i]? = some x) :
 ∃pb po,A=some ⟨pb,po,none⟩∧pb<B∧w.cell? ⟨pb,po+i*6,none⟩=some (.string x.s.sh)∧w.cell? ⟨pb,po+i*6+1,none⟩=some (.slice x.ra x.s.rx.length x.rc)∧w.cell? ⟨pb,po+i*6+2,none⟩=some (.int .i64 x.s.rn)∧w.cell? ⟨pb,po+i*6+3,none⟩=some (.slice x.ca x.s.cx.length x.cc)∧w.cell? ⟨pb,po+i*6+4,none⟩=some (.int .i64 x.s.cn)∧w.cell? ⟨pb,po+i*6+5,none⟩=some (.bool x.s.gone):=by
 obtain⟨pb,po,h1,h2,h3⟩:=ku.at h.1 hx;refine⟨pb,po,h1,h2,h3 0 _ rfl, ?_, ?_, ?_, ?_, ?_⟩
 · rw[Nat.add_assoc];exact h3 1 _ rfl
 · rw[Nat.add_assoc];exact h3 2 _ rfl
 · rw[Nat.add_assoc];exact h3 3 _ rfl
 · rw[Nat.add_assoc];exact h3 4 _ rfl
 · rw[Nat.add_assoc];exact h3 5 _ rfl
theorem VF (w:World)(own:ByteArray)(xs:List aP)(A B:Option Addr)(n cap m c:Nat)(l:List (Nd × Value))(hS:mW w w.heap.size (.slice B m c) xs)(hm:m≤1000000)(hO:∀x∈xs,mV x.s)(hs:dN w w.heap.size (.slice A n cap) l)(hz:SZ l)(ht:dA (l.map (·.1))=true) :
 Calls Tryz.prog 10 #[.slice A n cap,.string own,.slice B m c] w (yc w (jo own (eH xs) (l.map (·.1)))):=by
 have hl:l.length=n:=by obtain⟨⟨A',c',e,_⟩,_⟩:=hs;injection e with _ e _;exact e.symm
 have hn:n≤1000:=by have:=hz.1;omega
 have HT:=ae (Vp w _ l hs hz ht);have HI:=ae (Un ht hz);have tY:=ae (fun (q:Nd)(hq:q∈l.map (·.1))=>Oi _ [] 0 ht q hq);have HS:=ae hs;have HX:=ae hS;have HO:=ae hO;have HL:=ae hl;have Pv:=ae hS.1.len.1;obtain⟨eb,jW,df⟩:=Elem.dP;have jw:=ae df;clear hS hO hs hz ht hl df;go_enter Tryz.func10,Tryz.ntmps10;go_upto_region 5 with (go_at_call 17;((with_reducible refine HT.o.mono ?_);rintro e w2 ⟨rfl,hq⟩;have H2:=ae hq;clear hq))
 go_loopw [7,8] (fun ov iv wr=>∃(i:Nat)(A1:Option Addr)(c1:Nat)(done:List x8),i≤n∧ov = .slice A1 i c1∧iv = .int .i64 (i:Int)∧Hid (done.length=i)∧Hid (done.map x8.n=(jo own (eH xs) (l.map (·.1))).take i)∧Hid (uk w wr (.slice A1 i c1) done))
  (fun _ iv _=>n - (intOf iv).toNat)
 case atStart=>exact⟨0,none,0,[],ek _,rfl,rfl,ae rfl,ae rfl,ae (uk.start H2.o)⟩
 case round =>
  clear HT H2;obtain⟨i,A1,c1,done,hin,rfl,rfl,HD,DY,HR⟩:=hrel;by_cases hlt:i<n
  · have hii : (i:Int)<(n:Int):=by omega
    have hi0:(0:Int)≤(i:Int):=by omega
    obtain⟨⟨q,k⟩,hq⟩:∃p,l[i]? = some p:=⟨_,cZ (by rw[HL.o];exact hlt)⟩;obtain⟨pb,po,rfl,hpb,hrg⟩:=HS.o.range hq;have bW:=fe hq;have hwr:w.heap.size≤wr.heap.size:=HR.o.dC.size;have J8:=ae (show wr.rangeAt pb (po+i*14) (bA q k).toList from fun j v hv=>(HR.o.dC.cell (p:=⟨pb,_,none⟩) hpb).trans (hrg j v hv));have hki:=HS.o.2 _ bW;obtain⟨A2,c2,kI,_⟩:=hki;have kI:k = .slice A2 q.kids.length c2:=kI;subst kI;have F5:=ae (HI.o.sm _ bW);have hL6:q.kids.length≤1000000:=HI.o.kids _ bW;have fC:=ae (tY.o q (r9 bW));have wP:=ae (show ic wr wr.heap.size (.slice A2 q.kids.length c2) q.kids from((HS.o.2 _ bW).below HR.o.dC (aj _)).mono hwr)
    have aT:=ae (show(jo own (eH xs) (l.map (·.1))).take (i+1)=(jo own (eH xs) (l.map (·.1))).take i++[jD own (eH xs) q]from by
     rw[List.take_add_one];unfold jo;rw[gY,gY,hq];rfl)
    clear hrg bW hq
    go_upto_region 8 with (first
     | (refine wpList_load_mid rfl 44 (.tmp 23) rfl pb (po+i*14) rfl (bA q (.slice A2 q.kids.length c2)).toList _ J8.o Tryz.underlying44 rfl zJ ?_)
     | (refine lh rfl (.tmp 9) (.tmp 24) rfl wr.heap.size Nd.zero q (.slice none 0 0) (.slice A2 q.kids.length c2) rfl rfl (az.new wr Nd.zero (.slice none 0 0)) rfl ?_;intro w4 k1 k2))
    have qo:=ae k1;have cu:=ae (zo ((ak wr.heap.size wr).alloc (aj _) (.cells (bA Nd.zero (.slice none 0 0)) 44)) k2 (aj _) (by simp));clear k1 k2;simp only[Act.put];obtain⟨z,hz⟩:∃z,wr.heap.size=z:=⟨_,rfl⟩;have eY:=ae hz;rw[hz]at qo ⊢;have D5:=ae (UH w4);have ma:=ae ((ak w4.heap.size w4).alloc (aj _) (.cells #[] 3));have Jw:=ae (cu.o.trans (ma.o.mono cu.o.size));have Cj:=ae (show Src Tryz.prog 1 34 (.slice A2 q.kids.length c2) q.kids.length ((aJ .i64).all q.kids) (w4.alloc (.cells #[] 3))from aiM ((wP.o.below Jw.o (aj _)).mono Jw.o.size));have EK:z<w4.heap.size:=qo.o.lt;have aC:(w4.alloc (.cells #[] 3)).cell? ⟨z,13,none⟩=some (.slice A2 q.kids.length c2):=(qo.o.tu ma.o).cells.2.2.2.2.2.2.2.2.2.2.2.2.2;clear hz;go_upto_region 9 with (at_builtin;refine Jk Elem.pl (aJ .i64) rfl (.tmp 25) (.tmp 27) rfl w4.heap.size _ [] rfl D5.o _ q.kids.length q.kids rfl rfl Cj.o ?_ ?_ ?_ ?_;(rw[dX];omega);(rw[dX];unfold maxLen;omega);exact ma.o.size;intro v5 w5 h1 h2;obtain⟨A5,c5,hv5⟩:=tC h1;simp only[gX]at hv5;subst hv5;have mQ:=ae (show Own (aJ .i64) 3 w5 w4.heap.size (.slice A5 q.kids.length c5) q.kids from by rw[gX]at h1;exact h1);have eX:=ae (ma.o.trans h2);have f13:=(qo.o.tu (ma.o.trans h2)).p8 13;have y13:w5.cell? ⟨z,13,none⟩=some (.slice A2 q.kids.length c2):=(qo.o.tu (ma.o.trans h2)).cells.2.2.2.2.2.2.2.2.2.2.2.2.2;clear h1 h2 aC)
    have ug:=ae ((qo.o.tu eX.o).set 13 (.slice A5 q.kids.length c5) (n':=q) (k' := .slice A5 q.kids.length c5) rfl);have iR:=ae (show Below wr.heap.size wr (w5.setCell ⟨z,13,none⟩ (.slice A5 q.kids.length c5))from(cu.o.trans (eX.o.mono cu.o.size)).setCell (by rw[eY.o];exact aj _) _);have nU:=ae (show Own (aJ .i64) 3 (w5.setCell ⟨z,13,none⟩ (.slice A5 q.kids.length c5)) w.heap.size (.slice A5 q.kids.length c5) q.kids from(mQ.o.keep fun g h1 h2 _=>gy _ _ _ _ (by show g≠z;omega)).mono (by have:=cu.o.size;omega));obtain⟨w6,nM⟩:∃w6,w5.setCell ⟨z,13,none⟩ (.slice A5 q.kids.length c5)=w6:=⟨_,rfl⟩;rw[nM]at ug iR nU ⊢;clear nM f13 y13 mQ eX Cj D5 ma Jw qo cu EK;obtain⟨x0,x1,x2,x3,x4,x5,x6,x7,av,aI,aF,aG,aH,aC⟩:=ug.o.cells;obtain⟨W,hW⟩:∃W,oH own q=W:=⟨_,rfl⟩;have Kv:=ae hW;go_upto_if 34 with fail
    go_cut [10] (fun nv wx=>nv = .string W∧w6=wx)
    case first =>
     by_cases e:q.ref.sh=⟨#[]⟩
     · have e1:W=own:=by rw[← hW];unfold oH;rw[ag e]
       have Af:=ae e1;have e2:q.ref.sh.toList=[]:=by rw[e,qH]
       have e3:q.ref.sh.toList.isEmpty=true:=by rw[e2];rfl
       have e4:(q.ref.sh.toList == [])=true:=by rw[e2];rfl
       clear hW e e1;go_wp2_with fail
       all_goals first
        | exact absurd (show q.ref.sh.toList.isEmpty=false by assumption) (by rw[e3];decide)
        | (go_meet;exact⟨by rw[Af.o],rfl⟩)
     · have e1:W=q.ref.sh:=by rw[← hW];unfold oH;rw[af e]
       have Af:=ae e1;have e2:¬ q.ref.sh.toList=[]:=qg _ fun h=>e (P7 h)
       have e3:q.ref.sh.toList.isEmpty=false:=by cases h:q.ref.sh.toList with|nil=>exact absurd h e2|cons a l=>rfl
       have e4:(q.ref.sh.toList == [])=false:=aA.2 e2;clear hW e e1;go_wp2_with fail
       all_goals first
        | exact absurd (show q.ref.sh.toList.isEmpty=true by assumption) (by rw[e3];decide)
        | (go_meet;exact⟨by rw[Af.o],rfl⟩)
    case rest =>
    obtain⟨rfl,rfl⟩:=hcut;clear hW;go_upto_block 2 with fail
    go_cut [11]from 36 to 64 (fun _ wx=>∃(dn:World)(K:Value),dn=wx∧K.oneCell'=true∧Hid (az dn z (jD own (eH xs) q) K)∧Hid (Own (aJ .i64) 3 dn w.heap.size K (jD own (eH xs) q).kids)∧Hid (Below wr.heap.size wr dn))
    case first =>
     go_wp2_with fail
     go_loopw [11] (fun aY wx=>∃k:Nat,k≤m∧aY = .int .i64 (k:Int)∧w6=wx∧Hid (∀(j:Nat)(y:aP),j<k→xs[j]? = some y→y.s.sh≠W))
      (fun aY _=>m - (intOf aY).toNat)
     case atStart=>exact⟨0,ek _,rfl,rfl,ae (fun j y h=>by omega)⟩
     case round =>
      obtain⟨k,dL,rfl,rfl,HB⟩:=hrel;by_cases hk:k<m
      · have hkk:(k:Int)<(m:Int):=by omega
        have hk0:(0:Int)≤(k:Int):=by omega
        obtain⟨EP,hR⟩:∃b,decide (q.kind=5∨q.kind=6)=b:=⟨_,rfl⟩;have HRR:=ae hR;go_upto_region 13 with fail
        go_cut [49] (fun cv wx=>cv = .bool EP∧w6=wx)
        case first =>
         by_cases h5:q.kind=5
         · have b5:(q.kind == (5:Int))=true:=bB.2 h5
           have hR2:EP=true:=by rw[← hR];exact aR (.inl h5)
           subst hR2;clear hR h5;go_wp2_with fail
           go_meet;exact⟨rfl,rfl⟩
         · have b5:(q.kind == (5:Int))=false:=aA.2 h5
           by_cases h6:q.kind=6
           · have b6:(q.kind == (6:Int))=true:=bB.2 h6
             have hR2:EP=true:=by rw[← hR];exact aR (.inr h6)
             subst hR2;clear hR h5 h6;go_wp2_with fail
             go_meet;exact⟨rfl,rfl⟩
           · have b6:(q.kind == (6:Int))=false:=aA.2 h6
             have hR2:EP=false:=by rw[← hR];exact aV (by omega)
             subst hR2;clear hR h5 h6;go_wp2_with fail
             go_meet;exact⟨rfl,rfl⟩
        case rest =>
        obtain⟨rfl,rfl⟩:=hcut;clear hR;cases EP with
        | false =>
          have hnk:jD own (eH xs) q=q:=aeC (of_decide_eq_false HRR.o);go_wp2_with fail
          go_meet
          case rel=>exact⟨_,_,rfl,rfl,ae (by rw[hnk];exact ug.o),ae (by rw[hnk];exact nU.o),iR⟩
        | true =>
          have hkd:q.kind=5∨q.kind=6:=of_decide_eq_true HRR.o;have mf:=ae hkd;have rD:q.kids=[]:=Ig fC.o (by omega) (by omega);have Ak:=ae rD;have Yk:=ae (fun h6=>Nf fC.o h6);obtain⟨x,hx⟩:∃x,xs[k]? = some x:=⟨_,cZ (by rw[Pv.o];exact hk)⟩;have F9:=ae hx;have hb0:Below w.heap.size w w6:=HR.o.dC.trans (iR.o.mono hwr);obtain⟨sb,so,rfl,hsb,y0,y1,y2,y3,y4,dH⟩:=ah2 (HX.o.below hb0 (aj _)) hx;have YC:=ae (show nJ w6 w6.heap.size x from(((HX.o.2 x (fe hx)).below hb0 (aj _)).mono hb0.size));have X8:=ae (HO.o x (fe hx));clear hkd rD hx hb0;by_cases he:x.s.sh=W
          · have hq1:(x.s.sh.toList == W.toList)=true:=by rw[WQ];exact aR he
            have hq2:x.s.sh.toList=W.toList:=by rw[he]
            have aW:=ae (show jD own (eH xs) q=p9 q x.s from aeB mf.o F9.o (he.trans Kv.o.symm) (fun j y hj hy=>by rw[Kv.o];exact HB.o j y hj hy));have FV:=ae (show ∀wq:World,Below w6.heap.size w6 wq→Calls Tryz.prog 24 #[.agg #[.int .i64 q.kind,.int .i64 q.num,.string q.text,.string q.ref.sh,.int .i64 q.ref.c,.int .i64 q.ref.r,.bool q.ref.ac,.bool q.ref.ar,.string q.ai.sh,.int .i64 q.ai.c,.int .i64 q.ai.r,.bool q.ai.ac,.bool q.ai.ar,.slice A5 q.kids.length c5],.agg #[.string x.s.sh,.slice x.ra x.s.rx.length x.rc,.int .i64 x.s.rn,.slice x.ca x.s.cx.length x.cc,.int .i64 x.s.cn,.bool x.s.gone]] wq (Ed wq q x.s (.slice A5 q.kids.length c5))from fun wq hq=>ahj wq q A5 q.kids.length c5 x (YC.o.lift hq) X8.o F5.o mf.o Yk.o);clear he;go_upto_region 16 with fail
            have iT:=ae (Below.drew (ak w6.heap.size w6));have LY:sb<w6.heap.size:=eB hsb (bN hwr iR.o.size);have acw:sb≠z:=by have h1:=eY.o;omega
            have JO:=ae (fun (wq:World)(hh:wq.heap[sb]? = w6.heap[sb]?)=>(show(fun wq=>wq.cell? ⟨sb,so+k*6,none⟩=some (.string x.s.sh)∧wq.cell? ⟨sb,so+k*6+1,none⟩=some (.slice x.ra x.s.rx.length x.rc)∧wq.cell? ⟨sb,so+k*6+2,none⟩=some (.int .i64 x.s.rn)∧wq.cell? ⟨sb,so+k*6+3,none⟩=some (.slice x.ca x.s.cx.length x.cc)∧wq.cell? ⟨sb,so+k*6+4,none⟩=some (.int .i64 x.s.cn)∧wq.cell? ⟨sb,so+k*6+5,none⟩=some (.bool x.s.gone)) wq from
             have hc:=fun o=>gK (w:=w6) (w':=wq) (a:=⟨sb,o,none⟩) hh
             ⟨(hc _).trans y0,(hc _).trans y1,(hc _).trans y2,(hc _).trans y3,(hc _).trans y4,(hc _).trans dH⟩))
            have cK:=JO.o w6.drew rfl;refine wp_region_held_drew (S:=(fun wq=>wq.cell? ⟨sb,so+k*6,none⟩=some (.string x.s.sh)∧wq.cell? ⟨sb,so+k*6+1,none⟩=some (.slice x.ra x.s.rx.length x.rc)∧wq.cell? ⟨sb,so+k*6+2,none⟩=some (.int .i64 x.s.rn)∧wq.cell? ⟨sb,so+k*6+3,none⟩=some (.slice x.ca x.s.cx.length x.cc)∧wq.cell? ⟨sb,so+k*6+4,none⟩=some (.int .i64 x.s.cn)∧wq.cell? ⟨sb,so+k*6+5,none⟩=some (.bool x.s.gone))) (by kernel_rfl) cK (fun _ => ?_);show wpAnyH _ _ _ _ _ 7 #[false,false,false,false,false,false,false] _ _;refine hT 1 cK ?_;refine hT 2 cK ?_;refine hT 3 cK ?_;refine hT 4 cK ?_ (hy:=by(intro ig hSw;obtain⟨z0,z1,z2,z3,z4,z5⟩:=hSw;go_simp;try(with_reducible rfl)));refine hO 0 (fun K hK => ?_);go_simp;refine hK.o _ _ cK ?_;clear hK K;simp only[Act.put,sT,fV,fU];refine hO 5 (fun K hK => ?_);go_simp;go_at_call 24;(with_reducible refine(FV.o _ iT.o).mono ?_);rintro e w8 ⟨K8,rfl,hor,hq⟩;dsimp only;have xI:=ae (iT.o.trans (hq.mono iT.o.size));have O3:=ae (ug.o.tu xI.o);have OV:=ae (show K8.oneCell'=true from by rcases hor with rfl|⟨rfl,_⟩ <;> rfl);have X7:=ae hor;clear hor hq;refine hK.o _ _ (JO.o w8 (xI.o.block sb LY)) ?_;clear hK K;simp only[Act.put,sT,fV,fU];refine hO 6 (fun K hK => ?_);refine Jl (.tmp 9) (.tmp 64) rfl z q (p9 q x.s) (.slice A5 q.kids.length c5) K8 rfl rfl O3.o OV.o ?_;intro iG k1 k2;have mD:=ae k1;have fB:=ae k2;refine hK.o _ _ (JO.o iG ((k2.block sb (eB LY xI.o.size) (fun e=>acw (dM e))).trans (xI.o.block sb LY))) ?_;clear hK K k1 k2;simp only[Act.put];refine wpAnyH_done (by kernel_rfl) ?_ _;go_wp2_with fail
            go_meet;have ho8:=aeG Ak.o X7.o (nU.o.below xI.o (aj _));have hb9:Below wr.heap.size wr iG:=zo (iR.o.trans (xI.o.mono iR.o.size)) fB.o (by rw[eY.o];exact aj _) (bN iR.o.size xI.o.size);refine⟨iG,K8,rfl,OV.o,ae ?_,ae ?_,ae hb9⟩
            · rw[aW.o];exact mD.o
            · rw[aW.o];exact afO ho8 O3.o fB.o
          · have hq1:(x.s.sh.toList == W.toList)=false:=by rw[WQ];exact aV he
            have hq2:¬ x.s.sh.toList=W.toList:=pg _ _ he
            have HB1:=ae (show ∀(j:Nat)(y:aP),j<k+1→xs[j]? = some y→y.s.sh≠W from fun j y hj hy=>by
             by_cases hji:j=k
             · subst hji
               have h:=F9.o;rw[hy]at h;injection h with h;subst h;exact he
             · exact HB.o j y (by omega) hy)
            clear he;go_wp2_with fail
            go_roundw
            case rel=>exact⟨k+1,by omega,by go_num,by first|rfl|trivial,HB1⟩
            case measure=>simp[intOf];omega
      · have hkk:¬ (k:Int)<(m:Int):=by omega
        have hnk:jD own (eH xs) q=q:=aeD fun j y hj hy=>by rw[Kv.o];exact HB.o j y (by rw[Pv.o]at hj;omega) hy
        go_wp2_with fail
        go_meet
        case rel=>exact⟨_,_,rfl,rfl,ae (by rw[hnk];exact ug.o),ae (by rw[hnk];exact nU.o),iR⟩
    case rest =>
    obtain⟨w7,K,rfl,hK1,Ce,OU,Ae⟩:=hcut;obtain⟨N,hN⟩:∃N,jD own (eH xs) q=N:=⟨_,rfl⟩;rw[hN]at Ce OU aT;have jH:=ae hK1;have Yj:=ae (HR.o.next Ae.o);clear x0 x1 x2 x3 x4 x5 x6 x7 av aI aF aG aH aC hN hK1 iR ug nU;obtain⟨x0,x1,x2,x3,x4,x5,x6,x7,av,aI,aF,aG,aH,aC⟩:=Ce.o.cells;have BZ:=ae (show Below w7.heap.size w7 (w7.alloc (.cells #[.int .i64 N.kind,.int .i64 N.num,.string N.text,.string N.ref.sh,.int .i64 N.ref.c,.int .i64 N.ref.r,.bool N.ref.ac,.bool N.ref.ar,.string N.ai.sh,.int .i64 N.ai.c,.int .i64 N.ai.r,.bool N.ai.ac,.bool N.ai.ar,K] 44))from Below.alloc (ak _ _) (aj _) _);have J7:=ae (Yj.o.next BZ.o);have hdl:=HD.o;go_wp2_with (at_builtin;refine xG jw.o GA rfl (.tmp 65) (.tmp 67) rfl w.heap.size (.slice A1 i c1) done rfl J7.o.own ⟨w7.heap.size,0,none⟩ 1 1 [⟨N,K,jH.o⟩] rfl rfl ?_ ?_ ?_ ?_ ?_;exact gD _ _ _ rfl;(exact bN (Nat.mul_le_mul_left _ jW) (by omega));(unfold maxLen;omega);(have h1:=J7.o.dC.size;exact h1);intro v8 w8 h1 h2 _;obtain⟨Jo,c8,EJ⟩:=tC h1;simp only[ax,fo,HD.o]at EJ;subst EJ;have sM:=ae (J7.o.put ⟨N,K,jH.o⟩ (OU.o.below BZ.o (aj _)) h1 h2);clear h1 h2)
    go_roundw
    case rel=>exact⟨i+1,Jo,c8,done++[⟨N,K,jH.o⟩],by omega,rfl,by go_num,ae (by rw[ax,HD.o];rfl),ae (by rw[iL,DY.o,aT.o];rfl),sM⟩
    case measure=>simp[intOf];omega
  · have hii:¬ (i:Int)<(n:Int):=by omega
    have Ez:i=n:=by omega
    subst Ez;go_wp2_with fail
    go_ret;exact⟨_,_,rfl,HR.o.sn,by rw[List.map_map];show done.map x8.n=_;rw[DY.o];exact mP (by rw[H7,eF,HL.o];exact aj _),HR.o.dC⟩
def zx:Sf:=⟨⟨#[65]⟩,false,(mZ 3 1).1,(mZ 3 1).2,kL (jg 3),(jg 3:Int)⟩
theorem aaH:mV zx:=⟨⟨by decide +kernel,by decide +kernel,by decide +kernel,Fh _ _ _ (by decide +kernel)⟩,⟨by decide +kernel,by decide +kernel,by decide +kernel,Fh _ _ _ (by decide +kernel)⟩⟩
theorem ah1 (w:World)(x:aP)(h:nJ w w.heap.size x):mW (w.alloc (.cells (iQ x) 40)) (w.heap.size+1) (.slice (some ⟨w.heap.size,0,none⟩) 1 1) [x]:=by
 have hb:Below w.heap.size w (w.alloc (.cells (iQ x) 40)):=Below.alloc (ak _ _) (aj _) _;refine⟨⟨_,1,rfl,aj 1,by decide,.inr ⟨w.heap.size,0,rfl,by omega,fun j u hj => ?_⟩⟩,fun y hy => ?_⟩
 · have e:Cw.all [x]=(iQ x).toList:=by simp[Enc.all,Cw]
   rw[e]at hj;rw[Nat.zero_add];rw[World.cell?_alloc_new];simpa using hj
 · rw[gM.1 hy]
   exact(h.below hb (aj _)).mono (by omega)
def MI (l out own:List Int)(ss:List Sf):Bool:=match gT l with
 | none=>false
 | some ts=>match j4 200 ts with
   | some (.ok ns)=>decide (di ns=l)&&decide (di (jo (strOfNums own) ss ns)=out)
   | _=>false
theorem aeU:MI [65,50] [65,51] [65] [zx]=true:=by decide +kernel
theorem aeT (s own:ByteArray)(h:s.size≤300){l out o:List Int}{ss:List Sf}(hl:sb s=l)(ho:strOfNums o=own)(hs:MI l out o ss=true):∃ns,gZ s (.ok ns)∧di ns=l∧di (jo own ss ns)=out:=by
 subst hl;subst ho;unfold MI at hs;split at hs
 · cases hs
 · rename_i ts hl
   split at hs
   · rename_i ns hp
     rw[dJ,aQ,aQ]at hs;exact⟨ns,.inr (.inr ⟨h,ts,200,hl,hp⟩),hs.1,hs.2⟩
   · cases hs
theorem aaI:∃ns,gZ ⟨#[65,50]⟩ (.ok ns)∧strOfNums (di ns)=⟨#[65,50]⟩∧yK ⟨#[65]⟩ [zx] ns=⟨#[61,65,51]⟩:=by
 obtain⟨ns,h1,h2,h3⟩:=aeT ⟨#[65,50]⟩ ⟨#[65]⟩ (by decide) (by decide:sb ⟨#[65,50]⟩=[65,50]) (by decide +kernel:strOfNums [65]=⟨#[65]⟩) aeU;refine⟨ns,h1,by rw[h2];decide +kernel, ?_⟩;unfold yK;rw[h3];decide +kernel
theorem ajc (w:World)(hx:oN w)(x:aP)(A:Option Addr)(c:Nat)(hv:mW w w.heap.size (.slice A 1 c) [x])(hs:x.s=zx) :
 Calls Tryz.prog 11 #[.string ⟨#[61,65,50]⟩,.string ⟨#[65]⟩,.slice A 1 c] w fun e w'=>e = .returned (.string ⟨#[61,65,51]⟩)∧Below w.heap.size w w':=by
 obtain⟨ns,h1,h2,h3⟩:=aaI;have:=Ui w ⟨#[61,65,50]⟩ ⟨#[65,50]⟩ ⟨#[65]⟩ [x] A 1 c hx hv (by decide) (fun y hy=>by rw[gM.1 hy,hs];exact aaH) (by decide) (by decide) (by decide) (by decide +kernel) (by decide +kernel) ns h1 h2;rwa[show eH [x]=[zx]by unfold eH;rw[jr,hs];rfl,h3]at this
theorem ajd (w:World)(hx:oN w)(D D2:Option Addr)(d d2:Nat)(h1:IR w w.heap.size D 3 d (mZ 3 1).1)(h2:IR w w.heap.size D2 3 d2 (kL (jg 3))) :
 Calls Tryz.prog 11 #[.string ⟨#[61,65,50]⟩,.string ⟨#[65]⟩,.slice (some ⟨w.heap.size,0,none⟩) 1 1] (w.alloc (.cells #[.string ⟨#[65]⟩,.slice D 3 d,.int .i64 (mZ 3 1).2,.slice D2 3 d2,.int .i64 (jg 3:Int),.bool false] 40)) fun e w'=>e = .returned (.string ⟨#[61,65,51]⟩)∧Below w.heap.size w w':=by
 have hs:=ah1 w ⟨zx,D,d,D2,d2,by decide⟩ ⟨h1,h2⟩;have hb:Below w.heap.size w (w.alloc (.cells (iQ ⟨zx,D,d,D2,d2,by decide⟩) 40)):=Below.alloc (ak _ _) (aj _) _;have:=ajc _ (hx.below hb) ⟨zx,D,d,D2,d2,by decide⟩ _ _ (hs.mono (by rw[lQ];exact aj _)) rfl;exact this.mono fun e w' h=>⟨h.1,hb.trans (h.2.mono hb.size)⟩
theorem P5 (w:World)(hx:oN w) :
 Calls Tryz.prog 4 #[] w fun e w'=>e = .returned (.bool true)∧Below w.heap.size w w':=by
 have HI:=ae ((VC w 3 1).mono fun e w1 h=>Vj (n:=3) h rfl);have YE:=ae (fun (w1:World)=>(NC w1 3).mono fun e w2 h=>Vj (n:=3) h rfl);have HT:=ae (fun (wq:World)(hq:Below w.heap.size w wq)=>ajd wq (hx.below hq));clear hx;go_enter Tryz.func4,Tryz.ntmps4
 go_wp2_with (first
  | (go_at_call 13;((with_reducible refine HI.o.mono ?_);rintro e w1 ⟨D,d,rfl,hr,hq⟩;have H1:=ae hq;have HR1:=ae hr;clear hq hr))
  | (go_at_call 14;((with_reducible refine(YE.o _).mono ?_);rintro e w2 ⟨D2,d2,rfl,hr,hq⟩;have H2:=ae hq;have HR2:=ae hr;clear hq hr))
  | (go_at_call 11;((with_reducible refine(HT.o _ (H1.o.trans (H2.o.mono H1.o.size)) _ _ _ _ ((HR1.o.below H2.o (aj _)).mono H2.o.size) HR2.o).mono ?_);rintro e w4 ⟨rfl,hq⟩;have H4:=ae ((H1.o.trans (H2.o.mono H1.o.size)).trans (hq.mono (H1.o.trans (H2.o.mono H1.o.size)).size));clear hq)))
 go_ret;exact⟨rfl,H4.o⟩
theorem agA (w:World)(B:Nat)(v1 v2:Value)(xs ys:List Int)(h1:ic w B v1 xs)(h2:ic w B v2 ys):Calls Tryz.prog 19 #[v1,v2] w fun e w'=>e = .returned (.bool (decide (xs=ys)))∧Below w.heap.size w w':=by
 obtain⟨A1,fu,rfl,hc1,hm1,a1⟩:=h1;obtain⟨A2,jU,rfl,hc2,hm2,a2⟩:=h2;unfold maxLen at hm1 hm2;obtain⟨n1,hn1⟩:∃n1,xs.length=n1:=⟨_,rfl⟩;obtain⟨n2,hn2⟩:∃n2,ys.length=n2:=⟨_,rfl⟩;rw[hn1]at hc1 ⊢;rw[hn2]at hc2 ⊢;by_cases hl:n1=n2
 · subst hl
   have HA1:=ae a1;have HA2:=ae a2;have dK:=ae hn1;have bV:=ae hn2;clear a1 a2 hn1 hn2;go_enter Tryz.func19,Tryz.ntmps19;go_upto_region 4 with (fail)
   go_loopw [5] (fun i wr=>∃(k m:Nat),k≤n1∧i = .int .i64 (k:Int)∧Hid (xs.take k=ys.take k)∧w.drewN m=wr)
    (fun i _=>n1 - (intOf i).toNat)
   case atStart=>exact⟨0,0,ek _,rfl,ae rfl,rfl⟩
   case round =>
    obtain⟨k,m,hk,rfl,HT,rfl⟩:=hrel;by_cases hlt:k<n1
    · have hki:(k:Int)<(n1:Int):=by omega
      obtain⟨x,hx⟩:∃x,xs[k]? = some x:=⟨_,cZ (by rw[dK.o];exact hlt)⟩;obtain⟨y,hy⟩:∃y,ys[k]? = some y:=⟨_,cZ (by rw[bV.o];exact hlt)⟩;rcases HA1.o with e|⟨p1,o1,rfl, -,c1⟩
      · exfalso;rw[e]at hx;simp at hx
      rcases HA2.o with e|⟨p2,o2,rfl, -,c2⟩
      · exfalso;rw[e]at hy;simp at hy
      have k1:=c1 k x hx;have k2:=c2 k y hy;have HX:=ae hx;have iH:=ae hy;clear c1 c2 hx hy;by_cases hxy:x=y
      · have ex:(x != y)=false:=by rw[hxy];simp
        have HT2:=ae (N9 HT.o HX.o (by rw[hxy];exact iH.o));clear hxy;go_wp2_with fail
        go_quiet (fail)
        go_wp2_with fail
        go_roundw
        case rel=>exact⟨k+1,_,by omega,by go_num,HT2,by first|rfl|trivial⟩
        case measure=>simp[intOf];omega
      · have ex:(x != y)=true:=by rw[bne_iff_ne];exact hxy
        have HR:=ae (show ¬ xs=ys from fun e=>hxy (by have h1:=HX.o;rw[e,iH.o]at h1;exact(dM h1).symm));clear hxy;go_wp2_with fail
        go_quiet (fail)
        go_wp2_with fail
        go_ret;exact⟨by rw[aV HR.o] <;> rfl,oq (oq (ak _ _) m) nq⟩
    · have hki:¬ (k:Int)<(n1:Int):=by omega
      have HR:=ae (show xs=ys by
       have h1:=HT.o;rw[mP (by rw[dK.o];omega),mP (by rw[bV.o];omega)]at h1;exact h1)
      go_wp2_with fail
      go_ret;exact⟨by rw[aR HR.o] <;> rfl,oq (ak _ _) m⟩
 · have hne:((n1:Int) != (n2:Int))=true:=by rw[bne_iff_ne];omega
   have HR:=ae (show ¬ xs=ys from fun e=>hl (by rw[← hn1, ← hn2,e]));clear a1 a2 hn1 hn2;go_enter Tryz.func19,Tryz.ntmps19;go_wp2_with fail
   go_ret;exact⟨by rw[aV HR.o] <;> rfl,ak _ _⟩
def Ay(l1 l2:List Nd)(e:Ending):Prop:=∃b:Bool,e = .returned (.bool b)∧(b=true↔l1=l2)
theorem Ay.yes(h:l1=l2):Ay l1 l2 (.returned (.bool true)):=⟨true,rfl,⟨fun _=>h,fun _=>rfl⟩⟩
theorem Ay.no(h:¬ l1=l2):Ay l1 l2 (.returned (.bool false)):=⟨false,rfl,⟨fun e=>absurd e Bool.false_ne_true,fun e=>absurd e h⟩⟩
theorem Ay.is {e:Ending}(h:Ay l1 l2 e):(l1=l2∧e = .returned (.bool true))∨(¬ l1=l2∧e = .returned (.bool false)):=by
 obtain⟨b,rfl,hb⟩:=h;cases b
 · exact .inr ⟨fun e=>(Bool.noConfusion (hb.2 e)),rfl⟩
 · exact .inl ⟨hb.1 rfl,rfl⟩
theorem agU (w:World)(v1 v2:Value)(l1 l2:List (Nd × Value))(h1:dN w w.heap.size v1 l1)(h2:dN w w.heap.size v2 l2)(hz1:l1.length≤1000)(hz2:l2.length≤1000) :
 Calls Tryz.prog 8 #[v1,v2] w fun e w'=>Ay (l1.map (·.1)) (l2.map (·.1)) e∧Below w.heap.size w w':=by
 obtain⟨A1,fu,rfl⟩:=h1.rO;obtain⟨A2,jU,rfl⟩:=h2.rO;obtain⟨n1,hn1⟩:∃n1,l1.length=n1:=⟨_,rfl⟩;obtain⟨n2,hn2⟩:∃n2,l2.length=n2:=⟨_,rfl⟩;rw[hn1]at h1 hz1 ⊢;rw[hn2]at h2 hz2 ⊢;by_cases hl:n1=n2;rotate_left
 · have hne:((n1:Int) != (n2:Int))=true:=by rw[bne_iff_ne];omega
   have HR:=ae (show ¬ l1.map (·.1)=l2.map (·.1)from fun e=>hl (by have:=congrArg List.length e;rw[eF,eF]at this;omega));clear h1 h2 hn1 hn2;go_enter Tryz.func8,Tryz.ntmps8;go_wp2_with fail
   go_ret;exact⟨.no HR.o,ak _ _⟩
 subst hl;have fF:=ae h1;have HS2:=ae h2;have dK:=ae hn1;have bV:=ae hn2;clear h1 h2 hn1 hn2 hz2;go_enter Tryz.func8,Tryz.ntmps8;go_upto_region 4 with (fail)
 go_loopw [5] (fun iv wr=>∃(i:Nat),i≤n1∧iv = .int .i64 (i:Int)∧Hid (l1.map (·.1) |>.take i |> (· = (l2.map (·.1)).take i))∧Hid (Below w.heap.size w wr))
  (fun iv _=>n1 - (intOf iv).toNat)
 case atStart=>exact⟨0,ek _,rfl,ae rfl,ae (ak _ _)⟩
 case round =>
  obtain⟨i,hi,rfl,HT,HB⟩:=hrel;by_cases hlt:i<n1;rotate_left
  · have hii:¬ (i:Int)<(n1:Int):=by omega
    have HR:=ae (show l1.map (·.1)=l2.map (·.1)by
     have h1:=HT.o;have e1:(l1.map (·.1)).take i=l1.map (·.1):=mP (by have:=dK.o;simp only[eF];omega);have e2:(l2.map (·.1)).take i=l2.map (·.1):=mP (by have:=bV.o;simp only[eF];omega);rw[e1,e2]at h1;exact h1)
    go_wp2_with fail
    go_ret;exact⟨.yes HR.o,HB.o⟩
  have hii:(i:Int)<(n1:Int):=by omega
  obtain⟨⟨a,ka⟩,hka⟩:∃q,l1[i]? = some q:=⟨_,cZ (by rw[dK.o];exact hlt)⟩;obtain⟨⟨c,kc⟩,hkc⟩:∃q,l2[i]? = some q:=⟨_,cZ (by rw[bV.o];exact hlt)⟩;obtain⟨hsa,pa,oa,rfl,xg,ca⟩:=fF.o.cellAt hka;obtain⟨hsc,pc,oc,rfl,hpc,cc⟩:=HS2.o.cellAt hkc;obtain⟨FI,ES,hma,hea⟩:∃FI ES,a.kids.length≤ES∧ka = .slice FI a.kids.length ES:=(by obtain⟨A,c,h1,h2,_⟩:=hsa;exact⟨A,c,h2,h1⟩);obtain⟨FJ,mc,hmc,hec⟩:∃FJ mc,c.kids.length≤mc∧kc = .slice FJ c.kids.length mc:=(by obtain⟨A,cc,h1,h2,_⟩:=hsc;exact⟨A,cc,h2,h1⟩);subst hea;subst hec;have XR:=ae hsa;have wL:=ae hsc;have HA:=ae (show(l1.map (·.1))[i]? = some a by rw[gY,hka];rfl);have HC:=ae (show(l2.map (·.1))[i]? = some c by rw[gY,hkc];rfl);have dR:=ae (show ¬ a=c→¬ l1.map (·.1)=l2.map (·.1)from fun hne e=>hne (by have h1:=HA.o;rw[e,HC.o]at h1;exact(dM h1).symm));have dx:=ae (show a=c→(l1.map (·.1)).take (i+1)=(l2.map (·.1)).take (i+1)from fun e=>takeN HT.o HA.o (by rw[e];exact HC.o));have ack:pa<wr.heap.size:=eB xg HB.o.size;have acp:pc<wr.heap.size:=eB hpc HB.o.size;obtain⟨x0,x1,x2,x3,x4,x5,x6,x7,av,aI,aF,aG,aH,aC⟩:=qB HB.o xg ca;obtain⟨y0,y1,y2,y3,y4,dH,y6,ll,nE,tT,tN,tO,tQ,y13⟩:=qB HB.o hpc cc;clear ca cc hka hkc hsa hsc hma hmc;go_upto_region 6 with (fail)
  go_cut [6,7]from 13 to 67 (fun t6 t7 wx=>∃p q,t6 = .pointer (some ⟨p,0,none⟩)∧t7 = .pointer (some ⟨q,0,none⟩)∧az wx p a (.slice FI a.kids.length ES)∧az wx q c (.slice FJ c.kids.length mc)∧Below wr.heap.size wr wx)
  case first =>
   go_region_held3 (fun w'=>w'.cell? ⟨pa,oa+i*14,none⟩=some (.int .i64 a.kind)∧w'.cell? ⟨pa,oa+i*14+1,none⟩=some (.int .i64 a.num)∧w'.cell? ⟨pa,oa+i*14+2,none⟩=some (.string a.text)∧w'.cell? ⟨pa,oa+i*14+3,none⟩=some (.string a.ref.sh)∧w'.cell? ⟨pa,oa+i*14+4,none⟩=some (.int .i64 a.ref.c)∧w'.cell? ⟨pa,oa+i*14+5,none⟩=some (.int .i64 a.ref.r)∧w'.cell? ⟨pa,oa+i*14+6,none⟩=some (.bool a.ref.ac)∧w'.cell? ⟨pa,oa+i*14+7,none⟩=some (.bool a.ref.ar)∧w'.cell? ⟨pa,oa+i*14+8,none⟩=some (.string a.ai.sh)∧w'.cell? ⟨pa,oa+i*14+9,none⟩=some (.int .i64 a.ai.c)∧w'.cell? ⟨pa,oa+i*14+10,none⟩=some (.int .i64 a.ai.r)∧w'.cell? ⟨pa,oa+i*14+11,none⟩=some (.bool a.ai.ac)∧w'.cell? ⟨pa,oa+i*14+12,none⟩=some (.bool a.ai.ar)∧w'.cell? ⟨pa,oa+i*14+13,none⟩=some (.slice FI a.kids.length ES)∧w'.cell? ⟨pc,oc+i*14,none⟩=some (.int .i64 c.kind)∧w'.cell? ⟨pc,oc+i*14+1,none⟩=some (.int .i64 c.num)∧w'.cell? ⟨pc,oc+i*14+2,none⟩=some (.string c.text)∧w'.cell? ⟨pc,oc+i*14+3,none⟩=some (.string c.ref.sh)∧w'.cell? ⟨pc,oc+i*14+4,none⟩=some (.int .i64 c.ref.c)∧w'.cell? ⟨pc,oc+i*14+5,none⟩=some (.int .i64 c.ref.r)∧w'.cell? ⟨pc,oc+i*14+6,none⟩=some (.bool c.ref.ac)∧w'.cell? ⟨pc,oc+i*14+7,none⟩=some (.bool c.ref.ar)∧w'.cell? ⟨pc,oc+i*14+8,none⟩=some (.string c.ai.sh)∧w'.cell? ⟨pc,oc+i*14+9,none⟩=some (.int .i64 c.ai.c)∧w'.cell? ⟨pc,oc+i*14+10,none⟩=some (.int .i64 c.ai.r)∧w'.cell? ⟨pc,oc+i*14+11,none⟩=some (.bool c.ai.ac)∧w'.cell? ⟨pc,oc+i*14+12,none⟩=some (.bool c.ai.ar)∧w'.cell? ⟨pc,oc+i*14+13,none⟩=some (.slice FJ c.kids.length mc)) (go_keep) (fail)
   all_goals go_wp2_with fail
   all_goals go_meet
   all_goals first
    | exact⟨_,_,rfl,rfl,(Dr wr a c _ _).1,(Dr wr a c _ _).2.1,(Dr wr a c _ _).2.2⟩
    | exact⟨_,_,rfl,rfl,(Dr wr c a _ _).2.1,(Dr wr c a _ _).1,(Dr wr c a _ _).2.2⟩
  case rest =>
   obtain⟨p,q,rfl,rfl,hna,hnc,hb⟩:=hcut;have HB3:=ae (HB.o.trans (hb.mono HB.o.size));have sD:=ae (agA wc w.heap.size _ _ _ _ (XR.o.below HB3.o (aj _)) (wL.o.below HB3.o (aj _)));obtain⟨p0,p1,p2,p3,p4,p5,p6,p7,afU,M6,p10,p11,p12,p13⟩:=hna.cells;obtain⟨q0,q1,q2,q3,q4,q5,q6,q7,kD,U8,U5,U6,U7,q13⟩:=hnc.cells;clear x0 x1 x2 x3 x4 x5 x6 x7 av aI aF aG aH aC y0 y1 y2 y3 y4 dH y6 ll nE tT tN tO tQ y13 ack acp hna hnc hb;by_cases hk:a.kids=c.kids
   · rw[aR hk]at sD
     have HK:=ae hk;clear hk;go_wp2_with (go_at_call 19;((with_reducible refine sD.o.mono ?_);rintro e w4 ⟨rfl,h1⟩;have cu:=ae (HB3.o.trans (h1.mono HB3.o.size));clear h1))
     any_goals (go_ret;exact⟨.no (dR.o fun e=>by rename_i h;exact h (by rw[e])),HB3.o⟩)
     rename_i h0 h1 h2 h3 h4 h5 h6 h7 h8 h9 h10 h11 h12
     have iH:=ae (dx.o (ae3 h0 h1 h2 h3 h4 h5 h6 h7 h8 h9 h10 h11 h12 HK.o));clear h0 h1 h2 h3 h4 h5 h6 h7 h8 h9 h10 h11 h12
     go_roundw
     case rel=>exact⟨i+1,by omega,by go_num,iH,cu⟩
     case measure=>simp[intOf];omega
   · rw[aV hk]at sD
     have HR:=ae (dR.o fun e=>hk (by rw[e]));clear hk;go_wp2_with (go_at_call 19;((with_reducible refine sD.o.mono ?_);rintro e w4 ⟨rfl,h1⟩;have cu:=ae (HB3.o.trans (h1.mono HB3.o.size));clear h1))
     all_goals go_ret
     all_goals first|exact⟨.no HR.o,HB3.o⟩|exact⟨.no HR.o,cu.o⟩
theorem gZ.one {s:ByteArray}{r1 r2:Except Int (List Nd)}(h1:gZ s r1)(h2:gZ s r2):r1=r2:=by
 rcases h1 with ⟨a1,rfl⟩|⟨a1,b1,rfl⟩|⟨a1,ts,f,b1,c1⟩
 · rcases h2 with ⟨_,rfl⟩|⟨a2,_⟩|⟨a2,_⟩
   · rfl
   · omega
   · omega
 · rcases h2 with ⟨a2,_⟩|⟨_,_,rfl⟩|⟨_,us,g,b2,_⟩
   · omega
   · rfl
   · rw[b1]at b2;cases b2
 · rcases h2 with ⟨a2,_⟩|⟨_,b2,_⟩|⟨_,us,g,b2,c2⟩
   · omega
   · rw[b1]at b2;cases b2
   · rw[b1]at b2;injection b2 with b2;subst b2
     exact afV c1 c2
theorem ahi (ns:List Nd)(h:qy ns):∃b:Bool,(b=true→(gG++strOfNums (di ns)).size≤300∧gZ (strOfNums (di ns)) (.ok ns))∧(b=false→¬ Gb (gG++strOfNums (di ns)))∧∀w:World,Calls Tryz.prog 51 #[.string (gG++strOfNums (di ns))] w fun e w'=>e = .returned (.bool b)∧Below w.heap.size w w':=by
 obtain⟨p,hp⟩:∃p,strOfNums (di ns)=p:=⟨_,rfl⟩;have hz:(gG++p).size=1+p.size:=by rw[ByteArray.size_append];rfl
 have h0:0<(gG++p).size:=by omega
 have sV:((gG++p)[0].toNat:Int)=61:=by
  have:(gG++p)[0]=gG[0]'(by decide):=ByteArray.getElem_append_left (by decide);rw[this];rfl
 have hr:(gG++p).extract 1 (gG++p).size=p:=by
  exact Ug gG p _ rfl rfl
 have hno:∀c:Int,gZ p (.error c)→¬ Gb (gG++p):=fun c hc hf=>by
  obtain⟨_,_,ms,h1,_⟩:=hf;rw[hr]at h1;exact absurd (gZ.one h1 hc) (by simp)
 rw[hp];by_cases hs:300<(gG++p).size
 · exact⟨false,fun e=>absurd e (by decide),fun _ hf=>absurd hf.1 (by omega),fun w=>ahh _ hs w⟩
 · by_cases hne:ns=[]
   · obtain⟨c,hpe,hc⟩:=afW
     have hp0:p=⟨#[]⟩:=by rw[← hp,hne];decide
     exact⟨false,fun e=>absurd e (by decide),fun _=>hno c (by rw[hp0];exact hpe),fun w=>VE _ p (by omega) h0 sV hr rfl c (by rw[hp0];exact hpe) hc w⟩
   · obtain⟨_,RD⟩:=h.told hne
     rw[hp]at RD;rcases RD with hok|⟨c,hpe,hc,_⟩
     · exact⟨true,fun _=>⟨by omega,hok⟩,fun e=>absurd e (by decide),fun w=>ahg _ p (by omega) h0 sV hr rfl ns hok hp w⟩
     · exact⟨false,fun e=>absurd e (by decide),fun _=>hno c hpe,fun w=>VE _ p (by omega) h0 sV hr rfl c hpe hc w⟩
theorem agj (w:World)(A:Option Addr)(cap:Nat):Calls Tryz.prog 20 #[.slice A 0 cap] w fun e w'=>e = .returned (.bool false)∧Below w.heap.size w w':=by
 go_enter Tryz.func20,Tryz.ntmps20;go_upto_region 3 with (fail)
 go_loopw [3,9] (fun rv iv wr=>rv = .slice none 0 0∧iv = .int .i64 0∧Below w.heap.size w wr) (fun _ _ _=>0)
 case atStart=>exact⟨rfl,rfl,ak _ _⟩
 case round =>
  obtain⟨rfl,rfl,hb⟩:=hrel;have HB:=ae hb;clear hb;go_wp2_with fail
  go_ret;exact⟨rfl,HB.o⟩
theorem afo (w:World)(own:ByteArray)(A:Option Addr)(cap:Nat)(v:Value):Calls Tryz.prog 9 #[.slice A 0 cap,.string own,v] w (yc w []):=by
 have HT:=ae (agj w A cap);go_enter Tryz.func9,Tryz.ntmps9
 go_wp2_with (first
  | (go_at_call 20;((with_reducible refine HT.o.mono ?_);rintro e w2 ⟨rfl,h1⟩;have HB2:=ae h1;clear h1)))
 go_ret;exact⟨_,[],rfl,⟨⟨none,0,rfl,.inl rfl⟩,fun p hp=>absurd hp (by simp)⟩,rfl,HB2.o⟩
theorem ahl (w:World)(own:ByteArray)(A:Option Addr)(cap:Nat)(v:Value):Calls Tryz.prog 10 #[.slice A 0 cap,.string own,v] w (yc w []):=by
 have HT:=ae (Vo w A cap);go_enter Tryz.func10,Tryz.ntmps10
 go_wp2_with (first
  | (go_at_call 17;((with_reducible refine HT.o.mono ?_);rintro e w2 ⟨rfl,h1⟩;have HB2:=ae h1;clear h1)))
 go_ret;exact⟨_,[],rfl,⟨⟨none,0,rfl,.inl rfl⟩,fun p hp=>absurd hp (by simp)⟩,rfl,HB2.o⟩
theorem afn (w:World)(hv:Vars w)(own:ByteArray)(ho:own.size≤maxLen)(xs:List aP)(B:Option Addr)(m c:Nat)(hS:mW w w.heap.size (.slice B m c) xs)(hm:m≤1000000)(hO:∀x∈xs,mV x.s)(A:Option Addr)(cap:Nat)(l:List (Nd × Value))(hs:dN w w.heap.size (.slice A l.length cap) l)(hN:qy (l.map (·.1))) :
 Calls Tryz.prog 9 #[.slice A l.length cap,.string own,.slice B m c] w (yc w (jo own (eH xs) (l.map (·.1))))∧Calls Tryz.prog 10 #[.slice A l.length cap,.string own,.slice B m c] w (yc w (jo own (eH xs) (l.map (·.1)))):=by
 have hz:SZ l:=⟨by have:=hN.few;rw[eF]at this;omega,fun p hp=>hN.BL p.1 (r9 hp)⟩;by_cases h0:l=[]
 · subst h0
   exact⟨afo w own A cap _,ahl w own A cap _⟩
 · have ht:=hN.tree (by simpa using h0)
   refine⟨(Uh w own xs A B _ cap m c l hv hS hm hO ho hs hz ht).mono fun e w' h => ?_,VF w own xs A B _ cap m c l hS hm hO hs hz ht⟩;obtain⟨T,done,he,h1,h2,h3,_⟩:=h;exact⟨_,done,he,h1,h2,h3⟩
theorem aje (w:World)(hx:oN w)(own:ByteArray)(ho:own.size≤maxLen)(xs:List aP)(B:Option Addr)(m c:Nat)(hS:mW w w.heap.size (.slice B m c) xs)(hm:m≤1000000)(hO:∀x∈xs,mV x.s)(ns:List Nd)(hN:qy ns) :
 ∃u:ByteArray,∀wq:World,Below w.heap.size w wq→(Calls Tryz.prog 11 #[.string (gG++strOfNums (di ns)),.string own,.slice B m c] wq fun e w'=>e = .returned (.string u)∧Below wq.heap.size wq w')∧Calls Tryz.prog 12 #[.string (gG++strOfNums (di ns)),.string own,.slice B m c] wq fun e w'=>e = .returned (.string u)∧Below wq.heap.size wq w':=by
 obtain⟨b,hb1,hb2,hmc⟩:=ahi ns hN;obtain⟨p,hp⟩:∃p,strOfNums (di ns)=p:=⟨_,rfl⟩;rw[hp]at hb1 hb2 hmc ⊢;have hz:(gG++p).size=1+p.size:=by rw[ByteArray.size_append];rfl
 have h0:0<(gG++p).size:=by omega
 have sV:((gG++p)[0].toNat:Int)=61:=by
  have:(gG++p)[0]=gG[0]'(by decide):=ByteArray.getElem_append_left (by decide);rw[this];rfl
 have hr:(gG++p).extract 1 (gG++p).size=p:=Ug gG p _ rfl rfl;cases b
 · exact⟨gG++p,fun wq hq=>⟨aeA _ own _ wq (hx.below hq) (hb2 rfl),ahx wq _ own _ (ahd _ h0 sV wq (hmc wq))⟩⟩
 · obtain ⟨hs,hpi⟩:=hb1 rfl
   refine⟨yK own (eH xs) ns,fun wq hq=>⟨Ui wq (gG++p) p own xs B m c (hx.below hq) (hS.lift hq) hm hO ho hs (by omega) (ac4 p) hr ns hpi hp,ahw wq _ own _ (eH xs) ns ((pJ.of hpi).move own fun s hs => ?_) (ahe _ p h0 sV hr ns hpi wq (hmc wq)) fun wr hwr A n cap l hl hl2 => ?_⟩⟩
   · obtain⟨x,hx,rfl⟩:=List.mem_map.1 hs
     exact hO x hx
   · have hk:pJ (l.map (·.1)):=by rw[show l.map (·.1)=ns from hl2];exact pJ.of hpi
     have h:=VF wr own xs A B n cap m c l ((hS.lift hq).lift hwr) hm hO hl hk.BL hk.tree;rw[show l.map (·.1)=ns from hl2]at h;exact h
end Go.Proofs.YtbplbjmmfgjdjaaGreatDoor
