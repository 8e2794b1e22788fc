import Derived.Test.YtaobhjliflomaaaGreatDoorMT11
set_option maxRecDepth 100000
set_option maxHeartbeats 64000000
namespace Go.Proofs.YtaobhjliflomaaaGreatDoor
open Go.RowKit
def Fa(n:Nat)(at_:Int):List Int:=(List.range n).map fun (i:Nat)=>if (i:Int)<at_ then (i:Int)else if (i:Int)=at_ then -1 else (i:Int) - 1
theorem fQ.nil{α : Type}{k:Nat}(E:Enc α k)(w:World)(B:Nat):fQ E w B (.slice none 0 0) ([]:List α):=⟨none,0,rfl,ah _,by unfold maxLen;omega,.inl rfl⟩
theorem adD (s:ByteArray)(w:World)(hv:Vars w)(ho:mQ w)(c:Int)(hp:iB s (.error c)) :
 Calls Tryz.prog 36 #[.string s] w fun e w'=>Below w.heap.size w w'∧e = .returned (.tuple #[.slice none 0 0,.int .i64 c]):=by
 refine(SA s w hv ho _ hp).mono ?_;rintro e w' ⟨hb,⟨c',h1,h2⟩|⟨ns,nv,vs,h1,_⟩⟩
 · injection h1 with h1;subst h1;exact⟨hb,h2⟩
 · cases h1
def KR:ByteArray:=⟨#[39]⟩
theorem aaX(s:ByteArray):kd (KR++s)=1:=by unfold kd;rw[RS 39 KR s (by decide)];rfl
def vH(n at_:Int):List Int × Int:=if at_<0∨(cZ n:Int)≤at_ then (fH (cZ n),(cZ n:Int))else (Fa (cZ n) at_,(cZ n:Int) - 1)
def sD(a i j:Nat):Int:=if j<a then (j:Int)else if j=a then -1 else if j<i then (j:Int) - 1 else (j:Int)
theorem Yt (a n:Nat):(fH n).set a (-1)=(List.range n).map (sD a (a+1)):=by
 unfold fH;rw[KN];apply Br;intro j _;unfold sD;by_cases hj:j=a
 · subst hj;rw[if_pos rfl,if_neg (by omega),if_pos rfl]
 · rw[if_neg hj]
   by_cases h1:j<a
   · rw[if_pos h1]
   · rw[if_neg h1,if_neg hj,if_neg (by omega)]
theorem Yr (a i n:Nat)(h:a<i):((List.range n).map (sD a i)).set i ((i:Int) - 1)=(List.range n).map (sD a (i+1)):=by
 rw[KN];apply Br;intro j _;unfold sD;by_cases hj:j=i
 · subst hj;rw[if_pos rfl,if_neg (by omega),if_neg (by omega),if_pos (by omega)]
 · rw [if_neg hj]
   by_cases h1:j<a
   · rw[if_pos h1,if_pos h1]
   · rw [if_neg h1,if_neg h1]
     by_cases h3:j=a
     · rw[if_pos h3,if_pos h3]
     · rw[if_neg h3,if_neg h3]
       by_cases h2:j<i
       · rw[if_pos h2,if_pos (by omega)]
       · rw[if_neg h2,if_neg (by omega)]
theorem Yq (a n:Nat):(List.range n).map (sD a n)=Fa n a:=by
 unfold Fa;apply Br;intro j hj;unfold sD;by_cases h1:j<a
 · rw[if_pos h1,if_pos (by omega)]
 · rw[if_neg h1,if_neg (show ¬ (j:Int)<(a:Int)by omega)]
   by_cases h3:j=a
   · rw[if_pos h3,if_pos (by omega)]
   · rw[if_neg h3,if_pos hj,if_neg (by omega)]
theorem LC:Tryz.f10.results=#[.cell 4 30]:=by kernel_rfl
theorem aeb (w:World)(n a:Int):Calls Tryz.prog 10 #[.int .i64 n,.int .i64 a] w fun e w'=>EJ w w' (vH n a).1 (vH n a).2 e:=by
 have HB:=ae (rY 30 w (.slice none 0 0) 0);have HP:=ae (dh.new 30 w (.slice none 0 0) 0);have hle:=E8 n;have hs:=fun w=>GN w n
 have hO:vH n a=if a<0∨(cZ n:Int)≤a then (fH (cZ n),(cZ n:Int))else (Fa (cZ n) a,(cZ n:Int) - 1):=rfl
 obtain⟨N,hN⟩:∃N,cZ n=N:=⟨_,rfl⟩;simp only[hN]at hs hO hle;have HS:=ae hs;clear hN hs;by_cases kT:a<0∨(N:Int)≤a
 · rw [if_pos kT]at hO
   rw[hO];clear hO;go_enter Tryz.func10,Tryz.ntmps10;go_upto_region 1 with (fail)
   obtain⟨w1,hw1⟩:∃w1,w.alloc (.cells #[.slice none 0 0,.int .i64 0] 30)=w1:=⟨_,rfl⟩;rw[hw1]at HB HP ⊢;clear hw1;go_upto_region 2 with (go_at_call 9;((with_reducible refine(HS.o _).mono ?_);rintro e w2 ⟨v,rfl,h1,h2⟩;have H1:=ae h1;have H2:=ae h2;obtain⟨A,c,hv⟩:=Ac h1;rw[sO]at hv;subst hv;clear h1 h2))
   have HW:=ae (om.start (k:=(N:Int)) HB.o HP.o H1.o H2.o);obtain⟨p,hp⟩:∃p,w2.heap.size=p:=⟨_,rfl⟩;rw[hp]at HW ⊢;obtain⟨w3,hw3⟩:∃w3,w2.alloc (.cells #[.slice A N c,.int .i64 (N:Int)] 30)=w3:=⟨_,rfl⟩;rw[hw3]at HW ⊢;clear hw3 hp;obtain⟨x0,x1⟩:=HW.o.cur.cells;obtain⟨y0,y1⟩:=HW.o.o.cells;obtain⟨m0,m1⟩:=HW.o.o.bH;by_cases h0:a<0
   · go_wp2_with fail
     refine bodyPost_ret (Ab (HW.o.o.nQ (.slice A N c) (N:Int)) _ _ 4 LC rfl) rfl ⟨_,rfl, ?_,zh HW.o.iQ (ah _) _ _⟩;exact(HW.o.own.keep (fun g h1 _ _=>zB _ _ _ _ _ (by omega))).mono (by omega)
   · have h9:(N:Int)≤a:=kT.resolve_left h0
     clear kT;go_wp2_with fail
     refine bodyPost_ret (Ab (HW.o.o.nQ (.slice A N c) (N:Int)) _ _ 4 LC rfl) rfl ⟨_,rfl, ?_,zh HW.o.iQ (ah _) _ _⟩;exact(HW.o.own.keep (fun g h1 _ _=>zB _ _ _ _ _ (by omega))).mono (by omega)
 · rw [if_neg kT]at hO
   rw[hO];obtain⟨a0,rfl⟩:∃a0:Nat,a=(a0:Int):=⟨a.toNat,by omega⟩;have h0:¬ (a0:Int)<0:=fun e=>kT (.inl e)
   have h9:¬ (N:Int)≤(a0:Int):=fun e=>kT (.inr e)
   clear hO kT;go_enter Tryz.func10,Tryz.ntmps10;go_upto_region 1 with (fail)
   obtain⟨w1,hw1⟩:∃w1,w.alloc (.cells #[.slice none 0 0,.int .i64 0] 30)=w1:=⟨_,rfl⟩;rw[hw1]at HB HP ⊢;clear hw1;go_upto_region 2 with (go_at_call 9;((with_reducible refine(HS.o _).mono ?_);rintro e w2 ⟨v,rfl,h1,h2⟩;have H1:=ae h1;have H2:=ae h2;obtain⟨A,c,hv⟩:=Ac h1;rw[sO]at hv;subst hv;clear h1 h2))
   have HW:=ae (om.start (k:=(N:Int)) HB.o HP.o H1.o H2.o);obtain⟨p,hp⟩:∃p,w2.heap.size=p:=⟨_,rfl⟩;rw[hp]at HW ⊢;obtain⟨w3,hw3⟩:∃w3,w2.alloc (.cells #[.slice A N c,.int .i64 (N:Int)] 30)=w3:=⟨_,rfl⟩;rw[hw3]at HW ⊢;clear hw3 hp;obtain⟨x0,x1⟩:=HW.o.cur.cells;obtain⟨m0,m1⟩:=HW.o.cur.bH;go_upto_region 5 with (fail)
   clear x0 x1 m0 m1;have HW2:=ae (HW.o.TU ((N:Int) - 1));obtain⟨w4,hw4⟩:∃w4,w3.setCell ⟨p,1,none⟩ (.int .i64 ((N:Int) - 1))=w4:=⟨_,rfl⟩;rw[hw4]at HW2 ⊢;clear hw4;have aiz:(a0:Int)<(N:Int):=by omega
   have aic:(0:Int)≤(a0:Int):=by omega
   obtain⟨g0,c0,JP,_⟩:=HW2.o.own.some (by rw[sO];omega);injection JP with JP h2 h3;subst JP;clear h2 h3;have e0:=HW2.o.own.vQ a0 (by rw[sO];omega);have f0:=HW2.o.own.LW.uN a0;obtain⟨x0,x1⟩:=HW2.o.cur.cells;have bY:=ae (show om w (w4.setCell ⟨g0,a0,none⟩ (.int .i64 (-1))) w.heap.size p (some ⟨g0,0,none⟩) N c ((N:Int) - 1) ((List.range N).map (sD a0 (a0+1)))from by rw[← Yt];exact HW2.o.set a0 (-1));go_wp2_with fail
   clear e0 f0 x0 x1
   go_loopw [6] (fun iv wr=>∃i:Nat,a0<i∧i≤N∧iv = .int .i64 (i:Int)∧Hid (om w wr w.heap.size p (some ⟨g0,0,none⟩) N c ((N:Int) - 1) ((List.range N).map (sD a0 i))))
    (fun iv _=>N - (intOf iv).toNat)
   case atStart=>exact⟨_,ah _,by omega,by first|rfl|trivial|go_num,bY⟩
   case round =>
    obtain⟨i,hai,hi,rfl,HR⟩:=hrel;obtain⟨x0,x1⟩:=HR.o.cur.cells;by_cases hlt:i<N
    · have hii:(i:Int)<(N:Int):=by omega
      have hi0:(0:Int)≤(i:Int):=by omega
      have Ep:=ae (show((List.range N).map (sD a0 i)).length=N from by simp);have e0:=HR.o.own.vQ i (by rw[Ep.o];exact hlt);rw[Rv _ _ _ hlt]at e0;have hf:sD a0 i i=(i:Int):=by unfold sD;(repeat' split) <;> omega
      rw[hf]at e0;have f0:=HR.o.own.LW.uN i;have HN:=ae (Yr a0 i N hai);clear hf;go_wp2_with fail
      clear e0 f0 x0 x1
      go_roundw
      case rel=>exact⟨i+1,by omega,by omega,by go_num,ae (by rw[← HN.o];exact HR.o.set i ((i:Int) - 1))⟩
      case measure=>simp[intOf];omega
    · have hii:¬ (i:Int)<(N:Int):=by omega
      have hin:i=N:=by omega
      subst hin;have HE:=ae (Yq a0 i);obtain⟨y0,y1⟩:=HR.o.o.cells;obtain⟨m0,m1⟩:=HR.o.o.bH;go_wp2_with fail
      have ho:=HR.o.own;rw[HE.o]at ho;refine bodyPost_ret (Ab (HR.o.o.nQ (.slice (some ⟨g0,0,none⟩) i c) ((i:Int) - 1)) _ _ 4 LC rfl) rfl ⟨_,rfl, ?_,zh HR.o.iQ (ah _) _ _⟩;exact(ho.keep (fun g h1 _ _=>zB _ _ _ _ _ (by omega))).mono (by omega)
theorem RD {r:bC}(h:bO r=true):0≤r.c∧0≤r.r:=by
 unfold bO di at h;rw[dA,decide_eq_true_iff]at h;exact⟨h.2.1,h.2.2.2.1⟩
theorem acs (own:ByteArray)(ss:List Sf)(hs:∀s∈ss,s.gone=false∧tZ s.rx s.rn∧tZ s.cx s.cn)(n:Nd)(hn:Od n):jN own ss n=n:=by
 unfold jN;by_cases hk:¬ n.kind=5∧¬ n.kind=6
 · rw[if_pos hk]
 · rw [if_neg hk]
   cases hf:zn ss (oH own n)with
   | none=>rfl
   | some s =>
     obtain⟨hg,hr,hc⟩:=hs s (Fg hf).1;show(if (ja n s).2=true then (ja n s).1 else zl)=n
     have ha:ja n s=if n.kind=6 then (jQ n s,tu n s&&bO (jQ n s).af)else (pF n s,bO (pF n s).ref):=by
      unfold ja;rw[hg];rfl
     rw[ha];by_cases h6:n.kind=6
     · rw[if_pos h6]
       obtain⟨a1,a2,a3,a4⟩:=hn.two h6;obtain⟨l1,l2⟩:=RD a1;have e1:=hr.span n.ref.r n.af.r l2 a4;have e2:=hc.span n.ref.c n.af.c l1 a3;have es:jQ n s=n:=by unfold jQ;rw[e1,e2];rfl
       have eo:tu n s=true:=by unfold tu;rw[e1,e2];rfl
       rw[es,eo,a2];rfl
     · rw[if_neg h6]
       have a1:=hn.one (by omega);obtain⟨l1,l2⟩:=RD a1;have er:pF n s=n:=by unfold pF;rw[hr.img _ l2,hc.img _ l1];rfl
       rw[er,a1];rfl
theorem ack (own:ByteArray)(ss:List Sf)(l:List Nd)(h:∀n∈l,jN own ss n=n):mF own ss l=l:=by
 unfold mF;rw[List.map_congr_left h,List.map_id']
def wm(t:ByteArray)(w:World):Prop:=Calls Tryz.prog 19 #[.string t] w fun e w'=>e = .returned (.tuple #[.slice none 0 0,.bool false])∧Below w.heap.size w w'
theorem Y2 (t:ByteArray)(hs:300<t.size)(w:World):wm t w:=by
 have hi:(300:Int)<(t.size:Int):=by omega
 unfold wm;clear hs;go_enter Tryz.func19,Tryz.ntmps19;go_wp2_with fail
 go_ret2
 exact⟨rfl,ai _ _⟩
theorem Y1 (t:ByteArray)(hs:t.size≤300)(k:Int)(hk:kd t=k)(h2:¬ k=2)(w:World):wm t w:=by
 have HK:=ae (FV t (by omega) _ hk w);have hi:¬ (300:Int)<(t.size:Int):=by omega
 have hk2:(k != 2)=true:=by rw[bne_iff_ne];exact h2
 unfold wm;clear hs hk h2;go_enter Tryz.func19,Tryz.ntmps19
 go_wp2_with (first
  | (go_at_call 35;((with_reducible refine HK.o.mono ?_);rintro e w1 ⟨rfl,rfl⟩)))
 go_ret2
 exact⟨rfl,ai _ _⟩
theorem Y0 (t p:ByteArray)(hs:t.size≤300)(h1:1≤t.size)(hk:kd t=2)(hr:t.extract 1 t.size=p)(c:Int)(hp:iB p (.error c))(hc:c≠0)(w:World)(hx:nG w):wm t w:=by
 have HA:=ae (adD p w hx.sx.vars hx.sx.ops c hp);have HK:=ae (FV t (by omega) _ hk w);have hi1:(1:Int)≤(t.size:Int):=by omega
 have hi:¬ (300:Int)<(t.size:Int):=by omega
 have hc0:(c != 0)=true:=by rw[bne_iff_ne];exact hc
 unfold wm;clear hp hx hs hk hc;go_enter Tryz.func19,Tryz.ntmps19
 go_wp2_with (first
  | (go_at_call 35;((with_reducible refine HK.o.mono ?_);rintro e w1 ⟨rfl,rfl⟩))
  | (go_at_call 36;((with_reducible refine HA.o.mono ?_);rintro e w1 ⟨hb,rfl⟩;have HB1:=ae hb;clear hb)))
 refine wp_region_held_drew (S:=fun _=>True) (by kernel_rfl) trivial (fun _ => ?_);show wpAnyH _ _ _ _ _ 9 #[false,false,false,false,false,false,false,false,false] _ _;refine hT 0 trivial ?_;refine hT 1 (v := .bool true) trivial ?_ (hy:=by(intro gJ hSw;go_simp));refine hT 2 trivial ?_;refine hN 3 trivial ?_;refine hN 4 trivial ?_;refine hN 5 trivial ?_;refine hN 6 trivial ?_;refine hN 7 trivial ?_;refine hT 8 trivial ?_;refine wpAnyH_done (by kernel_rfl) ?_ _;go_wp2_with fail
 go_ret2
 exact⟨rfl,xW HB1.o⟩
theorem Y5 (t p q:ByteArray)(hs:t.size≤300)(h1:1≤t.size)(hk:kd t=2)(hr:t.extract 1 t.size=p)(ns:List Nd)(hp:iB p (.ok ns))(qm:strOfNums (cB ns)=q)(hne:¬ q=p)(w:World)(hx:nG w):wm t w:=by
 have HA:=ae (SB p w hx.sx ns hp);have tN:=ae (fun (w1:World)(h1:Below w.heap.size w w1)(v:Value)(l:List (Nd × Value))(hm:l.map Prod.fst=ns)(hs:eF w1 w1.heap.size v l)=>(show Calls Tryz.prog 20 #[v] w1.drew fun e w'=>e = .returned (.string q)∧Below w1.drew.heap.size w1.drew w' from qm ▸ SQ p ns hp w1 w1.drew (hx.sx.below (xW h1)) v l hm hs (xW (ai _ _))));have HK:=ae (FV t (by omega) _ hk w);have hi1:(1:Int)≤(t.size:Int):=by omega
 have hi:¬ (300:Int)<(t.size:Int):=by omega
 have vN:(q.toList == p.toList)=false:=beq_eq_false_iff_ne.2 (pR q p hne);obtain⟨L,hL⟩:∃L,ns.length=L:=⟨_,rfl⟩;rw[hL]at HA;unfold wm;clear hp qm hL hx hs hk;go_enter Tryz.func19,Tryz.ntmps19
 go_wp2_with (first
  | (go_at_call 35;((with_reducible refine HK.o.mono ?_);rintro e w1 ⟨rfl,rfl⟩))
  | (go_at_call 36;((with_reducible refine HA.o.mono ?_);rintro e w1 ⟨hb,g1,eU,l1,rfl,hm1,hs1⟩;have HB1:=ae hb;have bD:=ae (tN.o w1 hb _ l1 hm1 hs1);clear hb hm1 hs1)))
 go_region_held3 (fun _=>True) (trivial) (first
  | (go_at_call 20;((with_reducible refine bD.o.mono ?_);rintro e w2 ⟨rfl,h1⟩;have HB2:=ae ((xW HB1.o).trans (h1.mono HB1.o.size));clear h1)))
 all_goals go_wp2_with fail
 all_goals go_ret2
 all_goals exact⟨rfl,HB2.o⟩
def Jk(t:ByteArray):Prop:=t.size≤300∧kd t=2∧∃ns,iB (t.extract 1 t.size) (.ok ns)∧strOfNums (cB ns)=t.extract 1 t.size
theorem Y3 (t:ByteArray)(h:¬ Jk t)(w:World)(hx:nG w):wm t w:=by
 by_cases hs:300<t.size
 · exact Y2 t hs w
 · by_cases hk:kd t=2
   · have h1:1≤t.size:=by
      rcases Nat.eq_zero_or_pos t.size with h0|h0
      · exfalso
        have:sb t=[]:=kg (by rw[aV];exact h0);unfold kd at hk;rw[this]at hk;exact absurd hk (by decide)
      · exact h0
     obtain⟨res,hp⟩:=iB.all (t.extract 1 t.size);cases res with
     | error c=>exact Y0 t _ (by omega) h1 hk rfl c hp (Oa _ c hp) w hx
     | ok ns=>exact Y5 t _ _ (by omega) h1 hk rfl ns hp rfl (fun e=>h ⟨by omega,hk,ns,hp,e⟩) w hx
   · exact Y1 t (by omega) _ rfl hk w
theorem acr (t own:ByteArray)(v:Value)(w:World)(hx:nG w)(h:¬ Jk t) :
 Calls Tryz.prog 12 #[.string t,.string own,v] w fun e w'=>e = .returned (.string t)∧Below w.heap.size w w':=by
 have HF:=ae (show Calls Tryz.prog 19 #[.string t] w _ from Y3 t h w hx);clear h hx;go_enter Tryz.func12,Tryz.ntmps12
 go_wp2_with (first
  | (go_at_call 19;((with_reducible refine HF.o.mono ?_);rintro e w2 ⟨rfl,hq1⟩;have H2:=ae hq1;clear hq1)))
 go_ret;exact⟨rfl,H2.o⟩
theorem afA (w:World)(x y:bu)(h:mq w w.heap.size x)(h2:mq w w.heap.size y):mW (w.alloc (.cells (gI x++gI y) 33)) (w.heap.size+1) (.slice (some ⟨w.heap.size,0,none⟩) 2 2) [x,y]:=by
 have hb:Below w.heap.size w (w.alloc (.cells (gI x++gI y) 33)):=Below.alloc (ai _ _) (ah _) _;refine⟨⟨_,2,rfl,ah 2,by decide,.inr ⟨w.heap.size,0,rfl,by omega,fun j u hj => ?_⟩⟩,fun z hz => ?_⟩
 · have e:CQ.all [x,y]=(gI x++gI y).toList:=by simp[Enc.all,CQ]
   rw[e]at hj;rw[Nat.zero_add];rw[World.cell?_alloc_new, ← Array.getElem?_toList];exact hj
 · rcases List.mem_cons.1 hz with rfl|hz
   · exact(h.below hb (ah _)).mono (by omega)
   · rw[List.mem_singleton.1 hz];exact(h2.below hb (ah _)).mono (by omega)
theorem agZ (w:World)(hx:nG w)(p own:ByteArray)(xs:List bu)(B:Option Addr)(m c:Nat)(hS:mW w w.heap.size (.slice B m c) xs)(hm:m≤1000000)(hO:∀x∈xs,og x.s)(ho:own.size≤maxLen)(ns:List Nd)(hs:(jC++p).size≤300)(hp:iB p (.ok ns))(qm:strOfNums (cB ns)=p)(hst:∀n∈ns,jN own (jq xs) n=n) :
 Calls Tryz.prog 12 #[.string (jC++p),.string own,.slice B m c] w fun e w'=>e = .returned (.string (jC++p))∧Below w.heap.size w w':=by
 have hz:(jC++p).size=1+p.size:=by rw[ByteArray.size_append];rfl
 have:=RV w (jC++p) p own xs B m c hx hS hm hO ho hs (by omega) (aaW p) (RQ jC p _ rfl rfl) ns hp qm;unfold BP at this;rw[ack _ _ _ hst,qm,if_pos hs]at this;exact this
theorem agU(s:ByteArray):¬ Jk (KR++s):=fun h=>absurd h.2.1 (by rw[aaX];decide)
theorem FN(n:Int):tZ (fH (cZ n)) (cZ n:Int):=⟨_,rfl,rfl⟩
theorem RZ:xM [] 0:=⟨by decide,by decide,by decide,Ag _ _ _ rfl⟩
theorem acy:xM (vH 5 1).1 (vH 5 1).2:=⟨by decide +kernel,by decide +kernel,by decide +kernel,Ag _ _ _ (by decide +kernel)⟩
theorem acz:xM (qx 3 0).1 (qx 3 0).2:=⟨by decide +kernel,by decide +kernel,by decide +kernel,Ag _ _ _ (by decide +kernel)⟩
theorem UY (w:World)(x y:bu)(h:mq w w.heap.size x)(h2:mq w w.heap.size y):∃w',w.alloc (.cells (gI x++gI y) 33)=w'∧Below w.heap.size w w'∧mW w' w'.heap.size (.slice (some ⟨w.heap.size,0,none⟩) 2 2) [x,y] :=
 ⟨_,rfl,Below.alloc (ai _ _) (ah _) _,(afA w x y h h2).mono (by rw[kK];exact ah _)⟩
theorem z65:(⟨#[65]⟩:ByteArray).size≤maxLen:=by decide
theorem z81:(⟨#[81]⟩:ByteArray).size≤maxLen:=by decide
theorem z82:(⟨#[82]⟩:ByteArray).size≤maxLen:=by decide
theorem z84:(⟨#[84]⟩:ByteArray).size≤maxLen:=by decide
def LX(n m:Int):Sf:=⟨⟨#[65]⟩,false,fH (cZ n),(cZ n:Int),fH (cZ m),(cZ m:Int)⟩
def LY(m:Int):Sf:=⟨⟨#[84]⟩,false,fH (cZ m),(cZ m:Int),fH (cZ 2),(cZ 2:Int)⟩
def Lc:Sf:=⟨⟨#[81]⟩,true,[],0,[],0⟩
def Ld:Sf:=⟨⟨#[82]⟩,false,(vH 5 1).1,(vH 5 1).2,(qx 3 0).1,(qx 3 0).2⟩
theorem agq(own:ByteArray)(ns:List Nd):∀n∈ns,jN own [] n=n:=fun n _=>RY own [] n (fun s hs=>by cases hs)
theorem ags (own:ByteArray)(n m:Int){ns:List Nd}(ht:bR ns=true):∀x∈ns,jN own [LX n m,LY m] x=x:=fun x hx =>
 acs own _ (fun s hs=>by
  rcases List.mem_cons.1 hs with rfl|hs
  · exact⟨rfl,FN n,FN m⟩
  · rw[List.mem_singleton.1 hs];exact⟨rfl,FN m,FN 2⟩) x (aeF ht x hx)
theorem agr {ns:List Nd}(hN:qa ns):∀x∈ns,jN ⟨#[65]⟩ [Lc,Ld] x=x:=fun x hx =>
 RY _ _ x (fun s hs=>by
  have h1:=(hN.jP x hx).1
  have h2:oH ⟨#[65]⟩ x=⟨#[65]⟩∨oH ⟨#[65]⟩ x=⟨#[84]⟩:=by
   unfold oH;rcases h1 with h1|h1
   · rw[if_pos h1];exact .inl rfl
   · rw[if_neg (by rw[h1];decide),h1];exact .inr rfl
  rcases List.mem_cons.1 hs with rfl|hs
  · rcases h2 with h2|h2 <;> rw[h2] <;> decide
  · rw[List.mem_singleton.1 hs];rcases h2 with h2|h2 <;> rw[h2] <;> decide)
theorem okA(n m:Int):og (LX n m):=⟨Ga n,Ga m⟩
theorem okT(m:Int):og (LY m):=⟨Ga m,Ga 2⟩
theorem okQ:og Lc:=⟨RZ,RZ⟩
theorem okR:og Ld:=⟨acy,acz⟩
theorem aco (w:World)(A:Option Addr)(n cap:Nat)(a b:Nat)(s:ByteArray)(hno:30<n∨300<s.size)(hx:nG w) :
 Calls Tryz.prog 3 #[.slice A n cap,.int .u8 (a:Int),.int .u8 (b:Int),.string s] w fun e w'=>e = .returned (.bool true)∧Below w.heap.size w w':=by
 have HA:=ae (Oo w hx);clear hx;by_cases h1:(30:Int)<(n:Int);rotate_left;have h2:(300:Int)<(s.size:Int):=by omega
 all_goals
  clear hno;go_enter Tryz.func3,Tryz.ntmps3
  go_wp2_with (first
   | (go_at_call 5;((with_reducible refine HA.o.mono ?_);rintro e w1 ⟨rfl,hq⟩;have H1:=ae hq;clear hq)))
  go_ret;exact⟨rfl,H1.o⟩
theorem acp (w:World)(A:Option Addr)(n cap:Nat)(a b:Nat)(s:ByteArray)(hmd:Calls Tryz.prog 7 #[.slice A n cap] w (ED w))(hx:nG w) :
 Calls Tryz.prog 3 #[.slice A n cap,.int .u8 (a:Int),.int .u8 (b:Int),.string s] w fun e w'=>e = .returned (.bool true)∧Below w.heap.size w w':=by
 by_cases hno:30<n∨300<s.size
 · exact aco w A n cap a b s hno hx
 have h1:¬ (30:Int)<(n:Int):=by omega
 have h2:¬ (300:Int)<(s.size:Int):=by omega
 have Iu:=ae hmd;have HX:=ae hx;have M8:=ae (fun (wq:World)(hq:Below w.heap.size w wq)=>Oo wq (hx.below hq));have tN:=ae ab9;clear hmd hx hno;go_enter Tryz.func3,Tryz.ntmps3
 go_upto_region 4 with (first
  | (go_at_call 7;((with_reducible refine Iu.o.mono ?_);rintro e w1 h;obtain⟨hb,A1,c1,l,rfl,hsn,hN⟩:=h.made;have vK:=ab8 hN;have HB1:=ae hb;have gu:=ae hsn;have HN:=ae hN;clear hb hsn hN h))
  | (go_at_call 6;((with_reducible refine(tN.o _ _ l gu.o HN.o).mono ?_);rintro e w2 ⟨rfl,hq⟩;have H2:=ae (HB1.o.trans (hq.mono HB1.o.size));clear hq)))
 obtain⟨ns,hns⟩:∃ns,l.map (·.1)=ns:=⟨_,rfl⟩;rw[hns]at HN ⊢;obtain⟨mb,hmb,hmc⟩:=aeY ns HN.o;obtain⟨t,ht⟩:∃t,(⟨#[61]⟩:ByteArray)++strOfNums (cB ns)=t:=⟨_,rfl⟩;have Nt:=ae (show ∀w:World,Calls Tryz.prog 8 #[.string t] w fun e w'=>e = .returned (.bool mb)∧Below w.heap.size w w' from by rw[← ht];exact hmc)
 have nY:=ae (show mb=true→∀(wq:World)(_:Below w.heap.size w wq)(xs:List bu)(B:Option Addr)(m c:Nat)(_:mW wq wq.heap.size (.slice B m c) xs)(_:m≤1000000)(_:∀x∈xs,og x.s)(_:∀x∈ns,jN ⟨#[65]⟩ (jq xs) x=x),Calls Tryz.prog 12 #[.string t,.string ⟨#[65]⟩,.slice B m c] wq fun e w'=>e = .returned (.string t)∧Below wq.heap.size wq w' from fun hm wq hq xs B m c hS h1 hO hst=>by
  rw[← ht];exact agZ wq (HX.o.below hq) _ ⟨#[65]⟩ xs B m c hS h1 hO z65 ns (hmb hm).1 (hmb hm).2 rfl hst)
 have AU:=ae (show mb=true→bR ns=true from fun hm=>(AY _ ns (hmb hm).2).1.2.2);rw[ht];clear hmb hmc ht vK hns gu HB1 Iu tN;cases mb
 · clear nY AU
   go_wp2_with (first
    | (go_at_call 8;((with_reducible refine(Nt.o _).mono ?_);rintro e w3 ⟨rfl,hq⟩;have H3:=ae (H2.o.trans (hq.mono H2.o.size));clear hq))
    | (go_at_call 5;((with_reducible refine(M8.o _ H3.o).mono ?_);rintro e w4 ⟨rfl,hq⟩;have H4:=ae (H3.o.trans (hq.mono H3.o.size));clear hq)))
   go_ret;exact⟨rfl,H4.o⟩
 · have Ey:=ae (fun (wq:World)(k:Int)=>(GN wq k).mono fun e w1 h=>DC (n:=(fH (cZ k)).length) h rfl)
   have Vo:=ae (fun (wq:World)=>(aeb wq 5 1).mono fun e w1 h=>DC (n:=(vH 5 1).1.length) h rfl);have yU:=ae (fun (wq:World)=>(TG wq 3 0).mono fun e w1 h=>DC (n:=(qx 3 0).1.length) h rfl);have HT1:=ae (nY.o rfl);have Ww:=ae (AU.o rfl);clear nY AU
   go_upto_region 7 with (first
    | (go_at_call 8;((with_reducible refine(Nt.o _).mono ?_);rintro e w3 ⟨rfl,hq⟩;have H3:=ae (H2.o.trans (hq.mono H2.o.size));clear hq))
    | (go_at_call 9;((with_reducible refine(Ey.o _ _).mono ?_);rintro e w7 ⟨D4,d4,rfl,hr,hq⟩;have qO:=ae (jS.o.trans (hq.mono jS.o.size));have HR4:=ae hr;have Ev:=ae hq;clear hq hr))
    | (go_at_call 9;((with_reducible refine(Ey.o _ _).mono ?_);rintro e w6 ⟨D3,d3,rfl,hr,hq⟩;have jS:=ae (fE.o.trans (hq.mono fE.o.size));have HR3:=ae hr;have vw:=ae hq;clear hq hr))
    | (go_at_call 9;((with_reducible refine(Ey.o _ _).mono ?_);rintro e w5 ⟨D2,d2,rfl,hr,hq⟩;have fE:=ae (H4.o.trans (hq.mono H4.o.size));have HR2:=ae hr;have rT:=ae hq;clear hq hr))
    | (go_at_call 9;((with_reducible refine(Ey.o _ _).mono ?_);rintro e w4 ⟨D1,d1,rfl,hr,hq⟩;have H4:=ae (H3.o.trans (hq.mono H3.o.size));have HR1:=ae hr;clear hq hr)))
   obtain⟨w8,hw8,PU,Qv⟩:=UY w7 ⟨LX (wrap64 (a:Int)) (wrap64 (b:Int)),D1,d1,D2,d2,z65⟩ ⟨LY (wrap64 (b:Int)),D3,d3,D4,d4,z84⟩ ⟨fQ.lift (fQ.lift (fQ.lift HR1.o rT.o) vw.o) Ev.o,fQ.lift (fQ.lift HR2.o vw.o) Ev.o⟩ ⟨fQ.lift HR3.o Ev.o,HR4.o⟩;have hw8:w7.alloc (.cells #[.string ⟨#[65]⟩,.slice D1 (fH (cZ (wrap64 (a:Int)))).length d1,.int .i64 (cZ (wrap64 (a:Int)):Int),.slice D2 (fH (cZ (wrap64 (b:Int)))).length d2,.int .i64 (cZ (wrap64 (b:Int)):Int),.bool false,.string ⟨#[84]⟩,.slice D3 (fH (cZ (wrap64 (b:Int)))).length d3,.int .i64 (cZ (wrap64 (b:Int)):Int),.slice D4 (fH (cZ 2)).length d4,.int .i64 (cZ 2:Int),.bool false] 33)=w8:=hw8;rw[hw8];have M5:=ae (qO.o.trans (PU.mono qO.o.size));have NL:=ae Qv;obtain⟨g1,hg1⟩:∃g1,w7.heap.size=g1:=⟨_,rfl⟩;rw[hg1]at NL ⊢;clear hw8 PU Qv hg1 HR1 HR2 HR3 HR4 rT vw Ev
   go_upto_region 8 with (first
    | (go_at_call 10;((with_reducible refine(Vo.o _).mono ?_);rintro e iN ⟨MZ,d5,rfl,hr,hq⟩;have M6:=ae (M5.o.trans (hq.mono M5.o.size));have vz:=ae hr;have NG:=ae hq;clear hq hr))
    | (go_at_call 11;((with_reducible refine(yU.o _).mono ?_);rintro e ML ⟨M0,d6,rfl,hr,hq⟩;have M4:=ae (M6.o.trans (hq.mono M6.o.size));have Cy:=ae hr;have IP:=ae hq;clear hq hr)))
   obtain⟨Eb,FI,JX,Qu⟩:=UY ML ⟨Lc,none,0,none,0,z81⟩ ⟨Ld,MZ,d5,M0,d6,z82⟩ ⟨fQ.nil _ _ _,fQ.nil _ _ _⟩ ⟨fQ.lift vz.o IP.o,Cy.o⟩;have FI:ML.alloc (.cells #[.string ⟨#[81]⟩,.slice none 0 0,.int .i64 0,.slice none 0 0,.int .i64 0,.bool true,.string ⟨#[82]⟩,.slice MZ (vH 5 1).1.length d5,.int .i64 (vH 5 1).2,.slice M0 (qx 3 0).1.length d6,.int .i64 (qx 3 0).2,.bool false] 33)=Eb:=FI;rw[FI];have Hw:=ae (M4.o.trans (JX.mono M4.o.size));have NK:=ae Qu;have V7:=ae (((NL.o.lift NG.o).lift IP.o).lift JX);obtain⟨g2,hg2⟩:∃g2,ML.heap.size=g2:=⟨_,rfl⟩;rw[hg2]at NK ⊢;clear FI JX Qu hg2 vz Cy NG IP;have hcu:¬ 9223372036854775807<1+s.size:=by omega
   go_upto_region 9 with fail
   obtain⟨u,hu⟩:∃u,(⟨#[39]⟩:ByteArray)++s=u:=⟨_,rfl⟩;have HU:=ae (fun (wq:World)(hq:Below w.heap.size w wq)(v:Value)=>(show Calls Tryz.prog 12 #[.string u,.string ⟨#[65]⟩,v] wq fun e w'=>e = .returned (.string u)∧Below wq.heap.size wq w' from acr u ⟨#[65]⟩ v wq (HX.o.below hq) (by rw[← hu];exact agU s)));rw[hu];clear hu;have AB:=ae (fun (wq:World)(hq:Below w.heap.size w wq)=>HT1.o wq hq [] none 0 0 ⟨fQ.nil _ _ _,fun x hx=>by cases hx⟩ (by omega) (fun x hx=>by cases hx) (agq _ ns))
   have Cg:=ae (fun (wq:World)(hq:Below w.heap.size w wq)(hq2:Below Eb.heap.size Eb wq)=>HT1.o wq hq _ (some ⟨g1,0,none⟩) 2 2 (V7.o.lift hq2) (by omega) (fun x hx=>by
    rcases List.mem_cons.1 hx with rfl|hx
    · exact okA _ _
    · rw[List.mem_singleton.1 hx];exact okT _) (ags ⟨#[65]⟩ (wrap64 (a:Int)) (wrap64 (b:Int)) Ww.o))
   have qP:=ae (fun (wq:World)(hq:Below w.heap.size w wq)(hq2:Below Eb.heap.size Eb wq)=>HT1.o wq hq _ (some ⟨g2,0,none⟩) 2 2 (NK.o.lift hq2) (by omega) (fun x hx=>by
    rcases List.mem_cons.1 hx with rfl|hx
    · exact okQ
    · rw[List.mem_singleton.1 hx];exact okR) (agr HN.o))
   go_wp2_with (first
    | (go_at_call 12;((with_reducible refine(AB.o _ Hw.o).mono ?_);rintro e w12 ⟨rfl,hq⟩;have Hy:=ae (Hw.o.trans (hq.mono Hw.o.size));have IQ:=ae hq;clear hq))
    | (go_at_call 12;((with_reducible refine(Cg.o _ Hy.o IQ.o).mono ?_);rintro e w13 ⟨rfl,hq⟩;have Hz:=ae (Hy.o.trans (hq.mono Hy.o.size));have VR:=ae (IQ.o.trans (hq.mono IQ.o.size));clear hq))
    | (go_at_call 12;((with_reducible refine(qP.o _ Hz.o VR.o).mono ?_);rintro e w14 ⟨rfl,hq⟩;have AA:=ae (Hz.o.trans (hq.mono Hz.o.size));clear hq))
    | (go_at_call 12;((with_reducible refine(HU.o _ (Below.alloc AA.o AA.o.size _) _).mono ?_);rintro e w15 ⟨rfl,hq⟩;have HV:=ae ((Below.alloc AA.o AA.o.size _).trans (hq.mono (Below.alloc AA.o AA.o.size _).size));clear hq))
    | (go_at_call 5;((with_reducible refine(M8.o _ HV.o).mono ?_);rintro e w16 ⟨rfl,hq⟩;have Vj:=ae (HV.o.trans (hq.mono HV.o.size));clear hq)))
   go_ret;exact⟨rfl,Vj.o⟩
theorem acn (w:World)(A:Option Addr)(n cap:Nat)(xs:List Int)(a b:Nat)(s:ByteArray)(hs:S8 w w.heap.size A n cap xs)(hx:nG w) :
 Calls Tryz.prog 3 #[.slice A n cap,.int .u8 (a:Int),.int .u8 (b:Int),.string s] w fun e w'=>e = .returned (.bool true)∧Below w.heap.size w w':=by
 have h1:=hs.le;have h2:=hs.max;have h3:maxLen≤9223372036854775807:=by decide
 exact acp w A n cap a b s (ab7 w A n cap xs hs (by omega)) hx
end Go.Proofs.YtaobhjliflomaaaGreatDoor
