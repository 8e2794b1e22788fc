import Derived.Test.YtdnooocmlhcpkaaGreatDoorMD6
import Derived.Deep.DeepCutAuto
set_option maxRecDepth 100000
set_option maxHeartbeats 64000000
namespace Go.Proofs.YtdnooocmlhcpkaaGreatDoor
open Go.RowKit
def CK:Array Value:=(List.replicate 9 (Value.string ⟨#[]⟩)++jv.map Value.string).toArray
theorem ae3(rk:Nat)(h:rk≤5):wrap64 ((rk:Int)+1+1)=(rk:Int)+2:=by unfold wrap64;omega
theorem ae4(rk:Nat)(h:rk≤5):IntKind.i64.wrap ((rk:Int)+1+1)=(rk:Int)+2:=by rw[dK];omega
theorem acJ:∀k:Nat,9≤k→k<20→CK[k]? = some (.string (jv.getD (k - 9) ⟨#[]⟩)):=by
 intro k h9 h20;have hk:k=9∨k=10∨k=11∨k=12∨k=13∨k=14∨k=15∨k=16∨k=17∨k=18∨k=19:=by omega
 rcases hk with rfl|rfl|rfl|rfl|rfl|rfl|rfl|rfl|rfl|rfl|rfl <;> rfl
def pg(w:World):Prop:=∃ty fr,w.heap[(0:Nat)]? = some (.cells CK ty fr)
theorem pg.below {w w':World}(h:pg w)(hb:Below w.heap.size w w'):pg w':=by
 obtain⟨ty,fr,h1⟩:=h;exact⟨ty,fr,by rw[hb.block _ (dZ.1 h1).1];exact h1⟩
theorem pg.cell {w:World}(h:pg w)(j:Nat):w.cell? ⟨(0:Nat),j,none⟩=CK[j]? := by
 obtain⟨ty,fr,h1⟩:=h;exact cell_of_row w _ j _ ty fr h1
theorem pg.lt {w:World}(h:pg w):0<w.heap.size:=by
 obtain⟨ty,fr,h1⟩:=h;exact(dZ.1 h1).1
theorem UM (w:World)(b:Nat)(nv:Value)(st:List av)(txt:List Int)(n:Nd)(A:Option Addr)(m c:Nat)(h:dC w b nv st txt)(kd:Nat)(hk:n.kind=(kd:Int))(h9:9≤kd)(h20:kd<20)(k0 k1:Int)(hk0:n.kids[0]? = some k0)(hk1:n.kids[1]? = some k1)(hsi:je w b (.slice A m c) n.kids)(hsv:pg w)(hgb:0<b)(hls:st.length≤2000000000) :
 Calls Tryz.prog 169 #[.pointer (some ⟨b,0,none⟩),.agg #[.int .i64 n.kind,.int .i64 n.num,.string n.text,.string n.ref.sh,.int .i64 n.ref.c,.int .i64 n.ref.r,.bool n.ref.ac,.bool n.ref.ar,.string n.ae.sh,.int .i64 n.ae.c,.int .i64 n.ae.r,.bool n.ae.ac,.bool n.ae.ar,.slice A m c]] w (Wrote w b nv st txt n):=by
 have hB:Below w.heap.size w (w.alloc (.cells #[.int .i64 n.kind,.int .i64 n.num,.string n.text,.string n.ref.sh,.int .i64 n.ref.c,.int .i64 n.ref.r,.bool n.ref.ac,.bool n.ref.ar,.string n.ae.sh,.int .i64 n.ae.c,.int .i64 n.ae.r,.bool n.ae.ac,.bool n.ae.ar,.slice A m c] 48)):=(ai _ _).alloc (ag _) _;have HN:aH (w.alloc (.cells #[.int .i64 n.kind,.int .i64 n.num,.string n.text,.string n.ref.sh,.int .i64 n.ref.c,.int .i64 n.ref.r,.bool n.ref.ac,.bool n.ref.ar,.string n.ae.sh,.int .i64 n.ae.c,.int .i64 n.ae.r,.bool n.ae.ac,.bool n.ae.ar,.slice A m c] 48)) w.heap.size n (.slice A m c):=aH.new w n _;have hbw:b<w.heap.size:=by obtain⟨wv,h1, -⟩:=h;exact h1.lt
 obtain⟨sg,hsg⟩:∃sg,jv.getD (kd - 9) ⟨#[]⟩=sg:=⟨_,rfl⟩;obtain⟨rk,ry⟩:∃rk:Nat,bz n.kind=rk:=⟨_,rfl⟩;have N8:rk≤5:=by rw[← ry];unfold bz;split <;> (try split) <;> (try split) <;> (try split) <;> (try split) <;> omega
 have hs:dR n=([],[av.op k0 ((rk:Int)+1),av.plain sg,av.op k1 ((rk:Int)+2)]):=by
  unfold dR;rw[if_neg (by omega),if_neg (by omega),if_neg (by omega),if_neg (by omega),if_neg (by omega),if_neg (by omega),if_neg (by omega),if_neg (by omega),iC,hk0,iC (l:=n.kids) (i:=1),hk1,ry,hk,show((kd:Int) - 9).toNat=kd - 9 by omega,hsg];rfl
 have tJ:=JB n.kind;rw[ry,hk]at tJ;have Iw:=hsi.below hB (Nat.le_of_lt hbw);obtain⟨A',cap',hsl,hcm, -,hcell⟩:=Iw;injection hsl with e1 e2 e3;have hpos:1<n.kids.length:=(dm.1 hk1).1;obtain⟨pb,po,hA,hpb,hcl⟩:=hcell.resolve_left (fun e=>by rw[e]at hpos;exact absurd hpos (by decide));have hc0:=hcl 0 k0 hk0;have hc1:=hcl 1 k1 hk1;rw[Nat.add_zero]at hc0;have hA2:=e1.trans hA;subst hA2;subst e3;clear e1 hA;have hm0:(0:Int)<(m:Int):=by omega
 have hm1:(1:Int)<(m:Int):=by omega
 have hm2:0<m:=by omega
 have hm3:1<m:=by omega
 have afH:(0:Int)≤(kd:Int):=by omega
 have afI:(kd:Int)<20:=by omega
 have afV:=ae3 rk N8;have afW:=ae4 rk N8;have hsc:(w.alloc (.cells #[.int .i64 n.kind,.int .i64 n.num,.string n.text,.string n.ref.sh,.int .i64 n.ref.c,.int .i64 n.ref.r,.bool n.ref.ac,.bool n.ref.ar,.string n.ae.sh,.int .i64 n.ae.c,.int .i64 n.ae.r,.bool n.ae.ac,.bool n.ae.ar,.slice (some ⟨pb,po,none⟩) m c] 48)).cell? ⟨(0:Nat),kd,none⟩=some (.string sg):=by rw[(hsv.below hB).cell kd,acJ kd h9 h20,hsg]
 have Ii:=(hsv.below hB).lt;have HS:=aa hs;have HB:=aa hB;have zH:=aa tJ;have vw:=aa (h.below hB);have rX:=aa hk;clear h hs hk hB hsi e2 hcl hpos hcell hk0 hk1 hsv hsg ry tJ;go_enter Tryz.func169,Tryz.ntmps169;go_upto_region 1 with (fail)
 obtain⟨z,hzz⟩:∃z,w.heap.size=z:=⟨_,rfl⟩;obtain⟨w1,hw1⟩:∃w1,w.alloc (.cells #[.int .i64 n.kind,.int .i64 n.num,.string n.text,.string n.ref.sh,.int .i64 n.ref.c,.int .i64 n.ref.r,.bool n.ref.ac,.bool n.ref.ar,.string n.ae.sh,.int .i64 n.ae.c,.int .i64 n.ae.r,.bool n.ae.ac,.bool n.ae.ar,.slice (some ⟨pb,po,none⟩) m c] 48)=w1:=⟨_,rfl⟩;rw[hw1]at HN HB vw hc0 hc1 hsc Ii ⊢;rw[hzz]at HN ⊢;have hzl:=HN.lt;have hzb:z≠b:=by omega
 have ed:=aa HN;have x0:=HN.cells.1;obtain⟨-, -, -, -, -, -, -, -, -, -, -, -, -,x1⟩:=HN.cells;rw[rX.o]at x0;have yF:b<w1.heap.size:=eU hbw HB.o.size;have hpl:pb<w1.heap.size:=by omega
 have hgl:0<w1.heap.size:=Ii;have x2:=hc0;have x3:=hc1;have x4:=hsc;clear hzz hw1 HN hc0 hc1 hsc Ii;go_upto_region 2 with (go_at_call 130;((with_reducible refine(zH.o _).mono ?_);rintro e w2 ⟨rfl,rfl⟩))
 have H1:=aa ((ai w1.heap.size w1).drew);have HP:=aa (fun (wr:World)(hr:Below w1.heap.size w1 wr)=>y7 wr b nv st [av.op k0 ((rk:Int)+1),av.plain sg,av.op k1 ((rk:Int)+2)] txt #[.string ⟨#[]⟩,.int .i64 k0,.int .i64 ((rk:Int)+1),.string sg,.int .i64 0,.int .i64 0,.string ⟨#[]⟩,.int .i64 k1,.int .i64 ((rk:Int)+2)] 3 rfl rfl (vw.o.below hr) (by show 3≤1000000;decide) hls);clear zH
 go_region_held3 (fun w'=>w'.cell? ⟨z,0,none⟩=some (.int .i64 (kd:Int))∧w'.cell? ⟨z,13,none⟩=some (.slice (some ⟨pb,po,none⟩) m c)∧w'.cell? ⟨pb,po,none⟩=some (.int .i64 k0)∧w'.cell? ⟨pb,po+1,none⟩=some (.int .i64 k1)∧w'.cell? ⟨(0:Nat),kd,none⟩=some (.string sg)) (go_keep) (first
  | (go_at_call 89;((with_reducible refine(Cw k0 ((rk:Int)+1) _).mono ?_);rintro e w3 ⟨rfl,h3⟩;have H3:=aa (H1.o.trans (h3.mono H1.o.size));have p0:=(H3.o.cell (p:=⟨z,0,none⟩) hzl).trans x0;have p1:=(H3.o.cell (p:=⟨z,13,none⟩) hzl).trans x1;have p2:=(H3.o.cell (p:=⟨pb,po,none⟩) hpl).trans x2;have p3:=(H3.o.cell (p:=⟨pb,po+1,none⟩) hpl).trans x3;have p4:=(H3.o.cell (p:=⟨(0:Nat),kd,none⟩) hgl).trans x4;clear h3))
  | (go_at_call 131;((with_reducible refine(EO _ _).mono ?_);rintro e w4 ⟨rfl,h3⟩;have H4:=aa (H3.o.trans (h3.mono H3.o.size));have q0:=(H4.o.cell (p:=⟨z,0,none⟩) hzl).trans x0;have q1:=(H4.o.cell (p:=⟨z,13,none⟩) hzl).trans x1;have q2:=(H4.o.cell (p:=⟨pb,po,none⟩) hpl).trans x2;have q3:=(H4.o.cell (p:=⟨pb,po+1,none⟩) hpl).trans x3;have q4:=(H4.o.cell (p:=⟨(0:Nat),kd,none⟩) hgl).trans x4;clear h3))
  | (go_at_call 89;((with_reducible refine(Cw k1 ((rk:Int)+2) _).mono ?_);rintro e w5 ⟨rfl,h3⟩;have aQ:=aa (H4.o.trans (h3.mono H4.o.size));have r0:=(aQ.o.cell (p:=⟨z,0,none⟩) hzl).trans x0;have r1:=(aQ.o.cell (p:=⟨z,13,none⟩) hzl).trans x1;have r2:=(aQ.o.cell (p:=⟨pb,po,none⟩) hpl).trans x2;have r3:=(aQ.o.cell (p:=⟨pb,po+1,none⟩) hpl).trans x3;have r4:=(aQ.o.cell (p:=⟨(0:Nat),kd,none⟩) hgl).trans x4;clear h3))
  | (go_at_call 88;((with_reducible refine(HP.o _ aQ.o).mono ?_);rintro e w6 ⟨rfl,h3,h4⟩;have zG:=aa h3;have cK:=aa h4;have iy:=cK.o.block z (eU hzl aQ.o.size) hzb (.inr fun cur fr=>by
      have h5:=aQ.o.block z hzl;have h6:w1.heap[z]? = some (.cells (fH n (.slice (some ⟨pb,po,none⟩) m c)) 48):=ed.o;rw[h5,h6];exact⟨fun e=>by(injection e with e;injection e with _ e2;exact absurd e2 (by decide)),fun e=>by(injection e with e;injection e with _ e2;exact absurd e2 (by decide))⟩);have hpk:=cK.o.block pb (eU hpl aQ.o.size) (Nat.ne_of_lt hpb) (.inl hpb);have zW:=cK.o.block 0 (eU hgl aQ.o.size) (Nat.ne_of_lt hgb) (.inl hgb);have t0:=(fI (a:=⟨z,0,none⟩) iy).trans r0;have t1:=(fI (a:=⟨z,13,none⟩) iy).trans r1;have t2:=(fI (a:=⟨pb,po,none⟩) hpk).trans r2;have t3:=(fI (a:=⟨pb,po+1,none⟩) hpk).trans r3;have t4:=(fI (a:=⟨(0:Nat),kd,none⟩) zW).trans r4;clear h3 h4 iy hpk zW)))
 all_goals go_wp2_with fail
 all_goals go_end0
 all_goals refine⟨rfl, ?_,(aZ.gJ HB.o).trans ((aZ.gJ aQ.o).trans cK.o)⟩
 all_goals rw[HS.o,fu]
 all_goals exact zG.o
end Go.Proofs.YtdnooocmlhcpkaaGreatDoor
namespace Go.Proofs.YtdnooocmlhcpkaaGreatDoor
open Go.RowKit Go.Shelf
attribute [local go_sem] Oper.semAt_some
def rq(xs:List Int)(q:Nat):List (Nat × Int):=(List.range (xs.length - q)).map fun j=>(xs.length - 1 - j,xs.getD (xs.length - 1 - j) 0)
theorem Mv(xs:List Int):rq xs xs.length=[]:=by unfold rq;simp
theorem Hm (xs:List Int)(m:Nat)(p:Int)(hp:xs[m]? = some p):rq xs m=rq xs (m+1)++[(m,p)]:=by
 have hl:=(dm.1 hp).1;unfold rq;rw[show xs.length - m=(xs.length - (m+1))+1 by omega,List.range_succ,iE];show _++[(xs.length - 1 - (xs.length - (m+1)),_)]=_;rw[show xs.length - 1 - (xs.length - (m+1))=m by omega,iC,hp];rfl
theorem U7(xs:List Int)(q:Nat):(rq xs q).length=xs.length - q:=by unfold rq;simp
def yQ(x:Nat × Int):List av:=if x.1=0 then [av.op x.2 1]else [av.op x.2 1,av.plain ⟨#[44]⟩]
def rC(pre:List (Nat × Int)):List av:=pre.flatMap yQ
theorem Es(pre:List (Nat × Int))(x:Nat × Int):rC (pre++[x])=rC pre++yQ x:=by unfold rC;simp
theorem Yq (pre:List (Nat × Int)):(rC pre).length≤2*pre.length:=by
 induction pre with
 | nil=>exact ag _
 | cons x pre ih =>
   show(yQ x++rC pre).length≤_;have h:(yQ x).length≤2:=by unfold yQ;split <;> simp
   rw[aj,aK];omega
def DY:List Int→List av
 | []=>[]
 | k :: ks=>av.plain ⟨#[44]⟩ :: av.op k 1 :: DY ks
theorem LW:∀(a:Int)(ks:List Int),mX (a :: ks)=av.op a 1 :: DY ks
 | a,[]=>rfl
 | a,b :: ks=>by show av.op a 1 :: av.plain ⟨#[44]⟩ :: mX (b :: ks)=_;rw[LW b ks];rfl
theorem Yp (xs:List Int)(q:Nat)(h1:1≤q)(h2:q≤xs.length):rC (rq xs q)=(DY (xs.drop q)).reverse:=by
 induction h:xs.length - q generalizing q with
 | zero =>
   have:q=xs.length:=by omega
   subst this;rw[Mv,List.drop_length];rfl
 | succ d ih =>
   obtain⟨p,hp⟩:∃p,xs[q]? = some p:=⟨_,bn (by omega)⟩;have hl:=(dm.1 hp).1;have he:xs[q]=p:=by rw[bn hl]at hp;exact dX hp
   rw[Hm xs q p hp,Es,ih (q+1) (by omega) (by omega) (by omega),List.drop_eq_getElem_cons hl,he];show _++yQ (q,p)=(av.plain ⟨#[44]⟩ :: av.op p 1 :: DY (xs.drop (q+1))).reverse;unfold yQ;rw[if_neg (show ¬ (q,p).1=0 by show ¬ q=0;omega),List.reverse_cons,List.reverse_cons,bO];rfl
theorem Yo:∀xs:List Int,rC (rq xs 0)=(mX xs).reverse
 | []=>rfl
 | a :: ks=>by
   rw[Hm (a :: ks) 0 a rfl,Es,Yp (a :: ks) 1 (by omega) (by simp),LW];show _++[av.op a 1]=_;rw[List.reverse_cons];rfl
theorem Ux (F:Fence)(n:Nat)(h7:F.fn 223)(hro:F.round=none)(hn:1≤n)(l Bs b po cap:Nat)(A:Option Addr)(xs:List Int)(hlen:xs.length≤1000000000)(J Jx:List (Nat × Int)→World→Prop)
 (hY:∀pre x W,J pre W→pre.length<xs.length→YieldAt F (n - 1) Tryz.prog l #[.int .i64 (x.1:Int),.int .i64 x.2] W fun e W' =>
   (e = .returned (.bool true)∧J (pre++[x]) W'∧jO Bs b W W')∨(e = .returned (.bool false)∧Jx (pre++[x]) W'))
 (W:World) (vK:W.cell? ⟨Bs,0,none⟩=some (.slice A xs.length cap)) (hc:∀m p,xs[m]? = some p→A=some ⟨b,po,none⟩∧W.cell? ⟨b,po+m,none⟩=some (.int .i64 p)) (h0:J [] W) :
 CallsIn F n Tryz.prog 223 #[.func (.yield l) #[] #[],.pointer (some ⟨Bs,0,none⟩)] W fun e W'=>(∃v,e = .returned v) ∧
  ((∃ys,ys=rq xs 0∧J ys W')∨(∃pre,True∧Jx pre W')):=by
 obtain⟨L,hL⟩:∃L,xs.length=L:=⟨_,rfl⟩;have HL:=aa hL;rw[hL]at hlen vK;refine callsIn_of_wp Tryz.func223 rfl h7 ?_ hro;simp only[Tryz.ntmps223,List.size_toArray,aK,dY,Nat.reduceAdd,Nat.reduceSub,Array.replicate_succ,Array.replicate_zero,List.push_toArray,List.append_toArray,fQ,dO];gi_wp2
 gi_loopw [3] (fun i wr=>∃q:Nat,q≤L∧i = .int .i64 ((q:Int) - 1)∧J (rq xs q) wr∧jO Bs b W wr)
  (fun i _=>(intOf i+1).toNat)
 case atStart=>exact⟨L,ag _,rfl,by rw[← hL,Mv];exact h0,jO.refl _ _ _⟩
 case round =>
  obtain⟨q,hq,rfl,hJs,hnx⟩:=hrel;have WC:=(hnx.cell1 0).trans vK;cases q with
  | zero =>
    gi_wp2
    go_end0;exact⟨⟨_,rfl⟩,.inl ⟨_,rfl,hJs⟩⟩
  | succ m =>
    obtain⟨p,hp⟩:∃p,xs[m]? = some p:=⟨_,bn (by omega)⟩;obtain⟨hA,c0⟩:=hc m p hp;have d0:=(hnx.D6 (po+m)).trans c0;have hst:=Hm xs m p hp;obtain⟨fn,tmps,assign,body,hy,hR⟩:=hY _ (m,p) wr hJs (by rw[U7];omega);rw[← hst]at hR;dsimp only at hy;have hm1:((m+1:Nat):Int) - 1=(m:Int):=by omega
    rw[hm1];have Xv:(m:Int)<(L:Int):=by omega
    have hm0:(0:Int)≤(m:Int):=by omega
    clear hm1 c0 hc hJs hst;subst hA;gi_wp2
    refine hR.mono ?_;rintro e W3 (⟨rfl,hJ3,hk3⟩|⟨rfl,hJx3⟩)
    · gi_wp2
      go_roundw
      case rel=>exact⟨m,by omega,by simp,hJ3,hnx.trans hk3⟩
      case measure=>simp[intOf]
    · gi_wp2
      refine bodyPost_ret (results_none rfl _ _ _) rfl ?_;exact⟨⟨_,rfl⟩,.inr ⟨_,trivial,hJx3⟩⟩
theorem UG (F:Fence)(n:Nat)(h5:F.fn 196)(hro:F.round=none)(a:Option Addr)(len cap:Nat)(w:World) :
 CallsIn F n Tryz.prog 196 #[.slice a len cap] w fun e w'=>e = .returned (.func (.func 223) #[] #[.pointer (some ⟨w.heap.size,0,none⟩)])∧w.alloc (.cells #[.slice a len cap] 46)=w':=by
 refine callsIn_of_wp Tryz.func196 rfl h5 ?_ hro;simp only[Tryz.ntmps196,List.size_toArray,aK,dY,Nat.reduceAdd,Nat.reduceSub,Array.replicate_succ,Array.replicate_zero,List.push_toArray,List.append_toArray,fQ,dO];gi_wp2
 go_ret;exact⟨rfl,rfl⟩
theorem Uy (F:Fence)(n:Nat)(h7:F.fn 223)(hro:F.round=none)(hn:1≤n)(Bs b po cap:Nat)(A:Option Addr)(xs:List Int)(hlen:xs.length≤1000000000)(w:World)(hB:Bs<w.heap.size)(hb:b<w.heap.size)
 (vK:w.cell? ⟨Bs,0,none⟩=some (.slice A xs.length cap)) (hc:∀m p,xs[m]? = some p→A=some ⟨b,po,none⟩∧w.cell? ⟨b,po+m,none⟩=some (.int .i64 p)) :
 SeqStopsK F n Tryz.prog 223 #[.pointer (some ⟨Bs,0,none⟩)] (fun x:Nat × Int=>#[Value.int .i64 (x.1:Int),.int .i64 x.2]) (jO Bs b) (fun ys=>ys=rq xs 0) (fun _=>True) xs.length w:=fun l J Jx W hW _ _ hY h0 =>
 Ux F n h7 hro hn l Bs b po cap A xs hlen J Jx hY W ((hW.cell hB).trans vK) (fun m p hp=>⟨(hc m p hp).1,(hW.cell (p:=⟨b,po+m,none⟩) hb).trans (hc m p hp).2⟩) h0
end Go.Proofs.YtdnooocmlhcpkaaGreatDoor
namespace Go.Proofs.YtdnooocmlhcpkaaGreatDoor
open Go.RowKit Go.Shelf
attribute [local go_sem] Oper.semAt_some
theorem dC.stay {A B:World}{b:Nat}{nv:Value}{st:List av}{txt:List Int}(h:dC A b nv st txt){row:Option Nat}(hg:A.grownBy B row)(hr:∀r,row=some r→∃o:Obj,A.heap[r]? = some o∧o.isCells=false):dC B b nv st txt:=by
 obtain⟨wv,h1,h2⟩:=h;exact⟨wv,j5.stay h1 hg hr,EK h2 hg hr⟩
theorem aZ.keeps {W W':World}{b B:Nat}(h:aZ W W' b)(hB:b<B):KeepsFrom B W W':=⟨h.size,fun k o hk ho hc=>by
 rw[h.block k (dZ.1 ho).1 (by omega) (.inr fun cur fr=>⟨fun e=>by(rw[ho]at e;cases e;cases hc),fun e=>by(rw[ho]at e;cases e;cases hc)⟩)];exact ho⟩
theorem aZ.boxed {W W':World}{b k:Nat}{t:TypeId}{v:Value}(h:aZ W W' b)(hb:Boxed W k t v)(hk:k≠b)(h1:t≠5)(h2:t≠139):W'.heap[k]? = W.heap[k]? := by
 have hb':W.heap[k]? = some (.cells #[v] t):=hb;exact h.block k (dZ.1 hb').1 hk (.inr fun cur fr=>⟨fun e=>by rw[hb']at e;injection e with e;injection e with _ e;exact h1 e,fun e=>by rw[hb']at e;injection e with e;injection e with _ e;exact h2 e⟩)
def KD (w:World)(b:Nat)(nv:Value)(st:List av)(txt:List Int)(z zs:Nat)(sv:Value)(pre:List (Nat × Int))(W:World):Prop :=
 dC W b nv (st++rC pre) txt∧Boxed W z 130 (.pointer (some ⟨b,0,none⟩))∧Boxed W zs 46 sv∧aZ w W b
theorem UX {w:World}{b:Nat}{nv:Value}{st:List av}{txt:List Int}{z zs:Nat}{sv:Value}{B:Nat}(hB:w.heap.size≤B):OwnFrom B (KD w b nv st txt z zs sv):=by
 rintro pre X Y row ⟨h1,h2,h3,h4⟩ hg hr;have hr2:∀r,row=some r→∃o:Obj,X.heap[r]? = some o∧o.isCells=false:=fun r e=>(hr r e).2
 exact⟨h1.stay hg hr2,wY hg hr2 h2,wY hg hr2 h3,h4.stay hg (fun r e=>bZ hB (hr r e).1)⟩
theorem U4 (w:World)(b:Nat)(nv:Value)(st:List av)(txt:List Int)(n:Nd)(A:Option Addr)(m c:Nat)(h:dC w b nv st txt)(hk:n.kind=7)(hz:n.text.size≤1000000)(hsi:je w b (.slice A m c) n.kids)(hl:txt.length≤1000000000)(hls:st.length+2*n.kids.length+1≤2000000000) :
 Calls Tryz.prog 167 #[.pointer (some ⟨b,0,none⟩),.agg #[.int .i64 n.kind,.int .i64 n.num,.string n.text,.string n.ref.sh,.int .i64 n.ref.c,.int .i64 n.ref.r,.bool n.ref.ac,.bool n.ref.ar,.string n.ae.sh,.int .i64 n.ae.c,.int .i64 n.ae.r,.bool n.ae.ac,.bool n.ae.ar,.slice A m c]] w (Wrote w b nv st txt n):=by
 have hs:dR n=(sb n.text++[40],mX n.kids++[av.plain ⟨#[41]⟩]):=by
  unfold dR;rw[if_neg (by omega),if_neg (by omega),if_neg (by omega),if_neg (by omega),if_neg (by omega),if_neg (by omega),if_pos hk]
 have hbw:b<w.heap.size:=by obtain⟨wv,h1, -⟩:=h;exact h1.lt
 have f1:¬ 9223372036854775807<n.text.size+(⟨#[40]⟩:ByteArray).size:=by show ¬ _<_+1;omega
 have f2:¬ 9223372036854775807<n.text.size+1:=by omega
 have f3:(n.text++(⟨#[40]⟩:ByteArray)).size=n.text.size+1:=by rw[ByteArray.size_append];rfl
 have HT:=aa (show sb (n.text++(⟨#[40]⟩:ByteArray))=sb n.text++[40]by rw[acw];rfl);have hB:Below w.heap.size w ((w.alloc (.cells #[(.pointer (some ⟨b,0,none⟩))] 130)).alloc (.cells #[.int .i64 n.kind,.int .i64 n.num,.string n.text,.string n.ref.sh,.int .i64 n.ref.c,.int .i64 n.ref.r,.bool n.ref.ac,.bool n.ref.ar,.string n.ae.sh,.int .i64 n.ae.c,.int .i64 n.ae.r,.bool n.ae.ac,.bool n.ae.ar,.slice A m c] 48)):=((ai _ w).alloc (ag _) _).alloc (by simp) _;have wV:Boxed ((w.alloc (.cells #[(.pointer (some ⟨b,0,none⟩))] 130)).alloc (.cells #[.int .i64 n.kind,.int .i64 n.num,.string n.text,.string n.ref.sh,.int .i64 n.ref.c,.int .i64 n.ref.r,.bool n.ref.ac,.bool n.ref.ar,.string n.ae.sh,.int .i64 n.ae.c,.int .i64 n.ae.r,.bool n.ae.ac,.bool n.ae.ar,.slice A m c] 48)) w.heap.size 130 (.pointer (some ⟨b,0,none⟩)):=(Boxed.new w 130 (.pointer (some ⟨b,0,none⟩))).alloc _
 have HN:aH ((w.alloc (.cells #[(.pointer (some ⟨b,0,none⟩))] 130)).alloc (.cells #[.int .i64 n.kind,.int .i64 n.num,.string n.text,.string n.ref.sh,.int .i64 n.ref.c,.int .i64 n.ref.r,.bool n.ref.ac,.bool n.ref.ar,.string n.ae.sh,.int .i64 n.ae.c,.int .i64 n.ae.r,.bool n.ae.ac,.bool n.ae.ar,.slice A m c] 48)) (w.heap.size+1) n (.slice A m c):=by
  have h:=aH.new (w.alloc (.cells #[(.pointer (some ⟨b,0,none⟩))] 130)) n (.slice A m c);rwa[kD]at h
 have HS:=aa hs;have HB:=aa hB;have HQ:=aa (h.below hB);have wO:=aa (hsi.below hB (Nat.le_of_lt hbw));have hsz:((w.alloc (.cells #[(.pointer (some ⟨b,0,none⟩))] 130)).alloc (.cells #[.int .i64 n.kind,.int .i64 n.num,.string n.text,.string n.ref.sh,.int .i64 n.ref.c,.int .i64 n.ref.r,.bool n.ref.ac,.bool n.ref.ar,.string n.ae.sh,.int .i64 n.ae.c,.int .i64 n.ae.r,.bool n.ae.ac,.bool n.ae.ar,.slice A m c] 48)).heap.size=w.heap.size+2:=by simp
 clear h hs hk hsi hB;refine(callsIn_wide (n:=6)).1 ?_;refine callsIn_of_wp_marks Tryz.func167 rfl trivial ?_ rfl;simp only[Tryz.ntmps167,List.size_toArray,aK,dY,Nat.reduceAdd,Nat.reduceSub,Array.replicate_succ,Array.replicate_zero,List.push_toArray,List.append_toArray,fQ,dO];gi_wp2
 obtain⟨w1,hw1⟩:∃w1,((w.alloc (.cells #[(.pointer (some ⟨b,0,none⟩))] 130)).alloc (.cells #[.int .i64 n.kind,.int .i64 n.num,.string n.text,.string n.ref.sh,.int .i64 n.ref.c,.int .i64 n.ref.r,.bool n.ref.ac,.bool n.ref.ar,.string n.ae.sh,.int .i64 n.ae.c,.int .i64 n.ae.r,.bool n.ae.ac,.bool n.ae.ar,.slice A m c] 48))=w1:=⟨_,rfl⟩;rw[hw1]at HN HB HQ wO wV hsz ⊢;obtain⟨z,hzz⟩:∃z,w.heap.size=z:=⟨_,rfl⟩;rw[hzz]at HN wV hsz ⊢;have hzl:z<w1.heap.size:=by omega
 have XT:z+1<w1.heap.size:=HN.lt;have hzb:z≠b:=by omega
 have Om:z+1≠b:=by omega
 have ed:=aa HN;have qR:=aa wV;have x0:=wV.cell;obtain⟨-, -,x2, -, -, -, -, -, -, -, -, -, -,aP⟩:=HN.cells;have HW:=aa (fun wr (hr:Below w1.heap.size w1 wr) wv (h1:j5 w1 b nv wv txt)=>qN wr b nv wv txt (n.text++(⟨#[40]⟩:ByteArray)) (h1.below hr) (by rw[f3];omega));have H1:=aa ((ai w1.heap.size w1).drew);clear hw1 HN wV f3;obtain⟨wv,hws,hown⟩:=HQ.o;have su:=aa hws;have HO:=aa hown;clear hws hown;refine wpIn_wide.2 ?_
 go_region_held3 (fun w'=>w'.cell? ⟨z,0,none⟩=some (.pointer (some ⟨b,0,none⟩))∧w'.cell? ⟨z+1,2,none⟩=some (.string n.text)) (go_keep) (first
  | (go_at_call 129;((with_reducible refine(HW.o _ H1.o wv su.o).mono ?_);rintro e w2 ⟨⟨x,rfl⟩,h3,h4⟩;have GQ:=aa h3;have bI:=aa h4;have iy:=bI.o.block z hzl hzb (.inr fun cur fr e=>by
      have h6:w1.heap[z]? = some (.cells #[.pointer (some ⟨b,0,none⟩)] 130):=qR.o;have h7:w1.drew.heap[z]? = w1.heap[z]? := rfl;rw[h7,h6]at e;injection e with e;injection e with _ e2;exact absurd e2 (by decide));have Eo:=bI.o.block (z+1) XT Om (.inr fun cur fr e=>by
      have h6:w1.heap[z+1]? = some (.cells (fH n (.slice A m c)) 48):=ed.o;have h7:w1.drew.heap[z+1]? = w1.heap[z+1]? := rfl;rw[h7,h6]at e;injection e with e;injection e with _ e2;exact absurd e2 (by decide));have p0:=(fI (a:=⟨z,0,none⟩) iy).trans x0;have p2:=(fI (a:=⟨z+1,2,none⟩) Eo).trans x2;have p13:=(fI (a:=⟨z+1,13,none⟩) Eo).trans aP;clear h3 h4)))
 gi_wp2
 have hbw2:w1.heap.size≤w2.heap.size:=bI.o.size;have GN:=aa (show dC w2 b nv st (txt++sb (n.text++(⟨#[40]⟩:ByteArray)))from dC.wrote (HO.o.below H1.o (ag _)) GQ.o bI.o);have xU:=aa (fun (w3:World)(h3:Below w2.heap.size w2 w3)=>y7 w3 b nv st [av.plain ⟨#[41]⟩] (txt++sb (n.text++(⟨#[40]⟩:ByteArray))) #[.string ⟨#[41]⟩,.int .i64 0,.int .i64 0] 1 rfl rfl (GN.o.below h3) (by show 1≤1000000;decide) (by omega));have HZ2:=aa iy;have TN:=aa Eo;have H2:=aa ((ai w2.heap.size w2).drew);have yM:z<w2.heap.size:=by omega
 have XU:z+1<w2.heap.size:=by omega
 clear x0 x2 aP iy Eo p2;refine wpIn_wide.2 ?_
 go_region_held3 (fun w'=>w'.cell? ⟨z,0,none⟩=some (.pointer (some ⟨b,0,none⟩))) (go_keep) (first
  | (go_at_call 131;((with_reducible refine(EO _ _).mono ?_);rintro e w3 ⟨rfl,h3⟩;have H3:=aa (H2.o.trans (h3.mono H2.o.size));have q0:=(H3.o.cell (p:=⟨z,0,none⟩) yM).trans p0;clear h3))
  | (go_at_call 88;((with_reducible refine(xU.o _ H3.o).mono ?_);rintro e w5 ⟨rfl,h3,h4⟩;have vz:=aa h3;have aL:=aa h4;have iy:=aZ.boxed aL.o (k:=z) (v := .pointer (some ⟨b,0,none⟩)) (t:=130) ((H3.o.block z yM).trans (HZ2.o.trans qR.o)) hzb (by decide) (by decide);have r0:=(fI (a:=⟨z,0,none⟩) iy).trans q0;clear h3 h4)))
 have hlt3:w2.heap.size≤w3.heap.size:=H3.o.size
 have N5:aH w5 (z+1) n (.slice A m c):=by
  unfold aH;have e1:w3.heap[z+1]? = some (.cells (fH n (.slice A m c)) 48):=(H3.o.block (z+1) XU).trans (TN.o.trans ed.o);rw[aL.o.block (z+1) (by omega) Om (.inr fun cur fr=>⟨fun e=>by(rw[e1]at e;injection e with e;injection e with _ e2;exact absurd e2 (by decide)),fun e=>by(rw[e1]at e;injection e with e;injection e with _ e2;exact absurd e2 (by decide))⟩)];exact e1
 obtain⟨-, -, -, -, -, -, -, -, -, -, -, -, -,aP⟩:=N5.cells;have KR:=aa (((aZ.gJ H1.o).trans (aZ.rD bI.o)).trans ((aZ.gJ H3.o).trans aL.o));have dU:Boxed w5 z 130 (.pointer (some ⟨b,0,none⟩)):=iy.trans ((H3.o.block z yM).trans (HZ2.o.trans qR.o));have xc:w3.heap.size≤w5.heap.size:=aL.o.size;have yF:b<w1.heap.size:=by omega
 have TZ:=wO.o.nP KR.o (ag _) yF;clear N5 iy q0 r0 p0
 gi_wp2_with (refine⟨trivial, ?_⟩;gi_at_call 196;refine(UG Fence.wide _ trivial rfl _ _ _ _).mono ?_;rintro e w' ⟨rfl,rfl⟩)
 have sK:=Boxed.new w5 46 (.slice A m c);have gT:Below w5.heap.size w5 (w5.alloc (.cells #[.slice A m c] 46)):=(ai _ _).alloc (ag _) _;have Md:=dU.alloc (.cells #[.slice A m c] 46);have Oa:(w5.alloc (.cells #[.slice A m c] 46)).heap.size=w5.heap.size+1:=by simp
 obtain⟨zs,hzs⟩:∃zs,w5.heap.size=zs:=⟨_,rfl⟩;obtain⟨w6,Oh⟩:∃w6,w5.alloc (.cells #[.slice A m c] 46)=w6:=⟨_,rfl⟩;rw[Oh]at sK gT Md Oa ⊢;rw[hzs]at sK Oa ⊢;have Ep:zs≠b:=by omega
 have af1:z≠zs:=by omega
 obtain⟨A',cap',hsl,hcm, -,hcell⟩:=TZ;injection hsl with e1 e2 e3;subst e1 e2 e3
 obtain ⟨pb,po,hpb,Ir,hcl⟩:∃pb po,pb<w6.heap.size∧(pb<b∨pb=zs)∧∀j y,n.kids[j]? = some y→A=some ⟨pb,po,none⟩∧w6.cell? ⟨pb,po+j,none⟩=some (.int .i64 y):=by
  rcases hcell with he|⟨pb,po,hA,hp,hc⟩
  · exact⟨zs,0,by omega,.inr rfl,fun j y hj=>by rw[he]at hj;cases hj⟩
  · exact⟨pb,po,by omega,.inl hp,fun j y hj=>⟨hA,(gT.cell (p:=⟨pb,po+j,none⟩) (by show pb<_;omega)).trans (hc j y hj)⟩⟩
 have zG:dC w6 b nv (st++[av.plain ⟨#[41]⟩]) (txt++sb (n.text++(⟨#[40]⟩:ByteArray))):=vz.o.below gT;have KQ:=aa ((aZ.gJ HB.o).trans (KR.o.trans (aZ.gJ gT)));have af0:z+2≤zs:=by omega
 clear hcell Oh hzs aP dU
 refine wpIn_rangeFunc_ownH (F:=Fence.wide) (n:=6) rfl (by omega) (gf:=223) (lb:=#[.pointer (some ⟨zs,0,none⟩)]) rfl trivial (enters_of Tryz.func223 (by kernel_rfl) rfl)
  (Uy Fence.wide 5 trivial rfl (by omega) zs pb po c A n.kids (by omega) w6 sK.lt hpb sK.cell hcl)
  jO.trans (RA sK.lt hpb) (ai _ _) (fun _=>rfl)
  (KD w6 b nv (st++[av.plain ⟨#[41]⟩]) (txt++sb (n.text++(⟨#[40]⟩:ByteArray))) z zs (.slice A n.kids.length c)) (fun _ _ _=>False)
  (UX (ag _)) (fun _ _ _ _ _ hs _ _=>hs) ⟨by rw[show rC []=[]from rfl,fu];exact zG,Md,sK,aZ.refl _ _⟩
  (fun y a' W=>a'={ tmps:=#[.pointer (some ⟨b,0,none⟩),.agg #[.int .i64 n.kind,.int .i64 n.num,.string n.text,.string n.ref.sh,.int .i64 n.ref.c,.int .i64 n.ref.r,.bool n.ref.ac,.bool n.ref.ar,.string n.ae.sh,.int .i64 n.ae.c,.int .i64 n.ae.r,.bool n.ae.ac,.bool n.ae.ar,.slice A n.kids.length c],.pointer (some ⟨z,0,none⟩),.pointer (some ⟨z+1,0,none⟩),.int .i64 (y.1:Int),.int .i64 y.2,.pointer (some ⟨b,0,none⟩),.pointer (some ⟨b,0,none⟩),.pointer (some ⟨b,2,none⟩),.pointer (some ⟨z+1,2,none⟩),.string n.text,.string (n.text++⟨#[40]⟩),.tuple #[x,.nilIface],.pointer (some ⟨b,0,none⟩),.agg #[.string ⟨#[41]⟩,.int .i64 0,.int .i64 0],.slice (some ⟨w3.heap.size,0,none⟩) 1 1,.tuple #[],.pointer (some ⟨z+1,13,none⟩),.slice A n.kids.length c,.func (.func 223) #[] #[.pointer (some ⟨zs,0,none⟩)],.int .i64 (y.1:Int),.int .i64 y.2,undef,undef,undef,undef,undef,undef,undef,undef,undef,undef,undef],defers:=[] })
  (fun _ _ _ _ _ _ h _ _=>h) ?assign ?body ?done ?stop
 case assign =>
  rintro l pre ⟨j,k⟩ W K hI hK;dsimp only;gi_wp2
  exact hK _ _ (KeepsFrom.refl _ _) (jO.refl _ _ _) hI rfl
 case body =>
  rintro l pre ⟨j,k⟩ a' W - - ⟨hQ,hbz,hbs,hF⟩ rfl hlen;have hkl:=Yq pre;have Hg:=hbz.cell;have TR:=aa hbz;have Oj:z<W.heap.size:=hbz.lt;have SQ:=aa (fun (wr:World)(hr:Below W.heap.size W wr)=>y7 wr b nv (st++[av.plain ⟨#[41]⟩]++rC pre) [av.op k 1] (txt++sb (n.text++(⟨#[40]⟩:ByteArray))) #[.string ⟨#[]⟩,.int .i64 k,.int .i64 1] 1 rfl rfl (hQ.below hr) (by show 1≤1000000;decide) (by rw[aj,aj];show st.length+1+_≤_;omega));have lL:(fun w'=>w'.cell? ⟨z,0,none⟩=some (.pointer (some ⟨b,0,none⟩))) W.drew:=Hg;dsimp only;gi_wp2
  refine JG (by kernel_rfl) (by kernel_rfl) (wpAny_of_held (S:=(fun w'=>w'.cell? ⟨z,0,none⟩=some (.pointer (some ⟨b,0,none⟩)))) _ _ _ _ ?_);show wpAnyH _ _ _ _ _ 5 #[false,false,false,false,false] _ _;refine hT 0 lL ?_ (hQ:=(fun _ _ _ h=>(by cases h.1))) (hy:=by(intro lC hSw;have e1:lC.cell? ⟨z,0,none⟩=some (.pointer (some ⟨b,0,none⟩)):=hSw;go_simp;try(with_reducible rfl)));refine hT 1 lL ?_ (hQ:=(fun _ _ _ h=>(by cases h.1)));refine hO 2 (fun K hK => ?_);go_simp;refine(Cw _ _ _).mono ?_;rintro e Kr ⟨rfl,h3⟩;have Dk:=aa ((ai W.heap.size W).drew.trans (h3.mono (ag _)));have Ll:(fun w'=>w'.cell? ⟨z,0,none⟩=some (.pointer (some ⟨b,0,none⟩))) Kr:=(Dk.o.cell (p:=⟨z,0,none⟩) Oj).trans Hg;clear h3;go_wp2_with fail
  refine hK.o _ _ Ll ?_;clear hK K;simp only[Act.put,sT,iT,iR];refine hO 3 (fun K hK => ?_);go_simp;refine hK.o _ _ ((((ai Kr.heap.size Kr).alloc (ag _) _).cell (p:=⟨z,0,none⟩) (eU Oj Dk.o.size)).trans Ll) ?_;clear hK K;simp only[Act.put,sT,iT,iR];refine hO 4 (fun K hK => ?_);go_simp;refine(SQ.o _ Dk.o).mono ?_;rintro e xL ⟨rfl,h3,h4⟩;have Le:=aa h3;have zz:=aa ((aZ.gJ Dk.o).trans h4);have DD:=aa (aZ.boxed zz.o TR.o hzb (by decide) (by decide));have Gz:(fun w'=>w'.cell? ⟨z,0,none⟩=some (.pointer (some ⟨b,0,none⟩))) xL:=(fI (a:=⟨z,0,none⟩) DD.o).trans Hg;clear h3 h4;go_wp2_with fail
  refine hK.o _ _ Gz ?_;clear hK K;simp only[Act.put,sT,iT,iR];refine wpAnyH_done (by kernel_rfl) ?_ _;refine⟨rfl, ?_⟩;have afJ:w6.heap.size≤W.heap.size:=hF.size
  have LU:∀ {W1 W2:World},aZ W1 W2 b→Boxed W1 zs 46 (.slice A n.kids.length c)→pb<W1.heap.size→jO zs pb W1 W2:=fun h1 h2 h3=>⟨h1.boxed h2 Ep (by decide) (by decide),by
   rcases Ir with h|rfl
   · exact h1.block pb h3 (by omega) (.inl h)
   · exact h1.boxed h2 Ep (by decide) (by decide)⟩
  cases j with
  | zero =>
    gi_wp2
    refine⟨zz.o.keeps (by omega),LU zz.o hbs (by omega), ?_,DD.o.trans hbz,(zz.o.boxed hbs Ep (by decide) (by decide)).trans hbs,hF.trans zz.o⟩;rw[Es, ← bO];exact Le.o
  | succ j =>
    have hj0:(0:Int)<((j+1:Nat):Int):=by omega
    have Ms:=Gz;have LF:=aa (show Boxed xL z 130 (.pointer (some ⟨b,0,none⟩))from DD.o.trans hbz);have Ol:z<xL.heap.size:=LF.o.lt;have SS:=aa (fun (wr:World)(hr:Below xL.heap.size xL wr)=>y7 wr b nv (st++[av.plain ⟨#[41]⟩]++rC pre++[av.op k 1].reverse) [av.plain ⟨#[44]⟩] (txt++sb (n.text++(⟨#[40]⟩:ByteArray))) #[.string ⟨#[44]⟩,.int .i64 0,.int .i64 0] 1 rfl rfl (Le.o.below hr) (by show 1≤1000000;decide) (by rw[aj,aj,aj];show st.length+1+_+1≤_;omega));have lL:(fun w'=>w'.cell? ⟨z,0,none⟩=some (.pointer (some ⟨b,0,none⟩))) xL.drew:=Gz;gi_wp2
    refine JG (by kernel_rfl) (by kernel_rfl) (wpAny_of_held (S:=(fun w'=>w'.cell? ⟨z,0,none⟩=some (.pointer (some ⟨b,0,none⟩)))) _ _ _ _ ?_);show wpAnyH _ _ _ _ _ 4 #[false,false,false,false] _ _;refine hT 0 lL ?_ (hQ:=(fun _ _ _ h=>(by cases h.1))) (hy:=by(intro lC hSw;have e1:lC.cell? ⟨z,0,none⟩=some (.pointer (some ⟨b,0,none⟩)):=hSw;go_simp;try(with_reducible rfl)));refine hO 1 (fun K hK => ?_);go_simp;refine(EO _ _).mono ?_;rintro e Kt ⟨rfl,h3⟩;have Dl:=aa ((ai xL.heap.size xL).drew.trans (h3.mono (ag _)));have Lm:(fun w'=>w'.cell? ⟨z,0,none⟩=some (.pointer (some ⟨b,0,none⟩))) Kt:=(Dl.o.cell (p:=⟨z,0,none⟩) Ol).trans Ms;clear h3;go_wp2_with fail
    refine hK.o _ _ Lm ?_;clear hK K;simp only[Act.put,sT,iT,iR];refine hO 2 (fun K hK => ?_);go_simp;refine hK.o _ _ ((((ai Kt.heap.size Kt).alloc (ag _) _).cell (p:=⟨z,0,none⟩) (eU Ol Dl.o.size)).trans Lm) ?_;clear hK K;simp only[Act.put,sT,iT,iR];refine hO 3 (fun K hK => ?_);go_simp;refine(SS.o _ Dl.o).mono ?_;rintro e wBb ⟨rfl,h3,h4⟩;have SY:=aa h3;have KS:=aa ((aZ.gJ Dl.o).trans h4);have LB:=aa (aZ.boxed KS.o LF.o hzb (by decide) (by decide));have Tn:(fun w'=>w'.cell? ⟨z,0,none⟩=some (.pointer (some ⟨b,0,none⟩))) wBb:=(fI (a:=⟨z,0,none⟩) LB.o).trans Ms;clear h3 h4;go_wp2_with fail
    refine hK.o _ _ Tn ?_;clear hK K;simp only[Act.put,sT,iT,iR];refine wpAnyH_done (by kernel_rfl) ?_ _;refine⟨rfl, ?_⟩;gi_wp2
    have Dp:=aa (zz.o.trans KS.o);refine⟨Dp.o.keeps (by omega),LU Dp.o hbs (by omega), ?_,LB.o.trans (DD.o.trans hbz),(Dp.o.boxed hbs Ep (by decide) (by decide)).trans hbs,hF.trans Dp.o⟩;rw[Es];have h:=SY.o;rw[bO (st++[av.plain ⟨#[41]⟩]++rC pre),bO (st++[av.plain ⟨#[41]⟩])]at h;exact h
 case done =>
  rintro D ys W hD rfl ⟨hQ,hbz,hbs,hF⟩ hK;gi_wp2
  have hg:=grownBy_putObj' W D (.deferred none);have hr:∀r,some D=some r→∃o:Obj,W.heap[r]? = some o∧o.isCells=false:=fun r e=>by cases e;exact⟨_,hK,rfl⟩
  refine⟨by simp,.inl ⟨_,_,rfl,run_takeDeferred hK, ?_⟩⟩;refine⟨_,results_none rfl _ _ _,rfl, ?_,(KQ.o.trans hF).stay hg (fun r e=>by cases e;have:=KQ.o.size;omega)⟩;rw[HS.o];rw[Yo,HT.o]at hQ;rw[show(mX n.kids++[av.plain ⟨#[41]⟩]).reverse=[av.plain ⟨#[41]⟩]++(mX n.kids).reverse from by rw[List.reverse_append];rfl, ← bO];exact hQ.stay hg hr
 case stop =>
  rintro D c pre W _ _ h _;exact h.elim
end Go.Proofs.YtdnooocmlhcpkaaGreatDoor
namespace Go.Proofs.YtdnooocmlhcpkaaGreatDoor
open Go.RowKit
def l6(w0 w:World)(b:Nat):Prop:=w0.heap.size≤b∧Below w0.heap.size w0 w∧jN w0∧o9 w0∧pg w0
theorem l6.nP {w0 w w':World}{b:Nat}(h:l6 w0 w b)(hf:aZ w w' b):l6 w0 w' b:=by
 obtain⟨h1,h2,h3⟩:=h;exact⟨h1,⟨hf.os.trans h2.os,hf.tape.trans h2.tape,hf.output.trans h2.output,bZ h2.size hf.size,fun k hk=>(hf.block k (eU hk h2.size) (by omega) (.inl (by omega))).trans (h2.block k hk)⟩,h3⟩
theorem l6.tab{w0 w:World}{b:Nat}(h:l6 w0 w b):jN w:=h.2.2.1.below h.2.1
theorem l6.Zj{w0 w:World}{b:Nat}(h:l6 w0 w b):o9 w:=h.2.2.2.1.below h.2.1
theorem l6.shV{w0 w:World}{b:Nat}(h:l6 w0 w b):pg w:=h.2.2.2.2.below h.2.1
theorem l6.max_lt {w0 w:World}{b:Nat}(h:l6 w0 w b):8<b:=by
 obtain⟨h1, -, -,⟨m,hm⟩, -⟩:=h;exact eU (World.block_lt_of_cell? w0 _ hm) h1
theorem l6.acP{w0 w:World}{b:Nat}(h:l6 w0 w b):0<b:=eU h.2.2.2.2.lt h.1
theorem YJ {n:Nd}(h:fo n=true)(hk:n.kind=1):0≤n.num:=by
 have h:=(pE h).2.2.2.2.2;unfold aD at h;split at h
 · cases h
 · exact decide_eq_true_iff.1 h
theorem PI (w0 w:World)(b:Nat)(nv:Value)(st:List av)(txt:List Int)(n:Nd)(A:Option Addr)(m c:Nat)(hg:l6 w0 w b)(h:dC w b nv st txt)(hn:fo n=true)(bE:n.num≤9223372036854775807)(hz:n.text.size≤1000000)(hz1:n.ref.sh.size≤1000000)(hz2:n.ae.sh.size≤1000000)(hsi:je w b (.slice A m c) n.kids)(hl:txt.length≤1000000000)(hls:st.length+2*n.kids.length+1≤2000000000) :
 Calls Tryz.prog (ll n.kind) #[.pointer (some ⟨b,0,none⟩),.agg #[.int .i64 n.kind,.int .i64 n.num,.string n.text,.string n.ref.sh,.int .i64 n.ref.c,.int .i64 n.ref.r,.bool n.ref.ac,.bool n.ref.ar,.string n.ae.sh,.int .i64 n.ae.c,.int .i64 n.ae.r,.bool n.ae.ac,.bool n.ae.ar,.slice A m c]] w (Wrote w b nv st txt n):=by
 obtain⟨a1,a2, -,b1,b2, -⟩:=pE hn;have hst:st.length≤2000000000:=by omega
 by_cases hk:n.kind=1
 · rw[show ll n.kind=161 from by rw[hk];rfl]
   exact Z6 w b nv st txt n A m c h hk n.num.toNat (by have:=YJ hn hk;omega) (by omega) hg.tab hl
 have h1:=hk;clear hk;by_cases hk:n.kind=2
 · rw[show ll n.kind=162 from by rw[hk];rfl]
   exact aaZ w b nv st txt n A m c h hk hz hg.Zj hg.max_lt hl
 have h2:=hk;clear hk;by_cases hk:n.kind=3
 · rw[show ll n.kind=163 from by rw[hk];rfl]
   by_cases hv:n.num=1
   · exact aes w b nv st txt n A m c h hk hv hl
   · exact aer w b nv st txt n A m c h hk hv hl
 have h3:=hk;clear hk;by_cases hk:n.kind=4
 · rw[show ll n.kind=164 from by rw[hk];rfl]
   exact VE w b nv st txt n A m c h hk hl
 have h4:=hk;clear hk;by_cases hk:n.kind=5
 · rw[show ll n.kind=165 from by rw[hk];rfl]
   exact aaB w b nv st txt n A m c h hk hz1 hg.tab hl
 have h5:=hk;clear hk;by_cases hk:n.kind=6
 · rw[show ll n.kind=166 from by rw[hk];rfl]
   exact aaC w b nv st txt n A m c h hk hz1 hz2 hg.tab hl
 have h6:=hk;clear hk;by_cases hk:n.kind=7
 · rw[show ll n.kind=167 from by rw[hk];rfl]
   exact U4 w b nv st txt n A m c h hk hz hsi hl hls
 have h7:=hk;clear hk;by_cases hk:n.kind=8
 · rw[show ll n.kind=168 from by rw[hk];rfl]
   have hl1:=a1 hk;exact Zz w b nv st txt n A m c h hk _ (bn (by omega:0<n.kids.length)) hsi hl hst
 have h8:=hk;clear hk;have hl2:=a2 (by omega);rw[show ll n.kind=169 from by unfold ll;rw[if_neg h1,if_neg h2,if_neg h3,if_neg h4,if_neg h5,if_neg h6,if_neg h7,if_neg h8]];exact UM w b nv st txt n A m c h n.kind.toNat (by omega) (by omega) (by omega) _ _ (bn (by omega:0<n.kids.length)) (bn (by omega:1<n.kids.length)) hsi hg.shV hg.acP hst
def jl (w:World)(B:Nat)(v:Value)(vs:List (Nd × Value)):Prop :=
 (∃A cap,v = .slice A vs.length cap∧(vs=[]∨∃pb po,A=some ⟨pb,po,none⟩∧pb<B∧∀(i:Nat)(n:Nd)(k:Value),vs[i]? = some (n,k)→∀j,j<14→w.cell? ⟨pb,po+i*14+j,none⟩=(fH n k).toList[j]?))∧∀p∈vs,je w B p.2 p.1.kids
def SZ(vs:List (Nd × Value)):Prop:=vs.length≤1000∧∀p∈vs,p.1.text.size≤1000000∧p.1.ref.sh.size≤1000000∧p.1.ae.sh.size≤1000000
theorem Zy (s:ByteArray)(h:¬ s=⟨#[]⟩):s.toList.isEmpty=false:=by
 cases hq:s.toList with
 | nil=>exact absurd hq (p8 s (fun e=>h (rJ s e)))
 | cons a l=>rfl
theorem ae8 (w:World)(b:Nat)(nv:Value)(st:List av)(txt:List Int)(p:av)(h:dC w b nv st txt)(hp:¬ p.t=⟨#[]⟩)(hz:txt.length+p.t.size≤1000000000) :
 Calls Tryz.prog 90 #[.pointer (some ⟨b,0,none⟩),.agg #[.string p.t,.int .i64 p.node,.int .i64 p.least]] w fun e w'=>e = .returned (.tuple #[])∧dC w' b nv st (txt++sb p.t)∧aZ w w' b:=by
 have hB:Below w.heap.size w (w.alloc (.cells #[.string p.t,.int .i64 p.node,.int .i64 p.least] 139)):=(ai _ _).alloc (ag _) _;have HP:ic (w.alloc (.cells #[.string p.t,.int .i64 p.node,.int .i64 p.least] 139)) w.heap.size p:=ic.new w p;have hbw:b<w.heap.size:=by obtain⟨wv,h1, -⟩:=h;exact h1.lt
 have hne:=Zy p.t hp;have HB:=aa hB;have HQ:=aa (h.below hB);clear h hp hB;go_enter Tryz.func90,Tryz.ntmps90;go_upto_region 1 with (fail)
 obtain⟨z,hzz⟩:∃z,w.heap.size=z:=⟨_,rfl⟩;obtain⟨w1,hw1⟩:∃w1,w.alloc (.cells #[.string p.t,.int .i64 p.node,.int .i64 p.least] 139)=w1:=⟨_,rfl⟩;rw[hw1]at HP HB HQ ⊢;rw[hzz]at HP ⊢;have hzl:z<w1.heap.size:=(dZ.1 HP).1;have hzb:z≠b:=by omega
 obtain⟨x0,x1,x2⟩:=HP.cells;have bJ:=aa HP;clear hzz hw1 HP;go_upto_region 2 with (fail)
 obtain⟨wv,hws,hown⟩:=HQ.o;have HW:=aa (qN w1.drew b nv wv txt p.t (hws.below ((ai w1.heap.size w1).drew)) (by omega));have HO:=aa hown;have H1:=aa ((ai w1.heap.size w1).drew);clear hws hown
 go_region_held3 (fun w'=>w'.cell? ⟨z,0,none⟩=some (.string p.t)) (first|go_keep|exact S0) (first
  | (go_at_call 129;((with_reducible refine HW.o.mono ?_);rintro e w2 ⟨⟨x,rfl⟩,h3,h4⟩;have GQ:=aa h3;have bI:=aa h4;have S0:=(fI (a:=⟨z,0,none⟩) (bI.o.block z hzl hzb (.inr fun cur fr e=>by
      have h6:w1.heap[z]? = some (.cells (lu p) 139):=bJ.o;have h7:w1.drew.heap[z]? = w1.heap[z]? := rfl;rw[h7,h6]at e;injection e with e;injection e with _ e2;exact absurd e2 (by decide)))).trans x0)))
 all_goals go_wp2_with fail
 all_goals refine bodyPost_ret (results_none rfl _ _ _) rfl ?_
 all_goals exact⟨rfl,dC.wrote (HO.o.below H1.o (ag _)) GQ.o bI.o,(aZ.gJ HB.o).trans ((aZ.gJ H1.o).trans (aZ.rD bI.o))⟩
theorem Px (k:Int):∀args (v:World),(callFunc (ll k) args).run Tryz.prog v = .ok (.enter (ll k) args) v:=by
 unfold ll;split
 · exact Go.Proofs.enters_of Tryz.func161 (by kernel_rfl) rfl
 split
 · exact Go.Proofs.enters_of Tryz.func162 (by kernel_rfl) rfl
 split
 · exact Go.Proofs.enters_of Tryz.func163 (by kernel_rfl) rfl
 split
 · exact Go.Proofs.enters_of Tryz.func164 (by kernel_rfl) rfl
 split
 · exact Go.Proofs.enters_of Tryz.func165 (by kernel_rfl) rfl
 split
 · exact Go.Proofs.enters_of Tryz.func166 (by kernel_rfl) rfl
 split
 · exact Go.Proofs.enters_of Tryz.func167 (by kernel_rfl) rfl
 split
 · exact Go.Proofs.enters_of Tryz.func168 (by kernel_rfl) rfl
 exact Go.Proofs.enters_of Tryz.func169 (by kernel_rfl) rfl
theorem ae6 (w0 w:World)(b:Nat)(nv:Value)(vs:List (Nd × Value))(st:List av)(txt:List Int)(i:Nat)(least:Int)(n:Nd)(k:Value)(hg:l6 w0 w b)(h:dC w b nv st txt)(hsn:jl w b nv vs)(hz:SZ vs)(hnk:vs[i]? = some (n,k))(hnb:fo n=true)(bE:n.num≤9223372036854775807)(hr:¬ (bz n.kind:Int)+1<least)(hl:txt.length+1≤1000000000)(hls:st.length+2*n.kids.length+2≤2000000000) :
 Calls Tryz.prog 90 #[.pointer (some ⟨b,0,none⟩),.agg #[.string ⟨#[]⟩,.int .i64 (i:Int),.int .i64 least]] w fun e w'=>e = .returned (.tuple #[])∧dC w' b nv (st++(dR n).2.reverse) (txt++(dR n).1)∧aZ w w' b:=by
 obtain⟨⟨A,cap,rfl,hat⟩,tq⟩:=hsn;obtain⟨hlen,hsz⟩:=hz;have hil:i<vs.length:=(dm.1 hnk).1;have hmem:=dz hnk;obtain⟨hz1,hz2,hz3⟩:=hsz _ hmem;have pK:je w b k n.kids:=tq _ hmem;obtain⟨aJ,ck,hk,hkc,dh,_⟩:=id pK;obtain⟨nl,hnl⟩:∃nl,vs.length=nl:=⟨_,rfl⟩;obtain⟨m,hm⟩:∃m,n.kids.length=m:=⟨_,rfl⟩;rw[hm]at hk;subst hk;rw[hnl]at hlen hil h ⊢;have hi0:(0:Int)≤(i:Int):=by omega
 have hi1:(i:Int)<(nl:Int):=by omega
 obtain⟨pb,po,rfl,Ir,hcells⟩:=hat.resolve_left (fun e=>by rw[e]at hnk;cases hnk);have hcell:=hcells i n _ hnk;have hbw:b<w.heap.size:=by obtain⟨wv,h1, -⟩:=h;exact h1.lt
 have hB:Below w.heap.size w (w.alloc (.cells #[.string ⟨#[]⟩,.int .i64 (i:Int),.int .i64 least] 139)):=(ai _ _).alloc (ag _) _;have HP:ic (w.alloc (.cells #[.string ⟨#[]⟩,.int .i64 (i:Int),.int .i64 least] 139)) w.heap.size ⟨⟨#[]⟩,(i:Int),least⟩:=ic.new w ⟨⟨#[]⟩,(i:Int),least⟩;have HB:=aa hB;have HQ:=aa (h.below hB);have HG:=aa (hg.nP (aZ.gJ hB));have wO:=aa (pK.below hB (Nat.le_of_lt hbw));have hpb:pb<w.heap.size:=by omega
 obtain⟨rk,ry⟩:∃rk:Nat,bz n.kind=rk:=⟨_,rfl⟩;have tJ:=JB n.kind;rw[ry]at tJ hr;have zH:=aa tJ;have tC:=Py n.kind;have hen:=Px n.kind;obtain⟨Cr,uQ⟩:∃Cr,ll n.kind=Cr:=⟨_,rfl⟩;rw[uQ]at tC hen;have wK:=aa tC;have ql:=aa hnb;have HZ1:=aa hz1;have HZ2:=aa hz2;have HZ3:=aa hz3;have F8:=aa uQ;have HM:=aa hm;clear h hg hB pK hkc dh hat tq hsz hcells hmem hnl hnk hlen tJ tC ry uQ hnb hz1 hz2 hz3 hm;go_enter Tryz.func90,Tryz.ntmps90;go_upto_region 1 with (fail)
 obtain⟨z,hzz⟩:∃z,w.heap.size=z:=⟨_,rfl⟩;obtain⟨w1,hw1⟩:∃w1,w.alloc (.cells #[.string ⟨#[]⟩,.int .i64 (i:Int),.int .i64 least] 139)=w1:=⟨_,rfl⟩;rw[hw1]at HP HB HQ HG wO ⊢;rw[hzz]at HP ⊢;have k0:w1.cell? ⟨pb,po+i*14,none⟩=some (.int .i64 n.kind):=(HB.o.cell (p:=⟨pb,po+i*14,none⟩) hpb).trans (hcell 0 (by omega));have k1:w1.cell? ⟨pb,po+i*14+1,none⟩=some (.int .i64 n.num):=(HB.o.cell (p:=⟨pb,po+i*14+1,none⟩) hpb).trans (hcell 1 (by omega));have k2:w1.cell? ⟨pb,po+i*14+2,none⟩=some (.string n.text):=(HB.o.cell (p:=⟨pb,po+i*14+2,none⟩) hpb).trans (hcell 2 (by omega));have k3:w1.cell? ⟨pb,po+i*14+3,none⟩=some (.string n.ref.sh):=(HB.o.cell (p:=⟨pb,po+i*14+3,none⟩) hpb).trans (hcell 3 (by omega));have k4:w1.cell? ⟨pb,po+i*14+4,none⟩=some (.int .i64 n.ref.c):=(HB.o.cell (p:=⟨pb,po+i*14+4,none⟩) hpb).trans (hcell 4 (by omega));have k5:w1.cell? ⟨pb,po+i*14+5,none⟩=some (.int .i64 n.ref.r):=(HB.o.cell (p:=⟨pb,po+i*14+5,none⟩) hpb).trans (hcell 5 (by omega));have k6:w1.cell? ⟨pb,po+i*14+6,none⟩=some (.bool n.ref.ac):=(HB.o.cell (p:=⟨pb,po+i*14+6,none⟩) hpb).trans (hcell 6 (by omega));have k7:w1.cell? ⟨pb,po+i*14+7,none⟩=some (.bool n.ref.ar):=(HB.o.cell (p:=⟨pb,po+i*14+7,none⟩) hpb).trans (hcell 7 (by omega));have k8:w1.cell? ⟨pb,po+i*14+8,none⟩=some (.string n.ae.sh):=(HB.o.cell (p:=⟨pb,po+i*14+8,none⟩) hpb).trans (hcell 8 (by omega));have k9:w1.cell? ⟨pb,po+i*14+9,none⟩=some (.int .i64 n.ae.c):=(HB.o.cell (p:=⟨pb,po+i*14+9,none⟩) hpb).trans (hcell 9 (by omega));have k10:w1.cell? ⟨pb,po+i*14+10,none⟩=some (.int .i64 n.ae.r):=(HB.o.cell (p:=⟨pb,po+i*14+10,none⟩) hpb).trans (hcell 10 (by omega));have k11:w1.cell? ⟨pb,po+i*14+11,none⟩=some (.bool n.ae.ac):=(HB.o.cell (p:=⟨pb,po+i*14+11,none⟩) hpb).trans (hcell 11 (by omega));have k12:w1.cell? ⟨pb,po+i*14+12,none⟩=some (.bool n.ae.ar):=(HB.o.cell (p:=⟨pb,po+i*14+12,none⟩) hpb).trans (hcell 12 (by omega));have k13:w1.cell? ⟨pb,po+i*14+13,none⟩=some (.slice aJ m ck):=(HB.o.cell (p:=⟨pb,po+i*14+13,none⟩) hpb).trans (hcell 13 (by omega));have hzl:z<w1.heap.size:=(dZ.1 HP).1;have hzb:z≠b:=by omega
 have yF:b<w1.heap.size:=by omega
 have yI:pb<w1.heap.size:=by omega
 obtain⟨x0,x1,x2⟩:=HP.cells;have xb:w1.cell? ⟨b,0,none⟩=some (.slice (some ⟨pb,po,none⟩) nl cap):=by obtain⟨wv,⟨ad,bv,h1, -⟩, -⟩:=HQ.o;exact h1.facts.1
 have bJ:=aa HP;dsimp only at x0 x1 x2;clear hzz hw1 HP hcell;go_upto_region 2 with (fail)
 go_upto_region 3 with (fail)
 go_region_held3 (fun w'=>w'.cell? ⟨b,0,none⟩=some (.slice (some ⟨pb,po,none⟩) nl cap)∧w'.cell? ⟨z,1,none⟩=some (.int .i64 (i:Int))∧w'.cell? ⟨pb,po+i*14,none⟩=some (.int .i64 n.kind)∧w'.cell? ⟨pb,po+i*14+1,none⟩=some (.int .i64 n.num)∧w'.cell? ⟨pb,po+i*14+2,none⟩=some (.string n.text)∧w'.cell? ⟨pb,po+i*14+3,none⟩=some (.string n.ref.sh)∧w'.cell? ⟨pb,po+i*14+4,none⟩=some (.int .i64 n.ref.c)∧w'.cell? ⟨pb,po+i*14+5,none⟩=some (.int .i64 n.ref.r)∧w'.cell? ⟨pb,po+i*14+6,none⟩=some (.bool n.ref.ac)∧w'.cell? ⟨pb,po+i*14+7,none⟩=some (.bool n.ref.ar)∧w'.cell? ⟨pb,po+i*14+8,none⟩=some (.string n.ae.sh)∧w'.cell? ⟨pb,po+i*14+9,none⟩=some (.int .i64 n.ae.c)∧w'.cell? ⟨pb,po+i*14+10,none⟩=some (.int .i64 n.ae.r)∧w'.cell? ⟨pb,po+i*14+11,none⟩=some (.bool n.ae.ac)∧w'.cell? ⟨pb,po+i*14+12,none⟩=some (.bool n.ae.ar)∧w'.cell? ⟨pb,po+i*14+13,none⟩=some (.slice aJ m ck)) (go_keep) (fail)
 have HN:=aH.drew (aH.new w1 n (.slice aJ m ck));have HB2:=(((ai w1.heap.size w1).alloc (ag _) (.cells #[.int .i64 n.kind,.int .i64 n.num,.string n.text,.string n.ref.sh,.int .i64 n.ref.c,.int .i64 n.ref.r,.bool n.ref.ac,.bool n.ref.ar,.string n.ae.sh,.int .i64 n.ae.c,.int .i64 n.ae.r,.bool n.ae.ac,.bool n.ae.ar,(.slice aJ m ck)] 48))).drew;obtain⟨z2,hz2⟩:∃z2,w1.heap.size=z2:=⟨_,rfl⟩;obtain⟨w2,hw2⟩:∃w2,((w1.alloc (.cells #[.int .i64 n.kind,.int .i64 n.num,.string n.text,.string n.ref.sh,.int .i64 n.ref.c,.int .i64 n.ref.r,.bool n.ref.ac,.bool n.ref.ar,.string n.ae.sh,.int .i64 n.ae.c,.int .i64 n.ae.r,.bool n.ae.ac,.bool n.ae.ar,(.slice aJ m ck)] 48)).drew)=w2:=⟨_,rfl⟩;rw[show(w1.alloc (.cells (fH n (.slice aJ m ck)) 48)).drew=w2 from hw2]at HN;rw[hw2]at HB2;rw[hw2,hz2];rw[hz2]at HN;have yM:z2<w2.heap.size:=HN.lt;have En:z2≠b:=by omega
 have hbw2:b<w2.heap.size:=by omega
 have y2:=(HB2.cell (p:=⟨z,2,none⟩) hzl).trans x2;obtain⟨y0, -⟩:=HN.cells;have ma:=aa (HQ.o.below HB2);have HG2:=aa (HG.o.nP (aZ.gJ HB2));have GA:=aa (wO.o.below HB2 (Nat.le_of_lt yF));have FL:=aa HB2;have ed:=aa HN;clear hw2 hz2 HN HB2 x0 x1 x2 xb k0 k1 k2 k3 k4 k5 k6 k7 k8 k9 k10 k11 k12 k13;go_upto_region 4 with (fail)
 go_region_held3 (fun w'=>w'.cell? ⟨z2,0,none⟩=some (.int .i64 n.kind)∧w'.cell? ⟨z,2,none⟩=some (.int .i64 least)) (go_keep) (first
  | (go_at_call 130;((with_reducible refine(zH.o _).mono ?_);rintro e w3 ⟨rfl,rfl⟩)))
 have HD2:=aa ((ai w2.heap.size w2).drew);have eQ:=aa (HG2.o.nP (aZ.gJ HD2.o));have Gt:=aa (ma.o.below HD2.o);have GD:=aa (GA.o.below HD2.o (Nat.le_of_lt hbw2));have aA:=aa (aH.drew ed.o);have Ic:=hbw2;have IE:z2<w2.drew.heap.size:=yM;go_upto_region 7 with (fail)
 have wD:=aa (fun (wr:World)(hr:Below w2.drew.heap.size w2.drew wr)=>PI w0 wr b (.slice (some ⟨pb,po,none⟩) nl cap) (st) (txt) n aJ m ck ((eQ.o).nP (aZ.gJ hr)) (Gt.o.below hr) ql.o bE HZ1.o HZ2.o HZ3.o (GD.o.below hr (Nat.le_of_lt Ic)) (by omega) (by have:=HM.o;omega));rw[F8.o]at wD;have H3:=aa ((ai w2.drew.heap.size w2.drew).drew);obtain⟨k0,k1,k2,k3,k4,k5,k6,k7,k8,k9,k10,k11,k12,k13⟩:=aA.o.cells
 go_region_held3 (fun w'=>w'.cell? ⟨z2,0,none⟩=some (.int .i64 n.kind)∧w'.cell? ⟨z2,1,none⟩=some (.int .i64 n.num)∧w'.cell? ⟨z2,2,none⟩=some (.string n.text)∧w'.cell? ⟨z2,3,none⟩=some (.string n.ref.sh)∧w'.cell? ⟨z2,4,none⟩=some (.int .i64 n.ref.c)∧w'.cell? ⟨z2,5,none⟩=some (.int .i64 n.ref.r)∧w'.cell? ⟨z2,6,none⟩=some (.bool n.ref.ac)∧w'.cell? ⟨z2,7,none⟩=some (.bool n.ref.ar)∧w'.cell? ⟨z2,8,none⟩=some (.string n.ae.sh)∧w'.cell? ⟨z2,9,none⟩=some (.int .i64 n.ae.c)∧w'.cell? ⟨z2,10,none⟩=some (.int .i64 n.ae.r)∧w'.cell? ⟨z2,11,none⟩=some (.bool n.ae.ac)∧w'.cell? ⟨z2,12,none⟩=some (.bool n.ae.ar)∧w'.cell? ⟨z2,13,none⟩=some (.slice aJ m ck)) (first|go_keep|exact GZ) (first
  | (go_at_call 132;((with_reducible refine(wK.o _).mono ?_);rintro e w4 ⟨rfl,rfl⟩))
  | ((with_reducible refine(wD.o _ H3.o).mono ?_);rintro e w5 ⟨rfl,h3,h4⟩;have vz:=aa h3;have aL:=aa h4;have GZ:=aH.cells (show aH w5 z2 n (.slice aJ m ck)from by
       unfold aH;have e1:w2.drew.drew.heap[z2]? = some (.cells (fH n (.slice aJ m ck)) 48):=aA.o;rw[aL.o.block z2 IE En (.inr fun cur fr=>⟨fun e=>by(rw[e1]at e;injection e with e;injection e with _ e2;exact absurd e2 (by decide)),fun e=>by(rw[e1]at e;injection e with e;injection e with _ e2;exact absurd e2 (by decide))⟩)];exact e1);clear h3 h4))
 all_goals go_wp2_with fail
 all_goals go_end0
 all_goals exact⟨rfl,vz.o,(aZ.gJ HB.o).trans ((aZ.gJ FL.o).trans ((aZ.gJ (ai _ _).drew).trans ((aZ.gJ H3.o).trans aL.o)))⟩
theorem ae7 (w0 w:World)(b:Nat)(nv:Value)(vs:List (Nd × Value))(st:List av)(txt:List Int)(i:Nat)(least:Int)(n:Nd)(k:Value)(hg:l6 w0 w b)(h:dC w b nv st txt)(hsn:jl w b nv vs)(hz:SZ vs)(hnk:vs[i]? = some (n,k))(hnb:fo n=true)(bE:n.num≤9223372036854775807)(hr:(bz n.kind:Int)+1<least)(hl:txt.length+1≤1000000000)(hls:st.length+2*n.kids.length+2≤2000000000) :
 Calls Tryz.prog 90 #[.pointer (some ⟨b,0,none⟩),.agg #[.string ⟨#[]⟩,.int .i64 (i:Int),.int .i64 least]] w fun e w'=>e = .returned (.tuple #[])∧dC w' b nv (st++[av.plain ⟨#[41]⟩]++(dR n).2.reverse) (txt++([40]++(dR n).1))∧aZ w w' b:=by
 obtain⟨⟨A,cap,rfl,hat⟩,tq⟩:=hsn;obtain⟨hlen,hsz⟩:=hz;have hil:i<vs.length:=(dm.1 hnk).1;have hmem:=dz hnk;obtain⟨hz1,hz2,hz3⟩:=hsz _ hmem;have pK:je w b k n.kids:=tq _ hmem;obtain⟨aJ,ck,hk,hkc,dh,_⟩:=id pK;obtain⟨nl,hnl⟩:∃nl,vs.length=nl:=⟨_,rfl⟩;obtain⟨m,hm⟩:∃m,n.kids.length=m:=⟨_,rfl⟩;rw[hm]at hk;subst hk;rw[hnl]at hlen hil h ⊢;have hi0:(0:Int)≤(i:Int):=by omega
 have hi1:(i:Int)<(nl:Int):=by omega
 obtain⟨pb,po,rfl,Ir,hcells⟩:=hat.resolve_left (fun e=>by rw[e]at hnk;cases hnk);have hcell:=hcells i n _ hnk;have hbw:b<w.heap.size:=by obtain⟨wv,h1, -⟩:=h;exact h1.lt
 have hB:Below w.heap.size w (w.alloc (.cells #[.string ⟨#[]⟩,.int .i64 (i:Int),.int .i64 least] 139)):=(ai _ _).alloc (ag _) _;have HP:ic (w.alloc (.cells #[.string ⟨#[]⟩,.int .i64 (i:Int),.int .i64 least] 139)) w.heap.size ⟨⟨#[]⟩,(i:Int),least⟩:=ic.new w ⟨⟨#[]⟩,(i:Int),least⟩;have HB:=aa hB;have HQ:=aa (h.below hB);have HG:=aa (hg.nP (aZ.gJ hB));have wO:=aa (pK.below hB (Nat.le_of_lt hbw));have hpb:pb<w.heap.size:=by omega
 obtain⟨rk,ry⟩:∃rk:Nat,bz n.kind=rk:=⟨_,rfl⟩;have tJ:=JB n.kind;rw[ry]at tJ hr;have zH:=aa tJ;have tC:=Py n.kind;have hen:=Px n.kind;obtain⟨Cr,uQ⟩:∃Cr,ll n.kind=Cr:=⟨_,rfl⟩;rw[uQ]at tC hen;have wK:=aa tC;have ql:=aa hnb;have HZ1:=aa hz1;have HZ2:=aa hz2;have HZ3:=aa hz3;have F8:=aa uQ;have HM:=aa hm;clear h hg hB pK hkc dh hat tq hsz hcells hmem hnl hnk hlen tJ tC ry uQ hnb hz1 hz2 hz3 hm;go_enter Tryz.func90,Tryz.ntmps90;go_upto_region 1 with (fail)
 obtain⟨z,hzz⟩:∃z,w.heap.size=z:=⟨_,rfl⟩;obtain⟨w1,hw1⟩:∃w1,w.alloc (.cells #[.string ⟨#[]⟩,.int .i64 (i:Int),.int .i64 least] 139)=w1:=⟨_,rfl⟩;rw[hw1]at HP HB HQ HG wO ⊢;rw[hzz]at HP ⊢;have k0:w1.cell? ⟨pb,po+i*14,none⟩=some (.int .i64 n.kind):=(HB.o.cell (p:=⟨pb,po+i*14,none⟩) hpb).trans (hcell 0 (by omega));have k1:w1.cell? ⟨pb,po+i*14+1,none⟩=some (.int .i64 n.num):=(HB.o.cell (p:=⟨pb,po+i*14+1,none⟩) hpb).trans (hcell 1 (by omega));have k2:w1.cell? ⟨pb,po+i*14+2,none⟩=some (.string n.text):=(HB.o.cell (p:=⟨pb,po+i*14+2,none⟩) hpb).trans (hcell 2 (by omega));have k3:w1.cell? ⟨pb,po+i*14+3,none⟩=some (.string n.ref.sh):=(HB.o.cell (p:=⟨pb,po+i*14+3,none⟩) hpb).trans (hcell 3 (by omega));have k4:w1.cell? ⟨pb,po+i*14+4,none⟩=some (.int .i64 n.ref.c):=(HB.o.cell (p:=⟨pb,po+i*14+4,none⟩) hpb).trans (hcell 4 (by omega));have k5:w1.cell? ⟨pb,po+i*14+5,none⟩=some (.int .i64 n.ref.r):=(HB.o.cell (p:=⟨pb,po+i*14+5,none⟩) hpb).trans (hcell 5 (by omega));have k6:w1.cell? ⟨pb,po+i*14+6,none⟩=some (.bool n.ref.ac):=(HB.o.cell (p:=⟨pb,po+i*14+6,none⟩) hpb).trans (hcell 6 (by omega));have k7:w1.cell? ⟨pb,po+i*14+7,none⟩=some (.bool n.ref.ar):=(HB.o.cell (p:=⟨pb,po+i*14+7,none⟩) hpb).trans (hcell 7 (by omega));have k8:w1.cell? ⟨pb,po+i*14+8,none⟩=some (.string n.ae.sh):=(HB.o.cell (p:=⟨pb,po+i*14+8,none⟩) hpb).trans (hcell 8 (by omega));have k9:w1.cell? ⟨pb,po+i*14+9,none⟩=some (.int .i64 n.ae.c):=(HB.o.cell (p:=⟨pb,po+i*14+9,none⟩) hpb).trans (hcell 9 (by omega));have k10:w1.cell? ⟨pb,po+i*14+10,none⟩=some (.int .i64 n.ae.r):=(HB.o.cell (p:=⟨pb,po+i*14+10,none⟩) hpb).trans (hcell 10 (by omega));have k11:w1.cell? ⟨pb,po+i*14+11,none⟩=some (.bool n.ae.ac):=(HB.o.cell (p:=⟨pb,po+i*14+11,none⟩) hpb).trans (hcell 11 (by omega));have k12:w1.cell? ⟨pb,po+i*14+12,none⟩=some (.bool n.ae.ar):=(HB.o.cell (p:=⟨pb,po+i*14+12,none⟩) hpb).trans (hcell 12 (by omega));have k13:w1.cell? ⟨pb,po+i*14+13,none⟩=some (.slice aJ m ck):=(HB.o.cell (p:=⟨pb,po+i*14+13,none⟩) hpb).trans (hcell 13 (by omega));have hzl:z<w1.heap.size:=(dZ.1 HP).1;have hzb:z≠b:=by omega
 have yF:b<w1.heap.size:=by omega
 have yI:pb<w1.heap.size:=by omega
 obtain⟨x0,x1,x2⟩:=HP.cells;have xb:w1.cell? ⟨b,0,none⟩=some (.slice (some ⟨pb,po,none⟩) nl cap):=by obtain⟨wv,⟨ad,bv,h1, -⟩, -⟩:=HQ.o;exact h1.facts.1
 have bJ:=aa HP;dsimp only at x0 x1 x2;clear hzz hw1 HP hcell;go_upto_region 2 with (fail)
 go_upto_region 3 with (fail)
 go_region_held3 (fun w'=>w'.cell? ⟨b,0,none⟩=some (.slice (some ⟨pb,po,none⟩) nl cap)∧w'.cell? ⟨z,1,none⟩=some (.int .i64 (i:Int))∧w'.cell? ⟨pb,po+i*14,none⟩=some (.int .i64 n.kind)∧w'.cell? ⟨pb,po+i*14+1,none⟩=some (.int .i64 n.num)∧w'.cell? ⟨pb,po+i*14+2,none⟩=some (.string n.text)∧w'.cell? ⟨pb,po+i*14+3,none⟩=some (.string n.ref.sh)∧w'.cell? ⟨pb,po+i*14+4,none⟩=some (.int .i64 n.ref.c)∧w'.cell? ⟨pb,po+i*14+5,none⟩=some (.int .i64 n.ref.r)∧w'.cell? ⟨pb,po+i*14+6,none⟩=some (.bool n.ref.ac)∧w'.cell? ⟨pb,po+i*14+7,none⟩=some (.bool n.ref.ar)∧w'.cell? ⟨pb,po+i*14+8,none⟩=some (.string n.ae.sh)∧w'.cell? ⟨pb,po+i*14+9,none⟩=some (.int .i64 n.ae.c)∧w'.cell? ⟨pb,po+i*14+10,none⟩=some (.int .i64 n.ae.r)∧w'.cell? ⟨pb,po+i*14+11,none⟩=some (.bool n.ae.ac)∧w'.cell? ⟨pb,po+i*14+12,none⟩=some (.bool n.ae.ar)∧w'.cell? ⟨pb,po+i*14+13,none⟩=some (.slice aJ m ck)) (go_keep) (fail)
 have HN:=aH.drew (aH.new w1 n (.slice aJ m ck));have HB2:=(((ai w1.heap.size w1).alloc (ag _) (.cells #[.int .i64 n.kind,.int .i64 n.num,.string n.text,.string n.ref.sh,.int .i64 n.ref.c,.int .i64 n.ref.r,.bool n.ref.ac,.bool n.ref.ar,.string n.ae.sh,.int .i64 n.ae.c,.int .i64 n.ae.r,.bool n.ae.ac,.bool n.ae.ar,(.slice aJ m ck)] 48))).drew;obtain⟨z2,hz2⟩:∃z2,w1.heap.size=z2:=⟨_,rfl⟩;obtain⟨w2,hw2⟩:∃w2,((w1.alloc (.cells #[.int .i64 n.kind,.int .i64 n.num,.string n.text,.string n.ref.sh,.int .i64 n.ref.c,.int .i64 n.ref.r,.bool n.ref.ac,.bool n.ref.ar,.string n.ae.sh,.int .i64 n.ae.c,.int .i64 n.ae.r,.bool n.ae.ac,.bool n.ae.ar,(.slice aJ m ck)] 48)).drew)=w2:=⟨_,rfl⟩;rw[show(w1.alloc (.cells (fH n (.slice aJ m ck)) 48)).drew=w2 from hw2]at HN;rw[hw2]at HB2;rw[hw2,hz2];rw[hz2]at HN;have yM:z2<w2.heap.size:=HN.lt;have En:z2≠b:=by omega
 have hbw2:b<w2.heap.size:=by omega
 have y2:=(HB2.cell (p:=⟨z,2,none⟩) hzl).trans x2;obtain⟨y0, -⟩:=HN.cells;have ma:=aa (HQ.o.below HB2);have HG2:=aa (HG.o.nP (aZ.gJ HB2));have GA:=aa (wO.o.below HB2 (Nat.le_of_lt yF));have FL:=aa HB2;have ed:=aa HN;clear hw2 hz2 HN HB2 x0 x1 x2 xb k0 k1 k2 k3 k4 k5 k6 k7 k8 k9 k10 k11 k12 k13;go_upto_region 4 with (fail)
 go_region_held3 (fun w'=>w'.cell? ⟨z2,0,none⟩=some (.int .i64 n.kind)∧w'.cell? ⟨z,2,none⟩=some (.int .i64 least)) (go_keep) (first
  | (go_at_call 130;((with_reducible refine(zH.o _).mono ?_);rintro e w3 ⟨rfl,rfl⟩)))
 have HD2:=aa ((ai w2.heap.size w2).drew);obtain⟨wv,hws,hown⟩:=ma.o;have HW:=aa (qN w2.drew b _ wv txt ⟨#[40]⟩ (hws.below HD2.o) (by show txt.length+1≤_;omega));have HO:=aa (hown.below HD2.o (ag _));clear hws hown;go_upto_region 5 with (fail)
 go_upto_region 6 with (go_at_call 129;((with_reducible refine HW.o.mono ?_);rintro e u3 ⟨⟨x,rfl⟩,h3,h4⟩;have TI:=aa h3;have dF:=aa h4;clear h3 h4))
 have TH:=aa (show dC u3 b (.slice (some ⟨pb,po,none⟩) nl cap) st (txt++[40])from by
  have h:=dC.wrote HO.o TI.o dF.o;rwa[show sb ⟨#[40]⟩=[40]by decide]at h)
 have xU:=aa (fun (wr:World)(hr:Below u3.heap.size u3 wr)=>y7 wr b (.slice (some ⟨pb,po,none⟩) nl cap) st [av.plain ⟨#[41]⟩] (txt++[40]) #[.string ⟨#[41]⟩,.int .i64 0,.int .i64 0] 1 rfl rfl (TH.o.below hr) (by show 1≤1000000;decide) (by omega))
 go_upto_region 7 with (first
  | (go_at_call 131;((with_reducible refine(EO _ _).mono ?_);rintro e u4 ⟨rfl,h3⟩;have bG:=aa h3;clear h3))
  | (go_at_call 88;((with_reducible refine(xU.o _ bG.o).mono ?_);rintro e u5 ⟨rfl,h3,h4⟩;have Ta:=aa h3;have Sg:=aa h4;clear h3 h4)))
 have Bg:=aa (((aZ.gJ HD2.o).trans (aZ.rD dF.o)).trans ((aZ.gJ bG.o).trans Sg.o));have eQ:=aa (HG2.o.nP Bg.o);have GD:=aa (GA.o.nP Bg.o (ag _) hbw2);have hsz5:w2.heap.size≤u5.heap.size:=Bg.o.size;have Gt:=aa (show dC u5 b (.slice (some ⟨pb,po,none⟩) nl cap) (st++[av.plain ⟨#[41]⟩]) (txt++[40])from Ta.o)
 have aA:=aa (show aH u5 z2 n (.slice aJ m ck)from by
  unfold aH;have e1:w2.heap[z2]? = some (.cells (fH n (.slice aJ m ck)) 48):=ed.o;rw[Bg.o.block z2 yM En (.inr fun cur fr=>⟨fun e=>by(rw[e1]at e;injection e with e;injection e with _ e2;exact absurd e2 (by decide)),fun e=>by(rw[e1]at e;injection e with e;injection e with _ e2;exact absurd e2 (by decide))⟩)];exact e1)
 have Ic:b<u5.heap.size:=by omega
 have IE:z2<u5.drew.heap.size:=by show z2<u5.heap.size;omega
 clear y0 y2;have wD:=aa (fun (wr:World)(hr:Below u5.heap.size u5 wr)=>PI w0 wr b (.slice (some ⟨pb,po,none⟩) nl cap) (st++[av.plain ⟨#[41]⟩]) (txt++[40]) n aJ m ck ((eQ.o).nP (aZ.gJ hr)) (Gt.o.below hr) ql.o bE HZ1.o HZ2.o HZ3.o (GD.o.below hr (Nat.le_of_lt Ic)) (by rw[aj];show txt.length+1≤_;omega) (by rw[aj];show st.length+1+_+1≤_;have:=HM.o;omega));rw[F8.o]at wD;have H3:=aa ((ai u5.heap.size u5).drew);obtain⟨k0,k1,k2,k3,k4,k5,k6,k7,k8,k9,k10,k11,k12,k13⟩:=aA.o.cells
 go_region_held3 (fun w'=>w'.cell? ⟨z2,0,none⟩=some (.int .i64 n.kind)∧w'.cell? ⟨z2,1,none⟩=some (.int .i64 n.num)∧w'.cell? ⟨z2,2,none⟩=some (.string n.text)∧w'.cell? ⟨z2,3,none⟩=some (.string n.ref.sh)∧w'.cell? ⟨z2,4,none⟩=some (.int .i64 n.ref.c)∧w'.cell? ⟨z2,5,none⟩=some (.int .i64 n.ref.r)∧w'.cell? ⟨z2,6,none⟩=some (.bool n.ref.ac)∧w'.cell? ⟨z2,7,none⟩=some (.bool n.ref.ar)∧w'.cell? ⟨z2,8,none⟩=some (.string n.ae.sh)∧w'.cell? ⟨z2,9,none⟩=some (.int .i64 n.ae.c)∧w'.cell? ⟨z2,10,none⟩=some (.int .i64 n.ae.r)∧w'.cell? ⟨z2,11,none⟩=some (.bool n.ae.ac)∧w'.cell? ⟨z2,12,none⟩=some (.bool n.ae.ar)∧w'.cell? ⟨z2,13,none⟩=some (.slice aJ m ck)) (first|go_keep|exact GZ) (first
  | (go_at_call 132;((with_reducible refine(wK.o _).mono ?_);rintro e w4 ⟨rfl,rfl⟩))
  | ((with_reducible refine(wD.o _ H3.o).mono ?_);rintro e w5 ⟨rfl,h3,h4⟩;have vz:=aa h3;have aL:=aa h4;have GZ:=aH.cells (show aH w5 z2 n (.slice aJ m ck)from by
       unfold aH;have e1:u5.drew.heap[z2]? = some (.cells (fH n (.slice aJ m ck)) 48):=aA.o;rw[aL.o.block z2 IE En (.inr fun cur fr=>⟨fun e=>by(rw[e1]at e;injection e with e;injection e with _ e2;exact absurd e2 (by decide)),fun e=>by(rw[e1]at e;injection e with e;injection e with _ e2;exact absurd e2 (by decide))⟩)];exact e1);clear h3 h4))
 all_goals go_wp2_with fail
 all_goals go_end0
 all_goals exact⟨rfl,by(have h:=vz.o;rw[bO txt]at h;exact h),(aZ.gJ HB.o).trans ((aZ.gJ FL.o).trans (Bg.o.trans ((aZ.gJ H3.o).trans aL.o)))⟩
theorem LX:∀ks:List Int,2*ks.length≤(mX ks).length+1
 | []=>cu _
 | [a]=>ag _
 | a :: b :: ks=>by
   have ih:=LX (b :: ks);show 2*((b :: ks).length+1)≤((mX (b :: ks)).length+1+1)+1;omega
theorem Yt {n:Nd}(h:fo n=true):2*n.kids.length≤(dR n).2.length+4:=by
 obtain⟨a1,a2,a3,b1,b2, -⟩:=pE h;by_cases h6:n.kind≤6
 · rw[a3 ⟨b1,h6⟩];exact cu _
 by_cases h7:n.kind=7
 · have:=LX n.kids
   rw[show(dR n).2=mX n.kids++[av.plain ⟨#[41]⟩]from by unfold dR;rw[if_neg (by omega),if_neg (by omega),if_neg (by omega),if_neg (by omega),if_neg (by omega),if_neg (by omega),if_pos h7],aj];omega
 by_cases h8:n.kind=8
 · rw[a1 h8];omega
 · rw[a2 (by omega)];omega
theorem adu {l:List Nd}(h:dM l=true)(p:av)(hp:jd l p):2≤2*(lv l p).1.length+(lv l p).2.length:=by
 have hn:∀n:Nd,fo n=true→2≤2*(dR n).1.length+(dR n).2.length:=by
  intro n hn;obtain⟨-, -, -,b1,b2, -⟩:=pE hn;unfold dR;split
  · have:aF n.num.toNat≠[]:=qD _
    have:=List.length_pos_iff.2 this;show 2≤2*(aF n.num.toNat).length+0;omega
  split
  · simp;omega
  split
  · split <;> simp
  split
  · simp
  split
  · rename_i h5
    have hl:=(pE hn).2.2.2.2.2;have:aO (sb n.ref.sh) n.ref.c n.ref.r n.ref.ac n.ref.ar≠[]:=Rm (OQ hl h5);have:=List.length_pos_iff.2 this;show 2≤2*(aO _ _ _ _ _).length+0;omega
  split
  · simp;omega
  split
  · simp;omega
  split
  · simp
  · simp
 unfold lv;split
 · rename_i ht
   obtain⟨h0,h1⟩:=hp ht;have:=hn _ (xD h h0 h1).1;split
   · rw[aK,aj];show 2≤2*(_+1)+(_+1);omega
   · exact this
 · rename_i ht
   have:=List.length_pos_iff.2 (QL ht);show 2≤2*(sb p.t).length+0;omega
theorem adv {l:List Nd}{j:Nat}{m:Int}{n:Nd}(hn:nodeAt l (j:Int)=n):lv l ⟨⟨#[]⟩,(j:Int),m⟩=if (bz n.kind:Int)+1<m then (40 :: (dR n).1,(dR n).2++[av.plain ⟨#[41]⟩])else dR n:=by
 unfold lv;rw[if_pos rfl];dsimp only;rw[hn]
theorem ae5 (w0 w:World)(b:Nat)(nv:Value)(vs:List (Nd × Value))(st:List av)(txt:List Int)(p:av)(hg:l6 w0 w b)(h:dC w b nv st txt)(hsn:jl w b nv vs)(hz:SZ vs)(ht:dM (vs.map (·.1))=true)(bE:∀q∈vs,q.1.num≤9223372036854775807)(hp:jd (vs.map (·.1)) p)(hl:txt.length+(jE (vs.map (·.1)) p).length≤1000000000)(hls:st.length+(jE (vs.map (·.1)) p).length≤1000000000) :
 Calls Tryz.prog 90 #[.pointer (some ⟨b,0,none⟩),.agg (lu p)] w fun e w'=>e = .returned (.tuple #[])∧dC w' b nv (st++(lv (vs.map (·.1)) p).2.reverse) (txt++(lv (vs.map (·.1)) p).1)∧aZ w w' b:=by
 obtain⟨t,i,m⟩:=p;by_cases hpt:t=⟨#[]⟩
 · subst hpt
   obtain⟨h0,h1⟩:=hp rfl;dsimp only at h0 h1;obtain⟨j,rfl⟩:∃j:Nat,i=(j:Int):=⟨i.toNat,by omega⟩;rw[dN]at h1;obtain⟨⟨n,k⟩,hnk⟩:∃q,vs[j]? = some q:=⟨_,bn (by omega)⟩
   have hn:nodeAt (vs.map (·.1)) (j:Int)=n:=by
    unfold nodeAt;rw[Int.toNat_natCast,iC,iD,hnk];rfl
   have hnb:=(xD ht h0 (by rw[dN];exact h1)).1;rw[hn]at hnb;have hkl:=Yt hnb;have hne:=List.length_pos_iff.2 (P9 ht _ hp);have hfl:=Ec ht _ (J5 ht _ hp);have hL:=Rb ht _ hp;have vL:=congrArg List.length hL;rw[aj]at vL;have hsp:=adv (m:=m) hn;rw[hsp]at hfl vL ⊢;by_cases hr:(bz n.kind:Int)+1<m
   · rw[if_pos hr]at hfl vL ⊢
     dsimp only at hfl vL ⊢;rw[aj]at hfl;refine(ae7 w0 w b nv vs st txt j m n k hg h hsn hz hnk hnb (bE _ (dz hnk)) hr (by omega) (by omega)).mono ?_;rintro e w' ⟨h1,h2,h3⟩;refine⟨h1, ?_,h3⟩;rw[List.reverse_append,List.reverse_singleton, ← bO];exact h2
   · rw[if_neg hr]at hfl vL ⊢
     exact ae6 w0 w b nv vs st txt j m n k hg h hsn hz hnk hnb (bE _ (dz hnk)) hr (by omega) (by omega)
 · have hs:lv (vs.map (·.1)) ⟨t,i,m⟩=(sb t,[]):=by unfold lv;rw[if_neg (show ¬ (⟨t,i,m⟩:av).t=⟨#[]⟩from hpt)]
   have hp2:jE (vs.map (·.1)) ⟨t,i,m⟩=sb t:=by unfold jE;rw[if_neg (show ¬ (⟨t,i,m⟩:av).t=⟨#[]⟩from hpt)]
   rw[hs];rw[hp2,bC]at hl;dsimp only;rw[List.reverse_nil,fu];exact ae8 w b nv st txt ⟨t,i,m⟩ h hpt hl
theorem We (w:World)(n:Nd)(hv:Vars w)(hs:n.text.size≤1000000)(hr:n.ref.sh.size≤1000000)(ht:n.ae.sh.size≤1000000)(bU:okF n=true)(A:Option Addr)(m c:Nat) :
 Calls Tryz.prog 114 #[.agg #[.int .i64 n.kind,.int .i64 n.num,.string n.text,.string n.ref.sh,.int .i64 n.ref.c,.int .i64 n.ref.r,.bool n.ref.ac,.bool n.ref.ar,.string n.ae.sh,.int .i64 n.ae.c,.int .i64 n.ae.r,.bool n.ae.ac,.bool n.ae.ar,.slice A m c]] w fun e w'=>e = .returned (.tuple #[.agg (fH (gW n) (.slice none 0 0)),.bool (okF n)])∧Below w.heap.size w w':=by
 by_cases h1:n.kind=1
 · have e1:gW n={ Nd.zero with num:=n.num }:=by unfold gW;rw[if_pos h1]
   have e2:okF n=decide (0≤n.num):=by unfold okF;rw[if_pos h1]
   rw[e1,e2];exact V4 n h1 A m c w
 by_cases h2:n.kind=2
 · have e1:gW n={ Nd.zero with text:=n.text }:=by unfold gW;rw[if_neg h1,if_pos h2]
   have e2:okF n=lq (sb n.text):=by unfold okF;rw[if_neg h1,if_pos h2]
   rw[e1,e2];exact V5 w n h2 hs A m c
 by_cases h3:n.kind=3
 · have e1:gW n={ Nd.zero with num:=n.num }:=by unfold gW;rw[if_neg h1,if_neg h2,if_pos h3]
   have e2:okF n=decide (n.num=0∨n.num=1):=by unfold okF;rw[if_neg h1,if_neg h2,if_pos h3]
   rw[e1,e2];by_cases k0:n.num=0
   · rw[decide_eq_true (Or.inl k0)];exact V6 w n h3 k0 A m c
   · by_cases k1:n.num=1
     · rw[decide_eq_true (Or.inr k1)];exact V7 w n h3 k1 A m c
     · have k:¬ (n.num=0∨n.num=1):=by omega
       rw[bU,decide_eq_false k]at e2;exact absurd e2 (by decide)
 by_cases h5:n.kind=5
 · have e1:gW n={ Nd.zero with ref:=n.ref }:=by unfold gW;rw[if_neg h1,if_neg h2,if_neg h3,if_pos h5]
   have e2:okF n=gp n.ref:=by unfold okF;rw[if_neg h1,if_neg h2,if_neg h3,if_pos h5]
   rw[e1,e2];exact V8 w n h5 hr A m c
 by_cases h6:n.kind=6
 · have e1:gW n=⟨0,0,⟨#[]⟩,n.ref,n.ae,[]⟩:=by unfold gW;rw[if_neg h1,if_neg h2,if_neg h3,if_neg h5,if_pos h6]
   have e2:okF n=(gp n.ref&&(gp n.ae&&fP n.ref n.ae)):=by unfold okF;rw[if_neg h1,if_neg h2,if_neg h3,if_neg h5,if_pos h6]
   rw[e1,e2];cases q1:gp n.ref
   · rw[bU,q1,Bool.false_and]at e2;exact absurd e2 (by decide)
   · cases q2:gp n.ae
     · rw[bU,q1,q2,Bool.false_and,Bool.and_false]at e2;exact absurd e2 (by decide)
     · exact V9 w n h6 hr ht q1 q2 A m c
 by_cases h7:n.kind=7
 · have e1:gW n={ Nd.zero with text:=n.text }:=by unfold gW;rw[if_neg h1,if_neg h2,if_neg h3,if_neg h5,if_neg h6,if_pos h7]
   have e2:okF n=jo n.text:=by unfold okF;rw[if_neg h1,if_neg h2,if_neg h3,if_neg h5,if_neg h6,if_pos h7]
   rw[e1,e2];exact Wd w n h7 hv A m c
 have e1:gW n=Nd.zero:=by unfold gW;rw[if_neg h1,if_neg h2,if_neg h3,if_neg h5,if_neg h6,if_neg h7]
 have e2:okF n=(decide (n.kind=4∨n.kind=8)||u7 n.kind):=by unfold okF;rw[if_neg h1,if_neg h2,if_neg h3,if_neg h5,if_neg h6,if_neg h7]
 rw[e1,e2];by_cases h4:n.kind=4
 · rw[decide_eq_true (Or.inl h4),Bool.true_or];exact VY w n h1 h2 h3 h5 h6 h7 h4 A m c
 · by_cases h8:n.kind=8
   · rw[decide_eq_true (Or.inr h8),Bool.true_or];exact VZ w n h1 h2 h3 h5 h6 h7 h8 A m c
   · rw[decide_eq_false (by omega),Bool.false_or];exact V3 w n h1 h2 h3 h5 h6 h7 h4 h8 A m c
theorem OC (w:World)(n:Nd)(hv:Vars w)(hs:n.text.size≤1000000)(hr:n.ref.sh.size≤1000000)(ht:n.ae.sh.size≤1000000)(A:Option Addr)(m c:Nat)(hm:m≤maxLen)(bU:tN n m=true) :
 Calls Tryz.prog 78 #[.agg #[.int .i64 n.kind,.int .i64 n.num,.string n.text,.string n.ref.sh,.int .i64 n.ref.c,.int .i64 n.ref.r,.bool n.ref.ac,.bool n.ref.ar,.string n.ae.sh,.int .i64 n.ae.c,.int .i64 n.ae.r,.bool n.ae.ac,.bool n.ae.ar,.slice A m c]] w fun e w'=>e = .returned (.bool true)∧Below w.heap.size w w':=by
 have bX:=aa bU;have XB:okF n=true:=by unfold tN at bU;rw[dE]at bU;exact bU.1
 clear bU;obtain⟨N,hN⟩:∃N,gW n=N:=⟨_,rfl⟩;obtain⟨ok,hok⟩:∃ok,okF n=ok:=⟨_,rfl⟩;obtain⟨hk,hhk⟩:∃hk,hkB n.kind m=hk:=⟨_,rfl⟩;have HI:=aa (show tN n m=(ok&&(hk&&(decide (n.num=N.num)&&(decide (n.text=N.text)&&(fK n.ref N.ref&&fK n.ae N.ae)))))by unfold tN;rw[hN,hok,hhk]);have HF:=aa (show ∀w,Vars w→Calls Tryz.prog 114 #[.agg #[.int .i64 n.kind,.int .i64 n.num,.string n.text,.string n.ref.sh,.int .i64 n.ref.c,.int .i64 n.ref.r,.bool n.ref.ac,.bool n.ref.ar,.string n.ae.sh,.int .i64 n.ae.c,.int .i64 n.ae.r,.bool n.ae.ac,.bool n.ae.ar,.slice A m c]] w fun e w'=>e = .returned (.tuple #[.agg #[.int .i64 N.kind,.int .i64 N.num,.string N.text,.string N.ref.sh,.int .i64 N.ref.c,.int .i64 N.ref.r,.bool N.ref.ac,.bool N.ref.ar,.string N.ae.sh,.int .i64 N.ae.c,.int .i64 N.ae.r,.bool N.ae.ac,.bool N.ae.ar,.slice none 0 0],.bool ok])∧Below w.heap.size w w' from fun w hv=>by rw[← hN, ← hok];exact We w n hv hs hr ht XB A m c);have HH:=aa (show ∀w,Calls Tryz.prog 115 #[.agg #[.int .i64 n.kind,.int .i64 n.num,.string n.text,.string n.ref.sh,.int .i64 n.ref.c,.int .i64 n.ref.r,.bool n.ref.ac,.bool n.ref.ar,.string n.ae.sh,.int .i64 n.ae.c,.int .i64 n.ae.r,.bool n.ae.ac,.bool n.ae.ar,.slice A m c]] w fun e w'=>e = .returned (.bool hk)∧Below w.heap.size w w' from fun w=>by rw[← hhk];exact WL n A m c hm w);have hx:aH (w.alloc (.cells #[.int .i64 n.kind,.int .i64 n.num,.string n.text,.string n.ref.sh,.int .i64 n.ref.c,.int .i64 n.ref.r,.bool n.ref.ac,.bool n.ref.ar,.string n.ae.sh,.int .i64 n.ae.c,.int .i64 n.ae.r,.bool n.ae.ac,.bool n.ae.ar,.slice A m c] 48)) w.heap.size n (.slice A m c):=aH.new w n _;have HB:=aa ((ai w.heap.size w).alloc (ag _) (.cells #[.int .i64 n.kind,.int .i64 n.num,.string n.text,.string n.ref.sh,.int .i64 n.ref.c,.int .i64 n.ref.r,.bool n.ref.ac,.bool n.ref.ar,.string n.ae.sh,.int .i64 n.ae.c,.int .i64 n.ae.r,.bool n.ae.ac,.bool n.ae.ar,.slice A m c] 48));have j3:=aa hv;clear hN hok hhk hv;go_enter Tryz.func78,Tryz.ntmps78;go_upto_region 1 with (fail)
 generalize w.alloc (.cells #[.int .i64 n.kind,.int .i64 n.num,.string n.text,.string n.ref.sh,.int .i64 n.ref.c,.int .i64 n.ref.r,.bool n.ref.ac,.bool n.ref.ar,.string n.ae.sh,.int .i64 n.ae.c,.int .i64 n.ae.r,.bool n.ae.ac,.bool n.ae.ar,.slice A m c] 48)=w1 at hx HB ⊢;generalize hb0:w.heap.size=b0 at hx ⊢;obtain⟨x0,x1,x2,x3,x4,x5,x6,x7,az,aW,aT,aU,aV,aP⟩:=hx.cells;have HX:=aa hx;clear hx;go_upto_region 2 with (go_at_call 114;((with_reducible refine(HF.o _ (j3.o.below HB.o)).mono ?_);rintro e w2 ⟨rfl,h1⟩;have cz:=aa (HX.o.below h1 HX.o.lt);have HB2:=aa (HB.o.trans (h1.mono HB.o.size));clear h1))
 have hB3:Below w2.heap.size w2 (w2.alloc (.cells #[.int .i64 N.kind,.int .i64 N.num,.string N.text,.string N.ref.sh,.int .i64 N.ref.c,.int .i64 N.ref.r,.bool N.ref.ac,.bool N.ref.ar,.string N.ae.sh,.int .i64 N.ae.c,.int .i64 N.ae.r,.bool N.ae.ac,.bool N.ae.ar,.slice none 0 0] 48)):=(ai _ _).alloc (ag _) _;have hy:aH (w2.alloc (.cells #[.int .i64 N.kind,.int .i64 N.num,.string N.text,.string N.ref.sh,.int .i64 N.ref.c,.int .i64 N.ref.r,.bool N.ref.ac,.bool N.ref.ar,.string N.ae.sh,.int .i64 N.ae.c,.int .i64 N.ae.r,.bool N.ae.ac,.bool N.ae.ar,.slice none 0 0] 48)) w2.heap.size N (.slice none 0 0):=aH.new w2 N _;have dV:=aa (cz.o.below hB3 cz.o.lt);have HB3:=aa (HB2.o.trans (hB3.mono HB2.o.size));clear hB3 x0 x1 x2 x3 x4 x5 x6 x7 az aW aT aU aV aP;generalize hb3:w2.heap.size=b3 at hy ⊢;generalize w2.alloc (.cells #[.int .i64 N.kind,.int .i64 N.num,.string N.text,.string N.ref.sh,.int .i64 N.ref.c,.int .i64 N.ref.r,.bool N.ref.ac,.bool N.ref.ar,.string N.ae.sh,.int .i64 N.ae.c,.int .i64 N.ae.r,.bool N.ae.ac,.bool N.ae.ar,.slice none 0 0] 48)=w3 at hy dV HB3 ⊢;clear hb3;have yc:=aa hy;clear hy;cases ok
 · obtain⟨x0,x1,x2,x3,x4,x5,x6,x7,az,aW,aT,aU,aV,aP⟩:=dV.o.cells
   have HR:=aa (show tN n m=false by rw[HI.o];rfl);exact absurd HR.o (by rw[bX.o];decide)
 have go1:=dV.o.cells;obtain⟨x0,x1,x2,x3,x4,x5,x6,x7,az,aW,aT,aU,aV,aP⟩:=go1;cases hk
 · have HR:=aa (show tN n m=false by rw[HI.o];rfl)
   exact absurd HR.o (by rw[bX.o];decide)
 by_cases bE:n.num=N.num;rotate_left
 · have HR:=aa (show tN n m=false by rw[HI.o,decide_eq_false bE];rfl)
   exact absurd HR.o (by rw[bX.o];decide)
 have en:(n.num == N.num)=true:=beq_iff_eq.2 bE;by_cases htx:n.text=N.text;rotate_left
 · have HR:=aa (show tN n m=false by rw[HI.o,decide_eq_true bE,decide_eq_false htx];rfl)
   exact absurd HR.o (by rw[bX.o];decide)
 have et:(n.text.toList == N.text.toList)=true:=by rw[htx];simp
 have HR:=aa (show tN n m=(fK n.ref N.ref&&fK n.ae N.ae)by rw[HI.o,decide_eq_true bE,decide_eq_true htx];rfl);have hq:=HR.o;rw[bX.o]at hq;have hq2:=hq.symm;rw[dE,BL,BL]at hq2;obtain⟨q1,q2⟩:=hq2;clear hq;have r00:(n.ref.sh.toList == n.ref.sh.toList)=true:=beq_self_eq_true _;have s00:N.ref.sh.toList=n.ref.sh.toList:=by rw[q1]
 have r01:(n.ref.c == n.ref.c)=true:=beq_self_eq_true _;have s01:N.ref.c=n.ref.c:=by rw[q1]
 have r02:(n.ref.r == n.ref.r)=true:=beq_self_eq_true _;have s02:N.ref.r=n.ref.r:=by rw[q1]
 have r03:(n.ref.ac == n.ref.ac)=true:=beq_self_eq_true _;have s03:N.ref.ac=n.ref.ac:=by rw[q1]
 have r04:(n.ref.ar == n.ref.ar)=true:=beq_self_eq_true _;have s04:N.ref.ar=n.ref.ar:=by rw[q1]
 have r10:(n.ae.sh.toList == n.ae.sh.toList)=true:=beq_self_eq_true _;have s10:N.ae.sh.toList=n.ae.sh.toList:=by rw[q2]
 have r11:(n.ae.c == n.ae.c)=true:=beq_self_eq_true _;have s11:N.ae.c=n.ae.c:=by rw[q2]
 have r12:(n.ae.r == n.ae.r)=true:=beq_self_eq_true _;have s12:N.ae.r=n.ae.r:=by rw[q2]
 have r13:(n.ae.ac == n.ae.ac)=true:=beq_self_eq_true _;have s13:N.ae.ac=n.ae.ac:=by rw[q2]
 have r14:(n.ae.ar == n.ae.ar)=true:=beq_self_eq_true _;have s14:N.ae.ar=n.ae.ar:=by rw[q2]
 clear q1 q2;clear bE htx;go_wp2_with (go_at_call 115;((with_reducible refine(HH.o _).mono ?_);rintro e w4 ⟨rfl,h1⟩;have bG:=aa (HB3.o.trans (h1.mono HB3.o.size));obtain⟨z0,z1,z2,z3,z4,z5,z6,z7,AV,z9,AR,AU,z12,Da⟩:=(dV.o.below h1 dV.o.lt).cells;obtain⟨y0,y1,y2,y3,y4,kQ,y6,lF,mJ,uu,um,uo,uq,y13⟩:=(yc.o.below h1 yc.o.lt).cells;clear h1))
 all_goals go_ret
 all_goals exact⟨rfl,bG.o⟩
theorem aaP (w:World)(v:Value)(vs:List (Nd × Value))(hv:Vars w)(h:jl w w.heap.size v vs)(hz:SZ vs)(bU:dM (vs.map (·.1))=true):Calls Tryz.prog 52 #[v] w fun e w'=>e = .returned (.bool true)∧Below w.heap.size w w':=by
 obtain⟨⟨A,cap,rfl,hat⟩,tq⟩:=h;obtain⟨hlen,hsz⟩:=hz;obtain⟨nl,hnl⟩:∃nl,vs.length=nl:=⟨_,rfl⟩;rw[hnl]at hlen ⊢;have bX:=aa bU;clear bU;have j3:=aa hv;have HAT:=aa hat;have Bl:=aa tq;have jZ:=aa hsz;have nA:=aa hnl;obtain⟨eb,lh,dA⟩:=Elem.kid;have kS:=aa dA;clear hv hat tq hsz hnl dA;go_enter Tryz.func52,Tryz.ntmps52;go_upto_region 3 with (fail)
 go_loopw [3,9] (fun rv iv wr=>∃(i:Nat)(st:List Int)(rk:Value),i≤nl∧st.length≤i∧rk=rv∧iv = .int .i64 (i:Int)∧Hid (dM (vs.map (·.1))=qb st i ((vs.map (·.1)).drop i))∧Hid (Own (bT .i64) 3 wr w.heap.size rk st)∧Hid (Below w.heap.size w wr))
  (fun _ iv _=>nl - (intOf iv).toNat)
 case atStart=>exact⟨0,[],.slice none 0 0,cu _,ag _,rfl,rfl,aa rfl,aa (Own.nil _ _ _ _),aa (ai _ _)⟩
 case round =>
  obtain⟨i,st,rk,hi,hsi,rfl,rfl,HT,HO,HB⟩:=hrel;by_cases hlt:i<nl
  · have hii:(i:Int)<(nl:Int):=by omega
    obtain⟨⟨n,k⟩,hnk⟩:∃q,vs[i]? = some q:=⟨_,bn (by rw[nA.o];exact hlt)⟩;have hmem:=dz hnk;obtain⟨hz1,hz2,hz3⟩:=jZ.o _ hmem;have HZ1:=aa hz1;have HZ2:=aa hz2;have HZ3:=aa hz3;clear hz1 hz2 hz3;have pK:je w w.heap.size k n.kids:=Bl.o _ hmem;obtain⟨aJ,ck,hk,hkc,dh,_⟩:=id pK;obtain⟨m,hm⟩:∃m,n.kids.length=m:=⟨_,rfl⟩;rw[hm]at hk hkc;subst hk;have hmm:m≤maxLen:=bZ hkc dh;have hmx:m≤9223372036854775807:=by unfold maxLen at hmm;omega
    have Bq:=aa hmm;have HM:=aa hm;have xY:=aa pK
    have HD:=aa (show(vs.map (·.1)).drop i=n :: (vs.map (·.1)).drop (i+1)by
     have hl:i<(vs.map (·.1)).length:=by rw[dN,nA.o];exact hlt
     rw[List.drop_eq_getElem_cons hl];congr 1;have h1:(vs.map (·.1))[i]? = some n:=by rw[iD,hnk];rfl
     rw[bn hl]at h1;exact dX h1)
    rcases HAT.o with e|⟨pb,po,rfl,hpb,hcells⟩
    · exfalso;rw[e]at hnk;simp at hnk
    have hcell:=hcells i n _ hnk;have k0:wr.cell? ⟨pb,po+i*14,none⟩=some (.int .i64 n.kind):=(HB.o.cell (p:=⟨pb,po+i*14,none⟩) hpb).trans (hcell 0 (by omega));have k1:wr.cell? ⟨pb,po+i*14+1,none⟩=some (.int .i64 n.num):=(HB.o.cell (p:=⟨pb,po+i*14+1,none⟩) hpb).trans (hcell 1 (by omega));have k2:wr.cell? ⟨pb,po+i*14+2,none⟩=some (.string n.text):=(HB.o.cell (p:=⟨pb,po+i*14+2,none⟩) hpb).trans (hcell 2 (by omega));have k3:wr.cell? ⟨pb,po+i*14+3,none⟩=some (.string n.ref.sh):=(HB.o.cell (p:=⟨pb,po+i*14+3,none⟩) hpb).trans (hcell 3 (by omega));have k4:wr.cell? ⟨pb,po+i*14+4,none⟩=some (.int .i64 n.ref.c):=(HB.o.cell (p:=⟨pb,po+i*14+4,none⟩) hpb).trans (hcell 4 (by omega));have k5:wr.cell? ⟨pb,po+i*14+5,none⟩=some (.int .i64 n.ref.r):=(HB.o.cell (p:=⟨pb,po+i*14+5,none⟩) hpb).trans (hcell 5 (by omega));have k6:wr.cell? ⟨pb,po+i*14+6,none⟩=some (.bool n.ref.ac):=(HB.o.cell (p:=⟨pb,po+i*14+6,none⟩) hpb).trans (hcell 6 (by omega));have k7:wr.cell? ⟨pb,po+i*14+7,none⟩=some (.bool n.ref.ar):=(HB.o.cell (p:=⟨pb,po+i*14+7,none⟩) hpb).trans (hcell 7 (by omega));have k8:wr.cell? ⟨pb,po+i*14+8,none⟩=some (.string n.ae.sh):=(HB.o.cell (p:=⟨pb,po+i*14+8,none⟩) hpb).trans (hcell 8 (by omega));have k9:wr.cell? ⟨pb,po+i*14+9,none⟩=some (.int .i64 n.ae.c):=(HB.o.cell (p:=⟨pb,po+i*14+9,none⟩) hpb).trans (hcell 9 (by omega));have k10:wr.cell? ⟨pb,po+i*14+10,none⟩=some (.int .i64 n.ae.r):=(HB.o.cell (p:=⟨pb,po+i*14+10,none⟩) hpb).trans (hcell 10 (by omega));have k11:wr.cell? ⟨pb,po+i*14+11,none⟩=some (.bool n.ae.ac):=(HB.o.cell (p:=⟨pb,po+i*14+11,none⟩) hpb).trans (hcell 11 (by omega));have k12:wr.cell? ⟨pb,po+i*14+12,none⟩=some (.bool n.ae.ar):=(HB.o.cell (p:=⟨pb,po+i*14+12,none⟩) hpb).trans (hcell 12 (by omega));have k13:wr.cell? ⟨pb,po+i*14+13,none⟩=some (.slice aJ m ck):=(HB.o.cell (p:=⟨pb,po+i*14+13,none⟩) hpb).trans (hcell 13 (by omega));clear hcell hcells hnk hmem pK hm hkc dh hmm;have hL:st.length≤1000:=by omega
    rcases HO.o.shape with ⟨rfl,hst⟩|⟨rg,uW,rfl,hrg,hrl,hrc,hrm⟩
    · have XJ:st.length=0:=by rw[hst];rfl
      by_cases hm0:m=0;rotate_left
      · have hneg : -(m:Int)<0:=by omega
        have oH:¬ m≤st.length:=by omega
        have HT2:=aa (show dM (vs.map (·.1))=false by rw[HT.o,HD.o,qc,HM.o,decide_eq_false oH,Bool.false_and,Bool.and_false]);exact absurd HT2.o (by rw[bX.o];decide)
      subst hm0;have HST:=aa hst;clear hst XJ;have hB3:Below wr.heap.size wr (wr.alloc (.cells #[.int .i64 n.kind,.int .i64 n.num,.string n.text,.string n.ref.sh,.int .i64 n.ref.c,.int .i64 n.ref.r,.bool n.ref.ac,.bool n.ref.ar,.string n.ae.sh,.int .i64 n.ae.c,.int .i64 n.ae.r,.bool n.ae.ac,.bool n.ae.ar,.slice aJ 0 ck] 48)):=(ai _ _).alloc (ag _) _;have aA:aH (wr.alloc (.cells #[.int .i64 n.kind,.int .i64 n.num,.string n.text,.string n.ref.sh,.int .i64 n.ref.c,.int .i64 n.ref.r,.bool n.ref.ac,.bool n.ref.ar,.string n.ae.sh,.int .i64 n.ae.c,.int .i64 n.ae.r,.bool n.ae.ac,.bool n.ae.ar,.slice aJ 0 ck] 48)) wr.heap.size n (.slice aJ 0 ck):=aH.new wr n _;have HB3:=aa (HB.o.trans (hB3.mono HB.o.size));have fA:=aa (HO.o.alloc (.cells #[.int .i64 n.kind,.int .i64 n.num,.string n.text,.string n.ref.sh,.int .i64 n.ref.c,.int .i64 n.ref.r,.bool n.ref.ac,.bool n.ref.ar,.string n.ae.sh,.int .i64 n.ae.c,.int .i64 n.ae.r,.bool n.ae.ac,.bool n.ae.ar,.slice aJ 0 ck] 48));clear hB3;go_upto_region 6 with (fail)
      generalize hb3:wr.heap.size=b3 at aA ⊢;generalize wr.alloc (.cells #[.int .i64 n.kind,.int .i64 n.num,.string n.text,.string n.ref.sh,.int .i64 n.ref.c,.int .i64 n.ref.r,.bool n.ref.ac,.bool n.ref.ar,.string n.ae.sh,.int .i64 n.ae.c,.int .i64 n.ae.r,.bool n.ae.ac,.bool n.ae.ar,.slice aJ 0 ck] 48)=w3 at aA HB3 fA ⊢;clear hb3 k0 k1 k2 k3 k4 k5 k6 k7 k8 k9 k10 k11 k12 k13 HO;have aA:=aa aA;obtain⟨f,hf⟩:∃f,st.length - 0=f:=⟨_,rfl⟩;have oH:0≤st.length:=cu _;have BZ:f≤st.length:=by omega
      have dG:=aa (show ∀W,Below w3.heap.size w3 W→je W w3.heap.size (.slice none 0 0) (st.drop f)from fun W hW=>⟨none,0,by rw[HST.o];simp,by rw[HST.o];simp,by unfold maxLen;omega,.inl (by rw[HST.o];simp)⟩);have GG:=aa (xY.o.below HB3.o (ag _));by_cases hdk:st.drop f=n.kids;rotate_left
      · have HT2:=aa (show dM (vs.map (·.1))=false by rw[HT.o,HD.o,qc,HM.o,hf,decide_eq_false hdk,Bool.false_and,Bool.and_false,Bool.and_false])
        exact absurd HT2.o (by rw[bX.o];decide)
      have kT:=aa (show ∀W,Below w3.heap.size w3 W→Calls Tryz.prog 77 #[.slice none 0 0,.slice aJ 0 ck] W fun e w'=>e = .returned (.bool true)∧Below W.heap.size W w' from fun W hW=>by
       have:=MR W w3.heap.size _ _ _ _ (dG.o W hW) ((GG.o.mono HB3.o.size).below hW (ag _));rw[decide_eq_true hdk]at this;exact this)
      have HDK:=aa hdk;cases hnb:fo n
      · have HT2:=aa (show dM (vs.map (·.1))=false by rw[HT.o,HD.o,qc,hnb,Bool.false_and])
        exact absurd HT2.o (by rw[bX.o];decide)
      · have HT2:=aa (show dM (vs.map (·.1))=qb (st.take f++[(i:Int)]) (i+1) ((vs.map (·.1)).drop (i+1))by rw[HT.o,HD.o,qc,hnb,HM.o,decide_eq_true oH,hf,decide_eq_true hdk,Bool.true_and,Bool.true_and,Bool.true_and])
        have ek:=aa (show ∀W,Below w3.heap.size w3 W→Calls Tryz.prog 78 #[.agg #[.int .i64 n.kind,.int .i64 n.num,.string n.text,.string n.ref.sh,.int .i64 n.ref.c,.int .i64 n.ref.r,.bool n.ref.ac,.bool n.ref.ar,.string n.ae.sh,.int .i64 n.ae.c,.int .i64 n.ae.r,.bool n.ae.ac,.bool n.ae.ar,.slice aJ 0 ck]] W fun e w'=>e = .returned (.bool true)∧Below W.heap.size W w' from fun W hW=>by
         exact OC W n (j3.o.below (HB3.o.trans (hW.mono HB3.o.size))) HZ1.o HZ2.o HZ3.o aJ 0 ck Bq.o (by rw[← HM.o,OB,hnb]))
        clear oH hdk hnb;refine wp_region_held_drew (S:=fun W=>Below w3.heap.size w3 W) (by kernel_rfl) (Below.drew (ai w3.heap.size w3)) (fun _ => ?_);show wpAnyH _ _ _ _ _ 16 #[false,false,false,false,false,false,false,false,false,false,false,false,false,false,false,false] _ _;refine hT 0 (Below.drew (ai w3.heap.size w3)) ?_;refine hT 1 (Below.drew (ai w3.heap.size w3)) ?_;refine hT 2 (Below.drew (ai w3.heap.size w3)) ?_;refine hT 3 (Below.drew (ai w3.heap.size w3)) ?_;refine hT 4 (Below.drew (ai w3.heap.size w3)) ?_;refine hT 5 (Below.drew (ai w3.heap.size w3)) ?_;refine hT 6 (Below.drew (ai w3.heap.size w3)) ?_;refine hT 7 (Below.drew (ai w3.heap.size w3)) ?_ (hy:=by(intro lC hSw;have hz:=(aA.o.below hSw aA.o.lt).cells;go_simp;try(with_reducible rfl)));refine hO 8 (fun K hK => ?_);go_simp;refine(kT.o _ (Below.drew (ai w3.heap.size w3))).mono ?_;rintro e w4 ⟨rfl,h1⟩;have HE:=aa ((Below.drew (ai w3.heap.size w3)).trans h1);clear h1;go_wp2_with fail
        refine hK.o _ _ HE.o ?_;clear hK K;simp only[Act.put,sT,iT,iR];refine hT 9 HE.o ?_;refine hT 10 HE.o ?_;refine hT 11 HE.o ?_;refine hT 12 HE.o ?_ (hy:=by(intro lC hSw;have hz:=(aA.o.below hSw aA.o.lt).cells;go_simp;try(with_reducible rfl)));refine hO 13 (fun K hK => ?_);go_simp;refine(ek.o _ HE.o).mono ?_;rintro e w5 ⟨rfl,h1⟩;have HF:=aa (HE.o.trans (h1.mono HE.o.size));clear h1;go_wp2_with fail
        refine hK.o _ _ HF.o ?_;clear hK K;simp only[Act.put,sT,iT,iR];refine hT 14 HF.o ?_;refine hT 15 HF.o ?_;refine wpAnyH_done (by kernel_rfl) ?_ _;have dU:=aa (HB3.o.trans (HF.o.mono HB3.o.size));have mO:=aa (fA.o.below HF.o (ag _));have xc:(st.take f).length≤1000:=by rw[gD];omega
        go_wp2_with (at_builtin;refine mH kS.o (bT .i64) rfl (.tmp 38) (.tmp 40) rfl w.heap.size (.slice none 0 0) (st.take f) rfl ((show Own (bT .i64) 3 w5 w.heap.size (.slice none 0 0) (st.take f)from by rw[HST.o,List.take_nil];exact Own.nil _ _ _ _).alloc _) ⟨w5.heap.size,0,none⟩ 1 1 [(i:Int)] rfl rfl ?_ ?_ ?_ ?_ ?_;exact fZ _ _ _ rfl;exact bZ (Nat.mul_le_mul_left _ lh) (by omega);(unfold maxLen;omega);(have:=dU.o.size;simp <;> omega);intro pO w6 h1 h2;have rZ:=aa h1;have lI:=aa (((dU.o.alloc dU.o.size _)).trans h2);clear h1 h2)
        go_roundw
        case rel=>exact⟨i+1,st.take f++[(i:Int)],pO,by omega,by rw[aj,gD,fq];omega,rfl,by go_num,HT2,rZ,lI⟩
        case measure=>simp[intOf];omega
    · skip
      by_cases oH:m≤st.length;rotate_left
      · have hneg:(st.length:Int) - (m:Int)<0:=by omega
        have HT2:=aa (show dM (vs.map (·.1))=false by rw[HT.o,HD.o,qc,HM.o,decide_eq_false oH,Bool.false_and,Bool.and_false]);exact absurd HT2.o (by rw[bX.o];decide)
      obtain⟨f,hf⟩:∃f,st.length - m=f:=⟨_,rfl⟩;have hw1 : -9223372036854775808≤(st.length:Int) - (m:Int):=by omega
      have hw2:(st.length:Int) - (m:Int)≤9223372036854775807:=by omega
      have hfi:(st.length:Int) - (m:Int)=(f:Int):=by omega
      have hfn:¬ (f:Int)<0:=by omega
      have hf0:(0:Int)≤(f:Int):=by omega
      have hfl:(f:Int)≤(st.length:Int):=by omega
      have BZ:f≤st.length:=by omega
      have hB3:Below wr.heap.size wr (wr.alloc (.cells #[.int .i64 n.kind,.int .i64 n.num,.string n.text,.string n.ref.sh,.int .i64 n.ref.c,.int .i64 n.ref.r,.bool n.ref.ac,.bool n.ref.ar,.string n.ae.sh,.int .i64 n.ae.c,.int .i64 n.ae.r,.bool n.ae.ac,.bool n.ae.ar,.slice aJ m ck] 48)):=(ai _ _).alloc (ag _) _;have aA:aH (wr.alloc (.cells #[.int .i64 n.kind,.int .i64 n.num,.string n.text,.string n.ref.sh,.int .i64 n.ref.c,.int .i64 n.ref.r,.bool n.ref.ac,.bool n.ref.ar,.string n.ae.sh,.int .i64 n.ae.c,.int .i64 n.ae.r,.bool n.ae.ac,.bool n.ae.ar,.slice aJ m ck] 48)) wr.heap.size n (.slice aJ m ck):=aH.new wr n _;have HB3:=aa (HB.o.trans (hB3.mono HB.o.size));have fA:=aa (HO.o.alloc (.cells #[.int .i64 n.kind,.int .i64 n.num,.string n.text,.string n.ref.sh,.int .i64 n.ref.c,.int .i64 n.ref.r,.bool n.ref.ac,.bool n.ref.ar,.string n.ae.sh,.int .i64 n.ae.c,.int .i64 n.ae.r,.bool n.ae.ac,.bool n.ae.ar,.slice aJ m ck] 48));clear hB3;go_upto_region 6 with (fail)
      generalize hb3:wr.heap.size=b3 at aA ⊢;generalize wr.alloc (.cells #[.int .i64 n.kind,.int .i64 n.num,.string n.text,.string n.ref.sh,.int .i64 n.ref.c,.int .i64 n.ref.r,.bool n.ref.ac,.bool n.ref.ar,.string n.ae.sh,.int .i64 n.ae.c,.int .i64 n.ae.r,.bool n.ae.ac,.bool n.ae.ar,.slice aJ m ck] 48)=w3 at aA HB3 fA ⊢;clear hb3 k0 k1 k2 k3 k4 k5 k6 k7 k8 k9 k10 k11 k12 k13 HO;have aA:=aa aA;have afA:(f:Int)≤(uW:Int):=by omega
      obtain⟨AT,WB⟩:∃AT,(if uW=f then some (⟨rg,0,none⟩:Addr)else some ⟨rg,f,none⟩)=AT:=⟨_,rfl⟩;have dG:=aa (show ∀W,Below w3.heap.size w3 W→je W w3.heap.size (.slice AT (st.length - f) (uW - f)) (st.drop f)from fun W hW=>by rw[← WB];exact(je.tail fA.o f BZ hrc hrm (by have:=(fA.o.jB rg rfl).2.1;exact this)).below hW (ag _));have GG:=aa (xY.o.below HB3.o (ag _));by_cases hdk:st.drop f=n.kids;rotate_left
      · have HT2:=aa (show dM (vs.map (·.1))=false by rw[HT.o,HD.o,qc,HM.o,hf,decide_eq_false hdk,Bool.false_and,Bool.and_false,Bool.and_false])
        exact absurd HT2.o (by rw[bX.o];decide)
      have kT:=aa (show ∀W,Below w3.heap.size w3 W→Calls Tryz.prog 77 #[.slice AT (st.length - f) (uW - f),.slice aJ m ck] W fun e w'=>e = .returned (.bool true)∧Below W.heap.size W w' from fun W hW=>by
       have:=MR W w3.heap.size _ _ _ _ (dG.o W hW) ((GG.o.mono HB3.o.size).below hW (ag _));rw[decide_eq_true hdk]at this;exact this)
      have HDK:=aa hdk;cases hnb:fo n
      · have HT2:=aa (show dM (vs.map (·.1))=false by rw[HT.o,HD.o,qc,hnb,Bool.false_and])
        exact absurd HT2.o (by rw[bX.o];decide)
      · have HT2:=aa (show dM (vs.map (·.1))=qb (st.take f++[(i:Int)]) (i+1) ((vs.map (·.1)).drop (i+1))by rw[HT.o,HD.o,qc,hnb,HM.o,decide_eq_true oH,hf,decide_eq_true hdk,Bool.true_and,Bool.true_and,Bool.true_and])
        have ek:=aa (show ∀W,Below w3.heap.size w3 W→Calls Tryz.prog 78 #[.agg #[.int .i64 n.kind,.int .i64 n.num,.string n.text,.string n.ref.sh,.int .i64 n.ref.c,.int .i64 n.ref.r,.bool n.ref.ac,.bool n.ref.ar,.string n.ae.sh,.int .i64 n.ae.c,.int .i64 n.ae.r,.bool n.ae.ac,.bool n.ae.ar,.slice aJ m ck]] W fun e w'=>e = .returned (.bool true)∧Below W.heap.size W w' from fun W hW=>by
         exact OC W n (j3.o.below (HB3.o.trans (hW.mono HB3.o.size))) HZ1.o HZ2.o HZ3.o aJ m ck Bq.o (by rw[← HM.o,OB,hnb]))
        clear oH hdk hnb;refine wp_region_held_drew (S:=fun W=>Below w3.heap.size w3 W) (by kernel_rfl) (Below.drew (ai w3.heap.size w3)) (fun _ => ?_);show wpAnyH _ _ _ _ _ 16 #[false,false,false,false,false,false,false,false,false,false,false,false,false,false,false,false] _ _;refine hT 0 (Below.drew (ai w3.heap.size w3)) ?_;refine hT 1 (Below.drew (ai w3.heap.size w3)) ?_;refine hT 2 (Below.drew (ai w3.heap.size w3)) ?_;refine hT 3 (Below.drew (ai w3.heap.size w3)) ?_;refine hT 4 (Below.drew (ai w3.heap.size w3)) ?_;refine hT 5 (Below.drew (ai w3.heap.size w3)) ?_;refine hT 6 (Below.drew (ai w3.heap.size w3)) ?_;refine hT 7 (Below.drew (ai w3.heap.size w3)) ?_ (hy:=by(intro lC hSw;have hz:=(aA.o.below hSw aA.o.lt).cells;go_simp;try(with_reducible rfl)));refine hO 8 (fun K hK => ?_);go_simp;refine(kT.o _ (Below.drew (ai w3.heap.size w3))).mono ?_;rintro e w4 ⟨rfl,h1⟩;have HE:=aa ((Below.drew (ai w3.heap.size w3)).trans h1);clear h1;go_wp2_with fail
        refine hK.o _ _ HE.o ?_;clear hK K;simp only[Act.put,sT,iT,iR];refine hT 9 HE.o ?_;refine hT 10 HE.o ?_;refine hT 11 HE.o ?_;refine hT 12 HE.o ?_ (hy:=by(intro lC hSw;have hz:=(aA.o.below hSw aA.o.lt).cells;go_simp;try(with_reducible rfl)));refine hO 13 (fun K hK => ?_);go_simp;refine(ek.o _ HE.o).mono ?_;rintro e w5 ⟨rfl,h1⟩;have HF:=aa (HE.o.trans (h1.mono HE.o.size));clear h1;go_wp2_with fail
        refine hK.o _ _ HF.o ?_;clear hK K;simp only[Act.put,sT,iT,iR];refine hT 14 HF.o ?_;refine hT 15 HF.o ?_;refine wpAnyH_done (by kernel_rfl) ?_ _;have dU:=aa (HB3.o.trans (HF.o.mono HB3.o.size));have mO:=aa (fA.o.below HF.o (ag _));have xc:(st.take f).length≤1000:=by rw[gD];omega
        go_wp2_with (at_builtin;refine mH kS.o (bT .i64) rfl (.tmp 38) (.tmp 40) rfl w.heap.size (.slice (some ⟨rg,0,none⟩) f uW) (st.take f) rfl ((PY mO.o f BZ).alloc _) ⟨w5.heap.size,0,none⟩ 1 1 [(i:Int)] rfl rfl ?_ ?_ ?_ ?_ ?_;exact fZ _ _ _ rfl;exact bZ (Nat.mul_le_mul_left _ lh) (by omega);(unfold maxLen;omega);(have:=dU.o.size;simp <;> omega);intro pO w6 h1 h2;have rZ:=aa h1;have lI:=aa (((dU.o.alloc dU.o.size _)).trans h2);clear h1 h2)
        go_roundw
        case rel=>exact⟨i+1,st.take f++[(i:Int)],pO,by omega,by rw[aj,gD,fq];omega,rfl,by go_num,HT2,rZ,lI⟩
        case measure=>simp[intOf];omega
  · have hii:¬ (i:Int)<(nl:Int):=by omega
    have hin:i=nl:=by omega
    have HT2:=aa (show dM (vs.map (·.1))=decide (st.length=1)by
     rw[HT.o,List.drop_of_length_le (by rw[dN,nA.o];omega)];rfl)
    rcases HO.o.shape with ⟨rfl,hst⟩|⟨rg,uW,rfl, -⟩
    · rw[hst]at HT2
      exact absurd HT2.o (by rw[bX.o];decide)
    · by_cases h1:st.length=1
      · have Wz:((st.length:Int) == 1)=true:=by rw[beq_iff_eq];omega
        clear h1 HT2;go_wp2_with fail
        go_ret;exact⟨rfl,HB.o⟩
      · rw[decide_eq_false h1,bX.o]at HT2
        exact absurd HT2.o (by decide)
theorem oL (s:ByteArray)(c r:Int)(ac ar:Bool)(w:World)(_hs:s.size≤1000000) :
 Calls Tryz.prog 85 #[.agg #[.string s,.int .i64 c,.int .i64 r,.bool ac,.bool ar]] w fun e w'=>e = .returned (.bool (dn (sb s) c r))∧Below w.heap.size w w':=by
 by_cases h0:s.size=0
 · have:=rJ s h0
   subst this;have hm:dn (sb ⟨#[]⟩) c r=decide (0≤c∧c≤701∧0≤r∧r≤998):=by unfold dn;rw[show decide (sb ⟨#[]⟩=[])=true from by decide,Bool.true_or,Bool.true_and]
   have HM:=aa hm;clear hm;go_enter Tryz.func85,Tryz.ntmps85
   go_wp2
   all_goals go_ret
   all_goals exact⟨dD (by rw[HM.o];first|(symm;rw[decide_eq_true_iff];omega)|(symm;rw[decide_eq_false_iff_not];omega)|(rw[decide_eq_decide];omega)),(ai _ _).alloc (ag _) _⟩
 · have hne:=p8 s h0
   have hm:dn (sb s) c r=(fF (sb s)&&decide (0≤c∧c≤701∧0≤r∧r≤998)):=by
    unfold dn;rw[decide_eq_false (by intro h;have:=bC s;rw[h]at this;exact h0 this.symm),Bool.false_or]
   have HM:=aa hm;clear hm h0;by_cases hn:fF (sb s)=true
   · go_enter Tryz.func85,Tryz.ntmps85
     go_wp2_with (first
      | (go_at_call 110;((with_reducible refine(JF _ _ ?_).mono ?_);(first|omega|skip);rintro e w' ⟨rfl,rfl⟩)))
     all_goals go_ret
     all_goals exact⟨dD (by rw[HM.o,hn,Bool.true_and];first|(symm;rw[decide_eq_true_iff];omega)|(symm;rw[decide_eq_false_iff_not];omega)|(rw[decide_eq_decide];omega)),(ai _ _).alloc (ag _) _⟩
   · have hn':fF (sb s)=false:=by simpa using hn
     clear hn;go_enter Tryz.func85,Tryz.ntmps85
     go_wp2_with (first
      | (go_at_call 110;((with_reducible refine(JF _ _ ?_).mono ?_);(first|omega|skip);rintro e w' ⟨rfl,rfl⟩)))
     all_goals go_ret
     all_goals exact⟨dD (by rw[HM.o,hn',Bool.false_and]),(ai _ _).alloc (ag _) _⟩
theorem ad5 (s:ByteArray)(c r:Int)(k:Nat)(w:World)(_hs:s.size≤1000000)(h0:s.size=0)(hm:dn (sb s) c r=true)(hc0:0≤c)(hc1:c≤701)(hr0:0≤r)(hr1:r≤998)(hk:r+1=(k:Int))(hz1:(strOfNums (aS c)).size≤2)(hz2:(strOfNums (aF k)).size≤1000) :
 Calls Tryz.prog 94 #[.agg #[.string s,.int .i64 c,.int .i64 r,.bool false,.bool false]] w fun e w'=>e = .returned (.string (strOfNums (aO (sb s) c r false false)))∧Below w.heap.size w w':=by
       have hk2:(r+1).toNat=k:=by omega
       have he:sb s=[]:=l5 (by rw[bC];exact h0);have ht:([]++aS c)++aF k=aO (sb s) c r false false:=by unfold aO;rw[if_pos hm,hk2,if_pos he];simp
       have HT:=aa ht;clear ht hk2 he;have:=rJ s h0;subst this;clear h0;have hR0:=bV.new w ⟨#[]⟩ c r false false;have gG:=aa hR0;clear hR0;go_enter Tryz.func94,Tryz.ntmps94
       go_wp2_with (first
        | (go_at_call 85;((with_reducible refine(oL _ _ _ _ _ _ ?_).mono ?_);(first|omega|skip);rintro e w1 ⟨rfl,h1⟩;have iq:=gG.o.below h1 gG.o.lt;obtain⟨x0,x1,x2,x3,x4⟩:=iq.facts;have HR1:=aa iq;clear iq;have H1:=aa h1;clear h1))
        | (go_at_call 41;((with_reducible refine(vY _ ?_ ?_ _).mono ?_);(first|omega|skip);(first|omega|skip);rintro e w2 ⟨rfl,h2⟩;have hR2:=HR1.o.below h2 HR1.o.lt;clear x0 x1 x2 x3 x4;obtain⟨x0,x1,x2,x3,x4⟩:=hR2.facts;have HR2:=aa hR2;clear hR2;have H2:=aa h2;clear h2))
        | (go_at_call 40;((with_reducible refine(uf _ ?_ _).mono ?_);(first|omega|skip);rintro e w3 ⟨rfl,h3⟩;clear x0 x1 x2 x3 x4;have H3:=aa h3;clear h3)))
       go_ret;exact⟨iQ ((iV (iV Fs (Eq.refl (strOfNums (aS c)))) (Eq.refl (strOfNums (aF k)))).trans (congrArg strOfNums HT.o)),vF ((ai _ _).alloc (ag _) _) H1.o H2.o H3.o⟩
theorem ad4 (s:ByteArray)(c r:Int)(k:Nat)(w:World)(_hs:s.size≤1000000)(h0:s.size=0)(hm:dn (sb s) c r=true)(hc0:0≤c)(hc1:c≤701)(hr0:0≤r)(hr1:r≤998)(hk:r+1=(k:Int))(hz1:(strOfNums (aS c)).size≤2)(hz2:(strOfNums (aF k)).size≤1000) :
 Calls Tryz.prog 94 #[.agg #[.string s,.int .i64 c,.int .i64 r,.bool false,.bool true]] w fun e w'=>e = .returned (.string (strOfNums (aO (sb s) c r false true)))∧Below w.heap.size w w':=by
       have hk2:(r+1).toNat=k:=by omega
       have he:sb s=[]:=l5 (by rw[bC];exact h0);have ht:(([]++aS c)++[36])++aF k=aO (sb s) c r false true:=by unfold aO;rw[if_pos hm,hk2,if_pos he];simp
       have HT:=aa ht;clear ht hk2 he;have:=rJ s h0;subst this;clear h0;have hR0:=bV.new w ⟨#[]⟩ c r false true;have gG:=aa hR0;clear hR0;go_enter Tryz.func94,Tryz.ntmps94
       go_wp2_with (first
        | (go_at_call 85;((with_reducible refine(oL _ _ _ _ _ _ ?_).mono ?_);(first|omega|skip);rintro e w1 ⟨rfl,h1⟩;have iq:=gG.o.below h1 gG.o.lt;obtain⟨x0,x1,x2,x3,x4⟩:=iq.facts;have HR1:=aa iq;clear iq;have H1:=aa h1;clear h1))
        | (go_at_call 41;((with_reducible refine(vY _ ?_ ?_ _).mono ?_);(first|omega|skip);(first|omega|skip);rintro e w2 ⟨rfl,h2⟩;have hR2:=HR1.o.below h2 HR1.o.lt;clear x0 x1 x2 x3 x4;obtain⟨x0,x1,x2,x3,x4⟩:=hR2.facts;have HR2:=aa hR2;clear hR2;have H2:=aa h2;clear h2))
        | (go_at_call 40;((with_reducible refine(uf _ ?_ _).mono ?_);(first|omega|skip);rintro e w3 ⟨rfl,h3⟩;clear x0 x1 x2 x3 x4;have H3:=aa h3;clear h3)))
       go_ret;exact⟨iQ ((iV (iV (iV Fs (Eq.refl (strOfNums (aS c)))) xA) (Eq.refl (strOfNums (aF k)))).trans (congrArg strOfNums HT.o)),vF ((ai _ _).alloc (ag _) _) H1.o H2.o H3.o⟩
theorem ad3 (s:ByteArray)(c r:Int)(k:Nat)(w:World)(_hs:s.size≤1000000)(h0:s.size=0)(hm:dn (sb s) c r=true)(hc0:0≤c)(hc1:c≤701)(hr0:0≤r)(hr1:r≤998)(hk:r+1=(k:Int))(hz1:(strOfNums (aS c)).size≤2)(hz2:(strOfNums (aF k)).size≤1000) :
 Calls Tryz.prog 94 #[.agg #[.string s,.int .i64 c,.int .i64 r,.bool true,.bool false]] w fun e w'=>e = .returned (.string (strOfNums (aO (sb s) c r true false)))∧Below w.heap.size w w':=by
       have hk2:(r+1).toNat=k:=by omega
       have he:sb s=[]:=l5 (by rw[bC];exact h0);have ht:(([]++[36])++aS c)++aF k=aO (sb s) c r true false:=by unfold aO;rw[if_pos hm,hk2,if_pos he];simp
       have HT:=aa ht;clear ht hk2 he;have:=rJ s h0;subst this;clear h0;have hR0:=bV.new w ⟨#[]⟩ c r true false;have gG:=aa hR0;clear hR0;go_enter Tryz.func94,Tryz.ntmps94
       go_wp2_with (first
        | (go_at_call 85;((with_reducible refine(oL _ _ _ _ _ _ ?_).mono ?_);(first|omega|skip);rintro e w1 ⟨rfl,h1⟩;have iq:=gG.o.below h1 gG.o.lt;obtain⟨x0,x1,x2,x3,x4⟩:=iq.facts;have HR1:=aa iq;clear iq;have H1:=aa h1;clear h1))
        | (go_at_call 41;((with_reducible refine(vY _ ?_ ?_ _).mono ?_);(first|omega|skip);(first|omega|skip);rintro e w2 ⟨rfl,h2⟩;have hR2:=HR1.o.below h2 HR1.o.lt;clear x0 x1 x2 x3 x4;obtain⟨x0,x1,x2,x3,x4⟩:=hR2.facts;have HR2:=aa hR2;clear hR2;have H2:=aa h2;clear h2))
        | (go_at_call 40;((with_reducible refine(uf _ ?_ _).mono ?_);(first|omega|skip);rintro e w3 ⟨rfl,h3⟩;clear x0 x1 x2 x3 x4;have H3:=aa h3;clear h3)))
       go_ret;exact⟨iQ ((iV (iV (iV Fs xA) (Eq.refl (strOfNums (aS c)))) (Eq.refl (strOfNums (aF k)))).trans (congrArg strOfNums HT.o)),vF ((ai _ _).alloc (ag _) _) H1.o H2.o H3.o⟩
theorem ad2 (s:ByteArray)(c r:Int)(k:Nat)(w:World)(_hs:s.size≤1000000)(h0:s.size=0)(hm:dn (sb s) c r=true)(hc0:0≤c)(hc1:c≤701)(hr0:0≤r)(hr1:r≤998)(hk:r+1=(k:Int))(hz1:(strOfNums (aS c)).size≤2)(hz2:(strOfNums (aF k)).size≤1000) :
 Calls Tryz.prog 94 #[.agg #[.string s,.int .i64 c,.int .i64 r,.bool true,.bool true]] w fun e w'=>e = .returned (.string (strOfNums (aO (sb s) c r true true)))∧Below w.heap.size w w':=by
       have hk2:(r+1).toNat=k:=by omega
       have he:sb s=[]:=l5 (by rw[bC];exact h0);have ht:((([]++[36])++aS c)++[36])++aF k=aO (sb s) c r true true:=by unfold aO;rw[if_pos hm,hk2,if_pos he];simp
       have HT:=aa ht;clear ht hk2 he;have:=rJ s h0;subst this;clear h0;have hR0:=bV.new w ⟨#[]⟩ c r true true;have gG:=aa hR0;clear hR0;go_enter Tryz.func94,Tryz.ntmps94
       go_wp2_with (first
        | (go_at_call 85;((with_reducible refine(oL _ _ _ _ _ _ ?_).mono ?_);(first|omega|skip);rintro e w1 ⟨rfl,h1⟩;have iq:=gG.o.below h1 gG.o.lt;obtain⟨x0,x1,x2,x3,x4⟩:=iq.facts;have HR1:=aa iq;clear iq;have H1:=aa h1;clear h1))
        | (go_at_call 41;((with_reducible refine(vY _ ?_ ?_ _).mono ?_);(first|omega|skip);(first|omega|skip);rintro e w2 ⟨rfl,h2⟩;have hR2:=HR1.o.below h2 HR1.o.lt;clear x0 x1 x2 x3 x4;obtain⟨x0,x1,x2,x3,x4⟩:=hR2.facts;have HR2:=aa hR2;clear hR2;have H2:=aa h2;clear h2))
        | (go_at_call 40;((with_reducible refine(uf _ ?_ _).mono ?_);(first|omega|skip);rintro e w3 ⟨rfl,h3⟩;clear x0 x1 x2 x3 x4;have H3:=aa h3;clear h3)))
       go_ret;exact⟨iQ ((iV (iV (iV (iV Fs xA) (Eq.refl (strOfNums (aS c)))) xA) (Eq.refl (strOfNums (aF k)))).trans (congrArg strOfNums HT.o)),vF ((ai _ _).alloc (ag _) _) H1.o H2.o H3.o⟩
theorem ad9 (s:ByteArray)(c r:Int)(k:Nat)(w:World)(_hs:s.size≤1000000)(h0:¬ s.size=0)(hm:dn (sb s) c r=true)(hc0:0≤c)(hc1:c≤701)(hr0:0≤r)(hr1:r≤998)(hk:r+1=(k:Int))(hz1:(strOfNums (aS c)).size≤2)(hz2:(strOfNums (aF k)).size≤1000) :
 Calls Tryz.prog 94 #[.agg #[.string s,.int .i64 c,.int .i64 r,.bool false,.bool false]] w fun e w'=>e = .returned (.string (strOfNums (aO (sb s) c r false false)))∧Below w.heap.size w w':=by
       have hk2:(r+1).toNat=k:=by omega
       have he:¬ sb s=[]:=by intro h;have:=bC s;rw[h]at this;exact h0 this.symm
       have ht:((sb s++[33])++aS c)++aF k=aO (sb s) c r false false:=by unfold aO;rw[if_pos hm,hk2,if_neg he];simp
       have HT:=aa ht;clear ht hk2 he;have hne:s.toList.isEmpty=false:=by cases hq:s.toList with|nil=>exact absurd hq (p8 s h0)|cons a l=>rfl
       clear h0;have hR0:=bV.new w s c r false false;have gG:=aa hR0;clear hR0;go_enter Tryz.func94,Tryz.ntmps94
       go_wp2_with (first
        | (go_at_call 85;((with_reducible refine(oL _ _ _ _ _ _ ?_).mono ?_);(first|omega|skip);rintro e w1 ⟨rfl,h1⟩;have iq:=gG.o.below h1 gG.o.lt;obtain⟨x0,x1,x2,x3,x4⟩:=iq.facts;have HR1:=aa iq;clear iq;have H1:=aa h1;clear h1))
        | (go_at_call 41;((with_reducible refine(vY _ ?_ ?_ _).mono ?_);(first|omega|skip);(first|omega|skip);rintro e w2 ⟨rfl,h2⟩;have hR2:=HR1.o.below h2 HR1.o.lt;clear x0 x1 x2 x3 x4;obtain⟨x0,x1,x2,x3,x4⟩:=hR2.facts;have HR2:=aa hR2;clear hR2;have H2:=aa h2;clear h2))
        | (go_at_call 40;((with_reducible refine(uf _ ?_ _).mono ?_);(first|omega|skip);rintro e w3 ⟨rfl,h3⟩;clear x0 x1 x2 x3 x4;have H3:=aa h3;clear h3)))
       go_ret;exact⟨iQ ((iV (iV (iV (jU s).symm Fq) (Eq.refl (strOfNums (aS c)))) (Eq.refl (strOfNums (aF k)))).trans (congrArg strOfNums HT.o)),vF ((ai _ _).alloc (ag _) _) H1.o H2.o H3.o⟩
theorem ad8 (s:ByteArray)(c r:Int)(k:Nat)(w:World)(_hs:s.size≤1000000)(h0:¬ s.size=0)(hm:dn (sb s) c r=true)(hc0:0≤c)(hc1:c≤701)(hr0:0≤r)(hr1:r≤998)(hk:r+1=(k:Int))(hz1:(strOfNums (aS c)).size≤2)(hz2:(strOfNums (aF k)).size≤1000) :
 Calls Tryz.prog 94 #[.agg #[.string s,.int .i64 c,.int .i64 r,.bool false,.bool true]] w fun e w'=>e = .returned (.string (strOfNums (aO (sb s) c r false true)))∧Below w.heap.size w w':=by
       have hk2:(r+1).toNat=k:=by omega
       have he:¬ sb s=[]:=by intro h;have:=bC s;rw[h]at this;exact h0 this.symm
       have ht:(((sb s++[33])++aS c)++[36])++aF k=aO (sb s) c r false true:=by unfold aO;rw[if_pos hm,hk2,if_neg he];simp
       have HT:=aa ht;clear ht hk2 he;have hne:s.toList.isEmpty=false:=by cases hq:s.toList with|nil=>exact absurd hq (p8 s h0)|cons a l=>rfl
       clear h0;have hR0:=bV.new w s c r false true;have gG:=aa hR0;clear hR0;go_enter Tryz.func94,Tryz.ntmps94
       go_wp2_with (first
        | (go_at_call 85;((with_reducible refine(oL _ _ _ _ _ _ ?_).mono ?_);(first|omega|skip);rintro e w1 ⟨rfl,h1⟩;have iq:=gG.o.below h1 gG.o.lt;obtain⟨x0,x1,x2,x3,x4⟩:=iq.facts;have HR1:=aa iq;clear iq;have H1:=aa h1;clear h1))
        | (go_at_call 41;((with_reducible refine(vY _ ?_ ?_ _).mono ?_);(first|omega|skip);(first|omega|skip);rintro e w2 ⟨rfl,h2⟩;have hR2:=HR1.o.below h2 HR1.o.lt;clear x0 x1 x2 x3 x4;obtain⟨x0,x1,x2,x3,x4⟩:=hR2.facts;have HR2:=aa hR2;clear hR2;have H2:=aa h2;clear h2))
        | (go_at_call 40;((with_reducible refine(uf _ ?_ _).mono ?_);(first|omega|skip);rintro e w3 ⟨rfl,h3⟩;clear x0 x1 x2 x3 x4;have H3:=aa h3;clear h3)))
       go_ret;exact⟨iQ ((iV (iV (iV (iV (jU s).symm Fq) (Eq.refl (strOfNums (aS c)))) xA) (Eq.refl (strOfNums (aF k)))).trans (congrArg strOfNums HT.o)),vF ((ai _ _).alloc (ag _) _) H1.o H2.o H3.o⟩
theorem ad7 (s:ByteArray)(c r:Int)(k:Nat)(w:World)(_hs:s.size≤1000000)(h0:¬ s.size=0)(hm:dn (sb s) c r=true)(hc0:0≤c)(hc1:c≤701)(hr0:0≤r)(hr1:r≤998)(hk:r+1=(k:Int))(hz1:(strOfNums (aS c)).size≤2)(hz2:(strOfNums (aF k)).size≤1000) :
 Calls Tryz.prog 94 #[.agg #[.string s,.int .i64 c,.int .i64 r,.bool true,.bool false]] w fun e w'=>e = .returned (.string (strOfNums (aO (sb s) c r true false)))∧Below w.heap.size w w':=by
       have hk2:(r+1).toNat=k:=by omega
       have he:¬ sb s=[]:=by intro h;have:=bC s;rw[h]at this;exact h0 this.symm
       have ht:(((sb s++[33])++[36])++aS c)++aF k=aO (sb s) c r true false:=by unfold aO;rw[if_pos hm,hk2,if_neg he];simp
       have HT:=aa ht;clear ht hk2 he;have hne:s.toList.isEmpty=false:=by cases hq:s.toList with|nil=>exact absurd hq (p8 s h0)|cons a l=>rfl
       clear h0;have hR0:=bV.new w s c r true false;have gG:=aa hR0;clear hR0;go_enter Tryz.func94,Tryz.ntmps94
       go_wp2_with (first
        | (go_at_call 85;((with_reducible refine(oL _ _ _ _ _ _ ?_).mono ?_);(first|omega|skip);rintro e w1 ⟨rfl,h1⟩;have iq:=gG.o.below h1 gG.o.lt;obtain⟨x0,x1,x2,x3,x4⟩:=iq.facts;have HR1:=aa iq;clear iq;have H1:=aa h1;clear h1))
        | (go_at_call 41;((with_reducible refine(vY _ ?_ ?_ _).mono ?_);(first|omega|skip);(first|omega|skip);rintro e w2 ⟨rfl,h2⟩;have hR2:=HR1.o.below h2 HR1.o.lt;clear x0 x1 x2 x3 x4;obtain⟨x0,x1,x2,x3,x4⟩:=hR2.facts;have HR2:=aa hR2;clear hR2;have H2:=aa h2;clear h2))
        | (go_at_call 40;((with_reducible refine(uf _ ?_ _).mono ?_);(first|omega|skip);rintro e w3 ⟨rfl,h3⟩;clear x0 x1 x2 x3 x4;have H3:=aa h3;clear h3)))
       go_ret;exact⟨iQ ((iV (iV (iV (iV (jU s).symm Fq) xA) (Eq.refl (strOfNums (aS c)))) (Eq.refl (strOfNums (aF k)))).trans (congrArg strOfNums HT.o)),vF ((ai _ _).alloc (ag _) _) H1.o H2.o H3.o⟩
theorem ad6 (s:ByteArray)(c r:Int)(k:Nat)(w:World)(_hs:s.size≤1000000)(h0:¬ s.size=0)(hm:dn (sb s) c r=true)(hc0:0≤c)(hc1:c≤701)(hr0:0≤r)(hr1:r≤998)(hk:r+1=(k:Int))(hz1:(strOfNums (aS c)).size≤2)(hz2:(strOfNums (aF k)).size≤1000) :
 Calls Tryz.prog 94 #[.agg #[.string s,.int .i64 c,.int .i64 r,.bool true,.bool true]] w fun e w'=>e = .returned (.string (strOfNums (aO (sb s) c r true true)))∧Below w.heap.size w w':=by
       have hk2:(r+1).toNat=k:=by omega
       have he:¬ sb s=[]:=by intro h;have:=bC s;rw[h]at this;exact h0 this.symm
       have ht:((((sb s++[33])++[36])++aS c)++[36])++aF k=aO (sb s) c r true true:=by unfold aO;rw[if_pos hm,hk2,if_neg he];simp
       have HT:=aa ht;clear ht hk2 he;have hne:s.toList.isEmpty=false:=by cases hq:s.toList with|nil=>exact absurd hq (p8 s h0)|cons a l=>rfl
       clear h0;have hR0:=bV.new w s c r true true;have gG:=aa hR0;clear hR0;go_enter Tryz.func94,Tryz.ntmps94
       go_wp2_with (first
        | (go_at_call 85;((with_reducible refine(oL _ _ _ _ _ _ ?_).mono ?_);(first|omega|skip);rintro e w1 ⟨rfl,h1⟩;have iq:=gG.o.below h1 gG.o.lt;obtain⟨x0,x1,x2,x3,x4⟩:=iq.facts;have HR1:=aa iq;clear iq;have H1:=aa h1;clear h1))
        | (go_at_call 41;((with_reducible refine(vY _ ?_ ?_ _).mono ?_);(first|omega|skip);(first|omega|skip);rintro e w2 ⟨rfl,h2⟩;have hR2:=HR1.o.below h2 HR1.o.lt;clear x0 x1 x2 x3 x4;obtain⟨x0,x1,x2,x3,x4⟩:=hR2.facts;have HR2:=aa hR2;clear hR2;have H2:=aa h2;clear h2))
        | (go_at_call 40;((with_reducible refine(uf _ ?_ _).mono ?_);(first|omega|skip);rintro e w3 ⟨rfl,h3⟩;clear x0 x1 x2 x3 x4;have H3:=aa h3;clear h3)))
       go_ret;exact⟨iQ ((iV (iV (iV (iV (iV (jU s).symm Fq) xA) (Eq.refl (strOfNums (aS c)))) xA) (Eq.refl (strOfNums (aF k)))).trans (congrArg strOfNums HT.o)),vF ((ai _ _).alloc (ag _) _) H1.o H2.o H3.o⟩
theorem Cz (s:ByteArray)(c r:Int)(ac ar:Bool)(w:World)(_hs:s.size≤1000000) :
 Calls Tryz.prog 94 #[.agg #[.string s,.int .i64 c,.int .i64 r,.bool ac,.bool ar]] w fun e w'=>e = .returned (.string (strOfNums (aO (sb s) c r ac ar)))∧Below w.heap.size w w':=by
 by_cases hm:dn (sb s) c r=true
 · obtain ⟨hc0,hc1,hr0,hr1⟩:=Po hm
   have hl1:=OU c;obtain⟨k,hk⟩:∃k:Nat,r+1=(k:Int):=⟨(r+1).toNat,by omega⟩;have hl2:=OV k;have hz1:(strOfNums (aS c)).size≤2:=by rw[strOfNums_size];exact hl1
   have hz2:(strOfNums (aF k)).size≤1000:=by rw[strOfNums_size];omega
   by_cases h0:s.size=0
   · cases ac <;> cases ar
     · exact ad5 s c r k w _hs h0 hm hc0 hc1 hr0 hr1 hk hz1 hz2
     · exact ad4 s c r k w _hs h0 hm hc0 hc1 hr0 hr1 hk hz1 hz2
     · exact ad3 s c r k w _hs h0 hm hc0 hc1 hr0 hr1 hk hz1 hz2
     · exact ad2 s c r k w _hs h0 hm hc0 hc1 hr0 hr1 hk hz1 hz2
   · cases ac <;> cases ar
     · exact ad9 s c r k w _hs h0 hm hc0 hc1 hr0 hr1 hk hz1 hz2
     · exact ad8 s c r k w _hs h0 hm hc0 hc1 hr0 hr1 hk hz1 hz2
     · exact ad7 s c r k w _hs h0 hm hc0 hc1 hr0 hr1 hk hz1 hz2
     · exact ad6 s c r k w _hs h0 hm hc0 hc1 hr0 hr1 hk hz1 hz2
 · have hm':dn (sb s) c r=false:=by simpa using hm
   have ht:aO (sb s) c r ac ar=[]:=by unfold aO;rw[if_neg hm]
   have HT:=aa ht;clear ht hm;go_enter Tryz.func94,Tryz.ntmps94
   go_wp2_with (first
    | (go_at_call 85;((with_reducible refine(oL _ _ _ _ _ _ ?_).mono ?_);(first|omega|skip);rintro e w1 ⟨rfl,h1⟩;have H1:=aa h1;clear h1)))
   go_ret;exact⟨by rw[HT.o];rfl,((ai _ _).alloc (ag _) _).trans (H1.o.mono ((ai _ _).alloc (ag _) _).size)⟩
def Rd.q8(d:Rd):Rd:={ d with ac:=d.mark,k:=d.k+(eD d.mark).length }
def Rd.BK(d:Rd):Rd:={ d with c:=ky (d.rest.takeWhile aG),k:=d.k+(d.rest.takeWhile aG).length }
def Rd.zP(d:Rd):Rd:={ d with ar:=d.mark,k:=d.k+(eD d.mark).length }
def Rd.at4(d:Rd):Rd:=d.q8.BK.zP
theorem YO (u:Nat)(h:u≤999):(aF u).length≤3:=by
 by_cases h1:u<10
 · rw[lg u h1];simp
 · rw[qC u h1,aj]
   by_cases h2:u / 10<10
   · rw[lg _ h2];simp
   · rw[qC _ h2,aj,lg _ (by omega)];simp
theorem X7 {l:List Int}(hall:∀x∈l,isNum x=true)(h:isRow l=true):l.length≤3:=by
 obtain⟨h1,h2,h3⟩:=OG h;obtain⟨h4,h5⟩:=Hq _ _ rfl h1 hall h2;rw[← h5];exact YO _ (by omega)
theorem Va (s:ByteArray)(d1 d:Rd)(h1:∀e,(Rd.start s).kL=some e→e=d1)(hs:d1.s=s)(h:fO s=some d) :
 iK (d1.q8.rest.takeWhile aG)=true∧(∀x∈d1.at4.rest,isNum x=true)∧d1.at4.rest.length≤3∧d.sh=d1.at4.sh∧d.c=d1.at4.c∧d.ac=d1.at4.ac∧d.ar=d1.at4.ar∧d.r=bH d1.at4.rest - 1:=by
 unfold fO at h;simp only[Option.bind_eq_some_iff]at h;obtain⟨d5,⟨d4,⟨d3,⟨d2,⟨e1,g1,g2⟩,g3⟩,g4⟩,g5⟩,g6⟩:=h;have:=h1 e1 g1;subst this;have e2:d2=e1.q8:=by unfold Rd.wT at g2;injection g2 with g2;exact g2.symm
 subst e2;unfold Rd.aI at g3;by_cases hc:iK (e1.q8.rest.takeWhile aG)=true
 · rw [if_pos hc]at g3
   have e3:d3=e1.q8.BK:=by injection g3 with g3;exact g3.symm
   subst e3;have e4:d4=e1.at4:=by unfold Rd.wU at g4;injection g4 with g4;exact g4.symm
   subst e4;unfold Rd.row at g5;by_cases hr:isRow (e1.at4.rest.takeWhile isNum)=true
   · rw [if_pos hr]at g5;injection g5 with g5;subst g5
     unfold Rd.fin at g6;by_cases hk:e1.at4.k+(e1.at4.rest.takeWhile isNum).length=e1.at4.s.size
     · rw[if_pos hk]at g6;injection g6 with g6;subst g6
       have hl:=pQ e1.at4;have hsp:=take_split isNum e1.at4.rest;have hdrop:e1.at4.rest.drop (e1.at4.rest.takeWhile isNum).length=[]:=by rw[List.drop_eq_nil_iff];omega
       rw[hdrop,fu]at hsp;have hall:=rP isNum e1.at4.rest;have hlen:=X7 hall hr;rw[hsp]at hall hlen;refine⟨hc,hall,hlen,rfl,rfl,rfl,rfl, ?_⟩;show bH (e1.at4.rest.takeWhile isNum) - 1=_;rw[hsp]
     · rw[if_neg hk]at g6;cases g6
   · rw[if_neg hr]at g5;cases g5
 · rw[if_neg hc]at g3;cases g3
structure ig (w wr:World)(sh:ByteArray)(c r:Int)(ac ar:Bool):Prop where
 res:bV wr w.heap.size ⟨#[]⟩ 0 0 false false
 ref:bV wr (w.heap.size+1) sh c r ac ar
 below:Below w.heap.size w wr
theorem bV.drewN{w:World}{b:Nat}{s:ByteArray}{c r:Int}{ac ar:Bool}(h:bV w b s c r ac ar)(n:Nat):bV (w.drewN n) b s c r ac ar:=h
theorem bV.frozen{w:World}{b:Nat}{s:ByteArray}{c r:Int}{ac ar:Bool}(h:bV w b s c r ac ar)(j:Nat):w.frozen? ⟨b,j,none⟩=false:=frozen_of_row w b j _ _ h
theorem bV.other {w:World}{b:Nat}{s:ByteArray}{c r:Int}{ac ar:Bool}(h:bV w b s c r ac ar)(a:Addr)(v:Value)(hne:b≠a.block):bV (w.setCell a v) b s c r ac ar:=by
 unfold bV;rw[heap_setCell_other w a b v hne];exact h
theorem ig.drewN{w wr:World}{sh:ByteArray}{c r:Int}{ac ar:Bool}(h:ig w wr sh c r ac ar)(n:Nat):ig w (wr.drewN n) sh c r ac ar:=⟨h.res.drewN n,h.ref.drewN n,⟨h.below.os,h.below.tape,h.below.output,h.below.size,h.below.block⟩⟩
theorem ig.next {w wr w2:World}{sh:ByteArray}{c r:Int}{ac ar:Bool}(h:ig w wr sh c r ac ar)(hb:Below wr.heap.size wr w2):ig w w2 sh c r ac ar :=
 ⟨h.res.below hb h.res.lt,h.ref.below hb h.ref.lt,h.below.trans (hb.mono h.below.size)⟩
theorem ig.set (i:Nat){w wr:World}{sh:ByteArray}{c r:Int}{ac ar:Bool}(h:ig w wr sh c r ac ar)(v:Value)(sh':ByteArray)(c' r':Int)(sH q9:Bool)
 (hv:(#[.string sh,.int .i64 c,.int .i64 r,.bool ac,.bool ar]:Array Value).setIfInBounds i v=#[.string sh',.int .i64 c',.int .i64 r',.bool sH,.bool q9]):ig w (wr.setCell ⟨w.heap.size+1,i,none⟩ v) sh' c' r' sH q9:=by
 refine⟨h.res.other _ _ (by show w.heap.size≠w.heap.size+1;omega), ?_,h.below.setCell (by show w.heap.size≤w.heap.size+1;omega) _⟩;have hr:=h.ref;unfold bV at hr ⊢;rw[heap_setCell_same wr (w.heap.size+1) i _ _ _ hr,hv]
end Go.Proofs.YtdnooocmlhcpkaaGreatDoor
