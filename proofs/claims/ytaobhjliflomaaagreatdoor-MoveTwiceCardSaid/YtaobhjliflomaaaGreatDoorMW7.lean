import Derived.Test.YtaobhjliflomaaaGreatDoorMW6
set_option maxRecDepth 100000
set_option maxHeartbeats 64000000
namespace Go.Proofs.YtaobhjliflomaaaGreatDoor
open Go.RowKit
def EU:Array Value:=(List.replicate 9 (Value.string ⟨#[]⟩)++jW.map Value.string).toArray
theorem aiY(rk:Nat)(h:rk≤5):wrap64 ((rk:Int)+1+1)=(rk:Int)+2:=by unfold wrap64;omega
theorem aiZ(rk:Nat)(h:rk≤5):IntKind.i64.wrap ((rk:Int)+1+1)=(rk:Int)+2:=by rw[fU];omega
theorem agG:∀k:Nat,9≤k→k<20→EU[k]? = some (.string (jW.getD (k - 9) ⟨#[]⟩)):=by
 intro k h9 h20;have hk:k=9∨k=10∨k=11∨k=12∨k=13∨k=14∨k=15∨k=16∨k=17∨k=18∨k=19:=by omega
 rcases hk with rfl|rfl|rfl|rfl|rfl|rfl|rfl|rfl|rfl|rfl|rfl <;> rfl
def qU(w:World):Prop:=∃ty fr,w.heap[(0:Nat)]? = some (.cells EU ty fr)
theorem qU.below {w w':World}(h:qU w)(hb:Below w.heap.size w w'):qU w':=by
 obtain⟨ty,fr,h1⟩:=h;exact⟨ty,fr,by rw[hb.block _ (dn.1 h1).1];exact h1⟩
theorem qU.cell {w:World}(h:qU w)(j:Nat):w.cell? ⟨(0:Nat),j,none⟩=EU[j]? := by
 obtain⟨ty,fr,h1⟩:=h;exact cell_of_row w _ j _ ty fr h1
theorem qU.lt {w:World}(h:qU w):0<w.heap.size:=by
 obtain⟨ty,fr,h1⟩:=h;exact(dn.1 h1).1
theorem YI (w:World)(b:Nat)(nv:Value)(st:List aB)(txt:List Int)(n:Nd)(A:Option Addr)(m c:Nat)(h:dO w b nv st txt)(kd:Nat)(hk:n.kind=(kd:Int))(h9:9≤kd)(h20:kd<20)(k0 k1:Int)(hk0:n.kids[0]? = some k0)(hk1:n.kids[1]? = some k1)(hsi:iM w b (.slice A m c) n.kids)(hsv:qU w)(hgb:0<b)(hls:st.length≤2000000000) :
 Calls Tryz.prog 104 #[.pointer (some ⟨b,0,none⟩),.agg #[.int .i64 n.kind,.int .i64 n.num,.string n.text,.string n.ref.sh,.int .i64 n.ref.c,.int .i64 n.ref.r,.bool n.ref.ac,.bool n.ref.ar,.string n.af.sh,.int .i64 n.af.c,.int .i64 n.af.r,.bool n.af.ac,.bool n.af.ar,.slice A m c]] w (mK w b nv st txt n):=by
 have hB:Below w.heap.size w (w.alloc (.cells #[.int .i64 n.kind,.int .i64 n.num,.string n.text,.string n.ref.sh,.int .i64 n.ref.c,.int .i64 n.ref.r,.bool n.ref.ac,.bool n.ref.ar,.string n.af.sh,.int .i64 n.af.c,.int .i64 n.af.r,.bool n.af.ac,.bool n.af.ar,.slice A m c] 45)):=(ak _ _).alloc (aj _) _;have HN:az (w.alloc (.cells #[.int .i64 n.kind,.int .i64 n.num,.string n.text,.string n.ref.sh,.int .i64 n.ref.c,.int .i64 n.ref.r,.bool n.ref.ac,.bool n.ref.ar,.string n.af.sh,.int .i64 n.af.c,.int .i64 n.af.r,.bool n.af.ac,.bool n.af.ar,.slice A m c] 45)) w.heap.size n (.slice A m c):=az.new w n _;have hbw:b<w.heap.size:=by obtain⟨wv,h1, -⟩:=h;exact h1.lt
 obtain⟨sg,hsg⟩:∃sg,jW.getD (kd - 9) ⟨#[]⟩=sg:=⟨_,rfl⟩;obtain⟨rk,ug⟩:∃rk:Nat,bJ n.kind=rk:=⟨_,rfl⟩;have Rz:rk≤5:=by rw[← ug];unfold bJ;split <;> (try split) <;> (try split) <;> (try split) <;> (try split) <;> omega
 have hs:eH n=([],[aB.op k0 ((rk:Int)+1),aB.plain sg,aB.op k1 ((rk:Int)+2)]):=by
  unfold eH;rw[ag (by omega),ag (by omega),ag (by omega),ag (by omega),ag (by omega),ag (by omega),ag (by omega),ag (by omega),jL,hk0,jL (l:=n.kids) (i:=1),hk1,ug,hk,show((kd:Int) - 9).toNat=kd - 9 by omega,hsg];rfl
 have vD:=MN n.kind;rw[ug,hk]at vD;have Ll:=hsi.below hB (Nat.le_of_lt hbw);obtain⟨A',qf,hsl,hcm, -,hcell⟩:=Ll;injection hsl with e1 e2 e3;have mE:1<n.kids.length:=(dS.1 hk1).1;obtain⟨pb,po,hA,hpb,hcl⟩:=hcell.resolve_left (fun e=>by rw[e]at mE;exact absurd mE (by decide));have hc0:=hcl 0 k0 hk0;have hc1:=hcl 1 k1 hk1;rw[Nat.add_zero]at hc0;have hA2:=e1.trans hA;subst hA2;subst e3;clear e1 hA;have hm0:(0:Int)<(m:Int):=by omega
 have hm1:(1:Int)<(m:Int):=by omega
 have hm2:0<m:=by omega
 have hm3:1<m:=by omega
 have ajF:(0:Int)≤(kd:Int):=by omega
 have ajG:(kd:Int)<20:=by omega
 have ajT:=aiY rk Rz;have ajU:=aiZ rk Rz;have hsc:(w.alloc (.cells #[.int .i64 n.kind,.int .i64 n.num,.string n.text,.string n.ref.sh,.int .i64 n.ref.c,.int .i64 n.ref.r,.bool n.ref.ac,.bool n.ref.ar,.string n.af.sh,.int .i64 n.af.c,.int .i64 n.af.r,.bool n.af.ac,.bool n.af.ar,.slice (some ⟨pb,po,none⟩) m c] 45)).cell? ⟨(0:Nat),kd,none⟩=some (.string sg):=by rw[(hsv.below hB).cell kd,agG kd h9 h20,hsg]
 have K5:=(hsv.below hB).lt;have HS:=ae hs;have HB:=ae hB;have BQ:=ae vD;have p9:=ae (h.below hB);have ni:=ae hk;clear h hs hk hB hsi e2 hcl mE hcell hk0 hk1 hsv hsg ug vD;go_enter Tryz.func104,Tryz.ntmps104;go_upto_region 1 with (fail)
 obtain⟨z,hzz⟩:∃z,w.heap.size=z:=⟨_,rfl⟩;obtain⟨w1,hw1⟩:∃w1,w.alloc (.cells #[.int .i64 n.kind,.int .i64 n.num,.string n.text,.string n.ref.sh,.int .i64 n.ref.c,.int .i64 n.ref.r,.bool n.ref.ac,.bool n.ref.ar,.string n.af.sh,.int .i64 n.af.c,.int .i64 n.af.r,.bool n.af.ac,.bool n.af.ar,.slice (some ⟨pb,po,none⟩) m c] 45)=w1:=⟨_,rfl⟩;rw[hw1]at HN HB p9 hc0 hc1 hsc K5 ⊢;rw[hzz]at HN ⊢;have hzl:=HN.lt;have hzb:z≠b:=by omega
 have cZ:=ae HN;have x0:=HN.cells.1;obtain⟨-, -, -, -, -, -, -, -, -, -, -, -, -,x1⟩:=HN.cells;rw[ni.o]at x0;have Ay:b<w1.heap.size:=eZ hbw HB.o.size;have hpl:pb<w1.heap.size:=by omega
 have hgl:0<w1.heap.size:=K5;have x2:=hc0;have x3:=hc1;have x4:=hsc;clear hzz hw1 HN hc0 hc1 hsc K5;go_upto_region 2 with (go_at_call 66;((with_reducible refine(BQ.o _).mono ?_);rintro e w2 ⟨rfl,rfl⟩))
 have H1:=ae ((ak w1.heap.size w1).drew);have HP:=ae (fun (wr:World)(hr:Below w1.heap.size w1 wr)=>Bl wr b nv st [aB.op k0 ((rk:Int)+1),aB.plain sg,aB.op k1 ((rk:Int)+2)] txt #[.string ⟨#[]⟩,.int .i64 k0,.int .i64 ((rk:Int)+1),.string sg,.int .i64 0,.int .i64 0,.string ⟨#[]⟩,.int .i64 k1,.int .i64 ((rk:Int)+2)] 3 rfl rfl (p9.o.below hr) (by show 3≤1000000;decide) hls);clear BQ
 go_region_held3 (fun w'=>w'.cell? ⟨z,0,none⟩=some (.int .i64 (kd:Int))∧w'.cell? ⟨z,13,none⟩=some (.slice (some ⟨pb,po,none⟩) m c)∧w'.cell? ⟨pb,po,none⟩=some (.int .i64 k0)∧w'.cell? ⟨pb,po+1,none⟩=some (.int .i64 k1)∧w'.cell? ⟨(0:Nat),kd,none⟩=some (.string sg)) (go_keep) (first
  | (go_at_call 39;((with_reducible refine(EI k0 ((rk:Int)+1) _).mono ?_);rintro e w3 ⟨rfl,h3⟩;have H3:=ae (H1.o.trans (h3.mono H1.o.size));have p0:=(H3.o.cell (p:=⟨z,0,none⟩) hzl).trans x0;have p1:=(H3.o.cell (p:=⟨z,13,none⟩) hzl).trans x1;have p2:=(H3.o.cell (p:=⟨pb,po,none⟩) hpl).trans x2;have p3:=(H3.o.cell (p:=⟨pb,po+1,none⟩) hpl).trans x3;have p4:=(H3.o.cell (p:=⟨(0:Nat),kd,none⟩) hgl).trans x4;clear h3))
  | (go_at_call 67;((with_reducible refine(H6 _ _).mono ?_);rintro e w4 ⟨rfl,h3⟩;have H4:=ae (H3.o.trans (h3.mono H3.o.size));have q0:=(H4.o.cell (p:=⟨z,0,none⟩) hzl).trans x0;have q1:=(H4.o.cell (p:=⟨z,13,none⟩) hzl).trans x1;have q2:=(H4.o.cell (p:=⟨pb,po,none⟩) hpl).trans x2;have q3:=(H4.o.cell (p:=⟨pb,po+1,none⟩) hpl).trans x3;have q4:=(H4.o.cell (p:=⟨(0:Nat),kd,none⟩) hgl).trans x4;clear h3))
  | (go_at_call 39;((with_reducible refine(EI k1 ((rk:Int)+2) _).mono ?_);rintro e w5 ⟨rfl,h3⟩;have dZ:=ae (H4.o.trans (h3.mono H4.o.size));have r0:=(dZ.o.cell (p:=⟨z,0,none⟩) hzl).trans x0;have r1:=(dZ.o.cell (p:=⟨z,13,none⟩) hzl).trans x1;have r2:=(dZ.o.cell (p:=⟨pb,po,none⟩) hpl).trans x2;have r3:=(dZ.o.cell (p:=⟨pb,po+1,none⟩) hpl).trans x3;have r4:=(dZ.o.cell (p:=⟨(0:Nat),kd,none⟩) hgl).trans x4;clear h3))
  | (go_at_call 38;((with_reducible refine(HP.o _ dZ.o).mono ?_);rintro e w6 ⟨rfl,h3,h4⟩;have BO:=ae h3;have ek:=ae h4;have jk:=ek.o.block z (eZ hzl dZ.o.size) hzb (.inr fun cur fr=>by
      have h5:=dZ.o.block z hzl;have h6:w1.heap[z]? = some (.cells (bU n (.slice (some ⟨pb,po,none⟩) m c)) 45):=cZ.o;rw[h5,h6];exact⟨fun e=>by(injection e with e;injection e with _ e2;exact absurd e2 (by decide)),fun e=>by(injection e with e;injection e with _ e2;exact absurd e2 (by decide))⟩);have hpk:=ek.o.block pb (eZ hpl dZ.o.size) (Nat.ne_of_lt hpb) (.inl hpb);have Ck:=ek.o.block 0 (eZ hgl dZ.o.size) (Nat.ne_of_lt hgb) (.inl hgb);have t0:=(gM (a:=⟨z,0,none⟩) jk).trans r0;have t1:=(gM (a:=⟨z,13,none⟩) jk).trans r1;have t2:=(gM (a:=⟨pb,po,none⟩) hpk).trans r2;have t3:=(gM (a:=⟨pb,po+1,none⟩) hpk).trans r3;have t4:=(gM (a:=⟨(0:Nat),kd,none⟩) Ck).trans r4;clear h3 h4 jk hpk Ck)))
 all_goals go_wp2_with fail
 all_goals go_end0
 all_goals refine⟨rfl, ?_,(bF.iQ HB.o).trans ((bF.iQ dZ.o).trans ek.o)⟩
 all_goals rw[HS.o,fF]
 all_goals exact BO.o
end Go.Proofs.YtaobhjliflomaaaGreatDoor
namespace Go.Proofs.YtaobhjliflomaaaGreatDoor
open Go.RowKit Go.Shelf
attribute [local go_sem] Oper.semAt_some
def tQ(xs:List Int)(q:Nat):List (Nat × Int):=(List.range (xs.length - q)).map fun j=>(xs.length - 1 - j,xs.getD (xs.length - 1 - j) 0)
theorem PX(xs:List Int):tQ xs xs.length=[]:=by unfold tQ;simp
theorem Kw (xs:List Int)(m:Nat)(p:Int)(hp:xs[m]? = some p):tQ xs m=tQ xs (m+1)++[(m,p)]:=by
 have hl:=(dS.1 hp).1;unfold tQ;rw[show xs.length - m=(xs.length - (m+1))+1 by omega,List.range_succ,gP];show _++[(xs.length - 1 - (xs.length - (m+1)),_)]=_;rw[show xs.length - 1 - (xs.length - (m+1))=m by omega,jL,hp];rfl
theorem Y1(xs:List Int)(q:Nat):(tQ xs q).length=xs.length - q:=by unfold tQ;simp
def Bb(x:Nat × Int):List aB:=if x.1=0 then [aB.op x.2 1]else [aB.op x.2 1,aB.plain ⟨#[44]⟩]
def um(pre:List (Nat × Int)):List aB:=pre.flatMap Bb
theorem GV(pre:List (Nat × Int))(x:Nat × Int):um (pre++[x])=um pre++Bb x:=by unfold um;simp
theorem ace (pre:List (Nat × Int)):(um pre).length≤2*pre.length:=by
 induction pre with
 | nil=>exact aj _
 | cons x pre ih =>
   show(Bb x++um pre).length≤_;have h:(Bb x).length≤2:=by unfold Bb;split <;> simp
   rw[av,aX];omega
def F7:List Int→List aB
 | []=>[]
 | k :: ks=>aB.plain ⟨#[44]⟩ :: aB.op k 1 :: F7 ks
theorem Pq:∀(a:Int)(ks:List Int),oJ (a :: ks)=aB.op a 1 :: F7 ks
 | a,[]=>rfl
 | a,b :: ks=>by show aB.op a 1 :: aB.plain ⟨#[44]⟩ :: oJ (b :: ks)=_;rw[Pq b ks];rfl
theorem acd (xs:List Int)(q:Nat)(h1:1≤q)(h2:q≤xs.length):um (tQ xs q)=(F7 (xs.drop q)).reverse:=by
 induction h:xs.length - q generalizing q with
 | zero =>
   have:q=xs.length:=by omega
   subst this;rw[PX,List.drop_length];rfl
 | succ d ih =>
   obtain⟨p,hp⟩:∃p,xs[q]? = some p:=⟨_,dL (by omega)⟩;have hl:=(dS.1 hp).1;have he:xs[q]=p:=by rw[dL hl]at hp;exact dU hp
   rw[Kw xs q p hp,GV,ih (q+1) (by omega) (by omega) (by omega),List.drop_eq_getElem_cons hl,he];show _++Bb (q,p)=(aB.plain ⟨#[44]⟩ :: aB.op p 1 :: F7 (xs.drop (q+1))).reverse;unfold Bb;rw[ag (show ¬ (q,p).1=0 by show ¬ q=0;omega),List.reverse_cons,List.reverse_cons,bN];rfl
theorem acb:∀xs:List Int,um (tQ xs 0)=(oJ xs).reverse
 | []=>rfl
 | a :: ks=>by
   rw[Kw (a :: ks) 0 a rfl,GV,acd (a :: ks) 1 (by omega) (by simp),Pq];show _++[aB.op a 1]=_;rw[List.reverse_cons];rfl
theorem Yw (F:Fence)(n:Nat)(h7:F.fn 150)(hro:F.round=none)(hn:1≤n)(l Bs b po cap:Nat)(A:Option Addr)(xs:List Int)(hlen:xs.length≤1000000000)(J Jx:List (Nat × Int)→World→Prop)
 (hY:∀pre x W,J pre W→pre.length<xs.length→YieldAt F (n - 1) Tryz.prog l #[.int .i64 (x.1:Int),.int .i64 x.2] W fun e W' =>
   (e = .returned (.bool true)∧J (pre++[x]) W'∧jv Bs b W W')∨(e = .returned (.bool false)∧Jx (pre++[x]) W'))
 (W:World) (qY:W.cell? ⟨Bs,0,none⟩=some (.slice A xs.length cap)) (hc:∀m p,xs[m]? = some p→A=some ⟨b,po,none⟩∧W.cell? ⟨b,po+m,none⟩=some (.int .i64 p)) (h0:J [] W) :
 CallsIn F n Tryz.prog 150 #[.func (.yield l) #[] #[],.pointer (some ⟨Bs,0,none⟩)] W fun e W'=>(∃v,e = .returned v) ∧
  ((∃ys,ys=tQ xs 0∧J ys W')∨(∃pre,True∧Jx pre W')):=by
 obtain⟨L,hL⟩:∃L,xs.length=L:=⟨_,rfl⟩;have HL:=ae hL;rw[hL]at hlen qY;refine callsIn_of_wp Tryz.func150 rfl h7 ?_ hro;simp only[Tryz.ntmps150,List.size_toArray,aX,dV,Nat.reduceAdd,Nat.reduceSub,Array.replicate_succ,Array.replicate_zero,List.push_toArray,List.append_toArray,iy,dx];gi_wp2
 gi_loopw [3] (fun i wr=>∃q:Nat,q≤L∧i = .int .i64 ((q:Int) - 1)∧J (tQ xs q) wr∧jv Bs b W wr)
  (fun i _=>(intOf i+1).toNat)
 case atStart=>exact⟨L,aj _,rfl,by rw[← hL,PX];exact h0,jv.refl _ _ _⟩
 case round =>
  obtain⟨q,hq,rfl,hJs,hnx⟩:=hrel;have QK:=(hnx.Kz 0).trans qY;cases q with
  | zero =>
    gi_wp2
    go_end0;exact⟨⟨_,rfl⟩,.inl ⟨_,rfl,hJs⟩⟩
  | succ m =>
    obtain⟨p,hp⟩:∃p,xs[m]? = some p:=⟨_,dL (by omega)⟩;obtain⟨hA,c0⟩:=hc m p hp;have d0:=(hnx.wG (po+m)).trans c0;have hst:=Kw xs m p hp;obtain⟨fn,tmps,assign,body,hy,hR⟩:=hY _ (m,p) wr hJs (by rw[Y1];omega);rw[← hst]at hR;dsimp only at hy;have hm1:((m+1:Nat):Int) - 1=(m:Int):=by omega
    rw[hm1];have Ri:(m:Int)<(L:Int):=by omega
    have hm0:(0:Int)≤(m:Int):=by omega
    clear hm1 c0 hc hJs hst;subst hA;gi_wp2
    refine hR.mono ?_;rintro e W3 (⟨rfl,hJ3,hk3⟩|⟨rfl,Ed⟩)
    · gi_wp2
      go_roundw
      case rel=>exact⟨m,by omega,by simp,hJ3,hnx.trans hk3⟩
      case measure=>simp[intOf]
    · gi_wp2
      refine bodyPost_ret (results_none rfl _ _ _) rfl ?_;exact⟨⟨_,rfl⟩,.inr ⟨_,trivial,Ed⟩⟩
theorem YB (F:Fence)(n:Nat)(h5:F.fn 132)(hro:F.round=none)(a:Option Addr)(len cap:Nat)(w:World) :
 CallsIn F n Tryz.prog 132 #[.slice a len cap] w fun e w'=>e = .returned (.func (.func 150) #[] #[.pointer (some ⟨w.heap.size,0,none⟩)])∧w.alloc (.cells #[.slice a len cap] 28)=w':=by
 refine callsIn_of_wp Tryz.func132 rfl h5 ?_ hro;simp only[Tryz.ntmps132,List.size_toArray,aX,dV,Nat.reduceAdd,Nat.reduceSub,Array.replicate_succ,Array.replicate_zero,List.push_toArray,List.append_toArray,iy,dx];gi_wp2
 go_ret;exact⟨rfl,rfl⟩
theorem Yx (F:Fence)(n:Nat)(h7:F.fn 150)(hro:F.round=none)(hn:1≤n)(Bs b po cap:Nat)(A:Option Addr)(xs:List Int)(hlen:xs.length≤1000000000)(w:World)(hB:Bs<w.heap.size)(hb:b<w.heap.size)
 (qY:w.cell? ⟨Bs,0,none⟩=some (.slice A xs.length cap)) (hc:∀m p,xs[m]? = some p→A=some ⟨b,po,none⟩∧w.cell? ⟨b,po+m,none⟩=some (.int .i64 p)) :
 SeqStopsK F n Tryz.prog 150 #[.pointer (some ⟨Bs,0,none⟩)] (fun x:Nat × Int=>#[Value.int .i64 (x.1:Int),.int .i64 x.2]) (jv Bs b) (fun ys=>ys=tQ xs 0) (fun _=>True) xs.length w:=fun l J Jx W hW _ _ hY h0 =>
 Yw F n h7 hro hn l Bs b po cap A xs hlen J Jx hY W ((hW.cell hB).trans qY) (fun m p hp=>⟨(hc m p hp).1,(hW.cell (p:=⟨b,po+m,none⟩) hb).trans (hc m p hp).2⟩) h0
end Go.Proofs.YtaobhjliflomaaaGreatDoor
namespace Go.Proofs.YtaobhjliflomaaaGreatDoor
open Go.RowKit Go.Shelf
attribute [local go_sem] Oper.semAt_some
variable {b:Nat}
theorem dO.stay {A B:World}{nv:Value}{st:List aB}{txt:List Int}(h:dO A b nv st txt){row:Option Nat}(hg:A.grownBy B row)(hr:∀r,row=some r→∃o:Obj,A.heap[r]? = some o∧o.isCells=false):dO B b nv st txt:=by
 obtain⟨wv,h1,h2⟩:=h;exact⟨wv,lN.stay h1 hg hr,Hz h2 hg hr⟩
theorem bF.keeps {W W':World}{B:Nat}(h:bF W W' b)(hB:b<B):KeepsFrom B W W':=⟨h.size,fun k o hk ho hc=>by
 rw[h.block k (dn.1 ho).1 (by omega) (.inr fun cur fr=>⟨fun e=>by(rw[ho]at e;cases e;cases hc),fun e=>by(rw[ho]at e;cases e;cases hc)⟩)];exact ho⟩
theorem bF.boxed {W W':World}{k:Nat}{t:TypeId}{v:Value}(h:bF W W' b)(hb:Boxed W k t v)(hk:k≠b)(h1:t≠5)(h2:t≠87):W'.heap[k]? = W.heap[k]? := by
 have hb':W.heap[k]? = some (.cells #[v] t):=hb;exact h.block k (dn.1 hb').1 hk (.inr fun cur fr=>⟨fun e=>by rw[hb']at e;injection e with e;injection e with _ e;exact h1 e,fun e=>by rw[hb']at e;injection e with e;injection e with _ e;exact h2 e⟩)
def Ob (w:World)(b:Nat)(nv:Value)(st:List aB)(txt:List Int)(z zs:Nat)(sv:Value)(pre:List (Nat × Int))(W:World):Prop :=
 dO W b nv (st++um pre) txt∧Boxed W z 78 (.pointer (some ⟨b,0,none⟩))∧Boxed W zs 28 sv∧bF w W b
theorem YN {w:World}{nv:Value}{st:List aB}{txt:List Int}{z zs:Nat}{sv:Value}{B:Nat}(hB:w.heap.size≤B):OwnFrom B (Ob w b nv st txt z zs sv):=by
 rintro pre X Y row ⟨h1,h2,h3,h4⟩ hg hr;have hr2:∀r,row=some r→∃o:Obj,X.heap[r]? = some o∧o.isCells=false:=fun r e=>(hr r e).2
 exact⟨h1.stay hg hr2,yY hg hr2 h2,yY hg hr2 h3,h4.stay hg (fun r e=>bO hB (hr r e).1)⟩
theorem YU (w:World)(b:Nat)(nv:Value)(st:List aB)(txt:List Int)(n:Nd)(A:Option Addr)(m c:Nat)(h:dO w b nv st txt)(hk:n.kind=7)(hz:n.text.size≤1000000)(hsi:iM w b (.slice A m c) n.kids)(hl:txt.length≤1000000000)(hls:st.length+2*n.kids.length+1≤2000000000) :
 Calls Tryz.prog 102 #[.pointer (some ⟨b,0,none⟩),.agg #[.int .i64 n.kind,.int .i64 n.num,.string n.text,.string n.ref.sh,.int .i64 n.ref.c,.int .i64 n.ref.r,.bool n.ref.ac,.bool n.ref.ar,.string n.af.sh,.int .i64 n.af.c,.int .i64 n.af.r,.bool n.af.ac,.bool n.af.ar,.slice A m c]] w (mK w b nv st txt n):=by
 have hs:eH n=(sb n.text++[40],oJ n.kids++[aB.plain ⟨#[41]⟩]):=by
  unfold eH;rw[ag (by omega),ag (by omega),ag (by omega),ag (by omega),ag (by omega),ag (by omega),ah hk]
 have hbw:b<w.heap.size:=by obtain⟨wv,h1, -⟩:=h;exact h1.lt
 have f1:¬ 9223372036854775807<n.text.size+(⟨#[40]⟩:ByteArray).size:=by show ¬ _<_+1;omega
 have f2:¬ 9223372036854775807<n.text.size+1:=by omega
 have f3:(n.text++(⟨#[40]⟩:ByteArray)).size=n.text.size+1:=by rw[ByteArray.size_append];rfl
 have HT:=ae (show sb (n.text++(⟨#[40]⟩:ByteArray))=sb n.text++[40]by rw[agn];rfl);have hB:Below w.heap.size w ((w.alloc (.cells #[(.pointer (some ⟨b,0,none⟩))] 78)).alloc (.cells #[.int .i64 n.kind,.int .i64 n.num,.string n.text,.string n.ref.sh,.int .i64 n.ref.c,.int .i64 n.ref.r,.bool n.ref.ac,.bool n.ref.ar,.string n.af.sh,.int .i64 n.af.c,.int .i64 n.af.r,.bool n.af.ac,.bool n.af.ar,.slice A m c] 45)):=((ak _ w).alloc (aj _) _).alloc (by simp) _;have yV:Boxed ((w.alloc (.cells #[(.pointer (some ⟨b,0,none⟩))] 78)).alloc (.cells #[.int .i64 n.kind,.int .i64 n.num,.string n.text,.string n.ref.sh,.int .i64 n.ref.c,.int .i64 n.ref.r,.bool n.ref.ac,.bool n.ref.ar,.string n.af.sh,.int .i64 n.af.c,.int .i64 n.af.r,.bool n.af.ac,.bool n.af.ar,.slice A m c] 45)) w.heap.size 78 (.pointer (some ⟨b,0,none⟩)):=(Boxed.new w 78 (.pointer (some ⟨b,0,none⟩))).alloc _
 have HN:az ((w.alloc (.cells #[(.pointer (some ⟨b,0,none⟩))] 78)).alloc (.cells #[.int .i64 n.kind,.int .i64 n.num,.string n.text,.string n.ref.sh,.int .i64 n.ref.c,.int .i64 n.ref.r,.bool n.ref.ac,.bool n.ref.ar,.string n.af.sh,.int .i64 n.af.c,.int .i64 n.af.r,.bool n.af.ac,.bool n.af.ar,.slice A m c] 45)) (w.heap.size+1) n (.slice A m c):=by
  have h:=az.new (w.alloc (.cells #[(.pointer (some ⟨b,0,none⟩))] 78)) n (.slice A m c);rwa[jE]at h
 have HS:=ae hs;have HB:=ae hB;have HQ:=ae (h.below hB);have yM:=ae (hsi.below hB (Nat.le_of_lt hbw));have hsz:((w.alloc (.cells #[(.pointer (some ⟨b,0,none⟩))] 78)).alloc (.cells #[.int .i64 n.kind,.int .i64 n.num,.string n.text,.string n.ref.sh,.int .i64 n.ref.c,.int .i64 n.ref.r,.bool n.ref.ac,.bool n.ref.ar,.string n.af.sh,.int .i64 n.af.c,.int .i64 n.af.r,.bool n.af.ac,.bool n.af.ar,.slice A m c] 45)).heap.size=w.heap.size+2:=by simp
 clear h hs hk hsi hB;refine(callsIn_wide (n:=6)).1 ?_;refine callsIn_of_wp_marks Tryz.func102 rfl trivial ?_ rfl;simp only[Tryz.ntmps102,List.size_toArray,aX,dV,Nat.reduceAdd,Nat.reduceSub,Array.replicate_succ,Array.replicate_zero,List.push_toArray,List.append_toArray,iy,dx];gi_wp2
 obtain⟨w1,hw1⟩:∃w1,((w.alloc (.cells #[(.pointer (some ⟨b,0,none⟩))] 78)).alloc (.cells #[.int .i64 n.kind,.int .i64 n.num,.string n.text,.string n.ref.sh,.int .i64 n.ref.c,.int .i64 n.ref.r,.bool n.ref.ac,.bool n.ref.ar,.string n.af.sh,.int .i64 n.af.c,.int .i64 n.af.r,.bool n.af.ac,.bool n.af.ar,.slice A m c] 45))=w1:=⟨_,rfl⟩;rw[hw1]at HN HB HQ yM yV hsz ⊢;obtain⟨z,hzz⟩:∃z,w.heap.size=z:=⟨_,rfl⟩;rw[hzz]at HN yV hsz ⊢;have hzl:z<w1.heap.size:=by omega
 have abD:z+1<w1.heap.size:=HN.lt;have hzb:z≠b:=by omega
 have RV:z+1≠b:=by omega
 have cZ:=ae HN;have qJ:=ae yV;have x0:=yV.cell;obtain⟨-, -,x2, -, -, -, -, -, -, -, -, -, -,aJ⟩:=HN.cells;have HW:=ae (fun wr (hr:Below w1.heap.size w1 wr) wv (h1:lN w1 b nv wv txt)=>sU wr b nv wv txt (n.text++(⟨#[40]⟩:ByteArray)) (h1.below hr) (by rw[f3];omega));have H1:=ae ((ak w1.heap.size w1).drew);clear hw1 HN yV f3;obtain⟨wv,hws,iG⟩:=HQ.o;have uQ:=ae hws;have HO:=ae iG;clear hws iG;refine wpIn_wide.2 ?_
 go_region_held3 (fun w'=>w'.cell? ⟨z,0,none⟩=some (.pointer (some ⟨b,0,none⟩))∧w'.cell? ⟨z+1,2,none⟩=some (.string n.text)) (go_keep) (first
  | (go_at_call 65;((with_reducible refine(HW.o _ H1.o wv uQ.o).mono ?_);rintro e w2 ⟨⟨x,rfl⟩,h3,h4⟩;have Ka:=ae h3;have bT:=ae h4;have jk:=bT.o.block z hzl hzb (.inr fun cur fr e=>by
      have h6:w1.heap[z]? = some (.cells #[.pointer (some ⟨b,0,none⟩)] 78):=qJ.o;have h7:w1.drew.heap[z]? = w1.heap[z]? := rfl;rw[h7,h6]at e;injection e with e;injection e with _ e2;exact absurd e2 (by decide));have GK:=bT.o.block (z+1) abD RV (.inr fun cur fr e=>by
      have h6:w1.heap[z+1]? = some (.cells (bU n (.slice A m c)) 45):=cZ.o;have h7:w1.drew.heap[z+1]? = w1.heap[z+1]? := rfl;rw[h7,h6]at e;injection e with e;injection e with _ e2;exact absurd e2 (by decide));have p0:=(gM (a:=⟨z,0,none⟩) jk).trans x0;have p2:=(gM (a:=⟨z+1,2,none⟩) GK).trans x2;have p13:=(gM (a:=⟨z+1,13,none⟩) GK).trans aJ;clear h3 h4)))
 gi_wp2
 have Ei:w1.heap.size≤w2.heap.size:=bT.o.size;have J9:=ae (show dO w2 b nv st (txt++sb (n.text++(⟨#[40]⟩:ByteArray)))from dO.wrote (HO.o.below H1.o (aj _)) Ka.o bT.o);have qM:=ae (fun (w3:World)(h3:Below w2.heap.size w2 w3)=>Bl w3 b nv st [aB.plain ⟨#[41]⟩] (txt++sb (n.text++(⟨#[40]⟩:ByteArray))) #[.string ⟨#[41]⟩,.int .i64 0,.int .i64 0] 1 rfl rfl (J9.o.below h3) (by show 1≤1000000;decide) (by omega));have HZ2:=ae jk;have X0:=ae GK;have H2:=ae ((ak w2.heap.size w2).drew);have A7:z<w2.heap.size:=by omega
 have abE:z+1<w2.heap.size:=by omega
 clear x0 x2 aJ jk GK p2;refine wpIn_wide.2 ?_
 go_region_held3 (fun w'=>w'.cell? ⟨z,0,none⟩=some (.pointer (some ⟨b,0,none⟩))) (go_keep) (first
  | (go_at_call 67;((with_reducible refine(H6 _ _).mono ?_);rintro e w3 ⟨rfl,h3⟩;have H3:=ae (H2.o.trans (h3.mono H2.o.size));have q0:=(H3.o.cell (p:=⟨z,0,none⟩) A7).trans p0;clear h3))
  | (go_at_call 38;((with_reducible refine(qM.o _ H3.o).mono ?_);rintro e w5 ⟨rfl,h3,h4⟩;have xu:=ae h3;have bg:=ae h4;have jk:=bF.boxed bg.o (k:=z) (v := .pointer (some ⟨b,0,none⟩)) (t:=78) ((H3.o.block z A7).trans (HZ2.o.trans qJ.o)) hzb (by decide) (by decide);have r0:=(gM (a:=⟨z,0,none⟩) jk).trans q0;clear h3 h4)))
 have Cm:w2.heap.size≤w3.heap.size:=H3.o.size
 have N5:az w5 (z+1) n (.slice A m c):=by
  unfold az;have e1:w3.heap[z+1]? = some (.cells (bU n (.slice A m c)) 45):=(H3.o.block (z+1) abE).trans (X0.o.trans cZ.o);rw[bg.o.block (z+1) (by omega) RV (.inr fun cur fr=>⟨fun e=>by(rw[e1]at e;injection e with e;injection e with _ e2;exact absurd e2 (by decide)),fun e=>by(rw[e1]at e;injection e with e;injection e with _ e2;exact absurd e2 (by decide))⟩)];exact e1
 obtain⟨-, -, -, -, -, -, -, -, -, -, -, -, -,aJ⟩:=N5.cells;have Oo:=ae (((bF.iQ H1.o).trans (bF.uu bT.o)).trans ((bF.iQ H3.o).trans bg.o));have eD:Boxed w5 z 78 (.pointer (some ⟨b,0,none⟩)):=jk.trans ((H3.o.block z A7).trans (HZ2.o.trans qJ.o));have ze:w3.heap.size≤w5.heap.size:=bg.o.size;have Ay:b<w1.heap.size:=by omega
 have Yd:=yM.o.pE Oo.o (aj _) Ay;clear N5 jk q0 r0 p0
 gi_wp2_with (refine⟨trivial, ?_⟩;gi_at_call 132;refine(YB Fence.wide _ trivial rfl _ _ _ _).mono ?_;rintro e w' ⟨rfl,rfl⟩)
 have uY:=Boxed.new w5 28 (.slice A m c);have il:Below w5.heap.size w5 (w5.alloc (.cells #[.slice A m c] 28)):=(ak _ _).alloc (aj _) _;have Py:=eD.alloc (.cells #[.slice A m c] 28);have RH:(w5.alloc (.cells #[.slice A m c] 28)).heap.size=w5.heap.size+1:=by simp
 obtain⟨zs,hzs⟩:∃zs,w5.heap.size=zs:=⟨_,rfl⟩;obtain⟨w6,nH⟩:∃w6,w5.alloc (.cells #[.slice A m c] 28)=w6:=⟨_,rfl⟩;rw[nH]at uY il Py RH ⊢;rw[hzs]at uY RH ⊢;have GL:zs≠b:=by omega
 have ajZ:z≠zs:=by omega
 obtain⟨A',qf,hsl,hcm, -,hcell⟩:=Yd;injection hsl with e1 e2 e3;subst e1 e2 e3
 obtain ⟨pb,po,hpb,Lf,hcl⟩:∃pb po,pb<w6.heap.size∧(pb<b∨pb=zs)∧∀j y,n.kids[j]? = some y→A=some ⟨pb,po,none⟩∧w6.cell? ⟨pb,po+j,none⟩=some (.int .i64 y):=by
  rcases hcell with he|⟨pb,po,hA,hp,hc⟩
  · exact⟨zs,0,by omega,.inr rfl,fun j y hj=>by rw[he]at hj;cases hj⟩
  · exact⟨pb,po,by omega,.inl hp,fun j y hj=>⟨hA,(il.cell (p:=⟨pb,po+j,none⟩) (by show pb<_;omega)).trans (hc j y hj)⟩⟩
 have BO:dO w6 b nv (st++[aB.plain ⟨#[41]⟩]) (txt++sb (n.text++(⟨#[40]⟩:ByteArray))):=xu.o.below il;have Om:=ae ((bF.iQ HB.o).trans (Oo.o.trans (bF.iQ il)));have ajY:z+2≤zs:=by omega
 clear hcell nH hzs aJ eD
 refine wpIn_rangeFunc_ownH (F:=Fence.wide) (n:=6) rfl (by omega) (gf:=150) (lb:=#[.pointer (some ⟨zs,0,none⟩)]) rfl trivial (enters_of Tryz.func150 (by kernel_rfl) rfl)
  (Yx Fence.wide 5 trivial rfl (by omega) zs pb po c A n.kids (by omega) w6 uY.lt hpb uY.cell hcl)
  jv.trans (NN uY.lt hpb) (ak _ _) (fun _=>rfl)
  (Ob w6 b nv (st++[aB.plain ⟨#[41]⟩]) (txt++sb (n.text++(⟨#[40]⟩:ByteArray))) z zs (.slice A n.kids.length c)) (fun _ _ _=>False)
  (YN (aj _)) (fun _ _ _ _ _ hs _ _=>hs) ⟨by rw[show um []=[]from rfl,fF];exact BO,Py,uY,bF.refl _ _⟩
  (fun y a' W=>a'={ tmps:=#[.pointer (some ⟨b,0,none⟩),.agg #[.int .i64 n.kind,.int .i64 n.num,.string n.text,.string n.ref.sh,.int .i64 n.ref.c,.int .i64 n.ref.r,.bool n.ref.ac,.bool n.ref.ar,.string n.af.sh,.int .i64 n.af.c,.int .i64 n.af.r,.bool n.af.ac,.bool n.af.ar,.slice A n.kids.length c],.pointer (some ⟨z,0,none⟩),.pointer (some ⟨z+1,0,none⟩),.int .i64 (y.1:Int),.int .i64 y.2,.pointer (some ⟨b,0,none⟩),.pointer (some ⟨b,0,none⟩),.pointer (some ⟨b,2,none⟩),.pointer (some ⟨z+1,2,none⟩),.string n.text,.string (n.text++⟨#[40]⟩),.tuple #[x,.nilIface],.pointer (some ⟨b,0,none⟩),.agg #[.string ⟨#[41]⟩,.int .i64 0,.int .i64 0],.slice (some ⟨w3.heap.size,0,none⟩) 1 1,.tuple #[],.pointer (some ⟨z+1,13,none⟩),.slice A n.kids.length c,.func (.func 150) #[] #[.pointer (some ⟨zs,0,none⟩)],.int .i64 (y.1:Int),.int .i64 y.2,undef,undef,undef,undef,undef,undef,undef,undef,undef,undef,undef],defers:=[] })
  (fun _ _ _ _ _ _ h _ _=>h) ?assign ?body ?done ?stop
 case assign =>
  rintro l pre ⟨j,k⟩ W K hI hK;dsimp only;gi_wp2
  exact hK _ _ (KeepsFrom.refl _ _) (jv.refl _ _ _) hI rfl
 case body =>
  rintro l pre ⟨j,k⟩ a' W - - ⟨hQ,hbz,hbs,hF⟩ rfl hlen;have hkl:=ace pre;have Ku:=hbz.cell;have X3:=ae hbz;have RS:z<W.heap.size:=hbz.lt;have Xk:=ae (fun (wr:World)(hr:Below W.heap.size W wr)=>Bl wr b nv (st++[aB.plain ⟨#[41]⟩]++um pre) [aB.op k 1] (txt++sb (n.text++(⟨#[40]⟩:ByteArray))) #[.string ⟨#[]⟩,.int .i64 k,.int .i64 1] 1 rfl rfl (hQ.below hr) (by show 1≤1000000;decide) (by rw[av,av];show st.length+1+_≤_;omega));have dE:(fun w'=>w'.cell? ⟨z,0,none⟩=some (.pointer (some ⟨b,0,none⟩))) W.drew:=Ku;dsimp only;gi_wp2
  refine MR (by kernel_rfl) (by kernel_rfl) (wpAny_of_held (S:=(fun w'=>w'.cell? ⟨z,0,none⟩=some (.pointer (some ⟨b,0,none⟩)))) _ _ _ _ ?_);show wpAnyH _ _ _ _ _ 5 #[false,false,false,false,false] _ _;refine hT 0 dE ?_ (hQ:=(fun _ _ _ h=>(by cases h.1))) (hy:=by(intro iE hSw;have e1:iE.cell? ⟨z,0,none⟩=some (.pointer (some ⟨b,0,none⟩)):=hSw;go_simp;try(with_reducible rfl)));refine hT 1 dE ?_ (hQ:=(fun _ _ _ h=>(by cases h.1)));refine hO 2 (fun K hK => ?_);go_simp;refine(EI _ _ _).mono ?_;rintro e NU ⟨rfl,h3⟩;have Fs:=ae ((ak W.heap.size W).drew.trans (h3.mono (aj _)));have OY:(fun w'=>w'.cell? ⟨z,0,none⟩=some (.pointer (some ⟨b,0,none⟩))) NU:=(Fs.o.cell (p:=⟨z,0,none⟩) RS).trans Ku;clear h3;go_wp2_with fail
  refine hK.o _ _ OY ?_;clear hK K;simp only[Act.put,sT,gD,gB];refine hO 3 (fun K hK => ?_);go_simp;refine hK.o _ _ ((((ak NU.heap.size NU).alloc (aj _) _).cell (p:=⟨z,0,none⟩) (eZ RS Fs.o.size)).trans OY) ?_;clear hK K;simp only[Act.put,sT,gD,gB];refine hO 4 (fun K hK => ?_);go_simp;refine(Xk.o _ Fs.o).mono ?_;rintro e zP ⟨rfl,h3,h4⟩;have OT:=ae h3;have BL:=ae ((bF.iQ Fs.o).trans h4);have FO:=ae (bF.boxed BL.o X3.o hzb (by decide) (by decide));have JU:(fun w'=>w'.cell? ⟨z,0,none⟩=some (.pointer (some ⟨b,0,none⟩))) zP:=(gM (a:=⟨z,0,none⟩) FO.o).trans Ku;clear h3 h4;go_wp2_with fail
  refine hK.o _ _ JU ?_;clear hK K;simp only[Act.put,sT,gD,gB];refine wpAnyH_done (by kernel_rfl) ?_ _;refine⟨rfl, ?_⟩;have ajH:w6.heap.size≤W.heap.size:=hF.size
  have Pm:∀ {W1 W2:World},bF W1 W2 b→Boxed W1 zs 28 (.slice A n.kids.length c)→pb<W1.heap.size→jv zs pb W1 W2:=fun h1 h2 h3=>⟨h1.boxed h2 GL (by decide) (by decide),by
   rcases Lf with h|rfl
   · exact h1.block pb h3 (by omega) (.inl h)
   · exact h1.boxed h2 GL (by decide) (by decide)⟩
  cases j with
  | zero =>
    gi_wp2
    refine⟨BL.o.keeps (by omega),Pm BL.o hbs (by omega), ?_,FO.o.trans hbz,(BL.o.boxed hbs GL (by decide) (by decide)).trans hbs,hF.trans BL.o⟩;rw[GV, ← bN];exact OT.o
  | succ j =>
    have hj0:(0:Int)<((j+1:Nat):Int):=by omega
    have PV:=JU;have Pd:=ae (show Boxed zP z 78 (.pointer (some ⟨b,0,none⟩))from FO.o.trans hbz);have RU:z<zP.heap.size:=Pd.o.lt;have Xl:=ae (fun (wr:World)(hr:Below zP.heap.size zP wr)=>Bl wr b nv (st++[aB.plain ⟨#[41]⟩]++um pre++[aB.op k 1].reverse) [aB.plain ⟨#[44]⟩] (txt++sb (n.text++(⟨#[40]⟩:ByteArray))) #[.string ⟨#[44]⟩,.int .i64 0,.int .i64 0] 1 rfl rfl (OT.o.below hr) (by show 1≤1000000;decide) (by rw[av,av,av];show st.length+1+_+1≤_;omega));have dE:(fun w'=>w'.cell? ⟨z,0,none⟩=some (.pointer (some ⟨b,0,none⟩))) zP.drew:=JU;gi_wp2
    refine MR (by kernel_rfl) (by kernel_rfl) (wpAny_of_held (S:=(fun w'=>w'.cell? ⟨z,0,none⟩=some (.pointer (some ⟨b,0,none⟩)))) _ _ _ _ ?_);show wpAnyH _ _ _ _ _ 4 #[false,false,false,false] _ _;refine hT 0 dE ?_ (hQ:=(fun _ _ _ h=>(by cases h.1))) (hy:=by(intro iE hSw;have e1:iE.cell? ⟨z,0,none⟩=some (.pointer (some ⟨b,0,none⟩)):=hSw;go_simp;try(with_reducible rfl)));refine hO 1 (fun K hK => ?_);go_simp;refine(H6 _ _).mono ?_;rintro e NV ⟨rfl,h3⟩;have Fu:=ae ((ak zP.heap.size zP).drew.trans (h3.mono (aj _)));have OZ:(fun w'=>w'.cell? ⟨z,0,none⟩=some (.pointer (some ⟨b,0,none⟩))) NV:=(Fu.o.cell (p:=⟨z,0,none⟩) RU).trans PV;clear h3;go_wp2_with fail
    refine hK.o _ _ OZ ?_;clear hK K;simp only[Act.put,sT,gD,gB];refine hO 2 (fun K hK => ?_);go_simp;refine hK.o _ _ ((((ak NV.heap.size NV).alloc (aj _) _).cell (p:=⟨z,0,none⟩) (eZ RU Fu.o.size)).trans OZ) ?_;clear hK K;simp only[Act.put,sT,gD,gB];refine hO 3 (fun K hK => ?_);go_simp;refine(Xl.o _ Fu.o).mono ?_;rintro e wBb ⟨rfl,h3,h4⟩;have Xp:=ae h3;have Oq:=ae ((bF.iQ Fu.o).trans h4);have O7:=ae (bF.boxed Oq.o Pd.o hzb (by decide) (by decide));have Xz:(fun w'=>w'.cell? ⟨z,0,none⟩=some (.pointer (some ⟨b,0,none⟩))) wBb:=(gM (a:=⟨z,0,none⟩) O7.o).trans PV;clear h3 h4;go_wp2_with fail
    refine hK.o _ _ Xz ?_;clear hK K;simp only[Act.put,sT,gD,gB];refine wpAnyH_done (by kernel_rfl) ?_ _;refine⟨rfl, ?_⟩;gi_wp2
    have Fy:=ae (BL.o.trans Oq.o);refine⟨Fy.o.keeps (by omega),Pm Fy.o hbs (by omega), ?_,O7.o.trans (FO.o.trans hbz),(Fy.o.boxed hbs GL (by decide) (by decide)).trans hbs,hF.trans Fy.o⟩;rw[GV];have h:=Xp.o;rw[bN (st++[aB.plain ⟨#[41]⟩]++um pre),bN (st++[aB.plain ⟨#[41]⟩])]at h;exact h
 case done =>
  rintro D ys W hD rfl ⟨hQ,hbz,hbs,hF⟩ hK;gi_wp2
  have hg:=grownBy_putObj' W D (.deferred none);have hr:∀r,some D=some r→∃o:Obj,W.heap[r]? = some o∧o.isCells=false:=fun r e=>by cases e;exact⟨_,hK,rfl⟩
  refine⟨by simp,.inl ⟨_,_,rfl,run_takeDeferred hK, ?_⟩⟩;refine⟨_,results_none rfl _ _ _,rfl, ?_,(Om.o.trans hF).stay hg (fun r e=>by cases e;have:=Om.o.size;omega)⟩;rw[HS.o];rw[acb,HT.o]at hQ;rw[show(oJ n.kids++[aB.plain ⟨#[41]⟩]).reverse=[aB.plain ⟨#[41]⟩]++(oJ n.kids).reverse from by rw[List.reverse_append];rfl, ← bN];exact hQ.stay hg hr
 case stop =>
  rintro D c pre W _ _ h _;exact h.elim
end Go.Proofs.YtaobhjliflomaaaGreatDoor
namespace Go.Proofs.YtaobhjliflomaaaGreatDoor
open Go.RowKit
variable {ac ar:Bool}{s sh:ByteArray}{c r:Int}{b:Nat}{n:Nd}{w w0:World}
def nO(w0 w:World)(b:Nat):Prop:=w0.heap.size≤b∧Below w0.heap.size w0 w∧lM w0∧qQ w0∧qU w0
theorem nO.pE {w':World}(h:nO w0 w b)(hf:bF w w' b):nO w0 w' b:=by
 obtain⟨h1,h2,h3⟩:=h;exact⟨h1,⟨hf.os.trans h2.os,hf.tape.trans h2.tape,hf.output.trans h2.output,bO h2.size hf.size,fun k hk=>(hf.block k (eZ hk h2.size) (by omega) (.inl (by omega))).trans (h2.block k hk)⟩,h3⟩
theorem nO.tab(h:nO w0 w b):lM w:=h.2.2.1.below h.2.1
theorem nO.adq(h:nO w0 w b):qQ w:=h.2.2.2.1.below h.2.1
theorem nO.shV(h:nO w0 w b):qU w:=h.2.2.2.2.below h.2.1
theorem nO.max_lt (h:nO w0 w b):4<b:=by
 obtain⟨h1, -, -,⟨m,hm⟩, -⟩:=h;exact eZ (World.block_lt_of_cell? w0 _ hm) h1
theorem nO.agQ(h:nO w0 w b):0<b:=eZ h.2.2.2.2.lt h.1
theorem acH (h:dm n=true)(hk:n.kind=1):0≤n.num:=by
 have h:=(qX h).2.2.2.2.2;unfold aH at h;split at h
 · cases h
 · exact aK.1 h
theorem TL (w0 w:World)(b:Nat)(nv:Value)(st:List aB)(txt:List Int)(n:Nd)(A:Option Addr)(m c:Nat)(hg:nO w0 w b)(h:dO w b nv st txt)(hn:dm n=true)(bM:n.num≤9223372036854775807)(hz:n.text.size≤1000000)(hz1:n.ref.sh.size≤1000000)(hz2:n.af.sh.size≤1000000)(hsi:iM w b (.slice A m c) n.kids)(hl:txt.length≤1000000000)(hls:st.length+2*n.kids.length+1≤2000000000) :
 Calls Tryz.prog (mQ n.kind) #[.pointer (some ⟨b,0,none⟩),.agg #[.int .i64 n.kind,.int .i64 n.num,.string n.text,.string n.ref.sh,.int .i64 n.ref.c,.int .i64 n.ref.r,.bool n.ref.ac,.bool n.ref.ar,.string n.af.sh,.int .i64 n.af.c,.int .i64 n.af.r,.bool n.af.ac,.bool n.af.ar,.slice A m c]] w (mK w b nv st txt n):=by
 obtain⟨a1,a2, -,b1,b2, -⟩:=qX hn;have hst:st.length≤2000000000:=by omega
 by_cases hk:n.kind=1
 · rw[show mQ n.kind=96 from by rw[hk];rfl]
   exact aee w b nv st txt n A m c h hk n.num.toNat (by have:=acH hn hk;omega) (by omega) hg.tab hl
 have h1:=hk;clear hk;by_cases hk:n.kind=2
 · rw[show mQ n.kind=97 from by rw[hk];rfl]
   exact ae6 w b nv st txt n A m c h hk hz hg.adq hg.max_lt hl
 have h2:=hk;clear hk;by_cases hk:n.kind=3
 · rw[show mQ n.kind=98 from by rw[hk];rfl]
   by_cases hv:n.num=1
   · exact aij w b nv st txt n A m c h hk hv hl
   · exact aii w b nv st txt n A m c h hk hv hl
 have h3:=hk;clear hk;by_cases hk:n.kind=4
 · rw[show mQ n.kind=99 from by rw[hk];rfl]
   exact Zv w b nv st txt n A m c h hk hl
 have h4:=hk;clear hk;by_cases hk:n.kind=5
 · rw[show mQ n.kind=100 from by rw[hk];rfl]
   exact aeJ w b nv st txt n A m c h hk hz1 hg.tab hl
 have h5:=hk;clear hk;by_cases hk:n.kind=6
 · rw[show mQ n.kind=101 from by rw[hk];rfl]
   exact aeK w b nv st txt n A m c h hk hz1 hz2 hg.tab hl
 have h6:=hk;clear hk;by_cases hk:n.kind=7
 · rw[show mQ n.kind=102 from by rw[hk];rfl]
   exact YU w b nv st txt n A m c h hk hz hsi hl hls
 have h7:=hk;clear hk;by_cases hk:n.kind=8
 · rw[show mQ n.kind=103 from by rw[hk];rfl]
   have hl1:=a1 hk;exact adS w b nv st txt n A m c h hk _ (dL (by omega:0<n.kids.length)) hsi hl hst
 have h8:=hk;clear hk;have hl2:=a2 (by omega);rw[show mQ n.kind=104 from by unfold mQ;rw[ag h1,ag h2,ag h3,ag h4,ag h5,ag h6,ag h7,ag h8]];exact YI w b nv st txt n A m c h n.kind.toNat (by omega) (by omega) (by omega) _ _ (dL (by omega:0<n.kids.length)) (dL (by omega:1<n.kids.length)) hsi hg.shV hg.agQ hst
theorem adR (s:ByteArray)(h:¬ s=⟨#[]⟩):s.toList.isEmpty=false:=by
 cases hq:s.toList with
 | nil=>exact absurd hq (sQ s (fun e=>h (vM s e)))
 | cons a l=>rfl
theorem ai3 (w:World)(b:Nat)(nv:Value)(st:List aB)(txt:List Int)(p:aB)(h:dO w b nv st txt)(hp:¬ p.t=⟨#[]⟩)(hz:txt.length+p.t.size≤1000000000) :
 Calls Tryz.prog 40 #[.pointer (some ⟨b,0,none⟩),.agg #[.string p.t,.int .i64 p.node,.int .i64 p.least]] w fun e w'=>e = .returned (.tuple #[])∧dO w' b nv st (txt++sb p.t)∧bF w w' b:=by
 have hB:Below w.heap.size w (w.alloc (.cells #[.string p.t,.int .i64 p.node,.int .i64 p.least] 87)):=(ak _ _).alloc (aj _) _;have HP:jd (w.alloc (.cells #[.string p.t,.int .i64 p.node,.int .i64 p.least] 87)) w.heap.size p:=jd.new w p;have hbw:b<w.heap.size:=by obtain⟨wv,h1, -⟩:=h;exact h1.lt
 have hne:=adR p.t hp;have HB:=ae hB;have HQ:=ae (h.below hB);clear h hp hB;go_enter Tryz.func40,Tryz.ntmps40;go_upto_region 1 with (fail)
 obtain⟨z,hzz⟩:∃z,w.heap.size=z:=⟨_,rfl⟩;obtain⟨w1,hw1⟩:∃w1,w.alloc (.cells #[.string p.t,.int .i64 p.node,.int .i64 p.least] 87)=w1:=⟨_,rfl⟩;rw[hw1]at HP HB HQ ⊢;rw[hzz]at HP ⊢;have hzl:z<w1.heap.size:=(dn.1 HP).1;have hzb:z≠b:=by omega
 obtain⟨x0,x1,x2⟩:=HP.cells;have bG:=ae HP;clear hzz hw1 HP;go_upto_region 2 with (fail)
 obtain⟨wv,hws,iG⟩:=HQ.o;have HW:=ae (sU w1.drew b nv wv txt p.t (hws.below ((ak w1.heap.size w1).drew)) (by omega));have HO:=ae iG;have H1:=ae ((ak w1.heap.size w1).drew);clear hws iG
 go_region_held3 (fun w'=>w'.cell? ⟨z,0,none⟩=some (.string p.t)) (first|go_keep|exact S0) (first
  | (go_at_call 65;((with_reducible refine HW.o.mono ?_);rintro e w2 ⟨⟨x,rfl⟩,h3,h4⟩;have Ka:=ae h3;have bT:=ae h4;have S0:=(gM (a:=⟨z,0,none⟩) (bT.o.block z hzl hzb (.inr fun cur fr e=>by
      have h6:w1.heap[z]? = some (.cells (mR p) 87):=bG.o;have h7:w1.drew.heap[z]? = w1.heap[z]? := rfl;rw[h7,h6]at e;injection e with e;injection e with _ e2;exact absurd e2 (by decide)))).trans x0)))
 all_goals go_wp2_with fail
 all_goals refine bodyPost_ret (results_none rfl _ _ _) rfl ?_
 all_goals exact⟨rfl,dO.wrote (HO.o.below H1.o (aj _)) Ka.o bT.o,(bF.iQ HB.o).trans ((bF.iQ H1.o).trans (bF.uu bT.o))⟩
theorem Tv (k:Int):∀args (v:World),(callFunc (mQ k) args).run Tryz.prog v = .ok (.enter (mQ k) args) v:=by
 unfold mQ;split
 · exact Go.Proofs.enters_of Tryz.func96 (by kernel_rfl) rfl
 split
 · exact Go.Proofs.enters_of Tryz.func97 (by kernel_rfl) rfl
 split
 · exact Go.Proofs.enters_of Tryz.func98 (by kernel_rfl) rfl
 split
 · exact Go.Proofs.enters_of Tryz.func99 (by kernel_rfl) rfl
 split
 · exact Go.Proofs.enters_of Tryz.func100 (by kernel_rfl) rfl
 split
 · exact Go.Proofs.enters_of Tryz.func101 (by kernel_rfl) rfl
 split
 · exact Go.Proofs.enters_of Tryz.func102 (by kernel_rfl) rfl
 split
 · exact Go.Proofs.enters_of Tryz.func103 (by kernel_rfl) rfl
 exact Go.Proofs.enters_of Tryz.func104 (by kernel_rfl) rfl
theorem ai1 (w0 w:World)(b:Nat)(nv:Value)(vs:List (Nd × Value))(st:List aB)(txt:List Int)(i:Nat)(least:Int)(n:Nd)(k:Value)(hg:nO w0 w b)(h:dO w b nv st txt)(hsn:fI w b nv vs)(hz:SZ vs)(hnk:vs[i]? = some (n,k))(hnb:dm n=true)(bM:n.num≤9223372036854775807)(hr:¬ (bJ n.kind:Int)+1<least)(hl:txt.length+1≤1000000000)(hls:st.length+2*n.kids.length+2≤2000000000) :
 Calls Tryz.prog 40 #[.pointer (some ⟨b,0,none⟩),.agg #[.string ⟨#[]⟩,.int .i64 (i:Int),.int .i64 least]] w fun e w'=>e = .returned (.tuple #[])∧dO w' b nv (st++(eH n).2.reverse) (txt++(eH n).1)∧bF w w' b:=by
 obtain⟨⟨A,cap,rfl,hat⟩,vz⟩:=hsn;obtain⟨hlen,hsz⟩:=hz;have hil:i<vs.length:=(dS.1 hnk).1;have di:=fT hnk;obtain⟨hz1,hz2,hz3⟩:=hsz _ di;have q9:iM w b k n.kids:=vz _ di;obtain⟨aW,ck,hk,hkc,dM,_⟩:=id q9;obtain⟨nl,hnl⟩:∃nl,vs.length=nl:=⟨_,rfl⟩;obtain⟨m,hm⟩:∃m,n.kids.length=m:=⟨_,rfl⟩;rw[hm]at hk;subst hk;rw[hnl]at hlen hil h ⊢;have hi0:(0:Int)≤(i:Int):=by omega
 have hi1:(i:Int)<(nl:Int):=by omega
 obtain⟨pb,po,rfl,Lf,vw⟩:=hat.resolve_left (fun e=>by rw[e]at hnk;cases hnk);have hcell:=vw i n _ hnk;have hbw:b<w.heap.size:=by obtain⟨wv,h1, -⟩:=h;exact h1.lt
 have hB:Below w.heap.size w (w.alloc (.cells #[.string ⟨#[]⟩,.int .i64 (i:Int),.int .i64 least] 87)):=(ak _ _).alloc (aj _) _;have HP:jd (w.alloc (.cells #[.string ⟨#[]⟩,.int .i64 (i:Int),.int .i64 least] 87)) w.heap.size ⟨⟨#[]⟩,(i:Int),least⟩:=jd.new w ⟨⟨#[]⟩,(i:Int),least⟩;have HB:=ae hB;have HQ:=ae (h.below hB);have HG:=ae (hg.pE (bF.iQ hB));have yM:=ae (q9.below hB (Nat.le_of_lt hbw));have hpb:pb<w.heap.size:=by omega
 obtain⟨rk,ug⟩:∃rk:Nat,bJ n.kind=rk:=⟨_,rfl⟩;have vD:=MN n.kind;rw[ug]at vD hr;have BQ:=ae vD;have vB:=Tw n.kind;have hen:=Tv n.kind;obtain⟨EF,sI⟩:∃EF,mQ n.kind=EF:=⟨_,rfl⟩;rw[sI]at vB hen;have yK:=ae vB;have sj:=ae hnb;have HZ1:=ae hz1;have HZ2:=ae hz2;have HZ3:=ae hz3;have JE:=ae sI;have HM:=ae hm;clear h hg hB q9 hkc dM hat vz hsz vw di hnl hnk hlen vD vB ug sI hnb hz1 hz2 hz3 hm;go_enter Tryz.func40,Tryz.ntmps40;go_upto_region 1 with (fail)
 obtain⟨z,hzz⟩:∃z,w.heap.size=z:=⟨_,rfl⟩;obtain⟨w1,hw1⟩:∃w1,w.alloc (.cells #[.string ⟨#[]⟩,.int .i64 (i:Int),.int .i64 least] 87)=w1:=⟨_,rfl⟩;rw[hw1]at HP HB HQ HG yM ⊢;rw[hzz]at HP ⊢;have k0:w1.cell? ⟨pb,po+i*14,none⟩=some (.int .i64 n.kind):=(HB.o.cell (p:=⟨pb,po+i*14,none⟩) hpb).trans (hcell 0 (by omega));have k1:w1.cell? ⟨pb,po+i*14+1,none⟩=some (.int .i64 n.num):=(HB.o.cell (p:=⟨pb,po+i*14+1,none⟩) hpb).trans (hcell 1 (by omega));have k2:w1.cell? ⟨pb,po+i*14+2,none⟩=some (.string n.text):=(HB.o.cell (p:=⟨pb,po+i*14+2,none⟩) hpb).trans (hcell 2 (by omega));have k3:w1.cell? ⟨pb,po+i*14+3,none⟩=some (.string n.ref.sh):=(HB.o.cell (p:=⟨pb,po+i*14+3,none⟩) hpb).trans (hcell 3 (by omega));have k4:w1.cell? ⟨pb,po+i*14+4,none⟩=some (.int .i64 n.ref.c):=(HB.o.cell (p:=⟨pb,po+i*14+4,none⟩) hpb).trans (hcell 4 (by omega));have k5:w1.cell? ⟨pb,po+i*14+5,none⟩=some (.int .i64 n.ref.r):=(HB.o.cell (p:=⟨pb,po+i*14+5,none⟩) hpb).trans (hcell 5 (by omega));have k6:w1.cell? ⟨pb,po+i*14+6,none⟩=some (.bool n.ref.ac):=(HB.o.cell (p:=⟨pb,po+i*14+6,none⟩) hpb).trans (hcell 6 (by omega));have k7:w1.cell? ⟨pb,po+i*14+7,none⟩=some (.bool n.ref.ar):=(HB.o.cell (p:=⟨pb,po+i*14+7,none⟩) hpb).trans (hcell 7 (by omega));have k8:w1.cell? ⟨pb,po+i*14+8,none⟩=some (.string n.af.sh):=(HB.o.cell (p:=⟨pb,po+i*14+8,none⟩) hpb).trans (hcell 8 (by omega));have k9:w1.cell? ⟨pb,po+i*14+9,none⟩=some (.int .i64 n.af.c):=(HB.o.cell (p:=⟨pb,po+i*14+9,none⟩) hpb).trans (hcell 9 (by omega));have k10:w1.cell? ⟨pb,po+i*14+10,none⟩=some (.int .i64 n.af.r):=(HB.o.cell (p:=⟨pb,po+i*14+10,none⟩) hpb).trans (hcell 10 (by omega));have k11:w1.cell? ⟨pb,po+i*14+11,none⟩=some (.bool n.af.ac):=(HB.o.cell (p:=⟨pb,po+i*14+11,none⟩) hpb).trans (hcell 11 (by omega));have k12:w1.cell? ⟨pb,po+i*14+12,none⟩=some (.bool n.af.ar):=(HB.o.cell (p:=⟨pb,po+i*14+12,none⟩) hpb).trans (hcell 12 (by omega));have k13:w1.cell? ⟨pb,po+i*14+13,none⟩=some (.slice aW m ck):=(HB.o.cell (p:=⟨pb,po+i*14+13,none⟩) hpb).trans (hcell 13 (by omega));have hzl:z<w1.heap.size:=(dn.1 HP).1;have hzb:z≠b:=by omega
 have Ay:b<w1.heap.size:=by omega
 have AR:pb<w1.heap.size:=by omega
 obtain⟨x0,x1,x2⟩:=HP.cells;have xb:w1.cell? ⟨b,0,none⟩=some (.slice (some ⟨pb,po,none⟩) nl cap):=by obtain⟨wv,⟨ad,bv,h1, -⟩, -⟩:=HQ.o;exact h1.facts.1
 have bG:=ae HP;dsimp only at x0 x1 x2;clear hzz hw1 HP hcell;go_upto_region 2 with (fail)
 go_upto_region 3 with (fail)
 go_region_held3 (fun w'=>w'.cell? ⟨b,0,none⟩=some (.slice (some ⟨pb,po,none⟩) nl cap)∧w'.cell? ⟨z,1,none⟩=some (.int .i64 (i:Int))∧w'.cell? ⟨pb,po+i*14,none⟩=some (.int .i64 n.kind)∧w'.cell? ⟨pb,po+i*14+1,none⟩=some (.int .i64 n.num)∧w'.cell? ⟨pb,po+i*14+2,none⟩=some (.string n.text)∧w'.cell? ⟨pb,po+i*14+3,none⟩=some (.string n.ref.sh)∧w'.cell? ⟨pb,po+i*14+4,none⟩=some (.int .i64 n.ref.c)∧w'.cell? ⟨pb,po+i*14+5,none⟩=some (.int .i64 n.ref.r)∧w'.cell? ⟨pb,po+i*14+6,none⟩=some (.bool n.ref.ac)∧w'.cell? ⟨pb,po+i*14+7,none⟩=some (.bool n.ref.ar)∧w'.cell? ⟨pb,po+i*14+8,none⟩=some (.string n.af.sh)∧w'.cell? ⟨pb,po+i*14+9,none⟩=some (.int .i64 n.af.c)∧w'.cell? ⟨pb,po+i*14+10,none⟩=some (.int .i64 n.af.r)∧w'.cell? ⟨pb,po+i*14+11,none⟩=some (.bool n.af.ac)∧w'.cell? ⟨pb,po+i*14+12,none⟩=some (.bool n.af.ar)∧w'.cell? ⟨pb,po+i*14+13,none⟩=some (.slice aW m ck)) (go_keep) (fail)
 have HN:=az.drew (az.new w1 n (.slice aW m ck));have HB2:=(((ak w1.heap.size w1).alloc (aj _) (.cells #[.int .i64 n.kind,.int .i64 n.num,.string n.text,.string n.ref.sh,.int .i64 n.ref.c,.int .i64 n.ref.r,.bool n.ref.ac,.bool n.ref.ar,.string n.af.sh,.int .i64 n.af.c,.int .i64 n.af.r,.bool n.af.ac,.bool n.af.ar,(.slice aW m ck)] 45))).drew;obtain⟨z2,hz2⟩:∃z2,w1.heap.size=z2:=⟨_,rfl⟩;obtain⟨w2,hw2⟩:∃w2,((w1.alloc (.cells #[.int .i64 n.kind,.int .i64 n.num,.string n.text,.string n.ref.sh,.int .i64 n.ref.c,.int .i64 n.ref.r,.bool n.ref.ac,.bool n.ref.ar,.string n.af.sh,.int .i64 n.af.c,.int .i64 n.af.r,.bool n.af.ac,.bool n.af.ar,(.slice aW m ck)] 45)).drew)=w2:=⟨_,rfl⟩;rw[show(w1.alloc (.cells (bU n (.slice aW m ck)) 45)).drew=w2 from hw2]at HN;rw[hw2]at HB2;rw[hw2,hz2];rw[hz2]at HN;have A7:z2<w2.heap.size:=HN.lt;have GJ:z2≠b:=by omega
 have Ei:b<w2.heap.size:=by omega
 have y2:=(HB2.cell (p:=⟨z,2,none⟩) hzl).trans x2;obtain⟨y0, -⟩:=HN.cells;have lK:=ae (HQ.o.below HB2);have HG2:=ae (HG.o.pE (bF.iQ HB2));have JV:=ae (yM.o.below HB2 (Nat.le_of_lt Ay));have Jf:=ae HB2;have cZ:=ae HN;clear hw2 hz2 HN HB2 x0 x1 x2 xb k0 k1 k2 k3 k4 k5 k6 k7 k8 k9 k10 k11 k12 k13;go_upto_region 4 with (fail)
 go_region_held3 (fun w'=>w'.cell? ⟨z2,0,none⟩=some (.int .i64 n.kind)∧w'.cell? ⟨z,2,none⟩=some (.int .i64 least)) (go_keep) (first
  | (go_at_call 66;((with_reducible refine(BQ.o _).mono ?_);rintro e w3 ⟨rfl,rfl⟩)))
 have HD2:=ae ((ak w2.heap.size w2).drew);have fG:=ae (HG2.o.pE (bF.iQ HD2.o));have xq:=ae (lK.o.below HD2.o);have JW:=ae (JV.o.below HD2.o (Nat.le_of_lt Ei));have aF:=ae (az.drew cZ.o);have KZ:=Ei;have LA:z2<w2.drew.heap.size:=A7;go_upto_region 7 with (fail)
 have yD:=ae (fun (wr:World)(hr:Below w2.drew.heap.size w2.drew wr)=>TL w0 wr b (.slice (some ⟨pb,po,none⟩) nl cap) (st) (txt) n aW m ck ((fG.o).pE (bF.iQ hr)) (xq.o.below hr) sj.o bM HZ1.o HZ2.o HZ3.o (JW.o.below hr (Nat.le_of_lt KZ)) (by omega) (by have:=HM.o;omega));rw[JE.o]at yD;have H3:=ae ((ak w2.drew.heap.size w2.drew).drew);obtain⟨k0,k1,k2,k3,k4,k5,k6,k7,k8,k9,k10,k11,k12,k13⟩:=aF.o.cells
 go_region_held3 (fun w'=>w'.cell? ⟨z2,0,none⟩=some (.int .i64 n.kind)∧w'.cell? ⟨z2,1,none⟩=some (.int .i64 n.num)∧w'.cell? ⟨z2,2,none⟩=some (.string n.text)∧w'.cell? ⟨z2,3,none⟩=some (.string n.ref.sh)∧w'.cell? ⟨z2,4,none⟩=some (.int .i64 n.ref.c)∧w'.cell? ⟨z2,5,none⟩=some (.int .i64 n.ref.r)∧w'.cell? ⟨z2,6,none⟩=some (.bool n.ref.ac)∧w'.cell? ⟨z2,7,none⟩=some (.bool n.ref.ar)∧w'.cell? ⟨z2,8,none⟩=some (.string n.af.sh)∧w'.cell? ⟨z2,9,none⟩=some (.int .i64 n.af.c)∧w'.cell? ⟨z2,10,none⟩=some (.int .i64 n.af.r)∧w'.cell? ⟨z2,11,none⟩=some (.bool n.af.ac)∧w'.cell? ⟨z2,12,none⟩=some (.bool n.af.ar)∧w'.cell? ⟨z2,13,none⟩=some (.slice aW m ck)) (first|go_keep|exact Kn) (first
  | (go_at_call 68;((with_reducible refine(yK.o _).mono ?_);rintro e w4 ⟨rfl,rfl⟩))
  | ((with_reducible refine(yD.o _ H3.o).mono ?_);rintro e w5 ⟨rfl,h3,h4⟩;have xu:=ae h3;have bg:=ae h4;have Kn:=az.cells (show az w5 z2 n (.slice aW m ck)from by
       unfold az;have e1:w2.drew.drew.heap[z2]? = some (.cells (bU n (.slice aW m ck)) 45):=aF.o;rw[bg.o.block z2 LA GJ (.inr fun cur fr=>⟨fun e=>by(rw[e1]at e;injection e with e;injection e with _ e2;exact absurd e2 (by decide)),fun e=>by(rw[e1]at e;injection e with e;injection e with _ e2;exact absurd e2 (by decide))⟩)];exact e1);clear h3 h4))
 all_goals go_wp2_with fail
 all_goals go_end0
 all_goals exact⟨rfl,xu.o,(bF.iQ HB.o).trans ((bF.iQ Jf.o).trans ((bF.iQ (ak _ _).drew).trans ((bF.iQ H3.o).trans bg.o)))⟩
theorem ai2 (w0 w:World)(b:Nat)(nv:Value)(vs:List (Nd × Value))(st:List aB)(txt:List Int)(i:Nat)(least:Int)(n:Nd)(k:Value)(hg:nO w0 w b)(h:dO w b nv st txt)(hsn:fI w b nv vs)(hz:SZ vs)(hnk:vs[i]? = some (n,k))(hnb:dm n=true)(bM:n.num≤9223372036854775807)(hr:(bJ n.kind:Int)+1<least)(hl:txt.length+1≤1000000000)(hls:st.length+2*n.kids.length+2≤2000000000) :
 Calls Tryz.prog 40 #[.pointer (some ⟨b,0,none⟩),.agg #[.string ⟨#[]⟩,.int .i64 (i:Int),.int .i64 least]] w fun e w'=>e = .returned (.tuple #[])∧dO w' b nv (st++[aB.plain ⟨#[41]⟩]++(eH n).2.reverse) (txt++([40]++(eH n).1))∧bF w w' b:=by
 obtain⟨⟨A,cap,rfl,hat⟩,vz⟩:=hsn;obtain⟨hlen,hsz⟩:=hz;have hil:i<vs.length:=(dS.1 hnk).1;have di:=fT hnk;obtain⟨hz1,hz2,hz3⟩:=hsz _ di;have q9:iM w b k n.kids:=vz _ di;obtain⟨aW,ck,hk,hkc,dM,_⟩:=id q9;obtain⟨nl,hnl⟩:∃nl,vs.length=nl:=⟨_,rfl⟩;obtain⟨m,hm⟩:∃m,n.kids.length=m:=⟨_,rfl⟩;rw[hm]at hk;subst hk;rw[hnl]at hlen hil h ⊢;have hi0:(0:Int)≤(i:Int):=by omega
 have hi1:(i:Int)<(nl:Int):=by omega
 obtain⟨pb,po,rfl,Lf,vw⟩:=hat.resolve_left (fun e=>by rw[e]at hnk;cases hnk);have hcell:=vw i n _ hnk;have hbw:b<w.heap.size:=by obtain⟨wv,h1, -⟩:=h;exact h1.lt
 have hB:Below w.heap.size w (w.alloc (.cells #[.string ⟨#[]⟩,.int .i64 (i:Int),.int .i64 least] 87)):=(ak _ _).alloc (aj _) _;have HP:jd (w.alloc (.cells #[.string ⟨#[]⟩,.int .i64 (i:Int),.int .i64 least] 87)) w.heap.size ⟨⟨#[]⟩,(i:Int),least⟩:=jd.new w ⟨⟨#[]⟩,(i:Int),least⟩;have HB:=ae hB;have HQ:=ae (h.below hB);have HG:=ae (hg.pE (bF.iQ hB));have yM:=ae (q9.below hB (Nat.le_of_lt hbw));have hpb:pb<w.heap.size:=by omega
 obtain⟨rk,ug⟩:∃rk:Nat,bJ n.kind=rk:=⟨_,rfl⟩;have vD:=MN n.kind;rw[ug]at vD hr;have BQ:=ae vD;have vB:=Tw n.kind;have hen:=Tv n.kind;obtain⟨EF,sI⟩:∃EF,mQ n.kind=EF:=⟨_,rfl⟩;rw[sI]at vB hen;have yK:=ae vB;have sj:=ae hnb;have HZ1:=ae hz1;have HZ2:=ae hz2;have HZ3:=ae hz3;have JE:=ae sI;have HM:=ae hm;clear h hg hB q9 hkc dM hat vz hsz vw di hnl hnk hlen vD vB ug sI hnb hz1 hz2 hz3 hm;go_enter Tryz.func40,Tryz.ntmps40;go_upto_region 1 with (fail)
 obtain⟨z,hzz⟩:∃z,w.heap.size=z:=⟨_,rfl⟩;obtain⟨w1,hw1⟩:∃w1,w.alloc (.cells #[.string ⟨#[]⟩,.int .i64 (i:Int),.int .i64 least] 87)=w1:=⟨_,rfl⟩;rw[hw1]at HP HB HQ HG yM ⊢;rw[hzz]at HP ⊢;have k0:w1.cell? ⟨pb,po+i*14,none⟩=some (.int .i64 n.kind):=(HB.o.cell (p:=⟨pb,po+i*14,none⟩) hpb).trans (hcell 0 (by omega));have k1:w1.cell? ⟨pb,po+i*14+1,none⟩=some (.int .i64 n.num):=(HB.o.cell (p:=⟨pb,po+i*14+1,none⟩) hpb).trans (hcell 1 (by omega));have k2:w1.cell? ⟨pb,po+i*14+2,none⟩=some (.string n.text):=(HB.o.cell (p:=⟨pb,po+i*14+2,none⟩) hpb).trans (hcell 2 (by omega));have k3:w1.cell? ⟨pb,po+i*14+3,none⟩=some (.string n.ref.sh):=(HB.o.cell (p:=⟨pb,po+i*14+3,none⟩) hpb).trans (hcell 3 (by omega));have k4:w1.cell? ⟨pb,po+i*14+4,none⟩=some (.int .i64 n.ref.c):=(HB.o.cell (p:=⟨pb,po+i*14+4,none⟩) hpb).trans (hcell 4 (by omega));have k5:w1.cell? ⟨pb,po+i*14+5,none⟩=some (.int .i64 n.ref.r):=(HB.o.cell (p:=⟨pb,po+i*14+5,none⟩) hpb).trans (hcell 5 (by omega));have k6:w1.cell? ⟨pb,po+i*14+6,none⟩=some (.bool n.ref.ac):=(HB.o.cell (p:=⟨pb,po+i*14+6,none⟩) hpb).trans (hcell 6 (by omega));have k7:w1.cell? ⟨pb,po+i*14+7,none⟩=some (.bool n.ref.ar):=(HB.o.cell (p:=⟨pb,po+i*14+7,none⟩) hpb).trans (hcell 7 (by omega));have k8:w1.cell? ⟨pb,po+i*14+8,none⟩=some (.string n.af.sh):=(HB.o.cell (p:=⟨pb,po+i*14+8,none⟩) hpb).trans (hcell 8 (by omega));have k9:w1.cell? ⟨pb,po+i*14+9,none⟩=some (.int .i64 n.af.c):=(HB.o.cell (p:=⟨pb,po+i*14+9,none⟩) hpb).trans (hcell 9 (by omega));have k10:w1.cell? ⟨pb,po+i*14+10,none⟩=some (.int .i64 n.af.r):=(HB.o.cell (p:=⟨pb,po+i*14+10,none⟩) hpb).trans (hcell 10 (by omega));have k11:w1.cell? ⟨pb,po+i*14+11,none⟩=some (.bool n.af.ac):=(HB.o.cell (p:=⟨pb,po+i*14+11,none⟩) hpb).trans (hcell 11 (by omega));have k12:w1.cell? ⟨pb,po+i*14+12,none⟩=some (.bool n.af.ar):=(HB.o.cell (p:=⟨pb,po+i*14+12,none⟩) hpb).trans (hcell 12 (by omega));have k13:w1.cell? ⟨pb,po+i*14+13,none⟩=some (.slice aW m ck):=(HB.o.cell (p:=⟨pb,po+i*14+13,none⟩) hpb).trans (hcell 13 (by omega));have hzl:z<w1.heap.size:=(dn.1 HP).1;have hzb:z≠b:=by omega
 have Ay:b<w1.heap.size:=by omega
 have AR:pb<w1.heap.size:=by omega
 obtain⟨x0,x1,x2⟩:=HP.cells;have xb:w1.cell? ⟨b,0,none⟩=some (.slice (some ⟨pb,po,none⟩) nl cap):=by obtain⟨wv,⟨ad,bv,h1, -⟩, -⟩:=HQ.o;exact h1.facts.1
 have bG:=ae HP;dsimp only at x0 x1 x2;clear hzz hw1 HP hcell;go_upto_region 2 with (fail)
 go_upto_region 3 with (fail)
 go_region_held3 (fun w'=>w'.cell? ⟨b,0,none⟩=some (.slice (some ⟨pb,po,none⟩) nl cap)∧w'.cell? ⟨z,1,none⟩=some (.int .i64 (i:Int))∧w'.cell? ⟨pb,po+i*14,none⟩=some (.int .i64 n.kind)∧w'.cell? ⟨pb,po+i*14+1,none⟩=some (.int .i64 n.num)∧w'.cell? ⟨pb,po+i*14+2,none⟩=some (.string n.text)∧w'.cell? ⟨pb,po+i*14+3,none⟩=some (.string n.ref.sh)∧w'.cell? ⟨pb,po+i*14+4,none⟩=some (.int .i64 n.ref.c)∧w'.cell? ⟨pb,po+i*14+5,none⟩=some (.int .i64 n.ref.r)∧w'.cell? ⟨pb,po+i*14+6,none⟩=some (.bool n.ref.ac)∧w'.cell? ⟨pb,po+i*14+7,none⟩=some (.bool n.ref.ar)∧w'.cell? ⟨pb,po+i*14+8,none⟩=some (.string n.af.sh)∧w'.cell? ⟨pb,po+i*14+9,none⟩=some (.int .i64 n.af.c)∧w'.cell? ⟨pb,po+i*14+10,none⟩=some (.int .i64 n.af.r)∧w'.cell? ⟨pb,po+i*14+11,none⟩=some (.bool n.af.ac)∧w'.cell? ⟨pb,po+i*14+12,none⟩=some (.bool n.af.ar)∧w'.cell? ⟨pb,po+i*14+13,none⟩=some (.slice aW m ck)) (go_keep) (fail)
 have HN:=az.drew (az.new w1 n (.slice aW m ck));have HB2:=(((ak w1.heap.size w1).alloc (aj _) (.cells #[.int .i64 n.kind,.int .i64 n.num,.string n.text,.string n.ref.sh,.int .i64 n.ref.c,.int .i64 n.ref.r,.bool n.ref.ac,.bool n.ref.ar,.string n.af.sh,.int .i64 n.af.c,.int .i64 n.af.r,.bool n.af.ac,.bool n.af.ar,(.slice aW m ck)] 45))).drew;obtain⟨z2,hz2⟩:∃z2,w1.heap.size=z2:=⟨_,rfl⟩;obtain⟨w2,hw2⟩:∃w2,((w1.alloc (.cells #[.int .i64 n.kind,.int .i64 n.num,.string n.text,.string n.ref.sh,.int .i64 n.ref.c,.int .i64 n.ref.r,.bool n.ref.ac,.bool n.ref.ar,.string n.af.sh,.int .i64 n.af.c,.int .i64 n.af.r,.bool n.af.ac,.bool n.af.ar,(.slice aW m ck)] 45)).drew)=w2:=⟨_,rfl⟩;rw[show(w1.alloc (.cells (bU n (.slice aW m ck)) 45)).drew=w2 from hw2]at HN;rw[hw2]at HB2;rw[hw2,hz2];rw[hz2]at HN;have A7:z2<w2.heap.size:=HN.lt;have GJ:z2≠b:=by omega
 have Ei:b<w2.heap.size:=by omega
 have y2:=(HB2.cell (p:=⟨z,2,none⟩) hzl).trans x2;obtain⟨y0, -⟩:=HN.cells;have lK:=ae (HQ.o.below HB2);have HG2:=ae (HG.o.pE (bF.iQ HB2));have JV:=ae (yM.o.below HB2 (Nat.le_of_lt Ay));have Jf:=ae HB2;have cZ:=ae HN;clear hw2 hz2 HN HB2 x0 x1 x2 xb k0 k1 k2 k3 k4 k5 k6 k7 k8 k9 k10 k11 k12 k13;go_upto_region 4 with (fail)
 go_region_held3 (fun w'=>w'.cell? ⟨z2,0,none⟩=some (.int .i64 n.kind)∧w'.cell? ⟨z,2,none⟩=some (.int .i64 least)) (go_keep) (first
  | (go_at_call 66;((with_reducible refine(BQ.o _).mono ?_);rintro e w3 ⟨rfl,rfl⟩)))
 have HD2:=ae ((ak w2.heap.size w2).drew);obtain⟨wv,hws,iG⟩:=lK.o;have HW:=ae (sU w2.drew b _ wv txt ⟨#[40]⟩ (hws.below HD2.o) (by show txt.length+1≤_;omega));have HO:=ae (iG.below HD2.o (aj _));clear hws iG;go_upto_region 5 with (fail)
 go_upto_region 6 with (go_at_call 65;((with_reducible refine HW.o.mono ?_);rintro e u3 ⟨⟨x,rfl⟩,h3,h4⟩;have XV:=ae h3;have dP:=ae h4;clear h3 h4))
 have XU:=ae (show dO u3 b (.slice (some ⟨pb,po,none⟩) nl cap) st (txt++[40])from by
  have h:=dO.wrote HO.o XV.o dP.o;rwa[show sb ⟨#[40]⟩=[40]by decide]at h)
 have qM:=ae (fun (wr:World)(hr:Below u3.heap.size u3 wr)=>Bl wr b (.slice (some ⟨pb,po,none⟩) nl cap) st [aB.plain ⟨#[41]⟩] (txt++[40]) #[.string ⟨#[41]⟩,.int .i64 0,.int .i64 0] 1 rfl rfl (XU.o.below hr) (by show 1≤1000000;decide) (by omega))
 go_upto_region 7 with (first
  | (go_at_call 67;((with_reducible refine(H6 _ _).mono ?_);rintro e u4 ⟨rfl,h3⟩;have dC:=ae h3;clear h3))
  | (go_at_call 38;((with_reducible refine(qM.o _ dC.o).mono ?_);rintro e u5 ⟨rfl,h3,h4⟩;have Xr:=ae h3;have WO:=ae h4;clear h3 h4)))
 have Dp:=ae (((bF.iQ HD2.o).trans (bF.uu dP.o)).trans ((bF.iQ dC.o).trans WO.o));have fG:=ae (HG2.o.pE Dp.o);have JW:=ae (JV.o.pE Dp.o (aj _) Ei);have Lt:w2.heap.size≤u5.heap.size:=Dp.o.size;have xq:=ae (show dO u5 b (.slice (some ⟨pb,po,none⟩) nl cap) (st++[aB.plain ⟨#[41]⟩]) (txt++[40])from Xr.o)
 have aF:=ae (show az u5 z2 n (.slice aW m ck)from by
  unfold az;have e1:w2.heap[z2]? = some (.cells (bU n (.slice aW m ck)) 45):=cZ.o;rw[Dp.o.block z2 A7 GJ (.inr fun cur fr=>⟨fun e=>by(rw[e1]at e;injection e with e;injection e with _ e2;exact absurd e2 (by decide)),fun e=>by(rw[e1]at e;injection e with e;injection e with _ e2;exact absurd e2 (by decide))⟩)];exact e1)
 have KZ:b<u5.heap.size:=by omega
 have LA:z2<u5.drew.heap.size:=by show z2<u5.heap.size;omega
 clear y0 y2;have yD:=ae (fun (wr:World)(hr:Below u5.heap.size u5 wr)=>TL w0 wr b (.slice (some ⟨pb,po,none⟩) nl cap) (st++[aB.plain ⟨#[41]⟩]) (txt++[40]) n aW m ck ((fG.o).pE (bF.iQ hr)) (xq.o.below hr) sj.o bM HZ1.o HZ2.o HZ3.o (JW.o.below hr (Nat.le_of_lt KZ)) (by rw[av];show txt.length+1≤_;omega) (by rw[av];show st.length+1+_+1≤_;have:=HM.o;omega));rw[JE.o]at yD;have H3:=ae ((ak u5.heap.size u5).drew);obtain⟨k0,k1,k2,k3,k4,k5,k6,k7,k8,k9,k10,k11,k12,k13⟩:=aF.o.cells
 go_region_held3 (fun w'=>w'.cell? ⟨z2,0,none⟩=some (.int .i64 n.kind)∧w'.cell? ⟨z2,1,none⟩=some (.int .i64 n.num)∧w'.cell? ⟨z2,2,none⟩=some (.string n.text)∧w'.cell? ⟨z2,3,none⟩=some (.string n.ref.sh)∧w'.cell? ⟨z2,4,none⟩=some (.int .i64 n.ref.c)∧w'.cell? ⟨z2,5,none⟩=some (.int .i64 n.ref.r)∧w'.cell? ⟨z2,6,none⟩=some (.bool n.ref.ac)∧w'.cell? ⟨z2,7,none⟩=some (.bool n.ref.ar)∧w'.cell? ⟨z2,8,none⟩=some (.string n.af.sh)∧w'.cell? ⟨z2,9,none⟩=some (.int .i64 n.af.c)∧w'.cell? ⟨z2,10,none⟩=some (.int .i64 n.af.r)∧w'.cell? ⟨z2,11,none⟩=some (.bool n.af.ac)∧w'.cell? ⟨z2,12,none⟩=some (.bool n.af.ar)∧w'.cell? ⟨z2,13,none⟩=some (.slice aW m ck)) (first|go_keep|exact Kn) (first
  | (go_at_call 68;((with_reducible refine(yK.o _).mono ?_);rintro e w4 ⟨rfl,rfl⟩))
  | ((with_reducible refine(yD.o _ H3.o).mono ?_);rintro e w5 ⟨rfl,h3,h4⟩;have xu:=ae h3;have bg:=ae h4;have Kn:=az.cells (show az w5 z2 n (.slice aW m ck)from by
       unfold az;have e1:u5.drew.heap[z2]? = some (.cells (bU n (.slice aW m ck)) 45):=aF.o;rw[bg.o.block z2 LA GJ (.inr fun cur fr=>⟨fun e=>by(rw[e1]at e;injection e with e;injection e with _ e2;exact absurd e2 (by decide)),fun e=>by(rw[e1]at e;injection e with e;injection e with _ e2;exact absurd e2 (by decide))⟩)];exact e1);clear h3 h4))
 all_goals go_wp2_with fail
 all_goals go_end0
 all_goals exact⟨rfl,by(have h:=xu.o;rw[bN txt]at h;exact h),(bF.iQ HB.o).trans ((bF.iQ Jf.o).trans (Dp.o.trans ((bF.iQ H3.o).trans bg.o)))⟩
theorem Ps:∀ks:List Int,2*ks.length≤(oJ ks).length+1
 | []=>eP _
 | [a]=>aj _
 | a :: b :: ks=>by
   have ih:=Ps (b :: ks);show 2*((b :: ks).length+1)≤((oJ (b :: ks)).length+1+1)+1;omega
theorem acg (h:dm n=true):2*n.kids.length≤(eH n).2.length+4:=by
 obtain⟨a1,a2,a3,b1,b2, -⟩:=qX h;by_cases h6:n.kind≤6
 · rw[a3 ⟨b1,h6⟩];exact eP _
 by_cases h7:n.kind=7
 · have:=Ps n.kids
   rw[show(eH n).2=oJ n.kids++[aB.plain ⟨#[41]⟩]from by unfold eH;rw[ag (by omega),ag (by omega),ag (by omega),ag (by omega),ag (by omega),ag (by omega),ah h7],av];omega
 by_cases h8:n.kind=8
 · rw[a1 h8];omega
 · rw[a2 (by omega)];omega
theorem ahw {l:List Nd}(h:cO l=true)(p:aB)(hp:j3 l p):2≤2*(mV l p).1.length+(mV l p).2.length:=by
 have hn:∀n:Nd,dm n=true→2≤2*(eH n).1.length+(eH n).2.length:=by
  intro n hn;obtain⟨-, -, -,b1,b2, -⟩:=qX hn;unfold eH;split
  · have:aV n.num.toNat≠[]:=tY _
    have:=List.length_pos_iff.2 this;show 2≤2*(aV n.num.toNat).length+0;omega
  split
  · simp;omega
  split
  · split <;> simp
  split
  · simp
  split
  · rename_i h5
    have hl:=(qX hn).2.2.2.2.2;have:aZ (sb n.ref.sh) n.ref.c n.ref.r n.ref.ac n.ref.ar≠[]:=VP (Sz hl h5);have:=List.length_pos_iff.2 this;show 2≤2*(aZ _ _ _ _ _).length+0;omega
  split
  · simp;omega
  split
  · simp;omega
  split
  · simp
  · simp
 unfold mV;split
 · rename_i ht
   obtain⟨h0,h1⟩:=hp ht;have:=hn _ (zM h h0 h1).1;split
   · rw[aX,av];show 2≤2*(_+1)+(_+1);omega
   · exact this
 · rename_i ht
   have:=List.length_pos_iff.2 (U7 ht);show 2≤2*(sb p.t).length+0;omega
theorem ahx {l:List Nd}{j:Nat}{m:Int}(hn:nodeAt l (j:Int)=n):mV l ⟨⟨#[]⟩,(j:Int),m⟩=if (bJ n.kind:Int)+1<m then (40 :: (eH n).1,(eH n).2++[aB.plain ⟨#[41]⟩])else eH n:=by
 unfold mV;rw[ah rfl];dsimp only;rw[hn]
theorem ai0 (w0 w:World)(b:Nat)(nv:Value)(vs:List (Nd × Value))(st:List aB)(txt:List Int)(p:aB)(hg:nO w0 w b)(h:dO w b nv st txt)(hsn:fI w b nv vs)(hz:SZ vs)(ht:cO (vs.map (·.1))=true)(bM:∀q∈vs,q.1.num≤9223372036854775807)(hp:j3 (vs.map (·.1)) p)(hl:txt.length+(kS (vs.map (·.1)) p).length≤1000000000)(hls:st.length+(kS (vs.map (·.1)) p).length≤1000000000) :
 Calls Tryz.prog 40 #[.pointer (some ⟨b,0,none⟩),.agg (mR p)] w fun e w'=>e = .returned (.tuple #[])∧dO w' b nv (st++(mV (vs.map (·.1)) p).2.reverse) (txt++(mV (vs.map (·.1)) p).1)∧bF w w' b:=by
 obtain⟨t,i,m⟩:=p;by_cases hpt:t=⟨#[]⟩
 · subst hpt
   obtain⟨h0,h1⟩:=hp rfl;dsimp only at h0 h1;obtain⟨j,rfl⟩:∃j:Nat,i=(j:Int):=⟨i.toNat,by omega⟩;rw[eB]at h1;obtain⟨⟨n,k⟩,hnk⟩:∃q,vs[j]? = some q:=⟨_,dL (by omega)⟩
   have hn:nodeAt (vs.map (·.1)) (j:Int)=n:=by
    unfold nodeAt;rw[Int.toNat_natCast,jL,gN,hnk];rfl
   have hnb:=(zM ht h0 (by rw[eB];exact h1)).1;rw[hn]at hnb;have hkl:=acg hnb;have hne:=List.length_pos_iff.2 (Uo ht _ hp);have hfl:=Gm ht _ (Nu ht _ hp);have hL:=VD ht _ hp;have xP:=congrArg List.length hL;rw[av]at xP;have hsp:=ahx (m:=m) hn;rw[hsp]at hfl xP ⊢;by_cases hr:(bJ n.kind:Int)+1<m
   · rw[ah hr]at hfl xP ⊢
     dsimp only at hfl xP ⊢;rw[av]at hfl;refine(ai2 w0 w b nv vs st txt j m n k hg h hsn hz hnk hnb (bM _ (fT hnk)) hr (by omega) (by omega)).mono ?_;rintro e w' ⟨h1,h2,h3⟩;refine⟨h1, ?_,h3⟩;rw[List.reverse_append,List.reverse_singleton, ← bN];exact h2
   · rw[ag hr]at hfl xP ⊢
     exact ai1 w0 w b nv vs st txt j m n k hg h hsn hz hnk hnb (bM _ (fT hnk)) hr (by omega) (by omega)
 · have hs:mV (vs.map (·.1)) ⟨t,i,m⟩=(sb t,[]):=by unfold mV;rw[ag (show ¬ (⟨t,i,m⟩:aB).t=⟨#[]⟩from hpt)]
   have hp2:kS (vs.map (·.1)) ⟨t,i,m⟩=sb t:=by unfold kS;rw[ag (show ¬ (⟨t,i,m⟩:aB).t=⟨#[]⟩from hpt)]
   rw[hs];rw[hp2,bz]at hl;dsimp only;rw[List.reverse_nil,fF];exact ai3 w b nv st txt ⟨t,i,m⟩ h hpt hl
theorem Z4 (w:World)(n:Nd)(hv:Vars w)(hs:n.text.size≤1000000)(hr:n.ref.sh.size≤1000000)(ht:n.af.sh.size≤1000000)(cB:okF n=true)(A:Option Addr)(m c:Nat) :
 Calls Tryz.prog 92 #[.agg #[.int .i64 n.kind,.int .i64 n.num,.string n.text,.string n.ref.sh,.int .i64 n.ref.c,.int .i64 n.ref.r,.bool n.ref.ac,.bool n.ref.ar,.string n.af.sh,.int .i64 n.af.c,.int .i64 n.af.r,.bool n.af.ac,.bool n.af.ar,.slice A m c]] w fun e w'=>e = .returned (.tuple #[.agg (bU (iZ n) (.slice none 0 0)),.bool (okF n)])∧Below w.heap.size w w':=by
 by_cases h1:n.kind=1
 · have e1:iZ n={ Nd.zero with num:=n.num }:=by unfold iZ;rw[ah h1]
   have e2:okF n=decide (0≤n.num):=by unfold okF;rw[ah h1]
   rw[e1,e2];exact ZU n h1 A m c w
 by_cases h2:n.kind=2
 · have e1:iZ n={ Nd.zero with text:=n.text }:=by unfold iZ;rw[ag h1,ah h2]
   have e2:okF n=mF (sb n.text):=by unfold okF;rw[ag h1,ah h2]
   rw[e1,e2];exact ZV w n h2 hs A m c
 by_cases h3:n.kind=3
 · have e1:iZ n={ Nd.zero with num:=n.num }:=by unfold iZ;rw[ag h1,ag h2,ah h3]
   have e2:okF n=decide (n.num=0∨n.num=1):=by unfold okF;rw[ag h1,ag h2,ah h3]
   rw[e1,e2];by_cases k0:n.num=0
   · rw[aQ (Or.inl k0)];exact ZW w n h3 k0 A m c
   · by_cases k1:n.num=1
     · rw[aQ (Or.inr k1)];exact ZX w n h3 k1 A m c
     · have k:¬ (n.num=0∨n.num=1):=by omega
       rw[cB,aS k]at e2;exact absurd e2 (by decide)
 by_cases h5:n.kind=5
 · have e1:iZ n={ Nd.zero with ref:=n.ref }:=by unfold iZ;rw[ag h1,ag h2,ag h3,ah h5]
   have e2:okF n=bQ n.ref:=by unfold okF;rw[ag h1,ag h2,ag h3,ah h5]
   rw[e1,e2];exact ZY w n h5 hr A m c
 by_cases h6:n.kind=6
 · have e1:iZ n=⟨0,0,⟨#[]⟩,n.ref,n.af,[]⟩:=by unfold iZ;rw[ag h1,ag h2,ag h3,ag h5,ah h6]
   have e2:okF n=(bQ n.ref&&(bQ n.af&&fu n.ref n.af)):=by unfold okF;rw[ag h1,ag h2,ag h3,ag h5,ah h6]
   rw[e1,e2];cases q1:bQ n.ref
   · rw[cB,q1,Bool.false_and]at e2;exact absurd e2 (by decide)
   · cases q2:bQ n.af
     · rw[cB,q1,q2,Bool.false_and,Bool.and_false]at e2;exact absurd e2 (by decide)
     · exact ZZ w n h6 hr ht q1 q2 A m c
 by_cases h7:n.kind=7
 · have e1:iZ n={ Nd.zero with text:=n.text }:=by unfold iZ;rw[ag h1,ag h2,ag h3,ag h5,ag h6,ah h7]
   have e2:okF n=j4 n.text:=by unfold okF;rw[ag h1,ag h2,ag h3,ag h5,ag h6,ah h7]
   rw[e1,e2];exact Z0 w n h7 hv A m c
 have e1:iZ n=Nd.zero:=by unfold iZ;rw[ag h1,ag h2,ag h3,ag h5,ag h6,ag h7]
 have e2:okF n=(decide (n.kind=4∨n.kind=8)||wY n.kind):=by unfold okF;rw[ag h1,ag h2,ag h3,ag h5,ag h6,ag h7]
 rw[e1,e2];by_cases h4:n.kind=4
 · rw[aQ (Or.inl h4),Bool.true_or];exact ZQ w n h1 h2 h3 h5 h6 h7 h4 A m c
 · by_cases h8:n.kind=8
   · rw[aQ (Or.inr h8),Bool.true_or];exact ZR w n h1 h2 h3 h5 h6 h7 h8 A m c
   · rw[aS (by omega),Bool.false_or];exact ZT w n h1 h2 h3 h5 h6 h7 h4 h8 A m c
theorem Sd (w:World)(n:Nd)(hv:Vars w)(hs:n.text.size≤1000000)(hr:n.ref.sh.size≤1000000)(ht:n.af.sh.size≤1000000)(A:Option Addr)(m c:Nat)(hm:m≤maxLen)(cB:vF n m=true) :
 Calls Tryz.prog 63 #[.agg #[.int .i64 n.kind,.int .i64 n.num,.string n.text,.string n.ref.sh,.int .i64 n.ref.c,.int .i64 n.ref.r,.bool n.ref.ac,.bool n.ref.ar,.string n.af.sh,.int .i64 n.af.c,.int .i64 n.af.r,.bool n.af.ac,.bool n.af.ar,.slice A m c]] w fun e w'=>e = .returned (.bool true)∧Below w.heap.size w w':=by
 have dw:=ae cB;have abk:okF n=true:=by unfold vF at cB;rw[dH]at cB;exact cB.1
 clear cB;obtain⟨N,hN⟩:∃N,iZ n=N:=⟨_,rfl⟩;obtain⟨ok,hok⟩:∃ok,okF n=ok:=⟨_,rfl⟩;obtain⟨hk,hhk⟩:∃hk,hkB n.kind m=hk:=⟨_,rfl⟩;have HI:=ae (show vF n m=(ok&&(hk&&(decide (n.num=N.num)&&(decide (n.text=N.text)&&(ig n.ref N.ref&&ig n.af N.af)))))by unfold vF;rw[hN,hok,hhk]);have HF:=ae (show ∀w,Vars w→Calls Tryz.prog 92 #[.agg #[.int .i64 n.kind,.int .i64 n.num,.string n.text,.string n.ref.sh,.int .i64 n.ref.c,.int .i64 n.ref.r,.bool n.ref.ac,.bool n.ref.ar,.string n.af.sh,.int .i64 n.af.c,.int .i64 n.af.r,.bool n.af.ac,.bool n.af.ar,.slice A m c]] w fun e w'=>e = .returned (.tuple #[.agg #[.int .i64 N.kind,.int .i64 N.num,.string N.text,.string N.ref.sh,.int .i64 N.ref.c,.int .i64 N.ref.r,.bool N.ref.ac,.bool N.ref.ar,.string N.af.sh,.int .i64 N.af.c,.int .i64 N.af.r,.bool N.af.ac,.bool N.af.ar,.slice none 0 0],.bool ok])∧Below w.heap.size w w' from fun w hv=>by rw[← hN, ← hok];exact Z4 w n hv hs hr ht abk A m c);have HH:=ae (show ∀w,Calls Tryz.prog 93 #[.agg #[.int .i64 n.kind,.int .i64 n.num,.string n.text,.string n.ref.sh,.int .i64 n.ref.c,.int .i64 n.ref.r,.bool n.ref.ac,.bool n.ref.ar,.string n.af.sh,.int .i64 n.af.c,.int .i64 n.af.r,.bool n.af.ac,.bool n.af.ar,.slice A m c]] w fun e w'=>e = .returned (.bool hk)∧Below w.heap.size w w' from fun w=>by rw[← hhk];exact aax n A m c hm w);have hx:az (w.alloc (.cells #[.int .i64 n.kind,.int .i64 n.num,.string n.text,.string n.ref.sh,.int .i64 n.ref.c,.int .i64 n.ref.r,.bool n.ref.ac,.bool n.ref.ar,.string n.af.sh,.int .i64 n.af.c,.int .i64 n.af.r,.bool n.af.ac,.bool n.af.ar,.slice A m c] 45)) w.heap.size n (.slice A m c):=az.new w n _;have HB:=ae ((ak w.heap.size w).alloc (aj _) (.cells #[.int .i64 n.kind,.int .i64 n.num,.string n.text,.string n.ref.sh,.int .i64 n.ref.c,.int .i64 n.ref.r,.bool n.ref.ac,.bool n.ref.ar,.string n.af.sh,.int .i64 n.af.c,.int .i64 n.af.r,.bool n.af.ac,.bool n.af.ar,.slice A m c] 45));have dF:=ae hv;clear hN hok hhk hv;go_enter Tryz.func63,Tryz.ntmps63;go_upto_region 1 with (fail)
 generalize w.alloc (.cells #[.int .i64 n.kind,.int .i64 n.num,.string n.text,.string n.ref.sh,.int .i64 n.ref.c,.int .i64 n.ref.r,.bool n.ref.ac,.bool n.ref.ar,.string n.af.sh,.int .i64 n.af.c,.int .i64 n.af.r,.bool n.af.ac,.bool n.af.ar,.slice A m c] 45)=w1 at hx HB ⊢;generalize hb0:w.heap.size=b0 at hx ⊢;obtain⟨x0,x1,x2,x3,x4,x5,x6,x7,ay,aO,aL,aM,aN,aJ⟩:=hx.cells;have HX:=ae hx;clear hx;go_upto_region 2 with (go_at_call 92;((with_reducible refine(HF.o _ (dF.o.below HB.o)).mono ?_);rintro e w2 ⟨rfl,h1⟩;have bZ:=ae (HX.o.below h1 HX.o.lt);have HB2:=ae (HB.o.trans (h1.mono HB.o.size));clear h1))
 have hB3:Below w2.heap.size w2 (w2.alloc (.cells #[.int .i64 N.kind,.int .i64 N.num,.string N.text,.string N.ref.sh,.int .i64 N.ref.c,.int .i64 N.ref.r,.bool N.ref.ac,.bool N.ref.ar,.string N.af.sh,.int .i64 N.af.c,.int .i64 N.af.r,.bool N.af.ac,.bool N.af.ar,.slice none 0 0] 45)):=(ak _ _).alloc (aj _) _;have hy:az (w2.alloc (.cells #[.int .i64 N.kind,.int .i64 N.num,.string N.text,.string N.ref.sh,.int .i64 N.ref.c,.int .i64 N.ref.r,.bool N.ref.ac,.bool N.ref.ar,.string N.af.sh,.int .i64 N.af.c,.int .i64 N.af.r,.bool N.af.ac,.bool N.af.ar,.slice none 0 0] 45)) w2.heap.size N (.slice none 0 0):=az.new w2 N _;have eF:=ae (bZ.o.below hB3 bZ.o.lt);have HB3:=ae (HB2.o.trans (hB3.mono HB2.o.size));clear hB3 x0 x1 x2 x3 x4 x5 x6 x7 ay aO aL aM aN aJ;generalize hb3:w2.heap.size=b3 at hy ⊢;generalize w2.alloc (.cells #[.int .i64 N.kind,.int .i64 N.num,.string N.text,.string N.ref.sh,.int .i64 N.ref.c,.int .i64 N.ref.r,.bool N.ref.ac,.bool N.ref.ar,.string N.af.sh,.int .i64 N.af.c,.int .i64 N.af.r,.bool N.af.ac,.bool N.af.ar,.slice none 0 0] 45)=w3 at hy eF HB3 ⊢;clear hb3;have Af:=ae hy;clear hy;cases ok
 · obtain⟨x0,x1,x2,x3,x4,x5,x6,x7,ay,aO,aL,aM,aN,aJ⟩:=eF.o.cells
   have HR:=ae (show vF n m=false by rw[HI.o];rfl);exact absurd HR.o (by rw[dw.o];decide)
 have go1:=eF.o.cells;obtain⟨x0,x1,x2,x3,x4,x5,x6,x7,ay,aO,aL,aM,aN,aJ⟩:=go1;cases hk
 · have HR:=ae (show vF n m=false by rw[HI.o];rfl)
   exact absurd HR.o (by rw[dw.o];decide)
 by_cases bM:n.num=N.num;rotate_left
 · have HR:=ae (show vF n m=false by rw[HI.o,aS bM];rfl)
   exact absurd HR.o (by rw[dw.o];decide)
 have en:(n.num == N.num)=true:=bA.2 bM;by_cases htx:n.text=N.text;rotate_left
 · have HR:=ae (show vF n m=false by rw[HI.o,aQ bM,aS htx];rfl)
   exact absurd HR.o (by rw[dw.o];decide)
 have et:(n.text.toList == N.text.toList)=true:=by rw[htx];simp
 have HR:=ae (show vF n m=(ig n.ref N.ref&&ig n.af N.af)by rw[HI.o,aQ bM,aQ htx];rfl);have hq:=HR.o;rw[dw.o]at hq;have hq2:=hq.symm;rw[dH,D8,D8]at hq2;obtain⟨q1,q2⟩:=hq2;clear hq;have r00:(n.ref.sh.toList == n.ref.sh.toList)=true:=beq_self_eq_true _;have s00:N.ref.sh.toList=n.ref.sh.toList:=by rw[q1]
 have r01:(n.ref.c == n.ref.c)=true:=beq_self_eq_true _;have s01:N.ref.c=n.ref.c:=by rw[q1]
 have r02:(n.ref.r == n.ref.r)=true:=beq_self_eq_true _;have s02:N.ref.r=n.ref.r:=by rw[q1]
 have r03:(n.ref.ac == n.ref.ac)=true:=beq_self_eq_true _;have s03:N.ref.ac=n.ref.ac:=by rw[q1]
 have r04:(n.ref.ar == n.ref.ar)=true:=beq_self_eq_true _;have s04:N.ref.ar=n.ref.ar:=by rw[q1]
 have r10:(n.af.sh.toList == n.af.sh.toList)=true:=beq_self_eq_true _;have s10:N.af.sh.toList=n.af.sh.toList:=by rw[q2]
 have r11:(n.af.c == n.af.c)=true:=beq_self_eq_true _;have s11:N.af.c=n.af.c:=by rw[q2]
 have r12:(n.af.r == n.af.r)=true:=beq_self_eq_true _;have s12:N.af.r=n.af.r:=by rw[q2]
 have r13:(n.af.ac == n.af.ac)=true:=beq_self_eq_true _;have s13:N.af.ac=n.af.ac:=by rw[q2]
 have r14:(n.af.ar == n.af.ar)=true:=beq_self_eq_true _;have s14:N.af.ar=n.af.ar:=by rw[q2]
 clear q1 q2;clear bM htx;go_wp2_with (go_at_call 93;((with_reducible refine(HH.o _).mono ?_);rintro e w4 ⟨rfl,h1⟩;have dC:=ae (HB3.o.trans (h1.mono HB3.o.size));obtain⟨z0,z1,z2,z3,z4,z5,z6,z7,Df,z9,Dc,De,z12,Fg⟩:=(eF.o.below h1 eF.o.lt).cells;obtain⟨y0,y1,y2,y3,y4,fQ,y6,mG,oC,vV,vS,vT,vU,y13⟩:=(Af.o.below h1 Af.o.lt).cells;clear h1))
 all_goals go_ret
 all_goals exact⟨rfl,dC.o⟩
theorem Uq (w:World)(v:Value)(vs:List (Nd × Value))(hv:Vars w)(h:fI w w.heap.size v vs)(hz:SZ vs)(cB:cO (vs.map (·.1))=true):Calls Tryz.prog 37 #[v] w fun e w'=>e = .returned (.bool true)∧Below w.heap.size w w':=by
 obtain⟨⟨A,cap,rfl,hat⟩,vz⟩:=h;obtain⟨hlen,hsz⟩:=hz;obtain⟨nl,hnl⟩:∃nl,vs.length=nl:=⟨_,rfl⟩;rw[hnl]at hlen ⊢;have dw:=ae cB;clear cB;have dF:=ae hv;have HAT:=ae hat;have Du:=ae vz;have o5:=ae hsz;have jF:=ae hnl;obtain⟨eb,kz,dh⟩:=Elem.kid;have kv:=ae dh;clear hv hat vz hsz hnl dh;go_enter Tryz.func37,Tryz.ntmps37;go_upto_region 3 with (fail)
 go_loopw [3,9] (fun rv iv wr=>∃(i:Nat)(st:List Int)(rk:Value),i≤nl∧st.length≤i∧rk=rv∧iv = .int .i64 (i:Int)∧Hid (cO (vs.map (·.1))=nM st i ((vs.map (·.1)).drop i))∧Hid (Own (aI .i64) 3 wr w.heap.size rk st)∧Hid (Below w.heap.size w wr))
  (fun _ iv _=>nl - (intOf iv).toNat)
 case atStart=>exact⟨0,[],.slice none 0 0,eP _,aj _,rfl,rfl,ae rfl,ae (Own.nil _ _ _ _),ae (ak _ _)⟩
 case round =>
  obtain⟨i,st,rk,hi,hsi,rfl,rfl,HT,HO,HB⟩:=hrel;by_cases hlt:i<nl
  · have hii:(i:Int)<(nl:Int):=by omega
    obtain⟨⟨n,k⟩,hnk⟩:∃q,vs[i]? = some q:=⟨_,dL (by rw[jF.o];exact hlt)⟩;have di:=fT hnk;obtain⟨hz1,hz2,hz3⟩:=o5.o _ di;have HZ1:=ae hz1;have HZ2:=ae hz2;have HZ3:=ae hz3;clear hz1 hz2 hz3;have q9:iM w w.heap.size k n.kids:=Du.o _ di;obtain⟨aW,ck,hk,hkc,dM,_⟩:=id q9;obtain⟨m,hm⟩:∃m,n.kids.length=m:=⟨_,rfl⟩;rw[hm]at hk hkc;subst hk;have hmm:m≤maxLen:=bO hkc dM;have hmx:m≤9223372036854775807:=by unfold maxLen at hmm;omega
    have FC:=ae hmm;have HM:=ae hm;have lL:=ae q9
    have HD:=ae (show(vs.map (·.1)).drop i=n :: (vs.map (·.1)).drop (i+1)by
     have hl:i<(vs.map (·.1)).length:=by rw[eB,jF.o];exact hlt
     rw[List.drop_eq_getElem_cons hl];congr 1;have h1:(vs.map (·.1))[i]? = some n:=by rw[gN,hnk];rfl
     rw[dL hl]at h1;exact dU h1)
    rcases HAT.o with e|⟨pb,po,rfl,hpb,vw⟩
    · exfalso;rw[e]at hnk;simp at hnk
    have hcell:=vw i n _ hnk;have k0:wr.cell? ⟨pb,po+i*14,none⟩=some (.int .i64 n.kind):=(HB.o.cell (p:=⟨pb,po+i*14,none⟩) hpb).trans (hcell 0 (by omega));have k1:wr.cell? ⟨pb,po+i*14+1,none⟩=some (.int .i64 n.num):=(HB.o.cell (p:=⟨pb,po+i*14+1,none⟩) hpb).trans (hcell 1 (by omega));have k2:wr.cell? ⟨pb,po+i*14+2,none⟩=some (.string n.text):=(HB.o.cell (p:=⟨pb,po+i*14+2,none⟩) hpb).trans (hcell 2 (by omega));have k3:wr.cell? ⟨pb,po+i*14+3,none⟩=some (.string n.ref.sh):=(HB.o.cell (p:=⟨pb,po+i*14+3,none⟩) hpb).trans (hcell 3 (by omega));have k4:wr.cell? ⟨pb,po+i*14+4,none⟩=some (.int .i64 n.ref.c):=(HB.o.cell (p:=⟨pb,po+i*14+4,none⟩) hpb).trans (hcell 4 (by omega));have k5:wr.cell? ⟨pb,po+i*14+5,none⟩=some (.int .i64 n.ref.r):=(HB.o.cell (p:=⟨pb,po+i*14+5,none⟩) hpb).trans (hcell 5 (by omega));have k6:wr.cell? ⟨pb,po+i*14+6,none⟩=some (.bool n.ref.ac):=(HB.o.cell (p:=⟨pb,po+i*14+6,none⟩) hpb).trans (hcell 6 (by omega));have k7:wr.cell? ⟨pb,po+i*14+7,none⟩=some (.bool n.ref.ar):=(HB.o.cell (p:=⟨pb,po+i*14+7,none⟩) hpb).trans (hcell 7 (by omega));have k8:wr.cell? ⟨pb,po+i*14+8,none⟩=some (.string n.af.sh):=(HB.o.cell (p:=⟨pb,po+i*14+8,none⟩) hpb).trans (hcell 8 (by omega));have k9:wr.cell? ⟨pb,po+i*14+9,none⟩=some (.int .i64 n.af.c):=(HB.o.cell (p:=⟨pb,po+i*14+9,none⟩) hpb).trans (hcell 9 (by omega));have k10:wr.cell? ⟨pb,po+i*14+10,none⟩=some (.int .i64 n.af.r):=(HB.o.cell (p:=⟨pb,po+i*14+10,none⟩) hpb).trans (hcell 10 (by omega));have k11:wr.cell? ⟨pb,po+i*14+11,none⟩=some (.bool n.af.ac):=(HB.o.cell (p:=⟨pb,po+i*14+11,none⟩) hpb).trans (hcell 11 (by omega));have k12:wr.cell? ⟨pb,po+i*14+12,none⟩=some (.bool n.af.ar):=(HB.o.cell (p:=⟨pb,po+i*14+12,none⟩) hpb).trans (hcell 12 (by omega));have k13:wr.cell? ⟨pb,po+i*14+13,none⟩=some (.slice aW m ck):=(HB.o.cell (p:=⟨pb,po+i*14+13,none⟩) hpb).trans (hcell 13 (by omega));clear hcell vw hnk di q9 hm hkc dM hmm;have hL:st.length≤1000:=by omega
    rcases HO.o.shape with ⟨rfl,hst⟩|⟨rg,wS,rfl,hrg,hrl,hrc,hrm⟩
    · have abu:st.length=0:=by rw[hst];rfl
      by_cases hm0:m=0;rotate_left
      · have xX : -(m:Int)<0:=by omega
        have qp:¬ m≤st.length:=by omega
        have HT2:=ae (show cO (vs.map (·.1))=false by rw[HT.o,HD.o,nN,HM.o,aS qp,Bool.false_and,Bool.and_false]);exact absurd HT2.o (by rw[dw.o];decide)
      subst hm0;have HST:=ae hst;clear hst abu;have hB3:Below wr.heap.size wr (wr.alloc (.cells #[.int .i64 n.kind,.int .i64 n.num,.string n.text,.string n.ref.sh,.int .i64 n.ref.c,.int .i64 n.ref.r,.bool n.ref.ac,.bool n.ref.ar,.string n.af.sh,.int .i64 n.af.c,.int .i64 n.af.r,.bool n.af.ac,.bool n.af.ar,.slice aW 0 ck] 45)):=(ak _ _).alloc (aj _) _;have aF:az (wr.alloc (.cells #[.int .i64 n.kind,.int .i64 n.num,.string n.text,.string n.ref.sh,.int .i64 n.ref.c,.int .i64 n.ref.r,.bool n.ref.ac,.bool n.ref.ar,.string n.af.sh,.int .i64 n.af.c,.int .i64 n.af.r,.bool n.af.ac,.bool n.af.ar,.slice aW 0 ck] 45)) wr.heap.size n (.slice aW 0 ck):=az.new wr n _;have HB3:=ae (HB.o.trans (hB3.mono HB.o.size));have gQ:=ae (HO.o.alloc (.cells #[.int .i64 n.kind,.int .i64 n.num,.string n.text,.string n.ref.sh,.int .i64 n.ref.c,.int .i64 n.ref.r,.bool n.ref.ac,.bool n.ref.ar,.string n.af.sh,.int .i64 n.af.c,.int .i64 n.af.r,.bool n.af.ac,.bool n.af.ar,.slice aW 0 ck] 45));clear hB3;go_upto_region 6 with (fail)
      generalize hb3:wr.heap.size=b3 at aF ⊢;generalize wr.alloc (.cells #[.int .i64 n.kind,.int .i64 n.num,.string n.text,.string n.ref.sh,.int .i64 n.ref.c,.int .i64 n.ref.r,.bool n.ref.ac,.bool n.ref.ar,.string n.af.sh,.int .i64 n.af.c,.int .i64 n.af.r,.bool n.af.ac,.bool n.af.ar,.slice aW 0 ck] 45)=w3 at aF HB3 gQ ⊢;clear hb3 k0 k1 k2 k3 k4 k5 k6 k7 k8 k9 k10 k11 k12 k13 HO;have aF:=ae aF;obtain⟨f,hf⟩:∃f,st.length - 0=f:=⟨_,rfl⟩;have qp:0≤st.length:=eP _;have En:f≤st.length:=by omega
      have gy:=ae (show ∀W,Below w3.heap.size w3 W→iM W w3.heap.size (.slice none 0 0) (st.drop f)from fun W hW=>⟨none,0,by rw[HST.o];simp,by rw[HST.o];simp,by unfold maxLen;omega,.inl (by rw[HST.o];simp)⟩);have JX:=ae (lL.o.below HB3.o (aj _));by_cases hdk:st.drop f=n.kids;rotate_left
      · have HT2:=ae (show cO (vs.map (·.1))=false by rw[HT.o,HD.o,nN,HM.o,hf,aS hdk,Bool.false_and,Bool.and_false,Bool.and_false])
        exact absurd HT2.o (by rw[dw.o];decide)
      have yE:=ae (show ∀W,Below w3.heap.size w3 W→Calls Tryz.prog 62 #[.slice none 0 0,.slice aW 0 ck] W fun e w'=>e = .returned (.bool true)∧Below W.heap.size W w' from fun W hW=>by
       have:=Qq W w3.heap.size _ _ _ _ (gy.o W hW) ((JX.o.mono HB3.o.size).below hW (aj _));rw[aQ hdk]at this;exact this)
      have HDK:=ae hdk;cases hnb:dm n
      · have HT2:=ae (show cO (vs.map (·.1))=false by rw[HT.o,HD.o,nN,hnb,Bool.false_and])
        exact absurd HT2.o (by rw[dw.o];decide)
      · have HT2:=ae (show cO (vs.map (·.1))=nM (st.take f++[(i:Int)]) (i+1) ((vs.map (·.1)).drop (i+1))by rw[HT.o,HD.o,nN,hnb,HM.o,aQ qp,hf,aQ hdk,gL,gL,gL])
        have eu:=ae (show ∀W,Below w3.heap.size w3 W→Calls Tryz.prog 63 #[.agg #[.int .i64 n.kind,.int .i64 n.num,.string n.text,.string n.ref.sh,.int .i64 n.ref.c,.int .i64 n.ref.r,.bool n.ref.ac,.bool n.ref.ar,.string n.af.sh,.int .i64 n.af.c,.int .i64 n.af.r,.bool n.af.ac,.bool n.af.ar,.slice aW 0 ck]] W fun e w'=>e = .returned (.bool true)∧Below W.heap.size W w' from fun W hW=>by
         exact Sd W n (dF.o.below (HB3.o.trans (hW.mono HB3.o.size))) HZ1.o HZ2.o HZ3.o aW 0 ck FC.o (by rw[← HM.o,Sc,hnb]))
        clear qp hdk hnb;refine wp_region_held_drew (S:=fun W=>Below w3.heap.size w3 W) (by kernel_rfl) (Below.drew (ak w3.heap.size w3)) (fun _ => ?_);show wpAnyH _ _ _ _ _ 16 #[false,false,false,false,false,false,false,false,false,false,false,false,false,false,false,false] _ _;refine hT 0 (Below.drew (ak w3.heap.size w3)) ?_;refine hT 1 (Below.drew (ak w3.heap.size w3)) ?_;refine hT 2 (Below.drew (ak w3.heap.size w3)) ?_;refine hT 3 (Below.drew (ak w3.heap.size w3)) ?_;refine hT 4 (Below.drew (ak w3.heap.size w3)) ?_;refine hT 5 (Below.drew (ak w3.heap.size w3)) ?_;refine hT 6 (Below.drew (ak w3.heap.size w3)) ?_;refine hT 7 (Below.drew (ak w3.heap.size w3)) ?_ (hy:=by(intro iE hSw;have hz:=(aF.o.below hSw aF.o.lt).cells;go_simp;try(with_reducible rfl)));refine hO 8 (fun K hK => ?_);go_simp;refine(yE.o _ (Below.drew (ak w3.heap.size w3))).mono ?_;rintro e w4 ⟨rfl,h1⟩;have HE:=ae ((Below.drew (ak w3.heap.size w3)).trans h1);clear h1;go_wp2_with fail
        refine hK.o _ _ HE.o ?_;clear hK K;simp only[Act.put,sT,gD,gB];refine hT 9 HE.o ?_;refine hT 10 HE.o ?_;refine hT 11 HE.o ?_;refine hT 12 HE.o ?_ (hy:=by(intro iE hSw;have hz:=(aF.o.below hSw aF.o.lt).cells;go_simp;try(with_reducible rfl)));refine hO 13 (fun K hK => ?_);go_simp;refine(eu.o _ HE.o).mono ?_;rintro e w5 ⟨rfl,h1⟩;have HF:=ae (HE.o.trans (h1.mono HE.o.size));clear h1;go_wp2_with fail
        refine hK.o _ _ HF.o ?_;clear hK K;simp only[Act.put,sT,gD,gB];refine hT 14 HF.o ?_;refine hT 15 HF.o ?_;refine wpAnyH_done (by kernel_rfl) ?_ _;have eD:=ae (HB3.o.trans (HF.o.mono HB3.o.size));have wm:=ae (gQ.o.below HF.o (aj _));have ze:(st.take f).length≤1000:=by rw[gX];omega
        go_wp2_with (at_builtin;refine ow kv.o (aI .i64) rfl (.tmp 38) (.tmp 40) rfl w.heap.size (.slice none 0 0) (st.take f) rfl ((show Own (aI .i64) 3 w5 w.heap.size (.slice none 0 0) (st.take f)from by rw[HST.o,List.take_nil];exact Own.nil _ _ _ _).alloc _) ⟨w5.heap.size,0,none⟩ 1 1 [(i:Int)] rfl rfl ?_ ?_ ?_ ?_ ?_;exact ic _ _ _ rfl;exact bO (Nat.mul_le_mul_left _ kz) (by omega);(unfold maxLen;omega);(have:=eD.o.size;simp <;> omega);intro ru w6 h1 h2;have pY:=ae h1;have oU:=ae (((eD.o.alloc eD.o.size _)).trans h2);clear h1 h2)
        go_roundw
        case rel=>exact⟨i+1,st.take f++[(i:Int)],ru,by omega,by rw[av,gX,fE];omega,rfl,by go_num,HT2,pY,oU⟩
        case measure=>simp[intOf];omega
    · skip
      by_cases qp:m≤st.length;rotate_left
      · have xX:(st.length:Int) - (m:Int)<0:=by omega
        have HT2:=ae (show cO (vs.map (·.1))=false by rw[HT.o,HD.o,nN,HM.o,aS qp,Bool.false_and,Bool.and_false]);exact absurd HT2.o (by rw[dw.o];decide)
      obtain⟨f,hf⟩:∃f,st.length - m=f:=⟨_,rfl⟩;have hw1 : -9223372036854775808≤(st.length:Int) - (m:Int):=by omega
      have hw2:(st.length:Int) - (m:Int)≤9223372036854775807:=by omega
      have hfi:(st.length:Int) - (m:Int)=(f:Int):=by omega
      have hfn:¬ (f:Int)<0:=by omega
      have hf0:(0:Int)≤(f:Int):=by omega
      have hfl:(f:Int)≤(st.length:Int):=by omega
      have En:f≤st.length:=by omega
      have hB3:Below wr.heap.size wr (wr.alloc (.cells #[.int .i64 n.kind,.int .i64 n.num,.string n.text,.string n.ref.sh,.int .i64 n.ref.c,.int .i64 n.ref.r,.bool n.ref.ac,.bool n.ref.ar,.string n.af.sh,.int .i64 n.af.c,.int .i64 n.af.r,.bool n.af.ac,.bool n.af.ar,.slice aW m ck] 45)):=(ak _ _).alloc (aj _) _;have aF:az (wr.alloc (.cells #[.int .i64 n.kind,.int .i64 n.num,.string n.text,.string n.ref.sh,.int .i64 n.ref.c,.int .i64 n.ref.r,.bool n.ref.ac,.bool n.ref.ar,.string n.af.sh,.int .i64 n.af.c,.int .i64 n.af.r,.bool n.af.ac,.bool n.af.ar,.slice aW m ck] 45)) wr.heap.size n (.slice aW m ck):=az.new wr n _;have HB3:=ae (HB.o.trans (hB3.mono HB.o.size));have gQ:=ae (HO.o.alloc (.cells #[.int .i64 n.kind,.int .i64 n.num,.string n.text,.string n.ref.sh,.int .i64 n.ref.c,.int .i64 n.ref.r,.bool n.ref.ac,.bool n.ref.ar,.string n.af.sh,.int .i64 n.af.c,.int .i64 n.af.r,.bool n.af.ac,.bool n.af.ar,.slice aW m ck] 45));clear hB3;go_upto_region 6 with (fail)
      generalize hb3:wr.heap.size=b3 at aF ⊢;generalize wr.alloc (.cells #[.int .i64 n.kind,.int .i64 n.num,.string n.text,.string n.ref.sh,.int .i64 n.ref.c,.int .i64 n.ref.r,.bool n.ref.ac,.bool n.ref.ar,.string n.af.sh,.int .i64 n.af.c,.int .i64 n.af.r,.bool n.af.ac,.bool n.af.ar,.slice aW m ck] 45)=w3 at aF HB3 gQ ⊢;clear hb3 k0 k1 k2 k3 k4 k5 k6 k7 k8 k9 k10 k11 k12 k13 HO;have aF:=ae aF;have ajy:(f:Int)≤(wS:Int):=by omega
      obtain⟨AT,KQ⟩:∃AT,(if wS=f then some (⟨rg,0,none⟩:Addr)else some ⟨rg,f,none⟩)=AT:=⟨_,rfl⟩;have gy:=ae (show ∀W,Below w3.heap.size w3 W→iM W w3.heap.size (.slice AT (st.length - f) (wS - f)) (st.drop f)from fun W hW=>by rw[← KQ];exact(iM.tail gQ.o f En hrc hrm (by have:=(gQ.o.kP rg rfl).2.1;exact this)).below hW (aj _));have JX:=ae (lL.o.below HB3.o (aj _));by_cases hdk:st.drop f=n.kids;rotate_left
      · have HT2:=ae (show cO (vs.map (·.1))=false by rw[HT.o,HD.o,nN,HM.o,hf,aS hdk,Bool.false_and,Bool.and_false,Bool.and_false])
        exact absurd HT2.o (by rw[dw.o];decide)
      have yE:=ae (show ∀W,Below w3.heap.size w3 W→Calls Tryz.prog 62 #[.slice AT (st.length - f) (wS - f),.slice aW m ck] W fun e w'=>e = .returned (.bool true)∧Below W.heap.size W w' from fun W hW=>by
       have:=Qq W w3.heap.size _ _ _ _ (gy.o W hW) ((JX.o.mono HB3.o.size).below hW (aj _));rw[aQ hdk]at this;exact this)
      have HDK:=ae hdk;cases hnb:dm n
      · have HT2:=ae (show cO (vs.map (·.1))=false by rw[HT.o,HD.o,nN,hnb,Bool.false_and])
        exact absurd HT2.o (by rw[dw.o];decide)
      · have HT2:=ae (show cO (vs.map (·.1))=nM (st.take f++[(i:Int)]) (i+1) ((vs.map (·.1)).drop (i+1))by rw[HT.o,HD.o,nN,hnb,HM.o,aQ qp,hf,aQ hdk,gL,gL,gL])
        have eu:=ae (show ∀W,Below w3.heap.size w3 W→Calls Tryz.prog 63 #[.agg #[.int .i64 n.kind,.int .i64 n.num,.string n.text,.string n.ref.sh,.int .i64 n.ref.c,.int .i64 n.ref.r,.bool n.ref.ac,.bool n.ref.ar,.string n.af.sh,.int .i64 n.af.c,.int .i64 n.af.r,.bool n.af.ac,.bool n.af.ar,.slice aW m ck]] W fun e w'=>e = .returned (.bool true)∧Below W.heap.size W w' from fun W hW=>by
         exact Sd W n (dF.o.below (HB3.o.trans (hW.mono HB3.o.size))) HZ1.o HZ2.o HZ3.o aW m ck FC.o (by rw[← HM.o,Sc,hnb]))
        clear qp hdk hnb;refine wp_region_held_drew (S:=fun W=>Below w3.heap.size w3 W) (by kernel_rfl) (Below.drew (ak w3.heap.size w3)) (fun _ => ?_);show wpAnyH _ _ _ _ _ 16 #[false,false,false,false,false,false,false,false,false,false,false,false,false,false,false,false] _ _;refine hT 0 (Below.drew (ak w3.heap.size w3)) ?_;refine hT 1 (Below.drew (ak w3.heap.size w3)) ?_;refine hT 2 (Below.drew (ak w3.heap.size w3)) ?_;refine hT 3 (Below.drew (ak w3.heap.size w3)) ?_;refine hT 4 (Below.drew (ak w3.heap.size w3)) ?_;refine hT 5 (Below.drew (ak w3.heap.size w3)) ?_;refine hT 6 (Below.drew (ak w3.heap.size w3)) ?_;refine hT 7 (Below.drew (ak w3.heap.size w3)) ?_ (hy:=by(intro iE hSw;have hz:=(aF.o.below hSw aF.o.lt).cells;go_simp;try(with_reducible rfl)));refine hO 8 (fun K hK => ?_);go_simp;refine(yE.o _ (Below.drew (ak w3.heap.size w3))).mono ?_;rintro e w4 ⟨rfl,h1⟩;have HE:=ae ((Below.drew (ak w3.heap.size w3)).trans h1);clear h1;go_wp2_with fail
        refine hK.o _ _ HE.o ?_;clear hK K;simp only[Act.put,sT,gD,gB];refine hT 9 HE.o ?_;refine hT 10 HE.o ?_;refine hT 11 HE.o ?_;refine hT 12 HE.o ?_ (hy:=by(intro iE hSw;have hz:=(aF.o.below hSw aF.o.lt).cells;go_simp;try(with_reducible rfl)));refine hO 13 (fun K hK => ?_);go_simp;refine(eu.o _ HE.o).mono ?_;rintro e w5 ⟨rfl,h1⟩;have HF:=ae (HE.o.trans (h1.mono HE.o.size));clear h1;go_wp2_with fail
        refine hK.o _ _ HF.o ?_;clear hK K;simp only[Act.put,sT,gD,gB];refine hT 14 HF.o ?_;refine hT 15 HF.o ?_;refine wpAnyH_done (by kernel_rfl) ?_ _;have eD:=ae (HB3.o.trans (HF.o.mono HB3.o.size));have wm:=ae (gQ.o.below HF.o (aj _));have ze:(st.take f).length≤1000:=by rw[gX];omega
        go_wp2_with (at_builtin;refine ow kv.o (aI .i64) rfl (.tmp 38) (.tmp 40) rfl w.heap.size (.slice (some ⟨rg,0,none⟩) f wS) (st.take f) rfl ((Ub wm.o f En).alloc _) ⟨w5.heap.size,0,none⟩ 1 1 [(i:Int)] rfl rfl ?_ ?_ ?_ ?_ ?_;exact ic _ _ _ rfl;exact bO (Nat.mul_le_mul_left _ kz) (by omega);(unfold maxLen;omega);(have:=eD.o.size;simp <;> omega);intro ru w6 h1 h2;have pY:=ae h1;have oU:=ae (((eD.o.alloc eD.o.size _)).trans h2);clear h1 h2)
        go_roundw
        case rel=>exact⟨i+1,st.take f++[(i:Int)],ru,by omega,by rw[av,gX,fE];omega,rfl,by go_num,HT2,pY,oU⟩
        case measure=>simp[intOf];omega
  · have hii:¬ (i:Int)<(nl:Int):=by omega
    have hin:i=nl:=by omega
    have HT2:=ae (show cO (vs.map (·.1))=decide (st.length=1)by
     rw[HT.o,List.drop_of_length_le (by rw[eB,jF.o];omega)];rfl)
    rcases HO.o.shape with ⟨rfl,hst⟩|⟨rg,wS,rfl, -⟩
    · rw[hst]at HT2
      exact absurd HT2.o (by rw[dw.o];decide)
    · by_cases h1:st.length=1
      · have h1i:((st.length:Int) == 1)=true:=by rw[bA];omega
        clear h1 HT2;go_wp2_with fail
        go_ret;exact⟨rfl,HB.o⟩
      · rw[aS h1,dw.o]at HT2
        exact absurd HT2.o (by decide)
theorem vL (c:Int)(_h0:0≤c)(_h1:c≤255)(w:World) :
 Calls Tryz.prog 73 #[.int .u8 c] w fun e w'=>e = .returned (.bool (aP c))∧w=w':=by
 go_enter Tryz.func73,Tryz.ntmps73
 go_wp2
 all_goals go_ret
 all_goals exact⟨gq (by unfold aP;first|rfl|(symm;rw[aK];omega)|(symm;rw[jq];omega)|(rw[decide_eq_decide];omega)),rfl⟩
theorem jC (c:Int)(_h0:0≤c)(_h1:c≤255)(w:World) :
 Calls Tryz.prog 75 #[.int .u8 c] w fun e w'=>e = .returned (.bool (isNum c))∧w=w':=by
 go_enter Tryz.func75,Tryz.ntmps75
 go_wp2
 all_goals go_ret
 all_goals exact⟨gq (by unfold isNum;first|rfl|(symm;rw[aK];omega)|(symm;rw[jq];omega)|(rw[decide_eq_decide];omega)),rfl⟩
theorem pJ (c:Int)(_h0:0≤c)(_h1:c≤255)(w:World) :
 Calls Tryz.prog 79 #[.int .u8 c] w fun e w'=>e = .returned (.bool (isLet c))∧w=w':=by
 go_enter Tryz.func79,Tryz.ntmps79
 go_wp2
 all_goals go_ret
 all_goals exact⟨gq (by unfold isLet;first|rfl|(rw[Bool.eq_iff_iff];simp only[Bool.or_eq_true,aK];omega)|(symm;rw[aK];omega)|(symm;rw[jq];omega)|(rw[decide_eq_decide];omega)),rfl⟩
theorem UC (s:ByteArray)(w:World)(_hs:s.size≤1000000) :
 Calls Tryz.prog 76 #[.string s] w fun e w'=>e = .returned (.bool (iH (sb s)))∧w=w':=by
 go_enter Tryz.func76,Tryz.ntmps76
 go_wp2
 go_loopw [3] (fun i wr=>∃k:Nat,k≤s.size∧i = .int .i64 k∧Hid (∀j,j<k→nY j ((sb s).getD j 0)=true)∧w=wr)
  (fun i _=>s.size - (intOf i).toNat)
 case atStart=>exact⟨0,by omega,rfl,ae (fun j hj=>absurd hj (by omega)),rfl⟩
 case round =>
  obtain⟨k,hk,rfl,HG,rfl⟩:=hrel;by_cases hlt:k<s.size
  · have hki:(k:Int)<(s.size:Int):=by omega
    obtain⟨a,ha⟩:∃a:Int,(s[k].toNat:Int)=a:=⟨_,rfl⟩;have ha1:0≤a∧a≤255:=by have:=s[k].toNat_lt;omega
    have hga:(sb s).getD k 0=a:=by rw[uz s k hlt,ha]
    have zX:=ae hga;clear hga;by_cases hl:isLet a=true
    · go_wp2_with (first
       | (go_at_call 79;((with_reducible refine(pJ _ ?_ ?_ _).mono ?_);(first|omega|skip);(first|omega|skip);rintro e w' ⟨rfl,rfl⟩)))
      go_roundw
      case rel =>
       refine⟨k+1,by omega,by go_num,ae ?_,by trivial⟩;intro j hj;by_cases h1:j<k
       · exact HG.o j h1
       · rw[show j=k from by omega,zX.o];unfold nY;rw[hl,Bool.true_or]
      case measure=>simp[intOf];omega
    · have hl':isLet a=false:=by simpa using hl
      clear hl;by_cases hn:isNum a=true
      · by_cases hk0:0<k
        · have hk1:(0:Int)<(k:Int):=by omega
          go_wp2_with (first
           | (go_at_call 79;((with_reducible refine(pJ _ ?_ ?_ _).mono ?_);(first|omega|skip);(first|omega|skip);rintro e w' ⟨rfl,rfl⟩))
           | (go_at_call 75;((with_reducible refine(jC _ ?_ ?_ _).mono ?_);(first|omega|skip);(first|omega|skip);rintro e w' ⟨rfl,rfl⟩)))
          go_roundw
          case rel =>
           refine⟨k+1,by omega,by go_num,ae ?_,by trivial⟩;intro j hj;by_cases h1:j<k
           · exact HG.o j h1
           · rw[show j=k from by omega,zX.o];unfold nY;rw[hl',hn,aQ hk0];rfl
          case measure=>simp[intOf];omega
        · have hk1:¬ (0:Int)<(k:Int):=by omega
          have hno:=Hf s k hlt (by rw[zX.o];unfold nY;rw[hl',aS hk0];rfl);have eu:=ae hno;clear hno
          go_wp2_with (first
           | (go_at_call 79;((with_reducible refine(pJ _ ?_ ?_ _).mono ?_);(first|omega|skip);(first|omega|skip);rintro e w' ⟨rfl,rfl⟩)))
          go_ret;exact⟨gq eu.o.symm,rfl⟩
      · have hn':isNum a=false:=by simpa using hn
        clear hn;have hno:=Hf s k hlt (by rw[zX.o];unfold nY;rw[hl',hn',Bool.and_false];rfl);have eu:=ae hno;clear hno
        go_wp2_with (first
         | (go_at_call 79;((with_reducible refine(pJ _ ?_ ?_ _).mono ?_);(first|omega|skip);(first|omega|skip);rintro e w' ⟨rfl,rfl⟩))
         | (go_at_call 75;((with_reducible refine(jC _ ?_ ?_ _).mono ?_);(first|omega|skip);(first|omega|skip);rintro e w' ⟨rfl,rfl⟩)))
        all_goals go_ret
        all_goals exact⟨gq eu.o.symm,rfl⟩
  · have hki:¬ (k:Int)<(s.size:Int):=by omega
    have hno:=TF s (fun j hj=>HG.o j (by omega));have eu:=ae hno;clear hno
    go_wp2
    all_goals go_ret
    all_goals exact⟨gq (by rw[eu.o];first|(symm;rw[aK];omega)|(symm;rw[jq];omega)|(rw[decide_eq_decide];omega)),rfl⟩
theorem afw (s:ByteArray)(w:World)(_hs:s.size≤1000000) :
 Calls Tryz.prog 74 #[.string s] w fun e w'=>e = .returned (.tuple #[.int .i64 (lY (sb s)),.bool (jy (sb s))])∧∃n,w'=w.drewN n:=by
 by_cases hl:1≤s.size∧s.size≤2
 · by_cases h1:s.size=1
   · have hp0:0<s.size:=by omega
     obtain⟨a,ha⟩:∃a:Int,(s[0].toNat:Int)=a:=⟨_,rfl⟩;have ha1:0≤a∧a≤255:=by have:=s[0].toNat_lt;omega
     have hg0:(sb s).getD 0 0=a:=by rw[uz s 0 hp0,ha]
     have hic:jy (sb s)=aP a:=by unfold jy;rw[bz,h1,hg0,Bool.and_self];rfl
     have hrc:lY (sb s)=if aP a=true then a - 65 else 0:=by unfold lY;rw[hic,bz,h1,hg0];rfl
     have yG:=ae hic;clear hic;have wu:=ae hrc;clear hrc;have hz1:(s.size:Int)=1:=by omega
     clear hl hg0;by_cases hc:aP a=true
     · have hr:65≤a∧a≤90:=by unfold aP at hc;rw[aK]at hc;exact hc
       go_enter Tryz.func74,Tryz.ntmps74
       go_wp2_with (first
        | (go_at_call 73;((with_reducible refine(vL _ ?_ ?_ _).mono ?_);(first|omega|skip);(first|omega|skip);rintro e w' ⟨rfl,rfl⟩)))
       all_goals go_ret2
       all_goals exact⟨by rw[yG.o,wu.o,hc];rfl,0,rfl⟩
     · have hc':aP a=false:=by simpa using hc
       clear hc;go_enter Tryz.func74,Tryz.ntmps74
       go_wp2_with (first
        | (go_at_call 73;((with_reducible refine(vL _ ?_ ?_ _).mono ?_);(first|omega|skip);(first|omega|skip);rintro e w' ⟨rfl,rfl⟩)))
       all_goals go_ret2
       all_goals exact⟨by rw[yG.o,wu.o,hc'];rfl,0,rfl⟩
   · have h2:s.size=2:=by omega
     have hp0:0<s.size:=by omega
     have hp1:1<s.size:=by omega
     obtain⟨a,ha⟩:∃a:Int,(s[0].toNat:Int)=a:=⟨_,rfl⟩;obtain⟨b,hb⟩:∃b:Int,(s[1].toNat:Int)=b:=⟨_,rfl⟩;have ha1:0≤a∧a≤255:=by have:=s[0].toNat_lt;omega
     have hb1:0≤b∧b≤255:=by have:=s[1].toNat_lt;omega
     have hg0:(sb s).getD 0 0=a:=by rw[uz s 0 hp0,ha]
     have hg1:(sb s).getD 1 0=b:=by rw[uz s 1 hp1,hb]
     have hic:jy (sb s)=(aP a&&aP b):=by unfold jy;rw[bz,h2,hg0,hg1];rfl
     have hrc:lY (sb s)=if (aP a&&aP b)=true then 26*(a - 64)+(b - 65)else 0:=by unfold lY;rw[hic,bz,h2,hg0,hg1];rfl
     have yG:=ae hic;clear hic;have wu:=ae hrc;clear hrc;have hz1:(s.size:Int)=2:=by omega
     clear hl hg0 hg1 h1;by_cases hc:aP a=true
     · have hr:65≤a∧a≤90:=by unfold aP at hc;rw[aK]at hc;exact hc
       by_cases hd:aP b=true
       · have hr2:65≤b∧b≤90:=by unfold aP at hd;rw[aK]at hd;exact hd
         go_enter Tryz.func74,Tryz.ntmps74
         go_wp2_with (first
          | (go_at_call 73;((with_reducible refine(vL _ ?_ ?_ _).mono ?_);(first|omega|skip);(first|omega|skip);rintro e w' ⟨rfl,rfl⟩)))
         go_quiet (fail)
         go_wp2_with fail
         all_goals go_ret2
         all_goals exact⟨afS (by rw[wu.o,hc,hd];simp only[Bool.and_self,if_true];omega) (by rw[yG.o,hc,hd];rfl),_,rfl⟩
       · have hd':aP b=false:=by simpa using hd
         clear hd;go_enter Tryz.func74,Tryz.ntmps74
         go_wp2_with (first
          | (go_at_call 73;((with_reducible refine(vL _ ?_ ?_ _).mono ?_);(first|omega|skip);(first|omega|skip);rintro e w' ⟨rfl,rfl⟩)))
         all_goals go_ret2
         all_goals exact⟨by rw[yG.o,wu.o,hc,hd'];rfl,0,rfl⟩
     · have hc':aP a=false:=by simpa using hc
       clear hc;go_enter Tryz.func74,Tryz.ntmps74
       go_wp2_with (first
        | (go_at_call 73;((with_reducible refine(vL _ ?_ ?_ _).mono ?_);(first|omega|skip);(first|omega|skip);rintro e w' ⟨rfl,rfl⟩)))
       all_goals go_ret2
       all_goals exact⟨by rw[yG.o,wu.o,hc'];rfl,0,rfl⟩
 · have hno:jy (sb s)=false:=by unfold jy;rw[bz,aS hl,Bool.false_and]
   have hn2:lY (sb s)=0:=by unfold lY;rw[hno];rfl
   have eu:=ae hno;clear hno;have cZ:=ae hn2;clear hn2;go_enter Tryz.func74,Tryz.ntmps74
   go_wp2
   all_goals first|omega|skip
   all_goals go_ret2
   all_goals exact⟨by rw[eu.o,cZ.o];rfl,0,rfl⟩
theorem Nb (w:World)(t:TypeId)(x:Int):(convert 22 9 (.slice (some ⟨w.heap.size,0,none⟩) 1 1)).run Tryz.prog (w.alloc (.cells #[.int .u8 x] t)) = .ok (.string (strOfNums [x])) (w.alloc (.cells #[.int .u8 x] t)):=by
 refine run_convert_bytes_arg _ _ 5 Tryz.underlying22 Tryz.underlying5 _ 0 _ 1 [x] rfl (fun i hi => ?_) _ Tryz.underlying9;rw[Nat.zero_add];have:i=0:=by simp at hi;exact hi
 subst this;exact ic (w:=w) _ _ [.int .u8 x] rfl 0 _ rfl
theorem agh (w:World)(t:TypeId)(x y:Int):(convert 22 9 (.slice (some ⟨w.heap.size,0,none⟩) 2 2)).run Tryz.prog (w.alloc (.cells #[.int .u8 x,.int .u8 y] t)) = .ok (.string (strOfNums [x,y])) (w.alloc (.cells #[.int .u8 x,.int .u8 y] t)):=by
 refine run_convert_bytes_arg _ _ 5 Tryz.underlying22 Tryz.underlying5 _ 0 _ 2 [x,y] rfl (fun i hi => ?_) _ Tryz.underlying9;rw[Nat.zero_add];have h:i=0∨i=1:=by simp at hi;omega
 rcases h with rfl|rfl
 · exact ic (w:=w) _ _ [.int .u8 x,.int .u8 y] rfl 0 _ rfl
 · exact ic (w:=w) _ _ [.int .u8 x,.int .u8 y] rfl 1 _ rfl
theorem wT (n:Nat)(_h1:n≤9223372036854775807)(w:World) :
 Calls Tryz.prog 16 #[.int .i64 n] w fun e w'=>e = .returned (.string (strOfNums (aV n)))∧Below w.heap.size w w':=by
 have hn0:¬ (n:Int)<0:=by omega
 go_enter Tryz.func16,Tryz.ntmps16
 go_wp2
 go_loopw [3,4] (fun u v wr=>∃(m:Nat)(t:List Int),m≤9223372036854775807∧u = .int .u64 m∧v = .string (strOfNums t)∧Hid (aV m++t=aV n∧2*t.length+m≤n)∧Below w.heap.size w wr)
  (fun u _ _=>(intOf u).toNat)
 case atStart=>exact⟨n,[],by omega,by go_num,rfl,ae ⟨by rw[fF],by simp⟩,ak _ _⟩
 case round =>
  obtain⟨m,t,hm,rfl,rfl,HT,hbl⟩:=hrel;have HB:=ae hbl;clear hbl;have hcv:=fun (w:World)=>Nb w 5 (48+(m:Int) % 10)
  have aju:=fun (w:World)=>Nb w 5 (48+(m:Int))
  have hsz:(strOfNums [48+(m:Int) % 10]).size+(strOfNums t).size≤9223372036854775807:=by rw[strOfNums_size,strOfNums_size];have:=HT.o.2;simp only[aX,dV];by_cases h:t.length=0 <;> by_cases h2:m=0 <;> omega
  have ajO:(strOfNums [48+(m:Int)]).size+(strOfNums t).size≤9223372036854775807:=by rw[strOfNums_size,strOfNums_size];have:=HT.o.2;simp only[aX,dV];by_cases h:t.length=0 <;> by_cases h2:m=0 <;> omega
  by_cases hlt:10≤m
  · have hki:(10:Int)≤(m:Int):=by omega
    have hd:=qi m (by omega);have HD:=ae hd;clear hd
    go_wp2
    go_roundw
    case rel =>
     refine⟨m / 10,(48+(m:Int) % 10) :: t,by omega,by go_num,aiB (mW _ _),ae ⟨?_, ?_⟩,HB.o.alloc HB.o.size _⟩
     · rw[← HT.o.1,HD.o,bN,show((m % 10:Nat):Int)=(m:Int) % 10 from by omega];rfl
     · have:=HT.o.2;simp only[aX];omega
    case measure=>simp[intOf];omega
  · have hki:¬ (10:Int)≤(m:Int):=by omega
    have hd:=mr m (by omega);have HD:=ae hd;clear hd
    go_wp2
    go_ret;exact⟨mU (by rw[mW, ← HT.o.1,HD.o]),HB.o.alloc HB.o.size _⟩
theorem zB (n:Int)(_h0 : -9223372036854775808≤n)(_h1:n≤9223372036854775807)(w:World) :
 Calls Tryz.prog 52 #[.int .i64 n] w fun e w'=>e = .returned (.string (strOfNums (bB n)))∧Below w.heap.size w w':=by
 by_cases hr:n<0∨701<n
 · have hc:bB n=[]:=by unfold bB;rw[ah hr]
   have HC:=ae hc;clear hc;go_enter Tryz.func52,Tryz.ntmps52
   go_wp2
   all_goals first|omega|skip
   all_goals go_ret
   all_goals exact⟨by rw[HC.o];rfl,ak _ _⟩
 · have h0:¬ n<0:=by omega
   have h2:¬ 701<n:=by omega
   have h0':0≤n:=by omega
   by_cases Ec:n<26
   · have hc:bB n=[65+n]:=by unfold bB;rw[ag hr,ah Ec]
     have HC:=ae hc;clear hc hr;have hcv:=fun (w:World)=>Nb w 5 (65+n)
     go_enter Tryz.func52,Tryz.ntmps52
     go_wp2
     all_goals go_ret
     all_goals exact⟨by rw[HC.o];rfl,(ak _ _).alloc (aj _) _⟩
   · have hc:bB n=[65+n / 26 - 1,65+n % 26]:=by unfold bB;rw[ag hr,ag Ec];congr 1;omega
     have HC:=ae hc;clear hc hr;have hcv:=fun (w:World)=>agh w 5 (65+n / 26 - 1) (65+n % 26)
     go_enter Tryz.func52,Tryz.ntmps52
     go_wp2
     all_goals go_ret
     all_goals exact⟨by rw[HC.o];rfl,(ak _ _).alloc (aj _) _⟩
theorem qz (s:ByteArray)(c r:Int)(ac ar:Bool)(w:World)(_hs:s.size≤1000000) :
 Calls Tryz.prog 50 #[.agg #[.string s,.int .i64 c,.int .i64 r,.bool ac,.bool ar]] w fun e w'=>e = .returned (.bool (cK (sb s) c r))∧Below w.heap.size w w':=by
 by_cases h0:s.size=0
 · have:=vM s h0
   subst this;have hm:cK (sb ⟨#[]⟩) c r=decide (0≤c∧c≤701∧0≤r∧r≤998):=by unfold cK;rw[show decide (sb ⟨#[]⟩=[])=true from by decide,Bool.true_or,gL]
   have HM:=ae hm;clear hm;go_enter Tryz.func50,Tryz.ntmps50
   go_wp2
   all_goals go_ret
   all_goals exact⟨gq (by rw[HM.o];first|(symm;rw[aK];omega)|(symm;rw[jq];omega)|(rw[decide_eq_decide];omega)),(ak _ _).alloc (aj _) _⟩
 · have hne:=sQ s h0
   have hm:cK (sb s) c r=(iH (sb s)&&decide (0≤c∧c≤701∧0≤r∧r≤998)):=by
    unfold cK;rw[aS (by intro h;have:=bz s;rw[h]at this;exact h0 this.symm),Bool.false_or]
   have HM:=ae hm;clear hm h0;by_cases hn:iH (sb s)=true
   · go_enter Tryz.func50,Tryz.ntmps50
     go_wp2_with (first
      | (go_at_call 76;((with_reducible refine(UC _ _ ?_).mono ?_);(first|omega|skip);rintro e w' ⟨rfl,rfl⟩)))
     all_goals go_ret
     all_goals exact⟨gq (by rw[HM.o,hn,gL];first|(symm;rw[aK];omega)|(symm;rw[jq];omega)|(rw[decide_eq_decide];omega)),(ak _ _).alloc (aj _) _⟩
   · have hn':iH (sb s)=false:=by simpa using hn
     clear hn;go_enter Tryz.func50,Tryz.ntmps50
     go_wp2_with (first
      | (go_at_call 76;((with_reducible refine(UC _ _ ?_).mono ?_);(first|omega|skip);rintro e w' ⟨rfl,rfl⟩)))
     all_goals go_ret
     all_goals exact⟨gq (by rw[HM.o,hn',Bool.false_and]),(ak _ _).alloc (aj _) _⟩
theorem ahS (s:ByteArray)(c r:Int)(k:Nat)(w:World)(_hs:s.size≤1000000)(h0:s.size=0)(hm:cK (sb s) c r=true)(hc0:0≤c)(hc1:c≤701)(hr0:0≤r)(hr1:r≤998)(hk:r+1=(k:Int))(hz1:(strOfNums (bB c)).size≤2)(hz2:(strOfNums (aV k)).size≤1000) :
 Calls Tryz.prog 26 #[.agg #[.string s,.int .i64 c,.int .i64 r,.bool false,.bool false]] w fun e w'=>e = .returned (.string (strOfNums (aZ (sb s) c r false false)))∧Below w.heap.size w w':=by
       have hk2:(r+1).toNat=k:=by omega
       have he:sb s=[]:=kV (by rw[bz];exact h0);have ht:([]++bB c)++aV k=aZ (sb s) c r false false:=by unfold aZ;rw[ah hm,hk2,ah he];simp
       have HT:=ae ht;clear ht hk2 he;have:=vM s h0;subst this;clear h0;have hR0:=df.new w ⟨#[]⟩ c r false false;have iA:=ae hR0;clear hR0;go_enter Tryz.func26,Tryz.ntmps26
       go_wp2_with (first
        | (go_at_call 50;((with_reducible refine(qz _ _ _ _ _ _ ?_).mono ?_);(first|omega|skip);rintro e w1 ⟨rfl,h1⟩;have jh:=iA.o.below h1 iA.o.lt;obtain⟨x0,x1,x2,x3,x4⟩:=jh.facts;have HR1:=ae jh;clear jh;have H1:=ae h1;clear h1))
        | (go_at_call 52;((with_reducible refine(zB _ ?_ ?_ _).mono ?_);(first|omega|skip);(first|omega|skip);rintro e w2 ⟨rfl,h2⟩;have hR2:=HR1.o.below h2 HR1.o.lt;clear x0 x1 x2 x3 x4;obtain⟨x0,x1,x2,x3,x4⟩:=hR2.facts;have HR2:=ae hR2;clear hR2;have H2:=ae h2;clear h2))
        | (go_at_call 16;((with_reducible refine(wT _ ?_ _).mono ?_);(first|omega|skip);rintro e w3 ⟨rfl,h3⟩;clear x0 x1 x2 x3 x4;have H3:=ae h3;clear h3)))
       go_ret;exact⟨mU ((jR (jR IJ (Eq.refl (strOfNums (bB c)))) (Eq.refl (strOfNums (aV k)))).trans (congrArg strOfNums HT.o)),xI ((ak _ _).alloc (aj _) _) H1.o H2.o H3.o⟩
theorem ahR (s:ByteArray)(c r:Int)(k:Nat)(w:World)(_hs:s.size≤1000000)(h0:s.size=0)(hm:cK (sb s) c r=true)(hc0:0≤c)(hc1:c≤701)(hr0:0≤r)(hr1:r≤998)(hk:r+1=(k:Int))(hz1:(strOfNums (bB c)).size≤2)(hz2:(strOfNums (aV k)).size≤1000) :
 Calls Tryz.prog 26 #[.agg #[.string s,.int .i64 c,.int .i64 r,.bool false,.bool true]] w fun e w'=>e = .returned (.string (strOfNums (aZ (sb s) c r false true)))∧Below w.heap.size w w':=by
       have hk2:(r+1).toNat=k:=by omega
       have he:sb s=[]:=kV (by rw[bz];exact h0);have ht:(([]++bB c)++[36])++aV k=aZ (sb s) c r false true:=by unfold aZ;rw[ah hm,hk2,ah he];simp
       have HT:=ae ht;clear ht hk2 he;have:=vM s h0;subst this;clear h0;have hR0:=df.new w ⟨#[]⟩ c r false true;have iA:=ae hR0;clear hR0;go_enter Tryz.func26,Tryz.ntmps26
       go_wp2_with (first
        | (go_at_call 50;((with_reducible refine(qz _ _ _ _ _ _ ?_).mono ?_);(first|omega|skip);rintro e w1 ⟨rfl,h1⟩;have jh:=iA.o.below h1 iA.o.lt;obtain⟨x0,x1,x2,x3,x4⟩:=jh.facts;have HR1:=ae jh;clear jh;have H1:=ae h1;clear h1))
        | (go_at_call 52;((with_reducible refine(zB _ ?_ ?_ _).mono ?_);(first|omega|skip);(first|omega|skip);rintro e w2 ⟨rfl,h2⟩;have hR2:=HR1.o.below h2 HR1.o.lt;clear x0 x1 x2 x3 x4;obtain⟨x0,x1,x2,x3,x4⟩:=hR2.facts;have HR2:=ae hR2;clear hR2;have H2:=ae h2;clear h2))
        | (go_at_call 16;((with_reducible refine(wT _ ?_ _).mono ?_);(first|omega|skip);rintro e w3 ⟨rfl,h3⟩;clear x0 x1 x2 x3 x4;have H3:=ae h3;clear h3)))
       go_ret;exact⟨mU ((jR (jR (jR IJ (Eq.refl (strOfNums (bB c)))) zJ) (Eq.refl (strOfNums (aV k)))).trans (congrArg strOfNums HT.o)),xI ((ak _ _).alloc (aj _) _) H1.o H2.o H3.o⟩
theorem ahQ (s:ByteArray)(c r:Int)(k:Nat)(w:World)(_hs:s.size≤1000000)(h0:s.size=0)(hm:cK (sb s) c r=true)(hc0:0≤c)(hc1:c≤701)(hr0:0≤r)(hr1:r≤998)(hk:r+1=(k:Int))(hz1:(strOfNums (bB c)).size≤2)(hz2:(strOfNums (aV k)).size≤1000) :
 Calls Tryz.prog 26 #[.agg #[.string s,.int .i64 c,.int .i64 r,.bool true,.bool false]] w fun e w'=>e = .returned (.string (strOfNums (aZ (sb s) c r true false)))∧Below w.heap.size w w':=by
       have hk2:(r+1).toNat=k:=by omega
       have he:sb s=[]:=kV (by rw[bz];exact h0);have ht:(([]++[36])++bB c)++aV k=aZ (sb s) c r true false:=by unfold aZ;rw[ah hm,hk2,ah he];simp
       have HT:=ae ht;clear ht hk2 he;have:=vM s h0;subst this;clear h0;have hR0:=df.new w ⟨#[]⟩ c r true false;have iA:=ae hR0;clear hR0;go_enter Tryz.func26,Tryz.ntmps26
       go_wp2_with (first
        | (go_at_call 50;((with_reducible refine(qz _ _ _ _ _ _ ?_).mono ?_);(first|omega|skip);rintro e w1 ⟨rfl,h1⟩;have jh:=iA.o.below h1 iA.o.lt;obtain⟨x0,x1,x2,x3,x4⟩:=jh.facts;have HR1:=ae jh;clear jh;have H1:=ae h1;clear h1))
        | (go_at_call 52;((with_reducible refine(zB _ ?_ ?_ _).mono ?_);(first|omega|skip);(first|omega|skip);rintro e w2 ⟨rfl,h2⟩;have hR2:=HR1.o.below h2 HR1.o.lt;clear x0 x1 x2 x3 x4;obtain⟨x0,x1,x2,x3,x4⟩:=hR2.facts;have HR2:=ae hR2;clear hR2;have H2:=ae h2;clear h2))
        | (go_at_call 16;((with_reducible refine(wT _ ?_ _).mono ?_);(first|omega|skip);rintro e w3 ⟨rfl,h3⟩;clear x0 x1 x2 x3 x4;have H3:=ae h3;clear h3)))
       go_ret;exact⟨mU ((jR (jR (jR IJ zJ) (Eq.refl (strOfNums (bB c)))) (Eq.refl (strOfNums (aV k)))).trans (congrArg strOfNums HT.o)),xI ((ak _ _).alloc (aj _) _) H1.o H2.o H3.o⟩
theorem ahP (s:ByteArray)(c r:Int)(k:Nat)(w:World)(_hs:s.size≤1000000)(h0:s.size=0)(hm:cK (sb s) c r=true)(hc0:0≤c)(hc1:c≤701)(hr0:0≤r)(hr1:r≤998)(hk:r+1=(k:Int))(hz1:(strOfNums (bB c)).size≤2)(hz2:(strOfNums (aV k)).size≤1000) :
 Calls Tryz.prog 26 #[.agg #[.string s,.int .i64 c,.int .i64 r,.bool true,.bool true]] w fun e w'=>e = .returned (.string (strOfNums (aZ (sb s) c r true true)))∧Below w.heap.size w w':=by
       have hk2:(r+1).toNat=k:=by omega
       have he:sb s=[]:=kV (by rw[bz];exact h0);have ht:((([]++[36])++bB c)++[36])++aV k=aZ (sb s) c r true true:=by unfold aZ;rw[ah hm,hk2,ah he];simp
       have HT:=ae ht;clear ht hk2 he;have:=vM s h0;subst this;clear h0;have hR0:=df.new w ⟨#[]⟩ c r true true;have iA:=ae hR0;clear hR0;go_enter Tryz.func26,Tryz.ntmps26
       go_wp2_with (first
        | (go_at_call 50;((with_reducible refine(qz _ _ _ _ _ _ ?_).mono ?_);(first|omega|skip);rintro e w1 ⟨rfl,h1⟩;have jh:=iA.o.below h1 iA.o.lt;obtain⟨x0,x1,x2,x3,x4⟩:=jh.facts;have HR1:=ae jh;clear jh;have H1:=ae h1;clear h1))
        | (go_at_call 52;((with_reducible refine(zB _ ?_ ?_ _).mono ?_);(first|omega|skip);(first|omega|skip);rintro e w2 ⟨rfl,h2⟩;have hR2:=HR1.o.below h2 HR1.o.lt;clear x0 x1 x2 x3 x4;obtain⟨x0,x1,x2,x3,x4⟩:=hR2.facts;have HR2:=ae hR2;clear hR2;have H2:=ae h2;clear h2))
        | (go_at_call 16;((with_reducible refine(wT _ ?_ _).mono ?_);(first|omega|skip);rintro e w3 ⟨rfl,h3⟩;clear x0 x1 x2 x3 x4;have H3:=ae h3;clear h3)))
       go_ret;exact⟨mU ((jR (jR (jR (jR IJ zJ) (Eq.refl (strOfNums (bB c)))) zJ) (Eq.refl (strOfNums (aV k)))).trans (congrArg strOfNums HT.o)),xI ((ak _ _).alloc (aj _) _) H1.o H2.o H3.o⟩
theorem ahY (s:ByteArray)(c r:Int)(k:Nat)(w:World)(_hs:s.size≤1000000)(h0:¬ s.size=0)(hm:cK (sb s) c r=true)(hc0:0≤c)(hc1:c≤701)(hr0:0≤r)(hr1:r≤998)(hk:r+1=(k:Int))(hz1:(strOfNums (bB c)).size≤2)(hz2:(strOfNums (aV k)).size≤1000) :
 Calls Tryz.prog 26 #[.agg #[.string s,.int .i64 c,.int .i64 r,.bool false,.bool false]] w fun e w'=>e = .returned (.string (strOfNums (aZ (sb s) c r false false)))∧Below w.heap.size w w':=by
       have hk2:(r+1).toNat=k:=by omega
       have he:¬ sb s=[]:=by intro h;have:=bz s;rw[h]at this;exact h0 this.symm
       have ht:((sb s++[33])++bB c)++aV k=aZ (sb s) c r false false:=by unfold aZ;rw[ah hm,hk2,ag he];simp
       have HT:=ae ht;clear ht hk2 he;have hne:s.toList.isEmpty=false:=by cases hq:s.toList with|nil=>exact absurd hq (sQ s h0)|cons a l=>rfl
       clear h0;have hR0:=df.new w s c r false false;have iA:=ae hR0;clear hR0;go_enter Tryz.func26,Tryz.ntmps26
       go_wp2_with (first
        | (go_at_call 50;((with_reducible refine(qz _ _ _ _ _ _ ?_).mono ?_);(first|omega|skip);rintro e w1 ⟨rfl,h1⟩;have jh:=iA.o.below h1 iA.o.lt;obtain⟨x0,x1,x2,x3,x4⟩:=jh.facts;have HR1:=ae jh;clear jh;have H1:=ae h1;clear h1))
        | (go_at_call 52;((with_reducible refine(zB _ ?_ ?_ _).mono ?_);(first|omega|skip);(first|omega|skip);rintro e w2 ⟨rfl,h2⟩;have hR2:=HR1.o.below h2 HR1.o.lt;clear x0 x1 x2 x3 x4;obtain⟨x0,x1,x2,x3,x4⟩:=hR2.facts;have HR2:=ae hR2;clear hR2;have H2:=ae h2;clear h2))
        | (go_at_call 16;((with_reducible refine(wT _ ?_ _).mono ?_);(first|omega|skip);rintro e w3 ⟨rfl,h3⟩;clear x0 x1 x2 x3 x4;have H3:=ae h3;clear h3)))
       go_ret;exact⟨mU ((jR (jR (jR (mX s).symm II) (Eq.refl (strOfNums (bB c)))) (Eq.refl (strOfNums (aV k)))).trans (congrArg strOfNums HT.o)),xI ((ak _ _).alloc (aj _) _) H1.o H2.o H3.o⟩
theorem ahX (s:ByteArray)(c r:Int)(k:Nat)(w:World)(_hs:s.size≤1000000)(h0:¬ s.size=0)(hm:cK (sb s) c r=true)(hc0:0≤c)(hc1:c≤701)(hr0:0≤r)(hr1:r≤998)(hk:r+1=(k:Int))(hz1:(strOfNums (bB c)).size≤2)(hz2:(strOfNums (aV k)).size≤1000) :
 Calls Tryz.prog 26 #[.agg #[.string s,.int .i64 c,.int .i64 r,.bool false,.bool true]] w fun e w'=>e = .returned (.string (strOfNums (aZ (sb s) c r false true)))∧Below w.heap.size w w':=by
       have hk2:(r+1).toNat=k:=by omega
       have he:¬ sb s=[]:=by intro h;have:=bz s;rw[h]at this;exact h0 this.symm
       have ht:(((sb s++[33])++bB c)++[36])++aV k=aZ (sb s) c r false true:=by unfold aZ;rw[ah hm,hk2,ag he];simp
       have HT:=ae ht;clear ht hk2 he;have hne:s.toList.isEmpty=false:=by cases hq:s.toList with|nil=>exact absurd hq (sQ s h0)|cons a l=>rfl
       clear h0;have hR0:=df.new w s c r false true;have iA:=ae hR0;clear hR0;go_enter Tryz.func26,Tryz.ntmps26
       go_wp2_with (first
        | (go_at_call 50;((with_reducible refine(qz _ _ _ _ _ _ ?_).mono ?_);(first|omega|skip);rintro e w1 ⟨rfl,h1⟩;have jh:=iA.o.below h1 iA.o.lt;obtain⟨x0,x1,x2,x3,x4⟩:=jh.facts;have HR1:=ae jh;clear jh;have H1:=ae h1;clear h1))
        | (go_at_call 52;((with_reducible refine(zB _ ?_ ?_ _).mono ?_);(first|omega|skip);(first|omega|skip);rintro e w2 ⟨rfl,h2⟩;have hR2:=HR1.o.below h2 HR1.o.lt;clear x0 x1 x2 x3 x4;obtain⟨x0,x1,x2,x3,x4⟩:=hR2.facts;have HR2:=ae hR2;clear hR2;have H2:=ae h2;clear h2))
        | (go_at_call 16;((with_reducible refine(wT _ ?_ _).mono ?_);(first|omega|skip);rintro e w3 ⟨rfl,h3⟩;clear x0 x1 x2 x3 x4;have H3:=ae h3;clear h3)))
       go_ret;exact⟨mU ((jR (jR (jR (jR (mX s).symm II) (Eq.refl (strOfNums (bB c)))) zJ) (Eq.refl (strOfNums (aV k)))).trans (congrArg strOfNums HT.o)),xI ((ak _ _).alloc (aj _) _) H1.o H2.o H3.o⟩
theorem ahW (s:ByteArray)(c r:Int)(k:Nat)(w:World)(_hs:s.size≤1000000)(h0:¬ s.size=0)(hm:cK (sb s) c r=true)(hc0:0≤c)(hc1:c≤701)(hr0:0≤r)(hr1:r≤998)(hk:r+1=(k:Int))(hz1:(strOfNums (bB c)).size≤2)(hz2:(strOfNums (aV k)).size≤1000) :
 Calls Tryz.prog 26 #[.agg #[.string s,.int .i64 c,.int .i64 r,.bool true,.bool false]] w fun e w'=>e = .returned (.string (strOfNums (aZ (sb s) c r true false)))∧Below w.heap.size w w':=by
       have hk2:(r+1).toNat=k:=by omega
       have he:¬ sb s=[]:=by intro h;have:=bz s;rw[h]at this;exact h0 this.symm
       have ht:(((sb s++[33])++[36])++bB c)++aV k=aZ (sb s) c r true false:=by unfold aZ;rw[ah hm,hk2,ag he];simp
       have HT:=ae ht;clear ht hk2 he;have hne:s.toList.isEmpty=false:=by cases hq:s.toList with|nil=>exact absurd hq (sQ s h0)|cons a l=>rfl
       clear h0;have hR0:=df.new w s c r true false;have iA:=ae hR0;clear hR0;go_enter Tryz.func26,Tryz.ntmps26
       go_wp2_with (first
        | (go_at_call 50;((with_reducible refine(qz _ _ _ _ _ _ ?_).mono ?_);(first|omega|skip);rintro e w1 ⟨rfl,h1⟩;have jh:=iA.o.below h1 iA.o.lt;obtain⟨x0,x1,x2,x3,x4⟩:=jh.facts;have HR1:=ae jh;clear jh;have H1:=ae h1;clear h1))
        | (go_at_call 52;((with_reducible refine(zB _ ?_ ?_ _).mono ?_);(first|omega|skip);(first|omega|skip);rintro e w2 ⟨rfl,h2⟩;have hR2:=HR1.o.below h2 HR1.o.lt;clear x0 x1 x2 x3 x4;obtain⟨x0,x1,x2,x3,x4⟩:=hR2.facts;have HR2:=ae hR2;clear hR2;have H2:=ae h2;clear h2))
        | (go_at_call 16;((with_reducible refine(wT _ ?_ _).mono ?_);(first|omega|skip);rintro e w3 ⟨rfl,h3⟩;clear x0 x1 x2 x3 x4;have H3:=ae h3;clear h3)))
       go_ret;exact⟨mU ((jR (jR (jR (jR (mX s).symm II) zJ) (Eq.refl (strOfNums (bB c)))) (Eq.refl (strOfNums (aV k)))).trans (congrArg strOfNums HT.o)),xI ((ak _ _).alloc (aj _) _) H1.o H2.o H3.o⟩
theorem ahV (s:ByteArray)(c r:Int)(k:Nat)(w:World)(_hs:s.size≤1000000)(h0:¬ s.size=0)(hm:cK (sb s) c r=true)(hc0:0≤c)(hc1:c≤701)(hr0:0≤r)(hr1:r≤998)(hk:r+1=(k:Int))(hz1:(strOfNums (bB c)).size≤2)(hz2:(strOfNums (aV k)).size≤1000) :
 Calls Tryz.prog 26 #[.agg #[.string s,.int .i64 c,.int .i64 r,.bool true,.bool true]] w fun e w'=>e = .returned (.string (strOfNums (aZ (sb s) c r true true)))∧Below w.heap.size w w':=by
       have hk2:(r+1).toNat=k:=by omega
       have he:¬ sb s=[]:=by intro h;have:=bz s;rw[h]at this;exact h0 this.symm
       have ht:((((sb s++[33])++[36])++bB c)++[36])++aV k=aZ (sb s) c r true true:=by unfold aZ;rw[ah hm,hk2,ag he];simp
       have HT:=ae ht;clear ht hk2 he;have hne:s.toList.isEmpty=false:=by cases hq:s.toList with|nil=>exact absurd hq (sQ s h0)|cons a l=>rfl
       clear h0;have hR0:=df.new w s c r true true;have iA:=ae hR0;clear hR0;go_enter Tryz.func26,Tryz.ntmps26
       go_wp2_with (first
        | (go_at_call 50;((with_reducible refine(qz _ _ _ _ _ _ ?_).mono ?_);(first|omega|skip);rintro e w1 ⟨rfl,h1⟩;have jh:=iA.o.below h1 iA.o.lt;obtain⟨x0,x1,x2,x3,x4⟩:=jh.facts;have HR1:=ae jh;clear jh;have H1:=ae h1;clear h1))
        | (go_at_call 52;((with_reducible refine(zB _ ?_ ?_ _).mono ?_);(first|omega|skip);(first|omega|skip);rintro e w2 ⟨rfl,h2⟩;have hR2:=HR1.o.below h2 HR1.o.lt;clear x0 x1 x2 x3 x4;obtain⟨x0,x1,x2,x3,x4⟩:=hR2.facts;have HR2:=ae hR2;clear hR2;have H2:=ae h2;clear h2))
        | (go_at_call 16;((with_reducible refine(wT _ ?_ _).mono ?_);(first|omega|skip);rintro e w3 ⟨rfl,h3⟩;clear x0 x1 x2 x3 x4;have H3:=ae h3;clear h3)))
       go_ret;exact⟨mU ((jR (jR (jR (jR (jR (mX s).symm II) zJ) (Eq.refl (strOfNums (bB c)))) zJ) (Eq.refl (strOfNums (aV k)))).trans (congrArg strOfNums HT.o)),xI ((ak _ _).alloc (aj _) _) H1.o H2.o H3.o⟩
theorem EM (s:ByteArray)(c r:Int)(ac ar:Bool)(w:World)(_hs:s.size≤1000000) :
 Calls Tryz.prog 26 #[.agg #[.string s,.int .i64 c,.int .i64 r,.bool ac,.bool ar]] w fun e w'=>e = .returned (.string (strOfNums (aZ (sb s) c r ac ar)))∧Below w.heap.size w w':=by
 by_cases hm:cK (sb s) c r=true
 · obtain ⟨hc0,hc1,hr0,hr1⟩:=L8 hm
   have hl1:=SC c;obtain⟨k,hk⟩:∃k:Nat,r+1=(k:Int):=⟨(r+1).toNat,by omega⟩;have hl2:=LM k;have hz1:(strOfNums (bB c)).size≤2:=by rw[strOfNums_size];exact hl1
   have hz2:(strOfNums (aV k)).size≤1000:=by rw[strOfNums_size];omega
   by_cases h0:s.size=0
   · cases ac <;> cases ar
     · exact ahS s c r k w _hs h0 hm hc0 hc1 hr0 hr1 hk hz1 hz2
     · exact ahR s c r k w _hs h0 hm hc0 hc1 hr0 hr1 hk hz1 hz2
     · exact ahQ s c r k w _hs h0 hm hc0 hc1 hr0 hr1 hk hz1 hz2
     · exact ahP s c r k w _hs h0 hm hc0 hc1 hr0 hr1 hk hz1 hz2
   · cases ac <;> cases ar
     · exact ahY s c r k w _hs h0 hm hc0 hc1 hr0 hr1 hk hz1 hz2
     · exact ahX s c r k w _hs h0 hm hc0 hc1 hr0 hr1 hk hz1 hz2
     · exact ahW s c r k w _hs h0 hm hc0 hc1 hr0 hr1 hk hz1 hz2
     · exact ahV s c r k w _hs h0 hm hc0 hc1 hr0 hr1 hk hz1 hz2
 · have hm':cK (sb s) c r=false:=by simpa using hm
   have ht:aZ (sb s) c r ac ar=[]:=by unfold aZ;rw[ag hm]
   have HT:=ae ht;clear ht hm;go_enter Tryz.func26,Tryz.ntmps26
   go_wp2_with (first
    | (go_at_call 50;((with_reducible refine(qz _ _ _ _ _ _ ?_).mono ?_);(first|omega|skip);rintro e w1 ⟨rfl,h1⟩;have H1:=ae h1;clear h1)))
   go_ret;exact⟨by rw[HT.o];rfl,((ak _ _).alloc (aj _) _).trans (H1.o.mono ((ak _ _).alloc (aj _) _).size)⟩
def Rd.tK(d:Rd):Rd:={ d with ac:=d.mark,k:=d.k+(fo d.mark).length }
def Rd.D7(d:Rd):Rd:={ d with c:=lY (d.rest.takeWhile aP),k:=d.k+(d.rest.takeWhile aP).length }
def Rd.Cb(d:Rd):Rd:={ d with ar:=d.mark,k:=d.k+(fo d.mark).length }
def Rd.at4(d:Rd):Rd:=d.tK.D7.Cb
theorem acM (u:Nat)(h:u≤999):(aV u).length≤3:=by
 by_cases h1:u<10
 · rw[mr u h1];simp
 · rw[qi u h1,av]
   by_cases h2:u / 10<10
   · rw[mr _ h2];simp
   · rw[qi _ h2,av,mr _ (by omega)];simp
theorem abU {l:List Int}(aT:∀x∈l,isNum x=true)(h:isRow l=true):l.length≤3:=by
 obtain⟨h1,h2,h3⟩:=Sj h;obtain⟨h4,h5⟩:=KE _ _ rfl h1 aT h2;rw[← h5];exact acM _ (by omega)
theorem Y4 (s:ByteArray)(d1 d:Rd)(h1:∀e,(Rd.start s).jX=some e→e=d1)(hs:d1.s=s)(h:iw s=some d) :
 jy (d1.tK.rest.takeWhile aP)=true∧(∀x∈d1.at4.rest,isNum x=true)∧d1.at4.rest.length≤3∧d.sh=d1.at4.sh∧d.c=d1.at4.c∧d.ac=d1.at4.ac∧d.ar=d1.at4.ar∧d.r=dB d1.at4.rest - 1:=by
 unfold iw at h;simp only[Option.bind_eq_some_iff]at h;obtain⟨d5,⟨d4,⟨d3,⟨d2,⟨e1,g1,g2⟩,g3⟩,g4⟩,g5⟩,g6⟩:=h;have:=h1 e1 g1;subst this;have e2:d2=e1.tK:=by unfold Rd.yS at g2;injection g2 with g2;exact g2.symm
 subst e2;unfold Rd.col at g3;by_cases hc:jy (e1.tK.rest.takeWhile aP)=true
 · rw [ah hc]at g3
   have e3:d3=e1.tK.D7:=by injection g3 with g3;exact g3.symm
   subst e3;have e4:d4=e1.at4:=by unfold Rd.yT at g4;injection g4 with g4;exact g4.symm
   subst e4;unfold Rd.row at g5;by_cases hr:isRow (e1.at4.rest.takeWhile isNum)=true
   · rw [ah hr]at g5;injection g5 with g5;subst g5
     unfold Rd.fin at g6;by_cases hk:e1.at4.k+(e1.at4.rest.takeWhile isNum).length=e1.at4.s.size
     · rw[ah hk]at g6;injection g6 with g6;subst g6
       have hl:=ry e1.at4;have hsp:=take_split isNum e1.at4.rest;have aaH:e1.at4.rest.drop (e1.at4.rest.takeWhile isNum).length=[]:=by rw[List.drop_eq_nil_iff];omega
       rw[aaH,fF]at hsp;have aT:=uC isNum e1.at4.rest;have hlen:=abU aT hr;rw[hsp]at aT hlen;refine⟨hc,aT,hlen,rfl,rfl,rfl,rfl, ?_⟩;show dB (e1.at4.rest.takeWhile isNum) - 1=_;rw[hsp]
     · rw[ag hk]at g6;cases g6
   · rw[ag hr]at g5;cases g5
 · rw[ag hc]at g3;cases g3
structure je (w wr:World)(sh:ByteArray)(c r:Int)(ac ar:Bool):Prop where
 res:df wr w.heap.size ⟨#[]⟩ 0 0 false false
 ref:df wr (w.heap.size+1) sh c r ac ar
 below:Below w.heap.size w wr
theorem df.drewN(h:df w b s c r ac ar)(n:Nat):df (w.drewN n) b s c r ac ar:=h
theorem df.frozen(h:df w b s c r ac ar)(j:Nat):w.frozen? ⟨b,j,none⟩=false:=frozen_of_row w b j _ _ h
theorem df.other (h:df w b s c r ac ar)(a:Addr)(v:Value)(hne:b≠a.block):df (w.setCell a v) b s c r ac ar:=by
 unfold df;rw[heap_setCell_other w a b v hne];exact h
theorem je.drewN{wr:World}(h:je w wr sh c r ac ar)(n:Nat):je w (wr.drewN n) sh c r ac ar:=⟨h.res.drewN n,h.ref.drewN n,⟨h.below.os,h.below.tape,h.below.output,h.below.size,h.below.block⟩⟩
theorem je.next {wr w2:World}(h:je w wr sh c r ac ar)(hb:Below wr.heap.size wr w2):je w w2 sh c r ac ar :=
 ⟨h.res.below hb h.res.lt,h.ref.below hb h.ref.lt,h.below.trans (hb.mono h.below.size)⟩
theorem je.set (i:Nat){wr:World}(h:je w wr sh c r ac ar)(v:Value)(sh':ByteArray)(c' r':Int)(uW tL:Bool)
 (hv:(#[.string sh,.int .i64 c,.int .i64 r,.bool ac,.bool ar]:Array Value).setIfInBounds i v=#[.string sh',.int .i64 c',.int .i64 r',.bool uW,.bool tL]):je w (wr.setCell ⟨w.heap.size+1,i,none⟩ v) sh' c' r' uW tL:=by
 refine⟨h.res.other _ _ (by show w.heap.size≠w.heap.size+1;omega), ?_,h.below.setCell (by show w.heap.size≤w.heap.size+1;omega) _⟩;have hr:=h.ref;unfold df at hr ⊢;rw[heap_setCell_same wr (w.heap.size+1) i _ _ _ hr,hv]
end Go.Proofs.YtaobhjliflomaaaGreatDoor
