import Derived.Test.YtaobhjliflomaaaGreatDoorMT6
set_option maxRecDepth 100000
set_option maxHeartbeats 64000000
namespace Go.Proofs.YtaobhjliflomaaaGreatDoor
open Go.RowKit
def DT:Array Value:=(List.replicate 9 (Value.string ⟨#[]⟩)++jo.map Value.string).toArray
theorem ahK(rk:Nat)(h:rk≤5):wrap64 ((rk:Int)+1+1)=(rk:Int)+2:=by unfold wrap64;omega
theorem ahL(rk:Nat)(h:rk≤5):IntKind.i64.wrap ((rk:Int)+1+1)=(rk:Int)+2:=by rw[gV];omega
theorem afB:∀k:Nat,9≤k→k<20→DT[k]? = some (.string (jo.getD (k - 9) ⟨#[]⟩)):=by
 intro k h9 h20;have hk:k=9∨k=10∨k=11∨k=12∨k=13∨k=14∨k=15∨k=16∨k=17∨k=18∨k=19:=by omega
 rcases hk with rfl|rfl|rfl|rfl|rfl|rfl|rfl|rfl|rfl|rfl|rfl <;> rfl
def qc(w:World):Prop:=∃ty fr,w.heap[(0:Nat)]? = some (.cells DT ty fr)
theorem qc.below {w w':World}(h:qc w)(hb:Below w.heap.size w w'):qc w':=by
 obtain⟨ty,fr,h1⟩:=h;exact⟨ty,fr,by rw[hb.block _ (dO.1 h1).1];exact h1⟩
theorem qc.cell {w:World}(h:qc w)(j:Nat):w.cell? ⟨(0:Nat),j,none⟩=DT[j]? := by
 obtain⟨ty,fr,h1⟩:=h;exact cell_of_row w _ j _ ty fr h1
theorem qc.lt {w:World}(h:qc w):0<w.heap.size:=by
 obtain⟨ty,fr,h1⟩:=h;exact(dO.1 h1).1
theorem Xz (w:World)(b:Nat)(nv:Value)(st:List ay)(txt:List Int)(n:Nd)(A:Option Addr)(m c:Nat)(h:dC w b nv st txt)(kd:Nat)(hk:n.kind=(kd:Int))(h9:9≤kd)(h20:kd<20)(k0 k1:Int)(hk0:n.kids[0]? = some k0)(hk1:n.kids[1]? = some k1)(hsi:ig w b (.slice A m c) n.kids)(hsv:qc w)(hgb:0<b)(hls:st.length≤2000000000) :
 Calls Tryz.prog 104 #[.pointer (some ⟨b,0,none⟩),.agg #[.int .i64 n.kind,.int .i64 n.num,.string n.text,.string n.ref.sh,.int .i64 n.ref.c,.int .i64 n.ref.r,.bool n.ref.ac,.bool n.ref.ar,.string n.af.sh,.int .i64 n.af.c,.int .i64 n.af.r,.bool n.af.ac,.bool n.af.ar,.slice A m c]] w (lS w b nv st txt n):=by
 have hB:Below w.heap.size w (w.alloc (.cells #[.int .i64 n.kind,.int .i64 n.num,.string n.text,.string n.ref.sh,.int .i64 n.ref.c,.int .i64 n.ref.r,.bool n.ref.ac,.bool n.ref.ar,.string n.af.sh,.int .i64 n.af.c,.int .i64 n.af.r,.bool n.af.ac,.bool n.af.ar,.slice A m c] 45)):=(ai _ _).alloc (ah _) _;have HN:ax (w.alloc (.cells #[.int .i64 n.kind,.int .i64 n.num,.string n.text,.string n.ref.sh,.int .i64 n.ref.c,.int .i64 n.ref.r,.bool n.ref.ac,.bool n.ref.ar,.string n.af.sh,.int .i64 n.af.c,.int .i64 n.af.r,.bool n.af.ac,.bool n.af.ar,.slice A m c] 45)) w.heap.size n (.slice A m c):=ax.new w n _;have hbw:b<w.heap.size:=by obtain⟨wv,h1, -⟩:=h;exact h1.lt
 obtain⟨sg,hsg⟩:∃sg,jo.getD (kd - 9) ⟨#[]⟩=sg:=⟨_,rfl⟩;obtain⟨rk,sI⟩:∃rk:Nat,bz n.kind=rk:=⟨_,rfl⟩;have Qt:rk≤5:=by rw[← sI];unfold bz;split <;> (try split) <;> (try split) <;> (try split) <;> (try split) <;> omega
 have hs:dQ n=([],[ay.op k0 ((rk:Int)+1),ay.plain sg,ay.op k1 ((rk:Int)+2)]):=by
  unfold dQ;rw[if_neg (by omega),if_neg (by omega),if_neg (by omega),if_neg (by omega),if_neg (by omega),if_neg (by omega),if_neg (by omega),if_neg (by omega),jG,hk0,jG (l:=n.kids) (i:=1),hk1,sI,hk,show((kd:Int) - 9).toNat=kd - 9 by omega,hsg];rfl
 have uI:=Lr n.kind;rw[sI,hk]at uI;have Kk:=hsi.below hB (Nat.le_of_lt hbw);obtain⟨A',oZ,hsl,hcm, -,hcell⟩:=Kk;injection hsl with e1 e2 e3;have lH:1<n.kids.length:=(dW.1 hk1).1;obtain⟨pb,po,hA,hpb,hcl⟩:=hcell.resolve_left (fun e=>by rw[e]at lH;exact absurd lH (by decide));have hc0:=hcl 0 k0 hk0;have hc1:=hcl 1 k1 hk1;rw[Nat.add_zero]at hc0;have hA2:=e1.trans hA;subst hA2;subst e3;clear e1 hA;have hm0:(0:Int)<(m:Int):=by omega
 have hm1:(1:Int)<(m:Int):=by omega
 have hm2:0<m:=by omega
 have hm3:1<m:=by omega
 have aiu:(0:Int)≤(kd:Int):=by omega
 have aiv:(kd:Int)<20:=by omega
 have aiI:=ahK rk Qt;have aiJ:=ahL rk Qt;have hsc:(w.alloc (.cells #[.int .i64 n.kind,.int .i64 n.num,.string n.text,.string n.ref.sh,.int .i64 n.ref.c,.int .i64 n.ref.r,.bool n.ref.ac,.bool n.ref.ar,.string n.af.sh,.int .i64 n.af.c,.int .i64 n.af.r,.bool n.af.ac,.bool n.af.ar,.slice (some ⟨pb,po,none⟩) m c] 45)).cell? ⟨(0:Nat),kd,none⟩=some (.string sg):=by rw[(hsv.below hB).cell kd,afB kd h9 h20,hsg]
 have J6:=(hsv.below hB).lt;have HS:=ae hs;have HB:=ae hB;have AQ:=ae uI;have qZ:=ae (h.below hB);have ma:=ae hk;clear h hs hk hB hsi e2 hcl lH hcell hk0 hk1 hsv hsg sI uI;go_enter Tryz.func104,Tryz.ntmps104;go_upto_region 1 with (fail)
 obtain⟨z,hzz⟩:∃z,w.heap.size=z:=⟨_,rfl⟩;obtain⟨w1,hw1⟩:∃w1,w.alloc (.cells #[.int .i64 n.kind,.int .i64 n.num,.string n.text,.string n.ref.sh,.int .i64 n.ref.c,.int .i64 n.ref.r,.bool n.ref.ac,.bool n.ref.ar,.string n.af.sh,.int .i64 n.af.c,.int .i64 n.af.r,.bool n.af.ac,.bool n.af.ar,.slice (some ⟨pb,po,none⟩) m c] 45)=w1:=⟨_,rfl⟩;rw[hw1]at HN HB qZ hc0 hc1 hsc J6 ⊢;rw[hzz]at HN ⊢;have hzl:=HN.lt;have hzb:z≠b:=by omega
 have bS:=ae HN;have x0:=HN.cells.1;obtain⟨-, -, -, -, -, -, -, -, -, -, -, -, -,x1⟩:=HN.cells;rw[ma.o]at x0;have zy:b<w1.heap.size:=dY hbw HB.o.size;have hpl:pb<w1.heap.size:=by omega
 have hgl:0<w1.heap.size:=J6;have x2:=hc0;have x3:=hc1;have x4:=hsc;clear hzz hw1 HN hc0 hc1 hsc J6;go_upto_region 2 with (go_at_call 66;((with_reducible refine(AQ.o _).mono ?_);rintro e w2 ⟨rfl,rfl⟩))
 have H1:=ae ((ai w1.heap.size w1).drew);have HP:=ae (fun (wr:World)(hr:Below w1.heap.size w1 wr)=>Ad wr b nv st [ay.op k0 ((rk:Int)+1),ay.plain sg,ay.op k1 ((rk:Int)+2)] txt #[.string ⟨#[]⟩,.int .i64 k0,.int .i64 ((rk:Int)+1),.string sg,.int .i64 0,.int .i64 0,.string ⟨#[]⟩,.int .i64 k1,.int .i64 ((rk:Int)+2)] 3 rfl rfl (qZ.o.below hr) (by show 3≤1000000;decide) hls);clear AQ
 go_region_held3 (fun w'=>w'.cell? ⟨z,0,none⟩=some (.int .i64 (kd:Int))∧w'.cell? ⟨z,13,none⟩=some (.slice (some ⟨pb,po,none⟩) m c)∧w'.cell? ⟨pb,po,none⟩=some (.int .i64 k0)∧w'.cell? ⟨pb,po+1,none⟩=some (.int .i64 k1)∧w'.cell? ⟨(0:Nat),kd,none⟩=some (.string sg)) (go_keep) (first
  | (go_at_call 39;((with_reducible refine(Dy k0 ((rk:Int)+1) _).mono ?_);rintro e w3 ⟨rfl,h3⟩;have H3:=ae (H1.o.trans (h3.mono H1.o.size));have p0:=(H3.o.cell (p:=⟨z,0,none⟩) hzl).trans x0;have p1:=(H3.o.cell (p:=⟨z,13,none⟩) hzl).trans x1;have p2:=(H3.o.cell (p:=⟨pb,po,none⟩) hpl).trans x2;have p3:=(H3.o.cell (p:=⟨pb,po+1,none⟩) hpl).trans x3;have p4:=(H3.o.cell (p:=⟨(0:Nat),kd,none⟩) hgl).trans x4;clear h3))
  | (go_at_call 67;((with_reducible refine(Gs _ _).mono ?_);rintro e w4 ⟨rfl,h3⟩;have H4:=ae (H3.o.trans (h3.mono H3.o.size));have q0:=(H4.o.cell (p:=⟨z,0,none⟩) hzl).trans x0;have q1:=(H4.o.cell (p:=⟨z,13,none⟩) hzl).trans x1;have q2:=(H4.o.cell (p:=⟨pb,po,none⟩) hpl).trans x2;have q3:=(H4.o.cell (p:=⟨pb,po+1,none⟩) hpl).trans x3;have q4:=(H4.o.cell (p:=⟨(0:Nat),kd,none⟩) hgl).trans x4;clear h3))
  | (go_at_call 39;((with_reducible refine(Dy k1 ((rk:Int)+2) _).mono ?_);rintro e w5 ⟨rfl,h3⟩;have fE:=ae (H4.o.trans (h3.mono H4.o.size));have r0:=(fE.o.cell (p:=⟨z,0,none⟩) hzl).trans x0;have r1:=(fE.o.cell (p:=⟨z,13,none⟩) hzl).trans x1;have r2:=(fE.o.cell (p:=⟨pb,po,none⟩) hpl).trans x2;have r3:=(fE.o.cell (p:=⟨pb,po+1,none⟩) hpl).trans x3;have r4:=(fE.o.cell (p:=⟨(0:Nat),kd,none⟩) hgl).trans x4;clear h3))
  | (go_at_call 38;((with_reducible refine(HP.o _ fE.o).mono ?_);rintro e w6 ⟨rfl,h3,h4⟩;have vw:=ae h3;have dM:=ae h4;have iL:=dM.o.block z (dY hzl fE.o.size) hzb (.inr fun cur fr=>by
      have h5:=fE.o.block z hzl;have h6:w1.heap[z]? = some (.cells (bJ n (.slice (some ⟨pb,po,none⟩) m c)) 45):=bS.o;rw[h5,h6];exact⟨fun e=>by(injection e with e;injection e with _ e2;exact absurd e2 (by decide)),fun e=>by(injection e with e;injection e with _ e2;exact absurd e2 (by decide))⟩);have hpk:=dM.o.block pb (dY hpl fE.o.size) (Nat.ne_of_lt hpb) (.inl hpb);have Bf:=dM.o.block 0 (dY hgl fE.o.size) (Nat.ne_of_lt hgb) (.inl hgb);have t0:=(fV (a:=⟨z,0,none⟩) iL).trans r0;have t1:=(fV (a:=⟨z,13,none⟩) iL).trans r1;have t2:=(fV (a:=⟨pb,po,none⟩) hpk).trans r2;have t3:=(fV (a:=⟨pb,po+1,none⟩) hpk).trans r3;have t4:=(fV (a:=⟨(0:Nat),kd,none⟩) Bf).trans r4;clear h3 h4 iL hpk Bf)))
 all_goals go_wp2_with fail
 all_goals go_end0
 all_goals refine⟨rfl, ?_,(bn.iq HB.o).trans ((bn.iq fE.o).trans dM.o)⟩
 all_goals rw[HS.o,fM]
 all_goals exact vw.o
end Go.Proofs.YtaobhjliflomaaaGreatDoor
namespace Go.Proofs.YtaobhjliflomaaaGreatDoor
open Go.RowKit Go.Shelf
attribute [local go_sem] Oper.semAt_some
def si(xs:List Int)(q:Nat):List (Nat × Int):=(List.range (xs.length - q)).map fun j=>(xs.length - 1 - j,xs.getD (xs.length - 1 - j) 0)
theorem OM(xs:List Int):si xs xs.length=[]:=by unfold si;simp
theorem JB (xs:List Int)(m:Nat)(p:Int)(hp:xs[m]? = some p):si xs m=si xs (m+1)++[(m,p)]:=by
 have hl:=(dW.1 hp).1;unfold si;rw[show xs.length - m=(xs.length - (m+1))+1 by omega,List.range_succ,iy];show _++[(xs.length - 1 - (xs.length - (m+1)),_)]=_;rw[show xs.length - 1 - (xs.length - (m+1))=m by omega,jG,hp];rfl
theorem XU(xs:List Int)(q:Nat):(si xs q).length=xs.length - q:=by unfold si;simp
def zT(x:Nat × Int):List ay:=if x.1=0 then [ay.op x.2 1]else [ay.op x.2 1,ay.plain ⟨#[44]⟩]
def sM(pre:List (Nat × Int)):List ay:=pre.flatMap zT
theorem FU(pre:List (Nat × Int))(x:Nat × Int):sM (pre++[x])=sM pre++zT x:=by unfold sM;simp
theorem aa9 (pre:List (Nat × Int)):(sM pre).length≤2*pre.length:=by
 induction pre with
 | nil=>exact ah _
 | cons x pre ih =>
   show(zT x++sM pre).length≤_;have h:(zT x).length≤2:=by unfold zT;split <;> simp
   rw[ak,aO];omega
def ET:List Int→List ay
 | []=>[]
 | k :: ks=>ay.plain ⟨#[44]⟩ :: ay.op k 1 :: ET ks
theorem Oh:∀(a:Int)(ks:List Int),nM (a :: ks)=ay.op a 1 :: ET ks
 | a,[]=>rfl
 | a,b :: ks=>by show ay.op a 1 :: ay.plain ⟨#[44]⟩ :: nM (b :: ks)=_;rw[Oh b ks];rfl
theorem aa8 (xs:List Int)(q:Nat)(h1:1≤q)(h2:q≤xs.length):sM (si xs q)=(ET (xs.drop q)).reverse:=by
 induction h:xs.length - q generalizing q with
 | zero =>
   have:q=xs.length:=by omega
   subst this;rw[OM,List.drop_length];rfl
 | succ d ih =>
   obtain⟨p,hp⟩:∃p,xs[q]? = some p:=⟨_,dm (by omega)⟩;have hl:=(dW.1 hp).1;have he:xs[q]=p:=by rw[dm hl]at hp;exact dU hp
   rw[JB xs q p hp,FU,ih (q+1) (by omega) (by omega) (by omega),List.drop_eq_getElem_cons hl,he];show _++zT (q,p)=(ay.plain ⟨#[44]⟩ :: ay.op p 1 :: ET (xs.drop (q+1))).reverse;unfold zT;rw[if_neg (show ¬ (q,p).1=0 by show ¬ q=0;omega),List.reverse_cons,List.reverse_cons,bG];rfl
theorem aa7:∀xs:List Int,sM (si xs 0)=(nM xs).reverse
 | []=>rfl
 | a :: ks=>by
   rw[JB (a :: ks) 0 a rfl,FU,aa8 (a :: ks) 1 (by omega) (by simp),Oh];show _++[ay.op a 1]=_;rw[List.reverse_cons];rfl
theorem Xm (F:Fence)(n:Nat)(h7:F.fn 150)(hro:F.round=none)(hn:1≤n)(l Bs b po cap:Nat)(A:Option Addr)(xs:List Int)(hlen:xs.length≤1000000000)(J Jx:List (Nat × Int)→World→Prop)
 (hY:∀pre x W,J pre W→pre.length<xs.length→YieldAt F (n - 1) Tryz.prog l #[.int .i64 (x.1:Int),.int .i64 x.2] W fun e W' =>
   (e = .returned (.bool true)∧J (pre++[x]) W'∧iP Bs b W W')∨(e = .returned (.bool false)∧Jx (pre++[x]) W'))
 (W:World) (qi:W.cell? ⟨Bs,0,none⟩=some (.slice A xs.length cap)) (hc:∀m p,xs[m]? = some p→A=some ⟨b,po,none⟩∧W.cell? ⟨b,po+m,none⟩=some (.int .i64 p)) (h0:J [] W) :
 CallsIn F n Tryz.prog 150 #[.func (.yield l) #[] #[],.pointer (some ⟨Bs,0,none⟩)] W fun e W'=>(∃v,e = .returned v) ∧
  ((∃ys,ys=si xs 0∧J ys W')∨(∃pre,True∧Jx pre W')):=by
 obtain⟨L,hL⟩:∃L,xs.length=L:=⟨_,rfl⟩;have HL:=ae hL;rw[hL]at hlen qi;refine callsIn_of_wp Tryz.func150 rfl h7 ?_ hro;simp only[Tryz.ntmps150,List.size_toArray,aO,dI,Nat.reduceAdd,Nat.reduceSub,Array.replicate_succ,Array.replicate_zero,List.push_toArray,List.append_toArray,gL,cu];gi_wp2
 gi_loopw [3] (fun i wr=>∃q:Nat,q≤L∧i = .int .i64 ((q:Int) - 1)∧J (si xs q) wr∧iP Bs b W wr)
  (fun i _=>(intOf i+1).toNat)
 case atStart=>exact⟨L,ah _,rfl,by rw[← hL,OM];exact h0,iP.refl _ _ _⟩
 case round =>
  obtain⟨q,hq,rfl,hJs,hnx⟩:=hrel;have PE:=(hnx.JD 0).trans qi;cases q with
  | zero =>
    gi_wp2
    go_end0;exact⟨⟨_,rfl⟩,.inl ⟨_,rfl,hJs⟩⟩
  | succ m =>
    obtain⟨p,hp⟩:∃p,xs[m]? = some p:=⟨_,dm (by omega)⟩;obtain⟨hA,c0⟩:=hc m p hp;have d0:=(hnx.vG (po+m)).trans c0;have hst:=JB xs m p hp;obtain⟨fn,tmps,assign,body,hy,hR⟩:=hY _ (m,p) wr hJs (by rw[XU];omega);rw[← hst]at hR;dsimp only at hy;have hm1:((m+1:Nat):Int) - 1=(m:Int):=by omega
    rw[hm1];have Qe:(m:Int)<(L:Int):=by omega
    have hm0:(0:Int)≤(m:Int):=by omega
    clear hm1 c0 hc hJs hst;subst hA;gi_wp2
    refine hR.mono ?_;rintro e W3 (⟨rfl,hJ3,hk3⟩|⟨rfl,CV⟩)
    · gi_wp2
      go_roundw
      case rel=>exact⟨m,by omega,by simp,hJ3,hnx.trans hk3⟩
      case measure=>simp[intOf]
    · gi_wp2
      refine bodyPost_ret (results_none rfl _ _ _) rfl ?_;exact⟨⟨_,rfl⟩,.inr ⟨_,trivial,CV⟩⟩
theorem Xr (F:Fence)(n:Nat)(h5:F.fn 132)(hro:F.round=none)(a:Option Addr)(len cap:Nat)(w:World) :
 CallsIn F n Tryz.prog 132 #[.slice a len cap] w fun e w'=>e = .returned (.func (.func 150) #[] #[.pointer (some ⟨w.heap.size,0,none⟩)])∧w.alloc (.cells #[.slice a len cap] 28)=w':=by
 refine callsIn_of_wp Tryz.func132 rfl h5 ?_ hro;simp only[Tryz.ntmps132,List.size_toArray,aO,dI,Nat.reduceAdd,Nat.reduceSub,Array.replicate_succ,Array.replicate_zero,List.push_toArray,List.append_toArray,gL,cu];gi_wp2
 go_ret;exact⟨rfl,rfl⟩
theorem Xn (F:Fence)(n:Nat)(h7:F.fn 150)(hro:F.round=none)(hn:1≤n)(Bs b po cap:Nat)(A:Option Addr)(xs:List Int)(hlen:xs.length≤1000000000)(w:World)(hB:Bs<w.heap.size)(hb:b<w.heap.size)
 (qi:w.cell? ⟨Bs,0,none⟩=some (.slice A xs.length cap)) (hc:∀m p,xs[m]? = some p→A=some ⟨b,po,none⟩∧w.cell? ⟨b,po+m,none⟩=some (.int .i64 p)) :
 SeqStopsK F n Tryz.prog 150 #[.pointer (some ⟨Bs,0,none⟩)] (fun x:Nat × Int=>#[Value.int .i64 (x.1:Int),.int .i64 x.2]) (iP Bs b) (fun ys=>ys=si xs 0) (fun _=>True) xs.length w:=fun l J Jx W hW _ _ hY h0 =>
 Xm F n h7 hro hn l Bs b po cap A xs hlen J Jx hY W ((hW.cell hB).trans qi) (fun m p hp=>⟨(hc m p hp).1,(hW.cell (p:=⟨b,po+m,none⟩) hb).trans (hc m p hp).2⟩) h0
end Go.Proofs.YtaobhjliflomaaaGreatDoor
namespace Go.Proofs.YtaobhjliflomaaaGreatDoor
open Go.RowKit Go.Shelf
attribute [local go_sem] Oper.semAt_some
theorem dC.stay {A B:World}{b:Nat}{nv:Value}{st:List ay}{txt:List Int}(h:dC A b nv st txt){row:Option Nat}(hg:A.grownBy B row)(hr:∀r,row=some r→∃o:Obj,A.heap[r]? = some o∧o.isCells=false):dC B b nv st txt:=by
 obtain⟨wv,h1,h2⟩:=h;exact⟨wv,kQ.stay h1 hg hr,Gn h2 hg hr⟩
theorem bn.keeps {W W':World}{b B:Nat}(h:bn W W' b)(hB:b<B):KeepsFrom B W W':=⟨h.size,fun k o hk ho hc=>by
 rw[h.block k (dO.1 ho).1 (by omega) (.inr fun cur fr=>⟨fun e=>by(rw[ho]at e;cases e;cases hc),fun e=>by(rw[ho]at e;cases e;cases hc)⟩)];exact ho⟩
theorem bn.boxed {W W':World}{b k:Nat}{t:TypeId}{v:Value}(h:bn W W' b)(hb:Boxed W k t v)(hk:k≠b)(h1:t≠5)(h2:t≠87):W'.heap[k]? = W.heap[k]? := by
 have hb':W.heap[k]? = some (.cells #[v] t):=hb;exact h.block k (dO.1 hb').1 hk (.inr fun cur fr=>⟨fun e=>by rw[hb']at e;injection e with e;injection e with _ e;exact h1 e,fun e=>by rw[hb']at e;injection e with e;injection e with _ e;exact h2 e⟩)
def MX (w:World)(b:Nat)(nv:Value)(st:List ay)(txt:List Int)(z zs:Nat)(sv:Value)(pre:List (Nat × Int))(W:World):Prop :=
 dC W b nv (st++sM pre) txt∧Boxed W z 78 (.pointer (some ⟨b,0,none⟩))∧Boxed W zs 28 sv∧bn w W b
theorem XE {w:World}{b:Nat}{nv:Value}{st:List ay}{txt:List Int}{z zs:Nat}{sv:Value}{B:Nat}(hB:w.heap.size≤B):OwnFrom B (MX w b nv st txt z zs sv):=by
 rintro pre X Y row ⟨h1,h2,h3,h4⟩ hg hr;have hr2:∀r,row=some r→∃o:Obj,X.heap[r]? = some o∧o.isCells=false:=fun r e=>(hr r e).2
 exact⟨h1.stay hg hr2,xX hg hr2 h2,xX hg hr2 h3,h4.stay hg (fun r e=>bF hB (hr r e).1)⟩
theorem XL (w:World)(b:Nat)(nv:Value)(st:List ay)(txt:List Int)(n:Nd)(A:Option Addr)(m c:Nat)(h:dC w b nv st txt)(hk:n.kind=7)(hz:n.text.size≤1000000)(hsi:ig w b (.slice A m c) n.kids)(hl:txt.length≤1000000000)(hls:st.length+2*n.kids.length+1≤2000000000) :
 Calls Tryz.prog 102 #[.pointer (some ⟨b,0,none⟩),.agg #[.int .i64 n.kind,.int .i64 n.num,.string n.text,.string n.ref.sh,.int .i64 n.ref.c,.int .i64 n.ref.r,.bool n.ref.ac,.bool n.ref.ar,.string n.af.sh,.int .i64 n.af.c,.int .i64 n.af.r,.bool n.af.ac,.bool n.af.ar,.slice A m c]] w (lS w b nv st txt n):=by
 have hs:dQ n=(sb n.text++[40],nM n.kids++[ay.plain ⟨#[41]⟩]):=by
  unfold dQ;rw[if_neg (by omega),if_neg (by omega),if_neg (by omega),if_neg (by omega),if_neg (by omega),if_neg (by omega),if_pos hk]
 have hbw:b<w.heap.size:=by obtain⟨wv,h1, -⟩:=h;exact h1.lt
 have f1:¬ 9223372036854775807<n.text.size+(⟨#[40]⟩:ByteArray).size:=by show ¬ _<_+1;omega
 have f2:¬ 9223372036854775807<n.text.size+1:=by omega
 have f3:(n.text++(⟨#[40]⟩:ByteArray)).size=n.text.size+1:=by rw[ByteArray.size_append];rfl
 have HT:=ae (show sb (n.text++(⟨#[40]⟩:ByteArray))=sb n.text++[40]by rw[afj];rfl);have hB:Below w.heap.size w ((w.alloc (.cells #[(.pointer (some ⟨b,0,none⟩))] 78)).alloc (.cells #[.int .i64 n.kind,.int .i64 n.num,.string n.text,.string n.ref.sh,.int .i64 n.ref.c,.int .i64 n.ref.r,.bool n.ref.ac,.bool n.ref.ar,.string n.af.sh,.int .i64 n.af.c,.int .i64 n.af.r,.bool n.af.ac,.bool n.af.ar,.slice A m c] 45)):=((ai _ w).alloc (ah _) _).alloc (by simp) _;have xU:Boxed ((w.alloc (.cells #[(.pointer (some ⟨b,0,none⟩))] 78)).alloc (.cells #[.int .i64 n.kind,.int .i64 n.num,.string n.text,.string n.ref.sh,.int .i64 n.ref.c,.int .i64 n.ref.r,.bool n.ref.ac,.bool n.ref.ar,.string n.af.sh,.int .i64 n.af.c,.int .i64 n.af.r,.bool n.af.ac,.bool n.af.ar,.slice A m c] 45)) w.heap.size 78 (.pointer (some ⟨b,0,none⟩)):=(Boxed.new w 78 (.pointer (some ⟨b,0,none⟩))).alloc _
 have HN:ax ((w.alloc (.cells #[(.pointer (some ⟨b,0,none⟩))] 78)).alloc (.cells #[.int .i64 n.kind,.int .i64 n.num,.string n.text,.string n.ref.sh,.int .i64 n.ref.c,.int .i64 n.ref.r,.bool n.ref.ac,.bool n.ref.ar,.string n.af.sh,.int .i64 n.af.c,.int .i64 n.af.r,.bool n.af.ac,.bool n.af.ar,.slice A m c] 45)) (w.heap.size+1) n (.slice A m c):=by
  have h:=ax.new (w.alloc (.cells #[(.pointer (some ⟨b,0,none⟩))] 78)) n (.slice A m c);rwa[kK]at h
 have HS:=ae hs;have HB:=ae hB;have HQ:=ae (h.below hB);have xK:=ae (hsi.below hB (Nat.le_of_lt hbw));have hsz:((w.alloc (.cells #[(.pointer (some ⟨b,0,none⟩))] 78)).alloc (.cells #[.int .i64 n.kind,.int .i64 n.num,.string n.text,.string n.ref.sh,.int .i64 n.ref.c,.int .i64 n.ref.r,.bool n.ref.ac,.bool n.ref.ar,.string n.af.sh,.int .i64 n.af.c,.int .i64 n.af.r,.bool n.af.ac,.bool n.af.ar,.slice A m c] 45)).heap.size=w.heap.size+2:=by simp
 clear h hs hk hsi hB;refine(callsIn_wide (n:=6)).1 ?_;refine callsIn_of_wp_marks Tryz.func102 rfl trivial ?_ rfl;simp only[Tryz.ntmps102,List.size_toArray,aO,dI,Nat.reduceAdd,Nat.reduceSub,Array.replicate_succ,Array.replicate_zero,List.push_toArray,List.append_toArray,gL,cu];gi_wp2
 obtain⟨w1,hw1⟩:∃w1,((w.alloc (.cells #[(.pointer (some ⟨b,0,none⟩))] 78)).alloc (.cells #[.int .i64 n.kind,.int .i64 n.num,.string n.text,.string n.ref.sh,.int .i64 n.ref.c,.int .i64 n.ref.r,.bool n.ref.ac,.bool n.ref.ar,.string n.af.sh,.int .i64 n.af.c,.int .i64 n.af.r,.bool n.af.ac,.bool n.af.ar,.slice A m c] 45))=w1:=⟨_,rfl⟩;rw[hw1]at HN HB HQ xK xU hsz ⊢;obtain⟨z,hzz⟩:∃z,w.heap.size=z:=⟨_,rfl⟩;rw[hzz]at HN xU hsz ⊢;have hzl:z<w1.heap.size:=by omega
 have aaw:z+1<w1.heap.size:=HN.lt;have hzb:z≠b:=by omega
 have QH:z+1≠b:=by omega
 have bS:=ae HN;have rM:=ae xU;have x0:=xU.cell;obtain⟨-, -,x2, -, -, -, -, -, -, -, -, -, -,aF⟩:=HN.cells;have HW:=ae (fun wr (hr:Below w1.heap.size w1 wr) wv (h1:kQ w1 b nv wv txt)=>rJ wr b nv wv txt (n.text++(⟨#[40]⟩:ByteArray)) (h1.below hr) (by rw[f3];omega));have H1:=ae ((ai w1.heap.size w1).drew);clear hw1 HN xU f3;obtain⟨wv,hws,gW⟩:=HQ.o;have tY:=ae hws;have HO:=ae gW;clear hws gW;refine wpIn_wide.2 ?_
 go_region_held3 (fun w'=>w'.cell? ⟨z,0,none⟩=some (.pointer (some ⟨b,0,none⟩))∧w'.cell? ⟨z+1,2,none⟩=some (.string n.text)) (go_keep) (first
  | (go_at_call 65;((with_reducible refine(HW.o _ H1.o wv tY.o).mono ?_);rintro e w2 ⟨⟨x,rfl⟩,h3,h4⟩;have Jf:=ae h3;have bI:=ae h4;have iL:=bI.o.block z hzl hzb (.inr fun cur fr e=>by
      have h6:w1.heap[z]? = some (.cells #[.pointer (some ⟨b,0,none⟩)] 78):=rM.o;have h7:w1.drew.heap[z]? = w1.heap[z]? := rfl;rw[h7,h6]at e;injection e with e;injection e with _ e2;exact absurd e2 (by decide));have FL:=bI.o.block (z+1) aaw QH (.inr fun cur fr e=>by
      have h6:w1.heap[z+1]? = some (.cells (bJ n (.slice A m c)) 45):=bS.o;have h7:w1.drew.heap[z+1]? = w1.heap[z+1]? := rfl;rw[h7,h6]at e;injection e with e;injection e with _ e2;exact absurd e2 (by decide));have p0:=(fV (a:=⟨z,0,none⟩) iL).trans x0;have p2:=(fV (a:=⟨z+1,2,none⟩) FL).trans x2;have p13:=(fV (a:=⟨z+1,13,none⟩) FL).trans aF;clear h3 h4)))
 gi_wp2
 have C8:w1.heap.size≤w2.heap.size:=bI.o.size;have Je:=ae (show dC w2 b nv st (txt++sb (n.text++(⟨#[40]⟩:ByteArray)))from dC.wrote (HO.o.below H1.o (ah _)) Jf.o bI.o);have p8:=ae (fun (w3:World)(h3:Below w2.heap.size w2 w3)=>Ad w3 b nv st [ay.plain ⟨#[41]⟩] (txt++sb (n.text++(⟨#[40]⟩:ByteArray))) #[.string ⟨#[41]⟩,.int .i64 0,.int .i64 0] 1 rfl rfl (Je.o.below h3) (by show 1≤1000000;decide) (by omega));have HZ2:=ae iL;have WJ:=ae FL;have H2:=ae ((ai w2.heap.size w2).drew);have zP:z<w2.heap.size:=by omega
 have aax:z+1<w2.heap.size:=by omega
 clear x0 x2 aF iL FL p2;refine wpIn_wide.2 ?_
 go_region_held3 (fun w'=>w'.cell? ⟨z,0,none⟩=some (.pointer (some ⟨b,0,none⟩))) (go_keep) (first
  | (go_at_call 67;((with_reducible refine(Gs _ _).mono ?_);rintro e w3 ⟨rfl,h3⟩;have H3:=ae (H2.o.trans (h3.mono H2.o.size));have q0:=(H3.o.cell (p:=⟨z,0,none⟩) zP).trans p0;clear h3))
  | (go_at_call 38;((with_reducible refine(p8.o _ H3.o).mono ?_);rintro e w5 ⟨rfl,h3,h4⟩;have rT:=ae h3;have aR:=ae h4;have iL:=bn.boxed aR.o (k:=z) (v := .pointer (some ⟨b,0,none⟩)) (t:=78) ((H3.o.block z zP).trans (HZ2.o.trans rM.o)) hzb (by decide) (by decide);have r0:=(fV (a:=⟨z,0,none⟩) iL).trans q0;clear h3 h4)))
 have Bg:w2.heap.size≤w3.heap.size:=H3.o.size
 have N5:ax w5 (z+1) n (.slice A m c):=by
  unfold ax;have e1:w3.heap[z+1]? = some (.cells (bJ n (.slice A m c)) 45):=(H3.o.block (z+1) aax).trans (WJ.o.trans bS.o);rw[aR.o.block (z+1) (by omega) QH (.inr fun cur fr=>⟨fun e=>by(rw[e1]at e;injection e with e;injection e with _ e2;exact absurd e2 (by decide)),fun e=>by(rw[e1]at e;injection e with e;injection e with _ e2;exact absurd e2 (by decide))⟩)];exact e1
 obtain⟨-, -, -, -, -, -, -, -, -, -, -, -, -,aF⟩:=N5.cells;have Nh:=ae (((bn.iq H1.o).trans (bn.sQ bI.o)).trans ((bn.iq H3.o).trans aR.o));have eP:Boxed w5 z 78 (.pointer (some ⟨b,0,none⟩)):=iL.trans ((H3.o.block z zP).trans (HZ2.o.trans rM.o));have yg:w3.heap.size≤w5.heap.size:=aR.o.size;have zy:b<w1.heap.size:=by omega
 have WV:=xK.o.oC Nh.o (ah _) zy;clear N5 iL q0 r0 p0
 gi_wp2_with (refine⟨trivial, ?_⟩;gi_at_call 132;refine(Xr Fence.wide _ trivial rfl _ _ _ _).mono ?_;rintro e w' ⟨rfl,rfl⟩)
 have uo:=Boxed.new w5 28 (.slice A m c);have gG:Below w5.heap.size w5 (w5.alloc (.cells #[.slice A m c] 28)):=(ai _ _).alloc (ah _) _;have Oq:=eP.alloc (.cells #[.slice A m c] 28);have QA:(w5.alloc (.cells #[.slice A m c] 28)).heap.size=w5.heap.size+1:=by simp
 obtain⟨zs,hzs⟩:∃zs,w5.heap.size=zs:=⟨_,rfl⟩;obtain⟨w6,oF⟩:∃w6,w5.alloc (.cells #[.slice A m c] 28)=w6:=⟨_,rfl⟩;rw[oF]at uo gG Oq QA ⊢;rw[hzs]at uo QA ⊢;have FM:zs≠b:=by omega
 have aiO:z≠zs:=by omega
 obtain⟨A',oZ,hsl,hcm, -,hcell⟩:=WV;injection hsl with e1 e2 e3;subst e1 e2 e3
 obtain ⟨pb,po,hpb,Kh,hcl⟩:∃pb po,pb<w6.heap.size∧(pb<b∨pb=zs)∧∀j y,n.kids[j]? = some y→A=some ⟨pb,po,none⟩∧w6.cell? ⟨pb,po+j,none⟩=some (.int .i64 y):=by
  rcases hcell with he|⟨pb,po,hA,hp,hc⟩
  · exact⟨zs,0,by omega,.inr rfl,fun j y hj=>by rw[he]at hj;cases hj⟩
  · exact⟨pb,po,by omega,.inl hp,fun j y hj=>⟨hA,(gG.cell (p:=⟨pb,po+j,none⟩) (by show pb<_;omega)).trans (hc j y hj)⟩⟩
 have vw:dC w6 b nv (st++[ay.plain ⟨#[41]⟩]) (txt++sb (n.text++(⟨#[40]⟩:ByteArray))):=rT.o.below gG;have Ng:=ae ((bn.iq HB.o).trans (Nh.o.trans (bn.iq gG)));have aiN:z+2≤zs:=by omega
 clear hcell oF hzs aF eP
 refine wpIn_rangeFunc_ownH (F:=Fence.wide) (n:=6) rfl (by omega) (gf:=150) (lb:=#[.pointer (some ⟨zs,0,none⟩)]) rfl trivial (enters_of Tryz.func150 (by kernel_rfl) rfl)
  (Xn Fence.wide 5 trivial rfl (by omega) zs pb po c A n.kids (by omega) w6 uo.lt hpb uo.cell hcl)
  iP.trans (MH uo.lt hpb) (ai _ _) (fun _=>rfl)
  (MX w6 b nv (st++[ay.plain ⟨#[41]⟩]) (txt++sb (n.text++(⟨#[40]⟩:ByteArray))) z zs (.slice A n.kids.length c)) (fun _ _ _=>False)
  (XE (ah _)) (fun _ _ _ _ _ hs _ _=>hs) ⟨by rw[show sM []=[]from rfl,fM];exact vw,Oq,uo,bn.refl _ _⟩
  (fun y a' W=>a'={ tmps:=#[.pointer (some ⟨b,0,none⟩),.agg #[.int .i64 n.kind,.int .i64 n.num,.string n.text,.string n.ref.sh,.int .i64 n.ref.c,.int .i64 n.ref.r,.bool n.ref.ac,.bool n.ref.ar,.string n.af.sh,.int .i64 n.af.c,.int .i64 n.af.r,.bool n.af.ac,.bool n.af.ar,.slice A n.kids.length c],.pointer (some ⟨z,0,none⟩),.pointer (some ⟨z+1,0,none⟩),.int .i64 (y.1:Int),.int .i64 y.2,.pointer (some ⟨b,0,none⟩),.pointer (some ⟨b,0,none⟩),.pointer (some ⟨b,2,none⟩),.pointer (some ⟨z+1,2,none⟩),.string n.text,.string (n.text++⟨#[40]⟩),.tuple #[x,.nilIface],.pointer (some ⟨b,0,none⟩),.agg #[.string ⟨#[41]⟩,.int .i64 0,.int .i64 0],.slice (some ⟨w3.heap.size,0,none⟩) 1 1,.tuple #[],.pointer (some ⟨z+1,13,none⟩),.slice A n.kids.length c,.func (.func 150) #[] #[.pointer (some ⟨zs,0,none⟩)],.int .i64 (y.1:Int),.int .i64 y.2,undef,undef,undef,undef,undef,undef,undef,undef,undef,undef,undef],defers:=[] })
  (fun _ _ _ _ _ _ h _ _=>h) ?assign ?body ?done ?stop
 case assign =>
  rintro l pre ⟨j,k⟩ W K hI hK;dsimp only;gi_wp2
  exact hK _ _ (KeepsFrom.refl _ _) (iP.refl _ _ _) hI rfl
 case body =>
  rintro l pre ⟨j,k⟩ a' W - - ⟨hQ,hbz,hbs,hF⟩ rfl hlen;have hkl:=aa9 pre;have Jz:=hbz.cell;have WL:=ae hbz;have QF:z<W.heap.size:=hbz.lt;have VP:=ae (fun (wr:World)(hr:Below W.heap.size W wr)=>Ad wr b nv (st++[ay.plain ⟨#[41]⟩]++sM pre) [ay.op k 1] (txt++sb (n.text++(⟨#[40]⟩:ByteArray))) #[.string ⟨#[]⟩,.int .i64 k,.int .i64 1] 1 rfl rfl (hQ.below hr) (by show 1≤1000000;decide) (by rw[ak,ak];show st.length+1+_≤_;omega));have bY:(fun w'=>w'.cell? ⟨z,0,none⟩=some (.pointer (some ⟨b,0,none⟩))) W.drew:=Jz;dsimp only;gi_wp2
  refine Lv (by kernel_rfl) (by kernel_rfl) (wpAny_of_held (S:=(fun w'=>w'.cell? ⟨z,0,none⟩=some (.pointer (some ⟨b,0,none⟩)))) _ _ _ _ ?_);show wpAnyH _ _ _ _ _ 5 #[false,false,false,false,false] _ _;refine hT 0 bY ?_ (hQ:=(fun _ _ _ h=>(by cases h.1))) (hy:=by(intro gJ hSw;have e1:gJ.cell? ⟨z,0,none⟩=some (.pointer (some ⟨b,0,none⟩)):=hSw;go_simp;try(with_reducible rfl)));refine hT 1 bY ?_ (hQ:=(fun _ _ _ h=>(by cases h.1)));refine hO 2 (fun K hK => ?_);go_simp;refine(Dy _ _ _).mono ?_;rintro e MN ⟨rfl,h3⟩;have Eh:=ae ((ai W.heap.size W).drew.trans (h3.mono (ah _)));have NM:(fun w'=>w'.cell? ⟨z,0,none⟩=some (.pointer (some ⟨b,0,none⟩))) MN:=(Eh.o.cell (p:=⟨z,0,none⟩) QF).trans Jz;clear h3;go_wp2_with fail
  refine hK.o _ _ NM ?_;clear hK K;simp only[Act.put,sT,fG,fF];refine hO 3 (fun K hK => ?_);go_simp;refine hK.o _ _ ((((ai MN.heap.size MN).alloc (ah _) _).cell (p:=⟨z,0,none⟩) (dY QF Eh.o.size)).trans NM) ?_;clear hK K;simp only[Act.put,sT,fG,fF];refine hO 4 (fun K hK => ?_);go_simp;refine(VP.o _ Eh.o).mono ?_;rintro e yN ⟨rfl,h3,h4⟩;have NH:=ae h3;have AL:=ae ((bn.iq Eh.o).trans h4);have EC:=ae (bn.boxed AL.o WL.o hzb (by decide) (by decide));have IY:(fun w'=>w'.cell? ⟨z,0,none⟩=some (.pointer (some ⟨b,0,none⟩))) yN:=(fV (a:=⟨z,0,none⟩) EC.o).trans Jz;clear h3 h4;go_wp2_with fail
  refine hK.o _ _ IY ?_;clear hK K;simp only[Act.put,sT,fG,fF];refine wpAnyH_done (by kernel_rfl) ?_ _;refine⟨rfl, ?_⟩;have aiw:w6.heap.size≤W.heap.size:=hF.size
  have Oe:∀ {W1 W2:World},bn W1 W2 b→Boxed W1 zs 28 (.slice A n.kids.length c)→pb<W1.heap.size→iP zs pb W1 W2:=fun h1 h2 h3=>⟨h1.boxed h2 FM (by decide) (by decide),by
   rcases Kh with h|rfl
   · exact h1.block pb h3 (by omega) (.inl h)
   · exact h1.boxed h2 FM (by decide) (by decide)⟩
  cases j with
  | zero =>
    gi_wp2
    refine⟨AL.o.keeps (by omega),Oe AL.o hbs (by omega), ?_,EC.o.trans hbz,(AL.o.boxed hbs FM (by decide) (by decide)).trans hbs,hF.trans AL.o⟩;rw[FU, ← bG];exact NH.o
  | succ j =>
    have hj0:(0:Int)<((j+1:Nat):Int):=by omega
    have OJ:=IY;have NY:=ae (show Boxed yN z 78 (.pointer (some ⟨b,0,none⟩))from EC.o.trans hbz);have QG:z<yN.heap.size:=NY.o.lt;have VQ:=ae (fun (wr:World)(hr:Below yN.heap.size yN wr)=>Ad wr b nv (st++[ay.plain ⟨#[41]⟩]++sM pre++[ay.op k 1].reverse) [ay.plain ⟨#[44]⟩] (txt++sb (n.text++(⟨#[40]⟩:ByteArray))) #[.string ⟨#[44]⟩,.int .i64 0,.int .i64 0] 1 rfl rfl (NH.o.below hr) (by show 1≤1000000;decide) (by rw[ak,ak,ak];show st.length+1+_+1≤_;omega));have bY:(fun w'=>w'.cell? ⟨z,0,none⟩=some (.pointer (some ⟨b,0,none⟩))) yN.drew:=IY;gi_wp2
    refine Lv (by kernel_rfl) (by kernel_rfl) (wpAny_of_held (S:=(fun w'=>w'.cell? ⟨z,0,none⟩=some (.pointer (some ⟨b,0,none⟩)))) _ _ _ _ ?_);show wpAnyH _ _ _ _ _ 4 #[false,false,false,false] _ _;refine hT 0 bY ?_ (hQ:=(fun _ _ _ h=>(by cases h.1))) (hy:=by(intro gJ hSw;have e1:gJ.cell? ⟨z,0,none⟩=some (.pointer (some ⟨b,0,none⟩)):=hSw;go_simp;try(with_reducible rfl)));refine hO 1 (fun K hK => ?_);go_simp;refine(Gs _ _).mono ?_;rintro e MO ⟨rfl,h3⟩;have Ei:=ae ((ai yN.heap.size yN).drew.trans (h3.mono (ah _)));have NN:(fun w'=>w'.cell? ⟨z,0,none⟩=some (.pointer (some ⟨b,0,none⟩))) MO:=(Ei.o.cell (p:=⟨z,0,none⟩) QG).trans OJ;clear h3;go_wp2_with fail
    refine hK.o _ _ NN ?_;clear hK K;simp only[Act.put,sT,fG,fF];refine hO 2 (fun K hK => ?_);go_simp;refine hK.o _ _ ((((ai MO.heap.size MO).alloc (ah _) _).cell (p:=⟨z,0,none⟩) (dY QG Ei.o.size)).trans NN) ?_;clear hK K;simp only[Act.put,sT,fG,fF];refine hO 3 (fun K hK => ?_);go_simp;refine(VQ.o _ Ei.o).mono ?_;rintro e wBb ⟨rfl,h3,h4⟩;have VW:=ae h3;have Ni:=ae ((bn.iq Ei.o).trans h4);have NT:=ae (bn.boxed Ni.o NY.o hzb (by decide) (by decide));have V9:(fun w'=>w'.cell? ⟨z,0,none⟩=some (.pointer (some ⟨b,0,none⟩))) wBb:=(fV (a:=⟨z,0,none⟩) NT.o).trans OJ;clear h3 h4;go_wp2_with fail
    refine hK.o _ _ V9 ?_;clear hK K;simp only[Act.put,sT,fG,fF];refine wpAnyH_done (by kernel_rfl) ?_ _;refine⟨rfl, ?_⟩;gi_wp2
    have El:=ae (AL.o.trans Ni.o);refine⟨El.o.keeps (by omega),Oe El.o hbs (by omega), ?_,NT.o.trans (EC.o.trans hbz),(El.o.boxed hbs FM (by decide) (by decide)).trans hbs,hF.trans El.o⟩;rw[FU];have h:=VW.o;rw[bG (st++[ay.plain ⟨#[41]⟩]++sM pre),bG (st++[ay.plain ⟨#[41]⟩])]at h;exact h
 case done =>
  rintro D ys W hD rfl ⟨hQ,hbz,hbs,hF⟩ hK;gi_wp2
  have hg:=grownBy_putObj' W D (.deferred none);have hr:∀r,some D=some r→∃o:Obj,W.heap[r]? = some o∧o.isCells=false:=fun r e=>by cases e;exact⟨_,hK,rfl⟩
  refine⟨by simp,.inl ⟨_,_,rfl,run_takeDeferred hK, ?_⟩⟩;refine⟨_,results_none rfl _ _ _,rfl, ?_,(Ng.o.trans hF).stay hg (fun r e=>by cases e;have:=Ng.o.size;omega)⟩;rw[HS.o];rw[aa7,HT.o]at hQ;rw[show(nM n.kids++[ay.plain ⟨#[41]⟩]).reverse=[ay.plain ⟨#[41]⟩]++(nM n.kids).reverse from by rw[List.reverse_append];rfl, ← bG];exact hQ.stay hg hr
 case stop =>
  rintro D c pre W _ _ h _;exact h.elim
end Go.Proofs.YtaobhjliflomaaaGreatDoor
namespace Go.Proofs.YtaobhjliflomaaaGreatDoor
open Go.RowKit
def mK(w0 w:World)(b:Nat):Prop:=w0.heap.size≤b∧Below w0.heap.size w0 w∧kP w0∧qb w0∧qc w0
theorem mK.oC {w0 w w':World}{b:Nat}(h:mK w0 w b)(hf:bn w w' b):mK w0 w' b:=by
 obtain⟨h1,h2,h3⟩:=h;exact⟨h1,⟨hf.os.trans h2.os,hf.tape.trans h2.tape,hf.output.trans h2.output,bF h2.size hf.size,fun k hk=>(hf.block k (dY hk h2.size) (by omega) (.inl (by omega))).trans (h2.block k hk)⟩,h3⟩
theorem mK.tab{w0 w:World}{b:Nat}(h:mK w0 w b):kP w:=h.2.2.1.below h.2.1
theorem mK.acf{w0 w:World}{b:Nat}(h:mK w0 w b):qb w:=h.2.2.2.1.below h.2.1
theorem mK.shV{w0 w:World}{b:Nat}(h:mK w0 w b):qc w:=h.2.2.2.2.below h.2.1
theorem mK.max_lt {w0 w:World}{b:Nat}(h:mK w0 w b):4<b:=by
 obtain⟨h1, -, -,⟨m,hm⟩, -⟩:=h;exact dY (World.block_lt_of_cell? w0 _ hm) h1
theorem mK.afK{w0 w:World}{b:Nat}(h:mK w0 w b):0<b:=dY h.2.2.2.2.lt h.1
theorem abA {n:Nd}(h:bX n=true)(hk:n.kind=1):0≤n.num:=by
 have h:=(qg h).2.2.2.2.2;unfold aD at h;split at h
 · cases h
 · exact decide_eq_true_iff.1 h
theorem Sb (w0 w:World)(b:Nat)(nv:Value)(st:List ay)(txt:List Int)(n:Nd)(A:Option Addr)(m c:Nat)(hg:mK w0 w b)(h:dC w b nv st txt)(hn:bX n=true)(bE:n.num≤9223372036854775807)(hz:n.text.size≤1000000)(hz1:n.ref.sh.size≤1000000)(hz2:n.af.sh.size≤1000000)(hsi:ig w b (.slice A m c) n.kids)(hl:txt.length≤1000000000)(hls:st.length+2*n.kids.length+1≤2000000000) :
 Calls Tryz.prog (lV n.kind) #[.pointer (some ⟨b,0,none⟩),.agg #[.int .i64 n.kind,.int .i64 n.num,.string n.text,.string n.ref.sh,.int .i64 n.ref.c,.int .i64 n.ref.r,.bool n.ref.ac,.bool n.ref.ar,.string n.af.sh,.int .i64 n.af.c,.int .i64 n.af.r,.bool n.af.ac,.bool n.af.ar,.slice A m c]] w (lS w b nv st txt n):=by
 obtain⟨a1,a2, -,b1,b2, -⟩:=qg hn;have hst:st.length≤2000000000:=by omega
 by_cases hk:n.kind=1
 · rw[show lV n.kind=96 from by rw[hk];rfl]
   exact ac' w b nv st txt n A m c h hk n.num.toNat (by have:=abA hn hk;omega) (by omega) hg.tab hl
 have h1:=hk;clear hk;by_cases hk:n.kind=2
 · rw[show lV n.kind=97 from by rw[hk];rfl]
   exact ad5 w b nv st txt n A m c h hk hz hg.acf hg.max_lt hl
 have h2:=hk;clear hk;by_cases hk:n.kind=3
 · rw[show lV n.kind=98 from by rw[hk];rfl]
   by_cases hv:n.num=1
   · exact ahg w b nv st txt n A m c h hk hv hl
   · exact ahf w b nv st txt n A m c h hk hv hl
 have h3:=hk;clear hk;by_cases hk:n.kind=4
 · rw[show lV n.kind=99 from by rw[hk];rfl]
   exact Yo w b nv st txt n A m c h hk hl
 have h4:=hk;clear hk;by_cases hk:n.kind=5
 · rw[show lV n.kind=100 from by rw[hk];rfl]
   exact adI w b nv st txt n A m c h hk hz1 hg.tab hl
 have h5:=hk;clear hk;by_cases hk:n.kind=6
 · rw[show lV n.kind=101 from by rw[hk];rfl]
   exact adJ w b nv st txt n A m c h hk hz1 hz2 hg.tab hl
 have h6:=hk;clear hk;by_cases hk:n.kind=7
 · rw[show lV n.kind=102 from by rw[hk];rfl]
   exact XL w b nv st txt n A m c h hk hz hsi hl hls
 have h7:=hk;clear hk;by_cases hk:n.kind=8
 · rw[show lV n.kind=103 from by rw[hk];rfl]
   have hl1:=a1 hk;exact acO w b nv st txt n A m c h hk _ (dm (by omega:0<n.kids.length)) hsi hl hst
 have h8:=hk;clear hk;have hl2:=a2 (by omega);rw[show lV n.kind=104 from by unfold lV;rw[if_neg h1,if_neg h2,if_neg h3,if_neg h4,if_neg h5,if_neg h6,if_neg h7,if_neg h8]];exact Xz w b nv st txt n A m c h n.kind.toNat (by omega) (by omega) (by omega) _ _ (dm (by omega:0<n.kids.length)) (dm (by omega:1<n.kids.length)) hsi hg.shV hg.afK hst
theorem acN (s:ByteArray)(h:¬ s=⟨#[]⟩):s.toList.isEmpty=false:=by
 cases hq:s.toList with
 | nil=>exact absurd hq (rG s (fun e=>h (uR s e)))
 | cons a l=>rfl
theorem ahP (w:World)(b:Nat)(nv:Value)(st:List ay)(txt:List Int)(p:ay)(h:dC w b nv st txt)(hp:¬ p.t=⟨#[]⟩)(hz:txt.length+p.t.size≤1000000000) :
 Calls Tryz.prog 40 #[.pointer (some ⟨b,0,none⟩),.agg #[.string p.t,.int .i64 p.node,.int .i64 p.least]] w fun e w'=>e = .returned (.tuple #[])∧dC w' b nv st (txt++sb p.t)∧bn w w' b:=by
 have hB:Below w.heap.size w (w.alloc (.cells #[.string p.t,.int .i64 p.node,.int .i64 p.least] 87)):=(ai _ _).alloc (ah _) _;have HP:iG (w.alloc (.cells #[.string p.t,.int .i64 p.node,.int .i64 p.least] 87)) w.heap.size p:=iG.new w p;have hbw:b<w.heap.size:=by obtain⟨wv,h1, -⟩:=h;exact h1.lt
 have hne:=acN p.t hp;have HB:=ae hB;have HQ:=ae (h.below hB);clear h hp hB;go_enter Tryz.func40,Tryz.ntmps40;go_upto_region 1 with (fail)
 obtain⟨z,hzz⟩:∃z,w.heap.size=z:=⟨_,rfl⟩;obtain⟨w1,hw1⟩:∃w1,w.alloc (.cells #[.string p.t,.int .i64 p.node,.int .i64 p.least] 87)=w1:=⟨_,rfl⟩;rw[hw1]at HP HB HQ ⊢;rw[hzz]at HP ⊢;have hzl:z<w1.heap.size:=(dO.1 HP).1;have hzb:z≠b:=by omega
 obtain⟨x0,x1,x2⟩:=HP.cells;have bD:=ae HP;clear hzz hw1 HP;go_upto_region 2 with (fail)
 obtain⟨wv,hws,gW⟩:=HQ.o;have HW:=ae (rJ w1.drew b nv wv txt p.t (hws.below ((ai w1.heap.size w1).drew)) (by omega));have HO:=ae gW;have H1:=ae ((ai w1.heap.size w1).drew);clear hws gW
 go_region_held3 (fun w'=>w'.cell? ⟨z,0,none⟩=some (.string p.t)) (first|go_keep|exact S0) (first
  | (go_at_call 65;((with_reducible refine HW.o.mono ?_);rintro e w2 ⟨⟨x,rfl⟩,h3,h4⟩;have Jf:=ae h3;have bI:=ae h4;have S0:=(fV (a:=⟨z,0,none⟩) (bI.o.block z hzl hzb (.inr fun cur fr e=>by
      have h6:w1.heap[z]? = some (.cells (lW p) 87):=bD.o;have h7:w1.drew.heap[z]? = w1.heap[z]? := rfl;rw[h7,h6]at e;injection e with e;injection e with _ e2;exact absurd e2 (by decide)))).trans x0)))
 all_goals go_wp2_with fail
 all_goals refine bodyPost_ret (results_none rfl _ _ _) rfl ?_
 all_goals exact⟨rfl,dC.wrote (HO.o.below H1.o (ah _)) Jf.o bI.o,(bn.iq HB.o).trans ((bn.iq H1.o).trans (bn.sQ bI.o))⟩
theorem RN (k:Int):∀args (v:World),(callFunc (lV k) args).run Tryz.prog v = .ok (.enter (lV k) args) v:=by
 unfold lV;split
 · exact Go.Proofs.enters_of Tryz.func96 (by kernel_rfl) rfl
 split
 · exact Go.Proofs.enters_of Tryz.func97 (by kernel_rfl) rfl
 split
 · exact Go.Proofs.enters_of Tryz.func98 (by kernel_rfl) rfl
 split
 · exact Go.Proofs.enters_of Tryz.func99 (by kernel_rfl) rfl
 split
 · exact Go.Proofs.enters_of Tryz.func100 (by kernel_rfl) rfl
 split
 · exact Go.Proofs.enters_of Tryz.func101 (by kernel_rfl) rfl
 split
 · exact Go.Proofs.enters_of Tryz.func102 (by kernel_rfl) rfl
 split
 · exact Go.Proofs.enters_of Tryz.func103 (by kernel_rfl) rfl
 exact Go.Proofs.enters_of Tryz.func104 (by kernel_rfl) rfl
theorem ahN (w0 w:World)(b:Nat)(nv:Value)(vs:List (Nd × Value))(st:List ay)(txt:List Int)(i:Nat)(least:Int)(n:Nd)(k:Value)(hg:mK w0 w b)(h:dC w b nv st txt)(hsn:eF w b nv vs)(hz:SZ vs)(hnk:vs[i]? = some (n,k))(hnb:bX n=true)(bE:n.num≤9223372036854775807)(hr:¬ (bz n.kind:Int)+1<least)(hl:txt.length+1≤1000000000)(hls:st.length+2*n.kids.length+2≤2000000000) :
 Calls Tryz.prog 40 #[.pointer (some ⟨b,0,none⟩),.agg #[.string ⟨#[]⟩,.int .i64 (i:Int),.int .i64 least]] w fun e w'=>e = .returned (.tuple #[])∧dC w' b nv (st++(dQ n).2.reverse) (txt++(dQ n).1)∧bn w w' b:=by
 obtain⟨⟨A,cap,rfl,hat⟩,uF⟩:=hsn;obtain⟨hlen,hsz⟩:=hz;have hil:i<vs.length:=(dW.1 hnk).1;have bW:=fu hnk;obtain⟨hz1,hz2,hz3⟩:=hsz _ bW;have qp:ig w b k n.kids:=uF _ bW;obtain⟨aN,ck,hk,hkc,dn,_⟩:=id qp;obtain⟨nl,hnl⟩:∃nl,vs.length=nl:=⟨_,rfl⟩;obtain⟨m,hm⟩:∃m,n.kids.length=m:=⟨_,rfl⟩;rw[hm]at hk;subst hk;rw[hnl]at hlen hil h ⊢;have hi0:(0:Int)≤(i:Int):=by omega
 have hi1:(i:Int)<(nl:Int):=by omega
 obtain⟨pb,po,rfl,Kh,uE⟩:=hat.resolve_left (fun e=>by rw[e]at hnk;cases hnk);have hcell:=uE i n _ hnk;have hbw:b<w.heap.size:=by obtain⟨wv,h1, -⟩:=h;exact h1.lt
 have hB:Below w.heap.size w (w.alloc (.cells #[.string ⟨#[]⟩,.int .i64 (i:Int),.int .i64 least] 87)):=(ai _ _).alloc (ah _) _;have HP:iG (w.alloc (.cells #[.string ⟨#[]⟩,.int .i64 (i:Int),.int .i64 least] 87)) w.heap.size ⟨⟨#[]⟩,(i:Int),least⟩:=iG.new w ⟨⟨#[]⟩,(i:Int),least⟩;have HB:=ae hB;have HQ:=ae (h.below hB);have HG:=ae (hg.oC (bn.iq hB));have xK:=ae (qp.below hB (Nat.le_of_lt hbw));have hpb:pb<w.heap.size:=by omega
 obtain⟨rk,sI⟩:∃rk:Nat,bz n.kind=rk:=⟨_,rfl⟩;have uI:=Lr n.kind;rw[sI]at uI hr;have AQ:=ae uI;have uG:=RO n.kind;have hen:=RN n.kind;obtain⟨Dv,rz⟩:∃Dv,lV n.kind=Dv:=⟨_,rfl⟩;rw[rz]at uG hen;have xI:=ae uG;have qW:=ae hnb;have HZ1:=ae hz1;have HZ2:=ae hz2;have HZ3:=ae hz3;have Iw:=ae rz;have HM:=ae hm;clear h hg hB qp hkc dn hat uF hsz uE bW hnl hnk hlen uI uG sI rz hnb hz1 hz2 hz3 hm;go_enter Tryz.func40,Tryz.ntmps40;go_upto_region 1 with (fail)
 obtain⟨z,hzz⟩:∃z,w.heap.size=z:=⟨_,rfl⟩;obtain⟨w1,hw1⟩:∃w1,w.alloc (.cells #[.string ⟨#[]⟩,.int .i64 (i:Int),.int .i64 least] 87)=w1:=⟨_,rfl⟩;rw[hw1]at HP HB HQ HG xK ⊢;rw[hzz]at HP ⊢;have k0:w1.cell? ⟨pb,po+i*14,none⟩=some (.int .i64 n.kind):=(HB.o.cell (p:=⟨pb,po+i*14,none⟩) hpb).trans (hcell 0 (by omega));have k1:w1.cell? ⟨pb,po+i*14+1,none⟩=some (.int .i64 n.num):=(HB.o.cell (p:=⟨pb,po+i*14+1,none⟩) hpb).trans (hcell 1 (by omega));have k2:w1.cell? ⟨pb,po+i*14+2,none⟩=some (.string n.text):=(HB.o.cell (p:=⟨pb,po+i*14+2,none⟩) hpb).trans (hcell 2 (by omega));have k3:w1.cell? ⟨pb,po+i*14+3,none⟩=some (.string n.ref.sh):=(HB.o.cell (p:=⟨pb,po+i*14+3,none⟩) hpb).trans (hcell 3 (by omega));have k4:w1.cell? ⟨pb,po+i*14+4,none⟩=some (.int .i64 n.ref.c):=(HB.o.cell (p:=⟨pb,po+i*14+4,none⟩) hpb).trans (hcell 4 (by omega));have k5:w1.cell? ⟨pb,po+i*14+5,none⟩=some (.int .i64 n.ref.r):=(HB.o.cell (p:=⟨pb,po+i*14+5,none⟩) hpb).trans (hcell 5 (by omega));have k6:w1.cell? ⟨pb,po+i*14+6,none⟩=some (.bool n.ref.ac):=(HB.o.cell (p:=⟨pb,po+i*14+6,none⟩) hpb).trans (hcell 6 (by omega));have k7:w1.cell? ⟨pb,po+i*14+7,none⟩=some (.bool n.ref.ar):=(HB.o.cell (p:=⟨pb,po+i*14+7,none⟩) hpb).trans (hcell 7 (by omega));have k8:w1.cell? ⟨pb,po+i*14+8,none⟩=some (.string n.af.sh):=(HB.o.cell (p:=⟨pb,po+i*14+8,none⟩) hpb).trans (hcell 8 (by omega));have k9:w1.cell? ⟨pb,po+i*14+9,none⟩=some (.int .i64 n.af.c):=(HB.o.cell (p:=⟨pb,po+i*14+9,none⟩) hpb).trans (hcell 9 (by omega));have k10:w1.cell? ⟨pb,po+i*14+10,none⟩=some (.int .i64 n.af.r):=(HB.o.cell (p:=⟨pb,po+i*14+10,none⟩) hpb).trans (hcell 10 (by omega));have k11:w1.cell? ⟨pb,po+i*14+11,none⟩=some (.bool n.af.ac):=(HB.o.cell (p:=⟨pb,po+i*14+11,none⟩) hpb).trans (hcell 11 (by omega));have k12:w1.cell? ⟨pb,po+i*14+12,none⟩=some (.bool n.af.ar):=(HB.o.cell (p:=⟨pb,po+i*14+12,none⟩) hpb).trans (hcell 12 (by omega));have k13:w1.cell? ⟨pb,po+i*14+13,none⟩=some (.slice aN m ck):=(HB.o.cell (p:=⟨pb,po+i*14+13,none⟩) hpb).trans (hcell 13 (by omega));have hzl:z<w1.heap.size:=(dO.1 HP).1;have hzb:z≠b:=by omega
 have zy:b<w1.heap.size:=by omega
 have zJ:pb<w1.heap.size:=by omega
 obtain⟨x0,x1,x2⟩:=HP.cells;have xb:w1.cell? ⟨b,0,none⟩=some (.slice (some ⟨pb,po,none⟩) nl cap):=by obtain⟨wv,⟨ad,bv,h1, -⟩, -⟩:=HQ.o;exact h1.facts.1
 have bD:=ae HP;dsimp only at x0 x1 x2;clear hzz hw1 HP hcell;go_upto_region 2 with (fail)
 go_upto_region 3 with (fail)
 go_region_held3 (fun w'=>w'.cell? ⟨b,0,none⟩=some (.slice (some ⟨pb,po,none⟩) nl cap)∧w'.cell? ⟨z,1,none⟩=some (.int .i64 (i:Int))∧w'.cell? ⟨pb,po+i*14,none⟩=some (.int .i64 n.kind)∧w'.cell? ⟨pb,po+i*14+1,none⟩=some (.int .i64 n.num)∧w'.cell? ⟨pb,po+i*14+2,none⟩=some (.string n.text)∧w'.cell? ⟨pb,po+i*14+3,none⟩=some (.string n.ref.sh)∧w'.cell? ⟨pb,po+i*14+4,none⟩=some (.int .i64 n.ref.c)∧w'.cell? ⟨pb,po+i*14+5,none⟩=some (.int .i64 n.ref.r)∧w'.cell? ⟨pb,po+i*14+6,none⟩=some (.bool n.ref.ac)∧w'.cell? ⟨pb,po+i*14+7,none⟩=some (.bool n.ref.ar)∧w'.cell? ⟨pb,po+i*14+8,none⟩=some (.string n.af.sh)∧w'.cell? ⟨pb,po+i*14+9,none⟩=some (.int .i64 n.af.c)∧w'.cell? ⟨pb,po+i*14+10,none⟩=some (.int .i64 n.af.r)∧w'.cell? ⟨pb,po+i*14+11,none⟩=some (.bool n.af.ac)∧w'.cell? ⟨pb,po+i*14+12,none⟩=some (.bool n.af.ar)∧w'.cell? ⟨pb,po+i*14+13,none⟩=some (.slice aN m ck)) (go_keep) (fail)
 have HN:=ax.drew (ax.new w1 n (.slice aN m ck));have HB2:=(((ai w1.heap.size w1).alloc (ah _) (.cells #[.int .i64 n.kind,.int .i64 n.num,.string n.text,.string n.ref.sh,.int .i64 n.ref.c,.int .i64 n.ref.r,.bool n.ref.ac,.bool n.ref.ar,.string n.af.sh,.int .i64 n.af.c,.int .i64 n.af.r,.bool n.af.ac,.bool n.af.ar,(.slice aN m ck)] 45))).drew;obtain⟨z2,hz2⟩:∃z2,w1.heap.size=z2:=⟨_,rfl⟩;obtain⟨w2,hw2⟩:∃w2,((w1.alloc (.cells #[.int .i64 n.kind,.int .i64 n.num,.string n.text,.string n.ref.sh,.int .i64 n.ref.c,.int .i64 n.ref.r,.bool n.ref.ac,.bool n.ref.ar,.string n.af.sh,.int .i64 n.af.c,.int .i64 n.af.r,.bool n.af.ac,.bool n.af.ar,(.slice aN m ck)] 45)).drew)=w2:=⟨_,rfl⟩;rw[show(w1.alloc (.cells (bJ n (.slice aN m ck)) 45)).drew=w2 from hw2]at HN;rw[hw2]at HB2;rw[hw2,hz2];rw[hz2]at HN;have zP:z2<w2.heap.size:=HN.lt;have FK:z2≠b:=by omega
 have C8:b<w2.heap.size:=by omega
 have y2:=(HB2.cell (p:=⟨z,2,none⟩) hzl).trans x2;obtain⟨y0, -⟩:=HN.cells;have lG:=ae (HQ.o.below HB2);have HG2:=ae (HG.o.oC (bn.iq HB2));have IZ:=ae (xK.o.below HB2 (Nat.le_of_lt zy));have HZ:=ae HB2;have bS:=ae HN;clear hw2 hz2 HN HB2 x0 x1 x2 xb k0 k1 k2 k3 k4 k5 k6 k7 k8 k9 k10 k11 k12 k13;go_upto_region 4 with (fail)
 go_region_held3 (fun w'=>w'.cell? ⟨z2,0,none⟩=some (.int .i64 n.kind)∧w'.cell? ⟨z,2,none⟩=some (.int .i64 least)) (go_keep) (first
  | (go_at_call 66;((with_reducible refine(AQ.o _).mono ?_);rintro e w3 ⟨rfl,rfl⟩)))
 have HD2:=ae ((ai w2.heap.size w2).drew);have eQ:=ae (HG2.o.oC (bn.iq HD2.o));have y5:=ae (lG.o.below HD2.o);have I1:=ae (IZ.o.below HD2.o (Nat.le_of_lt C8));have aB:=ae (ax.drew bS.o);have J2:=C8;have Kv:z2<w2.drew.heap.size:=zP;go_upto_region 7 with (fail)
 have xA:=ae (fun (wr:World)(hr:Below w2.drew.heap.size w2.drew wr)=>Sb w0 wr b (.slice (some ⟨pb,po,none⟩) nl cap) (st) (txt) n aN m ck ((eQ.o).oC (bn.iq hr)) (y5.o.below hr) qW.o bE HZ1.o HZ2.o HZ3.o (I1.o.below hr (Nat.le_of_lt J2)) (by omega) (by have:=HM.o;omega));rw[Iw.o]at xA;have H3:=ae ((ai w2.drew.heap.size w2.drew).drew);obtain⟨k0,k1,k2,k3,k4,k5,k6,k7,k8,k9,k10,k11,k12,k13⟩:=aB.o.cells
 go_region_held3 (fun w'=>w'.cell? ⟨z2,0,none⟩=some (.int .i64 n.kind)∧w'.cell? ⟨z2,1,none⟩=some (.int .i64 n.num)∧w'.cell? ⟨z2,2,none⟩=some (.string n.text)∧w'.cell? ⟨z2,3,none⟩=some (.string n.ref.sh)∧w'.cell? ⟨z2,4,none⟩=some (.int .i64 n.ref.c)∧w'.cell? ⟨z2,5,none⟩=some (.int .i64 n.ref.r)∧w'.cell? ⟨z2,6,none⟩=some (.bool n.ref.ac)∧w'.cell? ⟨z2,7,none⟩=some (.bool n.ref.ar)∧w'.cell? ⟨z2,8,none⟩=some (.string n.af.sh)∧w'.cell? ⟨z2,9,none⟩=some (.int .i64 n.af.c)∧w'.cell? ⟨z2,10,none⟩=some (.int .i64 n.af.r)∧w'.cell? ⟨z2,11,none⟩=some (.bool n.af.ac)∧w'.cell? ⟨z2,12,none⟩=some (.bool n.af.ar)∧w'.cell? ⟨z2,13,none⟩=some (.slice aN m ck)) (first|go_keep|exact Js) (first
  | (go_at_call 68;((with_reducible refine(xI.o _).mono ?_);rintro e w4 ⟨rfl,rfl⟩))
  | ((with_reducible refine(xA.o _ H3.o).mono ?_);rintro e w5 ⟨rfl,h3,h4⟩;have rT:=ae h3;have aR:=ae h4;have Js:=ax.cells (show ax w5 z2 n (.slice aN m ck)from by
       unfold ax;have e1:w2.drew.drew.heap[z2]? = some (.cells (bJ n (.slice aN m ck)) 45):=aB.o;rw[aR.o.block z2 Kv FK (.inr fun cur fr=>⟨fun e=>by(rw[e1]at e;injection e with e;injection e with _ e2;exact absurd e2 (by decide)),fun e=>by(rw[e1]at e;injection e with e;injection e with _ e2;exact absurd e2 (by decide))⟩)];exact e1);clear h3 h4))
 all_goals go_wp2_with fail
 all_goals go_end0
 all_goals exact⟨rfl,rT.o,(bn.iq HB.o).trans ((bn.iq HZ.o).trans ((bn.iq (ai _ _).drew).trans ((bn.iq H3.o).trans aR.o)))⟩
theorem ahO (w0 w:World)(b:Nat)(nv:Value)(vs:List (Nd × Value))(st:List ay)(txt:List Int)(i:Nat)(least:Int)(n:Nd)(k:Value)(hg:mK w0 w b)(h:dC w b nv st txt)(hsn:eF w b nv vs)(hz:SZ vs)(hnk:vs[i]? = some (n,k))(hnb:bX n=true)(bE:n.num≤9223372036854775807)(hr:(bz n.kind:Int)+1<least)(hl:txt.length+1≤1000000000)(hls:st.length+2*n.kids.length+2≤2000000000) :
 Calls Tryz.prog 40 #[.pointer (some ⟨b,0,none⟩),.agg #[.string ⟨#[]⟩,.int .i64 (i:Int),.int .i64 least]] w fun e w'=>e = .returned (.tuple #[])∧dC w' b nv (st++[ay.plain ⟨#[41]⟩]++(dQ n).2.reverse) (txt++([40]++(dQ n).1))∧bn w w' b:=by
 obtain⟨⟨A,cap,rfl,hat⟩,uF⟩:=hsn;obtain⟨hlen,hsz⟩:=hz;have hil:i<vs.length:=(dW.1 hnk).1;have bW:=fu hnk;obtain⟨hz1,hz2,hz3⟩:=hsz _ bW;have qp:ig w b k n.kids:=uF _ bW;obtain⟨aN,ck,hk,hkc,dn,_⟩:=id qp;obtain⟨nl,hnl⟩:∃nl,vs.length=nl:=⟨_,rfl⟩;obtain⟨m,hm⟩:∃m,n.kids.length=m:=⟨_,rfl⟩;rw[hm]at hk;subst hk;rw[hnl]at hlen hil h ⊢;have hi0:(0:Int)≤(i:Int):=by omega
 have hi1:(i:Int)<(nl:Int):=by omega
 obtain⟨pb,po,rfl,Kh,uE⟩:=hat.resolve_left (fun e=>by rw[e]at hnk;cases hnk);have hcell:=uE i n _ hnk;have hbw:b<w.heap.size:=by obtain⟨wv,h1, -⟩:=h;exact h1.lt
 have hB:Below w.heap.size w (w.alloc (.cells #[.string ⟨#[]⟩,.int .i64 (i:Int),.int .i64 least] 87)):=(ai _ _).alloc (ah _) _;have HP:iG (w.alloc (.cells #[.string ⟨#[]⟩,.int .i64 (i:Int),.int .i64 least] 87)) w.heap.size ⟨⟨#[]⟩,(i:Int),least⟩:=iG.new w ⟨⟨#[]⟩,(i:Int),least⟩;have HB:=ae hB;have HQ:=ae (h.below hB);have HG:=ae (hg.oC (bn.iq hB));have xK:=ae (qp.below hB (Nat.le_of_lt hbw));have hpb:pb<w.heap.size:=by omega
 obtain⟨rk,sI⟩:∃rk:Nat,bz n.kind=rk:=⟨_,rfl⟩;have uI:=Lr n.kind;rw[sI]at uI hr;have AQ:=ae uI;have uG:=RO n.kind;have hen:=RN n.kind;obtain⟨Dv,rz⟩:∃Dv,lV n.kind=Dv:=⟨_,rfl⟩;rw[rz]at uG hen;have xI:=ae uG;have qW:=ae hnb;have HZ1:=ae hz1;have HZ2:=ae hz2;have HZ3:=ae hz3;have Iw:=ae rz;have HM:=ae hm;clear h hg hB qp hkc dn hat uF hsz uE bW hnl hnk hlen uI uG sI rz hnb hz1 hz2 hz3 hm;go_enter Tryz.func40,Tryz.ntmps40;go_upto_region 1 with (fail)
 obtain⟨z,hzz⟩:∃z,w.heap.size=z:=⟨_,rfl⟩;obtain⟨w1,hw1⟩:∃w1,w.alloc (.cells #[.string ⟨#[]⟩,.int .i64 (i:Int),.int .i64 least] 87)=w1:=⟨_,rfl⟩;rw[hw1]at HP HB HQ HG xK ⊢;rw[hzz]at HP ⊢;have k0:w1.cell? ⟨pb,po+i*14,none⟩=some (.int .i64 n.kind):=(HB.o.cell (p:=⟨pb,po+i*14,none⟩) hpb).trans (hcell 0 (by omega));have k1:w1.cell? ⟨pb,po+i*14+1,none⟩=some (.int .i64 n.num):=(HB.o.cell (p:=⟨pb,po+i*14+1,none⟩) hpb).trans (hcell 1 (by omega));have k2:w1.cell? ⟨pb,po+i*14+2,none⟩=some (.string n.text):=(HB.o.cell (p:=⟨pb,po+i*14+2,none⟩) hpb).trans (hcell 2 (by omega));have k3:w1.cell? ⟨pb,po+i*14+3,none⟩=some (.string n.ref.sh):=(HB.o.cell (p:=⟨pb,po+i*14+3,none⟩) hpb).trans (hcell 3 (by omega));have k4:w1.cell? ⟨pb,po+i*14+4,none⟩=some (.int .i64 n.ref.c):=(HB.o.cell (p:=⟨pb,po+i*14+4,none⟩) hpb).trans (hcell 4 (by omega));have k5:w1.cell? ⟨pb,po+i*14+5,none⟩=some (.int .i64 n.ref.r):=(HB.o.cell (p:=⟨pb,po+i*14+5,none⟩) hpb).trans (hcell 5 (by omega));have k6:w1.cell? ⟨pb,po+i*14+6,none⟩=some (.bool n.ref.ac):=(HB.o.cell (p:=⟨pb,po+i*14+6,none⟩) hpb).trans (hcell 6 (by omega));have k7:w1.cell? ⟨pb,po+i*14+7,none⟩=some (.bool n.ref.ar):=(HB.o.cell (p:=⟨pb,po+i*14+7,none⟩) hpb).trans (hcell 7 (by omega));have k8:w1.cell? ⟨pb,po+i*14+8,none⟩=some (.string n.af.sh):=(HB.o.cell (p:=⟨pb,po+i*14+8,none⟩) hpb).trans (hcell 8 (by omega));have k9:w1.cell? ⟨pb,po+i*14+9,none⟩=some (.int .i64 n.af.c):=(HB.o.cell (p:=⟨pb,po+i*14+9,none⟩) hpb).trans (hcell 9 (by omega));have k10:w1.cell? ⟨pb,po+i*14+10,none⟩=some (.int .i64 n.af.r):=(HB.o.cell (p:=⟨pb,po+i*14+10,none⟩) hpb).trans (hcell 10 (by omega));have k11:w1.cell? ⟨pb,po+i*14+11,none⟩=some (.bool n.af.ac):=(HB.o.cell (p:=⟨pb,po+i*14+11,none⟩) hpb).trans (hcell 11 (by omega));have k12:w1.cell? ⟨pb,po+i*14+12,none⟩=some (.bool n.af.ar):=(HB.o.cell (p:=⟨pb,po+i*14+12,none⟩) hpb).trans (hcell 12 (by omega));have k13:w1.cell? ⟨pb,po+i*14+13,none⟩=some (.slice aN m ck):=(HB.o.cell (p:=⟨pb,po+i*14+13,none⟩) hpb).trans (hcell 13 (by omega));have hzl:z<w1.heap.size:=(dO.1 HP).1;have hzb:z≠b:=by omega
 have zy:b<w1.heap.size:=by omega
 have zJ:pb<w1.heap.size:=by omega
 obtain⟨x0,x1,x2⟩:=HP.cells;have xb:w1.cell? ⟨b,0,none⟩=some (.slice (some ⟨pb,po,none⟩) nl cap):=by obtain⟨wv,⟨ad,bv,h1, -⟩, -⟩:=HQ.o;exact h1.facts.1
 have bD:=ae HP;dsimp only at x0 x1 x2;clear hzz hw1 HP hcell;go_upto_region 2 with (fail)
 go_upto_region 3 with (fail)
 go_region_held3 (fun w'=>w'.cell? ⟨b,0,none⟩=some (.slice (some ⟨pb,po,none⟩) nl cap)∧w'.cell? ⟨z,1,none⟩=some (.int .i64 (i:Int))∧w'.cell? ⟨pb,po+i*14,none⟩=some (.int .i64 n.kind)∧w'.cell? ⟨pb,po+i*14+1,none⟩=some (.int .i64 n.num)∧w'.cell? ⟨pb,po+i*14+2,none⟩=some (.string n.text)∧w'.cell? ⟨pb,po+i*14+3,none⟩=some (.string n.ref.sh)∧w'.cell? ⟨pb,po+i*14+4,none⟩=some (.int .i64 n.ref.c)∧w'.cell? ⟨pb,po+i*14+5,none⟩=some (.int .i64 n.ref.r)∧w'.cell? ⟨pb,po+i*14+6,none⟩=some (.bool n.ref.ac)∧w'.cell? ⟨pb,po+i*14+7,none⟩=some (.bool n.ref.ar)∧w'.cell? ⟨pb,po+i*14+8,none⟩=some (.string n.af.sh)∧w'.cell? ⟨pb,po+i*14+9,none⟩=some (.int .i64 n.af.c)∧w'.cell? ⟨pb,po+i*14+10,none⟩=some (.int .i64 n.af.r)∧w'.cell? ⟨pb,po+i*14+11,none⟩=some (.bool n.af.ac)∧w'.cell? ⟨pb,po+i*14+12,none⟩=some (.bool n.af.ar)∧w'.cell? ⟨pb,po+i*14+13,none⟩=some (.slice aN m ck)) (go_keep) (fail)
 have HN:=ax.drew (ax.new w1 n (.slice aN m ck));have HB2:=(((ai w1.heap.size w1).alloc (ah _) (.cells #[.int .i64 n.kind,.int .i64 n.num,.string n.text,.string n.ref.sh,.int .i64 n.ref.c,.int .i64 n.ref.r,.bool n.ref.ac,.bool n.ref.ar,.string n.af.sh,.int .i64 n.af.c,.int .i64 n.af.r,.bool n.af.ac,.bool n.af.ar,(.slice aN m ck)] 45))).drew;obtain⟨z2,hz2⟩:∃z2,w1.heap.size=z2:=⟨_,rfl⟩;obtain⟨w2,hw2⟩:∃w2,((w1.alloc (.cells #[.int .i64 n.kind,.int .i64 n.num,.string n.text,.string n.ref.sh,.int .i64 n.ref.c,.int .i64 n.ref.r,.bool n.ref.ac,.bool n.ref.ar,.string n.af.sh,.int .i64 n.af.c,.int .i64 n.af.r,.bool n.af.ac,.bool n.af.ar,(.slice aN m ck)] 45)).drew)=w2:=⟨_,rfl⟩;rw[show(w1.alloc (.cells (bJ n (.slice aN m ck)) 45)).drew=w2 from hw2]at HN;rw[hw2]at HB2;rw[hw2,hz2];rw[hz2]at HN;have zP:z2<w2.heap.size:=HN.lt;have FK:z2≠b:=by omega
 have C8:b<w2.heap.size:=by omega
 have y2:=(HB2.cell (p:=⟨z,2,none⟩) hzl).trans x2;obtain⟨y0, -⟩:=HN.cells;have lG:=ae (HQ.o.below HB2);have HG2:=ae (HG.o.oC (bn.iq HB2));have IZ:=ae (xK.o.below HB2 (Nat.le_of_lt zy));have HZ:=ae HB2;have bS:=ae HN;clear hw2 hz2 HN HB2 x0 x1 x2 xb k0 k1 k2 k3 k4 k5 k6 k7 k8 k9 k10 k11 k12 k13;go_upto_region 4 with (fail)
 go_region_held3 (fun w'=>w'.cell? ⟨z2,0,none⟩=some (.int .i64 n.kind)∧w'.cell? ⟨z,2,none⟩=some (.int .i64 least)) (go_keep) (first
  | (go_at_call 66;((with_reducible refine(AQ.o _).mono ?_);rintro e w3 ⟨rfl,rfl⟩)))
 have HD2:=ae ((ai w2.heap.size w2).drew);obtain⟨wv,hws,gW⟩:=lG.o;have HW:=ae (rJ w2.drew b _ wv txt ⟨#[40]⟩ (hws.below HD2.o) (by show txt.length+1≤_;omega));have HO:=ae (gW.below HD2.o (ah _));clear hws gW;go_upto_region 5 with (fail)
 go_upto_region 6 with (go_at_call 65;((with_reducible refine HW.o.mono ?_);rintro e u3 ⟨⟨x,rfl⟩,h3,h4⟩;have WE:=ae h3;have dD:=ae h4;clear h3 h4))
 have WC:=ae (show dC u3 b (.slice (some ⟨pb,po,none⟩) nl cap) st (txt++[40])from by
  have h:=dC.wrote HO.o WE.o dD.o;rwa[show sb ⟨#[40]⟩=[40]by decide]at h)
 have p8:=ae (fun (wr:World)(hr:Below u3.heap.size u3 wr)=>Ad wr b (.slice (some ⟨pb,po,none⟩) nl cap) st [ay.plain ⟨#[41]⟩] (txt++[40]) #[.string ⟨#[41]⟩,.int .i64 0,.int .i64 0] 1 rfl rfl (WC.o.below hr) (by show 1≤1000000;decide) (by omega))
 go_upto_region 7 with (first
  | (go_at_call 67;((with_reducible refine(Gs _ _).mono ?_);rintro e u4 ⟨rfl,h3⟩;have dJ:=ae h3;clear h3))
  | (go_at_call 38;((with_reducible refine(p8.o _ dJ.o).mono ?_);rintro e u5 ⟨rfl,h3,h4⟩;have VY:=ae h3;have Vv:=ae h4;clear h3 h4)))
 have Ci:=ae (((bn.iq HD2.o).trans (bn.sQ dD.o)).trans ((bn.iq dJ.o).trans Vv.o));have eQ:=ae (HG2.o.oC Ci.o);have I1:=ae (IZ.o.oC Ci.o (ah _) C8);have Kq:w2.heap.size≤u5.heap.size:=Ci.o.size;have y5:=ae (show dC u5 b (.slice (some ⟨pb,po,none⟩) nl cap) (st++[ay.plain ⟨#[41]⟩]) (txt++[40])from VY.o)
 have aB:=ae (show ax u5 z2 n (.slice aN m ck)from by
  unfold ax;have e1:w2.heap[z2]? = some (.cells (bJ n (.slice aN m ck)) 45):=bS.o;rw[Ci.o.block z2 zP FK (.inr fun cur fr=>⟨fun e=>by(rw[e1]at e;injection e with e;injection e with _ e2;exact absurd e2 (by decide)),fun e=>by(rw[e1]at e;injection e with e;injection e with _ e2;exact absurd e2 (by decide))⟩)];exact e1)
 have J2:b<u5.heap.size:=by omega
 have Kv:z2<u5.drew.heap.size:=by show z2<u5.heap.size;omega
 clear y0 y2;have xA:=ae (fun (wr:World)(hr:Below u5.heap.size u5 wr)=>Sb w0 wr b (.slice (some ⟨pb,po,none⟩) nl cap) (st++[ay.plain ⟨#[41]⟩]) (txt++[40]) n aN m ck ((eQ.o).oC (bn.iq hr)) (y5.o.below hr) qW.o bE HZ1.o HZ2.o HZ3.o (I1.o.below hr (Nat.le_of_lt J2)) (by rw[ak];show txt.length+1≤_;omega) (by rw[ak];show st.length+1+_+1≤_;have:=HM.o;omega));rw[Iw.o]at xA;have H3:=ae ((ai u5.heap.size u5).drew);obtain⟨k0,k1,k2,k3,k4,k5,k6,k7,k8,k9,k10,k11,k12,k13⟩:=aB.o.cells
 go_region_held3 (fun w'=>w'.cell? ⟨z2,0,none⟩=some (.int .i64 n.kind)∧w'.cell? ⟨z2,1,none⟩=some (.int .i64 n.num)∧w'.cell? ⟨z2,2,none⟩=some (.string n.text)∧w'.cell? ⟨z2,3,none⟩=some (.string n.ref.sh)∧w'.cell? ⟨z2,4,none⟩=some (.int .i64 n.ref.c)∧w'.cell? ⟨z2,5,none⟩=some (.int .i64 n.ref.r)∧w'.cell? ⟨z2,6,none⟩=some (.bool n.ref.ac)∧w'.cell? ⟨z2,7,none⟩=some (.bool n.ref.ar)∧w'.cell? ⟨z2,8,none⟩=some (.string n.af.sh)∧w'.cell? ⟨z2,9,none⟩=some (.int .i64 n.af.c)∧w'.cell? ⟨z2,10,none⟩=some (.int .i64 n.af.r)∧w'.cell? ⟨z2,11,none⟩=some (.bool n.af.ac)∧w'.cell? ⟨z2,12,none⟩=some (.bool n.af.ar)∧w'.cell? ⟨z2,13,none⟩=some (.slice aN m ck)) (first|go_keep|exact Js) (first
  | (go_at_call 68;((with_reducible refine(xI.o _).mono ?_);rintro e w4 ⟨rfl,rfl⟩))
  | ((with_reducible refine(xA.o _ H3.o).mono ?_);rintro e w5 ⟨rfl,h3,h4⟩;have rT:=ae h3;have aR:=ae h4;have Js:=ax.cells (show ax w5 z2 n (.slice aN m ck)from by
       unfold ax;have e1:u5.drew.heap[z2]? = some (.cells (bJ n (.slice aN m ck)) 45):=aB.o;rw[aR.o.block z2 Kv FK (.inr fun cur fr=>⟨fun e=>by(rw[e1]at e;injection e with e;injection e with _ e2;exact absurd e2 (by decide)),fun e=>by(rw[e1]at e;injection e with e;injection e with _ e2;exact absurd e2 (by decide))⟩)];exact e1);clear h3 h4))
 all_goals go_wp2_with fail
 all_goals go_end0
 all_goals exact⟨rfl,by(have h:=rT.o;rw[bG txt]at h;exact h),(bn.iq HB.o).trans ((bn.iq HZ.o).trans (Ci.o.trans ((bn.iq H3.o).trans aR.o)))⟩
theorem Oi:∀ks:List Int,2*ks.length≤(nM ks).length+1
 | []=>dV _
 | [a]=>ah _
 | a :: b :: ks=>by
   have ih:=Oi (b :: ks);show 2*((b :: ks).length+1)≤((nM (b :: ks)).length+1+1)+1;omega
theorem abb {n:Nd}(h:bX n=true):2*n.kids.length≤(dQ n).2.length+4:=by
 obtain⟨a1,a2,a3,b1,b2, -⟩:=qg h;by_cases h6:n.kind≤6
 · rw[a3 ⟨b1,h6⟩];exact dV _
 by_cases h7:n.kind=7
 · have:=Oi n.kids
   rw[show(dQ n).2=nM n.kids++[ay.plain ⟨#[41]⟩]from by unfold dQ;rw[if_neg (by omega),if_neg (by omega),if_neg (by omega),if_neg (by omega),if_neg (by omega),if_neg (by omega),if_pos h7],ak];omega
 by_cases h8:n.kind=8
 · rw[a1 h8];omega
 · rw[a2 (by omega)];omega
theorem agv {l:List Nd}(h:bR l=true)(p:ay)(hp:jw l p):2≤2*(lY l p).1.length+(lY l p).2.length:=by
 have hn:∀n:Nd,bX n=true→2≤2*(dQ n).1.length+(dQ n).2.length:=by
  intro n hn;obtain⟨-, -, -,b1,b2, -⟩:=qg hn;unfold dQ;split
  · have:aQ n.num.toNat≠[]:=sG _
    have:=List.length_pos_iff.2 this;show 2≤2*(aQ n.num.toNat).length+0;omega
  split
  · simp;omega
  split
  · split <;> simp
  split
  · simp
  split
  · rename_i h5
    have hl:=(qg hn).2.2.2.2.2;have:aY (sb n.ref.sh) n.ref.c n.ref.r n.ref.ac n.ref.ar≠[]:=UI (Q9 hl h5);have:=List.length_pos_iff.2 this;show 2≤2*(aY _ _ _ _ _).length+0;omega
  split
  · simp;omega
  split
  · simp;omega
  split
  · simp
  · simp
 unfold lY;split
 · rename_i ht
   obtain⟨h0,h1⟩:=hp ht;have:=hn _ (yK h h0 h1).1;split
   · rw[aO,ak];show 2≤2*(_+1)+(_+1);omega
   · exact this
 · rename_i ht
   have:=List.length_pos_iff.2 (TR ht);show 2≤2*(sb p.t).length+0;omega
theorem agw {l:List Nd}{j:Nat}{m:Int}{n:Nd}(hn:nodeAt l (j:Int)=n):lY l ⟨⟨#[]⟩,(j:Int),m⟩=if (bz n.kind:Int)+1<m then (40 :: (dQ n).1,(dQ n).2++[ay.plain ⟨#[41]⟩])else dQ n:=by
 unfold lY;rw[if_pos rfl];dsimp only;rw[hn]
theorem ahM (w0 w:World)(b:Nat)(nv:Value)(vs:List (Nd × Value))(st:List ay)(txt:List Int)(p:ay)(hg:mK w0 w b)(h:dC w b nv st txt)(hsn:eF w b nv vs)(hz:SZ vs)(ht:bR (vs.map (·.1))=true)(bE:∀q∈vs,q.1.num≤9223372036854775807)(hp:jw (vs.map (·.1)) p)(hl:txt.length+(j3 (vs.map (·.1)) p).length≤1000000000)(hls:st.length+(j3 (vs.map (·.1)) p).length≤1000000000) :
 Calls Tryz.prog 40 #[.pointer (some ⟨b,0,none⟩),.agg (lW p)] w fun e w'=>e = .returned (.tuple #[])∧dC w' b nv (st++(lY (vs.map (·.1)) p).2.reverse) (txt++(lY (vs.map (·.1)) p).1)∧bn w w' b:=by
 obtain⟨t,i,m⟩:=p;by_cases hpt:t=⟨#[]⟩
 · subst hpt
   obtain⟨h0,h1⟩:=hp rfl;dsimp only at h0 h1;obtain⟨j,rfl⟩:∃j:Nat,i=(j:Int):=⟨i.toNat,by omega⟩;rw[fw]at h1;obtain⟨⟨n,k⟩,hnk⟩:∃q,vs[j]? = some q:=⟨_,dm (by omega)⟩
   have hn:nodeAt (vs.map (·.1)) (j:Int)=n:=by
    unfold nodeAt;rw[Int.toNat_natCast,jG,iw,hnk];rfl
   have hnb:=(yK ht h0 (by rw[fw];exact h1)).1;rw[hn]at hnb;have hkl:=abb hnb;have hne:=List.length_pos_iff.2 (SS ht _ hp);have hfl:=Fh ht _ (Mk ht _ hp);have hL:=Uw ht _ hp;have wQ:=congrArg List.length hL;rw[ak]at wQ;have hsp:=agw (m:=m) hn;rw[hsp]at hfl wQ ⊢;by_cases hr:(bz n.kind:Int)+1<m
   · rw[if_pos hr]at hfl wQ ⊢
     dsimp only at hfl wQ ⊢;rw[ak]at hfl;refine(ahO w0 w b nv vs st txt j m n k hg h hsn hz hnk hnb (bE _ (fu hnk)) hr (by omega) (by omega)).mono ?_;rintro e w' ⟨h1,h2,h3⟩;refine⟨h1, ?_,h3⟩;rw[List.reverse_append,List.reverse_singleton, ← bG];exact h2
   · rw[if_neg hr]at hfl wQ ⊢
     exact ahN w0 w b nv vs st txt j m n k hg h hsn hz hnk hnb (bE _ (fu hnk)) hr (by omega) (by omega)
 · have hs:lY (vs.map (·.1)) ⟨t,i,m⟩=(sb t,[]):=by unfold lY;rw[if_neg (show ¬ (⟨t,i,m⟩:ay).t=⟨#[]⟩from hpt)]
   have hp2:j3 (vs.map (·.1)) ⟨t,i,m⟩=sb t:=by unfold j3;rw[if_neg (show ¬ (⟨t,i,m⟩:ay).t=⟨#[]⟩from hpt)]
   rw[hs];rw[hp2,aV]at hl;dsimp only;rw[List.reverse_nil,fM];exact ahP w b nv st txt ⟨t,i,m⟩ h hpt hl
theorem YW (w:World)(n:Nd)(hv:Vars w)(hs:n.text.size≤1000000)(hr:n.ref.sh.size≤1000000)(ht:n.af.sh.size≤1000000)(bQ:okF n=true)(A:Option Addr)(m c:Nat) :
 Calls Tryz.prog 92 #[.agg #[.int .i64 n.kind,.int .i64 n.num,.string n.text,.string n.ref.sh,.int .i64 n.ref.c,.int .i64 n.ref.r,.bool n.ref.ac,.bool n.ref.ar,.string n.af.sh,.int .i64 n.af.c,.int .i64 n.af.r,.bool n.af.ac,.bool n.af.ar,.slice A m c]] w fun e w'=>e = .returned (.tuple #[.agg (bJ (iF n) (.slice none 0 0)),.bool (okF n)])∧Below w.heap.size w w':=by
 by_cases h1:n.kind=1
 · have e1:iF n={ Nd.zero with num:=n.num }:=by unfold iF;rw[if_pos h1]
   have e2:okF n=decide (0≤n.num):=by unfold okF;rw[if_pos h1]
   rw[e1,e2];exact YP n h1 A m c w
 by_cases h2:n.kind=2
 · have e1:iF n={ Nd.zero with text:=n.text }:=by unfold iF;rw[if_neg h1,if_pos h2]
   have e2:okF n=lI (sb n.text):=by unfold okF;rw[if_neg h1,if_pos h2]
   rw[e1,e2];exact YQ w n h2 hs A m c
 by_cases h3:n.kind=3
 · have e1:iF n={ Nd.zero with num:=n.num }:=by unfold iF;rw[if_neg h1,if_neg h2,if_pos h3]
   have e2:okF n=decide (n.num=0∨n.num=1):=by unfold okF;rw[if_neg h1,if_neg h2,if_pos h3]
   rw[e1,e2];by_cases k0:n.num=0
   · rw[decide_eq_true (Or.inl k0)];exact YR w n h3 k0 A m c
   · by_cases k1:n.num=1
     · rw[decide_eq_true (Or.inr k1)];exact YS w n h3 k1 A m c
     · have k:¬ (n.num=0∨n.num=1):=by omega
       rw[bQ,decide_eq_false k]at e2;exact absurd e2 (by decide)
 by_cases h5:n.kind=5
 · have e1:iF n={ Nd.zero with ref:=n.ref }:=by unfold iF;rw[if_neg h1,if_neg h2,if_neg h3,if_pos h5]
   have e2:okF n=bO n.ref:=by unfold okF;rw[if_neg h1,if_neg h2,if_neg h3,if_pos h5]
   rw[e1,e2];exact YT w n h5 hr A m c
 by_cases h6:n.kind=6
 · have e1:iF n=⟨0,0,⟨#[]⟩,n.ref,n.af,[]⟩:=by unfold iF;rw[if_neg h1,if_neg h2,if_neg h3,if_neg h5,if_pos h6]
   have e2:okF n=(bO n.ref&&(bO n.af&&eD n.ref n.af)):=by unfold okF;rw[if_neg h1,if_neg h2,if_neg h3,if_neg h5,if_pos h6]
   rw[e1,e2];cases q1:bO n.ref
   · rw[bQ,q1,Bool.false_and]at e2;exact absurd e2 (by decide)
   · cases q2:bO n.af
     · rw[bQ,q1,q2,Bool.false_and,Bool.and_false]at e2;exact absurd e2 (by decide)
     · exact YU w n h6 hr ht q1 q2 A m c
 by_cases h7:n.kind=7
 · have e1:iF n={ Nd.zero with text:=n.text }:=by unfold iF;rw[if_neg h1,if_neg h2,if_neg h3,if_neg h5,if_neg h6,if_pos h7]
   have e2:okF n=jy n.text:=by unfold okF;rw[if_neg h1,if_neg h2,if_neg h3,if_neg h5,if_neg h6,if_pos h7]
   rw[e1,e2];exact YV w n h7 hv A m c
 have e1:iF n=Nd.zero:=by unfold iF;rw[if_neg h1,if_neg h2,if_neg h3,if_neg h5,if_neg h6,if_neg h7]
 have e2:okF n=(decide (n.kind=4∨n.kind=8)||vZ n.kind):=by unfold okF;rw[if_neg h1,if_neg h2,if_neg h3,if_neg h5,if_neg h6,if_neg h7]
 rw[e1,e2];by_cases h4:n.kind=4
 · rw[decide_eq_true (Or.inl h4),Bool.true_or];exact YM w n h1 h2 h3 h5 h6 h7 h4 A m c
 · by_cases h8:n.kind=8
   · rw[decide_eq_true (Or.inr h8),Bool.true_or];exact YN w n h1 h2 h3 h5 h6 h7 h8 A m c
   · rw[decide_eq_false (by omega),Bool.false_or];exact YO w n h1 h2 h3 h5 h6 h7 h4 h8 A m c
theorem QS (w:World)(n:Nd)(hv:Vars w)(hs:n.text.size≤1000000)(hr:n.ref.sh.size≤1000000)(ht:n.af.sh.size≤1000000)(A:Option Addr)(m c:Nat)(hm:m≤maxLen)(bQ:uK n m=true) :
 Calls Tryz.prog 63 #[.agg #[.int .i64 n.kind,.int .i64 n.num,.string n.text,.string n.ref.sh,.int .i64 n.ref.c,.int .i64 n.ref.r,.bool n.ref.ac,.bool n.ref.ar,.string n.af.sh,.int .i64 n.af.c,.int .i64 n.af.r,.bool n.af.ac,.bool n.af.ar,.slice A m c]] w fun e w'=>e = .returned (.bool true)∧Below w.heap.size w w':=by
 have bZ:=ae bQ;have aaf:okF n=true:=by unfold uK at bQ;rw[dA]at bQ;exact bQ.1
 clear bQ;obtain⟨N,hN⟩:∃N,iF n=N:=⟨_,rfl⟩;obtain⟨ok,hok⟩:∃ok,okF n=ok:=⟨_,rfl⟩;obtain⟨hk,hhk⟩:∃hk,hkB n.kind m=hk:=⟨_,rfl⟩;have HI:=ae (show uK n m=(ok&&(hk&&(decide (n.num=N.num)&&(decide (n.text=N.text)&&(gD n.ref N.ref&&gD n.af N.af)))))by unfold uK;rw[hN,hok,hhk]);have HF:=ae (show ∀w,Vars w→Calls Tryz.prog 92 #[.agg #[.int .i64 n.kind,.int .i64 n.num,.string n.text,.string n.ref.sh,.int .i64 n.ref.c,.int .i64 n.ref.r,.bool n.ref.ac,.bool n.ref.ar,.string n.af.sh,.int .i64 n.af.c,.int .i64 n.af.r,.bool n.af.ac,.bool n.af.ar,.slice A m c]] w fun e w'=>e = .returned (.tuple #[.agg #[.int .i64 N.kind,.int .i64 N.num,.string N.text,.string N.ref.sh,.int .i64 N.ref.c,.int .i64 N.ref.r,.bool N.ref.ac,.bool N.ref.ar,.string N.af.sh,.int .i64 N.af.c,.int .i64 N.af.r,.bool N.af.ac,.bool N.af.ar,.slice none 0 0],.bool ok])∧Below w.heap.size w w' from fun w hv=>by rw[← hN, ← hok];exact YW w n hv hs hr ht aaf A m c);have HH:=ae (show ∀w,Calls Tryz.prog 93 #[.agg #[.int .i64 n.kind,.int .i64 n.num,.string n.text,.string n.ref.sh,.int .i64 n.ref.c,.int .i64 n.ref.r,.bool n.ref.ac,.bool n.ref.ar,.string n.af.sh,.int .i64 n.af.c,.int .i64 n.af.r,.bool n.af.ac,.bool n.af.ar,.slice A m c]] w fun e w'=>e = .returned (.bool hk)∧Below w.heap.size w w' from fun w=>by rw[← hhk];exact Zp n A m c hm w);have hx:ax (w.alloc (.cells #[.int .i64 n.kind,.int .i64 n.num,.string n.text,.string n.ref.sh,.int .i64 n.ref.c,.int .i64 n.ref.r,.bool n.ref.ac,.bool n.ref.ar,.string n.af.sh,.int .i64 n.af.c,.int .i64 n.af.r,.bool n.af.ac,.bool n.af.ar,.slice A m c] 45)) w.heap.size n (.slice A m c):=ax.new w n _;have HB:=ae ((ai w.heap.size w).alloc (ah _) (.cells #[.int .i64 n.kind,.int .i64 n.num,.string n.text,.string n.ref.sh,.int .i64 n.ref.c,.int .i64 n.ref.r,.bool n.ref.ac,.bool n.ref.ar,.string n.af.sh,.int .i64 n.af.c,.int .i64 n.af.r,.bool n.af.ac,.bool n.af.ar,.slice A m c] 45));have dH:=ae hv;clear hN hok hhk hv;go_enter Tryz.func63,Tryz.ntmps63;go_upto_region 1 with (fail)
 generalize w.alloc (.cells #[.int .i64 n.kind,.int .i64 n.num,.string n.text,.string n.ref.sh,.int .i64 n.ref.c,.int .i64 n.ref.r,.bool n.ref.ac,.bool n.ref.ar,.string n.af.sh,.int .i64 n.af.c,.int .i64 n.af.r,.bool n.af.ac,.bool n.af.ar,.slice A m c] 45)=w1 at hx HB ⊢;generalize hb0:w.heap.size=b0 at hx ⊢;obtain⟨x0,x1,x2,x3,x4,x5,x6,x7,av,aJ,aG,aH,aI,aF⟩:=hx.cells;have HX:=ae hx;clear hx;go_upto_region 2 with (go_at_call 92;((with_reducible refine(HF.o _ (dH.o.below HB.o)).mono ?_);rintro e w2 ⟨rfl,h1⟩;have bT:=ae (HX.o.below h1 HX.o.lt);have HB2:=ae (HB.o.trans (h1.mono HB.o.size));clear h1))
 have hB3:Below w2.heap.size w2 (w2.alloc (.cells #[.int .i64 N.kind,.int .i64 N.num,.string N.text,.string N.ref.sh,.int .i64 N.ref.c,.int .i64 N.ref.r,.bool N.ref.ac,.bool N.ref.ar,.string N.af.sh,.int .i64 N.af.c,.int .i64 N.af.r,.bool N.af.ac,.bool N.af.ar,.slice none 0 0] 45)):=(ai _ _).alloc (ah _) _;have hy:ax (w2.alloc (.cells #[.int .i64 N.kind,.int .i64 N.num,.string N.text,.string N.ref.sh,.int .i64 N.ref.c,.int .i64 N.ref.r,.bool N.ref.ac,.bool N.ref.ar,.string N.af.sh,.int .i64 N.af.c,.int .i64 N.af.r,.bool N.af.ac,.bool N.af.ar,.slice none 0 0] 45)) w2.heap.size N (.slice none 0 0):=ax.new w2 N _;have dZ:=ae (bT.o.below hB3 bT.o.lt);have HB3:=ae (HB2.o.trans (hB3.mono HB2.o.size));clear hB3 x0 x1 x2 x3 x4 x5 x6 x7 av aJ aG aH aI aF;generalize hb3:w2.heap.size=b3 at hy ⊢;generalize w2.alloc (.cells #[.int .i64 N.kind,.int .i64 N.num,.string N.text,.string N.ref.sh,.int .i64 N.ref.c,.int .i64 N.ref.r,.bool N.ref.ac,.bool N.ref.ar,.string N.af.sh,.int .i64 N.af.c,.int .i64 N.af.r,.bool N.af.ac,.bool N.af.ar,.slice none 0 0] 45)=w3 at hy dZ HB3 ⊢;clear hb3;have ze:=ae hy;clear hy;cases ok
 · obtain⟨x0,x1,x2,x3,x4,x5,x6,x7,av,aJ,aG,aH,aI,aF⟩:=dZ.o.cells
   have HR:=ae (show uK n m=false by rw[HI.o];rfl);exact absurd HR.o (by rw[bZ.o];decide)
 have go1:=dZ.o.cells;obtain⟨x0,x1,x2,x3,x4,x5,x6,x7,av,aJ,aG,aH,aI,aF⟩:=go1;cases hk
 · have HR:=ae (show uK n m=false by rw[HI.o];rfl)
   exact absurd HR.o (by rw[bZ.o];decide)
 by_cases bE:n.num=N.num;rotate_left
 · have HR:=ae (show uK n m=false by rw[HI.o,decide_eq_false bE];rfl)
   exact absurd HR.o (by rw[bZ.o];decide)
 have en:(n.num == N.num)=true:=beq_iff_eq.2 bE;by_cases htx:n.text=N.text;rotate_left
 · have HR:=ae (show uK n m=false by rw[HI.o,decide_eq_true bE,decide_eq_false htx];rfl)
   exact absurd HR.o (by rw[bZ.o];decide)
 have et:(n.text.toList == N.text.toList)=true:=by rw[htx];simp
 have HR:=ae (show uK n m=(gD n.ref N.ref&&gD n.af N.af)by rw[HI.o,decide_eq_true bE,decide_eq_true htx];rfl);have hq:=HR.o;rw[bZ.o]at hq;have hq2:=hq.symm;rw[dA,CR,CR]at hq2;obtain⟨q1,q2⟩:=hq2;clear hq;have r00:(n.ref.sh.toList == n.ref.sh.toList)=true:=beq_self_eq_true _;have s00:N.ref.sh.toList=n.ref.sh.toList:=by rw[q1]
 have r01:(n.ref.c == n.ref.c)=true:=beq_self_eq_true _;have s01:N.ref.c=n.ref.c:=by rw[q1]
 have r02:(n.ref.r == n.ref.r)=true:=beq_self_eq_true _;have s02:N.ref.r=n.ref.r:=by rw[q1]
 have r03:(n.ref.ac == n.ref.ac)=true:=beq_self_eq_true _;have s03:N.ref.ac=n.ref.ac:=by rw[q1]
 have r04:(n.ref.ar == n.ref.ar)=true:=beq_self_eq_true _;have s04:N.ref.ar=n.ref.ar:=by rw[q1]
 have r10:(n.af.sh.toList == n.af.sh.toList)=true:=beq_self_eq_true _;have s10:N.af.sh.toList=n.af.sh.toList:=by rw[q2]
 have r11:(n.af.c == n.af.c)=true:=beq_self_eq_true _;have s11:N.af.c=n.af.c:=by rw[q2]
 have r12:(n.af.r == n.af.r)=true:=beq_self_eq_true _;have s12:N.af.r=n.af.r:=by rw[q2]
 have r13:(n.af.ac == n.af.ac)=true:=beq_self_eq_true _;have s13:N.af.ac=n.af.ac:=by rw[q2]
 have r14:(n.af.ar == n.af.ar)=true:=beq_self_eq_true _;have s14:N.af.ar=n.af.ar:=by rw[q2]
 clear q1 q2;clear bE htx;go_wp2_with (go_at_call 93;((with_reducible refine(HH.o _).mono ?_);rintro e w4 ⟨rfl,h1⟩;have dJ:=ae (HB3.o.trans (h1.mono HB3.o.size));obtain⟨z0,z1,z2,z3,z4,z5,z6,z7,Ca,z9,BX,BZ,z12,Ec⟩:=(dZ.o.below h1 dZ.o.lt).cells;obtain⟨y0,y1,y2,y3,y4,fq,y6,lL,nE,uZ,uW,uX,uY,y13⟩:=(ze.o.below h1 ze.o.lt).cells;clear h1))
 all_goals go_ret
 all_goals exact⟨rfl,dJ.o⟩
theorem SV (w:World)(v:Value)(vs:List (Nd × Value))(hv:Vars w)(h:eF w w.heap.size v vs)(hz:SZ vs)(bQ:bR (vs.map (·.1))=true):Calls Tryz.prog 37 #[v] w fun e w'=>e = .returned (.bool true)∧Below w.heap.size w w':=by
 obtain⟨⟨A,cap,rfl,hat⟩,uF⟩:=h;obtain⟨hlen,hsz⟩:=hz;obtain⟨nl,hnl⟩:∃nl,vs.length=nl:=⟨_,rfl⟩;rw[hnl]at hlen ⊢;have bZ:=ae bQ;clear bQ;have dH:=ae hv;have HAT:=ae hat;have Cm:=ae uF;have q9:=ae hsz;have iW:=ae hnl;obtain⟨eb,jK,bV⟩:=Elem.kid;have jH:=ae bV;clear hv hat uF hsz hnl bV;go_enter Tryz.func37,Tryz.ntmps37;go_upto_region 3 with (fail)
 go_loopw [3,9] (fun rv iv wr=>∃(i:Nat)(st:List Int)(rk:Value),i≤nl∧st.length≤i∧rk=rv∧iv = .int .i64 (i:Int)∧Hid (bR (vs.map (·.1))=mI st i ((vs.map (·.1)).drop i))∧Hid (Own (aK .i64) 3 wr w.heap.size rk st)∧Hid (Below w.heap.size w wr))
  (fun _ iv _=>nl - (intOf iv).toNat)
 case atStart=>exact⟨0,[],.slice none 0 0,dV _,ah _,rfl,rfl,ae rfl,ae (Own.nil _ _ _ _),ae (ai _ _)⟩
 case round =>
  obtain⟨i,st,rk,hi,hsi,rfl,rfl,HT,HO,HB⟩:=hrel;by_cases hlt:i<nl
  · have hii:(i:Int)<(nl:Int):=by omega
    obtain⟨⟨n,k⟩,hnk⟩:∃q,vs[i]? = some q:=⟨_,dm (by rw[iW.o];exact hlt)⟩;have bW:=fu hnk;obtain⟨hz1,hz2,hz3⟩:=q9.o _ bW;have HZ1:=ae hz1;have HZ2:=ae hz2;have HZ3:=ae hz3;clear hz1 hz2 hz3;have qp:ig w w.heap.size k n.kids:=Cm.o _ bW;obtain⟨aN,ck,hk,hkc,dn,_⟩:=id qp;obtain⟨m,hm⟩:∃m,n.kids.length=m:=⟨_,rfl⟩;rw[hm]at hk hkc;subst hk;have hmm:m≤maxLen:=bF hkc dn;have hmx:m≤9223372036854775807:=by unfold maxLen at hmm;omega
    have Er:=ae hmm;have HM:=ae hm;have kN:=ae qp
    have HD:=ae (show(vs.map (·.1)).drop i=n :: (vs.map (·.1)).drop (i+1)by
     have hl:i<(vs.map (·.1)).length:=by rw[fw,iW.o];exact hlt
     rw[List.drop_eq_getElem_cons hl];congr 1;have h1:(vs.map (·.1))[i]? = some n:=by rw[iw,hnk];rfl
     rw[dm hl]at h1;exact dU h1)
    rcases HAT.o with e|⟨pb,po,rfl,hpb,uE⟩
    · exfalso;rw[e]at hnk;simp at hnk
    have hcell:=uE i n _ hnk;have k0:wr.cell? ⟨pb,po+i*14,none⟩=some (.int .i64 n.kind):=(HB.o.cell (p:=⟨pb,po+i*14,none⟩) hpb).trans (hcell 0 (by omega));have k1:wr.cell? ⟨pb,po+i*14+1,none⟩=some (.int .i64 n.num):=(HB.o.cell (p:=⟨pb,po+i*14+1,none⟩) hpb).trans (hcell 1 (by omega));have k2:wr.cell? ⟨pb,po+i*14+2,none⟩=some (.string n.text):=(HB.o.cell (p:=⟨pb,po+i*14+2,none⟩) hpb).trans (hcell 2 (by omega));have k3:wr.cell? ⟨pb,po+i*14+3,none⟩=some (.string n.ref.sh):=(HB.o.cell (p:=⟨pb,po+i*14+3,none⟩) hpb).trans (hcell 3 (by omega));have k4:wr.cell? ⟨pb,po+i*14+4,none⟩=some (.int .i64 n.ref.c):=(HB.o.cell (p:=⟨pb,po+i*14+4,none⟩) hpb).trans (hcell 4 (by omega));have k5:wr.cell? ⟨pb,po+i*14+5,none⟩=some (.int .i64 n.ref.r):=(HB.o.cell (p:=⟨pb,po+i*14+5,none⟩) hpb).trans (hcell 5 (by omega));have k6:wr.cell? ⟨pb,po+i*14+6,none⟩=some (.bool n.ref.ac):=(HB.o.cell (p:=⟨pb,po+i*14+6,none⟩) hpb).trans (hcell 6 (by omega));have k7:wr.cell? ⟨pb,po+i*14+7,none⟩=some (.bool n.ref.ar):=(HB.o.cell (p:=⟨pb,po+i*14+7,none⟩) hpb).trans (hcell 7 (by omega));have k8:wr.cell? ⟨pb,po+i*14+8,none⟩=some (.string n.af.sh):=(HB.o.cell (p:=⟨pb,po+i*14+8,none⟩) hpb).trans (hcell 8 (by omega));have k9:wr.cell? ⟨pb,po+i*14+9,none⟩=some (.int .i64 n.af.c):=(HB.o.cell (p:=⟨pb,po+i*14+9,none⟩) hpb).trans (hcell 9 (by omega));have k10:wr.cell? ⟨pb,po+i*14+10,none⟩=some (.int .i64 n.af.r):=(HB.o.cell (p:=⟨pb,po+i*14+10,none⟩) hpb).trans (hcell 10 (by omega));have k11:wr.cell? ⟨pb,po+i*14+11,none⟩=some (.bool n.af.ac):=(HB.o.cell (p:=⟨pb,po+i*14+11,none⟩) hpb).trans (hcell 11 (by omega));have k12:wr.cell? ⟨pb,po+i*14+12,none⟩=some (.bool n.af.ar):=(HB.o.cell (p:=⟨pb,po+i*14+12,none⟩) hpb).trans (hcell 12 (by omega));have k13:wr.cell? ⟨pb,po+i*14+13,none⟩=some (.slice aN m ck):=(HB.o.cell (p:=⟨pb,po+i*14+13,none⟩) hpb).trans (hcell 13 (by omega));clear hcell uE hnk bW qp hm hkc dn hmm;have hL:st.length≤1000:=by omega
    rcases HO.o.shape with ⟨rfl,hst⟩|⟨rg,vT,rfl,hrg,hrl,hrc,hrm⟩
    · have aao:st.length=0:=by rw[hst];rfl
      by_cases hm0:m=0;rotate_left
      · have zG : -(m:Int)<0:=by omega
        have pg:¬ m≤st.length:=by omega
        have HT2:=ae (show bR (vs.map (·.1))=false by rw[HT.o,HD.o,mJ,HM.o,decide_eq_false pg,Bool.false_and,Bool.and_false]);exact absurd HT2.o (by rw[bZ.o];decide)
      subst hm0;have HST:=ae hst;clear hst aao;have hB3:Below wr.heap.size wr (wr.alloc (.cells #[.int .i64 n.kind,.int .i64 n.num,.string n.text,.string n.ref.sh,.int .i64 n.ref.c,.int .i64 n.ref.r,.bool n.ref.ac,.bool n.ref.ar,.string n.af.sh,.int .i64 n.af.c,.int .i64 n.af.r,.bool n.af.ac,.bool n.af.ar,.slice aN 0 ck] 45)):=(ai _ _).alloc (ah _) _;have aB:ax (wr.alloc (.cells #[.int .i64 n.kind,.int .i64 n.num,.string n.text,.string n.ref.sh,.int .i64 n.ref.c,.int .i64 n.ref.r,.bool n.ref.ac,.bool n.ref.ar,.string n.af.sh,.int .i64 n.af.c,.int .i64 n.af.r,.bool n.af.ac,.bool n.af.ar,.slice aN 0 ck] 45)) wr.heap.size n (.slice aN 0 ck):=ax.new wr n _;have HB3:=ae (HB.o.trans (hB3.mono HB.o.size));have fZ:=ae (HO.o.alloc (.cells #[.int .i64 n.kind,.int .i64 n.num,.string n.text,.string n.ref.sh,.int .i64 n.ref.c,.int .i64 n.ref.r,.bool n.ref.ac,.bool n.ref.ar,.string n.af.sh,.int .i64 n.af.c,.int .i64 n.af.r,.bool n.af.ac,.bool n.af.ar,.slice aN 0 ck] 45));clear hB3;go_upto_region 6 with (fail)
      generalize hb3:wr.heap.size=b3 at aB ⊢;generalize wr.alloc (.cells #[.int .i64 n.kind,.int .i64 n.num,.string n.text,.string n.ref.sh,.int .i64 n.ref.c,.int .i64 n.ref.r,.bool n.ref.ac,.bool n.ref.ar,.string n.af.sh,.int .i64 n.af.c,.int .i64 n.af.r,.bool n.af.ac,.bool n.af.ar,.slice aN 0 ck] 45)=w3 at aB HB3 fZ ⊢;clear hb3 k0 k1 k2 k3 k4 k5 k6 k7 k8 k9 k10 k11 k12 k13 HO;have aB:=ae aB;obtain⟨f,hf⟩:∃f,st.length - 0=f:=⟨_,rfl⟩;have pg:0≤st.length:=dV _;have Db:f≤st.length:=by omega
      have gu:=ae (show ∀W,Below w3.heap.size w3 W→ig W w3.heap.size (.slice none 0 0) (st.drop f)from fun W hW=>⟨none,0,by rw[HST.o];simp,by rw[HST.o];simp,by unfold maxLen;omega,.inl (by rw[HST.o];simp)⟩);have I4:=ae (kN.o.below HB3.o (ah _));by_cases hdk:st.drop f=n.kids;rotate_left
      · have HT2:=ae (show bR (vs.map (·.1))=false by rw[HT.o,HD.o,mJ,HM.o,hf,decide_eq_false hdk,Bool.false_and,Bool.and_false,Bool.and_false])
        exact absurd HT2.o (by rw[bZ.o];decide)
      have xB:=ae (show ∀W,Below w3.heap.size w3 W→Calls Tryz.prog 62 #[.slice none 0 0,.slice aN 0 ck] W fun e w'=>e = .returned (.bool true)∧Below W.heap.size W w' from fun W hW=>by
       have:=Pf W w3.heap.size _ _ _ _ (gu.o W hW) ((I4.o.mono HB3.o.size).below hW (ah _));rw[decide_eq_true hdk]at this;exact this)
      have HDK:=ae hdk;cases hnb:bX n
      · have HT2:=ae (show bR (vs.map (·.1))=false by rw[HT.o,HD.o,mJ,hnb,Bool.false_and])
        exact absurd HT2.o (by rw[bZ.o];decide)
      · have HT2:=ae (show bR (vs.map (·.1))=mI (st.take f++[(i:Int)]) (i+1) ((vs.map (·.1)).drop (i+1))by rw[HT.o,HD.o,mJ,hnb,HM.o,decide_eq_true pg,hf,decide_eq_true hdk,Bool.true_and,Bool.true_and,Bool.true_and])
        have dN:=ae (show ∀W,Below w3.heap.size w3 W→Calls Tryz.prog 63 #[.agg #[.int .i64 n.kind,.int .i64 n.num,.string n.text,.string n.ref.sh,.int .i64 n.ref.c,.int .i64 n.ref.r,.bool n.ref.ac,.bool n.ref.ar,.string n.af.sh,.int .i64 n.af.c,.int .i64 n.af.r,.bool n.af.ac,.bool n.af.ar,.slice aN 0 ck]] W fun e w'=>e = .returned (.bool true)∧Below W.heap.size W w' from fun W hW=>by
         exact QS W n (dH.o.below (HB3.o.trans (hW.mono HB3.o.size))) HZ1.o HZ2.o HZ3.o aN 0 ck Er.o (by rw[← HM.o,QR,hnb]))
        clear pg hdk hnb;refine wp_region_held_drew (S:=fun W=>Below w3.heap.size w3 W) (by kernel_rfl) (Below.drew (ai w3.heap.size w3)) (fun _ => ?_);show wpAnyH _ _ _ _ _ 16 #[false,false,false,false,false,false,false,false,false,false,false,false,false,false,false,false] _ _;refine hT 0 (Below.drew (ai w3.heap.size w3)) ?_;refine hT 1 (Below.drew (ai w3.heap.size w3)) ?_;refine hT 2 (Below.drew (ai w3.heap.size w3)) ?_;refine hT 3 (Below.drew (ai w3.heap.size w3)) ?_;refine hT 4 (Below.drew (ai w3.heap.size w3)) ?_;refine hT 5 (Below.drew (ai w3.heap.size w3)) ?_;refine hT 6 (Below.drew (ai w3.heap.size w3)) ?_;refine hT 7 (Below.drew (ai w3.heap.size w3)) ?_ (hy:=by(intro gJ hSw;have hz:=(aB.o.below hSw aB.o.lt).cells;go_simp;try(with_reducible rfl)));refine hO 8 (fun K hK => ?_);go_simp;refine(xB.o _ (Below.drew (ai w3.heap.size w3))).mono ?_;rintro e w4 ⟨rfl,h1⟩;have HE:=ae ((Below.drew (ai w3.heap.size w3)).trans h1);clear h1;go_wp2_with fail
        refine hK.o _ _ HE.o ?_;clear hK K;simp only[Act.put,sT,fG,fF];refine hT 9 HE.o ?_;refine hT 10 HE.o ?_;refine hT 11 HE.o ?_;refine hT 12 HE.o ?_ (hy:=by(intro gJ hSw;have hz:=(aB.o.below hSw aB.o.lt).cells;go_simp;try(with_reducible rfl)));refine hO 13 (fun K hK => ?_);go_simp;refine(dN.o _ HE.o).mono ?_;rintro e w5 ⟨rfl,h1⟩;have HF:=ae (HE.o.trans (h1.mono HE.o.size));clear h1;go_wp2_with fail
        refine hK.o _ _ HF.o ?_;clear hK K;simp only[Act.put,sT,fG,fF];refine hT 14 HF.o ?_;refine hT 15 HF.o ?_;refine wpAnyH_done (by kernel_rfl) ?_ _;have eP:=ae (HB3.o.trans (HF.o.mono HB3.o.size));have vo:=ae (fZ.o.below HF.o (ah _));have yg:(st.take f).length≤1000:=by rw[gK];omega
        go_wp2_with (at_builtin;refine nC jH.o (aK .i64) rfl (.tmp 38) (.tmp 40) rfl w.heap.size (.slice none 0 0) (st.take f) rfl ((show Own (aK .i64) 3 w5 w.heap.size (.slice none 0 0) (st.take f)from by rw[HST.o,List.take_nil];exact Own.nil _ _ _ _).alloc _) ⟨w5.heap.size,0,none⟩ 1 1 [(i:Int)] rfl rfl ?_ ?_ ?_ ?_ ?_;exact gQ _ _ _ rfl;exact bF (Nat.mul_le_mul_left _ jK) (by omega);(unfold maxLen;omega);(have:=eP.o.size;simp <;> omega);intro qz w6 h1 h2;have qX:=ae h1;have nU:=ae (((eP.o.alloc eP.o.size _)).trans h2);clear h1 h2)
        go_roundw
        case rel=>exact⟨i+1,st.take f++[(i:Int)],qz,by omega,by rw[ak,gK,fK];omega,rfl,by go_num,HT2,qX,nU⟩
        case measure=>simp[intOf];omega
    · skip
      by_cases pg:m≤st.length;rotate_left
      · have zG:(st.length:Int) - (m:Int)<0:=by omega
        have HT2:=ae (show bR (vs.map (·.1))=false by rw[HT.o,HD.o,mJ,HM.o,decide_eq_false pg,Bool.false_and,Bool.and_false]);exact absurd HT2.o (by rw[bZ.o];decide)
      obtain⟨f,hf⟩:∃f,st.length - m=f:=⟨_,rfl⟩;have hw1 : -9223372036854775808≤(st.length:Int) - (m:Int):=by omega
      have hw2:(st.length:Int) - (m:Int)≤9223372036854775807:=by omega
      have hfi:(st.length:Int) - (m:Int)=(f:Int):=by omega
      have hfn:¬ (f:Int)<0:=by omega
      have hf0:(0:Int)≤(f:Int):=by omega
      have hfl:(f:Int)≤(st.length:Int):=by omega
      have Db:f≤st.length:=by omega
      have hB3:Below wr.heap.size wr (wr.alloc (.cells #[.int .i64 n.kind,.int .i64 n.num,.string n.text,.string n.ref.sh,.int .i64 n.ref.c,.int .i64 n.ref.r,.bool n.ref.ac,.bool n.ref.ar,.string n.af.sh,.int .i64 n.af.c,.int .i64 n.af.r,.bool n.af.ac,.bool n.af.ar,.slice aN m ck] 45)):=(ai _ _).alloc (ah _) _;have aB:ax (wr.alloc (.cells #[.int .i64 n.kind,.int .i64 n.num,.string n.text,.string n.ref.sh,.int .i64 n.ref.c,.int .i64 n.ref.r,.bool n.ref.ac,.bool n.ref.ar,.string n.af.sh,.int .i64 n.af.c,.int .i64 n.af.r,.bool n.af.ac,.bool n.af.ar,.slice aN m ck] 45)) wr.heap.size n (.slice aN m ck):=ax.new wr n _;have HB3:=ae (HB.o.trans (hB3.mono HB.o.size));have fZ:=ae (HO.o.alloc (.cells #[.int .i64 n.kind,.int .i64 n.num,.string n.text,.string n.ref.sh,.int .i64 n.ref.c,.int .i64 n.ref.r,.bool n.ref.ac,.bool n.ref.ar,.string n.af.sh,.int .i64 n.af.c,.int .i64 n.af.r,.bool n.af.ac,.bool n.af.ar,.slice aN m ck] 45));clear hB3;go_upto_region 6 with (fail)
      generalize hb3:wr.heap.size=b3 at aB ⊢;generalize wr.alloc (.cells #[.int .i64 n.kind,.int .i64 n.num,.string n.text,.string n.ref.sh,.int .i64 n.ref.c,.int .i64 n.ref.r,.bool n.ref.ac,.bool n.ref.ar,.string n.af.sh,.int .i64 n.af.c,.int .i64 n.af.r,.bool n.af.ac,.bool n.af.ar,.slice aN m ck] 45)=w3 at aB HB3 fZ ⊢;clear hb3 k0 k1 k2 k3 k4 k5 k6 k7 k8 k9 k10 k11 k12 k13 HO;have aB:=ae aB;have ain:(f:Int)≤(vT:Int):=by omega
      obtain⟨AT,JQ⟩:∃AT,(if vT=f then some (⟨rg,0,none⟩:Addr)else some ⟨rg,f,none⟩)=AT:=⟨_,rfl⟩;have gu:=ae (show ∀W,Below w3.heap.size w3 W→ig W w3.heap.size (.slice AT (st.length - f) (vT - f)) (st.drop f)from fun W hW=>by rw[← JQ];exact(ig.tail fZ.o f Db hrc hrm (by have:=(fZ.o.jX rg rfl).2.1;exact this)).below hW (ah _));have I4:=ae (kN.o.below HB3.o (ah _));by_cases hdk:st.drop f=n.kids;rotate_left
      · have HT2:=ae (show bR (vs.map (·.1))=false by rw[HT.o,HD.o,mJ,HM.o,hf,decide_eq_false hdk,Bool.false_and,Bool.and_false,Bool.and_false])
        exact absurd HT2.o (by rw[bZ.o];decide)
      have xB:=ae (show ∀W,Below w3.heap.size w3 W→Calls Tryz.prog 62 #[.slice AT (st.length - f) (vT - f),.slice aN m ck] W fun e w'=>e = .returned (.bool true)∧Below W.heap.size W w' from fun W hW=>by
       have:=Pf W w3.heap.size _ _ _ _ (gu.o W hW) ((I4.o.mono HB3.o.size).below hW (ah _));rw[decide_eq_true hdk]at this;exact this)
      have HDK:=ae hdk;cases hnb:bX n
      · have HT2:=ae (show bR (vs.map (·.1))=false by rw[HT.o,HD.o,mJ,hnb,Bool.false_and])
        exact absurd HT2.o (by rw[bZ.o];decide)
      · have HT2:=ae (show bR (vs.map (·.1))=mI (st.take f++[(i:Int)]) (i+1) ((vs.map (·.1)).drop (i+1))by rw[HT.o,HD.o,mJ,hnb,HM.o,decide_eq_true pg,hf,decide_eq_true hdk,Bool.true_and,Bool.true_and,Bool.true_and])
        have dN:=ae (show ∀W,Below w3.heap.size w3 W→Calls Tryz.prog 63 #[.agg #[.int .i64 n.kind,.int .i64 n.num,.string n.text,.string n.ref.sh,.int .i64 n.ref.c,.int .i64 n.ref.r,.bool n.ref.ac,.bool n.ref.ar,.string n.af.sh,.int .i64 n.af.c,.int .i64 n.af.r,.bool n.af.ac,.bool n.af.ar,.slice aN m ck]] W fun e w'=>e = .returned (.bool true)∧Below W.heap.size W w' from fun W hW=>by
         exact QS W n (dH.o.below (HB3.o.trans (hW.mono HB3.o.size))) HZ1.o HZ2.o HZ3.o aN m ck Er.o (by rw[← HM.o,QR,hnb]))
        clear pg hdk hnb;refine wp_region_held_drew (S:=fun W=>Below w3.heap.size w3 W) (by kernel_rfl) (Below.drew (ai w3.heap.size w3)) (fun _ => ?_);show wpAnyH _ _ _ _ _ 16 #[false,false,false,false,false,false,false,false,false,false,false,false,false,false,false,false] _ _;refine hT 0 (Below.drew (ai w3.heap.size w3)) ?_;refine hT 1 (Below.drew (ai w3.heap.size w3)) ?_;refine hT 2 (Below.drew (ai w3.heap.size w3)) ?_;refine hT 3 (Below.drew (ai w3.heap.size w3)) ?_;refine hT 4 (Below.drew (ai w3.heap.size w3)) ?_;refine hT 5 (Below.drew (ai w3.heap.size w3)) ?_;refine hT 6 (Below.drew (ai w3.heap.size w3)) ?_;refine hT 7 (Below.drew (ai w3.heap.size w3)) ?_ (hy:=by(intro gJ hSw;have hz:=(aB.o.below hSw aB.o.lt).cells;go_simp;try(with_reducible rfl)));refine hO 8 (fun K hK => ?_);go_simp;refine(xB.o _ (Below.drew (ai w3.heap.size w3))).mono ?_;rintro e w4 ⟨rfl,h1⟩;have HE:=ae ((Below.drew (ai w3.heap.size w3)).trans h1);clear h1;go_wp2_with fail
        refine hK.o _ _ HE.o ?_;clear hK K;simp only[Act.put,sT,fG,fF];refine hT 9 HE.o ?_;refine hT 10 HE.o ?_;refine hT 11 HE.o ?_;refine hT 12 HE.o ?_ (hy:=by(intro gJ hSw;have hz:=(aB.o.below hSw aB.o.lt).cells;go_simp;try(with_reducible rfl)));refine hO 13 (fun K hK => ?_);go_simp;refine(dN.o _ HE.o).mono ?_;rintro e w5 ⟨rfl,h1⟩;have HF:=ae (HE.o.trans (h1.mono HE.o.size));clear h1;go_wp2_with fail
        refine hK.o _ _ HF.o ?_;clear hK K;simp only[Act.put,sT,fG,fF];refine hT 14 HF.o ?_;refine hT 15 HF.o ?_;refine wpAnyH_done (by kernel_rfl) ?_ _;have eP:=ae (HB3.o.trans (HF.o.mono HB3.o.size));have vo:=ae (fZ.o.below HF.o (ah _));have yg:(st.take f).length≤1000:=by rw[gK];omega
        go_wp2_with (at_builtin;refine nC jH.o (aK .i64) rfl (.tmp 38) (.tmp 40) rfl w.heap.size (.slice (some ⟨rg,0,none⟩) f vT) (st.take f) rfl ((Sy vo.o f Db).alloc _) ⟨w5.heap.size,0,none⟩ 1 1 [(i:Int)] rfl rfl ?_ ?_ ?_ ?_ ?_;exact gQ _ _ _ rfl;exact bF (Nat.mul_le_mul_left _ jK) (by omega);(unfold maxLen;omega);(have:=eP.o.size;simp <;> omega);intro qz w6 h1 h2;have qX:=ae h1;have nU:=ae (((eP.o.alloc eP.o.size _)).trans h2);clear h1 h2)
        go_roundw
        case rel=>exact⟨i+1,st.take f++[(i:Int)],qz,by omega,by rw[ak,gK,fK];omega,rfl,by go_num,HT2,qX,nU⟩
        case measure=>simp[intOf];omega
  · have hii:¬ (i:Int)<(nl:Int):=by omega
    have hin:i=nl:=by omega
    have HT2:=ae (show bR (vs.map (·.1))=decide (st.length=1)by
     rw[HT.o,List.drop_of_length_le (by rw[fw,iW.o];omega)];rfl)
    rcases HO.o.shape with ⟨rfl,hst⟩|⟨rg,vT,rfl, -⟩
    · rw[hst]at HT2
      exact absurd HT2.o (by rw[bZ.o];decide)
    · by_cases h1:st.length=1
      · have Zg:((st.length:Int) == 1)=true:=by rw[beq_iff_eq];omega
        clear h1 HT2;go_wp2_with fail
        go_ret;exact⟨rfl,HB.o⟩
      · rw[decide_eq_false h1,bZ.o]at HT2
        exact absurd HT2.o (by decide)
theorem uQ (c:Int)(_h0:0≤c)(_h1:c≤255)(w:World) :
 Calls Tryz.prog 73 #[.int .u8 c] w fun e w'=>e = .returned (.bool (aL c))∧w=w':=by
 go_enter Tryz.func73,Tryz.ntmps73
 go_wp2
 all_goals go_ret
 all_goals exact⟨fD (by unfold aL;first|rfl|(symm;rw[decide_eq_true_iff];omega)|(symm;rw[decide_eq_false_iff_not];omega)|(rw[decide_eq_decide];omega)),rfl⟩
theorem iV (c:Int)(_h0:0≤c)(_h1:c≤255)(w:World) :
 Calls Tryz.prog 75 #[.int .u8 c] w fun e w'=>e = .returned (.bool (isNum c))∧w=w':=by
 go_enter Tryz.func75,Tryz.ntmps75
 go_wp2
 all_goals go_ret
 all_goals exact⟨fD (by unfold isNum;first|rfl|(symm;rw[decide_eq_true_iff];omega)|(symm;rw[decide_eq_false_iff_not];omega)|(rw[decide_eq_decide];omega)),rfl⟩
theorem oJ (c:Int)(_h0:0≤c)(_h1:c≤255)(w:World) :
 Calls Tryz.prog 79 #[.int .u8 c] w fun e w'=>e = .returned (.bool (isLet c))∧w=w':=by
 go_enter Tryz.func79,Tryz.ntmps79
 go_wp2
 all_goals go_ret
 all_goals exact⟨fD (by unfold isLet;first|rfl|(rw[Bool.eq_iff_iff];simp only[Bool.or_eq_true,decide_eq_true_iff];omega)|(symm;rw[decide_eq_true_iff];omega)|(symm;rw[decide_eq_false_iff_not];omega)|(rw[decide_eq_decide];omega)),rfl⟩
theorem Ti (s:ByteArray)(w:World)(_hs:s.size≤1000000) :
 Calls Tryz.prog 76 #[.string s] w fun e w'=>e = .returned (.bool (gX (sb s)))∧w=w':=by
 go_enter Tryz.func76,Tryz.ntmps76
 go_wp2
 go_loopw [3] (fun i wr=>∃k:Nat,k≤s.size∧i = .int .i64 k∧Hid (∀j,j<k→ni j ((sb s).getD j 0)=true)∧w=wr)
  (fun i _=>s.size - (intOf i).toNat)
 case atStart=>exact⟨0,by omega,rfl,ae (fun j hj=>absurd hj (by omega)),rfl⟩
 case round =>
  obtain⟨k,hk,rfl,HG,rfl⟩:=hrel;by_cases hlt:k<s.size
  · have hki:(k:Int)<(s.size:Int):=by omega
    obtain⟨a,ha⟩:∃a:Int,(s[k].toNat:Int)=a:=⟨_,rfl⟩;have ha1:0≤a∧a≤255:=by have:=s[k].toNat_lt;omega
    have hga:(sb s).getD k 0=a:=by rw[sW s k hlt,ha]
    have yS:=ae hga;clear hga;by_cases hl:isLet a=true
    · go_wp2_with (first
       | (go_at_call 79;((with_reducible refine(oJ _ ?_ ?_ _).mono ?_);(first|omega|skip);(first|omega|skip);rintro e w' ⟨rfl,rfl⟩)))
      go_roundw
      case rel =>
       refine⟨k+1,by omega,by go_num,ae ?_,by trivial⟩;intro j hj;by_cases h1:j<k
       · exact HG.o j h1
       · rw[show j=k from by omega,yS.o];unfold ni;rw[hl,Bool.true_or]
      case measure=>simp[intOf];omega
    · have hl':isLet a=false:=by simpa using hl
      clear hl;by_cases hn:isNum a=true
      · by_cases hk0:0<k
        · have hk1:(0:Int)<(k:Int):=by omega
          go_wp2_with (first
           | (go_at_call 79;((with_reducible refine(oJ _ ?_ ?_ _).mono ?_);(first|omega|skip);(first|omega|skip);rintro e w' ⟨rfl,rfl⟩))
           | (go_at_call 75;((with_reducible refine(iV _ ?_ ?_ _).mono ?_);(first|omega|skip);(first|omega|skip);rintro e w' ⟨rfl,rfl⟩)))
          go_roundw
          case rel =>
           refine⟨k+1,by omega,by go_num,ae ?_,by trivial⟩;intro j hj;by_cases h1:j<k
           · exact HG.o j h1
           · rw[show j=k from by omega,yS.o];unfold ni;rw[hl',hn,decide_eq_true hk0];rfl
          case measure=>simp[intOf];omega
        · have hk1:¬ (0:Int)<(k:Int):=by omega
          have hno:=Gb s k hlt (by rw[yS.o];unfold ni;rw[hl',decide_eq_false hk0];rfl);have dN:=ae hno;clear hno
          go_wp2_with (first
           | (go_at_call 79;((with_reducible refine(oJ _ ?_ ?_ _).mono ?_);(first|omega|skip);(first|omega|skip);rintro e w' ⟨rfl,rfl⟩)))
          go_ret;exact⟨fD dN.o.symm,rfl⟩
      · have hn':isNum a=false:=by simpa using hn
        clear hn;have hno:=Gb s k hlt (by rw[yS.o];unfold ni;rw[hl',hn',Bool.and_false];rfl);have dN:=ae hno;clear hno
        go_wp2_with (first
         | (go_at_call 79;((with_reducible refine(oJ _ ?_ ?_ _).mono ?_);(first|omega|skip);(first|omega|skip);rintro e w' ⟨rfl,rfl⟩))
         | (go_at_call 75;((with_reducible refine(iV _ ?_ ?_ _).mono ?_);(first|omega|skip);(first|omega|skip);rintro e w' ⟨rfl,rfl⟩)))
        all_goals go_ret
        all_goals exact⟨fD dN.o.symm,rfl⟩
  · have hki:¬ (k:Int)<(s.size:Int):=by omega
    have hno:=R4 s (fun j hj=>HG.o j (by omega));have dN:=ae hno;clear hno
    go_wp2
    all_goals go_ret
    all_goals exact⟨fD (by rw[dN.o];first|(symm;rw[decide_eq_true_iff];omega)|(symm;rw[decide_eq_false_iff_not];omega)|(rw[decide_eq_decide];omega)),rfl⟩
theorem aev (s:ByteArray)(w:World)(_hs:s.size≤1000000) :
 Calls Tryz.prog 74 #[.string s] w fun e w'=>e = .returned (.tuple #[.int .i64 (lg (sb s)),.bool (iR (sb s))])∧∃n,w'=w.drewN n:=by
 by_cases hl:1≤s.size∧s.size≤2
 · by_cases h1:s.size=1
   · have hp0:0<s.size:=by omega
     obtain⟨a,ha⟩:∃a:Int,(s[0].toNat:Int)=a:=⟨_,rfl⟩;have ha1:0≤a∧a≤255:=by have:=s[0].toNat_lt;omega
     have hg0:(sb s).getD 0 0=a:=by rw[sW s 0 hp0,ha]
     have hic:iR (sb s)=aL a:=by unfold iR;rw[aV,h1,hg0,Bool.and_self];rfl
     have hrc:lg (sb s)=if aL a=true then a - 65 else 0:=by unfold lg;rw[hic,aV,h1,hg0];rfl
     have xD:=ae hic;clear hic;have vB:=ae hrc;clear hrc;have hz1:(s.size:Int)=1:=by omega
     clear hl hg0;by_cases hc:aL a=true
     · have hr:65≤a∧a≤90:=by unfold aL at hc;rw[decide_eq_true_iff]at hc;exact hc
       go_enter Tryz.func74,Tryz.ntmps74
       go_wp2_with (first
        | (go_at_call 73;((with_reducible refine(uQ _ ?_ ?_ _).mono ?_);(first|omega|skip);(first|omega|skip);rintro e w' ⟨rfl,rfl⟩)))
       all_goals go_ret2
       all_goals exact⟨by rw[xD.o,vB.o,hc];rfl,0,rfl⟩
     · have hc':aL a=false:=by simpa using hc
       clear hc;go_enter Tryz.func74,Tryz.ntmps74
       go_wp2_with (first
        | (go_at_call 73;((with_reducible refine(uQ _ ?_ ?_ _).mono ?_);(first|omega|skip);(first|omega|skip);rintro e w' ⟨rfl,rfl⟩)))
       all_goals go_ret2
       all_goals exact⟨by rw[xD.o,vB.o,hc'];rfl,0,rfl⟩
   · have h2:s.size=2:=by omega
     have hp0:0<s.size:=by omega
     have hp1:1<s.size:=by omega
     obtain⟨a,ha⟩:∃a:Int,(s[0].toNat:Int)=a:=⟨_,rfl⟩;obtain⟨b,hb⟩:∃b:Int,(s[1].toNat:Int)=b:=⟨_,rfl⟩;have ha1:0≤a∧a≤255:=by have:=s[0].toNat_lt;omega
     have hb1:0≤b∧b≤255:=by have:=s[1].toNat_lt;omega
     have hg0:(sb s).getD 0 0=a:=by rw[sW s 0 hp0,ha]
     have hg1:(sb s).getD 1 0=b:=by rw[sW s 1 hp1,hb]
     have hic:iR (sb s)=(aL a&&aL b):=by unfold iR;rw[aV,h2,hg0,hg1];rfl
     have hrc:lg (sb s)=if (aL a&&aL b)=true then 26*(a - 64)+(b - 65)else 0:=by unfold lg;rw[hic,aV,h2,hg0,hg1];rfl
     have xD:=ae hic;clear hic;have vB:=ae hrc;clear hrc;have hz1:(s.size:Int)=2:=by omega
     clear hl hg0 hg1 h1;by_cases hc:aL a=true
     · have hr:65≤a∧a≤90:=by unfold aL at hc;rw[decide_eq_true_iff]at hc;exact hc
       by_cases hd:aL b=true
       · have hr2:65≤b∧b≤90:=by unfold aL at hd;rw[decide_eq_true_iff]at hd;exact hd
         go_enter Tryz.func74,Tryz.ntmps74
         go_wp2_with (first
          | (go_at_call 73;((with_reducible refine(uQ _ ?_ ?_ _).mono ?_);(first|omega|skip);(first|omega|skip);rintro e w' ⟨rfl,rfl⟩)))
         go_quiet (fail)
         go_wp2_with fail
         all_goals go_ret2
         all_goals exact⟨aeR (by rw[vB.o,hc,hd];simp only[Bool.and_self,if_true];omega) (by rw[xD.o,hc,hd];rfl),_,rfl⟩
       · have hd':aL b=false:=by simpa using hd
         clear hd;go_enter Tryz.func74,Tryz.ntmps74
         go_wp2_with (first
          | (go_at_call 73;((with_reducible refine(uQ _ ?_ ?_ _).mono ?_);(first|omega|skip);(first|omega|skip);rintro e w' ⟨rfl,rfl⟩)))
         all_goals go_ret2
         all_goals exact⟨by rw[xD.o,vB.o,hc,hd'];rfl,0,rfl⟩
     · have hc':aL a=false:=by simpa using hc
       clear hc;go_enter Tryz.func74,Tryz.ntmps74
       go_wp2_with (first
        | (go_at_call 73;((with_reducible refine(uQ _ ?_ ?_ _).mono ?_);(first|omega|skip);(first|omega|skip);rintro e w' ⟨rfl,rfl⟩)))
       all_goals go_ret2
       all_goals exact⟨by rw[xD.o,vB.o,hc'];rfl,0,rfl⟩
 · have hno:iR (sb s)=false:=by unfold iR;rw[aV,decide_eq_false hl,Bool.false_and]
   have hn2:lg (sb s)=0:=by unfold lg;rw[hno];rfl
   have dN:=ae hno;clear hno;have bS:=ae hn2;clear hn2;go_enter Tryz.func74,Tryz.ntmps74
   go_wp2
   all_goals first|omega|skip
   all_goals go_ret2
   all_goals exact⟨by rw[dN.o,bS.o];rfl,0,rfl⟩
theorem LV (w:World)(t:TypeId)(x:Int):(convert 22 9 (.slice (some ⟨w.heap.size,0,none⟩) 1 1)).run Tryz.prog (w.alloc (.cells #[.int .u8 x] t)) = .ok (.string (strOfNums [x])) (w.alloc (.cells #[.int .u8 x] t)):=by
 refine run_convert_bytes_arg _ _ 5 Tryz.underlying22 Tryz.underlying5 _ 0 _ 1 [x] rfl (fun i hi => ?_) _ Tryz.underlying9;rw[Nat.zero_add];have:i=0:=by simp at hi;exact hi
 subst this;exact gQ (w:=w) _ _ [.int .u8 x] rfl 0 _ rfl
theorem afe (w:World)(t:TypeId)(x y:Int):(convert 22 9 (.slice (some ⟨w.heap.size,0,none⟩) 2 2)).run Tryz.prog (w.alloc (.cells #[.int .u8 x,.int .u8 y] t)) = .ok (.string (strOfNums [x,y])) (w.alloc (.cells #[.int .u8 x,.int .u8 y] t)):=by
 refine run_convert_bytes_arg _ _ 5 Tryz.underlying22 Tryz.underlying5 _ 0 _ 2 [x,y] rfl (fun i hi => ?_) _ Tryz.underlying9;rw[Nat.zero_add];have h:i=0∨i=1:=by simp at hi;omega
 rcases h with rfl|rfl
 · exact gQ (w:=w) _ _ [.int .u8 x,.int .u8 y] rfl 0 _ rfl
 · exact gQ (w:=w) _ _ [.int .u8 x,.int .u8 y] rfl 1 _ rfl
theorem vU (n:Nat)(_h1:n≤9223372036854775807)(w:World) :
 Calls Tryz.prog 16 #[.int .i64 n] w fun e w'=>e = .returned (.string (strOfNums (aQ n)))∧Below w.heap.size w w':=by
 have hn0:¬ (n:Int)<0:=by omega
 go_enter Tryz.func16,Tryz.ntmps16
 go_wp2
 go_loopw [3,4] (fun u v wr=>∃(m:Nat)(t:List Int),m≤9223372036854775807∧u = .int .u64 m∧v = .string (strOfNums t)∧Hid (aQ m++t=aQ n∧2*t.length+m≤n)∧Below w.heap.size w wr)
  (fun u _ _=>(intOf u).toNat)
 case atStart=>exact⟨n,[],by omega,by go_num,rfl,ae ⟨by rw[fM],by simp⟩,ai _ _⟩
 case round =>
  obtain⟨m,t,hm,rfl,rfl,HT,hbl⟩:=hrel;have HB:=ae hbl;clear hbl;have hcv:=fun (w:World)=>LV w 5 (48+(m:Int) % 10)
  have aij:=fun (w:World)=>LV w 5 (48+(m:Int))
  have hsz:(strOfNums [48+(m:Int) % 10]).size+(strOfNums t).size≤9223372036854775807:=by rw[strOfNums_size,strOfNums_size];have:=HT.o.2;simp only[aO,dI];by_cases h:t.length=0 <;> by_cases h2:m=0 <;> omega
  have aiE:(strOfNums [48+(m:Int)]).size+(strOfNums t).size≤9223372036854775807:=by rw[strOfNums_size,strOfNums_size];have:=HT.o.2;simp only[aO,dI];by_cases h:t.length=0 <;> by_cases h2:m=0 <;> omega
  by_cases hlt:10≤m
  · have hki:(10:Int)≤(m:Int):=by omega
    have hd:=sF m (by omega);have HD:=ae hd;clear hd
    go_wp2
    go_roundw
    case rel =>
     refine⟨m / 10,(48+(m:Int) % 10) :: t,by omega,by go_num,ahr (lZ _ _),ae ⟨?_, ?_⟩,HB.o.alloc HB.o.size _⟩
     · rw[← HT.o.1,HD.o,bG,show((m % 10:Nat):Int)=(m:Int) % 10 from by omega];rfl
     · have:=HT.o.2;simp only[aO];omega
    case measure=>simp[intOf];omega
  · have hki:¬ (10:Int)≤(m:Int):=by omega
    have hd:=ou m (by omega);have HD:=ae hd;clear hd
    go_wp2
    go_ret;exact⟨lX (by rw[lZ, ← HT.o.1,HD.o]),HB.o.alloc HB.o.size _⟩
theorem yA (n:Int)(_h0 : -9223372036854775808≤n)(_h1:n≤9223372036854775807)(w:World) :
 Calls Tryz.prog 52 #[.int .i64 n] w fun e w'=>e = .returned (.string (strOfNums (bf n)))∧Below w.heap.size w w':=by
 by_cases hr:n<0∨701<n
 · have hc:bf n=[]:=by unfold bf;rw[if_pos hr]
   have HC:=ae hc;clear hc;go_enter Tryz.func52,Tryz.ntmps52
   go_wp2
   all_goals first|omega|skip
   all_goals go_ret
   all_goals exact⟨by rw[HC.o];rfl,ai _ _⟩
 · have h0:¬ n<0:=by omega
   have h2:¬ 701<n:=by omega
   have h0':0≤n:=by omega
   by_cases CU:n<26
   · have hc:bf n=[65+n]:=by unfold bf;rw[if_neg hr,if_pos CU]
     have HC:=ae hc;clear hc hr;have hcv:=fun (w:World)=>LV w 5 (65+n)
     go_enter Tryz.func52,Tryz.ntmps52
     go_wp2
     all_goals go_ret
     all_goals exact⟨by rw[HC.o];rfl,(ai _ _).alloc (ah _) _⟩
   · have hc:bf n=[65+n / 26 - 1,65+n % 26]:=by unfold bf;rw[if_neg hr,if_neg CU];congr 1;omega
     have HC:=ae hc;clear hc hr;have hcv:=fun (w:World)=>afe w 5 (65+n / 26 - 1) (65+n % 26)
     go_enter Tryz.func52,Tryz.ntmps52
     go_wp2
     all_goals go_ret
     all_goals exact⟨by rw[HC.o];rfl,(ai _ _).alloc (ah _) _⟩
theorem pE (s:ByteArray)(c r:Int)(ac ar:Bool)(w:World)(_hs:s.size≤1000000) :
 Calls Tryz.prog 50 #[.agg #[.string s,.int .i64 c,.int .i64 r,.bool ac,.bool ar]] w fun e w'=>e = .returned (.bool (di (sb s) c r))∧Below w.heap.size w w':=by
 by_cases h0:s.size=0
 · have:=uR s h0
   subst this;have hm:di (sb ⟨#[]⟩) c r=decide (0≤c∧c≤701∧0≤r∧r≤998):=by unfold di;rw[show decide (sb ⟨#[]⟩=[])=true from by decide,Bool.true_or,Bool.true_and]
   have HM:=ae hm;clear hm;go_enter Tryz.func50,Tryz.ntmps50
   go_wp2
   all_goals go_ret
   all_goals exact⟨fD (by rw[HM.o];first|(symm;rw[decide_eq_true_iff];omega)|(symm;rw[decide_eq_false_iff_not];omega)|(rw[decide_eq_decide];omega)),(ai _ _).alloc (ah _) _⟩
 · have hne:=rG s h0
   have hm:di (sb s) c r=(gX (sb s)&&decide (0≤c∧c≤701∧0≤r∧r≤998)):=by
    unfold di;rw[decide_eq_false (by intro h;have:=aV s;rw[h]at this;exact h0 this.symm),Bool.false_or]
   have HM:=ae hm;clear hm h0;by_cases hn:gX (sb s)=true
   · go_enter Tryz.func50,Tryz.ntmps50
     go_wp2_with (first
      | (go_at_call 76;((with_reducible refine(Ti _ _ ?_).mono ?_);(first|omega|skip);rintro e w' ⟨rfl,rfl⟩)))
     all_goals go_ret
     all_goals exact⟨fD (by rw[HM.o,hn,Bool.true_and];first|(symm;rw[decide_eq_true_iff];omega)|(symm;rw[decide_eq_false_iff_not];omega)|(rw[decide_eq_decide];omega)),(ai _ _).alloc (ah _) _⟩
   · have hn':gX (sb s)=false:=by simpa using hn
     clear hn;go_enter Tryz.func50,Tryz.ntmps50
     go_wp2_with (first
      | (go_at_call 76;((with_reducible refine(Ti _ _ ?_).mono ?_);(first|omega|skip);rintro e w' ⟨rfl,rfl⟩)))
     all_goals go_ret
     all_goals exact⟨fD (by rw[HM.o,hn',Bool.false_and]),(ai _ _).alloc (ah _) _⟩
theorem agR (s:ByteArray)(c r:Int)(k:Nat)(w:World)(_hs:s.size≤1000000)(h0:s.size=0)(hm:di (sb s) c r=true)(hc0:0≤c)(hc1:c≤701)(hr0:0≤r)(hr1:r≤998)(hk:r+1=(k:Int))(hz1:(strOfNums (bf c)).size≤2)(hz2:(strOfNums (aQ k)).size≤1000) :
 Calls Tryz.prog 26 #[.agg #[.string s,.int .i64 c,.int .i64 r,.bool false,.bool false]] w fun e w'=>e = .returned (.string (strOfNums (aY (sb s) c r false false)))∧Below w.heap.size w w':=by
       have hk2:(r+1).toNat=k:=by omega
       have he:sb s=[]:=kg (by rw[aV];exact h0);have ht:([]++bf c)++aQ k=aY (sb s) c r false false:=by unfold aY;rw[if_pos hm,hk2,if_pos he];simp
       have HT:=ae ht;clear ht hk2 he;have:=uR s h0;subst this;clear h0;have hR0:=bU.new w ⟨#[]⟩ c r false false;have gM:=ae hR0;clear hR0;go_enter Tryz.func26,Tryz.ntmps26
       go_wp2_with (first
        | (go_at_call 50;((with_reducible refine(pE _ _ _ _ _ _ ?_).mono ?_);(first|omega|skip);rintro e w1 ⟨rfl,h1⟩;have iJ:=gM.o.below h1 gM.o.lt;obtain⟨x0,x1,x2,x3,x4⟩:=iJ.facts;have HR1:=ae iJ;clear iJ;have H1:=ae h1;clear h1))
        | (go_at_call 52;((with_reducible refine(yA _ ?_ ?_ _).mono ?_);(first|omega|skip);(first|omega|skip);rintro e w2 ⟨rfl,h2⟩;have hR2:=HR1.o.below h2 HR1.o.lt;clear x0 x1 x2 x3 x4;obtain⟨x0,x1,x2,x3,x4⟩:=hR2.facts;have HR2:=ae hR2;clear hR2;have H2:=ae h2;clear h2))
        | (go_at_call 16;((with_reducible refine(vU _ ?_ _).mono ?_);(first|omega|skip);rintro e w3 ⟨rfl,h3⟩;clear x0 x1 x2 x3 x4;have H3:=ae h3;clear h3)))
       go_ret;exact⟨lX ((ji (ji G5 (Eq.refl (strOfNums (bf c)))) (Eq.refl (strOfNums (aQ k)))).trans (congrArg strOfNums HT.o)),wK ((ai _ _).alloc (ah _) _) H1.o H2.o H3.o⟩
theorem agQ (s:ByteArray)(c r:Int)(k:Nat)(w:World)(_hs:s.size≤1000000)(h0:s.size=0)(hm:di (sb s) c r=true)(hc0:0≤c)(hc1:c≤701)(hr0:0≤r)(hr1:r≤998)(hk:r+1=(k:Int))(hz1:(strOfNums (bf c)).size≤2)(hz2:(strOfNums (aQ k)).size≤1000) :
 Calls Tryz.prog 26 #[.agg #[.string s,.int .i64 c,.int .i64 r,.bool false,.bool true]] w fun e w'=>e = .returned (.string (strOfNums (aY (sb s) c r false true)))∧Below w.heap.size w w':=by
       have hk2:(r+1).toNat=k:=by omega
       have he:sb s=[]:=kg (by rw[aV];exact h0);have ht:(([]++bf c)++[36])++aQ k=aY (sb s) c r false true:=by unfold aY;rw[if_pos hm,hk2,if_pos he];simp
       have HT:=ae ht;clear ht hk2 he;have:=uR s h0;subst this;clear h0;have hR0:=bU.new w ⟨#[]⟩ c r false true;have gM:=ae hR0;clear hR0;go_enter Tryz.func26,Tryz.ntmps26
       go_wp2_with (first
        | (go_at_call 50;((with_reducible refine(pE _ _ _ _ _ _ ?_).mono ?_);(first|omega|skip);rintro e w1 ⟨rfl,h1⟩;have iJ:=gM.o.below h1 gM.o.lt;obtain⟨x0,x1,x2,x3,x4⟩:=iJ.facts;have HR1:=ae iJ;clear iJ;have H1:=ae h1;clear h1))
        | (go_at_call 52;((with_reducible refine(yA _ ?_ ?_ _).mono ?_);(first|omega|skip);(first|omega|skip);rintro e w2 ⟨rfl,h2⟩;have hR2:=HR1.o.below h2 HR1.o.lt;clear x0 x1 x2 x3 x4;obtain⟨x0,x1,x2,x3,x4⟩:=hR2.facts;have HR2:=ae hR2;clear hR2;have H2:=ae h2;clear h2))
        | (go_at_call 16;((with_reducible refine(vU _ ?_ _).mono ?_);(first|omega|skip);rintro e w3 ⟨rfl,h3⟩;clear x0 x1 x2 x3 x4;have H3:=ae h3;clear h3)))
       go_ret;exact⟨lX ((ji (ji (ji G5 (Eq.refl (strOfNums (bf c)))) yH) (Eq.refl (strOfNums (aQ k)))).trans (congrArg strOfNums HT.o)),wK ((ai _ _).alloc (ah _) _) H1.o H2.o H3.o⟩
theorem agP (s:ByteArray)(c r:Int)(k:Nat)(w:World)(_hs:s.size≤1000000)(h0:s.size=0)(hm:di (sb s) c r=true)(hc0:0≤c)(hc1:c≤701)(hr0:0≤r)(hr1:r≤998)(hk:r+1=(k:Int))(hz1:(strOfNums (bf c)).size≤2)(hz2:(strOfNums (aQ k)).size≤1000) :
 Calls Tryz.prog 26 #[.agg #[.string s,.int .i64 c,.int .i64 r,.bool true,.bool false]] w fun e w'=>e = .returned (.string (strOfNums (aY (sb s) c r true false)))∧Below w.heap.size w w':=by
       have hk2:(r+1).toNat=k:=by omega
       have he:sb s=[]:=kg (by rw[aV];exact h0);have ht:(([]++[36])++bf c)++aQ k=aY (sb s) c r true false:=by unfold aY;rw[if_pos hm,hk2,if_pos he];simp
       have HT:=ae ht;clear ht hk2 he;have:=uR s h0;subst this;clear h0;have hR0:=bU.new w ⟨#[]⟩ c r true false;have gM:=ae hR0;clear hR0;go_enter Tryz.func26,Tryz.ntmps26
       go_wp2_with (first
        | (go_at_call 50;((with_reducible refine(pE _ _ _ _ _ _ ?_).mono ?_);(first|omega|skip);rintro e w1 ⟨rfl,h1⟩;have iJ:=gM.o.below h1 gM.o.lt;obtain⟨x0,x1,x2,x3,x4⟩:=iJ.facts;have HR1:=ae iJ;clear iJ;have H1:=ae h1;clear h1))
        | (go_at_call 52;((with_reducible refine(yA _ ?_ ?_ _).mono ?_);(first|omega|skip);(first|omega|skip);rintro e w2 ⟨rfl,h2⟩;have hR2:=HR1.o.below h2 HR1.o.lt;clear x0 x1 x2 x3 x4;obtain⟨x0,x1,x2,x3,x4⟩:=hR2.facts;have HR2:=ae hR2;clear hR2;have H2:=ae h2;clear h2))
        | (go_at_call 16;((with_reducible refine(vU _ ?_ _).mono ?_);(first|omega|skip);rintro e w3 ⟨rfl,h3⟩;clear x0 x1 x2 x3 x4;have H3:=ae h3;clear h3)))
       go_ret;exact⟨lX ((ji (ji (ji G5 yH) (Eq.refl (strOfNums (bf c)))) (Eq.refl (strOfNums (aQ k)))).trans (congrArg strOfNums HT.o)),wK ((ai _ _).alloc (ah _) _) H1.o H2.o H3.o⟩
theorem agO (s:ByteArray)(c r:Int)(k:Nat)(w:World)(_hs:s.size≤1000000)(h0:s.size=0)(hm:di (sb s) c r=true)(hc0:0≤c)(hc1:c≤701)(hr0:0≤r)(hr1:r≤998)(hk:r+1=(k:Int))(hz1:(strOfNums (bf c)).size≤2)(hz2:(strOfNums (aQ k)).size≤1000) :
 Calls Tryz.prog 26 #[.agg #[.string s,.int .i64 c,.int .i64 r,.bool true,.bool true]] w fun e w'=>e = .returned (.string (strOfNums (aY (sb s) c r true true)))∧Below w.heap.size w w':=by
       have hk2:(r+1).toNat=k:=by omega
       have he:sb s=[]:=kg (by rw[aV];exact h0);have ht:((([]++[36])++bf c)++[36])++aQ k=aY (sb s) c r true true:=by unfold aY;rw[if_pos hm,hk2,if_pos he];simp
       have HT:=ae ht;clear ht hk2 he;have:=uR s h0;subst this;clear h0;have hR0:=bU.new w ⟨#[]⟩ c r true true;have gM:=ae hR0;clear hR0;go_enter Tryz.func26,Tryz.ntmps26
       go_wp2_with (first
        | (go_at_call 50;((with_reducible refine(pE _ _ _ _ _ _ ?_).mono ?_);(first|omega|skip);rintro e w1 ⟨rfl,h1⟩;have iJ:=gM.o.below h1 gM.o.lt;obtain⟨x0,x1,x2,x3,x4⟩:=iJ.facts;have HR1:=ae iJ;clear iJ;have H1:=ae h1;clear h1))
        | (go_at_call 52;((with_reducible refine(yA _ ?_ ?_ _).mono ?_);(first|omega|skip);(first|omega|skip);rintro e w2 ⟨rfl,h2⟩;have hR2:=HR1.o.below h2 HR1.o.lt;clear x0 x1 x2 x3 x4;obtain⟨x0,x1,x2,x3,x4⟩:=hR2.facts;have HR2:=ae hR2;clear hR2;have H2:=ae h2;clear h2))
        | (go_at_call 16;((with_reducible refine(vU _ ?_ _).mono ?_);(first|omega|skip);rintro e w3 ⟨rfl,h3⟩;clear x0 x1 x2 x3 x4;have H3:=ae h3;clear h3)))
       go_ret;exact⟨lX ((ji (ji (ji (ji G5 yH) (Eq.refl (strOfNums (bf c)))) yH) (Eq.refl (strOfNums (aQ k)))).trans (congrArg strOfNums HT.o)),wK ((ai _ _).alloc (ah _) _) H1.o H2.o H3.o⟩
theorem agY (s:ByteArray)(c r:Int)(k:Nat)(w:World)(_hs:s.size≤1000000)(h0:¬ s.size=0)(hm:di (sb s) c r=true)(hc0:0≤c)(hc1:c≤701)(hr0:0≤r)(hr1:r≤998)(hk:r+1=(k:Int))(hz1:(strOfNums (bf c)).size≤2)(hz2:(strOfNums (aQ k)).size≤1000) :
 Calls Tryz.prog 26 #[.agg #[.string s,.int .i64 c,.int .i64 r,.bool false,.bool false]] w fun e w'=>e = .returned (.string (strOfNums (aY (sb s) c r false false)))∧Below w.heap.size w w':=by
       have hk2:(r+1).toNat=k:=by omega
       have he:¬ sb s=[]:=by intro h;have:=aV s;rw[h]at this;exact h0 this.symm
       have ht:((sb s++[33])++bf c)++aQ k=aY (sb s) c r false false:=by unfold aY;rw[if_pos hm,hk2,if_neg he];simp
       have HT:=ae ht;clear ht hk2 he;have hne:s.toList.isEmpty=false:=by cases hq:s.toList with|nil=>exact absurd hq (rG s h0)|cons a l=>rfl
       clear h0;have hR0:=bU.new w s c r false false;have gM:=ae hR0;clear hR0;go_enter Tryz.func26,Tryz.ntmps26
       go_wp2_with (first
        | (go_at_call 50;((with_reducible refine(pE _ _ _ _ _ _ ?_).mono ?_);(first|omega|skip);rintro e w1 ⟨rfl,h1⟩;have iJ:=gM.o.below h1 gM.o.lt;obtain⟨x0,x1,x2,x3,x4⟩:=iJ.facts;have HR1:=ae iJ;clear iJ;have H1:=ae h1;clear h1))
        | (go_at_call 52;((with_reducible refine(yA _ ?_ ?_ _).mono ?_);(first|omega|skip);(first|omega|skip);rintro e w2 ⟨rfl,h2⟩;have hR2:=HR1.o.below h2 HR1.o.lt;clear x0 x1 x2 x3 x4;obtain⟨x0,x1,x2,x3,x4⟩:=hR2.facts;have HR2:=ae hR2;clear hR2;have H2:=ae h2;clear h2))
        | (go_at_call 16;((with_reducible refine(vU _ ?_ _).mono ?_);(first|omega|skip);rintro e w3 ⟨rfl,h3⟩;clear x0 x1 x2 x3 x4;have H3:=ae h3;clear h3)))
       go_ret;exact⟨lX ((ji (ji (ji (l5 s).symm GZ) (Eq.refl (strOfNums (bf c)))) (Eq.refl (strOfNums (aQ k)))).trans (congrArg strOfNums HT.o)),wK ((ai _ _).alloc (ah _) _) H1.o H2.o H3.o⟩
theorem agX (s:ByteArray)(c r:Int)(k:Nat)(w:World)(_hs:s.size≤1000000)(h0:¬ s.size=0)(hm:di (sb s) c r=true)(hc0:0≤c)(hc1:c≤701)(hr0:0≤r)(hr1:r≤998)(hk:r+1=(k:Int))(hz1:(strOfNums (bf c)).size≤2)(hz2:(strOfNums (aQ k)).size≤1000) :
 Calls Tryz.prog 26 #[.agg #[.string s,.int .i64 c,.int .i64 r,.bool false,.bool true]] w fun e w'=>e = .returned (.string (strOfNums (aY (sb s) c r false true)))∧Below w.heap.size w w':=by
       have hk2:(r+1).toNat=k:=by omega
       have he:¬ sb s=[]:=by intro h;have:=aV s;rw[h]at this;exact h0 this.symm
       have ht:(((sb s++[33])++bf c)++[36])++aQ k=aY (sb s) c r false true:=by unfold aY;rw[if_pos hm,hk2,if_neg he];simp
       have HT:=ae ht;clear ht hk2 he;have hne:s.toList.isEmpty=false:=by cases hq:s.toList with|nil=>exact absurd hq (rG s h0)|cons a l=>rfl
       clear h0;have hR0:=bU.new w s c r false true;have gM:=ae hR0;clear hR0;go_enter Tryz.func26,Tryz.ntmps26
       go_wp2_with (first
        | (go_at_call 50;((with_reducible refine(pE _ _ _ _ _ _ ?_).mono ?_);(first|omega|skip);rintro e w1 ⟨rfl,h1⟩;have iJ:=gM.o.below h1 gM.o.lt;obtain⟨x0,x1,x2,x3,x4⟩:=iJ.facts;have HR1:=ae iJ;clear iJ;have H1:=ae h1;clear h1))
        | (go_at_call 52;((with_reducible refine(yA _ ?_ ?_ _).mono ?_);(first|omega|skip);(first|omega|skip);rintro e w2 ⟨rfl,h2⟩;have hR2:=HR1.o.below h2 HR1.o.lt;clear x0 x1 x2 x3 x4;obtain⟨x0,x1,x2,x3,x4⟩:=hR2.facts;have HR2:=ae hR2;clear hR2;have H2:=ae h2;clear h2))
        | (go_at_call 16;((with_reducible refine(vU _ ?_ _).mono ?_);(first|omega|skip);rintro e w3 ⟨rfl,h3⟩;clear x0 x1 x2 x3 x4;have H3:=ae h3;clear h3)))
       go_ret;exact⟨lX ((ji (ji (ji (ji (l5 s).symm GZ) (Eq.refl (strOfNums (bf c)))) yH) (Eq.refl (strOfNums (aQ k)))).trans (congrArg strOfNums HT.o)),wK ((ai _ _).alloc (ah _) _) H1.o H2.o H3.o⟩
theorem agW (s:ByteArray)(c r:Int)(k:Nat)(w:World)(_hs:s.size≤1000000)(h0:¬ s.size=0)(hm:di (sb s) c r=true)(hc0:0≤c)(hc1:c≤701)(hr0:0≤r)(hr1:r≤998)(hk:r+1=(k:Int))(hz1:(strOfNums (bf c)).size≤2)(hz2:(strOfNums (aQ k)).size≤1000) :
 Calls Tryz.prog 26 #[.agg #[.string s,.int .i64 c,.int .i64 r,.bool true,.bool false]] w fun e w'=>e = .returned (.string (strOfNums (aY (sb s) c r true false)))∧Below w.heap.size w w':=by
       have hk2:(r+1).toNat=k:=by omega
       have he:¬ sb s=[]:=by intro h;have:=aV s;rw[h]at this;exact h0 this.symm
       have ht:(((sb s++[33])++[36])++bf c)++aQ k=aY (sb s) c r true false:=by unfold aY;rw[if_pos hm,hk2,if_neg he];simp
       have HT:=ae ht;clear ht hk2 he;have hne:s.toList.isEmpty=false:=by cases hq:s.toList with|nil=>exact absurd hq (rG s h0)|cons a l=>rfl
       clear h0;have hR0:=bU.new w s c r true false;have gM:=ae hR0;clear hR0;go_enter Tryz.func26,Tryz.ntmps26
       go_wp2_with (first
        | (go_at_call 50;((with_reducible refine(pE _ _ _ _ _ _ ?_).mono ?_);(first|omega|skip);rintro e w1 ⟨rfl,h1⟩;have iJ:=gM.o.below h1 gM.o.lt;obtain⟨x0,x1,x2,x3,x4⟩:=iJ.facts;have HR1:=ae iJ;clear iJ;have H1:=ae h1;clear h1))
        | (go_at_call 52;((with_reducible refine(yA _ ?_ ?_ _).mono ?_);(first|omega|skip);(first|omega|skip);rintro e w2 ⟨rfl,h2⟩;have hR2:=HR1.o.below h2 HR1.o.lt;clear x0 x1 x2 x3 x4;obtain⟨x0,x1,x2,x3,x4⟩:=hR2.facts;have HR2:=ae hR2;clear hR2;have H2:=ae h2;clear h2))
        | (go_at_call 16;((with_reducible refine(vU _ ?_ _).mono ?_);(first|omega|skip);rintro e w3 ⟨rfl,h3⟩;clear x0 x1 x2 x3 x4;have H3:=ae h3;clear h3)))
       go_ret;exact⟨lX ((ji (ji (ji (ji (l5 s).symm GZ) yH) (Eq.refl (strOfNums (bf c)))) (Eq.refl (strOfNums (aQ k)))).trans (congrArg strOfNums HT.o)),wK ((ai _ _).alloc (ah _) _) H1.o H2.o H3.o⟩
theorem agV (s:ByteArray)(c r:Int)(k:Nat)(w:World)(_hs:s.size≤1000000)(h0:¬ s.size=0)(hm:di (sb s) c r=true)(hc0:0≤c)(hc1:c≤701)(hr0:0≤r)(hr1:r≤998)(hk:r+1=(k:Int))(hz1:(strOfNums (bf c)).size≤2)(hz2:(strOfNums (aQ k)).size≤1000) :
 Calls Tryz.prog 26 #[.agg #[.string s,.int .i64 c,.int .i64 r,.bool true,.bool true]] w fun e w'=>e = .returned (.string (strOfNums (aY (sb s) c r true true)))∧Below w.heap.size w w':=by
       have hk2:(r+1).toNat=k:=by omega
       have he:¬ sb s=[]:=by intro h;have:=aV s;rw[h]at this;exact h0 this.symm
       have ht:((((sb s++[33])++[36])++bf c)++[36])++aQ k=aY (sb s) c r true true:=by unfold aY;rw[if_pos hm,hk2,if_neg he];simp
       have HT:=ae ht;clear ht hk2 he;have hne:s.toList.isEmpty=false:=by cases hq:s.toList with|nil=>exact absurd hq (rG s h0)|cons a l=>rfl
       clear h0;have hR0:=bU.new w s c r true true;have gM:=ae hR0;clear hR0;go_enter Tryz.func26,Tryz.ntmps26
       go_wp2_with (first
        | (go_at_call 50;((with_reducible refine(pE _ _ _ _ _ _ ?_).mono ?_);(first|omega|skip);rintro e w1 ⟨rfl,h1⟩;have iJ:=gM.o.below h1 gM.o.lt;obtain⟨x0,x1,x2,x3,x4⟩:=iJ.facts;have HR1:=ae iJ;clear iJ;have H1:=ae h1;clear h1))
        | (go_at_call 52;((with_reducible refine(yA _ ?_ ?_ _).mono ?_);(first|omega|skip);(first|omega|skip);rintro e w2 ⟨rfl,h2⟩;have hR2:=HR1.o.below h2 HR1.o.lt;clear x0 x1 x2 x3 x4;obtain⟨x0,x1,x2,x3,x4⟩:=hR2.facts;have HR2:=ae hR2;clear hR2;have H2:=ae h2;clear h2))
        | (go_at_call 16;((with_reducible refine(vU _ ?_ _).mono ?_);(first|omega|skip);rintro e w3 ⟨rfl,h3⟩;clear x0 x1 x2 x3 x4;have H3:=ae h3;clear h3)))
       go_ret;exact⟨lX ((ji (ji (ji (ji (ji (l5 s).symm GZ) yH) (Eq.refl (strOfNums (bf c)))) yH) (Eq.refl (strOfNums (aQ k)))).trans (congrArg strOfNums HT.o)),wK ((ai _ _).alloc (ah _) _) H1.o H2.o H3.o⟩
theorem DF (s:ByteArray)(c r:Int)(ac ar:Bool)(w:World)(_hs:s.size≤1000000) :
 Calls Tryz.prog 26 #[.agg #[.string s,.int .i64 c,.int .i64 r,.bool ac,.bool ar]] w fun e w'=>e = .returned (.string (strOfNums (aY (sb s) c r ac ar)))∧Below w.heap.size w w':=by
 by_cases hm:di (sb s) c r=true
 · obtain ⟨hc0,hc1,hr0,hr1⟩:=KP hm
   have hl1:=Rb c;obtain⟨k,hk⟩:∃k:Nat,r+1=(k:Int):=⟨(r+1).toNat,by omega⟩;have hl2:=KE k;have hz1:(strOfNums (bf c)).size≤2:=by rw[strOfNums_size];exact hl1
   have hz2:(strOfNums (aQ k)).size≤1000:=by rw[strOfNums_size];omega
   by_cases h0:s.size=0
   · cases ac <;> cases ar
     · exact agR s c r k w _hs h0 hm hc0 hc1 hr0 hr1 hk hz1 hz2
     · exact agQ s c r k w _hs h0 hm hc0 hc1 hr0 hr1 hk hz1 hz2
     · exact agP s c r k w _hs h0 hm hc0 hc1 hr0 hr1 hk hz1 hz2
     · exact agO s c r k w _hs h0 hm hc0 hc1 hr0 hr1 hk hz1 hz2
   · cases ac <;> cases ar
     · exact agY s c r k w _hs h0 hm hc0 hc1 hr0 hr1 hk hz1 hz2
     · exact agX s c r k w _hs h0 hm hc0 hc1 hr0 hr1 hk hz1 hz2
     · exact agW s c r k w _hs h0 hm hc0 hc1 hr0 hr1 hk hz1 hz2
     · exact agV s c r k w _hs h0 hm hc0 hc1 hr0 hr1 hk hz1 hz2
 · have hm':di (sb s) c r=false:=by simpa using hm
   have ht:aY (sb s) c r ac ar=[]:=by unfold aY;rw[if_neg hm]
   have HT:=ae ht;clear ht hm;go_enter Tryz.func26,Tryz.ntmps26
   go_wp2_with (first
    | (go_at_call 50;((with_reducible refine(pE _ _ _ _ _ _ ?_).mono ?_);(first|omega|skip);rintro e w1 ⟨rfl,h1⟩;have H1:=ae h1;clear h1)))
   go_ret;exact⟨by rw[HT.o];rfl,((ai _ _).alloc (ah _) _).trans (H1.o.mono ((ai _ _).alloc (ah _) _).size)⟩
def Rd.rW(d:Rd):Rd:={ d with ac:=d.mark,k:=d.k+(eu d.mark).length }
def Rd.CP(d:Rd):Rd:={ d with c:=lg (d.rest.takeWhile aL),k:=d.k+(d.rest.takeWhile aL).length }
def Rd.A8(d:Rd):Rd:={ d with ar:=d.mark,k:=d.k+(eu d.mark).length }
def Rd.at4(d:Rd):Rd:=d.rW.CP.A8
theorem abF (u:Nat)(h:u≤999):(aQ u).length≤3:=by
 by_cases h1:u<10
 · rw[ou u h1];simp
 · rw[sF u h1,ak]
   by_cases h2:u / 10<10
   · rw[ou _ h2];simp
   · rw[sF _ h2,ak,ou _ (by omega)];simp
theorem aaO {l:List Int}(aX:∀x∈l,isNum x=true)(h:isRow l=true):l.length≤3:=by
 obtain⟨h1,h2,h3⟩:=QV h;obtain⟨h4,h5⟩:=JG _ _ rfl h1 aX h2;rw[← h5];exact abF _ (by omega)
theorem XX (s:ByteArray)(d1 d:Rd)(h1:∀e,(Rd.start s).jP=some e→e=d1)(hs:d1.s=s)(h:gH s=some d) :
 iR (d1.rW.rest.takeWhile aL)=true∧(∀x∈d1.at4.rest,isNum x=true)∧d1.at4.rest.length≤3∧d.sh=d1.at4.sh∧d.c=d1.at4.c∧d.ac=d1.at4.ac∧d.ar=d1.at4.ar∧d.r=cK d1.at4.rest - 1:=by
 unfold gH at h;simp only[Option.bind_eq_some_iff]at h;obtain⟨d5,⟨d4,⟨d3,⟨d2,⟨e1,g1,g2⟩,g3⟩,g4⟩,g5⟩,g6⟩:=h;have:=h1 e1 g1;subst this;have e2:d2=e1.rW:=by unfold Rd.xQ at g2;injection g2 with g2;exact g2.symm
 subst e2;unfold Rd.col at g3;by_cases hc:iR (e1.rW.rest.takeWhile aL)=true
 · rw [if_pos hc]at g3
   have e3:d3=e1.rW.CP:=by injection g3 with g3;exact g3.symm
   subst e3;have e4:d4=e1.at4:=by unfold Rd.xR at g4;injection g4 with g4;exact g4.symm
   subst e4;unfold Rd.row at g5;by_cases hr:isRow (e1.at4.rest.takeWhile isNum)=true
   · rw [if_pos hr]at g5;injection g5 with g5;subst g5
     unfold Rd.fin at g6;by_cases hk:e1.at4.k+(e1.at4.rest.takeWhile isNum).length=e1.at4.s.size
     · rw[if_pos hk]at g6;injection g6 with g6;subst g6
       have hl:=qA e1.at4;have hsp:=take_split isNum e1.at4.rest;have ZA:e1.at4.rest.drop (e1.at4.rest.takeWhile isNum).length=[]:=by rw[List.drop_eq_nil_iff];omega
       rw[ZA,fM]at hsp;have aX:=tC isNum e1.at4.rest;have hlen:=aaO aX hr;rw[hsp]at aX hlen;refine⟨hc,aX,hlen,rfl,rfl,rfl,rfl, ?_⟩;show cK (e1.at4.rest.takeWhile isNum) - 1=_;rw[hsp]
     · rw[if_neg hk]at g6;cases g6
   · rw[if_neg hr]at g5;cases g5
 · rw[if_neg hc]at g3;cases g3
structure iH (w wr:World)(sh:ByteArray)(c r:Int)(ac ar:Bool):Prop where
 res:bU wr w.heap.size ⟨#[]⟩ 0 0 false false
 ref:bU wr (w.heap.size+1) sh c r ac ar
 below:Below w.heap.size w wr
theorem bU.drewN{w:World}{b:Nat}{s:ByteArray}{c r:Int}{ac ar:Bool}(h:bU w b s c r ac ar)(n:Nat):bU (w.drewN n) b s c r ac ar:=h
theorem bU.frozen{w:World}{b:Nat}{s:ByteArray}{c r:Int}{ac ar:Bool}(h:bU w b s c r ac ar)(j:Nat):w.frozen? ⟨b,j,none⟩=false:=frozen_of_row w b j _ _ h
theorem bU.other {w:World}{b:Nat}{s:ByteArray}{c r:Int}{ac ar:Bool}(h:bU w b s c r ac ar)(a:Addr)(v:Value)(hne:b≠a.block):bU (w.setCell a v) b s c r ac ar:=by
 unfold bU;rw[heap_setCell_other w a b v hne];exact h
theorem iH.drewN{w wr:World}{sh:ByteArray}{c r:Int}{ac ar:Bool}(h:iH w wr sh c r ac ar)(n:Nat):iH w (wr.drewN n) sh c r ac ar:=⟨h.res.drewN n,h.ref.drewN n,⟨h.below.os,h.below.tape,h.below.output,h.below.size,h.below.block⟩⟩
theorem iH.next {w wr w2:World}{sh:ByteArray}{c r:Int}{ac ar:Bool}(h:iH w wr sh c r ac ar)(hb:Below wr.heap.size wr w2):iH w w2 sh c r ac ar :=
 ⟨h.res.below hb h.res.lt,h.ref.below hb h.ref.lt,h.below.trans (hb.mono h.below.size)⟩
theorem iH.set (i:Nat){w wr:World}{sh:ByteArray}{c r:Int}{ac ar:Bool}(h:iH w wr sh c r ac ar)(v:Value)(sh':ByteArray)(c' r':Int)(uk rX:Bool)
 (hv:(#[.string sh,.int .i64 c,.int .i64 r,.bool ac,.bool ar]:Array Value).setIfInBounds i v=#[.string sh',.int .i64 c',.int .i64 r',.bool uk,.bool rX]):iH w (wr.setCell ⟨w.heap.size+1,i,none⟩ v) sh' c' r' uk rX:=by
 refine⟨h.res.other _ _ (by show w.heap.size≠w.heap.size+1;omega), ?_,h.below.setCell (by show w.heap.size≤w.heap.size+1;omega) _⟩;have hr:=h.ref;unfold bU at hr ⊢;rw[heap_setCell_same wr (w.heap.size+1) i _ _ _ hr,hv]
end Go.Proofs.YtaobhjliflomaaaGreatDoor
