import Derived.Test.YtbplbjmmfgjdjaaGreatDoorMN7
set_option maxRecDepth 100000
set_option maxHeartbeats 64000000
namespace Go.Proofs.YtbplbjmmfgjdjaaGreatDoor
open Go.RowKit
def Fp:Array Value:=(List.replicate 9 (Value.string ⟨#[]⟩)++j3.map Value.string).toArray
theorem aj4(rk:Nat)(h:rk≤5):wrap64 ((rk:Int)+1+1)=(rk:Int)+2:=by unfold wrap64;omega
theorem aj5(rk:Nat)(h:rk≤5):IntKind.i64.wrap ((rk:Int)+1+1)=(rk:Int)+2:=by rw[gJ];omega
theorem ah3:∀k:Nat,9≤k→k<20→Fp[k]? = some (.string (j3.getD (k - 9) ⟨#[]⟩)):=by
 intro k h9 h20;have hk:k=9∨k=10∨k=11∨k=12∨k=13∨k=14∨k=15∨k=16∨k=17∨k=18∨k=19:=by omega
 rcases hk with rfl|rfl|rfl|rfl|rfl|rfl|rfl|rfl|rfl|rfl|rfl <;> rfl
def rf(w:World):Prop:=∃ty fr,w.heap[(0:Nat)]? = some (.cells Fp ty fr)
theorem rf.below {w w':World}(h:rf w)(hb:Below w.heap.size w w'):rf w':=by
 obtain⟨ty,fr,h1⟩:=h;exact⟨ty,fr,by rw[hb.block _ (dB.1 h1).1];exact h1⟩
theorem rf.cell {w:World}(h:rf w)(j:Nat):w.cell? ⟨(0:Nat),j,none⟩=Fp[j]? := by
 obtain⟨ty,fr,h1⟩:=h;exact cell_of_row w _ j _ ty fr h1
theorem rf.lt {w:World}(h:rf w):0<w.heap.size:=by
 obtain⟨ty,fr,h1⟩:=h;exact(dB.1 h1).1
theorem Zx (w:World)(b:Nat)(nv:Value)(st:List aD)(txt:List Int)(n:Nd)(A:Option Addr)(m c:Nat)(h:dW w b nv st txt)(kd:Nat)(hk:n.kind=(kd:Int))(h9:9≤kd)(h20:kd<20)(k0 k1:Int)(hk0:n.kids[0]? = some k0)(hk1:n.kids[1]? = some k1)(hsi:ic w b (.slice A m c) n.kids)(hsv:rf w)(hgb:0<b)(hls:st.length≤2000000000) :
 Calls Tryz.prog 108 #[.pointer (some ⟨b,0,none⟩),.agg (aB n (.slice A m c))] w (mX w b nv st txt n):=by
 (try unfold aB)
 have hB:Below w.heap.size w (w.alloc (.cells (aB n (.slice A m c)) 44)):=(ak _ _).alloc (aj _) _;have HN:az (w.alloc (.cells (aB n (.slice A m c)) 44)) w.heap.size n (.slice A m c):=az.new w n _;have hbw:b<w.heap.size:=by obtain⟨wv,h1, -⟩:=h;exact h1.lt
 obtain⟨sg,hsg⟩:∃sg,j3.getD (kd - 9) ⟨#[]⟩=sg:=⟨_,rfl⟩;obtain⟨rk,uH⟩:∃rk:Nat,bM n.kind=rk:=⟨_,rfl⟩;have Sj:rk≤5:=by rw[← uH];unfold bM;split <;> (try split) <;> (try split) <;> (try split) <;> (try split) <;> omega
 have hs:eP n=([],[aD.op k0 ((rk:Int)+1),aD.plain sg,aD.op k1 ((rk:Int)+2)]):=by
  unfold eP;rw[af (by omega),af (by omega),af (by omega),af (by omega),af (by omega),af (by omega),af (by omega),af (by omega),kg,hk0,kg (l:=n.kids) (i:=1),hk1,uH,hk,show((kd:Int) - 9).toNat=kd - 9 by omega,hsg];rfl
 have vZ:=Ng n.kind;rw[uH,hk]at vZ;have LZ:=hsi.below hB (Nat.le_of_lt hbw);obtain⟨A',qA,hsl,hcm, -,hcell⟩:=LZ;injection hsl with e1 e2 e3;have mJ:1<n.kids.length:=(eQ.1 hk1).1;obtain⟨pb,po,hA,hpb,hcl⟩:=hcell.resolve_left (fun e=>by rw[e]at mJ;exact absurd mJ (by decide));have hc0:=hcl 0 k0 hk0;have hc1:=hcl 1 k1 hk1;rw[Nat.add_zero]at hc0;have hA2:=e1.trans hA;subst hA2;subst e3;clear e1 hA;have hm0:(0:Int)<(m:Int):=by omega
 have hm1:(1:Int)<(m:Int):=by omega
 have hm2:0<m:=by omega
 have hm3:1<m:=by omega
 have akI:(0:Int)≤(kd:Int):=by omega
 have akJ:(kd:Int)<20:=by omega
 have akX:=aj4 rk Sj;have akY:=aj5 rk Sj;have hsc:(w.alloc (.cells (aB n (.slice (some ⟨pb,po,none⟩) m c)) 44)).cell? ⟨(0:Nat),kd,none⟩=some (.string sg):=by rw[(hsv.below hB).cell kd,ah3 kd h9 h20,hsg]
 have LB:=(hsv.below hB).lt;have HS:=ae hs;have HB:=ae hB;have Ch:=ae vZ;have sJ:=ae (h.below hB);have mf:=ae hk;clear h hs hk hB hsi e2 hcl mJ hcell hk0 hk1 hsv hsg uH vZ;go_enter Tryz.func108,Tryz.ntmps108;go_upto_region 1 with (fail)
 obtain⟨z,hzz⟩:∃z,w.heap.size=z:=⟨_,rfl⟩;obtain⟨w1,hw1⟩:∃w1,w.alloc (.cells (aB n (.slice (some ⟨pb,po,none⟩) m c)) 44)=w1:=⟨_,rfl⟩;rw[hw1]at HN HB sJ hc0 hc1 hsc LB ⊢;rw[hzz]at HN ⊢;have hzl:=HN.lt;have hzb:z≠b:=by omega
 have bV:=ae HN;have x0:=HN.cells.1;obtain⟨-, -, -, -, -, -, -, -, -, -, -, -, -,x1⟩:=HN.cells;rw[mf.o]at x0;have AZ:b<w1.heap.size:=eB hbw HB.o.size;have hpl:pb<w1.heap.size:=by omega
 have hgl:0<w1.heap.size:=LB;have x2:=hc0;have x3:=hc1;have x4:=hsc;clear hzz hw1 HN hc0 hc1 hsc LB;go_upto_region 2 with (go_at_call 72;((with_reducible refine(Ch.o _).mono ?_);rintro e w2 ⟨rfl,rfl⟩))
 have H1:=ae ((ak w1.heap.size w1).drew);have HP:=ae (fun (wr:World)(hr:Below w1.heap.size w1 wr)=>BD wr b nv st [aD.op k0 ((rk:Int)+1),aD.plain sg,aD.op k1 ((rk:Int)+2)] txt #[.string ⟨#[]⟩,.int .i64 k0,.int .i64 ((rk:Int)+1),.string sg,.int .i64 0,.int .i64 0,.string ⟨#[]⟩,.int .i64 k1,.int .i64 ((rk:Int)+2)] 3 rfl rfl (sJ.o.below hr) (by show 3≤1000000;decide) hls);clear Ch
 go_region_held3 (fun w'=>w'.cell? ⟨z,0,none⟩=some (.int .i64 (kd:Int))∧w'.cell? ⟨z,13,none⟩=some (.slice (some ⟨pb,po,none⟩) m c)∧w'.cell? ⟨pb,po,none⟩=some (.int .i64 k0)∧w'.cell? ⟨pb,po+1,none⟩=some (.int .i64 k1)∧w'.cell? ⟨(0:Nat),kd,none⟩=some (.string sg)) (go_keep) (first
  | (go_at_call 47;((with_reducible refine(EY k0 ((rk:Int)+1) _).mono ?_);rintro e w3 ⟨rfl,h3⟩;have H3:=ae (H1.o.trans (h3.mono H1.o.size));have p0:=(H3.o.cell (p:=⟨z,0,none⟩) hzl).trans x0;have p1:=(H3.o.cell (p:=⟨z,13,none⟩) hzl).trans x1;have p2:=(H3.o.cell (p:=⟨pb,po,none⟩) hpl).trans x2;have p3:=(H3.o.cell (p:=⟨pb,po+1,none⟩) hpl).trans x3;have p4:=(H3.o.cell (p:=⟨(0:Nat),kd,none⟩) hgl).trans x4;clear h3))
  | (go_at_call 73;((with_reducible refine(Iu _ _).mono ?_);rintro e w4 ⟨rfl,h3⟩;have H4:=ae (H3.o.trans (h3.mono H3.o.size));have q0:=(H4.o.cell (p:=⟨z,0,none⟩) hzl).trans x0;have q1:=(H4.o.cell (p:=⟨z,13,none⟩) hzl).trans x1;have q2:=(H4.o.cell (p:=⟨pb,po,none⟩) hpl).trans x2;have q3:=(H4.o.cell (p:=⟨pb,po+1,none⟩) hpl).trans x3;have q4:=(H4.o.cell (p:=⟨(0:Nat),kd,none⟩) hgl).trans x4;clear h3))
  | (go_at_call 47;((with_reducible refine(EY k1 ((rk:Int)+2) _).mono ?_);rintro e w5 ⟨rfl,h3⟩;have gB:=ae (H4.o.trans (h3.mono H4.o.size));have r0:=(gB.o.cell (p:=⟨z,0,none⟩) hzl).trans x0;have r1:=(gB.o.cell (p:=⟨z,13,none⟩) hzl).trans x1;have r2:=(gB.o.cell (p:=⟨pb,po,none⟩) hpl).trans x2;have r3:=(gB.o.cell (p:=⟨pb,po+1,none⟩) hpl).trans x3;have r4:=(gB.o.cell (p:=⟨(0:Nat),kd,none⟩) hgl).trans x4;clear h3))
  | (go_at_call 46;((with_reducible refine(HP.o _ gB.o).mono ?_);rintro e w6 ⟨rfl,h3,h4⟩;have xR:=ae h3;have eG:=ae h4;have jl:=eG.o.block z (eB hzl gB.o.size) hzb (.inr fun cur fr=>by
      have h5:=gB.o.block z hzl;have h6:w1.heap[z]? = some (.cells (bA n (.slice (some ⟨pb,po,none⟩) m c)) 44):=bV.o;rw[h5,h6];exact⟨fun e=>by(injection e with e;injection e with _ e2;exact absurd e2 (by decide)),fun e=>by(injection e with e;injection e with _ e2;exact absurd e2 (by decide))⟩);have hpk:=eG.o.block pb (eB hpl gB.o.size) (Nat.ne_of_lt hpb) (.inl hpb);have Cy:=eG.o.block 0 (eB hgl gB.o.size) (Nat.ne_of_lt hgb) (.inl hgb);have t0:=(gK (a:=⟨z,0,none⟩) jl).trans r0;have t1:=(gK (a:=⟨z,13,none⟩) jl).trans r1;have t2:=(gK (a:=⟨pb,po,none⟩) hpk).trans r2;have t3:=(gK (a:=⟨pb,po+1,none⟩) hpk).trans r3;have t4:=(gK (a:=⟨(0:Nat),kd,none⟩) Cy).trans r4;clear h3 h4 jl hpk Cy)))
 all_goals go_wp2_with fail
 all_goals go_end0
 all_goals refine⟨rfl, ?_,(bI.iP HB.o).trans ((bI.iP gB.o).trans eG.o)⟩
 all_goals rw[HS.o,gL]
 all_goals exact xR.o
end Go.Proofs.YtbplbjmmfgjdjaaGreatDoor
namespace Go.Proofs.YtbplbjmmfgjdjaaGreatDoor
open Go.RowKit Go.Shelf
attribute [local go_sem] Oper.semAt_some
def uz(xs:List Int)(q:Nat):List (Nat × Int):=(List.range (xs.length - q)).map fun j=>(xs.length - 1 - j,xs.getD (xs.length - 1 - j) 0)
theorem Qp(xs:List Int):uz xs xs.length=[]:=by unfold uz;simp
theorem KR (xs:List Int)(m:Nat)(p:Int)(hp:xs[m]? = some p):uz xs m=uz xs (m+1)++[(m,p)]:=by
 have hl:=(eQ.1 hp).1;unfold uz;rw[show xs.length - m=(xs.length - (m+1))+1 by omega,List.range_succ,iL];show _++[(xs.length - 1 - (xs.length - (m+1)),_)]=_;rw[show xs.length - 1 - (xs.length - (m+1))=m by omega,kg,hp];rfl
theorem ZR(xs:List Int)(q:Nat):(uz xs q).length=xs.length - q:=by unfold uz;simp
def Bq(x:Nat × Int):List aD:=if x.1=0 then [aD.op x.2 1]else [aD.op x.2 1,aD.plain ⟨#[44]⟩]
def uM(pre:List (Nat × Int)):List aD:=pre.flatMap Bq
theorem Ho(pre:List (Nat × Int))(x:Nat × Int):uM (pre++[x])=uM pre++Bq x:=by unfold uM;simp
theorem adh (pre:List (Nat × Int)):(uM pre).length≤2*pre.length:=by
 induction pre with
 | nil=>exact aj _
 | cons x pre ih =>
   show(Bq x++uM pre).length≤_;have h:(Bq x).length≤2:=by unfold Bq;split <;> simp
   rw[ax,bf];omega
def Gs:List Int→List aD
 | []=>[]
 | k :: ks=>aD.plain ⟨#[44]⟩ :: aD.op k 1 :: Gs ks
theorem PV:∀(a:Int)(ks:List Int),oW (a :: ks)=aD.op a 1 :: Gs ks
 | a,[]=>rfl
 | a,b :: ks=>by show aD.op a 1 :: aD.plain ⟨#[44]⟩ :: oW (b :: ks)=_;rw[PV b ks];rfl
theorem adg (xs:List Int)(q:Nat)(h1:1≤q)(h2:q≤xs.length):uM (uz xs q)=(Gs (xs.drop q)).reverse:=by
 induction h:xs.length - q generalizing q with
 | zero =>
   have:q=xs.length:=by omega
   subst this;rw[Qp,List.drop_length];rfl
 | succ d ih =>
   obtain⟨p,hp⟩:∃p,xs[q]? = some p:=⟨_,cZ (by omega)⟩;have hl:=(eQ.1 hp).1;have he:xs[q]=p:=by rw[cZ hl]at hp;exact dM hp
   rw[KR xs q p hp,Ho,ih (q+1) (by omega) (by omega) (by omega),List.drop_eq_getElem_cons hl,he];show _++Bq (q,p)=(aD.plain ⟨#[44]⟩ :: aD.op p 1 :: Gs (xs.drop (q+1))).reverse;unfold Bq;rw[af (show ¬ (q,p).1=0 by show ¬ q=0;omega),List.reverse_cons,List.reverse_cons,bQ];rfl
theorem adf:∀xs:List Int,uM (uz xs 0)=(oW xs).reverse
 | []=>rfl
 | a :: ks=>by
   rw[KR (a :: ks) 0 a rfl,Ho,adg (a :: ks) 1 (by omega) (by simp),PV];show _++[aD.op a 1]=_;rw[List.reverse_cons];rfl
theorem Zk (F:Fence)(n:Nat)(h7:F.fn 159)(hro:F.round=none)(hn:1≤n)(l Bs b po cap:Nat)(A:Option Addr)(xs:List Int)(hlen:xs.length≤1000000000)(J Jx:List (Nat × Int)→World→Prop)
 (hY:∀pre x W,J pre W→pre.length<xs.length→YieldAt F (n - 1) Tryz.prog l #[.int .i64 (x.1:Int),.int .i64 x.2] W fun e W' =>
   (e = .returned (.bool true)∧J (pre++[x]) W'∧jB Bs b W W')∨(e = .returned (.bool false)∧Jx (pre++[x]) W'))
 (W:World) (rA:W.cell? ⟨Bs,0,none⟩=some (.slice A xs.length cap)) (hc:∀m p,xs[m]? = some p→A=some ⟨b,po,none⟩∧W.cell? ⟨b,po+m,none⟩=some (.int .i64 p)) (h0:J [] W) :
 CallsIn F n Tryz.prog 159 #[.func (.yield l) #[] #[],.pointer (some ⟨Bs,0,none⟩)] W fun e W'=>(∃v,e = .returned v) ∧
  ((∃ys,ys=uz xs 0∧J ys W')∨(∃pre,True∧Jx pre W')):=by
 obtain⟨L,hL⟩:∃L,xs.length=L:=⟨_,rfl⟩;have HL:=ae hL;rw[hL]at hlen rA;refine callsIn_of_wp Tryz.func159 rfl h7 ?_ hro;simp only[Tryz.ntmps159,List.size_toArray,bf,dX,Nat.reduceAdd,Nat.reduceSub,Array.replicate_succ,Array.replicate_zero,List.push_toArray,List.append_toArray,gX,dE];gi_wp2
 gi_loopw [3] (fun i wr=>∃q:Nat,q≤L∧i = .int .i64 ((q:Int) - 1)∧J (uz xs q) wr∧jB Bs b W wr)
  (fun i _=>(intOf i+1).toNat)
 case atStart=>exact⟨L,aj _,rfl,by rw[← hL,Qp];exact h0,jB.refl _ _ _⟩
 case round =>
  obtain⟨q,hq,rfl,hJs,hnx⟩:=hrel;have Rj:=(hnx.KT 0).trans rA;cases q with
  | zero =>
    gi_wp2
    go_end0;exact⟨⟨_,rfl⟩,.inl ⟨_,rfl,hJs⟩⟩
  | succ m =>
    obtain⟨p,hp⟩:∃p,xs[m]? = some p:=⟨_,cZ (by omega)⟩;obtain⟨hA,c0⟩:=hc m p hp;have d0:=(hnx.wW (po+m)).trans c0;have hst:=KR xs m p hp;obtain⟨fn,tmps,assign,body,hy,hR⟩:=hY _ (m,p) wr hJs (by rw[ZR];omega);rw[← hst]at hR;dsimp only at hy;have hm1:((m+1:Nat):Int) - 1=(m:Int):=by omega
    rw[hm1];have RV:(m:Int)<(L:Int):=by omega
    have hm0:(0:Int)≤(m:Int):=by omega
    clear hm1 c0 hc hJs hst;subst hA;gi_wp2
    refine hR.mono ?_;rintro e W3 (⟨rfl,hJ3,hk3⟩|⟨rfl,Eo⟩)
    · gi_wp2
      go_roundw
      case rel=>exact⟨m,by omega,by simp,hJ3,hnx.trans hk3⟩
      case measure=>simp[intOf]
    · gi_wp2
      refine bodyPost_ret (results_none rfl _ _ _) rfl ?_;exact⟨⟨_,rfl⟩,.inr ⟨_,trivial,Eo⟩⟩
theorem Zp (F:Fence)(n:Nat)(h5:F.fn 136)(hro:F.round=none)(a:Option Addr)(len cap:Nat)(w:World) :
 CallsIn F n Tryz.prog 136 #[.slice a len cap] w fun e w'=>e = .returned (.func (.func 159) #[] #[.pointer (some ⟨w.heap.size,0,none⟩)])∧w.alloc (.cells #[.slice a len cap] 34)=w':=by
 refine callsIn_of_wp Tryz.func136 rfl h5 ?_ hro;simp only[Tryz.ntmps136,List.size_toArray,bf,dX,Nat.reduceAdd,Nat.reduceSub,Array.replicate_succ,Array.replicate_zero,List.push_toArray,List.append_toArray,gX,dE];gi_wp2
 go_ret;exact⟨rfl,rfl⟩
theorem Zl (F:Fence)(n:Nat)(h7:F.fn 159)(hro:F.round=none)(hn:1≤n)(Bs b po cap:Nat)(A:Option Addr)(xs:List Int)(hlen:xs.length≤1000000000)(w:World)(hB:Bs<w.heap.size)(hb:b<w.heap.size)
 (rA:w.cell? ⟨Bs,0,none⟩=some (.slice A xs.length cap)) (hc:∀m p,xs[m]? = some p→A=some ⟨b,po,none⟩∧w.cell? ⟨b,po+m,none⟩=some (.int .i64 p)) :
 SeqStopsK F n Tryz.prog 159 #[.pointer (some ⟨Bs,0,none⟩)] (fun x:Nat × Int=>#[Value.int .i64 (x.1:Int),.int .i64 x.2]) (jB Bs b) (fun ys=>ys=uz xs 0) (fun _=>True) xs.length w:=fun l J Jx W hW _ _ hY h0 =>
 Zk F n h7 hro hn l Bs b po cap A xs hlen J Jx hY W ((hW.cell hB).trans rA) (fun m p hp=>⟨(hc m p hp).1,(hW.cell (p:=⟨b,po+m,none⟩) hb).trans (hc m p hp).2⟩) h0
end Go.Proofs.YtbplbjmmfgjdjaaGreatDoor
namespace Go.Proofs.YtbplbjmmfgjdjaaGreatDoor
open Go.RowKit Go.Shelf
attribute [local go_sem] Oper.semAt_some
variable {b:Nat}
theorem dW.stay {A B:World}{nv:Value}{st:List aD}{txt:List Int}(h:dW A b nv st txt){row:Option Nat}(hg:A.grownBy B row)(hr:∀r,row=some r→∃o:Obj,A.heap[r]? = some o∧o.isCells=false):dW B b nv st txt:=by
 obtain⟨wv,h1,h2⟩:=h;exact⟨wv,lV.stay h1 hg hr,Im h2 hg hr⟩
theorem bI.keeps {W W':World}{B:Nat}(h:bI W W' b)(hB:b<B):KeepsFrom B W W':=⟨h.size,fun k o hk ho hc=>by
 rw[h.block k (dB.1 ho).1 (by omega) (.inr fun cur fr=>⟨fun e=>by(rw[ho]at e;cases e;cases hc),fun e=>by(rw[ho]at e;cases e;cases hc)⟩)];exact ho⟩
theorem bI.boxed {W W':World}{k:Nat}{t:TypeId}{v:Value}(h:bI W W' b)(hb:Boxed W k t v)(hk:k≠b)(h1:t≠5)(h2:t≠90):W'.heap[k]? = W.heap[k]? := by
 have hb':W.heap[k]? = some (.cells #[v] t):=hb;exact h.block k (dB.1 hb').1 hk (.inr fun cur fr=>⟨fun e=>by rw[hb']at e;injection e with e;injection e with _ e;exact h1 e,fun e=>by rw[hb']at e;injection e with e;injection e with _ e;exact h2 e⟩)
def Oz (w:World)(b:Nat)(nv:Value)(st:List aD)(txt:List Int)(z zs:Nat)(sv:Value)(pre:List (Nat × Int))(W:World):Prop :=
 dW W b nv (st++uM pre) txt∧Boxed W z 81 (.pointer (some ⟨b,0,none⟩))∧Boxed W zs 34 sv∧bI w W b
theorem ZC {w:World}{nv:Value}{st:List aD}{txt:List Int}{z zs:Nat}{sv:Value}{B:Nat}(hB:w.heap.size≤B):OwnFrom B (Oz w b nv st txt z zs sv):=by
 rintro pre X Y row ⟨h1,h2,h3,h4⟩ hg hr;have hr2:∀r,row=some r→∃o:Obj,X.heap[r]? = some o∧o.isCells=false:=fun r e=>(hr r e).2
 exact⟨h1.stay hg hr2,zt hg hr2 h2,zt hg hr2 h3,h4.stay hg (fun r e=>bN hB (hr r e).1)⟩
theorem ZK (w:World)(b:Nat)(nv:Value)(st:List aD)(txt:List Int)(n:Nd)(A:Option Addr)(m c:Nat)(h:dW w b nv st txt)(hk:n.kind=7)(hz:n.text.size≤1000000)(hsi:ic w b (.slice A m c) n.kids)(hl:txt.length≤1000000000)(hls:st.length+2*n.kids.length+1≤2000000000) :
 Calls Tryz.prog 106 #[.pointer (some ⟨b,0,none⟩),.agg (aB n (.slice A m c))] w (mX w b nv st txt n):=by
 (try unfold aB)
 have hs:eP n=(sb n.text++[40],oW n.kids++[aD.plain ⟨#[41]⟩]):=by
  unfold eP;rw[af (by omega),af (by omega),af (by omega),af (by omega),af (by omega),af (by omega),ag hk]
 have hbw:b<w.heap.size:=by obtain⟨wv,h1, -⟩:=h;exact h1.lt
 have f1:¬ 9223372036854775807<n.text.size+(⟨#[40]⟩:ByteArray).size:=by show ¬ _<_+1;omega
 have f2:¬ 9223372036854775807<n.text.size+1:=by omega
 have f3:(n.text++(⟨#[40]⟩:ByteArray)).size=n.text.size+1:=by rw[ByteArray.size_append];rfl
 have HT:=ae (show sb (n.text++(⟨#[40]⟩:ByteArray))=sb n.text++[40]by rw[ahK];rfl);have hB:Below w.heap.size w ((w.alloc (.cells #[(.pointer (some ⟨b,0,none⟩))] 81)).alloc (.cells (aB n (.slice A m c)) 44)):=((ak _ w).alloc (aj _) _).alloc (by simp) _;have zm:Boxed ((w.alloc (.cells #[(.pointer (some ⟨b,0,none⟩))] 81)).alloc (.cells (aB n (.slice A m c)) 44)) w.heap.size 81 (.pointer (some ⟨b,0,none⟩)):=(Boxed.new w 81 (.pointer (some ⟨b,0,none⟩))).alloc _
 have HN:az ((w.alloc (.cells #[(.pointer (some ⟨b,0,none⟩))] 81)).alloc (.cells (aB n (.slice A m c)) 44)) (w.heap.size+1) n (.slice A m c):=by
  have h:=az.new (w.alloc (.cells #[(.pointer (some ⟨b,0,none⟩))] 81)) n (.slice A m c);rwa[lQ]at h
 have HS:=ae hs;have HB:=ae hB;have HQ:=ae (h.below hB);have wP:=ae (hsi.below hB (Nat.le_of_lt hbw));have hsz:((w.alloc (.cells #[(.pointer (some ⟨b,0,none⟩))] 81)).alloc (.cells (aB n (.slice A m c)) 44)).heap.size=w.heap.size+2:=by simp
 clear h hs hk hsi hB;refine(callsIn_wide (n:=6)).1 ?_;refine callsIn_of_wp_marks Tryz.func106 rfl trivial ?_ rfl;simp only[Tryz.ntmps106,List.size_toArray,bf,dX,Nat.reduceAdd,Nat.reduceSub,Array.replicate_succ,Array.replicate_zero,List.push_toArray,List.append_toArray,gX,dE];gi_wp2
 obtain⟨w1,hw1⟩:∃w1,((w.alloc (.cells #[(.pointer (some ⟨b,0,none⟩))] 81)).alloc (.cells (aB n (.slice A m c)) 44))=w1:=⟨_,rfl⟩;rw[hw1]at HN HB HQ wP zm hsz ⊢;obtain⟨z,hzz⟩:∃z,w.heap.size=z:=⟨_,rfl⟩;rw[hzz]at HN zm hsz ⊢;have hzl:z<w1.heap.size:=by omega
 have acF:z+1<w1.heap.size:=HN.lt;have hzb:z≠b:=by omega
 have SF:z+1≠b:=by omega
 have bV:=ae HN;have tV:=ae zm;have x0:=zm.cell;obtain⟨-, -,x2, -, -, -, -, -, -, -, -, -, -,aC⟩:=HN.cells;have HW:=ae (fun wr (hr:Below w1.heap.size w1 wr) wv (h1:lV w1 b nv wv txt)=>tL wr b nv wv txt (n.text++(⟨#[40]⟩:ByteArray)) (h1.below hr) (by rw[f3];omega));have H1:=ae ((ak w1.heap.size w1).drew);clear hw1 HN zm f3;obtain⟨wv,hws,gQ⟩:=HQ.o;have vC:=ae hws;have HO:=ae gQ;clear hws gQ;refine wpIn_wide.2 ?_
 go_region_held3 (fun w'=>w'.cell? ⟨z,0,none⟩=some (.pointer (some ⟨b,0,none⟩))∧w'.cell? ⟨z+1,2,none⟩=some (.string n.text)) (go_keep) (first
  | (go_at_call 71;((with_reducible refine(HW.o _ H1.o wv vC.o).mono ?_);rintro e w2 ⟨⟨x,rfl⟩,h3,h4⟩;have Ku:=ae h3;have bT:=ae h4;have jl:=bT.o.block z hzl hzb (.inr fun cur fr e=>by
      have h6:w1.heap[z]? = some (.cells #[.pointer (some ⟨b,0,none⟩)] 81):=tV.o;have h7:w1.drew.heap[z]? = w1.heap[z]? := rfl;rw[h7,h6]at e;injection e with e;injection e with _ e2;exact absurd e2 (by decide));have Ha:=bT.o.block (z+1) acF SF (.inr fun cur fr e=>by
      have h6:w1.heap[z+1]? = some (.cells (bA n (.slice A m c)) 44):=bV.o;have h7:w1.drew.heap[z+1]? = w1.heap[z+1]? := rfl;rw[h7,h6]at e;injection e with e;injection e with _ e2;exact absurd e2 (by decide));have p0:=(gK (a:=⟨z,0,none⟩) jl).trans x0;have p2:=(gK (a:=⟨z+1,2,none⟩) Ha).trans x2;have p13:=(gK (a:=⟨z+1,13,none⟩) Ha).trans aC;clear h3 h4)))
 gi_wp2
 have Eu:w1.heap.size≤w2.heap.size:=bT.o.size;have Kt:=ae (show dW w2 b nv st (txt++sb (n.text++(⟨#[40]⟩:ByteArray)))from dW.wrote (HO.o.below H1.o (aj _)) Ku.o bT.o);have qZ:=ae (fun (w3:World)(h3:Below w2.heap.size w2 w3)=>BD w3 b nv st [aD.plain ⟨#[41]⟩] (txt++sb (n.text++(⟨#[40]⟩:ByteArray))) #[.string ⟨#[41]⟩,.int .i64 0,.int .i64 0] 1 rfl rfl (Kt.o.below h3) (by show 1≤1000000;decide) (by omega));have HZ2:=ae jl;have YT:=ae Ha;have H2:=ae ((ak w2.heap.size w2).drew);have Bl:z<w2.heap.size:=by omega
 have acG:z+1<w2.heap.size:=by omega
 clear x0 x2 aC jl Ha p2;refine wpIn_wide.2 ?_
 go_region_held3 (fun w'=>w'.cell? ⟨z,0,none⟩=some (.pointer (some ⟨b,0,none⟩))) (go_keep) (first
  | (go_at_call 73;((with_reducible refine(Iu _ _).mono ?_);rintro e w3 ⟨rfl,h3⟩;have H3:=ae (H2.o.trans (h3.mono H2.o.size));have q0:=(H3.o.cell (p:=⟨z,0,none⟩) Bl).trans p0;clear h3))
  | (go_at_call 46;((with_reducible refine(qZ.o _ H3.o).mono ?_);rintro e w5 ⟨rfl,h3,h4⟩;have sK:=ae h3;have bq:=ae h4;have jl:=bI.boxed bq.o (k:=z) (v := .pointer (some ⟨b,0,none⟩)) (t:=81) ((H3.o.block z Bl).trans (HZ2.o.trans tV.o)) hzb (by decide) (by decide);have r0:=(gK (a:=⟨z,0,none⟩) jl).trans q0;clear h3 h4)))
 have Cz:w2.heap.size≤w3.heap.size:=H3.o.size
 have N5:az w5 (z+1) n (.slice A m c):=by
  unfold az;have e1:w3.heap[z+1]? = some (.cells (bA n (.slice A m c)) 44):=(H3.o.block (z+1) acG).trans (YT.o.trans bV.o);rw[bq.o.block (z+1) (by omega) SF (.inr fun cur fr=>⟨fun e=>by(rw[e1]at e;injection e with e;injection e with _ e2;exact absurd e2 (by decide)),fun e=>by(rw[e1]at e;injection e with e;injection e with _ e2;exact absurd e2 (by decide))⟩)];exact e1
 obtain⟨-, -, -, -, -, -, -, -, -, -, -, -, -,aC⟩:=N5.cells;have OJ:=ae (((bI.iP H1.o).trans (bI.uO bT.o)).trans ((bI.iP H3.o).trans bq.o));have eX:Boxed w5 z 81 (.pointer (some ⟨b,0,none⟩)):=jl.trans ((H3.o.block z Bl).trans (HZ2.o.trans tV.o));have zA:w3.heap.size≤w5.heap.size:=bq.o.size;have AZ:b<w1.heap.size:=by omega
 have Y4:=wP.o.pW OJ.o (aj _) AZ;clear N5 jl q0 r0 p0
 gi_wp2_with (refine⟨trivial, ?_⟩;gi_at_call 136;refine(Zp Fence.wide _ trivial rfl _ _ _ _).mono ?_;rintro e w' ⟨rfl,rfl⟩)
 have vL:=Boxed.new w5 34 (.slice A m c);have iy:Below w5.heap.size w5 (w5.alloc (.cells #[.slice A m c] 34)):=(ak _ _).alloc (aj _) _;have P6:=eX.alloc (.cells #[.slice A m c] 34);have Sv:(w5.alloc (.cells #[.slice A m c] 34)).heap.size=w5.heap.size+1:=by simp
 obtain⟨zs,hzs⟩:∃zs,w5.heap.size=zs:=⟨_,rfl⟩;obtain⟨w6,nM⟩:∃w6,w5.alloc (.cells #[.slice A m c] 34)=w6:=⟨_,rfl⟩;rw[nM]at vL iy P6 Sv ⊢;rw[hzs]at vL Sv ⊢;have Hd:zs≠b:=by omega
 have ak3:z≠zs:=by omega
 obtain⟨A',qA,hsl,hcm, -,hcell⟩:=Y4;injection hsl with e1 e2 e3;subst e1 e2 e3
 obtain ⟨pb,po,hpb,LU,hcl⟩:∃pb po,pb<w6.heap.size∧(pb<b∨pb=zs)∧∀j y,n.kids[j]? = some y→A=some ⟨pb,po,none⟩∧w6.cell? ⟨pb,po+j,none⟩=some (.int .i64 y):=by
  rcases hcell with he|⟨pb,po,hA,hp,hc⟩
  · exact⟨zs,0,by omega,.inr rfl,fun j y hj=>by rw[he]at hj;cases hj⟩
  · exact⟨pb,po,by omega,.inl hp,fun j y hj=>⟨hA,(iy.cell (p:=⟨pb,po+j,none⟩) (by show pb<_;omega)).trans (hc j y hj)⟩⟩
 have xR:dW w6 b nv (st++[aD.plain ⟨#[41]⟩]) (txt++sb (n.text++(⟨#[40]⟩:ByteArray))):=sK.o.below iy;have OI:=ae ((bI.iP HB.o).trans (OJ.o.trans (bI.iP iy)));have ak2:z+2≤zs:=by omega
 clear hcell nM hzs aC eX
 refine wpIn_rangeFunc_ownH (F:=Fence.wide) (n:=6) rfl (by omega) (gf:=159) (lb:=#[.pointer (some ⟨zs,0,none⟩)]) rfl trivial (enters_of Tryz.func159 (by kernel_rfl) rfl)
  (Zl Fence.wide 5 trivial rfl (by omega) zs pb po c A n.kids (by omega) w6 vL.lt hpb vL.cell hcl)
  jB.trans (Oj vL.lt hpb) (ak _ _) (fun _=>rfl)
  (Oz w6 b nv (st++[aD.plain ⟨#[41]⟩]) (txt++sb (n.text++(⟨#[40]⟩:ByteArray))) z zs (.slice A n.kids.length c)) (fun _ _ _=>False)
  (ZC (aj _)) (fun _ _ _ _ _ hs _ _=>hs) ⟨by rw[show uM []=[]from rfl,gL];exact xR,P6,vL,bI.refl _ _⟩
  (fun y a' W=>a'={ tmps:=#[.pointer (some ⟨b,0,none⟩),.agg (aB n (.slice A n.kids.length c)),.pointer (some ⟨z,0,none⟩),.pointer (some ⟨z+1,0,none⟩),.int .i64 (y.1:Int),.int .i64 y.2,.pointer (some ⟨b,0,none⟩),.pointer (some ⟨b,0,none⟩),.pointer (some ⟨b,2,none⟩),.pointer (some ⟨z+1,2,none⟩),.string n.text,.string (n.text++⟨#[40]⟩),.tuple #[x,.nilIface],.pointer (some ⟨b,0,none⟩),.agg #[.string ⟨#[41]⟩,.int .i64 0,.int .i64 0],.slice (some ⟨w3.heap.size,0,none⟩) 1 1,.tuple #[],.pointer (some ⟨z+1,13,none⟩),.slice A n.kids.length c,.func (.func 159) #[] #[.pointer (some ⟨zs,0,none⟩)],.int .i64 (y.1:Int),.int .i64 y.2,undef,undef,undef,undef,undef,undef,undef,undef,undef,undef,undef],defers:=[] })
  (fun _ _ _ _ _ _ h _ _=>h) ?assign ?body ?done ?stop
 case assign =>
  rintro l pre ⟨j,k⟩ W K hI hK;dsimp only;gi_wp2
  exact hK _ _ (KeepsFrom.refl _ _) (jB.refl _ _ _) hI rfl
 case body =>
  rintro l pre ⟨j,k⟩ a' W - - ⟨hQ,hbz,hbs,hF⟩ rfl hlen;have hkl:=adh pre;have KP:=hbz.cell;have YV:=ae hbz;have SC:z<W.heap.size:=hbz.lt;have Yb:=ae (fun (wr:World)(hr:Below W.heap.size W wr)=>BD wr b nv (st++[aD.plain ⟨#[41]⟩]++uM pre) [aD.op k 1] (txt++sb (n.text++(⟨#[40]⟩:ByteArray))) #[.string ⟨#[]⟩,.int .i64 k,.int .i64 1] 1 rfl rfl (hQ.below hr) (by show 1≤1000000;decide) (by rw[ax,ax];show st.length+1+_≤_;omega));have cK:(fun w'=>w'.cell? ⟨z,0,none⟩=some (.pointer (some ⟨b,0,none⟩))) W.drew:=KP;dsimp only;gi_wp2
  refine Nl (by kernel_rfl) (by kernel_rfl) (wpAny_of_held (S:=(fun w'=>w'.cell? ⟨z,0,none⟩=some (.pointer (some ⟨b,0,none⟩)))) _ _ _ _ ?_);show wpAnyH _ _ _ _ _ 5 #[false,false,false,false,false] _ _;refine hT 0 cK ?_ (hQ:=(fun _ _ _ h=>(by cases h.1))) (hy:=by(intro ig hSw;have e1:ig.cell? ⟨z,0,none⟩=some (.pointer (some ⟨b,0,none⟩)):=hSw;go_simp;try(with_reducible rfl)));refine hT 1 cK ?_ (hQ:=(fun _ _ _ h=>(by cases h.1)));refine hO 2 (fun K hK => ?_);go_simp;refine(EY _ _ _).mono ?_;rintro e Oq ⟨rfl,h3⟩;have FM:=ae ((ak W.heap.size W).drew.trans (h3.mono (aj _)));have Ph:(fun w'=>w'.cell? ⟨z,0,none⟩=some (.pointer (some ⟨b,0,none⟩))) Oq:=(FM.o.cell (p:=⟨z,0,none⟩) SC).trans KP;clear h3;go_wp2_with fail
  refine hK.o _ _ Ph ?_;clear hK K;simp only[Act.put,sT,fV,fU];refine hO 3 (fun K hK => ?_);go_simp;refine hK.o _ _ ((((ak Oq.heap.size Oq).alloc (aj _) _).cell (p:=⟨z,0,none⟩) (eB SC FM.o.size)).trans Ph) ?_;clear hK K;simp only[Act.put,sT,fV,fU];refine hO 4 (fun K hK => ?_);go_simp;refine(Yb.o _ FM.o).mono ?_;rintro e Aa ⟨rfl,h3,h4⟩;have Pe:=ae h3;have Cc:=ae ((bI.iP FM.o).trans h4);have Ga:=ae (bI.boxed Cc.o YV.o hzb (by decide) (by decide));have Ke:(fun w'=>w'.cell? ⟨z,0,none⟩=some (.pointer (some ⟨b,0,none⟩))) Aa:=(gK (a:=⟨z,0,none⟩) Ga.o).trans KP;clear h3 h4;go_wp2_with fail
  refine hK.o _ _ Ke ?_;clear hK K;simp only[Act.put,sT,fV,fU];refine wpAnyH_done (by kernel_rfl) ?_ _;refine⟨rfl, ?_⟩;have akK:w6.heap.size≤W.heap.size:=hF.size
  have PQ:∀ {W1 W2:World},bI W1 W2 b→Boxed W1 zs 34 (.slice A n.kids.length c)→pb<W1.heap.size→jB zs pb W1 W2:=fun h1 h2 h3=>⟨h1.boxed h2 Hd (by decide) (by decide),by
   rcases LU with h|rfl
   · exact h1.block pb h3 (by omega) (.inl h)
   · exact h1.boxed h2 Hd (by decide) (by decide)⟩
  cases j with
  | zero =>
    gi_wp2
    refine⟨Cc.o.keeps (by omega),PQ Cc.o hbs (by omega), ?_,Ga.o.trans hbz,(Cc.o.boxed hbs Hd (by decide) (by decide)).trans hbs,hF.trans Cc.o⟩;rw[Ho, ← bQ];exact Pe.o
  | succ j =>
    have hj0:(0:Int)<((j+1:Nat):Int):=by omega
    have Qn:=Ke;have PD:=ae (show Boxed Aa z 81 (.pointer (some ⟨b,0,none⟩))from Ga.o.trans hbz);have SE:z<Aa.heap.size:=PD.o.lt;have Yc:=ae (fun (wr:World)(hr:Below Aa.heap.size Aa wr)=>BD wr b nv (st++[aD.plain ⟨#[41]⟩]++uM pre++[aD.op k 1].reverse) [aD.plain ⟨#[44]⟩] (txt++sb (n.text++(⟨#[40]⟩:ByteArray))) #[.string ⟨#[44]⟩,.int .i64 0,.int .i64 0] 1 rfl rfl (Pe.o.below hr) (by show 1≤1000000;decide) (by rw[ax,ax,ax];show st.length+1+_+1≤_;omega));have cK:(fun w'=>w'.cell? ⟨z,0,none⟩=some (.pointer (some ⟨b,0,none⟩))) Aa.drew:=Ke;gi_wp2
    refine Nl (by kernel_rfl) (by kernel_rfl) (wpAny_of_held (S:=(fun w'=>w'.cell? ⟨z,0,none⟩=some (.pointer (some ⟨b,0,none⟩)))) _ _ _ _ ?_);show wpAnyH _ _ _ _ _ 4 #[false,false,false,false] _ _;refine hT 0 cK ?_ (hQ:=(fun _ _ _ h=>(by cases h.1))) (hy:=by(intro ig hSw;have e1:ig.cell? ⟨z,0,none⟩=some (.pointer (some ⟨b,0,none⟩)):=hSw;go_simp;try(with_reducible rfl)));refine hO 1 (fun K hK => ?_);go_simp;refine(Iu _ _).mono ?_;rintro e Ot ⟨rfl,h3⟩;have FN:=ae ((ak Aa.heap.size Aa).drew.trans (h3.mono (aj _)));have Pj:(fun w'=>w'.cell? ⟨z,0,none⟩=some (.pointer (some ⟨b,0,none⟩))) Ot:=(FN.o.cell (p:=⟨z,0,none⟩) SE).trans Qn;clear h3;go_wp2_with fail
    refine hK.o _ _ Pj ?_;clear hK K;simp only[Act.put,sT,fV,fU];refine hO 2 (fun K hK => ?_);go_simp;refine hK.o _ _ ((((ak Ot.heap.size Ot).alloc (aj _) _).cell (p:=⟨z,0,none⟩) (eB SE FN.o.size)).trans Pj) ?_;clear hK K;simp only[Act.put,sT,fV,fU];refine hO 3 (fun K hK => ?_);go_simp;refine(Yc.o _ FN.o).mono ?_;rintro e wBb ⟨rfl,h3,h4⟩;have Yg:=ae h3;have OL:=ae ((bI.iP FN.o).trans h4);have Pw:=ae (bI.boxed OL.o PD.o hzb (by decide) (by decide));have Yq:(fun w'=>w'.cell? ⟨z,0,none⟩=some (.pointer (some ⟨b,0,none⟩))) wBb:=(gK (a:=⟨z,0,none⟩) Pw.o).trans Qn;clear h3 h4;go_wp2_with fail
    refine hK.o _ _ Yq ?_;clear hK K;simp only[Act.put,sT,fV,fU];refine wpAnyH_done (by kernel_rfl) ?_ _;refine⟨rfl, ?_⟩;gi_wp2
    have FQ:=ae (Cc.o.trans OL.o);refine⟨FQ.o.keeps (by omega),PQ FQ.o hbs (by omega), ?_,Pw.o.trans (Ga.o.trans hbz),(FQ.o.boxed hbs Hd (by decide) (by decide)).trans hbs,hF.trans FQ.o⟩;rw[Ho];have h:=Yg.o;rw[bQ (st++[aD.plain ⟨#[41]⟩]++uM pre),bQ (st++[aD.plain ⟨#[41]⟩])]at h;exact h
 case done =>
  rintro D ys W hD rfl ⟨hQ,hbz,hbs,hF⟩ hK;gi_wp2
  have hg:=grownBy_putObj' W D (.deferred none);have hr:∀r,some D=some r→∃o:Obj,W.heap[r]? = some o∧o.isCells=false:=fun r e=>by cases e;exact⟨_,hK,rfl⟩
  refine⟨by simp,.inl ⟨_,_,rfl,run_takeDeferred hK, ?_⟩⟩;refine⟨_,results_none rfl _ _ _,rfl, ?_,(OI.o.trans hF).stay hg (fun r e=>by cases e;have:=OI.o.size;omega)⟩;rw[HS.o];rw[adf,HT.o]at hQ;rw[show(oW n.kids++[aD.plain ⟨#[41]⟩]).reverse=[aD.plain ⟨#[41]⟩]++(oW n.kids).reverse from by rw[List.reverse_append];rfl, ← bQ];exact hQ.stay hg hr
 case stop =>
  rintro D c pre W _ _ h _;exact h.elim
end Go.Proofs.YtbplbjmmfgjdjaaGreatDoor
namespace Go.Proofs.YtbplbjmmfgjdjaaGreatDoor
open Go.RowKit
variable {ac ar:Bool}{s sh:ByteArray}{c r:Int}{b:Nat}{n:Nd}{w w0:World}
def nS(w0 w:World)(b:Nat):Prop:=w0.heap.size≤b∧Below w0.heap.size w0 w∧lU w0∧q9 w0∧rf w0
theorem nS.pW {w':World}(h:nS w0 w b)(hf:bI w w' b):nS w0 w' b:=by
 obtain⟨h1,h2,h3⟩:=h;exact⟨h1,⟨hf.os.trans h2.os,hf.tape.trans h2.tape,hf.output.trans h2.output,bN h2.size hf.size,fun k hk=>(hf.block k (eB hk h2.size) (by omega) (.inl (by omega))).trans (h2.block k hk)⟩,h3⟩
theorem nS.tab(h:nS w0 w b):lU w:=h.2.2.1.below h.2.1
theorem nS.aer(h:nS w0 w b):q9 w:=h.2.2.2.1.below h.2.1
theorem nS.shV(h:nS w0 w b):rf w:=h.2.2.2.2.below h.2.1
theorem nS.max_lt (h:nS w0 w b):4<b:=by
 obtain⟨h1, -, -,⟨m,hm⟩, -⟩:=h;exact eB (World.block_lt_of_cell? w0 _ hm) h1
theorem nS.aib(h:nS w0 w b):0<b:=eB h.2.2.2.2.lt h.1
theorem adF (h:dD n=true)(hk:n.kind=1):0≤n.num:=by
 have h:=(rz h).2.2.2.2.2;unfold aO at h;split at h
 · cases h
 · exact aQ.1 h
theorem Ut (w0 w:World)(b:Nat)(nv:Value)(st:List aD)(txt:List Int)(n:Nd)(A:Option Addr)(m c:Nat)(hg:nS w0 w b)(h:dW w b nv st txt)(hn:dD n=true)(bP:n.num≤9223372036854775807)(hz:n.text.size≤1000000)(hz1:n.ref.sh.size≤1000000)(hz2:n.ai.sh.size≤1000000)(hsi:ic w b (.slice A m c) n.kids)(hl:txt.length≤1000000000)(hls:st.length+2*n.kids.length+1≤2000000000) :
 Calls Tryz.prog (ni n.kind) #[.pointer (some ⟨b,0,none⟩),.agg (aB n (.slice A m c))] w (mX w b nv st txt n):=by
 (try unfold aB)
 obtain⟨a1,a2, -,b1,b2, -⟩:=rz hn;have hst:st.length≤2000000000:=by omega
 by_cases hk:n.kind=1
 · rw[show ni n.kind=100 from by rw[hk];rfl]
   exact afu w b nv st txt n A m c h hk n.num.toNat (by have:=adF hn hk;omega) (by omega) hg.tab hl
 have h1:=hk;clear hk;by_cases hk:n.kind=2
 · rw[show ni n.kind=101 from by rw[hk];rfl]
   exact agp w b nv st txt n A m c h hk hz hg.aer hg.max_lt hl
 have h2:=hk;clear hk;by_cases hk:n.kind=3
 · rw[show ni n.kind=102 from by rw[hk];rfl]
   by_cases hv:n.num=1
   · exact ajA w b nv st txt n A m c h hk hv hl
   · exact ajz w b nv st txt n A m c h hk hv hl
 have h3:=hk;clear hk;by_cases hk:n.kind=4
 · rw[show ni n.kind=103 from by rw[hk];rfl]
   exact aaq w b nv st txt n A m c h hk hl
 have h4:=hk;clear hk;by_cases hk:n.kind=5
 · rw[show ni n.kind=104 from by rw[hk];rfl]
   exact af5 w b nv st txt n A m c h hk hz1 hg.tab hl
 have h5:=hk;clear hk;by_cases hk:n.kind=6
 · rw[show ni n.kind=105 from by rw[hk];rfl]
   exact af6 w b nv st txt n A m c h hk hz1 hz2 hg.tab hl
 have h6:=hk;clear hk;by_cases hk:n.kind=7
 · rw[show ni n.kind=106 from by rw[hk];rfl]
   exact ZK w b nv st txt n A m c h hk hz hsi hl hls
 have h7:=hk;clear hk;by_cases hk:n.kind=8
 · rw[show ni n.kind=107 from by rw[hk];rfl]
   have hl1:=a1 hk;exact ae5 w b nv st txt n A m c h hk _ (cZ (by omega:0<n.kids.length)) hsi hl hst
 have h8:=hk;clear hk;have hl2:=a2 (by omega);rw[show ni n.kind=108 from by unfold ni;rw[af h1,af h2,af h3,af h4,af h5,af h6,af h7,af h8]];exact Zx w b nv st txt n A m c h n.kind.toNat (by omega) (by omega) (by omega) _ _ (cZ (by omega:0<n.kids.length)) (cZ (by omega:1<n.kids.length)) hsi hg.shV hg.aib hst
theorem ae4 (s:ByteArray)(h:¬ s=⟨#[]⟩):s.toList.isEmpty=false:=by
 cases hq:s.toList with
 | nil=>exact absurd hq (qg s (fun e=>h (wD s e)))
 | cons a l=>rfl
theorem aj9 (w:World)(b:Nat)(nv:Value)(st:List aD)(txt:List Int)(p:aD)(h:dW w b nv st txt)(hp:¬ p.t=⟨#[]⟩)(hz:txt.length+p.t.size≤1000000000) :
 Calls Tryz.prog 48 #[.pointer (some ⟨b,0,none⟩),.agg #[.string p.t,.int .i64 p.node,.int .i64 p.least]] w fun e w'=>e = .returned (.tuple #[])∧dW w' b nv st (txt++sb p.t)∧bI w w' b:=by
 have hB:Below w.heap.size w (w.alloc (.cells #[.string p.t,.int .i64 p.node,.int .i64 p.least] 90)):=(ak _ _).alloc (aj _) _;have HP:jd (w.alloc (.cells #[.string p.t,.int .i64 p.node,.int .i64 p.least] 90)) w.heap.size p:=jd.new w p;have hbw:b<w.heap.size:=by obtain⟨wv,h1, -⟩:=h;exact h1.lt
 have hne:=ae4 p.t hp;have HB:=ae hB;have HQ:=ae (h.below hB);clear h hp hB;go_enter Tryz.func48,Tryz.ntmps48;go_upto_region 1 with (fail)
 obtain⟨z,hzz⟩:∃z,w.heap.size=z:=⟨_,rfl⟩;obtain⟨w1,hw1⟩:∃w1,w.alloc (.cells #[.string p.t,.int .i64 p.node,.int .i64 p.least] 90)=w1:=⟨_,rfl⟩;rw[hw1]at HP HB HQ ⊢;rw[hzz]at HP ⊢;have hzl:z<w1.heap.size:=(dB.1 HP).1;have hzb:z≠b:=by omega
 obtain⟨x0,x1,x2⟩:=HP.cells;have bK:=ae HP;clear hzz hw1 HP;go_upto_region 2 with (fail)
 obtain⟨wv,hws,gQ⟩:=HQ.o;have HW:=ae (tL w1.drew b nv wv txt p.t (hws.below ((ak w1.heap.size w1).drew)) (by omega));have HO:=ae gQ;have H1:=ae ((ak w1.heap.size w1).drew);clear hws gQ
 go_region_held3 (fun w'=>w'.cell? ⟨z,0,none⟩=some (.string p.t)) (first|go_keep|exact S0) (first
  | (go_at_call 71;((with_reducible refine HW.o.mono ?_);rintro e w2 ⟨⟨x,rfl⟩,h3,h4⟩;have Ku:=ae h3;have bT:=ae h4;have S0:=(gK (a:=⟨z,0,none⟩) (bT.o.block z hzl hzb (.inr fun cur fr e=>by
      have h6:w1.heap[z]? = some (.cells (nk p) 90):=bK.o;have h7:w1.drew.heap[z]? = w1.heap[z]? := rfl;rw[h7,h6]at e;injection e with e;injection e with _ e2;exact absurd e2 (by decide)))).trans x0)))
 all_goals go_wp2_with fail
 all_goals refine bodyPost_ret (results_none rfl _ _ _) rfl ?_
 all_goals exact⟨rfl,dW.wrote (HO.o.below H1.o (aj _)) Ku.o bT.o,(bI.iP HB.o).trans ((bI.iP H1.o).trans (bI.uO bT.o))⟩
theorem Ud (k:Int):∀args (v:World),(callFunc (ni k) args).run Tryz.prog v = .ok (.enter (ni k) args) v:=by
 unfold ni;split
 · exact Go.Proofs.enters_of Tryz.func100 (by kernel_rfl) rfl
 split
 · exact Go.Proofs.enters_of Tryz.func101 (by kernel_rfl) rfl
 split
 · exact Go.Proofs.enters_of Tryz.func102 (by kernel_rfl) rfl
 split
 · exact Go.Proofs.enters_of Tryz.func103 (by kernel_rfl) rfl
 split
 · exact Go.Proofs.enters_of Tryz.func104 (by kernel_rfl) rfl
 split
 · exact Go.Proofs.enters_of Tryz.func105 (by kernel_rfl) rfl
 split
 · exact Go.Proofs.enters_of Tryz.func106 (by kernel_rfl) rfl
 split
 · exact Go.Proofs.enters_of Tryz.func107 (by kernel_rfl) rfl
 exact Go.Proofs.enters_of Tryz.func108 (by kernel_rfl) rfl
theorem aj7 (w0 w:World)(b:Nat)(nv:Value)(vs:List (Nd × Value))(st:List aD)(txt:List Int)(i:Nat)(least:Int)(n:Nd)(k:Value)(hg:nS w0 w b)(h:dW w b nv st txt)(hsn:dN w b nv vs)(hz:SZ vs)(hnk:vs[i]? = some (n,k))(hnb:dD n=true)(bP:n.num≤9223372036854775807)(hr:¬ (bM n.kind:Int)+1<least)(hl:txt.length+1≤1000000000)(hls:st.length+2*n.kids.length+2≤2000000000) :
 Calls Tryz.prog 48 #[.pointer (some ⟨b,0,none⟩),.agg #[.string ⟨#[]⟩,.int .i64 (i:Int),.int .i64 least]] w fun e w'=>e = .returned (.tuple #[])∧dW w' b nv (st++(eP n).2.reverse) (txt++(eP n).1)∧bI w w' b:=by
 obtain⟨⟨A,cap,rfl,hat⟩,rD⟩:=hsn;obtain⟨hlen,hsz⟩:=hz;have hil:i<vs.length:=(eQ.1 hnk).1;have bW:=fe hnk;obtain⟨hz1,hz2,hz3⟩:=hsz _ bW;have rF:ic w b k n.kids:=rD _ bW;obtain⟨bD,ck,hk,hkc,dL,_⟩:=id rF;obtain⟨nl,hnl⟩:∃nl,vs.length=nl:=⟨_,rfl⟩;obtain⟨m,hm⟩:∃m,n.kids.length=m:=⟨_,rfl⟩;rw[hm]at hk;subst hk;rw[hnl]at hlen hil h ⊢;have hi0:(0:Int)≤(i:Int):=by omega
 have hi1:(i:Int)<(nl:Int):=by omega
 obtain⟨pb,po,rfl,LU,vT⟩:=hat.resolve_left (fun e=>by rw[e]at hnk;cases hnk);have hcell:=vT i n _ hnk;have hbw:b<w.heap.size:=by obtain⟨wv,h1, -⟩:=h;exact h1.lt
 have hB:Below w.heap.size w (w.alloc (.cells #[.string ⟨#[]⟩,.int .i64 (i:Int),.int .i64 least] 90)):=(ak _ _).alloc (aj _) _;have HP:jd (w.alloc (.cells #[.string ⟨#[]⟩,.int .i64 (i:Int),.int .i64 least] 90)) w.heap.size ⟨⟨#[]⟩,(i:Int),least⟩:=jd.new w ⟨⟨#[]⟩,(i:Int),least⟩;have HB:=ae hB;have HQ:=ae (h.below hB);have HG:=ae (hg.pW (bI.iP hB));have wP:=ae (rF.below hB (Nat.le_of_lt hbw));have hpb:pb<w.heap.size:=by omega
 obtain⟨rk,uH⟩:∃rk:Nat,bM n.kind=rk:=⟨_,rfl⟩;have vZ:=Ng n.kind;rw[uH]at vZ hr;have Ch:=ae vZ;have vV:=Ue n.kind;have hen:=Ud n.kind;obtain⟨ET,sW⟩:∃ET,ni n.kind=ET:=⟨_,rfl⟩;rw[sW]at vV hen;have y7:=ae vV;have sG:=ae hnb;have HZ1:=ae hz1;have HZ2:=ae hz2;have HZ3:=ae hz3;have JS:=ae sW;have HM:=ae hm;clear h hg hB rF hkc dL hat rD hsz vT bW hnl hnk hlen vZ vV uH sW hnb hz1 hz2 hz3 hm;go_enter Tryz.func48,Tryz.ntmps48;go_upto_region 1 with (fail)
 obtain⟨z,hzz⟩:∃z,w.heap.size=z:=⟨_,rfl⟩;obtain⟨w1,hw1⟩:∃w1,w.alloc (.cells #[.string ⟨#[]⟩,.int .i64 (i:Int),.int .i64 least] 90)=w1:=⟨_,rfl⟩;rw[hw1]at HP HB HQ HG wP ⊢;rw[hzz]at HP ⊢;obtain⟨k0,k1,k2,k3,k4,k5,k6,k7,k8,k9,k10,k11,k12,k13⟩:=qB HB.o hpb hcell;have hzl:z<w1.heap.size:=(dB.1 HP).1;have hzb:z≠b:=by omega
 have AZ:b<w1.heap.size:=by omega
 have Be:pb<w1.heap.size:=by omega
 obtain⟨x0,x1,x2⟩:=HP.cells;have xb:w1.cell? ⟨b,0,none⟩=some (.slice (some ⟨pb,po,none⟩) nl cap):=by obtain⟨wv,⟨ad,bv,h1, -⟩, -⟩:=HQ.o;exact h1.facts.1
 have bK:=ae HP;dsimp only at x0 x1 x2;clear hzz hw1 HP hcell;go_upto_region 2 with (fail)
 go_upto_region 3 with (fail)
 go_region_held3 (fun w'=>w'.cell? ⟨b,0,none⟩=some (.slice (some ⟨pb,po,none⟩) nl cap)∧w'.cell? ⟨z,1,none⟩=some (.int .i64 (i:Int))∧w'.cell? ⟨pb,po+i*14,none⟩=some (.int .i64 n.kind)∧w'.cell? ⟨pb,po+i*14+1,none⟩=some (.int .i64 n.num)∧w'.cell? ⟨pb,po+i*14+2,none⟩=some (.string n.text)∧w'.cell? ⟨pb,po+i*14+3,none⟩=some (.string n.ref.sh)∧w'.cell? ⟨pb,po+i*14+4,none⟩=some (.int .i64 n.ref.c)∧w'.cell? ⟨pb,po+i*14+5,none⟩=some (.int .i64 n.ref.r)∧w'.cell? ⟨pb,po+i*14+6,none⟩=some (.bool n.ref.ac)∧w'.cell? ⟨pb,po+i*14+7,none⟩=some (.bool n.ref.ar)∧w'.cell? ⟨pb,po+i*14+8,none⟩=some (.string n.ai.sh)∧w'.cell? ⟨pb,po+i*14+9,none⟩=some (.int .i64 n.ai.c)∧w'.cell? ⟨pb,po+i*14+10,none⟩=some (.int .i64 n.ai.r)∧w'.cell? ⟨pb,po+i*14+11,none⟩=some (.bool n.ai.ac)∧w'.cell? ⟨pb,po+i*14+12,none⟩=some (.bool n.ai.ar)∧w'.cell? ⟨pb,po+i*14+13,none⟩=some (.slice bD m ck)) (go_keep) (fail)
 have HN:=az.drew (az.new w1 n (.slice bD m ck));have HB2:=(((ak w1.heap.size w1).alloc (aj _) (.cells (aB n (.slice bD m ck)) 44))).drew;obtain⟨z2,hz2⟩:∃z2,w1.heap.size=z2:=⟨_,rfl⟩;obtain⟨w2,hw2⟩:∃w2,((w1.alloc (.cells (aB n (.slice bD m ck)) 44)).drew)=w2:=⟨_,rfl⟩;rw[show(w1.alloc (.cells (bA n (.slice bD m ck)) 44)).drew=w2 from hw2]at HN;rw[hw2]at HB2;rw[hw2,hz2];rw[hz2]at HN;have Bl:z2<w2.heap.size:=HN.lt;have G9:z2≠b:=by omega
 have Eu:b<w2.heap.size:=by omega
 have y2:=(HB2.cell (p:=⟨z,2,none⟩) hzl).trans x2;obtain⟨y0, -⟩:=HN.cells;have mF:=ae (HQ.o.below HB2);have HG2:=ae (HG.o.pW (bI.iP HB2));have Kg:=ae (wP.o.below HB2 (Nat.le_of_lt AZ));have Jv:=ae HB2;have bV:=ae HN;clear hw2 hz2 HN HB2 x0 x1 x2 xb k0 k1 k2 k3 k4 k5 k6 k7 k8 k9 k10 k11 k12 k13;go_upto_region 4 with (fail)
 go_region_held3 (fun w'=>w'.cell? ⟨z2,0,none⟩=some (.int .i64 n.kind)∧w'.cell? ⟨z,2,none⟩=some (.int .i64 least)) (go_keep) (first
  | (go_at_call 72;((with_reducible refine(Ch.o _).mono ?_);rintro e w3 ⟨rfl,rfl⟩)))
 have HD2:=ae ((ak w2.heap.size w2).drew);have fK:=ae (HG2.o.pW (bI.iP HD2.o));have vo:=ae (mF.o.below HD2.o);have Kh:=ae (Kg.o.below HD2.o (Nat.le_of_lt Eu));have aM:=ae (az.drew bV.o);have Lu:=Eu;have Mf:z2<w2.drew.heap.size:=Bl;go_upto_region 7 with (fail)
 have yR:=ae (fun (wr:World)(hr:Below w2.drew.heap.size w2.drew wr)=>Ut w0 wr b (.slice (some ⟨pb,po,none⟩) nl cap) (st) (txt) n bD m ck ((fK.o).pW (bI.iP hr)) (vo.o.below hr) sG.o bP HZ1.o HZ2.o HZ3.o (Kh.o.below hr (Nat.le_of_lt Lu)) (by omega) (by have:=HM.o;omega));rw[JS.o]at yR;have H3:=ae ((ak w2.drew.heap.size w2.drew).drew);obtain⟨k0,k1,k2,k3,k4,k5,k6,k7,k8,k9,k10,k11,k12,k13⟩:=aM.o.cells
 go_region_held3 (fun w'=>w'.cell? ⟨z2,0,none⟩=some (.int .i64 n.kind)∧w'.cell? ⟨z2,1,none⟩=some (.int .i64 n.num)∧w'.cell? ⟨z2,2,none⟩=some (.string n.text)∧w'.cell? ⟨z2,3,none⟩=some (.string n.ref.sh)∧w'.cell? ⟨z2,4,none⟩=some (.int .i64 n.ref.c)∧w'.cell? ⟨z2,5,none⟩=some (.int .i64 n.ref.r)∧w'.cell? ⟨z2,6,none⟩=some (.bool n.ref.ac)∧w'.cell? ⟨z2,7,none⟩=some (.bool n.ref.ar)∧w'.cell? ⟨z2,8,none⟩=some (.string n.ai.sh)∧w'.cell? ⟨z2,9,none⟩=some (.int .i64 n.ai.c)∧w'.cell? ⟨z2,10,none⟩=some (.int .i64 n.ai.r)∧w'.cell? ⟨z2,11,none⟩=some (.bool n.ai.ac)∧w'.cell? ⟨z2,12,none⟩=some (.bool n.ai.ar)∧w'.cell? ⟨z2,13,none⟩=some (.slice bD m ck)) (first|go_keep|exact KJ) (first
  | (go_at_call 74;((with_reducible refine(y7.o _).mono ?_);rintro e w4 ⟨rfl,rfl⟩))
  | ((with_reducible refine(yR.o _ H3.o).mono ?_);rintro e w5 ⟨rfl,h3,h4⟩;have sK:=ae h3;have bq:=ae h4;have KJ:=az.cells (show az w5 z2 n (.slice bD m ck)from by
       unfold az;have e1:w2.drew.drew.heap[z2]? = some (.cells (bA n (.slice bD m ck)) 44):=aM.o;rw[bq.o.block z2 Mf G9 (.inr fun cur fr=>⟨fun e=>by(rw[e1]at e;injection e with e;injection e with _ e2;exact absurd e2 (by decide)),fun e=>by(rw[e1]at e;injection e with e;injection e with _ e2;exact absurd e2 (by decide))⟩)];exact e1);clear h3 h4))
 all_goals go_wp2_with fail
 all_goals go_end0
 all_goals exact⟨rfl,sK.o,(bI.iP HB.o).trans ((bI.iP Jv.o).trans ((bI.iP (ak _ _).drew).trans ((bI.iP H3.o).trans bq.o)))⟩
theorem aj8 (w0 w:World)(b:Nat)(nv:Value)(vs:List (Nd × Value))(st:List aD)(txt:List Int)(i:Nat)(least:Int)(n:Nd)(k:Value)(hg:nS w0 w b)(h:dW w b nv st txt)(hsn:dN w b nv vs)(hz:SZ vs)(hnk:vs[i]? = some (n,k))(hnb:dD n=true)(bP:n.num≤9223372036854775807)(hr:(bM n.kind:Int)+1<least)(hl:txt.length+1≤1000000000)(hls:st.length+2*n.kids.length+2≤2000000000) :
 Calls Tryz.prog 48 #[.pointer (some ⟨b,0,none⟩),.agg #[.string ⟨#[]⟩,.int .i64 (i:Int),.int .i64 least]] w fun e w'=>e = .returned (.tuple #[])∧dW w' b nv (st++[aD.plain ⟨#[41]⟩]++(eP n).2.reverse) (txt++([40]++(eP n).1))∧bI w w' b:=by
 obtain⟨⟨A,cap,rfl,hat⟩,rD⟩:=hsn;obtain⟨hlen,hsz⟩:=hz;have hil:i<vs.length:=(eQ.1 hnk).1;have bW:=fe hnk;obtain⟨hz1,hz2,hz3⟩:=hsz _ bW;have rF:ic w b k n.kids:=rD _ bW;obtain⟨bD,ck,hk,hkc,dL,_⟩:=id rF;obtain⟨nl,hnl⟩:∃nl,vs.length=nl:=⟨_,rfl⟩;obtain⟨m,hm⟩:∃m,n.kids.length=m:=⟨_,rfl⟩;rw[hm]at hk;subst hk;rw[hnl]at hlen hil h ⊢;have hi0:(0:Int)≤(i:Int):=by omega
 have hi1:(i:Int)<(nl:Int):=by omega
 obtain⟨pb,po,rfl,LU,vT⟩:=hat.resolve_left (fun e=>by rw[e]at hnk;cases hnk);have hcell:=vT i n _ hnk;have hbw:b<w.heap.size:=by obtain⟨wv,h1, -⟩:=h;exact h1.lt
 have hB:Below w.heap.size w (w.alloc (.cells #[.string ⟨#[]⟩,.int .i64 (i:Int),.int .i64 least] 90)):=(ak _ _).alloc (aj _) _;have HP:jd (w.alloc (.cells #[.string ⟨#[]⟩,.int .i64 (i:Int),.int .i64 least] 90)) w.heap.size ⟨⟨#[]⟩,(i:Int),least⟩:=jd.new w ⟨⟨#[]⟩,(i:Int),least⟩;have HB:=ae hB;have HQ:=ae (h.below hB);have HG:=ae (hg.pW (bI.iP hB));have wP:=ae (rF.below hB (Nat.le_of_lt hbw));have hpb:pb<w.heap.size:=by omega
 obtain⟨rk,uH⟩:∃rk:Nat,bM n.kind=rk:=⟨_,rfl⟩;have vZ:=Ng n.kind;rw[uH]at vZ hr;have Ch:=ae vZ;have vV:=Ue n.kind;have hen:=Ud n.kind;obtain⟨ET,sW⟩:∃ET,ni n.kind=ET:=⟨_,rfl⟩;rw[sW]at vV hen;have y7:=ae vV;have sG:=ae hnb;have HZ1:=ae hz1;have HZ2:=ae hz2;have HZ3:=ae hz3;have JS:=ae sW;have HM:=ae hm;clear h hg hB rF hkc dL hat rD hsz vT bW hnl hnk hlen vZ vV uH sW hnb hz1 hz2 hz3 hm;go_enter Tryz.func48,Tryz.ntmps48;go_upto_region 1 with (fail)
 obtain⟨z,hzz⟩:∃z,w.heap.size=z:=⟨_,rfl⟩;obtain⟨w1,hw1⟩:∃w1,w.alloc (.cells #[.string ⟨#[]⟩,.int .i64 (i:Int),.int .i64 least] 90)=w1:=⟨_,rfl⟩;rw[hw1]at HP HB HQ HG wP ⊢;rw[hzz]at HP ⊢;obtain⟨k0,k1,k2,k3,k4,k5,k6,k7,k8,k9,k10,k11,k12,k13⟩:=qB HB.o hpb hcell;have hzl:z<w1.heap.size:=(dB.1 HP).1;have hzb:z≠b:=by omega
 have AZ:b<w1.heap.size:=by omega
 have Be:pb<w1.heap.size:=by omega
 obtain⟨x0,x1,x2⟩:=HP.cells;have xb:w1.cell? ⟨b,0,none⟩=some (.slice (some ⟨pb,po,none⟩) nl cap):=by obtain⟨wv,⟨ad,bv,h1, -⟩, -⟩:=HQ.o;exact h1.facts.1
 have bK:=ae HP;dsimp only at x0 x1 x2;clear hzz hw1 HP hcell;go_upto_region 2 with (fail)
 go_upto_region 3 with (fail)
 go_region_held3 (fun w'=>w'.cell? ⟨b,0,none⟩=some (.slice (some ⟨pb,po,none⟩) nl cap)∧w'.cell? ⟨z,1,none⟩=some (.int .i64 (i:Int))∧w'.cell? ⟨pb,po+i*14,none⟩=some (.int .i64 n.kind)∧w'.cell? ⟨pb,po+i*14+1,none⟩=some (.int .i64 n.num)∧w'.cell? ⟨pb,po+i*14+2,none⟩=some (.string n.text)∧w'.cell? ⟨pb,po+i*14+3,none⟩=some (.string n.ref.sh)∧w'.cell? ⟨pb,po+i*14+4,none⟩=some (.int .i64 n.ref.c)∧w'.cell? ⟨pb,po+i*14+5,none⟩=some (.int .i64 n.ref.r)∧w'.cell? ⟨pb,po+i*14+6,none⟩=some (.bool n.ref.ac)∧w'.cell? ⟨pb,po+i*14+7,none⟩=some (.bool n.ref.ar)∧w'.cell? ⟨pb,po+i*14+8,none⟩=some (.string n.ai.sh)∧w'.cell? ⟨pb,po+i*14+9,none⟩=some (.int .i64 n.ai.c)∧w'.cell? ⟨pb,po+i*14+10,none⟩=some (.int .i64 n.ai.r)∧w'.cell? ⟨pb,po+i*14+11,none⟩=some (.bool n.ai.ac)∧w'.cell? ⟨pb,po+i*14+12,none⟩=some (.bool n.ai.ar)∧w'.cell? ⟨pb,po+i*14+13,none⟩=some (.slice bD m ck)) (go_keep) (fail)
 have HN:=az.drew (az.new w1 n (.slice bD m ck));have HB2:=(((ak w1.heap.size w1).alloc (aj _) (.cells (aB n (.slice bD m ck)) 44))).drew;obtain⟨z2,hz2⟩:∃z2,w1.heap.size=z2:=⟨_,rfl⟩;obtain⟨w2,hw2⟩:∃w2,((w1.alloc (.cells (aB n (.slice bD m ck)) 44)).drew)=w2:=⟨_,rfl⟩;rw[show(w1.alloc (.cells (bA n (.slice bD m ck)) 44)).drew=w2 from hw2]at HN;rw[hw2]at HB2;rw[hw2,hz2];rw[hz2]at HN;have Bl:z2<w2.heap.size:=HN.lt;have G9:z2≠b:=by omega
 have Eu:b<w2.heap.size:=by omega
 have y2:=(HB2.cell (p:=⟨z,2,none⟩) hzl).trans x2;obtain⟨y0, -⟩:=HN.cells;have mF:=ae (HQ.o.below HB2);have HG2:=ae (HG.o.pW (bI.iP HB2));have Kg:=ae (wP.o.below HB2 (Nat.le_of_lt AZ));have Jv:=ae HB2;have bV:=ae HN;clear hw2 hz2 HN HB2 x0 x1 x2 xb k0 k1 k2 k3 k4 k5 k6 k7 k8 k9 k10 k11 k12 k13;go_upto_region 4 with (fail)
 go_region_held3 (fun w'=>w'.cell? ⟨z2,0,none⟩=some (.int .i64 n.kind)∧w'.cell? ⟨z,2,none⟩=some (.int .i64 least)) (go_keep) (first
  | (go_at_call 72;((with_reducible refine(Ch.o _).mono ?_);rintro e w3 ⟨rfl,rfl⟩)))
 have HD2:=ae ((ak w2.heap.size w2).drew);obtain⟨wv,hws,gQ⟩:=mF.o;have HW:=ae (tL w2.drew b _ wv txt ⟨#[40]⟩ (hws.below HD2.o) (by show txt.length+1≤_;omega));have HO:=ae (gQ.below HD2.o (aj _));clear hws gQ;go_upto_region 5 with (fail)
 go_upto_region 6 with (go_at_call 71;((with_reducible refine HW.o.mono ?_);rintro e u3 ⟨⟨x,rfl⟩,h3,h4⟩;have YP:=ae h3;have dY:=ae h4;clear h3 h4))
 have YO:=ae (show dW u3 b (.slice (some ⟨pb,po,none⟩) nl cap) st (txt++[40])from by
  have h:=dW.wrote HO.o YP.o dY.o;rwa[show sb ⟨#[40]⟩=[40]by decide]at h)
 have qZ:=ae (fun (wr:World)(hr:Below u3.heap.size u3 wr)=>BD wr b (.slice (some ⟨pb,po,none⟩) nl cap) st [aD.plain ⟨#[41]⟩] (txt++[40]) #[.string ⟨#[41]⟩,.int .i64 0,.int .i64 0] 1 rfl rfl (YO.o.below hr) (by show 1≤1000000;decide) (by omega))
 go_upto_region 7 with (first
  | (go_at_call 73;((with_reducible refine(Iu _ _).mono ?_);rintro e u4 ⟨rfl,h3⟩;have cu:=ae h3;clear h3))
  | (go_at_call 46;((with_reducible refine(qZ.o _ cu.o).mono ?_);rintro e u5 ⟨rfl,h3,h4⟩;have Yi:=ae h3;have XK:=ae h4;clear h3 h4)))
 have DJ:=ae (((bI.iP HD2.o).trans (bI.uO dY.o)).trans ((bI.iP cu.o).trans XK.o));have fK:=ae (HG2.o.pW DJ.o);have Kh:=ae (Kg.o.pW DJ.o (aj _) Eu);have Mc:w2.heap.size≤u5.heap.size:=DJ.o.size;have vo:=ae (show dW u5 b (.slice (some ⟨pb,po,none⟩) nl cap) (st++[aD.plain ⟨#[41]⟩]) (txt++[40])from Yi.o)
 have aM:=ae (show az u5 z2 n (.slice bD m ck)from by
  unfold az;have e1:w2.heap[z2]? = some (.cells (bA n (.slice bD m ck)) 44):=bV.o;rw[DJ.o.block z2 Bl G9 (.inr fun cur fr=>⟨fun e=>by(rw[e1]at e;injection e with e;injection e with _ e2;exact absurd e2 (by decide)),fun e=>by(rw[e1]at e;injection e with e;injection e with _ e2;exact absurd e2 (by decide))⟩)];exact e1)
 have Lu:b<u5.heap.size:=by omega
 have Mf:z2<u5.drew.heap.size:=by show z2<u5.heap.size;omega
 clear y0 y2;have yR:=ae (fun (wr:World)(hr:Below u5.heap.size u5 wr)=>Ut w0 wr b (.slice (some ⟨pb,po,none⟩) nl cap) (st++[aD.plain ⟨#[41]⟩]) (txt++[40]) n bD m ck ((fK.o).pW (bI.iP hr)) (vo.o.below hr) sG.o bP HZ1.o HZ2.o HZ3.o (Kh.o.below hr (Nat.le_of_lt Lu)) (by rw[ax];show txt.length+1≤_;omega) (by rw[ax];show st.length+1+_+1≤_;have:=HM.o;omega));rw[JS.o]at yR;have H3:=ae ((ak u5.heap.size u5).drew);obtain⟨k0,k1,k2,k3,k4,k5,k6,k7,k8,k9,k10,k11,k12,k13⟩:=aM.o.cells
 go_region_held3 (fun w'=>w'.cell? ⟨z2,0,none⟩=some (.int .i64 n.kind)∧w'.cell? ⟨z2,1,none⟩=some (.int .i64 n.num)∧w'.cell? ⟨z2,2,none⟩=some (.string n.text)∧w'.cell? ⟨z2,3,none⟩=some (.string n.ref.sh)∧w'.cell? ⟨z2,4,none⟩=some (.int .i64 n.ref.c)∧w'.cell? ⟨z2,5,none⟩=some (.int .i64 n.ref.r)∧w'.cell? ⟨z2,6,none⟩=some (.bool n.ref.ac)∧w'.cell? ⟨z2,7,none⟩=some (.bool n.ref.ar)∧w'.cell? ⟨z2,8,none⟩=some (.string n.ai.sh)∧w'.cell? ⟨z2,9,none⟩=some (.int .i64 n.ai.c)∧w'.cell? ⟨z2,10,none⟩=some (.int .i64 n.ai.r)∧w'.cell? ⟨z2,11,none⟩=some (.bool n.ai.ac)∧w'.cell? ⟨z2,12,none⟩=some (.bool n.ai.ar)∧w'.cell? ⟨z2,13,none⟩=some (.slice bD m ck)) (first|go_keep|exact KJ) (first
  | (go_at_call 74;((with_reducible refine(y7.o _).mono ?_);rintro e w4 ⟨rfl,rfl⟩))
  | ((with_reducible refine(yR.o _ H3.o).mono ?_);rintro e w5 ⟨rfl,h3,h4⟩;have sK:=ae h3;have bq:=ae h4;have KJ:=az.cells (show az w5 z2 n (.slice bD m ck)from by
       unfold az;have e1:u5.drew.heap[z2]? = some (.cells (bA n (.slice bD m ck)) 44):=aM.o;rw[bq.o.block z2 Mf G9 (.inr fun cur fr=>⟨fun e=>by(rw[e1]at e;injection e with e;injection e with _ e2;exact absurd e2 (by decide)),fun e=>by(rw[e1]at e;injection e with e;injection e with _ e2;exact absurd e2 (by decide))⟩)];exact e1);clear h3 h4))
 all_goals go_wp2_with fail
 all_goals go_end0
 all_goals exact⟨rfl,by(have h:=sK.o;rw[bQ txt]at h;exact h),(bI.iP HB.o).trans ((bI.iP Jv.o).trans (DJ.o.trans ((bI.iP H3.o).trans bq.o)))⟩
theorem PW:∀ks:List Int,2*ks.length≤(oW ks).length+1
 | []=>ek _
 | [a]=>aj _
 | a :: b :: ks=>by
   have ih:=PW (b :: ks);show 2*((b :: ks).length+1)≤((oW (b :: ks)).length+1+1)+1;omega
theorem adj (h:dD n=true):2*n.kids.length≤(eP n).2.length+4:=by
 obtain⟨a1,a2,a3,b1,b2, -⟩:=rz h;by_cases h6:n.kind≤6
 · rw[a3 ⟨b1,h6⟩];exact ek _
 by_cases h7:n.kind=7
 · have:=PW n.kids
   rw[show(eP n).2=oW n.kids++[aD.plain ⟨#[41]⟩]from by unfold eP;rw[af (by omega),af (by omega),af (by omega),af (by omega),af (by omega),af (by omega),ag h7],ax];omega
 by_cases h8:n.kind=8
 · rw[a1 h8];omega
 · rw[a2 (by omega)];omega
theorem aiQ {l:List Nd}(h:dA l=true)(p:aD)(hp:kr l p):2≤2*(ny l p).1.length+(ny l p).2.length:=by
 have hn:∀n:Nd,dD n=true→2≤2*(eP n).1.length+(eP n).2.length:=by
  intro n hn;obtain⟨-, -, -,b1,b2, -⟩:=rz hn;unfold eP;split
  · have:bn n.num.toNat≠[]:=uD _
    have:=List.length_pos_iff.2 this;show 2≤2*(bn n.num.toNat).length+0;omega
  split
  · simp;omega
  split
  · split <;> simp
  split
  · simp
  split
  · rename_i h5
    have hl:=(rz hn).2.2.2.2.2;have:bE (sb n.ref.sh) n.ref.c n.ref.r n.ref.ac n.ref.ar≠[]:=WO (Tn hl h5);have:=List.length_pos_iff.2 this;show 2≤2*(bE _ _ _ _ _).length+0;omega
  split
  · simp;omega
  split
  · simp;omega
  split
  · simp
  · simp
 unfold ny;split
 · rename_i ht
   obtain⟨h0,h1⟩:=hp ht;have:=hn _ (zZ h h0 h1).1;split
   · rw[bf,ax];show 2≤2*(_+1)+(_+1);omega
   · exact this
 · rename_i ht
   have:=List.length_pos_iff.2 (VP ht);show 2≤2*(sb p.t).length+0;omega
theorem aiR {l:List Nd}{j:Nat}{m:Int}(hn:nodeAt l (j:Int)=n):ny l ⟨⟨#[]⟩,(j:Int),m⟩=if (bM n.kind:Int)+1<m then (40 :: (eP n).1,(eP n).2++[aD.plain ⟨#[41]⟩])else eP n:=by
 unfold ny;rw[ag rfl];dsimp only;rw[hn]
theorem aj6 (w0 w:World)(b:Nat)(nv:Value)(vs:List (Nd × Value))(st:List aD)(txt:List Int)(p:aD)(hg:nS w0 w b)(h:dW w b nv st txt)(hsn:dN w b nv vs)(hz:SZ vs)(ht:dA (vs.map (·.1))=true)(bP:∀q∈vs,q.1.num≤9223372036854775807)(hp:kr (vs.map (·.1)) p)(hl:txt.length+(kX (vs.map (·.1)) p).length≤1000000000)(hls:st.length+(kX (vs.map (·.1)) p).length≤1000000000) :
 Calls Tryz.prog 48 #[.pointer (some ⟨b,0,none⟩),.agg (nk p)] w fun e w'=>e = .returned (.tuple #[])∧dW w' b nv (st++(ny (vs.map (·.1)) p).2.reverse) (txt++(ny (vs.map (·.1)) p).1)∧bI w w' b:=by
 obtain⟨t,i,m⟩:=p;by_cases hpt:t=⟨#[]⟩
 · subst hpt
   obtain⟨h0,h1⟩:=hp rfl;dsimp only at h0 h1;obtain⟨j,rfl⟩:∃j:Nat,i=(j:Int):=⟨i.toNat,by omega⟩;rw[eF]at h1;obtain⟨⟨n,k⟩,hnk⟩:∃q,vs[j]? = some q:=⟨_,cZ (by omega)⟩
   have hn:nodeAt (vs.map (·.1)) (j:Int)=n:=by
    unfold nodeAt;rw[Int.toNat_natCast,kg,gY,hnk];rfl
   have hnb:=(zZ ht h0 (by rw[eF];exact h1)).1;rw[hn]at hnb;have hkl:=adj hnb;have hne:=List.length_pos_iff.2 (U0 ht _ hp);have hfl:=GH ht _ (NT ht _ hp);have hL:=WB ht _ hp;have yn:=congrArg List.length hL;rw[ax]at yn;have hsp:=aiR (m:=m) hn;rw[hsp]at hfl yn ⊢;by_cases hr:(bM n.kind:Int)+1<m
   · rw[ag hr]at hfl yn ⊢
     dsimp only at hfl yn ⊢;rw[ax]at hfl;refine(aj8 w0 w b nv vs st txt j m n k hg h hsn hz hnk hnb (bP _ (fe hnk)) hr (by omega) (by omega)).mono ?_;rintro e w' ⟨h1,h2,h3⟩;refine⟨h1, ?_,h3⟩;rw[List.reverse_append,List.reverse_singleton, ← bQ];exact h2
   · rw[af hr]at hfl yn ⊢
     exact aj7 w0 w b nv vs st txt j m n k hg h hsn hz hnk hnb (bP _ (fe hnk)) hr (by omega) (by omega)
 · have hs:ny (vs.map (·.1)) ⟨t,i,m⟩=(sb t,[]):=by unfold ny;rw[af (show ¬ (⟨t,i,m⟩:aD).t=⟨#[]⟩from hpt)]
   have hp2:kX (vs.map (·.1)) ⟨t,i,m⟩=sb t:=by unfold kX;rw[af (show ¬ (⟨t,i,m⟩:aD).t=⟨#[]⟩from hpt)]
   rw[hs];rw[hp2,bC]at hl;dsimp only;rw[List.reverse_nil,gL];exact aj9 w b nv st txt ⟨t,i,m⟩ h hpt hl
theorem aaV (w:World)(n:Nd)(hv:Vars w)(hs:n.text.size≤1000000)(hr:n.ref.sh.size≤1000000)(ht:n.ai.sh.size≤1000000)(dh:okF n=true)(A:Option Addr)(m c:Nat) :
 Calls Tryz.prog 59 #[.agg (aB n (.slice A m c))] w fun e w'=>e = .returned (.tuple #[.agg (bA (ja n) (.slice none 0 0)),.bool (okF n)])∧Below w.heap.size w w':=by
 (try unfold aB)
 by_cases h1:n.kind=1
 · have e1:ja n={ Nd.zero with num:=n.num }:=by unfold ja;rw[ag h1]
   have e2:okF n=decide (0≤n.num):=by unfold okF;rw[ag h1]
   rw[e1,e2];exact aaO n h1 A m c w
 by_cases h2:n.kind=2
 · have e1:ja n={ Nd.zero with text:=n.text }:=by unfold ja;rw[af h1,ag h2]
   have e2:okF n=mM (sb n.text):=by unfold okF;rw[af h1,ag h2]
   rw[e1,e2];exact aaP w n h2 hs A m c
 by_cases h3:n.kind=3
 · have e1:ja n={ Nd.zero with num:=n.num }:=by unfold ja;rw[af h1,af h2,ag h3]
   have e2:okF n=decide (n.num=0∨n.num=1):=by unfold okF;rw[af h1,af h2,ag h3]
   rw[e1,e2];by_cases k0:n.num=0
   · rw[aR (Or.inl k0)];exact aaQ w n h3 k0 A m c
   · by_cases k1:n.num=1
     · rw[aR (Or.inr k1)];exact aaR w n h3 k1 A m c
     · have k:¬ (n.num=0∨n.num=1):=by omega
       rw[dh,aV k]at e2;exact absurd e2 (by decide)
 by_cases h5:n.kind=5
 · have e1:ja n={ Nd.zero with ref:=n.ref }:=by unfold ja;rw[af h1,af h2,af h3,ag h5]
   have e2:okF n=bX n.ref:=by unfold okF;rw[af h1,af h2,af h3,ag h5]
   rw[e1,e2];exact aaS w n h5 hr A m c
 by_cases h6:n.kind=6
 · have e1:ja n=⟨0,0,⟨#[]⟩,n.ref,n.ai,[]⟩:=by unfold ja;rw[af h1,af h2,af h3,af h5,ag h6]
   have e2:okF n=(bX n.ref&&(bX n.ai&&fI n.ref n.ai)):=by unfold okF;rw[af h1,af h2,af h3,af h5,ag h6]
   rw[e1,e2];cases q1:bX n.ref
   · rw[dh,q1,Bool.false_and]at e2;exact absurd e2 (by decide)
   · cases q2:bX n.ai
     · rw[dh,q1,q2,Bool.false_and,Bool.and_false]at e2;exact absurd e2 (by decide)
     · exact aaT w n h6 hr ht q1 q2 A m c
 by_cases h7:n.kind=7
 · have e1:ja n={ Nd.zero with text:=n.text }:=by unfold ja;rw[af h1,af h2,af h3,af h5,af h6,ag h7]
   have e2:okF n=kv n.text:=by unfold okF;rw[af h1,af h2,af h3,af h5,af h6,ag h7]
   rw[e1,e2];exact aaU w n h7 hv A m c
 have e1:ja n=Nd.zero:=by unfold ja;rw[af h1,af h2,af h3,af h5,af h6,af h7]
 have e2:okF n=(decide (n.kind=4∨n.kind=8)||xC n.kind):=by unfold okF;rw[af h1,af h2,af h3,af h5,af h6,af h7]
 rw[e1,e2];by_cases h4:n.kind=4
 · rw[aR (Or.inl h4),Bool.true_or];exact aaL w n h1 h2 h3 h5 h6 h7 h4 A m c
 · by_cases h8:n.kind=8
   · rw[aR (Or.inr h8),Bool.true_or];exact aaM w n h1 h2 h3 h5 h6 h7 h8 A m c
   · rw[aV (by omega),Bool.false_or];exact aaN w n h1 h2 h3 h5 h6 h7 h4 h8 A m c
theorem SY (w:World)(n:Nd)(hv:Vars w)(hs:n.text.size≤1000000)(hr:n.ref.sh.size≤1000000)(ht:n.ai.sh.size≤1000000)(A:Option Addr)(m c:Nat)(hm:m≤maxLen)(dh:wo n m=true) :
 Calls Tryz.prog 36 #[.agg (aB n (.slice A m c))] w fun e w'=>e = .returned (.bool true)∧Below w.heap.size w w':=by
 (try unfold aB)
 have dx:=ae dh;have acg:okF n=true:=by unfold wo at dh;rw[dJ]at dh;exact dh.1
 clear dh;obtain⟨N,hN⟩:∃N,ja n=N:=⟨_,rfl⟩;obtain⟨ok,hok⟩:∃ok,okF n=ok:=⟨_,rfl⟩;obtain⟨hk,hhk⟩:∃hk,hkB n.kind m=hk:=⟨_,rfl⟩;have HI:=ae (show wo n m=(ok&&(hk&&(decide (n.num=N.num)&&(decide (n.text=N.text)&&(iw n.ref N.ref&&iw n.ai N.ai)))))by unfold wo;rw[hN,hok,hhk]);have HF:=ae (show ∀w,Vars w→Calls Tryz.prog 59 #[.agg (aB n (.slice A m c))] w fun e w'=>e = .returned (.tuple #[.agg (aB N (.slice none 0 0)),.bool ok])∧Below w.heap.size w w' from fun w hv=>by rw[← hN, ← hok];exact aaV w n hv hs hr ht acg A m c);have HH:=ae (show ∀w,Calls Tryz.prog 60 #[.agg (aB n (.slice A m c))] w fun e w'=>e = .returned (.bool hk)∧Below w.heap.size w w' from fun w=>by rw[← hhk];exact abo n A m c hm w);have hx:az (w.alloc (.cells (aB n (.slice A m c)) 44)) w.heap.size n (.slice A m c):=az.new w n _;have HB:=ae ((ak w.heap.size w).alloc (aj _) (.cells (aB n (.slice A m c)) 44));have aW:=ae hv;clear hN hok hhk hv;go_enter Tryz.func36,Tryz.ntmps36;go_upto_region 1 with (fail)
 generalize w.alloc (.cells (aB n (.slice A m c)) 44)=w1 at hx HB ⊢;generalize hb0:w.heap.size=b0 at hx ⊢;obtain⟨x0,x1,x2,x3,x4,x5,x6,x7,av,aI,aF,aG,aH,aC⟩:=hx.cells;have HX:=ae hx;clear hx;go_upto_region 2 with (go_at_call 59;((with_reducible refine(HF.o _ (aW.o.below HB.o)).mono ?_);rintro e w2 ⟨rfl,h1⟩;have dw:=ae (HX.o.below h1 HX.o.lt);have HB2:=ae (HB.o.trans (h1.mono HB.o.size));clear h1))
 have hB3:Below w2.heap.size w2 (w2.alloc (.cells (aB N (.slice none 0 0)) 44)):=(ak _ _).alloc (aj _) _;have hy:az (w2.alloc (.cells (aB N (.slice none 0 0)) 44)) w2.heap.size N (.slice none 0 0):=az.new w2 N _;have fq:=ae (dw.o.below hB3 dw.o.lt);have HB3:=ae (HB2.o.trans (hB3.mono HB2.o.size));clear hB3 x0 x1 x2 x3 x4 x5 x6 x7 av aI aF aG aH aC;generalize hb3:w2.heap.size=b3 at hy ⊢;generalize w2.alloc (.cells (aB N (.slice none 0 0)) 44)=w3 at hy fq HB3 ⊢;clear hb3;have Av:=ae hy;clear hy;cases ok
 · obtain⟨x0,x1,x2,x3,x4,x5,x6,x7,av,aI,aF,aG,aH,aC⟩:=fq.o.cells
   have HR:=ae (show wo n m=false by rw[HI.o];rfl);exact absurd HR.o (by rw[dx.o];decide)
 have go1:=fq.o.cells;obtain⟨x0,x1,x2,x3,x4,x5,x6,x7,av,aI,aF,aG,aH,aC⟩:=go1;cases hk
 · have HR:=ae (show wo n m=false by rw[HI.o];rfl)
   exact absurd HR.o (by rw[dx.o];decide)
 by_cases bP:n.num=N.num;rotate_left
 · have HR:=ae (show wo n m=false by rw[HI.o,aV bP];rfl)
   exact absurd HR.o (by rw[dx.o];decide)
 have en:(n.num == N.num)=true:=bB.2 bP;by_cases htx:n.text=N.text;rotate_left
 · have HR:=ae (show wo n m=false by rw[HI.o,aR bP,aV htx];rfl)
   exact absurd HR.o (by rw[dx.o];decide)
 have et:(n.text.toList == N.text.toList)=true:=by rw[htx];simp
 have HR:=ae (show wo n m=(iw n.ref N.ref&&iw n.ai N.ai)by rw[HI.o,aR bP,aR htx];rfl);have hq:=HR.o;rw[dx.o]at hq;have hq2:=hq.symm;rw[dJ,En,En]at hq2;obtain⟨q1,q2⟩:=hq2;clear hq;have r00:(n.ref.sh.toList == n.ref.sh.toList)=true:=beq_self_eq_true _;have s00:N.ref.sh.toList=n.ref.sh.toList:=by rw[q1]
 have r01:(n.ref.c == n.ref.c)=true:=beq_self_eq_true _;have s01:N.ref.c=n.ref.c:=by rw[q1]
 have r02:(n.ref.r == n.ref.r)=true:=beq_self_eq_true _;have s02:N.ref.r=n.ref.r:=by rw[q1]
 have r03:(n.ref.ac == n.ref.ac)=true:=beq_self_eq_true _;have s03:N.ref.ac=n.ref.ac:=by rw[q1]
 have r04:(n.ref.ar == n.ref.ar)=true:=beq_self_eq_true _;have s04:N.ref.ar=n.ref.ar:=by rw[q1]
 have r10:(n.ai.sh.toList == n.ai.sh.toList)=true:=beq_self_eq_true _;have s10:N.ai.sh.toList=n.ai.sh.toList:=by rw[q2]
 have r11:(n.ai.c == n.ai.c)=true:=beq_self_eq_true _;have s11:N.ai.c=n.ai.c:=by rw[q2]
 have r12:(n.ai.r == n.ai.r)=true:=beq_self_eq_true _;have s12:N.ai.r=n.ai.r:=by rw[q2]
 have r13:(n.ai.ac == n.ai.ac)=true:=beq_self_eq_true _;have s13:N.ai.ac=n.ai.ac:=by rw[q2]
 have r14:(n.ai.ar == n.ai.ar)=true:=beq_self_eq_true _;have s14:N.ai.ar=n.ai.ar:=by rw[q2]
 clear q1 q2;clear bP htx;go_wp2_with (go_at_call 60;((with_reducible refine(HH.o _).mono ?_);rintro e w4 ⟨rfl,h1⟩;have cu:=ae (HB3.o.trans (h1.mono HB3.o.size));obtain⟨z0,z1,z2,z3,z4,z5,z6,z7,Dx,z9,Dv,Dw,z12,FE⟩:=(fq.o.below h1 fq.o.lt).cells;obtain⟨y0,y1,y2,y3,y4,dH,y6,ll,nE,tT,tN,tO,tQ,y13⟩:=(Av.o.below h1 Av.o.lt).cells;clear h1))
 all_goals go_ret
 all_goals exact⟨rfl,cu.o⟩
theorem U1 (w:World)(v:Value)(vs:List (Nd × Value))(hv:Vars w)(h:dN w w.heap.size v vs)(hz:SZ vs)(dh:dA (vs.map (·.1))=true):Calls Tryz.prog 20 #[v] w fun e w'=>e = .returned (.bool true)∧Below w.heap.size w w':=by
 obtain⟨⟨A,cap,rfl,hat⟩,rD⟩:=h;obtain⟨hlen,hsz⟩:=hz;obtain⟨nl,hnl⟩:∃nl,vs.length=nl:=⟨_,rfl⟩;rw[hnl]at hlen ⊢;have dx:=ae dh;clear dh;have aW:=ae hv;have HAT:=ae hat;have Ak:=ae rD;have mU:=ae hsz;have jI:=ae hnl;obtain⟨eb,jW,df⟩:=Elem.kid;have jw:=ae df;clear hv hat rD hsz hnl df;go_enter Tryz.func20,Tryz.ntmps20;go_upto_region 3 with (fail)
 go_loopw [3,9] (fun rv iv wr=>∃(i:Nat)(st:List Int)(rk:Value),i≤nl∧st.length≤i∧rk=rv∧iv = .int .i64 (i:Int)∧Hid (dA (vs.map (·.1))=nQ st i ((vs.map (·.1)).drop i))∧Hid (Own (aJ .i64) 3 wr w.heap.size rk st)∧Hid (Below w.heap.size w wr))
  (fun _ iv _=>nl - (intOf iv).toNat)
 case atStart=>exact⟨0,[],.slice none 0 0,ek _,aj _,rfl,rfl,ae rfl,ae (Own.nil _ _ _ _),ae (ak _ _)⟩
 case round =>
  obtain⟨i,st,rk,hi,hsi,rfl,rfl,HT,HO,HB⟩:=hrel;by_cases hlt:i<nl
  · have hii:(i:Int)<(nl:Int):=by omega
    obtain⟨⟨n,k⟩,hnk⟩:∃q,vs[i]? = some q:=⟨_,cZ (by rw[jI.o];exact hlt)⟩;have bW:=fe hnk;obtain⟨hz1,hz2,hz3⟩:=mU.o _ bW;have HZ1:=ae hz1;have HZ2:=ae hz2;have HZ3:=ae hz3;clear hz1 hz2 hz3;have rF:ic w w.heap.size k n.kids:=Ak.o _ bW;obtain⟨bD,ck,hk,hkc,dL,_⟩:=id rF;obtain⟨m,hm⟩:∃m,n.kids.length=m:=⟨_,rfl⟩;rw[hm]at hk hkc;subst hk;have hmm:m≤maxLen:=bN hkc dL;have hmx:m≤9223372036854775807:=by unfold maxLen at hmm;omega
    have FU:=ae hmm;have HM:=ae hm;have lT:=ae rF
    have HD:=ae (show(vs.map (·.1)).drop i=n :: (vs.map (·.1)).drop (i+1)by
     have hl:i<(vs.map (·.1)).length:=by rw[eF,jI.o];exact hlt
     rw[List.drop_eq_getElem_cons hl];congr 1;have h1:(vs.map (·.1))[i]? = some n:=by rw[gY,hnk];rfl
     rw[cZ hl]at h1;exact dM h1)
    rcases HAT.o with e|⟨pb,po,rfl,hpb,vT⟩
    · exfalso;rw[e]at hnk;simp at hnk
    have hcell:=vT i n _ hnk;obtain⟨k0,k1,k2,k3,k4,k5,k6,k7,k8,k9,k10,k11,k12,k13⟩:=qB HB.o hpb hcell;clear hcell vT hnk bW rF hm hkc dL hmm;have hL:st.length≤1000:=by omega
    rcases HO.o.shape with ⟨rfl,hst⟩|⟨rg,xu,rfl,hrg,hrl,hrc,hrm⟩
    · have acx:st.length=0:=by rw[hst];rfl
      by_cases hm0:m=0;rotate_left
      · have vX : -(m:Int)<0:=by omega
        have qG:¬ m≤st.length:=by omega
        have HT2:=ae (show dA (vs.map (·.1))=false by rw[HT.o,HD.o,nR,HM.o,aV qG,Bool.false_and,Bool.and_false]);exact absurd HT2.o (by rw[dx.o];decide)
      subst hm0;have HST:=ae hst;clear hst acx;have hB3:Below wr.heap.size wr (wr.alloc (.cells (aB n (.slice bD 0 ck)) 44)):=(ak _ _).alloc (aj _) _;have aM:az (wr.alloc (.cells (aB n (.slice bD 0 ck)) 44)) wr.heap.size n (.slice bD 0 ck):=az.new wr n _;have HB3:=ae (HB.o.trans (hB3.mono HB.o.size));have gm:=ae (HO.o.alloc (.cells (aB n (.slice bD 0 ck)) 44));clear hB3;go_upto_region 6 with (fail)
      generalize hb3:wr.heap.size=b3 at aM ⊢;generalize wr.alloc (.cells (aB n (.slice bD 0 ck)) 44)=w3 at aM HB3 gm ⊢;clear hb3 k0 k1 k2 k3 k4 k5 k6 k7 k8 k9 k10 k11 k12 k13 HO;have aM:=ae aM;obtain⟨f,hf⟩:∃f,st.length - 0=f:=⟨_,rfl⟩;have qG:0≤st.length:=ek _;have Ey:f≤st.length:=by omega
      have fF:=ae (show ∀W,Below w3.heap.size w3 W→ic W w3.heap.size (.slice none 0 0) (st.drop f)from fun W hW=>⟨none,0,by rw[HST.o];simp,by rw[HST.o];simp,by unfold maxLen;omega,.inl (by rw[HST.o];simp)⟩);have Ki:=ae (lT.o.below HB3.o (aj _));by_cases hdk:st.drop f=n.kids;rotate_left
      · have HT2:=ae (show dA (vs.map (·.1))=false by rw[HT.o,HD.o,nR,HM.o,hf,aV hdk,Bool.false_and,Bool.and_false,Bool.and_false])
        exact absurd HT2.o (by rw[dx.o];decide)
      have yS:=ae (show ∀W,Below w3.heap.size w3 W→Calls Tryz.prog 35 #[.slice none 0 0,.slice bD 0 ck] W fun e w'=>e = .returned (.bool true)∧Below W.heap.size W w' from fun W hW=>by
       have:=QM W w3.heap.size _ _ _ _ (fF.o W hW) ((Ki.o.mono HB3.o.size).below hW (aj _));rw[aR hdk]at this;exact this)
      have HDK:=ae hdk;cases hnb:dD n
      · have HT2:=ae (show dA (vs.map (·.1))=false by rw[HT.o,HD.o,nR,hnb,Bool.false_and])
        exact absurd HT2.o (by rw[dx.o];decide)
      · have HT2:=ae (show dA (vs.map (·.1))=nQ (st.take f++[(i:Int)]) (i+1) ((vs.map (·.1)).drop (i+1))by rw[HT.o,HD.o,nR,hnb,HM.o,aR qG,hf,aR hdk,gV,gV,gV])
        have dR:=ae (show ∀W,Below w3.heap.size w3 W→Calls Tryz.prog 36 #[.agg (aB n (.slice bD 0 ck))] W fun e w'=>e = .returned (.bool true)∧Below W.heap.size W w' from fun W hW=>by
         exact SY W n (aW.o.below (HB3.o.trans (hW.mono HB3.o.size))) HZ1.o HZ2.o HZ3.o bD 0 ck FU.o (by rw[← HM.o,SX,hnb]))
        clear qG hdk hnb;refine wp_region_held_drew (S:=fun W=>Below w3.heap.size w3 W) (by kernel_rfl) (Below.drew (ak w3.heap.size w3)) (fun _ => ?_);show wpAnyH _ _ _ _ _ 16 #[false,false,false,false,false,false,false,false,false,false,false,false,false,false,false,false] _ _;refine hT 0 (Below.drew (ak w3.heap.size w3)) ?_;refine hT 1 (Below.drew (ak w3.heap.size w3)) ?_;refine hT 2 (Below.drew (ak w3.heap.size w3)) ?_;refine hT 3 (Below.drew (ak w3.heap.size w3)) ?_;refine hT 4 (Below.drew (ak w3.heap.size w3)) ?_;refine hT 5 (Below.drew (ak w3.heap.size w3)) ?_;refine hT 6 (Below.drew (ak w3.heap.size w3)) ?_;refine hT 7 (Below.drew (ak w3.heap.size w3)) ?_ (hy:=by(intro ig hSw;have hz:=(aM.o.below hSw aM.o.lt).cells;go_simp;try(with_reducible rfl)));refine hO 8 (fun K hK => ?_);go_simp;refine(yS.o _ (Below.drew (ak w3.heap.size w3))).mono ?_;rintro e w4 ⟨rfl,h1⟩;have HE:=ae ((Below.drew (ak w3.heap.size w3)).trans h1);clear h1;go_wp2_with fail
        refine hK.o _ _ HE.o ?_;clear hK K;simp only[Act.put,sT,fV,fU];refine hT 9 HE.o ?_;refine hT 10 HE.o ?_;refine hT 11 HE.o ?_;refine hT 12 HE.o ?_ (hy:=by(intro ig hSw;have hz:=(aM.o.below hSw aM.o.lt).cells;go_simp;try(with_reducible rfl)));refine hO 13 (fun K hK => ?_);go_simp;refine(dR.o _ HE.o).mono ?_;rintro e w5 ⟨rfl,h1⟩;have HF:=ae (HE.o.trans (h1.mono HE.o.size));clear h1;go_wp2_with fail
        refine hK.o _ _ HF.o ?_;clear hK K;simp only[Act.put,sT,fV,fU];refine hT 14 HF.o ?_;refine hT 15 HF.o ?_;refine wpAnyH_done (by kernel_rfl) ?_ _;have eX:=ae (HB3.o.trans (HF.o.mono HB3.o.size));have mQ:=ae (gm.o.below HF.o (aj _));have zA:(st.take f).length≤1000:=by rw[gW];omega
        go_wp2_with (at_builtin;refine oL jw.o (aJ .i64) rfl (.tmp 38) (.tmp 40) rfl w.heap.size (.slice none 0 0) (st.take f) rfl ((show Own (aJ .i64) 3 w5 w.heap.size (.slice none 0 0) (st.take f)from by rw[HST.o,List.take_nil];exact Own.nil _ _ _ _).alloc _) ⟨w5.heap.size,0,none⟩ 1 1 [(i:Int)] rfl rfl ?_ ?_ ?_ ?_ ?_;exact gD _ _ _ rfl;exact bN (Nat.mul_le_mul_left _ jW) (by omega);(unfold maxLen;omega);(have:=eX.o.size;simp <;> omega);intro rJ w6 h1 h2;have sH:=ae h1;have iR:=ae (((eX.o.alloc eX.o.size _)).trans h2);clear h1 h2)
        go_roundw
        case rel=>exact⟨i+1,st.take f++[(i:Int)],rJ,by omega,by rw[ax,gW,fo];omega,rfl,by go_num,HT2,sH,iR⟩
        case measure=>simp[intOf];omega
    · skip
      by_cases qG:m≤st.length;rotate_left
      · have vX:(st.length:Int) - (m:Int)<0:=by omega
        have HT2:=ae (show dA (vs.map (·.1))=false by rw[HT.o,HD.o,nR,HM.o,aV qG,Bool.false_and,Bool.and_false]);exact absurd HT2.o (by rw[dx.o];decide)
      obtain⟨f,hf⟩:∃f,st.length - m=f:=⟨_,rfl⟩;have hw1 : -9223372036854775808≤(st.length:Int) - (m:Int):=by omega
      have hw2:(st.length:Int) - (m:Int)≤9223372036854775807:=by omega
      have hfi:(st.length:Int) - (m:Int)=(f:Int):=by omega
      have hfn:¬ (f:Int)<0:=by omega
      have hf0:(0:Int)≤(f:Int):=by omega
      have hfl:(f:Int)≤(st.length:Int):=by omega
      have Ey:f≤st.length:=by omega
      have hB3:Below wr.heap.size wr (wr.alloc (.cells (aB n (.slice bD m ck)) 44)):=(ak _ _).alloc (aj _) _;have aM:az (wr.alloc (.cells (aB n (.slice bD m ck)) 44)) wr.heap.size n (.slice bD m ck):=az.new wr n _;have HB3:=ae (HB.o.trans (hB3.mono HB.o.size));have gm:=ae (HO.o.alloc (.cells (aB n (.slice bD m ck)) 44));clear hB3;go_upto_region 6 with (fail)
      generalize hb3:wr.heap.size=b3 at aM ⊢;generalize wr.alloc (.cells (aB n (.slice bD m ck)) 44)=w3 at aM HB3 gm ⊢;clear hb3 k0 k1 k2 k3 k4 k5 k6 k7 k8 k9 k10 k11 k12 k13 HO;have aM:=ae aM;have akC:(f:Int)≤(xu:Int):=by omega
      obtain⟨AT,Lh⟩:∃AT,(if xu=f then some (⟨rg,0,none⟩:Addr)else some ⟨rg,f,none⟩)=AT:=⟨_,rfl⟩;have fF:=ae (show ∀W,Below w3.heap.size w3 W→ic W w3.heap.size (.slice AT (st.length - f) (xu - f)) (st.drop f)from fun W hW=>by rw[← Lh];exact(ic.tail gm.o f Ey hrc hrm (by have:=(gm.o.kT rg rfl).2.1;exact this)).below hW (aj _));have Ki:=ae (lT.o.below HB3.o (aj _));by_cases hdk:st.drop f=n.kids;rotate_left
      · have HT2:=ae (show dA (vs.map (·.1))=false by rw[HT.o,HD.o,nR,HM.o,hf,aV hdk,Bool.false_and,Bool.and_false,Bool.and_false])
        exact absurd HT2.o (by rw[dx.o];decide)
      have yS:=ae (show ∀W,Below w3.heap.size w3 W→Calls Tryz.prog 35 #[.slice AT (st.length - f) (xu - f),.slice bD m ck] W fun e w'=>e = .returned (.bool true)∧Below W.heap.size W w' from fun W hW=>by
       have:=QM W w3.heap.size _ _ _ _ (fF.o W hW) ((Ki.o.mono HB3.o.size).below hW (aj _));rw[aR hdk]at this;exact this)
      have HDK:=ae hdk;cases hnb:dD n
      · have HT2:=ae (show dA (vs.map (·.1))=false by rw[HT.o,HD.o,nR,hnb,Bool.false_and])
        exact absurd HT2.o (by rw[dx.o];decide)
      · have HT2:=ae (show dA (vs.map (·.1))=nQ (st.take f++[(i:Int)]) (i+1) ((vs.map (·.1)).drop (i+1))by rw[HT.o,HD.o,nR,hnb,HM.o,aR qG,hf,aR hdk,gV,gV,gV])
        have dR:=ae (show ∀W,Below w3.heap.size w3 W→Calls Tryz.prog 36 #[.agg (aB n (.slice bD m ck))] W fun e w'=>e = .returned (.bool true)∧Below W.heap.size W w' from fun W hW=>by
         exact SY W n (aW.o.below (HB3.o.trans (hW.mono HB3.o.size))) HZ1.o HZ2.o HZ3.o bD m ck FU.o (by rw[← HM.o,SX,hnb]))
        clear qG hdk hnb;refine wp_region_held_drew (S:=fun W=>Below w3.heap.size w3 W) (by kernel_rfl) (Below.drew (ak w3.heap.size w3)) (fun _ => ?_);show wpAnyH _ _ _ _ _ 16 #[false,false,false,false,false,false,false,false,false,false,false,false,false,false,false,false] _ _;refine hT 0 (Below.drew (ak w3.heap.size w3)) ?_;refine hT 1 (Below.drew (ak w3.heap.size w3)) ?_;refine hT 2 (Below.drew (ak w3.heap.size w3)) ?_;refine hT 3 (Below.drew (ak w3.heap.size w3)) ?_;refine hT 4 (Below.drew (ak w3.heap.size w3)) ?_;refine hT 5 (Below.drew (ak w3.heap.size w3)) ?_;refine hT 6 (Below.drew (ak w3.heap.size w3)) ?_;refine hT 7 (Below.drew (ak w3.heap.size w3)) ?_ (hy:=by(intro ig hSw;have hz:=(aM.o.below hSw aM.o.lt).cells;go_simp;try(with_reducible rfl)));refine hO 8 (fun K hK => ?_);go_simp;refine(yS.o _ (Below.drew (ak w3.heap.size w3))).mono ?_;rintro e w4 ⟨rfl,h1⟩;have HE:=ae ((Below.drew (ak w3.heap.size w3)).trans h1);clear h1;go_wp2_with fail
        refine hK.o _ _ HE.o ?_;clear hK K;simp only[Act.put,sT,fV,fU];refine hT 9 HE.o ?_;refine hT 10 HE.o ?_;refine hT 11 HE.o ?_;refine hT 12 HE.o ?_ (hy:=by(intro ig hSw;have hz:=(aM.o.below hSw aM.o.lt).cells;go_simp;try(with_reducible rfl)));refine hO 13 (fun K hK => ?_);go_simp;refine(dR.o _ HE.o).mono ?_;rintro e w5 ⟨rfl,h1⟩;have HF:=ae (HE.o.trans (h1.mono HE.o.size));clear h1;go_wp2_with fail
        refine hK.o _ _ HF.o ?_;clear hK K;simp only[Act.put,sT,fV,fU];refine hT 14 HF.o ?_;refine hT 15 HF.o ?_;refine wpAnyH_done (by kernel_rfl) ?_ _;have eX:=ae (HB3.o.trans (HF.o.mono HB3.o.size));have mQ:=ae (gm.o.below HF.o (aj _));have zA:(st.take f).length≤1000:=by rw[gW];omega
        go_wp2_with (at_builtin;refine oL jw.o (aJ .i64) rfl (.tmp 38) (.tmp 40) rfl w.heap.size (.slice (some ⟨rg,0,none⟩) f xu) (st.take f) rfl ((UJ mQ.o f Ey).alloc _) ⟨w5.heap.size,0,none⟩ 1 1 [(i:Int)] rfl rfl ?_ ?_ ?_ ?_ ?_;exact gD _ _ _ rfl;exact bN (Nat.mul_le_mul_left _ jW) (by omega);(unfold maxLen;omega);(have:=eX.o.size;simp <;> omega);intro rJ w6 h1 h2;have sH:=ae h1;have iR:=ae (((eX.o.alloc eX.o.size _)).trans h2);clear h1 h2)
        go_roundw
        case rel=>exact⟨i+1,st.take f++[(i:Int)],rJ,by omega,by rw[ax,gW,fo];omega,rfl,by go_num,HT2,sH,iR⟩
        case measure=>simp[intOf];omega
  · have hii:¬ (i:Int)<(nl:Int):=by omega
    have hin:i=nl:=by omega
    have HT2:=ae (show dA (vs.map (·.1))=decide (st.length=1)by
     rw[HT.o,List.drop_of_length_le (by rw[eF,jI.o];omega)];rfl)
    rcases HO.o.shape with ⟨rfl,hst⟩|⟨rg,xu,rfl, -⟩
    · rw[hst]at HT2
      exact absurd HT2.o (by rw[dx.o];decide)
    · by_cases h1:st.length=1
      · have h1i:((st.length:Int) == 1)=true:=by rw[bB];omega
        clear h1 HT2;go_wp2_with fail
        go_ret;exact⟨rfl,HB.o⟩
      · rw[aV h1,dx.o]at HT2
        exact absurd HT2.o (by decide)
theorem wC (c:Int)(_h0:0≤c)(_h1:c≤255)(w:World) :
 Calls Tryz.prog 79 #[.int .u8 c] w fun e w'=>e = .returned (.bool (aU c))∧w=w':=by
 go_enter Tryz.func79,Tryz.ntmps79
 go_wp2
 all_goals go_ret
 all_goals exact⟨gu (by unfold aU;first|rfl|(symm;rw[aQ];omega)|(symm;rw[jv];omega)|(rw[decide_eq_decide];omega)),rfl⟩
theorem jG (c:Int)(_h0:0≤c)(_h1:c≤255)(w:World) :
 Calls Tryz.prog 81 #[.int .u8 c] w fun e w'=>e = .returned (.bool (isNum c))∧w=w':=by
 go_enter Tryz.func81,Tryz.ntmps81
 go_wp2
 all_goals go_ret
 all_goals exact⟨gu (by unfold isNum;first|rfl|(symm;rw[aQ];omega)|(symm;rw[jv];omega)|(rw[decide_eq_decide];omega)),rfl⟩
theorem qb (c:Int)(_h0:0≤c)(_h1:c≤255)(w:World) :
 Calls Tryz.prog 89 #[.int .u8 c] w fun e w'=>e = .returned (.bool (isLet c))∧w=w':=by
 go_enter Tryz.func89,Tryz.ntmps89
 go_wp2
 all_goals go_ret
 all_goals exact⟨gu (by unfold isLet;first|rfl|(rw[Bool.eq_iff_iff];simp only[Bool.or_eq_true,aQ];omega)|(symm;rw[aQ];omega)|(symm;rw[jv];omega)|(rw[decide_eq_decide];omega)),rfl⟩
theorem Vh (s:ByteArray)(w:World)(_hs:s.size≤1000000) :
 Calls Tryz.prog 65 #[.string s] w fun e w'=>e = .returned (.bool (iI (sb s)))∧w=w':=by
 go_enter Tryz.func65,Tryz.ntmps65
 go_wp2
 go_loopw [3] (fun i wr=>∃k:Nat,k≤s.size∧i = .int .i64 k∧Hid (∀j,j<k→oC j ((sb s).getD j 0)=true)∧w=wr)
  (fun i _=>s.size - (intOf i).toNat)
 case atStart=>exact⟨0,by omega,rfl,ae (fun j hj=>absurd hj (by omega)),rfl⟩
 case round =>
  obtain⟨k,hk,rfl,HG,rfl⟩:=hrel;by_cases hlt:k<s.size
  · have hki:(k:Int)<(s.size:Int):=by omega
    obtain⟨a,ha⟩:∃a:Int,(s[k].toNat:Int)=a:=⟨_,rfl⟩;have ha1:0≤a∧a≤255:=by have:=s[k].toNat_lt;omega
    have hga:(sb s).getD k 0=a:=by rw[uT s k hlt,ha]
    have Ah:=ae hga;clear hga;by_cases hl:isLet a=true
    · go_wp2_with (first
       | (go_at_call 89;((with_reducible refine(qb _ ?_ ?_ _).mono ?_);(try omega);(try omega);rintro e w' ⟨rfl,rfl⟩)))
      go_roundw
      case rel =>
       refine⟨k+1,by omega,by go_num,ae ?_,by trivial⟩;intro j hj;by_cases h1:j<k
       · exact HG.o j h1
       · rw[show j=k from by omega,Ah.o];unfold oC;rw[hl,Bool.true_or]
      case measure=>simp[intOf];omega
    · have hl':isLet a=false:=by simpa using hl
      clear hl;by_cases hn:isNum a=true
      · by_cases hk0:0<k
        · have hk1:(0:Int)<(k:Int):=by omega
          go_wp2_with (first
           | (go_at_call 89;((with_reducible refine(qb _ ?_ ?_ _).mono ?_);(try omega);(try omega);rintro e w' ⟨rfl,rfl⟩))
           | (go_at_call 81;((with_reducible refine(jG _ ?_ ?_ _).mono ?_);(try omega);(try omega);rintro e w' ⟨rfl,rfl⟩)))
          go_roundw
          case rel =>
           refine⟨k+1,by omega,by go_num,ae ?_,by trivial⟩;intro j hj;by_cases h1:j<k
           · exact HG.o j h1
           · rw[show j=k from by omega,Ah.o];unfold oC;rw[hl',hn,aR hk0];rfl
          case measure=>simp[intOf];omega
        · have hk1:¬ (0:Int)<(k:Int):=by omega
          have hno:=H8 s k hlt (by rw[Ah.o];unfold oC;rw[hl',aV hk0];rfl);have dR:=ae hno;clear hno
          go_wp2_with (first
           | (go_at_call 89;((with_reducible refine(qb _ ?_ ?_ _).mono ?_);(try omega);(try omega);rintro e w' ⟨rfl,rfl⟩)))
          go_ret;exact⟨gu dR.o.symm,rfl⟩
      · have hn':isNum a=false:=by simpa using hn
        clear hn;have hno:=H8 s k hlt (by rw[Ah.o];unfold oC;rw[hl',hn',Bool.and_false];rfl);have dR:=ae hno;clear hno
        go_wp2_with (first
         | (go_at_call 89;((with_reducible refine(qb _ ?_ ?_ _).mono ?_);(try omega);(try omega);rintro e w' ⟨rfl,rfl⟩))
         | (go_at_call 81;((with_reducible refine(jG _ ?_ ?_ _).mono ?_);(try omega);(try omega);rintro e w' ⟨rfl,rfl⟩)))
        all_goals go_ret
        all_goals exact⟨gu dR.o.symm,rfl⟩
  · have hki:¬ (k:Int)<(s.size:Int):=by omega
    have hno:=Ul s (fun j hj=>HG.o j (by omega));have dR:=ae hno;clear hno
    go_wp2
    all_goals go_ret
    all_goals exact⟨gu (by rw[dR.o];first|(symm;rw[aQ];omega)|(symm;rw[jv];omega)|(rw[decide_eq_decide];omega)),rfl⟩
theorem agR (s:ByteArray)(w:World)(_hs:s.size≤1000000) :
 Calls Tryz.prog 80 #[.string s] w fun e w'=>e = .returned (.tuple #[.int .i64 (l8 (sb s)),.bool (jC (sb s))])∧∃n,w'=w.drewN n:=by
 by_cases hl:1≤s.size∧s.size≤2
 · by_cases h1:s.size=1
   · have hp0:0<s.size:=by omega
     obtain⟨a,ha⟩:∃a:Int,(s[0].toNat:Int)=a:=⟨_,rfl⟩;have ha1:0≤a∧a≤255:=by have:=s[0].toNat_lt;omega
     have hg0:(sb s).getD 0 0=a:=by rw[uT s 0 hp0,ha]
     have hic:jC (sb s)=aU a:=by unfold jC;rw[bC,h1,hg0,Bool.and_self];rfl
     have hrc:l8 (sb s)=if aU a=true then a - 65 else 0:=by unfold l8;rw[hic,bC,h1,hg0];rfl
     have yV:=ae hic;clear hic;have wO:=ae hrc;clear hrc;have hz1:(s.size:Int)=1:=by omega
     clear hl hg0;by_cases hc:aU a=true
     · have hr:65≤a∧a≤90:=by unfold aU at hc;rw[aQ]at hc;exact hc
       go_enter Tryz.func80,Tryz.ntmps80
       go_wp2_with (first
        | (go_at_call 79;((with_reducible refine(wC _ ?_ ?_ _).mono ?_);(try omega);(try omega);rintro e w' ⟨rfl,rfl⟩)))
       all_goals go_ret2
       all_goals exact⟨by rw[yV.o,wO.o,hc];rfl,0,rfl⟩
     · have hc':aU a=false:=by simpa using hc
       clear hc;go_enter Tryz.func80,Tryz.ntmps80
       go_wp2_with (first
        | (go_at_call 79;((with_reducible refine(wC _ ?_ ?_ _).mono ?_);(try omega);(try omega);rintro e w' ⟨rfl,rfl⟩)))
       all_goals go_ret2
       all_goals exact⟨by rw[yV.o,wO.o,hc'];rfl,0,rfl⟩
   · have h2:s.size=2:=by omega
     have hp0:0<s.size:=by omega
     have hp1:1<s.size:=by omega
     obtain⟨a,ha⟩:∃a:Int,(s[0].toNat:Int)=a:=⟨_,rfl⟩;obtain⟨b,hb⟩:∃b:Int,(s[1].toNat:Int)=b:=⟨_,rfl⟩;have ha1:0≤a∧a≤255:=by have:=s[0].toNat_lt;omega
     have hb1:0≤b∧b≤255:=by have:=s[1].toNat_lt;omega
     have hg0:(sb s).getD 0 0=a:=by rw[uT s 0 hp0,ha]
     have hg1:(sb s).getD 1 0=b:=by rw[uT s 1 hp1,hb]
     have hic:jC (sb s)=(aU a&&aU b):=by unfold jC;rw[bC,h2,hg0,hg1];rfl
     have hrc:l8 (sb s)=if (aU a&&aU b)=true then 26*(a - 64)+(b - 65)else 0:=by unfold l8;rw[hic,bC,h2,hg0,hg1];rfl
     have yV:=ae hic;clear hic;have wO:=ae hrc;clear hrc;have hz1:(s.size:Int)=2:=by omega
     clear hl hg0 hg1 h1;by_cases hc:aU a=true
     · have hr:65≤a∧a≤90:=by unfold aU at hc;rw[aQ]at hc;exact hc
       by_cases hd:aU b=true
       · have hr2:65≤b∧b≤90:=by unfold aU at hd;rw[aQ]at hd;exact hd
         go_enter Tryz.func80,Tryz.ntmps80
         go_wp2_with (first
          | (go_at_call 79;((with_reducible refine(wC _ ?_ ?_ _).mono ?_);(try omega);(try omega);rintro e w' ⟨rfl,rfl⟩)))
         go_quiet (fail)
         go_wp2_with fail
         all_goals go_ret2
         all_goals exact⟨aha (by rw[wO.o,hc,hd];simp only[Bool.and_self,if_true];omega) (by rw[yV.o,hc,hd];rfl),_,rfl⟩
       · have hd':aU b=false:=by simpa using hd
         clear hd;go_enter Tryz.func80,Tryz.ntmps80
         go_wp2_with (first
          | (go_at_call 79;((with_reducible refine(wC _ ?_ ?_ _).mono ?_);(try omega);(try omega);rintro e w' ⟨rfl,rfl⟩)))
         all_goals go_ret2
         all_goals exact⟨by rw[yV.o,wO.o,hc,hd'];rfl,0,rfl⟩
     · have hc':aU a=false:=by simpa using hc
       clear hc;go_enter Tryz.func80,Tryz.ntmps80
       go_wp2_with (first
        | (go_at_call 79;((with_reducible refine(wC _ ?_ ?_ _).mono ?_);(try omega);(try omega);rintro e w' ⟨rfl,rfl⟩)))
       all_goals go_ret2
       all_goals exact⟨by rw[yV.o,wO.o,hc'];rfl,0,rfl⟩
 · have hno:jC (sb s)=false:=by unfold jC;rw[bC,aV hl,Bool.false_and]
   have hn2:l8 (sb s)=0:=by unfold l8;rw[hno];rfl
   have dR:=ae hno;clear hno;have bV:=ae hn2;clear hn2;go_enter Tryz.func80,Tryz.ntmps80
   go_wp2
   all_goals first|omega|skip
   all_goals go_ret2
   all_goals exact⟨by rw[dR.o,bV.o];rfl,0,rfl⟩
theorem ND (w:World)(t:TypeId)(x:Int):(convert 22 9 (.slice (some ⟨w.heap.size,0,none⟩) 1 1)).run Tryz.prog (w.alloc (.cells #[.int .u8 x] t)) = .ok (.string (strOfNums [x])) (w.alloc (.cells #[.int .u8 x] t)):=by
 refine run_convert_bytes_arg _ _ 5 Tryz.underlying22 Tryz.underlying5 _ 0 _ 1 [x] rfl (fun i hi => ?_) _ Tryz.underlying9;rw[Nat.zero_add];have:i=0:=by simp at hi;exact hi
 subst this;exact gD (w:=w) _ _ [.int .u8 x] rfl 0 _ rfl
theorem ahE (w:World)(t:TypeId)(x y:Int):(convert 22 9 (.slice (some ⟨w.heap.size,0,none⟩) 2 2)).run Tryz.prog (w.alloc (.cells #[.int .u8 x,.int .u8 y] t)) = .ok (.string (strOfNums [x,y])) (w.alloc (.cells #[.int .u8 x,.int .u8 y] t)):=by
 refine run_convert_bytes_arg _ _ 5 Tryz.underlying22 Tryz.underlying5 _ 0 _ 2 [x,y] rfl (fun i hi => ?_) _ Tryz.underlying9;rw[Nat.zero_add];have h:i=0∨i=1:=by simp at hi;omega
 rcases h with rfl|rfl
 · exact gD (w:=w) _ _ [.int .u8 x,.int .u8 y] rfl 0 _ rfl
 · exact gD (w:=w) _ _ [.int .u8 x,.int .u8 y] rfl 1 _ rfl
theorem xw (n:Nat)(_h1:n≤9223372036854775807)(w:World) :
 Calls Tryz.prog 15 #[.int .i64 n] w fun e w'=>e = .returned (.string (strOfNums (bn n)))∧Below w.heap.size w w':=by
 have hn0:¬ (n:Int)<0:=by omega
 go_enter Tryz.func15,Tryz.ntmps15
 go_wp2
 go_loopw [3,4] (fun u v wr=>∃(m:Nat)(t:List Int),m≤9223372036854775807∧u = .int .u64 m∧v = .string (strOfNums t)∧Hid (bn m++t=bn n∧2*t.length+m≤n)∧Below w.heap.size w wr)
  (fun u _ _=>(intOf u).toNat)
 case atStart=>exact⟨n,[],by omega,by go_num,rfl,ae ⟨by rw[gL],by simp⟩,ak _ _⟩
 case round =>
  obtain⟨m,t,hm,rfl,rfl,HT,hbl⟩:=hrel;have HB:=ae hbl;clear hbl;have hcv:=fun (w:World)=>ND w 5 (48+(m:Int) % 10)
  have aky:=fun (w:World)=>ND w 5 (48+(m:Int))
  have hsz:(strOfNums [48+(m:Int) % 10]).size+(strOfNums t).size≤9223372036854775807:=by rw[strOfNums_size,strOfNums_size];have:=HT.o.2;simp only[bf,dX];by_cases h:t.length=0 <;> by_cases h2:m=0 <;> omega
  have akT:(strOfNums [48+(m:Int)]).size+(strOfNums t).size≤9223372036854775807:=by rw[strOfNums_size,strOfNums_size];have:=HT.o.2;simp only[bf,dX];by_cases h:t.length=0 <;> by_cases h2:m=0 <;> omega
  by_cases hlt:10≤m
  · have hki:(10:Int)≤(m:Int):=by omega
    have hd:=uC m (by omega);have HD:=ae hd;clear hd
    go_wp2
    go_roundw
    case rel =>
     refine⟨m / 10,(48+(m:Int) % 10) :: t,by omega,by go_num,ajL (nz _ _),ae ⟨?_, ?_⟩,HB.o.alloc HB.o.size _⟩
     · rw[← HT.o.1,HD.o,bQ,show((m % 10:Nat):Int)=(m:Int) % 10 from by omega];rfl
     · have:=HT.o.2;simp only[bf];omega
    case measure=>simp[intOf];omega
  · have hki:¬ (10:Int)≤(m:Int):=by omega
    have hd:=pR m (by omega);have HD:=ae hd;clear hd
    go_wp2
    go_ret;exact⟨nu (by rw[nz, ← HT.o.1,HD.o]),HB.o.alloc HB.o.size _⟩
theorem zP (n:Int)(_h0 : -9223372036854775808≤n)(_h1:n≤9223372036854775807)(w:World) :
 Calls Tryz.prog 58 #[.int .i64 n] w fun e w'=>e = .returned (.string (strOfNums (bG n)))∧Below w.heap.size w w':=by
 by_cases hr:n<0∨701<n
 · have hc:bG n=[]:=by unfold bG;rw[ag hr]
   have HC:=ae hc;clear hc;go_enter Tryz.func58,Tryz.ntmps58
   go_wp2
   all_goals first|omega|skip
   all_goals go_ret
   all_goals exact⟨by rw[HC.o];rfl,ak _ _⟩
 · have h0:¬ n<0:=by omega
   have h2:¬ 701<n:=by omega
   have h0':0≤n:=by omega
   by_cases h26:n<26
   · have hc:bG n=[65+n]:=by unfold bG;rw[af hr,ag h26]
     have HC:=ae hc;clear hc hr;have hcv:=fun (w:World)=>ND w 5 (65+n)
     go_enter Tryz.func58,Tryz.ntmps58
     go_wp2
     all_goals go_ret
     all_goals exact⟨by rw[HC.o];rfl,(ak _ _).alloc (aj _) _⟩
   · have hc:bG n=[65+n / 26 - 1,65+n % 26]:=by unfold bG;rw[af hr,af h26];congr 1;omega
     have HC:=ae hc;clear hc hr;have hcv:=fun (w:World)=>ahE w 5 (65+n / 26 - 1) (65+n % 26)
     go_enter Tryz.func58,Tryz.ntmps58
     go_wp2
     all_goals go_ret
     all_goals exact⟨by rw[HC.o];rfl,(ak _ _).alloc (aj _) _⟩
theorem oI (s:ByteArray)(c r:Int)(ac ar:Bool)(w:World)(_hs:s.size≤1000000) :
 Calls Tryz.prog 42 #[.agg #[.string s,.int .i64 c,.int .i64 r,.bool ac,.bool ar]] w fun e w'=>e = .returned (.bool (dO (sb s) c r))∧Below w.heap.size w w':=by
 by_cases h0:s.size=0
 · have:=wD s h0
   subst this;have hm:dO (sb ⟨#[]⟩) c r=decide (0≤c∧c≤701∧0≤r∧r≤998):=by unfold dO;rw[show decide (sb ⟨#[]⟩=[])=true from by decide,Bool.true_or,gV]
   have HM:=ae hm;clear hm;go_enter Tryz.func42,Tryz.ntmps42
   go_wp2
   all_goals go_ret
   all_goals exact⟨gu (by rw[HM.o];first|(symm;rw[aQ];omega)|(symm;rw[jv];omega)|(rw[decide_eq_decide];omega)),(ak _ _).alloc (aj _) _⟩
 · have hne:=qg s h0
   have hm:dO (sb s) c r=(iI (sb s)&&decide (0≤c∧c≤701∧0≤r∧r≤998)):=by
    unfold dO;rw[aV (by intro h;have:=bC s;rw[h]at this;exact h0 this.symm),Bool.false_or]
   have HM:=ae hm;clear hm h0;by_cases hn:iI (sb s)=true
   · go_enter Tryz.func42,Tryz.ntmps42
     go_wp2_with (first
      | (go_at_call 65;((with_reducible refine(Vh _ _ ?_).mono ?_);(try omega);rintro e w' ⟨rfl,rfl⟩)))
     all_goals go_ret
     all_goals exact⟨gu (by rw[HM.o,hn,gV];first|(symm;rw[aQ];omega)|(symm;rw[jv];omega)|(rw[decide_eq_decide];omega)),(ak _ _).alloc (aj _) _⟩
   · have hn':iI (sb s)=false:=by simpa using hn
     clear hn;go_enter Tryz.func42,Tryz.ntmps42
     go_wp2_with (first
      | (go_at_call 65;((with_reducible refine(Vh _ _ ?_).mono ?_);(try omega);rintro e w' ⟨rfl,rfl⟩)))
     all_goals go_ret
     all_goals exact⟨gu (by rw[HM.o,hn',Bool.false_and]),(ak _ _).alloc (aj _) _⟩
theorem ajb (s:ByteArray)(c r:Int)(k:Nat)(w:World)(_hs:s.size≤1000000)(h0:s.size=0)(hm:dO (sb s) c r=true)(hc0:0≤c)(hc1:c≤701)(hr0:0≤r)(hr1:r≤998)(hk:r+1=(k:Int))(hz1:(strOfNums (bG c)).size≤2)(hz2:(strOfNums (bn k)).size≤1000) :
 Calls Tryz.prog 31 #[.agg #[.string s,.int .i64 c,.int .i64 r,.bool false,.bool false]] w fun e w'=>e = .returned (.string (strOfNums (bE (sb s) c r false false)))∧Below w.heap.size w w':=by
       have hk2:(r+1).toNat=k:=by omega
       have he:sb s=[]:=kM (by rw[bC];exact h0);have ht:([]++bG c)++bn k=bE (sb s) c r false false:=by unfold bE;rw[ag hm,hk2,ag he];simp
       have HT:=ae ht;clear ht hk2 he;have:=wD s h0;subst this;clear h0;have hR0:=dz.new w ⟨#[]⟩ c r false false;have iB:=ae hR0;clear hR0;go_enter Tryz.func31,Tryz.ntmps31
       go_wp2_with (first
        | (go_at_call 42;((with_reducible refine(oI _ _ _ _ _ _ ?_).mono ?_);(try omega);rintro e w1 ⟨rfl,h1⟩;have ji:=iB.o.below h1 iB.o.lt;obtain⟨x0,x1,x2,x3,x4⟩:=ji.facts;have HR1:=ae ji;clear ji;have H1:=ae h1;clear h1))
        | (go_at_call 58;((with_reducible refine(zP _ ?_ ?_ _).mono ?_);(try omega);(try omega);rintro e w2 ⟨rfl,h2⟩;have hR2:=HR1.o.below h2 HR1.o.lt;clear x0 x1 x2 x3 x4;obtain⟨x0,x1,x2,x3,x4⟩:=hR2.facts;have HR2:=ae hR2;clear hR2;have H2:=ae h2;clear h2))
        | (go_at_call 15;((with_reducible refine(xw _ ?_ _).mono ?_);(try omega);rintro e w3 ⟨rfl,h3⟩;clear x0 x1 x2 x3 x4;have H3:=ae h3;clear h3)))
       go_ret;exact⟨nu ((jV (jV I9 (Eq.refl (strOfNums (bG c)))) (Eq.refl (strOfNums (bn k)))).trans (congrArg strOfNums HT.o)),yh ((ak _ _).alloc (aj _) _) H1.o H2.o H3.o⟩
theorem aja (s:ByteArray)(c r:Int)(k:Nat)(w:World)(_hs:s.size≤1000000)(h0:s.size=0)(hm:dO (sb s) c r=true)(hc0:0≤c)(hc1:c≤701)(hr0:0≤r)(hr1:r≤998)(hk:r+1=(k:Int))(hz1:(strOfNums (bG c)).size≤2)(hz2:(strOfNums (bn k)).size≤1000) :
 Calls Tryz.prog 31 #[.agg #[.string s,.int .i64 c,.int .i64 r,.bool false,.bool true]] w fun e w'=>e = .returned (.string (strOfNums (bE (sb s) c r false true)))∧Below w.heap.size w w':=by
       have hk2:(r+1).toNat=k:=by omega
       have he:sb s=[]:=kM (by rw[bC];exact h0);have ht:(([]++bG c)++[36])++bn k=bE (sb s) c r false true:=by unfold bE;rw[ag hm,hk2,ag he];simp
       have HT:=ae ht;clear ht hk2 he;have:=wD s h0;subst this;clear h0;have hR0:=dz.new w ⟨#[]⟩ c r false true;have iB:=ae hR0;clear hR0;go_enter Tryz.func31,Tryz.ntmps31
       go_wp2_with (first
        | (go_at_call 42;((with_reducible refine(oI _ _ _ _ _ _ ?_).mono ?_);(try omega);rintro e w1 ⟨rfl,h1⟩;have ji:=iB.o.below h1 iB.o.lt;obtain⟨x0,x1,x2,x3,x4⟩:=ji.facts;have HR1:=ae ji;clear ji;have H1:=ae h1;clear h1))
        | (go_at_call 58;((with_reducible refine(zP _ ?_ ?_ _).mono ?_);(try omega);(try omega);rintro e w2 ⟨rfl,h2⟩;have hR2:=HR1.o.below h2 HR1.o.lt;clear x0 x1 x2 x3 x4;obtain⟨x0,x1,x2,x3,x4⟩:=hR2.facts;have HR2:=ae hR2;clear hR2;have H2:=ae h2;clear h2))
        | (go_at_call 15;((with_reducible refine(xw _ ?_ _).mono ?_);(try omega);rintro e w3 ⟨rfl,h3⟩;clear x0 x1 x2 x3 x4;have H3:=ae h3;clear h3)))
       go_ret;exact⟨nu ((jV (jV (jV I9 (Eq.refl (strOfNums (bG c)))) zW) (Eq.refl (strOfNums (bn k)))).trans (congrArg strOfNums HT.o)),yh ((ak _ _).alloc (aj _) _) H1.o H2.o H3.o⟩
theorem ai' (s:ByteArray)(c r:Int)(k:Nat)(w:World)(_hs:s.size≤1000000)(h0:s.size=0)(hm:dO (sb s) c r=true)(hc0:0≤c)(hc1:c≤701)(hr0:0≤r)(hr1:r≤998)(hk:r+1=(k:Int))(hz1:(strOfNums (bG c)).size≤2)(hz2:(strOfNums (bn k)).size≤1000) :
 Calls Tryz.prog 31 #[.agg #[.string s,.int .i64 c,.int .i64 r,.bool true,.bool false]] w fun e w'=>e = .returned (.string (strOfNums (bE (sb s) c r true false)))∧Below w.heap.size w w':=by
       have hk2:(r+1).toNat=k:=by omega
       have he:sb s=[]:=kM (by rw[bC];exact h0);have ht:(([]++[36])++bG c)++bn k=bE (sb s) c r true false:=by unfold bE;rw[ag hm,hk2,ag he];simp
       have HT:=ae ht;clear ht hk2 he;have:=wD s h0;subst this;clear h0;have hR0:=dz.new w ⟨#[]⟩ c r true false;have iB:=ae hR0;clear hR0;go_enter Tryz.func31,Tryz.ntmps31
       go_wp2_with (first
        | (go_at_call 42;((with_reducible refine(oI _ _ _ _ _ _ ?_).mono ?_);(try omega);rintro e w1 ⟨rfl,h1⟩;have ji:=iB.o.below h1 iB.o.lt;obtain⟨x0,x1,x2,x3,x4⟩:=ji.facts;have HR1:=ae ji;clear ji;have H1:=ae h1;clear h1))
        | (go_at_call 58;((with_reducible refine(zP _ ?_ ?_ _).mono ?_);(try omega);(try omega);rintro e w2 ⟨rfl,h2⟩;have hR2:=HR1.o.below h2 HR1.o.lt;clear x0 x1 x2 x3 x4;obtain⟨x0,x1,x2,x3,x4⟩:=hR2.facts;have HR2:=ae hR2;clear hR2;have H2:=ae h2;clear h2))
        | (go_at_call 15;((with_reducible refine(xw _ ?_ _).mono ?_);(try omega);rintro e w3 ⟨rfl,h3⟩;clear x0 x1 x2 x3 x4;have H3:=ae h3;clear h3)))
       go_ret;exact⟨nu ((jV (jV (jV I9 zW) (Eq.refl (strOfNums (bG c)))) (Eq.refl (strOfNums (bn k)))).trans (congrArg strOfNums HT.o)),yh ((ak _ _).alloc (aj _) _) H1.o H2.o H3.o⟩
theorem ai9 (s:ByteArray)(c r:Int)(k:Nat)(w:World)(_hs:s.size≤1000000)(h0:s.size=0)(hm:dO (sb s) c r=true)(hc0:0≤c)(hc1:c≤701)(hr0:0≤r)(hr1:r≤998)(hk:r+1=(k:Int))(hz1:(strOfNums (bG c)).size≤2)(hz2:(strOfNums (bn k)).size≤1000) :
 Calls Tryz.prog 31 #[.agg #[.string s,.int .i64 c,.int .i64 r,.bool true,.bool true]] w fun e w'=>e = .returned (.string (strOfNums (bE (sb s) c r true true)))∧Below w.heap.size w w':=by
       have hk2:(r+1).toNat=k:=by omega
       have he:sb s=[]:=kM (by rw[bC];exact h0);have ht:((([]++[36])++bG c)++[36])++bn k=bE (sb s) c r true true:=by unfold bE;rw[ag hm,hk2,ag he];simp
       have HT:=ae ht;clear ht hk2 he;have:=wD s h0;subst this;clear h0;have hR0:=dz.new w ⟨#[]⟩ c r true true;have iB:=ae hR0;clear hR0;go_enter Tryz.func31,Tryz.ntmps31
       go_wp2_with (first
        | (go_at_call 42;((with_reducible refine(oI _ _ _ _ _ _ ?_).mono ?_);(try omega);rintro e w1 ⟨rfl,h1⟩;have ji:=iB.o.below h1 iB.o.lt;obtain⟨x0,x1,x2,x3,x4⟩:=ji.facts;have HR1:=ae ji;clear ji;have H1:=ae h1;clear h1))
        | (go_at_call 58;((with_reducible refine(zP _ ?_ ?_ _).mono ?_);(try omega);(try omega);rintro e w2 ⟨rfl,h2⟩;have hR2:=HR1.o.below h2 HR1.o.lt;clear x0 x1 x2 x3 x4;obtain⟨x0,x1,x2,x3,x4⟩:=hR2.facts;have HR2:=ae hR2;clear hR2;have H2:=ae h2;clear h2))
        | (go_at_call 15;((with_reducible refine(xw _ ?_ _).mono ?_);(try omega);rintro e w3 ⟨rfl,h3⟩;clear x0 x1 x2 x3 x4;have H3:=ae h3;clear h3)))
       go_ret;exact⟨nu ((jV (jV (jV (jV I9 zW) (Eq.refl (strOfNums (bG c)))) zW) (Eq.refl (strOfNums (bn k)))).trans (congrArg strOfNums HT.o)),yh ((ak _ _).alloc (aj _) _) H1.o H2.o H3.o⟩
theorem aji (s:ByteArray)(c r:Int)(k:Nat)(w:World)(_hs:s.size≤1000000)(h0:¬ s.size=0)(hm:dO (sb s) c r=true)(hc0:0≤c)(hc1:c≤701)(hr0:0≤r)(hr1:r≤998)(hk:r+1=(k:Int))(hz1:(strOfNums (bG c)).size≤2)(hz2:(strOfNums (bn k)).size≤1000) :
 Calls Tryz.prog 31 #[.agg #[.string s,.int .i64 c,.int .i64 r,.bool false,.bool false]] w fun e w'=>e = .returned (.string (strOfNums (bE (sb s) c r false false)))∧Below w.heap.size w w':=by
       have hk2:(r+1).toNat=k:=by omega
       have he:¬ sb s=[]:=by intro h;have:=bC s;rw[h]at this;exact h0 this.symm
       have ht:((sb s++[33])++bG c)++bn k=bE (sb s) c r false false:=by unfold bE;rw[ag hm,hk2,af he];simp
       have HT:=ae ht;clear ht hk2 he;have hne:s.toList.isEmpty=false:=by cases hq:s.toList with|nil=>exact absurd hq (qg s h0)|cons a l=>rfl
       clear h0;have hR0:=dz.new w s c r false false;have iB:=ae hR0;clear hR0;go_enter Tryz.func31,Tryz.ntmps31
       go_wp2_with (first
        | (go_at_call 42;((with_reducible refine(oI _ _ _ _ _ _ ?_).mono ?_);(try omega);rintro e w1 ⟨rfl,h1⟩;have ji:=iB.o.below h1 iB.o.lt;obtain⟨x0,x1,x2,x3,x4⟩:=ji.facts;have HR1:=ae ji;clear ji;have H1:=ae h1;clear h1))
        | (go_at_call 58;((with_reducible refine(zP _ ?_ ?_ _).mono ?_);(try omega);(try omega);rintro e w2 ⟨rfl,h2⟩;have hR2:=HR1.o.below h2 HR1.o.lt;clear x0 x1 x2 x3 x4;obtain⟨x0,x1,x2,x3,x4⟩:=hR2.facts;have HR2:=ae hR2;clear hR2;have H2:=ae h2;clear h2))
        | (go_at_call 15;((with_reducible refine(xw _ ?_ _).mono ?_);(try omega);rintro e w3 ⟨rfl,h3⟩;clear x0 x1 x2 x3 x4;have H3:=ae h3;clear h3)))
       go_ret;exact⟨nu ((jV (jV (jV (nA s).symm I8) (Eq.refl (strOfNums (bG c)))) (Eq.refl (strOfNums (bn k)))).trans (congrArg strOfNums HT.o)),yh ((ak _ _).alloc (aj _) _) H1.o H2.o H3.o⟩
theorem ajh (s:ByteArray)(c r:Int)(k:Nat)(w:World)(_hs:s.size≤1000000)(h0:¬ s.size=0)(hm:dO (sb s) c r=true)(hc0:0≤c)(hc1:c≤701)(hr0:0≤r)(hr1:r≤998)(hk:r+1=(k:Int))(hz1:(strOfNums (bG c)).size≤2)(hz2:(strOfNums (bn k)).size≤1000) :
 Calls Tryz.prog 31 #[.agg #[.string s,.int .i64 c,.int .i64 r,.bool false,.bool true]] w fun e w'=>e = .returned (.string (strOfNums (bE (sb s) c r false true)))∧Below w.heap.size w w':=by
       have hk2:(r+1).toNat=k:=by omega
       have he:¬ sb s=[]:=by intro h;have:=bC s;rw[h]at this;exact h0 this.symm
       have ht:(((sb s++[33])++bG c)++[36])++bn k=bE (sb s) c r false true:=by unfold bE;rw[ag hm,hk2,af he];simp
       have HT:=ae ht;clear ht hk2 he;have hne:s.toList.isEmpty=false:=by cases hq:s.toList with|nil=>exact absurd hq (qg s h0)|cons a l=>rfl
       clear h0;have hR0:=dz.new w s c r false true;have iB:=ae hR0;clear hR0;go_enter Tryz.func31,Tryz.ntmps31
       go_wp2_with (first
        | (go_at_call 42;((with_reducible refine(oI _ _ _ _ _ _ ?_).mono ?_);(try omega);rintro e w1 ⟨rfl,h1⟩;have ji:=iB.o.below h1 iB.o.lt;obtain⟨x0,x1,x2,x3,x4⟩:=ji.facts;have HR1:=ae ji;clear ji;have H1:=ae h1;clear h1))
        | (go_at_call 58;((with_reducible refine(zP _ ?_ ?_ _).mono ?_);(try omega);(try omega);rintro e w2 ⟨rfl,h2⟩;have hR2:=HR1.o.below h2 HR1.o.lt;clear x0 x1 x2 x3 x4;obtain⟨x0,x1,x2,x3,x4⟩:=hR2.facts;have HR2:=ae hR2;clear hR2;have H2:=ae h2;clear h2))
        | (go_at_call 15;((with_reducible refine(xw _ ?_ _).mono ?_);(try omega);rintro e w3 ⟨rfl,h3⟩;clear x0 x1 x2 x3 x4;have H3:=ae h3;clear h3)))
       go_ret;exact⟨nu ((jV (jV (jV (jV (nA s).symm I8) (Eq.refl (strOfNums (bG c)))) zW) (Eq.refl (strOfNums (bn k)))).trans (congrArg strOfNums HT.o)),yh ((ak _ _).alloc (aj _) _) H1.o H2.o H3.o⟩
theorem ajg (s:ByteArray)(c r:Int)(k:Nat)(w:World)(_hs:s.size≤1000000)(h0:¬ s.size=0)(hm:dO (sb s) c r=true)(hc0:0≤c)(hc1:c≤701)(hr0:0≤r)(hr1:r≤998)(hk:r+1=(k:Int))(hz1:(strOfNums (bG c)).size≤2)(hz2:(strOfNums (bn k)).size≤1000) :
 Calls Tryz.prog 31 #[.agg #[.string s,.int .i64 c,.int .i64 r,.bool true,.bool false]] w fun e w'=>e = .returned (.string (strOfNums (bE (sb s) c r true false)))∧Below w.heap.size w w':=by
       have hk2:(r+1).toNat=k:=by omega
       have he:¬ sb s=[]:=by intro h;have:=bC s;rw[h]at this;exact h0 this.symm
       have ht:(((sb s++[33])++[36])++bG c)++bn k=bE (sb s) c r true false:=by unfold bE;rw[ag hm,hk2,af he];simp
       have HT:=ae ht;clear ht hk2 he;have hne:s.toList.isEmpty=false:=by cases hq:s.toList with|nil=>exact absurd hq (qg s h0)|cons a l=>rfl
       clear h0;have hR0:=dz.new w s c r true false;have iB:=ae hR0;clear hR0;go_enter Tryz.func31,Tryz.ntmps31
       go_wp2_with (first
        | (go_at_call 42;((with_reducible refine(oI _ _ _ _ _ _ ?_).mono ?_);(try omega);rintro e w1 ⟨rfl,h1⟩;have ji:=iB.o.below h1 iB.o.lt;obtain⟨x0,x1,x2,x3,x4⟩:=ji.facts;have HR1:=ae ji;clear ji;have H1:=ae h1;clear h1))
        | (go_at_call 58;((with_reducible refine(zP _ ?_ ?_ _).mono ?_);(try omega);(try omega);rintro e w2 ⟨rfl,h2⟩;have hR2:=HR1.o.below h2 HR1.o.lt;clear x0 x1 x2 x3 x4;obtain⟨x0,x1,x2,x3,x4⟩:=hR2.facts;have HR2:=ae hR2;clear hR2;have H2:=ae h2;clear h2))
        | (go_at_call 15;((with_reducible refine(xw _ ?_ _).mono ?_);(try omega);rintro e w3 ⟨rfl,h3⟩;clear x0 x1 x2 x3 x4;have H3:=ae h3;clear h3)))
       go_ret;exact⟨nu ((jV (jV (jV (jV (nA s).symm I8) zW) (Eq.refl (strOfNums (bG c)))) (Eq.refl (strOfNums (bn k)))).trans (congrArg strOfNums HT.o)),yh ((ak _ _).alloc (aj _) _) H1.o H2.o H3.o⟩
theorem ajf (s:ByteArray)(c r:Int)(k:Nat)(w:World)(_hs:s.size≤1000000)(h0:¬ s.size=0)(hm:dO (sb s) c r=true)(hc0:0≤c)(hc1:c≤701)(hr0:0≤r)(hr1:r≤998)(hk:r+1=(k:Int))(hz1:(strOfNums (bG c)).size≤2)(hz2:(strOfNums (bn k)).size≤1000) :
 Calls Tryz.prog 31 #[.agg #[.string s,.int .i64 c,.int .i64 r,.bool true,.bool true]] w fun e w'=>e = .returned (.string (strOfNums (bE (sb s) c r true true)))∧Below w.heap.size w w':=by
       have hk2:(r+1).toNat=k:=by omega
       have he:¬ sb s=[]:=by intro h;have:=bC s;rw[h]at this;exact h0 this.symm
       have ht:((((sb s++[33])++[36])++bG c)++[36])++bn k=bE (sb s) c r true true:=by unfold bE;rw[ag hm,hk2,af he];simp
       have HT:=ae ht;clear ht hk2 he;have hne:s.toList.isEmpty=false:=by cases hq:s.toList with|nil=>exact absurd hq (qg s h0)|cons a l=>rfl
       clear h0;have hR0:=dz.new w s c r true true;have iB:=ae hR0;clear hR0;go_enter Tryz.func31,Tryz.ntmps31
       go_wp2_with (first
        | (go_at_call 42;((with_reducible refine(oI _ _ _ _ _ _ ?_).mono ?_);(try omega);rintro e w1 ⟨rfl,h1⟩;have ji:=iB.o.below h1 iB.o.lt;obtain⟨x0,x1,x2,x3,x4⟩:=ji.facts;have HR1:=ae ji;clear ji;have H1:=ae h1;clear h1))
        | (go_at_call 58;((with_reducible refine(zP _ ?_ ?_ _).mono ?_);(try omega);(try omega);rintro e w2 ⟨rfl,h2⟩;have hR2:=HR1.o.below h2 HR1.o.lt;clear x0 x1 x2 x3 x4;obtain⟨x0,x1,x2,x3,x4⟩:=hR2.facts;have HR2:=ae hR2;clear hR2;have H2:=ae h2;clear h2))
        | (go_at_call 15;((with_reducible refine(xw _ ?_ _).mono ?_);(try omega);rintro e w3 ⟨rfl,h3⟩;clear x0 x1 x2 x3 x4;have H3:=ae h3;clear h3)))
       go_ret;exact⟨nu ((jV (jV (jV (jV (jV (nA s).symm I8) zW) (Eq.refl (strOfNums (bG c)))) zW) (Eq.refl (strOfNums (bn k)))).trans (congrArg strOfNums HT.o)),yh ((ak _ _).alloc (aj _) _) H1.o H2.o H3.o⟩
theorem E9 (s:ByteArray)(c r:Int)(ac ar:Bool)(w:World)(_hs:s.size≤1000000) :
 Calls Tryz.prog 31 #[.agg #[.string s,.int .i64 c,.int .i64 r,.bool ac,.bool ar]] w fun e w'=>e = .returned (.string (strOfNums (bE (sb s) c r ac ar)))∧Below w.heap.size w w':=by
 by_cases hm:dO (sb s) c r=true
 · obtain ⟨hc0,hc1,hr0,hr1⟩:=MF hm
   have hl1:=Tt c;obtain⟨k,hk⟩:∃k:Nat,r+1=(k:Int):=⟨(r+1).toNat,by omega⟩;have hl2:=Mq k;have hz1:(strOfNums (bG c)).size≤2:=by rw[strOfNums_size];exact hl1
   have hz2:(strOfNums (bn k)).size≤1000:=by rw[strOfNums_size];omega
   by_cases h0:s.size=0
   · cases ac <;> cases ar
     · exact ajb s c r k w _hs h0 hm hc0 hc1 hr0 hr1 hk hz1 hz2
     · exact aja s c r k w _hs h0 hm hc0 hc1 hr0 hr1 hk hz1 hz2
     · exact ai' s c r k w _hs h0 hm hc0 hc1 hr0 hr1 hk hz1 hz2
     · exact ai9 s c r k w _hs h0 hm hc0 hc1 hr0 hr1 hk hz1 hz2
   · cases ac <;> cases ar
     · exact aji s c r k w _hs h0 hm hc0 hc1 hr0 hr1 hk hz1 hz2
     · exact ajh s c r k w _hs h0 hm hc0 hc1 hr0 hr1 hk hz1 hz2
     · exact ajg s c r k w _hs h0 hm hc0 hc1 hr0 hr1 hk hz1 hz2
     · exact ajf s c r k w _hs h0 hm hc0 hc1 hr0 hr1 hk hz1 hz2
 · have hm':dO (sb s) c r=false:=by simpa using hm
   have ht:bE (sb s) c r ac ar=[]:=by unfold bE;rw[af hm]
   have HT:=ae ht;clear ht hm;go_enter Tryz.func31,Tryz.ntmps31
   go_wp2_with (first
    | (go_at_call 42;((with_reducible refine(oI _ _ _ _ _ _ ?_).mono ?_);(try omega);rintro e w1 ⟨rfl,h1⟩;have H1:=ae h1;clear h1)))
   go_ret;exact⟨by rw[HT.o];rfl,((ak _ _).alloc (aj _) _).trans (H1.o.mono ((ak _ _).alloc (aj _) _).size)⟩
def Rd.uq(d:Rd):Rd:={ d with ac:=d.mark,k:=d.k+(fD d.mark).length }
def Rd.Em(d:Rd):Rd:={ d with c:=l8 (d.rest.takeWhile aU),k:=d.k+(d.rest.takeWhile aU).length }
def Rd.Cq(d:Rd):Rd:={ d with ar:=d.mark,k:=d.k+(fD d.mark).length }
def Rd.at4(d:Rd):Rd:=d.uq.Em.Cq
theorem adK (u:Nat)(h:u≤999):(bn u).length≤3:=by
 by_cases h1:u<10
 · rw[pR u h1];simp
 · rw[uC u h1,ax]
   by_cases h2:u / 10<10
   · rw[pR _ h2];simp
   · rw[uC _ h2,ax,pR _ (by omega)];simp
theorem acW {l:List Int}(aX:∀x∈l,isNum x=true)(h:isRow l=true):l.length≤3:=by
 obtain⟨h1,h2,h3⟩:=Tc h;obtain⟨h4,h5⟩:=KX _ _ rfl h1 aX h2;rw[← h5];exact adK _ (by omega)
theorem ZV (s:ByteArray)(d1 d:Rd)(h1:∀e,(Rd.start s).kZ=some e→e=d1)(hs:d1.s=s)(h:iA s=some d) :
 jC (d1.uq.rest.takeWhile aU)=true∧(∀x∈d1.at4.rest,isNum x=true)∧d1.at4.rest.length≤3∧d.sh=d1.at4.sh∧d.c=d1.at4.c∧d.ac=d1.at4.ac∧d.ar=d1.at4.ar∧d.r=dG d1.at4.rest - 1:=by
 unfold iA at h;simp only[Option.bind_eq_some_iff]at h;obtain⟨d5,⟨d4,⟨d3,⟨d2,⟨e1,g1,g2⟩,g3⟩,g4⟩,g5⟩,g6⟩:=h;have:=h1 e1 g1;subst this;have e2:d2=e1.uq:=by unfold Rd.zk at g2;injection g2 with g2;exact g2.symm
 subst e2;unfold Rd.col at g3;by_cases hc:jC (e1.uq.rest.takeWhile aU)=true
 · rw [ag hc]at g3
   have e3:d3=e1.uq.Em:=by injection g3 with g3;exact g3.symm
   subst e3;have e4:d4=e1.at4:=by unfold Rd.zl at g4;injection g4 with g4;exact g4.symm
   subst e4;unfold Rd.row at g5;by_cases hr:isRow (e1.at4.rest.takeWhile isNum)=true
   · rw [ag hr]at g5;injection g5 with g5;subst g5
     unfold Rd.fin at g6;by_cases hk:e1.at4.k+(e1.at4.rest.takeWhile isNum).length=e1.at4.s.size
     · rw[ag hk]at g6;injection g6 with g6;subst g6
       have hl:=rM e1.at4;have hsp:=take_split isNum e1.at4.rest;have abB:e1.at4.rest.drop (e1.at4.rest.takeWhile isNum).length=[]:=by rw[List.drop_eq_nil_iff];omega
       rw[abB,gL]at hsp;have aX:=uW isNum e1.at4.rest;have hlen:=acW aX hr;rw[hsp]at aX hlen;refine⟨hc,aX,hlen,rfl,rfl,rfl,rfl, ?_⟩;show dG (e1.at4.rest.takeWhile isNum) - 1=_;rw[hsp]
     · rw[af hk]at g6;cases g6
   · rw[af hr]at g5;cases g5
 · rw[af hc]at g3;cases g3
structure je (w wr:World)(sh:ByteArray)(c r:Int)(ac ar:Bool):Prop where
 res:dz wr w.heap.size ⟨#[]⟩ 0 0 false false
 ref:dz wr (w.heap.size+1) sh c r ac ar
 below:Below w.heap.size w wr
theorem dz.drewN(h:dz w b s c r ac ar)(n:Nat):dz (w.drewN n) b s c r ac ar:=h
theorem dz.frozen(h:dz w b s c r ac ar)(j:Nat):w.frozen? ⟨b,j,none⟩=false:=frozen_of_row w b j _ _ h
theorem dz.other (h:dz w b s c r ac ar)(a:Addr)(v:Value)(hne:b≠a.block):dz (w.setCell a v) b s c r ac ar:=by
 unfold dz;rw[heap_setCell_other w a b v hne];exact h
theorem je.drewN{wr:World}(h:je w wr sh c r ac ar)(n:Nat):je w (wr.drewN n) sh c r ac ar:=⟨h.res.drewN n,h.ref.drewN n,⟨h.below.os,h.below.tape,h.below.output,h.below.size,h.below.block⟩⟩
theorem je.next {wr w2:World}(h:je w wr sh c r ac ar)(hb:Below wr.heap.size wr w2):je w w2 sh c r ac ar :=
 ⟨h.res.below hb h.res.lt,h.ref.below hb h.ref.lt,h.below.trans (hb.mono h.below.size)⟩
theorem je.set (i:Nat){wr:World}(h:je w wr sh c r ac ar)(v:Value)(sh':ByteArray)(c' r':Int)(vJ uu:Bool)
 (hv:(#[.string sh,.int .i64 c,.int .i64 r,.bool ac,.bool ar]:Array Value).setIfInBounds i v=#[.string sh',.int .i64 c',.int .i64 r',.bool vJ,.bool uu]):je w (wr.setCell ⟨w.heap.size+1,i,none⟩ v) sh' c' r' vJ uu:=by
 refine⟨h.res.other _ _ (by show w.heap.size≠w.heap.size+1;omega), ?_,h.below.setCell (by show w.heap.size≤w.heap.size+1;omega) _⟩;have hr:=h.ref;unfold dz at hr ⊢;rw[heap_setCell_same wr (w.heap.size+1) i _ _ _ hr,hv]
end Go.Proofs.YtbplbjmmfgjdjaaGreatDoor
