import Derived.Test.YtahjnhmidjeniaaGreatDoorDC7
set_option maxRecDepth 100000
set_option maxHeartbeats 64000000
namespace Go.Proofs.YtahjnhmidjeniaaGreatDoor
open Go.RowKit
def yF:Array Value:=(List.replicate 9 (Value.string ⟨#[]⟩)++gN.map Value.string).toArray
theorem aae(rk:Nat)(h:rk≤5):wrap64 ((rk:Int)+1+1)=(rk:Int)+2:=by unfold wrap64;omega
theorem aaf(rk:Nat)(h:rk≤5):IntKind.i64.wrap ((rk:Int)+1+1)=(rk:Int)+2:=by rw[IntKind.wrap_i64];omega
theorem Yc:∀k:Nat,9≤k→k<20→yF[k]? = some (.string (gN.getD (k - 9) ⟨#[]⟩)):=by
 intro k h9 h20;have hk:k=9∨k=10∨k=11∨k=12∨k=13∨k=14∨k=15∨k=16∨k=17∨k=18∨k=19:=by omega
 rcases hk with rfl|rfl|rfl|rfl|rfl|rfl|rfl|rfl|rfl|rfl|rfl <;> rfl
def l9(w:World):Prop:=∃ty fr,w.heap[(0:Nat)]? = some (.cells yF ty fr)
theorem l9.below {w w':World}(h:l9 w)(hb:Below w.heap.size w w'):l9 w':=by
 obtain⟨ty,fr,h1⟩:=h;exact⟨ty,fr,by rw[hb.block _ (cu.1 h1).1];exact h1⟩
theorem l9.cell {w:World}(h:l9 w)(j:Nat):w.cell? ⟨(0:Nat),j,none⟩=yF[j]? := by
 obtain⟨ty,fr,h1⟩:=h;exact cell_of_row w _ j _ ty fr h1
theorem l9.lt {w:World}(h:l9 w):0<w.heap.size:=by
 obtain⟨ty,fr,h1⟩:=h;exact(cu.1 h1).1
theorem PN (w:World)(b:Nat)(nv:Value)(st:List au)(txt:List Int)(n:Nd)(A:Option Addr)(m c:Nat)(h:bg w b nv st txt)(kd:Nat)(hk:n.kind=(kd:Int))(h9:9≤kd)(h20:kd<20)(k0 k1:Int)(hk0:n.kids[0]? = some k0)(hk1:n.kids[1]? = some k1)(hsi:gF w b (.slice A m c) n.kids)(hsv:l9 w)(hgb:0<b)(hls:st.length≤2000000000) :
 Calls Tryz.prog 135 #[.pointer (some ⟨b,0,none⟩),.agg #[.int .i64 n.kind,.int .i64 n.num,.string n.text,.string n.ref.sh,.int .i64 n.ref.c,.int .i64 n.ref.r,.bool n.ref.ac,.bool n.ref.ar,.string n.ag.sh,.int .i64 n.ag.c,.int .i64 n.ag.r,.bool n.ag.ac,.bool n.ag.ar,.slice A m c]] w (jg w b nv st txt n):=by
 have hB:Below w.heap.size w (w.alloc (.cells #[.int .i64 n.kind,.int .i64 n.num,.string n.text,.string n.ref.sh,.int .i64 n.ref.c,.int .i64 n.ref.r,.bool n.ref.ac,.bool n.ref.ar,.string n.ag.sh,.int .i64 n.ag.c,.int .i64 n.ag.r,.bool n.ag.ac,.bool n.ag.ar,.slice A m c] 106)):=(ak _ _).alloc (aj _) _;have HN:aF (w.alloc (.cells #[.int .i64 n.kind,.int .i64 n.num,.string n.text,.string n.ref.sh,.int .i64 n.ref.c,.int .i64 n.ref.r,.bool n.ref.ac,.bool n.ref.ar,.string n.ag.sh,.int .i64 n.ag.c,.int .i64 n.ag.r,.bool n.ag.ac,.bool n.ag.ar,.slice A m c] 106)) w.heap.size n (.slice A m c):=aF.new w n _;have hbw:b<w.heap.size:=by obtain⟨wv,h1, -⟩:=h;exact h1.lt
 obtain⟨sg,hsg⟩:∃sg,gN.getD (kd - 9) ⟨#[]⟩=sg:=⟨_,rfl⟩;obtain⟨rk,nZ⟩:∃rk:Nat,bq n.kind=rk:=⟨_,rfl⟩;have JG:rk≤5:=by rw[← nZ];unfold bq;split <;> (try split) <;> (try split) <;> (try split) <;> (try split) <;> omega
 have hs:bL n=([],[au.op k0 ((rk:Int)+1),au.plain sg,au.op k1 ((rk:Int)+2)]):=by
  unfold bL;rw[af (by omega),af (by omega),af (by omega),af (by omega),af (by omega),af (by omega),af (by omega),af (by omega),iM,hk0,iM (l:=n.kids) (i:=1),hk1,nZ,hk,show((kd:Int) - 9).toNat=kd - 9 by omega,hsg];rfl
 have pO:=EA n.kind;rw[nZ,hk]at pO;have DV:=hsi.below hB (Nat.le_of_lt hbw);obtain⟨A',mf,hsl,hcm, -,hcell⟩:=DV;injection hsl with e1 e2 e3;have jI:1<n.kids.length:=(eH.1 hk1).1;obtain⟨pb,po,hA,hpb,hcl⟩:=hcell.resolve_left (fun e=>by rw[e]at jI;exact absurd jI (by decide));have hc0:=hcl 0 k0 hk0;have hc1:=hcl 1 k1 hk1;rw[Nat.add_zero]at hc0;have hA2:=e1.trans hA;subst hA2;subst e3;clear e1 hA;have hm0:(0:Int)<(m:Int):=by omega
 have hm1:(1:Int)<(m:Int):=by omega
 have hm2:0<m:=by omega
 have hm3:1<m:=by omega
 have aaH:(0:Int)≤(kd:Int):=by omega
 have aaI:(kd:Int)<20:=by omega
 have aaU:=aae rk JG;have aaV:=aaf rk JG;have hsc:(w.alloc (.cells #[.int .i64 n.kind,.int .i64 n.num,.string n.text,.string n.ref.sh,.int .i64 n.ref.c,.int .i64 n.ref.r,.bool n.ref.ac,.bool n.ref.ar,.string n.ag.sh,.int .i64 n.ag.c,.int .i64 n.ag.r,.bool n.ag.ac,.bool n.ag.ar,.slice (some ⟨pb,po,none⟩) m c] 106)).cell? ⟨(0:Nat),kd,none⟩=some (.string sg):=by rw[(hsv.below hB).cell kd,Yc kd h9 h20,hsg]
 have Dr:=(hsv.below hB).lt;have HS:=ae hs;have HB:=ae hB;have vN:=ae pO;have uz:=ae (h.below hB);have qV:=ae hk;clear h hs hk hB hsi e2 hcl jI hcell hk0 hk1 hsv hsg nZ pO;go_enter Tryz.func135,Tryz.ntmps135;go_upto_region 1 with (fail)
 obtain⟨z,hzz⟩:∃z,w.heap.size=z:=⟨_,rfl⟩;obtain⟨w1,hw1⟩:∃w1,w.alloc (.cells #[.int .i64 n.kind,.int .i64 n.num,.string n.text,.string n.ref.sh,.int .i64 n.ref.c,.int .i64 n.ref.r,.bool n.ref.ac,.bool n.ref.ar,.string n.ag.sh,.int .i64 n.ag.c,.int .i64 n.ag.r,.bool n.ag.ac,.bool n.ag.ar,.slice (some ⟨pb,po,none⟩) m c] 106)=w1:=⟨_,rfl⟩;rw[hw1]at HN HB uz hc0 hc1 hsc Dr ⊢;rw[hzz]at HN ⊢;have hzl:=HN.lt;have hzb:z≠b:=by omega
 have iE:=ae HN;have x0:=HN.cells.1;obtain⟨-, -, -, -, -, -, -, -, -, -, -, -, -,x1⟩:=HN.cells;rw[qV.o]at x0;have uM:b<w1.heap.size:=fM hbw HB.o.size;have hpl:pb<w1.heap.size:=by omega
 have hgl:0<w1.heap.size:=Dr;have x2:=hc0;have x3:=hc1;have x4:=hsc;clear hzz hw1 HN hc0 hc1 hsc Dr;go_upto_region 2 with (go_at_call 95;((with_reducible refine(vN.o _).mono ?_);rintro e w2 ⟨rfl,rfl⟩))
 have H1:=ae ((ak w1.heap.size w1).drew);have HP:=ae (fun (wr:World)(hr:Below w1.heap.size w1 wr)=>vk wr b nv st [au.op k0 ((rk:Int)+1),au.plain sg,au.op k1 ((rk:Int)+2)] txt #[.string ⟨#[]⟩,.int .i64 k0,.int .i64 ((rk:Int)+1),.string sg,.int .i64 0,.int .i64 0,.string ⟨#[]⟩,.int .i64 k1,.int .i64 ((rk:Int)+2)] 3 rfl rfl (uz.o.below hr) (by show 3≤1000000;decide) hls);clear vN
 go_region_held3 (fun w'=>w'.cell? ⟨z,0,none⟩=some (.int .i64 (kd:Int))∧w'.cell? ⟨z,13,none⟩=some (.slice (some ⟨pb,po,none⟩) m c)∧w'.cell? ⟨pb,po,none⟩=some (.int .i64 k0)∧w'.cell? ⟨pb,po+1,none⟩=some (.int .i64 k1)∧w'.cell? ⟨(0:Nat),kd,none⟩=some (.string sg)) (go_keep) (first
  | (go_at_call 70;((with_reducible refine(yz k0 ((rk:Int)+1) _).mono ?_);rintro e w3 ⟨rfl,h3⟩;have H3:=ae (H1.o.trans (h3.mono H1.o.size));have p0:=(H3.o.cell (p:=⟨z,0,none⟩) hzl).trans x0;have p1:=(H3.o.cell (p:=⟨z,13,none⟩) hzl).trans x1;have p2:=(H3.o.cell (p:=⟨pb,po,none⟩) hpl).trans x2;have p3:=(H3.o.cell (p:=⟨pb,po+1,none⟩) hpl).trans x3;have p4:=(H3.o.cell (p:=⟨(0:Nat),kd,none⟩) hgl).trans x4;clear h3))
  | (go_at_call 96;((with_reducible refine(AA _ _).mono ?_);rintro e w4 ⟨rfl,h3⟩;have H4:=ae (H3.o.trans (h3.mono H3.o.size));have q0:=(H4.o.cell (p:=⟨z,0,none⟩) hzl).trans x0;have q1:=(H4.o.cell (p:=⟨z,13,none⟩) hzl).trans x1;have q2:=(H4.o.cell (p:=⟨pb,po,none⟩) hpl).trans x2;have q3:=(H4.o.cell (p:=⟨pb,po+1,none⟩) hpl).trans x3;have q4:=(H4.o.cell (p:=⟨(0:Nat),kd,none⟩) hgl).trans x4;clear h3))
  | (go_at_call 70;((with_reducible refine(yz k1 ((rk:Int)+2) _).mono ?_);rintro e w5 ⟨rfl,h3⟩;have eP:=ae (H4.o.trans (h3.mono H4.o.size));have r0:=(eP.o.cell (p:=⟨z,0,none⟩) hzl).trans x0;have r1:=(eP.o.cell (p:=⟨z,13,none⟩) hzl).trans x1;have r2:=(eP.o.cell (p:=⟨pb,po,none⟩) hpl).trans x2;have r3:=(eP.o.cell (p:=⟨pb,po+1,none⟩) hpl).trans x3;have r4:=(eP.o.cell (p:=⟨(0:Nat),kd,none⟩) hgl).trans x4;clear h3))
  | (go_at_call 69;((with_reducible refine(HP.o _ eP.o).mono ?_);rintro e w6 ⟨rfl,h3,h4⟩;have vK:=ae h3;have gB:=ae h4;have eX:=gB.o.block z (fM hzl eP.o.size) hzb (.inr fun cur fr=>by
      have h5:=eP.o.block z hzl;have h6:w1.heap[z]? = some (.cells (dh n (.slice (some ⟨pb,po,none⟩) m c)) 106):=iE.o;rw[h5,h6];exact⟨fun e=>by(injection e with e;injection e with _ e2;exact absurd e2 (by decide)),fun e=>by(injection e with e;injection e with _ e2;exact absurd e2 (by decide))⟩);have hpk:=gB.o.block pb (fM hpl eP.o.size) (Nat.ne_of_lt hpb) (.inl hpb);have Jp:=gB.o.block 0 (fM hgl eP.o.size) (Nat.ne_of_lt hgb) (.inl hgb);have t0:=(dx (a:=⟨z,0,none⟩) eX).trans r0;have t1:=(dx (a:=⟨z,13,none⟩) eX).trans r1;have t2:=(dx (a:=⟨pb,po,none⟩) hpk).trans r2;have t3:=(dx (a:=⟨pb,po+1,none⟩) hpk).trans r3;have t4:=(dx (a:=⟨(0:Nat),kd,none⟩) Jp).trans r4;clear h3 h4 eX hpk Jp)))
 all_goals go_wp2_with fail
 all_goals go_end0
 all_goals refine⟨rfl, ?_,(aH.dU HB.o).trans ((aH.dU eP.o).trans gB.o)⟩
 all_goals rw[HS.o,bE]
 all_goals exact vK.o
end Go.Proofs.YtahjnhmidjeniaaGreatDoor
namespace Go.Proofs.YtahjnhmidjeniaaGreatDoor
open Go.RowKit Go.Shelf
attribute [local go_sem] Oper.semAt_some
def nQ(xs:List Int)(q:Nat):List (Nat × Int):=(List.range (xs.length - q)).map fun j=>(xs.length - 1 - j,xs.getD (xs.length - 1 - j) 0)
theorem HV(xs:List Int):nQ xs xs.length=[]:=by unfold nQ;simp
theorem CP (xs:List Int)(m:Nat)(p:Int)(hp:xs[m]? = some p):nQ xs m=nQ xs (m+1)++[(m,p)]:=by
 have hl:=(eH.1 hp).1;unfold nQ;rw[show xs.length - m=(xs.length - (m+1))+1 by omega,List.range_succ,gW];show _++[(xs.length - 1 - (xs.length - (m+1)),_)]=_;rw[show xs.length - 1 - (xs.length - (m+1))=m by omega,iM,hp];rfl
theorem P7(xs:List Int)(q:Nat):(nQ xs q).length=xs.length - q:=by unfold nQ;simp
def uW(x:Nat × Int):List au:=if x.1=0 then [au.op x.2 1]else [au.op x.2 1,au.plain ⟨#[44]⟩]
def om(pre:List (Nat × Int)):List au:=pre.flatMap uW
theorem Aj(pre:List (Nat × Int))(x:Nat × Int):om (pre++[x])=om pre++uW x:=by unfold om;simp
theorem TW (pre:List (Nat × Int)):(om pre).length≤2*pre.length:=by
 induction pre with
 | nil=>exact aj _
 | cons x pre ih =>
   show(uW x++om pre).length≤_;have h:(uW x).length≤2:=by unfold uW;split <;> simp
   rw[ax,aN];omega
def zK:List Int→List au
 | []=>[]
 | k :: ks=>au.plain ⟨#[44]⟩ :: au.op k 1 :: zK ks
theorem G6:∀(a:Int)(ks:List Int),kH (a :: ks)=au.op a 1 :: zK ks
 | a,[]=>rfl
 | a,b :: ks=>by show au.op a 1 :: au.plain ⟨#[44]⟩ :: kH (b :: ks)=_;rw[G6 b ks];rfl
theorem TV (xs:List Int)(q:Nat)(h1:1≤q)(h2:q≤xs.length):om (nQ xs q)=(zK (xs.drop q)).reverse:=by
 induction h:xs.length - q generalizing q with
 | zero =>
   have:q=xs.length:=by omega
   subst this;rw[HV,List.drop_length];rfl
 | succ d ih =>
   obtain⟨p,hp⟩:∃p,xs[q]? = some p:=⟨_,aX (by omega)⟩;have hl:=(eH.1 hp).1;have he:xs[q]=p:=by rw[aX hl]at hp;exact dV hp
   rw[CP xs q p hp,Aj,ih (q+1) (by omega) (by omega) (by omega),List.drop_eq_getElem_cons hl,he];show _++uW (q,p)=(au.plain ⟨#[44]⟩ :: au.op p 1 :: zK (xs.drop (q+1))).reverse;unfold uW;rw[af (show ¬ (q,p).1=0 by show ¬ q=0;omega),List.reverse_cons,List.reverse_cons,bD];rfl
theorem TU:∀xs:List Int,om (nQ xs 0)=(kH xs).reverse
 | []=>rfl
 | a :: ks=>by
   rw[CP (a :: ks) 0 a rfl,Aj,TV (a :: ks) 1 (by omega) (by simp),G6];show _++[au.op a 1]=_;rw[List.reverse_cons];rfl
theorem Pp (F:Fence)(n:Nat)(h7:F.fn 181)(hro:F.round=none)(hn:1≤n)(l Bs b po cap:Nat)(A:Option Addr)(xs:List Int)(hlen:xs.length≤1000000000)(J Jx:List (Nat × Int)→World→Prop)
 (hY:∀pre x W,J pre W→pre.length<xs.length→YieldAt F (n - 1) Tryz.prog l #[.int .i64 (x.1:Int),.int .i64 x.2] W fun e W' =>
   (e = .returned (.bool true)∧J (pre++[x]) W'∧il Bs b W W')∨(e = .returned (.bool false)∧Jx (pre++[x]) W'))
 (W:World) (rF:W.cell? ⟨Bs,0,none⟩=some (.slice A xs.length cap)) (hc:∀m p,xs[m]? = some p→A=some ⟨b,po,none⟩∧W.cell? ⟨b,po+m,none⟩=some (.int .i64 p)) (h0:J [] W) :
 CallsIn F n Tryz.prog 181 #[.func (.yield l) #[] #[],.pointer (some ⟨Bs,0,none⟩)] W fun e W'=>(∃v,e = .returned v) ∧
  ((∃ys,ys=nQ xs 0∧J ys W')∨(∃pre,True∧Jx pre W')):=by
 obtain⟨L,hL⟩:∃L,xs.length=L:=⟨_,rfl⟩;have HL:=ae hL;rw[hL]at hlen rF;refine callsIn_of_wp Tryz.func181 rfl h7 ?_ hro;simp only[Tryz.ntmps181,List.size_toArray,aN,fO,Nat.reduceAdd,Nat.reduceSub,Array.replicate_succ,Array.replicate_zero,List.push_toArray,List.append_toArray,eY,bM];gi_wp2
 gi_loopw [3] (fun i wr=>∃q:Nat,q≤L∧i = .int .i64 ((q:Int) - 1)∧J (nQ xs q) wr∧il Bs b W wr)
  (fun i _=>(intOf i+1).toNat)
 case atStart=>exact⟨L,aj _,rfl,by rw[← hL,HV];exact h0,il.refl _ _ _⟩
 case round =>
  obtain⟨q,hq,rfl,hJs,hnx⟩:=hrel;have RX:=(hnx.H6 0).trans rF;cases q with
  | zero =>
    gi_wp2
    go_end0;exact⟨⟨_,rfl⟩,.inl ⟨_,rfl,hJs⟩⟩
  | succ m =>
    obtain⟨p,hp⟩:∃p,xs[m]? = some p:=⟨_,aX (by omega)⟩;obtain⟨hA,c0⟩:=hc m p hp;have d0:=(hnx.zN (po+m)).trans c0;have hst:=CP xs m p hp;obtain⟨fn,tmps,assign,body,hy,hR⟩:=hY _ (m,p) wr hJs (by rw[P7];omega);rw[← hst]at hR;dsimp only at hy;have hm1:((m+1:Nat):Int) - 1=(m:Int):=by omega
    rw[hm1];have SF:(m:Int)<(L:Int):=by omega
    have hm0:(0:Int)≤(m:Int):=by omega
    clear hm1 c0 hc hJs hst;subst hA;gi_wp2
    refine hR.mono ?_;rintro e W3 (⟨rfl,hJ3,hk3⟩|⟨rfl,De⟩)
    · gi_wp2
      go_roundw
      case rel=>exact⟨m,by omega,by simp,hJ3,hnx.trans hk3⟩
      case measure=>simp[intOf]
    · gi_wp2
      refine bodyPost_ret (results_none rfl _ _ _) rfl ?_;exact⟨⟨_,rfl⟩,.inr ⟨_,trivial,De⟩⟩
theorem PD (F:Fence)(n:Nat)(h5:F.fn 163)(hro:F.round=none)(a:Option Addr)(len cap:Nat)(w:World) :
 CallsIn F n Tryz.prog 163 #[.slice a len cap] w fun e w'=>e = .returned (.func (.func 181) #[] #[.pointer (some ⟨w.heap.size,0,none⟩)])∧w.alloc (.cells #[.slice a len cap] 49)=w':=by
 refine callsIn_of_wp Tryz.func163 rfl h5 ?_ hro;simp only[Tryz.ntmps163,List.size_toArray,aN,fO,Nat.reduceAdd,Nat.reduceSub,Array.replicate_succ,Array.replicate_zero,List.push_toArray,List.append_toArray,eY,bM];gi_wp2
 go_ret;exact⟨rfl,rfl⟩
theorem Pq (F:Fence)(n:Nat)(h7:F.fn 181)(hro:F.round=none)(hn:1≤n)(Bs b po cap:Nat)(A:Option Addr)(xs:List Int)(hlen:xs.length≤1000000000)(w:World)(hB:Bs<w.heap.size)(hb:b<w.heap.size)
 (rF:w.cell? ⟨Bs,0,none⟩=some (.slice A xs.length cap)) (hc:∀m p,xs[m]? = some p→A=some ⟨b,po,none⟩∧w.cell? ⟨b,po+m,none⟩=some (.int .i64 p)) :
 SeqStopsK F n Tryz.prog 181 #[.pointer (some ⟨Bs,0,none⟩)] (fun x:Nat × Int=>#[Value.int .i64 (x.1:Int),.int .i64 x.2]) (il Bs b) (fun ys=>ys=nQ xs 0) (fun _=>True) xs.length w:=fun l J Jx W hW _ _ hY h0 =>
 Pp F n h7 hro hn l Bs b po cap A xs hlen J Jx hY W ((hW.cell hB).trans rF) (fun m p hp=>⟨(hc m p hp).1,(hW.cell (p:=⟨b,po+m,none⟩) hb).trans (hc m p hp).2⟩) h0
end Go.Proofs.YtahjnhmidjeniaaGreatDoor
namespace Go.Proofs.YtahjnhmidjeniaaGreatDoor
open Go.RowKit Go.Shelf
attribute [local go_sem] Oper.semAt_some
variable {b:Nat}
theorem bg.stay {A B:World}{nv:Value}{st:List au}{txt:List Int}(h:bg A b nv st txt){row:Option Nat}(hg:A.grownBy B row)(hr:∀r,row=some r→∃o:Obj,A.heap[r]? = some o∧o.isCells=false):bg B b nv st txt:=by
 obtain⟨wv,h1,h2⟩:=h;exact⟨wv,iG.stay h1 hg hr,Ay h2 hg hr⟩
theorem aH.keeps {W W':World}{B:Nat}(h:aH W W' b)(hB:b<B):KeepsFrom B W W':=⟨h.size,fun k o hk ho hc=>by
 rw[h.block k (cu.1 ho).1 (by omega) (.inr fun cur fr=>⟨fun e=>by(rw[ho]at e;cases e;cases hc),fun e=>by(rw[ho]at e;cases e;cases hc)⟩)];exact ho⟩
theorem aH.boxed {W W':World}{k:Nat}{t:TypeId}{v:Value}(h:aH W W' b)(hb:Boxed W k t v)(hk:k≠b)(h1:t≠5)(h2:t≠142):W'.heap[k]? = W.heap[k]? := by
 have hb':W.heap[k]? = some (.cells #[v] t):=hb;exact h.block k (cu.1 hb').1 hk (.inr fun cur fr=>⟨fun e=>by rw[hb']at e;injection e with e;injection e with _ e;exact h1 e,fun e=>by rw[hb']at e;injection e with e;injection e with _ e;exact h2 e⟩)
def FD (w:World)(b:Nat)(nv:Value)(st:List au)(txt:List Int)(z zs:Nat)(sv:Value)(pre:List (Nat × Int))(W:World):Prop :=
 bg W b nv (st++om pre) txt∧Boxed W z 133 (.pointer (some ⟨b,0,none⟩))∧Boxed W zs 49 sv∧aH w W b
theorem PY {w:World}{nv:Value}{st:List au}{txt:List Int}{z zs:Nat}{sv:Value}{B:Nat}(hB:w.heap.size≤B):OwnFrom B (FD w b nv st txt z zs sv):=by
 rintro pre X Y row ⟨h1,h2,h3,h4⟩ hg hr;have hr2:∀r,row=some r→∃o:Obj,X.heap[r]? = some o∧o.isCells=false:=fun r e=>(hr r e).2
 exact⟨h1.stay hg hr2,sP hg hr2 h2,sP hg hr2 h3,h4.stay hg (fun r e=>eO hB (hr r e).1)⟩
theorem P6 (w:World)(b:Nat)(nv:Value)(st:List au)(txt:List Int)(n:Nd)(A:Option Addr)(m c:Nat)(h:bg w b nv st txt)(hk:n.kind=7)(hz:n.text.size≤1000000)(hsi:gF w b (.slice A m c) n.kids)(hl:txt.length≤1000000000)(hls:st.length+2*n.kids.length+1≤2000000000) :
 Calls Tryz.prog 133 #[.pointer (some ⟨b,0,none⟩),.agg #[.int .i64 n.kind,.int .i64 n.num,.string n.text,.string n.ref.sh,.int .i64 n.ref.c,.int .i64 n.ref.r,.bool n.ref.ac,.bool n.ref.ar,.string n.ag.sh,.int .i64 n.ag.c,.int .i64 n.ag.r,.bool n.ag.ac,.bool n.ag.ar,.slice A m c]] w (jg w b nv st txt n):=by
 have hs:bL n=(sb n.text++[40],kH n.kids++[au.plain ⟨#[41]⟩]):=by
  unfold bL;rw[af (by omega),af (by omega),af (by omega),af (by omega),af (by omega),af (by omega),ah hk]
 have hbw:b<w.heap.size:=by obtain⟨wv,h1, -⟩:=h;exact h1.lt
 have f1:¬ 9223372036854775807<n.text.size+(⟨#[40]⟩:ByteArray).size:=by show ¬ _<_+1;omega
 have f2:¬ 9223372036854775807<n.text.size+1:=by omega
 have f3:(n.text++(⟨#[40]⟩:ByteArray)).size=n.text.size+1:=by rw[ByteArray.size_append];rfl
 have HT:=ae (show sb (n.text++(⟨#[40]⟩:ByteArray))=sb n.text++[40]by rw[XU];rfl);have hB:Below w.heap.size w ((w.alloc (.cells #[(.pointer (some ⟨b,0,none⟩))] 133)).alloc (.cells #[.int .i64 n.kind,.int .i64 n.num,.string n.text,.string n.ref.sh,.int .i64 n.ref.c,.int .i64 n.ref.r,.bool n.ref.ac,.bool n.ref.ar,.string n.ag.sh,.int .i64 n.ag.c,.int .i64 n.ag.r,.bool n.ag.ac,.bool n.ag.ar,.slice A m c] 106)):=((ak _ w).alloc (aj _) _).alloc (by simp) _;have sK:Boxed ((w.alloc (.cells #[(.pointer (some ⟨b,0,none⟩))] 133)).alloc (.cells #[.int .i64 n.kind,.int .i64 n.num,.string n.text,.string n.ref.sh,.int .i64 n.ref.c,.int .i64 n.ref.r,.bool n.ref.ac,.bool n.ref.ar,.string n.ag.sh,.int .i64 n.ag.c,.int .i64 n.ag.r,.bool n.ag.ac,.bool n.ag.ar,.slice A m c] 106)) w.heap.size 133 (.pointer (some ⟨b,0,none⟩)):=(Boxed.new w 133 (.pointer (some ⟨b,0,none⟩))).alloc _
 have HN:aF ((w.alloc (.cells #[(.pointer (some ⟨b,0,none⟩))] 133)).alloc (.cells #[.int .i64 n.kind,.int .i64 n.num,.string n.text,.string n.ref.sh,.int .i64 n.ref.c,.int .i64 n.ref.r,.bool n.ref.ac,.bool n.ref.ar,.string n.ag.sh,.int .i64 n.ag.c,.int .i64 n.ag.r,.bool n.ag.ac,.bool n.ag.ar,.slice A m c] 106)) (w.heap.size+1) n (.slice A m c):=by
  have h:=aF.new (w.alloc (.cells #[(.pointer (some ⟨b,0,none⟩))] 133)) n (.slice A m c);rwa[iC]at h
 have HS:=ae hs;have HB:=ae hB;have HQ:=ae (h.below hB);have sG:=ae (hsi.below hB (Nat.le_of_lt hbw));have hsz:((w.alloc (.cells #[(.pointer (some ⟨b,0,none⟩))] 133)).alloc (.cells #[.int .i64 n.kind,.int .i64 n.num,.string n.text,.string n.ref.sh,.int .i64 n.ref.c,.int .i64 n.ref.r,.bool n.ref.ac,.bool n.ref.ar,.string n.ag.sh,.int .i64 n.ag.c,.int .i64 n.ag.r,.bool n.ag.ac,.bool n.ag.ar,.slice A m c] 106)).heap.size=w.heap.size+2:=by simp
 clear h hs hk hsi hB;refine(callsIn_wide (n:=6)).1 ?_;refine callsIn_of_wp_marks Tryz.func133 rfl trivial ?_ rfl;simp only[Tryz.ntmps133,List.size_toArray,aN,fO,Nat.reduceAdd,Nat.reduceSub,Array.replicate_succ,Array.replicate_zero,List.push_toArray,List.append_toArray,eY,bM];gi_wp2
 obtain⟨w1,hw1⟩:∃w1,((w.alloc (.cells #[(.pointer (some ⟨b,0,none⟩))] 133)).alloc (.cells #[.int .i64 n.kind,.int .i64 n.num,.string n.text,.string n.ref.sh,.int .i64 n.ref.c,.int .i64 n.ref.r,.bool n.ref.ac,.bool n.ref.ar,.string n.ag.sh,.int .i64 n.ag.c,.int .i64 n.ag.r,.bool n.ag.ac,.bool n.ag.ar,.slice A m c] 106))=w1:=⟨_,rfl⟩;rw[hw1]at HN HB HQ sG sK hsz ⊢;obtain⟨z,hzz⟩:∃z,w.heap.size=z:=⟨_,rfl⟩;rw[hzz]at HN sK hsz ⊢;have hzl:z<w1.heap.size:=by omega
 have Tm:z+1<w1.heap.size:=HN.lt;have hzb:z≠b:=by omega
 have JS:z+1≠b:=by omega
 have iE:=ae HN;have vH:=ae sK;have x0:=sK.cell;obtain⟨-, -,x2, -, -, -, -, -, -, -, -, -, -,iQ⟩:=HN.cells;have HW:=ae (fun wr (hr:Below w1.heap.size w1 wr) wv (h1:iG w1 b nv wv txt)=>nG wr b nv wv txt (n.text++(⟨#[40]⟩:ByteArray)) (h1.below hr) (by rw[f3];omega));have H1:=ae ((ak w1.heap.size w1).drew);clear hw1 HN sK f3;obtain⟨wv,hws,dK⟩:=HQ.o;have oZ:=ae hws;have HO:=ae dK;clear hws dK;refine wpIn_wide.2 ?_
 go_region_held3 (fun w'=>w'.cell? ⟨z,0,none⟩=some (.pointer (some ⟨b,0,none⟩))∧w'.cell? ⟨z+1,2,none⟩=some (.string n.text)) (go_keep) (first
  | (go_at_call 94;((with_reducible refine(HW.o _ H1.o wv oZ.o).mono ?_);rintro e w2 ⟨⟨x,rfl⟩,h3,h4⟩;have Ct:=ae h3;have bO:=ae h4;have eX:=bO.o.block z hzl hzb (.inr fun cur fr e=>by
      have h6:w1.heap[z]? = some (.cells #[.pointer (some ⟨b,0,none⟩)] 133):=vH.o;have h7:w1.drew.heap[z]? = w1.heap[z]? := rfl;rw[h7,h6]at e;injection e with e;injection e with _ e2;exact absurd e2 (by decide));have Ag:=bO.o.block (z+1) Tm JS (.inr fun cur fr e=>by
      have h6:w1.heap[z+1]? = some (.cells (dh n (.slice A m c)) 106):=iE.o;have h7:w1.drew.heap[z+1]? = w1.heap[z+1]? := rfl;rw[h7,h6]at e;injection e with e;injection e with _ e2;exact absurd e2 (by decide));have p0:=(dx (a:=⟨z,0,none⟩) eX).trans x0;have p2:=(dx (a:=⟨z+1,2,none⟩) Ag).trans x2;have p13:=(dx (a:=⟨z+1,13,none⟩) Ag).trans iQ;clear h3 h4)))
 gi_wp2
 have xR:w1.heap.size≤w2.heap.size:=bO.o.size;have Cr:=ae (show bg w2 b nv st (txt++sb (n.text++(⟨#[40]⟩:ByteArray)))from bg.wrote (HO.o.below H1.o (aj _)) Ct.o bO.o);have uy:=ae (fun (w3:World)(h3:Below w2.heap.size w2 w3)=>vk w3 b nv st [au.plain ⟨#[41]⟩] (txt++sb (n.text++(⟨#[40]⟩:ByteArray))) #[.string ⟨#[41]⟩,.int .i64 0,.int .i64 0] 1 rfl rfl (Cr.o.below h3) (by show 1≤1000000;decide) (by omega));have HZ2:=ae eX;have OJ:=ae Ag;have H2:=ae ((ak w2.heap.size w2).drew);have uT:z<w2.heap.size:=by omega
 have Tn:z+1<w2.heap.size:=by omega
 clear x0 x2 iQ eX Ag p2;refine wpIn_wide.2 ?_
 go_region_held3 (fun w'=>w'.cell? ⟨z,0,none⟩=some (.pointer (some ⟨b,0,none⟩))) (go_keep) (first
  | (go_at_call 96;((with_reducible refine(AA _ _).mono ?_);rintro e w3 ⟨rfl,h3⟩;have H3:=ae (H2.o.trans (h3.mono H2.o.size));have q0:=(H3.o.cell (p:=⟨z,0,none⟩) uT).trans p0;clear h3))
  | (go_at_call 69;((with_reducible refine(uy.o _ H3.o).mono ?_);rintro e w5 ⟨rfl,h3,h4⟩;have qZ:=ae h3;have bT:=ae h4;have eX:=aH.boxed bT.o (k:=z) (v := .pointer (some ⟨b,0,none⟩)) (t:=133) ((H3.o.block z uT).trans (HZ2.o.trans vH.o)) hzb (by decide) (by decide);have r0:=(dx (a:=⟨z,0,none⟩) eX).trans q0;clear h3 h4)))
 have DC:w2.heap.size≤w3.heap.size:=H3.o.size
 have N5:aF w5 (z+1) n (.slice A m c):=by
  unfold aF;have e1:w3.heap[z+1]? = some (.cells (dh n (.slice A m c)) 106):=(H3.o.block (z+1) Tn).trans (OJ.o.trans iE.o);rw[bT.o.block (z+1) (by omega) JS (.inr fun cur fr=>⟨fun e=>by(rw[e1]at e;injection e with e;injection e with _ e2;exact absurd e2 (by decide)),fun e=>by(rw[e1]at e;injection e with e;injection e with _ e2;exact absurd e2 (by decide))⟩)];exact e1
 obtain⟨-, -, -, -, -, -, -, -, -, -, -, -, -,iQ⟩:=N5.cells;have FT:=ae (((aH.dU H1.o).trans (aH.ou bO.o)).trans ((aH.dU H3.o).trans bT.o));have cz:Boxed w5 z 133 (.pointer (some ⟨b,0,none⟩)):=eX.trans ((H3.o.block z uT).trans (HZ2.o.trans vH.o));have DF:w3.heap.size≤w5.heap.size:=bT.o.size;have uM:b<w1.heap.size:=by omega
 have OU:=sG.o.kW FT.o (aj _) uM;clear N5 eX q0 r0 p0
 gi_wp2_with (refine⟨trivial, ?_⟩;gi_at_call 163;refine(PD Fence.wide _ trivial rfl _ _ _ _).mono ?_;rintro e w' ⟨rfl,rfl⟩)
 have pg:=Boxed.new w5 49 (.slice A m c);have nY:Below w5.heap.size w5 (w5.alloc (.cells #[.slice A m c] 49)):=(ak _ _).alloc (aj _) _;have He:=cz.alloc (.cells #[.slice A m c] 49);have JJ:(w5.alloc (.cells #[.slice A m c] 49)).heap.size=w5.heap.size+1:=by simp
 obtain⟨zs,hzs⟩:∃zs,w5.heap.size=zs:=⟨_,rfl⟩;obtain⟨w6,JO⟩:∃w6,w5.alloc (.cells #[.slice A m c] 49)=w6:=⟨_,rfl⟩;rw[JO]at pg nY He JJ ⊢;rw[hzs]at pg JJ ⊢;have Ah:zs≠b:=by omega
 have aa1:z≠zs:=by omega
 obtain⟨A',mf,hsl,hcm, -,hcell⟩:=OU;injection hsl with e1 e2 e3;subst e1 e2 e3
 obtain ⟨pb,po,hpb,DT,hcl⟩:∃pb po,pb<w6.heap.size∧(pb<b∨pb=zs)∧∀j y,n.kids[j]? = some y→A=some ⟨pb,po,none⟩∧w6.cell? ⟨pb,po+j,none⟩=some (.int .i64 y):=by
  rcases hcell with he|⟨pb,po,hA,hp,hc⟩
  · exact⟨zs,0,by omega,.inr rfl,fun j y hj=>by rw[he]at hj;cases hj⟩
  · exact⟨pb,po,by omega,.inl hp,fun j y hj=>⟨hA,(nY.cell (p:=⟨pb,po+j,none⟩) (by show pb<_;omega)).trans (hc j y hj)⟩⟩
 have vK:bg w6 b nv (st++[au.plain ⟨#[41]⟩]) (txt++sb (n.text++(⟨#[40]⟩:ByteArray))):=qZ.o.below nY;have FR:=ae ((aH.dU HB.o).trans (FT.o.trans (aH.dU nY)));have aaZ:z+2≤zs:=by omega
 clear hcell JO hzs iQ cz
 refine wpIn_rangeFunc_ownH (F:=Fence.wide) (n:=6) rfl (by omega) (gf:=181) (lb:=#[.pointer (some ⟨zs,0,none⟩)]) rfl trivial (enters_of Tryz.func181 (by kernel_rfl) rfl)
  (Pq Fence.wide 5 trivial rfl (by omega) zs pb po c A n.kids (by omega) w6 pg.lt hpb pg.cell hcl)
  il.trans (MU pg.lt hpb) (ak _ _) (fun _=>rfl)
  (FD w6 b nv (st++[au.plain ⟨#[41]⟩]) (txt++sb (n.text++(⟨#[40]⟩:ByteArray))) z zs (.slice A n.kids.length c)) (fun _ _ _=>False)
  (PY (aj _)) (fun _ _ _ _ _ hs _ _=>hs) ⟨by rw[show om []=[]from rfl,bE];exact vK,He,pg,aH.refl _ _⟩
  (fun y a' W=>a'={ tmps:=#[.pointer (some ⟨b,0,none⟩),.agg #[.int .i64 n.kind,.int .i64 n.num,.string n.text,.string n.ref.sh,.int .i64 n.ref.c,.int .i64 n.ref.r,.bool n.ref.ac,.bool n.ref.ar,.string n.ag.sh,.int .i64 n.ag.c,.int .i64 n.ag.r,.bool n.ag.ac,.bool n.ag.ar,.slice A n.kids.length c],.pointer (some ⟨z,0,none⟩),.pointer (some ⟨z+1,0,none⟩),.int .i64 (y.1:Int),.int .i64 y.2,.pointer (some ⟨b,0,none⟩),.pointer (some ⟨b,0,none⟩),.pointer (some ⟨b,2,none⟩),.pointer (some ⟨z+1,2,none⟩),.string n.text,.string (n.text++⟨#[40]⟩),.tuple #[x,.nilIface],.pointer (some ⟨b,0,none⟩),.agg #[.string ⟨#[41]⟩,.int .i64 0,.int .i64 0],.slice (some ⟨w3.heap.size,0,none⟩) 1 1,.tuple #[],.pointer (some ⟨z+1,13,none⟩),.slice A n.kids.length c,.func (.func 181) #[] #[.pointer (some ⟨zs,0,none⟩)],.int .i64 (y.1:Int),.int .i64 y.2,undef,undef,undef,undef,undef,undef,undef,undef,undef,undef,undef],defers:=[] })
  (fun _ _ _ _ _ _ h _ _=>h) ?assign ?body ?done ?stop
 case assign =>
  rintro l pre ⟨j,k⟩ W K hI hK;dsimp only;gi_wp2
  exact hK _ _ (KeepsFrom.refl _ _) (il.refl _ _ _) hI rfl
 case body =>
  rintro l pre ⟨j,k⟩ a' W - - ⟨hQ,hbz,hbs,hF⟩ rfl hlen;have hkl:=TW pre;have CK:=hbz.cell;have OM:=ae hbz;have JQ:z<W.heap.size:=hbz.lt;have N9:=ae (fun (wr:World)(hr:Below W.heap.size W wr)=>vk wr b nv (st++[au.plain ⟨#[41]⟩]++om pre) [au.op k 1] (txt++sb (n.text++(⟨#[40]⟩:ByteArray))) #[.string ⟨#[]⟩,.int .i64 k,.int .i64 1] 1 rfl rfl (hQ.below hr) (by show 1≤1000000;decide) (by rw[ax,ax];show st.length+1+_≤_;omega));have oV:(fun w'=>w'.cell? ⟨z,0,none⟩=some (.pointer (some ⟨b,0,none⟩))) W.drew:=CK;dsimp only;gi_wp2
  refine ED (by kernel_rfl) (by kernel_rfl) (wpAny_of_held (S:=(fun w'=>w'.cell? ⟨z,0,none⟩=some (.pointer (some ⟨b,0,none⟩)))) _ _ _ _ ?_);show wpAnyH _ _ _ _ _ 5 #[false,false,false,false,false] _ _;refine hT 0 oV ?_ (hQ:=(fun _ _ _ h=>(by cases h.1))) (hy:=by(intro jy hSw;have e1:jy.cell? ⟨z,0,none⟩=some (.pointer (some ⟨b,0,none⟩)):=hSw;go_simp;try(with_reducible rfl)));refine hT 1 oV ?_ (hQ:=(fun _ _ _ h=>(by cases h.1)));refine hO 2 (fun K hK => ?_);go_simp;refine(yz _ _ _).mono ?_;rintro e Fs ⟨rfl,h3⟩;have yZ:=ae ((ak W.heap.size W).drew.trans (h3.mono (aj _)));have Gq:(fun w'=>w'.cell? ⟨z,0,none⟩=some (.pointer (some ⟨b,0,none⟩))) Fs:=(yZ.o.cell (p:=⟨z,0,none⟩) JQ).trans CK;clear h3;go_wp2_with fail
  refine hK.o _ _ Gq ?_;clear hK K;simp only[Act.put,sT,dn,dm];refine hO 3 (fun K hK => ?_);go_simp;refine hK.o _ _ ((((ak Fs.heap.size Fs).alloc (aj _) _).cell (p:=⟨z,0,none⟩) (fM JQ yZ.o.size)).trans Gq) ?_;clear hK K;simp only[Act.put,sT,dn,dm];refine hO 4 (fun K hK => ?_);go_simp;refine(N9.o _ yZ.o).mono ?_;rintro e tZ ⟨rfl,h3,h4⟩;have Gi:=ae h3;have vI:=ae ((aH.dU yZ.o).trans h4);have zz:=ae (aH.boxed vI.o OM.o hzb (by decide) (by decide));have Cf:(fun w'=>w'.cell? ⟨z,0,none⟩=some (.pointer (some ⟨b,0,none⟩))) tZ:=(dx (a:=⟨z,0,none⟩) zz.o).trans CK;clear h3 h4;go_wp2_with fail
  refine hK.o _ _ Cf ?_;clear hK K;simp only[Act.put,sT,dn,dm];refine wpAnyH_done (by kernel_rfl) ?_ _;refine⟨rfl, ?_⟩;have aaJ:w6.heap.size≤W.heap.size:=hF.size
  have GR:∀ {W1 W2:World},aH W1 W2 b→Boxed W1 zs 49 (.slice A n.kids.length c)→pb<W1.heap.size→il zs pb W1 W2:=fun h1 h2 h3=>⟨h1.boxed h2 Ah (by decide) (by decide),by
   rcases DT with h|rfl
   · exact h1.block pb h3 (by omega) (.inl h)
   · exact h1.boxed h2 Ah (by decide) (by decide)⟩
  cases j with
  | zero =>
    gi_wp2
    refine⟨vI.o.keeps (by omega),GR vI.o hbs (by omega), ?_,zz.o.trans hbz,(vI.o.boxed hbs Ah (by decide) (by decide)).trans hbs,hF.trans vI.o⟩;rw[Aj, ← bD];exact Gi.o
  | succ j =>
    have hj0:(0:Int)<((j+1:Nat):Int):=by omega
    have Hw:=Cf;have GJ:=ae (show Boxed tZ z 133 (.pointer (some ⟨b,0,none⟩))from zz.o.trans hbz);have JR:z<tZ.heap.size:=GJ.o.lt;have Oa:=ae (fun (wr:World)(hr:Below tZ.heap.size tZ wr)=>vk wr b nv (st++[au.plain ⟨#[41]⟩]++om pre++[au.op k 1].reverse) [au.plain ⟨#[44]⟩] (txt++sb (n.text++(⟨#[40]⟩:ByteArray))) #[.string ⟨#[44]⟩,.int .i64 0,.int .i64 0] 1 rfl rfl (Gi.o.below hr) (by show 1≤1000000;decide) (by rw[ax,ax,ax];show st.length+1+_+1≤_;omega));have oV:(fun w'=>w'.cell? ⟨z,0,none⟩=some (.pointer (some ⟨b,0,none⟩))) tZ.drew:=Cf;gi_wp2
    refine ED (by kernel_rfl) (by kernel_rfl) (wpAny_of_held (S:=(fun w'=>w'.cell? ⟨z,0,none⟩=some (.pointer (some ⟨b,0,none⟩)))) _ _ _ _ ?_);show wpAnyH _ _ _ _ _ 4 #[false,false,false,false] _ _;refine hT 0 oV ?_ (hQ:=(fun _ _ _ h=>(by cases h.1))) (hy:=by(intro jy hSw;have e1:jy.cell? ⟨z,0,none⟩=some (.pointer (some ⟨b,0,none⟩)):=hSw;go_simp;try(with_reducible rfl)));refine hO 1 (fun K hK => ?_);go_simp;refine(AA _ _).mono ?_;rintro e Fu ⟨rfl,h3⟩;have y5:=ae ((ak tZ.heap.size tZ).drew.trans (h3.mono (aj _)));have Gr:(fun w'=>w'.cell? ⟨z,0,none⟩=some (.pointer (some ⟨b,0,none⟩))) Fu:=(y5.o.cell (p:=⟨z,0,none⟩) JR).trans Hw;clear h3;go_wp2_with fail
    refine hK.o _ _ Gr ?_;clear hK K;simp only[Act.put,sT,dn,dm];refine hO 2 (fun K hK => ?_);go_simp;refine hK.o _ _ ((((ak Fu.heap.size Fu).alloc (aj _) _).cell (p:=⟨z,0,none⟩) (fM JR y5.o.size)).trans Gr) ?_;clear hK K;simp only[Act.put,sT,dn,dm];refine hO 3 (fun K hK => ?_);go_simp;refine(Oa.o _ y5.o).mono ?_;rintro e ZO ⟨rfl,h3,h4⟩;have Oc:=ae h3;have FU:=ae ((aH.dU y5.o).trans h4);have GH:=ae (aH.boxed FU.o GJ.o hzb (by decide) (by decide));have Om:(fun w'=>w'.cell? ⟨z,0,none⟩=some (.pointer (some ⟨b,0,none⟩))) ZO:=(dx (a:=⟨z,0,none⟩) GH.o).trans Hw;clear h3 h4;go_wp2_with fail
    refine hK.o _ _ Om ?_;clear hK K;simp only[Act.put,sT,dn,dm];refine wpAnyH_done (by kernel_rfl) ?_ _;refine⟨rfl, ?_⟩;gi_wp2
    have y9:=ae (vI.o.trans FU.o);refine⟨y9.o.keeps (by omega),GR y9.o hbs (by omega), ?_,GH.o.trans (zz.o.trans hbz),(y9.o.boxed hbs Ah (by decide) (by decide)).trans hbs,hF.trans y9.o⟩;rw[Aj];have h:=Oc.o;rw[bD (st++[au.plain ⟨#[41]⟩]++om pre),bD (st++[au.plain ⟨#[41]⟩])]at h;exact h
 case done =>
  rintro D ys W hD rfl ⟨hQ,hbz,hbs,hF⟩ hK;gi_wp2
  have hg:=grownBy_putObj' W D (.deferred none);have hr:∀r,some D=some r→∃o:Obj,W.heap[r]? = some o∧o.isCells=false:=fun r e=>by cases e;exact⟨_,hK,rfl⟩
  refine⟨by simp,.inl ⟨_,_,rfl,run_takeDeferred hK, ?_⟩⟩;refine⟨_,results_none rfl _ _ _,rfl, ?_,(FR.o.trans hF).stay hg (fun r e=>by cases e;have:=FR.o.size;omega)⟩;rw[HS.o];rw[TU,HT.o]at hQ;rw[show(kH n.kids++[au.plain ⟨#[41]⟩]).reverse=[au.plain ⟨#[41]⟩]++(kH n.kids).reverse from by rw[List.reverse_append];rfl, ← bD];exact hQ.stay hg hr
 case stop =>
  rintro D c pre W _ _ h _;exact h.elim
end Go.Proofs.YtahjnhmidjeniaaGreatDoor
namespace Go.Proofs.YtahjnhmidjeniaaGreatDoor
open Go.RowKit
variable {nm s:ByteArray}{vs:List (Nd × Value)}{ns:List Nd}{ts:List ai}{B M b base:Nat}{n:Nd}{α:Type}{w w' w0:World}{t:ai}
def jY(w0 w:World)(b:Nat):Prop:=w0.heap.size≤b∧Below w0.heap.size w0 w∧ik w0∧l8 w0∧l9 w0
theorem jY.kW (h:jY w0 w b)(hf:aH w w' b):jY w0 w' b:=by
 obtain⟨h1,h2,h3⟩:=h;exact⟨h1,⟨hf.os.trans h2.os,hf.tape.trans h2.tape,hf.output.trans h2.output,eO h2.size hf.size,fun k hk=>(hf.block k (fM hk h2.size) (by omega) (.inl (by omega))).trans (h2.block k hk)⟩,h3⟩
theorem jY.tab(h:jY w0 w b):ik w:=h.2.2.1.below h.2.1
theorem jY.U2(h:jY w0 w b):l8 w:=h.2.2.2.1.below h.2.1
theorem jY.Ye(h:jY w0 w b):l9 w:=h.2.2.2.2.below h.2.1
theorem jY.max_lt (h:jY w0 w b):8<b:=by
 obtain⟨h1, -, -,⟨m,hm⟩, -⟩:=h;exact fM (World.block_lt_of_cell? w0 _ hm) h1
theorem jY.Yi(h:jY w0 w b):0<b:=fM h.2.2.2.2.lt h.1
theorem Ur (h:dN n=true)(hk:n.kind=1):0≤n.num:=by
 have h:=(ry h).2.2.2.2.2;unfold iI at h;split at h
 · cases h
 · exact aA.1 h
theorem KV (w0 w:World)(b:Nat)(nv:Value)(st:List au)(txt:List Int)(n:Nd)(A:Option Addr)(m c:Nat)(hg:jY w0 w b)(h:bg w b nv st txt)(hn:dN n=true)(jk:n.num≤9223372036854775807)(hz:n.text.size≤1000000)(hz1:n.ref.sh.size≤1000000)(hz2:n.ag.sh.size≤1000000)(hsi:gF w b (.slice A m c) n.kids)(hl:txt.length≤1000000000)(hls:st.length+2*n.kids.length+1≤2000000000) :
 Calls Tryz.prog (jm n.kind) #[.pointer (some ⟨b,0,none⟩),.agg #[.int .i64 n.kind,.int .i64 n.num,.string n.text,.string n.ref.sh,.int .i64 n.ref.c,.int .i64 n.ref.r,.bool n.ref.ac,.bool n.ref.ar,.string n.ag.sh,.int .i64 n.ag.c,.int .i64 n.ag.r,.bool n.ag.ac,.bool n.ag.ar,.slice A m c]] w (jg w b nv st txt n):=by
 obtain⟨a1,a2, -,b1,b2, -⟩:=ry hn;have hst:st.length≤2000000000:=by omega
 by_cases hk:n.kind=1
 · rw[show jm n.kind=127 from by rw[hk];rfl]
   exact VI w b nv st txt n A m c h hk n.num.toNat (by have:=Ur hn hk;omega) (by omega) hg.tab hl
 have h1:=hk;clear hk;by_cases hk:n.kind=2
 · rw[show jm n.kind=128 from by rw[hk];rfl]
   exact Xe w b nv st txt n A m c h hk hz hg.U2 hg.max_lt hl
 have h2:=hk;clear hk;by_cases hk:n.kind=3
 · rw[show jm n.kind=129 from by rw[hk];rfl]
   by_cases hv:n.num=1
   · exact Zw w b nv st txt n A m c h hk hv hl
   · exact Zv w b nv st txt n A m c h hk hv hl
 have h3:=hk;clear hk;by_cases hk:n.kind=4
 · rw[show jm n.kind=130 from by rw[hk];rfl]
   exact QK w b nv st txt n A m c h hk hl
 have h4:=hk;clear hk;by_cases hk:n.kind=5
 · rw[show jm n.kind=131 from by rw[hk];rfl]
   exact Ww w b nv st txt n A m c h hk hz1 hg.tab hl
 have h5:=hk;clear hk;by_cases hk:n.kind=6
 · rw[show jm n.kind=132 from by rw[hk];rfl]
   exact Wx w b nv st txt n A m c h hk hz1 hz2 hg.tab hl
 have h6:=hk;clear hk;by_cases hk:n.kind=7
 · rw[show jm n.kind=133 from by rw[hk];rfl]
   exact P6 w b nv st txt n A m c h hk hz hsi hl hls
 have h7:=hk;clear hk;by_cases hk:n.kind=8
 · rw[show jm n.kind=134 from by rw[hk];rfl]
   have hl1:=a1 hk;exact Vq w b nv st txt n A m c h hk _ (aX (by omega:0<n.kids.length)) hsi hl hst
 have h8:=hk;clear hk;have hl2:=a2 (by omega);rw[show jm n.kind=135 from by unfold jm;rw[af h1,af h2,af h3,af h4,af h5,af h6,af h7,af h8]];exact PN w b nv st txt n A m c h n.kind.toNat (by omega) (by omega) (by omega) _ _ (aX (by omega:0<n.kids.length)) (aX (by omega:1<n.kids.length)) hsi hg.Ye hg.Yi hst
theorem Vp (s:ByteArray)(h:¬ s=⟨#[]⟩):s.toList.isEmpty=false:=by
 cases hq:s.toList with
 | nil=>exact absurd hq (yJ s (fun e=>h (wM s e)))
 | cons a l=>rfl
theorem aaj (w:World)(b:Nat)(nv:Value)(st:List au)(txt:List Int)(p:au)(h:bg w b nv st txt)(hp:¬ p.t=⟨#[]⟩)(hz:txt.length+p.t.size≤1000000000) :
 Calls Tryz.prog 71 #[.pointer (some ⟨b,0,none⟩),.agg #[.string p.t,.int .i64 p.node,.int .i64 p.least]] w fun e w'=>e = .returned (.tuple #[])∧bg w' b nv st (txt++sb p.t)∧aH w w' b:=by
 have hB:Below w.heap.size w (w.alloc (.cells #[.string p.t,.int .i64 p.node,.int .i64 p.least] 142)):=(ak _ _).alloc (aj _) _;have HP:eT (w.alloc (.cells #[.string p.t,.int .i64 p.node,.int .i64 p.least] 142)) w.heap.size p:=eT.new w p;have hbw:b<w.heap.size:=by obtain⟨wv,h1, -⟩:=h;exact h1.lt
 have hne:=Vp p.t hp;have HB:=ae hB;have HQ:=ae (h.below hB);clear h hp hB;go_enter Tryz.func71,Tryz.ntmps71;go_upto_region 1 with (fail)
 obtain⟨z,hzz⟩:∃z,w.heap.size=z:=⟨_,rfl⟩;obtain⟨w1,hw1⟩:∃w1,w.alloc (.cells #[.string p.t,.int .i64 p.node,.int .i64 p.least] 142)=w1:=⟨_,rfl⟩;rw[hw1]at HP HB HQ ⊢;rw[hzz]at HP ⊢;have hzl:z<w1.heap.size:=(cu.1 HP).1;have hzb:z≠b:=by omega
 obtain⟨x0,x1,x2⟩:=HP.cells;have bW:=ae HP;clear hzz hw1 HP;go_upto_region 2 with (fail)
 obtain⟨wv,hws,dK⟩:=HQ.o;have HW:=ae (nG w1.drew b nv wv txt p.t (hws.below ((ak w1.heap.size w1).drew)) (by omega));have HO:=ae dK;have H1:=ae ((ak w1.heap.size w1).drew);clear hws dK
 go_region_held3 (fun w'=>w'.cell? ⟨z,0,none⟩=some (.string p.t)) (first|go_keep|exact S0) (first
  | (go_at_call 94;((with_reducible refine HW.o.mono ?_);rintro e w2 ⟨⟨x,rfl⟩,h3,h4⟩;have Ct:=ae h3;have bO:=ae h4;have S0:=(dx (a:=⟨z,0,none⟩) (bO.o.block z hzl hzb (.inr fun cur fr e=>by
      have h6:w1.heap[z]? = some (.cells (jq p) 142):=bW.o;have h7:w1.drew.heap[z]? = w1.heap[z]? := rfl;rw[h7,h6]at e;injection e with e;injection e with _ e2;exact absurd e2 (by decide)))).trans x0)))
 all_goals go_wp2_with fail
 all_goals refine bodyPost_ret (results_none rfl _ _ _) rfl ?_
 all_goals exact⟨rfl,bg.wrote (HO.o.below H1.o (aj _)) Ct.o bO.o,(aH.dU HB.o).trans ((aH.dU H1.o).trans (aH.ou bO.o))⟩
theorem KN (k:Int):∀args (v:World),(callFunc (jm k) args).run Tryz.prog v = .ok (.enter (jm k) args) v:=by
 unfold jm;split
 · exact Go.Proofs.enters_of Tryz.func127 (by kernel_rfl) rfl
 split
 · exact Go.Proofs.enters_of Tryz.func128 (by kernel_rfl) rfl
 split
 · exact Go.Proofs.enters_of Tryz.func129 (by kernel_rfl) rfl
 split
 · exact Go.Proofs.enters_of Tryz.func130 (by kernel_rfl) rfl
 split
 · exact Go.Proofs.enters_of Tryz.func131 (by kernel_rfl) rfl
 split
 · exact Go.Proofs.enters_of Tryz.func132 (by kernel_rfl) rfl
 split
 · exact Go.Proofs.enters_of Tryz.func133 (by kernel_rfl) rfl
 split
 · exact Go.Proofs.enters_of Tryz.func134 (by kernel_rfl) rfl
 exact Go.Proofs.enters_of Tryz.func135 (by kernel_rfl) rfl
theorem aah (w0 w:World)(b:Nat)(nv:Value)(vs:List (Nd × Value))(st:List au)(txt:List Int)(i:Nat)(least:Int)(n:Nd)(k:Value)(hg:jY w0 w b)(h:bg w b nv st txt)(hsn:ig w b nv vs)(hz:SZ vs)(hnk:vs[i]? = some (n,k))(hnb:dN n=true)(jk:n.num≤9223372036854775807)(hr:¬ (bq n.kind:Int)+1<least)(hl:txt.length+1≤1000000000)(hls:st.length+2*n.kids.length+2≤2000000000) :
 Calls Tryz.prog 71 #[.pointer (some ⟨b,0,none⟩),.agg #[.string ⟨#[]⟩,.int .i64 (i:Int),.int .i64 least]] w fun e w'=>e = .returned (.tuple #[])∧bg w' b nv (st++(bL n).2.reverse) (txt++(bL n).1)∧aH w w' b:=by
 obtain⟨⟨A,cap,rfl,hat⟩,sV⟩:=hsn;obtain⟨hlen,hsz⟩:=hz;have hil:i<vs.length:=(eH.1 hnk).1;have pJ:=bN hnk;obtain⟨hz1,hz2,hz3⟩:=hsz _ pJ;have pQ:gF w b k n.kids:=sV _ pJ;obtain⟨bR,ck,hk,hkc,jH,_⟩:=id pQ;obtain⟨nl,hnl⟩:∃nl,vs.length=nl:=⟨_,rfl⟩;obtain⟨m,hm⟩:∃m,n.kids.length=m:=⟨_,rfl⟩;rw[hm]at hk;subst hk;rw[hnl]at hlen hil h ⊢;have hi0:(0:Int)≤(i:Int):=by omega
 have hi1:(i:Int)<(nl:Int):=by omega
 obtain⟨pb,po,rfl,DT,sS⟩:=hat.resolve_left (fun e=>by rw[e]at hnk;cases hnk);have hcell:=sS i n _ hnk;have hbw:b<w.heap.size:=by obtain⟨wv,h1, -⟩:=h;exact h1.lt
 have hB:Below w.heap.size w (w.alloc (.cells #[.string ⟨#[]⟩,.int .i64 (i:Int),.int .i64 least] 142)):=(ak _ _).alloc (aj _) _;have HP:eT (w.alloc (.cells #[.string ⟨#[]⟩,.int .i64 (i:Int),.int .i64 least] 142)) w.heap.size ⟨⟨#[]⟩,(i:Int),least⟩:=eT.new w ⟨⟨#[]⟩,(i:Int),least⟩;have HB:=ae hB;have HQ:=ae (h.below hB);have HG:=ae (hg.kW (aH.dU hB));have sG:=ae (pQ.below hB (Nat.le_of_lt hbw));have hpb:pb<w.heap.size:=by omega
 obtain⟨rk,nZ⟩:∃rk:Nat,bq n.kind=rk:=⟨_,rfl⟩;have pO:=EA n.kind;rw[nZ]at pO hr;have vN:=ae pO;have pK:=KO n.kind;have hen:=KN n.kind;obtain⟨yn,qA⟩:∃yn,jm n.kind=yn:=⟨_,rfl⟩;rw[qA]at pK hen;have sD:=ae pK;have BM:=ae hnb;have HZ1:=ae hz1;have HZ2:=ae hz2;have HZ3:=ae hz3;have BK:=ae qA;have HM:=ae hm;clear h hg hB pQ hkc jH hat sV hsz sS pJ hnl hnk hlen pO pK nZ qA hnb hz1 hz2 hz3 hm;go_enter Tryz.func71,Tryz.ntmps71;go_upto_region 1 with (fail)
 obtain⟨z,hzz⟩:∃z,w.heap.size=z:=⟨_,rfl⟩;obtain⟨w1,hw1⟩:∃w1,w.alloc (.cells #[.string ⟨#[]⟩,.int .i64 (i:Int),.int .i64 least] 142)=w1:=⟨_,rfl⟩;rw[hw1]at HP HB HQ HG sG ⊢;rw[hzz]at HP ⊢;obtain⟨k0,k1,k2,k3,k4,k5,k6,k7,k8,k9,k10,k11,k12,k13⟩:=zO HB.o hpb hcell;have hzl:z<w1.heap.size:=(cu.1 HP).1;have hzb:z≠b:=by omega
 have uM:b<w1.heap.size:=by omega
 have SV:pb<w1.heap.size:=by omega
 obtain⟨x0,x1,x2⟩:=HP.cells;have xb:w1.cell? ⟨b,0,none⟩=some (.slice (some ⟨pb,po,none⟩) nl cap):=by obtain⟨wv,⟨ad,bv,h1, -⟩, -⟩:=HQ.o;exact h1.facts.1
 have bW:=ae HP;dsimp only at x0 x1 x2;clear hzz hw1 HP hcell;go_upto_region 2 with (fail)
 go_upto_region 3 with (fail)
 go_region_held3 (fun w'=>w'.cell? ⟨b,0,none⟩=some (.slice (some ⟨pb,po,none⟩) nl cap)∧w'.cell? ⟨z,1,none⟩=some (.int .i64 (i:Int))∧w'.cell? ⟨pb,po+i*14,none⟩=some (.int .i64 n.kind)∧w'.cell? ⟨pb,po+i*14+1,none⟩=some (.int .i64 n.num)∧w'.cell? ⟨pb,po+i*14+2,none⟩=some (.string n.text)∧w'.cell? ⟨pb,po+i*14+3,none⟩=some (.string n.ref.sh)∧w'.cell? ⟨pb,po+i*14+4,none⟩=some (.int .i64 n.ref.c)∧w'.cell? ⟨pb,po+i*14+5,none⟩=some (.int .i64 n.ref.r)∧w'.cell? ⟨pb,po+i*14+6,none⟩=some (.bool n.ref.ac)∧w'.cell? ⟨pb,po+i*14+7,none⟩=some (.bool n.ref.ar)∧w'.cell? ⟨pb,po+i*14+8,none⟩=some (.string n.ag.sh)∧w'.cell? ⟨pb,po+i*14+9,none⟩=some (.int .i64 n.ag.c)∧w'.cell? ⟨pb,po+i*14+10,none⟩=some (.int .i64 n.ag.r)∧w'.cell? ⟨pb,po+i*14+11,none⟩=some (.bool n.ag.ac)∧w'.cell? ⟨pb,po+i*14+12,none⟩=some (.bool n.ag.ar)∧w'.cell? ⟨pb,po+i*14+13,none⟩=some (.slice bR m ck)) (go_keep) (fail)
 have HN:=aF.drew (aF.new w1 n (.slice bR m ck));have HB2:=(((ak w1.heap.size w1).alloc (aj _) (.cells #[.int .i64 n.kind,.int .i64 n.num,.string n.text,.string n.ref.sh,.int .i64 n.ref.c,.int .i64 n.ref.r,.bool n.ref.ac,.bool n.ref.ar,.string n.ag.sh,.int .i64 n.ag.c,.int .i64 n.ag.r,.bool n.ag.ac,.bool n.ag.ar,(.slice bR m ck)] 106))).drew;obtain⟨z2,hz2⟩:∃z2,w1.heap.size=z2:=⟨_,rfl⟩;obtain⟨w2,hw2⟩:∃w2,((w1.alloc (.cells #[.int .i64 n.kind,.int .i64 n.num,.string n.text,.string n.ref.sh,.int .i64 n.ref.c,.int .i64 n.ref.r,.bool n.ref.ac,.bool n.ref.ar,.string n.ag.sh,.int .i64 n.ag.c,.int .i64 n.ag.r,.bool n.ag.ac,.bool n.ag.ar,(.slice bR m ck)] 106)).drew)=w2:=⟨_,rfl⟩;rw[show(w1.alloc (.cells (dh n (.slice bR m ck)) 106)).drew=w2 from hw2]at HN;rw[hw2]at HB2;rw[hw2,hz2];rw[hz2]at HN;have uT:z2<w2.heap.size:=HN.lt;have Af:z2≠b:=by omega
 have xR:b<w2.heap.size:=by omega
 have y2:=(HB2.cell (p:=⟨z,2,none⟩) hzl).trans x2;obtain⟨y0, -⟩:=HN.cells;have nN:=ae (HQ.o.below HB2);have HG2:=ae (HG.o.kW (aH.dU HB2));have Ch:=ae (sG.o.below HB2 (Nat.le_of_lt uM));have Bq:=ae HB2;have iE:=ae HN;clear hw2 hz2 HN HB2 x0 x1 x2 xb k0 k1 k2 k3 k4 k5 k6 k7 k8 k9 k10 k11 k12 k13;go_upto_region 4 with (fail)
 go_region_held3 (fun w'=>w'.cell? ⟨z2,0,none⟩=some (.int .i64 n.kind)∧w'.cell? ⟨z,2,none⟩=some (.int .i64 least)) (go_keep) (first
  | (go_at_call 95;((with_reducible refine(vN.o _).mono ?_);rintro e w3 ⟨rfl,rfl⟩)))
 have HD2:=ae ((ak w2.heap.size w2).drew);have fT:=ae (HG2.o.kW (aH.dU HD2.o));have Ca:=ae (nN.o.below HD2.o);have Ci:=ae (Ch.o.below HD2.o (Nat.le_of_lt xR));have bf:=ae (aF.drew iE.o);have Dk:=xR;have D5:z2<w2.drew.heap.size:=uT;go_upto_region 7 with (fail)
 have wY:=ae (fun (wr:World)(hr:Below w2.drew.heap.size w2.drew wr)=>KV w0 wr b (.slice (some ⟨pb,po,none⟩) nl cap) (st) (txt) n bR m ck ((fT.o).kW (aH.dU hr)) (Ca.o.below hr) BM.o jk HZ1.o HZ2.o HZ3.o (Ci.o.below hr (Nat.le_of_lt Dk)) (by omega) (by have:=HM.o;omega));rw[BK.o]at wY;have H3:=ae ((ak w2.drew.heap.size w2.drew).drew);obtain⟨k0,k1,k2,k3,k4,k5,k6,k7,k8,k9,k10,k11,k12,k13⟩:=bf.o.cells
 go_region_held3 (fun w'=>w'.cell? ⟨z2,0,none⟩=some (.int .i64 n.kind)∧w'.cell? ⟨z2,1,none⟩=some (.int .i64 n.num)∧w'.cell? ⟨z2,2,none⟩=some (.string n.text)∧w'.cell? ⟨z2,3,none⟩=some (.string n.ref.sh)∧w'.cell? ⟨z2,4,none⟩=some (.int .i64 n.ref.c)∧w'.cell? ⟨z2,5,none⟩=some (.int .i64 n.ref.r)∧w'.cell? ⟨z2,6,none⟩=some (.bool n.ref.ac)∧w'.cell? ⟨z2,7,none⟩=some (.bool n.ref.ar)∧w'.cell? ⟨z2,8,none⟩=some (.string n.ag.sh)∧w'.cell? ⟨z2,9,none⟩=some (.int .i64 n.ag.c)∧w'.cell? ⟨z2,10,none⟩=some (.int .i64 n.ag.r)∧w'.cell? ⟨z2,11,none⟩=some (.bool n.ag.ac)∧w'.cell? ⟨z2,12,none⟩=some (.bool n.ag.ar)∧w'.cell? ⟨z2,13,none⟩=some (.slice bR m ck)) (first|go_keep|exact Cw) (first
  | (go_at_call 97;((with_reducible refine(sD.o _).mono ?_);rintro e w4 ⟨rfl,rfl⟩))
  | ((with_reducible refine(wY.o _ H3.o).mono ?_);rintro e w5 ⟨rfl,h3,h4⟩;have qZ:=ae h3;have bT:=ae h4;have Cw:=aF.cells (show aF w5 z2 n (.slice bR m ck)from by
       unfold aF;have e1:w2.drew.drew.heap[z2]? = some (.cells (dh n (.slice bR m ck)) 106):=bf.o;rw[bT.o.block z2 D5 Af (.inr fun cur fr=>⟨fun e=>by(rw[e1]at e;injection e with e;injection e with _ e2;exact absurd e2 (by decide)),fun e=>by(rw[e1]at e;injection e with e;injection e with _ e2;exact absurd e2 (by decide))⟩)];exact e1);clear h3 h4))
 all_goals go_wp2_with fail
 all_goals go_end0
 all_goals exact⟨rfl,qZ.o,(aH.dU HB.o).trans ((aH.dU Bq.o).trans ((aH.dU (ak _ _).drew).trans ((aH.dU H3.o).trans bT.o)))⟩
theorem aai (w0 w:World)(b:Nat)(nv:Value)(vs:List (Nd × Value))(st:List au)(txt:List Int)(i:Nat)(least:Int)(n:Nd)(k:Value)(hg:jY w0 w b)(h:bg w b nv st txt)(hsn:ig w b nv vs)(hz:SZ vs)(hnk:vs[i]? = some (n,k))(hnb:dN n=true)(jk:n.num≤9223372036854775807)(hr:(bq n.kind:Int)+1<least)(hl:txt.length+1≤1000000000)(hls:st.length+2*n.kids.length+2≤2000000000) :
 Calls Tryz.prog 71 #[.pointer (some ⟨b,0,none⟩),.agg #[.string ⟨#[]⟩,.int .i64 (i:Int),.int .i64 least]] w fun e w'=>e = .returned (.tuple #[])∧bg w' b nv (st++[au.plain ⟨#[41]⟩]++(bL n).2.reverse) (txt++([40]++(bL n).1))∧aH w w' b:=by
 obtain⟨⟨A,cap,rfl,hat⟩,sV⟩:=hsn;obtain⟨hlen,hsz⟩:=hz;have hil:i<vs.length:=(eH.1 hnk).1;have pJ:=bN hnk;obtain⟨hz1,hz2,hz3⟩:=hsz _ pJ;have pQ:gF w b k n.kids:=sV _ pJ;obtain⟨bR,ck,hk,hkc,jH,_⟩:=id pQ;obtain⟨nl,hnl⟩:∃nl,vs.length=nl:=⟨_,rfl⟩;obtain⟨m,hm⟩:∃m,n.kids.length=m:=⟨_,rfl⟩;rw[hm]at hk;subst hk;rw[hnl]at hlen hil h ⊢;have hi0:(0:Int)≤(i:Int):=by omega
 have hi1:(i:Int)<(nl:Int):=by omega
 obtain⟨pb,po,rfl,DT,sS⟩:=hat.resolve_left (fun e=>by rw[e]at hnk;cases hnk);have hcell:=sS i n _ hnk;have hbw:b<w.heap.size:=by obtain⟨wv,h1, -⟩:=h;exact h1.lt
 have hB:Below w.heap.size w (w.alloc (.cells #[.string ⟨#[]⟩,.int .i64 (i:Int),.int .i64 least] 142)):=(ak _ _).alloc (aj _) _;have HP:eT (w.alloc (.cells #[.string ⟨#[]⟩,.int .i64 (i:Int),.int .i64 least] 142)) w.heap.size ⟨⟨#[]⟩,(i:Int),least⟩:=eT.new w ⟨⟨#[]⟩,(i:Int),least⟩;have HB:=ae hB;have HQ:=ae (h.below hB);have HG:=ae (hg.kW (aH.dU hB));have sG:=ae (pQ.below hB (Nat.le_of_lt hbw));have hpb:pb<w.heap.size:=by omega
 obtain⟨rk,nZ⟩:∃rk:Nat,bq n.kind=rk:=⟨_,rfl⟩;have pO:=EA n.kind;rw[nZ]at pO hr;have vN:=ae pO;have pK:=KO n.kind;have hen:=KN n.kind;obtain⟨yn,qA⟩:∃yn,jm n.kind=yn:=⟨_,rfl⟩;rw[qA]at pK hen;have sD:=ae pK;have BM:=ae hnb;have HZ1:=ae hz1;have HZ2:=ae hz2;have HZ3:=ae hz3;have BK:=ae qA;have HM:=ae hm;clear h hg hB pQ hkc jH hat sV hsz sS pJ hnl hnk hlen pO pK nZ qA hnb hz1 hz2 hz3 hm;go_enter Tryz.func71,Tryz.ntmps71;go_upto_region 1 with (fail)
 obtain⟨z,hzz⟩:∃z,w.heap.size=z:=⟨_,rfl⟩;obtain⟨w1,hw1⟩:∃w1,w.alloc (.cells #[.string ⟨#[]⟩,.int .i64 (i:Int),.int .i64 least] 142)=w1:=⟨_,rfl⟩;rw[hw1]at HP HB HQ HG sG ⊢;rw[hzz]at HP ⊢;obtain⟨k0,k1,k2,k3,k4,k5,k6,k7,k8,k9,k10,k11,k12,k13⟩:=zO HB.o hpb hcell;have hzl:z<w1.heap.size:=(cu.1 HP).1;have hzb:z≠b:=by omega
 have uM:b<w1.heap.size:=by omega
 have SV:pb<w1.heap.size:=by omega
 obtain⟨x0,x1,x2⟩:=HP.cells;have xb:w1.cell? ⟨b,0,none⟩=some (.slice (some ⟨pb,po,none⟩) nl cap):=by obtain⟨wv,⟨ad,bv,h1, -⟩, -⟩:=HQ.o;exact h1.facts.1
 have bW:=ae HP;dsimp only at x0 x1 x2;clear hzz hw1 HP hcell;go_upto_region 2 with (fail)
 go_upto_region 3 with (fail)
 go_region_held3 (fun w'=>w'.cell? ⟨b,0,none⟩=some (.slice (some ⟨pb,po,none⟩) nl cap)∧w'.cell? ⟨z,1,none⟩=some (.int .i64 (i:Int))∧w'.cell? ⟨pb,po+i*14,none⟩=some (.int .i64 n.kind)∧w'.cell? ⟨pb,po+i*14+1,none⟩=some (.int .i64 n.num)∧w'.cell? ⟨pb,po+i*14+2,none⟩=some (.string n.text)∧w'.cell? ⟨pb,po+i*14+3,none⟩=some (.string n.ref.sh)∧w'.cell? ⟨pb,po+i*14+4,none⟩=some (.int .i64 n.ref.c)∧w'.cell? ⟨pb,po+i*14+5,none⟩=some (.int .i64 n.ref.r)∧w'.cell? ⟨pb,po+i*14+6,none⟩=some (.bool n.ref.ac)∧w'.cell? ⟨pb,po+i*14+7,none⟩=some (.bool n.ref.ar)∧w'.cell? ⟨pb,po+i*14+8,none⟩=some (.string n.ag.sh)∧w'.cell? ⟨pb,po+i*14+9,none⟩=some (.int .i64 n.ag.c)∧w'.cell? ⟨pb,po+i*14+10,none⟩=some (.int .i64 n.ag.r)∧w'.cell? ⟨pb,po+i*14+11,none⟩=some (.bool n.ag.ac)∧w'.cell? ⟨pb,po+i*14+12,none⟩=some (.bool n.ag.ar)∧w'.cell? ⟨pb,po+i*14+13,none⟩=some (.slice bR m ck)) (go_keep) (fail)
 have HN:=aF.drew (aF.new w1 n (.slice bR m ck));have HB2:=(((ak w1.heap.size w1).alloc (aj _) (.cells #[.int .i64 n.kind,.int .i64 n.num,.string n.text,.string n.ref.sh,.int .i64 n.ref.c,.int .i64 n.ref.r,.bool n.ref.ac,.bool n.ref.ar,.string n.ag.sh,.int .i64 n.ag.c,.int .i64 n.ag.r,.bool n.ag.ac,.bool n.ag.ar,(.slice bR m ck)] 106))).drew;obtain⟨z2,hz2⟩:∃z2,w1.heap.size=z2:=⟨_,rfl⟩;obtain⟨w2,hw2⟩:∃w2,((w1.alloc (.cells #[.int .i64 n.kind,.int .i64 n.num,.string n.text,.string n.ref.sh,.int .i64 n.ref.c,.int .i64 n.ref.r,.bool n.ref.ac,.bool n.ref.ar,.string n.ag.sh,.int .i64 n.ag.c,.int .i64 n.ag.r,.bool n.ag.ac,.bool n.ag.ar,(.slice bR m ck)] 106)).drew)=w2:=⟨_,rfl⟩;rw[show(w1.alloc (.cells (dh n (.slice bR m ck)) 106)).drew=w2 from hw2]at HN;rw[hw2]at HB2;rw[hw2,hz2];rw[hz2]at HN;have uT:z2<w2.heap.size:=HN.lt;have Af:z2≠b:=by omega
 have xR:b<w2.heap.size:=by omega
 have y2:=(HB2.cell (p:=⟨z,2,none⟩) hzl).trans x2;obtain⟨y0, -⟩:=HN.cells;have nN:=ae (HQ.o.below HB2);have HG2:=ae (HG.o.kW (aH.dU HB2));have Ch:=ae (sG.o.below HB2 (Nat.le_of_lt uM));have Bq:=ae HB2;have iE:=ae HN;clear hw2 hz2 HN HB2 x0 x1 x2 xb k0 k1 k2 k3 k4 k5 k6 k7 k8 k9 k10 k11 k12 k13;go_upto_region 4 with (fail)
 go_region_held3 (fun w'=>w'.cell? ⟨z2,0,none⟩=some (.int .i64 n.kind)∧w'.cell? ⟨z,2,none⟩=some (.int .i64 least)) (go_keep) (first
  | (go_at_call 95;((with_reducible refine(vN.o _).mono ?_);rintro e w3 ⟨rfl,rfl⟩)))
 have HD2:=ae ((ak w2.heap.size w2).drew);obtain⟨wv,hws,dK⟩:=nN.o;have HW:=ae (nG w2.drew b _ wv txt ⟨#[40]⟩ (hws.below HD2.o) (by show txt.length+1≤_;omega));have HO:=ae (dK.below HD2.o (aj _));clear hws dK;go_upto_region 5 with (fail)
 go_upto_region 6 with (go_at_call 94;((with_reducible refine HW.o.mono ?_);rintro e u3 ⟨⟨x,rfl⟩,h3,h4⟩;have OD:=ae h3;have fE:=ae h4;clear h3 h4))
 have OC:=ae (show bg u3 b (.slice (some ⟨pb,po,none⟩) nl cap) st (txt++[40])from by
  have h:=bg.wrote HO.o OD.o fE.o;rwa[show sb ⟨#[40]⟩=[40]by decide]at h)
 have uy:=ae (fun (wr:World)(hr:Below u3.heap.size u3 wr)=>vk wr b (.slice (some ⟨pb,po,none⟩) nl cap) st [au.plain ⟨#[41]⟩] (txt++[40]) #[.string ⟨#[41]⟩,.int .i64 0,.int .i64 0] 1 rfl rfl (OC.o.below hr) (by show 1≤1000000;decide) (by omega))
 go_upto_region 7 with (first
  | (go_at_call 96;((with_reducible refine(AA _ _).mono ?_);rintro e u4 ⟨rfl,h3⟩;have dz:=ae h3;clear h3))
  | (go_at_call 69;((with_reducible refine(uy.o _ dz.o).mono ?_);rintro e u5 ⟨rfl,h3,h4⟩;have Oe:=ae h3;have NG:=ae h4;clear h3 h4)))
 have wZ:=ae (((aH.dU HD2.o).trans (aH.ou fE.o)).trans ((aH.dU dz.o).trans NG.o));have fT:=ae (HG2.o.kW wZ.o);have Ci:=ae (Ch.o.kW wZ.o (aj _) xR);have Tc:w2.heap.size≤u5.heap.size:=wZ.o.size;have Ca:=ae (show bg u5 b (.slice (some ⟨pb,po,none⟩) nl cap) (st++[au.plain ⟨#[41]⟩]) (txt++[40])from Oe.o)
 have bf:=ae (show aF u5 z2 n (.slice bR m ck)from by
  unfold aF;have e1:w2.heap[z2]? = some (.cells (dh n (.slice bR m ck)) 106):=iE.o;rw[wZ.o.block z2 uT Af (.inr fun cur fr=>⟨fun e=>by(rw[e1]at e;injection e with e;injection e with _ e2;exact absurd e2 (by decide)),fun e=>by(rw[e1]at e;injection e with e;injection e with _ e2;exact absurd e2 (by decide))⟩)];exact e1)
 have Dk:b<u5.heap.size:=by omega
 have D5:z2<u5.drew.heap.size:=by show z2<u5.heap.size;omega
 clear y0 y2;have wY:=ae (fun (wr:World)(hr:Below u5.heap.size u5 wr)=>KV w0 wr b (.slice (some ⟨pb,po,none⟩) nl cap) (st++[au.plain ⟨#[41]⟩]) (txt++[40]) n bR m ck ((fT.o).kW (aH.dU hr)) (Ca.o.below hr) BM.o jk HZ1.o HZ2.o HZ3.o (Ci.o.below hr (Nat.le_of_lt Dk)) (by rw[ax];show txt.length+1≤_;omega) (by rw[ax];show st.length+1+_+1≤_;have:=HM.o;omega));rw[BK.o]at wY;have H3:=ae ((ak u5.heap.size u5).drew);obtain⟨k0,k1,k2,k3,k4,k5,k6,k7,k8,k9,k10,k11,k12,k13⟩:=bf.o.cells
 go_region_held3 (fun w'=>w'.cell? ⟨z2,0,none⟩=some (.int .i64 n.kind)∧w'.cell? ⟨z2,1,none⟩=some (.int .i64 n.num)∧w'.cell? ⟨z2,2,none⟩=some (.string n.text)∧w'.cell? ⟨z2,3,none⟩=some (.string n.ref.sh)∧w'.cell? ⟨z2,4,none⟩=some (.int .i64 n.ref.c)∧w'.cell? ⟨z2,5,none⟩=some (.int .i64 n.ref.r)∧w'.cell? ⟨z2,6,none⟩=some (.bool n.ref.ac)∧w'.cell? ⟨z2,7,none⟩=some (.bool n.ref.ar)∧w'.cell? ⟨z2,8,none⟩=some (.string n.ag.sh)∧w'.cell? ⟨z2,9,none⟩=some (.int .i64 n.ag.c)∧w'.cell? ⟨z2,10,none⟩=some (.int .i64 n.ag.r)∧w'.cell? ⟨z2,11,none⟩=some (.bool n.ag.ac)∧w'.cell? ⟨z2,12,none⟩=some (.bool n.ag.ar)∧w'.cell? ⟨z2,13,none⟩=some (.slice bR m ck)) (first|go_keep|exact Cw) (first
  | (go_at_call 97;((with_reducible refine(sD.o _).mono ?_);rintro e w4 ⟨rfl,rfl⟩))
  | ((with_reducible refine(wY.o _ H3.o).mono ?_);rintro e w5 ⟨rfl,h3,h4⟩;have qZ:=ae h3;have bT:=ae h4;have Cw:=aF.cells (show aF w5 z2 n (.slice bR m ck)from by
       unfold aF;have e1:u5.drew.heap[z2]? = some (.cells (dh n (.slice bR m ck)) 106):=bf.o;rw[bT.o.block z2 D5 Af (.inr fun cur fr=>⟨fun e=>by(rw[e1]at e;injection e with e;injection e with _ e2;exact absurd e2 (by decide)),fun e=>by(rw[e1]at e;injection e with e;injection e with _ e2;exact absurd e2 (by decide))⟩)];exact e1);clear h3 h4))
 all_goals go_wp2_with fail
 all_goals go_end0
 all_goals exact⟨rfl,by(have h:=qZ.o;rw[bD txt]at h;exact h),(aH.dU HB.o).trans ((aH.dU Bq.o).trans (wZ.o.trans ((aH.dU H3.o).trans bT.o)))⟩
theorem G7:∀ks:List Int,2*ks.length≤(kH ks).length+1
 | []=>bA _
 | [a]=>aj _
 | a :: b :: ks=>by
   have ih:=G7 (b :: ks);show 2*((b :: ks).length+1)≤((kH (b :: ks)).length+1+1)+1;omega
theorem T9 (h:dN n=true):2*n.kids.length≤(bL n).2.length+4:=by
 obtain⟨a1,a2,a3,b1,b2, -⟩:=ry h;by_cases h6:n.kind≤6
 · rw[a3 ⟨b1,h6⟩];exact bA _
 by_cases h7:n.kind=7
 · have:=G7 n.kids
   rw[show(bL n).2=kH n.kids++[au.plain ⟨#[41]⟩]from by unfold bL;rw[af (by omega),af (by omega),af (by omega),af (by omega),af (by omega),af (by omega),ah h7],ax];omega
 by_cases h8:n.kind=8
 · rw[a1 h8];omega
 · rw[a2 (by omega)];omega
theorem YN {l:List Nd}(h:dC l=true)(p:au)(hp:fU l p):2≤2*(jw l p).1.length+(jw l p).2.length:=by
 have hn:∀n:Nd,dN n=true→2≤2*(bL n).1.length+(bL n).2.length:=by
  intro n hn;obtain⟨-, -, -,b1,b2, -⟩:=ry hn;unfold bL;split
  · have:aW n.num.toNat≠[]:=nT _
    have:=List.length_pos_iff.2 this;show 2≤2*(aW n.num.toNat).length+0;omega
  split
  · simp;omega
  split
  · split <;> simp
  split
  · simp
  split
  · rename_i h5
    have hl:=(ry hn).2.2.2.2.2;have:bC (sb n.ref.sh) n.ref.c n.ref.r n.ref.ac n.ref.ar≠[]:=ME (Kh hl h5);have:=List.length_pos_iff.2 this;show 2≤2*(bC _ _ _ _ _).length+0;omega
  split
  · simp;omega
  split
  · simp;omega
  split
  · simp
  · simp
 unfold jw;split
 · rename_i ht
   obtain⟨h0,h1⟩:=hp ht;have:=hn _ (wQ h h0 h1).1;split
   · rw[aN,ax];show 2≤2*(_+1)+(_+1);omega
   · exact this
 · rename_i ht
   have:=List.length_pos_iff.2 (LQ ht);show 2≤2*(sb p.t).length+0;omega
theorem YO {l:List Nd}{j:Nat}{m:Int}(hn:nodeAt l (j:Int)=n):jw l ⟨⟨#[]⟩,(j:Int),m⟩=if (bq n.kind:Int)+1<m then (40 :: (bL n).1,(bL n).2++[au.plain ⟨#[41]⟩])else bL n:=by
 unfold jw;rw[ah rfl];dsimp only;rw[hn]
theorem aag (w0 w:World)(b:Nat)(nv:Value)(vs:List (Nd × Value))(st:List au)(txt:List Int)(p:au)(hg:jY w0 w b)(h:bg w b nv st txt)(hsn:ig w b nv vs)(hz:SZ vs)(ht:dC (vs.map (·.1))=true)(jk:∀q∈vs,q.1.num≤9223372036854775807)(hp:fU (vs.map (·.1)) p)(hl:txt.length+(gP (vs.map (·.1)) p).length≤1000000000)(hls:st.length+(gP (vs.map (·.1)) p).length≤1000000000) :
 Calls Tryz.prog 71 #[.pointer (some ⟨b,0,none⟩),.agg (jq p)] w fun e w'=>e = .returned (.tuple #[])∧bg w' b nv (st++(jw (vs.map (·.1)) p).2.reverse) (txt++(jw (vs.map (·.1)) p).1)∧aH w w' b:=by
 obtain⟨t,i,m⟩:=p;by_cases hpt:t=⟨#[]⟩
 · subst hpt
   obtain⟨h0,h1⟩:=hp rfl;dsimp only at h0 h1;obtain⟨j,rfl⟩:∃j:Nat,i=(j:Int):=⟨i.toNat,by omega⟩;rw[dQ]at h1;obtain⟨⟨n,k⟩,hnk⟩:∃q,vs[j]? = some q:=⟨_,aX (by omega)⟩
   have hn:nodeAt (vs.map (·.1)) (j:Int)=n:=by
    unfold nodeAt;rw[Int.toNat_natCast,iM,List.getElem?_map,hnk];rfl
   have hnb:=(wQ ht h0 (by rw[dQ];exact h1)).1;rw[hn]at hnb;have hkl:=T9 hnb;have hne:=List.length_pos_iff.2 (Lh ht _ hp);have hfl:=zX ht _ (EX ht _ hp);have hL:=Mr ht _ hp;have qz:=congrArg List.length hL;rw[ax]at qz;have hsp:=YO (m:=m) hn;rw[hsp]at hfl qz ⊢;by_cases hr:(bq n.kind:Int)+1<m
   · rw[ah hr]at hfl qz ⊢
     dsimp only at hfl qz ⊢;rw[ax]at hfl;refine(aai w0 w b nv vs st txt j m n k hg h hsn hz hnk hnb (jk _ (bN hnk)) hr (by omega) (by omega)).mono ?_;rintro e w' ⟨h1,h2,h3⟩;refine⟨h1, ?_,h3⟩;rw[List.reverse_append,List.reverse_singleton, ← bD];exact h2
   · rw[af hr]at hfl qz ⊢
     exact aah w0 w b nv vs st txt j m n k hg h hsn hz hnk hnb (jk _ (bN hnk)) hr (by omega) (by omega)
 · have hs:jw (vs.map (·.1)) ⟨t,i,m⟩=(sb t,[]):=by unfold jw;rw[af (show ¬ (⟨t,i,m⟩:au).t=⟨#[]⟩from hpt)]
   have hp2:gP (vs.map (·.1)) ⟨t,i,m⟩=sb t:=by unfold gP;rw[af (show ¬ (⟨t,i,m⟩:au).t=⟨#[]⟩from hpt)]
   rw[hs];rw[hp2,bn]at hl;dsimp only;rw[List.reverse_nil,bE];exact aaj w b nv st txt ⟨t,i,m⟩ h hpt hl
theorem Rs (w:World)(n:Nd)(hv:Vars w)(hs:n.text.size≤1000000)(hr:n.ref.sh.size≤1000000)(ht:n.ag.sh.size≤1000000)(iq:okF n=true)(A:Option Addr)(m c:Nat) :
 Calls Tryz.prog 123 #[.agg #[.int .i64 n.kind,.int .i64 n.num,.string n.text,.string n.ref.sh,.int .i64 n.ref.c,.int .i64 n.ref.r,.bool n.ref.ac,.bool n.ref.ar,.string n.ag.sh,.int .i64 n.ag.c,.int .i64 n.ag.r,.bool n.ag.ac,.bool n.ag.ar,.slice A m c]] w fun e w'=>e = .returned (.tuple #[.agg (dh (eB n) (.slice none 0 0)),.bool (okF n)])∧Below w.heap.size w w':=by
 by_cases h1:n.kind=1
 · have e1:eB n={ Nd.zero with num:=n.num }:=by unfold eB;rw[ah h1]
   have e2:okF n=decide (0≤n.num):=by unfold okF;rw[ah h1]
   rw[e1,e2];exact Rk n h1 A m c w
 by_cases h2:n.kind=2
 · have e1:eB n={ Nd.zero with text:=n.text }:=by unfold eB;rw[af h1,ah h2]
   have e2:okF n=kD (sb n.text):=by unfold okF;rw[af h1,ah h2]
   rw[e1,e2];exact Rl w n h2 hs A m c
 by_cases h3:n.kind=3
 · have e1:eB n={ Nd.zero with num:=n.num }:=by unfold eB;rw[af h1,af h2,ah h3]
   have e2:okF n=decide (n.num=0∨n.num=1):=by unfold okF;rw[af h1,af h2,ah h3]
   rw[e1,e2];by_cases k0:n.num=0
   · rw[aL (Or.inl k0)];exact Rm w n h3 k0 A m c
   · by_cases k1:n.num=1
     · rw[aL (Or.inr k1)];exact Rn w n h3 k1 A m c
     · have k:¬ (n.num=0∨n.num=1):=by omega
       rw[iq,aK k]at e2;exact absurd e2 (by decide)
 by_cases h5:n.kind=5
 · have e1:eB n={ Nd.zero with ref:=n.ref }:=by unfold eB;rw[af h1,af h2,af h3,ah h5]
   have e2:okF n=eu n.ref:=by unfold okF;rw[af h1,af h2,af h3,ah h5]
   rw[e1,e2];exact Ro w n h5 hr A m c
 by_cases h6:n.kind=6
 · have e1:eB n=⟨0,0,⟨#[]⟩,n.ref,n.ag,[]⟩:=by unfold eB;rw[af h1,af h2,af h3,af h5,ah h6]
   have e2:okF n=(eu n.ref&&(eu n.ag&&gU n.ref n.ag)):=by unfold okF;rw[af h1,af h2,af h3,af h5,ah h6]
   rw[e1,e2];cases q1:eu n.ref
   · rw[iq,q1,Bool.false_and]at e2;exact absurd e2 (by decide)
   · cases q2:eu n.ag
     · rw[iq,q1,q2,Bool.false_and,Bool.and_false]at e2;exact absurd e2 (by decide)
     · exact Rp w n h6 hr ht q1 q2 A m c
 by_cases h7:n.kind=7
 · have e1:eB n={ Nd.zero with text:=n.text }:=by unfold eB;rw[af h1,af h2,af h3,af h5,af h6,ah h7]
   have e2:okF n=jF n.text:=by unfold okF;rw[af h1,af h2,af h3,af h5,af h6,ah h7]
   rw[e1,e2];exact Rq w n h7 hv A m c
 have e1:eB n=Nd.zero:=by unfold eB;rw[af h1,af h2,af h3,af h5,af h6,af h7]
 have e2:okF n=(decide (n.kind=4∨n.kind=8)||qM n.kind):=by unfold okF;rw[af h1,af h2,af h3,af h5,af h6,af h7]
 rw[e1,e2];by_cases h4:n.kind=4
 · rw[aL (Or.inl h4),Bool.true_or];exact Rh w n h1 h2 h3 h5 h6 h7 h4 A m c
 · by_cases h8:n.kind=8
   · rw[aL (Or.inr h8),Bool.true_or];exact Ri w n h1 h2 h3 h5 h6 h7 h8 A m c
   · rw[aK (by omega),Bool.false_or];exact Rj w n h1 h2 h3 h5 h6 h7 h4 h8 A m c
theorem J3 (w:World)(n:Nd)(hv:Vars w)(hs:n.text.size≤1000000)(hr:n.ref.sh.size≤1000000)(ht:n.ag.sh.size≤1000000)(A:Option Addr)(m c:Nat)(hm:m≤maxLen)(iq:pU n m=true) :
 Calls Tryz.prog 92 #[.agg #[.int .i64 n.kind,.int .i64 n.num,.string n.text,.string n.ref.sh,.int .i64 n.ref.c,.int .i64 n.ref.r,.bool n.ref.ac,.bool n.ref.ar,.string n.ag.sh,.int .i64 n.ag.c,.int .i64 n.ag.r,.bool n.ag.ac,.bool n.ag.ar,.slice A m c]] w fun e w'=>e = .returned (.bool true)∧Below w.heap.size w w':=by
 have l7:=ae iq;have SN:okF n=true:=by unfold pU at iq;rw[bu]at iq;exact iq.1
 clear iq;obtain⟨N,hN⟩:∃N,eB n=N:=⟨_,rfl⟩;obtain⟨ok,hok⟩:∃ok,okF n=ok:=⟨_,rfl⟩;obtain⟨hk,hhk⟩:∃hk,hkB n.kind m=hk:=⟨_,rfl⟩;have HI:=ae (show pU n m=(ok&&(hk&&(decide (n.num=N.num)&&(decide (n.text=N.text)&&(dZ n.ref N.ref&&dZ n.ag N.ag)))))by unfold pU;rw[hN,hok,hhk]);have HF:=ae (show ∀w,Vars w→Calls Tryz.prog 123 #[.agg #[.int .i64 n.kind,.int .i64 n.num,.string n.text,.string n.ref.sh,.int .i64 n.ref.c,.int .i64 n.ref.r,.bool n.ref.ac,.bool n.ref.ar,.string n.ag.sh,.int .i64 n.ag.c,.int .i64 n.ag.r,.bool n.ag.ac,.bool n.ag.ar,.slice A m c]] w fun e w'=>e = .returned (.tuple #[.agg #[.int .i64 N.kind,.int .i64 N.num,.string N.text,.string N.ref.sh,.int .i64 N.ref.c,.int .i64 N.ref.r,.bool N.ref.ac,.bool N.ref.ar,.string N.ag.sh,.int .i64 N.ag.c,.int .i64 N.ag.r,.bool N.ag.ac,.bool N.ag.ar,.slice none 0 0],.bool ok])∧Below w.heap.size w w' from fun w hv=>by rw[← hN, ← hok];exact Rs w n hv hs hr ht SN A m c);have HH:=ae (show ∀w,Calls Tryz.prog 124 #[.agg #[.int .i64 n.kind,.int .i64 n.num,.string n.text,.string n.ref.sh,.int .i64 n.ref.c,.int .i64 n.ref.r,.bool n.ref.ac,.bool n.ref.ar,.string n.ag.sh,.int .i64 n.ag.c,.int .i64 n.ag.r,.bool n.ag.ac,.bool n.ag.ar,.slice A m c]] w fun e w'=>e = .returned (.bool hk)∧Below w.heap.size w w' from fun w=>by rw[← hhk];exact R6 n A m c hm w);have hx:aF (w.alloc (.cells #[.int .i64 n.kind,.int .i64 n.num,.string n.text,.string n.ref.sh,.int .i64 n.ref.c,.int .i64 n.ref.r,.bool n.ref.ac,.bool n.ref.ar,.string n.ag.sh,.int .i64 n.ag.c,.int .i64 n.ag.r,.bool n.ag.ac,.bool n.ag.ar,.slice A m c] 106)) w.heap.size n (.slice A m c):=aF.new w n _;have HB:=ae ((ak w.heap.size w).alloc (aj _) (.cells #[.int .i64 n.kind,.int .i64 n.num,.string n.text,.string n.ref.sh,.int .i64 n.ref.c,.int .i64 n.ref.r,.bool n.ref.ac,.bool n.ref.ar,.string n.ag.sh,.int .i64 n.ag.c,.int .i64 n.ag.r,.bool n.ag.ac,.bool n.ag.ar,.slice A m c] 106));have ib:=ae hv;clear hN hok hhk hv;go_enter Tryz.func92,Tryz.ntmps92;go_upto_region 1 with (fail)
 generalize w.alloc (.cells #[.int .i64 n.kind,.int .i64 n.num,.string n.text,.string n.ref.sh,.int .i64 n.ref.c,.int .i64 n.ref.r,.bool n.ref.ac,.bool n.ref.ar,.string n.ag.sh,.int .i64 n.ag.c,.int .i64 n.ag.r,.bool n.ag.ac,.bool n.ag.ar,.slice A m c] 106)=w1 at hx HB ⊢;generalize hb0:w.heap.size=b0 at hx ⊢;obtain⟨x0,x1,x2,x3,x4,x5,x6,x7,aY,eF,eD,jU,jV,iQ⟩:=hx.cells;have HX:=ae hx;clear hx;go_upto_region 2 with (go_at_call 123;((with_reducible refine(HF.o _ (ib.o.below HB.o)).mono ?_);rintro e w2 ⟨rfl,h1⟩;have j6:=ae (HX.o.below h1 HX.o.lt);have HB2:=ae (HB.o.trans (h1.mono HB.o.size));clear h1))
 have hB3:Below w2.heap.size w2 (w2.alloc (.cells #[.int .i64 N.kind,.int .i64 N.num,.string N.text,.string N.ref.sh,.int .i64 N.ref.c,.int .i64 N.ref.r,.bool N.ref.ac,.bool N.ref.ar,.string N.ag.sh,.int .i64 N.ag.c,.int .i64 N.ag.r,.bool N.ag.ac,.bool N.ag.ar,.slice none 0 0] 106)):=(ak _ _).alloc (aj _) _;have hy:aF (w2.alloc (.cells #[.int .i64 N.kind,.int .i64 N.num,.string N.text,.string N.ref.sh,.int .i64 N.ref.c,.int .i64 N.ref.r,.bool N.ref.ac,.bool N.ref.ar,.string N.ag.sh,.int .i64 N.ag.c,.int .i64 N.ag.r,.bool N.ag.ac,.bool N.ag.ar,.slice none 0 0] 106)) w2.heap.size N (.slice none 0 0):=aF.new w2 N _;have lG:=ae (j6.o.below hB3 j6.o.lt);have HB3:=ae (HB2.o.trans (hB3.mono HB2.o.size));clear hB3 x0 x1 x2 x3 x4 x5 x6 x7 aY eF eD jU jV iQ;generalize hb3:w2.heap.size=b3 at hy ⊢;generalize w2.alloc (.cells #[.int .i64 N.kind,.int .i64 N.num,.string N.text,.string N.ref.sh,.int .i64 N.ref.c,.int .i64 N.ref.r,.bool N.ref.ac,.bool N.ref.ar,.string N.ag.sh,.int .i64 N.ag.c,.int .i64 N.ag.r,.bool N.ag.ac,.bool N.ag.ar,.slice none 0 0] 106)=w3 at hy lG HB3 ⊢;clear hb3;have uB:=ae hy;clear hy;cases ok
 · obtain⟨x0,x1,x2,x3,x4,x5,x6,x7,aY,eF,eD,jU,jV,iQ⟩:=lG.o.cells
   have HR:=ae (show pU n m=false by rw[HI.o];rfl);exact absurd HR.o (by rw[l7.o];decide)
 have go1:=lG.o.cells;obtain⟨x0,x1,x2,x3,x4,x5,x6,x7,aY,eF,eD,jU,jV,iQ⟩:=go1;cases hk
 · have HR:=ae (show pU n m=false by rw[HI.o];rfl)
   exact absurd HR.o (by rw[l7.o];decide)
 by_cases jk:n.num=N.num;rotate_left
 · have HR:=ae (show pU n m=false by rw[HI.o,aK jk];rfl)
   exact absurd HR.o (by rw[l7.o];decide)
 have en:(n.num == N.num)=true:=bI.2 jk;by_cases htx:n.text=N.text;rotate_left
 · have HR:=ae (show pU n m=false by rw[HI.o,aL jk,aK htx];rfl)
   exact absurd HR.o (by rw[l7.o];decide)
 have et:(n.text.toList == N.text.toList)=true:=by rw[htx];simp
 have HR:=ae (show pU n m=(dZ n.ref N.ref&&dZ n.ag N.ag)by rw[HI.o,aL jk,aL htx];rfl);have hq:=HR.o;rw[l7.o]at hq;have hq2:=hq.symm;rw[bu,CX,CX]at hq2;obtain⟨q1,q2⟩:=hq2;clear hq;have r00:(n.ref.sh.toList == n.ref.sh.toList)=true:=beq_self_eq_true _;have s00:N.ref.sh.toList=n.ref.sh.toList:=by rw[q1]
 have r01:(n.ref.c == n.ref.c)=true:=beq_self_eq_true _;have s01:N.ref.c=n.ref.c:=by rw[q1]
 have r02:(n.ref.r == n.ref.r)=true:=beq_self_eq_true _;have s02:N.ref.r=n.ref.r:=by rw[q1]
 have r03:(n.ref.ac == n.ref.ac)=true:=beq_self_eq_true _;have s03:N.ref.ac=n.ref.ac:=by rw[q1]
 have r04:(n.ref.ar == n.ref.ar)=true:=beq_self_eq_true _;have s04:N.ref.ar=n.ref.ar:=by rw[q1]
 have Xf:(n.ag.sh.toList == n.ag.sh.toList)=true:=beq_self_eq_true _;have s10:N.ag.sh.toList=n.ag.sh.toList:=by rw[q2]
 have Xg:(n.ag.c == n.ag.c)=true:=beq_self_eq_true _;have s11:N.ag.c=n.ag.c:=by rw[q2]
 have Xh:(n.ag.r == n.ag.r)=true:=beq_self_eq_true _;have s12:N.ag.r=n.ag.r:=by rw[q2]
 have r13:(n.ag.ac == n.ag.ac)=true:=beq_self_eq_true _;have s13:N.ag.ac=n.ag.ac:=by rw[q2]
 have r14:(n.ag.ar == n.ag.ar)=true:=beq_self_eq_true _;have s14:N.ag.ar=n.ag.ar:=by rw[q2]
 clear q1 q2;clear jk htx;go_wp2_with (go_at_call 124;((with_reducible refine(HH.o _).mono ?_);rintro e w4 ⟨rfl,h1⟩;have dz:=ae (HB3.o.trans (h1.mono HB3.o.size));obtain⟨z0,z1,z2,z3,z4,z5,z6,z7,uh,z9,ug,wS,z12,wT⟩:=(lG.o.below h1 lG.o.lt).cells;obtain⟨y0,y1,y2,y3,y4,iy,y6,iA,iR,kN,kM,oJ,oK,y13⟩:=(uB.o.below h1 uB.o.lt).cells;clear h1))
 all_goals go_ret
 all_goals exact⟨rfl,dz.o⟩
theorem WN (w:World)(v:Value)(vs:List (Nd × Value))(hv:Vars w)(h:ig w w.heap.size v vs)(hz:SZ vs)(iq:dC (vs.map (·.1))=true):Calls Tryz.prog 68 #[v] w fun e w'=>e = .returned (.bool true)∧Below w.heap.size w w':=by
 obtain⟨⟨A,cap,rfl,hat⟩,sV⟩:=h;obtain⟨hlen,hsz⟩:=hz;obtain⟨nl,hnl⟩:∃nl,vs.length=nl:=⟨_,rfl⟩;rw[hnl]at hlen ⊢;have l7:=ae iq;clear iq;have ib:=ae hv;have HAT:=ae hat;have NM:=ae sV;have nO:=ae hsz;have xh:=ae hnl;obtain⟨eb,rG,bS⟩:=Elem.kid;have qQ:=ae bS;clear hv hat sV hsz hnl bS;go_enter Tryz.func68,Tryz.ntmps68;go_upto_region 3 with (fail)
 go_loopw [3,9] (fun rv iv wr=>∃(i:Nat)(st:List Int)(rk:Value),i≤nl∧st.length≤i∧rk=rv∧iv = .int .i64 (i:Int)∧Hid (dC (vs.map (·.1))=oI st i ((vs.map (·.1)).drop i))∧Hid (Own (bK .i64) 3 wr w.heap.size rk st)∧Hid (Below w.heap.size w wr))
  (fun _ iv _=>nl - (intOf iv).toNat)
 case atStart=>exact⟨0,[],.slice none 0 0,bA _,aj _,rfl,rfl,ae rfl,ae (Own.nil _ _ _ _),ae (ak _ _)⟩
 case round =>
  obtain⟨i,st,rk,hi,hsi,rfl,rfl,HT,HO,HB⟩:=hrel;by_cases hlt:i<nl
  · have hii:(i:Int)<(nl:Int):=by omega
    obtain⟨⟨n,k⟩,hnk⟩:∃q,vs[i]? = some q:=⟨_,aX (by rw[xh.o];exact hlt)⟩;have pJ:=bN hnk;obtain⟨hz1,hz2,hz3⟩:=nO.o _ pJ;have HZ1:=ae hz1;have HZ2:=ae hz2;have HZ3:=ae hz3;clear hz1 hz2 hz3;have pQ:gF w w.heap.size k n.kids:=NM.o _ pJ;obtain⟨bR,ck,hk,hkc,jH,_⟩:=id pQ;obtain⟨m,hm⟩:∃m,n.kids.length=m:=⟨_,rfl⟩;rw[hm]at hk hkc;subst hk;have hmm:m≤maxLen:=eO hkc jH;have hmx:m≤9223372036854775807:=by unfold maxLen at hmm;omega
    have F6:=ae hmm;have HM:=ae hm;have xx:=ae pQ
    have HD:=ae (show(vs.map (·.1)).drop i=n :: (vs.map (·.1)).drop (i+1)by
     have hl:i<(vs.map (·.1)).length:=by rw[dQ,xh.o];exact hlt
     rw[List.drop_eq_getElem_cons hl];congr 1;have h1:(vs.map (·.1))[i]? = some n:=by rw[List.getElem?_map,hnk];rfl
     rw[aX hl]at h1;exact dV h1)
    rcases HAT.o with e|⟨pb,po,rfl,hpb,sS⟩
    · exfalso;rw[e]at hnk;simp at hnk
    have hcell:=sS i n _ hnk;obtain⟨k0,k1,k2,k3,k4,k5,k6,k7,k8,k9,k10,k11,k12,k13⟩:=zO HB.o hpb hcell;clear hcell sS hnk pJ pQ hm hkc jH hmm;have hL:st.length≤1000:=by omega
    rcases HO.o.shape with ⟨rfl,hst⟩|⟨rg,wK,rfl,hrg,hrl,hrc,hrm⟩
    · have SY:st.length=0:=by rw[hst];rfl
      by_cases hm0:m=0;rotate_left
      · have DI : -(m:Int)<0:=by omega
        have sW:¬ m≤st.length:=by omega
        have HT2:=ae (show dC (vs.map (·.1))=false by rw[HT.o,HD.o,qc,HM.o,aK sW,Bool.false_and,Bool.and_false]);exact absurd HT2.o (by rw[l7.o];decide)
      subst hm0;have HST:=ae hst;clear hst SY;have hB3:Below wr.heap.size wr (wr.alloc (.cells #[.int .i64 n.kind,.int .i64 n.num,.string n.text,.string n.ref.sh,.int .i64 n.ref.c,.int .i64 n.ref.r,.bool n.ref.ac,.bool n.ref.ar,.string n.ag.sh,.int .i64 n.ag.c,.int .i64 n.ag.r,.bool n.ag.ac,.bool n.ag.ar,.slice bR 0 ck] 106)):=(ak _ _).alloc (aj _) _;have bf:aF (wr.alloc (.cells #[.int .i64 n.kind,.int .i64 n.num,.string n.text,.string n.ref.sh,.int .i64 n.ref.c,.int .i64 n.ref.r,.bool n.ref.ac,.bool n.ref.ar,.string n.ag.sh,.int .i64 n.ag.c,.int .i64 n.ag.r,.bool n.ag.ac,.bool n.ag.ar,.slice bR 0 ck] 106)) wr.heap.size n (.slice bR 0 ck):=aF.new wr n _;have HB3:=ae (HB.o.trans (hB3.mono HB.o.size));have bF:=ae (HO.o.alloc (.cells #[.int .i64 n.kind,.int .i64 n.num,.string n.text,.string n.ref.sh,.int .i64 n.ref.c,.int .i64 n.ref.r,.bool n.ref.ac,.bool n.ref.ar,.string n.ag.sh,.int .i64 n.ag.c,.int .i64 n.ag.r,.bool n.ag.ac,.bool n.ag.ar,.slice bR 0 ck] 106));clear hB3;go_upto_region 6 with (fail)
      generalize hb3:wr.heap.size=b3 at bf ⊢;generalize wr.alloc (.cells #[.int .i64 n.kind,.int .i64 n.num,.string n.text,.string n.ref.sh,.int .i64 n.ref.c,.int .i64 n.ref.r,.bool n.ref.ac,.bool n.ref.ar,.string n.ag.sh,.int .i64 n.ag.c,.int .i64 n.ag.r,.bool n.ag.ac,.bool n.ag.ar,.slice bR 0 ck] 106)=w3 at bf HB3 bF ⊢;clear hb3 k0 k1 k2 k3 k4 k5 k6 k7 k8 k9 k10 k11 k12 k13 HO;have bf:=ae bf;obtain⟨f,hf⟩:∃f,st.length - 0=f:=⟨_,rfl⟩;have sW:0≤st.length:=bA _;have Dq:f≤st.length:=by omega
      have iW:=ae (show ∀W,Below w3.heap.size w3 W→gF W w3.heap.size (.slice none 0 0) (st.drop f)from fun W hW=>⟨none,0,by rw[HST.o];simp,by rw[HST.o];simp,by unfold maxLen;omega,.inl (by rw[HST.o];simp)⟩);have Cj:=ae (xx.o.below HB3.o (aj _));by_cases hdk:st.drop f=n.kids;rotate_left
      · have HT2:=ae (show dC (vs.map (·.1))=false by rw[HT.o,HD.o,qc,HM.o,hf,aK hdk,Bool.false_and,Bool.and_false,Bool.and_false])
        exact absurd HT2.o (by rw[l7.o];decide)
      have BA:=ae (show ∀W,Below w3.heap.size w3 W→Calls Tryz.prog 91 #[.slice none 0 0,.slice bR 0 ck] W fun e w'=>e = .returned (.bool true)∧Below W.heap.size W w' from fun W hW=>by
       have:=IG W w3.heap.size _ _ _ _ (iW.o W hW) ((Cj.o.mono HB3.o.size).below hW (aj _));rw[aL hdk]at this;exact this)
      have HDK:=ae hdk;cases hnb:dN n
      · have HT2:=ae (show dC (vs.map (·.1))=false by rw[HT.o,HD.o,qc,hnb,Bool.false_and])
        exact absurd HT2.o (by rw[l7.o];decide)
      · have HT2:=ae (show dC (vs.map (·.1))=oI (st.take f++[(i:Int)]) (i+1) ((vs.map (·.1)).drop (i+1))by rw[HT.o,HD.o,qc,hnb,HM.o,aL sW,hf,aL hdk,jW,jW,jW])
        have fo:=ae (show ∀W,Below w3.heap.size w3 W→Calls Tryz.prog 92 #[.agg #[.int .i64 n.kind,.int .i64 n.num,.string n.text,.string n.ref.sh,.int .i64 n.ref.c,.int .i64 n.ref.r,.bool n.ref.ac,.bool n.ref.ar,.string n.ag.sh,.int .i64 n.ag.c,.int .i64 n.ag.r,.bool n.ag.ac,.bool n.ag.ar,.slice bR 0 ck]] W fun e w'=>e = .returned (.bool true)∧Below W.heap.size W w' from fun W hW=>by
         exact J3 W n (ib.o.below (HB3.o.trans (hW.mono HB3.o.size))) HZ1.o HZ2.o HZ3.o bR 0 ck F6.o (by rw[← HM.o,J2,hnb]))
        clear sW hdk hnb;refine wp_region_held_drew (S:=fun W=>Below w3.heap.size w3 W) (by kernel_rfl) (Below.drew (ak w3.heap.size w3)) (fun _ => ?_);show wpAnyH _ _ _ _ _ 16 #[false,false,false,false,false,false,false,false,false,false,false,false,false,false,false,false] _ _;refine hT 0 (Below.drew (ak w3.heap.size w3)) ?_;refine hT 1 (Below.drew (ak w3.heap.size w3)) ?_;refine hT 2 (Below.drew (ak w3.heap.size w3)) ?_;refine hT 3 (Below.drew (ak w3.heap.size w3)) ?_;refine hT 4 (Below.drew (ak w3.heap.size w3)) ?_;refine hT 5 (Below.drew (ak w3.heap.size w3)) ?_;refine hT 6 (Below.drew (ak w3.heap.size w3)) ?_;refine hT 7 (Below.drew (ak w3.heap.size w3)) ?_ (hy:=by(intro jy hSw;have hz:=(bf.o.below hSw bf.o.lt).cells;go_simp;try(with_reducible rfl)));refine hO 8 (fun K hK => ?_);go_simp;refine(BA.o _ (Below.drew (ak w3.heap.size w3))).mono ?_;rintro e w4 ⟨rfl,h1⟩;have HE:=ae ((Below.drew (ak w3.heap.size w3)).trans h1);clear h1;go_wp2_with fail
        refine hK.o _ _ HE.o ?_;clear hK K;simp only[Act.put,sT,dn,dm];refine hT 9 HE.o ?_;refine hT 10 HE.o ?_;refine hT 11 HE.o ?_;refine hT 12 HE.o ?_ (hy:=by(intro jy hSw;have hz:=(bf.o.below hSw bf.o.lt).cells;go_simp;try(with_reducible rfl)));refine hO 13 (fun K hK => ?_);go_simp;refine(fo.o _ HE.o).mono ?_;rintro e w5 ⟨rfl,h1⟩;have HF:=ae (HE.o.trans (h1.mono HE.o.size));clear h1;go_wp2_with fail
        refine hK.o _ _ HF.o ?_;clear hK K;simp only[Act.put,sT,dn,dm];refine hT 14 HF.o ?_;refine hT 15 HF.o ?_;refine wpAnyH_done (by kernel_rfl) ?_ _;have cz:=ae (HB3.o.trans (HF.o.mono HB3.o.size));have iU:=ae (bF.o.below HF.o (aj _));have DF:(st.take f).length≤1000:=by rw[iB];omega
        go_wp2_with (at_builtin;refine lW qQ.o (bK .i64) rfl (.tmp 38) (.tmp 40) rfl w.heap.size (.slice none 0 0) (st.take f) rfl ((show Own (bK .i64) 3 w5 w.heap.size (.slice none 0 0) (st.take f)from by rw[HST.o,List.take_nil];exact Own.nil _ _ _ _).alloc _) ⟨w5.heap.size,0,none⟩ 1 1 [(i:Int)] rfl rfl ?_ ?_ ?_ ?_ ?_;exact iH _ _ _ rfl;exact eO (Nat.mul_le_mul_left _ rG) (by omega);(unfold maxLen;omega);(have:=cz.o.size;simp <;> omega);intro uX w6 h1 h2;have gY:=ae h1;have oM:=ae (((cz.o.alloc cz.o.size _)).trans h2);clear h1 h2)
        go_roundw
        case rel=>exact⟨i+1,st.take f++[(i:Int)],uX,by omega,by rw[ax,iB,gu];omega,rfl,by go_num,HT2,gY,oM⟩
        case measure=>simp[intOf];omega
    · skip
      by_cases sW:m≤st.length;rotate_left
      · have DI:(st.length:Int) - (m:Int)<0:=by omega
        have HT2:=ae (show dC (vs.map (·.1))=false by rw[HT.o,HD.o,qc,HM.o,aK sW,Bool.false_and,Bool.and_false]);exact absurd HT2.o (by rw[l7.o];decide)
      obtain⟨f,hf⟩:∃f,st.length - m=f:=⟨_,rfl⟩;have hw1 : -9223372036854775808≤(st.length:Int) - (m:Int):=by omega
      have hw2:(st.length:Int) - (m:Int)≤9223372036854775807:=by omega
      have hfi:(st.length:Int) - (m:Int)=(f:Int):=by omega
      have hfn:¬ (f:Int)<0:=by omega
      have hf0:(0:Int)≤(f:Int):=by omega
      have hfl:(f:Int)≤(st.length:Int):=by omega
      have Dq:f≤st.length:=by omega
      have hB3:Below wr.heap.size wr (wr.alloc (.cells #[.int .i64 n.kind,.int .i64 n.num,.string n.text,.string n.ref.sh,.int .i64 n.ref.c,.int .i64 n.ref.r,.bool n.ref.ac,.bool n.ref.ar,.string n.ag.sh,.int .i64 n.ag.c,.int .i64 n.ag.r,.bool n.ag.ac,.bool n.ag.ar,.slice bR m ck] 106)):=(ak _ _).alloc (aj _) _;have bf:aF (wr.alloc (.cells #[.int .i64 n.kind,.int .i64 n.num,.string n.text,.string n.ref.sh,.int .i64 n.ref.c,.int .i64 n.ref.r,.bool n.ref.ac,.bool n.ref.ar,.string n.ag.sh,.int .i64 n.ag.c,.int .i64 n.ag.r,.bool n.ag.ac,.bool n.ag.ar,.slice bR m ck] 106)) wr.heap.size n (.slice bR m ck):=aF.new wr n _;have HB3:=ae (HB.o.trans (hB3.mono HB.o.size));have bF:=ae (HO.o.alloc (.cells #[.int .i64 n.kind,.int .i64 n.num,.string n.text,.string n.ref.sh,.int .i64 n.ref.c,.int .i64 n.ref.r,.bool n.ref.ac,.bool n.ref.ar,.string n.ag.sh,.int .i64 n.ag.c,.int .i64 n.ag.r,.bool n.ag.ac,.bool n.ag.ar,.slice bR m ck] 106));clear hB3;go_upto_region 6 with (fail)
      generalize hb3:wr.heap.size=b3 at bf ⊢;generalize wr.alloc (.cells #[.int .i64 n.kind,.int .i64 n.num,.string n.text,.string n.ref.sh,.int .i64 n.ref.c,.int .i64 n.ref.r,.bool n.ref.ac,.bool n.ref.ar,.string n.ag.sh,.int .i64 n.ag.c,.int .i64 n.ag.r,.bool n.ag.ac,.bool n.ag.ar,.slice bR m ck] 106)=w3 at bf HB3 bF ⊢;clear hb3 k0 k1 k2 k3 k4 k5 k6 k7 k8 k9 k10 k11 k12 k13 HO;have bf:=ae bf;have aaC:(f:Int)≤(wK:Int):=by omega
      obtain⟨AT,RV⟩:∃AT,(if wK=f then some (⟨rg,0,none⟩:Addr)else some ⟨rg,f,none⟩)=AT:=⟨_,rfl⟩;have iW:=ae (show ∀W,Below w3.heap.size w3 W→gF W w3.heap.size (.slice AT (st.length - f) (wK - f)) (st.drop f)from fun W hW=>by rw[← RV];exact(gF.tail bF.o f Dq hrc hrm (by have:=(bF.o.kT rg rfl).2.1;exact this)).below hW (aj _));have Cj:=ae (xx.o.below HB3.o (aj _));by_cases hdk:st.drop f=n.kids;rotate_left
      · have HT2:=ae (show dC (vs.map (·.1))=false by rw[HT.o,HD.o,qc,HM.o,hf,aK hdk,Bool.false_and,Bool.and_false,Bool.and_false])
        exact absurd HT2.o (by rw[l7.o];decide)
      have BA:=ae (show ∀W,Below w3.heap.size w3 W→Calls Tryz.prog 91 #[.slice AT (st.length - f) (wK - f),.slice bR m ck] W fun e w'=>e = .returned (.bool true)∧Below W.heap.size W w' from fun W hW=>by
       have:=IG W w3.heap.size _ _ _ _ (iW.o W hW) ((Cj.o.mono HB3.o.size).below hW (aj _));rw[aL hdk]at this;exact this)
      have HDK:=ae hdk;cases hnb:dN n
      · have HT2:=ae (show dC (vs.map (·.1))=false by rw[HT.o,HD.o,qc,hnb,Bool.false_and])
        exact absurd HT2.o (by rw[l7.o];decide)
      · have HT2:=ae (show dC (vs.map (·.1))=oI (st.take f++[(i:Int)]) (i+1) ((vs.map (·.1)).drop (i+1))by rw[HT.o,HD.o,qc,hnb,HM.o,aL sW,hf,aL hdk,jW,jW,jW])
        have fo:=ae (show ∀W,Below w3.heap.size w3 W→Calls Tryz.prog 92 #[.agg #[.int .i64 n.kind,.int .i64 n.num,.string n.text,.string n.ref.sh,.int .i64 n.ref.c,.int .i64 n.ref.r,.bool n.ref.ac,.bool n.ref.ar,.string n.ag.sh,.int .i64 n.ag.c,.int .i64 n.ag.r,.bool n.ag.ac,.bool n.ag.ar,.slice bR m ck]] W fun e w'=>e = .returned (.bool true)∧Below W.heap.size W w' from fun W hW=>by
         exact J3 W n (ib.o.below (HB3.o.trans (hW.mono HB3.o.size))) HZ1.o HZ2.o HZ3.o bR m ck F6.o (by rw[← HM.o,J2,hnb]))
        clear sW hdk hnb;refine wp_region_held_drew (S:=fun W=>Below w3.heap.size w3 W) (by kernel_rfl) (Below.drew (ak w3.heap.size w3)) (fun _ => ?_);show wpAnyH _ _ _ _ _ 16 #[false,false,false,false,false,false,false,false,false,false,false,false,false,false,false,false] _ _;refine hT 0 (Below.drew (ak w3.heap.size w3)) ?_;refine hT 1 (Below.drew (ak w3.heap.size w3)) ?_;refine hT 2 (Below.drew (ak w3.heap.size w3)) ?_;refine hT 3 (Below.drew (ak w3.heap.size w3)) ?_;refine hT 4 (Below.drew (ak w3.heap.size w3)) ?_;refine hT 5 (Below.drew (ak w3.heap.size w3)) ?_;refine hT 6 (Below.drew (ak w3.heap.size w3)) ?_;refine hT 7 (Below.drew (ak w3.heap.size w3)) ?_ (hy:=by(intro jy hSw;have hz:=(bf.o.below hSw bf.o.lt).cells;go_simp;try(with_reducible rfl)));refine hO 8 (fun K hK => ?_);go_simp;refine(BA.o _ (Below.drew (ak w3.heap.size w3))).mono ?_;rintro e w4 ⟨rfl,h1⟩;have HE:=ae ((Below.drew (ak w3.heap.size w3)).trans h1);clear h1;go_wp2_with fail
        refine hK.o _ _ HE.o ?_;clear hK K;simp only[Act.put,sT,dn,dm];refine hT 9 HE.o ?_;refine hT 10 HE.o ?_;refine hT 11 HE.o ?_;refine hT 12 HE.o ?_ (hy:=by(intro jy hSw;have hz:=(bf.o.below hSw bf.o.lt).cells;go_simp;try(with_reducible rfl)));refine hO 13 (fun K hK => ?_);go_simp;refine(fo.o _ HE.o).mono ?_;rintro e w5 ⟨rfl,h1⟩;have HF:=ae (HE.o.trans (h1.mono HE.o.size));clear h1;go_wp2_with fail
        refine hK.o _ _ HF.o ?_;clear hK K;simp only[Act.put,sT,dn,dm];refine hT 14 HF.o ?_;refine hT 15 HF.o ?_;refine wpAnyH_done (by kernel_rfl) ?_ _;have cz:=ae (HB3.o.trans (HF.o.mono HB3.o.size));have iU:=ae (bF.o.below HF.o (aj _));have DF:(st.take f).length≤1000:=by rw[iB];omega
        go_wp2_with (at_builtin;refine lW qQ.o (bK .i64) rfl (.tmp 38) (.tmp 40) rfl w.heap.size (.slice (some ⟨rg,0,none⟩) f wK) (st.take f) rfl ((Wp iU.o f Dq).alloc _) ⟨w5.heap.size,0,none⟩ 1 1 [(i:Int)] rfl rfl ?_ ?_ ?_ ?_ ?_;exact iH _ _ _ rfl;exact eO (Nat.mul_le_mul_left _ rG) (by omega);(unfold maxLen;omega);(have:=cz.o.size;simp <;> omega);intro uX w6 h1 h2;have gY:=ae h1;have oM:=ae (((cz.o.alloc cz.o.size _)).trans h2);clear h1 h2)
        go_roundw
        case rel=>exact⟨i+1,st.take f++[(i:Int)],uX,by omega,by rw[ax,iB,gu];omega,rfl,by go_num,HT2,gY,oM⟩
        case measure=>simp[intOf];omega
  · have hii:¬ (i:Int)<(nl:Int):=by omega
    have hin:i=nl:=by omega
    have HT2:=ae (show dC (vs.map (·.1))=decide (st.length=1)by
     rw[HT.o,List.drop_of_length_le (by rw[dQ,xh.o];omega)];rfl)
    rcases HO.o.shape with ⟨rfl,hst⟩|⟨rg,wK,rfl, -⟩
    · rw[hst]at HT2
      exact absurd HT2.o (by rw[l7.o];decide)
    · by_cases h1:st.length=1
      · have h1i:((st.length:Int) == 1)=true:=by rw[bI];omega
        clear h1 HT2;go_wp2_with fail
        go_ret;exact⟨rfl,HB.o⟩
      · rw[aK h1,l7.o]at HT2
        exact absurd HT2.o (by decide)
theorem Own.Yt {lo:Nat}{v:Value}{xs:List Int}(h:Own (bK .i64) 3 w lo v xs):gF w w.heap.size v xs:=by
 rcases h.shape with ⟨rfl,rfl⟩|⟨g,cap,rfl,h1,h2,h3,h4⟩
 · exact⟨none,0,rfl,aj _,by unfold maxLen;omega,.inl rfl⟩
 · refine⟨_,cap,rfl,h3,h4,.inr ⟨g,0,rfl,h2,fun j x hj => ?_⟩⟩
   rw[Nat.zero_add];have:=(bK .i64).at xs j 0 x hj (by omega);rw[Nat.mul_one,Nat.add_zero]at this;exact Own.cells h j _ (by rw[this];rfl)
theorem jD.sn {lo g n cap:Nat}{vs:List aO}(h:jD w lo (.slice (some ⟨g,0,none⟩) n cap) vs)(hn:vs.length=n):ig w w.heap.size (.slice (some ⟨g,0,none⟩) n cap) (vs.map fun v=>(v.n,v.dL)):=by
 refine⟨⟨_,cap,by rw[dQ,hn],.inr ⟨g,0,rfl,(Own.kT h.1 g rfl).2.1,fun i nd k hi j hj => ?_⟩⟩, ?_⟩
 · rw[List.getElem?_map]at hi
   obtain⟨v,hv,e⟩:=Option.map_eq_some_iff.1 hi;injection e with e1 e2;subst e1;subst e2;rw[Nat.zero_add];exact h.cell i v hv j hj
 · intro p hp
   obtain⟨v,hv,rfl⟩:=List.mem_map.1 hp;exact(h.2 v hv).Yt
theorem YE(vs:List aO):(vs.map fun v=>(v.n,v.dL)).map (·.1)=vs.map aO.n:=by rw[List.map_map];rfl
theorem ig.Uz {v:Value}(h:ig w B v vs):∃A cap,v = .slice A vs.length cap:=by
 obtain⟨⟨A,cap,h,_⟩,_⟩:=h;exact⟨A,cap,h⟩
theorem ig.kW {v:Value}(h:ig w b v vs)(hf:aH w w' b)(hw:b<w.heap.size):ig w' b v vs:=by
 obtain⟨⟨A,cap,h1,h2⟩,h3⟩:=h;refine⟨⟨A,cap,h1,h2.imp id ?_⟩,fun p hp=>(h3 p hp).kW hf (aj _) hw⟩;rintro⟨pb,po,e1,e2,e3⟩;exact⟨pb,po,e1,e2,fun i n k hi j hj=>(dx (a:=⟨pb,po+i*14+j,none⟩) (hf.block pb (by omega) (by omega) (.inl e2))).trans (e3 i n k hi j hj)⟩
theorem ig.lift {C:Nat}{v:Value}(h:ig w B v vs)(hb:Below B w w')(hC:B≤C):ig w' C v vs:=by
 obtain⟨⟨A,cap,h1,h2⟩,h3⟩:=h;refine⟨⟨A,cap,h1,h2.imp id ?_⟩,fun p hp => ?_⟩
 · rintro⟨pb,po,e1,e2,e3⟩
   exact⟨pb,po,e1,by omega,fun i n k hi j hj=>(hb.cell (p:=⟨pb,po+i*14+j,none⟩) e2).trans (e3 i n k hi j hj)⟩
 · obtain⟨A2,c2,g1,g2,g3,g4⟩:=h3 p hp
   refine⟨A2,c2,g1,g2,g3,g4.imp id ?_⟩;rintro⟨pb,po,e1,e2,e3⟩;exact⟨pb,po,e1,by omega,fun j x hj=>(hb.cell (p:=⟨pb,po+j,none⟩) e2).trans (e3 j x hj)⟩
def ER(o:Option Value):Nat:=match o with|some (.slice _ n _)=>n|_=>0
theorem Mi {size:Nat}{E:Enc α size}{e:TypeId}{v:Value}{xs:List α}(h:Own E e w base v xs):ER (some v)=xs.length:=by
 rcases h.shape with ⟨rfl,rfl⟩|⟨g,cap,rfl, -⟩
 · rfl
 · rfl
def aS(b L:Nat)(w:World):Nat:=2*(L - ER (w.cell? ⟨b,3,none⟩)) - ER (w.cell? ⟨b,1,none⟩)
theorem bg.aS {nv:Value}{st:List au}{txt:List Int}(h:bg w b nv st txt)(L:Nat):aS b L w=2*(L - txt.length) - st.length:=by
 obtain⟨wv,⟨ad,bv,h1,_,h3,_⟩,h4⟩:=h;obtain⟨-,c1, -,c3⟩:=h1.facts;unfold Go.Proofs.YtahjnhmidjeniaaGreatDoor.aS;rw[c1,c3,Mi h4,Mi h3]
theorem bg.wait {nv:Value}{st:List au}{txt:List Int}(h:bg w b nv st txt):∃A c,w.cell? ⟨b,1,none⟩=some (.slice A st.length c):=by
 obtain⟨wv,⟨ad,bv,h1, -⟩,h4⟩:=h;have c1:=h1.facts.2.1;rcases h4.shape with ⟨rfl,rfl⟩|⟨g,cap,rfl, -⟩
 · exact⟨_,_,c1⟩
 · exact⟨_,_,c1⟩
theorem WK (w:World)(v:Value)(vs:List (Nd × Value))(hv:Vars w)(jK:ik w)(Aa:l8 w)(hsh:l9 w)(h:ig w w.heap.size v vs)(hz:SZ vs)(jk:∀q∈vs,q.1.num≤9223372036854775807)(hlen:(gm (vs.map (·.1))).length≤1000000000)(ht:dC (vs.map (·.1))=true) :
 Calls Tryz.prog 47 #[v] w fun e w'=>e = .returned (.string (strOfNums (gm (vs.map (·.1)))))∧Below w.heap.size w w':=by
 have hT:=WN w v vs hv h hz ht;have HT:=ae hT;obtain⟨l,hl⟩:∃l,vs.map (·.1)=l:=⟨_,rfl⟩
 have jI:0<vs.length:=by
  rcases Nat.eq_zero_or_pos vs.length with e|e
  · rw[List.length_eq_zero_iff.1 e]at ht;exact absurd ht (by decide)
  · exact e
 have hlv:l.length=vs.length:=by rw[← hl,dQ]
 obtain⟨L,hL⟩:∃L,(gm l).length=L:=⟨_,rfl⟩;rw[hl,hL]at hlen;have hpl:gm l=jQ l ((l.length:Int) - 1):=by unfold gm jQ;rw[ah (hl ▸ ht)]
 have hp0:gP l (au.op ((l.length:Int) - 1) 1)=gm l:=by rw[wI,D6,hpl]
 have Ab:fU l (au.op ((l.length:Int) - 1) 1):=fU.op (by omega) (by omega) 1;rw[hlv]at hp0 Ab;obtain⟨N,hN⟩:∃N,vs.length=N:=⟨_,rfl⟩;have hN9:N≤1000:=by rw[← hN];exact hz.1
 rw[hN]at hp0 Ab jI;have hw1:wrap64 ((N:Int) - 1)=(N:Int) - 1:=by unfold wrap64;omega
 obtain⟨A,cap,hva⟩:=h.Uz;rw[hN]at hva;subst hva;have zt:=ae h;have qj:=ae hz;have Gf:=ae jk;have Gv:=ae ht;have HL:=ae hl;have oP:=ae hL;have N7:=ae hp0;have NW:=ae Ab;have NH:=ae (show ik w∧l8 w∧l9 w from⟨jK,Aa,hsh⟩);rw[hl];clear hT hv jK Aa hsh h hz jk ht hl hL hpl hp0 Ab hlv hN;go_enter Tryz.func47,Tryz.ntmps47;go_upto_region 3 with (go_at_call 68;((with_reducible refine HT.o.mono ?_);rintro e w1 ⟨rfl,h1⟩;have H1:=ae h1;clear h1))
 go_upto_region 4 with (fail)
 have hwr:dA (w1.alloc (.cells #[.slice A N cap,.slice none 0 0,.pointer none,.slice none 0 0] 139)) w1.heap.size (.slice A N cap) (.slice none 0 0) (.pointer none) (.slice none 0 0):=(gV w1 _).1;have hB2:Below w1.heap.size w1 (w1.alloc (.cells #[.slice A N cap,.slice none 0 0,.pointer none,.slice none 0 0] 139)):=(ak _ _).alloc (aj _) _;obtain⟨b,hb⟩:∃b,w1.heap.size=b:=⟨_,rfl⟩;obtain⟨w2,hw2⟩:∃w2,w1.alloc (.cells #[.slice A N cap,.slice none 0 0,.pointer none,.slice none 0 0] 139)=w2:=⟨_,rfl⟩;have hwb:w.heap.size≤b:=by rw[← hb];exact H1.o.size
 have Bp:=ae (H1.o.trans (hB2.mono H1.o.size));rw[hw2]at hwr Bp ⊢;rw[hb]at hwr ⊢;have hbl:b<w2.heap.size:=hwr.lt;have nN:=ae (show bg w2 b (.slice A N cap) [] []from⟨_,⟨_,_,hwr,.inl rfl,Own.nil _ _ _ _,fun x hx=>absurd hx (by simp)⟩,Own.nil _ _ _ _⟩);have HG2:=ae (show jY w w2 b from⟨hwb,Bp.o,NH.o⟩);have Ou:=ae (zt.o.lift Bp.o hwb);have uy:=ae (fun (wr:World)(hr:Below w2.heap.size w2 wr)=>vk wr b (.slice A N cap) [] [au.op ((N:Int) - 1) 1] [] #[.string ⟨#[]⟩,.int .i64 ((N:Int) - 1),.int .i64 1] 1 rfl rfl (nN.o.below hr) (by show 1≤1000000;decide) (bA _));clear hw2 hb hwr hB2 HT
 go_upto_region 5 with (first
  | (go_at_call 70;((with_reducible refine(yz _ _ _).mono ?_);rintro e w3 ⟨rfl,h3⟩;have HB3:=ae h3;clear h3))
  | (go_at_call 69;((with_reducible refine(uy.o _ HB3.o).mono ?_);rintro e w4 ⟨rfl,h3,h4⟩;have Ob:=ae h3;have lY:=ae ((aH.dU HB3.o).trans h4);clear h3 h4)))
 go_loopw [] (fun wr=>∃(st:List au)(txt:List Int),Hid (bg wr b (.slice A N cap) st txt)∧Hid (aH w2 wr b)∧Hid (∀p∈st,fU l p)∧Hid (txt++st.reverse.flatMap (gP l)=gm l))
  (fun wr=>aS b L wr)
 case atStart=>exact⟨[au.op ((N:Int) - 1) 1],[],Ob,lY,ae (fun p hp=>by rw[gX.1 hp];exact NW.o),ae (by show gP l (au.op ((N:Int) - 1) 1)++[]=_;rw[bE];exact N7.o)⟩
 case round =>
  obtain⟨st,txt,HQ,HF,nM,HE⟩:=hrel;rcases List.eq_nil_or_concat st with rfl|⟨st',p,rfl⟩
  · obtain⟨Nn,cw,c1⟩:=HQ.o.wait
    rw[fO]at c1;have zx:=ae (show txt=gm l from by have h:=HE.o;rw[List.reverse_nil,List.flatMap_nil,bE]at h;exact h);obtain⟨wv,hws, -⟩:=HQ.o;have Ov:=ae (YU wr b (.slice A N cap) wv txt hws (by rw[zx.o];exact HL.o ▸ Zr Gv.o (fun n hn=>by obtain⟨q,hq,rfl⟩:=List.mem_map.1 hn;exact Gf.o q hq)));clear hws;go_wp2_with (go_at_call 73;((with_reducible refine Ov.o.mono ?_);rintro e w5 ⟨rfl,h3⟩;have eP:=ae h3;clear h3))
    go_ret;refine⟨by rw[zx.o] <;> rfl, ?_⟩;have hg:=((HG2.o.kW HF.o)).2.1;exact hg.trans ((eP.o.mono (by omega)))
  · rw [List.concat_eq_append]at HQ nM HE
    obtain⟨Nn,cw,c1⟩:=HQ.o.wait;rw[ax,gu]at c1;obtain⟨M,hM⟩:∃M:Nat,st'.length+1=M:=⟨_,rfl⟩;have hM0:(0:Int)<(M:Int):=by omega
    rw[hM]at c1;have htr:dC l=true:=by rw[← HL.o];exact Gv.o
    have hpk:fU l p:=nM.o p (by simp);have hE:=HE.o;rw[List.reverse_append,List.reverse_singleton,nI,fD]at hE;have hE2:=congrArg List.length hE;rw[ax,ax,oP.o]at hE2;have hfl:=zX htr st'.reverse (fun q hq=>nM.o q (List.mem_append_left _ (List.mem_reverse.1 hq)));rw[List.length_reverse]at hfl;have Di:=Mr htr p hpk;have Jf:=congrArg List.length Di;rw[ax]at Jf;have RZ:=zX htr _ (EX htr p hpk);have hSM:=YN htr p hpk;have N8:=ae (Wz wr b (.slice A N cap) st' p txt HQ.o (by omega));have GD:=ae (fun (w5:World)(h5:bg w5 b (.slice A N cap) st' txt)(hf:dR wr w5 b)=>aag w w5 b (.slice A N cap) vs st' txt p (HG2.o.kW (HF.o.trans (aH.ou hf))) h5 (Ou.o.kW (HF.o.trans (aH.ou hf)) hbl) qj.o (by rw[HL.o];exact htr) Gf.o (by rw[HL.o];exact hpk) (by rw[HL.o];omega) (by rw[HL.o];omega));rw[HL.o]at GD
    have Od:=ae (fun (w6:World)(hq:bg w6 b (.slice A N cap) (st'++(jw l p).2.reverse) (txt++(jw l p).1))=>show aS b L w6<aS b L wr from by
     rw[hq.aS,HQ.o.aS,ax,ax,ax,List.length_reverse,gu];omega)
    have Bz:=ae (show(txt++(jw l p).1)++(st'++(jw l p).2.reverse).reverse.flatMap (gP l)=gm l from by
     rw[List.reverse_append,List.reverse_reverse,List.flatMap_append,bD txt, ← bD (jw l p).1, ← Di];exact hE)
    have BS:=ae (show ∀q∈st'++(jw l p).2.reverse,fU l q from fun q hq=>by
     rcases eG.1 hq with hq|hq
     · exact nM.o q (List.mem_append_left _ hq)
     · exact EX htr p hpk q (List.mem_reverse.1 hq))
    clear hE hE2 hfl Di Jf RZ hSM hM
    go_wp2_with (first
     | (go_at_call 72;((with_reducible refine N8.o.mono ?_);rintro e w5 ⟨rfl,h3,h4⟩;have qZ:=ae h3;have bT:=ae h4;clear h3 h4))
     | (go_at_call 71;((with_reducible refine(GD.o _ qZ.o bT.o).mono ?_);rintro e w6 ⟨rfl,h3,h4⟩;have vK:=ae h3;have gB:=ae h4;clear h3 h4)))
    go_roundw
    case rel=>exact⟨_,_,vK,ae (HF.o.trans ((aH.ou bT.o).trans gB.o)),BS,Bz⟩
    case measure=>exact Od.o _ vK.o
def TI:List Int→Int
 | []=>0
 | c :: _=>if c=39 then 1 else if c=61 then 2 else if c=45∨isNum c=true then 3 else 4
def kd(s:ByteArray):Int:=TI (sb s)
def kI (s:ByteArray):Option Int:=match Lib.atoiAll s.data.toList with
 | .ok v=>some v
 | _=>none
theorem Pk{v:Int}(h:Lib.atoiAll s.data.toList = .ok v):kI s=some v:=by unfold kI;rw[h]
theorem Pj {v:Int}(h:kI s=some v) : -9223372036854775808≤v∧v≤9223372036854775807:=by
 unfold kI at h;split at h
 · rename_i u hu
   have:=Lib.atoiAll_bounds hu;injection h with h;omega
 · cases h
structure Sx (w:World):Prop where
 vars:Vars w
 ops:kE w
 tab:ik w
 max:l8 w
 sh:l9 w
theorem Sx.below(h:Sx w)(hb:Below w.heap.size w w'):Sx w':=⟨h.vars.below hb,h.ops.below hb,h.tab.below hb,h.max.below hb,h.sh.below hb⟩
theorem Sx.WI (h:Sx w)(v:Value)(vs:List (Nd × Value))(hs:ig w w.heap.size v vs)(hz:SZ vs)(jk:∀q∈vs,q.1.num≤9223372036854775807)(hlen:(gm (vs.map (·.1))).length≤1000000000)(ht:dC (vs.map (·.1))=true) :
 Calls Tryz.prog 47 #[v] w fun e w'=>e = .returned (.string (strOfNums (gm (vs.map (·.1)))))∧Below w.heap.size w w':=WK w v vs h.vars h.tab h.max h.sh hs hz jk hlen ht
def zF(M:Nat)(t:ai):Prop:=t.text.size≤M∧t.sh.size≤M
def o5(M:Nat)(n:Nd):Prop:=n.text.size≤M∧n.ref.sh.size≤M∧n.ag.sh.size≤M
def jE(M:Nat)(ts:List ai):Prop:=∀t∈ts,zF M t
def iN(M:Nat)(ns:List Nd):Prop:=∀n∈ns,o5 M n
theorem jE.tail(h:jE M ts):jE M ts.tail:=fun t ht=>h t (List.mem_of_mem_tail ht)
theorem iN.app{a b:List Nd}(h:iN M a)(k:iN M b):iN M (a++b):=fun n hn=>(eG.1 hn).elim (h n) (k n)
theorem iN.one(h:o5 M n):iN M [n]:=fun m hm=>by rw[gX]at hm;subst hm;exact h
theorem o5.plain(M:Nat)(k n:Int)(ks:List Int):o5 M { Nd.zero with kind:=k,num:=n,kids:=ks }:=⟨bA _,bA _,bA _⟩
theorem Xn {a:Nat}{r:List ai}(ht:zF M t)(hs:jE M ts)(h:jb base t ts = .ok (ns,a,r)):iN M ns∧jE M r:=by
 unfold jb at h;split at h
 · split at h
   · rename_i u us hu
     split at h
     · injection h with h;injection h with h1 h2;injection h2 with h2 h3
       subst h1;subst h3;have JL:jE M (u :: us):=by rw[← hu];exact hs.tail
       exact⟨iN.one ⟨bA _,ht.2,(JL u (by simp)).2⟩,fun x hx=>JL x (by simp[hx])⟩
     · cases h
   · cases h
 · injection h with h;injection h with h1 h2;injection h2 with h2 h3
   subst h1;subst h3;exact⟨iN.one ⟨bA _,ht.2,bA _⟩,hs⟩
theorem Me (M:Nat):∀f:Nat,(∀n deep base ts ns a r,dw f n deep base ts=some (.ok (ns,a,r))→jE M ts→iN M ns∧jE M r) ∧
 (∀n deep base ns a ts ns' a' r,fC f n deep base ns a ts=some (.ok (ns',a',r))→jE M ts→iN M ns→iN M ns'∧jE M r) ∧
 (∀deep base ts ns a r,gJ f deep base ts=some (.ok (ns,a,r))→jE M ts→iN M ns∧jE M r) ∧
 (∀deep base ns ks ts ns' ks' r,dY f deep base ns ks ts=some (.ok (ns',ks',r))→jE M ts→iN M ns→iN M ns'∧jE M r)
 | 0=>by
   refine⟨?_, ?_, ?_, ?_⟩
   · intro n deep base ts ns a r h;unfold dw at h;cases h
   · intro n deep base ns a ts ns' a' r h;unfold fC at h;cases h
   · intro deep base ts ns a r h;unfold gJ at h;cases h
   · intro deep base ns ks ts ns' ks' r h;unfold dY at h;cases h
 | f + 1 => by
   obtain⟨i1,i2,i3,i4⟩:=Me M f;refine⟨?_, ?_, ?_, ?_⟩
   · intro n deep base ts ns a r h ht
     rw[nV]at h;by_cases c:n≤3
     · rw [ah c]at h
       rcases bY h with ⟨e,_,h2⟩|⟨ms,b,s,h1,h2⟩
       · cases h2
       · obtain⟨k1,k2⟩:=i1 _ _ _ _ _ _ _ h1 ht
         exact i2 _ _ _ _ _ _ _ _ _ h2 k2 k1
     · rw [af c]at h
       by_cases d:ay ⟨#[45]⟩ ts=true
       · rw [ah d]at h
         by_cases d2:12≤deep
         · rw[ah d2]at h;cases h
         · rw [af d2]at h
           rcases bY h with ⟨e,_,h2⟩|⟨ms,b,s,h1,h2⟩
           · cases h2
           · obtain⟨k1,k2⟩:=i1 _ _ _ _ _ _ _ h1 ht.tail
             injection h2 with h2;injection h2 with h2;injection h2 with h3 h4;injection h4 with h4 h5;subst h3;subst h4;subst h5;exact⟨k1.app (iN.one (o5.plain _ _ _ _)),k2⟩
       · rw[af d]at h;exact i3 _ _ _ _ _ _ h ht
   · intro n deep base ns a ts ns' a' r h ht hn
     rw[qG]at h;by_cases c:dO n ts=0
     · rw[ah c]at h
       injection h with h;injection h with h;injection h with h1 h2;injection h2 with h2 h3;subst h1;subst h2;subst h3;exact⟨hn,ht⟩
     · rw [af c]at h
       rcases bY h with ⟨e,_,h2⟩|⟨ms,b,s,h1,h2⟩
       · cases h2
       · obtain⟨k1,k2⟩:=i1 _ _ _ _ _ _ _ h1 ht.tail
         exact i2 _ _ _ _ _ _ _ _ _ h2 k2 (hn.app (k1.app (iN.one (o5.plain _ _ _ _))))
   · intro deep base ts ns a r h ht
     cases ts with
     | nil=>rw[vg]at h;cases h
     | cons t ts =>
       have h0:zF M t:=ht t (by simp);have hts:jE M ts:=fun x hx=>ht x (by simp[hx])
       have leaf:∀(x:Nd),o5 M x→(some (.ok ([x],base,ts)):Option fF)=some (.ok (ns,a,r))→iN M ns∧jE M r:=by
        intro x hk h;injection h with h;injection h with h;injection h with h1 h2;injection h2 with h2 h3;subst h1;subst h2;subst h3;exact⟨iN.one hk,hts⟩
       rw[kL]at h;by_cases c1:ay ⟨#[40]⟩ (t :: ts)=true
       · rw [ah c1]at h
         by_cases d2:12≤deep
         · rw[ah d2]at h;cases h
         · rw [af d2]at h
           rcases bY h with ⟨e,_,h2⟩|⟨ms,b,s,h1,h2⟩
           · cases h2
           · obtain ⟨k1,k2⟩:=i1 _ _ _ _ _ _ _ h1 hts
             split at h2
             · injection h2 with h2;injection h2 with h2;injection h2 with h3 h4;injection h4 with h4 h5
               subst h3;subst h4;subst h5;exact⟨k1,k2.tail⟩
             · cases h2
       rw[af c1]at h;by_cases c2:t.kind=1
       · rw[ah c2]at h;exact leaf _ (o5.plain _ _ _ _) h
       rw[af c2]at h;by_cases c3:t.kind=2
       · rw[ah c3]at h;exact leaf _ ⟨h0.1,bA _,bA _⟩ h
       rw[af c3]at h;by_cases c4:t.kind=6
       · rw[ah c4]at h;exact leaf _ (o5.plain _ _ _ _) h
       rw[af c4]at h;by_cases c5:t.kind=4
       · rw[ah c5]at h;injection h with h;exact Xn h0 hts h
       rw[af c5]at h;by_cases c6:t.kind=3
       · rw [ah c6]at h
         by_cases e1:t.text=⟨#[84,82,85,69]⟩
         · rw[ah e1]at h;exact leaf _ (o5.plain _ _ _ _) h
         rw[af e1]at h;by_cases e2:t.text=⟨#[70,65,76,83,69]⟩
         · rw[ah e2]at h;exact leaf _ (o5.plain _ _ _ _) h
         rw[af e2]at h;by_cases e3:ay ⟨#[40]⟩ ts=true
         · rw [ah e3]at h
           by_cases d2:12≤deep
           · rw[ah d2]at h;cases h
           · rw [af d2]at h
             rcases bY h with ⟨e,_,h2⟩|⟨ms,ks,s,h1,h2⟩
             · cases h2
             · have hk:iN M ms∧jE M s:=by
                split at h1
                · injection h1 with h1;injection h1 with h1;injection h1 with h3 h4;injection h4 with h4 h5
                  subst h3;subst h5;exact⟨fun _ h=>absurd h (by simp),hts.tail⟩
                · exact i4 _ _ _ _ _ _ _ _ h1 hts.tail (fun _ h=>absurd h (by simp))
               split at h2
               · injection h2 with h2;injection h2 with h2;injection h2 with h3 h4;injection h4 with h4 h5
                 subst h3;subst h4;subst h5;exact⟨hk.1.app (iN.one ⟨h0.1,bA _,bA _⟩),hk.2.tail⟩
               · cases h2
         · rw[af e3]at h;cases h
       · rw[af c6]at h;cases h
   · intro deep base ns ks ts ns' ks' r h ht hn
     rw[qm]at h;rcases bY h with ⟨e,_,h2⟩|⟨ms,b,s,h1,h2⟩
     · cases h2
     · obtain ⟨k1,k2⟩:=i1 _ _ _ _ _ _ _ h1 ht
       split at h2
       · exact i4 _ _ _ _ _ _ _ _ h2 k2.tail (hn.app k1)
       · injection h2 with h2;injection h2 with h2;injection h2 with h3 h4;injection h4 with h4 h5
         subst h3;subst h4;subst h5;exact⟨hn.app k1,k2⟩
theorem Ws {f:Nat}(h:lh f ts=some (.ok ns))(ht:jE M ts):iN M ns:=by
 unfold lh at h;rcases bY h with ⟨e,_,h2⟩|⟨ms,b,s,h1,h2⟩
 · cases h2
 · split at h2
   · injection h2 with h2;injection h2 with h2;subst h2
     exact((Me M f).1 _ _ _ _ _ _ _ h1 ht).1
   · cases h2
theorem EZ{l:List Int}(h:Bytes l):(strOfNums l).size=l.length:=by rw[← bn,iJ _ h]
theorem Ez:∀(n:Nat)(l:List Int)(t:List Int)(k:Nat),l.length≤n→bP l=some (t,k)→t.length≤l.length
 | _,[],_,_,_,h=>by simp[bP]at h
 | 0,_ :: _,_,_,hn,_=>by simp at hn
 | n + 1, x :: l,t,k,hn,h=>by
   rw[oz]at h;by_cases h1:x<32
   · rw[ah h1]at h;cases h
   · rw [af h1]at h
     by_cases h2:x≠34
     · rw [ah h2]at h
       cases hq:bP l with
       | none=>rw[hq]at h;cases h
       | some q =>
         rw[hq]at h;simp only[gq,aI,aJ]at h;have:=Ez n l q.1 q.2 (by simp at hn;omega) hq;rw[← h.1];simp only[aN];omega
     · rw [af h2]at h
       cases l with
       | nil=>simp only[aI,aJ]at h;rw[← h.1];simp
       | cons y m =>
         simp only at h;by_cases h3:y=34
         · rw [ah h3]at h
           cases hq:bP m with
           | none=>rw[hq]at h;cases h
           | some q =>
             rw[hq]at h;simp only[gq,aI,aJ]at h;have:=Ez n m q.1 q.2 (by simp at hn;omega) hq;rw[← h.1];simp only[aN];omega
         · rw[af h3]at h
           simp only[aI,aJ]at h;rw[← h.1];simp
theorem Y8 (sh:List Int)(c r:Int)(ac ar:Bool)(hm:ek sh c r=true):sh.length≤(bC sh c r ac ar).length:=by
 unfold bC;rw[ah hm];by_cases h:sh=[]
 · rw[h];exact bA _
 · rw[af h];simp only[ax];omega
theorem Zg (l:List Int)(t:ai)(n p M:Nat)(hb:Bytes l)(hM:l.length≤M)(h:cK l=some (t,n)):zF M (t.goto p):=by
 have z:(⟨#[]⟩:ByteArray).size≤M:=bA _;cases l with
 | nil=>simp[cK]at h
 | cons x l =>
   have JH:∀q:Int→Bool,((x :: l).takeWhile q).length≤M:=fun q=>eO (vB q _) hM
   rw[nD]at h;by_cases h1:isNum x=true
   · rw [ah h1]at h
     unfold kZ at h;split at h
     · cases h
     · simp only[aI,aJ]at h
       rw[← h.1];exact⟨z,z⟩
   · rw [af h1]at h
     by_cases h2:x=34
     · rw [ah h2]at h
       unfold jr at h;cases hq:bP l with
       | none=>rw[hq]at h;cases h
       | some q =>
         rw[hq]at h;simp only[gq,aI,aJ]at h;obtain⟨g1,g2⟩:=wJ _ l q.1 q.2 (aj _) (fun y hy=>hb y (by simp[hy])) hq;rw[← h.1];refine⟨?_,z⟩;show(strOfNums q.1).size≤M;rw[EZ g1];have:=Ez _ l q.1 q.2 (aj _) hq;simp only[aN]at hM;omega
     · rw [af h2]at h
       by_cases h3:x=35
       · rw [ah h3]at h
         unfold mY at h;split at h
         · simp only[aI,aJ]at h
           rw[← h.1];exact⟨z,z⟩
         · cases h
       · rw [af h3]at h
         by_cases h4:isLet x=true∨x=36
         · rw [ah h4]at h
           unfold lq at h;cases hq:gQ (strOfNums ((x :: l).takeWhile isWord))with
           | some d =>
             rw[hq]at h;simp only[aI,aJ]at h;rw[← h.1];refine⟨z, ?_⟩;show d.sh.size≤M;have e:=(tN _ d hq).2.2;rw[iJ _ (hb.span isWord)]at e;have k1:=Y8 (sb d.sh) d.c d.r d.ac d.ar (tN _ d hq).2.1;rw[e,bn]at k1;exact eO k1 (JH isWord)
           | none =>
             rw[hq]at h;simp only at h;by_cases hc:jG ((x :: l).takeWhile isWord)=true
             · rw[ah hc]at h
               simp only[aI,aJ]at h;rw[← h.1];refine⟨?_,z⟩;show(strOfNums ((x :: l).takeWhile isWord)).size≤M;rw[EZ (hb.span isWord)];exact JH isWord
             · rw[af hc]at h;cases h
         · rw [af h4]at h
           unfold lU at h;split at h
           · cases h
           · simp only[aI,aJ]at h
             rw[← h.1];refine⟨?_,z⟩;show(strOfNums ((x :: l).take (jv (x :: l)))).size≤M;rw[EZ (fun y hy=>hb y (List.mem_of_mem_take hy)),iB];omega
theorem Ee (M:Nat):∀(f p:Nat)(l:List Int)(ts:List ai),Bytes l→l.length≤M→bU f p l=some ts→jE M ts
 | f,p,[],ts,_,_,h=>by
   have h0:bU f p []=some [ai.zero.goto p]:=by unfold bU;rfl
   rw[h0]at h;injection h with h;subst h;intro t ht;rw[gX]at ht;subst ht;exact⟨bA _,bA _⟩
 | 0,_,_ :: _,_,_,_,h=>by unfold bU at h;cases h
 | f + 1,p,x :: l,ts,hb,hM,h=>by
   have hbl:Bytes l:=fun y hy=>hb y (by simp[hy])
   rw[nk]at h;by_cases hx:x=32
   · rw[ah hx]at h
     exact Ee M f (p+1) l ts hbl (by simp only[aN]at hM;omega) h
   · rw [af hx]at h
     cases hq:cK (x :: l)with
     | none=>rw[hq]at h;cases h
     | some q =>
       obtain⟨t0,n⟩:=q;rw[hq]at h;simp only[Option.map_eq_some_iff]at h;obtain⟨us,h1,rfl⟩:=h;have k1:=Ee M f (p+n) _ us (fun y hy=>hb y (List.mem_of_mem_drop hy)) (by rw[jX];omega) h1;intro t ht;rcases gp.1 ht with rfl|ht
       · exact Zg (x :: l) t0 n p M hb hM hq
       · exact k1 t ht
theorem Zf (l:List Int)(t:ai)(n:Nat)(h:cK l=some (t,n)):t.num≤9223372036854775807:=by
 cases l with
 | nil=>simp[cK]at h
 | cons x l =>
   rw[nD]at h;split at h
   · unfold kZ at h
     split at h
     · cases h
     · simp only[aI,aJ]at h
       rw[← h.1];show bV _≤_;omega
   split at h
   · unfold jr at h
     cases hq:bP l with
     | none=>rw[hq]at h;cases h
     | some q =>
       rw[hq]at h;simp only[gq,aI,aJ]at h;rw[← h.1];show(0:Int)≤_;omega
   split at h
   · unfold mY at h
     split at h
     · simp only[aI,aJ]at h
       rw[← h.1];show(0:Int)≤_;omega
     · cases h
   split at h
   · unfold lq at h
     split at h
     · simp only[aI,aJ]at h
       rw[← h.1];show(0:Int)≤_;omega
     · split at h
       · simp only[aI,aJ]at h
         rw[← h.1];show(0:Int)≤_;omega
       · cases h
   · unfold lU at h
     split at h
     · cases h
     · simp only[aI,aJ]at h
       rw[← h.1];show(0:Int)≤_;omega
theorem Tok.num (h:Tok t):t.num≤9223372036854775807:=by
 have:=Zf _ _ _ h.2.1;exact this
theorem Tok.pos(h:Tok t):1≤(bQ t).length:=(nE _ _ _ h.2.1).1
theorem Fx {n rk d:Nat}{d':Nat}{ts':List ai}(h:Wr n rk d ts d' ts'):ts.length≤ts'.length∧∀t∈ts,t∈ts':=by
 rcases h with ⟨_,rfl,_⟩|⟨_,_,l,r,_,_,rfl⟩
 · exact⟨aj _,fun _ h=>h⟩
 · exact⟨by simp;omega,fun t ht=>by simp[ht]⟩
theorem Yg {m:Bool}{ks:List Int}{rk d:Nat}(h:Sh m base ns ks ts rk d):(∀t∈ts,t.num≤9223372036854775807)→ns.length≤ts.length∧∀n∈ns,n.num≤9223372036854775807:=by
 induction h with
 | leaf base ts nd h =>
   intro ht;refine⟨by cases h <;> simp,fun n hn => ?_⟩;rw[gX.1 hn];cases h with
   | num t h=>exact ht t (by simp)
   | yes t h g=>show(1:Int)≤_;omega
   | _=>show(0:Int)≤_;omega
 | neg base ns a ts rk d h m hm d' ts' hw ih =>
   intro ht;obtain⟨w1,w2⟩:=Fx hw;obtain⟨g1,g2⟩:=ih fun t h=>ht t (List.mem_cons_of_mem _ (w2 t h))
   refine⟨by simp only[ax,aN,fO];omega,fun n hn => ?_⟩;rcases eG.1 hn with hn|hn
   · exact g2 n hn
   · rw[gX.1 hn];show(0:Int)≤_;omega
 | op base o ho ns ms a b ts us mI jP d1 d2 h g s hs e1 e2 ts' je hw gw ih jL =>
   intro ht;obtain⟨w1,w2⟩:=Fx hw;obtain⟨x1,x2⟩:=Fx gw;obtain⟨g1,g2⟩:=ih fun t h=>ht t (List.mem_append_left _ (w2 t h))
   obtain⟨y1,y2⟩:=jL fun t h=>ht t (List.mem_append_right _ (List.mem_cons_of_mem _ (x2 t h)))
   refine⟨by simp only[ax,aN,fO];omega,fun n hn => ?_⟩;rcases eG.1 hn with hn|hn
   · exact g2 n hn
   rcases eG.1 hn with hn|hn
   · exact y2 n hn
   · rw[gX.1 hn];show(0:Int)≤_;omega
 | call base ns ks ts d h t l r =>
   rename_i ih
   intro ht;obtain⟨g1,g2⟩:=ih fun t h=>ht t (by simp[h])
   refine⟨by simp only[ax,aN,fO];omega,fun n hn => ?_⟩;rcases eG.1 hn with hn|hn
   · exact g2 n hn
   · rw[gX.1 hn];show(0:Int)≤_;omega
 | none base=>intro _;exact⟨aj _,fun n hn=>by cases hn⟩
 | one base ns a ts rk d h ih=>exact ih
 | and base ns ms ks b ts us rk d1 d2 h hk c hc g ih jL =>
   intro ht;obtain⟨g1,g2⟩:=ih fun t h=>ht t (List.mem_append_left _ h)
   obtain⟨y1,y2⟩:=jL fun t h=>ht t (List.mem_append_right _ (List.mem_cons_of_mem _ h))
   refine⟨by simp only[ax,aN];omega,fun n hn => ?_⟩;rcases eG.1 hn with hn|hn
   · exact g2 n hn
   · exact y2 n hn
theorem MW:∀ts:List ai,(∀t∈ts,Tok t)→ts.length≤(fJ ts).length
 | [],_=>bA _
 | t :: ts,h=>by
   have ih:=MW ts fun u hu=>h u (List.mem_cons_of_mem _ hu)
   have h1:=(h t (by simp)).pos;rw[iK,ax,aN];omega
theorem MV:∀ts:List ai,(∀t∈ts,Tok t)→Bytes (fJ ts)
 | [],_=>fun x hx=>by cases hx
 | t :: ts,h=>fun x hx=>by
   rw[iK]at hx;rcases eG.1 hx with hx|hx
   · exact(h t (by simp)).2.2 x hx
   · exact MV ts (fun u hu=>h u (List.mem_cons_of_mem _ hu)) x hx
theorem Cv (s:ByteArray)(ns:List Nd)(h:lI s (.ok ns)):(ns.length≤300∧0<ns.length∧dC ns=true)∧(∀n∈ns,n.num≤9223372036854775807)∧(gm ns).length≤s.size∧s.size≤300∧lI (strOfNums (gm ns)) (.ok ns):=by
 rcases h with ⟨_,h⟩|⟨_,_,h⟩|⟨h0,ts,f,h1,h2⟩
 · cases h
 · cases h
 · have hb:Bytes (sb s):=fun x hx=>p9 s x hx
   have ht:=Lb h2 (Eg s ts h1).1;obtain⟨us,qH,d,a,g1,g2,g3,g4,g5⟩:=MK hb h1 h2;rw[bn]at g4;obtain⟨k1,k2⟩:=Yg g1 fun t h=>(g3 t h).num
   have k3:=MW us g3;obtain⟨p1,vs,g,p2,p3⟩:=WJ hb h1 h2 ht;rw[bn]at p1
   have jI:0<ns.length:=by
    cases ns with
    | nil=>exact absurd ht (by decide)
    | cons n ns=>simp
   have hby:Bytes (gm ns):=by
    rw[EM g1 ht];exact MV us g3
   refine⟨⟨by omega,jI,ht⟩,k2,p1,h0,.inr (.inr ⟨by rw[strOfNums_size];omega,vs,g,by rw[iJ _ hby];exact p2,p3⟩)⟩
theorem OQ (s:ByteArray)(ns:List Nd)(h:lI s (.ok ns)):∀n∈ns,n.text.size≤1000000∧n.ref.sh.size≤1000000∧n.ag.sh.size≤1000000:=by
 rcases h with ⟨_,h⟩|⟨_,_,h⟩|⟨h0,ts,f,h1,h2⟩
 · cases h
 · cases h
 · exact Ws h2 (Ee 1000000 _ _ _ _ (fun x hx=>p9 s x hx) (by rw[bn];omega) h1)
theorem La (s:ByteArray)(w:World)(hx:Sx w)(ns:List Nd)(hp:lI s (.ok ns)) :
 Calls Tryz.prog 46 #[.string s] w fun e w'=>Below w.heap.size w w'∧∃g cap vs,e = .returned (.tuple #[.slice (some ⟨g,0,none⟩) ns.length cap,.int .i64 0])∧vs.map Prod.fst=ns∧ig w' w'.heap.size (.slice (some ⟨g,0,none⟩) ns.length cap) vs:=by
 refine(Wu s w hx.vars hx.ops ns hp (Cv s ns hp).1.2.1).mono ?_;rintro e w' ⟨hb,g,cap,vs,he,h1,h2,h3, -⟩;exact⟨hb,g,cap,_,he,(YE vs).trans h1,h3.sn h2⟩
def bz{α : Type}(x:Option (Except Int α)):Prop:=∀c,x=some (.error c)→c=5∨c=6
theorem bz.non:bz (none:Option (Except Int α)):=fun c h=>by cases h
theorem bz.ok(v : α):bz (some (.ok v):Option (Except Int α)):=fun c h=>by injection h with h;cases h
theorem bz.e5:bz (some (.error 5):Option (Except Int α)):=fun c h=>by injection h with h;injection h with h;exact .inl h.symm
theorem bz.e6:bz (some (.error 6):Option (Except Int α)):=fun c h=>by injection h with h;injection h with h;exact .inr h.symm
theorem bz.ite{p:Prop} [Decidable p] {x y:Option (Except Int α)} (h:bz x) (g:bz y):bz (if p then x else y):=by split;exact h;exact g
theorem bz.bind {β γ δ: Type}{x:Option (Except Int (α × β × γ))}{k : α → β → γ → Option (Except Int δ)}(h:bz x)(g:∀a b c,bz (k a b c)):bz (fG x k):=fun c hc=>by
 rcases bY hc with ⟨e,h1,h2⟩|⟨a,b,d,_,h2⟩
 · injection h2 with h2;subst h2;exact h c h1
 · exact g a b d c h2
theorem Xm (base:Nat)(t:ai)(ts:List ai):bz (some (jb base t ts)):=by
 unfold jb;split
 · split
   · split
     · exact bz.ok _
     · exact bz.e5
   · exact bz.e5
 · exact bz.ok _
theorem II:∀f:Nat,(∀n deep base ts,bz (dw f n deep base ts))∧(∀n deep base ns a ts,bz (fC f n deep base ns a ts))∧(∀deep base ts,bz (gJ f deep base ts))∧(∀deep base ns ks ts,bz (dY f deep base ns ks ts))
 | 0=>⟨fun _ _ _ _=>by unfold dw;exact bz.non,fun _ _ _ _ _ _=>by unfold fC;exact bz.non,fun _ _ _=>by unfold gJ;exact bz.non,fun _ _ _ _ _=>by unfold dY;exact bz.non⟩
 | f + 1 => by
   obtain⟨i1,i2,i3,i4⟩:=II f;refine⟨fun n deep base ts => ?_,fun n deep base ns a ts => ?_,fun deep base ts => ?_,fun deep base ns ks ts => ?_⟩
   · rw[nV]
     exact bz.ite (bz.bind (i1 _ _ _ _) fun _ _ _=>i2 _ _ _ _ _ _) (bz.ite (bz.ite bz.e6 (bz.bind (i1 _ _ _ _) fun _ _ _=>bz.ok _)) (i3 _ _ _))
   · rw[qG]
     exact bz.ite (bz.ok _) (bz.bind (i1 _ _ _ _) fun _ _ _=>i2 _ _ _ _ _ _)
   · cases ts with
     | nil=>rw[vg];exact bz.e5
     | cons t ts =>
       rw[kL]
       repeat' first
        | exact bz.ok _
        | exact bz.e5
        | exact bz.e6
        | exact Xm _ _ _
        | exact i1 _ _ _ _
        | exact i4 _ _ _ _ _
        | (apply bz.bind)
        | (apply bz.ite)
        | intro
   · rw[qm]
     exact bz.bind (i1 _ _ _ _) fun _ _ _=>bz.ite (i4 _ _ _ _ _) (bz.ok _)
theorem GQ (s:ByteArray)(c:Int)(h:lI s (.error c)):c≠0:=by
 rcases h with ⟨_,h⟩|⟨_,_,h⟩|⟨_,ts,f,_,h⟩
 · injection h with h;omega
 · injection h with h;omega
 · unfold lh at h
   have:=bz.bind ((II f).1 0 0 0 ts) (k:=fun ns _ r=>if tu r=0 then some (.ok ns)else some (.error 5)) (fun _ _ _=>bz.ite (bz.ok _) bz.e5) c h;omega
def wW(w:World):Prop:=∃ev,w.cell? ⟨3,0,none⟩=some ev∧(ev = .nilIface∨∃te pe,ev = .iface te pe)
theorem wW.below (h:wW w)(hb:Below w.heap.size w w'):wW w':=by
 obtain⟨ev,h1,h2⟩:=h;exact⟨ev,(hb.cell (show(⟨3,0,none⟩:Addr).block<w.heap.size from Lib.lt_of_cell h1)).trans h1,h2⟩
structure lv (w:World):Prop where
 sx:Sx w
 Mt:wW w
theorem lv.below(h:lv w)(hb:Below w.heap.size w w'):lv w':=⟨h.sx.below hb,h.Mt.below hb⟩
theorem H5 (c:Int)(_h0:0≤c)(_h1:c≤255)(w:World) :
 Calls Tryz.prog 64 #[.int .u8 c] w fun e w'=>e = .returned (.bool (isNum c))∧w=w':=by
 go_enter Tryz.func64,Tryz.ntmps64
 go_wp2
 all_goals go_ret
 all_goals exact⟨fB (by unfold isNum;first|rfl|(symm;rw[aA];omega)|(symm;rw[gK];omega)|(rw[decide_eq_decide];omega)),rfl⟩
theorem J9(s:ByteArray)(h:s.size=0):kd s=0:=by unfold kd;rw[wM s h];rfl
theorem TJ (s:ByteArray)(hp0:0<s.size)(a:Int)(ha:(s[0].toNat:Int)=a):kd s=if a=39 then 1 else if a=61 then 2 else if a=45∨isNum a=true then 3 else 4:=by
 have hga:(sb s).getD 0 0=a:=by rw[yD s 0 hp0,ha]
 have hl:(sb s).length=s.size:=bn s;unfold kd;cases h:sb s with
 | nil=>rw[h]at hl;simp at hl;omega
 | cons c l =>
   rw[h]at hga;have:c=a:=by simpa using hga
   subst this;rfl
theorem Ua (s:ByteArray)(_hs:s.size≤1000000)(w:World):Calls Tryz.prog 45 #[.string s] w fun e w'=>e = .returned (.int .i64 (kd s))∧w=w':=by
 by_cases h0:s.size=0
 · have hk:=J9 s h0
   have hz:=wM s h0;have HK:=ae hk;clear hk;obtain rfl:s=⟨#[]⟩:=by first|exact hz|(rw[← oH s,hz];rfl)
   clear h0 hz _hs;go_enter Tryz.func45,Tryz.ntmps45;go_wp2_with fail
   all_goals go_ret
   all_goals exact⟨by rw[HK.o];first|done|rfl,rfl⟩
 · have hne:=yJ s h0
   have uQ:s.toList.isEmpty=false:=by cases hq:s.toList with|nil=>exact absurd hq hne|cons a l=>rfl
   have hp0:0<s.size:=by omega
   obtain⟨a,ha⟩:∃a:Int,(s[0].toNat:Int)=a:=⟨_,rfl⟩;have ha1:0≤a∧a≤255:=by have:=s[0].toNat_lt;omega
   have hk:=TJ s hp0 a ha;by_cases c1:a=39
   · rw[ah c1]at hk
     have HK:=ae hk;have e1:(a == 39)=true:=bI.2 c1;clear hk c1 h0;go_enter Tryz.func45,Tryz.ntmps45;go_wp2_with fail
     all_goals go_ret
     all_goals exact⟨by rw[HK.o];first|done|rfl,rfl⟩
   rw[af c1]at hk;have e1:(a == 39)=false:=aB.2 c1;by_cases c2:a=61
   · rw[ah c2]at hk
     have HK:=ae hk;have e2:(a == 61)=true:=bI.2 c2;clear hk c1 c2 h0;go_enter Tryz.func45,Tryz.ntmps45;go_wp2_with fail
     all_goals go_ret
     all_goals exact⟨by rw[HK.o];first|done|rfl,rfl⟩
   rw[af c2]at hk;have e2:(a == 61)=false:=aB.2 c2;by_cases c3:a=45
   · rw[ah (Or.inl c3)]at hk
     have HK:=ae hk;have e3:(a == 45)=true:=bI.2 c3;clear hk c1 c2 c3 h0;go_enter Tryz.func45,Tryz.ntmps45;go_wp2_with fail
     all_goals go_ret
     all_goals exact⟨by rw[HK.o];first|done|rfl,rfl⟩
   have e3:(a == 45)=false:=aB.2 c3;cases c4:isNum a with
   | true =>
     rw[ah (Or.inr c4)]at hk;have HK:=ae hk;clear hk c1 c2 c3 h0;go_enter Tryz.func45,Tryz.ntmps45;go_wp2_with (go_at_call 64;((with_reducible refine(H5 _ ?_ ?_ _).mono ?_);(first|omega|skip);(first|omega|skip);rintro e w' ⟨rfl,rfl⟩))
     all_goals go_ret
     all_goals exact⟨by rw[HK.o];first|done|rfl,rfl⟩
   | false =>
     rw[af (by rw[c4];simp;exact c3)]at hk;have HK:=ae hk;clear hk c1 c2 c3 h0;go_enter Tryz.func45,Tryz.ntmps45;go_wp2_with (go_at_call 64;((with_reducible refine(H5 _ ?_ ?_ _).mono ?_);(first|omega|skip);(first|omega|skip);rintro e w' ⟨rfl,rfl⟩))
     all_goals go_ret
     all_goals exact⟨by rw[HK.o];first|done|rfl,rfl⟩
theorem yh(s:ByteArray)(_hs:s.size≤1000000)(k:Int)(hk:kd s=k)(w:World):Calls Tryz.prog 45 #[.string s] w fun e w'=>e = .returned (.int .i64 k)∧w=w':=hk ▸ Ua s _hs w
theorem qo(h:Below B w w'):Below B w w'.drew:=⟨h.os,h.tape,h.output,h.size,h.block⟩
def xE(s:ByteArray)(n:Int):Prop:=∀v,kI s=some v→n=v
theorem xE.no(h:kI s=none)(n:Int):xE s n:=fun u hu=>by rw[h]at hu;cases hu
theorem ZY (s:ByteArray)(_hs:s.size≤1000000)(w:World)(hx:lv w):Calls Tryz.prog 81 #[.string s] w fun e w'=>∃n,e = .returned (.tuple #[.int .i64 n,.bool (kI s).isSome])∧xE s n∧Below w.heap.size w w':=by
 cases h:Lib.atoiAll s.data.toList with
 | ok v =>
   have HA:=ae (Ha s _hs v h w);have HO:=ae (Pk h);clear h hx;go_enter Tryz.func81,Tryz.ntmps81;go_wp2_with (go_at_call 109;((with_reducible refine HA.o.mono ?_);rintro e w1 ⟨rfl,hb⟩;have HB:=ae hb;clear hb))
   go_region
   all_goals go_wp2_with fail
   all_goals go_ret2
   all_goals exact⟨v,by rw[HO.o];rfl,fun u hu=>by rw[HO.o]at hu;exact dV hu,qo HB.o⟩
 | range =>
   obtain⟨ev,h1,h2⟩:=hx.sx.vars.err;have HA:=ae (Tryz.strconv_Atoi_range s (by omega) h ev w h1 h2);have HO:=ae (show kI s=none by unfold kI;rw[h]);clear h hx h1 h2;go_enter Tryz.func81,Tryz.ntmps81;go_wp2_with (go_at_call 109;((with_reducible refine HA.o.mono ?_);rintro e w1 ⟨N,rfl, -, -,hb⟩;have HB:=ae hb;clear hb))
   go_region
   all_goals go_wp2_with fail
   all_goals go_ret2
   all_goals exact⟨_,by rw[HO.o];rfl,xE.no HO.o _,qo HB.o⟩
 | _ =>
   obtain⟨ev,h1,h2⟩:=hx.Mt;have HA:=ae (Tryz.strconv_Atoi_syntax s (by omega) _ h trivial ev w h1 h2);have HO:=ae (show kI s=none by unfold kI;rw[h]);clear h hx h1 h2;go_enter Tryz.func81,Tryz.ntmps81;go_wp2_with (go_at_call 109;((with_reducible refine HA.o.mono ?_);rintro e w1 ⟨N,rfl, -, -,hb⟩;have HB:=ae hb;clear hb))
   go_region
   all_goals go_wp2_with fail
   all_goals go_ret2
   all_goals exact⟨_,by rw[HO.o];rfl,xE.no HO.o _,qo HB.o⟩
theorem ZZ (s:ByteArray)(_hs:s.size≤1000000)(v:Int)(h:kI s=some v)(w:World)(hx:lv w):Calls Tryz.prog 81 #[.string s] w fun e w'=>e = .returned (.tuple #[.int .i64 v,.bool true])∧Below w.heap.size w w':=by
 refine(ZY s _hs w hx).mono ?_;rintro e w' ⟨n,rfl,h1,h2⟩;exact⟨by rw[h1 v h,h];rfl,h2⟩
theorem Lf (s:ByteArray)(ns:List Nd)(hp:lI s (.ok ns))(w1 wr:World)(hx:Sx wr)(v:Value)(l:List (Nd × Value))(hm:l.map Prod.fst=ns)(hs:ig w1 w1.heap.size v l)(hr:Below w1.heap.size w1 wr) :
 Calls Tryz.prog 47 #[v] wr fun e w'=>e = .returned (.string (strOfNums (gm ns)))∧Below wr.heap.size wr w':=by
 obtain⟨⟨aaK,jI,Te⟩,jk,hpl,aaR,hp2⟩:=Cv s ns hp;have hsz:=OQ s ns hp;have hl:l.length=ns.length:=by rw[← hm,dQ]
 have:=hx.WI v l (hs.lift hr hr.size) ⟨by omega,fun p hp=>hsz p.1 (by rw[← hm];exact List.mem_map_of_mem hp)⟩ (fun p hp=>jk p.1 (by rw[← hm];exact List.mem_map_of_mem hp)) (by rw[show l.map (·.1)=ns from hm];omega) (by rw[show l.map (·.1)=ns from hm];exact Te);rwa[show l.map (·.1)=ns from hm]at this
def En:ByteArray:=⟨#[61]⟩
def yo:ByteArray:=⟨#[39]⟩
inductive mR (s:ByteArray):ByteArray→Int→Prop
 | large (h:100<s.size):mR s ⟨#[]⟩ 4
 | stays (h:s.size≤100)(hk:kd s=0∨kd s=1):mR s s 0
 | form (h:s.size≤100)(hk:kd s=2)(r:ByteArray)(hr:s.extract 1 s.size=r)(ns:List Nd)(hp:lI r (.ok ns))(t:ByteArray)(ht:En++strOfNums (gm ns)=t):mR s t 0
 | bad (h:s.size≤100)(hk:kd s=2)(r:ByteArray)(hr:s.extract 1 s.size=r)(c:Int)(hp:lI r (.error c)):mR s ⟨#[]⟩ c
 | num (h:s.size≤100)(hk:kd s=3)(n:Int)(ha:kI s=some n):mR s (strOfNums (sQ n)) 0
 | text (h:s.size+1≤100)(hk:kd s=4∨(kd s=3∧kI s=none))(t:ByteArray)(ht:yo++s=t):mR s t 0
 | long (h:s.size≤100)(h2:¬ s.size+1≤100)(hk:kd s=4∨(kd s=3∧kI s=none)):mR s ⟨#[]⟩ 4
theorem TK (s:ByteArray)(h:kd s≠0):1≤s.size:=by
 rcases Nat.eq_zero_or_pos s.size with h0|h0
 · exact absurd (J9 s h0) h
 · exact h0
theorem U8 (mk s t:ByteArray)(hm:mk.size=1)(ht:mk++s=t):t.extract 1 t.size=s:=by
 subst ht;rw[ByteArray.extract_append,hm,ByteArray.size_append,hm];rw[show mk.extract 1 (1+s.size)=ByteArray.empty from ByteArray.extract_eq_empty_iff.2 (by omega)];rw[ByteArray.empty_append,show 1+s.size - 1=s.size by omega];exact ByteArray.extract_zero_size
theorem mR.first {t:ByteArray}(h:mR t t 0):t.size≤100∧kd t≤3:=by
 generalize hu:t=u at h;generalize he:(0:Int)=e at h;cases h with
 | large h=>omega
 | stays h hk=>exact⟨by omega,by rcases hk with hk|hk <;> omega⟩
 | form h hk r hr ns hp t ht=>exact⟨h,by omega⟩
 | bad h hk r hr c hp=>exact absurd he.symm (GQ r _ hp)
 | num h hk n ha=>exact⟨h,by omega⟩
 | text h hk t ht =>
   exfalso;have:(yo++u).size=u.size:=by rw[ht]
   rw[ByteArray.size_append]at this;have:yo.size=1:=rfl;omega
 | long h h2 hk=>omega
theorem RA (t p:ByteArray)(hs:t.size≤300)(h1:1≤t.size)(hk:kd t=2)(hr:t.extract 1 t.size=p)(ns:List Nd)(hp:lI p (.ok ns))(sZ:strOfNums (gm ns)=p)(w:World)(hx:lv w) :
 Calls Tryz.prog 32 #[.string t] w fun e w'=>(∃v,e = .returned (.tuple #[v,.bool true]))∧Below w.heap.size w w':=by
 have HA:=ae (La p w hx.sx ns hp);have BZ:=ae (fun (w1:World)(h1:Below w.heap.size w w1)(v:Value)(l:List (Nd × Value))(hm:l.map Prod.fst=ns)(hs:ig w1 w1.heap.size v l)=>(show Calls Tryz.prog 47 #[v] w1.drew fun e w'=>e = .returned (.string p)∧Below w1.drew.heap.size w1.drew w' from sZ ▸ Lf p ns hp w1 w1.drew (hx.sx.below (qo h1)) v l hm hs (qo (ak _ _))));have HK:=ae (yh t (by omega) _ hk w);have hi1:(1:Int)≤(t.size:Int):=by omega
 have hi:¬ (300:Int)<(t.size:Int):=by omega
 obtain⟨L,hL⟩:∃L,ns.length=L:=⟨_,rfl⟩;rw[hL]at HA;clear hp sZ hL hx hs hk;go_enter Tryz.func32,Tryz.ntmps32
 go_wp2_with (first
  | (go_at_call 45;((with_reducible refine HK.o.mono ?_);rintro e w1 ⟨rfl,rfl⟩))
  | (go_at_call 46;((with_reducible refine HA.o.mono ?_);rintro e w1 ⟨hb,g1,lL,l1,rfl,hm1,hs1⟩;have HB1:=ae hb;have bW:=ae (BZ.o w1 hb _ l1 hm1 hs1);clear hb hm1 hs1)))
 go_region_held3 (fun _=>True) (trivial) (first
  | (go_at_call 47;((with_reducible refine bW.o.mono ?_);rintro e w2 ⟨rfl,h1⟩;have HB2:=ae ((qo HB1.o).trans (h1.mono HB1.o.size));clear h1)))
 all_goals go_wp2_with fail
 all_goals go_ret2
 all_goals exact⟨⟨_,rfl⟩,HB2.o⟩
theorem QM (t:ByteArray)(hs:t.size≤300)(n:Int)(ha:kI t=some n)(ht:strOfNums (sQ n)=t)(w:World)(hx:lv w) :
 Calls Tryz.prog 63 #[.string t] w fun e w'=>e = .returned (.tuple #[.int .i64 n,.bool true])∧Below w.heap.size w w':=by
 have HW:=ae (ZZ t (by omega) n ha w hx);have hbd:=Pj ha;have HI:=ae (fun (w1:World)(hb:Below w.heap.size w w1)=>(show Calls Tryz.prog 82 #[.int .i64 n] w1 fun e w'=>e = .returned (.string t)∧Below w1.heap.size w1 w' from ht ▸ TF n hbd.1 hbd.2 w1 (hx.sx.tab.below hb)));clear hx ha hbd ht hs;go_enter Tryz.func63,Tryz.ntmps63
 go_wp2_with (first
  | (go_at_call 81;((with_reducible refine HW.o.mono ?_);rintro e w2 ⟨rfl,hb⟩;have HB:=ae hb;clear hb))
  | (go_at_call 82;((with_reducible refine(HI.o _ HB.o).mono ?_);rintro e w3 ⟨rfl,hb⟩;have HB3:=ae (HB.o.trans (hb.mono HB.o.size));clear hb)))
 go_ret2
 exact⟨by rfl,HB3.o⟩
theorem mR.kinds {t:ByteArray}(h:mR t t 0):(kd t=0∨kd t=1)∨(kd t=2∧∃p ns,t.extract 1 t.size=p∧lI p (.ok ns)∧strOfNums (gm ns)=p)∨(kd t=3∧∃n,kI t=some n∧strOfNums (sQ n)=t):=by
 generalize hu:t=u at h;generalize he:(0:Int)=e at h;cases h with
 | large h=>omega
 | stays h hk=>exact .inl hk
 | form h hk r hr ns hp t' ht =>
   have hp2:=(Cv r ns hp).2.2.2.2;exact .inr (.inl ⟨hk,_,ns,U8 En _ _ rfl ht,hp2,rfl⟩)
 | bad h hk r hr c hp=>exact absurd he.symm (GQ r _ hp)
 | num h hk n ha=>exact .inr (.inr ⟨hk,n,ha,rfl⟩)
 | text h hk t' ht =>
   exfalso;have:(yo++u).size=u.size:=by rw[ht]
   rw[ByteArray.size_append]at this;have:yo.size=1:=rfl;omega
 | long h h2 hk=>omega
theorem KG (t:ByteArray)(h:mR t t 0)(w:World)(hx:lv w) :
 Calls Tryz.prog 44 #[.string t] w fun e w'=>e = .returned (.bool true)∧Below w.heap.size w w':=by
 have hsz:=h.first.1;have hs:t.size≤1000000:=by omega
 have hi:¬ (300:Int)<(t.size:Int):=by omega
 rcases h.kinds with hk|⟨hk,p,ns,hr,hp,sZ⟩|⟨hk,n,ha,ht⟩
 · rcases hk with hk|hk
   all_goals
    have HK:=ae (yh t hs _ hk w);clear h hk hx hs hsz;go_enter Tryz.func44,Tryz.ntmps44;go_wp2_with (go_at_call 45;((with_reducible refine HK.o.mono ?_);rintro e w1 ⟨rfl,rfl⟩))
    go_ret;exact⟨rfl,ak _ _⟩
 · have HK:=ae (yh t hs _ hk w)
   have HF:=ae (RA t p (by omega) (TK t (by omega)) hk hr ns hp sZ w hx);clear h hk hx hs hsz hp sZ hr;go_enter Tryz.func44,Tryz.ntmps44
   go_wp2_with (first
    | (go_at_call 45;((with_reducible refine HK.o.mono ?_);rintro e w1 ⟨rfl,rfl⟩))
    | (go_at_call 32;((with_reducible refine HF.o.mono ?_);rintro e w1 ⟨⟨v,rfl⟩,hb⟩;have HB:=ae hb;clear hb)))
   go_ret;exact⟨rfl,HB.o⟩
 · have HK:=ae (yh t hs _ hk w)
   have HF:=ae (QM t (by omega) n ha ht w hx);clear h hk hx hs hsz ha ht;go_enter Tryz.func44,Tryz.ntmps44
   go_wp2_with (first
    | (go_at_call 45;((with_reducible refine HK.o.mono ?_);rintro e w1 ⟨rfl,rfl⟩))
    | (go_at_call 63;((with_reducible refine HF.o.mono ?_);rintro e w1 ⟨rfl,hb⟩;have HB:=ae hb;clear hb)))
   go_ret;exact⟨rfl,HB.o⟩
theorem Rz (t p:ByteArray)(hs:t.size≤300)(h1:1≤t.size)(hk:kd t=2)(hr:t.extract 1 t.size=p)(ns:List Nd)(hp:lI p (.ok ns))(sZ:strOfNums (gm ns)=p)(w:World)(hx:lv w) :
 Calls Tryz.prog 32 #[.string t] w fun e w'=>∃g cap l,e = .returned (.tuple #[.slice (some ⟨g,0,none⟩) ns.length cap,.bool true])∧ig w' w'.heap.size (.slice (some ⟨g,0,none⟩) ns.length cap) l∧l.map Prod.fst=ns∧Below w.heap.size w w':=by
 have HA:=ae (La p w hx.sx ns hp);have BZ:=ae (fun (w1:World)(h1:Below w.heap.size w w1)(v:Value)(l:List (Nd × Value))(hm:l.map Prod.fst=ns)(hs:ig w1 w1.heap.size v l)=>(show Calls Tryz.prog 47 #[v] w1.drew fun e w'=>e = .returned (.string p)∧Below w1.drew.heap.size w1.drew w' from sZ ▸ Lf p ns hp w1 w1.drew (hx.sx.below (qo h1)) v l hm hs (qo (ak _ _))));have HK:=ae (yh t (by omega) _ hk w);have hi1:(1:Int)≤(t.size:Int):=by omega
 have hi:¬ (300:Int)<(t.size:Int):=by omega
 obtain⟨L,hL⟩:∃L,ns.length=L:=⟨_,rfl⟩;rw[hL]at HA ⊢;clear hp sZ hL hx hs hk;go_enter Tryz.func32,Tryz.ntmps32
 go_wp2_with (first
  | (go_at_call 45;((with_reducible refine HK.o.mono ?_);rintro e w1 ⟨rfl,rfl⟩))
  | (go_at_call 46;((with_reducible refine HA.o.mono ?_);rintro e w1 ⟨hb,g1,lL,l1,rfl,hm1,hs1⟩;have HB1:=ae hb;have bW:=ae (BZ.o w1 hb _ l1 hm1 hs1);have NQ:=ae hm1;have iW:=ae hs1;clear hb hm1 hs1)))
 go_region_held3 (fun _=>True) (trivial) (first
  | (go_at_call 47;((with_reducible refine bW.o.mono ?_);rintro e w2 ⟨rfl,h1⟩;have HB2:=ae ((qo HB1.o).trans (h1.mono HB1.o.size));have FK:=ae ((qo (ak _ w1)).trans h1);clear h1)))
 all_goals go_wp2_with fail
 all_goals go_ret2
 all_goals exact⟨_,_,l1,rfl,iW.o.lift FK.o FK.o.size,NQ.o,HB2.o⟩
instance:DecidableEq OV:=fun a b=>decidable_of_iff (a.nm=b.nm∧a.bB=b.bB∧a.rows=b.rows) ⟨fun ⟨h1,h2,h3⟩=>by cases a;cases b;simp only at h1 h2 h3;rw[h1,h2,h3],fun h=>by rw[h];exact⟨rfl,rfl,rfl⟩⟩
theorem fA.other {c:Int}{v:Value}(h:fA w b nm c v)(a:Addr)(u:Value)(hne:b≠a.block):fA (w.setCell a u) b nm c v:=by
 unfold fA;rw[heap_setCell_other _ _ _ _ hne];exact h
theorem O3 (w:World)(A:Option Addr)(n cap:Nat)(xs:List ByteArray)(h:dE kr w w.heap.size (.slice A n cap) xs)
 (hc:∀x∈xs,∀w1,Below w.heap.size w w1→Calls Tryz.prog 44 #[.string x] w1 fun e w'=>e = .returned (.bool true)∧Below w1.heap.size w1 w') :
 Calls Tryz.prog 43 #[.slice A n cap,.func (.func 44) #[] #[]] w fun e w'=>e = .returned (.bool true)∧Below w.heap.size w w':=by
 have HL:=ae h.len.1;have HX:=ae h;have HC:=ae hc;have hmx:n≤9223372036854775807:=by have:=h.len.2;unfold maxLen at this;omega
 clear h hc;go_enter Tryz.func43,Tryz.ntmps43;go_upto_region 2 with (fail)
 go_loopw [9] (fun iv wr=>∃i:Nat,i≤n∧iv = .int .i64 (i:Int)∧Hid (Below w.heap.size w wr))
  (fun iv _=>n - (intOf iv).toNat)
 case atStart=>exact⟨0,bA _,rfl,ae (ak _ _)⟩
 case round =>
  obtain⟨i,hi,rfl,HR⟩:=hrel;by_cases hlt:i<n
  · have hii:(i:Int)<(n:Int):=by omega
    have hi0:(0:Int)≤(i:Int):=by omega
    obtain⟨x,hx⟩:∃x,xs[i]? = some x:=⟨_,aX (by rw[HL.o];exact hlt)⟩;obtain⟨pb,po,rfl,hpb,e0⟩:=Be HX.o hx;have x0:wr.cell? ⟨pb,po+i,none⟩=some (.string x):=(HR.o.cell (p:=⟨pb,po+i,none⟩) hpb).trans e0;have HW:=ae (HC.o x (bN hx) wr HR.o);clear e0 hx;go_wp2_with (go_at_call 44;((with_reducible refine HW.o.mono ?_);rintro e w2 ⟨rfl,h1⟩;have H2:=ae (HR.o.trans (h1.mono HR.o.size));clear h1))
    go_roundw
    case rel=>exact⟨i+1,by omega,by go_num,H2⟩
    case measure=>simp[intOf];omega
  · have hii:¬ (i:Int)<(n:Int):=by omega
    go_wp2_with fail
    go_ret;exact⟨rfl,HR.o⟩
theorem PI(w:World)(c:Int):Below w.heap.size w (w.alloc (.cells #[.int .i64 c] 75)):=(ak _ _).alloc (aj _) _
theorem Rw (w:World)(A:Option Addr)(n cap:Nat)(xs:List ByteArray)(h:dE kr w w.heap.size (.slice A n cap) xs)
 (hc:∀x∈xs,∀w1,Below w.heap.size w w1→Calls Tryz.prog 44 #[.string x] w1 fun e w'=>e = .returned (.bool true)∧Below w1.heap.size w1 w') :
 Calls Tryz.prog 31 #[.agg #[.int .i64 (n:Int)],.slice A n cap] w fun e w'=>e = .returned (.bool true)∧Below w.heap.size w w':=by
 have HB:=ae (PI w n);have HA:=ae (O3 (w.alloc (.cells #[.int .i64 (n:Int)] 75)) A n cap xs (h.lift HB.o) (fun x hx w1 h1=>hc x hx w1 (HB.o.trans (h1.mono HB.o.size))));clear h hc;go_enter Tryz.func31,Tryz.ntmps31;go_wp2_with (go_at_call 43;((with_reducible refine HA.o.mono ?_);rintro e w2 ⟨rfl,h1⟩;have H2:=ae (HB.o.trans (h1.mono HB.o.size));clear h1))
 go_ret;exact⟨rfl,H2.o⟩
def jB(w:World)(b:Nat)(nm:ByteArray):Prop:=w.heap[b]? = some (.cells #[.string nm] 54)
theorem jB.cell{w:World}{b:Nat}{nm:ByteArray}(h:jB w b nm):w.cell? ⟨b,0,none⟩=some (.string nm):=by rw[cell_of_row w b 0 _ _ _ h];rfl
theorem jB.Em(h:jB w b nm):w.frozen? ⟨b,0,none⟩=false:=frozen_of_row w b 0 _ _ h
theorem jB.lt(h:jB w b nm):b<w.heap.size:=(cu.1 h).1
theorem jB.over(h:jB w b nm)(hb:Below w.heap.size w w'):jB w' b nm:=by unfold jB;rw[hb.block b h.lt];exact h
theorem jB.put (h:jB w b nm)(t:ByteArray):jB (w.setCell ⟨b,0,none⟩ (.string t)) b t:=by
 unfold jB;rw[heap_setCell_same w b 0 _ _ _ h];rfl
theorem RQ (w:World)(b:Nat)(last nm:ByteArray)(c:Int)(A:Option Addr)(n cap:Nat)(h:jB w b last)(hl:Op.bytesLess last.toList nm.toList=true) :
 Calls Tryz.prog 21 #[.pointer (some ⟨b,0,none⟩),.agg #[.string nm,.int .i64 c,.slice A n cap]] w fun e w'=>e = .returned (.bool true)∧jB w' b nm∧∀B,B≤b→Below B w w':=by
 have HS:=ae (fA.new w nm c (.slice A n cap));have HB:=ae (sO w nm c (.slice A n cap));have HC:=ae (h.over HB.o);have F5:=ae h.lt;clear h;go_enter Tryz.func21,Tryz.ntmps21;go_upto_region 1 with (fail)
 obtain⟨w1,hw1⟩:∃w1,w.alloc (.cells #[.string nm,.int .i64 c,.slice A n cap] 29)=w1:=⟨_,rfl⟩;rw[hw1]at HS HB HC ⊢;clear hw1;have x0:=HC.o.cell;have m0:=HC.o.Em;obtain⟨y0,y1,y2⟩:=HS.o.cells;go_upto_region 3 with (fail)
 clear x0 m0 y0 y1 y2;have hne:w.heap.size≠b:=fun e=>by have:=F5.o;omega
 have FL:=ae (HC.o.put nm);have HS2:=ae (HS.o.other ⟨b,0,none⟩ (.string nm) hne);have HB2:=ae (fun (B:Nat)(hB:B≤b)=>(show Below B w (w1.setCell ⟨b,0,none⟩ (.string nm))from(HB.o.mono (by have:=F5.o;omega)).setCell hB _));obtain⟨w2,hw2⟩:∃w2,w1.setCell ⟨b,0,none⟩ (.string nm)=w2:=⟨_,rfl⟩;rw[hw2]at FL HS2 HB2 ⊢;clear hw2;obtain⟨y0,y1,y2⟩:=HS2.o.cells;go_wp2_with fail
 go_ret;exact⟨rfl,FL.o,HB2.o⟩
def zC:ByteArray→List aU→Prop
 | _,[]=>True
 | last,s :: l=>Op.bytesLess last.toList s.nm.toList=true∧zC s.nm l
theorem O1 (w:World)(b:Nat)(A:Option Addr)(n cap:Nat)(av:List aU)(h:fQ w b (.slice A n cap) av)(hn:n≤1000000)(hr:zC ⟨#[]⟩ av)(hc:jB w b ⟨#[]⟩) :
 Calls Tryz.prog 20 #[.slice A n cap,.func (.func 21) #[.pointer (some ⟨b,0,none⟩)] #[]] w fun e w'=>e = .returned (.bool true)∧Below b w w':=by
 have HL:=ae h.1.len.1;have HX:=ae h;have kP:=ae hr;have HC:=ae hc;clear h hr hc;go_enter Tryz.func20,Tryz.ntmps20;go_upto_region 2 with (fail)
 go_loopw [9] (fun iv wr=>∃(i:Nat)(last:ByteArray),i≤n∧iv = .int .i64 (i:Int)∧Hid (jB wr b last)∧Hid (zC last (av.drop i))∧Hid (Below b w wr))
  (fun iv _=>n - (intOf iv).toNat)
 case atStart=>exact⟨0,_,bA _,rfl,HC,ae (by rw[List.drop_zero];exact kP.o),ae (ak _ _)⟩
 case round =>
  obtain⟨i,last,hi,rfl,lX,Oh,HR⟩:=hrel;by_cases hlt:i<n
  · have hii:(i:Int)<(n:Int):=by omega
    have hi0:(0:Int)≤(i:Int):=by omega
    have hls:i<av.length:=by rw[HL.o];exact hlt
    obtain⟨x,hx⟩:∃x,av[i]? = some x:=⟨_,aX hls⟩;have uR:=Oh.o;rw[List.drop_eq_getElem_cons hls]at uR;have hxe:av[i]=x:=by rw[aX hls]at hx;exact dV hx
    rw[hxe]at uR;have dS:=ae uR.2;obtain⟨pb,po,rfl,hpb,e0,e1,e2,hrx⟩:=vv HX.o hx;have x0:wr.cell? ⟨pb,po+i*3,none⟩=some (.string x.nm):=(HR.o.cell (p:=⟨pb,po+i*3,none⟩) hpb).trans e0;have x1:wr.cell? ⟨pb,po+i*3+1,none⟩=some (.int .i64 x.bB):=(HR.o.cell (p:=⟨pb,po+i*3+1,none⟩) hpb).trans e1;have x2:wr.cell? ⟨pb,po+i*3+2,none⟩=some (.slice x.A x.rows.length x.cap):=(HR.o.cell (p:=⟨pb,po+i*3+2,none⟩) hpb).trans e2;have vG:=ae (sO wr x.nm x.bB (.slice x.A x.rows.length x.cap));have qW:=ae (fA.new wr x.nm x.bB (.slice x.A x.rows.length x.cap));have HG:=ae (RQ (wr.alloc (.cells #[.string x.nm,.int .i64 x.bB,.slice x.A x.rows.length x.cap] 29)) b last x.nm x.bB x.A x.rows.length x.cap (lX.o.over vG.o) uR.1);have sj:=ae (show Below b w (wr.alloc (.cells #[.string x.nm,.int .i64 x.bB,.slice x.A x.rows.length x.cap] 29))from HR.o.alloc (Nat.le_of_lt lX.o.lt) _);clear e0 e1 e2 hrx hx uR hxe;go_upto_region 4 with (fail)
    clear x0 x1 x2;obtain⟨w1,hw1⟩:∃w1,wr.alloc (.cells #[.string x.nm,.int .i64 x.bB,.slice x.A x.rows.length x.cap] 29)=w1:=⟨_,rfl⟩;rw[hw1]at vG qW HG sj ⊢;clear hw1;obtain⟨y0,y1,y2⟩:=qW.o.cells;go_wp2_with (go_at_call 21;((with_reducible refine HG.o.mono ?_);rintro e w2 ⟨rfl,h1,h2⟩;have H1:=ae h1;have H2:=ae (sj.o.trans (h2 b (aj _)));clear h1 h2))
    go_roundw
    case rel=>exact⟨i+1,x.nm,by omega,by go_num,H1,dS,H2⟩
    case measure=>simp[intOf];omega
  · have hii:¬ (i:Int)<(n:Int):=by omega
    go_wp2_with fail
    go_ret;exact⟨rfl,HR.o⟩
structure Cx (s:aU):Prop where
 name:fe (sb s.nm)=true
 size:s.nm.size≤1000
 low:0≤s.bB
 bB:s.bB≤12
 rows:s.rows.length≤24
 wide:∀r∈s.rows,(r.l.length:Int)=s.bB
theorem OZ (w:World)(A:Option Addr)(n cap:Nat)(rows:List iO)(m:Int)(h:lK w w.heap.size (.slice A n cap) rows)(hn:n≤1000000)(hm:∀r∈rows,(r.l.length:Int)=m)
 (hc:∀r∈rows,∀x∈r.l,∀w1,Below w.heap.size w w1→Calls Tryz.prog 44 #[.string x] w1 fun e w'=>e = .returned (.bool true)∧Below w1.heap.size w1 w') :
 Calls Tryz.prog 30 #[.slice A n cap,.func (.func 31) #[.agg #[.int .i64 m]] #[]] w fun e w'=>e = .returned (.bool true)∧Below w.heap.size w w':=by
 have HL:=ae h.1.len.1;have HX:=ae h;have HC:=ae hc;have HM:=ae hm;clear h hc hm;go_enter Tryz.func30,Tryz.ntmps30;go_upto_region 2 with (fail)
 go_loopw [9] (fun iv wr=>∃i:Nat,i≤n∧iv = .int .i64 (i:Int)∧Hid (Below w.heap.size w wr))
  (fun iv _=>n - (intOf iv).toNat)
 case atStart=>exact⟨0,bA _,rfl,ae (ak _ _)⟩
 case round =>
  obtain⟨i,hi,rfl,HR⟩:=hrel;by_cases hlt:i<n
  · have hii:(i:Int)<(n:Int):=by omega
    have hi0:(0:Int)≤(i:Int):=by omega
    obtain⟨x,hx⟩:∃x,rows[i]? = some x:=⟨_,aX (by rw[HL.o];exact hlt)⟩;obtain⟨pb,po,rfl,hpb,e0,hrx⟩:=yC HX.o hx;have x0:wr.cell? ⟨pb,po+i,none⟩=some (.slice x.A x.l.length x.cap):=(HR.o.cell (p:=⟨pb,po+i,none⟩) hpb).trans e0;have hw:=Rw wr x.A x.l.length x.cap x.l (hrx.lift HR.o) (fun y hy w1 h1=>HC.o x (bN hx) y hy w1 (HR.o.trans (h1.mono HR.o.size)));rw[HM.o x (bN hx)]at hw;have HW:=ae hw;clear e0 hx hw hrx;go_wp2_with (go_at_call 31;((with_reducible refine HW.o.mono ?_);rintro e w2 ⟨rfl,h1⟩;have H2:=ae (HR.o.trans (h1.mono HR.o.size));clear h1))
    go_roundw
    case rel=>exact⟨i+1,by omega,by go_num,H2⟩
    case measure=>simp[intOf];omega
  · have hii:¬ (i:Int)<(n:Int):=by omega
    go_wp2_with fail
    go_ret;exact⟨rfl,HR.o⟩
theorem Yn (w:World)(s:aU)(h:lK w w.heap.size (.slice s.A s.rows.length s.cap) s.rows)(ho:Cx s)
 (hc:∀r∈s.rows,∀x∈r.l,∀w1,Below w.heap.size w w1→Calls Tryz.prog 44 #[.string x] w1 fun e w'=>e = .returned (.bool true)∧Below w1.heap.size w1 w') :
 Calls Tryz.prog 22 #[.agg #[.string s.nm,.int .i64 s.bB,.slice s.A s.rows.length s.cap]] w fun e w'=>e = .returned (.bool true)∧Below w.heap.size w w':=by
 have HB:=ae (sO w s.nm s.bB (.slice s.A s.rows.length s.cap));have HS:=ae (fA.new w s.nm s.bB (.slice s.A s.rows.length s.cap));have hnm:=yt s.nm (w.alloc (.cells #[.string s.nm,.int .i64 s.bB,.slice s.A s.rows.length s.cap] 29)) (by have:=ho.size;omega);rw[ho.name]at hnm;have zi:=ae hnm;have HA:=ae (OZ (w.alloc (.cells #[.string s.nm,.int .i64 s.bB,.slice s.A s.rows.length s.cap] 29)) s.A s.rows.length s.cap s.rows s.bB (h.lift HB.o) (by have:=ho.rows;omega) ho.wide (fun r hr x hx w1 h1=>hc r hr x hx w1 (HB.o.trans (h1.mono HB.o.size))));have h1:=ho.low;have h2:=ho.bB;have h3:(s.rows.length:Int)≤24:=by have:=ho.rows;omega
 clear h hc ho hnm;go_enter Tryz.func22,Tryz.ntmps22;go_upto_region 1 with (fail)
 obtain⟨w1,hw1⟩:∃w1,w.alloc (.cells #[.string s.nm,.int .i64 s.bB,.slice s.A s.rows.length s.cap] 29)=w1:=⟨_,rfl⟩;rw[hw1]at HS HB zi HA ⊢;clear hw1;obtain⟨y0,y1,y2⟩:=HS.o.cells;obtain⟨n,hn⟩:∃n,s.rows.length=n:=⟨_,rfl⟩;rw[hn]at y2 HA h3;clear hn
 go_wp2_with (first
  | (go_at_call 29;((with_reducible refine zi.o.mono ?_);rintro e w2 ⟨rfl,rfl⟩))
  | (go_at_call 30;((with_reducible refine HA.o.mono ?_);rintro e w2 ⟨rfl,h1⟩;have H2:=ae (HB.o.trans (h1.mono HB.o.size));clear h1)))
 go_ret;exact⟨rfl,H2.o⟩
theorem O0 (w:World)(A:Option Addr)(n cap:Nat)(av:List aU)(h:fQ w w.heap.size (.slice A n cap) av)(hn:n≤1000000)(ho:∀s∈av,Cx s)
 (hc:∀s∈av,∀r∈s.rows,∀x∈r.l,∀w1,Below w.heap.size w w1→Calls Tryz.prog 44 #[.string x] w1 fun e w'=>e = .returned (.bool true)∧Below w1.heap.size w1 w') :
 Calls Tryz.prog 20 #[.slice A n cap,.func (.func 22) #[] #[]] w fun e w'=>e = .returned (.bool true)∧Below w.heap.size w w':=by
 have HL:=ae h.1.len.1;have HX:=ae h;have HC:=ae hc;have HO:=ae ho;clear h hc ho;go_enter Tryz.func20,Tryz.ntmps20;go_upto_region 2 with (fail)
 go_loopw [9] (fun iv wr=>∃i:Nat,i≤n∧iv = .int .i64 (i:Int)∧Hid (Below w.heap.size w wr))
  (fun iv _=>n - (intOf iv).toNat)
 case atStart=>exact⟨0,bA _,rfl,ae (ak _ _)⟩
 case round =>
  obtain⟨i,hi,rfl,HR⟩:=hrel;by_cases hlt:i<n
  · have hii:(i:Int)<(n:Int):=by omega
    have hi0:(0:Int)≤(i:Int):=by omega
    obtain⟨x,hx⟩:∃x,av[i]? = some x:=⟨_,aX (by rw[HL.o];exact hlt)⟩;obtain⟨pb,po,rfl,hpb,e0,e1,e2,hrx⟩:=vv HX.o hx;have x0:wr.cell? ⟨pb,po+i*3,none⟩=some (.string x.nm):=(HR.o.cell (p:=⟨pb,po+i*3,none⟩) hpb).trans e0;have x1:wr.cell? ⟨pb,po+i*3+1,none⟩=some (.int .i64 x.bB):=(HR.o.cell (p:=⟨pb,po+i*3+1,none⟩) hpb).trans e1;have x2:wr.cell? ⟨pb,po+i*3+2,none⟩=some (.slice x.A x.rows.length x.cap):=(HR.o.cell (p:=⟨pb,po+i*3+2,none⟩) hpb).trans e2;have vG:=ae (sO wr x.nm x.bB (.slice x.A x.rows.length x.cap));have qW:=ae (fA.new wr x.nm x.bB (.slice x.A x.rows.length x.cap));have sj:=ae (show Below w.heap.size w (wr.alloc (.cells #[.string x.nm,.int .i64 x.bB,.slice x.A x.rows.length x.cap] 29))from HR.o.trans (vG.o.mono HR.o.size));have HG:=ae (Yn (wr.alloc (.cells #[.string x.nm,.int .i64 x.bB,.slice x.A x.rows.length x.cap] 29)) x ((hrx.lift HR.o).lift vG.o) (HO.o x (bN hx)) (fun r hr y hy w1 h1=>HC.o x (bN hx) r hr y hy w1 (sj.o.trans (h1.mono sj.o.size))));clear e0 e1 e2 hrx hx;go_upto_region 4 with (fail)
    clear x0 x1 x2;obtain⟨w1,hw1⟩:∃w1,wr.alloc (.cells #[.string x.nm,.int .i64 x.bB,.slice x.A x.rows.length x.cap] 29)=w1:=⟨_,rfl⟩;rw[hw1]at vG qW HG sj ⊢;clear hw1;obtain⟨y0,y1,y2⟩:=qW.o.cells;go_wp2_with (go_at_call 22;((with_reducible refine HG.o.mono ?_);rintro e w2 ⟨rfl,h1⟩;have H2:=ae (sj.o.trans (h1.mono sj.o.size));clear h1))
    go_roundw
    case rel=>exact⟨i+1,by omega,by go_num,H2⟩
    case measure=>simp[intOf];omega
  · have hii:¬ (i:Int)<(n:Int):=by omega
    go_wp2_with fail
    go_ret;exact⟨rfl,HR.o⟩
structure FC (av:List aU):Prop where
 few:av.length≤5
 XB:zC ⟨#[]⟩ av
 each:∀s∈av,Cx s
theorem U3 (w:World)(A:Option Addr)(n cap:Nat)(av:List aU)(h:fQ w w.heap.size (.slice A n cap) av)(ho:FC av)
 (hc:∀s∈av,∀r∈s.rows,∀x∈r.l,∀w1,Below w.heap.size w w1→Calls Tryz.prog 44 #[.string x] w1 fun e w'=>e = .returned (.bool true)∧Below w1.heap.size w1 w') :
 Calls Tryz.prog 14 #[.agg #[.slice A n cap]] w fun e w'=>e = .returned (.bool true)∧Below w.heap.size w w':=by
 have HB:=ae (sN w (.slice A n cap));have HK:=ae (gy.new w (.slice A n cap));have hn5:(n:Int)≤5:=by have h1:=ho.few;have h2:=h.1.len.1;omega
 have Jy:n≤1000000:=by omega
 have HX:=ae h;have HO:=ae ho;have HC:=ae hc;clear h ho hc;go_enter Tryz.func14,Tryz.ntmps14;go_upto_region 1 with (fail)
 obtain⟨w1,hw1⟩:∃w1,w.alloc (.cells #[.slice A n cap] 37)=w1:=⟨_,rfl⟩;rw[hw1]at HB HK ⊢;clear hw1;go_upto_region 2 with (fail)
 have lX:=ae (show jB (w1.alloc (.cells #[.string ⟨#[]⟩] 54)) w1.heap.size ⟨#[]⟩from(gV w1 _).1);have HB1:=ae (show Below w1.heap.size w1 (w1.alloc (.cells #[.string ⟨#[]⟩] 54))from(ak _ _).alloc (aj _) _);obtain⟨w2,hw2⟩:∃w2,w1.alloc (.cells #[.string ⟨#[]⟩] 54)=w2:=⟨_,rfl⟩;rw[hw2]at lX HB1 ⊢;clear hw2;have HB2:=ae (HB.o.trans (HB1.o.mono HB.o.size));have HR:=ae (O1 w2 w1.heap.size A n cap av ((HX.o.below HB2.o (aj _)).mono HB.o.size) Jy HO.o.XB lX.o);have HM:=ae (fun (w3:World)(h3:Below w1.heap.size w2 w3)=>(show Below w.heap.size w w3∧_ from⟨HB2.o.trans (h3.mono HB.o.size),O0 w3 A n cap av (HX.o.lift (HB2.o.trans (h3.mono HB.o.size))) Jy HO.o.each (fun s hs r hr x hx wq hq=>HC.o s hs r hr x hx wq ((HB2.o.trans (h3.mono HB.o.size)).trans (hq.mono (HB2.o.trans (h3.mono HB.o.size)).size)))⟩));have vJ:=ae (HK.o.over HB1.o);have hlt:w.heap.size<w1.heap.size:=HK.o.lt;have BI:=ae (fun (w3:World)(h3:Below w1.heap.size w2 w3)=>(show w3.cell? ⟨w.heap.size,0,none⟩=some (.slice A n cap)from(vJ.o.below h3 hlt).cell));have x0:=vJ.o.cell
 go_wp2_with (first
  | (go_at_call 20;((with_reducible refine HR.o.mono ?_);rintro e w3 ⟨rfl,h1⟩;have H3:=ae (HM.o w3 h1);have y0:=BI.o w3 h1;clear h1))
  | (go_at_call 20;((with_reducible refine H3.o.2.mono ?_);rintro e w4 ⟨rfl,h1⟩;have H4:=ae (H3.o.1.trans (h1.mono H3.o.1.size));clear h1)))
 go_ret;exact⟨rfl,H4.o⟩
end Go.Proofs.YtahjnhmidjeniaaGreatDoor
