/-
 Texts of layers, put together.
-/
import Derived.Test.YtdphoaabaajonaaGreatDoorMB7
import Derived.Deep.DeepCutAuto
import Derived.RangeFuncNested
import Derived.RangeFuncBound
import Derived.RangeFuncCalls
import Derived.RangeFuncLeaves
import Derived.Shelf.Abstract
import Derived.WalkKit
import Derived.OwnWalkIn
import Derived.TacticsInMore
import Derived.LoopNIn
import Derived.LoopIn
namespace Go.Proofs.YtdphoaabaajonaaGreatDoor
open Go.RowKit
def shA:Array Value:=(List.replicate 9 (Value.string ⟨#[]⟩)++opS.map Value.string).toArray
theorem wr2a (rk:Nat) (h:rk≤5):wrap64 ((rk:Int)+1+1)=(rk:Int)+2:=by unfold wrap64;omega
theorem wr2b (rk:Nat) (h:rk≤5):IntKind.i64.wrap ((rk:Int)+1+1)=(rk:Int)+2:=by rw [IntKind.wrap_i64];omega
theorem shA_at:∀ k:Nat,9≤k→k<20→shA[k]? = some (.string (opS.getD (k - 9) ⟨#[]⟩)):=by
 intro k h9 h20
 have hk:k=9∨k=10∨k=11∨k=12∨k=13∨k=14∨k=15∨k=16∨k=17∨k=18∨k=19:=by omega
 rcases hk with rfl | rfl | rfl | rfl | rfl | rfl | rfl | rfl | rfl | rfl | rfl <;> rfl
def ShV (w:World):Prop:=∃ ty fr,w.heap[(0:Nat)]? = some (.cells shA ty fr)
theorem ShV.below {w w':World} (h:ShV w) (hb:Below w.heap.size w w'):ShV w':=by
 obtain ⟨ty,fr,h1⟩:=h
 exact ⟨ty,fr,by rw [hb.block _ (Array.getElem?_eq_some_iff.1 h1).1];exact h1⟩
theorem ShV.cell {w:World} (h:ShV w) (j:Nat):w.cell? ⟨(0:Nat),j,none⟩=shA[j]? := by
 obtain ⟨ty,fr,h1⟩:=h
 exact cell_of_row w _ j _ ty fr h1
theorem ShV.lt {w:World} (h:ShV w):0<w.heap.size:=by
 obtain ⟨ty,fr,h1⟩:=h
 exact (Array.getElem?_eq_some_iff.1 h1).1
set_option maxRecDepth 100000 in
set_option maxHeartbeats 4000000 in
theorem between_node (w:World) (b:Nat) (nv:Value) (st:List Pt) (txt:List Int) (n:Nd) (A:Option Addr) (m c:Nat) (h:WQ w b nv st txt) (kd:Nat) (hk:n.kind=(kd:Int)) (h9:9≤kd) (h20:kd<20) (k0 k1:Int) (hk0:n.kids[0]? = some k0) (hk1:n.kids[1]? = some k1) (hsi:SI w b (.slice A m c) n.kids) (hsv:ShV w) (hgb:0<b) (hls:st.length≤2000000000) :
 Calls Tryz.prog 153 #[.pointer (some ⟨b,0,none⟩),.agg #[.int .i64 n.kind,.int .i64 n.num,.string n.text,.string n.ref.sh,.int .i64 n.ref.c,.int .i64 n.ref.r,.bool n.ref.ac,.bool n.ref.ar,.string n.to.sh,.int .i64 n.to.c,.int .i64 n.to.r,.bool n.to.ac,.bool n.to.ar,.slice A m c]] w (Wrote w b nv st txt n):=by
 have hB:Below w.heap.size w (w.alloc (.cells #[.int .i64 n.kind,.int .i64 n.num,.string n.text,.string n.ref.sh,.int .i64 n.ref.c,.int .i64 n.ref.r,.bool n.ref.ac,.bool n.ref.ar,.string n.to.sh,.int .i64 n.to.c,.int .i64 n.to.r,.bool n.to.ac,.bool n.to.ar,.slice A m c] 140)):=(Below.refl _ _).alloc (Nat.le_refl _) _
 have HN:NdAt (w.alloc (.cells #[.int .i64 n.kind,.int .i64 n.num,.string n.text,.string n.ref.sh,.int .i64 n.ref.c,.int .i64 n.ref.r,.bool n.ref.ac,.bool n.ref.ar,.string n.to.sh,.int .i64 n.to.c,.int .i64 n.to.r,.bool n.to.ac,.bool n.to.ar,.slice A m c] 140)) w.heap.size n (.slice A m c):=NdAt.new w n _
 have hbw:b<w.heap.size:=by obtain ⟨wv,h1, -⟩:=h;exact h1.lt
 obtain ⟨sg,hsg⟩:∃ sg,opS.getD (kd - 9) ⟨#[]⟩=sg:=⟨_,rfl⟩
 obtain ⟨rk,hrk⟩:∃ rk:Nat,rankL n.kind=rk:=⟨_,rfl⟩
 have hrk6:rk≤5:=by rw [← hrk];unfold rankL;split <;> (try split) <;> (try split) <;> (try split) <;> (try split) <;> omega
 have hs:stepN n=([],[Pt.op k0 ((rk:Int)+1),Pt.plain sg,Pt.op k1 ((rk:Int)+2)]):=by
  unfold stepN;rw [if_neg (by omega),if_neg (by omega),if_neg (by omega),if_neg (by omega),if_neg (by omega),if_neg (by omega),if_neg (by omega),if_neg (by omega),List.getD_eq_getElem?_getD,hk0,List.getD_eq_getElem?_getD (l:=n.kids) (i:=1),hk1,hrk,hk,show ((kd:Int) - 9).toNat=kd - 9 by omega,hsg];rfl
 have hrank:=rankOf_any n.kind
 rw [hrk,hk] at hrank
 have hsi1:=hsi.below hB (Nat.le_of_lt hbw)
 obtain ⟨A',cap',hsl,hcm, -,hcell⟩:=hsi1
 injection hsl with e1 e2 e3
 have hpos:1<n.kids.length:=(List.getElem?_eq_some_iff.1 hk1).1
 obtain ⟨pb,po,hA,hpb,hcl⟩:=hcell.resolve_left (fun e=>by rw [e] at hpos;exact absurd hpos (by decide))
 have hc0:=hcl 0 k0 hk0
 have hc1:=hcl 1 k1 hk1
 rw [Nat.add_zero] at hc0
 have hA2:=e1.trans hA
 subst hA2;subst e3
 clear e1 hA
 have hm0:(0:Int)<(m:Int):=by omega
 have hm1:(1:Int)<(m:Int):=by omega
 have hm2:0<m:=by omega
 have hm3:1<m:=by omega
 have hkd0:(0:Int)≤(kd:Int):=by omega
 have hkd1:(kd:Int)<20:=by omega
 have hw1a:=wr2a rk hrk6
 have hw1b:=wr2b rk hrk6
 have hsc:(w.alloc (.cells #[.int .i64 n.kind,.int .i64 n.num,.string n.text,.string n.ref.sh,.int .i64 n.ref.c,.int .i64 n.ref.r,.bool n.ref.ac,.bool n.ref.ar,.string n.to.sh,.int .i64 n.to.c,.int .i64 n.to.r,.bool n.to.ac,.bool n.to.ar,.slice (some ⟨pb,po,none⟩) m c] 140)).cell? ⟨(0:Nat),kd,none⟩=some (.string sg):=by rw [(hsv.below hB).cell kd,shA_at kd h9 h20,hsg]
 have hgl1:=(hsv.below hB).lt
 have HS:=Lib.hid hs
 have HB:=Lib.hid hB
 have HRK:=Lib.hid hrank
 have HQ1:=Lib.hid (h.below hB)
 have HKD:=Lib.hid hk
 clear h hs hk hB hsi e2 hcl hpos hcell hk0 hk1 hsv hsg hrk hrank
 go_enter Tryz.func153,Tryz.ntmps153
 go_upto_region 1 with (fail)
 obtain ⟨z,hzz⟩:∃ z,w.heap.size=z:=⟨_,rfl⟩
 obtain ⟨w1,hw1⟩:∃ w1,w.alloc (.cells #[.int .i64 n.kind,.int .i64 n.num,.string n.text,.string n.ref.sh,.int .i64 n.ref.c,.int .i64 n.ref.r,.bool n.ref.ac,.bool n.ref.ar,.string n.to.sh,.int .i64 n.to.c,.int .i64 n.to.r,.bool n.to.ac,.bool n.to.ar,.slice (some ⟨pb,po,none⟩) m c] 140)=w1:=⟨_,rfl⟩
 rw [hw1] at HN HB HQ1 hc0 hc1 hsc hgl1 ⊢
 rw [hzz] at HN ⊢
 have hzl:=HN.lt
 have hzb:z≠b:=by omega
 have HN2:=Lib.hid HN
 have x0:=HN.cells.1
 obtain ⟨-, -, -, -, -, -, -, -, -, -, -, -, -,x1⟩:=HN.cells
 rw [HKD.out] at x0
 have hbw1:b<w1.heap.size:=Nat.lt_of_lt_of_le hbw HB.out.size
 have hpl:pb<w1.heap.size:=by omega
 have hgl:0<w1.heap.size:=hgl1
 have x2:=hc0;have x3:=hc1;have x4:=hsc
 clear hzz hw1 HN hc0 hc1 hsc hgl1
 go_upto_region 2 with (go_at_call 111;((with_reducible refine (HRK.out _).mono ?_);rintro e w2 ⟨rfl,rfl⟩))
 have H1:=Lib.hid ((Below.refl w1.heap.size w1).drew)
 have HP:=Lib.hid (fun (wr:World) (hr:Below w1.heap.size w1 wr)=>push_lit wr b nv st [Pt.op k0 ((rk:Int)+1),Pt.plain sg,Pt.op k1 ((rk:Int)+2)] txt #[.string ⟨#[]⟩,.int .i64 k0,.int .i64 ((rk:Int)+1),.string sg,.int .i64 0,.int .i64 0,.string ⟨#[]⟩,.int .i64 k1,.int .i64 ((rk:Int)+2)] 3 rfl rfl (HQ1.out.below hr) (by show 3≤1000000;decide) hls)
 clear HRK
 go_region_held3 (fun w'=>w'.cell? ⟨z,0,none⟩=some (.int .i64 (kd:Int))∧w'.cell? ⟨z,13,none⟩=some (.slice (some ⟨pb,po,none⟩) m c)∧w'.cell? ⟨pb,po,none⟩=some (.int .i64 k0)∧w'.cell? ⟨pb,po+1,none⟩=some (.int .i64 k1)∧w'.cell? ⟨(0:Nat),kd,none⟩=some (.string sg)) (go_keep) (first
  | (go_at_call 78;((with_reducible refine (op_lit k0 ((rk:Int)+1) _).mono ?_);rintro e w3 ⟨rfl,h3⟩;have H3:=Lib.hid (H1.out.trans (h3.mono H1.out.size));have p0:=(H3.out.cell (p:=⟨z,0,none⟩) hzl).trans x0;have p1:=(H3.out.cell (p:=⟨z,13,none⟩) hzl).trans x1;have p2:=(H3.out.cell (p:=⟨pb,po,none⟩) hpl).trans x2;have p3:=(H3.out.cell (p:=⟨pb,po+1,none⟩) hpl).trans x3;have p4:=(H3.out.cell (p:=⟨(0:Nat),kd,none⟩) hgl).trans x4;clear h3))
  | (go_at_call 112;((with_reducible refine (plain_lit _ _).mono ?_);rintro e w4 ⟨rfl,h3⟩;have H4:=Lib.hid (H3.out.trans (h3.mono H3.out.size));have q0:=(H4.out.cell (p:=⟨z,0,none⟩) hzl).trans x0;have q1:=(H4.out.cell (p:=⟨z,13,none⟩) hzl).trans x1;have q2:=(H4.out.cell (p:=⟨pb,po,none⟩) hpl).trans x2;have q3:=(H4.out.cell (p:=⟨pb,po+1,none⟩) hpl).trans x3;have q4:=(H4.out.cell (p:=⟨(0:Nat),kd,none⟩) hgl).trans x4;clear h3))
  | (go_at_call 78;((with_reducible refine (op_lit k1 ((rk:Int)+2) _).mono ?_);rintro e w5 ⟨rfl,h3⟩;have H5:=Lib.hid (H4.out.trans (h3.mono H4.out.size));have r0:=(H5.out.cell (p:=⟨z,0,none⟩) hzl).trans x0;have r1:=(H5.out.cell (p:=⟨z,13,none⟩) hzl).trans x1;have r2:=(H5.out.cell (p:=⟨pb,po,none⟩) hpl).trans x2;have r3:=(H5.out.cell (p:=⟨pb,po+1,none⟩) hpl).trans x3;have r4:=(H5.out.cell (p:=⟨(0:Nat),kd,none⟩) hgl).trans x4;clear h3))
  | (go_at_call 77;((with_reducible refine (HP.out _ H5.out).mono ?_);rintro e w6 ⟨rfl,h3,h4⟩;have HQ6:=Lib.hid h3;have HF6:=Lib.hid h4;have hzk:=HF6.out.block z (Nat.lt_of_lt_of_le hzl H5.out.size) hzb (.inr fun cur fr=>by
      have h5:=H5.out.block z hzl
      have h6:w1.heap[z]? = some (.cells (nodA n (.slice (some ⟨pb,po,none⟩) m c)) 140):=HN2.out
      rw [h5,h6]
      exact ⟨fun e=>by (injection e with e;injection e with _ e2;exact absurd e2 (by decide)),fun e=>by (injection e with e;injection e with _ e2;exact absurd e2 (by decide))⟩);have hpk:=HF6.out.block pb (Nat.lt_of_lt_of_le hpl H5.out.size) (Nat.ne_of_lt hpb) (.inl hpb);have hgk:=HF6.out.block 0 (Nat.lt_of_lt_of_le hgl H5.out.size) (Nat.ne_of_lt hgb) (.inl hgb);have t0:=(World.cell?_of_block (a:=⟨z,0,none⟩) hzk).trans r0;have t1:=(World.cell?_of_block (a:=⟨z,13,none⟩) hzk).trans r1;have t2:=(World.cell?_of_block (a:=⟨pb,po,none⟩) hpk).trans r2;have t3:=(World.cell?_of_block (a:=⟨pb,po+1,none⟩) hpk).trans r3;have t4:=(World.cell?_of_block (a:=⟨(0:Nat),kd,none⟩) hgk).trans r4;clear h3 h4 hzk hpk hgk)))
 all_goals go_wp2_with fail
 all_goals go_end0
 all_goals refine ⟨rfl, ?_,(Fq.ofBelow HB.out).trans ((Fq.ofBelow H5.out).trans HF6.out)⟩
 all_goals rw [HS.out,List.append_nil]
 all_goals exact HQ6.out
end Go.Proofs.YtdphoaabaajonaaGreatDoor
namespace Go.Proofs.YtdphoaabaajonaaGreatDoor
open Go.RowKit Go.Shelf
attribute [local go_sem] Oper.semAt_some
def cameI (xs:List Int) (q:Nat):List (Nat × Int):=(List.range (xs.length - q)).map fun j=>(xs.length - 1 - j,xs.getD (xs.length - 1 - j) 0)
theorem cameI_all (xs:List Int):cameI xs xs.length=[]:=by unfold cameI;simp
theorem cameI_step (xs:List Int) (m:Nat) (p:Int) (hp:xs[m]? = some p):cameI xs m=cameI xs (m+1)++[(m,p)]:=by
 have hl:=(List.getElem?_eq_some_iff.1 hp).1
 unfold cameI
 rw [show xs.length - m=(xs.length - (m+1))+1 by omega,List.range_succ,List.map_append]
 show _++[(xs.length - 1 - (xs.length - (m+1)),_)]=_
 rw [show xs.length - 1 - (xs.length - (m+1))=m by omega,List.getD_eq_getElem?_getD,hp];rfl
theorem cameI_len (xs:List Int) (q:Nat):(cameI xs q).length=xs.length - q:=by unfold cameI;simp
def kidP (x:Nat × Int):List Pt:=if x.1=0 then [Pt.op x.2 1] else [Pt.op x.2 1,Pt.plain ⟨#[44]⟩]
def kidsP (pre:List (Nat × Int)):List Pt:=pre.flatMap kidP
theorem kidsP_snoc (pre:List (Nat × Int)) (x:Nat × Int):kidsP (pre++[x])=kidsP pre++kidP x:=by unfold kidsP;simp
theorem kidsP_len (pre:List (Nat × Int)):(kidsP pre).length≤2*pre.length:=by
 induction pre with
 | nil=>exact Nat.le_refl _
 | cons x pre ih =>
   show (kidP x++kidsP pre).length≤_
   have h:(kidP x).length≤2:=by unfold kidP;split <;> simp
   rw [List.length_append,List.length_cons];omega
def argQ:List Int→List Pt
 | []=>[]
 | k :: ks=>Pt.plain ⟨#[44]⟩ :: Pt.op k 1 :: argQ ks
theorem argP_Q:∀ (a:Int) (ks:List Int),argP (a :: ks)=Pt.op a 1 :: argQ ks
 | a,[]=>rfl
 | a,b :: ks=>by show Pt.op a 1 :: Pt.plain ⟨#[44]⟩ :: argP (b :: ks)=_;rw [argP_Q b ks];rfl
theorem kidsP_came (xs:List Int) (q:Nat) (h1:1≤q) (h2:q≤xs.length):kidsP (cameI xs q)=(argQ (xs.drop q)).reverse:=by
 induction h:xs.length - q generalizing q with
 | zero =>
   have:q=xs.length:=by omega
   subst this
   rw [cameI_all,List.drop_length];rfl
 | succ d ih =>
   obtain ⟨p,hp⟩:∃ p,xs[q]? = some p:=⟨_,List.getElem?_eq_getElem (by omega)⟩
   have hl:=(List.getElem?_eq_some_iff.1 hp).1
   have he:xs[q]=p:=by rw [List.getElem?_eq_getElem hl] at hp;exact Option.some.inj hp
   rw [cameI_step xs q p hp,kidsP_snoc,ih (q+1) (by omega) (by omega) (by omega),List.drop_eq_getElem_cons hl,he]
   show _++kidP (q,p)=(Pt.plain ⟨#[44]⟩ :: Pt.op p 1 :: argQ (xs.drop (q+1))).reverse
   unfold kidP
   rw [if_neg (show ¬ (q,p).1=0 by show ¬ q=0;omega),List.reverse_cons,List.reverse_cons,List.append_assoc];rfl
theorem kidsP_all:∀ xs:List Int,kidsP (cameI xs 0)=(argP xs).reverse
 | []=>rfl
 | a :: ks=>by
   rw [cameI_step (a :: ks) 0 a rfl,kidsP_snoc,kidsP_came (a :: ks) 1 (by omega) (by simp),argP_Q]
   show _++[Pt.op a 1]=_
   rw [List.reverse_cons];rfl
set_option maxRecDepth 100000 in
set_option maxHeartbeats 4000000 in
theorem backI1_in (F:Fence) (n:Nat) (h7:F.fn 203) (hro:F.round=none) (hn:1≤n) (l Bs b po cap:Nat) (A:Option Addr) (xs:List Int) (hlen:xs.length≤1000000000) (J Jx:List (Nat × Int)→World→Prop)
 (hY:∀ pre x W,J pre W→pre.length<xs.length→YieldAt F (n - 1) Tryz.prog l #[.int .i64 (x.1:Int),.int .i64 x.2] W fun e W' =>
   (e = .returned (.bool true)∧J (pre++[x]) W'∧Twos Bs b W W')∨(e = .returned (.bool false)∧Jx (pre++[x]) W'))
 (W:World) (hBs:W.cell? ⟨Bs,0,none⟩=some (.slice A xs.length cap)) (hc:∀ m p,xs[m]? = some p→A=some ⟨b,po,none⟩∧W.cell? ⟨b,po+m,none⟩=some (.int .i64 p)) (h0:J [] W) :
 CallsIn F n Tryz.prog 203 #[.func (.yield l) #[] #[],.pointer (some ⟨Bs,0,none⟩)] W fun e W'=>(∃ v,e = .returned v) ∧
  ((∃ ys,ys=cameI xs 0∧J ys W')∨(∃ pre,True∧Jx pre W')):=by
 obtain ⟨L,hL⟩:∃ L,xs.length=L:=⟨_,rfl⟩
 have HL:=Lib.hid hL
 rw [hL] at hlen hBs
 refine callsIn_of_wp Tryz.func203 rfl h7 ?_ hro
 simp only [Tryz.ntmps203,List.size_toArray,List.length_cons,List.length_nil,Nat.reduceAdd,Nat.reduceSub,Array.replicate_succ,Array.replicate_zero,List.push_toArray,List.append_toArray,List.nil_append,List.cons_append]
 gi_wp2
 gi_loopw [3] (fun i wr=>∃ q:Nat,q≤L∧i = .int .i64 ((q:Int) - 1)∧J (cameI xs q) wr∧Twos Bs b W wr)
  (fun i _=>(intOf i+1).toNat)
 case atStart=>exact ⟨L,Nat.le_refl _,rfl,by rw [← hL,cameI_all];exact h0,Twos.refl _ _ _⟩
 case round =>
  obtain ⟨q,hq,rfl,hJs,hnx⟩:=hrel
  have hBs':=(hnx.cell1 0).trans hBs
  cases q with
  | zero =>
    gi_wp2
    go_end0
    exact ⟨⟨_,rfl⟩,.inl ⟨_,rfl,hJs⟩⟩
  | succ m =>
    obtain ⟨p,hp⟩:∃ p,xs[m]? = some p:=⟨_,List.getElem?_eq_getElem (by omega)⟩
    obtain ⟨hA,c0⟩:=hc m p hp
    have d0:=(hnx.cell2 (po+m)).trans c0
    have hst:=cameI_step xs m p hp
    obtain ⟨fn,tmps,assign,body,hy,hR⟩:=hY _ (m,p) wr hJs (by rw [cameI_len];omega)
    rw [← hst] at hR
    dsimp only at hy
    have hm1:((m+1:Nat):Int) - 1=(m:Int):=by omega
    rw [hm1]
    have hmL:(m:Int)<(L:Int):=by omega
    have hm0:(0:Int)≤(m:Int):=by omega
    clear hm1 c0 hc hJs hst
    subst hA
    gi_wp2
    refine hR.mono ?_
    rintro e W3 (⟨rfl,hJ3,hk3⟩ | ⟨rfl,hJx3⟩)
    · gi_wp2
      go_roundw
      case rel=>exact ⟨m,by omega,by simp,hJ3,hnx.trans hk3⟩
      case measure=>simp [intOf]
    · gi_wp2
      refine bodyPost_ret (results_none rfl _ _ _) rfl ?_
      exact ⟨⟨_,rfl⟩,.inr ⟨_,trivial,hJx3⟩⟩
theorem backwardI_in (F:Fence) (n:Nat) (h5:F.fn 187) (hro:F.round=none) (a:Option Addr) (len cap:Nat) (w:World) :
 CallsIn F n Tryz.prog 187 #[.slice a len cap] w fun e w'=>e = .returned (.func (.func 203) #[] #[.pointer (some ⟨w.heap.size,0,none⟩)])∧w.alloc (.cells #[.slice a len cap] 135)=w':=by
 refine callsIn_of_wp Tryz.func187 rfl h5 ?_ hro
 simp only [Tryz.ntmps187,List.size_toArray,List.length_cons,List.length_nil,Nat.reduceAdd,Nat.reduceSub,Array.replicate_succ,Array.replicate_zero,List.push_toArray,List.append_toArray,List.nil_append,List.cons_append]
 gi_wp2
 go_ret
 exact ⟨rfl,rfl⟩
theorem backI_stops (F:Fence) (n:Nat) (h7:F.fn 203) (hro:F.round=none) (hn:1≤n) (Bs b po cap:Nat) (A:Option Addr) (xs:List Int) (hlen:xs.length≤1000000000) (w:World) (hB:Bs<w.heap.size) (hb:b<w.heap.size)
 (hBs:w.cell? ⟨Bs,0,none⟩=some (.slice A xs.length cap)) (hc:∀ m p,xs[m]? = some p→A=some ⟨b,po,none⟩∧w.cell? ⟨b,po+m,none⟩=some (.int .i64 p)) :
 SeqStopsK F n Tryz.prog 203 #[.pointer (some ⟨Bs,0,none⟩)] (fun x:Nat × Int=>#[Value.int .i64 (x.1:Int),.int .i64 x.2]) (Twos Bs b) (fun ys=>ys=cameI xs 0) (fun _=>True) xs.length w:=fun l J Jx W hW _ _ hY h0 =>
 backI1_in F n h7 hro hn l Bs b po cap A xs hlen J Jx hY W ((hW.cell hB).trans hBs) (fun m p hp=>⟨(hc m p hp).1,(hW.cell (p:=⟨b,po+m,none⟩) hb).trans (hc m p hp).2⟩) h0
end Go.Proofs.YtdphoaabaajonaaGreatDoor
namespace Go.Proofs.YtdphoaabaajonaaGreatDoor
open Go.RowKit Go.Shelf
attribute [local go_sem] Oper.semAt_some
theorem WQ.stay {A B:World} {b:Nat} {nv:Value} {st:List Pt} {txt:List Int} (h:WQ A b nv st txt) {row:Option Nat} (hg:A.grownBy B row) (hr:∀ r,row=some r→∃ o:Obj,A.heap[r]? = some o∧o.isCells=false):WQ B b nv st txt:=by
 obtain ⟨wv,h1,h2⟩:=h
 exact ⟨wv,WS.stay h1 hg hr,ownStay h2 hg hr⟩
theorem Fq.keeps {W W':World} {b B:Nat} (h:Fq W W' b) (hB:b<B):KeepsFrom B W W':=⟨h.size,fun k o hk ho hc=>by
 rw [h.block k (Array.getElem?_eq_some_iff.1 ho).1 (by omega) (.inr fun cur fr=>⟨fun e=>by (rw [ho] at e;cases e;cases hc),fun e=>by (rw [ho] at e;cases e;cases hc)⟩)]
 exact ho⟩
theorem Fq.boxed {W W':World} {b k:Nat} {t:TypeId} {v:Value} (h:Fq W W' b) (hb:Boxed W k t v) (hk:k≠b) (h1:t≠5) (h2:t≠123):W'.heap[k]? = W.heap[k]? := by
 have hb':W.heap[k]? = some (.cells #[v] t):=hb
 exact h.block k (Array.getElem?_eq_some_iff.1 hb').1 hk (.inr fun cur fr=>⟨fun e=>by rw [hb'] at e;injection e with e;injection e with _ e;exact h1 e,fun e=>by rw [hb'] at e;injection e with e;injection e with _ e;exact h2 e⟩)
def CallI (w:World) (b:Nat) (nv:Value) (st:List Pt) (txt:List Int) (z zs:Nat) (sv:Value) (pre:List (Nat × Int)) (W:World):Prop :=
 WQ W b nv (st++kidsP pre) txt∧Boxed W z 114 (.pointer (some ⟨b,0,none⟩))∧Boxed W zs 135 sv∧Fq w W b
theorem callI_own {w:World} {b:Nat} {nv:Value} {st:List Pt} {txt:List Int} {z zs:Nat} {sv:Value} {B:Nat} (hB:w.heap.size≤B):OwnFrom B (CallI w b nv st txt z zs sv):=by
 rintro pre X Y row ⟨h1,h2,h3,h4⟩ hg hr
 have hr2:∀ r,row=some r→∃ o:Obj,X.heap[r]? = some o∧o.isCells=false:=fun r e=>(hr r e).2
 exact ⟨h1.stay hg hr2,cells_stay hg hr2 h2,cells_stay hg hr2 h3,h4.stay hg (fun r e=>Nat.le_trans hB (hr r e).1)⟩
set_option maxRecDepth 100000 in
set_option maxHeartbeats 8000000 in
theorem call_node (w:World) (b:Nat) (nv:Value) (st:List Pt) (txt:List Int) (n:Nd) (A:Option Addr) (m c:Nat) (h:WQ w b nv st txt) (hk:n.kind=7) (hz:n.text.size≤1000000) (hsi:SI w b (.slice A m c) n.kids) (hl:txt.length≤1000000000) (hls:st.length+2*n.kids.length+1≤2000000000) :
 Calls Tryz.prog 151 #[.pointer (some ⟨b,0,none⟩),.agg #[.int .i64 n.kind,.int .i64 n.num,.string n.text,.string n.ref.sh,.int .i64 n.ref.c,.int .i64 n.ref.r,.bool n.ref.ac,.bool n.ref.ar,.string n.to.sh,.int .i64 n.to.c,.int .i64 n.to.r,.bool n.to.ac,.bool n.to.ar,.slice A m c]] w (Wrote w b nv st txt n):=by
 have hs:stepN n=(sb n.text++[40],argP n.kids++[Pt.plain ⟨#[41]⟩]):=by
  unfold stepN;rw [if_neg (by omega),if_neg (by omega),if_neg (by omega),if_neg (by omega),if_neg (by omega),if_neg (by omega),if_pos hk]
 have hbw:b<w.heap.size:=by obtain ⟨wv,h1, -⟩:=h;exact h1.lt
 have f1:¬ 9223372036854775807<n.text.size+(⟨#[40]⟩:ByteArray).size:=by show ¬ _<_+1;omega
 have f2:¬ 9223372036854775807<n.text.size+1:=by omega
 have f3:(n.text++(⟨#[40]⟩:ByteArray)).size=n.text.size+1:=by rw [ByteArray.size_append];rfl
 have HT:=Lib.hid (show sb (n.text++(⟨#[40]⟩:ByteArray))=sb n.text++[40] by rw [sb_append];rfl)
 have hB:Below w.heap.size w ((w.alloc (.cells #[(.pointer (some ⟨b,0,none⟩))] 114)).alloc (.cells #[.int .i64 n.kind,.int .i64 n.num,.string n.text,.string n.ref.sh,.int .i64 n.ref.c,.int .i64 n.ref.r,.bool n.ref.ac,.bool n.ref.ar,.string n.to.sh,.int .i64 n.to.c,.int .i64 n.to.r,.bool n.to.ac,.bool n.to.ar,.slice A m c] 140)):=((Below.refl _ w).alloc (Nat.le_refl _) _).alloc (by simp) _
 have bW:Boxed ((w.alloc (.cells #[(.pointer (some ⟨b,0,none⟩))] 114)).alloc (.cells #[.int .i64 n.kind,.int .i64 n.num,.string n.text,.string n.ref.sh,.int .i64 n.ref.c,.int .i64 n.ref.r,.bool n.ref.ac,.bool n.ref.ar,.string n.to.sh,.int .i64 n.to.c,.int .i64 n.to.r,.bool n.to.ac,.bool n.to.ar,.slice A m c] 140)) w.heap.size 114 (.pointer (some ⟨b,0,none⟩)):=(Boxed.new w 114 (.pointer (some ⟨b,0,none⟩))).alloc _
 have HN:NdAt ((w.alloc (.cells #[(.pointer (some ⟨b,0,none⟩))] 114)).alloc (.cells #[.int .i64 n.kind,.int .i64 n.num,.string n.text,.string n.ref.sh,.int .i64 n.ref.c,.int .i64 n.ref.r,.bool n.ref.ac,.bool n.ref.ar,.string n.to.sh,.int .i64 n.to.c,.int .i64 n.to.r,.bool n.to.ac,.bool n.to.ar,.slice A m c] 140)) (w.heap.size+1) n (.slice A m c):=by
  have h:=NdAt.new (w.alloc (.cells #[(.pointer (some ⟨b,0,none⟩))] 114)) n (.slice A m c)
  rwa [World.size_alloc] at h
 have HS:=Lib.hid hs
 have HB:=Lib.hid hB
 have HQ:=Lib.hid (h.below hB)
 have HSI:=Lib.hid (hsi.below hB (Nat.le_of_lt hbw))
 have hsz:((w.alloc (.cells #[(.pointer (some ⟨b,0,none⟩))] 114)).alloc (.cells #[.int .i64 n.kind,.int .i64 n.num,.string n.text,.string n.ref.sh,.int .i64 n.ref.c,.int .i64 n.ref.r,.bool n.ref.ac,.bool n.ref.ar,.string n.to.sh,.int .i64 n.to.c,.int .i64 n.to.r,.bool n.to.ac,.bool n.to.ar,.slice A m c] 140)).heap.size=w.heap.size+2:=by simp
 clear h hs hk hsi hB
 refine (callsIn_wide (n:=6)).1 ?_
 refine callsIn_of_wp_marks Tryz.func151 rfl trivial ?_ rfl
 simp only [Tryz.ntmps151,List.size_toArray,List.length_cons,List.length_nil,Nat.reduceAdd,Nat.reduceSub,Array.replicate_succ,Array.replicate_zero,List.push_toArray,List.append_toArray,List.nil_append,List.cons_append]
 gi_wp2
 obtain ⟨w1,hw1⟩:∃ w1,((w.alloc (.cells #[(.pointer (some ⟨b,0,none⟩))] 114)).alloc (.cells #[.int .i64 n.kind,.int .i64 n.num,.string n.text,.string n.ref.sh,.int .i64 n.ref.c,.int .i64 n.ref.r,.bool n.ref.ac,.bool n.ref.ar,.string n.to.sh,.int .i64 n.to.c,.int .i64 n.to.r,.bool n.to.ac,.bool n.to.ar,.slice A m c] 140))=w1:=⟨_,rfl⟩
 rw [hw1] at HN HB HQ HSI bW hsz ⊢
 obtain ⟨z,hzz⟩:∃ z,w.heap.size=z:=⟨_,rfl⟩
 rw [hzz] at HN bW hsz ⊢
 have hzl:z<w1.heap.size:=by omega
 have hzl1:z+1<w1.heap.size:=HN.lt
 have hzb:z≠b:=by omega
 have hzb1:z+1≠b:=by omega
 have HN2:=Lib.hid HN
 have HBW:=Lib.hid bW
 have x0:=bW.cell
 obtain ⟨-, -,x2, -, -, -, -, -, -, -, -, -, -,x13⟩:=HN.cells
 have HW:=Lib.hid (fun wr (hr:Below w1.heap.size w1 wr) wv (h1:WS w1 b nv wv txt)=>write_any wr b nv wv txt (n.text++(⟨#[40]⟩:ByteArray)) (h1.below hr) (by rw [f3];omega))
 have H1:=Lib.hid ((Below.refl w1.heap.size w1).drew)
 clear hw1 HN bW f3
 obtain ⟨wv,hws,hown⟩:=HQ.out
 have HWS:=Lib.hid hws
 have HO:=Lib.hid hown
 clear hws hown
 refine wpIn_wide.2 ?_
 go_region_held3 (fun w'=>w'.cell? ⟨z,0,none⟩=some (.pointer (some ⟨b,0,none⟩))∧w'.cell? ⟨z+1,2,none⟩=some (.string n.text)) (go_keep) (first
  | (go_at_call 110;((with_reducible refine (HW.out _ H1.out wv HWS.out).mono ?_);rintro e w2 ⟨⟨x,rfl⟩,h3,h4⟩;have HWS2:=Lib.hid h3;have HF2:=Lib.hid h4;have hzk:=HF2.out.block z hzl hzb (.inr fun cur fr e=>by
      have h6:w1.heap[z]? = some (.cells #[.pointer (some ⟨b,0,none⟩)] 114):=HBW.out
      have h7:w1.drew.heap[z]? = w1.heap[z]? := rfl
      rw [h7,h6] at e;injection e with e;injection e with _ e2;exact absurd e2 (by decide));have hzk1:=HF2.out.block (z+1) hzl1 hzb1 (.inr fun cur fr e=>by
      have h6:w1.heap[z+1]? = some (.cells (nodA n (.slice A m c)) 140):=HN2.out
      have h7:w1.drew.heap[z+1]? = w1.heap[z+1]? := rfl
      rw [h7,h6] at e;injection e with e;injection e with _ e2;exact absurd e2 (by decide));have p0:=(World.cell?_of_block (a:=⟨z,0,none⟩) hzk).trans x0;have p2:=(World.cell?_of_block (a:=⟨z+1,2,none⟩) hzk1).trans x2;have p13:=(World.cell?_of_block (a:=⟨z+1,13,none⟩) hzk1).trans x13;clear h3 h4)))
 gi_wp2
 have hbw2:w1.heap.size≤w2.heap.size:=HF2.out.size
 have HWQ2:=Lib.hid (show WQ w2 b nv st (txt++sb (n.text++(⟨#[40]⟩:ByteArray))) from WQ.wrote (HO.out.below H1.out (Nat.le_refl _)) HWS2.out HF2.out)
 have HPU:=Lib.hid (fun (w3:World) (h3:Below w2.heap.size w2 w3)=>push_lit w3 b nv st [Pt.plain ⟨#[41]⟩] (txt++sb (n.text++(⟨#[40]⟩:ByteArray))) #[.string ⟨#[41]⟩,.int .i64 0,.int .i64 0] 1 rfl rfl (HWQ2.out.below h3) (by show 1≤1000000;decide) (by omega))
 have HZ2:=Lib.hid hzk
 have HZ21:=Lib.hid hzk1
 have H2:=Lib.hid ((Below.refl w2.heap.size w2).drew)
 have hzl2:z<w2.heap.size:=by omega
 have hzl21:z+1<w2.heap.size:=by omega
 clear x0 x2 x13 hzk hzk1 p2
 refine wpIn_wide.2 ?_
 go_region_held3 (fun w'=>w'.cell? ⟨z,0,none⟩=some (.pointer (some ⟨b,0,none⟩))) (go_keep) (first
  | (go_at_call 112;((with_reducible refine (plain_lit _ _).mono ?_);rintro e w3 ⟨rfl,h3⟩;have H3:=Lib.hid (H2.out.trans (h3.mono H2.out.size));have q0:=(H3.out.cell (p:=⟨z,0,none⟩) hzl2).trans p0;clear h3))
  | (go_at_call 77;((with_reducible refine (HPU.out _ H3.out).mono ?_);rintro e w5 ⟨rfl,h3,h4⟩;have HQ5:=Lib.hid h3;have HF5:=Lib.hid h4;have hzk:=Fq.boxed HF5.out (k:=z) (v := .pointer (some ⟨b,0,none⟩)) (t:=114) ((H3.out.block z hzl2).trans (HZ2.out.trans HBW.out)) hzb (by decide) (by decide);have r0:=(World.cell?_of_block (a:=⟨z,0,none⟩) hzk).trans q0;clear h3 h4)))
 have hlt3:w2.heap.size≤w3.heap.size:=H3.out.size
 have N5:NdAt w5 (z+1) n (.slice A m c):=by
  unfold NdAt
  have e1:w3.heap[z+1]? = some (.cells (nodA n (.slice A m c)) 140):=(H3.out.block (z+1) hzl21).trans (HZ21.out.trans HN2.out)
  rw [HF5.out.block (z+1) (by omega) hzb1 (.inr fun cur fr=>⟨fun e=>by (rw [e1] at e;injection e with e;injection e with _ e2;exact absurd e2 (by decide)),fun e=>by (rw [e1] at e;injection e with e;injection e with _ e2;exact absurd e2 (by decide))⟩)]
  exact e1
 obtain ⟨-, -, -, -, -, -, -, -, -, -, -, -, -,x13⟩:=N5.cells
 have HF15:=Lib.hid (((Fq.ofBelow H1.out).trans (Fq.ofB HF2.out)).trans ((Fq.ofBelow H3.out).trans HF5.out))
 have HB5:Boxed w5 z 114 (.pointer (some ⟨b,0,none⟩)):=hzk.trans ((H3.out.block z hzl2).trans (HZ2.out.trans HBW.out))
 have hlt5:w3.heap.size≤w5.heap.size:=HF5.out.size
 have hbw1:b<w1.heap.size:=by omega
 have SI5:=HSI.out.fq HF15.out (Nat.le_refl _) hbw1
 clear N5 hzk q0 r0 p0
 gi_wp2_with (refine ⟨trivial, ?_⟩;gi_at_call 187;refine (backwardI_in Fence.wide _ trivial rfl _ _ _ _).mono ?_;rintro e w' ⟨rfl,rfl⟩)
 have bS:=Boxed.new w5 135 (.slice A m c)
 have hB6:Below w5.heap.size w5 (w5.alloc (.cells #[.slice A m c] 135)):=(Below.refl _ _).alloc (Nat.le_refl _) _
 have bW6:=HB5.alloc (.cells #[.slice A m c] 135)
 have hsz6:(w5.alloc (.cells #[.slice A m c] 135)).heap.size=w5.heap.size+1:=by simp
 obtain ⟨zs,hzs⟩:∃ zs,w5.heap.size=zs:=⟨_,rfl⟩
 obtain ⟨w6,hw6⟩:∃ w6,w5.alloc (.cells #[.slice A m c] 135)=w6:=⟨_,rfl⟩
 rw [hw6] at bS hB6 bW6 hsz6 ⊢
 rw [hzs] at bS hsz6 ⊢
 have hzsb:zs≠b:=by omega
 have hzz6:z≠zs:=by omega
 obtain ⟨A',cap',hsl,hcm, -,hcell⟩:=SI5
 injection hsl with e1 e2 e3
 subst e1 e2 e3
 obtain ⟨pb,po,hpb,hpbb,hcl⟩:∃ pb po,pb<w6.heap.size∧(pb<b∨pb=zs)∧∀ j y,n.kids[j]? = some y→A=some ⟨pb,po,none⟩∧w6.cell? ⟨pb,po+j,none⟩=some (.int .i64 y):=by
  rcases hcell with he | ⟨pb,po,hA,hp,hc⟩
  · exact ⟨zs,0,by omega,.inr rfl,fun j y hj=>by rw [he] at hj;cases hj⟩
  · exact ⟨pb,po,by omega,.inl hp,fun j y hj=>⟨hA,(hB6.cell (p:=⟨pb,po+j,none⟩) (by show pb<_;omega)).trans (hc j y hj)⟩⟩
 have HQ6:WQ w6 b nv (st++[Pt.plain ⟨#[41]⟩]) (txt++sb (n.text++(⟨#[40]⟩:ByteArray))):=HQ5.out.below hB6
 have HF06:=Lib.hid ((Fq.ofBelow HB.out).trans (HF15.out.trans (Fq.ofBelow hB6)))
 have hzs2:z+2≤zs:=by omega
 clear hcell hw6 hzs x13 HB5
 refine wpIn_rangeFunc_ownH (F:=Fence.wide) (n:=6) rfl (by omega) (gf:=203) (lb:=#[.pointer (some ⟨zs,0,none⟩)]) rfl trivial (enters_of Tryz.func203 (by kernel_rfl) rfl)
  (backI_stops Fence.wide 5 trivial rfl (by omega) zs pb po c A n.kids (by omega) w6 bS.lt hpb bS.cell hcl)
  Twos.trans (twosK_b bS.lt hpb) (Below.refl _ _) (fun _=>rfl)
  (CallI w6 b nv (st++[Pt.plain ⟨#[41]⟩]) (txt++sb (n.text++(⟨#[40]⟩:ByteArray))) z zs (.slice A n.kids.length c)) (fun _ _ _=>False)
  (callI_own (Nat.le_refl _)) (fun _ _ _ _ _ hs _ _=>hs) ⟨by rw [show kidsP []=[] from rfl,List.append_nil];exact HQ6,bW6,bS,Fq.refl _ _⟩
  (fun y a' W=>a'={ tmps:=#[.pointer (some ⟨b,0,none⟩),.agg #[.int .i64 n.kind,.int .i64 n.num,.string n.text,.string n.ref.sh,.int .i64 n.ref.c,.int .i64 n.ref.r,.bool n.ref.ac,.bool n.ref.ar,.string n.to.sh,.int .i64 n.to.c,.int .i64 n.to.r,.bool n.to.ac,.bool n.to.ar,.slice A n.kids.length c],.pointer (some ⟨z,0,none⟩),.pointer (some ⟨z+1,0,none⟩),.int .i64 (y.1:Int),.int .i64 y.2,.pointer (some ⟨b,0,none⟩),.pointer (some ⟨b,0,none⟩),.pointer (some ⟨b,2,none⟩),.pointer (some ⟨z+1,2,none⟩),.string n.text,.string (n.text++⟨#[40]⟩),.tuple #[x,.nilIface],.pointer (some ⟨b,0,none⟩),.agg #[.string ⟨#[41]⟩,.int .i64 0,.int .i64 0],.slice (some ⟨w3.heap.size,0,none⟩) 1 1,.tuple #[],.pointer (some ⟨z+1,13,none⟩),.slice A n.kids.length c,.func (.func 203) #[] #[.pointer (some ⟨zs,0,none⟩)],.int .i64 (y.1:Int),.int .i64 y.2,undef,undef,undef,undef,undef,undef,undef,undef,undef,undef,undef],defers:=[] })
  (fun _ _ _ _ _ _ h _ _=>h) ?assign ?body ?done ?stop
 case assign =>
  rintro l pre ⟨j,k⟩ W K hI hK
  dsimp only
  gi_wp2
  exact hK _ _ (KeepsFrom.refl _ _) (Twos.refl _ _ _) hI rfl
 case body =>
  rintro l pre ⟨j,k⟩ a' W - - ⟨hQ,hbz,hbs,hF⟩ rfl hlen
  have hkl:=kidsP_len pre
  have cBa:=hbz.cell
  have HZa:=Lib.hid hbz
  have hzWa:z<W.heap.size:=hbz.lt
  have HPa:=Lib.hid (fun (wr:World) (hr:Below W.heap.size W wr)=>push_lit wr b nv (st++[Pt.plain ⟨#[41]⟩]++kidsP pre) [Pt.op k 1] (txt++sb (n.text++(⟨#[40]⟩:ByteArray))) #[.string ⟨#[]⟩,.int .i64 k,.int .i64 1] 1 rfl rfl (hQ.below hr) (by show 1≤1000000;decide) (by rw [List.length_append,List.length_append];show st.length+1+_≤_;omega))
  have HS0:(fun w'=>w'.cell? ⟨z,0,none⟩=some (.pointer (some ⟨b,0,none⟩))) W.drew:=cBa
  dsimp only
  gi_wp2
  refine region_in (by kernel_rfl) (by kernel_rfl) (wpAny_of_held (S:=(fun w'=>w'.cell? ⟨z,0,none⟩=some (.pointer (some ⟨b,0,none⟩)))) _ _ _ _ ?_)
  show wpAnyH _ _ _ _ _ 5 #[false,false,false,false,false] _ _
  refine held_take (i:=0) (d:=some 22) (fuel:=4) (listed':=#[true,false,false,false,false]) (v := ?_) rfl rfl (by kernel_rfl) (by kernel_rfl) (by kernel_rfl) rfl (fun _ _ _ h=>(by cases h.1)) (by rfl) ?_ HS0 ?_
  rotate_left
  · (intro wS hSw;have e1:wS.cell? ⟨z,0,none⟩=some (.pointer (some ⟨b,0,none⟩)):=hSw;go_simp;try (with_reducible rfl))
  simp only [Act.put,sT,sZ,sS]
  refine held_take (i:=1) (d:=some 23) (fuel:=3) (listed':=#[true,true,false,false,false]) (v := ?_) rfl rfl (by kernel_rfl) (by kernel_rfl) (by kernel_rfl) rfl (fun _ _ _ h=>(by cases h.1)) (by rfl) ?_ HS0 ?_
  rotate_left
  · (intro wS hSw;go_simp;try (with_reducible rfl))
  simp only [Act.put,sT,sZ,sS]
  refine held_one (i:=2) (d:=some 24) (fuel:=2) (listed':=#[true,true,true,false,false]) rfl rfl (by kernel_rfl) rfl (by rfl) (fun K hK => ?_)
  go_simp
  refine (op_lit _ _ _).mono ?_
  rintro e wAa ⟨rfl,h3⟩
  have HAa:=Lib.hid ((Below.refl W.heap.size W).drew.trans (h3.mono (Nat.le_refl _)))
  have HSAa:(fun w'=>w'.cell? ⟨z,0,none⟩=some (.pointer (some ⟨b,0,none⟩))) wAa:=(HAa.out.cell (p:=⟨z,0,none⟩) hzWa).trans cBa
  clear h3
  go_wp2_with fail
  refine hK.out _ _ HSAa ?_
  clear hK K
  simp only [Act.put,sT,sZ,sS]
  refine held_one (i:=3) (d:=some 25) (fuel:=1) (listed':=#[true,true,true,true,false]) rfl rfl (by kernel_rfl) rfl (by rfl) (fun K hK => ?_)
  go_simp
  refine hK.out _ _ ((((Below.refl wAa.heap.size wAa).alloc (Nat.le_refl _) _).cell (p:=⟨z,0,none⟩) (Nat.lt_of_lt_of_le hzWa HAa.out.size)).trans HSAa) ?_
  clear hK K
  simp only [Act.put,sT,sZ,sS]
  refine held_one (i:=4) (d:=some 26) (fuel:=0) (listed':=#[true,true,true,true,true]) rfl rfl (by kernel_rfl) rfl (by rfl) (fun K hK => ?_)
  go_simp
  refine (HPa.out _ HAa.out).mono ?_
  rintro e wBa ⟨rfl,h3,h4⟩
  have HQBa:=Lib.hid h3
  have HFBa:=Lib.hid ((Fq.ofBelow HAa.out).trans h4)
  have HZBa:=Lib.hid (Fq.boxed HFBa.out HZa.out hzb (by decide) (by decide))
  have HSBa:(fun w'=>w'.cell? ⟨z,0,none⟩=some (.pointer (some ⟨b,0,none⟩))) wBa:=(World.cell?_of_block (a:=⟨z,0,none⟩) HZBa.out).trans cBa
  clear h3 h4
  go_wp2_with fail
  refine hK.out _ _ HSBa ?_
  clear hK K
  simp only [Act.put,sT,sZ,sS]
  refine wpAnyH_done (by kernel_rfl) ?_ _
  refine ⟨rfl, ?_⟩
  have hkwA:w6.heap.size≤W.heap.size:=hF.size
  have TW:∀ {W1 W2:World},Fq W1 W2 b→Boxed W1 zs 135 (.slice A n.kids.length c)→pb<W1.heap.size→Twos zs pb W1 W2:=fun h1 h2 h3=>⟨h1.boxed h2 hzsb (by decide) (by decide),by
   rcases hpbb with h | rfl
   · exact h1.block pb h3 (by omega) (.inl h)
   · exact h1.boxed h2 hzsb (by decide) (by decide)⟩
  cases j with
  | zero =>
    gi_wp2
    refine ⟨HFBa.out.keeps (by omega),TW HFBa.out hbs (by omega), ?_,HZBa.out.trans hbz,(HFBa.out.boxed hbs hzsb (by decide) (by decide)).trans hbs,hF.trans HFBa.out⟩
    rw [kidsP_snoc, ← List.append_assoc]
    exact HQBa.out
  | succ j =>
    have hj0:(0:Int)<((j+1:Nat):Int):=by omega
    have cBb:=HSBa
    have HZb:=Lib.hid (show Boxed wBa z 114 (.pointer (some ⟨b,0,none⟩)) from HZBa.out.trans hbz)
    have hzWb:z<wBa.heap.size:=HZb.out.lt
    have HPb:=Lib.hid (fun (wr:World) (hr:Below wBa.heap.size wBa wr)=>push_lit wr b nv (st++[Pt.plain ⟨#[41]⟩]++kidsP pre++[Pt.op k 1].reverse) [Pt.plain ⟨#[44]⟩] (txt++sb (n.text++(⟨#[40]⟩:ByteArray))) #[.string ⟨#[44]⟩,.int .i64 0,.int .i64 0] 1 rfl rfl (HQBa.out.below hr) (by show 1≤1000000;decide) (by rw [List.length_append,List.length_append,List.length_append];show st.length+1+_+1≤_;omega))
    have HS0:(fun w'=>w'.cell? ⟨z,0,none⟩=some (.pointer (some ⟨b,0,none⟩))) wBa.drew:=HSBa
    gi_wp2
    refine region_in (by kernel_rfl) (by kernel_rfl) (wpAny_of_held (S:=(fun w'=>w'.cell? ⟨z,0,none⟩=some (.pointer (some ⟨b,0,none⟩)))) _ _ _ _ ?_)
    show wpAnyH _ _ _ _ _ 4 #[false,false,false,false] _ _
    refine held_take (i:=0) (d:=some 29) (fuel:=3) (listed':=#[true,false,false,false]) (v := ?_) rfl rfl (by kernel_rfl) (by kernel_rfl) (by kernel_rfl) rfl (fun _ _ _ h=>(by cases h.1)) (by rfl) ?_ HS0 ?_
    rotate_left
    · (intro wS hSw;have e1:wS.cell? ⟨z,0,none⟩=some (.pointer (some ⟨b,0,none⟩)):=hSw;go_simp;try (with_reducible rfl))
    simp only [Act.put,sT,sZ,sS]
    refine held_one (i:=1) (d:=some 30) (fuel:=2) (listed':=#[true,true,false,false]) rfl rfl (by kernel_rfl) rfl (by rfl) (fun K hK => ?_)
    go_simp
    refine (plain_lit _ _).mono ?_
    rintro e wAb ⟨rfl,h3⟩
    have HAb:=Lib.hid ((Below.refl wBa.heap.size wBa).drew.trans (h3.mono (Nat.le_refl _)))
    have HSAb:(fun w'=>w'.cell? ⟨z,0,none⟩=some (.pointer (some ⟨b,0,none⟩))) wAb:=(HAb.out.cell (p:=⟨z,0,none⟩) hzWb).trans cBb
    clear h3
    go_wp2_with fail
    refine hK.out _ _ HSAb ?_
    clear hK K
    simp only [Act.put,sT,sZ,sS]
    refine held_one (i:=2) (d:=some 31) (fuel:=1) (listed':=#[true,true,true,false]) rfl rfl (by kernel_rfl) rfl (by rfl) (fun K hK => ?_)
    go_simp
    refine hK.out _ _ ((((Below.refl wAb.heap.size wAb).alloc (Nat.le_refl _) _).cell (p:=⟨z,0,none⟩) (Nat.lt_of_lt_of_le hzWb HAb.out.size)).trans HSAb) ?_
    clear hK K
    simp only [Act.put,sT,sZ,sS]
    refine held_one (i:=3) (d:=some 32) (fuel:=0) (listed':=#[true,true,true,true]) rfl rfl (by kernel_rfl) rfl (by rfl) (fun K hK => ?_)
    go_simp
    refine (HPb.out _ HAb.out).mono ?_
    rintro e wBb ⟨rfl,h3,h4⟩
    have HQBb:=Lib.hid h3
    have HFBb:=Lib.hid ((Fq.ofBelow HAb.out).trans h4)
    have HZBb:=Lib.hid (Fq.boxed HFBb.out HZb.out hzb (by decide) (by decide))
    have HSBb:(fun w'=>w'.cell? ⟨z,0,none⟩=some (.pointer (some ⟨b,0,none⟩))) wBb:=(World.cell?_of_block (a:=⟨z,0,none⟩) HZBb.out).trans cBb
    clear h3 h4
    go_wp2_with fail
    refine hK.out _ _ HSBb ?_
    clear hK K
    simp only [Act.put,sT,sZ,sS]
    refine wpAnyH_done (by kernel_rfl) ?_ _
    refine ⟨rfl, ?_⟩
    gi_wp2
    have HFab:=Lib.hid (HFBa.out.trans HFBb.out)
    refine ⟨HFab.out.keeps (by omega),TW HFab.out hbs (by omega), ?_,HZBb.out.trans (HZBa.out.trans hbz),(HFab.out.boxed hbs hzsb (by decide) (by decide)).trans hbs,hF.trans HFab.out⟩
    rw [kidsP_snoc]
    have h:=HQBb.out
    rw [List.append_assoc (st++[Pt.plain ⟨#[41]⟩]++kidsP pre),List.append_assoc (st++[Pt.plain ⟨#[41]⟩])] at h
    exact h
 case done =>
  rintro D ys W hD rfl ⟨hQ,hbz,hbs,hF⟩ hK
  gi_wp2
  have hg:=grownBy_putObj' W D (.deferred none)
  have hr:∀ r,some D=some r→∃ o:Obj,W.heap[r]? = some o∧o.isCells=false:=fun r e=>by cases e;exact ⟨_,hK,rfl⟩
  refine ⟨by simp,.inl ⟨_,_,rfl,run_takeDeferred hK, ?_⟩⟩
  refine ⟨_,results_none rfl _ _ _,rfl, ?_,(HF06.out.trans hF).stay hg (fun r e=>by cases e;have:=HF06.out.size;omega)⟩
  rw [HS.out]
  rw [kidsP_all,HT.out] at hQ
  rw [show (argP n.kids++[Pt.plain ⟨#[41]⟩]).reverse=[Pt.plain ⟨#[41]⟩]++(argP n.kids).reverse from by rw [List.reverse_append];rfl, ← List.append_assoc]
  exact hQ.stay hg hr
 case stop =>
  rintro D c pre W _ _ h _
  exact h.elim
end Go.Proofs.YtdphoaabaajonaaGreatDoor
namespace Go.Proofs.YtdphoaabaajonaaGreatDoor
open Go.RowKit
def Gl (w0 w:World) (b:Nat):Prop:=w0.heap.size≤b∧Below w0.heap.size w0 w∧Tab w0∧MaxV w0∧ShV w0
theorem Gl.fq {w0 w w':World} {b:Nat} (h:Gl w0 w b) (hf:Fq w w' b):Gl w0 w' b:=by
 obtain ⟨h1,h2,h3⟩:=h
 exact ⟨h1,⟨hf.os.trans h2.os,hf.tape.trans h2.tape,hf.output.trans h2.output,Nat.le_trans h2.size hf.size,fun k hk=>(hf.block k (Nat.lt_of_lt_of_le hk h2.size) (by omega) (.inl (by omega))).trans (h2.block k hk)⟩,h3⟩
theorem Gl.tab {w0 w:World} {b:Nat} (h:Gl w0 w b):Tab w:=h.2.2.1.below h.2.1
theorem Gl.maxV {w0 w:World} {b:Nat} (h:Gl w0 w b):MaxV w:=h.2.2.2.1.below h.2.1
theorem Gl.shV {w0 w:World} {b:Nat} (h:Gl w0 w b):ShV w:=h.2.2.2.2.below h.2.1
theorem Gl.max_lt {w0 w:World} {b:Nat} (h:Gl w0 w b):8<b:=by
 obtain ⟨h1, -, -,⟨m,hm⟩, -⟩:=h
 exact Nat.lt_of_lt_of_le (World.block_lt_of_cell? w0 _ hm) h1
theorem Gl.sh_lt {w0 w:World} {b:Nat} (h:Gl w0 w b):0<b:=Nat.lt_of_lt_of_le h.2.2.2.2.lt h.1
theorem leaf_num6 {n:Nd} (h:nodeB n=true) (hk:n.kind=1):0≤n.num:=by
 have h:=(arms_kids h).2.2.2.2.2
 unfold leafB at h
 split at h
 · cases h
 · exact decide_eq_true_iff.1 h
theorem node_any (w0 w:World) (b:Nat) (nv:Value) (st:List Pt) (txt:List Int) (n:Nd) (A:Option Addr) (m c:Nat) (hg:Gl w0 w b) (h:WQ w b nv st txt) (hn:nodeB n=true) (hnum:n.num≤9223372036854775807) (hz:n.text.size≤1000000) (hz1:n.ref.sh.size≤1000000) (hz2:n.to.sh.size≤1000000) (hsi:SI w b (.slice A m c) n.kids) (hl:txt.length≤1000000000) (hls:st.length+2*n.kids.length+1≤2000000000) :
 Calls Tryz.prog (methS n.kind) #[.pointer (some ⟨b,0,none⟩),.agg #[.int .i64 n.kind,.int .i64 n.num,.string n.text,.string n.ref.sh,.int .i64 n.ref.c,.int .i64 n.ref.r,.bool n.ref.ac,.bool n.ref.ar,.string n.to.sh,.int .i64 n.to.c,.int .i64 n.to.r,.bool n.to.ac,.bool n.to.ar,.slice A m c]] w (Wrote w b nv st txt n):=by
 obtain ⟨a1,a2, -,b1,b2, -⟩:=arms_kids hn
 have hst:st.length≤2000000000:=by omega
 by_cases hk:n.kind=1
 · rw [show methS n.kind=145 from by rw [hk];rfl]
   exact number_node w b nv st txt n A m c h hk n.num.toNat (by have:=leaf_num6 hn hk;omega) (by omega) hg.tab hl
 have h1:=hk
 clear hk
 by_cases hk:n.kind=2
 · rw [show methS n.kind=146 from by rw [hk];rfl]
   exact quoted_node w b nv st txt n A m c h hk hz hg.maxV hg.max_lt hl
 have h2:=hk
 clear hk
 by_cases hk:n.kind=3
 · rw [show methS n.kind=147 from by rw [hk];rfl]
   by_cases hv:n.num=1
   · exact truth_yes w b nv st txt n A m c h hk hv hl
   · exact truth_no w b nv st txt n A m c h hk hv hl
 have h3:=hk
 clear hk
 by_cases hk:n.kind=4
 · rw [show methS n.kind=148 from by rw [hk];rfl]
   exact dead_node w b nv st txt n A m c h hk hl
 have h4:=hk
 clear hk
 by_cases hk:n.kind=5
 · rw [show methS n.kind=149 from by rw [hk];rfl]
   exact place_node w b nv st txt n A m c h hk hz1 hg.tab hl
 have h5:=hk
 clear hk
 by_cases hk:n.kind=6
 · rw [show methS n.kind=150 from by rw [hk];rfl]
   exact places_node w b nv st txt n A m c h hk hz1 hz2 hg.tab hl
 have h6:=hk
 clear hk
 by_cases hk:n.kind=7
 · rw [show methS n.kind=151 from by rw [hk];rfl]
   exact call_node w b nv st txt n A m c h hk hz hsi hl hls
 have h7:=hk
 clear hk
 by_cases hk:n.kind=8
 · rw [show methS n.kind=152 from by rw [hk];rfl]
   have hl1:=a1 hk
   exact negative_node w b nv st txt n A m c h hk _ (List.getElem?_eq_getElem (by omega:0<n.kids.length)) hsi hl hst
 have h8:=hk
 clear hk
 have hl2:=a2 (by omega)
 rw [show methS n.kind=153 from by unfold methS;rw [if_neg h1,if_neg h2,if_neg h3,if_neg h4,if_neg h5,if_neg h6,if_neg h7,if_neg h8]]
 exact between_node w b nv st txt n A m c h n.kind.toNat (by omega) (by omega) (by omega) _ _ (List.getElem?_eq_getElem (by omega:0<n.kids.length)) (List.getElem?_eq_getElem (by omega:1<n.kids.length)) hsi hg.shV hg.sh_lt hst
def SN (w:World) (B:Nat) (v:Value) (vs:List (Nd × Value)):Prop :=
 (∃ A cap,v = .slice A vs.length cap∧(vs=[]∨∃ pb po,A=some ⟨pb,po,none⟩∧pb<B∧∀ (i:Nat) (n:Nd) (k:Value),vs[i]? = some (n,k)→∀ j,j<14→w.cell? ⟨pb,po+i*14+j,none⟩=(nodA n k).toList[j]?))∧∀ p∈vs,SI w B p.2 p.1.kids
def SZ (vs:List (Nd × Value)):Prop:=vs.length≤1000∧∀ p∈vs,p.1.text.size≤1000000∧p.1.ref.sh.size≤1000000∧p.1.to.sh.size≤1000000
set_option maxRecDepth 100000 in
set_option maxHeartbeats 16000000 in
theorem ptree_any (w:World) (v:Value) (vs:List (Nd × Value)) (hv:Vars w) (h:SN w w.heap.size v vs) (hz:SZ vs):Calls Tryz.prog 76 #[v] w fun e w'=>e = .returned (.bool (treeB (vs.map (·.1))))∧Below w.heap.size w w':=by
 obtain ⟨⟨A,cap,rfl,hat⟩,hkid⟩:=h
 obtain ⟨hlen,hsz⟩:=hz
 obtain ⟨nl,hnl⟩:∃ nl,vs.length=nl:=⟨_,rfl⟩
 rw [hnl] at hlen ⊢
 have HV:=Lib.hid hv;have HAT:=Lib.hid hat;have HKID:=Lib.hid hkid;have HSZ:=Lib.hid hsz;have HNL:=Lib.hid hnl
 obtain ⟨eb,hEB,EL⟩:=Elem.kid
 have HEL:=Lib.hid EL
 clear hv hat hkid hsz hnl EL
 go_enter Tryz.func76,Tryz.ntmps76
 go_upto_region 3 with (fail)
 go_loopw [3,9] (fun rv iv wr=>∃ (i:Nat) (st:List Int) (rk:Value),i≤nl∧st.length≤i∧rk=rv∧iv = .int .i64 (i:Int)∧Hid (treeB (vs.map (·.1))=treeF st i ((vs.map (·.1)).drop i))∧Hid (Own (encInt .i64) 3 wr w.heap.size rk st)∧Hid (Below w.heap.size w wr))
  (fun _ iv _=>nl - (intOf iv).toNat)
 case atStart=>exact ⟨0,[],.slice none 0 0,Nat.zero_le _,Nat.le_refl _,rfl,rfl,Lib.hid rfl,Lib.hid (Own.nil _ _ _ _),Lib.hid (Below.refl _ _)⟩
 case round =>
  obtain ⟨i,st,rk,hi,hsi,rfl,rfl,HT,HO,HB⟩:=hrel
  by_cases hlt:i<nl
  · have hii:(i:Int)<(nl:Int):=by omega
    obtain ⟨⟨n,k⟩,hnk⟩:∃ q,vs[i]? = some q:=⟨_,List.getElem?_eq_getElem (by rw [HNL.out];exact hlt)⟩
    have hmem:=List.mem_of_getElem? hnk
    obtain ⟨hz1,hz2,hz3⟩:=HSZ.out _ hmem
    have HZ1:=Lib.hid hz1;have HZ2:=Lib.hid hz2;have HZ3:=Lib.hid hz3
    clear hz1 hz2 hz3
    have hski:SI w w.heap.size k n.kids:=HKID.out _ hmem
    obtain ⟨Ak,ck,hk,hkc,hkm,_⟩:=id hski
    obtain ⟨m,hm⟩:∃ m,n.kids.length=m:=⟨_,rfl⟩
    rw [hm] at hk hkc
    subst hk
    have hmm:m≤maxLen:=Nat.le_trans hkc hkm
    have hmx:m≤9223372036854775807:=by unfold maxLen at hmm;omega
    have HMM:=Lib.hid hmm
    have HM:=Lib.hid hm
    have HSK:=Lib.hid hski
    have HD:=Lib.hid (show (vs.map (·.1)).drop i=n :: (vs.map (·.1)).drop (i+1) by
     have hl:i<(vs.map (·.1)).length:=by rw [List.length_map,HNL.out];exact hlt
     rw [List.drop_eq_getElem_cons hl]
     congr 1
     have h1:(vs.map (·.1))[i]? = some n:=by rw [List.getElem?_map,hnk];rfl
     rw [List.getElem?_eq_getElem hl] at h1;exact Option.some.inj h1)
    rcases HAT.out with e | ⟨pb,po,rfl,hpb,hcells⟩
    · exfalso;rw [e] at hnk;simp at hnk
    have hcell:=hcells i n _ hnk
    have k0:wr.cell? ⟨pb,po+i*14,none⟩=some (.int .i64 n.kind):=(HB.out.cell (p:=⟨pb,po+i*14,none⟩) hpb).trans (hcell 0 (by omega))
    have k1:wr.cell? ⟨pb,po+i*14+1,none⟩=some (.int .i64 n.num):=(HB.out.cell (p:=⟨pb,po+i*14+1,none⟩) hpb).trans (hcell 1 (by omega))
    have k2:wr.cell? ⟨pb,po+i*14+2,none⟩=some (.string n.text):=(HB.out.cell (p:=⟨pb,po+i*14+2,none⟩) hpb).trans (hcell 2 (by omega))
    have k3:wr.cell? ⟨pb,po+i*14+3,none⟩=some (.string n.ref.sh):=(HB.out.cell (p:=⟨pb,po+i*14+3,none⟩) hpb).trans (hcell 3 (by omega))
    have k4:wr.cell? ⟨pb,po+i*14+4,none⟩=some (.int .i64 n.ref.c):=(HB.out.cell (p:=⟨pb,po+i*14+4,none⟩) hpb).trans (hcell 4 (by omega))
    have k5:wr.cell? ⟨pb,po+i*14+5,none⟩=some (.int .i64 n.ref.r):=(HB.out.cell (p:=⟨pb,po+i*14+5,none⟩) hpb).trans (hcell 5 (by omega))
    have k6:wr.cell? ⟨pb,po+i*14+6,none⟩=some (.bool n.ref.ac):=(HB.out.cell (p:=⟨pb,po+i*14+6,none⟩) hpb).trans (hcell 6 (by omega))
    have k7:wr.cell? ⟨pb,po+i*14+7,none⟩=some (.bool n.ref.ar):=(HB.out.cell (p:=⟨pb,po+i*14+7,none⟩) hpb).trans (hcell 7 (by omega))
    have k8:wr.cell? ⟨pb,po+i*14+8,none⟩=some (.string n.to.sh):=(HB.out.cell (p:=⟨pb,po+i*14+8,none⟩) hpb).trans (hcell 8 (by omega))
    have k9:wr.cell? ⟨pb,po+i*14+9,none⟩=some (.int .i64 n.to.c):=(HB.out.cell (p:=⟨pb,po+i*14+9,none⟩) hpb).trans (hcell 9 (by omega))
    have k10:wr.cell? ⟨pb,po+i*14+10,none⟩=some (.int .i64 n.to.r):=(HB.out.cell (p:=⟨pb,po+i*14+10,none⟩) hpb).trans (hcell 10 (by omega))
    have k11:wr.cell? ⟨pb,po+i*14+11,none⟩=some (.bool n.to.ac):=(HB.out.cell (p:=⟨pb,po+i*14+11,none⟩) hpb).trans (hcell 11 (by omega))
    have k12:wr.cell? ⟨pb,po+i*14+12,none⟩=some (.bool n.to.ar):=(HB.out.cell (p:=⟨pb,po+i*14+12,none⟩) hpb).trans (hcell 12 (by omega))
    have k13:wr.cell? ⟨pb,po+i*14+13,none⟩=some (.slice Ak m ck):=(HB.out.cell (p:=⟨pb,po+i*14+13,none⟩) hpb).trans (hcell 13 (by omega))
    clear hcell hcells hnk hmem hski hm hkc hkm hmm
    have hL:st.length≤1000:=by omega
    rcases HO.out.shape with ⟨rfl,hst⟩ | ⟨rg,rcap,rfl,hrg,hrl,hrc,hrm⟩
    · have hst0:st.length=0:=by rw [hst];rfl
      by_cases hm0:m=0
      rotate_left
      · have hneg : -(m:Int)<0:=by omega
        have hml:¬ m≤st.length:=by omega
        have HT2:=Lib.hid (show treeB (vs.map (·.1))=false by rw [HT.out,HD.out,treeF_cons,HM.out,decide_eq_false hml,Bool.false_and,Bool.and_false])
        have hmp:0<m:=by omega
        clear hml hst0 hst hm0
        have hB3:Below wr.heap.size wr (wr.alloc (.cells #[.int .i64 n.kind,.int .i64 n.num,.string n.text,.string n.ref.sh,.int .i64 n.ref.c,.int .i64 n.ref.r,.bool n.ref.ac,.bool n.ref.ar,.string n.to.sh,.int .i64 n.to.c,.int .i64 n.to.r,.bool n.to.ac,.bool n.to.ar,.slice Ak m ck] 140)):=(Below.refl _ _).alloc (Nat.le_refl _) _
        have HN3:NdAt (wr.alloc (.cells #[.int .i64 n.kind,.int .i64 n.num,.string n.text,.string n.ref.sh,.int .i64 n.ref.c,.int .i64 n.ref.r,.bool n.ref.ac,.bool n.ref.ar,.string n.to.sh,.int .i64 n.to.c,.int .i64 n.to.r,.bool n.to.ac,.bool n.to.ar,.slice Ak m ck] 140)) wr.heap.size n (.slice Ak m ck):=NdAt.new wr n _
        have HB3:=Lib.hid (HB.out.trans (hB3.mono HB.out.size))
        have HO3:=Lib.hid (HO.out.alloc (.cells #[.int .i64 n.kind,.int .i64 n.num,.string n.text,.string n.ref.sh,.int .i64 n.ref.c,.int .i64 n.ref.r,.bool n.ref.ac,.bool n.ref.ar,.string n.to.sh,.int .i64 n.to.c,.int .i64 n.to.r,.bool n.to.ac,.bool n.to.ar,.slice Ak m ck] 140))
        clear hB3
        go_upto_region 6 with (fail)
        generalize hb3:wr.heap.size=b3 at HN3 ⊢
        generalize wr.alloc (.cells #[.int .i64 n.kind,.int .i64 n.num,.string n.text,.string n.ref.sh,.int .i64 n.ref.c,.int .i64 n.ref.r,.bool n.ref.ac,.bool n.ref.ar,.string n.to.sh,.int .i64 n.to.c,.int .i64 n.to.r,.bool n.to.ac,.bool n.to.ar,.slice Ak m ck] 140)=w3 at HN3 HB3 HO3 ⊢
        clear hb3 k0 k1 k2 k3 k4 k5 k6 k7 k8 k9 k10 k11 k12 k13 HO
        have HN3:=Lib.hid HN3
        refine wp_region_held_drew (S:=fun W=>Below w3.heap.size w3 W) (by kernel_rfl) (Below.drew (Below.refl w3.heap.size w3)) (fun _ => ?_)
        show wpAnyH _ _ _ _ _ 16 #[false,false,false,false,false,false,false,false,false,false,false,false,false,false,false,false] _ _
        refine held_take (i:=0) (d:=some 20) (fuel:=15) (listed':=#[true,false,false,false,false,false,false,false,false,false,false,false,false,false,false,false]) (v := ?_) rfl rfl (by kernel_rfl) (by kernel_rfl) (by kernel_rfl) rfl (fun _ _ _ h=>h) (by rfl) ?_ (Below.drew (Below.refl w3.heap.size w3)) ?_
        rotate_left
        · (intro wS hSw;go_simp;try (with_reducible rfl))
        simp only [Act.put,sT,sZ,sS]
        refine held_take (i:=1) (d:=some 21) (fuel:=14) (listed':=#[true,true,false,false,false,false,false,false,false,false,false,false,false,false,false,false]) (v := ?_) rfl rfl (by kernel_rfl) (by kernel_rfl) (by kernel_rfl) rfl (fun _ _ _ h=>h) (by rfl) ?_ (Below.drew (Below.refl w3.heap.size w3)) ?_
        rotate_left
        · (intro wS hSw;go_simp;try (with_reducible rfl))
        simp only [Act.put,sT,sZ,sS]
        refine held_take (i:=2) (d:=some 22) (fuel:=13) (listed':=#[true,true,true,false,false,false,false,false,false,false,false,false,false,false,false,false]) (v := ?_) rfl rfl (by kernel_rfl) (by kernel_rfl) (by kernel_rfl) rfl (fun _ _ _ h=>h) (by rfl) ?_ (Below.drew (Below.refl w3.heap.size w3)) ?_
        rotate_left
        · (intro wS hSw;go_simp;try (with_reducible rfl))
        simp only [Act.put,sT,sZ,sS]
        refine held_skip (i:=3) (d:=some 23) (fuel:=12) (listed':=#[true,true,true,true,false,false,false,false,false,false,false,false,false,false,false,false]) rfl rfl (by kernel_rfl) (by kernel_rfl) (by kernel_rfl) rfl (fun _ _ _ h=>h) (by rfl) (Below.drew (Below.refl w3.heap.size w3)) ?_
        simp only [Act.put,sT,sZ,sS]
        refine held_skip (i:=4) (d:=some 24) (fuel:=11) (listed':=#[true,true,true,true,true,false,false,false,false,false,false,false,false,false,false,false]) rfl rfl (by kernel_rfl) (by kernel_rfl) (by kernel_rfl) rfl (fun _ _ _ h=>h) (by rfl) (Below.drew (Below.refl w3.heap.size w3)) ?_
        simp only [Act.put,sT,sZ,sS]
        refine held_skip (i:=5) (d:=some 25) (fuel:=10) (listed':=#[true,true,true,true,true,true,false,false,false,false,false,false,false,false,false,false]) rfl rfl (by kernel_rfl) (by kernel_rfl) (by kernel_rfl) rfl (fun _ _ _ h=>h) (by rfl) (Below.drew (Below.refl w3.heap.size w3)) ?_
        simp only [Act.put,sT,sZ,sS]
        refine held_skip (i:=6) (d:=some 26) (fuel:=9) (listed':=#[true,true,true,true,true,true,true,false,false,false,false,false,false,false,false,false]) rfl rfl (by kernel_rfl) (by kernel_rfl) (by kernel_rfl) rfl (fun _ _ _ h=>h) (by rfl) (Below.drew (Below.refl w3.heap.size w3)) ?_
        simp only [Act.put,sT,sZ,sS]
        refine held_skip (i:=7) (d:=some 27) (fuel:=8) (listed':=#[true,true,true,true,true,true,true,true,false,false,false,false,false,false,false,false]) rfl rfl (by kernel_rfl) (by kernel_rfl) (by kernel_rfl) rfl (fun _ _ _ h=>h) (by rfl) (Below.drew (Below.refl w3.heap.size w3)) ?_
        simp only [Act.put,sT,sZ,sS]
        refine held_skip (i:=8) (d:=some 28) (fuel:=7) (listed':=#[true,true,true,true,true,true,true,true,true,false,false,false,false,false,false,false]) rfl rfl (by kernel_rfl) (by kernel_rfl) (by kernel_rfl) rfl (fun _ _ _ h=>h) (by rfl) (Below.drew (Below.refl w3.heap.size w3)) ?_
        simp only [Act.put,sT,sZ,sS]
        refine held_skip (i:=9) (d:=some 29) (fuel:=6) (listed':=#[true,true,true,true,true,true,true,true,true,true,false,false,false,false,false,false]) rfl rfl (by kernel_rfl) (by kernel_rfl) (by kernel_rfl) rfl (fun _ _ _ h=>h) (by rfl) (Below.drew (Below.refl w3.heap.size w3)) ?_
        simp only [Act.put,sT,sZ,sS]
        refine held_take (i:=10) (d:=some 30) (fuel:=5) (listed':=#[true,true,true,true,true,true,true,true,true,true,true,false,false,false,false,false]) (v := ?_) rfl rfl (by kernel_rfl) (by kernel_rfl) (by kernel_rfl) rfl (fun _ _ _ h=>h) (by rfl) ?_ (Below.drew (Below.refl w3.heap.size w3)) ?_
        rotate_left
        · (intro wS hSw;go_simp;try (with_reducible rfl))
        simp only [Act.put,sT,sZ,sS]
        refine held_take (i:=11) (d:=some 31) (fuel:=4) (listed':=#[true,true,true,true,true,true,true,true,true,true,true,true,false,false,false,false]) (v := ?_) rfl rfl (by kernel_rfl) (by kernel_rfl) (by kernel_rfl) rfl (fun _ _ _ h=>h) (by rfl) ?_ (Below.drew (Below.refl w3.heap.size w3)) ?_
        rotate_left
        · (intro wS hSw;go_simp;try (with_reducible rfl))
        simp only [Act.put,sT,sZ,sS]
        refine held_skip (i:=12) (d:=some 32) (fuel:=3) (listed':=#[true,true,true,true,true,true,true,true,true,true,true,true,true,false,false,false]) rfl rfl (by kernel_rfl) (by kernel_rfl) (by kernel_rfl) rfl (fun _ _ _ h=>h) (by rfl) (Below.drew (Below.refl w3.heap.size w3)) ?_
        simp only [Act.put,sT,sZ,sS]
        refine held_skip (i:=13) (d:=some 33) (fuel:=2) (listed':=#[true,true,true,true,true,true,true,true,true,true,true,true,true,true,false,false]) rfl rfl (by kernel_rfl) (by kernel_rfl) (by kernel_rfl) rfl (fun _ _ _ h=>h) (by rfl) (Below.drew (Below.refl w3.heap.size w3)) ?_
        simp only [Act.put,sT,sZ,sS]
        refine held_skip (i:=14) (d:=some 34) (fuel:=1) (listed':=#[true,true,true,true,true,true,true,true,true,true,true,true,true,true,true,false]) rfl rfl (by kernel_rfl) (by kernel_rfl) (by kernel_rfl) rfl (fun _ _ _ h=>h) (by rfl) (Below.drew (Below.refl w3.heap.size w3)) ?_
        simp only [Act.put,sT,sZ,sS]
        refine held_take (i:=15) (d:=some 35) (fuel:=0) (listed':=#[true,true,true,true,true,true,true,true,true,true,true,true,true,true,true,true]) (v := ?_) rfl rfl (by kernel_rfl) (by kernel_rfl) (by kernel_rfl) rfl (fun _ _ _ h=>h) (by rfl) ?_ (Below.drew (Below.refl w3.heap.size w3)) ?_
        rotate_left
        · (intro wS hSw;go_simp;try (with_reducible rfl))
        simp only [Act.put,sT,sZ,sS]
        refine wpAnyH_done (by kernel_rfl) ?_ _
        go_wp2_with fail
        go_ret
        exact ⟨by rw [HT2.out] <;> rfl,HB3.out.drew⟩
      subst hm0
      have HST:=Lib.hid hst
      clear hst hst0
      have hB3:Below wr.heap.size wr (wr.alloc (.cells #[.int .i64 n.kind,.int .i64 n.num,.string n.text,.string n.ref.sh,.int .i64 n.ref.c,.int .i64 n.ref.r,.bool n.ref.ac,.bool n.ref.ar,.string n.to.sh,.int .i64 n.to.c,.int .i64 n.to.r,.bool n.to.ac,.bool n.to.ar,.slice Ak 0 ck] 140)):=(Below.refl _ _).alloc (Nat.le_refl _) _
      have HN3:NdAt (wr.alloc (.cells #[.int .i64 n.kind,.int .i64 n.num,.string n.text,.string n.ref.sh,.int .i64 n.ref.c,.int .i64 n.ref.r,.bool n.ref.ac,.bool n.ref.ar,.string n.to.sh,.int .i64 n.to.c,.int .i64 n.to.r,.bool n.to.ac,.bool n.to.ar,.slice Ak 0 ck] 140)) wr.heap.size n (.slice Ak 0 ck):=NdAt.new wr n _
      have HB3:=Lib.hid (HB.out.trans (hB3.mono HB.out.size))
      have HO3:=Lib.hid (HO.out.alloc (.cells #[.int .i64 n.kind,.int .i64 n.num,.string n.text,.string n.ref.sh,.int .i64 n.ref.c,.int .i64 n.ref.r,.bool n.ref.ac,.bool n.ref.ar,.string n.to.sh,.int .i64 n.to.c,.int .i64 n.to.r,.bool n.to.ac,.bool n.to.ar,.slice Ak 0 ck] 140))
      clear hB3
      go_upto_region 6 with (fail)
      generalize hb3:wr.heap.size=b3 at HN3 ⊢
      generalize wr.alloc (.cells #[.int .i64 n.kind,.int .i64 n.num,.string n.text,.string n.ref.sh,.int .i64 n.ref.c,.int .i64 n.ref.r,.bool n.ref.ac,.bool n.ref.ar,.string n.to.sh,.int .i64 n.to.c,.int .i64 n.to.r,.bool n.to.ac,.bool n.to.ar,.slice Ak 0 ck] 140)=w3 at HN3 HB3 HO3 ⊢
      clear hb3 k0 k1 k2 k3 k4 k5 k6 k7 k8 k9 k10 k11 k12 k13 HO
      have HN3:=Lib.hid HN3
      obtain ⟨f,hf⟩:∃ f,st.length - 0=f:=⟨_,rfl⟩
      have hml:0≤st.length:=Nat.zero_le _
      have hfL:f≤st.length:=by omega
      have HS1:=Lib.hid (show ∀ W,Below w3.heap.size w3 W→SI W w3.heap.size (.slice none 0 0) (st.drop f) from fun W hW=>⟨none,0,by rw [HST.out];simp,by rw [HST.out];simp,by unfold maxLen;omega,.inl (by rw [HST.out];simp)⟩)
      have HSK3:=Lib.hid (HSK.out.below HB3.out (Nat.le_refl _))
      by_cases hdk:st.drop f=n.kids
      rotate_left
      · have HT2:=Lib.hid (show treeB (vs.map (·.1))=false by rw [HT.out,HD.out,treeF_cons,HM.out,hf,decide_eq_false hdk,Bool.false_and,Bool.and_false,Bool.and_false])
        have HEQ:=Lib.hid (show ∀ W,Below w3.heap.size w3 W→Calls Tryz.prog 107 #[.slice none 0 0,.slice Ak 0 ck] W fun e w'=>e = .returned (.bool false)∧Below W.heap.size W w' from fun W hW=>by
         have:=equal_any W w3.heap.size _ _ _ _ (HS1.out W hW) ((HSK3.out.mono HB3.out.size).below hW (Nat.le_refl _))
         rw [decide_eq_false hdk] at this;exact this)
        clear hml hdk hf hfL
        refine wp_region_held_drew (S:=fun W=>Below w3.heap.size w3 W) (by kernel_rfl) (Below.drew (Below.refl w3.heap.size w3)) (fun _ => ?_)
        show wpAnyH _ _ _ _ _ 16 #[false,false,false,false,false,false,false,false,false,false,false,false,false,false,false,false] _ _
        refine held_take (i:=0) (d:=some 20) (fuel:=15) (listed':=#[true,false,false,false,false,false,false,false,false,false,false,false,false,false,false,false]) (v := ?_) rfl rfl (by kernel_rfl) (by kernel_rfl) (by kernel_rfl) rfl (fun _ _ _ h=>h) (by rfl) ?_ (Below.drew (Below.refl w3.heap.size w3)) ?_
        rotate_left
        · (intro wS hSw;go_simp;try (with_reducible rfl))
        simp only [Act.put,sT,sZ,sS]
        refine held_take (i:=1) (d:=some 21) (fuel:=14) (listed':=#[true,true,false,false,false,false,false,false,false,false,false,false,false,false,false,false]) (v := ?_) rfl rfl (by kernel_rfl) (by kernel_rfl) (by kernel_rfl) rfl (fun _ _ _ h=>h) (by rfl) ?_ (Below.drew (Below.refl w3.heap.size w3)) ?_
        rotate_left
        · (intro wS hSw;go_simp;try (with_reducible rfl))
        simp only [Act.put,sT,sZ,sS]
        refine held_take (i:=2) (d:=some 22) (fuel:=13) (listed':=#[true,true,true,false,false,false,false,false,false,false,false,false,false,false,false,false]) (v := ?_) rfl rfl (by kernel_rfl) (by kernel_rfl) (by kernel_rfl) rfl (fun _ _ _ h=>h) (by rfl) ?_ (Below.drew (Below.refl w3.heap.size w3)) ?_
        rotate_left
        · (intro wS hSw;go_simp;try (with_reducible rfl))
        simp only [Act.put,sT,sZ,sS]
        refine held_take (i:=3) (d:=some 23) (fuel:=12) (listed':=#[true,true,true,true,false,false,false,false,false,false,false,false,false,false,false,false]) (v := ?_) rfl rfl (by kernel_rfl) (by kernel_rfl) (by kernel_rfl) rfl (fun _ _ _ h=>h) (by rfl) ?_ (Below.drew (Below.refl w3.heap.size w3)) ?_
        rotate_left
        · (intro wS hSw;go_simp;try (with_reducible rfl))
        simp only [Act.put,sT,sZ,sS]
        refine held_take (i:=4) (d:=some 24) (fuel:=11) (listed':=#[true,true,true,true,true,false,false,false,false,false,false,false,false,false,false,false]) (v := ?_) rfl rfl (by kernel_rfl) (by kernel_rfl) (by kernel_rfl) rfl (fun _ _ _ h=>h) (by rfl) ?_ (Below.drew (Below.refl w3.heap.size w3)) ?_
        rotate_left
        · (intro wS hSw;go_simp;try (with_reducible rfl))
        simp only [Act.put,sT,sZ,sS]
        refine held_take (i:=5) (d:=some 25) (fuel:=10) (listed':=#[true,true,true,true,true,true,false,false,false,false,false,false,false,false,false,false]) (v := ?_) rfl rfl (by kernel_rfl) (by kernel_rfl) (by kernel_rfl) rfl (fun _ _ _ h=>h) (by rfl) ?_ (Below.drew (Below.refl w3.heap.size w3)) ?_
        rotate_left
        · (intro wS hSw;go_simp;try (with_reducible rfl))
        simp only [Act.put,sT,sZ,sS]
        refine held_take (i:=6) (d:=some 26) (fuel:=9) (listed':=#[true,true,true,true,true,true,true,false,false,false,false,false,false,false,false,false]) (v := ?_) rfl rfl (by kernel_rfl) (by kernel_rfl) (by kernel_rfl) rfl (fun _ _ _ h=>h) (by rfl) ?_ (Below.drew (Below.refl w3.heap.size w3)) ?_
        rotate_left
        · (intro wS hSw;go_simp;try (with_reducible rfl))
        simp only [Act.put,sT,sZ,sS]
        refine held_take (i:=7) (d:=some 27) (fuel:=8) (listed':=#[true,true,true,true,true,true,true,true,false,false,false,false,false,false,false,false]) (v := ?_) rfl rfl (by kernel_rfl) (by kernel_rfl) (by kernel_rfl) rfl (fun _ _ _ h=>h) (by rfl) ?_ (Below.drew (Below.refl w3.heap.size w3)) ?_
        rotate_left
        · (intro wS hSw;have hz:=(HN3.out.below hSw HN3.out.lt).cells;go_simp;try (with_reducible rfl))
        simp only [Act.put,sT,sZ,sS]
        refine held_one (i:=8) (d:=some 28) (fuel:=7) (listed':=#[true,true,true,true,true,true,true,true,true,false,false,false,false,false,false,false]) rfl rfl (by kernel_rfl) rfl (by rfl) (fun K hK => ?_)
        go_simp
        refine (HEQ.out _ (Below.drew (Below.refl w3.heap.size w3))).mono ?_
        rintro e w4 ⟨rfl,h1⟩
        have HE:=Lib.hid ((Below.drew (Below.refl w3.heap.size w3)).trans h1)
        clear h1
        go_wp2_with fail
        refine hK.out _ _ HE.out ?_
        clear hK K
        simp only [Act.put,sT,sZ,sS]
        refine held_take (i:=9) (d:=some 29) (fuel:=6) (listed':=#[true,true,true,true,true,true,true,true,true,true,false,false,false,false,false,false]) (v := ?_) rfl rfl (by kernel_rfl) (by kernel_rfl) (by kernel_rfl) rfl (fun _ _ _ h=>h) (by rfl) ?_ HE.out ?_
        rotate_left
        · (intro wS hSw;go_simp;try (with_reducible rfl))
        simp only [Act.put,sT,sZ,sS]
        refine held_take (i:=10) (d:=some 30) (fuel:=5) (listed':=#[true,true,true,true,true,true,true,true,true,true,true,false,false,false,false,false]) (v := ?_) rfl rfl (by kernel_rfl) (by kernel_rfl) (by kernel_rfl) rfl (fun _ _ _ h=>h) (by rfl) ?_ HE.out ?_
        rotate_left
        · (intro wS hSw;go_simp;try (with_reducible rfl))
        simp only [Act.put,sT,sZ,sS]
        refine held_take (i:=11) (d:=some 31) (fuel:=4) (listed':=#[true,true,true,true,true,true,true,true,true,true,true,true,false,false,false,false]) (v := ?_) rfl rfl (by kernel_rfl) (by kernel_rfl) (by kernel_rfl) rfl (fun _ _ _ h=>h) (by rfl) ?_ HE.out ?_
        rotate_left
        · (intro wS hSw;go_simp;try (with_reducible rfl))
        simp only [Act.put,sT,sZ,sS]
        refine held_skip (i:=12) (d:=some 32) (fuel:=3) (listed':=#[true,true,true,true,true,true,true,true,true,true,true,true,true,false,false,false]) rfl rfl (by kernel_rfl) (by kernel_rfl) (by kernel_rfl) rfl (fun _ _ _ h=>h) (by rfl) HE.out ?_
        simp only [Act.put,sT,sZ,sS]
        refine held_skip (i:=13) (d:=some 33) (fuel:=2) (listed':=#[true,true,true,true,true,true,true,true,true,true,true,true,true,true,false,false]) rfl rfl (by kernel_rfl) (by kernel_rfl) (by kernel_rfl) rfl (fun _ _ _ h=>h) (by rfl) HE.out ?_
        simp only [Act.put,sT,sZ,sS]
        refine held_skip (i:=14) (d:=some 34) (fuel:=1) (listed':=#[true,true,true,true,true,true,true,true,true,true,true,true,true,true,true,false]) rfl rfl (by kernel_rfl) (by kernel_rfl) (by kernel_rfl) rfl (fun _ _ _ h=>h) (by rfl) HE.out ?_
        simp only [Act.put,sT,sZ,sS]
        refine held_take (i:=15) (d:=some 35) (fuel:=0) (listed':=#[true,true,true,true,true,true,true,true,true,true,true,true,true,true,true,true]) (v := ?_) rfl rfl (by kernel_rfl) (by kernel_rfl) (by kernel_rfl) rfl (fun _ _ _ h=>h) (by rfl) ?_ HE.out ?_
        rotate_left
        · (intro wS hSw;go_simp;try (with_reducible rfl))
        simp only [Act.put,sT,sZ,sS]
        refine wpAnyH_done (by kernel_rfl) ?_ _
        go_wp2_with fail
        go_ret
        exact ⟨by rw [HT2.out] <;> rfl,HB3.out.trans (HE.out.mono HB3.out.size)⟩
      have HEQ:=Lib.hid (show ∀ W,Below w3.heap.size w3 W→Calls Tryz.prog 107 #[.slice none 0 0,.slice Ak 0 ck] W fun e w'=>e = .returned (.bool true)∧Below W.heap.size W w' from fun W hW=>by
       have:=equal_any W w3.heap.size _ _ _ _ (HS1.out W hW) ((HSK3.out.mono HB3.out.size).below hW (Nat.le_refl _))
       rw [decide_eq_true hdk] at this;exact this)
      have HDK:=Lib.hid hdk
      cases hnb:nodeB n
      · have HT2:=Lib.hid (show treeB (vs.map (·.1))=false by rw [HT.out,HD.out,treeF_cons,hnb,Bool.false_and])
        have HNO:=Lib.hid (show ∀ W,Below w3.heap.size w3 W→Calls Tryz.prog 108 #[.agg #[.int .i64 n.kind,.int .i64 n.num,.string n.text,.string n.ref.sh,.int .i64 n.ref.c,.int .i64 n.ref.r,.bool n.ref.ac,.bool n.ref.ar,.string n.to.sh,.int .i64 n.to.c,.int .i64 n.to.r,.bool n.to.ac,.bool n.to.ar,.slice Ak 0 ck]] W fun e w'=>e = .returned (.bool false)∧Below W.heap.size W w' from fun W hW=>by
         have:=isNode_any W n (HV.out.below (HB3.out.trans (hW.mono HB3.out.size))) HZ1.out HZ2.out HZ3.out Ak 0 ck HMM.out
         rw [← HM.out,isNd_eq,hnb] at this;rw [← HM.out];exact this)
        clear hml hdk hf hfL hnb
        refine wp_region_held_drew (S:=fun W=>Below w3.heap.size w3 W) (by kernel_rfl) (Below.drew (Below.refl w3.heap.size w3)) (fun _ => ?_)
        show wpAnyH _ _ _ _ _ 16 #[false,false,false,false,false,false,false,false,false,false,false,false,false,false,false,false] _ _
        refine held_take (i:=0) (d:=some 20) (fuel:=15) (listed':=#[true,false,false,false,false,false,false,false,false,false,false,false,false,false,false,false]) (v := ?_) rfl rfl (by kernel_rfl) (by kernel_rfl) (by kernel_rfl) rfl (fun _ _ _ h=>h) (by rfl) ?_ (Below.drew (Below.refl w3.heap.size w3)) ?_
        rotate_left
        · (intro wS hSw;go_simp;try (with_reducible rfl))
        simp only [Act.put,sT,sZ,sS]
        refine held_take (i:=1) (d:=some 21) (fuel:=14) (listed':=#[true,true,false,false,false,false,false,false,false,false,false,false,false,false,false,false]) (v := ?_) rfl rfl (by kernel_rfl) (by kernel_rfl) (by kernel_rfl) rfl (fun _ _ _ h=>h) (by rfl) ?_ (Below.drew (Below.refl w3.heap.size w3)) ?_
        rotate_left
        · (intro wS hSw;go_simp;try (with_reducible rfl))
        simp only [Act.put,sT,sZ,sS]
        refine held_take (i:=2) (d:=some 22) (fuel:=13) (listed':=#[true,true,true,false,false,false,false,false,false,false,false,false,false,false,false,false]) (v := ?_) rfl rfl (by kernel_rfl) (by kernel_rfl) (by kernel_rfl) rfl (fun _ _ _ h=>h) (by rfl) ?_ (Below.drew (Below.refl w3.heap.size w3)) ?_
        rotate_left
        · (intro wS hSw;go_simp;try (with_reducible rfl))
        simp only [Act.put,sT,sZ,sS]
        refine held_take (i:=3) (d:=some 23) (fuel:=12) (listed':=#[true,true,true,true,false,false,false,false,false,false,false,false,false,false,false,false]) (v := ?_) rfl rfl (by kernel_rfl) (by kernel_rfl) (by kernel_rfl) rfl (fun _ _ _ h=>h) (by rfl) ?_ (Below.drew (Below.refl w3.heap.size w3)) ?_
        rotate_left
        · (intro wS hSw;go_simp;try (with_reducible rfl))
        simp only [Act.put,sT,sZ,sS]
        refine held_take (i:=4) (d:=some 24) (fuel:=11) (listed':=#[true,true,true,true,true,false,false,false,false,false,false,false,false,false,false,false]) (v := ?_) rfl rfl (by kernel_rfl) (by kernel_rfl) (by kernel_rfl) rfl (fun _ _ _ h=>h) (by rfl) ?_ (Below.drew (Below.refl w3.heap.size w3)) ?_
        rotate_left
        · (intro wS hSw;go_simp;try (with_reducible rfl))
        simp only [Act.put,sT,sZ,sS]
        refine held_take (i:=5) (d:=some 25) (fuel:=10) (listed':=#[true,true,true,true,true,true,false,false,false,false,false,false,false,false,false,false]) (v := ?_) rfl rfl (by kernel_rfl) (by kernel_rfl) (by kernel_rfl) rfl (fun _ _ _ h=>h) (by rfl) ?_ (Below.drew (Below.refl w3.heap.size w3)) ?_
        rotate_left
        · (intro wS hSw;go_simp;try (with_reducible rfl))
        simp only [Act.put,sT,sZ,sS]
        refine held_take (i:=6) (d:=some 26) (fuel:=9) (listed':=#[true,true,true,true,true,true,true,false,false,false,false,false,false,false,false,false]) (v := ?_) rfl rfl (by kernel_rfl) (by kernel_rfl) (by kernel_rfl) rfl (fun _ _ _ h=>h) (by rfl) ?_ (Below.drew (Below.refl w3.heap.size w3)) ?_
        rotate_left
        · (intro wS hSw;go_simp;try (with_reducible rfl))
        simp only [Act.put,sT,sZ,sS]
        refine held_take (i:=7) (d:=some 27) (fuel:=8) (listed':=#[true,true,true,true,true,true,true,true,false,false,false,false,false,false,false,false]) (v := ?_) rfl rfl (by kernel_rfl) (by kernel_rfl) (by kernel_rfl) rfl (fun _ _ _ h=>h) (by rfl) ?_ (Below.drew (Below.refl w3.heap.size w3)) ?_
        rotate_left
        · (intro wS hSw;have hz:=(HN3.out.below hSw HN3.out.lt).cells;go_simp;try (with_reducible rfl))
        simp only [Act.put,sT,sZ,sS]
        refine held_one (i:=8) (d:=some 28) (fuel:=7) (listed':=#[true,true,true,true,true,true,true,true,true,false,false,false,false,false,false,false]) rfl rfl (by kernel_rfl) rfl (by rfl) (fun K hK => ?_)
        go_simp
        refine (HEQ.out _ (Below.drew (Below.refl w3.heap.size w3))).mono ?_
        rintro e w4 ⟨rfl,h1⟩
        have HE:=Lib.hid ((Below.drew (Below.refl w3.heap.size w3)).trans h1)
        clear h1
        go_wp2_with fail
        refine hK.out _ _ HE.out ?_
        clear hK K
        simp only [Act.put,sT,sZ,sS]
        refine held_take (i:=9) (d:=some 29) (fuel:=6) (listed':=#[true,true,true,true,true,true,true,true,true,true,false,false,false,false,false,false]) (v := ?_) rfl rfl (by kernel_rfl) (by kernel_rfl) (by kernel_rfl) rfl (fun _ _ _ h=>h) (by rfl) ?_ HE.out ?_
        rotate_left
        · (intro wS hSw;go_simp;try (with_reducible rfl))
        simp only [Act.put,sT,sZ,sS]
        refine held_take (i:=10) (d:=some 30) (fuel:=5) (listed':=#[true,true,true,true,true,true,true,true,true,true,true,false,false,false,false,false]) (v := ?_) rfl rfl (by kernel_rfl) (by kernel_rfl) (by kernel_rfl) rfl (fun _ _ _ h=>h) (by rfl) ?_ HE.out ?_
        rotate_left
        · (intro wS hSw;go_simp;try (with_reducible rfl))
        simp only [Act.put,sT,sZ,sS]
        refine held_take (i:=11) (d:=some 31) (fuel:=4) (listed':=#[true,true,true,true,true,true,true,true,true,true,true,true,false,false,false,false]) (v := ?_) rfl rfl (by kernel_rfl) (by kernel_rfl) (by kernel_rfl) rfl (fun _ _ _ h=>h) (by rfl) ?_ HE.out ?_
        rotate_left
        · (intro wS hSw;go_simp;try (with_reducible rfl))
        simp only [Act.put,sT,sZ,sS]
        refine held_take (i:=12) (d:=some 32) (fuel:=3) (listed':=#[true,true,true,true,true,true,true,true,true,true,true,true,true,false,false,false]) (v := ?_) rfl rfl (by kernel_rfl) (by kernel_rfl) (by kernel_rfl) rfl (fun _ _ _ h=>h) (by rfl) ?_ HE.out ?_
        rotate_left
        · (intro wS hSw;have hz:=(HN3.out.below hSw HN3.out.lt).cells;go_simp;try (with_reducible rfl))
        simp only [Act.put,sT,sZ,sS]
        refine held_one (i:=13) (d:=some 33) (fuel:=2) (listed':=#[true,true,true,true,true,true,true,true,true,true,true,true,true,true,false,false]) rfl rfl (by kernel_rfl) rfl (by rfl) (fun K hK => ?_)
        go_simp
        refine (HNO.out _ HE.out).mono ?_
        rintro e w5 ⟨rfl,h1⟩
        have HF:=Lib.hid (HE.out.trans (h1.mono HE.out.size))
        clear h1
        go_wp2_with fail
        refine hK.out _ _ HF.out ?_
        clear hK K
        simp only [Act.put,sT,sZ,sS]
        refine held_take (i:=14) (d:=some 34) (fuel:=1) (listed':=#[true,true,true,true,true,true,true,true,true,true,true,true,true,true,true,false]) (v := ?_) rfl rfl (by kernel_rfl) (by kernel_rfl) (by kernel_rfl) rfl (fun _ _ _ h=>h) (by rfl) ?_ HF.out ?_
        rotate_left
        · (intro wS hSw;go_simp;try (with_reducible rfl))
        simp only [Act.put,sT,sZ,sS]
        refine held_take (i:=15) (d:=some 35) (fuel:=0) (listed':=#[true,true,true,true,true,true,true,true,true,true,true,true,true,true,true,true]) (v := ?_) rfl rfl (by kernel_rfl) (by kernel_rfl) (by kernel_rfl) rfl (fun _ _ _ h=>h) (by rfl) ?_ HF.out ?_
        rotate_left
        · (intro wS hSw;go_simp;try (with_reducible rfl))
        simp only [Act.put,sT,sZ,sS]
        refine wpAnyH_done (by kernel_rfl) ?_ _
        go_wp2_with fail
        go_ret
        exact ⟨by rw [HT2.out] <;> rfl,HB3.out.trans (HF.out.mono HB3.out.size)⟩
      · have HT2:=Lib.hid (show treeB (vs.map (·.1))=treeF (st.take f++[(i:Int)]) (i+1) ((vs.map (·.1)).drop (i+1)) by rw [HT.out,HD.out,treeF_cons,hnb,HM.out,decide_eq_true hml,hf,decide_eq_true hdk,Bool.true_and,Bool.true_and,Bool.true_and])
        have HNO:=Lib.hid (show ∀ W,Below w3.heap.size w3 W→Calls Tryz.prog 108 #[.agg #[.int .i64 n.kind,.int .i64 n.num,.string n.text,.string n.ref.sh,.int .i64 n.ref.c,.int .i64 n.ref.r,.bool n.ref.ac,.bool n.ref.ar,.string n.to.sh,.int .i64 n.to.c,.int .i64 n.to.r,.bool n.to.ac,.bool n.to.ar,.slice Ak 0 ck]] W fun e w'=>e = .returned (.bool true)∧Below W.heap.size W w' from fun W hW=>by
         have:=isNode_any W n (HV.out.below (HB3.out.trans (hW.mono HB3.out.size))) HZ1.out HZ2.out HZ3.out Ak 0 ck HMM.out
         rw [← HM.out,isNd_eq,hnb] at this;rw [← HM.out];exact this)
        clear hml hdk hnb
        refine wp_region_held_drew (S:=fun W=>Below w3.heap.size w3 W) (by kernel_rfl) (Below.drew (Below.refl w3.heap.size w3)) (fun _ => ?_)
        show wpAnyH _ _ _ _ _ 16 #[false,false,false,false,false,false,false,false,false,false,false,false,false,false,false,false] _ _
        refine held_take (i:=0) (d:=some 20) (fuel:=15) (listed':=#[true,false,false,false,false,false,false,false,false,false,false,false,false,false,false,false]) (v := ?_) rfl rfl (by kernel_rfl) (by kernel_rfl) (by kernel_rfl) rfl (fun _ _ _ h=>h) (by rfl) ?_ (Below.drew (Below.refl w3.heap.size w3)) ?_
        rotate_left
        · (intro wS hSw;go_simp;try (with_reducible rfl))
        simp only [Act.put,sT,sZ,sS]
        refine held_take (i:=1) (d:=some 21) (fuel:=14) (listed':=#[true,true,false,false,false,false,false,false,false,false,false,false,false,false,false,false]) (v := ?_) rfl rfl (by kernel_rfl) (by kernel_rfl) (by kernel_rfl) rfl (fun _ _ _ h=>h) (by rfl) ?_ (Below.drew (Below.refl w3.heap.size w3)) ?_
        rotate_left
        · (intro wS hSw;go_simp;try (with_reducible rfl))
        simp only [Act.put,sT,sZ,sS]
        refine held_take (i:=2) (d:=some 22) (fuel:=13) (listed':=#[true,true,true,false,false,false,false,false,false,false,false,false,false,false,false,false]) (v := ?_) rfl rfl (by kernel_rfl) (by kernel_rfl) (by kernel_rfl) rfl (fun _ _ _ h=>h) (by rfl) ?_ (Below.drew (Below.refl w3.heap.size w3)) ?_
        rotate_left
        · (intro wS hSw;go_simp;try (with_reducible rfl))
        simp only [Act.put,sT,sZ,sS]
        refine held_take (i:=3) (d:=some 23) (fuel:=12) (listed':=#[true,true,true,true,false,false,false,false,false,false,false,false,false,false,false,false]) (v := ?_) rfl rfl (by kernel_rfl) (by kernel_rfl) (by kernel_rfl) rfl (fun _ _ _ h=>h) (by rfl) ?_ (Below.drew (Below.refl w3.heap.size w3)) ?_
        rotate_left
        · (intro wS hSw;go_simp;try (with_reducible rfl))
        simp only [Act.put,sT,sZ,sS]
        refine held_take (i:=4) (d:=some 24) (fuel:=11) (listed':=#[true,true,true,true,true,false,false,false,false,false,false,false,false,false,false,false]) (v := ?_) rfl rfl (by kernel_rfl) (by kernel_rfl) (by kernel_rfl) rfl (fun _ _ _ h=>h) (by rfl) ?_ (Below.drew (Below.refl w3.heap.size w3)) ?_
        rotate_left
        · (intro wS hSw;go_simp;try (with_reducible rfl))
        simp only [Act.put,sT,sZ,sS]
        refine held_take (i:=5) (d:=some 25) (fuel:=10) (listed':=#[true,true,true,true,true,true,false,false,false,false,false,false,false,false,false,false]) (v := ?_) rfl rfl (by kernel_rfl) (by kernel_rfl) (by kernel_rfl) rfl (fun _ _ _ h=>h) (by rfl) ?_ (Below.drew (Below.refl w3.heap.size w3)) ?_
        rotate_left
        · (intro wS hSw;go_simp;try (with_reducible rfl))
        simp only [Act.put,sT,sZ,sS]
        refine held_take (i:=6) (d:=some 26) (fuel:=9) (listed':=#[true,true,true,true,true,true,true,false,false,false,false,false,false,false,false,false]) (v := ?_) rfl rfl (by kernel_rfl) (by kernel_rfl) (by kernel_rfl) rfl (fun _ _ _ h=>h) (by rfl) ?_ (Below.drew (Below.refl w3.heap.size w3)) ?_
        rotate_left
        · (intro wS hSw;go_simp;try (with_reducible rfl))
        simp only [Act.put,sT,sZ,sS]
        refine held_take (i:=7) (d:=some 27) (fuel:=8) (listed':=#[true,true,true,true,true,true,true,true,false,false,false,false,false,false,false,false]) (v := ?_) rfl rfl (by kernel_rfl) (by kernel_rfl) (by kernel_rfl) rfl (fun _ _ _ h=>h) (by rfl) ?_ (Below.drew (Below.refl w3.heap.size w3)) ?_
        rotate_left
        · (intro wS hSw;have hz:=(HN3.out.below hSw HN3.out.lt).cells;go_simp;try (with_reducible rfl))
        simp only [Act.put,sT,sZ,sS]
        refine held_one (i:=8) (d:=some 28) (fuel:=7) (listed':=#[true,true,true,true,true,true,true,true,true,false,false,false,false,false,false,false]) rfl rfl (by kernel_rfl) rfl (by rfl) (fun K hK => ?_)
        go_simp
        refine (HEQ.out _ (Below.drew (Below.refl w3.heap.size w3))).mono ?_
        rintro e w4 ⟨rfl,h1⟩
        have HE:=Lib.hid ((Below.drew (Below.refl w3.heap.size w3)).trans h1)
        clear h1
        go_wp2_with fail
        refine hK.out _ _ HE.out ?_
        clear hK K
        simp only [Act.put,sT,sZ,sS]
        refine held_take (i:=9) (d:=some 29) (fuel:=6) (listed':=#[true,true,true,true,true,true,true,true,true,true,false,false,false,false,false,false]) (v := ?_) rfl rfl (by kernel_rfl) (by kernel_rfl) (by kernel_rfl) rfl (fun _ _ _ h=>h) (by rfl) ?_ HE.out ?_
        rotate_left
        · (intro wS hSw;go_simp;try (with_reducible rfl))
        simp only [Act.put,sT,sZ,sS]
        refine held_take (i:=10) (d:=some 30) (fuel:=5) (listed':=#[true,true,true,true,true,true,true,true,true,true,true,false,false,false,false,false]) (v := ?_) rfl rfl (by kernel_rfl) (by kernel_rfl) (by kernel_rfl) rfl (fun _ _ _ h=>h) (by rfl) ?_ HE.out ?_
        rotate_left
        · (intro wS hSw;go_simp;try (with_reducible rfl))
        simp only [Act.put,sT,sZ,sS]
        refine held_take (i:=11) (d:=some 31) (fuel:=4) (listed':=#[true,true,true,true,true,true,true,true,true,true,true,true,false,false,false,false]) (v := ?_) rfl rfl (by kernel_rfl) (by kernel_rfl) (by kernel_rfl) rfl (fun _ _ _ h=>h) (by rfl) ?_ HE.out ?_
        rotate_left
        · (intro wS hSw;go_simp;try (with_reducible rfl))
        simp only [Act.put,sT,sZ,sS]
        refine held_take (i:=12) (d:=some 32) (fuel:=3) (listed':=#[true,true,true,true,true,true,true,true,true,true,true,true,true,false,false,false]) (v := ?_) rfl rfl (by kernel_rfl) (by kernel_rfl) (by kernel_rfl) rfl (fun _ _ _ h=>h) (by rfl) ?_ HE.out ?_
        rotate_left
        · (intro wS hSw;have hz:=(HN3.out.below hSw HN3.out.lt).cells;go_simp;try (with_reducible rfl))
        simp only [Act.put,sT,sZ,sS]
        refine held_one (i:=13) (d:=some 33) (fuel:=2) (listed':=#[true,true,true,true,true,true,true,true,true,true,true,true,true,true,false,false]) rfl rfl (by kernel_rfl) rfl (by rfl) (fun K hK => ?_)
        go_simp
        refine (HNO.out _ HE.out).mono ?_
        rintro e w5 ⟨rfl,h1⟩
        have HF:=Lib.hid (HE.out.trans (h1.mono HE.out.size))
        clear h1
        go_wp2_with fail
        refine hK.out _ _ HF.out ?_
        clear hK K
        simp only [Act.put,sT,sZ,sS]
        refine held_take (i:=14) (d:=some 34) (fuel:=1) (listed':=#[true,true,true,true,true,true,true,true,true,true,true,true,true,true,true,false]) (v := ?_) rfl rfl (by kernel_rfl) (by kernel_rfl) (by kernel_rfl) rfl (fun _ _ _ h=>h) (by rfl) ?_ HF.out ?_
        rotate_left
        · (intro wS hSw;go_simp;try (with_reducible rfl))
        simp only [Act.put,sT,sZ,sS]
        refine held_take (i:=15) (d:=some 35) (fuel:=0) (listed':=#[true,true,true,true,true,true,true,true,true,true,true,true,true,true,true,true]) (v := ?_) rfl rfl (by kernel_rfl) (by kernel_rfl) (by kernel_rfl) rfl (fun _ _ _ h=>h) (by rfl) ?_ HF.out ?_
        rotate_left
        · (intro wS hSw;go_simp;try (with_reducible rfl))
        simp only [Act.put,sT,sZ,sS]
        refine wpAnyH_done (by kernel_rfl) ?_ _
        have HB5:=Lib.hid (HB3.out.trans (HF.out.mono HB3.out.size))
        have HO5:=Lib.hid (HO3.out.below HF.out (Nat.le_refl _))
        have hlt5:(st.take f).length≤1000:=by rw [List.length_take];omega
        go_wp2_with (at_builtin;refine wpList_app HEL.out (encInt .i64) rfl (.tmp 38) (.tmp 40) rfl w.heap.size (.slice none 0 0) (st.take f) rfl ((show Own (encInt .i64) 3 w5 w.heap.size (.slice none 0 0) (st.take f) from by rw [HST.out,List.take_nil];exact Own.nil _ _ _ _).alloc _) ⟨w5.heap.size,0,none⟩ 1 1 [(i:Int)] rfl rfl ?_ ?_ ?_ ?_ ?_;exact cells_new _ _ _ rfl;exact Nat.le_trans (Nat.mul_le_mul_left _ hEB) (by omega);(unfold maxLen;omega);(have:=HB5.out.size;simp <;> omega);intro kv' w6 h1 h2;have HO6:=Lib.hid h1;have HB6:=Lib.hid (((HB5.out.alloc HB5.out.size _)).trans h2);clear h1 h2)
        go_roundw
        case rel=>exact ⟨i+1,st.take f++[(i:Int)],kv',by omega,by rw [List.length_append,List.length_take,List.length_singleton];omega,rfl,by go_num,HT2,HO6,HB6⟩
        case measure=>simp [intOf];omega
    · skip
      by_cases hml:m≤st.length
      rotate_left
      · have hneg:(st.length:Int) - (m:Int)<0:=by omega
        have HT2:=Lib.hid (show treeB (vs.map (·.1))=false by rw [HT.out,HD.out,treeF_cons,HM.out,decide_eq_false hml,Bool.false_and,Bool.and_false])
        have hw1 : -9223372036854775808≤(st.length:Int) - (m:Int):=by omega
        have hw2:(st.length:Int) - (m:Int)≤9223372036854775807:=by omega
        clear hml
        have hB3:Below wr.heap.size wr (wr.alloc (.cells #[.int .i64 n.kind,.int .i64 n.num,.string n.text,.string n.ref.sh,.int .i64 n.ref.c,.int .i64 n.ref.r,.bool n.ref.ac,.bool n.ref.ar,.string n.to.sh,.int .i64 n.to.c,.int .i64 n.to.r,.bool n.to.ac,.bool n.to.ar,.slice Ak m ck] 140)):=(Below.refl _ _).alloc (Nat.le_refl _) _
        have HN3:NdAt (wr.alloc (.cells #[.int .i64 n.kind,.int .i64 n.num,.string n.text,.string n.ref.sh,.int .i64 n.ref.c,.int .i64 n.ref.r,.bool n.ref.ac,.bool n.ref.ar,.string n.to.sh,.int .i64 n.to.c,.int .i64 n.to.r,.bool n.to.ac,.bool n.to.ar,.slice Ak m ck] 140)) wr.heap.size n (.slice Ak m ck):=NdAt.new wr n _
        have HB3:=Lib.hid (HB.out.trans (hB3.mono HB.out.size))
        have HO3:=Lib.hid (HO.out.alloc (.cells #[.int .i64 n.kind,.int .i64 n.num,.string n.text,.string n.ref.sh,.int .i64 n.ref.c,.int .i64 n.ref.r,.bool n.ref.ac,.bool n.ref.ar,.string n.to.sh,.int .i64 n.to.c,.int .i64 n.to.r,.bool n.to.ac,.bool n.to.ar,.slice Ak m ck] 140))
        clear hB3
        go_upto_region 6 with (fail)
        generalize hb3:wr.heap.size=b3 at HN3 ⊢
        generalize wr.alloc (.cells #[.int .i64 n.kind,.int .i64 n.num,.string n.text,.string n.ref.sh,.int .i64 n.ref.c,.int .i64 n.ref.r,.bool n.ref.ac,.bool n.ref.ar,.string n.to.sh,.int .i64 n.to.c,.int .i64 n.to.r,.bool n.to.ac,.bool n.to.ar,.slice Ak m ck] 140)=w3 at HN3 HB3 HO3 ⊢
        clear hb3 k0 k1 k2 k3 k4 k5 k6 k7 k8 k9 k10 k11 k12 k13 HO
        have HN3:=Lib.hid HN3
        refine wp_region_held_drew (S:=fun W=>Below w3.heap.size w3 W) (by kernel_rfl) (Below.drew (Below.refl w3.heap.size w3)) (fun _ => ?_)
        show wpAnyH _ _ _ _ _ 16 #[false,false,false,false,false,false,false,false,false,false,false,false,false,false,false,false] _ _
        refine held_take (i:=0) (d:=some 20) (fuel:=15) (listed':=#[true,false,false,false,false,false,false,false,false,false,false,false,false,false,false,false]) (v := ?_) rfl rfl (by kernel_rfl) (by kernel_rfl) (by kernel_rfl) rfl (fun _ _ _ h=>h) (by rfl) ?_ (Below.drew (Below.refl w3.heap.size w3)) ?_
        rotate_left
        · (intro wS hSw;go_simp;try (with_reducible rfl))
        simp only [Act.put,sT,sZ,sS]
        refine held_take (i:=1) (d:=some 21) (fuel:=14) (listed':=#[true,true,false,false,false,false,false,false,false,false,false,false,false,false,false,false]) (v := ?_) rfl rfl (by kernel_rfl) (by kernel_rfl) (by kernel_rfl) rfl (fun _ _ _ h=>h) (by rfl) ?_ (Below.drew (Below.refl w3.heap.size w3)) ?_
        rotate_left
        · (intro wS hSw;go_simp;try (with_reducible rfl))
        simp only [Act.put,sT,sZ,sS]
        refine held_take (i:=2) (d:=some 22) (fuel:=13) (listed':=#[true,true,true,false,false,false,false,false,false,false,false,false,false,false,false,false]) (v := ?_) rfl rfl (by kernel_rfl) (by kernel_rfl) (by kernel_rfl) rfl (fun _ _ _ h=>h) (by rfl) ?_ (Below.drew (Below.refl w3.heap.size w3)) ?_
        rotate_left
        · (intro wS hSw;go_simp;try (with_reducible rfl))
        simp only [Act.put,sT,sZ,sS]
        refine held_skip (i:=3) (d:=some 23) (fuel:=12) (listed':=#[true,true,true,true,false,false,false,false,false,false,false,false,false,false,false,false]) rfl rfl (by kernel_rfl) (by kernel_rfl) (by kernel_rfl) rfl (fun _ _ _ h=>h) (by rfl) (Below.drew (Below.refl w3.heap.size w3)) ?_
        simp only [Act.put,sT,sZ,sS]
        refine held_skip (i:=4) (d:=some 24) (fuel:=11) (listed':=#[true,true,true,true,true,false,false,false,false,false,false,false,false,false,false,false]) rfl rfl (by kernel_rfl) (by kernel_rfl) (by kernel_rfl) rfl (fun _ _ _ h=>h) (by rfl) (Below.drew (Below.refl w3.heap.size w3)) ?_
        simp only [Act.put,sT,sZ,sS]
        refine held_skip (i:=5) (d:=some 25) (fuel:=10) (listed':=#[true,true,true,true,true,true,false,false,false,false,false,false,false,false,false,false]) rfl rfl (by kernel_rfl) (by kernel_rfl) (by kernel_rfl) rfl (fun _ _ _ h=>h) (by rfl) (Below.drew (Below.refl w3.heap.size w3)) ?_
        simp only [Act.put,sT,sZ,sS]
        refine held_skip (i:=6) (d:=some 26) (fuel:=9) (listed':=#[true,true,true,true,true,true,true,false,false,false,false,false,false,false,false,false]) rfl rfl (by kernel_rfl) (by kernel_rfl) (by kernel_rfl) rfl (fun _ _ _ h=>h) (by rfl) (Below.drew (Below.refl w3.heap.size w3)) ?_
        simp only [Act.put,sT,sZ,sS]
        refine held_skip (i:=7) (d:=some 27) (fuel:=8) (listed':=#[true,true,true,true,true,true,true,true,false,false,false,false,false,false,false,false]) rfl rfl (by kernel_rfl) (by kernel_rfl) (by kernel_rfl) rfl (fun _ _ _ h=>h) (by rfl) (Below.drew (Below.refl w3.heap.size w3)) ?_
        simp only [Act.put,sT,sZ,sS]
        refine held_skip (i:=8) (d:=some 28) (fuel:=7) (listed':=#[true,true,true,true,true,true,true,true,true,false,false,false,false,false,false,false]) rfl rfl (by kernel_rfl) (by kernel_rfl) (by kernel_rfl) rfl (fun _ _ _ h=>h) (by rfl) (Below.drew (Below.refl w3.heap.size w3)) ?_
        simp only [Act.put,sT,sZ,sS]
        refine held_skip (i:=9) (d:=some 29) (fuel:=6) (listed':=#[true,true,true,true,true,true,true,true,true,true,false,false,false,false,false,false]) rfl rfl (by kernel_rfl) (by kernel_rfl) (by kernel_rfl) rfl (fun _ _ _ h=>h) (by rfl) (Below.drew (Below.refl w3.heap.size w3)) ?_
        simp only [Act.put,sT,sZ,sS]
        refine held_take (i:=10) (d:=some 30) (fuel:=5) (listed':=#[true,true,true,true,true,true,true,true,true,true,true,false,false,false,false,false]) (v := ?_) rfl rfl (by kernel_rfl) (by kernel_rfl) (by kernel_rfl) rfl (fun _ _ _ h=>h) (by rfl) ?_ (Below.drew (Below.refl w3.heap.size w3)) ?_
        rotate_left
        · (intro wS hSw;go_simp;try (with_reducible rfl))
        simp only [Act.put,sT,sZ,sS]
        refine held_take (i:=11) (d:=some 31) (fuel:=4) (listed':=#[true,true,true,true,true,true,true,true,true,true,true,true,false,false,false,false]) (v := ?_) rfl rfl (by kernel_rfl) (by kernel_rfl) (by kernel_rfl) rfl (fun _ _ _ h=>h) (by rfl) ?_ (Below.drew (Below.refl w3.heap.size w3)) ?_
        rotate_left
        · (intro wS hSw;go_simp;try (with_reducible rfl))
        simp only [Act.put,sT,sZ,sS]
        refine held_skip (i:=12) (d:=some 32) (fuel:=3) (listed':=#[true,true,true,true,true,true,true,true,true,true,true,true,true,false,false,false]) rfl rfl (by kernel_rfl) (by kernel_rfl) (by kernel_rfl) rfl (fun _ _ _ h=>h) (by rfl) (Below.drew (Below.refl w3.heap.size w3)) ?_
        simp only [Act.put,sT,sZ,sS]
        refine held_skip (i:=13) (d:=some 33) (fuel:=2) (listed':=#[true,true,true,true,true,true,true,true,true,true,true,true,true,true,false,false]) rfl rfl (by kernel_rfl) (by kernel_rfl) (by kernel_rfl) rfl (fun _ _ _ h=>h) (by rfl) (Below.drew (Below.refl w3.heap.size w3)) ?_
        simp only [Act.put,sT,sZ,sS]
        refine held_skip (i:=14) (d:=some 34) (fuel:=1) (listed':=#[true,true,true,true,true,true,true,true,true,true,true,true,true,true,true,false]) rfl rfl (by kernel_rfl) (by kernel_rfl) (by kernel_rfl) rfl (fun _ _ _ h=>h) (by rfl) (Below.drew (Below.refl w3.heap.size w3)) ?_
        simp only [Act.put,sT,sZ,sS]
        refine held_take (i:=15) (d:=some 35) (fuel:=0) (listed':=#[true,true,true,true,true,true,true,true,true,true,true,true,true,true,true,true]) (v := ?_) rfl rfl (by kernel_rfl) (by kernel_rfl) (by kernel_rfl) rfl (fun _ _ _ h=>h) (by rfl) ?_ (Below.drew (Below.refl w3.heap.size w3)) ?_
        rotate_left
        · (intro wS hSw;go_simp;try (with_reducible rfl))
        simp only [Act.put,sT,sZ,sS]
        refine wpAnyH_done (by kernel_rfl) ?_ _
        go_wp2_with fail
        go_ret
        exact ⟨by rw [HT2.out] <;> rfl,HB3.out.drew⟩
      obtain ⟨f,hf⟩:∃ f,st.length - m=f:=⟨_,rfl⟩
      have hw1 : -9223372036854775808≤(st.length:Int) - (m:Int):=by omega
      have hw2:(st.length:Int) - (m:Int)≤9223372036854775807:=by omega
      have hfi:(st.length:Int) - (m:Int)=(f:Int):=by omega
      have hfn:¬ (f:Int)<0:=by omega
      have hf0:(0:Int)≤(f:Int):=by omega
      have hfl:(f:Int)≤(st.length:Int):=by omega
      have hfL:f≤st.length:=by omega
      have hB3:Below wr.heap.size wr (wr.alloc (.cells #[.int .i64 n.kind,.int .i64 n.num,.string n.text,.string n.ref.sh,.int .i64 n.ref.c,.int .i64 n.ref.r,.bool n.ref.ac,.bool n.ref.ar,.string n.to.sh,.int .i64 n.to.c,.int .i64 n.to.r,.bool n.to.ac,.bool n.to.ar,.slice Ak m ck] 140)):=(Below.refl _ _).alloc (Nat.le_refl _) _
      have HN3:NdAt (wr.alloc (.cells #[.int .i64 n.kind,.int .i64 n.num,.string n.text,.string n.ref.sh,.int .i64 n.ref.c,.int .i64 n.ref.r,.bool n.ref.ac,.bool n.ref.ar,.string n.to.sh,.int .i64 n.to.c,.int .i64 n.to.r,.bool n.to.ac,.bool n.to.ar,.slice Ak m ck] 140)) wr.heap.size n (.slice Ak m ck):=NdAt.new wr n _
      have HB3:=Lib.hid (HB.out.trans (hB3.mono HB.out.size))
      have HO3:=Lib.hid (HO.out.alloc (.cells #[.int .i64 n.kind,.int .i64 n.num,.string n.text,.string n.ref.sh,.int .i64 n.ref.c,.int .i64 n.ref.r,.bool n.ref.ac,.bool n.ref.ar,.string n.to.sh,.int .i64 n.to.c,.int .i64 n.to.r,.bool n.to.ac,.bool n.to.ar,.slice Ak m ck] 140))
      clear hB3
      go_upto_region 6 with (fail)
      generalize hb3:wr.heap.size=b3 at HN3 ⊢
      generalize wr.alloc (.cells #[.int .i64 n.kind,.int .i64 n.num,.string n.text,.string n.ref.sh,.int .i64 n.ref.c,.int .i64 n.ref.r,.bool n.ref.ac,.bool n.ref.ar,.string n.to.sh,.int .i64 n.to.c,.int .i64 n.to.r,.bool n.to.ac,.bool n.to.ar,.slice Ak m ck] 140)=w3 at HN3 HB3 HO3 ⊢
      clear hb3 k0 k1 k2 k3 k4 k5 k6 k7 k8 k9 k10 k11 k12 k13 HO
      have HN3:=Lib.hid HN3
      have hflc:(f:Int)≤(rcap:Int):=by omega
      obtain ⟨AT,hAT⟩:∃ AT,(if rcap=f then some (⟨rg,0,none⟩:Addr) else some ⟨rg,f,none⟩)=AT:=⟨_,rfl⟩
      have HS1:=Lib.hid (show ∀ W,Below w3.heap.size w3 W→SI W w3.heap.size (.slice AT (st.length - f) (rcap - f)) (st.drop f) from fun W hW=>by rw [← hAT];exact (SI.tail HO3.out f hfL hrc hrm (by have:=(HO3.out.blockLt rg rfl).2.1;exact this)).below hW (Nat.le_refl _))
      have HSK3:=Lib.hid (HSK.out.below HB3.out (Nat.le_refl _))
      by_cases hdk:st.drop f=n.kids
      rotate_left
      · have HT2:=Lib.hid (show treeB (vs.map (·.1))=false by rw [HT.out,HD.out,treeF_cons,HM.out,hf,decide_eq_false hdk,Bool.false_and,Bool.and_false,Bool.and_false])
        have HEQ:=Lib.hid (show ∀ W,Below w3.heap.size w3 W→Calls Tryz.prog 107 #[.slice AT (st.length - f) (rcap - f),.slice Ak m ck] W fun e w'=>e = .returned (.bool false)∧Below W.heap.size W w' from fun W hW=>by
         have:=equal_any W w3.heap.size _ _ _ _ (HS1.out W hW) ((HSK3.out.mono HB3.out.size).below hW (Nat.le_refl _))
         rw [decide_eq_false hdk] at this;exact this)
        clear hml hdk hf hfL
        refine wp_region_held_drew (S:=fun W=>Below w3.heap.size w3 W) (by kernel_rfl) (Below.drew (Below.refl w3.heap.size w3)) (fun _ => ?_)
        show wpAnyH _ _ _ _ _ 16 #[false,false,false,false,false,false,false,false,false,false,false,false,false,false,false,false] _ _
        refine held_take (i:=0) (d:=some 20) (fuel:=15) (listed':=#[true,false,false,false,false,false,false,false,false,false,false,false,false,false,false,false]) (v := ?_) rfl rfl (by kernel_rfl) (by kernel_rfl) (by kernel_rfl) rfl (fun _ _ _ h=>h) (by rfl) ?_ (Below.drew (Below.refl w3.heap.size w3)) ?_
        rotate_left
        · (intro wS hSw;go_simp;try (with_reducible rfl))
        simp only [Act.put,sT,sZ,sS]
        refine held_take (i:=1) (d:=some 21) (fuel:=14) (listed':=#[true,true,false,false,false,false,false,false,false,false,false,false,false,false,false,false]) (v := ?_) rfl rfl (by kernel_rfl) (by kernel_rfl) (by kernel_rfl) rfl (fun _ _ _ h=>h) (by rfl) ?_ (Below.drew (Below.refl w3.heap.size w3)) ?_
        rotate_left
        · (intro wS hSw;go_simp;try (with_reducible rfl))
        simp only [Act.put,sT,sZ,sS]
        refine held_take (i:=2) (d:=some 22) (fuel:=13) (listed':=#[true,true,true,false,false,false,false,false,false,false,false,false,false,false,false,false]) (v := ?_) rfl rfl (by kernel_rfl) (by kernel_rfl) (by kernel_rfl) rfl (fun _ _ _ h=>h) (by rfl) ?_ (Below.drew (Below.refl w3.heap.size w3)) ?_
        rotate_left
        · (intro wS hSw;go_simp;try (with_reducible rfl))
        simp only [Act.put,sT,sZ,sS]
        refine held_take (i:=3) (d:=some 23) (fuel:=12) (listed':=#[true,true,true,true,false,false,false,false,false,false,false,false,false,false,false,false]) (v := ?_) rfl rfl (by kernel_rfl) (by kernel_rfl) (by kernel_rfl) rfl (fun _ _ _ h=>h) (by rfl) ?_ (Below.drew (Below.refl w3.heap.size w3)) ?_
        rotate_left
        · (intro wS hSw;go_simp;try (with_reducible rfl))
        simp only [Act.put,sT,sZ,sS]
        refine held_take (i:=4) (d:=some 24) (fuel:=11) (listed':=#[true,true,true,true,true,false,false,false,false,false,false,false,false,false,false,false]) (v := ?_) rfl rfl (by kernel_rfl) (by kernel_rfl) (by kernel_rfl) rfl (fun _ _ _ h=>h) (by rfl) ?_ (Below.drew (Below.refl w3.heap.size w3)) ?_
        rotate_left
        · (intro wS hSw;go_simp;try (with_reducible rfl))
        simp only [Act.put,sT,sZ,sS]
        refine held_take (i:=5) (d:=some 25) (fuel:=10) (listed':=#[true,true,true,true,true,true,false,false,false,false,false,false,false,false,false,false]) (v := ?_) rfl rfl (by kernel_rfl) (by kernel_rfl) (by kernel_rfl) rfl (fun _ _ _ h=>h) (by rfl) ?_ (Below.drew (Below.refl w3.heap.size w3)) ?_
        rotate_left
        · (intro wS hSw;go_simp;try (with_reducible rfl))
        simp only [Act.put,sT,sZ,sS]
        refine held_take (i:=6) (d:=some 26) (fuel:=9) (listed':=#[true,true,true,true,true,true,true,false,false,false,false,false,false,false,false,false]) (v := ?_) rfl rfl (by kernel_rfl) (by kernel_rfl) (by kernel_rfl) rfl (fun _ _ _ h=>h) (by rfl) ?_ (Below.drew (Below.refl w3.heap.size w3)) ?_
        rotate_left
        · (intro wS hSw;go_simp;try (with_reducible rfl))
        simp only [Act.put,sT,sZ,sS]
        refine held_take (i:=7) (d:=some 27) (fuel:=8) (listed':=#[true,true,true,true,true,true,true,true,false,false,false,false,false,false,false,false]) (v := ?_) rfl rfl (by kernel_rfl) (by kernel_rfl) (by kernel_rfl) rfl (fun _ _ _ h=>h) (by rfl) ?_ (Below.drew (Below.refl w3.heap.size w3)) ?_
        rotate_left
        · (intro wS hSw;have hz:=(HN3.out.below hSw HN3.out.lt).cells;go_simp;try (with_reducible rfl))
        simp only [Act.put,sT,sZ,sS]
        refine held_one (i:=8) (d:=some 28) (fuel:=7) (listed':=#[true,true,true,true,true,true,true,true,true,false,false,false,false,false,false,false]) rfl rfl (by kernel_rfl) rfl (by rfl) (fun K hK => ?_)
        go_simp
        refine (HEQ.out _ (Below.drew (Below.refl w3.heap.size w3))).mono ?_
        rintro e w4 ⟨rfl,h1⟩
        have HE:=Lib.hid ((Below.drew (Below.refl w3.heap.size w3)).trans h1)
        clear h1
        go_wp2_with fail
        refine hK.out _ _ HE.out ?_
        clear hK K
        simp only [Act.put,sT,sZ,sS]
        refine held_take (i:=9) (d:=some 29) (fuel:=6) (listed':=#[true,true,true,true,true,true,true,true,true,true,false,false,false,false,false,false]) (v := ?_) rfl rfl (by kernel_rfl) (by kernel_rfl) (by kernel_rfl) rfl (fun _ _ _ h=>h) (by rfl) ?_ HE.out ?_
        rotate_left
        · (intro wS hSw;go_simp;try (with_reducible rfl))
        simp only [Act.put,sT,sZ,sS]
        refine held_take (i:=10) (d:=some 30) (fuel:=5) (listed':=#[true,true,true,true,true,true,true,true,true,true,true,false,false,false,false,false]) (v := ?_) rfl rfl (by kernel_rfl) (by kernel_rfl) (by kernel_rfl) rfl (fun _ _ _ h=>h) (by rfl) ?_ HE.out ?_
        rotate_left
        · (intro wS hSw;go_simp;try (with_reducible rfl))
        simp only [Act.put,sT,sZ,sS]
        refine held_take (i:=11) (d:=some 31) (fuel:=4) (listed':=#[true,true,true,true,true,true,true,true,true,true,true,true,false,false,false,false]) (v := ?_) rfl rfl (by kernel_rfl) (by kernel_rfl) (by kernel_rfl) rfl (fun _ _ _ h=>h) (by rfl) ?_ HE.out ?_
        rotate_left
        · (intro wS hSw;go_simp;try (with_reducible rfl))
        simp only [Act.put,sT,sZ,sS]
        refine held_skip (i:=12) (d:=some 32) (fuel:=3) (listed':=#[true,true,true,true,true,true,true,true,true,true,true,true,true,false,false,false]) rfl rfl (by kernel_rfl) (by kernel_rfl) (by kernel_rfl) rfl (fun _ _ _ h=>h) (by rfl) HE.out ?_
        simp only [Act.put,sT,sZ,sS]
        refine held_skip (i:=13) (d:=some 33) (fuel:=2) (listed':=#[true,true,true,true,true,true,true,true,true,true,true,true,true,true,false,false]) rfl rfl (by kernel_rfl) (by kernel_rfl) (by kernel_rfl) rfl (fun _ _ _ h=>h) (by rfl) HE.out ?_
        simp only [Act.put,sT,sZ,sS]
        refine held_skip (i:=14) (d:=some 34) (fuel:=1) (listed':=#[true,true,true,true,true,true,true,true,true,true,true,true,true,true,true,false]) rfl rfl (by kernel_rfl) (by kernel_rfl) (by kernel_rfl) rfl (fun _ _ _ h=>h) (by rfl) HE.out ?_
        simp only [Act.put,sT,sZ,sS]
        refine held_take (i:=15) (d:=some 35) (fuel:=0) (listed':=#[true,true,true,true,true,true,true,true,true,true,true,true,true,true,true,true]) (v := ?_) rfl rfl (by kernel_rfl) (by kernel_rfl) (by kernel_rfl) rfl (fun _ _ _ h=>h) (by rfl) ?_ HE.out ?_
        rotate_left
        · (intro wS hSw;go_simp;try (with_reducible rfl))
        simp only [Act.put,sT,sZ,sS]
        refine wpAnyH_done (by kernel_rfl) ?_ _
        go_wp2_with fail
        go_ret
        exact ⟨by rw [HT2.out] <;> rfl,HB3.out.trans (HE.out.mono HB3.out.size)⟩
      have HEQ:=Lib.hid (show ∀ W,Below w3.heap.size w3 W→Calls Tryz.prog 107 #[.slice AT (st.length - f) (rcap - f),.slice Ak m ck] W fun e w'=>e = .returned (.bool true)∧Below W.heap.size W w' from fun W hW=>by
       have:=equal_any W w3.heap.size _ _ _ _ (HS1.out W hW) ((HSK3.out.mono HB3.out.size).below hW (Nat.le_refl _))
       rw [decide_eq_true hdk] at this;exact this)
      have HDK:=Lib.hid hdk
      cases hnb:nodeB n
      · have HT2:=Lib.hid (show treeB (vs.map (·.1))=false by rw [HT.out,HD.out,treeF_cons,hnb,Bool.false_and])
        have HNO:=Lib.hid (show ∀ W,Below w3.heap.size w3 W→Calls Tryz.prog 108 #[.agg #[.int .i64 n.kind,.int .i64 n.num,.string n.text,.string n.ref.sh,.int .i64 n.ref.c,.int .i64 n.ref.r,.bool n.ref.ac,.bool n.ref.ar,.string n.to.sh,.int .i64 n.to.c,.int .i64 n.to.r,.bool n.to.ac,.bool n.to.ar,.slice Ak m ck]] W fun e w'=>e = .returned (.bool false)∧Below W.heap.size W w' from fun W hW=>by
         have:=isNode_any W n (HV.out.below (HB3.out.trans (hW.mono HB3.out.size))) HZ1.out HZ2.out HZ3.out Ak m ck HMM.out
         rw [← HM.out,isNd_eq,hnb] at this;rw [← HM.out];exact this)
        clear hml hdk hf hfL hnb
        refine wp_region_held_drew (S:=fun W=>Below w3.heap.size w3 W) (by kernel_rfl) (Below.drew (Below.refl w3.heap.size w3)) (fun _ => ?_)
        show wpAnyH _ _ _ _ _ 16 #[false,false,false,false,false,false,false,false,false,false,false,false,false,false,false,false] _ _
        refine held_take (i:=0) (d:=some 20) (fuel:=15) (listed':=#[true,false,false,false,false,false,false,false,false,false,false,false,false,false,false,false]) (v := ?_) rfl rfl (by kernel_rfl) (by kernel_rfl) (by kernel_rfl) rfl (fun _ _ _ h=>h) (by rfl) ?_ (Below.drew (Below.refl w3.heap.size w3)) ?_
        rotate_left
        · (intro wS hSw;go_simp;try (with_reducible rfl))
        simp only [Act.put,sT,sZ,sS]
        refine held_take (i:=1) (d:=some 21) (fuel:=14) (listed':=#[true,true,false,false,false,false,false,false,false,false,false,false,false,false,false,false]) (v := ?_) rfl rfl (by kernel_rfl) (by kernel_rfl) (by kernel_rfl) rfl (fun _ _ _ h=>h) (by rfl) ?_ (Below.drew (Below.refl w3.heap.size w3)) ?_
        rotate_left
        · (intro wS hSw;go_simp;try (with_reducible rfl))
        simp only [Act.put,sT,sZ,sS]
        refine held_take (i:=2) (d:=some 22) (fuel:=13) (listed':=#[true,true,true,false,false,false,false,false,false,false,false,false,false,false,false,false]) (v := ?_) rfl rfl (by kernel_rfl) (by kernel_rfl) (by kernel_rfl) rfl (fun _ _ _ h=>h) (by rfl) ?_ (Below.drew (Below.refl w3.heap.size w3)) ?_
        rotate_left
        · (intro wS hSw;go_simp;try (with_reducible rfl))
        simp only [Act.put,sT,sZ,sS]
        refine held_take (i:=3) (d:=some 23) (fuel:=12) (listed':=#[true,true,true,true,false,false,false,false,false,false,false,false,false,false,false,false]) (v := ?_) rfl rfl (by kernel_rfl) (by kernel_rfl) (by kernel_rfl) rfl (fun _ _ _ h=>h) (by rfl) ?_ (Below.drew (Below.refl w3.heap.size w3)) ?_
        rotate_left
        · (intro wS hSw;go_simp;try (with_reducible rfl))
        simp only [Act.put,sT,sZ,sS]
        refine held_take (i:=4) (d:=some 24) (fuel:=11) (listed':=#[true,true,true,true,true,false,false,false,false,false,false,false,false,false,false,false]) (v := ?_) rfl rfl (by kernel_rfl) (by kernel_rfl) (by kernel_rfl) rfl (fun _ _ _ h=>h) (by rfl) ?_ (Below.drew (Below.refl w3.heap.size w3)) ?_
        rotate_left
        · (intro wS hSw;go_simp;try (with_reducible rfl))
        simp only [Act.put,sT,sZ,sS]
        refine held_take (i:=5) (d:=some 25) (fuel:=10) (listed':=#[true,true,true,true,true,true,false,false,false,false,false,false,false,false,false,false]) (v := ?_) rfl rfl (by kernel_rfl) (by kernel_rfl) (by kernel_rfl) rfl (fun _ _ _ h=>h) (by rfl) ?_ (Below.drew (Below.refl w3.heap.size w3)) ?_
        rotate_left
        · (intro wS hSw;go_simp;try (with_reducible rfl))
        simp only [Act.put,sT,sZ,sS]
        refine held_take (i:=6) (d:=some 26) (fuel:=9) (listed':=#[true,true,true,true,true,true,true,false,false,false,false,false,false,false,false,false]) (v := ?_) rfl rfl (by kernel_rfl) (by kernel_rfl) (by kernel_rfl) rfl (fun _ _ _ h=>h) (by rfl) ?_ (Below.drew (Below.refl w3.heap.size w3)) ?_
        rotate_left
        · (intro wS hSw;go_simp;try (with_reducible rfl))
        simp only [Act.put,sT,sZ,sS]
        refine held_take (i:=7) (d:=some 27) (fuel:=8) (listed':=#[true,true,true,true,true,true,true,true,false,false,false,false,false,false,false,false]) (v := ?_) rfl rfl (by kernel_rfl) (by kernel_rfl) (by kernel_rfl) rfl (fun _ _ _ h=>h) (by rfl) ?_ (Below.drew (Below.refl w3.heap.size w3)) ?_
        rotate_left
        · (intro wS hSw;have hz:=(HN3.out.below hSw HN3.out.lt).cells;go_simp;try (with_reducible rfl))
        simp only [Act.put,sT,sZ,sS]
        refine held_one (i:=8) (d:=some 28) (fuel:=7) (listed':=#[true,true,true,true,true,true,true,true,true,false,false,false,false,false,false,false]) rfl rfl (by kernel_rfl) rfl (by rfl) (fun K hK => ?_)
        go_simp
        refine (HEQ.out _ (Below.drew (Below.refl w3.heap.size w3))).mono ?_
        rintro e w4 ⟨rfl,h1⟩
        have HE:=Lib.hid ((Below.drew (Below.refl w3.heap.size w3)).trans h1)
        clear h1
        go_wp2_with fail
        refine hK.out _ _ HE.out ?_
        clear hK K
        simp only [Act.put,sT,sZ,sS]
        refine held_take (i:=9) (d:=some 29) (fuel:=6) (listed':=#[true,true,true,true,true,true,true,true,true,true,false,false,false,false,false,false]) (v := ?_) rfl rfl (by kernel_rfl) (by kernel_rfl) (by kernel_rfl) rfl (fun _ _ _ h=>h) (by rfl) ?_ HE.out ?_
        rotate_left
        · (intro wS hSw;go_simp;try (with_reducible rfl))
        simp only [Act.put,sT,sZ,sS]
        refine held_take (i:=10) (d:=some 30) (fuel:=5) (listed':=#[true,true,true,true,true,true,true,true,true,true,true,false,false,false,false,false]) (v := ?_) rfl rfl (by kernel_rfl) (by kernel_rfl) (by kernel_rfl) rfl (fun _ _ _ h=>h) (by rfl) ?_ HE.out ?_
        rotate_left
        · (intro wS hSw;go_simp;try (with_reducible rfl))
        simp only [Act.put,sT,sZ,sS]
        refine held_take (i:=11) (d:=some 31) (fuel:=4) (listed':=#[true,true,true,true,true,true,true,true,true,true,true,true,false,false,false,false]) (v := ?_) rfl rfl (by kernel_rfl) (by kernel_rfl) (by kernel_rfl) rfl (fun _ _ _ h=>h) (by rfl) ?_ HE.out ?_
        rotate_left
        · (intro wS hSw;go_simp;try (with_reducible rfl))
        simp only [Act.put,sT,sZ,sS]
        refine held_take (i:=12) (d:=some 32) (fuel:=3) (listed':=#[true,true,true,true,true,true,true,true,true,true,true,true,true,false,false,false]) (v := ?_) rfl rfl (by kernel_rfl) (by kernel_rfl) (by kernel_rfl) rfl (fun _ _ _ h=>h) (by rfl) ?_ HE.out ?_
        rotate_left
        · (intro wS hSw;have hz:=(HN3.out.below hSw HN3.out.lt).cells;go_simp;try (with_reducible rfl))
        simp only [Act.put,sT,sZ,sS]
        refine held_one (i:=13) (d:=some 33) (fuel:=2) (listed':=#[true,true,true,true,true,true,true,true,true,true,true,true,true,true,false,false]) rfl rfl (by kernel_rfl) rfl (by rfl) (fun K hK => ?_)
        go_simp
        refine (HNO.out _ HE.out).mono ?_
        rintro e w5 ⟨rfl,h1⟩
        have HF:=Lib.hid (HE.out.trans (h1.mono HE.out.size))
        clear h1
        go_wp2_with fail
        refine hK.out _ _ HF.out ?_
        clear hK K
        simp only [Act.put,sT,sZ,sS]
        refine held_take (i:=14) (d:=some 34) (fuel:=1) (listed':=#[true,true,true,true,true,true,true,true,true,true,true,true,true,true,true,false]) (v := ?_) rfl rfl (by kernel_rfl) (by kernel_rfl) (by kernel_rfl) rfl (fun _ _ _ h=>h) (by rfl) ?_ HF.out ?_
        rotate_left
        · (intro wS hSw;go_simp;try (with_reducible rfl))
        simp only [Act.put,sT,sZ,sS]
        refine held_take (i:=15) (d:=some 35) (fuel:=0) (listed':=#[true,true,true,true,true,true,true,true,true,true,true,true,true,true,true,true]) (v := ?_) rfl rfl (by kernel_rfl) (by kernel_rfl) (by kernel_rfl) rfl (fun _ _ _ h=>h) (by rfl) ?_ HF.out ?_
        rotate_left
        · (intro wS hSw;go_simp;try (with_reducible rfl))
        simp only [Act.put,sT,sZ,sS]
        refine wpAnyH_done (by kernel_rfl) ?_ _
        go_wp2_with fail
        go_ret
        exact ⟨by rw [HT2.out] <;> rfl,HB3.out.trans (HF.out.mono HB3.out.size)⟩
      · have HT2:=Lib.hid (show treeB (vs.map (·.1))=treeF (st.take f++[(i:Int)]) (i+1) ((vs.map (·.1)).drop (i+1)) by rw [HT.out,HD.out,treeF_cons,hnb,HM.out,decide_eq_true hml,hf,decide_eq_true hdk,Bool.true_and,Bool.true_and,Bool.true_and])
        have HNO:=Lib.hid (show ∀ W,Below w3.heap.size w3 W→Calls Tryz.prog 108 #[.agg #[.int .i64 n.kind,.int .i64 n.num,.string n.text,.string n.ref.sh,.int .i64 n.ref.c,.int .i64 n.ref.r,.bool n.ref.ac,.bool n.ref.ar,.string n.to.sh,.int .i64 n.to.c,.int .i64 n.to.r,.bool n.to.ac,.bool n.to.ar,.slice Ak m ck]] W fun e w'=>e = .returned (.bool true)∧Below W.heap.size W w' from fun W hW=>by
         have:=isNode_any W n (HV.out.below (HB3.out.trans (hW.mono HB3.out.size))) HZ1.out HZ2.out HZ3.out Ak m ck HMM.out
         rw [← HM.out,isNd_eq,hnb] at this;rw [← HM.out];exact this)
        clear hml hdk hnb
        refine wp_region_held_drew (S:=fun W=>Below w3.heap.size w3 W) (by kernel_rfl) (Below.drew (Below.refl w3.heap.size w3)) (fun _ => ?_)
        show wpAnyH _ _ _ _ _ 16 #[false,false,false,false,false,false,false,false,false,false,false,false,false,false,false,false] _ _
        refine held_take (i:=0) (d:=some 20) (fuel:=15) (listed':=#[true,false,false,false,false,false,false,false,false,false,false,false,false,false,false,false]) (v := ?_) rfl rfl (by kernel_rfl) (by kernel_rfl) (by kernel_rfl) rfl (fun _ _ _ h=>h) (by rfl) ?_ (Below.drew (Below.refl w3.heap.size w3)) ?_
        rotate_left
        · (intro wS hSw;go_simp;try (with_reducible rfl))
        simp only [Act.put,sT,sZ,sS]
        refine held_take (i:=1) (d:=some 21) (fuel:=14) (listed':=#[true,true,false,false,false,false,false,false,false,false,false,false,false,false,false,false]) (v := ?_) rfl rfl (by kernel_rfl) (by kernel_rfl) (by kernel_rfl) rfl (fun _ _ _ h=>h) (by rfl) ?_ (Below.drew (Below.refl w3.heap.size w3)) ?_
        rotate_left
        · (intro wS hSw;go_simp;try (with_reducible rfl))
        simp only [Act.put,sT,sZ,sS]
        refine held_take (i:=2) (d:=some 22) (fuel:=13) (listed':=#[true,true,true,false,false,false,false,false,false,false,false,false,false,false,false,false]) (v := ?_) rfl rfl (by kernel_rfl) (by kernel_rfl) (by kernel_rfl) rfl (fun _ _ _ h=>h) (by rfl) ?_ (Below.drew (Below.refl w3.heap.size w3)) ?_
        rotate_left
        · (intro wS hSw;go_simp;try (with_reducible rfl))
        simp only [Act.put,sT,sZ,sS]
        refine held_take (i:=3) (d:=some 23) (fuel:=12) (listed':=#[true,true,true,true,false,false,false,false,false,false,false,false,false,false,false,false]) (v := ?_) rfl rfl (by kernel_rfl) (by kernel_rfl) (by kernel_rfl) rfl (fun _ _ _ h=>h) (by rfl) ?_ (Below.drew (Below.refl w3.heap.size w3)) ?_
        rotate_left
        · (intro wS hSw;go_simp;try (with_reducible rfl))
        simp only [Act.put,sT,sZ,sS]
        refine held_take (i:=4) (d:=some 24) (fuel:=11) (listed':=#[true,true,true,true,true,false,false,false,false,false,false,false,false,false,false,false]) (v := ?_) rfl rfl (by kernel_rfl) (by kernel_rfl) (by kernel_rfl) rfl (fun _ _ _ h=>h) (by rfl) ?_ (Below.drew (Below.refl w3.heap.size w3)) ?_
        rotate_left
        · (intro wS hSw;go_simp;try (with_reducible rfl))
        simp only [Act.put,sT,sZ,sS]
        refine held_take (i:=5) (d:=some 25) (fuel:=10) (listed':=#[true,true,true,true,true,true,false,false,false,false,false,false,false,false,false,false]) (v := ?_) rfl rfl (by kernel_rfl) (by kernel_rfl) (by kernel_rfl) rfl (fun _ _ _ h=>h) (by rfl) ?_ (Below.drew (Below.refl w3.heap.size w3)) ?_
        rotate_left
        · (intro wS hSw;go_simp;try (with_reducible rfl))
        simp only [Act.put,sT,sZ,sS]
        refine held_take (i:=6) (d:=some 26) (fuel:=9) (listed':=#[true,true,true,true,true,true,true,false,false,false,false,false,false,false,false,false]) (v := ?_) rfl rfl (by kernel_rfl) (by kernel_rfl) (by kernel_rfl) rfl (fun _ _ _ h=>h) (by rfl) ?_ (Below.drew (Below.refl w3.heap.size w3)) ?_
        rotate_left
        · (intro wS hSw;go_simp;try (with_reducible rfl))
        simp only [Act.put,sT,sZ,sS]
        refine held_take (i:=7) (d:=some 27) (fuel:=8) (listed':=#[true,true,true,true,true,true,true,true,false,false,false,false,false,false,false,false]) (v := ?_) rfl rfl (by kernel_rfl) (by kernel_rfl) (by kernel_rfl) rfl (fun _ _ _ h=>h) (by rfl) ?_ (Below.drew (Below.refl w3.heap.size w3)) ?_
        rotate_left
        · (intro wS hSw;have hz:=(HN3.out.below hSw HN3.out.lt).cells;go_simp;try (with_reducible rfl))
        simp only [Act.put,sT,sZ,sS]
        refine held_one (i:=8) (d:=some 28) (fuel:=7) (listed':=#[true,true,true,true,true,true,true,true,true,false,false,false,false,false,false,false]) rfl rfl (by kernel_rfl) rfl (by rfl) (fun K hK => ?_)
        go_simp
        refine (HEQ.out _ (Below.drew (Below.refl w3.heap.size w3))).mono ?_
        rintro e w4 ⟨rfl,h1⟩
        have HE:=Lib.hid ((Below.drew (Below.refl w3.heap.size w3)).trans h1)
        clear h1
        go_wp2_with fail
        refine hK.out _ _ HE.out ?_
        clear hK K
        simp only [Act.put,sT,sZ,sS]
        refine held_take (i:=9) (d:=some 29) (fuel:=6) (listed':=#[true,true,true,true,true,true,true,true,true,true,false,false,false,false,false,false]) (v := ?_) rfl rfl (by kernel_rfl) (by kernel_rfl) (by kernel_rfl) rfl (fun _ _ _ h=>h) (by rfl) ?_ HE.out ?_
        rotate_left
        · (intro wS hSw;go_simp;try (with_reducible rfl))
        simp only [Act.put,sT,sZ,sS]
        refine held_take (i:=10) (d:=some 30) (fuel:=5) (listed':=#[true,true,true,true,true,true,true,true,true,true,true,false,false,false,false,false]) (v := ?_) rfl rfl (by kernel_rfl) (by kernel_rfl) (by kernel_rfl) rfl (fun _ _ _ h=>h) (by rfl) ?_ HE.out ?_
        rotate_left
        · (intro wS hSw;go_simp;try (with_reducible rfl))
        simp only [Act.put,sT,sZ,sS]
        refine held_take (i:=11) (d:=some 31) (fuel:=4) (listed':=#[true,true,true,true,true,true,true,true,true,true,true,true,false,false,false,false]) (v := ?_) rfl rfl (by kernel_rfl) (by kernel_rfl) (by kernel_rfl) rfl (fun _ _ _ h=>h) (by rfl) ?_ HE.out ?_
        rotate_left
        · (intro wS hSw;go_simp;try (with_reducible rfl))
        simp only [Act.put,sT,sZ,sS]
        refine held_take (i:=12) (d:=some 32) (fuel:=3) (listed':=#[true,true,true,true,true,true,true,true,true,true,true,true,true,false,false,false]) (v := ?_) rfl rfl (by kernel_rfl) (by kernel_rfl) (by kernel_rfl) rfl (fun _ _ _ h=>h) (by rfl) ?_ HE.out ?_
        rotate_left
        · (intro wS hSw;have hz:=(HN3.out.below hSw HN3.out.lt).cells;go_simp;try (with_reducible rfl))
        simp only [Act.put,sT,sZ,sS]
        refine held_one (i:=13) (d:=some 33) (fuel:=2) (listed':=#[true,true,true,true,true,true,true,true,true,true,true,true,true,true,false,false]) rfl rfl (by kernel_rfl) rfl (by rfl) (fun K hK => ?_)
        go_simp
        refine (HNO.out _ HE.out).mono ?_
        rintro e w5 ⟨rfl,h1⟩
        have HF:=Lib.hid (HE.out.trans (h1.mono HE.out.size))
        clear h1
        go_wp2_with fail
        refine hK.out _ _ HF.out ?_
        clear hK K
        simp only [Act.put,sT,sZ,sS]
        refine held_take (i:=14) (d:=some 34) (fuel:=1) (listed':=#[true,true,true,true,true,true,true,true,true,true,true,true,true,true,true,false]) (v := ?_) rfl rfl (by kernel_rfl) (by kernel_rfl) (by kernel_rfl) rfl (fun _ _ _ h=>h) (by rfl) ?_ HF.out ?_
        rotate_left
        · (intro wS hSw;go_simp;try (with_reducible rfl))
        simp only [Act.put,sT,sZ,sS]
        refine held_take (i:=15) (d:=some 35) (fuel:=0) (listed':=#[true,true,true,true,true,true,true,true,true,true,true,true,true,true,true,true]) (v := ?_) rfl rfl (by kernel_rfl) (by kernel_rfl) (by kernel_rfl) rfl (fun _ _ _ h=>h) (by rfl) ?_ HF.out ?_
        rotate_left
        · (intro wS hSw;go_simp;try (with_reducible rfl))
        simp only [Act.put,sT,sZ,sS]
        refine wpAnyH_done (by kernel_rfl) ?_ _
        have HB5:=Lib.hid (HB3.out.trans (HF.out.mono HB3.out.size))
        have HO5:=Lib.hid (HO3.out.below HF.out (Nat.le_refl _))
        have hlt5:(st.take f).length≤1000:=by rw [List.length_take];omega
        go_wp2_with (at_builtin;refine wpList_app HEL.out (encInt .i64) rfl (.tmp 38) (.tmp 40) rfl w.heap.size (.slice (some ⟨rg,0,none⟩) f rcap) (st.take f) rfl ((own_take HO5.out f hfL).alloc _) ⟨w5.heap.size,0,none⟩ 1 1 [(i:Int)] rfl rfl ?_ ?_ ?_ ?_ ?_;exact cells_new _ _ _ rfl;exact Nat.le_trans (Nat.mul_le_mul_left _ hEB) (by omega);(unfold maxLen;omega);(have:=HB5.out.size;simp <;> omega);intro kv' w6 h1 h2;have HO6:=Lib.hid h1;have HB6:=Lib.hid (((HB5.out.alloc HB5.out.size _)).trans h2);clear h1 h2)
        go_roundw
        case rel=>exact ⟨i+1,st.take f++[(i:Int)],kv',by omega,by rw [List.length_append,List.length_take,List.length_singleton];omega,rfl,by go_num,HT2,HO6,HB6⟩
        case measure=>simp [intOf];omega
  · have hii:¬ (i:Int)<(nl:Int):=by omega
    have hin:i=nl:=by omega
    have HT2:=Lib.hid (show treeB (vs.map (·.1))=decide (st.length=1) by
     rw [HT.out,List.drop_of_length_le (by rw [List.length_map,HNL.out];omega)];rfl)
    rcases HO.out.shape with ⟨rfl,hst⟩ | ⟨rg,rcap,rfl, -⟩
    · rw [hst] at HT2
      go_wp2_with fail
      go_ret
      exact ⟨by rw [HT2.out] <;> rfl,HB.out⟩
    · by_cases h1:st.length=1
      · have h1i:((st.length:Int) == 1)=true:=by rw [beq_iff_eq];omega
        rw [decide_eq_true h1] at HT2
        clear h1
        go_wp2_with fail
        go_ret
        exact ⟨by rw [HT2.out] <;> rfl,HB.out⟩
      · have h1i:((st.length:Int) == 1)=false:=by rw [beq_eq_false_iff_ne];omega
        rw [decide_eq_false h1] at HT2
        clear h1
        go_wp2_with fail
        go_ret
        exact ⟨by rw [HT2.out] <;> rfl,HB.out⟩
theorem ne_empty (s:ByteArray) (h:¬ s=⟨#[]⟩):s.toList.isEmpty=false:=by
 cases hq:s.toList with
 | nil=>exact absurd hq (text_ne0 s (fun e=>h (sb_nil s e)))
 | cons a l=>rfl
set_option maxRecDepth 100000 in
set_option maxHeartbeats 4000000 in
theorem write_text (w:World) (b:Nat) (nv:Value) (st:List Pt) (txt:List Int) (p:Pt) (h:WQ w b nv st txt) (hp:¬ p.t=⟨#[]⟩) (hz:txt.length+p.t.size≤1000000000) :
 Calls Tryz.prog 79 #[.pointer (some ⟨b,0,none⟩),.agg #[.string p.t,.int .i64 p.node,.int .i64 p.least]] w fun e w'=>e = .returned (.tuple #[])∧WQ w' b nv st (txt++sb p.t)∧Fq w w' b:=by
 have hB:Below w.heap.size w (w.alloc (.cells #[.string p.t,.int .i64 p.node,.int .i64 p.least] 123)):=(Below.refl _ _).alloc (Nat.le_refl _) _
 have HP:PtAt (w.alloc (.cells #[.string p.t,.int .i64 p.node,.int .i64 p.least] 123)) w.heap.size p:=PtAt.new w p
 have hbw:b<w.heap.size:=by obtain ⟨wv,h1, -⟩:=h;exact h1.lt
 have hne:=ne_empty p.t hp
 have HB:=Lib.hid hB
 have HQ:=Lib.hid (h.below hB)
 clear h hp hB
 go_enter Tryz.func79,Tryz.ntmps79
 go_upto_region 1 with (fail)
 obtain ⟨z,hzz⟩:∃ z,w.heap.size=z:=⟨_,rfl⟩
 obtain ⟨w1,hw1⟩:∃ w1,w.alloc (.cells #[.string p.t,.int .i64 p.node,.int .i64 p.least] 123)=w1:=⟨_,rfl⟩
 rw [hw1] at HP HB HQ ⊢
 rw [hzz] at HP ⊢
 have hzl:z<w1.heap.size:=(Array.getElem?_eq_some_iff.1 HP).1
 have hzb:z≠b:=by omega
 obtain ⟨x0,x1,x2⟩:=HP.cells
 have HP1:=Lib.hid HP
 clear hzz hw1 HP
 go_upto_region 2 with (fail)
 obtain ⟨wv,hws,hown⟩:=HQ.out
 have HW:=Lib.hid (write_any w1.drew b nv wv txt p.t (hws.below ((Below.refl w1.heap.size w1).drew)) (by omega))
 have HO:=Lib.hid hown
 have H1:=Lib.hid ((Below.refl w1.heap.size w1).drew)
 clear hws hown
 go_region_held3 (fun w'=>w'.cell? ⟨z,0,none⟩=some (.string p.t)) (first | go_keep | exact S0) (first
  | (go_at_call 110;((with_reducible refine HW.out.mono ?_);rintro e w2 ⟨⟨x,rfl⟩,h3,h4⟩;have HWS2:=Lib.hid h3;have HF2:=Lib.hid h4;have S0:=(World.cell?_of_block (a:=⟨z,0,none⟩) (HF2.out.block z hzl hzb (.inr fun cur fr e=>by
      have h6:w1.heap[z]? = some (.cells (ptA p) 123):=HP1.out
      have h7:w1.drew.heap[z]? = w1.heap[z]? := rfl
      rw [h7,h6] at e;injection e with e;injection e with _ e2;exact absurd e2 (by decide)))).trans x0)))
 all_goals go_wp2_with fail
 all_goals refine bodyPost_ret (results_none rfl _ _ _) rfl ?_
 all_goals exact ⟨rfl,WQ.wrote (HO.out.below H1.out (Nat.le_refl _)) HWS2.out HF2.out,(Fq.ofBelow HB.out).trans ((Fq.ofBelow H1.out).trans (Fq.ofB HF2.out))⟩
theorem meth_enters (k:Int):∀ args (v:World),(callFunc (methS k) args).run Tryz.prog v = .ok (.enter (methS k) args) v:=by
 unfold methS
 split
 · exact Go.Proofs.enters_of Tryz.func145 (by kernel_rfl) rfl
 split
 · exact Go.Proofs.enters_of Tryz.func146 (by kernel_rfl) rfl
 split
 · exact Go.Proofs.enters_of Tryz.func147 (by kernel_rfl) rfl
 split
 · exact Go.Proofs.enters_of Tryz.func148 (by kernel_rfl) rfl
 split
 · exact Go.Proofs.enters_of Tryz.func149 (by kernel_rfl) rfl
 split
 · exact Go.Proofs.enters_of Tryz.func150 (by kernel_rfl) rfl
 split
 · exact Go.Proofs.enters_of Tryz.func151 (by kernel_rfl) rfl
 split
 · exact Go.Proofs.enters_of Tryz.func152 (by kernel_rfl) rfl
 exact Go.Proofs.enters_of Tryz.func153 (by kernel_rfl) rfl
set_option maxRecDepth 100000 in
set_option maxHeartbeats 8000000 in
theorem write_bare (w0 w:World) (b:Nat) (nv:Value) (vs:List (Nd × Value)) (st:List Pt) (txt:List Int) (i:Nat) (least:Int) (n:Nd) (k:Value) (hg:Gl w0 w b) (h:WQ w b nv st txt) (hsn:SN w b nv vs) (hz:SZ vs) (hnk:vs[i]? = some (n,k)) (hnb:nodeB n=true) (hnum:n.num≤9223372036854775807) (hr:¬ (rankL n.kind:Int)+1<least) (hl:txt.length+1≤1000000000) (hls:st.length+2*n.kids.length+2≤2000000000) :
 Calls Tryz.prog 79 #[.pointer (some ⟨b,0,none⟩),.agg #[.string ⟨#[]⟩,.int .i64 (i:Int),.int .i64 least]] w fun e w'=>e = .returned (.tuple #[])∧WQ w' b nv (st++(stepN n).2.reverse) (txt++(stepN n).1)∧Fq w w' b:=by
 obtain ⟨⟨A,cap,rfl,hat⟩,hkid⟩:=hsn
 obtain ⟨hlen,hsz⟩:=hz
 have hil:i<vs.length:=(List.getElem?_eq_some_iff.1 hnk).1
 have hmem:=List.mem_of_getElem? hnk
 obtain ⟨hz1,hz2,hz3⟩:=hsz _ hmem
 have hski:SI w b k n.kids:=hkid _ hmem
 obtain ⟨Ak,ck,hk,hkc,hkm,_⟩:=id hski
 obtain ⟨nl,hnl⟩:∃ nl,vs.length=nl:=⟨_,rfl⟩
 obtain ⟨m,hm⟩:∃ m,n.kids.length=m:=⟨_,rfl⟩
 rw [hm] at hk
 subst hk
 rw [hnl] at hlen hil h ⊢
 have hi0:(0:Int)≤(i:Int):=by omega
 have hi1:(i:Int)<(nl:Int):=by omega
 obtain ⟨pb,po,rfl,hpbb,hcells⟩:=hat.resolve_left (fun e=>by rw [e] at hnk;cases hnk)
 have hcell:=hcells i n _ hnk
 have hbw:b<w.heap.size:=by obtain ⟨wv,h1, -⟩:=h;exact h1.lt
 have hB:Below w.heap.size w (w.alloc (.cells #[.string ⟨#[]⟩,.int .i64 (i:Int),.int .i64 least] 123)):=(Below.refl _ _).alloc (Nat.le_refl _) _
 have HP:PtAt (w.alloc (.cells #[.string ⟨#[]⟩,.int .i64 (i:Int),.int .i64 least] 123)) w.heap.size ⟨⟨#[]⟩,(i:Int),least⟩:=PtAt.new w ⟨⟨#[]⟩,(i:Int),least⟩
 have HB:=Lib.hid hB
 have HQ:=Lib.hid (h.below hB)
 have HG:=Lib.hid (hg.fq (Fq.ofBelow hB))
 have HSI:=Lib.hid (hski.below hB (Nat.le_of_lt hbw))
 have hpb:pb<w.heap.size:=by omega
 obtain ⟨rk,hrk⟩:∃ rk:Nat,rankL n.kind=rk:=⟨_,rfl⟩
 have hrank:=rankOf_any n.kind
 rw [hrk] at hrank hr
 have HRK:=Lib.hid hrank
 have hmeth:=methodS_any n.kind
 have hen:=meth_enters n.kind
 obtain ⟨mf,hmf⟩:∃ mf,methS n.kind=mf:=⟨_,rfl⟩
 rw [hmf] at hmeth hen
 have HME:=Lib.hid hmeth
 have HNB:=Lib.hid hnb
 have HZ1:=Lib.hid hz1;have HZ2:=Lib.hid hz2;have HZ3:=Lib.hid hz3
 have HMF:=Lib.hid hmf;have HM:=Lib.hid hm
 clear h hg hB hski hkc hkm hat hkid hsz hcells hmem hnl hnk hlen hrank hmeth hrk hmf hnb hz1 hz2 hz3 hm
 go_enter Tryz.func79,Tryz.ntmps79
 go_upto_region 1 with (fail)
 obtain ⟨z,hzz⟩:∃ z,w.heap.size=z:=⟨_,rfl⟩
 obtain ⟨w1,hw1⟩:∃ w1,w.alloc (.cells #[.string ⟨#[]⟩,.int .i64 (i:Int),.int .i64 least] 123)=w1:=⟨_,rfl⟩
 rw [hw1] at HP HB HQ HG HSI ⊢
 rw [hzz] at HP ⊢
 have k0:w1.cell? ⟨pb,po+i*14,none⟩=some (.int .i64 n.kind):=(HB.out.cell (p:=⟨pb,po+i*14,none⟩) hpb).trans (hcell 0 (by omega))
 have k1:w1.cell? ⟨pb,po+i*14+1,none⟩=some (.int .i64 n.num):=(HB.out.cell (p:=⟨pb,po+i*14+1,none⟩) hpb).trans (hcell 1 (by omega))
 have k2:w1.cell? ⟨pb,po+i*14+2,none⟩=some (.string n.text):=(HB.out.cell (p:=⟨pb,po+i*14+2,none⟩) hpb).trans (hcell 2 (by omega))
 have k3:w1.cell? ⟨pb,po+i*14+3,none⟩=some (.string n.ref.sh):=(HB.out.cell (p:=⟨pb,po+i*14+3,none⟩) hpb).trans (hcell 3 (by omega))
 have k4:w1.cell? ⟨pb,po+i*14+4,none⟩=some (.int .i64 n.ref.c):=(HB.out.cell (p:=⟨pb,po+i*14+4,none⟩) hpb).trans (hcell 4 (by omega))
 have k5:w1.cell? ⟨pb,po+i*14+5,none⟩=some (.int .i64 n.ref.r):=(HB.out.cell (p:=⟨pb,po+i*14+5,none⟩) hpb).trans (hcell 5 (by omega))
 have k6:w1.cell? ⟨pb,po+i*14+6,none⟩=some (.bool n.ref.ac):=(HB.out.cell (p:=⟨pb,po+i*14+6,none⟩) hpb).trans (hcell 6 (by omega))
 have k7:w1.cell? ⟨pb,po+i*14+7,none⟩=some (.bool n.ref.ar):=(HB.out.cell (p:=⟨pb,po+i*14+7,none⟩) hpb).trans (hcell 7 (by omega))
 have k8:w1.cell? ⟨pb,po+i*14+8,none⟩=some (.string n.to.sh):=(HB.out.cell (p:=⟨pb,po+i*14+8,none⟩) hpb).trans (hcell 8 (by omega))
 have k9:w1.cell? ⟨pb,po+i*14+9,none⟩=some (.int .i64 n.to.c):=(HB.out.cell (p:=⟨pb,po+i*14+9,none⟩) hpb).trans (hcell 9 (by omega))
 have k10:w1.cell? ⟨pb,po+i*14+10,none⟩=some (.int .i64 n.to.r):=(HB.out.cell (p:=⟨pb,po+i*14+10,none⟩) hpb).trans (hcell 10 (by omega))
 have k11:w1.cell? ⟨pb,po+i*14+11,none⟩=some (.bool n.to.ac):=(HB.out.cell (p:=⟨pb,po+i*14+11,none⟩) hpb).trans (hcell 11 (by omega))
 have k12:w1.cell? ⟨pb,po+i*14+12,none⟩=some (.bool n.to.ar):=(HB.out.cell (p:=⟨pb,po+i*14+12,none⟩) hpb).trans (hcell 12 (by omega))
 have k13:w1.cell? ⟨pb,po+i*14+13,none⟩=some (.slice Ak m ck):=(HB.out.cell (p:=⟨pb,po+i*14+13,none⟩) hpb).trans (hcell 13 (by omega))
 have hzl:z<w1.heap.size:=(Array.getElem?_eq_some_iff.1 HP).1
 have hzb:z≠b:=by omega
 have hbw1:b<w1.heap.size:=by omega
 have hpb1:pb<w1.heap.size:=by omega
 obtain ⟨x0,x1,x2⟩:=HP.cells
 have xb:w1.cell? ⟨b,0,none⟩=some (.slice (some ⟨pb,po,none⟩) nl cap):=by obtain ⟨wv,⟨ad,bv,h1, -⟩, -⟩:=HQ.out;exact h1.facts.1
 have HP1:=Lib.hid HP
 dsimp only at x0 x1 x2
 clear hzz hw1 HP hcell
 go_upto_region 2 with (fail)
 go_upto_region 3 with (fail)
 go_region_held3 (fun w'=>w'.cell? ⟨b,0,none⟩=some (.slice (some ⟨pb,po,none⟩) nl cap)∧w'.cell? ⟨z,1,none⟩=some (.int .i64 (i:Int))∧w'.cell? ⟨pb,po+i*14,none⟩=some (.int .i64 n.kind)∧w'.cell? ⟨pb,po+i*14+1,none⟩=some (.int .i64 n.num)∧w'.cell? ⟨pb,po+i*14+2,none⟩=some (.string n.text)∧w'.cell? ⟨pb,po+i*14+3,none⟩=some (.string n.ref.sh)∧w'.cell? ⟨pb,po+i*14+4,none⟩=some (.int .i64 n.ref.c)∧w'.cell? ⟨pb,po+i*14+5,none⟩=some (.int .i64 n.ref.r)∧w'.cell? ⟨pb,po+i*14+6,none⟩=some (.bool n.ref.ac)∧w'.cell? ⟨pb,po+i*14+7,none⟩=some (.bool n.ref.ar)∧w'.cell? ⟨pb,po+i*14+8,none⟩=some (.string n.to.sh)∧w'.cell? ⟨pb,po+i*14+9,none⟩=some (.int .i64 n.to.c)∧w'.cell? ⟨pb,po+i*14+10,none⟩=some (.int .i64 n.to.r)∧w'.cell? ⟨pb,po+i*14+11,none⟩=some (.bool n.to.ac)∧w'.cell? ⟨pb,po+i*14+12,none⟩=some (.bool n.to.ar)∧w'.cell? ⟨pb,po+i*14+13,none⟩=some (.slice Ak m ck)) (go_keep) (fail)
 have HN:=NdAt.drew (NdAt.new w1 n (.slice Ak m ck))
 have HB2:=(((Below.refl w1.heap.size w1).alloc (Nat.le_refl _) (.cells #[.int .i64 n.kind,.int .i64 n.num,.string n.text,.string n.ref.sh,.int .i64 n.ref.c,.int .i64 n.ref.r,.bool n.ref.ac,.bool n.ref.ar,.string n.to.sh,.int .i64 n.to.c,.int .i64 n.to.r,.bool n.to.ac,.bool n.to.ar,(.slice Ak m ck)] 140))).drew
 obtain ⟨z2,hz2⟩:∃ z2,w1.heap.size=z2:=⟨_,rfl⟩
 obtain ⟨w2,hw2⟩:∃ w2,((w1.alloc (.cells #[.int .i64 n.kind,.int .i64 n.num,.string n.text,.string n.ref.sh,.int .i64 n.ref.c,.int .i64 n.ref.r,.bool n.ref.ac,.bool n.ref.ar,.string n.to.sh,.int .i64 n.to.c,.int .i64 n.to.r,.bool n.to.ac,.bool n.to.ar,(.slice Ak m ck)] 140)).drew)=w2:=⟨_,rfl⟩
 rw [show (w1.alloc (.cells (nodA n (.slice Ak m ck)) 140)).drew=w2 from hw2] at HN
 rw [hw2] at HB2
 rw [hw2,hz2]
 rw [hz2] at HN
 have hzl2:z2<w2.heap.size:=HN.lt
 have hzb2:z2≠b:=by omega
 have hbw2:b<w2.heap.size:=by omega
 have y2:=(HB2.cell (p:=⟨z,2,none⟩) hzl).trans x2
 obtain ⟨y0, -⟩:=HN.cells
 have HQ2:=Lib.hid (HQ.out.below HB2)
 have HG2:=Lib.hid (HG.out.fq (Fq.ofBelow HB2))
 have HSI2:=Lib.hid (HSI.out.below HB2 (Nat.le_of_lt hbw1))
 have HB2':=Lib.hid HB2
 have HN2:=Lib.hid HN
 clear hw2 hz2 HN HB2 x0 x1 x2 xb k0 k1 k2 k3 k4 k5 k6 k7 k8 k9 k10 k11 k12 k13
 go_upto_region 4 with (fail)
 go_region_held3 (fun w'=>w'.cell? ⟨z2,0,none⟩=some (.int .i64 n.kind)∧w'.cell? ⟨z,2,none⟩=some (.int .i64 least)) (go_keep) (first
  | (go_at_call 111;((with_reducible refine (HRK.out _).mono ?_);rintro e w3 ⟨rfl,rfl⟩)))
 have HD2:=Lib.hid ((Below.refl w2.heap.size w2).drew)
 have HG3:=Lib.hid (HG2.out.fq (Fq.ofBelow HD2.out));have HQ3:=Lib.hid (HQ2.out.below HD2.out);have HSI3:=Lib.hid (HSI2.out.below HD2.out (Nat.le_of_lt hbw2));have HN3:=Lib.hid (NdAt.drew HN2.out)
 have hbw3:=hbw2;have hzl3:z2<w2.drew.heap.size:=hzl2
 go_upto_region 7 with (fail)
 have HCALL:=Lib.hid (fun (wr:World) (hr:Below w2.drew.heap.size w2.drew wr)=>node_any w0 wr b (.slice (some ⟨pb,po,none⟩) nl cap) (st) (txt) n Ak m ck ((HG3.out).fq (Fq.ofBelow hr)) (HQ3.out.below hr) HNB.out hnum HZ1.out HZ2.out HZ3.out (HSI3.out.below hr (Nat.le_of_lt hbw3)) (by omega) (by have:=HM.out;omega))
 rw [HMF.out] at HCALL
 have H3:=Lib.hid ((Below.refl w2.drew.heap.size w2.drew).drew)
 obtain ⟨k0,k1,k2,k3,k4,k5,k6,k7,k8,k9,k10,k11,k12,k13⟩:=HN3.out.cells
 go_region_held3 (fun w'=>w'.cell? ⟨z2,0,none⟩=some (.int .i64 n.kind)∧w'.cell? ⟨z2,1,none⟩=some (.int .i64 n.num)∧w'.cell? ⟨z2,2,none⟩=some (.string n.text)∧w'.cell? ⟨z2,3,none⟩=some (.string n.ref.sh)∧w'.cell? ⟨z2,4,none⟩=some (.int .i64 n.ref.c)∧w'.cell? ⟨z2,5,none⟩=some (.int .i64 n.ref.r)∧w'.cell? ⟨z2,6,none⟩=some (.bool n.ref.ac)∧w'.cell? ⟨z2,7,none⟩=some (.bool n.ref.ar)∧w'.cell? ⟨z2,8,none⟩=some (.string n.to.sh)∧w'.cell? ⟨z2,9,none⟩=some (.int .i64 n.to.c)∧w'.cell? ⟨z2,10,none⟩=some (.int .i64 n.to.r)∧w'.cell? ⟨z2,11,none⟩=some (.bool n.to.ac)∧w'.cell? ⟨z2,12,none⟩=some (.bool n.to.ar)∧w'.cell? ⟨z2,13,none⟩=some (.slice Ak m ck)) (first | go_keep | exact S7a) (first
  | (go_at_call 113;((with_reducible refine (HME.out _).mono ?_);rintro e w4 ⟨rfl,rfl⟩))
  | ((with_reducible refine (HCALL.out _ H3.out).mono ?_);rintro e w5 ⟨rfl,h3,h4⟩;have HQ5:=Lib.hid h3;have HF5:=Lib.hid h4;have S7a:=NdAt.cells (show NdAt w5 z2 n (.slice Ak m ck) from by
       unfold NdAt
       have e1:w2.drew.drew.heap[z2]? = some (.cells (nodA n (.slice Ak m ck)) 140):=HN3.out
       rw [HF5.out.block z2 hzl3 hzb2 (.inr fun cur fr=>⟨fun e=>by (rw [e1] at e;injection e with e;injection e with _ e2;exact absurd e2 (by decide)),fun e=>by (rw [e1] at e;injection e with e;injection e with _ e2;exact absurd e2 (by decide))⟩)]
       exact e1);clear h3 h4))
 all_goals go_wp2_with fail
 all_goals go_end0
 all_goals exact ⟨rfl,HQ5.out,(Fq.ofBelow HB.out).trans ((Fq.ofBelow HB2'.out).trans ((Fq.ofBelow (Below.refl _ _).drew).trans ((Fq.ofBelow H3.out).trans HF5.out)))⟩
set_option maxRecDepth 100000 in
set_option maxHeartbeats 8000000 in
theorem write_kept (w0 w:World) (b:Nat) (nv:Value) (vs:List (Nd × Value)) (st:List Pt) (txt:List Int) (i:Nat) (least:Int) (n:Nd) (k:Value) (hg:Gl w0 w b) (h:WQ w b nv st txt) (hsn:SN w b nv vs) (hz:SZ vs) (hnk:vs[i]? = some (n,k)) (hnb:nodeB n=true) (hnum:n.num≤9223372036854775807) (hr:(rankL n.kind:Int)+1<least) (hl:txt.length+1≤1000000000) (hls:st.length+2*n.kids.length+2≤2000000000) :
 Calls Tryz.prog 79 #[.pointer (some ⟨b,0,none⟩),.agg #[.string ⟨#[]⟩,.int .i64 (i:Int),.int .i64 least]] w fun e w'=>e = .returned (.tuple #[])∧WQ w' b nv (st++[Pt.plain ⟨#[41]⟩]++(stepN n).2.reverse) (txt++([40]++(stepN n).1))∧Fq w w' b:=by
 obtain ⟨⟨A,cap,rfl,hat⟩,hkid⟩:=hsn
 obtain ⟨hlen,hsz⟩:=hz
 have hil:i<vs.length:=(List.getElem?_eq_some_iff.1 hnk).1
 have hmem:=List.mem_of_getElem? hnk
 obtain ⟨hz1,hz2,hz3⟩:=hsz _ hmem
 have hski:SI w b k n.kids:=hkid _ hmem
 obtain ⟨Ak,ck,hk,hkc,hkm,_⟩:=id hski
 obtain ⟨nl,hnl⟩:∃ nl,vs.length=nl:=⟨_,rfl⟩
 obtain ⟨m,hm⟩:∃ m,n.kids.length=m:=⟨_,rfl⟩
 rw [hm] at hk
 subst hk
 rw [hnl] at hlen hil h ⊢
 have hi0:(0:Int)≤(i:Int):=by omega
 have hi1:(i:Int)<(nl:Int):=by omega
 obtain ⟨pb,po,rfl,hpbb,hcells⟩:=hat.resolve_left (fun e=>by rw [e] at hnk;cases hnk)
 have hcell:=hcells i n _ hnk
 have hbw:b<w.heap.size:=by obtain ⟨wv,h1, -⟩:=h;exact h1.lt
 have hB:Below w.heap.size w (w.alloc (.cells #[.string ⟨#[]⟩,.int .i64 (i:Int),.int .i64 least] 123)):=(Below.refl _ _).alloc (Nat.le_refl _) _
 have HP:PtAt (w.alloc (.cells #[.string ⟨#[]⟩,.int .i64 (i:Int),.int .i64 least] 123)) w.heap.size ⟨⟨#[]⟩,(i:Int),least⟩:=PtAt.new w ⟨⟨#[]⟩,(i:Int),least⟩
 have HB:=Lib.hid hB
 have HQ:=Lib.hid (h.below hB)
 have HG:=Lib.hid (hg.fq (Fq.ofBelow hB))
 have HSI:=Lib.hid (hski.below hB (Nat.le_of_lt hbw))
 have hpb:pb<w.heap.size:=by omega
 obtain ⟨rk,hrk⟩:∃ rk:Nat,rankL n.kind=rk:=⟨_,rfl⟩
 have hrank:=rankOf_any n.kind
 rw [hrk] at hrank hr
 have HRK:=Lib.hid hrank
 have hmeth:=methodS_any n.kind
 have hen:=meth_enters n.kind
 obtain ⟨mf,hmf⟩:∃ mf,methS n.kind=mf:=⟨_,rfl⟩
 rw [hmf] at hmeth hen
 have HME:=Lib.hid hmeth
 have HNB:=Lib.hid hnb
 have HZ1:=Lib.hid hz1;have HZ2:=Lib.hid hz2;have HZ3:=Lib.hid hz3
 have HMF:=Lib.hid hmf;have HM:=Lib.hid hm
 clear h hg hB hski hkc hkm hat hkid hsz hcells hmem hnl hnk hlen hrank hmeth hrk hmf hnb hz1 hz2 hz3 hm
 go_enter Tryz.func79,Tryz.ntmps79
 go_upto_region 1 with (fail)
 obtain ⟨z,hzz⟩:∃ z,w.heap.size=z:=⟨_,rfl⟩
 obtain ⟨w1,hw1⟩:∃ w1,w.alloc (.cells #[.string ⟨#[]⟩,.int .i64 (i:Int),.int .i64 least] 123)=w1:=⟨_,rfl⟩
 rw [hw1] at HP HB HQ HG HSI ⊢
 rw [hzz] at HP ⊢
 have k0:w1.cell? ⟨pb,po+i*14,none⟩=some (.int .i64 n.kind):=(HB.out.cell (p:=⟨pb,po+i*14,none⟩) hpb).trans (hcell 0 (by omega))
 have k1:w1.cell? ⟨pb,po+i*14+1,none⟩=some (.int .i64 n.num):=(HB.out.cell (p:=⟨pb,po+i*14+1,none⟩) hpb).trans (hcell 1 (by omega))
 have k2:w1.cell? ⟨pb,po+i*14+2,none⟩=some (.string n.text):=(HB.out.cell (p:=⟨pb,po+i*14+2,none⟩) hpb).trans (hcell 2 (by omega))
 have k3:w1.cell? ⟨pb,po+i*14+3,none⟩=some (.string n.ref.sh):=(HB.out.cell (p:=⟨pb,po+i*14+3,none⟩) hpb).trans (hcell 3 (by omega))
 have k4:w1.cell? ⟨pb,po+i*14+4,none⟩=some (.int .i64 n.ref.c):=(HB.out.cell (p:=⟨pb,po+i*14+4,none⟩) hpb).trans (hcell 4 (by omega))
 have k5:w1.cell? ⟨pb,po+i*14+5,none⟩=some (.int .i64 n.ref.r):=(HB.out.cell (p:=⟨pb,po+i*14+5,none⟩) hpb).trans (hcell 5 (by omega))
 have k6:w1.cell? ⟨pb,po+i*14+6,none⟩=some (.bool n.ref.ac):=(HB.out.cell (p:=⟨pb,po+i*14+6,none⟩) hpb).trans (hcell 6 (by omega))
 have k7:w1.cell? ⟨pb,po+i*14+7,none⟩=some (.bool n.ref.ar):=(HB.out.cell (p:=⟨pb,po+i*14+7,none⟩) hpb).trans (hcell 7 (by omega))
 have k8:w1.cell? ⟨pb,po+i*14+8,none⟩=some (.string n.to.sh):=(HB.out.cell (p:=⟨pb,po+i*14+8,none⟩) hpb).trans (hcell 8 (by omega))
 have k9:w1.cell? ⟨pb,po+i*14+9,none⟩=some (.int .i64 n.to.c):=(HB.out.cell (p:=⟨pb,po+i*14+9,none⟩) hpb).trans (hcell 9 (by omega))
 have k10:w1.cell? ⟨pb,po+i*14+10,none⟩=some (.int .i64 n.to.r):=(HB.out.cell (p:=⟨pb,po+i*14+10,none⟩) hpb).trans (hcell 10 (by omega))
 have k11:w1.cell? ⟨pb,po+i*14+11,none⟩=some (.bool n.to.ac):=(HB.out.cell (p:=⟨pb,po+i*14+11,none⟩) hpb).trans (hcell 11 (by omega))
 have k12:w1.cell? ⟨pb,po+i*14+12,none⟩=some (.bool n.to.ar):=(HB.out.cell (p:=⟨pb,po+i*14+12,none⟩) hpb).trans (hcell 12 (by omega))
 have k13:w1.cell? ⟨pb,po+i*14+13,none⟩=some (.slice Ak m ck):=(HB.out.cell (p:=⟨pb,po+i*14+13,none⟩) hpb).trans (hcell 13 (by omega))
 have hzl:z<w1.heap.size:=(Array.getElem?_eq_some_iff.1 HP).1
 have hzb:z≠b:=by omega
 have hbw1:b<w1.heap.size:=by omega
 have hpb1:pb<w1.heap.size:=by omega
 obtain ⟨x0,x1,x2⟩:=HP.cells
 have xb:w1.cell? ⟨b,0,none⟩=some (.slice (some ⟨pb,po,none⟩) nl cap):=by obtain ⟨wv,⟨ad,bv,h1, -⟩, -⟩:=HQ.out;exact h1.facts.1
 have HP1:=Lib.hid HP
 dsimp only at x0 x1 x2
 clear hzz hw1 HP hcell
 go_upto_region 2 with (fail)
 go_upto_region 3 with (fail)
 go_region_held3 (fun w'=>w'.cell? ⟨b,0,none⟩=some (.slice (some ⟨pb,po,none⟩) nl cap)∧w'.cell? ⟨z,1,none⟩=some (.int .i64 (i:Int))∧w'.cell? ⟨pb,po+i*14,none⟩=some (.int .i64 n.kind)∧w'.cell? ⟨pb,po+i*14+1,none⟩=some (.int .i64 n.num)∧w'.cell? ⟨pb,po+i*14+2,none⟩=some (.string n.text)∧w'.cell? ⟨pb,po+i*14+3,none⟩=some (.string n.ref.sh)∧w'.cell? ⟨pb,po+i*14+4,none⟩=some (.int .i64 n.ref.c)∧w'.cell? ⟨pb,po+i*14+5,none⟩=some (.int .i64 n.ref.r)∧w'.cell? ⟨pb,po+i*14+6,none⟩=some (.bool n.ref.ac)∧w'.cell? ⟨pb,po+i*14+7,none⟩=some (.bool n.ref.ar)∧w'.cell? ⟨pb,po+i*14+8,none⟩=some (.string n.to.sh)∧w'.cell? ⟨pb,po+i*14+9,none⟩=some (.int .i64 n.to.c)∧w'.cell? ⟨pb,po+i*14+10,none⟩=some (.int .i64 n.to.r)∧w'.cell? ⟨pb,po+i*14+11,none⟩=some (.bool n.to.ac)∧w'.cell? ⟨pb,po+i*14+12,none⟩=some (.bool n.to.ar)∧w'.cell? ⟨pb,po+i*14+13,none⟩=some (.slice Ak m ck)) (go_keep) (fail)
 have HN:=NdAt.drew (NdAt.new w1 n (.slice Ak m ck))
 have HB2:=(((Below.refl w1.heap.size w1).alloc (Nat.le_refl _) (.cells #[.int .i64 n.kind,.int .i64 n.num,.string n.text,.string n.ref.sh,.int .i64 n.ref.c,.int .i64 n.ref.r,.bool n.ref.ac,.bool n.ref.ar,.string n.to.sh,.int .i64 n.to.c,.int .i64 n.to.r,.bool n.to.ac,.bool n.to.ar,(.slice Ak m ck)] 140))).drew
 obtain ⟨z2,hz2⟩:∃ z2,w1.heap.size=z2:=⟨_,rfl⟩
 obtain ⟨w2,hw2⟩:∃ w2,((w1.alloc (.cells #[.int .i64 n.kind,.int .i64 n.num,.string n.text,.string n.ref.sh,.int .i64 n.ref.c,.int .i64 n.ref.r,.bool n.ref.ac,.bool n.ref.ar,.string n.to.sh,.int .i64 n.to.c,.int .i64 n.to.r,.bool n.to.ac,.bool n.to.ar,(.slice Ak m ck)] 140)).drew)=w2:=⟨_,rfl⟩
 rw [show (w1.alloc (.cells (nodA n (.slice Ak m ck)) 140)).drew=w2 from hw2] at HN
 rw [hw2] at HB2
 rw [hw2,hz2]
 rw [hz2] at HN
 have hzl2:z2<w2.heap.size:=HN.lt
 have hzb2:z2≠b:=by omega
 have hbw2:b<w2.heap.size:=by omega
 have y2:=(HB2.cell (p:=⟨z,2,none⟩) hzl).trans x2
 obtain ⟨y0, -⟩:=HN.cells
 have HQ2:=Lib.hid (HQ.out.below HB2)
 have HG2:=Lib.hid (HG.out.fq (Fq.ofBelow HB2))
 have HSI2:=Lib.hid (HSI.out.below HB2 (Nat.le_of_lt hbw1))
 have HB2':=Lib.hid HB2
 have HN2:=Lib.hid HN
 clear hw2 hz2 HN HB2 x0 x1 x2 xb k0 k1 k2 k3 k4 k5 k6 k7 k8 k9 k10 k11 k12 k13
 go_upto_region 4 with (fail)
 go_region_held3 (fun w'=>w'.cell? ⟨z2,0,none⟩=some (.int .i64 n.kind)∧w'.cell? ⟨z,2,none⟩=some (.int .i64 least)) (go_keep) (first
  | (go_at_call 111;((with_reducible refine (HRK.out _).mono ?_);rintro e w3 ⟨rfl,rfl⟩)))
 have HD2:=Lib.hid ((Below.refl w2.heap.size w2).drew)
 obtain ⟨wv,hws,hown⟩:=HQ2.out
 have HW:=Lib.hid (write_any w2.drew b _ wv txt ⟨#[40]⟩ (hws.below HD2.out) (by show txt.length+1≤_;omega))
 have HO:=Lib.hid (hown.below HD2.out (Nat.le_refl _))
 clear hws hown
 go_upto_region 5 with (fail)
 go_upto_region 6 with (go_at_call 110;((with_reducible refine HW.out.mono ?_);rintro e u3 ⟨⟨x,rfl⟩,h3,h4⟩;have HWS3:=Lib.hid h3;have HF3:=Lib.hid h4;clear h3 h4))
 have HWQ3:=Lib.hid (show WQ u3 b (.slice (some ⟨pb,po,none⟩) nl cap) st (txt++[40]) from by
  have h:=WQ.wrote HO.out HWS3.out HF3.out
  rwa [show sb ⟨#[40]⟩=[40] by decide] at h)
 have HPU:=Lib.hid (fun (wr:World) (hr:Below u3.heap.size u3 wr)=>push_lit wr b (.slice (some ⟨pb,po,none⟩) nl cap) st [Pt.plain ⟨#[41]⟩] (txt++[40]) #[.string ⟨#[41]⟩,.int .i64 0,.int .i64 0] 1 rfl rfl (HWQ3.out.below hr) (by show 1≤1000000;decide) (by omega))
 go_upto_region 7 with (first
  | (go_at_call 112;((with_reducible refine (plain_lit _ _).mono ?_);rintro e u4 ⟨rfl,h3⟩;have HB4:=Lib.hid h3;clear h3))
  | (go_at_call 77;((with_reducible refine (HPU.out _ HB4.out).mono ?_);rintro e u5 ⟨rfl,h3,h4⟩;have HQU:=Lib.hid h3;have HFU:=Lib.hid h4;clear h3 h4)))
 have HF25:=Lib.hid (((Fq.ofBelow HD2.out).trans (Fq.ofB HF3.out)).trans ((Fq.ofBelow HB4.out).trans HFU.out))
 have HG3:=Lib.hid (HG2.out.fq HF25.out)
 have HSI3:=Lib.hid (HSI2.out.fq HF25.out (Nat.le_refl _) hbw2)
 have hsz5:w2.heap.size≤u5.heap.size:=HF25.out.size
 have HQ3:=Lib.hid (show WQ u5 b (.slice (some ⟨pb,po,none⟩) nl cap) (st++[Pt.plain ⟨#[41]⟩]) (txt++[40]) from HQU.out)
 have HN3:=Lib.hid (show NdAt u5 z2 n (.slice Ak m ck) from by
  unfold NdAt
  have e1:w2.heap[z2]? = some (.cells (nodA n (.slice Ak m ck)) 140):=HN2.out
  rw [HF25.out.block z2 hzl2 hzb2 (.inr fun cur fr=>⟨fun e=>by (rw [e1] at e;injection e with e;injection e with _ e2;exact absurd e2 (by decide)),fun e=>by (rw [e1] at e;injection e with e;injection e with _ e2;exact absurd e2 (by decide))⟩)]
  exact e1)
 have hbw3:b<u5.heap.size:=by omega
 have hzl3:z2<u5.drew.heap.size:=by show z2<u5.heap.size;omega
 clear y0 y2
 have HCALL:=Lib.hid (fun (wr:World) (hr:Below u5.heap.size u5 wr)=>node_any w0 wr b (.slice (some ⟨pb,po,none⟩) nl cap) (st++[Pt.plain ⟨#[41]⟩]) (txt++[40]) n Ak m ck ((HG3.out).fq (Fq.ofBelow hr)) (HQ3.out.below hr) HNB.out hnum HZ1.out HZ2.out HZ3.out (HSI3.out.below hr (Nat.le_of_lt hbw3)) (by rw [List.length_append];show txt.length+1≤_;omega) (by rw [List.length_append];show st.length+1+_+1≤_;have:=HM.out;omega))
 rw [HMF.out] at HCALL
 have H3:=Lib.hid ((Below.refl u5.heap.size u5).drew)
 obtain ⟨k0,k1,k2,k3,k4,k5,k6,k7,k8,k9,k10,k11,k12,k13⟩:=HN3.out.cells
 go_region_held3 (fun w'=>w'.cell? ⟨z2,0,none⟩=some (.int .i64 n.kind)∧w'.cell? ⟨z2,1,none⟩=some (.int .i64 n.num)∧w'.cell? ⟨z2,2,none⟩=some (.string n.text)∧w'.cell? ⟨z2,3,none⟩=some (.string n.ref.sh)∧w'.cell? ⟨z2,4,none⟩=some (.int .i64 n.ref.c)∧w'.cell? ⟨z2,5,none⟩=some (.int .i64 n.ref.r)∧w'.cell? ⟨z2,6,none⟩=some (.bool n.ref.ac)∧w'.cell? ⟨z2,7,none⟩=some (.bool n.ref.ar)∧w'.cell? ⟨z2,8,none⟩=some (.string n.to.sh)∧w'.cell? ⟨z2,9,none⟩=some (.int .i64 n.to.c)∧w'.cell? ⟨z2,10,none⟩=some (.int .i64 n.to.r)∧w'.cell? ⟨z2,11,none⟩=some (.bool n.to.ac)∧w'.cell? ⟨z2,12,none⟩=some (.bool n.to.ar)∧w'.cell? ⟨z2,13,none⟩=some (.slice Ak m ck)) (first | go_keep | exact S7a) (first
  | (go_at_call 113;((with_reducible refine (HME.out _).mono ?_);rintro e w4 ⟨rfl,rfl⟩))
  | ((with_reducible refine (HCALL.out _ H3.out).mono ?_);rintro e w5 ⟨rfl,h3,h4⟩;have HQ5:=Lib.hid h3;have HF5:=Lib.hid h4;have S7a:=NdAt.cells (show NdAt w5 z2 n (.slice Ak m ck) from by
       unfold NdAt
       have e1:u5.drew.heap[z2]? = some (.cells (nodA n (.slice Ak m ck)) 140):=HN3.out
       rw [HF5.out.block z2 hzl3 hzb2 (.inr fun cur fr=>⟨fun e=>by (rw [e1] at e;injection e with e;injection e with _ e2;exact absurd e2 (by decide)),fun e=>by (rw [e1] at e;injection e with e;injection e with _ e2;exact absurd e2 (by decide))⟩)]
       exact e1);clear h3 h4))
 all_goals go_wp2_with fail
 all_goals go_end0
 all_goals exact ⟨rfl,by (have h:=HQ5.out;rw [List.append_assoc txt] at h;exact h),(Fq.ofBelow HB.out).trans ((Fq.ofBelow HB2'.out).trans (HF25.out.trans ((Fq.ofBelow H3.out).trans HF5.out)))⟩
theorem argP_len:∀ ks:List Int,2*ks.length≤(argP ks).length+1
 | []=>Nat.zero_le _
 | [a]=>Nat.le_refl _
 | a :: b :: ks=>by
   have ih:=argP_len (b :: ks)
   show 2*((b :: ks).length+1)≤((argP (b :: ks)).length+1+1)+1
   omega
theorem kids_len {n:Nd} (h:nodeB n=true):2*n.kids.length≤(stepN n).2.length+4:=by
 obtain ⟨a1,a2,a3,b1,b2, -⟩:=arms_kids h
 by_cases h6:n.kind≤6
 · rw [a3 ⟨b1,h6⟩];exact Nat.zero_le _
 by_cases h7:n.kind=7
 · have:=argP_len n.kids
   rw [show (stepN n).2=argP n.kids++[Pt.plain ⟨#[41]⟩] from by unfold stepN;rw [if_neg (by omega),if_neg (by omega),if_neg (by omega),if_neg (by omega),if_neg (by omega),if_neg (by omega),if_pos h7],List.length_append]
   omega
 by_cases h8:n.kind=8
 · rw [a1 h8];omega
 · rw [a2 (by omega)];omega
theorem stepP_less {l:List Nd} (h:treeB l=true) (p:Pt) (hp:PtOk l p):2≤2*(stepP l p).1.length+(stepP l p).2.length:=by
 have hn:∀ n:Nd,nodeB n=true→2≤2*(stepN n).1.length+(stepN n).2.length:=by
  intro n hn
  obtain ⟨-, -, -,b1,b2, -⟩:=arms_kids hn
  unfold stepN
  split
  · have:digL n.num.toNat≠[]:=digL_ne _
    have:=List.length_pos_iff.2 this
    show 2≤2*(digL n.num.toNat).length+0
    omega
  split
  · simp;omega
  split
  · split <;> simp
  split
  · simp
  split
  · rename_i h5
    have hl:=(arms_kids hn).2.2.2.2.2
    have:textL (sb n.ref.sh) n.ref.c n.ref.r n.ref.ac n.ref.ar≠[]:=textL_ne (leaf_ref hl h5)
    have:=List.length_pos_iff.2 this
    show 2≤2*(textL _ _ _ _ _).length+0
    omega
  split
  · simp;omega
  split
  · simp;omega
  split
  · simp
  · simp
 unfold stepP
 split
 · rename_i ht
   obtain ⟨h0,h1⟩:=hp ht
   have:=hn _ (tree_at h h0 h1).1
   split
   · rw [List.length_cons,List.length_append];show 2≤2*(_+1)+(_+1);omega
   · exact this
 · rename_i ht
   have:=List.length_pos_iff.2 (sb_ne ht)
   show 2≤2*(sb p.t).length+0
   omega
theorem stepP_node {l:List Nd} {j:Nat} {m:Int} {n:Nd} (hn:nodeAt l (j:Int)=n):stepP l ⟨⟨#[]⟩,(j:Int),m⟩=if (rankL n.kind:Int)+1<m then (40 :: (stepN n).1,(stepN n).2++[Pt.plain ⟨#[41]⟩]) else stepN n:=by
 unfold stepP
 rw [if_pos rfl]
 dsimp only
 rw [hn]
theorem writeP_any (w0 w:World) (b:Nat) (nv:Value) (vs:List (Nd × Value)) (st:List Pt) (txt:List Int) (p:Pt) (hg:Gl w0 w b) (h:WQ w b nv st txt) (hsn:SN w b nv vs) (hz:SZ vs) (ht:treeB (vs.map (·.1))=true) (hnum:∀ q∈vs,q.1.num≤9223372036854775807) (hp:PtOk (vs.map (·.1)) p) (hl:txt.length+(ptL (vs.map (·.1)) p).length≤1000000000) (hls:st.length+(ptL (vs.map (·.1)) p).length≤1000000000) :
 Calls Tryz.prog 79 #[.pointer (some ⟨b,0,none⟩),.agg (ptA p)] w fun e w'=>e = .returned (.tuple #[])∧WQ w' b nv (st++(stepP (vs.map (·.1)) p).2.reverse) (txt++(stepP (vs.map (·.1)) p).1)∧Fq w w' b:=by
 obtain ⟨t,i,m⟩:=p
 by_cases hpt:t=⟨#[]⟩
 · subst hpt
   obtain ⟨h0,h1⟩:=hp rfl
   dsimp only at h0 h1
   obtain ⟨j,rfl⟩:∃ j:Nat,i=(j:Int):=⟨i.toNat,by omega⟩
   rw [List.length_map] at h1
   obtain ⟨⟨n,k⟩,hnk⟩:∃ q,vs[j]? = some q:=⟨_,List.getElem?_eq_getElem (by omega)⟩
   have hn:nodeAt (vs.map (·.1)) (j:Int)=n:=by
    unfold nodeAt
    rw [Int.toNat_natCast,List.getD_eq_getElem?_getD,List.getElem?_map,hnk];rfl
   have hnb:=(tree_at ht h0 (by rw [List.length_map];exact h1)).1
   rw [hn] at hnb
   have hkl:=kids_len hnb
   have hne:=List.length_pos_iff.2 (ptL_ne ht _ hp)
   have hfl:=flat_len ht _ (stepP_ok ht _ hp)
   have hL:=stepP_L ht _ hp
   have hLL:=congrArg List.length hL
   rw [List.length_append] at hLL
   have hsp:=stepP_node (m:=m) hn
   rw [hsp] at hfl hLL ⊢
   by_cases hr:(rankL n.kind:Int)+1<m
   · rw [if_pos hr] at hfl hLL ⊢
     dsimp only at hfl hLL ⊢
     rw [List.length_append] at hfl
     refine (write_kept w0 w b nv vs st txt j m n k hg h hsn hz hnk hnb (hnum _ (List.mem_of_getElem? hnk)) hr (by omega) (by omega)).mono ?_
     rintro e w' ⟨h1,h2,h3⟩
     refine ⟨h1, ?_,h3⟩
     rw [List.reverse_append,List.reverse_singleton, ← List.append_assoc]
     exact h2
   · rw [if_neg hr] at hfl hLL ⊢
     exact write_bare w0 w b nv vs st txt j m n k hg h hsn hz hnk hnb (hnum _ (List.mem_of_getElem? hnk)) hr (by omega) (by omega)
 · have hs:stepP (vs.map (·.1)) ⟨t,i,m⟩=(sb t,[]):=by unfold stepP;rw [if_neg (show ¬ (⟨t,i,m⟩:Pt).t=⟨#[]⟩ from hpt)]
   have hp2:ptL (vs.map (·.1)) ⟨t,i,m⟩=sb t:=by unfold ptL;rw [if_neg (show ¬ (⟨t,i,m⟩:Pt).t=⟨#[]⟩ from hpt)]
   rw [hs]
   rw [hp2,length_sb] at hl
   dsimp only
   rw [List.reverse_nil,List.append_nil]
   exact write_text w b nv st txt ⟨t,i,m⟩ h hpt hl
theorem Own.si {w:World} {lo:Nat} {v:Value} {xs:List Int} (h:Own (encInt .i64) 3 w lo v xs):SI w w.heap.size v xs:=by
 rcases h.shape with ⟨rfl,rfl⟩ | ⟨g,cap,rfl,h1,h2,h3,h4⟩
 · exact ⟨none,0,rfl,Nat.le_refl _,by unfold maxLen;omega,.inl rfl⟩
 · refine ⟨_,cap,rfl,h3,h4,.inr ⟨g,0,rfl,h2,fun j x hj => ?_⟩⟩
   rw [Nat.zero_add]
   have:=(encInt .i64).at xs j 0 x hj (by omega)
   rw [Nat.mul_one,Nat.add_zero] at this
   exact Own.cells h j _ (by rw [this];rfl)
theorem NodV.sn {w:World} {lo g n cap:Nat} {vs:List Nv} (h:NodV w lo (.slice (some ⟨g,0,none⟩) n cap) vs) (hn:vs.length=n):SN w w.heap.size (.slice (some ⟨g,0,none⟩) n cap) (vs.map fun v=>(v.n,v.kv)):=by
 refine ⟨⟨_,cap,by rw [List.length_map,hn],.inr ⟨g,0,rfl,(Own.blockLt h.1 g rfl).2.1,fun i nd k hi j hj => ?_⟩⟩, ?_⟩
 · rw [List.getElem?_map] at hi
   obtain ⟨v,hv,e⟩:=Option.map_eq_some_iff.1 hi
   injection e with e1 e2;subst e1;subst e2
   rw [Nat.zero_add];exact h.cell i v hv j hj
 · intro p hp
   obtain ⟨v,hv,rfl⟩:=List.mem_map.1 hp
   exact (h.2 v hv).si
theorem sn_fst (vs:List Nv):(vs.map fun v=>(v.n,v.kv)).map (·.1)=vs.map Nv.n:=by rw [List.map_map];rfl
theorem SN.lenle {w:World} {B:Nat} {v:Value} {vs:List (Nd × Value)} (h:SN w B v vs):∃ A cap,v = .slice A vs.length cap:=by
 obtain ⟨⟨A,cap,h,_⟩,_⟩:=h;exact ⟨A,cap,h⟩
end Go.Proofs.YtdphoaabaajonaaGreatDoor
