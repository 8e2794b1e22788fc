/-
 Texts of layers, put together.
-/
import Derived.Test.YtdnooocmlhcpkaaGreatDoorMO6
import Derived.Deep.DeepCutAuto
import Derived.RangeFuncNested
import Derived.RangeFuncBound
import Derived.RangeFuncCalls
import Derived.RangeFuncLeaves
import Derived.Shelf.Abstract
import Derived.WalkKit
import Derived.OwnWalkIn
import Derived.TacticsInMore
import Derived.LoopNIn
import Derived.LoopIn
import Derived.Deep.CutBlock
namespace Go.Proofs.YtdnooocmlhcpkaaGreatDoor
open Go.RowKit
def shA:Array Value:=(List.replicate 9 (Value.string ⟨#[]⟩)++opS.map Value.string).toArray
theorem wr2a (rk:Nat) (h:rk≤5):wrap64 ((rk:Int)+1+1)=(rk:Int)+2:=by unfold wrap64;omega
theorem wr2b (rk:Nat) (h:rk≤5):IntKind.i64.wrap ((rk:Int)+1+1)=(rk:Int)+2:=by rw [IntKind.wrap_i64];omega
theorem shA_at:∀ k:Nat,9≤k→k<20→shA[k]? = some (.string (opS.getD (k - 9) ⟨#[]⟩)):=by
 intro k h9 h20
 have hk:k=9∨k=10∨k=11∨k=12∨k=13∨k=14∨k=15∨k=16∨k=17∨k=18∨k=19:=by omega
 rcases hk with rfl | rfl | rfl | rfl | rfl | rfl | rfl | rfl | rfl | rfl | rfl <;> rfl
def ShV (w:World):Prop:=∃ ty fr,w.heap[(0:Nat)]? = some (.cells shA ty fr)
theorem ShV.below {w w':World} (h:ShV w) (hb:Below w.heap.size w w'):ShV w':=by
 obtain ⟨ty,fr,h1⟩:=h
 exact ⟨ty,fr,by rw [hb.block _ (Array.getElem?_eq_some_iff.1 h1).1];exact h1⟩
theorem ShV.cell {w:World} (h:ShV w) (j:Nat):w.cell? ⟨(0:Nat),j,none⟩=shA[j]? := by
 obtain ⟨ty,fr,h1⟩:=h
 exact cell_of_row w _ j _ ty fr h1
theorem ShV.lt {w:World} (h:ShV w):0<w.heap.size:=by
 obtain ⟨ty,fr,h1⟩:=h
 exact (Array.getElem?_eq_some_iff.1 h1).1
set_option maxRecDepth 100000 in
set_option maxHeartbeats 4000000 in
theorem between_node (w:World) (b:Nat) (nv:Value) (st:List Pt) (txt:List Int) (n:Nd) (A:Option Addr) (m c:Nat) (h:WQ w b nv st txt) (kd:Nat) (hk:n.kind=(kd:Int)) (h9:9≤kd) (h20:kd<20) (k0 k1:Int) (hk0:n.kids[0]? = some k0) (hk1:n.kids[1]? = some k1) (hsi:SI w b (.slice A m c) n.kids) (hsv:ShV w) (hgb:0<b) (hls:st.length≤2000000000) :
 Calls Tryz.prog 169 #[.pointer (some ⟨b,0,none⟩),.agg #[.int .i64 n.kind,.int .i64 n.num,.string n.text,.string n.ref.sh,.int .i64 n.ref.c,.int .i64 n.ref.r,.bool n.ref.ac,.bool n.ref.ar,.string n.«to».sh,.int .i64 n.«to».c,.int .i64 n.«to».r,.bool n.«to».ac,.bool n.«to».ar,.slice A m c]] w (Wrote w b nv st txt n):=by
 have hB:Below w.heap.size w (w.alloc (.cells #[.int .i64 n.kind,.int .i64 n.num,.string n.text,.string n.ref.sh,.int .i64 n.ref.c,.int .i64 n.ref.r,.bool n.ref.ac,.bool n.ref.ar,.string n.«to».sh,.int .i64 n.«to».c,.int .i64 n.«to».r,.bool n.«to».ac,.bool n.«to».ar,.slice A m c] 48)):=(Below.refl _ _).alloc (Nat.le_refl _) _
 have HN:NdAt (w.alloc (.cells #[.int .i64 n.kind,.int .i64 n.num,.string n.text,.string n.ref.sh,.int .i64 n.ref.c,.int .i64 n.ref.r,.bool n.ref.ac,.bool n.ref.ar,.string n.«to».sh,.int .i64 n.«to».c,.int .i64 n.«to».r,.bool n.«to».ac,.bool n.«to».ar,.slice A m c] 48)) w.heap.size n (.slice A m c):=NdAt.new w n _
 have hbw:b<w.heap.size:=by obtain ⟨wv,h1, -⟩:=h;exact h1.lt
 obtain ⟨sg,hsg⟩:∃ sg,opS.getD (kd - 9) ⟨#[]⟩=sg:=⟨_,rfl⟩
 obtain ⟨rk,hrk⟩:∃ rk:Nat,rankL n.kind=rk:=⟨_,rfl⟩
 have hrk6:rk≤5:=by rw [← hrk];unfold rankL;split <;> (try split) <;> (try split) <;> (try split) <;> (try split) <;> omega
 have hs:stepN n=([],[Pt.op k0 ((rk:Int)+1),Pt.plain sg,Pt.op k1 ((rk:Int)+2)]):=by
  unfold stepN;rw [if_neg (by omega),if_neg (by omega),if_neg (by omega),if_neg (by omega),if_neg (by omega),if_neg (by omega),if_neg (by omega),if_neg (by omega),List.getD_eq_getElem?_getD,hk0,List.getD_eq_getElem?_getD (l:=n.kids) (i:=1),hk1,hrk,hk,show ((kd:Int) - 9).toNat=kd - 9 by omega,hsg];rfl
 have hrank:=rankOf_any n.kind
 rw [hrk,hk] at hrank
 have hsi1:=hsi.below hB (Nat.le_of_lt hbw)
 obtain ⟨A',cap',hsl,hcm, -,hcell⟩:=hsi1
 injection hsl with e1 e2 e3
 have hpos:1<n.kids.length:=(List.getElem?_eq_some_iff.1 hk1).1
 obtain ⟨pb,po,hA,hpb,hcl⟩:=hcell.resolve_left (fun e=>by rw [e] at hpos;exact absurd hpos (by decide))
 have hc0:=hcl 0 k0 hk0
 have hc1:=hcl 1 k1 hk1
 rw [Nat.add_zero] at hc0
 have hA2:=e1.trans hA
 subst hA2;subst e3
 clear e1 hA
 have hm0:(0:Int)<(m:Int):=by omega
 have hm1:(1:Int)<(m:Int):=by omega
 have hm2:0<m:=by omega
 have hm3:1<m:=by omega
 have hkd0:(0:Int)≤(kd:Int):=by omega
 have hkd1:(kd:Int)<20:=by omega
 have hw1a:=wr2a rk hrk6
 have hw1b:=wr2b rk hrk6
 have hsc:(w.alloc (.cells #[.int .i64 n.kind,.int .i64 n.num,.string n.text,.string n.ref.sh,.int .i64 n.ref.c,.int .i64 n.ref.r,.bool n.ref.ac,.bool n.ref.ar,.string n.«to».sh,.int .i64 n.«to».c,.int .i64 n.«to».r,.bool n.«to».ac,.bool n.«to».ar,.slice (some ⟨pb,po,none⟩) m c] 48)).cell? ⟨(0:Nat),kd,none⟩=some (.string sg):=by rw [(hsv.below hB).cell kd,shA_at kd h9 h20,hsg]
 have hgl1:=(hsv.below hB).lt
 have HS:=Lib.hid hs
 have HB:=Lib.hid hB
 have HRK:=Lib.hid hrank
 have HQ1:=Lib.hid (h.below hB)
 have HKD:=Lib.hid hk
 clear h hs hk hB hsi e2 hcl hpos hcell hk0 hk1 hsv hsg hrk hrank
 go_enter Tryz.func169,Tryz.ntmps169
 go_upto_region 1 with (fail)
 obtain ⟨z,hzz⟩:∃ z,w.heap.size=z:=⟨_,rfl⟩
 obtain ⟨w1,hw1⟩:∃ w1,w.alloc (.cells #[.int .i64 n.kind,.int .i64 n.num,.string n.text,.string n.ref.sh,.int .i64 n.ref.c,.int .i64 n.ref.r,.bool n.ref.ac,.bool n.ref.ar,.string n.«to».sh,.int .i64 n.«to».c,.int .i64 n.«to».r,.bool n.«to».ac,.bool n.«to».ar,.slice (some ⟨pb,po,none⟩) m c] 48)=w1:=⟨_,rfl⟩
 rw [hw1] at HN HB HQ1 hc0 hc1 hsc hgl1 ⊢
 rw [hzz] at HN ⊢
 have hzl:=HN.lt
 have hzb:z≠b:=by omega
 have HN2:=Lib.hid HN
 have x0:=HN.cells.1
 obtain ⟨-, -, -, -, -, -, -, -, -, -, -, -, -,x1⟩:=HN.cells
 rw [HKD.out] at x0
 have hbw1:b<w1.heap.size:=Nat.lt_of_lt_of_le hbw HB.out.size
 have hpl:pb<w1.heap.size:=by omega
 have hgl:0<w1.heap.size:=hgl1
 have x2:=hc0;have x3:=hc1;have x4:=hsc
 clear hzz hw1 HN hc0 hc1 hsc hgl1
 go_upto_region 2 with (go_at_call 130;((with_reducible refine (HRK.out _).mono ?_);rintro e w2 ⟨rfl,rfl⟩))
 have H1:=Lib.hid ((Below.refl w1.heap.size w1).drew)
 have HP:=Lib.hid (fun (wr:World) (hr:Below w1.heap.size w1 wr)=>push_lit wr b nv st [Pt.op k0 ((rk:Int)+1),Pt.plain sg,Pt.op k1 ((rk:Int)+2)] txt #[.string ⟨#[]⟩,.int .i64 k0,.int .i64 ((rk:Int)+1),.string sg,.int .i64 0,.int .i64 0,.string ⟨#[]⟩,.int .i64 k1,.int .i64 ((rk:Int)+2)] 3 rfl rfl (HQ1.out.below hr) (by show 3≤1000000;decide) hls)
 clear HRK
 go_region_held3 (fun w'=>w'.cell? ⟨z,0,none⟩=some (.int .i64 (kd:Int))∧w'.cell? ⟨z,13,none⟩=some (.slice (some ⟨pb,po,none⟩) m c)∧w'.cell? ⟨pb,po,none⟩=some (.int .i64 k0)∧w'.cell? ⟨pb,po+1,none⟩=some (.int .i64 k1)∧w'.cell? ⟨(0:Nat),kd,none⟩=some (.string sg)) (go_keep) (first
  | (go_at_call 89;((with_reducible refine (op_lit k0 ((rk:Int)+1) _).mono ?_);rintro e w3 ⟨rfl,h3⟩;have H3:=Lib.hid (H1.out.trans (h3.mono H1.out.size));have p0:=(H3.out.cell (p:=⟨z,0,none⟩) hzl).trans x0;have p1:=(H3.out.cell (p:=⟨z,13,none⟩) hzl).trans x1;have p2:=(H3.out.cell (p:=⟨pb,po,none⟩) hpl).trans x2;have p3:=(H3.out.cell (p:=⟨pb,po+1,none⟩) hpl).trans x3;have p4:=(H3.out.cell (p:=⟨(0:Nat),kd,none⟩) hgl).trans x4;clear h3))
  | (go_at_call 131;((with_reducible refine (plain_lit _ _).mono ?_);rintro e w4 ⟨rfl,h3⟩;have H4:=Lib.hid (H3.out.trans (h3.mono H3.out.size));have q0:=(H4.out.cell (p:=⟨z,0,none⟩) hzl).trans x0;have q1:=(H4.out.cell (p:=⟨z,13,none⟩) hzl).trans x1;have q2:=(H4.out.cell (p:=⟨pb,po,none⟩) hpl).trans x2;have q3:=(H4.out.cell (p:=⟨pb,po+1,none⟩) hpl).trans x3;have q4:=(H4.out.cell (p:=⟨(0:Nat),kd,none⟩) hgl).trans x4;clear h3))
  | (go_at_call 89;((with_reducible refine (op_lit k1 ((rk:Int)+2) _).mono ?_);rintro e w5 ⟨rfl,h3⟩;have H5:=Lib.hid (H4.out.trans (h3.mono H4.out.size));have r0:=(H5.out.cell (p:=⟨z,0,none⟩) hzl).trans x0;have r1:=(H5.out.cell (p:=⟨z,13,none⟩) hzl).trans x1;have r2:=(H5.out.cell (p:=⟨pb,po,none⟩) hpl).trans x2;have r3:=(H5.out.cell (p:=⟨pb,po+1,none⟩) hpl).trans x3;have r4:=(H5.out.cell (p:=⟨(0:Nat),kd,none⟩) hgl).trans x4;clear h3))
  | (go_at_call 88;((with_reducible refine (HP.out _ H5.out).mono ?_);rintro e w6 ⟨rfl,h3,h4⟩;have HQ6:=Lib.hid h3;have HF6:=Lib.hid h4;have hzk:=HF6.out.block z (Nat.lt_of_lt_of_le hzl H5.out.size) hzb (.inr fun cur fr=>by
      have h5:=H5.out.block z hzl
      have h6:w1.heap[z]? = some (.cells (nodA n (.slice (some ⟨pb,po,none⟩) m c)) 48):=HN2.out
      rw [h5,h6]
      exact ⟨fun e=>by (injection e with e;injection e with _ e2;exact absurd e2 (by decide)),fun e=>by (injection e with e;injection e with _ e2;exact absurd e2 (by decide))⟩);have hpk:=HF6.out.block pb (Nat.lt_of_lt_of_le hpl H5.out.size) (Nat.ne_of_lt hpb) (.inl hpb);have hgk:=HF6.out.block 0 (Nat.lt_of_lt_of_le hgl H5.out.size) (Nat.ne_of_lt hgb) (.inl hgb);have t0:=(World.cell?_of_block (a:=⟨z,0,none⟩) hzk).trans r0;have t1:=(World.cell?_of_block (a:=⟨z,13,none⟩) hzk).trans r1;have t2:=(World.cell?_of_block (a:=⟨pb,po,none⟩) hpk).trans r2;have t3:=(World.cell?_of_block (a:=⟨pb,po+1,none⟩) hpk).trans r3;have t4:=(World.cell?_of_block (a:=⟨(0:Nat),kd,none⟩) hgk).trans r4;clear h3 h4 hzk hpk hgk)))
 all_goals go_wp2_with fail
 all_goals go_end0
 all_goals refine ⟨rfl, ?_,(Fq.ofBelow HB.out).trans ((Fq.ofBelow H5.out).trans HF6.out)⟩
 all_goals rw [HS.out,List.append_nil]
 all_goals exact HQ6.out
end Go.Proofs.YtdnooocmlhcpkaaGreatDoor
namespace Go.Proofs.YtdnooocmlhcpkaaGreatDoor
open Go.RowKit Go.Shelf
attribute [local go_sem] Oper.semAt_some
def cameI (xs:List Int) (q:Nat):List (Nat × Int):=(List.range (xs.length - q)).map fun j=>(xs.length - 1 - j,xs.getD (xs.length - 1 - j) 0)
theorem cameI_all (xs:List Int):cameI xs xs.length=[]:=by unfold cameI;simp
theorem cameI_step (xs:List Int) (m:Nat) (p:Int) (hp:xs[m]? = some p):cameI xs m=cameI xs (m+1)++[(m,p)]:=by
 have hl:=(List.getElem?_eq_some_iff.1 hp).1
 unfold cameI
 rw [show xs.length - m=(xs.length - (m+1))+1 by omega,List.range_succ,List.map_append]
 show _++[(xs.length - 1 - (xs.length - (m+1)),_)]=_
 rw [show xs.length - 1 - (xs.length - (m+1))=m by omega,List.getD_eq_getElem?_getD,hp];rfl
theorem cameI_len (xs:List Int) (q:Nat):(cameI xs q).length=xs.length - q:=by unfold cameI;simp
def kidP (x:Nat × Int):List Pt:=if x.1=0 then [Pt.op x.2 1] else [Pt.op x.2 1,Pt.plain ⟨#[44]⟩]
def kidsP (pre:List (Nat × Int)):List Pt:=pre.flatMap kidP
theorem kidsP_snoc (pre:List (Nat × Int)) (x:Nat × Int):kidsP (pre++[x])=kidsP pre++kidP x:=by unfold kidsP;simp
theorem kidsP_len (pre:List (Nat × Int)):(kidsP pre).length≤2*pre.length:=by
 induction pre with
 | nil=>exact Nat.le_refl _
 | cons x pre ih =>
   show (kidP x++kidsP pre).length≤_
   have h:(kidP x).length≤2:=by unfold kidP;split <;> simp
   rw [List.length_append,List.length_cons];omega
def argQ:List Int→List Pt
 | []=>[]
 | k :: ks=>Pt.plain ⟨#[44]⟩ :: Pt.op k 1 :: argQ ks
theorem argP_Q:∀ (a:Int) (ks:List Int),argP (a :: ks)=Pt.op a 1 :: argQ ks
 | a,[]=>rfl
 | a,b :: ks=>by show Pt.op a 1 :: Pt.plain ⟨#[44]⟩ :: argP (b :: ks)=_;rw [argP_Q b ks];rfl
theorem kidsP_came (xs:List Int) (q:Nat) (h1:1≤q) (h2:q≤xs.length):kidsP (cameI xs q)=(argQ (xs.drop q)).reverse:=by
 induction h:xs.length - q generalizing q with
 | zero =>
   have:q=xs.length:=by omega
   subst this
   rw [cameI_all,List.drop_length];rfl
 | succ d ih =>
   obtain ⟨p,hp⟩:∃ p,xs[q]? = some p:=⟨_,List.getElem?_eq_getElem (by omega)⟩
   have hl:=(List.getElem?_eq_some_iff.1 hp).1
   have he:xs[q]=p:=by rw [List.getElem?_eq_getElem hl] at hp;exact Option.some.inj hp
   rw [cameI_step xs q p hp,kidsP_snoc,ih (q+1) (by omega) (by omega) (by omega),List.drop_eq_getElem_cons hl,he]
   show _++kidP (q,p)=(Pt.plain ⟨#[44]⟩ :: Pt.op p 1 :: argQ (xs.drop (q+1))).reverse
   unfold kidP
   rw [if_neg (show ¬ (q,p).1=0 by show ¬ q=0;omega),List.reverse_cons,List.reverse_cons,List.append_assoc];rfl
theorem kidsP_all:∀ xs:List Int,kidsP (cameI xs 0)=(argP xs).reverse
 | []=>rfl
 | a :: ks=>by
   rw [cameI_step (a :: ks) 0 a rfl,kidsP_snoc,kidsP_came (a :: ks) 1 (by omega) (by simp),argP_Q]
   show _++[Pt.op a 1]=_
   rw [List.reverse_cons];rfl
set_option maxRecDepth 100000 in
set_option maxHeartbeats 4000000 in
theorem backI1_in (F:Fence) (n:Nat) (h7:F.fn 223) (hro:F.round=none) (hn:1≤n) (l Bs b po cap:Nat) (A:Option Addr) (xs:List Int) (hlen:xs.length≤1000000000) (J Jx:List (Nat × Int)→World→Prop)
 (hY:∀ pre x W,J pre W→pre.length<xs.length→YieldAt F (n - 1) Tryz.prog l #[.int .i64 (x.1:Int),.int .i64 x.2] W fun e W' =>
   (e = .returned (.bool true)∧J (pre++[x]) W'∧Twos Bs b W W')∨(e = .returned (.bool false)∧Jx (pre++[x]) W'))
 (W:World) (hBs:W.cell? ⟨Bs,0,none⟩=some (.slice A xs.length cap)) (hc:∀ m p,xs[m]? = some p→A=some ⟨b,po,none⟩∧W.cell? ⟨b,po+m,none⟩=some (.int .i64 p)) (h0:J [] W) :
 CallsIn F n Tryz.prog 223 #[.func (.yield l) #[] #[],.pointer (some ⟨Bs,0,none⟩)] W fun e W'=>(∃ v,e = .returned v) ∧
  ((∃ ys,ys=cameI xs 0∧J ys W')∨(∃ pre,True∧Jx pre W')):=by
 obtain ⟨L,hL⟩:∃ L,xs.length=L:=⟨_,rfl⟩
 have HL:=Lib.hid hL
 rw [hL] at hlen hBs
 refine callsIn_of_wp Tryz.func223 rfl h7 ?_ hro
 simp only [Tryz.ntmps223,List.size_toArray,List.length_cons,List.length_nil,Nat.reduceAdd,Nat.reduceSub,Array.replicate_succ,Array.replicate_zero,List.push_toArray,List.append_toArray,List.nil_append,List.cons_append]
 gi_wp2
 gi_loopw [3] (fun i wr=>∃ q:Nat,q≤L∧i = .int .i64 ((q:Int) - 1)∧J (cameI xs q) wr∧Twos Bs b W wr)
  (fun i _=>(intOf i+1).toNat)
 case atStart=>exact ⟨L,Nat.le_refl _,rfl,by rw [← hL,cameI_all];exact h0,Twos.refl _ _ _⟩
 case round =>
  obtain ⟨q,hq,rfl,hJs,hnx⟩:=hrel
  have hBs':=(hnx.cell1 0).trans hBs
  cases q with
  | zero =>
    gi_wp2
    go_end0
    exact ⟨⟨_,rfl⟩,.inl ⟨_,rfl,hJs⟩⟩
  | succ m =>
    obtain ⟨p,hp⟩:∃ p,xs[m]? = some p:=⟨_,List.getElem?_eq_getElem (by omega)⟩
    obtain ⟨hA,c0⟩:=hc m p hp
    have d0:=(hnx.cell2 (po+m)).trans c0
    have hst:=cameI_step xs m p hp
    obtain ⟨fn,tmps,assign,body,hy,hR⟩:=hY _ (m,p) wr hJs (by rw [cameI_len];omega)
    rw [← hst] at hR
    dsimp only at hy
    have hm1:((m+1:Nat):Int) - 1=(m:Int):=by omega
    rw [hm1]
    have hmL:(m:Int)<(L:Int):=by omega
    have hm0:(0:Int)≤(m:Int):=by omega
    clear hm1 c0 hc hJs hst
    subst hA
    gi_wp2
    refine hR.mono ?_
    rintro e W3 (⟨rfl,hJ3,hk3⟩ | ⟨rfl,hJx3⟩)
    · gi_wp2
      go_roundw
      case rel=>exact ⟨m,by omega,by simp,hJ3,hnx.trans hk3⟩
      case measure=>simp [intOf]
    · gi_wp2
      refine bodyPost_ret (results_none rfl _ _ _) rfl ?_
      exact ⟨⟨_,rfl⟩,.inr ⟨_,trivial,hJx3⟩⟩
theorem backwardI_in (F:Fence) (n:Nat) (h5:F.fn 196) (hro:F.round=none) (a:Option Addr) (len cap:Nat) (w:World) :
 CallsIn F n Tryz.prog 196 #[.slice a len cap] w fun e w'=>e = .returned (.func (.func 223) #[] #[.pointer (some ⟨w.heap.size,0,none⟩)])∧w.alloc (.cells #[.slice a len cap] 46)=w':=by
 refine callsIn_of_wp Tryz.func196 rfl h5 ?_ hro
 simp only [Tryz.ntmps196,List.size_toArray,List.length_cons,List.length_nil,Nat.reduceAdd,Nat.reduceSub,Array.replicate_succ,Array.replicate_zero,List.push_toArray,List.append_toArray,List.nil_append,List.cons_append]
 gi_wp2
 go_ret
 exact ⟨rfl,rfl⟩
theorem backI_stops (F:Fence) (n:Nat) (h7:F.fn 223) (hro:F.round=none) (hn:1≤n) (Bs b po cap:Nat) (A:Option Addr) (xs:List Int) (hlen:xs.length≤1000000000) (w:World) (hB:Bs<w.heap.size) (hb:b<w.heap.size)
 (hBs:w.cell? ⟨Bs,0,none⟩=some (.slice A xs.length cap)) (hc:∀ m p,xs[m]? = some p→A=some ⟨b,po,none⟩∧w.cell? ⟨b,po+m,none⟩=some (.int .i64 p)) :
 SeqStopsK F n Tryz.prog 223 #[.pointer (some ⟨Bs,0,none⟩)] (fun x:Nat × Int=>#[Value.int .i64 (x.1:Int),.int .i64 x.2]) (Twos Bs b) (fun ys=>ys=cameI xs 0) (fun _=>True) xs.length w:=fun l J Jx W hW _ _ hY h0 =>
 backI1_in F n h7 hro hn l Bs b po cap A xs hlen J Jx hY W ((hW.cell hB).trans hBs) (fun m p hp=>⟨(hc m p hp).1,(hW.cell (p:=⟨b,po+m,none⟩) hb).trans (hc m p hp).2⟩) h0
end Go.Proofs.YtdnooocmlhcpkaaGreatDoor
namespace Go.Proofs.YtdnooocmlhcpkaaGreatDoor
open Go.RowKit Go.Shelf
attribute [local go_sem] Oper.semAt_some
theorem WQ.stay {A B:World} {b:Nat} {nv:Value} {st:List Pt} {txt:List Int} (h:WQ A b nv st txt) {row:Option Nat} (hg:A.grownBy B row) (hr:∀ r,row=some r→∃ o:Obj,A.heap[r]? = some o∧o.isCells=false):WQ B b nv st txt:=by
 obtain ⟨wv,h1,h2⟩:=h
 exact ⟨wv,WS.stay h1 hg hr,ownStay h2 hg hr⟩
theorem Fq.keeps {W W':World} {b B:Nat} (h:Fq W W' b) (hB:b<B):KeepsFrom B W W':=⟨h.size,fun k o hk ho hc=>by
 rw [h.block k (Array.getElem?_eq_some_iff.1 ho).1 (by omega) (.inr fun cur fr=>⟨fun e=>by (rw [ho] at e;cases e;cases hc),fun e=>by (rw [ho] at e;cases e;cases hc)⟩)]
 exact ho⟩
theorem Fq.boxed {W W':World} {b k:Nat} {t:TypeId} {v:Value} (h:Fq W W' b) (hb:Boxed W k t v) (hk:k≠b) (h1:t≠5) (h2:t≠139):W'.heap[k]? = W.heap[k]? := by
 have hb':W.heap[k]? = some (.cells #[v] t):=hb
 exact h.block k (Array.getElem?_eq_some_iff.1 hb').1 hk (.inr fun cur fr=>⟨fun e=>by rw [hb'] at e;injection e with e;injection e with _ e;exact h1 e,fun e=>by rw [hb'] at e;injection e with e;injection e with _ e;exact h2 e⟩)
def CallI (w:World) (b:Nat) (nv:Value) (st:List Pt) (txt:List Int) (z zs:Nat) (sv:Value) (pre:List (Nat × Int)) (W:World):Prop :=
 WQ W b nv (st++kidsP pre) txt∧Boxed W z 130 (.pointer (some ⟨b,0,none⟩))∧Boxed W zs 46 sv∧Fq w W b
theorem callI_own {w:World} {b:Nat} {nv:Value} {st:List Pt} {txt:List Int} {z zs:Nat} {sv:Value} {B:Nat} (hB:w.heap.size≤B):OwnFrom B (CallI w b nv st txt z zs sv):=by
 rintro pre X Y row ⟨h1,h2,h3,h4⟩ hg hr
 have hr2:∀ r,row=some r→∃ o:Obj,X.heap[r]? = some o∧o.isCells=false:=fun r e=>(hr r e).2
 exact ⟨h1.stay hg hr2,cells_stay hg hr2 h2,cells_stay hg hr2 h3,h4.stay hg (fun r e=>Nat.le_trans hB (hr r e).1)⟩
set_option maxRecDepth 100000 in
set_option maxHeartbeats 8000000 in
theorem call_node (w:World) (b:Nat) (nv:Value) (st:List Pt) (txt:List Int) (n:Nd) (A:Option Addr) (m c:Nat) (h:WQ w b nv st txt) (hk:n.kind=7) (hz:n.text.size≤1000000) (hsi:SI w b (.slice A m c) n.kids) (hl:txt.length≤1000000000) (hls:st.length+2*n.kids.length+1≤2000000000) :
 Calls Tryz.prog 167 #[.pointer (some ⟨b,0,none⟩),.agg #[.int .i64 n.kind,.int .i64 n.num,.string n.text,.string n.ref.sh,.int .i64 n.ref.c,.int .i64 n.ref.r,.bool n.ref.ac,.bool n.ref.ar,.string n.«to».sh,.int .i64 n.«to».c,.int .i64 n.«to».r,.bool n.«to».ac,.bool n.«to».ar,.slice A m c]] w (Wrote w b nv st txt n):=by
 have hs:stepN n=(sb n.text++[40],argP n.kids++[Pt.plain ⟨#[41]⟩]):=by
  unfold stepN;rw [if_neg (by omega),if_neg (by omega),if_neg (by omega),if_neg (by omega),if_neg (by omega),if_neg (by omega),if_pos hk]
 have hbw:b<w.heap.size:=by obtain ⟨wv,h1, -⟩:=h;exact h1.lt
 have f1:¬ 9223372036854775807<n.text.size+(⟨#[40]⟩:ByteArray).size:=by show ¬ _<_+1;omega
 have f2:¬ 9223372036854775807<n.text.size+1:=by omega
 have f3:(n.text++(⟨#[40]⟩:ByteArray)).size=n.text.size+1:=by rw [ByteArray.size_append];rfl
 have HT:=Lib.hid (show sb (n.text++(⟨#[40]⟩:ByteArray))=sb n.text++[40] by rw [sb_append];rfl)
 have hB:Below w.heap.size w ((w.alloc (.cells #[(.pointer (some ⟨b,0,none⟩))] 130)).alloc (.cells #[.int .i64 n.kind,.int .i64 n.num,.string n.text,.string n.ref.sh,.int .i64 n.ref.c,.int .i64 n.ref.r,.bool n.ref.ac,.bool n.ref.ar,.string n.«to».sh,.int .i64 n.«to».c,.int .i64 n.«to».r,.bool n.«to».ac,.bool n.«to».ar,.slice A m c] 48)):=((Below.refl _ w).alloc (Nat.le_refl _) _).alloc (by simp) _
 have bW:Boxed ((w.alloc (.cells #[(.pointer (some ⟨b,0,none⟩))] 130)).alloc (.cells #[.int .i64 n.kind,.int .i64 n.num,.string n.text,.string n.ref.sh,.int .i64 n.ref.c,.int .i64 n.ref.r,.bool n.ref.ac,.bool n.ref.ar,.string n.«to».sh,.int .i64 n.«to».c,.int .i64 n.«to».r,.bool n.«to».ac,.bool n.«to».ar,.slice A m c] 48)) w.heap.size 130 (.pointer (some ⟨b,0,none⟩)):=(Boxed.new w 130 (.pointer (some ⟨b,0,none⟩))).alloc _
 have HN:NdAt ((w.alloc (.cells #[(.pointer (some ⟨b,0,none⟩))] 130)).alloc (.cells #[.int .i64 n.kind,.int .i64 n.num,.string n.text,.string n.ref.sh,.int .i64 n.ref.c,.int .i64 n.ref.r,.bool n.ref.ac,.bool n.ref.ar,.string n.«to».sh,.int .i64 n.«to».c,.int .i64 n.«to».r,.bool n.«to».ac,.bool n.«to».ar,.slice A m c] 48)) (w.heap.size+1) n (.slice A m c):=by
  have h:=NdAt.new (w.alloc (.cells #[(.pointer (some ⟨b,0,none⟩))] 130)) n (.slice A m c)
  rwa [World.size_alloc] at h
 have HS:=Lib.hid hs
 have HB:=Lib.hid hB
 have HQ:=Lib.hid (h.below hB)
 have HSI:=Lib.hid (hsi.below hB (Nat.le_of_lt hbw))
 have hsz:((w.alloc (.cells #[(.pointer (some ⟨b,0,none⟩))] 130)).alloc (.cells #[.int .i64 n.kind,.int .i64 n.num,.string n.text,.string n.ref.sh,.int .i64 n.ref.c,.int .i64 n.ref.r,.bool n.ref.ac,.bool n.ref.ar,.string n.«to».sh,.int .i64 n.«to».c,.int .i64 n.«to».r,.bool n.«to».ac,.bool n.«to».ar,.slice A m c] 48)).heap.size=w.heap.size+2:=by simp
 clear h hs hk hsi hB
 refine (callsIn_wide (n:=6)).1 ?_
 refine callsIn_of_wp_marks Tryz.func167 rfl trivial ?_ rfl
 simp only [Tryz.ntmps167,List.size_toArray,List.length_cons,List.length_nil,Nat.reduceAdd,Nat.reduceSub,Array.replicate_succ,Array.replicate_zero,List.push_toArray,List.append_toArray,List.nil_append,List.cons_append]
 gi_wp2
 obtain ⟨w1,hw1⟩:∃ w1,((w.alloc (.cells #[(.pointer (some ⟨b,0,none⟩))] 130)).alloc (.cells #[.int .i64 n.kind,.int .i64 n.num,.string n.text,.string n.ref.sh,.int .i64 n.ref.c,.int .i64 n.ref.r,.bool n.ref.ac,.bool n.ref.ar,.string n.«to».sh,.int .i64 n.«to».c,.int .i64 n.«to».r,.bool n.«to».ac,.bool n.«to».ar,.slice A m c] 48))=w1:=⟨_,rfl⟩
 rw [hw1] at HN HB HQ HSI bW hsz ⊢
 obtain ⟨z,hzz⟩:∃ z,w.heap.size=z:=⟨_,rfl⟩
 rw [hzz] at HN bW hsz ⊢
 have hzl:z<w1.heap.size:=by omega
 have hzl1:z+1<w1.heap.size:=HN.lt
 have hzb:z≠b:=by omega
 have hzb1:z+1≠b:=by omega
 have HN2:=Lib.hid HN
 have HBW:=Lib.hid bW
 have x0:=bW.cell
 obtain ⟨-, -,x2, -, -, -, -, -, -, -, -, -, -,x13⟩:=HN.cells
 have HW:=Lib.hid (fun wr (hr:Below w1.heap.size w1 wr) wv (h1:WS w1 b nv wv txt)=>write_any wr b nv wv txt (n.text++(⟨#[40]⟩:ByteArray)) (h1.below hr) (by rw [f3];omega))
 have H1:=Lib.hid ((Below.refl w1.heap.size w1).drew)
 clear hw1 HN bW f3
 obtain ⟨wv,hws,hown⟩:=HQ.out
 have HWS:=Lib.hid hws
 have HO:=Lib.hid hown
 clear hws hown
 refine wpIn_wide.2 ?_
 go_region_held3 (fun w'=>w'.cell? ⟨z,0,none⟩=some (.pointer (some ⟨b,0,none⟩))∧w'.cell? ⟨z+1,2,none⟩=some (.string n.text)) (go_keep) (first
  | (go_at_call 129;((with_reducible refine (HW.out _ H1.out wv HWS.out).mono ?_);rintro e w2 ⟨⟨x,rfl⟩,h3,h4⟩;have HWS2:=Lib.hid h3;have HF2:=Lib.hid h4;have hzk:=HF2.out.block z hzl hzb (.inr fun cur fr e=>by
      have h6:w1.heap[z]? = some (.cells #[.pointer (some ⟨b,0,none⟩)] 130):=HBW.out
      have h7:w1.drew.heap[z]? = w1.heap[z]? := rfl
      rw [h7,h6] at e;injection e with e;injection e with _ e2;exact absurd e2 (by decide));have hzk1:=HF2.out.block (z+1) hzl1 hzb1 (.inr fun cur fr e=>by
      have h6:w1.heap[z+1]? = some (.cells (nodA n (.slice A m c)) 48):=HN2.out
      have h7:w1.drew.heap[z+1]? = w1.heap[z+1]? := rfl
      rw [h7,h6] at e;injection e with e;injection e with _ e2;exact absurd e2 (by decide));have p0:=(World.cell?_of_block (a:=⟨z,0,none⟩) hzk).trans x0;have p2:=(World.cell?_of_block (a:=⟨z+1,2,none⟩) hzk1).trans x2;have p13:=(World.cell?_of_block (a:=⟨z+1,13,none⟩) hzk1).trans x13;clear h3 h4)))
 gi_wp2
 have hbw2:w1.heap.size≤w2.heap.size:=HF2.out.size
 have HWQ2:=Lib.hid (show WQ w2 b nv st (txt++sb (n.text++(⟨#[40]⟩:ByteArray))) from WQ.wrote (HO.out.below H1.out (Nat.le_refl _)) HWS2.out HF2.out)
 have HPU:=Lib.hid (fun (w3:World) (h3:Below w2.heap.size w2 w3)=>push_lit w3 b nv st [Pt.plain ⟨#[41]⟩] (txt++sb (n.text++(⟨#[40]⟩:ByteArray))) #[.string ⟨#[41]⟩,.int .i64 0,.int .i64 0] 1 rfl rfl (HWQ2.out.below h3) (by show 1≤1000000;decide) (by omega))
 have HZ2:=Lib.hid hzk
 have HZ21:=Lib.hid hzk1
 have H2:=Lib.hid ((Below.refl w2.heap.size w2).drew)
 have hzl2:z<w2.heap.size:=by omega
 have hzl21:z+1<w2.heap.size:=by omega
 clear x0 x2 x13 hzk hzk1 p2
 refine wpIn_wide.2 ?_
 go_region_held3 (fun w'=>w'.cell? ⟨z,0,none⟩=some (.pointer (some ⟨b,0,none⟩))) (go_keep) (first
  | (go_at_call 131;((with_reducible refine (plain_lit _ _).mono ?_);rintro e w3 ⟨rfl,h3⟩;have H3:=Lib.hid (H2.out.trans (h3.mono H2.out.size));have q0:=(H3.out.cell (p:=⟨z,0,none⟩) hzl2).trans p0;clear h3))
  | (go_at_call 88;((with_reducible refine (HPU.out _ H3.out).mono ?_);rintro e w5 ⟨rfl,h3,h4⟩;have HQ5:=Lib.hid h3;have HF5:=Lib.hid h4;have hzk:=Fq.boxed HF5.out (k:=z) (v := .pointer (some ⟨b,0,none⟩)) (t:=130) ((H3.out.block z hzl2).trans (HZ2.out.trans HBW.out)) hzb (by decide) (by decide);have r0:=(World.cell?_of_block (a:=⟨z,0,none⟩) hzk).trans q0;clear h3 h4)))
 have hlt3:w2.heap.size≤w3.heap.size:=H3.out.size
 have N5:NdAt w5 (z+1) n (.slice A m c):=by
  unfold NdAt
  have e1:w3.heap[z+1]? = some (.cells (nodA n (.slice A m c)) 48):=(H3.out.block (z+1) hzl21).trans (HZ21.out.trans HN2.out)
  rw [HF5.out.block (z+1) (by omega) hzb1 (.inr fun cur fr=>⟨fun e=>by (rw [e1] at e;injection e with e;injection e with _ e2;exact absurd e2 (by decide)),fun e=>by (rw [e1] at e;injection e with e;injection e with _ e2;exact absurd e2 (by decide))⟩)]
  exact e1
 obtain ⟨-, -, -, -, -, -, -, -, -, -, -, -, -,x13⟩:=N5.cells
 have HF15:=Lib.hid (((Fq.ofBelow H1.out).trans (Fq.ofB HF2.out)).trans ((Fq.ofBelow H3.out).trans HF5.out))
 have HB5:Boxed w5 z 130 (.pointer (some ⟨b,0,none⟩)):=hzk.trans ((H3.out.block z hzl2).trans (HZ2.out.trans HBW.out))
 have hlt5:w3.heap.size≤w5.heap.size:=HF5.out.size
 have hbw1:b<w1.heap.size:=by omega
 have SI5:=HSI.out.fq HF15.out (Nat.le_refl _) hbw1
 clear N5 hzk q0 r0 p0
 gi_wp2_with (refine ⟨trivial, ?_⟩;gi_at_call 196;refine (backwardI_in Fence.wide _ trivial rfl _ _ _ _).mono ?_;rintro e w' ⟨rfl,rfl⟩)
 have bS:=Boxed.new w5 46 (.slice A m c)
 have hB6:Below w5.heap.size w5 (w5.alloc (.cells #[.slice A m c] 46)):=(Below.refl _ _).alloc (Nat.le_refl _) _
 have bW6:=HB5.alloc (.cells #[.slice A m c] 46)
 have hsz6:(w5.alloc (.cells #[.slice A m c] 46)).heap.size=w5.heap.size+1:=by simp
 obtain ⟨zs,hzs⟩:∃ zs,w5.heap.size=zs:=⟨_,rfl⟩
 obtain ⟨w6,hw6⟩:∃ w6,w5.alloc (.cells #[.slice A m c] 46)=w6:=⟨_,rfl⟩
 rw [hw6] at bS hB6 bW6 hsz6 ⊢
 rw [hzs] at bS hsz6 ⊢
 have hzsb:zs≠b:=by omega
 have hzz6:z≠zs:=by omega
 obtain ⟨A',cap',hsl,hcm, -,hcell⟩:=SI5
 injection hsl with e1 e2 e3
 subst e1 e2 e3
 obtain ⟨pb,po,hpb,hpbb,hcl⟩:∃ pb po,pb<w6.heap.size∧(pb<b∨pb=zs)∧∀ j y,n.kids[j]? = some y→A=some ⟨pb,po,none⟩∧w6.cell? ⟨pb,po+j,none⟩=some (.int .i64 y):=by
  rcases hcell with he | ⟨pb,po,hA,hp,hc⟩
  · exact ⟨zs,0,by omega,.inr rfl,fun j y hj=>by rw [he] at hj;cases hj⟩
  · exact ⟨pb,po,by omega,.inl hp,fun j y hj=>⟨hA,(hB6.cell (p:=⟨pb,po+j,none⟩) (by show pb<_;omega)).trans (hc j y hj)⟩⟩
 have HQ6:WQ w6 b nv (st++[Pt.plain ⟨#[41]⟩]) (txt++sb (n.text++(⟨#[40]⟩:ByteArray))):=HQ5.out.below hB6
 have HF06:=Lib.hid ((Fq.ofBelow HB.out).trans (HF15.out.trans (Fq.ofBelow hB6)))
 have hzs2:z+2≤zs:=by omega
 clear hcell hw6 hzs x13 HB5
 refine wpIn_rangeFunc_ownH (F:=Fence.wide) (n:=6) rfl (by omega) (gf:=223) (lb:=#[.pointer (some ⟨zs,0,none⟩)]) rfl trivial (enters_of Tryz.func223 (by kernel_rfl) rfl)
  (backI_stops Fence.wide 5 trivial rfl (by omega) zs pb po c A n.kids (by omega) w6 bS.lt hpb bS.cell hcl)
  Twos.trans (twosK_b bS.lt hpb) (Below.refl _ _) (fun _=>rfl)
  (CallI w6 b nv (st++[Pt.plain ⟨#[41]⟩]) (txt++sb (n.text++(⟨#[40]⟩:ByteArray))) z zs (.slice A n.kids.length c)) (fun _ _ _=>False)
  (callI_own (Nat.le_refl _)) (fun _ _ _ _ _ hs _ _=>hs) ⟨by rw [show kidsP []=[] from rfl,List.append_nil];exact HQ6,bW6,bS,Fq.refl _ _⟩
  (fun y a' W=>a'={ tmps:=#[.pointer (some ⟨b,0,none⟩),.agg #[.int .i64 n.kind,.int .i64 n.num,.string n.text,.string n.ref.sh,.int .i64 n.ref.c,.int .i64 n.ref.r,.bool n.ref.ac,.bool n.ref.ar,.string n.«to».sh,.int .i64 n.«to».c,.int .i64 n.«to».r,.bool n.«to».ac,.bool n.«to».ar,.slice A n.kids.length c],.pointer (some ⟨z,0,none⟩),.pointer (some ⟨z+1,0,none⟩),.int .i64 (y.1:Int),.int .i64 y.2,.pointer (some ⟨b,0,none⟩),.pointer (some ⟨b,0,none⟩),.pointer (some ⟨b,2,none⟩),.pointer (some ⟨z+1,2,none⟩),.string n.text,.string (n.text++⟨#[40]⟩),.tuple #[x,.nilIface],.pointer (some ⟨b,0,none⟩),.agg #[.string ⟨#[41]⟩,.int .i64 0,.int .i64 0],.slice (some ⟨w3.heap.size,0,none⟩) 1 1,.tuple #[],.pointer (some ⟨z+1,13,none⟩),.slice A n.kids.length c,.func (.func 223) #[] #[.pointer (some ⟨zs,0,none⟩)],.int .i64 (y.1:Int),.int .i64 y.2,undef,undef,undef,undef,undef,undef,undef,undef,undef,undef,undef],defers:=[] })
  (fun _ _ _ _ _ _ h _ _=>h) ?assign ?body ?done ?stop
 case assign =>
  rintro l pre ⟨j,k⟩ W K hI hK
  dsimp only
  gi_wp2
  exact hK _ _ (KeepsFrom.refl _ _) (Twos.refl _ _ _) hI rfl
 case body =>
  rintro l pre ⟨j,k⟩ a' W - - ⟨hQ,hbz,hbs,hF⟩ rfl hlen
  have hkl:=kidsP_len pre
  have cBa:=hbz.cell
  have HZa:=Lib.hid hbz
  have hzWa:z<W.heap.size:=hbz.lt
  have HPa:=Lib.hid (fun (wr:World) (hr:Below W.heap.size W wr)=>push_lit wr b nv (st++[Pt.plain ⟨#[41]⟩]++kidsP pre) [Pt.op k 1] (txt++sb (n.text++(⟨#[40]⟩:ByteArray))) #[.string ⟨#[]⟩,.int .i64 k,.int .i64 1] 1 rfl rfl (hQ.below hr) (by show 1≤1000000;decide) (by rw [List.length_append,List.length_append];show st.length+1+_≤_;omega))
  have HS0:(fun w'=>w'.cell? ⟨z,0,none⟩=some (.pointer (some ⟨b,0,none⟩))) W.drew:=cBa
  dsimp only
  gi_wp2
  refine region_in (by kernel_rfl) (by kernel_rfl) (wpAny_of_held (S:=(fun w'=>w'.cell? ⟨z,0,none⟩=some (.pointer (some ⟨b,0,none⟩)))) _ _ _ _ ?_)
  show wpAnyH _ _ _ _ _ 5 #[false,false,false,false,false] _ _
  refine hT 0 HS0 ?_ (hQ:=(fun _ _ _ h=>(by cases h.1))) (hy:=by (intro wS hSw;have e1:wS.cell? ⟨z,0,none⟩=some (.pointer (some ⟨b,0,none⟩)):=hSw;go_simp;try (with_reducible rfl)))
  refine hT 1 HS0 ?_ (hQ:=(fun _ _ _ h=>(by cases h.1)))
  refine hO 2 (fun K hK => ?_)
  go_simp
  refine (op_lit _ _ _).mono ?_
  rintro e wAa ⟨rfl,h3⟩
  have HAa:=Lib.hid ((Below.refl W.heap.size W).drew.trans (h3.mono (Nat.le_refl _)))
  have HSAa:(fun w'=>w'.cell? ⟨z,0,none⟩=some (.pointer (some ⟨b,0,none⟩))) wAa:=(HAa.out.cell (p:=⟨z,0,none⟩) hzWa).trans cBa
  clear h3
  go_wp2_with fail
  refine hK.out _ _ HSAa ?_
  clear hK K
  simp only [Act.put,sT,sZ,sS]
  refine hO 3 (fun K hK => ?_)
  go_simp
  refine hK.out _ _ ((((Below.refl wAa.heap.size wAa).alloc (Nat.le_refl _) _).cell (p:=⟨z,0,none⟩) (Nat.lt_of_lt_of_le hzWa HAa.out.size)).trans HSAa) ?_
  clear hK K
  simp only [Act.put,sT,sZ,sS]
  refine hO 4 (fun K hK => ?_)
  go_simp
  refine (HPa.out _ HAa.out).mono ?_
  rintro e wBa ⟨rfl,h3,h4⟩
  have HQBa:=Lib.hid h3
  have HFBa:=Lib.hid ((Fq.ofBelow HAa.out).trans h4)
  have HZBa:=Lib.hid (Fq.boxed HFBa.out HZa.out hzb (by decide) (by decide))
  have HSBa:(fun w'=>w'.cell? ⟨z,0,none⟩=some (.pointer (some ⟨b,0,none⟩))) wBa:=(World.cell?_of_block (a:=⟨z,0,none⟩) HZBa.out).trans cBa
  clear h3 h4
  go_wp2_with fail
  refine hK.out _ _ HSBa ?_
  clear hK K
  simp only [Act.put,sT,sZ,sS]
  refine wpAnyH_done (by kernel_rfl) ?_ _
  refine ⟨rfl, ?_⟩
  have hkwA:w6.heap.size≤W.heap.size:=hF.size
  have TW:∀ {W1 W2:World},Fq W1 W2 b→Boxed W1 zs 46 (.slice A n.kids.length c)→pb<W1.heap.size→Twos zs pb W1 W2:=fun h1 h2 h3=>⟨h1.boxed h2 hzsb (by decide) (by decide),by
   rcases hpbb with h | rfl
   · exact h1.block pb h3 (by omega) (.inl h)
   · exact h1.boxed h2 hzsb (by decide) (by decide)⟩
  cases j with
  | zero =>
    gi_wp2
    refine ⟨HFBa.out.keeps (by omega),TW HFBa.out hbs (by omega), ?_,HZBa.out.trans hbz,(HFBa.out.boxed hbs hzsb (by decide) (by decide)).trans hbs,hF.trans HFBa.out⟩
    rw [kidsP_snoc, ← List.append_assoc]
    exact HQBa.out
  | succ j =>
    have hj0:(0:Int)<((j+1:Nat):Int):=by omega
    have cBb:=HSBa
    have HZb:=Lib.hid (show Boxed wBa z 130 (.pointer (some ⟨b,0,none⟩)) from HZBa.out.trans hbz)
    have hzWb:z<wBa.heap.size:=HZb.out.lt
    have HPb:=Lib.hid (fun (wr:World) (hr:Below wBa.heap.size wBa wr)=>push_lit wr b nv (st++[Pt.plain ⟨#[41]⟩]++kidsP pre++[Pt.op k 1].reverse) [Pt.plain ⟨#[44]⟩] (txt++sb (n.text++(⟨#[40]⟩:ByteArray))) #[.string ⟨#[44]⟩,.int .i64 0,.int .i64 0] 1 rfl rfl (HQBa.out.below hr) (by show 1≤1000000;decide) (by rw [List.length_append,List.length_append,List.length_append];show st.length+1+_+1≤_;omega))
    have HS0:(fun w'=>w'.cell? ⟨z,0,none⟩=some (.pointer (some ⟨b,0,none⟩))) wBa.drew:=HSBa
    gi_wp2
    refine region_in (by kernel_rfl) (by kernel_rfl) (wpAny_of_held (S:=(fun w'=>w'.cell? ⟨z,0,none⟩=some (.pointer (some ⟨b,0,none⟩)))) _ _ _ _ ?_)
    show wpAnyH _ _ _ _ _ 4 #[false,false,false,false] _ _
    refine hT 0 HS0 ?_ (hQ:=(fun _ _ _ h=>(by cases h.1))) (hy:=by (intro wS hSw;have e1:wS.cell? ⟨z,0,none⟩=some (.pointer (some ⟨b,0,none⟩)):=hSw;go_simp;try (with_reducible rfl)))
    refine hO 1 (fun K hK => ?_)
    go_simp
    refine (plain_lit _ _).mono ?_
    rintro e wAb ⟨rfl,h3⟩
    have HAb:=Lib.hid ((Below.refl wBa.heap.size wBa).drew.trans (h3.mono (Nat.le_refl _)))
    have HSAb:(fun w'=>w'.cell? ⟨z,0,none⟩=some (.pointer (some ⟨b,0,none⟩))) wAb:=(HAb.out.cell (p:=⟨z,0,none⟩) hzWb).trans cBb
    clear h3
    go_wp2_with fail
    refine hK.out _ _ HSAb ?_
    clear hK K
    simp only [Act.put,sT,sZ,sS]
    refine hO 2 (fun K hK => ?_)
    go_simp
    refine hK.out _ _ ((((Below.refl wAb.heap.size wAb).alloc (Nat.le_refl _) _).cell (p:=⟨z,0,none⟩) (Nat.lt_of_lt_of_le hzWb HAb.out.size)).trans HSAb) ?_
    clear hK K
    simp only [Act.put,sT,sZ,sS]
    refine hO 3 (fun K hK => ?_)
    go_simp
    refine (HPb.out _ HAb.out).mono ?_
    rintro e wBb ⟨rfl,h3,h4⟩
    have HQBb:=Lib.hid h3
    have HFBb:=Lib.hid ((Fq.ofBelow HAb.out).trans h4)
    have HZBb:=Lib.hid (Fq.boxed HFBb.out HZb.out hzb (by decide) (by decide))
    have HSBb:(fun w'=>w'.cell? ⟨z,0,none⟩=some (.pointer (some ⟨b,0,none⟩))) wBb:=(World.cell?_of_block (a:=⟨z,0,none⟩) HZBb.out).trans cBb
    clear h3 h4
    go_wp2_with fail
    refine hK.out _ _ HSBb ?_
    clear hK K
    simp only [Act.put,sT,sZ,sS]
    refine wpAnyH_done (by kernel_rfl) ?_ _
    refine ⟨rfl, ?_⟩
    gi_wp2
    have HFab:=Lib.hid (HFBa.out.trans HFBb.out)
    refine ⟨HFab.out.keeps (by omega),TW HFab.out hbs (by omega), ?_,HZBb.out.trans (HZBa.out.trans hbz),(HFab.out.boxed hbs hzsb (by decide) (by decide)).trans hbs,hF.trans HFab.out⟩
    rw [kidsP_snoc]
    have h:=HQBb.out
    rw [List.append_assoc (st++[Pt.plain ⟨#[41]⟩]++kidsP pre),List.append_assoc (st++[Pt.plain ⟨#[41]⟩])] at h
    exact h
 case done =>
  rintro D ys W hD rfl ⟨hQ,hbz,hbs,hF⟩ hK
  gi_wp2
  have hg:=grownBy_putObj' W D (.deferred none)
  have hr:∀ r,some D=some r→∃ o:Obj,W.heap[r]? = some o∧o.isCells=false:=fun r e=>by cases e;exact ⟨_,hK,rfl⟩
  refine ⟨by simp,.inl ⟨_,_,rfl,run_takeDeferred hK, ?_⟩⟩
  refine ⟨_,results_none rfl _ _ _,rfl, ?_,(HF06.out.trans hF).stay hg (fun r e=>by cases e;have:=HF06.out.size;omega)⟩
  rw [HS.out]
  rw [kidsP_all,HT.out] at hQ
  rw [show (argP n.kids++[Pt.plain ⟨#[41]⟩]).reverse=[Pt.plain ⟨#[41]⟩]++(argP n.kids).reverse from by rw [List.reverse_append];rfl, ← List.append_assoc]
  exact hQ.stay hg hr
 case stop =>
  rintro D c pre W _ _ h _
  exact h.elim
end Go.Proofs.YtdnooocmlhcpkaaGreatDoor
namespace Go.Proofs.YtdnooocmlhcpkaaGreatDoor
open Go.RowKit
def Gl (w0 w:World) (b:Nat):Prop:=w0.heap.size≤b∧Below w0.heap.size w0 w∧Tab w0∧MaxV w0∧ShV w0
theorem Gl.fq {w0 w w':World} {b:Nat} (h:Gl w0 w b) (hf:Fq w w' b):Gl w0 w' b:=by
 obtain ⟨h1,h2,h3⟩:=h
 exact ⟨h1,⟨hf.os.trans h2.os,hf.tape.trans h2.tape,hf.output.trans h2.output,Nat.le_trans h2.size hf.size,fun k hk=>(hf.block k (Nat.lt_of_lt_of_le hk h2.size) (by omega) (.inl (by omega))).trans (h2.block k hk)⟩,h3⟩
theorem Gl.tab {w0 w:World} {b:Nat} (h:Gl w0 w b):Tab w:=h.2.2.1.below h.2.1
theorem Gl.maxV {w0 w:World} {b:Nat} (h:Gl w0 w b):MaxV w:=h.2.2.2.1.below h.2.1
theorem Gl.shV {w0 w:World} {b:Nat} (h:Gl w0 w b):ShV w:=h.2.2.2.2.below h.2.1
theorem Gl.max_lt {w0 w:World} {b:Nat} (h:Gl w0 w b):8<b:=by
 obtain ⟨h1, -, -,⟨m,hm⟩, -⟩:=h
 exact Nat.lt_of_lt_of_le (World.block_lt_of_cell? w0 _ hm) h1
theorem Gl.sh_lt {w0 w:World} {b:Nat} (h:Gl w0 w b):0<b:=Nat.lt_of_lt_of_le h.2.2.2.2.lt h.1
theorem leaf_num6 {n:Nd} (h:nodeB n=true) (hk:n.kind=1):0≤n.num:=by
 have h:=(arms_kids h).2.2.2.2.2
 unfold leafB at h
 split at h
 · cases h
 · exact decide_eq_true_iff.1 h
theorem node_any (w0 w:World) (b:Nat) (nv:Value) (st:List Pt) (txt:List Int) (n:Nd) (A:Option Addr) (m c:Nat) (hg:Gl w0 w b) (h:WQ w b nv st txt) (hn:nodeB n=true) (hnum:n.num≤9223372036854775807) (hz:n.text.size≤1000000) (hz1:n.ref.sh.size≤1000000) (hz2:n.«to».sh.size≤1000000) (hsi:SI w b (.slice A m c) n.kids) (hl:txt.length≤1000000000) (hls:st.length+2*n.kids.length+1≤2000000000) :
 Calls Tryz.prog (methS n.kind) #[.pointer (some ⟨b,0,none⟩),.agg #[.int .i64 n.kind,.int .i64 n.num,.string n.text,.string n.ref.sh,.int .i64 n.ref.c,.int .i64 n.ref.r,.bool n.ref.ac,.bool n.ref.ar,.string n.«to».sh,.int .i64 n.«to».c,.int .i64 n.«to».r,.bool n.«to».ac,.bool n.«to».ar,.slice A m c]] w (Wrote w b nv st txt n):=by
 obtain ⟨a1,a2, -,b1,b2, -⟩:=arms_kids hn
 have hst:st.length≤2000000000:=by omega
 by_cases hk:n.kind=1
 · rw [show methS n.kind=161 from by rw [hk];rfl]
   exact number_node w b nv st txt n A m c h hk n.num.toNat (by have:=leaf_num6 hn hk;omega) (by omega) hg.tab hl
 have h1:=hk
 clear hk
 by_cases hk:n.kind=2
 · rw [show methS n.kind=162 from by rw [hk];rfl]
   exact quoted_node w b nv st txt n A m c h hk hz hg.maxV hg.max_lt hl
 have h2:=hk
 clear hk
 by_cases hk:n.kind=3
 · rw [show methS n.kind=163 from by rw [hk];rfl]
   by_cases hv:n.num=1
   · exact truth_yes w b nv st txt n A m c h hk hv hl
   · exact truth_no w b nv st txt n A m c h hk hv hl
 have h3:=hk
 clear hk
 by_cases hk:n.kind=4
 · rw [show methS n.kind=164 from by rw [hk];rfl]
   exact dead_node w b nv st txt n A m c h hk hl
 have h4:=hk
 clear hk
 by_cases hk:n.kind=5
 · rw [show methS n.kind=165 from by rw [hk];rfl]
   exact place_node w b nv st txt n A m c h hk hz1 hg.tab hl
 have h5:=hk
 clear hk
 by_cases hk:n.kind=6
 · rw [show methS n.kind=166 from by rw [hk];rfl]
   exact places_node w b nv st txt n A m c h hk hz1 hz2 hg.tab hl
 have h6:=hk
 clear hk
 by_cases hk:n.kind=7
 · rw [show methS n.kind=167 from by rw [hk];rfl]
   exact call_node w b nv st txt n A m c h hk hz hsi hl hls
 have h7:=hk
 clear hk
 by_cases hk:n.kind=8
 · rw [show methS n.kind=168 from by rw [hk];rfl]
   have hl1:=a1 hk
   exact negative_node w b nv st txt n A m c h hk _ (List.getElem?_eq_getElem (by omega:0<n.kids.length)) hsi hl hst
 have h8:=hk
 clear hk
 have hl2:=a2 (by omega)
 rw [show methS n.kind=169 from by unfold methS;rw [if_neg h1,if_neg h2,if_neg h3,if_neg h4,if_neg h5,if_neg h6,if_neg h7,if_neg h8]]
 exact between_node w b nv st txt n A m c h n.kind.toNat (by omega) (by omega) (by omega) _ _ (List.getElem?_eq_getElem (by omega:0<n.kids.length)) (List.getElem?_eq_getElem (by omega:1<n.kids.length)) hsi hg.shV hg.sh_lt hst
theorem ne_empty (s:ByteArray) (h:¬ s=⟨#[]⟩):s.toList.isEmpty=false:=by
 cases hq:s.toList with
 | nil=>exact absurd hq (text_ne0 s (fun e=>h (sb_nil s e)))
 | cons a l=>rfl
set_option maxRecDepth 100000 in
set_option maxHeartbeats 4000000 in
theorem write_text (w:World) (b:Nat) (nv:Value) (st:List Pt) (txt:List Int) (p:Pt) (h:WQ w b nv st txt) (hp:¬ p.t=⟨#[]⟩) (hz:txt.length+p.t.size≤1000000000) :
 Calls Tryz.prog 90 #[.pointer (some ⟨b,0,none⟩),.agg #[.string p.t,.int .i64 p.node,.int .i64 p.least]] w fun e w'=>e = .returned (.tuple #[])∧WQ w' b nv st (txt++sb p.t)∧Fq w w' b:=by
 have hB:Below w.heap.size w (w.alloc (.cells #[.string p.t,.int .i64 p.node,.int .i64 p.least] 139)):=(Below.refl _ _).alloc (Nat.le_refl _) _
 have HP:PtAt (w.alloc (.cells #[.string p.t,.int .i64 p.node,.int .i64 p.least] 139)) w.heap.size p:=PtAt.new w p
 have hbw:b<w.heap.size:=by obtain ⟨wv,h1, -⟩:=h;exact h1.lt
 have hne:=ne_empty p.t hp
 have HB:=Lib.hid hB
 have HQ:=Lib.hid (h.below hB)
 clear h hp hB
 go_enter Tryz.func90,Tryz.ntmps90
 go_upto_region 1 with (fail)
 obtain ⟨z,hzz⟩:∃ z,w.heap.size=z:=⟨_,rfl⟩
 obtain ⟨w1,hw1⟩:∃ w1,w.alloc (.cells #[.string p.t,.int .i64 p.node,.int .i64 p.least] 139)=w1:=⟨_,rfl⟩
 rw [hw1] at HP HB HQ ⊢
 rw [hzz] at HP ⊢
 have hzl:z<w1.heap.size:=(Array.getElem?_eq_some_iff.1 HP).1
 have hzb:z≠b:=by omega
 obtain ⟨x0,x1,x2⟩:=HP.cells
 have HP1:=Lib.hid HP
 clear hzz hw1 HP
 go_upto_region 2 with (fail)
 obtain ⟨wv,hws,hown⟩:=HQ.out
 have HW:=Lib.hid (write_any w1.drew b nv wv txt p.t (hws.below ((Below.refl w1.heap.size w1).drew)) (by omega))
 have HO:=Lib.hid hown
 have H1:=Lib.hid ((Below.refl w1.heap.size w1).drew)
 clear hws hown
 go_region_held3 (fun w'=>w'.cell? ⟨z,0,none⟩=some (.string p.t)) (first | go_keep | exact S0) (first
  | (go_at_call 129;((with_reducible refine HW.out.mono ?_);rintro e w2 ⟨⟨x,rfl⟩,h3,h4⟩;have HWS2:=Lib.hid h3;have HF2:=Lib.hid h4;have S0:=(World.cell?_of_block (a:=⟨z,0,none⟩) (HF2.out.block z hzl hzb (.inr fun cur fr e=>by
      have h6:w1.heap[z]? = some (.cells (ptA p) 139):=HP1.out
      have h7:w1.drew.heap[z]? = w1.heap[z]? := rfl
      rw [h7,h6] at e;injection e with e;injection e with _ e2;exact absurd e2 (by decide)))).trans x0)))
 all_goals go_wp2_with fail
 all_goals refine bodyPost_ret (results_none rfl _ _ _) rfl ?_
 all_goals exact ⟨rfl,WQ.wrote (HO.out.below H1.out (Nat.le_refl _)) HWS2.out HF2.out,(Fq.ofBelow HB.out).trans ((Fq.ofBelow H1.out).trans (Fq.ofB HF2.out))⟩
theorem meth_enters (k:Int):∀ args (v:World),(callFunc (methS k) args).run Tryz.prog v = .ok (.enter (methS k) args) v:=by
 unfold methS
 split
 · exact Go.Proofs.enters_of Tryz.func161 (by kernel_rfl) rfl
 split
 · exact Go.Proofs.enters_of Tryz.func162 (by kernel_rfl) rfl
 split
 · exact Go.Proofs.enters_of Tryz.func163 (by kernel_rfl) rfl
 split
 · exact Go.Proofs.enters_of Tryz.func164 (by kernel_rfl) rfl
 split
 · exact Go.Proofs.enters_of Tryz.func165 (by kernel_rfl) rfl
 split
 · exact Go.Proofs.enters_of Tryz.func166 (by kernel_rfl) rfl
 split
 · exact Go.Proofs.enters_of Tryz.func167 (by kernel_rfl) rfl
 split
 · exact Go.Proofs.enters_of Tryz.func168 (by kernel_rfl) rfl
 exact Go.Proofs.enters_of Tryz.func169 (by kernel_rfl) rfl
set_option maxRecDepth 100000 in
set_option maxHeartbeats 8000000 in
theorem write_bare (w0 w:World) (b:Nat) (nv:Value) (vs:List (Nd × Value)) (st:List Pt) (txt:List Int) (i:Nat) (least:Int) (n:Nd) (k:Value) (hg:Gl w0 w b) (h:WQ w b nv st txt) (hsn:SN w b nv vs) (hz:SZ vs) (hnk:vs[i]? = some (n,k)) (hnb:nodeB n=true) (hnum:n.num≤9223372036854775807) (hr:¬ (rankL n.kind:Int)+1<least) (hl:txt.length+1≤1000000000) (hls:st.length+2*n.kids.length+2≤2000000000) :
 Calls Tryz.prog 90 #[.pointer (some ⟨b,0,none⟩),.agg #[.string ⟨#[]⟩,.int .i64 (i:Int),.int .i64 least]] w fun e w'=>e = .returned (.tuple #[])∧WQ w' b nv (st++(stepN n).2.reverse) (txt++(stepN n).1)∧Fq w w' b:=by
 obtain ⟨⟨A,cap,rfl,hat⟩,hkid⟩:=hsn
 obtain ⟨hlen,hsz⟩:=hz
 have hil:i<vs.length:=(List.getElem?_eq_some_iff.1 hnk).1
 have hmem:=List.mem_of_getElem? hnk
 obtain ⟨hz1,hz2,hz3⟩:=hsz _ hmem
 have hski:SI w b k n.kids:=hkid _ hmem
 obtain ⟨Ak,ck,hk,hkc,hkm,_⟩:=id hski
 obtain ⟨nl,hnl⟩:∃ nl,vs.length=nl:=⟨_,rfl⟩
 obtain ⟨m,hm⟩:∃ m,n.kids.length=m:=⟨_,rfl⟩
 rw [hm] at hk
 subst hk
 rw [hnl] at hlen hil h ⊢
 have hi0:(0:Int)≤(i:Int):=by omega
 have hi1:(i:Int)<(nl:Int):=by omega
 obtain ⟨pb,po,rfl,hpbb,hcells⟩:=hat.resolve_left (fun e=>by rw [e] at hnk;cases hnk)
 have hcell:=hcells i n _ hnk
 have hbw:b<w.heap.size:=by obtain ⟨wv,h1, -⟩:=h;exact h1.lt
 have hB:Below w.heap.size w (w.alloc (.cells #[.string ⟨#[]⟩,.int .i64 (i:Int),.int .i64 least] 139)):=(Below.refl _ _).alloc (Nat.le_refl _) _
 have HP:PtAt (w.alloc (.cells #[.string ⟨#[]⟩,.int .i64 (i:Int),.int .i64 least] 139)) w.heap.size ⟨⟨#[]⟩,(i:Int),least⟩:=PtAt.new w ⟨⟨#[]⟩,(i:Int),least⟩
 have HB:=Lib.hid hB
 have HQ:=Lib.hid (h.below hB)
 have HG:=Lib.hid (hg.fq (Fq.ofBelow hB))
 have HSI:=Lib.hid (hski.below hB (Nat.le_of_lt hbw))
 have hpb:pb<w.heap.size:=by omega
 obtain ⟨rk,hrk⟩:∃ rk:Nat,rankL n.kind=rk:=⟨_,rfl⟩
 have hrank:=rankOf_any n.kind
 rw [hrk] at hrank hr
 have HRK:=Lib.hid hrank
 have hmeth:=methodS_any n.kind
 have hen:=meth_enters n.kind
 obtain ⟨mf,hmf⟩:∃ mf,methS n.kind=mf:=⟨_,rfl⟩
 rw [hmf] at hmeth hen
 have HME:=Lib.hid hmeth
 have HNB:=Lib.hid hnb
 have HZ1:=Lib.hid hz1;have HZ2:=Lib.hid hz2;have HZ3:=Lib.hid hz3
 have HMF:=Lib.hid hmf;have HM:=Lib.hid hm
 clear h hg hB hski hkc hkm hat hkid hsz hcells hmem hnl hnk hlen hrank hmeth hrk hmf hnb hz1 hz2 hz3 hm
 go_enter Tryz.func90,Tryz.ntmps90
 go_upto_region 1 with (fail)
 obtain ⟨z,hzz⟩:∃ z,w.heap.size=z:=⟨_,rfl⟩
 obtain ⟨w1,hw1⟩:∃ w1,w.alloc (.cells #[.string ⟨#[]⟩,.int .i64 (i:Int),.int .i64 least] 139)=w1:=⟨_,rfl⟩
 rw [hw1] at HP HB HQ HG HSI ⊢
 rw [hzz] at HP ⊢
 have k0:w1.cell? ⟨pb,po+i*14,none⟩=some (.int .i64 n.kind):=(HB.out.cell (p:=⟨pb,po+i*14,none⟩) hpb).trans (hcell 0 (by omega))
 have k1:w1.cell? ⟨pb,po+i*14+1,none⟩=some (.int .i64 n.num):=(HB.out.cell (p:=⟨pb,po+i*14+1,none⟩) hpb).trans (hcell 1 (by omega))
 have k2:w1.cell? ⟨pb,po+i*14+2,none⟩=some (.string n.text):=(HB.out.cell (p:=⟨pb,po+i*14+2,none⟩) hpb).trans (hcell 2 (by omega))
 have k3:w1.cell? ⟨pb,po+i*14+3,none⟩=some (.string n.ref.sh):=(HB.out.cell (p:=⟨pb,po+i*14+3,none⟩) hpb).trans (hcell 3 (by omega))
 have k4:w1.cell? ⟨pb,po+i*14+4,none⟩=some (.int .i64 n.ref.c):=(HB.out.cell (p:=⟨pb,po+i*14+4,none⟩) hpb).trans (hcell 4 (by omega))
 have k5:w1.cell? ⟨pb,po+i*14+5,none⟩=some (.int .i64 n.ref.r):=(HB.out.cell (p:=⟨pb,po+i*14+5,none⟩) hpb).trans (hcell 5 (by omega))
 have k6:w1.cell? ⟨pb,po+i*14+6,none⟩=some (.bool n.ref.ac):=(HB.out.cell (p:=⟨pb,po+i*14+6,none⟩) hpb).trans (hcell 6 (by omega))
 have k7:w1.cell? ⟨pb,po+i*14+7,none⟩=some (.bool n.ref.ar):=(HB.out.cell (p:=⟨pb,po+i*14+7,none⟩) hpb).trans (hcell 7 (by omega))
 have k8:w1.cell? ⟨pb,po+i*14+8,none⟩=some (.string n.«to».sh):=(HB.out.cell (p:=⟨pb,po+i*14+8,none⟩) hpb).trans (hcell 8 (by omega))
 have k9:w1.cell? ⟨pb,po+i*14+9,none⟩=some (.int .i64 n.«to».c):=(HB.out.cell (p:=⟨pb,po+i*14+9,none⟩) hpb).trans (hcell 9 (by omega))
 have k10:w1.cell? ⟨pb,po+i*14+10,none⟩=some (.int .i64 n.«to».r):=(HB.out.cell (p:=⟨pb,po+i*14+10,none⟩) hpb).trans (hcell 10 (by omega))
 have k11:w1.cell? ⟨pb,po+i*14+11,none⟩=some (.bool n.«to».ac):=(HB.out.cell (p:=⟨pb,po+i*14+11,none⟩) hpb).trans (hcell 11 (by omega))
 have k12:w1.cell? ⟨pb,po+i*14+12,none⟩=some (.bool n.«to».ar):=(HB.out.cell (p:=⟨pb,po+i*14+12,none⟩) hpb).trans (hcell 12 (by omega))
 have k13:w1.cell? ⟨pb,po+i*14+13,none⟩=some (.slice Ak m ck):=(HB.out.cell (p:=⟨pb,po+i*14+13,none⟩) hpb).trans (hcell 13 (by omega))
 have hzl:z<w1.heap.size:=(Array.getElem?_eq_some_iff.1 HP).1
 have hzb:z≠b:=by omega
 have hbw1:b<w1.heap.size:=by omega
 have hpb1:pb<w1.heap.size:=by omega
 obtain ⟨x0,x1,x2⟩:=HP.cells
 have xb:w1.cell? ⟨b,0,none⟩=some (.slice (some ⟨pb,po,none⟩) nl cap):=by obtain ⟨wv,⟨ad,bv,h1, -⟩, -⟩:=HQ.out;exact h1.facts.1
 have HP1:=Lib.hid HP
 dsimp only at x0 x1 x2
 clear hzz hw1 HP hcell
 go_upto_region 2 with (fail)
 go_upto_region 3 with (fail)
 go_region_held3 (fun w'=>w'.cell? ⟨b,0,none⟩=some (.slice (some ⟨pb,po,none⟩) nl cap)∧w'.cell? ⟨z,1,none⟩=some (.int .i64 (i:Int))∧w'.cell? ⟨pb,po+i*14,none⟩=some (.int .i64 n.kind)∧w'.cell? ⟨pb,po+i*14+1,none⟩=some (.int .i64 n.num)∧w'.cell? ⟨pb,po+i*14+2,none⟩=some (.string n.text)∧w'.cell? ⟨pb,po+i*14+3,none⟩=some (.string n.ref.sh)∧w'.cell? ⟨pb,po+i*14+4,none⟩=some (.int .i64 n.ref.c)∧w'.cell? ⟨pb,po+i*14+5,none⟩=some (.int .i64 n.ref.r)∧w'.cell? ⟨pb,po+i*14+6,none⟩=some (.bool n.ref.ac)∧w'.cell? ⟨pb,po+i*14+7,none⟩=some (.bool n.ref.ar)∧w'.cell? ⟨pb,po+i*14+8,none⟩=some (.string n.«to».sh)∧w'.cell? ⟨pb,po+i*14+9,none⟩=some (.int .i64 n.«to».c)∧w'.cell? ⟨pb,po+i*14+10,none⟩=some (.int .i64 n.«to».r)∧w'.cell? ⟨pb,po+i*14+11,none⟩=some (.bool n.«to».ac)∧w'.cell? ⟨pb,po+i*14+12,none⟩=some (.bool n.«to».ar)∧w'.cell? ⟨pb,po+i*14+13,none⟩=some (.slice Ak m ck)) (go_keep) (fail)
 have HN:=NdAt.drew (NdAt.new w1 n (.slice Ak m ck))
 have HB2:=(((Below.refl w1.heap.size w1).alloc (Nat.le_refl _) (.cells #[.int .i64 n.kind,.int .i64 n.num,.string n.text,.string n.ref.sh,.int .i64 n.ref.c,.int .i64 n.ref.r,.bool n.ref.ac,.bool n.ref.ar,.string n.«to».sh,.int .i64 n.«to».c,.int .i64 n.«to».r,.bool n.«to».ac,.bool n.«to».ar,(.slice Ak m ck)] 48))).drew
 obtain ⟨z2,hz2⟩:∃ z2,w1.heap.size=z2:=⟨_,rfl⟩
 obtain ⟨w2,hw2⟩:∃ w2,((w1.alloc (.cells #[.int .i64 n.kind,.int .i64 n.num,.string n.text,.string n.ref.sh,.int .i64 n.ref.c,.int .i64 n.ref.r,.bool n.ref.ac,.bool n.ref.ar,.string n.«to».sh,.int .i64 n.«to».c,.int .i64 n.«to».r,.bool n.«to».ac,.bool n.«to».ar,(.slice Ak m ck)] 48)).drew)=w2:=⟨_,rfl⟩
 rw [show (w1.alloc (.cells (nodA n (.slice Ak m ck)) 48)).drew=w2 from hw2] at HN
 rw [hw2] at HB2
 rw [hw2,hz2]
 rw [hz2] at HN
 have hzl2:z2<w2.heap.size:=HN.lt
 have hzb2:z2≠b:=by omega
 have hbw2:b<w2.heap.size:=by omega
 have y2:=(HB2.cell (p:=⟨z,2,none⟩) hzl).trans x2
 obtain ⟨y0, -⟩:=HN.cells
 have HQ2:=Lib.hid (HQ.out.below HB2)
 have HG2:=Lib.hid (HG.out.fq (Fq.ofBelow HB2))
 have HSI2:=Lib.hid (HSI.out.below HB2 (Nat.le_of_lt hbw1))
 have HB2':=Lib.hid HB2
 have HN2:=Lib.hid HN
 clear hw2 hz2 HN HB2 x0 x1 x2 xb k0 k1 k2 k3 k4 k5 k6 k7 k8 k9 k10 k11 k12 k13
 go_upto_region 4 with (fail)
 go_region_held3 (fun w'=>w'.cell? ⟨z2,0,none⟩=some (.int .i64 n.kind)∧w'.cell? ⟨z,2,none⟩=some (.int .i64 least)) (go_keep) (first
  | (go_at_call 130;((with_reducible refine (HRK.out _).mono ?_);rintro e w3 ⟨rfl,rfl⟩)))
 have HD2:=Lib.hid ((Below.refl w2.heap.size w2).drew)
 have HG3:=Lib.hid (HG2.out.fq (Fq.ofBelow HD2.out));have HQ3:=Lib.hid (HQ2.out.below HD2.out);have HSI3:=Lib.hid (HSI2.out.below HD2.out (Nat.le_of_lt hbw2));have HN3:=Lib.hid (NdAt.drew HN2.out)
 have hbw3:=hbw2;have hzl3:z2<w2.drew.heap.size:=hzl2
 go_upto_region 7 with (fail)
 have HCALL:=Lib.hid (fun (wr:World) (hr:Below w2.drew.heap.size w2.drew wr)=>node_any w0 wr b (.slice (some ⟨pb,po,none⟩) nl cap) (st) (txt) n Ak m ck ((HG3.out).fq (Fq.ofBelow hr)) (HQ3.out.below hr) HNB.out hnum HZ1.out HZ2.out HZ3.out (HSI3.out.below hr (Nat.le_of_lt hbw3)) (by omega) (by have:=HM.out;omega))
 rw [HMF.out] at HCALL
 have H3:=Lib.hid ((Below.refl w2.drew.heap.size w2.drew).drew)
 obtain ⟨k0,k1,k2,k3,k4,k5,k6,k7,k8,k9,k10,k11,k12,k13⟩:=HN3.out.cells
 go_region_held3 (fun w'=>w'.cell? ⟨z2,0,none⟩=some (.int .i64 n.kind)∧w'.cell? ⟨z2,1,none⟩=some (.int .i64 n.num)∧w'.cell? ⟨z2,2,none⟩=some (.string n.text)∧w'.cell? ⟨z2,3,none⟩=some (.string n.ref.sh)∧w'.cell? ⟨z2,4,none⟩=some (.int .i64 n.ref.c)∧w'.cell? ⟨z2,5,none⟩=some (.int .i64 n.ref.r)∧w'.cell? ⟨z2,6,none⟩=some (.bool n.ref.ac)∧w'.cell? ⟨z2,7,none⟩=some (.bool n.ref.ar)∧w'.cell? ⟨z2,8,none⟩=some (.string n.«to».sh)∧w'.cell? ⟨z2,9,none⟩=some (.int .i64 n.«to».c)∧w'.cell? ⟨z2,10,none⟩=some (.int .i64 n.«to».r)∧w'.cell? ⟨z2,11,none⟩=some (.bool n.«to».ac)∧w'.cell? ⟨z2,12,none⟩=some (.bool n.«to».ar)∧w'.cell? ⟨z2,13,none⟩=some (.slice Ak m ck)) (first | go_keep | exact S7a) (first
  | (go_at_call 132;((with_reducible refine (HME.out _).mono ?_);rintro e w4 ⟨rfl,rfl⟩))
  | ((with_reducible refine (HCALL.out _ H3.out).mono ?_);rintro e w5 ⟨rfl,h3,h4⟩;have HQ5:=Lib.hid h3;have HF5:=Lib.hid h4;have S7a:=NdAt.cells (show NdAt w5 z2 n (.slice Ak m ck) from by
       unfold NdAt
       have e1:w2.drew.drew.heap[z2]? = some (.cells (nodA n (.slice Ak m ck)) 48):=HN3.out
       rw [HF5.out.block z2 hzl3 hzb2 (.inr fun cur fr=>⟨fun e=>by (rw [e1] at e;injection e with e;injection e with _ e2;exact absurd e2 (by decide)),fun e=>by (rw [e1] at e;injection e with e;injection e with _ e2;exact absurd e2 (by decide))⟩)]
       exact e1);clear h3 h4))
 all_goals go_wp2_with fail
 all_goals go_end0
 all_goals exact ⟨rfl,HQ5.out,(Fq.ofBelow HB.out).trans ((Fq.ofBelow HB2'.out).trans ((Fq.ofBelow (Below.refl _ _).drew).trans ((Fq.ofBelow H3.out).trans HF5.out)))⟩
set_option maxRecDepth 100000 in
set_option maxHeartbeats 8000000 in
theorem write_kept (w0 w:World) (b:Nat) (nv:Value) (vs:List (Nd × Value)) (st:List Pt) (txt:List Int) (i:Nat) (least:Int) (n:Nd) (k:Value) (hg:Gl w0 w b) (h:WQ w b nv st txt) (hsn:SN w b nv vs) (hz:SZ vs) (hnk:vs[i]? = some (n,k)) (hnb:nodeB n=true) (hnum:n.num≤9223372036854775807) (hr:(rankL n.kind:Int)+1<least) (hl:txt.length+1≤1000000000) (hls:st.length+2*n.kids.length+2≤2000000000) :
 Calls Tryz.prog 90 #[.pointer (some ⟨b,0,none⟩),.agg #[.string ⟨#[]⟩,.int .i64 (i:Int),.int .i64 least]] w fun e w'=>e = .returned (.tuple #[])∧WQ w' b nv (st++[Pt.plain ⟨#[41]⟩]++(stepN n).2.reverse) (txt++([40]++(stepN n).1))∧Fq w w' b:=by
 obtain ⟨⟨A,cap,rfl,hat⟩,hkid⟩:=hsn
 obtain ⟨hlen,hsz⟩:=hz
 have hil:i<vs.length:=(List.getElem?_eq_some_iff.1 hnk).1
 have hmem:=List.mem_of_getElem? hnk
 obtain ⟨hz1,hz2,hz3⟩:=hsz _ hmem
 have hski:SI w b k n.kids:=hkid _ hmem
 obtain ⟨Ak,ck,hk,hkc,hkm,_⟩:=id hski
 obtain ⟨nl,hnl⟩:∃ nl,vs.length=nl:=⟨_,rfl⟩
 obtain ⟨m,hm⟩:∃ m,n.kids.length=m:=⟨_,rfl⟩
 rw [hm] at hk
 subst hk
 rw [hnl] at hlen hil h ⊢
 have hi0:(0:Int)≤(i:Int):=by omega
 have hi1:(i:Int)<(nl:Int):=by omega
 obtain ⟨pb,po,rfl,hpbb,hcells⟩:=hat.resolve_left (fun e=>by rw [e] at hnk;cases hnk)
 have hcell:=hcells i n _ hnk
 have hbw:b<w.heap.size:=by obtain ⟨wv,h1, -⟩:=h;exact h1.lt
 have hB:Below w.heap.size w (w.alloc (.cells #[.string ⟨#[]⟩,.int .i64 (i:Int),.int .i64 least] 139)):=(Below.refl _ _).alloc (Nat.le_refl _) _
 have HP:PtAt (w.alloc (.cells #[.string ⟨#[]⟩,.int .i64 (i:Int),.int .i64 least] 139)) w.heap.size ⟨⟨#[]⟩,(i:Int),least⟩:=PtAt.new w ⟨⟨#[]⟩,(i:Int),least⟩
 have HB:=Lib.hid hB
 have HQ:=Lib.hid (h.below hB)
 have HG:=Lib.hid (hg.fq (Fq.ofBelow hB))
 have HSI:=Lib.hid (hski.below hB (Nat.le_of_lt hbw))
 have hpb:pb<w.heap.size:=by omega
 obtain ⟨rk,hrk⟩:∃ rk:Nat,rankL n.kind=rk:=⟨_,rfl⟩
 have hrank:=rankOf_any n.kind
 rw [hrk] at hrank hr
 have HRK:=Lib.hid hrank
 have hmeth:=methodS_any n.kind
 have hen:=meth_enters n.kind
 obtain ⟨mf,hmf⟩:∃ mf,methS n.kind=mf:=⟨_,rfl⟩
 rw [hmf] at hmeth hen
 have HME:=Lib.hid hmeth
 have HNB:=Lib.hid hnb
 have HZ1:=Lib.hid hz1;have HZ2:=Lib.hid hz2;have HZ3:=Lib.hid hz3
 have HMF:=Lib.hid hmf;have HM:=Lib.hid hm
 clear h hg hB hski hkc hkm hat hkid hsz hcells hmem hnl hnk hlen hrank hmeth hrk hmf hnb hz1 hz2 hz3 hm
 go_enter Tryz.func90,Tryz.ntmps90
 go_upto_region 1 with (fail)
 obtain ⟨z,hzz⟩:∃ z,w.heap.size=z:=⟨_,rfl⟩
 obtain ⟨w1,hw1⟩:∃ w1,w.alloc (.cells #[.string ⟨#[]⟩,.int .i64 (i:Int),.int .i64 least] 139)=w1:=⟨_,rfl⟩
 rw [hw1] at HP HB HQ HG HSI ⊢
 rw [hzz] at HP ⊢
 have k0:w1.cell? ⟨pb,po+i*14,none⟩=some (.int .i64 n.kind):=(HB.out.cell (p:=⟨pb,po+i*14,none⟩) hpb).trans (hcell 0 (by omega))
 have k1:w1.cell? ⟨pb,po+i*14+1,none⟩=some (.int .i64 n.num):=(HB.out.cell (p:=⟨pb,po+i*14+1,none⟩) hpb).trans (hcell 1 (by omega))
 have k2:w1.cell? ⟨pb,po+i*14+2,none⟩=some (.string n.text):=(HB.out.cell (p:=⟨pb,po+i*14+2,none⟩) hpb).trans (hcell 2 (by omega))
 have k3:w1.cell? ⟨pb,po+i*14+3,none⟩=some (.string n.ref.sh):=(HB.out.cell (p:=⟨pb,po+i*14+3,none⟩) hpb).trans (hcell 3 (by omega))
 have k4:w1.cell? ⟨pb,po+i*14+4,none⟩=some (.int .i64 n.ref.c):=(HB.out.cell (p:=⟨pb,po+i*14+4,none⟩) hpb).trans (hcell 4 (by omega))
 have k5:w1.cell? ⟨pb,po+i*14+5,none⟩=some (.int .i64 n.ref.r):=(HB.out.cell (p:=⟨pb,po+i*14+5,none⟩) hpb).trans (hcell 5 (by omega))
 have k6:w1.cell? ⟨pb,po+i*14+6,none⟩=some (.bool n.ref.ac):=(HB.out.cell (p:=⟨pb,po+i*14+6,none⟩) hpb).trans (hcell 6 (by omega))
 have k7:w1.cell? ⟨pb,po+i*14+7,none⟩=some (.bool n.ref.ar):=(HB.out.cell (p:=⟨pb,po+i*14+7,none⟩) hpb).trans (hcell 7 (by omega))
 have k8:w1.cell? ⟨pb,po+i*14+8,none⟩=some (.string n.«to».sh):=(HB.out.cell (p:=⟨pb,po+i*14+8,none⟩) hpb).trans (hcell 8 (by omega))
 have k9:w1.cell? ⟨pb,po+i*14+9,none⟩=some (.int .i64 n.«to».c):=(HB.out.cell (p:=⟨pb,po+i*14+9,none⟩) hpb).trans (hcell 9 (by omega))
 have k10:w1.cell? ⟨pb,po+i*14+10,none⟩=some (.int .i64 n.«to».r):=(HB.out.cell (p:=⟨pb,po+i*14+10,none⟩) hpb).trans (hcell 10 (by omega))
 have k11:w1.cell? ⟨pb,po+i*14+11,none⟩=some (.bool n.«to».ac):=(HB.out.cell (p:=⟨pb,po+i*14+11,none⟩) hpb).trans (hcell 11 (by omega))
 have k12:w1.cell? ⟨pb,po+i*14+12,none⟩=some (.bool n.«to».ar):=(HB.out.cell (p:=⟨pb,po+i*14+12,none⟩) hpb).trans (hcell 12 (by omega))
 have k13:w1.cell? ⟨pb,po+i*14+13,none⟩=some (.slice Ak m ck):=(HB.out.cell (p:=⟨pb,po+i*14+13,none⟩) hpb).trans (hcell 13 (by omega))
 have hzl:z<w1.heap.size:=(Array.getElem?_eq_some_iff.1 HP).1
 have hzb:z≠b:=by omega
 have hbw1:b<w1.heap.size:=by omega
 have hpb1:pb<w1.heap.size:=by omega
 obtain ⟨x0,x1,x2⟩:=HP.cells
 have xb:w1.cell? ⟨b,0,none⟩=some (.slice (some ⟨pb,po,none⟩) nl cap):=by obtain ⟨wv,⟨ad,bv,h1, -⟩, -⟩:=HQ.out;exact h1.facts.1
 have HP1:=Lib.hid HP
 dsimp only at x0 x1 x2
 clear hzz hw1 HP hcell
 go_upto_region 2 with (fail)
 go_upto_region 3 with (fail)
 go_region_held3 (fun w'=>w'.cell? ⟨b,0,none⟩=some (.slice (some ⟨pb,po,none⟩) nl cap)∧w'.cell? ⟨z,1,none⟩=some (.int .i64 (i:Int))∧w'.cell? ⟨pb,po+i*14,none⟩=some (.int .i64 n.kind)∧w'.cell? ⟨pb,po+i*14+1,none⟩=some (.int .i64 n.num)∧w'.cell? ⟨pb,po+i*14+2,none⟩=some (.string n.text)∧w'.cell? ⟨pb,po+i*14+3,none⟩=some (.string n.ref.sh)∧w'.cell? ⟨pb,po+i*14+4,none⟩=some (.int .i64 n.ref.c)∧w'.cell? ⟨pb,po+i*14+5,none⟩=some (.int .i64 n.ref.r)∧w'.cell? ⟨pb,po+i*14+6,none⟩=some (.bool n.ref.ac)∧w'.cell? ⟨pb,po+i*14+7,none⟩=some (.bool n.ref.ar)∧w'.cell? ⟨pb,po+i*14+8,none⟩=some (.string n.«to».sh)∧w'.cell? ⟨pb,po+i*14+9,none⟩=some (.int .i64 n.«to».c)∧w'.cell? ⟨pb,po+i*14+10,none⟩=some (.int .i64 n.«to».r)∧w'.cell? ⟨pb,po+i*14+11,none⟩=some (.bool n.«to».ac)∧w'.cell? ⟨pb,po+i*14+12,none⟩=some (.bool n.«to».ar)∧w'.cell? ⟨pb,po+i*14+13,none⟩=some (.slice Ak m ck)) (go_keep) (fail)
 have HN:=NdAt.drew (NdAt.new w1 n (.slice Ak m ck))
 have HB2:=(((Below.refl w1.heap.size w1).alloc (Nat.le_refl _) (.cells #[.int .i64 n.kind,.int .i64 n.num,.string n.text,.string n.ref.sh,.int .i64 n.ref.c,.int .i64 n.ref.r,.bool n.ref.ac,.bool n.ref.ar,.string n.«to».sh,.int .i64 n.«to».c,.int .i64 n.«to».r,.bool n.«to».ac,.bool n.«to».ar,(.slice Ak m ck)] 48))).drew
 obtain ⟨z2,hz2⟩:∃ z2,w1.heap.size=z2:=⟨_,rfl⟩
 obtain ⟨w2,hw2⟩:∃ w2,((w1.alloc (.cells #[.int .i64 n.kind,.int .i64 n.num,.string n.text,.string n.ref.sh,.int .i64 n.ref.c,.int .i64 n.ref.r,.bool n.ref.ac,.bool n.ref.ar,.string n.«to».sh,.int .i64 n.«to».c,.int .i64 n.«to».r,.bool n.«to».ac,.bool n.«to».ar,(.slice Ak m ck)] 48)).drew)=w2:=⟨_,rfl⟩
 rw [show (w1.alloc (.cells (nodA n (.slice Ak m ck)) 48)).drew=w2 from hw2] at HN
 rw [hw2] at HB2
 rw [hw2,hz2]
 rw [hz2] at HN
 have hzl2:z2<w2.heap.size:=HN.lt
 have hzb2:z2≠b:=by omega
 have hbw2:b<w2.heap.size:=by omega
 have y2:=(HB2.cell (p:=⟨z,2,none⟩) hzl).trans x2
 obtain ⟨y0, -⟩:=HN.cells
 have HQ2:=Lib.hid (HQ.out.below HB2)
 have HG2:=Lib.hid (HG.out.fq (Fq.ofBelow HB2))
 have HSI2:=Lib.hid (HSI.out.below HB2 (Nat.le_of_lt hbw1))
 have HB2':=Lib.hid HB2
 have HN2:=Lib.hid HN
 clear hw2 hz2 HN HB2 x0 x1 x2 xb k0 k1 k2 k3 k4 k5 k6 k7 k8 k9 k10 k11 k12 k13
 go_upto_region 4 with (fail)
 go_region_held3 (fun w'=>w'.cell? ⟨z2,0,none⟩=some (.int .i64 n.kind)∧w'.cell? ⟨z,2,none⟩=some (.int .i64 least)) (go_keep) (first
  | (go_at_call 130;((with_reducible refine (HRK.out _).mono ?_);rintro e w3 ⟨rfl,rfl⟩)))
 have HD2:=Lib.hid ((Below.refl w2.heap.size w2).drew)
 obtain ⟨wv,hws,hown⟩:=HQ2.out
 have HW:=Lib.hid (write_any w2.drew b _ wv txt ⟨#[40]⟩ (hws.below HD2.out) (by show txt.length+1≤_;omega))
 have HO:=Lib.hid (hown.below HD2.out (Nat.le_refl _))
 clear hws hown
 go_upto_region 5 with (fail)
 go_upto_region 6 with (go_at_call 129;((with_reducible refine HW.out.mono ?_);rintro e u3 ⟨⟨x,rfl⟩,h3,h4⟩;have HWS3:=Lib.hid h3;have HF3:=Lib.hid h4;clear h3 h4))
 have HWQ3:=Lib.hid (show WQ u3 b (.slice (some ⟨pb,po,none⟩) nl cap) st (txt++[40]) from by
  have h:=WQ.wrote HO.out HWS3.out HF3.out
  rwa [show sb ⟨#[40]⟩=[40] by decide] at h)
 have HPU:=Lib.hid (fun (wr:World) (hr:Below u3.heap.size u3 wr)=>push_lit wr b (.slice (some ⟨pb,po,none⟩) nl cap) st [Pt.plain ⟨#[41]⟩] (txt++[40]) #[.string ⟨#[41]⟩,.int .i64 0,.int .i64 0] 1 rfl rfl (HWQ3.out.below hr) (by show 1≤1000000;decide) (by omega))
 go_upto_region 7 with (first
  | (go_at_call 131;((with_reducible refine (plain_lit _ _).mono ?_);rintro e u4 ⟨rfl,h3⟩;have HB4:=Lib.hid h3;clear h3))
  | (go_at_call 88;((with_reducible refine (HPU.out _ HB4.out).mono ?_);rintro e u5 ⟨rfl,h3,h4⟩;have HQU:=Lib.hid h3;have HFU:=Lib.hid h4;clear h3 h4)))
 have HF25:=Lib.hid (((Fq.ofBelow HD2.out).trans (Fq.ofB HF3.out)).trans ((Fq.ofBelow HB4.out).trans HFU.out))
 have HG3:=Lib.hid (HG2.out.fq HF25.out)
 have HSI3:=Lib.hid (HSI2.out.fq HF25.out (Nat.le_refl _) hbw2)
 have hsz5:w2.heap.size≤u5.heap.size:=HF25.out.size
 have HQ3:=Lib.hid (show WQ u5 b (.slice (some ⟨pb,po,none⟩) nl cap) (st++[Pt.plain ⟨#[41]⟩]) (txt++[40]) from HQU.out)
 have HN3:=Lib.hid (show NdAt u5 z2 n (.slice Ak m ck) from by
  unfold NdAt
  have e1:w2.heap[z2]? = some (.cells (nodA n (.slice Ak m ck)) 48):=HN2.out
  rw [HF25.out.block z2 hzl2 hzb2 (.inr fun cur fr=>⟨fun e=>by (rw [e1] at e;injection e with e;injection e with _ e2;exact absurd e2 (by decide)),fun e=>by (rw [e1] at e;injection e with e;injection e with _ e2;exact absurd e2 (by decide))⟩)]
  exact e1)
 have hbw3:b<u5.heap.size:=by omega
 have hzl3:z2<u5.drew.heap.size:=by show z2<u5.heap.size;omega
 clear y0 y2
 have HCALL:=Lib.hid (fun (wr:World) (hr:Below u5.heap.size u5 wr)=>node_any w0 wr b (.slice (some ⟨pb,po,none⟩) nl cap) (st++[Pt.plain ⟨#[41]⟩]) (txt++[40]) n Ak m ck ((HG3.out).fq (Fq.ofBelow hr)) (HQ3.out.below hr) HNB.out hnum HZ1.out HZ2.out HZ3.out (HSI3.out.below hr (Nat.le_of_lt hbw3)) (by rw [List.length_append];show txt.length+1≤_;omega) (by rw [List.length_append];show st.length+1+_+1≤_;have:=HM.out;omega))
 rw [HMF.out] at HCALL
 have H3:=Lib.hid ((Below.refl u5.heap.size u5).drew)
 obtain ⟨k0,k1,k2,k3,k4,k5,k6,k7,k8,k9,k10,k11,k12,k13⟩:=HN3.out.cells
 go_region_held3 (fun w'=>w'.cell? ⟨z2,0,none⟩=some (.int .i64 n.kind)∧w'.cell? ⟨z2,1,none⟩=some (.int .i64 n.num)∧w'.cell? ⟨z2,2,none⟩=some (.string n.text)∧w'.cell? ⟨z2,3,none⟩=some (.string n.ref.sh)∧w'.cell? ⟨z2,4,none⟩=some (.int .i64 n.ref.c)∧w'.cell? ⟨z2,5,none⟩=some (.int .i64 n.ref.r)∧w'.cell? ⟨z2,6,none⟩=some (.bool n.ref.ac)∧w'.cell? ⟨z2,7,none⟩=some (.bool n.ref.ar)∧w'.cell? ⟨z2,8,none⟩=some (.string n.«to».sh)∧w'.cell? ⟨z2,9,none⟩=some (.int .i64 n.«to».c)∧w'.cell? ⟨z2,10,none⟩=some (.int .i64 n.«to».r)∧w'.cell? ⟨z2,11,none⟩=some (.bool n.«to».ac)∧w'.cell? ⟨z2,12,none⟩=some (.bool n.«to».ar)∧w'.cell? ⟨z2,13,none⟩=some (.slice Ak m ck)) (first | go_keep | exact S7a) (first
  | (go_at_call 132;((with_reducible refine (HME.out _).mono ?_);rintro e w4 ⟨rfl,rfl⟩))
  | ((with_reducible refine (HCALL.out _ H3.out).mono ?_);rintro e w5 ⟨rfl,h3,h4⟩;have HQ5:=Lib.hid h3;have HF5:=Lib.hid h4;have S7a:=NdAt.cells (show NdAt w5 z2 n (.slice Ak m ck) from by
       unfold NdAt
       have e1:u5.drew.heap[z2]? = some (.cells (nodA n (.slice Ak m ck)) 48):=HN3.out
       rw [HF5.out.block z2 hzl3 hzb2 (.inr fun cur fr=>⟨fun e=>by (rw [e1] at e;injection e with e;injection e with _ e2;exact absurd e2 (by decide)),fun e=>by (rw [e1] at e;injection e with e;injection e with _ e2;exact absurd e2 (by decide))⟩)]
       exact e1);clear h3 h4))
 all_goals go_wp2_with fail
 all_goals go_end0
 all_goals exact ⟨rfl,by (have h:=HQ5.out;rw [List.append_assoc txt] at h;exact h),(Fq.ofBelow HB.out).trans ((Fq.ofBelow HB2'.out).trans (HF25.out.trans ((Fq.ofBelow H3.out).trans HF5.out)))⟩
theorem argP_len:∀ ks:List Int,2*ks.length≤(argP ks).length+1
 | []=>Nat.zero_le _
 | [a]=>Nat.le_refl _
 | a :: b :: ks=>by
   have ih:=argP_len (b :: ks)
   show 2*((b :: ks).length+1)≤((argP (b :: ks)).length+1+1)+1
   omega
theorem kids_len {n:Nd} (h:nodeB n=true):2*n.kids.length≤(stepN n).2.length+4:=by
 obtain ⟨a1,a2,a3,b1,b2, -⟩:=arms_kids h
 by_cases h6:n.kind≤6
 · rw [a3 ⟨b1,h6⟩];exact Nat.zero_le _
 by_cases h7:n.kind=7
 · have:=argP_len n.kids
   rw [show (stepN n).2=argP n.kids++[Pt.plain ⟨#[41]⟩] from by unfold stepN;rw [if_neg (by omega),if_neg (by omega),if_neg (by omega),if_neg (by omega),if_neg (by omega),if_neg (by omega),if_pos h7],List.length_append]
   omega
 by_cases h8:n.kind=8
 · rw [a1 h8];omega
 · rw [a2 (by omega)];omega
theorem stepP_less {l:List Nd} (h:treeB l=true) (p:Pt) (hp:PtOk l p):2≤2*(stepP l p).1.length+(stepP l p).2.length:=by
 have hn:∀ n:Nd,nodeB n=true→2≤2*(stepN n).1.length+(stepN n).2.length:=by
  intro n hn
  obtain ⟨-, -, -,b1,b2, -⟩:=arms_kids hn
  unfold stepN
  split
  · have:digL n.num.toNat≠[]:=digL_ne _
    have:=List.length_pos_iff.2 this
    show 2≤2*(digL n.num.toNat).length+0
    omega
  split
  · simp;omega
  split
  · split <;> simp
  split
  · simp
  split
  · rename_i h5
    have hl:=(arms_kids hn).2.2.2.2.2
    have:textL (sb n.ref.sh) n.ref.c n.ref.r n.ref.ac n.ref.ar≠[]:=textL_ne (leaf_ref hl h5)
    have:=List.length_pos_iff.2 this
    show 2≤2*(textL _ _ _ _ _).length+0
    omega
  split
  · simp;omega
  split
  · simp;omega
  split
  · simp
  · simp
 unfold stepP
 split
 · rename_i ht
   obtain ⟨h0,h1⟩:=hp ht
   have:=hn _ (tree_at h h0 h1).1
   split
   · rw [List.length_cons,List.length_append];show 2≤2*(_+1)+(_+1);omega
   · exact this
 · rename_i ht
   have:=List.length_pos_iff.2 (sb_ne ht)
   show 2≤2*(sb p.t).length+0
   omega
theorem stepP_node {l:List Nd} {j:Nat} {m:Int} {n:Nd} (hn:nodeAt l (j:Int)=n):stepP l ⟨⟨#[]⟩,(j:Int),m⟩=if (rankL n.kind:Int)+1<m then (40 :: (stepN n).1,(stepN n).2++[Pt.plain ⟨#[41]⟩]) else stepN n:=by
 unfold stepP
 rw [if_pos rfl]
 dsimp only
 rw [hn]
theorem writeP_any (w0 w:World) (b:Nat) (nv:Value) (vs:List (Nd × Value)) (st:List Pt) (txt:List Int) (p:Pt) (hg:Gl w0 w b) (h:WQ w b nv st txt) (hsn:SN w b nv vs) (hz:SZ vs) (ht:treeB (vs.map (·.1))=true) (hnum:∀ q∈vs,q.1.num≤9223372036854775807) (hp:PtOk (vs.map (·.1)) p) (hl:txt.length+(ptL (vs.map (·.1)) p).length≤1000000000) (hls:st.length+(ptL (vs.map (·.1)) p).length≤1000000000) :
 Calls Tryz.prog 90 #[.pointer (some ⟨b,0,none⟩),.agg (ptA p)] w fun e w'=>e = .returned (.tuple #[])∧WQ w' b nv (st++(stepP (vs.map (·.1)) p).2.reverse) (txt++(stepP (vs.map (·.1)) p).1)∧Fq w w' b:=by
 obtain ⟨t,i,m⟩:=p
 by_cases hpt:t=⟨#[]⟩
 · subst hpt
   obtain ⟨h0,h1⟩:=hp rfl
   dsimp only at h0 h1
   obtain ⟨j,rfl⟩:∃ j:Nat,i=(j:Int):=⟨i.toNat,by omega⟩
   rw [List.length_map] at h1
   obtain ⟨⟨n,k⟩,hnk⟩:∃ q,vs[j]? = some q:=⟨_,List.getElem?_eq_getElem (by omega)⟩
   have hn:nodeAt (vs.map (·.1)) (j:Int)=n:=by
    unfold nodeAt
    rw [Int.toNat_natCast,List.getD_eq_getElem?_getD,List.getElem?_map,hnk];rfl
   have hnb:=(tree_at ht h0 (by rw [List.length_map];exact h1)).1
   rw [hn] at hnb
   have hkl:=kids_len hnb
   have hne:=List.length_pos_iff.2 (ptL_ne ht _ hp)
   have hfl:=flat_len ht _ (stepP_ok ht _ hp)
   have hL:=stepP_L ht _ hp
   have hLL:=congrArg List.length hL
   rw [List.length_append] at hLL
   have hsp:=stepP_node (m:=m) hn
   rw [hsp] at hfl hLL ⊢
   by_cases hr:(rankL n.kind:Int)+1<m
   · rw [if_pos hr] at hfl hLL ⊢
     dsimp only at hfl hLL ⊢
     rw [List.length_append] at hfl
     refine (write_kept w0 w b nv vs st txt j m n k hg h hsn hz hnk hnb (hnum _ (List.mem_of_getElem? hnk)) hr (by omega) (by omega)).mono ?_
     rintro e w' ⟨h1,h2,h3⟩
     refine ⟨h1, ?_,h3⟩
     rw [List.reverse_append,List.reverse_singleton, ← List.append_assoc]
     exact h2
   · rw [if_neg hr] at hfl hLL ⊢
     exact write_bare w0 w b nv vs st txt j m n k hg h hsn hz hnk hnb (hnum _ (List.mem_of_getElem? hnk)) hr (by omega) (by omega)
 · have hs:stepP (vs.map (·.1)) ⟨t,i,m⟩=(sb t,[]):=by unfold stepP;rw [if_neg (show ¬ (⟨t,i,m⟩:Pt).t=⟨#[]⟩ from hpt)]
   have hp2:ptL (vs.map (·.1)) ⟨t,i,m⟩=sb t:=by unfold ptL;rw [if_neg (show ¬ (⟨t,i,m⟩:Pt).t=⟨#[]⟩ from hpt)]
   rw [hs]
   rw [hp2,length_sb] at hl
   dsimp only
   rw [List.reverse_nil,List.append_nil]
   exact write_text w b nv st txt ⟨t,i,m⟩ h hpt hl
set_option maxRecDepth 100000 in
theorem fields_yes (w:World) (n:Nd) (hv:Vars w) (hs:n.text.size≤1000000) (hr:n.ref.sh.size≤1000000) (ht:n.«to».sh.size≤1000000) (hyes:okF n=true) (A:Option Addr) (m c:Nat) :
 Calls Tryz.prog 114 #[.agg #[.int .i64 n.kind,.int .i64 n.num,.string n.text,.string n.ref.sh,.int .i64 n.ref.c,.int .i64 n.ref.r,.bool n.ref.ac,.bool n.ref.ar,.string n.«to».sh,.int .i64 n.«to».c,.int .i64 n.«to».r,.bool n.«to».ac,.bool n.«to».ar,.slice A m c]] w fun e w'=>e = .returned (.tuple #[.agg (nodA (namedN n) (.slice none 0 0)),.bool (okF n)])∧Below w.heap.size w w':=by
 by_cases h1:n.kind=1
 · have e1:namedN n={ Nd.zero with num:=n.num }:=by unfold namedN;rw [if_pos h1]
   have e2:okF n=decide (0≤n.num):=by unfold okF;rw [if_pos h1]
   rw [e1,e2];exact fields_1 n h1 A m c w
 by_cases h2:n.kind=2
 · have e1:namedN n={ Nd.zero with text:=n.text }:=by unfold namedN;rw [if_neg h1,if_pos h2]
   have e2:okF n=printB (sb n.text):=by unfold okF;rw [if_neg h1,if_pos h2]
   rw [e1,e2];exact fields_2 w n h2 hs A m c
 by_cases h3:n.kind=3
 · have e1:namedN n={ Nd.zero with num:=n.num }:=by unfold namedN;rw [if_neg h1,if_neg h2,if_pos h3]
   have e2:okF n=decide (n.num=0∨n.num=1):=by unfold okF;rw [if_neg h1,if_neg h2,if_pos h3]
   rw [e1,e2]
   by_cases k0:n.num=0
   · rw [decide_eq_true (Or.inl k0)];exact fields_3a w n h3 k0 A m c
   · by_cases k1:n.num=1
     · rw [decide_eq_true (Or.inr k1)];exact fields_3b w n h3 k1 A m c
     · have k:¬ (n.num=0∨n.num=1):=by omega
       rw [hyes,decide_eq_false k] at e2;exact absurd e2 (by decide)
 by_cases h5:n.kind=5
 · have e1:namedN n={ Nd.zero with ref:=n.ref }:=by unfold namedN;rw [if_neg h1,if_neg h2,if_neg h3,if_pos h5]
   have e2:okF n=mayRf n.ref:=by unfold okF;rw [if_neg h1,if_neg h2,if_neg h3,if_pos h5]
   rw [e1,e2];exact fields_5 w n h5 hr A m c
 by_cases h6:n.kind=6
 · have e1:namedN n=⟨0,0,⟨#[]⟩,n.ref,n.«to»,[]⟩:=by unfold namedN;rw [if_neg h1,if_neg h2,if_neg h3,if_neg h5,if_pos h6]
   have e2:okF n=(mayRf n.ref&&(mayRf n.«to»&&spanB n.ref n.«to»)):=by unfold okF;rw [if_neg h1,if_neg h2,if_neg h3,if_neg h5,if_pos h6]
   rw [e1,e2]
   cases q1:mayRf n.ref
   · rw [hyes,q1,Bool.false_and] at e2;exact absurd e2 (by decide)
   · cases q2:mayRf n.«to»
     · rw [hyes,q1,q2,Bool.false_and,Bool.and_false] at e2;exact absurd e2 (by decide)
     · exact fields_6c w n h6 hr ht q1 q2 A m c
 by_cases h7:n.kind=7
 · have e1:namedN n={ Nd.zero with text:=n.text }:=by unfold namedN;rw [if_neg h1,if_neg h2,if_neg h3,if_neg h5,if_neg h6,if_pos h7]
   have e2:okF n=callB n.text:=by unfold okF;rw [if_neg h1,if_neg h2,if_neg h3,if_neg h5,if_neg h6,if_pos h7]
   rw [e1,e2];exact fields_7 w n h7 hv A m c
 have e1:namedN n=Nd.zero:=by unfold namedN;rw [if_neg h1,if_neg h2,if_neg h3,if_neg h5,if_neg h6,if_neg h7]
 have e2:okF n=(decide (n.kind=4∨n.kind=8)||twoB n.kind):=by unfold okF;rw [if_neg h1,if_neg h2,if_neg h3,if_neg h5,if_neg h6,if_neg h7]
 rw [e1,e2]
 by_cases h4:n.kind=4
 · rw [decide_eq_true (Or.inl h4),Bool.true_or];exact fields_0a w n h1 h2 h3 h5 h6 h7 h4 A m c
 · by_cases h8:n.kind=8
   · rw [decide_eq_true (Or.inr h8),Bool.true_or];exact fields_0b w n h1 h2 h3 h5 h6 h7 h8 A m c
   · rw [decide_eq_false (by omega),Bool.false_or];exact fields_0c w n h1 h2 h3 h5 h6 h7 h4 h8 A m c
set_option maxRecDepth 100000 in
set_option maxHeartbeats 4000000 in
theorem isNode_yes (w:World) (n:Nd) (hv:Vars w) (hs:n.text.size≤1000000) (hr:n.ref.sh.size≤1000000) (ht:n.«to».sh.size≤1000000) (A:Option Addr) (m c:Nat) (hm:m≤maxLen) (hyes:isNd n m=true) :
 Calls Tryz.prog 78 #[.agg #[.int .i64 n.kind,.int .i64 n.num,.string n.text,.string n.ref.sh,.int .i64 n.ref.c,.int .i64 n.ref.r,.bool n.ref.ac,.bool n.ref.ar,.string n.«to».sh,.int .i64 n.«to».c,.int .i64 n.«to».r,.bool n.«to».ac,.bool n.«to».ar,.slice A m c]] w fun e w'=>e = .returned (.bool true)∧Below w.heap.size w w':=by
 have HYES:=Lib.hid hyes
 have hokf:okF n=true:=by unfold isNd at hyes;rw [Bool.and_eq_true] at hyes;exact hyes.1
 clear hyes
 obtain ⟨N,hN⟩:∃ N,namedN n=N:=⟨_,rfl⟩
 obtain ⟨ok,hok⟩:∃ ok,okF n=ok:=⟨_,rfl⟩
 obtain ⟨hk,hhk⟩:∃ hk,hkB n.kind m=hk:=⟨_,rfl⟩
 have HI:=Lib.hid (show isNd n m=(ok&&(hk&&(decide (n.num=N.num)&&(decide (n.text=N.text)&&(eqR n.ref N.ref&&eqR n.«to» N.«to»))))) by unfold isNd;rw [hN,hok,hhk])
 have HF:=Lib.hid (show ∀ w,Vars w→Calls Tryz.prog 114 #[.agg #[.int .i64 n.kind,.int .i64 n.num,.string n.text,.string n.ref.sh,.int .i64 n.ref.c,.int .i64 n.ref.r,.bool n.ref.ac,.bool n.ref.ar,.string n.«to».sh,.int .i64 n.«to».c,.int .i64 n.«to».r,.bool n.«to».ac,.bool n.«to».ar,.slice A m c]] w fun e w'=>e = .returned (.tuple #[.agg #[.int .i64 N.kind,.int .i64 N.num,.string N.text,.string N.ref.sh,.int .i64 N.ref.c,.int .i64 N.ref.r,.bool N.ref.ac,.bool N.ref.ar,.string N.«to».sh,.int .i64 N.«to».c,.int .i64 N.«to».r,.bool N.«to».ac,.bool N.«to».ar,.slice none 0 0],.bool ok])∧Below w.heap.size w w' from fun w hv=>by rw [← hN, ← hok];exact fields_yes w n hv hs hr ht hokf A m c)
 have HH:=Lib.hid (show ∀ w,Calls Tryz.prog 115 #[.agg #[.int .i64 n.kind,.int .i64 n.num,.string n.text,.string n.ref.sh,.int .i64 n.ref.c,.int .i64 n.ref.r,.bool n.ref.ac,.bool n.ref.ar,.string n.«to».sh,.int .i64 n.«to».c,.int .i64 n.«to».r,.bool n.«to».ac,.bool n.«to».ar,.slice A m c]] w fun e w'=>e = .returned (.bool hk)∧Below w.heap.size w w' from fun w=>by rw [← hhk];exact hasKids_any n A m c hm w)
 have hx:NdAt (w.alloc (.cells #[.int .i64 n.kind,.int .i64 n.num,.string n.text,.string n.ref.sh,.int .i64 n.ref.c,.int .i64 n.ref.r,.bool n.ref.ac,.bool n.ref.ar,.string n.«to».sh,.int .i64 n.«to».c,.int .i64 n.«to».r,.bool n.«to».ac,.bool n.«to».ar,.slice A m c] 48)) w.heap.size n (.slice A m c):=NdAt.new w n _
 have HB:=Lib.hid ((Below.refl w.heap.size w).alloc (Nat.le_refl _) (.cells #[.int .i64 n.kind,.int .i64 n.num,.string n.text,.string n.ref.sh,.int .i64 n.ref.c,.int .i64 n.ref.r,.bool n.ref.ac,.bool n.ref.ar,.string n.«to».sh,.int .i64 n.«to».c,.int .i64 n.«to».r,.bool n.«to».ac,.bool n.«to».ar,.slice A m c] 48))
 have HV:=Lib.hid hv
 clear hN hok hhk hv
 go_enter Tryz.func78,Tryz.ntmps78
 go_upto_region 1 with (fail)
 generalize w.alloc (.cells #[.int .i64 n.kind,.int .i64 n.num,.string n.text,.string n.ref.sh,.int .i64 n.ref.c,.int .i64 n.ref.r,.bool n.ref.ac,.bool n.ref.ar,.string n.«to».sh,.int .i64 n.«to».c,.int .i64 n.«to».r,.bool n.«to».ac,.bool n.«to».ar,.slice A m c] 48)=w1 at hx HB ⊢
 generalize hb0:w.heap.size=b0 at hx ⊢
 obtain ⟨x0,x1,x2,x3,x4,x5,x6,x7,x8,x9,x10,x11,x12,x13⟩:=hx.cells
 have HX:=Lib.hid hx
 clear hx
 go_upto_region 2 with (go_at_call 114;((with_reducible refine (HF.out _ (HV.out.below HB.out)).mono ?_);rintro e w2 ⟨rfl,h1⟩;have HX2:=Lib.hid (HX.out.below h1 HX.out.lt);have HB2:=Lib.hid (HB.out.trans (h1.mono HB.out.size));clear h1))
 have hB3:Below w2.heap.size w2 (w2.alloc (.cells #[.int .i64 N.kind,.int .i64 N.num,.string N.text,.string N.ref.sh,.int .i64 N.ref.c,.int .i64 N.ref.r,.bool N.ref.ac,.bool N.ref.ar,.string N.«to».sh,.int .i64 N.«to».c,.int .i64 N.«to».r,.bool N.«to».ac,.bool N.«to».ar,.slice none 0 0] 48)):=(Below.refl _ _).alloc (Nat.le_refl _) _
 have hy:NdAt (w2.alloc (.cells #[.int .i64 N.kind,.int .i64 N.num,.string N.text,.string N.ref.sh,.int .i64 N.ref.c,.int .i64 N.ref.r,.bool N.ref.ac,.bool N.ref.ar,.string N.«to».sh,.int .i64 N.«to».c,.int .i64 N.«to».r,.bool N.«to».ac,.bool N.«to».ar,.slice none 0 0] 48)) w2.heap.size N (.slice none 0 0):=NdAt.new w2 N _
 have HX3:=Lib.hid (HX2.out.below hB3 HX2.out.lt)
 have HB3:=Lib.hid (HB2.out.trans (hB3.mono HB2.out.size))
 clear hB3 x0 x1 x2 x3 x4 x5 x6 x7 x8 x9 x10 x11 x12 x13
 generalize hb3:w2.heap.size=b3 at hy ⊢
 generalize w2.alloc (.cells #[.int .i64 N.kind,.int .i64 N.num,.string N.text,.string N.ref.sh,.int .i64 N.ref.c,.int .i64 N.ref.r,.bool N.ref.ac,.bool N.ref.ar,.string N.«to».sh,.int .i64 N.«to».c,.int .i64 N.«to».r,.bool N.«to».ac,.bool N.«to».ar,.slice none 0 0] 48)=w3 at hy HX3 HB3 ⊢
 clear hb3
 have HY3:=Lib.hid hy
 clear hy
 cases ok
 · obtain ⟨x0,x1,x2,x3,x4,x5,x6,x7,x8,x9,x10,x11,x12,x13⟩:=HX3.out.cells
   have HR:=Lib.hid (show isNd n m=false by rw [HI.out];rfl)
   exact absurd HR.out (by rw [HYES.out];decide)
 have go1:=HX3.out.cells
 obtain ⟨x0,x1,x2,x3,x4,x5,x6,x7,x8,x9,x10,x11,x12,x13⟩:=go1
 cases hk
 · have HR:=Lib.hid (show isNd n m=false by rw [HI.out];rfl)
   exact absurd HR.out (by rw [HYES.out];decide)
 by_cases hnum:n.num=N.num
 rotate_left
 · have HR:=Lib.hid (show isNd n m=false by rw [HI.out,decide_eq_false hnum];rfl)
   exact absurd HR.out (by rw [HYES.out];decide)
 have en:(n.num == N.num)=true:=beq_iff_eq.2 hnum
 by_cases htx:n.text=N.text
 rotate_left
 · have HR:=Lib.hid (show isNd n m=false by rw [HI.out,decide_eq_true hnum,decide_eq_false htx];rfl)
   exact absurd HR.out (by rw [HYES.out];decide)
 have et:(n.text.toList == N.text.toList)=true:=by rw [htx];simp
 have HR:=Lib.hid (show isNd n m=(eqR n.ref N.ref&&eqR n.«to» N.«to») by rw [HI.out,decide_eq_true hnum,decide_eq_true htx];rfl)
 have hq:=HR.out
 rw [HYES.out] at hq
 have hq2:=hq.symm
 rw [Bool.and_eq_true,eqR_iff,eqR_iff] at hq2
 obtain ⟨q1,q2⟩:=hq2
 clear hq
 have r00:(n.ref.sh.toList == n.ref.sh.toList)=true:=beq_self_eq_true _
 have s00:N.ref.sh.toList=n.ref.sh.toList:=by rw [q1]
 have r01:(n.ref.c == n.ref.c)=true:=beq_self_eq_true _
 have s01:N.ref.c=n.ref.c:=by rw [q1]
 have r02:(n.ref.r == n.ref.r)=true:=beq_self_eq_true _
 have s02:N.ref.r=n.ref.r:=by rw [q1]
 have r03:(n.ref.ac == n.ref.ac)=true:=beq_self_eq_true _
 have s03:N.ref.ac=n.ref.ac:=by rw [q1]
 have r04:(n.ref.ar == n.ref.ar)=true:=beq_self_eq_true _
 have s04:N.ref.ar=n.ref.ar:=by rw [q1]
 have r10:(n.«to».sh.toList == n.«to».sh.toList)=true:=beq_self_eq_true _
 have s10:N.«to».sh.toList=n.«to».sh.toList:=by rw [q2]
 have r11:(n.«to».c == n.«to».c)=true:=beq_self_eq_true _
 have s11:N.«to».c=n.«to».c:=by rw [q2]
 have r12:(n.«to».r == n.«to».r)=true:=beq_self_eq_true _
 have s12:N.«to».r=n.«to».r:=by rw [q2]
 have r13:(n.«to».ac == n.«to».ac)=true:=beq_self_eq_true _
 have s13:N.«to».ac=n.«to».ac:=by rw [q2]
 have r14:(n.«to».ar == n.«to».ar)=true:=beq_self_eq_true _
 have s14:N.«to».ar=n.«to».ar:=by rw [q2]
 clear q1 q2
 clear hnum htx
 go_wp2_with (go_at_call 115;((with_reducible refine (HH.out _).mono ?_);rintro e w4 ⟨rfl,h1⟩;have HB4:=Lib.hid (HB3.out.trans (h1.mono HB3.out.size));obtain ⟨z0,z1,z2,z3,z4,z5,z6,z7,z8,z9,z10,z11,z12,z13⟩:=(HX3.out.below h1 HX3.out.lt).cells;obtain ⟨y0,y1,y2,y3,y4,y5,y6,y7,y8,y9,y10,y11,y12,y13⟩:=(HY3.out.below h1 HY3.out.lt).cells;clear h1))
 all_goals go_ret
 all_goals exact ⟨rfl,HB4.out⟩
set_option maxRecDepth 100000 in
set_option maxHeartbeats 16000000 in
theorem ptree_yes (w:World) (v:Value) (vs:List (Nd × Value)) (hv:Vars w) (h:SN w w.heap.size v vs) (hz:SZ vs) (hyes:treeB (vs.map (·.1))=true):Calls Tryz.prog 52 #[v] w fun e w'=>e = .returned (.bool true)∧Below w.heap.size w w':=by
 obtain ⟨⟨A,cap,rfl,hat⟩,hkid⟩:=h
 obtain ⟨hlen,hsz⟩:=hz
 obtain ⟨nl,hnl⟩:∃ nl,vs.length=nl:=⟨_,rfl⟩
 rw [hnl] at hlen ⊢
 have HYES:=Lib.hid hyes
 clear hyes
 have HV:=Lib.hid hv;have HAT:=Lib.hid hat;have HKID:=Lib.hid hkid;have HSZ:=Lib.hid hsz;have HNL:=Lib.hid hnl
 obtain ⟨eb,hEB,EL⟩:=Elem.kid
 have HEL:=Lib.hid EL
 clear hv hat hkid hsz hnl EL
 go_enter Tryz.func52,Tryz.ntmps52
 go_upto_region 3 with (fail)
 go_loopw [3,9] (fun rv iv wr=>∃ (i:Nat) (st:List Int) (rk:Value),i≤nl∧st.length≤i∧rk=rv∧iv = .int .i64 (i:Int)∧Hid (treeB (vs.map (·.1))=treeF st i ((vs.map (·.1)).drop i))∧Hid (Own (encInt .i64) 3 wr w.heap.size rk st)∧Hid (Below w.heap.size w wr))
  (fun _ iv _=>nl - (intOf iv).toNat)
 case atStart=>exact ⟨0,[],.slice none 0 0,Nat.zero_le _,Nat.le_refl _,rfl,rfl,Lib.hid rfl,Lib.hid (Own.nil _ _ _ _),Lib.hid (Below.refl _ _)⟩
 case round =>
  obtain ⟨i,st,rk,hi,hsi,rfl,rfl,HT,HO,HB⟩:=hrel
  by_cases hlt:i<nl
  · have hii:(i:Int)<(nl:Int):=by omega
    obtain ⟨⟨n,k⟩,hnk⟩:∃ q,vs[i]? = some q:=⟨_,List.getElem?_eq_getElem (by rw [HNL.out];exact hlt)⟩
    have hmem:=List.mem_of_getElem? hnk
    obtain ⟨hz1,hz2,hz3⟩:=HSZ.out _ hmem
    have HZ1:=Lib.hid hz1;have HZ2:=Lib.hid hz2;have HZ3:=Lib.hid hz3
    clear hz1 hz2 hz3
    have hski:SI w w.heap.size k n.kids:=HKID.out _ hmem
    obtain ⟨Ak,ck,hk,hkc,hkm,_⟩:=id hski
    obtain ⟨m,hm⟩:∃ m,n.kids.length=m:=⟨_,rfl⟩
    rw [hm] at hk hkc
    subst hk
    have hmm:m≤maxLen:=Nat.le_trans hkc hkm
    have hmx:m≤9223372036854775807:=by unfold maxLen at hmm;omega
    have HMM:=Lib.hid hmm
    have HM:=Lib.hid hm
    have HSK:=Lib.hid hski
    have HD:=Lib.hid (show (vs.map (·.1)).drop i=n :: (vs.map (·.1)).drop (i+1) by
     have hl:i<(vs.map (·.1)).length:=by rw [List.length_map,HNL.out];exact hlt
     rw [List.drop_eq_getElem_cons hl]
     congr 1
     have h1:(vs.map (·.1))[i]? = some n:=by rw [List.getElem?_map,hnk];rfl
     rw [List.getElem?_eq_getElem hl] at h1;exact Option.some.inj h1)
    rcases HAT.out with e | ⟨pb,po,rfl,hpb,hcells⟩
    · exfalso;rw [e] at hnk;simp at hnk
    have hcell:=hcells i n _ hnk
    have k0:wr.cell? ⟨pb,po+i*14,none⟩=some (.int .i64 n.kind):=(HB.out.cell (p:=⟨pb,po+i*14,none⟩) hpb).trans (hcell 0 (by omega))
    have k1:wr.cell? ⟨pb,po+i*14+1,none⟩=some (.int .i64 n.num):=(HB.out.cell (p:=⟨pb,po+i*14+1,none⟩) hpb).trans (hcell 1 (by omega))
    have k2:wr.cell? ⟨pb,po+i*14+2,none⟩=some (.string n.text):=(HB.out.cell (p:=⟨pb,po+i*14+2,none⟩) hpb).trans (hcell 2 (by omega))
    have k3:wr.cell? ⟨pb,po+i*14+3,none⟩=some (.string n.ref.sh):=(HB.out.cell (p:=⟨pb,po+i*14+3,none⟩) hpb).trans (hcell 3 (by omega))
    have k4:wr.cell? ⟨pb,po+i*14+4,none⟩=some (.int .i64 n.ref.c):=(HB.out.cell (p:=⟨pb,po+i*14+4,none⟩) hpb).trans (hcell 4 (by omega))
    have k5:wr.cell? ⟨pb,po+i*14+5,none⟩=some (.int .i64 n.ref.r):=(HB.out.cell (p:=⟨pb,po+i*14+5,none⟩) hpb).trans (hcell 5 (by omega))
    have k6:wr.cell? ⟨pb,po+i*14+6,none⟩=some (.bool n.ref.ac):=(HB.out.cell (p:=⟨pb,po+i*14+6,none⟩) hpb).trans (hcell 6 (by omega))
    have k7:wr.cell? ⟨pb,po+i*14+7,none⟩=some (.bool n.ref.ar):=(HB.out.cell (p:=⟨pb,po+i*14+7,none⟩) hpb).trans (hcell 7 (by omega))
    have k8:wr.cell? ⟨pb,po+i*14+8,none⟩=some (.string n.«to».sh):=(HB.out.cell (p:=⟨pb,po+i*14+8,none⟩) hpb).trans (hcell 8 (by omega))
    have k9:wr.cell? ⟨pb,po+i*14+9,none⟩=some (.int .i64 n.«to».c):=(HB.out.cell (p:=⟨pb,po+i*14+9,none⟩) hpb).trans (hcell 9 (by omega))
    have k10:wr.cell? ⟨pb,po+i*14+10,none⟩=some (.int .i64 n.«to».r):=(HB.out.cell (p:=⟨pb,po+i*14+10,none⟩) hpb).trans (hcell 10 (by omega))
    have k11:wr.cell? ⟨pb,po+i*14+11,none⟩=some (.bool n.«to».ac):=(HB.out.cell (p:=⟨pb,po+i*14+11,none⟩) hpb).trans (hcell 11 (by omega))
    have k12:wr.cell? ⟨pb,po+i*14+12,none⟩=some (.bool n.«to».ar):=(HB.out.cell (p:=⟨pb,po+i*14+12,none⟩) hpb).trans (hcell 12 (by omega))
    have k13:wr.cell? ⟨pb,po+i*14+13,none⟩=some (.slice Ak m ck):=(HB.out.cell (p:=⟨pb,po+i*14+13,none⟩) hpb).trans (hcell 13 (by omega))
    clear hcell hcells hnk hmem hski hm hkc hkm hmm
    have hL:st.length≤1000:=by omega
    rcases HO.out.shape with ⟨rfl,hst⟩ | ⟨rg,rcap,rfl,hrg,hrl,hrc,hrm⟩
    · have hst0:st.length=0:=by rw [hst];rfl
      by_cases hm0:m=0
      rotate_left
      · have hneg : -(m:Int)<0:=by omega
        have hml:¬ m≤st.length:=by omega
        have HT2:=Lib.hid (show treeB (vs.map (·.1))=false by rw [HT.out,HD.out,treeF_cons,HM.out,decide_eq_false hml,Bool.false_and,Bool.and_false])
        exact absurd HT2.out (by rw [HYES.out];decide)
      subst hm0
      have HST:=Lib.hid hst
      clear hst hst0
      have hB3:Below wr.heap.size wr (wr.alloc (.cells #[.int .i64 n.kind,.int .i64 n.num,.string n.text,.string n.ref.sh,.int .i64 n.ref.c,.int .i64 n.ref.r,.bool n.ref.ac,.bool n.ref.ar,.string n.«to».sh,.int .i64 n.«to».c,.int .i64 n.«to».r,.bool n.«to».ac,.bool n.«to».ar,.slice Ak 0 ck] 48)):=(Below.refl _ _).alloc (Nat.le_refl _) _
      have HN3:NdAt (wr.alloc (.cells #[.int .i64 n.kind,.int .i64 n.num,.string n.text,.string n.ref.sh,.int .i64 n.ref.c,.int .i64 n.ref.r,.bool n.ref.ac,.bool n.ref.ar,.string n.«to».sh,.int .i64 n.«to».c,.int .i64 n.«to».r,.bool n.«to».ac,.bool n.«to».ar,.slice Ak 0 ck] 48)) wr.heap.size n (.slice Ak 0 ck):=NdAt.new wr n _
      have HB3:=Lib.hid (HB.out.trans (hB3.mono HB.out.size))
      have HO3:=Lib.hid (HO.out.alloc (.cells #[.int .i64 n.kind,.int .i64 n.num,.string n.text,.string n.ref.sh,.int .i64 n.ref.c,.int .i64 n.ref.r,.bool n.ref.ac,.bool n.ref.ar,.string n.«to».sh,.int .i64 n.«to».c,.int .i64 n.«to».r,.bool n.«to».ac,.bool n.«to».ar,.slice Ak 0 ck] 48))
      clear hB3
      go_upto_region 6 with (fail)
      generalize hb3:wr.heap.size=b3 at HN3 ⊢
      generalize wr.alloc (.cells #[.int .i64 n.kind,.int .i64 n.num,.string n.text,.string n.ref.sh,.int .i64 n.ref.c,.int .i64 n.ref.r,.bool n.ref.ac,.bool n.ref.ar,.string n.«to».sh,.int .i64 n.«to».c,.int .i64 n.«to».r,.bool n.«to».ac,.bool n.«to».ar,.slice Ak 0 ck] 48)=w3 at HN3 HB3 HO3 ⊢
      clear hb3 k0 k1 k2 k3 k4 k5 k6 k7 k8 k9 k10 k11 k12 k13 HO
      have HN3:=Lib.hid HN3
      obtain ⟨f,hf⟩:∃ f,st.length - 0=f:=⟨_,rfl⟩
      have hml:0≤st.length:=Nat.zero_le _
      have hfL:f≤st.length:=by omega
      have HS1:=Lib.hid (show ∀ W,Below w3.heap.size w3 W→SI W w3.heap.size (.slice none 0 0) (st.drop f) from fun W hW=>⟨none,0,by rw [HST.out];simp,by rw [HST.out];simp,by unfold maxLen;omega,.inl (by rw [HST.out];simp)⟩)
      have HSK3:=Lib.hid (HSK.out.below HB3.out (Nat.le_refl _))
      by_cases hdk:st.drop f=n.kids
      rotate_left
      · have HT2:=Lib.hid (show treeB (vs.map (·.1))=false by rw [HT.out,HD.out,treeF_cons,HM.out,hf,decide_eq_false hdk,Bool.false_and,Bool.and_false,Bool.and_false])
        exact absurd HT2.out (by rw [HYES.out];decide)
      have HEQ:=Lib.hid (show ∀ W,Below w3.heap.size w3 W→Calls Tryz.prog 77 #[.slice none 0 0,.slice Ak 0 ck] W fun e w'=>e = .returned (.bool true)∧Below W.heap.size W w' from fun W hW=>by
       have:=equal_any W w3.heap.size _ _ _ _ (HS1.out W hW) ((HSK3.out.mono HB3.out.size).below hW (Nat.le_refl _))
       rw [decide_eq_true hdk] at this;exact this)
      have HDK:=Lib.hid hdk
      cases hnb:nodeB n
      · have HT2:=Lib.hid (show treeB (vs.map (·.1))=false by rw [HT.out,HD.out,treeF_cons,hnb,Bool.false_and])
        exact absurd HT2.out (by rw [HYES.out];decide)
      · have HT2:=Lib.hid (show treeB (vs.map (·.1))=treeF (st.take f++[(i:Int)]) (i+1) ((vs.map (·.1)).drop (i+1)) by rw [HT.out,HD.out,treeF_cons,hnb,HM.out,decide_eq_true hml,hf,decide_eq_true hdk,Bool.true_and,Bool.true_and,Bool.true_and])
        have HNO:=Lib.hid (show ∀ W,Below w3.heap.size w3 W→Calls Tryz.prog 78 #[.agg #[.int .i64 n.kind,.int .i64 n.num,.string n.text,.string n.ref.sh,.int .i64 n.ref.c,.int .i64 n.ref.r,.bool n.ref.ac,.bool n.ref.ar,.string n.«to».sh,.int .i64 n.«to».c,.int .i64 n.«to».r,.bool n.«to».ac,.bool n.«to».ar,.slice Ak 0 ck]] W fun e w'=>e = .returned (.bool true)∧Below W.heap.size W w' from fun W hW=>by
         exact isNode_yes W n (HV.out.below (HB3.out.trans (hW.mono HB3.out.size))) HZ1.out HZ2.out HZ3.out Ak 0 ck HMM.out (by rw [← HM.out,isNd_eq,hnb]))
        clear hml hdk hnb
        refine wp_region_held_drew (S:=fun W=>Below w3.heap.size w3 W) (by kernel_rfl) (Below.drew (Below.refl w3.heap.size w3)) (fun _ => ?_)
        show wpAnyH _ _ _ _ _ 16 #[false,false,false,false,false,false,false,false,false,false,false,false,false,false,false,false] _ _
        refine hT 0 (Below.drew (Below.refl w3.heap.size w3)) ?_
        refine hT 1 (Below.drew (Below.refl w3.heap.size w3)) ?_
        refine hT 2 (Below.drew (Below.refl w3.heap.size w3)) ?_
        refine hT 3 (Below.drew (Below.refl w3.heap.size w3)) ?_
        refine hT 4 (Below.drew (Below.refl w3.heap.size w3)) ?_
        refine hT 5 (Below.drew (Below.refl w3.heap.size w3)) ?_
        refine hT 6 (Below.drew (Below.refl w3.heap.size w3)) ?_
        refine hT 7 (Below.drew (Below.refl w3.heap.size w3)) ?_ (hy:=by (intro wS hSw;have hz:=(HN3.out.below hSw HN3.out.lt).cells;go_simp;try (with_reducible rfl)))
        refine hO 8 (fun K hK => ?_)
        go_simp
        refine (HEQ.out _ (Below.drew (Below.refl w3.heap.size w3))).mono ?_
        rintro e w4 ⟨rfl,h1⟩
        have HE:=Lib.hid ((Below.drew (Below.refl w3.heap.size w3)).trans h1)
        clear h1
        go_wp2_with fail
        refine hK.out _ _ HE.out ?_
        clear hK K
        simp only [Act.put,sT,sZ,sS]
        refine hT 9 HE.out ?_
        refine hT 10 HE.out ?_
        refine hT 11 HE.out ?_
        refine hT 12 HE.out ?_ (hy:=by (intro wS hSw;have hz:=(HN3.out.below hSw HN3.out.lt).cells;go_simp;try (with_reducible rfl)))
        refine hO 13 (fun K hK => ?_)
        go_simp
        refine (HNO.out _ HE.out).mono ?_
        rintro e w5 ⟨rfl,h1⟩
        have HF:=Lib.hid (HE.out.trans (h1.mono HE.out.size))
        clear h1
        go_wp2_with fail
        refine hK.out _ _ HF.out ?_
        clear hK K
        simp only [Act.put,sT,sZ,sS]
        refine hT 14 HF.out ?_
        refine hT 15 HF.out ?_
        refine wpAnyH_done (by kernel_rfl) ?_ _
        have HB5:=Lib.hid (HB3.out.trans (HF.out.mono HB3.out.size))
        have HO5:=Lib.hid (HO3.out.below HF.out (Nat.le_refl _))
        have hlt5:(st.take f).length≤1000:=by rw [List.length_take];omega
        go_wp2_with (at_builtin;refine wpList_app HEL.out (encInt .i64) rfl (.tmp 38) (.tmp 40) rfl w.heap.size (.slice none 0 0) (st.take f) rfl ((show Own (encInt .i64) 3 w5 w.heap.size (.slice none 0 0) (st.take f) from by rw [HST.out,List.take_nil];exact Own.nil _ _ _ _).alloc _) ⟨w5.heap.size,0,none⟩ 1 1 [(i:Int)] rfl rfl ?_ ?_ ?_ ?_ ?_;exact cells_new _ _ _ rfl;exact Nat.le_trans (Nat.mul_le_mul_left _ hEB) (by omega);(unfold maxLen;omega);(have:=HB5.out.size;simp <;> omega);intro kv' w6 h1 h2;have HO6:=Lib.hid h1;have HB6:=Lib.hid (((HB5.out.alloc HB5.out.size _)).trans h2);clear h1 h2)
        go_roundw
        case rel=>exact ⟨i+1,st.take f++[(i:Int)],kv',by omega,by rw [List.length_append,List.length_take,List.length_singleton];omega,rfl,by go_num,HT2,HO6,HB6⟩
        case measure=>simp [intOf];omega
    · skip
      by_cases hml:m≤st.length
      rotate_left
      · have hneg:(st.length:Int) - (m:Int)<0:=by omega
        have HT2:=Lib.hid (show treeB (vs.map (·.1))=false by rw [HT.out,HD.out,treeF_cons,HM.out,decide_eq_false hml,Bool.false_and,Bool.and_false])
        exact absurd HT2.out (by rw [HYES.out];decide)
      obtain ⟨f,hf⟩:∃ f,st.length - m=f:=⟨_,rfl⟩
      have hw1 : -9223372036854775808≤(st.length:Int) - (m:Int):=by omega
      have hw2:(st.length:Int) - (m:Int)≤9223372036854775807:=by omega
      have hfi:(st.length:Int) - (m:Int)=(f:Int):=by omega
      have hfn:¬ (f:Int)<0:=by omega
      have hf0:(0:Int)≤(f:Int):=by omega
      have hfl:(f:Int)≤(st.length:Int):=by omega
      have hfL:f≤st.length:=by omega
      have hB3:Below wr.heap.size wr (wr.alloc (.cells #[.int .i64 n.kind,.int .i64 n.num,.string n.text,.string n.ref.sh,.int .i64 n.ref.c,.int .i64 n.ref.r,.bool n.ref.ac,.bool n.ref.ar,.string n.«to».sh,.int .i64 n.«to».c,.int .i64 n.«to».r,.bool n.«to».ac,.bool n.«to».ar,.slice Ak m ck] 48)):=(Below.refl _ _).alloc (Nat.le_refl _) _
      have HN3:NdAt (wr.alloc (.cells #[.int .i64 n.kind,.int .i64 n.num,.string n.text,.string n.ref.sh,.int .i64 n.ref.c,.int .i64 n.ref.r,.bool n.ref.ac,.bool n.ref.ar,.string n.«to».sh,.int .i64 n.«to».c,.int .i64 n.«to».r,.bool n.«to».ac,.bool n.«to».ar,.slice Ak m ck] 48)) wr.heap.size n (.slice Ak m ck):=NdAt.new wr n _
      have HB3:=Lib.hid (HB.out.trans (hB3.mono HB.out.size))
      have HO3:=Lib.hid (HO.out.alloc (.cells #[.int .i64 n.kind,.int .i64 n.num,.string n.text,.string n.ref.sh,.int .i64 n.ref.c,.int .i64 n.ref.r,.bool n.ref.ac,.bool n.ref.ar,.string n.«to».sh,.int .i64 n.«to».c,.int .i64 n.«to».r,.bool n.«to».ac,.bool n.«to».ar,.slice Ak m ck] 48))
      clear hB3
      go_upto_region 6 with (fail)
      generalize hb3:wr.heap.size=b3 at HN3 ⊢
      generalize wr.alloc (.cells #[.int .i64 n.kind,.int .i64 n.num,.string n.text,.string n.ref.sh,.int .i64 n.ref.c,.int .i64 n.ref.r,.bool n.ref.ac,.bool n.ref.ar,.string n.«to».sh,.int .i64 n.«to».c,.int .i64 n.«to».r,.bool n.«to».ac,.bool n.«to».ar,.slice Ak m ck] 48)=w3 at HN3 HB3 HO3 ⊢
      clear hb3 k0 k1 k2 k3 k4 k5 k6 k7 k8 k9 k10 k11 k12 k13 HO
      have HN3:=Lib.hid HN3
      have hflc:(f:Int)≤(rcap:Int):=by omega
      obtain ⟨AT,hAT⟩:∃ AT,(if rcap=f then some (⟨rg,0,none⟩:Addr) else some ⟨rg,f,none⟩)=AT:=⟨_,rfl⟩
      have HS1:=Lib.hid (show ∀ W,Below w3.heap.size w3 W→SI W w3.heap.size (.slice AT (st.length - f) (rcap - f)) (st.drop f) from fun W hW=>by rw [← hAT];exact (SI.tail HO3.out f hfL hrc hrm (by have:=(HO3.out.blockLt rg rfl).2.1;exact this)).below hW (Nat.le_refl _))
      have HSK3:=Lib.hid (HSK.out.below HB3.out (Nat.le_refl _))
      by_cases hdk:st.drop f=n.kids
      rotate_left
      · have HT2:=Lib.hid (show treeB (vs.map (·.1))=false by rw [HT.out,HD.out,treeF_cons,HM.out,hf,decide_eq_false hdk,Bool.false_and,Bool.and_false,Bool.and_false])
        exact absurd HT2.out (by rw [HYES.out];decide)
      have HEQ:=Lib.hid (show ∀ W,Below w3.heap.size w3 W→Calls Tryz.prog 77 #[.slice AT (st.length - f) (rcap - f),.slice Ak m ck] W fun e w'=>e = .returned (.bool true)∧Below W.heap.size W w' from fun W hW=>by
       have:=equal_any W w3.heap.size _ _ _ _ (HS1.out W hW) ((HSK3.out.mono HB3.out.size).below hW (Nat.le_refl _))
       rw [decide_eq_true hdk] at this;exact this)
      have HDK:=Lib.hid hdk
      cases hnb:nodeB n
      · have HT2:=Lib.hid (show treeB (vs.map (·.1))=false by rw [HT.out,HD.out,treeF_cons,hnb,Bool.false_and])
        exact absurd HT2.out (by rw [HYES.out];decide)
      · have HT2:=Lib.hid (show treeB (vs.map (·.1))=treeF (st.take f++[(i:Int)]) (i+1) ((vs.map (·.1)).drop (i+1)) by rw [HT.out,HD.out,treeF_cons,hnb,HM.out,decide_eq_true hml,hf,decide_eq_true hdk,Bool.true_and,Bool.true_and,Bool.true_and])
        have HNO:=Lib.hid (show ∀ W,Below w3.heap.size w3 W→Calls Tryz.prog 78 #[.agg #[.int .i64 n.kind,.int .i64 n.num,.string n.text,.string n.ref.sh,.int .i64 n.ref.c,.int .i64 n.ref.r,.bool n.ref.ac,.bool n.ref.ar,.string n.«to».sh,.int .i64 n.«to».c,.int .i64 n.«to».r,.bool n.«to».ac,.bool n.«to».ar,.slice Ak m ck]] W fun e w'=>e = .returned (.bool true)∧Below W.heap.size W w' from fun W hW=>by
         exact isNode_yes W n (HV.out.below (HB3.out.trans (hW.mono HB3.out.size))) HZ1.out HZ2.out HZ3.out Ak m ck HMM.out (by rw [← HM.out,isNd_eq,hnb]))
        clear hml hdk hnb
        refine wp_region_held_drew (S:=fun W=>Below w3.heap.size w3 W) (by kernel_rfl) (Below.drew (Below.refl w3.heap.size w3)) (fun _ => ?_)
        show wpAnyH _ _ _ _ _ 16 #[false,false,false,false,false,false,false,false,false,false,false,false,false,false,false,false] _ _
        refine hT 0 (Below.drew (Below.refl w3.heap.size w3)) ?_
        refine hT 1 (Below.drew (Below.refl w3.heap.size w3)) ?_
        refine hT 2 (Below.drew (Below.refl w3.heap.size w3)) ?_
        refine hT 3 (Below.drew (Below.refl w3.heap.size w3)) ?_
        refine hT 4 (Below.drew (Below.refl w3.heap.size w3)) ?_
        refine hT 5 (Below.drew (Below.refl w3.heap.size w3)) ?_
        refine hT 6 (Below.drew (Below.refl w3.heap.size w3)) ?_
        refine hT 7 (Below.drew (Below.refl w3.heap.size w3)) ?_ (hy:=by (intro wS hSw;have hz:=(HN3.out.below hSw HN3.out.lt).cells;go_simp;try (with_reducible rfl)))
        refine hO 8 (fun K hK => ?_)
        go_simp
        refine (HEQ.out _ (Below.drew (Below.refl w3.heap.size w3))).mono ?_
        rintro e w4 ⟨rfl,h1⟩
        have HE:=Lib.hid ((Below.drew (Below.refl w3.heap.size w3)).trans h1)
        clear h1
        go_wp2_with fail
        refine hK.out _ _ HE.out ?_
        clear hK K
        simp only [Act.put,sT,sZ,sS]
        refine hT 9 HE.out ?_
        refine hT 10 HE.out ?_
        refine hT 11 HE.out ?_
        refine hT 12 HE.out ?_ (hy:=by (intro wS hSw;have hz:=(HN3.out.below hSw HN3.out.lt).cells;go_simp;try (with_reducible rfl)))
        refine hO 13 (fun K hK => ?_)
        go_simp
        refine (HNO.out _ HE.out).mono ?_
        rintro e w5 ⟨rfl,h1⟩
        have HF:=Lib.hid (HE.out.trans (h1.mono HE.out.size))
        clear h1
        go_wp2_with fail
        refine hK.out _ _ HF.out ?_
        clear hK K
        simp only [Act.put,sT,sZ,sS]
        refine hT 14 HF.out ?_
        refine hT 15 HF.out ?_
        refine wpAnyH_done (by kernel_rfl) ?_ _
        have HB5:=Lib.hid (HB3.out.trans (HF.out.mono HB3.out.size))
        have HO5:=Lib.hid (HO3.out.below HF.out (Nat.le_refl _))
        have hlt5:(st.take f).length≤1000:=by rw [List.length_take];omega
        go_wp2_with (at_builtin;refine wpList_app HEL.out (encInt .i64) rfl (.tmp 38) (.tmp 40) rfl w.heap.size (.slice (some ⟨rg,0,none⟩) f rcap) (st.take f) rfl ((own_take HO5.out f hfL).alloc _) ⟨w5.heap.size,0,none⟩ 1 1 [(i:Int)] rfl rfl ?_ ?_ ?_ ?_ ?_;exact cells_new _ _ _ rfl;exact Nat.le_trans (Nat.mul_le_mul_left _ hEB) (by omega);(unfold maxLen;omega);(have:=HB5.out.size;simp <;> omega);intro kv' w6 h1 h2;have HO6:=Lib.hid h1;have HB6:=Lib.hid (((HB5.out.alloc HB5.out.size _)).trans h2);clear h1 h2)
        go_roundw
        case rel=>exact ⟨i+1,st.take f++[(i:Int)],kv',by omega,by rw [List.length_append,List.length_take,List.length_singleton];omega,rfl,by go_num,HT2,HO6,HB6⟩
        case measure=>simp [intOf];omega
  · have hii:¬ (i:Int)<(nl:Int):=by omega
    have hin:i=nl:=by omega
    have HT2:=Lib.hid (show treeB (vs.map (·.1))=decide (st.length=1) by
     rw [HT.out,List.drop_of_length_le (by rw [List.length_map,HNL.out];omega)];rfl)
    rcases HO.out.shape with ⟨rfl,hst⟩ | ⟨rg,rcap,rfl, -⟩
    · rw [hst] at HT2
      exact absurd HT2.out (by rw [HYES.out];decide)
    · by_cases h1:st.length=1
      · have h1i:((st.length:Int) == 1)=true:=by rw [beq_iff_eq];omega
        clear h1 HT2
        go_wp2_with fail
        go_ret
        exact ⟨rfl,HB.out⟩
      · rw [decide_eq_false h1,HYES.out] at HT2
        exact absurd HT2.out (by decide)
theorem Own.si {w:World} {lo:Nat} {v:Value} {xs:List Int} (h:Own (encInt .i64) 3 w lo v xs):SI w w.heap.size v xs:=by
 rcases h.shape with ⟨rfl,rfl⟩ | ⟨g,cap,rfl,h1,h2,h3,h4⟩
 · exact ⟨none,0,rfl,Nat.le_refl _,by unfold maxLen;omega,.inl rfl⟩
 · refine ⟨_,cap,rfl,h3,h4,.inr ⟨g,0,rfl,h2,fun j x hj => ?_⟩⟩
   rw [Nat.zero_add]
   have:=(encInt .i64).at xs j 0 x hj (by omega)
   rw [Nat.mul_one,Nat.add_zero] at this
   exact Own.cells h j _ (by rw [this];rfl)
theorem NodV.sn {w:World} {lo g n cap:Nat} {vs:List Nv} (h:NodV w lo (.slice (some ⟨g,0,none⟩) n cap) vs) (hn:vs.length=n):SN w w.heap.size (.slice (some ⟨g,0,none⟩) n cap) (vs.map fun v=>(v.n,v.kv)):=by
 refine ⟨⟨_,cap,by rw [List.length_map,hn],.inr ⟨g,0,rfl,(Own.blockLt h.1 g rfl).2.1,fun i nd k hi j hj => ?_⟩⟩, ?_⟩
 · rw [List.getElem?_map] at hi
   obtain ⟨v,hv,e⟩:=Option.map_eq_some_iff.1 hi
   injection e with e1 e2;subst e1;subst e2
   rw [Nat.zero_add];exact h.cell i v hv j hj
 · intro p hp
   obtain ⟨v,hv,rfl⟩:=List.mem_map.1 hp
   exact (h.2 v hv).si
theorem sn_fst (vs:List Nv):(vs.map fun v=>(v.n,v.kv)).map (·.1)=vs.map Nv.n:=by rw [List.map_map];rfl
theorem takeN {α : Type} {xs ys:List α} {k:Nat} {x : α} (h:xs.take k=ys.take k) (hx:xs[k]? = some x) (hy:ys[k]? = some x):xs.take (k+1)=ys.take (k+1):=by
 rw [List.take_add_one,List.take_add_one,h,hx,hy]
theorem SN.lenle {w:World} {B:Nat} {v:Value} {vs:List (Nd × Value)} (h:SN w B v vs):∃ A cap,v = .slice A vs.length cap:=by
 obtain ⟨⟨A,cap,h,_⟩,_⟩:=h;exact ⟨A,cap,h⟩
theorem SN.cellAt {w:World} {B:Nat} {A:Option Addr} {L cap:Nat} {vs:List (Nd × Value)} (h:SN w B (.slice A L cap) vs) {i:Nat} {n:Nd} {k:Value} (hi:vs[i]? = some (n,k)):SI w B k n.kids∧∃ pb po,A=some ⟨pb,po,none⟩∧pb<B∧∀ j,j<14→w.cell? ⟨pb,po+i*14+j,none⟩=(nodA n k).toList[j]? := by
 obtain ⟨⟨A',cap',h1,h2⟩,h3⟩:=h
 injection h1 with e1 e2 e3
 subst e1
 refine ⟨h3 _ (List.mem_of_getElem? hi), ?_⟩
 rcases h2 with rfl | ⟨pb,po,e1,e2,e3⟩
 · simp at hi
 · exact ⟨pb,po,e1,e2,e3 i n k hi⟩
theorem text_sames {a b:ByteArray} (h:a.toList=b.toList):a=b:=by
 rw [ByteArray.toList_eq,ByteArray.toList_eq,Array.toList_inj] at h
 cases a;cases b;simp only at h;rw [h]
theorem nd_eq {a c:Nd} (h0:a.kind=c.kind) (h1:a.num=c.num) (h2:a.text.toList=c.text.toList) (h3:a.ref.sh.toList=c.ref.sh.toList) (h4:a.ref.c=c.ref.c) (h5:a.ref.r=c.ref.r) (h6:a.ref.ac=c.ref.ac) (h7:a.ref.ar=c.ref.ar)
 (h8:a.«to».sh.toList=c.«to».sh.toList) (h9:a.«to».c=c.«to».c) (h10:a.«to».r=c.«to».r) (h11:a.«to».ac=c.«to».ac) (h12:a.«to».ar=c.«to».ar) (h13:a.kids=c.kids):a=c:=by
 obtain ⟨k,n,t,⟨r1,r2,r3,r4,r5⟩,⟨t1,t2,t3,t4,t5⟩,ks⟩:=a
 obtain ⟨k',n',t',⟨r1',r2',r3',r4',r5'⟩,⟨t1',t2',t3',t4',t5'⟩,ks'⟩:=c
 have g2:=text_sames h2;have g3:=text_sames h3;have g8:=text_sames h8
 dsimp only at h0 h1 g2 g3 h4 h5 h6 h7 g8 h9 h10 h11 h12 h13
 subst h0;subst h1;subst g2;subst g3;subst h4;subst h5;subst h6;subst h7;subst g8;subst h9;subst h10;subst h11;subst h12;subst h13
 rfl
theorem two_nd (w:World) (a c:Nd) (ka kc:Value):NdAt ((w.alloc (.cells (nodA a ka) 48)).alloc (.cells (nodA c kc) 48)).drew w.heap.size a ka∧NdAt ((w.alloc (.cells (nodA a ka) 48)).alloc (.cells (nodA c kc) 48)).drew (w.heap.size+1) c kc∧Below w.heap.size w ((w.alloc (.cells (nodA a ka) 48)).alloc (.cells (nodA c kc) 48)).drew:=by
 have hs:(w.alloc (.cells (nodA a ka) 48)).heap.size=w.heap.size+1:=by simp
 have h1:=NdAt.new w a ka
 have h2:=NdAt.new (w.alloc (.cells (nodA a ka) 48)) c kc
 rw [hs] at h2
 exact ⟨h1.below ((Below.refl _ _).alloc (Nat.le_refl _) _).drew h1.lt,h2,(((Below.refl _ _).alloc (Nat.le_refl _) _).alloc (by omega) _).drew⟩
theorem SN.fq {w w':World} {b:Nat} {v:Value} {vs:List (Nd × Value)} (h:SN w b v vs) (hf:Fq w w' b) (hw:b<w.heap.size):SN w' b v vs:=by
 obtain ⟨⟨A,cap,h1,h2⟩,h3⟩:=h
 refine ⟨⟨A,cap,h1,h2.imp id ?_⟩,fun p hp=>(h3 p hp).fq hf (Nat.le_refl _) hw⟩
 rintro ⟨pb,po,e1,e2,e3⟩
 exact ⟨pb,po,e1,e2,fun i n k hi j hj=>(World.cell?_of_block (a:=⟨pb,po+i*14+j,none⟩) (hf.block pb (by omega) (by omega) (.inl e2))).trans (e3 i n k hi j hj)⟩
theorem SN.lift {w w':World} {B C:Nat} {v:Value} {vs:List (Nd × Value)} (h:SN w B v vs) (hb:Below B w w') (hC:B≤C):SN w' C v vs:=by
 obtain ⟨⟨A,cap,h1,h2⟩,h3⟩:=h
 refine ⟨⟨A,cap,h1,h2.imp id ?_⟩,fun p hp => ?_⟩
 · rintro ⟨pb,po,e1,e2,e3⟩
   exact ⟨pb,po,e1,by omega,fun i n k hi j hj=>(hb.cell (p:=⟨pb,po+i*14+j,none⟩) e2).trans (e3 i n k hi j hj)⟩
 · obtain ⟨A2,c2,g1,g2,g3,g4⟩:=h3 p hp
   refine ⟨A2,c2,g1,g2,g3,g4.imp id ?_⟩
   rintro ⟨pb,po,e1,e2,e3⟩
   exact ⟨pb,po,e1,by omega,fun j x hj=>(hb.cell (p:=⟨pb,po+j,none⟩) e2).trans (e3 j x hj)⟩
def slen (o:Option Value):Nat:=match o with | some (.slice _ n _)=>n | _=>0
theorem slen_own {α : Type} {size:Nat} {E:Enc α size} {e:TypeId} {w:World} {base:Nat} {v:Value} {xs:List α} (h:Own E e w base v xs):slen (some v)=xs.length:=by
 rcases h.shape with ⟨rfl,rfl⟩ | ⟨g,cap,rfl, -⟩
 · rfl
 · rfl
def wm (b L:Nat) (w:World):Nat:=2*(L - slen (w.cell? ⟨b,3,none⟩)) - slen (w.cell? ⟨b,1,none⟩)
theorem WQ.wm {w:World} {b:Nat} {nv:Value} {st:List Pt} {txt:List Int} (h:WQ w b nv st txt) (L:Nat):wm b L w=2*(L - txt.length) - st.length:=by
 obtain ⟨wv,⟨ad,bv,h1,_,h3,_⟩,h4⟩:=h
 obtain ⟨-,c1, -,c3⟩:=h1.facts
 unfold Go.Proofs.YtdnooocmlhcpkaaGreatDoor.wm
 rw [c1,c3,slen_own h4,slen_own h3]
theorem WQ.wait {w:World} {b:Nat} {nv:Value} {st:List Pt} {txt:List Int} (h:WQ w b nv st txt):∃ A c,w.cell? ⟨b,1,none⟩=some (.slice A st.length c):=by
 obtain ⟨wv,⟨ad,bv,h1, -⟩,h4⟩:=h
 have c1:=h1.facts.2.1
 rcases h4.shape with ⟨rfl,rfl⟩ | ⟨g,cap,rfl, -⟩
 · exact ⟨_,_,c1⟩
 · exact ⟨_,_,c1⟩
set_option maxRecDepth 100000 in
set_option maxHeartbeats 8000000 in
theorem print_tree (w:World) (v:Value) (vs:List (Nd × Value)) (hv:Vars w) (htab:Tab w) (hmax:MaxV w) (hsh:ShV w) (h:SN w w.heap.size v vs) (hz:SZ vs) (hnum:∀ q∈vs,q.1.num≤9223372036854775807) (hlen:(printL (vs.map (·.1))).length≤1000000000) (ht:treeB (vs.map (·.1))=true) :
 Calls Tryz.prog 59 #[v] w fun e w'=>e = .returned (.string (strOfNums (printL (vs.map (·.1)))))∧Below w.heap.size w w':=by
 have hT:=ptree_yes w v vs hv h hz ht
 have HT:=Lib.hid hT
 obtain ⟨l,hl⟩:∃ l,vs.map (·.1)=l:=⟨_,rfl⟩
 have hpos:0<vs.length:=by
  rcases Nat.eq_zero_or_pos vs.length with e | e
  · rw [List.length_eq_zero_iff.1 e] at ht;exact absurd ht (by decide)
  · exact e
 have hlv:l.length=vs.length:=by rw [← hl,List.length_map]
 obtain ⟨L,hL⟩:∃ L,(printL l).length=L:=⟨_,rfl⟩
 rw [hl,hL] at hlen
 have hpl:printL l=shN l ((l.length:Int) - 1):=by unfold printL shN;rw [if_pos (hl ▸ ht)]
 have hp0:ptL l (Pt.op ((l.length:Int) - 1) 1)=printL l:=by rw [ptL_op,inL_any,hpl]
 have hok0:PtOk l (Pt.op ((l.length:Int) - 1) 1):=PtOk.op (by omega) (by omega) 1
 rw [hlv] at hp0 hok0
 obtain ⟨N,hN⟩:∃ N,vs.length=N:=⟨_,rfl⟩
 have hN9:N≤1000:=by rw [← hN];exact hz.1
 rw [hN] at hp0 hok0 hpos
 have hw1:wrap64 ((N:Int) - 1)=(N:Int) - 1:=by unfold wrap64;omega
 obtain ⟨A,cap,hva⟩:=h.lenle
 rw [hN] at hva
 subst hva
 have HSN:=Lib.hid h;have HZ:=Lib.hid hz;have HNUM:=Lib.hid hnum;have HTR:=Lib.hid ht
 have HL:=Lib.hid hl;have HLL:=Lib.hid hL;have HP0:=Lib.hid hp0;have HOK0:=Lib.hid hok0
 have HG0:=Lib.hid (show Tab w∧MaxV w∧ShV w from ⟨htab,hmax,hsh⟩)
 rw [hl]
 clear hT hv htab hmax hsh h hz hnum ht hl hL hpl hp0 hok0 hlv hN
 go_enter Tryz.func59,Tryz.ntmps59
 go_upto_region 3 with (go_at_call 52;((with_reducible refine HT.out.mono ?_);rintro e w1 ⟨rfl,h1⟩;have H1:=Lib.hid h1;clear h1))
 go_upto_region 4 with (fail)
 have hwr:WrAt (w1.alloc (.cells #[.slice A N cap,.slice none 0 0,.pointer none,.slice none 0 0] 136)) w1.heap.size (.slice A N cap) (.slice none 0 0) (.pointer none) (.slice none 0 0):=(Go.MapKept.heap_alloc w1 _).1
 have hB2:Below w1.heap.size w1 (w1.alloc (.cells #[.slice A N cap,.slice none 0 0,.pointer none,.slice none 0 0] 136)):=(Below.refl _ _).alloc (Nat.le_refl _) _
 obtain ⟨b,hb⟩:∃ b,w1.heap.size=b:=⟨_,rfl⟩
 obtain ⟨w2,hw2⟩:∃ w2,w1.alloc (.cells #[.slice A N cap,.slice none 0 0,.pointer none,.slice none 0 0] 136)=w2:=⟨_,rfl⟩
 have hwb:w.heap.size≤b:=by rw [← hb];exact H1.out.size
 have HB02:=Lib.hid (H1.out.trans (hB2.mono H1.out.size))
 rw [hw2] at hwr HB02 ⊢
 rw [hb] at hwr ⊢
 have hbl:b<w2.heap.size:=hwr.lt
 have HQ2:=Lib.hid (show WQ w2 b (.slice A N cap) [] [] from ⟨_,⟨_,_,hwr,.inl rfl,Own.nil _ _ _ _,fun x hx=>absurd hx (by simp)⟩,Own.nil _ _ _ _⟩)
 have HG2:=Lib.hid (show Gl w w2 b from ⟨hwb,HB02.out,HG0.out⟩)
 have HSN2:=Lib.hid (HSN.out.lift HB02.out hwb)
 have HPU:=Lib.hid (fun (wr:World) (hr:Below w2.heap.size w2 wr)=>push_lit wr b (.slice A N cap) [] [Pt.op ((N:Int) - 1) 1] [] #[.string ⟨#[]⟩,.int .i64 ((N:Int) - 1),.int .i64 1] 1 rfl rfl (HQ2.out.below hr) (by show 1≤1000000;decide) (Nat.zero_le _))
 clear hw2 hb hwr hB2 HT
 go_upto_region 5 with (first
  | (go_at_call 89;((with_reducible refine (op_lit _ _ _).mono ?_);rintro e w3 ⟨rfl,h3⟩;have HB3:=Lib.hid h3;clear h3))
  | (go_at_call 88;((with_reducible refine (HPU.out _ HB3.out).mono ?_);rintro e w4 ⟨rfl,h3,h4⟩;have HQ4:=Lib.hid h3;have HF4:=Lib.hid ((Fq.ofBelow HB3.out).trans h4);clear h3 h4)))
 go_loopw [] (fun wr=>∃ (st:List Pt) (txt:List Int),Hid (WQ wr b (.slice A N cap) st txt)∧Hid (Fq w2 wr b)∧Hid (∀ p∈st,PtOk l p)∧Hid (txt++st.reverse.flatMap (ptL l)=printL l))
  (fun wr=>wm b L wr)
 case atStart=>exact ⟨[Pt.op ((N:Int) - 1) 1],[],HQ4,HF4,Lib.hid (fun p hp=>by rw [List.mem_singleton.1 hp];exact HOK0.out),Lib.hid (by show ptL l (Pt.op ((N:Int) - 1) 1)++[]=_;rw [List.append_nil];exact HP0.out)⟩
 case round =>
  obtain ⟨st,txt,HQ,HF,HOK,HE⟩:=hrel
  rcases List.eq_nil_or_concat st with rfl | ⟨st',p,rfl⟩
  · obtain ⟨Aw,cw,c1⟩:=HQ.out.wait
    rw [List.length_nil] at c1
    have HTX:=Lib.hid (show txt=printL l from by have h:=HE.out;rw [List.reverse_nil,List.flatMap_nil,List.append_nil] at h;exact h)
    obtain ⟨wv,hws, -⟩:=HQ.out
    have HSTR:=Lib.hid (string_any wr b (.slice A N cap) wv txt hws (by rw [HTX.out];exact HL.out ▸ tree_ne HTR.out (fun n hn=>by obtain ⟨q,hq,rfl⟩:=List.mem_map.1 hn;exact HNUM.out q hq)))
    clear hws
    go_wp2_with (go_at_call 92;((with_reducible refine HSTR.out.mono ?_);rintro e w5 ⟨rfl,h3⟩;have H5:=Lib.hid h3;clear h3))
    go_ret
    refine ⟨by rw [HTX.out] <;> rfl, ?_⟩
    have hg:=((HG2.out.fq HF.out)).2.1
    exact hg.trans ((H5.out.mono (by omega)))
  · rw [List.concat_eq_append] at HQ HOK HE
    obtain ⟨Aw,cw,c1⟩:=HQ.out.wait
    rw [List.length_append,List.length_singleton] at c1
    obtain ⟨M,hM⟩:∃ M:Nat,st'.length+1=M:=⟨_,rfl⟩
    have hM0:(0:Int)<(M:Int):=by omega
    rw [hM] at c1
    have htr:treeB l=true:=by rw [← HL.out];exact HTR.out
    have hpk:PtOk l p:=HOK.out p (by simp)
    have hE:=HE.out
    rw [List.reverse_append,List.reverse_singleton,List.singleton_append,List.flatMap_cons] at hE
    have hE2:=congrArg List.length hE
    rw [List.length_append,List.length_append,HLL.out] at hE2
    have hfl:=flat_len htr st'.reverse (fun q hq=>HOK.out q (List.mem_append_left _ (List.mem_reverse.1 hq)))
    rw [List.length_reverse] at hfl
    have hSL:=stepP_L htr p hpk
    have hSL2:=congrArg List.length hSL
    rw [List.length_append] at hSL2
    have hSF:=flat_len htr _ (stepP_ok htr p hpk)
    have hSM:=stepP_less htr p hpk
    have HPOP:=Lib.hid (pop_any wr b (.slice A N cap) st' p txt HQ.out (by omega))
    have HWR:=Lib.hid (fun (w5:World) (h5:WQ w5 b (.slice A N cap) st' txt) (hf:Fb wr w5 b)=>writeP_any w w5 b (.slice A N cap) vs st' txt p (HG2.out.fq (HF.out.trans (Fq.ofB hf))) h5 (HSN2.out.fq (HF.out.trans (Fq.ofB hf)) hbl) HZ.out (by rw [HL.out];exact htr) HNUM.out (by rw [HL.out];exact hpk) (by rw [HL.out];omega) (by rw [HL.out];omega))
    rw [HL.out] at HWR
    have HQN:=Lib.hid (fun (w6:World) (hq:WQ w6 b (.slice A N cap) (st'++(stepP l p).2.reverse) (txt++(stepP l p).1))=>show wm b L w6<wm b L wr from by
     rw [hq.wm,HQ.out.wm,List.length_append,List.length_append,List.length_append,List.length_reverse,List.length_singleton];omega)
    have HEN:=Lib.hid (show (txt++(stepP l p).1)++(st'++(stepP l p).2.reverse).reverse.flatMap (ptL l)=printL l from by
     rw [List.reverse_append,List.reverse_reverse,List.flatMap_append,List.append_assoc txt, ← List.append_assoc (stepP l p).1, ← hSL];exact hE)
    have HON:=Lib.hid (show ∀ q∈st'++(stepP l p).2.reverse,PtOk l q from fun q hq=>by
     rcases List.mem_append.1 hq with hq | hq
     · exact HOK.out q (List.mem_append_left _ hq)
     · exact stepP_ok htr p hpk q (List.mem_reverse.1 hq))
    clear hE hE2 hfl hSL hSL2 hSF hSM hM
    go_wp2_with (first
     | (go_at_call 91;((with_reducible refine HPOP.out.mono ?_);rintro e w5 ⟨rfl,h3,h4⟩;have HQ5:=Lib.hid h3;have HF5:=Lib.hid h4;clear h3 h4))
     | (go_at_call 90;((with_reducible refine (HWR.out _ HQ5.out HF5.out).mono ?_);rintro e w6 ⟨rfl,h3,h4⟩;have HQ6:=Lib.hid h3;have HF6:=Lib.hid h4;clear h3 h4)))
    go_roundw
    case rel=>exact ⟨_,_,HQ6,Lib.hid (HF.out.trans ((Fq.ofB HF5.out).trans HF6.out)),HON,HEN⟩
    case measure=>exact HQN.out _ HQ6.out
theorem node_sm {n:Nd} (h:nodeB n=true) (h1:n.ref.sh.size≤1000000) (h2:n.«to».sh.size≤1000000):SmN n:=by
 have hz:∀ f:Rf,noRf f=true→f.r≤1000000∧f.c≤1000000:=fun f hf=>by rw [noRf_of hf];exact ⟨by decide,by decide⟩
 have hm:∀ f:Rf,mayRf f=true→f.r≤1000000∧f.c≤1000000:=fun f hf=>by have:=may_nums hf;omega
 by_cases k5:n.kind=5
 · have hf:=ref_fields h k5
   exact ⟨(hm _ hf.may).1,(hm _ hf.may).2,(hz _ hf.«to»).1,(hz _ hf.«to»).2,h1,h2⟩
 by_cases k6:n.kind=6
 · have hf:=ran_fields h k6
   exact ⟨(hm _ hf.may).1,(hm _ hf.may).2,(hm _ hf.mayT).1,(hm _ hf.mayT).2,h1,h2⟩
 have hl:=node_leaf h
 unfold leafB at hl
 split at hl
 · cases hl
 rename_i c
 have hr:noRf n.ref=true:=by
  cases e:noRf n.ref with
  | true=>rfl
  | false=>exact absurd (.inr (.inr (.inl ⟨k5,k6,e⟩))) c
 have ht:noRf n.«to»=true:=by
  cases e:noRf n.«to» with
  | true=>rfl
  | false=>exact absurd (.inr (.inr (.inr ⟨k6,e⟩))) c
 exact ⟨(hz _ hr).1,(hz _ hr).2,(hz _ ht).1,(hz _ ht).2,h1,h2⟩
theorem tree_few:∀ (l:List Nd) (st:List Int) (i:Nat),treeF st i l=true→st.length≤i→∀ n∈l,n.kids.length≤i+l.length
 | [],_,_,_,_,n,hn=>by cases hn
 | m :: l,st,i,h,hi,n,hn=>by
   rw [treeF_cons,Bool.and_eq_true_iff,Bool.and_eq_true_iff,Bool.and_eq_true_iff] at h
   have h2:m.kids.length≤st.length:=of_decide_eq_true h.2.1
   rcases List.mem_cons.1 hn with rfl | hn
   · rw [List.length_cons];omega
   · have:=tree_few l _ _ h.2.2.2 (by rw [List.length_append,List.length_take];show _+1≤_;omega) n hn
     rw [List.length_cons];omega
theorem nds_in {l:List (Nd × Value)} (ht:treeB (l.map (·.1))=true) (hz:SZ l):NdsIn l :=
 ⟨hz.1,fun p hp=>node_sm (tree_nodes _ [] 0 ht p.1 (List.mem_map_of_mem hp)) (hz.2 p hp).2.1 (hz.2 p hp).2.2,fun p hp=>by
  have:=tree_few _ [] 0 ht (Nat.le_refl _) p.1 (List.mem_map_of_mem hp)
  have:=hz.1
  rw [List.length_map] at *;omega⟩
def MovR (w:World) (own:ByteArray) (ss:List Sf) (ns:List Nd) (e:Ending) (w':World):Prop :=
 ∃ T done,e = .returned (.slice (some ⟨T,0,none⟩) ns.length ns.length)∧SN w' w'.heap.size (.slice (some ⟨T,0,none⟩) ns.length ns.length) done∧done.map (·.1)=moveL own ss ns∧Below w.heap.size w w'∧w.heap.size≤T
set_option maxRecDepth 100000 in
set_option maxHeartbeats 8000000 in
theorem moveNodes_yes (w:World) (own:ByteArray) (xs:List Sw) (A B:Option Addr) (n cap m c:Nat) (l:List (Nd × Value)) (hv:Vars w) (hS:SfR w w.heap.size (.slice B m c) xs) (hm:m≤1000000) (hO:∀ x∈xs,SfOk x.s) (ho:own.size≤maxLen) (hs:SN w w.heap.size (.slice A n cap) l) (hz:SZ l) (ht:treeB (l.map (·.1))=true) :
 Calls Tryz.prog 23 #[.slice A n cap,.string own,.slice B m c] w (MovR w own (sfs xs) (l.map (·.1))):=by
 have hl:l.length=n:=by obtain ⟨⟨A',c',e,_⟩,_⟩:=hs;injection e with _ e _;exact e.symm
 have HT:=Lib.hid (ptree_yes w _ l hv hs hz ht)
 have HMO:=Lib.hid (fun (wq:World) (hq:Below w.heap.size w wq)=>moverOf_any wq own B m c xs (hS.lift hq) hm)
 have HEA:=Lib.hid (fun (wq:World) (hq:Below w.heap.size w wq) (mb:Nat) (hM:MpK wq mb (mapS xs))=>moveEach_any wq own mb xs A n cap l hM (fun x hx=>(hS.2 x hx).lift hq) hO ho ((hs.lift hq hq.size)) hl (nds_in ht hz))
 unfold MovR
 rw [List.length_map,hl]
 clear hv hS hm hO ho hs hz ht hl
 go_enter Tryz.func23,Tryz.ntmps23
 go_wp2_with (first
  | (go_at_call 52;((with_reducible refine HT.out.mono ?_);rintro e w2 ⟨rfl,hq⟩;have H2:=Lib.hid hq;clear hq))
  | (go_at_call 54;((with_reducible refine (HMO.out _ H2.out).mono ?_);rintro e w3 ⟨mb,rfl,h1,h2,hq⟩;have H3:=Lib.hid (H2.out.trans (hq.mono H2.out.size));have HM3:=Lib.hid h2;clear hq h1 h2))
  | (go_at_call 53;((with_reducible refine (HEA.out _ H3.out mb HM3.out).mono ?_);rintro e w4 ⟨done,rfl,h1,h2,hq⟩;have H4:=Lib.hid (H3.out.trans (hq.mono H3.out.size));have HD1:=Lib.hid h1;have HD2:=Lib.hid h2;clear hq h1 h2)))
 go_ret
 exact ⟨_,done,rfl,HD1.out,HD2.out,H4.out,H3.out.size⟩
def kdL:List Int→Int
 | []=>0
 | c :: _=>if c=39 then 1 else if c=61 then 2 else if c=45∨isNum c=true then 3 else 4
def kd (s:ByteArray):Int:=kdL (sb s)
structure Sx (w:World):Prop where
 vars:Vars w
 ops:OpV w
 tab:Tab w
 max:MaxV w
 sh:ShV w
theorem Sx.below {w w':World} (h:Sx w) (hb:Below w.heap.size w w'):Sx w':=⟨h.vars.below hb,h.ops.below hb,h.tab.below hb,h.max.below hb,h.sh.below hb⟩
theorem Sx.printT {w:World} (h:Sx w) (v:Value) (vs:List (Nd × Value)) (hs:SN w w.heap.size v vs) (hz:SZ vs) (hnum:∀ q∈vs,q.1.num≤9223372036854775807) (hlen:(printL (vs.map (·.1))).length≤1000000000) (ht:treeB (vs.map (·.1))=true) :
 Calls Tryz.prog 59 #[v] w fun e w'=>e = .returned (.string (strOfNums (printL (vs.map (·.1)))))∧Below w.heap.size w w':=print_tree w v vs h.vars h.tab h.max h.sh hs hz hnum hlen ht
def TS (M:Nat) (t:Tk):Prop:=t.text.size≤M∧t.sh.size≤M
def NS (M:Nat) (n:Nd):Prop:=n.text.size≤M∧n.ref.sh.size≤M∧n.«to».sh.size≤M
def TSs (M:Nat) (ts:List Tk):Prop:=∀ t∈ts,TS M t
def NSs (M:Nat) (ns:List Nd):Prop:=∀ n∈ns,NS M n
theorem TSs.tail {M:Nat} {ts:List Tk} (h:TSs M ts):TSs M ts.tail:=fun t ht=>h t (List.mem_of_mem_tail ht)
theorem NSs.app {M:Nat} {a b:List Nd} (h:NSs M a) (k:NSs M b):NSs M (a++b):=fun n hn=>(List.mem_append.1 hn).elim (h n) (k n)
theorem NSs.one {M:Nat} {n:Nd} (h:NS M n):NSs M [n]:=fun m hm=>by rw [List.mem_singleton] at hm;subst hm;exact h
theorem NS.plain (M:Nat) (k n:Int) (ks:List Int):NS M { Nd.zero with kind:=k,num:=n,kids:=ks }:=⟨Nat.zero_le _,Nat.zero_le _,Nat.zero_le _⟩
theorem refP_sizes {M base:Nat} {t:Tk} {ts:List Tk} {ns:List Nd} {a:Nat} {r:List Tk} (ht:TS M t) (hs:TSs M ts) (h:refP base t ts = .ok (ns,a,r)):NSs M ns∧TSs M r:=by
 unfold refP at h
 split at h
 · split at h
   · rename_i u us hu
     split at h
     · injection h with h;injection h with h1 h2;injection h2 with h2 h3
       subst h1;subst h3
       have hus:TSs M (u :: us):=by rw [← hu];exact hs.tail
       exact ⟨NSs.one ⟨Nat.zero_le _,ht.2,(hus u (by simp)).2⟩,fun x hx=>hus x (by simp [hx])⟩
     · cases h
   · cases h
 · injection h with h;injection h with h1 h2;injection h2 with h2 h3
   subst h1;subst h3
   exact ⟨NSs.one ⟨Nat.zero_le _,ht.2,Nat.zero_le _⟩,hs⟩
theorem sizes_all (M:Nat):∀ f:Nat,(∀ n deep base ts ns a r,exprP f n deep base ts=some (.ok (ns,a,r))→TSs M ts→NSs M ns∧TSs M r) ∧
 (∀ n deep base ns a ts ns' a' r,rowP f n deep base ns a ts=some (.ok (ns',a',r))→TSs M ts→NSs M ns→NSs M ns'∧TSs M r) ∧
 (∀ deep base ts ns a r,primP f deep base ts=some (.ok (ns,a,r))→TSs M ts→NSs M ns∧TSs M r) ∧
 (∀ deep base ns ks ts ns' ks' r,argsP f deep base ns ks ts=some (.ok (ns',ks',r))→TSs M ts→NSs M ns→NSs M ns'∧TSs M r)
 | 0=>by
   refine ⟨?_, ?_, ?_, ?_⟩
   · intro n deep base ts ns a r h;unfold exprP at h;cases h
   · intro n deep base ns a ts ns' a' r h;unfold rowP at h;cases h
   · intro deep base ts ns a r h;unfold primP at h;cases h
   · intro deep base ns ks ts ns' ks' r h;unfold argsP at h;cases h
 | f + 1 => by
   obtain ⟨i1,i2,i3,i4⟩:=sizes_all M f
   refine ⟨?_, ?_, ?_, ?_⟩
   · intro n deep base ts ns a r h ht
     rw [exprP_succ] at h
     by_cases c:n≤3
     · rw [if_pos c] at h
       rcases bindR_some h with ⟨e,_,h2⟩ | ⟨ms,b,s,h1,h2⟩
       · cases h2
       · obtain ⟨k1,k2⟩:=i1 _ _ _ _ _ _ _ h1 ht
         exact i2 _ _ _ _ _ _ _ _ _ h2 k2 k1
     · rw [if_neg c] at h
       by_cases d:signIs ⟨#[45]⟩ ts=true
       · rw [if_pos d] at h
         by_cases d2:12≤deep
         · rw [if_pos d2] at h;cases h
         · rw [if_neg d2] at h
           rcases bindR_some h with ⟨e,_,h2⟩ | ⟨ms,b,s,h1,h2⟩
           · cases h2
           · obtain ⟨k1,k2⟩:=i1 _ _ _ _ _ _ _ h1 ht.tail
             injection h2 with h2;injection h2 with h2;injection h2 with h3 h4;injection h4 with h4 h5
             subst h3;subst h4;subst h5
             exact ⟨k1.app (NSs.one (NS.plain _ _ _ _)),k2⟩
       · rw [if_neg d] at h;exact i3 _ _ _ _ _ _ h ht
   · intro n deep base ns a ts ns' a' r h ht hn
     rw [rowP_succ] at h
     by_cases c:opK n ts=0
     · rw [if_pos c] at h
       injection h with h;injection h with h;injection h with h1 h2;injection h2 with h2 h3
       subst h1;subst h2;subst h3
       exact ⟨hn,ht⟩
     · rw [if_neg c] at h
       rcases bindR_some h with ⟨e,_,h2⟩ | ⟨ms,b,s,h1,h2⟩
       · cases h2
       · obtain ⟨k1,k2⟩:=i1 _ _ _ _ _ _ _ h1 ht.tail
         exact i2 _ _ _ _ _ _ _ _ _ h2 k2 (hn.app (k1.app (NSs.one (NS.plain _ _ _ _))))
   · intro deep base ts ns a r h ht
     cases ts with
     | nil=>rw [primP_nil] at h;cases h
     | cons t ts =>
       have h0:TS M t:=ht t (by simp)
       have hts:TSs M ts:=fun x hx=>ht x (by simp [hx])
       have leaf:∀ (x:Nd),NS M x→(some (.ok ([x],base,ts)):Option Res)=some (.ok (ns,a,r))→NSs M ns∧TSs M r:=by
        intro x hk h
        injection h with h;injection h with h;injection h with h1 h2;injection h2 with h2 h3
        subst h1;subst h2;subst h3
        exact ⟨NSs.one hk,hts⟩
       rw [primP_cons] at h
       by_cases c1:signIs ⟨#[40]⟩ (t :: ts)=true
       · rw [if_pos c1] at h
         by_cases d2:12≤deep
         · rw [if_pos d2] at h;cases h
         · rw [if_neg d2] at h
           rcases bindR_some h with ⟨e,_,h2⟩ | ⟨ms,b,s,h1,h2⟩
           · cases h2
           · obtain ⟨k1,k2⟩:=i1 _ _ _ _ _ _ _ h1 hts
             split at h2
             · injection h2 with h2;injection h2 with h2;injection h2 with h3 h4;injection h4 with h4 h5
               subst h3;subst h4;subst h5
               exact ⟨k1,k2.tail⟩
             · cases h2
       rw [if_neg c1] at h
       by_cases c2:t.kind=1
       · rw [if_pos c2] at h;exact leaf _ (NS.plain _ _ _ _) h
       rw [if_neg c2] at h
       by_cases c3:t.kind=2
       · rw [if_pos c3] at h;exact leaf _ ⟨h0.1,Nat.zero_le _,Nat.zero_le _⟩ h
       rw [if_neg c3] at h
       by_cases c4:t.kind=6
       · rw [if_pos c4] at h;exact leaf _ (NS.plain _ _ _ _) h
       rw [if_neg c4] at h
       by_cases c5:t.kind=4
       · rw [if_pos c5] at h;injection h with h;exact refP_sizes h0 hts h
       rw [if_neg c5] at h
       by_cases c6:t.kind=3
       · rw [if_pos c6] at h
         by_cases e1:t.text=⟨#[84,82,85,69]⟩
         · rw [if_pos e1] at h;exact leaf _ (NS.plain _ _ _ _) h
         rw [if_neg e1] at h
         by_cases e2:t.text=⟨#[70,65,76,83,69]⟩
         · rw [if_pos e2] at h;exact leaf _ (NS.plain _ _ _ _) h
         rw [if_neg e2] at h
         by_cases e3:signIs ⟨#[40]⟩ ts=true
         · rw [if_pos e3] at h
           by_cases d2:12≤deep
           · rw [if_pos d2] at h;cases h
           · rw [if_neg d2] at h
             rcases bindR_some h with ⟨e,_,h2⟩ | ⟨ms,ks,s,h1,h2⟩
             · cases h2
             · have hk:NSs M ms∧TSs M s:=by
                split at h1
                · injection h1 with h1;injection h1 with h1;injection h1 with h3 h4;injection h4 with h4 h5
                  subst h3;subst h5
                  exact ⟨fun _ h=>absurd h (by simp),hts.tail⟩
                · exact i4 _ _ _ _ _ _ _ _ h1 hts.tail (fun _ h=>absurd h (by simp))
               split at h2
               · injection h2 with h2;injection h2 with h2;injection h2 with h3 h4;injection h4 with h4 h5
                 subst h3;subst h4;subst h5
                 exact ⟨hk.1.app (NSs.one ⟨h0.1,Nat.zero_le _,Nat.zero_le _⟩),hk.2.tail⟩
               · cases h2
         · rw [if_neg e3] at h;cases h
       · rw [if_neg c6] at h;cases h
   · intro deep base ns ks ts ns' ks' r h ht hn
     rw [argsP_succ] at h
     rcases bindR_some h with ⟨e,_,h2⟩ | ⟨ms,b,s,h1,h2⟩
     · cases h2
     · obtain ⟨k1,k2⟩:=i1 _ _ _ _ _ _ _ h1 ht
       split at h2
       · exact i4 _ _ _ _ _ _ _ _ h2 k2.tail (hn.app k1)
       · injection h2 with h2;injection h2 with h2;injection h2 with h3 h4;injection h4 with h4 h5
         subst h3;subst h4;subst h5
         exact ⟨hn.app k1,k2⟩
theorem parseP_sizes {M f:Nat} {ts:List Tk} {ns:List Nd} (h:parseP f ts=some (.ok ns)) (ht:TSs M ts):NSs M ns:=by
 unfold parseP at h
 rcases bindR_some h with ⟨e,_,h2⟩ | ⟨ms,b,s,h1,h2⟩
 · cases h2
 · split at h2
   · injection h2 with h2;injection h2 with h2;subst h2
     exact ((sizes_all M f).1 _ _ _ _ _ _ _ h1 ht).1
   · cases h2
theorem strN_size {l:List Int} (h:Bytes l):(strOfNums l).size=l.length:=by rw [← length_sb,sb_str _ h]
theorem quoF_size:∀ (n:Nat) (l:List Int) (t:List Int) (k:Nat),l.length≤n→quoF l=some (t,k)→t.length≤l.length
 | _,[],_,_,_,h=>by simp [quoF] at h
 | 0,_ :: _,_,_,hn,_=>by simp at hn
 | n + 1, x :: l,t,k,hn,h=>by
   rw [quoF_cons] at h
   by_cases h1:x<32
   · rw [if_pos h1] at h;cases h
   · rw [if_neg h1] at h
     by_cases h2:x≠34
     · rw [if_pos h2] at h
       cases hq:quoF l with
       | none=>rw [hq] at h;cases h
       | some q =>
         rw [hq] at h
         simp only [Option.map_some,Option.some.injEq,Prod.mk.injEq] at h
         have:=quoF_size n l q.1 q.2 (by simp at hn;omega) hq
         rw [← h.1];simp only [List.length_cons];omega
     · rw [if_neg h2] at h
       cases l with
       | nil=>simp only [Option.some.injEq,Prod.mk.injEq] at h;rw [← h.1];simp
       | cons y m =>
         simp only at h
         by_cases h3:y=34
         · rw [if_pos h3] at h
           cases hq:quoF m with
           | none=>rw [hq] at h;cases h
           | some q =>
             rw [hq] at h
             simp only [Option.map_some,Option.some.injEq,Prod.mk.injEq] at h
             have:=quoF_size n m q.1 q.2 (by simp at hn;omega) hq
             rw [← h.1];simp only [List.length_cons];omega
         · rw [if_neg h3] at h
           simp only [Option.some.injEq,Prod.mk.injEq] at h;rw [← h.1];simp
theorem textL_size (sh:List Int) (c r:Int) (ac ar:Bool) (hm:mayL sh c r=true):sh.length≤(textL sh c r ac ar).length:=by
 unfold textL
 rw [if_pos hm]
 by_cases h:sh=[]
 · rw [h];exact Nat.zero_le _
 · rw [if_neg h];simp only [List.length_append];omega
theorem tokT_size (l:List Int) (t:Tk) (n p M:Nat) (hb:Bytes l) (hM:l.length≤M) (h:tokT l=some (t,n)):TS M (t.goto p):=by
 have z:(⟨#[]⟩:ByteArray).size≤M:=Nat.zero_le _
 cases l with
 | nil=>simp [tokT] at h
 | cons x l =>
   have hspan:∀ q:Int→Bool,((x :: l).takeWhile q).length≤M:=fun q=>Nat.le_trans (take_le q _) hM
   rw [tokT_cons] at h
   by_cases h1:isNum x=true
   · rw [if_pos h1] at h
     unfold numT at h
     split at h
     · cases h
     · simp only [Option.some.injEq,Prod.mk.injEq] at h
       rw [← h.1];exact ⟨z,z⟩
   · rw [if_neg h1] at h
     by_cases h2:x=34
     · rw [if_pos h2] at h
       unfold quoT at h
       cases hq:quoF l with
       | none=>rw [hq] at h;cases h
       | some q =>
         rw [hq] at h
         simp only [Option.map_some,Option.some.injEq,Prod.mk.injEq] at h
         obtain ⟨g1,g2⟩:=quoF_good _ l q.1 q.2 (Nat.le_refl _) (fun y hy=>hb y (by simp [hy])) hq
         rw [← h.1]
         refine ⟨?_,z⟩
         show (strOfNums q.1).size≤M
         rw [strN_size g1]
         have:=quoF_size _ l q.1 q.2 (Nat.le_refl _) hq
         simp only [List.length_cons] at hM;omega
     · rw [if_neg h2] at h
       by_cases h3:x=35
       · rw [if_pos h3] at h
         unfold deadT at h
         split at h
         · simp only [Option.some.injEq,Prod.mk.injEq] at h
           rw [← h.1];exact ⟨z,z⟩
         · cases h
       · rw [if_neg h3] at h
         by_cases h4:isLet x=true∨x=36
         · rw [if_pos h4] at h
           unfold wordT at h
           cases hq:readS (strOfNums ((x :: l).takeWhile isWord)) with
           | some d =>
             rw [hq] at h
             simp only [Option.some.injEq,Prod.mk.injEq] at h
             rw [← h.1]
             refine ⟨z, ?_⟩
             show d.sh.size≤M
             have e:=(read_some _ d hq).2.2
             rw [sb_str _ (hb.span isWord)] at e
             have k1:=textL_size (sb d.sh) d.c d.r d.ac d.ar (read_some _ d hq).2.1
             rw [e,length_sb] at k1
             exact Nat.le_trans k1 (hspan isWord)
           | none =>
             rw [hq] at h
             simp only at h
             by_cases hc:calledL ((x :: l).takeWhile isWord)=true
             · rw [if_pos hc] at h
               simp only [Option.some.injEq,Prod.mk.injEq] at h
               rw [← h.1]
               refine ⟨?_,z⟩
               show (strOfNums ((x :: l).takeWhile isWord)).size≤M
               rw [strN_size (hb.span isWord)];exact hspan isWord
             · rw [if_neg hc] at h;cases h
         · rw [if_neg h4] at h
           unfold signT at h
           split at h
           · cases h
           · simp only [Option.some.injEq,Prod.mk.injEq] at h
             rw [← h.1]
             refine ⟨?_,z⟩
             show (strOfNums ((x :: l).take (signN (x :: l)))).size≤M
             rw [strN_size (fun y hy=>hb y (List.mem_of_mem_take hy)),List.length_take];omega
theorem lexF_sizes (M:Nat):∀ (f p:Nat) (l:List Int) (ts:List Tk),Bytes l→l.length≤M→lexF f p l=some ts→TSs M ts
 | f,p,[],ts,_,_,h=>by
   have h0:lexF f p []=some [Tk.zero.goto p]:=by unfold lexF;rfl
   rw [h0] at h;injection h with h;subst h
   intro t ht;rw [List.mem_singleton] at ht;subst ht
   exact ⟨Nat.zero_le _,Nat.zero_le _⟩
 | 0,_,_ :: _,_,_,_,h=>by unfold lexF at h;cases h
 | f + 1,p,x :: l,ts,hb,hM,h=>by
   have hbl:Bytes l:=fun y hy=>hb y (by simp [hy])
   rw [lexF_cons] at h
   by_cases hx:x=32
   · rw [if_pos hx] at h
     exact lexF_sizes M f (p+1) l ts hbl (by simp only [List.length_cons] at hM;omega) h
   · rw [if_neg hx] at h
     cases hq:tokT (x :: l) with
     | none=>rw [hq] at h;cases h
     | some q =>
       obtain ⟨t0,n⟩:=q
       rw [hq] at h
       simp only [Option.map_eq_some_iff] at h
       obtain ⟨us,h1,rfl⟩:=h
       have k1:=lexF_sizes M f (p+n) _ us (fun y hy=>hb y (List.mem_of_mem_drop hy)) (by rw [List.length_drop];omega) h1
       intro t ht
       rcases List.mem_cons.1 ht with rfl | ht
       · exact tokT_size (x :: l) t0 n p M hb hM hq
       · exact k1 t ht
theorem tokT_num (l:List Int) (t:Tk) (n:Nat) (h:tokT l=some (t,n)):t.num≤9223372036854775807:=by
 cases l with
 | nil=>simp [tokT] at h
 | cons x l =>
   rw [tokT_cons] at h
   split at h
   · unfold numT at h
     split at h
     · cases h
     · simp only [Option.some.injEq,Prod.mk.injEq] at h
       rw [← h.1]
       show valL _≤_
       omega
   split at h
   · unfold quoT at h
     cases hq:quoF l with
     | none=>rw [hq] at h;cases h
     | some q =>
       rw [hq] at h
       simp only [Option.map_some,Option.some.injEq,Prod.mk.injEq] at h
       rw [← h.1];show (0:Int)≤_;omega
   split at h
   · unfold deadT at h
     split at h
     · simp only [Option.some.injEq,Prod.mk.injEq] at h
       rw [← h.1];show (0:Int)≤_;omega
     · cases h
   split at h
   · unfold wordT at h
     split at h
     · simp only [Option.some.injEq,Prod.mk.injEq] at h
       rw [← h.1];show (0:Int)≤_;omega
     · split at h
       · simp only [Option.some.injEq,Prod.mk.injEq] at h
         rw [← h.1];show (0:Int)≤_;omega
       · cases h
   · unfold signT at h
     split at h
     · cases h
     · simp only [Option.some.injEq,Prod.mk.injEq] at h
       rw [← h.1];show (0:Int)≤_;omega
theorem Tok.num {t:Tk} (h:Tok t):t.num≤9223372036854775807:=by
 have:=tokT_num _ _ _ h.2.1
 exact this
theorem Tok.pos {t:Tk} (h:Tok t):1≤(txK t).length:=(tokT_le _ _ _ h.2.1).1
theorem wr_mem {n rk d:Nat} {ts:List Tk} {d':Nat} {ts':List Tk} (h:Wr n rk d ts d' ts'):ts.length≤ts'.length∧∀ t∈ts,t∈ts':=by
 rcases h with ⟨_,rfl,_⟩ | ⟨_,_,l,r,_,_,rfl⟩
 · exact ⟨Nat.le_refl _,fun _ h=>h⟩
 · exact ⟨by simp;omega,fun t ht=>by simp [ht]⟩
theorem sh_few {m:Bool} {base:Nat} {ns:List Nd} {ks:List Int} {ts:List Tk} {rk d:Nat} (h:Sh m base ns ks ts rk d):(∀ t∈ts,t.num≤9223372036854775807)→ns.length≤ts.length∧∀ n∈ns,n.num≤9223372036854775807:=by
 induction h with
 | leaf base ts nd h =>
   intro ht
   refine ⟨by cases h <;> simp,fun n hn => ?_⟩
   rw [List.mem_singleton.1 hn]
   cases h with
   | num t h=>exact ht t (by simp)
   | yes t h g=>show (1:Int)≤_;omega
   | _=>show (0:Int)≤_;omega
 | neg base ns a ts rk d h m hm d' ts' hw ih =>
   intro ht
   obtain ⟨w1,w2⟩:=wr_mem hw
   obtain ⟨g1,g2⟩:=ih fun t h=>ht t (List.mem_cons_of_mem _ (w2 t h))
   refine ⟨by simp only [List.length_append,List.length_cons,List.length_nil];omega,fun n hn => ?_⟩
   rcases List.mem_append.1 hn with hn | hn
   · exact g2 n hn
   · rw [List.mem_singleton.1 hn];show (0:Int)≤_;omega
 | op base o ho ns ms a b ts us rk1 rk2 d1 d2 h g s hs e1 e2 ts' us' hw gw ih ig =>
   intro ht
   obtain ⟨w1,w2⟩:=wr_mem hw
   obtain ⟨x1,x2⟩:=wr_mem gw
   obtain ⟨g1,g2⟩:=ih fun t h=>ht t (List.mem_append_left _ (w2 t h))
   obtain ⟨y1,y2⟩:=ig fun t h=>ht t (List.mem_append_right _ (List.mem_cons_of_mem _ (x2 t h)))
   refine ⟨by simp only [List.length_append,List.length_cons,List.length_nil];omega,fun n hn => ?_⟩
   rcases List.mem_append.1 hn with hn | hn
   · exact g2 n hn
   rcases List.mem_append.1 hn with hn | hn
   · exact y2 n hn
   · rw [List.mem_singleton.1 hn];show (0:Int)≤_;omega
 | call base ns ks ts d h t l r =>
   rename_i ih
   intro ht
   obtain ⟨g1,g2⟩:=ih fun t h=>ht t (by simp [h])
   refine ⟨by simp only [List.length_append,List.length_cons,List.length_nil];omega,fun n hn => ?_⟩
   rcases List.mem_append.1 hn with hn | hn
   · exact g2 n hn
   · rw [List.mem_singleton.1 hn];show (0:Int)≤_;omega
 | none base=>intro _;exact ⟨Nat.le_refl _,fun n hn=>by cases hn⟩
 | one base ns a ts rk d h ih=>exact ih
 | and base ns ms ks b ts us rk d1 d2 h hk c hc g ih ig =>
   intro ht
   obtain ⟨g1,g2⟩:=ih fun t h=>ht t (List.mem_append_left _ h)
   obtain ⟨y1,y2⟩:=ig fun t h=>ht t (List.mem_append_right _ (List.mem_cons_of_mem _ h))
   refine ⟨by simp only [List.length_append,List.length_cons];omega,fun n hn => ?_⟩
   rcases List.mem_append.1 hn with hn | hn
   · exact g2 n hn
   · exact y2 n hn
theorem txL_few:∀ ts:List Tk,(∀ t∈ts,Tok t)→ts.length≤(txL ts).length
 | [],_=>Nat.zero_le _
 | t :: ts,h=>by
   have ih:=txL_few ts fun u hu=>h u (List.mem_cons_of_mem _ hu)
   have h1:=(h t (by simp)).pos
   rw [txL_cons,List.length_append,List.length_cons];omega
theorem txL_bytes:∀ ts:List Tk,(∀ t∈ts,Tok t)→Bytes (txL ts)
 | [],_=>fun x hx=>by cases hx
 | t :: ts,h=>fun x hx=>by
   rw [txL_cons] at hx
   rcases List.mem_append.1 hx with hx | hx
   · exact (h t (by simp)).2.2 x hx
   · exact txL_bytes ts (fun u hu=>h u (List.mem_cons_of_mem _ hu)) x hx
theorem PIs_told (s:ByteArray) (ns:List Nd) (h:PIs s (.ok ns)):(ns.length≤300∧0<ns.length∧treeB ns=true)∧(∀ n∈ns,n.num≤9223372036854775807)∧(printL ns).length≤s.size∧s.size≤300∧PIs (strOfNums (printL ns)) (.ok ns):=by
 rcases h with ⟨_,h⟩ | ⟨_,_,h⟩ | ⟨h0,ts,f,h1,h2⟩
 · cases h
 · cases h
 · have hb:Bytes (sb s):=fun x hx=>sb_bd s x hx
   have ht:=parse_tree h2 (lexL_good s ts h1).1
   obtain ⟨us,rq,d,a,g1,g2,g3,g4,g5⟩:=told_text hb h1 h2
   rw [length_sb] at g4
   obtain ⟨k1,k2⟩:=sh_few g1 fun t h=>(g3 t h).num
   have k3:=txL_few us g3
   obtain ⟨p1,vs,g,p2,p3⟩:=print_told hb h1 h2 ht
   rw [length_sb] at p1
   have hpos:0<ns.length:=by
    cases ns with
    | nil=>exact absurd ht (by decide)
    | cons n ns=>simp
   have hby:Bytes (printL ns):=by
    rw [sh_print g1 ht]
    exact txL_bytes us g3
   refine ⟨⟨by omega,hpos,ht⟩,k2,p1,h0,.inr (.inr ⟨by rw [strOfNums_size];omega,vs,g,by rw [sb_str _ hby];exact p2,p3⟩)⟩
theorem PIs_sizes6 (s:ByteArray) (ns:List Nd) (h:PIs s (.ok ns)):∀ n∈ns,n.text.size≤1000000∧n.ref.sh.size≤1000000∧n.«to».sh.size≤1000000:=by
 rcases h with ⟨_,h⟩ | ⟨_,_,h⟩ | ⟨h0,ts,f,h1,h2⟩
 · cases h
 · cases h
 · exact parseP_sizes h2 (lexF_sizes 1000000 _ _ _ _ (fun x hx=>sb_bd s x hx) (by rw [length_sb];omega) h1)
theorem parse_sn (s:ByteArray) (w:World) (hx:Sx w) (ns:List Nd) (hp:PIs s (.ok ns)) :
 Calls Tryz.prog 87 #[.string s] w fun e w'=>Below w.heap.size w w'∧∃ g cap vs,e = .returned (.tuple #[.slice (some ⟨g,0,none⟩) ns.length cap,.int .i64 0])∧vs.map Prod.fst=ns∧SN w' w'.heap.size (.slice (some ⟨g,0,none⟩) ns.length cap) vs:=by
 refine (parse_ok s w hx.vars hx.ops ns hp (PIs_told s ns hp).1.2.1).mono ?_
 rintro e w' ⟨hb,g,cap,vs,he,h1,h2,h3, -⟩
 exact ⟨hb,g,cap,_,he,(sn_fst vs).trans h1,h3.sn h2⟩
def ErrS (w:World):Prop:=∃ ev,w.cell? ⟨1,0,none⟩=some ev∧(ev = .nilIface∨∃ te pe,ev = .iface te pe)
theorem ErrS.below {w w':World} (h:ErrS w) (hb:Below w.heap.size w w'):ErrS w':=by
 obtain ⟨ev,h1,h2⟩:=h
 exact ⟨ev,(hb.cell (show (⟨1,0,none⟩:Addr).block<w.heap.size from Lib.lt_of_cell h1)).trans h1,h2⟩
structure Cx (w:World):Prop where
 sx:Sx w
 syn:ErrS w
theorem Cx.below {w w':World} (h:Cx w) (hb:Below w.heap.size w w'):Cx w':=⟨h.sx.below hb,h.syn.below hb⟩
set_option maxHeartbeats 400000 in
theorem cdig_any (c:Int) (_h0:0≤c) (_h1:c≤255) (w:World) :
 Calls Tryz.prog 103 #[.int .u8 c] w fun e w'=>e = .returned (.bool (isNum c))∧w=w':=by
 go_enter Tryz.func103,Tryz.ntmps103
 go_wp2
 all_goals go_ret
 all_goals exact ⟨ret_bool (by unfold isNum;first | rfl | (symm;rw [decide_eq_true_iff];omega) | (symm;rw [decide_eq_false_iff_not];omega) | (rw [decide_eq_decide];omega)),rfl⟩
theorem kd_empty (s:ByteArray) (h:s.size=0):kd s=0:=by unfold kd;rw [sb_nil s h];rfl
theorem kd_first (s:ByteArray) (hp0:0<s.size) (a:Int) (ha:(s[0].toNat:Int)=a):kd s=if a=39 then 1 else if a=61 then 2 else if a=45∨isNum a=true then 3 else 4:=by
 have hga:(sb s).getD 0 0=a:=by rw [sb_getD s 0 hp0,ha]
 have hl:(sb s).length=s.size:=length_sb s
 unfold kd
 cases h:sb s with
 | nil=>rw [h] at hl;simp at hl;omega
 | cons c l =>
   rw [h] at hga
   have:c=a:=by simpa using hga
   subst this;rfl
set_option maxRecDepth 100000 in
set_option maxHeartbeats 400000 in
theorem kindOf_any (s:ByteArray) (_hs:s.size≤1000000) (w:World):Calls Tryz.prog 64 #[.string s] w fun e w'=>e = .returned (.int .i64 (kd s))∧w=w':=by
 by_cases h0:s.size=0
 · have hk:=kd_empty s h0
   have hz:=sb_nil s h0
   have HK:=Lib.hid hk;clear hk
   obtain rfl:s=⟨#[]⟩:=by first | exact hz | (rw [← str_sb s,hz];rfl)
   clear h0 hz _hs
   go_enter Tryz.func64,Tryz.ntmps64
   go_wp2_with fail
   all_goals go_ret
   all_goals exact ⟨by rw [HK.out];first | done | rfl,rfl⟩
 · have hne:=text_ne0 s h0
   have hne2:s.toList.isEmpty=false:=by cases hq:s.toList with | nil=>exact absurd hq hne | cons a l=>rfl
   have hp0:0<s.size:=by omega
   obtain ⟨a,ha⟩:∃ a:Int,(s[0].toNat:Int)=a:=⟨_,rfl⟩
   have ha1:0≤a∧a≤255:=by have:=s[0].toNat_lt;omega
   have hk:=kd_first s hp0 a ha
   by_cases c1:a=39
   · rw [if_pos c1] at hk
     have HK:=Lib.hid hk
     have e1:(a == 39)=true:=beq_iff_eq.2 c1
     clear hk c1 h0
     go_enter Tryz.func64,Tryz.ntmps64
     go_wp2_with fail
     all_goals go_ret
     all_goals exact ⟨by rw [HK.out];first | done | rfl,rfl⟩
   rw [if_neg c1] at hk
   have e1:(a == 39)=false:=beq_eq_false_iff_ne.2 c1
   by_cases c2:a=61
   · rw [if_pos c2] at hk
     have HK:=Lib.hid hk
     have e2:(a == 61)=true:=beq_iff_eq.2 c2
     clear hk c1 c2 h0
     go_enter Tryz.func64,Tryz.ntmps64
     go_wp2_with fail
     all_goals go_ret
     all_goals exact ⟨by rw [HK.out];first | done | rfl,rfl⟩
   rw [if_neg c2] at hk
   have e2:(a == 61)=false:=beq_eq_false_iff_ne.2 c2
   by_cases c3:a=45
   · rw [if_pos (Or.inl c3)] at hk
     have HK:=Lib.hid hk
     have e3:(a == 45)=true:=beq_iff_eq.2 c3
     clear hk c1 c2 c3 h0
     go_enter Tryz.func64,Tryz.ntmps64
     go_wp2_with fail
     all_goals go_ret
     all_goals exact ⟨by rw [HK.out];first | done | rfl,rfl⟩
   have e3:(a == 45)=false:=beq_eq_false_iff_ne.2 c3
   cases c4:isNum a with
   | true =>
     rw [if_pos (Or.inr c4)] at hk
     have HK:=Lib.hid hk
     clear hk c1 c2 c3 h0
     go_enter Tryz.func64,Tryz.ntmps64
     go_wp2_with (go_at_call 103;((with_reducible refine (cdig_any _ ?_ ?_ _).mono ?_);(first | omega | skip);(first | omega | skip);rintro e w' ⟨rfl,rfl⟩))
     all_goals go_ret
     all_goals exact ⟨by rw [HK.out];first | done | rfl,rfl⟩
   | false =>
     rw [if_neg (by rw [c4];simp;exact c3)] at hk
     have HK:=Lib.hid hk
     clear hk c1 c2 c3 h0
     go_enter Tryz.func64,Tryz.ntmps64
     go_wp2_with (go_at_call 103;((with_reducible refine (cdig_any _ ?_ ?_ _).mono ?_);(first | omega | skip);(first | omega | skip);rintro e w' ⟨rfl,rfl⟩))
     all_goals go_ret
     all_goals exact ⟨by rw [HK.out];first | done | rfl,rfl⟩
theorem kindOf_is (s:ByteArray) (_hs:s.size≤1000000) (k:Int) (hk:kd s=k) (w:World):Calls Tryz.prog 64 #[.string s] w fun e w'=>e = .returned (.int .i64 k)∧w=w':=hk ▸ kindOf_any s _hs w
theorem below_drew {B:Nat} {w w':World} (h:Below B w w'):Below B w w'.drew:=⟨h.os,h.tape,h.output,h.size,h.block⟩
theorem print_told6 (s:ByteArray) (ns:List Nd) (hp:PIs s (.ok ns)) (w1 wr:World) (hx:Sx wr) (v:Value) (l:List (Nd × Value)) (hm:l.map Prod.fst=ns) (hs:SN w1 w1.heap.size v l) (hr:Below w1.heap.size w1 wr) :
 Calls Tryz.prog 59 #[v] wr fun e w'=>e = .returned (.string (strOfNums (printL ns)))∧Below wr.heap.size wr w':=by
 obtain ⟨⟨hl300,hpos,htree⟩,hnum,hpl,hs300,hp2⟩:=PIs_told s ns hp
 have hsz:=PIs_sizes6 s ns hp
 have hl:l.length=ns.length:=by rw [← hm,List.length_map]
 have:=hx.printT v l (hs.lift hr hr.size) ⟨by omega,fun p hp=>hsz p.1 (by rw [← hm];exact List.mem_map_of_mem hp)⟩ (fun p hp=>hnum p.1 (by rw [← hm];exact List.mem_map_of_mem hp)) (by rw [show l.map (·.1)=ns from hm];omega) (by rw [show l.map (·.1)=ns from hm];exact htree)
 rwa [show l.map (·.1)=ns from hm] at this
def mkF:ByteArray:=⟨#[61]⟩
theorem PIs_sizes300 (s:ByteArray) (ns:List Nd) (h:PIs s (.ok ns)):∀ n∈ns,n.text.size≤300∧n.ref.sh.size≤300∧n.«to».sh.size≤300:=by
 rcases h with ⟨_,h⟩ | ⟨_,_,h⟩ | ⟨h0,ts,f,h1,h2⟩
 · cases h
 · cases h
 · exact parseP_sizes h2 (lexF_sizes 300 _ _ _ _ (fun x hx=>sb_bd s x hx) (by rw [length_sb];omega) h1)
theorem sumN_upto (c:Nat):∀ ns:List Nd,(∀ n∈ns,wN n≤c)→sumN ns≤ns.length*c
 | [],_=>by unfold sumN;simp
 | n :: ns,h=>by
   have h1:=sumN_upto c ns fun m hm=>h m (by simp [hm])
   have h2:=h n (by simp)
   have h3:sumN (n :: ns)=wN n+sumN ns:=by unfold sumN;simp
   rw [h3,List.length_cons,Nat.add_mul];omega
structure MvdOk (ns:List Nd):Prop where
 tree:treeB ns=true
 len:ns.length≤300
 num:∀ n∈ns,n.num≤9223372036854775807
 sz:∀ n∈ns,n.text.size≤300∧n.ref.sh.size≤300∧n.«to».sh.size≤300
theorem MvdOk.long {ns:List Nd} (h:MvdOk ns):(printL ns).length≤1000000:=by
 have h1:=print_len h.tree h.num
 have h2:=sumN_upto 1260 ns fun n hn=>by have:=h.sz n hn;unfold wN;omega
 have h3:=h.len
 have h4:ns.length*1260≤300*1260:=Nat.mul_le_mul_right _ h3
 omega
theorem MvdOk.of {s:ByteArray} {ns:List Nd} (h:PIs s (.ok ns)):MvdOk ns:=by
 obtain ⟨⟨hl,_,ht⟩,hnum,_⟩:=PIs_told s ns h
 exact ⟨ht,hl,hnum,PIs_sizes300 s ns h⟩
theorem MvdOk.move {ns:List Nd} (h:MvdOk ns) (own:ByteArray) {ss:List Sf} (hs:SfsOk ss):MvdOk (moveL own ss ns):=by
 refine ⟨moved_tree h.tree hs,by rw [moveL_len];exact h.len,fun n hn => ?_,fun n hn => ?_⟩
 · obtain ⟨m,hm,rfl⟩:=List.mem_map.1 hn
   have h1:=(move_le own ss m).num
   have h2:=h.num m hm
   omega
 · obtain ⟨m,hm,rfl⟩:=List.mem_map.1 hn
   have h1:=move_le own ss m
   have h2:=h.sz m hm
   exact ⟨Nat.le_trans h1.text h2.1,Nat.le_trans h1.ref h2.2.1,Nat.le_trans h1.«to» h2.2.2⟩
theorem MvdOk.szs {l:List (Nd × Value)} (h:MvdOk (l.map (·.1))):SZ l :=
 ⟨by have:=h.len;rw [List.length_map] at this;omega,fun p hp=>by have:=h.sz p.1 (List.mem_map_of_mem hp);omega⟩
theorem print_mvd (w:World) (hx:Sx w) (v:Value) (l:List (Nd × Value)) (hs:SN w w.heap.size v l) (h:MvdOk (l.map (·.1))) :
 Calls Tryz.prog 59 #[v] w fun e w'=>e = .returned (.string (strOfNums (printL (l.map (·.1)))))∧Below w.heap.size w w' :=
 hx.printT v l hs h.szs (fun p hp=>h.num p.1 (List.mem_map_of_mem hp)) (by have:=h.long;omega) h.tree
set_option maxRecDepth 100000 in
set_option maxHeartbeats 1000000 in
theorem formula_nodes (t p:ByteArray) (hs:t.size≤300) (h1:1≤t.size) (hk:kd t=2) (hr:t.extract 1 t.size=p) (ns:List Nd) (hp:PIs p (.ok ns)) (hpp:strOfNums (printL ns)=p) (w:World) (hx:Cx w) :
 Calls Tryz.prog 58 #[.string t] w fun e w'=>∃ g cap l,e = .returned (.tuple #[.slice (some ⟨g,0,none⟩) ns.length cap,.bool true])∧SN w' w'.heap.size (.slice (some ⟨g,0,none⟩) ns.length cap) l∧l.map Prod.fst=ns∧Below w.heap.size w w':=by
 have HA:=Lib.hid (parse_sn p w hx.sx ns hp)
 have HPR:=Lib.hid (fun (w1:World) (h1:Below w.heap.size w w1) (v:Value) (l:List (Nd × Value)) (hm:l.map Prod.fst=ns) (hs:SN w1 w1.heap.size v l)=>(show Calls Tryz.prog 59 #[v] w1.drew fun e w'=>e = .returned (.string p)∧Below w1.drew.heap.size w1.drew w' from hpp ▸ print_told6 p ns hp w1 w1.drew (hx.sx.below (below_drew h1)) v l hm hs (below_drew (Below.refl _ _))))
 have HK:=Lib.hid (kindOf_is t (by omega) _ hk w)
 have hi1:(1:Int)≤(t.size:Int):=by omega
 have hi:¬ (300:Int)<(t.size:Int):=by omega
 obtain ⟨L,hL⟩:∃ L,ns.length=L:=⟨_,rfl⟩
 rw [hL] at HA ⊢
 clear hp hpp hL hx hs hk
 go_enter Tryz.func58,Tryz.ntmps58
 go_wp2_with (first
  | (go_at_call 64;((with_reducible refine HK.out.mono ?_);rintro e w1 ⟨rfl,rfl⟩))
  | (go_at_call 87;((with_reducible refine HA.out.mono ?_);rintro e w1 ⟨hb,g1,cap1,l1,rfl,hm1,hs1⟩;have HB1:=Lib.hid hb;have HP1:=Lib.hid (HPR.out w1 hb _ l1 hm1 hs1);have HM1:=Lib.hid hm1;have HS1:=Lib.hid hs1;clear hb hm1 hs1)))
 go_region_held3 (fun _=>True) (trivial) (first
  | (go_at_call 59;((with_reducible refine HP1.out.mono ?_);rintro e w2 ⟨rfl,h1⟩;have HB2:=Lib.hid ((below_drew HB1.out).trans (h1.mono HB1.out.size));have HB12:=Lib.hid ((below_drew (Below.refl _ w1)).trans h1);clear h1)))
 all_goals go_wp2_with fail
 all_goals go_ret2
 all_goals exact ⟨_,_,l1,rfl,HS1.out.lift HB12.out HB12.out.size,HM1.out,HB2.out⟩
def textM (own:ByteArray) (ss:List Sf) (ns:List Nd):ByteArray:=if (mkF++strOfNums (printL (moveL own ss ns))).size≤300 then mkF++strOfNums (printL (moveL own ss ns)) else ⟨#[61,35,82,69,70,33]⟩
set_option maxRecDepth 100000 in
set_option maxHeartbeats 4000000 in
theorem moveText_form (w:World) (t p own:ByteArray) (xs:List Sw) (B:Option Addr) (m c:Nat) (hx:Cx w) (hS:SfR w w.heap.size (.slice B m c) xs) (hm:m≤1000000) (hO:∀ x∈xs,SfOk x.s) (ho:own.size≤maxLen) (hs:t.size≤300) (h1:1≤t.size) (hk:kd t=2) (hr:t.extract 1 t.size=p) (ns:List Nd) (hp:PIs p (.ok ns)) (hpp:strOfNums (printL ns)=p) :
 Calls Tryz.prog 25 #[.string t,.string own,.slice B m c] w fun e w'=>e = .returned (.string (textM own (sfs xs) ns))∧Below w.heap.size w w':=by
 have HF:=Lib.hid (formula_nodes t p hs h1 hk hr ns hp hpp w hx)
 have hok:=MvdOk.of hp
 have hsO:SfsOk (sfs xs):=fun s hs=>by obtain ⟨x,hx,rfl⟩:=List.mem_map.1 hs;exact hO x hx
 have hmv:=hok.move own hsO
 have HNO:=Lib.hid (fun (wq:World) (hq:Below w.heap.size w wq) (A:Option Addr) (n cap:Nat) (l:List (Nd × Value)) (hl:SN wq wq.heap.size (.slice A n cap) l) (hm2:l.map Prod.fst=ns)=>(show Calls Tryz.prog 23 #[.slice A n cap,.string own,.slice B m c] wq (MovR wq own (sfs xs) ns) from hm2 ▸ moveNodes_yes wq own xs A B n cap m c l (hx.sx.below hq).vars (hS.lift hq) hm hO ho hl (MvdOk.szs (hm2.symm ▸ hok)) (hm2.symm ▸ hok.tree)))
 have HPR:=Lib.hid (fun (wq:World) (hq:Below w.heap.size w wq) (v:Value) (l:List (Nd × Value)) (hl:SN wq wq.heap.size v l) (hm2:l.map (·.1)=moveL own (sfs xs) ns)=>(show Calls Tryz.prog 59 #[v] wq fun e w'=>e = .returned (.string (strOfNums (printL (moveL own (sfs xs) ns))))∧Below wq.heap.size wq w' from hm2 ▸ print_mvd wq (hx.sx.below hq) v l hl (hm2.symm ▸ hmv)))
 obtain ⟨q,hq⟩:∃ q,strOfNums (printL (moveL own (sfs xs) ns))=q:=⟨_,rfl⟩
 have hql:q.size≤1000000:=by rw [← hq,strOfNums_size];exact hmv.long
 rw [hq] at HPR
 obtain ⟨L,hL⟩:∃ L,ns.length=L:=⟨_,rfl⟩
 unfold MovR at HNO
 rw [hL] at HF HNO
 have hcat:¬ 9223372036854775807<(⟨#[61]⟩:ByteArray).size+q.size:=by show ¬ _<1+q.size;omega
 have hcat1:¬ 9223372036854775807<1+q.size:=by omega
 have hsz:(mkF++q).size=1+q.size:=by rw [ByteArray.size_append];rfl
 have HV:=Lib.hid (show textM own (sfs xs) ns=if (mkF++q).size≤300 then mkF++q else ⟨#[61,35,82,69,70,33]⟩ from by unfold textM;rw [hq])
 have HSZ:=Lib.hid hsz
 clear hok hsO hmv hx hS hm hO ho hs h1 hk hr hp hpp hq hL hsz
 go_enter Tryz.func25,Tryz.ntmps25
 go_upto_region 5 with (first
  | (go_at_call 58;((with_reducible refine HF.out.mono ?_);rintro e w2 ⟨g,cap,l,rfl,hs1,hm1,hq1⟩;have H2:=Lib.hid hq1;have HS2:=Lib.hid hs1;have HM2:=Lib.hid hm1;clear hs1 hm1 hq1))
  | (go_at_call 23;((with_reducible refine (HNO.out _ H2.out _ _ _ l HS2.out HM2.out).mono ?_);rintro e w3 ⟨T,done,rfl,hs1,hm1,hq1,_⟩;have H3:=Lib.hid (H2.out.trans (hq1.mono H2.out.size));have HS3:=Lib.hid hs1;have HM3:=Lib.hid hm1;clear hs1 hm1 hq1))
  | (go_at_call 59;((with_reducible refine (HPR.out _ H3.out _ done HS3.out HM3.out).mono ?_);rintro e w4 ⟨rfl,hq1⟩;have H4:=Lib.hid (H3.out.trans (hq1.mono H3.out.size));clear hq1)))
 by_cases hc:(mkF++q).size≤300
 · have hc1:¬ (300:Int)<1+(q.size:Int):=by rw [HSZ.out] at hc;omega
   have HC:=Lib.hid hc
   clear hc
   go_wp2_with fail
   go_ret
   exact ⟨by rw [HV.out,if_pos HC.out];rfl,H4.out⟩
 · have hc1:(300:Int)<1+(q.size:Int):=by rw [HSZ.out] at hc;omega
   have HC:=Lib.hid hc
   clear hc
   go_wp2_with fail
   go_ret
   exact ⟨by rw [HV.out,if_neg HC.out];rfl,H4.out⟩
def cntM (n:Int):Nat:=(min (max n 0) 1048576).toNat
theorem cntM_le (n:Int):cntM n≤1048576:=by unfold cntM;omega
theorem cntM_is (n:Int):(cntM n:Int)=min (max n 0) 1048576:=by unfold cntM;omega
theorem mp_size:(Tryz.prog.info? 60).map (·.size)=some 2:=by kernel_rfl
theorem out_mp {w:World} {b:Nat} {A:Option Addr} {n cap:Nat} {nw:Int} (h:PrAt 60 w b (.slice A n cap) nw) (fn:Func) (tmps:Array Value) (s:Tmp) (hf:fn.results=#[.cell s 60]) (hp:tmps.getD s undef = .pointer (some ⟨b,0,none⟩)) :
 (results fn tmps).run Tryz.prog w = .ok (.agg #[.slice A n cap,.int .i64 nw]) w :=
 results_cell_row hf tmps w b _ _ _ _ hp h Tryz.underlying60 rfl mp_size
theorem PrAt.put2 {t:TypeId} {w:World} {b:Nat} {v:Value} {nw:Int} (h:PrAt t w b v nw) (u:Value) (m:Int):PrAt t ((w.setCell ⟨b,0,none⟩ u).setCell ⟨b,1,none⟩ (.int .i64 m)) b u m:=(h.put0 u).put1 m
theorem below_put2 {w0 w:World} {b B:Nat} (h:Below B w0 w) (hB:B≤b) (u v:Value):Below B w0 ((w.setCell ⟨b,0,none⟩ u).setCell ⟨b,1,none⟩ v):=by
 have h1:Below B w0 (w.setCell ⟨b,0,none⟩ u):=h.setCell hB u
 exact h1.setCell hB v
theorem heap_put2 (w:World) (b g:Nat) (u v:Value) (hne:g≠b):((w.setCell ⟨b,0,none⟩ u).setCell ⟨b,1,none⟩ v).heap[g]? = w.heap[g]? :=
 (heap_setCell_other _ ⟨b,1,none⟩ g v hne).trans (heap_setCell_other w ⟨b,0,none⟩ g u hne)
def insO (n at_:Int):List Int × Int:=if at_<0∨(cntM n:Int)<at_ then (sameM (cntM n),(cntM n:Int)) else (insM (cntM n) at_,(cntM n:Int)+1)
def delO (n at_:Int):List Int × Int:=if at_<0∨(cntM n:Int)≤at_ then (sameM (cntM n),(cntM n:Int)) else (delM (cntM n) at_,(cntM n:Int) - 1)
structure ApI (w1 w:World) (b:Nat) (tv:Value) (k:Int) (xs:List Int):Prop where
 cur:PrAt 60 w b tv k
 own:Own (encInt .i64) 3 w w1.heap.size tv xs
 gr:w1.grownBy w (some b)
 blt:b<w1.heap.size
theorem ApI.nil {w:World} {b:Nat} {k:Int} (h:PrAt 60 w b (.slice none 0 0) k):ApI w w b (.slice none 0 0) k []:=⟨h,Own.nil _ _ _ _,grownBy.refl' _ _,h.lt⟩
theorem ApI.next {w1 w w':World} {b:Nat} {tv:Value} {k:Int} {xs:List Int} (h:ApI w1 w b tv k xs) (hb:Below w.heap.size w w'):ApI w1 w' b tv k xs:=⟨h.cur.over hb,h.own.below hb (Nat.le_refl _),grownBy.below' h.gr hb,h.blt⟩
theorem ApI.ne {w1 w:World} {b:Nat} {tv:Value} {k:Int} {xs:List Int} (h:ApI w1 w b tv k xs):Option.some b≠tv.ownBlock:=by
 intro hv
 have:=(h.own.lies hv.symm).1
 have:=h.blt
 omega
theorem ApI.at5 {w1 wa wb:World} {b:Nat} {tv:Value} {k:Int} {xs:List Int} (h:ApI w1 wa b tv k xs) (hg:wa.grownBy wb tv.ownBlock):PrAt 60 wb b tv k:=h.cur.keep (hg.block b h.cur.lt h.ne)
theorem ApI.grow {w1 wa wb:World} {b:Nat} {tv:Value} {k:Int} {xs:List Int} (h:ApI w1 wa b tv k xs) (hg:wa.grownBy wb tv.ownBlock):w1.grownBy wb (some b) :=
 ⟨hg.os.trans h.gr.os,hg.tape.trans h.gr.tape,hg.output.trans h.gr.output,Nat.le_trans h.gr.size hg.size,fun j hj hr=>by
  rw [hg.block j (Nat.lt_of_lt_of_le hj h.gr.size) (fun e=>by have:=(h.own.lies e.symm).1;omega)];exact h.gr.block j hj hr⟩
theorem ApI.push {w1 wa wb:World} {b:Nat} {tv v':Value} {k:Int} {xs ys:List Int} (h:ApI w1 wa b tv k xs) (ho:Own (encInt .i64) 3 wb w1.heap.size v' ys) (hg:wa.grownBy wb tv.ownBlock):ApI w1 (wb.setCell ⟨b,0,none⟩ v') b v' k ys :=
 ⟨(h.at5 hg).put0 v',ho.keep (fun g h1 _ _=>heap_setCell_other wb _ g _ (by show g≠b;have:=h.blt;omega)),grownBy.setCell' (h.grow hg) 0 v',h.blt⟩
theorem ApI.setN {w1 w:World} {b:Nat} {tv:Value} {k:Int} {xs:List Int} (h:ApI w1 w b tv k xs) (m:Int):ApI w1 (w.setCell ⟨b,1,none⟩ (.int .i64 m)) b tv m xs :=
 ⟨h.cur.put1 m,h.own.keep (fun g h1 _ _=>heap_setCell_other w _ g _ (by show g≠b;have:=h.blt;omega)),grownBy.setCell' h.gr 1 _,h.blt⟩
theorem ApI.other {w1 w:World} {b c:Nat} {tv:Value} {k:Int} {xs:List Int} (h:ApI w1 w b tv k xs) {t:TypeId} {v:Value} {m:Int} (hp:PrAt t w1 c v m) (hne:c≠b):PrAt t w c v m :=
 hp.keep (h.gr.block c hp.lt (fun e=>hne (Option.some.inj e)))
theorem ApI.aft {w0 w1 w:World} {B b:Nat} {tv:Value} {k:Int} {xs:List Int} (h:ApI w1 w b tv k xs) (hb:Below B w0 w1) (hB:B≤b) (hw:B≤w1.heap.size):Below B w0 w :=
 hb.grown h.gr hw (fun g e=>by have:=Option.some.inj e;omega)
theorem two_pr (t:TypeId) (w:World) (u v:Value) (m n:Int):∃ w3,(w.alloc (.cells #[u,.int .i64 m] t)).alloc (.cells #[v,.int .i64 n] t)=w3∧Below w.heap.size w w3∧PrAt t w3 w.heap.size u m∧PrAt t w3 (w.heap.size+1) v n∧w3.heap.size=w.heap.size+2:=by
 have s1:=World.size_alloc w (.cells #[u,.int .i64 m] t)
 have s2:=World.size_alloc (w.alloc (.cells #[u,.int .i64 m] t)) (.cells #[v,.int .i64 n] t)
 have b1:=below_pr t w u m
 have b2:=below_pr t (w.alloc (.cells #[u,.int .i64 m] t)) v n
 have p1:=PrAt.new t w u m
 have p2:=PrAt.new t (w.alloc (.cells #[u,.int .i64 m] t)) v n
 rw [s1] at p2
 exact ⟨_,rfl,b1.trans (b2.mono b1.size),p1.over b2,p2,by omega⟩
theorem sameM_next (n i:Nat) (h:i<n):(sameM n).take i++[(i:Int)]=(sameM n).take (i+1):=by
 unfold sameM
 rw [List.take_add_one,List.getElem?_map,List.getElem?_range h];rfl
theorem res_rsame:Tryz.f31.results=#[.cell 2 60]:=by kernel_rfl
def RefOut (w w':World) (xs:List Int) (nw:Int) (e:Ending):Prop:=∃ v,e = .returned (.agg #[v,.int .i64 nw])∧Own (encInt .i64) 3 w' w.heap.size v xs∧Below w.heap.size w w'
set_option maxRecDepth 100000 in
set_option maxHeartbeats 4000000 in
theorem rsame_map (w:World) (n:Int):Calls Tryz.prog 31 #[.int .i64 n] w fun e w'=>RefOut w w' (sameM (cntM n)) (cntM n:Int) e:=by
 have hle:=cntM_le n
 have hci:=cntM_is n
 obtain ⟨N,hN⟩:∃ N,cntM n=N:=⟨_,rfl⟩
 rw [hN] at hle hci ⊢
 obtain ⟨w2,hw2,hb,hp1,hp2,hsz⟩:=two_pr 60 w (.slice none 0 0) (.slice none 0 0) 0 (N:Int)
 have HB:=Lib.hid hb;have HP1:=Lib.hid hp1;have HSZ:=Lib.hid hsz
 have HI:=Lib.hid (ApI.nil hp2)
 have HCI:=Lib.hid hci
 clear hb hp1 hp2 hsz hN hci
 go_enter Tryz.func31,Tryz.ntmps31
 go_upto_region 1 with (fail)
 obtain ⟨w0,hw0⟩:∃ w0,w.alloc (.cells #[.slice none 0 0,.int .i64 0] 60)=w0:=⟨_,rfl⟩
 have hz0:w0.heap.size=w.heap.size+1:=by rw [← hw0];exact World.size_alloc _ _
 have HZ0:=Lib.hid hz0
 clear hz0
 rw [hw0] at hw2 ⊢
 go_cut [3] from 6 to 8 (fun v wx=>∃ (wu:World),v = .int .i64 (N:Int)∧wu=wx∧wu=w0)
 case first =>
  by_cases h1:n<0
  · have h2:¬ (1048576:Int)<n:=by omega
    go_wp2_with fail
    go_meet
    case rel=>exact ⟨_,(show Value.int .i64 _=Value.int .i64 _ from congrArg _ (by have:=HCI.out;omega)),rfl,rfl⟩
  · by_cases h2:(1048576:Int)<n
    · go_wp2_with fail
      go_meet
      case rel=>exact ⟨_,(show Value.int .i64 _=Value.int .i64 _ from congrArg _ (by have:=HCI.out;omega)),rfl,rfl⟩
    · go_wp2_with fail
      all_goals go_meet
      all_goals exact ⟨_,(show Value.int .i64 _=Value.int .i64 _ from congrArg _ (by have:=HCI.out;omega)),rfl,rfl⟩
 case rest =>
  obtain ⟨wu,rfl,rfl,hw⟩:=hcut
  have hw:=hw.symm
  subst hw
  clear hw0
  go_upto_region 4 with (fail)
  clear hw2
  rw [HZ0.out]
  go_loopw [5] (fun iv wr=>∃ (i:Nat) (A1:Option Addr) (c1:Nat),i≤N∧iv = .int .i64 (i:Int)∧Hid (ApI w2 wr (w.heap.size+1) (.slice A1 i c1) (N:Int) ((sameM N).take i)))
   (fun iv _=>N - (intOf iv).toNat)
  case atStart=>exact ⟨0,none,0,Nat.zero_le _,rfl,HI⟩
  case round =>
   obtain ⟨i,A1,c1,hi,rfl,HA⟩:=hrel
   have HTL:=Lib.hid (show ((sameM N).take i).length=i from by rw [List.length_take,length_sameM];omega)
   obtain ⟨x0,x1⟩:=HA.out.cur.cells
   by_cases hlt:i<N
   · have hii:(i:Int)<(N:Int):=by omega
     have HN:=Lib.hid (sameM_next N i hlt)
     have hln:w.heap.size+1<wr.heap.size:=HA.out.cur.lt
     have HBA:=Lib.hid ((Below.refl wr.heap.size wr).alloc (Nat.le_refl _) (.cells #[.int .i64 (i:Int)] 3))
     have HAA:=Lib.hid (HA.out.next HBA.out)
     go_wp2_with (at_builtin;refine wpList_app_at Elem.pl (encInt .i64) rfl (.tmp 17) (.tmp 19) rfl w2.heap.size _ ((sameM N).take i) rfl HAA.out.own ⟨_,0,none⟩ 1 1 [(i:Int)] rfl rfl ?_ ?_ ?_ ?_ ?_;exact cells_new _ _ _ rfl;(rw [HTL.out];omega);(rw [HTL.out];unfold maxLen;omega);(have h1:=HBA.out.size;have h2:=HA.out.gr.size;omega);intro v5 w5 h1 h2 _;obtain ⟨A5,c5,hv5⟩:=own_sl h1;simp only [List.length_append,List.length_singleton,HTL.out] at hv5;subst hv5;have HO5:=Lib.hid h1;have HG5:=Lib.hid h2;obtain ⟨m0,m1⟩:=(HAA.out.at5 h2).melts;obtain ⟨z0,z1⟩:=(HAA.out.at5 h2).cells;clear h1 h2)
     clear m0 m1 z0 z1 x0 x1
     go_roundw
     case rel=>exact ⟨i+1,A5,c5,by omega,by go_num,Lib.hid (by have h1:=HO5.out;rw [HN.out] at h1;exact HAA.out.push h1 HG5.out)⟩
     case measure=>simp [intOf];omega
   · have hii:¬ (i:Int)<(N:Int):=by omega
     have hin:i=N:=by omega
     subst hin
     have HP:=Lib.hid (HA.out.other HP1.out (by omega))
     obtain ⟨y0,y1⟩:=HP.out.cells
     obtain ⟨m0,m1⟩:=HP.out.melts
     go_wp2_with fail
     have hfull:(sameM i).take i=sameM i:=List.take_of_length_le (by rw [length_sameM];exact Nat.le_refl _)
     have ho:=HA.out.own
     rw [hfull,HSZ.out] at ho
     refine bodyPost_ret (out_mp (HP.out.put2 (.slice A1 i c1) (i:Int)) _ _ 2 res_rsame rfl) rfl ⟨_,rfl, ?_,below_put2 (HA.out.aft HB.out (by omega) (by have:=HSZ.out;omega)) (Nat.le_refl _) _ _⟩
     exact (ho.keep (fun g h1 _ _=>heap_put2 _ _ _ _ _ (by omega))).mono (by omega)
theorem length_delO (n a:Int):(delO n a).1.length=cntM n:=by unfold delO;split <;> simp [length_sameM,length_delM]
theorem refOut_is {w w':World} {xs:List Int} {n:Nat} {nw:Int} {e:Ending} (h:RefOut w w' xs nw e) (hl:xs.length=n):∃ D d,e = .returned (.agg #[.slice D n d,.int .i64 nw])∧IR w' w'.heap.size D n d xs∧Below w.heap.size w w':=by
 obtain ⟨v,he,h1,h2⟩:=h
 obtain ⟨D,d,hv⟩:=own_sl h1
 have hi:=h1.se
 rw [hl] at hv
 subst hv
 exact ⟨D,d,he,hi,h2⟩
end Go.Proofs.YtdnooocmlhcpkaaGreatDoor
