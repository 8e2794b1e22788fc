/-
 Texts of layers, put together.
-/
import Derived.Test.YtnahgpjglooclaaGreatDoorDR7
import Derived.Deep.DeepCutAuto
import Derived.RangeFuncNested
import Derived.RangeFuncBound
import Derived.RangeFuncCalls
import Derived.RangeFuncLeaves
import Derived.Shelf.Abstract
import Derived.WalkKit
import Derived.OwnWalkIn
import Derived.TacticsInMore
import Derived.LoopNIn
import Derived.LoopIn
namespace Go.Proofs.YtnahgpjglooclaaGreatDoor
open Go.RowKit
def shA:Array Value:=(List.replicate 9 (Value.string ⟨#[]⟩)++opS.map Value.string).toArray
theorem wr2a (rk:Nat) (h:rk≤5):wrap64 ((rk:Int)+1+1)=(rk:Int)+2:=by unfold wrap64;omega
theorem wr2b (rk:Nat) (h:rk≤5):IntKind.i64.wrap ((rk:Int)+1+1)=(rk:Int)+2:=by rw [IntKind.wrap_i64];omega
theorem shA_at:∀ k:Nat,9≤k→k<20→shA[k]? = some (.string (opS.getD (k - 9) ⟨#[]⟩)):=by
 intro k h9 h20
 have hk:k=9∨k=10∨k=11∨k=12∨k=13∨k=14∨k=15∨k=16∨k=17∨k=18∨k=19:=by omega
 rcases hk with rfl | rfl | rfl | rfl | rfl | rfl | rfl | rfl | rfl | rfl | rfl <;> rfl
def ShV (w:World):Prop:=∃ ty fr,w.heap[(0:Nat)]? = some (.cells shA ty fr)
theorem ShV.below {w w':World} (h:ShV w) (hb:Below w.heap.size w w'):ShV w':=by
 obtain ⟨ty,fr,h1⟩:=h
 exact ⟨ty,fr,by rw [hb.block _ (Array.getElem?_eq_some_iff.1 h1).1];exact h1⟩
theorem ShV.cell {w:World} (h:ShV w) (j:Nat):w.cell? ⟨(0:Nat),j,none⟩=shA[j]? := by
 obtain ⟨ty,fr,h1⟩:=h
 exact cell_of_row w _ j _ ty fr h1
theorem ShV.lt {w:World} (h:ShV w):0<w.heap.size:=by
 obtain ⟨ty,fr,h1⟩:=h
 exact (Array.getElem?_eq_some_iff.1 h1).1
set_option maxRecDepth 100000 in
set_option maxHeartbeats 4000000 in
theorem between_node (w:World) (b:Nat) (nv:Value) (st:List Pt) (txt:List Int) (n:Nd) (A:Option Addr) (m c:Nat) (h:WQ w b nv st txt) (kd:Nat) (hk:n.kind=(kd:Int)) (h9:9≤kd) (h20:kd<20) (k0 k1:Int) (hk0:n.kids[0]? = some k0) (hk1:n.kids[1]? = some k1) (hsi:SI w b (.slice A m c) n.kids) (hsv:ShV w) (hgb:0<b) (hls:st.length≤2000000000) :
 Calls Tryz.prog 127 #[.pointer (some ⟨b,0,none⟩),.agg #[.int .i64 n.kind,.int .i64 n.num,.string n.text,.string n.ref.sh,.int .i64 n.ref.c,.int .i64 n.ref.r,.bool n.ref.ac,.bool n.ref.ar,.string n.zto.sh,.int .i64 n.zto.c,.int .i64 n.zto.r,.bool n.zto.ac,.bool n.zto.ar,.slice A m c]] w (Wrote w b nv st txt n):=by
 have hB:Below w.heap.size w (w.alloc (.cells #[.int .i64 n.kind,.int .i64 n.num,.string n.text,.string n.ref.sh,.int .i64 n.ref.c,.int .i64 n.ref.r,.bool n.ref.ac,.bool n.ref.ar,.string n.zto.sh,.int .i64 n.zto.c,.int .i64 n.zto.r,.bool n.zto.ac,.bool n.zto.ar,.slice A m c] 100)):=(Below.refl _ _).alloc (Nat.le_refl _) _
 have HN:NdAt (w.alloc (.cells #[.int .i64 n.kind,.int .i64 n.num,.string n.text,.string n.ref.sh,.int .i64 n.ref.c,.int .i64 n.ref.r,.bool n.ref.ac,.bool n.ref.ar,.string n.zto.sh,.int .i64 n.zto.c,.int .i64 n.zto.r,.bool n.zto.ac,.bool n.zto.ar,.slice A m c] 100)) w.heap.size n (.slice A m c):=NdAt.new w n _
 have hbw:b<w.heap.size:=by obtain ⟨wv,h1, -⟩:=h;exact h1.lt
 obtain ⟨sg,hsg⟩:∃ sg,opS.getD (kd - 9) ⟨#[]⟩=sg:=⟨_,rfl⟩
 obtain ⟨rk,hrk⟩:∃ rk:Nat,rankL n.kind=rk:=⟨_,rfl⟩
 have hrk6:rk≤5:=by rw [← hrk];unfold rankL;split <;> (try split) <;> (try split) <;> (try split) <;> (try split) <;> omega
 have hs:stepN n=([],[Pt.op k0 ((rk:Int)+1),Pt.plain sg,Pt.op k1 ((rk:Int)+2)]):=by
  unfold stepN;rw [if_neg (by omega),if_neg (by omega),if_neg (by omega),if_neg (by omega),if_neg (by omega),if_neg (by omega),if_neg (by omega),if_neg (by omega),List.getD_eq_getElem?_getD,hk0,List.getD_eq_getElem?_getD (l:=n.kids) (i:=1),hk1,hrk,hk,show ((kd:Int) - 9).toNat=kd - 9 by omega,hsg];rfl
 have hrank:=rankOf_any n.kind
 rw [hrk,hk] at hrank
 have hsi1:=hsi.below hB (Nat.le_of_lt hbw)
 obtain ⟨A',cap',hsl,hcm, -,hcell⟩:=hsi1
 injection hsl with e1 e2 e3
 have hpos:1<n.kids.length:=(List.getElem?_eq_some_iff.1 hk1).1
 obtain ⟨pb,po,hA,hpb,hcl⟩:=hcell.resolve_left (fun e=>by rw [e] at hpos;exact absurd hpos (by decide))
 have hc0:=hcl 0 k0 hk0
 have hc1:=hcl 1 k1 hk1
 rw [Nat.add_zero] at hc0
 have hA2:=e1.trans hA
 subst hA2;subst e3
 clear e1 hA
 have hm0:(0:Int)<(m:Int):=by omega
 have hm1:(1:Int)<(m:Int):=by omega
 have hm2:0<m:=by omega
 have hm3:1<m:=by omega
 have hkd0:(0:Int)≤(kd:Int):=by omega
 have hkd1:(kd:Int)<20:=by omega
 have hw1a:=wr2a rk hrk6
 have hw1b:=wr2b rk hrk6
 have hsc:(w.alloc (.cells #[.int .i64 n.kind,.int .i64 n.num,.string n.text,.string n.ref.sh,.int .i64 n.ref.c,.int .i64 n.ref.r,.bool n.ref.ac,.bool n.ref.ar,.string n.zto.sh,.int .i64 n.zto.c,.int .i64 n.zto.r,.bool n.zto.ac,.bool n.zto.ar,.slice (some ⟨pb,po,none⟩) m c] 100)).cell? ⟨(0:Nat),kd,none⟩=some (.string sg):=by rw [(hsv.below hB).cell kd,shA_at kd h9 h20,hsg]
 have hgl1:=(hsv.below hB).lt
 have HS:=Lib.hid hs
 have HB:=Lib.hid hB
 have HRK:=Lib.hid hrank
 have HQ1:=Lib.hid (h.below hB)
 have HKD:=Lib.hid hk
 clear h hs hk hB hsi e2 hcl hpos hcell hk0 hk1 hsv hsg hrk hrank
 go_enter Tryz.func127,Tryz.ntmps127
 go_upto_region 1 with (fail)
 obtain ⟨z,hzz⟩:∃ z,w.heap.size=z:=⟨_,rfl⟩
 obtain ⟨w1,hw1⟩:∃ w1,w.alloc (.cells #[.int .i64 n.kind,.int .i64 n.num,.string n.text,.string n.ref.sh,.int .i64 n.ref.c,.int .i64 n.ref.r,.bool n.ref.ac,.bool n.ref.ar,.string n.zto.sh,.int .i64 n.zto.c,.int .i64 n.zto.r,.bool n.zto.ac,.bool n.zto.ar,.slice (some ⟨pb,po,none⟩) m c] 100)=w1:=⟨_,rfl⟩
 rw [hw1] at HN HB HQ1 hc0 hc1 hsc hgl1 ⊢
 rw [hzz] at HN ⊢
 have hzl:=HN.lt
 have hzb:z≠b:=by omega
 have HN2:=Lib.hid HN
 have x0:=HN.cells.1
 obtain ⟨-, -, -, -, -, -, -, -, -, -, -, -, -,x1⟩:=HN.cells
 rw [HKD.out] at x0
 have hbw1:b<w1.heap.size:=Nat.lt_of_lt_of_le hbw HB.out.size
 have hpl:pb<w1.heap.size:=by omega
 have hgl:0<w1.heap.size:=hgl1
 have x2:=hc0;have x3:=hc1;have x4:=hsc
 clear hzz hw1 HN hc0 hc1 hsc hgl1
 go_upto_region 2 with (go_at_call 87;((with_reducible refine (HRK.out _).mono ?_);rintro e w2 ⟨rfl,rfl⟩))
 have H1:=Lib.hid ((Below.refl w1.heap.size w1).drew)
 have HP:=Lib.hid (fun (wr:World) (hr:Below w1.heap.size w1 wr)=>push_lit wr b nv st [Pt.op k0 ((rk:Int)+1),Pt.plain sg,Pt.op k1 ((rk:Int)+2)] txt #[.string ⟨#[]⟩,.int .i64 k0,.int .i64 ((rk:Int)+1),.string sg,.int .i64 0,.int .i64 0,.string ⟨#[]⟩,.int .i64 k1,.int .i64 ((rk:Int)+2)] 3 rfl rfl (HQ1.out.below hr) (by show 3≤1000000;decide) hls)
 clear HRK
 go_region_held3 (fun w'=>w'.cell? ⟨z,0,none⟩=some (.int .i64 (kd:Int))∧w'.cell? ⟨z,13,none⟩=some (.slice (some ⟨pb,po,none⟩) m c)∧w'.cell? ⟨pb,po,none⟩=some (.int .i64 k0)∧w'.cell? ⟨pb,po+1,none⟩=some (.int .i64 k1)∧w'.cell? ⟨(0:Nat),kd,none⟩=some (.string sg)) (go_keep) (first
  | (go_at_call 62;((with_reducible refine (op_lit k0 ((rk:Int)+1) _).mono ?_);rintro e w3 ⟨rfl,h3⟩;have H3:=Lib.hid (H1.out.trans (h3.mono H1.out.size));have p0:=(H3.out.cell (p:=⟨z,0,none⟩) hzl).trans x0;have p1:=(H3.out.cell (p:=⟨z,13,none⟩) hzl).trans x1;have p2:=(H3.out.cell (p:=⟨pb,po,none⟩) hpl).trans x2;have p3:=(H3.out.cell (p:=⟨pb,po+1,none⟩) hpl).trans x3;have p4:=(H3.out.cell (p:=⟨(0:Nat),kd,none⟩) hgl).trans x4;clear h3))
  | (go_at_call 88;((with_reducible refine (plain_lit _ _).mono ?_);rintro e w4 ⟨rfl,h3⟩;have H4:=Lib.hid (H3.out.trans (h3.mono H3.out.size));have q0:=(H4.out.cell (p:=⟨z,0,none⟩) hzl).trans x0;have q1:=(H4.out.cell (p:=⟨z,13,none⟩) hzl).trans x1;have q2:=(H4.out.cell (p:=⟨pb,po,none⟩) hpl).trans x2;have q3:=(H4.out.cell (p:=⟨pb,po+1,none⟩) hpl).trans x3;have q4:=(H4.out.cell (p:=⟨(0:Nat),kd,none⟩) hgl).trans x4;clear h3))
  | (go_at_call 62;((with_reducible refine (op_lit k1 ((rk:Int)+2) _).mono ?_);rintro e w5 ⟨rfl,h3⟩;have H5:=Lib.hid (H4.out.trans (h3.mono H4.out.size));have r0:=(H5.out.cell (p:=⟨z,0,none⟩) hzl).trans x0;have r1:=(H5.out.cell (p:=⟨z,13,none⟩) hzl).trans x1;have r2:=(H5.out.cell (p:=⟨pb,po,none⟩) hpl).trans x2;have r3:=(H5.out.cell (p:=⟨pb,po+1,none⟩) hpl).trans x3;have r4:=(H5.out.cell (p:=⟨(0:Nat),kd,none⟩) hgl).trans x4;clear h3))
  | (go_at_call 61;((with_reducible refine (HP.out _ H5.out).mono ?_);rintro e w6 ⟨rfl,h3,h4⟩;have HQ6:=Lib.hid h3;have HF6:=Lib.hid h4;have hzk:=HF6.out.block z (Nat.lt_of_lt_of_le hzl H5.out.size) hzb (.inr fun cur fr=>by
      have h5:=H5.out.block z hzl
      have h6:w1.heap[z]? = some (.cells (nodA n (.slice (some ⟨pb,po,none⟩) m c)) 100):=HN2.out
      rw [h5,h6]
      exact ⟨fun e=>by (injection e with e;injection e with _ e2;exact absurd e2 (by decide)),fun e=>by (injection e with e;injection e with _ e2;exact absurd e2 (by decide))⟩);have hpk:=HF6.out.block pb (Nat.lt_of_lt_of_le hpl H5.out.size) (Nat.ne_of_lt hpb) (.inl hpb);have hgk:=HF6.out.block 0 (Nat.lt_of_lt_of_le hgl H5.out.size) (Nat.ne_of_lt hgb) (.inl hgb);have t0:=(World.cell?_of_block (a:=⟨z,0,none⟩) hzk).trans r0;have t1:=(World.cell?_of_block (a:=⟨z,13,none⟩) hzk).trans r1;have t2:=(World.cell?_of_block (a:=⟨pb,po,none⟩) hpk).trans r2;have t3:=(World.cell?_of_block (a:=⟨pb,po+1,none⟩) hpk).trans r3;have t4:=(World.cell?_of_block (a:=⟨(0:Nat),kd,none⟩) hgk).trans r4;clear h3 h4 hzk hpk hgk)))
 all_goals go_wp2_with fail
 all_goals go_end0
 all_goals refine ⟨rfl, ?_,(Fq.ofBelow HB.out).trans ((Fq.ofBelow H5.out).trans HF6.out)⟩
 all_goals rw [HS.out,List.append_nil]
 all_goals exact HQ6.out
end Go.Proofs.YtnahgpjglooclaaGreatDoor
namespace Go.Proofs.YtnahgpjglooclaaGreatDoor
open Go.RowKit Go.Shelf
attribute [local go_sem] Oper.semAt_some
def cameI (xs:List Int) (q:Nat):List (Nat × Int):=(List.range (xs.length - q)).map fun j=>(xs.length - 1 - j,xs.getD (xs.length - 1 - j) 0)
theorem cameI_all (xs:List Int):cameI xs xs.length=[]:=by unfold cameI;simp
theorem cameI_step (xs:List Int) (m:Nat) (p:Int) (hp:xs[m]? = some p):cameI xs m=cameI xs (m+1)++[(m,p)]:=by
 have hl:=(List.getElem?_eq_some_iff.1 hp).1
 unfold cameI
 rw [show xs.length - m=(xs.length - (m+1))+1 by omega,List.range_succ,List.map_append]
 show _++[(xs.length - 1 - (xs.length - (m+1)),_)]=_
 rw [show xs.length - 1 - (xs.length - (m+1))=m by omega,List.getD_eq_getElem?_getD,hp];rfl
theorem cameI_len (xs:List Int) (q:Nat):(cameI xs q).length=xs.length - q:=by unfold cameI;simp
set_option maxRecDepth 100000 in
set_option maxHeartbeats 4000000 in
theorem backI1_in (F:Fence) (n:Nat) (h7:F.fn 174) (hro:F.round=none) (hn:1≤n) (l Bs b po cap:Nat) (A:Option Addr) (xs:List Int) (hlen:xs.length≤1000000000) (J Jx:List (Nat × Int)→World→Prop)
 (hY:∀ pre x W,xs[x.1]? = some x.2→J pre W→pre.length<xs.length→YieldAt F (n - 1) Tryz.prog l #[.int .i64 (x.1:Int),.int .i64 x.2] W fun e W' =>
   (e = .returned (.bool true)∧J (pre++[x]) W'∧Twos Bs b W W')∨(e = .returned (.bool false)∧Jx (pre++[x]) W'))
 (W:World) (hBs:W.cell? ⟨Bs,0,none⟩=some (.slice A xs.length cap)) (hc:∀ m p,xs[m]? = some p→A=some ⟨b,po,none⟩∧W.cell? ⟨b,po+m,none⟩=some (.int .i64 p)) (h0:J [] W) :
 CallsIn F n Tryz.prog 174 #[.func (.yield l) #[] #[],.pointer (some ⟨Bs,0,none⟩)] W fun e W'=>(∃ v,e = .returned v) ∧
  ((∃ ys,ys=cameI xs 0∧J ys W')∨(∃ pre,True∧Jx pre W')):=by
 obtain ⟨L,hL⟩:∃ L,xs.length=L:=⟨_,rfl⟩
 have HL:=Lib.hid hL
 rw [hL] at hlen hBs
 refine callsIn_of_wp Tryz.func174 rfl h7 ?_ hro
 simp only [Tryz.ntmps174,List.size_toArray,List.length_cons,List.length_nil,Nat.reduceAdd,Nat.reduceSub,Array.replicate_succ,Array.replicate_zero,List.push_toArray,List.append_toArray,List.nil_append,List.cons_append]
 gi_wp2
 gi_loopw [3] (fun i wr=>∃ q:Nat,q≤L∧i = .int .i64 ((q:Int) - 1)∧J (cameI xs q) wr∧Twos Bs b W wr)
  (fun i _=>(intOf i+1).toNat)
 case atStart=>exact ⟨L,Nat.le_refl _,rfl,by rw [← hL,cameI_all];exact h0,Twos.refl _ _ _⟩
 case round =>
  obtain ⟨q,hq,rfl,hJs,hnx⟩:=hrel
  have hBs':=(hnx.cell1 0).trans hBs
  cases q with
  | zero =>
    gi_wp2
    go_end0
    exact ⟨⟨_,rfl⟩,.inl ⟨_,rfl,hJs⟩⟩
  | succ m =>
    obtain ⟨p,hp⟩:∃ p,xs[m]? = some p:=⟨_,List.getElem?_eq_getElem (by omega)⟩
    obtain ⟨hA,c0⟩:=hc m p hp
    have d0:=(hnx.cell2 (po+m)).trans c0
    have hst:=cameI_step xs m p hp
    obtain ⟨fn,tmps,assign,body,hy,hR⟩:=hY _ (m,p) wr hp hJs (by rw [cameI_len];omega)
    rw [← hst] at hR
    dsimp only at hy
    have hm1:((m+1:Nat):Int) - 1=(m:Int):=by omega
    rw [hm1]
    have hmL:(m:Int)<(L:Int):=by omega
    have hm0:(0:Int)≤(m:Int):=by omega
    clear hm1 c0 hc hJs hst
    subst hA
    gi_wp2
    refine hR.mono ?_
    rintro e W3 (⟨rfl,hJ3,hk3⟩ | ⟨rfl,hJx3⟩)
    · gi_wp2
      go_roundw
      case rel=>exact ⟨m,by omega,by simp,hJ3,hnx.trans hk3⟩
      case measure=>simp [intOf]
    · gi_wp2
      refine bodyPost_ret (results_none rfl _ _ _) rfl ?_
      exact ⟨⟨_,rfl⟩,.inr ⟨_,trivial,hJx3⟩⟩
theorem backwardI_in (F:Fence) (n:Nat) (h5:F.fn 156) (hro:F.round=none) (a:Option Addr) (len cap:Nat) (w:World) :
 CallsIn F n Tryz.prog 156 #[.slice a len cap] w fun e w'=>e = .returned (.func (.func 174) #[] #[.pointer (some ⟨w.heap.size,0,none⟩)])∧w.alloc (.cells #[.slice a len cap] 52)=w':=by
 refine callsIn_of_wp Tryz.func156 rfl h5 ?_ hro
 simp only [Tryz.ntmps156,List.size_toArray,List.length_cons,List.length_nil,Nat.reduceAdd,Nat.reduceSub,Array.replicate_succ,Array.replicate_zero,List.push_toArray,List.append_toArray,List.nil_append,List.cons_append]
 gi_wp2
 go_ret
 exact ⟨rfl,rfl⟩
theorem backI_stops (F:Fence) (n:Nat) (h7:F.fn 174) (hro:F.round=none) (hn:1≤n) (Bs b po cap:Nat) (A:Option Addr) (xs:List Int) (hlen:xs.length≤1000000000) (w:World) (hB:Bs<w.heap.size) (hb:b<w.heap.size)
 (hBs:w.cell? ⟨Bs,0,none⟩=some (.slice A xs.length cap)) (hc:∀ m p,xs[m]? = some p→A=some ⟨b,po,none⟩∧w.cell? ⟨b,po+m,none⟩=some (.int .i64 p)) :
 SeqStopsK F n Tryz.prog 174 #[.pointer (some ⟨Bs,0,none⟩)] (fun x:Nat × Int=>#[Value.int .i64 (x.1:Int),.int .i64 x.2]) (Twos Bs b) (fun ys=>ys=cameI xs 0) (fun _=>True) xs.length w:=fun l J Jx W hW _ _ hY h0 =>
 backI1_in F n h7 hro hn l Bs b po cap A xs hlen J Jx (fun pre x W _=>hY pre x W) W ((hW.cell hB).trans hBs) (fun m p hp=>⟨(hc m p hp).1,(hW.cell (p:=⟨b,po+m,none⟩) hb).trans (hc m p hp).2⟩) h0
end Go.Proofs.YtnahgpjglooclaaGreatDoor
namespace Go.Proofs.YtnahgpjglooclaaGreatDoor
open Go.RowKit Go.Shelf
def kidP (x:Nat × Int):List Pt:=if x.1=0 then [Pt.op x.2 1] else [Pt.op x.2 1,Pt.plain ⟨#[44]⟩]
def kidsP (pre:List (Nat × Int)):List Pt:=pre.flatMap kidP
theorem kidsP_snoc (pre:List (Nat × Int)) (x:Nat × Int):kidsP (pre++[x])=kidsP pre++kidP x:=by unfold kidsP;simp
theorem kidsP_len (pre:List (Nat × Int)):(kidsP pre).length≤2*pre.length:=by
 induction pre with
 | nil=>exact Nat.le_refl _
 | cons x pre ih =>
   show (kidP x++kidsP pre).length≤_
   have h:(kidP x).length≤2:=by unfold kidP;split <;> simp
   rw [List.length_append,List.length_cons];omega
def argQ:List Int→List Pt
 | []=>[]
 | k :: ks=>Pt.plain ⟨#[44]⟩ :: Pt.op k 1 :: argQ ks
theorem argP_Q:∀ (a:Int) (ks:List Int),argP (a :: ks)=Pt.op a 1 :: argQ ks
 | a,[]=>rfl
 | a,b :: ks=>by show Pt.op a 1 :: Pt.plain ⟨#[44]⟩ :: argP (b :: ks)=_;rw [argP_Q b ks];rfl
theorem kidsP_came (xs:List Int) (q:Nat) (h1:1≤q) (h2:q≤xs.length):kidsP (cameI xs q)=(argQ (xs.drop q)).reverse:=by
 induction h:xs.length - q generalizing q with
 | zero =>
   have:q=xs.length:=by omega
   subst this
   rw [cameI_all,List.drop_length];rfl
 | succ d ih =>
   obtain ⟨p,hp⟩:∃ p,xs[q]? = some p:=⟨_,List.getElem?_eq_getElem (by omega)⟩
   have hl:=(List.getElem?_eq_some_iff.1 hp).1
   have he:xs[q]=p:=by rw [List.getElem?_eq_getElem hl] at hp;exact Option.some.inj hp
   rw [cameI_step xs q p hp,kidsP_snoc,ih (q+1) (by omega) (by omega) (by omega),List.drop_eq_getElem_cons hl,he]
   show _++kidP (q,p)=(Pt.plain ⟨#[44]⟩ :: Pt.op p 1 :: argQ (xs.drop (q+1))).reverse
   unfold kidP
   rw [if_neg (show ¬ (q,p).1=0 by show ¬ q=0;omega),List.reverse_cons,List.reverse_cons,List.append_assoc];rfl
theorem kidsP_all:∀ xs:List Int,kidsP (cameI xs 0)=(argP xs).reverse
 | []=>rfl
 | a :: ks=>by
   rw [cameI_step (a :: ks) 0 a rfl,kidsP_snoc,kidsP_came (a :: ks) 1 (by omega) (by simp),argP_Q]
   show _++[Pt.op a 1]=_
   rw [List.reverse_cons];rfl
end Go.Proofs.YtnahgpjglooclaaGreatDoor
namespace Go.Proofs.YtnahgpjglooclaaGreatDoor
open Go.RowKit Go.Shelf
attribute [local go_sem] Oper.semAt_some
theorem WQ.stay {A B:World} {b:Nat} {nv:Value} {st:List Pt} {txt:List Int} (h:WQ A b nv st txt) {row:Option Nat} (hg:A.grownBy B row) (hr:∀ r,row=some r→∃ o:Obj,A.heap[r]? = some o∧o.isCells=false):WQ B b nv st txt:=by
 obtain ⟨wv,h1,h2⟩:=h
 exact ⟨wv,WS.stay h1 hg hr,ownStay h2 hg hr⟩
theorem Fq.keeps {W W':World} {b B:Nat} (h:Fq W W' b) (hB:b<B):KeepsFrom B W W':=⟨h.size,fun k o hk ho hc=>by
 rw [h.block k (Array.getElem?_eq_some_iff.1 ho).1 (by omega) (.inr fun cur fr=>⟨fun e=>by (rw [ho] at e;cases e;cases hc),fun e=>by (rw [ho] at e;cases e;cases hc)⟩)]
 exact ho⟩
theorem Fq.boxed {W W':World} {b k:Nat} {t:TypeId} {v:Value} (h:Fq W W' b) (hb:Boxed W k t v) (hk:k≠b) (h1:t≠5) (h2:t≠137):W'.heap[k]? = W.heap[k]? := by
 have hb':W.heap[k]? = some (.cells #[v] t):=hb
 exact h.block k (Array.getElem?_eq_some_iff.1 hb').1 hk (.inr fun cur fr=>⟨fun e=>by rw [hb'] at e;injection e with e;injection e with _ e;exact h1 e,fun e=>by rw [hb'] at e;injection e with e;injection e with _ e;exact h2 e⟩)
def CallI (w:World) (b:Nat) (nv:Value) (st:List Pt) (txt:List Int) (z zs:Nat) (sv:Value) (pre:List (Nat × Int)) (W:World):Prop :=
 WQ W b nv (st++kidsP pre) txt∧Boxed W z 128 (.pointer (some ⟨b,0,none⟩))∧Boxed W zs 52 sv∧Fq w W b
theorem callI_own {w:World} {b:Nat} {nv:Value} {st:List Pt} {txt:List Int} {z zs:Nat} {sv:Value} {B:Nat} (hB:w.heap.size≤B):OwnFrom B (CallI w b nv st txt z zs sv):=by
 rintro pre X Y row ⟨h1,h2,h3,h4⟩ hg hr
 have hr2:∀ r,row=some r→∃ o:Obj,X.heap[r]? = some o∧o.isCells=false:=fun r e=>(hr r e).2
 exact ⟨h1.stay hg hr2,cells_stay hg hr2 h2,cells_stay hg hr2 h3,h4.stay hg (fun r e=>Nat.le_trans hB (hr r e).1)⟩
set_option maxRecDepth 100000 in
set_option maxHeartbeats 8000000 in
theorem call_node (w:World) (b:Nat) (nv:Value) (st:List Pt) (txt:List Int) (n:Nd) (A:Option Addr) (m c:Nat) (h:WQ w b nv st txt) (hk:n.kind=7) (hz:n.text.size≤1000000) (hsi:SI w b (.slice A m c) n.kids) (hl:txt.length≤1000000000) (hls:st.length+2*n.kids.length+1≤2000000000) :
 Calls Tryz.prog 125 #[.pointer (some ⟨b,0,none⟩),.agg #[.int .i64 n.kind,.int .i64 n.num,.string n.text,.string n.ref.sh,.int .i64 n.ref.c,.int .i64 n.ref.r,.bool n.ref.ac,.bool n.ref.ar,.string n.zto.sh,.int .i64 n.zto.c,.int .i64 n.zto.r,.bool n.zto.ac,.bool n.zto.ar,.slice A m c]] w (Wrote w b nv st txt n):=by
 have hs:stepN n=(sb n.text++[40],argP n.kids++[Pt.plain ⟨#[41]⟩]):=by
  unfold stepN;rw [if_neg (by omega),if_neg (by omega),if_neg (by omega),if_neg (by omega),if_neg (by omega),if_neg (by omega),if_pos hk]
 have hbw:b<w.heap.size:=by obtain ⟨wv,h1, -⟩:=h;exact h1.lt
 have f1:¬ 9223372036854775807<n.text.size+(⟨#[40]⟩:ByteArray).size:=by show ¬ _<_+1;omega
 have f2:¬ 9223372036854775807<n.text.size+1:=by omega
 have f3:(n.text++(⟨#[40]⟩:ByteArray)).size=n.text.size+1:=by rw [ByteArray.size_append];rfl
 have HT:=Lib.hid (show sb (n.text++(⟨#[40]⟩:ByteArray))=sb n.text++[40] by rw [sb_append];rfl)
 have hB:Below w.heap.size w ((w.alloc (.cells #[(.pointer (some ⟨b,0,none⟩))] 128)).alloc (.cells #[.int .i64 n.kind,.int .i64 n.num,.string n.text,.string n.ref.sh,.int .i64 n.ref.c,.int .i64 n.ref.r,.bool n.ref.ac,.bool n.ref.ar,.string n.zto.sh,.int .i64 n.zto.c,.int .i64 n.zto.r,.bool n.zto.ac,.bool n.zto.ar,.slice A m c] 100)):=((Below.refl _ w).alloc (Nat.le_refl _) _).alloc (by simp) _
 have bW:Boxed ((w.alloc (.cells #[(.pointer (some ⟨b,0,none⟩))] 128)).alloc (.cells #[.int .i64 n.kind,.int .i64 n.num,.string n.text,.string n.ref.sh,.int .i64 n.ref.c,.int .i64 n.ref.r,.bool n.ref.ac,.bool n.ref.ar,.string n.zto.sh,.int .i64 n.zto.c,.int .i64 n.zto.r,.bool n.zto.ac,.bool n.zto.ar,.slice A m c] 100)) w.heap.size 128 (.pointer (some ⟨b,0,none⟩)):=(Boxed.new w 128 (.pointer (some ⟨b,0,none⟩))).alloc _
 have HN:NdAt ((w.alloc (.cells #[(.pointer (some ⟨b,0,none⟩))] 128)).alloc (.cells #[.int .i64 n.kind,.int .i64 n.num,.string n.text,.string n.ref.sh,.int .i64 n.ref.c,.int .i64 n.ref.r,.bool n.ref.ac,.bool n.ref.ar,.string n.zto.sh,.int .i64 n.zto.c,.int .i64 n.zto.r,.bool n.zto.ac,.bool n.zto.ar,.slice A m c] 100)) (w.heap.size+1) n (.slice A m c):=by
  have h:=NdAt.new (w.alloc (.cells #[(.pointer (some ⟨b,0,none⟩))] 128)) n (.slice A m c)
  rwa [World.size_alloc] at h
 have HS:=Lib.hid hs
 have HB:=Lib.hid hB
 have HQ:=Lib.hid (h.below hB)
 have HSI:=Lib.hid (hsi.below hB (Nat.le_of_lt hbw))
 have hsz:((w.alloc (.cells #[(.pointer (some ⟨b,0,none⟩))] 128)).alloc (.cells #[.int .i64 n.kind,.int .i64 n.num,.string n.text,.string n.ref.sh,.int .i64 n.ref.c,.int .i64 n.ref.r,.bool n.ref.ac,.bool n.ref.ar,.string n.zto.sh,.int .i64 n.zto.c,.int .i64 n.zto.r,.bool n.zto.ac,.bool n.zto.ar,.slice A m c] 100)).heap.size=w.heap.size+2:=by simp
 clear h hs hk hsi hB
 refine (callsIn_wide (n:=6)).1 ?_
 refine callsIn_of_wp_marks Tryz.func125 rfl trivial ?_ rfl
 simp only [Tryz.ntmps125,List.size_toArray,List.length_cons,List.length_nil,Nat.reduceAdd,Nat.reduceSub,Array.replicate_succ,Array.replicate_zero,List.push_toArray,List.append_toArray,List.nil_append,List.cons_append]
 gi_wp2
 obtain ⟨w1,hw1⟩:∃ w1,((w.alloc (.cells #[(.pointer (some ⟨b,0,none⟩))] 128)).alloc (.cells #[.int .i64 n.kind,.int .i64 n.num,.string n.text,.string n.ref.sh,.int .i64 n.ref.c,.int .i64 n.ref.r,.bool n.ref.ac,.bool n.ref.ar,.string n.zto.sh,.int .i64 n.zto.c,.int .i64 n.zto.r,.bool n.zto.ac,.bool n.zto.ar,.slice A m c] 100))=w1:=⟨_,rfl⟩
 rw [hw1] at HN HB HQ HSI bW hsz ⊢
 obtain ⟨z,hzz⟩:∃ z,w.heap.size=z:=⟨_,rfl⟩
 rw [hzz] at HN bW hsz ⊢
 have hzl:z<w1.heap.size:=by omega
 have hzl1:z+1<w1.heap.size:=HN.lt
 have hzb:z≠b:=by omega
 have hzb1:z+1≠b:=by omega
 have HN2:=Lib.hid HN
 have HBW:=Lib.hid bW
 have x0:=bW.cell
 obtain ⟨-, -,x2, -, -, -, -, -, -, -, -, -, -,x13⟩:=HN.cells
 have HW:=Lib.hid (fun wr (hr:Below w1.heap.size w1 wr) wv (h1:WS w1 b nv wv txt)=>write_any wr b nv wv txt (n.text++(⟨#[40]⟩:ByteArray)) (h1.below hr) (by rw [f3];omega))
 have H1:=Lib.hid ((Below.refl w1.heap.size w1).drew)
 clear hw1 HN bW f3
 obtain ⟨wv,hws,hown⟩:=HQ.out
 have HWS:=Lib.hid hws
 have HO:=Lib.hid hown
 clear hws hown
 refine wpIn_wide.2 ?_
 go_region_held3 (fun w'=>w'.cell? ⟨z,0,none⟩=some (.pointer (some ⟨b,0,none⟩))∧w'.cell? ⟨z+1,2,none⟩=some (.string n.text)) (go_keep) (first
  | (go_at_call 86;((with_reducible refine (HW.out _ H1.out wv HWS.out).mono ?_);rintro e w2 ⟨⟨x,rfl⟩,h3,h4⟩;have HWS2:=Lib.hid h3;have HF2:=Lib.hid h4;have hzk:=HF2.out.block z hzl hzb (.inr fun cur fr e=>by
      have h6:w1.heap[z]? = some (.cells #[.pointer (some ⟨b,0,none⟩)] 128):=HBW.out
      have h7:w1.drew.heap[z]? = w1.heap[z]? := rfl
      rw [h7,h6] at e;injection e with e;injection e with _ e2;exact absurd e2 (by decide));have hzk1:=HF2.out.block (z+1) hzl1 hzb1 (.inr fun cur fr e=>by
      have h6:w1.heap[z+1]? = some (.cells (nodA n (.slice A m c)) 100):=HN2.out
      have h7:w1.drew.heap[z+1]? = w1.heap[z+1]? := rfl
      rw [h7,h6] at e;injection e with e;injection e with _ e2;exact absurd e2 (by decide));have p0:=(World.cell?_of_block (a:=⟨z,0,none⟩) hzk).trans x0;have p2:=(World.cell?_of_block (a:=⟨z+1,2,none⟩) hzk1).trans x2;have p13:=(World.cell?_of_block (a:=⟨z+1,13,none⟩) hzk1).trans x13;clear h3 h4)))
 gi_wp2
 have hbw2:w1.heap.size≤w2.heap.size:=HF2.out.size
 have HWQ2:=Lib.hid (show WQ w2 b nv st (txt++sb (n.text++(⟨#[40]⟩:ByteArray))) from WQ.wrote (HO.out.below H1.out (Nat.le_refl _)) HWS2.out HF2.out)
 have HPU:=Lib.hid (fun (w3:World) (h3:Below w2.heap.size w2 w3)=>push_lit w3 b nv st [Pt.plain ⟨#[41]⟩] (txt++sb (n.text++(⟨#[40]⟩:ByteArray))) #[.string ⟨#[41]⟩,.int .i64 0,.int .i64 0] 1 rfl rfl (HWQ2.out.below h3) (by show 1≤1000000;decide) (by omega))
 have HZ2:=Lib.hid hzk
 have HZ21:=Lib.hid hzk1
 have H2:=Lib.hid ((Below.refl w2.heap.size w2).drew)
 have hzl2:z<w2.heap.size:=by omega
 have hzl21:z+1<w2.heap.size:=by omega
 clear x0 x2 x13 hzk hzk1 p2
 refine wpIn_wide.2 ?_
 go_region_held3 (fun w'=>w'.cell? ⟨z,0,none⟩=some (.pointer (some ⟨b,0,none⟩))) (go_keep) (first
  | (go_at_call 88;((with_reducible refine (plain_lit _ _).mono ?_);rintro e w3 ⟨rfl,h3⟩;have H3:=Lib.hid (H2.out.trans (h3.mono H2.out.size));have q0:=(H3.out.cell (p:=⟨z,0,none⟩) hzl2).trans p0;clear h3))
  | (go_at_call 61;((with_reducible refine (HPU.out _ H3.out).mono ?_);rintro e w5 ⟨rfl,h3,h4⟩;have HQ5:=Lib.hid h3;have HF5:=Lib.hid h4;have hzk:=Fq.boxed HF5.out (k:=z) (v := .pointer (some ⟨b,0,none⟩)) (t:=128) ((H3.out.block z hzl2).trans (HZ2.out.trans HBW.out)) hzb (by decide) (by decide);have r0:=(World.cell?_of_block (a:=⟨z,0,none⟩) hzk).trans q0;clear h3 h4)))
 have hlt3:w2.heap.size≤w3.heap.size:=H3.out.size
 have N5:NdAt w5 (z+1) n (.slice A m c):=by
  unfold NdAt
  have e1:w3.heap[z+1]? = some (.cells (nodA n (.slice A m c)) 100):=(H3.out.block (z+1) hzl21).trans (HZ21.out.trans HN2.out)
  rw [HF5.out.block (z+1) (by omega) hzb1 (.inr fun cur fr=>⟨fun e=>by (rw [e1] at e;injection e with e;injection e with _ e2;exact absurd e2 (by decide)),fun e=>by (rw [e1] at e;injection e with e;injection e with _ e2;exact absurd e2 (by decide))⟩)]
  exact e1
 obtain ⟨-, -, -, -, -, -, -, -, -, -, -, -, -,x13⟩:=N5.cells
 have HF15:=Lib.hid (((Fq.ofBelow H1.out).trans (Fq.ofB HF2.out)).trans ((Fq.ofBelow H3.out).trans HF5.out))
 have HB5:Boxed w5 z 128 (.pointer (some ⟨b,0,none⟩)):=hzk.trans ((H3.out.block z hzl2).trans (HZ2.out.trans HBW.out))
 have hlt5:w3.heap.size≤w5.heap.size:=HF5.out.size
 have hbw1:b<w1.heap.size:=by omega
 have SI5:=HSI.out.fq HF15.out (Nat.le_refl _) hbw1
 clear N5 hzk q0 r0 p0
 gi_wp2_with (refine ⟨trivial, ?_⟩;gi_at_call 156;refine (backwardI_in Fence.wide _ trivial rfl _ _ _ _).mono ?_;rintro e w' ⟨rfl,rfl⟩)
 have bS:=Boxed.new w5 52 (.slice A m c)
 have hB6:Below w5.heap.size w5 (w5.alloc (.cells #[.slice A m c] 52)):=(Below.refl _ _).alloc (Nat.le_refl _) _
 have bW6:=HB5.alloc (.cells #[.slice A m c] 52)
 have hsz6:(w5.alloc (.cells #[.slice A m c] 52)).heap.size=w5.heap.size+1:=by simp
 obtain ⟨zs,hzs⟩:∃ zs,w5.heap.size=zs:=⟨_,rfl⟩
 obtain ⟨w6,hw6⟩:∃ w6,w5.alloc (.cells #[.slice A m c] 52)=w6:=⟨_,rfl⟩
 rw [hw6] at bS hB6 bW6 hsz6 ⊢
 rw [hzs] at bS hsz6 ⊢
 have hzsb:zs≠b:=by omega
 have hzz6:z≠zs:=by omega
 obtain ⟨A',cap',hsl,hcm, -,hcell⟩:=SI5
 injection hsl with e1 e2 e3
 subst e1 e2 e3
 obtain ⟨pb,po,hpb,hpbb,hcl⟩:∃ pb po,pb<w6.heap.size∧(pb<b∨pb=zs)∧∀ j y,n.kids[j]? = some y→A=some ⟨pb,po,none⟩∧w6.cell? ⟨pb,po+j,none⟩=some (.int .i64 y):=by
  rcases hcell with he | ⟨pb,po,hA,hp,hc⟩
  · exact ⟨zs,0,by omega,.inr rfl,fun j y hj=>by rw [he] at hj;cases hj⟩
  · exact ⟨pb,po,by omega,.inl hp,fun j y hj=>⟨hA,(hB6.cell (p:=⟨pb,po+j,none⟩) (by show pb<_;omega)).trans (hc j y hj)⟩⟩
 have HQ6:WQ w6 b nv (st++[Pt.plain ⟨#[41]⟩]) (txt++sb (n.text++(⟨#[40]⟩:ByteArray))):=HQ5.out.below hB6
 have HF06:=Lib.hid ((Fq.ofBelow HB.out).trans (HF15.out.trans (Fq.ofBelow hB6)))
 have hzs2:z+2≤zs:=by omega
 clear hcell hw6 hzs x13 HB5
 refine wpIn_rangeFunc_ownH (F:=Fence.wide) (n:=6) rfl (by omega) (gf:=174) (lb:=#[.pointer (some ⟨zs,0,none⟩)]) rfl trivial (enters_of Tryz.func174 (by kernel_rfl) rfl)
  (backI_stops Fence.wide 5 trivial rfl (by omega) zs pb po c A n.kids (by omega) w6 bS.lt hpb bS.cell hcl)
  Twos.trans (twosK_b bS.lt hpb) (Below.refl _ _) (fun _=>rfl)
  (CallI w6 b nv (st++[Pt.plain ⟨#[41]⟩]) (txt++sb (n.text++(⟨#[40]⟩:ByteArray))) z zs (.slice A n.kids.length c)) (fun _ _ _=>False)
  (callI_own (Nat.le_refl _)) (fun _ _ _ _ _ hs _ _=>hs) ⟨by rw [show kidsP []=[] from rfl,List.append_nil];exact HQ6,bW6,bS,Fq.refl _ _⟩
  (fun y a' W=>a'={ tmps:=#[.pointer (some ⟨b,0,none⟩),.agg #[.int .i64 n.kind,.int .i64 n.num,.string n.text,.string n.ref.sh,.int .i64 n.ref.c,.int .i64 n.ref.r,.bool n.ref.ac,.bool n.ref.ar,.string n.zto.sh,.int .i64 n.zto.c,.int .i64 n.zto.r,.bool n.zto.ac,.bool n.zto.ar,.slice A n.kids.length c],.pointer (some ⟨z,0,none⟩),.pointer (some ⟨z+1,0,none⟩),.int .i64 (y.1:Int),.int .i64 y.2,.pointer (some ⟨b,0,none⟩),.pointer (some ⟨b,0,none⟩),.pointer (some ⟨b,2,none⟩),.pointer (some ⟨z+1,2,none⟩),.string n.text,.string (n.text++⟨#[40]⟩),.tuple #[x,.nilIface],.pointer (some ⟨b,0,none⟩),.agg #[.string ⟨#[41]⟩,.int .i64 0,.int .i64 0],.slice (some ⟨w3.heap.size,0,none⟩) 1 1,.tuple #[],.pointer (some ⟨z+1,13,none⟩),.slice A n.kids.length c,.func (.func 174) #[] #[.pointer (some ⟨zs,0,none⟩)],.int .i64 (y.1:Int),.int .i64 y.2,undef,undef,undef,undef,undef,undef,undef,undef,undef,undef,undef],defers:=[] })
  (fun _ _ _ _ _ _ h _ _=>h) ?assign ?body ?done ?stop
 case assign =>
  rintro l pre ⟨j,k⟩ W K hI hK
  dsimp only
  gi_wp2
  exact hK _ _ (KeepsFrom.refl _ _) (Twos.refl _ _ _) hI rfl
 case body =>
  rintro l pre ⟨j,k⟩ a' W - - ⟨hQ,hbz,hbs,hF⟩ rfl hlen
  have hkl:=kidsP_len pre
  have cBa:=hbz.cell
  have HZa:=Lib.hid hbz
  have hzWa:z<W.heap.size:=hbz.lt
  have HPa:=Lib.hid (fun (wr:World) (hr:Below W.heap.size W wr)=>push_lit wr b nv (st++[Pt.plain ⟨#[41]⟩]++kidsP pre) [Pt.op k 1] (txt++sb (n.text++(⟨#[40]⟩:ByteArray))) #[.string ⟨#[]⟩,.int .i64 k,.int .i64 1] 1 rfl rfl (hQ.below hr) (by show 1≤1000000;decide) (by rw [List.length_append,List.length_append];show st.length+1+_≤_;omega))
  have HS0:(fun w'=>w'.cell? ⟨z,0,none⟩=some (.pointer (some ⟨b,0,none⟩))) W.drew:=cBa
  dsimp only
  gi_wp2
  refine region_in (by kernel_rfl) (by kernel_rfl) (wpAny_of_held (S:=(fun w'=>w'.cell? ⟨z,0,none⟩=some (.pointer (some ⟨b,0,none⟩)))) _ _ _ _ ?_)
  show wpAnyH _ _ _ _ _ 5 #[false,false,false,false,false] _ _
  refine hT 0 HS0 ?_ (hQ:=(fun _ _ _ h=>(by cases h.1))) (hy:=by (intro wS hSw;have e1:wS.cell? ⟨z,0,none⟩=some (.pointer (some ⟨b,0,none⟩)):=hSw;go_simp;try (with_reducible rfl)))
  refine hT 1 HS0 ?_ (hQ:=(fun _ _ _ h=>(by cases h.1)))
  refine hO 2 (fun K hK => ?_)
  go_simp
  refine (op_lit _ _ _).mono ?_
  rintro e wAa ⟨rfl,h3⟩
  have HAa:=Lib.hid ((Below.refl W.heap.size W).drew.trans (h3.mono (Nat.le_refl _)))
  have HSAa:(fun w'=>w'.cell? ⟨z,0,none⟩=some (.pointer (some ⟨b,0,none⟩))) wAa:=(HAa.out.cell (p:=⟨z,0,none⟩) hzWa).trans cBa
  clear h3
  go_wp2_with fail
  refine hK.out _ _ HSAa ?_
  clear hK K
  simp only [Act.put,sT,sZ,sS]
  refine hO 3 (fun K hK => ?_)
  go_simp
  refine hK.out _ _ ((((Below.refl wAa.heap.size wAa).alloc (Nat.le_refl _) _).cell (p:=⟨z,0,none⟩) (Nat.lt_of_lt_of_le hzWa HAa.out.size)).trans HSAa) ?_
  clear hK K
  simp only [Act.put,sT,sZ,sS]
  refine hO 4 (fun K hK => ?_)
  go_simp
  refine (HPa.out _ HAa.out).mono ?_
  rintro e wBa ⟨rfl,h3,h4⟩
  have HQBa:=Lib.hid h3
  have HFBa:=Lib.hid ((Fq.ofBelow HAa.out).trans h4)
  have HZBa:=Lib.hid (Fq.boxed HFBa.out HZa.out hzb (by decide) (by decide))
  have HSBa:(fun w'=>w'.cell? ⟨z,0,none⟩=some (.pointer (some ⟨b,0,none⟩))) wBa:=(World.cell?_of_block (a:=⟨z,0,none⟩) HZBa.out).trans cBa
  clear h3 h4
  go_wp2_with fail
  refine hK.out _ _ HSBa ?_
  clear hK K
  simp only [Act.put,sT,sZ,sS]
  refine wpAnyH_done (by kernel_rfl) ?_ _
  refine ⟨rfl, ?_⟩
  have hkwA:w6.heap.size≤W.heap.size:=hF.size
  have TW:∀ {W1 W2:World},Fq W1 W2 b→Boxed W1 zs 52 (.slice A n.kids.length c)→pb<W1.heap.size→Twos zs pb W1 W2:=fun h1 h2 h3=>⟨h1.boxed h2 hzsb (by decide) (by decide),by
   rcases hpbb with h | rfl
   · exact h1.block pb h3 (by omega) (.inl h)
   · exact h1.boxed h2 hzsb (by decide) (by decide)⟩
  cases j with
  | zero =>
    gi_wp2
    refine ⟨HFBa.out.keeps (by omega),TW HFBa.out hbs (by omega), ?_,HZBa.out.trans hbz,(HFBa.out.boxed hbs hzsb (by decide) (by decide)).trans hbs,hF.trans HFBa.out⟩
    rw [kidsP_snoc, ← List.append_assoc]
    exact HQBa.out
  | succ j =>
    have hj0:(0:Int)<((j+1:Nat):Int):=by omega
    have cBb:=HSBa
    have HZb:=Lib.hid (show Boxed wBa z 128 (.pointer (some ⟨b,0,none⟩)) from HZBa.out.trans hbz)
    have hzWb:z<wBa.heap.size:=HZb.out.lt
    have HPb:=Lib.hid (fun (wr:World) (hr:Below wBa.heap.size wBa wr)=>push_lit wr b nv (st++[Pt.plain ⟨#[41]⟩]++kidsP pre++[Pt.op k 1].reverse) [Pt.plain ⟨#[44]⟩] (txt++sb (n.text++(⟨#[40]⟩:ByteArray))) #[.string ⟨#[44]⟩,.int .i64 0,.int .i64 0] 1 rfl rfl (HQBa.out.below hr) (by show 1≤1000000;decide) (by rw [List.length_append,List.length_append,List.length_append];show st.length+1+_+1≤_;omega))
    have HS0:(fun w'=>w'.cell? ⟨z,0,none⟩=some (.pointer (some ⟨b,0,none⟩))) wBa.drew:=HSBa
    gi_wp2
    refine region_in (by kernel_rfl) (by kernel_rfl) (wpAny_of_held (S:=(fun w'=>w'.cell? ⟨z,0,none⟩=some (.pointer (some ⟨b,0,none⟩)))) _ _ _ _ ?_)
    show wpAnyH _ _ _ _ _ 4 #[false,false,false,false] _ _
    refine hT 0 HS0 ?_ (hQ:=(fun _ _ _ h=>(by cases h.1))) (hy:=by (intro wS hSw;have e1:wS.cell? ⟨z,0,none⟩=some (.pointer (some ⟨b,0,none⟩)):=hSw;go_simp;try (with_reducible rfl)))
    refine hO 1 (fun K hK => ?_)
    go_simp
    refine (plain_lit _ _).mono ?_
    rintro e wAb ⟨rfl,h3⟩
    have HAb:=Lib.hid ((Below.refl wBa.heap.size wBa).drew.trans (h3.mono (Nat.le_refl _)))
    have HSAb:(fun w'=>w'.cell? ⟨z,0,none⟩=some (.pointer (some ⟨b,0,none⟩))) wAb:=(HAb.out.cell (p:=⟨z,0,none⟩) hzWb).trans cBb
    clear h3
    go_wp2_with fail
    refine hK.out _ _ HSAb ?_
    clear hK K
    simp only [Act.put,sT,sZ,sS]
    refine hO 2 (fun K hK => ?_)
    go_simp
    refine hK.out _ _ ((((Below.refl wAb.heap.size wAb).alloc (Nat.le_refl _) _).cell (p:=⟨z,0,none⟩) (Nat.lt_of_lt_of_le hzWb HAb.out.size)).trans HSAb) ?_
    clear hK K
    simp only [Act.put,sT,sZ,sS]
    refine hO 3 (fun K hK => ?_)
    go_simp
    refine (HPb.out _ HAb.out).mono ?_
    rintro e wBb ⟨rfl,h3,h4⟩
    have HQBb:=Lib.hid h3
    have HFBb:=Lib.hid ((Fq.ofBelow HAb.out).trans h4)
    have HZBb:=Lib.hid (Fq.boxed HFBb.out HZb.out hzb (by decide) (by decide))
    have HSBb:(fun w'=>w'.cell? ⟨z,0,none⟩=some (.pointer (some ⟨b,0,none⟩))) wBb:=(World.cell?_of_block (a:=⟨z,0,none⟩) HZBb.out).trans cBb
    clear h3 h4
    go_wp2_with fail
    refine hK.out _ _ HSBb ?_
    clear hK K
    simp only [Act.put,sT,sZ,sS]
    refine wpAnyH_done (by kernel_rfl) ?_ _
    refine ⟨rfl, ?_⟩
    gi_wp2
    have HFab:=Lib.hid (HFBa.out.trans HFBb.out)
    refine ⟨HFab.out.keeps (by omega),TW HFab.out hbs (by omega), ?_,HZBb.out.trans (HZBa.out.trans hbz),(HFab.out.boxed hbs hzsb (by decide) (by decide)).trans hbs,hF.trans HFab.out⟩
    rw [kidsP_snoc]
    have h:=HQBb.out
    rw [List.append_assoc (st++[Pt.plain ⟨#[41]⟩]++kidsP pre),List.append_assoc (st++[Pt.plain ⟨#[41]⟩])] at h
    exact h
 case done =>
  rintro D ys W hD rfl ⟨hQ,hbz,hbs,hF⟩ hK
  gi_wp2
  have hg:=grownBy_putObj' W D (.deferred none)
  have hr:∀ r,some D=some r→∃ o:Obj,W.heap[r]? = some o∧o.isCells=false:=fun r e=>by cases e;exact ⟨_,hK,rfl⟩
  refine ⟨by simp,.inl ⟨_,_,rfl,run_takeDeferred hK, ?_⟩⟩
  refine ⟨_,results_none rfl _ _ _,rfl, ?_,(HF06.out.trans hF).stay hg (fun r e=>by cases e;have:=HF06.out.size;omega)⟩
  rw [HS.out]
  rw [kidsP_all,HT.out] at hQ
  rw [show (argP n.kids++[Pt.plain ⟨#[41]⟩]).reverse=[Pt.plain ⟨#[41]⟩]++(argP n.kids).reverse from by rw [List.reverse_append];rfl, ← List.append_assoc]
  exact hQ.stay hg hr
 case stop =>
  rintro D c pre W _ _ h _
  exact h.elim
end Go.Proofs.YtnahgpjglooclaaGreatDoor
namespace Go.Proofs.YtnahgpjglooclaaGreatDoor
open Go.RowKit
def Gl (w0 w:World) (b:Nat):Prop:=w0.heap.size≤b∧Below w0.heap.size w0 w∧Tab w0∧MaxV w0∧ShV w0
theorem Gl.fq {w0 w w':World} {b:Nat} (h:Gl w0 w b) (hf:Fq w w' b):Gl w0 w' b:=by
 obtain ⟨h1,h2,h3⟩:=h
 exact ⟨h1,⟨hf.os.trans h2.os,hf.tape.trans h2.tape,hf.output.trans h2.output,Nat.le_trans h2.size hf.size,fun k hk=>(hf.block k (Nat.lt_of_lt_of_le hk h2.size) (by omega) (.inl (by omega))).trans (h2.block k hk)⟩,h3⟩
theorem Gl.tab {w0 w:World} {b:Nat} (h:Gl w0 w b):Tab w:=h.2.2.1.below h.2.1
theorem Gl.maxV {w0 w:World} {b:Nat} (h:Gl w0 w b):MaxV w:=h.2.2.2.1.below h.2.1
theorem Gl.shV {w0 w:World} {b:Nat} (h:Gl w0 w b):ShV w:=h.2.2.2.2.below h.2.1
theorem Gl.max_lt {w0 w:World} {b:Nat} (h:Gl w0 w b):8<b:=by
 obtain ⟨h1, -, -,⟨m,hm⟩, -⟩:=h
 exact Nat.lt_of_lt_of_le (World.block_lt_of_cell? w0 _ hm) h1
theorem Gl.sh_lt {w0 w:World} {b:Nat} (h:Gl w0 w b):0<b:=Nat.lt_of_lt_of_le h.2.2.2.2.lt h.1
theorem leaf_num6 {n:Nd} (h:nodeB n=true) (hk:n.kind=1):0≤n.num:=by
 have h:=(arms_kids h).2.2.2.2.2
 unfold leafB at h
 split at h
 · cases h
 · exact decide_eq_true_iff.1 h
theorem node_any (w0 w:World) (b:Nat) (nv:Value) (st:List Pt) (txt:List Int) (n:Nd) (A:Option Addr) (m c:Nat) (hg:Gl w0 w b) (h:WQ w b nv st txt) (hn:nodeB n=true) (hnum:n.num≤9223372036854775807) (hz:n.text.size≤1000000) (hz1:n.ref.sh.size≤1000000) (hz2:n.zto.sh.size≤1000000) (hsi:SI w b (.slice A m c) n.kids) (hl:txt.length≤1000000000) (hls:st.length+2*n.kids.length+1≤2000000000) :
 Calls Tryz.prog (methS n.kind) #[.pointer (some ⟨b,0,none⟩),.agg #[.int .i64 n.kind,.int .i64 n.num,.string n.text,.string n.ref.sh,.int .i64 n.ref.c,.int .i64 n.ref.r,.bool n.ref.ac,.bool n.ref.ar,.string n.zto.sh,.int .i64 n.zto.c,.int .i64 n.zto.r,.bool n.zto.ac,.bool n.zto.ar,.slice A m c]] w (Wrote w b nv st txt n):=by
 obtain ⟨a1,a2, -,b1,b2, -⟩:=arms_kids hn
 have hst:st.length≤2000000000:=by omega
 by_cases hk:n.kind=1
 · rw [show methS n.kind=119 from by rw [hk];rfl]
   exact number_node w b nv st txt n A m c h hk n.num.toNat (by have:=leaf_num6 hn hk;omega) (by omega) hg.tab hl
 have h1:=hk
 clear hk
 by_cases hk:n.kind=2
 · rw [show methS n.kind=120 from by rw [hk];rfl]
   exact quoted_node w b nv st txt n A m c h hk hz hg.maxV hg.max_lt hl
 have h2:=hk
 clear hk
 by_cases hk:n.kind=3
 · rw [show methS n.kind=121 from by rw [hk];rfl]
   by_cases hv:n.num=1
   · exact truth_yes w b nv st txt n A m c h hk hv hl
   · exact truth_no w b nv st txt n A m c h hk hv hl
 have h3:=hk
 clear hk
 by_cases hk:n.kind=4
 · rw [show methS n.kind=122 from by rw [hk];rfl]
   exact dead_node w b nv st txt n A m c h hk hl
 have h4:=hk
 clear hk
 by_cases hk:n.kind=5
 · rw [show methS n.kind=123 from by rw [hk];rfl]
   exact place_node w b nv st txt n A m c h hk hz1 hg.tab hl
 have h5:=hk
 clear hk
 by_cases hk:n.kind=6
 · rw [show methS n.kind=124 from by rw [hk];rfl]
   exact places_node w b nv st txt n A m c h hk hz1 hz2 hg.tab hl
 have h6:=hk
 clear hk
 by_cases hk:n.kind=7
 · rw [show methS n.kind=125 from by rw [hk];rfl]
   exact call_node w b nv st txt n A m c h hk hz hsi hl hls
 have h7:=hk
 clear hk
 by_cases hk:n.kind=8
 · rw [show methS n.kind=126 from by rw [hk];rfl]
   have hl1:=a1 hk
   exact negative_node w b nv st txt n A m c h hk _ (List.getElem?_eq_getElem (by omega:0<n.kids.length)) hsi hl hst
 have h8:=hk
 clear hk
 have hl2:=a2 (by omega)
 rw [show methS n.kind=127 from by unfold methS;rw [if_neg h1,if_neg h2,if_neg h3,if_neg h4,if_neg h5,if_neg h6,if_neg h7,if_neg h8]]
 exact between_node w b nv st txt n A m c h n.kind.toNat (by omega) (by omega) (by omega) _ _ (List.getElem?_eq_getElem (by omega:0<n.kids.length)) (List.getElem?_eq_getElem (by omega:1<n.kids.length)) hsi hg.shV hg.sh_lt hst
theorem ne_empty (s:ByteArray) (h:¬ s=⟨#[]⟩):s.toList.isEmpty=false:=by
 cases hq:s.toList with
 | nil=>exact absurd hq (text_ne0 s (fun e=>h (sb_nil s e)))
 | cons a l=>rfl
set_option maxRecDepth 100000 in
set_option maxHeartbeats 4000000 in
theorem write_text (w:World) (b:Nat) (nv:Value) (st:List Pt) (txt:List Int) (p:Pt) (h:WQ w b nv st txt) (hp:¬ p.t=⟨#[]⟩) (hz:txt.length+p.t.size≤1000000000) :
 Calls Tryz.prog 63 #[.pointer (some ⟨b,0,none⟩),.agg #[.string p.t,.int .i64 p.node,.int .i64 p.least]] w fun e w'=>e = .returned (.tuple #[])∧WQ w' b nv st (txt++sb p.t)∧Fq w w' b:=by
 have hB:Below w.heap.size w (w.alloc (.cells #[.string p.t,.int .i64 p.node,.int .i64 p.least] 137)):=(Below.refl _ _).alloc (Nat.le_refl _) _
 have HP:PtAt (w.alloc (.cells #[.string p.t,.int .i64 p.node,.int .i64 p.least] 137)) w.heap.size p:=PtAt.new w p
 have hbw:b<w.heap.size:=by obtain ⟨wv,h1, -⟩:=h;exact h1.lt
 have hne:=ne_empty p.t hp
 have HB:=Lib.hid hB
 have HQ:=Lib.hid (h.below hB)
 clear h hp hB
 go_enter Tryz.func63,Tryz.ntmps63
 go_upto_region 1 with (fail)
 obtain ⟨z,hzz⟩:∃ z,w.heap.size=z:=⟨_,rfl⟩
 obtain ⟨w1,hw1⟩:∃ w1,w.alloc (.cells #[.string p.t,.int .i64 p.node,.int .i64 p.least] 137)=w1:=⟨_,rfl⟩
 rw [hw1] at HP HB HQ ⊢
 rw [hzz] at HP ⊢
 have hzl:z<w1.heap.size:=(Array.getElem?_eq_some_iff.1 HP).1
 have hzb:z≠b:=by omega
 obtain ⟨x0,x1,x2⟩:=HP.cells
 have HP1:=Lib.hid HP
 clear hzz hw1 HP
 go_upto_region 2 with (fail)
 obtain ⟨wv,hws,hown⟩:=HQ.out
 have HW:=Lib.hid (write_any w1.drew b nv wv txt p.t (hws.below ((Below.refl w1.heap.size w1).drew)) (by omega))
 have HO:=Lib.hid hown
 have H1:=Lib.hid ((Below.refl w1.heap.size w1).drew)
 clear hws hown
 go_region_held3 (fun w'=>w'.cell? ⟨z,0,none⟩=some (.string p.t)) (first | go_keep | exact S0) (first
  | (go_at_call 86;((with_reducible refine HW.out.mono ?_);rintro e w2 ⟨⟨x,rfl⟩,h3,h4⟩;have HWS2:=Lib.hid h3;have HF2:=Lib.hid h4;have S0:=(World.cell?_of_block (a:=⟨z,0,none⟩) (HF2.out.block z hzl hzb (.inr fun cur fr e=>by
      have h6:w1.heap[z]? = some (.cells (ptA p) 137):=HP1.out
      have h7:w1.drew.heap[z]? = w1.heap[z]? := rfl
      rw [h7,h6] at e;injection e with e;injection e with _ e2;exact absurd e2 (by decide)))).trans x0)))
 all_goals go_wp2_with fail
 all_goals refine bodyPost_ret (results_none rfl _ _ _) rfl ?_
 all_goals exact ⟨rfl,WQ.wrote (HO.out.below H1.out (Nat.le_refl _)) HWS2.out HF2.out,(Fq.ofBelow HB.out).trans ((Fq.ofBelow H1.out).trans (Fq.ofB HF2.out))⟩
theorem meth_enters (k:Int):∀ args (v:World),(callFunc (methS k) args).run Tryz.prog v = .ok (.enter (methS k) args) v:=by
 unfold methS
 split
 · exact Go.Proofs.enters_of Tryz.func119 (by kernel_rfl) rfl
 split
 · exact Go.Proofs.enters_of Tryz.func120 (by kernel_rfl) rfl
 split
 · exact Go.Proofs.enters_of Tryz.func121 (by kernel_rfl) rfl
 split
 · exact Go.Proofs.enters_of Tryz.func122 (by kernel_rfl) rfl
 split
 · exact Go.Proofs.enters_of Tryz.func123 (by kernel_rfl) rfl
 split
 · exact Go.Proofs.enters_of Tryz.func124 (by kernel_rfl) rfl
 split
 · exact Go.Proofs.enters_of Tryz.func125 (by kernel_rfl) rfl
 split
 · exact Go.Proofs.enters_of Tryz.func126 (by kernel_rfl) rfl
 exact Go.Proofs.enters_of Tryz.func127 (by kernel_rfl) rfl
set_option maxRecDepth 100000 in
set_option maxHeartbeats 8000000 in
theorem write_bare (w0 w:World) (b:Nat) (nv:Value) (vs:List (Nd × Value)) (st:List Pt) (txt:List Int) (i:Nat) (least:Int) (n:Nd) (k:Value) (hg:Gl w0 w b) (h:WQ w b nv st txt) (hsn:SN w b nv vs) (hz:SZ vs) (hnk:vs[i]? = some (n,k)) (hnb:nodeB n=true) (hnum:n.num≤9223372036854775807) (hr:¬ (rankL n.kind:Int)+1<least) (hl:txt.length+1≤1000000000) (hls:st.length+2*n.kids.length+2≤2000000000) :
 Calls Tryz.prog 63 #[.pointer (some ⟨b,0,none⟩),.agg #[.string ⟨#[]⟩,.int .i64 (i:Int),.int .i64 least]] w fun e w'=>e = .returned (.tuple #[])∧WQ w' b nv (st++(stepN n).2.reverse) (txt++(stepN n).1)∧Fq w w' b:=by
 obtain ⟨⟨A,cap,rfl,hat⟩,hkid⟩:=hsn
 obtain ⟨hlen,hsz⟩:=hz
 have hil:i<vs.length:=(List.getElem?_eq_some_iff.1 hnk).1
 have hmem:=List.mem_of_getElem? hnk
 obtain ⟨hz1,hz2,hz3⟩:=hsz _ hmem
 have hski:SI w b k n.kids:=hkid _ hmem
 obtain ⟨Ak,ck,hk,hkc,hkm,_⟩:=id hski
 obtain ⟨nl,hnl⟩:∃ nl,vs.length=nl:=⟨_,rfl⟩
 obtain ⟨m,hm⟩:∃ m,n.kids.length=m:=⟨_,rfl⟩
 rw [hm] at hk
 subst hk
 rw [hnl] at hlen hil h ⊢
 have hi0:(0:Int)≤(i:Int):=by omega
 have hi1:(i:Int)<(nl:Int):=by omega
 obtain ⟨pb,po,rfl,hpbb,hcells⟩:=hat.resolve_left (fun e=>by rw [e] at hnk;cases hnk)
 have hcell:=hcells i n _ hnk
 have hbw:b<w.heap.size:=by obtain ⟨wv,h1, -⟩:=h;exact h1.lt
 have hB:Below w.heap.size w (w.alloc (.cells #[.string ⟨#[]⟩,.int .i64 (i:Int),.int .i64 least] 137)):=(Below.refl _ _).alloc (Nat.le_refl _) _
 have HP:PtAt (w.alloc (.cells #[.string ⟨#[]⟩,.int .i64 (i:Int),.int .i64 least] 137)) w.heap.size ⟨⟨#[]⟩,(i:Int),least⟩:=PtAt.new w ⟨⟨#[]⟩,(i:Int),least⟩
 have HB:=Lib.hid hB
 have HQ:=Lib.hid (h.below hB)
 have HG:=Lib.hid (hg.fq (Fq.ofBelow hB))
 have HSI:=Lib.hid (hski.below hB (Nat.le_of_lt hbw))
 have hpb:pb<w.heap.size:=by omega
 obtain ⟨rk,hrk⟩:∃ rk:Nat,rankL n.kind=rk:=⟨_,rfl⟩
 have hrank:=rankOf_any n.kind
 rw [hrk] at hrank hr
 have HRK:=Lib.hid hrank
 have hmeth:=methodS_any n.kind
 have hen:=meth_enters n.kind
 obtain ⟨mf,hmf⟩:∃ mf,methS n.kind=mf:=⟨_,rfl⟩
 rw [hmf] at hmeth hen
 have HME:=Lib.hid hmeth
 have HNB:=Lib.hid hnb
 have HZ1:=Lib.hid hz1;have HZ2:=Lib.hid hz2;have HZ3:=Lib.hid hz3
 have HMF:=Lib.hid hmf;have HM:=Lib.hid hm
 clear h hg hB hski hkc hkm hat hkid hsz hcells hmem hnl hnk hlen hrank hmeth hrk hmf hnb hz1 hz2 hz3 hm
 go_enter Tryz.func63,Tryz.ntmps63
 go_upto_region 1 with (fail)
 obtain ⟨z,hzz⟩:∃ z,w.heap.size=z:=⟨_,rfl⟩
 obtain ⟨w1,hw1⟩:∃ w1,w.alloc (.cells #[.string ⟨#[]⟩,.int .i64 (i:Int),.int .i64 least] 137)=w1:=⟨_,rfl⟩
 rw [hw1] at HP HB HQ HG HSI ⊢
 rw [hzz] at HP ⊢
 obtain ⟨k0,k1,k2,k3,k4,k5,k6,k7,k8,k9,k10,k11,k12,k13⟩:=cells14 HB.out hpb hcell
 have hzl:z<w1.heap.size:=(Array.getElem?_eq_some_iff.1 HP).1
 have hzb:z≠b:=by omega
 have hbw1:b<w1.heap.size:=by omega
 have hpb1:pb<w1.heap.size:=by omega
 obtain ⟨x0,x1,x2⟩:=HP.cells
 have xb:w1.cell? ⟨b,0,none⟩=some (.slice (some ⟨pb,po,none⟩) nl cap):=by obtain ⟨wv,⟨ad,bv,h1, -⟩, -⟩:=HQ.out;exact h1.facts.1
 have HP1:=Lib.hid HP
 dsimp only at x0 x1 x2
 clear hzz hw1 HP hcell
 go_upto_region 2 with (fail)
 go_upto_region 3 with (fail)
 go_region_held3 (fun w'=>w'.cell? ⟨b,0,none⟩=some (.slice (some ⟨pb,po,none⟩) nl cap)∧w'.cell? ⟨z,1,none⟩=some (.int .i64 (i:Int))∧w'.cell? ⟨pb,po+i*14,none⟩=some (.int .i64 n.kind)∧w'.cell? ⟨pb,po+i*14+1,none⟩=some (.int .i64 n.num)∧w'.cell? ⟨pb,po+i*14+2,none⟩=some (.string n.text)∧w'.cell? ⟨pb,po+i*14+3,none⟩=some (.string n.ref.sh)∧w'.cell? ⟨pb,po+i*14+4,none⟩=some (.int .i64 n.ref.c)∧w'.cell? ⟨pb,po+i*14+5,none⟩=some (.int .i64 n.ref.r)∧w'.cell? ⟨pb,po+i*14+6,none⟩=some (.bool n.ref.ac)∧w'.cell? ⟨pb,po+i*14+7,none⟩=some (.bool n.ref.ar)∧w'.cell? ⟨pb,po+i*14+8,none⟩=some (.string n.zto.sh)∧w'.cell? ⟨pb,po+i*14+9,none⟩=some (.int .i64 n.zto.c)∧w'.cell? ⟨pb,po+i*14+10,none⟩=some (.int .i64 n.zto.r)∧w'.cell? ⟨pb,po+i*14+11,none⟩=some (.bool n.zto.ac)∧w'.cell? ⟨pb,po+i*14+12,none⟩=some (.bool n.zto.ar)∧w'.cell? ⟨pb,po+i*14+13,none⟩=some (.slice Ak m ck)) (go_keep) (fail)
 have HN:=NdAt.drew (NdAt.new w1 n (.slice Ak m ck))
 have HB2:=(((Below.refl w1.heap.size w1).alloc (Nat.le_refl _) (.cells #[.int .i64 n.kind,.int .i64 n.num,.string n.text,.string n.ref.sh,.int .i64 n.ref.c,.int .i64 n.ref.r,.bool n.ref.ac,.bool n.ref.ar,.string n.zto.sh,.int .i64 n.zto.c,.int .i64 n.zto.r,.bool n.zto.ac,.bool n.zto.ar,(.slice Ak m ck)] 100))).drew
 obtain ⟨z2,hz2⟩:∃ z2,w1.heap.size=z2:=⟨_,rfl⟩
 obtain ⟨w2,hw2⟩:∃ w2,((w1.alloc (.cells #[.int .i64 n.kind,.int .i64 n.num,.string n.text,.string n.ref.sh,.int .i64 n.ref.c,.int .i64 n.ref.r,.bool n.ref.ac,.bool n.ref.ar,.string n.zto.sh,.int .i64 n.zto.c,.int .i64 n.zto.r,.bool n.zto.ac,.bool n.zto.ar,(.slice Ak m ck)] 100)).drew)=w2:=⟨_,rfl⟩
 rw [show (w1.alloc (.cells (nodA n (.slice Ak m ck)) 100)).drew=w2 from hw2] at HN
 rw [hw2] at HB2
 rw [hw2,hz2]
 rw [hz2] at HN
 have hzl2:z2<w2.heap.size:=HN.lt
 have hzb2:z2≠b:=by omega
 have hbw2:b<w2.heap.size:=by omega
 have y2:=(HB2.cell (p:=⟨z,2,none⟩) hzl).trans x2
 obtain ⟨y0, -⟩:=HN.cells
 have HQ2:=Lib.hid (HQ.out.below HB2)
 have HG2:=Lib.hid (HG.out.fq (Fq.ofBelow HB2))
 have HSI2:=Lib.hid (HSI.out.below HB2 (Nat.le_of_lt hbw1))
 have HB2':=Lib.hid HB2
 have HN2:=Lib.hid HN
 clear hw2 hz2 HN HB2 x0 x1 x2 xb k0 k1 k2 k3 k4 k5 k6 k7 k8 k9 k10 k11 k12 k13
 go_upto_region 4 with (fail)
 go_region_held3 (fun w'=>w'.cell? ⟨z2,0,none⟩=some (.int .i64 n.kind)∧w'.cell? ⟨z,2,none⟩=some (.int .i64 least)) (go_keep) (first
  | (go_at_call 87;((with_reducible refine (HRK.out _).mono ?_);rintro e w3 ⟨rfl,rfl⟩)))
 have HD2:=Lib.hid ((Below.refl w2.heap.size w2).drew)
 have HG3:=Lib.hid (HG2.out.fq (Fq.ofBelow HD2.out));have HQ3:=Lib.hid (HQ2.out.below HD2.out);have HSI3:=Lib.hid (HSI2.out.below HD2.out (Nat.le_of_lt hbw2));have HN3:=Lib.hid (NdAt.drew HN2.out)
 have hbw3:=hbw2;have hzl3:z2<w2.drew.heap.size:=hzl2
 go_upto_region 7 with (fail)
 have HCALL:=Lib.hid (fun (wr:World) (hr:Below w2.drew.heap.size w2.drew wr)=>node_any w0 wr b (.slice (some ⟨pb,po,none⟩) nl cap) (st) (txt) n Ak m ck ((HG3.out).fq (Fq.ofBelow hr)) (HQ3.out.below hr) HNB.out hnum HZ1.out HZ2.out HZ3.out (HSI3.out.below hr (Nat.le_of_lt hbw3)) (by omega) (by have:=HM.out;omega))
 rw [HMF.out] at HCALL
 have H3:=Lib.hid ((Below.refl w2.drew.heap.size w2.drew).drew)
 obtain ⟨k0,k1,k2,k3,k4,k5,k6,k7,k8,k9,k10,k11,k12,k13⟩:=HN3.out.cells
 go_region_held3 (fun w'=>w'.cell? ⟨z2,0,none⟩=some (.int .i64 n.kind)∧w'.cell? ⟨z2,1,none⟩=some (.int .i64 n.num)∧w'.cell? ⟨z2,2,none⟩=some (.string n.text)∧w'.cell? ⟨z2,3,none⟩=some (.string n.ref.sh)∧w'.cell? ⟨z2,4,none⟩=some (.int .i64 n.ref.c)∧w'.cell? ⟨z2,5,none⟩=some (.int .i64 n.ref.r)∧w'.cell? ⟨z2,6,none⟩=some (.bool n.ref.ac)∧w'.cell? ⟨z2,7,none⟩=some (.bool n.ref.ar)∧w'.cell? ⟨z2,8,none⟩=some (.string n.zto.sh)∧w'.cell? ⟨z2,9,none⟩=some (.int .i64 n.zto.c)∧w'.cell? ⟨z2,10,none⟩=some (.int .i64 n.zto.r)∧w'.cell? ⟨z2,11,none⟩=some (.bool n.zto.ac)∧w'.cell? ⟨z2,12,none⟩=some (.bool n.zto.ar)∧w'.cell? ⟨z2,13,none⟩=some (.slice Ak m ck)) (first | go_keep | exact S7a) (first
  | (go_at_call 89;((with_reducible refine (HME.out _).mono ?_);rintro e w4 ⟨rfl,rfl⟩))
  | ((with_reducible refine (HCALL.out _ H3.out).mono ?_);rintro e w5 ⟨rfl,h3,h4⟩;have HQ5:=Lib.hid h3;have HF5:=Lib.hid h4;have S7a:=NdAt.cells (show NdAt w5 z2 n (.slice Ak m ck) from by
       unfold NdAt
       have e1:w2.drew.drew.heap[z2]? = some (.cells (nodA n (.slice Ak m ck)) 100):=HN3.out
       rw [HF5.out.block z2 hzl3 hzb2 (.inr fun cur fr=>⟨fun e=>by (rw [e1] at e;injection e with e;injection e with _ e2;exact absurd e2 (by decide)),fun e=>by (rw [e1] at e;injection e with e;injection e with _ e2;exact absurd e2 (by decide))⟩)]
       exact e1);clear h3 h4))
 all_goals go_wp2_with fail
 all_goals go_end0
 all_goals exact ⟨rfl,HQ5.out,(Fq.ofBelow HB.out).trans ((Fq.ofBelow HB2'.out).trans ((Fq.ofBelow (Below.refl _ _).drew).trans ((Fq.ofBelow H3.out).trans HF5.out)))⟩
set_option maxRecDepth 100000 in
set_option maxHeartbeats 8000000 in
theorem write_kept (w0 w:World) (b:Nat) (nv:Value) (vs:List (Nd × Value)) (st:List Pt) (txt:List Int) (i:Nat) (least:Int) (n:Nd) (k:Value) (hg:Gl w0 w b) (h:WQ w b nv st txt) (hsn:SN w b nv vs) (hz:SZ vs) (hnk:vs[i]? = some (n,k)) (hnb:nodeB n=true) (hnum:n.num≤9223372036854775807) (hr:(rankL n.kind:Int)+1<least) (hl:txt.length+1≤1000000000) (hls:st.length+2*n.kids.length+2≤2000000000) :
 Calls Tryz.prog 63 #[.pointer (some ⟨b,0,none⟩),.agg #[.string ⟨#[]⟩,.int .i64 (i:Int),.int .i64 least]] w fun e w'=>e = .returned (.tuple #[])∧WQ w' b nv (st++[Pt.plain ⟨#[41]⟩]++(stepN n).2.reverse) (txt++([40]++(stepN n).1))∧Fq w w' b:=by
 obtain ⟨⟨A,cap,rfl,hat⟩,hkid⟩:=hsn
 obtain ⟨hlen,hsz⟩:=hz
 have hil:i<vs.length:=(List.getElem?_eq_some_iff.1 hnk).1
 have hmem:=List.mem_of_getElem? hnk
 obtain ⟨hz1,hz2,hz3⟩:=hsz _ hmem
 have hski:SI w b k n.kids:=hkid _ hmem
 obtain ⟨Ak,ck,hk,hkc,hkm,_⟩:=id hski
 obtain ⟨nl,hnl⟩:∃ nl,vs.length=nl:=⟨_,rfl⟩
 obtain ⟨m,hm⟩:∃ m,n.kids.length=m:=⟨_,rfl⟩
 rw [hm] at hk
 subst hk
 rw [hnl] at hlen hil h ⊢
 have hi0:(0:Int)≤(i:Int):=by omega
 have hi1:(i:Int)<(nl:Int):=by omega
 obtain ⟨pb,po,rfl,hpbb,hcells⟩:=hat.resolve_left (fun e=>by rw [e] at hnk;cases hnk)
 have hcell:=hcells i n _ hnk
 have hbw:b<w.heap.size:=by obtain ⟨wv,h1, -⟩:=h;exact h1.lt
 have hB:Below w.heap.size w (w.alloc (.cells #[.string ⟨#[]⟩,.int .i64 (i:Int),.int .i64 least] 137)):=(Below.refl _ _).alloc (Nat.le_refl _) _
 have HP:PtAt (w.alloc (.cells #[.string ⟨#[]⟩,.int .i64 (i:Int),.int .i64 least] 137)) w.heap.size ⟨⟨#[]⟩,(i:Int),least⟩:=PtAt.new w ⟨⟨#[]⟩,(i:Int),least⟩
 have HB:=Lib.hid hB
 have HQ:=Lib.hid (h.below hB)
 have HG:=Lib.hid (hg.fq (Fq.ofBelow hB))
 have HSI:=Lib.hid (hski.below hB (Nat.le_of_lt hbw))
 have hpb:pb<w.heap.size:=by omega
 obtain ⟨rk,hrk⟩:∃ rk:Nat,rankL n.kind=rk:=⟨_,rfl⟩
 have hrank:=rankOf_any n.kind
 rw [hrk] at hrank hr
 have HRK:=Lib.hid hrank
 have hmeth:=methodS_any n.kind
 have hen:=meth_enters n.kind
 obtain ⟨mf,hmf⟩:∃ mf,methS n.kind=mf:=⟨_,rfl⟩
 rw [hmf] at hmeth hen
 have HME:=Lib.hid hmeth
 have HNB:=Lib.hid hnb
 have HZ1:=Lib.hid hz1;have HZ2:=Lib.hid hz2;have HZ3:=Lib.hid hz3
 have HMF:=Lib.hid hmf;have HM:=Lib.hid hm
 clear h hg hB hski hkc hkm hat hkid hsz hcells hmem hnl hnk hlen hrank hmeth hrk hmf hnb hz1 hz2 hz3 hm
 go_enter Tryz.func63,Tryz.ntmps63
 go_upto_region 1 with (fail)
 obtain ⟨z,hzz⟩:∃ z,w.heap.size=z:=⟨_,rfl⟩
 obtain ⟨w1,hw1⟩:∃ w1,w.alloc (.cells #[.string ⟨#[]⟩,.int .i64 (i:Int),.int .i64 least] 137)=w1:=⟨_,rfl⟩
 rw [hw1] at HP HB HQ HG HSI ⊢
 rw [hzz] at HP ⊢
 obtain ⟨k0,k1,k2,k3,k4,k5,k6,k7,k8,k9,k10,k11,k12,k13⟩:=cells14 HB.out hpb hcell
 have hzl:z<w1.heap.size:=(Array.getElem?_eq_some_iff.1 HP).1
 have hzb:z≠b:=by omega
 have hbw1:b<w1.heap.size:=by omega
 have hpb1:pb<w1.heap.size:=by omega
 obtain ⟨x0,x1,x2⟩:=HP.cells
 have xb:w1.cell? ⟨b,0,none⟩=some (.slice (some ⟨pb,po,none⟩) nl cap):=by obtain ⟨wv,⟨ad,bv,h1, -⟩, -⟩:=HQ.out;exact h1.facts.1
 have HP1:=Lib.hid HP
 dsimp only at x0 x1 x2
 clear hzz hw1 HP hcell
 go_upto_region 2 with (fail)
 go_upto_region 3 with (fail)
 go_region_held3 (fun w'=>w'.cell? ⟨b,0,none⟩=some (.slice (some ⟨pb,po,none⟩) nl cap)∧w'.cell? ⟨z,1,none⟩=some (.int .i64 (i:Int))∧w'.cell? ⟨pb,po+i*14,none⟩=some (.int .i64 n.kind)∧w'.cell? ⟨pb,po+i*14+1,none⟩=some (.int .i64 n.num)∧w'.cell? ⟨pb,po+i*14+2,none⟩=some (.string n.text)∧w'.cell? ⟨pb,po+i*14+3,none⟩=some (.string n.ref.sh)∧w'.cell? ⟨pb,po+i*14+4,none⟩=some (.int .i64 n.ref.c)∧w'.cell? ⟨pb,po+i*14+5,none⟩=some (.int .i64 n.ref.r)∧w'.cell? ⟨pb,po+i*14+6,none⟩=some (.bool n.ref.ac)∧w'.cell? ⟨pb,po+i*14+7,none⟩=some (.bool n.ref.ar)∧w'.cell? ⟨pb,po+i*14+8,none⟩=some (.string n.zto.sh)∧w'.cell? ⟨pb,po+i*14+9,none⟩=some (.int .i64 n.zto.c)∧w'.cell? ⟨pb,po+i*14+10,none⟩=some (.int .i64 n.zto.r)∧w'.cell? ⟨pb,po+i*14+11,none⟩=some (.bool n.zto.ac)∧w'.cell? ⟨pb,po+i*14+12,none⟩=some (.bool n.zto.ar)∧w'.cell? ⟨pb,po+i*14+13,none⟩=some (.slice Ak m ck)) (go_keep) (fail)
 have HN:=NdAt.drew (NdAt.new w1 n (.slice Ak m ck))
 have HB2:=(((Below.refl w1.heap.size w1).alloc (Nat.le_refl _) (.cells #[.int .i64 n.kind,.int .i64 n.num,.string n.text,.string n.ref.sh,.int .i64 n.ref.c,.int .i64 n.ref.r,.bool n.ref.ac,.bool n.ref.ar,.string n.zto.sh,.int .i64 n.zto.c,.int .i64 n.zto.r,.bool n.zto.ac,.bool n.zto.ar,(.slice Ak m ck)] 100))).drew
 obtain ⟨z2,hz2⟩:∃ z2,w1.heap.size=z2:=⟨_,rfl⟩
 obtain ⟨w2,hw2⟩:∃ w2,((w1.alloc (.cells #[.int .i64 n.kind,.int .i64 n.num,.string n.text,.string n.ref.sh,.int .i64 n.ref.c,.int .i64 n.ref.r,.bool n.ref.ac,.bool n.ref.ar,.string n.zto.sh,.int .i64 n.zto.c,.int .i64 n.zto.r,.bool n.zto.ac,.bool n.zto.ar,(.slice Ak m ck)] 100)).drew)=w2:=⟨_,rfl⟩
 rw [show (w1.alloc (.cells (nodA n (.slice Ak m ck)) 100)).drew=w2 from hw2] at HN
 rw [hw2] at HB2
 rw [hw2,hz2]
 rw [hz2] at HN
 have hzl2:z2<w2.heap.size:=HN.lt
 have hzb2:z2≠b:=by omega
 have hbw2:b<w2.heap.size:=by omega
 have y2:=(HB2.cell (p:=⟨z,2,none⟩) hzl).trans x2
 obtain ⟨y0, -⟩:=HN.cells
 have HQ2:=Lib.hid (HQ.out.below HB2)
 have HG2:=Lib.hid (HG.out.fq (Fq.ofBelow HB2))
 have HSI2:=Lib.hid (HSI.out.below HB2 (Nat.le_of_lt hbw1))
 have HB2':=Lib.hid HB2
 have HN2:=Lib.hid HN
 clear hw2 hz2 HN HB2 x0 x1 x2 xb k0 k1 k2 k3 k4 k5 k6 k7 k8 k9 k10 k11 k12 k13
 go_upto_region 4 with (fail)
 go_region_held3 (fun w'=>w'.cell? ⟨z2,0,none⟩=some (.int .i64 n.kind)∧w'.cell? ⟨z,2,none⟩=some (.int .i64 least)) (go_keep) (first
  | (go_at_call 87;((with_reducible refine (HRK.out _).mono ?_);rintro e w3 ⟨rfl,rfl⟩)))
 have HD2:=Lib.hid ((Below.refl w2.heap.size w2).drew)
 obtain ⟨wv,hws,hown⟩:=HQ2.out
 have HW:=Lib.hid (write_any w2.drew b _ wv txt ⟨#[40]⟩ (hws.below HD2.out) (by show txt.length+1≤_;omega))
 have HO:=Lib.hid (hown.below HD2.out (Nat.le_refl _))
 clear hws hown
 go_upto_region 5 with (fail)
 go_upto_region 6 with (go_at_call 86;((with_reducible refine HW.out.mono ?_);rintro e u3 ⟨⟨x,rfl⟩,h3,h4⟩;have HWS3:=Lib.hid h3;have HF3:=Lib.hid h4;clear h3 h4))
 have HWQ3:=Lib.hid (show WQ u3 b (.slice (some ⟨pb,po,none⟩) nl cap) st (txt++[40]) from by
  have h:=WQ.wrote HO.out HWS3.out HF3.out
  rwa [show sb ⟨#[40]⟩=[40] by decide] at h)
 have HPU:=Lib.hid (fun (wr:World) (hr:Below u3.heap.size u3 wr)=>push_lit wr b (.slice (some ⟨pb,po,none⟩) nl cap) st [Pt.plain ⟨#[41]⟩] (txt++[40]) #[.string ⟨#[41]⟩,.int .i64 0,.int .i64 0] 1 rfl rfl (HWQ3.out.below hr) (by show 1≤1000000;decide) (by omega))
 go_upto_region 7 with (first
  | (go_at_call 88;((with_reducible refine (plain_lit _ _).mono ?_);rintro e u4 ⟨rfl,h3⟩;have HB4:=Lib.hid h3;clear h3))
  | (go_at_call 61;((with_reducible refine (HPU.out _ HB4.out).mono ?_);rintro e u5 ⟨rfl,h3,h4⟩;have HQU:=Lib.hid h3;have HFU:=Lib.hid h4;clear h3 h4)))
 have HF25:=Lib.hid (((Fq.ofBelow HD2.out).trans (Fq.ofB HF3.out)).trans ((Fq.ofBelow HB4.out).trans HFU.out))
 have HG3:=Lib.hid (HG2.out.fq HF25.out)
 have HSI3:=Lib.hid (HSI2.out.fq HF25.out (Nat.le_refl _) hbw2)
 have hsz5:w2.heap.size≤u5.heap.size:=HF25.out.size
 have HQ3:=Lib.hid (show WQ u5 b (.slice (some ⟨pb,po,none⟩) nl cap) (st++[Pt.plain ⟨#[41]⟩]) (txt++[40]) from HQU.out)
 have HN3:=Lib.hid (show NdAt u5 z2 n (.slice Ak m ck) from by
  unfold NdAt
  have e1:w2.heap[z2]? = some (.cells (nodA n (.slice Ak m ck)) 100):=HN2.out
  rw [HF25.out.block z2 hzl2 hzb2 (.inr fun cur fr=>⟨fun e=>by (rw [e1] at e;injection e with e;injection e with _ e2;exact absurd e2 (by decide)),fun e=>by (rw [e1] at e;injection e with e;injection e with _ e2;exact absurd e2 (by decide))⟩)]
  exact e1)
 have hbw3:b<u5.heap.size:=by omega
 have hzl3:z2<u5.drew.heap.size:=by show z2<u5.heap.size;omega
 clear y0 y2
 have HCALL:=Lib.hid (fun (wr:World) (hr:Below u5.heap.size u5 wr)=>node_any w0 wr b (.slice (some ⟨pb,po,none⟩) nl cap) (st++[Pt.plain ⟨#[41]⟩]) (txt++[40]) n Ak m ck ((HG3.out).fq (Fq.ofBelow hr)) (HQ3.out.below hr) HNB.out hnum HZ1.out HZ2.out HZ3.out (HSI3.out.below hr (Nat.le_of_lt hbw3)) (by rw [List.length_append];show txt.length+1≤_;omega) (by rw [List.length_append];show st.length+1+_+1≤_;have:=HM.out;omega))
 rw [HMF.out] at HCALL
 have H3:=Lib.hid ((Below.refl u5.heap.size u5).drew)
 obtain ⟨k0,k1,k2,k3,k4,k5,k6,k7,k8,k9,k10,k11,k12,k13⟩:=HN3.out.cells
 go_region_held3 (fun w'=>w'.cell? ⟨z2,0,none⟩=some (.int .i64 n.kind)∧w'.cell? ⟨z2,1,none⟩=some (.int .i64 n.num)∧w'.cell? ⟨z2,2,none⟩=some (.string n.text)∧w'.cell? ⟨z2,3,none⟩=some (.string n.ref.sh)∧w'.cell? ⟨z2,4,none⟩=some (.int .i64 n.ref.c)∧w'.cell? ⟨z2,5,none⟩=some (.int .i64 n.ref.r)∧w'.cell? ⟨z2,6,none⟩=some (.bool n.ref.ac)∧w'.cell? ⟨z2,7,none⟩=some (.bool n.ref.ar)∧w'.cell? ⟨z2,8,none⟩=some (.string n.zto.sh)∧w'.cell? ⟨z2,9,none⟩=some (.int .i64 n.zto.c)∧w'.cell? ⟨z2,10,none⟩=some (.int .i64 n.zto.r)∧w'.cell? ⟨z2,11,none⟩=some (.bool n.zto.ac)∧w'.cell? ⟨z2,12,none⟩=some (.bool n.zto.ar)∧w'.cell? ⟨z2,13,none⟩=some (.slice Ak m ck)) (first | go_keep | exact S7a) (first
  | (go_at_call 89;((with_reducible refine (HME.out _).mono ?_);rintro e w4 ⟨rfl,rfl⟩))
  | ((with_reducible refine (HCALL.out _ H3.out).mono ?_);rintro e w5 ⟨rfl,h3,h4⟩;have HQ5:=Lib.hid h3;have HF5:=Lib.hid h4;have S7a:=NdAt.cells (show NdAt w5 z2 n (.slice Ak m ck) from by
       unfold NdAt
       have e1:u5.drew.heap[z2]? = some (.cells (nodA n (.slice Ak m ck)) 100):=HN3.out
       rw [HF5.out.block z2 hzl3 hzb2 (.inr fun cur fr=>⟨fun e=>by (rw [e1] at e;injection e with e;injection e with _ e2;exact absurd e2 (by decide)),fun e=>by (rw [e1] at e;injection e with e;injection e with _ e2;exact absurd e2 (by decide))⟩)]
       exact e1);clear h3 h4))
 all_goals go_wp2_with fail
 all_goals go_end0
 all_goals exact ⟨rfl,by (have h:=HQ5.out;rw [List.append_assoc txt] at h;exact h),(Fq.ofBelow HB.out).trans ((Fq.ofBelow HB2'.out).trans (HF25.out.trans ((Fq.ofBelow H3.out).trans HF5.out)))⟩
theorem argP_len:∀ ks:List Int,2*ks.length≤(argP ks).length+1
 | []=>Nat.zero_le _
 | [a]=>Nat.le_refl _
 | a :: b :: ks=>by
   have ih:=argP_len (b :: ks)
   show 2*((b :: ks).length+1)≤((argP (b :: ks)).length+1+1)+1
   omega
theorem kids_len {n:Nd} (h:nodeB n=true):2*n.kids.length≤(stepN n).2.length+4:=by
 obtain ⟨a1,a2,a3,b1,b2, -⟩:=arms_kids h
 by_cases h6:n.kind≤6
 · rw [a3 ⟨b1,h6⟩];exact Nat.zero_le _
 by_cases h7:n.kind=7
 · have:=argP_len n.kids
   rw [show (stepN n).2=argP n.kids++[Pt.plain ⟨#[41]⟩] from by unfold stepN;rw [if_neg (by omega),if_neg (by omega),if_neg (by omega),if_neg (by omega),if_neg (by omega),if_neg (by omega),if_pos h7],List.length_append]
   omega
 by_cases h8:n.kind=8
 · rw [a1 h8];omega
 · rw [a2 (by omega)];omega
theorem stepP_less {l:List Nd} (h:treeB l=true) (p:Pt) (hp:PtOk l p):2≤2*(stepP l p).1.length+(stepP l p).2.length:=by
 have hn:∀ n:Nd,nodeB n=true→2≤2*(stepN n).1.length+(stepN n).2.length:=by
  intro n hn
  obtain ⟨-, -, -,b1,b2, -⟩:=arms_kids hn
  unfold stepN
  split
  · have:digL n.num.toNat≠[]:=digL_ne _
    have:=List.length_pos_iff.2 this
    show 2≤2*(digL n.num.toNat).length+0
    omega
  split
  · simp;omega
  split
  · split <;> simp
  split
  · simp
  split
  · rename_i h5
    have hl:=(arms_kids hn).2.2.2.2.2
    have:textL (sb n.ref.sh) n.ref.c n.ref.r n.ref.ac n.ref.ar≠[]:=textL_ne (leaf_ref hl h5)
    have:=List.length_pos_iff.2 this
    show 2≤2*(textL _ _ _ _ _).length+0
    omega
  split
  · simp;omega
  split
  · simp;omega
  split
  · simp
  · simp
 unfold stepP
 split
 · rename_i ht
   obtain ⟨h0,h1⟩:=hp ht
   have:=hn _ (tree_at h h0 h1).1
   split
   · rw [List.length_cons,List.length_append];show 2≤2*(_+1)+(_+1);omega
   · exact this
 · rename_i ht
   have:=List.length_pos_iff.2 (sb_ne ht)
   show 2≤2*(sb p.t).length+0
   omega
theorem stepP_node {l:List Nd} {j:Nat} {m:Int} {n:Nd} (hn:nodeAt l (j:Int)=n):stepP l ⟨⟨#[]⟩,(j:Int),m⟩=if (rankL n.kind:Int)+1<m then (40 :: (stepN n).1,(stepN n).2++[Pt.plain ⟨#[41]⟩]) else stepN n:=by
 unfold stepP
 rw [if_pos rfl]
 dsimp only
 rw [hn]
theorem writeP_any (w0 w:World) (b:Nat) (nv:Value) (vs:List (Nd × Value)) (st:List Pt) (txt:List Int) (p:Pt) (hg:Gl w0 w b) (h:WQ w b nv st txt) (hsn:SN w b nv vs) (hz:SZ vs) (ht:treeB (vs.map (·.1))=true) (hnum:∀ q∈vs,q.1.num≤9223372036854775807) (hp:PtOk (vs.map (·.1)) p) (hl:txt.length+(ptL (vs.map (·.1)) p).length≤1000000000) (hls:st.length+(ptL (vs.map (·.1)) p).length≤1000000000) :
 Calls Tryz.prog 63 #[.pointer (some ⟨b,0,none⟩),.agg (ptA p)] w fun e w'=>e = .returned (.tuple #[])∧WQ w' b nv (st++(stepP (vs.map (·.1)) p).2.reverse) (txt++(stepP (vs.map (·.1)) p).1)∧Fq w w' b:=by
 obtain ⟨t,i,m⟩:=p
 by_cases hpt:t=⟨#[]⟩
 · subst hpt
   obtain ⟨h0,h1⟩:=hp rfl
   dsimp only at h0 h1
   obtain ⟨j,rfl⟩:∃ j:Nat,i=(j:Int):=⟨i.toNat,by omega⟩
   rw [List.length_map] at h1
   obtain ⟨⟨n,k⟩,hnk⟩:∃ q,vs[j]? = some q:=⟨_,List.getElem?_eq_getElem (by omega)⟩
   have hn:nodeAt (vs.map (·.1)) (j:Int)=n:=by
    unfold nodeAt
    rw [Int.toNat_natCast,List.getD_eq_getElem?_getD,List.getElem?_map,hnk];rfl
   have hnb:=(tree_at ht h0 (by rw [List.length_map];exact h1)).1
   rw [hn] at hnb
   have hkl:=kids_len hnb
   have hne:=List.length_pos_iff.2 (ptL_ne ht _ hp)
   have hfl:=flat_len ht _ (stepP_ok ht _ hp)
   have hL:=stepP_L ht _ hp
   have hLL:=congrArg List.length hL
   rw [List.length_append] at hLL
   have hsp:=stepP_node (m:=m) hn
   rw [hsp] at hfl hLL ⊢
   by_cases hr:(rankL n.kind:Int)+1<m
   · rw [if_pos hr] at hfl hLL ⊢
     dsimp only at hfl hLL ⊢
     rw [List.length_append] at hfl
     refine (write_kept w0 w b nv vs st txt j m n k hg h hsn hz hnk hnb (hnum _ (List.mem_of_getElem? hnk)) hr (by omega) (by omega)).mono ?_
     rintro e w' ⟨h1,h2,h3⟩
     refine ⟨h1, ?_,h3⟩
     rw [List.reverse_append,List.reverse_singleton, ← List.append_assoc]
     exact h2
   · rw [if_neg hr] at hfl hLL ⊢
     exact write_bare w0 w b nv vs st txt j m n k hg h hsn hz hnk hnb (hnum _ (List.mem_of_getElem? hnk)) hr (by omega) (by omega)
 · have hs:stepP (vs.map (·.1)) ⟨t,i,m⟩=(sb t,[]):=by unfold stepP;rw [if_neg (show ¬ (⟨t,i,m⟩:Pt).t=⟨#[]⟩ from hpt)]
   have hp2:ptL (vs.map (·.1)) ⟨t,i,m⟩=sb t:=by unfold ptL;rw [if_neg (show ¬ (⟨t,i,m⟩:Pt).t=⟨#[]⟩ from hpt)]
   rw [hs]
   rw [hp2,length_sb] at hl
   dsimp only
   rw [List.reverse_nil,List.append_nil]
   exact write_text w b nv st txt ⟨t,i,m⟩ h hpt hl
set_option maxRecDepth 100000 in
theorem fields_yes (w:World) (n:Nd) (hv:Vars w) (hs:n.text.size≤1000000) (hr:n.ref.sh.size≤1000000) (ht:n.zto.sh.size≤1000000) (hyes:okF n=true) (A:Option Addr) (m c:Nat) :
 Calls Tryz.prog 115 #[.agg #[.int .i64 n.kind,.int .i64 n.num,.string n.text,.string n.ref.sh,.int .i64 n.ref.c,.int .i64 n.ref.r,.bool n.ref.ac,.bool n.ref.ar,.string n.zto.sh,.int .i64 n.zto.c,.int .i64 n.zto.r,.bool n.zto.ac,.bool n.zto.ar,.slice A m c]] w fun e w'=>e = .returned (.tuple #[.agg (nodA (namedN n) (.slice none 0 0)),.bool (okF n)])∧Below w.heap.size w w':=by
 by_cases h1:n.kind=1
 · have e1:namedN n={ Nd.zero with num:=n.num }:=by unfold namedN;rw [if_pos h1]
   have e2:okF n=decide (0≤n.num):=by unfold okF;rw [if_pos h1]
   rw [e1,e2];exact fields_1 n h1 A m c w
 by_cases h2:n.kind=2
 · have e1:namedN n={ Nd.zero with text:=n.text }:=by unfold namedN;rw [if_neg h1,if_pos h2]
   have e2:okF n=printB (sb n.text):=by unfold okF;rw [if_neg h1,if_pos h2]
   rw [e1,e2];exact fields_2 w n h2 hs A m c
 by_cases h3:n.kind=3
 · have e1:namedN n={ Nd.zero with num:=n.num }:=by unfold namedN;rw [if_neg h1,if_neg h2,if_pos h3]
   have e2:okF n=decide (n.num=0∨n.num=1):=by unfold okF;rw [if_neg h1,if_neg h2,if_pos h3]
   rw [e1,e2]
   by_cases k0:n.num=0
   · rw [decide_eq_true (Or.inl k0)];exact fields_3a w n h3 k0 A m c
   · by_cases k1:n.num=1
     · rw [decide_eq_true (Or.inr k1)];exact fields_3b w n h3 k1 A m c
     · have k:¬ (n.num=0∨n.num=1):=by omega
       rw [hyes,decide_eq_false k] at e2;exact absurd e2 (by decide)
 by_cases h5:n.kind=5
 · have e1:namedN n={ Nd.zero with ref:=n.ref }:=by unfold namedN;rw [if_neg h1,if_neg h2,if_neg h3,if_pos h5]
   have e2:okF n=mayRf n.ref:=by unfold okF;rw [if_neg h1,if_neg h2,if_neg h3,if_pos h5]
   rw [e1,e2];exact fields_5 w n h5 hr A m c
 by_cases h6:n.kind=6
 · have e1:namedN n=⟨0,0,⟨#[]⟩,n.ref,n.zto,[]⟩:=by unfold namedN;rw [if_neg h1,if_neg h2,if_neg h3,if_neg h5,if_pos h6]
   have e2:okF n=(mayRf n.ref&&(mayRf n.zto&&spanB n.ref n.zto)):=by unfold okF;rw [if_neg h1,if_neg h2,if_neg h3,if_neg h5,if_pos h6]
   rw [e1,e2]
   cases q1:mayRf n.ref
   · rw [hyes,q1,Bool.false_and] at e2;exact absurd e2 (by decide)
   · cases q2:mayRf n.zto
     · rw [hyes,q1,q2,Bool.false_and,Bool.and_false] at e2;exact absurd e2 (by decide)
     · exact fields_6c w n h6 hr ht q1 q2 A m c
 by_cases h7:n.kind=7
 · have e1:namedN n={ Nd.zero with text:=n.text }:=by unfold namedN;rw [if_neg h1,if_neg h2,if_neg h3,if_neg h5,if_neg h6,if_pos h7]
   have e2:okF n=callB n.text:=by unfold okF;rw [if_neg h1,if_neg h2,if_neg h3,if_neg h5,if_neg h6,if_pos h7]
   rw [e1,e2];exact fields_7 w n h7 hv A m c
 have e1:namedN n=Nd.zero:=by unfold namedN;rw [if_neg h1,if_neg h2,if_neg h3,if_neg h5,if_neg h6,if_neg h7]
 have e2:okF n=(decide (n.kind=4∨n.kind=8)||twoB n.kind):=by unfold okF;rw [if_neg h1,if_neg h2,if_neg h3,if_neg h5,if_neg h6,if_neg h7]
 rw [e1,e2]
 by_cases h4:n.kind=4
 · rw [decide_eq_true (Or.inl h4),Bool.true_or];exact fields_0a w n h1 h2 h3 h5 h6 h7 h4 A m c
 · by_cases h8:n.kind=8
   · rw [decide_eq_true (Or.inr h8),Bool.true_or];exact fields_0b w n h1 h2 h3 h5 h6 h7 h8 A m c
   · rw [decide_eq_false (by omega),Bool.false_or];exact fields_0c w n h1 h2 h3 h5 h6 h7 h4 h8 A m c
set_option maxRecDepth 100000 in
set_option maxHeartbeats 4000000 in
theorem isNode_yes (w:World) (n:Nd) (hv:Vars w) (hs:n.text.size≤1000000) (hr:n.ref.sh.size≤1000000) (ht:n.zto.sh.size≤1000000) (A:Option Addr) (m c:Nat) (hm:m≤maxLen) (hyes:isNd n m=true) :
 Calls Tryz.prog 84 #[.agg #[.int .i64 n.kind,.int .i64 n.num,.string n.text,.string n.ref.sh,.int .i64 n.ref.c,.int .i64 n.ref.r,.bool n.ref.ac,.bool n.ref.ar,.string n.zto.sh,.int .i64 n.zto.c,.int .i64 n.zto.r,.bool n.zto.ac,.bool n.zto.ar,.slice A m c]] w fun e w'=>e = .returned (.bool true)∧Below w.heap.size w w':=by
 have HYES:=Lib.hid hyes
 have hokf:okF n=true:=by unfold isNd at hyes;rw [Bool.and_eq_true] at hyes;exact hyes.1
 clear hyes
 obtain ⟨N,hN⟩:∃ N,namedN n=N:=⟨_,rfl⟩
 obtain ⟨ok,hok⟩:∃ ok,okF n=ok:=⟨_,rfl⟩
 obtain ⟨hk,hhk⟩:∃ hk,hkB n.kind m=hk:=⟨_,rfl⟩
 have HI:=Lib.hid (show isNd n m=(ok&&(hk&&(decide (n.num=N.num)&&(decide (n.text=N.text)&&(eqR n.ref N.ref&&eqR n.zto N.zto))))) by unfold isNd;rw [hN,hok,hhk])
 have HF:=Lib.hid (show ∀ w,Vars w→Calls Tryz.prog 115 #[.agg #[.int .i64 n.kind,.int .i64 n.num,.string n.text,.string n.ref.sh,.int .i64 n.ref.c,.int .i64 n.ref.r,.bool n.ref.ac,.bool n.ref.ar,.string n.zto.sh,.int .i64 n.zto.c,.int .i64 n.zto.r,.bool n.zto.ac,.bool n.zto.ar,.slice A m c]] w fun e w'=>e = .returned (.tuple #[.agg #[.int .i64 N.kind,.int .i64 N.num,.string N.text,.string N.ref.sh,.int .i64 N.ref.c,.int .i64 N.ref.r,.bool N.ref.ac,.bool N.ref.ar,.string N.zto.sh,.int .i64 N.zto.c,.int .i64 N.zto.r,.bool N.zto.ac,.bool N.zto.ar,.slice none 0 0],.bool ok])∧Below w.heap.size w w' from fun w hv=>by rw [← hN, ← hok];exact fields_yes w n hv hs hr ht hokf A m c)
 have HH:=Lib.hid (show ∀ w,Calls Tryz.prog 116 #[.agg #[.int .i64 n.kind,.int .i64 n.num,.string n.text,.string n.ref.sh,.int .i64 n.ref.c,.int .i64 n.ref.r,.bool n.ref.ac,.bool n.ref.ar,.string n.zto.sh,.int .i64 n.zto.c,.int .i64 n.zto.r,.bool n.zto.ac,.bool n.zto.ar,.slice A m c]] w fun e w'=>e = .returned (.bool hk)∧Below w.heap.size w w' from fun w=>by rw [← hhk];exact hasKids_any n A m c hm w)
 have hx:NdAt (w.alloc (.cells #[.int .i64 n.kind,.int .i64 n.num,.string n.text,.string n.ref.sh,.int .i64 n.ref.c,.int .i64 n.ref.r,.bool n.ref.ac,.bool n.ref.ar,.string n.zto.sh,.int .i64 n.zto.c,.int .i64 n.zto.r,.bool n.zto.ac,.bool n.zto.ar,.slice A m c] 100)) w.heap.size n (.slice A m c):=NdAt.new w n _
 have HB:=Lib.hid ((Below.refl w.heap.size w).alloc (Nat.le_refl _) (.cells #[.int .i64 n.kind,.int .i64 n.num,.string n.text,.string n.ref.sh,.int .i64 n.ref.c,.int .i64 n.ref.r,.bool n.ref.ac,.bool n.ref.ar,.string n.zto.sh,.int .i64 n.zto.c,.int .i64 n.zto.r,.bool n.zto.ac,.bool n.zto.ar,.slice A m c] 100))
 have HV:=Lib.hid hv
 clear hN hok hhk hv
 go_enter Tryz.func84,Tryz.ntmps84
 go_upto_region 1 with (fail)
 generalize w.alloc (.cells #[.int .i64 n.kind,.int .i64 n.num,.string n.text,.string n.ref.sh,.int .i64 n.ref.c,.int .i64 n.ref.r,.bool n.ref.ac,.bool n.ref.ar,.string n.zto.sh,.int .i64 n.zto.c,.int .i64 n.zto.r,.bool n.zto.ac,.bool n.zto.ar,.slice A m c] 100)=w1 at hx HB ⊢
 generalize hb0:w.heap.size=b0 at hx ⊢
 obtain ⟨x0,x1,x2,x3,x4,x5,x6,x7,x8,x9,x10,x11,x12,x13⟩:=hx.cells
 have HX:=Lib.hid hx
 clear hx
 go_upto_region 2 with (go_at_call 115;((with_reducible refine (HF.out _ (HV.out.below HB.out)).mono ?_);rintro e w2 ⟨rfl,h1⟩;have HX2:=Lib.hid (HX.out.below h1 HX.out.lt);have HB2:=Lib.hid (HB.out.trans (h1.mono HB.out.size));clear h1))
 have hB3:Below w2.heap.size w2 (w2.alloc (.cells #[.int .i64 N.kind,.int .i64 N.num,.string N.text,.string N.ref.sh,.int .i64 N.ref.c,.int .i64 N.ref.r,.bool N.ref.ac,.bool N.ref.ar,.string N.zto.sh,.int .i64 N.zto.c,.int .i64 N.zto.r,.bool N.zto.ac,.bool N.zto.ar,.slice none 0 0] 100)):=(Below.refl _ _).alloc (Nat.le_refl _) _
 have hy:NdAt (w2.alloc (.cells #[.int .i64 N.kind,.int .i64 N.num,.string N.text,.string N.ref.sh,.int .i64 N.ref.c,.int .i64 N.ref.r,.bool N.ref.ac,.bool N.ref.ar,.string N.zto.sh,.int .i64 N.zto.c,.int .i64 N.zto.r,.bool N.zto.ac,.bool N.zto.ar,.slice none 0 0] 100)) w2.heap.size N (.slice none 0 0):=NdAt.new w2 N _
 have HX3:=Lib.hid (HX2.out.below hB3 HX2.out.lt)
 have HB3:=Lib.hid (HB2.out.trans (hB3.mono HB2.out.size))
 clear hB3 x0 x1 x2 x3 x4 x5 x6 x7 x8 x9 x10 x11 x12 x13
 generalize hb3:w2.heap.size=b3 at hy ⊢
 generalize w2.alloc (.cells #[.int .i64 N.kind,.int .i64 N.num,.string N.text,.string N.ref.sh,.int .i64 N.ref.c,.int .i64 N.ref.r,.bool N.ref.ac,.bool N.ref.ar,.string N.zto.sh,.int .i64 N.zto.c,.int .i64 N.zto.r,.bool N.zto.ac,.bool N.zto.ar,.slice none 0 0] 100)=w3 at hy HX3 HB3 ⊢
 clear hb3
 have HY3:=Lib.hid hy
 clear hy
 cases ok
 · obtain ⟨x0,x1,x2,x3,x4,x5,x6,x7,x8,x9,x10,x11,x12,x13⟩:=HX3.out.cells
   have HR:=Lib.hid (show isNd n m=false by rw [HI.out];rfl)
   exact absurd HR.out (by rw [HYES.out];decide)
 have go1:=HX3.out.cells
 obtain ⟨x0,x1,x2,x3,x4,x5,x6,x7,x8,x9,x10,x11,x12,x13⟩:=go1
 cases hk
 · have HR:=Lib.hid (show isNd n m=false by rw [HI.out];rfl)
   exact absurd HR.out (by rw [HYES.out];decide)
 by_cases hnum:n.num=N.num
 rotate_left
 · have HR:=Lib.hid (show isNd n m=false by rw [HI.out,decide_eq_false hnum];rfl)
   exact absurd HR.out (by rw [HYES.out];decide)
 have en:(n.num == N.num)=true:=beq_iff_eq.2 hnum
 by_cases htx:n.text=N.text
 rotate_left
 · have HR:=Lib.hid (show isNd n m=false by rw [HI.out,decide_eq_true hnum,decide_eq_false htx];rfl)
   exact absurd HR.out (by rw [HYES.out];decide)
 have et:(n.text.toList == N.text.toList)=true:=by rw [htx];simp
 have HR:=Lib.hid (show isNd n m=(eqR n.ref N.ref&&eqR n.zto N.zto) by rw [HI.out,decide_eq_true hnum,decide_eq_true htx];rfl)
 have hq:=HR.out
 rw [HYES.out] at hq
 have hq2:=hq.symm
 rw [Bool.and_eq_true,eqR_iff,eqR_iff] at hq2
 obtain ⟨q1,q2⟩:=hq2
 clear hq
 have r00:(n.ref.sh.toList == n.ref.sh.toList)=true:=beq_self_eq_true _
 have s00:N.ref.sh.toList=n.ref.sh.toList:=by rw [q1]
 have r01:(n.ref.c == n.ref.c)=true:=beq_self_eq_true _
 have s01:N.ref.c=n.ref.c:=by rw [q1]
 have r02:(n.ref.r == n.ref.r)=true:=beq_self_eq_true _
 have s02:N.ref.r=n.ref.r:=by rw [q1]
 have r03:(n.ref.ac == n.ref.ac)=true:=beq_self_eq_true _
 have s03:N.ref.ac=n.ref.ac:=by rw [q1]
 have r04:(n.ref.ar == n.ref.ar)=true:=beq_self_eq_true _
 have s04:N.ref.ar=n.ref.ar:=by rw [q1]
 have r10:(n.zto.sh.toList == n.zto.sh.toList)=true:=beq_self_eq_true _
 have s10:N.zto.sh.toList=n.zto.sh.toList:=by rw [q2]
 have r11:(n.zto.c == n.zto.c)=true:=beq_self_eq_true _
 have s11:N.zto.c=n.zto.c:=by rw [q2]
 have r12:(n.zto.r == n.zto.r)=true:=beq_self_eq_true _
 have s12:N.zto.r=n.zto.r:=by rw [q2]
 have r13:(n.zto.ac == n.zto.ac)=true:=beq_self_eq_true _
 have s13:N.zto.ac=n.zto.ac:=by rw [q2]
 have r14:(n.zto.ar == n.zto.ar)=true:=beq_self_eq_true _
 have s14:N.zto.ar=n.zto.ar:=by rw [q2]
 clear q1 q2
 clear hnum htx
 go_wp2_with (go_at_call 116;((with_reducible refine (HH.out _).mono ?_);rintro e w4 ⟨rfl,h1⟩;have HB4:=Lib.hid (HB3.out.trans (h1.mono HB3.out.size));obtain ⟨z0,z1,z2,z3,z4,z5,z6,z7,z8,z9,z10,z11,z12,z13⟩:=(HX3.out.below h1 HX3.out.lt).cells;obtain ⟨y0,y1,y2,y3,y4,y5,y6,y7,y8,y9,y10,y11,y12,y13⟩:=(HY3.out.below h1 HY3.out.lt).cells;clear h1))
 all_goals go_ret
 all_goals exact ⟨rfl,HB4.out⟩
set_option maxRecDepth 100000 in
set_option maxHeartbeats 16000000 in
theorem ptree_yes (w:World) (v:Value) (vs:List (Nd × Value)) (hv:Vars w) (h:SN w w.heap.size v vs) (hz:SZ vs) (hyes:treeB (vs.map (·.1))=true):Calls Tryz.prog 60 #[v] w fun e w'=>e = .returned (.bool true)∧Below w.heap.size w w':=by
 obtain ⟨⟨A,cap,rfl,hat⟩,hkid⟩:=h
 obtain ⟨hlen,hsz⟩:=hz
 obtain ⟨nl,hnl⟩:∃ nl,vs.length=nl:=⟨_,rfl⟩
 rw [hnl] at hlen ⊢
 have HYES:=Lib.hid hyes
 clear hyes
 have HV:=Lib.hid hv;have HAT:=Lib.hid hat;have HKID:=Lib.hid hkid;have HSZ:=Lib.hid hsz;have HNL:=Lib.hid hnl
 obtain ⟨eb,hEB,EL⟩:=Elem.kid
 have HEL:=Lib.hid EL
 clear hv hat hkid hsz hnl EL
 go_enter Tryz.func60,Tryz.ntmps60
 go_upto_region 3 with (fail)
 go_loopw [3,9] (fun rv iv wr=>∃ (i:Nat) (st:List Int) (rk:Value),i≤nl∧st.length≤i∧rk=rv∧iv = .int .i64 (i:Int)∧Hid (treeB (vs.map (·.1))=treeF st i ((vs.map (·.1)).drop i))∧Hid (Own (encInt .i64) 3 wr w.heap.size rk st)∧Hid (Below w.heap.size w wr))
  (fun _ iv _=>nl - (intOf iv).toNat)
 case atStart=>exact ⟨0,[],.slice none 0 0,Nat.zero_le _,Nat.le_refl _,rfl,rfl,Lib.hid rfl,Lib.hid (Own.nil _ _ _ _),Lib.hid (Below.refl _ _)⟩
 case round =>
  obtain ⟨i,st,rk,hi,hsi,rfl,rfl,HT,HO,HB⟩:=hrel
  by_cases hlt:i<nl
  · have hii:(i:Int)<(nl:Int):=by omega
    obtain ⟨⟨n,k⟩,hnk⟩:∃ q,vs[i]? = some q:=⟨_,List.getElem?_eq_getElem (by rw [HNL.out];exact hlt)⟩
    have hmem:=List.mem_of_getElem? hnk
    obtain ⟨hz1,hz2,hz3⟩:=HSZ.out _ hmem
    have HZ1:=Lib.hid hz1;have HZ2:=Lib.hid hz2;have HZ3:=Lib.hid hz3
    clear hz1 hz2 hz3
    have hski:SI w w.heap.size k n.kids:=HKID.out _ hmem
    obtain ⟨Ak,ck,hk,hkc,hkm,_⟩:=id hski
    obtain ⟨m,hm⟩:∃ m,n.kids.length=m:=⟨_,rfl⟩
    rw [hm] at hk hkc
    subst hk
    have hmm:m≤maxLen:=Nat.le_trans hkc hkm
    have hmx:m≤9223372036854775807:=by unfold maxLen at hmm;omega
    have HMM:=Lib.hid hmm
    have HM:=Lib.hid hm
    have HSK:=Lib.hid hski
    have HD:=Lib.hid (show (vs.map (·.1)).drop i=n :: (vs.map (·.1)).drop (i+1) by
     have hl:i<(vs.map (·.1)).length:=by rw [List.length_map,HNL.out];exact hlt
     rw [List.drop_eq_getElem_cons hl]
     congr 1
     have h1:(vs.map (·.1))[i]? = some n:=by rw [List.getElem?_map,hnk];rfl
     rw [List.getElem?_eq_getElem hl] at h1;exact Option.some.inj h1)
    rcases HAT.out with e | ⟨pb,po,rfl,hpb,hcells⟩
    · exfalso;rw [e] at hnk;simp at hnk
    have hcell:=hcells i n _ hnk
    obtain ⟨k0,k1,k2,k3,k4,k5,k6,k7,k8,k9,k10,k11,k12,k13⟩:=cells14 HB.out hpb hcell
    clear hcell hcells hnk hmem hski hm hkc hkm hmm
    have hL:st.length≤1000:=by omega
    rcases HO.out.shape with ⟨rfl,hst⟩ | ⟨rg,rcap,rfl,hrg,hrl,hrc,hrm⟩
    · have hst0:st.length=0:=by rw [hst];rfl
      by_cases hm0:m=0
      rotate_left
      · have hneg : -(m:Int)<0:=by omega
        have hml:¬ m≤st.length:=by omega
        have HT2:=Lib.hid (show treeB (vs.map (·.1))=false by rw [HT.out,HD.out,treeF_cons,HM.out,decide_eq_false hml,Bool.false_and,Bool.and_false])
        exact absurd HT2.out (by rw [HYES.out];decide)
      subst hm0
      have HST:=Lib.hid hst
      clear hst hst0
      have hB3:Below wr.heap.size wr (wr.alloc (.cells #[.int .i64 n.kind,.int .i64 n.num,.string n.text,.string n.ref.sh,.int .i64 n.ref.c,.int .i64 n.ref.r,.bool n.ref.ac,.bool n.ref.ar,.string n.zto.sh,.int .i64 n.zto.c,.int .i64 n.zto.r,.bool n.zto.ac,.bool n.zto.ar,.slice Ak 0 ck] 100)):=(Below.refl _ _).alloc (Nat.le_refl _) _
      have HN3:NdAt (wr.alloc (.cells #[.int .i64 n.kind,.int .i64 n.num,.string n.text,.string n.ref.sh,.int .i64 n.ref.c,.int .i64 n.ref.r,.bool n.ref.ac,.bool n.ref.ar,.string n.zto.sh,.int .i64 n.zto.c,.int .i64 n.zto.r,.bool n.zto.ac,.bool n.zto.ar,.slice Ak 0 ck] 100)) wr.heap.size n (.slice Ak 0 ck):=NdAt.new wr n _
      have HB3:=Lib.hid (HB.out.trans (hB3.mono HB.out.size))
      have HO3:=Lib.hid (HO.out.alloc (.cells #[.int .i64 n.kind,.int .i64 n.num,.string n.text,.string n.ref.sh,.int .i64 n.ref.c,.int .i64 n.ref.r,.bool n.ref.ac,.bool n.ref.ar,.string n.zto.sh,.int .i64 n.zto.c,.int .i64 n.zto.r,.bool n.zto.ac,.bool n.zto.ar,.slice Ak 0 ck] 100))
      clear hB3
      go_upto_region 6 with (fail)
      generalize hb3:wr.heap.size=b3 at HN3 ⊢
      generalize wr.alloc (.cells #[.int .i64 n.kind,.int .i64 n.num,.string n.text,.string n.ref.sh,.int .i64 n.ref.c,.int .i64 n.ref.r,.bool n.ref.ac,.bool n.ref.ar,.string n.zto.sh,.int .i64 n.zto.c,.int .i64 n.zto.r,.bool n.zto.ac,.bool n.zto.ar,.slice Ak 0 ck] 100)=w3 at HN3 HB3 HO3 ⊢
      clear hb3 k0 k1 k2 k3 k4 k5 k6 k7 k8 k9 k10 k11 k12 k13 HO
      have HN3:=Lib.hid HN3
      obtain ⟨f,hf⟩:∃ f,st.length - 0=f:=⟨_,rfl⟩
      have hml:0≤st.length:=Nat.zero_le _
      have hfL:f≤st.length:=by omega
      have HS1:=Lib.hid (show ∀ W,Below w3.heap.size w3 W→SI W w3.heap.size (.slice none 0 0) (st.drop f) from fun W hW=>⟨none,0,by rw [HST.out];simp,by rw [HST.out];simp,by unfold maxLen;omega,.inl (by rw [HST.out];simp)⟩)
      have HSK3:=Lib.hid (HSK.out.below HB3.out (Nat.le_refl _))
      by_cases hdk:st.drop f=n.kids
      rotate_left
      · have HT2:=Lib.hid (show treeB (vs.map (·.1))=false by rw [HT.out,HD.out,treeF_cons,HM.out,hf,decide_eq_false hdk,Bool.false_and,Bool.and_false,Bool.and_false])
        exact absurd HT2.out (by rw [HYES.out];decide)
      have HEQ:=Lib.hid (show ∀ W,Below w3.heap.size w3 W→Calls Tryz.prog 83 #[.slice none 0 0,.slice Ak 0 ck] W fun e w'=>e = .returned (.bool true)∧Below W.heap.size W w' from fun W hW=>by
       have:=equal_any W w3.heap.size _ _ _ _ (HS1.out W hW) ((HSK3.out.mono HB3.out.size).below hW (Nat.le_refl _))
       rw [decide_eq_true hdk] at this;exact this)
      have HDK:=Lib.hid hdk
      cases hnb:nodeB n
      · have HT2:=Lib.hid (show treeB (vs.map (·.1))=false by rw [HT.out,HD.out,treeF_cons,hnb,Bool.false_and])
        exact absurd HT2.out (by rw [HYES.out];decide)
      · have HT2:=Lib.hid (show treeB (vs.map (·.1))=treeF (st.take f++[(i:Int)]) (i+1) ((vs.map (·.1)).drop (i+1)) by rw [HT.out,HD.out,treeF_cons,hnb,HM.out,decide_eq_true hml,hf,decide_eq_true hdk,Bool.true_and,Bool.true_and,Bool.true_and])
        have HNO:=Lib.hid (show ∀ W,Below w3.heap.size w3 W→Calls Tryz.prog 84 #[.agg #[.int .i64 n.kind,.int .i64 n.num,.string n.text,.string n.ref.sh,.int .i64 n.ref.c,.int .i64 n.ref.r,.bool n.ref.ac,.bool n.ref.ar,.string n.zto.sh,.int .i64 n.zto.c,.int .i64 n.zto.r,.bool n.zto.ac,.bool n.zto.ar,.slice Ak 0 ck]] W fun e w'=>e = .returned (.bool true)∧Below W.heap.size W w' from fun W hW=>by
         exact isNode_yes W n (HV.out.below (HB3.out.trans (hW.mono HB3.out.size))) HZ1.out HZ2.out HZ3.out Ak 0 ck HMM.out (by rw [← HM.out,isNd_eq,hnb]))
        clear hml hdk hnb
        refine wp_region_held_drew (S:=fun W=>Below w3.heap.size w3 W) (by kernel_rfl) (Below.drew (Below.refl w3.heap.size w3)) (fun _ => ?_)
        show wpAnyH _ _ _ _ _ 16 #[false,false,false,false,false,false,false,false,false,false,false,false,false,false,false,false] _ _
        refine hT 0 (Below.drew (Below.refl w3.heap.size w3)) ?_
        refine hT 1 (Below.drew (Below.refl w3.heap.size w3)) ?_
        refine hT 2 (Below.drew (Below.refl w3.heap.size w3)) ?_
        refine hT 3 (Below.drew (Below.refl w3.heap.size w3)) ?_
        refine hT 4 (Below.drew (Below.refl w3.heap.size w3)) ?_
        refine hT 5 (Below.drew (Below.refl w3.heap.size w3)) ?_
        refine hT 6 (Below.drew (Below.refl w3.heap.size w3)) ?_
        refine hT 7 (Below.drew (Below.refl w3.heap.size w3)) ?_ (hy:=by (intro wS hSw;have hz:=(HN3.out.below hSw HN3.out.lt).cells;go_simp;try (with_reducible rfl)))
        refine hO 8 (fun K hK => ?_)
        go_simp
        refine (HEQ.out _ (Below.drew (Below.refl w3.heap.size w3))).mono ?_
        rintro e w4 ⟨rfl,h1⟩
        have HE:=Lib.hid ((Below.drew (Below.refl w3.heap.size w3)).trans h1)
        clear h1
        go_wp2_with fail
        refine hK.out _ _ HE.out ?_
        clear hK K
        simp only [Act.put,sT,sZ,sS]
        refine hT 9 HE.out ?_
        refine hT 10 HE.out ?_
        refine hT 11 HE.out ?_
        refine hT 12 HE.out ?_ (hy:=by (intro wS hSw;have hz:=(HN3.out.below hSw HN3.out.lt).cells;go_simp;try (with_reducible rfl)))
        refine hO 13 (fun K hK => ?_)
        go_simp
        refine (HNO.out _ HE.out).mono ?_
        rintro e w5 ⟨rfl,h1⟩
        have HF:=Lib.hid (HE.out.trans (h1.mono HE.out.size))
        clear h1
        go_wp2_with fail
        refine hK.out _ _ HF.out ?_
        clear hK K
        simp only [Act.put,sT,sZ,sS]
        refine hT 14 HF.out ?_
        refine hT 15 HF.out ?_
        refine wpAnyH_done (by kernel_rfl) ?_ _
        have HB5:=Lib.hid (HB3.out.trans (HF.out.mono HB3.out.size))
        have HO5:=Lib.hid (HO3.out.below HF.out (Nat.le_refl _))
        have hlt5:(st.take f).length≤1000:=by rw [List.length_take];omega
        go_wp2_with (at_builtin;refine wpList_app HEL.out (encInt .i64) rfl (.tmp 38) (.tmp 40) rfl w.heap.size (.slice none 0 0) (st.take f) rfl ((show Own (encInt .i64) 3 w5 w.heap.size (.slice none 0 0) (st.take f) from by rw [HST.out,List.take_nil];exact Own.nil _ _ _ _).alloc _) ⟨w5.heap.size,0,none⟩ 1 1 [(i:Int)] rfl rfl ?_ ?_ ?_ ?_ ?_;exact cells_new _ _ _ rfl;exact Nat.le_trans (Nat.mul_le_mul_left _ hEB) (by omega);(unfold maxLen;omega);(have:=HB5.out.size;simp <;> omega);intro kv' w6 h1 h2;have HO6:=Lib.hid h1;have HB6:=Lib.hid (((HB5.out.alloc HB5.out.size _)).trans h2);clear h1 h2)
        go_roundw
        case rel=>exact ⟨i+1,st.take f++[(i:Int)],kv',by omega,by rw [List.length_append,List.length_take,List.length_singleton];omega,rfl,by go_num,HT2,HO6,HB6⟩
        case measure=>simp [intOf];omega
    · skip
      by_cases hml:m≤st.length
      rotate_left
      · have hneg:(st.length:Int) - (m:Int)<0:=by omega
        have HT2:=Lib.hid (show treeB (vs.map (·.1))=false by rw [HT.out,HD.out,treeF_cons,HM.out,decide_eq_false hml,Bool.false_and,Bool.and_false])
        exact absurd HT2.out (by rw [HYES.out];decide)
      obtain ⟨f,hf⟩:∃ f,st.length - m=f:=⟨_,rfl⟩
      have hw1 : -9223372036854775808≤(st.length:Int) - (m:Int):=by omega
      have hw2:(st.length:Int) - (m:Int)≤9223372036854775807:=by omega
      have hfi:(st.length:Int) - (m:Int)=(f:Int):=by omega
      have hfn:¬ (f:Int)<0:=by omega
      have hf0:(0:Int)≤(f:Int):=by omega
      have hfl:(f:Int)≤(st.length:Int):=by omega
      have hfL:f≤st.length:=by omega
      have hB3:Below wr.heap.size wr (wr.alloc (.cells #[.int .i64 n.kind,.int .i64 n.num,.string n.text,.string n.ref.sh,.int .i64 n.ref.c,.int .i64 n.ref.r,.bool n.ref.ac,.bool n.ref.ar,.string n.zto.sh,.int .i64 n.zto.c,.int .i64 n.zto.r,.bool n.zto.ac,.bool n.zto.ar,.slice Ak m ck] 100)):=(Below.refl _ _).alloc (Nat.le_refl _) _
      have HN3:NdAt (wr.alloc (.cells #[.int .i64 n.kind,.int .i64 n.num,.string n.text,.string n.ref.sh,.int .i64 n.ref.c,.int .i64 n.ref.r,.bool n.ref.ac,.bool n.ref.ar,.string n.zto.sh,.int .i64 n.zto.c,.int .i64 n.zto.r,.bool n.zto.ac,.bool n.zto.ar,.slice Ak m ck] 100)) wr.heap.size n (.slice Ak m ck):=NdAt.new wr n _
      have HB3:=Lib.hid (HB.out.trans (hB3.mono HB.out.size))
      have HO3:=Lib.hid (HO.out.alloc (.cells #[.int .i64 n.kind,.int .i64 n.num,.string n.text,.string n.ref.sh,.int .i64 n.ref.c,.int .i64 n.ref.r,.bool n.ref.ac,.bool n.ref.ar,.string n.zto.sh,.int .i64 n.zto.c,.int .i64 n.zto.r,.bool n.zto.ac,.bool n.zto.ar,.slice Ak m ck] 100))
      clear hB3
      go_upto_region 6 with (fail)
      generalize hb3:wr.heap.size=b3 at HN3 ⊢
      generalize wr.alloc (.cells #[.int .i64 n.kind,.int .i64 n.num,.string n.text,.string n.ref.sh,.int .i64 n.ref.c,.int .i64 n.ref.r,.bool n.ref.ac,.bool n.ref.ar,.string n.zto.sh,.int .i64 n.zto.c,.int .i64 n.zto.r,.bool n.zto.ac,.bool n.zto.ar,.slice Ak m ck] 100)=w3 at HN3 HB3 HO3 ⊢
      clear hb3 k0 k1 k2 k3 k4 k5 k6 k7 k8 k9 k10 k11 k12 k13 HO
      have HN3:=Lib.hid HN3
      have hflc:(f:Int)≤(rcap:Int):=by omega
      obtain ⟨AT,hAT⟩:∃ AT,(if rcap=f then some (⟨rg,0,none⟩:Addr) else some ⟨rg,f,none⟩)=AT:=⟨_,rfl⟩
      have HS1:=Lib.hid (show ∀ W,Below w3.heap.size w3 W→SI W w3.heap.size (.slice AT (st.length - f) (rcap - f)) (st.drop f) from fun W hW=>by rw [← hAT];exact (SI.tail HO3.out f hfL hrc hrm (by have:=(HO3.out.blockLt rg rfl).2.1;exact this)).below hW (Nat.le_refl _))
      have HSK3:=Lib.hid (HSK.out.below HB3.out (Nat.le_refl _))
      by_cases hdk:st.drop f=n.kids
      rotate_left
      · have HT2:=Lib.hid (show treeB (vs.map (·.1))=false by rw [HT.out,HD.out,treeF_cons,HM.out,hf,decide_eq_false hdk,Bool.false_and,Bool.and_false,Bool.and_false])
        exact absurd HT2.out (by rw [HYES.out];decide)
      have HEQ:=Lib.hid (show ∀ W,Below w3.heap.size w3 W→Calls Tryz.prog 83 #[.slice AT (st.length - f) (rcap - f),.slice Ak m ck] W fun e w'=>e = .returned (.bool true)∧Below W.heap.size W w' from fun W hW=>by
       have:=equal_any W w3.heap.size _ _ _ _ (HS1.out W hW) ((HSK3.out.mono HB3.out.size).below hW (Nat.le_refl _))
       rw [decide_eq_true hdk] at this;exact this)
      have HDK:=Lib.hid hdk
      cases hnb:nodeB n
      · have HT2:=Lib.hid (show treeB (vs.map (·.1))=false by rw [HT.out,HD.out,treeF_cons,hnb,Bool.false_and])
        exact absurd HT2.out (by rw [HYES.out];decide)
      · have HT2:=Lib.hid (show treeB (vs.map (·.1))=treeF (st.take f++[(i:Int)]) (i+1) ((vs.map (·.1)).drop (i+1)) by rw [HT.out,HD.out,treeF_cons,hnb,HM.out,decide_eq_true hml,hf,decide_eq_true hdk,Bool.true_and,Bool.true_and,Bool.true_and])
        have HNO:=Lib.hid (show ∀ W,Below w3.heap.size w3 W→Calls Tryz.prog 84 #[.agg #[.int .i64 n.kind,.int .i64 n.num,.string n.text,.string n.ref.sh,.int .i64 n.ref.c,.int .i64 n.ref.r,.bool n.ref.ac,.bool n.ref.ar,.string n.zto.sh,.int .i64 n.zto.c,.int .i64 n.zto.r,.bool n.zto.ac,.bool n.zto.ar,.slice Ak m ck]] W fun e w'=>e = .returned (.bool true)∧Below W.heap.size W w' from fun W hW=>by
         exact isNode_yes W n (HV.out.below (HB3.out.trans (hW.mono HB3.out.size))) HZ1.out HZ2.out HZ3.out Ak m ck HMM.out (by rw [← HM.out,isNd_eq,hnb]))
        clear hml hdk hnb
        refine wp_region_held_drew (S:=fun W=>Below w3.heap.size w3 W) (by kernel_rfl) (Below.drew (Below.refl w3.heap.size w3)) (fun _ => ?_)
        show wpAnyH _ _ _ _ _ 16 #[false,false,false,false,false,false,false,false,false,false,false,false,false,false,false,false] _ _
        refine hT 0 (Below.drew (Below.refl w3.heap.size w3)) ?_
        refine hT 1 (Below.drew (Below.refl w3.heap.size w3)) ?_
        refine hT 2 (Below.drew (Below.refl w3.heap.size w3)) ?_
        refine hT 3 (Below.drew (Below.refl w3.heap.size w3)) ?_
        refine hT 4 (Below.drew (Below.refl w3.heap.size w3)) ?_
        refine hT 5 (Below.drew (Below.refl w3.heap.size w3)) ?_
        refine hT 6 (Below.drew (Below.refl w3.heap.size w3)) ?_
        refine hT 7 (Below.drew (Below.refl w3.heap.size w3)) ?_ (hy:=by (intro wS hSw;have hz:=(HN3.out.below hSw HN3.out.lt).cells;go_simp;try (with_reducible rfl)))
        refine hO 8 (fun K hK => ?_)
        go_simp
        refine (HEQ.out _ (Below.drew (Below.refl w3.heap.size w3))).mono ?_
        rintro e w4 ⟨rfl,h1⟩
        have HE:=Lib.hid ((Below.drew (Below.refl w3.heap.size w3)).trans h1)
        clear h1
        go_wp2_with fail
        refine hK.out _ _ HE.out ?_
        clear hK K
        simp only [Act.put,sT,sZ,sS]
        refine hT 9 HE.out ?_
        refine hT 10 HE.out ?_
        refine hT 11 HE.out ?_
        refine hT 12 HE.out ?_ (hy:=by (intro wS hSw;have hz:=(HN3.out.below hSw HN3.out.lt).cells;go_simp;try (with_reducible rfl)))
        refine hO 13 (fun K hK => ?_)
        go_simp
        refine (HNO.out _ HE.out).mono ?_
        rintro e w5 ⟨rfl,h1⟩
        have HF:=Lib.hid (HE.out.trans (h1.mono HE.out.size))
        clear h1
        go_wp2_with fail
        refine hK.out _ _ HF.out ?_
        clear hK K
        simp only [Act.put,sT,sZ,sS]
        refine hT 14 HF.out ?_
        refine hT 15 HF.out ?_
        refine wpAnyH_done (by kernel_rfl) ?_ _
        have HB5:=Lib.hid (HB3.out.trans (HF.out.mono HB3.out.size))
        have HO5:=Lib.hid (HO3.out.below HF.out (Nat.le_refl _))
        have hlt5:(st.take f).length≤1000:=by rw [List.length_take];omega
        go_wp2_with (at_builtin;refine wpList_app HEL.out (encInt .i64) rfl (.tmp 38) (.tmp 40) rfl w.heap.size (.slice (some ⟨rg,0,none⟩) f rcap) (st.take f) rfl ((own_take HO5.out f hfL).alloc _) ⟨w5.heap.size,0,none⟩ 1 1 [(i:Int)] rfl rfl ?_ ?_ ?_ ?_ ?_;exact cells_new _ _ _ rfl;exact Nat.le_trans (Nat.mul_le_mul_left _ hEB) (by omega);(unfold maxLen;omega);(have:=HB5.out.size;simp <;> omega);intro kv' w6 h1 h2;have HO6:=Lib.hid h1;have HB6:=Lib.hid (((HB5.out.alloc HB5.out.size _)).trans h2);clear h1 h2)
        go_roundw
        case rel=>exact ⟨i+1,st.take f++[(i:Int)],kv',by omega,by rw [List.length_append,List.length_take,List.length_singleton];omega,rfl,by go_num,HT2,HO6,HB6⟩
        case measure=>simp [intOf];omega
  · have hii:¬ (i:Int)<(nl:Int):=by omega
    have hin:i=nl:=by omega
    have HT2:=Lib.hid (show treeB (vs.map (·.1))=decide (st.length=1) by
     rw [HT.out,List.drop_of_length_le (by rw [List.length_map,HNL.out];omega)];rfl)
    rcases HO.out.shape with ⟨rfl,hst⟩ | ⟨rg,rcap,rfl, -⟩
    · rw [hst] at HT2
      exact absurd HT2.out (by rw [HYES.out];decide)
    · by_cases h1:st.length=1
      · have h1i:((st.length:Int) == 1)=true:=by rw [beq_iff_eq];omega
        clear h1 HT2
        go_wp2_with fail
        go_ret
        exact ⟨rfl,HB.out⟩
      · rw [decide_eq_false h1,HYES.out] at HT2
        exact absurd HT2.out (by decide)
theorem run_one8 (w:World) (t:TypeId) (x:Int):(convert 38 9 (.slice (some ⟨w.heap.size,0,none⟩) 1 1)).run Tryz.prog (w.alloc (.cells #[.int .u8 x] t)) = .ok (.string (strOfNums [x])) (w.alloc (.cells #[.int .u8 x] t)):=by
 refine run_convert_bytes_arg _ _ 5 Tryz.underlying38 Tryz.underlying5 _ 0 _ 1 [x] rfl (fun i hi => ?_) _ Tryz.underlying9
 rw [Nat.zero_add]
 have:i=0:=by simp at hi;exact hi
 subst this
 exact cells_new (w:=w) _ _ [.int .u8 x] rfl 0 _ rfl
set_option maxRecDepth 100000 in
set_option maxHeartbeats 400000 in
theorem refDigits_nat (n:Nat) (_h1:n≤9223372036854775807) (w:World) :
 Calls Tryz.prog 4 #[.int .i64 n] w fun e w'=>e = .returned (.string (strOfNums (digL n)))∧Below w.heap.size w w':=by
 have hn0:¬ (n:Int)<0:=by omega
 go_enter Tryz.func4,Tryz.ntmps4
 go_wp2
 go_loopw [3,4] (fun u v wr=>∃ (m:Nat) (t:List Int),m≤9223372036854775807∧u = .int .u64 m∧v = .string (strOfNums t)∧Hid (digL m++t=digL n∧2*t.length+m≤n)∧Below w.heap.size w wr)
  (fun u _ _=>(intOf u).toNat)
 case atStart=>exact ⟨n,[],by omega,by go_num,rfl,Lib.hid ⟨by rw [List.append_nil],by simp⟩,Below.refl _ _⟩
 case round =>
  obtain ⟨m,t,hm,rfl,rfl,HT,hbl⟩:=hrel
  have HB:=Lib.hid hbl;clear hbl
  have hcv:=fun (w:World)=>run_one8 w 5 (48+(m:Int) % 10)
  have hcv2:=fun (w:World)=>run_one8 w 5 (48+(m:Int))
  have hsz:(strOfNums [48+(m:Int) % 10]).size+(strOfNums t).size≤9223372036854775807:=by rw [strOfNums_size,strOfNums_size];have:=HT.out.2;simp only [List.length_cons,List.length_nil];by_cases h:t.length=0 <;> by_cases h2:m=0 <;> omega
  have hsz2:(strOfNums [48+(m:Int)]).size+(strOfNums t).size≤9223372036854775807:=by rw [strOfNums_size,strOfNums_size];have:=HT.out.2;simp only [List.length_cons,List.length_nil];by_cases h:t.length=0 <;> by_cases h2:m=0 <;> omega
  by_cases hlt:10≤m
  · have hki:(10:Int)≤(m:Int):=by omega
    have hd:=digL_more m (by omega)
    have HD:=Lib.hid hd;clear hd
    go_wp2
    go_roundw
    case rel =>
     refine ⟨m / 10,(48+(m:Int) % 10) :: t,by omega,by go_num,val_str (str_append _ _),Lib.hid ⟨?_, ?_⟩,HB.out.alloc HB.out.size _⟩
     · rw [← HT.out.1,HD.out,List.append_assoc,show ((m % 10:Nat):Int)=(m:Int) % 10 from by omega];rfl
     · have:=HT.out.2;simp only [List.length_cons];omega
    case measure=>simp [intOf];omega
  · have hki:¬ (10:Int)≤(m:Int):=by omega
    have hd:=digL_small m (by omega)
    have HD:=Lib.hid hd;clear hd
    go_wp2
    go_ret
    exact ⟨ret_str (by rw [str_append, ← HT.out.1,HD.out]),HB.out.alloc HB.out.size _⟩
set_option maxRecDepth 100000 in
set_option maxHeartbeats 400000 in
theorem refDigits_neg (n:Nat) (_h0:0<n) (_h1:n≤9223372036854775808) (w:World) :
 Calls Tryz.prog 4 #[.int .i64 (-(n:Int))] w fun e w'=>e = .returned (.string (strOfNums (45 :: digL n)))∧Below w.heap.size w w':=by
 have hn0 : -(n:Int)<0:=by omega
 have hw1:IntKind.u64.wrap (-(n:Int))=18446744073709551616 - (n:Int):=by rw [IntKind.wrap_u64];omega
 have hw2:IntKind.u64.wrap (-(18446744073709551616 - (n:Int)))=(n:Int):=by rw [IntKind.wrap_u64];omega
 go_enter Tryz.func4,Tryz.ntmps4
 go_wp2
 go_loopw [3,4] (fun u v wr=>∃ (m:Nat) (t:List Int),m≤9223372036854775808∧u = .int .u64 m∧v = .string (strOfNums t)∧Hid (digL m++t=digL n∧2*t.length+m≤n)∧Below w.heap.size w wr)
  (fun u _ _=>(intOf u).toNat)
 case atStart=>exact ⟨n,[],by omega,by go_num,rfl,Lib.hid ⟨by rw [List.append_nil],by simp⟩,Below.refl _ _⟩
 case round =>
  obtain ⟨m,t,hm,rfl,rfl,HT,hbl⟩:=hrel
  have HB:=Lib.hid hbl;clear hbl
  have hcv:=fun (w:World)=>run_one8 w 5 (48+(m:Int) % 10)
  have hcv2:=fun (w:World)=>run_one8 w 5 (48+(m:Int))
  have hsz:(strOfNums [48+(m:Int) % 10]).size+(strOfNums t).size≤9000000000000000000:=by rw [strOfNums_size,strOfNums_size];have:=HT.out.2;simp only [List.length_cons,List.length_nil];by_cases h:t.length=0 <;> by_cases h2:m=0 <;> omega
  have hsz2:(strOfNums [48+(m:Int)]).size+(strOfNums t).size≤9000000000000000000:=by rw [strOfNums_size,strOfNums_size];have:=HT.out.2;simp only [List.length_cons,List.length_nil];by_cases h:t.length=0 <;> by_cases h2:m=0 <;> omega
  by_cases hlt:10≤m
  · have hki:(10:Int)≤(m:Int):=by omega
    have hd:=digL_more m (by omega)
    have HD:=Lib.hid hd;clear hd
    go_wp2
    go_roundw
    case rel =>
     refine ⟨m / 10,(48+(m:Int) % 10) :: t,by omega,by go_num,val_str (str_append _ _),Lib.hid ⟨?_, ?_⟩,HB.out.alloc HB.out.size _⟩
     · rw [← HT.out.1,HD.out,List.append_assoc,show ((m % 10:Nat):Int)=(m:Int) % 10 from by omega];rfl
     · have:=HT.out.2;simp only [List.length_cons];omega
    case measure=>simp [intOf];omega
  · have hki:¬ (10:Int)≤(m:Int):=by omega
    have hd:=digL_small m (by omega)
    have HD:=Lib.hid hd;clear hd
    go_wp2
    go_ret
    exact ⟨ret_str (by rw [str_append, ← HT.out.1,HD.out];exact str_append [45] _),HB.out.alloc HB.out.size _⟩
theorem refDigits_any (n:Int) (h0 : -9223372036854775808≤n) (h1:n≤9223372036854775807) (w:World) :
 Calls Tryz.prog 4 #[.int .i64 n] w fun e w'=>e = .returned (.string (strOfNums (decL n)))∧Below w.heap.size w w':=by
 by_cases h:n<0
 · obtain ⟨m,hm⟩:∃ m:Nat,n = -(m:Int):=⟨n.natAbs,by omega⟩
   have e:decL n=45 :: digL m:=by unfold decL;rw [if_pos h];congr 2;omega
   rw [e,hm];exact refDigits_neg m (by omega) (by omega) w
 · obtain ⟨m,hm⟩:∃ m:Nat,n=(m:Int):=⟨n.natAbs,by omega⟩
   have e:decL n=digL m:=by unfold decL;rw [if_neg h];congr 1;omega
   rw [e,hm];exact refDigits_nat m (by omega) w
theorem Own.si {w:World} {lo:Nat} {v:Value} {xs:List Int} (h:Own (encInt .i64) 3 w lo v xs):SI w w.heap.size v xs:=by
 rcases h.shape with ⟨rfl,rfl⟩ | ⟨g,cap,rfl,h1,h2,h3,h4⟩
 · exact ⟨none,0,rfl,Nat.le_refl _,by unfold maxLen;omega,.inl rfl⟩
 · refine ⟨_,cap,rfl,h3,h4,.inr ⟨g,0,rfl,h2,fun j x hj => ?_⟩⟩
   rw [Nat.zero_add]
   have:=(encInt .i64).at xs j 0 x hj (by omega)
   rw [Nat.mul_one,Nat.add_zero] at this
   exact Own.cells h j _ (by rw [this];rfl)
theorem NodV.sn {w:World} {lo g n cap:Nat} {vs:List Nv} (h:NodV w lo (.slice (some ⟨g,0,none⟩) n cap) vs) (hn:vs.length=n):SN w w.heap.size (.slice (some ⟨g,0,none⟩) n cap) (vs.map fun v=>(v.n,v.kv)):=by
 refine ⟨⟨_,cap,by rw [List.length_map,hn],.inr ⟨g,0,rfl,(Own.blockLt h.1 g rfl).2.1,fun i nd k hi j hj => ?_⟩⟩, ?_⟩
 · rw [List.getElem?_map] at hi
   obtain ⟨v,hv,e⟩:=Option.map_eq_some_iff.1 hi
   injection e with e1 e2;subst e1;subst e2
   rw [Nat.zero_add];exact h.cell i v hv j hj
 · intro p hp
   obtain ⟨v,hv,rfl⟩:=List.mem_map.1 hp
   exact (h.2 v hv).si
theorem sn_fst (vs:List Nv):(vs.map fun v=>(v.n,v.kv)).map (·.1)=vs.map Nv.n:=by rw [List.map_map];rfl
theorem SN.lenle {w:World} {B:Nat} {v:Value} {vs:List (Nd × Value)} (h:SN w B v vs):∃ A cap,v = .slice A vs.length cap:=by
 obtain ⟨⟨A,cap,h,_⟩,_⟩:=h;exact ⟨A,cap,h⟩
theorem SN.fq {w w':World} {b:Nat} {v:Value} {vs:List (Nd × Value)} (h:SN w b v vs) (hf:Fq w w' b) (hw:b<w.heap.size):SN w' b v vs:=by
 obtain ⟨⟨A,cap,h1,h2⟩,h3⟩:=h
 refine ⟨⟨A,cap,h1,h2.imp id ?_⟩,fun p hp=>(h3 p hp).fq hf (Nat.le_refl _) hw⟩
 rintro ⟨pb,po,e1,e2,e3⟩
 exact ⟨pb,po,e1,e2,fun i n k hi j hj=>(World.cell?_of_block (a:=⟨pb,po+i*14+j,none⟩) (hf.block pb (by omega) (by omega) (.inl e2))).trans (e3 i n k hi j hj)⟩
theorem SN.lift {w w':World} {B C:Nat} {v:Value} {vs:List (Nd × Value)} (h:SN w B v vs) (hb:Below B w w') (hC:B≤C):SN w' C v vs:=by
 obtain ⟨⟨A,cap,h1,h2⟩,h3⟩:=h
 refine ⟨⟨A,cap,h1,h2.imp id ?_⟩,fun p hp => ?_⟩
 · rintro ⟨pb,po,e1,e2,e3⟩
   exact ⟨pb,po,e1,by omega,fun i n k hi j hj=>(hb.cell (p:=⟨pb,po+i*14+j,none⟩) e2).trans (e3 i n k hi j hj)⟩
 · obtain ⟨A2,c2,g1,g2,g3,g4⟩:=h3 p hp
   refine ⟨A2,c2,g1,g2,g3,g4.imp id ?_⟩
   rintro ⟨pb,po,e1,e2,e3⟩
   exact ⟨pb,po,e1,by omega,fun j x hj=>(hb.cell (p:=⟨pb,po+j,none⟩) e2).trans (e3 j x hj)⟩
def slen (o:Option Value):Nat:=match o with | some (.slice _ n _)=>n | _=>0
theorem slen_own {α : Type} {size:Nat} {E:Enc α size} {e:TypeId} {w:World} {base:Nat} {v:Value} {xs:List α} (h:Own E e w base v xs):slen (some v)=xs.length:=by
 rcases h.shape with ⟨rfl,rfl⟩ | ⟨g,cap,rfl, -⟩
 · rfl
 · rfl
def wm (b L:Nat) (w:World):Nat:=2*(L - slen (w.cell? ⟨b,3,none⟩)) - slen (w.cell? ⟨b,1,none⟩)
theorem WQ.wm {w:World} {b:Nat} {nv:Value} {st:List Pt} {txt:List Int} (h:WQ w b nv st txt) (L:Nat):wm b L w=2*(L - txt.length) - st.length:=by
 obtain ⟨wv,⟨ad,bv,h1,_,h3,_⟩,h4⟩:=h
 obtain ⟨-,c1, -,c3⟩:=h1.facts
 unfold Go.Proofs.YtnahgpjglooclaaGreatDoor.wm
 rw [c1,c3,slen_own h4,slen_own h3]
theorem WQ.wait {w:World} {b:Nat} {nv:Value} {st:List Pt} {txt:List Int} (h:WQ w b nv st txt):∃ A c,w.cell? ⟨b,1,none⟩=some (.slice A st.length c):=by
 obtain ⟨wv,⟨ad,bv,h1, -⟩,h4⟩:=h
 have c1:=h1.facts.2.1
 rcases h4.shape with ⟨rfl,rfl⟩ | ⟨g,cap,rfl, -⟩
 · exact ⟨_,_,c1⟩
 · exact ⟨_,_,c1⟩
set_option maxRecDepth 100000 in
set_option maxHeartbeats 8000000 in
theorem print_tree (w:World) (v:Value) (vs:List (Nd × Value)) (hv:Vars w) (htab:Tab w) (hmax:MaxV w) (hsh:ShV w) (h:SN w w.heap.size v vs) (hz:SZ vs) (hnum:∀ q∈vs,q.1.num≤9223372036854775807) (hlen:(printL (vs.map (·.1))).length≤1000000000) (ht:treeB (vs.map (·.1))=true) :
 Calls Tryz.prog 39 #[v] w fun e w'=>e = .returned (.string (strOfNums (printL (vs.map (·.1)))))∧Below w.heap.size w w':=by
 have hT:=ptree_yes w v vs hv h hz ht
 have HT:=Lib.hid hT
 obtain ⟨l,hl⟩:∃ l,vs.map (·.1)=l:=⟨_,rfl⟩
 have hpos:0<vs.length:=by
  rcases Nat.eq_zero_or_pos vs.length with e | e
  · rw [List.length_eq_zero_iff.1 e] at ht;exact absurd ht (by decide)
  · exact e
 have hlv:l.length=vs.length:=by rw [← hl,List.length_map]
 obtain ⟨L,hL⟩:∃ L,(printL l).length=L:=⟨_,rfl⟩
 rw [hl,hL] at hlen
 have hpl:printL l=shN l ((l.length:Int) - 1):=by unfold printL shN;rw [if_pos (hl ▸ ht)]
 have hp0:ptL l (Pt.op ((l.length:Int) - 1) 1)=printL l:=by rw [ptL_op,inL_any,hpl]
 have hok0:PtOk l (Pt.op ((l.length:Int) - 1) 1):=PtOk.op (by omega) (by omega) 1
 rw [hlv] at hp0 hok0
 obtain ⟨N,hN⟩:∃ N,vs.length=N:=⟨_,rfl⟩
 have hN9:N≤1000:=by rw [← hN];exact hz.1
 rw [hN] at hp0 hok0 hpos
 have hw1:wrap64 ((N:Int) - 1)=(N:Int) - 1:=by unfold wrap64;omega
 obtain ⟨A,cap,hva⟩:=h.lenle
 rw [hN] at hva
 subst hva
 have HSN:=Lib.hid h;have HZ:=Lib.hid hz;have HNUM:=Lib.hid hnum;have HTR:=Lib.hid ht
 have HL:=Lib.hid hl;have HLL:=Lib.hid hL;have HP0:=Lib.hid hp0;have HOK0:=Lib.hid hok0
 have HG0:=Lib.hid (show Tab w∧MaxV w∧ShV w from ⟨htab,hmax,hsh⟩)
 rw [hl]
 clear hT hv htab hmax hsh h hz hnum ht hl hL hpl hp0 hok0 hlv hN
 go_enter Tryz.func39,Tryz.ntmps39
 go_upto_region 3 with (go_at_call 60;((with_reducible refine HT.out.mono ?_);rintro e w1 ⟨rfl,h1⟩;have H1:=Lib.hid h1;clear h1))
 go_upto_region 4 with (fail)
 have hwr:WrAt (w1.alloc (.cells #[.slice A N cap,.slice none 0 0,.pointer none,.slice none 0 0] 134)) w1.heap.size (.slice A N cap) (.slice none 0 0) (.pointer none) (.slice none 0 0):=(Go.MapKept.heap_alloc w1 _).1
 have hB2:Below w1.heap.size w1 (w1.alloc (.cells #[.slice A N cap,.slice none 0 0,.pointer none,.slice none 0 0] 134)):=(Below.refl _ _).alloc (Nat.le_refl _) _
 obtain ⟨b,hb⟩:∃ b,w1.heap.size=b:=⟨_,rfl⟩
 obtain ⟨w2,hw2⟩:∃ w2,w1.alloc (.cells #[.slice A N cap,.slice none 0 0,.pointer none,.slice none 0 0] 134)=w2:=⟨_,rfl⟩
 have hwb:w.heap.size≤b:=by rw [← hb];exact H1.out.size
 have HB02:=Lib.hid (H1.out.trans (hB2.mono H1.out.size))
 rw [hw2] at hwr HB02 ⊢
 rw [hb] at hwr ⊢
 have hbl:b<w2.heap.size:=hwr.lt
 have HQ2:=Lib.hid (show WQ w2 b (.slice A N cap) [] [] from ⟨_,⟨_,_,hwr,.inl rfl,Own.nil _ _ _ _,fun x hx=>absurd hx (by simp)⟩,Own.nil _ _ _ _⟩)
 have HG2:=Lib.hid (show Gl w w2 b from ⟨hwb,HB02.out,HG0.out⟩)
 have HSN2:=Lib.hid (HSN.out.lift HB02.out hwb)
 have HPU:=Lib.hid (fun (wr:World) (hr:Below w2.heap.size w2 wr)=>push_lit wr b (.slice A N cap) [] [Pt.op ((N:Int) - 1) 1] [] #[.string ⟨#[]⟩,.int .i64 ((N:Int) - 1),.int .i64 1] 1 rfl rfl (HQ2.out.below hr) (by show 1≤1000000;decide) (Nat.zero_le _))
 clear hw2 hb hwr hB2 HT
 go_upto_region 5 with (first
  | (go_at_call 62;((with_reducible refine (op_lit _ _ _).mono ?_);rintro e w3 ⟨rfl,h3⟩;have HB3:=Lib.hid h3;clear h3))
  | (go_at_call 61;((with_reducible refine (HPU.out _ HB3.out).mono ?_);rintro e w4 ⟨rfl,h3,h4⟩;have HQ4:=Lib.hid h3;have HF4:=Lib.hid ((Fq.ofBelow HB3.out).trans h4);clear h3 h4)))
 go_loopw [] (fun wr=>∃ (st:List Pt) (txt:List Int),Hid (WQ wr b (.slice A N cap) st txt)∧Hid (Fq w2 wr b)∧Hid (∀ p∈st,PtOk l p)∧Hid (txt++st.reverse.flatMap (ptL l)=printL l))
  (fun wr=>wm b L wr)
 case atStart=>exact ⟨[Pt.op ((N:Int) - 1) 1],[],HQ4,HF4,Lib.hid (fun p hp=>by rw [List.mem_singleton.1 hp];exact HOK0.out),Lib.hid (by show ptL l (Pt.op ((N:Int) - 1) 1)++[]=_;rw [List.append_nil];exact HP0.out)⟩
 case round =>
  obtain ⟨st,txt,HQ,HF,HOK,HE⟩:=hrel
  rcases List.eq_nil_or_concat st with rfl | ⟨st',p,rfl⟩
  · obtain ⟨Aw,cw,c1⟩:=HQ.out.wait
    rw [List.length_nil] at c1
    have HTX:=Lib.hid (show txt=printL l from by have h:=HE.out;rw [List.reverse_nil,List.flatMap_nil,List.append_nil] at h;exact h)
    obtain ⟨wv,hws, -⟩:=HQ.out
    have HSTR:=Lib.hid (string_any wr b (.slice A N cap) wv txt hws (by rw [HTX.out];exact HL.out ▸ tree_ne HTR.out (fun n hn=>by obtain ⟨q,hq,rfl⟩:=List.mem_map.1 hn;exact HNUM.out q hq)))
    clear hws
    go_wp2_with (go_at_call 65;((with_reducible refine HSTR.out.mono ?_);rintro e w5 ⟨rfl,h3⟩;have H5:=Lib.hid h3;clear h3))
    go_ret
    refine ⟨by rw [HTX.out] <;> rfl, ?_⟩
    have hg:=((HG2.out.fq HF.out)).2.1
    exact hg.trans ((H5.out.mono (by omega)))
  · rw [List.concat_eq_append] at HQ HOK HE
    obtain ⟨Aw,cw,c1⟩:=HQ.out.wait
    rw [List.length_append,List.length_singleton] at c1
    obtain ⟨M,hM⟩:∃ M:Nat,st'.length+1=M:=⟨_,rfl⟩
    have hM0:(0:Int)<(M:Int):=by omega
    rw [hM] at c1
    have htr:treeB l=true:=by rw [← HL.out];exact HTR.out
    have hpk:PtOk l p:=HOK.out p (by simp)
    have hE:=HE.out
    rw [List.reverse_append,List.reverse_singleton,List.singleton_append,List.flatMap_cons] at hE
    have hE2:=congrArg List.length hE
    rw [List.length_append,List.length_append,HLL.out] at hE2
    have hfl:=flat_len htr st'.reverse (fun q hq=>HOK.out q (List.mem_append_left _ (List.mem_reverse.1 hq)))
    rw [List.length_reverse] at hfl
    have hSL:=stepP_L htr p hpk
    have hSL2:=congrArg List.length hSL
    rw [List.length_append] at hSL2
    have hSF:=flat_len htr _ (stepP_ok htr p hpk)
    have hSM:=stepP_less htr p hpk
    have HPOP:=Lib.hid (pop_any wr b (.slice A N cap) st' p txt HQ.out (by omega))
    have HWR:=Lib.hid (fun (w5:World) (h5:WQ w5 b (.slice A N cap) st' txt) (hf:Fb wr w5 b)=>writeP_any w w5 b (.slice A N cap) vs st' txt p (HG2.out.fq (HF.out.trans (Fq.ofB hf))) h5 (HSN2.out.fq (HF.out.trans (Fq.ofB hf)) hbl) HZ.out (by rw [HL.out];exact htr) HNUM.out (by rw [HL.out];exact hpk) (by rw [HL.out];omega) (by rw [HL.out];omega))
    rw [HL.out] at HWR
    have HQN:=Lib.hid (fun (w6:World) (hq:WQ w6 b (.slice A N cap) (st'++(stepP l p).2.reverse) (txt++(stepP l p).1))=>show wm b L w6<wm b L wr from by
     rw [hq.wm,HQ.out.wm,List.length_append,List.length_append,List.length_append,List.length_reverse,List.length_singleton];omega)
    have HEN:=Lib.hid (show (txt++(stepP l p).1)++(st'++(stepP l p).2.reverse).reverse.flatMap (ptL l)=printL l from by
     rw [List.reverse_append,List.reverse_reverse,List.flatMap_append,List.append_assoc txt, ← List.append_assoc (stepP l p).1, ← hSL];exact hE)
    have HON:=Lib.hid (show ∀ q∈st'++(stepP l p).2.reverse,PtOk l q from fun q hq=>by
     rcases List.mem_append.1 hq with hq | hq
     · exact HOK.out q (List.mem_append_left _ hq)
     · exact stepP_ok htr p hpk q (List.mem_reverse.1 hq))
    clear hE hE2 hfl hSL hSL2 hSF hSM hM
    go_wp2_with (first
     | (go_at_call 64;((with_reducible refine HPOP.out.mono ?_);rintro e w5 ⟨rfl,h3,h4⟩;have HQ5:=Lib.hid h3;have HF5:=Lib.hid h4;clear h3 h4))
     | (go_at_call 63;((with_reducible refine (HWR.out _ HQ5.out HF5.out).mono ?_);rintro e w6 ⟨rfl,h3,h4⟩;have HQ6:=Lib.hid h3;have HF6:=Lib.hid h4;clear h3 h4)))
    go_roundw
    case rel=>exact ⟨_,_,HQ6,Lib.hid (HF.out.trans ((Fq.ofB HF5.out).trans HF6.out)),HON,HEN⟩
    case measure=>exact HQN.out _ HQ6.out
def kdL:List Int→Int
 | []=>0
 | c :: _=>if c=39 then 1 else if c=61 then 2 else if c=45∨isNum c=true then 3 else 4
def kd (s:ByteArray):Int:=kdL (sb s)
def atoiO (s:ByteArray):Option Int:=match Lib.atoiAll s.data.toList with
 | .ok v=>some v
 | _=>none
theorem atoiO_ok {s:ByteArray} {v:Int} (h:Lib.atoiAll s.data.toList = .ok v):atoiO s=some v:=by unfold atoiO;rw [h]
theorem atoiO_bd {s:ByteArray} {v:Int} (h:atoiO s=some v) : -9223372036854775808≤v∧v≤9223372036854775807:=by
 unfold atoiO at h
 split at h
 · rename_i u hu
   have:=Lib.atoiAll_bounds hu
   injection h with h
   omega
 · cases h
structure Sx (w:World):Prop where
 vars:Vars w
 ops:OpV w
 tab:Tab w
 max:MaxV w
 sh:ShV w
theorem Sx.below {w w':World} (h:Sx w) (hb:Below w.heap.size w w'):Sx w':=⟨h.vars.below hb,h.ops.below hb,h.tab.below hb,h.max.below hb,h.sh.below hb⟩
theorem Sx.printT {w:World} (h:Sx w) (v:Value) (vs:List (Nd × Value)) (hs:SN w w.heap.size v vs) (hz:SZ vs) (hnum:∀ q∈vs,q.1.num≤9223372036854775807) (hlen:(printL (vs.map (·.1))).length≤1000000000) (ht:treeB (vs.map (·.1))=true) :
 Calls Tryz.prog 39 #[v] w fun e w'=>e = .returned (.string (strOfNums (printL (vs.map (·.1)))))∧Below w.heap.size w w':=print_tree w v vs h.vars h.tab h.max h.sh hs hz hnum hlen ht
def TS (M:Nat) (t:Tk):Prop:=t.text.size≤M∧t.sh.size≤M
def NS (M:Nat) (n:Nd):Prop:=n.text.size≤M∧n.ref.sh.size≤M∧n.zto.sh.size≤M
def TSs (M:Nat) (ts:List Tk):Prop:=∀ t∈ts,TS M t
def NSs (M:Nat) (ns:List Nd):Prop:=∀ n∈ns,NS M n
theorem TSs.tail {M:Nat} {ts:List Tk} (h:TSs M ts):TSs M ts.tail:=fun t ht=>h t (List.mem_of_mem_tail ht)
theorem NSs.app {M:Nat} {a b:List Nd} (h:NSs M a) (k:NSs M b):NSs M (a++b):=fun n hn=>(List.mem_append.1 hn).elim (h n) (k n)
theorem NSs.one {M:Nat} {n:Nd} (h:NS M n):NSs M [n]:=fun m hm=>by rw [List.mem_singleton] at hm;subst hm;exact h
theorem NS.plain (M:Nat) (k n:Int) (ks:List Int):NS M { Nd.zero with kind:=k,num:=n,kids:=ks }:=⟨Nat.zero_le _,Nat.zero_le _,Nat.zero_le _⟩
theorem refP_sizes {M base:Nat} {t:Tk} {ts:List Tk} {ns:List Nd} {a:Nat} {r:List Tk} (ht:TS M t) (hs:TSs M ts) (h:refP base t ts = .ok (ns,a,r)):NSs M ns∧TSs M r:=by
 unfold refP at h
 split at h
 · split at h
   · rename_i u us hu
     split at h
     · injection h with h;injection h with h1 h2;injection h2 with h2 h3
       subst h1;subst h3
       have hus:TSs M (u :: us):=by rw [← hu];exact hs.tail
       exact ⟨NSs.one ⟨Nat.zero_le _,ht.2,(hus u (by simp)).2⟩,fun x hx=>hus x (by simp [hx])⟩
     · cases h
   · cases h
 · injection h with h;injection h with h1 h2;injection h2 with h2 h3
   subst h1;subst h3
   exact ⟨NSs.one ⟨Nat.zero_le _,ht.2,Nat.zero_le _⟩,hs⟩
theorem sizes_all (M:Nat):∀ f:Nat,(∀ n deep base ts ns a r,exprP f n deep base ts=some (.ok (ns,a,r))→TSs M ts→NSs M ns∧TSs M r) ∧
 (∀ n deep base ns a ts ns' a' r,rowP f n deep base ns a ts=some (.ok (ns',a',r))→TSs M ts→NSs M ns→NSs M ns'∧TSs M r) ∧
 (∀ deep base ts ns a r,primP f deep base ts=some (.ok (ns,a,r))→TSs M ts→NSs M ns∧TSs M r) ∧
 (∀ deep base ns ks ts ns' ks' r,argsP f deep base ns ks ts=some (.ok (ns',ks',r))→TSs M ts→NSs M ns→NSs M ns'∧TSs M r)
 | 0=>by
   refine ⟨?_, ?_, ?_, ?_⟩
   · intro n deep base ts ns a r h;unfold exprP at h;cases h
   · intro n deep base ns a ts ns' a' r h;unfold rowP at h;cases h
   · intro deep base ts ns a r h;unfold primP at h;cases h
   · intro deep base ns ks ts ns' ks' r h;unfold argsP at h;cases h
 | f + 1 => by
   obtain ⟨i1,i2,i3,i4⟩:=sizes_all M f
   refine ⟨?_, ?_, ?_, ?_⟩
   · intro n deep base ts ns a r h ht
     rw [exprP_succ] at h
     by_cases c:n≤3
     · rw [if_pos c] at h
       rcases bindR_some h with ⟨e,_,h2⟩ | ⟨ms,b,s,h1,h2⟩
       · cases h2
       · obtain ⟨k1,k2⟩:=i1 _ _ _ _ _ _ _ h1 ht
         exact i2 _ _ _ _ _ _ _ _ _ h2 k2 k1
     · rw [if_neg c] at h
       by_cases d:signIs ⟨#[45]⟩ ts=true
       · rw [if_pos d] at h
         by_cases d2:12≤deep
         · rw [if_pos d2] at h;cases h
         · rw [if_neg d2] at h
           rcases bindR_some h with ⟨e,_,h2⟩ | ⟨ms,b,s,h1,h2⟩
           · cases h2
           · obtain ⟨k1,k2⟩:=i1 _ _ _ _ _ _ _ h1 ht.tail
             injection h2 with h2;injection h2 with h2;injection h2 with h3 h4;injection h4 with h4 h5
             subst h3;subst h4;subst h5
             exact ⟨k1.app (NSs.one (NS.plain _ _ _ _)),k2⟩
       · rw [if_neg d] at h;exact i3 _ _ _ _ _ _ h ht
   · intro n deep base ns a ts ns' a' r h ht hn
     rw [rowP_succ] at h
     by_cases c:opK n ts=0
     · rw [if_pos c] at h
       injection h with h;injection h with h;injection h with h1 h2;injection h2 with h2 h3
       subst h1;subst h2;subst h3
       exact ⟨hn,ht⟩
     · rw [if_neg c] at h
       rcases bindR_some h with ⟨e,_,h2⟩ | ⟨ms,b,s,h1,h2⟩
       · cases h2
       · obtain ⟨k1,k2⟩:=i1 _ _ _ _ _ _ _ h1 ht.tail
         exact i2 _ _ _ _ _ _ _ _ _ h2 k2 (hn.app (k1.app (NSs.one (NS.plain _ _ _ _))))
   · intro deep base ts ns a r h ht
     cases ts with
     | nil=>rw [primP_nil] at h;cases h
     | cons t ts =>
       have h0:TS M t:=ht t (by simp)
       have hts:TSs M ts:=fun x hx=>ht x (by simp [hx])
       have leaf:∀ (x:Nd),NS M x→(some (.ok ([x],base,ts)):Option Res)=some (.ok (ns,a,r))→NSs M ns∧TSs M r:=by
        intro x hk h
        injection h with h;injection h with h;injection h with h1 h2;injection h2 with h2 h3
        subst h1;subst h2;subst h3
        exact ⟨NSs.one hk,hts⟩
       rw [primP_cons] at h
       by_cases c1:signIs ⟨#[40]⟩ (t :: ts)=true
       · rw [if_pos c1] at h
         by_cases d2:12≤deep
         · rw [if_pos d2] at h;cases h
         · rw [if_neg d2] at h
           rcases bindR_some h with ⟨e,_,h2⟩ | ⟨ms,b,s,h1,h2⟩
           · cases h2
           · obtain ⟨k1,k2⟩:=i1 _ _ _ _ _ _ _ h1 hts
             split at h2
             · injection h2 with h2;injection h2 with h2;injection h2 with h3 h4;injection h4 with h4 h5
               subst h3;subst h4;subst h5
               exact ⟨k1,k2.tail⟩
             · cases h2
       rw [if_neg c1] at h
       by_cases c2:t.kind=1
       · rw [if_pos c2] at h;exact leaf _ (NS.plain _ _ _ _) h
       rw [if_neg c2] at h
       by_cases c3:t.kind=2
       · rw [if_pos c3] at h;exact leaf _ ⟨h0.1,Nat.zero_le _,Nat.zero_le _⟩ h
       rw [if_neg c3] at h
       by_cases c4:t.kind=6
       · rw [if_pos c4] at h;exact leaf _ (NS.plain _ _ _ _) h
       rw [if_neg c4] at h
       by_cases c5:t.kind=4
       · rw [if_pos c5] at h;injection h with h;exact refP_sizes h0 hts h
       rw [if_neg c5] at h
       by_cases c6:t.kind=3
       · rw [if_pos c6] at h
         by_cases e1:t.text=⟨#[84,82,85,69]⟩
         · rw [if_pos e1] at h;exact leaf _ (NS.plain _ _ _ _) h
         rw [if_neg e1] at h
         by_cases e2:t.text=⟨#[70,65,76,83,69]⟩
         · rw [if_pos e2] at h;exact leaf _ (NS.plain _ _ _ _) h
         rw [if_neg e2] at h
         by_cases e3:signIs ⟨#[40]⟩ ts=true
         · rw [if_pos e3] at h
           by_cases d2:12≤deep
           · rw [if_pos d2] at h;cases h
           · rw [if_neg d2] at h
             rcases bindR_some h with ⟨e,_,h2⟩ | ⟨ms,ks,s,h1,h2⟩
             · cases h2
             · have hk:NSs M ms∧TSs M s:=by
                split at h1
                · injection h1 with h1;injection h1 with h1;injection h1 with h3 h4;injection h4 with h4 h5
                  subst h3;subst h5
                  exact ⟨fun _ h=>absurd h (by simp),hts.tail⟩
                · exact i4 _ _ _ _ _ _ _ _ h1 hts.tail (fun _ h=>absurd h (by simp))
               split at h2
               · injection h2 with h2;injection h2 with h2;injection h2 with h3 h4;injection h4 with h4 h5
                 subst h3;subst h4;subst h5
                 exact ⟨hk.1.app (NSs.one ⟨h0.1,Nat.zero_le _,Nat.zero_le _⟩),hk.2.tail⟩
               · cases h2
         · rw [if_neg e3] at h;cases h
       · rw [if_neg c6] at h;cases h
   · intro deep base ns ks ts ns' ks' r h ht hn
     rw [argsP_succ] at h
     rcases bindR_some h with ⟨e,_,h2⟩ | ⟨ms,b,s,h1,h2⟩
     · cases h2
     · obtain ⟨k1,k2⟩:=i1 _ _ _ _ _ _ _ h1 ht
       split at h2
       · exact i4 _ _ _ _ _ _ _ _ h2 k2.tail (hn.app k1)
       · injection h2 with h2;injection h2 with h2;injection h2 with h3 h4;injection h4 with h4 h5
         subst h3;subst h4;subst h5
         exact ⟨hn.app k1,k2⟩
theorem parseP_sizes {M f:Nat} {ts:List Tk} {ns:List Nd} (h:parseP f ts=some (.ok ns)) (ht:TSs M ts):NSs M ns:=by
 unfold parseP at h
 rcases bindR_some h with ⟨e,_,h2⟩ | ⟨ms,b,s,h1,h2⟩
 · cases h2
 · split at h2
   · injection h2 with h2;injection h2 with h2;subst h2
     exact ((sizes_all M f).1 _ _ _ _ _ _ _ h1 ht).1
   · cases h2
theorem strN_size {l:List Int} (h:Bytes l):(strOfNums l).size=l.length:=by rw [← length_sb,sb_str _ h]
theorem quoF_size:∀ (n:Nat) (l:List Int) (t:List Int) (k:Nat),l.length≤n→quoF l=some (t,k)→t.length≤l.length
 | _,[],_,_,_,h=>by simp [quoF] at h
 | 0,_ :: _,_,_,hn,_=>by simp at hn
 | n + 1, x :: l,t,k,hn,h=>by
   rw [quoF_cons] at h
   by_cases h1:x<32
   · rw [if_pos h1] at h;cases h
   · rw [if_neg h1] at h
     by_cases h2:x≠34
     · rw [if_pos h2] at h
       cases hq:quoF l with
       | none=>rw [hq] at h;cases h
       | some q =>
         rw [hq] at h
         simp only [Option.map_some,Option.some.injEq,Prod.mk.injEq] at h
         have:=quoF_size n l q.1 q.2 (by simp at hn;omega) hq
         rw [← h.1];simp only [List.length_cons];omega
     · rw [if_neg h2] at h
       cases l with
       | nil=>simp only [Option.some.injEq,Prod.mk.injEq] at h;rw [← h.1];simp
       | cons y m =>
         simp only at h
         by_cases h3:y=34
         · rw [if_pos h3] at h
           cases hq:quoF m with
           | none=>rw [hq] at h;cases h
           | some q =>
             rw [hq] at h
             simp only [Option.map_some,Option.some.injEq,Prod.mk.injEq] at h
             have:=quoF_size n m q.1 q.2 (by simp at hn;omega) hq
             rw [← h.1];simp only [List.length_cons];omega
         · rw [if_neg h3] at h
           simp only [Option.some.injEq,Prod.mk.injEq] at h;rw [← h.1];simp
theorem textL_size (sh:List Int) (c r:Int) (ac ar:Bool) (hm:mayL sh c r=true):sh.length≤(textL sh c r ac ar).length:=by
 unfold textL
 rw [if_pos hm]
 by_cases h:sh=[]
 · rw [h];exact Nat.zero_le _
 · rw [if_neg h];simp only [List.length_append];omega
theorem tokT_size (l:List Int) (t:Tk) (n p M:Nat) (hb:Bytes l) (hM:l.length≤M) (h:tokT l=some (t,n)):TS M (t.goto p):=by
 have z:(⟨#[]⟩:ByteArray).size≤M:=Nat.zero_le _
 cases l with
 | nil=>simp [tokT] at h
 | cons x l =>
   have hspan:∀ q:Int→Bool,((x :: l).takeWhile q).length≤M:=fun q=>Nat.le_trans (take_le q _) hM
   rw [tokT_cons] at h
   by_cases h1:isNum x=true
   · rw [if_pos h1] at h
     unfold numT at h
     split at h
     · cases h
     · simp only [Option.some.injEq,Prod.mk.injEq] at h
       rw [← h.1];exact ⟨z,z⟩
   · rw [if_neg h1] at h
     by_cases h2:x=34
     · rw [if_pos h2] at h
       unfold quoT at h
       cases hq:quoF l with
       | none=>rw [hq] at h;cases h
       | some q =>
         rw [hq] at h
         simp only [Option.map_some,Option.some.injEq,Prod.mk.injEq] at h
         obtain ⟨g1,g2⟩:=quoF_good _ l q.1 q.2 (Nat.le_refl _) (fun y hy=>hb y (by simp [hy])) hq
         rw [← h.1]
         refine ⟨?_,z⟩
         show (strOfNums q.1).size≤M
         rw [strN_size g1]
         have:=quoF_size _ l q.1 q.2 (Nat.le_refl _) hq
         simp only [List.length_cons] at hM;omega
     · rw [if_neg h2] at h
       by_cases h3:x=35
       · rw [if_pos h3] at h
         unfold deadT at h
         split at h
         · simp only [Option.some.injEq,Prod.mk.injEq] at h
           rw [← h.1];exact ⟨z,z⟩
         · cases h
       · rw [if_neg h3] at h
         by_cases h4:isLet x=true∨x=36
         · rw [if_pos h4] at h
           unfold wordT at h
           cases hq:readS (strOfNums ((x :: l).takeWhile isWord)) with
           | some d =>
             rw [hq] at h
             simp only [Option.some.injEq,Prod.mk.injEq] at h
             rw [← h.1]
             refine ⟨z, ?_⟩
             show d.sh.size≤M
             have e:=(read_some _ d hq).2.2
             rw [sb_str _ (hb.span isWord)] at e
             have k1:=textL_size (sb d.sh) d.c d.r d.ac d.ar (read_some _ d hq).2.1
             rw [e,length_sb] at k1
             exact Nat.le_trans k1 (hspan isWord)
           | none =>
             rw [hq] at h
             simp only at h
             by_cases hc:calledL ((x :: l).takeWhile isWord)=true
             · rw [if_pos hc] at h
               simp only [Option.some.injEq,Prod.mk.injEq] at h
               rw [← h.1]
               refine ⟨?_,z⟩
               show (strOfNums ((x :: l).takeWhile isWord)).size≤M
               rw [strN_size (hb.span isWord)];exact hspan isWord
             · rw [if_neg hc] at h;cases h
         · rw [if_neg h4] at h
           unfold signT at h
           split at h
           · cases h
           · simp only [Option.some.injEq,Prod.mk.injEq] at h
             rw [← h.1]
             refine ⟨?_,z⟩
             show (strOfNums ((x :: l).take (signN (x :: l)))).size≤M
             rw [strN_size (fun y hy=>hb y (List.mem_of_mem_take hy)),List.length_take];omega
theorem lexF_sizes (M:Nat):∀ (f p:Nat) (l:List Int) (ts:List Tk),Bytes l→l.length≤M→lexF f p l=some ts→TSs M ts
 | f,p,[],ts,_,_,h=>by
   have h0:lexF f p []=some [Tk.zero.goto p]:=by unfold lexF;rfl
   rw [h0] at h;injection h with h;subst h
   intro t ht;rw [List.mem_singleton] at ht;subst ht
   exact ⟨Nat.zero_le _,Nat.zero_le _⟩
 | 0,_,_ :: _,_,_,_,h=>by unfold lexF at h;cases h
 | f + 1,p,x :: l,ts,hb,hM,h=>by
   have hbl:Bytes l:=fun y hy=>hb y (by simp [hy])
   rw [lexF_cons] at h
   by_cases hx:x=32
   · rw [if_pos hx] at h
     exact lexF_sizes M f (p+1) l ts hbl (by simp only [List.length_cons] at hM;omega) h
   · rw [if_neg hx] at h
     cases hq:tokT (x :: l) with
     | none=>rw [hq] at h;cases h
     | some q =>
       obtain ⟨t0,n⟩:=q
       rw [hq] at h
       simp only [Option.map_eq_some_iff] at h
       obtain ⟨us,h1,rfl⟩:=h
       have k1:=lexF_sizes M f (p+n) _ us (fun y hy=>hb y (List.mem_of_mem_drop hy)) (by rw [List.length_drop];omega) h1
       intro t ht
       rcases List.mem_cons.1 ht with rfl | ht
       · exact tokT_size (x :: l) t0 n p M hb hM hq
       · exact k1 t ht
theorem tokT_num (l:List Int) (t:Tk) (n:Nat) (h:tokT l=some (t,n)):t.num≤9223372036854775807:=by
 cases l with
 | nil=>simp [tokT] at h
 | cons x l =>
   rw [tokT_cons] at h
   split at h
   · unfold numT at h
     split at h
     · cases h
     · simp only [Option.some.injEq,Prod.mk.injEq] at h
       rw [← h.1]
       show valL _≤_
       omega
   split at h
   · unfold quoT at h
     cases hq:quoF l with
     | none=>rw [hq] at h;cases h
     | some q =>
       rw [hq] at h
       simp only [Option.map_some,Option.some.injEq,Prod.mk.injEq] at h
       rw [← h.1];show (0:Int)≤_;omega
   split at h
   · unfold deadT at h
     split at h
     · simp only [Option.some.injEq,Prod.mk.injEq] at h
       rw [← h.1];show (0:Int)≤_;omega
     · cases h
   split at h
   · unfold wordT at h
     split at h
     · simp only [Option.some.injEq,Prod.mk.injEq] at h
       rw [← h.1];show (0:Int)≤_;omega
     · split at h
       · simp only [Option.some.injEq,Prod.mk.injEq] at h
         rw [← h.1];show (0:Int)≤_;omega
       · cases h
   · unfold signT at h
     split at h
     · cases h
     · simp only [Option.some.injEq,Prod.mk.injEq] at h
       rw [← h.1];show (0:Int)≤_;omega
theorem Tok.num {t:Tk} (h:Tok t):t.num≤9223372036854775807:=by
 have:=tokT_num _ _ _ h.2.1
 exact this
theorem Tok.pos {t:Tk} (h:Tok t):1≤(txK t).length:=(tokT_le _ _ _ h.2.1).1
theorem wr_mem {n rk d:Nat} {ts:List Tk} {d':Nat} {ts':List Tk} (h:Wr n rk d ts d' ts'):ts.length≤ts'.length∧∀ t∈ts,t∈ts':=by
 rcases h with ⟨_,rfl,_⟩ | ⟨_,_,l,r,_,_,rfl⟩
 · exact ⟨Nat.le_refl _,fun _ h=>h⟩
 · exact ⟨by simp;omega,fun t ht=>by simp [ht]⟩
theorem sh_few {m:Bool} {base:Nat} {ns:List Nd} {ks:List Int} {ts:List Tk} {rk d:Nat} (h:Sh m base ns ks ts rk d):(∀ t∈ts,t.num≤9223372036854775807)→ns.length≤ts.length∧∀ n∈ns,n.num≤9223372036854775807:=by
 induction h with
 | leaf base ts nd h =>
   intro ht
   refine ⟨by cases h <;> simp,fun n hn => ?_⟩
   rw [List.mem_singleton.1 hn]
   cases h with
   | num t h=>exact ht t (by simp)
   | yes t h g=>show (1:Int)≤_;omega
   | _=>show (0:Int)≤_;omega
 | neg base ns a ts rk d h m hm d' ts' hw ih =>
   intro ht
   obtain ⟨w1,w2⟩:=wr_mem hw
   obtain ⟨g1,g2⟩:=ih fun t h=>ht t (List.mem_cons_of_mem _ (w2 t h))
   refine ⟨by simp only [List.length_append,List.length_cons,List.length_nil];omega,fun n hn => ?_⟩
   rcases List.mem_append.1 hn with hn | hn
   · exact g2 n hn
   · rw [List.mem_singleton.1 hn];show (0:Int)≤_;omega
 | op base o ho ns ms a b ts us rk1 rk2 d1 d2 h g s hs e1 e2 ts' us' hw gw ih ig =>
   intro ht
   obtain ⟨w1,w2⟩:=wr_mem hw
   obtain ⟨x1,x2⟩:=wr_mem gw
   obtain ⟨g1,g2⟩:=ih fun t h=>ht t (List.mem_append_left _ (w2 t h))
   obtain ⟨y1,y2⟩:=ig fun t h=>ht t (List.mem_append_right _ (List.mem_cons_of_mem _ (x2 t h)))
   refine ⟨by simp only [List.length_append,List.length_cons,List.length_nil];omega,fun n hn => ?_⟩
   rcases List.mem_append.1 hn with hn | hn
   · exact g2 n hn
   rcases List.mem_append.1 hn with hn | hn
   · exact y2 n hn
   · rw [List.mem_singleton.1 hn];show (0:Int)≤_;omega
 | call base ns ks ts d h t l r =>
   rename_i ih
   intro ht
   obtain ⟨g1,g2⟩:=ih fun t h=>ht t (by simp [h])
   refine ⟨by simp only [List.length_append,List.length_cons,List.length_nil];omega,fun n hn => ?_⟩
   rcases List.mem_append.1 hn with hn | hn
   · exact g2 n hn
   · rw [List.mem_singleton.1 hn];show (0:Int)≤_;omega
 | none base=>intro _;exact ⟨Nat.le_refl _,fun n hn=>by cases hn⟩
 | one base ns a ts rk d h ih=>exact ih
 | and base ns ms ks b ts us rk d1 d2 h hk c hc g ih ig =>
   intro ht
   obtain ⟨g1,g2⟩:=ih fun t h=>ht t (List.mem_append_left _ h)
   obtain ⟨y1,y2⟩:=ig fun t h=>ht t (List.mem_append_right _ (List.mem_cons_of_mem _ h))
   refine ⟨by simp only [List.length_append,List.length_cons];omega,fun n hn => ?_⟩
   rcases List.mem_append.1 hn with hn | hn
   · exact g2 n hn
   · exact y2 n hn
theorem txL_few:∀ ts:List Tk,(∀ t∈ts,Tok t)→ts.length≤(txL ts).length
 | [],_=>Nat.zero_le _
 | t :: ts,h=>by
   have ih:=txL_few ts fun u hu=>h u (List.mem_cons_of_mem _ hu)
   have h1:=(h t (by simp)).pos
   rw [txL_cons,List.length_append,List.length_cons];omega
theorem txL_bytes:∀ ts:List Tk,(∀ t∈ts,Tok t)→Bytes (txL ts)
 | [],_=>fun x hx=>by cases hx
 | t :: ts,h=>fun x hx=>by
   rw [txL_cons] at hx
   rcases List.mem_append.1 hx with hx | hx
   · exact (h t (by simp)).2.2 x hx
   · exact txL_bytes ts (fun u hu=>h u (List.mem_cons_of_mem _ hu)) x hx
theorem PIs_told (s:ByteArray) (ns:List Nd) (h:PIs s (.ok ns)):(ns.length≤300∧0<ns.length∧treeB ns=true)∧(∀ n∈ns,n.num≤9223372036854775807)∧(printL ns).length≤s.size∧s.size≤300∧PIs (strOfNums (printL ns)) (.ok ns):=by
 rcases h with ⟨_,h⟩ | ⟨_,_,h⟩ | ⟨h0,ts,f,h1,h2⟩
 · cases h
 · cases h
 · have hb:Bytes (sb s):=fun x hx=>sb_bd s x hx
   have ht:=parse_tree h2 (lexL_good s ts h1).1
   obtain ⟨us,rq,d,a,g1,g2,g3,g4,g5⟩:=told_text hb h1 h2
   rw [length_sb] at g4
   obtain ⟨k1,k2⟩:=sh_few g1 fun t h=>(g3 t h).num
   have k3:=txL_few us g3
   obtain ⟨p1,vs,g,p2,p3⟩:=print_told hb h1 h2 ht
   rw [length_sb] at p1
   have hpos:0<ns.length:=by
    cases ns with
    | nil=>exact absurd ht (by decide)
    | cons n ns=>simp
   have hby:Bytes (printL ns):=by
    rw [sh_print g1 ht]
    exact txL_bytes us g3
   refine ⟨⟨by omega,hpos,ht⟩,k2,p1,h0,.inr (.inr ⟨by rw [strOfNums_size];omega,vs,g,by rw [sb_str _ hby];exact p2,p3⟩)⟩
theorem PIs_sizes6 (s:ByteArray) (ns:List Nd) (h:PIs s (.ok ns)):∀ n∈ns,n.text.size≤1000000∧n.ref.sh.size≤1000000∧n.zto.sh.size≤1000000:=by
 rcases h with ⟨_,h⟩ | ⟨_,_,h⟩ | ⟨h0,ts,f,h1,h2⟩
 · cases h
 · cases h
 · exact parseP_sizes h2 (lexF_sizes 1000000 _ _ _ _ (fun x hx=>sb_bd s x hx) (by rw [length_sb];omega) h1)
theorem parse_sn (s:ByteArray) (w:World) (hx:Sx w) (ns:List Nd) (hp:PIs s (.ok ns)) :
 Calls Tryz.prog 38 #[.string s] w fun e w'=>Below w.heap.size w w'∧∃ g cap vs,e = .returned (.tuple #[.slice (some ⟨g,0,none⟩) ns.length cap,.int .i64 0])∧vs.map Prod.fst=ns∧SN w' w'.heap.size (.slice (some ⟨g,0,none⟩) ns.length cap) vs:=by
 refine (parse_ok s w hx.vars hx.ops ns hp (PIs_told s ns hp).1.2.1).mono ?_
 rintro e w' ⟨hb,g,cap,vs,he,h1,h2,h3, -⟩
 exact ⟨hb,g,cap,_,he,(sn_fst vs).trans h1,h3.sn h2⟩
def OkE {α : Type} (x:Option (Except Int α)):Prop:=∀ c,x=some (.error c)→c=5∨c=6
theorem OkE.non {α : Type}:OkE (none:Option (Except Int α)):=fun c h=>by cases h
theorem OkE.ok {α : Type} (v : α):OkE (some (.ok v):Option (Except Int α)):=fun c h=>by injection h with h;cases h
theorem OkE.e5 {α : Type}:OkE (some (.error 5):Option (Except Int α)):=fun c h=>by injection h with h;injection h with h;exact .inl h.symm
theorem OkE.e6 {α : Type}:OkE (some (.error 6):Option (Except Int α)):=fun c h=>by injection h with h;injection h with h;exact .inr h.symm
theorem OkE.ite {α : Type} {p:Prop} [Decidable p] {x y:Option (Except Int α)} (h:OkE x) (g:OkE y):OkE (if p then x else y):=by split;exact h;exact g
theorem OkE.bind {α β γ δ : Type} {x:Option (Except Int (α × β × γ))} {k : α → β → γ → Option (Except Int δ)} (h:OkE x) (g:∀ a b c,OkE (k a b c)):OkE (bindR x k):=fun c hc=>by
 rcases bindR_some hc with ⟨e,h1,h2⟩ | ⟨a,b,d,_,h2⟩
 · injection h2 with h2;subst h2;exact h c h1
 · exact g a b d c h2
theorem refP_e (base:Nat) (t:Tk) (ts:List Tk):OkE (some (refP base t ts)):=by
 unfold refP
 split
 · split
   · split
     · exact OkE.ok _
     · exact OkE.e5
   · exact OkE.e5
 · exact OkE.ok _
theorem err_all:∀ f:Nat,(∀ n deep base ts,OkE (exprP f n deep base ts))∧(∀ n deep base ns a ts,OkE (rowP f n deep base ns a ts))∧(∀ deep base ts,OkE (primP f deep base ts))∧(∀ deep base ns ks ts,OkE (argsP f deep base ns ks ts))
 | 0=>⟨fun _ _ _ _=>by unfold exprP;exact OkE.non,fun _ _ _ _ _ _=>by unfold rowP;exact OkE.non,fun _ _ _=>by unfold primP;exact OkE.non,fun _ _ _ _ _=>by unfold argsP;exact OkE.non⟩
 | f + 1 => by
   obtain ⟨i1,i2,i3,i4⟩:=err_all f
   refine ⟨fun n deep base ts => ?_,fun n deep base ns a ts => ?_,fun deep base ts => ?_,fun deep base ns ks ts => ?_⟩
   · rw [exprP_succ]
     exact OkE.ite (OkE.bind (i1 _ _ _ _) fun _ _ _=>i2 _ _ _ _ _ _) (OkE.ite (OkE.ite OkE.e6 (OkE.bind (i1 _ _ _ _) fun _ _ _=>OkE.ok _)) (i3 _ _ _))
   · rw [rowP_succ]
     exact OkE.ite (OkE.ok _) (OkE.bind (i1 _ _ _ _) fun _ _ _=>i2 _ _ _ _ _ _)
   · cases ts with
     | nil=>rw [primP_nil];exact OkE.e5
     | cons t ts =>
       rw [primP_cons]
       repeat' first
        | exact OkE.ok _
        | exact OkE.e5
        | exact OkE.e6
        | exact refP_e _ _ _
        | exact i1 _ _ _ _
        | exact i4 _ _ _ _ _
        | (apply OkE.bind)
        | (apply OkE.ite)
        | intro
   · rw [argsP_succ]
     exact OkE.bind (i1 _ _ _ _) fun _ _ _=>OkE.ite (i4 _ _ _ _ _) (OkE.ok _)
theorem PIs_err (s:ByteArray) (c:Int) (h:PIs s (.error c)):c≠0:=by
 rcases h with ⟨_,h⟩ | ⟨_,_,h⟩ | ⟨_,ts,f,_,h⟩
 · injection h with h;omega
 · injection h with h;omega
 · unfold parseP at h
   have:=OkE.bind ((err_all f).1 0 0 0 ts) (k:=fun ns _ r=>if kindAt r=0 then some (.ok ns) else some (.error 5)) (fun _ _ _=>OkE.ite (OkE.ok _) OkE.e5) c h
   omega
def ErrS (w:World):Prop:=∃ ev,w.cell? ⟨3,0,none⟩=some ev∧(ev = .nilIface∨∃ te pe,ev = .iface te pe)
theorem ErrS.below {w w':World} (h:ErrS w) (hb:Below w.heap.size w w'):ErrS w':=by
 obtain ⟨ev,h1,h2⟩:=h
 exact ⟨ev,(hb.cell (show (⟨3,0,none⟩:Addr).block<w.heap.size from Lib.lt_of_cell h1)).trans h1,h2⟩
structure Cx (w:World):Prop where
 sx:Sx w
 syn:ErrS w
theorem Cx.below {w w':World} (h:Cx w) (hb:Below w.heap.size w w'):Cx w':=⟨h.sx.below hb,h.syn.below hb⟩
set_option maxHeartbeats 400000 in
theorem cdig_any (c:Int) (_h0:0≤c) (_h1:c≤255) (w:World) :
 Calls Tryz.prog 56 #[.int .u8 c] w fun e w'=>e = .returned (.bool (isNum c))∧w=w':=by
 go_enter Tryz.func56,Tryz.ntmps56
 go_wp2
 all_goals go_ret
 all_goals exact ⟨ret_bool (by unfold isNum;first | rfl | (symm;rw [decide_eq_true_iff];omega) | (symm;rw [decide_eq_false_iff_not];omega) | (rw [decide_eq_decide];omega)),rfl⟩
theorem kd_empty (s:ByteArray) (h:s.size=0):kd s=0:=by unfold kd;rw [sb_nil s h];rfl
theorem kd_first (s:ByteArray) (hp0:0<s.size) (a:Int) (ha:(s[0].toNat:Int)=a):kd s=if a=39 then 1 else if a=61 then 2 else if a=45∨isNum a=true then 3 else 4:=by
 have hga:(sb s).getD 0 0=a:=by rw [sb_getD s 0 hp0,ha]
 have hl:(sb s).length=s.size:=length_sb s
 unfold kd
 cases h:sb s with
 | nil=>rw [h] at hl;simp at hl;omega
 | cons c l =>
   rw [h] at hga
   have:c=a:=by simpa using hga
   subst this;rfl
set_option maxRecDepth 100000 in
set_option maxHeartbeats 400000 in
theorem kindOf_any (s:ByteArray) (_hs:s.size≤1000000) (w:World):Calls Tryz.prog 37 #[.string s] w fun e w'=>e = .returned (.int .i64 (kd s))∧w=w':=by
 by_cases h0:s.size=0
 · have hk:=kd_empty s h0
   have hz:=sb_nil s h0
   have HK:=Lib.hid hk;clear hk
   obtain rfl:s=⟨#[]⟩:=by first | exact hz | (rw [← str_sb s,hz];rfl)
   clear h0 hz _hs
   go_enter Tryz.func37,Tryz.ntmps37
   go_wp2_with fail
   all_goals go_ret
   all_goals exact ⟨by rw [HK.out];first | done | rfl,rfl⟩
 · have hne:=text_ne0 s h0
   have hne2:s.toList.isEmpty=false:=by cases hq:s.toList with | nil=>exact absurd hq hne | cons a l=>rfl
   have hp0:0<s.size:=by omega
   obtain ⟨a,ha⟩:∃ a:Int,(s[0].toNat:Int)=a:=⟨_,rfl⟩
   have ha1:0≤a∧a≤255:=by have:=s[0].toNat_lt;omega
   have hk:=kd_first s hp0 a ha
   by_cases c1:a=39
   · rw [if_pos c1] at hk
     have HK:=Lib.hid hk
     have e1:(a == 39)=true:=beq_iff_eq.2 c1
     clear hk c1 h0
     go_enter Tryz.func37,Tryz.ntmps37
     go_wp2_with fail
     all_goals go_ret
     all_goals exact ⟨by rw [HK.out];first | done | rfl,rfl⟩
   rw [if_neg c1] at hk
   have e1:(a == 39)=false:=beq_eq_false_iff_ne.2 c1
   by_cases c2:a=61
   · rw [if_pos c2] at hk
     have HK:=Lib.hid hk
     have e2:(a == 61)=true:=beq_iff_eq.2 c2
     clear hk c1 c2 h0
     go_enter Tryz.func37,Tryz.ntmps37
     go_wp2_with fail
     all_goals go_ret
     all_goals exact ⟨by rw [HK.out];first | done | rfl,rfl⟩
   rw [if_neg c2] at hk
   have e2:(a == 61)=false:=beq_eq_false_iff_ne.2 c2
   by_cases c3:a=45
   · rw [if_pos (Or.inl c3)] at hk
     have HK:=Lib.hid hk
     have e3:(a == 45)=true:=beq_iff_eq.2 c3
     clear hk c1 c2 c3 h0
     go_enter Tryz.func37,Tryz.ntmps37
     go_wp2_with fail
     all_goals go_ret
     all_goals exact ⟨by rw [HK.out];first | done | rfl,rfl⟩
   have e3:(a == 45)=false:=beq_eq_false_iff_ne.2 c3
   cases c4:isNum a with
   | true =>
     rw [if_pos (Or.inr c4)] at hk
     have HK:=Lib.hid hk
     clear hk c1 c2 c3 h0
     go_enter Tryz.func37,Tryz.ntmps37
     go_wp2_with (go_at_call 56;((with_reducible refine (cdig_any _ ?_ ?_ _).mono ?_);(first | omega | skip);(first | omega | skip);rintro e w' ⟨rfl,rfl⟩))
     all_goals go_ret
     all_goals exact ⟨by rw [HK.out];first | done | rfl,rfl⟩
   | false =>
     rw [if_neg (by rw [c4];simp;exact c3)] at hk
     have HK:=Lib.hid hk
     clear hk c1 c2 c3 h0
     go_enter Tryz.func37,Tryz.ntmps37
     go_wp2_with (go_at_call 56;((with_reducible refine (cdig_any _ ?_ ?_ _).mono ?_);(first | omega | skip);(first | omega | skip);rintro e w' ⟨rfl,rfl⟩))
     all_goals go_ret
     all_goals exact ⟨by rw [HK.out];first | done | rfl,rfl⟩
theorem kindOf_is (s:ByteArray) (_hs:s.size≤1000000) (k:Int) (hk:kd s=k) (w:World):Calls Tryz.prog 37 #[.string s] w fun e w'=>e = .returned (.int .i64 k)∧w=w':=hk ▸ kindOf_any s _hs w
theorem below_drew {B:Nat} {w w':World} (h:Below B w w'):Below B w w'.drew:=⟨h.os,h.tape,h.output,h.size,h.block⟩
def WholeR (s:ByteArray) (n:Int):Prop:=∀ v,atoiO s=some v→n=v
theorem WholeR.no {s:ByteArray} (h:atoiO s=none) (n:Int):WholeR s n:=fun u hu=>by rw [h] at hu;cases hu
set_option maxRecDepth 100000 in
set_option maxHeartbeats 400000 in
theorem whole_any (s:ByteArray) (_hs:s.size≤1000000) (w:World) (hx:Cx w):Calls Tryz.prog 73 #[.string s] w fun e w'=>∃ n,e = .returned (.tuple #[.int .i64 n,.bool (atoiO s).isSome])∧WholeR s n∧Below w.heap.size w w':=by
 cases h:Lib.atoiAll s.data.toList with
 | ok v =>
   have HA:=Lib.hid (atoi_ok s _hs v h w)
   have HO:=Lib.hid (atoiO_ok h)
   clear h hx
   go_enter Tryz.func73,Tryz.ntmps73
   go_wp2_with (go_at_call 101;((with_reducible refine HA.out.mono ?_);rintro e w1 ⟨rfl,hb⟩;have HB:=Lib.hid hb;clear hb))
   go_region
   all_goals go_wp2_with fail
   all_goals go_ret2
   all_goals exact ⟨v,by rw [HO.out];rfl,fun u hu=>by rw [HO.out] at hu;exact Option.some.inj hu,below_drew HB.out⟩
 | range =>
   obtain ⟨ev,h1,h2⟩:=hx.sx.vars.err
   have HA:=Lib.hid (Tryz.strconv_Atoi_range s (by omega) h ev w h1 h2)
   have HO:=Lib.hid (show atoiO s=none by unfold atoiO;rw [h])
   clear h hx h1 h2
   go_enter Tryz.func73,Tryz.ntmps73
   go_wp2_with (go_at_call 101;((with_reducible refine HA.out.mono ?_);rintro e w1 ⟨N,rfl, -, -,hb⟩;have HB:=Lib.hid hb;clear hb))
   go_region
   all_goals go_wp2_with fail
   all_goals go_ret2
   all_goals exact ⟨_,by rw [HO.out];rfl,WholeR.no HO.out _,below_drew HB.out⟩
 | _ =>
   obtain ⟨ev,h1,h2⟩:=hx.syn
   have HA:=Lib.hid (Tryz.strconv_Atoi_syntax s (by omega) _ h trivial ev w h1 h2)
   have HO:=Lib.hid (show atoiO s=none by unfold atoiO;rw [h])
   clear h hx h1 h2
   go_enter Tryz.func73,Tryz.ntmps73
   go_wp2_with (go_at_call 101;((with_reducible refine HA.out.mono ?_);rintro e w1 ⟨N,rfl, -, -,hb⟩;have HB:=Lib.hid hb;clear hb))
   go_region
   all_goals go_wp2_with fail
   all_goals go_ret2
   all_goals exact ⟨_,by rw [HO.out];rfl,WholeR.no HO.out _,below_drew HB.out⟩
theorem whole_is (s:ByteArray) (_hs:s.size≤1000000) (v:Int) (h:atoiO s=some v) (w:World) (hx:Cx w):Calls Tryz.prog 73 #[.string s] w fun e w'=>e = .returned (.tuple #[.int .i64 v,.bool true])∧Below w.heap.size w w':=by
 refine (whole_any s _hs w hx).mono ?_
 rintro e w' ⟨n,rfl,h1,h2⟩
 exact ⟨by rw [h1 v h,h];rfl,h2⟩
theorem print_told6 (s:ByteArray) (ns:List Nd) (hp:PIs s (.ok ns)) (w1 wr:World) (hx:Sx wr) (v:Value) (l:List (Nd × Value)) (hm:l.map Prod.fst=ns) (hs:SN w1 w1.heap.size v l) (hr:Below w1.heap.size w1 wr) :
 Calls Tryz.prog 39 #[v] wr fun e w'=>e = .returned (.string (strOfNums (printL ns)))∧Below wr.heap.size wr w':=by
 obtain ⟨⟨hl300,hpos,htree⟩,hnum,hpl,hs300,hp2⟩:=PIs_told s ns hp
 have hsz:=PIs_sizes6 s ns hp
 have hl:l.length=ns.length:=by rw [← hm,List.length_map]
 have:=hx.printT v l (hs.lift hr hr.size) ⟨by omega,fun p hp=>hsz p.1 (by rw [← hm];exact List.mem_map_of_mem hp)⟩ (fun p hp=>hnum p.1 (by rw [← hm];exact List.mem_map_of_mem hp)) (by rw [show l.map (·.1)=ns from hm];omega) (by rw [show l.map (·.1)=ns from hm];exact htree)
 rwa [show l.map (·.1)=ns from hm] at this
def mkF:ByteArray:=⟨#[61]⟩
def mkT:ByteArray:=⟨#[39]⟩
inductive NormR (s:ByteArray):ByteArray→Int→Prop
 | large (h:100<s.size):NormR s ⟨#[]⟩ 4
 | stays (h:s.size≤100) (hk:kd s=0∨kd s=1):NormR s s 0
 | form (h:s.size≤100) (hk:kd s=2) (r:ByteArray) (hr:s.extract 1 s.size=r) (ns:List Nd) (hp:PIs r (.ok ns)) (t:ByteArray) (ht:mkF++strOfNums (printL ns)=t):NormR s t 0
 | bad (h:s.size≤100) (hk:kd s=2) (r:ByteArray) (hr:s.extract 1 s.size=r) (c:Int) (hp:PIs r (.error c)):NormR s ⟨#[]⟩ c
 | num (h:s.size≤100) (hk:kd s=3) (n:Int) (ha:atoiO s=some n):NormR s (strOfNums (decL n)) 0
 | text (h:s.size+1≤100) (hk:kd s=4∨(kd s=3∧atoiO s=none)) (t:ByteArray) (ht:mkT++s=t):NormR s t 0
 | long (h:s.size≤100) (h2:¬ s.size+1≤100) (hk:kd s=4∨(kd s=3∧atoiO s=none)):NormR s ⟨#[]⟩ 4
theorem kd_pos (s:ByteArray) (h:kd s≠0):1≤s.size:=by
 rcases Nat.eq_zero_or_pos s.size with h0 | h0
 · exact absurd (kd_empty s h0) h
 · exact h0
theorem mk_rest (mk s t:ByteArray) (hm:mk.size=1) (ht:mk++s=t):t.extract 1 t.size=s:=by
 subst ht
 rw [ByteArray.extract_append,hm,ByteArray.size_append,hm]
 rw [show mk.extract 1 (1+s.size)=ByteArray.empty from ByteArray.extract_eq_empty_iff.2 (by omega)]
 rw [ByteArray.empty_append,show 1+s.size - 1=s.size by omega]
 exact ByteArray.extract_zero_size
theorem NormR.first {t:ByteArray} (h:NormR t t 0):t.size≤100∧kd t≤3:=by
 generalize hu:t=u at h
 generalize he:(0:Int)=e at h
 cases h with
 | large h=>omega
 | stays h hk=>exact ⟨by omega,by rcases hk with hk | hk <;> omega⟩
 | form h hk r hr ns hp t ht=>exact ⟨h,by omega⟩
 | bad h hk r hr c hp=>exact absurd he.symm (PIs_err r _ hp)
 | num h hk n ha=>exact ⟨h,by omega⟩
 | text h hk t ht =>
   exfalso
   have:(mkT++u).size=u.size:=by rw [ht]
   rw [ByteArray.size_append] at this
   have:mkT.size=1:=rfl
   omega
 | long h h2 hk=>omega
set_option maxRecDepth 100000 in
set_option maxHeartbeats 1000000 in
theorem formula_ok (t p:ByteArray) (hs:t.size≤300) (h1:1≤t.size) (hk:kd t=2) (hr:t.extract 1 t.size=p) (ns:List Nd) (hp:PIs p (.ok ns)) (hpp:strOfNums (printL ns)=p) (w:World) (hx:Cx w) :
 Calls Tryz.prog 24 #[.string t] w fun e w'=>(∃ v,e = .returned (.tuple #[v,.bool true]))∧Below w.heap.size w w':=by
 have HA:=Lib.hid (parse_sn p w hx.sx ns hp)
 have HPR:=Lib.hid (fun (w1:World) (h1:Below w.heap.size w w1) (v:Value) (l:List (Nd × Value)) (hm:l.map Prod.fst=ns) (hs:SN w1 w1.heap.size v l)=>(show Calls Tryz.prog 39 #[v] w1.drew fun e w'=>e = .returned (.string p)∧Below w1.drew.heap.size w1.drew w' from hpp ▸ print_told6 p ns hp w1 w1.drew (hx.sx.below (below_drew h1)) v l hm hs (below_drew (Below.refl _ _))))
 have HK:=Lib.hid (kindOf_is t (by omega) _ hk w)
 have hi1:(1:Int)≤(t.size:Int):=by omega
 have hi:¬ (300:Int)<(t.size:Int):=by omega
 obtain ⟨L,hL⟩:∃ L,ns.length=L:=⟨_,rfl⟩
 rw [hL] at HA
 clear hp hpp hL hx hs hk
 go_enter Tryz.func24,Tryz.ntmps24
 go_wp2_with (first
  | (go_at_call 37;((with_reducible refine HK.out.mono ?_);rintro e w1 ⟨rfl,rfl⟩))
  | (go_at_call 38;((with_reducible refine HA.out.mono ?_);rintro e w1 ⟨hb,g1,cap1,l1,rfl,hm1,hs1⟩;have HB1:=Lib.hid hb;have HP1:=Lib.hid (HPR.out w1 hb _ l1 hm1 hs1);clear hb hm1 hs1)))
 go_region_held3 (fun _=>True) (trivial) (first
  | (go_at_call 39;((with_reducible refine HP1.out.mono ?_);rintro e w2 ⟨rfl,h1⟩;have HB2:=Lib.hid ((below_drew HB1.out).trans (h1.mono HB1.out.size));clear h1)))
 all_goals go_wp2_with fail
 all_goals go_ret2
 all_goals exact ⟨⟨_,rfl⟩,HB2.out⟩
set_option maxRecDepth 100000 in
set_option maxHeartbeats 1000000 in
theorem decimal_ok (t:ByteArray) (hs:t.size≤300) (n:Int) (ha:atoiO t=some n) (ht:strOfNums (decL n)=t) (w:World) (hx:Cx w) :
 Calls Tryz.prog 55 #[.string t] w fun e w'=>e = .returned (.tuple #[.int .i64 n,.bool true])∧Below w.heap.size w w':=by
 have HW:=Lib.hid (whole_is t (by omega) n ha w hx)
 have hbd:=atoiO_bd ha
 have HI:=Lib.hid (fun (w1:World) (hb:Below w.heap.size w w1)=>(show Calls Tryz.prog 74 #[.int .i64 n] w1 fun e w'=>e = .returned (.string t)∧Below w1.heap.size w1 w' from ht ▸ itoaZ_any n hbd.1 hbd.2 w1 (hx.sx.tab.below hb)))
 clear hx ha hbd ht hs
 go_enter Tryz.func55,Tryz.ntmps55
 go_wp2_with (first
  | (go_at_call 73;((with_reducible refine HW.out.mono ?_);rintro e w2 ⟨rfl,hb⟩;have HB:=Lib.hid hb;clear hb))
  | (go_at_call 74;((with_reducible refine (HI.out _ HB.out).mono ?_);rintro e w3 ⟨rfl,hb⟩;have HB3:=Lib.hid (HB.out.trans (hb.mono HB.out.size));clear hb)))
 go_ret2
 exact ⟨by rfl,HB3.out⟩
theorem NormR.kinds {t:ByteArray} (h:NormR t t 0):(kd t=0∨kd t=1)∨(kd t=2∧∃ p ns,t.extract 1 t.size=p∧PIs p (.ok ns)∧strOfNums (printL ns)=p)∨(kd t=3∧∃ n,atoiO t=some n∧strOfNums (decL n)=t):=by
 generalize hu:t=u at h
 generalize he:(0:Int)=e at h
 cases h with
 | large h=>omega
 | stays h hk=>exact .inl hk
 | form h hk r hr ns hp t' ht =>
   have hp2:=(PIs_told r ns hp).2.2.2.2
   exact .inr (.inl ⟨hk,_,ns,mk_rest mkF _ _ rfl ht,hp2,rfl⟩)
 | bad h hk r hr c hp=>exact absurd he.symm (PIs_err r _ hp)
 | num h hk n ha=>exact .inr (.inr ⟨hk,n,ha,rfl⟩)
 | text h hk t' ht =>
   exfalso
   have:(mkT++u).size=u.size:=by rw [ht]
   rw [ByteArray.size_append] at this
   have:mkT.size=1:=rfl
   omega
 | long h h2 hk=>omega
set_option maxRecDepth 100000 in
set_option maxHeartbeats 1000000 in
theorem mayc_any (t:ByteArray) (h:NormR t t 0) (w:World) (hx:Cx w) :
 Calls Tryz.prog 36 #[.string t] w fun e w'=>e = .returned (.bool true)∧Below w.heap.size w w':=by
 have hsz:=h.first.1
 have hs:t.size≤1000000:=by omega
 have hi:¬ (300:Int)<(t.size:Int):=by omega
 rcases h.kinds with hk | ⟨hk,p,ns,hr,hp,hpp⟩ | ⟨hk,n,ha,ht⟩
 · rcases hk with hk | hk
   all_goals
    have HK:=Lib.hid (kindOf_is t hs _ hk w)
    clear h hk hx hs hsz
    go_enter Tryz.func36,Tryz.ntmps36
    go_wp2_with (go_at_call 37;((with_reducible refine HK.out.mono ?_);rintro e w1 ⟨rfl,rfl⟩))
    go_ret
    exact ⟨rfl,Below.refl _ _⟩
 · have HK:=Lib.hid (kindOf_is t hs _ hk w)
   have HF:=Lib.hid (formula_ok t p (by omega) (kd_pos t (by omega)) hk hr ns hp hpp w hx)
   clear h hk hx hs hsz hp hpp hr
   go_enter Tryz.func36,Tryz.ntmps36
   go_wp2_with (first
    | (go_at_call 37;((with_reducible refine HK.out.mono ?_);rintro e w1 ⟨rfl,rfl⟩))
    | (go_at_call 24;((with_reducible refine HF.out.mono ?_);rintro e w1 ⟨⟨v,rfl⟩,hb⟩;have HB:=Lib.hid hb;clear hb)))
   go_ret
   exact ⟨rfl,HB.out⟩
 · have HK:=Lib.hid (kindOf_is t hs _ hk w)
   have HF:=Lib.hid (decimal_ok t (by omega) n ha ht w hx)
   clear h hk hx hs hsz ha ht
   go_enter Tryz.func36,Tryz.ntmps36
   go_wp2_with (first
    | (go_at_call 37;((with_reducible refine HK.out.mono ?_);rintro e w1 ⟨rfl,rfl⟩))
    | (go_at_call 55;((with_reducible refine HF.out.mono ?_);rintro e w1 ⟨rfl,hb⟩;have HB:=Lib.hid hb;clear hb)))
   go_ret
   exact ⟨rfl,HB.out⟩
set_option maxRecDepth 100000 in
set_option maxHeartbeats 1000000 in
theorem formula_nodes (t p:ByteArray) (hs:t.size≤300) (h1:1≤t.size) (hk:kd t=2) (hr:t.extract 1 t.size=p) (ns:List Nd) (hp:PIs p (.ok ns)) (hpp:strOfNums (printL ns)=p) (w:World) (hx:Cx w) :
 Calls Tryz.prog 24 #[.string t] w fun e w'=>∃ g cap l,e = .returned (.tuple #[.slice (some ⟨g,0,none⟩) ns.length cap,.bool true])∧SN w' w'.heap.size (.slice (some ⟨g,0,none⟩) ns.length cap) l∧l.map Prod.fst=ns∧Below w.heap.size w w':=by
 have HA:=Lib.hid (parse_sn p w hx.sx ns hp)
 have HPR:=Lib.hid (fun (w1:World) (h1:Below w.heap.size w w1) (v:Value) (l:List (Nd × Value)) (hm:l.map Prod.fst=ns) (hs:SN w1 w1.heap.size v l)=>(show Calls Tryz.prog 39 #[v] w1.drew fun e w'=>e = .returned (.string p)∧Below w1.drew.heap.size w1.drew w' from hpp ▸ print_told6 p ns hp w1 w1.drew (hx.sx.below (below_drew h1)) v l hm hs (below_drew (Below.refl _ _))))
 have HK:=Lib.hid (kindOf_is t (by omega) _ hk w)
 have hi1:(1:Int)≤(t.size:Int):=by omega
 have hi:¬ (300:Int)<(t.size:Int):=by omega
 obtain ⟨L,hL⟩:∃ L,ns.length=L:=⟨_,rfl⟩
 rw [hL] at HA ⊢
 clear hp hpp hL hx hs hk
 go_enter Tryz.func24,Tryz.ntmps24
 go_wp2_with (first
  | (go_at_call 37;((with_reducible refine HK.out.mono ?_);rintro e w1 ⟨rfl,rfl⟩))
  | (go_at_call 38;((with_reducible refine HA.out.mono ?_);rintro e w1 ⟨hb,g1,cap1,l1,rfl,hm1,hs1⟩;have HB1:=Lib.hid hb;have HP1:=Lib.hid (HPR.out w1 hb _ l1 hm1 hs1);have HM1:=Lib.hid hm1;have HS1:=Lib.hid hs1;clear hb hm1 hs1)))
 go_region_held3 (fun _=>True) (trivial) (first
  | (go_at_call 39;((with_reducible refine HP1.out.mono ?_);rintro e w2 ⟨rfl,h1⟩;have HB2:=Lib.hid ((below_drew HB1.out).trans (h1.mono HB1.out.size));have HB12:=Lib.hid ((below_drew (Below.refl _ w1)).trans h1);clear h1)))
 all_goals go_wp2_with fail
 all_goals go_ret2
 all_goals exact ⟨_,_,l1,rfl,HS1.out.lift HB12.out HB12.out.size,HM1.out,HB2.out⟩
instance:DecidableEq Shp:=fun a b=>decidable_of_iff (a.nm=b.nm∧a.cols=b.cols∧a.rows=b.rows) ⟨fun ⟨h1,h2,h3⟩=>by cases a;cases b;simp only at h1 h2 h3;rw [h1,h2,h3],fun h=>by rw [h];exact ⟨rfl,rfl,rfl⟩⟩
theorem ShAt.other {w:World} {b:Nat} {nm:ByteArray} {c:Int} {v:Value} (h:ShAt w b nm c v) (a:Addr) (u:Value) (hne:b≠a.block):ShAt (w.setCell a u) b nm c v:=by
 unfold ShAt;rw [heap_setCell_other _ _ _ _ hne];exact h
set_option maxRecDepth 100000 in
set_option maxHeartbeats 2000000 in
theorem allT_any (w:World) (A:Option Addr) (n cap:Nat) (xs:List ByteArray) (h:SE encTx w w.heap.size (.slice A n cap) xs)
 (hc:∀ x∈xs,∀ w1,Below w.heap.size w w1→Calls Tryz.prog 36 #[.string x] w1 fun e w'=>e = .returned (.bool true)∧Below w1.heap.size w1 w') :
 Calls Tryz.prog 35 #[.slice A n cap,.func (.func 36) #[] #[]] w fun e w'=>e = .returned (.bool true)∧Below w.heap.size w w':=by
 have HL:=Lib.hid h.len.1;have HX:=Lib.hid h;have HC:=Lib.hid hc
 have hmx:n≤9223372036854775807:=by have:=h.len.2;unfold maxLen at this;omega
 clear h hc
 go_enter Tryz.func35,Tryz.ntmps35
 go_upto_region 2 with (fail)
 go_loopw [9] (fun iv wr=>∃ i:Nat,i≤n∧iv = .int .i64 (i:Int)∧Hid (Below w.heap.size w wr))
  (fun iv _=>n - (intOf iv).toNat)
 case atStart=>exact ⟨0,Nat.zero_le _,rfl,Lib.hid (Below.refl _ _)⟩
 case round =>
  obtain ⟨i,hi,rfl,HR⟩:=hrel
  by_cases hlt:i<n
  · have hii:(i:Int)<(n:Int):=by omega
    have hi0:(0:Int)≤(i:Int):=by omega
    obtain ⟨x,hx⟩:∃ x,xs[i]? = some x:=⟨_,List.getElem?_eq_getElem (by rw [HL.out];exact hlt)⟩
    obtain ⟨pb,po,rfl,hpb,e0⟩:=tx_at HX.out hx
    have x0:wr.cell? ⟨pb,po+i,none⟩=some (.string x):=(HR.out.cell (p:=⟨pb,po+i,none⟩) hpb).trans e0
    have HW:=Lib.hid (HC.out x (List.mem_of_getElem? hx) wr HR.out)
    clear e0 hx
    go_wp2_with (go_at_call 36;((with_reducible refine HW.out.mono ?_);rintro e w2 ⟨rfl,h1⟩;have H2:=Lib.hid (HR.out.trans (h1.mono HR.out.size));clear h1))
    go_roundw
    case rel=>exact ⟨i+1,by omega,by go_num,H2⟩
    case measure=>simp [intOf];omega
  · have hii:¬ (i:Int)<(n:Int):=by omega
    go_wp2_with fail
    go_ret
    exact ⟨rfl,HR.out⟩
theorem below_gr (w:World) (c:Int):Below w.heap.size w (w.alloc (.cells #[.int .i64 c] 69)):=(Below.refl _ _).alloc (Nat.le_refl _) _
set_option maxRecDepth 100000 in
set_option maxHeartbeats 2000000 in
theorem fits_any (w:World) (A:Option Addr) (n cap:Nat) (xs:List ByteArray) (h:SE encTx w w.heap.size (.slice A n cap) xs)
 (hc:∀ x∈xs,∀ w1,Below w.heap.size w w1→Calls Tryz.prog 36 #[.string x] w1 fun e w'=>e = .returned (.bool true)∧Below w1.heap.size w1 w') :
 Calls Tryz.prog 23 #[.agg #[.int .i64 (n:Int)],.slice A n cap] w fun e w'=>e = .returned (.bool true)∧Below w.heap.size w w':=by
 have HB:=Lib.hid (below_gr w n)
 have HA:=Lib.hid (allT_any (w.alloc (.cells #[.int .i64 (n:Int)] 69)) A n cap xs (h.lift HB.out) (fun x hx w1 h1=>hc x hx w1 (HB.out.trans (h1.mono HB.out.size))))
 clear h hc
 go_enter Tryz.func23,Tryz.ntmps23
 go_wp2_with (go_at_call 35;((with_reducible refine HA.out.mono ?_);rintro e w2 ⟨rfl,h1⟩;have H2:=Lib.hid (HB.out.trans (h1.mono HB.out.size));clear h1))
 go_ret
 exact ⟨rfl,H2.out⟩
def ClAt (w:World) (b:Nat) (nm:ByteArray):Prop:=w.heap[b]? = some (.cells #[.string nm] 46)
theorem ClAt.cell {w:World} {b:Nat} {nm:ByteArray} (h:ClAt w b nm):w.cell? ⟨b,0,none⟩=some (.string nm):=by rw [cell_of_row w b 0 _ _ _ h];rfl
theorem ClAt.melt {w:World} {b:Nat} {nm:ByteArray} (h:ClAt w b nm):w.frozen? ⟨b,0,none⟩=false:=frozen_of_row w b 0 _ _ h
theorem ClAt.lt {w:World} {b:Nat} {nm:ByteArray} (h:ClAt w b nm):b<w.heap.size:=(Array.getElem?_eq_some_iff.1 h).1
theorem ClAt.over {w w':World} {b:Nat} {nm:ByteArray} (h:ClAt w b nm) (hb:Below w.heap.size w w'):ClAt w' b nm:=by unfold ClAt;rw [hb.block b h.lt];exact h
theorem ClAt.put {w:World} {b:Nat} {nm:ByteArray} (h:ClAt w b nm) (t:ByteArray):ClAt (w.setCell ⟨b,0,none⟩ (.string t)) b t:=by
 unfold ClAt;rw [heap_setCell_same w b 0 _ _ _ h];rfl
set_option maxRecDepth 100000 in
set_option maxHeartbeats 2000000 in
theorem goesOn_any (w:World) (b:Nat) (last nm:ByteArray) (c:Int) (A:Option Addr) (n cap:Nat) (h:ClAt w b last) (hl:Op.bytesLess last.toList nm.toList=true) :
 Calls Tryz.prog 13 #[.pointer (some ⟨b,0,none⟩),.agg #[.string nm,.int .i64 c,.slice A n cap]] w fun e w'=>e = .returned (.bool true)∧ClAt w' b nm∧∀ B,B≤b→Below B w w':=by
 have HS:=Lib.hid (ShAt.new w nm c (.slice A n cap))
 have HB:=Lib.hid (below_sh w nm c (.slice A n cap))
 have HC:=Lib.hid (h.over HB.out)
 have HLT:=Lib.hid h.lt
 clear h
 go_enter Tryz.func13,Tryz.ntmps13
 go_upto_region 1 with (fail)
 obtain ⟨w1,hw1⟩:∃ w1,w.alloc (.cells #[.string nm,.int .i64 c,.slice A n cap] 24)=w1:=⟨_,rfl⟩
 rw [hw1] at HS HB HC ⊢
 clear hw1
 have x0:=HC.out.cell
 have m0:=HC.out.melt
 obtain ⟨y0,y1,y2⟩:=HS.out.cells
 go_upto_region 3 with (fail)
 clear x0 m0 y0 y1 y2
 have hne:w.heap.size≠b:=fun e=>by have:=HLT.out;omega
 have HC2:=Lib.hid (HC.out.put nm)
 have HS2:=Lib.hid (HS.out.other ⟨b,0,none⟩ (.string nm) hne)
 have HB2:=Lib.hid (fun (B:Nat) (hB:B≤b)=>(show Below B w (w1.setCell ⟨b,0,none⟩ (.string nm)) from (HB.out.mono (by have:=HLT.out;omega)).setCell hB _))
 obtain ⟨w2,hw2⟩:∃ w2,w1.setCell ⟨b,0,none⟩ (.string nm)=w2:=⟨_,rfl⟩
 rw [hw2] at HC2 HS2 HB2 ⊢
 clear hw2
 obtain ⟨y0,y1,y2⟩:=HS2.out.cells
 go_wp2_with fail
 go_ret
 exact ⟨rfl,HC2.out,HB2.out⟩
def Rise:ByteArray→List Sv→Prop
 | _,[]=>True
 | last,s :: l=>Op.bytesLess last.toList s.nm.toList=true∧Rise s.nm l
set_option maxRecDepth 100000 in
set_option maxHeartbeats 4000000 in
theorem allRise_any (w:World) (b:Nat) (A:Option Addr) (n cap:Nat) (shs:List Sv) (h:BkR w b (.slice A n cap) shs) (hn:n≤1000000) (hr:Rise ⟨#[]⟩ shs) (hc:ClAt w b ⟨#[]⟩) :
 Calls Tryz.prog 12 #[.slice A n cap,.func (.func 13) #[.pointer (some ⟨b,0,none⟩)] #[]] w fun e w'=>e = .returned (.bool true)∧Below b w w':=by
 have HL:=Lib.hid h.1.len.1;have HX:=Lib.hid h;have HRS:=Lib.hid hr;have HC:=Lib.hid hc
 clear h hr hc
 go_enter Tryz.func12,Tryz.ntmps12
 go_upto_region 2 with (fail)
 go_loopw [9] (fun iv wr=>∃ (i:Nat) (last:ByteArray),i≤n∧iv = .int .i64 (i:Int)∧Hid (ClAt wr b last)∧Hid (Rise last (shs.drop i))∧Hid (Below b w wr))
  (fun iv _=>n - (intOf iv).toNat)
 case atStart=>exact ⟨0,_,Nat.zero_le _,rfl,HC,Lib.hid (by rw [List.drop_zero];exact HRS.out),Lib.hid (Below.refl _ _)⟩
 case round =>
  obtain ⟨i,last,hi,rfl,HCL,HRI,HR⟩:=hrel
  by_cases hlt:i<n
  · have hii:(i:Int)<(n:Int):=by omega
    have hi0:(0:Int)≤(i:Int):=by omega
    have hls:i<shs.length:=by rw [HL.out];exact hlt
    obtain ⟨x,hx⟩:∃ x,shs[i]? = some x:=⟨_,List.getElem?_eq_getElem hls⟩
    have hri:=HRI.out
    rw [List.drop_eq_getElem_cons hls] at hri
    have hxe:shs[i]=x:=by rw [List.getElem?_eq_getElem hls] at hx;exact Option.some.inj hx
    rw [hxe] at hri
    have HNX:=Lib.hid hri.2
    obtain ⟨pb,po,rfl,hpb,e0,e1,e2,hrx⟩:=sh_at HX.out hx
    have x0:wr.cell? ⟨pb,po+i*3,none⟩=some (.string x.nm):=(HR.out.cell (p:=⟨pb,po+i*3,none⟩) hpb).trans e0
    have x1:wr.cell? ⟨pb,po+i*3+1,none⟩=some (.int .i64 x.cols):=(HR.out.cell (p:=⟨pb,po+i*3+1,none⟩) hpb).trans e1
    have x2:wr.cell? ⟨pb,po+i*3+2,none⟩=some (.slice x.A x.rows.length x.cap):=(HR.out.cell (p:=⟨pb,po+i*3+2,none⟩) hpb).trans e2
    have HBS:=Lib.hid (below_sh wr x.nm x.cols (.slice x.A x.rows.length x.cap))
    have HNS:=Lib.hid (ShAt.new wr x.nm x.cols (.slice x.A x.rows.length x.cap))
    have HG:=Lib.hid (goesOn_any (wr.alloc (.cells #[.string x.nm,.int .i64 x.cols,.slice x.A x.rows.length x.cap] 24)) b last x.nm x.cols x.A x.rows.length x.cap (HCL.out.over HBS.out) hri.1)
    have HBB:=Lib.hid (show Below b w (wr.alloc (.cells #[.string x.nm,.int .i64 x.cols,.slice x.A x.rows.length x.cap] 24)) from HR.out.alloc (Nat.le_of_lt HCL.out.lt) _)
    clear e0 e1 e2 hrx hx hri hxe
    go_upto_region 4 with (fail)
    clear x0 x1 x2
    obtain ⟨w1,hw1⟩:∃ w1,wr.alloc (.cells #[.string x.nm,.int .i64 x.cols,.slice x.A x.rows.length x.cap] 24)=w1:=⟨_,rfl⟩
    rw [hw1] at HBS HNS HG HBB ⊢
    clear hw1
    obtain ⟨y0,y1,y2⟩:=HNS.out.cells
    go_wp2_with (go_at_call 13;((with_reducible refine HG.out.mono ?_);rintro e w2 ⟨rfl,h1,h2⟩;have H1:=Lib.hid h1;have H2:=Lib.hid (HBB.out.trans (h2 b (Nat.le_refl _)));clear h1 h2))
    go_roundw
    case rel=>exact ⟨i+1,x.nm,by omega,by go_num,H1,HNX,H2⟩
    case measure=>simp [intOf];omega
  · have hii:¬ (i:Int)<(n:Int):=by omega
    go_wp2_with fail
    go_ret
    exact ⟨rfl,HR.out⟩
structure ShOk (s:Sv):Prop where
 name:nameL (sb s.nm)=true
 size:s.nm.size≤1000
 low:0≤s.cols
 cols:s.cols≤12
 rows:s.rows.length≤24
 wide:∀ r∈s.rows,(r.l.length:Int)=s.cols
set_option maxRecDepth 100000 in
set_option maxHeartbeats 4000000 in
theorem allFits_any (w:World) (A:Option Addr) (n cap:Nat) (rows:List Rv) (m:Int) (h:RowsR w w.heap.size (.slice A n cap) rows) (hn:n≤1000000) (hm:∀ r∈rows,(r.l.length:Int)=m)
 (hc:∀ r∈rows,∀ x∈r.l,∀ w1,Below w.heap.size w w1→Calls Tryz.prog 36 #[.string x] w1 fun e w'=>e = .returned (.bool true)∧Below w1.heap.size w1 w') :
 Calls Tryz.prog 22 #[.slice A n cap,.func (.func 23) #[.agg #[.int .i64 m]] #[]] w fun e w'=>e = .returned (.bool true)∧Below w.heap.size w w':=by
 have HL:=Lib.hid h.1.len.1;have HX:=Lib.hid h;have HC:=Lib.hid hc;have HM:=Lib.hid hm
 clear h hc hm
 go_enter Tryz.func22,Tryz.ntmps22
 go_upto_region 2 with (fail)
 go_loopw [9] (fun iv wr=>∃ i:Nat,i≤n∧iv = .int .i64 (i:Int)∧Hid (Below w.heap.size w wr))
  (fun iv _=>n - (intOf iv).toNat)
 case atStart=>exact ⟨0,Nat.zero_le _,rfl,Lib.hid (Below.refl _ _)⟩
 case round =>
  obtain ⟨i,hi,rfl,HR⟩:=hrel
  by_cases hlt:i<n
  · have hii:(i:Int)<(n:Int):=by omega
    have hi0:(0:Int)≤(i:Int):=by omega
    obtain ⟨x,hx⟩:∃ x,rows[i]? = some x:=⟨_,List.getElem?_eq_getElem (by rw [HL.out];exact hlt)⟩
    obtain ⟨pb,po,rfl,hpb,e0,hrx⟩:=row_at HX.out hx
    have x0:wr.cell? ⟨pb,po+i,none⟩=some (.slice x.A x.l.length x.cap):=(HR.out.cell (p:=⟨pb,po+i,none⟩) hpb).trans e0
    have hw:=fits_any wr x.A x.l.length x.cap x.l (hrx.lift HR.out) (fun y hy w1 h1=>HC.out x (List.mem_of_getElem? hx) y hy w1 (HR.out.trans (h1.mono HR.out.size)))
    rw [HM.out x (List.mem_of_getElem? hx)] at hw
    have HW:=Lib.hid hw
    clear e0 hx hw hrx
    go_wp2_with (go_at_call 23;((with_reducible refine HW.out.mono ?_);rintro e w2 ⟨rfl,h1⟩;have H2:=Lib.hid (HR.out.trans (h1.mono HR.out.size));clear h1))
    go_roundw
    case rel=>exact ⟨i+1,by omega,by go_num,H2⟩
    case measure=>simp [intOf];omega
  · have hii:¬ (i:Int)<(n:Int):=by omega
    go_wp2_with fail
    go_ret
    exact ⟨rfl,HR.out⟩
set_option maxRecDepth 100000 in
set_option maxHeartbeats 4000000 in
theorem sheetMay_any (w:World) (s:Sv) (h:RowsR w w.heap.size (.slice s.A s.rows.length s.cap) s.rows) (ho:ShOk s)
 (hc:∀ r∈s.rows,∀ x∈r.l,∀ w1,Below w.heap.size w w1→Calls Tryz.prog 36 #[.string x] w1 fun e w'=>e = .returned (.bool true)∧Below w1.heap.size w1 w') :
 Calls Tryz.prog 14 #[.agg #[.string s.nm,.int .i64 s.cols,.slice s.A s.rows.length s.cap]] w fun e w'=>e = .returned (.bool true)∧Below w.heap.size w w':=by
 have HB:=Lib.hid (below_sh w s.nm s.cols (.slice s.A s.rows.length s.cap))
 have HS:=Lib.hid (ShAt.new w s.nm s.cols (.slice s.A s.rows.length s.cap))
 have hnm:=name_any s.nm (w.alloc (.cells #[.string s.nm,.int .i64 s.cols,.slice s.A s.rows.length s.cap] 24)) (by have:=ho.size;omega)
 rw [ho.name] at hnm
 have HNM:=Lib.hid hnm
 have HA:=Lib.hid (allFits_any (w.alloc (.cells #[.string s.nm,.int .i64 s.cols,.slice s.A s.rows.length s.cap] 24)) s.A s.rows.length s.cap s.rows s.cols (h.lift HB.out) (by have:=ho.rows;omega) ho.wide (fun r hr x hx w1 h1=>hc r hr x hx w1 (HB.out.trans (h1.mono HB.out.size))))
 have h1:=ho.low
 have h2:=ho.cols
 have h3:(s.rows.length:Int)≤24:=by have:=ho.rows;omega
 clear h hc ho hnm
 go_enter Tryz.func14,Tryz.ntmps14
 go_upto_region 1 with (fail)
 obtain ⟨w1,hw1⟩:∃ w1,w.alloc (.cells #[.string s.nm,.int .i64 s.cols,.slice s.A s.rows.length s.cap] 24)=w1:=⟨_,rfl⟩
 rw [hw1] at HS HB HNM HA ⊢
 clear hw1
 obtain ⟨y0,y1,y2⟩:=HS.out.cells
 obtain ⟨n,hn⟩:∃ n,s.rows.length=n:=⟨_,rfl⟩
 rw [hn] at y2 HA h3
 clear hn
 go_wp2_with (first
  | (go_at_call 21;((with_reducible refine HNM.out.mono ?_);rintro e w2 ⟨rfl,rfl⟩))
  | (go_at_call 22;((with_reducible refine HA.out.mono ?_);rintro e w2 ⟨rfl,h1⟩;have H2:=Lib.hid (HB.out.trans (h1.mono HB.out.size));clear h1)))
 go_ret
 exact ⟨rfl,H2.out⟩
set_option maxRecDepth 100000 in
set_option maxHeartbeats 4000000 in
theorem allMay_any (w:World) (A:Option Addr) (n cap:Nat) (shs:List Sv) (h:BkR w w.heap.size (.slice A n cap) shs) (hn:n≤1000000) (ho:∀ s∈shs,ShOk s)
 (hc:∀ s∈shs,∀ r∈s.rows,∀ x∈r.l,∀ w1,Below w.heap.size w w1→Calls Tryz.prog 36 #[.string x] w1 fun e w'=>e = .returned (.bool true)∧Below w1.heap.size w1 w') :
 Calls Tryz.prog 12 #[.slice A n cap,.func (.func 14) #[] #[]] w fun e w'=>e = .returned (.bool true)∧Below w.heap.size w w':=by
 have HL:=Lib.hid h.1.len.1;have HX:=Lib.hid h;have HC:=Lib.hid hc;have HO:=Lib.hid ho
 clear h hc ho
 go_enter Tryz.func12,Tryz.ntmps12
 go_upto_region 2 with (fail)
 go_loopw [9] (fun iv wr=>∃ i:Nat,i≤n∧iv = .int .i64 (i:Int)∧Hid (Below w.heap.size w wr))
  (fun iv _=>n - (intOf iv).toNat)
 case atStart=>exact ⟨0,Nat.zero_le _,rfl,Lib.hid (Below.refl _ _)⟩
 case round =>
  obtain ⟨i,hi,rfl,HR⟩:=hrel
  by_cases hlt:i<n
  · have hii:(i:Int)<(n:Int):=by omega
    have hi0:(0:Int)≤(i:Int):=by omega
    obtain ⟨x,hx⟩:∃ x,shs[i]? = some x:=⟨_,List.getElem?_eq_getElem (by rw [HL.out];exact hlt)⟩
    obtain ⟨pb,po,rfl,hpb,e0,e1,e2,hrx⟩:=sh_at HX.out hx
    have x0:wr.cell? ⟨pb,po+i*3,none⟩=some (.string x.nm):=(HR.out.cell (p:=⟨pb,po+i*3,none⟩) hpb).trans e0
    have x1:wr.cell? ⟨pb,po+i*3+1,none⟩=some (.int .i64 x.cols):=(HR.out.cell (p:=⟨pb,po+i*3+1,none⟩) hpb).trans e1
    have x2:wr.cell? ⟨pb,po+i*3+2,none⟩=some (.slice x.A x.rows.length x.cap):=(HR.out.cell (p:=⟨pb,po+i*3+2,none⟩) hpb).trans e2
    have HBS:=Lib.hid (below_sh wr x.nm x.cols (.slice x.A x.rows.length x.cap))
    have HNS:=Lib.hid (ShAt.new wr x.nm x.cols (.slice x.A x.rows.length x.cap))
    have HBB:=Lib.hid (show Below w.heap.size w (wr.alloc (.cells #[.string x.nm,.int .i64 x.cols,.slice x.A x.rows.length x.cap] 24)) from HR.out.trans (HBS.out.mono HR.out.size))
    have HG:=Lib.hid (sheetMay_any (wr.alloc (.cells #[.string x.nm,.int .i64 x.cols,.slice x.A x.rows.length x.cap] 24)) x ((hrx.lift HR.out).lift HBS.out) (HO.out x (List.mem_of_getElem? hx)) (fun r hr y hy w1 h1=>HC.out x (List.mem_of_getElem? hx) r hr y hy w1 (HBB.out.trans (h1.mono HBB.out.size))))
    clear e0 e1 e2 hrx hx
    go_upto_region 4 with (fail)
    clear x0 x1 x2
    obtain ⟨w1,hw1⟩:∃ w1,wr.alloc (.cells #[.string x.nm,.int .i64 x.cols,.slice x.A x.rows.length x.cap] 24)=w1:=⟨_,rfl⟩
    rw [hw1] at HBS HNS HG HBB ⊢
    clear hw1
    obtain ⟨y0,y1,y2⟩:=HNS.out.cells
    go_wp2_with (go_at_call 14;((with_reducible refine HG.out.mono ?_);rintro e w2 ⟨rfl,h1⟩;have H2:=Lib.hid (HBB.out.trans (h1.mono HBB.out.size));clear h1))
    go_roundw
    case rel=>exact ⟨i+1,by omega,by go_num,H2⟩
    case measure=>simp [intOf];omega
  · have hii:¬ (i:Int)<(n:Int):=by omega
    go_wp2_with fail
    go_ret
    exact ⟨rfl,HR.out⟩
structure BkOk (shs:List Sv):Prop where
 few:shs.length≤5
 rise:Rise ⟨#[]⟩ shs
 each:∀ s∈shs,ShOk s
set_option maxRecDepth 100000 in
set_option maxHeartbeats 4000000 in
theorem mayB_any (w:World) (A:Option Addr) (n cap:Nat) (shs:List Sv) (h:BkR w w.heap.size (.slice A n cap) shs) (ho:BkOk shs)
 (hc:∀ s∈shs,∀ r∈s.rows,∀ x∈r.l,∀ w1,Below w.heap.size w w1→Calls Tryz.prog 36 #[.string x] w1 fun e w'=>e = .returned (.bool true)∧Below w1.heap.size w1 w') :
 Calls Tryz.prog 7 #[.agg #[.slice A n cap]] w fun e w'=>e = .returned (.bool true)∧Below w.heap.size w w':=by
 have HB:=Lib.hid (below_bk w (.slice A n cap))
 have HK:=Lib.hid (BkAt.new w (.slice A n cap))
 have hn5:(n:Int)≤5:=by have h1:=ho.few;have h2:=h.1.len.1;omega
 have hn6:n≤1000000:=by omega
 have HX:=Lib.hid h;have HO:=Lib.hid ho;have HC:=Lib.hid hc
 clear h ho hc
 go_enter Tryz.func7,Tryz.ntmps7
 go_upto_region 1 with (fail)
 obtain ⟨w1,hw1⟩:∃ w1,w.alloc (.cells #[.slice A n cap] 32)=w1:=⟨_,rfl⟩
 rw [hw1] at HB HK ⊢
 clear hw1
 go_upto_region 2 with (fail)
 have HCL:=Lib.hid (show ClAt (w1.alloc (.cells #[.string ⟨#[]⟩] 46)) w1.heap.size ⟨#[]⟩ from (Go.MapKept.heap_alloc w1 _).1)
 have HB1:=Lib.hid (show Below w1.heap.size w1 (w1.alloc (.cells #[.string ⟨#[]⟩] 46)) from (Below.refl _ _).alloc (Nat.le_refl _) _)
 obtain ⟨w2,hw2⟩:∃ w2,w1.alloc (.cells #[.string ⟨#[]⟩] 46)=w2:=⟨_,rfl⟩
 rw [hw2] at HCL HB1 ⊢
 clear hw2
 have HB2:=Lib.hid (HB.out.trans (HB1.out.mono HB.out.size))
 have HR:=Lib.hid (allRise_any w2 w1.heap.size A n cap shs ((HX.out.below HB2.out (Nat.le_refl _)).mono HB.out.size) hn6 HO.out.rise HCL.out)
 have HM:=Lib.hid (fun (w3:World) (h3:Below w1.heap.size w2 w3)=>(show Below w.heap.size w w3∧_ from ⟨HB2.out.trans (h3.mono HB.out.size),allMay_any w3 A n cap shs (HX.out.lift (HB2.out.trans (h3.mono HB.out.size))) hn6 HO.out.each (fun s hs r hr x hx wq hq=>HC.out s hs r hr x hx wq ((HB2.out.trans (h3.mono HB.out.size)).trans (hq.mono (HB2.out.trans (h3.mono HB.out.size)).size)))⟩))
 have HK2:=Lib.hid (HK.out.over HB1.out)
 have hlt:w.heap.size<w1.heap.size:=HK.out.lt
 have HK3:=Lib.hid (fun (w3:World) (h3:Below w1.heap.size w2 w3)=>(show w3.cell? ⟨w.heap.size,0,none⟩=some (.slice A n cap) from (HK2.out.below h3 hlt).cell))
 have x0:=HK2.out.cell
 go_wp2_with (first
  | (go_at_call 12;((with_reducible refine HR.out.mono ?_);rintro e w3 ⟨rfl,h1⟩;have H3:=Lib.hid (HM.out w3 h1);have y0:=HK3.out w3 h1;clear h1))
  | (go_at_call 12;((with_reducible refine H3.out.2.mono ?_);rintro e w4 ⟨rfl,h1⟩;have H4:=Lib.hid (H3.out.1.trans (h1.mono H3.out.1.size));clear h1)))
 go_ret
 exact ⟨rfl,H4.out⟩
theorem bk_sizeD:(Tryz.prog.info? 32).map (·.size)=some 1:=by kernel_rfl
theorem res_two:Tryz.f11.results=#[.cell 0 32]:=by kernel_rfl
def nA1:ByteArray:=⟨#[65]⟩
def txB1:ByteArray:=⟨#[61,66,49]⟩
def txA1:ByteArray:=⟨#[61,65,49]⟩
structure TwoS (s:Sv):Prop where
 nm:s.nm=nA1
 cols:s.cols=2
 rows:∃ A c,s.rows=[⟨A,c,[txB1,txA1]⟩]
set_option maxRecDepth 100000 in
set_option maxHeartbeats 4000000 in
theorem two_any (w:World):Calls Tryz.prog 11 #[] w fun e w'=>Below w.heap.size w w'∧∃ A s,e = .returned (.agg #[.slice A 1 1])∧BkR w' w'.heap.size (.slice A 1 1) [s]∧TwoS s:=by
 have hb1:=below_bk w (.slice none 0 0)
 have hk1:=BkAt.new w (.slice none 0 0)
 obtain ⟨w1,hw1⟩:∃ w1,w.alloc (.cells #[.slice none 0 0] 32)=w1:=⟨_,rfl⟩
 rw [hw1] at hb1 hk1
 have hb2:Below w1.heap.size w1 (w1.alloc (.cells #[.string txB1,.string txA1] 9)):=(Below.refl _ _).alloc (Nat.le_refl _) _
 have hr2:RwX encTx 9 (w1.alloc (.cells #[.string txB1,.string txA1] 9)) w1.heap.size [txB1,txA1]:=(Go.MapKept.heap_alloc w1 _).1
 obtain ⟨w2,hw2⟩:∃ w2,w1.alloc (.cells #[.string txB1,.string txA1] 9)=w2:=⟨_,rfl⟩
 rw [hw2] at hb2 hr2
 have hb3:Below w2.heap.size w2 (w2.alloc (.cells #[.slice (some ⟨w1.heap.size,0,none⟩) 2 2] 26)):=(Below.refl _ _).alloc (Nat.le_refl _) _
 have hr3:RwX encRv 26 (w2.alloc (.cells #[.slice (some ⟨w1.heap.size,0,none⟩) 2 2] 26)) w2.heap.size [⟨some ⟨w1.heap.size,0,none⟩,2,[txB1,txA1]⟩]:=(Go.MapKept.heap_alloc w2 _).1
 obtain ⟨w3,hw3⟩:∃ w3,w2.alloc (.cells #[.slice (some ⟨w1.heap.size,0,none⟩) 2 2] 26)=w3:=⟨_,rfl⟩
 rw [hw3] at hb3 hr3
 have hb4:Below w3.heap.size w3 (w3.alloc (.cells #[.string nA1,.int .i64 2,.slice (some ⟨w2.heap.size,0,none⟩) 1 1] 24)):=(Below.refl _ _).alloc (Nat.le_refl _) _
 have hr4:RwX encSv 24 (w3.alloc (.cells #[.string nA1,.int .i64 2,.slice (some ⟨w2.heap.size,0,none⟩) 1 1] 24)) w3.heap.size [⟨nA1,2,some ⟨w2.heap.size,0,none⟩,1,[⟨some ⟨w1.heap.size,0,none⟩,2,[txB1,txA1]⟩]⟩]:=(Go.MapKept.heap_alloc w3 _).1
 obtain ⟨w4,hw4⟩:∃ w4,w3.alloc (.cells #[.string nA1,.int .i64 2,.slice (some ⟨w2.heap.size,0,none⟩) 1 1] 24)=w4:=⟨_,rfl⟩
 rw [hw4] at hb4 hr4
 have h12:=hb1.trans (hb2.mono hb1.size)
 have h13:=h12.trans (hb3.mono h12.size)
 have h14:=h13.trans (hb4.mono h13.size)
 have hk4:BkAt w4 w.heap.size (.slice none 0 0):=hk1.over ((hb2.trans (hb3.mono hb2.size)).trans (hb4.mono (hb2.trans (hb3.mono hb2.size)).size))
 have hs2:w.heap.size≠w1.heap.size:=by have:=hk1.lt;omega
 have hs3:w.heap.size≠w2.heap.size:=by have:=hk1.lt;have:=hb2.size;omega
 have hs4:w.heap.size≠w3.heap.size:=by have:=hk1.lt;have:=hb2.size;have:=hb3.size;omega
 have hset:∀ g,g≠w.heap.size→(w4.setCell ⟨w.heap.size,0,none⟩ (.slice (some ⟨w3.heap.size,0,none⟩) 1 1)).heap[g]? = w4.heap[g]? := fun g hg=>heap_setCell_other w4 ⟨w.heap.size,0,none⟩ g _ hg
 have r2:RwX encTx 9 (w4.setCell ⟨w.heap.size,0,none⟩ (.slice (some ⟨w3.heap.size,0,none⟩) 1 1)) w1.heap.size [txB1,txA1]:=(hr2.keep ((hb3.trans (hb4.mono hb3.size)).block _ hr2.lt)).keep (hset _ (Ne.symm hs2))
 have r3:=(hr3.keep (hb4.block _ hr3.lt)).keep (hset _ (Ne.symm hs3))
 have r4:=hr4.keep (hset _ (Ne.symm hs4))
 have hbk:BkR (w4.setCell ⟨w.heap.size,0,none⟩ (.slice (some ⟨w3.heap.size,0,none⟩) 1 1)) (w4.setCell ⟨w.heap.size,0,none⟩ (.slice (some ⟨w3.heap.size,0,none⟩) 1 1)).heap.size (.slice (some ⟨w3.heap.size,0,none⟩) 1 1) [⟨nA1,2,some ⟨w2.heap.size,0,none⟩,1,[⟨some ⟨w1.heap.size,0,none⟩,2,[txB1,txA1]⟩]⟩]:=by
  refine ⟨(r4.own (Nat.le_refl _) (show 1≤maxLen by decide)).se,fun s hs => ?_⟩
  rw [List.mem_singleton.1 hs]
  refine ⟨(r3.own (Nat.le_refl _) (show 1≤maxLen by decide)).se,fun r hr => ?_⟩
  rw [List.mem_singleton.1 hr]
  exact (r2.own (Nat.le_refl _) (show 2≤maxLen by decide)).se
 have HBK:=Lib.hid hbk
 have HBW:=Lib.hid (show Below w.heap.size w (w4.setCell ⟨w.heap.size,0,none⟩ (.slice (some ⟨w3.heap.size,0,none⟩) 1 1)) from h14.setCell (Nat.le_refl _) _)
 have HPT:=Lib.hid (show BkAt (w4.setCell ⟨w.heap.size,0,none⟩ (.slice (some ⟨w3.heap.size,0,none⟩) 1 1)) w.heap.size (.slice (some ⟨w3.heap.size,0,none⟩) 1 1) by unfold BkAt;rw [heap_setCell_same w4 w.heap.size 0 _ _ _ hk4];rfl)
 have e2:w2.heap.size=w1.heap.size+1:=by rw [← hw2];simp
 have e3:w3.heap.size=w1.heap.size+1+1:=by rw [← hw3,World.size_alloc,e2]
 have hX:((w1.alloc (.cells #[.string ⟨#[61,66,49]⟩,.string ⟨#[61,65,49]⟩] 9)).alloc (.cells #[.slice (some ⟨w1.heap.size,0,none⟩) 2 2] 26)).alloc (.cells #[.string ⟨#[65]⟩,.int .i64 2,.slice (some ⟨w1.heap.size+1,0,none⟩) 1 1] 24)=w4:=by
  show ((w1.alloc (.cells #[.string txB1,.string txA1] 9)).alloc (.cells #[.slice (some ⟨w1.heap.size,0,none⟩) 2 2] 26)).alloc (.cells #[.string nA1,.int .i64 2,.slice (some ⟨w1.heap.size+1,0,none⟩) 1 1] 24)=w4
  rw [hw2, ← e2,hw3];exact hw4
 have m0:(((w1.alloc (.cells #[.string ⟨#[61,66,49]⟩,.string ⟨#[61,65,49]⟩] 9)).alloc (.cells #[.slice (some ⟨w1.heap.size,0,none⟩) 2 2] 26)).alloc (.cells #[.string ⟨#[65]⟩,.int .i64 2,.slice (some ⟨w1.heap.size+1,0,none⟩) 1 1] 24)).frozen? ⟨w.heap.size,0,none⟩=false:=by rw [hX];exact hk4.melt
 have c0:(((w1.alloc (.cells #[.string ⟨#[61,66,49]⟩,.string ⟨#[61,65,49]⟩] 9)).alloc (.cells #[.slice (some ⟨w1.heap.size,0,none⟩) 2 2] 26)).alloc (.cells #[.string ⟨#[65]⟩,.int .i64 2,.slice (some ⟨w1.heap.size+1,0,none⟩) 1 1] 24)).cell? ⟨w.heap.size,0,none⟩=some (.slice none 0 0):=by rw [hX];exact hk4.cell
 rw [e3] at HBK HBW HPT
 have HW1:=Lib.hid hw1;have HXX:=Lib.hid hX
 clear hb1 hk1 hw1 hb2 hr2 hw2 hb3 hr3 hw3 hb4 hr4 hw4 h12 h13 h14 hk4 hs2 hs3 hs4 hset r2 r3 r4 hbk e2 e3 hX
 go_enter Tryz.func11,Tryz.ntmps11
 go_upto_region 1 with (fail)
 rw [HW1.out]
 go_wp2_with fail
 rw [HXX.out]
 refine bodyPost_ret (results_cell_row res_two _ _ w.heap.size _ _ _ _ rfl HPT.out Tryz.underlying32 rfl bk_sizeD) rfl ⟨HBW.out,_,_,rfl,HBK.out,⟨rfl,rfl,_,_,rfl⟩⟩
theorem sortB_one (x:ByteArray):sortB [x]=[x]:=by
 unfold sortB
 rw [List.map_singleton,List.mergeSort_singleton,List.map_singleton]
 show [(⟨(x.data.toList).toArray⟩:ByteArray)]=[x]
 simp
theorem compB_one (x:ByteArray):compB [x]=[x]:=by
 unfold compB
 rw [List.map_singleton,Lib.compact_all _ (fun j hj=>Lib.keeps_lt_one _ j (by simpa using hj)),List.map_singleton]
 show [(⟨(x.data.toList).toArray⟩:ByteArray)]=[x]
 simp
theorem namesL_one (a:Ar):namesL [a]=[a.sh]:=by
 unfold namesL
 rw [List.map_singleton,sortB_one,compB_one]
def arOne (ns:List Nd) (c:Int):Bool:=match areasL nA1 ns with
 | [a]=>decide (a.sh=nA1∧a.f.c=c∧a.f.r=0∧a.l.c=c∧a.l.r=0)
 | _=>false
def exB (l:List Int) (c:Int):Bool:=match lexL l with
 | none=>false
 | some ts=>match parseP 200 ts with
   | some (.ok ns)=>decide (printL ns=l)&&arOne ns c&&decide (ns.length≤1000)
   | _=>false
theorem exB_B1:exB [66,49] 1=true:=by decide +kernel
theorem exB_A1:exB [65,49] 0=true:=by decide +kernel
theorem ex_ns (t:ByteArray) (l:List Int) (c:Int) (hl:sb t=l) (h:t.size≤300) (hs:exB l c=true):∃ (ns:List Nd) (a:Ar),PIs t (.ok ns)∧printL ns=l∧areasL nA1 ns=[a]∧(a.sh=nA1∧a.f.c=c∧a.f.r=0∧a.l.c=c∧a.l.r=0)∧ns.length≤1000:=by
 subst hl
 unfold exB at hs
 split at hs
 · cases hs
 · rename_i ts hl
   split at hs
   · rename_i ns hp
     rw [Bool.and_eq_true,Bool.and_eq_true,decide_eq_true_iff,decide_eq_true_iff] at hs
     obtain ⟨⟨h1,h2⟩,h3⟩:=hs
     unfold arOne at h2
     split at h2
     · rename_i a ha
       exact ⟨ns,a,.inr (.inr ⟨h,ts,200,hl,hp⟩),h1,ha,of_decide_eq_true h2,h3⟩
     · cases h2
   · cases hs
theorem needs_one (s:Sv) (hs:TwoS s) (a:Ar) (c:Nat) (hc:c=0∨c=1) (ha:a.sh=nA1∧a.f.c=(c:Int)∧a.f.r=0∧a.l.c=(c:Int)∧a.l.r=0):needsL [s] [a]=[⟨nA1,0,c⟩]:=by
 obtain ⟨A,cp,hr⟩:=hs.rows
 obtain ⟨h1,h2,h3,h4,h5⟩:=ha
 unfold needsL
 rw [namesL_one,List.flatMap_cons,List.flatMap_nil,List.append_nil,h1]
 have hf:[s].find? (fun s=>decide (s.nm=nA1))=some s:=by rw [List.find?_cons_of_pos (by simpa using hs.nm)]
 unfold cellsOn
 rw [hf]
 have hfil:[a].filter (fun a=>decide (a.sh=nA1))=[a]:=by rw [List.filter_cons_of_pos (by simpa using h1)];rfl
 show cellsL ([a].filter fun a=>decide (a.sh=nA1)) s.nm (s.rows.map fun r=>r.l.length)=_
 rw [hfil,hr,hs.nm]
 show upC [a] nA1 [2] 1=_
 unfold upC
 rw [List.range_succ,List.range_zero,List.nil_append,List.flatMap_cons,List.flatMap_nil,List.append_nil]
 show rowC [a] nA1 0 2=_
 have hR:hasR a ((0:Nat):Int)=true:=by unfold hasR;rw [h3,h5];rfl
 have hfr:[a].filter (fun a=>hasR a ((0:Nat):Int))=[a]:=by rw [List.filter_cons];simp only [hR,if_true,List.filter_nil]
 unfold rowC
 rw [hfr]
 have hC:∀ k:Nat,([a].any fun a=>hasC a (k:Int))=decide (k=c):=fun k=>by
  rw [List.any_cons,List.any_nil,Bool.or_false]
  unfold hasC
  rw [h2,h4,decide_eq_decide]
  omega
 simp only [hC]
 rcases hc with rfl | rfl <;> rfl
def twoL:List Spt:=[⟨nA1,0,0⟩,⟨nA1,0,1⟩]
def twoN (s:Spt):List Spt:=if s.c=0 then [⟨nA1,0,1⟩] else [⟨nA1,0,0⟩]
theorem two_web:(webF twoL twoN 2).2=[1,1]:=by decide +kernel
theorem two_fs (s:Sv) (hs:TwoS s):fShs (fun _=>true) [s]=twoL:=by
 obtain ⟨A,cp,hr⟩:=hs.rows
 unfold fShs
 rw [List.flatMap_cons,List.flatMap_nil,List.append_nil,hr]
 show fRows _ s 1=_
 unfold fRows
 rw [List.range_succ,List.range_zero,List.nil_append,List.flatMap_cons,List.flatMap_nil,List.append_nil,hr,hs.nm]
 rfl
structure TxE (t:ByteArray) (c:Nat) (ns:List Nd) (a:Ar):Prop where
 size:t.size=3
 kd:kd t=2
 pis:PIs (t.extract 1 t.size) (.ok ns)
 prn:strOfNums (printL ns)=t.extract 1 t.size
 ar:areasL nA1 ns=[a]
 at_:a.sh=nA1∧a.f.c=(c:Int)∧a.f.r=0∧a.l.c=(c:Int)∧a.l.r=0
 few:ns.length≤1000
theorem txB1_e:∃ ns a,TxE txB1 1 ns a:=by
 obtain ⟨ns,a,h1,h2,h3,h4,h5⟩:=ex_ns ⟨#[66,49]⟩ [66,49] 1 (by decide) (by decide) exB_B1
 have he:txB1.extract 1 txB1.size=⟨#[66,49]⟩:=by decide +kernel
 exact ⟨ns,a,by decide,by decide +kernel,by rw [he];exact h1,by rw [he,h2];decide +kernel,h3,h4,h5⟩
theorem txA1_e:∃ ns a,TxE txA1 0 ns a:=by
 obtain ⟨ns,a,h1,h2,h3,h4,h5⟩:=ex_ns ⟨#[65,49]⟩ [65,49] 0 (by decide) (by decide) exB_A1
 have he:txA1.extract 1 txA1.size=⟨#[65,49]⟩:=by decide +kernel
 exact ⟨ns,a,by decide,by decide +kernel,by rw [he];exact h1,by rw [he,h2];decide +kernel,h3,h4,h5⟩
theorem TxE.norm {t:ByteArray} {c:Nat} {ns:List Nd} {a:Ar} (h:TxE t c ns a) (he:mkF++t.extract 1 t.size=t):NormR t t 0 :=
 .form (by rw [h.size];decide) h.kd _ rfl ns h.pis t (by rw [h.prn];exact he)
theorem TxE.form {t:ByteArray} {c:Nat} {ns:List Nd} {a:Ar} (h:TxE t c ns a) {w:World} (hx:Cx w):FormIs w t ns:=fun w1 h1 =>
 formula_nodes t _ (by rw [h.size];decide) (by rw [h.size];decide) h.kd rfl ns h.pis h.prn w1 (hx.below h1)
end Go.Proofs.YtnahgpjglooclaaGreatDoor
