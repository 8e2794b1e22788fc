/-
 Texts of layers, put together.
-/
import Derived.Test.YtnahgpjglooclaaGreatDoorDR6
import Derived.RangeFuncNested
import Derived.RangeFuncBound
import Derived.RangeFuncCalls
import Derived.RangeFuncLeaves
import Derived.Shelf.Abstract
import Derived.WalkKit
import Derived.OwnWalkIn
import Derived.TacticsInMore
import Derived.LoopNIn
import Derived.LoopIn
import Derived.Shelf.RegionOpen
import Derived.Maps.AppendAt
import Derived.OrdersIn
import Derived.OrdersHeld
import Derived.Deep.CutBlock
namespace Go.Proofs.YtnahgpjglooclaaGreatDoor
open Go.RowKit
set_option maxRecDepth 100000 in
set_option maxHeartbeats 1600000 in
theorem rankOf_any (k:Int) (w:World):Calls Tryz.prog 87 #[.int .i64 k] w fun e w'=>e = .returned (.int .i64 ((rankL k:Nat)+1:Int))∧w=w':=by
 have fin:∀ r:Nat,rankL k=r→(Calls Tryz.prog 87 #[.int .i64 k] w fun e w'=>e = .returned (.int .i64 ((r:Int)+1))∧w=w')→Calls Tryz.prog 87 #[.int .i64 k] w fun e w'=>e = .returned (.int .i64 ((rankL k:Nat)+1:Int))∧w=w':=fun r h1 h2=>by rw [h1];exact h2
 by_cases h9:k=9
 · refine fin 0 (by subst h9;rfl) ?_
   clear fin
   subst h9
   go_enter Tryz.func87,Tryz.ntmps87
   go_wp2_with fail
   go_ret
   exact ⟨rfl,rfl⟩
 by_cases h10:k=10
 · refine fin 0 (by subst h10;rfl) ?_
   clear fin
   subst h10
   go_enter Tryz.func87,Tryz.ntmps87
   go_wp2_with fail
   go_ret
   exact ⟨rfl,rfl⟩
 by_cases h11:k=11
 · refine fin 0 (by subst h11;rfl) ?_
   clear fin
   subst h11
   go_enter Tryz.func87,Tryz.ntmps87
   go_wp2_with fail
   go_ret
   exact ⟨rfl,rfl⟩
 by_cases h12:k=12
 · refine fin 0 (by subst h12;rfl) ?_
   clear fin
   subst h12
   go_enter Tryz.func87,Tryz.ntmps87
   go_wp2_with fail
   go_ret
   exact ⟨rfl,rfl⟩
 by_cases h13:k=13
 · refine fin 0 (by subst h13;rfl) ?_
   clear fin
   subst h13
   go_enter Tryz.func87,Tryz.ntmps87
   go_wp2_with fail
   go_ret
   exact ⟨rfl,rfl⟩
 by_cases h14:k=14
 · refine fin 0 (by subst h14;rfl) ?_
   clear fin
   subst h14
   go_enter Tryz.func87,Tryz.ntmps87
   go_wp2_with fail
   go_ret
   exact ⟨rfl,rfl⟩
 by_cases h15:k=15
 · refine fin 1 (by subst h15;rfl) ?_
   clear fin
   subst h15
   go_enter Tryz.func87,Tryz.ntmps87
   go_wp2_with fail
   go_ret
   exact ⟨rfl,rfl⟩
 by_cases h16:k=16
 · refine fin 2 (by subst h16;rfl) ?_
   clear fin
   subst h16
   go_enter Tryz.func87,Tryz.ntmps87
   go_wp2_with fail
   go_ret
   exact ⟨rfl,rfl⟩
 by_cases h17:k=17
 · refine fin 2 (by subst h17;rfl) ?_
   clear fin
   subst h17
   go_enter Tryz.func87,Tryz.ntmps87
   go_wp2_with fail
   go_ret
   exact ⟨rfl,rfl⟩
 by_cases h18:k=18
 · refine fin 3 (by subst h18;rfl) ?_
   clear fin
   subst h18
   go_enter Tryz.func87,Tryz.ntmps87
   go_wp2_with fail
   go_ret
   exact ⟨rfl,rfl⟩
 by_cases h19:k=19
 · refine fin 3 (by subst h19;rfl) ?_
   clear fin
   subst h19
   go_enter Tryz.func87,Tryz.ntmps87
   go_wp2_with fail
   go_ret
   exact ⟨rfl,rfl⟩
 by_cases h8:k=8
 · refine fin 4 (by subst h8;rfl) ?_
   clear fin
   subst h8
   go_enter Tryz.func87,Tryz.ntmps87
   go_wp2_with fail
   go_ret
   exact ⟨rfl,rfl⟩
 refine fin 5 (by unfold rankL;rw [if_neg (by omega),if_neg h15,if_neg (by omega),if_neg (by omega),if_neg h8]) ?_
 have e8:(k == 8)=false:=beq_eq_false_iff_ne.2 h8
 have e9:(k == 9)=false:=beq_eq_false_iff_ne.2 h9
 have e10:(k == 10)=false:=beq_eq_false_iff_ne.2 h10
 have e11:(k == 11)=false:=beq_eq_false_iff_ne.2 h11
 have e12:(k == 12)=false:=beq_eq_false_iff_ne.2 h12
 have e13:(k == 13)=false:=beq_eq_false_iff_ne.2 h13
 have e14:(k == 14)=false:=beq_eq_false_iff_ne.2 h14
 have e15:(k == 15)=false:=beq_eq_false_iff_ne.2 h15
 have e16:(k == 16)=false:=beq_eq_false_iff_ne.2 h16
 have e17:(k == 17)=false:=beq_eq_false_iff_ne.2 h17
 have e18:(k == 18)=false:=beq_eq_false_iff_ne.2 h18
 have e19:(k == 19)=false:=beq_eq_false_iff_ne.2 h19
 clear fin h8 h9 h10 h11 h12 h13 h14 h15 h16 h17 h18 h19
 go_enter Tryz.func87,Tryz.ntmps87
 go_wp2_with fail
 go_ret
 exact ⟨rfl,rfl⟩
def ptA (p:Pt):Array Value:=#[.string p.t,.int .i64 p.node,.int .i64 p.least]
theorem pt_one (p:Pt):∀ u∈(ptA p).toList,u.oneCell'=true:=by
 intro v hv
 simp only [ptA,List.mem_cons,List.not_mem_nil,or_false] at hv
 rcases hv with rfl | rfl | rfl <;> rfl
def encPt:Enc Pt 3:={ f:=fun p=>(ptA p).toList,len:=fun _=>rfl,one:=pt_one }
theorem pt_size:(Tryz.prog.info? 137).map (·.size)=some 3:=by kernel_rfl
def PtAt (w:World) (b:Nat) (p:Pt):Prop:=w.heap[b]? = some (.cells (ptA p) 137)
theorem PtAt.new (w:World) (p:Pt):PtAt (w.alloc (.cells (ptA p) 137)) w.heap.size p:=(Go.MapKept.heap_alloc w _).1
theorem out_pt {w:World} {b:Nat} {p:Pt} (h:PtAt w b p) (fn:Func) (tmps:Array Value) (s:Tmp) (hf:fn.results=#[.cell s 137]) (hp:tmps.getD s undef = .pointer (some ⟨b,0,none⟩)) :
 (results fn tmps).run Tryz.prog w = .ok (.agg (ptA p)) w :=
 results_cell_row hf tmps w b _ _ _ _ hp h Tryz.underlying137 rfl pt_size
theorem PtAt.cells {w:World} {b:Nat} {p:Pt} (h:PtAt w b p):w.cell? ⟨b,0,none⟩=some (.string p.t)∧w.cell? ⟨b,1,none⟩=some (.int .i64 p.node)∧w.cell? ⟨b,2,none⟩=some (.int .i64 p.least) :=
 ⟨by rw [cell_of_row w b 0 _ _ _ h];rfl,by rw [cell_of_row w b 1 _ _ _ h];rfl,by rw [cell_of_row w b 2 _ _ _ h];rfl⟩
theorem PtAt.melts {w:World} {b:Nat} {p:Pt} (h:PtAt w b p):w.frozen? ⟨b,0,none⟩=false∧w.frozen? ⟨b,1,none⟩=false∧w.frozen? ⟨b,2,none⟩=false:=⟨frozen_of_row w b 0 _ _ h,frozen_of_row w b 1 _ _ h,frozen_of_row w b 2 _ _ h⟩
theorem PtAt.put3 {w:World} {b:Nat} {p0:Pt} (h:PtAt w b p0) (p:Pt):PtAt (((w.setCell ⟨b,0,none⟩ (.string p.t)).setCell ⟨b,1,none⟩ (.int .i64 p.node)).setCell ⟨b,2,none⟩ (.int .i64 p.least)) b p:=by
 have h1:(w.setCell ⟨b,0,none⟩ (.string p.t)).heap[b]? = some (.cells #[.string p.t,.int .i64 p0.node,.int .i64 p0.least] 137):=by rw [heap_setCell_same w b 0 _ _ _ h];rfl
 have h2:((w.setCell ⟨b,0,none⟩ (.string p.t)).setCell ⟨b,1,none⟩ (.int .i64 p.node)).heap[b]? = some (.cells #[.string p.t,.int .i64 p.node,.int .i64 p0.least] 137):=by rw [heap_setCell_same _ b 1 _ _ _ h1];rfl
 unfold PtAt;rw [heap_setCell_same _ b 2 _ _ _ h2];rfl
theorem PtAt.keep {w w':World} {b:Nat} {p:Pt} (h:PtAt w b p) (hk:w'.heap[b]? = w.heap[b]?):PtAt w' b p:=by unfold PtAt;rw [hk];exact h
theorem Fb.ofB {w w':World} {b:Nat} (h:w.grownBy w' (some b)):Fb w w' b:=⟨h.os,h.tape,h.output,h.size,fun k hk hkb _=>h.block k hk (fun e=>hkb (Option.some.inj e))⟩
theorem grown3 {a w:World} {r:Option Nat} {z:Nat} (h:a.grownBy w r) (hz:a.heap.size≤z) (v0 v1 v2:Value):a.grownBy (((w.setCell ⟨z,0,none⟩ v0).setCell ⟨z,1,none⟩ v1).setCell ⟨z,2,none⟩ v2) r:=grownBy.setNew (grownBy.setNew (grownBy.setNew h ⟨z,0,none⟩ v0 hz) ⟨z,1,none⟩ v1 hz) ⟨z,2,none⟩ v2 hz
theorem res_plain:Tryz.f88.results=#[.cell 2 137]:=by kernel_rfl
theorem res_operand:Tryz.f62.results=#[.cell 4 137]:=by kernel_rfl
theorem res_pop:Tryz.f64.results=#[.cell 2 137]:=by kernel_rfl
set_option maxRecDepth 100000 in
set_option maxHeartbeats 1600000 in
theorem plain_any (t:ByteArray) (w:World):Calls Tryz.prog 88 #[.string t] w fun e w'=>e = .returned (.agg (ptA (Pt.plain t)))∧Below w.heap.size w w':=by
 have HN:=Lib.hid (PtAt.new w (Pt.plain t))
 have HB:=Lib.hid ((Below.refl w.heap.size w).alloc (Nat.le_refl _) (.cells (ptA (Pt.plain t)) 137))
 go_enter Tryz.func88,Tryz.ntmps88
 go_wp2_with fail
 exact bodyPost_ret (out_pt HN.out _ _ 2 res_plain rfl) rfl ⟨rfl,HB.out⟩
set_option maxRecDepth 100000 in
set_option maxHeartbeats 1600000 in
theorem operand_any (i m:Int) (w:World):Calls Tryz.prog 62 #[.int .i64 i,.int .i64 m] w fun e w'=>e = .returned (.agg (ptA (Pt.op i m)))∧Below w.heap.size w w':=by
 have HN:=Lib.hid (PtAt.new w (Pt.op i m))
 have HB:=Lib.hid ((Below.refl w.heap.size w).alloc (Nat.le_refl _) (.cells (ptA (Pt.op i m)) 137))
 go_enter Tryz.func62,Tryz.ntmps62
 go_wp2_with fail
 exact bodyPost_ret (out_pt HN.out _ _ 4 res_operand rfl) rfl ⟨rfl,HB.out⟩
def WQ (w:World) (b:Nat) (nv:Value) (st:List Pt) (txt:List Int):Prop:=∃ wv,WS w b nv wv txt∧Own encPt 137 w (b+1) wv st
theorem own_takeE {α : Type} {size:Nat} {E:Enc α size} {e:TypeId} {w:World} {base g cap:Nat} {st:List α} (h:Own E e w base (.slice (some ⟨g,0,none⟩) st.length cap) st) (k:Nat) (hk:k≤st.length):Own E e w base (.slice (some ⟨g,0,none⟩) k cap) (st.take k):=by
 have hl:(st.take k).length=k:=by rw [List.length_take];omega
 rcases h.2 with ⟨h1,_⟩ | ⟨g',cap',cur,h1,h2,h3,h4,h5,h6,h7⟩
 · cases h1
 · injection h1 with e1 e2 e3
   injection e1 with e1;injection e1 with e1
   subst e1;subst e3
   refine ⟨by rw [Enc.length_all],.inr ⟨g,cap,cur,by rw [hl],h2,h3,by omega,h5,h6, ?_⟩⟩
   have h8:(cur.toList.take (st.length*size)).take (k*size)=(E.all st).take (k*size):=by rw [h7]
   rw [List.take_take,Nat.min_eq_left (Nat.mul_le_mul_right _ hk)] at h8
   rw [hl,h8]
   conv=>lhs;rw [← List.take_append_drop k st,E.all_append]
   exact List.take_left' (by rw [E.length_all,hl])
set_option maxRecDepth 100000 in
set_option maxHeartbeats 1600000 in
theorem pop_any (w:World) (b:Nat) (nv:Value) (st:List Pt) (p:Pt) (txt:List Int) (h:WQ w b nv (st++[p]) txt) (hlen:st.length≤10000000000) :
 Calls Tryz.prog 64 #[.pointer (some ⟨b,0,none⟩)] w fun e w'=>e = .returned (.agg (ptA p))∧WQ w' b nv st txt∧Fb w w' b:=by
 obtain ⟨wv,⟨ad,bv,hw,had,ho,hby⟩,hq⟩:=h
 have hq0:=hq
 obtain ⟨g,cap,rfl,hbg,hgs,hnc,hcm⟩:=Own.some hq (by simp)
 have hlt:=hw.lt
 have hn:(st++[p]).length=st.length+1:=by simp
 obtain ⟨n,hst⟩:∃ n,st.length=n:=⟨_,rfl⟩
 have hx:(st++[p])[n]? = some p:=by rw [← hst];simp
 have k0:w.cell? ⟨g,n*3,none⟩=some (.string p.t):=Own.cells hq0 (n*3) _ (by have:=encPt.at (st++[p]) n 0 p hx (by omega);rw [Nat.add_zero] at this;rw [this];rfl)
 have k1:w.cell? ⟨g,n*3+1,none⟩=some (.int .i64 p.node):=Own.cells hq0 (n*3+1) _ (by rw [encPt.at (st++[p]) n 1 p hx (by omega)];rfl)
 have k2:w.cell? ⟨g,n*3+2,none⟩=some (.int .i64 p.least):=Own.cells hq0 (n*3+2) _ (by rw [encPt.at (st++[p]) n 2 p hx (by omega)];rfl)
 rw [hn,hst] at hq0 hnc hw
 have hg1:g<w.heap.size:=hgs
 have hn9:n≤10000000000:=by omega
 have hi1:(0:Int)≤(n:Int):=by omega
 have hi2:(n:Int)<(n:Int)+1:=by omega
 have hi3:n≤cap:=by omega
 have hi4:(n:Int)≤(cap:Int):=by omega
 obtain ⟨c0,c1,c2,c3⟩:=hw.facts
 have hB1:Below w.heap.size w (w.alloc (.cells #[.string ⟨#[]⟩,.int .i64 0,.int .i64 0] 137)):=(Below.refl _ _).alloc (Nat.le_refl _) _
 have HZ:=Lib.hid (show PtAt (w.alloc (.cells #[.string ⟨#[]⟩,.int .i64 0,.int .i64 0] 137)) w.heap.size (Pt.plain ⟨#[]⟩) from PtAt.new w (Pt.plain ⟨#[]⟩))
 have a1:=(hB1.cell (p:=⟨b,1,none⟩) hlt).trans c1
 have j0:=(hB1.cell (p:=⟨g,n*3,none⟩) hg1).trans k0
 have j1:=(hB1.cell (p:=⟨g,n*3+1,none⟩) hg1).trans k1
 have j2:=(hB1.cell (p:=⟨g,n*3+2,none⟩) hg1).trans k2
 have HB1:=Lib.hid hB1
 have HW:=Lib.hid hw;have HO:=Lib.hid ho;have HQ:=Lib.hid hq;have HBY:=Lib.hid hby
 have HST:=Lib.hid hst
 clear hB1 c0 c1 c2 c3 k0 k1 k2 hq0 hx hn hst hw ho hq hby hlen
 go_enter Tryz.func64,Tryz.ntmps64
 go_upto_region 1 with (fail)
 generalize hz:w.heap.size=z at HZ ⊢
 have hwz:w.heap.size≤z:=Nat.le_of_eq hz
 generalize (w.alloc (.cells #[.string ⟨#[]⟩,.int .i64 0,.int .i64 0] 137))=w1 at HZ HB1 a1 j0 j1 j2 ⊢
 clear hz
 have HHZP:=HZ
 go_upto_region 2 with (fail)
 have hB2:Below w1.heap.size w1 (w1.alloc (.cells #[.string p.t,.int .i64 p.node,.int .i64 p.least] 137)):=(Below.refl _ _).alloc (Nat.le_refl _) _
 have HP2:PtAt (w1.alloc (.cells #[.string p.t,.int .i64 p.node,.int .i64 p.least] 137)) w1.heap.size p:=PtAt.new w1 p
 have hb1:b<w1.heap.size:=Nat.lt_of_lt_of_le hlt HB1.out.size
 have a2:=(hB2.cell (p:=⟨b,1,none⟩) hb1).trans a1
 have HB2:=Lib.hid (HB1.out.trans (hB2.mono HB1.out.size))
 have HZ2:=Lib.hid (show PtAt (w1.alloc (.cells #[.string p.t,.int .i64 p.node,.int .i64 p.least] 137)) z (Pt.plain ⟨#[]⟩) from by
  unfold PtAt;rw [hB2.block z (Array.getElem?_eq_some_iff.1 HZ.out).1];exact HZ.out)
 clear hB2
 go_upto_region 3 with (fail)
 generalize hq2:w1.heap.size=q at HP2 ⊢
 generalize w1.alloc (.cells #[.string p.t,.int .i64 p.node,.int .i64 p.least] 137)=w2 at HP2 HB2 HZ2 a2 ⊢
 have hb2:b<w2.heap.size:=Nat.lt_of_lt_of_le hlt HB2.out.size
 have HW2:=Lib.hid (HW.out.below HB2.out hlt)
 have f1:=HW2.out.frozen 1
 clear a1 j0 j1 j2
 go_upto_region 4 with (fail)
 have HW3:=Lib.hid (HW2.out.put1 (.slice (some ⟨g,0,none⟩) n cap))
 have hqb:q≠b:=by have:=HB1.out.size;omega
 have hzb:z≠b:=by omega
 have hzq:z≠q:=by have:=(Array.getElem?_eq_some_iff.1 HHZP.out).1;omega
 have HP3:=HP2.keep (Below.heap_setCell w2 ⟨b,1,none⟩ (.slice (some ⟨g,0,none⟩) n cap) q hqb)
 have HZ3:=HZ2.out.keep (Below.heap_setCell w2 ⟨b,1,none⟩ (.slice (some ⟨g,0,none⟩) n cap) z hzb)
 have HG3:=Lib.hid (grownBy.setCell' (grownBy.below' (grownBy.refl' w (some b)) HB2.out) 1 (.slice (some ⟨g,0,none⟩) n cap))
 generalize w2.setCell ⟨b,1,none⟩ (.slice (some ⟨g,0,none⟩) n cap)=w3 at HW3 HP3 HZ3 HG3 ⊢
 obtain ⟨y0,y1,y2⟩:=HP3.cells
 obtain ⟨z0,z1,z2⟩:=HZ3.melts
 obtain ⟨u0,u1,u2⟩:=HZ3.cells
 have HZ4:=Lib.hid (HZ3.put3 p)
 have HG4:=Lib.hid (grown3 HG3.out hwz (.string p.t) (.int .i64 p.node) (.int .i64 p.least))
 have HW4:=Lib.hid (show WrAt (((w3.setCell ⟨z,0,none⟩ (.string p.t)).setCell ⟨z,1,none⟩ (.int .i64 p.node)).setCell ⟨z,2,none⟩ (.int .i64 p.least)) b nv (.slice (some ⟨g,0,none⟩) n cap) ad bv from by
  unfold WrAt
  rw [Below.heap_setCell _ ⟨z,2,none⟩ _ b (fun e=>hzb e.symm),Below.heap_setCell _ ⟨z,1,none⟩ _ b (fun e=>hzb e.symm),Below.heap_setCell _ ⟨z,0,none⟩ _ b (fun e=>hzb e.symm)]
  exact HW3.out)
 clear HP3 HZ3 f1
 go_wp2_with fail
 have hqt:=own_takeE HQ.out st.length (by simp)
 rw [List.take_left,HST.out] at hqt
 exact bodyPost_ret (out_pt HZ4.out _ _ 2 res_pop rfl) rfl ⟨rfl,⟨_,⟨ad,bv,HW4.out,had,Own.other HO.out HG4.out (Nat.lt_succ_self b),HBY.out⟩,Own.other hqt HG4.out (Nat.lt_succ_self b)⟩,Fb.ofB HG4.out⟩
end Go.Proofs.YtnahgpjglooclaaGreatDoor
namespace Go.Proofs.YtnahgpjglooclaaGreatDoor
open Go.RowKit Go.Shelf
attribute [local go_sem] Oper.semAt_some
def Twos (x y:Nat) (w w':World):Prop:=w'.heap[x]? = w.heap[x]? ∧ w'.heap[y]? = w.heap[y]?
theorem Twos.refl (x y:Nat) (w:World):Twos x y w w:=⟨rfl,rfl⟩
theorem Twos.trans {x y:Nat} {a b c:World} (h:Twos x y a b) (k:Twos x y b c):Twos x y a c:=⟨k.1.trans h.1,k.2.trans h.2⟩
theorem Twos.cell1 {x y:Nat} {w w':World} (h:Twos x y w w') (j:Nat):w'.cell? ⟨x,j,none⟩=w.cell? ⟨x,j,none⟩:=World.cell?_of_block (a:=⟨x,j,none⟩) h.1
theorem Twos.cell2 {x y:Nat} {w w':World} (h:Twos x y w w') (j:Nat):w'.cell? ⟨y,j,none⟩=w.cell? ⟨y,j,none⟩:=World.cell?_of_block (a:=⟨y,j,none⟩) h.2
theorem twosK_b {w:World} {x y:Nat} (hx:x<w.heap.size) (hy:y<w.heap.size) (W:World) (l:Nat) (o o':Obj) (hl:w.heap.size≤l) (h:W.heap[l]? = some o) (_:o.isCells=false) (_:o.isWalk=false):Twos x y W (W.putObj l o'):=by
 have hlt:=(Array.getElem?_eq_some_iff.1 h).1
 have hg:=grownBy_putObj' W l o'
 exact ⟨hg.block x (by omega) (fun e=>by have:=Option.some.inj e;omega),hg.block y (by omega) (fun e=>by have:=Option.some.inj e;omega)⟩
end Go.Proofs.YtnahgpjglooclaaGreatDoor
namespace Go.Proofs.YtnahgpjglooclaaGreatDoor
open Go.RowKit Go.Shelf
attribute [local go_sem] Oper.semAt_some
def came (ps:List Pt) (q:Nat):List (Nat × Pt):=(List.range (ps.length - q)).map fun j=>(ps.length - 1 - j,ps.getD (ps.length - 1 - j) (Pt.plain ⟨#[]⟩))
theorem came_all (ps:List Pt):came ps ps.length=[]:=by unfold came;simp
theorem came_step (ps:List Pt) (m:Nat) (p:Pt) (hp:ps[m]? = some p):came ps m=came ps (m+1)++[(m,p)]:=by
 have hl:=(List.getElem?_eq_some_iff.1 hp).1
 unfold came
 rw [show ps.length - m=(ps.length - (m+1))+1 by omega,List.range_succ,List.map_append]
 show _++[(ps.length - 1 - (ps.length - (m+1)),_)]=_
 rw [show ps.length - 1 - (ps.length - (m+1))=m by omega,List.getD_eq_getElem?_getD,hp];rfl
theorem came_len (ps:List Pt) (q:Nat):(came ps q).length=ps.length - q:=by unfold came;simp
set_option maxRecDepth 100000 in
set_option maxHeartbeats 4000000 in
theorem back1_in (F:Fence) (n:Nat) (h7:F.fn 117) (hro:F.round=none) (hn:1≤n) (l Bs b cap:Nat) (ps:List Pt) (hlen:ps.length≤1000000000) (J Jx:List (Nat × Pt)→World→Prop)
 (hY:∀ pre x W,J pre W→pre.length<ps.length→YieldAt F (n - 1) Tryz.prog l #[.int .i64 (x.1:Int),.agg (ptA x.2)] W fun e W' =>
   (e = .returned (.bool true)∧J (pre++[x]) W'∧Twos Bs b W W')∨(e = .returned (.bool false)∧Jx (pre++[x]) W'))
 (W:World) (hBs:W.cell? ⟨Bs,0,none⟩=some (.slice (some ⟨b,0,none⟩) ps.length cap)) (hc:∀ m p,ps[m]? = some p→W.cell? ⟨b,m*3,none⟩=some (.string p.t)∧W.cell? ⟨b,m*3+1,none⟩=some (.int .i64 p.node)∧W.cell? ⟨b,m*3+2,none⟩=some (.int .i64 p.least)) (h0:J [] W) :
 CallsIn F n Tryz.prog 117 #[.func (.yield l) #[] #[],.pointer (some ⟨Bs,0,none⟩)] W fun e W'=>(∃ v,e = .returned v) ∧
  ((∃ ys,ys=came ps 0∧J ys W')∨(∃ pre,True∧Jx pre W')):=by
 obtain ⟨L,hL⟩:∃ L,ps.length=L:=⟨_,rfl⟩
 have HL:=Lib.hid hL
 rw [hL] at hlen hBs
 refine callsIn_of_wp Tryz.func117 rfl h7 ?_ hro
 simp only [Tryz.ntmps117,List.size_toArray,List.length_cons,List.length_nil,Nat.reduceAdd,Nat.reduceSub,Array.replicate_succ,Array.replicate_zero,List.push_toArray,List.append_toArray,List.nil_append,List.cons_append]
 gi_wp2
 gi_loopw [3] (fun i wr=>∃ q:Nat,q≤L∧i = .int .i64 ((q:Int) - 1)∧J (came ps q) wr∧Twos Bs b W wr)
  (fun i _=>(intOf i+1).toNat)
 case atStart=>exact ⟨L,Nat.le_refl _,rfl,by rw [← hL,came_all];exact h0,Twos.refl _ _ _⟩
 case round =>
  obtain ⟨q,hq,rfl,hJs,hnx⟩:=hrel
  have hBs':=(hnx.cell1 0).trans hBs
  cases q with
  | zero =>
    gi_wp2
    go_end0
    exact ⟨⟨_,rfl⟩,.inl ⟨_,rfl,hJs⟩⟩
  | succ m =>
    obtain ⟨p,hp⟩:∃ p,ps[m]? = some p:=⟨_,List.getElem?_eq_getElem (by omega)⟩
    obtain ⟨c0,c1,c2⟩:=hc m p hp
    have d0:=(hnx.cell2 (m*3)).trans c0
    have d1:=(hnx.cell2 (m*3+1)).trans c1
    have d2:=(hnx.cell2 (m*3+2)).trans c2
    have hst:=came_step ps m p hp
    obtain ⟨fn,tmps,assign,body,hy,hR⟩:=hY _ (m,p) wr hJs (by rw [came_len];omega)
    rw [← hst] at hR
    dsimp only [ptA] at hy
    have hm1:((m+1:Nat):Int) - 1=(m:Int):=by omega
    rw [hm1]
    have hmL:(m:Int)<(L:Int):=by omega
    have hm0:(0:Int)≤(m:Int):=by omega
    clear hm1 c0 c1 c2 hc hJs hst
    gi_wp2
    refine hR.mono ?_
    rintro e W3 (⟨rfl,hJ3,hk3⟩ | ⟨rfl,hJx3⟩)
    · gi_wp2
      go_roundw
      case rel=>exact ⟨m,by omega,by simp,hJ3,hnx.trans hk3⟩
      case measure=>simp [intOf]
    · gi_wp2
      refine bodyPost_ret (results_none rfl _ _ _) rfl ?_
      exact ⟨⟨_,rfl⟩,.inr ⟨_,trivial,hJx3⟩⟩
theorem backward_in (F:Fence) (n:Nat) (h5:F.fn 85) (hro:F.round=none) (a:Option Addr) (len cap:Nat) (w:World) :
 CallsIn F n Tryz.prog 85 #[.slice a len cap] w fun e w'=>e = .returned (.func (.func 117) #[] #[.pointer (some ⟨w.heap.size,0,none⟩)])∧w.alloc (.cells #[.slice a len cap] 129)=w':=by
 refine callsIn_of_wp Tryz.func85 rfl h5 ?_ hro
 simp only [Tryz.ntmps85,List.size_toArray,List.length_cons,List.length_nil,Nat.reduceAdd,Nat.reduceSub,Array.replicate_succ,Array.replicate_zero,List.push_toArray,List.append_toArray,List.nil_append,List.cons_append]
 gi_wp2
 go_ret
 exact ⟨rfl,rfl⟩
theorem back_stops (F:Fence) (n:Nat) (h7:F.fn 117) (hro:F.round=none) (hn:1≤n) (Bs b cap:Nat) (ps:List Pt) (hlen:ps.length≤1000000000) (w:World) (hB:Bs<w.heap.size) (hb:b<w.heap.size)
 (hBs:w.cell? ⟨Bs,0,none⟩=some (.slice (some ⟨b,0,none⟩) ps.length cap)) (hc:∀ m p,ps[m]? = some p→w.cell? ⟨b,m*3,none⟩=some (.string p.t)∧w.cell? ⟨b,m*3+1,none⟩=some (.int .i64 p.node)∧w.cell? ⟨b,m*3+2,none⟩=some (.int .i64 p.least)) :
 SeqStopsK F n Tryz.prog 117 #[.pointer (some ⟨Bs,0,none⟩)] (fun x:Nat × Pt=>#[Value.int .i64 (x.1:Int),.agg (ptA x.2)]) (Twos Bs b) (fun ys=>ys=came ps 0) (fun _=>True) ps.length w:=fun l J Jx W hW _ _ hY h0 =>
 back1_in F n h7 hro hn l Bs b cap ps hlen J Jx hY W ((hW.cell hB).trans hBs) (fun m p hp=>by
  obtain ⟨c0,c1,c2⟩:=hc m p hp
  exact ⟨(hW.cell (p:=⟨b,m*3,none⟩) hb).trans c0,(hW.cell (p:=⟨b,m*3+1,none⟩) hb).trans c1,(hW.cell (p:=⟨b,m*3+2,none⟩) hb).trans c2⟩) h0
theorem came_rev:∀ (ps:List Pt) (q:Nat),q≤ps.length→(came ps q).map (·.2)=(ps.drop q).reverse:=by
 intro ps q
 induction h:ps.length - q generalizing q with
 | zero =>
   intro hq
   have:q=ps.length:=by omega
   subst this
   rw [came_all,List.drop_length];rfl
 | succ d ih =>
   intro hq
   obtain ⟨p,hp⟩:∃ p,ps[q]? = some p:=⟨_,List.getElem?_eq_getElem (by omega)⟩
   have hl:=(List.getElem?_eq_some_iff.1 hp).1
   rw [came_step ps q p hp,List.map_append,ih (q+1) (by omega) (by omega),List.drop_eq_getElem_cons hl,List.reverse_cons]
   have:ps[q]=p:=by rw [List.getElem?_eq_getElem hl] at hp;exact Option.some.inj hp
   rw [this];rfl
end Go.Proofs.YtnahgpjglooclaaGreatDoor
namespace Go.Proofs.YtnahgpjglooclaaGreatDoor
open Go.RowKit Go.Shelf
attribute [local go_sem] Oper.semAt_some
structure Fq (w w':World) (b:Nat):Prop where
 os:w'.os=w.os
 tape:w'.tape=w.tape
 output:w'.output=w.output
 size:w.heap.size≤w'.heap.size
 block:∀ k,k<w.heap.size→k≠b→(k<b∨∀ cur fr,w.heap[k]? ≠ some (.cells cur 5 fr)∧w.heap[k]? ≠ some (.cells cur 137 fr))→w'.heap[k]? = w.heap[k]?
theorem Fq.refl (w:World) (b:Nat):Fq w w b:=⟨rfl,rfl,rfl,Nat.le_refl _,fun _ _ _ _=>rfl⟩
theorem Fq.trans {w w1 w2:World} {b:Nat} (h:Fq w w1 b) (k:Fq w1 w2 b):Fq w w2 b :=
 ⟨k.os.trans h.os,k.tape.trans h.tape,k.output.trans h.output,Nat.le_trans h.size k.size,fun j hj hb hr=>by
  have h1:=h.block j hj hb hr
  rw [k.block j (Nat.lt_of_lt_of_le hj h.size) hb (hr.imp id fun hn cur fr=>by rw [h1];exact hn cur fr)]
  exact h1⟩
theorem Fq.ofB {w w':World} {b:Nat} (h:Fb w w' b):Fq w w' b:=⟨h.os,h.tape,h.output,h.size,fun k hk hb hr=>h.block k hk hb (hr.imp id fun hn cur fr=>(hn cur fr).1)⟩
theorem Fq.ofBelow {w w':World} {b:Nat} (h:Below w.heap.size w w'):Fq w w' b:=⟨h.os,h.tape,h.output,h.size,fun k hk _ _=>h.block k hk⟩
theorem Fq.stay {w A B:World} {row:Option Nat} {b:Nat} (h:Fq w A b) (hg:A.grownBy B row) (hr:∀ r,row=some r→w.heap.size≤r):Fq w B b :=
 ⟨hg.os.trans h.os,hg.tape.trans h.tape,hg.output.trans h.output,Nat.le_trans h.size hg.size,fun k hk hb h1=>by
  rw [hg.block k (Nat.lt_of_lt_of_le hk h.size) (fun e=>by have:=hr k e.symm;omega)]
  exact h.block k hk hb h1⟩
theorem cells_stay {A B:World} {row:Option Nat} (hg:A.grownBy B row) (hr:∀ r,row=some r→∃ o:Obj,A.heap[r]? = some o∧o.isCells=false) {x:Nat} {cs:Array Value} {t:TypeId} {fr:Nat × Nat} (h:A.heap[x]? = some (.cells cs t fr)):B.heap[x]? = some (.cells cs t fr):=by
 rw [hg.block x (Array.getElem?_eq_some_iff.1 h).1 (fun e=>by
  obtain ⟨o,ho,hc⟩:=hr x e.symm
  rw [h] at ho;cases ho;cases hc)]
 exact h
theorem ownStay {α : Type} {size:Nat} {E:Enc α size} {e:TypeId} {A B:World} {base:Nat} {v:Value} {xs:List α} (h:Own E e A base v xs) {row:Option Nat} (hg:A.grownBy B row) (hr:∀ r,row=some r→∃ o:Obj,A.heap[r]? = some o∧o.isCells=false):Own E e B base v xs:=by
 refine ⟨h.1, ?_⟩
 rcases h.2 with h | ⟨g,cap,cur,h1,h2,h3,h4⟩
 · exact .inl h
 · exact .inr ⟨g,cap,cur,h1,h2,cells_stay hg hr h3,h4⟩
theorem WS.stay {A B:World} {b:Nat} {nv wv:Value} {txt:List Int} (h:WS A b nv wv txt) {row:Option Nat} (hg:A.grownBy B row) (hr:∀ r,row=some r→∃ o:Obj,A.heap[r]? = some o∧o.isCells=false):WS B b nv wv txt:=by
 obtain ⟨ad,bv,h1,h2,h3,h4⟩:=h
 exact ⟨ad,bv,cells_stay hg hr h1,h2,ownStay h3 hg hr,h4⟩
def PushI (w:World) (b:Nat) (nv:Value) (st:List Pt) (txt:List Int) (lb:Nat) (pre:List (Nat × Pt)) (W:World):Prop :=
 (∃ wv,WS W b nv wv txt∧Own encPt 137 W (b+1) wv (st++pre.map (·.2))∧wv.ownBlock≠some lb)∧Boxed W w.heap.size 128 (.pointer (some ⟨b,0,none⟩))∧W.heap[lb]? = w.heap[lb]?
theorem PushI.below {w:World} {b:Nat} {nv:Value} {st:List Pt} {txt:List Int} {lb:Nat} {pre:List (Nat × Pt)} {W W':World} (h:PushI w b nv st txt lb pre W) (hb:Below W.heap.size W W') (hl:lb<W.heap.size):PushI w b nv st txt lb pre W':=by
 obtain ⟨⟨wv,h1,h2,h3⟩,h4,h5⟩:=h
 have h4':W.heap[w.heap.size]? = some (.cells #[.pointer (some ⟨b,0,none⟩)] 128):=h4
 exact ⟨⟨wv,h1.below hb,h2.below hb (Nat.le_refl _),h3⟩,(show W'.heap[w.heap.size]? = _ from (hb.block _ (Array.getElem?_eq_some_iff.1 h4').1).trans h4'),(hb.block lb hl).trans h5⟩
theorem pushI_own {w:World} {b:Nat} {nv:Value} {st:List Pt} {txt:List Int} {lb:Nat} {cs:Array Value} {fr:Nat × Nat} (hlb:w.heap[lb]? = some (.cells cs 137 fr)) (B:Nat):OwnFrom B (PushI w b nv st txt lb):=by
 rintro pre X Y row ⟨⟨wv,h1,h2,h3⟩,h4,h5⟩ hg hr
 have hr2:∀ r,row=some r→∃ o:Obj,X.heap[r]? = some o∧o.isCells=false:=fun r e=>(hr r e).2
 refine ⟨⟨wv,WS.stay h1 hg hr2,ownStay h2 hg hr2,h3⟩,boxed_own w.heap.size 128 (fun (_:Unit)=>Value.pointer (some ⟨b,0,none⟩)) () X Y row h4 hg hr2, ?_⟩
 rw [cells_stay hg hr2 (h5.trans hlb)];exact hlb.symm
end Go.Proofs.YtnahgpjglooclaaGreatDoor
namespace Go.Proofs.YtnahgpjglooclaaGreatDoor
open Go.RowKit
variable {P:Program} {ops:Array Oper} {md:Region.Mode} {l n:Nat}
def QN (N:Act→World→Prop):Exit→Act→World→Prop:=fun e a w=>e = .normal∧N a w
theorem qn_letsOut (N:Act→World→Prop):¬ LetsOut (QN N):=by
 rintro ⟨a,w,h,_⟩;cases h
theorem rows_in {row:String} {args:Array Value} {w:World} {R:Value→World→Prop} (h:Rows P row args w R):RowsIn (Fence.wide.inRound l) n P row args w R:=fun c cs _=>by
 obtain ⟨v,w',r,s⟩:=h c cs
 exact ⟨v,w',r,stepsIn_wide.2 s⟩
theorem upon_in {o:Oper} {a:Act} {K K':Act→World→Prop} (hK:∀ a w,K a w→K' a w) {Q:Exit→Act→World→Prop} {r:Result Next} (h:o.upon P a K (QN (Q .normal)) r):o.uponIn (Fence.wide.inRound l) n P a K' Q r:=by
 unfold Oper.upon at h
 split at h
 · exact hK _ _ h
 · exact hK _ _ h
 · exact hK _ _ h
 · refine ⟨fun hd=>(by cases hd),CallsIn.inRound l ((callsIn_wide.2 h).mono ?_)⟩
   rintro e w' he
   cases e with
   | returned v=>exact hK _ _ he
   | panicked c=>exact absurd he.1 (by intro h;cases h)
   | outgrown=>exact absurd he (qn_letsOut _)
 · exact ⟨fun hd=>(by cases hd),(rows_in h).mono fun v w' hv=>hK _ _ hv⟩
 · exact absurd h.1 (by intro h;cases h)
 · exact h.elim
theorem any_in {Q:Exit→Act→World→Prop} (hnd:∀ (i:Nat) (o:Oper),ops[i]? = some o→∀ c,o.op ≠ .defer c):∀ (fuel:Nat) (listed:Array Bool) (a:Act) (w:World),wpAny P md ops (QN (Q .normal)) fuel listed a w→wpAnyIn (Fence.wide.inRound l) n P md ops Q fuel listed a w
 | 0,_,_,_,h=>⟨h.1,h.2.2⟩
 | fuel + 1,listed,a,w,h=>by
   refine ⟨fun hr=>(h.1 hr).2,fun i hi => ?_⟩
   have hs:=h.2 i hi
   unfold wpOp at hs
   unfold wpOpIn
   cases ho:ops[i]? with
   | none=>rw [ho] at hs;exact any_in hnd fuel _ _ _ hs
   | some o =>
     rw [ho] at hs
     simp only at hs ⊢
     by_cases hw:Region.wanted o (yielded ops a.tmps)=true
     · rw [if_pos hw] at hs ⊢
       have hs:=hs.resolve_right (fun hx=>qn_letsOut _ hx.2)
       refine ⟨fun _ _=>trivial, ?_⟩
       rw [Oper.semAt_eq _ _ _ (hnd i o ho)]
       exact upon_in (fun a' w' h'=>any_in hnd fuel _ a' w' h') hs
     · rw [if_neg hw] at hs ⊢
       exact ⟨fun _ _=>trivial,any_in hnd fuel _ _ _ hs⟩
def noDef (ops:Array Oper):Bool:=ops.toList.all fun o=>match o.op with | .defer _=>false | _=>true
theorem noDef_spec {ops:Array Oper} (h:noDef ops=true) (i:Nat) (o:Oper) (ho:ops[i]? = some o):∀ c,o.op ≠ .defer c:=by
 intro c e
 unfold noDef at h
 rw [List.all_eq_true] at h
 have h2:=h o (by rw [← Array.getElem?_toList] at ho;exact List.mem_of_getElem? ho)
 rw [e] at h2;cases h2
theorem region_in {Q:Exit→Act→World→Prop} {id:Nat} {a:Act} {w:World} (hm:P.follows .mixedOrders=true) (hnd:noDef ops=true)
 (h:wpAny P .any ops (QN (Q .normal)) ops.size (Array.replicate ops.size false) a w.drew):(Code.region id ops true).wpIn (Fence.wide.inRound l) n P Q a w :=
 wpIn_region_any hm (any_in (fun i o ho=>noDef_spec hnd i o ho) _ _ _ _ h)
end Go.Proofs.YtnahgpjglooclaaGreatDoor
namespace Go.Proofs.YtnahgpjglooclaaGreatDoor
open Go.RowKit Go.Shelf
attribute [local go_sem] Oper.semAt_some
theorem Elem.part:Elem Tryz.prog 129 137 3 32:=⟨Tryz.underlying129,⟨.agg #[.string ⟨#[]⟩,.int .i64 0,.int .i64 0],by kernel_rfl,rfl⟩,by decide⟩
theorem app_run {P:Program} {α : Type} {size t e bytes:Nat} {w:World} (ty:TypeId) (EL:Elem P t e size bytes) (E:Enc α size) (base:Nat) (v:Value) (xs:List α) (hown:Own E e w base v xs) (ad:Addr) (m c:Nat) (ys:List α) (hl:ys.length=m)
 (hc:∀ (j:Nat) (u:Value),(E.all ys)[j]? = some u→w.cell? (ad.add j)=some u) (hb:(xs.length+m)*bytes≤140737488355328) (hb2:xs.length+m≤maxLen) (hbase:base≤w.heap.size) :
 ∃ v' w',(Builtin.append_ #[t,t] ty #[v,.slice (some ad) m c]).run P w = .ok v' w'∧Own E e w' base v' (xs++ys)∧w.grownBy w' v.ownBlock∧(v'.ownBlock=v.ownBlock∨v'.ownBlock=some w.heap.size):=by
 obtain ⟨z,hi,hz⟩:=EL.inf
 obtain ⟨i,hi1,hi2,hi3,hi4⟩:=info_parts hi
 obtain ⟨v',w',hrun,r1,r2,_,r4⟩:=run_append_own_at (P:=P) w base t ty e i z size bytes EL.und hi1 hi2 hi3 hi4 hz EL.pos v xs.length (E.all xs) hown ad m c (E.all ys) (by rw [E.length_all,hl]) hc (E.one_all ys) hb2 hb hbase
 refine ⟨v',w',hrun, ?_,r2,r4⟩
 unfold Own;rw [E.all_append,List.length_append,hl];exact r1
theorem wp_app_eq {P:Program} {t:TypeId} {w w':World} {o:Oper} {a:Act} {K:Act→World→Prop} {Q:Exit→Act→World→Prop} {v x v':Value} (s y:Operand) (ho:o.op = .call { callee := .builtin .append,args:=#[s,y],argTypes:=#[t,t] }) (hs:a.eval s=v) (hx:a.eval y=x)
 (hrun:(Builtin.append_ #[t,t] o.type #[v,x]).run P w = .ok v' w') (h:K (a.put o.dst v') w'):Oper.wp P o a w K Q:=by
 unfold Oper.wp
 simp [execOp,ho,resolve,invoke,builtin,hs,hx,hrun,Result.andThen]
 exact h
set_option maxRecDepth 100000 in
set_option maxHeartbeats 8000000 in
theorem push_any (w:World) (b:Nat) (nv:Value) (st ps:List Pt) (txt:List Int) (lb cap:Nat) (h:WQ w b nv st txt) (hps:Own encPt 137 w 0 (.slice (some ⟨lb,0,none⟩) ps.length cap) ps) (hne:∀ wv,WS w b nv wv txt→wv.ownBlock≠some lb) (hl1:ps.length≤1000000) (hl2:st.length≤2000000000) :
 Calls Tryz.prog 61 #[.pointer (some ⟨b,0,none⟩),.slice (some ⟨lb,0,none⟩) ps.length cap] w fun e w'=>e = .returned (.tuple #[])∧WQ w' b nv (st++ps.reverse) txt∧Fq w w' b:=by
 obtain ⟨wv,hws,hq⟩:=h
 have hwb:=hws.lt
 have hlt:lb<w.heap.size:=by
  rcases hps.2 with ⟨h1,_⟩ | ⟨g',cap',cur,h1,_,h3,_⟩
  · cases h1
  · injection h1 with e1;injection e1 with e1;injection e1 with e1;subst e1;exact (Array.getElem?_eq_some_iff.1 h3).1
 refine (callsIn_wide (n:=6)).1 ?_
 refine callsIn_of_wp_marks Tryz.func61 rfl trivial ?_ rfl
 simp only [Tryz.ntmps61,List.size_toArray,List.length_cons,List.length_nil,Nat.reduceAdd,Nat.reduceSub,Array.replicate_succ,Array.replicate_zero,List.push_toArray,List.append_toArray,List.nil_append,List.cons_append]
 gi_wp2_with (refine ⟨trivial, ?_⟩;gi_at_call 85;refine (backward_in Fence.wide _ trivial rfl _ _ _ _).mono ?_;rintro e w' ⟨rfl,rfl⟩)
 have bW:=(Boxed.new w 128 (.pointer (some ⟨b,0,none⟩))).alloc (.cells #[.slice (some ⟨lb,0,none⟩) ps.length cap] 129)
 have bS:=Boxed.new (w.alloc (.cells #[.pointer (some ⟨b,0,none⟩)] 128)) 129 (.slice (some ⟨lb,0,none⟩) ps.length cap)
 simp only [World.size_alloc] at bS
 have hB0:Below w.heap.size w ((w.alloc (.cells #[.pointer (some ⟨b,0,none⟩)] 128)).alloc (.cells #[.slice (some ⟨lb,0,none⟩) ps.length cap] 129)):=((Below.refl _ w).alloc (Nat.le_refl _) _).alloc (by simp) _
 have hsz:((w.alloc (.cells #[.pointer (some ⟨b,0,none⟩)] 128)).alloc (.cells #[.slice (some ⟨lb,0,none⟩) ps.length cap] 129)).heap.size=w.heap.size+2:=by simp
 obtain ⟨W0,hW0⟩:∃ W0,(w.alloc (.cells #[.pointer (some ⟨b,0,none⟩)] 128)).alloc (.cells #[.slice (some ⟨lb,0,none⟩) ps.length cap] 129)=W0:=⟨_,rfl⟩
 rw [hW0] at bW bS hB0 hsz ⊢
 clear hW0
 obtain ⟨lcs,lfr,hlrow⟩:∃ cs fr,w.heap[lb]? = some (.cells cs 137 fr):=by
  rcases hps.2 with ⟨h1,_⟩ | ⟨g',cap',cur,h1,_,h3,_⟩
  · cases h1
  · injection h1 with e1;injection e1 with e1;injection e1 with e1;subst e1;exact ⟨_,_,h3⟩
 have hcell:∀ m p,ps[m]? = some p→w.cell? ⟨lb,m*3,none⟩=some (.string p.t)∧w.cell? ⟨lb,m*3+1,none⟩=some (.int .i64 p.node)∧w.cell? ⟨lb,m*3+2,none⟩=some (.int .i64 p.least):=fun m p hp =>
  ⟨Own.cells hps (m*3) _ (by have:=encPt.at ps m 0 p hp (by omega);rw [Nat.add_zero] at this;rw [this];rfl),Own.cells hps (m*3+1) _ (by rw [encPt.at ps m 1 p hp (by omega)];rfl),Own.cells hps (m*3+2) _ (by rw [encPt.at ps m 2 p hp (by omega)];rfl)⟩
 refine wpIn_rangeFunc_ownH (F:=Fence.wide) (n:=6) rfl (by omega) (gf:=117) (lb:=#[.pointer (some ⟨w.heap.size+1,0,none⟩)]) rfl trivial (enters_of Tryz.func117 (by kernel_rfl) rfl)
  (back_stops Fence.wide 5 trivial rfl (by omega) (w.heap.size+1) lb cap ps (by omega) W0 (by omega) (by omega) bS.cell (fun m p hp=>⟨(hB0.cell (p:=⟨lb,m*3,none⟩) hlt).trans (hcell m p hp).1,(hB0.cell (p:=⟨lb,m*3+1,none⟩) hlt).trans (hcell m p hp).2.1,(hB0.cell (p:=⟨lb,m*3+2,none⟩) hlt).trans (hcell m p hp).2.2⟩))
  Twos.trans (twosK_b (by omega) (by omega)) (Below.refl _ _) (fun _=>rfl)
  (fun pre W=>PushI w b nv st txt lb pre W∧Fq w W b∧w.heap.size+2≤W.heap.size∧Boxed W (w.heap.size+1) 129 (.slice (some ⟨lb,0,none⟩) ps.length cap))
  (fun _ _ _=>False)
  ?hI (fun _ _ _ _ _ hs _ _=>hs) ?h0
  (fun x a' W=>∃ Bx,w.heap.size+1<Bx∧PtAt W Bx x.2∧(∃ wv ad bv,WrAt W b nv wv ad bv∧wv.ownBlock≠some Bx)∧a'={ tmps:=#[.pointer (some ⟨b,0,none⟩),.slice (some ⟨lb,0,none⟩) ps.length cap,.pointer (some ⟨w.heap.size,0,none⟩),undef,undef,.pointer (some ⟨Bx,0,none⟩),.slice (some ⟨lb,0,none⟩) ps.length cap,.func (.func 117) #[] #[.pointer (some ⟨w.heap.size+1,0,none⟩)],.int .i64 (x.1:Int),.agg (ptA x.2),undef,undef,undef,undef,undef,undef,undef,undef,undef,undef],defers:=[] })
  ?hAx ?assign ?body ?done ?stop
 case hI =>
  rintro pre X Y row ⟨h1,h2,h3,h4⟩ hg hr
  refine ⟨pushI_own hlrow _ pre X Y row h1 hg hr,h2.stay hg (fun r e=>by have:=(hr r e).1;omega),by have:=hg.size;omega,cells_stay hg (fun r e=>(hr r e).2) h4⟩
 case h0 =>
  refine ⟨⟨⟨wv,hws.below hB0,by rw [List.map_nil,List.append_nil];exact Own.below hq hB0 (Nat.le_refl _),hne wv hws⟩,bW,hB0.block lb hlt⟩,Fq.ofBelow hB0,by omega,bS⟩
 case hAx =>
  rintro x a' _ X Y row ⟨Bx,h1,h2,⟨wv2,ad2,bv2,h4,h5⟩,h3⟩ hg hr
  exact ⟨Bx,h1,cells_stay hg (fun r e=>(hr r e).2) h2,⟨wv2,ad2,bv2,cells_stay hg (fun r e=>(hr r e).2) h4,h5⟩,h3⟩
 case assign =>
  rintro l pre ⟨j,p⟩ W K ⟨hI,hF,hz,hbs⟩ hK
  dsimp only [ptA]
  gi_wp2
  have hal:Below W.heap.size W (W.alloc (.cells (ptA p) 137)):=(Below.refl _ _).alloc (Nat.le_refl _) _
  have newAx:∃ wv ad bv,WrAt (W.alloc (.cells (ptA p) 137)) b nv wv ad bv∧wv.ownBlock≠some W.heap.size:=by
   obtain ⟨⟨wv2,⟨ad2,bv2,g1,g2,g3,g4⟩,g5,g6⟩, -, -⟩:=hI
   exact ⟨wv2,ad2,bv2,g1.below hal g1.lt,fun e=>by have:=(Own.blockLt g5 _ e).2.1;omega⟩
  exact hK _ _ ((KeepsOthers.alloc _ _).from _) ⟨hal.block _ (by omega),hal.block _ (by omega)⟩ ⟨hI.below hal (by omega),hF.trans (Fq.ofBelow hal),by simp;omega,hbs.alloc _⟩ ⟨W.heap.size,by omega,PtAt.new W p,newAx,rfl⟩
 case body =>
  rintro l pre ⟨j,p⟩ a' W hl ⟨r,hr⟩ ⟨⟨⟨wv1,⟨ad,bv,hw1,had1,ho1,hby1⟩,hq1,hne1⟩,hbx,hlbs⟩,hF,hz,hbs⟩ ⟨Bx,hBx,hpt,⟨wv2,ad2,bv2,hw2',hneB⟩,rfl⟩ hlt2
  have hwe:wv2=wv1:=by
   have e:W.heap[b]? = some (.cells #[nv,wv1,ad,bv] 134):=hw1
   have e2:W.heap[b]? = some (.cells #[nv,wv2,ad2,bv2] 134):=hw2'
   rw [e] at e2;injection e2 with e2;injection e2 with e2;simp at e2;exact e2.1.symm
  subst hwe
  obtain ⟨c0,c1,c2,c3⟩:=hw1.facts
  have f1:=hw1.frozen 1
  have cB:=hbx.cell
  obtain ⟨y0,y1,y2⟩:=hpt.cells
  have hWb:=hw1.lt
  have hbW:b<w.heap.size:=hwb
  have hBxW:Bx<W.heap.size:=(Array.getElem?_eq_some_iff.1 hpt).1
  have hnl:(st++pre.map (·.2)).length≤3000000000:=by rw [List.length_append,List.length_map];omega
  have hq1':Own encPt 137 ((W.alloc (.cells #[.string p.t,.int .i64 p.node,.int .i64 p.least] 137)).drew) (b+1) wv2 (st++pre.map (·.2)):=(hq1.alloc _).drew
  obtain ⟨v',w',hrun,hown,hgr,hat⟩:=app_run 129 Elem.part encPt (b+1) wv2 _ hq1' ⟨W.heap.size,0,none⟩ 1 1 [p] rfl (fun j u hu=>cells_new (w:=W) _ _ _ rfl j u hu) (by omega) (by unfold maxLen;omega) (by simp;omega)
  have hgb:some b≠wv2.ownBlock:=fun e=>by have:=(Own.blockLt hq1 b e.symm).1;omega
  have hgw:some w.heap.size≠wv2.ownBlock:=fun e=>by
   obtain ⟨-, -,cur,hcur⟩:=Own.blockLt hq1 _ e.symm
   have h2:W.heap[w.heap.size]? = some (.cells #[.pointer (some ⟨b,0,none⟩)] 128):=hbx
   rw [h2] at hcur;injection hcur with hcur;injection hcur with _ ht;exact absurd ht (by decide)
  have hgB:some Bx≠wv2.ownBlock:=fun e=>hneB e.symm
  have kd:∀ (ad:Addr) {u:Value},ad.block<W.heap.size→some ad.block≠wv2.ownBlock→((W.alloc (.cells #[.string p.t,.int .i64 p.node,.int .i64 p.least] 137)).drew).cell? ad=some u→w'.cell? ad=some u:=fun ad u h1 h2 h3=>(World.cell?_of_block (hgr.block ad.block (by simp;omega) h2)).trans h3
  have hw2:WrAt w' b nv wv2 ad bv:=by
   unfold WrAt;rw [hgr.block b (by simp;omega) hgb];exact hw1.below ((Below.refl _ _).alloc (Nat.le_refl _) _).drew hw1.lt
  have hlbb:lb≠b:=fun e=>by
   have e1:W.heap[b]? = some (.cells #[nv,_,ad,bv] 134):=hw1
   rw [← e,hlbs,hlrow] at e1;injection e1 with e1;injection e1 with _ e2;exact absurd e2 (by decide)
  have hg1x:some (w.heap.size+1)≠wv2.ownBlock:=fun e=>by
   obtain ⟨-, -,cur,hcur⟩:=Own.blockLt hq1 _ e.symm
   have h2:W.heap[w.heap.size+1]? = some (.cells #[.slice (some ⟨lb,0,none⟩) ps.length cap] 129):=hbs
   rw [h2] at hcur;injection hcur with hcur;injection hcur with _ ht;exact absurd ht (by decide)
  have hsame:∀ k,k<W.heap.size→some k≠wv2.ownBlock→w'.heap[k]? = W.heap[k]? := fun k h1 h2=>(hgr.block k (by simp;omega) h2).trans (((Below.refl W.heap.size W).alloc (Nat.le_refl _) (.cells #[.string p.t,.int .i64 p.node,.int .i64 p.least] 137)).drew.block k h1)
  have hbv8:Own8 w' (b+1) bv txt:=Own.keep ho1 fun g hg1 hg2 hg3=>hsame g hg2 (fun e=>by
   obtain ⟨-, -,cur,hcur⟩:=Own.blockLt hq1 _ e.symm
   obtain ⟨-,cur2,fr2,hcur2⟩:=own_row8 ho1 g hg3
   rw [hcur2] at hcur;injection hcur with hcur;injection hcur with _ ht;exact absurd ht (by decide))
  have hsz':W.heap.size≤w'.heap.size:=by have:=hgr.size;simp at this;omega
  have hke:KeepsOthers W w':=((KeepsOthers.alloc W (.cells #[.string p.t,.int .i64 p.node,.int .i64 p.least] 137)).trans (KeepsOthers.drew _)).trans (KeepsOthers.of_grownBy hgr (fun j o hj ho=>by
   obtain ⟨-, -,cur,hcur⟩:=Own.blockLt hq1' _ hj
   rw [hcur] at ho;cases ho;rfl))
  have hfq:Fq W w' b:=⟨hgr.os,hgr.tape,hgr.output,hsz',fun k hk hkb hr=>hsame k hk (fun e=>by
   obtain ⟨h1, -,cur,hcur⟩:=Own.blockLt hq1 _ e.symm
   rcases hr with hr | hr
   · omega
   · exact (hr cur _).2 hcur)⟩
  have hnl2:∀ v2:Value,(v2.ownBlock=wv2.ownBlock∨v2.ownBlock=some ((W.alloc (.cells #[.string p.t,.int .i64 p.node,.int .i64 p.least] 137)).drew).heap.size)→v2.ownBlock≠some lb:=fun v2 h e=>by
   rcases h with h | h
   · rw [h] at e;exact hne1 e
   · rw [h] at e;have:=Option.some.inj e;simp at this;omega
  obtain ⟨ao,n1,cap1,rfl⟩:=own_slice hq1
  obtain ⟨ao',n2,cap2,rfl⟩:=own_slice hown
  have HRUN:=Lib.hid hrun
  have hmx:Tryz.prog.follows .mixedOrders=true:=by kernel_rfl
  clear hrun
  dsimp only at y0 y1 y2
  have hal:Below W.heap.size W ((W.alloc (.cells #[.string p.t,.int .i64 p.node,.int .i64 p.least] 137)).drew):=((Below.refl _ _).alloc (Nat.le_refl _) _).drew
  gi_wp2
  have BE:KeepsFrom (w.heap.size+2) W (w'.setCell ⟨b,1,none⟩ (.slice ao' n2 cap2))∧Twos (w.heap.size+1) lb W (w'.setCell ⟨b,1,none⟩ (.slice ao' n2 cap2))∧(PushI w b nv st txt lb (pre++[(j,p)]) (w'.setCell ⟨b,1,none⟩ (.slice ao' n2 cap2))∧Fq w (w'.setCell ⟨b,1,none⟩ (.slice ao' n2 cap2)) b∧w.heap.size+2≤(w'.setCell ⟨b,1,none⟩ (.slice ao' n2 cap2)).heap.size∧Boxed (w'.setCell ⟨b,1,none⟩ (.slice ao' n2 cap2)) (w.heap.size+1) 129 (.slice (some ⟨lb,0,none⟩) ps.length cap)):=by
   have gs:=grownBy.setCell' (grownBy.refl' w' (some b)) 1 (.slice ao' n2 cap2)
   have s1:(w'.setCell ⟨b,1,none⟩ (.slice ao' n2 cap2)).heap[w.heap.size+1]? = W.heap[w.heap.size+1]? := (Below.heap_setCell w' ⟨b,1,none⟩ _ _ (by show w.heap.size+1≠b;omega)).trans (hsame _ (by omega) hg1x)
   have s0:(w'.setCell ⟨b,1,none⟩ (.slice ao' n2 cap2)).heap[w.heap.size]? = W.heap[w.heap.size]? := (Below.heap_setCell w' ⟨b,1,none⟩ _ _ (by show w.heap.size≠b;omega)).trans (hsame _ (by omega) hgw)
   have sl:(w'.setCell ⟨b,1,none⟩ (.slice ao' n2 cap2)).heap[lb]? = W.heap[lb]? := (Below.heap_setCell w' ⟨b,1,none⟩ _ _ hlbb).trans (hsame _ (by omega) (fun e=>hne1 e.symm))
   refine ⟨(hke.trans (KeepsOthers.setCell _ _ _)).from _,⟨s1,sl⟩,⟨⟨.slice ao' n2 cap2,⟨ad,bv,hw2.put1 _,had1,Own.other hbv8 gs (Nat.lt_succ_self b),hby1⟩, ?_,hnl2 _ hat⟩,s0.trans hbx,sl.trans hlbs⟩,(hF.trans hfq).trans (Fq.ofB (Fb.ofB gs)),by have:=gs.size;omega,s1.trans hbs⟩
   rw [List.map_append, ← List.append_assoc]
   exact Own.other hown gs (Nat.lt_succ_self b)
  have HS3:(fun w'=>w'.cell? ⟨w.heap.size,0,none⟩=some (.pointer (some ⟨b,0,none⟩))∧w'.cell? ⟨Bx,0,none⟩=some (.string p.t)∧w'.cell? ⟨Bx,1,none⟩=some (.int .i64 p.node)∧w'.cell? ⟨Bx,2,none⟩=some (.int .i64 p.least)) (w'.setCell ⟨b,1,none⟩ (.slice ao' n2 cap2)):=by
   have gs:=grownBy.setCell' (grownBy.refl' w' (some b)) 1 (.slice ao' n2 cap2)
   have kc:∀ (ad:Addr) {u:Value},ad.block<W.heap.size→ad.block≠b→w'.cell? ad=some u→(w'.setCell ⟨b,1,none⟩ (.slice ao' n2 cap2)).cell? ad=some u:=fun ad u h0 h1 h2=>(World.cell?_of_block (Below.heap_setCell w' ⟨b,1,none⟩ _ ad.block h1)).trans h2
   exact ⟨kc ⟨w.heap.size,0,none⟩ (by show w.heap.size<_;omega) (by show w.heap.size≠b;omega) (kd ⟨w.heap.size,0,none⟩ (by show w.heap.size<_;omega) hgw ((hal.cell (p:=⟨w.heap.size,0,none⟩) (show w.heap.size<W.heap.size by omega)).trans cB)),kc ⟨Bx,0,none⟩ hBxW (by show Bx≠b;omega) (kd ⟨Bx,0,none⟩ hBxW hgB ((hal.cell (p:=⟨Bx,0,none⟩) hBxW).trans y0)),kc ⟨Bx,1,none⟩ hBxW (by show Bx≠b;omega) (kd ⟨Bx,1,none⟩ hBxW hgB ((hal.cell (p:=⟨Bx,1,none⟩) hBxW).trans y1)),kc ⟨Bx,2,none⟩ hBxW (by show Bx≠b;omega) (kd ⟨Bx,2,none⟩ hBxW hgB ((hal.cell (p:=⟨Bx,2,none⟩) hBxW).trans y2))⟩
  have HS0:(fun w'=>w'.cell? ⟨w.heap.size,0,none⟩=some (.pointer (some ⟨b,0,none⟩))∧w'.cell? ⟨Bx,0,none⟩=some (.string p.t)∧w'.cell? ⟨Bx,1,none⟩=some (.int .i64 p.node)∧w'.cell? ⟨Bx,2,none⟩=some (.int .i64 p.least)) W.drew:=⟨cB,y0,y1,y2⟩
  have HS1:(fun w'=>w'.cell? ⟨w.heap.size,0,none⟩=some (.pointer (some ⟨b,0,none⟩))∧w'.cell? ⟨Bx,0,none⟩=some (.string p.t)∧w'.cell? ⟨Bx,1,none⟩=some (.int .i64 p.node)∧w'.cell? ⟨Bx,2,none⟩=some (.int .i64 p.least)) ((W.alloc (.cells #[.string p.t,.int .i64 p.node,.int .i64 p.least] 137)).drew):=⟨(hal.cell (p:=⟨w.heap.size,0,none⟩) (show w.heap.size<W.heap.size by omega)).trans cB,(hal.cell (p:=⟨Bx,0,none⟩) hBxW).trans y0,(hal.cell (p:=⟨Bx,1,none⟩) hBxW).trans y1,(hal.cell (p:=⟨Bx,2,none⟩) hBxW).trans y2⟩
  refine region_in (by kernel_rfl) (by kernel_rfl) (wpAny_of_held (S:=fun w'=>w'.cell? ⟨w.heap.size,0,none⟩=some (.pointer (some ⟨b,0,none⟩))∧w'.cell? ⟨Bx,0,none⟩=some (.string p.t)∧w'.cell? ⟨Bx,1,none⟩=some (.int .i64 p.node)∧w'.cell? ⟨Bx,2,none⟩=some (.int .i64 p.least)) _ _ _ _ ?_)
  show wpAnyH _ _ _ _ _ 11 #[false,false,false,false,false,false,false,false,false,false,false] _ _
  refine hT 0 HS0 ?_ (hy:=by (intro wS hSw;obtain ⟨e1,e2,e3,e4⟩:=hSw;go_simp;try (with_reducible rfl)))
  refine hT 1 HS0 ?_ (hy:=by (intro wS hSw;obtain ⟨e1,e2,e3,e4⟩:=hSw;go_simp;try (with_reducible rfl)))
  refine hT 2 HS0 ?_
  refine hT 3 HS0 ?_
  refine hT 5 HS0 ?_ (hy:=by (intro wS hSw;obtain ⟨e1,e2,e3,e4⟩:=hSw;go_simp;try (with_reducible rfl)))
  have d1:((W.alloc (.cells #[.string p.t,.int .i64 p.node,.int .i64 p.least] 137)).drew).cell? ⟨b,1,none⟩=some (.slice ao n1 cap1):=(hal.cell (p:=⟨b,1,none⟩) hWb).trans c1
  have HS2:(fun w'=>w'.cell? ⟨w.heap.size,0,none⟩=some (.pointer (some ⟨b,0,none⟩))∧w'.cell? ⟨Bx,0,none⟩=some (.string p.t)∧w'.cell? ⟨Bx,1,none⟩=some (.int .i64 p.node)∧w'.cell? ⟨Bx,2,none⟩=some (.int .i64 p.least)) w':=⟨kd ⟨w.heap.size,0,none⟩ (by show w.heap.size<_;omega) hgw HS1.1,kd ⟨Bx,0,none⟩ hBxW hgB HS1.2.1,kd ⟨Bx,1,none⟩ hBxW hgB HS1.2.2.1,kd ⟨Bx,2,none⟩ hBxW hgB HS1.2.2.2⟩
  have f1':w'.frozen? ⟨b,1,none⟩=false:=hw2.frozen 1
  have g1':w'.cell? ⟨b,1,none⟩=some (.slice ao n1 cap1):=hw2.facts.2.1
  refine wpAnyH_ready (rs:=[4,6]) (by kernel_rfl) (by simp) (AllReadyH.cons rfl (fun K hK => ?_) (AllReadyH.cons rfl (fun K hK => ?_) AllReadyH.nil))
  · rw [if_pos (by rfl)]
    go_simp
    refine hK _ _ HS0 (fun _ => ?_)
    clear hK K
    simp only [List.setIfInBounds_toArray,List.set_cons_zero,List.set_cons_succ]
    refine hO 6 (fun K hK => ?_)
    go_simp
    refine hK.out _ _ HS1 ?_
    clear hK K
    simp only [Act.put,sT,sZ,sS]
    refine hO 7 (fun K hK => ?_)
    refine wp_app_eq (.tmp 14) (.tmp 16) rfl rfl rfl HRUN.out ?_
    refine hK.out _ _ HS2 ?_
    clear hK K
    simp only [Act.put,sT,sZ,sS]
    refine hT 8 HS2 ?_
    refine hT 9 HS2 ?_
    refine hO 10 (fun K hK => ?_)
    go_simp
    refine hK.out undef _ HS3 ?_
    clear hK K
    simp only [Act.put]
    refine wpAnyH_done (by kernel_rfl) ?_ _
    refine ⟨rfl, ?_⟩
    gi_wp2
    exact BE
  · rw [if_pos (by rfl)]
    go_simp
    refine hK _ _ HS1 (fun _ => ?_)
    clear hK K
    simp only [List.setIfInBounds_toArray,List.set_cons_zero,List.set_cons_succ]
    refine hO 4 (fun K hK => ?_)
    go_simp
    refine hK.out _ _ HS1 ?_
    clear hK K
    simp only [Act.put,sT,sZ,sS]
    refine hO 7 (fun K hK => ?_)
    refine wp_app_eq (.tmp 14) (.tmp 16) rfl rfl rfl HRUN.out ?_
    refine hK.out _ _ HS2 ?_
    clear hK K
    simp only [Act.put,sT,sZ,sS]
    refine hT 8 HS2 ?_
    refine hT 9 HS2 ?_
    refine hO 10 (fun K hK => ?_)
    go_simp
    refine hK.out undef _ HS3 ?_
    clear hK K
    simp only [Act.put]
    refine wpAnyH_done (by kernel_rfl) ?_ _
    refine ⟨rfl, ?_⟩
    gi_wp2
    exact BE
 case done =>
  rintro D ys W hD rfl ⟨⟨⟨wv1,h1,h2, -⟩, -, -⟩,hF,hz, -⟩ hK
  gi_wp2
  have hg:=grownBy_putObj' W D (.deferred none)
  have hr:∀ r,some D=some r→∃ o:Obj,W.heap[r]? = some o∧o.isCells=false:=fun r e=>by cases e;exact ⟨_,hK,rfl⟩
  refine ⟨by simp,.inl ⟨_,_,rfl,run_takeDeferred hK, ?_⟩⟩
  rw [came_rev ps 0 (Nat.zero_le _),List.drop_zero] at h2
  exact ⟨_,results_none rfl _ _ _,rfl,⟨wv1,WS.stay h1 hg hr,ownStay h2 hg hr⟩,hF.stay hg (fun r e=>by cases e;omega)⟩
 case stop =>
  rintro D c pre W _ _ h _
  exact h.elim
end Go.Proofs.YtnahgpjglooclaaGreatDoor
namespace Go.Proofs.YtnahgpjglooclaaGreatDoor
open Go.RowKit
def methS (k:Int):Nat:=if k=1 then 119 else if k=2 then 120 else if k=3 then 121 else if k=4 then 122 else if k=5 then 123 else if k=6 then 124 else if k=7 then 125 else if k=8 then 126 else 127
set_option maxRecDepth 100000 in
set_option maxHeartbeats 1600000 in
theorem methodS_any (k:Int) (w:World):Calls Tryz.prog 89 #[.int .i64 k] w fun e w'=>e = .returned (.func (.func (methS k)) #[] #[])∧w=w':=by
 have fin:∀ r:Nat,methS k=r→(Calls Tryz.prog 89 #[.int .i64 k] w fun e w'=>e = .returned (.func (.func r) #[] #[])∧w=w')→Calls Tryz.prog 89 #[.int .i64 k] w fun e w'=>e = .returned (.func (.func (methS k)) #[] #[])∧w=w':=fun r h1 h2=>by rw [h1];exact h2
 by_cases h1:k=1
 · refine fin 119 (by subst h1;rfl) ?_
   clear fin
   subst h1
   go_enter Tryz.func89,Tryz.ntmps89
   go_wp2_with fail
   go_ret
   exact ⟨rfl,rfl⟩
 by_cases h2:k=2
 · refine fin 120 (by subst h2;rfl) ?_
   clear fin
   subst h2
   go_enter Tryz.func89,Tryz.ntmps89
   go_wp2_with fail
   go_ret
   exact ⟨rfl,rfl⟩
 by_cases h3:k=3
 · refine fin 121 (by subst h3;rfl) ?_
   clear fin
   subst h3
   go_enter Tryz.func89,Tryz.ntmps89
   go_wp2_with fail
   go_ret
   exact ⟨rfl,rfl⟩
 by_cases h4:k=4
 · refine fin 122 (by subst h4;rfl) ?_
   clear fin
   subst h4
   go_enter Tryz.func89,Tryz.ntmps89
   go_wp2_with fail
   go_ret
   exact ⟨rfl,rfl⟩
 by_cases h5:k=5
 · refine fin 123 (by subst h5;rfl) ?_
   clear fin
   subst h5
   go_enter Tryz.func89,Tryz.ntmps89
   go_wp2_with fail
   go_ret
   exact ⟨rfl,rfl⟩
 by_cases h6:k=6
 · refine fin 124 (by subst h6;rfl) ?_
   clear fin
   subst h6
   go_enter Tryz.func89,Tryz.ntmps89
   go_wp2_with fail
   go_ret
   exact ⟨rfl,rfl⟩
 by_cases h7:k=7
 · refine fin 125 (by subst h7;rfl) ?_
   clear fin
   subst h7
   go_enter Tryz.func89,Tryz.ntmps89
   go_wp2_with fail
   go_ret
   exact ⟨rfl,rfl⟩
 by_cases h8:k=8
 · refine fin 126 (by subst h8;rfl) ?_
   clear fin
   subst h8
   go_enter Tryz.func89,Tryz.ntmps89
   go_wp2_with fail
   go_ret
   exact ⟨rfl,rfl⟩
 refine fin 127 (by unfold methS;rw [if_neg h1,if_neg h2,if_neg h3,if_neg h4,if_neg h5,if_neg h6,if_neg h7,if_neg h8]) ?_
 have e1:(k == 1)=false:=beq_eq_false_iff_ne.2 h1
 have e2:(k == 2)=false:=beq_eq_false_iff_ne.2 h2
 have e3:(k == 3)=false:=beq_eq_false_iff_ne.2 h3
 have e4:(k == 4)=false:=beq_eq_false_iff_ne.2 h4
 have e5:(k == 5)=false:=beq_eq_false_iff_ne.2 h5
 have e6:(k == 6)=false:=beq_eq_false_iff_ne.2 h6
 have e7:(k == 7)=false:=beq_eq_false_iff_ne.2 h7
 have e8:(k == 8)=false:=beq_eq_false_iff_ne.2 h8
 clear fin h1 h2 h3 h4 h5 h6 h7 h8
 go_enter Tryz.func89,Tryz.ntmps89
 go_wp2_with fail
 go_ret
 exact ⟨rfl,rfl⟩
theorem WQ.below {w w':World} {b:Nat} {nv:Value} {st:List Pt} {txt:List Int} (h:WQ w b nv st txt) (hb:Below w.heap.size w w'):WQ w' b nv st txt:=by
 obtain ⟨wv,h1,h2⟩:=h;exact ⟨wv,h1.below hb,h2.below hb (Nat.le_refl _)⟩
theorem WQ.wrote {w w':World} {b:Nat} {nv wv:Value} {st:List Pt} {txt:List Int} (h:Own encPt 137 w (b+1) wv st) (hs:WS w' b nv wv txt) (hf:Fb w w' b):WQ w' b nv st txt :=
 ⟨wv,hs,Own.keep h fun g h1 h2 h3=>hf.block g h2 (by omega) (.inr fun cur fr e=>by
  obtain ⟨-, -,cur2,hc⟩:=Own.blockLt h g h3
  rw [hc] at e;injection e with e;injection e with _ e2;exact absurd e2 (by decide))⟩
def Wrote (w:World) (b:Nat) (nv:Value) (st:List Pt) (txt:List Int) (n:Nd) (e:Ending) (w':World):Prop :=
 e = .returned (.tuple #[])∧WQ w' b nv (st++(stepN n).2.reverse) (txt++(stepN n).1)∧Fq w w' b
theorem Wrote.of {w w1 w2:World} {b:Nat} {nv wv:Value} {st:List Pt} {txt txt':List Int} {n:Nd} (hb:Below w.heap.size w w1) (h:Own encPt 137 w1 (b+1) wv st) (hs:WS w2 b nv wv txt') (hf:Fb w1 w2 b) (h1:(stepN n).2=[]) (h2:txt'=txt++(stepN n).1):Wrote w b nv st txt n (.returned (.tuple #[])) w2:=by
 refine ⟨rfl, ?_,(Fq.ofBelow hb).trans (Fq.ofB hf)⟩
 rw [h1, ← h2,List.reverse_nil,List.append_nil]
 exact WQ.wrote h hs hf
set_option maxRecDepth 100000 in
set_option maxHeartbeats 2000000 in
theorem dead_node (w:World) (b:Nat) (nv:Value) (st:List Pt) (txt:List Int) (n:Nd) (A:Option Addr) (m c:Nat) (h:WQ w b nv st txt) (hk:n.kind=4) (hl:txt.length≤1000000000) :
 Calls Tryz.prog 122 #[.pointer (some ⟨b,0,none⟩),.agg #[.int .i64 n.kind,.int .i64 n.num,.string n.text,.string n.ref.sh,.int .i64 n.ref.c,.int .i64 n.ref.r,.bool n.ref.ac,.bool n.ref.ar,.string n.zto.sh,.int .i64 n.zto.c,.int .i64 n.zto.r,.bool n.zto.ac,.bool n.zto.ar,.slice A m c]] w (Wrote w b nv st txt n):=by
 have hB:Below w.heap.size w (w.alloc (.cells #[.int .i64 n.kind,.int .i64 n.num,.string n.text,.string n.ref.sh,.int .i64 n.ref.c,.int .i64 n.ref.r,.bool n.ref.ac,.bool n.ref.ar,.string n.zto.sh,.int .i64 n.zto.c,.int .i64 n.zto.r,.bool n.zto.ac,.bool n.zto.ar,.slice A m c] 100)):=(Below.refl _ _).alloc (Nat.le_refl _) _
 have hs:stepN n=([35,82,69,70,33],[]):=by unfold stepN;rw [if_neg (by omega),if_neg (by omega),if_neg (by omega),if_pos hk]
 have HS:=Lib.hid hs
 have HB:=Lib.hid hB
 obtain ⟨wv,h1,h2⟩:=h.below hB
 have HO:=Lib.hid h2
 have HW:=Lib.hid (write_any _ b nv wv txt ⟨#[35,82,69,70,33]⟩ h1 (by show txt.length+5≤_;omega))
 clear h h1 h2 hB hs hk
 go_enter Tryz.func122,Tryz.ntmps122
 go_wp2_with (go_at_call 86;((with_reducible refine HW.out.mono ?_);rintro e w2 ⟨⟨x,rfl⟩,h3,h4⟩;have H3:=Lib.hid h3;have H4:=Lib.hid h4;clear h3 h4))
 go_end0
 exact Wrote.of HB.out HO.out H3.out H4.out (by rw [HS.out]) (by rw [HS.out,show sb ⟨#[35,82,69,70,33]⟩=[35,82,69,70,33] by decide])
set_option maxRecDepth 100000 in
set_option maxHeartbeats 2000000 in
theorem truth_yes (w:World) (b:Nat) (nv:Value) (st:List Pt) (txt:List Int) (n:Nd) (A:Option Addr) (m c:Nat) (h:WQ w b nv st txt) (hk:n.kind=3) (hv:n.num=1) (hl:txt.length≤1000000000) :
 Calls Tryz.prog 121 #[.pointer (some ⟨b,0,none⟩),.agg #[.int .i64 n.kind,.int .i64 n.num,.string n.text,.string n.ref.sh,.int .i64 n.ref.c,.int .i64 n.ref.r,.bool n.ref.ac,.bool n.ref.ar,.string n.zto.sh,.int .i64 n.zto.c,.int .i64 n.zto.r,.bool n.zto.ac,.bool n.zto.ar,.slice A m c]] w (Wrote w b nv st txt n):=by
 have hB:Below w.heap.size w (w.alloc (.cells #[.int .i64 n.kind,.int .i64 n.num,.string n.text,.string n.ref.sh,.int .i64 n.ref.c,.int .i64 n.ref.r,.bool n.ref.ac,.bool n.ref.ar,.string n.zto.sh,.int .i64 n.zto.c,.int .i64 n.zto.r,.bool n.zto.ac,.bool n.zto.ar,.slice A m c] 100)):=(Below.refl _ _).alloc (Nat.le_refl _) _
 have hs:stepN n=([84,82,85,69],[]):=by unfold stepN;rw [if_neg (by omega),if_neg (by omega),if_pos hk,if_pos hv]
 have HS:=Lib.hid hs
 have HB:=Lib.hid hB
 obtain ⟨wv,h1,h2⟩:=h.below hB
 have HO:=Lib.hid h2
 have HW:=Lib.hid (write_any _ b nv wv txt ⟨#[84,82,85,69]⟩ h1 (by show txt.length+4≤_;omega))
 have g1:(n.num == 1)=true:=beq_iff_eq.2 hv
 clear h h1 h2 hB hs hk hv
 go_enter Tryz.func121,Tryz.ntmps121
 go_wp2_with (go_at_call 86;((with_reducible refine HW.out.mono ?_);rintro e w2 ⟨⟨x,rfl⟩,h3,h4⟩;have H3:=Lib.hid h3;have H4:=Lib.hid h4;clear h3 h4))
 go_end0
 exact Wrote.of HB.out HO.out H3.out H4.out (by rw [HS.out]) (by rw [HS.out,show sb ⟨#[84,82,85,69]⟩=[84,82,85,69] by decide])
set_option maxRecDepth 100000 in
set_option maxHeartbeats 2000000 in
theorem truth_no (w:World) (b:Nat) (nv:Value) (st:List Pt) (txt:List Int) (n:Nd) (A:Option Addr) (m c:Nat) (h:WQ w b nv st txt) (hk:n.kind=3) (hv:¬ n.num=1) (hl:txt.length≤1000000000) :
 Calls Tryz.prog 121 #[.pointer (some ⟨b,0,none⟩),.agg #[.int .i64 n.kind,.int .i64 n.num,.string n.text,.string n.ref.sh,.int .i64 n.ref.c,.int .i64 n.ref.r,.bool n.ref.ac,.bool n.ref.ar,.string n.zto.sh,.int .i64 n.zto.c,.int .i64 n.zto.r,.bool n.zto.ac,.bool n.zto.ar,.slice A m c]] w (Wrote w b nv st txt n):=by
 have hB:Below w.heap.size w (w.alloc (.cells #[.int .i64 n.kind,.int .i64 n.num,.string n.text,.string n.ref.sh,.int .i64 n.ref.c,.int .i64 n.ref.r,.bool n.ref.ac,.bool n.ref.ar,.string n.zto.sh,.int .i64 n.zto.c,.int .i64 n.zto.r,.bool n.zto.ac,.bool n.zto.ar,.slice A m c] 100)):=(Below.refl _ _).alloc (Nat.le_refl _) _
 have hs:stepN n=([70,65,76,83,69],[]):=by unfold stepN;rw [if_neg (by omega),if_neg (by omega),if_pos hk,if_neg hv]
 have HS:=Lib.hid hs
 have HB:=Lib.hid hB
 obtain ⟨wv,h1,h2⟩:=h.below hB
 have HO:=Lib.hid h2
 have HW:=Lib.hid (write_any _ b nv wv txt ⟨#[70,65,76,83,69]⟩ h1 (by show txt.length+5≤_;omega))
 have g1:(n.num == 1)=false:=beq_eq_false_iff_ne.2 hv
 clear h h1 h2 hB hs hk hv
 go_enter Tryz.func121,Tryz.ntmps121
 go_wp2_with (go_at_call 86;((with_reducible refine HW.out.mono ?_);rintro e w2 ⟨⟨x,rfl⟩,h3,h4⟩;have H3:=Lib.hid h3;have H4:=Lib.hid h4;clear h3 h4))
 go_end0
 exact Wrote.of HB.out HO.out H3.out H4.out (by rw [HS.out]) (by rw [HS.out,show sb ⟨#[70,65,76,83,69]⟩=[70,65,76,83,69] by decide])
set_option maxRecDepth 100000 in
set_option maxHeartbeats 400000 in
theorem col_any (n:Int) (_h0 : -9223372036854775808≤n) (_h1:n≤9223372036854775807) (w:World) :
 Calls Tryz.prog 173 #[.int .i64 n] w fun e w'=>e = .returned (.string (strOfNums (colL n)))∧w=w':=by
 by_cases hr:n<0∨701<n
 · have hc:colL n=[]:=by unfold colL;rw [if_pos hr]
   have HC:=Lib.hid hc;clear hc
   go_enter Tryz.func173,Tryz.ntmps173
   go_wp2
   all_goals first | omega | skip
   all_goals go_ret
   all_goals exact ⟨by rw [HC.out];rfl,rfl⟩
 · have h0:¬ n<0:=by omega
   have h2:¬ 701<n:=by omega
   have h0':0≤n:=by omega
   have he:=enc_cap (65+n % 26) (by omega) (by omega)
   have HE:=Lib.hid he;clear he
   by_cases h26:n<26
   · have hc:colL n=[65+n % 26]:=by unfold colL;rw [if_neg hr,if_pos h26];congr 1;omega
     have HC:=Lib.hid hc;clear hc hr
     go_enter Tryz.func173,Tryz.ntmps173
     go_wp2_with fail
     all_goals go_ret
     all_goals exact ⟨by rw [HC.out, ← HE.out];rfl,rfl⟩
   · have hc:colL n=[65+n / 26 - 1]++[65+n % 26]:=by unfold colL;rw [if_neg hr,if_neg h26];show [64+n / 26,65+n % 26]=[65+n / 26 - 1,65+n % 26];congr 1;omega
     have he2:=enc_cap (65+n / 26 - 1) (by omega) (by omega)
     have hz:(Utf8.encode (65+n / 26 - 1)).size+(Utf8.encode (65+n % 26)).size≤8:=by rw [he2,HE.out,strOfNums_size,strOfNums_size];simp
     have HE2:=Lib.hid he2;clear he2
     have HC:=Lib.hid hc;clear hc hr
     go_enter Tryz.func173,Tryz.ntmps173
     go_wp2_with fail
     all_goals go_ret
     all_goals exact ⟨ret_str (by rw [HC.out];exact str_app _ _ _ _ HE2.out HE.out),rfl⟩
theorem refDrew {w:World} {b:Nat} {s:ByteArray} {c r:Int} {ac ar:Bool} (h:RefAt w b s c r ac ar):RefAt w.drew b s c r ac ar:=h
theorem Tab.drew {w:World} (h:Tab w):Tab w.drew:=h
theorem below_undrew {w w':World} (h:Below w.drew.heap.size w.drew w'):Below w.heap.size w w':=⟨h.os,h.tape,h.output,h.size,h.block⟩
theorem itoa_eq {x:Int} {k:Nat} (h:x=(k:Int)) (h1:k≤9223372036854775807) (w:World) (ht:Tab w) :
 Calls Tryz.prog 74 #[.int .i64 x] w fun e w'=>e = .returned (.string (strOfNums (digL k)))∧Below w.heap.size w w':=by subst h;exact itoa_any k h1 w ht
theorem str8_eq {w:World} {base:Nat} {v:Value} {xs:List Int} {t:ByteArray} (e:strOfNums xs=t) (h:Own8 w base v xs):(convert 38 9 v).run Tryz.prog w = .ok (.string t) w:=by rw [← e];exact run_str8 h
theorem sb_colL (c:Int):sb (strOfNums (colL c))=colL c:=sb_str _ (bytes_colL c)
def preS (s:ByteArray):List Int:=if s.size=0 then [] else sb s++[33]
def preA (b:Bool):List Int:=if b=true then [36] else []
theorem len_preS (s:ByteArray):(preS s).length≤s.size+1:=by unfold preS;split <;> simp [length_sb]
theorem len_preA (b:Bool):(preA b).length≤1:=by cases b <;> decide
set_option maxRecDepth 100000 in
set_option maxHeartbeats 2000000 in
theorem text_all (s:ByteArray) (c r:Int) (k:Nat) (ac ar:Bool) (w:World) (htab:Tab w) (_hs:s.size≤1000000) (hm:mayL (sb s) c r=true) (hc0:0≤c) (hc1:c≤701) (hr0:0≤r) (hr1:r≤998) (hk:r+1=(k:Int)) (hz1:(strOfNums (colL c)).size≤2) (hz2:(strOfNums (digL k)).size≤1000) :
 Calls Tryz.prog 155 #[.agg #[.string s,.int .i64 c,.int .i64 r,.bool ac,.bool ar]] w fun e w'=>e = .returned (.string (strOfNums (textL (sb s) c r ac ar)))∧Below w.heap.size w w':=by
 have hk2:(r+1).toNat=k:=by omega
 have hp1:=len_preS s
 have hp2:=len_preA ac
 have hp3:=len_preA ar
 have ht:(((preS s++preA ac)++sb (strOfNums (colL c)))++preA ar)++digL k=textL (sb s) c r ac ar:=by
  unfold textL preS preA
  rw [if_pos hm,hk2,sb_colL]
  by_cases h0:s.size=0
  · have he:sb s=[]:=List.eq_nil_of_length_eq_zero (by rw [length_sb];exact h0)
    rw [if_pos h0,if_pos he] <;> cases ac <;> cases ar <;> simp
  · have he:¬ sb s=[]:=fun h=>by have:=length_sb s;rw [h] at this;exact h0 this.symm
    rw [if_neg h0,if_neg he] <;> cases ac <;> cases ar <;> simp
 have HT:=Lib.hid ht;clear ht hk2
 obtain ⟨tt,htt⟩:∃ t,strOfNums (((preS s++preA ac)++sb (strOfNums (colL c)))++preA ar)=t:=⟨_,rfl⟩
 have hzt:tt.size≤1000100:=by rw [← htt,strOfNums_size];simp only [List.length_append,length_sb];omega
 have HTT:=Lib.hid htt;clear htt
 have HSUM:=Lib.hid (show ¬ 9223372036854775807<tt.size+(strOfNums (digL k)).size by omega)
 have hR0:=RefAt.new w s c r ac ar
 have HR0:=Lib.hid hR0;clear hR0
 have H0:=Lib.hid ((Below.refl w.heap.size w).alloc (Nat.le_refl _) (.cells #[.string s,.int .i64 c,.int .i64 r,.bool ac,.bool ar] 98))
 have HTAB:=Lib.hid htab;clear htab
 have hk9:k≤999:=by omega
 have hwr:IntKind.i64.wrap (r+1)=r+1:=by rw [IntKind.wrap_i64];omega
 have HK:=Lib.hid hk;clear hk
 go_enter Tryz.func155,Tryz.ntmps155
 go_upto_region 4 with (go_at_call 150;((with_reducible refine (may_any _ _ _ _ _ _ ?_).mono ?_);(first | omega | skip);rintro e w1 ⟨rfl,h1⟩;have HR1:=Lib.hid (HR0.out.below h1 HR0.out.lt);have HO:=Lib.hid (Own.nil (encInt .u8) 5 w1 w1.heap.size);have HB:=Lib.hid (Below.refl w1.heap.size w1);have H1:=Lib.hid h1;clear h1))
 obtain ⟨x0,x1,x2,x3,x4⟩:=HR1.out.facts
 go_upto_if 9 with (fail)
 go_cut [3] from 4 (fun bv wx=>∃ (v:Value) (wu:World),v=bv∧wu=wx∧Hid (Own (encInt .u8) 5 wu w1.heap.size v (preS s))∧Hid (Below w1.heap.size w1 wu))
 case first =>
  by_cases h0:s.size=0
  · have hp:preS s=[]:=if_pos h0
    have HPP:=Lib.hid hp
    have hl1:s.toList.isEmpty=true:=by rw [sb_nil s h0,show (⟨#[]⟩:ByteArray).toList=[] by rw [list_bytes]];rfl
    simp only [hl1,Bool.not_true]
    clear h0 hp hl1
    go_wp2_with fail
    go_meet
    case rel=>exact ⟨_,_,rfl,rfl,Lib.hid (by rw [HPP.out];exact HO.out),HB⟩
  · have hp:preS s=([]++sb s)++[33]:=if_neg h0
    have HPP:=Lib.hid hp
    have hne:=text_ne0 s h0
    have hne2:s.toList.isEmpty=false:=by cases hq:s.toList with | nil=>exact absurd hq hne | cons a l=>rfl
    simp only [hne2,Bool.not_false]
    clear h0 hp
    go_wp2_with (first
     | (at_builtin;refine wpList_app_src Elem.u8 (encInt .u8) rfl (.tmp 10) (.tmp 12) rfl w1.heap.size _ _ rfl HO.out (.string s) s.size (sb s) rfl (length_sb s) (src_text s) ?_ ?_ ?_ ?_;(simp only [List.length_nil];omega);(simp only [List.length_nil];unfold maxLen;omega);exact HB.out.size;intro v3 w3 h1 h2;have HO:=Lib.hid h1;clear h1;have HB:=Lib.hid (HB.out.trans h2);clear h2;clear x0 x1 x2 x3 x4;obtain ⟨x0,x1,x2,x3,x4⟩:=(HR1.out.below (HB.out) HR1.out.lt).facts)
     | (at_builtin;refine wpList_app Elem.u8 (encInt .u8) rfl (.tmp 13) (.tmp 14) rfl w1.heap.size _ _ rfl (HO.out.alloc _) ⟨_,0,none⟩ 1 1 [33] rfl rfl ?_ ?_ ?_ ?_ ?_;exact cells_new _ _ _ rfl;(simp only [List.length_nil,List.length_append,length_sb];omega);(simp only [List.length_nil,List.length_append,length_sb];unfold maxLen;omega);(have:=HB.out.size;simp <;> omega);intro v3 w3 h1 h2;have HO:=Lib.hid h1;clear h1;have HB:=Lib.hid ((HB.out.alloc HB.out.size _).trans h2);clear h2;clear x0 x1 x2 x3 x4;obtain ⟨x0,x1,x2,x3,x4⟩:=(HR1.out.below (HB.out) HR1.out.lt).facts))
    go_meet
    case rel=>exact ⟨_,_,rfl,rfl,Lib.hid (by rw [HPP.out];exact HO.out),HB⟩
 case rest =>
 obtain ⟨v1,w2,rfl,rfl,HO,HB⟩:=hcut
 clear x0 x1 x2 x3 x4
 obtain ⟨x0,x1,x2,x3,x4⟩:=(HR1.out.below HB.out HR1.out.lt).facts
 go_upto_if 17 with (fail)
 go_cut [3] from 4 (fun bv wx=>∃ (v:Value) (wu:World),v=bv∧wu=wx∧Hid (Own (encInt .u8) 5 wu w1.heap.size v (preS s++preA ac))∧Hid (Below w1.heap.size w1 wu))
 case first =>
  cases ac
  · go_wp2_with fail
    go_meet
    case rel=>exact ⟨_,_,rfl,rfl,by rw [show preS s++preA false=preS s from List.append_nil _];exact HO,HB⟩
  · go_wp2_with ((at_builtin;refine wpList_app Elem.u8 (encInt .u8) rfl (.tmp 18) (.tmp 19) rfl w1.heap.size _ _ rfl (HO.out.alloc _) ⟨_,0,none⟩ 1 1 [36] rfl rfl ?_ ?_ ?_ ?_ ?_;exact cells_new _ _ _ rfl;omega;(unfold maxLen;omega);(have:=HB.out.size;simp <;> omega);intro v3 w3 h1 h2;have HO:=Lib.hid h1;clear h1;have HB:=Lib.hid ((HB.out.alloc HB.out.size _).trans h2);clear h2;clear x0 x1 x2 x3 x4;obtain ⟨x0,x1,x2,x3,x4⟩:=(HR1.out.below (HB.out) HR1.out.lt).facts))
    go_meet
    case rel=>exact ⟨_,_,rfl,rfl,HO,HB⟩
 case rest =>
 obtain ⟨v2,w3,rfl,rfl,HO,HB⟩:=hcut
 clear x0 x1 x2 x3 x4
 obtain ⟨x0,x1,x2,x3,x4⟩:=(HR1.out.below HB.out HR1.out.lt).facts
 go_upto_if 27 with (first
  | (go_at_call 173;((with_reducible refine (col_any _ ?_ ?_ _).mono ?_);(first | omega | skip);(first | omega | skip);rintro e w2 ⟨rfl,rfl⟩))
  | (at_builtin;refine wpList_app_src Elem.u8 (encInt .u8) rfl (.tmp 21) (.tmp 24) rfl w1.heap.size _ _ rfl HO.out (.string (strOfNums (colL c))) (strOfNums (colL c)).size (sb (strOfNums (colL c))) rfl (length_sb (strOfNums (colL c))) (src_text (strOfNums (colL c))) ?_ ?_ ?_ ?_;(simp only [List.length_append];omega);(simp only [List.length_append];unfold maxLen;omega);exact HB.out.size;intro v3 w3 h1 h2;have HO:=Lib.hid h1;clear h1;have HB:=Lib.hid (HB.out.trans h2);clear h2;clear x0 x1 x2 x3 x4;obtain ⟨x0,x1,x2,x3,x4⟩:=(HR1.out.below (HB.out) HR1.out.lt).facts))
 go_cut [3] from 4 (fun bv wx=>∃ (v:Value) (wu:World),v=bv∧wu=wx∧Hid (Own (encInt .u8) 5 wu w1.heap.size v (((preS s++preA ac)++sb (strOfNums (colL c)))++preA ar))∧Hid (Below w1.heap.size w1 wu))
 case first =>
  cases ar
  · go_wp2_with fail
    go_meet
    case rel=>exact ⟨_,_,rfl,rfl,by rw [show ∀ l:List Int,l++preA false=l from List.append_nil];exact HO,HB⟩
  · go_wp2_with ((at_builtin;refine wpList_app Elem.u8 (encInt .u8) rfl (.tmp 28) (.tmp 29) rfl w1.heap.size _ _ rfl (HO.out.alloc _) ⟨_,0,none⟩ 1 1 [36] rfl rfl ?_ ?_ ?_ ?_ ?_;exact cells_new _ _ _ rfl;(simp only [List.length_append,length_sb];omega);(simp only [List.length_append,length_sb];unfold maxLen;omega);(have:=HB.out.size;simp <;> omega);intro v3 w3 h1 h2;have HO:=Lib.hid h1;clear h1;have HB:=Lib.hid ((HB.out.alloc HB.out.size _).trans h2);clear h2;clear x0 x1 x2 x3 x4;obtain ⟨x0,x1,x2,x3,x4⟩:=(HR1.out.below (HB.out) HR1.out.lt).facts))
    go_meet
    case rel=>exact ⟨_,_,rfl,rfl,HO,HB⟩
 case rest =>
 obtain ⟨v3,w4,rfl,rfl,HO,HB⟩:=hcut
 clear x0 x1 x2 x3 x4
 obtain ⟨x0,x1,x2,x3,x4⟩:=(HR1.out.below HB.out HR1.out.lt).facts
 go_upto_region 11 with (fail)
 refine kept_start (by kernel_rfl) ?_
 show wpAnyH _ _ _ _ _ 8 #[false,false,false,false,false,false,false,false] _ _
 refine kT 0 ?_
 refine kT 1 ?_ (hy:=by (intro wS hSw;have hz:=(fun W (hW:Below _ _ W)=>str8_eq HTT.out (Own.below (Own.drew HO.out) hW (Nat.le_refl _))) wS hSw;go_simp;try (with_reducible rfl)))
 refine kT 2 ?_
 refine kT 3 ?_ (hy:=by (intro wS hSw;have hz:=(fun W (hW:Below _ _ W)=>((refDrew (HR1.out.below HB.out HR1.out.lt)).below hW (Nat.lt_of_lt_of_le HR1.out.lt HB.out.size)).facts) wS hSw;go_simp;try (with_reducible rfl)))
 refine kT 4 ?_
 refine kC 5 (fun K hK => ?_)
 go_simp
 refine (itoa_eq HK.out (by omega) _ (Tab.drew (((HTAB.out.below H0.out).below H1.out).below HB.out))).mono ?_
 rintro e w4 ⟨rfl,hstep⟩
 have HB4:=Lib.hid (below_undrew hstep)
 go_wp2_with fail
 refine hK.out _ _ hstep hstep.size ?_
 clear hK K
 simp only [Act.put,sT,sZ,sS]
 refine kT 6 ?_ (hy:=by (intro wS hSw;have hz:=(fun (_:World) (_:Below _ _ _)=>HSUM.out) wS hSw;go_simp;try (with_reducible rfl)))
 refine kT 7 ?_
 refine wpAnyH_done (by kernel_rfl) ?_ _
 go_wp2_with fail
 go_ret
 exact ⟨ret_str (by rw [← HTT.out];exact (str_append _ _).trans (congrArg strOfNums HT.out)),below3 H0.out H1.out HB.out HB4.out⟩
set_option maxRecDepth 100000 in
set_option maxHeartbeats 400000 in
theorem textP_any (s:ByteArray) (c r:Int) (ac ar:Bool) (w:World) (htab:Tab w) (_hs:s.size≤1000000) :
 Calls Tryz.prog 155 #[.agg #[.string s,.int .i64 c,.int .i64 r,.bool ac,.bool ar]] w fun e w'=>e = .returned (.string (strOfNums (textL (sb s) c r ac ar)))∧Below w.heap.size w w':=by
 by_cases hm:mayL (sb s) c r=true
 · obtain ⟨hc0,hc1,hr0,hr1⟩:=mayL_parts hm
   have hl1:=length_colL c
   obtain ⟨k,hk⟩:∃ k:Nat,r+1=(k:Int):=⟨(r+1).toNat,by omega⟩
   have hl2:=length_digL k
   have hz1:(strOfNums (colL c)).size≤2:=by rw [strOfNums_size];exact hl1
   have hz2:(strOfNums (digL k)).size≤1000:=by rw [strOfNums_size];omega
   exact text_all s c r k ac ar w htab _hs hm hc0 hc1 hr0 hr1 hk hz1 hz2
 · have hm':mayL (sb s) c r=false:=by simpa using hm
   have ht:textL (sb s) c r ac ar=[]:=by unfold textL;rw [if_neg hm]
   have HT:=Lib.hid ht;clear ht hm htab
   go_enter Tryz.func155,Tryz.ntmps155
   go_wp2_with (first
    | (go_at_call 150;((with_reducible refine (may_any _ _ _ _ _ _ ?_).mono ?_);(first | omega | skip);rintro e w1 ⟨rfl,h1⟩;have H1:=Lib.hid h1;clear h1)))
   go_ret
   exact ⟨by rw [HT.out];rfl,((Below.refl _ _).alloc (Nat.le_refl _) _).trans (H1.out.mono ((Below.refl _ _).alloc (Nat.le_refl _) _).size)⟩
set_option maxRecDepth 100000 in
set_option maxHeartbeats 4000000 in
theorem number_node (w:World) (b:Nat) (nv:Value) (st:List Pt) (txt:List Int) (n:Nd) (A:Option Addr) (m c:Nat) (h:WQ w b nv st txt) (hk:n.kind=1) (u:Nat) (hu:n.num=(u:Int)) (hu9:u≤9223372036854775807) (htab:Tab w) (hl:txt.length≤1000000000) :
 Calls Tryz.prog 119 #[.pointer (some ⟨b,0,none⟩),.agg #[.int .i64 n.kind,.int .i64 n.num,.string n.text,.string n.ref.sh,.int .i64 n.ref.c,.int .i64 n.ref.r,.bool n.ref.ac,.bool n.ref.ar,.string n.zto.sh,.int .i64 n.zto.c,.int .i64 n.zto.r,.bool n.zto.ac,.bool n.zto.ar,.slice A m c]] w (Wrote w b nv st txt n):=by
 have hB:Below w.heap.size w (w.alloc (.cells #[.int .i64 n.kind,.int .i64 n.num,.string n.text,.string n.ref.sh,.int .i64 n.ref.c,.int .i64 n.ref.r,.bool n.ref.ac,.bool n.ref.ar,.string n.zto.sh,.int .i64 n.zto.c,.int .i64 n.zto.r,.bool n.zto.ac,.bool n.zto.ar,.slice A m c] 100)):=(Below.refl _ _).alloc (Nat.le_refl _) _
 have HN:NdAt (w.alloc (.cells #[.int .i64 n.kind,.int .i64 n.num,.string n.text,.string n.ref.sh,.int .i64 n.ref.c,.int .i64 n.ref.r,.bool n.ref.ac,.bool n.ref.ar,.string n.zto.sh,.int .i64 n.zto.c,.int .i64 n.zto.r,.bool n.zto.ac,.bool n.zto.ar,.slice A m c] 100)) w.heap.size n (.slice A m c):=NdAt.new w n _
 have hs:stepN n=(digL u,[]):=by unfold stepN;rw [if_pos hk,hu];rfl
 have hdl:=digL_len 18 u (by omega)
 have hbw:b<w.heap.size:=by obtain ⟨wv,h1, -⟩:=h;exact h1.lt
 have HS:=Lib.hid hs
 have HB:=Lib.hid hB
 obtain ⟨wv,h1,h2⟩:=h.below hB
 have HTAB:=Lib.hid (htab.below hB)
 have HHU:=Lib.hid hu
 clear h hs hk htab hB hu
 go_enter Tryz.func119,Tryz.ntmps119
 go_upto_region 1 with (fail)
 generalize hz:w.heap.size=z at HN ⊢
 generalize w.alloc (.cells #[.int .i64 n.kind,.int .i64 n.num,.string n.text,.string n.ref.sh,.int .i64 n.ref.c,.int .i64 n.ref.r,.bool n.ref.ac,.bool n.ref.ar,.string n.zto.sh,.int .i64 n.zto.c,.int .i64 n.zto.r,.bool n.zto.ac,.bool n.zto.ar,.slice A m c] 100)=w1 at HN HB HTAB h1 h2 ⊢
 have x1:=HN.cells.2.1
 rw [HHU.out] at x1
 have hzl:=HN.lt
 have hzb:z≠b:=by omega
 have HN2:=Lib.hid HN
 have HI:=Lib.hid (fun wr (hr:Below w1.heap.size w1 wr)=>itoa_any u hu9 wr (HTAB.out.below hr))
 have HW:=Lib.hid (fun wr (hr:Below w1.heap.size w1 wr)=>write_any wr b nv wv txt (strOfNums (digL u)) (h1.below hr) (by rw [strOfNums_size];omega))
 have HO:=Lib.hid h2
 clear hz h1 h2 HN hdl
 have H1:=Lib.hid ((Below.refl w1.heap.size w1).drew)
 go_region_held3 (fun w'=>w'.cell? ⟨z,1,none⟩=some (.int .i64 (u:Int))) (go_keep) (first
  | (go_at_call 74;((with_reducible refine (HI.out _ H1.out).mono ?_);rintro e w3 ⟨rfl,h3⟩;have H3:=Lib.hid (H1.out.trans (h3.mono H1.out.size));have y1:=(H3.out.cell (p:=⟨z,1,none⟩) hzl).trans x1;clear h3))
  | (go_at_call 86;((with_reducible refine (HW.out _ H3.out).mono ?_);rintro e w4 ⟨⟨x,rfl⟩,h3,h4⟩;have HWS:=Lib.hid h3;have HF:=Lib.hid h4;have z1:w4.cell? ⟨z,1,none⟩=some (.int .i64 (u:Int)):=(World.cell?_of_block (a:=⟨z,1,none⟩) (HF.out.block z (Nat.lt_of_lt_of_le hzl H3.out.size) hzb (.inr fun cur fr e=>by
      have h5:=H3.out.block z hzl
      have h6:w1.heap[z]? = some (.cells (nodA n (.slice A m c)) 100):=HN2.out
      rw [h5,h6] at e;injection e with e;injection e with _ e2;exact absurd e2 (by decide)))).trans y1;clear h3 h4)))
 all_goals go_wp2_with fail
 all_goals go_end0
 all_goals exact Wrote.of (HB.out.trans (H3.out.mono HB.out.size)) (HO.out.below H3.out (Nat.le_refl _)) HWS.out HF.out (by rw [HS.out]) (by rw [HS.out,show sb (strOfNums (digL u))=digL u from sb_str _ (fun x hx=>by have:=num_bd (isNum_digL u x hx);omega)])
set_option maxRecDepth 100000 in
set_option maxHeartbeats 4000000 in
theorem place_node (w:World) (b:Nat) (nv:Value) (st:List Pt) (txt:List Int) (n:Nd) (A:Option Addr) (m c:Nat) (h:WQ w b nv st txt) (hk:n.kind=5) (hz:n.ref.sh.size≤1000000) (htab:Tab w) (hl:txt.length≤1000000000) :
 Calls Tryz.prog 123 #[.pointer (some ⟨b,0,none⟩),.agg #[.int .i64 n.kind,.int .i64 n.num,.string n.text,.string n.ref.sh,.int .i64 n.ref.c,.int .i64 n.ref.r,.bool n.ref.ac,.bool n.ref.ar,.string n.zto.sh,.int .i64 n.zto.c,.int .i64 n.zto.r,.bool n.zto.ac,.bool n.zto.ar,.slice A m c]] w (Wrote w b nv st txt n):=by
 have hB:Below w.heap.size w (w.alloc (.cells #[.int .i64 n.kind,.int .i64 n.num,.string n.text,.string n.ref.sh,.int .i64 n.ref.c,.int .i64 n.ref.r,.bool n.ref.ac,.bool n.ref.ar,.string n.zto.sh,.int .i64 n.zto.c,.int .i64 n.zto.r,.bool n.zto.ac,.bool n.zto.ar,.slice A m c] 100)):=(Below.refl _ _).alloc (Nat.le_refl _) _
 have HN:NdAt (w.alloc (.cells #[.int .i64 n.kind,.int .i64 n.num,.string n.text,.string n.ref.sh,.int .i64 n.ref.c,.int .i64 n.ref.r,.bool n.ref.ac,.bool n.ref.ar,.string n.zto.sh,.int .i64 n.zto.c,.int .i64 n.zto.r,.bool n.zto.ac,.bool n.zto.ar,.slice A m c] 100)) w.heap.size n (.slice A m c):=NdAt.new w n _
 have hs:stepN n=(textL (sb n.ref.sh) n.ref.c n.ref.r n.ref.ac n.ref.ar,[]):=by unfold stepN;rw [if_neg (by omega),if_neg (by omega),if_neg (by omega),if_neg (by omega),if_pos hk]
 have hdl:=textL_len (sb n.ref.sh) n.ref.c n.ref.r n.ref.ac n.ref.ar
 rw [length_sb] at hdl
 have hbw:b<w.heap.size:=by obtain ⟨wv,h1, -⟩:=h;exact h1.lt
 have HS:=Lib.hid hs
 have HB:=Lib.hid hB
 obtain ⟨wv,h1,h2⟩:=h.below hB
 have HTAB:=Lib.hid (htab.below hB)
 clear h hs hk htab hB
 go_enter Tryz.func123,Tryz.ntmps123
 go_upto_region 1 with (fail)
 generalize hzz:w.heap.size=z at HN ⊢
 generalize w.alloc (.cells #[.int .i64 n.kind,.int .i64 n.num,.string n.text,.string n.ref.sh,.int .i64 n.ref.c,.int .i64 n.ref.r,.bool n.ref.ac,.bool n.ref.ar,.string n.zto.sh,.int .i64 n.zto.c,.int .i64 n.zto.r,.bool n.zto.ac,.bool n.zto.ar,.slice A m c] 100)=w1 at HN HB HTAB h1 h2 ⊢
 obtain ⟨-, -, -,x3,x4,x5,x6,x7, -⟩:=HN.cells
 have hzl:=HN.lt
 have hzb:z≠b:=by omega
 have HN2:=Lib.hid HN
 have HI:=Lib.hid (fun wr (hr:Below w1.heap.size w1 wr)=>textP_any n.ref.sh n.ref.c n.ref.r n.ref.ac n.ref.ar wr (HTAB.out.below hr) hz)
 have HW:=Lib.hid (fun wr (hr:Below w1.heap.size w1 wr)=>write_any wr b nv wv txt (strOfNums (textL (sb n.ref.sh) n.ref.c n.ref.r n.ref.ac n.ref.ar)) (h1.below hr) (by rw [strOfNums_size];omega))
 have HO:=Lib.hid h2
 clear hzz h1 h2 HN hdl
 have H1:=Lib.hid ((Below.refl w1.heap.size w1).drew)
 go_region_held3 (fun w'=>w'.cell? ⟨z,3,none⟩=some (.string n.ref.sh)∧w'.cell? ⟨z,4,none⟩=some (.int .i64 n.ref.c)∧w'.cell? ⟨z,5,none⟩=some (.int .i64 n.ref.r)∧w'.cell? ⟨z,6,none⟩=some (.bool n.ref.ac)∧w'.cell? ⟨z,7,none⟩=some (.bool n.ref.ar)) (go_keep) (first
  | (go_at_call 155;((with_reducible refine (HI.out _ H1.out).mono ?_);rintro e w3 ⟨rfl,h3⟩;have H3:=Lib.hid (H1.out.trans (h3.mono H1.out.size));have y3:=(H3.out.cell (p:=⟨z,3,none⟩) hzl).trans x3;have y4:=(H3.out.cell (p:=⟨z,4,none⟩) hzl).trans x4;have y5:=(H3.out.cell (p:=⟨z,5,none⟩) hzl).trans x5;have y6:=(H3.out.cell (p:=⟨z,6,none⟩) hzl).trans x6;have y7:=(H3.out.cell (p:=⟨z,7,none⟩) hzl).trans x7;clear h3))
  | (go_at_call 86;((with_reducible refine (HW.out _ H3.out).mono ?_);rintro e w4 ⟨⟨x,rfl⟩,h3,h4⟩;have HWS:=Lib.hid h3;have HF:=Lib.hid h4;have hzk:=HF.out.block z (Nat.lt_of_lt_of_le hzl H3.out.size) hzb (.inr fun cur fr e=>by
      have h5:=H3.out.block z hzl
      have h6:w1.heap[z]? = some (.cells (nodA n (.slice A m c)) 100):=HN2.out
      rw [h5,h6] at e;injection e with e;injection e with _ e2;exact absurd e2 (by decide));have z3:=(World.cell?_of_block (a:=⟨z,3,none⟩) hzk).trans y3;have z4:=(World.cell?_of_block (a:=⟨z,4,none⟩) hzk).trans y4;have z5:=(World.cell?_of_block (a:=⟨z,5,none⟩) hzk).trans y5;have z6:=(World.cell?_of_block (a:=⟨z,6,none⟩) hzk).trans y6;have z7:=(World.cell?_of_block (a:=⟨z,7,none⟩) hzk).trans y7;clear h3 h4)))
 all_goals go_wp2_with fail
 all_goals go_end0
 all_goals exact Wrote.of (HB.out.trans (H3.out.mono HB.out.size)) (HO.out.below H3.out (Nat.le_refl _)) HWS.out HF.out (by rw [HS.out]) (by rw [HS.out,show sb (strOfNums (textL (sb n.ref.sh) n.ref.c n.ref.r n.ref.ac n.ref.ar))=textL (sb n.ref.sh) n.ref.c n.ref.r n.ref.ac n.ref.ar from sb_str _ (bytes_textL _ _ _ _ _)])
set_option maxRecDepth 100000 in
set_option maxHeartbeats 4000000 in
theorem places_node (w:World) (b:Nat) (nv:Value) (st:List Pt) (txt:List Int) (n:Nd) (A:Option Addr) (m c:Nat) (h:WQ w b nv st txt) (hk:n.kind=6) (hz:n.ref.sh.size≤1000000) (hz2:n.zto.sh.size≤1000000) (htab:Tab w) (hl:txt.length≤1000000000) :
 Calls Tryz.prog 124 #[.pointer (some ⟨b,0,none⟩),.agg #[.int .i64 n.kind,.int .i64 n.num,.string n.text,.string n.ref.sh,.int .i64 n.ref.c,.int .i64 n.ref.r,.bool n.ref.ac,.bool n.ref.ar,.string n.zto.sh,.int .i64 n.zto.c,.int .i64 n.zto.r,.bool n.zto.ac,.bool n.zto.ar,.slice A m c]] w (Wrote w b nv st txt n):=by
 have hB:Below w.heap.size w (w.alloc (.cells #[.int .i64 n.kind,.int .i64 n.num,.string n.text,.string n.ref.sh,.int .i64 n.ref.c,.int .i64 n.ref.r,.bool n.ref.ac,.bool n.ref.ar,.string n.zto.sh,.int .i64 n.zto.c,.int .i64 n.zto.r,.bool n.zto.ac,.bool n.zto.ar,.slice A m c] 100)):=(Below.refl _ _).alloc (Nat.le_refl _) _
 have HN:NdAt (w.alloc (.cells #[.int .i64 n.kind,.int .i64 n.num,.string n.text,.string n.ref.sh,.int .i64 n.ref.c,.int .i64 n.ref.r,.bool n.ref.ac,.bool n.ref.ar,.string n.zto.sh,.int .i64 n.zto.c,.int .i64 n.zto.r,.bool n.zto.ac,.bool n.zto.ar,.slice A m c] 100)) w.heap.size n (.slice A m c):=NdAt.new w n _
 have hs:stepN n=(textL (sb n.ref.sh) n.ref.c n.ref.r n.ref.ac n.ref.ar++58 :: textL (sb n.zto.sh) n.zto.c n.zto.r n.zto.ac n.zto.ar,[]):=by unfold stepN;rw [if_neg (by omega),if_neg (by omega),if_neg (by omega),if_neg (by omega),if_neg (by omega),if_pos hk]
 have d1:=textL_len (sb n.ref.sh) n.ref.c n.ref.r n.ref.ac n.ref.ar
 have d2:=textL_len (sb n.zto.sh) n.zto.c n.zto.r n.zto.ac n.zto.ar
 rw [length_sb] at d1 d2
 have hbw:b<w.heap.size:=by obtain ⟨wv,h1, -⟩:=h;exact h1.lt
 have y1:=bytes_textL n.ref.sh n.ref.c n.ref.r n.ref.ac n.ref.ar
 have y2:=bytes_textL n.zto.sh n.zto.c n.zto.r n.zto.ac n.zto.ar
 have i1:=fun (wr:World) (ht:Tab wr)=>textP_any n.ref.sh n.ref.c n.ref.r n.ref.ac n.ref.ar wr ht hz
 have i2:=fun (wr:World) (ht:Tab wr)=>textP_any n.zto.sh n.zto.c n.zto.r n.zto.ac n.zto.ar wr ht hz2
 generalize textL (sb n.ref.sh) n.ref.c n.ref.r n.ref.ac n.ref.ar=l1 at hs d1 y1 i1
 generalize textL (sb n.zto.sh) n.zto.c n.zto.r n.zto.ac n.zto.ar=l2 at hs d2 y2 i2
 have f1:¬ 9223372036854775807<(strOfNums l1).size+(⟨#[58]⟩:ByteArray).size:=by rw [strOfNums_size];show ¬ _<_+1;omega
 have f2:¬ 9223372036854775807<(strOfNums l1).size+1:=by rw [strOfNums_size];omega
 have f3:(strOfNums l1++(⟨#[58]⟩:ByteArray)).size=l1.length+1:=by rw [ByteArray.size_append,strOfNums_size];rfl
 have f4:¬ 9223372036854775807<(strOfNums l1++(⟨#[58]⟩:ByteArray)).size+(strOfNums l2).size:=by rw [f3,strOfNums_size];omega
 have f5:¬ 9223372036854775807<(strOfNums l1).size+1+(strOfNums l2).size:=by rw [strOfNums_size,strOfNums_size];omega
 have HTX:=Lib.hid (show strOfNums l1++(⟨#[58]⟩:ByteArray)++strOfNums l2=strOfNums (l1++58 :: l2) by
  rw [show (⟨#[58]⟩:ByteArray)=strOfNums [58] from by decide,str_append,str_append,List.append_assoc];rfl)
 have HS:=Lib.hid hs
 have HB:=Lib.hid hB
 obtain ⟨wv,h1,h2⟩:=h.below hB
 have HTAB:=Lib.hid (htab.below hB)
 clear h hs hk htab hB
 go_enter Tryz.func124,Tryz.ntmps124
 go_upto_region 1 with (fail)
 obtain ⟨z,hzz⟩:∃ z,w.heap.size=z:=⟨_,rfl⟩
 obtain ⟨w1,hw1⟩:∃ w1,w.alloc (.cells #[.int .i64 n.kind,.int .i64 n.num,.string n.text,.string n.ref.sh,.int .i64 n.ref.c,.int .i64 n.ref.r,.bool n.ref.ac,.bool n.ref.ar,.string n.zto.sh,.int .i64 n.zto.c,.int .i64 n.zto.r,.bool n.zto.ac,.bool n.zto.ar,.slice A m c] 100)=w1:=⟨_,rfl⟩
 rw [hw1] at HN HB HTAB h1 h2 ⊢
 rw [hzz] at HN ⊢
 obtain ⟨-, -, -,x3,x4,x5,x6,x7,x8,x9,x10,x11,x12, -⟩:=HN.cells
 have hzl:=HN.lt
 have hzb:z≠b:=by omega
 have HN2:=Lib.hid HN
 have HI:=Lib.hid (fun wr (hr:Below w1.heap.size w1 wr)=>i1 wr (HTAB.out.below hr))
 have HJ:=Lib.hid (fun wr (hr:Below w1.heap.size w1 wr)=>i2 wr (HTAB.out.below hr))
 have HW:=Lib.hid (fun wr (hr:Below w1.heap.size w1 wr)=>write_any wr b nv wv txt (strOfNums l1++(⟨#[58]⟩:ByteArray)++strOfNums l2) (h1.below hr) (by rw [ByteArray.size_append,f3,strOfNums_size];omega))
 have HO:=Lib.hid h2
 clear hzz hw1 h1 h2 HN d1 d2 i1 i2 f3 hz hz2
 have H1:=Lib.hid ((Below.refl w1.heap.size w1).drew)
 go_region_held3 (fun w'=>w'.cell? ⟨z,3,none⟩=some (.string n.ref.sh)∧w'.cell? ⟨z,4,none⟩=some (.int .i64 n.ref.c)∧w'.cell? ⟨z,5,none⟩=some (.int .i64 n.ref.r)∧w'.cell? ⟨z,6,none⟩=some (.bool n.ref.ac)∧w'.cell? ⟨z,7,none⟩=some (.bool n.ref.ar)∧w'.cell? ⟨z,8,none⟩=some (.string n.zto.sh)∧w'.cell? ⟨z,9,none⟩=some (.int .i64 n.zto.c)∧w'.cell? ⟨z,10,none⟩=some (.int .i64 n.zto.r)∧w'.cell? ⟨z,11,none⟩=some (.bool n.zto.ac)∧w'.cell? ⟨z,12,none⟩=some (.bool n.zto.ar)) (go_keep) (first
  | (go_at_call 155;((with_reducible refine (HI.out _ H1.out).mono ?_);rintro e w3 ⟨rfl,h3⟩;have H3:=Lib.hid (H1.out.trans (h3.mono H1.out.size));have p3:=(H3.out.cell (p:=⟨z,3,none⟩) hzl).trans x3;have p4:=(H3.out.cell (p:=⟨z,4,none⟩) hzl).trans x4;have p5:=(H3.out.cell (p:=⟨z,5,none⟩) hzl).trans x5;have p6:=(H3.out.cell (p:=⟨z,6,none⟩) hzl).trans x6;have p7:=(H3.out.cell (p:=⟨z,7,none⟩) hzl).trans x7;have p8:=(H3.out.cell (p:=⟨z,8,none⟩) hzl).trans x8;have p9:=(H3.out.cell (p:=⟨z,9,none⟩) hzl).trans x9;have p10:=(H3.out.cell (p:=⟨z,10,none⟩) hzl).trans x10;have p11:=(H3.out.cell (p:=⟨z,11,none⟩) hzl).trans x11;have p12:=(H3.out.cell (p:=⟨z,12,none⟩) hzl).trans x12;clear h3))
  | (go_at_call 155;((with_reducible refine (HJ.out _ H3.out).mono ?_);rintro e w4 ⟨rfl,h3⟩;have H4:=Lib.hid (H3.out.trans (h3.mono H3.out.size));have q3:=(H4.out.cell (p:=⟨z,3,none⟩) hzl).trans x3;have q4:=(H4.out.cell (p:=⟨z,4,none⟩) hzl).trans x4;have q5:=(H4.out.cell (p:=⟨z,5,none⟩) hzl).trans x5;have q6:=(H4.out.cell (p:=⟨z,6,none⟩) hzl).trans x6;have q7:=(H4.out.cell (p:=⟨z,7,none⟩) hzl).trans x7;have q8:=(H4.out.cell (p:=⟨z,8,none⟩) hzl).trans x8;have q9:=(H4.out.cell (p:=⟨z,9,none⟩) hzl).trans x9;have q10:=(H4.out.cell (p:=⟨z,10,none⟩) hzl).trans x10;have q11:=(H4.out.cell (p:=⟨z,11,none⟩) hzl).trans x11;have q12:=(H4.out.cell (p:=⟨z,12,none⟩) hzl).trans x12;clear h3))
  | (go_at_call 86;((with_reducible refine (HW.out _ H4.out).mono ?_);rintro e w5 ⟨⟨x,rfl⟩,h3,h4⟩;have HWS:=Lib.hid h3;have HF:=Lib.hid h4;have hzk:=HF.out.block z (Nat.lt_of_lt_of_le hzl H4.out.size) hzb (.inr fun cur fr e=>by
      have h5:=H4.out.block z hzl
      have h6:w1.heap[z]? = some (.cells (nodA n (.slice A m c)) 100):=HN2.out
      rw [h5,h6] at e;injection e with e;injection e with _ e2;exact absurd e2 (by decide));have r3:=(World.cell?_of_block (a:=⟨z,3,none⟩) hzk).trans q3;have r4:=(World.cell?_of_block (a:=⟨z,4,none⟩) hzk).trans q4;have r5:=(World.cell?_of_block (a:=⟨z,5,none⟩) hzk).trans q5;have r6:=(World.cell?_of_block (a:=⟨z,6,none⟩) hzk).trans q6;have r7:=(World.cell?_of_block (a:=⟨z,7,none⟩) hzk).trans q7;have r8:=(World.cell?_of_block (a:=⟨z,8,none⟩) hzk).trans q8;have r9:=(World.cell?_of_block (a:=⟨z,9,none⟩) hzk).trans q9;have r10:=(World.cell?_of_block (a:=⟨z,10,none⟩) hzk).trans q10;have r11:=(World.cell?_of_block (a:=⟨z,11,none⟩) hzk).trans q11;have r12:=(World.cell?_of_block (a:=⟨z,12,none⟩) hzk).trans q12;clear h3 h4)))
 all_goals go_wp2_with fail
 all_goals go_end0
 all_goals exact Wrote.of (HB.out.trans (H4.out.mono HB.out.size)) (HO.out.below H4.out (Nat.le_refl _)) HWS.out HF.out (by rw [HS.out]) (by rw [HS.out,HTX.out,sb_str _ (by intro x hx;rcases List.mem_append.1 hx with hx | hx;exact y1 x hx;rcases List.mem_cons.1 hx with rfl | hx;exact ⟨by decide,by decide⟩;exact y2 x hx)])
theorem ix34:∀ l:List UInt8,(Lib.index l [34] = -1∧∀ x∈l,x≠34)∨∃ i:Nat,Lib.index l [34]=i∧i<l.length∧(∀ x∈l.take i,x≠34)∧l.drop i=34 :: l.drop (i+1)
 | [] => .inl ⟨rfl,fun x hx=>by cases hx⟩
 | b :: l => by
   by_cases hb:b=34
   · subst hb;exact .inr ⟨0,rfl,by simp,fun x hx=>by simp at hx,rfl⟩
   · have hp:List.isPrefixOf [34] (b :: l)=false:=by
      show ((34:UInt8) == b&&List.isPrefixOf [] l)=false
      rw [beq_eq_false_iff_ne.2 (fun e=>hb e.symm)];rfl
     have e:Lib.index (b :: l) [34]=if Lib.index l [34] == -1 then -1 else Lib.index l [34]+1:=by
      rw [Lib.index,if_neg (by rw [hp];decide)]
     rcases ix34 l with ⟨h1,h2⟩ | ⟨i,h1,h2,h3,h4⟩
     · refine .inl ⟨by rw [e,h1];rfl,fun x hx => ?_⟩
       rcases List.mem_cons.1 hx with rfl | hx
       · exact hb
       · exact h2 x hx
     · refine .inr ⟨i+1, ?_,by simp;omega,fun x hx => ?_,by simpa using h4⟩
       · rw [e,h1,if_neg (by intro h;have:=beq_iff_eq.1 h;omega)];rfl
       · rw [List.take_succ_cons] at hx
         rcases List.mem_cons.1 hx with rfl | hx
         · exact hb
         · exact h3 x hx
def dblU:List UInt8→List UInt8
 | []=>[]
 | x :: l=>(if x=34 then [34,34] else [x])++dblU l
theorem dblU_none:∀ l:List UInt8,(∀ x∈l,x≠34)→dblU l=l
 | [],_=>rfl
 | x :: l,h=>by
   show (if x=34 then [34,34] else [x])++dblU l=x :: l
   rw [if_neg (h x (List.mem_cons_self ..)),dblU_none l (fun y hy=>h y (List.mem_cons_of_mem _ hy))];rfl
theorem dblU_app:∀ (p r:List UInt8),(∀ x∈p,x≠34)→dblU (p++34 :: r)=p++[34,34]++dblU r
 | [],r,_=>rfl
 | x :: p,r,h=>by
   show (if x=34 then [34,34] else [x])++dblU (p++34 :: r)=_
   rw [if_neg (h x (List.mem_cons_self ..)),dblU_app p r (fun y hy=>h y (List.mem_cons_of_mem _ hy))];rfl
theorem rep34:∀ (n:Nat) (l:List UInt8),l.length≤n→Lib.replaceK [34] [34,34] (Lib.count l [34]) l=dblU l∧Lib.count l [34]≤l.length
 | n, l,hn=>by
   rcases ix34 l with ⟨h1,h2⟩ | ⟨i,h1,h2,h3,h4⟩
   · rw [Lib.count_miss h1,dblU_none l h2];exact ⟨rfl,Nat.zero_le _⟩
   · have hc:=Lib.count_hit (s:=l) (sub:=[34]) (by decide) h1
     have hd:(l.drop (i+1)).length=l.length - (i+1):=List.length_drop
     match n with
     | 0=>omega
     | n+1 =>
       obtain ⟨e1,e2⟩:=rep34 n (l.drop (i+1)) (by omega)
       have hc2:Lib.count l [34]=Lib.count (l.drop (i+1)) [34]+1:=by rw [hc];show 1+Lib.count (l.drop (i+1)) [34]=_;omega
       refine ⟨?_,by omega⟩
       rw [hc2,Lib.replaceK_hit _ _ _ _ i h1]
       show l.take i++[34,34]++Lib.replaceK [34] [34,34] (Lib.count (l.drop (i+1)) [34]) (l.drop (i+1))=_
       rw [e1, ← dblU_app _ _ h3, ← h4,List.take_append_drop]
theorem all34 (l:List UInt8):Lib.replaceAll l [34] [34,34]=dblU l:=by
 unfold Lib.replaceAll Lib.replace Lib.replaceNum
 rw [if_neg (by decide),if_pos (.inl (by decide))]
 exact (rep34 l.length l (Nat.le_refl _)).1
theorem dblU_sb:∀ l:List UInt8,(dblU l).map (fun b=>(b.toNat:Int))=dblL (l.map fun b=>(b.toNat:Int))
 | []=>rfl
 | x :: l=>by
   show ((if x=34 then [34,34] else [x])++dblU l).map _=(if (x.toNat:Int)=34 then [34,34] else [(x.toNat:Int)])++dblL (l.map _)
   rw [List.map_append,dblU_sb l]
   by_cases h:x=34
   · subst h;rfl
   · rw [if_neg h,if_neg (fun e=>h (UInt8.toNat_inj.1 (by have:(34:UInt8).toNat=34:=rfl;omega)))];rfl
def MaxV (w:World):Prop:=∃ m,w.cell? ⟨(8:Nat),0,none⟩=some (.int .i64 m)
theorem MaxV.below {w w':World} (h:MaxV w) (hb:Below w.heap.size w w'):MaxV w':=by
 obtain ⟨m,hm⟩:=h
 exact ⟨m,(hb.cell (p:=⟨(8:Nat),0,none⟩) (World.block_lt_of_cell? w _ hm)).trans hm⟩
theorem MaxV.wrote {w w':World} {b:Nat} (h:MaxV w) (hf:Fb w w' b) (hg:8<b):MaxV w':=by
 obtain ⟨m,hm⟩:=h
 exact ⟨m,(World.cell?_of_block (a:=⟨(8:Nat),0,none⟩) (hf.block _ (World.block_lt_of_cell? w _ hm) (Nat.ne_of_lt hg) (.inl hg))).trans hm⟩
theorem replace_any (s:ByteArray) (hs:s.size≤1000000) (w:World) (hm:MaxV w):Calls Tryz.prog 154 #[.string s,.string ⟨#[34]⟩,.string ⟨#[34,34]⟩] w fun e w'=>e = .returned (.string (strOfNums (dblL (sb s))))∧Below w.heap.size w w':=by
 obtain ⟨m,hm⟩:=hm
 have hc:Lib.countB s ⟨#[34]⟩≤s.size:=(rep34 _ s.data.toList (Nat.le_refl _)).2
 have h:=Tryz.strings_ReplaceAll s ⟨#[34]⟩ ⟨#[34,34]⟩ m w (by omega) hm (by decide) (by have:(⟨#[34,34]⟩:ByteArray).size=2:=rfl;rw [this];omega)
 rw [show (⟨(Lib.replaceAll s.data.toList (⟨#[34]⟩:ByteArray).data.toList (⟨#[34,34]⟩:ByteArray).data.toList).toArray⟩:ByteArray)=strOfNums (dblL (sb s)) from by
  rw [show (⟨#[34]⟩:ByteArray).data.toList=[34] from rfl,show (⟨#[34,34]⟩:ByteArray).data.toList=[34,34] from rfl,all34, ← str_sb ⟨(dblU s.data.toList).toArray⟩]
  congr 1
  show (dblU s.data.toList).map (fun b=>(b.toNat:Int))=_
  rw [dblU_sb];rfl] at h
 exact h
theorem Fb.below {w w':World} {b:Nat} (h:Below w.heap.size w w'):Fb w w' b:=⟨h.os,h.tape,h.output,h.size,fun k hk _ _=>h.block k hk⟩
set_option maxRecDepth 100000 in
set_option maxHeartbeats 4000000 in
theorem quoted_node (w:World) (b:Nat) (nv:Value) (st:List Pt) (txt:List Int) (n:Nd) (A:Option Addr) (m c:Nat) (h:WQ w b nv st txt) (hk:n.kind=2) (hz:n.text.size≤1000000) (hmv:MaxV w) (hgb:8<b) (hl:txt.length≤1000000000) :
 Calls Tryz.prog 120 #[.pointer (some ⟨b,0,none⟩),.agg #[.int .i64 n.kind,.int .i64 n.num,.string n.text,.string n.ref.sh,.int .i64 n.ref.c,.int .i64 n.ref.r,.bool n.ref.ac,.bool n.ref.ar,.string n.zto.sh,.int .i64 n.zto.c,.int .i64 n.zto.r,.bool n.zto.ac,.bool n.zto.ar,.slice A m c]] w (Wrote w b nv st txt n):=by
 have hB:Below w.heap.size w (w.alloc (.cells #[.int .i64 n.kind,.int .i64 n.num,.string n.text,.string n.ref.sh,.int .i64 n.ref.c,.int .i64 n.ref.r,.bool n.ref.ac,.bool n.ref.ar,.string n.zto.sh,.int .i64 n.zto.c,.int .i64 n.zto.r,.bool n.zto.ac,.bool n.zto.ar,.slice A m c] 100)):=(Below.refl _ _).alloc (Nat.le_refl _) _
 have HN:NdAt (w.alloc (.cells #[.int .i64 n.kind,.int .i64 n.num,.string n.text,.string n.ref.sh,.int .i64 n.ref.c,.int .i64 n.ref.r,.bool n.ref.ac,.bool n.ref.ar,.string n.zto.sh,.int .i64 n.zto.c,.int .i64 n.zto.r,.bool n.zto.ac,.bool n.zto.ar,.slice A m c] 100)) w.heap.size n (.slice A m c):=NdAt.new w n _
 have hs:stepN n=(34 :: (dblL (sb n.text)++[34]),[]):=by unfold stepN;rw [if_neg (by omega),if_pos hk]
 have hd:=dblL_len (sb n.text)
 rw [length_sb] at hd
 have hbw:b<w.heap.size:=by obtain ⟨wv,h1, -⟩:=h;exact h1.lt
 have hby:=bytes_dbl (sb n.text) (sb_bd n.text)
 have HS:=Lib.hid hs
 have HB:=Lib.hid hB
 obtain ⟨wv,h1,h2⟩:=h.below hB
 have HMV:=Lib.hid (hmv.below hB)
 clear h hs hk hmv hB
 go_enter Tryz.func120,Tryz.ntmps120
 go_upto_region 1 with (fail)
 obtain ⟨z,hzz⟩:∃ z,w.heap.size=z:=⟨_,rfl⟩
 obtain ⟨w1,hw1⟩:∃ w1,w.alloc (.cells #[.int .i64 n.kind,.int .i64 n.num,.string n.text,.string n.ref.sh,.int .i64 n.ref.c,.int .i64 n.ref.r,.bool n.ref.ac,.bool n.ref.ar,.string n.zto.sh,.int .i64 n.zto.c,.int .i64 n.zto.r,.bool n.zto.ac,.bool n.zto.ar,.slice A m c] 100)=w1:=⟨_,rfl⟩
 rw [hw1] at HN HB HMV h1 h2 ⊢
 rw [hzz] at HN ⊢
 have hzl:=HN.lt
 have hzb:z≠b:=by omega
 have HN2:=Lib.hid HN
 have HW:=Lib.hid (write_any w1 b nv wv txt ⟨#[34]⟩ h1 (by show txt.length+1≤_;omega))
 have HO:=Lib.hid h2
 clear hzz hw1 h1 h2 HN
 go_upto_region 2 with (go_at_call 86;((with_reducible refine HW.out.mono ?_);rintro e w2 ⟨⟨x,rfl⟩,h3,h4⟩;have HWS:=Lib.hid h3;have HF:=Lib.hid h4;clear h3 h4))
 have HN3:=Lib.hid (show NdAt w2 z n (.slice A m c) by
  unfold NdAt
  rw [HF.out.block z hzl hzb (.inr fun cur fr e=>by
   have h6:w1.heap[z]? = some (.cells (nodA n (.slice A m c)) 100):=HN2.out
   rw [h6] at e;injection e with e;injection e with _ e2;exact absurd e2 (by decide))]
  exact HN2.out)
 have HMV2:=Lib.hid (HMV.out.wrote HF.out hgb)
 have x2:=HN3.out.cells.2.2.1
 have hz2:=HN3.out.lt
 have HI:=Lib.hid (fun wr (hr:Below w2.heap.size w2 wr)=>replace_any n.text hz wr (HMV2.out.below hr))
 have HW2:=Lib.hid (fun wr (hr:Below w2.heap.size w2 wr)=>write_any wr b nv wv (txt++sb ⟨#[34]⟩) (strOfNums (dblL (sb n.text))) (HWS.out.below hr) (by rw [strOfNums_size,List.length_append];show txt.length+1+_≤_;omega))
 have H1:=Lib.hid ((Below.refl w2.heap.size w2).drew)
 go_region_held3 (fun w'=>w'.cell? ⟨z,2,none⟩=some (.string n.text)) (go_keep) (first
  | (go_at_call 154;((with_reducible refine (HI.out _ H1.out).mono ?_);rintro e w3 ⟨rfl,h3⟩;have H3:=Lib.hid (H1.out.trans (h3.mono H1.out.size));have y2:=(H3.out.cell (p:=⟨z,2,none⟩) hz2).trans x2;clear h3))
  | (go_at_call 86;((with_reducible refine (HW2.out _ H3.out).mono ?_);rintro e w4 ⟨⟨x,rfl⟩,h3,h4⟩;have HWS4:=Lib.hid h3;have HF4:=Lib.hid h4;have hzk:=HF4.out.block z (Nat.lt_of_lt_of_le hz2 H3.out.size) hzb (.inr fun cur fr e=>by
      have h5:=H3.out.block z hz2
      have h6:w2.heap[z]? = some (.cells (nodA n (.slice A m c)) 100):=HN3.out
      rw [h5,h6] at e;injection e with e;injection e with _ e2;exact absurd e2 (by decide));have z2:=(World.cell?_of_block (a:=⟨z,2,none⟩) hzk).trans y2;clear h3 h4 hzk)))
 have HW3:=Lib.hid (write_any w4 b nv wv _ ⟨#[34]⟩ HWS4.out (by rw [List.length_append,List.length_append,sb_str _ hby];show txt.length+1+_+1≤_;omega))
 go_wp2_with (go_at_call 86;((with_reducible refine HW3.out.mono ?_);rintro e w5 ⟨⟨x,rfl⟩,h3,h4⟩;have HWS5:=Lib.hid h3;have HF5:=Lib.hid h4;clear h3 h4))
 go_end0
 have HFF:=Lib.hid (((HF.out).trans (Fb.below H3.out)).trans (HF4.out.trans HF5.out))
 exact Wrote.of HB.out HO.out HWS5.out HFF.out (by rw [HS.out]) (by rw [HS.out,sb_str _ hby,show sb ⟨#[34]⟩=[34] by decide];simp [List.append_assoc])
theorem own_litP (w:World) (ps:List Pt) (cs:Array Value) (hcs:cs.toList=encPt.all ps) (hl:ps.length≤1000000):Own encPt 137 (w.alloc (.cells cs 137)) 0 (.slice (some ⟨w.heap.size,0,none⟩) ps.length ps.length) ps:=by
 have hs:cs.size=ps.length*3:=by rw [← Array.length_toList,hcs,Enc.length_all]
 refine ⟨by rw [Enc.length_all],.inr ⟨w.heap.size,ps.length,cs,rfl,Nat.zero_le _,(Go.MapKept.heap_alloc w _).1,Nat.le_refl _,by unfold maxLen;omega,hs, ?_⟩⟩
 rw [hcs,List.take_of_length_le (by rw [Enc.length_all];exact Nat.le_refl _)]
theorem WS.one {w:World} {b:Nat} {nv wv wv2:Value} {t1 t2:List Int} (h:WS w b nv wv t1) (h2:WS w b nv wv2 t2):wv2=wv:=by
 obtain ⟨ad,bv,h3,_⟩:=h
 obtain ⟨ad2,bv2,h4,_⟩:=h2
 have e:w.heap[b]? = some (.cells #[nv,wv,ad,bv] 134):=h3
 have e2:w.heap[b]? = some (.cells #[nv,wv2,ad2,bv2] 134):=h4
 rw [e] at e2;injection e2 with e2;injection e2 with e2;simp at e2;exact e2.1.symm
theorem push_lit (w:World) (b:Nat) (nv:Value) (st ps:List Pt) (txt:List Int) (cs:Array Value) (k:Nat) (hk:ps.length=k) (hcs:cs.toList=encPt.all ps) (h:WQ w b nv st txt) (hl1:ps.length≤1000000) (hl2:st.length≤2000000000) :
 Calls Tryz.prog 61 #[.pointer (some ⟨b,0,none⟩),.slice (some ⟨w.heap.size,0,none⟩) k k] (w.alloc (.cells cs 137)) fun e w'=>e = .returned (.tuple #[])∧WQ w' b nv (st++ps.reverse) txt∧Fq w w' b:=by
 subst hk
 have hb:Below w.heap.size w (w.alloc (.cells cs 137)):=(Below.refl _ _).alloc (Nat.le_refl _) _
 obtain ⟨wv,hws,ho⟩:=h
 refine (push_any (w.alloc (.cells cs 137)) b nv st ps txt w.heap.size ps.length ⟨wv,hws.below hb,ho.below hb (Nat.le_refl _)⟩ (own_litP w ps cs hcs hl1) ?_ hl1 hl2).mono ?_
 · intro wv2 h2 e
   rw [(hws.below hb).one h2] at e
   have:=(Own.blockLt ho _ e).2.1
   omega
 · rintro e w' ⟨h1,h2,h3⟩
   exact ⟨h1,h2,(Fq.ofBelow hb).trans h3⟩
theorem op_lit (i m:Int) (w:World):Calls Tryz.prog 62 #[.int .i64 i,.int .i64 m] w fun e w'=>e = .returned (.agg #[.string ⟨#[]⟩,.int .i64 i,.int .i64 m])∧Below w.heap.size w w':=operand_any i m w
theorem plain_lit (t:ByteArray) (w:World):Calls Tryz.prog 88 #[.string t] w fun e w'=>e = .returned (.agg #[.string t,.int .i64 0,.int .i64 0])∧Below w.heap.size w w':=plain_any t w
theorem SI.fq {w w':World} {B b:Nat} {v:Value} {xs:List Int} (h:SI w B v xs) (hf:Fq w w' b) (hB:B≤b) (hw:b<w.heap.size):SI w' B v xs:=by
 obtain ⟨A,cap,h1,h2,h3,h4⟩:=h
 refine ⟨A,cap,h1,h2,h3,h4.imp id ?_⟩
 rintro ⟨pb,po,e1,e2,e3⟩
 exact ⟨pb,po,e1,e2,fun j x hj=>(World.cell?_of_block (a:=⟨pb,po+j,none⟩) (hf.block pb (by omega) (by omega) (.inl (by omega)))).trans (e3 j x hj)⟩
set_option maxRecDepth 100000 in
set_option maxHeartbeats 4000000 in
theorem negative_node (w:World) (b:Nat) (nv:Value) (st:List Pt) (txt:List Int) (n:Nd) (A:Option Addr) (m c:Nat) (h:WQ w b nv st txt) (hk:n.kind=8) (k0:Int) (hk0:n.kids[0]? = some k0) (hsi:SI w b (.slice A m c) n.kids) (hl:txt.length≤1000000000) (hls:st.length≤2000000000) :
 Calls Tryz.prog 126 #[.pointer (some ⟨b,0,none⟩),.agg #[.int .i64 n.kind,.int .i64 n.num,.string n.text,.string n.ref.sh,.int .i64 n.ref.c,.int .i64 n.ref.r,.bool n.ref.ac,.bool n.ref.ar,.string n.zto.sh,.int .i64 n.zto.c,.int .i64 n.zto.r,.bool n.zto.ac,.bool n.zto.ar,.slice A m c]] w (Wrote w b nv st txt n):=by
 have hB:Below w.heap.size w (w.alloc (.cells #[.int .i64 n.kind,.int .i64 n.num,.string n.text,.string n.ref.sh,.int .i64 n.ref.c,.int .i64 n.ref.r,.bool n.ref.ac,.bool n.ref.ar,.string n.zto.sh,.int .i64 n.zto.c,.int .i64 n.zto.r,.bool n.zto.ac,.bool n.zto.ar,.slice A m c] 100)):=(Below.refl _ _).alloc (Nat.le_refl _) _
 have HN:NdAt (w.alloc (.cells #[.int .i64 n.kind,.int .i64 n.num,.string n.text,.string n.ref.sh,.int .i64 n.ref.c,.int .i64 n.ref.r,.bool n.ref.ac,.bool n.ref.ar,.string n.zto.sh,.int .i64 n.zto.c,.int .i64 n.zto.r,.bool n.zto.ac,.bool n.zto.ar,.slice A m c] 100)) w.heap.size n (.slice A m c):=NdAt.new w n _
 have hs:stepN n=([45],[Pt.op k0 5]):=by
  unfold stepN;rw [if_neg (by omega),if_neg (by omega),if_neg (by omega),if_neg (by omega),if_neg (by omega),if_neg (by omega),if_neg (by omega),if_pos hk,List.getD_eq_getElem?_getD,hk0];rfl
 have hbw:b<w.heap.size:=by obtain ⟨wv,h1, -⟩:=h;exact h1.lt
 have hsi1:=hsi.below hB (Nat.le_of_lt hbw)
 obtain ⟨A',cap',hsl,hcm, -,hcell⟩:=hsi1
 injection hsl with e1 e2 e3
 have hpos:0<n.kids.length:=(List.getElem?_eq_some_iff.1 hk0).1
 obtain ⟨pb,po,hA,hpb,hcl⟩:=hcell.resolve_left (fun e=>by rw [e] at hpos;exact absurd hpos (by decide))
 have hc0:=hcl 0 k0 hk0
 rw [Nat.add_zero] at hc0
 have hA2:=e1.trans hA
 subst hA2;subst e3
 clear e1 hA
 have hm0:(0:Int)<(m:Int):=by omega
 have hm1:0<m:=by omega
 have HS:=Lib.hid hs
 have HB:=Lib.hid hB
 obtain ⟨wv,h1,h2⟩:=h.below hB
 clear h hs hk hB hsi e2 hcl hpos hcell hk0
 go_enter Tryz.func126,Tryz.ntmps126
 go_upto_region 1 with (fail)
 obtain ⟨z,hzz⟩:∃ z,w.heap.size=z:=⟨_,rfl⟩
 obtain ⟨w1,hw1⟩:∃ w1,w.alloc (.cells #[.int .i64 n.kind,.int .i64 n.num,.string n.text,.string n.ref.sh,.int .i64 n.ref.c,.int .i64 n.ref.r,.bool n.ref.ac,.bool n.ref.ar,.string n.zto.sh,.int .i64 n.zto.c,.int .i64 n.zto.r,.bool n.zto.ac,.bool n.zto.ar,.slice (some ⟨pb,po,none⟩) m c] 100)=w1:=⟨_,rfl⟩
 rw [hw1] at HN HB h1 h2 hc0 ⊢
 rw [hzz] at HN ⊢
 have hzl:=HN.lt
 have hzb:z≠b:=by omega
 have HN2:=Lib.hid HN
 have HW:=Lib.hid (write_any w1 b nv wv txt ⟨#[45]⟩ h1 (by show txt.length+1≤_;omega))
 have HO:=Lib.hid h2
 clear hzz hw1 h1 h2 HN
 go_upto_region 2 with (go_at_call 86;((with_reducible refine HW.out.mono ?_);rintro e w2 ⟨⟨x,rfl⟩,h3,h4⟩;have HWS:=Lib.hid h3;have HF:=Lib.hid h4;clear h3 h4))
 have hN3:NdAt w2 z n (.slice (some ⟨pb,po,none⟩) m c):=by
  unfold NdAt
  rw [HF.out.block z hzl hzb (.inr fun cur fr e=>by
   have h6:w1.heap[z]? = some (.cells (nodA n (.slice (some ⟨pb,po,none⟩) m c)) 100):=HN2.out
   rw [h6] at e;injection e with e;injection e with _ e2;exact absurd e2 (by decide))]
  exact HN2.out
 obtain ⟨-, -, -, -, -, -, -, -, -, -, -, -, -,x13⟩:=hN3.cells
 have hbw1:b<w1.heap.size:=Nat.lt_of_lt_of_le hbw HB.out.size
 have hd0:w2.cell? ⟨pb,po,none⟩=some (.int .i64 k0):=(World.cell?_of_block (a:=⟨pb,po,none⟩) (HF.out.block pb (by omega) (by omega) (.inl hpb))).trans hc0
 have HWQ2:=Lib.hid (show WQ w2 b nv st (txt++[45]) from by
  have h:=WQ.wrote HO.out HWS.out HF.out
  rwa [show sb ⟨#[45]⟩=[45] by decide] at h)
 have HPU:=Lib.hid (fun (w3:World) (h3:Below w2.heap.size w2 w3)=>push_lit w3 b nv st [Pt.op k0 5] (txt++[45]) #[.string ⟨#[]⟩,.int .i64 k0,.int .i64 5] 1 rfl rfl (HWQ2.out.below h3) (by show 1≤1000000;decide) hls)
 clear hN3 hc0
 go_wp2_with (first
  | (go_at_call 62;((with_reducible refine (op_lit _ _ _).mono ?_);rintro e w3 ⟨rfl,h3⟩;have HB3:=Lib.hid h3;clear h3))
  | (go_at_call 61;((with_reducible refine (HPU.out _ HB3.out).mono ?_);rintro e w5 ⟨rfl,h3,h4⟩;have HQ5:=Lib.hid h3;have HF5:=Lib.hid h4;clear h3 h4)))
 go_end0
 refine ⟨rfl, ?_,(Fq.ofBelow HB.out).trans ((Fq.ofB HF.out).trans ((Fq.ofBelow HB3.out).trans HF5.out))⟩
 rw [HS.out];exact HQ5.out
end Go.Proofs.YtnahgpjglooclaaGreatDoor
