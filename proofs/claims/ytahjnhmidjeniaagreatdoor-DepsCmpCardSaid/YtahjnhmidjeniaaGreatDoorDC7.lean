import Derived.Test.YtahjnhmidjeniaaGreatDoorDC6
import Derived.Lib.UnsafeStr
import Derived.RangeFuncNested
import Derived.RangeFuncBound
import Derived.RangeFuncCalls
import Derived.RangeFuncLeaves
import Derived.Shelf.Abstract
import Derived.OwnWalkIn
import Derived.TacticsInMore
import Derived.LoopNIn
import Derived.LoopIn
import Derived.Shelf.RegionOpen
import Derived.OrdersIn
import Derived.OrdersHeld
import Derived.Shelf.Strings.Builder1
import Derived.Shelf.Strings.Builder2
import Derived.Shelf.Strings.Split
import Derived.Shelf.Strings.Replace
import Derived.Shelf.Unicode.DecodeAny
import Derived.Ground.Names2Prog
import Derived.Shelf.Slices.SearchI
import Derived.Shelf.Slices.Cells
set_option maxRecDepth 100000
set_option maxHeartbeats 64000000
namespace Go.Proofs.YtahjnhmidjeniaaGreatDoor
open Go.RowKit
def dA(w:World)(b:Nat)(nv wv ad bv:Value):Prop:=w.heap[b]? = some (.cells #[nv,wv,ad,bv] 139)
section
variable {w:World} {b:Nat} {nv wv ad bv:Value}
theorem dA.lt(h:dA w b nv wv ad bv):b<w.heap.size:=(cu.1 h).1
theorem dA.facts (h:dA w b nv wv ad bv):w.cell? ⟨b,0,none⟩=some nv∧w.cell? ⟨b,1,none⟩=some wv∧w.cell? ⟨b,2,none⟩=some ad∧w.cell? ⟨b,3,none⟩=some bv :=
 ⟨by rw[cell_of_row w b 0 _ _ _ h];rfl,by rw[cell_of_row w b 1 _ _ _ h];rfl,by rw[cell_of_row w b 2 _ _ _ h];rfl,by rw[cell_of_row w b 3 _ _ _ h];rfl⟩
theorem dA.frozen(h:dA w b nv wv ad bv)(j:Nat):w.frozen? ⟨b,j,none⟩=false:=frozen_of_row w b j _ _ h
theorem dA.below{w':World}{B:Nat}(h:dA w b nv wv ad bv)(hb:Below B w w')(hB:b<B):dA w' b nv wv ad bv:=by unfold dA;rw[hb.block b hB];exact h
theorem dA.Li(h:dA w b nv wv ad bv)(v:Value):dA (w.setCell ⟨b,1,none⟩ v) b nv v ad bv:=by unfold dA;rw[heap_setCell_same w b 1 _ _ _ h];rfl
theorem dA.WR(h:dA w b nv wv ad bv)(v:Value):dA (w.setCell ⟨b,2,none⟩ v) b nv wv v bv:=by unfold dA;rw[heap_setCell_same w b 2 _ _ _ h];rfl
theorem dA.AL(h:dA w b nv wv ad bv)(v:Value):dA (w.setCell ⟨b,3,none⟩ v) b nv wv ad v:=by unfold dA;rw[heap_setCell_same w b 3 _ _ _ h];rfl
theorem dA.shape (h:dA w b nv wv ad bv):w.shape? b=some (139,4):=by
 have h':w.heap[b]? = some (.cells #[nv,wv,ad,bv] 139):=h;simp[World.shape?,h']
end
theorem QE (w:World)(b:Nat)(h0:w.cell? ⟨b,2,none⟩=some (.pointer (some ⟨b,2,none⟩))) :
 Calls Tryz.prog 126 #[.pointer (some ⟨b,2,none⟩)] w fun e w'=>e = .returned (.tuple #[])∧w=w':=by
 obtain⟨j,hj,_⟩:=Hq;go_enter Tryz.func126,Tryz.ntmps126;go_wp2_with fail
 rw[Lib.run_neq_ptr_same w _ Tryz.underlying135 hj];go_wp2_with fail
 go_end0;exact⟨rfl,rfl⟩
theorem QD (w:World)(b:Nat)(nv wv bv:Value)(h:dA w b nv wv (.pointer none) bv) :
 Calls Tryz.prog 126 #[.pointer (some ⟨b,2,none⟩)] w fun e w'=>e = .returned (.tuple #[])∧w.setCell ⟨b,2,none⟩ (.pointer (some ⟨b,2,none⟩))=w':=by
 obtain⟨j,hj,hjs⟩:=Hq;obtain⟨-, -,h0, -⟩:=h.facts;have hfz:=h.frozen 2;have hsh:=h.shape;have SC:liesAt Tryz.prog Tryz.prog.depth 139 (4 / Tryz.prog.cellsOf 139) 2 137 1=true:=by kernel_rfl
 go_enter Tryz.func126,Tryz.ntmps126;go_wp2_with fail
 rw[Lib.run_to_unsafe w ⟨b,2,none⟩ Tryz.underlying135 Tryz.underlying206 hj (by rw[hjs];decide) hsh (by show 2<4;omega)];simp only[Result.andThen];rw[Oper.upon_value];go_wp2_with fail
 rw[run_callFunc_extern Tryz.func160 (by kernel_rfl) (by kernel_rfl) (by kernel_rfl) (e:=Extern.AbiNoEscape.same) (by kernel_rfl)];rw[Lib.run_noEscape];simp only[Result.andThen];rw[Oper.upon_value];go_wp2_with fail
 rw[Lib.run_from_unsafe w ⟨b,2,none⟩ Tryz.underlying206 Tryz.underlying135 hj hsh SC];simp only[Result.andThen];rw[Oper.upon_value];go_wp2_with fail
 go_end0;exact⟨rfl,rfl⟩
def iG(w:World)(b:Nat)(nv wv:Value)(txt:List Int):Prop:=∃ad bv,dA w b nv wv ad bv∧(ad = .pointer none∨ad = .pointer (some ⟨b,2,none⟩))∧mU w (b+1) bv txt∧Bytes txt
theorem iG.lt{w:World}{b:Nat}{nv wv:Value}{txt:List Int}(h:iG w b nv wv txt):b<w.heap.size:=by obtain⟨_,_,h,_⟩:=h;exact h.lt
theorem iG.below {w w':World}{b:Nat}{nv wv:Value}{txt:List Int}(h:iG w b nv wv txt)(hb:Below w.heap.size w w'):iG w' b nv wv txt:=by
 have hl:=h.lt;obtain⟨ad,bv,h1,h2,h3,h4⟩:=h;exact⟨ad,bv,h1.below hb hl,h2,h3.below hb (aj _),h4⟩
theorem nG (w:World)(b:Nat)(nv wv:Value)(txt:List Int)(s:ByteArray)(h:iG w b nv wv txt)(hlen:txt.length+s.size≤10000000000) :
 Calls Tryz.prog 94 #[.pointer (some ⟨b,2,none⟩),.string s] w fun e w'=>(∃x,e = .returned (.tuple #[x,.nilIface]))∧iG w' b nv wv (txt++sb s)∧dR w w' b:=by
 have step:∀(ad bv:Value)(wc:World),dA wc b nv wv ad bv→mU wc (b+1) bv txt→∀(v':Value)(w1:World),mU w1 (b+1) v' (txt++sb s)→wc.grownBy w1 bv.ownBlock→dA w1 b nv wv ad bv∧dR wc w1 b:=by
  intro ad bv wc h1 h2 v' w1 _ hg;have hf:=dR.own h2 hg;refine⟨?_,hf⟩;unfold dA;rw[hg.block b h1.lt (fun e=>by have:=Ev h2 b e.symm;omega)];exact h1
 have HST:=ae step;have hsm:s.size≤10000000000:=by omega
 obtain⟨ad,bv,hw,had,ho,hby⟩:=h;have uk:=ae (hby.append (p9 s));clear hby;clear step;rcases had with rfl|rfl
 · have Bv:=ae (QD w b nv wv bv hw)
   have HW:=ae (hw.WR (.pointer (some ⟨b,2,none⟩)));have HO:=ae (Own.other ho (grownBy.dP (grownBy.dH w (some b)) 2 (.pointer (some ⟨b,2,none⟩))) (Nat.lt_succ_self b):mU (w.setCell ⟨b,2,none⟩ (.pointer (some ⟨b,2,none⟩))) (b+1) bv txt);have HF:=ae (dR.setCell (w:=w) (b:=b) 2 (.pointer (some ⟨b,2,none⟩)));clear hw ho;go_enter Tryz.func94,Tryz.ntmps94;go_upto_region 2 with (go_at_call 126;((with_reducible refine Bv.o.mono ?_);rintro e w1 ⟨rfl,rfl⟩))
   generalize w.setCell ⟨b,2,none⟩ (.pointer (some ⟨b,2,none⟩))=w1 at HW HO HF ⊢;obtain⟨c0,c1,c2,c3⟩:=HW.o.facts;have hbz:=HW.o.lt;go_wp2_with (at_builtin;refine Nc Elem.u8 (bK .u8) rfl (.tmp 12) (.tmp 13) rfl (b+1) _ _ rfl HO.o (.string s) s.size (sb s) rfl (bn s) (AZ s) ?_ ?_ ?_ ?_;omega;(unfold maxLen;omega);omega;intro v3 w3 h1 h2;obtain⟨o8,n3,c3',hv3⟩:=Az h1;subst hv3;obtain⟨h3,h4⟩:=HST.o _ _ _ HW.o HO.o _ w3 h1 h2;have f3:=h3.frozen 3;obtain⟨y0,y1,y2,y3⟩:=h3.facts;have HW3:=ae (h3.AL (.slice o8 n3 c3'));have fE:=ae ((HF.o.trans h4).trans (dR.setCell 3 (.slice o8 n3 c3')));have bF:=ae (Own.other h1 (grownBy.dP (grownBy.dH w3 (some b)) 3 (.slice o8 n3 c3')) (Nat.lt_succ_self b):mU (w3.setCell ⟨b,3,none⟩ (.slice o8 n3 c3')) (b+1) (.slice o8 n3 c3') (txt++sb s));clear h1 h2 h3 h4 c0 c1 c2 c3)
   go_ret2
   exact⟨⟨_,rfl⟩,⟨_,_,HW3.o,.inr rfl,bF.o,uk.o⟩,fE.o⟩
 · have Bv:=ae (QE w b hw.facts.2.2.1)
   have HW:=ae hw;have HO:=ae ho;have HF:=ae (dR.refl w b);clear hw ho;go_enter Tryz.func94,Tryz.ntmps94;go_upto_region 2 with (go_at_call 126;((with_reducible refine Bv.o.mono ?_);rintro e w1 ⟨rfl,rfl⟩))
   obtain⟨c0,c1,c2,c3⟩:=HW.o.facts;have hbz:=HW.o.lt;go_wp2_with (at_builtin;refine Nc Elem.u8 (bK .u8) rfl (.tmp 12) (.tmp 13) rfl (b+1) _ _ rfl HO.o (.string s) s.size (sb s) rfl (bn s) (AZ s) ?_ ?_ ?_ ?_;omega;(unfold maxLen;omega);omega;intro v3 w3 h1 h2;obtain⟨o8,n3,c3',hv3⟩:=Az h1;subst hv3;obtain⟨h3,h4⟩:=HST.o _ _ _ HW.o HO.o _ w3 h1 h2;have f3:=h3.frozen 3;obtain⟨y0,y1,y2,y3⟩:=h3.facts;have HW3:=ae (h3.AL (.slice o8 n3 c3'));have fE:=ae ((HF.o.trans h4).trans (dR.setCell 3 (.slice o8 n3 c3')));have bF:=ae (Own.other h1 (grownBy.dP (grownBy.dH w3 (some b)) 3 (.slice o8 n3 c3')) (Nat.lt_succ_self b):mU (w3.setCell ⟨b,3,none⟩ (.slice o8 n3 c3')) (b+1) (.slice o8 n3 c3') (txt++sb s));clear h1 h2 h3 h4 c0 c1 c2 c3)
   go_ret2
   exact⟨⟨_,rfl⟩,⟨_,_,HW3.o,.inr rfl,bF.o,uk.o⟩,fE.o⟩
theorem Qh:Tryz.prog.cellsOf 5=1:=by kernel_rfl
theorem XX(s:ByteArray):sb s=s.data.toList.map fun x=>(x.toNat:Int):=rfl
theorem YU (w:World)(b:Nat)(nv wv:Value)(txt:List Int)(h:iG w b nv wv txt)(hne:txt≠[]) :
 Calls Tryz.prog 73 #[.pointer (some ⟨b,2,none⟩)] w fun e w'=>e = .returned (.string (strOfNums txt))∧Below (b+1) w w':=by
 obtain⟨ad,bv,hw, -,ho,hby⟩:=h;obtain⟨s,hs⟩:∃s,strOfNums txt=s:=⟨_,rfl⟩;have hsb:sb s=txt:=by rw[← hs];exact iJ txt hby
 rw[hs];obtain⟨l,hl⟩:∃l,s.data.toList=l:=⟨_,rfl⟩;have hls:(⟨l.toArray⟩:ByteArray)=s:=by rw[← hl]
 have htx:txt=l.map fun x=>(x.toNat:Int):=by rw[← hsb,XX,hl]
 have hl0:l≠[]:=fun e=>hne (by rw[htx,e];rfl)
 have hlen:txt.length=l.length:=by rw[htx,dQ]
 obtain⟨g,cap,cur,rfl,hbg,hg,hnc,hcm,hcs,xZ⟩:=ho.2.resolve_left (fun h=>hl0 (List.length_eq_zero_iff.1 (by rw[← hlen];exact h.2)));have hlp:0<l.length:=List.length_pos_iff.2 hl0;have HO:=ho;rw[hlen]at hnc hw;have c3:w.cell? ⟨b,3,none⟩=some (.slice (some ⟨g,0,none⟩) l.length cap):=hw.facts.2.2.2
 have hSD:(Builtin.unsafeSliceData_ #[44] 173 #[.slice (some ⟨g,0,none⟩) l.length cap]).run Tryz.prog w.drew = .ok (.pointer (some ⟨g,0,none⟩)) w.drew :=
  Lib.run_unsafeSliceData_row _ _ _ _ _ _ (by omega)
 have hUS:(Builtin.unsafeString_ #[173,3] 9 #[.pointer (some ⟨g,0,none⟩),.int .i64 l.length]).run Tryz.prog w.drew = .ok (.string s) (w.drew.freeze ⟨g,0,none⟩ l.length):=by
  rw[← hls];refine Lib.run_unsafeString_row w.drew 173 3 9 5 Tryz.underlying173 Qh g cur.size (by have hg':w.drew.heap[g]? = some (.cells cur 5):=hg;simp[World.shape?,hg']) l hl0 (by omega) (by unfold maxLen at hcm;omega) ?_;intro j x hx;have h1:(txt.map fun y=>Value.int .u8 y)[j]? = some (.int .u8 (x.toNat:Int)):=by rw[htx,List.map_map,List.getElem?_map,hx];rfl
  have h2:((bK .u8).all txt)[j]? = some (.int .u8 (x.toNat:Int)):=by rw[uF];exact h1
  have:=Own.cells HO j _ h2
  simpa [Addr.add_mid]using this
 clear HO ho hby xZ hcs htx hsb hl hls hs;go_enter Tryz.func73,Tryz.ntmps73;go_wp2_with fail
 go_region
 all_goals (go_wp2_with fail;go_ret;exact⟨rfl,Lib.below_freeze (Below.drew (ak (b+1) w)) (p:=⟨g,0,none⟩) hbg _⟩)
theorem EA (k:Int)(w:World):Calls Tryz.prog 95 #[.int .i64 k] w fun e w'=>e = .returned (.int .i64 ((bq k:Nat)+1:Int))∧w=w':=by
 have fin:∀r:Nat,bq k=r→(Calls Tryz.prog 95 #[.int .i64 k] w fun e w'=>e = .returned (.int .i64 ((r:Int)+1))∧w=w')→Calls Tryz.prog 95 #[.int .i64 k] w fun e w'=>e = .returned (.int .i64 ((bq k:Nat)+1:Int))∧w=w':=fun r h1 h2=>by rw[h1];exact h2
 by_cases h9:k=9
 · refine fin 0 (by subst h9;rfl) ?_
   clear fin;subst h9;go_enter Tryz.func95,Tryz.ntmps95;go_wp2_with fail
   go_ret;exact⟨rfl,rfl⟩
 by_cases h10:k=10
 · refine fin 0 (by subst h10;rfl) ?_
   clear fin;subst h10;go_enter Tryz.func95,Tryz.ntmps95;go_wp2_with fail
   go_ret;exact⟨rfl,rfl⟩
 by_cases h11:k=11
 · refine fin 0 (by subst h11;rfl) ?_
   clear fin;subst h11;go_enter Tryz.func95,Tryz.ntmps95;go_wp2_with fail
   go_ret;exact⟨rfl,rfl⟩
 by_cases h12:k=12
 · refine fin 0 (by subst h12;rfl) ?_
   clear fin;subst h12;go_enter Tryz.func95,Tryz.ntmps95;go_wp2_with fail
   go_ret;exact⟨rfl,rfl⟩
 by_cases h13:k=13
 · refine fin 0 (by subst h13;rfl) ?_
   clear fin;subst h13;go_enter Tryz.func95,Tryz.ntmps95;go_wp2_with fail
   go_ret;exact⟨rfl,rfl⟩
 by_cases h14:k=14
 · refine fin 0 (by subst h14;rfl) ?_
   clear fin;subst h14;go_enter Tryz.func95,Tryz.ntmps95;go_wp2_with fail
   go_ret;exact⟨rfl,rfl⟩
 by_cases h15:k=15
 · refine fin 1 (by subst h15;rfl) ?_
   clear fin;subst h15;go_enter Tryz.func95,Tryz.ntmps95;go_wp2_with fail
   go_ret;exact⟨rfl,rfl⟩
 by_cases h16:k=16
 · refine fin 2 (by subst h16;rfl) ?_
   clear fin;subst h16;go_enter Tryz.func95,Tryz.ntmps95;go_wp2_with fail
   go_ret;exact⟨rfl,rfl⟩
 by_cases h17:k=17
 · refine fin 2 (by subst h17;rfl) ?_
   clear fin;subst h17;go_enter Tryz.func95,Tryz.ntmps95;go_wp2_with fail
   go_ret;exact⟨rfl,rfl⟩
 by_cases h18:k=18
 · refine fin 3 (by subst h18;rfl) ?_
   clear fin;subst h18;go_enter Tryz.func95,Tryz.ntmps95;go_wp2_with fail
   go_ret;exact⟨rfl,rfl⟩
 by_cases h19:k=19
 · refine fin 3 (by subst h19;rfl) ?_
   clear fin;subst h19;go_enter Tryz.func95,Tryz.ntmps95;go_wp2_with fail
   go_ret;exact⟨rfl,rfl⟩
 by_cases h8:k=8
 · refine fin 4 (by subst h8;rfl) ?_
   clear fin;subst h8;go_enter Tryz.func95,Tryz.ntmps95;go_wp2_with fail
   go_ret;exact⟨rfl,rfl⟩
 refine fin 5 (by unfold bq;rw[af (by omega),af h15,af (by omega),af (by omega),af h8]) ?_;have e8:(k == 8)=false:=aB.2 h8;have e9:(k == 9)=false:=aB.2 h9;have e10:(k == 10)=false:=aB.2 h10;have e11:(k == 11)=false:=aB.2 h11;have e12:(k == 12)=false:=aB.2 h12;have e13:(k == 13)=false:=aB.2 h13;have e14:(k == 14)=false:=aB.2 h14;have e15:(k == 15)=false:=aB.2 h15;have e16:(k == 16)=false:=aB.2 h16;have e17:(k == 17)=false:=aB.2 h17;have e18:(k == 18)=false:=aB.2 h18;have e19:(k == 19)=false:=aB.2 h19;clear fin h8 h9 h10 h11 h12 h13 h14 h15 h16 h17 h18 h19;go_enter Tryz.func95,Tryz.ntmps95;go_wp2_with fail
 go_ret;exact⟨rfl,rfl⟩
def jq(p:au):Array Value:=#[.string p.t,.int .i64 p.node,.int .i64 p.least]
theorem WL (p:au):∀u∈(jq p).toList,u.oneCell'=true:=by
 intro v hv;simp only[jq,gp,List.not_mem_nil,or_false]at hv;rcases hv with rfl|rfl|rfl <;> rfl
def kV:Enc au 3:={ f:=fun p=>(jq p).toList,len:=fun _=>rfl,one:=WL }
theorem WM:(Tryz.prog.info? 142).map (·.size)=some 3:=by kernel_rfl
def eT(w:World)(b:Nat)(p:au):Prop:=w.heap[b]? = some (.cells (jq p) 142)
theorem eT.new(w:World)(p:au):eT (w.alloc (.cells (jq p) 142)) w.heap.size p:=(gV w _).1
theorem Eu {w:World}{b:Nat}{p:au}(h:eT w b p)(fn:Func)(tmps:Array Value)(s:Tmp)(hf:fn.results=#[.cell s 142])(hp:tmps.getD s undef = .pointer (some ⟨b,0,none⟩)) :
 (results fn tmps).run Tryz.prog w = .ok (.agg (jq p)) w :=
 results_cell_row hf tmps w b _ _ _ _ hp h Tryz.underlying142 rfl WM
theorem eT.cells {w:World}{b:Nat}{p:au}(h:eT w b p):w.cell? ⟨b,0,none⟩=some (.string p.t)∧w.cell? ⟨b,1,none⟩=some (.int .i64 p.node)∧w.cell? ⟨b,2,none⟩=some (.int .i64 p.least) :=
 ⟨by rw[cell_of_row w b 0 _ _ _ h];rfl,by rw[cell_of_row w b 1 _ _ _ h];rfl,by rw[cell_of_row w b 2 _ _ _ h];rfl⟩
theorem eT.dM{w:World}{b:Nat}{p:au}(h:eT w b p):w.frozen? ⟨b,0,none⟩=false∧w.frozen? ⟨b,1,none⟩=false∧w.frozen? ⟨b,2,none⟩=false:=⟨frozen_of_row w b 0 _ _ h,frozen_of_row w b 1 _ _ h,frozen_of_row w b 2 _ _ h⟩
theorem eT.AL {w:World}{b:Nat}{p0:au}(h:eT w b p0)(p:au):eT (((w.setCell ⟨b,0,none⟩ (.string p.t)).setCell ⟨b,1,none⟩ (.int .i64 p.node)).setCell ⟨b,2,none⟩ (.int .i64 p.least)) b p:=by
 have h1:(w.setCell ⟨b,0,none⟩ (.string p.t)).heap[b]? = some (.cells #[.string p.t,.int .i64 p0.node,.int .i64 p0.least] 142):=by rw[heap_setCell_same w b 0 _ _ _ h];rfl
 have h2:((w.setCell ⟨b,0,none⟩ (.string p.t)).setCell ⟨b,1,none⟩ (.int .i64 p.node)).heap[b]? = some (.cells #[.string p.t,.int .i64 p.node,.int .i64 p0.least] 142):=by rw[heap_setCell_same _ b 1 _ _ _ h1];rfl
 unfold eT;rw[heap_setCell_same _ b 2 _ _ _ h2];rfl
theorem eT.keep{w w':World}{b:Nat}{p:au}(h:eT w b p)(hk:w'.heap[b]? = w.heap[b]?):eT w' b p:=by unfold eT;rw[hk];exact h
theorem dR.ou{w w':World}{b:Nat}(h:w.grownBy w' (some b)):dR w w' b:=⟨h.os,h.tape,h.output,h.size,fun k hk hkb _=>h.block k hk (fun e=>hkb (dV e))⟩
theorem Da{a w:World}{r:Option Nat}{z:Nat}(h:a.grownBy w r)(hz:a.heap.size≤z)(v0 v1 v2:Value):a.grownBy (((w.setCell ⟨z,0,none⟩ v0).setCell ⟨z,1,none⟩ v1).setCell ⟨z,2,none⟩ v2) r:=grownBy.oG (grownBy.oG (grownBy.oG h ⟨z,0,none⟩ v0 hz) ⟨z,1,none⟩ v1 hz) ⟨z,2,none⟩ v2 hz
theorem Xu:Tryz.f96.results=#[.cell 2 142]:=by kernel_rfl
theorem Xt:Tryz.f70.results=#[.cell 4 142]:=by kernel_rfl
theorem Xv:Tryz.f72.results=#[.cell 2 142]:=by kernel_rfl
theorem Wy (t:ByteArray)(w:World):Calls Tryz.prog 96 #[.string t] w fun e w'=>e = .returned (.agg (jq (au.plain t)))∧Below w.heap.size w w':=by
 have HN:=ae (eT.new w (au.plain t));have HB:=ae ((ak w.heap.size w).alloc (aj _) (.cells (jq (au.plain t)) 142));go_enter Tryz.func96,Tryz.ntmps96;go_wp2_with fail
 exact bodyPost_ret (Eu HN.o _ _ 2 Xu rfl) rfl ⟨rfl,HB.o⟩
theorem VY (i m:Int)(w:World):Calls Tryz.prog 70 #[.int .i64 i,.int .i64 m] w fun e w'=>e = .returned (.agg (jq (au.op i m)))∧Below w.heap.size w w':=by
 have HN:=ae (eT.new w (au.op i m));have HB:=ae ((ak w.heap.size w).alloc (aj _) (.cells (jq (au.op i m)) 142));go_enter Tryz.func70,Tryz.ntmps70;go_wp2_with fail
 exact bodyPost_ret (Eu HN.o _ _ 4 Xt rfl) rfl ⟨rfl,HB.o⟩
def bg(w:World)(b:Nat)(nv:Value)(st:List au)(txt:List Int):Prop:=∃wv,iG w b nv wv txt∧Own kV 142 w (b+1) wv st
theorem Wq {α : Type}{size:Nat}{E:Enc α size}{e:TypeId}{w:World}{base g cap:Nat}{st:List α}(h:Own E e w base (.slice (some ⟨g,0,none⟩) st.length cap) st)(k:Nat)(hk:k≤st.length):Own E e w base (.slice (some ⟨g,0,none⟩) k cap) (st.take k):=by
 have hl:(st.take k).length=k:=by rw[iB];omega
 rcases h.2 with ⟨h1,_⟩|⟨g',mf,cur,h1,h2,h3,h4,h5,h6,h7⟩
 · cases h1
 · injection h1 with e1 e2 e3
   injection e1 with e1;injection e1 with e1;subst e1;subst e3;refine⟨by rw[Enc.iZ],.inr ⟨g,cap,cur,by rw[hl],h2,h3,by omega,h5,h6, ?_⟩⟩;have h8:(cur.toList.take (st.length*size)).take (k*size)=(E.all st).take (k*size):=by rw[h7]
   rw[List.take_take,Nat.min_eq_left (Nat.mul_le_mul_right _ hk)]at h8;rw[hl,h8]
   conv=>lhs;rw[← List.take_append_drop k st,E.all_append]
   exact List.take_left' (by rw[E.iZ,hl])
theorem Wz (w:World)(b:Nat)(nv:Value)(st:List au)(p:au)(txt:List Int)(h:bg w b nv (st++[p]) txt)(hlen:st.length≤10000000000) :
 Calls Tryz.prog 72 #[.pointer (some ⟨b,0,none⟩)] w fun e w'=>e = .returned (.agg (jq p))∧bg w' b nv st txt∧dR w w' b:=by
 obtain⟨wv,⟨ad,bv,hw,had,ho,hby⟩,hq⟩:=h;have hq0:=hq;obtain⟨g,cap,rfl,hbg,hgs,hnc,hcm⟩:=Own.some hq (by simp);have hlt:=hw.lt;have hn:(st++[p]).length=st.length+1:=by simp
 obtain⟨n,hst⟩:∃n,st.length=n:=⟨_,rfl⟩;have hx:(st++[p])[n]? = some p:=by rw[← hst];simp
 have k0:w.cell? ⟨g,n*3,none⟩=some (.string p.t):=Own.cells hq0 (n*3) _ (by have:=kV.at (st++[p]) n 0 p hx (by omega);rw[Nat.add_zero]at this;rw[this];rfl);have k1:w.cell? ⟨g,n*3+1,none⟩=some (.int .i64 p.node):=Own.cells hq0 (n*3+1) _ (by rw[kV.at (st++[p]) n 1 p hx (by omega)];rfl);have k2:w.cell? ⟨g,n*3+2,none⟩=some (.int .i64 p.least):=Own.cells hq0 (n*3+2) _ (by rw[kV.at (st++[p]) n 2 p hx (by omega)];rfl);rw[hn,hst]at hq0 hnc hw;have hg1:g<w.heap.size:=hgs;have hn9:n≤10000000000:=by omega
 have hi1:(0:Int)≤(n:Int):=by omega
 have hi2:(n:Int)<(n:Int)+1:=by omega
 have hi3:n≤cap:=by omega
 have hi4:(n:Int)≤(cap:Int):=by omega
 obtain⟨c0,c1,c2,c3⟩:=hw.facts;have hB1:Below w.heap.size w (w.alloc (.cells #[.string ⟨#[]⟩,.int .i64 0,.int .i64 0] 142)):=(ak _ _).alloc (aj _) _;have qj:=ae (show eT (w.alloc (.cells #[.string ⟨#[]⟩,.int .i64 0,.int .i64 0] 142)) w.heap.size (au.plain ⟨#[]⟩)from eT.new w (au.plain ⟨#[]⟩));have a1:=(hB1.cell (p:=⟨b,1,none⟩) hlt).trans c1;have j0:=(hB1.cell (p:=⟨g,n*3,none⟩) hg1).trans k0;have j1:=(hB1.cell (p:=⟨g,n*3+1,none⟩) hg1).trans k1;have j2:=(hB1.cell (p:=⟨g,n*3+2,none⟩) hg1).trans k2;have HB1:=ae hB1;have HW:=ae hw;have HO:=ae ho;have HQ:=ae hq;have uk:=ae hby;have HST:=ae hst;clear hB1 c0 c1 c2 c3 k0 k1 k2 hq0 hx hn hst hw ho hq hby hlen;go_enter Tryz.func72,Tryz.ntmps72;go_upto_region 1 with (fail)
 generalize hz:w.heap.size=z at qj ⊢;have hwz:w.heap.size≤z:=Nat.le_of_eq hz;generalize (w.alloc (.cells #[.string ⟨#[]⟩,.int .i64 0,.int .i64 0] 142))=w1 at qj HB1 a1 j0 j1 j2 ⊢;clear hz;have NK:=qj;go_upto_region 2 with (fail)
 have hB2:Below w1.heap.size w1 (w1.alloc (.cells #[.string p.t,.int .i64 p.node,.int .i64 p.least] 142)):=(ak _ _).alloc (aj _) _;have l5:eT (w1.alloc (.cells #[.string p.t,.int .i64 p.node,.int .i64 p.least] 142)) w1.heap.size p:=eT.new w1 p;have hb1:b<w1.heap.size:=fM hlt HB1.o.size;have a2:=(hB2.cell (p:=⟨b,1,none⟩) hb1).trans a1;have HB2:=ae (HB1.o.trans (hB2.mono HB1.o.size))
 have HZ2:=ae (show eT (w1.alloc (.cells #[.string p.t,.int .i64 p.node,.int .i64 p.least] 142)) z (au.plain ⟨#[]⟩)from by
  unfold eT;rw[hB2.block z (cu.1 qj.o).1];exact qj.o)
 clear hB2;go_upto_region 3 with (fail)
 generalize hq2:w1.heap.size=q at l5 ⊢;generalize w1.alloc (.cells #[.string p.t,.int .i64 p.node,.int .i64 p.least] 142)=w2 at l5 HB2 HZ2 a2 ⊢;have hb2:b<w2.heap.size:=fM hlt HB2.o.size;have HW2:=ae (HW.o.below HB2.o hlt);have f1:=HW2.o.frozen 1;clear a1 j0 j1 j2;go_upto_region 4 with (fail)
 have HW3:=ae (HW2.o.Li (.slice (some ⟨g,0,none⟩) n cap));have lN:q≠b:=by have:=HB1.o.size;omega
 have hzb:z≠b:=by omega
 have hzq:z≠q:=by have:=(cu.1 NK.o).1;omega
 have fu:=l5.keep (jA w2 ⟨b,1,none⟩ (.slice (some ⟨g,0,none⟩) n cap) q lN);have HZ3:=HZ2.o.keep (jA w2 ⟨b,1,none⟩ (.slice (some ⟨g,0,none⟩) n cap) z hzb);have fT:=ae (grownBy.dP (grownBy.below' (grownBy.dH w (some b)) HB2.o) 1 (.slice (some ⟨g,0,none⟩) n cap));generalize w2.setCell ⟨b,1,none⟩ (.slice (some ⟨g,0,none⟩) n cap)=w3 at HW3 fu HZ3 fT ⊢;obtain⟨y0,y1,y2⟩:=fu.cells;obtain⟨z0,z1,z2⟩:=HZ3.dM;obtain⟨u0,u1,u2⟩:=HZ3.cells;have OL:=ae (HZ3.AL p);have mQ:=ae (Da fT.o hwz (.string p.t) (.int .i64 p.node) (.int .i64 p.least))
 have OA:=ae (show dA (((w3.setCell ⟨z,0,none⟩ (.string p.t)).setCell ⟨z,1,none⟩ (.int .i64 p.node)).setCell ⟨z,2,none⟩ (.int .i64 p.least)) b nv (.slice (some ⟨g,0,none⟩) n cap) ad bv from by
  unfold dA;rw[jA _ ⟨z,2,none⟩ _ b (fun e=>hzb e.symm),jA _ ⟨z,1,none⟩ _ b (fun e=>hzb e.symm),jA _ ⟨z,0,none⟩ _ b (fun e=>hzb e.symm)];exact HW3.o)
 clear fu HZ3 f1;go_wp2_with fail
 have JF:=Wq HQ.o st.length (by simp);rw[List.take_left,HST.o]at JF;exact bodyPost_ret (Eu OL.o _ _ 2 Xv rfl) rfl ⟨rfl,⟨_,⟨ad,bv,OA.o,had,Own.other HO.o mQ.o (Nat.lt_succ_self b),uk.o⟩,Own.other JF mQ.o (Nat.lt_succ_self b)⟩,dR.ou mQ.o⟩
end Go.Proofs.YtahjnhmidjeniaaGreatDoor
namespace Go.Proofs.YtahjnhmidjeniaaGreatDoor
open Go.RowKit Go.Shelf
attribute [local go_sem] Oper.semAt_some
variable {x y:Nat}{w:World}
def il(x y:Nat)(w w':World):Prop:=w'.heap[x]? = w.heap[x]? ∧ w'.heap[y]? = w.heap[y]?
theorem il.refl(x y:Nat)(w:World):il x y w w:=⟨rfl,rfl⟩
theorem il.trans{a b c:World}(h:il x y a b)(k:il x y b c):il x y a c:=⟨k.1.trans h.1,k.2.trans h.2⟩
theorem il.H6{w':World}(h:il x y w w')(j:Nat):w'.cell? ⟨x,j,none⟩=w.cell? ⟨x,j,none⟩:=dx (a:=⟨x,j,none⟩) h.1
theorem il.zN{w':World}(h:il x y w w')(j:Nat):w'.cell? ⟨y,j,none⟩=w.cell? ⟨y,j,none⟩:=dx (a:=⟨y,j,none⟩) h.2
theorem MU (hx:x<w.heap.size)(hy:y<w.heap.size)(W:World)(l:Nat)(o o':Obj)(hl:w.heap.size≤l)(h:W.heap[l]? = some o)(_:o.isCells=false)(_:o.isWalk=false):il x y W (W.putObj l o'):=by
 have hlt:=(cu.1 h).1;have hg:=grownBy_putObj' W l o';exact⟨hg.block x (by omega) (fun e=>by have:=dV e;omega),hg.block y (by omega) (fun e=>by have:=dV e;omega)⟩
end Go.Proofs.YtahjnhmidjeniaaGreatDoor
namespace Go.Proofs.YtahjnhmidjeniaaGreatDoor
open Go.RowKit Go.Shelf
attribute [local go_sem] Oper.semAt_some
def pG(ps:List au)(q:Nat):List (Nat × au):=(List.range (ps.length - q)).map fun j=>(ps.length - 1 - j,ps.getD (ps.length - 1 - j) (au.plain ⟨#[]⟩))
theorem HY(ps:List au):pG ps ps.length=[]:=by unfold pG;simp
theorem HZ (ps:List au)(m:Nat)(p:au)(hp:ps[m]? = some p):pG ps m=pG ps (m+1)++[(m,p)]:=by
 have hl:=(eH.1 hp).1;unfold pG;rw[show ps.length - m=(ps.length - (m+1))+1 by omega,List.range_succ,gW];show _++[(ps.length - 1 - (ps.length - (m+1)),_)]=_;rw[show ps.length - 1 - (ps.length - (m+1))=m by omega,iM,hp];rfl
theorem P8(ps:List au)(q:Nat):(pG ps q).length=ps.length - q:=by unfold pG;simp
theorem Po (F:Fence)(n:Nat)(h7:F.fn 125)(hro:F.round=none)(hn:1≤n)(l Bs b cap:Nat)(ps:List au)(hlen:ps.length≤1000000000)(J Jx:List (Nat × au)→World→Prop)
 (hY:∀pre x W,J pre W→pre.length<ps.length→YieldAt F (n - 1) Tryz.prog l #[.int .i64 (x.1:Int),.agg (jq x.2)] W fun e W' =>
   (e = .returned (.bool true)∧J (pre++[x]) W'∧il Bs b W W')∨(e = .returned (.bool false)∧Jx (pre++[x]) W'))
 (W:World) (rF:W.cell? ⟨Bs,0,none⟩=some (.slice (some ⟨b,0,none⟩) ps.length cap)) (hc:∀m p,ps[m]? = some p→W.cell? ⟨b,m*3,none⟩=some (.string p.t)∧W.cell? ⟨b,m*3+1,none⟩=some (.int .i64 p.node)∧W.cell? ⟨b,m*3+2,none⟩=some (.int .i64 p.least)) (h0:J [] W) :
 CallsIn F n Tryz.prog 125 #[.func (.yield l) #[] #[],.pointer (some ⟨Bs,0,none⟩)] W fun e W'=>(∃v,e = .returned v) ∧
  ((∃ys,ys=pG ps 0∧J ys W')∨(∃pre,True∧Jx pre W')):=by
 obtain⟨L,hL⟩:∃L,ps.length=L:=⟨_,rfl⟩;have HL:=ae hL;rw[hL]at hlen rF;refine callsIn_of_wp Tryz.func125 rfl h7 ?_ hro;simp only[Tryz.ntmps125,List.size_toArray,aN,fO,Nat.reduceAdd,Nat.reduceSub,Array.replicate_succ,Array.replicate_zero,List.push_toArray,List.append_toArray,eY,bM];gi_wp2
 gi_loopw [3] (fun i wr=>∃q:Nat,q≤L∧i = .int .i64 ((q:Int) - 1)∧J (pG ps q) wr∧il Bs b W wr)
  (fun i _=>(intOf i+1).toNat)
 case atStart=>exact⟨L,aj _,rfl,by rw[← hL,HY];exact h0,il.refl _ _ _⟩
 case round =>
  obtain⟨q,hq,rfl,hJs,hnx⟩:=hrel;have RX:=(hnx.H6 0).trans rF;cases q with
  | zero =>
    gi_wp2
    go_end0;exact⟨⟨_,rfl⟩,.inl ⟨_,rfl,hJs⟩⟩
  | succ m =>
    obtain⟨p,hp⟩:∃p,ps[m]? = some p:=⟨_,aX (by omega)⟩;obtain⟨c0,c1,c2⟩:=hc m p hp;have d0:=(hnx.zN (m*3)).trans c0;have d1:=(hnx.zN (m*3+1)).trans c1;have d2:=(hnx.zN (m*3+2)).trans c2;have hst:=HZ ps m p hp;obtain⟨fn,tmps,assign,body,hy,hR⟩:=hY _ (m,p) wr hJs (by rw[P8];omega);rw[← hst]at hR;dsimp only[jq]at hy;have hm1:((m+1:Nat):Int) - 1=(m:Int):=by omega
    rw[hm1];have SF:(m:Int)<(L:Int):=by omega
    have hm0:(0:Int)≤(m:Int):=by omega
    clear hm1 c0 c1 c2 hc hJs hst;gi_wp2
    refine hR.mono ?_;rintro e W3 (⟨rfl,hJ3,hk3⟩|⟨rfl,De⟩)
    · gi_wp2
      go_roundw
      case rel=>exact⟨m,by omega,by simp,hJ3,hnx.trans hk3⟩
      case measure=>simp[intOf]
    · gi_wp2
      refine bodyPost_ret (results_none rfl _ _ _) rfl ?_;exact⟨⟨_,rfl⟩,.inr ⟨_,trivial,De⟩⟩
theorem PE (F:Fence)(n:Nat)(h5:F.fn 93)(hro:F.round=none)(a:Option Addr)(len cap:Nat)(w:World) :
 CallsIn F n Tryz.prog 93 #[.slice a len cap] w fun e w'=>e = .returned (.func (.func 125) #[] #[.pointer (some ⟨w.heap.size,0,none⟩)])∧w.alloc (.cells #[.slice a len cap] 134)=w':=by
 refine callsIn_of_wp Tryz.func93 rfl h5 ?_ hro;simp only[Tryz.ntmps93,List.size_toArray,aN,fO,Nat.reduceAdd,Nat.reduceSub,Array.replicate_succ,Array.replicate_zero,List.push_toArray,List.append_toArray,eY,bM];gi_wp2
 go_ret;exact⟨rfl,rfl⟩
theorem Pz (F:Fence)(n:Nat)(h7:F.fn 125)(hro:F.round=none)(hn:1≤n)(Bs b cap:Nat)(ps:List au)(hlen:ps.length≤1000000000)(w:World)(hB:Bs<w.heap.size)(hb:b<w.heap.size)
 (rF:w.cell? ⟨Bs,0,none⟩=some (.slice (some ⟨b,0,none⟩) ps.length cap)) (hc:∀m p,ps[m]? = some p→w.cell? ⟨b,m*3,none⟩=some (.string p.t)∧w.cell? ⟨b,m*3+1,none⟩=some (.int .i64 p.node)∧w.cell? ⟨b,m*3+2,none⟩=some (.int .i64 p.least)) :
 SeqStopsK F n Tryz.prog 125 #[.pointer (some ⟨Bs,0,none⟩)] (fun x:Nat × au=>#[Value.int .i64 (x.1:Int),.agg (jq x.2)]) (il Bs b) (fun ys=>ys=pG ps 0) (fun _=>True) ps.length w:=fun l J Jx W hW _ _ hY h0 =>
 Po F n h7 hro hn l Bs b cap ps hlen J Jx hY W ((hW.cell hB).trans rF) (fun m p hp=>by
  obtain⟨c0,c1,c2⟩:=hc m p hp;exact⟨(hW.cell (p:=⟨b,m*3,none⟩) hb).trans c0,(hW.cell (p:=⟨b,m*3+1,none⟩) hb).trans c1,(hW.cell (p:=⟨b,m*3+2,none⟩) hb).trans c2⟩) h0
theorem P9:∀(ps:List au)(q:Nat),q≤ps.length→(pG ps q).map (·.2)=(ps.drop q).reverse:=by
 intro ps q
 induction h:ps.length - q generalizing q with
 | zero =>
   intro hq;have:q=ps.length:=by omega
   subst this;rw[HY,List.drop_length];rfl
 | succ d ih =>
   intro hq;obtain⟨p,hp⟩:∃p,ps[q]? = some p:=⟨_,aX (by omega)⟩;have hl:=(eH.1 hp).1;rw[HZ ps q p hp,gW,ih (q+1) (by omega) (by omega),List.drop_eq_getElem_cons hl,List.reverse_cons];have:ps[q]=p:=by rw[aX hl]at hp;exact dV hp
   rw[this];rfl
end Go.Proofs.YtahjnhmidjeniaaGreatDoor
namespace Go.Proofs.YtahjnhmidjeniaaGreatDoor
open Go.RowKit Go.Shelf
attribute [local go_sem] Oper.semAt_some
variable {txt:List Int}{b:Nat}{nv:Value}{A B w:World}
structure aH (w w':World)(b:Nat):Prop where
 os:w'.os=w.os
 tape:w'.tape=w.tape
 output:w'.output=w.output
 size:w.heap.size≤w'.heap.size
 block:∀k,k<w.heap.size→k≠b→(k<b∨∀cur fr,w.heap[k]? ≠ some (.cells cur 5 fr)∧w.heap[k]? ≠ some (.cells cur 142 fr))→w'.heap[k]? = w.heap[k]?
theorem aH.refl(w:World)(b:Nat):aH w w b:=⟨rfl,rfl,rfl,aj _,fun _ _ _ _=>rfl⟩
theorem aH.trans {w1 w2:World}(h:aH w w1 b)(k:aH w1 w2 b):aH w w2 b :=
 ⟨k.os.trans h.os,k.tape.trans h.tape,k.output.trans h.output,eO h.size k.size,fun j hj hb hr=>by
  have h1:=h.block j hj hb hr;rw[k.block j (fM hj h.size) hb (hr.imp id fun hn cur fr=>by rw[h1];exact hn cur fr)];exact h1⟩
theorem aH.ou{w':World}(h:dR w w' b):aH w w' b:=⟨h.os,h.tape,h.output,h.size,fun k hk hb hr=>h.block k hk hb (hr.imp id fun hn cur fr=>(hn cur fr).1)⟩
theorem aH.dU{w':World}(h:Below w.heap.size w w'):aH w w' b:=⟨h.os,h.tape,h.output,h.size,fun k hk _ _=>h.block k hk⟩
theorem aH.stay {row:Option Nat}(h:aH w A b)(hg:A.grownBy B row)(hr:∀r,row=some r→w.heap.size≤r):aH w B b :=
 ⟨hg.os.trans h.os,hg.tape.trans h.tape,hg.output.trans h.output,eO h.size hg.size,fun k hk hb h1=>by
  rw[hg.block k (fM hk h.size) (fun e=>by have:=hr k e.symm;omega)];exact h.block k hk hb h1⟩
theorem sP {row:Option Nat}(hg:A.grownBy B row)(hr:∀r,row=some r→∃o:Obj,A.heap[r]? = some o∧o.isCells=false){x:Nat}{cs:Array Value}{t:TypeId}{fr:Nat × Nat}(h:A.heap[x]? = some (.cells cs t fr)):B.heap[x]? = some (.cells cs t fr):=by
 rw [hg.block x (cu.1 h).1 (fun e=>by
  obtain⟨o,ho,hc⟩:=hr x e.symm;rw[h]at ho;cases ho;cases hc)]
 exact h
theorem Ay {α : Type}{size:Nat}{E:Enc α size}{e:TypeId}{base:Nat}{v:Value}{xs:List α}(h:Own E e A base v xs){row:Option Nat}(hg:A.grownBy B row)(hr:∀r,row=some r→∃o:Obj,A.heap[r]? = some o∧o.isCells=false):Own E e B base v xs:=by
 refine⟨h.1, ?_⟩;rcases h.2 with h|⟨g,cap,cur,h1,h2,h3,h4⟩
 · exact .inl h
 · exact .inr ⟨g,cap,cur,h1,h2,sP hg hr h3,h4⟩
theorem iG.stay {wv:Value}(h:iG A b nv wv txt){row:Option Nat}(hg:A.grownBy B row)(hr:∀r,row=some r→∃o:Obj,A.heap[r]? = some o∧o.isCells=false):iG B b nv wv txt:=by
 obtain⟨ad,bv,h1,h2,h3,h4⟩:=h;exact⟨ad,bv,sP hg hr h1,h2,Ay h3 hg hr,h4⟩
def vQ (w:World)(b:Nat)(nv:Value)(st:List au)(txt:List Int)(lb:Nat)(pre:List (Nat × au))(W:World):Prop :=
 (∃wv,iG W b nv wv txt∧Own kV 142 W (b+1) wv (st++pre.map (·.2))∧wv.ownBlock≠some lb)∧Boxed W w.heap.size 133 (.pointer (some ⟨b,0,none⟩))∧W.heap[lb]? = w.heap[lb]?
theorem vQ.below {st:List au}{lb:Nat}{pre:List (Nat × au)}{W W':World}(h:vQ w b nv st txt lb pre W)(hb:Below W.heap.size W W')(hl:lb<W.heap.size):vQ w b nv st txt lb pre W':=by
 obtain⟨⟨wv,h1,h2,h3⟩,h4,h5⟩:=h;have h4':W.heap[w.heap.size]? = some (.cells #[.pointer (some ⟨b,0,none⟩)] 133):=h4;exact⟨⟨wv,h1.below hb,h2.below hb (aj _),h3⟩,(show W'.heap[w.heap.size]? = _ from(hb.block _ (cu.1 h4').1).trans h4'),(hb.block lb hl).trans h5⟩
theorem WO {st:List au}{lb:Nat}{cs:Array Value}{fr:Nat × Nat}(hlb:w.heap[lb]? = some (.cells cs 142 fr))(B:Nat):OwnFrom B (vQ w b nv st txt lb):=by
 rintro pre X Y row ⟨⟨wv,h1,h2,h3⟩,h4,h5⟩ hg hr;have hr2:∀r,row=some r→∃o:Obj,X.heap[r]? = some o∧o.isCells=false:=fun r e=>(hr r e).2
 refine⟨⟨wv,iG.stay h1 hg hr2,Ay h2 hg hr2,h3⟩,boxed_own w.heap.size 133 (fun (_:Unit)=>Value.pointer (some ⟨b,0,none⟩)) () X Y row h4 hg hr2, ?_⟩;rw[sP hg hr2 (h5.trans hlb)];exact hlb.symm
end Go.Proofs.YtahjnhmidjeniaaGreatDoor
namespace Go.Proofs.YtahjnhmidjeniaaGreatDoor
open Go.RowKit
variable {P:Program} {ops:Array Oper} {md:Region.Mode} {l n:Nat}
def zB(N:Act→World→Prop):Exit→Act→World→Prop:=fun e a w=>e = .normal∧N a w
theorem Lj (N:Act→World→Prop):¬ LetsOut (zB N):=by
 rintro⟨a,w,h,_⟩;cases h
theorem XJ {row:String}{args:Array Value}{w:World}{R:Value→World→Prop}(h:Rows P row args w R):RowsIn (Fence.wide.inRound l) n P row args w R:=fun c cs _=>by
 obtain⟨v,w',r,s⟩:=h c cs;exact⟨v,w',r,stepsIn_wide.2 s⟩
theorem ZK {o:Oper}{a:Act}{K K':Act→World→Prop}(hK:∀a w,K a w→K' a w){Q:Exit→Act→World→Prop}{r:Result Next}(h:o.upon P a K (zB (Q .normal)) r):o.uponIn (Fence.wide.inRound l) n P a K' Q r:=by
 unfold Oper.upon at h;split at h
 · exact hK _ _ h
 · exact hK _ _ h
 · exact hK _ _ h
 · refine⟨fun hd=>(by cases hd),CallsIn.inRound l ((callsIn_wide.2 h).mono ?_)⟩
   rintro e w' he;cases e with
   | returned v=>exact hK _ _ he
   | panicked c=>exact absurd he.1 (by intro h;cases h)
   | outgrown=>exact absurd he (Lj _)
 · exact⟨fun hd=>(by cases hd),(XJ h).mono fun v w' hv=>hK _ _ hv⟩
 · exact absurd h.1 (by intro h;cases h)
 · exact h.elim
theorem zH {Q:Exit→Act→World→Prop}(hnd:∀(i:Nat)(o:Oper),ops[i]? = some o→∀c,o.op ≠ .defer c):∀(fuel:Nat)(listed:Array Bool)(a:Act)(w:World),wpAny P md ops (zB (Q .normal)) fuel listed a w→wpAnyIn (Fence.wide.inRound l) n P md ops Q fuel listed a w
 | 0,_,_,_,h=>⟨h.1,h.2.2⟩
 | fuel + 1,listed,a,w,h=>by
   refine⟨fun hr=>(h.1 hr).2,fun i hi => ?_⟩;have hs:=h.2 i hi;unfold wpOp at hs;unfold wpOpIn;cases ho:ops[i]? with
   | none=>rw[ho]at hs;exact zH hnd fuel _ _ _ hs
   | some o =>
     rw[ho]at hs;simp only at hs ⊢;by_cases hw:Region.wanted o (yielded ops a.tmps)=true
     · rw[ah hw]at hs ⊢
       have hs:=hs.resolve_right (fun hx=>Lj _ hx.2);refine⟨fun _ _=>trivial, ?_⟩;rw[Oper.semAt_eq _ _ _ (hnd i o ho)];exact ZK (fun a' w' h'=>zH hnd fuel _ a' w' h') hs
     · rw[af hw]at hs ⊢
       exact⟨fun _ _=>trivial,zH hnd fuel _ _ _ hs⟩
def Ep(ops:Array Oper):Bool:=ops.toList.all fun o=>match o.op with | .defer _=>false|_=>true
theorem Vw {ops:Array Oper}(h:Ep ops=true)(i:Nat)(o:Oper)(ho:ops[i]? = some o):∀c,o.op ≠ .defer c:=by
 intro c e;unfold Ep at h;rw[List.all_eq_true]at h;have h2:=h o (by rw[← Array.getElem?_toList]at ho;exact bN ho);rw[e]at h2;cases h2
theorem ED {Q:Exit→Act→World→Prop}{id:Nat}{a:Act}{w:World}(hm:P.follows .mixedOrders=true)(hnd:Ep ops=true)
 (h:wpAny P .any ops (zB (Q .normal)) ops.size (Array.replicate ops.size false) a w.drew):(Code.region id ops true).wpIn (Fence.wide.inRound l) n P Q a w :=
 wpIn_region_any hm (zH (fun i o ho=>Vw hnd i o ho) _ _ _ _ h)
end Go.Proofs.YtahjnhmidjeniaaGreatDoor
namespace Go.Proofs.YtahjnhmidjeniaaGreatDoor
open Go.RowKit Go.Shelf
attribute [local go_sem] Oper.semAt_some
theorem Elem.part:Elem Tryz.prog 134 142 3 32:=⟨Tryz.underlying134,⟨.agg #[.string ⟨#[]⟩,.int .i64 0,.int .i64 0],by kernel_rfl,rfl⟩,by decide⟩
theorem O9 {P:Program}{α : Type}{size t e bytes:Nat}{w:World}(ty:TypeId)(bS:Elem P t e size bytes)(E:Enc α size)(base:Nat)(v:Value)(xs:List α)(dK:Own E e w base v xs)(ad:Addr)(m c:Nat)(ys:List α)(hl:ys.length=m)
 (hc:∀(j:Nat)(u:Value),(E.all ys)[j]? = some u→w.cell? (ad.add j)=some u) (hb:(xs.length+m)*bytes≤140737488355328) (hb2:xs.length+m≤maxLen) (dF:base≤w.heap.size) :
 ∃v' w',(Builtin.append_ #[t,t] ty #[v,.slice (some ad) m c]).run P w = .ok v' w'∧Own E e w' base v' (xs++ys)∧w.grownBy w' v.ownBlock∧(v'.ownBlock=v.ownBlock∨v'.ownBlock=some w.heap.size):=by
 obtain⟨z,hi,hz⟩:=bS.inf;obtain⟨i,hi1,hi2,hi3,hi4⟩:=info_parts hi;obtain⟨v',w',iP,r1,r2,_,r4⟩:=run_append_own_at (P:=P) w base t ty e i z size bytes bS.und hi1 hi2 hi3 hi4 hz bS.pos v xs.length (E.all xs) dK ad m c (E.all ys) (by rw[E.iZ,hl]) hc (E.tK ys) hb2 hb dF;refine⟨v',w',iP, ?_,r2,r4⟩;unfold Own;rw[E.all_append,ax,hl];exact r1
theorem Nh {P:Program}{t:TypeId}{w w':World}{o:Oper}{a:Act}{K:Act→World→Prop}{Q:Exit→Act→World→Prop}{v x v':Value}(s y:Operand)(ho:o.op = .call { callee := .builtin .append,args:=#[s,y],argTypes:=#[t,t] })(hs:a.eval s=v)(hx:a.eval y=x)
 (iP:(Builtin.append_ #[t,t] o.type #[v,x]).run P w = .ok v' w') (h:K (a.put o.dst v') w'):Oper.wp P o a w K Q:=by
 unfold Oper.wp;simp[execOp,ho,resolve,invoke,builtin,hs,hx,iP,Result.andThen];exact h
theorem WQ (w:World)(b:Nat)(nv:Value)(st ps:List au)(txt:List Int)(lb cap:Nat)(h:bg w b nv st txt)(hps:Own kV 142 w 0 (.slice (some ⟨lb,0,none⟩) ps.length cap) ps)(hne:∀wv,iG w b nv wv txt→wv.ownBlock≠some lb)(hl1:ps.length≤1000000)(hl2:st.length≤2000000000) :
 Calls Tryz.prog 69 #[.pointer (some ⟨b,0,none⟩),.slice (some ⟨lb,0,none⟩) ps.length cap] w fun e w'=>e = .returned (.tuple #[])∧bg w' b nv (st++ps.reverse) txt∧aH w w' b:=by
 obtain⟨wv,hws,hq⟩:=h;have hwb:=hws.lt
 have hlt:lb<w.heap.size:=by
  rcases hps.2 with ⟨h1,_⟩|⟨g',mf,cur,h1,_,h3,_⟩
  · cases h1
  · injection h1 with e1;injection e1 with e1;injection e1 with e1;subst e1;exact(cu.1 h3).1
 refine(callsIn_wide (n:=6)).1 ?_;refine callsIn_of_wp_marks Tryz.func69 rfl trivial ?_ rfl;simp only[Tryz.ntmps69,List.size_toArray,aN,fO,Nat.reduceAdd,Nat.reduceSub,Array.replicate_succ,Array.replicate_zero,List.push_toArray,List.append_toArray,eY,bM]
 gi_wp2_with (refine⟨trivial, ?_⟩;gi_at_call 93;refine(PE Fence.wide _ trivial rfl _ _ _ _).mono ?_;rintro e w' ⟨rfl,rfl⟩)
 have sK:=(Boxed.new w 133 (.pointer (some ⟨b,0,none⟩))).alloc (.cells #[.slice (some ⟨lb,0,none⟩) ps.length cap] 134);have pg:=Boxed.new (w.alloc (.cells #[.pointer (some ⟨b,0,none⟩)] 133)) 134 (.slice (some ⟨lb,0,none⟩) ps.length cap);simp only[iC]at pg;have hB0:Below w.heap.size w ((w.alloc (.cells #[.pointer (some ⟨b,0,none⟩)] 133)).alloc (.cells #[.slice (some ⟨lb,0,none⟩) ps.length cap] 134)):=((ak _ w).alloc (aj _) _).alloc (by simp) _;have hsz:((w.alloc (.cells #[.pointer (some ⟨b,0,none⟩)] 133)).alloc (.cells #[.slice (some ⟨lb,0,none⟩) ps.length cap] 134)).heap.size=w.heap.size+2:=by simp
 obtain⟨W0,hW0⟩:∃W0,(w.alloc (.cells #[.pointer (some ⟨b,0,none⟩)] 133)).alloc (.cells #[.slice (some ⟨lb,0,none⟩) ps.length cap] 134)=W0:=⟨_,rfl⟩;rw[hW0]at sK pg hB0 hsz ⊢;clear hW0
 obtain ⟨lcs,lfr,Js⟩:∃cs fr,w.heap[lb]? = some (.cells cs 142 fr):=by
  rcases hps.2 with ⟨h1,_⟩|⟨g',mf,cur,h1,_,h3,_⟩
  · cases h1
  · injection h1 with e1;injection e1 with e1;injection e1 with e1;subst e1;exact⟨_,_,h3⟩
 have hcell:∀m p,ps[m]? = some p→w.cell? ⟨lb,m*3,none⟩=some (.string p.t)∧w.cell? ⟨lb,m*3+1,none⟩=some (.int .i64 p.node)∧w.cell? ⟨lb,m*3+2,none⟩=some (.int .i64 p.least):=fun m p hp =>
  ⟨Own.cells hps (m*3) _ (by have:=kV.at ps m 0 p hp (by omega);rw[Nat.add_zero]at this;rw[this];rfl),Own.cells hps (m*3+1) _ (by rw[kV.at ps m 1 p hp (by omega)];rfl),Own.cells hps (m*3+2) _ (by rw[kV.at ps m 2 p hp (by omega)];rfl)⟩
 refine wpIn_rangeFunc_ownH (F:=Fence.wide) (n:=6) rfl (by omega) (gf:=125) (lb:=#[.pointer (some ⟨w.heap.size+1,0,none⟩)]) rfl trivial (enters_of Tryz.func125 (by kernel_rfl) rfl)
  (Pz Fence.wide 5 trivial rfl (by omega) (w.heap.size+1) lb cap ps (by omega) W0 (by omega) (by omega) pg.cell (fun m p hp=>⟨(hB0.cell (p:=⟨lb,m*3,none⟩) hlt).trans (hcell m p hp).1,(hB0.cell (p:=⟨lb,m*3+1,none⟩) hlt).trans (hcell m p hp).2.1,(hB0.cell (p:=⟨lb,m*3+2,none⟩) hlt).trans (hcell m p hp).2.2⟩))
  il.trans (MU (by omega) (by omega)) (ak _ _) (fun _=>rfl)
  (fun pre W=>vQ w b nv st txt lb pre W∧aH w W b∧w.heap.size+2≤W.heap.size∧Boxed W (w.heap.size+1) 134 (.slice (some ⟨lb,0,none⟩) ps.length cap))
  (fun _ _ _=>False)
  ?hI (fun _ _ _ _ _ hs _ _=>hs) ?h0
  (fun x a' W=>∃Bx,w.heap.size+1<Bx∧eT W Bx x.2∧(∃wv ad bv,dA W b nv wv ad bv∧wv.ownBlock≠some Bx)∧a'={ tmps:=#[.pointer (some ⟨b,0,none⟩),.slice (some ⟨lb,0,none⟩) ps.length cap,.pointer (some ⟨w.heap.size,0,none⟩),undef,undef,.pointer (some ⟨Bx,0,none⟩),.slice (some ⟨lb,0,none⟩) ps.length cap,.func (.func 125) #[] #[.pointer (some ⟨w.heap.size+1,0,none⟩)],.int .i64 (x.1:Int),.agg (jq x.2),undef,undef,undef,undef,undef,undef,undef,undef,undef,undef],defers:=[] })
  ?hAx ?assign ?body ?done ?stop
 case hI =>
  rintro pre X Y row ⟨h1,h2,h3,h4⟩ hg hr;refine⟨WO Js _ pre X Y row h1 hg hr,h2.stay hg (fun r e=>by have:=(hr r e).1;omega),by have:=hg.size;omega,sP hg (fun r e=>(hr r e).2) h4⟩
 case h0 =>
  refine⟨⟨⟨wv,hws.below hB0,by rw[List.map_nil,bE];exact Own.below hq hB0 (aj _),hne wv hws⟩,sK,hB0.block lb hlt⟩,aH.dU hB0,by omega,pg⟩
 case hAx =>
  rintro x a' _ X Y row ⟨Bx,h1,h2,⟨wv2,uE,uG,h4,h5⟩,h3⟩ hg hr;exact⟨Bx,h1,sP hg (fun r e=>(hr r e).2) h2,⟨wv2,uE,uG,sP hg (fun r e=>(hr r e).2) h4,h5⟩,h3⟩
 case assign =>
  rintro l pre ⟨j,p⟩ W K ⟨hI,hF,hz,hbs⟩ hK;dsimp only[jq];gi_wp2
  have hal:Below W.heap.size W (W.alloc (.cells (jq p) 142)):=(ak _ _).alloc (aj _) _
  have Vr:∃wv ad bv,dA (W.alloc (.cells (jq p) 142)) b nv wv ad bv∧wv.ownBlock≠some W.heap.size:=by
   obtain⟨⟨wv2,⟨uE,uG,g1,g2,g3,g4⟩,g5,g6⟩, -, -⟩:=hI;exact⟨wv2,uE,uG,g1.below hal g1.lt,fun e=>by have:=(Own.kT g5 _ e).2.1;omega⟩
  exact hK _ _ ((KeepsOthers.alloc _ _).from _) ⟨hal.block _ (by omega),hal.block _ (by omega)⟩ ⟨hI.below hal (by omega),hF.trans (aH.dU hal),by simp;omega,hbs.alloc _⟩ ⟨W.heap.size,by omega,eT.new W p,Vr,rfl⟩
 case body =>
  rintro l pre ⟨j,p⟩ a' W hl ⟨r,hr⟩ ⟨⟨⟨wv1,⟨ad,bv,hw1,R4,ho1,Sd⟩,hq1,JA⟩,hbx,Jq⟩,hF,hz,hbs⟩ ⟨Bx,hBx,hpt,⟨wv2,uE,uG,Ti,SH⟩,rfl⟩ kX
  have Tj:wv2=wv1:=by
   have e:W.heap[b]? = some (.cells #[nv,wv1,ad,bv] 139):=hw1;have e2:W.heap[b]? = some (.cells #[nv,wv2,uE,uG] 139):=Ti;rw[e]at e2;injection e2 with e2;injection e2 with e2;simp at e2;exact e2.1.symm
  subst Tj;obtain⟨c0,c1,c2,c3⟩:=hw1.facts;have f1:=hw1.frozen 1;have CJ:=hbx.cell;obtain⟨y0,y1,y2⟩:=hpt.cells;have R3:=hw1.lt;have hbW:b<w.heap.size:=hwb;have lM:Bx<W.heap.size:=(cu.1 hpt).1;have hnl:(st++pre.map (·.2)).length≤3000000000:=by rw[ax,dQ];omega
  have JE:Own kV 142 ((W.alloc (.cells #[.string p.t,.int .i64 p.node,.int .i64 p.least] 142)).drew) (b+1) wv2 (st++pre.map (·.2)):=(hq1.alloc _).drew;obtain⟨v',w',iP,dK,hgr,hat⟩:=O9 134 Elem.part kV (b+1) wv2 _ JE ⟨W.heap.size,0,none⟩ 1 1 [p] rfl (fun j u hu=>iH (w:=W) _ _ _ rfl j u hu) (by omega) (by unfold maxLen;omega) (by simp;omega);have hgb:some b≠wv2.ownBlock:=fun e=>by have:=(Own.kT hq1 b e.symm).1;omega
  have hgw:some w.heap.size≠wv2.ownBlock:=fun e=>by
   obtain⟨-, -,cur,kv⟩:=Own.kT hq1 _ e.symm;have h2:W.heap[w.heap.size]? = some (.cells #[.pointer (some ⟨b,0,none⟩)] 133):=hbx;rw[h2]at kv;injection kv with kv;injection kv with _ ht;exact absurd ht (by decide)
  have hgB:some Bx≠wv2.ownBlock:=fun e=>SH e.symm
  have kd:∀(ad:Addr){u:Value},ad.block<W.heap.size→some ad.block≠wv2.ownBlock→((W.alloc (.cells #[.string p.t,.int .i64 p.node,.int .i64 p.least] 142)).drew).cell? ad=some u→w'.cell? ad=some u:=fun ad u h1 h2 h3=>(dx (hgr.block ad.block (by simp;omega) h2)).trans h3
  have hw2:dA w' b nv wv2 ad bv:=by
   unfold dA;rw[hgr.block b (by simp;omega) hgb];exact hw1.below ((ak _ _).alloc (aj _) _).drew hw1.lt
  have SB:lb≠b:=fun e=>by
   have e1:W.heap[b]? = some (.cells #[nv,_,ad,bv] 139):=hw1;rw[← e,Jq,Js]at e1;injection e1 with e1;injection e1 with _ e2;exact absurd e2 (by decide)
  have Sr:some (w.heap.size+1)≠wv2.ownBlock:=fun e=>by
   obtain⟨-, -,cur,kv⟩:=Own.kT hq1 _ e.symm;have h2:W.heap[w.heap.size+1]? = some (.cells #[.slice (some ⟨lb,0,none⟩) ps.length cap] 134):=hbs;rw[h2]at kv;injection kv with kv;injection kv with _ ht;exact absurd ht (by decide)
  have xW:∀k,k<W.heap.size→some k≠wv2.ownBlock→w'.heap[k]? = W.heap[k]? := fun k h1 h2=>(hgr.block k (by simp;omega) h2).trans (((ak W.heap.size W).alloc (aj _) (.cells #[.string p.t,.int .i64 p.node,.int .i64 p.least] 142)).drew.block k h1)
  have Sc:mU w' (b+1) bv txt:=Own.keep ho1 fun g hg1 hg2 hg3=>xW g hg2 (fun e=>by
   obtain⟨-, -,cur,kv⟩:=Own.kT hq1 _ e.symm;obtain⟨-,QF,fr2,Si⟩:=Ev ho1 g hg3;rw[Si]at kv;injection kv with kv;injection kv with _ ht;exact absurd ht (by decide))
  have S9:W.heap.size≤w'.heap.size:=by have:=hgr.size;simp at this;omega
  have hke:KeepsOthers W w':=((KeepsOthers.alloc W (.cells #[.string p.t,.int .i64 p.node,.int .i64 p.least] 142)).trans (KeepsOthers.drew _)).trans (KeepsOthers.of_grownBy hgr (fun j o hj ho=>by
   obtain⟨-, -,cur,kv⟩:=Own.kT JE _ hj;rw[kv]at ho;cases ho;rfl))
  have Sq:aH W w' b:=⟨hgr.os,hgr.tape,hgr.output,S9,fun k hk hkb hr=>xW k hk (fun e=>by
   obtain⟨h1, -,cur,kv⟩:=Own.kT hq1 _ e.symm;rcases hr with hr|hr
   · omega
   · exact(hr cur _).2 kv)⟩
  have SK:∀v2:Value,(v2.ownBlock=wv2.ownBlock∨v2.ownBlock=some ((W.alloc (.cells #[.string p.t,.int .i64 p.node,.int .i64 p.least] 142)).drew).heap.size)→v2.ownBlock≠some lb:=fun v2 h e=>by
   rcases h with h|h
   · rw[h]at e;exact JA e
   · rw[h]at e;have:=dV e;simp at this;omega
  obtain⟨ao,n1,lL,rfl⟩:=Az hq1;obtain⟨ma,n2,ko,rfl⟩:=Az dK;have Gn:=ae iP;have hmx:Tryz.prog.follows .mixedOrders=true:=by kernel_rfl
  clear iP;dsimp only at y0 y1 y2;have hal:Below W.heap.size W ((W.alloc (.cells #[.string p.t,.int .i64 p.node,.int .i64 p.least] 142)).drew):=((ak _ _).alloc (aj _) _).drew;gi_wp2
  have BE:KeepsFrom (w.heap.size+2) W (w'.setCell ⟨b,1,none⟩ (.slice ma n2 ko))∧il (w.heap.size+1) lb W (w'.setCell ⟨b,1,none⟩ (.slice ma n2 ko))∧(vQ w b nv st txt lb (pre++[(j,p)]) (w'.setCell ⟨b,1,none⟩ (.slice ma n2 ko))∧aH w (w'.setCell ⟨b,1,none⟩ (.slice ma n2 ko)) b∧w.heap.size+2≤(w'.setCell ⟨b,1,none⟩ (.slice ma n2 ko)).heap.size∧Boxed (w'.setCell ⟨b,1,none⟩ (.slice ma n2 ko)) (w.heap.size+1) 134 (.slice (some ⟨lb,0,none⟩) ps.length cap)):=by
   have gs:=grownBy.dP (grownBy.dH w' (some b)) 1 (.slice ma n2 ko);have s1:(w'.setCell ⟨b,1,none⟩ (.slice ma n2 ko)).heap[w.heap.size+1]? = W.heap[w.heap.size+1]? := (jA w' ⟨b,1,none⟩ _ _ (by show w.heap.size+1≠b;omega)).trans (xW _ (by omega) Sr);have s0:(w'.setCell ⟨b,1,none⟩ (.slice ma n2 ko)).heap[w.heap.size]? = W.heap[w.heap.size]? := (jA w' ⟨b,1,none⟩ _ _ (by show w.heap.size≠b;omega)).trans (xW _ (by omega) hgw);have sl:(w'.setCell ⟨b,1,none⟩ (.slice ma n2 ko)).heap[lb]? = W.heap[lb]? := (jA w' ⟨b,1,none⟩ _ _ SB).trans (xW _ (by omega) (fun e=>JA e.symm));refine⟨(hke.trans (KeepsOthers.setCell _ _ _)).from _,⟨s1,sl⟩,⟨⟨.slice ma n2 ko,⟨ad,bv,hw2.Li _,R4,Own.other Sc gs (Nat.lt_succ_self b),Sd⟩, ?_,SK _ hat⟩,s0.trans hbx,sl.trans Jq⟩,(hF.trans Sq).trans (aH.ou (dR.ou gs)),by have:=gs.size;omega,s1.trans hbs⟩;rw[gW, ← bD];exact Own.other dK gs (Nat.lt_succ_self b)
  have sF:(fun w'=>w'.cell? ⟨w.heap.size,0,none⟩=some (.pointer (some ⟨b,0,none⟩))∧w'.cell? ⟨Bx,0,none⟩=some (.string p.t)∧w'.cell? ⟨Bx,1,none⟩=some (.int .i64 p.node)∧w'.cell? ⟨Bx,2,none⟩=some (.int .i64 p.least)) (w'.setCell ⟨b,1,none⟩ (.slice ma n2 ko)):=by
   have gs:=grownBy.dP (grownBy.dH w' (some b)) 1 (.slice ma n2 ko);have kc:∀(ad:Addr){u:Value},ad.block<W.heap.size→ad.block≠b→w'.cell? ad=some u→(w'.setCell ⟨b,1,none⟩ (.slice ma n2 ko)).cell? ad=some u:=fun ad u h0 h1 h2=>(dx (jA w' ⟨b,1,none⟩ _ ad.block h1)).trans h2
   exact⟨kc ⟨w.heap.size,0,none⟩ (by show w.heap.size<_;omega) (by show w.heap.size≠b;omega) (kd ⟨w.heap.size,0,none⟩ (by show w.heap.size<_;omega) hgw ((hal.cell (p:=⟨w.heap.size,0,none⟩) (show w.heap.size<W.heap.size by omega)).trans CJ)),kc ⟨Bx,0,none⟩ lM (by show Bx≠b;omega) (kd ⟨Bx,0,none⟩ lM hgB ((hal.cell (p:=⟨Bx,0,none⟩) lM).trans y0)),kc ⟨Bx,1,none⟩ lM (by show Bx≠b;omega) (kd ⟨Bx,1,none⟩ lM hgB ((hal.cell (p:=⟨Bx,1,none⟩) lM).trans y1)),kc ⟨Bx,2,none⟩ lM (by show Bx≠b;omega) (kd ⟨Bx,2,none⟩ lM hgB ((hal.cell (p:=⟨Bx,2,none⟩) lM).trans y2))⟩
  have oV:(fun w'=>w'.cell? ⟨w.heap.size,0,none⟩=some (.pointer (some ⟨b,0,none⟩))∧w'.cell? ⟨Bx,0,none⟩=some (.string p.t)∧w'.cell? ⟨Bx,1,none⟩=some (.int .i64 p.node)∧w'.cell? ⟨Bx,2,none⟩=some (.int .i64 p.least)) W.drew:=⟨CJ,y0,y1,y2⟩;have iW:(fun w'=>w'.cell? ⟨w.heap.size,0,none⟩=some (.pointer (some ⟨b,0,none⟩))∧w'.cell? ⟨Bx,0,none⟩=some (.string p.t)∧w'.cell? ⟨Bx,1,none⟩=some (.int .i64 p.node)∧w'.cell? ⟨Bx,2,none⟩=some (.int .i64 p.least)) ((W.alloc (.cells #[.string p.t,.int .i64 p.node,.int .i64 p.least] 142)).drew):=⟨(hal.cell (p:=⟨w.heap.size,0,none⟩) (show w.heap.size<W.heap.size by omega)).trans CJ,(hal.cell (p:=⟨Bx,0,none⟩) lM).trans y0,(hal.cell (p:=⟨Bx,1,none⟩) lM).trans y1,(hal.cell (p:=⟨Bx,2,none⟩) lM).trans y2⟩;refine ED (by kernel_rfl) (by kernel_rfl) (wpAny_of_held (S:=fun w'=>w'.cell? ⟨w.heap.size,0,none⟩=some (.pointer (some ⟨b,0,none⟩))∧w'.cell? ⟨Bx,0,none⟩=some (.string p.t)∧w'.cell? ⟨Bx,1,none⟩=some (.int .i64 p.node)∧w'.cell? ⟨Bx,2,none⟩=some (.int .i64 p.least)) _ _ _ _ ?_);show wpAnyH _ _ _ _ _ 11 #[false,false,false,false,false,false,false,false,false,false,false] _ _;refine hT 0 oV ?_ (hy:=by(intro jy hSw;obtain⟨e1,e2,e3,e4⟩:=hSw;go_simp;try(with_reducible rfl)));refine hT 1 oV ?_ (hy:=by(intro jy hSw;obtain⟨e1,e2,e3,e4⟩:=hSw;go_simp;try(with_reducible rfl)));refine hT 2 oV ?_;refine hT 3 oV ?_;refine hT 5 oV ?_ (hy:=by(intro jy hSw;obtain⟨e1,e2,e3,e4⟩:=hSw;go_simp;try(with_reducible rfl)));have d1:((W.alloc (.cells #[.string p.t,.int .i64 p.node,.int .i64 p.least] 142)).drew).cell? ⟨b,1,none⟩=some (.slice ao n1 lL):=(hal.cell (p:=⟨b,1,none⟩) R3).trans c1;have HS2:(fun w'=>w'.cell? ⟨w.heap.size,0,none⟩=some (.pointer (some ⟨b,0,none⟩))∧w'.cell? ⟨Bx,0,none⟩=some (.string p.t)∧w'.cell? ⟨Bx,1,none⟩=some (.int .i64 p.node)∧w'.cell? ⟨Bx,2,none⟩=some (.int .i64 p.least)) w':=⟨kd ⟨w.heap.size,0,none⟩ (by show w.heap.size<_;omega) hgw iW.1,kd ⟨Bx,0,none⟩ lM hgB iW.2.1,kd ⟨Bx,1,none⟩ lM hgB iW.2.2.1,kd ⟨Bx,2,none⟩ lM hgB iW.2.2.2⟩;have f1':w'.frozen? ⟨b,1,none⟩=false:=hw2.frozen 1;have g1':w'.cell? ⟨b,1,none⟩=some (.slice ao n1 lL):=hw2.facts.2.1;refine wpAnyH_ready (rs:=[4,6]) (by kernel_rfl) (by simp) (AllReadyH.cons rfl (fun K hK => ?_) (AllReadyH.cons rfl (fun K hK => ?_) AllReadyH.nil))
  · rw[ah (by rfl)]
    go_simp;refine hK _ _ oV (fun _ => ?_);clear hK K;simp only[List.setIfInBounds_toArray,List.set_cons_zero,List.set_cons_succ];refine hO 6 (fun K hK => ?_);go_simp;refine hK.o _ _ iW ?_;clear hK K;simp only[Act.put,sT,dn,dm];refine hO 7 (fun K hK => ?_);refine Nh (.tmp 14) (.tmp 16) rfl rfl rfl Gn.o ?_;refine hK.o _ _ HS2 ?_;clear hK K;simp only[Act.put,sT,dn,dm];refine hT 8 HS2 ?_;refine hT 9 HS2 ?_;refine hO 10 (fun K hK => ?_);go_simp;refine hK.o undef _ sF ?_;clear hK K;simp only[Act.put];refine wpAnyH_done (by kernel_rfl) ?_ _;refine⟨rfl, ?_⟩;gi_wp2
    exact BE
  · rw[ah (by rfl)]
    go_simp;refine hK _ _ iW (fun _ => ?_);clear hK K;simp only[List.setIfInBounds_toArray,List.set_cons_zero,List.set_cons_succ];refine hO 4 (fun K hK => ?_);go_simp;refine hK.o _ _ iW ?_;clear hK K;simp only[Act.put,sT,dn,dm];refine hO 7 (fun K hK => ?_);refine Nh (.tmp 14) (.tmp 16) rfl rfl rfl Gn.o ?_;refine hK.o _ _ HS2 ?_;clear hK K;simp only[Act.put,sT,dn,dm];refine hT 8 HS2 ?_;refine hT 9 HS2 ?_;refine hO 10 (fun K hK => ?_);go_simp;refine hK.o undef _ sF ?_;clear hK K;simp only[Act.put];refine wpAnyH_done (by kernel_rfl) ?_ _;refine⟨rfl, ?_⟩;gi_wp2
    exact BE
 case done =>
  rintro D ys W hD rfl ⟨⟨⟨wv1,h1,h2, -⟩, -, -⟩,hF,hz, -⟩ hK;gi_wp2
  have hg:=grownBy_putObj' W D (.deferred none);have hr:∀r,some D=some r→∃o:Obj,W.heap[r]? = some o∧o.isCells=false:=fun r e=>by cases e;exact⟨_,hK,rfl⟩
  refine⟨by simp,.inl ⟨_,_,rfl,run_takeDeferred hK, ?_⟩⟩;rw[P9 ps 0 (bA _),List.drop_zero]at h2;exact⟨_,results_none rfl _ _ _,rfl,⟨wv1,iG.stay h1 hg hr,Ay h2 hg hr⟩,hF.stay hg (fun r e=>by cases e;omega)⟩
 case stop =>
  rintro D c pre W _ _ h _;exact h.elim
end Go.Proofs.YtahjnhmidjeniaaGreatDoor
namespace Go.Proofs.YtahjnhmidjeniaaGreatDoor
open Go.RowKit
variable {txt:List Int}{st:List au}{b:Nat}{nv:Value}{w w':World}
def jm(k:Int):Nat:=if k=1 then 127 else if k=2 then 128 else if k=3 then 129 else if k=4 then 130 else if k=5 then 131 else if k=6 then 132 else if k=7 then 133 else if k=8 then 134 else 135
theorem KO (k:Int)(w:World):Calls Tryz.prog 97 #[.int .i64 k] w fun e w'=>e = .returned (.func (.func (jm k)) #[] #[])∧w=w':=by
 have fin:∀r:Nat,jm k=r→(Calls Tryz.prog 97 #[.int .i64 k] w fun e w'=>e = .returned (.func (.func r) #[] #[])∧w=w')→Calls Tryz.prog 97 #[.int .i64 k] w fun e w'=>e = .returned (.func (.func (jm k)) #[] #[])∧w=w':=fun r h1 h2=>by rw[h1];exact h2
 by_cases h1:k=1
 · refine fin 127 (by subst h1;rfl) ?_
   clear fin;subst h1;go_enter Tryz.func97,Tryz.ntmps97;go_wp2_with fail
   go_ret;exact⟨rfl,rfl⟩
 by_cases h2:k=2
 · refine fin 128 (by subst h2;rfl) ?_
   clear fin;subst h2;go_enter Tryz.func97,Tryz.ntmps97;go_wp2_with fail
   go_ret;exact⟨rfl,rfl⟩
 by_cases h3:k=3
 · refine fin 129 (by subst h3;rfl) ?_
   clear fin;subst h3;go_enter Tryz.func97,Tryz.ntmps97;go_wp2_with fail
   go_ret;exact⟨rfl,rfl⟩
 by_cases h4:k=4
 · refine fin 130 (by subst h4;rfl) ?_
   clear fin;subst h4;go_enter Tryz.func97,Tryz.ntmps97;go_wp2_with fail
   go_ret;exact⟨rfl,rfl⟩
 by_cases h5:k=5
 · refine fin 131 (by subst h5;rfl) ?_
   clear fin;subst h5;go_enter Tryz.func97,Tryz.ntmps97;go_wp2_with fail
   go_ret;exact⟨rfl,rfl⟩
 by_cases h6:k=6
 · refine fin 132 (by subst h6;rfl) ?_
   clear fin;subst h6;go_enter Tryz.func97,Tryz.ntmps97;go_wp2_with fail
   go_ret;exact⟨rfl,rfl⟩
 by_cases h7:k=7
 · refine fin 133 (by subst h7;rfl) ?_
   clear fin;subst h7;go_enter Tryz.func97,Tryz.ntmps97;go_wp2_with fail
   go_ret;exact⟨rfl,rfl⟩
 by_cases h8:k=8
 · refine fin 134 (by subst h8;rfl) ?_
   clear fin;subst h8;go_enter Tryz.func97,Tryz.ntmps97;go_wp2_with fail
   go_ret;exact⟨rfl,rfl⟩
 refine fin 135 (by unfold jm;rw[af h1,af h2,af h3,af h4,af h5,af h6,af h7,af h8]) ?_;have e1:(k == 1)=false:=aB.2 h1;have e2:(k == 2)=false:=aB.2 h2;have e3:(k == 3)=false:=aB.2 h3;have e4:(k == 4)=false:=aB.2 h4;have e5:(k == 5)=false:=aB.2 h5;have e6:(k == 6)=false:=aB.2 h6;have e7:(k == 7)=false:=aB.2 h7;have e8:(k == 8)=false:=aB.2 h8;clear fin h1 h2 h3 h4 h5 h6 h7 h8;go_enter Tryz.func97,Tryz.ntmps97;go_wp2_with fail
 go_ret;exact⟨rfl,rfl⟩
theorem bg.below (h:bg w b nv st txt)(hb:Below w.heap.size w w'):bg w' b nv st txt:=by
 obtain⟨wv,h1,h2⟩:=h;exact⟨wv,h1.below hb,h2.below hb (aj _)⟩
theorem bg.wrote {wv:Value}(h:Own kV 142 w (b+1) wv st)(hs:iG w' b nv wv txt)(hf:dR w w' b):bg w' b nv st txt :=
 ⟨wv,hs,Own.keep h fun g h1 h2 h3=>hf.block g h2 (by omega) (.inr fun cur fr e=>by
  obtain⟨-, -,QF,hc⟩:=Own.kT h g h3;rw[hc]at e;injection e with e;injection e with _ e2;exact absurd e2 (by decide))⟩
def jg (w:World)(b:Nat)(nv:Value)(st:List au)(txt:List Int)(n:Nd)(e:Ending)(w':World):Prop :=
 e = .returned (.tuple #[])∧bg w' b nv (st++(bL n).2.reverse) (txt++(bL n).1)∧aH w w' b
theorem jg.of {w1 w2:World}{wv:Value}{MZ:List Int}{n:Nd}(hb:Below w.heap.size w w1)(h:Own kV 142 w1 (b+1) wv st)(hs:iG w2 b nv wv MZ)(hf:dR w1 w2 b)(h1:(bL n).2=[])(h2:MZ=txt++(bL n).1):jg w b nv st txt n (.returned (.tuple #[])) w2:=by
 refine⟨rfl, ?_,(aH.dU hb).trans (aH.ou hf)⟩;rw[h1, ← h2,List.reverse_nil,bE];exact bg.wrote h hs hf
theorem QK (w:World)(b:Nat)(nv:Value)(st:List au)(txt:List Int)(n:Nd)(A:Option Addr)(m c:Nat)(h:bg w b nv st txt)(hk:n.kind=4)(hl:txt.length≤1000000000) :
 Calls Tryz.prog 130 #[.pointer (some ⟨b,0,none⟩),.agg #[.int .i64 n.kind,.int .i64 n.num,.string n.text,.string n.ref.sh,.int .i64 n.ref.c,.int .i64 n.ref.r,.bool n.ref.ac,.bool n.ref.ar,.string n.ag.sh,.int .i64 n.ag.c,.int .i64 n.ag.r,.bool n.ag.ac,.bool n.ag.ar,.slice A m c]] w (jg w b nv st txt n):=by
 have hB:Below w.heap.size w (w.alloc (.cells #[.int .i64 n.kind,.int .i64 n.num,.string n.text,.string n.ref.sh,.int .i64 n.ref.c,.int .i64 n.ref.r,.bool n.ref.ac,.bool n.ref.ar,.string n.ag.sh,.int .i64 n.ag.c,.int .i64 n.ag.r,.bool n.ag.ac,.bool n.ag.ar,.slice A m c] 106)):=(ak _ _).alloc (aj _) _;have hs:bL n=([35,82,69,70,33],[]):=by unfold bL;rw[af (by omega),af (by omega),af (by omega),ah hk]
 have HS:=ae hs;have HB:=ae hB;obtain⟨wv,h1,h2⟩:=h.below hB;have HO:=ae h2;have HW:=ae (nG _ b nv wv txt ⟨#[35,82,69,70,33]⟩ h1 (by show txt.length+5≤_;omega));clear h h1 h2 hB hs hk;go_enter Tryz.func130,Tryz.ntmps130;go_wp2_with (go_at_call 94;((with_reducible refine HW.o.mono ?_);rintro e w2 ⟨⟨x,rfl⟩,h3,h4⟩;have H3:=ae h3;have H4:=ae h4;clear h3 h4))
 go_end0;exact jg.of HB.o HO.o H3.o H4.o (by rw[HS.o]) (by rw[HS.o,show sb ⟨#[35,82,69,70,33]⟩=[35,82,69,70,33]by decide])
theorem Zw (w:World)(b:Nat)(nv:Value)(st:List au)(txt:List Int)(n:Nd)(A:Option Addr)(m c:Nat)(h:bg w b nv st txt)(hk:n.kind=3)(hv:n.num=1)(hl:txt.length≤1000000000) :
 Calls Tryz.prog 129 #[.pointer (some ⟨b,0,none⟩),.agg #[.int .i64 n.kind,.int .i64 n.num,.string n.text,.string n.ref.sh,.int .i64 n.ref.c,.int .i64 n.ref.r,.bool n.ref.ac,.bool n.ref.ar,.string n.ag.sh,.int .i64 n.ag.c,.int .i64 n.ag.r,.bool n.ag.ac,.bool n.ag.ar,.slice A m c]] w (jg w b nv st txt n):=by
 have hB:Below w.heap.size w (w.alloc (.cells #[.int .i64 n.kind,.int .i64 n.num,.string n.text,.string n.ref.sh,.int .i64 n.ref.c,.int .i64 n.ref.r,.bool n.ref.ac,.bool n.ref.ar,.string n.ag.sh,.int .i64 n.ag.c,.int .i64 n.ag.r,.bool n.ag.ac,.bool n.ag.ar,.slice A m c] 106)):=(ak _ _).alloc (aj _) _;have hs:bL n=([84,82,85,69],[]):=by unfold bL;rw[af (by omega),af (by omega),ah hk,ah hv]
 have HS:=ae hs;have HB:=ae hB;obtain⟨wv,h1,h2⟩:=h.below hB;have HO:=ae h2;have HW:=ae (nG _ b nv wv txt ⟨#[84,82,85,69]⟩ h1 (by show txt.length+4≤_;omega));have g1:(n.num == 1)=true:=bI.2 hv;clear h h1 h2 hB hs hk hv;go_enter Tryz.func129,Tryz.ntmps129;go_wp2_with (go_at_call 94;((with_reducible refine HW.o.mono ?_);rintro e w2 ⟨⟨x,rfl⟩,h3,h4⟩;have H3:=ae h3;have H4:=ae h4;clear h3 h4))
 go_end0;exact jg.of HB.o HO.o H3.o H4.o (by rw[HS.o]) (by rw[HS.o,show sb ⟨#[84,82,85,69]⟩=[84,82,85,69]by decide])
theorem Zv (w:World)(b:Nat)(nv:Value)(st:List au)(txt:List Int)(n:Nd)(A:Option Addr)(m c:Nat)(h:bg w b nv st txt)(hk:n.kind=3)(hv:¬ n.num=1)(hl:txt.length≤1000000000) :
 Calls Tryz.prog 129 #[.pointer (some ⟨b,0,none⟩),.agg #[.int .i64 n.kind,.int .i64 n.num,.string n.text,.string n.ref.sh,.int .i64 n.ref.c,.int .i64 n.ref.r,.bool n.ref.ac,.bool n.ref.ar,.string n.ag.sh,.int .i64 n.ag.c,.int .i64 n.ag.r,.bool n.ag.ac,.bool n.ag.ar,.slice A m c]] w (jg w b nv st txt n):=by
 have hB:Below w.heap.size w (w.alloc (.cells #[.int .i64 n.kind,.int .i64 n.num,.string n.text,.string n.ref.sh,.int .i64 n.ref.c,.int .i64 n.ref.r,.bool n.ref.ac,.bool n.ref.ar,.string n.ag.sh,.int .i64 n.ag.c,.int .i64 n.ag.r,.bool n.ag.ac,.bool n.ag.ar,.slice A m c] 106)):=(ak _ _).alloc (aj _) _;have hs:bL n=([70,65,76,83,69],[]):=by unfold bL;rw[af (by omega),af (by omega),ah hk,af hv]
 have HS:=ae hs;have HB:=ae hB;obtain⟨wv,h1,h2⟩:=h.below hB;have HO:=ae h2;have HW:=ae (nG _ b nv wv txt ⟨#[70,65,76,83,69]⟩ h1 (by show txt.length+5≤_;omega));have g1:(n.num == 1)=false:=aB.2 hv;clear h h1 h2 hB hs hk hv;go_enter Tryz.func129,Tryz.ntmps129;go_wp2_with (go_at_call 94;((with_reducible refine HW.o.mono ?_);rintro e w2 ⟨⟨x,rfl⟩,h3,h4⟩;have H3:=ae h3;have H4:=ae h4;clear h3 h4))
 go_end0;exact jg.of HB.o HO.o H3.o H4.o (by rw[HS.o]) (by rw[HS.o,show sb ⟨#[70,65,76,83,69]⟩=[70,65,76,83,69]by decide])
theorem Qy (n:Int)(_h0 : -9223372036854775808≤n)(_h1:n≤9223372036854775807)(w:World) :
 Calls Tryz.prog 180 #[.int .i64 n] w fun e w'=>e = .returned (.string (strOfNums (bH n)))∧w=w':=by
 by_cases hr:n<0∨701<n
 · have hc:bH n=[]:=by unfold bH;rw[ah hr]
   have HC:=ae hc;clear hc;go_enter Tryz.func180,Tryz.ntmps180
   go_wp2
   all_goals first|omega|skip
   all_goals go_ret
   all_goals exact⟨by rw[HC.o];rfl,rfl⟩
 · have h0:¬ n<0:=by omega
   have h2:¬ 701<n:=by omega
   have h0':0≤n:=by omega
   have he:=IE (65+n % 26) (by omega) (by omega);have HE:=ae he;clear he;by_cases h26:n<26
   · have hc:bH n=[65+n % 26]:=by unfold bH;rw[af hr,ah h26];congr 1;omega
     have HC:=ae hc;clear hc hr;go_enter Tryz.func180,Tryz.ntmps180;go_wp2_with fail
     all_goals go_ret
     all_goals exact⟨by rw[HC.o, ← HE.o];rfl,rfl⟩
   · have hc:bH n=[65+n / 26 - 1]++[65+n % 26]:=by unfold bH;rw[af hr,af h26];show [64+n / 26,65+n % 26]=[65+n / 26 - 1,65+n % 26];congr 1;omega
     have he2:=IE (65+n / 26 - 1) (by omega) (by omega);have hz:(Utf8.encode (65+n / 26 - 1)).size+(Utf8.encode (65+n % 26)).size≤8:=by rw[he2,HE.o,strOfNums_size,strOfNums_size];simp
     have HE2:=ae he2;clear he2;have HC:=ae hc;clear hc hr;go_enter Tryz.func180,Tryz.ntmps180;go_wp2_with fail
     all_goals go_ret
     all_goals exact⟨LB (by rw[HC.o];exact YT _ _ _ _ HE2.o HE.o),rfl⟩
theorem Xk{s:ByteArray}{c r:Int}{ac ar:Bool}(h:fV w b s c r ac ar):fV w.drew b s c r ac ar:=h
theorem ik.drew(h:ik w):ik w.drew:=h
theorem PK(h:Below w.drew.heap.size w.drew w'):Below w.heap.size w w':=⟨h.os,h.tape,h.output,h.size,h.block⟩
theorem TG {x:Int}{k:Nat}(h:x=(k:Int))(h1:k≤9223372036854775807)(w:World)(ht:ik w) :
 Calls Tryz.prog 82 #[.int .i64 x] w fun e w'=>e = .returned (.string (strOfNums (aW k)))∧Below w.heap.size w w':=by subst h;exact D9 k h1 w ht
theorem YS{base:Nat}{v:Value}{xs:List Int}{t:ByteArray}(e:strOfNums xs=t)(h:mU w base v xs):(convert 44 9 v).run Tryz.prog w = .ok (.string t) w:=by rw[← e];exact EK h
theorem XV(c:Int):sb (strOfNums (bH c))=bH c:=iJ _ (Hr c)
def ow(s:ByteArray):List Int:=if s.size=0 then []else sb s++[33]
def pY(b:Bool):List Int:=if b=true then [36]else []
theorem Uw(s:ByteArray):(ow s).length≤s.size+1:=by unfold ow;split <;> simp[bn]
theorem Ki(b:Bool):(pY b).length≤1:=by cases b <;> decide
theorem Y9 (s:ByteArray)(c r:Int)(k:Nat)(ac ar:Bool)(w:World)(jK:ik w)(_hs:s.size≤1000000)(hm:ek (sb s) c r=true)(hc0:0≤c)(hc1:c≤701)(hr0:0≤r)(hr1:r≤998)(hk:r+1=(k:Int))(hz1:(strOfNums (bH c)).size≤2)(hz2:(strOfNums (aW k)).size≤1000) :
 Calls Tryz.prog 162 #[.agg #[.string s,.int .i64 c,.int .i64 r,.bool ac,.bool ar]] w fun e w'=>e = .returned (.string (strOfNums (bC (sb s) c r ac ar)))∧Below w.heap.size w w':=by
 have hk2:(r+1).toNat=k:=by omega
 have hp1:=Uw s;have hp2:=Ki ac;have hp3:=Ki ar
 have ht:(((ow s++pY ac)++sb (strOfNums (bH c)))++pY ar)++aW k=bC (sb s) c r ac ar:=by
  unfold bC ow pY;rw[ah hm,hk2,XV];by_cases h0:s.size=0
  · have he:sb s=[]:=mK (by rw[bn];exact h0)
    rw[ah h0,ah he] <;> cases ac <;> cases ar <;> simp
  · have he:¬ sb s=[]:=fun h=>by have:=bn s;rw[h]at this;exact h0 this.symm
    rw[af h0,af he] <;> cases ac <;> cases ar <;> simp
 have HT:=ae ht;clear ht hk2;obtain⟨tt,DY⟩:∃t,strOfNums (((ow s++pY ac)++sb (strOfNums (bH c)))++pY ar)=t:=⟨_,rfl⟩;have hzt:tt.size≤1000100:=by rw[← DY,strOfNums_size];simp only[ax,bn];omega
 have Gw:=ae DY;clear DY;have Ow:=ae (show ¬ 9223372036854775807<tt.size+(strOfNums (aW k)).size by omega);have hR0:=fV.new w s c r ac ar;have vL:=ae hR0;clear hR0;have H0:=ae ((ak w.heap.size w).alloc (aj _) (.cells #[.string s,.int .i64 c,.int .i64 r,.bool ac,.bool ar] 104));have oW:=ae jK;clear jK;have hk9:k≤999:=by omega
 have hwr:IntKind.i64.wrap (r+1)=r+1:=by rw[IntKind.wrap_i64];omega
 have HK:=ae hk;clear hk;go_enter Tryz.func162,Tryz.ntmps162;go_upto_region 4 with (go_at_call 157;((with_reducible refine(ym _ _ _ _ _ _ ?_).mono ?_);(first|omega|skip);rintro e w1 ⟨rfl,h1⟩;have HR1:=ae (vL.o.below h1 vL.o.lt);have HO:=ae (Own.nil (bK .u8) 5 w1 w1.heap.size);have HB:=ae (ak w1.heap.size w1);have H1:=ae h1;clear h1))
 obtain⟨x0,x1,x2,x3,x4⟩:=HR1.o.facts;go_upto_if 9 with (fail)
 go_cut [3]from 4 (fun bv wx=>∃(v:Value)(jT:World),v=bv∧jT=wx∧Hid (Own (bK .u8) 5 jT w1.heap.size v (ow s))∧Hid (Below w1.heap.size w1 jT))
 case first =>
  by_cases h0:s.size=0
  · have hp:ow s=[]:=ah h0
    have BX:=ae hp;have hl1:s.toList.isEmpty=true:=by rw[wM s h0,show(⟨#[]⟩:ByteArray).toList=[]by rw[rP]];rfl
    simp only[hl1,Bool.not_true];clear h0 hp hl1;go_wp2_with fail
    go_meet
    case rel=>exact⟨_,_,rfl,rfl,ae (by rw[BX.o];exact HO.o),HB⟩
  · have hp:ow s=([]++sb s)++[33]:=af h0
    have BX:=ae hp;have hne:=yJ s h0;have uQ:s.toList.isEmpty=false:=by cases hq:s.toList with|nil=>exact absurd hq hne|cons a l=>rfl
    simp only[uQ,Bool.not_false];clear h0 hp
    go_wp2_with (first
     | (at_builtin;refine Nb Elem.u8 (bK .u8) rfl (.tmp 10) (.tmp 12) rfl w1.heap.size _ _ rfl HO.o (.string s) s.size (sb s) rfl (bn s) (AZ s) ?_ ?_ ?_ ?_;(simp only[fO];omega);(simp only[fO];unfold maxLen;omega);exact HB.o.size;intro v3 w3 h1 h2;have HO:=ae h1;clear h1;have HB:=ae (HB.o.trans h2);clear h2;clear x0 x1 x2 x3 x4;obtain⟨x0,x1,x2,x3,x4⟩:=(HR1.o.below (HB.o) HR1.o.lt).facts)
     | (at_builtin;refine lW Elem.u8 (bK .u8) rfl (.tmp 13) (.tmp 14) rfl w1.heap.size _ _ rfl (HO.o.alloc _) ⟨_,0,none⟩ 1 1 [33] rfl rfl ?_ ?_ ?_ ?_ ?_;exact iH _ _ _ rfl;(simp only[fO,ax,bn];omega);(simp only[fO,ax,bn];unfold maxLen;omega);(have:=HB.o.size;simp <;> omega);intro v3 w3 h1 h2;have HO:=ae h1;clear h1;have HB:=ae ((HB.o.alloc HB.o.size _).trans h2);clear h2;clear x0 x1 x2 x3 x4;obtain⟨x0,x1,x2,x3,x4⟩:=(HR1.o.below (HB.o) HR1.o.lt).facts))
    go_meet
    case rel=>exact⟨_,_,rfl,rfl,ae (by rw[BX.o];exact HO.o),HB⟩
 case rest =>
 obtain⟨v1,w2,rfl,rfl,HO,HB⟩:=hcut;clear x0 x1 x2 x3 x4;obtain⟨x0,x1,x2,x3,x4⟩:=(HR1.o.below HB.o HR1.o.lt).facts;go_upto_if 17 with (fail)
 go_cut [3]from 4 (fun bv wx=>∃(v:Value)(jT:World),v=bv∧jT=wx∧Hid (Own (bK .u8) 5 jT w1.heap.size v (ow s++pY ac))∧Hid (Below w1.heap.size w1 jT))
 case first =>
  cases ac
  · go_wp2_with fail
    go_meet
    case rel=>exact⟨_,_,rfl,rfl,by rw[show ow s++pY false=ow s from bE _];exact HO,HB⟩
  · go_wp2_with ((at_builtin;refine lW Elem.u8 (bK .u8) rfl (.tmp 18) (.tmp 19) rfl w1.heap.size _ _ rfl (HO.o.alloc _) ⟨_,0,none⟩ 1 1 [36] rfl rfl ?_ ?_ ?_ ?_ ?_;exact iH _ _ _ rfl;omega;(unfold maxLen;omega);(have:=HB.o.size;simp <;> omega);intro v3 w3 h1 h2;have HO:=ae h1;clear h1;have HB:=ae ((HB.o.alloc HB.o.size _).trans h2);clear h2;clear x0 x1 x2 x3 x4;obtain⟨x0,x1,x2,x3,x4⟩:=(HR1.o.below (HB.o) HR1.o.lt).facts))
    go_meet
    case rel=>exact⟨_,_,rfl,rfl,HO,HB⟩
 case rest =>
 obtain⟨v2,w3,rfl,rfl,HO,HB⟩:=hcut;clear x0 x1 x2 x3 x4;obtain⟨x0,x1,x2,x3,x4⟩:=(HR1.o.below HB.o HR1.o.lt).facts
 go_upto_if 27 with (first
  | (go_at_call 180;((with_reducible refine(Qy _ ?_ ?_ _).mono ?_);(first|omega|skip);(first|omega|skip);rintro e w2 ⟨rfl,rfl⟩))
  | (at_builtin;refine Nb Elem.u8 (bK .u8) rfl (.tmp 21) (.tmp 24) rfl w1.heap.size _ _ rfl HO.o (.string (strOfNums (bH c))) (strOfNums (bH c)).size (sb (strOfNums (bH c))) rfl (bn (strOfNums (bH c))) (AZ (strOfNums (bH c))) ?_ ?_ ?_ ?_;(simp only[ax];omega);(simp only[ax];unfold maxLen;omega);exact HB.o.size;intro v3 w3 h1 h2;have HO:=ae h1;clear h1;have HB:=ae (HB.o.trans h2);clear h2;clear x0 x1 x2 x3 x4;obtain⟨x0,x1,x2,x3,x4⟩:=(HR1.o.below (HB.o) HR1.o.lt).facts))
 go_cut [3]from 4 (fun bv wx=>∃(v:Value)(jT:World),v=bv∧jT=wx∧Hid (Own (bK .u8) 5 jT w1.heap.size v (((ow s++pY ac)++sb (strOfNums (bH c)))++pY ar))∧Hid (Below w1.heap.size w1 jT))
 case first =>
  cases ar
  · go_wp2_with fail
    go_meet
    case rel=>exact⟨_,_,rfl,rfl,by rw[show ∀l:List Int,l++pY false=l from bE];exact HO,HB⟩
  · go_wp2_with ((at_builtin;refine lW Elem.u8 (bK .u8) rfl (.tmp 28) (.tmp 29) rfl w1.heap.size _ _ rfl (HO.o.alloc _) ⟨_,0,none⟩ 1 1 [36] rfl rfl ?_ ?_ ?_ ?_ ?_;exact iH _ _ _ rfl;(simp only[ax,bn];omega);(simp only[ax,bn];unfold maxLen;omega);(have:=HB.o.size;simp <;> omega);intro v3 w3 h1 h2;have HO:=ae h1;clear h1;have HB:=ae ((HB.o.alloc HB.o.size _).trans h2);clear h2;clear x0 x1 x2 x3 x4;obtain⟨x0,x1,x2,x3,x4⟩:=(HR1.o.below (HB.o) HR1.o.lt).facts))
    go_meet
    case rel=>exact⟨_,_,rfl,rfl,HO,HB⟩
 case rest =>
 obtain⟨v3,w4,rfl,rfl,HO,HB⟩:=hcut;clear x0 x1 x2 x3 x4;obtain⟨x0,x1,x2,x3,x4⟩:=(HR1.o.below HB.o HR1.o.lt).facts;go_upto_region 11 with (fail)
 refine TT (by kernel_rfl) ?_;show wpAnyH _ _ _ _ _ 8 #[false,false,false,false,false,false,false,false] _ _;refine uV 0 ?_;refine uV 1 ?_ (hy:=by(intro jy hSw;have hz:=(fun W (hW:Below _ _ W)=>YS Gw.o (Own.below (Own.drew HO.o) hW (aj _))) jy hSw;go_simp;try(with_reducible rfl)));refine uV 2 ?_;refine uV 3 ?_ (hy:=by(intro jy hSw;have hz:=(fun W (hW:Below _ _ W)=>((Xk (HR1.o.below HB.o HR1.o.lt)).below hW (fM HR1.o.lt HB.o.size)).facts) jy hSw;go_simp;try(with_reducible rfl)));refine uV 4 ?_;refine TH 5 (fun K hK => ?_);go_simp;refine(TG HK.o (by omega) _ (ik.drew (((oW.o.below H0.o).below H1.o).below HB.o))).mono ?_;rintro e w4 ⟨rfl,wh⟩;have dz:=ae (PK wh);go_wp2_with fail
 refine hK.o _ _ wh wh.size ?_;clear hK K;simp only[Act.put,sT,dn,dm];refine uV 6 ?_ (hy:=by(intro jy hSw;have hz:=(fun (_:World)(_:Below _ _ _)=>Ow.o) jy hSw;go_simp;try(with_reducible rfl)));refine uV 7 ?_;refine wpAnyH_done (by kernel_rfl) ?_ _;go_wp2_with fail
 go_ret;exact⟨LB (by rw[← Gw.o];exact(A7 _ _).trans (congrArg strOfNums HT.o)),PH H0.o H1.o HB.o dz.o⟩
theorem Fb (s:ByteArray)(c r:Int)(ac ar:Bool)(w:World)(jK:ik w)(_hs:s.size≤1000000) :
 Calls Tryz.prog 162 #[.agg #[.string s,.int .i64 c,.int .i64 r,.bool ac,.bool ar]] w fun e w'=>e = .returned (.string (strOfNums (bC (sb s) c r ac ar)))∧Below w.heap.size w w':=by
 by_cases hm:ek (sb s) c r=true
 · obtain⟨hc0,hc1,hr0,hr1⟩:=U4 hm
   have hl1:=Ux c;obtain⟨k,hk⟩:∃k:Nat,r+1=(k:Int):=⟨(r+1).toNat,by omega⟩;have hl2:=Uy k;have hz1:(strOfNums (bH c)).size≤2:=by rw[strOfNums_size];exact hl1
   have hz2:(strOfNums (aW k)).size≤1000:=by rw[strOfNums_size];omega
   exact Y9 s c r k ac ar w jK _hs hm hc0 hc1 hr0 hr1 hk hz1 hz2
 · have hm':ek (sb s) c r=false:=by simpa using hm
   have ht:bC (sb s) c r ac ar=[]:=by unfold bC;rw[af hm]
   have HT:=ae ht;clear ht hm jK;go_enter Tryz.func162,Tryz.ntmps162
   go_wp2_with (first
    | (go_at_call 157;((with_reducible refine(ym _ _ _ _ _ _ ?_).mono ?_);(first|omega|skip);rintro e w1 ⟨rfl,h1⟩;have H1:=ae h1;clear h1)))
   go_ret;exact⟨by rw[HT.o];rfl,((ak _ _).alloc (aj _) _).trans (H1.o.mono ((ak _ _).alloc (aj _) _).size)⟩
theorem VI (w:World)(b:Nat)(nv:Value)(st:List au)(txt:List Int)(n:Nd)(A:Option Addr)(m c:Nat)(h:bg w b nv st txt)(hk:n.kind=1)(u:Nat)(hu:n.num=(u:Int))(Tf:u≤9223372036854775807)(jK:ik w)(hl:txt.length≤1000000000) :
 Calls Tryz.prog 127 #[.pointer (some ⟨b,0,none⟩),.agg #[.int .i64 n.kind,.int .i64 n.num,.string n.text,.string n.ref.sh,.int .i64 n.ref.c,.int .i64 n.ref.r,.bool n.ref.ac,.bool n.ref.ar,.string n.ag.sh,.int .i64 n.ag.c,.int .i64 n.ag.r,.bool n.ag.ac,.bool n.ag.ar,.slice A m c]] w (jg w b nv st txt n):=by
 have hB:Below w.heap.size w (w.alloc (.cells #[.int .i64 n.kind,.int .i64 n.num,.string n.text,.string n.ref.sh,.int .i64 n.ref.c,.int .i64 n.ref.r,.bool n.ref.ac,.bool n.ref.ar,.string n.ag.sh,.int .i64 n.ag.c,.int .i64 n.ag.r,.bool n.ag.ac,.bool n.ag.ar,.slice A m c] 106)):=(ak _ _).alloc (aj _) _;have HN:aF (w.alloc (.cells #[.int .i64 n.kind,.int .i64 n.num,.string n.text,.string n.ref.sh,.int .i64 n.ref.c,.int .i64 n.ref.r,.bool n.ref.ac,.bool n.ref.ar,.string n.ag.sh,.int .i64 n.ag.c,.int .i64 n.ag.r,.bool n.ag.ac,.bool n.ag.ar,.slice A m c] 106)) w.heap.size n (.slice A m c):=aF.new w n _;have hs:bL n=(aW u,[]):=by unfold bL;rw[ah hk,hu];rfl
 have hdl:=CV 18 u (by omega);have hbw:b<w.heap.size:=by obtain⟨wv,h1, -⟩:=h;exact h1.lt
 have HS:=ae hs;have HB:=ae hB;obtain⟨wv,h1,h2⟩:=h.below hB;have oW:=ae (jK.below hB);have NJ:=ae hu;clear h hs hk jK hB hu;go_enter Tryz.func127,Tryz.ntmps127;go_upto_region 1 with (fail)
 generalize hz:w.heap.size=z at HN ⊢;generalize w.alloc (.cells #[.int .i64 n.kind,.int .i64 n.num,.string n.text,.string n.ref.sh,.int .i64 n.ref.c,.int .i64 n.ref.r,.bool n.ref.ac,.bool n.ref.ar,.string n.ag.sh,.int .i64 n.ag.c,.int .i64 n.ag.r,.bool n.ag.ac,.bool n.ag.ar,.slice A m c] 106)=w1 at HN HB oW h1 h2 ⊢;have x1:=HN.cells.2.1;rw[NJ.o]at x1;have hzl:=HN.lt;have hzb:z≠b:=by omega
 have iE:=ae HN;have HI:=ae (fun wr (hr:Below w1.heap.size w1 wr)=>D9 u Tf wr (oW.o.below hr));have HW:=ae (fun wr (hr:Below w1.heap.size w1 wr)=>nG wr b nv wv txt (strOfNums (aW u)) (h1.below hr) (by rw[strOfNums_size];omega));have HO:=ae h2;clear hz h1 h2 HN hdl;have H1:=ae ((ak w1.heap.size w1).drew)
 go_region_held3 (fun w'=>w'.cell? ⟨z,1,none⟩=some (.int .i64 (u:Int))) (go_keep) (first
  | (go_at_call 82;((with_reducible refine(HI.o _ H1.o).mono ?_);rintro e w3 ⟨rfl,h3⟩;have H3:=ae (H1.o.trans (h3.mono H1.o.size));have y1:=(H3.o.cell (p:=⟨z,1,none⟩) hzl).trans x1;clear h3))
  | (go_at_call 94;((with_reducible refine(HW.o _ H3.o).mono ?_);rintro e w4 ⟨⟨x,rfl⟩,h3,h4⟩;have oZ:=ae h3;have HF:=ae h4;have z1:w4.cell? ⟨z,1,none⟩=some (.int .i64 (u:Int)):=(dx (a:=⟨z,1,none⟩) (HF.o.block z (fM hzl H3.o.size) hzb (.inr fun cur fr e=>by
      have h5:=H3.o.block z hzl;have h6:w1.heap[z]? = some (.cells (dh n (.slice A m c)) 106):=iE.o;rw[h5,h6]at e;injection e with e;injection e with _ e2;exact absurd e2 (by decide)))).trans y1;clear h3 h4)))
 all_goals go_wp2_with fail
 all_goals go_end0
 all_goals exact jg.of (HB.o.trans (H3.o.mono HB.o.size)) (HO.o.below H3.o (aj _)) oZ.o HF.o (by rw[HS.o]) (by rw[HS.o,show sb (strOfNums (aW u))=aW u from iJ _ (fun x hx=>by have:=oq (pV u x hx);omega)])
theorem Ww (w:World)(b:Nat)(nv:Value)(st:List au)(txt:List Int)(n:Nd)(A:Option Addr)(m c:Nat)(h:bg w b nv st txt)(hk:n.kind=5)(hz:n.ref.sh.size≤1000000)(jK:ik w)(hl:txt.length≤1000000000) :
 Calls Tryz.prog 131 #[.pointer (some ⟨b,0,none⟩),.agg #[.int .i64 n.kind,.int .i64 n.num,.string n.text,.string n.ref.sh,.int .i64 n.ref.c,.int .i64 n.ref.r,.bool n.ref.ac,.bool n.ref.ar,.string n.ag.sh,.int .i64 n.ag.c,.int .i64 n.ag.r,.bool n.ag.ac,.bool n.ag.ar,.slice A m c]] w (jg w b nv st txt n):=by
 have hB:Below w.heap.size w (w.alloc (.cells #[.int .i64 n.kind,.int .i64 n.num,.string n.text,.string n.ref.sh,.int .i64 n.ref.c,.int .i64 n.ref.r,.bool n.ref.ac,.bool n.ref.ar,.string n.ag.sh,.int .i64 n.ag.c,.int .i64 n.ag.r,.bool n.ag.ac,.bool n.ag.ar,.slice A m c] 106)):=(ak _ _).alloc (aj _) _;have HN:aF (w.alloc (.cells #[.int .i64 n.kind,.int .i64 n.num,.string n.text,.string n.ref.sh,.int .i64 n.ref.c,.int .i64 n.ref.r,.bool n.ref.ac,.bool n.ref.ar,.string n.ag.sh,.int .i64 n.ag.c,.int .i64 n.ag.r,.bool n.ag.ac,.bool n.ag.ar,.slice A m c] 106)) w.heap.size n (.slice A m c):=aF.new w n _;have hs:bL n=(bC (sb n.ref.sh) n.ref.c n.ref.r n.ref.ac n.ref.ar,[]):=by unfold bL;rw[af (by omega),af (by omega),af (by omega),af (by omega),ah hk]
 have hdl:=Fa (sb n.ref.sh) n.ref.c n.ref.r n.ref.ac n.ref.ar;rw[bn]at hdl;have hbw:b<w.heap.size:=by obtain⟨wv,h1, -⟩:=h;exact h1.lt
 have HS:=ae hs;have HB:=ae hB;obtain⟨wv,h1,h2⟩:=h.below hB;have oW:=ae (jK.below hB);clear h hs hk jK hB;go_enter Tryz.func131,Tryz.ntmps131;go_upto_region 1 with (fail)
 generalize hzz:w.heap.size=z at HN ⊢;generalize w.alloc (.cells #[.int .i64 n.kind,.int .i64 n.num,.string n.text,.string n.ref.sh,.int .i64 n.ref.c,.int .i64 n.ref.r,.bool n.ref.ac,.bool n.ref.ar,.string n.ag.sh,.int .i64 n.ag.c,.int .i64 n.ag.r,.bool n.ag.ac,.bool n.ag.ar,.slice A m c] 106)=w1 at HN HB oW h1 h2 ⊢;obtain⟨-, -, -,x3,x4,x5,x6,x7, -⟩:=HN.cells;have hzl:=HN.lt;have hzb:z≠b:=by omega
 have iE:=ae HN;have HI:=ae (fun wr (hr:Below w1.heap.size w1 wr)=>Fb n.ref.sh n.ref.c n.ref.r n.ref.ac n.ref.ar wr (oW.o.below hr) hz);have HW:=ae (fun wr (hr:Below w1.heap.size w1 wr)=>nG wr b nv wv txt (strOfNums (bC (sb n.ref.sh) n.ref.c n.ref.r n.ref.ac n.ref.ar)) (h1.below hr) (by rw[strOfNums_size];omega));have HO:=ae h2;clear hzz h1 h2 HN hdl;have H1:=ae ((ak w1.heap.size w1).drew)
 go_region_held3 (fun w'=>w'.cell? ⟨z,3,none⟩=some (.string n.ref.sh)∧w'.cell? ⟨z,4,none⟩=some (.int .i64 n.ref.c)∧w'.cell? ⟨z,5,none⟩=some (.int .i64 n.ref.r)∧w'.cell? ⟨z,6,none⟩=some (.bool n.ref.ac)∧w'.cell? ⟨z,7,none⟩=some (.bool n.ref.ar)) (go_keep) (first
  | (go_at_call 162;((with_reducible refine(HI.o _ H1.o).mono ?_);rintro e w3 ⟨rfl,h3⟩;have H3:=ae (H1.o.trans (h3.mono H1.o.size));have y3:=(H3.o.cell (p:=⟨z,3,none⟩) hzl).trans x3;have y4:=(H3.o.cell (p:=⟨z,4,none⟩) hzl).trans x4;have iy:=(H3.o.cell (p:=⟨z,5,none⟩) hzl).trans x5;have y6:=(H3.o.cell (p:=⟨z,6,none⟩) hzl).trans x6;have iA:=(H3.o.cell (p:=⟨z,7,none⟩) hzl).trans x7;clear h3))
  | (go_at_call 94;((with_reducible refine(HW.o _ H3.o).mono ?_);rintro e w4 ⟨⟨x,rfl⟩,h3,h4⟩;have oZ:=ae h3;have HF:=ae h4;have eX:=HF.o.block z (fM hzl H3.o.size) hzb (.inr fun cur fr e=>by
      have h5:=H3.o.block z hzl;have h6:w1.heap[z]? = some (.cells (dh n (.slice A m c)) 106):=iE.o;rw[h5,h6]at e;injection e with e;injection e with _ e2;exact absurd e2 (by decide));have z3:=(dx (a:=⟨z,3,none⟩) eX).trans y3;have z4:=(dx (a:=⟨z,4,none⟩) eX).trans y4;have z5:=(dx (a:=⟨z,5,none⟩) eX).trans iy;have z6:=(dx (a:=⟨z,6,none⟩) eX).trans y6;have z7:=(dx (a:=⟨z,7,none⟩) eX).trans iA;clear h3 h4)))
 all_goals go_wp2_with fail
 all_goals go_end0
 all_goals exact jg.of (HB.o.trans (H3.o.mono HB.o.size)) (HO.o.below H3.o (aj _)) oZ.o HF.o (by rw[HS.o]) (by rw[HS.o,show sb (strOfNums (bC (sb n.ref.sh) n.ref.c n.ref.r n.ref.ac n.ref.ar))=bC (sb n.ref.sh) n.ref.c n.ref.r n.ref.ac n.ref.ar from iJ _ (vU _ _ _ _ _)])
end Go.Proofs.YtahjnhmidjeniaaGreatDoor
namespace Go.Proofs.YtahjnhmidjeniaaGreatDoor
open Go.RowKit
theorem Wx (w:World)(b:Nat)(nv:Value)(st:List au)(txt:List Int)(n:Nd)(A:Option Addr)(m c:Nat)(h:bg w b nv st txt)(hk:n.kind=6)(hz:n.ref.sh.size≤1000000)(hz2:n.ag.sh.size≤1000000)(jK:ik w)(hl:txt.length≤1000000000) :
 Calls Tryz.prog 132 #[.pointer (some ⟨b,0,none⟩),.agg #[.int .i64 n.kind,.int .i64 n.num,.string n.text,.string n.ref.sh,.int .i64 n.ref.c,.int .i64 n.ref.r,.bool n.ref.ac,.bool n.ref.ar,.string n.ag.sh,.int .i64 n.ag.c,.int .i64 n.ag.r,.bool n.ag.ac,.bool n.ag.ar,.slice A m c]] w (jg w b nv st txt n):=by
 have hB:Below w.heap.size w (w.alloc (.cells #[.int .i64 n.kind,.int .i64 n.num,.string n.text,.string n.ref.sh,.int .i64 n.ref.c,.int .i64 n.ref.r,.bool n.ref.ac,.bool n.ref.ar,.string n.ag.sh,.int .i64 n.ag.c,.int .i64 n.ag.r,.bool n.ag.ac,.bool n.ag.ar,.slice A m c] 106)):=(ak _ _).alloc (aj _) _;have HN:aF (w.alloc (.cells #[.int .i64 n.kind,.int .i64 n.num,.string n.text,.string n.ref.sh,.int .i64 n.ref.c,.int .i64 n.ref.r,.bool n.ref.ac,.bool n.ref.ar,.string n.ag.sh,.int .i64 n.ag.c,.int .i64 n.ag.r,.bool n.ag.ac,.bool n.ag.ar,.slice A m c] 106)) w.heap.size n (.slice A m c):=aF.new w n _;have hs:bL n=(bC (sb n.ref.sh) n.ref.c n.ref.r n.ref.ac n.ref.ar++58 :: bC (sb n.ag.sh) n.ag.c n.ag.r n.ag.ac n.ag.ar,[]):=by unfold bL;rw[af (by omega),af (by omega),af (by omega),af (by omega),af (by omega),ah hk]
 have d1:=Fa (sb n.ref.sh) n.ref.c n.ref.r n.ref.ac n.ref.ar;have d2:=Fa (sb n.ag.sh) n.ag.c n.ag.r n.ag.ac n.ag.ar;rw[bn]at d1 d2;have hbw:b<w.heap.size:=by obtain⟨wv,h1, -⟩:=h;exact h1.lt
 have y1:=vU n.ref.sh n.ref.c n.ref.r n.ref.ac n.ref.ar;have y2:=vU n.ag.sh n.ag.c n.ag.r n.ag.ac n.ag.ar;have i1:=fun (wr:World)(ht:ik wr)=>Fb n.ref.sh n.ref.c n.ref.r n.ref.ac n.ref.ar wr ht hz
 have i2:=fun (wr:World)(ht:ik wr)=>Fb n.ag.sh n.ag.c n.ag.r n.ag.ac n.ag.ar wr ht hz2
 generalize bC (sb n.ref.sh) n.ref.c n.ref.r n.ref.ac n.ref.ar=l1 at hs d1 y1 i1;generalize bC (sb n.ag.sh) n.ag.c n.ag.r n.ag.ac n.ag.ar=l2 at hs d2 y2 i2;have f1:¬ 9223372036854775807<(strOfNums l1).size+(⟨#[58]⟩:ByteArray).size:=by rw[strOfNums_size];show ¬ _<_+1;omega
 have f2:¬ 9223372036854775807<(strOfNums l1).size+1:=by rw[strOfNums_size];omega
 have f3:(strOfNums l1++(⟨#[58]⟩:ByteArray)).size=l1.length+1:=by rw[ByteArray.size_append,strOfNums_size];rfl
 have f4:¬ 9223372036854775807<(strOfNums l1++(⟨#[58]⟩:ByteArray)).size+(strOfNums l2).size:=by rw[f3,strOfNums_size];omega
 have f5:¬ 9223372036854775807<(strOfNums l1).size+1+(strOfNums l2).size:=by rw[strOfNums_size,strOfNums_size];omega
 have zx:=ae (show strOfNums l1++(⟨#[58]⟩:ByteArray)++strOfNums l2=strOfNums (l1++58 :: l2)by
  rw[show(⟨#[58]⟩:ByteArray)=strOfNums [58]from by decide,A7,A7,bD];rfl)
 have HS:=ae hs;have HB:=ae hB;obtain⟨wv,h1,h2⟩:=h.below hB;have oW:=ae (jK.below hB);clear h hs hk jK hB;go_enter Tryz.func132,Tryz.ntmps132;go_upto_region 1 with (fail)
 obtain⟨z,hzz⟩:∃z,w.heap.size=z:=⟨_,rfl⟩;obtain⟨w1,hw1⟩:∃w1,w.alloc (.cells #[.int .i64 n.kind,.int .i64 n.num,.string n.text,.string n.ref.sh,.int .i64 n.ref.c,.int .i64 n.ref.r,.bool n.ref.ac,.bool n.ref.ar,.string n.ag.sh,.int .i64 n.ag.c,.int .i64 n.ag.r,.bool n.ag.ac,.bool n.ag.ar,.slice A m c] 106)=w1:=⟨_,rfl⟩;rw[hw1]at HN HB oW h1 h2 ⊢;rw[hzz]at HN ⊢;obtain⟨-, -, -,x3,x4,x5,x6,x7,aY,eF,eD,jU,jV, -⟩:=HN.cells;have hzl:=HN.lt;have hzb:z≠b:=by omega
 have iE:=ae HN;have HI:=ae (fun wr (hr:Below w1.heap.size w1 wr)=>i1 wr (oW.o.below hr));have HJ:=ae (fun wr (hr:Below w1.heap.size w1 wr)=>i2 wr (oW.o.below hr));have HW:=ae (fun wr (hr:Below w1.heap.size w1 wr)=>nG wr b nv wv txt (strOfNums l1++(⟨#[58]⟩:ByteArray)++strOfNums l2) (h1.below hr) (by rw[ByteArray.size_append,f3,strOfNums_size];omega));have HO:=ae h2;clear hzz hw1 h1 h2 HN d1 d2 i1 i2 f3 hz hz2;have H1:=ae ((ak w1.heap.size w1).drew)
 go_region_held3 (fun w'=>w'.cell? ⟨z,3,none⟩=some (.string n.ref.sh)∧w'.cell? ⟨z,4,none⟩=some (.int .i64 n.ref.c)∧w'.cell? ⟨z,5,none⟩=some (.int .i64 n.ref.r)∧w'.cell? ⟨z,6,none⟩=some (.bool n.ref.ac)∧w'.cell? ⟨z,7,none⟩=some (.bool n.ref.ar)∧w'.cell? ⟨z,8,none⟩=some (.string n.ag.sh)∧w'.cell? ⟨z,9,none⟩=some (.int .i64 n.ag.c)∧w'.cell? ⟨z,10,none⟩=some (.int .i64 n.ag.r)∧w'.cell? ⟨z,11,none⟩=some (.bool n.ag.ac)∧w'.cell? ⟨z,12,none⟩=some (.bool n.ag.ar)) (go_keep) (first
  | (go_at_call 162;((with_reducible refine(HI.o _ H1.o).mono ?_);rintro e w3 ⟨rfl,h3⟩;have H3:=ae (H1.o.trans (h3.mono H1.o.size));have p3:=(H3.o.cell (p:=⟨z,3,none⟩) hzl).trans x3;have p4:=(H3.o.cell (p:=⟨z,4,none⟩) hzl).trans x4;have p5:=(H3.o.cell (p:=⟨z,5,none⟩) hzl).trans x5;have p6:=(H3.o.cell (p:=⟨z,6,none⟩) hzl).trans x6;have p7:=(H3.o.cell (p:=⟨z,7,none⟩) hzl).trans x7;have aa7:=(H3.o.cell (p:=⟨z,8,none⟩) hzl).trans aY;have aa8:=(H3.o.cell (p:=⟨z,9,none⟩) hzl).trans eF;have p10:=(H3.o.cell (p:=⟨z,10,none⟩) hzl).trans eD;have p11:=(H3.o.cell (p:=⟨z,11,none⟩) hzl).trans jU;have p12:=(H3.o.cell (p:=⟨z,12,none⟩) hzl).trans jV;clear h3))
  | (go_at_call 162;((with_reducible refine(HJ.o _ H3.o).mono ?_);rintro e w4 ⟨rfl,h3⟩;have H4:=ae (H3.o.trans (h3.mono H3.o.size));have q3:=(H4.o.cell (p:=⟨z,3,none⟩) hzl).trans x3;have q4:=(H4.o.cell (p:=⟨z,4,none⟩) hzl).trans x4;have q5:=(H4.o.cell (p:=⟨z,5,none⟩) hzl).trans x5;have q6:=(H4.o.cell (p:=⟨z,6,none⟩) hzl).trans x6;have q7:=(H4.o.cell (p:=⟨z,7,none⟩) hzl).trans x7;have WY:=(H4.o.cell (p:=⟨z,8,none⟩) hzl).trans aY;have WZ:=(H4.o.cell (p:=⟨z,9,none⟩) hzl).trans eF;have WT:=(H4.o.cell (p:=⟨z,10,none⟩) hzl).trans eD;have WU:=(H4.o.cell (p:=⟨z,11,none⟩) hzl).trans jU;have WV:=(H4.o.cell (p:=⟨z,12,none⟩) hzl).trans jV;clear h3))
  | (go_at_call 94;((with_reducible refine(HW.o _ H4.o).mono ?_);rintro e w5 ⟨⟨x,rfl⟩,h3,h4⟩;have oZ:=ae h3;have HF:=ae h4;have eX:=HF.o.block z (fM hzl H4.o.size) hzb (.inr fun cur fr e=>by
      have h5:=H4.o.block z hzl;have h6:w1.heap[z]? = some (.cells (dh n (.slice A m c)) 106):=iE.o;rw[h5,h6]at e;injection e with e;injection e with _ e2;exact absurd e2 (by decide));have r3:=(dx (a:=⟨z,3,none⟩) eX).trans q3;have r4:=(dx (a:=⟨z,4,none⟩) eX).trans q4;have r5:=(dx (a:=⟨z,5,none⟩) eX).trans q5;have r6:=(dx (a:=⟨z,6,none⟩) eX).trans q6;have r7:=(dx (a:=⟨z,7,none⟩) eX).trans q7;have r8:=(dx (a:=⟨z,8,none⟩) eX).trans WY;have abh:=(dx (a:=⟨z,9,none⟩) eX).trans WZ;have Xf:=(dx (a:=⟨z,10,none⟩) eX).trans WT;have Xg:=(dx (a:=⟨z,11,none⟩) eX).trans WU;have Xh:=(dx (a:=⟨z,12,none⟩) eX).trans WV;clear h3 h4)))
 all_goals go_wp2_with fail
 all_goals go_end0
 all_goals exact jg.of (HB.o.trans (H4.o.mono HB.o.size)) (HO.o.below H4.o (aj _)) oZ.o HF.o (by rw[HS.o]) (by rw[HS.o,zx.o,iJ _ (by intro x hx;rcases eG.1 hx with hx|hx;exact y1 x hx;rcases gp.1 hx with rfl|hx;exact⟨by decide,by decide⟩;exact y2 x hx)])
end Go.Proofs.YtahjnhmidjeniaaGreatDoor
namespace Go.Proofs
open Go.Shelf
def Tryz.Ka:Go.Shelf.Ren:=⟨fun|155=>161|154=>179|138=>197|165=>198|143=>199|166=>94|197=>200|169=>73|195=>208|218=>209|240=>126|241=>210|219=>211|260=>212|276=>160|277=>214|217=>213|225=>215|224=>216|267=>217|266=>218|314=>219|n=>n,fun|9=>9|3=>3|4=>4|72=>137|0=>0|76=>167|105=>248|21=>21|5=>5|70=>135|20=>20|37=>44|75=>166|127=>173|164=>206|46=>151|119=>259|139=>262|138=>261|146=>263|51=>183|80=>146|n=>n,fun|1=>8|3=>9|4=>10|n=>n⟩
theorem Tryz.Uh:Go.Proofs.Lays.n155 Tryz.prog Tryz.Ka:={
 mixed:=by kernel_rfl
 f138:=Tryz.func197.trans (congrArg some (by kernel_rfl))
 f143:=Tryz.func199.trans (congrArg some (by kernel_rfl))
 f154:=Tryz.func179.trans (congrArg some (by kernel_rfl))
 f155:=Tryz.func161.trans (congrArg some (by kernel_rfl))
 f165:=Tryz.func198.trans (congrArg some (by kernel_rfl))
 f166:=Tryz.func94.trans (congrArg some (by kernel_rfl))
 f169:=Tryz.func73.trans (congrArg some (by kernel_rfl))
 f195:=Tryz.func208.trans (congrArg some (by kernel_rfl))
 f197:=Tryz.func200.trans (congrArg some (by kernel_rfl))
 f217:=Tryz.func213.trans (congrArg some (by kernel_rfl))
 f218:=Tryz.func209.trans (congrArg some (by kernel_rfl))
 f219:=Tryz.func211.trans (congrArg some (by kernel_rfl))
 f224:=Tryz.func216.trans (congrArg some (by kernel_rfl))
 f225:=Tryz.func215.trans (congrArg some (by kernel_rfl))
 f240:=Tryz.func126.trans (congrArg some (by kernel_rfl))
 f241:=Tryz.func210.trans (congrArg some (by kernel_rfl))
 f260:=Tryz.func212.trans (congrArg some (by kernel_rfl))
 f266:=Tryz.func218.trans (congrArg some (by kernel_rfl))
 f267:=Tryz.func217.trans (congrArg some (by kernel_rfl))
 f276:=Tryz.func160.trans (congrArg some (by kernel_rfl))
 f277:=Tryz.func214.trans (congrArg some (by kernel_rfl))
 f314:=Tryz.func219.trans (congrArg some (by kernel_rfl))
 t0:=Tryz.underlying0
 a0:=Tryz.isAgg0
 z0:=Tryz.sizeOf0
 v0:=Tryz.zeroValue0
 t3:=Tryz.underlying3
 a3:=Tryz.isAgg3
 z3:=Tryz.sizeOf3
 v3:=Tryz.zeroValue3
 t4:=Tryz.underlying4
 a4:=Tryz.isAgg4
 z4:=Tryz.sizeOf4
 v4:=Tryz.zeroValue4
 t5:=Tryz.underlying5
 a5:=Tryz.isAgg5
 z5:=Tryz.sizeOf5
 v5:=Tryz.zeroValue5
 t9:=Tryz.underlying9
 a9:=Tryz.isAgg9
 z9:=Tryz.sizeOf9
 v9:=Tryz.zeroValue9
 t20:=Tryz.underlying20
 a20:=Tryz.isAgg20
 z20:=Tryz.sizeOf20
 v20:=Tryz.zeroValue20
 t21:=Tryz.underlying21
 a21:=Tryz.isAgg21
 z21:=Tryz.sizeOf21
 v21:=Tryz.zeroValue21
 t37:=Tryz.underlying44
 a37:=Tryz.isAgg44
 z37:=Tryz.sizeOf44
 v37:=Tryz.zeroValue44
 t46:=Tryz.underlying151
 a46:=Tryz.isAgg151
 z46:=Tryz.sizeOf151
 v46:=Tryz.zeroValue151
 t51:=Tryz.underlying183
 a51:=Tryz.isAgg183
 z51:=Tryz.sizeOf183
 v51:=Tryz.zeroValue183
 t70:=Tryz.underlying135
 a70:=Tryz.isAgg135
 z70:=Tryz.sizeOf135
 v70:=Tryz.zeroValue135
 t72:=Tryz.underlying137
 a72:=Tryz.isAgg137
 z72:=Tryz.sizeOf137
 v72:=Tryz.zeroValue137
 t75:=Tryz.underlying166
 a75:=Tryz.isAgg166
 z75:=Tryz.sizeOf166
 v75:=Tryz.zeroValue166
 t76:=Tryz.underlying167
 a76:=Tryz.isAgg167
 z76:=Tryz.sizeOf167
 v76:=Tryz.zeroValue167
 t105:=Tryz.underlying248
 a105:=Tryz.isAgg248
 z105:=Tryz.sizeOf248
 v105:=Tryz.zeroValue248
 t119:=Tryz.underlying259
 a119:=Tryz.isAgg259
 z119:=Tryz.sizeOf259
 t127:=Tryz.underlying173
 a127:=Tryz.isAgg173
 z127:=Tryz.sizeOf173
 v127:=Tryz.zeroValue173
 t138:=Tryz.underlying261
 a138:=Tryz.isAgg261
 z138:=Tryz.sizeOf261
 v138:=Tryz.zeroValue261
 t139:=Tryz.underlying262
 a139:=Tryz.isAgg262
 z139:=Tryz.sizeOf262
 v139:=Tryz.zeroValue262
 t146:=Tryz.underlying263
 a146:=Tryz.isAgg263
 z146:=Tryz.sizeOf263
 v146:=Tryz.zeroValue263
 t164:=Tryz.underlying206
 a164:=Tryz.isAgg206
 z164:=Tryz.sizeOf206
 v164:=Tryz.zeroValue206
 g1:=by kernel_rfl
 g3:=by kernel_rfl
 g4:=by kernel_rfl }
theorem Tryz.Np:Builder.Extra Tryz.prog Tryz.Ka:={
 sizeBuilder:=by kernel_rfl
 liesBuilder:=by kernel_rfl
 t5:=Tryz.underlying5
 a5:=Tryz.isAgg5
 z5:=Tryz.sizeOf5
 v5:=Tryz.zeroValue5
 infoByte:=by kernel_rfl
 cellsByte:=by kernel_rfl
 sizeByte:=by kernel_rfl
 neB5:=by decide }
open Go.RowKit Go.Lib in
theorem Tryz.strings_ReplaceAll (s old new:ByteArray)(m:Int)(w:World)(hs:s.size<4294967281)(hm:w.cell? ⟨8,0,none⟩=some (.int .i64 m))(h1:1≤old.size)(hlen:s.size+Lib.countB s old*new.size≤140737488355328) :
 Calls Tryz.prog 161 #[.string s,.string old,.string new] w fun e w' =>
  e = .returned (.string ⟨(Lib.replaceAll s.data.toList old.data.toList new.data.toList).toArray⟩)∧Below w.heap.size w w':=Any.strings_ReplaceAll Tryz.Uh Tryz.Np s old new m w hs hm h1 hlen
end Go.Proofs
namespace Go.Proofs.YtahjnhmidjeniaaGreatDoor
open Go.RowKit
variable {b:Nat}{w w':World}
theorem J6:∀l:List UInt8,(Lib.index l [34] = -1∧∀x∈l,x≠34)∨∃i:Nat,Lib.index l [34]=i∧i<l.length∧(∀x∈l.take i,x≠34)∧l.drop i=34 :: l.drop (i+1)
 | [] => .inl ⟨rfl,fun x hx=>by cases hx⟩
 | b :: l => by
   by_cases hb:b=34
   · subst hb;exact .inr ⟨0,rfl,by simp,fun x hx=>by simp at hx,rfl⟩
   · have hp:List.isPrefixOf [34] (b :: l)=false:=by
      show((34:UInt8) == b&&List.isPrefixOf [] l)=false;rw[aB.2 (fun e=>hb e.symm)];rfl
     have e:Lib.index (b :: l) [34]=if Lib.index l [34] == -1 then -1 else Lib.index l [34]+1:=by
      rw[Lib.index,af (by rw[hp];decide)]
     rcases J6 l with ⟨h1,h2⟩|⟨i,h1,h2,h3,h4⟩
     · refine .inl ⟨by rw[e,h1];rfl,fun x hx => ?_⟩
       rcases gp.1 hx with rfl|hx
       · exact hb
       · exact h2 x hx
     · refine .inr ⟨i+1, ?_,by simp;omega,fun x hx => ?_,by simpa using h4⟩
       · rw[e,h1,af (by intro h;have:=bI.1 h;omega)];rfl
       · rw[List.take_succ_cons]at hx
         rcases gp.1 hx with rfl|hx
         · exact hb
         · exact h3 x hx
def nS:List UInt8→List UInt8
 | []=>[]
 | x :: l=>(if x=34 then [34,34]else [x])++nS l
theorem Iq:∀l:List UInt8,(∀x∈l,x≠34)→nS l=l
 | [],_=>rfl
 | x :: l,h=>by
   show(if x=34 then [34,34]else [x])++nS l=x :: l;rw[af (h x (List.mem_cons_self ..)),Iq l (fun y hy=>h y (List.mem_cons_of_mem _ hy))];rfl
theorem Ip:∀(p r:List UInt8),(∀x∈p,x≠34)→nS (p++34 :: r)=p++[34,34]++nS r
 | [],r,_=>rfl
 | x :: p,r,h=>by
   show(if x=34 then [34,34]else [x])++nS (p++34 :: r)=_;rw[af (h x (List.mem_cons_self ..)),Ip p r (fun y hy=>h y (List.mem_cons_of_mem _ hy))];rfl
theorem EE:∀(n:Nat)(l:List UInt8),l.length≤n→Lib.replaceK [34] [34,34] (Lib.count l [34]) l=nS l∧Lib.count l [34]≤l.length
 | n, l,hn=>by
   rcases J6 l with ⟨h1,h2⟩|⟨i,h1,h2,h3,h4⟩
   · rw[Lib.count_miss h1,Iq l h2];exact⟨rfl,bA _⟩
   · have hc:=Lib.count_hit (s:=l) (sub:=[34]) (by decide) h1
     have hd:(l.drop (i+1)).length=l.length - (i+1):=jX
     match n with
     | 0=>omega
     | n+1 =>
       obtain⟨e1,e2⟩:=EE n (l.drop (i+1)) (by omega);have hc2:Lib.count l [34]=Lib.count (l.drop (i+1)) [34]+1:=by rw[hc];show 1+Lib.count (l.drop (i+1)) [34]=_;omega
       refine⟨?_,by omega⟩;rw[hc2,Lib.replaceK_hit _ _ _ _ i h1];show l.take i++[34,34]++Lib.replaceK [34] [34,34] (Lib.count (l.drop (i+1)) [34]) (l.drop (i+1))=_;rw[e1, ← Ip _ _ h3, ← h4,List.take_append_drop]
theorem OY (l:List UInt8):Lib.replaceAll l [34] [34,34]=nS l:=by
 unfold Lib.replaceAll Lib.replace Lib.replaceNum;rw[af (by decide),ah (.inl (by decide))];exact(EE l.length l (aj _)).1
theorem Ir:∀l:List UInt8,(nS l).map (fun b=>(b.toNat:Int))=eZ (l.map fun b=>(b.toNat:Int))
 | []=>rfl
 | x :: l=>by
   show((if x=34 then [34,34]else [x])++nS l).map _=(if (x.toNat:Int)=34 then [34,34]else [(x.toNat:Int)])++eZ (l.map _);rw[gW,Ir l];by_cases h:x=34
   · subst h;rfl
   · rw[af h,af (fun e=>h (UInt8.toNat_inj.1 (by have:(34:UInt8).toNat=34:=rfl;omega)))];rfl
def l8(w:World):Prop:=∃m,w.cell? ⟨(8:Nat),0,none⟩=some (.int .i64 m)
theorem l8.below (h:l8 w)(hb:Below w.heap.size w w'):l8 w':=by
 obtain⟨m,hm⟩:=h;exact⟨m,(hb.cell (p:=⟨(8:Nat),0,none⟩) (World.block_lt_of_cell? w _ hm)).trans hm⟩
theorem l8.wrote (h:l8 w)(hf:dR w w' b)(hg:8<b):l8 w':=by
 obtain⟨m,hm⟩:=h;exact⟨m,(dx (a:=⟨(8:Nat),0,none⟩) (hf.block _ (World.block_lt_of_cell? w _ hm) (Nat.ne_of_lt hg) (.inl hg))).trans hm⟩
theorem Xr (s:ByteArray)(hs:s.size≤1000000)(w:World)(hm:l8 w):Calls Tryz.prog 161 #[.string s,.string ⟨#[34]⟩,.string ⟨#[34,34]⟩] w fun e w'=>e = .returned (.string (strOfNums (eZ (sb s))))∧Below w.heap.size w w':=by
 obtain⟨m,hm⟩:=hm;have hc:Lib.countB s ⟨#[34]⟩≤s.size:=(EE _ s.data.toList (aj _)).2;have h:=Tryz.strings_ReplaceAll s ⟨#[34]⟩ ⟨#[34,34]⟩ m w (by omega) hm (by decide) (by have:(⟨#[34,34]⟩:ByteArray).size=2:=rfl;rw[this];omega)
 rw [show(⟨(Lib.replaceAll s.data.toList (⟨#[34]⟩:ByteArray).data.toList (⟨#[34,34]⟩:ByteArray).data.toList).toArray⟩:ByteArray)=strOfNums (eZ (sb s))from by
  rw[show(⟨#[34]⟩:ByteArray).data.toList=[34]from rfl,show(⟨#[34,34]⟩:ByteArray).data.toList=[34,34]from rfl,OY, ← oH ⟨(nS s.data.toList).toArray⟩];congr 1;show(nS s.data.toList).map (fun b=>(b.toNat:Int))=_;rw[Ir];rfl]at h
 exact h
theorem dR.below(h:Below w.heap.size w w'):dR w w' b:=⟨h.os,h.tape,h.output,h.size,fun k hk _ _=>h.block k hk⟩
theorem Xe (w:World)(b:Nat)(nv:Value)(st:List au)(txt:List Int)(n:Nd)(A:Option Addr)(m c:Nat)(h:bg w b nv st txt)(hk:n.kind=2)(hz:n.text.size≤1000000)(hmv:l8 w)(hgb:8<b)(hl:txt.length≤1000000000) :
 Calls Tryz.prog 128 #[.pointer (some ⟨b,0,none⟩),.agg #[.int .i64 n.kind,.int .i64 n.num,.string n.text,.string n.ref.sh,.int .i64 n.ref.c,.int .i64 n.ref.r,.bool n.ref.ac,.bool n.ref.ar,.string n.ag.sh,.int .i64 n.ag.c,.int .i64 n.ag.r,.bool n.ag.ac,.bool n.ag.ar,.slice A m c]] w (jg w b nv st txt n):=by
 have hB:Below w.heap.size w (w.alloc (.cells #[.int .i64 n.kind,.int .i64 n.num,.string n.text,.string n.ref.sh,.int .i64 n.ref.c,.int .i64 n.ref.r,.bool n.ref.ac,.bool n.ref.ar,.string n.ag.sh,.int .i64 n.ag.c,.int .i64 n.ag.r,.bool n.ag.ac,.bool n.ag.ar,.slice A m c] 106)):=(ak _ _).alloc (aj _) _;have HN:aF (w.alloc (.cells #[.int .i64 n.kind,.int .i64 n.num,.string n.text,.string n.ref.sh,.int .i64 n.ref.c,.int .i64 n.ref.r,.bool n.ref.ac,.bool n.ref.ar,.string n.ag.sh,.int .i64 n.ag.c,.int .i64 n.ag.r,.bool n.ag.ac,.bool n.ag.ar,.slice A m c] 106)) w.heap.size n (.slice A m c):=aF.new w n _;have hs:bL n=(34 :: (eZ (sb n.text)++[34]),[]):=by unfold bL;rw[af (by omega),ah hk]
 have hd:=Io (sb n.text);rw[bn]at hd;have hbw:b<w.heap.size:=by obtain⟨wv,h1, -⟩:=h;exact h1.lt
 have hby:=CG (sb n.text) (p9 n.text);have HS:=ae hs;have HB:=ae hB;obtain⟨wv,h1,h2⟩:=h.below hB;have F7:=ae (hmv.below hB);clear h hs hk hmv hB;go_enter Tryz.func128,Tryz.ntmps128;go_upto_region 1 with (fail)
 obtain⟨z,hzz⟩:∃z,w.heap.size=z:=⟨_,rfl⟩;obtain⟨w1,hw1⟩:∃w1,w.alloc (.cells #[.int .i64 n.kind,.int .i64 n.num,.string n.text,.string n.ref.sh,.int .i64 n.ref.c,.int .i64 n.ref.r,.bool n.ref.ac,.bool n.ref.ar,.string n.ag.sh,.int .i64 n.ag.c,.int .i64 n.ag.r,.bool n.ag.ac,.bool n.ag.ar,.slice A m c] 106)=w1:=⟨_,rfl⟩;rw[hw1]at HN HB F7 h1 h2 ⊢;rw[hzz]at HN ⊢;have hzl:=HN.lt;have hzb:z≠b:=by omega
 have iE:=ae HN;have HW:=ae (nG w1 b nv wv txt ⟨#[34]⟩ h1 (by show txt.length+1≤_;omega));have HO:=ae h2;clear hzz hw1 h1 h2 HN;go_upto_region 2 with (go_at_call 94;((with_reducible refine HW.o.mono ?_);rintro e w2 ⟨⟨x,rfl⟩,h3,h4⟩;have oZ:=ae h3;have HF:=ae h4;clear h3 h4))
 have bf:=ae (show aF w2 z n (.slice A m c)by
  unfold aF
  rw [HF.o.block z hzl hzb (.inr fun cur fr e=>by
   have h6:w1.heap[z]? = some (.cells (dh n (.slice A m c)) 106):=iE.o;rw[h6]at e;injection e with e;injection e with _ e2;exact absurd e2 (by decide))]
  exact iE.o)
 have NT:=ae (F7.o.wrote HF.o hgb);have x2:=bf.o.cells.2.2.1;have hz2:=bf.o.lt;have HI:=ae (fun wr (hr:Below w2.heap.size w2 wr)=>Xr n.text hz wr (NT.o.below hr));have HW2:=ae (fun wr (hr:Below w2.heap.size w2 wr)=>nG wr b nv wv (txt++sb ⟨#[34]⟩) (strOfNums (eZ (sb n.text))) (oZ.o.below hr) (by rw[strOfNums_size,ax];show txt.length+1+_≤_;omega));have H1:=ae ((ak w2.heap.size w2).drew)
 go_region_held3 (fun w'=>w'.cell? ⟨z,2,none⟩=some (.string n.text)) (go_keep) (first
  | (go_at_call 161;((with_reducible refine(HI.o _ H1.o).mono ?_);rintro e w3 ⟨rfl,h3⟩;have H3:=ae (H1.o.trans (h3.mono H1.o.size));have y2:=(H3.o.cell (p:=⟨z,2,none⟩) hz2).trans x2;clear h3))
  | (go_at_call 94;((with_reducible refine(HW2.o _ H3.o).mono ?_);rintro e w4 ⟨⟨x,rfl⟩,h3,h4⟩;have OE:=ae h3;have lY:=ae h4;have eX:=lY.o.block z (fM hz2 H3.o.size) hzb (.inr fun cur fr e=>by
      have h5:=H3.o.block z hz2;have h6:w2.heap[z]? = some (.cells (dh n (.slice A m c)) 106):=bf.o;rw[h5,h6]at e;injection e with e;injection e with _ e2;exact absurd e2 (by decide));have z2:=(dx (a:=⟨z,2,none⟩) eX).trans y2;clear h3 h4 eX)))
 have HW3:=ae (nG w4 b nv wv _ ⟨#[34]⟩ OE.o (by rw[ax,ax,iJ _ hby];show txt.length+1+_+1≤_;omega));go_wp2_with (go_at_call 94;((with_reducible refine HW3.o.mono ?_);rintro e w5 ⟨⟨x,rfl⟩,h3,h4⟩;have OG:=ae h3;have bT:=ae h4;clear h3 h4))
 go_end0;have w9:=ae (((HF.o).trans (dR.below H3.o)).trans (lY.o.trans bT.o));exact jg.of HB.o HO.o OG.o w9.o (by rw[HS.o]) (by rw[HS.o,iJ _ hby,show sb ⟨#[34]⟩=[34]by decide];simp[List.append_assoc])
theorem Wo (w:World)(ps:List au)(cs:Array Value)(hcs:cs.toList=kV.all ps)(hl:ps.length≤1000000):Own kV 142 (w.alloc (.cells cs 142)) 0 (.slice (some ⟨w.heap.size,0,none⟩) ps.length ps.length) ps:=by
 have hs:cs.size=ps.length*3:=by rw[← Array.length_toList,hcs,Enc.iZ]
 refine⟨by rw[Enc.iZ],.inr ⟨w.heap.size,ps.length,cs,rfl,bA _,(gV w _).1,aj _,by unfold maxLen;omega,hs, ?_⟩⟩;rw[hcs,mM (by rw[Enc.iZ];exact aj _)]
theorem iG.one {nv wv wv2:Value}{t1 t2:List Int}(h:iG w b nv wv t1)(h2:iG w b nv wv2 t2):wv2=wv:=by
 obtain⟨ad,bv,h3,_⟩:=h;obtain⟨uE,uG,h4,_⟩:=h2;have e:w.heap[b]? = some (.cells #[nv,wv,ad,bv] 139):=h3;have e2:w.heap[b]? = some (.cells #[nv,wv2,uE,uG] 139):=h4;rw[e]at e2;injection e2 with e2;injection e2 with e2;simp at e2;exact e2.1.symm
theorem vk (w:World)(b:Nat)(nv:Value)(st ps:List au)(txt:List Int)(cs:Array Value)(k:Nat)(hk:ps.length=k)(hcs:cs.toList=kV.all ps)(h:bg w b nv st txt)(hl1:ps.length≤1000000)(hl2:st.length≤2000000000) :
 Calls Tryz.prog 69 #[.pointer (some ⟨b,0,none⟩),.slice (some ⟨w.heap.size,0,none⟩) k k] (w.alloc (.cells cs 142)) fun e w'=>e = .returned (.tuple #[])∧bg w' b nv (st++ps.reverse) txt∧aH w w' b:=by
 subst hk;have hb:Below w.heap.size w (w.alloc (.cells cs 142)):=(ak _ _).alloc (aj _) _;obtain⟨wv,hws,ho⟩:=h;refine(WQ (w.alloc (.cells cs 142)) b nv st ps txt w.heap.size ps.length ⟨wv,hws.below hb,ho.below hb (aj _)⟩ (Wo w ps cs hcs hl1) ?_ hl1 hl2).mono ?_
 · intro wv2 h2 e
   rw[(hws.below hb).one h2]at e;have:=(Own.kT ho _ e).2.1;omega
 · rintro e w' ⟨h1,h2,h3⟩
   exact⟨h1,h2,(aH.dU hb).trans h3⟩
theorem yz(i m:Int)(w:World):Calls Tryz.prog 70 #[.int .i64 i,.int .i64 m] w fun e w'=>e = .returned (.agg #[.string ⟨#[]⟩,.int .i64 i,.int .i64 m])∧Below w.heap.size w w':=VY i m w
theorem AA(t:ByteArray)(w:World):Calls Tryz.prog 96 #[.string t] w fun e w'=>e = .returned (.agg #[.string t,.int .i64 0,.int .i64 0])∧Below w.heap.size w w':=Wy t w
theorem gF.kW {B:Nat}{v:Value}{xs:List Int}(h:gF w B v xs)(hf:aH w w' b)(hB:B≤b)(hw:b<w.heap.size):gF w' B v xs:=by
 obtain⟨A,cap,h1,h2,h3,h4⟩:=h;refine⟨A,cap,h1,h2,h3,h4.imp id ?_⟩;rintro⟨pb,po,e1,e2,e3⟩;exact⟨pb,po,e1,e2,fun j x hj=>(dx (a:=⟨pb,po+j,none⟩) (hf.block pb (by omega) (by omega) (.inl (by omega)))).trans (e3 j x hj)⟩
theorem Vq (w:World)(b:Nat)(nv:Value)(st:List au)(txt:List Int)(n:Nd)(A:Option Addr)(m c:Nat)(h:bg w b nv st txt)(hk:n.kind=8)(k0:Int)(hk0:n.kids[0]? = some k0)(hsi:gF w b (.slice A m c) n.kids)(hl:txt.length≤1000000000)(hls:st.length≤2000000000) :
 Calls Tryz.prog 134 #[.pointer (some ⟨b,0,none⟩),.agg #[.int .i64 n.kind,.int .i64 n.num,.string n.text,.string n.ref.sh,.int .i64 n.ref.c,.int .i64 n.ref.r,.bool n.ref.ac,.bool n.ref.ar,.string n.ag.sh,.int .i64 n.ag.c,.int .i64 n.ag.r,.bool n.ag.ac,.bool n.ag.ar,.slice A m c]] w (jg w b nv st txt n):=by
 have hB:Below w.heap.size w (w.alloc (.cells #[.int .i64 n.kind,.int .i64 n.num,.string n.text,.string n.ref.sh,.int .i64 n.ref.c,.int .i64 n.ref.r,.bool n.ref.ac,.bool n.ref.ar,.string n.ag.sh,.int .i64 n.ag.c,.int .i64 n.ag.r,.bool n.ag.ac,.bool n.ag.ar,.slice A m c] 106)):=(ak _ _).alloc (aj _) _;have HN:aF (w.alloc (.cells #[.int .i64 n.kind,.int .i64 n.num,.string n.text,.string n.ref.sh,.int .i64 n.ref.c,.int .i64 n.ref.r,.bool n.ref.ac,.bool n.ref.ar,.string n.ag.sh,.int .i64 n.ag.c,.int .i64 n.ag.r,.bool n.ag.ac,.bool n.ag.ar,.slice A m c] 106)) w.heap.size n (.slice A m c):=aF.new w n _
 have hs:bL n=([45],[au.op k0 5]):=by
  unfold bL;rw[af (by omega),af (by omega),af (by omega),af (by omega),af (by omega),af (by omega),af (by omega),ah hk,iM,hk0];rfl
 have hbw:b<w.heap.size:=by obtain⟨wv,h1, -⟩:=h;exact h1.lt
 have DV:=hsi.below hB (Nat.le_of_lt hbw);obtain⟨A',mf,hsl,hcm, -,hcell⟩:=DV;injection hsl with e1 e2 e3;have jI:0<n.kids.length:=(eH.1 hk0).1;obtain⟨pb,po,hA,hpb,hcl⟩:=hcell.resolve_left (fun e=>by rw[e]at jI;exact absurd jI (by decide));have hc0:=hcl 0 k0 hk0;rw[Nat.add_zero]at hc0;have hA2:=e1.trans hA;subst hA2;subst e3;clear e1 hA;have hm0:(0:Int)<(m:Int):=by omega
 have hm1:0<m:=by omega
 have HS:=ae hs;have HB:=ae hB;obtain⟨wv,h1,h2⟩:=h.below hB;clear h hs hk hB hsi e2 hcl jI hcell hk0;go_enter Tryz.func134,Tryz.ntmps134;go_upto_region 1 with (fail)
 obtain⟨z,hzz⟩:∃z,w.heap.size=z:=⟨_,rfl⟩;obtain⟨w1,hw1⟩:∃w1,w.alloc (.cells #[.int .i64 n.kind,.int .i64 n.num,.string n.text,.string n.ref.sh,.int .i64 n.ref.c,.int .i64 n.ref.r,.bool n.ref.ac,.bool n.ref.ar,.string n.ag.sh,.int .i64 n.ag.c,.int .i64 n.ag.r,.bool n.ag.ac,.bool n.ag.ar,.slice (some ⟨pb,po,none⟩) m c] 106)=w1:=⟨_,rfl⟩;rw[hw1]at HN HB h1 h2 hc0 ⊢;rw[hzz]at HN ⊢;have hzl:=HN.lt;have hzb:z≠b:=by omega
 have iE:=ae HN;have HW:=ae (nG w1 b nv wv txt ⟨#[45]⟩ h1 (by show txt.length+1≤_;omega));have HO:=ae h2;clear hzz hw1 h1 h2 HN;go_upto_region 2 with (go_at_call 94;((with_reducible refine HW.o.mono ?_);rintro e w2 ⟨⟨x,rfl⟩,h3,h4⟩;have oZ:=ae h3;have HF:=ae h4;clear h3 h4))
 have Je:aF w2 z n (.slice (some ⟨pb,po,none⟩) m c):=by
  unfold aF
  rw [HF.o.block z hzl hzb (.inr fun cur fr e=>by
   have h6:w1.heap[z]? = some (.cells (dh n (.slice (some ⟨pb,po,none⟩) m c)) 106):=iE.o;rw[h6]at e;injection e with e;injection e with _ e2;exact absurd e2 (by decide))]
  exact iE.o
 obtain⟨-, -, -, -, -, -, -, -, -, -, -, -, -,iQ⟩:=Je.cells;have uM:b<w1.heap.size:=fM hbw HB.o.size;have hd0:w2.cell? ⟨pb,po,none⟩=some (.int .i64 k0):=(dx (a:=⟨pb,po,none⟩) (HF.o.block pb (by omega) (by omega) (.inl hpb))).trans hc0
 have Cr:=ae (show bg w2 b nv st (txt++[45])from by
  have h:=bg.wrote HO.o oZ.o HF.o;rwa[show sb ⟨#[45]⟩=[45]by decide]at h)
 have uy:=ae (fun (w3:World)(h3:Below w2.heap.size w2 w3)=>vk w3 b nv st [au.op k0 5] (txt++[45]) #[.string ⟨#[]⟩,.int .i64 k0,.int .i64 5] 1 rfl rfl (Cr.o.below h3) (by show 1≤1000000;decide) hls);clear Je hc0
 go_wp2_with (first
  | (go_at_call 70;((with_reducible refine(yz _ _ _).mono ?_);rintro e w3 ⟨rfl,h3⟩;have HB3:=ae h3;clear h3))
  | (go_at_call 69;((with_reducible refine(uy.o _ HB3.o).mono ?_);rintro e w5 ⟨rfl,h3,h4⟩;have qZ:=ae h3;have bT:=ae h4;clear h3 h4)))
 go_end0;refine⟨rfl, ?_,(aH.dU HB.o).trans ((aH.ou HF.o).trans ((aH.dU HB3.o).trans bT.o))⟩;rw[HS.o];exact qZ.o
end Go.Proofs.YtahjnhmidjeniaaGreatDoor
