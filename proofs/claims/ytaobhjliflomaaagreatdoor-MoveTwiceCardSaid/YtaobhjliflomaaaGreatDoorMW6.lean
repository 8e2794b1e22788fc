import Derived.Test.YtaobhjliflomaaaGreatDoorMW5
import Derived.Lib.UnsafeStr
import Derived.Shelf.RegionOpen
import Derived.OrdersIn
import Derived.OrdersHeld
set_option maxRecDepth 100000
set_option maxHeartbeats 64000000
namespace Go.Proofs.YtaobhjliflomaaaGreatDoor
open Go.RowKit
def gZ(w:World)(b:Nat)(nv wv ad bv:Value):Prop:=w.heap[b]? = some (.cells #[nv,wv,ad,bv] 84)
section
variable {w:World} {b:Nat} {nv wv ad bv:Value}
theorem gZ.lt(h:gZ w b nv wv ad bv):b<w.heap.size:=(dn.1 h).1
theorem gZ.facts (h:gZ w b nv wv ad bv):w.cell? ⟨b,0,none⟩=some nv∧w.cell? ⟨b,1,none⟩=some wv∧w.cell? ⟨b,2,none⟩=some ad∧w.cell? ⟨b,3,none⟩=some bv :=
 ⟨by rw[cell_of_row w b 0 _ _ _ h];rfl,by rw[cell_of_row w b 1 _ _ _ h];rfl,by rw[cell_of_row w b 2 _ _ _ h];rfl,by rw[cell_of_row w b 3 _ _ _ h];rfl⟩
theorem gZ.frozen(h:gZ w b nv wv ad bv)(j:Nat):w.frozen? ⟨b,j,none⟩=false:=frozen_of_row w b j _ _ h
theorem gZ.below{w':World}{B:Nat}(h:gZ w b nv wv ad bv)(hb:Below B w w')(hB:b<B):gZ w' b nv wv ad bv:=by unfold gZ;rw[hb.block b hB];exact h
theorem gZ.EL(h:gZ w b nv wv ad bv)(v:Value):gZ (w.setCell ⟨b,1,none⟩ v) b nv v ad bv:=by unfold gZ;rw[heap_setCell_same w b 1 _ _ _ h];rfl
theorem gZ.oN(h:gZ w b nv wv ad bv)(v:Value):gZ (w.setCell ⟨b,2,none⟩ v) b nv wv v bv:=by unfold gZ;rw[heap_setCell_same w b 2 _ _ _ h];rfl
theorem gZ.H9(h:gZ w b nv wv ad bv)(v:Value):gZ (w.setCell ⟨b,3,none⟩ v) b nv wv ad v:=by unfold gZ;rw[heap_setCell_same w b 3 _ _ _ h];rfl
theorem gZ.shape (h:gZ w b nv wv ad bv):w.shape? b=some (84,4):=by
 have h':w.heap[b]? = some (.cells #[nv,wv,ad,bv] 84):=h;simp[World.shape?,h']
end
theorem Zo (w:World)(b:Nat)(h0:w.cell? ⟨b,2,none⟩=some (.pointer (some ⟨b,2,none⟩))) :
 Calls Tryz.prog 95 #[.pointer (some ⟨b,2,none⟩)] w fun e w'=>e = .returned (.tuple #[])∧w=w':=by
 obtain⟨j,hj,_⟩:=PR;go_enter Tryz.func95,Tryz.ntmps95;go_wp2_with fail
 rw[Lib.run_neq_ptr_same w _ Tryz.underlying80 hj];go_wp2_with fail
 go_end0;exact⟨rfl,rfl⟩
theorem Zn (w:World)(b:Nat)(nv wv bv:Value)(h:gZ w b nv wv (.pointer none) bv) :
 Calls Tryz.prog 95 #[.pointer (some ⟨b,2,none⟩)] w fun e w'=>e = .returned (.tuple #[])∧w.setCell ⟨b,2,none⟩ (.pointer (some ⟨b,2,none⟩))=w':=by
 obtain⟨j,hj,hjs⟩:=PR;obtain⟨-, -,h0, -⟩:=h.facts;have hfz:=h.frozen 2;have hsh:=h.shape;have aa5:liesAt Tryz.prog Tryz.prog.depth 84 (4 / Tryz.prog.cellsOf 84) 2 82 1=true:=by kernel_rfl
 go_enter Tryz.func95,Tryz.ntmps95;go_wp2_with fail
 rw[Lib.run_to_unsafe w ⟨b,2,none⟩ Tryz.underlying80 Tryz.underlying156 hj (by rw[hjs];decide) hsh (by show 2<4;omega)];simp only[Result.andThen];rw[Oper.upon_value];go_wp2_with fail
 rw[run_callFunc_extern Tryz.func128 (by kernel_rfl) (by kernel_rfl) (by kernel_rfl) (e:=Extern.AbiNoEscape.same) (by kernel_rfl)];rw[Lib.run_noEscape];simp only[Result.andThen];rw[Oper.upon_value];go_wp2_with fail
 rw[Lib.run_from_unsafe w ⟨b,2,none⟩ Tryz.underlying156 Tryz.underlying80 hj hsh aa5];simp only[Result.andThen];rw[Oper.upon_value];go_wp2_with fail
 go_end0;exact⟨rfl,rfl⟩
def lN(w:World)(b:Nat)(nv wv:Value)(txt:List Int):Prop:=∃ad bv,gZ w b nv wv ad bv∧(ad = .pointer none∨ad = .pointer (some ⟨b,2,none⟩))∧qc w (b+1) bv txt∧Bytes txt
theorem lN.lt{w:World}{b:Nat}{nv wv:Value}{txt:List Int}(h:lN w b nv wv txt):b<w.heap.size:=by obtain⟨_,_,h,_⟩:=h;exact h.lt
theorem lN.below {w w':World}{b:Nat}{nv wv:Value}{txt:List Int}(h:lN w b nv wv txt)(hb:Below w.heap.size w w'):lN w' b nv wv txt:=by
 have hl:=h.lt;obtain⟨ad,bv,h1,h2,h3,h4⟩:=h;exact⟨ad,bv,h1.below hb hl,h2,h3.below hb (aj _),h4⟩
theorem sU (w:World)(b:Nat)(nv wv:Value)(txt:List Int)(s:ByteArray)(h:lN w b nv wv txt)(hlen:txt.length+s.size≤10000000000) :
 Calls Tryz.prog 65 #[.pointer (some ⟨b,2,none⟩),.string s] w fun e w'=>(∃x,e = .returned (.tuple #[x,.nilIface]))∧lN w' b nv wv (txt++sb s)∧iK w w' b:=by
 have step:∀(ad bv:Value)(wc:World),gZ wc b nv wv ad bv→qc wc (b+1) bv txt→∀(v':Value)(w1:World),qc w1 (b+1) v' (txt++sb s)→wc.grownBy w1 bv.ownBlock→gZ w1 b nv wv ad bv∧iK wc w1 b:=by
  intro ad bv wc h1 h2 v' w1 _ hg;have hf:=iK.own h2 hg;refine⟨?_,hf⟩;unfold gZ;rw[hg.block b h1.lt (fun e=>by have:=MF h2 b e.symm;omega)];exact h1
 have HST:=ae step;have hsm:s.size≤10000000000:=by omega
 obtain⟨ad,bv,hw,had,ho,hby⟩:=h;have xc:=ae (hby.append (sO s));clear hby;clear step;rcases had with rfl|rfl
 · have Jk:=ae (Zn w b nv wv bv hw)
   have HW:=ae (hw.oN (.pointer (some ⟨b,2,none⟩)));have HO:=ae (Own.other ho (grownBy.gU (grownBy.fP w (some b)) 2 (.pointer (some ⟨b,2,none⟩))) (Nat.lt_succ_self b):qc (w.setCell ⟨b,2,none⟩ (.pointer (some ⟨b,2,none⟩))) (b+1) bv txt);have HF:=ae (iK.setCell (w:=w) (b:=b) 2 (.pointer (some ⟨b,2,none⟩)));clear hw ho;go_enter Tryz.func65,Tryz.ntmps65;go_upto_region 2 with (go_at_call 95;((with_reducible refine Jk.o.mono ?_);rintro e w1 ⟨rfl,rfl⟩))
   generalize w.setCell ⟨b,2,none⟩ (.pointer (some ⟨b,2,none⟩))=w1 at HW HO HF ⊢;obtain⟨c0,c1,c2,c3⟩:=HW.o.facts;have hbz:=HW.o.lt;go_wp2_with (at_builtin;refine Wn Elem.u8 (aI .u8) rfl (.tmp 12) (.tmp 13) rfl (b+1) _ _ rfl HO.o (.string s) s.size (sb s) rfl (bz s) (IE s) ?_ ?_ ?_ ?_;omega;(unfold maxLen;omega);omega;intro v3 w3 h1 h2;obtain⟨uX,n3,c3',hv3⟩:=H5 h1;subst hv3;obtain⟨h3,h4⟩:=HST.o _ _ _ HW.o HO.o _ w3 h1 h2;have f3:=h3.frozen 3;obtain⟨y0,y1,y2,y3⟩:=h3.facts;have HW3:=ae (h3.H9 (.slice uX n3 c3'));have dP:=ae ((HF.o.trans h4).trans (iK.setCell 3 (.slice uX n3 c3')));have gQ:=ae (Own.other h1 (grownBy.gU (grownBy.fP w3 (some b)) 3 (.slice uX n3 c3')) (Nat.lt_succ_self b):qc (w3.setCell ⟨b,3,none⟩ (.slice uX n3 c3')) (b+1) (.slice uX n3 c3') (txt++sb s));clear h1 h2 h3 h4 c0 c1 c2 c3)
   go_ret2
   exact⟨⟨_,rfl⟩,⟨_,_,HW3.o,.inr rfl,gQ.o,xc.o⟩,dP.o⟩
 · have Jk:=ae (Zo w b hw.facts.2.2.1)
   have HW:=ae hw;have HO:=ae ho;have HF:=ae (iK.refl w b);clear hw ho;go_enter Tryz.func65,Tryz.ntmps65;go_upto_region 2 with (go_at_call 95;((with_reducible refine Jk.o.mono ?_);rintro e w1 ⟨rfl,rfl⟩))
   obtain⟨c0,c1,c2,c3⟩:=HW.o.facts;have hbz:=HW.o.lt;go_wp2_with (at_builtin;refine Wn Elem.u8 (aI .u8) rfl (.tmp 12) (.tmp 13) rfl (b+1) _ _ rfl HO.o (.string s) s.size (sb s) rfl (bz s) (IE s) ?_ ?_ ?_ ?_;omega;(unfold maxLen;omega);omega;intro v3 w3 h1 h2;obtain⟨uX,n3,c3',hv3⟩:=H5 h1;subst hv3;obtain⟨h3,h4⟩:=HST.o _ _ _ HW.o HO.o _ w3 h1 h2;have f3:=h3.frozen 3;obtain⟨y0,y1,y2,y3⟩:=h3.facts;have HW3:=ae (h3.H9 (.slice uX n3 c3'));have dP:=ae ((HF.o.trans h4).trans (iK.setCell 3 (.slice uX n3 c3')));have gQ:=ae (Own.other h1 (grownBy.gU (grownBy.fP w3 (some b)) 3 (.slice uX n3 c3')) (Nat.lt_succ_self b):qc (w3.setCell ⟨b,3,none⟩ (.slice uX n3 c3')) (b+1) (.slice uX n3 c3') (txt++sb s));clear h1 h2 h3 h4 c0 c1 c2 c3)
   go_ret2
   exact⟨⟨_,rfl⟩,⟨_,_,HW3.o,.inr rfl,gQ.o,xc.o⟩,dP.o⟩
theorem Zb:Tryz.prog.cellsOf 5=1:=by kernel_rfl
theorem ags(s:ByteArray):sb s=s.data.toList.map fun x=>(x.toNat:Int):=rfl
theorem ahB (w:World)(b:Nat)(nv wv:Value)(txt:List Int)(h:lN w b nv wv txt)(hne:txt≠[]) :
 Calls Tryz.prog 42 #[.pointer (some ⟨b,2,none⟩)] w fun e w'=>e = .returned (.string (strOfNums txt))∧Below (b+1) w w':=by
 obtain⟨ad,bv,hw, -,ho,hby⟩:=h;obtain⟨s,hs⟩:∃s,strOfNums txt=s:=⟨_,rfl⟩;have hsb:sb s=txt:=by rw[← hs];exact jD txt hby
 rw[hs];obtain⟨l,hl⟩:∃l,s.data.toList=l:=⟨_,rfl⟩;have hls:(⟨l.toArray⟩:ByteArray)=s:=by rw[← hl]
 have htx:txt=l.map fun x=>(x.toNat:Int):=by rw[← hsb,ags,hl]
 have hl0:l≠[]:=fun e=>hne (by rw[htx,e];rfl)
 have hlen:txt.length=l.length:=by rw[htx,eB]
 obtain⟨g,cap,cur,rfl,hbg,hg,hnc,hcm,hcs,Ey⟩:=ho.2.resolve_left (fun h=>hl0 (List.length_eq_zero_iff.1 (by rw[← hlen];exact h.2)));have hlp:0<l.length:=List.length_pos_iff.2 hl0;have HO:=ho;rw[hlen]at hnc hw;have c3:w.cell? ⟨b,3,none⟩=some (.slice (some ⟨g,0,none⟩) l.length cap):=hw.facts.2.2.2
 have hSD:(Builtin.unsafeSliceData_ #[22] 127 #[.slice (some ⟨g,0,none⟩) l.length cap]).run Tryz.prog w.drew = .ok (.pointer (some ⟨g,0,none⟩)) w.drew :=
  Lib.run_unsafeSliceData_row _ _ _ _ _ _ (by omega)
 have hUS:(Builtin.unsafeString_ #[127,3] 9 #[.pointer (some ⟨g,0,none⟩),.int .i64 l.length]).run Tryz.prog w.drew = .ok (.string s) (w.drew.freeze ⟨g,0,none⟩ l.length):=by
  rw[← hls];refine Lib.run_unsafeString_row w.drew 127 3 9 5 Tryz.underlying127 Zb g cur.size (by have hg':w.drew.heap[g]? = some (.cells cur 5):=hg;simp[World.shape?,hg']) l hl0 (by omega) (by unfold maxLen at hcm;omega) ?_;intro j x hx;have h1:(txt.map fun y=>Value.int .u8 y)[j]? = some (.int .u8 (x.toNat:Int)):=by rw[htx,List.map_map,gN,hx];rfl
  have h2:((aI .u8).all txt)[j]? = some (.int .u8 (x.toNat:Int)):=by rw[wD];exact h1
  have:=Own.cells HO j _ h2
  simpa [Addr.add_mid]using this
 clear HO ho hby Ey hcs htx hsb hl hls hs;go_enter Tryz.func42,Tryz.ntmps42;go_wp2_with fail
 go_region
 all_goals (go_wp2_with fail;go_ret;exact⟨rfl,Lib.below_freeze (Below.drew (ak (b+1) w)) (p:=⟨g,0,none⟩) hbg _⟩)
theorem MN (k:Int)(w:World):Calls Tryz.prog 66 #[.int .i64 k] w fun e w'=>e = .returned (.int .i64 ((bJ k:Nat)+1:Int))∧w=w':=by
 have fin:∀r:Nat,bJ k=r→(Calls Tryz.prog 66 #[.int .i64 k] w fun e w'=>e = .returned (.int .i64 ((r:Int)+1))∧w=w')→Calls Tryz.prog 66 #[.int .i64 k] w fun e w'=>e = .returned (.int .i64 ((bJ k:Nat)+1:Int))∧w=w':=fun r h1 h2=>by rw[h1];exact h2
 by_cases h9:k=9
 · refine fin 0 (by subst h9;rfl) ?_
   clear fin;subst h9;go_enter Tryz.func66,Tryz.ntmps66;go_wp2_with fail
   go_ret;exact⟨rfl,rfl⟩
 by_cases h10:k=10
 · refine fin 0 (by subst h10;rfl) ?_
   clear fin;subst h10;go_enter Tryz.func66,Tryz.ntmps66;go_wp2_with fail
   go_ret;exact⟨rfl,rfl⟩
 by_cases h11:k=11
 · refine fin 0 (by subst h11;rfl) ?_
   clear fin;subst h11;go_enter Tryz.func66,Tryz.ntmps66;go_wp2_with fail
   go_ret;exact⟨rfl,rfl⟩
 by_cases h12:k=12
 · refine fin 0 (by subst h12;rfl) ?_
   clear fin;subst h12;go_enter Tryz.func66,Tryz.ntmps66;go_wp2_with fail
   go_ret;exact⟨rfl,rfl⟩
 by_cases Ci:k=13
 · refine fin 0 (by subst Ci;rfl) ?_
   clear fin;subst Ci;go_enter Tryz.func66,Tryz.ntmps66;go_wp2_with fail
   go_ret;exact⟨rfl,rfl⟩
 by_cases Eb:k=14
 · refine fin 0 (by subst Eb;rfl) ?_
   clear fin;subst Eb;go_enter Tryz.func66,Tryz.ntmps66;go_wp2_with fail
   go_ret;exact⟨rfl,rfl⟩
 by_cases vo:k=15
 · refine fin 1 (by subst vo;rfl) ?_
   clear fin;subst vo;go_enter Tryz.func66,Tryz.ntmps66;go_wp2_with fail
   go_ret;exact⟨rfl,rfl⟩
 by_cases h16:k=16
 · refine fin 2 (by subst h16;rfl) ?_
   clear fin;subst h16;go_enter Tryz.func66,Tryz.ntmps66;go_wp2_with fail
   go_ret;exact⟨rfl,rfl⟩
 by_cases xL:k=17
 · refine fin 2 (by subst xL;rfl) ?_
   clear fin;subst xL;go_enter Tryz.func66,Tryz.ntmps66;go_wp2_with fail
   go_ret;exact⟨rfl,rfl⟩
 by_cases h18:k=18
 · refine fin 3 (by subst h18;rfl) ?_
   clear fin;subst h18;go_enter Tryz.func66,Tryz.ntmps66;go_wp2_with fail
   go_ret;exact⟨rfl,rfl⟩
 by_cases h19:k=19
 · refine fin 3 (by subst h19;rfl) ?_
   clear fin;subst h19;go_enter Tryz.func66,Tryz.ntmps66;go_wp2_with fail
   go_ret;exact⟨rfl,rfl⟩
 by_cases h8:k=8
 · refine fin 4 (by subst h8;rfl) ?_
   clear fin;subst h8;go_enter Tryz.func66,Tryz.ntmps66;go_wp2_with fail
   go_ret;exact⟨rfl,rfl⟩
 refine fin 5 (by unfold bJ;rw[ag (by omega),ag vo,ag (by omega),ag (by omega),ag h8]) ?_;have e8:(k == 8)=false:=aA.2 h8;have e9:(k == 9)=false:=aA.2 h9;have e10:(k == 10)=false:=aA.2 h10;have e11:(k == 11)=false:=aA.2 h11;have e12:(k == 12)=false:=aA.2 h12;have e13:(k == 13)=false:=aA.2 Ci;have e14:(k == 14)=false:=aA.2 Eb;have e15:(k == 15)=false:=aA.2 vo;have e16:(k == 16)=false:=aA.2 h16;have e17:(k == 17)=false:=aA.2 xL;have e18:(k == 18)=false:=aA.2 h18;have e19:(k == 19)=false:=aA.2 h19;clear fin h8 h9 h10 h11 h12 Ci Eb vo h16 xL h18 h19;go_enter Tryz.func66,Tryz.ntmps66;go_wp2_with fail
 go_ret;exact⟨rfl,rfl⟩
def mR(p:aB):Array Value:=#[.string p.t,.int .i64 p.node,.int .i64 p.least]
theorem aeW (p:aB):∀u∈(mR p).toList,u.oneCell'=true:=by
 intro v hv;simp only[mR,eY,List.not_mem_nil,or_false]at hv;rcases hv with rfl|rfl|rfl <;> rfl
def pz:Enc aB 3:={ f:=fun p=>(mR p).toList,len:=fun _=>rfl,one:=aeW }
theorem aeX:(Tryz.prog.info? 87).map (·.size)=some 3:=by kernel_rfl
def jd(w:World)(b:Nat)(p:aB):Prop:=w.heap[b]? = some (.cells (mR p) 87)
theorem jd.new(w:World)(p:aB):jd (w.alloc (.cells (mR p) 87)) w.heap.size p:=(kW w _).1
theorem ME {w:World}{b:Nat}{p:aB}(h:jd w b p)(fn:Func)(tmps:Array Value)(s:Tmp)(hf:fn.results=#[.cell s 87])(hp:tmps.getD s undef = .pointer (some ⟨b,0,none⟩)) :
 (results fn tmps).run Tryz.prog w = .ok (.agg (mR p)) w :=
 results_cell_row hf tmps w b _ _ _ _ hp h Tryz.underlying87 rfl aeX
theorem jd.cells {w:World}{b:Nat}{p:aB}(h:jd w b p):w.cell? ⟨b,0,none⟩=some (.string p.t)∧w.cell? ⟨b,1,none⟩=some (.int .i64 p.node)∧w.cell? ⟨b,2,none⟩=some (.int .i64 p.least) :=
 ⟨by rw[cell_of_row w b 0 _ _ _ h];rfl,by rw[cell_of_row w b 1 _ _ _ h];rfl,by rw[cell_of_row w b 2 _ _ _ h];rfl⟩
theorem jd.bS{w:World}{b:Nat}{p:aB}(h:jd w b p):w.frozen? ⟨b,0,none⟩=false∧w.frozen? ⟨b,1,none⟩=false∧w.frozen? ⟨b,2,none⟩=false:=⟨frozen_of_row w b 0 _ _ h,frozen_of_row w b 1 _ _ h,frozen_of_row w b 2 _ _ h⟩
theorem jd.H9 {w:World}{b:Nat}{p0:aB}(h:jd w b p0)(p:aB):jd (((w.setCell ⟨b,0,none⟩ (.string p.t)).setCell ⟨b,1,none⟩ (.int .i64 p.node)).setCell ⟨b,2,none⟩ (.int .i64 p.least)) b p:=by
 have h1:(w.setCell ⟨b,0,none⟩ (.string p.t)).heap[b]? = some (.cells #[.string p.t,.int .i64 p0.node,.int .i64 p0.least] 87):=by rw[heap_setCell_same w b 0 _ _ _ h];rfl
 have h2:((w.setCell ⟨b,0,none⟩ (.string p.t)).setCell ⟨b,1,none⟩ (.int .i64 p.node)).heap[b]? = some (.cells #[.string p.t,.int .i64 p.node,.int .i64 p0.least] 87):=by rw[heap_setCell_same _ b 1 _ _ _ h1];rfl
 unfold jd;rw[heap_setCell_same _ b 2 _ _ _ h2];rfl
theorem jd.keep{w w':World}{b:Nat}{p:aB}(h:jd w b p)(hk:w'.heap[b]? = w.heap[b]?):jd w' b p:=by unfold jd;rw[hk];exact h
theorem iK.uu{w w':World}{b:Nat}(h:w.grownBy w' (some b)):iK w w' b:=⟨h.os,h.tape,h.output,h.size,fun k hk hkb _=>h.block k hk (fun e=>hkb (dU e))⟩
theorem KP{a w:World}{r:Option Nat}{z:Nat}(h:a.grownBy w r)(hz:a.heap.size≤z)(v0 v1 v2:Value):a.grownBy (((w.setCell ⟨z,0,none⟩ v0).setCell ⟨z,1,none⟩ v1).setCell ⟨z,2,none⟩ v2) r:=grownBy.uB (grownBy.uB (grownBy.uB h ⟨z,0,none⟩ v0 hz) ⟨z,1,none⟩ v1 hz) ⟨z,2,none⟩ v2 hz
theorem afM:Tryz.f67.results=#[.cell 2 87]:=by kernel_rfl
theorem afL:Tryz.f39.results=#[.cell 4 87]:=by kernel_rfl
theorem afN:Tryz.f41.results=#[.cell 2 87]:=by kernel_rfl
theorem aeL (t:ByteArray)(w:World):Calls Tryz.prog 67 #[.string t] w fun e w'=>e = .returned (.agg (mR (aB.plain t)))∧Below w.heap.size w w':=by
 have HN:=ae (jd.new w (aB.plain t));have HB:=ae ((ak w.heap.size w).alloc (aj _) (.cells (mR (aB.plain t)) 87));go_enter Tryz.func67,Tryz.ntmps67;go_wp2_with fail
 exact bodyPost_ret (ME HN.o _ _ 2 afM rfl) rfl ⟨rfl,HB.o⟩
theorem aeq (i m:Int)(w:World):Calls Tryz.prog 39 #[.int .i64 i,.int .i64 m] w fun e w'=>e = .returned (.agg (mR (aB.op i m)))∧Below w.heap.size w w':=by
 have HN:=ae (jd.new w (aB.op i m));have HB:=ae ((ak w.heap.size w).alloc (aj _) (.cells (mR (aB.op i m)) 87));go_enter Tryz.func39,Tryz.ntmps39;go_wp2_with fail
 exact bodyPost_ret (ME HN.o _ _ 4 afL rfl) rfl ⟨rfl,HB.o⟩
def dO(w:World)(b:Nat)(nv:Value)(st:List aB)(txt:List Int):Prop:=∃wv,lN w b nv wv txt∧Own pz 87 w (b+1) wv st
theorem aey {α : Type}{size:Nat}{E:Enc α size}{e:TypeId}{w:World}{base g cap:Nat}{st:List α}(h:Own E e w base (.slice (some ⟨g,0,none⟩) st.length cap) st)(k:Nat)(hk:k≤st.length):Own E e w base (.slice (some ⟨g,0,none⟩) k cap) (st.take k):=by
 have hl:(st.take k).length=k:=by rw[gX];omega
 rcases h.2 with ⟨h1,_⟩|⟨g',qf,cur,h1,h2,h3,h4,h5,h6,h7⟩
 · cases h1
 · injection h1 with e1 e2 e3
   injection e1 with e1;injection e1 with e1;subst e1;subst e3;refine⟨by rw[Enc.mP],.inr ⟨g,cap,cur,by rw[hl],h2,h3,by omega,h5,h6, ?_⟩⟩;have h8:(cur.toList.take (st.length*size)).take (k*size)=(E.all st).take (k*size):=by rw[h7]
   rw[List.take_take,Nat.min_eq_left (Nat.mul_le_mul_right _ hk)]at h8;rw[hl,h8]
   conv=>lhs;rw[← List.take_append_drop k st,E.all_append]
   exact List.take_left' (by rw[E.mP,hl])
theorem aeN (w:World)(b:Nat)(nv:Value)(st:List aB)(p:aB)(txt:List Int)(h:dO w b nv (st++[p]) txt)(hlen:st.length≤10000000000) :
 Calls Tryz.prog 41 #[.pointer (some ⟨b,0,none⟩)] w fun e w'=>e = .returned (.agg (mR p))∧dO w' b nv st txt∧iK w w' b:=by
 obtain⟨wv,⟨ad,bv,hw,had,ho,hby⟩,hq⟩:=h;have hq0:=hq;obtain⟨g,cap,rfl,hbg,hgs,hnc,hcm⟩:=Own.some hq (by simp);have hlt:=hw.lt;have hn:(st++[p]).length=st.length+1:=by simp
 obtain⟨n,hst⟩:∃n,st.length=n:=⟨_,rfl⟩;have hx:(st++[p])[n]? = some p:=by rw[← hst];simp
 have k0:w.cell? ⟨g,n*3,none⟩=some (.string p.t):=Own.cells hq0 (n*3) _ (by have:=pz.at (st++[p]) n 0 p hx (by omega);rw[Nat.add_zero]at this;rw[this];rfl);have k1:w.cell? ⟨g,n*3+1,none⟩=some (.int .i64 p.node):=Own.cells hq0 (n*3+1) _ (by rw[pz.at (st++[p]) n 1 p hx (by omega)];rfl);have k2:w.cell? ⟨g,n*3+2,none⟩=some (.int .i64 p.least):=Own.cells hq0 (n*3+2) _ (by rw[pz.at (st++[p]) n 2 p hx (by omega)];rfl);rw[hn,hst]at hq0 hnc hw;have hg1:g<w.heap.size:=hgs;have hn9:n≤10000000000:=by omega
 have hi1:(0:Int)≤(n:Int):=by omega
 have hi2:(n:Int)<(n:Int)+1:=by omega
 have hi3:n≤cap:=by omega
 have hi4:(n:Int)≤(cap:Int):=by omega
 obtain⟨c0,c1,c2,c3⟩:=hw.facts;have hB1:Below w.heap.size w (w.alloc (.cells #[.string ⟨#[]⟩,.int .i64 0,.int .i64 0] 87)):=(ak _ _).alloc (aj _) _;have iB:=ae (show jd (w.alloc (.cells #[.string ⟨#[]⟩,.int .i64 0,.int .i64 0] 87)) w.heap.size (aB.plain ⟨#[]⟩)from jd.new w (aB.plain ⟨#[]⟩));have a1:=(hB1.cell (p:=⟨b,1,none⟩) hlt).trans c1;have j0:=(hB1.cell (p:=⟨g,n*3,none⟩) hg1).trans k0;have j1:=(hB1.cell (p:=⟨g,n*3+1,none⟩) hg1).trans k1;have j2:=(hB1.cell (p:=⟨g,n*3+2,none⟩) hg1).trans k2;have HB1:=ae hB1;have HW:=ae hw;have HO:=ae ho;have HQ:=ae hq;have xc:=ae hby;have HST:=ae hst;clear hB1 c0 c1 c2 c3 k0 k1 k2 hq0 hx hn hst hw ho hq hby hlen;go_enter Tryz.func41,Tryz.ntmps41;go_upto_region 1 with (fail)
 generalize hz:w.heap.size=z at iB ⊢;have hwz:w.heap.size≤z:=Nat.le_of_eq hz;generalize (w.alloc (.cells #[.string ⟨#[]⟩,.int .i64 0,.int .i64 0] 87))=w1 at iB HB1 a1 j0 j1 j2 ⊢;clear hz;have WT:=iB;go_upto_region 2 with (fail)
 have hB2:Below w1.heap.size w1 (w1.alloc (.cells #[.string p.t,.int .i64 p.node,.int .i64 p.least] 87)):=(ak _ _).alloc (aj _) _;have dI:jd (w1.alloc (.cells #[.string p.t,.int .i64 p.node,.int .i64 p.least] 87)) w1.heap.size p:=jd.new w1 p;have hb1:b<w1.heap.size:=eZ hlt HB1.o.size;have a2:=(hB2.cell (p:=⟨b,1,none⟩) hb1).trans a1;have HB2:=ae (HB1.o.trans (hB2.mono HB1.o.size))
 have HZ2:=ae (show jd (w1.alloc (.cells #[.string p.t,.int .i64 p.node,.int .i64 p.least] 87)) z (aB.plain ⟨#[]⟩)from by
  unfold jd;rw[hB2.block z (dn.1 iB.o).1];exact iB.o)
 clear hB2;go_upto_region 3 with (fail)
 generalize hq2:w1.heap.size=q at dI ⊢;generalize w1.alloc (.cells #[.string p.t,.int .i64 p.node,.int .i64 p.least] 87)=w2 at dI HB2 HZ2 a2 ⊢;have hb2:b<w2.heap.size:=eZ hlt HB2.o.size;have HW2:=ae (HW.o.below HB2.o hlt);have f1:=HW2.o.frozen 1;clear a1 j0 j1 j2;go_upto_region 4 with (fail)
 have HW3:=ae (HW2.o.EL (.slice (some ⟨g,0,none⟩) n cap));have GA:q≠b:=by have:=HB1.o.size;omega
 have hzb:z≠b:=by omega
 have hzq:z≠q:=by have:=(dn.1 WT.o).1;omega
 have aY:=dI.keep (fw w2 ⟨b,1,none⟩ (.slice (some ⟨g,0,none⟩) n cap) q GA);have HZ3:=HZ2.o.keep (fw w2 ⟨b,1,none⟩ (.slice (some ⟨g,0,none⟩) n cap) z hzb);have fG:=ae (grownBy.gU (grownBy.below' (grownBy.fP w (some b)) HB2.o) 1 (.slice (some ⟨g,0,none⟩) n cap));generalize w2.setCell ⟨b,1,none⟩ (.slice (some ⟨g,0,none⟩) n cap)=w3 at HW3 aY HZ3 fG ⊢;obtain⟨y0,y1,y2⟩:=aY.cells;obtain⟨z0,z1,z2⟩:=HZ3.bS;obtain⟨u0,u1,u2⟩:=HZ3.cells;have BS:=ae (HZ3.H9 p);have oD:=ae (KP fG.o hwz (.string p.t) (.int .i64 p.node) (.int .i64 p.least))
 have xB:=ae (show gZ (((w3.setCell ⟨z,0,none⟩ (.string p.t)).setCell ⟨z,1,none⟩ (.int .i64 p.node)).setCell ⟨z,2,none⟩ (.int .i64 p.least)) b nv (.slice (some ⟨g,0,none⟩) n cap) ad bv from by
  unfold gZ;rw[fw _ ⟨z,2,none⟩ _ b (fun e=>hzb e.symm),fw _ ⟨z,1,none⟩ _ b (fun e=>hzb e.symm),fw _ ⟨z,0,none⟩ _ b (fun e=>hzb e.symm)];exact HW3.o)
 clear aY HZ3 f1;go_wp2_with fail
 have Rv:=aey HQ.o st.length (by simp);rw[List.take_left,HST.o]at Rv;exact bodyPost_ret (ME BS.o _ _ 2 afN rfl) rfl ⟨rfl,⟨_,⟨ad,bv,xB.o,had,Own.other HO.o oD.o (Nat.lt_succ_self b),xc.o⟩,Own.other Rv oD.o (Nat.lt_succ_self b)⟩,iK.uu oD.o⟩
end Go.Proofs.YtaobhjliflomaaaGreatDoor
namespace Go.Proofs.YtaobhjliflomaaaGreatDoor
open Go.RowKit Go.Shelf
attribute [local go_sem] Oper.semAt_some
def vk(ps:List aB)(q:Nat):List (Nat × aB):=(List.range (ps.length - q)).map fun j=>(ps.length - 1 - j,ps.getD (ps.length - 1 - j) (aB.plain ⟨#[]⟩))
theorem PY(ps:List aB):vk ps ps.length=[]:=by unfold vk;simp
theorem PZ (ps:List aB)(m:Nat)(p:aB)(hp:ps[m]? = some p):vk ps m=vk ps (m+1)++[(m,p)]:=by
 have hl:=(dS.1 hp).1;unfold vk;rw[show ps.length - m=(ps.length - (m+1))+1 by omega,List.range_succ,gP];show _++[(ps.length - 1 - (ps.length - (m+1)),_)]=_;rw[show ps.length - 1 - (ps.length - (m+1))=m by omega,jL,hp];rfl
theorem Y2(ps:List aB)(q:Nat):(vk ps q).length=ps.length - q:=by unfold vk;simp
theorem Yv (F:Fence)(n:Nat)(h7:F.fn 94)(hro:F.round=none)(hn:1≤n)(l Bs b cap:Nat)(ps:List aB)(hlen:ps.length≤1000000000)(J Jx:List (Nat × aB)→World→Prop)
 (hY:∀pre x W,J pre W→pre.length<ps.length→YieldAt F (n - 1) Tryz.prog l #[.int .i64 (x.1:Int),.agg (mR x.2)] W fun e W' =>
   (e = .returned (.bool true)∧J (pre++[x]) W'∧jv Bs b W W')∨(e = .returned (.bool false)∧Jx (pre++[x]) W'))
 (W:World) (qY:W.cell? ⟨Bs,0,none⟩=some (.slice (some ⟨b,0,none⟩) ps.length cap)) (hc:∀m p,ps[m]? = some p→W.cell? ⟨b,m*3,none⟩=some (.string p.t)∧W.cell? ⟨b,m*3+1,none⟩=some (.int .i64 p.node)∧W.cell? ⟨b,m*3+2,none⟩=some (.int .i64 p.least)) (h0:J [] W) :
 CallsIn F n Tryz.prog 94 #[.func (.yield l) #[] #[],.pointer (some ⟨Bs,0,none⟩)] W fun e W'=>(∃v,e = .returned v) ∧
  ((∃ys,ys=vk ps 0∧J ys W')∨(∃pre,True∧Jx pre W')):=by
 obtain⟨L,hL⟩:∃L,ps.length=L:=⟨_,rfl⟩;have HL:=ae hL;rw[hL]at hlen qY;refine callsIn_of_wp Tryz.func94 rfl h7 ?_ hro;simp only[Tryz.ntmps94,List.size_toArray,aX,dV,Nat.reduceAdd,Nat.reduceSub,Array.replicate_succ,Array.replicate_zero,List.push_toArray,List.append_toArray,iy,dx];gi_wp2
 gi_loopw [3] (fun i wr=>∃q:Nat,q≤L∧i = .int .i64 ((q:Int) - 1)∧J (vk ps q) wr∧jv Bs b W wr)
  (fun i _=>(intOf i+1).toNat)
 case atStart=>exact⟨L,aj _,rfl,by rw[← hL,PY];exact h0,jv.refl _ _ _⟩
 case round =>
  obtain⟨q,hq,rfl,hJs,hnx⟩:=hrel;have QK:=(hnx.Kz 0).trans qY;cases q with
  | zero =>
    gi_wp2
    go_end0;exact⟨⟨_,rfl⟩,.inl ⟨_,rfl,hJs⟩⟩
  | succ m =>
    obtain⟨p,hp⟩:∃p,ps[m]? = some p:=⟨_,dL (by omega)⟩;obtain⟨c0,c1,c2⟩:=hc m p hp;have d0:=(hnx.wG (m*3)).trans c0;have d1:=(hnx.wG (m*3+1)).trans c1;have d2:=(hnx.wG (m*3+2)).trans c2;have hst:=PZ ps m p hp;obtain⟨fn,tmps,assign,body,hy,hR⟩:=hY _ (m,p) wr hJs (by rw[Y2];omega);rw[← hst]at hR;dsimp only[mR]at hy;have hm1:((m+1:Nat):Int) - 1=(m:Int):=by omega
    rw[hm1];have Ri:(m:Int)<(L:Int):=by omega
    have hm0:(0:Int)≤(m:Int):=by omega
    clear hm1 c0 c1 c2 hc hJs hst;gi_wp2
    refine hR.mono ?_;rintro e W3 (⟨rfl,hJ3,hk3⟩|⟨rfl,Ed⟩)
    · gi_wp2
      go_roundw
      case rel=>exact⟨m,by omega,by simp,hJ3,hnx.trans hk3⟩
      case measure=>simp[intOf]
    · gi_wp2
      refine bodyPost_ret (results_none rfl _ _ _) rfl ?_;exact⟨⟨_,rfl⟩,.inr ⟨_,trivial,Ed⟩⟩
theorem YD (F:Fence)(n:Nat)(h5:F.fn 64)(hro:F.round=none)(a:Option Addr)(len cap:Nat)(w:World) :
 CallsIn F n Tryz.prog 64 #[.slice a len cap] w fun e w'=>e = .returned (.func (.func 94) #[] #[.pointer (some ⟨w.heap.size,0,none⟩)])∧w.alloc (.cells #[.slice a len cap] 79)=w':=by
 refine callsIn_of_wp Tryz.func64 rfl h5 ?_ hro;simp only[Tryz.ntmps64,List.size_toArray,aX,dV,Nat.reduceAdd,Nat.reduceSub,Array.replicate_succ,Array.replicate_zero,List.push_toArray,List.append_toArray,iy,dx];gi_wp2
 go_ret;exact⟨rfl,rfl⟩
theorem YA (F:Fence)(n:Nat)(h7:F.fn 94)(hro:F.round=none)(hn:1≤n)(Bs b cap:Nat)(ps:List aB)(hlen:ps.length≤1000000000)(w:World)(hB:Bs<w.heap.size)(hb:b<w.heap.size)
 (qY:w.cell? ⟨Bs,0,none⟩=some (.slice (some ⟨b,0,none⟩) ps.length cap)) (hc:∀m p,ps[m]? = some p→w.cell? ⟨b,m*3,none⟩=some (.string p.t)∧w.cell? ⟨b,m*3+1,none⟩=some (.int .i64 p.node)∧w.cell? ⟨b,m*3+2,none⟩=some (.int .i64 p.least)) :
 SeqStopsK F n Tryz.prog 94 #[.pointer (some ⟨Bs,0,none⟩)] (fun x:Nat × aB=>#[Value.int .i64 (x.1:Int),.agg (mR x.2)]) (jv Bs b) (fun ys=>ys=vk ps 0) (fun _=>True) ps.length w:=fun l J Jx W hW _ _ hY h0 =>
 Yv F n h7 hro hn l Bs b cap ps hlen J Jx hY W ((hW.cell hB).trans qY) (fun m p hp=>by
  obtain⟨c0,c1,c2⟩:=hc m p hp;exact⟨(hW.cell (p:=⟨b,m*3,none⟩) hb).trans c0,(hW.cell (p:=⟨b,m*3+1,none⟩) hb).trans c1,(hW.cell (p:=⟨b,m*3+2,none⟩) hb).trans c2⟩) h0
theorem Y3:∀(ps:List aB)(q:Nat),q≤ps.length→(vk ps q).map (·.2)=(ps.drop q).reverse:=by
 intro ps q
 induction h:ps.length - q generalizing q with
 | zero =>
   intro hq;have:q=ps.length:=by omega
   subst this;rw[PY,List.drop_length];rfl
 | succ d ih =>
   intro hq;obtain⟨p,hp⟩:∃p,ps[q]? = some p:=⟨_,dL (by omega)⟩;have hl:=(dS.1 hp).1;rw[PZ ps q p hp,gP,ih (q+1) (by omega) (by omega),List.drop_eq_getElem_cons hl,List.reverse_cons];have:ps[q]=p:=by rw[dL hl]at hp;exact dU hp
   rw[this];rfl
end Go.Proofs.YtaobhjliflomaaaGreatDoor
namespace Go.Proofs.YtaobhjliflomaaaGreatDoor
open Go.RowKit Go.Shelf
attribute [local go_sem] Oper.semAt_some
variable {txt:List Int}{b:Nat}{A B w:World}
structure bF (w w':World)(b:Nat):Prop where
 os:w'.os=w.os
 tape:w'.tape=w.tape
 output:w'.output=w.output
 size:w.heap.size≤w'.heap.size
 block:∀k,k<w.heap.size→k≠b→(k<b∨∀cur fr,w.heap[k]? ≠ some (.cells cur 5 fr)∧w.heap[k]? ≠ some (.cells cur 87 fr))→w'.heap[k]? = w.heap[k]?
theorem bF.refl(w:World)(b:Nat):bF w w b:=⟨rfl,rfl,rfl,aj _,fun _ _ _ _=>rfl⟩
theorem bF.trans {w1 w2:World}(h:bF w w1 b)(k:bF w1 w2 b):bF w w2 b :=
 ⟨k.os.trans h.os,k.tape.trans h.tape,k.output.trans h.output,bO h.size k.size,fun j hj hb hr=>by
  have h1:=h.block j hj hb hr;rw[k.block j (eZ hj h.size) hb (hr.imp id fun hn cur fr=>by rw[h1];exact hn cur fr)];exact h1⟩
theorem bF.uu{w':World}(h:iK w w' b):bF w w' b:=⟨h.os,h.tape,h.output,h.size,fun k hk hb hr=>h.block k hk hb (hr.imp id fun hn cur fr=>(hn cur fr).1)⟩
theorem bF.iQ{w':World}(h:Below w.heap.size w w'):bF w w' b:=⟨h.os,h.tape,h.output,h.size,fun k hk _ _=>h.block k hk⟩
theorem bF.stay {row:Option Nat}(h:bF w A b)(hg:A.grownBy B row)(hr:∀r,row=some r→w.heap.size≤r):bF w B b :=
 ⟨hg.os.trans h.os,hg.tape.trans h.tape,hg.output.trans h.output,bO h.size hg.size,fun k hk hb h1=>by
  rw[hg.block k (eZ hk h.size) (fun e=>by have:=hr k e.symm;omega)];exact h.block k hk hb h1⟩
theorem yY {row:Option Nat}(hg:A.grownBy B row)(hr:∀r,row=some r→∃o:Obj,A.heap[r]? = some o∧o.isCells=false){x:Nat}{cs:Array Value}{t:TypeId}{fr:Nat × Nat}(h:A.heap[x]? = some (.cells cs t fr)):B.heap[x]? = some (.cells cs t fr):=by
 rw [hg.block x (dn.1 h).1 (fun e=>by
  obtain⟨o,ho,hc⟩:=hr x e.symm;rw[h]at ho;cases ho;cases hc)]
 exact h
theorem Hz {α : Type}{size:Nat}{E:Enc α size}{e:TypeId}{base:Nat}{v:Value}{xs:List α}(h:Own E e A base v xs){row:Option Nat}(hg:A.grownBy B row)(hr:∀r,row=some r→∃o:Obj,A.heap[r]? = some o∧o.isCells=false):Own E e B base v xs:=by
 refine⟨h.1, ?_⟩;rcases h.2 with h|⟨g,cap,cur,h1,h2,h3,h4⟩
 · exact .inl h
 · exact .inr ⟨g,cap,cur,h1,h2,yY hg hr h3,h4⟩
theorem lN.stay {nv wv:Value}(h:lN A b nv wv txt){row:Option Nat}(hg:A.grownBy B row)(hr:∀r,row=some r→∃o:Obj,A.heap[r]? = some o∧o.isCells=false):lN B b nv wv txt:=by
 obtain⟨ad,bv,h1,h2,h3,h4⟩:=h;exact⟨ad,bv,yY hg hr h1,h2,Hz h3 hg hr,h4⟩
def BZ (w:World)(b:Nat)(nv:Value)(st:List aB)(txt:List Int)(lb:Nat)(pre:List (Nat × aB))(W:World):Prop :=
 (∃wv,lN W b nv wv txt∧Own pz 87 W (b+1) wv (st++pre.map (·.2))∧wv.ownBlock≠some lb)∧Boxed W w.heap.size 78 (.pointer (some ⟨b,0,none⟩))∧W.heap[lb]? = w.heap[lb]?
theorem BZ.below {nv:Value}{st:List aB}{lb:Nat}{pre:List (Nat × aB)}{W W':World}(h:BZ w b nv st txt lb pre W)(hb:Below W.heap.size W W')(hl:lb<W.heap.size):BZ w b nv st txt lb pre W':=by
 obtain⟨⟨wv,h1,h2,h3⟩,h4,h5⟩:=h;have h4':W.heap[w.heap.size]? = some (.cells #[.pointer (some ⟨b,0,none⟩)] 78):=h4;exact⟨⟨wv,h1.below hb,h2.below hb (aj _),h3⟩,(show W'.heap[w.heap.size]? = _ from(hb.block _ (dn.1 h4').1).trans h4'),(hb.block lb hl).trans h5⟩
theorem aeY {nv:Value}{st:List aB}{lb:Nat}{cs:Array Value}{fr:Nat × Nat}(hlb:w.heap[lb]? = some (.cells cs 87 fr))(B:Nat):OwnFrom B (BZ w b nv st txt lb):=by
 rintro pre X Y row ⟨⟨wv,h1,h2,h3⟩,h4,h5⟩ hg hr;have hr2:∀r,row=some r→∃o:Obj,X.heap[r]? = some o∧o.isCells=false:=fun r e=>(hr r e).2
 refine⟨⟨wv,lN.stay h1 hg hr2,Hz h2 hg hr2,h3⟩,boxed_own w.heap.size 78 (fun (_:Unit)=>Value.pointer (some ⟨b,0,none⟩)) () X Y row h4 hg hr2, ?_⟩;rw[yY hg hr2 (h5.trans hlb)];exact hlb.symm
end Go.Proofs.YtaobhjliflomaaaGreatDoor
namespace Go.Proofs.YtaobhjliflomaaaGreatDoor
open Go.RowKit
variable {P:Program} {ops:Array Oper} {md:Region.Mode} {l n:Nat}
def FT(N:Act→World→Prop):Exit→Act→World→Prop:=fun e a w=>e = .normal∧N a w
theorem Uu (N:Act→World→Prop):¬ LetsOut (FT N):=by
 rintro⟨a,w,h,_⟩;cases h
theorem af7 {row:String}{args:Array Value}{w:World}{R:Value→World→Prop}(h:Rows P row args w R):RowsIn (Fence.wide.inRound l) n P row args w R:=fun c cs _=>by
 obtain⟨v,w',r,s⟩:=h c cs;exact⟨v,w',r,stepsIn_wide.2 s⟩
theorem aiy {o:Oper}{a:Act}{K K':Act→World→Prop}(hK:∀a w,K a w→K' a w){Q:Exit→Act→World→Prop}{r:Result Next}(h:o.upon P a K (FT (Q .normal)) r):o.uponIn (Fence.wide.inRound l) n P a K' Q r:=by
 unfold Oper.upon at h;split at h
 · exact hK _ _ h
 · exact hK _ _ h
 · exact hK _ _ h
 · refine⟨fun hd=>(by cases hd),CallsIn.inRound l ((callsIn_wide.2 h).mono ?_)⟩
   rintro e w' he;cases e with
   | returned v=>exact hK _ _ he
   | panicked c=>exact absurd he.1 (by intro h;cases h)
   | outgrown=>exact absurd he (Uu _)
 · exact⟨fun hd=>(by cases hd),(af7 h).mono fun v w' hv=>hK _ _ hv⟩
 · exact absurd h.1 (by intro h;cases h)
 · exact h.elim
theorem F6 {Q:Exit→Act→World→Prop}(hnd:∀(i:Nat)(o:Oper),ops[i]? = some o→∀c,o.op ≠ .defer c):∀(fuel:Nat)(listed:Array Bool)(a:Act)(w:World),wpAny P md ops (FT (Q .normal)) fuel listed a w→wpAnyIn (Fence.wide.inRound l) n P md ops Q fuel listed a w
 | 0,_,_,_,h=>⟨h.1,h.2.2⟩
 | fuel + 1,listed,a,w,h=>by
   refine⟨fun hr=>(h.1 hr).2,fun i hi => ?_⟩;have hs:=h.2 i hi;unfold wpOp at hs;unfold wpOpIn;cases ho:ops[i]? with
   | none=>rw[ho]at hs;exact F6 hnd fuel _ _ _ hs
   | some o =>
     rw[ho]at hs;simp only at hs ⊢;by_cases hw:Region.wanted o (yielded ops a.tmps)=true
     · rw[ah hw]at hs ⊢
       have hs:=hs.resolve_right (fun hx=>Uu _ hx.2);refine⟨fun _ _=>trivial, ?_⟩;rw[Oper.semAt_eq _ _ _ (hnd i o ho)];exact aiy (fun a' w' h'=>F6 hnd fuel _ a' w' h') hs
     · rw[ag hw]at hs ⊢
       exact⟨fun _ _=>trivial,F6 hnd fuel _ _ _ hs⟩
def Mj(ops:Array Oper):Bool:=ops.toList.all fun o=>match o.op with | .defer _=>false|_=>true
theorem adY {ops:Array Oper}(h:Mj ops=true)(i:Nat)(o:Oper)(ho:ops[i]? = some o):∀c,o.op ≠ .defer c:=by
 intro c e;unfold Mj at h;rw[List.all_eq_true]at h;have h2:=h o (by rw[← Array.getElem?_toList]at ho;exact fT ho);rw[e]at h2;cases h2
theorem MR {Q:Exit→Act→World→Prop}{id:Nat}{a:Act}{w:World}(hm:P.follows .mixedOrders=true)(hnd:Mj ops=true)
 (h:wpAny P .any ops (FT (Q .normal)) ops.size (Array.replicate ops.size false) a w.drew):(Code.region id ops true).wpIn (Fence.wide.inRound l) n P Q a w :=
 wpIn_region_any hm (F6 (fun i o ho=>adY hnd i o ho) _ _ _ _ h)
end Go.Proofs.YtaobhjliflomaaaGreatDoor
namespace Go.Proofs.YtaobhjliflomaaaGreatDoor
open Go.RowKit Go.Shelf
attribute [local go_sem] Oper.semAt_some
theorem Elem.part:Elem Tryz.prog 79 87 3 32:=⟨Tryz.underlying79,⟨.agg #[.string ⟨#[]⟩,.int .i64 0,.int .i64 0],by kernel_rfl,rfl⟩,by decide⟩
theorem Yp {P:Program}{α : Type}{size t e bytes:Nat}{w:World}(ty:TypeId)(dh:Elem P t e size bytes)(E:Enc α size)(base:Nat)(v:Value)(xs:List α)(iG:Own E e w base v xs)(ad:Addr)(m c:Nat)(ys:List α)(hl:ys.length=m)
 (hc:∀(j:Nat)(u:Value),(E.all ys)[j]? = some u→w.cell? (ad.add j)=some u) (hb:(xs.length+m)*bytes≤140737488355328) (hb2:xs.length+m≤maxLen) (jT:base≤w.heap.size) :
 ∃v' w',(Builtin.append_ #[t,t] ty #[v,.slice (some ad) m c]).run P w = .ok v' w'∧Own E e w' base v' (xs++ys)∧w.grownBy w' v.ownBlock∧(v'.ownBlock=v.ownBlock∨v'.ownBlock=some w.heap.size):=by
 obtain⟨z,hi,hz⟩:=dh.inf;obtain⟨i,hi1,hi2,hi3,hi4⟩:=info_parts hi;obtain⟨v',w',q8,r1,r2,_,r4⟩:=run_append_own_at (P:=P) w base t ty e i z size bytes dh.und hi1 hi2 hi3 hi4 hz dh.pos v xs.length (E.all xs) iG ad m c (E.all ys) (by rw[E.mP,hl]) hc (E.ym ys) hb2 hb jT;refine⟨v',w',q8, ?_,r2,r4⟩;unfold Own;rw[E.all_append,av,hl];exact r1
theorem Wp {P:Program}{t:TypeId}{w w':World}{o:Oper}{a:Act}{K:Act→World→Prop}{Q:Exit→Act→World→Prop}{v x v':Value}(s y:Operand)(ho:o.op = .call { callee := .builtin .append,args:=#[s,y],argTypes:=#[t,t] })(hs:a.eval s=v)(hx:a.eval y=x)
 (q8:(Builtin.append_ #[t,t] o.type #[v,x]).run P w = .ok v' w') (h:K (a.put o.dst v') w'):Oper.wp P o a w K Q:=by
 unfold Oper.wp;simp[execOp,ho,resolve,invoke,builtin,hs,hx,q8,Result.andThen];exact h
theorem aeZ (w:World)(b:Nat)(nv:Value)(st ps:List aB)(txt:List Int)(lb cap:Nat)(h:dO w b nv st txt)(hps:Own pz 87 w 0 (.slice (some ⟨lb,0,none⟩) ps.length cap) ps)(hne:∀wv,lN w b nv wv txt→wv.ownBlock≠some lb)(hl1:ps.length≤1000000)(hl2:st.length≤2000000000) :
 Calls Tryz.prog 38 #[.pointer (some ⟨b,0,none⟩),.slice (some ⟨lb,0,none⟩) ps.length cap] w fun e w'=>e = .returned (.tuple #[])∧dO w' b nv (st++ps.reverse) txt∧bF w w' b:=by
 obtain⟨wv,hws,hq⟩:=h;have hwb:=hws.lt
 have hlt:lb<w.heap.size:=by
  rcases hps.2 with ⟨h1,_⟩|⟨g',qf,cur,h1,_,h3,_⟩
  · cases h1
  · injection h1 with e1;injection e1 with e1;injection e1 with e1;subst e1;exact(dn.1 h3).1
 refine(callsIn_wide (n:=6)).1 ?_;refine callsIn_of_wp_marks Tryz.func38 rfl trivial ?_ rfl;simp only[Tryz.ntmps38,List.size_toArray,aX,dV,Nat.reduceAdd,Nat.reduceSub,Array.replicate_succ,Array.replicate_zero,List.push_toArray,List.append_toArray,iy,dx]
 gi_wp2_with (refine⟨trivial, ?_⟩;gi_at_call 64;refine(YD Fence.wide _ trivial rfl _ _ _ _).mono ?_;rintro e w' ⟨rfl,rfl⟩)
 have yV:=(Boxed.new w 78 (.pointer (some ⟨b,0,none⟩))).alloc (.cells #[.slice (some ⟨lb,0,none⟩) ps.length cap] 79);have uY:=Boxed.new (w.alloc (.cells #[.pointer (some ⟨b,0,none⟩)] 78)) 79 (.slice (some ⟨lb,0,none⟩) ps.length cap);simp only[jE]at uY;have hB0:Below w.heap.size w ((w.alloc (.cells #[.pointer (some ⟨b,0,none⟩)] 78)).alloc (.cells #[.slice (some ⟨lb,0,none⟩) ps.length cap] 79)):=((ak _ w).alloc (aj _) _).alloc (by simp) _;have hsz:((w.alloc (.cells #[.pointer (some ⟨b,0,none⟩)] 78)).alloc (.cells #[.slice (some ⟨lb,0,none⟩) ps.length cap] 79)).heap.size=w.heap.size+2:=by simp
 obtain⟨W0,hW0⟩:∃W0,(w.alloc (.cells #[.pointer (some ⟨b,0,none⟩)] 78)).alloc (.cells #[.slice (some ⟨lb,0,none⟩) ps.length cap] 79)=W0:=⟨_,rfl⟩;rw[hW0]at yV uY hB0 hsz ⊢;clear hW0
 obtain ⟨lcs,lfr,Rh⟩:∃cs fr,w.heap[lb]? = some (.cells cs 87 fr):=by
  rcases hps.2 with ⟨h1,_⟩|⟨g',qf,cur,h1,_,h3,_⟩
  · cases h1
  · injection h1 with e1;injection e1 with e1;injection e1 with e1;subst e1;exact⟨_,_,h3⟩
 have hcell:∀m p,ps[m]? = some p→w.cell? ⟨lb,m*3,none⟩=some (.string p.t)∧w.cell? ⟨lb,m*3+1,none⟩=some (.int .i64 p.node)∧w.cell? ⟨lb,m*3+2,none⟩=some (.int .i64 p.least):=fun m p hp =>
  ⟨Own.cells hps (m*3) _ (by have:=pz.at ps m 0 p hp (by omega);rw[Nat.add_zero]at this;rw[this];rfl),Own.cells hps (m*3+1) _ (by rw[pz.at ps m 1 p hp (by omega)];rfl),Own.cells hps (m*3+2) _ (by rw[pz.at ps m 2 p hp (by omega)];rfl)⟩
 refine wpIn_rangeFunc_ownH (F:=Fence.wide) (n:=6) rfl (by omega) (gf:=94) (lb:=#[.pointer (some ⟨w.heap.size+1,0,none⟩)]) rfl trivial (enters_of Tryz.func94 (by kernel_rfl) rfl)
  (YA Fence.wide 5 trivial rfl (by omega) (w.heap.size+1) lb cap ps (by omega) W0 (by omega) (by omega) uY.cell (fun m p hp=>⟨(hB0.cell (p:=⟨lb,m*3,none⟩) hlt).trans (hcell m p hp).1,(hB0.cell (p:=⟨lb,m*3+1,none⟩) hlt).trans (hcell m p hp).2.1,(hB0.cell (p:=⟨lb,m*3+2,none⟩) hlt).trans (hcell m p hp).2.2⟩))
  jv.trans (NN (by omega) (by omega)) (ak _ _) (fun _=>rfl)
  (fun pre W=>BZ w b nv st txt lb pre W∧bF w W b∧w.heap.size+2≤W.heap.size∧Boxed W (w.heap.size+1) 79 (.slice (some ⟨lb,0,none⟩) ps.length cap))
  (fun _ _ _=>False)
  ?hI (fun _ _ _ _ _ hs _ _=>hs) ?h0
  (fun x a' W=>∃Bx,w.heap.size+1<Bx∧jd W Bx x.2∧(∃wv ad bv,gZ W b nv wv ad bv∧wv.ownBlock≠some Bx)∧a'={ tmps:=#[.pointer (some ⟨b,0,none⟩),.slice (some ⟨lb,0,none⟩) ps.length cap,.pointer (some ⟨w.heap.size,0,none⟩),undef,undef,.pointer (some ⟨Bx,0,none⟩),.slice (some ⟨lb,0,none⟩) ps.length cap,.func (.func 94) #[] #[.pointer (some ⟨w.heap.size+1,0,none⟩)],.int .i64 (x.1:Int),.agg (mR x.2),undef,undef,undef,undef,undef,undef,undef,undef,undef,undef],defers:=[] })
  ?hAx ?assign ?body ?done ?stop
 case hI =>
  rintro pre X Y row ⟨h1,h2,h3,h4⟩ hg hr;refine⟨aeY Rh _ pre X Y row h1 hg hr,h2.stay hg (fun r e=>by have:=(hr r e).1;omega),by have:=hg.size;omega,yY hg (fun r e=>(hr r e).2) h4⟩
 case h0 =>
  refine⟨⟨⟨wv,hws.below hB0,by rw[List.map_nil,fF];exact Own.below hq hB0 (aj _),hne wv hws⟩,yV,hB0.block lb hlt⟩,bF.iQ hB0,by omega,uY⟩
 case hAx =>
  rintro x a' _ X Y row ⟨Bx,h1,h2,⟨wv2,Aj,Ak,h4,h5⟩,h3⟩ hg hr;exact⟨Bx,h1,yY hg (fun r e=>(hr r e).2) h2,⟨wv2,Aj,Ak,yY hg (fun r e=>(hr r e).2) h4,h5⟩,h3⟩
 case assign =>
  rintro l pre ⟨j,p⟩ W K ⟨hI,hF,hz,hbs⟩ hK;dsimp only[mR];gi_wp2
  have hal:Below W.heap.size W (W.alloc (.cells (mR p) 87)):=(ak _ _).alloc (aj _) _
  have adT:∃wv ad bv,gZ (W.alloc (.cells (mR p) 87)) b nv wv ad bv∧wv.ownBlock≠some W.heap.size:=by
   obtain⟨⟨wv2,⟨Aj,Ak,g1,g2,g3,g4⟩,g5,g6⟩, -, -⟩:=hI;exact⟨wv2,Aj,Ak,g1.below hal g1.lt,fun e=>by have:=(Own.kP g5 _ e).2.1;omega⟩
  exact hK _ _ ((KeepsOthers.alloc _ _).from _) ⟨hal.block _ (by omega),hal.block _ (by omega)⟩ ⟨hI.below hal (by omega),hF.trans (bF.iQ hal),by simp;omega,hbs.alloc _⟩ ⟨W.heap.size,by omega,jd.new W p,adT,rfl⟩
 case body =>
  rintro l pre ⟨j,p⟩ a' W hl ⟨r,hr⟩ ⟨⟨⟨wv1,⟨ad,bv,hw1,aaw,ho1,aaD⟩,hq1,Rk⟩,hbx,Rf⟩,hF,hz,hbs⟩ ⟨Bx,hBx,hpt,⟨wv2,Aj,Ak,abz,abd⟩,rfl⟩ lu
  have hwe:wv2=wv1:=by
   have e:W.heap[b]? = some (.cells #[nv,wv1,ad,bv] 84):=hw1;have e2:W.heap[b]? = some (.cells #[nv,wv2,Aj,Ak] 84):=abz;rw[e]at e2;injection e2 with e2;injection e2 with e2;simp at e2;exact e2.1.symm
  subst hwe;obtain⟨c0,c1,c2,c3⟩:=hw1.facts;have f1:=hw1.frozen 1;have Kt:=hbx.cell;obtain⟨y0,y1,y2⟩:=hpt.cells;have hWb:=hw1.lt;have hbW:b<w.heap.size:=hwb;have qm:Bx<W.heap.size:=(dn.1 hpt).1;have hnl:(st++pre.map (·.2)).length≤3000000000:=by rw[av,eB];omega
  have Ru:Own pz 87 ((W.alloc (.cells #[.string p.t,.int .i64 p.node,.int .i64 p.least] 87)).drew) (b+1) wv2 (st++pre.map (·.2)):=(hq1.alloc _).drew;obtain⟨v',w',q8,iG,hgr,hat⟩:=Yp 79 Elem.part pz (b+1) wv2 _ Ru ⟨W.heap.size,0,none⟩ 1 1 [p] rfl (fun j u hu=>ic (w:=W) _ _ _ rfl j u hu) (by omega) (by unfold maxLen;omega) (by simp;omega);have hgb:some b≠wv2.ownBlock:=fun e=>by have:=(Own.kP hq1 b e.symm).1;omega
  have hgw:some w.heap.size≠wv2.ownBlock:=fun e=>by
   obtain⟨-, -,cur,nW⟩:=Own.kP hq1 _ e.symm;have h2:W.heap[w.heap.size]? = some (.cells #[.pointer (some ⟨b,0,none⟩)] 78):=hbx;rw[h2]at nW;injection nW with nW;injection nW with _ ht;exact absurd ht (by decide)
  have hgB:some Bx≠wv2.ownBlock:=fun e=>abd e.symm
  have kd:∀(ad:Addr){u:Value},ad.block<W.heap.size→some ad.block≠wv2.ownBlock→((W.alloc (.cells #[.string p.t,.int .i64 p.node,.int .i64 p.least] 87)).drew).cell? ad=some u→w'.cell? ad=some u:=fun ad u h1 h2 h3=>(gM (hgr.block ad.block (by simp;omega) h2)).trans h3
  have hw2:gZ w' b nv wv2 ad bv:=by
   unfold gZ;rw[hgr.block b (by simp;omega) hgb];exact hw1.below ((ak _ _).alloc (aj _) _).drew hw1.lt
  have aa2:lb≠b:=fun e=>by
   have e1:W.heap[b]? = some (.cells #[nv,_,ad,bv] 84):=hw1;rw[← e,Rf,Rh]at e1;injection e1 with e1;injection e1 with _ e2;exact absurd e2 (by decide)
  have aaO:some (w.heap.size+1)≠wv2.ownBlock:=fun e=>by
   obtain⟨-, -,cur,nW⟩:=Own.kP hq1 _ e.symm;have h2:W.heap[w.heap.size+1]? = some (.cells #[.slice (some ⟨lb,0,none⟩) ps.length cap] 79):=hbs;rw[h2]at nW;injection nW with nW;injection nW with _ ht;exact absurd ht (by decide)
  have Ex:∀k,k<W.heap.size→some k≠wv2.ownBlock→w'.heap[k]? = W.heap[k]? := fun k h1 h2=>(hgr.block k (by simp;omega) h2).trans (((ak W.heap.size W).alloc (aj _) (.cells #[.string p.t,.int .i64 p.node,.int .i64 p.least] 87)).drew.block k h1)
  have aaC:qc w' (b+1) bv txt:=Own.keep ho1 fun g hg1 hg2 hg3=>Ex g hg2 (fun e=>by
   obtain⟨-, -,cur,nW⟩:=Own.kP hq1 _ e.symm;obtain⟨-,Zp,fr2,aaF⟩:=MF ho1 g hg3;rw[aaF]at nW;injection nW with nW;injection nW with _ ht;exact absurd ht (by decide))
  have abv:W.heap.size≤w'.heap.size:=by have:=hgr.size;simp at this;omega
  have hke:KeepsOthers W w':=((KeepsOthers.alloc W (.cells #[.string p.t,.int .i64 p.node,.int .i64 p.least] 87)).trans (KeepsOthers.drew _)).trans (KeepsOthers.of_grownBy hgr (fun j o hj ho=>by
   obtain⟨-, -,cur,nW⟩:=Own.kP Ru _ hj;rw[nW]at ho;cases ho;rfl))
  have hfq:bF W w' b:=⟨hgr.os,hgr.tape,hgr.output,abv,fun k hk hkb hr=>Ex k hk (fun e=>by
   obtain⟨h1, -,cur,nW⟩:=Own.kP hq1 _ e.symm;rcases hr with hr|hr
   · omega
   · exact(hr cur _).2 nW)⟩
  have abg:∀v2:Value,(v2.ownBlock=wv2.ownBlock∨v2.ownBlock=some ((W.alloc (.cells #[.string p.t,.int .i64 p.node,.int .i64 p.least] 87)).drew).heap.size)→v2.ownBlock≠some lb:=fun v2 h e=>by
   rcases h with h|h
   · rw[h]at e;exact Rk e
   · rw[h]at e;have:=dU e;simp at this;omega
  obtain⟨ao,n1,gm,rfl⟩:=H5 hq1;obtain⟨qW,n2,qg,rfl⟩:=H5 iG;have OW:=ae q8;have hmx:Tryz.prog.follows .mixedOrders=true:=by kernel_rfl
  clear q8;dsimp only at y0 y1 y2;have hal:Below W.heap.size W ((W.alloc (.cells #[.string p.t,.int .i64 p.node,.int .i64 p.least] 87)).drew):=((ak _ _).alloc (aj _) _).drew;gi_wp2
  have BE:KeepsFrom (w.heap.size+2) W (w'.setCell ⟨b,1,none⟩ (.slice qW n2 qg))∧jv (w.heap.size+1) lb W (w'.setCell ⟨b,1,none⟩ (.slice qW n2 qg))∧(BZ w b nv st txt lb (pre++[(j,p)]) (w'.setCell ⟨b,1,none⟩ (.slice qW n2 qg))∧bF w (w'.setCell ⟨b,1,none⟩ (.slice qW n2 qg)) b∧w.heap.size+2≤(w'.setCell ⟨b,1,none⟩ (.slice qW n2 qg)).heap.size∧Boxed (w'.setCell ⟨b,1,none⟩ (.slice qW n2 qg)) (w.heap.size+1) 79 (.slice (some ⟨lb,0,none⟩) ps.length cap)):=by
   have gs:=grownBy.gU (grownBy.fP w' (some b)) 1 (.slice qW n2 qg);have s1:(w'.setCell ⟨b,1,none⟩ (.slice qW n2 qg)).heap[w.heap.size+1]? = W.heap[w.heap.size+1]? := (fw w' ⟨b,1,none⟩ _ _ (by show w.heap.size+1≠b;omega)).trans (Ex _ (by omega) aaO);have s0:(w'.setCell ⟨b,1,none⟩ (.slice qW n2 qg)).heap[w.heap.size]? = W.heap[w.heap.size]? := (fw w' ⟨b,1,none⟩ _ _ (by show w.heap.size≠b;omega)).trans (Ex _ (by omega) hgw);have sl:(w'.setCell ⟨b,1,none⟩ (.slice qW n2 qg)).heap[lb]? = W.heap[lb]? := (fw w' ⟨b,1,none⟩ _ _ aa2).trans (Ex _ (by omega) (fun e=>Rk e.symm));refine⟨(hke.trans (KeepsOthers.setCell _ _ _)).from _,⟨s1,sl⟩,⟨⟨.slice qW n2 qg,⟨ad,bv,hw2.EL _,aaw,Own.other aaC gs (Nat.lt_succ_self b),aaD⟩, ?_,abg _ hat⟩,s0.trans hbx,sl.trans Rf⟩,(hF.trans hfq).trans (bF.uu (iK.uu gs)),by have:=gs.size;omega,s1.trans hbs⟩;rw[gP, ← bN];exact Own.other iG gs (Nat.lt_succ_self b)
  have ny:(fun w'=>w'.cell? ⟨w.heap.size,0,none⟩=some (.pointer (some ⟨b,0,none⟩))∧w'.cell? ⟨Bx,0,none⟩=some (.string p.t)∧w'.cell? ⟨Bx,1,none⟩=some (.int .i64 p.node)∧w'.cell? ⟨Bx,2,none⟩=some (.int .i64 p.least)) (w'.setCell ⟨b,1,none⟩ (.slice qW n2 qg)):=by
   have gs:=grownBy.gU (grownBy.fP w' (some b)) 1 (.slice qW n2 qg);have kc:∀(ad:Addr){u:Value},ad.block<W.heap.size→ad.block≠b→w'.cell? ad=some u→(w'.setCell ⟨b,1,none⟩ (.slice qW n2 qg)).cell? ad=some u:=fun ad u h0 h1 h2=>(gM (fw w' ⟨b,1,none⟩ _ ad.block h1)).trans h2
   exact⟨kc ⟨w.heap.size,0,none⟩ (by show w.heap.size<_;omega) (by show w.heap.size≠b;omega) (kd ⟨w.heap.size,0,none⟩ (by show w.heap.size<_;omega) hgw ((hal.cell (p:=⟨w.heap.size,0,none⟩) (show w.heap.size<W.heap.size by omega)).trans Kt)),kc ⟨Bx,0,none⟩ qm (by show Bx≠b;omega) (kd ⟨Bx,0,none⟩ qm hgB ((hal.cell (p:=⟨Bx,0,none⟩) qm).trans y0)),kc ⟨Bx,1,none⟩ qm (by show Bx≠b;omega) (kd ⟨Bx,1,none⟩ qm hgB ((hal.cell (p:=⟨Bx,1,none⟩) qm).trans y1)),kc ⟨Bx,2,none⟩ qm (by show Bx≠b;omega) (kd ⟨Bx,2,none⟩ qm hgB ((hal.cell (p:=⟨Bx,2,none⟩) qm).trans y2))⟩
  have dE:(fun w'=>w'.cell? ⟨w.heap.size,0,none⟩=some (.pointer (some ⟨b,0,none⟩))∧w'.cell? ⟨Bx,0,none⟩=some (.string p.t)∧w'.cell? ⟨Bx,1,none⟩=some (.int .i64 p.node)∧w'.cell? ⟨Bx,2,none⟩=some (.int .i64 p.least)) W.drew:=⟨Kt,y0,y1,y2⟩;have gy:(fun w'=>w'.cell? ⟨w.heap.size,0,none⟩=some (.pointer (some ⟨b,0,none⟩))∧w'.cell? ⟨Bx,0,none⟩=some (.string p.t)∧w'.cell? ⟨Bx,1,none⟩=some (.int .i64 p.node)∧w'.cell? ⟨Bx,2,none⟩=some (.int .i64 p.least)) ((W.alloc (.cells #[.string p.t,.int .i64 p.node,.int .i64 p.least] 87)).drew):=⟨(hal.cell (p:=⟨w.heap.size,0,none⟩) (show w.heap.size<W.heap.size by omega)).trans Kt,(hal.cell (p:=⟨Bx,0,none⟩) qm).trans y0,(hal.cell (p:=⟨Bx,1,none⟩) qm).trans y1,(hal.cell (p:=⟨Bx,2,none⟩) qm).trans y2⟩;refine MR (by kernel_rfl) (by kernel_rfl) (wpAny_of_held (S:=fun w'=>w'.cell? ⟨w.heap.size,0,none⟩=some (.pointer (some ⟨b,0,none⟩))∧w'.cell? ⟨Bx,0,none⟩=some (.string p.t)∧w'.cell? ⟨Bx,1,none⟩=some (.int .i64 p.node)∧w'.cell? ⟨Bx,2,none⟩=some (.int .i64 p.least)) _ _ _ _ ?_);show wpAnyH _ _ _ _ _ 11 #[false,false,false,false,false,false,false,false,false,false,false] _ _;refine hT 0 dE ?_ (hy:=by(intro iE hSw;obtain⟨e1,e2,e3,e4⟩:=hSw;go_simp;try(with_reducible rfl)));refine hT 1 dE ?_ (hy:=by(intro iE hSw;obtain⟨e1,e2,e3,e4⟩:=hSw;go_simp;try(with_reducible rfl)));refine hT 2 dE ?_;refine hT 3 dE ?_;refine hT 5 dE ?_ (hy:=by(intro iE hSw;obtain⟨e1,e2,e3,e4⟩:=hSw;go_simp;try(with_reducible rfl)));have d1:((W.alloc (.cells #[.string p.t,.int .i64 p.node,.int .i64 p.least] 87)).drew).cell? ⟨b,1,none⟩=some (.slice ao n1 gm):=(hal.cell (p:=⟨b,1,none⟩) hWb).trans c1;have HS2:(fun w'=>w'.cell? ⟨w.heap.size,0,none⟩=some (.pointer (some ⟨b,0,none⟩))∧w'.cell? ⟨Bx,0,none⟩=some (.string p.t)∧w'.cell? ⟨Bx,1,none⟩=some (.int .i64 p.node)∧w'.cell? ⟨Bx,2,none⟩=some (.int .i64 p.least)) w':=⟨kd ⟨w.heap.size,0,none⟩ (by show w.heap.size<_;omega) hgw gy.1,kd ⟨Bx,0,none⟩ qm hgB gy.2.1,kd ⟨Bx,1,none⟩ qm hgB gy.2.2.1,kd ⟨Bx,2,none⟩ qm hgB gy.2.2.2⟩;have f1':w'.frozen? ⟨b,1,none⟩=false:=hw2.frozen 1;have g1':w'.cell? ⟨b,1,none⟩=some (.slice ao n1 gm):=hw2.facts.2.1;refine wpAnyH_ready (rs:=[4,6]) (by kernel_rfl) (by simp) (AllReadyH.cons rfl (fun K hK => ?_) (AllReadyH.cons rfl (fun K hK => ?_) AllReadyH.nil))
  · rw[ah (by rfl)]
    go_simp;refine hK _ _ dE (fun _ => ?_);clear hK K;simp only[List.setIfInBounds_toArray,List.set_cons_zero,List.set_cons_succ];refine hO 6 (fun K hK => ?_);go_simp;refine hK.o _ _ gy ?_;clear hK K;simp only[Act.put,sT,gD,gB];refine hO 7 (fun K hK => ?_);refine Wp (.tmp 14) (.tmp 16) rfl rfl rfl OW.o ?_;refine hK.o _ _ HS2 ?_;clear hK K;simp only[Act.put,sT,gD,gB];refine hT 8 HS2 ?_;refine hT 9 HS2 ?_;refine hO 10 (fun K hK => ?_);go_simp;refine hK.o undef _ ny ?_;clear hK K;simp only[Act.put];refine wpAnyH_done (by kernel_rfl) ?_ _;refine⟨rfl, ?_⟩;gi_wp2
    exact BE
  · rw[ah (by rfl)]
    go_simp;refine hK _ _ gy (fun _ => ?_);clear hK K;simp only[List.setIfInBounds_toArray,List.set_cons_zero,List.set_cons_succ];refine hO 4 (fun K hK => ?_);go_simp;refine hK.o _ _ gy ?_;clear hK K;simp only[Act.put,sT,gD,gB];refine hO 7 (fun K hK => ?_);refine Wp (.tmp 14) (.tmp 16) rfl rfl rfl OW.o ?_;refine hK.o _ _ HS2 ?_;clear hK K;simp only[Act.put,sT,gD,gB];refine hT 8 HS2 ?_;refine hT 9 HS2 ?_;refine hO 10 (fun K hK => ?_);go_simp;refine hK.o undef _ ny ?_;clear hK K;simp only[Act.put];refine wpAnyH_done (by kernel_rfl) ?_ _;refine⟨rfl, ?_⟩;gi_wp2
    exact BE
 case done =>
  rintro D ys W hD rfl ⟨⟨⟨wv1,h1,h2, -⟩, -, -⟩,hF,hz, -⟩ hK;gi_wp2
  have hg:=grownBy_putObj' W D (.deferred none);have hr:∀r,some D=some r→∃o:Obj,W.heap[r]? = some o∧o.isCells=false:=fun r e=>by cases e;exact⟨_,hK,rfl⟩
  refine⟨by simp,.inl ⟨_,_,rfl,run_takeDeferred hK, ?_⟩⟩;rw[Y3 ps 0 (eP _),List.drop_zero]at h2;exact⟨_,results_none rfl _ _ _,rfl,⟨wv1,lN.stay h1 hg hr,Hz h2 hg hr⟩,hF.stay hg (fun r e=>by cases e;omega)⟩
 case stop =>
  rintro D c pre W _ _ h _;exact h.elim
end Go.Proofs.YtaobhjliflomaaaGreatDoor
namespace Go.Proofs.YtaobhjliflomaaaGreatDoor
open Go.RowKit
variable {txt:List Int}{st:List aB}{b:Nat}{wv:Value}{w w':World}
def mQ(k:Int):Nat:=if k=1 then 96 else if k=2 then 97 else if k=3 then 98 else if k=4 then 99 else if k=5 then 100 else if k=6 then 101 else if k=7 then 102 else if k=8 then 103 else 104
theorem Tw (k:Int)(w:World):Calls Tryz.prog 68 #[.int .i64 k] w fun e w'=>e = .returned (.func (.func (mQ k)) #[] #[])∧w=w':=by
 have fin:∀r:Nat,mQ k=r→(Calls Tryz.prog 68 #[.int .i64 k] w fun e w'=>e = .returned (.func (.func r) #[] #[])∧w=w')→Calls Tryz.prog 68 #[.int .i64 k] w fun e w'=>e = .returned (.func (.func (mQ k)) #[] #[])∧w=w':=fun r h1 h2=>by rw[h1];exact h2
 by_cases h1:k=1
 · refine fin 96 (by subst h1;rfl) ?_
   clear fin;subst h1;go_enter Tryz.func68,Tryz.ntmps68;go_wp2_with fail
   go_ret;exact⟨rfl,rfl⟩
 by_cases h2:k=2
 · refine fin 97 (by subst h2;rfl) ?_
   clear fin;subst h2;go_enter Tryz.func68,Tryz.ntmps68;go_wp2_with fail
   go_ret;exact⟨rfl,rfl⟩
 by_cases h3:k=3
 · refine fin 98 (by subst h3;rfl) ?_
   clear fin;subst h3;go_enter Tryz.func68,Tryz.ntmps68;go_wp2_with fail
   go_ret;exact⟨rfl,rfl⟩
 by_cases h4:k=4
 · refine fin 99 (by subst h4;rfl) ?_
   clear fin;subst h4;go_enter Tryz.func68,Tryz.ntmps68;go_wp2_with fail
   go_ret;exact⟨rfl,rfl⟩
 by_cases h5:k=5
 · refine fin 100 (by subst h5;rfl) ?_
   clear fin;subst h5;go_enter Tryz.func68,Tryz.ntmps68;go_wp2_with fail
   go_ret;exact⟨rfl,rfl⟩
 by_cases h6:k=6
 · refine fin 101 (by subst h6;rfl) ?_
   clear fin;subst h6;go_enter Tryz.func68,Tryz.ntmps68;go_wp2_with fail
   go_ret;exact⟨rfl,rfl⟩
 by_cases h7:k=7
 · refine fin 102 (by subst h7;rfl) ?_
   clear fin;subst h7;go_enter Tryz.func68,Tryz.ntmps68;go_wp2_with fail
   go_ret;exact⟨rfl,rfl⟩
 by_cases h8:k=8
 · refine fin 103 (by subst h8;rfl) ?_
   clear fin;subst h8;go_enter Tryz.func68,Tryz.ntmps68;go_wp2_with fail
   go_ret;exact⟨rfl,rfl⟩
 refine fin 104 (by unfold mQ;rw[ag h1,ag h2,ag h3,ag h4,ag h5,ag h6,ag h7,ag h8]) ?_;have e1:(k == 1)=false:=aA.2 h1;have e2:(k == 2)=false:=aA.2 h2;have e3:(k == 3)=false:=aA.2 h3;have e4:(k == 4)=false:=aA.2 h4;have e5:(k == 5)=false:=aA.2 h5;have e6:(k == 6)=false:=aA.2 h6;have e7:(k == 7)=false:=aA.2 h7;have e8:(k == 8)=false:=aA.2 h8;clear fin h1 h2 h3 h4 h5 h6 h7 h8;go_enter Tryz.func68,Tryz.ntmps68;go_wp2_with fail
 go_ret;exact⟨rfl,rfl⟩
theorem dO.below {nv:Value}(h:dO w b nv st txt)(hb:Below w.heap.size w w'):dO w' b nv st txt:=by
 obtain⟨wv,h1,h2⟩:=h;exact⟨wv,h1.below hb,h2.below hb (aj _)⟩
theorem dO.wrote {nv:Value}(h:Own pz 87 w (b+1) wv st)(hs:lN w' b nv wv txt)(hf:iK w w' b):dO w' b nv st txt :=
 ⟨wv,hs,Own.keep h fun g h1 h2 h3=>hf.block g h2 (by omega) (.inr fun cur fr e=>by
  obtain⟨-, -,Zp,hc⟩:=Own.kP h g h3;rw[hc]at e;injection e with e;injection e with _ e2;exact absurd e2 (by decide))⟩
def mK (w:World)(b:Nat)(nv:Value)(st:List aB)(txt:List Int)(n:Nd)(e:Ending)(w':World):Prop :=
 e = .returned (.tuple #[])∧dO w' b nv (st++(eH n).2.reverse) (txt++(eH n).1)∧bF w w' b
theorem mK.of {w1 w2:World}{nv:Value}{V9:List Int}{n:Nd}(hb:Below w.heap.size w w1)(h:Own pz 87 w1 (b+1) wv st)(hs:lN w2 b nv wv V9)(hf:iK w1 w2 b)(h1:(eH n).2=[])(h2:V9=txt++(eH n).1):mK w b nv st txt n (.returned (.tuple #[])) w2:=by
 refine⟨rfl, ?_,(bF.iQ hb).trans (bF.uu hf)⟩;rw[h1, ← h2,List.reverse_nil,fF];exact dO.wrote h hs hf
theorem Zv (w:World)(b:Nat)(nv:Value)(st:List aB)(txt:List Int)(n:Nd)(A:Option Addr)(m c:Nat)(h:dO w b nv st txt)(hk:n.kind=4)(hl:txt.length≤1000000000) :
 Calls Tryz.prog 99 #[.pointer (some ⟨b,0,none⟩),.agg #[.int .i64 n.kind,.int .i64 n.num,.string n.text,.string n.ref.sh,.int .i64 n.ref.c,.int .i64 n.ref.r,.bool n.ref.ac,.bool n.ref.ar,.string n.af.sh,.int .i64 n.af.c,.int .i64 n.af.r,.bool n.af.ac,.bool n.af.ar,.slice A m c]] w (mK w b nv st txt n):=by
 have hB:Below w.heap.size w (w.alloc (.cells #[.int .i64 n.kind,.int .i64 n.num,.string n.text,.string n.ref.sh,.int .i64 n.ref.c,.int .i64 n.ref.r,.bool n.ref.ac,.bool n.ref.ar,.string n.af.sh,.int .i64 n.af.c,.int .i64 n.af.r,.bool n.af.ac,.bool n.af.ar,.slice A m c] 45)):=(ak _ _).alloc (aj _) _;have hs:eH n=([35,82,69,70,33],[]):=by unfold eH;rw[ag (by omega),ag (by omega),ag (by omega),ah hk]
 have HS:=ae hs;have HB:=ae hB;obtain⟨wv,h1,h2⟩:=h.below hB;have HO:=ae h2;have HW:=ae (sU _ b nv wv txt ⟨#[35,82,69,70,33]⟩ h1 (by show txt.length+5≤_;omega));clear h h1 h2 hB hs hk;go_enter Tryz.func99,Tryz.ntmps99;go_wp2_with (go_at_call 65;((with_reducible refine HW.o.mono ?_);rintro e w2 ⟨⟨x,rfl⟩,h3,h4⟩;have H3:=ae h3;have H4:=ae h4;clear h3 h4))
 go_end0;exact mK.of HB.o HO.o H3.o H4.o (by rw[HS.o]) (by rw[HS.o,show sb ⟨#[35,82,69,70,33]⟩=[35,82,69,70,33]by decide])
theorem aij (w:World)(b:Nat)(nv:Value)(st:List aB)(txt:List Int)(n:Nd)(A:Option Addr)(m c:Nat)(h:dO w b nv st txt)(hk:n.kind=3)(hv:n.num=1)(hl:txt.length≤1000000000) :
 Calls Tryz.prog 98 #[.pointer (some ⟨b,0,none⟩),.agg #[.int .i64 n.kind,.int .i64 n.num,.string n.text,.string n.ref.sh,.int .i64 n.ref.c,.int .i64 n.ref.r,.bool n.ref.ac,.bool n.ref.ar,.string n.af.sh,.int .i64 n.af.c,.int .i64 n.af.r,.bool n.af.ac,.bool n.af.ar,.slice A m c]] w (mK w b nv st txt n):=by
 have hB:Below w.heap.size w (w.alloc (.cells #[.int .i64 n.kind,.int .i64 n.num,.string n.text,.string n.ref.sh,.int .i64 n.ref.c,.int .i64 n.ref.r,.bool n.ref.ac,.bool n.ref.ar,.string n.af.sh,.int .i64 n.af.c,.int .i64 n.af.r,.bool n.af.ac,.bool n.af.ar,.slice A m c] 45)):=(ak _ _).alloc (aj _) _;have hs:eH n=([84,82,85,69],[]):=by unfold eH;rw[ag (by omega),ag (by omega),ah hk,ah hv]
 have HS:=ae hs;have HB:=ae hB;obtain⟨wv,h1,h2⟩:=h.below hB;have HO:=ae h2;have HW:=ae (sU _ b nv wv txt ⟨#[84,82,85,69]⟩ h1 (by show txt.length+4≤_;omega));have g1:(n.num == 1)=true:=bA.2 hv;clear h h1 h2 hB hs hk hv;go_enter Tryz.func98,Tryz.ntmps98;go_wp2_with (go_at_call 65;((with_reducible refine HW.o.mono ?_);rintro e w2 ⟨⟨x,rfl⟩,h3,h4⟩;have H3:=ae h3;have H4:=ae h4;clear h3 h4))
 go_end0;exact mK.of HB.o HO.o H3.o H4.o (by rw[HS.o]) (by rw[HS.o,show sb ⟨#[84,82,85,69]⟩=[84,82,85,69]by decide])
theorem aii (w:World)(b:Nat)(nv:Value)(st:List aB)(txt:List Int)(n:Nd)(A:Option Addr)(m c:Nat)(h:dO w b nv st txt)(hk:n.kind=3)(hv:¬ n.num=1)(hl:txt.length≤1000000000) :
 Calls Tryz.prog 98 #[.pointer (some ⟨b,0,none⟩),.agg #[.int .i64 n.kind,.int .i64 n.num,.string n.text,.string n.ref.sh,.int .i64 n.ref.c,.int .i64 n.ref.r,.bool n.ref.ac,.bool n.ref.ar,.string n.af.sh,.int .i64 n.af.c,.int .i64 n.af.r,.bool n.af.ac,.bool n.af.ar,.slice A m c]] w (mK w b nv st txt n):=by
 have hB:Below w.heap.size w (w.alloc (.cells #[.int .i64 n.kind,.int .i64 n.num,.string n.text,.string n.ref.sh,.int .i64 n.ref.c,.int .i64 n.ref.r,.bool n.ref.ac,.bool n.ref.ar,.string n.af.sh,.int .i64 n.af.c,.int .i64 n.af.r,.bool n.af.ac,.bool n.af.ar,.slice A m c] 45)):=(ak _ _).alloc (aj _) _;have hs:eH n=([70,65,76,83,69],[]):=by unfold eH;rw[ag (by omega),ag (by omega),ah hk,ag hv]
 have HS:=ae hs;have HB:=ae hB;obtain⟨wv,h1,h2⟩:=h.below hB;have HO:=ae h2;have HW:=ae (sU _ b nv wv txt ⟨#[70,65,76,83,69]⟩ h1 (by show txt.length+5≤_;omega));have g1:(n.num == 1)=false:=aA.2 hv;clear h h1 h2 hB hs hk hv;go_enter Tryz.func98,Tryz.ntmps98;go_wp2_with (go_at_call 65;((with_reducible refine HW.o.mono ?_);rintro e w2 ⟨⟨x,rfl⟩,h3,h4⟩;have H3:=ae h3;have H4:=ae h4;clear h3 h4))
 go_end0;exact mK.of HB.o HO.o H3.o H4.o (by rw[HS.o]) (by rw[HS.o,show sb ⟨#[70,65,76,83,69]⟩=[70,65,76,83,69]by decide])
theorem Zl (n:Int)(_h0 : -9223372036854775808≤n)(_h1:n≤9223372036854775807)(w:World) :
 Calls Tryz.prog 149 #[.int .i64 n] w fun e w'=>e = .returned (.string (strOfNums (bB n)))∧w=w':=by
 by_cases hr:n<0∨701<n
 · have hc:bB n=[]:=by unfold bB;rw[ah hr]
   have HC:=ae hc;clear hc;go_enter Tryz.func149,Tryz.ntmps149
   go_wp2
   all_goals first|omega|skip
   all_goals go_ret
   all_goals exact⟨by rw[HC.o];rfl,rfl⟩
 · have h0:¬ n<0:=by omega
   have h2:¬ 701<n:=by omega
   have h0':0≤n:=by omega
   have he:=Qm (65+n % 26) (by omega) (by omega);have HE:=ae he;clear he;by_cases Ec:n<26
   · have hc:bB n=[65+n % 26]:=by unfold bB;rw[ag hr,ah Ec];congr 1;omega
     have HC:=ae hc;clear hc hr;go_enter Tryz.func149,Tryz.ntmps149;go_wp2_with fail
     all_goals go_ret
     all_goals exact⟨by rw[HC.o, ← HE.o];rfl,rfl⟩
   · have hc:bB n=[65+n / 26 - 1]++[65+n % 26]:=by unfold bB;rw[ag hr,ag Ec];show [64+n / 26,65+n % 26]=[65+n / 26 - 1,65+n % 26];congr 1;omega
     have he2:=Qm (65+n / 26 - 1) (by omega) (by omega);have hz:(Utf8.encode (65+n / 26 - 1)).size+(Utf8.encode (65+n % 26)).size≤8:=by rw[he2,HE.o,strOfNums_size,strOfNums_size];simp
     have HE2:=ae he2;clear he2;have HC:=ae hc;clear hc hr;go_enter Tryz.func149,Tryz.ntmps149;go_wp2_with fail
     all_goals go_ret
     all_goals exact⟨mU (by rw[HC.o];exact ahA _ _ _ _ HE2.o HE.o),rfl⟩
theorem afe{s:ByteArray}{c r:Int}{ac ar:Bool}(h:df w b s c r ac ar):df w.drew b s c r ac ar:=h
theorem lM.drew(h:lM w):lM w.drew:=h
theorem YG(h:Below w.drew.heap.size w.drew w'):Below w.heap.size w w':=⟨h.os,h.tape,h.output,h.size,h.block⟩
theorem abW {x:Int}{k:Nat}(h:x=(k:Int))(h1:k≤9223372036854775807)(w:World)(ht:lM w) :
 Calls Tryz.prog 129 #[.int .i64 x] w fun e w'=>e = .returned (.string (strOfNums (aV k)))∧Below w.heap.size w w':=by subst h;exact Sk k h1 w ht
theorem ahy{base:Nat}{v:Value}{xs:List Int}{t:ByteArray}(e:strOfNums xs=t)(h:qc w base v xs):(convert 22 9 v).run Tryz.prog w = .ok (.string t) w:=by rw[← e];exact CS h
theorem agp(c:Int):sb (strOfNums (bB c))=bB c:=jD _ (PS c)
def uw(s:ByteArray):List Int:=if s.size=0 then []else sb s++[33]
def vK(b:Bool):List Int:=if b=true then [36]else []
theorem acL(s:ByteArray):(uw s).length≤s.size+1:=by unfold uw;split <;> simp[bz]
theorem SB(b:Bool):(vK b).length≤1:=by cases b <;> decide
theorem ahO (s:ByteArray)(c r:Int)(k:Nat)(ac ar:Bool)(w:World)(nG:lM w)(_hs:s.size≤1000000)(hm:cK (sb s) c r=true)(hc0:0≤c)(hc1:c≤701)(hr0:0≤r)(hr1:r≤998)(hk:r+1=(k:Int))(hz1:(strOfNums (bB c)).size≤2)(hz2:(strOfNums (aV k)).size≤1000) :
 Calls Tryz.prog 131 #[.agg #[.string s,.int .i64 c,.int .i64 r,.bool ac,.bool ar]] w fun e w'=>e = .returned (.string (strOfNums (aZ (sb s) c r ac ar)))∧Below w.heap.size w w':=by
 have hk2:(r+1).toNat=k:=by omega
 have hp1:=acL s;have hp2:=SB ac;have hp3:=SB ar
 have ht:(((uw s++vK ac)++sb (strOfNums (bB c)))++vK ar)++aV k=aZ (sb s) c r ac ar:=by
  unfold aZ uw vK;rw[ah hm,hk2,agp];by_cases h0:s.size=0
  · have he:sb s=[]:=kV (by rw[bz];exact h0)
    rw[ah h0,ah he] <;> cases ac <;> cases ar <;> simp
  · have he:¬ sb s=[]:=fun h=>by have:=bz s;rw[h]at this;exact h0 this.symm
    rw[ag h0,ag he] <;> cases ac <;> cases ar <;> simp
 have HT:=ae ht;clear ht hk2;obtain⟨tt,AY⟩:∃t,strOfNums (((uw s++vK ac)++sb (strOfNums (bB c)))++vK ar)=t:=⟨_,rfl⟩;have hzt:tt.size≤1000100:=by rw[← AY,strOfNums_size];simp only[av,bz];omega
 have xA:=ae AY;clear AY;have XJ:=ae (show ¬ 9223372036854775807<tt.size+(strOfNums (aV k)).size by omega);have hR0:=df.new w s c r ac ar;have iA:=ae hR0;clear hR0;have H0:=ae ((ak w.heap.size w).alloc (aj _) (.cells #[.string s,.int .i64 c,.int .i64 r,.bool ac,.bool ar] 43));have uO:=ae nG;clear nG;have K6:k≤999:=by omega
 have hwr:IntKind.i64.wrap (r+1)=r+1:=by rw[fU];omega
 have HK:=ae hk;clear hk;go_enter Tryz.func131,Tryz.ntmps131;go_upto_region 4 with (go_at_call 108;((with_reducible refine(Bd _ _ _ _ _ _ ?_).mono ?_);(first|omega|skip);rintro e w1 ⟨rfl,h1⟩;have HR1:=ae (iA.o.below h1 iA.o.lt);have HO:=ae (Own.nil (aI .u8) 5 w1 w1.heap.size);have HB:=ae (ak w1.heap.size w1);have H1:=ae h1;clear h1))
 obtain⟨x0,x1,x2,x3,x4⟩:=HR1.o.facts;go_upto_if 9 with (fail)
 go_cut [3]from 4 (fun bv wx=>∃(v:Value)(dX:World),v=bv∧dX=wx∧Hid (Own (aI .u8) 5 dX w1.heap.size v (uw s))∧Hid (Below w1.heap.size w1 dX))
 case first =>
  by_cases h0:s.size=0
  · have hp:uw s=[]:=ah h0
    have JN:=ae hp;have hl1:s.toList.isEmpty=true:=by rw[vM s h0,show(⟨#[]⟩:ByteArray).toList=[]by rw[rz]];rfl
    simp only[hl1,Bool.not_true];clear h0 hp hl1;go_wp2_with fail
    go_meet
    case rel=>exact⟨_,_,rfl,rfl,ae (by rw[JN.o];exact HO.o),HB⟩
  · have hp:uw s=([]++sb s)++[33]:=ag h0
    have JN:=ae hp;have hne:=sQ s h0;have xW:s.toList.isEmpty=false:=by cases hq:s.toList with|nil=>exact absurd hq hne|cons a l=>rfl
    simp only[xW,Bool.not_false];clear h0 hp
    go_wp2_with (first
     | (at_builtin;refine NZ Elem.u8 (aI .u8) rfl (.tmp 10) (.tmp 12) rfl w1.heap.size _ _ rfl HO.o (.string s) s.size (sb s) rfl (bz s) (IE s) ?_ ?_ ?_ ?_;(simp only[dV];omega);(simp only[dV];unfold maxLen;omega);exact HB.o.size;intro v3 w3 h1 h2;have HO:=ae h1;clear h1;have HB:=ae (HB.o.trans h2);clear h2;clear x0 x1 x2 x3 x4;obtain⟨x0,x1,x2,x3,x4⟩:=(HR1.o.below (HB.o) HR1.o.lt).facts)
     | (at_builtin;refine ow Elem.u8 (aI .u8) rfl (.tmp 13) (.tmp 14) rfl w1.heap.size _ _ rfl (HO.o.alloc _) ⟨_,0,none⟩ 1 1 [33] rfl rfl ?_ ?_ ?_ ?_ ?_;exact ic _ _ _ rfl;(simp only[dV,av,bz];omega);(simp only[dV,av,bz];unfold maxLen;omega);(have:=HB.o.size;simp <;> omega);intro v3 w3 h1 h2;have HO:=ae h1;clear h1;have HB:=ae ((HB.o.alloc HB.o.size _).trans h2);clear h2;clear x0 x1 x2 x3 x4;obtain⟨x0,x1,x2,x3,x4⟩:=(HR1.o.below (HB.o) HR1.o.lt).facts))
    go_meet
    case rel=>exact⟨_,_,rfl,rfl,ae (by rw[JN.o];exact HO.o),HB⟩
 case rest =>
 obtain⟨v1,w2,rfl,rfl,HO,HB⟩:=hcut;clear x0 x1 x2 x3 x4;obtain⟨x0,x1,x2,x3,x4⟩:=(HR1.o.below HB.o HR1.o.lt).facts;go_upto_if 17 with (fail)
 go_cut [3]from 4 (fun bv wx=>∃(v:Value)(dX:World),v=bv∧dX=wx∧Hid (Own (aI .u8) 5 dX w1.heap.size v (uw s++vK ac))∧Hid (Below w1.heap.size w1 dX))
 case first =>
  cases ac
  · go_wp2_with fail
    go_meet
    case rel=>exact⟨_,_,rfl,rfl,by rw[show uw s++vK false=uw s from fF _];exact HO,HB⟩
  · go_wp2_with ((at_builtin;refine ow Elem.u8 (aI .u8) rfl (.tmp 18) (.tmp 19) rfl w1.heap.size _ _ rfl (HO.o.alloc _) ⟨_,0,none⟩ 1 1 [36] rfl rfl ?_ ?_ ?_ ?_ ?_;exact ic _ _ _ rfl;omega;(unfold maxLen;omega);(have:=HB.o.size;simp <;> omega);intro v3 w3 h1 h2;have HO:=ae h1;clear h1;have HB:=ae ((HB.o.alloc HB.o.size _).trans h2);clear h2;clear x0 x1 x2 x3 x4;obtain⟨x0,x1,x2,x3,x4⟩:=(HR1.o.below (HB.o) HR1.o.lt).facts))
    go_meet
    case rel=>exact⟨_,_,rfl,rfl,HO,HB⟩
 case rest =>
 obtain⟨v2,w3,rfl,rfl,HO,HB⟩:=hcut;clear x0 x1 x2 x3 x4;obtain⟨x0,x1,x2,x3,x4⟩:=(HR1.o.below HB.o HR1.o.lt).facts
 go_upto_if 27 with (first
  | (go_at_call 149;((with_reducible refine(Zl _ ?_ ?_ _).mono ?_);(first|omega|skip);(first|omega|skip);rintro e w2 ⟨rfl,rfl⟩))
  | (at_builtin;refine NZ Elem.u8 (aI .u8) rfl (.tmp 21) (.tmp 24) rfl w1.heap.size _ _ rfl HO.o (.string (strOfNums (bB c))) (strOfNums (bB c)).size (sb (strOfNums (bB c))) rfl (bz (strOfNums (bB c))) (IE (strOfNums (bB c))) ?_ ?_ ?_ ?_;(simp only[av];omega);(simp only[av];unfold maxLen;omega);exact HB.o.size;intro v3 w3 h1 h2;have HO:=ae h1;clear h1;have HB:=ae (HB.o.trans h2);clear h2;clear x0 x1 x2 x3 x4;obtain⟨x0,x1,x2,x3,x4⟩:=(HR1.o.below (HB.o) HR1.o.lt).facts))
 go_cut [3]from 4 (fun bv wx=>∃(v:Value)(dX:World),v=bv∧dX=wx∧Hid (Own (aI .u8) 5 dX w1.heap.size v (((uw s++vK ac)++sb (strOfNums (bB c)))++vK ar))∧Hid (Below w1.heap.size w1 dX))
 case first =>
  cases ar
  · go_wp2_with fail
    go_meet
    case rel=>exact⟨_,_,rfl,rfl,by rw[show ∀l:List Int,l++vK false=l from fF];exact HO,HB⟩
  · go_wp2_with ((at_builtin;refine ow Elem.u8 (aI .u8) rfl (.tmp 28) (.tmp 29) rfl w1.heap.size _ _ rfl (HO.o.alloc _) ⟨_,0,none⟩ 1 1 [36] rfl rfl ?_ ?_ ?_ ?_ ?_;exact ic _ _ _ rfl;(simp only[av,bz];omega);(simp only[av,bz];unfold maxLen;omega);(have:=HB.o.size;simp <;> omega);intro v3 w3 h1 h2;have HO:=ae h1;clear h1;have HB:=ae ((HB.o.alloc HB.o.size _).trans h2);clear h2;clear x0 x1 x2 x3 x4;obtain⟨x0,x1,x2,x3,x4⟩:=(HR1.o.below (HB.o) HR1.o.lt).facts))
    go_meet
    case rel=>exact⟨_,_,rfl,rfl,HO,HB⟩
 case rest =>
 obtain⟨v3,w4,rfl,rfl,HO,HB⟩:=hcut;clear x0 x1 x2 x3 x4;obtain⟨x0,x1,x2,x3,x4⟩:=(HR1.o.below HB.o HR1.o.lt).facts;go_upto_region 11 with (fail)
 refine aca (by kernel_rfl) ?_;show wpAnyH _ _ _ _ _ 8 #[false,false,false,false,false,false,false,false] _ _;refine Ba 0 ?_;refine Ba 1 ?_ (hy:=by(intro iE hSw;have hz:=(fun W (hW:Below _ _ W)=>ahy xA.o (Own.below (Own.drew HO.o) hW (aj _))) iE hSw;go_simp;try(with_reducible rfl)));refine Ba 2 ?_;refine Ba 3 ?_ (hy:=by(intro iE hSw;have hz:=(fun W (hW:Below _ _ W)=>((afe (HR1.o.below HB.o HR1.o.lt)).below hW (eZ HR1.o.lt HB.o.size)).facts) iE hSw;go_simp;try(with_reducible rfl)));refine Ba 4 ?_;refine abY 5 (fun K hK => ?_);go_simp;refine(abW HK.o (by omega) _ (lM.drew (((uO.o.below H0.o).below H1.o).below HB.o))).mono ?_;rintro e w4 ⟨rfl,ui⟩;have dC:=ae (YG ui);go_wp2_with fail
 refine hK.o _ _ ui ui.size ?_;clear hK K;simp only[Act.put,sT,gD,gB];refine Ba 6 ?_ (hy:=by(intro iE hSw;have hz:=(fun (_:World)(_:Below _ _ _)=>XJ.o) iE hSw;go_simp;try(with_reducible rfl)));refine Ba 7 ?_;refine wpAnyH_done (by kernel_rfl) ?_ _;go_wp2_with fail
 go_ret;exact⟨mU (by rw[← xA.o];exact(mW _ _).trans (congrArg strOfNums HT.o)),xI H0.o H1.o HB.o dC.o⟩
theorem ND (s:ByteArray)(c r:Int)(ac ar:Bool)(w:World)(nG:lM w)(_hs:s.size≤1000000) :
 Calls Tryz.prog 131 #[.agg #[.string s,.int .i64 c,.int .i64 r,.bool ac,.bool ar]] w fun e w'=>e = .returned (.string (strOfNums (aZ (sb s) c r ac ar)))∧Below w.heap.size w w':=by
 by_cases hm:cK (sb s) c r=true
 · obtain⟨hc0,hc1,hr0,hr1⟩:=L8 hm
   have hl1:=SC c;obtain⟨k,hk⟩:∃k:Nat,r+1=(k:Int):=⟨(r+1).toNat,by omega⟩;have hl2:=LM k;have hz1:(strOfNums (bB c)).size≤2:=by rw[strOfNums_size];exact hl1
   have hz2:(strOfNums (aV k)).size≤1000:=by rw[strOfNums_size];omega
   exact ahO s c r k ac ar w nG _hs hm hc0 hc1 hr0 hr1 hk hz1 hz2
 · have hm':cK (sb s) c r=false:=by simpa using hm
   have ht:aZ (sb s) c r ac ar=[]:=by unfold aZ;rw[ag hm]
   have HT:=ae ht;clear ht hm nG;go_enter Tryz.func131,Tryz.ntmps131
   go_wp2_with (first
    | (go_at_call 108;((with_reducible refine(Bd _ _ _ _ _ _ ?_).mono ?_);(first|omega|skip);rintro e w1 ⟨rfl,h1⟩;have H1:=ae h1;clear h1)))
   go_ret;exact⟨by rw[HT.o];rfl,((ak _ _).alloc (aj _) _).trans (H1.o.mono ((ak _ _).alloc (aj _) _).size)⟩
theorem aee (w:World)(b:Nat)(nv:Value)(st:List aB)(txt:List Int)(n:Nd)(A:Option Addr)(m c:Nat)(h:dO w b nv st txt)(hk:n.kind=1)(u:Nat)(hu:n.num=(u:Int))(Lv:u≤9223372036854775807)(nG:lM w)(hl:txt.length≤1000000000) :
 Calls Tryz.prog 96 #[.pointer (some ⟨b,0,none⟩),.agg #[.int .i64 n.kind,.int .i64 n.num,.string n.text,.string n.ref.sh,.int .i64 n.ref.c,.int .i64 n.ref.r,.bool n.ref.ac,.bool n.ref.ar,.string n.af.sh,.int .i64 n.af.c,.int .i64 n.af.r,.bool n.af.ac,.bool n.af.ar,.slice A m c]] w (mK w b nv st txt n):=by
 have hB:Below w.heap.size w (w.alloc (.cells #[.int .i64 n.kind,.int .i64 n.num,.string n.text,.string n.ref.sh,.int .i64 n.ref.c,.int .i64 n.ref.r,.bool n.ref.ac,.bool n.ref.ar,.string n.af.sh,.int .i64 n.af.c,.int .i64 n.af.r,.bool n.af.ac,.bool n.af.ar,.slice A m c] 45)):=(ak _ _).alloc (aj _) _;have HN:az (w.alloc (.cells #[.int .i64 n.kind,.int .i64 n.num,.string n.text,.string n.ref.sh,.int .i64 n.ref.c,.int .i64 n.ref.r,.bool n.ref.ac,.bool n.ref.ar,.string n.af.sh,.int .i64 n.af.c,.int .i64 n.af.r,.bool n.af.ac,.bool n.af.ar,.slice A m c] 45)) w.heap.size n (.slice A m c):=az.new w n _;have hs:eH n=(aV u,[]):=by unfold eH;rw[ah hk,hu];rfl
 have hdl:=Gh 18 u (by omega);have hbw:b<w.heap.size:=by obtain⟨wv,h1, -⟩:=h;exact h1.lt
 have HS:=ae hs;have HB:=ae hB;obtain⟨wv,h1,h2⟩:=h.below hB;have uO:=ae (nG.below hB);have WS:=ae hu;clear h hs hk nG hB hu;go_enter Tryz.func96,Tryz.ntmps96;go_upto_region 1 with (fail)
 generalize hz:w.heap.size=z at HN ⊢;generalize w.alloc (.cells #[.int .i64 n.kind,.int .i64 n.num,.string n.text,.string n.ref.sh,.int .i64 n.ref.c,.int .i64 n.ref.r,.bool n.ref.ac,.bool n.ref.ar,.string n.af.sh,.int .i64 n.af.c,.int .i64 n.af.r,.bool n.af.ac,.bool n.af.ar,.slice A m c] 45)=w1 at HN HB uO h1 h2 ⊢;have x1:=HN.cells.2.1;rw[WS.o]at x1;have hzl:=HN.lt;have hzb:z≠b:=by omega
 have cZ:=ae HN;have HI:=ae (fun wr (hr:Below w1.heap.size w1 wr)=>Sk u Lv wr (uO.o.below hr));have HW:=ae (fun wr (hr:Below w1.heap.size w1 wr)=>sU wr b nv wv txt (strOfNums (aV u)) (h1.below hr) (by rw[strOfNums_size];omega));have HO:=ae h2;clear hz h1 h2 HN hdl;have H1:=ae ((ak w1.heap.size w1).drew)
 go_region_held3 (fun w'=>w'.cell? ⟨z,1,none⟩=some (.int .i64 (u:Int))) (go_keep) (first
  | (go_at_call 129;((with_reducible refine(HI.o _ H1.o).mono ?_);rintro e w3 ⟨rfl,h3⟩;have H3:=ae (H1.o.trans (h3.mono H1.o.size));have y1:=(H3.o.cell (p:=⟨z,1,none⟩) hzl).trans x1;clear h3))
  | (go_at_call 65;((with_reducible refine(HW.o _ H3.o).mono ?_);rintro e w4 ⟨⟨x,rfl⟩,h3,h4⟩;have uQ:=ae h3;have HF:=ae h4;have z1:w4.cell? ⟨z,1,none⟩=some (.int .i64 (u:Int)):=(gM (a:=⟨z,1,none⟩) (HF.o.block z (eZ hzl H3.o.size) hzb (.inr fun cur fr e=>by
      have h5:=H3.o.block z hzl;have h6:w1.heap[z]? = some (.cells (bU n (.slice A m c)) 45):=cZ.o;rw[h5,h6]at e;injection e with e;injection e with _ e2;exact absurd e2 (by decide)))).trans y1;clear h3 h4)))
 all_goals go_wp2_with fail
 all_goals go_end0
 all_goals exact mK.of (HB.o.trans (H3.o.mono HB.o.size)) (HO.o.below H3.o (aj _)) uQ.o HF.o (by rw[HS.o]) (by rw[HS.o,show sb (strOfNums (aV u))=aV u from jD _ (fun x hx=>by have:=jA (rq u x hx);omega)])
theorem aeJ (w:World)(b:Nat)(nv:Value)(st:List aB)(txt:List Int)(n:Nd)(A:Option Addr)(m c:Nat)(h:dO w b nv st txt)(hk:n.kind=5)(hz:n.ref.sh.size≤1000000)(nG:lM w)(hl:txt.length≤1000000000) :
 Calls Tryz.prog 100 #[.pointer (some ⟨b,0,none⟩),.agg #[.int .i64 n.kind,.int .i64 n.num,.string n.text,.string n.ref.sh,.int .i64 n.ref.c,.int .i64 n.ref.r,.bool n.ref.ac,.bool n.ref.ar,.string n.af.sh,.int .i64 n.af.c,.int .i64 n.af.r,.bool n.af.ac,.bool n.af.ar,.slice A m c]] w (mK w b nv st txt n):=by
 have hB:Below w.heap.size w (w.alloc (.cells #[.int .i64 n.kind,.int .i64 n.num,.string n.text,.string n.ref.sh,.int .i64 n.ref.c,.int .i64 n.ref.r,.bool n.ref.ac,.bool n.ref.ar,.string n.af.sh,.int .i64 n.af.c,.int .i64 n.af.r,.bool n.af.ac,.bool n.af.ar,.slice A m c] 45)):=(ak _ _).alloc (aj _) _;have HN:az (w.alloc (.cells #[.int .i64 n.kind,.int .i64 n.num,.string n.text,.string n.ref.sh,.int .i64 n.ref.c,.int .i64 n.ref.r,.bool n.ref.ac,.bool n.ref.ar,.string n.af.sh,.int .i64 n.af.c,.int .i64 n.af.r,.bool n.af.ac,.bool n.af.ar,.slice A m c] 45)) w.heap.size n (.slice A m c):=az.new w n _;have hs:eH n=(aZ (sb n.ref.sh) n.ref.c n.ref.r n.ref.ac n.ref.ar,[]):=by unfold eH;rw[ag (by omega),ag (by omega),ag (by omega),ag (by omega),ah hk]
 have hdl:=zK (sb n.ref.sh) n.ref.c n.ref.r n.ref.ac n.ref.ar;rw[bz]at hdl;have hbw:b<w.heap.size:=by obtain⟨wv,h1, -⟩:=h;exact h1.lt
 have HS:=ae hs;have HB:=ae hB;obtain⟨wv,h1,h2⟩:=h.below hB;have uO:=ae (nG.below hB);clear h hs hk nG hB;go_enter Tryz.func100,Tryz.ntmps100;go_upto_region 1 with (fail)
 generalize hzz:w.heap.size=z at HN ⊢;generalize w.alloc (.cells #[.int .i64 n.kind,.int .i64 n.num,.string n.text,.string n.ref.sh,.int .i64 n.ref.c,.int .i64 n.ref.r,.bool n.ref.ac,.bool n.ref.ar,.string n.af.sh,.int .i64 n.af.c,.int .i64 n.af.r,.bool n.af.ac,.bool n.af.ar,.slice A m c] 45)=w1 at HN HB uO h1 h2 ⊢;obtain⟨-, -, -,x3,x4,x5,x6,x7, -⟩:=HN.cells;have hzl:=HN.lt;have hzb:z≠b:=by omega
 have cZ:=ae HN;have HI:=ae (fun wr (hr:Below w1.heap.size w1 wr)=>ND n.ref.sh n.ref.c n.ref.r n.ref.ac n.ref.ar wr (uO.o.below hr) hz);have HW:=ae (fun wr (hr:Below w1.heap.size w1 wr)=>sU wr b nv wv txt (strOfNums (aZ (sb n.ref.sh) n.ref.c n.ref.r n.ref.ac n.ref.ar)) (h1.below hr) (by rw[strOfNums_size];omega));have HO:=ae h2;clear hzz h1 h2 HN hdl;have H1:=ae ((ak w1.heap.size w1).drew)
 go_region_held3 (fun w'=>w'.cell? ⟨z,3,none⟩=some (.string n.ref.sh)∧w'.cell? ⟨z,4,none⟩=some (.int .i64 n.ref.c)∧w'.cell? ⟨z,5,none⟩=some (.int .i64 n.ref.r)∧w'.cell? ⟨z,6,none⟩=some (.bool n.ref.ac)∧w'.cell? ⟨z,7,none⟩=some (.bool n.ref.ar)) (go_keep) (first
  | (go_at_call 131;((with_reducible refine(HI.o _ H1.o).mono ?_);rintro e w3 ⟨rfl,h3⟩;have H3:=ae (H1.o.trans (h3.mono H1.o.size));have y3:=(H3.o.cell (p:=⟨z,3,none⟩) hzl).trans x3;have y4:=(H3.o.cell (p:=⟨z,4,none⟩) hzl).trans x4;have fQ:=(H3.o.cell (p:=⟨z,5,none⟩) hzl).trans x5;have y6:=(H3.o.cell (p:=⟨z,6,none⟩) hzl).trans x6;have mG:=(H3.o.cell (p:=⟨z,7,none⟩) hzl).trans x7;clear h3))
  | (go_at_call 65;((with_reducible refine(HW.o _ H3.o).mono ?_);rintro e w4 ⟨⟨x,rfl⟩,h3,h4⟩;have uQ:=ae h3;have HF:=ae h4;have jk:=HF.o.block z (eZ hzl H3.o.size) hzb (.inr fun cur fr e=>by
      have h5:=H3.o.block z hzl;have h6:w1.heap[z]? = some (.cells (bU n (.slice A m c)) 45):=cZ.o;rw[h5,h6]at e;injection e with e;injection e with _ e2;exact absurd e2 (by decide));have z3:=(gM (a:=⟨z,3,none⟩) jk).trans y3;have z4:=(gM (a:=⟨z,4,none⟩) jk).trans y4;have z5:=(gM (a:=⟨z,5,none⟩) jk).trans fQ;have z6:=(gM (a:=⟨z,6,none⟩) jk).trans y6;have z7:=(gM (a:=⟨z,7,none⟩) jk).trans mG;clear h3 h4)))
 all_goals go_wp2_with fail
 all_goals go_end0
 all_goals exact mK.of (HB.o.trans (H3.o.mono HB.o.size)) (HO.o.below H3.o (aj _)) uQ.o HF.o (by rw[HS.o]) (by rw[HS.o,show sb (strOfNums (aZ (sb n.ref.sh) n.ref.c n.ref.r n.ref.ac n.ref.ar))=aZ (sb n.ref.sh) n.ref.c n.ref.r n.ref.ac n.ref.ar from jD _ (Al _ _ _ _ _)])
theorem aeK (w:World)(b:Nat)(nv:Value)(st:List aB)(txt:List Int)(n:Nd)(A:Option Addr)(m c:Nat)(h:dO w b nv st txt)(hk:n.kind=6)(hz:n.ref.sh.size≤1000000)(hz2:n.af.sh.size≤1000000)(nG:lM w)(hl:txt.length≤1000000000) :
 Calls Tryz.prog 101 #[.pointer (some ⟨b,0,none⟩),.agg #[.int .i64 n.kind,.int .i64 n.num,.string n.text,.string n.ref.sh,.int .i64 n.ref.c,.int .i64 n.ref.r,.bool n.ref.ac,.bool n.ref.ar,.string n.af.sh,.int .i64 n.af.c,.int .i64 n.af.r,.bool n.af.ac,.bool n.af.ar,.slice A m c]] w (mK w b nv st txt n):=by
 have hB:Below w.heap.size w (w.alloc (.cells #[.int .i64 n.kind,.int .i64 n.num,.string n.text,.string n.ref.sh,.int .i64 n.ref.c,.int .i64 n.ref.r,.bool n.ref.ac,.bool n.ref.ar,.string n.af.sh,.int .i64 n.af.c,.int .i64 n.af.r,.bool n.af.ac,.bool n.af.ar,.slice A m c] 45)):=(ak _ _).alloc (aj _) _;have HN:az (w.alloc (.cells #[.int .i64 n.kind,.int .i64 n.num,.string n.text,.string n.ref.sh,.int .i64 n.ref.c,.int .i64 n.ref.r,.bool n.ref.ac,.bool n.ref.ar,.string n.af.sh,.int .i64 n.af.c,.int .i64 n.af.r,.bool n.af.ac,.bool n.af.ar,.slice A m c] 45)) w.heap.size n (.slice A m c):=az.new w n _;have hs:eH n=(aZ (sb n.ref.sh) n.ref.c n.ref.r n.ref.ac n.ref.ar++58 :: aZ (sb n.af.sh) n.af.c n.af.r n.af.ac n.af.ar,[]):=by unfold eH;rw[ag (by omega),ag (by omega),ag (by omega),ag (by omega),ag (by omega),ah hk]
 have d1:=zK (sb n.ref.sh) n.ref.c n.ref.r n.ref.ac n.ref.ar;have d2:=zK (sb n.af.sh) n.af.c n.af.r n.af.ac n.af.ar;rw[bz]at d1 d2;have hbw:b<w.heap.size:=by obtain⟨wv,h1, -⟩:=h;exact h1.lt
 have y1:=Al n.ref.sh n.ref.c n.ref.r n.ref.ac n.ref.ar;have y2:=Al n.af.sh n.af.c n.af.r n.af.ac n.af.ar;have i1:=fun (wr:World)(ht:lM wr)=>ND n.ref.sh n.ref.c n.ref.r n.ref.ac n.ref.ar wr ht hz
 have i2:=fun (wr:World)(ht:lM wr)=>ND n.af.sh n.af.c n.af.r n.af.ac n.af.ar wr ht hz2
 generalize aZ (sb n.ref.sh) n.ref.c n.ref.r n.ref.ac n.ref.ar=l1 at hs d1 y1 i1;generalize aZ (sb n.af.sh) n.af.c n.af.r n.af.ac n.af.ar=l2 at hs d2 y2 i2;have f1:¬ 9223372036854775807<(strOfNums l1).size+(⟨#[58]⟩:ByteArray).size:=by rw[strOfNums_size];show ¬ _<_+1;omega
 have f2:¬ 9223372036854775807<(strOfNums l1).size+1:=by rw[strOfNums_size];omega
 have f3:(strOfNums l1++(⟨#[58]⟩:ByteArray)).size=l1.length+1:=by rw[ByteArray.size_append,strOfNums_size];rfl
 have f4:¬ 9223372036854775807<(strOfNums l1++(⟨#[58]⟩:ByteArray)).size+(strOfNums l2).size:=by rw[f3,strOfNums_size];omega
 have f5:¬ 9223372036854775807<(strOfNums l1).size+1+(strOfNums l2).size:=by rw[strOfNums_size,strOfNums_size];omega
 have tu:=ae (show strOfNums l1++(⟨#[58]⟩:ByteArray)++strOfNums l2=strOfNums (l1++58 :: l2)by
  rw[show(⟨#[58]⟩:ByteArray)=strOfNums [58]from by decide,mW,mW,bN];rfl)
 have HS:=ae hs;have HB:=ae hB;obtain⟨wv,h1,h2⟩:=h.below hB;have uO:=ae (nG.below hB);clear h hs hk nG hB;go_enter Tryz.func101,Tryz.ntmps101;go_upto_region 1 with (fail)
 obtain⟨z,hzz⟩:∃z,w.heap.size=z:=⟨_,rfl⟩;obtain⟨w1,hw1⟩:∃w1,w.alloc (.cells #[.int .i64 n.kind,.int .i64 n.num,.string n.text,.string n.ref.sh,.int .i64 n.ref.c,.int .i64 n.ref.r,.bool n.ref.ac,.bool n.ref.ar,.string n.af.sh,.int .i64 n.af.c,.int .i64 n.af.r,.bool n.af.ac,.bool n.af.ar,.slice A m c] 45)=w1:=⟨_,rfl⟩;rw[hw1]at HN HB uO h1 h2 ⊢;rw[hzz]at HN ⊢;obtain⟨-, -, -,x3,x4,x5,x6,x7,ay,aO,aL,aM,aN, -⟩:=HN.cells;have hzl:=HN.lt;have hzb:z≠b:=by omega
 have cZ:=ae HN;have HI:=ae (fun wr (hr:Below w1.heap.size w1 wr)=>i1 wr (uO.o.below hr));have HJ:=ae (fun wr (hr:Below w1.heap.size w1 wr)=>i2 wr (uO.o.below hr));have HW:=ae (fun wr (hr:Below w1.heap.size w1 wr)=>sU wr b nv wv txt (strOfNums l1++(⟨#[58]⟩:ByteArray)++strOfNums l2) (h1.below hr) (by rw[ByteArray.size_append,f3,strOfNums_size];omega));have HO:=ae h2;clear hzz hw1 h1 h2 HN d1 d2 i1 i2 f3 hz hz2;have H1:=ae ((ak w1.heap.size w1).drew)
 go_region_held3 (fun w'=>w'.cell? ⟨z,3,none⟩=some (.string n.ref.sh)∧w'.cell? ⟨z,4,none⟩=some (.int .i64 n.ref.c)∧w'.cell? ⟨z,5,none⟩=some (.int .i64 n.ref.r)∧w'.cell? ⟨z,6,none⟩=some (.bool n.ref.ac)∧w'.cell? ⟨z,7,none⟩=some (.bool n.ref.ar)∧w'.cell? ⟨z,8,none⟩=some (.string n.af.sh)∧w'.cell? ⟨z,9,none⟩=some (.int .i64 n.af.c)∧w'.cell? ⟨z,10,none⟩=some (.int .i64 n.af.r)∧w'.cell? ⟨z,11,none⟩=some (.bool n.af.ac)∧w'.cell? ⟨z,12,none⟩=some (.bool n.af.ar)) (go_keep) (first
  | (go_at_call 131;((with_reducible refine(HI.o _ H1.o).mono ?_);rintro e w3 ⟨rfl,h3⟩;have H3:=ae (H1.o.trans (h3.mono H1.o.size));have p3:=(H3.o.cell (p:=⟨z,3,none⟩) hzl).trans x3;have p4:=(H3.o.cell (p:=⟨z,4,none⟩) hzl).trans x4;have p5:=(H3.o.cell (p:=⟨z,5,none⟩) hzl).trans x5;have p6:=(H3.o.cell (p:=⟨z,6,none⟩) hzl).trans x6;have p7:=(H3.o.cell (p:=⟨z,7,none⟩) hzl).trans x7;have aj7:=(H3.o.cell (p:=⟨z,8,none⟩) hzl).trans ay;have aj8:=(H3.o.cell (p:=⟨z,9,none⟩) hzl).trans aO;have p10:=(H3.o.cell (p:=⟨z,10,none⟩) hzl).trans aL;have Uc:=(H3.o.cell (p:=⟨z,11,none⟩) hzl).trans aM;have Ud:=(H3.o.cell (p:=⟨z,12,none⟩) hzl).trans aN;clear h3))
  | (go_at_call 131;((with_reducible refine(HJ.o _ H3.o).mono ?_);rintro e w4 ⟨rfl,h3⟩;have H4:=ae (H3.o.trans (h3.mono H3.o.size));have q3:=(H4.o.cell (p:=⟨z,3,none⟩) hzl).trans x3;have q4:=(H4.o.cell (p:=⟨z,4,none⟩) hzl).trans x4;have q5:=(H4.o.cell (p:=⟨z,5,none⟩) hzl).trans x5;have q6:=(H4.o.cell (p:=⟨z,6,none⟩) hzl).trans x6;have q7:=(H4.o.cell (p:=⟨z,7,none⟩) hzl).trans x7;have kE:=(H4.o.cell (p:=⟨z,8,none⟩) hzl).trans ay;have ae4:=(H4.o.cell (p:=⟨z,9,none⟩) hzl).trans aO;have q10:=(H4.o.cell (p:=⟨z,10,none⟩) hzl).trans aL;have q11:=(H4.o.cell (p:=⟨z,11,none⟩) hzl).trans aM;have q12:=(H4.o.cell (p:=⟨z,12,none⟩) hzl).trans aN;clear h3))
  | (go_at_call 65;((with_reducible refine(HW.o _ H4.o).mono ?_);rintro e w5 ⟨⟨x,rfl⟩,h3,h4⟩;have uQ:=ae h3;have HF:=ae h4;have jk:=HF.o.block z (eZ hzl H4.o.size) hzb (.inr fun cur fr e=>by
      have h5:=H4.o.block z hzl;have h6:w1.heap[z]? = some (.cells (bU n (.slice A m c)) 45):=cZ.o;rw[h5,h6]at e;injection e with e;injection e with _ e2;exact absurd e2 (by decide));have r3:=(gM (a:=⟨z,3,none⟩) jk).trans q3;have r4:=(gM (a:=⟨z,4,none⟩) jk).trans q4;have r5:=(gM (a:=⟨z,5,none⟩) jk).trans q5;have r6:=(gM (a:=⟨z,6,none⟩) jk).trans q6;have r7:=(gM (a:=⟨z,7,none⟩) jk).trans q7;have r8:=(gM (a:=⟨z,8,none⟩) jk).trans kE;have akj:=(gM (a:=⟨z,9,none⟩) jk).trans ae4;have r10:=(gM (a:=⟨z,10,none⟩) jk).trans q10;have r11:=(gM (a:=⟨z,11,none⟩) jk).trans q11;have r12:=(gM (a:=⟨z,12,none⟩) jk).trans q12;clear h3 h4)))
 all_goals go_wp2_with fail
 all_goals go_end0
 all_goals exact mK.of (HB.o.trans (H4.o.mono HB.o.size)) (HO.o.below H4.o (aj _)) uQ.o HF.o (by rw[HS.o]) (by rw[HS.o,tu.o,jD _ (by intro x hx;rcases dK.1 hx with hx|hx;exact y1 x hx;rcases eY.1 hx with rfl|hx;exact⟨by decide,by decide⟩;exact y2 x hx)])
theorem Sl:∀l:List UInt8,(Lib.index l [34] = -1∧∀x∈l,x≠34)∨∃i:Nat,Lib.index l [34]=i∧i<l.length∧(∀x∈l.take i,x≠34)∧l.drop i=34 :: l.drop (i+1)
 | [] => .inl ⟨rfl,fun x hx=>by cases hx⟩
 | b :: l => by
   by_cases hb:b=34
   · subst hb;exact .inr ⟨0,rfl,by simp,fun x hx=>by simp at hx,rfl⟩
   · have hp:List.isPrefixOf [34] (b :: l)=false:=by
      show((34:UInt8) == b&&List.isPrefixOf [] l)=false;rw[aA.2 (fun e=>hb e.symm)];rfl
     have e:Lib.index (b :: l) [34]=if Lib.index l [34] == -1 then -1 else Lib.index l [34]+1:=by
      rw[Lib.index,ag (by rw[hp];decide)]
     rcases Sl l with ⟨h1,h2⟩|⟨i,h1,h2,h3,h4⟩
     · refine .inl ⟨by rw[e,h1];rfl,fun x hx => ?_⟩
       rcases eY.1 hx with rfl|hx
       · exact hb
       · exact h2 x hx
     · refine .inr ⟨i+1, ?_,by simp;omega,fun x hx => ?_,by simpa using h4⟩
       · rw[e,h1,ag (by intro h;have:=bA.1 h;omega)];rfl
       · rw[List.take_succ_cons]at hx
         rcases eY.1 hx with rfl|hx
         · exact hb
         · exact h3 x hx
def tX:List UInt8→List UInt8
 | []=>[]
 | x :: l=>(if x=34 then [34,34]else [x])++tX l
theorem Qh:∀l:List UInt8,(∀x∈l,x≠34)→tX l=l
 | [],_=>rfl
 | x :: l,h=>by
   show(if x=34 then [34,34]else [x])++tX l=x :: l;rw[ag (h x (List.mem_cons_self ..)),Qh l (fun y hy=>h y (List.mem_cons_of_mem _ hy))];rfl
theorem Qg:∀(p r:List UInt8),(∀x∈p,x≠34)→tX (p++34 :: r)=p++[34,34]++tX r
 | [],r,_=>rfl
 | x :: p,r,h=>by
   show(if x=34 then [34,34]else [x])++tX (p++34 :: r)=_;rw[ag (h x (List.mem_cons_self ..)),Qg p r (fun y hy=>h y (List.mem_cons_of_mem _ hy))];rfl
theorem MS:∀(n:Nat)(l:List UInt8),l.length≤n→Lib.replaceK [34] [34,34] (Lib.count l [34]) l=tX l∧Lib.count l [34]≤l.length
 | n, l,hn=>by
   rcases Sl l with ⟨h1,h2⟩|⟨i,h1,h2,h3,h4⟩
   · rw[Lib.count_miss h1,Qh l h2];exact⟨rfl,eP _⟩
   · have hc:=Lib.count_hit (s:=l) (sub:=[34]) (by decide) h1
     have hd:(l.drop (i+1)).length=l.length - (i+1):=lG
     match n with
     | 0=>omega
     | n+1 =>
       obtain⟨e1,e2⟩:=MS n (l.drop (i+1)) (by omega);have hc2:Lib.count l [34]=Lib.count (l.drop (i+1)) [34]+1:=by rw[hc];show 1+Lib.count (l.drop (i+1)) [34]=_;omega
       refine⟨?_,by omega⟩;rw[hc2,Lib.replaceK_hit _ _ _ _ i h1];show l.take i++[34,34]++Lib.replaceK [34] [34,34] (Lib.count (l.drop (i+1)) [34]) (l.drop (i+1))=_;rw[e1, ← Qg _ _ h3, ← h4,List.take_append_drop]
theorem Yh (l:List UInt8):Lib.replaceAll l [34] [34,34]=tX l:=by
 unfold Lib.replaceAll Lib.replace Lib.replaceNum;rw[ag (by decide),ah (.inl (by decide))];exact(MS l.length l (aj _)).1
theorem Qi:∀l:List UInt8,(tX l).map (fun b=>(b.toNat:Int))=fe (l.map fun b=>(b.toNat:Int))
 | []=>rfl
 | x :: l=>by
   show((if x=34 then [34,34]else [x])++tX l).map _=(if (x.toNat:Int)=34 then [34,34]else [(x.toNat:Int)])++fe (l.map _);rw[gP,Qi l];by_cases h:x=34
   · subst h;rfl
   · rw[ag h,ag (fun e=>h (UInt8.toNat_inj.1 (by have:(34:UInt8).toNat=34:=rfl;omega)))];rfl
def qQ(w:World):Prop:=∃m,w.cell? ⟨(4:Nat),0,none⟩=some (.int .i64 m)
theorem qQ.below (h:qQ w)(hb:Below w.heap.size w w'):qQ w':=by
 obtain⟨m,hm⟩:=h;exact⟨m,(hb.cell (p:=⟨(4:Nat),0,none⟩) (World.block_lt_of_cell? w _ hm)).trans hm⟩
theorem qQ.wrote (h:qQ w)(hf:iK w w' b)(hg:4<b):qQ w':=by
 obtain⟨m,hm⟩:=h;exact⟨m,(gM (a:=⟨(4:Nat),0,none⟩) (hf.block _ (World.block_lt_of_cell? w _ hm) (Nat.ne_of_lt hg) (.inl hg))).trans hm⟩
theorem afJ (s:ByteArray)(hs:s.size≤1000000)(w:World)(hm:qQ w):Calls Tryz.prog 130 #[.string s,.string ⟨#[34]⟩,.string ⟨#[34,34]⟩] w fun e w'=>e = .returned (.string (strOfNums (fe (sb s))))∧Below w.heap.size w w':=by
 obtain⟨m,hm⟩:=hm;have hc:Lib.countB s ⟨#[34]⟩≤s.size:=(MS _ s.data.toList (aj _)).2;have h:=Tryz.strings_ReplaceAll s ⟨#[34]⟩ ⟨#[34,34]⟩ m w (by omega) hm (by decide) (by have:(⟨#[34,34]⟩:ByteArray).size=2:=rfl;rw[this];omega)
 rw [show(⟨(Lib.replaceAll s.data.toList (⟨#[34]⟩:ByteArray).data.toList (⟨#[34,34]⟩:ByteArray).data.toList).toArray⟩:ByteArray)=strOfNums (fe (sb s))from by
  rw[show(⟨#[34]⟩:ByteArray).data.toList=[34]from rfl,show(⟨#[34,34]⟩:ByteArray).data.toList=[34,34]from rfl,Yh, ← mX ⟨(tX s.data.toList).toArray⟩];congr 1;show(tX s.data.toList).map (fun b=>(b.toNat:Int))=_;rw[Qi];rfl]at h
 exact h
theorem iK.below(h:Below w.heap.size w w'):iK w w' b:=⟨h.os,h.tape,h.output,h.size,fun k hk _ _=>h.block k hk⟩
theorem ae6 (w:World)(b:Nat)(nv:Value)(st:List aB)(txt:List Int)(n:Nd)(A:Option Addr)(m c:Nat)(h:dO w b nv st txt)(hk:n.kind=2)(hz:n.text.size≤1000000)(hmv:qQ w)(hgb:4<b)(hl:txt.length≤1000000000) :
 Calls Tryz.prog 97 #[.pointer (some ⟨b,0,none⟩),.agg #[.int .i64 n.kind,.int .i64 n.num,.string n.text,.string n.ref.sh,.int .i64 n.ref.c,.int .i64 n.ref.r,.bool n.ref.ac,.bool n.ref.ar,.string n.af.sh,.int .i64 n.af.c,.int .i64 n.af.r,.bool n.af.ac,.bool n.af.ar,.slice A m c]] w (mK w b nv st txt n):=by
 have hB:Below w.heap.size w (w.alloc (.cells #[.int .i64 n.kind,.int .i64 n.num,.string n.text,.string n.ref.sh,.int .i64 n.ref.c,.int .i64 n.ref.r,.bool n.ref.ac,.bool n.ref.ar,.string n.af.sh,.int .i64 n.af.c,.int .i64 n.af.r,.bool n.af.ac,.bool n.af.ar,.slice A m c] 45)):=(ak _ _).alloc (aj _) _;have HN:az (w.alloc (.cells #[.int .i64 n.kind,.int .i64 n.num,.string n.text,.string n.ref.sh,.int .i64 n.ref.c,.int .i64 n.ref.r,.bool n.ref.ac,.bool n.ref.ar,.string n.af.sh,.int .i64 n.af.c,.int .i64 n.af.r,.bool n.af.ac,.bool n.af.ar,.slice A m c] 45)) w.heap.size n (.slice A m c):=az.new w n _;have hs:eH n=(34 :: (fe (sb n.text)++[34]),[]):=by unfold eH;rw[ag (by omega),ah hk]
 have hd:=KC (sb n.text);rw[bz]at hd;have hbw:b<w.heap.size:=by obtain⟨wv,h1, -⟩:=h;exact h1.lt
 have hby:=Kr (sb n.text) (sO n.text);have HS:=ae hs;have HB:=ae hB;obtain⟨wv,h1,h2⟩:=h.below hB;have OG:=ae (hmv.below hB);clear h hs hk hmv hB;go_enter Tryz.func97,Tryz.ntmps97;go_upto_region 1 with (fail)
 obtain⟨z,hzz⟩:∃z,w.heap.size=z:=⟨_,rfl⟩;obtain⟨w1,hw1⟩:∃w1,w.alloc (.cells #[.int .i64 n.kind,.int .i64 n.num,.string n.text,.string n.ref.sh,.int .i64 n.ref.c,.int .i64 n.ref.r,.bool n.ref.ac,.bool n.ref.ar,.string n.af.sh,.int .i64 n.af.c,.int .i64 n.af.r,.bool n.af.ac,.bool n.af.ar,.slice A m c] 45)=w1:=⟨_,rfl⟩;rw[hw1]at HN HB OG h1 h2 ⊢;rw[hzz]at HN ⊢;have hzl:=HN.lt;have hzb:z≠b:=by omega
 have cZ:=ae HN;have HW:=ae (sU w1 b nv wv txt ⟨#[34]⟩ h1 (by show txt.length+1≤_;omega));have HO:=ae h2;clear hzz hw1 h1 h2 HN;go_upto_region 2 with (go_at_call 65;((with_reducible refine HW.o.mono ?_);rintro e w2 ⟨⟨x,rfl⟩,h3,h4⟩;have uQ:=ae h3;have HF:=ae h4;clear h3 h4))
 have aF:=ae (show az w2 z n (.slice A m c)by
  unfold az
  rw [HF.o.block z hzl hzb (.inr fun cur fr e=>by
   have h6:w1.heap[z]? = some (.cells (bU n (.slice A m c)) 45):=cZ.o;rw[h6]at e;injection e with e;injection e with _ e2;exact absurd e2 (by decide))]
  exact cZ.o)
 have Xd:=ae (OG.o.wrote HF.o hgb);have x2:=aF.o.cells.2.2.1;have hz2:=aF.o.lt;have HI:=ae (fun wr (hr:Below w2.heap.size w2 wr)=>afJ n.text hz wr (Xd.o.below hr));have HW2:=ae (fun wr (hr:Below w2.heap.size w2 wr)=>sU wr b nv wv (txt++sb ⟨#[34]⟩) (strOfNums (fe (sb n.text))) (uQ.o.below hr) (by rw[strOfNums_size,av];show txt.length+1+_≤_;omega));have H1:=ae ((ak w2.heap.size w2).drew)
 go_region_held3 (fun w'=>w'.cell? ⟨z,2,none⟩=some (.string n.text)) (go_keep) (first
  | (go_at_call 130;((with_reducible refine(HI.o _ H1.o).mono ?_);rintro e w3 ⟨rfl,h3⟩;have H3:=ae (H1.o.trans (h3.mono H1.o.size));have y2:=(H3.o.cell (p:=⟨z,2,none⟩) hz2).trans x2;clear h3))
  | (go_at_call 65;((with_reducible refine(HW2.o _ H3.o).mono ?_);rintro e w4 ⟨⟨x,rfl⟩,h3,h4⟩;have XW:=ae h3;have dY:=ae h4;have jk:=dY.o.block z (eZ hz2 H3.o.size) hzb (.inr fun cur fr e=>by
      have h5:=H3.o.block z hz2;have h6:w2.heap[z]? = some (.cells (bU n (.slice A m c)) 45):=aF.o;rw[h5,h6]at e;injection e with e;injection e with _ e2;exact absurd e2 (by decide));have z2:=(gM (a:=⟨z,2,none⟩) jk).trans y2;clear h3 h4 jk)))
 have HW3:=ae (sU w4 b nv wv _ ⟨#[34]⟩ XW.o (by rw[av,av,jD _ hby];show txt.length+1+_+1≤_;omega));go_wp2_with (go_at_call 65;((with_reducible refine HW3.o.mono ?_);rintro e w5 ⟨⟨x,rfl⟩,h3,h4⟩;have XX:=ae h3;have bg:=ae h4;clear h3 h4))
 go_end0;have WL:=ae (((HF.o).trans (iK.below H3.o)).trans (dY.o.trans bg.o));exact mK.of HB.o HO.o XX.o WL.o (by rw[HS.o]) (by rw[HS.o,jD _ hby,show sb ⟨#[34]⟩=[34]by decide];simp[List.append_assoc])
theorem aex (w:World)(ps:List aB)(cs:Array Value)(hcs:cs.toList=pz.all ps)(hl:ps.length≤1000000):Own pz 87 (w.alloc (.cells cs 87)) 0 (.slice (some ⟨w.heap.size,0,none⟩) ps.length ps.length) ps:=by
 have hs:cs.size=ps.length*3:=by rw[← Array.length_toList,hcs,Enc.mP]
 refine⟨by rw[Enc.mP],.inr ⟨w.heap.size,ps.length,cs,rfl,eP _,(kW w _).1,aj _,by unfold maxLen;omega,hs, ?_⟩⟩;rw[hcs,pW (by rw[Enc.mP];exact aj _)]
theorem lN.one {nv wv2:Value}{t1 t2:List Int}(h:lN w b nv wv t1)(h2:lN w b nv wv2 t2):wv2=wv:=by
 obtain⟨ad,bv,h3,_⟩:=h;obtain⟨Aj,Ak,h4,_⟩:=h2;have e:w.heap[b]? = some (.cells #[nv,wv,ad,bv] 84):=h3;have e2:w.heap[b]? = some (.cells #[nv,wv2,Aj,Ak] 84):=h4;rw[e]at e2;injection e2 with e2;injection e2 with e2;simp at e2;exact e2.1.symm
theorem Bl (w:World)(b:Nat)(nv:Value)(st ps:List aB)(txt:List Int)(cs:Array Value)(k:Nat)(hk:ps.length=k)(hcs:cs.toList=pz.all ps)(h:dO w b nv st txt)(hl1:ps.length≤1000000)(hl2:st.length≤2000000000) :
 Calls Tryz.prog 38 #[.pointer (some ⟨b,0,none⟩),.slice (some ⟨w.heap.size,0,none⟩) k k] (w.alloc (.cells cs 87)) fun e w'=>e = .returned (.tuple #[])∧dO w' b nv (st++ps.reverse) txt∧bF w w' b:=by
 subst hk;have hb:Below w.heap.size w (w.alloc (.cells cs 87)):=(ak _ _).alloc (aj _) _;obtain⟨wv,hws,ho⟩:=h;refine(aeZ (w.alloc (.cells cs 87)) b nv st ps txt w.heap.size ps.length ⟨wv,hws.below hb,ho.below hb (aj _)⟩ (aex w ps cs hcs hl1) ?_ hl1 hl2).mono ?_
 · intro wv2 h2 e
   rw[(hws.below hb).one h2]at e;have:=(Own.kP ho _ e).2.1;omega
 · rintro e w' ⟨h1,h2,h3⟩
   exact⟨h1,h2,(bF.iQ hb).trans h3⟩
theorem EI(i m:Int)(w:World):Calls Tryz.prog 39 #[.int .i64 i,.int .i64 m] w fun e w'=>e = .returned (.agg #[.string ⟨#[]⟩,.int .i64 i,.int .i64 m])∧Below w.heap.size w w':=aeq i m w
theorem H6(t:ByteArray)(w:World):Calls Tryz.prog 67 #[.string t] w fun e w'=>e = .returned (.agg #[.string t,.int .i64 0,.int .i64 0])∧Below w.heap.size w w':=aeL t w
theorem iM.pE {B:Nat}{v:Value}{xs:List Int}(h:iM w B v xs)(hf:bF w w' b)(hB:B≤b)(hw:b<w.heap.size):iM w' B v xs:=by
 obtain⟨A,cap,h1,h2,h3,h4⟩:=h;refine⟨A,cap,h1,h2,h3,h4.imp id ?_⟩;rintro⟨pb,po,e1,e2,e3⟩;exact⟨pb,po,e1,e2,fun j x hj=>(gM (a:=⟨pb,po+j,none⟩) (hf.block pb (by omega) (by omega) (.inl (by omega)))).trans (e3 j x hj)⟩
theorem adS (w:World)(b:Nat)(nv:Value)(st:List aB)(txt:List Int)(n:Nd)(A:Option Addr)(m c:Nat)(h:dO w b nv st txt)(hk:n.kind=8)(k0:Int)(hk0:n.kids[0]? = some k0)(hsi:iM w b (.slice A m c) n.kids)(hl:txt.length≤1000000000)(hls:st.length≤2000000000) :
 Calls Tryz.prog 103 #[.pointer (some ⟨b,0,none⟩),.agg #[.int .i64 n.kind,.int .i64 n.num,.string n.text,.string n.ref.sh,.int .i64 n.ref.c,.int .i64 n.ref.r,.bool n.ref.ac,.bool n.ref.ar,.string n.af.sh,.int .i64 n.af.c,.int .i64 n.af.r,.bool n.af.ac,.bool n.af.ar,.slice A m c]] w (mK w b nv st txt n):=by
 have hB:Below w.heap.size w (w.alloc (.cells #[.int .i64 n.kind,.int .i64 n.num,.string n.text,.string n.ref.sh,.int .i64 n.ref.c,.int .i64 n.ref.r,.bool n.ref.ac,.bool n.ref.ar,.string n.af.sh,.int .i64 n.af.c,.int .i64 n.af.r,.bool n.af.ac,.bool n.af.ar,.slice A m c] 45)):=(ak _ _).alloc (aj _) _;have HN:az (w.alloc (.cells #[.int .i64 n.kind,.int .i64 n.num,.string n.text,.string n.ref.sh,.int .i64 n.ref.c,.int .i64 n.ref.r,.bool n.ref.ac,.bool n.ref.ar,.string n.af.sh,.int .i64 n.af.c,.int .i64 n.af.r,.bool n.af.ac,.bool n.af.ar,.slice A m c] 45)) w.heap.size n (.slice A m c):=az.new w n _
 have hs:eH n=([45],[aB.op k0 5]):=by
  unfold eH;rw[ag (by omega),ag (by omega),ag (by omega),ag (by omega),ag (by omega),ag (by omega),ag (by omega),ah hk,jL,hk0];rfl
 have hbw:b<w.heap.size:=by obtain⟨wv,h1, -⟩:=h;exact h1.lt
 have Ll:=hsi.below hB (Nat.le_of_lt hbw);obtain⟨A',qf,hsl,hcm, -,hcell⟩:=Ll;injection hsl with e1 e2 e3;have mE:0<n.kids.length:=(dS.1 hk0).1;obtain⟨pb,po,hA,hpb,hcl⟩:=hcell.resolve_left (fun e=>by rw[e]at mE;exact absurd mE (by decide));have hc0:=hcl 0 k0 hk0;rw[Nat.add_zero]at hc0;have hA2:=e1.trans hA;subst hA2;subst e3;clear e1 hA;have hm0:(0:Int)<(m:Int):=by omega
 have hm1:0<m:=by omega
 have HS:=ae hs;have HB:=ae hB;obtain⟨wv,h1,h2⟩:=h.below hB;clear h hs hk hB hsi e2 hcl mE hcell hk0;go_enter Tryz.func103,Tryz.ntmps103;go_upto_region 1 with (fail)
 obtain⟨z,hzz⟩:∃z,w.heap.size=z:=⟨_,rfl⟩;obtain⟨w1,hw1⟩:∃w1,w.alloc (.cells #[.int .i64 n.kind,.int .i64 n.num,.string n.text,.string n.ref.sh,.int .i64 n.ref.c,.int .i64 n.ref.r,.bool n.ref.ac,.bool n.ref.ar,.string n.af.sh,.int .i64 n.af.c,.int .i64 n.af.r,.bool n.af.ac,.bool n.af.ar,.slice (some ⟨pb,po,none⟩) m c] 45)=w1:=⟨_,rfl⟩;rw[hw1]at HN HB h1 h2 hc0 ⊢;rw[hzz]at HN ⊢;have hzl:=HN.lt;have hzb:z≠b:=by omega
 have cZ:=ae HN;have HW:=ae (sU w1 b nv wv txt ⟨#[45]⟩ h1 (by show txt.length+1≤_;omega));have HO:=ae h2;clear hzz hw1 h1 h2 HN;go_upto_region 2 with (go_at_call 65;((with_reducible refine HW.o.mono ?_);rintro e w2 ⟨⟨x,rfl⟩,h3,h4⟩;have uQ:=ae h3;have HF:=ae h4;clear h3 h4))
 have QM:az w2 z n (.slice (some ⟨pb,po,none⟩) m c):=by
  unfold az
  rw [HF.o.block z hzl hzb (.inr fun cur fr e=>by
   have h6:w1.heap[z]? = some (.cells (bU n (.slice (some ⟨pb,po,none⟩) m c)) 45):=cZ.o;rw[h6]at e;injection e with e;injection e with _ e2;exact absurd e2 (by decide))]
  exact cZ.o
 obtain⟨-, -, -, -, -, -, -, -, -, -, -, -, -,aJ⟩:=QM.cells;have Ay:b<w1.heap.size:=eZ hbw HB.o.size;have hd0:w2.cell? ⟨pb,po,none⟩=some (.int .i64 k0):=(gM (a:=⟨pb,po,none⟩) (HF.o.block pb (by omega) (by omega) (.inl hpb))).trans hc0
 have J9:=ae (show dO w2 b nv st (txt++[45])from by
  have h:=dO.wrote HO.o uQ.o HF.o;rwa[show sb ⟨#[45]⟩=[45]by decide]at h)
 have qM:=ae (fun (w3:World)(h3:Below w2.heap.size w2 w3)=>Bl w3 b nv st [aB.op k0 5] (txt++[45]) #[.string ⟨#[]⟩,.int .i64 k0,.int .i64 5] 1 rfl rfl (J9.o.below h3) (by show 1≤1000000;decide) hls);clear QM hc0
 go_wp2_with (first
  | (go_at_call 39;((with_reducible refine(EI _ _ _).mono ?_);rintro e w3 ⟨rfl,h3⟩;have HB3:=ae h3;clear h3))
  | (go_at_call 38;((with_reducible refine(qM.o _ HB3.o).mono ?_);rintro e w5 ⟨rfl,h3,h4⟩;have xu:=ae h3;have bg:=ae h4;clear h3 h4)))
 go_end0;refine⟨rfl, ?_,(bF.iQ HB.o).trans ((bF.uu HF.o).trans ((bF.iQ HB3.o).trans bg.o))⟩;rw[HS.o];exact xu.o
end Go.Proofs.YtaobhjliflomaaaGreatDoor
