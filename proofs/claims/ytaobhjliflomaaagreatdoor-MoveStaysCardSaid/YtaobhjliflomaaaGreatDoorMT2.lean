import Derived.Test.YtaobhjliflomaaaGreatDoorMT1
import Derived.Shelf.Abstract
import Derived.RangeFuncNested
import Derived.RangeFuncBound
import Derived.RangeFuncCalls
import Derived.RangeFuncLeaves
import Derived.OwnWalkIn
import Derived.TacticsInMore
import Derived.LoopNIn
import Derived.LoopIn
import Derived.Maps.OwnIn
import Derived.Shelf.Strings.Builder1
import Derived.Shelf.Strings.Builder2
import Derived.Shelf.Small.Strs
import Derived.Shelf.Strings.BuilderF
import Derived.Shelf.Strings.BuilderK
import Derived.Shelf.Utf8.RuneCount
import Derived.Shelf.Strconv.Atoi
import Derived.Shelf.Strconv.Itoa0
import Derived.Shelf.Strconv.Itoa1
import Derived.Shelf.LaysM
import Derived.Shelf.Strconv.Itoa2
import Derived.Shelf.Strconv.Itoa3
import Derived.Shelf.Strconv.AtoiErrFast
import Derived.Shelf.Strconv.ParseIntEmpty
import Derived.Shelf.Strconv.AtoiFail
import Derived.Shelf.Strconv.Clone
import Derived.Shelf.Strconv.SyntaxError
import Derived.Shelf.LaysC
import Derived.Shelf.Strconv.ToError
import Derived.Shelf.Strconv.Lower
import Derived.Shelf.Strconv.ParseUint10
import Derived.Shelf.Strconv.ParseUint10Empty
import Derived.Shelf.Strconv.ParseUint10Any
import Derived.Shelf.Strconv.ParseInt10
import Derived.Shelf.Strconv.AtoiLong
import Derived.Shelf.Strconv.AtoiInnerAll
import Derived.Shelf.Strconv.RangeError
import Derived.Shelf.Strconv.ToErrorRange
import Derived.Shelf.Strconv.AtoiAll
import Derived.Shelf.Strconv.ErrVarAll
import Derived.Shelf.Strings.Search1
import Derived.Shelf.Strings.Search2
import Derived.Shelf.Strings.Search3
import Derived.Shelf.Strings.Count
import Derived.Shelf.Strings.Shaped
import Derived.Shelf.Strings.Prefix
import Derived.Shelf.Strings.Split
import Derived.Shelf.Strings.Replace
import Derived.Shelf.Strings.SplitShaped
import Derived.Shelf.Unicode.Decode
import Derived.Shelf.Strings.RuneCount
import Derived.Shelf.Unicode.DecodeSlow
import Derived.Shelf.Unicode.DecodeAny
import Derived.Ground.Names2Prog
import Derived.Shelf.Slices.Clone
import Derived.Ground.SlgnProg
import Derived.Shelf.SlicesE.Clone
import Derived.Laws.ResultCell
set_option maxRecDepth 100000
set_option maxHeartbeats 64000000
namespace Go.Proofs.YtaobhjliflomaaaGreatDoor
open Go.RowKit
theorem MP (w:World)(A:Option Addr)(n cap:Nat)(xs:List Int)(nw i:Int)(h:IR w w.heap.size A n cap xs)(hn:n≤2000000)(h0:0≤nw)(h1:nw≤2000000)(hi:i≤4398046511104) :
 Calls Tryz.prog 134 #[.agg #[.slice A n cap,.int .i64 nw],.int .i64 i] w fun e w'=>e = .returned (.int .i64 (lC xs nw i))∧Below w.heap.size w w':=by
 have HB:=ae (rY 165 w (.slice A n cap) nw);have HP:=ae (dh.new 165 w (.slice A n cap) nw);have HX:=ae h;have HL:=ae h.len.1;clear h;by_cases zG:i<0
 · have dH:=ae (aaB xs nw i zG)
   go_enter Tryz.func134,Tryz.ntmps134;go_wp2_with fail
   go_ret;exact⟨by rw[dH.o];rfl,HB.o⟩
 · obtain ⟨k,rfl⟩:∃k:Nat,i=(k:Int):=⟨i.toNat,by omega⟩
   by_cases hin:k<n
   · have hii:(k:Int)<(n:Int):=by omega
     have hi0:(0:Int)≤(k:Int):=by omega
     have dH:=ae (Bl xs nw k (by rw[HL.o];exact hin));obtain⟨pb,po,rfl,hpb,e0⟩:=QL HX.o hin;obtain⟨x,hx⟩:∃x,xs.getD k 0=x:=⟨_,rfl⟩;rw[hx]at e0 dH;have HE:=ae e0;have IG:=ae hpb;clear e0 hx hpb;go_enter Tryz.func134,Tryz.ntmps134;go_upto_region 1 with (fail)
     obtain⟨w1,hw1⟩:∃w1,w.alloc (.cells #[.slice (some ⟨pb,po,none⟩) n cap,.int .i64 nw] 165)=w1:=⟨_,rfl⟩;rw[hw1]at HB HP ⊢;clear hw1;obtain⟨x0,x1⟩:=HP.o.cells;have x2:w1.cell? ⟨pb,po+k,none⟩=some (.int .i64 x):=(HB.o.cell (p:=⟨pb,po+k,none⟩) IG.o).trans HE.o;go_wp2_with fail
     go_ret;exact⟨by rw[dH.o];rfl,HB.o⟩
   · have hii:¬ (k:Int)<(n:Int):=by omega
     have dH:=ae (Dp xs nw (k:Int) (by omega) (by rw[HL.o];omega));have hk:(k:Int)≤4398046511104:=hi;go_enter Tryz.func134,Tryz.ntmps134;go_upto_region 1 with (fail)
     obtain⟨w1,hw1⟩:∃w1,w.alloc (.cells #[.slice A n cap,.int .i64 nw] 165)=w1:=⟨_,rfl⟩;rw[hw1]at HB HP ⊢;clear hw1;obtain⟨x0,x1⟩:=HP.o.cells;go_wp2_with fail
     go_ret;exact⟨by rw[dH.o,HL.o];rfl,HB.o⟩
theorem QK (w:World)(A:Option Addr)(n cap:Nat)(xs:List Int)(nw i:Int)(h:IR w w.heap.size A n cap xs)(hn:n≤2000000)(h0:0≤nw)(h1:nw≤2000000)(hi:i≤4398046511104) :
 Calls Tryz.prog 107 #[.agg #[.slice A n cap,.int .i64 nw],.int .i64 i] w fun e w'=>e = .returned (.int .i64 (lC xs nw i))∧Below w.heap.size w w':=by
 have HB:=ae (rY 30 w (.slice A n cap) nw);have HP:=ae (dh.new 30 w (.slice A n cap) nw);have HI:=ae (MP (w.alloc (.cells #[.slice A n cap,.int .i64 nw] 30)) A n cap xs nw i (h.lift HB.o) hn h0 h1 hi);clear h;go_enter Tryz.func107,Tryz.ntmps107;go_upto_region 1 with (fail)
 obtain⟨w1,hw1⟩:∃w1,w.alloc (.cells #[.slice A n cap,.int .i64 nw] 30)=w1:=⟨_,rfl⟩;rw[hw1]at HB HP HI ⊢;clear hw1;obtain⟨x0,x1⟩:=HP.o.cells;go_wp2_with (go_at_call 134;((with_reducible refine HI.o.mono ?_);rintro e w2 ⟨rfl,h3⟩;have H2:=ae (HB.o.trans (h3.mono HB.o.size));clear h3))
 go_ret;exact⟨rfl,H2.o⟩
structure bu where
 s:Sf
 ra:Option Addr
 rc:Nat
 ca:Option Addr
 cc:Nat
 z:s.sh.size≤maxLen
def bu.rv(x:bu):Value := .slice x.ra x.s.rx.length x.rc
def bu.cv(x:bu):Value := .slice x.ca x.s.cx.length x.cc
def gI(x:bu):Array Value:=#[.string x.s.sh,x.rv,.int .i64 x.s.rn,x.cv,.int .i64 x.s.cn,.bool x.s.gone]
theorem bu.one (x:bu):∀u∈(gI x).toList,u.oneCell'=true:=by
 intro v hv;simp only[gI,List.mem_cons,List.not_mem_nil,or_false]at hv;rcases hv with rfl|rfl|rfl|rfl|rfl|rfl <;> rfl
def CQ:Enc bu 6:={ f:=fun x=>(gI x).toList,len:=fun _=>rfl,one:=fun x u hu=>bu.one x u hu }
structure mq (w:World)(B:Nat)(x:bu):Prop where
 rows:IR w B x.ra x.s.rx.length x.rc x.s.rx
 su:IR w B x.ca x.s.cx.length x.cc x.s.cx
theorem mq.below{w w':World}{B C:Nat}{x:bu}(h:mq w B x)(hb:Below C w w')(hC:B≤C):mq w' B x:=⟨fQ.below h.rows hb hC,fQ.below h.su hb hC⟩
theorem mq.mono{w:World}{B C:Nat}{x:bu}(h:mq w B x)(hC:B≤C):mq w C x:=⟨fQ.mono h.rows hC,fQ.mono h.su hC⟩
theorem mq.lift{w w':World}{x:bu}(h:mq w w.heap.size x)(hb:Below w.heap.size w w'):mq w' w'.heap.size x:=(h.below hb (ah _)).mono hb.size
def mW(w:World)(B:Nat)(v:Value)(xs:List bu):Prop:=fQ CQ w B v xs∧∀x∈xs,mq w B x
theorem mW.below{w w':World}{B C:Nat}{v:Value}{xs:List bu}(h:mW w B v xs)(hb:Below C w w')(hC:B≤C):mW w' B v xs:=⟨h.1.below hb hC,fun x hx=>(h.2 x hx).below hb hC⟩
theorem mW.mono{w:World}{B C:Nat}{v:Value}{xs:List bu}(h:mW w B v xs)(hC:B≤C):mW w C v xs:=⟨h.1.mono hC,fun x hx=>(h.2 x hx).mono hC⟩
theorem mW.lift{w w':World}{v:Value}{xs:List bu}(h:mW w w.heap.size v xs)(hb:Below w.heap.size w w'):mW w' w'.heap.size v xs:=(h.below hb (ah _)).mono hb.size
def jq(xs:List bu):List Sf:=xs.map bu.s
def yl(xs:List bu)(k:ByteArray):Option bu:=xs.find? fun x=>decide (x.s.sh=k)
theorem abR (xs:List bu)(k:ByteArray):zn (jq xs) k=(yl xs k).map bu.s:=by
 unfold zn jq yl;rw[List.find?_map];rfl
theorem abS{xs:List bu}{k:ByteArray}{x:bu}(h:yl xs k=some x):x∈xs:=List.mem_of_find?_eq_some h
def qC(xs:List bu)(k:ByteArray):Option Value:=(yl xs k).map fun x => .agg (gI x)
theorem aca (x:bu)(xs:List bu):qC (x :: xs)=yz (qC xs) x.s.sh (.agg (gI x)):=by
 funext k
 unfold qC yl yz;rw[List.find?_cons];by_cases c:k=x.s.sh
 · rw[if_pos c,decide_eq_true (show x.s.sh=k from c.symm)];rfl
 · rw[if_neg c,decide_eq_false (show ¬ x.s.sh=k from fun e=>c e.symm)]
def r9{α : Type}(xs:List α)(q:Nat):List (Nat × α):=((xs.zipIdx).drop q).reverse.map fun e=>(e.2,e.1)
theorem XP {α : Type}(xs:List α):r9 xs xs.length=[]:=by
 unfold r9;rw[List.drop_of_length_le (by rw[List.length_zipIdx];exact ah _)];rfl
theorem XT {α : Type}(xs:List α)(m:Nat)(p : α)(hp:xs[m]? = some p):r9 xs m=r9 xs (m+1)++[(m,p)]:=by
 have hl:=(dW.1 hp).1;have hz:(xs.zipIdx)[m]? = some (p,m):=by rw[List.getElem?_zipIdx,hp];simp
 have hzl:=(dW.1 hz).1;unfold r9;rw[List.drop_eq_getElem_cons hzl,List.reverse_cons,iy];have:(xs.zipIdx)[m]=(p,m):=by rw[dm hzl]at hz;exact dU hz
 rw[this];rfl
theorem XQ{α : Type}(xs:List α)(q:Nat):(r9 xs q).length=xs.length - q:=by unfold r9;simp
theorem XR {α : Type}(xs:List α):((r9 xs 0).map (·.2)).reverse=xs:=by
 unfold r9;rw[List.drop_zero,List.map_map, ← List.map_reverse,List.reverse_reverse];show xs.zipIdx.map (fun e=>e.1)=xs;exact List.zipIdx_map_fst ..
end Go.Proofs.YtaobhjliflomaaaGreatDoor
namespace Go.Proofs.YtaobhjliflomaaaGreatDoor
open Go.RowKit Go.Shelf
attribute [local go_sem] Oper.semAt_some
def iP(x y:Nat)(w w':World):Prop:=w'.heap[x]? = w.heap[x]? ∧ w'.heap[y]? = w.heap[y]?
theorem iP.refl(x y:Nat)(w:World):iP x y w w:=⟨rfl,rfl⟩
theorem iP.trans{x y:Nat}{a b c:World}(h:iP x y a b)(k:iP x y b c):iP x y a c:=⟨k.1.trans h.1,k.2.trans h.2⟩
theorem iP.JD{x y:Nat}{w w':World}(h:iP x y w w')(j:Nat):w'.cell? ⟨x,j,none⟩=w.cell? ⟨x,j,none⟩:=fV (a:=⟨x,j,none⟩) h.1
theorem iP.vG{x y:Nat}{w w':World}(h:iP x y w w')(j:Nat):w'.cell? ⟨y,j,none⟩=w.cell? ⟨y,j,none⟩:=fV (a:=⟨y,j,none⟩) h.2
theorem MH {w:World}{x y:Nat}(hx:x<w.heap.size)(hy:y<w.heap.size)(W:World)(l:Nat)(o o':Obj)(hl:w.heap.size≤l)(h:W.heap[l]? = some o)(_:o.isCells=false)(_:o.isWalk=false):iP x y W (W.putObj l o'):=by
 have hlt:=(dO.1 h).1;have hg:=grownBy_putObj' W l o';exact⟨hg.block x (by omega) (fun e=>by have:=dU e;omega),hg.block y (by omega) (fun e=>by have:=dU e;omega)⟩
end Go.Proofs.YtaobhjliflomaaaGreatDoor
namespace Go.Proofs.YtaobhjliflomaaaGreatDoor
open Go.RowKit Go.Shelf
attribute [local go_sem] Oper.semAt_some
def Hq(W:World)(A:Option Addr)(b po:Nat)(xs:List bu):Prop:=∀(m:Nat)(x:bu),xs[m]? = some x→A=some ⟨b,po,none⟩∧∀(j:Nat)(u:Value),(gI x).toList[j]? = some u→W.cell? ⟨b,po+(m*6+j),none⟩=some u
theorem Xo (F:Fence)(n:Nat)(h7:F.fn 105)(hro:F.round=none)(hn:1≤n)(l Bs b po cap:Nat)(A:Option Addr)(xs:List bu)(hlen:xs.length≤1000000)(J Jx:List (Nat × bu)→World→Prop)
 (hY:∀pre x W,J pre W→pre.length<xs.length→YieldAt F (n - 1) Tryz.prog l #[.int .i64 (x.1:Int),.agg (gI x.2)] W fun e W' =>
   (e = .returned (.bool true)∧J (pre++[x]) W'∧iP Bs b W W')∨(e = .returned (.bool false)∧Jx (pre++[x]) W'))
 (W:World) (qi:W.cell? ⟨Bs,0,none⟩=some (.slice A xs.length cap)) (hc:Hq W A b po xs) (h0:J [] W) :
 CallsIn F n Tryz.prog 105 #[.func (.yield l) #[] #[],.pointer (some ⟨Bs,0,none⟩)] W fun e W'=>(∃v,e = .returned v) ∧
  ((∃ys,ys=r9 xs 0∧J ys W')∨(∃pre,True∧Jx pre W')):=by
 obtain⟨L,hL⟩:∃L,xs.length=L:=⟨_,rfl⟩;have HL:=ae hL;rw[hL]at hlen qi;refine callsIn_of_wp Tryz.func105 rfl h7 ?_ hro;simp only[Tryz.ntmps105,List.size_toArray,aO,dI,Nat.reduceAdd,Nat.reduceSub,Array.replicate_succ,Array.replicate_zero,List.push_toArray,List.append_toArray,gL,cu];gi_wp2
 gi_loopw [3] (fun i wr=>∃q:Nat,q≤L∧i = .int .i64 ((q:Int) - 1)∧J (r9 xs q) wr∧iP Bs b W wr)
  (fun i _=>(intOf i+1).toNat)
 case atStart=>exact⟨L,ah _,rfl,by rw[← hL,XP];exact h0,iP.refl _ _ _⟩
 case round =>
  obtain⟨q,hq,rfl,hJs,hnx⟩:=hrel;have PE:=(hnx.JD 0).trans qi;cases q with
  | zero =>
    gi_wp2
    go_end0;exact⟨⟨_,rfl⟩,.inl ⟨_,rfl,hJs⟩⟩
  | succ m =>
    obtain⟨p,hp⟩:∃p,xs[m]? = some p:=⟨_,dm (by omega)⟩;obtain⟨hA,c0⟩:=hc m p hp;have d0:wr.cell? ⟨b,po+m*6,none⟩=some (.string p.s.sh):=(hnx.vG (po+m*6)).trans (c0 0 _ rfl);have d1:wr.cell? ⟨b,po+m*6+1,none⟩=some p.rv:=(hnx.vG (po+m*6+1)).trans (c0 1 _ rfl);have d2:wr.cell? ⟨b,po+m*6+2,none⟩=some (.int .i64 p.s.rn):=(hnx.vG (po+m*6+2)).trans (c0 2 _ rfl);have d3:wr.cell? ⟨b,po+m*6+3,none⟩=some p.cv:=(hnx.vG (po+m*6+3)).trans (c0 3 _ rfl);have d4:wr.cell? ⟨b,po+m*6+4,none⟩=some (.int .i64 p.s.cn):=(hnx.vG (po+m*6+4)).trans (c0 4 _ rfl);have d5:wr.cell? ⟨b,po+m*6+5,none⟩=some (.bool p.s.gone):=(hnx.vG (po+m*6+5)).trans (c0 5 _ rfl);have hst:=XT xs m p hp;obtain⟨fn,tmps,assign,body,hy,hR⟩:=hY _ (m,p) wr hJs (by rw[XQ];omega);rw[← hst]at hR;dsimp only[gI]at hy;have hm1:((m+1:Nat):Int) - 1=(m:Int):=by omega
    rw[hm1];have Qe:(m:Int)<(L:Int):=by omega
    have hm0:(0:Int)≤(m:Int):=by omega
    clear hm1 c0 hc hJs hst;subst hA;gi_wp2
    refine hR.mono ?_;rintro e W3 (⟨rfl,hJ3,hk3⟩|⟨rfl,CV⟩)
    · gi_wp2
      go_roundw
      case rel=>exact⟨m,by omega,by simp,hJ3,hnx.trans hk3⟩
      case measure=>simp[intOf]
    · gi_wp2
      refine bodyPost_ret (results_none rfl _ _ _) rfl ?_;exact⟨⟨_,rfl⟩,.inr ⟨_,trivial,CV⟩⟩
theorem Xt (F:Fence)(n:Nat)(h5:F.fn 69)(hro:F.round=none)(a:Option Addr)(len cap:Nat)(w:World) :
 CallsIn F n Tryz.prog 69 #[.slice a len cap] w fun e w'=>e = .returned (.func (.func 105) #[] #[.pointer (some ⟨w.heap.size,0,none⟩)])∧w.alloc (.cells #[.slice a len cap] 34)=w':=by
 refine callsIn_of_wp Tryz.func69 rfl h5 ?_ hro;simp only[Tryz.ntmps69,List.size_toArray,aO,dI,Nat.reduceAdd,Nat.reduceSub,Array.replicate_succ,Array.replicate_zero,List.push_toArray,List.append_toArray,gL,cu];gi_wp2
 go_ret;exact⟨rfl,rfl⟩
theorem Xp (F:Fence)(n:Nat)(h7:F.fn 105)(hro:F.round=none)(hn:1≤n)(Bs b po cap:Nat)(A:Option Addr)(xs:List bu)(hlen:xs.length≤1000000)(w:World)(hB:Bs<w.heap.size)(hb:b<w.heap.size)
 (qi:w.cell? ⟨Bs,0,none⟩=some (.slice A xs.length cap)) (hc:Hq w A b po xs) :
 SeqStopsK F n Tryz.prog 105 #[.pointer (some ⟨Bs,0,none⟩)] (fun x:Nat × bu=>#[Value.int .i64 (x.1:Int),.agg (gI x.2)]) (iP Bs b) (fun ys=>ys=r9 xs 0) (fun _=>True) xs.length w:=fun l J Jx W hW _ _ hY h0 =>
 Xo F n h7 hro hn l Bs b po cap A xs hlen J Jx hY W ((hW.cell hB).trans qi) (fun m x hx=>⟨(hc m x hx).1,fun j u hu=>(hW.cell (p:=⟨b,_,none⟩) hb).trans ((hc m x hx).2 j u hu)⟩) h0
end Go.Proofs.YtaobhjliflomaaaGreatDoor
namespace Go.Proofs.YtaobhjliflomaaaGreatDoor
open Go.RowKit Go.Shelf
attribute [local go_sem] Oper.semAt_some
theorem ahG {F:Fence}{nF:Nat}{P:Program}{w:World}{ops:Array Oper}{rest:List Oper}{o:Oper}{a:Act}{Q:Exit→Act→World→Prop}(hg:o.guard=none)(m x v:Operand)(t:TypeId)(hop:o.op=Op.mapUpdate t m x v)
 (k e:TypeId) (ht:P.underlying t=some (.map k e)) (hk:P.underlying k=some .string) (b:Nat) (f:ByteArray→Option Value) (hm:a.eval m = .map (some b)) (gW:iO w b f) (key:ByteArray) (val:Value) (hx:a.eval x = .string key) (hv:a.eval v=val) (hks:key.size≤maxLen)
 (hK:∀w',iO w' b (yz f key val)→w'.heap.size=w.heap.size→w.grownBy w' (some b)→wpListIn F nF P ops Q rest (a.put o.dst undef) w'):wpListIn F nF P ops Q (o :: rest) a w:=by
 refine wpListIn_plain hg fun K' hK' => ?_
 obtain⟨w',qo,r1,r2,r3⟩:=gW.put ht hk key hks val;unfold Oper.wpIn;refine⟨by simp[Oper.about,hop], ?_⟩;rw[Oper.semAt_plain F _ _ (by rw[hop];intro c hc';cases hc')];simp[execOp,hop,hm,hx,hv,qo,Result.andThen];exact hK' _ _ (hK w' r1 r2 r3)
theorem aa0(B:Nat)(W:World)(o:Obj):KeepsFrom B W (W.alloc o):=⟨by simp,fun k o' _ hk _=>(Below.heap_alloc _ _ _ (dO.1 hk).1).trans hk⟩
theorem ahk(x y:Nat)(W:World)(o:Obj)(hx:x<W.heap.size)(hy:y<W.heap.size):iP x y W (W.alloc o):=⟨Below.heap_alloc _ _ _ hx,Below.heap_alloc _ _ _ hy⟩
def jW(w:World)(b:Nat)(x:bu):Prop:=w.heap[b]? = some (.cells (gI x) 33)
theorem jW.new(w:World)(x:bu):jW (w.alloc (.cells (gI x) 33)) w.heap.size x:=(ko w _).1
theorem jW.lt{w:World}{b:Nat}{x:bu}(h:jW w b x):b<w.heap.size:=(dO.1 h).1
theorem jW.keep{w w':World}{b:Nat}{x:bu}(h:jW w b x)(hk:w'.heap[b]? = w.heap[b]?):jW w' b x:=by unfold jW;rw[hk];exact h
theorem jW.cells {w:World}{b:Nat}{x:bu}(h:jW w b x):w.cell? ⟨b,0,none⟩=some (.string x.s.sh)∧w.cell? ⟨b,1,none⟩=some x.rv∧w.cell? ⟨b,2,none⟩=some (.int .i64 x.s.rn)∧w.cell? ⟨b,3,none⟩=some x.cv∧w.cell? ⟨b,4,none⟩=some (.int .i64 x.s.cn)∧w.cell? ⟨b,5,none⟩=some (.bool x.s.gone) :=
 ⟨cell_of_row w b 0 _ _ _ h,cell_of_row w b 1 _ _ _ h,cell_of_row w b 2 _ _ _ h,cell_of_row w b 3 _ _ _ h,cell_of_row w b 4 _ _ _ h,cell_of_row w b 5 _ _ _ h⟩
def Jm (w:World)(own:ByteArray)(z mb Ed zs:Nat)(sv:Value)(pre:List (Nat × bu))(W:World):Prop :=
 iO W mb (qC (pre.map (·.2)).reverse)∧W.heap[z]? = some (.cells #[.string ⟨#[]⟩,.map none] 96)∧W.heap[Ed]? = some (.cells #[.string own,.map (some mb)] 96)∧Boxed W zs 34 sv∧Below w.heap.size w W
theorem R3 {w:World}{own:ByteArray}{z mb Ed zs:Nat}{sv:Value}{B:Nat}(h1:z<B)(h2:mb<B)(h3:Ed<B)(h4:zs<B)(h5:w.heap.size≤B):OwnFrom B (Jm w own z mb Ed zs sv):=by
 rintro pre X Y row ⟨k1,k2,k3,k4,k5⟩ hg hr;have hk:∀k,k<B→k<X.heap.size→Y.heap[k]? = X.heap[k]? := fun k hk hx=>hg.block k hx fun e=>by have:=(hr k e.symm).1;omega
 have hz:=(dO.1 k2).1;have hzm:=(dO.1 k3).1;refine⟨k1.keep (hk mb h2 k1.lt),(hk z h1 hz).trans k2,(hk Ed h3 hzm).trans k3,(hk zs h4 k4.lt).trans k4,⟨hg.os.trans k5.os,hg.tape.trans k5.tape,hg.output.trans k5.output,bF k5.size hg.size,fun k Qb=>(hk k (by omega) (dY Qb k5.size)).trans (k5.block k Qb)⟩⟩
theorem acx:(Tryz.prog.info? 96).map (·.size)=some 2:=by kernel_rfl
theorem aeK:Tryz.f44.results=#[.cell 4 96]:=by kernel_rfl
theorem acw (w:World)(own:ByteArray)(A:Option Addr)(n cap:Nat)(xs:List bu)(h:mW w w.heap.size (.slice A n cap) xs)(hn:n≤1000000) :
 Calls Tryz.prog 44 #[.string own,.slice A n cap] w fun e w'=>∃mb,e = .returned (.agg #[.string own,.map (some mb)])∧w.heap.size≤mb∧iO w' mb (qC xs)∧Below w.heap.size w w':=by
 have hl:=h.1.len.1;subst hl;have HX:=ae h;have hmm:=@run_makeMap Tryz.prog;clear h;refine(callsIn_wide (n:=6)).1 ?_;refine callsIn_of_wp_marks Tryz.func44 rfl trivial ?_ rfl;simp only[Tryz.ntmps44,List.size_toArray,aO,dI,Nat.reduceAdd,Nat.reduceSub,Array.replicate_succ,Array.replicate_zero,List.push_toArray,List.append_toArray,gL,cu]
 gi_wp2_with (refine⟨trivial, ?_⟩;gi_at_call 69;refine(Xt Fence.wide _ trivial rfl _ _ _ _).mono ?_;rintro e w' ⟨rfl,rfl⟩)
 obtain⟨z,hz⟩:∃z,w.heap.size=z:=⟨_,rfl⟩;obtain⟨w6,oF⟩:∃w6,((((w.alloc (Obj.cells #[Value.string { data:=#[] },Value.map none] 96)).alloc (Obj.map #[] 0)).alloc (Obj.cells #[Value.string own,Value.map (some (w.heap.size+1))] 96)).alloc (Obj.cells #[Value.slice A xs.length cap] 34))=w6:=⟨_,rfl⟩;have gG:Below w.heap.size w w6:=by rw[← oF];exact((((ai _ w).alloc (ah _) _).alloc (by simp) _).alloc (by simp;omega) _).alloc (by simp;omega) _
 have hs6:w6.heap.size=w.heap.size+4:=by rw[← oF];simp
 have Pz:w6.heap[w.heap.size]? = some (.cells #[.string ⟨#[]⟩,.map none] 96):=by
  rw[← oF];exact((Below.heap_alloc _ _ _ (by simp;omega)).trans ((Below.heap_alloc _ _ _ (by simp;omega)).trans (Below.heap_alloc _ _ _ (by simp)))).trans (ko w _).1
 have x9:iO w6 (w.heap.size+1) (fun _=>none):=by
  have h:=iO.made (w.alloc (Obj.cells #[Value.string { data:=#[] },Value.map none] 96));rw[kK]at h;refine h.keep ?_;rw[← oF];exact(Below.heap_alloc _ _ _ (by simp)).trans (Below.heap_alloc _ _ _ (by simp))
 have PD:w6.heap[w.heap.size+2]? = some (.cells #[.string own,.map (some (w.heap.size+1))] 96):=by
  rw[← oF];refine(Below.heap_alloc _ _ _ (by simp)).trans ?_;have h:=(ko ((w.alloc (Obj.cells #[Value.string { data:=#[] },Value.map none] 96)).alloc (Obj.map #[] 0)) (Obj.cells #[Value.string own,Value.map (some (w.heap.size+1))] 96)).1
  simpa using h
 have h63:Boxed w6 (w.heap.size+3) 34 (.slice A xs.length cap):=by
  rw[← oF];have h:=Boxed.new ((((w.alloc (Obj.cells #[Value.string { data:=#[] },Value.map none] 96)).alloc (Obj.map #[] 0)).alloc (Obj.cells #[Value.string own,Value.map (some (w.heap.size+1))] 96))) 34 (.slice A xs.length cap)
  simpa using h
 obtain ⟨pb,po,hpb,hpz,hcl⟩:∃pb po,pb<w6.heap.size∧(pb<z∨pb=z+3)∧Hq w6 A pb po xs:=by
  by_cases h0:xs=[]
  · exact⟨z+3,0,by omega,.inr rfl,fun m x hx=>by rw[h0]at hx;cases hx⟩
  · obtain⟨x0,hx0⟩:∃x0,xs[0]? = some x0:=⟨_,dm (List.length_pos_iff.2 h0)⟩
    obtain⟨pb,po,hA,hp,_⟩:=fQ.at HX.o.1 hx0;refine⟨pb,po,by omega,.inl (by omega),fun m x hx=>⟨hA,fun j u hu => ?_⟩⟩;obtain⟨pb',po',hA',hp',hc⟩:=fQ.at HX.o.1 hx;rw[hA]at hA';injection hA' with e;injection e with e1 e2;subst e1;subst e2;exact(gG.cell (p:=⟨pb,_,none⟩) hp').trans (hc j u hu)
 rw[oF];rw[hz]at hs6 Pz x9 PD h63 ⊢;have nU:=ae gG;have zD:∀ {pre:List (Nat × bu)}{W:World},Jm w own z (z+1) (z+2) (z+3) (.slice A xs.length cap) pre W→w6.heap.size≤W.heap.size:=fun h=>by have:=h.2.2.2.1.lt;omega
 clear oF gG hmm;rw[show z+1+1=z+2 from rfl,show z+2+1=z+3 from rfl]
 refine wpIn_rangeFunc_ownH (F:=Fence.wide) (n:=6) rfl (by omega) (gf:=105) (lb:=#[.pointer (some ⟨z+3,0,none⟩)]) rfl trivial (enters_of Tryz.func105 (by kernel_rfl) rfl)
  (Xp Fence.wide 5 trivial rfl (by omega) (z+3) pb po cap A xs hn w6 h63.lt hpb h63.cell hcl)
  iP.trans (MH h63.lt hpb) (ai _ _) (fun _=>rfl)
  (Jm w own z (z+1) (z+2) (z+3) (.slice A xs.length cap)) (fun _ _ _=>False)
  (R3 (by omega) (by omega) (by omega) (by omega) (by omega)) (fun _ _ _ _ _ hs _ _=>hs) ⟨x9,Pz,PD,h63,nU.o⟩
  (fun y a' W=>∃p,w6.heap.size≤p∧jW W p y.2∧a'={ tmps:=#[.string own,.slice A xs.length cap,undef,undef,.pointer (some ⟨z,0,none⟩),.pointer (some ⟨z+2,0,none⟩),undef,.pointer (some ⟨p,0,none⟩),.string own,.map (some (z+1)),.agg #[.string own,.map (some (z+1))],.slice A xs.length cap,.func (.func 105) #[] #[.pointer (some ⟨z+3,0,none⟩)],.int .i64 (y.1:Int),.agg (gI y.2),undef,undef,undef,undef,undef,undef],defers:=[] })
  ?stay ?assign ?body ?done ?stop
 case stay =>
  rintro x a' s W W' row ⟨p,h1,h2,h3⟩ hg hr;refine⟨p,h1,h2.keep (hg.block p h2.lt fun e => ?_),h3⟩;obtain⟨_,o,ho,hc⟩:=hr p e.symm;have h2':W.heap[p]? = some (.cells (gI x.2) 33):=h2;rw[h2']at ho;cases ho;cases hc
 case assign =>
  rintro l pre ⟨j,x⟩ W K hI hK;have hkW:=hI.2.2.2.2.size;have oD:w6.heap.size≤W.heap.size:=zD hI;have hx3:z+3<W.heap.size:=by omega
  have hsh : .agg (gI x)=(Value.agg #[.string x.s.sh,.slice x.ra x.s.rx.length x.rc,.int .i64 x.s.rn,.slice x.ca x.s.cx.length x.cc,.int .i64 x.s.cn,.bool x.s.gone]):=rfl;dsimp only;rw[hsh];gi_wp2
  refine hK _ _ (aa0 _ _ _) (ahk _ _ _ _ hx3 (by omega)) ?_ ⟨W.heap.size,oD,jW.new W x,rfl⟩;exact R3 (B:=W.heap.size) (by omega) (by omega) (by omega) (by omega) hkW pre W _ none hI ⟨rfl,rfl,rfl,by simp,fun k hk _=>Below.heap_alloc _ _ _ hk⟩ (fun r e=>by cases e)
 case body =>
  rintro l pre ⟨j,x⟩ a' W - - ⟨hM,h0,h2,h3,hb⟩ ⟨p,Bi,hat,rfl⟩ hlen;obtain⟨y0,y1,y2,y3,y4,fq⟩:=hat.cells;have m1:W.cell? ⟨z+2,1,none⟩=some (.map (some (z+1))):=cell_of_row W (z+2) 1 _ _ _ h2;have HM:=ae hM;have hks:x.s.sh.size≤maxLen:=x.z;dsimp only[bu.rv,bu.cv]at y1 y3;dsimp only
  gi_wp2_with (refine ahG rfl (.tmp 16) (.tmp 18) (.tmp 19) 94 rfl 9 33 Tryz.underlying94 Tryz.underlying9 (z+1) _ rfl HM.o x.s.sh (.agg (gI x)) rfl rfl hks ?_;intro W2 k1 k2 k3)
  have hmb:z+1<W.heap.size:=by have:=zD ⟨hM,h0,h2,h3,hb⟩;omega
  have aal:pb≠z+1:=by omega
  have hkk:∀k,k<W.heap.size→k≠z+1→W2.heap[k]? = W.heap[k]? := fun k h1 h2=>k3.block k h1 (fun e=>h2 (dU e))
  have aak:pb<W.heap.size:=by have:=zD ⟨hM,h0,h2,h3,hb⟩;omega
  refine ⟨⟨by omega,fun k o h1 h2 _=>(hkk k (dO.1 h2).1 (by omega)).trans h2⟩,⟨hkk _ h3.lt (by omega),hkk _ aak aal⟩, ?_,(hkk _ (by omega) (by omega)).trans h0,(hkk _ (dO.1 h2).1 (by omega)).trans h2,(hkk _ h3.lt (by omega)).trans h3,
   ⟨k3.os.trans hb.os,k3.tape.trans hb.tape,k3.output.trans hb.output,bF hb.size (by omega),fun k hk=>(hkk k (dY hk hb.size) (by omega)).trans (hb.block k hk)⟩⟩
  rw[iy,List.reverse_append];show iO W2 (z+1) (qC (x :: (List.map (fun x=>x.snd) pre).reverse));rw[aca];exact k1
 case done =>
  rintro D ys W hD rfl ⟨hM,h0,h2,h3,hb⟩ hK;rw[XR]at hM;have m0:W.cell? ⟨z+2,0,none⟩=some (.string own):=cell_of_row W (z+2) 0 _ _ _ h2;have m1:W.cell? ⟨z+2,1,none⟩=some (.map (some (z+1))):=cell_of_row W (z+2) 1 _ _ _ h2;have g0:W.cell? ⟨z,0,none⟩=some (.string ⟨#[]⟩):=cell_of_row W z 0 _ _ _ h0;have g1:W.cell? ⟨z,1,none⟩=some (.map none):=cell_of_row W z 1 _ _ _ h0;have f0:=frozen_of_row W z 0 _ _ h0;have f1:=frozen_of_row W z 1 _ _ h0;gi_wp2
  obtain⟨Wf,hWf⟩:∃Wf,(W.setCell { block:=z,off:=0 } (Value.string own)).setCell { block:=z,off:=1 } (Value.map (some (z+1)))=Wf:=⟨_,rfl⟩;rw[hWf];have Qa:∀k,k≠z→Wf.heap[k]? = W.heap[k]? := fun k hk=>by rw[← hWf];exact(fO _ _ _ _ hk).trans (fO _ _ _ _ hk)
  have QI:Wf.heap[z]? = some (.cells #[.string own,.map (some (z+1))] 96):=by
   rw[← hWf,heap_setCell_same _ z 1 _ _ _ (heap_setCell_same W z 0 _ _ _ h0)];rfl
  have hbf:Below w.heap.size w Wf:=by rw[← hWf];exact(hb.setCell (by show w.heap.size≤z;omega) _).setCell (by show w.heap.size≤z;omega) _
  have hKf:Wf.heap[D]? = some (.deferred (some [])):=(Qa D (by omega)).trans hK;refine⟨by simp,.inl ⟨_,_,rfl,run_takeDeferred hKf, ?_⟩⟩;have hg:=grownBy_putObj' Wf D (.deferred none);have Ki:∀k,k<Wf.heap.size→k≠D→(Wf.putObj D (.deferred none)).heap[k]? = Wf.heap[k]? := fun k h1 h2=>hg.block k h1 (fun e=>h2 (dU e))
  have hzl:=(dO.1 QI).1;have rz:=(hM.keep (Qa (z+1) (by omega)));refine⟨_,results_cell_row aeK _ _ z _ _ _ _ rfl ((Ki z hzl (by omega)).trans QI) Tryz.underlying96 rfl acx,z+1,rfl,by omega,rz.keep (Ki (z+1) rz.lt (by omega)),⟨hg.os.trans hbf.os,hg.tape.trans hbf.tape,hg.output.trans hbf.output,bF hbf.size hg.size,fun k hk=>(Ki k (dY hk hbf.size) (by omega)).trans (hbf.block k hk)⟩⟩
 case stop =>
  rintro D c pre W _ _ h _;exact h.elim
end Go.Proofs.YtaobhjliflomaaaGreatDoor
namespace Go.Proofs.YtaobhjliflomaaaGreatDoor
open Go.RowKit
theorem BO {s:ByteArray}{ts:List ag}(h:au s ts=true):ts.tail.length+1=ts.length:=by
 cases ts with
 | nil=>unfold au at h;cases h
 | cons t l=>rfl
theorem adl {n:Nat}{ts:List ag}(h:eH n ts≠0):ts.tail.length+1=ts.length:=by
 obtain⟨p,_,h1,_⟩:=Dx h;exact BO h1
theorem O1 : ∀f:Nat,(∀n deep base ts ns a r,dX f n deep base ts=some (.ok (ns,a,r))→ns.length+r.length≤ts.length) ∧
 (∀n deep base ns a ts ns' a' r,gZ f n deep base ns a ts=some (.ok (ns',a',r))→ns'.length+r.length≤ns.length+ts.length) ∧
 (∀deep base ts ns a r,iU f deep base ts=some (.ok (ns,a,r))→ns.length+r.length≤ts.length) ∧
 (∀deep base ns ks ts ns' ks' r,gB f deep base ns ks ts=some (.ok (ns',ks',r))→ns'.length+r.length≤ns.length+ts.length)
 | 0=>by
   refine⟨?_, ?_, ?_, ?_⟩
   · intro n deep base ts ns a r h;unfold dX at h;cases h
   · intro n deep base ns a ts ns' a' r h;unfold gZ at h;cases h
   · intro deep base ts ns a r h;unfold iU at h;cases h
   · intro deep base ns ks ts ns' ks' r h;unfold gB at h;cases h
 | f + 1 => by
   obtain⟨i1,i2,i3,i4⟩:=O1 f;refine⟨?_, ?_, ?_, ?_⟩
   · intro n deep base ts ns a r h
     rw[kR]at h;by_cases hn:n≤3
     · rw [if_pos hn]at h
       rcases dP h with ⟨e,_,h2⟩|⟨ms,b,s,h1,h2⟩
       · cases h2
       · have:=i1 _ _ _ _ _ _ _ h1
         have:=i2 _ _ _ _ _ _ _ _ _ h2;omega
     · rw [if_neg hn]at h
       by_cases c:au ⟨#[45]⟩ ts=true
       · rw [if_pos c]at h
         have htl:=BO c;by_cases d:12≤deep
         · rw[if_pos d]at h;injection h with h;cases h
         · rw [if_neg d]at h
           rcases dP h with ⟨e,_,h2⟩|⟨ms,b,s,h1,h2⟩
           · cases h2
           · have:=i1 _ _ _ _ _ _ _ h1
             injection h2 with h2;injection h2 with h2;injection h2 with h3 h4;injection h4 with h4 h5;subst h3;subst h5;rw[ak,fK];omega
       · rw[if_neg c]at h;exact i3 _ _ _ _ _ _ h
   · intro n deep base ns a ts ns' a' r h
     rw[pG]at h;by_cases c:eH n ts=0
     · rw[if_pos c]at h
       injection h with h;injection h with h;injection h with h3 h4;injection h4 with h4 h5;subst h3;subst h5;exact ah _
     · rw [if_neg c]at h
       have htl:=adl c;rcases dP h with ⟨e,_,h2⟩|⟨ms,b,s,h1,h2⟩
       · cases h2
       · have:=i1 _ _ _ _ _ _ _ h1
         have:=i2 _ _ _ _ _ _ _ _ _ h2;rw[ak,ak,fK]at this;omega
   · intro deep base ts ns a r h
     cases ts with
     | nil=>rw[yx]at h;injection h with h;cases h
     | cons t ts =>
       rw[kZ]at h;by_cases c:au ⟨#[40]⟩ (t :: ts)=true
       · rw [if_pos c]at h
         by_cases d:12≤deep
         · rw[if_pos d]at h;injection h with h;cases h
         · rw [if_neg d]at h
           rcases dP h with ⟨e,_,h2⟩|⟨ms,b,s,h1,h2⟩
           · cases h2
           · have:=i1 _ _ _ _ _ _ _ h1
             by_cases g:au ⟨#[41]⟩ s=true
             · rw[if_pos g]at h2
               injection h2 with h2;injection h2 with h2;injection h2 with h3 h4;injection h4 with h4 h5;subst h3;subst h5;have:=BO g;rw[aO];omega
             · rw[if_neg g]at h2;injection h2 with h2;cases h2
       · rw [if_neg c]at h
         by_cases k1:t.kind=1
         · rw[if_pos k1]at h;injection h with h;injection h with h;injection h with h3 h4;injection h4 with h4 h5;subst h3;subst h5;simp only[aO,dI];omega
         rw[if_neg k1]at h;by_cases k2:t.kind=2
         · rw[if_pos k2]at h;injection h with h;injection h with h;injection h with h3 h4;injection h4 with h4 h5;subst h3;subst h5;simp only[aO,dI];omega
         rw[if_neg k2]at h;by_cases k6:t.kind=6
         · rw[if_pos k6]at h;injection h with h;injection h with h;injection h with h3 h4;injection h4 with h4 h5;subst h3;subst h5;simp only[aO,dI];omega
         rw[if_neg k6]at h;by_cases k4:t.kind=4
         · rw[if_pos k4]at h;injection h with h
           obtain⟨s1,s2,_⟩:=Tk h;have:=s1.len;rw[aO,s2];omega
         rw[if_neg k4]at h;by_cases k3:t.kind=3
         · rw [if_pos k3]at h
           by_cases w1:t.text=⟨#[84,82,85,69]⟩
           · rw[if_pos w1]at h;injection h with h;injection h with h;injection h with h3 h4;injection h4 with h4 h5;subst h3;subst h5;simp only[aO,dI];omega
           rw[if_neg w1]at h;by_cases w2:t.text=⟨#[70,65,76,83,69]⟩
           · rw[if_pos w2]at h;injection h with h;injection h with h;injection h with h3 h4;injection h4 with h4 h5;subst h3;subst h5;simp only[aO,dI];omega
           rw[if_neg w2]at h;by_cases w3:au ⟨#[40]⟩ ts=true
           · rw [if_pos w3]at h
             have htl:=BO w3;by_cases d:12≤deep
             · rw[if_pos d]at h;injection h with h;cases h
             rw[if_neg d]at h;rcases dP h with ⟨e,_,h2⟩|⟨ms,ks,s,h1,h2⟩
             · cases h2
             · have hms:ms.length+s.length≤ts.tail.length:=by
                by_cases g:au ⟨#[41]⟩ ts.tail=true
                · rw[if_pos g]at h1
                  injection h1 with h1;injection h1 with h1;injection h1 with h3 h4;injection h4 with h4 h5;subst h3;subst h5;simp
                · rw[if_neg g]at h1
                  have:=i4 _ _ _ _ _ _ _ _ h1
                  simpa using this
               by_cases g:au ⟨#[41]⟩ s=true
               · rw[if_pos g]at h2
                 injection h2 with h2;injection h2 with h2;injection h2 with h3 h4;injection h4 with h4 h5;subst h3;subst h5;have:=BO g;rw[ak,fK,aO];omega
               · rw[if_neg g]at h2;injection h2 with h2;cases h2
           · rw[if_neg w3]at h;injection h with h;cases h
         · rw[if_neg k3]at h;injection h with h;cases h
   · intro deep base ns ks ts ns' ks' r h
     rw[oo]at h;rcases dP h with ⟨e,_,h2⟩|⟨ms,b,s,h1,h2⟩
     · cases h2
     · have h3:=i1 _ _ _ _ _ _ _ h1
       by_cases d:au ⟨#[44]⟩ s=true
       · rw[if_pos d]at h2
         have:=BO d;have:=i4 _ _ _ _ _ _ _ _ h2;rw[ak]at this;omega
       · rw[if_neg d]at h2
         injection h2 with h2;injection h2 with h2;injection h2 with h3 h4;injection h4 with h4 h5;subst h3;subst h5;rw[ak];omega
theorem BD:∀(n:Nat)(l t:List Int)(k:Nat),l.length≤n→Bytes l→dS l=some (t,k)→Bytes t∧∀x∈t,¬ x<32
 | _,[],_,_,_,_,h=>by simp[dS]at h
 | 0,_ :: _,_,_,hn,_,_=>by simp at hn
 | n + 1, x :: l,t,k,hn,hb,h=>by
   have hbl:Bytes l:=fun y hy=>hb y (by simp[hy])
   rw[sU]at h;by_cases h1:x<32
   · rw[if_pos h1]at h;cases h
   · rw [if_neg h1]at h
     by_cases h2:x≠34
     · rw [if_pos h2]at h
       cases hq:dS l with
       | none=>rw[hq]at h;cases h
       | some q =>
         rw[hq]at h;simp only[Option.map_some,bA,bg]at h;obtain⟨g1,g2⟩:=BD n l q.1 q.2 (by simp at hn;omega) hbl hq;rw[← h.1];refine⟨?_, ?_⟩
         · intro y hy
           rcases List.mem_cons.1 hy with rfl|hy
           · exact hb _ (by simp)
           · exact g1 y hy
         · intro y hy
           rcases List.mem_cons.1 hy with rfl|hy
           · exact h1
           · exact g2 y hy
     · rw [if_neg h2]at h
       cases l with
       | nil=>simp at h;rw[h.1];exact⟨Bytes.nil,by simp⟩
       | cons y m =>
         by_cases hy:y=34
         · simp only [hy,if_true]at h
           cases hq:dS m with
           | none=>rw[hq]at h;cases h
           | some q =>
             rw[hq]at h;simp only[Option.map_some,bA,bg]at h;obtain⟨g1,g2⟩:=BD n m q.1 q.2 (by simp at hn;omega) (fun z hz=>hbl z (by simp[hz])) hq;rw[← h.1];refine⟨?_, ?_⟩
             · intro z hz
               rcases List.mem_cons.1 hz with rfl|hz
               · omega
               · exact g1 z hz
             · intro z hz
               rcases List.mem_cons.1 hz with rfl|hz
               · omega
               · exact g2 z hz
         · simp only[hy,if_false,bA,bg]at h
           rw[← h.1];exact⟨Bytes.nil,by simp⟩
theorem Bytes.span{l:List Int}(h:Bytes l)(p:Int→Bool):Bytes (l.takeWhile p):=fun x hx=>h x ((List.takeWhile_prefix p).subset hx)
theorem UJ (l:List Int)(t:ag)(n p:Nat)(hb:Bytes l)(h:eO l=some (t,n)):M3 (t.goto p)∧t.kind≠0:=by
 cases l with
 | nil=>simp[eO]at h
 | cons x l =>
   rw[qJ]at h;by_cases h1:isNum x=true
   · rw [if_pos h1]at h
     unfold kF at h;split at h
     · cases h
     · simp only[bA,bg]at h
       rw[← h.1];have hv:=Au ((x :: l).takeWhile isNum) [] (tC isNum _) (by decide);rw[gL]at hv;exact⟨⟨fun _=>hv,fun h=>by simp[ag.goto]at h,fun h=>by simp[ag.goto]at h,fun h=>by simp[ag.goto]at h⟩,by simp⟩
   · rw [if_neg h1]at h
     by_cases h2:x=34
     · rw [if_pos h2]at h
       unfold kG at h;cases hq:dS l with
       | none=>rw[hq]at h;cases h
       | some q =>
         rw[hq]at h;simp only[Option.map_some,bA,bg]at h;obtain⟨g1,g2⟩:=BD _ l q.1 q.2 (ah _) (fun y hy=>hb y (by simp[hy])) hq;rw[← h.1];refine⟨⟨fun h=>by simp[ag.goto]at h,fun _ => ?_,fun h=>by simp[ag.goto]at h,fun h=>by simp[ag.goto]at h⟩,by simp⟩;show lI (sb (strOfNums q.1))=true;rw[jd _ g1];unfold lI;exact decide_eq_true g2
     · rw [if_neg h2]at h
       by_cases h3:x=35
       · rw [if_pos h3]at h
         unfold o6 at h;split at h
         · simp only[bA,bg]at h
           rw[← h.1];exact⟨⟨fun h=>by simp[ag.goto]at h,fun h=>by simp[ag.goto]at h,fun h=>by simp[ag.goto]at h,fun h=>by simp[ag.goto]at h⟩,by simp⟩
         · cases h
       · rw [if_neg h3]at h
         by_cases h4:isLet x=true∨x=36
         · rw [if_pos h4]at h
           unfold l7 at h;cases hq:gH (strOfNums ((x :: l).takeWhile isWord))with
           | some d =>
             rw[hq]at h;simp only[bA,bg]at h;rw[← h.1];exact⟨⟨fun h=>by simp[ag.goto]at h,fun h=>by simp[ag.goto]at h,fun h=>by simp[ag.goto]at h,fun _=>(xh _ d hq).2.1⟩,by simp⟩
           | none =>
             rw[hq]at h;simp only at h;by_cases hc:jb ((x :: l).takeWhile isWord)=true
             · rw [if_pos hc]at h
               simp only[bA,bg]at h;rw[← h.1];refine⟨⟨fun h=>by simp[ag.goto]at h,fun h=>by simp[ag.goto]at h,fun _=>⟨?_, ?_⟩,fun h=>by simp[ag.goto]at h⟩,by simp⟩
               · show jb (sb (strOfNums ((x :: l).takeWhile isWord)))=true
                 rw[jd _ (hb.span isWord)];exact hc
               · show(gH (strOfNums ((x :: l).takeWhile isWord))).isNone=true
                 rw[hq];rfl
             · rw[if_neg hc]at h;cases h
         · rw [if_neg h4]at h
           unfold nS at h;split at h
           · cases h
           · simp only[bA,bg]at h
             rw[← h.1];exact⟨⟨fun h=>by simp[ag.goto]at h,fun h=>by simp[ag.goto]at h,fun h=>by simp[ag.goto]at h,fun h=>by simp[ag.goto]at h⟩,by simp⟩
def Fit(ts:List ag):Prop:=∃body e,ts=body++[e]∧e.kind=0∧∀t∈body,t.kind≠0
theorem KG:∀(f p:Nat)(l:List Int)(ts:List ag),Bytes l→eB f p l=some ts→Good ts∧Fit ts
 | f,p,[],ts,_,h=>by
   have h0:eB f p []=some [ag.zero.goto p]:=by unfold eB;rfl
   rw[h0]at h;injection h with h;subst h;refine⟨?_,[],_,rfl,rfl,by simp⟩;intro t ht;simp at ht;subst ht;exact⟨fun h=>by simp[ag.goto,ag.zero]at h,fun h=>by simp[ag.goto,ag.zero]at h,fun h=>by simp[ag.goto,ag.zero]at h,fun h=>by simp[ag.goto,ag.zero]at h⟩
 | 0,_,_ :: _,_,_,h=>by unfold eB at h;cases h
 | f + 1, p,x :: l,ts,hb,h=>by
   rw[rC]at h;by_cases hx:x=32
   · rw[if_pos hx]at h
     exact KG f (p+1) l ts (fun y hy=>hb y (by simp[hy])) h
   · rw [if_neg hx]at h
     cases hq:eO (x :: l)with
     | none=>rw[hq]at h;cases h
     | some q =>
       obtain⟨t0,n⟩:=q;obtain⟨g1,g2⟩:=UJ _ _ _ p hb hq;rw[hq]at h;simp only[Option.map_eq_some_iff]at h;obtain⟨us,h1,rfl⟩:=h;obtain⟨k1,body,e,k2,k3,k4⟩:=KG f (p+n) ((x :: l).drop n) us (fun y hy=>hb y (List.mem_of_mem_drop hy)) h1;refine⟨?_,t0.goto p :: body,e,by rw[k2];rfl,k3, ?_⟩
       · intro t ht
         rcases List.mem_cons.1 ht with rfl|ht
         · exact g1
         · exact k1 t ht
       · intro t ht
         rcases List.mem_cons.1 ht with rfl|ht
         · exact g2
         · exact k4 t ht
theorem F3(s:ByteArray)(ts:List ag)(h:fT (sb s)=some ts):Good ts∧Fit ts:=KG _ _ _ _ (fun x hx=>sV s x hx) h
theorem Yu:∀(n u:Nat),u<n→1≤u→(aQ u).head? ≠ some 48:=by
 intro n
 induction n with
 | zero=>intro u h;omega
 | succ n ih =>
   intro u hu h1;by_cases h:u<10
   · rw[ou u h];simp;omega
   · rw[sF u h]
     have:=ih (u / 10) (by omega) (by omega);cases hd:aQ (u / 10)with
     | nil=>exact absurd hd (sG _)
     | cons y l=>rw[hd]at this;simpa using this
theorem U3{x:Int}(h:aL x=true):isWord x=true:=Kz (.inl (by unfold aL at h;unfold isLet;rw[decide_eq_true_iff]at h ⊢;omega))
theorem MQ{x:Int}(h:isNum x=true):isWord x=true:=by unfold isWord;rw[h];simp
theorem ahE (c r:Int)(ac ar:Bool):∀x∈pQ c r ac ar,isWord x=true:=by
 intro x hx;unfold pQ at hx;simp only[List.mem_append]at hx;rcases hx with h|h|h|h
 · have:=wL _ x h;rw[decide_eq_true_iff]at this;subst this;decide
 · exact U3 (uJ c x h)
 · have:=wL _ x h;rw[decide_eq_true_iff]at this;subst this;decide
 · exact MQ (qy _ x h)
theorem ahB (l:List Int)(h:gX l=true):∀x∈l,isWord x=true:=by
 intro x hx;unfold gX at h;rw[dA,decide_eq_true_iff]at h;obtain⟨j,hj,rfl⟩:=List.mem_iff_getElem.1 hx;have:=h.1 j hj;rw[jG,dm hj]at this;simp only[Option.getD_some]at this;unfold ni at this;unfold isWord;rw[Bool.or_eq_true,dA]at this;rcases this with h1|⟨_,h1⟩
 · rw[h1];rfl
 · rw[h1];simp
theorem ahF (sh:List Int)(c r:Int)(ac ar:Bool)(h:di sh c r=true):∀x∈aY sh c r ac ar,isWord x=true:=by
 intro x hx;rw[Am _ _ _ _ _ h,List.mem_append]at hx;rcases hx with hx|hx
 · by_cases h0:sh=[]
   · rw[if_pos h0]at hx;simp at hx
   · rw[if_neg h0,List.mem_append]at hx
     rcases hx with hx|hx
     · exact ahB sh ((Bt h).resolve_left h0) x hx
     · simp at hx;subst hx;decide
 · exact ahE c r ac ar x hx
theorem agL (sh:List Int)(c r:Int)(ac ar:Bool)(h:di sh c r=true):∃x l,aY sh c r ac ar=x :: l∧(isLet x=true∨x=36):=by
 rw[Am _ _ _ _ _ h];obtain⟨c0,c1,_,_⟩:=F7 h;by_cases h0:sh=[]
 · rw [if_pos h0,gL]
   unfold pQ;cases ac with
   | true=>exact⟨36,_,rfl,.inr rfl⟩
   | false =>
     have yc:=uJ c;cases hc:bf c with
     | nil=>exact absurd hc (E9 c c0 c1)
     | cons y m =>
       refine⟨y,_,rfl,.inl ?_⟩;have:=yc y (by rw[hc];simp);unfold aL at this;unfold isLet;rw[decide_eq_true_iff]at this ⊢;omega
 · rw [if_neg h0]
   have hn:=(Bt h).resolve_left h0;cases sh with
   | nil=>exact absurd rfl h0
   | cons y m =>
     refine⟨y,_,rfl,.inl ?_⟩;unfold gX at hn;rw[dA,decide_eq_true_iff]at hn;have:=hn.1 0 (by simp);unfold ni at this
     simpa using this
theorem aec (s:ByteArray)(c r:Int)(ac ar:Bool)(h:di (sb s) c r=true):∃d,gH (strOfNums (aY (sb s) c r ac ar))=some d∧d.sh=s∧d.c=c∧d.r=r∧d.ac=ac∧d.ar=ar:=by
 have hb:=jd _ (zk s c r ac ar);cases hq:gH (strOfNums (aY (sb s) c r ac ar))with
 | none=>exact absurd hb.symm (BF _ hq _ _ _ _ _ h)
 | some d =>
   obtain⟨_,h2,h3⟩:=xh _ d hq;rw[hb]at h3;obtain⟨e1,e2,e3,e4,e5⟩:=UH h2 h h3;exact⟨d,rfl,TQ e1,e2,e3,e4,e5⟩
def ek:List Int→List Int
 | []=>[]
 | x :: l=>(if x=34 then [34,34]else [x])++ek l
theorem Dq (c:Int)(_h0:0≤c)(_h1:c≤255)(w:World) :
 Calls Tryz.prog 167 #[.int .u8 c] w fun e w'=>e = .returned (.bool (aL c))∧w=w':=by
 go_enter Tryz.func167,Tryz.ntmps167
 go_wp2
 all_goals go_ret
 all_goals exact⟨fD (by unfold aL;first|rfl|(symm;rw[decide_eq_true_iff];omega)|(symm;rw[decide_eq_false_iff_not];omega)|(rw[decide_eq_decide];omega)),rfl⟩
theorem Bo (c:Int)(_h0:0≤c)(_h1:c≤255)(w:World) :
 Calls Tryz.prog 154 #[.int .u8 c] w fun e w'=>e = .returned (.bool (isNum c))∧w=w':=by
 go_enter Tryz.func154,Tryz.ntmps154
 go_wp2
 all_goals go_ret
 all_goals exact⟨fD (by unfold isNum;first|rfl|(symm;rw[decide_eq_true_iff];omega)|(symm;rw[decide_eq_false_iff_not];omega)|(rw[decide_eq_decide];omega)),rfl⟩
theorem QP{c:Int}(h:aL c=true):isLet c=true:=by unfold aL at h;unfold isLet;rw[decide_eq_true_iff]at h ⊢;omega
theorem QQ{c:Int}(h:aL c=false):isLet c=decide (97≤c∧c≤122):=by unfold aL at h;unfold isLet;rw[decide_eq_false_iff_not]at h;rw[decide_eq_decide];omega
theorem Dr (c:Int)(_h0:0≤c)(_h1:c≤255)(w:World) :
 Calls Tryz.prog 153 #[.int .u8 c] w fun e w'=>e = .returned (.bool (isLet c))∧w=w':=by
 by_cases hc:aL c=true
 · have hl:=QP hc
   have HL:=ae hl;clear hl;go_enter Tryz.func153,Tryz.ntmps153;go_wp2_with (go_at_call 167;((with_reducible refine(Dq _ ?_ ?_ _).mono ?_);(first|omega|skip);(first|omega|skip);rintro e w' ⟨rfl,rfl⟩))
   all_goals go_ret
   all_goals exact⟨fD (by rw[HL.o]),rfl⟩
 · have hc':aL c=false:=by simpa using hc
   have hl:=QQ hc';have HL:=ae hl;clear hl hc;go_enter Tryz.func153,Tryz.ntmps153;go_wp2_with (go_at_call 167;((with_reducible refine(Dq _ ?_ ?_ _).mono ?_);(first|omega|skip);(first|omega|skip);rintro e w' ⟨rfl,rfl⟩))
   all_goals go_ret
   all_goals exact⟨fD (by rw[HL.o];first|rfl|(symm;rw[decide_eq_true_iff];omega)|(symm;rw[decide_eq_false_iff_not];omega)|(rw[decide_eq_decide];omega)),rfl⟩
theorem acG (s:ByteArray)(h:s.size=0):gX (sb s)=false:=by
 unfold gX;rw[aV,h,Bool.and_eq_false_iff];right;rfl
theorem acF (s:ByteArray)(h:12<s.size):gX (sb s)=false:=by
 unfold gX;rw[aV,Bool.and_eq_false_iff];right;rw[decide_eq_false_iff_not];omega
theorem Gc (s:ByteArray)(w:World)(_hs:s.size≤1000000) :
 Calls Tryz.prog 135 #[.string s] w fun e w'=>e = .returned (.bool (gX (sb s)))∧w=w':=by
 by_cases h0:s.size=0
 · have hz:=uR s h0
   have hno:=acG s h0;have dN:=ae hno;clear hno;subst hz;clear h0 _hs;go_enter Tryz.func135,Tryz.ntmps135;go_wp2_with fail
   all_goals go_ret
   all_goals exact⟨fD dN.o.symm,rfl⟩
 · have hne := rG s h0
   have vN:s.toList.isEmpty=false:=by cases hq:s.toList with|nil=>exact absurd hq hne|cons a l=>rfl
   by_cases h12:12<s.size
   · have hno:=acF s h12
     have dN:=ae hno;clear hno;have ZK:(12:Int)<(s.size:Int):=by omega
     clear h0;go_enter Tryz.func135,Tryz.ntmps135;go_wp2_with fail
     all_goals go_ret
     all_goals exact⟨fD dN.o.symm,rfl⟩
   · have ZK : ¬ (12:Int)<(s.size:Int):=by omega
     have hp0:0<s.size:=by omega
     obtain⟨a,ha⟩:∃a:Int,(s[0].toNat:Int)=a:=⟨_,rfl⟩;have ha1:0≤a∧a≤255:=by have:=s[0].toNat_lt;omega
     have hga:(sb s).getD 0 0=a:=by rw[sW s 0 hp0,ha]
     have yS:=ae hga;clear hga;by_cases hl:isLet a=true
     · have hin : ∀j,j<1→ni j ((sb s).getD j 0)=true:=by
        intro j hj;have:j=0:=by omega
        subst this;rw[yS.o];unfold ni;rw[hl];rfl
       have yU:=ae hin;clear hin;clear h0;go_enter Tryz.func135,Tryz.ntmps135;go_wp2_with (go_at_call 153;((with_reducible refine(Dr _ ?_ ?_ _).mono ?_);(first|omega|skip);(first|omega|skip);rintro e w' ⟨rfl,rfl⟩))
       clear hl
       go_loopw [3] (fun i wr=>∃k:Nat,1≤k∧k≤s.size∧i = .int .i64 k∧Hid (∀j,j<k→ni j ((sb s).getD j 0)=true)∧w=wr)
        (fun i _=>s.size - (intOf i).toNat)
       case atStart=>exact⟨1,by omega,by omega,rfl,yU,rfl⟩
       case round =>
        obtain⟨k,hk1,hk,rfl,HG,rfl⟩:=hrel;by_cases hlt:k<s.size
        · have hki:(k:Int)<(s.size:Int):=by omega
          obtain⟨b,hb⟩:∃b:Int,(s[k].toNat:Int)=b:=⟨_,rfl⟩;have hb1:0≤b∧b≤255:=by have:=s[k].toNat_lt;omega
          have hgb:(sb s).getD k 0=b:=by rw[sW s k hlt,hb]
          have wu:=ae hgb;clear hgb;by_cases hl:isLet b=true
          · go_wp2_with (first
             | (go_at_call 153;((with_reducible refine(Dr _ ?_ ?_ _).mono ?_);(first|omega|skip);(first|omega|skip);rintro e w' ⟨rfl,rfl⟩)))
            go_roundw
            case rel =>
             refine⟨k+1,by omega,by omega,by go_num,ae ?_,by trivial⟩;intro j hj;by_cases h1:j<k
             · exact HG.o j h1
             · rw[show j=k from by omega,wu.o];unfold ni;rw[hl,Bool.true_or]
            case measure=>simp[intOf];omega
          · have hl':isLet b=false:=by simpa using hl
            clear hl;by_cases hn:isNum b=true
            · go_wp2_with (first
               | (go_at_call 153;((with_reducible refine(Dr _ ?_ ?_ _).mono ?_);(first|omega|skip);(first|omega|skip);rintro e w' ⟨rfl,rfl⟩))
               | (go_at_call 154;((with_reducible refine(Bo _ ?_ ?_ _).mono ?_);(first|omega|skip);(first|omega|skip);rintro e w' ⟨rfl,rfl⟩)))
              go_roundw
              case rel =>
               refine⟨k+1,by omega,by omega,by go_num,ae ?_,by trivial⟩;intro j hj;by_cases h1:j<k
               · exact HG.o j h1
               · rw[show j=k from by omega,wu.o];unfold ni;rw[hl',hn,decide_eq_true (by omega:0<k)];rfl
              case measure=>simp[intOf];omega
            · have hn':isNum b=false:=by simpa using hn
              clear hn;have hno:=Gb s k hlt (by rw[wu.o];unfold ni;rw[hl',hn',Bool.and_false];rfl);have dN:=ae hno;clear hno
              go_wp2_with (first
               | (go_at_call 153;((with_reducible refine(Dr _ ?_ ?_ _).mono ?_);(first|omega|skip);(first|omega|skip);rintro e w' ⟨rfl,rfl⟩))
               | (go_at_call 154;((with_reducible refine(Bo _ ?_ ?_ _).mono ?_);(first|omega|skip);(first|omega|skip);rintro e w' ⟨rfl,rfl⟩)))
              all_goals go_ret
              all_goals exact⟨fD dN.o.symm,rfl⟩
        · have hki:¬ (k:Int)<(s.size:Int):=by omega
          have hno:=R4 s (fun j hj=>HG.o j (by omega));rw[decide_eq_true (by omega)]at hno;have dN:=ae hno;clear hno;go_wp2_with fail
          all_goals go_ret
          all_goals exact⟨fD dN.o.symm,rfl⟩
     · have hl':isLet a=false:=by simpa using hl
       have hno:=Gb s 0 hp0 (by rw[yS.o];unfold ni;rw[hl'];rfl);have dN:=ae hno;clear hno hl h0;go_enter Tryz.func135,Tryz.ntmps135;go_wp2_with (go_at_call 153;((with_reducible refine(Dr _ ?_ ?_ _).mono ?_);(first|omega|skip);(first|omega|skip);rintro e w' ⟨rfl,rfl⟩))
       all_goals go_ret
       all_goals exact⟨fD dN.o.symm,rfl⟩
theorem YF:∀m:Nat,m<26→Utf8.encode (65+(m:Int))=strOfNums [65+(m:Int)]:=by decide +kernel
theorem O9 (x:Int)(h0:65≤x)(h1:x≤90):Utf8.encode x=strOfNums [x]:=by
 have:=YF (x - 65).toNat (by omega);rw[show(65:Int)+((x - 65).toNat:Int)=x from by omega]at this;exact this
theorem agz(a b:List Int)(A B:ByteArray)(h:A=strOfNums a)(k:B=strOfNums b):A++B=strOfNums (a++b):=by rw[h,k,lZ]
def bP(w:World)(b:Nat)(d:Rd):Prop:=w.heap[b]? = some (.cells d.cells 182)
theorem bP.lt{w:World}{b:Nat}{d:Rd}(h:bP w b d):b<w.heap.size:=(dO.1 h).1
theorem bP.drewN{w:World}{b:Nat}{d:Rd}(h:bP w b d)(n:Nat):bP (w.drewN n) b d:=h
theorem bP.below{w w':World}{B b:Nat}{d:Rd}(h:bP w b d)(hb:Below B w w')(hB:b<B):bP w' b d:=by unfold bP;rw[hb.block b hB];exact h
theorem bP.facts {w:World}{b:Nat}{d:Rd}(h:bP w b d) :
 w.cell? ⟨b,0,none⟩=some (.string d.s)∧w.cell? ⟨b,1,none⟩=some (.int .i64 d.k)∧w.cell? ⟨b,2,none⟩=some (.string d.sh)∧w.cell? ⟨b,3,none⟩=some (.int .i64 d.c)∧w.cell? ⟨b,4,none⟩=some (.int .i64 d.r)∧w.cell? ⟨b,5,none⟩=some (.bool d.ac)∧w.cell? ⟨b,6,none⟩=some (.bool d.ar) :=
 ⟨by rw[cell_of_row w b 0 _ _ _ h];rfl,by rw[cell_of_row w b 1 _ _ _ h];rfl,by rw[cell_of_row w b 2 _ _ _ h];rfl,by rw[cell_of_row w b 3 _ _ _ h];rfl,by rw[cell_of_row w b 4 _ _ _ h];rfl,by rw[cell_of_row w b 5 _ _ _ h];rfl,by rw[cell_of_row w b 6 _ _ _ h];rfl⟩
theorem bP.frozen{w:World}{b:Nat}{d:Rd}(h:bP w b d)(j:Nat):w.frozen? ⟨b,j,none⟩=false:=frozen_of_row w b j _ _ h
theorem bP.sZ{w:World}{b:Nat}{d:Rd}(h:bP w b d)(k:Nat):bP (w.setCell ⟨b,1,none⟩ (.int .i64 (k:Int))) b { d with k:=k }:=by unfold bP;rw[heap_setCell_same w b 1 _ _ _ h];rfl
theorem bP.afy{w:World}{b:Nat}{d:Rd}(h:bP w b d)(s:ByteArray):bP (w.setCell ⟨b,2,none⟩ (.string s)) b { d with sh:=s }:=by unfold bP;rw[heap_setCell_same w b 2 _ _ _ h];rfl
theorem bP.TT{w:World}{b:Nat}{d:Rd}(h:bP w b d)(c:Int):bP (w.setCell ⟨b,3,none⟩ (.int .i64 c)) b { d with c:=c }:=by unfold bP;rw[heap_setCell_same w b 3 _ _ _ h];rfl
theorem bP.TV{w:World}{b:Nat}{d:Rd}(h:bP w b d)(c:Int):bP (w.setCell ⟨b,4,none⟩ (.int .i64 c)) b { d with r:=c }:=by unfold bP;rw[heap_setCell_same w b 4 _ _ _ h];rfl
theorem bP.afv{w:World}{b:Nat}{d:Rd}(h:bP w b d)(x:Bool):bP (w.setCell ⟨b,5,none⟩ (.bool x)) b { d with ac:=x }:=by unfold bP;rw[heap_setCell_same w b 5 _ _ _ h];rfl
theorem bP.afw{w:World}{b:Nat}{d:Rd}(h:bP w b d)(x:Bool):bP (w.setCell ⟨b,6,none⟩ (.bool x)) b { d with ar:=x }:=by unfold bP;rw[heap_setCell_same w b 6 _ _ _ h];rfl
def Part (o:Option Rd)(b:Nat)(w:World)(e:Ending)(w':World):Prop :=
 w.grownBy w' (some b)∧((∃d',o=some d'∧e = .returned (.bool true)∧bP w' b d')∨(o=none∧e = .returned (.bool false)))
theorem YX (b:Nat)(d:Rd)(w:World)(h:bP w b d)(_hs:d.s.size≤1000000)(_hk:d.k≤d.s.size) :
 Calls Tryz.prog 177 #[.pointer (some ⟨b,0,none⟩)] w (Part d.fin b w):=by
 obtain⟨c0,c1,c2,c3,c4,c5,c6⟩:=h.facts;clear c2 c3 c4 c5 c6;have HR:=ae h;clear h;by_cases hk:d.k=d.s.size
 · have hf:d.fin=some d:=by unfold Rd.fin;rw[if_pos hk]
   have HF:=ae hf;clear hf;have hi:((d.k:Int) == (d.s.size:Int))=true:=beq_iff_eq.2 (by omega);go_enter Tryz.func177,Tryz.ntmps177;go_wp2_with fail
   go_quiet (fail)
   go_wp2_with fail
   go_ret;exact⟨grownBy.eX (grownBy.fo _ _) _,.inl ⟨d,HF.o,by simp,HR.o.drewN _⟩⟩
 · have hf:d.fin=none:=by unfold Rd.fin;rw[if_neg hk]
   have HF:=ae hf;clear hf;have hi:((d.k:Int) == (d.s.size:Int))=false:=beq_eq_false_iff_ne.2 (by omega);go_enter Tryz.func177,Tryz.ntmps177;go_wp2_with fail
   go_quiet (fail)
   go_wp2_with fail
   go_ret;exact⟨grownBy.eX (grownBy.fo _ _) _,.inr ⟨HF.o,by simp⟩⟩
theorem LK (d:Rd)(h:d.k<d.s.size):d.rest.head? = some ((d.s[d.k].toNat:Nat):Int):=by
 unfold Rd.rest;rw[List.head?_drop,pJ d.s d.k h]
theorem TC (d:Rd)(h:d.s.size≤d.k):d.rest=[]:=by
 unfold Rd.rest;rw[List.drop_eq_nil_iff,aV];exact h
theorem Rw (b:Nat)(d:Rd)(w:World)(h:bP w b d)(_hs:d.s.size≤1000000)(_hk:d.k≤d.s.size) :
 Calls Tryz.prog 194 #[.pointer (some ⟨b,0,none⟩)] w fun e w'=>e = .returned (.bool d.mark)∧bP w' b { d with k:=d.k+(eu d.mark).length }∧w.grownBy w' (some b):=by
 obtain⟨c0,c1,c2,c3,c4,c5,c6⟩:=h.facts;clear c2 c3 c4 c5 c6;have f1:=h.frozen 1;have HR:=ae h;clear h;by_cases hk:d.k=d.s.size
 · have hf:d.mark=false:=by unfold Rd.mark;rw[TC d (by omega)];rfl
   have HF:=ae hf;clear hf;have hi:((d.k:Int) == (d.s.size:Int))=true:=beq_iff_eq.2 (by omega);go_enter Tryz.func194,Tryz.ntmps194;go_wp2_with fail
   go_quiet (fail)
   go_wp2_with fail
   go_ret;rw[HF.o];exact⟨rfl,HR.o.drewN _,grownBy.eX (grownBy.fo _ _) _⟩
 · have hi:((d.k:Int) == (d.s.size:Int))=false:=beq_eq_false_iff_ne.2 (by omega)
   have hlt:d.k<d.s.size:=by omega
   have hki:(d.k:Int)<(d.s.size:Int):=by omega
   obtain⟨a,ha⟩:∃a:Int,(d.s[d.k].toNat:Int)=a:=⟨_,rfl⟩;have ha1:0≤a∧a≤255:=by have:=d.s[d.k].toNat_lt;omega
   have hh:=LK d hlt;rw[ha]at hh;by_cases gF:a=36
   · have hf:d.mark=true:=by unfold Rd.mark;rw[hh,gF];rfl
     have HF:=ae hf;clear hf hh;have hj:(a == 36)=true:=beq_iff_eq.2 gF;have hj2:(a != 36)=false:=by rw[bne,hj];rfl
     clear gF;go_enter Tryz.func194,Tryz.ntmps194;go_wp2_with fail
     go_quiet (fail)
     go_wp2_with fail
     go_ret;rw[HF.o];exact⟨rfl,(HR.o.drewN _).sZ (d.k+1),grownBy.gp (grownBy.eX (grownBy.fo _ _) _) _ _⟩
   · have hf:d.mark=false:=by unfold Rd.mark;rw[hh,decide_eq_false_iff_not];intro h;injection h with h;exact gF h
     have HF:=ae hf;clear hf hh;have hj:(a == 36)=false:=beq_eq_false_iff_ne.2 gF;have hj2:(a != 36)=true:=by rw[bne,hj];rfl
     clear gF;go_enter Tryz.func194,Tryz.ntmps194;go_wp2_with fail
     go_quiet (fail)
     go_wp2_with fail
     go_ret;rw[HF.o];exact⟨rfl,HR.o.drewN _,grownBy.eX (grownBy.fo _ _) _⟩
theorem WW (b:Nat)(d:Rd)(w:World)(h:bP w b d)(_hs:d.s.size≤1000000)(_hk:d.k≤d.s.size) :
 Calls Tryz.prog 173 #[.pointer (some ⟨b,0,none⟩)] w (Part d.xQ b w):=by
 have HR:=ae h;clear h;go_enter Tryz.func173,Tryz.ntmps173;go_wp2_with (go_at_call 194;((with_reducible refine(Rw b d _ HR.o ?_ ?_).mono ?_);(first|omega|skip);(first|omega|skip);rintro e w1 ⟨rfl,h1,h2⟩;obtain⟨c0,c1,c2,c3,c4,c5,c6⟩:=h1.facts;have f5:=h1.frozen 5;have H1:=ae h1;clear h1;have H2:=ae h2;clear h2))
 go_ret;exact⟨grownBy.gp H2.o _ _,.inl ⟨_,rfl,rfl,H1.o.afv _⟩⟩
theorem WX (b:Nat)(d:Rd)(w:World)(h:bP w b d)(_hs:d.s.size≤1000000)(_hk:d.k≤d.s.size) :
 Calls Tryz.prog 175 #[.pointer (some ⟨b,0,none⟩)] w (Part d.xR b w):=by
 have HR:=ae h;clear h;go_enter Tryz.func175,Tryz.ntmps175;go_wp2_with (go_at_call 194;((with_reducible refine(Rw b d _ HR.o ?_ ?_).mono ?_);(first|omega|skip);(first|omega|skip);rintro e w1 ⟨rfl,h1,h2⟩;obtain⟨c0,c1,c2,c3,c4,c5,c6⟩:=h1.facts;have f6:=h1.frozen 6;have H1:=ae h1;clear h1;have H2:=ae h2;clear h2))
 go_ret;exact⟨grownBy.gp H2.o _ _,.inl ⟨_,rfl,rfl,H1.o.afw _⟩⟩
theorem rD {f:FuncId}{args:Array Value}{w:World}{n:Nat}{v:Value}(h:Calls Tryz.prog f args (w.drewN n) fun e w'=>e = .returned v∧w.drewN n=w'):Calls Tryz.prog f args (w.drewN n) fun e w''=>e = .returned v∧∃m,w''=w.drewN m :=
 Calls.quiet_of_same (h.mono fun _ _ ⟨a,b⟩=>⟨a,b.symm⟩)
theorem bP.xm {w:World}{b m p:Nat}{d:Rd}(h:bP w b { d with k:=d.k+m })(hp:d.k+m=p)(n:Nat):bP ((w.drewN n).setCell ⟨b,1,none⟩ (.int .i64 ((p:Int)+1))) b { d with k:=d.k+(m+1) }:=by
 subst hp;exact(h.drewN n).sZ (d.k+m+1)
theorem Mt (d:Rd)(m:Nat)(h:d.k+m<d.s.size):d.rest.take (m+1)=d.rest.take m++[((d.s[d.k+m].toNat:Nat):Int)]:=by
 unfold Rd.rest;rw[List.take_add_one,List.getElem?_drop,pJ d.s _ h];rfl
theorem qA(d:Rd):d.rest.length=d.s.size - d.k:=by unfold Rd.rest;rw[List.length_drop,aV]
theorem Ak (p:Int→Bool)(l:List Int)(m:Nat)(h:∀x∈l.take m,p x=true)(h2:∀x,l[m]? = some x→p x=false):l.takeWhile p=l.take m:=by
 have e:=uT p (l.take m) (l.drop m) h (fun x hx=>h2 x (by rw[List.head?_drop]at hx;exact hx));rw[List.take_append_drop]at e;exact e
theorem GX (p:Int→Bool)(l:List Int)(m:Nat)(h:∀x∈l.take m,p x=true):l.takeWhile p=l.take m++(l.drop m).takeWhile p:=by
 have e:=UF p (l.take m) (l.drop m) h;rw[List.take_append_drop]at e;exact e
theorem qd {p:Int→Bool}{l:List Int}{x:Int}(h:∀y∈l,p y=true)(hx:p x=true):∀y∈l++[x],p y=true:=by
 intro y hy;rw[List.mem_append]at hy;rcases hy with hy|hy
 · exact h y hy
 · simp at hy;rw[hy];exact hx
def oq(l:List Int):Int:=l.foldl (fun n x=>26*n+(x - 64)) 0
theorem Ye(l:List Int)(x:Int):oq (l++[x])=26*oq l+(x - 64):=by unfold oq;rw[List.foldl_append];rfl
theorem O0 (l:List Int)(h:∀x∈l,aL x=true)(hl:l.length≤2):oq l≤702∧(l=[]∧oq l=0∧iR l=false∨0<oq l∧iR l=true∧lg l=oq l - 1):=by
 match l,hl,h with
 | [],_,_=>exact⟨by decide,.inl ⟨rfl,rfl,rfl⟩⟩
 | [a],_,h =>
   have ha:=h a (by simp);have:=ru ha;have hv:oq [a]=a - 64:=by unfold oq;simp
   have hi:iR [a]=true:=by unfold iR;simp[ha]
   refine⟨by omega,.inr ⟨by omega,hi, ?_⟩⟩;unfold lg;rw[if_pos hi,hv];simp;omega
 | [a,b],_,h =>
   have ha:=h a (by simp);have hb:=h b (by simp);have g1:=ru ha;have g2:=ru hb;have hv:oq [a,b]=26*(a - 64)+(b - 64):=by unfold oq;simp
   have hi:iR [a,b]=true:=by unfold iR;simp[ha,hb]
   refine⟨by omega,.inr ⟨by omega,hi, ?_⟩⟩;unfold lg;rw[if_pos hi,hv];simp;omega
theorem aaK{l:List Int}(h:2<l.length):iR l=false:=by unfold iR;rw[decide_eq_false (by omega),Bool.false_and]
theorem OZ (d:Rd)(m:Nat)(v:Int)(b:Nat)(w wr:World)(hv:oq (d.rest.take m)=v)(aX:∀x∈d.rest.take m,aL x=true)(hm:m≤2)(hk:d.k+m≤d.s.size)(zM:∀x,d.rest[m]? = some x→aL x=false)(e:Ending)(he:e = .returned (.bool (decide (0<v))))
 (hr:bP wr b { { d with k:=d.k+m }with c:=v - 1 }) (hg:w.grownBy wr (some b)):Part d.col b w e wr:=by
 subst he;have hsp:=Ak aL d.rest m aX zM;have hlen:(d.rest.take m).length=m:=by rw[gK,qA];omega
 refine⟨hg, ?_⟩;unfold Rd.col;rw[hsp];rcases(O0 (d.rest.take m) aX (by omega)).2 with ⟨h1,h2,h3⟩|⟨h1,h2,h3⟩
 · rw[h3,if_neg (by simp)]
   exact .inr ⟨rfl,by rw[decide_eq_false (by omega)]⟩
 · rw[if_pos h2]
   refine .inl ⟨_,rfl,by rw[decide_eq_true (by omega)], ?_⟩;rw[h3,hv,hlen];exact hr
theorem Yd (b:Nat)(d:Rd)(w:World)(h:bP w b d)(_hs:d.s.size≤1000000)(_hk:d.k≤d.s.size) :
 Calls Tryz.prog 174 #[.pointer (some ⟨b,0,none⟩)] w (Part d.col b w):=by
 have HR:=ae h;clear h;go_enter Tryz.func174,Tryz.ntmps174;go_wp2_with fail
 go_loopw [3] (fun n wr=>∃(m:Nat)(v:Int),n = .int .i64 v∧0≤v∧v≤702∧d.k+m≤d.s.size∧Hid (oq (d.rest.take m)=v∧(∀x∈d.rest.take m,aL x=true)∧m≤2)∧Hid (bP wr b { d with k:=d.k+m })∧Hid (w.grownBy wr (some b)))
  (fun n _=>800 - (intOf n).toNat)
 case atStart=>exact⟨0,0,rfl,by omega,by omega,by omega,ae ⟨rfl,by simp,by omega⟩,ae HR.o,ae (grownBy.fo _ _)⟩
 case round =>
  obtain⟨m,v,rfl,hv0,hv1,dn,HM,eT,HG⟩:=hrel;obtain⟨c0,c1,c2,c3,c4,c5,c6⟩:=eT.o.facts;have f1:=eT.o.frozen 1;have f3:=eT.o.frozen 3;clear c2 c4 c5 c6;simp only at c0 c1 c3;obtain⟨p,hp⟩:∃p:Nat,d.k+m=p:=⟨_,rfl⟩;rw[hp]at c1;by_cases hlt:p<d.s.size
  · have kE : (p:Int)<(d.s.size:Int):=by omega
    obtain⟨a,ha⟩:∃a:Int,(d.s[p].toNat:Int)=a:=⟨_,rfl⟩;have ha1:0≤a∧a≤255:=by have:=d.s[p].toNat_lt;omega
    have hnx:d.rest.take (m+1)=d.rest.take m++[a]:=by subst hp;rw[Mt d m hlt,ha]
    have hat:d.rest[m]? = some a:=by subst hp;unfold Rd.rest;rw[List.getElem?_drop,pJ d.s _ hlt,ha]
    have dG:=ae hnx;clear hnx;have HAT:=ae hat;clear hat;have HP:=ae hp;clear hp;by_cases hc:aL a=true
    · have hcb := ru hc
      have qw:oq (d.rest.take (m+1))=26*v+(a - 64):=by rw[dG.o,Ye,HM.o.1]
      have aX:=qd HM.o.2.1 hc;rw[← dG.o]at aX;have jV:=ae qw;clear qw;have kr:=ae aX;clear aX;by_cases qj:702<v*26+(a - 65)+1
      · have hno:d.col=none:=by
         have h2:¬ m+1≤2:=by
          intro h2;have:=(O0 _ kr.o (by rw[gK];omega)).1;rw[jV.o]at this;omega
         have h3:iR (d.rest.takeWhile aL)=false:=by
          apply aaK;rw[GX aL d.rest (m+1) kr.o,ak,gK,qA];have:=HP.o;omega
         unfold Rd.col;rw[h3];rfl
        have dN:=ae hno;clear hno;go_wp2_with fail
        go_quiet ((go_at_call 167;exact rD (Dq _ (by omega) (by omega) _)))
        go_wp2_with fail
        go_quiet (fail)
        go_wp2_with fail
        go_ret;exact⟨grownBy.eX HG.o _,.inr ⟨dN.o,rfl⟩⟩
      · go_wp2_with fail
        go_quiet ((go_at_call 167;exact rD (Dq _ (by omega) (by omega) _)))
        go_wp2_with fail
        go_quiet (fail)
        go_wp2_with fail
        go_roundw
        case rel =>
         have hm2:m+1≤2:=by
          have h3:=HM.o.2.2;by_cases h:m=2
          · exfalso
            have hl:(d.rest.take m).length=2:=by rw[gK,qA];have:=HP.o;omega
            match hq:d.rest.take m,hl with
            | [x,y],_ =>
              have h1:=HM.o.2.1;have h4:=HM.o.1;rw[hq]at h1 h4;have g1:=ru (h1 x (by simp));have g2:=ru (h1 y (by simp));have hv:oq [x,y]=26*(x - 64)+(y - 64):=by unfold oq;simp
              omega
          · omega
         refine⟨m+1,v*26+(a - 65)+1,rfl,by omega,by omega,by have:=HP.o;omega,ae ⟨by rw[jV.o];omega,kr.o,hm2⟩,ae ?_,ae (grownBy.gp (grownBy.eX HG.o _) _ _)⟩;exact bP.xm eT.o HP.o _
        case measure=>simp[intOf];omega
    · have hc':aL a=false:=by simpa using hc
      clear hc;have ql:=fun (e:Ending)(nD:World)=>OZ d m v b w nD HM.o.1 HM.o.2.1 HM.o.2.2 dn (fun x hx=>by rw[HAT.o]at hx;injection hx with hx;rw[← hx];exact hc') e
      have yR:=ae ql;clear ql;go_wp2_with fail
      go_quiet ((go_at_call 167;exact rD (Dq _ (by omega) (by omega) _)))
      go_wp2_with fail
      go_ret;exact yR.o _ _ rfl ((eT.o.drewN _).TT _) (grownBy.gp (grownBy.eX HG.o _) _ _)
  · have kE:¬ (p:Int)<(d.s.size:Int):=by omega
    have ql:=fun (e:Ending)(nD:World)=>OZ d m v b w nD HM.o.1 HM.o.2.1 HM.o.2.2 dn (fun x hx=>by have h1:=(dW.1 hx).1;rw[qA]at h1;omega) e
    have yR:=ae ql;clear ql;clear hp;go_wp2_with fail
    go_quiet (fail)
    go_wp2_with fail
    go_ret;exact yR.o _ _ rfl ((eT.o.drewN _).TT _) (grownBy.gp (grownBy.eX HG.o _) _ _)
theorem TK (d:Rd)(m:Nat)(v:Int)(b:Nat)(w wr:World)(hv:cK (d.rest.take m)=v)(aX:∀x∈d.rest.take m,isNum x=true)(hz:m=0∧v=0∨1≤v∧d.rest.take m≠[]∧(d.rest.take m).head? ≠ some 48)(hv9:v≤999)(hk:d.k+m≤d.s.size)(zM:∀x,d.rest[m]? = some x→isNum x=false)(e:Ending)(he:e = .returned (.bool (decide (0<v))))
 (hr:bP wr b { { d with k:=d.k+m }with r:=v - 1 }) (hg:w.grownBy wr (some b)):Part d.row b w e wr:=by
 subst he;have hsp:=Ak isNum d.rest m aX zM;have hlen:(d.rest.take m).length=m:=by rw[gK,qA];omega
 refine⟨hg, ?_⟩;unfold Rd.row;rw[hsp];rcases hz with ⟨h1,h2⟩|⟨h1,h2,h3⟩
 · have:isRow (d.rest.take m)=false:=by rw[h1];rfl
   rw[this,if_neg (by simp)];exact .inr ⟨rfl,by rw[decide_eq_false (by omega)]⟩
 · have:isRow (d.rest.take m)=true:=by unfold isRow;rw[decide_eq_true_iff];exact⟨h2,h3,by omega⟩
   rw[if_pos this];refine .inl ⟨_,rfl,by rw[decide_eq_true (by omega)], ?_⟩;rw[hv,hlen];exact hr
theorem ZE{l:List Int}{x:Int}(h:l≠[]):(l++[x]).head? = l.head? := by cases l with|nil=>exact absurd rfl h|cons a l=>rfl
theorem ae3 (b:Nat)(d:Rd)(w:World)(h:bP w b d)(_hs:d.s.size≤1000000)(_hk:d.k≤d.s.size) :
 Calls Tryz.prog 176 #[.pointer (some ⟨b,0,none⟩)] w (Part d.row b w):=by
 have HR:=ae h;clear h;go_enter Tryz.func176,Tryz.ntmps176;go_wp2_with fail
 go_loopw [3] (fun n wr=>∃(m:Nat)(v:Int),n = .int .i64 v∧0≤v∧v≤999∧d.k+m≤d.s.size∧Hid (cK (d.rest.take m)=v∧(∀x∈d.rest.take m,isNum x=true)∧(m=0∧v=0∨1≤v∧d.rest.take m≠[]∧(d.rest.take m).head? ≠ some 48))∧Hid (bP wr b { d with k:=d.k+m })∧Hid (w.grownBy wr (some b)))
  (fun n _=>1200 - (intOf n).toNat)
 case atStart=>exact⟨0,0,rfl,by omega,by omega,by omega,ae ⟨rfl,by simp,.inl ⟨rfl,rfl⟩⟩,ae HR.o,ae (grownBy.fo _ _)⟩
 case round =>
  obtain⟨m,v,rfl,hv0,hv1,dn,HM,eT,HG⟩:=hrel;obtain⟨c0,c1,c2,c3,c4,c5,c6⟩:=eT.o.facts;have f1:=eT.o.frozen 1;have f4:=eT.o.frozen 4;clear c2 c3 c5 c6;simp only at c0 c1 c4;obtain⟨p,hp⟩:∃p:Nat,d.k+m=p:=⟨_,rfl⟩;rw[hp]at c1;by_cases hlt:p<d.s.size
  · have kE:(p:Int)<(d.s.size:Int):=by omega
    obtain⟨a,ha⟩:∃a:Int,(d.s[p].toNat:Int)=a:=⟨_,rfl⟩;have ha1:0≤a∧a≤255:=by have:=d.s[p].toNat_lt;omega
    have hnx:d.rest.take (m+1)=d.rest.take m++[a]:=by subst hp;rw[Mt d m hlt,ha]
    have hat:d.rest[m]? = some a:=by subst hp;unfold Rd.rest;rw[List.getElem?_drop,pJ d.s _ hlt,ha]
    have dG:=ae hnx;clear hnx;have HAT:=ae hat;clear hat;have HP:=ae hp;clear hp;by_cases hc:isNum a=true
    · have hcb:=iT hc
      have qw:cK (d.rest.take (m+1))=10*v+(a - 48):=by rw[dG.o,yM,HM.o.1]
      have aX:=qd HM.o.2.1 hc;rw[← dG.o]at aX;have jV:=ae qw;clear qw;have kr:=ae aX;clear aX;by_cases kT:v*10+(a - 48)=0∨999<v*10+(a - 48)
      · have hno:d.row=none:=by
         have h3:isRow (d.rest.takeWhile isNum)=false:=by
          rw[GX isNum d.rest (m+1) kr.o];unfold isRow;rw[decide_eq_false_iff_not];rintro⟨_,h2,h3⟩;rcases kT with h|h
          · rcases HM.o.2.2 with ⟨hm0,_⟩|⟨hm1,_⟩
            · apply h2;rw[dG.o,hm0];simp;omega
            · omega
          · have:=Au ((d.rest.drop (m+1)).takeWhile isNum) (d.rest.take (m+1)) (tC isNum _) (by rw[jV.o];omega)
            rw[jV.o]at this;omega
         unfold Rd.row;rw[h3];rfl
        have dN:=ae hno;clear hno;by_cases hz:v*10+(a - 48)=0
        · have hzb:(v*10+(a - 48) == 0)=true:=beq_iff_eq.2 hz
          clear kT hz;go_wp2_with fail
          go_quiet ((go_at_call 154;exact rD (Bo _ (by omega) (by omega) _)))
          go_wp2_with fail
          go_quiet (fail)
          go_wp2_with fail
          go_ret;exact⟨grownBy.eX HG.o _,.inr ⟨dN.o,rfl⟩⟩
        · have hzb:(v*10+(a - 48) == 0)=false:=beq_eq_false_iff_ne.2 hz
          have h9:999<v*10+(a - 48):=by omega
          clear kT hz;go_wp2_with fail
          go_quiet ((go_at_call 154;exact rD (Bo _ (by omega) (by omega) _)))
          go_wp2_with fail
          go_quiet (fail)
          go_wp2_with fail
          go_ret;exact⟨grownBy.eX HG.o _,.inr ⟨dN.o,rfl⟩⟩
      · have hz:¬ v*10+(a - 48)=0:=by omega
        have hzb:(v*10+(a - 48) == 0)=false:=beq_eq_false_iff_ne.2 hz;have h9:¬ 999<v*10+(a - 48):=by omega
        have h9':v*10+(a - 48)≤999:=by omega
        have h1':1≤v*10+(a - 48):=by omega
        clear kT hz;go_wp2_with fail
        go_quiet ((go_at_call 154;exact rD (Bo _ (by omega) (by omega) _)))
        go_wp2_with fail
        go_quiet (fail)
        go_wp2_with fail
        go_roundw
        case rel =>
         refine⟨m+1,v*10+(a - 48),rfl,by omega,by omega,by have:=HP.o;omega,ae ⟨by rw[jV.o];omega,kr.o,.inr ⟨by omega, ?_, ?_⟩⟩,ae ?_,ae (grownBy.gp (grownBy.eX HG.o _) _ _)⟩
         · rw[dG.o];simp
         · rw[dG.o]
           rcases HM.o.2.2 with ⟨hm0,hm1⟩|⟨_,h2,h3⟩
           · rw[hm0];simp;omega
           · rw[ZE h2];exact h3
         · exact bP.xm eT.o HP.o _
        case measure=>simp[intOf];omega
    · have hc':isNum a=false:=by simpa using hc
      clear hc;have ql:=fun (e:Ending)(nD:World)=>TK d m v b w nD HM.o.1 HM.o.2.1 HM.o.2.2 hv1 dn (fun x hx=>by rw[HAT.o]at hx;injection hx with hx;rw[← hx];exact hc') e
      have yR:=ae ql;clear ql;go_wp2_with fail
      go_quiet ((go_at_call 154;exact rD (Bo _ (by omega) (by omega) _)))
      go_wp2_with fail
      go_ret;exact yR.o _ _ rfl ((eT.o.drewN _).TV _) (grownBy.gp (grownBy.eX HG.o _) _ _)
  · have kE:¬ (p:Int)<(d.s.size:Int):=by omega
    have ql:=fun (e:Ending)(nD:World)=>TK d m v b w nD HM.o.1 HM.o.2.1 HM.o.2.2 hv1 dn (fun x hx=>by have h1:=(dW.1 hx).1;rw[qA]at h1;omega) e
    have yR:=ae ql;clear ql;clear hp;go_wp2_with fail
    go_quiet (fail)
    go_wp2_with fail
    go_ret;exact yR.o _ _ rfl ((eT.o.drewN _).TV _) (grownBy.gp (grownBy.eX HG.o _) _ _)
end Go.Proofs.YtaobhjliflomaaaGreatDoor
namespace Go.Proofs.YtaobhjliflomaaaGreatDoor
open Go.RowKit
def nN(c:Int):Bool:=decide (c=32)
def nk(c:Int):Bool:=isLet c||decide (c=36)
theorem Rc (c:Int)(_h0:0≤c)(_h1:c≤255)(w:World) :
 Calls Tryz.prog 113 #[.int .u8 c] w fun e w'=>e = .returned (.bool (nN c))∧w=w':=by
 go_enter Tryz.func113,Tryz.ntmps113
 go_wp2
 all_goals go_ret
 all_goals exact⟨fD (by unfold nN;first|rfl|(symm;rw[decide_eq_true_iff];omega)|(symm;rw[decide_eq_false_iff_not];omega)|(rw[decide_eq_decide];omega)),rfl⟩
theorem uL (c:Int)(_h0:0≤c)(_h1:c≤255)(w:World) :
 Calls Tryz.prog 136 #[.int .u8 c] w fun e w'=>e = .returned (.bool (isNum c))∧w=w':=by
 go_enter Tryz.func136,Tryz.ntmps136
 go_wp2
 all_goals go_ret
 all_goals exact⟨fD (by unfold isNum;first|rfl|(symm;rw[decide_eq_true_iff];omega)|(symm;rw[decide_eq_false_iff_not];omega)|(rw[decide_eq_decide];omega)),rfl⟩
theorem Du (c:Int)(_h0:0≤c)(_h1:c≤255)(w:World) :
 Calls Tryz.prog 157 #[.int .u8 c] w fun e w'=>e = .returned (.bool (aL c))∧w=w':=by
 go_enter Tryz.func157,Tryz.ntmps157
 go_wp2
 all_goals go_ret
 all_goals exact⟨fD (by unfold aL;first|rfl|(symm;rw[decide_eq_true_iff];omega)|(symm;rw[decide_eq_false_iff_not];omega)|(rw[decide_eq_decide];omega)),rfl⟩
theorem QM{c:Int}(h:aL c=true):nk c=true:=by unfold nk;rw[QP h];rfl
theorem aaJ{c:Int}(h:aL c=false):nk c=decide (97≤c∧c≤122∨c=36):=by unfold nk;rw[QQ h];simp
theorem FP {c:Int}:isWord c=(nk c||(isNum c||decide (c=33))):=by
 unfold isWord nk;rw[show decide (c=36∨c=33)=(decide (c=36)||decide (c=33))from by simp];cases isLet c <;> cases isNum c <;> cases decide (c=36) <;> simp
theorem xV (c:Int)(_h0:0≤c)(_h1:c≤255)(w:World) :
 Calls Tryz.prog 140 #[.int .u8 c] w fun e w'=>e = .returned (.bool (nk c))∧w=w':=by
 by_cases hc:aL c=true
 · have HL:=ae (QM hc)
   go_enter Tryz.func140,Tryz.ntmps140;go_wp2_with (go_at_call 157;((with_reducible refine(Du _ ?_ ?_ _).mono ?_);(first|omega|skip);(first|omega|skip);rintro e w' ⟨rfl,rfl⟩))
   all_goals go_ret
   all_goals exact⟨fD (by rw[HL.o]),rfl⟩
 · have hc':aL c=false:=by simpa using hc
   have HL:=ae (aaJ hc');clear hc;go_enter Tryz.func140,Tryz.ntmps140;go_wp2_with (go_at_call 157;((with_reducible refine(Du _ ?_ ?_ _).mono ?_);(first|omega|skip);(first|omega|skip);rintro e w' ⟨rfl,rfl⟩))
   all_goals go_ret
   all_goals exact⟨fD (by rw[HL.o];first|rfl|(symm;rw[decide_eq_true_iff];omega)|(symm;rw[decide_eq_false_iff_not];omega)|(rw[Bool.eq_iff_iff];simp only[Bool.or_eq_true,decide_eq_true_iff,beq_iff_eq];omega)),rfl⟩
theorem QT (c:Int)(_h0:0≤c)(_h1:c≤255)(w:World) :
 Calls Tryz.prog 158 #[.int .u8 c] w fun e w'=>e = .returned (.bool (isWord c))∧w=w':=by
 have HW:=ae (FP (c:=c));cases hb:nk c
 · cases hn:isNum c
   · rw [hb,hn]at HW
     go_enter Tryz.func158,Tryz.ntmps158
     go_wp2_with (first
      | (go_at_call 140;((with_reducible refine(xV _ ?_ ?_ _).mono ?_);(first|omega|skip);(first|omega|skip);rintro e w' ⟨rfl,rfl⟩;rw[hb]))
      | (go_at_call 136;((with_reducible refine(uL _ ?_ ?_ _).mono ?_);(first|omega|skip);(first|omega|skip);rintro e w' ⟨rfl,rfl⟩;rw[hn])))
     all_goals go_ret
     all_goals exact⟨fD (by rw[HW.o];first|rfl|(rw[Bool.eq_iff_iff];simp only[Bool.or_eq_true,dA,Bool.false_or,decide_eq_true_iff,beq_iff_eq])),rfl⟩
   · rw [hb,hn]at HW
     go_enter Tryz.func158,Tryz.ntmps158
     go_wp2_with (first
      | (go_at_call 140;((with_reducible refine(xV _ ?_ ?_ _).mono ?_);(first|omega|skip);(first|omega|skip);rintro e w' ⟨rfl,rfl⟩;rw[hb]))
      | (go_at_call 136;((with_reducible refine(uL _ ?_ ?_ _).mono ?_);(first|omega|skip);(first|omega|skip);rintro e w' ⟨rfl,rfl⟩;rw[hn])))
     all_goals go_ret
     all_goals exact⟨fD (by rw[HW.o];rfl),rfl⟩
 · rw [hb]at HW
   go_enter Tryz.func158,Tryz.ntmps158
   go_wp2_with (first
    | (go_at_call 140;((with_reducible refine(xV _ ?_ ?_ _).mono ?_);(first|omega|skip);(first|omega|skip);rintro e w' ⟨rfl,rfl⟩;rw[hb])))
   all_goals go_ret
   all_goals exact⟨fD (by rw[HW.o];rfl),rfl⟩
def bL(w:World)(b:Nat)(s:ByteArray)(k:Nat):Prop:=w.heap[b]? = some (.cells #[.string s,.int .i64 (k:Int)] 138)
theorem bL.lt{w:World}{b:Nat}{s:ByteArray}{k:Nat}(h:bL w b s k):b<w.heap.size:=(dO.1 h).1
theorem bL.drewN{w:World}{b:Nat}{s:ByteArray}{k:Nat}(h:bL w b s k)(n:Nat):bL (w.drewN n) b s k:=h
theorem bL.below{w w':World}{B b:Nat}{s:ByteArray}{k:Nat}(h:bL w b s k)(hb:Below B w w')(hB:b<B):bL w' b s k:=by unfold bL;rw[hb.block b hB];exact h
theorem bL.facts {w:World}{b:Nat}{s:ByteArray}{k:Nat}(h:bL w b s k):w.cell? ⟨b,0,none⟩=some (.string s)∧w.cell? ⟨b,1,none⟩=some (.int .i64 (k:Int)) :=
 ⟨by rw[cell_of_row w b 0 _ _ _ h];rfl,by rw[cell_of_row w b 1 _ _ _ h];rfl⟩
theorem bL.frozen{w:World}{b:Nat}{s:ByteArray}{k:Nat}(h:bL w b s k)(j:Nat):w.frozen? ⟨b,j,none⟩=false:=frozen_of_row w b j _ _ h
theorem bL.sZ{w:World}{b:Nat}{s:ByteArray}{k:Nat}(h:bL w b s k)(m:Nat):bL (w.setCell ⟨b,1,none⟩ (.int .i64 (m:Int))) b s m:=by unfold bL;rw[heap_setCell_same w b 1 _ _ _ h];rfl
theorem bL.xm{w:World}{b:Nat}{s:ByteArray}{k:Nat}(h:bL w b s k):bL (w.setCell ⟨b,1,none⟩ (.int .i64 ((k:Int)+1))) b s (k+1):=h.sZ (k+1)
theorem bL.new(w:World)(s:ByteArray):bL (w.alloc (.cells #[.string s,.int .i64 0] 138)) w.heap.size s 0:=(ko w _).1
def oM(t:ag):Array Value:=#[.int .i64 t.kind,.string t.text,.int .i64 t.num,.string t.sh,.int .i64 t.c,.int .i64 t.r,.bool t.ac,.bool t.ar,.int .i64 t.pos]
def aC(w:World)(b:Nat)(t:ag):Prop:=w.heap[b]? = some (.cells (oM t) 71)
theorem aC.lt{w:World}{b:Nat}{t:ag}(h:aC w b t):b<w.heap.size:=(dO.1 h).1
theorem aC.below{w w':World}{B b:Nat}{t:ag}(h:aC w b t)(hb:Below B w w')(hB:b<B):aC w' b t:=by unfold aC;rw[hb.block b hB];exact h
theorem aC.drewN{w:World}{b:Nat}{t:ag}(h:aC w b t)(n:Nat):aC (w.drewN n) b t:=h
theorem aC.frozen{w:World}{b:Nat}{t:ag}(h:aC w b t)(j:Nat):w.frozen? ⟨b,j,none⟩=false:=frozen_of_row w b j _ _ h
theorem aC.grown {w w':World}{b c:Nat}{t:ag}(h:aC w b t)(hg:w.grownBy w' (some c))(hne:b≠c):aC w' b t:=by
 unfold aC;rw[hg.block b h.lt (by intro e;exact hne (dU e))];exact h
theorem aC.new(w:World)(t:ag):aC (w.alloc (.cells (oM t) 71)) w.heap.size t:=(ko w _).1
theorem UL:(Tryz.prog.info? 71).map (·.size)=some 9:=by kernel_rfl
theorem ag8 (t:ag):∀v∈(oM t).toList,v.oneCell'=true:=by
 intro v hv;simp only[oM,List.mem_cons,List.not_mem_nil,or_false]at hv;rcases hv with rfl|rfl|rfl|rfl|rfl|rfl|rfl|rfl|rfl <;> rfl
end Go.Proofs.YtaobhjliflomaaaGreatDoor
namespace Go.Proofs
open Go.Shelf
def Tryz.abp:Go.Shelf.Ren:=⟨fun|137=>193|217=>201|266=>210|n=>n,fun|9=>9|5=>5|3=>3|n=>n,fun|n=>n⟩
theorem Tryz.abo:Go.Proofs.Lays.n137 Tryz.prog Tryz.abp:={
 mixed:=by kernel_rfl
 f137:=Tryz.func193.trans (congrArg some (by kernel_rfl))
 f217:=Tryz.func201.trans (congrArg some (by kernel_rfl))
 f266:=Tryz.func210.trans (congrArg some (by kernel_rfl))
 t3:=Tryz.underlying3
 a3:=Tryz.isAgg3
 z3:=Tryz.sizeOf3
 v3:=Tryz.zeroValue3
 t5:=Tryz.underlying5
 a5:=Tryz.isAgg5
 z5:=Tryz.sizeOf5
 v5:=Tryz.zeroValue5
 t9:=Tryz.underlying9
 a9:=Tryz.isAgg9
 z9:=Tryz.sizeOf9
 v9:=Tryz.zeroValue9 }
open Go.RowKit in
theorem Tryz.strings_IndexByte (s:ByteArray)(c:Int)(w:World) :
 Calls Tryz.prog 193 #[.string s,.int .u8 c] w fun e w'=>e = .returned (.int .i64 (Lib.indexByte s.data.toList c.toNat.toUInt8))∧w'=w:=Any.strings_IndexByte Tryz.abo s c w
def Tryz.abw:Go.Shelf.Ren:=⟨fun|171=>129|243=>147|246=>161|283=>178|284=>179|285=>180|286=>181|129=>196|317=>195|318=>197|319=>198|320=>199|337=>208|338=>209|n=>n,fun|3=>3|9=>9|2=>2|4=>4|171=>184|0=>0|53=>62|37=>22|5=>5|173=>187|212=>198|51=>199|20=>20|213=>200|46=>201|232=>220|233=>221|n=>n,fun|17=>3|18=>9|19=>10|n=>n⟩
theorem Tryz.abv:Go.Proofs.LaysM.n171 Tryz.prog Tryz.abw:={
 mixed:=by kernel_rfl
 f129:=Tryz.func196.trans (congrArg some (by kernel_rfl))
 f171:=Tryz.func129.trans (congrArg some (by kernel_rfl))
 f243:=Tryz.func147.trans (congrArg some (by kernel_rfl))
 f246:=Tryz.func161.trans (congrArg some (by kernel_rfl))
 f283:=Tryz.func178.trans (congrArg some (by kernel_rfl))
 f284:=Tryz.func179.trans (congrArg some (by kernel_rfl))
 f285:=Tryz.func180.trans (congrArg some (by kernel_rfl))
 f286:=Tryz.func181.trans (congrArg some (by kernel_rfl))
 f317:=Tryz.func195.trans (congrArg some (by kernel_rfl))
 f318:=Tryz.func197.trans (congrArg some (by kernel_rfl))
 f319:=Tryz.func198.trans (congrArg some (by kernel_rfl))
 f320:=Tryz.func199.trans (congrArg some (by kernel_rfl))
 f337:=Tryz.func208.trans (congrArg some (by kernel_rfl))
 f338:=Tryz.func209.trans (congrArg some (by kernel_rfl))
 t0:=Tryz.underlying0
 a0:=Tryz.isAgg0
 z0:=Tryz.sizeOf0
 v0:=Tryz.zeroValue0
 t2:=Tryz.underlying2
 a2:=Tryz.isAgg2
 z2:=Tryz.sizeOf2
 v2:=Tryz.zeroValue2
 t3:=Tryz.underlying3
 a3:=Tryz.isAgg3
 z3:=Tryz.sizeOf3
 v3:=Tryz.zeroValue3
 t4:=Tryz.underlying4
 a4:=Tryz.isAgg4
 z4:=Tryz.sizeOf4
 v4:=Tryz.zeroValue4
 t5:=Tryz.underlying5
 a5:=Tryz.isAgg5
 z5:=Tryz.sizeOf5
 v5:=Tryz.zeroValue5
 t9:=Tryz.underlying9
 a9:=Tryz.isAgg9
 z9:=Tryz.sizeOf9
 v9:=Tryz.zeroValue9
 t20:=Tryz.underlying20
 a20:=Tryz.isAgg20
 z20:=Tryz.sizeOf20
 v20:=Tryz.zeroValue20
 t37:=Tryz.underlying22
 a37:=Tryz.isAgg22
 z37:=Tryz.sizeOf22
 v37:=Tryz.zeroValue22
 t46:=Tryz.underlying201
 a46:=Tryz.isAgg201
 z46:=Tryz.sizeOf201
 v46:=Tryz.zeroValue201
 t51:=Tryz.underlying199
 a51:=Tryz.isAgg199
 z51:=Tryz.sizeOf199
 v51:=Tryz.zeroValue199
 t53:=Tryz.underlying62
 a53:=Tryz.isAgg62
 z53:=Tryz.sizeOf62
 v53:=Tryz.zeroValue62
 t171:=Tryz.underlying184
 a171:=Tryz.isAgg184
 z171:=Tryz.sizeOf184
 v171:=Tryz.zeroValue184
 t173:=Tryz.underlying187
 a173:=Tryz.isAgg187
 z173:=Tryz.sizeOf187
 v173:=Tryz.zeroValue187
 t212:=Tryz.underlying198
 a212:=Tryz.isAgg198
 z212:=Tryz.sizeOf198
 v212:=Tryz.zeroValue198
 t213:=Tryz.underlying200
 a213:=Tryz.isAgg200
 z213:=Tryz.sizeOf200
 t232:=Tryz.underlying220
 a232:=Tryz.isAgg220
 z232:=Tryz.sizeOf220
 v232:=Tryz.zeroValue220
 t233:=Tryz.underlying221
 a233:=Tryz.isAgg221
 z233:=Tryz.sizeOf221
 v233:=Tryz.zeroValue221
 g17:=by kernel_rfl
 g18:=by kernel_rfl
 g19:=by kernel_rfl
 i0:=by kernel_rfl
 i2:=by kernel_rfl
 i3:=by kernel_rfl
 i4:=by kernel_rfl
 i5:=by kernel_rfl
 i9:=by kernel_rfl
 i20:=by kernel_rfl
 i37:=by kernel_rfl
 i46:=by kernel_rfl
 i51:=by kernel_rfl
 i53:=by kernel_rfl
 i171:=by kernel_rfl
 i173:=by kernel_rfl
 i212:=by kernel_rfl
 i232:=by kernel_rfl
 i233:=by kernel_rfl
 m17:=by kernel_rfl
 m18:=by kernel_rfl
 m19:=by kernel_rfl }
open Go.RowKit Go.Sort Go.Lib in
theorem Tryz.strconv_Itoa (n : Int) (h0 : -9223372036854775808 ≤ n) (h1 : n ≤ 9223372036854775807) (w : World) (mD : Lib.TabIs Tryz.prog w "internal/strconv.uint64pow10" .u64 Lib.pow10Tab) :
 Calls Tryz.prog 129 #[.int .i64 n] w fun e w'=>e = .returned (.string ⟨(Lib.itoa n).toArray⟩)∧∃k os,w'=grow (w.drewN k) os:=Any.strconv_Itoa Tryz.abv n h0 h1 w mD
def Tryz.abu:Go.Shelf.Ren:=⟨fun|172=>155|244=>168|245=>169|247=>187|279=>188|280=>189|281=>190|282=>191|287=>205|316=>206|171=>129|205=>207|321=>212|322=>213|243=>147|246=>161|283=>178|284=>179|285=>180|286=>181|129=>196|317=>195|318=>197|319=>198|320=>199|337=>208|338=>209|n=>n,fun|9=>9|3=>3|75=>121|76=>122|4=>4|5=>5|167=>190|37=>22|0=>0|85=>191|2=>2|168=>193|53=>62|175=>208|46=>201|210=>211|127=>127|145=>219|143=>217|21=>21|171=>184|173=>187|212=>198|51=>199|20=>20|213=>200|232=>220|233=>221|80=>91|n=>n,fun|15=>7|16=>8|17=>3|18=>9|19=>10|n=>n⟩
theorem Tryz.Q7:Go.Proofs.LaysC.n172 Tryz.prog Tryz.abu:={
 mixed:=by kernel_rfl
 f129:=Tryz.func196.trans (congrArg some (by kernel_rfl))
 f171:=Tryz.func129.trans (congrArg some (by kernel_rfl))
 f172:=Tryz.func155.trans (congrArg some (by kernel_rfl))
 f205:=Tryz.func207.trans (congrArg some (by kernel_rfl))
 f243:=Tryz.func147.trans (congrArg some (by kernel_rfl))
 f244:=Tryz.func168.trans (congrArg some (by kernel_rfl))
 f245:=Tryz.func169.trans (congrArg some (by kernel_rfl))
 f246:=Tryz.func161.trans (congrArg some (by kernel_rfl))
 f247:=Tryz.func187.trans (congrArg some (by kernel_rfl))
 f279:=Tryz.func188.trans (congrArg some (by kernel_rfl))
 f280:=Tryz.func189.trans (congrArg some (by kernel_rfl))
 f281:=Tryz.func190.trans (congrArg some (by kernel_rfl))
 f282:=Tryz.func191.trans (congrArg some (by kernel_rfl))
 f283:=Tryz.func178.trans (congrArg some (by kernel_rfl))
 f284:=Tryz.func179.trans (congrArg some (by kernel_rfl))
 f285:=Tryz.func180.trans (congrArg some (by kernel_rfl))
 f286:=Tryz.func181.trans (congrArg some (by kernel_rfl))
 f287:=Tryz.func205.trans (congrArg some (by kernel_rfl))
 f316:=Tryz.func206.trans (congrArg some (by kernel_rfl))
 f317:=Tryz.func195.trans (congrArg some (by kernel_rfl))
 f318:=Tryz.func197.trans (congrArg some (by kernel_rfl))
 f319:=Tryz.func198.trans (congrArg some (by kernel_rfl))
 f320:=Tryz.func199.trans (congrArg some (by kernel_rfl))
 f321:=Tryz.func212.trans (congrArg some (by kernel_rfl))
 f322:=Tryz.func213.trans (congrArg some (by kernel_rfl))
 f337:=Tryz.func208.trans (congrArg some (by kernel_rfl))
 f338:=Tryz.func209.trans (congrArg some (by kernel_rfl))
 t0:=Tryz.underlying0
 a0:=Tryz.isAgg0
 z0:=Tryz.sizeOf0
 v0:=Tryz.zeroValue0
 t2:=Tryz.underlying2
 a2:=Tryz.isAgg2
 z2:=Tryz.sizeOf2
 v2:=Tryz.zeroValue2
 t3:=Tryz.underlying3
 a3:=Tryz.isAgg3
 z3:=Tryz.sizeOf3
 v3:=Tryz.zeroValue3
 t4:=Tryz.underlying4
 a4:=Tryz.isAgg4
 z4:=Tryz.sizeOf4
 v4:=Tryz.zeroValue4
 t5:=Tryz.underlying5
 a5:=Tryz.isAgg5
 z5:=Tryz.sizeOf5
 v5:=Tryz.zeroValue5
 t9:=Tryz.underlying9
 a9:=Tryz.isAgg9
 z9:=Tryz.sizeOf9
 v9:=Tryz.zeroValue9
 t20:=Tryz.underlying20
 a20:=Tryz.isAgg20
 z20:=Tryz.sizeOf20
 v20:=Tryz.zeroValue20
 t21:=Tryz.underlying21
 a21:=Tryz.isAgg21
 z21:=Tryz.sizeOf21
 v21:=Tryz.zeroValue21
 t37:=Tryz.underlying22
 a37:=Tryz.isAgg22
 z37:=Tryz.sizeOf22
 v37:=Tryz.zeroValue22
 t46:=Tryz.underlying201
 a46:=Tryz.isAgg201
 z46:=Tryz.sizeOf201
 v46:=Tryz.zeroValue201
 t51:=Tryz.underlying199
 a51:=Tryz.isAgg199
 z51:=Tryz.sizeOf199
 v51:=Tryz.zeroValue199
 t53:=Tryz.underlying62
 a53:=Tryz.isAgg62
 z53:=Tryz.sizeOf62
 v53:=Tryz.zeroValue62
 t75:=Tryz.underlying121
 a75:=Tryz.isAgg121
 z75:=Tryz.sizeOf121
 v75:=Tryz.zeroValue121
 t76:=Tryz.underlying122
 a76:=Tryz.isAgg122
 z76:=Tryz.sizeOf122
 v76:=Tryz.zeroValue122
 t85:=Tryz.underlying191
 a85:=Tryz.isAgg191
 z85:=Tryz.sizeOf191
 v85:=Tryz.zeroValue191
 t127:=Tryz.underlying127
 a127:=Tryz.isAgg127
 z127:=Tryz.sizeOf127
 v127:=Tryz.zeroValue127
 t143:=Tryz.underlying217
 a143:=Tryz.isAgg217
 z143:=Tryz.sizeOf217
 v143:=Tryz.zeroValue217
 t145:=Tryz.underlying219
 a145:=Tryz.isAgg219
 z145:=Tryz.sizeOf219
 v145:=Tryz.zeroValue219
 t167:=Tryz.underlying190
 a167:=Tryz.isAgg190
 z167:=Tryz.sizeOf190
 v167:=Tryz.zeroValue190
 t168:=Tryz.underlying193
 a168:=Tryz.isAgg193
 z168:=Tryz.sizeOf193
 v168:=Tryz.zeroValue193
 t171:=Tryz.underlying184
 a171:=Tryz.isAgg184
 z171:=Tryz.sizeOf184
 v171:=Tryz.zeroValue184
 t173:=Tryz.underlying187
 a173:=Tryz.isAgg187
 z173:=Tryz.sizeOf187
 v173:=Tryz.zeroValue187
 t175:=Tryz.underlying208
 a175:=Tryz.isAgg208
 z175:=Tryz.sizeOf208
 v175:=Tryz.zeroValue208
 t210:=Tryz.underlying211
 a210:=Tryz.isAgg211
 z210:=Tryz.sizeOf211
 v210:=Tryz.zeroValue211
 t212:=Tryz.underlying198
 a212:=Tryz.isAgg198
 z212:=Tryz.sizeOf198
 v212:=Tryz.zeroValue198
 t213:=Tryz.underlying200
 a213:=Tryz.isAgg200
 z213:=Tryz.sizeOf200
 t232:=Tryz.underlying220
 a232:=Tryz.isAgg220
 z232:=Tryz.sizeOf220
 v232:=Tryz.zeroValue220
 t233:=Tryz.underlying221
 a233:=Tryz.isAgg221
 z233:=Tryz.sizeOf221
 v233:=Tryz.zeroValue221
 g15:=by kernel_rfl
 g16:=by kernel_rfl
 g17:=by kernel_rfl
 g18:=by kernel_rfl
 g19:=by kernel_rfl
 t80:=Tryz.underlying91
 a80:=Tryz.isAgg91
 z80:=Tryz.sizeOf91
 v80:=Tryz.zeroValue91
 i0:=by kernel_rfl
 i2:=by kernel_rfl
 i3:=by kernel_rfl
 i4:=by kernel_rfl
 i5:=by kernel_rfl
 i9:=by kernel_rfl
 i20:=by kernel_rfl
 i21:=by kernel_rfl
 i37:=by kernel_rfl
 i46:=by kernel_rfl
 i51:=by kernel_rfl
 i53:=by kernel_rfl
 i75:=by kernel_rfl
 i76:=by kernel_rfl
 i80:=by kernel_rfl
 i85:=by kernel_rfl
 i127:=by kernel_rfl
 i143:=by kernel_rfl
 i145:=by kernel_rfl
 i167:=by kernel_rfl
 i168:=by kernel_rfl
 i171:=by kernel_rfl
 i173:=by kernel_rfl
 i175:=by kernel_rfl
 i210:=by kernel_rfl
 i212:=by kernel_rfl
 i232:=by kernel_rfl
 i233:=by kernel_rfl
 m15:=by kernel_rfl
 m16:=by kernel_rfl
 m17:=by kernel_rfl
 m18:=by kernel_rfl
 m19:=by kernel_rfl
 c0:=by kernel_rfl
 c2:=by kernel_rfl
 c3:=by kernel_rfl
 c4:=by kernel_rfl
 c5:=by kernel_rfl
 c9:=by kernel_rfl
 c20:=by kernel_rfl
 c21:=by kernel_rfl
 c37:=by kernel_rfl
 c46:=by kernel_rfl
 c51:=by kernel_rfl
 c53:=by kernel_rfl
 c75:=by kernel_rfl
 c76:=by kernel_rfl
 c80:=by kernel_rfl
 c85:=by kernel_rfl
 c127:=by kernel_rfl
 c143:=by kernel_rfl
 c145:=by kernel_rfl
 c167:=by kernel_rfl
 c168:=by kernel_rfl
 c171:=by kernel_rfl
 c173:=by kernel_rfl
 c175:=by kernel_rfl
 c210:=by kernel_rfl
 c212:=by kernel_rfl
 c213:=by kernel_rfl
 c232:=by kernel_rfl
 c233:=by kernel_rfl }
open Go.RowKit in
theorem Tryz.strconv_Atoi_ok (s:ByteArray)(Fw:s.size≤9223372036854775806)(v:Int)(h:Lib.atoiAll s.data.toList = .ok v)(w:World) :
 Calls Tryz.prog 155 #[.string s] w fun e w'=>e = .returned (.tuple #[.int .i64 v,.nilIface])∧(w'=w∨∃t,w'=Lib.bytesWorld w 5 t):=Any.strconv_Atoi_ok Tryz.Q7 s Fw v h w
open Go.RowKit in
open Go.RowKit in
theorem Tryz.strconv_Atoi_range (s:ByteArray)(ZZ:s.size≤281474976710656)(h:Lib.atoiAll s.data.toList = .range)(ev:Value)(w:World)(hv:w.cell? ⟨8,0,none⟩=some ev)(hev:ev = .nilIface∨∃te pe,ev = .iface te pe) :
 Calls Tryz.prog 155 #[.string s] w fun e w'=>∃N,e = .returned (.tuple #[.int .i64 (Lib.atoiSat s.data.toList),.iface 193 (.pointer (some ⟨N,0,none⟩))])∧w.heap.size≤N∧w'.heap[N]? = some (.cells #[.string ⟨#[65,116,111,105]⟩,.string s,ev] 211 (0,0))∧Below w.heap.size w w':=Any.strconv_Atoi_range Tryz.Q7 s ZZ h ev w hv hev
def Tryz.abt:Go.Shelf.Ren:=⟨fun|99=>170|206=>192|n=>n,fun|9=>9|4=>4|3=>3|n=>n,fun|n=>n⟩
theorem Tryz.abr:Go.Proofs.Lays.n99 Tryz.prog Tryz.abt:={
 mixed:=by kernel_rfl
 f99:=Tryz.func170.trans (congrArg some (by kernel_rfl))
 f206:=Tryz.func192.trans (congrArg some (by kernel_rfl))
 t3:=Tryz.underlying3
 a3:=Tryz.isAgg3
 z3:=Tryz.sizeOf3
 v3:=Tryz.zeroValue3
 t4:=Tryz.underlying4
 a4:=Tryz.isAgg4
 z4:=Tryz.sizeOf4
 v4:=Tryz.zeroValue4
 t9:=Tryz.underlying9
 a9:=Tryz.isAgg9
 z9:=Tryz.sizeOf9
 v9:=Tryz.zeroValue9 }
open Go.RowKit Go.Lib in
theorem Tryz.strings_HasPrefix (s p:ByteArray)(w:World) :
 Calls Tryz.prog 170 #[.string s,.string p] w fun e w'=>e = .returned (.bool (Lib.hasPrefix s.data.toList p.data.toList))∧w'=w:=Any.strings_HasPrefix Tryz.abr s p w
def Tryz.Q6:Go.Shelf.Ren:=⟨fun|155=>130|154=>148|138=>162|165=>163|143=>164|166=>65|197=>165|169=>42|195=>182|218=>183|240=>95|241=>184|219=>185|260=>186|276=>128|277=>200|217=>201|225=>202|224=>203|267=>204|266=>210|314=>211|n=>n,fun|9=>9|3=>3|4=>4|72=>82|0=>0|76=>122|105=>176|21=>21|5=>5|70=>80|20=>20|37=>22|75=>121|127=>127|164=>156|46=>201|119=>204|139=>207|138=>206|146=>214|51=>199|80=>91|n=>n,fun|1=>4|3=>5|4=>6|n=>n⟩
theorem Tryz.abq:Go.Proofs.Lays.n155 Tryz.prog Tryz.Q6:={
 mixed:=by kernel_rfl
 f138:=Tryz.func162.trans (congrArg some (by kernel_rfl))
 f143:=Tryz.func164.trans (congrArg some (by kernel_rfl))
 f154:=Tryz.func148.trans (congrArg some (by kernel_rfl))
 f155:=Tryz.func130.trans (congrArg some (by kernel_rfl))
 f165:=Tryz.func163.trans (congrArg some (by kernel_rfl))
 f166:=Tryz.func65.trans (congrArg some (by kernel_rfl))
 f169:=Tryz.func42.trans (congrArg some (by kernel_rfl))
 f195:=Tryz.func182.trans (congrArg some (by kernel_rfl))
 f197:=Tryz.func165.trans (congrArg some (by kernel_rfl))
 f217:=Tryz.func201.trans (congrArg some (by kernel_rfl))
 f218:=Tryz.func183.trans (congrArg some (by kernel_rfl))
 f219:=Tryz.func185.trans (congrArg some (by kernel_rfl))
 f224:=Tryz.func203.trans (congrArg some (by kernel_rfl))
 f225:=Tryz.func202.trans (congrArg some (by kernel_rfl))
 f240:=Tryz.func95.trans (congrArg some (by kernel_rfl))
 f241:=Tryz.func184.trans (congrArg some (by kernel_rfl))
 f260:=Tryz.func186.trans (congrArg some (by kernel_rfl))
 f266:=Tryz.func210.trans (congrArg some (by kernel_rfl))
 f267:=Tryz.func204.trans (congrArg some (by kernel_rfl))
 f276:=Tryz.func128.trans (congrArg some (by kernel_rfl))
 f277:=Tryz.func200.trans (congrArg some (by kernel_rfl))
 f314:=Tryz.func211.trans (congrArg some (by kernel_rfl))
 t0:=Tryz.underlying0
 a0:=Tryz.isAgg0
 z0:=Tryz.sizeOf0
 v0:=Tryz.zeroValue0
 t3:=Tryz.underlying3
 a3:=Tryz.isAgg3
 z3:=Tryz.sizeOf3
 v3:=Tryz.zeroValue3
 t4:=Tryz.underlying4
 a4:=Tryz.isAgg4
 z4:=Tryz.sizeOf4
 v4:=Tryz.zeroValue4
 t5:=Tryz.underlying5
 a5:=Tryz.isAgg5
 z5:=Tryz.sizeOf5
 v5:=Tryz.zeroValue5
 t9:=Tryz.underlying9
 a9:=Tryz.isAgg9
 z9:=Tryz.sizeOf9
 v9:=Tryz.zeroValue9
 t20:=Tryz.underlying20
 a20:=Tryz.isAgg20
 z20:=Tryz.sizeOf20
 v20:=Tryz.zeroValue20
 t21:=Tryz.underlying21
 a21:=Tryz.isAgg21
 z21:=Tryz.sizeOf21
 v21:=Tryz.zeroValue21
 t37:=Tryz.underlying22
 a37:=Tryz.isAgg22
 z37:=Tryz.sizeOf22
 v37:=Tryz.zeroValue22
 t46:=Tryz.underlying201
 a46:=Tryz.isAgg201
 z46:=Tryz.sizeOf201
 v46:=Tryz.zeroValue201
 t51:=Tryz.underlying199
 a51:=Tryz.isAgg199
 z51:=Tryz.sizeOf199
 v51:=Tryz.zeroValue199
 t70:=Tryz.underlying80
 a70:=Tryz.isAgg80
 z70:=Tryz.sizeOf80
 v70:=Tryz.zeroValue80
 t72:=Tryz.underlying82
 a72:=Tryz.isAgg82
 z72:=Tryz.sizeOf82
 v72:=Tryz.zeroValue82
 t75:=Tryz.underlying121
 a75:=Tryz.isAgg121
 z75:=Tryz.sizeOf121
 v75:=Tryz.zeroValue121
 t76:=Tryz.underlying122
 a76:=Tryz.isAgg122
 z76:=Tryz.sizeOf122
 v76:=Tryz.zeroValue122
 t105:=Tryz.underlying176
 a105:=Tryz.isAgg176
 z105:=Tryz.sizeOf176
 v105:=Tryz.zeroValue176
 t119:=Tryz.underlying204
 a119:=Tryz.isAgg204
 z119:=Tryz.sizeOf204
 t127:=Tryz.underlying127
 a127:=Tryz.isAgg127
 z127:=Tryz.sizeOf127
 v127:=Tryz.zeroValue127
 t138:=Tryz.underlying206
 a138:=Tryz.isAgg206
 z138:=Tryz.sizeOf206
 v138:=Tryz.zeroValue206
 t139:=Tryz.underlying207
 a139:=Tryz.isAgg207
 z139:=Tryz.sizeOf207
 v139:=Tryz.zeroValue207
 t146:=Tryz.underlying214
 a146:=Tryz.isAgg214
 z146:=Tryz.sizeOf214
 v146:=Tryz.zeroValue214
 t164:=Tryz.underlying156
 a164:=Tryz.isAgg156
 z164:=Tryz.sizeOf156
 v164:=Tryz.zeroValue156
 g1:=by kernel_rfl
 g3:=by kernel_rfl
 g4:=by kernel_rfl }
theorem Tryz.Vg:Builder.Extra Tryz.prog Tryz.Q6:={
 sizeBuilder:=by kernel_rfl
 liesBuilder:=by kernel_rfl
 t5:=Tryz.underlying5
 a5:=Tryz.isAgg5
 z5:=Tryz.sizeOf5
 v5:=Tryz.zeroValue5
 infoByte:=by kernel_rfl
 cellsByte:=by kernel_rfl
 sizeByte:=by kernel_rfl
 neB5:=by decide }
open Go.RowKit Go.Lib in
theorem Tryz.strings_ReplaceAll (s old new:ByteArray)(m:Int)(w:World)(hs:s.size<4294967281)(hm:w.cell? ⟨4,0,none⟩=some (.int .i64 m))(h1:1≤old.size)(hlen:s.size+Lib.countB s old*new.size≤140737488355328) :
 Calls Tryz.prog 130 #[.string s,.string old,.string new] w fun e w' =>
  e = .returned (.string ⟨(Lib.replaceAll s.data.toList old.data.toList new.data.toList).toArray⟩)∧Below w.heap.size w w':=Any.strings_ReplaceAll Tryz.abq Tryz.Vg s old new m w hs hm h1 hlen
end Go.Proofs
namespace Go.Proofs.YtaobhjliflomaaaGreatDoor
open Go.RowKit
theorem Bd (s:ByteArray)(a m:Nat):sb (s.extract a (a+m))=((sb s).drop a).take m:=by
 unfold sb;rw[← List.map_drop, ← List.map_take];congr 1;rw[ByteArray.data_extract,Array.toList_extract];rw[List.extract_eq_take_drop];congr 1;omega
def aA(s:ByteArray)(k:Nat):List Int:=(sb s).drop k
theorem ny(s:ByteArray)(k:Nat):(aA s k).length=s.size - k:=by unfold aA;rw[List.length_drop,aV]
theorem yC(s:ByteArray)(k m:Nat)(h:k+m<s.size):(aA s k)[m]? = some ((s[k+m].toNat:Nat):Int):=by unfold aA;rw[List.getElem?_drop,pJ s _ h]
theorem LJ (s:ByteArray)(k m:Nat)(h:k+m<s.size):(aA s k).take (m+1)=(aA s k).take m++[((s[k+m].toNat:Nat):Int)]:=by
 rw[List.take_add_one,yC s k m h];rfl
theorem DI (s:ByteArray)(k m:Nat):s.extract k (k+m)=strOfNums ((aA s k).take m):=by
 rw[← l5 (s.extract k (k+m)),Bd];rfl
theorem TB(s:ByteArray)(k m:Nat):(aA s k).drop m=aA s (k+m):=by unfold aA;rw[List.drop_drop]
theorem LH(s:ByteArray)(k:Nat):Bytes (aA s k):=fun a ha=>sV s a (List.mem_of_mem_drop ha)
def mE(b n:Nat)(w:World):Nat:=n - (match w.cell? ⟨b,1,none⟩with|some (.int _ m)=>m.toNat|_=>0)
theorem bL.mE {w:World}{b:Nat}{s:ByteArray}{k:Nat}(h:bL w b s k)(n:Nat):mE b n w=n - k:=by
 unfold Go.Proofs.YtaobhjliflomaaaGreatDoor.mE;rw[h.facts.2];rfl
def ER (p:Int→Bool)(s:ByteArray)(b k:Nat)(w:World)(e:Ending)(w':World):Prop :=
 w.grownBy w' (some b)∧e = .returned (.string (strOfNums ((aA s k).takeWhile p)))∧bL w' b s (k+((aA s k).takeWhile p).length)
theorem BR {p:Int→Bool}{s:ByteArray}{b k m:Nat}{w wr:World}(hg:w.grownBy wr (some b))(aX:∀x∈(aA s k).take m,p x=true)(zM:∀x,(aA s k)[m]? = some x→p x=false)(hm:k+m≤s.size)
 (hr:bL wr b s (k+m)) (e:Ending) (he:e = .returned (.string (s.extract k (k+m)))):ER p s b k w e wr:=by
 have hsp:=Ak p (aA s k) m aX zM;have hlen:((aA s k).take m).length=m:=by rw[gK,ny];omega
 refine⟨hg, ?_, ?_⟩
 · rw[hsp,he,DI]
 · rw[hsp,hlen];exact hr
theorem aht (b:Nat)(s:ByteArray)(k:Nat)(w:World)(h:bL w b s k)(_hs:s.size≤1000000)(_hk:k≤s.size) :
 Calls Tryz.prog 112 #[.pointer (some ⟨b,0,none⟩),.func (.func 113) #[] #[]] w (ER nN s b k w):=by
 have HR:=ae h;obtain⟨c0,c1⟩:=h.facts;clear h;go_enter Tryz.func112,Tryz.ntmps112;go_wp2_with fail
 clear c0 c1
 go_loopw [] (fun wr=>∃m:Nat,k+m≤s.size∧Hid (∀x∈(aA s k).take m,nN x=true)∧Hid (bL wr b s (k+m))∧Hid (w.grownBy wr (some b)))
  (fun wr=>mE b s.size wr)
 case atStart=>exact⟨0,by omega,ae (by simp),HR,ae (grownBy.fo _ _)⟩
 case round =>
  obtain⟨m,dn,HM,eT,HG⟩:=hrel;obtain⟨c0,c1⟩:=eT.o.facts;have f1:=eT.o.frozen 1;obtain⟨p,hp⟩:∃p:Nat,k+m=p:=⟨_,rfl⟩;rw[hp]at c1;have hz1:(0:Int)≤(k:Int):=by omega
  have hz2:(k:Int)≤(p:Int):=by omega
  have hz3:(p:Int)≤(s.size:Int):=by omega
  have Ku:(0:Int)≤(p:Int):=by omega
  by_cases hlt:p<s.size
  · have kE:(p:Int)<(s.size:Int):=by omega
    obtain⟨a,ha⟩:∃a:Int,(s[p].toNat:Int)=a:=⟨_,rfl⟩;have ha1:0≤a∧a≤255:=by have:=s[p].toNat_lt;omega
    have hnx:(aA s k).take (m+1)=(aA s k).take m++[a]:=by subst hp;rw[LJ s k m hlt,ha]
    have hat:(aA s k)[m]? = some a:=by subst hp;rw[yC s k m hlt,ha]
    have dG:=ae hnx;clear hnx;have HAT:=ae hat;clear hat;have HP:=ae hp;clear hp;by_cases hc:nN a=true
    · have aX:=qd HM.o hc
      rw[← dG.o]at aX;have kr:=ae aX;clear aX;go_wp2_with fail
      go_quiet ((go_at_call 113;exact rD (Rc _ (by omega) (by omega) _)))
      go_wp2_with fail
      go_roundw
      case rel =>
       refine⟨m+1,by have:=HP.o;omega,kr,ae ?_,ae (grownBy.gp (grownBy.eX HG.o _) _ _)⟩;rw[show k+(m+1)=p+1 from by have:=HP.o;omega];exact(eT.o.drewN _).sZ (p+1)
      case measure =>
       have h1:=((eT.o.drewN nq).sZ (p+1)).mE s.size;have h2:=eT.o.mE s.size;have h3:=HP.o;rw[h2];refine Nat.lt_of_le_of_lt (Nat.le_of_eq h1) (by omega)
    · have hc':nN a=false:=by simpa using hc
      clear hc;go_wp2_with fail
      go_quiet ((go_at_call 113;exact rD (Rc _ (by omega) (by omega) _)))
      go_wp2_with fail
      go_quiet (fail)
      go_wp2_with fail
      go_ret;have h3:=HP.o;exact BR (grownBy.eX (grownBy.eX HG.o _) _) HM.o (fun x hx=>by rw[HAT.o]at hx;injection hx with hx;rw[← hx];exact hc') (by omega) ((eT.o.drewN _).drewN _) _ (by rw[h3];rfl)
  · have kE:¬ (p:Int)<(s.size:Int):=by omega
    have HP:=ae hp;clear hp;go_wp2_with fail
    go_quiet (fail)
    go_wp2_with fail
    go_quiet (fail)
    go_wp2_with fail
    go_ret;have h3:=HP.o;exact BR (grownBy.eX (grownBy.eX HG.o _) _) HM.o (fun x hx=>by have h1:=(dW.1 hx).1;rw[ny]at h1;omega) (by omega) ((eT.o.drewN _).drewN _) _ (by rw[h3];rfl)
theorem ahu (b:Nat)(s:ByteArray)(k:Nat)(w:World)(h:bL w b s k)(_hs:s.size≤1000000)(_hk:k≤s.size) :
 Calls Tryz.prog 112 #[.pointer (some ⟨b,0,none⟩),.func (.func 136) #[] #[]] w (ER isNum s b k w):=by
 have HR:=ae h;obtain⟨c0,c1⟩:=h.facts;clear h;go_enter Tryz.func112,Tryz.ntmps112;go_wp2_with fail
 clear c0 c1
 go_loopw [] (fun wr=>∃m:Nat,k+m≤s.size∧Hid (∀x∈(aA s k).take m,isNum x=true)∧Hid (bL wr b s (k+m))∧Hid (w.grownBy wr (some b)))
  (fun wr=>mE b s.size wr)
 case atStart=>exact⟨0,by omega,ae (by simp),HR,ae (grownBy.fo _ _)⟩
 case round =>
  obtain⟨m,dn,HM,eT,HG⟩:=hrel;obtain⟨c0,c1⟩:=eT.o.facts;have f1:=eT.o.frozen 1;obtain⟨p,hp⟩:∃p:Nat,k+m=p:=⟨_,rfl⟩;rw[hp]at c1;have hz1:(0:Int)≤(k:Int):=by omega
  have hz2:(k:Int)≤(p:Int):=by omega
  have hz3:(p:Int)≤(s.size:Int):=by omega
  have Ku:(0:Int)≤(p:Int):=by omega
  by_cases hlt:p<s.size
  · have kE:(p:Int)<(s.size:Int):=by omega
    obtain⟨a,ha⟩:∃a:Int,(s[p].toNat:Int)=a:=⟨_,rfl⟩;have ha1:0≤a∧a≤255:=by have:=s[p].toNat_lt;omega
    have hnx:(aA s k).take (m+1)=(aA s k).take m++[a]:=by subst hp;rw[LJ s k m hlt,ha]
    have hat:(aA s k)[m]? = some a:=by subst hp;rw[yC s k m hlt,ha]
    have dG:=ae hnx;clear hnx;have HAT:=ae hat;clear hat;have HP:=ae hp;clear hp;by_cases hc:isNum a=true
    · have aX:=qd HM.o hc
      rw[← dG.o]at aX;have kr:=ae aX;clear aX;go_wp2_with fail
      go_quiet ((go_at_call 136;exact rD (uL _ (by omega) (by omega) _)))
      go_wp2_with fail
      go_roundw
      case rel =>
       refine⟨m+1,by have:=HP.o;omega,kr,ae ?_,ae (grownBy.gp (grownBy.eX HG.o _) _ _)⟩;rw[show k+(m+1)=p+1 from by have:=HP.o;omega];exact(eT.o.drewN _).sZ (p+1)
      case measure =>
       have h1:=((eT.o.drewN nq).sZ (p+1)).mE s.size;have h2:=eT.o.mE s.size;have h3:=HP.o;rw[h2];refine Nat.lt_of_le_of_lt (Nat.le_of_eq h1) (by omega)
    · have hc':isNum a=false:=by simpa using hc
      clear hc;go_wp2_with fail
      go_quiet ((go_at_call 136;exact rD (uL _ (by omega) (by omega) _)))
      go_wp2_with fail
      go_quiet (fail)
      go_wp2_with fail
      go_ret;have h3:=HP.o;exact BR (grownBy.eX (grownBy.eX HG.o _) _) HM.o (fun x hx=>by rw[HAT.o]at hx;injection hx with hx;rw[← hx];exact hc') (by omega) ((eT.o.drewN _).drewN _) _ (by rw[h3];rfl)
  · have kE:¬ (p:Int)<(s.size:Int):=by omega
    have HP:=ae hp;clear hp;go_wp2_with fail
    go_quiet (fail)
    go_wp2_with fail
    go_quiet (fail)
    go_wp2_with fail
    go_ret;have h3:=HP.o;exact BR (grownBy.eX (grownBy.eX HG.o _) _) HM.o (fun x hx=>by have h1:=(dW.1 hx).1;rw[ny]at h1;omega) (by omega) ((eT.o.drewN _).drewN _) _ (by rw[h3];rfl)
theorem ahv (b:Nat)(s:ByteArray)(k:Nat)(w:World)(h:bL w b s k)(_hs:s.size≤1000000)(_hk:k≤s.size) :
 Calls Tryz.prog 112 #[.pointer (some ⟨b,0,none⟩),.func (.func 158) #[] #[]] w (ER isWord s b k w):=by
 have HR:=ae h;obtain⟨c0,c1⟩:=h.facts;clear h;go_enter Tryz.func112,Tryz.ntmps112;go_wp2_with fail
 clear c0 c1
 go_loopw [] (fun wr=>∃m:Nat,k+m≤s.size∧Hid (∀x∈(aA s k).take m,isWord x=true)∧Hid (bL wr b s (k+m))∧Hid (w.grownBy wr (some b)))
  (fun wr=>mE b s.size wr)
 case atStart=>exact⟨0,by omega,ae (by simp),HR,ae (grownBy.fo _ _)⟩
 case round =>
  obtain⟨m,dn,HM,eT,HG⟩:=hrel;obtain⟨c0,c1⟩:=eT.o.facts;have f1:=eT.o.frozen 1;obtain⟨p,hp⟩:∃p:Nat,k+m=p:=⟨_,rfl⟩;rw[hp]at c1;have hz1:(0:Int)≤(k:Int):=by omega
  have hz2:(k:Int)≤(p:Int):=by omega
  have hz3:(p:Int)≤(s.size:Int):=by omega
  have Ku:(0:Int)≤(p:Int):=by omega
  by_cases hlt:p<s.size
  · have kE:(p:Int)<(s.size:Int):=by omega
    obtain⟨a,ha⟩:∃a:Int,(s[p].toNat:Int)=a:=⟨_,rfl⟩;have ha1:0≤a∧a≤255:=by have:=s[p].toNat_lt;omega
    have hnx:(aA s k).take (m+1)=(aA s k).take m++[a]:=by subst hp;rw[LJ s k m hlt,ha]
    have hat:(aA s k)[m]? = some a:=by subst hp;rw[yC s k m hlt,ha]
    have dG:=ae hnx;clear hnx;have HAT:=ae hat;clear hat;have HP:=ae hp;clear hp;by_cases hc:isWord a=true
    · have aX:=qd HM.o hc
      rw[← dG.o]at aX;have kr:=ae aX;clear aX;go_wp2_with fail
      go_quiet ((go_at_call 158;exact rD (QT _ (by omega) (by omega) _)))
      go_wp2_with fail
      go_roundw
      case rel =>
       refine⟨m+1,by have:=HP.o;omega,kr,ae ?_,ae (grownBy.gp (grownBy.eX HG.o _) _ _)⟩;rw[show k+(m+1)=p+1 from by have:=HP.o;omega];exact(eT.o.drewN _).sZ (p+1)
      case measure =>
       have h1:=((eT.o.drewN nq).sZ (p+1)).mE s.size;have h2:=eT.o.mE s.size;have h3:=HP.o;rw[h2];refine Nat.lt_of_le_of_lt (Nat.le_of_eq h1) (by omega)
    · have hc':isWord a=false:=by simpa using hc
      clear hc;go_wp2_with fail
      go_quiet ((go_at_call 158;exact rD (QT _ (by omega) (by omega) _)))
      go_wp2_with fail
      go_quiet (fail)
      go_wp2_with fail
      go_ret;have h3:=HP.o;exact BR (grownBy.eX (grownBy.eX HG.o _) _) HM.o (fun x hx=>by rw[HAT.o]at hx;injection hx with hx;rw[← hx];exact hc') (by omega) ((eT.o.drewN _).drewN _) _ (by rw[h3];rfl)
  · have kE:¬ (p:Int)<(s.size:Int):=by omega
    have HP:=ae hp;clear hp;go_wp2_with fail
    go_quiet (fail)
    go_wp2_with fail
    go_quiet (fail)
    go_wp2_with fail
    go_ret;have h3:=HP.o;exact BR (grownBy.eX (grownBy.eX HG.o _) _) HM.o (fun x hx=>by have h1:=(dW.1 hx).1;rw[ny]at h1;omega) (by omega) ((eT.o.drewN _).drewN _) _ (by rw[h3];rfl)
theorem Um (b:Nat)(s:ByteArray)(k:Nat)(w:World)(h:bL w b s k)(_hs:s.size≤1000000)(_hk:k≤s.size) :
 Calls Tryz.prog 84 #[.pointer (some ⟨b,0,none⟩)] w fun e w'=>w.grownBy w' (some b)∧e = .returned (.tuple #[])∧bL w' b s (k+((aA s k).takeWhile nN).length):=by
 have HW:=ae (aht b s k w h _hs _hk);clear h;go_enter Tryz.func84,Tryz.ntmps84;go_wp2_with (go_at_call 112;((with_reducible refine HW.o.mono ?_);rintro e w1 ⟨h1,rfl,h2⟩;have H1:=ae h1;have H2:=ae h2;clear h1 h2))
 first
  | exact bodyPost_ret (results_none rfl _ _ _) rfl ⟨H1.o,rfl,H2.o⟩
  | (go_end0;exact⟨H1.o,rfl,H2.o⟩)
def jY(p l:List Int):Bool:=decide (l.take p.length=p)
theorem PR:∀(l p:List UInt8),Lib.hasPrefix l p=jY (p.map fun x=>(x.toNat:Int)) (l.map fun x=>(x.toNat:Int))
 | l,[]=>by unfold Lib.hasPrefix jY;simp
 | [],x :: p=>by unfold Lib.hasPrefix jY;simp
 | y :: l,x :: p=>by
   have ih:=PR l p;unfold Lib.hasPrefix jY at ih ⊢;rw[List.isPrefixOf_cons_cons,ih];simp only[jr,aO,List.take_succ_cons,List.cons.injEq];rw[Bool.eq_iff_iff,dA,beq_iff_eq,decide_eq_true_iff,decide_eq_true_iff];refine and_congr ⟨fun h=>by rw[h],fun h => ?_⟩ Iff.rfl;apply UInt8.toNat_inj.1;omega
theorem ZB {p l:List Int}(h:jY p l=true):p.length≤l.length:=by
 unfold jY at h;rw[decide_eq_true_iff]at h;have:=congrArg List.length h;rw[gK]at this;omega
theorem SH (s t:ByteArray)(k:Nat):Lib.hasPrefix (s.extract k s.size).data.toList t.data.toList=jY (sb t) (aA s k):=by
 rw[PR];show jY (sb t) (sb (s.extract k s.size))=_;congr 1;by_cases hk:k≤s.size
 · have:=Bd s k (s.size - k)
   rw[show k+(s.size - k)=s.size from by omega]at this;rw[this];unfold aA;rw[pW];rw[List.length_drop,aV];omega
 · have h1:(sb (s.extract k s.size)).length=0:=by rw[aV,ByteArray.size_extract];omega
   have h2:(aA s k).length=0:=by rw[ny];omega
   rw[kg h1,kg h2]
theorem UE (b:Nat)(s t:ByteArray)(k:Nat)(w:World)(h:bL w b s k)(_hs:s.size≤1000000)(_hk:k≤s.size)(_ht:t.size≤1000000) :
 Calls Tryz.prog 156 #[.pointer (some ⟨b,0,none⟩),.string t] w fun e w'=>w.grownBy w' (some b)∧e = .returned (.bool (jY (sb t) (aA s k)))∧bL w' b s (if jY (sb t) (aA s k)=true then k+t.size else k):=by
 obtain⟨c0,c1⟩:=h.facts;have f1:=h.frozen 1;have HR:=ae h;clear h;have hz1:(0:Int)≤(k:Int):=by omega
 have hz2:(k:Int)≤(s.size:Int):=by omega
 cases hq:jY (sb t) (aA s k)
 · have HP:=ae (SH s t k);rw[hq]at HP
   go_enter Tryz.func156,Tryz.ntmps156;go_wp2_with fail
   go_quiet ((go_at_call 170;exact Calls.quiet_of_same ((Tryz.strings_HasPrefix _ _ _).mono (fun _ _ ⟨a,c⟩=>⟨by rw[a,HP.o],c⟩))))
   go_wp2_with fail
   go_ret;exact⟨grownBy.eX (grownBy.fo _ _) _,rfl,HR.o.drewN _⟩
 · have HP:=ae (SH s t k);rw[hq]at HP
   have hle:=ZB hq;rw[ny,aV]at hle;go_enter Tryz.func156,Tryz.ntmps156;go_wp2_with fail
   go_quiet ((go_at_call 170;exact Calls.quiet_of_same ((Tryz.strings_HasPrefix _ _ _).mono (fun _ _ ⟨a,c⟩=>⟨by rw[a,HP.o],c⟩))))
   go_wp2_with fail
   go_ret;exact⟨grownBy.gp (grownBy.eX (grownBy.fo _ _) _) _ _,rfl,(HR.o.drewN _).sZ (k+t.size)⟩
def wZ(l:List Int):Bool:=decide (∀x∈l,(aL x||isNum x)=true)&&decide (l.length≤12)
theorem acS (s:ByteArray)(k:Nat)(h:k<s.size)(hx:(aL ((sb s).getD k 0)||isNum ((sb s).getD k 0))=false):wZ (sb s)=false:=by
 unfold wZ;rw[Bool.and_eq_false_iff];left;rw[decide_eq_false_iff_not];intro aX;have:=aX ((sb s).getD k 0) (by rw[sW s k h];exact fu (pJ s k h));rw[hx]at this;cases this
theorem acR (s:ByteArray)(h:∀j,j<s.size→(aL ((sb s).getD j 0)||isNum ((sb s).getD j 0))=true):wZ (sb s)=decide (s.size≤12):=by
 unfold wZ;rw[decide_eq_true (show ∀x∈sb s,(aL x||isNum x)=true from ?_),Bool.true_and,aV];intro x hx;obtain⟨j,hj,rfl⟩:=List.mem_iff_getElem.1 hx;have:=h j (by rw[aV]at hj;exact hj);rw[jG,dm hj]at this;exact this
theorem aaM (s:ByteArray)(w:World)(_hs:s.size≤1000000) :
 Calls Tryz.prog 160 #[.string s] w fun e w'=>e = .returned (.bool (wZ (sb s)))∧w=w':=by
 go_enter Tryz.func160,Tryz.ntmps160;go_wp2_with fail
 go_loopw [6] (fun i wr=>∃k:Nat,k≤s.size∧i = .int .i64 k∧Hid (∀j,j<k→(aL ((sb s).getD j 0)||isNum ((sb s).getD j 0))=true)∧w=wr)
  (fun i _=>s.size - (intOf i).toNat)
 case atStart=>exact⟨0,by omega,rfl,ae (by intro j hj;omega),rfl⟩
 case round =>
  obtain⟨k,hk,rfl,HG,rfl⟩:=hrel;by_cases hlt:k<s.size
  · have hki:(k:Int)<(s.size:Int):=by omega
    obtain⟨a,ha⟩:∃a:Int,(s[k].toNat:Int)=a:=⟨_,rfl⟩;have ha1:0≤a∧a≤255:=by have:=s[k].toNat_lt;omega
    have wu:=ae (show(sb s).getD k 0=a by rw[sW s k hlt,ha])
    have Dh:(aL a||isNum a)=true→∀j,j<k+1→(aL ((sb s).getD j 0)||isNum ((sb s).getD j 0))=true:=by
     intro h j hj;by_cases h1:j<k
     · exact HG.o j h1
     · rw[show j=k from by omega,wu.o];exact h
    have Cu:=ae Dh;clear Dh;cases hc:aL a
    · cases hn:isNum a
      · have dN:=ae (acS s k hlt (by rw[wu.o,hc,hn];rfl))
        go_wp2_with (first
         | (go_at_call 157;((with_reducible refine(Du _ ?_ ?_ _).mono ?_);(first|omega|skip);(first|omega|skip);rintro e w' ⟨rfl,rfl⟩;rw[hc]))
         | (go_at_call 136;((with_reducible refine(uL _ ?_ ?_ _).mono ?_);(first|omega|skip);(first|omega|skip);rintro e w' ⟨rfl,rfl⟩;rw[hn])))
        go_ret;exact⟨fD dN.o.symm,rfl⟩
      · go_wp2_with (first
         | (go_at_call 157;((with_reducible refine(Du _ ?_ ?_ _).mono ?_);(first|omega|skip);(first|omega|skip);rintro e w' ⟨rfl,rfl⟩;rw[hc]))
         | (go_at_call 136;((with_reducible refine(uL _ ?_ ?_ _).mono ?_);(first|omega|skip);(first|omega|skip);rintro e w' ⟨rfl,rfl⟩;rw[hn])))
        go_roundw
        case rel=>exact⟨k+1,by omega,by go_num,ae (Cu.o (by rw[hc,hn];rfl)),by trivial⟩
        case measure=>simp[intOf];omega
    · go_wp2_with (first
       | (go_at_call 157;((with_reducible refine(Du _ ?_ ?_ _).mono ?_);(first|omega|skip);(first|omega|skip);rintro e w' ⟨rfl,rfl⟩;rw[hc])))
      go_roundw
      case rel=>exact⟨k+1,by omega,by go_num,ae (Cu.o (by rw[hc];rfl)),by trivial⟩
      case measure=>simp[intOf];omega
  · have hki:¬ (k:Int)<(s.size:Int):=by omega
    have HA:=ae (acR s (fun j hj=>HG.o j (by omega)));go_wp2_with fail
    go_ret;refine⟨fD (by rw[HA.o,decide_eq_decide];omega),rfl⟩
def pq(c:Int):FuncId:=if isNum c=true then 137 else if c=34 then 138 else if c=35 then 139 else if nk c=true then 141 else 142
theorem RH{c:Int}(h:isNum c=true):pq c=137:=by unfold pq;rw[if_pos h]
theorem RI{c:Int}(h:isNum c=false)(h1:c=34):pq c=138:=by unfold pq;rw[if_neg (by simp[h]),if_pos h1]
theorem RG{c:Int}(h:isNum c=false)(h1:¬ c=34)(h2:c=35):pq c=139:=by unfold pq;rw[if_neg (by simp[h]),if_neg h1,if_pos h2]
theorem RL{c:Int}(h:isNum c=false)(h1:¬ c=34)(h2:¬ c=35)(h3:nk c=true):pq c=141:=by unfold pq;rw[if_neg (by simp[h]),if_neg h1,if_neg h2,if_pos h3]
theorem RJ{c:Int}(h:isNum c=false)(h1:¬ c=34)(h2:¬ c=35)(h3:nk c=false):pq c=142:=by unfold pq;rw[if_neg (by simp[h]),if_neg h1,if_neg h2,if_neg (by simp[h3])]
theorem ach (c:Int)(_h0:0≤c)(_h1:c≤255)(w:World) :
 Calls Tryz.prog 114 #[.int .u8 c] w fun e w'=>e = .returned (.func (.func (pq c)) #[] #[])∧w=w':=by
 cases hn:isNum c
 · by_cases df:c=34
   · have HM:=ae (RI hn df)
     have hb1:(c == 34)=true:=beq_iff_eq.2 df;clear df;go_enter Tryz.func114,Tryz.ntmps114
     go_wp2_with (first
      | (go_at_call 136;((with_reducible refine(uL _ ?_ ?_ _).mono ?_);(first|omega|skip);(first|omega|skip);rintro e w' ⟨rfl,rfl⟩;rw[hn]))
      | (go_at_call 140;((with_reducible refine(xV _ ?_ ?_ _).mono ?_);(first|omega|skip);(first|omega|skip);rintro e w' ⟨rfl,rfl⟩;rw[hb])))
     all_goals go_ret
     all_goals exact⟨by rw[HM.o];rfl,rfl⟩
   · have hb1:(c == 34)=false:=beq_eq_false_iff_ne.2 df
     by_cases jA:c=35
     · have HM:=ae (RG hn df jA)
       have hb2:(c == 35)=true:=beq_iff_eq.2 jA;clear df jA;go_enter Tryz.func114,Tryz.ntmps114
       go_wp2_with (first
        | (go_at_call 136;((with_reducible refine(uL _ ?_ ?_ _).mono ?_);(first|omega|skip);(first|omega|skip);rintro e w' ⟨rfl,rfl⟩;rw[hn]))
        | (go_at_call 140;((with_reducible refine(xV _ ?_ ?_ _).mono ?_);(first|omega|skip);(first|omega|skip);rintro e w' ⟨rfl,rfl⟩;rw[hb])))
       all_goals go_ret
       all_goals exact⟨by rw[HM.o];rfl,rfl⟩
     · have hb2:(c == 35)=false:=beq_eq_false_iff_ne.2 jA
       cases hb:nk c
       · have HM:=ae (RJ hn df jA hb)
         clear df jA;go_enter Tryz.func114,Tryz.ntmps114
         go_wp2_with (first
          | (go_at_call 136;((with_reducible refine(uL _ ?_ ?_ _).mono ?_);(first|omega|skip);(first|omega|skip);rintro e w' ⟨rfl,rfl⟩;rw[hn]))
          | (go_at_call 140;((with_reducible refine(xV _ ?_ ?_ _).mono ?_);(first|omega|skip);(first|omega|skip);rintro e w' ⟨rfl,rfl⟩;rw[hb])))
         all_goals go_ret
         all_goals exact⟨by rw[HM.o];rfl,rfl⟩
       · have HM:=ae (RL hn df jA hb)
         clear df jA;go_enter Tryz.func114,Tryz.ntmps114
         go_wp2_with (first
          | (go_at_call 136;((with_reducible refine(uL _ ?_ ?_ _).mono ?_);(first|omega|skip);(first|omega|skip);rintro e w' ⟨rfl,rfl⟩;rw[hn]))
          | (go_at_call 140;((with_reducible refine(xV _ ?_ ?_ _).mono ?_);(first|omega|skip);(first|omega|skip);rintro e w' ⟨rfl,rfl⟩;rw[hb])))
         all_goals go_ret
         all_goals exact⟨by rw[HM.o];rfl,rfl⟩
 · have HM:=ae (RH hn)
   go_enter Tryz.func114,Tryz.ntmps114
   go_wp2_with (first
    | (go_at_call 136;((with_reducible refine(uL _ ?_ ?_ _).mono ?_);(first|omega|skip);(first|omega|skip);rintro e w' ⟨rfl,rfl⟩;rw[hn]))
    | (go_at_call 140;((with_reducible refine(xV _ ?_ ?_ _).mono ?_);(first|omega|skip);(first|omega|skip);rintro e w' ⟨rfl,rfl⟩;skip)))
   all_goals go_ret
   all_goals exact⟨by rw[HM.o];rfl,rfl⟩
def oh (o:Option (ag × Nat))(b:Nat)(s:ByteArray)(k:Nat)(w:World)(e:Ending)(w':World):Prop :=
 w.grownBy w' (some b)∧((∃t n,o=some (t,n)∧e = .returned (.tuple #[.agg (oM t),.bool true])∧bL w' b s (k+n))∨(o=none∧∃t,e = .returned (.tuple #[.agg (oM t),.bool false])))
theorem grownBy.tq {a w:World}{r:Option Nat}(h:a.grownBy w r)(ad:Addr)(v:Value)(hg:a.heap.size≤ad.block):a.grownBy (w.setCell ad v) r :=
 ⟨h.os,h.tape,h.output,by simpa using h.size,fun j hj hr=>by
  rw[fO _ _ _ _ (by intro e;omega)];exact h.block j hj hr⟩
theorem grownBy.j4 {a w:World}{r:Option Nat}{g:Nat}(h:a.grownBy w r)(hg:a.heap.size≤g)(v0 v1 v2 v3 v4 v5 v6 v7 v8:Value) :
 a.grownBy (((((((((w.setCell ⟨g,0,none⟩ v0).setCell ⟨g,1,none⟩ v1).setCell ⟨g,2,none⟩ v2).setCell ⟨g,3,none⟩ v3).setCell ⟨g,4,none⟩ v4).setCell ⟨g,5,none⟩ v5).setCell ⟨g,6,none⟩ v6).setCell ⟨g,7,none⟩ v7).setCell ⟨g,8,none⟩ v8) r :=
 grownBy.tq (grownBy.tq (grownBy.tq (grownBy.tq (grownBy.tq (grownBy.tq (grownBy.tq (grownBy.tq (grownBy.tq (h) _ _ hg) _ _ hg) _ _ hg) _ _ hg) _ _ hg) _ _ hg) _ _ hg) _ _ hg) _ _ hg
theorem bL.other {w:World}{b:Nat}{s:ByteArray}{k:Nat}(h:bL w b s k)(ad:Addr)(v:Value)(hne:ad.block≠b):bL (w.setCell ad v) b s k:=by
 unfold bL;rw[fO _ _ _ _ (by intro e;exact hne e.symm)];exact h
theorem bL.j4 {w:World}{b:Nat}{s:ByteArray}{k g:Nat}(h:bL w b s k)(hg:g≠b)(v0 v1 v2 v3 v4 v5 v6 v7 v8:Value) :
 bL (((((((((w.setCell ⟨g,0,none⟩ v0).setCell ⟨g,1,none⟩ v1).setCell ⟨g,2,none⟩ v2).setCell ⟨g,3,none⟩ v3).setCell ⟨g,4,none⟩ v4).setCell ⟨g,5,none⟩ v5).setCell ⟨g,6,none⟩ v6).setCell ⟨g,7,none⟩ v7).setCell ⟨g,8,none⟩ v8) b s k :=
 ((((((((h.other _ _ hg).other _ _ hg).other _ _ hg).other _ _ hg).other _ _ hg).other _ _ hg).other _ _ hg).other _ _ hg).other _ _ hg
theorem aC.cells {w:World}{b:Nat}{t:ag}(h:aC w b t):w.cell? ⟨b,0,none⟩=some (.int .i64 t.kind)∧w.cell? ⟨b,1,none⟩=some (.string t.text)∧w.cell? ⟨b,2,none⟩=some (.int .i64 t.num)∧w.cell? ⟨b,3,none⟩=some (.string t.sh)∧w.cell? ⟨b,4,none⟩=some (.int .i64 t.c)∧w.cell? ⟨b,5,none⟩=some (.int .i64 t.r)∧w.cell? ⟨b,6,none⟩=some (.bool t.ac)∧w.cell? ⟨b,7,none⟩=some (.bool t.ar)∧w.cell? ⟨b,8,none⟩=some (.int .i64 t.pos) :=
 ⟨by rw[cell_of_row w b 0 _ _ _ h];rfl,by rw[cell_of_row w b 1 _ _ _ h];rfl,by rw[cell_of_row w b 2 _ _ _ h];rfl,by rw[cell_of_row w b 3 _ _ _ h];rfl,by rw[cell_of_row w b 4 _ _ _ h];rfl,by rw[cell_of_row w b 5 _ _ _ h];rfl,by rw[cell_of_row w b 6 _ _ _ h];rfl,by rw[cell_of_row w b 7 _ _ _ h];rfl,by rw[cell_of_row w b 8 _ _ _ h];rfl⟩
theorem aC.bH {w:World}{b:Nat}{t:ag}(h:aC w b t):w.frozen? ⟨b,0,none⟩=false∧w.frozen? ⟨b,1,none⟩=false∧w.frozen? ⟨b,2,none⟩=false∧w.frozen? ⟨b,3,none⟩=false∧w.frozen? ⟨b,4,none⟩=false∧w.frozen? ⟨b,5,none⟩=false∧w.frozen? ⟨b,6,none⟩=false∧w.frozen? ⟨b,7,none⟩=false∧w.frozen? ⟨b,8,none⟩=false :=
 ⟨h.frozen 0,h.frozen 1,h.frozen 2,h.frozen 3,h.frozen 4,h.frozen 5,h.frozen 6,h.frozen 7,h.frozen 8⟩
abbrev jF:Array Value:=#[.int .i64 0,.string ⟨#[]⟩,.int .i64 0,.string ⟨#[]⟩,.int .i64 0,.int .i64 0,.bool false,.bool false,.int .i64 0]
theorem aC.zero(w:World):aC (w.alloc (.cells jF 71)) w.heap.size ag.zero:=aC.new w ag.zero
theorem aC.load {w:World}{b:Nat}{t:ag}(h:aC w b t):(loadVar 71 ⟨b,0,none⟩).run Tryz.prog w = .ok (.agg (oM t)) w :=
 run_loadVar_row w b 71 71 _ _ _ h Tryz.underlying71 rfl UL
theorem oI {w:World}{b:Nat}{t:ag}(h:aC w b t)(fn:Func)(tmps:Array Value)(ok:Bool)(p u:Tmp)(hf:fn.results=#[.cell p 71,.tmp u])(hp:tmps.getD p undef = .pointer (some ⟨b,0,none⟩))(hu:tmps.getD u undef = .bool ok) :
 (results fn tmps).run Tryz.prog w = .ok (.tuple #[.agg (oM t),.bool ok]) w:=by
 rw[results_cell_tmp hf,hp,hu];simp[asAddr,h.load,Result.andThen]
theorem aC.afo{w:World}{b:Nat}{t:ag}(h:aC w b t)(x:Int):aC (w.setCell ⟨b,0,none⟩ (.int .i64 x)) b { t with kind:=x }:=by unfold aC;rw[heap_setCell_same w b 0 _ _ _ h];rfl
theorem aC.LZ{w:World}{b:Nat}{t:ag}(h:aC w b t)(x:ByteArray):aC (w.setCell ⟨b,1,none⟩ (.string x)) b { t with text:=x }:=by unfold aC;rw[heap_setCell_same w b 1 _ _ _ h];rfl
theorem aC.L6{w:World}{b:Nat}{t:ag}(h:aC w b t)(x:Int):aC (w.setCell ⟨b,2,none⟩ (.int .i64 x)) b { t with num:=x }:=by unfold aC;rw[heap_setCell_same w b 2 _ _ _ h];rfl
theorem aC.afp{w:World}{b:Nat}{t:ag}(h:aC w b t)(x:ByteArray):aC (w.setCell ⟨b,3,none⟩ (.string x)) b { t with sh:=x }:=by unfold aC;rw[heap_setCell_same w b 3 _ _ _ h];rfl
theorem aC.afq{w:World}{b:Nat}{t:ag}(h:aC w b t)(x:Int):aC (w.setCell ⟨b,4,none⟩ (.int .i64 x)) b { t with c:=x }:=by unfold aC;rw[heap_setCell_same w b 4 _ _ _ h];rfl
theorem aC.afr{w:World}{b:Nat}{t:ag}(h:aC w b t)(x:Int):aC (w.setCell ⟨b,5,none⟩ (.int .i64 x)) b { t with r:=x }:=by unfold aC;rw[heap_setCell_same w b 5 _ _ _ h];rfl
theorem aC.afs{w:World}{b:Nat}{t:ag}(h:aC w b t)(x:Bool):aC (w.setCell ⟨b,6,none⟩ (.bool x)) b { t with ac:=x }:=by unfold aC;rw[heap_setCell_same w b 6 _ _ _ h];rfl
theorem aC.aft{w:World}{b:Nat}{t:ag}(h:aC w b t)(x:Bool):aC (w.setCell ⟨b,7,none⟩ (.bool x)) b { t with ar:=x }:=by unfold aC;rw[heap_setCell_same w b 7 _ _ _ h];rfl
theorem aC.afu{w:World}{b:Nat}{t:ag}(h:aC w b t)(x:Int):aC (w.setCell ⟨b,8,none⟩ (.int .i64 x)) b { t with pos:=x }:=by unfold aC;rw[heap_setCell_same w b 8 _ _ _ h];rfl
theorem aC.gY {w:World}{b:Nat}{t0:ag}(h:aC w b t0)(t:ag):aC (((((((((w.setCell ⟨b,0,none⟩ (.int .i64 t.kind)).setCell ⟨b,1,none⟩ (.string t.text)).setCell ⟨b,2,none⟩ (.int .i64 t.num)).setCell ⟨b,3,none⟩ (.string t.sh)).setCell ⟨b,4,none⟩ (.int .i64 t.c)).setCell ⟨b,5,none⟩ (.int .i64 t.r)).setCell ⟨b,6,none⟩ (.bool t.ac)).setCell ⟨b,7,none⟩ (.bool t.ar)).setCell ⟨b,8,none⟩ (.int .i64 t.pos)) b t:=by
 have h9:=(((((((((h.afo t.kind).LZ t.text).L6 t.num).afp t.sh).afq t.c).afr t.r).afs t.ac).aft t.ar).afu t.pos);exact h9
theorem Om:∀(l:List UInt8)(a:Nat)(L:List Int),a<18446744073709551616→cK L=(a:Int)→(∀c∈l,48≤c.toNat∧c.toNat≤57) →
 Lib.parseUint10 a l=if cK (L++l.map fun x=>(x.toNat:Int))<18446744073709551616 then .ok (cK (L++l.map fun x=>(x.toNat:Int))).toNat else .range
 | [],a,L,ha,hL,_=>by
   simp only[List.map_nil,fM];rw[hL,if_pos (by omega)];unfold Lib.parseUint10;simp
 | c :: l,a,L,ha,hL,h=>by
   have hc:=h c (by simp);have hv:cK (L++[(c.toNat:Int)])=10*(a:Int)+((c.toNat:Int) - 48):=by rw[yM,hL]
   have hge:=Au (l.map fun x=>(x.toNat:Int)) (L++[(c.toNat:Int)]) (by
    intro x hx;rw[List.mem_map]at hx;obtain⟨d,hd,rfl⟩:=hx;have:=h d (by simp[hd]);unfold isNum;rw[decide_eq_true_iff];omega) (by omega)
   have e:L++(c :: l).map (fun x=>(x.toNat:Int))=L++[(c.toNat:Int)]++l.map fun x=>(x.toNat:Int):=by simp
   rw[e];unfold Lib.parseUint10;rw[if_pos hc];by_cases h1:1844674407370955162≤a
   · rw[if_pos h1,if_neg (by omega)]
   · rw [if_neg h1]
     by_cases h2:18446744073709551616≤a*10+(c.toNat - 48)
     · rw[if_pos h2,if_neg (by omega)]
     · rw[if_neg h2]
       exact Om l (a*10+(c.toNat - 48)) (L++[(c.toNat:Int)]) (by omega) (by rw[hv];omega) (fun d hd=>h d (by simp[hd]))
theorem Xi (D:ByteArray)(h0:sb D≠[])(h:∀x∈sb D,isNum x=true):Lib.atoiAll D.data.toList=if 9223372036854775807<cK (sb D)then .range else .ok (cK (sb D)):=by
 have hsb:sb D=D.data.toList.map fun x=>(x.toNat:Int):=rfl
 have lH:=Au (sb D) [] h (by decide);rw[gL,show cK []=0 from rfl]at lH;rw[hsb]at h0 h lH ⊢;cases hl:D.data.toList with
 | nil=>rw[hl]at h0;exact absurd rfl h0
 | cons c r =>
   rw[hl]at h lH
   have aX:∀d∈c :: r,48≤d.toNat∧d.toNat≤57:=by
    intro d hd;have:=iT (h (d.toNat:Int) (List.mem_map_of_mem (f:=fun x:UInt8=>(x.toNat:Int)) hd));omega
   have hc:=aX c (by simp);unfold Lib.atoiAll;simp only;rw[if_neg (by omega)];unfold Lib.parseMag;rw[if_neg (by simp)];rw[Om (c :: r) 0 [] (by omega) rfl aX,gL];have zG:¬ c.toNat=45:=by omega
   by_cases h1:cK ((c :: r).map fun x=>(x.toNat:Int))<18446744073709551616
   · rw [if_pos h1]
     simp only[zG,false_and,not_false_iff,true_and,if_false];by_cases h2:9223372036854775807<cK ((c :: r).map fun x=>(x.toNat:Int))
     · rw[if_pos h2,if_pos (by omega)]
     · rw[if_neg h2,if_neg (by omega)]
       congr 1;omega
   · rw[if_neg h1,if_pos (by omega)]
def xx(w:World):Prop:=∃ev,w.cell? ⟨8,0,none⟩=some ev∧(ev = .nilIface∨∃te pe,ev = .iface te pe)
theorem xx.grown {w w':World}{b:Nat}(h:xx w)(hg:w.grownBy w' (some b))(hb:8<b):xx w':=by
 obtain⟨ev,h1,h2⟩:=h;refine⟨ev, ?_,h2⟩;rw[Bb hg ?_ (by intro e;have:=dU e;simp at this;omega)]
 · exact h1
 · rcases Nat.lt_or_ge 8 w.heap.size with h'|h'
   · exact h'
   · exfalso;unfold World.cell? at h1;simp only at h1;rw[Array.getElem?_eq_none h']at h1;cases h1
theorem aC.drew{w:World}{b:Nat}{t:ag}(h:aC w b t):aC w.drew b t:=h
theorem bL.drew{w:World}{b:Nat}{s:ByteArray}{k:Nat}(h:bL w b s k):bL w.drew b s k:=h
theorem grownBy.Fe{a w:World}{r:Option Nat}(h:a.grownBy w r):a.grownBy w.drew r:=⟨h.os,h.tape,h.output,h.size,h.block⟩
theorem Xj (D:ByteArray)(hD:D.size≤1000000)(v:Int)(h:Lib.atoiAll D.data.toList = .ok v)(w:World):Calls Tryz.prog 155 #[.string D] w fun e w'=>e = .returned (.tuple #[.int .i64 v,.nilIface])∧Below w.heap.size w w':=by
 refine(Tryz.strconv_Atoi_ok D (by omega) v h w).mono ?_;rintro e w' ⟨rfl,rfl|⟨t,rfl⟩⟩
 · exact⟨rfl,ai _ _⟩
 · exact⟨rfl,Lib.bytesWorld_below _ _ _⟩
theorem LB:Tryz.f137.results=#[.cell 2 71,.tmp 3]:=by kernel_rfl
theorem ac9 (b:Nat)(s:ByteArray)(k:Nat)(w:World)(h:bL w b s k)(_hs:s.size≤1000000)(_hk:k<s.size)(hd:isNum ((s[k].toNat:Nat):Int)=true)(hev:xx w)(hb2:8<b) :
 Calls Tryz.prog 137 #[.pointer (some ⟨b,0,none⟩)] w (oh (kF (aA s k)) b s k w):=by
 have hal:w.grownBy (w.alloc (.cells jF 71)) (some b):=grownBy.below' (grownBy.fo _ _) ((ai _ _).alloc (ah _) _);have h1:bL (w.alloc (.cells jF 71)) b s k:=h.below ((ai _ _).alloc (ah _) _) h.lt;have hlt:=h.lt;have Vr:=ae (hev.grown hal hb2);clear hev;obtain⟨ds,hds⟩:∃ds,(aA s k).takeWhile isNum=ds:=⟨_,rfl⟩;obtain⟨D,hD⟩:∃D,strOfNums ds=D:=⟨_,rfl⟩;have hbd:Bytes ds:=fun x hx=>LH s k x (by rw[← hds]at hx;exact(List.takeWhile_prefix _).subset hx)
 have sJ:sb D=ds:=by rw[← hD];exact jd ds hbd
 have aaq:D.size=ds.length:=by rw[← aV,sJ]
 have hlen:ds.length≤s.size:=by rw[← hds];have h0:=Al isNum (aA s k);rw[ny]at h0;omega
 have hW:=(ahu b s k _ h1 _hs (by omega)).mono (R':=fun e w'=>(w.alloc (.cells jF 71)).grownBy w' (some b)∧e = .returned (.string D)∧bL w' b s (k+ds.length)) (fun e w' ⟨x1,x2,x3⟩=>⟨x1,by rw[x2,hds,hD],by rw[hds]at x3;exact x3⟩);have HW:=ae hW;clear hW h1 h;have aU:=ae hal;clear hal;have aM:=ae (aC.zero w)
 have hne:ds≠[]:=by
  have h0:=yC s k 0 (by omega);rw[← hds];cases hr:aA s k with
  | nil=>rw[hr]at h0;simp at h0
  | cons x l=>rw[hr]at h0;simp at h0;rw[List.takeWhile_cons,h0,hd];simp
 have aX:∀x∈ds,isNum x=true:=by rw[← hds];exact tC isNum _
 have hN:kF (aA s k)=if (1<ds.length∧ds.head? = some 48)∨9223372036854775807<cK ds then none else some ({ ag.zero with kind:=1,num:=cK ds },ds.length):=by
  unfold kF;rw[hds]
  have hh:(aA s k).head? = ds.head? := by
   have e:=take_split isNum (aA s k);rw[hds]at e;rw[← e];cases ds with
   | nil=>exact absurd rfl hne
   | cons x l=>rfl
  rw[hh]
 have hat:=Xi D (by rw[sJ];exact hne) (by rw[sJ];exact aX);rw[sJ]at hat;have hp:=List.length_pos_iff.2 hne;have hD0:0<D.size:=by omega
 obtain⟨a,ha⟩:∃a:Int,(D[0].toNat:Int)=a:=⟨_,rfl⟩;have hhd:ds.head? = some a:=by rw[← ha, ← sJ,List.head?_eq_getElem?,pJ D 0 hD0]
 have hmx:D.size≤1000000:=by omega
 have HD:=ae hD;have HSD:=ae sJ;have ahV:=ae hlen;have kr:=ae aX;clear hne aX hbd hds hD sJ hlen;have hw0:w.heap.size≠b:=by omega
 by_cases h48:1<ds.length∧ds.head? = some 48
 · rw[if_pos (Or.inl h48)]at hN
   have HN:=ae hN;clear hN hat;have ah8:(1:Int)<(D.size:Int):=by omega
   have ah9:(a == 48)=true:=by rw[hhd]at h48;exact beq_iff_eq.2 (dU h48.2)
   have HHD:=ae hhd;clear h48 hhd hp;go_enter Tryz.func137,Tryz.ntmps137;go_wp2_with (go_at_call 112;((with_reducible refine HW.o.mono ?_);rintro e w1 ⟨h1,rfl,h2⟩;have H1:=ae h1;have H2:=ae h2;clear h1 h2;have HT1:=ae (aM.o.grown H1.o hw0);obtain⟨x0,x1,x2,x3,x4,x5,x6,x7,av⟩:=HT1.o.cells;obtain⟨f0,f1,f2,f3,f4,f5,f6,f7,f8⟩:=HT1.o.bH))
   exact bodyPost_ret (oI (HT1.o.gY ag.zero) _ _ false 2 3 LB rfl rfl) rfl ⟨grownBy.j4 (grownBy.trans' aU.o H1.o) (ah _) _ _ _ _ _ _ _ _ _,.inr ⟨HN.o,ag.zero,rfl⟩⟩
 · by_cases qj:9223372036854775807<cK ds
   · rw [if_pos (Or.inr qj)]at hN
     rw[if_pos qj]at hat;have HN:=ae hN;have HAT:=ae hat;clear hN hat
     have zA:(a == 48)=false∨((a == 48)=true∧¬ (1:Int)<(D.size:Int)):=by
      by_cases zu:a=48
      · refine .inr ⟨beq_iff_eq.2 zu,fun h1=>h48 ⟨by omega,by rw[hhd,zu]⟩⟩
      · exact .inl (beq_eq_false_iff_ne.2 zu)
     clear h48 hhd hp qj;go_enter Tryz.func137,Tryz.ntmps137;rcases zA with hc1|⟨hc1,hc2⟩
     all_goals go_wp2_with (first
      | (go_at_call 112;((with_reducible refine HW.o.mono ?_);rintro e w1 ⟨h1,rfl,h2⟩;have H1:=ae h1;have H2:=ae h2;clear h1 h2;obtain⟨ev,H9,HE2⟩:=Vr.o.grown H1.o hb2;have H9:=ae H9;have HE2:=ae HE2))
      | (go_at_call 155;((with_reducible refine(Tryz.strconv_Atoi_range D ?_ HAT.o ev _ H9.o HE2.o).mono ?_);(first|omega|skip);rintro e w2 ⟨N,rfl, -, -,h3⟩;have H3:=ae h3;clear h3;have HT2:=ae ((aM.o.grown H1.o hw0).below H3.o (aM.o.grown H1.o hw0).lt);obtain⟨x0,x1,x2,x3,x4,x5,x6,x7,av⟩:=HT2.o.cells;obtain⟨f0,f1,f2,f3,f4,f5,f6,f7,f8⟩:=HT2.o.bH)))
     all_goals (generalize Lib.atoiSat D.data.toList=sat)
     all_goals go_region
     all_goals go_wp2_with fail
     all_goals exact bodyPost_ret (oI (HT2.o.gY { ag.zero with kind:=1,num:=sat }).drew _ _ false 2 3 LB rfl rfl) rfl ⟨grownBy.Fe (grownBy.j4 (grownBy.below' (grownBy.trans' aU.o H1.o) H3.o) (ah _) _ _ _ _ _ _ _ _ _),.inr ⟨HN.o,{ ag.zero with kind:=1,num:=sat },rfl⟩⟩
   · rw [if_neg (show ¬ ((1<ds.length∧ds.head? = some 48)∨9223372036854775807<cK ds)from fun h1=>h1.elim h48 qj)]at hN
     rw[if_neg qj]at hat;obtain⟨v,hv⟩:∃v,cK ds=v:=⟨_,rfl⟩;rw[hv]at hN hat;have HN:=ae hN;have HAT:=ae hat;clear hN hat hv
     have zA:(a == 48)=false∨((a == 48)=true∧¬ (1:Int)<(D.size:Int)):=by
      by_cases zu:a=48
      · refine .inr ⟨beq_iff_eq.2 zu,fun h1=>h48 ⟨by omega,by rw[hhd,zu]⟩⟩
      · exact .inl (beq_eq_false_iff_ne.2 zu)
     clear h48 hhd hp qj;go_enter Tryz.func137,Tryz.ntmps137;rcases zA with hc1|⟨hc1,hc2⟩
     all_goals go_wp2_with (first
      | (go_at_call 112;((with_reducible refine HW.o.mono ?_);rintro e w1 ⟨h1,rfl,h2⟩;have H1:=ae h1;have H2:=ae h2;clear h1 h2))
      | (go_at_call 155;((with_reducible refine(Xj D ?_ v HAT.o _).mono ?_);(first|omega|skip);rintro e w2 ⟨rfl,h3⟩;have H3:=ae h3;clear h3;have HL2:=ae (H2.o.below H3.o H2.o.lt);have HT2:=ae ((aM.o.grown H1.o hw0).below H3.o (aM.o.grown H1.o hw0).lt);obtain⟨x0,x1,x2,x3,x4,x5,x6,x7,av⟩:=HT2.o.cells;obtain⟨f0,f1,f2,f3,f4,f5,f6,f7,f8⟩:=HT2.o.bH)))
     all_goals go_region
     all_goals go_wp2_with fail
     all_goals exact bodyPost_ret (oI (HT2.o.gY { ag.zero with kind:=1,num:=v }).drew _ _ true 2 3 LB rfl rfl) rfl ⟨grownBy.Fe (grownBy.j4 (grownBy.below' (grownBy.trans' aU.o H1.o) H3.o) (ah _) _ _ _ _ _ _ _ _ _),.inl ⟨_,_,HN.o,rfl,(HL2.o.j4 hw0 _ _ _ _ _ _ _ _ _).drew⟩⟩
theorem QJ:∀(l:List UInt8),Lib.indexByte l 33=if ((l.map (fun b=>(b.toNat:Int))).takeWhile jm).length=l.length then -1 else (((l.map (fun b=>(b.toNat:Int))).takeWhile jm).length:Int)
 | []=>rfl
 | x :: l=>by
   have ih:=QJ l;unfold Lib.indexByte;by_cases hx:x=33
   · subst hx
     have hne:jm ((33:UInt8).toNat:Int)=false:=by decide
     rw[jr,List.takeWhile_cons,hne];simp
   · have hne:jm (x.toNat:Int)=true:=by
      unfold jm;rw[decide_eq_true_iff];intro h;apply hx;apply UInt8.toNat_inj.1;show x.toNat=33;omega
     have hb:(x == (33:UInt8))=false:=by rw[beq_eq_false_iff_ne];exact hx
     rw[hb,jr,List.takeWhile_cons,hne,if_pos rfl,aO,aO,ih];obtain⟨n,hn⟩:∃n,((l.map (fun b=>(b.toNat:Int))).takeWhile jm).length=n:=⟨_,rfl⟩;rw[hn];by_cases h:n=l.length
     · have h2:n+1=l.length+1:=by omega
       rw[if_pos h,if_pos h2];rfl
     · have h2:¬ n+1=l.length+1:=by omega
       rw[if_neg h,if_neg h2];have:((n:Int) == -1)=false:=by rw[beq_eq_false_iff_ne];omega
       rw[this];simp
theorem aaA (d:Rd):Lib.indexByte d.s.data.toList 33=if d.bK.length=d.s.size then -1 else (d.bK.length:Int):=by
 rw[QJ];unfold Rd.bK sb;rw[← qB];have:d.s.toList.length=d.s.size:=by rw[qB];rfl
 rw[this]
theorem Mc (d:Rd):(sb d.s).take d.bK.length=d.bK:=by
 have e:=take_split jm (sb d.s);have h:(d.bK++(sb d.s).drop d.bK.length).take d.bK.length=d.bK:=List.take_left;have e2:d.bK++(sb d.s).drop d.bK.length=sb d.s:=e;rw[e2]at h;exact h
theorem Ma (d:Rd)(h:¬ d.bK.length=d.s.size):d.bK.length<d.s.size:=by
 have e:=congrArg List.length (take_split jm (sb d.s));rw[ak,aV]at e;unfold Rd.bK at h ⊢;omega
theorem afQ (b:Nat)(d:Rd)(w:World)(h:bP w b d)(_hs:d.s.size≤1000000) :
 Calls Tryz.prog 172 #[.pointer (some ⟨b,0,none⟩)] w (Part d.jP b w):=by
 obtain⟨c0,c1,c2,c3,c4,c5,c6⟩:=h.facts;have f1:=h.frozen 1;have f2:=h.frozen 2;clear c3 c4 c5 c6;have HR:=ae h;clear h;have hix:=aaA d;by_cases hno:d.bK.length=d.s.size
 · have hf:d.jP=some d:=by unfold Rd.jP;rw[if_pos hno]
   rw[if_pos hno]at hix;have HF:=ae hf;clear hf hno;have Em:=ae hix;clear hix;go_enter Tryz.func172,Tryz.ntmps172;go_wp2_with (go_at_call 193;((with_reducible refine(Tryz.strings_IndexByte d.s 33 _).mono ?_);rintro e w1 ⟨rfl,rfl⟩;(rw[show(33:Int).toNat.toUInt8=33 from rfl,Em.o])))
   go_ret;exact⟨grownBy.fo _ _,.inl ⟨d,HF.o,rfl,HR.o⟩⟩
 · have hlt:=Ma d hno
   rw[if_neg hno]at hix;obtain⟨i,hi⟩:∃i:Nat,d.bK.length=i:=⟨_,rfl⟩;rw[hi]at hix hlt;have hf:d.jP=if gX d.bK=true then some { d with sh:=strOfNums d.bK,k:=i+1 }else none:=by unfold Rd.jP;rw[if_neg hno,hi]
   have hcut:d.s.extract 0 i=strOfNums d.bK:=by
    rw[← Mc,hi, ← l5 (d.s.extract 0 i)];congr 1;unfold sb;rw[← List.map_take];congr 1;simp[ByteArray.data_extract]
   have hsz:(strOfNums d.bK).size≤1000000:=by rw[strOfNums_size];omega
   have hb:sb (strOfNums d.bK)=d.bK:=jd _ (fun x hx=>sV d.s x (by rw[← Mc]at hx;exact List.mem_of_mem_take hx));have Em:=ae hix;clear hix;have HF:=ae hf;clear hf;have Nf:=ae hcut;clear hcut;have HB:=ae hb;clear hb;have aip:(i:Int)≤(d.s.size:Int):=by omega
   have hi0:(0:Int)≤(i:Int):=by omega
   clear hno hi;go_enter Tryz.func172,Tryz.ntmps172;by_cases hn:gX d.bK=true
   · have hf2:d.jP=some { d with sh:=strOfNums d.bK,k:=i+1 }:=by rw[HF.o,if_pos hn]
     have bI:=ae hf2;clear hf2
     go_wp2_with (first
      | (go_at_call 193;((with_reducible refine(Tryz.strings_IndexByte d.s 33 _).mono ?_);rintro e w1 ⟨rfl,rfl⟩;(rw[show(33:Int).toNat.toUInt8=33 from rfl,Em.o])))
      | (go_at_call 135;rw[Nf.o];((with_reducible refine(Gc _ _ ?_).mono ?_);(first|omega|skip);rintro e w2 ⟨rfl,rfl⟩;rw[HB.o,hn])))
     go_ret;exact⟨grownBy.gp (grownBy.gp (grownBy.fo _ _) _ _) _ _,.inl ⟨_,bI.o,rfl,(HR.o.afy (strOfNums d.bK)).sZ (i+1)⟩⟩
   · have hf2:d.jP=none:=by rw[HF.o,if_neg hn]
     have hn':gX d.bK=false:=by simpa using hn
     have bI:=ae hf2;clear hf2 hn
     go_wp2_with (first
      | (go_at_call 193;((with_reducible refine(Tryz.strings_IndexByte d.s 33 _).mono ?_);rintro e w1 ⟨rfl,rfl⟩;(rw[show(33:Int).toNat.toUInt8=33 from rfl,Em.o])))
      | (go_at_call 135;rw[Nf.o];((with_reducible refine(Gc _ _ ?_).mono ?_);(first|omega|skip);rintro e w2 ⟨rfl,rfl⟩;rw[HB.o,hn'])))
     go_ret;exact⟨grownBy.gp (grownBy.gp (grownBy.fo _ _) _ _) _ _,.inr ⟨bI.o,rfl⟩⟩
theorem W9 (b g n:Nat)(f:Nat→FuncId)(run:Nat→Rd→Option Rd)(w:World)(_hn:n≤100)(hgb:g≠b)(hg:g<w.heap.size)
 (vJ:∀j,j<n→∀args (v:World),(callFunc (f j) args).run Tryz.prog v = .ok (.enter (f j) args) v)
 (hcell:∀j,j<n→w.cell? ⟨g,j,none⟩=some (.func (.func (f j)) #[.pointer (some ⟨b,0,none⟩)] #[]))
 (P:Nat→Rd→Prop) (d:Rd) (h0:P 0 d) (hr:bP w b d)
 (Bj:∀j,j<n→∀d (w:World),P j d→bP w b d→(∀d',run j d=some d'→P (j+1) d')∧Calls Tryz.prog (f j) #[.pointer (some ⟨b,0,none⟩)] w (Part (run j d) b w))
 (o:Option Rd) (ql:∀d',P n d'→o=some d') (kT:∀j d',j<n→P j d'→run j d'=none→o=none) :
 Calls Tryz.prog 171 #[.slice (some ⟨g,0,none⟩) n n] w (Part o b w):=by
 have HC:=ae vJ;clear vJ;have HL:=ae hcell;clear hcell;have HS:=ae Bj;clear Bj;have HE:=ae ql;clear ql;have HB:=ae kT;clear kT;have H0:=ae h0;clear h0;have HR:=ae hr;clear hr;go_enter Tryz.func171,Tryz.ntmps171;go_wp2_with fail
 go_loopw [7] (fun i wr=>∃(j:Nat)(d:Rd),i = .int .i64 j∧j≤n∧Hid (P j d)∧Hid (bP wr b d)∧Hid (w.grownBy wr (some b)))
  (fun i _=>n - (intOf i).toNat)
 case atStart=>exact⟨0,d,rfl,by omega,H0,HR,ae (grownBy.fo _ _)⟩
 case round =>
  obtain⟨j,d,rfl,hj,HP,eT,HG⟩:=hrel;by_cases hlt:j<n
  · have hji:(j:Int)<(n:Int):=by omega
    have hce:wr.cell? ⟨g,j,none⟩=some (.func (.func (f j)) #[.pointer (some ⟨b,0,none⟩)] #[]):=by
     rw[Bb HG.o (by exact hg) (by intro h;exact hgb (dU h))];exact HL.o j hlt
    have wS:=HC.o j hlt;obtain⟨fj,hfj⟩:∃fj,f j=fj:=⟨_,rfl⟩;rw[hfj]at hce wS;have Nk:=ae hfj;clear hfj;cases hq:run j d with
    | some d' =>
      have HQ:=ae hq;clear hq;go_wp2_with fail
      have hs:=HS.o j hlt d wr HP.o eT.o;rw[Nk.o,HQ.o]at hs;have gu:=ae (hs.1 d' rfl);refine hs.2.mono ?_;rintro e w1 ⟨hg1,⟨d2,h1,rfl,h3⟩|⟨h1,_⟩⟩
      · injection h1 with h1;subst h1
        have mM:=ae (grownBy.trans' HG.o hg1);clear hg1;have HR1:=ae h3;clear h3;clear hs;go_wp2_with fail
        go_roundw
        case rel=>exact⟨j+1,d',by go_num,by omega,gu,HR1,mM⟩
        case measure=>simp[intOf];omega
      · cases h1
    | none =>
      have HQ:=ae hq;clear hq;go_wp2_with fail
      have hs:=HS.o j hlt d wr HP.o eT.o;rw[Nk.o,HQ.o]at hs;refine hs.2.mono ?_;rintro e w1 ⟨hg1,⟨d2,h1,_,_⟩|⟨_,rfl⟩⟩
      · cases h1
      · have mM:=ae (grownBy.trans' HG.o hg1);clear hg1
        clear hs;go_wp2_with fail
        go_ret;exact⟨mM.o,.inr ⟨HB.o j d hlt HP.o HQ.o,rfl⟩⟩
  · have hji:¬ (j:Int)<(n:Int):=by omega
    have hjn:j=n:=by omega
    have hen:=HE.o d (by rw[← hjn];exact HP.o);have Ia:=ae hen;clear hen hjn;go_wp2_with fail
    go_ret;exact⟨HG.o,.inl ⟨d,Ia.o,rfl,eT.o⟩⟩
def chain (run:Nat→Rd→Option Rd)(d:Rd):Nat→Option Rd
 | 0=>some d
 | j+1=>(chain run d j).bind (run j)
theorem OY (run:Nat→Rd→Option Rd)(d:Rd)(j:Nat)(h:chain run d j=none):∀m,chain run d (j+m)=none
 | 0=>h
 | m+1=>by show(chain run d (j+m)).bind (run (j+m))=none;rw[OY run d j h m];rfl
def xL(f:Rd→Option Rd):Prop:=∀d d',d.k≤d.s.size→f d=some d'→d'.s=d.s∧d'.k≤d.s.size
theorem aa4:xL Rd.jP:=by
 intro d d' hk h;unfold Rd.jP at h;by_cases h1:d.bK.length=d.s.size
 · rw[if_pos h1]at h;injection h with h;subst h;exact⟨rfl,hk⟩
 · rw[if_neg h1]at h
   have:=Ma d h1;by_cases h2:gX d.bK=true
   · rw[if_pos h2]at h;injection h with h;subst h;exact⟨rfl,this⟩
   · rw[if_neg h2]at h;cases h
theorem F6 (d:Rd)(hk:d.k≤d.s.size):d.k+(eu d.mark).length≤d.s.size:=by
 have h1:=congrArg List.length (KO d);rw[ak,qA]at h1;omega
theorem aaY:xL Rd.xQ:=by
 intro d d' hk h;unfold Rd.xQ at h;injection h with h;subst h;exact⟨rfl,F6 d hk⟩
theorem aaZ:xL Rd.xR:=by
 intro d d' hk h;unfold Rd.xR at h;injection h with h;subst h;exact⟨rfl,F6 d hk⟩
theorem Mj (p:Int→Bool)(d:Rd)(hk:d.k≤d.s.size):d.k+(d.rest.takeWhile p).length≤d.s.size:=by
 have h1:=congrArg List.length (take_split p d.rest);rw[ak,qA]at h1;omega
theorem aa1:xL Rd.col:=by
 intro d d' hk h;unfold Rd.col at h;by_cases h2:iR (d.rest.takeWhile aL)=true
 · rw[if_pos h2]at h;injection h with h;subst h;exact⟨rfl,Mj aL d hk⟩
 · rw[if_neg h2]at h;cases h
theorem aa3:xL Rd.row:=by
 intro d d' hk h;unfold Rd.row at h;by_cases h2:isRow (d.rest.takeWhile isNum)=true
 · rw[if_pos h2]at h;injection h with h;subst h;exact⟨rfl,Mj isNum d hk⟩
 · rw[if_neg h2]at h;cases h
theorem aa2:xL Rd.fin:=by
 intro d d' hk h;unfold Rd.fin at h;by_cases h2:d.k=d.s.size
 · rw[if_pos h2]at h;injection h with h;subst h;exact⟨rfl,hk⟩
 · rw[if_neg h2]at h;cases h
theorem Xa (b g n:Nat)(f:Nat→FuncId)(run:Nat→Rd→Option Rd)(w:World)(hn:n≤100)(hgb:g≠b)(hg:g<w.heap.size)
 (vJ:∀j,j<n→∀args (v:World),(callFunc (f j) args).run Tryz.prog v = .ok (.enter (f j) args) v)
 (hcell:∀j,j<n→w.cell? ⟨g,j,none⟩=some (.func (.func (f j)) #[.pointer (some ⟨b,0,none⟩)] #[]))
 (d:Rd) (hr:bP w b d) (hs:d.s.size≤1000000) (hk:d.k≤d.s.size)
 (J8:∀j,j<n→xL (run j))
 (Kg:∀j,j<n→∀d (w:World),bP w b d→d.s.size≤1000000→d.k≤d.s.size→Calls Tryz.prog (f j) #[.pointer (some ⟨b,0,none⟩)] w (Part (run j d) b w)) :
 Calls Tryz.prog 171 #[.slice (some ⟨g,0,none⟩) n n] w (Part (chain run d n) b w):=by
 refine W9 b g n f run w hn hgb hg vJ hcell (fun j e=>chain run d j=some e∧e.s=d.s∧e.k≤d.s.size) d ⟨rfl,rfl,hk⟩ hr ?_ _ ?_ ?_
 · rintro j hj e v ⟨h1,h2,h3⟩ hrv
   refine⟨?_,Kg j hj e v hrv (by rw[h2];exact hs) (by rw[h2];exact h3)⟩;intro e' he';obtain⟨k1,k2⟩:=J8 j hj e e' (by rw[h2];exact h3) he';refine⟨?_,by rw[k1,h2],by rw[← h2];exact k2⟩;show(chain run d j).bind (run j)=some e';rw[h1];exact he'
 · rintro e ⟨h1,_,_⟩;exact h1
 · rintro j e hj ⟨h1,_,_⟩ h2
   have h3:chain run d (j+1)=none:=by show(chain run d j).bind (run j)=none;rw[h1];exact h2
   have:=OY run d (j+1) h3 (n - (j+1));rw[show j+1+(n - (j+1))=n from by omega]at this;exact this
theorem uq {w w1 w2:World}{r B:Nat}(hb:Below B w w1)(h:w1.grownBy w2 (some r))(hB:B≤w1.heap.size)(hr:B≤r):Below B w w2 :=
 hb.grown h hB (fun k hk=>by cases hk;exact hr)
theorem rz(fn:Fn)(first cap:Array Value)(w:World):(Instr.makeFunc fn first cap).run Tryz.prog w = .ok (.func fn first cap) w:=rfl
def BS(s:ByteArray)(w:World):World:=w.alloc (.cells #[.string s,.int .i64 0,.string ⟨#[]⟩,.int .i64 0,.int .i64 0,.bool false,.bool false] 182)
def mv(f:FuncId)(b:Nat):Value := .func (.func f) #[.pointer (some ⟨b,0,none⟩)] #[]
def yO(s:ByteArray)(l:Array Value)(w:World):World:=(BS s w).alloc (.cells l 23)
theorem Mg(s:ByteArray)(w:World):(BS s w).heap.size=w.heap.size+1:=by unfold BS;simp
theorem Uk(s:ByteArray)(l:Array Value)(w:World):(yO s l w).heap.size=w.heap.size+1+1:=by unfold yO;rw[← Mg s w];simp
theorem aea (s:ByteArray)(l:Array Value)(w:World):bP (yO s l w) w.heap.size (Rd.start s):=by
 have h:bP (BS s w) w.heap.size (Rd.start s):=(ko w _).1;exact h.below ((ai _ _).alloc (ah _) _) h.lt
theorem Xy(s:ByteArray)(l:Array Value)(w:World):Below w.heap.size w (yO s l w):=((ai _ _).alloc (ah _) _).alloc (by have:=Mg s w;unfold BS at this;omega) _
theorem X0 (s:ByteArray)(l:Array Value)(w:World)(L:List Value)(hl:l.toList=L)(j:Nat)(u:Value)(hj:L[j]? = some u):(yO s l w).cell? ⟨w.heap.size+1,j,none⟩=some u:=by
 have h:=gQ (w:=BS s w) l 23 L hl j u hj;rw[Addr.add_mid,Nat.zero_add,Mg]at h;exact h
theorem Xb (n:Nat)(f:Nat→FuncId)(run:Nat→Rd→Option Rd)(s:ByteArray)(w:World)(l:Array Value)(L:List Value)(hl:l.toList=L)(hn:n≤100)(hs:s.size≤1000000)
 (vJ:∀j,j<n→∀args (v:World),(callFunc (f j) args).run Tryz.prog v = .ok (.enter (f j) args) v)
 (hL:∀j,j<n→L[j]? = some (mv (f j) w.heap.size))
 (J8:∀j,j<n→xL (run j))
 (Kg:∀j,j<n→∀b d (w:World),bP w b d→d.s.size≤1000000→d.k≤d.s.size→Calls Tryz.prog (f j) #[.pointer (some ⟨b,0,none⟩)] w (Part (run j d) b w)) :
 Calls Tryz.prog 171 #[.slice (some ⟨w.heap.size+1,0,none⟩) n n] (yO s l w) fun e w'=>Below w.heap.size w w'∧((∃d',chain run (Rd.start s) n=some d'∧e = .returned (.bool true)∧bP w' w.heap.size d')∨(chain run (Rd.start s) n=none∧e = .returned (.bool false))):=by
 refine(Xa w.heap.size (w.heap.size+1) n f run (yO s l w) hn (by omega) (by rw[Uk];omega) vJ (fun j hj=>X0 s l w L hl j _ (hL j hj)) (Rd.start s) (aea s l w) hs (dV _) J8 (fun j hj d v=>Kg j hj w.heap.size d v)).mono ?_;rintro e w' ⟨h1,h2⟩;exact⟨uq (Xy s l w) h1 (by rw[Uk];omega) (ah _),h2⟩
theorem Yz:∀args (v:World),(callFunc 174 args).run Tryz.prog v = .ok (.enter 174 args) v:=Go.Proofs.enters_of Tryz.func174 (by kernel_rfl) rfl
theorem YA:∀args (v:World),(callFunc 177 args).run Tryz.prog v = .ok (.enter 177 args) v:=Go.Proofs.enters_of Tryz.func177 (by kernel_rfl) rfl
theorem YD:∀args (v:World),(callFunc 172 args).run Tryz.prog v = .ok (.enter 172 args) v:=Go.Proofs.enters_of Tryz.func172 (by kernel_rfl) rfl
theorem Yx:∀args (v:World),(callFunc 173 args).run Tryz.prog v = .ok (.enter 173 args) v:=Go.Proofs.enters_of Tryz.func173 (by kernel_rfl) rfl
theorem Yy:∀args (v:World),(callFunc 175 args).run Tryz.prog v = .ok (.enter 175 args) v:=Go.Proofs.enters_of Tryz.func175 (by kernel_rfl) rfl
theorem YC:∀args (v:World),(callFunc 176 args).run Tryz.prog v = .ok (.enter 176 args) v:=Go.Proofs.enters_of Tryz.func176 (by kernel_rfl) rfl
def aex:Nat→Rd→Option Rd
 | 0=>Rd.jP
 | 1=>Rd.xQ
 | 2=>Rd.col
 | 3=>Rd.xR
 | 4=>Rd.row
 | _=>Rd.fin
def aef:Nat→FuncId
 | 0=>172
 | 1=>173
 | 2=>174
 | 3=>175
 | 4=>176
 | _=>177
theorem aeG (s:ByteArray)(w:World)(hs:s.size≤1000000) :
 Calls Tryz.prog 171 #[.slice (some ⟨w.heap.size+1,0,none⟩) 6 6] (yO s #[mv 172 w.heap.size,mv 173 w.heap.size,mv 174 w.heap.size,mv 175 w.heap.size,mv 176 w.heap.size,mv 177 w.heap.size] w) fun e w'=>Below w.heap.size w w'∧((∃d',gH s=some d'∧e = .returned (.bool true)∧bP w' w.heap.size d')∨(gH s=none∧e = .returned (.bool false))):=by
 refine Xb 6 aef aex s w _ _ rfl (by omega) hs ?_ ?_ ?_ ?_
 · intro j hj
   match j,hj with
   | 0,_=>exact YD
   | 1,_=>exact Yx
   | 2,_=>exact Yz
   | 3,_=>exact Yy
   | 4,_=>exact YC
   | 5,_=>exact YA
 · intro j hj
   match j,hj with
   | 0,_=>rfl
   | 1,_=>rfl
   | 2,_=>rfl
   | 3,_=>rfl
   | 4,_=>rfl
   | 5,_=>rfl
 · intro j hj
   match j,hj with
   | 0,_=>exact aa4
   | 1,_=>exact aaY
   | 2,_=>exact aa1
   | 3,_=>exact aaZ
   | 4,_=>exact aa3
   | 5,_=>exact aa2
 · intro j hj b d v h1 h2 h3
   match j,hj with
   | 0,_=>exact afQ b d v h1 h2
   | 1,_=>exact WW b d v h1 h2 h3
   | 2,_=>exact Yd b d v h1 h2 h3
   | 3,_=>exact WX b d v h1 h2 h3
   | 4,_=>exact ae3 b d v h1 h2 h3
   | 5,_=>exact YX b d v h1 h2 h3
theorem OC {w w1:World}{a0 a1 a2 a3 a4:Value}(h:Below w.heap.size w w1):Below w.heap.size w (((((w1.setCell ⟨w.heap.size,0,none⟩ a0).setCell ⟨w.heap.size,1,none⟩ a1).setCell ⟨w.heap.size,2,none⟩ a2).setCell ⟨w.heap.size,3,none⟩ a3).setCell ⟨w.heap.size,4,none⟩ a4) :=
 ((((h.setCell (ah _) _).setCell (ah _) _).setCell (ah _) _).setCell (ah _) _).setCell (ah _) _
theorem Tf (s:ByteArray)(w:World)(_hs:s.size≤1000000) :
 Calls Tryz.prog 159 #[.string s] w fun e w'=>mV (sb s) e∧Below w.heap.size w w':=by
 have rz:=rz;have aX:=aeG s (w.alloc (.cells #[.string ⟨#[]⟩,.int .i64 0,.int .i64 0,.bool false,.bool false] 43)) _hs;have hsz:(w.alloc (.cells #[.string ⟨#[]⟩,.int .i64 0,.int .i64 0,.bool false,.bool false] 43)).heap.size=w.heap.size+1:=by simp
 have hr0:=bU.new w ⟨#[]⟩ 0 0 false false;have hb0:Below w.heap.size w (w.alloc (.cells #[.string ⟨#[]⟩,.int .i64 0,.int .i64 0,.bool false,.bool false] 43)):=(ai _ _).alloc (ah _) _;rw[hsz]at aX;have kr:=ae aX;clear aX;have HR:=ae hr0;clear hr0;have HB0:=ae hb0;clear hb0;have q9:=ae hsz;clear hsz;go_enter Tryz.func159,Tryz.ntmps159;go_wp2_with fail
 refine kr.o.mono ?_;rintro e w1 ⟨hb,⟨d',h1,rfl,h3⟩|⟨h1,rfl⟩⟩
 · have hr1:=HR.o.below hb (by omega)
   obtain⟨x0,x1,x2,x3,x4⟩:=hr1.facts;have f0:=frozen_of_row w1 w.heap.size 0 _ _ hr1;have f1:=frozen_of_row w1 w.heap.size 1 _ _ hr1;have f2:=frozen_of_row w1 w.heap.size 2 _ _ hr1;have f3:=frozen_of_row w1 w.heap.size 3 _ _ hr1;have f4:=frozen_of_row w1 w.heap.size 4 _ _ hr1;have hB:=HB0.o.trans (hb.mono (by omega));obtain⟨c0,c1,c2,c3,c4,c5,c6⟩:=h3.facts;clear c0 c1;have H1:=ae h1;clear h1;have H3:=ae h3;clear h3;have HB:=ae hB;clear hB hb;have HR1:=ae hr1;clear hr1;go_wp2_with fail
   obtain⟨r1,r2,r3⟩:=xh s d' H1.o
   (try simp only[Exit.inBlock,Exit.then])
   refine bodyPost_ret (v := .tuple #[.agg #[.string d'.sh,.int .i64 d'.c,.int .i64 d'.r,.bool d'.ac,.bool d'.ar],.bool true]) ?_ rfl ⟨.inl ⟨d'.sh,d'.c,d'.r,d'.ac,d'.ar,r1,r2,r3,rfl⟩, ?_⟩
   · rw[results_cell_tmp rfl]
     go_simp
   · exact OC HB.o
 · have hr1:=HR.o.below hb (by omega)
   obtain⟨x0,x1,x2,x3,x4⟩:=hr1.facts;have f0:=frozen_of_row w1 w.heap.size 0 _ _ hr1;have f1:=frozen_of_row w1 w.heap.size 1 _ _ hr1;have f2:=frozen_of_row w1 w.heap.size 2 _ _ hr1;have f3:=frozen_of_row w1 w.heap.size 3 _ _ hr1;have f4:=frozen_of_row w1 w.heap.size 4 _ _ hr1;have hB:=HB0.o.trans (hb.mono (by omega));have H1:=ae h1;clear h1;have HB:=ae hB;clear hB hb;have HR1:=ae hr1;clear hr1;go_wp2_with fail
   have r1:=BF s H1.o
   (try simp only[Exit.inBlock,Exit.then])
   refine bodyPost_ret (v := .tuple #[.agg #[.string ⟨#[]⟩,.int .i64 0,.int .i64 0,.bool false,.bool false],.bool false]) ?_ rfl ⟨.inr ⟨r1,rfl⟩, ?_⟩
   · rw[results_cell_tmp rfl]
     go_simp
   · exact OC HB.o
theorem Tx:Tryz.f139.results=#[.cell 2 71,.tmp 3]:=by kernel_rfl
theorem LG:Tryz.f141.results=#[.cell 2 71,.tmp 3]:=by kernel_rfl
theorem grownBy.OB{w w':World}{b:Nat}(h:Below w.heap.size w w'):w.grownBy w' (some b):=grownBy.below' (grownBy.fo _ _) h
theorem Bu(w:World)(b:Nat):w.grownBy (w.alloc (.cells jF 71)) (some b):=grownBy.OB ((ai _ _).alloc (ah _) _)
theorem bL.tok{w:World}{b:Nat}{s:ByteArray}{k:Nat}(h:bL w b s k):bL (w.alloc (.cells jF 71)) b s k:=h.below ((ai _ _).alloc (ah _) _) h.lt
theorem afl:sb ⟨#[35,82,69,70,33]⟩=[35,82,69,70,33]:=by decide
theorem Yn (b:Nat)(s:ByteArray)(k:Nat)(w:World)(h:bL w b s k)(_hs:s.size≤1000000)(_hk:k<s.size) :
 Calls Tryz.prog 139 #[.pointer (some ⟨b,0,none⟩)] w (oh (o6 (aA s k)) b s k w):=by
 have hlt:=h.lt;have hw0:w.heap.size≠b:=by omega
 have hT:=UE b s ⟨#[35,82,69,70,33]⟩ k _ h.tok _hs (by omega) (by decide);rw[afl]at hT;have aU:=ae (Bu w b);have aM:=ae (aC.zero w)
 have hN:o6 (aA s k)=if jY [35,82,69,70,33] (aA s k)=true then some ({ ag.zero with kind:=6 },5)else none:=by
  unfold o6 jY;simp
 cases hq:jY [35,82,69,70,33] (aA s k)
 · rw [hq]at hN hT
   have HN:=ae hN;clear hN;have HT:=ae hT;clear hT h;go_enter Tryz.func139,Tryz.ntmps139
   go_wp2_with (first
    | (go_at_call 156;((with_reducible refine HT.o.mono ?_);rintro e w1 ⟨h1,rfl,h2⟩;have H1:=ae h1;have H2:=ae h2;clear h1 h2;have HT2:=ae (aM.o.grown H1.o hw0);obtain⟨x0,x1,x2,x3,x4,x5,x6,x7,av⟩:=HT2.o.cells;obtain⟨f0,f1,f2,f3,f4,f5,f6,f7,f8⟩:=HT2.o.bH)))
   exact bodyPost_ret (oI (HT2.o.gY { ag.zero with kind:=6 }) _ _ false 2 3 Tx rfl rfl) rfl ⟨grownBy.j4 (grownBy.trans' aU.o H1.o) (ah _) _ _ _ _ _ _ _ _ _,.inr ⟨HN.o,{ ag.zero with kind:=6 },rfl⟩⟩
 · rw [hq]at hN hT
   have HN:=ae hN;clear hN;have HT:=ae hT;clear hT h;go_enter Tryz.func139,Tryz.ntmps139
   go_wp2_with (first
    | (go_at_call 156;((with_reducible refine HT.o.mono ?_);rintro e w1 ⟨h1,rfl,h2⟩;have H1:=ae h1;have H2:=ae h2;clear h1 h2;have HT2:=ae (aM.o.grown H1.o hw0);obtain⟨x0,x1,x2,x3,x4,x5,x6,x7,av⟩:=HT2.o.cells;obtain⟨f0,f1,f2,f3,f4,f5,f6,f7,f8⟩:=HT2.o.bH)))
   exact bodyPost_ret (oI (HT2.o.gY { ag.zero with kind:=6 }) _ _ true 2 3 Tx rfl rfl) rfl ⟨grownBy.j4 (grownBy.trans' aU.o H1.o) (ah _) _ _ _ _ _ _ _ _ _,.inl ⟨_,_,HN.o,rfl,H2.o.j4 hw0 _ _ _ _ _ _ _ _ _⟩⟩
theorem GR {s:ByteArray}{d:Rd}(h:gH s=some d){e:Ending}(he:mV (sb s) e):e = .returned (.tuple #[.agg #[.string d.sh,.int .i64 d.c,.int .i64 d.r,.bool d.ac,.bool d.ar],.bool true]):=by
 obtain⟨_,h2,h3⟩:=xh s d h;refine mV.text h2 ?_;rw[h3,l5];exact he
theorem GQ {s:ByteArray}(h:gH s=none){e:Ending}(he:mV (sb s) e):e = .returned (.tuple #[.agg #[.string ⟨#[]⟩,.int .i64 0,.int .i64 0,.bool false,.bool false],.bool false]):=by
 rcases he with ⟨_,_,_,_,_,_,h2,h3,_⟩|⟨_,rfl⟩
 · exact absurd h3 (BF s h _ _ _ _ _ h2)
 · rfl
theorem acT {l:List Int}{x:Int}(h0:l.head? = some x)(hx:nk x=true):wZ l=jb l:=by
 cases l with
 | nil=>simp at h0
 | cons y m =>
   simp at h0;subst h0;unfold wZ jb;rw[Bool.eq_iff_iff];simp only[dA,decide_eq_true_iff,List.getD_cons_zero];constructor
   · rintro ⟨h1,h2⟩
     refine⟨h1,⟨by simp,h2⟩, ?_⟩;have:=h1 y (by simp);rw[Bool.or_eq_true]at this;rcases this with h|h
     · exact h
     · exfalso
       unfold nk isLet at hx;unfold isNum at h;simp only[Bool.or_eq_true,decide_eq_true_iff]at hx h;omega
   · rintro⟨h1,⟨_,h2⟩,_⟩
     exact⟨h1,h2⟩
end Go.Proofs.YtaobhjliflomaaaGreatDoor
