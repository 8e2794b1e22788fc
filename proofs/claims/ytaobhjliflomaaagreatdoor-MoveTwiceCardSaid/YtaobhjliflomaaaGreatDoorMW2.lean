import Derived.Test.YtaobhjliflomaaaGreatDoorMW1
import Derived.Shelf.Abstract
import Derived.RangeFuncNested
import Derived.RangeFuncBound
import Derived.RangeFuncCalls
import Derived.RangeFuncLeaves
import Derived.OwnWalkIn
import Derived.TacticsInMore
import Derived.LoopNIn
import Derived.LoopIn
import Derived.Maps.OwnIn
import Derived.Shelf.Strings.Builder1
import Derived.Shelf.Strings.Builder2
import Derived.Shelf.Small.Strs
import Derived.Shelf.Strings.BuilderF
import Derived.Shelf.Strings.BuilderK
import Derived.Shelf.Utf8.RuneCount
import Derived.Shelf.Strconv.Atoi
import Derived.Shelf.Strconv.Itoa0
import Derived.Shelf.Strconv.Itoa1
import Derived.Shelf.LaysM
import Derived.Shelf.Strconv.Itoa2
import Derived.Shelf.Strconv.Itoa3
import Derived.Shelf.Strconv.AtoiErrFast
import Derived.Shelf.Strconv.ParseIntEmpty
import Derived.Shelf.Strconv.AtoiFail
import Derived.Shelf.Strconv.Clone
import Derived.Shelf.Strconv.SyntaxError
import Derived.Shelf.LaysC
import Derived.Shelf.Strconv.ToError
import Derived.Shelf.Strconv.Lower
import Derived.Shelf.Strconv.ParseUint10
import Derived.Shelf.Strconv.ParseUint10Empty
import Derived.Shelf.Strconv.ParseUint10Any
import Derived.Shelf.Strconv.ParseInt10
import Derived.Shelf.Strconv.AtoiLong
import Derived.Shelf.Strconv.AtoiInnerAll
import Derived.Shelf.Strconv.RangeError
import Derived.Shelf.Strconv.ToErrorRange
import Derived.Shelf.Strconv.AtoiAll
import Derived.Shelf.Strconv.ErrVarAll
import Derived.Shelf.Strings.Search1
import Derived.Shelf.Strings.Search2
import Derived.Shelf.Strings.Search3
import Derived.Shelf.Strings.Count
import Derived.Shelf.Strings.Shaped
import Derived.Shelf.Strings.Prefix
import Derived.Shelf.Strings.Split
import Derived.Shelf.Strings.Replace
import Derived.Shelf.Strings.SplitShaped
import Derived.Shelf.Unicode.Decode
import Derived.Shelf.Strings.RuneCount
import Derived.Shelf.Unicode.DecodeSlow
import Derived.Shelf.Unicode.DecodeAny
import Derived.Ground.Names2Prog
import Derived.Shelf.Slices.Clone
import Derived.Ground.SlgnProg
import Derived.Shelf.SlicesE.Clone
import Derived.Laws.ResultCell
set_option maxRecDepth 100000
set_option maxHeartbeats 64000000
namespace Go.Proofs.YtaobhjliflomaaaGreatDoor
open Go.RowKit
variable {B C:Nat}{α:Type}{v:Value}{w w':World}
theorem NW (w:World)(A:Option Addr)(n cap:Nat)(xs:List Int)(nw i:Int)(h:IR w w.heap.size A n cap xs)(hn:n≤2000000)(h0:0≤nw)(h1:nw≤2000000)(hi:i≤4398046511104) :
 Calls Tryz.prog 134 #[.agg #[.slice A n cap,.int .i64 nw],.int .i64 i] w fun e w'=>e = .returned (.int .i64 (bH xs nw i))∧Below w.heap.size w w':=by
 have HB:=ae (o9 165 w (.slice A n cap) nw);have HP:=ae (bP.new 165 w (.slice A n cap) nw);have HX:=ae h;have HL:=ae h.len.1;clear h;by_cases xX:i<0
 · have dF:=ae (LB xs nw i xX)
   go_enter Tryz.func134,Tryz.ntmps134;go_wp2_with fail
   go_ret;exact⟨by rw[dF.o];rfl,HB.o⟩
 · obtain ⟨k,rfl⟩:∃k:Nat,i=(k:Int):=⟨i.toNat,by omega⟩
   by_cases hin:k<n
   · have hii:(k:Int)<(n:Int):=by omega
     have hi0:(0:Int)≤(k:Int):=by omega
     have dF:=ae (uj xs nw k (by rw[HL.o];exact hin));obtain⟨pb,po,rfl,hpb,e0⟩:=GM HX.o hin;obtain⟨x,hx⟩:∃x,xs.getD k 0=x:=⟨_,rfl⟩;rw[hx]at e0 dF;have HE:=ae e0;have DI:=ae hpb;clear e0 hx hpb;go_enter Tryz.func134,Tryz.ntmps134;go_upto_region 1 with (fail)
     obtain⟨w1,hw1⟩:∃w1,w.alloc (.cells #[.slice (some ⟨pb,po,none⟩) n cap,.int .i64 nw] 165)=w1:=⟨_,rfl⟩;rw[hw1]at HB HP ⊢;clear hw1;obtain⟨x0,x1⟩:=HP.o.cells;have x2:w1.cell? ⟨pb,po+k,none⟩=some (.int .i64 x):=(HB.o.cell (p:=⟨pb,po+k,none⟩) DI.o).trans HE.o;go_wp2_with fail
     go_ret;exact⟨by rw[dF.o];rfl,HB.o⟩
   · have hii:¬ (k:Int)<(n:Int):=by omega
     have dF:=ae (wP xs nw (k:Int) (by omega) (by rw[HL.o];omega));have hk:(k:Int)≤4398046511104:=hi;go_enter Tryz.func134,Tryz.ntmps134;go_upto_region 1 with (fail)
     obtain⟨w1,hw1⟩:∃w1,w.alloc (.cells #[.slice A n cap,.int .i64 nw] 165)=w1:=⟨_,rfl⟩;rw[hw1]at HB HP ⊢;clear hw1;obtain⟨x0,x1⟩:=HP.o.cells;go_wp2_with fail
     go_ret;exact⟨by rw[dF.o,HL.o];rfl,HB.o⟩
theorem R3 (w:World)(A:Option Addr)(n cap:Nat)(xs:List Int)(nw i:Int)(h:IR w w.heap.size A n cap xs)(hn:n≤2000000)(h0:0≤nw)(h1:nw≤2000000)(hi:i≤4398046511104) :
 Calls Tryz.prog 107 #[.agg #[.slice A n cap,.int .i64 nw],.int .i64 i] w fun e w'=>e = .returned (.int .i64 (bH xs nw i))∧Below w.heap.size w w':=by
 have HB:=ae (o9 30 w (.slice A n cap) nw);have HP:=ae (bP.new 30 w (.slice A n cap) nw);have HI:=ae (NW (w.alloc (.cells #[.slice A n cap,.int .i64 nw] 30)) A n cap xs nw i (h.lift HB.o) hn h0 h1 hi);clear h;go_enter Tryz.func107,Tryz.ntmps107;go_upto_region 1 with (fail)
 obtain⟨w1,hw1⟩:∃w1,w.alloc (.cells #[.slice A n cap,.int .i64 nw] 30)=w1:=⟨_,rfl⟩;rw[hw1]at HB HP HI ⊢;clear hw1;obtain⟨x0,x1⟩:=HP.o.cells;go_wp2_with (go_at_call 134;((with_reducible refine HI.o.mono ?_);rintro e w2 ⟨rfl,h3⟩;have H2:=ae (HB.o.trans (h3.mono HB.o.size));clear h3))
 go_ret;exact⟨rfl,H2.o⟩
structure bK where
 s:Sf
 ra:Option Addr
 rc:Nat
 ca:Option Addr
 cc:Nat
 z:s.sh.size≤maxLen
def bK.rv(x:bK):Value := .slice x.ra x.s.rx.length x.rc
def bK.cv(x:bK):Value := .slice x.ca x.s.cx.length x.cc
def jY(x:bK):Array Value:=#[.string x.s.sh,x.rv,.int .i64 x.s.rn,x.cv,.int .i64 x.s.cn,.bool x.s.gone]
theorem bK.one (x:bK):∀u∈(jY x).toList,u.oneCell'=true:=by
 intro v hv;simp only[jY,eY,List.not_mem_nil,or_false]at hv;rcases hv with rfl|rfl|rfl|rfl|rfl|rfl <;> rfl
def KF:Enc bK 6:={ f:=fun x=>(jY x).toList,len:=fun _=>rfl,one:=fun x u hu=>bK.one x u hu }
structure qd (w:World)(B:Nat)(x:bK):Prop where
 rows:IR w B x.ra x.s.rx.length x.rc x.s.rx
 tV:IR w B x.ca x.s.cx.length x.cc x.s.cx
theorem qd.below{x:bK}(h:qd w B x)(hb:Below C w w')(hC:B≤C):qd w' B x:=⟨iF.below h.rows hb hC,iF.below h.tV hb hC⟩
theorem qd.mono{x:bK}(h:qd w B x)(hC:B≤C):qd w C x:=⟨iF.mono h.rows hC,iF.mono h.tV hC⟩
theorem qd.lift{x:bK}(h:qd w w.heap.size x)(hb:Below w.heap.size w w'):qd w' w'.heap.size x:=(h.below hb (aj _)).mono hb.size
def o6(w:World)(B:Nat)(v:Value)(xs:List bK):Prop:=iF KF w B v xs∧∀x∈xs,qd w B x
theorem o6.below{xs:List bK}(h:o6 w B v xs)(hb:Below C w w')(hC:B≤C):o6 w' B v xs:=⟨h.1.below hb hC,fun x hx=>(h.2 x hx).below hb hC⟩
theorem o6.mono{xs:List bK}(h:o6 w B v xs)(hC:B≤C):o6 w C v xs:=⟨h.1.mono hC,fun x hx=>(h.2 x hx).mono hC⟩
theorem o6.lift{xs:List bK}(h:o6 w w.heap.size v xs)(hb:Below w.heap.size w w'):o6 w' w'.heap.size v xs:=(h.below hb (aj _)).mono hb.size
def kF(xs:List bK):List Sf:=xs.map bK.s
def zn(xs:List bK)(k:ByteArray):Option bK:=xs.find? fun x=>decide (x.s.sh=k)
theorem acY (xs:List bK)(k:ByteArray):y8 (kF xs) k=(zn xs k).map bK.s:=by
 unfold y8 kF zn;rw[List.find?_map];rfl
theorem acZ{xs:List bK}{k:ByteArray}{x:bK}(h:zn xs k=some x):x∈xs:=List.mem_of_find?_eq_some h
def rA(xs:List bK)(k:ByteArray):Option Value:=(zn xs k).map fun x => .agg (jY x)
theorem adj (x:bK)(xs:List bK):rA (x :: xs)=zA (rA xs) x.s.sh (.agg (jY x)):=by
 funext k
 unfold rA zn zA;rw[List.find?_cons];by_cases c:k=x.s.sh
 · rw[ah c,aQ (show x.s.sh=k from c.symm)];rfl
 · rw[ag c,aS (show ¬ x.s.sh=k from fun e=>c e.symm)]
def tO{α : Type}(xs:List α)(q:Nat):List (Nat × α):=((xs.zipIdx).drop q).reverse.map fun e=>(e.2,e.1)
theorem YX (xs:List α):tO xs xs.length=[]:=by
 unfold tO;rw[List.drop_of_length_le (by rw[List.length_zipIdx];exact aj _)];rfl
theorem Y0 (xs:List α)(m:Nat)(p : α)(hp:xs[m]? = some p):tO xs m=tO xs (m+1)++[(m,p)]:=by
 have hl:=(dS.1 hp).1;have hz:(xs.zipIdx)[m]? = some (p,m):=by rw[List.getElem?_zipIdx,hp];simp
 have hzl:=(dS.1 hz).1;unfold tO;rw[List.drop_eq_getElem_cons hzl,List.reverse_cons,gP];have:(xs.zipIdx)[m]=(p,m):=by rw[dL hzl]at hz;exact dU hz
 rw[this];rfl
theorem YY(xs:List α)(q:Nat):(tO xs q).length=xs.length - q:=by unfold tO;simp
theorem YZ (xs:List α):((tO xs 0).map (·.2)).reverse=xs:=by
 unfold tO;rw[List.drop_zero,List.map_map, ← List.map_reverse,List.reverse_reverse];show xs.zipIdx.map (fun e=>e.1)=xs;exact List.zipIdx_map_fst ..
end Go.Proofs.YtaobhjliflomaaaGreatDoor
namespace Go.Proofs.YtaobhjliflomaaaGreatDoor
open Go.RowKit Go.Shelf
attribute [local go_sem] Oper.semAt_some
variable {x y:Nat}{w:World}
def jv(x y:Nat)(w w':World):Prop:=w'.heap[x]? = w.heap[x]? ∧ w'.heap[y]? = w.heap[y]?
theorem jv.refl(x y:Nat)(w:World):jv x y w w:=⟨rfl,rfl⟩
theorem jv.trans{a b c:World}(h:jv x y a b)(k:jv x y b c):jv x y a c:=⟨k.1.trans h.1,k.2.trans h.2⟩
theorem jv.Kz{w':World}(h:jv x y w w')(j:Nat):w'.cell? ⟨x,j,none⟩=w.cell? ⟨x,j,none⟩:=gM (a:=⟨x,j,none⟩) h.1
theorem jv.wG{w':World}(h:jv x y w w')(j:Nat):w'.cell? ⟨y,j,none⟩=w.cell? ⟨y,j,none⟩:=gM (a:=⟨y,j,none⟩) h.2
theorem NN (hx:x<w.heap.size)(hy:y<w.heap.size)(W:World)(l:Nat)(o o':Obj)(hl:w.heap.size≤l)(h:W.heap[l]? = some o)(_:o.isCells=false)(_:o.isWalk=false):jv x y W (W.putObj l o'):=by
 have hlt:=(dn.1 h).1;have hg:=grownBy_putObj' W l o';exact⟨hg.block x (by omega) (fun e=>by have:=dU e;omega),hg.block y (by omega) (fun e=>by have:=dU e;omega)⟩
end Go.Proofs.YtaobhjliflomaaaGreatDoor
namespace Go.Proofs.YtaobhjliflomaaaGreatDoor
open Go.RowKit Go.Shelf
attribute [local go_sem] Oper.semAt_some
def I6(W:World)(A:Option Addr)(b po:Nat)(xs:List bK):Prop:=∀(m:Nat)(x:bK),xs[m]? = some x→A=some ⟨b,po,none⟩∧∀(j:Nat)(u:Value),(jY x).toList[j]? = some u→W.cell? ⟨b,po+(m*6+j),none⟩=some u
theorem Yy (F:Fence)(n:Nat)(h7:F.fn 105)(hro:F.round=none)(hn:1≤n)(l Bs b po cap:Nat)(A:Option Addr)(xs:List bK)(hlen:xs.length≤1000000)(J Jx:List (Nat × bK)→World→Prop)
 (hY:∀pre x W,J pre W→pre.length<xs.length→YieldAt F (n - 1) Tryz.prog l #[.int .i64 (x.1:Int),.agg (jY x.2)] W fun e W' =>
   (e = .returned (.bool true)∧J (pre++[x]) W'∧jv Bs b W W')∨(e = .returned (.bool false)∧Jx (pre++[x]) W'))
 (W:World) (qY:W.cell? ⟨Bs,0,none⟩=some (.slice A xs.length cap)) (hc:I6 W A b po xs) (h0:J [] W) :
 CallsIn F n Tryz.prog 105 #[.func (.yield l) #[] #[],.pointer (some ⟨Bs,0,none⟩)] W fun e W'=>(∃v,e = .returned v) ∧
  ((∃ys,ys=tO xs 0∧J ys W')∨(∃pre,True∧Jx pre W')):=by
 obtain⟨L,hL⟩:∃L,xs.length=L:=⟨_,rfl⟩;have HL:=ae hL;rw[hL]at hlen qY;refine callsIn_of_wp Tryz.func105 rfl h7 ?_ hro;simp only[Tryz.ntmps105,List.size_toArray,aX,dV,Nat.reduceAdd,Nat.reduceSub,Array.replicate_succ,Array.replicate_zero,List.push_toArray,List.append_toArray,iy,dx];gi_wp2
 gi_loopw [3] (fun i wr=>∃q:Nat,q≤L∧i = .int .i64 ((q:Int) - 1)∧J (tO xs q) wr∧jv Bs b W wr)
  (fun i _=>(intOf i+1).toNat)
 case atStart=>exact⟨L,aj _,rfl,by rw[← hL,YX];exact h0,jv.refl _ _ _⟩
 case round =>
  obtain⟨q,hq,rfl,hJs,hnx⟩:=hrel;have QK:=(hnx.Kz 0).trans qY;cases q with
  | zero =>
    gi_wp2
    go_end0;exact⟨⟨_,rfl⟩,.inl ⟨_,rfl,hJs⟩⟩
  | succ m =>
    obtain⟨p,hp⟩:∃p,xs[m]? = some p:=⟨_,dL (by omega)⟩;obtain⟨hA,c0⟩:=hc m p hp;have d0:wr.cell? ⟨b,po+m*6,none⟩=some (.string p.s.sh):=(hnx.wG (po+m*6)).trans (c0 0 _ rfl);have d1:wr.cell? ⟨b,po+m*6+1,none⟩=some p.rv:=(hnx.wG (po+m*6+1)).trans (c0 1 _ rfl);have d2:wr.cell? ⟨b,po+m*6+2,none⟩=some (.int .i64 p.s.rn):=(hnx.wG (po+m*6+2)).trans (c0 2 _ rfl);have d3:wr.cell? ⟨b,po+m*6+3,none⟩=some p.cv:=(hnx.wG (po+m*6+3)).trans (c0 3 _ rfl);have d4:wr.cell? ⟨b,po+m*6+4,none⟩=some (.int .i64 p.s.cn):=(hnx.wG (po+m*6+4)).trans (c0 4 _ rfl);have d5:wr.cell? ⟨b,po+m*6+5,none⟩=some (.bool p.s.gone):=(hnx.wG (po+m*6+5)).trans (c0 5 _ rfl);have hst:=Y0 xs m p hp;obtain⟨fn,tmps,assign,body,hy,hR⟩:=hY _ (m,p) wr hJs (by rw[YY];omega);rw[← hst]at hR;dsimp only[jY]at hy;have hm1:((m+1:Nat):Int) - 1=(m:Int):=by omega
    rw[hm1];have Ri:(m:Int)<(L:Int):=by omega
    have hm0:(0:Int)≤(m:Int):=by omega
    clear hm1 c0 hc hJs hst;subst hA;gi_wp2
    refine hR.mono ?_;rintro e W3 (⟨rfl,hJ3,hk3⟩|⟨rfl,Ed⟩)
    · gi_wp2
      go_roundw
      case rel=>exact⟨m,by omega,by simp,hJ3,hnx.trans hk3⟩
      case measure=>simp[intOf]
    · gi_wp2
      refine bodyPost_ret (results_none rfl _ _ _) rfl ?_;exact⟨⟨_,rfl⟩,.inr ⟨_,trivial,Ed⟩⟩
theorem YC (F:Fence)(n:Nat)(h5:F.fn 69)(hro:F.round=none)(a:Option Addr)(len cap:Nat)(w:World) :
 CallsIn F n Tryz.prog 69 #[.slice a len cap] w fun e w'=>e = .returned (.func (.func 105) #[] #[.pointer (some ⟨w.heap.size,0,none⟩)])∧w.alloc (.cells #[.slice a len cap] 34)=w':=by
 refine callsIn_of_wp Tryz.func69 rfl h5 ?_ hro;simp only[Tryz.ntmps69,List.size_toArray,aX,dV,Nat.reduceAdd,Nat.reduceSub,Array.replicate_succ,Array.replicate_zero,List.push_toArray,List.append_toArray,iy,dx];gi_wp2
 go_ret;exact⟨rfl,rfl⟩
theorem Yz (F:Fence)(n:Nat)(h7:F.fn 105)(hro:F.round=none)(hn:1≤n)(Bs b po cap:Nat)(A:Option Addr)(xs:List bK)(hlen:xs.length≤1000000)(w:World)(hB:Bs<w.heap.size)(hb:b<w.heap.size)
 (qY:w.cell? ⟨Bs,0,none⟩=some (.slice A xs.length cap)) (hc:I6 w A b po xs) :
 SeqStopsK F n Tryz.prog 105 #[.pointer (some ⟨Bs,0,none⟩)] (fun x:Nat × bK=>#[Value.int .i64 (x.1:Int),.agg (jY x.2)]) (jv Bs b) (fun ys=>ys=tO xs 0) (fun _=>True) xs.length w:=fun l J Jx W hW _ _ hY h0 =>
 Yy F n h7 hro hn l Bs b po cap A xs hlen J Jx hY W ((hW.cell hB).trans qY) (fun m x hx=>⟨(hc m x hx).1,fun j u hu=>(hW.cell (p:=⟨b,_,none⟩) hb).trans ((hc m x hx).2 j u hu)⟩) h0
end Go.Proofs.YtaobhjliflomaaaGreatDoor
namespace Go.Proofs.YtaobhjliflomaaaGreatDoor
open Go.RowKit Go.Shelf
attribute [local go_sem] Oper.semAt_some
variable {b:Nat}{w:World}{x:bK}
theorem aiS {F:Fence}{nF:Nat}{P:Program}{ops:Array Oper}{rest:List Oper}{o:Oper}{a:Act}{Q:Exit→Act→World→Prop}(hg:o.guard=none)(m x v:Operand)(t:TypeId)(hop:o.op=Op.mapUpdate t m x v)
 (k e:TypeId) (ht:P.underlying t=some (.map k e)) (hk:P.underlying k=some .string) (b:Nat) (f:ByteArray→Option Value) (hm:a.eval m = .map (some b)) (iG:jr w b f) (key:ByteArray) (val:Value) (hx:a.eval x = .string key) (hv:a.eval v=val) (hks:key.size≤maxLen)
 (hK:∀w',jr w' b (zA f key val)→w'.heap.size=w.heap.size→w.grownBy w' (some b)→wpListIn F nF P ops Q rest (a.put o.dst undef) w'):wpListIn F nF P ops Q (o :: rest) a w:=by
 refine wpListIn_plain hg fun K' hK' => ?_
 obtain⟨w',q8,r1,r2,r3⟩:=iG.put ht hk key hks val;unfold Oper.wpIn;refine⟨by simp[Oper.about,hop], ?_⟩;rw[Oper.semAt_plain F _ _ (by rw[hop];intro c hc';cases hc')];simp[execOp,hop,hm,hx,hv,q8,Result.andThen];exact hK' _ _ (hK w' r1 r2 r3)
theorem ab5(B:Nat)(W:World)(o:Obj):KeepsFrom B W (W.alloc o):=⟨by simp,fun k o' _ hk _=>(Below.heap_alloc _ _ _ (dn.1 hk).1).trans hk⟩
theorem aio(x y:Nat)(W:World)(o:Obj)(hx:x<W.heap.size)(hy:y<W.heap.size):jv x y W (W.alloc o):=⟨Below.heap_alloc _ _ _ hx,Below.heap_alloc _ _ _ hy⟩
def kN(w:World)(b:Nat)(x:bK):Prop:=w.heap[b]? = some (.cells (jY x) 33)
theorem kN.new(w:World)(x:bK):kN (w.alloc (.cells (jY x) 33)) w.heap.size x:=(kW w _).1
theorem kN.lt(h:kN w b x):b<w.heap.size:=(dn.1 h).1
theorem kN.keep{w':World}(h:kN w b x)(hk:w'.heap[b]? = w.heap[b]?):kN w' b x:=by unfold kN;rw[hk];exact h
theorem kN.cells (h:kN w b x):w.cell? ⟨b,0,none⟩=some (.string x.s.sh)∧w.cell? ⟨b,1,none⟩=some x.rv∧w.cell? ⟨b,2,none⟩=some (.int .i64 x.s.rn)∧w.cell? ⟨b,3,none⟩=some x.cv∧w.cell? ⟨b,4,none⟩=some (.int .i64 x.s.cn)∧w.cell? ⟨b,5,none⟩=some (.bool x.s.gone) :=
 ⟨cell_of_row w b 0 _ _ _ h,cell_of_row w b 1 _ _ _ h,cell_of_row w b 2 _ _ _ h,cell_of_row w b 3 _ _ _ h,cell_of_row w b 4 _ _ _ h,cell_of_row w b 5 _ _ _ h⟩
def Kh (w:World)(own:ByteArray)(z mb Fh zs:Nat)(sv:Value)(pre:List (Nat × bK))(W:World):Prop :=
 jr W mb (rA (pre.map (·.2)).reverse)∧W.heap[z]? = some (.cells #[.string ⟨#[]⟩,.map none] 96)∧W.heap[Fh]? = some (.cells #[.string own,.map (some mb)] 96)∧Boxed W zs 34 sv∧Below w.heap.size w W
theorem TE {own:ByteArray}{z mb Fh zs:Nat}{sv:Value}{B:Nat}(h1:z<B)(h2:mb<B)(h3:Fh<B)(h4:zs<B)(h5:w.heap.size≤B):OwnFrom B (Kh w own z mb Fh zs sv):=by
 rintro pre X Y row ⟨k1,k2,k3,k4,k5⟩ hg hr;have hk:∀k,k<B→k<X.heap.size→Y.heap[k]? = X.heap[k]? := fun k hk hx=>hg.block k hx fun e=>by have:=(hr k e.symm).1;omega
 have hz:=(dn.1 k2).1;have hzm:=(dn.1 k3).1;refine⟨k1.keep (hk mb h2 k1.lt),(hk z h1 hz).trans k2,(hk Fh h3 hzm).trans k3,(hk zs h4 k4.lt).trans k4,⟨hg.os.trans k5.os,hg.tape.trans k5.tape,hg.output.trans k5.output,bO k5.size hg.size,fun k Re=>(hk k (by omega) (eZ Re k5.size)).trans (k5.block k Re)⟩⟩
theorem adC:(Tryz.prog.info? 96).map (·.size)=some 2:=by kernel_rfl
theorem afK:Tryz.f44.results=#[.cell 4 96]:=by kernel_rfl
theorem adB (w:World)(own:ByteArray)(A:Option Addr)(n cap:Nat)(xs:List bK)(h:o6 w w.heap.size (.slice A n cap) xs)(hn:n≤1000000) :
 Calls Tryz.prog 44 #[.string own,.slice A n cap] w fun e w'=>∃mb,e = .returned (.agg #[.string own,.map (some mb)])∧w.heap.size≤mb∧jr w' mb (rA xs)∧Below w.heap.size w w':=by
 have hl:=h.1.len.1;subst hl;have HX:=ae h;have hmm:=@run_makeMap Tryz.prog;clear h;refine(callsIn_wide (n:=6)).1 ?_;refine callsIn_of_wp_marks Tryz.func44 rfl trivial ?_ rfl;simp only[Tryz.ntmps44,List.size_toArray,aX,dV,Nat.reduceAdd,Nat.reduceSub,Array.replicate_succ,Array.replicate_zero,List.push_toArray,List.append_toArray,iy,dx]
 gi_wp2_with (refine⟨trivial, ?_⟩;gi_at_call 69;refine(YC Fence.wide _ trivial rfl _ _ _ _).mono ?_;rintro e w' ⟨rfl,rfl⟩)
 obtain⟨z,hz⟩:∃z,w.heap.size=z:=⟨_,rfl⟩;obtain⟨w6,nH⟩:∃w6,((((w.alloc (Obj.cells #[Value.string { data:=#[] },Value.map none] 96)).alloc (Obj.map #[] 0)).alloc (Obj.cells #[Value.string own,Value.map (some (w.heap.size+1))] 96)).alloc (Obj.cells #[Value.slice A xs.length cap] 34))=w6:=⟨_,rfl⟩;have il:Below w.heap.size w w6:=by rw[← nH];exact((((ak _ w).alloc (aj _) _).alloc (by simp) _).alloc (by simp;omega) _).alloc (by simp;omega) _
 have hs6:w6.heap.size=w.heap.size+4:=by rw[← nH];simp
 have QI:w6.heap[w.heap.size]? = some (.cells #[.string ⟨#[]⟩,.map none] 96):=by
  rw[← nH];exact((Below.heap_alloc _ _ _ (by simp;omega)).trans ((Below.heap_alloc _ _ _ (by simp;omega)).trans (Below.heap_alloc _ _ _ (by simp)))).trans (kW w _).1
 have y9:jr w6 (w.heap.size+1) (fun _=>none):=by
  have h:=jr.made (w.alloc (Obj.cells #[Value.string { data:=#[] },Value.map none] 96));rw[jE]at h;refine h.keep ?_;rw[← nH];exact(Below.heap_alloc _ _ _ (by simp)).trans (Below.heap_alloc _ _ _ (by simp))
 have QJ:w6.heap[w.heap.size+2]? = some (.cells #[.string own,.map (some (w.heap.size+1))] 96):=by
  rw[← nH];refine(Below.heap_alloc _ _ _ (by simp)).trans ?_;have h:=(kW ((w.alloc (Obj.cells #[Value.string { data:=#[] },Value.map none] 96)).alloc (Obj.map #[] 0)) (Obj.cells #[Value.string own,Value.map (some (w.heap.size+1))] 96)).1
  simpa using h
 have h63:Boxed w6 (w.heap.size+3) 34 (.slice A xs.length cap):=by
  rw[← nH];have h:=Boxed.new ((((w.alloc (Obj.cells #[Value.string { data:=#[] },Value.map none] 96)).alloc (Obj.map #[] 0)).alloc (Obj.cells #[Value.string own,Value.map (some (w.heap.size+1))] 96))) 34 (.slice A xs.length cap)
  simpa using h
 obtain ⟨pb,po,hpb,hpz,hcl⟩:∃pb po,pb<w6.heap.size∧(pb<z∨pb=z+3)∧I6 w6 A pb po xs:=by
  by_cases h0:xs=[]
  · exact⟨z+3,0,by omega,.inr rfl,fun m x hx=>by rw[h0]at hx;cases hx⟩
  · obtain⟨x0,hx0⟩:∃x0,xs[0]? = some x0:=⟨_,dL (List.length_pos_iff.2 h0)⟩
    obtain⟨pb,po,hA,hp,_⟩:=iF.at HX.o.1 hx0;refine⟨pb,po,by omega,.inl (by omega),fun m x hx=>⟨hA,fun j u hu => ?_⟩⟩;obtain⟨pb',po',hA',hp',hc⟩:=iF.at HX.o.1 hx;rw[hA]at hA';injection hA' with e;injection e with e1 e2;subst e1;subst e2;exact(il.cell (p:=⟨pb,_,none⟩) hp').trans (hc j u hu)
 rw[nH];rw[hz]at hs6 QI y9 QJ h63 ⊢;have oU:=ae il;have AL:∀ {pre:List (Nat × bK)}{W:World},Kh w own z (z+1) (z+2) (z+3) (.slice A xs.length cap) pre W→w6.heap.size≤W.heap.size:=fun h=>by have:=h.2.2.2.1.lt;omega
 clear nH il hmm;rw[show z+1+1=z+2 from rfl,show z+2+1=z+3 from rfl]
 refine wpIn_rangeFunc_ownH (F:=Fence.wide) (n:=6) rfl (by omega) (gf:=105) (lb:=#[.pointer (some ⟨z+3,0,none⟩)]) rfl trivial (enters_of Tryz.func105 (by kernel_rfl) rfl)
  (Yz Fence.wide 5 trivial rfl (by omega) (z+3) pb po cap A xs hn w6 h63.lt hpb h63.cell hcl)
  jv.trans (NN h63.lt hpb) (ak _ _) (fun _=>rfl)
  (Kh w own z (z+1) (z+2) (z+3) (.slice A xs.length cap)) (fun _ _ _=>False)
  (TE (by omega) (by omega) (by omega) (by omega) (by omega)) (fun _ _ _ _ _ hs _ _=>hs) ⟨y9,QI,QJ,h63,oU.o⟩
  (fun y a' W=>∃p,w6.heap.size≤p∧kN W p y.2∧a'={ tmps:=#[.string own,.slice A xs.length cap,undef,undef,.pointer (some ⟨z,0,none⟩),.pointer (some ⟨z+2,0,none⟩),undef,.pointer (some ⟨p,0,none⟩),.string own,.map (some (z+1)),.agg #[.string own,.map (some (z+1))],.slice A xs.length cap,.func (.func 105) #[] #[.pointer (some ⟨z+3,0,none⟩)],.int .i64 (y.1:Int),.agg (jY y.2),undef,undef,undef,undef,undef,undef],defers:=[] })
  ?stay ?assign ?body ?done ?stop
 case stay =>
  rintro x a' s W W' row ⟨p,h1,h2,h3⟩ hg hr;refine⟨p,h1,h2.keep (hg.block p h2.lt fun e => ?_),h3⟩;obtain⟨_,o,ho,hc⟩:=hr p e.symm;have h2':W.heap[p]? = some (.cells (jY x.2) 33):=h2;rw[h2']at ho;cases ho;cases hc
 case assign =>
  rintro l pre ⟨j,x⟩ W K hI hK;have hkW:=hI.2.2.2.2.size;have pF:w6.heap.size≤W.heap.size:=AL hI;have hx3:z+3<W.heap.size:=by omega
  have hsh : .agg (jY x)=(Value.agg #[.string x.s.sh,.slice x.ra x.s.rx.length x.rc,.int .i64 x.s.rn,.slice x.ca x.s.cx.length x.cc,.int .i64 x.s.cn,.bool x.s.gone]):=rfl;dsimp only;rw[hsh];gi_wp2
  refine hK _ _ (ab5 _ _ _) (aio _ _ _ _ hx3 (by omega)) ?_ ⟨W.heap.size,pF,kN.new W x,rfl⟩;exact TE (B:=W.heap.size) (by omega) (by omega) (by omega) (by omega) hkW pre W _ none hI ⟨rfl,rfl,rfl,by simp,fun k hk _=>Below.heap_alloc _ _ _ hk⟩ (fun r e=>by cases e)
 case body =>
  rintro l pre ⟨j,x⟩ a' W - - ⟨hM,h0,h2,h3,hb⟩ ⟨p,Co,hat,rfl⟩ hlen;obtain⟨y0,y1,y2,y3,y4,fQ⟩:=hat.cells;have m1:W.cell? ⟨z+2,1,none⟩=some (.map (some (z+1))):=cell_of_row W (z+2) 1 _ _ _ h2;have HM:=ae hM;have hks:x.s.sh.size≤maxLen:=x.z;dsimp only[bK.rv,bK.cv]at y1 y3;dsimp only
  gi_wp2_with (refine aiS rfl (.tmp 16) (.tmp 18) (.tmp 19) 94 rfl 9 33 Tryz.underlying94 Tryz.underlying9 (z+1) _ rfl HM.o x.s.sh (.agg (jY x)) rfl rfl hks ?_;intro W2 k1 k2 k3)
  have hmb:z+1<W.heap.size:=by have:=AL ⟨hM,h0,h2,h3,hb⟩;omega
  have abq:pb≠z+1:=by omega
  have hkk:∀k,k<W.heap.size→k≠z+1→W2.heap[k]? = W.heap[k]? := fun k h1 h2=>k3.block k h1 (fun e=>h2 (dU e))
  have abp:pb<W.heap.size:=by have:=AL ⟨hM,h0,h2,h3,hb⟩;omega
  refine ⟨⟨by omega,fun k o h1 h2 _=>(hkk k (dn.1 h2).1 (by omega)).trans h2⟩,⟨hkk _ h3.lt (by omega),hkk _ abp abq⟩, ?_,(hkk _ (by omega) (by omega)).trans h0,(hkk _ (dn.1 h2).1 (by omega)).trans h2,(hkk _ h3.lt (by omega)).trans h3,
   ⟨k3.os.trans hb.os,k3.tape.trans hb.tape,k3.output.trans hb.output,bO hb.size (by omega),fun k hk=>(hkk k (eZ hk hb.size) (by omega)).trans (hb.block k hk)⟩⟩
  rw[gP,List.reverse_append];show jr W2 (z+1) (rA (x :: (List.map (fun x=>x.snd) pre).reverse));rw[adj];exact k1
 case done =>
  rintro D ys W hD rfl ⟨hM,h0,h2,h3,hb⟩ hK;rw[YZ]at hM;have m0:W.cell? ⟨z+2,0,none⟩=some (.string own):=cell_of_row W (z+2) 0 _ _ _ h2;have m1:W.cell? ⟨z+2,1,none⟩=some (.map (some (z+1))):=cell_of_row W (z+2) 1 _ _ _ h2;have g0:W.cell? ⟨z,0,none⟩=some (.string ⟨#[]⟩):=cell_of_row W z 0 _ _ _ h0;have g1:W.cell? ⟨z,1,none⟩=some (.map none):=cell_of_row W z 1 _ _ _ h0;have f0:=frozen_of_row W z 0 _ _ h0;have f1:=frozen_of_row W z 1 _ _ h0;gi_wp2
  obtain⟨Wf,hWf⟩:∃Wf,(W.setCell { block:=z,off:=0 } (Value.string own)).setCell { block:=z,off:=1 } (Value.map (some (z+1)))=Wf:=⟨_,rfl⟩;rw[hWf];have Rc:∀k,k≠z→Wf.heap[k]? = W.heap[k]? := fun k hk=>by rw[← hWf];exact(fw _ _ _ _ hk).trans (fw _ _ _ _ hk)
  have RX:Wf.heap[z]? = some (.cells #[.string own,.map (some (z+1))] 96):=by
   rw[← hWf,heap_setCell_same _ z 1 _ _ _ (heap_setCell_same W z 0 _ _ _ h0)];rfl
  have hbf:Below w.heap.size w Wf:=by rw[← hWf];exact(hb.setCell (by show w.heap.size≤z;omega) _).setCell (by show w.heap.size≤z;omega) _
  have hKf:Wf.heap[D]? = some (.deferred (some [])):=(Rc D (by omega)).trans hK;refine⟨by simp,.inl ⟨_,_,rfl,run_takeDeferred hKf, ?_⟩⟩;have hg:=grownBy_putObj' Wf D (.deferred none);have Lg:∀k,k<Wf.heap.size→k≠D→(Wf.putObj D (.deferred none)).heap[k]? = Wf.heap[k]? := fun k h1 h2=>hg.block k h1 (fun e=>h2 (dU e))
  have hzl:=(dn.1 RX).1;have sI:=(hM.keep (Rc (z+1) (by omega)));refine⟨_,results_cell_row afK _ _ z _ _ _ _ rfl ((Lg z hzl (by omega)).trans RX) Tryz.underlying96 rfl adC,z+1,rfl,by omega,sI.keep (Lg (z+1) sI.lt (by omega)),⟨hg.os.trans hbf.os,hg.tape.trans hbf.tape,hg.output.trans hbf.output,bO hbf.size hg.size,fun k hk=>(Lg k (eZ hk hbf.size) (by omega)).trans (hbf.block k hk)⟩⟩
 case stop =>
  rintro D c pre W _ _ h _;exact h.elim
end Go.Proofs.YtaobhjliflomaaaGreatDoor
namespace Go.Proofs.YtaobhjliflomaaaGreatDoor
open Go.RowKit
variable {x:Int}{l:List Int}{b:Nat}{d:Rd}{w:World}
theorem CW {s:ByteArray}{ts:List ai}(h:ax s ts=true):ts.tail.length+1=ts.length:=by
 cases ts with
 | nil=>unfold ax at h;cases h
 | cons t l=>rfl
theorem aek {n:Nat}{ts:List ai}(h:fC n ts≠0):ts.tail.length+1=ts.length:=by
 obtain⟨p,_,h1,_⟩:=EH h;exact CW h1
theorem Qe : ∀f:Nat,(∀n deep base ts ns a r,eU f n deep base ts=some (.ok (ns,a,r))→ns.length+r.length≤ts.length) ∧
 (∀n deep base ns a ts ns' a' r,iJ f n deep base ns a ts=some (.ok (ns',a',r))→ns'.length+r.length≤ns.length+ts.length) ∧
 (∀deep base ts ns a r,jB f deep base ts=some (.ok (ns,a,r))→ns.length+r.length≤ts.length) ∧
 (∀deep base ns ks ts ns' ks' r,ib f deep base ns ks ts=some (.ok (ns',ks',r))→ns'.length+r.length≤ns.length+ts.length)
 | 0=>by
   refine⟨?_, ?_, ?_, ?_⟩
   · intro n deep base ts ns a r h;unfold eU at h;cases h
   · intro n deep base ns a ts ns' a' r h;unfold iJ at h;cases h
   · intro deep base ts ns a r h;unfold jB at h;cases h
   · intro deep base ns ks ts ns' ks' r h;unfold ib at h;cases h
 | f + 1 => by
   obtain⟨i1,i2,i3,i4⟩:=Qe f;refine⟨?_, ?_, ?_, ?_⟩
   · intro n deep base ts ns a r h
     rw[lQ]at h;by_cases hn:n≤3
     · rw [ah hn]at h
       rcases eG h with ⟨e,_,h2⟩|⟨ms,b,s,h1,h2⟩
       · cases h2
       · have:=i1 _ _ _ _ _ _ _ h1
         have:=i2 _ _ _ _ _ _ _ _ _ h2;omega
     · rw [ag hn]at h
       by_cases c:ax ⟨#[45]⟩ ts=true
       · rw [ah c]at h
         have htl:=CW c;by_cases d:12≤deep
         · rw[ah d]at h;injection h with h;cases h
         · rw [ag d]at h
           rcases eG h with ⟨e,_,h2⟩|⟨ms,b,s,h1,h2⟩
           · cases h2
           · have:=i1 _ _ _ _ _ _ _ h1
             injection h2 with h2;injection h2 with h2;injection h2 with h3 h4;injection h4 with h4 h5;subst h3;subst h5;rw[av,fE];omega
       · rw[ag c]at h;exact i3 _ _ _ _ _ _ h
   · intro n deep base ns a ts ns' a' r h
     rw[qB]at h;by_cases c:fC n ts=0
     · rw[ah c]at h
       injection h with h;injection h with h;injection h with h3 h4;injection h4 with h4 h5;subst h3;subst h5;exact aj _
     · rw [ag c]at h
       have htl:=aek c;rcases eG h with ⟨e,_,h2⟩|⟨ms,b,s,h1,h2⟩
       · cases h2
       · have:=i1 _ _ _ _ _ _ _ h1
         have:=i2 _ _ _ _ _ _ _ _ _ h2;rw[av,av,fE]at this;omega
   · intro deep base ts ns a r h
     cases ts with
     | nil=>rw[zz]at h;injection h with h;cases h
     | cons t ts =>
       rw[lX]at h;by_cases c:ax ⟨#[40]⟩ (t :: ts)=true
       · rw [ah c]at h
         by_cases d:12≤deep
         · rw[ah d]at h;injection h with h;cases h
         · rw [ag d]at h
           rcases eG h with ⟨e,_,h2⟩|⟨ms,b,s,h1,h2⟩
           · cases h2
           · have:=i1 _ _ _ _ _ _ _ h1
             by_cases g:ax ⟨#[41]⟩ s=true
             · rw[ah g]at h2
               injection h2 with h2;injection h2 with h2;injection h2 with h3 h4;injection h4 with h4 h5;subst h3;subst h5;have:=CW g;rw[aX];omega
             · rw[ag g]at h2;injection h2 with h2;cases h2
       · rw [ag c]at h
         by_cases k1:t.kind=1
         · rw[ah k1]at h;injection h with h;injection h with h;injection h with h3 h4;injection h4 with h4 h5;subst h3;subst h5;simp only[aX,dV];omega
         rw[ag k1]at h;by_cases k2:t.kind=2
         · rw[ah k2]at h;injection h with h;injection h with h;injection h with h3 h4;injection h4 with h4 h5;subst h3;subst h5;simp only[aX,dV];omega
         rw[ag k2]at h;by_cases k6:t.kind=6
         · rw[ah k6]at h;injection h with h;injection h with h;injection h with h3 h4;injection h4 with h4 h5;subst h3;subst h5;simp only[aX,dV];omega
         rw[ag k6]at h;by_cases k4:t.kind=4
         · rw[ah k4]at h;injection h with h
           obtain⟨s1,s2,_⟩:=UE h;have:=s1.len;rw[aX,s2];omega
         rw[ag k4]at h;by_cases k3:t.kind=3
         · rw [ah k3]at h
           by_cases w1:t.text=⟨#[84,82,85,69]⟩
           · rw[ah w1]at h;injection h with h;injection h with h;injection h with h3 h4;injection h4 with h4 h5;subst h3;subst h5;simp only[aX,dV];omega
           rw[ag w1]at h;by_cases w2:t.text=⟨#[70,65,76,83,69]⟩
           · rw[ah w2]at h;injection h with h;injection h with h;injection h with h3 h4;injection h4 with h4 h5;subst h3;subst h5;simp only[aX,dV];omega
           rw[ag w2]at h;by_cases w3:ax ⟨#[40]⟩ ts=true
           · rw [ah w3]at h
             have htl:=CW w3;by_cases d:12≤deep
             · rw[ah d]at h;injection h with h;cases h
             rw[ag d]at h;rcases eG h with ⟨e,_,h2⟩|⟨ms,ks,s,h1,h2⟩
             · cases h2
             · have hms:ms.length+s.length≤ts.tail.length:=by
                by_cases g:ax ⟨#[41]⟩ ts.tail=true
                · rw[ah g]at h1
                  injection h1 with h1;injection h1 with h1;injection h1 with h3 h4;injection h4 with h4 h5;subst h3;subst h5;simp
                · rw[ag g]at h1
                  have:=i4 _ _ _ _ _ _ _ _ h1
                  simpa using this
               by_cases g:ax ⟨#[41]⟩ s=true
               · rw[ah g]at h2
                 injection h2 with h2;injection h2 with h2;injection h2 with h3 h4;injection h4 with h4 h5;subst h3;subst h5;have:=CW g;rw[av,fE,aX];omega
               · rw[ag g]at h2;injection h2 with h2;cases h2
           · rw[ag w3]at h;injection h with h;cases h
         · rw[ag k3]at h;injection h with h;cases h
   · intro deep base ns ks ts ns' ks' r h
     rw[o8]at h;rcases eG h with ⟨e,_,h2⟩|⟨ms,b,s,h1,h2⟩
     · cases h2
     · have h3:=i1 _ _ _ _ _ _ _ h1
       by_cases d:ax ⟨#[44]⟩ s=true
       · rw[ah d]at h2
         have:=CW d;have:=i4 _ _ _ _ _ _ _ _ h2;rw[av]at this;omega
       · rw[ag d]at h2
         injection h2 with h2;injection h2 with h2;injection h2 with h3 h4;injection h4 with h4 h5;subst h3;subst h5;rw[av];omega
theorem CK:∀(n:Nat)(l t:List Int)(k:Nat),l.length≤n→Bytes l→eT l=some (t,k)→Bytes t∧∀x∈t,¬ x<32
 | _,[],_,_,_,_,h=>by simp[eT]at h
 | 0,_ :: _,_,_,hn,_,_=>by simp at hn
 | n + 1, x :: l,t,k,hn,hb,h=>by
   have hbl:Bytes l:=fun y hy=>hb y (by simp[hy])
   rw[uy]at h;by_cases h1:x<32
   · rw[ah h1]at h;cases h
   · rw [ag h1]at h
     by_cases h2:x≠34
     · rw [ah h2]at h
       cases hq:eT l with
       | none=>rw[hq]at h;cases h
       | some q =>
         rw[hq]at h;simp only[jo,bf,bE]at h;obtain⟨g1,g2⟩:=CK n l q.1 q.2 (by simp at hn;omega) hbl hq;rw[← h.1];refine⟨?_, ?_⟩
         · intro y hy
           rcases eY.1 hy with rfl|hy
           · exact hb _ (by simp)
           · exact g1 y hy
         · intro y hy
           rcases eY.1 hy with rfl|hy
           · exact h1
           · exact g2 y hy
     · rw [ag h2]at h
       cases l with
       | nil=>simp at h;rw[h.1];exact⟨Bytes.nil,by simp⟩
       | cons y m =>
         by_cases hy:y=34
         · simp only [hy,if_true]at h
           cases hq:eT m with
           | none=>rw[hq]at h;cases h
           | some q =>
             rw[hq]at h;simp only[jo,bf,bE]at h;obtain⟨g1,g2⟩:=CK n m q.1 q.2 (by simp at hn;omega) (fun z hz=>hbl z (by simp[hz])) hq;rw[← h.1];refine⟨?_, ?_⟩
             · intro z hz
               rcases eY.1 hz with rfl|hz
               · omega
               · exact g1 z hz
             · intro z hz
               rcases eY.1 hz with rfl|hz
               · omega
               · exact g2 z hz
         · simp only[hy,if_false,bf,bE]at h
           rw[← h.1];exact⟨Bytes.nil,by simp⟩
theorem Bytes.span(h:Bytes l)(p:Int→Bool):Bytes (l.takeWhile p):=fun x hx=>h x ((List.takeWhile_prefix p).subset hx)
theorem VR (l:List Int)(t:ai)(n p:Nat)(hb:Bytes l)(h:fD l=some (t,n)):Oc (t.goto p)∧t.kind≠0:=by
 cases l with
 | nil=>simp[fD]at h
 | cons x l =>
   rw[rO]at h;by_cases h1:isNum x=true
   · rw [ah h1]at h
     unfold lv at h;split at h
     · cases h
     · simp only[bf,bE]at h
       rw[← h.1];have hv:=BD ((x :: l).takeWhile isNum) [] (uC isNum _) (by decide);rw[iy]at hv;exact⟨⟨fun _=>hv,fun h=>by simp[ai.goto]at h,fun h=>by simp[ai.goto]at h,fun h=>by simp[ai.goto]at h⟩,by simp⟩
   · rw [ag h1] at h
     by_cases h2:x=34
     · rw [ah h2]at h
       unfold lC at h;cases hq:eT l with
       | none=>rw[hq]at h;cases h
       | some q =>
         rw[hq]at h;simp only[jo,bf,bE]at h;obtain⟨g1,g2⟩:=CK _ l q.1 q.2 (aj _) (fun y hy=>hb y (by simp[hy])) hq;rw[← h.1];refine⟨⟨fun h=>by simp[ai.goto]at h,fun _ => ?_,fun h=>by simp[ai.goto]at h,fun h=>by simp[ai.goto]at h⟩,by simp⟩;show mF (sb (strOfNums q.1))=true;rw[jD _ g1];unfold mF;exact aQ g2
     · rw [ag h2]at h
       by_cases h3:x=35
       · rw [ah h3]at h
         unfold qh at h;split at h
         · simp only[bf,bE]at h
           rw[← h.1];exact⟨⟨fun h=>by simp[ai.goto]at h,fun h=>by simp[ai.goto]at h,fun h=>by simp[ai.goto]at h,fun h=>by simp[ai.goto]at h⟩,by simp⟩
         · cases h
       · rw [ag h3]at h
         by_cases h4:isLet x=true∨x=36
         · rw [ah h4]at h
           unfold mZ at h;cases hq:iw (strOfNums ((x :: l).takeWhile isWord))with
           | some d =>
             rw[hq]at h;simp only[bf,bE]at h;rw[← h.1];exact⟨⟨fun h=>by simp[ai.goto]at h,fun h=>by simp[ai.goto]at h,fun h=>by simp[ai.goto]at h,fun _=>(yn _ d hq).2.1⟩,by simp⟩
           | none =>
             rw[hq]at h;simp only at h;by_cases hc:jI ((x :: l).takeWhile isWord)=true
             · rw [ah hc]at h
               simp only[bf,bE]at h;rw[← h.1];refine⟨⟨fun h=>by simp[ai.goto]at h,fun h=>by simp[ai.goto]at h,fun _=>⟨?_, ?_⟩,fun h=>by simp[ai.goto]at h⟩,by simp⟩
               · show jI (sb (strOfNums ((x :: l).takeWhile isWord)))=true
                 rw[jD _ (hb.span isWord)];exact hc
               · show(iw (strOfNums ((x :: l).takeWhile isWord))).isNone=true
                 rw[hq];rfl
             · rw[ag hc]at h;cases h
         · rw [ag h4]at h
           unfold oP at h;split at h
           · cases h
           · simp only[bf,bE]at h
             rw[← h.1];exact⟨⟨fun h=>by simp[ai.goto]at h,fun h=>by simp[ai.goto]at h,fun h=>by simp[ai.goto]at h,fun h=>by simp[ai.goto]at h⟩,by simp⟩
def Fit(ts:List ai):Prop:=∃body e,ts=body++[e]∧e.kind=0∧∀t∈body,t.kind≠0
theorem LQ:∀(f p:Nat)(l:List Int)(ts:List ai),Bytes l→fq f p l=some ts→Good ts∧Fit ts
 | f,p,[],ts,_,h=>by
   have h0:fq f p []=some [ai.zero.goto p]:=by unfold fq;rfl
   rw[h0]at h;injection h with h;subst h;refine⟨?_,[],_,rfl,rfl,by simp⟩;intro t ht;simp at ht;subst ht;exact⟨fun h=>by simp[ai.goto,ai.zero]at h,fun h=>by simp[ai.goto,ai.zero]at h,fun h=>by simp[ai.goto,ai.zero]at h,fun h=>by simp[ai.goto,ai.zero]at h⟩
 | 0,_,_ :: _,_,_,h=>by unfold fq at h;cases h
 | f + 1, p,x :: l,ts,hb,h=>by
   rw[sK]at h;by_cases hx:x=32
   · rw[ah hx]at h
     exact LQ f (p+1) l ts (fun y hy=>hb y (by simp[hy])) h
   · rw [ag hx]at h
     cases hq:fD (x :: l)with
     | none=>rw[hq]at h;cases h
     | some q =>
       obtain⟨t0,n⟩:=q;obtain⟨g1,g2⟩:=VR _ _ _ p hb hq;rw[hq]at h;simp only[Option.map_eq_some_iff]at h;obtain⟨us,h1,rfl⟩:=h;obtain⟨k1,body,e,k2,k3,k4⟩:=LQ f (p+n) ((x :: l).drop n) us (fun y hy=>hb y (List.mem_of_mem_drop hy)) h1;refine⟨?_,t0.goto p :: body,e,by rw[k2];rfl,k3, ?_⟩
       · intro t ht
         rcases eY.1 ht with rfl|ht
         · exact g1
         · exact k1 t ht
       · intro t ht
         rcases eY.1 ht with rfl|ht
         · exact g2
         · exact k4 t ht
theorem G6(s:ByteArray)(ts:List ai)(h:gJ (sb s)=some ts):Good ts∧Fit ts:=LQ _ _ _ _ (fun x hx=>sO s x hx) h
theorem Zx:∀(n u:Nat),u<n→1≤u→(aV u).head? ≠ some 48:=by
 intro n
 induction n with
 | zero=>intro u h;omega
 | succ n ih =>
   intro u hu h1;by_cases h:u<10
   · rw[mr u h];simp;omega
   · rw[qi u h]
     have:=ih (u / 10) (by omega) (by omega);cases hd:aV (u / 10)with
     | nil=>exact absurd hd (tY _)
     | cons y l=>rw[hd]at this;simpa using this
theorem Wj(h:aP x=true):isWord x=true:=LG (.inl (by unfold aP at h;unfold isLet;rw[aK]at h ⊢;omega))
theorem NY(h:isNum x=true):isWord x=true:=by unfold isWord;rw[h];simp
theorem aiQ (c r:Int)(ac ar:Bool):∀x∈qF c r ac ar,isWord x=true:=by
 intro x hx;unfold qF at hx;simp only[dK]at hx;rcases hx with h|h|h|h
 · have:=xJ _ x h;rw[aK]at this;subst this;decide
 · exact Wj (vE c x h)
 · have:=xJ _ x h;rw[aK]at this;subst this;decide
 · exact NY (rq _ x h)
theorem aiN (l:List Int)(h:iH l=true):∀x∈l,isWord x=true:=by
 intro x hx;unfold iH at h;rw[dH,aK]at h;obtain⟨j,hj,rfl⟩:=List.mem_iff_getElem.1 hx;have:=h.1 j hj;rw[jL,dL hj]at this;simp only[Option.getD_some]at this;unfold nY at this;unfold isWord;rw[Bool.or_eq_true,dH]at this;rcases this with h1|⟨_,h1⟩
 · rw[h1];rfl
 · rw[h1];simp
theorem aiR (sh:List Int)(c r:Int)(ac ar:Bool)(h:cK sh c r=true):∀x∈aZ sh c r ac ar,isWord x=true:=by
 intro x hx;rw[Bw _ _ _ _ _ h,dK]at hx;rcases hx with hx|hx
 · by_cases h0:sh=[]
   · rw[ah h0]at hx;simp at hx
   · rw[ag h0,dK]at hx
     rcases hx with hx|hx
     · exact aiN sh ((Cw h).resolve_left h0) x hx
     · simp at hx;subst hx;decide
 · exact aiQ c r ac ar x hx
theorem ahM (sh:List Int)(c r:Int)(ac ar:Bool)(h:cK sh c r=true):∃x l,aZ sh c r ac ar=x :: l∧(isLet x=true∨x=36):=by
 rw[Bw _ _ _ _ _ h];obtain⟨c0,c1,_,_⟩:=EE h;by_cases h0:sh=[]
 · rw [ah h0,iy]
   unfold qF;cases ac with
   | true=>exact⟨36,_,rfl,.inr rfl⟩
   | false =>
     have za:=vE c;cases hc:bB c with
     | nil=>exact absurd hc (Gg c c0 c1)
     | cons y m =>
       refine⟨y,_,rfl,.inl ?_⟩;have:=za y (by rw[hc];simp);unfold aP at this;unfold isLet;rw[aK]at this ⊢;omega
 · rw [ag h0]
   have hn:=(Cw h).resolve_left h0;cases sh with
   | nil=>exact absurd rfl h0
   | cons y m =>
     refine⟨y,_,rfl,.inl ?_⟩;unfold iH at hn;rw[dH,aK]at hn;have:=hn.1 0 (by simp);unfold nY at this
     simpa using this
theorem afc (s:ByteArray)(c r:Int)(ac ar:Bool)(h:cK (sb s) c r=true):∃d,iw (strOfNums (aZ (sb s) c r ac ar))=some d∧d.sh=s∧d.c=c∧d.r=r∧d.ac=ac∧d.ar=ar:=by
 have hb:=jD _ (Al s c r ac ar);cases hq:iw (strOfNums (aZ (sb s) c r ac ar))with
 | none=>exact absurd hb.symm (CL _ hq _ _ _ _ _ h)
 | some d =>
   obtain⟨_,h2,h3⟩:=yn _ d hq;rw[hb]at h3;obtain⟨e1,e2,e3,e4,e5⟩:=VO h2 h h3;exact⟨d,rfl,U6 e1,e2,e3,e4,e5⟩
def fe:List Int→List Int
 | []=>[]
 | x :: l=>(if x=34 then [34,34]else [x])++fe l
theorem EA (c:Int)(_h0:0≤c)(_h1:c≤255)(w:World) :
 Calls Tryz.prog 167 #[.int .u8 c] w fun e w'=>e = .returned (.bool (aP c))∧w=w':=by
 go_enter Tryz.func167,Tryz.ntmps167
 go_wp2
 all_goals go_ret
 all_goals exact⟨gq (by unfold aP;first|rfl|(symm;rw[aK];omega)|(symm;rw[jq];omega)|(rw[decide_eq_decide];omega)),rfl⟩
theorem Ct (c:Int)(_h0:0≤c)(_h1:c≤255)(w:World) :
 Calls Tryz.prog 154 #[.int .u8 c] w fun e w'=>e = .returned (.bool (isNum c))∧w=w':=by
 go_enter Tryz.func154,Tryz.ntmps154
 go_wp2
 all_goals go_ret
 all_goals exact⟨gq (by unfold isNum;first|rfl|(symm;rw[aK];omega)|(symm;rw[jq];omega)|(rw[decide_eq_decide];omega)),rfl⟩
theorem R9{c:Int}(h:aP c=true):isLet c=true:=by unfold aP at h;unfold isLet;rw[aK]at h ⊢;omega
theorem Sb{c:Int}(h:aP c=false):isLet c=decide (97≤c∧c≤122):=by unfold aP at h;unfold isLet;rw[jq]at h;rw[decide_eq_decide];omega
theorem EB (c:Int)(_h0:0≤c)(_h1:c≤255)(w:World) :
 Calls Tryz.prog 153 #[.int .u8 c] w fun e w'=>e = .returned (.bool (isLet c))∧w=w':=by
 by_cases hc:aP c=true
 · have hl:=R9 hc
   have HL:=ae hl;clear hl;go_enter Tryz.func153,Tryz.ntmps153;go_wp2_with (go_at_call 167;((with_reducible refine(EA _ ?_ ?_ _).mono ?_);(first|omega|skip);(first|omega|skip);rintro e w' ⟨rfl,rfl⟩))
   all_goals go_ret
   all_goals exact⟨gq (by rw[HL.o]),rfl⟩
 · have hc':aP c=false:=by simpa using hc
   have hl:=Sb hc';have HL:=ae hl;clear hl hc;go_enter Tryz.func153,Tryz.ntmps153;go_wp2_with (go_at_call 167;((with_reducible refine(EA _ ?_ ?_ _).mono ?_);(first|omega|skip);(first|omega|skip);rintro e w' ⟨rfl,rfl⟩))
   all_goals go_ret
   all_goals exact⟨gq (by rw[HL.o];first|rfl|(symm;rw[aK];omega)|(symm;rw[jq];omega)|(rw[decide_eq_decide];omega)),rfl⟩
theorem adK (s:ByteArray)(h:s.size=0):iH (sb s)=false:=by
 unfold iH;rw[bz,h,Bool.and_eq_false_iff];right;rfl
theorem adJ (s:ByteArray)(h:12<s.size):iH (sb s)=false:=by
 unfold iH;rw[bz,Bool.and_eq_false_iff];right;rw[jq];omega
theorem Hg (s:ByteArray)(w:World)(_hs:s.size≤1000000) :
 Calls Tryz.prog 135 #[.string s] w fun e w'=>e = .returned (.bool (iH (sb s)))∧w=w':=by
 by_cases h0:s.size=0
 · have hz:=vM s h0
   have hno:=adK s h0;have eu:=ae hno;clear hno;subst hz;clear h0 _hs;go_enter Tryz.func135,Tryz.ntmps135;go_wp2_with fail
   all_goals go_ret
   all_goals exact⟨gq eu.o.symm,rfl⟩
 · have hne := sQ s h0
   have xW:s.toList.isEmpty=false:=by cases hq:s.toList with|nil=>exact absurd hq hne|cons a l=>rfl
   by_cases h12:12<s.size
   · have hno:=adJ s h12
     have eu:=ae hno;clear hno;have aaQ:(12:Int)<(s.size:Int):=by omega
     clear h0;go_enter Tryz.func135,Tryz.ntmps135;go_wp2_with fail
     all_goals go_ret
     all_goals exact⟨gq eu.o.symm,rfl⟩
   · have aaQ : ¬ (12:Int)<(s.size:Int):=by omega
     have hp0:0<s.size:=by omega
     obtain⟨a,ha⟩:∃a:Int,(s[0].toNat:Int)=a:=⟨_,rfl⟩;have ha1:0≤a∧a≤255:=by have:=s[0].toNat_lt;omega
     have hga:(sb s).getD 0 0=a:=by rw[uz s 0 hp0,ha]
     have zX:=ae hga;clear hga;by_cases hl:isLet a=true
     · have hin : ∀j,j<1→nY j ((sb s).getD j 0)=true:=by
        intro j hj;have:j=0:=by omega
        subst this;rw[zX.o];unfold nY;rw[hl];rfl
       have Dt:=ae hin;clear hin;clear h0;go_enter Tryz.func135,Tryz.ntmps135;go_wp2_with (go_at_call 153;((with_reducible refine(EB _ ?_ ?_ _).mono ?_);(first|omega|skip);(first|omega|skip);rintro e w' ⟨rfl,rfl⟩))
       clear hl
       go_loopw [3] (fun i wr=>∃k:Nat,1≤k∧k≤s.size∧i = .int .i64 k∧Hid (∀j,j<k→nY j ((sb s).getD j 0)=true)∧w=wr)
        (fun i _=>s.size - (intOf i).toNat)
       case atStart=>exact⟨1,by omega,by omega,rfl,Dt,rfl⟩
       case round =>
        obtain⟨k,hk1,hk,rfl,HG,rfl⟩:=hrel;by_cases hlt:k<s.size
        · have hki:(k:Int)<(s.size:Int):=by omega
          obtain⟨b,hb⟩:∃b:Int,(s[k].toNat:Int)=b:=⟨_,rfl⟩;have hb1:0≤b∧b≤255:=by have:=s[k].toNat_lt;omega
          have hgb:(sb s).getD k 0=b:=by rw[uz s k hlt,hb]
          have xe:=ae hgb;clear hgb;by_cases hl:isLet b=true
          · go_wp2_with (first
             | (go_at_call 153;((with_reducible refine(EB _ ?_ ?_ _).mono ?_);(first|omega|skip);(first|omega|skip);rintro e w' ⟨rfl,rfl⟩)))
            go_roundw
            case rel =>
             refine⟨k+1,by omega,by omega,by go_num,ae ?_,by trivial⟩;intro j hj;by_cases h1:j<k
             · exact HG.o j h1
             · rw[show j=k from by omega,xe.o];unfold nY;rw[hl,Bool.true_or]
            case measure=>simp[intOf];omega
          · have hl':isLet b=false:=by simpa using hl
            clear hl;by_cases hn:isNum b=true
            · go_wp2_with (first
               | (go_at_call 153;((with_reducible refine(EB _ ?_ ?_ _).mono ?_);(first|omega|skip);(first|omega|skip);rintro e w' ⟨rfl,rfl⟩))
               | (go_at_call 154;((with_reducible refine(Ct _ ?_ ?_ _).mono ?_);(first|omega|skip);(first|omega|skip);rintro e w' ⟨rfl,rfl⟩)))
              go_roundw
              case rel =>
               refine⟨k+1,by omega,by omega,by go_num,ae ?_,by trivial⟩;intro j hj;by_cases h1:j<k
               · exact HG.o j h1
               · rw[show j=k from by omega,xe.o];unfold nY;rw[hl',hn,aQ (by omega:0<k)];rfl
              case measure=>simp[intOf];omega
            · have hn':isNum b=false:=by simpa using hn
              clear hn;have hno:=Hf s k hlt (by rw[xe.o];unfold nY;rw[hl',hn',Bool.and_false];rfl);have eu:=ae hno;clear hno
              go_wp2_with (first
               | (go_at_call 153;((with_reducible refine(EB _ ?_ ?_ _).mono ?_);(first|omega|skip);(first|omega|skip);rintro e w' ⟨rfl,rfl⟩))
               | (go_at_call 154;((with_reducible refine(Ct _ ?_ ?_ _).mono ?_);(first|omega|skip);(first|omega|skip);rintro e w' ⟨rfl,rfl⟩)))
              all_goals go_ret
              all_goals exact⟨gq eu.o.symm,rfl⟩
        · have hki:¬ (k:Int)<(s.size:Int):=by omega
          have hno:=TF s (fun j hj=>HG.o j (by omega));rw[aQ (by omega)]at hno;have eu:=ae hno;clear hno;go_wp2_with fail
          all_goals go_ret
          all_goals exact⟨gq eu.o.symm,rfl⟩
     · have hl':isLet a=false:=by simpa using hl
       have hno:=Hf s 0 hp0 (by rw[zX.o];unfold nY;rw[hl'];rfl);have eu:=ae hno;clear hno hl h0;go_enter Tryz.func135,Tryz.ntmps135;go_wp2_with (go_at_call 153;((with_reducible refine(EB _ ?_ ?_ _).mono ?_);(first|omega|skip);(first|omega|skip);rintro e w' ⟨rfl,rfl⟩))
       all_goals go_ret
       all_goals exact⟨gq eu.o.symm,rfl⟩
theorem ZJ:∀m:Nat,m<26→Utf8.encode (65+(m:Int))=strOfNums [65+(m:Int)]:=by decide +kernel
theorem Qm (x:Int)(h0:65≤x)(h1:x≤90):Utf8.encode x=strOfNums [x]:=by
 have:=ZJ (x - 65).toNat (by omega);rw[show(65:Int)+((x - 65).toNat:Int)=x from by omega]at this;exact this
theorem ahA(a b:List Int)(A B:ByteArray)(h:A=strOfNums a)(k:B=strOfNums b):A++B=strOfNums (a++b):=by rw[h,k,mW]
def cu(w:World)(b:Nat)(d:Rd):Prop:=w.heap[b]? = some (.cells d.cells 182)
theorem cu.lt(h:cu w b d):b<w.heap.size:=(dn.1 h).1
theorem cu.drewN(h:cu w b d)(n:Nat):cu (w.drewN n) b d:=h
theorem cu.below{w':World}{B:Nat}(h:cu w b d)(hb:Below B w w')(hB:b<B):cu w' b d:=by unfold cu;rw[hb.block b hB];exact h
theorem cu.facts (h:cu w b d) :
 w.cell? ⟨b,0,none⟩=some (.string d.s)∧w.cell? ⟨b,1,none⟩=some (.int .i64 d.k)∧w.cell? ⟨b,2,none⟩=some (.string d.sh)∧w.cell? ⟨b,3,none⟩=some (.int .i64 d.c)∧w.cell? ⟨b,4,none⟩=some (.int .i64 d.r)∧w.cell? ⟨b,5,none⟩=some (.bool d.ac)∧w.cell? ⟨b,6,none⟩=some (.bool d.ar) :=
 ⟨by rw[cell_of_row w b 0 _ _ _ h];rfl,by rw[cell_of_row w b 1 _ _ _ h];rfl,by rw[cell_of_row w b 2 _ _ _ h];rfl,by rw[cell_of_row w b 3 _ _ _ h];rfl,by rw[cell_of_row w b 4 _ _ _ h];rfl,by rw[cell_of_row w b 5 _ _ _ h];rfl,by rw[cell_of_row w b 6 _ _ _ h];rfl⟩
theorem cu.frozen(h:cu w b d)(j:Nat):w.frozen? ⟨b,j,none⟩=false:=frozen_of_row w b j _ _ h
theorem cu.uA(h:cu w b d)(k:Nat):cu (w.setCell ⟨b,1,none⟩ (.int .i64 (k:Int))) b { d with k:=k }:=by unfold cu;rw[heap_setCell_same w b 1 _ _ _ h];rfl
theorem cu.agE(h:cu w b d)(s:ByteArray):cu (w.setCell ⟨b,2,none⟩ (.string s)) b { d with sh:=s }:=by unfold cu;rw[heap_setCell_same w b 2 _ _ _ h];rfl
theorem cu.Va(h:cu w b d)(c:Int):cu (w.setCell ⟨b,3,none⟩ (.int .i64 c)) b { d with c:=c }:=by unfold cu;rw[heap_setCell_same w b 3 _ _ _ h];rfl
theorem cu.Vb(h:cu w b d)(c:Int):cu (w.setCell ⟨b,4,none⟩ (.int .i64 c)) b { d with r:=c }:=by unfold cu;rw[heap_setCell_same w b 4 _ _ _ h];rfl
theorem cu.agA(h:cu w b d)(x:Bool):cu (w.setCell ⟨b,5,none⟩ (.bool x)) b { d with ac:=x }:=by unfold cu;rw[heap_setCell_same w b 5 _ _ _ h];rfl
theorem cu.agB(h:cu w b d)(x:Bool):cu (w.setCell ⟨b,6,none⟩ (.bool x)) b { d with ar:=x }:=by unfold cu;rw[heap_setCell_same w b 6 _ _ _ h];rfl
def Part (o:Option Rd)(b:Nat)(w:World)(e:Ending)(w':World):Prop :=
 w.grownBy w' (some b)∧((∃d',o=some d'∧e = .returned (.bool true)∧cu w' b d')∨(o=none∧e = .returned (.bool false)))
theorem Z5 (b:Nat)(d:Rd)(w:World)(h:cu w b d)(_hs:d.s.size≤1000000)(_hk:d.k≤d.s.size) :
 Calls Tryz.prog 177 #[.pointer (some ⟨b,0,none⟩)] w (Part d.fin b w):=by
 obtain⟨c0,c1,c2,c3,c4,c5,c6⟩:=h.facts;clear c2 c3 c4 c5 c6;have HR:=ae h;clear h;by_cases hk:d.k=d.s.size
 · have hf:d.fin=some d:=by unfold Rd.fin;rw[ah hk]
   have HF:=ae hf;clear hf;have hi:((d.k:Int) == (d.s.size:Int))=true:=bA.2 (by omega);go_enter Tryz.func177,Tryz.ntmps177;go_wp2_with fail
   go_quiet (fail)
   go_wp2_with fail
   go_ret;exact⟨grownBy.fJ (grownBy.fP _ _) _,.inl ⟨d,HF.o,by simp,HR.o.drewN _⟩⟩
 · have hf:d.fin=none:=by unfold Rd.fin;rw[ag hk]
   have HF:=ae hf;clear hf;have hi:((d.k:Int) == (d.s.size:Int))=false:=aA.2 (by omega);go_enter Tryz.func177,Tryz.ntmps177;go_wp2_with fail
   go_quiet (fail)
   go_wp2_with fail
   go_ret;exact⟨grownBy.fJ (grownBy.fP _ _) _,.inr ⟨HF.o,by simp⟩⟩
theorem M4 (d:Rd)(h:d.k<d.s.size):d.rest.head? = some ((d.s[d.k].toNat:Nat):Int):=by
 unfold Rd.rest;rw[List.head?_drop,qC d.s d.k h]
theorem UT (d:Rd)(h:d.s.size≤d.k):d.rest=[]:=by
 unfold Rd.rest;rw[List.drop_eq_nil_iff,bz];exact h
theorem Te (b:Nat)(d:Rd)(w:World)(h:cu w b d)(_hs:d.s.size≤1000000)(_hk:d.k≤d.s.size) :
 Calls Tryz.prog 194 #[.pointer (some ⟨b,0,none⟩)] w fun e w'=>e = .returned (.bool d.mark)∧cu w' b { d with k:=d.k+(fo d.mark).length }∧w.grownBy w' (some b):=by
 obtain⟨c0,c1,c2,c3,c4,c5,c6⟩:=h.facts;clear c2 c3 c4 c5 c6;have f1:=h.frozen 1;have HR:=ae h;clear h;by_cases hk:d.k=d.s.size
 · have hf:d.mark=false:=by unfold Rd.mark;rw[UT d (by omega)];rfl
   have HF:=ae hf;clear hf;have hi:((d.k:Int) == (d.s.size:Int))=true:=bA.2 (by omega);go_enter Tryz.func194,Tryz.ntmps194;go_wp2_with fail
   go_quiet (fail)
   go_wp2_with fail
   go_ret;rw[HF.o];exact⟨rfl,HR.o.drewN _,grownBy.fJ (grownBy.fP _ _) _⟩
 · have hi:((d.k:Int) == (d.s.size:Int))=false:=aA.2 (by omega)
   have hlt:d.k<d.s.size:=by omega
   have hki:(d.k:Int)<(d.s.size:Int):=by omega
   obtain⟨a,ha⟩:∃a:Int,(d.s[d.k].toNat:Int)=a:=⟨_,rfl⟩;have ha1:0≤a∧a≤255:=by have:=d.s[d.k].toNat_lt;omega
   have hh:=M4 d hlt;rw[ha]at hh;by_cases ik:a=36
   · have hf:d.mark=true:=by unfold Rd.mark;rw[hh,ik];rfl
     have HF:=ae hf;clear hf hh;have hj:(a == 36)=true:=bA.2 ik;have hj2:(a != 36)=false:=by rw[bne,hj];rfl
     clear ik;go_enter Tryz.func194,Tryz.ntmps194;go_wp2_with fail
     go_quiet (fail)
     go_wp2_with fail
     go_ret;rw[HF.o];exact⟨rfl,(HR.o.drewN _).uA (d.k+1),grownBy.gU (grownBy.fJ (grownBy.fP _ _) _) _ _⟩
   · have hf:d.mark=false:=by unfold Rd.mark;rw[hh,jq];intro h;injection h with h;exact ik h
     have HF:=ae hf;clear hf hh;have hj:(a == 36)=false:=aA.2 ik;have hj2:(a != 36)=true:=by rw[bne,hj];rfl
     clear ik;go_enter Tryz.func194,Tryz.ntmps194;go_wp2_with fail
     go_quiet (fail)
     go_wp2_with fail
     go_ret;rw[HF.o];exact⟨rfl,HR.o.drewN _,grownBy.fJ (grownBy.fP _ _) _⟩
theorem Ye (b:Nat)(d:Rd)(w:World)(h:cu w b d)(_hs:d.s.size≤1000000)(_hk:d.k≤d.s.size) :
 Calls Tryz.prog 173 #[.pointer (some ⟨b,0,none⟩)] w (Part d.yS b w):=by
 have HR:=ae h;clear h;go_enter Tryz.func173,Tryz.ntmps173;go_wp2_with (go_at_call 194;((with_reducible refine(Te b d _ HR.o ?_ ?_).mono ?_);(first|omega|skip);(first|omega|skip);rintro e w1 ⟨rfl,h1,h2⟩;obtain⟨c0,c1,c2,c3,c4,c5,c6⟩:=h1.facts;have f5:=h1.frozen 5;have H1:=ae h1;clear h1;have H2:=ae h2;clear h2))
 go_ret;exact⟨grownBy.gU H2.o _ _,.inl ⟨_,rfl,rfl,H1.o.agA _⟩⟩
theorem Yf (b:Nat)(d:Rd)(w:World)(h:cu w b d)(_hs:d.s.size≤1000000)(_hk:d.k≤d.s.size) :
 Calls Tryz.prog 175 #[.pointer (some ⟨b,0,none⟩)] w (Part d.yT b w):=by
 have HR:=ae h;clear h;go_enter Tryz.func175,Tryz.ntmps175;go_wp2_with (go_at_call 194;((with_reducible refine(Te b d _ HR.o ?_ ?_).mono ?_);(first|omega|skip);(first|omega|skip);rintro e w1 ⟨rfl,h1,h2⟩;obtain⟨c0,c1,c2,c3,c4,c5,c6⟩:=h1.facts;have f6:=h1.frozen 6;have H1:=ae h1;clear h1;have H2:=ae h2;clear h2))
 go_ret;exact⟨grownBy.gU H2.o _ _,.inl ⟨_,rfl,rfl,H1.o.agB _⟩⟩
theorem sM {f:FuncId}{args:Array Value}{n:Nat}{v:Value}(h:Calls Tryz.prog f args (w.drewN n) fun e w'=>e = .returned v∧w.drewN n=w'):Calls Tryz.prog f args (w.drewN n) fun e w''=>e = .returned v∧∃m,w''=w.drewN m :=
 Calls.quiet_of_same (h.mono fun _ _ ⟨a,b⟩=>⟨a,b.symm⟩)
theorem cu.yt {m p:Nat}(h:cu w b { d with k:=d.k+m })(hp:d.k+m=p)(n:Nat):cu ((w.drewN n).setCell ⟨b,1,none⟩ (.int .i64 ((p:Int)+1))) b { d with k:=d.k+(m+1) }:=by
 subst hp;exact(h.drewN n).uA (d.k+m+1)
theorem NA (d:Rd)(m:Nat)(h:d.k+m<d.s.size):d.rest.take (m+1)=d.rest.take m++[((d.s[d.k+m].toNat:Nat):Int)]:=by
 unfold Rd.rest;rw[List.take_add_one,List.getElem?_drop,qC d.s _ h];rfl
theorem ry(d:Rd):d.rest.length=d.s.size - d.k:=by unfold Rd.rest;rw[lG,bz]
theorem Bu (p:Int→Bool)(l:List Int)(m:Nat)(h:∀x∈l.take m,p x=true)(h2:∀x,l[m]? = some x→p x=false):l.takeWhile p=l.take m:=by
 have e:=vP p (l.take m) (l.drop m) h (fun x hx=>h2 x (by rw[List.head?_drop]at hx;exact hx));rw[List.take_append_drop]at e;exact e
theorem IC (p:Int→Bool)(l:List Int)(m:Nat)(h:∀x∈l.take m,p x=true):l.takeWhile p=l.take m++(l.drop m).takeWhile p:=by
 have e:=VM p (l.take m) (l.drop m) h;rw[List.take_append_drop]at e;exact e
theorem qV {p:Int→Bool}(h:∀y∈l,p y=true)(hx:p x=true):∀y∈l++[x],p y=true:=by
 intro y hy;rw[dK]at hy;rcases hy with hy|hy
 · exact h y hy
 · simp at hy;rw[hy];exact hx
def pg(l:List Int):Int:=l.foldl (fun n x=>26*n+(x - 64)) 0
theorem Zk(l:List Int)(x:Int):pg (l++[x])=26*pg l+(x - 64):=by unfold pg;rw[List.foldl_append];rfl
theorem Qd (l:List Int)(h:∀x∈l,aP x=true)(hl:l.length≤2):pg l≤702∧(l=[]∧pg l=0∧jy l=false∨0<pg l∧jy l=true∧lY l=pg l - 1):=by
 match l,hl,h with
 | [],_,_=>exact⟨by decide,.inl ⟨rfl,rfl,rfl⟩⟩
 | [a],_,h =>
   have ha:=h a (by simp);have:=sG ha;have hv:pg [a]=a - 64:=by unfold pg;simp
   have hi:jy [a]=true:=by unfold jy;simp[ha]
   refine⟨by omega,.inr ⟨by omega,hi, ?_⟩⟩;unfold lY;rw[ah hi,hv];simp;omega
 | [a,b],_,h =>
   have ha:=h a (by simp);have hb:=h b (by simp);have g1:=sG ha;have g2:=sG hb;have hv:pg [a,b]=26*(a - 64)+(b - 64):=by unfold pg;simp
   have hi:jy [a,b]=true:=by unfold jy;simp[ha,hb]
   refine⟨by omega,.inr ⟨by omega,hi, ?_⟩⟩;unfold lY;rw[ah hi,hv];simp;omega
theorem abQ(h:2<l.length):jy l=false:=by unfold jy;rw[aS (by omega),Bool.false_and]
theorem Qc (d:Rd)(m:Nat)(v:Int)(b:Nat)(w wr:World)(hv:pg (d.rest.take m)=v)(aT:∀x∈d.rest.take m,aP x=true)(hm:m≤2)(hk:d.k+m≤d.s.size)(AX:∀x,d.rest[m]? = some x→aP x=false)(e:Ending)(he:e = .returned (.bool (decide (0<v))))
 (hr:cu wr b { { d with k:=d.k+m }with c:=v - 1 }) (hg:w.grownBy wr (some b)):Part d.col b w e wr:=by
 subst he;have hsp:=Bu aP d.rest m aT AX;have hlen:(d.rest.take m).length=m:=by rw[gX,ry];omega
 refine⟨hg, ?_⟩;unfold Rd.col;rw[hsp];rcases(Qd (d.rest.take m) aT (by omega)).2 with ⟨h1,h2,h3⟩|⟨h1,h2,h3⟩
 · rw[h3,ag (by simp)]
   exact .inr ⟨rfl,by rw[aS (by omega)]⟩
 · rw[ah h2]
   refine .inl ⟨_,rfl,by rw[aQ (by omega)], ?_⟩;rw[h3,hv,hlen];exact hr
theorem Zj (b:Nat)(d:Rd)(w:World)(h:cu w b d)(_hs:d.s.size≤1000000)(_hk:d.k≤d.s.size) :
 Calls Tryz.prog 174 #[.pointer (some ⟨b,0,none⟩)] w (Part d.col b w):=by
 have HR:=ae h;clear h;go_enter Tryz.func174,Tryz.ntmps174;go_wp2_with fail
 go_loopw [3] (fun n wr=>∃(m:Nat)(v:Int),n = .int .i64 v∧0≤v∧v≤702∧d.k+m≤d.s.size∧Hid (pg (d.rest.take m)=v∧(∀x∈d.rest.take m,aP x=true)∧m≤2)∧Hid (cu wr b { d with k:=d.k+m })∧Hid (w.grownBy wr (some b)))
  (fun n _=>800 - (intOf n).toNat)
 case atStart=>exact⟨0,0,rfl,by omega,by omega,by omega,ae ⟨rfl,by simp,by omega⟩,ae HR.o,ae (grownBy.fP _ _)⟩
 case round =>
  obtain⟨m,v,rfl,hv0,hv1,dM,HM,fH,HG⟩:=hrel;obtain⟨c0,c1,c2,c3,c4,c5,c6⟩:=fH.o.facts;have f1:=fH.o.frozen 1;have f3:=fH.o.frozen 3;clear c2 c4 c5 c6;simp only at c0 c1 c3;obtain⟨p,hp⟩:∃p:Nat,d.k+m=p:=⟨_,rfl⟩;rw[hp]at c1;by_cases hlt:p<d.s.size
  · have lu : (p:Int)<(d.s.size:Int):=by omega
    obtain⟨a,ha⟩:∃a:Int,(d.s[p].toNat:Int)=a:=⟨_,rfl⟩;have ha1:0≤a∧a≤255:=by have:=d.s[p].toNat_lt;omega
    have hnx:d.rest.take (m+1)=d.rest.take m++[a]:=by subst hp;rw[NA d m hlt,ha]
    have hat:d.rest[m]? = some a:=by subst hp;unfold Rd.rest;rw[List.getElem?_drop,qC d.s _ hlt,ha]
    have dR:=ae hnx;clear hnx;have HAT:=ae hat;clear hat;have HP:=ae hp;clear hp;by_cases hc:aP a=true
    · have hcb := sG hc
      have rf:pg (d.rest.take (m+1))=26*v+(a - 64):=by rw[dR.o,Zk,HM.o.1]
      have aT:=qV HM.o.2.1 hc;rw[← dR.o]at aT;have kM:=ae rf;clear rf;have kY:=ae aT;clear aT;by_cases qZ:702<v*26+(a - 65)+1
      · have hno:d.col=none:=by
         have h2:¬ m+1≤2:=by
          intro h2;have:=(Qd _ kY.o (by rw[gX];omega)).1;rw[kM.o]at this;omega
         have h3:jy (d.rest.takeWhile aP)=false:=by
          apply abQ;rw[IC aP d.rest (m+1) kY.o,av,gX,ry];have:=HP.o;omega
         unfold Rd.col;rw[h3];rfl
        have eu:=ae hno;clear hno;go_wp2_with fail
        go_quiet ((go_at_call 167;exact sM (EA _ (by omega) (by omega) _)))
        go_wp2_with fail
        go_quiet (fail)
        go_wp2_with fail
        go_ret;exact⟨grownBy.fJ HG.o _,.inr ⟨eu.o,rfl⟩⟩
      · go_wp2_with fail
        go_quiet ((go_at_call 167;exact sM (EA _ (by omega) (by omega) _)))
        go_wp2_with fail
        go_quiet (fail)
        go_wp2_with fail
        go_roundw
        case rel =>
         have hm2:m+1≤2:=by
          have h3:=HM.o.2.2;by_cases h:m=2
          · exfalso
            have hl:(d.rest.take m).length=2:=by rw[gX,ry];have:=HP.o;omega
            match hq:d.rest.take m,hl with
            | [x,y],_ =>
              have h1:=HM.o.2.1;have h4:=HM.o.1;rw[hq]at h1 h4;have g1:=sG (h1 x (by simp));have g2:=sG (h1 y (by simp));have hv:pg [x,y]=26*(x - 64)+(y - 64):=by unfold pg;simp
              omega
          · omega
         refine⟨m+1,v*26+(a - 65)+1,rfl,by omega,by omega,by have:=HP.o;omega,ae ⟨by rw[kM.o];omega,kY.o,hm2⟩,ae ?_,ae (grownBy.gU (grownBy.fJ HG.o _) _ _)⟩;exact cu.yt fH.o HP.o _
        case measure=>simp[intOf];omega
    · have hc':aP a=false:=by simpa using hc
      clear hc;have mD:=fun (e:Ending)(oz:World)=>Qc d m v b w oz HM.o.1 HM.o.2.1 HM.o.2.2 dM (fun x hx=>by rw[HAT.o]at hx;injection hx with hx;rw[← hx];exact hc') e
      have zW:=ae mD;clear mD;go_wp2_with fail
      go_quiet ((go_at_call 167;exact sM (EA _ (by omega) (by omega) _)))
      go_wp2_with fail
      go_ret;exact zW.o _ _ rfl ((fH.o.drewN _).Va _) (grownBy.gU (grownBy.fJ HG.o _) _ _)
  · have lu:¬ (p:Int)<(d.s.size:Int):=by omega
    have mD:=fun (e:Ending)(oz:World)=>Qc d m v b w oz HM.o.1 HM.o.2.1 HM.o.2.2 dM (fun x hx=>by have h1:=(dS.1 hx).1;rw[ry]at h1;omega) e
    have zW:=ae mD;clear mD;clear hp;go_wp2_with fail
    go_quiet (fail)
    go_wp2_with fail
    go_ret;exact zW.o _ _ rfl ((fH.o.drewN _).Va _) (grownBy.gU (grownBy.fJ HG.o _) _ _)
theorem U1 (d:Rd)(m:Nat)(v:Int)(b:Nat)(w wr:World)(hv:dB (d.rest.take m)=v)(aT:∀x∈d.rest.take m,isNum x=true)(hz:m=0∧v=0∨1≤v∧d.rest.take m≠[]∧(d.rest.take m).head? ≠ some 48)(hv9:v≤999)(hk:d.k+m≤d.s.size)(AX:∀x,d.rest[m]? = some x→isNum x=false)(e:Ending)(he:e = .returned (.bool (decide (0<v))))
 (hr:cu wr b { { d with k:=d.k+m }with r:=v - 1 }) (hg:w.grownBy wr (some b)):Part d.row b w e wr:=by
 subst he;have hsp:=Bu isNum d.rest m aT AX;have hlen:(d.rest.take m).length=m:=by rw[gX,ry];omega
 refine⟨hg, ?_⟩;unfold Rd.row;rw[hsp];rcases hz with ⟨h1,h2⟩|⟨h1,h2,h3⟩
 · have:isRow (d.rest.take m)=false:=by rw[h1];rfl
   rw[this,ag (by simp)];exact .inr ⟨rfl,by rw[aS (by omega)]⟩
 · have:isRow (d.rest.take m)=true:=by unfold isRow;rw[aK];exact⟨h2,h3,by omega⟩
   rw[ah this];refine .inl ⟨_,rfl,by rw[aQ (by omega)], ?_⟩;rw[hv,hlen];exact hr
theorem aaK(h:l≠[]):(l++[x]).head? = l.head? := by cases l with|nil=>exact absurd rfl h|cons a l=>rfl
theorem af4 (b:Nat)(d:Rd)(w:World)(h:cu w b d)(_hs:d.s.size≤1000000)(_hk:d.k≤d.s.size) :
 Calls Tryz.prog 176 #[.pointer (some ⟨b,0,none⟩)] w (Part d.row b w):=by
 have HR:=ae h;clear h;go_enter Tryz.func176,Tryz.ntmps176;go_wp2_with fail
 go_loopw [3] (fun n wr=>∃(m:Nat)(v:Int),n = .int .i64 v∧0≤v∧v≤999∧d.k+m≤d.s.size∧Hid (dB (d.rest.take m)=v∧(∀x∈d.rest.take m,isNum x=true)∧(m=0∧v=0∨1≤v∧d.rest.take m≠[]∧(d.rest.take m).head? ≠ some 48))∧Hid (cu wr b { d with k:=d.k+m })∧Hid (w.grownBy wr (some b)))
  (fun n _=>1200 - (intOf n).toNat)
 case atStart=>exact⟨0,0,rfl,by omega,by omega,by omega,ae ⟨rfl,by simp,.inl ⟨rfl,rfl⟩⟩,ae HR.o,ae (grownBy.fP _ _)⟩
 case round =>
  obtain⟨m,v,rfl,hv0,hv1,dM,HM,fH,HG⟩:=hrel;obtain⟨c0,c1,c2,c3,c4,c5,c6⟩:=fH.o.facts;have f1:=fH.o.frozen 1;have f4:=fH.o.frozen 4;clear c2 c3 c5 c6;simp only at c0 c1 c4;obtain⟨p,hp⟩:∃p:Nat,d.k+m=p:=⟨_,rfl⟩;rw[hp]at c1;by_cases hlt:p<d.s.size
  · have lu:(p:Int)<(d.s.size:Int):=by omega
    obtain⟨a,ha⟩:∃a:Int,(d.s[p].toNat:Int)=a:=⟨_,rfl⟩;have ha1:0≤a∧a≤255:=by have:=d.s[p].toNat_lt;omega
    have hnx:d.rest.take (m+1)=d.rest.take m++[a]:=by subst hp;rw[NA d m hlt,ha]
    have hat:d.rest[m]? = some a:=by subst hp;unfold Rd.rest;rw[List.getElem?_drop,qC d.s _ hlt,ha]
    have dR:=ae hnx;clear hnx;have HAT:=ae hat;clear hat;have HP:=ae hp;clear hp;by_cases hc:isNum a=true
    · have hcb:=jA hc
      have rf:dB (d.rest.take (m+1))=10*v+(a - 48):=by rw[dR.o,zO,HM.o.1]
      have aT:=qV HM.o.2.1 hc;rw[← dR.o]at aT;have kM:=ae rf;clear rf;have kY:=ae aT;clear aT;by_cases qo:v*10+(a - 48)=0∨999<v*10+(a - 48)
      · have hno:d.row=none:=by
         have h3:isRow (d.rest.takeWhile isNum)=false:=by
          rw[IC isNum d.rest (m+1) kY.o];unfold isRow;rw[jq];rintro⟨_,h2,h3⟩;rcases qo with h|h
          · rcases HM.o.2.2 with ⟨hm0,_⟩|⟨hm1,_⟩
            · apply h2;rw[dR.o,hm0];simp;omega
            · omega
          · have:=BD ((d.rest.drop (m+1)).takeWhile isNum) (d.rest.take (m+1)) (uC isNum _) (by rw[kM.o];omega)
            rw[kM.o]at this;omega
         unfold Rd.row;rw[h3];rfl
        have eu:=ae hno;clear hno;by_cases hz:v*10+(a - 48)=0
        · have hzb:(v*10+(a - 48) == 0)=true:=bA.2 hz
          clear qo hz;go_wp2_with fail
          go_quiet ((go_at_call 154;exact sM (Ct _ (by omega) (by omega) _)))
          go_wp2_with fail
          go_quiet (fail)
          go_wp2_with fail
          go_ret;exact⟨grownBy.fJ HG.o _,.inr ⟨eu.o,rfl⟩⟩
        · have hzb:(v*10+(a - 48) == 0)=false:=aA.2 hz
          have h9:999<v*10+(a - 48):=by omega
          clear qo hz;go_wp2_with fail
          go_quiet ((go_at_call 154;exact sM (Ct _ (by omega) (by omega) _)))
          go_wp2_with fail
          go_quiet (fail)
          go_wp2_with fail
          go_ret;exact⟨grownBy.fJ HG.o _,.inr ⟨eu.o,rfl⟩⟩
      · have hz:¬ v*10+(a - 48)=0:=by omega
        have hzb:(v*10+(a - 48) == 0)=false:=aA.2 hz;have h9:¬ 999<v*10+(a - 48):=by omega
        have h9':v*10+(a - 48)≤999:=by omega
        have h1':1≤v*10+(a - 48):=by omega
        clear qo hz;go_wp2_with fail
        go_quiet ((go_at_call 154;exact sM (Ct _ (by omega) (by omega) _)))
        go_wp2_with fail
        go_quiet (fail)
        go_wp2_with fail
        go_roundw
        case rel =>
         refine⟨m+1,v*10+(a - 48),rfl,by omega,by omega,by have:=HP.o;omega,ae ⟨by rw[kM.o];omega,kY.o,.inr ⟨by omega, ?_, ?_⟩⟩,ae ?_,ae (grownBy.gU (grownBy.fJ HG.o _) _ _)⟩
         · rw[dR.o];simp
         · rw[dR.o]
           rcases HM.o.2.2 with ⟨hm0,hm1⟩|⟨_,h2,h3⟩
           · rw[hm0];simp;omega
           · rw[aaK h2];exact h3
         · exact cu.yt fH.o HP.o _
        case measure=>simp[intOf];omega
    · have hc':isNum a=false:=by simpa using hc
      clear hc;have mD:=fun (e:Ending)(oz:World)=>U1 d m v b w oz HM.o.1 HM.o.2.1 HM.o.2.2 hv1 dM (fun x hx=>by rw[HAT.o]at hx;injection hx with hx;rw[← hx];exact hc') e
      have zW:=ae mD;clear mD;go_wp2_with fail
      go_quiet ((go_at_call 154;exact sM (Ct _ (by omega) (by omega) _)))
      go_wp2_with fail
      go_ret;exact zW.o _ _ rfl ((fH.o.drewN _).Vb _) (grownBy.gU (grownBy.fJ HG.o _) _ _)
  · have lu:¬ (p:Int)<(d.s.size:Int):=by omega
    have mD:=fun (e:Ending)(oz:World)=>U1 d m v b w oz HM.o.1 HM.o.2.1 HM.o.2.2 hv1 dM (fun x hx=>by have h1:=(dS.1 hx).1;rw[ry]at h1;omega) e
    have zW:=ae mD;clear mD;clear hp;go_wp2_with fail
    go_quiet (fail)
    go_wp2_with fail
    go_ret;exact zW.o _ _ rfl ((fH.o.drewN _).Vb _) (grownBy.gU (grownBy.fJ HG.o _) _ _)
end Go.Proofs.YtaobhjliflomaaaGreatDoor
namespace Go.Proofs.YtaobhjliflomaaaGreatDoor
open Go.RowKit
variable {s:ByteArray}{c:Int}{b k:Nat}{w w':World}{t:ai}
def oK(c:Int):Bool:=decide (c=32)
def nZ(c:Int):Bool:=isLet c||decide (c=36)
theorem SE (c:Int)(_h0:0≤c)(_h1:c≤255)(w:World) :
 Calls Tryz.prog 113 #[.int .u8 c] w fun e w'=>e = .returned (.bool (oK c))∧w=w':=by
 go_enter Tryz.func113,Tryz.ntmps113
 go_wp2
 all_goals go_ret
 all_goals exact⟨gq (by unfold oK;first|rfl|(symm;rw[aK];omega)|(symm;rw[jq];omega)|(rw[decide_eq_decide];omega)),rfl⟩
theorem vH (c:Int)(_h0:0≤c)(_h1:c≤255)(w:World) :
 Calls Tryz.prog 136 #[.int .u8 c] w fun e w'=>e = .returned (.bool (isNum c))∧w=w':=by
 go_enter Tryz.func136,Tryz.ntmps136
 go_wp2
 all_goals go_ret
 all_goals exact⟨gq (by unfold isNum;first|rfl|(symm;rw[aK];omega)|(symm;rw[jq];omega)|(rw[decide_eq_decide];omega)),rfl⟩
theorem ED (c:Int)(_h0:0≤c)(_h1:c≤255)(w:World) :
 Calls Tryz.prog 157 #[.int .u8 c] w fun e w'=>e = .returned (.bool (aP c))∧w=w':=by
 go_enter Tryz.func157,Tryz.ntmps157
 go_wp2
 all_goals go_ret
 all_goals exact⟨gq (by unfold aP;first|rfl|(symm;rw[aK];omega)|(symm;rw[jq];omega)|(rw[decide_eq_decide];omega)),rfl⟩
theorem R6(h:aP c=true):nZ c=true:=by unfold nZ;rw[R9 h];rfl
theorem abP(h:aP c=false):nZ c=decide (97≤c∧c≤122∨c=36):=by unfold nZ;rw[Sb h];simp
theorem GN :isWord c=(nZ c||(isNum c||decide (c=33))):=by
 unfold isWord nZ;rw[show decide (c=36∨c=33)=(decide (c=36)||decide (c=33))from by simp];cases isLet c <;> cases isNum c <;> cases decide (c=36) <;> simp
theorem yX (c:Int)(_h0:0≤c)(_h1:c≤255)(w:World) :
 Calls Tryz.prog 140 #[.int .u8 c] w fun e w'=>e = .returned (.bool (nZ c))∧w=w':=by
 by_cases hc:aP c=true
 · have HL:=ae (R6 hc)
   go_enter Tryz.func140,Tryz.ntmps140;go_wp2_with (go_at_call 157;((with_reducible refine(ED _ ?_ ?_ _).mono ?_);(first|omega|skip);(first|omega|skip);rintro e w' ⟨rfl,rfl⟩))
   all_goals go_ret
   all_goals exact⟨gq (by rw[HL.o]),rfl⟩
 · have hc':aP c=false:=by simpa using hc
   have HL:=ae (abP hc');clear hc;go_enter Tryz.func140,Tryz.ntmps140;go_wp2_with (go_at_call 157;((with_reducible refine(ED _ ?_ ?_ _).mono ?_);(first|omega|skip);(first|omega|skip);rintro e w' ⟨rfl,rfl⟩))
   all_goals go_ret
   all_goals exact⟨gq (by rw[HL.o];first|rfl|(symm;rw[aK];omega)|(symm;rw[jq];omega)|(rw[Bool.eq_iff_iff];simp only[Bool.or_eq_true,aK,bA];omega)),rfl⟩
theorem Sg (c:Int)(_h0:0≤c)(_h1:c≤255)(w:World) :
 Calls Tryz.prog 158 #[.int .u8 c] w fun e w'=>e = .returned (.bool (isWord c))∧w=w':=by
 have HW:=ae (GN (c:=c));cases hb:nZ c
 · cases hn:isNum c
   · rw [hb,hn]at HW
     go_enter Tryz.func158,Tryz.ntmps158
     go_wp2_with (first
      | (go_at_call 140;((with_reducible refine(yX _ ?_ ?_ _).mono ?_);(first|omega|skip);(first|omega|skip);rintro e w' ⟨rfl,rfl⟩;rw[hb]))
      | (go_at_call 136;((with_reducible refine(vH _ ?_ ?_ _).mono ?_);(first|omega|skip);(first|omega|skip);rintro e w' ⟨rfl,rfl⟩;rw[hn])))
     all_goals go_ret
     all_goals exact⟨gq (by rw[HW.o];first|rfl|(rw[Bool.eq_iff_iff];simp only[Bool.or_eq_true,dH,Bool.false_or,aK,bA])),rfl⟩
   · rw [hb,hn]at HW
     go_enter Tryz.func158,Tryz.ntmps158
     go_wp2_with (first
      | (go_at_call 140;((with_reducible refine(yX _ ?_ ?_ _).mono ?_);(first|omega|skip);(first|omega|skip);rintro e w' ⟨rfl,rfl⟩;rw[hb]))
      | (go_at_call 136;((with_reducible refine(vH _ ?_ ?_ _).mono ?_);(first|omega|skip);(first|omega|skip);rintro e w' ⟨rfl,rfl⟩;rw[hn])))
     all_goals go_ret
     all_goals exact⟨gq (by rw[HW.o];rfl),rfl⟩
 · rw [hb]at HW
   go_enter Tryz.func158,Tryz.ntmps158
   go_wp2_with (first
    | (go_at_call 140;((with_reducible refine(yX _ ?_ ?_ _).mono ?_);(first|omega|skip);(first|omega|skip);rintro e w' ⟨rfl,rfl⟩;rw[hb])))
   all_goals go_ret
   all_goals exact⟨gq (by rw[HW.o];rfl),rfl⟩
def bW(w:World)(b:Nat)(s:ByteArray)(k:Nat):Prop:=w.heap[b]? = some (.cells #[.string s,.int .i64 (k:Int)] 138)
theorem bW.lt(h:bW w b s k):b<w.heap.size:=(dn.1 h).1
theorem bW.drewN(h:bW w b s k)(n:Nat):bW (w.drewN n) b s k:=h
theorem bW.below{B:Nat}(h:bW w b s k)(hb:Below B w w')(hB:b<B):bW w' b s k:=by unfold bW;rw[hb.block b hB];exact h
theorem bW.facts (h:bW w b s k):w.cell? ⟨b,0,none⟩=some (.string s)∧w.cell? ⟨b,1,none⟩=some (.int .i64 (k:Int)) :=
 ⟨by rw[cell_of_row w b 0 _ _ _ h];rfl,by rw[cell_of_row w b 1 _ _ _ h];rfl⟩
theorem bW.frozen(h:bW w b s k)(j:Nat):w.frozen? ⟨b,j,none⟩=false:=frozen_of_row w b j _ _ h
theorem bW.uA(h:bW w b s k)(m:Nat):bW (w.setCell ⟨b,1,none⟩ (.int .i64 (m:Int))) b s m:=by unfold bW;rw[heap_setCell_same w b 1 _ _ _ h];rfl
theorem bW.yt(h:bW w b s k):bW (w.setCell ⟨b,1,none⟩ (.int .i64 ((k:Int)+1))) b s (k+1):=h.uA (k+1)
theorem bW.new(w:World)(s:ByteArray):bW (w.alloc (.cells #[.string s,.int .i64 0] 138)) w.heap.size s 0:=(kW w _).1
def pO(t:ai):Array Value:=#[.int .i64 t.kind,.string t.text,.int .i64 t.num,.string t.sh,.int .i64 t.c,.int .i64 t.r,.bool t.ac,.bool t.ar,.int .i64 t.pos]
def aG(w:World)(b:Nat)(t:ai):Prop:=w.heap[b]? = some (.cells (pO t) 71)
theorem aG.lt(h:aG w b t):b<w.heap.size:=(dn.1 h).1
theorem aG.below{B:Nat}(h:aG w b t)(hb:Below B w w')(hB:b<B):aG w' b t:=by unfold aG;rw[hb.block b hB];exact h
theorem aG.drewN(h:aG w b t)(n:Nat):aG (w.drewN n) b t:=h
theorem aG.frozen(h:aG w b t)(j:Nat):w.frozen? ⟨b,j,none⟩=false:=frozen_of_row w b j _ _ h
theorem aG.grown {c:Nat}(h:aG w b t)(hg:w.grownBy w' (some c))(hne:b≠c):aG w' b t:=by
 unfold aG;rw[hg.block b h.lt (by intro e;exact hne (dU e))];exact h
theorem aG.new(w:World)(t:ai):aG (w.alloc (.cells (pO t) 71)) w.heap.size t:=(kW w _).1
theorem VT:(Tryz.prog.info? 71).map (·.size)=some 9:=by kernel_rfl
theorem ah' (t:ai):∀v∈(pO t).toList,v.oneCell'=true:=by
 intro v hv;simp only[pO,eY,List.not_mem_nil,or_false]at hv;rcases hv with rfl|rfl|rfl|rfl|rfl|rfl|rfl|rfl|rfl <;> rfl
end Go.Proofs.YtaobhjliflomaaaGreatDoor
namespace Go.Proofs
open Go.Shelf
def Tryz.acx:Go.Shelf.Ren:=⟨fun|137=>193|217=>201|266=>210|n=>n,fun|9=>9|5=>5|3=>3|n=>n,fun|n=>n⟩
theorem Tryz.acw:Go.Proofs.Lays.n137 Tryz.prog Tryz.acx:={
 mixed:=by kernel_rfl
 f137:=Tryz.func193.trans (congrArg some (by kernel_rfl))
 f217:=Tryz.func201.trans (congrArg some (by kernel_rfl))
 f266:=Tryz.func210.trans (congrArg some (by kernel_rfl))
 t3:=Tryz.underlying3
 a3:=Tryz.isAgg3
 z3:=Tryz.sizeOf3
 v3:=Tryz.zeroValue3
 t5:=Tryz.underlying5
 a5:=Tryz.isAgg5
 z5:=Tryz.sizeOf5
 v5:=Tryz.zeroValue5
 t9:=Tryz.underlying9
 a9:=Tryz.isAgg9
 z9:=Tryz.sizeOf9
 v9:=Tryz.zeroValue9 }
open Go.RowKit in
theorem Tryz.strings_IndexByte (s:ByteArray)(c:Int)(w:World) :
 Calls Tryz.prog 193 #[.string s,.int .u8 c] w fun e w'=>e = .returned (.int .i64 (Lib.indexByte s.data.toList c.toNat.toUInt8))∧w'=w:=Any.strings_IndexByte Tryz.acw s c w
def Tryz.acD:Go.Shelf.Ren:=⟨fun|171=>129|243=>147|246=>161|283=>178|284=>179|285=>180|286=>181|129=>196|317=>195|318=>197|319=>198|320=>199|337=>208|338=>209|n=>n,fun|3=>3|9=>9|2=>2|4=>4|171=>184|0=>0|53=>62|37=>22|5=>5|173=>187|212=>198|51=>199|20=>20|213=>200|46=>201|232=>220|233=>221|n=>n,fun|17=>3|18=>9|19=>10|n=>n⟩
theorem Tryz.acC:Go.Proofs.LaysM.n171 Tryz.prog Tryz.acD:={
 mixed:=by kernel_rfl
 f129:=Tryz.func196.trans (congrArg some (by kernel_rfl))
 f171:=Tryz.func129.trans (congrArg some (by kernel_rfl))
 f243:=Tryz.func147.trans (congrArg some (by kernel_rfl))
 f246:=Tryz.func161.trans (congrArg some (by kernel_rfl))
 f283:=Tryz.func178.trans (congrArg some (by kernel_rfl))
 f284:=Tryz.func179.trans (congrArg some (by kernel_rfl))
 f285:=Tryz.func180.trans (congrArg some (by kernel_rfl))
 f286:=Tryz.func181.trans (congrArg some (by kernel_rfl))
 f317:=Tryz.func195.trans (congrArg some (by kernel_rfl))
 f318:=Tryz.func197.trans (congrArg some (by kernel_rfl))
 f319:=Tryz.func198.trans (congrArg some (by kernel_rfl))
 f320:=Tryz.func199.trans (congrArg some (by kernel_rfl))
 f337:=Tryz.func208.trans (congrArg some (by kernel_rfl))
 f338:=Tryz.func209.trans (congrArg some (by kernel_rfl))
 t0:=Tryz.underlying0
 a0:=Tryz.isAgg0
 z0:=Tryz.sizeOf0
 v0:=Tryz.zeroValue0
 t2:=Tryz.underlying2
 a2:=Tryz.isAgg2
 z2:=Tryz.sizeOf2
 v2:=Tryz.zeroValue2
 t3:=Tryz.underlying3
 a3:=Tryz.isAgg3
 z3:=Tryz.sizeOf3
 v3:=Tryz.zeroValue3
 t4:=Tryz.underlying4
 a4:=Tryz.isAgg4
 z4:=Tryz.sizeOf4
 v4:=Tryz.zeroValue4
 t5:=Tryz.underlying5
 a5:=Tryz.isAgg5
 z5:=Tryz.sizeOf5
 v5:=Tryz.zeroValue5
 t9:=Tryz.underlying9
 a9:=Tryz.isAgg9
 z9:=Tryz.sizeOf9
 v9:=Tryz.zeroValue9
 t20:=Tryz.underlying20
 a20:=Tryz.isAgg20
 z20:=Tryz.sizeOf20
 v20:=Tryz.zeroValue20
 t37:=Tryz.underlying22
 a37:=Tryz.isAgg22
 z37:=Tryz.sizeOf22
 v37:=Tryz.zeroValue22
 t46:=Tryz.underlying201
 a46:=Tryz.isAgg201
 z46:=Tryz.sizeOf201
 v46:=Tryz.zeroValue201
 t51:=Tryz.underlying199
 a51:=Tryz.isAgg199
 z51:=Tryz.sizeOf199
 v51:=Tryz.zeroValue199
 t53:=Tryz.underlying62
 a53:=Tryz.isAgg62
 z53:=Tryz.sizeOf62
 v53:=Tryz.zeroValue62
 t171:=Tryz.underlying184
 a171:=Tryz.isAgg184
 z171:=Tryz.sizeOf184
 v171:=Tryz.zeroValue184
 t173:=Tryz.underlying187
 a173:=Tryz.isAgg187
 z173:=Tryz.sizeOf187
 v173:=Tryz.zeroValue187
 t212:=Tryz.underlying198
 a212:=Tryz.isAgg198
 z212:=Tryz.sizeOf198
 v212:=Tryz.zeroValue198
 t213:=Tryz.underlying200
 a213:=Tryz.isAgg200
 z213:=Tryz.sizeOf200
 t232:=Tryz.underlying220
 a232:=Tryz.isAgg220
 z232:=Tryz.sizeOf220
 v232:=Tryz.zeroValue220
 t233:=Tryz.underlying221
 a233:=Tryz.isAgg221
 z233:=Tryz.sizeOf221
 v233:=Tryz.zeroValue221
 g17:=by kernel_rfl
 g18:=by kernel_rfl
 g19:=by kernel_rfl
 i0:=by kernel_rfl
 i2:=by kernel_rfl
 i3:=by kernel_rfl
 i4:=by kernel_rfl
 i5:=by kernel_rfl
 i9:=by kernel_rfl
 i20:=by kernel_rfl
 i37:=by kernel_rfl
 i46:=by kernel_rfl
 i51:=by kernel_rfl
 i53:=by kernel_rfl
 i171:=by kernel_rfl
 i173:=by kernel_rfl
 i212:=by kernel_rfl
 i232:=by kernel_rfl
 i233:=by kernel_rfl
 m17:=by kernel_rfl
 m18:=by kernel_rfl
 m19:=by kernel_rfl }
open Go.RowKit Go.Sort Go.Lib in
theorem Tryz.strconv_Itoa (n : Int) (h0 : -9223372036854775808 ≤ n) (h1 : n ≤ 9223372036854775807) (w : World) (nG : Lib.TabIs Tryz.prog w "internal/strconv.uint64pow10" .u64 Lib.pow10Tab) :
 Calls Tryz.prog 129 #[.int .i64 n] w fun e w'=>e = .returned (.string ⟨(Lib.itoa n).toArray⟩)∧∃k os,w'=grow (w.drewN k) os:=Any.strconv_Itoa Tryz.acC n h0 h1 w nG
def Tryz.acB:Go.Shelf.Ren:=⟨fun|172=>155|244=>168|245=>169|247=>187|279=>188|280=>189|281=>190|282=>191|287=>205|316=>206|171=>129|205=>207|321=>212|322=>213|243=>147|246=>161|283=>178|284=>179|285=>180|286=>181|129=>196|317=>195|318=>197|319=>198|320=>199|337=>208|338=>209|n=>n,fun|9=>9|3=>3|75=>121|76=>122|4=>4|5=>5|167=>190|37=>22|0=>0|85=>191|2=>2|168=>193|53=>62|175=>208|46=>201|210=>211|127=>127|145=>219|143=>217|21=>21|171=>184|173=>187|212=>198|51=>199|20=>20|213=>200|232=>220|233=>221|80=>91|n=>n,fun|15=>7|16=>8|17=>3|18=>9|19=>10|n=>n⟩
theorem Tryz.Sw:Go.Proofs.LaysC.n172 Tryz.prog Tryz.acB:={
 mixed:=by kernel_rfl
 f129:=Tryz.func196.trans (congrArg some (by kernel_rfl))
 f171:=Tryz.func129.trans (congrArg some (by kernel_rfl))
 f172:=Tryz.func155.trans (congrArg some (by kernel_rfl))
 f205:=Tryz.func207.trans (congrArg some (by kernel_rfl))
 f243:=Tryz.func147.trans (congrArg some (by kernel_rfl))
 f244:=Tryz.func168.trans (congrArg some (by kernel_rfl))
 f245:=Tryz.func169.trans (congrArg some (by kernel_rfl))
 f246:=Tryz.func161.trans (congrArg some (by kernel_rfl))
 f247:=Tryz.func187.trans (congrArg some (by kernel_rfl))
 f279:=Tryz.func188.trans (congrArg some (by kernel_rfl))
 f280:=Tryz.func189.trans (congrArg some (by kernel_rfl))
 f281:=Tryz.func190.trans (congrArg some (by kernel_rfl))
 f282:=Tryz.func191.trans (congrArg some (by kernel_rfl))
 f283:=Tryz.func178.trans (congrArg some (by kernel_rfl))
 f284:=Tryz.func179.trans (congrArg some (by kernel_rfl))
 f285:=Tryz.func180.trans (congrArg some (by kernel_rfl))
 f286:=Tryz.func181.trans (congrArg some (by kernel_rfl))
 f287:=Tryz.func205.trans (congrArg some (by kernel_rfl))
 f316:=Tryz.func206.trans (congrArg some (by kernel_rfl))
 f317:=Tryz.func195.trans (congrArg some (by kernel_rfl))
 f318:=Tryz.func197.trans (congrArg some (by kernel_rfl))
 f319:=Tryz.func198.trans (congrArg some (by kernel_rfl))
 f320:=Tryz.func199.trans (congrArg some (by kernel_rfl))
 f321:=Tryz.func212.trans (congrArg some (by kernel_rfl))
 f322:=Tryz.func213.trans (congrArg some (by kernel_rfl))
 f337:=Tryz.func208.trans (congrArg some (by kernel_rfl))
 f338:=Tryz.func209.trans (congrArg some (by kernel_rfl))
 t0:=Tryz.underlying0
 a0:=Tryz.isAgg0
 z0:=Tryz.sizeOf0
 v0:=Tryz.zeroValue0
 t2:=Tryz.underlying2
 a2:=Tryz.isAgg2
 z2:=Tryz.sizeOf2
 v2:=Tryz.zeroValue2
 t3:=Tryz.underlying3
 a3:=Tryz.isAgg3
 z3:=Tryz.sizeOf3
 v3:=Tryz.zeroValue3
 t4:=Tryz.underlying4
 a4:=Tryz.isAgg4
 z4:=Tryz.sizeOf4
 v4:=Tryz.zeroValue4
 t5:=Tryz.underlying5
 a5:=Tryz.isAgg5
 z5:=Tryz.sizeOf5
 v5:=Tryz.zeroValue5
 t9:=Tryz.underlying9
 a9:=Tryz.isAgg9
 z9:=Tryz.sizeOf9
 v9:=Tryz.zeroValue9
 t20:=Tryz.underlying20
 a20:=Tryz.isAgg20
 z20:=Tryz.sizeOf20
 v20:=Tryz.zeroValue20
 t21:=Tryz.underlying21
 a21:=Tryz.isAgg21
 z21:=Tryz.sizeOf21
 v21:=Tryz.zeroValue21
 t37:=Tryz.underlying22
 a37:=Tryz.isAgg22
 z37:=Tryz.sizeOf22
 v37:=Tryz.zeroValue22
 t46:=Tryz.underlying201
 a46:=Tryz.isAgg201
 z46:=Tryz.sizeOf201
 v46:=Tryz.zeroValue201
 t51:=Tryz.underlying199
 a51:=Tryz.isAgg199
 z51:=Tryz.sizeOf199
 v51:=Tryz.zeroValue199
 t53:=Tryz.underlying62
 a53:=Tryz.isAgg62
 z53:=Tryz.sizeOf62
 v53:=Tryz.zeroValue62
 t75:=Tryz.underlying121
 a75:=Tryz.isAgg121
 z75:=Tryz.sizeOf121
 v75:=Tryz.zeroValue121
 t76:=Tryz.underlying122
 a76:=Tryz.isAgg122
 z76:=Tryz.sizeOf122
 v76:=Tryz.zeroValue122
 t85:=Tryz.underlying191
 a85:=Tryz.isAgg191
 z85:=Tryz.sizeOf191
 v85:=Tryz.zeroValue191
 t127:=Tryz.underlying127
 a127:=Tryz.isAgg127
 z127:=Tryz.sizeOf127
 v127:=Tryz.zeroValue127
 t143:=Tryz.underlying217
 a143:=Tryz.isAgg217
 z143:=Tryz.sizeOf217
 v143:=Tryz.zeroValue217
 t145:=Tryz.underlying219
 a145:=Tryz.isAgg219
 z145:=Tryz.sizeOf219
 v145:=Tryz.zeroValue219
 t167:=Tryz.underlying190
 a167:=Tryz.isAgg190
 z167:=Tryz.sizeOf190
 v167:=Tryz.zeroValue190
 t168:=Tryz.underlying193
 a168:=Tryz.isAgg193
 z168:=Tryz.sizeOf193
 v168:=Tryz.zeroValue193
 t171:=Tryz.underlying184
 a171:=Tryz.isAgg184
 z171:=Tryz.sizeOf184
 v171:=Tryz.zeroValue184
 t173:=Tryz.underlying187
 a173:=Tryz.isAgg187
 z173:=Tryz.sizeOf187
 v173:=Tryz.zeroValue187
 t175:=Tryz.underlying208
 a175:=Tryz.isAgg208
 z175:=Tryz.sizeOf208
 v175:=Tryz.zeroValue208
 t210:=Tryz.underlying211
 a210:=Tryz.isAgg211
 z210:=Tryz.sizeOf211
 v210:=Tryz.zeroValue211
 t212:=Tryz.underlying198
 a212:=Tryz.isAgg198
 z212:=Tryz.sizeOf198
 v212:=Tryz.zeroValue198
 t213:=Tryz.underlying200
 a213:=Tryz.isAgg200
 z213:=Tryz.sizeOf200
 t232:=Tryz.underlying220
 a232:=Tryz.isAgg220
 z232:=Tryz.sizeOf220
 v232:=Tryz.zeroValue220
 t233:=Tryz.underlying221
 a233:=Tryz.isAgg221
 z233:=Tryz.sizeOf221
 v233:=Tryz.zeroValue221
 g15:=by kernel_rfl
 g16:=by kernel_rfl
 g17:=by kernel_rfl
 g18:=by kernel_rfl
 g19:=by kernel_rfl
 t80:=Tryz.underlying91
 a80:=Tryz.isAgg91
 z80:=Tryz.sizeOf91
 v80:=Tryz.zeroValue91
 i0:=by kernel_rfl
 i2:=by kernel_rfl
 i3:=by kernel_rfl
 i4:=by kernel_rfl
 i5:=by kernel_rfl
 i9:=by kernel_rfl
 i20:=by kernel_rfl
 i21:=by kernel_rfl
 i37:=by kernel_rfl
 i46:=by kernel_rfl
 i51:=by kernel_rfl
 i53:=by kernel_rfl
 i75:=by kernel_rfl
 i76:=by kernel_rfl
 i80:=by kernel_rfl
 i85:=by kernel_rfl
 i127:=by kernel_rfl
 i143:=by kernel_rfl
 i145:=by kernel_rfl
 i167:=by kernel_rfl
 i168:=by kernel_rfl
 i171:=by kernel_rfl
 i173:=by kernel_rfl
 i175:=by kernel_rfl
 i210:=by kernel_rfl
 i212:=by kernel_rfl
 i232:=by kernel_rfl
 i233:=by kernel_rfl
 m15:=by kernel_rfl
 m16:=by kernel_rfl
 m17:=by kernel_rfl
 m18:=by kernel_rfl
 m19:=by kernel_rfl
 c0:=by kernel_rfl
 c2:=by kernel_rfl
 c3:=by kernel_rfl
 c4:=by kernel_rfl
 c5:=by kernel_rfl
 c9:=by kernel_rfl
 c20:=by kernel_rfl
 c21:=by kernel_rfl
 c37:=by kernel_rfl
 c46:=by kernel_rfl
 c51:=by kernel_rfl
 c53:=by kernel_rfl
 c75:=by kernel_rfl
 c76:=by kernel_rfl
 c80:=by kernel_rfl
 c85:=by kernel_rfl
 c127:=by kernel_rfl
 c143:=by kernel_rfl
 c145:=by kernel_rfl
 c167:=by kernel_rfl
 c168:=by kernel_rfl
 c171:=by kernel_rfl
 c173:=by kernel_rfl
 c175:=by kernel_rfl
 c210:=by kernel_rfl
 c212:=by kernel_rfl
 c213:=by kernel_rfl
 c232:=by kernel_rfl
 c233:=by kernel_rfl }
open Go.RowKit in
theorem Tryz.strconv_Atoi_ok (s:ByteArray)(Gv:s.size≤9223372036854775806)(v:Int)(h:Lib.atoiAll s.data.toList = .ok v)(w:World) :
 Calls Tryz.prog 155 #[.string s] w fun e w'=>e = .returned (.tuple #[.int .i64 v,.nilIface])∧(w'=w∨∃t,w'=Lib.bytesWorld w 5 t):=Any.strconv_Atoi_ok Tryz.Sw s Gv v h w
open Go.RowKit in
open Go.RowKit in
theorem Tryz.strconv_Atoi_range (s:ByteArray)(aa6:s.size≤281474976710656)(h:Lib.atoiAll s.data.toList = .range)(ev:Value)(w:World)(hv:w.cell? ⟨8,0,none⟩=some ev)(hev:ev = .nilIface∨∃te pe,ev = .iface te pe) :
 Calls Tryz.prog 155 #[.string s] w fun e w'=>∃N,e = .returned (.tuple #[.int .i64 (Lib.atoiSat s.data.toList),.iface 193 (.pointer (some ⟨N,0,none⟩))])∧w.heap.size≤N∧w'.heap[N]? = some (.cells #[.string ⟨#[65,116,111,105]⟩,.string s,ev] 211 (0,0))∧Below w.heap.size w w':=Any.strconv_Atoi_range Tryz.Sw s aa6 h ev w hv hev
def Tryz.acA:Go.Shelf.Ren:=⟨fun|99=>170|206=>192|n=>n,fun|9=>9|4=>4|3=>3|n=>n,fun|n=>n⟩
theorem Tryz.acz:Go.Proofs.Lays.n99 Tryz.prog Tryz.acA:={
 mixed:=by kernel_rfl
 f99:=Tryz.func170.trans (congrArg some (by kernel_rfl))
 f206:=Tryz.func192.trans (congrArg some (by kernel_rfl))
 t3:=Tryz.underlying3
 a3:=Tryz.isAgg3
 z3:=Tryz.sizeOf3
 v3:=Tryz.zeroValue3
 t4:=Tryz.underlying4
 a4:=Tryz.isAgg4
 z4:=Tryz.sizeOf4
 v4:=Tryz.zeroValue4
 t9:=Tryz.underlying9
 a9:=Tryz.isAgg9
 z9:=Tryz.sizeOf9
 v9:=Tryz.zeroValue9 }
open Go.RowKit Go.Lib in
theorem Tryz.strings_HasPrefix (s p:ByteArray)(w:World) :
 Calls Tryz.prog 170 #[.string s,.string p] w fun e w'=>e = .returned (.bool (Lib.hasPrefix s.data.toList p.data.toList))∧w'=w:=Any.strings_HasPrefix Tryz.acz s p w
def Tryz.Sv:Go.Shelf.Ren:=⟨fun|155=>130|154=>148|138=>162|165=>163|143=>164|166=>65|197=>165|169=>42|195=>182|218=>183|240=>95|241=>184|219=>185|260=>186|276=>128|277=>200|217=>201|225=>202|224=>203|267=>204|266=>210|314=>211|n=>n,fun|9=>9|3=>3|4=>4|72=>82|0=>0|76=>122|105=>176|21=>21|5=>5|70=>80|20=>20|37=>22|75=>121|127=>127|164=>156|46=>201|119=>204|139=>207|138=>206|146=>214|51=>199|80=>91|n=>n,fun|1=>4|3=>5|4=>6|n=>n⟩
theorem Tryz.acy:Go.Proofs.Lays.n155 Tryz.prog Tryz.Sv:={
 mixed:=by kernel_rfl
 f138:=Tryz.func162.trans (congrArg some (by kernel_rfl))
 f143:=Tryz.func164.trans (congrArg some (by kernel_rfl))
 f154:=Tryz.func148.trans (congrArg some (by kernel_rfl))
 f155:=Tryz.func130.trans (congrArg some (by kernel_rfl))
 f165:=Tryz.func163.trans (congrArg some (by kernel_rfl))
 f166:=Tryz.func65.trans (congrArg some (by kernel_rfl))
 f169:=Tryz.func42.trans (congrArg some (by kernel_rfl))
 f195:=Tryz.func182.trans (congrArg some (by kernel_rfl))
 f197:=Tryz.func165.trans (congrArg some (by kernel_rfl))
 f217:=Tryz.func201.trans (congrArg some (by kernel_rfl))
 f218:=Tryz.func183.trans (congrArg some (by kernel_rfl))
 f219:=Tryz.func185.trans (congrArg some (by kernel_rfl))
 f224:=Tryz.func203.trans (congrArg some (by kernel_rfl))
 f225:=Tryz.func202.trans (congrArg some (by kernel_rfl))
 f240:=Tryz.func95.trans (congrArg some (by kernel_rfl))
 f241:=Tryz.func184.trans (congrArg some (by kernel_rfl))
 f260:=Tryz.func186.trans (congrArg some (by kernel_rfl))
 f266:=Tryz.func210.trans (congrArg some (by kernel_rfl))
 f267:=Tryz.func204.trans (congrArg some (by kernel_rfl))
 f276:=Tryz.func128.trans (congrArg some (by kernel_rfl))
 f277:=Tryz.func200.trans (congrArg some (by kernel_rfl))
 f314:=Tryz.func211.trans (congrArg some (by kernel_rfl))
 t0:=Tryz.underlying0
 a0:=Tryz.isAgg0
 z0:=Tryz.sizeOf0
 v0:=Tryz.zeroValue0
 t3:=Tryz.underlying3
 a3:=Tryz.isAgg3
 z3:=Tryz.sizeOf3
 v3:=Tryz.zeroValue3
 t4:=Tryz.underlying4
 a4:=Tryz.isAgg4
 z4:=Tryz.sizeOf4
 v4:=Tryz.zeroValue4
 t5:=Tryz.underlying5
 a5:=Tryz.isAgg5
 z5:=Tryz.sizeOf5
 v5:=Tryz.zeroValue5
 t9:=Tryz.underlying9
 a9:=Tryz.isAgg9
 z9:=Tryz.sizeOf9
 v9:=Tryz.zeroValue9
 t20:=Tryz.underlying20
 a20:=Tryz.isAgg20
 z20:=Tryz.sizeOf20
 v20:=Tryz.zeroValue20
 t21:=Tryz.underlying21
 a21:=Tryz.isAgg21
 z21:=Tryz.sizeOf21
 v21:=Tryz.zeroValue21
 t37:=Tryz.underlying22
 a37:=Tryz.isAgg22
 z37:=Tryz.sizeOf22
 v37:=Tryz.zeroValue22
 t46:=Tryz.underlying201
 a46:=Tryz.isAgg201
 z46:=Tryz.sizeOf201
 v46:=Tryz.zeroValue201
 t51:=Tryz.underlying199
 a51:=Tryz.isAgg199
 z51:=Tryz.sizeOf199
 v51:=Tryz.zeroValue199
 t70:=Tryz.underlying80
 a70:=Tryz.isAgg80
 z70:=Tryz.sizeOf80
 v70:=Tryz.zeroValue80
 t72:=Tryz.underlying82
 a72:=Tryz.isAgg82
 z72:=Tryz.sizeOf82
 v72:=Tryz.zeroValue82
 t75:=Tryz.underlying121
 a75:=Tryz.isAgg121
 z75:=Tryz.sizeOf121
 v75:=Tryz.zeroValue121
 t76:=Tryz.underlying122
 a76:=Tryz.isAgg122
 z76:=Tryz.sizeOf122
 v76:=Tryz.zeroValue122
 t105:=Tryz.underlying176
 a105:=Tryz.isAgg176
 z105:=Tryz.sizeOf176
 v105:=Tryz.zeroValue176
 t119:=Tryz.underlying204
 a119:=Tryz.isAgg204
 z119:=Tryz.sizeOf204
 t127:=Tryz.underlying127
 a127:=Tryz.isAgg127
 z127:=Tryz.sizeOf127
 v127:=Tryz.zeroValue127
 t138:=Tryz.underlying206
 a138:=Tryz.isAgg206
 z138:=Tryz.sizeOf206
 v138:=Tryz.zeroValue206
 t139:=Tryz.underlying207
 a139:=Tryz.isAgg207
 z139:=Tryz.sizeOf207
 v139:=Tryz.zeroValue207
 t146:=Tryz.underlying214
 a146:=Tryz.isAgg214
 z146:=Tryz.sizeOf214
 v146:=Tryz.zeroValue214
 t164:=Tryz.underlying156
 a164:=Tryz.isAgg156
 z164:=Tryz.sizeOf156
 v164:=Tryz.zeroValue156
 g1:=by kernel_rfl
 g3:=by kernel_rfl
 g4:=by kernel_rfl }
theorem Tryz.Wx:Builder.Extra Tryz.prog Tryz.Sv:={
 sizeBuilder:=by kernel_rfl
 liesBuilder:=by kernel_rfl
 t5:=Tryz.underlying5
 a5:=Tryz.isAgg5
 z5:=Tryz.sizeOf5
 v5:=Tryz.zeroValue5
 infoByte:=by kernel_rfl
 cellsByte:=by kernel_rfl
 sizeByte:=by kernel_rfl
 neB5:=by decide }
open Go.RowKit Go.Lib in
theorem Tryz.strings_ReplaceAll (s old new:ByteArray)(m:Int)(w:World)(hs:s.size<4294967281)(hm:w.cell? ⟨4,0,none⟩=some (.int .i64 m))(h1:1≤old.size)(hlen:s.size+Lib.countB s old*new.size≤140737488355328) :
 Calls Tryz.prog 130 #[.string s,.string old,.string new] w fun e w' =>
  e = .returned (.string ⟨(Lib.replaceAll s.data.toList old.data.toList new.data.toList).toArray⟩)∧Below w.heap.size w w':=Any.strings_ReplaceAll Tryz.acy Tryz.Wx s old new m w hs hm h1 hlen
end Go.Proofs
namespace Go.Proofs.YtaobhjliflomaaaGreatDoor
open Go.RowKit
variable {s:ByteArray}{c:Int}{b k:Nat}{r:Option Nat}{a w:World}{t:ai}
theorem Ch (s:ByteArray)(a m:Nat):sb (s.extract a (a+m))=((sb s).drop a).take m:=by
 unfold sb;rw[← List.map_drop, ← List.map_take];congr 1;rw[ByteArray.data_extract,Array.toList_extract];rw[List.extract_eq_take_drop];congr 1;omega
def aD(s:ByteArray)(k:Nat):List Int:=(sb s).drop k
theorem og(s:ByteArray)(k:Nat):(aD s k).length=s.size - k:=by unfold aD;rw[lG,bz]
theorem zD(s:ByteArray)(k m:Nat)(h:k+m<s.size):(aD s k)[m]? = some ((s[k+m].toNat:Nat):Int):=by unfold aD;rw[List.getElem?_drop,qC s _ h]
theorem M3 (s:ByteArray)(k m:Nat)(h:k+m<s.size):(aD s k).take (m+1)=(aD s k).take m++[((s[k+m].toNat:Nat):Int)]:=by
 rw[List.take_add_one,zD s k m h];rfl
theorem EN (s:ByteArray)(k m:Nat):s.extract k (k+m)=strOfNums ((aD s k).take m):=by
 rw[← mX (s.extract k (k+m)),Ch];rfl
theorem UR(s:ByteArray)(k m:Nat):(aD s k).drop m=aD s (k+m):=by unfold aD;rw[List.drop_drop]
theorem M0(s:ByteArray)(k:Nat):Bytes (aD s k):=fun a ha=>sO s a (List.mem_of_mem_drop ha)
def nI(b n:Nat)(w:World):Nat:=n - (match w.cell? ⟨b,1,none⟩with|some (.int _ m)=>m.toNat|_=>0)
theorem bW.nI (h:bW w b s k)(n:Nat):nI b n w=n - k:=by
 unfold Go.Proofs.YtaobhjliflomaaaGreatDoor.nI;rw[h.facts.2];rfl
def F5 (p:Int→Bool)(s:ByteArray)(b k:Nat)(w:World)(e:Ending)(w':World):Prop :=
 w.grownBy w' (some b)∧e = .returned (.string (strOfNums ((aD s k).takeWhile p)))∧bW w' b s (k+((aD s k).takeWhile p).length)
theorem CZ {p:Int→Bool}{m:Nat}{wr:World}(hg:w.grownBy wr (some b))(aT:∀x∈(aD s k).take m,p x=true)(AX:∀x,(aD s k)[m]? = some x→p x=false)(hm:k+m≤s.size)
 (hr:bW wr b s (k+m)) (e:Ending) (he:e = .returned (.string (s.extract k (k+m)))):F5 p s b k w e wr:=by
 have hsp:=Bu p (aD s k) m aT AX;have hlen:((aD s k).take m).length=m:=by rw[gX,og];omega
 refine⟨hg, ?_, ?_⟩
 · rw[hsp,he,EN]
 · rw[hsp,hlen];exact hr
theorem aiD (b:Nat)(s:ByteArray)(k:Nat)(w:World)(h:bW w b s k)(_hs:s.size≤1000000)(_hk:k≤s.size) :
 Calls Tryz.prog 112 #[.pointer (some ⟨b,0,none⟩),.func (.func 113) #[] #[]] w (F5 oK s b k w):=by
 have HR:=ae h;obtain⟨c0,c1⟩:=h.facts;clear h;go_enter Tryz.func112,Tryz.ntmps112;go_wp2_with fail
 clear c0 c1
 go_loopw [] (fun wr=>∃m:Nat,k+m≤s.size∧Hid (∀x∈(aD s k).take m,oK x=true)∧Hid (bW wr b s (k+m))∧Hid (w.grownBy wr (some b)))
  (fun wr=>nI b s.size wr)
 case atStart=>exact⟨0,by omega,ae (by simp),HR,ae (grownBy.fP _ _)⟩
 case round =>
  obtain⟨m,dM,HM,fH,HG⟩:=hrel;obtain⟨c0,c1⟩:=fH.o.facts;have f1:=fH.o.frozen 1;obtain⟨p,hp⟩:∃p:Nat,k+m=p:=⟨_,rfl⟩;rw[hp]at c1;have hz1:(0:Int)≤(k:Int):=by omega
  have hz2:(k:Int)≤(p:Int):=by omega
  have hz3:(p:Int)≤(s.size:Int):=by omega
  have zh:(0:Int)≤(p:Int):=by omega
  by_cases hlt:p<s.size
  · have lu:(p:Int)<(s.size:Int):=by omega
    obtain⟨a,ha⟩:∃a:Int,(s[p].toNat:Int)=a:=⟨_,rfl⟩;have ha1:0≤a∧a≤255:=by have:=s[p].toNat_lt;omega
    have hnx:(aD s k).take (m+1)=(aD s k).take m++[a]:=by subst hp;rw[M3 s k m hlt,ha]
    have hat:(aD s k)[m]? = some a:=by subst hp;rw[zD s k m hlt,ha]
    have dR:=ae hnx;clear hnx;have HAT:=ae hat;clear hat;have HP:=ae hp;clear hp;by_cases hc:oK a=true
    · have aT:=qV HM.o hc
      rw[← dR.o]at aT;have kY:=ae aT;clear aT;go_wp2_with fail
      go_quiet ((go_at_call 113;exact sM (SE _ (by omega) (by omega) _)))
      go_wp2_with fail
      go_roundw
      case rel =>
       refine⟨m+1,by have:=HP.o;omega,kY,ae ?_,ae (grownBy.gU (grownBy.fJ HG.o _) _ _)⟩;rw[show k+(m+1)=p+1 from by have:=HP.o;omega];exact(fH.o.drewN _).uA (p+1)
      case measure =>
       have h1:=((fH.o.drewN nq).uA (p+1)).nI s.size;have h2:=fH.o.nI s.size;have h3:=HP.o;rw[h2];refine Nat.lt_of_le_of_lt (Nat.le_of_eq h1) (by omega)
    · have hc':oK a=false:=by simpa using hc
      clear hc;go_wp2_with fail
      go_quiet ((go_at_call 113;exact sM (SE _ (by omega) (by omega) _)))
      go_wp2_with fail
      go_quiet (fail)
      go_wp2_with fail
      go_ret;have h3:=HP.o;exact CZ (grownBy.fJ (grownBy.fJ HG.o _) _) HM.o (fun x hx=>by rw[HAT.o]at hx;injection hx with hx;rw[← hx];exact hc') (by omega) ((fH.o.drewN _).drewN _) _ (by rw[h3];rfl)
  · have lu:¬ (p:Int)<(s.size:Int):=by omega
    have HP:=ae hp;clear hp;go_wp2_with fail
    go_quiet (fail)
    go_wp2_with fail
    go_quiet (fail)
    go_wp2_with fail
    go_ret;have h3:=HP.o;exact CZ (grownBy.fJ (grownBy.fJ HG.o _) _) HM.o (fun x hx=>by have h1:=(dS.1 hx).1;rw[og]at h1;omega) (by omega) ((fH.o.drewN _).drewN _) _ (by rw[h3];rfl)
theorem aiE (b:Nat)(s:ByteArray)(k:Nat)(w:World)(h:bW w b s k)(_hs:s.size≤1000000)(_hk:k≤s.size) :
 Calls Tryz.prog 112 #[.pointer (some ⟨b,0,none⟩),.func (.func 136) #[] #[]] w (F5 isNum s b k w):=by
 have HR:=ae h;obtain⟨c0,c1⟩:=h.facts;clear h;go_enter Tryz.func112,Tryz.ntmps112;go_wp2_with fail
 clear c0 c1
 go_loopw [] (fun wr=>∃m:Nat,k+m≤s.size∧Hid (∀x∈(aD s k).take m,isNum x=true)∧Hid (bW wr b s (k+m))∧Hid (w.grownBy wr (some b)))
  (fun wr=>nI b s.size wr)
 case atStart=>exact⟨0,by omega,ae (by simp),HR,ae (grownBy.fP _ _)⟩
 case round =>
  obtain⟨m,dM,HM,fH,HG⟩:=hrel;obtain⟨c0,c1⟩:=fH.o.facts;have f1:=fH.o.frozen 1;obtain⟨p,hp⟩:∃p:Nat,k+m=p:=⟨_,rfl⟩;rw[hp]at c1;have hz1:(0:Int)≤(k:Int):=by omega
  have hz2:(k:Int)≤(p:Int):=by omega
  have hz3:(p:Int)≤(s.size:Int):=by omega
  have zh:(0:Int)≤(p:Int):=by omega
  by_cases hlt:p<s.size
  · have lu:(p:Int)<(s.size:Int):=by omega
    obtain⟨a,ha⟩:∃a:Int,(s[p].toNat:Int)=a:=⟨_,rfl⟩;have ha1:0≤a∧a≤255:=by have:=s[p].toNat_lt;omega
    have hnx:(aD s k).take (m+1)=(aD s k).take m++[a]:=by subst hp;rw[M3 s k m hlt,ha]
    have hat:(aD s k)[m]? = some a:=by subst hp;rw[zD s k m hlt,ha]
    have dR:=ae hnx;clear hnx;have HAT:=ae hat;clear hat;have HP:=ae hp;clear hp;by_cases hc:isNum a=true
    · have aT:=qV HM.o hc
      rw[← dR.o]at aT;have kY:=ae aT;clear aT;go_wp2_with fail
      go_quiet ((go_at_call 136;exact sM (vH _ (by omega) (by omega) _)))
      go_wp2_with fail
      go_roundw
      case rel =>
       refine⟨m+1,by have:=HP.o;omega,kY,ae ?_,ae (grownBy.gU (grownBy.fJ HG.o _) _ _)⟩;rw[show k+(m+1)=p+1 from by have:=HP.o;omega];exact(fH.o.drewN _).uA (p+1)
      case measure =>
       have h1:=((fH.o.drewN nq).uA (p+1)).nI s.size;have h2:=fH.o.nI s.size;have h3:=HP.o;rw[h2];refine Nat.lt_of_le_of_lt (Nat.le_of_eq h1) (by omega)
    · have hc':isNum a=false:=by simpa using hc
      clear hc;go_wp2_with fail
      go_quiet ((go_at_call 136;exact sM (vH _ (by omega) (by omega) _)))
      go_wp2_with fail
      go_quiet (fail)
      go_wp2_with fail
      go_ret;have h3:=HP.o;exact CZ (grownBy.fJ (grownBy.fJ HG.o _) _) HM.o (fun x hx=>by rw[HAT.o]at hx;injection hx with hx;rw[← hx];exact hc') (by omega) ((fH.o.drewN _).drewN _) _ (by rw[h3];rfl)
  · have lu:¬ (p:Int)<(s.size:Int):=by omega
    have HP:=ae hp;clear hp;go_wp2_with fail
    go_quiet (fail)
    go_wp2_with fail
    go_quiet (fail)
    go_wp2_with fail
    go_ret;have h3:=HP.o;exact CZ (grownBy.fJ (grownBy.fJ HG.o _) _) HM.o (fun x hx=>by have h1:=(dS.1 hx).1;rw[og]at h1;omega) (by omega) ((fH.o.drewN _).drewN _) _ (by rw[h3];rfl)
theorem aiF (b:Nat)(s:ByteArray)(k:Nat)(w:World)(h:bW w b s k)(_hs:s.size≤1000000)(_hk:k≤s.size) :
 Calls Tryz.prog 112 #[.pointer (some ⟨b,0,none⟩),.func (.func 158) #[] #[]] w (F5 isWord s b k w):=by
 have HR:=ae h;obtain⟨c0,c1⟩:=h.facts;clear h;go_enter Tryz.func112,Tryz.ntmps112;go_wp2_with fail
 clear c0 c1
 go_loopw [] (fun wr=>∃m:Nat,k+m≤s.size∧Hid (∀x∈(aD s k).take m,isWord x=true)∧Hid (bW wr b s (k+m))∧Hid (w.grownBy wr (some b)))
  (fun wr=>nI b s.size wr)
 case atStart=>exact⟨0,by omega,ae (by simp),HR,ae (grownBy.fP _ _)⟩
 case round =>
  obtain⟨m,dM,HM,fH,HG⟩:=hrel;obtain⟨c0,c1⟩:=fH.o.facts;have f1:=fH.o.frozen 1;obtain⟨p,hp⟩:∃p:Nat,k+m=p:=⟨_,rfl⟩;rw[hp]at c1;have hz1:(0:Int)≤(k:Int):=by omega
  have hz2:(k:Int)≤(p:Int):=by omega
  have hz3:(p:Int)≤(s.size:Int):=by omega
  have zh:(0:Int)≤(p:Int):=by omega
  by_cases hlt:p<s.size
  · have lu:(p:Int)<(s.size:Int):=by omega
    obtain⟨a,ha⟩:∃a:Int,(s[p].toNat:Int)=a:=⟨_,rfl⟩;have ha1:0≤a∧a≤255:=by have:=s[p].toNat_lt;omega
    have hnx:(aD s k).take (m+1)=(aD s k).take m++[a]:=by subst hp;rw[M3 s k m hlt,ha]
    have hat:(aD s k)[m]? = some a:=by subst hp;rw[zD s k m hlt,ha]
    have dR:=ae hnx;clear hnx;have HAT:=ae hat;clear hat;have HP:=ae hp;clear hp;by_cases hc:isWord a=true
    · have aT:=qV HM.o hc
      rw[← dR.o]at aT;have kY:=ae aT;clear aT;go_wp2_with fail
      go_quiet ((go_at_call 158;exact sM (Sg _ (by omega) (by omega) _)))
      go_wp2_with fail
      go_roundw
      case rel =>
       refine⟨m+1,by have:=HP.o;omega,kY,ae ?_,ae (grownBy.gU (grownBy.fJ HG.o _) _ _)⟩;rw[show k+(m+1)=p+1 from by have:=HP.o;omega];exact(fH.o.drewN _).uA (p+1)
      case measure =>
       have h1:=((fH.o.drewN nq).uA (p+1)).nI s.size;have h2:=fH.o.nI s.size;have h3:=HP.o;rw[h2];refine Nat.lt_of_le_of_lt (Nat.le_of_eq h1) (by omega)
    · have hc':isWord a=false:=by simpa using hc
      clear hc;go_wp2_with fail
      go_quiet ((go_at_call 158;exact sM (Sg _ (by omega) (by omega) _)))
      go_wp2_with fail
      go_quiet (fail)
      go_wp2_with fail
      go_ret;have h3:=HP.o;exact CZ (grownBy.fJ (grownBy.fJ HG.o _) _) HM.o (fun x hx=>by rw[HAT.o]at hx;injection hx with hx;rw[← hx];exact hc') (by omega) ((fH.o.drewN _).drewN _) _ (by rw[h3];rfl)
  · have lu:¬ (p:Int)<(s.size:Int):=by omega
    have HP:=ae hp;clear hp;go_wp2_with fail
    go_quiet (fail)
    go_wp2_with fail
    go_quiet (fail)
    go_wp2_with fail
    go_ret;have h3:=HP.o;exact CZ (grownBy.fJ (grownBy.fJ HG.o _) _) HM.o (fun x hx=>by have h1:=(dS.1 hx).1;rw[og]at h1;omega) (by omega) ((fH.o.drewN _).drewN _) _ (by rw[h3];rfl)
theorem Vs (b:Nat)(s:ByteArray)(k:Nat)(w:World)(h:bW w b s k)(_hs:s.size≤1000000)(_hk:k≤s.size) :
 Calls Tryz.prog 84 #[.pointer (some ⟨b,0,none⟩)] w fun e w'=>w.grownBy w' (some b)∧e = .returned (.tuple #[])∧bW w' b s (k+((aD s k).takeWhile oK).length):=by
 have HW:=ae (aiD b s k w h _hs _hk);clear h;go_enter Tryz.func84,Tryz.ntmps84;go_wp2_with (go_at_call 112;((with_reducible refine HW.o.mono ?_);rintro e w1 ⟨h1,rfl,h2⟩;have H1:=ae h1;have H2:=ae h2;clear h1 h2))
 first
  | exact bodyPost_ret (results_none rfl _ _ _) rfl ⟨H1.o,rfl,H2.o⟩
  | (go_end0;exact⟨H1.o,rfl,H2.o⟩)
def kQ(p l:List Int):Bool:=decide (l.take p.length=p)
theorem QT:∀(l p:List UInt8),Lib.hasPrefix l p=kQ (p.map fun x=>(x.toNat:Int)) (l.map fun x=>(x.toNat:Int))
 | l,[]=>by unfold Lib.hasPrefix kQ;simp
 | [],x :: p=>by unfold Lib.hasPrefix kQ;simp
 | y :: l,x :: p=>by
   have ih:=QT l p;unfold Lib.hasPrefix kQ at ih ⊢;rw[List.isPrefixOf_cons_cons,ih];simp only[jM,aX,List.take_succ_cons,List.cons.injEq];rw[Bool.eq_iff_iff,dH,bA,aK,aK];refine and_congr ⟨fun h=>by rw[h],fun h => ?_⟩ Iff.rfl;apply UInt8.toNat_inj.1;omega
theorem aaI {p l:List Int}(h:kQ p l=true):p.length≤l.length:=by
 unfold kQ at h;rw[aK]at h;have:=congrArg List.length h;rw[gX]at this;omega
theorem Uj (s t:ByteArray)(k:Nat):Lib.hasPrefix (s.extract k s.size).data.toList t.data.toList=kQ (sb t) (aD s k):=by
 rw[QT];show kQ (sb t) (sb (s.extract k s.size))=_;congr 1;by_cases hk:k≤s.size
 · have:=Ch s k (s.size - k)
   rw[show k+(s.size - k)=s.size from by omega]at this;rw[this];unfold aD;rw[pW];rw[lG,bz];omega
 · have h1:(sb (s.extract k s.size)).length=0:=by rw[bz,ByteArray.size_extract];omega
   have h2:(aD s k).length=0:=by rw[og];omega
   rw[kV h1,kV h2]
theorem VL (b:Nat)(s t:ByteArray)(k:Nat)(w:World)(h:bW w b s k)(_hs:s.size≤1000000)(_hk:k≤s.size)(_ht:t.size≤1000000) :
 Calls Tryz.prog 156 #[.pointer (some ⟨b,0,none⟩),.string t] w fun e w'=>w.grownBy w' (some b)∧e = .returned (.bool (kQ (sb t) (aD s k)))∧bW w' b s (if kQ (sb t) (aD s k)=true then k+t.size else k):=by
 obtain⟨c0,c1⟩:=h.facts;have f1:=h.frozen 1;have HR:=ae h;clear h;have hz1:(0:Int)≤(k:Int):=by omega
 have hz2:(k:Int)≤(s.size:Int):=by omega
 cases hq:kQ (sb t) (aD s k)
 · have HP:=ae (Uj s t k);rw[hq]at HP
   go_enter Tryz.func156,Tryz.ntmps156;go_wp2_with fail
   go_quiet ((go_at_call 170;exact Calls.quiet_of_same ((Tryz.strings_HasPrefix _ _ _).mono (fun _ _ ⟨a,c⟩=>⟨by rw[a,HP.o],c⟩))))
   go_wp2_with fail
   go_ret;exact⟨grownBy.fJ (grownBy.fP _ _) _,rfl,HR.o.drewN _⟩
 · have HP:=ae (Uj s t k);rw[hq]at HP
   have hle:=aaI hq;rw[og,bz]at hle;go_enter Tryz.func156,Tryz.ntmps156;go_wp2_with fail
   go_quiet ((go_at_call 170;exact Calls.quiet_of_same ((Tryz.strings_HasPrefix _ _ _).mono (fun _ _ ⟨a,c⟩=>⟨by rw[a,HP.o],c⟩))))
   go_wp2_with fail
   go_ret;exact⟨grownBy.gU (grownBy.fJ (grownBy.fP _ _) _) _ _,rfl,(HR.o.drewN _).uA (k+t.size)⟩
def yg(l:List Int):Bool:=decide (∀x∈l,(aP x||isNum x)=true)&&decide (l.length≤12)
theorem adW (s:ByteArray)(k:Nat)(h:k<s.size)(hx:(aP ((sb s).getD k 0)||isNum ((sb s).getD k 0))=false):yg (sb s)=false:=by
 unfold yg;rw[Bool.and_eq_false_iff];left;rw[jq];intro aT;have:=aT ((sb s).getD k 0) (by rw[uz s k h];exact fT (qC s k h));rw[hx]at this;cases this
theorem adV (s:ByteArray)(h:∀j,j<s.size→(aP ((sb s).getD j 0)||isNum ((sb s).getD j 0))=true):yg (sb s)=decide (s.size≤12):=by
 unfold yg;rw[aQ (show ∀x∈sb s,(aP x||isNum x)=true from ?_),gL,bz];intro x hx;obtain⟨j,hj,rfl⟩:=List.mem_iff_getElem.1 hx;have:=h j (by rw[bz]at hj;exact hj);rw[jL,dL hj]at this;exact this
theorem abS (s:ByteArray)(w:World)(_hs:s.size≤1000000) :
 Calls Tryz.prog 160 #[.string s] w fun e w'=>e = .returned (.bool (yg (sb s)))∧w=w':=by
 go_enter Tryz.func160,Tryz.ntmps160;go_wp2_with fail
 go_loopw [6] (fun i wr=>∃k:Nat,k≤s.size∧i = .int .i64 k∧Hid (∀j,j<k→(aP ((sb s).getD j 0)||isNum ((sb s).getD j 0))=true)∧w=wr)
  (fun i _=>s.size - (intOf i).toNat)
 case atStart=>exact⟨0,by omega,rfl,ae (by intro j hj;omega),rfl⟩
 case round =>
  obtain⟨k,hk,rfl,HG,rfl⟩:=hrel;by_cases hlt:k<s.size
  · have hki:(k:Int)<(s.size:Int):=by omega
    obtain⟨a,ha⟩:∃a:Int,(s[k].toNat:Int)=a:=⟨_,rfl⟩;have ha1:0≤a∧a≤255:=by have:=s[k].toNat_lt;omega
    have xe:=ae (show(sb s).getD k 0=a by rw[uz s k hlt,ha])
    have Et:(aP a||isNum a)=true→∀j,j<k+1→(aP ((sb s).getD j 0)||isNum ((sb s).getD j 0))=true:=by
     intro h j hj;by_cases h1:j<k
     · exact HG.o j h1
     · rw[show j=k from by omega,xe.o];exact h
    have DC:=ae Et;clear Et;cases hc:aP a
    · cases hn:isNum a
      · have eu:=ae (adW s k hlt (by rw[xe.o,hc,hn];rfl))
        go_wp2_with (first
         | (go_at_call 157;((with_reducible refine(ED _ ?_ ?_ _).mono ?_);(first|omega|skip);(first|omega|skip);rintro e w' ⟨rfl,rfl⟩;rw[hc]))
         | (go_at_call 136;((with_reducible refine(vH _ ?_ ?_ _).mono ?_);(first|omega|skip);(first|omega|skip);rintro e w' ⟨rfl,rfl⟩;rw[hn])))
        go_ret;exact⟨gq eu.o.symm,rfl⟩
      · go_wp2_with (first
         | (go_at_call 157;((with_reducible refine(ED _ ?_ ?_ _).mono ?_);(first|omega|skip);(first|omega|skip);rintro e w' ⟨rfl,rfl⟩;rw[hc]))
         | (go_at_call 136;((with_reducible refine(vH _ ?_ ?_ _).mono ?_);(first|omega|skip);(first|omega|skip);rintro e w' ⟨rfl,rfl⟩;rw[hn])))
        go_roundw
        case rel=>exact⟨k+1,by omega,by go_num,ae (DC.o (by rw[hc,hn];rfl)),by trivial⟩
        case measure=>simp[intOf];omega
    · go_wp2_with (first
       | (go_at_call 157;((with_reducible refine(ED _ ?_ ?_ _).mono ?_);(first|omega|skip);(first|omega|skip);rintro e w' ⟨rfl,rfl⟩;rw[hc])))
      go_roundw
      case rel=>exact⟨k+1,by omega,by go_num,ae (DC.o (by rw[hc];rfl)),by trivial⟩
      case measure=>simp[intOf];omega
  · have hki:¬ (k:Int)<(s.size:Int):=by omega
    have HA:=ae (adV s (fun j hj=>HG.o j (by omega)));go_wp2_with fail
    go_ret;refine⟨gq (by rw[HA.o,decide_eq_decide];omega),rfl⟩
def qw(c:Int):FuncId:=if isNum c=true then 137 else if c=34 then 138 else if c=35 then 139 else if nZ c=true then 141 else 142
theorem Tn(h:isNum c=true):qw c=137:=by unfold qw;rw[ah h]
theorem Tp(h:isNum c=false)(h1:c=34):qw c=138:=by unfold qw;rw[ag (by simp[h]),ah h1]
theorem Tm(h:isNum c=false)(h1:¬ c=34)(h2:c=35):qw c=139:=by unfold qw;rw[ag (by simp[h]),ag h1,ah h2]
theorem Tt(h:isNum c=false)(h1:¬ c=34)(h2:¬ c=35)(h3:nZ c=true):qw c=141:=by unfold qw;rw[ag (by simp[h]),ag h1,ag h2,ah h3]
theorem Tq(h:isNum c=false)(h1:¬ c=34)(h2:¬ c=35)(h3:nZ c=false):qw c=142:=by unfold qw;rw[ag (by simp[h]),ag h1,ag h2,ag (by simp[h3])]
theorem adr (c:Int)(_h0:0≤c)(_h1:c≤255)(w:World) :
 Calls Tryz.prog 114 #[.int .u8 c] w fun e w'=>e = .returned (.func (.func (qw c)) #[] #[])∧w=w':=by
 cases hn:isNum c
 · by_cases dG:c=34
   · have HM:=ae (Tp hn dG)
     have hb1:(c == 34)=true:=bA.2 dG;clear dG;go_enter Tryz.func114,Tryz.ntmps114
     go_wp2_with (first
      | (go_at_call 136;((with_reducible refine(vH _ ?_ ?_ _).mono ?_);(first|omega|skip);(first|omega|skip);rintro e w' ⟨rfl,rfl⟩;rw[hn]))
      | (go_at_call 140;((with_reducible refine(yX _ ?_ ?_ _).mono ?_);(first|omega|skip);(first|omega|skip);rintro e w' ⟨rfl,rfl⟩;rw[hb])))
     all_goals go_ret
     all_goals exact⟨by rw[HM.o];rfl,rfl⟩
   · have hb1:(c == 34)=false:=aA.2 dG
     by_cases j5:c=35
     · have HM:=ae (Tm hn dG j5)
       have hb2:(c == 35)=true:=bA.2 j5;clear dG j5;go_enter Tryz.func114,Tryz.ntmps114
       go_wp2_with (first
        | (go_at_call 136;((with_reducible refine(vH _ ?_ ?_ _).mono ?_);(first|omega|skip);(first|omega|skip);rintro e w' ⟨rfl,rfl⟩;rw[hn]))
        | (go_at_call 140;((with_reducible refine(yX _ ?_ ?_ _).mono ?_);(first|omega|skip);(first|omega|skip);rintro e w' ⟨rfl,rfl⟩;rw[hb])))
       all_goals go_ret
       all_goals exact⟨by rw[HM.o];rfl,rfl⟩
     · have hb2:(c == 35)=false:=aA.2 j5
       cases hb:nZ c
       · have HM:=ae (Tq hn dG j5 hb)
         clear dG j5;go_enter Tryz.func114,Tryz.ntmps114
         go_wp2_with (first
          | (go_at_call 136;((with_reducible refine(vH _ ?_ ?_ _).mono ?_);(first|omega|skip);(first|omega|skip);rintro e w' ⟨rfl,rfl⟩;rw[hn]))
          | (go_at_call 140;((with_reducible refine(yX _ ?_ ?_ _).mono ?_);(first|omega|skip);(first|omega|skip);rintro e w' ⟨rfl,rfl⟩;rw[hb])))
         all_goals go_ret
         all_goals exact⟨by rw[HM.o];rfl,rfl⟩
       · have HM:=ae (Tt hn dG j5 hb)
         clear dG j5;go_enter Tryz.func114,Tryz.ntmps114
         go_wp2_with (first
          | (go_at_call 136;((with_reducible refine(vH _ ?_ ?_ _).mono ?_);(first|omega|skip);(first|omega|skip);rintro e w' ⟨rfl,rfl⟩;rw[hn]))
          | (go_at_call 140;((with_reducible refine(yX _ ?_ ?_ _).mono ?_);(first|omega|skip);(first|omega|skip);rintro e w' ⟨rfl,rfl⟩;rw[hb])))
         all_goals go_ret
         all_goals exact⟨by rw[HM.o];rfl,rfl⟩
 · have HM:=ae (Tn hn)
   go_enter Tryz.func114,Tryz.ntmps114
   go_wp2_with (first
    | (go_at_call 136;((with_reducible refine(vH _ ?_ ?_ _).mono ?_);(first|omega|skip);(first|omega|skip);rintro e w' ⟨rfl,rfl⟩;rw[hn]))
    | (go_at_call 140;((with_reducible refine(yX _ ?_ ?_ _).mono ?_);(first|omega|skip);(first|omega|skip);rintro e w' ⟨rfl,rfl⟩;skip)))
   all_goals go_ret
   all_goals exact⟨by rw[HM.o];rfl,rfl⟩
def o7 (o:Option (ai × Nat))(b:Nat)(s:ByteArray)(k:Nat)(w:World)(e:Ending)(w':World):Prop :=
 w.grownBy w' (some b)∧((∃t n,o=some (t,n)∧e = .returned (.tuple #[.agg (pO t),.bool true])∧bW w' b s (k+n))∨(o=none∧∃t,e = .returned (.tuple #[.agg (pO t),.bool false])))
theorem grownBy.uB (h:a.grownBy w r)(ad:Addr)(v:Value)(hg:a.heap.size≤ad.block):a.grownBy (w.setCell ad v) r :=
 ⟨h.os,h.tape,h.output,by simpa using h.size,fun j hj hr=>by
  rw[fw _ _ _ _ (by intro e;omega)];exact h.block j hj hr⟩
theorem grownBy.kU {g:Nat}(h:a.grownBy w r)(hg:a.heap.size≤g)(v0 v1 v2 v3 v4 v5 v6 v7 v8:Value) :
 a.grownBy (((((((((w.setCell ⟨g,0,none⟩ v0).setCell ⟨g,1,none⟩ v1).setCell ⟨g,2,none⟩ v2).setCell ⟨g,3,none⟩ v3).setCell ⟨g,4,none⟩ v4).setCell ⟨g,5,none⟩ v5).setCell ⟨g,6,none⟩ v6).setCell ⟨g,7,none⟩ v7).setCell ⟨g,8,none⟩ v8) r :=
 grownBy.uB (grownBy.uB (grownBy.uB (grownBy.uB (grownBy.uB (grownBy.uB (grownBy.uB (grownBy.uB (grownBy.uB (h) _ _ hg) _ _ hg) _ _ hg) _ _ hg) _ _ hg) _ _ hg) _ _ hg) _ _ hg) _ _ hg
theorem bW.other (h:bW w b s k)(ad:Addr)(v:Value)(hne:ad.block≠b):bW (w.setCell ad v) b s k:=by
 unfold bW;rw[fw _ _ _ _ (by intro e;exact hne e.symm)];exact h
theorem bW.kU {g:Nat}(h:bW w b s k)(hg:g≠b)(v0 v1 v2 v3 v4 v5 v6 v7 v8:Value) :
 bW (((((((((w.setCell ⟨g,0,none⟩ v0).setCell ⟨g,1,none⟩ v1).setCell ⟨g,2,none⟩ v2).setCell ⟨g,3,none⟩ v3).setCell ⟨g,4,none⟩ v4).setCell ⟨g,5,none⟩ v5).setCell ⟨g,6,none⟩ v6).setCell ⟨g,7,none⟩ v7).setCell ⟨g,8,none⟩ v8) b s k :=
 ((((((((h.other _ _ hg).other _ _ hg).other _ _ hg).other _ _ hg).other _ _ hg).other _ _ hg).other _ _ hg).other _ _ hg).other _ _ hg
theorem aG.cells (h:aG w b t):w.cell? ⟨b,0,none⟩=some (.int .i64 t.kind)∧w.cell? ⟨b,1,none⟩=some (.string t.text)∧w.cell? ⟨b,2,none⟩=some (.int .i64 t.num)∧w.cell? ⟨b,3,none⟩=some (.string t.sh)∧w.cell? ⟨b,4,none⟩=some (.int .i64 t.c)∧w.cell? ⟨b,5,none⟩=some (.int .i64 t.r)∧w.cell? ⟨b,6,none⟩=some (.bool t.ac)∧w.cell? ⟨b,7,none⟩=some (.bool t.ar)∧w.cell? ⟨b,8,none⟩=some (.int .i64 t.pos) :=
 ⟨by rw[cell_of_row w b 0 _ _ _ h];rfl,by rw[cell_of_row w b 1 _ _ _ h];rfl,by rw[cell_of_row w b 2 _ _ _ h];rfl,by rw[cell_of_row w b 3 _ _ _ h];rfl,by rw[cell_of_row w b 4 _ _ _ h];rfl,by rw[cell_of_row w b 5 _ _ _ h];rfl,by rw[cell_of_row w b 6 _ _ _ h];rfl,by rw[cell_of_row w b 7 _ _ _ h];rfl,by rw[cell_of_row w b 8 _ _ _ h];rfl⟩
theorem aG.bS (h:aG w b t):w.frozen? ⟨b,0,none⟩=false∧w.frozen? ⟨b,1,none⟩=false∧w.frozen? ⟨b,2,none⟩=false∧w.frozen? ⟨b,3,none⟩=false∧w.frozen? ⟨b,4,none⟩=false∧w.frozen? ⟨b,5,none⟩=false∧w.frozen? ⟨b,6,none⟩=false∧w.frozen? ⟨b,7,none⟩=false∧w.frozen? ⟨b,8,none⟩=false :=
 ⟨h.frozen 0,h.frozen 1,h.frozen 2,h.frozen 3,h.frozen 4,h.frozen 5,h.frozen 6,h.frozen 7,h.frozen 8⟩
abbrev ku:Array Value:=#[.int .i64 0,.string ⟨#[]⟩,.int .i64 0,.string ⟨#[]⟩,.int .i64 0,.int .i64 0,.bool false,.bool false,.int .i64 0]
theorem aG.zero(w:World):aG (w.alloc (.cells ku 71)) w.heap.size ai.zero:=aG.new w ai.zero
theorem aG.load (h:aG w b t):(loadVar 71 ⟨b,0,none⟩).run Tryz.prog w = .ok (.agg (pO t)) w :=
 run_loadVar_row w b 71 71 _ _ _ h Tryz.underlying71 rfl VT
theorem pI (h:aG w b t)(fn:Func)(tmps:Array Value)(ok:Bool)(p u:Tmp)(hf:fn.results=#[.cell p 71,.tmp u])(hp:tmps.getD p undef = .pointer (some ⟨b,0,none⟩))(hu:tmps.getD u undef = .bool ok) :
 (results fn tmps).run Tryz.prog w = .ok (.tuple #[.agg (pO t),.bool ok]) w:=by
 rw[results_cell_tmp hf,hp,hu];simp[asAddr,h.load,Result.andThen]
theorem aG.agt(h:aG w b t)(x:Int):aG (w.setCell ⟨b,0,none⟩ (.int .i64 x)) b { t with kind:=x }:=by unfold aG;rw[heap_setCell_same w b 0 _ _ _ h];rfl
theorem aG.Nc(h:aG w b t)(x:ByteArray):aG (w.setCell ⟨b,1,none⟩ (.string x)) b { t with text:=x }:=by unfold aG;rw[heap_setCell_same w b 1 _ _ _ h];rfl
theorem aG.Nf(h:aG w b t)(x:Int):aG (w.setCell ⟨b,2,none⟩ (.int .i64 x)) b { t with num:=x }:=by unfold aG;rw[heap_setCell_same w b 2 _ _ _ h];rfl
theorem aG.agu(h:aG w b t)(x:ByteArray):aG (w.setCell ⟨b,3,none⟩ (.string x)) b { t with sh:=x }:=by unfold aG;rw[heap_setCell_same w b 3 _ _ _ h];rfl
theorem aG.agv(h:aG w b t)(x:Int):aG (w.setCell ⟨b,4,none⟩ (.int .i64 x)) b { t with c:=x }:=by unfold aG;rw[heap_setCell_same w b 4 _ _ _ h];rfl
theorem aG.agw(h:aG w b t)(x:Int):aG (w.setCell ⟨b,5,none⟩ (.int .i64 x)) b { t with r:=x }:=by unfold aG;rw[heap_setCell_same w b 5 _ _ _ h];rfl
theorem aG.agx(h:aG w b t)(x:Bool):aG (w.setCell ⟨b,6,none⟩ (.bool x)) b { t with ac:=x }:=by unfold aG;rw[heap_setCell_same w b 6 _ _ _ h];rfl
theorem aG.agy(h:aG w b t)(x:Bool):aG (w.setCell ⟨b,7,none⟩ (.bool x)) b { t with ar:=x }:=by unfold aG;rw[heap_setCell_same w b 7 _ _ _ h];rfl
theorem aG.agz(h:aG w b t)(x:Int):aG (w.setCell ⟨b,8,none⟩ (.int .i64 x)) b { t with pos:=x }:=by unfold aG;rw[heap_setCell_same w b 8 _ _ _ h];rfl
theorem aG.iI {t0:ai}(h:aG w b t0)(t:ai):aG (((((((((w.setCell ⟨b,0,none⟩ (.int .i64 t.kind)).setCell ⟨b,1,none⟩ (.string t.text)).setCell ⟨b,2,none⟩ (.int .i64 t.num)).setCell ⟨b,3,none⟩ (.string t.sh)).setCell ⟨b,4,none⟩ (.int .i64 t.c)).setCell ⟨b,5,none⟩ (.int .i64 t.r)).setCell ⟨b,6,none⟩ (.bool t.ac)).setCell ⟨b,7,none⟩ (.bool t.ar)).setCell ⟨b,8,none⟩ (.int .i64 t.pos)) b t:=by
 have h9:=(((((((((h.agt t.kind).Nc t.text).Nf t.num).agu t.sh).agv t.c).agw t.r).agx t.ac).agy t.ar).agz t.pos);exact h9
theorem Pw:∀(l:List UInt8)(a:Nat)(L:List Int),a<18446744073709551616→dB L=(a:Int)→(∀c∈l,48≤c.toNat∧c.toNat≤57) →
 Lib.parseUint10 a l=if dB (L++l.map fun x=>(x.toNat:Int))<18446744073709551616 then .ok (dB (L++l.map fun x=>(x.toNat:Int))).toNat else .range
 | [],a,L,ha,hL,_=>by
   simp only[List.map_nil,fF];rw[hL,ah (by omega)];unfold Lib.parseUint10;simp
 | c :: l,a,L,ha,hL,h=>by
   have hc:=h c (by simp);have hv:dB (L++[(c.toNat:Int)])=10*(a:Int)+((c.toNat:Int) - 48):=by rw[zO,hL]
   have hge:=BD (l.map fun x=>(x.toNat:Int)) (L++[(c.toNat:Int)]) (by
    intro x hx;rw[List.mem_map]at hx;obtain⟨d,hd,rfl⟩:=hx;have:=h d (by simp[hd]);unfold isNum;rw[aK];omega) (by omega)
   have e:L++(c :: l).map (fun x=>(x.toNat:Int))=L++[(c.toNat:Int)]++l.map fun x=>(x.toNat:Int):=by simp
   rw[e];unfold Lib.parseUint10;rw[ah hc];by_cases h1:1844674407370955162≤a
   · rw[ah h1,ag (by omega)]
   · rw [ag h1]
     by_cases h2:18446744073709551616≤a*10+(c.toNat - 48)
     · rw[ah h2,ag (by omega)]
     · rw[ag h2]
       exact Pw l (a*10+(c.toNat - 48)) (L++[(c.toNat:Int)]) (by omega) (by rw[hv];omega) (fun d hd=>h d (by simp[hd]))
theorem Yr (D:ByteArray)(h0:sb D≠[])(h:∀x∈sb D,isNum x=true):Lib.atoiAll D.data.toList=if 9223372036854775807<dB (sb D)then .range else .ok (dB (sb D)):=by
 have hsb:sb D=D.data.toList.map fun x=>(x.toNat:Int):=rfl
 have mE:=BD (sb D) [] h (by decide);rw[iy,show dB []=0 from rfl]at mE;rw[hsb]at h0 h mE ⊢;cases hl:D.data.toList with
 | nil=>rw[hl]at h0;exact absurd rfl h0
 | cons c r =>
   rw[hl]at h mE
   have aT:∀d∈c :: r,48≤d.toNat∧d.toNat≤57:=by
    intro d hd;have:=jA (h (d.toNat:Int) (uG (f:=fun x:UInt8=>(x.toNat:Int)) hd));omega
   have hc:=aT c (by simp);unfold Lib.atoiAll;simp only;rw[ag (by omega)];unfold Lib.parseMag;rw[ag (by simp)];rw[Pw (c :: r) 0 [] (by omega) rfl aT,iy];have xX:¬ c.toNat=45:=by omega
   by_cases h1:dB ((c :: r).map fun x=>(x.toNat:Int))<18446744073709551616
   · rw [ah h1]
     simp only[xX,false_and,not_false_iff,true_and,if_false];by_cases h2:9223372036854775807<dB ((c :: r).map fun x=>(x.toNat:Int))
     · rw[ah h2,ah (by omega)]
     · rw[ag h2,ag (by omega)]
       congr 1;omega
   · rw[ag h1,ah (by omega)]
def yA(w:World):Prop:=∃ev,w.cell? ⟨8,0,none⟩=some ev∧(ev = .nilIface∨∃te pe,ev = .iface te pe)
theorem yA.grown {w':World}(h:yA w)(hg:w.grownBy w' (some b))(hb:8<b):yA w':=by
 obtain⟨ev,h1,h2⟩:=h;refine⟨ev, ?_,h2⟩;rw[Cf hg ?_ (by intro e;have:=dU e;simp at this;omega)]
 · exact h1
 · rcases Nat.lt_or_ge 8 w.heap.size with h'|h'
   · exact h'
   · exfalso;unfold World.cell? at h1;simp only at h1;rw[Array.getElem?_eq_none h']at h1;cases h1
theorem aG.drew(h:aG w b t):aG w.drew b t:=h
theorem bW.drew(h:bW w b s k):bW w.drew b s k:=h
theorem grownBy.Gi(h:a.grownBy w r):a.grownBy w.drew r:=⟨h.os,h.tape,h.output,h.size,h.block⟩
theorem Yt (D:ByteArray)(hD:D.size≤1000000)(v:Int)(h:Lib.atoiAll D.data.toList = .ok v)(w:World):Calls Tryz.prog 155 #[.string D] w fun e w'=>e = .returned (.tuple #[.int .i64 v,.nilIface])∧Below w.heap.size w w':=by
 refine(Tryz.strconv_Atoi_ok D (by omega) v h w).mono ?_;rintro e w' ⟨rfl,rfl|⟨t,rfl⟩⟩
 · exact⟨rfl,ak _ _⟩
 · exact⟨rfl,Lib.bytesWorld_below _ _ _⟩
theorem MV:Tryz.f137.results=#[.cell 2 71,.tmp 3]:=by kernel_rfl
theorem aed (b:Nat)(s:ByteArray)(k:Nat)(w:World)(h:bW w b s k)(_hs:s.size≤1000000)(_hk:k<s.size)(hd:isNum ((s[k].toNat:Nat):Int)=true)(hev:yA w)(hb2:8<b) :
 Calls Tryz.prog 137 #[.pointer (some ⟨b,0,none⟩)] w (o7 (lv (aD s k)) b s k w):=by
 have hal:w.grownBy (w.alloc (.cells ku 71)) (some b):=grownBy.below' (grownBy.fP _ _) ((ak _ _).alloc (aj _) _);have h1:bW (w.alloc (.cells ku 71)) b s k:=h.below ((ak _ _).alloc (aj _) _) h.lt;have hlt:=h.lt;have WJ:=ae (hev.grown hal hb2);clear hev;obtain⟨ds,hds⟩:∃ds,(aD s k).takeWhile isNum=ds:=⟨_,rfl⟩;obtain⟨D,hD⟩:∃D,strOfNums ds=D:=⟨_,rfl⟩;have hbd:Bytes ds:=fun x hx=>M0 s k x (by rw[← hds]at hx;exact(List.takeWhile_prefix _).subset hx)
 have uh:sb D=ds:=by rw[← hD];exact jD ds hbd
 have abw:D.size=ds.length:=by rw[← bz,uh]
 have hlen:ds.length≤s.size:=by rw[← hds];have h0:=Bv isNum (aD s k);rw[og]at h0;omega
 have hW:=(aiE b s k _ h1 _hs (by omega)).mono (R':=fun e w'=>(w.alloc (.cells ku 71)).grownBy w' (some b)∧e = .returned (.string D)∧bW w' b s (k+ds.length)) (fun e w' ⟨x1,x2,x3⟩=>⟨x1,by rw[x2,hds,hD],by rw[hds]at x3;exact x3⟩);have HW:=ae hW;clear hW h1 h;have bu:=ae hal;clear hal;have aR:=ae (aG.zero w)
 have hne:ds≠[]:=by
  have h0:=zD s k 0 (by omega);rw[← hds];cases hr:aD s k with
  | nil=>rw[hr]at h0;simp at h0
  | cons x l=>rw[hr]at h0;simp at h0;rw[List.takeWhile_cons,h0,hd];simp
 have aT:∀x∈ds,isNum x=true:=by rw[← hds];exact uC isNum _
 have hN:lv (aD s k)=if (1<ds.length∧ds.head? = some 48)∨9223372036854775807<dB ds then none else some ({ ai.zero with kind:=1,num:=dB ds },ds.length):=by
  unfold lv;rw[hds]
  have hh:(aD s k).head? = ds.head? := by
   have e:=take_split isNum (aD s k);rw[hds]at e;rw[← e];cases ds with
   | nil=>exact absurd rfl hne
   | cons x l=>rfl
  rw[hh]
 have hat:=Yr D (by rw[uh];exact hne) (by rw[uh];exact aT);rw[uh]at hat;have hp:=List.length_pos_iff.2 hne;have hD0:0<D.size:=by omega
 obtain⟨a,ha⟩:∃a:Int,(D[0].toNat:Int)=a:=⟨_,rfl⟩;have hhd:ds.head? = some a:=by rw[← ha, ← uh,List.head?_eq_getElem?,qC D 0 hD0]
 have hmx:D.size≤1000000:=by omega
 have HD:=ae hD;have HSD:=ae uh;have ai8:=ae hlen;have kY:=ae aT;clear hne aT hbd hds hD uh hlen;have hw0:w.heap.size≠b:=by omega
 by_cases h48:1<ds.length∧ds.head? = some 48
 · rw[ah (Or.inl h48)]at hN
   have HN:=ae hN;clear hN hat;have ajl:(1:Int)<(D.size:Int):=by omega
   have ajm:(a == 48)=true:=by rw[hhd]at h48;exact bA.2 (dU h48.2)
   have HHD:=ae hhd;clear h48 hhd hp;go_enter Tryz.func137,Tryz.ntmps137;go_wp2_with (go_at_call 112;((with_reducible refine HW.o.mono ?_);rintro e w1 ⟨h1,rfl,h2⟩;have H1:=ae h1;have H2:=ae h2;clear h1 h2;have HT1:=ae (aR.o.grown H1.o hw0);obtain⟨x0,x1,x2,x3,x4,x5,x6,x7,ay⟩:=HT1.o.cells;obtain⟨f0,f1,f2,f3,f4,f5,f6,f7,f8⟩:=HT1.o.bS))
   exact bodyPost_ret (pI (HT1.o.iI ai.zero) _ _ false 2 3 MV rfl rfl) rfl ⟨grownBy.kU (grownBy.trans' bu.o H1.o) (aj _) _ _ _ _ _ _ _ _ _,.inr ⟨HN.o,ai.zero,rfl⟩⟩
 · by_cases qZ:9223372036854775807<dB ds
   · rw [ah (Or.inr qZ)]at hN
     rw[ah qZ]at hat;have HN:=ae hN;have HAT:=ae hat;clear hN hat
     have AA:(a == 48)=false∨((a == 48)=true∧¬ (1:Int)<(D.size:Int)):=by
      by_cases Au:a=48
      · refine .inr ⟨bA.2 Au,fun h1=>h48 ⟨by omega,by rw[hhd,Au]⟩⟩
      · exact .inl (aA.2 Au)
     clear h48 hhd hp qZ;go_enter Tryz.func137,Tryz.ntmps137;rcases AA with hc1|⟨hc1,hc2⟩
     all_goals go_wp2_with (first
      | (go_at_call 112;((with_reducible refine HW.o.mono ?_);rintro e w1 ⟨h1,rfl,h2⟩;have H1:=ae h1;have H2:=ae h2;clear h1 h2;obtain⟨ev,Jl,HE2⟩:=WJ.o.grown H1.o hb2;have Jl:=ae Jl;have HE2:=ae HE2))
      | (go_at_call 155;((with_reducible refine(Tryz.strconv_Atoi_range D ?_ HAT.o ev _ Jl.o HE2.o).mono ?_);(first|omega|skip);rintro e w2 ⟨N,rfl, -, -,h3⟩;have H3:=ae h3;clear h3;have HT2:=ae ((aR.o.grown H1.o hw0).below H3.o (aR.o.grown H1.o hw0).lt);obtain⟨x0,x1,x2,x3,x4,x5,x6,x7,ay⟩:=HT2.o.cells;obtain⟨f0,f1,f2,f3,f4,f5,f6,f7,f8⟩:=HT2.o.bS)))
     all_goals (generalize Lib.atoiSat D.data.toList=sat)
     all_goals go_region
     all_goals go_wp2_with fail
     all_goals exact bodyPost_ret (pI (HT2.o.iI { ai.zero with kind:=1,num:=sat }).drew _ _ false 2 3 MV rfl rfl) rfl ⟨grownBy.Gi (grownBy.kU (grownBy.below' (grownBy.trans' bu.o H1.o) H3.o) (aj _) _ _ _ _ _ _ _ _ _),.inr ⟨HN.o,{ ai.zero with kind:=1,num:=sat },rfl⟩⟩
   · rw [ag (show ¬ ((1<ds.length∧ds.head? = some 48)∨9223372036854775807<dB ds)from fun h1=>h1.elim h48 qZ)]at hN
     rw[ag qZ]at hat;obtain⟨v,hv⟩:∃v,dB ds=v:=⟨_,rfl⟩;rw[hv]at hN hat;have HN:=ae hN;have HAT:=ae hat;clear hN hat hv
     have AA:(a == 48)=false∨((a == 48)=true∧¬ (1:Int)<(D.size:Int)):=by
      by_cases Au:a=48
      · refine .inr ⟨bA.2 Au,fun h1=>h48 ⟨by omega,by rw[hhd,Au]⟩⟩
      · exact .inl (aA.2 Au)
     clear h48 hhd hp qZ;go_enter Tryz.func137,Tryz.ntmps137;rcases AA with hc1|⟨hc1,hc2⟩
     all_goals go_wp2_with (first
      | (go_at_call 112;((with_reducible refine HW.o.mono ?_);rintro e w1 ⟨h1,rfl,h2⟩;have H1:=ae h1;have H2:=ae h2;clear h1 h2))
      | (go_at_call 155;((with_reducible refine(Yt D ?_ v HAT.o _).mono ?_);(first|omega|skip);rintro e w2 ⟨rfl,h3⟩;have H3:=ae h3;clear h3;have HL2:=ae (H2.o.below H3.o H2.o.lt);have HT2:=ae ((aR.o.grown H1.o hw0).below H3.o (aR.o.grown H1.o hw0).lt);obtain⟨x0,x1,x2,x3,x4,x5,x6,x7,ay⟩:=HT2.o.cells;obtain⟨f0,f1,f2,f3,f4,f5,f6,f7,f8⟩:=HT2.o.bS)))
     all_goals go_region
     all_goals go_wp2_with fail
     all_goals exact bodyPost_ret (pI (HT2.o.iI { ai.zero with kind:=1,num:=v }).drew _ _ true 2 3 MV rfl rfl) rfl ⟨grownBy.Gi (grownBy.kU (grownBy.below' (grownBy.trans' bu.o H1.o) H3.o) (aj _) _ _ _ _ _ _ _ _ _),.inl ⟨_,_,HN.o,rfl,(HL2.o.kU hw0 _ _ _ _ _ _ _ _ _).drew⟩⟩
theorem RZ:∀(l:List UInt8),Lib.indexByte l 33=if ((l.map (fun b=>(b.toNat:Int))).takeWhile jV).length=l.length then -1 else (((l.map (fun b=>(b.toNat:Int))).takeWhile jV).length:Int)
 | []=>rfl
 | x :: l=>by
   have ih:=RZ l;unfold Lib.indexByte;by_cases hx:x=33
   · subst hx
     have hne:jV ((33:UInt8).toNat:Int)=false:=by decide
     rw[jM,List.takeWhile_cons,hne];simp
   · have hne:jV (x.toNat:Int)=true:=by
      unfold jV;rw[aK];intro h;apply hx;apply UInt8.toNat_inj.1;show x.toNat=33;omega
     have hb:(x == (33:UInt8))=false:=by rw[aA];exact hx
     rw[hb,jM,List.takeWhile_cons,hne,ah rfl,aX,aX,ih];obtain⟨n,hn⟩:∃n,((l.map (fun b=>(b.toNat:Int))).takeWhile jV).length=n:=⟨_,rfl⟩;rw[hn];by_cases h:n=l.length
     · have h2:n+1=l.length+1:=by omega
       rw[ah h,ah h2];rfl
     · have h2:¬ n+1=l.length+1:=by omega
       rw[ag h,ag h2];have:((n:Int) == -1)=false:=by rw[aA];omega
       rw[this];simp
theorem abH (d:Rd):Lib.indexByte d.s.data.toList 33=if d.bV.length=d.s.size then -1 else (d.bV.length:Int):=by
 rw[RZ];unfold Rd.bV sb;rw[← rz];have:d.s.toList.length=d.s.size:=by rw[rz];rfl
 rw[this]
theorem Nk (d:Rd):(sb d.s).take d.bV.length=d.bV:=by
 have e:=take_split jV (sb d.s);have h:(d.bV++(sb d.s).drop d.bV.length).take d.bV.length=d.bV:=List.take_left;have e2:d.bV++(sb d.s).drop d.bV.length=sb d.s:=e;rw[e2]at h;exact h
theorem Nj (d:Rd)(h:¬ d.bV.length=d.s.size):d.bV.length<d.s.size:=by
 have e:=congrArg List.length (take_split jV (sb d.s));rw[av,bz]at e;unfold Rd.bV at h ⊢;omega
theorem agW (b:Nat)(d:Rd)(w:World)(h:cu w b d)(_hs:d.s.size≤1000000) :
 Calls Tryz.prog 172 #[.pointer (some ⟨b,0,none⟩)] w (Part d.jX b w):=by
 obtain⟨c0,c1,c2,c3,c4,c5,c6⟩:=h.facts;have f1:=h.frozen 1;have f2:=h.frozen 2;clear c3 c4 c5 c6;have HR:=ae h;clear h;have hix:=abH d;by_cases hno:d.bV.length=d.s.size
 · have hf:d.jX=some d:=by unfold Rd.jX;rw[ah hno]
   rw[ah hno]at hix;have HF:=ae hf;clear hf hno;have Fz:=ae hix;clear hix;go_enter Tryz.func172,Tryz.ntmps172;go_wp2_with (go_at_call 193;((with_reducible refine(Tryz.strings_IndexByte d.s 33 _).mono ?_);rintro e w1 ⟨rfl,rfl⟩;(rw[show(33:Int).toNat.toUInt8=33 from rfl,Fz.o])))
   go_ret;exact⟨grownBy.fP _ _,.inl ⟨d,HF.o,rfl,HR.o⟩⟩
 · have hlt:=Nj d hno
   rw[ag hno]at hix;obtain⟨i,hi⟩:∃i:Nat,d.bV.length=i:=⟨_,rfl⟩;rw[hi]at hix hlt;have hf:d.jX=if iH d.bV=true then some { d with sh:=strOfNums d.bV,k:=i+1 }else none:=by unfold Rd.jX;rw[ag hno,hi]
   have hcut:d.s.extract 0 i=strOfNums d.bV:=by
    rw[← Nk,hi, ← mX (d.s.extract 0 i)];congr 1;unfold sb;rw[← List.map_take];congr 1;simp[ByteArray.data_extract]
   have hsz:(strOfNums d.bV).size≤1000000:=by rw[strOfNums_size];omega
   have hb:sb (strOfNums d.bV)=d.bV:=jD _ (fun x hx=>sO d.s x (by rw[← Nk]at hx;exact List.mem_of_mem_take hx));have Fz:=ae hix;clear hix;have HF:=ae hf;clear hf;have Ol:=ae hcut;clear hcut;have HB:=ae hb;clear hb;have ajA:(i:Int)≤(d.s.size:Int):=by omega
   have hi0:(0:Int)≤(i:Int):=by omega
   clear hno hi;go_enter Tryz.func172,Tryz.ntmps172;by_cases hn:iH d.bV=true
   · have hf2:d.jX=some { d with sh:=strOfNums d.bV,k:=i+1 }:=by rw[HF.o,ah hn]
     have bT:=ae hf2;clear hf2
     go_wp2_with (first
      | (go_at_call 193;((with_reducible refine(Tryz.strings_IndexByte d.s 33 _).mono ?_);rintro e w1 ⟨rfl,rfl⟩;(rw[show(33:Int).toNat.toUInt8=33 from rfl,Fz.o])))
      | (go_at_call 135;rw[Ol.o];((with_reducible refine(Hg _ _ ?_).mono ?_);(first|omega|skip);rintro e w2 ⟨rfl,rfl⟩;rw[HB.o,hn])))
     go_ret;exact⟨grownBy.gU (grownBy.gU (grownBy.fP _ _) _ _) _ _,.inl ⟨_,bT.o,rfl,(HR.o.agE (strOfNums d.bV)).uA (i+1)⟩⟩
   · have hf2:d.jX=none:=by rw[HF.o,ag hn]
     have hn':iH d.bV=false:=by simpa using hn
     have bT:=ae hf2;clear hf2 hn
     go_wp2_with (first
      | (go_at_call 193;((with_reducible refine(Tryz.strings_IndexByte d.s 33 _).mono ?_);rintro e w1 ⟨rfl,rfl⟩;(rw[show(33:Int).toNat.toUInt8=33 from rfl,Fz.o])))
      | (go_at_call 135;rw[Ol.o];((with_reducible refine(Hg _ _ ?_).mono ?_);(first|omega|skip);rintro e w2 ⟨rfl,rfl⟩;rw[HB.o,hn'])))
     go_ret;exact⟨grownBy.gU (grownBy.gU (grownBy.fP _ _) _ _) _ _,.inr ⟨bT.o,rfl⟩⟩
theorem Yi (b g n:Nat)(f:Nat→FuncId)(run:Nat→Rd→Option Rd)(w:World)(_hn:n≤100)(hgb:g≠b)(hg:g<w.heap.size)
 (wI:∀j,j<n→∀args (v:World),(callFunc (f j) args).run Tryz.prog v = .ok (.enter (f j) args) v)
 (hcell:∀j,j<n→w.cell? ⟨g,j,none⟩=some (.func (.func (f j)) #[.pointer (some ⟨b,0,none⟩)] #[]))
 (P:Nat→Rd→Prop) (d:Rd) (h0:P 0 d) (hr:cu w b d)
 (ui:∀j,j<n→∀d (w:World),P j d→cu w b d→(∀d',run j d=some d'→P (j+1) d')∧Calls Tryz.prog (f j) #[.pointer (some ⟨b,0,none⟩)] w (Part (run j d) b w))
 (o:Option Rd) (mD:∀d',P n d'→o=some d') (qo:∀j d',j<n→P j d'→run j d'=none→o=none) :
 Calls Tryz.prog 171 #[.slice (some ⟨g,0,none⟩) n n] w (Part o b w):=by
 have HC:=ae wI;clear wI;have HL:=ae hcell;clear hcell;have HS:=ae ui;clear ui;have HE:=ae mD;clear mD;have HB:=ae qo;clear qo;have H0:=ae h0;clear h0;have HR:=ae hr;clear hr;go_enter Tryz.func171,Tryz.ntmps171;go_wp2_with fail
 go_loopw [7] (fun i wr=>∃(j:Nat)(d:Rd),i = .int .i64 j∧j≤n∧Hid (P j d)∧Hid (cu wr b d)∧Hid (w.grownBy wr (some b)))
  (fun i _=>n - (intOf i).toNat)
 case atStart=>exact⟨0,d,rfl,by omega,H0,HR,ae (grownBy.fP _ _)⟩
 case round =>
  obtain⟨j,d,rfl,hj,HP,fH,HG⟩:=hrel;by_cases hlt:j<n
  · have hji:(j:Int)<(n:Int):=by omega
    have hce:wr.cell? ⟨g,j,none⟩=some (.func (.func (f j)) #[.pointer (some ⟨b,0,none⟩)] #[]):=by
     rw[Cf HG.o (by exact hg) (by intro h;exact hgb (dU h))];exact HL.o j hlt
    have xR:=HC.o j hlt;obtain⟨fj,hfj⟩:∃fj,f j=fj:=⟨_,rfl⟩;rw[hfj]at hce xR;have Ou:=ae hfj;clear hfj;cases hq:run j d with
    | some d' =>
      have HQ:=ae hq;clear hq;go_wp2_with fail
      have hs:=HS.o j hlt d wr HP.o fH.o;rw[Ou.o,HQ.o]at hs;have gy:=ae (hs.1 d' rfl);refine hs.2.mono ?_;rintro e w1 ⟨hg1,⟨d2,h1,rfl,h3⟩|⟨h1,_⟩⟩
      · injection h1 with h1;subst h1
        have l5:=ae (grownBy.trans' HG.o hg1);clear hg1;have HR1:=ae h3;clear h3;clear hs;go_wp2_with fail
        go_roundw
        case rel=>exact⟨j+1,d',by go_num,by omega,gy,HR1,l5⟩
        case measure=>simp[intOf];omega
      · cases h1
    | none =>
      have HQ:=ae hq;clear hq;go_wp2_with fail
      have hs:=HS.o j hlt d wr HP.o fH.o;rw[Ou.o,HQ.o]at hs;refine hs.2.mono ?_;rintro e w1 ⟨hg1,⟨d2,h1,_,_⟩|⟨_,rfl⟩⟩
      · cases h1
      · have l5:=ae (grownBy.trans' HG.o hg1);clear hg1
        clear hs;go_wp2_with fail
        go_ret;exact⟨l5.o,.inr ⟨HB.o j d hlt HP.o HQ.o,rfl⟩⟩
  · have hji:¬ (j:Int)<(n:Int):=by omega
    have hjn:j=n:=by omega
    have hen:=HE.o d (by rw[← hjn];exact HP.o);have Jm:=ae hen;clear hen hjn;go_wp2_with fail
    go_ret;exact⟨HG.o,.inl ⟨d,Jm.o,rfl,fH.o⟩⟩
def chain (run:Nat→Rd→Option Rd)(d:Rd):Nat→Option Rd
 | 0=>some d
 | j+1=>(chain run d j).bind (run j)
theorem Qb (run:Nat→Rd→Option Rd)(d:Rd)(j:Nat)(h:chain run d j=none):∀m,chain run d (j+m)=none
 | 0=>h
 | m+1=>by show(chain run d (j+m)).bind (run (j+m))=none;rw[Qb run d j h m];rfl
def yN(f:Rd→Option Rd):Prop:=∀d d',d.k≤d.s.size→f d=some d'→d'.s=d.s∧d'.k≤d.s.size
theorem ab9:yN Rd.jX:=by
 intro d d' hk h;unfold Rd.jX at h;by_cases h1:d.bV.length=d.s.size
 · rw[ah h1]at h;injection h with h;subst h;exact⟨rfl,hk⟩
 · rw[ag h1]at h
   have:=Nj d h1;by_cases h2:iH d.bV=true
   · rw[ah h2]at h;injection h with h;subst h;exact⟨rfl,this⟩
   · rw[ag h2]at h;cases h
theorem G9 (d:Rd)(hk:d.k≤d.s.size):d.k+(fo d.mark).length≤d.s.size:=by
 have h1:=congrArg List.length (L6 d);rw[av,ry]at h1;omega
theorem ab3:yN Rd.yS:=by
 intro d d' hk h;unfold Rd.yS at h;injection h with h;subst h;exact⟨rfl,G9 d hk⟩
theorem ab4:yN Rd.yT:=by
 intro d d' hk h;unfold Rd.yT at h;injection h with h;subst h;exact⟨rfl,G9 d hk⟩
theorem Nt (p:Int→Bool)(d:Rd)(hk:d.k≤d.s.size):d.k+(d.rest.takeWhile p).length≤d.s.size:=by
 have h1:=congrArg List.length (take_split p d.rest);rw[av,ry]at h1;omega
theorem ab6:yN Rd.col:=by
 intro d d' hk h;unfold Rd.col at h;by_cases h2:jy (d.rest.takeWhile aP)=true
 · rw[ah h2]at h;injection h with h;subst h;exact⟨rfl,Nt aP d hk⟩
 · rw[ag h2]at h;cases h
theorem ab8:yN Rd.row:=by
 intro d d' hk h;unfold Rd.row at h;by_cases h2:isRow (d.rest.takeWhile isNum)=true
 · rw[ah h2]at h;injection h with h;subst h;exact⟨rfl,Nt isNum d hk⟩
 · rw[ag h2]at h;cases h
theorem ab7:yN Rd.fin:=by
 intro d d' hk h;unfold Rd.fin at h;by_cases h2:d.k=d.s.size
 · rw[ah h2]at h;injection h with h;subst h;exact⟨rfl,hk⟩
 · rw[ag h2]at h;cases h
theorem Yj (b g n:Nat)(f:Nat→FuncId)(run:Nat→Rd→Option Rd)(w:World)(hn:n≤100)(hgb:g≠b)(hg:g<w.heap.size)
 (wI:∀j,j<n→∀args (v:World),(callFunc (f j) args).run Tryz.prog v = .ok (.enter (f j) args) v)
 (hcell:∀j,j<n→w.cell? ⟨g,j,none⟩=some (.func (.func (f j)) #[.pointer (some ⟨b,0,none⟩)] #[]))
 (d:Rd) (hr:cu w b d) (hs:d.s.size≤1000000) (hk:d.k≤d.s.size)
 (K7:∀j,j<n→yN (run j))
 (Le:∀j,j<n→∀d (w:World),cu w b d→d.s.size≤1000000→d.k≤d.s.size→Calls Tryz.prog (f j) #[.pointer (some ⟨b,0,none⟩)] w (Part (run j d) b w)) :
 Calls Tryz.prog 171 #[.slice (some ⟨g,0,none⟩) n n] w (Part (chain run d n) b w):=by
 refine Yi b g n f run w hn hgb hg wI hcell (fun j e=>chain run d j=some e∧e.s=d.s∧e.k≤d.s.size) d ⟨rfl,rfl,hk⟩ hr ?_ _ ?_ ?_
 · rintro j hj e v ⟨h1,h2,h3⟩ hrv
   refine⟨?_,Le j hj e v hrv (by rw[h2];exact hs) (by rw[h2];exact h3)⟩;intro e' he';obtain⟨k1,k2⟩:=K7 j hj e e' (by rw[h2];exact h3) he';refine⟨?_,by rw[k1,h2],by rw[← h2];exact k2⟩;show(chain run d j).bind (run j)=some e';rw[h1];exact he'
 · rintro e ⟨h1,_,_⟩;exact h1
 · rintro j e hj ⟨h1,_,_⟩ h2
   have h3:chain run d (j+1)=none:=by show(chain run d j).bind (run j)=none;rw[h1];exact h2
   have:=Qb run d (j+1) h3 (n - (j+1));rw[show j+1+(n - (j+1))=n from by omega]at this;exact this
theorem uZ {w1 w2:World}{r B:Nat}(hb:Below B w w1)(h:w1.grownBy w2 (some r))(hB:B≤w1.heap.size)(hr:B≤r):Below B w w2 :=
 hb.grown h hB (fun k hk=>by cases hk;exact hr)
theorem sI(fn:Fn)(first cap:Array Value)(w:World):(Instr.makeFunc fn first cap).run Tryz.prog w = .ok (.func fn first cap) w:=rfl
def C8(s:ByteArray)(w:World):World:=w.alloc (.cells #[.string s,.int .i64 0,.string ⟨#[]⟩,.int .i64 0,.int .i64 0,.bool false,.bool false] 182)
def mv(f:FuncId)(b:Nat):Value := .func (.func f) #[.pointer (some ⟨b,0,none⟩)] #[]
def zQ(s:ByteArray)(l:Array Value)(w:World):World:=(C8 s w).alloc (.cells l 23)
theorem Nq(s:ByteArray)(w:World):(C8 s w).heap.size=w.heap.size+1:=by unfold C8;simp
theorem Vq(s:ByteArray)(l:Array Value)(w:World):(zQ s l w).heap.size=w.heap.size+1+1:=by unfold zQ;rw[← Nq s w];simp
theorem afb (s:ByteArray)(l:Array Value)(w:World):cu (zQ s l w) w.heap.size (Rd.start s):=by
 have h:cu (C8 s w) w.heap.size (Rd.start s):=(kW w _).1;exact h.below ((ak _ _).alloc (aj _) _) h.lt
theorem YH(s:ByteArray)(l:Array Value)(w:World):Below w.heap.size w (zQ s l w):=((ak _ _).alloc (aj _) _).alloc (by have:=Nq s w;unfold C8 at this;omega) _
theorem Y7 (s:ByteArray)(l:Array Value)(w:World)(L:List Value)(hl:l.toList=L)(j:Nat)(u:Value)(hj:L[j]? = some u):(zQ s l w).cell? ⟨w.heap.size+1,j,none⟩=some u:=by
 have h:=ic (w:=C8 s w) l 23 L hl j u hj;rw[Addr.add_mid,Nat.zero_add,Nq]at h;exact h
theorem Yk (n:Nat)(f:Nat→FuncId)(run:Nat→Rd→Option Rd)(s:ByteArray)(w:World)(l:Array Value)(L:List Value)(hl:l.toList=L)(hn:n≤100)(hs:s.size≤1000000)
 (wI:∀j,j<n→∀args (v:World),(callFunc (f j) args).run Tryz.prog v = .ok (.enter (f j) args) v)
 (hL:∀j,j<n→L[j]? = some (mv (f j) w.heap.size))
 (K7:∀j,j<n→yN (run j))
 (Le:∀j,j<n→∀b d (w:World),cu w b d→d.s.size≤1000000→d.k≤d.s.size→Calls Tryz.prog (f j) #[.pointer (some ⟨b,0,none⟩)] w (Part (run j d) b w)) :
 Calls Tryz.prog 171 #[.slice (some ⟨w.heap.size+1,0,none⟩) n n] (zQ s l w) fun e w'=>Below w.heap.size w w'∧((∃d',chain run (Rd.start s) n=some d'∧e = .returned (.bool true)∧cu w' w.heap.size d')∨(chain run (Rd.start s) n=none∧e = .returned (.bool false))):=by
 refine(Yj w.heap.size (w.heap.size+1) n f run (zQ s l w) hn (by omega) (by rw[Vq];omega) wI (fun j hj=>Y7 s l w L hl j _ (hL j hj)) (Rd.start s) (afb s l w) hs (eP _) K7 (fun j hj d v=>Le j hj w.heap.size d v)).mono ?_;rintro e w' ⟨h1,h2⟩;exact⟨uZ (YH s l w) h1 (by rw[Vq];omega) (aj _),h2⟩
theorem ZC:∀args (v:World),(callFunc 174 args).run Tryz.prog v = .ok (.enter 174 args) v:=Go.Proofs.enters_of Tryz.func174 (by kernel_rfl) rfl
theorem ZE:∀args (v:World),(callFunc 177 args).run Tryz.prog v = .ok (.enter 177 args) v:=Go.Proofs.enters_of Tryz.func177 (by kernel_rfl) rfl
theorem ZH:∀args (v:World),(callFunc 172 args).run Tryz.prog v = .ok (.enter 172 args) v:=Go.Proofs.enters_of Tryz.func172 (by kernel_rfl) rfl
theorem ZA:∀args (v:World),(callFunc 173 args).run Tryz.prog v = .ok (.enter 173 args) v:=Go.Proofs.enters_of Tryz.func173 (by kernel_rfl) rfl
theorem ZB:∀args (v:World),(callFunc 175 args).run Tryz.prog v = .ok (.enter 175 args) v:=Go.Proofs.enters_of Tryz.func175 (by kernel_rfl) rfl
theorem ZG:∀args (v:World),(callFunc 176 args).run Tryz.prog v = .ok (.enter 176 args) v:=Go.Proofs.enters_of Tryz.func176 (by kernel_rfl) rfl
def afy:Nat→Rd→Option Rd
 | 0=>Rd.jX
 | 1=>Rd.yS
 | 2=>Rd.col
 | 3=>Rd.yT
 | 4=>Rd.row
 | _=>Rd.fin
def aff:Nat→FuncId
 | 0=>172
 | 1=>173
 | 2=>174
 | 3=>175
 | 4=>176
 | _=>177
theorem afG (s:ByteArray)(w:World)(hs:s.size≤1000000) :
 Calls Tryz.prog 171 #[.slice (some ⟨w.heap.size+1,0,none⟩) 6 6] (zQ s #[mv 172 w.heap.size,mv 173 w.heap.size,mv 174 w.heap.size,mv 175 w.heap.size,mv 176 w.heap.size,mv 177 w.heap.size] w) fun e w'=>Below w.heap.size w w'∧((∃d',iw s=some d'∧e = .returned (.bool true)∧cu w' w.heap.size d')∨(iw s=none∧e = .returned (.bool false))):=by
 refine Yk 6 aff afy s w _ _ rfl (by omega) hs ?_ ?_ ?_ ?_
 · intro j hj
   match j,hj with
   | 0,_=>exact ZH
   | 1,_=>exact ZA
   | 2,_=>exact ZC
   | 3,_=>exact ZB
   | 4,_=>exact ZG
   | 5,_=>exact ZE
 · intro j hj
   match j,hj with
   | 0,_=>rfl
   | 1,_=>rfl
   | 2,_=>rfl
   | 3,_=>rfl
   | 4,_=>rfl
   | 5,_=>rfl
 · intro j hj
   match j,hj with
   | 0,_=>exact ab9
   | 1,_=>exact ab3
   | 2,_=>exact ab6
   | 3,_=>exact ab4
   | 4,_=>exact ab8
   | 5,_=>exact ab7
 · intro j hj b d v h1 h2 h3
   match j,hj with
   | 0,_=>exact agW b d v h1 h2
   | 1,_=>exact Ye b d v h1 h2 h3
   | 2,_=>exact Zj b d v h1 h2 h3
   | 3,_=>exact Yf b d v h1 h2 h3
   | 4,_=>exact af4 b d v h1 h2 h3
   | 5,_=>exact Z5 b d v h1 h2 h3
theorem PO {w1:World}{a0 a1 a2 a3 a4:Value}(h:Below w.heap.size w w1):Below w.heap.size w (((((w1.setCell ⟨w.heap.size,0,none⟩ a0).setCell ⟨w.heap.size,1,none⟩ a1).setCell ⟨w.heap.size,2,none⟩ a2).setCell ⟨w.heap.size,3,none⟩ a3).setCell ⟨w.heap.size,4,none⟩ a4) :=
 ((((h.setCell (aj _) _).setCell (aj _) _).setCell (aj _) _).setCell (aj _) _).setCell (aj _) _
theorem UA (s:ByteArray)(w:World)(_hs:s.size≤1000000) :
 Calls Tryz.prog 159 #[.string s] w fun e w'=>nT (sb s) e∧Below w.heap.size w w':=by
 have sI:=sI;have aT:=afG s (w.alloc (.cells #[.string ⟨#[]⟩,.int .i64 0,.int .i64 0,.bool false,.bool false] 43)) _hs;have hsz:(w.alloc (.cells #[.string ⟨#[]⟩,.int .i64 0,.int .i64 0,.bool false,.bool false] 43)).heap.size=w.heap.size+1:=by simp
 have hr0:=df.new w ⟨#[]⟩ 0 0 false false;have hb0:Below w.heap.size w (w.alloc (.cells #[.string ⟨#[]⟩,.int .i64 0,.int .i64 0,.bool false,.bool false] 43)):=(ak _ _).alloc (aj _) _;rw[hsz]at aT;have kY:=ae aT;clear aT;have HR:=ae hr0;clear hr0;have HB0:=ae hb0;clear hb0;have o5:=ae hsz;clear hsz;go_enter Tryz.func159,Tryz.ntmps159;go_wp2_with fail
 refine kY.o.mono ?_;rintro e w1 ⟨hb,⟨d',h1,rfl,h3⟩|⟨h1,rfl⟩⟩
 · have hr1:=HR.o.below hb (by omega)
   obtain⟨x0,x1,x2,x3,x4⟩:=hr1.facts;have f0:=frozen_of_row w1 w.heap.size 0 _ _ hr1;have f1:=frozen_of_row w1 w.heap.size 1 _ _ hr1;have f2:=frozen_of_row w1 w.heap.size 2 _ _ hr1;have f3:=frozen_of_row w1 w.heap.size 3 _ _ hr1;have f4:=frozen_of_row w1 w.heap.size 4 _ _ hr1;have hB:=HB0.o.trans (hb.mono (by omega));obtain⟨c0,c1,c2,c3,c4,c5,c6⟩:=h3.facts;clear c0 c1;have H1:=ae h1;clear h1;have H3:=ae h3;clear h3;have HB:=ae hB;clear hB hb;have HR1:=ae hr1;clear hr1;go_wp2_with fail
   obtain⟨r1,r2,r3⟩:=yn s d' H1.o
   (try simp only[Exit.inBlock,Exit.then])
   refine bodyPost_ret (v := .tuple #[.agg #[.string d'.sh,.int .i64 d'.c,.int .i64 d'.r,.bool d'.ac,.bool d'.ar],.bool true]) ?_ rfl ⟨.inl ⟨d'.sh,d'.c,d'.r,d'.ac,d'.ar,r1,r2,r3,rfl⟩, ?_⟩
   · rw[results_cell_tmp rfl]
     go_simp
   · exact PO HB.o
 · have hr1:=HR.o.below hb (by omega)
   obtain⟨x0,x1,x2,x3,x4⟩:=hr1.facts;have f0:=frozen_of_row w1 w.heap.size 0 _ _ hr1;have f1:=frozen_of_row w1 w.heap.size 1 _ _ hr1;have f2:=frozen_of_row w1 w.heap.size 2 _ _ hr1;have f3:=frozen_of_row w1 w.heap.size 3 _ _ hr1;have f4:=frozen_of_row w1 w.heap.size 4 _ _ hr1;have hB:=HB0.o.trans (hb.mono (by omega));have H1:=ae h1;clear h1;have HB:=ae hB;clear hB hb;have HR1:=ae hr1;clear hr1;go_wp2_with fail
   have r1:=CL s H1.o
   (try simp only[Exit.inBlock,Exit.then])
   refine bodyPost_ret (v := .tuple #[.agg #[.string ⟨#[]⟩,.int .i64 0,.int .i64 0,.bool false,.bool false],.bool false]) ?_ rfl ⟨.inr ⟨r1,rfl⟩, ?_⟩
   · rw[results_cell_tmp rfl]
     go_simp
   · exact PO HB.o
theorem UN:Tryz.f139.results=#[.cell 2 71,.tmp 3]:=by kernel_rfl
theorem MZ:Tryz.f141.results=#[.cell 2 71,.tmp 3]:=by kernel_rfl
theorem grownBy.PN{w':World}(h:Below w.heap.size w w'):w.grownBy w' (some b):=grownBy.below' (grownBy.fP _ _) h
theorem Cy(w:World)(b:Nat):w.grownBy (w.alloc (.cells ku 71)) (some b):=grownBy.PN ((ak _ _).alloc (aj _) _)
theorem bW.tok(h:bW w b s k):bW (w.alloc (.cells ku 71)) b s k:=h.below ((ak _ _).alloc (aj _) _) h.lt
theorem agq:sb ⟨#[35,82,69,70,33]⟩=[35,82,69,70,33]:=by decide
theorem Zu (b:Nat)(s:ByteArray)(k:Nat)(w:World)(h:bW w b s k)(_hs:s.size≤1000000)(_hk:k<s.size) :
 Calls Tryz.prog 139 #[.pointer (some ⟨b,0,none⟩)] w (o7 (qh (aD s k)) b s k w):=by
 have hlt:=h.lt;have hw0:w.heap.size≠b:=by omega
 have hT:=VL b s ⟨#[35,82,69,70,33]⟩ k _ h.tok _hs (by omega) (by decide);rw[agq]at hT;have bu:=ae (Cy w b);have aR:=ae (aG.zero w)
 have hN:qh (aD s k)=if kQ [35,82,69,70,33] (aD s k)=true then some ({ ai.zero with kind:=6 },5)else none:=by
  unfold qh kQ;simp
 cases hq:kQ [35,82,69,70,33] (aD s k)
 · rw [hq]at hN hT
   have HN:=ae hN;clear hN;have HT:=ae hT;clear hT h;go_enter Tryz.func139,Tryz.ntmps139
   go_wp2_with (first
    | (go_at_call 156;((with_reducible refine HT.o.mono ?_);rintro e w1 ⟨h1,rfl,h2⟩;have H1:=ae h1;have H2:=ae h2;clear h1 h2;have HT2:=ae (aR.o.grown H1.o hw0);obtain⟨x0,x1,x2,x3,x4,x5,x6,x7,ay⟩:=HT2.o.cells;obtain⟨f0,f1,f2,f3,f4,f5,f6,f7,f8⟩:=HT2.o.bS)))
   exact bodyPost_ret (pI (HT2.o.iI { ai.zero with kind:=6 }) _ _ false 2 3 UN rfl rfl) rfl ⟨grownBy.kU (grownBy.trans' bu.o H1.o) (aj _) _ _ _ _ _ _ _ _ _,.inr ⟨HN.o,{ ai.zero with kind:=6 },rfl⟩⟩
 · rw [hq]at hN hT
   have HN:=ae hN;clear hN;have HT:=ae hT;clear hT h;go_enter Tryz.func139,Tryz.ntmps139
   go_wp2_with (first
    | (go_at_call 156;((with_reducible refine HT.o.mono ?_);rintro e w1 ⟨h1,rfl,h2⟩;have H1:=ae h1;have H2:=ae h2;clear h1 h2;have HT2:=ae (aR.o.grown H1.o hw0);obtain⟨x0,x1,x2,x3,x4,x5,x6,x7,ay⟩:=HT2.o.cells;obtain⟨f0,f1,f2,f3,f4,f5,f6,f7,f8⟩:=HT2.o.bS)))
   exact bodyPost_ret (pI (HT2.o.iI { ai.zero with kind:=6 }) _ _ true 2 3 UN rfl rfl) rfl ⟨grownBy.kU (grownBy.trans' bu.o H1.o) (aj _) _ _ _ _ _ _ _ _ _,.inl ⟨_,_,HN.o,rfl,H2.o.kU hw0 _ _ _ _ _ _ _ _ _⟩⟩
theorem Iw {d:Rd}(h:iw s=some d){e:Ending}(he:nT (sb s) e):e = .returned (.tuple #[.agg #[.string d.sh,.int .i64 d.c,.int .i64 d.r,.bool d.ac,.bool d.ar],.bool true]):=by
 obtain⟨_,h2,h3⟩:=yn s d h;refine nT.text h2 ?_;rw[h3,mX];exact he
theorem Iu (h:iw s=none){e:Ending}(he:nT (sb s) e):e = .returned (.tuple #[.agg #[.string ⟨#[]⟩,.int .i64 0,.int .i64 0,.bool false,.bool false],.bool false]):=by
 rcases he with ⟨_,_,_,_,_,_,h2,h3,_⟩|⟨_,rfl⟩
 · exact absurd h3 (CL s h _ _ _ _ _ h2)
 · rfl
theorem adX {l:List Int}{x:Int}(h0:l.head? = some x)(hx:nZ x=true):yg l=jI l:=by
 cases l with
 | nil=>simp at h0
 | cons y m =>
   simp at h0;subst h0;unfold yg jI;rw[Bool.eq_iff_iff];simp only[dH,aK,List.getD_cons_zero];constructor
   · rintro ⟨h1,h2⟩
     refine⟨h1,⟨by simp,h2⟩, ?_⟩;have:=h1 y (by simp);rw[Bool.or_eq_true]at this;rcases this with h|h
     · exact h
     · exfalso
       unfold nZ isLet at hx;unfold isNum at h;simp only[Bool.or_eq_true,aK]at hx h;omega
   · rintro⟨h1,⟨_,h2⟩,_⟩
     exact⟨h1,h2⟩
end Go.Proofs.YtaobhjliflomaaaGreatDoor
