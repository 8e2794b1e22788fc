/-
 Texts of layers, put together.
-/
import Derived.Test.YtdnooocmlhcpkaaGreatDoorMO1
import Derived.RangeFuncNested
import Derived.RangeFuncBound
import Derived.RangeFuncCalls
import Derived.RangeFuncLeaves
import Derived.Shelf.Abstract
import Derived.WalkKit
import Derived.OwnWalkIn
import Derived.TacticsInMore
import Derived.LoopNIn
import Derived.LoopIn
import Derived.Maps.OwnIn
import Derived.Shelf.Strings.Builder1
import Derived.Shelf.Strings.Builder2
import Derived.Shelf.Small.Strs
import Derived.Shelf.Strings.BuilderF
import Derived.Shelf.Strings.BuilderK
import Derived.Shelf.Utf8.RuneCount
import Derived.Shelf.Strconv.Atoi
import Derived.Shelf.Strconv.Itoa0
import Derived.Shelf.Strconv.Itoa1
import Derived.Shelf.LaysM
import Derived.Shelf.Strconv.Itoa2
import Derived.Shelf.Strconv.Itoa3
import Derived.Shelf.Strconv.AtoiErrFast
import Derived.Shelf.Strconv.ParseIntEmpty
import Derived.Shelf.Strconv.AtoiFail
import Derived.Shelf.Strconv.Clone
import Derived.Shelf.Strconv.SyntaxError
import Derived.Shelf.LaysC
import Derived.Shelf.Strconv.ToError
import Derived.Shelf.Strconv.Lower
import Derived.Shelf.Strconv.ParseUint10
import Derived.Shelf.Strconv.ParseUint10Empty
import Derived.Shelf.Strconv.ParseUint10Any
import Derived.Shelf.Strconv.ParseInt10
import Derived.Shelf.Strconv.AtoiLong
import Derived.Shelf.Strconv.AtoiInnerAll
import Derived.Shelf.Strconv.RangeError
import Derived.Shelf.Strconv.ToErrorRange
import Derived.Shelf.Strconv.AtoiAll
import Derived.Shelf.Strconv.ErrVarAll
import Derived.Shelf.Strings.Search1
import Derived.Shelf.Strings.Search2
import Derived.Shelf.Strings.Search3
import Derived.Shelf.Strings.Count
import Derived.Shelf.Strings.Shaped
import Derived.Shelf.Strings.Prefix
import Derived.Shelf.Strings.Split
import Derived.Shelf.Strings.Replace
import Derived.Shelf.Strings.SplitShaped
import Derived.Shelf.Unicode.Decode
import Derived.Shelf.Strings.RuneCount
import Derived.Shelf.Unicode.DecodeSlow
import Derived.Shelf.Unicode.DecodeAny
import Derived.Ground.Names2Prog
import Derived.Shelf.Slices.Clone
import Derived.Ground.SlgnProg
import Derived.Shelf.SlicesE.Clone
import Derived.Test.YtdnooocmlhcpkaaGreatDoorProg
import Derived.Laws.ResultCell
namespace Go.Proofs.YtdnooocmlhcpkaaGreatDoor
open Go.RowKit
structure Sw where
 s:Sf
 ra:Option Addr
 rc:Nat
 ca:Option Addr
 cc:Nat
 z:s.sh.size≤maxLen
def Sw.rv (x:Sw):Value := .slice x.ra x.s.rx.length x.rc
def Sw.cv (x:Sw):Value := .slice x.ca x.s.cx.length x.cc
def shfA (x:Sw):Array Value:=#[.string x.s.sh,x.rv,.int .i64 x.s.rn,x.cv,.int .i64 x.s.cn,.bool x.s.gone]
theorem Sw.one (x:Sw):∀ u∈(shfA x).toList,u.oneCell'=true:=by
 intro v hv
 simp only [shfA,List.mem_cons,List.not_mem_nil,or_false] at hv
 rcases hv with rfl | rfl | rfl | rfl | rfl | rfl <;> rfl
def encSw:Enc Sw 6:={ f:=fun x=>(shfA x).toList,len:=fun _=>rfl,one:=fun x u hu=>Sw.one x u hu }
structure SwR (w:World) (B:Nat) (x:Sw):Prop where
 rows:IR w B x.ra x.s.rx.length x.rc x.s.rx
 cols:IR w B x.ca x.s.cx.length x.cc x.s.cx
theorem SwR.below {w w':World} {B C:Nat} {x:Sw} (h:SwR w B x) (hb:Below C w w') (hC:B≤C):SwR w' B x:=⟨SE.below h.rows hb hC,SE.below h.cols hb hC⟩
theorem SwR.mono {w:World} {B C:Nat} {x:Sw} (h:SwR w B x) (hC:B≤C):SwR w C x:=⟨SE.mono h.rows hC,SE.mono h.cols hC⟩
theorem SwR.lift {w w':World} {x:Sw} (h:SwR w w.heap.size x) (hb:Below w.heap.size w w'):SwR w' w'.heap.size x:=(h.below hb (Nat.le_refl _)).mono hb.size
def SfR (w:World) (B:Nat) (v:Value) (xs:List Sw):Prop:=SE encSw w B v xs∧∀ x∈xs,SwR w B x
theorem SfR.below {w w':World} {B C:Nat} {v:Value} {xs:List Sw} (h:SfR w B v xs) (hb:Below C w w') (hC:B≤C):SfR w' B v xs:=⟨h.1.below hb hC,fun x hx=>(h.2 x hx).below hb hC⟩
theorem SfR.mono {w:World} {B C:Nat} {v:Value} {xs:List Sw} (h:SfR w B v xs) (hC:B≤C):SfR w C v xs:=⟨h.1.mono hC,fun x hx=>(h.2 x hx).mono hC⟩
theorem SfR.lift {w w':World} {v:Value} {xs:List Sw} (h:SfR w w.heap.size v xs) (hb:Below w.heap.size w w'):SfR w' w'.heap.size v xs:=(h.below hb (Nat.le_refl _)).mono hb.size
def sfs (xs:List Sw):List Sf:=xs.map Sw.s
def lookS (xs:List Sw) (k:ByteArray):Option Sw:=xs.find? fun x=>decide (x.s.sh=k)
theorem lookS_find (xs:List Sw) (k:ByteArray):findS (sfs xs) k=(lookS xs k).map Sw.s:=by
 unfold findS sfs lookS;rw [List.find?_map];rfl
theorem lookS_mem {xs:List Sw} {k:ByteArray} {x:Sw} (h:lookS xs k=some x):x∈xs:=List.mem_of_find?_eq_some h
def mapS (xs:List Sw) (k:ByteArray):Option Value:=(lookS xs k).map fun x => .agg (shfA x)
theorem mapS_cons (x:Sw) (xs:List Sw):mapS (x :: xs)=putK (mapS xs) x.s.sh (.agg (shfA x)):=by
 funext k
 unfold mapS lookS putK
 rw [List.find?_cons]
 by_cases c:k=x.s.sh
 · rw [if_pos c,decide_eq_true (show x.s.sh=k from c.symm)];rfl
 · rw [if_neg c,decide_eq_false (show ¬ x.s.sh=k from fun e=>c e.symm)]
def cam {α : Type} (xs:List α) (q:Nat):List (Nat × α):=((xs.zipIdx).drop q).reverse.map fun e=>(e.2,e.1)
theorem cam_all {α : Type} (xs:List α):cam xs xs.length=[]:=by
 unfold cam;rw [List.drop_of_length_le (by rw [List.length_zipIdx];exact Nat.le_refl _)];rfl
theorem cam_step {α : Type} (xs:List α) (m:Nat) (p : α) (hp:xs[m]? = some p):cam xs m=cam xs (m+1)++[(m,p)]:=by
 have hl:=(List.getElem?_eq_some_iff.1 hp).1
 have hz:(xs.zipIdx)[m]? = some (p,m):=by rw [List.getElem?_zipIdx,hp];simp
 have hzl:=(List.getElem?_eq_some_iff.1 hz).1
 unfold cam
 rw [List.drop_eq_getElem_cons hzl,List.reverse_cons,List.map_append]
 have:(xs.zipIdx)[m]=(p,m):=by rw [List.getElem?_eq_getElem hzl] at hz;exact Option.some.inj hz
 rw [this];rfl
theorem cam_len {α : Type} (xs:List α) (q:Nat):(cam xs q).length=xs.length - q:=by unfold cam;simp
theorem cam_rev {α : Type} (xs:List α):((cam xs 0).map (·.2)).reverse=xs:=by
 unfold cam
 rw [List.drop_zero,List.map_map, ← List.map_reverse,List.reverse_reverse]
 show xs.zipIdx.map (fun e=>e.1)=xs
 exact List.zipIdx_map_fst ..
end Go.Proofs.YtdnooocmlhcpkaaGreatDoor
namespace Go.Proofs.YtdnooocmlhcpkaaGreatDoor
open Go.RowKit Go.Shelf
attribute [local go_sem] Oper.semAt_some
def Twos (x y:Nat) (w w':World):Prop:=w'.heap[x]? = w.heap[x]? ∧ w'.heap[y]? = w.heap[y]?
theorem Twos.refl (x y:Nat) (w:World):Twos x y w w:=⟨rfl,rfl⟩
theorem Twos.trans {x y:Nat} {a b c:World} (h:Twos x y a b) (k:Twos x y b c):Twos x y a c:=⟨k.1.trans h.1,k.2.trans h.2⟩
theorem Twos.cell1 {x y:Nat} {w w':World} (h:Twos x y w w') (j:Nat):w'.cell? ⟨x,j,none⟩=w.cell? ⟨x,j,none⟩:=World.cell?_of_block (a:=⟨x,j,none⟩) h.1
theorem Twos.cell2 {x y:Nat} {w w':World} (h:Twos x y w w') (j:Nat):w'.cell? ⟨y,j,none⟩=w.cell? ⟨y,j,none⟩:=World.cell?_of_block (a:=⟨y,j,none⟩) h.2
theorem twosK_b {w:World} {x y:Nat} (hx:x<w.heap.size) (hy:y<w.heap.size) (W:World) (l:Nat) (o o':Obj) (hl:w.heap.size≤l) (h:W.heap[l]? = some o) (_:o.isCells=false) (_:o.isWalk=false):Twos x y W (W.putObj l o'):=by
 have hlt:=(Array.getElem?_eq_some_iff.1 h).1
 have hg:=grownBy_putObj' W l o'
 exact ⟨hg.block x (by omega) (fun e=>by have:=Option.some.inj e;omega),hg.block y (by omega) (fun e=>by have:=Option.some.inj e;omega)⟩
end Go.Proofs.YtdnooocmlhcpkaaGreatDoor
namespace Go.Proofs.YtdnooocmlhcpkaaGreatDoor
open Go.RowKit Go.Shelf
attribute [local go_sem] Oper.semAt_some
def At6 (W:World) (A:Option Addr) (b po:Nat) (xs:List Sw):Prop:=∀ (m:Nat) (x:Sw),xs[m]? = some x→A=some ⟨b,po,none⟩∧∀ (j:Nat) (u:Value),(shfA x).toList[j]? = some u→W.cell? ⟨b,po+(m*6+j),none⟩=some u
set_option maxRecDepth 100000 in
set_option maxHeartbeats 4000000 in
theorem backS1_in (F:Fence) (n:Nat) (h7:F.fn 116) (hro:F.round=none) (hn:1≤n) (l Bs b po cap:Nat) (A:Option Addr) (xs:List Sw) (hlen:xs.length≤1000000) (J Jx:List (Nat × Sw)→World→Prop)
 (hY:∀ pre x W,J pre W→pre.length<xs.length→YieldAt F (n - 1) Tryz.prog l #[.int .i64 (x.1:Int),.agg (shfA x.2)] W fun e W' =>
   (e = .returned (.bool true)∧J (pre++[x]) W'∧Twos Bs b W W')∨(e = .returned (.bool false)∧Jx (pre++[x]) W'))
 (W:World) (hBs:W.cell? ⟨Bs,0,none⟩=some (.slice A xs.length cap)) (hc:At6 W A b po xs) (h0:J [] W) :
 CallsIn F n Tryz.prog 116 #[.func (.yield l) #[] #[],.pointer (some ⟨Bs,0,none⟩)] W fun e W'=>(∃ v,e = .returned v) ∧
  ((∃ ys,ys=cam xs 0∧J ys W')∨(∃ pre,True∧Jx pre W')):=by
 obtain ⟨L,hL⟩:∃ L,xs.length=L:=⟨_,rfl⟩
 have HL:=Lib.hid hL
 rw [hL] at hlen hBs
 refine callsIn_of_wp Tryz.func116 rfl h7 ?_ hro
 simp only [Tryz.ntmps116,List.size_toArray,List.length_cons,List.length_nil,Nat.reduceAdd,Nat.reduceSub,Array.replicate_succ,Array.replicate_zero,List.push_toArray,List.append_toArray,List.nil_append,List.cons_append]
 gi_wp2
 gi_loopw [3] (fun i wr=>∃ q:Nat,q≤L∧i = .int .i64 ((q:Int) - 1)∧J (cam xs q) wr∧Twos Bs b W wr)
  (fun i _=>(intOf i+1).toNat)
 case atStart=>exact ⟨L,Nat.le_refl _,rfl,by rw [← hL,cam_all];exact h0,Twos.refl _ _ _⟩
 case round =>
  obtain ⟨q,hq,rfl,hJs,hnx⟩:=hrel
  have hBs':=(hnx.cell1 0).trans hBs
  cases q with
  | zero =>
    gi_wp2
    go_end0
    exact ⟨⟨_,rfl⟩,.inl ⟨_,rfl,hJs⟩⟩
  | succ m =>
    obtain ⟨p,hp⟩:∃ p,xs[m]? = some p:=⟨_,List.getElem?_eq_getElem (by omega)⟩
    obtain ⟨hA,c0⟩:=hc m p hp
    have d0:wr.cell? ⟨b,po+m*6,none⟩=some (.string p.s.sh):=(hnx.cell2 (po+m*6)).trans (c0 0 _ rfl)
    have d1:wr.cell? ⟨b,po+m*6+1,none⟩=some p.rv:=(hnx.cell2 (po+m*6+1)).trans (c0 1 _ rfl)
    have d2:wr.cell? ⟨b,po+m*6+2,none⟩=some (.int .i64 p.s.rn):=(hnx.cell2 (po+m*6+2)).trans (c0 2 _ rfl)
    have d3:wr.cell? ⟨b,po+m*6+3,none⟩=some p.cv:=(hnx.cell2 (po+m*6+3)).trans (c0 3 _ rfl)
    have d4:wr.cell? ⟨b,po+m*6+4,none⟩=some (.int .i64 p.s.cn):=(hnx.cell2 (po+m*6+4)).trans (c0 4 _ rfl)
    have d5:wr.cell? ⟨b,po+m*6+5,none⟩=some (.bool p.s.gone):=(hnx.cell2 (po+m*6+5)).trans (c0 5 _ rfl)
    have hst:=cam_step xs m p hp
    obtain ⟨fn,tmps,assign,body,hy,hR⟩:=hY _ (m,p) wr hJs (by rw [cam_len];omega)
    rw [← hst] at hR
    dsimp only [shfA] at hy
    have hm1:((m+1:Nat):Int) - 1=(m:Int):=by omega
    rw [hm1]
    have hmL:(m:Int)<(L:Int):=by omega
    have hm0:(0:Int)≤(m:Int):=by omega
    clear hm1 c0 hc hJs hst
    subst hA
    gi_wp2
    refine hR.mono ?_
    rintro e W3 (⟨rfl,hJ3,hk3⟩ | ⟨rfl,hJx3⟩)
    · gi_wp2
      go_roundw
      case rel=>exact ⟨m,by omega,by simp,hJ3,hnx.trans hk3⟩
      case measure=>simp [intOf]
    · gi_wp2
      refine bodyPost_ret (results_none rfl _ _ _) rfl ?_
      exact ⟨⟨_,rfl⟩,.inr ⟨_,trivial,hJx3⟩⟩
theorem backwardS_in (F:Fence) (n:Nat) (h5:F.fn 79) (hro:F.round=none) (a:Option Addr) (len cap:Nat) (w:World) :
 CallsIn F n Tryz.prog 79 #[.slice a len cap] w fun e w'=>e = .returned (.func (.func 116) #[] #[.pointer (some ⟨w.heap.size,0,none⟩)])∧w.alloc (.cells #[.slice a len cap] 42)=w':=by
 refine callsIn_of_wp Tryz.func79 rfl h5 ?_ hro
 simp only [Tryz.ntmps79,List.size_toArray,List.length_cons,List.length_nil,Nat.reduceAdd,Nat.reduceSub,Array.replicate_succ,Array.replicate_zero,List.push_toArray,List.append_toArray,List.nil_append,List.cons_append]
 gi_wp2
 go_ret
 exact ⟨rfl,rfl⟩
theorem backS_stops (F:Fence) (n:Nat) (h7:F.fn 116) (hro:F.round=none) (hn:1≤n) (Bs b po cap:Nat) (A:Option Addr) (xs:List Sw) (hlen:xs.length≤1000000) (w:World) (hB:Bs<w.heap.size) (hb:b<w.heap.size)
 (hBs:w.cell? ⟨Bs,0,none⟩=some (.slice A xs.length cap)) (hc:At6 w A b po xs) :
 SeqStopsK F n Tryz.prog 116 #[.pointer (some ⟨Bs,0,none⟩)] (fun x:Nat × Sw=>#[Value.int .i64 (x.1:Int),.agg (shfA x.2)]) (Twos Bs b) (fun ys=>ys=cam xs 0) (fun _=>True) xs.length w:=fun l J Jx W hW _ _ hY h0 =>
 backS1_in F n h7 hro hn l Bs b po cap A xs hlen J Jx hY W ((hW.cell hB).trans hBs) (fun m x hx=>⟨(hc m x hx).1,fun j u hu=>(hW.cell (p:=⟨b,_,none⟩) hb).trans ((hc m x hx).2 j u hu)⟩) h0
end Go.Proofs.YtdnooocmlhcpkaaGreatDoor
namespace Go.Proofs.YtdnooocmlhcpkaaGreatDoor
open Go.RowKit Go.Shelf
attribute [local go_sem] Oper.semAt_some
theorem wpListIn_mapPut {F:Fence} {nF:Nat} {P:Program} {w:World} {ops:Array Oper} {rest:List Oper} {o:Oper} {a:Act} {Q:Exit→Act→World→Prop} (hg:o.guard=none) (m x v:Operand) (t:TypeId) (hop:o.op=Op.mapUpdate t m x v)
 (k e:TypeId) (ht:P.underlying t=some (.map k e)) (hk:P.underlying k=some .string) (b:Nat) (f:ByteArray→Option Value) (hm:a.eval m = .map (some b)) (hown:MpK w b f) (key:ByteArray) (val:Value) (hx:a.eval x = .string key) (hv:a.eval v=val) (hks:key.size≤maxLen)
 (hK:∀ w',MpK w' b (putK f key val)→w'.heap.size=w.heap.size→w.grownBy w' (some b)→wpListIn F nF P ops Q rest (a.put o.dst undef) w'):wpListIn F nF P ops Q (o :: rest) a w:=by
 refine wpListIn_plain hg fun K' hK' => ?_
 obtain ⟨w',hrun,r1,r2,r3⟩:=hown.put ht hk key hks val
 unfold Oper.wpIn
 refine ⟨by simp [Oper.about,hop], ?_⟩
 rw [Oper.semAt_plain F _ _ (by rw [hop];intro c hc';cases hc')]
 simp [execOp,hop,hm,hx,hv,hrun,Result.andThen]
 exact hK' _ _ (hK w' r1 r2 r3)
theorem keeps_alloc (B:Nat) (W:World) (o:Obj):KeepsFrom B W (W.alloc o):=⟨by simp,fun k o' _ hk _=>(Below.heap_alloc _ _ _ (Array.getElem?_eq_some_iff.1 hk).1).trans hk⟩
theorem twos_alloc (x y:Nat) (W:World) (o:Obj) (hx:x<W.heap.size) (hy:y<W.heap.size):Twos x y W (W.alloc o):=⟨Below.heap_alloc _ _ _ hx,Below.heap_alloc _ _ _ hy⟩
def SfAt (w:World) (b:Nat) (x:Sw):Prop:=w.heap[b]? = some (.cells (shfA x) 63)
theorem SfAt.new (w:World) (x:Sw):SfAt (w.alloc (.cells (shfA x) 63)) w.heap.size x:=(Go.MapKept.heap_alloc w _).1
theorem SfAt.lt {w:World} {b:Nat} {x:Sw} (h:SfAt w b x):b<w.heap.size:=(Array.getElem?_eq_some_iff.1 h).1
theorem SfAt.keep {w w':World} {b:Nat} {x:Sw} (h:SfAt w b x) (hk:w'.heap[b]? = w.heap[b]?):SfAt w' b x:=by unfold SfAt;rw [hk];exact h
theorem SfAt.cells {w:World} {b:Nat} {x:Sw} (h:SfAt w b x):w.cell? ⟨b,0,none⟩=some (.string x.s.sh)∧w.cell? ⟨b,1,none⟩=some x.rv∧w.cell? ⟨b,2,none⟩=some (.int .i64 x.s.rn)∧w.cell? ⟨b,3,none⟩=some x.cv∧w.cell? ⟨b,4,none⟩=some (.int .i64 x.s.cn)∧w.cell? ⟨b,5,none⟩=some (.bool x.s.gone) :=
 ⟨cell_of_row w b 0 _ _ _ h,cell_of_row w b 1 _ _ _ h,cell_of_row w b 2 _ _ _ h,cell_of_row w b 3 _ _ _ h,cell_of_row w b 4 _ _ _ h,cell_of_row w b 5 _ _ _ h⟩
def MvI (w:World) (own:ByteArray) (z mb zm zs:Nat) (sv:Value) (pre:List (Nat × Sw)) (W:World):Prop :=
 MpK W mb (mapS (pre.map (·.2)).reverse)∧W.heap[z]? = some (.cells #[.string ⟨#[]⟩,.map none] 92)∧W.heap[zm]? = some (.cells #[.string own,.map (some mb)] 92)∧Boxed W zs 42 sv∧Below w.heap.size w W
theorem mvI_own {w:World} {own:ByteArray} {z mb zm zs:Nat} {sv:Value} {B:Nat} (h1:z<B) (h2:mb<B) (h3:zm<B) (h4:zs<B) (h5:w.heap.size≤B):OwnFrom B (MvI w own z mb zm zs sv):=by
 rintro pre X Y row ⟨k1,k2,k3,k4,k5⟩ hg hr
 have hk:∀ k,k<B→k<X.heap.size→Y.heap[k]? = X.heap[k]? := fun k hk hx=>hg.block k hx fun e=>by have:=(hr k e.symm).1;omega
 have hz:=(Array.getElem?_eq_some_iff.1 k2).1
 have hzm:=(Array.getElem?_eq_some_iff.1 k3).1
 refine ⟨k1.keep (hk mb h2 k1.lt),(hk z h1 hz).trans k2,(hk zm h3 hzm).trans k3,(hk zs h4 k4.lt).trans k4,⟨hg.os.trans k5.os,hg.tape.trans k5.tape,hg.output.trans k5.output,Nat.le_trans k5.size hg.size,fun k hkw=>(hk k (by omega) (Nat.lt_of_lt_of_le hkw k5.size)).trans (k5.block k hkw)⟩⟩
theorem mover_size:(Tryz.prog.info? 92).map (·.size)=some 2:=by kernel_rfl
theorem res_mover:Tryz.f54.results=#[.cell 4 92]:=by kernel_rfl
set_option maxRecDepth 100000 in
set_option maxHeartbeats 8000000 in
theorem moverOf_any (w:World) (own:ByteArray) (A:Option Addr) (n cap:Nat) (xs:List Sw) (h:SfR w w.heap.size (.slice A n cap) xs) (hn:n≤1000000) :
 Calls Tryz.prog 54 #[.string own,.slice A n cap] w fun e w'=>∃ mb,e = .returned (.agg #[.string own,.map (some mb)])∧w.heap.size≤mb∧MpK w' mb (mapS xs)∧Below w.heap.size w w':=by
 have hl:=h.1.len.1
 subst hl
 have HX:=Lib.hid h
 have hmm:=@run_makeMap Tryz.prog
 clear h
 refine (callsIn_wide (n:=6)).1 ?_
 refine callsIn_of_wp_marks Tryz.func54 rfl trivial ?_ rfl
 simp only [Tryz.ntmps54,List.size_toArray,List.length_cons,List.length_nil,Nat.reduceAdd,Nat.reduceSub,Array.replicate_succ,Array.replicate_zero,List.push_toArray,List.append_toArray,List.nil_append,List.cons_append]
 gi_wp2_with (refine ⟨trivial, ?_⟩;gi_at_call 79;refine (backwardS_in Fence.wide _ trivial rfl _ _ _ _).mono ?_;rintro e w' ⟨rfl,rfl⟩)
 obtain ⟨z,hz⟩:∃ z,w.heap.size=z:=⟨_,rfl⟩
 obtain ⟨w6,hw6⟩:∃ w6,((((w.alloc (Obj.cells #[Value.string { data:=#[] },Value.map none] 92)).alloc (Obj.map #[] 0)).alloc (Obj.cells #[Value.string own,Value.map (some (w.heap.size+1))] 92)).alloc (Obj.cells #[Value.slice A xs.length cap] 42))=w6:=⟨_,rfl⟩
 have hB6:Below w.heap.size w w6:=by rw [← hw6];exact ((((Below.refl _ w).alloc (Nat.le_refl _) _).alloc (by simp) _).alloc (by simp;omega) _).alloc (by simp;omega) _
 have hs6:w6.heap.size=w.heap.size+4:=by rw [← hw6];simp
 have h60:w6.heap[w.heap.size]? = some (.cells #[.string ⟨#[]⟩,.map none] 92):=by
  rw [← hw6];exact ((Below.heap_alloc _ _ _ (by simp;omega)).trans ((Below.heap_alloc _ _ _ (by simp;omega)).trans (Below.heap_alloc _ _ _ (by simp)))).trans (Go.MapKept.heap_alloc w _).1
 have h61:MpK w6 (w.heap.size+1) (fun _=>none):=by
  have h:=MpK.made (w.alloc (Obj.cells #[Value.string { data:=#[] },Value.map none] 92))
  rw [World.size_alloc] at h
  refine h.keep ?_
  rw [← hw6];exact (Below.heap_alloc _ _ _ (by simp)).trans (Below.heap_alloc _ _ _ (by simp))
 have h62:w6.heap[w.heap.size+2]? = some (.cells #[.string own,.map (some (w.heap.size+1))] 92):=by
  rw [← hw6]
  refine (Below.heap_alloc _ _ _ (by simp)).trans ?_
  have h:=(Go.MapKept.heap_alloc ((w.alloc (Obj.cells #[Value.string { data:=#[] },Value.map none] 92)).alloc (Obj.map #[] 0)) (Obj.cells #[Value.string own,Value.map (some (w.heap.size+1))] 92)).1
  simpa using h
 have h63:Boxed w6 (w.heap.size+3) 42 (.slice A xs.length cap):=by
  rw [← hw6]
  have h:=Boxed.new ((((w.alloc (Obj.cells #[Value.string { data:=#[] },Value.map none] 92)).alloc (Obj.map #[] 0)).alloc (Obj.cells #[Value.string own,Value.map (some (w.heap.size+1))] 92))) 42 (.slice A xs.length cap)
  simpa using h
 obtain ⟨pb,po,hpb,hpz,hcl⟩:∃ pb po,pb<w6.heap.size∧(pb<z∨pb=z+3)∧At6 w6 A pb po xs:=by
  by_cases h0:xs=[]
  · exact ⟨z+3,0,by omega,.inr rfl,fun m x hx=>by rw [h0] at hx;cases hx⟩
  · obtain ⟨x0,hx0⟩:∃ x0,xs[0]? = some x0:=⟨_,List.getElem?_eq_getElem (List.length_pos_iff.2 h0)⟩
    obtain ⟨pb,po,hA,hp,_⟩:=SE.at HX.out.1 hx0
    refine ⟨pb,po,by omega,.inl (by omega),fun m x hx=>⟨hA,fun j u hu => ?_⟩⟩
    obtain ⟨pb',po',hA',hp',hc⟩:=SE.at HX.out.1 hx
    rw [hA] at hA';injection hA' with e;injection e with e1 e2
    subst e1;subst e2
    exact (hB6.cell (p:=⟨pb,_,none⟩) hp').trans (hc j u hu)
 rw [hw6]
 rw [hz] at hs6 h60 h61 h62 h63 ⊢
 have HB6:=Lib.hid hB6
 have hlt6:∀ {pre:List (Nat × Sw)} {W:World},MvI w own z (z+1) (z+2) (z+3) (.slice A xs.length cap) pre W→w6.heap.size≤W.heap.size:=fun h=>by have:=h.2.2.2.1.lt;omega
 clear hw6 hB6 hmm
 rw [show z+1+1=z+2 from rfl,show z+2+1=z+3 from rfl]
 refine wpIn_rangeFunc_ownH (F:=Fence.wide) (n:=6) rfl (by omega) (gf:=116) (lb:=#[.pointer (some ⟨z+3,0,none⟩)]) rfl trivial (enters_of Tryz.func116 (by kernel_rfl) rfl)
  (backS_stops Fence.wide 5 trivial rfl (by omega) (z+3) pb po cap A xs hn w6 h63.lt hpb h63.cell hcl)
  Twos.trans (twosK_b h63.lt hpb) (Below.refl _ _) (fun _=>rfl)
  (MvI w own z (z+1) (z+2) (z+3) (.slice A xs.length cap)) (fun _ _ _=>False)
  (mvI_own (by omega) (by omega) (by omega) (by omega) (by omega)) (fun _ _ _ _ _ hs _ _=>hs) ⟨h61,h60,h62,h63,HB6.out⟩
  (fun y a' W=>∃ p,w6.heap.size≤p∧SfAt W p y.2∧a'={ tmps:=#[.string own,.slice A xs.length cap,undef,undef,.pointer (some ⟨z,0,none⟩),.pointer (some ⟨z+2,0,none⟩),undef,.pointer (some ⟨p,0,none⟩),.string own,.map (some (z+1)),.agg #[.string own,.map (some (z+1))],.slice A xs.length cap,.func (.func 116) #[] #[.pointer (some ⟨z+3,0,none⟩)],.int .i64 (y.1:Int),.agg (shfA y.2),undef,undef,undef,undef,undef,undef],defers:=[] })
  ?stay ?assign ?body ?done ?stop
 case stay =>
  rintro x a' s W W' row ⟨p,h1,h2,h3⟩ hg hr
  refine ⟨p,h1,h2.keep (hg.block p h2.lt fun e => ?_),h3⟩
  obtain ⟨_,o,ho,hc⟩:=hr p e.symm
  have h2':W.heap[p]? = some (.cells (shfA x.2) 63):=h2
  rw [h2'] at ho;cases ho;cases hc
 case assign =>
  rintro l pre ⟨j,x⟩ W K hI hK
  have hkW:=hI.2.2.2.2.size
  have hk6:w6.heap.size≤W.heap.size:=hlt6 hI
  have hx3:z+3<W.heap.size:=by omega
  have hsh : .agg (shfA x)=(Value.agg #[.string x.s.sh,.slice x.ra x.s.rx.length x.rc,.int .i64 x.s.rn,.slice x.ca x.s.cx.length x.cc,.int .i64 x.s.cn,.bool x.s.gone]):=rfl
  dsimp only
  rw [hsh]
  gi_wp2
  refine hK _ _ (keeps_alloc _ _ _) (twos_alloc _ _ _ _ hx3 (by omega)) ?_ ⟨W.heap.size,hk6,SfAt.new W x,rfl⟩
  exact mvI_own (B:=W.heap.size) (by omega) (by omega) (by omega) (by omega) hkW pre W _ none hI ⟨rfl,rfl,rfl,by simp,fun k hk _=>Below.heap_alloc _ _ _ hk⟩ (fun r e=>by cases e)
 case body =>
  rintro l pre ⟨j,x⟩ a' W - - ⟨hM,h0,h2,h3,hb⟩ ⟨p,hp6,hat,rfl⟩ hlen
  obtain ⟨y0,y1,y2,y3,y4,y5⟩:=hat.cells
  have m1:W.cell? ⟨z+2,1,none⟩=some (.map (some (z+1))):=cell_of_row W (z+2) 1 _ _ _ h2
  have HM:=Lib.hid hM
  have hks:x.s.sh.size≤maxLen:=x.z
  dsimp only [Sw.rv,Sw.cv] at y1 y3
  dsimp only
  gi_wp2_with (refine wpListIn_mapPut rfl (.tmp 16) (.tmp 18) (.tmp 19) 90 rfl 9 63 Tryz.underlying90 Tryz.underlying9 (z+1) _ rfl HM.out x.s.sh (.agg (shfA x)) rfl rfl hks ?_;intro W2 k1 k2 k3)
  have hmb:z+1<W.heap.size:=by have:=hlt6 ⟨hM,h0,h2,h3,hb⟩;omega
  have hpbm:pb≠z+1:=by omega
  have hkk:∀ k,k<W.heap.size→k≠z+1→W2.heap[k]? = W.heap[k]? := fun k h1 h2=>k3.block k h1 (fun e=>h2 (Option.some.inj e))
  have hpbW:pb<W.heap.size:=by have:=hlt6 ⟨hM,h0,h2,h3,hb⟩;omega
  refine ⟨⟨by omega,fun k o h1 h2 _=>(hkk k (Array.getElem?_eq_some_iff.1 h2).1 (by omega)).trans h2⟩,⟨hkk _ h3.lt (by omega),hkk _ hpbW hpbm⟩, ?_,(hkk _ (by omega) (by omega)).trans h0,(hkk _ (Array.getElem?_eq_some_iff.1 h2).1 (by omega)).trans h2,(hkk _ h3.lt (by omega)).trans h3,
   ⟨k3.os.trans hb.os,k3.tape.trans hb.tape,k3.output.trans hb.output,Nat.le_trans hb.size (by omega),fun k hk=>(hkk k (Nat.lt_of_lt_of_le hk hb.size) (by omega)).trans (hb.block k hk)⟩⟩
  rw [List.map_append,List.reverse_append]
  show MpK W2 (z+1) (mapS (x :: (List.map (fun x=>x.snd) pre).reverse))
  rw [mapS_cons];exact k1
 case done =>
  rintro D ys W hD rfl ⟨hM,h0,h2,h3,hb⟩ hK
  rw [cam_rev] at hM
  have m0:W.cell? ⟨z+2,0,none⟩=some (.string own):=cell_of_row W (z+2) 0 _ _ _ h2
  have m1:W.cell? ⟨z+2,1,none⟩=some (.map (some (z+1))):=cell_of_row W (z+2) 1 _ _ _ h2
  have g0:W.cell? ⟨z,0,none⟩=some (.string ⟨#[]⟩):=cell_of_row W z 0 _ _ _ h0
  have g1:W.cell? ⟨z,1,none⟩=some (.map none):=cell_of_row W z 1 _ _ _ h0
  have f0:=frozen_of_row W z 0 _ _ h0
  have f1:=frozen_of_row W z 1 _ _ h0
  gi_wp2
  obtain ⟨Wf,hWf⟩:∃ Wf,(W.setCell { block:=z,off:=0 } (Value.string own)).setCell { block:=z,off:=1 } (Value.map (some (z+1)))=Wf:=⟨_,rfl⟩
  rw [hWf]
  have hkf:∀ k,k≠z→Wf.heap[k]? = W.heap[k]? := fun k hk=>by rw [← hWf];exact (Below.heap_setCell _ _ _ _ hk).trans (Below.heap_setCell _ _ _ _ hk)
  have hzf:Wf.heap[z]? = some (.cells #[.string own,.map (some (z+1))] 92):=by
   rw [← hWf,heap_setCell_same _ z 1 _ _ _ (heap_setCell_same W z 0 _ _ _ h0)];rfl
  have hbf:Below w.heap.size w Wf:=by rw [← hWf];exact (hb.setCell (by show w.heap.size≤z;omega) _).setCell (by show w.heap.size≤z;omega) _
  have hKf:Wf.heap[D]? = some (.deferred (some [])):=(hkf D (by omega)).trans hK
  refine ⟨by simp,.inl ⟨_,_,rfl,run_takeDeferred hKf, ?_⟩⟩
  have hg:=grownBy_putObj' Wf D (.deferred none)
  have hpd:∀ k,k<Wf.heap.size→k≠D→(Wf.putObj D (.deferred none)).heap[k]? = Wf.heap[k]? := fun k h1 h2=>hg.block k h1 (fun e=>h2 (Option.some.inj e))
  have hzl:=(Array.getElem?_eq_some_iff.1 hzf).1
  have hmf:=(hM.keep (hkf (z+1) (by omega)))
  refine ⟨_,results_cell_row res_mover _ _ z _ _ _ _ rfl ((hpd z hzl (by omega)).trans hzf) Tryz.underlying92 rfl mover_size,z+1,rfl,by omega,hmf.keep (hpd (z+1) hmf.lt (by omega)),⟨hg.os.trans hbf.os,hg.tape.trans hbf.tape,hg.output.trans hbf.output,Nat.le_trans hbf.size hg.size,fun k hk=>(hpd k (Nat.lt_of_lt_of_le hk hbf.size) (by omega)).trans (hbf.block k hk)⟩⟩
 case stop =>
  rintro D c pre W _ _ h _
  exact h.elim
end Go.Proofs.YtdnooocmlhcpkaaGreatDoor
namespace Go.Proofs.YtdnooocmlhcpkaaGreatDoor
open Go.RowKit
theorem tail_len {s:ByteArray} {ts:List Tk} (h:signIs s ts=true):ts.tail.length+1=ts.length:=by
 cases ts with
 | nil=>unfold signIs at h;cases h
 | cons t l=>rfl
theorem opK_tail {n:Nat} {ts:List Tk} (h:opK n ts≠0):ts.tail.length+1=ts.length:=by
 obtain ⟨p,_,h1,_⟩:=opK_pos h;exact tail_len h1
theorem count_all : ∀ f:Nat,(∀ n deep base ts ns a r,exprP f n deep base ts=some (.ok (ns,a,r))→ns.length+r.length≤ts.length) ∧
 (∀ n deep base ns a ts ns' a' r,rowP f n deep base ns a ts=some (.ok (ns',a',r))→ns'.length+r.length≤ns.length+ts.length) ∧
 (∀ deep base ts ns a r,primP f deep base ts=some (.ok (ns,a,r))→ns.length+r.length≤ts.length) ∧
 (∀ deep base ns ks ts ns' ks' r,argsP f deep base ns ks ts=some (.ok (ns',ks',r))→ns'.length+r.length≤ns.length+ts.length)
 | 0=>by
   refine ⟨?_, ?_, ?_, ?_⟩
   · intro n deep base ts ns a r h;unfold exprP at h;cases h
   · intro n deep base ns a ts ns' a' r h;unfold rowP at h;cases h
   · intro deep base ts ns a r h;unfold primP at h;cases h
   · intro deep base ns ks ts ns' ks' r h;unfold argsP at h;cases h
 | f + 1 => by
   obtain ⟨i1,i2,i3,i4⟩:=count_all f
   refine ⟨?_, ?_, ?_, ?_⟩
   · intro n deep base ts ns a r h
     rw [exprP_succ] at h
     by_cases hn:n≤3
     · rw [if_pos hn] at h
       rcases bindR_some h with ⟨e,_,h2⟩ | ⟨ms,b,s,h1,h2⟩
       · cases h2
       · have:=i1 _ _ _ _ _ _ _ h1
         have:=i2 _ _ _ _ _ _ _ _ _ h2
         omega
     · rw [if_neg hn] at h
       by_cases c:signIs ⟨#[45]⟩ ts=true
       · rw [if_pos c] at h
         have htl:=tail_len c
         by_cases d:12≤deep
         · rw [if_pos d] at h;injection h with h;cases h
         · rw [if_neg d] at h
           rcases bindR_some h with ⟨e,_,h2⟩ | ⟨ms,b,s,h1,h2⟩
           · cases h2
           · have:=i1 _ _ _ _ _ _ _ h1
             injection h2 with h2;injection h2 with h2;injection h2 with h3 h4;injection h4 with h4 h5
             subst h3;subst h5
             rw [List.length_append,List.length_singleton];omega
       · rw [if_neg c] at h;exact i3 _ _ _ _ _ _ h
   · intro n deep base ns a ts ns' a' r h
     rw [rowP_succ] at h
     by_cases c:opK n ts=0
     · rw [if_pos c] at h
       injection h with h;injection h with h;injection h with h3 h4;injection h4 with h4 h5
       subst h3;subst h5;exact Nat.le_refl _
     · rw [if_neg c] at h
       have htl:=opK_tail c
       rcases bindR_some h with ⟨e,_,h2⟩ | ⟨ms,b,s,h1,h2⟩
       · cases h2
       · have:=i1 _ _ _ _ _ _ _ h1
         have:=i2 _ _ _ _ _ _ _ _ _ h2
         rw [List.length_append,List.length_append,List.length_singleton] at this
         omega
   · intro deep base ts ns a r h
     cases ts with
     | nil=>rw [primP_nil] at h;injection h with h;cases h
     | cons t ts =>
       rw [primP_cons] at h
       by_cases c:signIs ⟨#[40]⟩ (t :: ts)=true
       · rw [if_pos c] at h
         by_cases d:12≤deep
         · rw [if_pos d] at h;injection h with h;cases h
         · rw [if_neg d] at h
           rcases bindR_some h with ⟨e,_,h2⟩ | ⟨ms,b,s,h1,h2⟩
           · cases h2
           · have:=i1 _ _ _ _ _ _ _ h1
             by_cases g:signIs ⟨#[41]⟩ s=true
             · rw [if_pos g] at h2
               injection h2 with h2;injection h2 with h2;injection h2 with h3 h4;injection h4 with h4 h5
               subst h3;subst h5
               have:=tail_len g
               rw [List.length_cons];omega
             · rw [if_neg g] at h2;injection h2 with h2;cases h2
       · rw [if_neg c] at h
         by_cases k1:t.kind=1
         · rw [if_pos k1] at h;injection h with h;injection h with h;injection h with h3 h4;injection h4 with h4 h5;subst h3;subst h5;simp only [List.length_cons,List.length_nil];omega
         rw [if_neg k1] at h
         by_cases k2:t.kind=2
         · rw [if_pos k2] at h;injection h with h;injection h with h;injection h with h3 h4;injection h4 with h4 h5;subst h3;subst h5;simp only [List.length_cons,List.length_nil];omega
         rw [if_neg k2] at h
         by_cases k6:t.kind=6
         · rw [if_pos k6] at h;injection h with h;injection h with h;injection h with h3 h4;injection h4 with h4 h5;subst h3;subst h5;simp only [List.length_cons,List.length_nil];omega
         rw [if_neg k6] at h
         by_cases k4:t.kind=4
         · rw [if_pos k4] at h;injection h with h
           obtain ⟨s1,s2,_⟩:=refP_ok h
           have:=s1.len
           rw [List.length_cons,s2];omega
         rw [if_neg k4] at h
         by_cases k3:t.kind=3
         · rw [if_pos k3] at h
           by_cases w1:t.text=⟨#[84,82,85,69]⟩
           · rw [if_pos w1] at h;injection h with h;injection h with h;injection h with h3 h4;injection h4 with h4 h5;subst h3;subst h5;simp only [List.length_cons,List.length_nil];omega
           rw [if_neg w1] at h
           by_cases w2:t.text=⟨#[70,65,76,83,69]⟩
           · rw [if_pos w2] at h;injection h with h;injection h with h;injection h with h3 h4;injection h4 with h4 h5;subst h3;subst h5;simp only [List.length_cons,List.length_nil];omega
           rw [if_neg w2] at h
           by_cases w3:signIs ⟨#[40]⟩ ts=true
           · rw [if_pos w3] at h
             have htl:=tail_len w3
             by_cases d:12≤deep
             · rw [if_pos d] at h;injection h with h;cases h
             rw [if_neg d] at h
             rcases bindR_some h with ⟨e,_,h2⟩ | ⟨ms,ks,s,h1,h2⟩
             · cases h2
             · have hms:ms.length+s.length≤ts.tail.length:=by
                by_cases g:signIs ⟨#[41]⟩ ts.tail=true
                · rw [if_pos g] at h1
                  injection h1 with h1;injection h1 with h1;injection h1 with h3 h4;injection h4 with h4 h5
                  subst h3;subst h5;simp
                · rw [if_neg g] at h1
                  have:=i4 _ _ _ _ _ _ _ _ h1
                  simpa using this
               by_cases g:signIs ⟨#[41]⟩ s=true
               · rw [if_pos g] at h2
                 injection h2 with h2;injection h2 with h2;injection h2 with h3 h4;injection h4 with h4 h5
                 subst h3;subst h5
                 have:=tail_len g
                 rw [List.length_append,List.length_singleton,List.length_cons];omega
               · rw [if_neg g] at h2;injection h2 with h2;cases h2
           · rw [if_neg w3] at h;injection h with h;cases h
         · rw [if_neg k3] at h;injection h with h;cases h
   · intro deep base ns ks ts ns' ks' r h
     rw [argsP_succ] at h
     rcases bindR_some h with ⟨e,_,h2⟩ | ⟨ms,b,s,h1,h2⟩
     · cases h2
     · have h3:=i1 _ _ _ _ _ _ _ h1
       by_cases d:signIs ⟨#[44]⟩ s=true
       · rw [if_pos d] at h2
         have:=tail_len d
         have:=i4 _ _ _ _ _ _ _ _ h2
         rw [List.length_append] at this;omega
       · rw [if_neg d] at h2
         injection h2 with h2;injection h2 with h2;injection h2 with h3 h4;injection h4 with h4 h5
         subst h3;subst h5;rw [List.length_append];omega
theorem quoF_good:∀ (n:Nat) (l t:List Int) (k:Nat),l.length≤n→Bytes l→quoF l=some (t,k)→Bytes t∧∀ x∈t,¬ x<32
 | _,[],_,_,_,_,h=>by simp [quoF] at h
 | 0,_ :: _,_,_,hn,_,_=>by simp at hn
 | n + 1, x :: l,t,k,hn,hb,h=>by
   have hbl:Bytes l:=fun y hy=>hb y (by simp [hy])
   rw [quoF_cons] at h
   by_cases h1:x<32
   · rw [if_pos h1] at h;cases h
   · rw [if_neg h1] at h
     by_cases h2:x≠34
     · rw [if_pos h2] at h
       cases hq:quoF l with
       | none=>rw [hq] at h;cases h
       | some q =>
         rw [hq] at h
         simp only [Option.map_some,Option.some.injEq,Prod.mk.injEq] at h
         obtain ⟨g1,g2⟩:=quoF_good n l q.1 q.2 (by simp at hn;omega) hbl hq
         rw [← h.1]
         refine ⟨?_, ?_⟩
         · intro y hy
           rcases List.mem_cons.1 hy with rfl | hy
           · exact hb _ (by simp)
           · exact g1 y hy
         · intro y hy
           rcases List.mem_cons.1 hy with rfl | hy
           · exact h1
           · exact g2 y hy
     · rw [if_neg h2] at h
       cases l with
       | nil=>simp at h;rw [h.1];exact ⟨Bytes.nil,by simp⟩
       | cons y m =>
         by_cases hy:y=34
         · simp only [hy,if_true] at h
           cases hq:quoF m with
           | none=>rw [hq] at h;cases h
           | some q =>
             rw [hq] at h
             simp only [Option.map_some,Option.some.injEq,Prod.mk.injEq] at h
             obtain ⟨g1,g2⟩:=quoF_good n m q.1 q.2 (by simp at hn;omega) (fun z hz=>hbl z (by simp [hz])) hq
             rw [← h.1]
             refine ⟨?_, ?_⟩
             · intro z hz
               rcases List.mem_cons.1 hz with rfl | hz
               · omega
               · exact g1 z hz
             · intro z hz
               rcases List.mem_cons.1 hz with rfl | hz
               · omega
               · exact g2 z hz
         · simp only [hy,if_false,Option.some.injEq,Prod.mk.injEq] at h
           rw [← h.1];exact ⟨Bytes.nil,by simp⟩
theorem Bytes.span {l:List Int} (h:Bytes l) (p:Int→Bool):Bytes (l.takeWhile p):=fun x hx=>h x ((List.takeWhile_prefix p).subset hx)
theorem tokT_good (l:List Int) (t:Tk) (n p:Nat) (hb:Bytes l) (h:tokT l=some (t,n)):GoodT (t.goto p)∧t.kind≠0:=by
 cases l with
 | nil=>simp [tokT] at h
 | cons x l =>
   rw [tokT_cons] at h
   by_cases h1:isNum x=true
   · rw [if_pos h1] at h
     unfold numT at h
     split at h
     · cases h
     · simp only [Option.some.injEq,Prod.mk.injEq] at h
       rw [← h.1]
       have hv:=valL_ge ((x :: l).takeWhile isNum) [] (take_all isNum _) (by decide)
       rw [List.nil_append] at hv
       exact ⟨⟨fun _=>hv,fun h=>by simp [Tk.goto] at h,fun h=>by simp [Tk.goto] at h,fun h=>by simp [Tk.goto] at h⟩,by simp⟩
   · rw [if_neg h1] at h
     by_cases h2:x=34
     · rw [if_pos h2] at h
       unfold quoT at h
       cases hq:quoF l with
       | none=>rw [hq] at h;cases h
       | some q =>
         rw [hq] at h
         simp only [Option.map_some,Option.some.injEq,Prod.mk.injEq] at h
         obtain ⟨g1,g2⟩:=quoF_good _ l q.1 q.2 (Nat.le_refl _) (fun y hy=>hb y (by simp [hy])) hq
         rw [← h.1]
         refine ⟨⟨fun h=>by simp [Tk.goto] at h,fun _ => ?_,fun h=>by simp [Tk.goto] at h,fun h=>by simp [Tk.goto] at h⟩,by simp⟩
         show printB (sb (strOfNums q.1))=true
         rw [sb_str _ g1];unfold printB;exact decide_eq_true g2
     · rw [if_neg h2] at h
       by_cases h3:x=35
       · rw [if_pos h3] at h
         unfold deadT at h
         split at h
         · simp only [Option.some.injEq,Prod.mk.injEq] at h
           rw [← h.1]
           exact ⟨⟨fun h=>by simp [Tk.goto] at h,fun h=>by simp [Tk.goto] at h,fun h=>by simp [Tk.goto] at h,fun h=>by simp [Tk.goto] at h⟩,by simp⟩
         · cases h
       · rw [if_neg h3] at h
         by_cases h4:isLet x=true∨x=36
         · rw [if_pos h4] at h
           unfold wordT at h
           cases hq:readS (strOfNums ((x :: l).takeWhile isWord)) with
           | some d =>
             rw [hq] at h
             simp only [Option.some.injEq,Prod.mk.injEq] at h
             rw [← h.1]
             exact ⟨⟨fun h=>by simp [Tk.goto] at h,fun h=>by simp [Tk.goto] at h,fun h=>by simp [Tk.goto] at h,fun _=>(read_some _ d hq).2.1⟩,by simp⟩
           | none =>
             rw [hq] at h
             simp only at h
             by_cases hc:calledL ((x :: l).takeWhile isWord)=true
             · rw [if_pos hc] at h
               simp only [Option.some.injEq,Prod.mk.injEq] at h
               rw [← h.1]
               refine ⟨⟨fun h=>by simp [Tk.goto] at h,fun h=>by simp [Tk.goto] at h,fun _=>⟨?_, ?_⟩,fun h=>by simp [Tk.goto] at h⟩,by simp⟩
               · show calledL (sb (strOfNums ((x :: l).takeWhile isWord)))=true
                 rw [sb_str _ (hb.span isWord)];exact hc
               · show (readS (strOfNums ((x :: l).takeWhile isWord))).isNone=true
                 rw [hq];rfl
             · rw [if_neg hc] at h;cases h
         · rw [if_neg h4] at h
           unfold signT at h
           split at h
           · cases h
           · simp only [Option.some.injEq,Prod.mk.injEq] at h
             rw [← h.1]
             exact ⟨⟨fun h=>by simp [Tk.goto] at h,fun h=>by simp [Tk.goto] at h,fun h=>by simp [Tk.goto] at h,fun h=>by simp [Tk.goto] at h⟩,by simp⟩
def Fit (ts:List Tk):Prop:=∃ body e,ts=body++[e]∧e.kind=0∧∀ t∈body,t.kind≠0
theorem lexF_good:∀ (f p:Nat) (l:List Int) (ts:List Tk),Bytes l→lexF f p l=some ts→Good ts∧Fit ts
 | f,p,[],ts,_,h=>by
   have h0:lexF f p []=some [Tk.zero.goto p]:=by unfold lexF;rfl
   rw [h0] at h;injection h with h;subst h
   refine ⟨?_,[],_,rfl,rfl,by simp⟩
   intro t ht;simp at ht;subst ht
   exact ⟨fun h=>by simp [Tk.goto,Tk.zero] at h,fun h=>by simp [Tk.goto,Tk.zero] at h,fun h=>by simp [Tk.goto,Tk.zero] at h,fun h=>by simp [Tk.goto,Tk.zero] at h⟩
 | 0,_,_ :: _,_,_,h=>by unfold lexF at h;cases h
 | f + 1, p,x :: l,ts,hb,h=>by
   rw [lexF_cons] at h
   by_cases hx:x=32
   · rw [if_pos hx] at h
     exact lexF_good f (p+1) l ts (fun y hy=>hb y (by simp [hy])) h
   · rw [if_neg hx] at h
     cases hq:tokT (x :: l) with
     | none=>rw [hq] at h;cases h
     | some q =>
       obtain ⟨t0,n⟩:=q
       obtain ⟨g1,g2⟩:=tokT_good _ _ _ p hb hq
       rw [hq] at h
       simp only [Option.map_eq_some_iff] at h
       obtain ⟨us,h1,rfl⟩:=h
       obtain ⟨k1,body,e,k2,k3,k4⟩:=lexF_good f (p+n) ((x :: l).drop n) us (fun y hy=>hb y (List.mem_of_mem_drop hy)) h1
       refine ⟨?_,t0.goto p :: body,e,by rw [k2];rfl,k3, ?_⟩
       · intro t ht
         rcases List.mem_cons.1 ht with rfl | ht
         · exact g1
         · exact k1 t ht
       · intro t ht
         rcases List.mem_cons.1 ht with rfl | ht
         · exact g2
         · exact k4 t ht
theorem lexL_good (s:ByteArray) (ts:List Tk) (h:lexL (sb s)=some ts):Good ts∧Fit ts:=lexF_good _ _ _ _ (fun x hx=>sb_bd s x hx) h
theorem digL_head:∀ (n u:Nat),u<n→1≤u→(digL u).head? ≠ some 48:=by
 intro n
 induction n with
 | zero=>intro u h;omega
 | succ n ih =>
   intro u hu h1
   by_cases h:u<10
   · rw [digL_small u h];simp;omega
   · rw [digL_more u h]
     have:=ih (u / 10) (by omega) (by omega)
     cases hd:digL (u / 10) with
     | nil=>exact absurd hd (digL_ne _)
     | cons y l=>rw [hd] at this;simpa using this
theorem word_cap {x:Int} (h:isCap x=true):isWord x=true:=isWord_let (.inl (by unfold isCap at h;unfold isLet;rw [decide_eq_true_iff] at h ⊢;omega))
theorem word_num {x:Int} (h:isNum x=true):isWord x=true:=by unfold isWord;rw [h];simp
theorem word_tail (c r:Int) (ac ar:Bool):∀ x∈tailL c r ac ar,isWord x=true:=by
 intro x hx
 unfold tailL at hx
 simp only [List.mem_append] at hx
 rcases hx with h | h | h | h
 · have:=dol_all _ x h;rw [decide_eq_true_iff] at this;subst this;decide
 · exact word_cap (isCap_colL c x h)
 · have:=dol_all _ x h;rw [decide_eq_true_iff] at this;subst this;decide
 · exact word_num (isNum_digL _ x h)
theorem word_name (l:List Int) (h:nameL l=true):∀ x∈l,isWord x=true:=by
 intro x hx
 unfold nameL at h
 rw [Bool.and_eq_true,decide_eq_true_iff] at h
 obtain ⟨j,hj,rfl⟩:=List.mem_iff_getElem.1 hx
 have:=h.1 j hj
 rw [List.getD_eq_getElem?_getD,List.getElem?_eq_getElem hj] at this
 simp only [Option.getD_some] at this
 unfold inName at this
 unfold isWord
 rw [Bool.or_eq_true,Bool.and_eq_true] at this
 rcases this with h1 | ⟨_,h1⟩
 · rw [h1];rfl
 · rw [h1];simp
theorem word_textL (sh:List Int) (c r:Int) (ac ar:Bool) (h:mayL sh c r=true):∀ x∈textL sh c r ac ar,isWord x=true:=by
 intro x hx
 rw [textL_eq _ _ _ _ _ h,List.mem_append] at hx
 rcases hx with hx | hx
 · by_cases h0:sh=[]
   · rw [if_pos h0] at hx;simp at hx
   · rw [if_neg h0,List.mem_append] at hx
     rcases hx with hx | hx
     · exact word_name sh ((mayL_sheet h).resolve_left h0) x hx
     · simp at hx;subst hx;decide
 · exact word_tail c r ac ar x hx
theorem textL_head (sh:List Int) (c r:Int) (ac ar:Bool) (h:mayL sh c r=true):∃ x l,textL sh c r ac ar=x :: l∧(isLet x=true∨x=36):=by
 rw [textL_eq _ _ _ _ _ h]
 obtain ⟨c0,c1,_,_⟩:=mayL_nums h
 by_cases h0:sh=[]
 · rw [if_pos h0,List.nil_append]
   unfold tailL
   cases ac with
   | true=>exact ⟨36,_,rfl,.inr rfl⟩
   | false =>
     have hcol:=isCap_colL c
     cases hc:colL c with
     | nil=>exact absurd hc (colL_ne c c0 c1)
     | cons y m =>
       refine ⟨y,_,rfl,.inl ?_⟩
       have:=hcol y (by rw [hc];simp)
       unfold isCap at this;unfold isLet;rw [decide_eq_true_iff] at this ⊢;omega
 · rw [if_neg h0]
   have hn:=(mayL_sheet h).resolve_left h0
   cases sh with
   | nil=>exact absurd rfl h0
   | cons y m =>
     refine ⟨y,_,rfl,.inl ?_⟩
     unfold nameL at hn
     rw [Bool.and_eq_true,decide_eq_true_iff] at hn
     have:=hn.1 0 (by simp)
     unfold inName at this
     simpa using this
theorem read_text (s:ByteArray) (c r:Int) (ac ar:Bool) (h:mayL (sb s) c r=true):∃ d,readS (strOfNums (textL (sb s) c r ac ar))=some d∧d.sh=s∧d.c=c∧d.r=r∧d.ac=ac∧d.ar=ar:=by
 have hb:=sb_str _ (bytes_textL s c r ac ar)
 cases hq:readS (strOfNums (textL (sb s) c r ac ar)) with
 | none=>exact absurd hb.symm (read_none _ hq _ _ _ _ _ h)
 | some d =>
   obtain ⟨_,h2,h3⟩:=read_some _ d hq
   rw [hb] at h3
   obtain ⟨e1,e2,e3,e4,e5⟩:=textL_inj h2 h h3
   exact ⟨d,rfl,sb_inj e1,e2,e3,e4,e5⟩
def dblL:List Int→List Int
 | []=>[]
 | x :: l=>(if x=34 then [34,34] else [x])++dblL l
set_option maxHeartbeats 400000 in
theorem isCapital_any (c:Int) (_h0:0≤c) (_h1:c≤255) (w:World) :
 Calls Tryz.prog 142 #[.int .u8 c] w fun e w'=>e = .returned (.bool (isCap c))∧w=w':=by
 go_enter Tryz.func142,Tryz.ntmps142
 go_wp2
 all_goals go_ret
 all_goals exact ⟨ret_bool (by unfold isCap;first | rfl | (symm;rw [decide_eq_true_iff];omega) | (symm;rw [decide_eq_false_iff_not];omega) | (rw [decide_eq_decide];omega)),rfl⟩
set_option maxHeartbeats 400000 in
theorem isDigit_any (c:Int) (_h0:0≤c) (_h1:c≤255) (w:World) :
 Calls Tryz.prog 112 #[.int .u8 c] w fun e w'=>e = .returned (.bool (isNum c))∧w=w':=by
 go_enter Tryz.func112,Tryz.ntmps112
 go_wp2
 all_goals go_ret
 all_goals exact ⟨ret_bool (by unfold isNum;first | rfl | (symm;rw [decide_eq_true_iff];omega) | (symm;rw [decide_eq_false_iff_not];omega) | (rw [decide_eq_decide];omega)),rfl⟩
theorem isLet_cap {c:Int} (h:isCap c=true):isLet c=true:=by unfold isCap at h;unfold isLet;rw [decide_eq_true_iff] at h ⊢;omega
theorem isLet_nocap {c:Int} (h:isCap c=false):isLet c=decide (97≤c∧c≤122):=by unfold isCap at h;unfold isLet;rw [decide_eq_false_iff_not] at h;rw [decide_eq_decide];omega
set_option maxHeartbeats 400000 in
theorem isLetter_any (c:Int) (_h0:0≤c) (_h1:c≤255) (w:World) :
 Calls Tryz.prog 111 #[.int .u8 c] w fun e w'=>e = .returned (.bool (isLet c))∧w=w':=by
 by_cases hc:isCap c=true
 · have hl:=isLet_cap hc
   have HL:=Lib.hid hl;clear hl
   go_enter Tryz.func111,Tryz.ntmps111
   go_wp2_with (go_at_call 142;((with_reducible refine (isCapital_any _ ?_ ?_ _).mono ?_);(first | omega | skip);(first | omega | skip);rintro e w' ⟨rfl,rfl⟩))
   all_goals go_ret
   all_goals exact ⟨ret_bool (by rw [HL.out]),rfl⟩
 · have hc':isCap c=false:=by simpa using hc
   have hl:=isLet_nocap hc'
   have HL:=Lib.hid hl;clear hl hc
   go_enter Tryz.func111,Tryz.ntmps111
   go_wp2_with (go_at_call 142;((with_reducible refine (isCapital_any _ ?_ ?_ _).mono ?_);(first | omega | skip);(first | omega | skip);rintro e w' ⟨rfl,rfl⟩))
   all_goals go_ret
   all_goals exact ⟨ret_bool (by rw [HL.out];first | rfl | (symm;rw [decide_eq_true_iff];omega) | (symm;rw [decide_eq_false_iff_not];omega) | (rw [decide_eq_decide];omega)),rfl⟩
theorem nameL_nil (s:ByteArray) (h:s.size=0):nameL (sb s)=false:=by
 unfold nameL;rw [length_sb,h,Bool.and_eq_false_iff];right;rfl
theorem nameL_long (s:ByteArray) (h:12<s.size):nameL (sb s)=false:=by
 unfold nameL;rw [length_sb,Bool.and_eq_false_iff];right;rw [decide_eq_false_iff_not];omega
set_option maxRecDepth 100000 in
set_option maxHeartbeats 400000 in
theorem name_any (s:ByteArray) (w:World) (_hs:s.size≤1000000) :
 Calls Tryz.prog 73 #[.string s] w fun e w'=>e = .returned (.bool (nameL (sb s)))∧w=w':=by
 by_cases h0:s.size=0
 · have hz:=sb_nil s h0
   have hno:=nameL_nil s h0
   have HNO:=Lib.hid hno;clear hno
   subst hz
   clear h0 _hs
   go_enter Tryz.func73,Tryz.ntmps73
   go_wp2_with fail
   all_goals go_ret
   all_goals exact ⟨ret_bool HNO.out.symm,rfl⟩
 · have hne := text_ne0 s h0
   have hne2:s.toList.isEmpty=false:=by cases hq:s.toList with | nil=>exact absurd hq hne | cons a l=>rfl
   by_cases h12:12<s.size
   · have hno:=nameL_long s h12
     have HNO:=Lib.hid hno;clear hno
     have hi12:(12:Int)<(s.size:Int):=by omega
     clear h0
     go_enter Tryz.func73,Tryz.ntmps73
     go_wp2_with fail
     all_goals go_ret
     all_goals exact ⟨ret_bool HNO.out.symm,rfl⟩
   · have hi12 : ¬ (12:Int)<(s.size:Int):=by omega
     have hp0:0<s.size:=by omega
     obtain ⟨a,ha⟩:∃ a:Int,(s[0].toNat:Int)=a:=⟨_,rfl⟩
     have ha1:0≤a∧a≤255:=by have:=s[0].toNat_lt;omega
     have hga:(sb s).getD 0 0=a:=by rw [sb_getD s 0 hp0,ha]
     have HGA:=Lib.hid hga;clear hga
     by_cases hl:isLet a=true
     · have hin : ∀ j,j<1→inName j ((sb s).getD j 0)=true:=by
        intro j hj;have:j=0:=by omega
        subst this;rw [HGA.out];unfold inName;rw [hl];rfl
       have HIN:=Lib.hid hin;clear hin
       clear h0
       go_enter Tryz.func73,Tryz.ntmps73
       go_wp2_with (go_at_call 111;((with_reducible refine (isLetter_any _ ?_ ?_ _).mono ?_);(first | omega | skip);(first | omega | skip);rintro e w' ⟨rfl,rfl⟩))
       clear hl
       go_loopw [3] (fun i wr=>∃ k:Nat,1≤k∧k≤s.size∧i = .int .i64 k∧Hid (∀ j,j<k→inName j ((sb s).getD j 0)=true)∧w=wr)
        (fun i _=>s.size - (intOf i).toNat)
       case atStart=>exact ⟨1,by omega,by omega,rfl,HIN,rfl⟩
       case round =>
        obtain ⟨k,hk1,hk,rfl,HG,rfl⟩:=hrel
        by_cases hlt:k<s.size
        · have hki:(k:Int)<(s.size:Int):=by omega
          obtain ⟨b,hb⟩:∃ b:Int,(s[k].toNat:Int)=b:=⟨_,rfl⟩
          have hb1:0≤b∧b≤255:=by have:=s[k].toNat_lt;omega
          have hgb:(sb s).getD k 0=b:=by rw [sb_getD s k hlt,hb]
          have HGB:=Lib.hid hgb;clear hgb
          by_cases hl:isLet b=true
          · go_wp2_with (first
             | (go_at_call 111;((with_reducible refine (isLetter_any _ ?_ ?_ _).mono ?_);(first | omega | skip);(first | omega | skip);rintro e w' ⟨rfl,rfl⟩)))
            go_roundw
            case rel =>
             refine ⟨k+1,by omega,by omega,by go_num,Lib.hid ?_,by trivial⟩
             intro j hj
             by_cases h1:j<k
             · exact HG.out j h1
             · rw [show j=k from by omega,HGB.out];unfold inName;rw [hl,Bool.true_or]
            case measure=>simp [intOf];omega
          · have hl':isLet b=false:=by simpa using hl
            clear hl
            by_cases hn:isNum b=true
            · go_wp2_with (first
               | (go_at_call 111;((with_reducible refine (isLetter_any _ ?_ ?_ _).mono ?_);(first | omega | skip);(first | omega | skip);rintro e w' ⟨rfl,rfl⟩))
               | (go_at_call 112;((with_reducible refine (isDigit_any _ ?_ ?_ _).mono ?_);(first | omega | skip);(first | omega | skip);rintro e w' ⟨rfl,rfl⟩)))
              go_roundw
              case rel =>
               refine ⟨k+1,by omega,by omega,by go_num,Lib.hid ?_,by trivial⟩
               intro j hj
               by_cases h1:j<k
               · exact HG.out j h1
               · rw [show j=k from by omega,HGB.out];unfold inName;rw [hl',hn,decide_eq_true (by omega:0<k)];rfl
              case measure=>simp [intOf];omega
            · have hn':isNum b=false:=by simpa using hn
              clear hn
              have hno:=nameL_bad s k hlt (by rw [HGB.out];unfold inName;rw [hl',hn',Bool.and_false];rfl)
              have HNO:=Lib.hid hno;clear hno
              go_wp2_with (first
               | (go_at_call 111;((with_reducible refine (isLetter_any _ ?_ ?_ _).mono ?_);(first | omega | skip);(first | omega | skip);rintro e w' ⟨rfl,rfl⟩))
               | (go_at_call 112;((with_reducible refine (isDigit_any _ ?_ ?_ _).mono ?_);(first | omega | skip);(first | omega | skip);rintro e w' ⟨rfl,rfl⟩)))
              all_goals go_ret
              all_goals exact ⟨ret_bool HNO.out.symm,rfl⟩
        · have hki:¬ (k:Int)<(s.size:Int):=by omega
          have hno:=nameL_all s (fun j hj=>HG.out j (by omega))
          rw [decide_eq_true (by omega)] at hno
          have HNO:=Lib.hid hno;clear hno
          go_wp2_with fail
          all_goals go_ret
          all_goals exact ⟨ret_bool HNO.out.symm,rfl⟩
     · have hl':isLet a=false:=by simpa using hl
       have hno:=nameL_bad s 0 hp0 (by rw [HGA.out];unfold inName;rw [hl'];rfl)
       have HNO:=Lib.hid hno;clear hno hl h0
       go_enter Tryz.func73,Tryz.ntmps73
       go_wp2_with (go_at_call 111;((with_reducible refine (isLetter_any _ ?_ ?_ _).mono ?_);(first | omega | skip);(first | omega | skip);rintro e w' ⟨rfl,rfl⟩))
       all_goals go_ret
       all_goals exact ⟨ret_bool HNO.out.symm,rfl⟩
theorem enc_one:∀ m:Nat,m<26→Utf8.encode (65+(m:Int))=strOfNums [65+(m:Int)]:=by decide +kernel
theorem enc_cap (x:Int) (h0:65≤x) (h1:x≤90):Utf8.encode x=strOfNums [x]:=by
 have:=enc_one (x - 65).toNat (by omega)
 rw [show (65:Int)+((x - 65).toNat:Int)=x from by omega] at this;exact this
theorem str_app (a b:List Int) (A B:ByteArray) (h:A=strOfNums a) (k:B=strOfNums b):A++B=strOfNums (a++b):=by rw [h,k,str_append]
def RdAt (w:World) (b:Nat) (d:Rd):Prop:=w.heap[b]? = some (.cells d.cells 261)
theorem RdAt.lt {w:World} {b:Nat} {d:Rd} (h:RdAt w b d):b<w.heap.size:=(Array.getElem?_eq_some_iff.1 h).1
theorem RdAt.drewN {w:World} {b:Nat} {d:Rd} (h:RdAt w b d) (n:Nat):RdAt (w.drewN n) b d:=h
theorem RdAt.below {w w':World} {B b:Nat} {d:Rd} (h:RdAt w b d) (hb:Below B w w') (hB:b<B):RdAt w' b d:=by unfold RdAt;rw [hb.block b hB];exact h
theorem RdAt.facts {w:World} {b:Nat} {d:Rd} (h:RdAt w b d) :
 w.cell? ⟨b,0,none⟩=some (.string d.s)∧w.cell? ⟨b,1,none⟩=some (.int .i64 d.k)∧w.cell? ⟨b,2,none⟩=some (.string d.sh)∧w.cell? ⟨b,3,none⟩=some (.int .i64 d.c)∧w.cell? ⟨b,4,none⟩=some (.int .i64 d.r)∧w.cell? ⟨b,5,none⟩=some (.bool d.ac)∧w.cell? ⟨b,6,none⟩=some (.bool d.ar) :=
 ⟨by rw [cell_of_row w b 0 _ _ _ h];rfl,by rw [cell_of_row w b 1 _ _ _ h];rfl,by rw [cell_of_row w b 2 _ _ _ h];rfl,by rw [cell_of_row w b 3 _ _ _ h];rfl,by rw [cell_of_row w b 4 _ _ _ h];rfl,by rw [cell_of_row w b 5 _ _ _ h];rfl,by rw [cell_of_row w b 6 _ _ _ h];rfl⟩
theorem RdAt.frozen {w:World} {b:Nat} {d:Rd} (h:RdAt w b d) (j:Nat):w.frozen? ⟨b,j,none⟩=false:=frozen_of_row w b j _ _ h
theorem RdAt.setK {w:World} {b:Nat} {d:Rd} (h:RdAt w b d) (k:Nat):RdAt (w.setCell ⟨b,1,none⟩ (.int .i64 (k:Int))) b { d with k:=k }:=by unfold RdAt;rw [heap_setCell_same w b 1 _ _ _ h];rfl
theorem RdAt.setSh {w:World} {b:Nat} {d:Rd} (h:RdAt w b d) (s:ByteArray):RdAt (w.setCell ⟨b,2,none⟩ (.string s)) b { d with sh:=s }:=by unfold RdAt;rw [heap_setCell_same w b 2 _ _ _ h];rfl
theorem RdAt.setC {w:World} {b:Nat} {d:Rd} (h:RdAt w b d) (c:Int):RdAt (w.setCell ⟨b,3,none⟩ (.int .i64 c)) b { d with c:=c }:=by unfold RdAt;rw [heap_setCell_same w b 3 _ _ _ h];rfl
theorem RdAt.setR {w:World} {b:Nat} {d:Rd} (h:RdAt w b d) (c:Int):RdAt (w.setCell ⟨b,4,none⟩ (.int .i64 c)) b { d with r:=c }:=by unfold RdAt;rw [heap_setCell_same w b 4 _ _ _ h];rfl
theorem RdAt.setAc {w:World} {b:Nat} {d:Rd} (h:RdAt w b d) (x:Bool):RdAt (w.setCell ⟨b,5,none⟩ (.bool x)) b { d with ac:=x }:=by unfold RdAt;rw [heap_setCell_same w b 5 _ _ _ h];rfl
theorem RdAt.setAr {w:World} {b:Nat} {d:Rd} (h:RdAt w b d) (x:Bool):RdAt (w.setCell ⟨b,6,none⟩ (.bool x)) b { d with ar:=x }:=by unfold RdAt;rw [heap_setCell_same w b 6 _ _ _ h];rfl
def Part (o:Option Rd) (b:Nat) (w:World) (e:Ending) (w':World):Prop :=
 w.grownBy w' (some b)∧((∃ d',o=some d'∧e = .returned (.bool true)∧RdAt w' b d')∨(o=none∧e = .returned (.bool false)))
set_option maxHeartbeats 400000 in
theorem fin_any (b:Nat) (d:Rd) (w:World) (h:RdAt w b d) (_hs:d.s.size≤1000000) (_hk:d.k≤d.s.size) :
 Calls Tryz.prog 252 #[.pointer (some ⟨b,0,none⟩)] w (Part d.fin b w):=by
 obtain ⟨c0,c1,c2,c3,c4,c5,c6⟩:=h.facts
 clear c2 c3 c4 c5 c6
 have HR:=Lib.hid h;clear h
 by_cases hk:d.k=d.s.size
 · have hf:d.fin=some d:=by unfold Rd.fin;rw [if_pos hk]
   have HF:=Lib.hid hf;clear hf
   have hi:((d.k:Int) == (d.s.size:Int))=true:=beq_iff_eq.2 (by omega)
   go_enter Tryz.func252,Tryz.ntmps252
   go_wp2_with fail
   go_quiet (fail)
   go_wp2_with fail
   go_ret
   exact ⟨grownBy.drewN' (grownBy.refl' _ _) _,.inl ⟨d,HF.out,by simp,HR.out.drewN _⟩⟩
 · have hf:d.fin=none:=by unfold Rd.fin;rw [if_neg hk]
   have HF:=Lib.hid hf;clear hf
   have hi:((d.k:Int) == (d.s.size:Int))=false:=beq_eq_false_iff_ne.2 (by omega)
   go_enter Tryz.func252,Tryz.ntmps252
   go_wp2_with fail
   go_quiet (fail)
   go_wp2_with fail
   go_ret
   exact ⟨grownBy.drewN' (grownBy.refl' _ _) _,.inr ⟨HF.out,by simp⟩⟩
theorem rest_get (d:Rd) (h:d.k<d.s.size):d.rest.head? = some ((d.s[d.k].toNat:Nat):Int):=by
 unfold Rd.rest;rw [List.head?_drop,sb_at d.s d.k h]
theorem rest_end (d:Rd) (h:d.s.size≤d.k):d.rest=[]:=by
 unfold Rd.rest;rw [List.drop_eq_nil_iff,length_sb];exact h
set_option maxRecDepth 100000 in
set_option maxHeartbeats 400000 in
theorem mark_any (b:Nat) (d:Rd) (w:World) (h:RdAt w b d) (_hs:d.s.size≤1000000) (_hk:d.k≤d.s.size) :
 Calls Tryz.prog 260 #[.pointer (some ⟨b,0,none⟩)] w fun e w'=>e = .returned (.bool d.mark)∧RdAt w' b { d with k:=d.k+(dol d.mark).length }∧w.grownBy w' (some b):=by
 obtain ⟨c0,c1,c2,c3,c4,c5,c6⟩:=h.facts
 clear c2 c3 c4 c5 c6
 have f1:=h.frozen 1
 have HR:=Lib.hid h;clear h
 by_cases hk:d.k=d.s.size
 · have hf:d.mark=false:=by unfold Rd.mark;rw [rest_end d (by omega)];rfl
   have HF:=Lib.hid hf;clear hf
   have hi:((d.k:Int) == (d.s.size:Int))=true:=beq_iff_eq.2 (by omega)
   go_enter Tryz.func260,Tryz.ntmps260
   go_wp2_with fail
   go_quiet (fail)
   go_wp2_with fail
   go_ret
   rw [HF.out]
   exact ⟨rfl,HR.out.drewN _,grownBy.drewN' (grownBy.refl' _ _) _⟩
 · have hi:((d.k:Int) == (d.s.size:Int))=false:=beq_eq_false_iff_ne.2 (by omega)
   have hlt:d.k<d.s.size:=by omega
   have hki:(d.k:Int)<(d.s.size:Int):=by omega
   obtain ⟨a,ha⟩:∃ a:Int,(d.s[d.k].toNat:Int)=a:=⟨_,rfl⟩
   have ha1:0≤a∧a≤255:=by have:=d.s[d.k].toNat_lt;omega
   have hh:=rest_get d hlt
   rw [ha] at hh
   by_cases h36:a=36
   · have hf:d.mark=true:=by unfold Rd.mark;rw [hh,h36];rfl
     have HF:=Lib.hid hf;clear hf hh
     have hj:(a == 36)=true:=beq_iff_eq.2 h36
     have hj2:(a != 36)=false:=by rw [bne,hj];rfl
     clear h36
     go_enter Tryz.func260,Tryz.ntmps260
     go_wp2_with fail
     go_quiet (fail)
     go_wp2_with fail
     go_ret
     rw [HF.out]
     exact ⟨rfl,(HR.out.drewN _).setK (d.k+1),grownBy.setCell' (grownBy.drewN' (grownBy.refl' _ _) _) _ _⟩
   · have hf:d.mark=false:=by unfold Rd.mark;rw [hh,decide_eq_false_iff_not];intro h;injection h with h;exact h36 h
     have HF:=Lib.hid hf;clear hf hh
     have hj:(a == 36)=false:=beq_eq_false_iff_ne.2 h36
     have hj2:(a != 36)=true:=by rw [bne,hj];rfl
     clear h36
     go_enter Tryz.func260,Tryz.ntmps260
     go_wp2_with fail
     go_quiet (fail)
     go_wp2_with fail
     go_ret
     rw [HF.out]
     exact ⟨rfl,HR.out.drewN _,grownBy.drewN' (grownBy.refl' _ _) _⟩
set_option maxHeartbeats 400000 in
theorem absCol_any (b:Nat) (d:Rd) (w:World) (h:RdAt w b d) (_hs:d.s.size≤1000000) (_hk:d.k≤d.s.size) :
 Calls Tryz.prog 248 #[.pointer (some ⟨b,0,none⟩)] w (Part d.absCol b w):=by
 have HR:=Lib.hid h;clear h
 go_enter Tryz.func248,Tryz.ntmps248
 go_wp2_with (go_at_call 260;((with_reducible refine (mark_any b d _ HR.out ?_ ?_).mono ?_);(first | omega | skip);(first | omega | skip);rintro e w1 ⟨rfl,h1,h2⟩;obtain ⟨c0,c1,c2,c3,c4,c5,c6⟩:=h1.facts;have f5:=h1.frozen 5;have H1:=Lib.hid h1;clear h1;have H2:=Lib.hid h2;clear h2))
 go_ret
 exact ⟨grownBy.setCell' H2.out _ _,.inl ⟨_,rfl,rfl,H1.out.setAc _⟩⟩
set_option maxHeartbeats 400000 in
theorem absRow_any (b:Nat) (d:Rd) (w:World) (h:RdAt w b d) (_hs:d.s.size≤1000000) (_hk:d.k≤d.s.size) :
 Calls Tryz.prog 250 #[.pointer (some ⟨b,0,none⟩)] w (Part d.absRow b w):=by
 have HR:=Lib.hid h;clear h
 go_enter Tryz.func250,Tryz.ntmps250
 go_wp2_with (go_at_call 260;((with_reducible refine (mark_any b d _ HR.out ?_ ?_).mono ?_);(first | omega | skip);(first | omega | skip);rintro e w1 ⟨rfl,h1,h2⟩;obtain ⟨c0,c1,c2,c3,c4,c5,c6⟩:=h1.facts;have f6:=h1.frozen 6;have H1:=Lib.hid h1;clear h1;have H2:=Lib.hid h2;clear h2))
 go_ret
 exact ⟨grownBy.setCell' H2.out _ _,.inl ⟨_,rfl,rfl,H1.out.setAr _⟩⟩
theorem quiet_call {f:FuncId} {args:Array Value} {w:World} {n:Nat} {v:Value} (h:Calls Tryz.prog f args (w.drewN n) fun e w'=>e = .returned v∧w.drewN n=w'):Calls Tryz.prog f args (w.drewN n) fun e w''=>e = .returned v∧∃ m,w''=w.drewN m :=
 Calls.quiet_of_same (h.mono fun _ _ ⟨a,b⟩=>⟨a,b.symm⟩)
theorem RdAt.setNext {w:World} {b m p:Nat} {d:Rd} (h:RdAt w b { d with k:=d.k+m }) (hp:d.k+m=p) (n:Nat):RdAt ((w.drewN n).setCell ⟨b,1,none⟩ (.int .i64 ((p:Int)+1))) b { d with k:=d.k+(m+1) }:=by
 subst hp;exact (h.drewN n).setK (d.k+m+1)
theorem take_next (d:Rd) (m:Nat) (h:d.k+m<d.s.size):d.rest.take (m+1)=d.rest.take m++[((d.s[d.k+m].toNat:Nat):Int)]:=by
 unfold Rd.rest;rw [List.take_add_one,List.getElem?_drop,sb_at d.s _ h];rfl
theorem length_rest (d:Rd):d.rest.length=d.s.size - d.k:=by unfold Rd.rest;rw [List.length_drop,length_sb]
theorem span_stop (p:Int→Bool) (l:List Int) (m:Nat) (h:∀ x∈l.take m,p x=true) (h2:∀ x,l[m]? = some x→p x=false):l.takeWhile p=l.take m:=by
 have e:=take_part p (l.take m) (l.drop m) h (fun x hx=>h2 x (by rw [List.head?_drop] at hx;exact hx))
 rw [List.take_append_drop] at e;exact e
theorem span_over (p:Int→Bool) (l:List Int) (m:Nat) (h:∀ x∈l.take m,p x=true):l.takeWhile p=l.take m++(l.drop m).takeWhile p:=by
 have e:=take_more p (l.take m) (l.drop m) h
 rw [List.take_append_drop] at e;exact e
theorem all_snoc {p:Int→Bool} {l:List Int} {x:Int} (h:∀ y∈l,p y=true) (hx:p x=true):∀ y∈l++[x],p y=true:=by
 intro y hy;rw [List.mem_append] at hy
 rcases hy with hy | hy
 · exact h y hy
 · simp at hy;rw [hy];exact hx
def colV (l:List Int):Int:=l.foldl (fun n x=>26*n+(x - 64)) 0
theorem colV_snoc (l:List Int) (x:Int):colV (l++[x])=26*colV l+(x - 64):=by unfold colV;rw [List.foldl_append];rfl
theorem col_small (l:List Int) (h:∀ x∈l,isCap x=true) (hl:l.length≤2):colV l≤702∧(l=[]∧colV l=0∧isCol l=false∨0<colV l∧isCol l=true∧readColL l=colV l - 1):=by
 match l,hl,h with
 | [],_,_=>exact ⟨by decide,.inl ⟨rfl,rfl,rfl⟩⟩
 | [a],_,h =>
   have ha:=h a (by simp)
   have:=cap_bd ha
   have hv:colV [a]=a - 64:=by unfold colV;simp
   have hi:isCol [a]=true:=by unfold isCol;simp [ha]
   refine ⟨by omega,.inr ⟨by omega,hi, ?_⟩⟩
   unfold readColL;rw [if_pos hi,hv];simp;omega
 | [a,b],_,h =>
   have ha:=h a (by simp)
   have hb:=h b (by simp)
   have g1:=cap_bd ha
   have g2:=cap_bd hb
   have hv:colV [a,b]=26*(a - 64)+(b - 64):=by unfold colV;simp
   have hi:isCol [a,b]=true:=by unfold isCol;simp [ha,hb]
   refine ⟨by omega,.inr ⟨by omega,hi, ?_⟩⟩
   unfold readColL;rw [if_pos hi,hv];simp;omega
theorem isCol_long {l:List Int} (h:2<l.length):isCol l=false:=by unfold isCol;rw [decide_eq_false (by omega),Bool.false_and]
theorem col_end (d:Rd) (m:Nat) (v:Int) (b:Nat) (w wr:World) (hv:colV (d.rest.take m)=v) (hall:∀ x∈d.rest.take m,isCap x=true) (hm:m≤2) (hk:d.k+m≤d.s.size) (hstop:∀ x,d.rest[m]? = some x→isCap x=false) (e:Ending) (he:e = .returned (.bool (decide (0<v))))
 (hr:RdAt wr b { { d with k:=d.k+m } with c:=v - 1 }) (hg:w.grownBy wr (some b)):Part d.col b w e wr:=by
 subst he
 have hsp:=span_stop isCap d.rest m hall hstop
 have hlen:(d.rest.take m).length=m:=by rw [List.length_take,length_rest];omega
 refine ⟨hg, ?_⟩
 unfold Rd.col
 rw [hsp]
 rcases (col_small (d.rest.take m) hall (by omega)).2 with ⟨h1,h2,h3⟩ | ⟨h1,h2,h3⟩
 · rw [h3,if_neg (by simp)]
   exact .inr ⟨rfl,by rw [decide_eq_false (by omega)]⟩
 · rw [if_pos h2]
   refine .inl ⟨_,rfl,by rw [decide_eq_true (by omega)], ?_⟩
   rw [h3,hv,hlen];exact hr
set_option maxRecDepth 100000 in
set_option maxHeartbeats 800000 in
theorem colPart_any (b:Nat) (d:Rd) (w:World) (h:RdAt w b d) (_hs:d.s.size≤1000000) (_hk:d.k≤d.s.size) :
 Calls Tryz.prog 249 #[.pointer (some ⟨b,0,none⟩)] w (Part d.col b w):=by
 have HR:=Lib.hid h;clear h
 go_enter Tryz.func249,Tryz.ntmps249
 go_wp2_with fail
 go_loopw [3] (fun n wr=>∃ (m:Nat) (v:Int),n = .int .i64 v∧0≤v∧v≤702∧d.k+m≤d.s.size∧Hid (colV (d.rest.take m)=v∧(∀ x∈d.rest.take m,isCap x=true)∧m≤2)∧Hid (RdAt wr b { d with k:=d.k+m })∧Hid (w.grownBy wr (some b)))
  (fun n _=>800 - (intOf n).toNat)
 case atStart=>exact ⟨0,0,rfl,by omega,by omega,by omega,Lib.hid ⟨rfl,by simp,by omega⟩,Lib.hid HR.out,Lib.hid (grownBy.refl' _ _)⟩
 case round =>
  obtain ⟨m,v,rfl,hv0,hv1,hkm,HM,HRD,HG⟩:=hrel
  obtain ⟨c0,c1,c2,c3,c4,c5,c6⟩:=HRD.out.facts
  have f1:=HRD.out.frozen 1
  have f3:=HRD.out.frozen 3
  clear c2 c4 c5 c6
  simp only at c0 c1 c3
  obtain ⟨p,hp⟩:∃ p:Nat,d.k+m=p:=⟨_,rfl⟩
  rw [hp] at c1
  by_cases hlt:p<d.s.size
  · have hlt2 : (p:Int)<(d.s.size:Int):=by omega
    obtain ⟨a,ha⟩:∃ a:Int,(d.s[p].toNat:Int)=a:=⟨_,rfl⟩
    have ha1:0≤a∧a≤255:=by have:=d.s[p].toNat_lt;omega
    have hnx:d.rest.take (m+1)=d.rest.take m++[a]:=by subst hp;rw [take_next d m hlt,ha]
    have hat:d.rest[m]? = some a:=by subst hp;unfold Rd.rest;rw [List.getElem?_drop,sb_at d.s _ hlt,ha]
    have HNX:=Lib.hid hnx;clear hnx
    have HAT:=Lib.hid hat;clear hat
    have HP:=Lib.hid hp;clear hp
    by_cases hc:isCap a=true
    · have hcb := cap_bd hc
      have hvn:colV (d.rest.take (m+1))=26*v+(a - 64):=by rw [HNX.out,colV_snoc,HM.out.1]
      have hall:=all_snoc HM.out.2.1 hc
      rw [← HNX.out] at hall
      have HVN:=Lib.hid hvn;clear hvn
      have HALL:=Lib.hid hall;clear hall
      by_cases hbig:702<v*26+(a - 65)+1
      · have hno:d.col=none:=by
         have h2:¬ m+1≤2:=by
          intro h2
          have:=(col_small _ HALL.out (by rw [List.length_take];omega)).1
          rw [HVN.out] at this;omega
         have h3:isCol (d.rest.takeWhile isCap)=false:=by
          apply isCol_long
          rw [span_over isCap d.rest (m+1) HALL.out,List.length_append,List.length_take,length_rest]
          have:=HP.out;omega
         unfold Rd.col;rw [h3];rfl
        have HNO:=Lib.hid hno;clear hno
        go_wp2_with fail
        go_quiet ((go_at_call 142;exact quiet_call (isCapital_any _ (by omega) (by omega) _)))
        go_wp2_with fail
        go_quiet (fail)
        go_wp2_with fail
        go_ret
        exact ⟨grownBy.drewN' HG.out _,.inr ⟨HNO.out,rfl⟩⟩
      · go_wp2_with fail
        go_quiet ((go_at_call 142;exact quiet_call (isCapital_any _ (by omega) (by omega) _)))
        go_wp2_with fail
        go_quiet (fail)
        go_wp2_with fail
        go_roundw
        case rel =>
         have hm2:m+1≤2:=by
          have h3:=HM.out.2.2
          by_cases h:m=2
          · exfalso
            have hl:(d.rest.take m).length=2:=by rw [List.length_take,length_rest];have:=HP.out;omega
            match hq:d.rest.take m,hl with
            | [x,y],_ =>
              have h1:=HM.out.2.1
              have h4:=HM.out.1
              rw [hq] at h1 h4
              have g1:=cap_bd (h1 x (by simp))
              have g2:=cap_bd (h1 y (by simp))
              have hv:colV [x,y]=26*(x - 64)+(y - 64):=by unfold colV;simp
              omega
          · omega
         refine ⟨m+1,v*26+(a - 65)+1,rfl,by omega,by omega,by have:=HP.out;omega,Lib.hid ⟨by rw [HVN.out];omega,HALL.out,hm2⟩,Lib.hid ?_,Lib.hid (grownBy.setCell' (grownBy.drewN' HG.out _) _ _)⟩
         exact RdAt.setNext HRD.out HP.out _
        case measure=>simp [intOf];omega
    · have hc':isCap a=false:=by simpa using hc
      clear hc
      have hend:=fun (e:Ending) (wz:World)=>col_end d m v b w wz HM.out.1 HM.out.2.1 HM.out.2.2 hkm (fun x hx=>by rw [HAT.out] at hx;injection hx with hx;rw [← hx];exact hc') e
      have HEND:=Lib.hid hend;clear hend
      go_wp2_with fail
      go_quiet ((go_at_call 142;exact quiet_call (isCapital_any _ (by omega) (by omega) _)))
      go_wp2_with fail
      go_ret
      exact HEND.out _ _ rfl ((HRD.out.drewN _).setC _) (grownBy.setCell' (grownBy.drewN' HG.out _) _ _)
  · have hlt2:¬ (p:Int)<(d.s.size:Int):=by omega
    have hend:=fun (e:Ending) (wz:World)=>col_end d m v b w wz HM.out.1 HM.out.2.1 HM.out.2.2 hkm (fun x hx=>by have h1:=(List.getElem?_eq_some_iff.1 hx).1;rw [length_rest] at h1;omega) e
    have HEND:=Lib.hid hend;clear hend
    clear hp
    go_wp2_with fail
    go_quiet (fail)
    go_wp2_with fail
    go_ret
    exact HEND.out _ _ rfl ((HRD.out.drewN _).setC _) (grownBy.setCell' (grownBy.drewN' HG.out _) _ _)
theorem row_end (d:Rd) (m:Nat) (v:Int) (b:Nat) (w wr:World) (hv:valL (d.rest.take m)=v) (hall:∀ x∈d.rest.take m,isNum x=true) (hz:m=0∧v=0∨1≤v∧d.rest.take m≠[]∧(d.rest.take m).head? ≠ some 48) (hv9:v≤999) (hk:d.k+m≤d.s.size) (hstop:∀ x,d.rest[m]? = some x→isNum x=false) (e:Ending) (he:e = .returned (.bool (decide (0<v))))
 (hr:RdAt wr b { { d with k:=d.k+m } with r:=v - 1 }) (hg:w.grownBy wr (some b)):Part d.row b w e wr:=by
 subst he
 have hsp:=span_stop isNum d.rest m hall hstop
 have hlen:(d.rest.take m).length=m:=by rw [List.length_take,length_rest];omega
 refine ⟨hg, ?_⟩
 unfold Rd.row
 rw [hsp]
 rcases hz with ⟨h1,h2⟩ | ⟨h1,h2,h3⟩
 · have:isRow (d.rest.take m)=false:=by rw [h1];rfl
   rw [this,if_neg (by simp)]
   exact .inr ⟨rfl,by rw [decide_eq_false (by omega)]⟩
 · have:isRow (d.rest.take m)=true:=by unfold isRow;rw [decide_eq_true_iff];exact ⟨h2,h3,by omega⟩
   rw [if_pos this]
   refine .inl ⟨_,rfl,by rw [decide_eq_true (by omega)], ?_⟩
   rw [hv,hlen];exact hr
theorem head_snoc {l:List Int} {x:Int} (h:l≠[]):(l++[x]).head? = l.head? := by cases l with | nil=>exact absurd rfl h | cons a l=>rfl
set_option maxRecDepth 100000 in
set_option maxHeartbeats 800000 in
theorem rowPart_any (b:Nat) (d:Rd) (w:World) (h:RdAt w b d) (_hs:d.s.size≤1000000) (_hk:d.k≤d.s.size) :
 Calls Tryz.prog 251 #[.pointer (some ⟨b,0,none⟩)] w (Part d.row b w):=by
 have HR:=Lib.hid h;clear h
 go_enter Tryz.func251,Tryz.ntmps251
 go_wp2_with fail
 go_loopw [3] (fun n wr=>∃ (m:Nat) (v:Int),n = .int .i64 v∧0≤v∧v≤999∧d.k+m≤d.s.size∧Hid (valL (d.rest.take m)=v∧(∀ x∈d.rest.take m,isNum x=true)∧(m=0∧v=0∨1≤v∧d.rest.take m≠[]∧(d.rest.take m).head? ≠ some 48))∧Hid (RdAt wr b { d with k:=d.k+m })∧Hid (w.grownBy wr (some b)))
  (fun n _=>1200 - (intOf n).toNat)
 case atStart=>exact ⟨0,0,rfl,by omega,by omega,by omega,Lib.hid ⟨rfl,by simp,.inl ⟨rfl,rfl⟩⟩,Lib.hid HR.out,Lib.hid (grownBy.refl' _ _)⟩
 case round =>
  obtain ⟨m,v,rfl,hv0,hv1,hkm,HM,HRD,HG⟩:=hrel
  obtain ⟨c0,c1,c2,c3,c4,c5,c6⟩:=HRD.out.facts
  have f1:=HRD.out.frozen 1
  have f4:=HRD.out.frozen 4
  clear c2 c3 c5 c6
  simp only at c0 c1 c4
  obtain ⟨p,hp⟩:∃ p:Nat,d.k+m=p:=⟨_,rfl⟩
  rw [hp] at c1
  by_cases hlt:p<d.s.size
  · have hlt2:(p:Int)<(d.s.size:Int):=by omega
    obtain ⟨a,ha⟩:∃ a:Int,(d.s[p].toNat:Int)=a:=⟨_,rfl⟩
    have ha1:0≤a∧a≤255:=by have:=d.s[p].toNat_lt;omega
    have hnx:d.rest.take (m+1)=d.rest.take m++[a]:=by subst hp;rw [take_next d m hlt,ha]
    have hat:d.rest[m]? = some a:=by subst hp;unfold Rd.rest;rw [List.getElem?_drop,sb_at d.s _ hlt,ha]
    have HNX:=Lib.hid hnx;clear hnx
    have HAT:=Lib.hid hat;clear hat
    have HP:=Lib.hid hp;clear hp
    by_cases hc:isNum a=true
    · have hcb:=num_bd hc
      have hvn:valL (d.rest.take (m+1))=10*v+(a - 48):=by rw [HNX.out,valL_snoc,HM.out.1]
      have hall:=all_snoc HM.out.2.1 hc
      rw [← HNX.out] at hall
      have HVN:=Lib.hid hvn;clear hvn
      have HALL:=Lib.hid hall;clear hall
      by_cases hbad:v*10+(a - 48)=0∨999<v*10+(a - 48)
      · have hno:d.row=none:=by
         have h3:isRow (d.rest.takeWhile isNum)=false:=by
          rw [span_over isNum d.rest (m+1) HALL.out]
          unfold isRow;rw [decide_eq_false_iff_not]
          rintro ⟨_,h2,h3⟩
          rcases hbad with h | h
          · rcases HM.out.2.2 with ⟨hm0,_⟩ | ⟨hm1,_⟩
            · apply h2;rw [HNX.out,hm0];simp;omega
            · omega
          · have:=valL_ge ((d.rest.drop (m+1)).takeWhile isNum) (d.rest.take (m+1)) (take_all isNum _) (by rw [HVN.out];omega)
            rw [HVN.out] at this;omega
         unfold Rd.row;rw [h3];rfl
        have HNO:=Lib.hid hno;clear hno
        by_cases hz:v*10+(a - 48)=0
        · have hzb:(v*10+(a - 48) == 0)=true:=beq_iff_eq.2 hz
          clear hbad hz
          go_wp2_with fail
          go_quiet ((go_at_call 112;exact quiet_call (isDigit_any _ (by omega) (by omega) _)))
          go_wp2_with fail
          go_quiet (fail)
          go_wp2_with fail
          go_ret
          exact ⟨grownBy.drewN' HG.out _,.inr ⟨HNO.out,rfl⟩⟩
        · have hzb:(v*10+(a - 48) == 0)=false:=beq_eq_false_iff_ne.2 hz
          have h9:999<v*10+(a - 48):=by omega
          clear hbad hz
          go_wp2_with fail
          go_quiet ((go_at_call 112;exact quiet_call (isDigit_any _ (by omega) (by omega) _)))
          go_wp2_with fail
          go_quiet (fail)
          go_wp2_with fail
          go_ret
          exact ⟨grownBy.drewN' HG.out _,.inr ⟨HNO.out,rfl⟩⟩
      · have hz:¬ v*10+(a - 48)=0:=by omega
        have hzb:(v*10+(a - 48) == 0)=false:=beq_eq_false_iff_ne.2 hz
        have h9:¬ 999<v*10+(a - 48):=by omega
        have h9':v*10+(a - 48)≤999:=by omega
        have h1':1≤v*10+(a - 48):=by omega
        clear hbad hz
        go_wp2_with fail
        go_quiet ((go_at_call 112;exact quiet_call (isDigit_any _ (by omega) (by omega) _)))
        go_wp2_with fail
        go_quiet (fail)
        go_wp2_with fail
        go_roundw
        case rel =>
         refine ⟨m+1,v*10+(a - 48),rfl,by omega,by omega,by have:=HP.out;omega,Lib.hid ⟨by rw [HVN.out];omega,HALL.out,.inr ⟨by omega, ?_, ?_⟩⟩,Lib.hid ?_,Lib.hid (grownBy.setCell' (grownBy.drewN' HG.out _) _ _)⟩
         · rw [HNX.out];simp
         · rw [HNX.out]
           rcases HM.out.2.2 with ⟨hm0,hm1⟩ | ⟨_,h2,h3⟩
           · rw [hm0];simp;omega
           · rw [head_snoc h2];exact h3
         · exact RdAt.setNext HRD.out HP.out _
        case measure=>simp [intOf];omega
    · have hc':isNum a=false:=by simpa using hc
      clear hc
      have hend:=fun (e:Ending) (wz:World)=>row_end d m v b w wz HM.out.1 HM.out.2.1 HM.out.2.2 hv1 hkm (fun x hx=>by rw [HAT.out] at hx;injection hx with hx;rw [← hx];exact hc') e
      have HEND:=Lib.hid hend;clear hend
      go_wp2_with fail
      go_quiet ((go_at_call 112;exact quiet_call (isDigit_any _ (by omega) (by omega) _)))
      go_wp2_with fail
      go_ret
      exact HEND.out _ _ rfl ((HRD.out.drewN _).setR _) (grownBy.setCell' (grownBy.drewN' HG.out _) _ _)
  · have hlt2:¬ (p:Int)<(d.s.size:Int):=by omega
    have hend:=fun (e:Ending) (wz:World)=>row_end d m v b w wz HM.out.1 HM.out.2.1 HM.out.2.2 hv1 hkm (fun x hx=>by have h1:=(List.getElem?_eq_some_iff.1 hx).1;rw [length_rest] at h1;omega) e
    have HEND:=Lib.hid hend;clear hend
    clear hp
    go_wp2_with fail
    go_quiet (fail)
    go_wp2_with fail
    go_ret
    exact HEND.out _ _ rfl ((HRD.out.drewN _).setR _) (grownBy.setCell' (grownBy.drewN' HG.out _) _ _)
end Go.Proofs.YtdnooocmlhcpkaaGreatDoor
namespace Go.Proofs.YtdnooocmlhcpkaaGreatDoor
open Go.RowKit
def isBl (c:Int):Bool:=decide (c=32)
def isBeg (c:Int):Bool:=isLet c||decide (c=36)
set_option maxHeartbeats 400000 in
theorem lexBlank_any (c:Int) (_h0:0≤c) (_h1:c≤255) (w:World) :
 Calls Tryz.prog 182 #[.int .u8 c] w fun e w'=>e = .returned (.bool (isBl c))∧w=w':=by
 go_enter Tryz.func182,Tryz.ntmps182
 go_wp2
 all_goals go_ret
 all_goals exact ⟨ret_bool (by unfold isBl;first | rfl | (symm;rw [decide_eq_true_iff];omega) | (symm;rw [decide_eq_false_iff_not];omega) | (rw [decide_eq_decide];omega)),rfl⟩
set_option maxHeartbeats 400000 in
theorem lexDigit_any (c:Int) (_h0:0≤c) (_h1:c≤255) (w:World) :
 Calls Tryz.prog 210 #[.int .u8 c] w fun e w'=>e = .returned (.bool (isNum c))∧w=w':=by
 go_enter Tryz.func210,Tryz.ntmps210
 go_wp2
 all_goals go_ret
 all_goals exact ⟨ret_bool (by unfold isNum;first | rfl | (symm;rw [decide_eq_true_iff];omega) | (symm;rw [decide_eq_false_iff_not];omega) | (rw [decide_eq_decide];omega)),rfl⟩
set_option maxHeartbeats 400000 in
theorem lexCapital_any (c:Int) (_h0:0≤c) (_h1:c≤255) (w:World) :
 Calls Tryz.prog 233 #[.int .u8 c] w fun e w'=>e = .returned (.bool (isCap c))∧w=w':=by
 go_enter Tryz.func233,Tryz.ntmps233
 go_wp2
 all_goals go_ret
 all_goals exact ⟨ret_bool (by unfold isCap;first | rfl | (symm;rw [decide_eq_true_iff];omega) | (symm;rw [decide_eq_false_iff_not];omega) | (rw [decide_eq_decide];omega)),rfl⟩
theorem isBeg_cap {c:Int} (h:isCap c=true):isBeg c=true:=by unfold isBeg;rw [isLet_cap h];rfl
theorem isBeg_nocap {c:Int} (h:isCap c=false):isBeg c=decide (97≤c∧c≤122∨c=36):=by unfold isBeg;rw [isLet_nocap h];simp
theorem isWord_beg {c:Int}:isWord c=(isBeg c||(isNum c||decide (c=33))):=by
 unfold isWord isBeg;rw [show decide (c=36∨c=33)=(decide (c=36)||decide (c=33)) from by simp]
 cases isLet c <;> cases isNum c <;> cases decide (c=36) <;> simp
set_option maxHeartbeats 400000 in
theorem beginsWord_any (c:Int) (_h0:0≤c) (_h1:c≤255) (w:World) :
 Calls Tryz.prog 214 #[.int .u8 c] w fun e w'=>e = .returned (.bool (isBeg c))∧w=w':=by
 by_cases hc:isCap c=true
 · have HL:=Lib.hid (isBeg_cap hc)
   go_enter Tryz.func214,Tryz.ntmps214
   go_wp2_with (go_at_call 233;((with_reducible refine (lexCapital_any _ ?_ ?_ _).mono ?_);(first | omega | skip);(first | omega | skip);rintro e w' ⟨rfl,rfl⟩))
   all_goals go_ret
   all_goals exact ⟨ret_bool (by rw [HL.out]),rfl⟩
 · have hc':isCap c=false:=by simpa using hc
   have HL:=Lib.hid (isBeg_nocap hc');clear hc
   go_enter Tryz.func214,Tryz.ntmps214
   go_wp2_with (go_at_call 233;((with_reducible refine (lexCapital_any _ ?_ ?_ _).mono ?_);(first | omega | skip);(first | omega | skip);rintro e w' ⟨rfl,rfl⟩))
   all_goals go_ret
   all_goals exact ⟨ret_bool (by rw [HL.out];first | rfl | (symm;rw [decide_eq_true_iff];omega) | (symm;rw [decide_eq_false_iff_not];omega) | (rw [Bool.eq_iff_iff];simp only [Bool.or_eq_true,decide_eq_true_iff,beq_iff_eq];omega)),rfl⟩
set_option maxHeartbeats 400000 in
theorem isOfWord_any (c:Int) (_h0:0≤c) (_h1:c≤255) (w:World) :
 Calls Tryz.prog 234 #[.int .u8 c] w fun e w'=>e = .returned (.bool (isWord c))∧w=w':=by
 have HW:=Lib.hid (isWord_beg (c:=c))
 cases hb:isBeg c
 · cases hn:isNum c
   · rw [hb,hn] at HW
     go_enter Tryz.func234,Tryz.ntmps234
     go_wp2_with (first
      | (go_at_call 214;((with_reducible refine (beginsWord_any _ ?_ ?_ _).mono ?_);(first | omega | skip);(first | omega | skip);rintro e w' ⟨rfl,rfl⟩;rw [hb]))
      | (go_at_call 210;((with_reducible refine (lexDigit_any _ ?_ ?_ _).mono ?_);(first | omega | skip);(first | omega | skip);rintro e w' ⟨rfl,rfl⟩;rw [hn])))
     all_goals go_ret
     all_goals exact ⟨ret_bool (by rw [HW.out];first | rfl | (rw [Bool.eq_iff_iff];simp only [Bool.or_eq_true,Bool.and_eq_true,Bool.false_or,decide_eq_true_iff,beq_iff_eq])),rfl⟩
   · rw [hb,hn] at HW
     go_enter Tryz.func234,Tryz.ntmps234
     go_wp2_with (first
      | (go_at_call 214;((with_reducible refine (beginsWord_any _ ?_ ?_ _).mono ?_);(first | omega | skip);(first | omega | skip);rintro e w' ⟨rfl,rfl⟩;rw [hb]))
      | (go_at_call 210;((with_reducible refine (lexDigit_any _ ?_ ?_ _).mono ?_);(first | omega | skip);(first | omega | skip);rintro e w' ⟨rfl,rfl⟩;rw [hn])))
     all_goals go_ret
     all_goals exact ⟨ret_bool (by rw [HW.out];rfl),rfl⟩
 · rw [hb] at HW
   go_enter Tryz.func234,Tryz.ntmps234
   go_wp2_with (first
    | (go_at_call 214;((with_reducible refine (beginsWord_any _ ?_ ?_ _).mono ?_);(first | omega | skip);(first | omega | skip);rintro e w' ⟨rfl,rfl⟩;rw [hb])))
   all_goals go_ret
   all_goals exact ⟨ret_bool (by rw [HW.out];rfl),rfl⟩
def LxAt (w:World) (b:Nat) (s:ByteArray) (k:Nat):Prop:=w.heap[b]? = some (.cells #[.string s,.int .i64 (k:Int)] 196)
theorem LxAt.lt {w:World} {b:Nat} {s:ByteArray} {k:Nat} (h:LxAt w b s k):b<w.heap.size:=(Array.getElem?_eq_some_iff.1 h).1
theorem LxAt.drewN {w:World} {b:Nat} {s:ByteArray} {k:Nat} (h:LxAt w b s k) (n:Nat):LxAt (w.drewN n) b s k:=h
theorem LxAt.below {w w':World} {B b:Nat} {s:ByteArray} {k:Nat} (h:LxAt w b s k) (hb:Below B w w') (hB:b<B):LxAt w' b s k:=by unfold LxAt;rw [hb.block b hB];exact h
theorem LxAt.facts {w:World} {b:Nat} {s:ByteArray} {k:Nat} (h:LxAt w b s k):w.cell? ⟨b,0,none⟩=some (.string s)∧w.cell? ⟨b,1,none⟩=some (.int .i64 (k:Int)) :=
 ⟨by rw [cell_of_row w b 0 _ _ _ h];rfl,by rw [cell_of_row w b 1 _ _ _ h];rfl⟩
theorem LxAt.frozen {w:World} {b:Nat} {s:ByteArray} {k:Nat} (h:LxAt w b s k) (j:Nat):w.frozen? ⟨b,j,none⟩=false:=frozen_of_row w b j _ _ h
theorem LxAt.setK {w:World} {b:Nat} {s:ByteArray} {k:Nat} (h:LxAt w b s k) (m:Nat):LxAt (w.setCell ⟨b,1,none⟩ (.int .i64 (m:Int))) b s m:=by unfold LxAt;rw [heap_setCell_same w b 1 _ _ _ h];rfl
theorem LxAt.setNext {w:World} {b:Nat} {s:ByteArray} {k:Nat} (h:LxAt w b s k):LxAt (w.setCell ⟨b,1,none⟩ (.int .i64 ((k:Int)+1))) b s (k+1):=h.setK (k+1)
theorem LxAt.new (w:World) (s:ByteArray):LxAt (w.alloc (.cells #[.string s,.int .i64 0] 196)) w.heap.size s 0:=(Go.MapKept.heap_alloc w _).1
def tokA (t:Tk):Array Value:=#[.int .i64 t.kind,.string t.text,.int .i64 t.num,.string t.sh,.int .i64 t.c,.int .i64 t.r,.bool t.ac,.bool t.ar,.int .i64 t.pos]
def TkAt (w:World) (b:Nat) (t:Tk):Prop:=w.heap[b]? = some (.cells (tokA t) 154)
theorem TkAt.lt {w:World} {b:Nat} {t:Tk} (h:TkAt w b t):b<w.heap.size:=(Array.getElem?_eq_some_iff.1 h).1
theorem TkAt.below {w w':World} {B b:Nat} {t:Tk} (h:TkAt w b t) (hb:Below B w w') (hB:b<B):TkAt w' b t:=by unfold TkAt;rw [hb.block b hB];exact h
theorem TkAt.drewN {w:World} {b:Nat} {t:Tk} (h:TkAt w b t) (n:Nat):TkAt (w.drewN n) b t:=h
theorem TkAt.frozen {w:World} {b:Nat} {t:Tk} (h:TkAt w b t) (j:Nat):w.frozen? ⟨b,j,none⟩=false:=frozen_of_row w b j _ _ h
theorem TkAt.grown {w w':World} {b c:Nat} {t:Tk} (h:TkAt w b t) (hg:w.grownBy w' (some c)) (hne:b≠c):TkAt w' b t:=by
 unfold TkAt;rw [hg.block b h.lt (by intro e;exact hne (Option.some.inj e))];exact h
theorem TkAt.new (w:World) (t:Tk):TkAt (w.alloc (.cells (tokA t) 154)) w.heap.size t:=(Go.MapKept.heap_alloc w _).1
theorem tok_size:(Tryz.prog.info? 154).map (·.size)=some 9:=by kernel_rfl
theorem tok_one (t:Tk):∀ v∈(tokA t).toList,v.oneCell'=true:=by
 intro v hv
 simp only [tokA,List.mem_cons,List.not_mem_nil,or_false] at hv
 rcases hv with rfl | rfl | rfl | rfl | rfl | rfl | rfl | rfl | rfl <;> rfl
end Go.Proofs.YtdnooocmlhcpkaaGreatDoor
namespace Go.Proofs
open Go.Shelf
def Tryz.lays137_ren:Go.Shelf.Ren:=⟨fun | 137=>259 | 217=>262 | 266=>266 | n=>n,fun | 9=>9 | 5=>5 | 3=>3 | n=>n,fun | n=>n⟩
theorem Tryz.lays137:Go.Proofs.Lays.n137 Tryz.prog Tryz.lays137_ren:={
 mixed:=by kernel_rfl
 f137:=Tryz.func259.trans (congrArg some (by kernel_rfl))
 f217:=Tryz.func262.trans (congrArg some (by kernel_rfl))
 f266:=Tryz.func266.trans (congrArg some (by kernel_rfl))
 t3:=Tryz.underlying3
 a3:=Tryz.isAgg3
 z3:=Tryz.sizeOf3
 v3:=Tryz.zeroValue3
 t5:=Tryz.underlying5
 a5:=Tryz.isAgg5
 z5:=Tryz.sizeOf5
 v5:=Tryz.zeroValue5
 t9:=Tryz.underlying9
 a9:=Tryz.isAgg9
 z9:=Tryz.sizeOf9
 v9:=Tryz.zeroValue9 }
open Go.RowKit in
theorem Tryz.strings_IndexByte (s:ByteArray) (c:Int) (w:World) :
 Calls Tryz.prog 259 #[.string s,.int .u8 c] w fun e w'=>e = .returned (.int .i64 (Lib.indexByte s.data.toList c.toNat.toUInt8))∧w'=w:=Any.strings_IndexByte Tryz.lays137 s c w
def Tryz.laysM171_ren:Go.Shelf.Ren:=⟨fun | 171=>105 | 243=>139 | 246=>178 | 283=>205 | 284=>206 | 285=>207 | 286=>208 | 129=>228 | 317=>227 | 318=>229 | 319=>230 | 320=>231 | 337=>243 | 338=>244 | n=>n,fun | 3=>3 | 9=>9 | 2=>2 | 4=>4 | 171=>228 | 0=>0 | 53=>109 | 37=>22 | 5=>5 | 173=>231 | 212=>242 | 51=>243 | 20=>20 | 213=>244 | 46=>97 | 232=>264 | 233=>265 | n=>n,fun | 17=>3 | 18=>6 | 19=>7 | n=>n⟩
theorem Tryz.laysM171:Go.Proofs.LaysM.n171 Tryz.prog Tryz.laysM171_ren:={
 mixed:=by kernel_rfl
 f129:=Tryz.func228.trans (congrArg some (by kernel_rfl))
 f171:=Tryz.func105.trans (congrArg some (by kernel_rfl))
 f243:=Tryz.func139.trans (congrArg some (by kernel_rfl))
 f246:=Tryz.func178.trans (congrArg some (by kernel_rfl))
 f283:=Tryz.func205.trans (congrArg some (by kernel_rfl))
 f284:=Tryz.func206.trans (congrArg some (by kernel_rfl))
 f285:=Tryz.func207.trans (congrArg some (by kernel_rfl))
 f286:=Tryz.func208.trans (congrArg some (by kernel_rfl))
 f317:=Tryz.func227.trans (congrArg some (by kernel_rfl))
 f318:=Tryz.func229.trans (congrArg some (by kernel_rfl))
 f319:=Tryz.func230.trans (congrArg some (by kernel_rfl))
 f320:=Tryz.func231.trans (congrArg some (by kernel_rfl))
 f337:=Tryz.func243.trans (congrArg some (by kernel_rfl))
 f338:=Tryz.func244.trans (congrArg some (by kernel_rfl))
 t0:=Tryz.underlying0
 a0:=Tryz.isAgg0
 z0:=Tryz.sizeOf0
 v0:=Tryz.zeroValue0
 t2:=Tryz.underlying2
 a2:=Tryz.isAgg2
 z2:=Tryz.sizeOf2
 v2:=Tryz.zeroValue2
 t3:=Tryz.underlying3
 a3:=Tryz.isAgg3
 z3:=Tryz.sizeOf3
 v3:=Tryz.zeroValue3
 t4:=Tryz.underlying4
 a4:=Tryz.isAgg4
 z4:=Tryz.sizeOf4
 v4:=Tryz.zeroValue4
 t5:=Tryz.underlying5
 a5:=Tryz.isAgg5
 z5:=Tryz.sizeOf5
 v5:=Tryz.zeroValue5
 t9:=Tryz.underlying9
 a9:=Tryz.isAgg9
 z9:=Tryz.sizeOf9
 v9:=Tryz.zeroValue9
 t20:=Tryz.underlying20
 a20:=Tryz.isAgg20
 z20:=Tryz.sizeOf20
 v20:=Tryz.zeroValue20
 t37:=Tryz.underlying22
 a37:=Tryz.isAgg22
 z37:=Tryz.sizeOf22
 v37:=Tryz.zeroValue22
 t46:=Tryz.underlying97
 a46:=Tryz.isAgg97
 z46:=Tryz.sizeOf97
 v46:=Tryz.zeroValue97
 t51:=Tryz.underlying243
 a51:=Tryz.isAgg243
 z51:=Tryz.sizeOf243
 v51:=Tryz.zeroValue243
 t53:=Tryz.underlying109
 a53:=Tryz.isAgg109
 z53:=Tryz.sizeOf109
 v53:=Tryz.zeroValue109
 t171:=Tryz.underlying228
 a171:=Tryz.isAgg228
 z171:=Tryz.sizeOf228
 v171:=Tryz.zeroValue228
 t173:=Tryz.underlying231
 a173:=Tryz.isAgg231
 z173:=Tryz.sizeOf231
 v173:=Tryz.zeroValue231
 t212:=Tryz.underlying242
 a212:=Tryz.isAgg242
 z212:=Tryz.sizeOf242
 v212:=Tryz.zeroValue242
 t213:=Tryz.underlying244
 a213:=Tryz.isAgg244
 z213:=Tryz.sizeOf244
 t232:=Tryz.underlying264
 a232:=Tryz.isAgg264
 z232:=Tryz.sizeOf264
 v232:=Tryz.zeroValue264
 t233:=Tryz.underlying265
 a233:=Tryz.isAgg265
 z233:=Tryz.sizeOf265
 v233:=Tryz.zeroValue265
 g17:=by kernel_rfl
 g18:=by kernel_rfl
 g19:=by kernel_rfl
 i0:=by kernel_rfl
 i2:=by kernel_rfl
 i3:=by kernel_rfl
 i4:=by kernel_rfl
 i5:=by kernel_rfl
 i9:=by kernel_rfl
 i20:=by kernel_rfl
 i37:=by kernel_rfl
 i46:=by kernel_rfl
 i51:=by kernel_rfl
 i53:=by kernel_rfl
 i171:=by kernel_rfl
 i173:=by kernel_rfl
 i212:=by kernel_rfl
 i232:=by kernel_rfl
 i233:=by kernel_rfl
 m17:=by kernel_rfl
 m18:=by kernel_rfl
 m19:=by kernel_rfl }
open Go.RowKit Go.Sort Go.Lib in
theorem Tryz.strconv_Itoa (n : Int) (h0 : -9223372036854775808 ≤ n) (h1 : n ≤ 9223372036854775807) (w : World) (htab : Lib.TabIs Tryz.prog w "internal/strconv.uint64pow10" .u64 Lib.pow10Tab) :
 Calls Tryz.prog 105 #[.int .i64 n] w fun e w'=>e = .returned (.string ⟨(Lib.itoa n).toArray⟩)∧∃ k os,w'=grow (w.drewN k) os:=Any.strconv_Itoa Tryz.laysM171 n h0 h1 w htab
def Tryz.laysC172_ren:Go.Shelf.Ren:=⟨fun | 172=>138 | 244=>176 | 245=>177 | 247=>200 | 279=>201 | 280=>202 | 281=>203 | 282=>204 | 287=>224 | 316=>225 | 171=>105 | 205=>226 | 321=>241 | 322=>242 | 243=>139 | 246=>178 | 283=>205 | 284=>206 | 285=>207 | 286=>208 | 129=>228 | 317=>227 | 318=>229 | 319=>230 | 320=>231 | 337=>243 | 338=>244 | n=>n,fun | 9=>9 | 3=>3 | 75=>179 | 76=>180 | 4=>4 | 5=>5 | 167=>222 | 37=>22 | 0=>0 | 85=>223 | 2=>2 | 168=>225 | 53=>109 | 175=>236 | 46=>97 | 210=>239 | 127=>185 | 145=>256 | 143=>254 | 21=>21 | 171=>228 | 173=>231 | 212=>242 | 51=>243 | 20=>20 | 213=>244 | 232=>264 | 233=>265 | 80=>143 | n=>n,fun | 15=>1 | 16=>2 | 17=>3 | 18=>6 | 19=>7 | n=>n⟩
theorem Tryz.laysC172:Go.Proofs.LaysC.n172 Tryz.prog Tryz.laysC172_ren:={
 mixed:=by kernel_rfl
 f129:=Tryz.func228.trans (congrArg some (by kernel_rfl))
 f171:=Tryz.func105.trans (congrArg some (by kernel_rfl))
 f172:=Tryz.func138.trans (congrArg some (by kernel_rfl))
 f205:=Tryz.func226.trans (congrArg some (by kernel_rfl))
 f243:=Tryz.func139.trans (congrArg some (by kernel_rfl))
 f244:=Tryz.func176.trans (congrArg some (by kernel_rfl))
 f245:=Tryz.func177.trans (congrArg some (by kernel_rfl))
 f246:=Tryz.func178.trans (congrArg some (by kernel_rfl))
 f247:=Tryz.func200.trans (congrArg some (by kernel_rfl))
 f279:=Tryz.func201.trans (congrArg some (by kernel_rfl))
 f280:=Tryz.func202.trans (congrArg some (by kernel_rfl))
 f281:=Tryz.func203.trans (congrArg some (by kernel_rfl))
 f282:=Tryz.func204.trans (congrArg some (by kernel_rfl))
 f283:=Tryz.func205.trans (congrArg some (by kernel_rfl))
 f284:=Tryz.func206.trans (congrArg some (by kernel_rfl))
 f285:=Tryz.func207.trans (congrArg some (by kernel_rfl))
 f286:=Tryz.func208.trans (congrArg some (by kernel_rfl))
 f287:=Tryz.func224.trans (congrArg some (by kernel_rfl))
 f316:=Tryz.func225.trans (congrArg some (by kernel_rfl))
 f317:=Tryz.func227.trans (congrArg some (by kernel_rfl))
 f318:=Tryz.func229.trans (congrArg some (by kernel_rfl))
 f319:=Tryz.func230.trans (congrArg some (by kernel_rfl))
 f320:=Tryz.func231.trans (congrArg some (by kernel_rfl))
 f321:=Tryz.func241.trans (congrArg some (by kernel_rfl))
 f322:=Tryz.func242.trans (congrArg some (by kernel_rfl))
 f337:=Tryz.func243.trans (congrArg some (by kernel_rfl))
 f338:=Tryz.func244.trans (congrArg some (by kernel_rfl))
 t0:=Tryz.underlying0
 a0:=Tryz.isAgg0
 z0:=Tryz.sizeOf0
 v0:=Tryz.zeroValue0
 t2:=Tryz.underlying2
 a2:=Tryz.isAgg2
 z2:=Tryz.sizeOf2
 v2:=Tryz.zeroValue2
 t3:=Tryz.underlying3
 a3:=Tryz.isAgg3
 z3:=Tryz.sizeOf3
 v3:=Tryz.zeroValue3
 t4:=Tryz.underlying4
 a4:=Tryz.isAgg4
 z4:=Tryz.sizeOf4
 v4:=Tryz.zeroValue4
 t5:=Tryz.underlying5
 a5:=Tryz.isAgg5
 z5:=Tryz.sizeOf5
 v5:=Tryz.zeroValue5
 t9:=Tryz.underlying9
 a9:=Tryz.isAgg9
 z9:=Tryz.sizeOf9
 v9:=Tryz.zeroValue9
 t20:=Tryz.underlying20
 a20:=Tryz.isAgg20
 z20:=Tryz.sizeOf20
 v20:=Tryz.zeroValue20
 t21:=Tryz.underlying21
 a21:=Tryz.isAgg21
 z21:=Tryz.sizeOf21
 v21:=Tryz.zeroValue21
 t37:=Tryz.underlying22
 a37:=Tryz.isAgg22
 z37:=Tryz.sizeOf22
 v37:=Tryz.zeroValue22
 t46:=Tryz.underlying97
 a46:=Tryz.isAgg97
 z46:=Tryz.sizeOf97
 v46:=Tryz.zeroValue97
 t51:=Tryz.underlying243
 a51:=Tryz.isAgg243
 z51:=Tryz.sizeOf243
 v51:=Tryz.zeroValue243
 t53:=Tryz.underlying109
 a53:=Tryz.isAgg109
 z53:=Tryz.sizeOf109
 v53:=Tryz.zeroValue109
 t75:=Tryz.underlying179
 a75:=Tryz.isAgg179
 z75:=Tryz.sizeOf179
 v75:=Tryz.zeroValue179
 t76:=Tryz.underlying180
 a76:=Tryz.isAgg180
 z76:=Tryz.sizeOf180
 v76:=Tryz.zeroValue180
 t85:=Tryz.underlying223
 a85:=Tryz.isAgg223
 z85:=Tryz.sizeOf223
 v85:=Tryz.zeroValue223
 t127:=Tryz.underlying185
 a127:=Tryz.isAgg185
 z127:=Tryz.sizeOf185
 v127:=Tryz.zeroValue185
 t143:=Tryz.underlying254
 a143:=Tryz.isAgg254
 z143:=Tryz.sizeOf254
 v143:=Tryz.zeroValue254
 t145:=Tryz.underlying256
 a145:=Tryz.isAgg256
 z145:=Tryz.sizeOf256
 v145:=Tryz.zeroValue256
 t167:=Tryz.underlying222
 a167:=Tryz.isAgg222
 z167:=Tryz.sizeOf222
 v167:=Tryz.zeroValue222
 t168:=Tryz.underlying225
 a168:=Tryz.isAgg225
 z168:=Tryz.sizeOf225
 v168:=Tryz.zeroValue225
 t171:=Tryz.underlying228
 a171:=Tryz.isAgg228
 z171:=Tryz.sizeOf228
 v171:=Tryz.zeroValue228
 t173:=Tryz.underlying231
 a173:=Tryz.isAgg231
 z173:=Tryz.sizeOf231
 v173:=Tryz.zeroValue231
 t175:=Tryz.underlying236
 a175:=Tryz.isAgg236
 z175:=Tryz.sizeOf236
 v175:=Tryz.zeroValue236
 t210:=Tryz.underlying239
 a210:=Tryz.isAgg239
 z210:=Tryz.sizeOf239
 v210:=Tryz.zeroValue239
 t212:=Tryz.underlying242
 a212:=Tryz.isAgg242
 z212:=Tryz.sizeOf242
 v212:=Tryz.zeroValue242
 t213:=Tryz.underlying244
 a213:=Tryz.isAgg244
 z213:=Tryz.sizeOf244
 t232:=Tryz.underlying264
 a232:=Tryz.isAgg264
 z232:=Tryz.sizeOf264
 v232:=Tryz.zeroValue264
 t233:=Tryz.underlying265
 a233:=Tryz.isAgg265
 z233:=Tryz.sizeOf265
 v233:=Tryz.zeroValue265
 g15:=by kernel_rfl
 g16:=by kernel_rfl
 g17:=by kernel_rfl
 g18:=by kernel_rfl
 g19:=by kernel_rfl
 t80:=Tryz.underlying143
 a80:=Tryz.isAgg143
 z80:=Tryz.sizeOf143
 v80:=Tryz.zeroValue143
 i0:=by kernel_rfl
 i2:=by kernel_rfl
 i3:=by kernel_rfl
 i4:=by kernel_rfl
 i5:=by kernel_rfl
 i9:=by kernel_rfl
 i20:=by kernel_rfl
 i21:=by kernel_rfl
 i37:=by kernel_rfl
 i46:=by kernel_rfl
 i51:=by kernel_rfl
 i53:=by kernel_rfl
 i75:=by kernel_rfl
 i76:=by kernel_rfl
 i80:=by kernel_rfl
 i85:=by kernel_rfl
 i127:=by kernel_rfl
 i143:=by kernel_rfl
 i145:=by kernel_rfl
 i167:=by kernel_rfl
 i168:=by kernel_rfl
 i171:=by kernel_rfl
 i173:=by kernel_rfl
 i175:=by kernel_rfl
 i210:=by kernel_rfl
 i212:=by kernel_rfl
 i232:=by kernel_rfl
 i233:=by kernel_rfl
 m15:=by kernel_rfl
 m16:=by kernel_rfl
 m17:=by kernel_rfl
 m18:=by kernel_rfl
 m19:=by kernel_rfl
 c0:=by kernel_rfl
 c2:=by kernel_rfl
 c3:=by kernel_rfl
 c4:=by kernel_rfl
 c5:=by kernel_rfl
 c9:=by kernel_rfl
 c20:=by kernel_rfl
 c21:=by kernel_rfl
 c37:=by kernel_rfl
 c46:=by kernel_rfl
 c51:=by kernel_rfl
 c53:=by kernel_rfl
 c75:=by kernel_rfl
 c76:=by kernel_rfl
 c80:=by kernel_rfl
 c85:=by kernel_rfl
 c127:=by kernel_rfl
 c143:=by kernel_rfl
 c145:=by kernel_rfl
 c167:=by kernel_rfl
 c168:=by kernel_rfl
 c171:=by kernel_rfl
 c173:=by kernel_rfl
 c175:=by kernel_rfl
 c210:=by kernel_rfl
 c212:=by kernel_rfl
 c213:=by kernel_rfl
 c232:=by kernel_rfl
 c233:=by kernel_rfl }
open Go.RowKit in
theorem Tryz.strconv_Atoi_ok (s:ByteArray) (hmax:s.size≤9223372036854775806) (v:Int) (h:Lib.atoiAll s.data.toList = .ok v) (w:World) :
 Calls Tryz.prog 138 #[.string s] w fun e w'=>e = .returned (.tuple #[.int .i64 v,.nilIface])∧(w'=w∨∃ t,w'=Lib.bytesWorld w 5 t):=Any.strconv_Atoi_ok Tryz.laysC172 s hmax v h w
open Go.RowKit in
open Go.RowKit in
theorem Tryz.strconv_Atoi_range (s:ByteArray) (hlim:s.size≤281474976710656) (h:Lib.atoiAll s.data.toList = .range) (ev:Value) (w:World) (hv:w.cell? ⟨2,0,none⟩=some ev) (hev:ev = .nilIface∨∃ te pe,ev = .iface te pe) :
 Calls Tryz.prog 138 #[.string s] w fun e w'=>∃ N,e = .returned (.tuple #[.int .i64 (Lib.atoiSat s.data.toList),.iface 225 (.pointer (some ⟨N,0,none⟩))])∧w.heap.size≤N∧w'.heap[N]? = some (.cells #[.string ⟨#[65,116,111,105]⟩,.string s,ev] 239 (0,0))∧Below w.heap.size w w':=Any.strconv_Atoi_range Tryz.laysC172 s hlim h ev w hv hev
def Tryz.lays99_ren:Go.Shelf.Ren:=⟨fun | 99=>245 | 206=>258 | n=>n,fun | 9=>9 | 4=>4 | 3=>3 | n=>n,fun | n=>n⟩
theorem Tryz.lays99:Go.Proofs.Lays.n99 Tryz.prog Tryz.lays99_ren:={
 mixed:=by kernel_rfl
 f99:=Tryz.func245.trans (congrArg some (by kernel_rfl))
 f206:=Tryz.func258.trans (congrArg some (by kernel_rfl))
 t3:=Tryz.underlying3
 a3:=Tryz.isAgg3
 z3:=Tryz.sizeOf3
 v3:=Tryz.zeroValue3
 t4:=Tryz.underlying4
 a4:=Tryz.isAgg4
 z4:=Tryz.sizeOf4
 v4:=Tryz.zeroValue4
 t9:=Tryz.underlying9
 a9:=Tryz.isAgg9
 z9:=Tryz.sizeOf9
 v9:=Tryz.zeroValue9 }
open Go.RowKit Go.Lib in
theorem Tryz.strings_HasPrefix (s p:ByteArray) (w:World) :
 Calls Tryz.prog 245 #[.string s,.string p] w fun e w'=>e = .returned (.bool (Lib.hasPrefix s.data.toList p.data.toList))∧w'=w:=Any.strings_HasPrefix Tryz.lays99 s p w
def Tryz.lays155_ren:Go.Shelf.Ren:=⟨fun | 155=>194 | 154=>221 | 138=>237 | 165=>238 | 143=>239 | 166=>129 | 197=>240 | 169=>92 | 195=>253 | 218=>254 | 240=>160 | 241=>255 | 219=>256 | 260=>257 | 276=>193 | 277=>261 | 217=>262 | 225=>263 | 224=>264 | 267=>265 | 266=>266 | 314=>267 | n=>n,fun | 9=>9 | 3=>3 | 4=>4 | 72=>134 | 0=>0 | 76=>180 | 105=>251 | 21=>21 | 5=>5 | 70=>132 | 20=>20 | 37=>22 | 75=>179 | 127=>185 | 164=>213 | 46=>97 | 119=>268 | 139=>271 | 138=>270 | 146=>272 | 51=>243 | 80=>143 | n=>n,fun | 1=>8 | 3=>9 | 4=>10 | n=>n⟩
theorem Tryz.lays155:Go.Proofs.Lays.n155 Tryz.prog Tryz.lays155_ren:={
 mixed:=by kernel_rfl
 f138:=Tryz.func237.trans (congrArg some (by kernel_rfl))
 f143:=Tryz.func239.trans (congrArg some (by kernel_rfl))
 f154:=Tryz.func221.trans (congrArg some (by kernel_rfl))
 f155:=Tryz.func194.trans (congrArg some (by kernel_rfl))
 f165:=Tryz.func238.trans (congrArg some (by kernel_rfl))
 f166:=Tryz.func129.trans (congrArg some (by kernel_rfl))
 f169:=Tryz.func92.trans (congrArg some (by kernel_rfl))
 f195:=Tryz.func253.trans (congrArg some (by kernel_rfl))
 f197:=Tryz.func240.trans (congrArg some (by kernel_rfl))
 f217:=Tryz.func262.trans (congrArg some (by kernel_rfl))
 f218:=Tryz.func254.trans (congrArg some (by kernel_rfl))
 f219:=Tryz.func256.trans (congrArg some (by kernel_rfl))
 f224:=Tryz.func264.trans (congrArg some (by kernel_rfl))
 f225:=Tryz.func263.trans (congrArg some (by kernel_rfl))
 f240:=Tryz.func160.trans (congrArg some (by kernel_rfl))
 f241:=Tryz.func255.trans (congrArg some (by kernel_rfl))
 f260:=Tryz.func257.trans (congrArg some (by kernel_rfl))
 f266:=Tryz.func266.trans (congrArg some (by kernel_rfl))
 f267:=Tryz.func265.trans (congrArg some (by kernel_rfl))
 f276:=Tryz.func193.trans (congrArg some (by kernel_rfl))
 f277:=Tryz.func261.trans (congrArg some (by kernel_rfl))
 f314:=Tryz.func267.trans (congrArg some (by kernel_rfl))
 t0:=Tryz.underlying0
 a0:=Tryz.isAgg0
 z0:=Tryz.sizeOf0
 v0:=Tryz.zeroValue0
 t3:=Tryz.underlying3
 a3:=Tryz.isAgg3
 z3:=Tryz.sizeOf3
 v3:=Tryz.zeroValue3
 t4:=Tryz.underlying4
 a4:=Tryz.isAgg4
 z4:=Tryz.sizeOf4
 v4:=Tryz.zeroValue4
 t5:=Tryz.underlying5
 a5:=Tryz.isAgg5
 z5:=Tryz.sizeOf5
 v5:=Tryz.zeroValue5
 t9:=Tryz.underlying9
 a9:=Tryz.isAgg9
 z9:=Tryz.sizeOf9
 v9:=Tryz.zeroValue9
 t20:=Tryz.underlying20
 a20:=Tryz.isAgg20
 z20:=Tryz.sizeOf20
 v20:=Tryz.zeroValue20
 t21:=Tryz.underlying21
 a21:=Tryz.isAgg21
 z21:=Tryz.sizeOf21
 v21:=Tryz.zeroValue21
 t37:=Tryz.underlying22
 a37:=Tryz.isAgg22
 z37:=Tryz.sizeOf22
 v37:=Tryz.zeroValue22
 t46:=Tryz.underlying97
 a46:=Tryz.isAgg97
 z46:=Tryz.sizeOf97
 v46:=Tryz.zeroValue97
 t51:=Tryz.underlying243
 a51:=Tryz.isAgg243
 z51:=Tryz.sizeOf243
 v51:=Tryz.zeroValue243
 t70:=Tryz.underlying132
 a70:=Tryz.isAgg132
 z70:=Tryz.sizeOf132
 v70:=Tryz.zeroValue132
 t72:=Tryz.underlying134
 a72:=Tryz.isAgg134
 z72:=Tryz.sizeOf134
 v72:=Tryz.zeroValue134
 t75:=Tryz.underlying179
 a75:=Tryz.isAgg179
 z75:=Tryz.sizeOf179
 v75:=Tryz.zeroValue179
 t76:=Tryz.underlying180
 a76:=Tryz.isAgg180
 z76:=Tryz.sizeOf180
 v76:=Tryz.zeroValue180
 t105:=Tryz.underlying251
 a105:=Tryz.isAgg251
 z105:=Tryz.sizeOf251
 v105:=Tryz.zeroValue251
 t119:=Tryz.underlying268
 a119:=Tryz.isAgg268
 z119:=Tryz.sizeOf268
 t127:=Tryz.underlying185
 a127:=Tryz.isAgg185
 z127:=Tryz.sizeOf185
 v127:=Tryz.zeroValue185
 t138:=Tryz.underlying270
 a138:=Tryz.isAgg270
 z138:=Tryz.sizeOf270
 v138:=Tryz.zeroValue270
 t139:=Tryz.underlying271
 a139:=Tryz.isAgg271
 z139:=Tryz.sizeOf271
 v139:=Tryz.zeroValue271
 t146:=Tryz.underlying272
 a146:=Tryz.isAgg272
 z146:=Tryz.sizeOf272
 v146:=Tryz.zeroValue272
 t164:=Tryz.underlying213
 a164:=Tryz.isAgg213
 z164:=Tryz.sizeOf213
 v164:=Tryz.zeroValue213
 g1:=by kernel_rfl
 g3:=by kernel_rfl
 g4:=by kernel_rfl }
theorem Tryz.Builder_Extra_155:Builder.Extra Tryz.prog Tryz.lays155_ren:={
 sizeBuilder:=by kernel_rfl
 liesBuilder:=by kernel_rfl
 t5:=Tryz.underlying5
 a5:=Tryz.isAgg5
 z5:=Tryz.sizeOf5
 v5:=Tryz.zeroValue5
 infoByte:=by kernel_rfl
 cellsByte:=by kernel_rfl
 sizeByte:=by kernel_rfl
 neB5:=by decide }
open Go.RowKit Go.Lib in
theorem Tryz.strings_ReplaceAll (s old new:ByteArray) (m:Int) (w:World) (hs:s.size<4294967281) (hm:w.cell? ⟨8,0,none⟩=some (.int .i64 m)) (h1:1≤old.size) (hlen:s.size+Lib.countB s old*new.size≤140737488355328) :
 Calls Tryz.prog 194 #[.string s,.string old,.string new] w fun e w' =>
  e = .returned (.string ⟨(Lib.replaceAll s.data.toList old.data.toList new.data.toList).toArray⟩)∧Below w.heap.size w w':=Any.strings_ReplaceAll Tryz.lays155 Tryz.Builder_Extra_155 s old new m w hs hm h1 hlen
end Go.Proofs
namespace Go.Proofs.YtdnooocmlhcpkaaGreatDoor
open Go.RowKit
theorem ext_sbL (s:ByteArray) (a m:Nat):sb (s.extract a (a+m))=((sb s).drop a).take m:=by
 unfold sb;rw [← List.map_drop, ← List.map_take];congr 1
 rw [ByteArray.data_extract,Array.toList_extract]
 rw [List.extract_eq_take_drop]
 congr 1;omega
def restL (s:ByteArray) (k:Nat):List Int:=(sb s).drop k
theorem length_restL (s:ByteArray) (k:Nat):(restL s k).length=s.size - k:=by unfold restL;rw [List.length_drop,length_sb]
theorem restL_at (s:ByteArray) (k m:Nat) (h:k+m<s.size):(restL s k)[m]? = some ((s[k+m].toNat:Nat):Int):=by unfold restL;rw [List.getElem?_drop,sb_at s _ h]
theorem restL_take (s:ByteArray) (k m:Nat) (h:k+m<s.size):(restL s k).take (m+1)=(restL s k).take m++[((s[k+m].toNat:Nat):Int)]:=by
 rw [List.take_add_one,restL_at s k m h];rfl
theorem restL_cut (s:ByteArray) (k m:Nat):s.extract k (k+m)=strOfNums ((restL s k).take m):=by
 rw [← str_sb (s.extract k (k+m)),ext_sbL];rfl
theorem restL_drop (s:ByteArray) (k m:Nat):(restL s k).drop m=restL s (k+m):=by unfold restL;rw [List.drop_drop]
theorem restL_bd (s:ByteArray) (k:Nat):Bytes (restL s k):=fun a ha=>sb_bd s a (List.mem_of_mem_drop ha)
def lxm (b n:Nat) (w:World):Nat:=n - (match w.cell? ⟨b,1,none⟩ with | some (.int _ m)=>m.toNat | _=>0)
theorem LxAt.lxm {w:World} {b:Nat} {s:ByteArray} {k:Nat} (h:LxAt w b s k) (n:Nat):lxm b n w=n - k:=by
 unfold Go.Proofs.YtdnooocmlhcpkaaGreatDoor.lxm;rw [h.facts.2];rfl
def Took (p:Int→Bool) (s:ByteArray) (b k:Nat) (w:World) (e:Ending) (w':World):Prop :=
 w.grownBy w' (some b)∧e = .returned (.string (strOfNums ((restL s k).takeWhile p)))∧LxAt w' b s (k+((restL s k).takeWhile p).length)
theorem took_end {p:Int→Bool} {s:ByteArray} {b k m:Nat} {w wr:World} (hg:w.grownBy wr (some b)) (hall:∀ x∈(restL s k).take m,p x=true) (hstop:∀ x,(restL s k)[m]? = some x→p x=false) (hm:k+m≤s.size)
 (hr:LxAt wr b s (k+m)) (e:Ending) (he:e = .returned (.string (s.extract k (k+m)))):Took p s b k w e wr:=by
 have hsp:=span_stop p (restL s k) m hall hstop
 have hlen:((restL s k).take m).length=m:=by rw [List.length_take,length_restL];omega
 refine ⟨hg, ?_, ?_⟩
 · rw [hsp,he,restL_cut]
 · rw [hsp,hlen];exact hr
set_option maxRecDepth 100000 in
set_option maxHeartbeats 800000 in
theorem whileBlank_any (b:Nat) (s:ByteArray) (k:Nat) (w:World) (h:LxAt w b s k) (_hs:s.size≤1000000) (_hk:k≤s.size) :
 Calls Tryz.prog 181 #[.pointer (some ⟨b,0,none⟩),.func (.func 182) #[] #[]] w (Took isBl s b k w):=by
 have HR:=Lib.hid h
 obtain ⟨c0,c1⟩:=h.facts
 clear h
 go_enter Tryz.func181,Tryz.ntmps181
 go_wp2_with fail
 clear c0 c1
 go_loopw [] (fun wr=>∃ m:Nat,k+m≤s.size∧Hid (∀ x∈(restL s k).take m,isBl x=true)∧Hid (LxAt wr b s (k+m))∧Hid (w.grownBy wr (some b)))
  (fun wr=>lxm b s.size wr)
 case atStart=>exact ⟨0,by omega,Lib.hid (by simp),HR,Lib.hid (grownBy.refl' _ _)⟩
 case round =>
  obtain ⟨m,hkm,HM,HRD,HG⟩:=hrel
  obtain ⟨c0,c1⟩:=HRD.out.facts
  have f1:=HRD.out.frozen 1
  obtain ⟨p,hp⟩:∃ p:Nat,k+m=p:=⟨_,rfl⟩
  rw [hp] at c1
  have hz1:(0:Int)≤(k:Int):=by omega
  have hz2:(k:Int)≤(p:Int):=by omega
  have hz3:(p:Int)≤(s.size:Int):=by omega
  have hz4:(0:Int)≤(p:Int):=by omega
  by_cases hlt:p<s.size
  · have hlt2:(p:Int)<(s.size:Int):=by omega
    obtain ⟨a,ha⟩:∃ a:Int,(s[p].toNat:Int)=a:=⟨_,rfl⟩
    have ha1:0≤a∧a≤255:=by have:=s[p].toNat_lt;omega
    have hnx:(restL s k).take (m+1)=(restL s k).take m++[a]:=by subst hp;rw [restL_take s k m hlt,ha]
    have hat:(restL s k)[m]? = some a:=by subst hp;rw [restL_at s k m hlt,ha]
    have HNX:=Lib.hid hnx;clear hnx
    have HAT:=Lib.hid hat;clear hat
    have HP:=Lib.hid hp;clear hp
    by_cases hc:isBl a=true
    · have hall:=all_snoc HM.out hc
      rw [← HNX.out] at hall
      have HALL:=Lib.hid hall;clear hall
      go_wp2_with fail
      go_quiet ((go_at_call 182;exact quiet_call (lexBlank_any _ (by omega) (by omega) _)))
      go_wp2_with fail
      go_roundw
      case rel =>
       refine ⟨m+1,by have:=HP.out;omega,HALL,Lib.hid ?_,Lib.hid (grownBy.setCell' (grownBy.drewN' HG.out _) _ _)⟩
       rw [show k+(m+1)=p+1 from by have:=HP.out;omega]
       exact (HRD.out.drewN _).setK (p+1)
      case measure =>
       have h1:=((HRD.out.drewN nq).setK (p+1)).lxm s.size
       have h2:=HRD.out.lxm s.size
       have h3:=HP.out
       rw [h2]
       refine Nat.lt_of_le_of_lt (Nat.le_of_eq h1) (by omega)
    · have hc':isBl a=false:=by simpa using hc
      clear hc
      go_wp2_with fail
      go_quiet ((go_at_call 182;exact quiet_call (lexBlank_any _ (by omega) (by omega) _)))
      go_wp2_with fail
      go_quiet (fail)
      go_wp2_with fail
      go_ret
      have h3:=HP.out
      exact took_end (grownBy.drewN' (grownBy.drewN' HG.out _) _) HM.out (fun x hx=>by rw [HAT.out] at hx;injection hx with hx;rw [← hx];exact hc') (by omega) ((HRD.out.drewN _).drewN _) _ (by rw [h3];rfl)
  · have hlt2:¬ (p:Int)<(s.size:Int):=by omega
    have HP:=Lib.hid hp;clear hp
    go_wp2_with fail
    go_quiet (fail)
    go_wp2_with fail
    go_quiet (fail)
    go_wp2_with fail
    go_ret
    have h3:=HP.out
    exact took_end (grownBy.drewN' (grownBy.drewN' HG.out _) _) HM.out (fun x hx=>by have h1:=(List.getElem?_eq_some_iff.1 hx).1;rw [length_restL] at h1;omega) (by omega) ((HRD.out.drewN _).drewN _) _ (by rw [h3];rfl)
set_option maxRecDepth 100000 in
set_option maxHeartbeats 800000 in
theorem whileDigit_any (b:Nat) (s:ByteArray) (k:Nat) (w:World) (h:LxAt w b s k) (_hs:s.size≤1000000) (_hk:k≤s.size) :
 Calls Tryz.prog 181 #[.pointer (some ⟨b,0,none⟩),.func (.func 210) #[] #[]] w (Took isNum s b k w):=by
 have HR:=Lib.hid h
 obtain ⟨c0,c1⟩:=h.facts
 clear h
 go_enter Tryz.func181,Tryz.ntmps181
 go_wp2_with fail
 clear c0 c1
 go_loopw [] (fun wr=>∃ m:Nat,k+m≤s.size∧Hid (∀ x∈(restL s k).take m,isNum x=true)∧Hid (LxAt wr b s (k+m))∧Hid (w.grownBy wr (some b)))
  (fun wr=>lxm b s.size wr)
 case atStart=>exact ⟨0,by omega,Lib.hid (by simp),HR,Lib.hid (grownBy.refl' _ _)⟩
 case round =>
  obtain ⟨m,hkm,HM,HRD,HG⟩:=hrel
  obtain ⟨c0,c1⟩:=HRD.out.facts
  have f1:=HRD.out.frozen 1
  obtain ⟨p,hp⟩:∃ p:Nat,k+m=p:=⟨_,rfl⟩
  rw [hp] at c1
  have hz1:(0:Int)≤(k:Int):=by omega
  have hz2:(k:Int)≤(p:Int):=by omega
  have hz3:(p:Int)≤(s.size:Int):=by omega
  have hz4:(0:Int)≤(p:Int):=by omega
  by_cases hlt:p<s.size
  · have hlt2:(p:Int)<(s.size:Int):=by omega
    obtain ⟨a,ha⟩:∃ a:Int,(s[p].toNat:Int)=a:=⟨_,rfl⟩
    have ha1:0≤a∧a≤255:=by have:=s[p].toNat_lt;omega
    have hnx:(restL s k).take (m+1)=(restL s k).take m++[a]:=by subst hp;rw [restL_take s k m hlt,ha]
    have hat:(restL s k)[m]? = some a:=by subst hp;rw [restL_at s k m hlt,ha]
    have HNX:=Lib.hid hnx;clear hnx
    have HAT:=Lib.hid hat;clear hat
    have HP:=Lib.hid hp;clear hp
    by_cases hc:isNum a=true
    · have hall:=all_snoc HM.out hc
      rw [← HNX.out] at hall
      have HALL:=Lib.hid hall;clear hall
      go_wp2_with fail
      go_quiet ((go_at_call 210;exact quiet_call (lexDigit_any _ (by omega) (by omega) _)))
      go_wp2_with fail
      go_roundw
      case rel =>
       refine ⟨m+1,by have:=HP.out;omega,HALL,Lib.hid ?_,Lib.hid (grownBy.setCell' (grownBy.drewN' HG.out _) _ _)⟩
       rw [show k+(m+1)=p+1 from by have:=HP.out;omega]
       exact (HRD.out.drewN _).setK (p+1)
      case measure =>
       have h1:=((HRD.out.drewN nq).setK (p+1)).lxm s.size
       have h2:=HRD.out.lxm s.size
       have h3:=HP.out
       rw [h2]
       refine Nat.lt_of_le_of_lt (Nat.le_of_eq h1) (by omega)
    · have hc':isNum a=false:=by simpa using hc
      clear hc
      go_wp2_with fail
      go_quiet ((go_at_call 210;exact quiet_call (lexDigit_any _ (by omega) (by omega) _)))
      go_wp2_with fail
      go_quiet (fail)
      go_wp2_with fail
      go_ret
      have h3:=HP.out
      exact took_end (grownBy.drewN' (grownBy.drewN' HG.out _) _) HM.out (fun x hx=>by rw [HAT.out] at hx;injection hx with hx;rw [← hx];exact hc') (by omega) ((HRD.out.drewN _).drewN _) _ (by rw [h3];rfl)
  · have hlt2:¬ (p:Int)<(s.size:Int):=by omega
    have HP:=Lib.hid hp;clear hp
    go_wp2_with fail
    go_quiet (fail)
    go_wp2_with fail
    go_quiet (fail)
    go_wp2_with fail
    go_ret
    have h3:=HP.out
    exact took_end (grownBy.drewN' (grownBy.drewN' HG.out _) _) HM.out (fun x hx=>by have h1:=(List.getElem?_eq_some_iff.1 hx).1;rw [length_restL] at h1;omega) (by omega) ((HRD.out.drewN _).drewN _) _ (by rw [h3];rfl)
set_option maxRecDepth 100000 in
set_option maxHeartbeats 800000 in
theorem whileWord_any (b:Nat) (s:ByteArray) (k:Nat) (w:World) (h:LxAt w b s k) (_hs:s.size≤1000000) (_hk:k≤s.size) :
 Calls Tryz.prog 181 #[.pointer (some ⟨b,0,none⟩),.func (.func 234) #[] #[]] w (Took isWord s b k w):=by
 have HR:=Lib.hid h
 obtain ⟨c0,c1⟩:=h.facts
 clear h
 go_enter Tryz.func181,Tryz.ntmps181
 go_wp2_with fail
 clear c0 c1
 go_loopw [] (fun wr=>∃ m:Nat,k+m≤s.size∧Hid (∀ x∈(restL s k).take m,isWord x=true)∧Hid (LxAt wr b s (k+m))∧Hid (w.grownBy wr (some b)))
  (fun wr=>lxm b s.size wr)
 case atStart=>exact ⟨0,by omega,Lib.hid (by simp),HR,Lib.hid (grownBy.refl' _ _)⟩
 case round =>
  obtain ⟨m,hkm,HM,HRD,HG⟩:=hrel
  obtain ⟨c0,c1⟩:=HRD.out.facts
  have f1:=HRD.out.frozen 1
  obtain ⟨p,hp⟩:∃ p:Nat,k+m=p:=⟨_,rfl⟩
  rw [hp] at c1
  have hz1:(0:Int)≤(k:Int):=by omega
  have hz2:(k:Int)≤(p:Int):=by omega
  have hz3:(p:Int)≤(s.size:Int):=by omega
  have hz4:(0:Int)≤(p:Int):=by omega
  by_cases hlt:p<s.size
  · have hlt2:(p:Int)<(s.size:Int):=by omega
    obtain ⟨a,ha⟩:∃ a:Int,(s[p].toNat:Int)=a:=⟨_,rfl⟩
    have ha1:0≤a∧a≤255:=by have:=s[p].toNat_lt;omega
    have hnx:(restL s k).take (m+1)=(restL s k).take m++[a]:=by subst hp;rw [restL_take s k m hlt,ha]
    have hat:(restL s k)[m]? = some a:=by subst hp;rw [restL_at s k m hlt,ha]
    have HNX:=Lib.hid hnx;clear hnx
    have HAT:=Lib.hid hat;clear hat
    have HP:=Lib.hid hp;clear hp
    by_cases hc:isWord a=true
    · have hall:=all_snoc HM.out hc
      rw [← HNX.out] at hall
      have HALL:=Lib.hid hall;clear hall
      go_wp2_with fail
      go_quiet ((go_at_call 234;exact quiet_call (isOfWord_any _ (by omega) (by omega) _)))
      go_wp2_with fail
      go_roundw
      case rel =>
       refine ⟨m+1,by have:=HP.out;omega,HALL,Lib.hid ?_,Lib.hid (grownBy.setCell' (grownBy.drewN' HG.out _) _ _)⟩
       rw [show k+(m+1)=p+1 from by have:=HP.out;omega]
       exact (HRD.out.drewN _).setK (p+1)
      case measure =>
       have h1:=((HRD.out.drewN nq).setK (p+1)).lxm s.size
       have h2:=HRD.out.lxm s.size
       have h3:=HP.out
       rw [h2]
       refine Nat.lt_of_le_of_lt (Nat.le_of_eq h1) (by omega)
    · have hc':isWord a=false:=by simpa using hc
      clear hc
      go_wp2_with fail
      go_quiet ((go_at_call 234;exact quiet_call (isOfWord_any _ (by omega) (by omega) _)))
      go_wp2_with fail
      go_quiet (fail)
      go_wp2_with fail
      go_ret
      have h3:=HP.out
      exact took_end (grownBy.drewN' (grownBy.drewN' HG.out _) _) HM.out (fun x hx=>by rw [HAT.out] at hx;injection hx with hx;rw [← hx];exact hc') (by omega) ((HRD.out.drewN _).drewN _) _ (by rw [h3];rfl)
  · have hlt2:¬ (p:Int)<(s.size:Int):=by omega
    have HP:=Lib.hid hp;clear hp
    go_wp2_with fail
    go_quiet (fail)
    go_wp2_with fail
    go_quiet (fail)
    go_wp2_with fail
    go_ret
    have h3:=HP.out
    exact took_end (grownBy.drewN' (grownBy.drewN' HG.out _) _) HM.out (fun x hx=>by have h1:=(List.getElem?_eq_some_iff.1 hx).1;rw [length_restL] at h1;omega) (by omega) ((HRD.out.drewN _).drewN _) _ (by rw [h3];rfl)
set_option maxHeartbeats 400000 in
theorem skipBlanks_any (b:Nat) (s:ByteArray) (k:Nat) (w:World) (h:LxAt w b s k) (_hs:s.size≤1000000) (_hk:k≤s.size) :
 Calls Tryz.prog 151 #[.pointer (some ⟨b,0,none⟩)] w fun e w'=>w.grownBy w' (some b)∧e = .returned (.tuple #[])∧LxAt w' b s (k+((restL s k).takeWhile isBl).length):=by
 have HW:=Lib.hid (whileBlank_any b s k w h _hs _hk);clear h
 go_enter Tryz.func151,Tryz.ntmps151
 go_wp2_with (go_at_call 181;((with_reducible refine HW.out.mono ?_);rintro e w1 ⟨h1,rfl,h2⟩;have H1:=Lib.hid h1;have H2:=Lib.hid h2;clear h1 h2))
 first
  | exact bodyPost_ret (results_none rfl _ _ _) rfl ⟨H1.out,rfl,H2.out⟩
  | (go_end0;exact ⟨H1.out,rfl,H2.out⟩)
def headL (p l:List Int):Bool:=decide (l.take p.length=p)
theorem hasPrefix_nums:∀ (l p:List UInt8),Lib.hasPrefix l p=headL (p.map fun x=>(x.toNat:Int)) (l.map fun x=>(x.toNat:Int))
 | l,[]=>by unfold Lib.hasPrefix headL;simp
 | [],x :: p=>by unfold Lib.hasPrefix headL;simp
 | y :: l,x :: p=>by
   have ih:=hasPrefix_nums l p
   unfold Lib.hasPrefix headL at ih ⊢
   rw [List.isPrefixOf_cons_cons,ih]
   simp only [List.map_cons,List.length_cons,List.take_succ_cons,List.cons.injEq]
   rw [Bool.eq_iff_iff,Bool.and_eq_true,beq_iff_eq,decide_eq_true_iff,decide_eq_true_iff]
   refine and_congr ⟨fun h=>by rw [h],fun h => ?_⟩ Iff.rfl
   apply UInt8.toNat_inj.1;omega
theorem headL_len {p l:List Int} (h:headL p l=true):p.length≤l.length:=by
 unfold headL at h;rw [decide_eq_true_iff] at h
 have:=congrArg List.length h
 rw [List.length_take] at this;omega
theorem prefix_rest (s t:ByteArray) (k:Nat):Lib.hasPrefix (s.extract k s.size).data.toList t.data.toList=headL (sb t) (restL s k):=by
 rw [hasPrefix_nums]
 show headL (sb t) (sb (s.extract k s.size))=_
 congr 1
 by_cases hk:k≤s.size
 · have:=ext_sbL s k (s.size - k)
   rw [show k+(s.size - k)=s.size from by omega] at this
   rw [this]
   unfold restL
   rw [List.take_of_length_le]
   rw [List.length_drop,length_sb];omega
 · have h1:(sb (s.extract k s.size)).length=0:=by rw [length_sb,ByteArray.size_extract];omega
   have h2:(restL s k).length=0:=by rw [length_restL];omega
   rw [List.eq_nil_of_length_eq_zero h1,List.eq_nil_of_length_eq_zero h2]
set_option maxHeartbeats 400000 in
theorem take_any (b:Nat) (s t:ByteArray) (k:Nat) (w:World) (h:LxAt w b s k) (_hs:s.size≤1000000) (_hk:k≤s.size) (_ht:t.size≤1000000) :
 Calls Tryz.prog 232 #[.pointer (some ⟨b,0,none⟩),.string t] w fun e w'=>w.grownBy w' (some b)∧e = .returned (.bool (headL (sb t) (restL s k)))∧LxAt w' b s (if headL (sb t) (restL s k)=true then k+t.size else k):=by
 obtain ⟨c0,c1⟩:=h.facts
 have f1:=h.frozen 1
 have HR:=Lib.hid h;clear h
 have hz1:(0:Int)≤(k:Int):=by omega
 have hz2:(k:Int)≤(s.size:Int):=by omega
 cases hq:headL (sb t) (restL s k)
 · have HP:=Lib.hid (prefix_rest s t k);rw [hq] at HP
   go_enter Tryz.func232,Tryz.ntmps232
   go_wp2_with fail
   go_quiet ((go_at_call 245;exact Calls.quiet_of_same ((Tryz.strings_HasPrefix _ _ _).mono (fun _ _ ⟨a,c⟩=>⟨by rw [a,HP.out],c⟩))))
   go_wp2_with fail
   go_ret
   exact ⟨grownBy.drewN' (grownBy.refl' _ _) _,rfl,HR.out.drewN _⟩
 · have HP:=Lib.hid (prefix_rest s t k);rw [hq] at HP
   have hle:=headL_len hq
   rw [length_restL,length_sb] at hle
   go_enter Tryz.func232,Tryz.ntmps232
   go_wp2_with fail
   go_quiet ((go_at_call 245;exact Calls.quiet_of_same ((Tryz.strings_HasPrefix _ _ _).mono (fun _ _ ⟨a,c⟩=>⟨by rw [a,HP.out],c⟩))))
   go_wp2_with fail
   go_ret
   exact ⟨grownBy.setCell' (grownBy.drewN' (grownBy.refl' _ _) _) _ _,rfl,(HR.out.drewN _).setK (k+t.size)⟩
def nmL (l:List Int):Bool:=decide (∀ x∈l,(isCap x||isNum x)=true)&&decide (l.length≤12)
theorem nmL_bad (s:ByteArray) (k:Nat) (h:k<s.size) (hx:(isCap ((sb s).getD k 0)||isNum ((sb s).getD k 0))=false):nmL (sb s)=false:=by
 unfold nmL;rw [Bool.and_eq_false_iff];left;rw [decide_eq_false_iff_not];intro hall
 have:=hall ((sb s).getD k 0) (by rw [sb_getD s k h];exact List.mem_of_getElem? (sb_at s k h))
 rw [hx] at this;cases this
theorem nmL_all (s:ByteArray) (h:∀ j,j<s.size→(isCap ((sb s).getD j 0)||isNum ((sb s).getD j 0))=true):nmL (sb s)=decide (s.size≤12):=by
 unfold nmL;rw [decide_eq_true (show ∀ x∈sb s,(isCap x||isNum x)=true from ?_),Bool.true_and,length_sb]
 intro x hx
 obtain ⟨j,hj,rfl⟩:=List.mem_iff_getElem.1 hx
 have:=h j (by rw [length_sb] at hj;exact hj)
 rw [List.getD_eq_getElem?_getD,List.getElem?_eq_getElem hj] at this
 exact this
set_option maxRecDepth 100000 in
set_option maxHeartbeats 400000 in
theorem isName_any (s:ByteArray) (w:World) (_hs:s.size≤1000000) :
 Calls Tryz.prog 236 #[.string s] w fun e w'=>e = .returned (.bool (nmL (sb s)))∧w=w':=by
 go_enter Tryz.func236,Tryz.ntmps236
 go_wp2_with fail
 go_loopw [6] (fun i wr=>∃ k:Nat,k≤s.size∧i = .int .i64 k∧Hid (∀ j,j<k→(isCap ((sb s).getD j 0)||isNum ((sb s).getD j 0))=true)∧w=wr)
  (fun i _=>s.size - (intOf i).toNat)
 case atStart=>exact ⟨0,by omega,rfl,Lib.hid (by intro j hj;omega),rfl⟩
 case round =>
  obtain ⟨k,hk,rfl,HG,rfl⟩:=hrel
  by_cases hlt:k<s.size
  · have hki:(k:Int)<(s.size:Int):=by omega
    obtain ⟨a,ha⟩:∃ a:Int,(s[k].toNat:Int)=a:=⟨_,rfl⟩
    have ha1:0≤a∧a≤255:=by have:=s[k].toNat_lt;omega
    have HGB:=Lib.hid (show (sb s).getD k 0=a by rw [sb_getD s k hlt,ha])
    have hnext:(isCap a||isNum a)=true→∀ j,j<k+1→(isCap ((sb s).getD j 0)||isNum ((sb s).getD j 0))=true:=by
     intro h j hj
     by_cases h1:j<k
     · exact HG.out j h1
     · rw [show j=k from by omega,HGB.out];exact h
    have HNEXT:=Lib.hid hnext;clear hnext
    cases hc:isCap a
    · cases hn:isNum a
      · have HNO:=Lib.hid (nmL_bad s k hlt (by rw [HGB.out,hc,hn];rfl))
        go_wp2_with (first
         | (go_at_call 233;((with_reducible refine (lexCapital_any _ ?_ ?_ _).mono ?_);(first | omega | skip);(first | omega | skip);rintro e w' ⟨rfl,rfl⟩;rw [hc]))
         | (go_at_call 210;((with_reducible refine (lexDigit_any _ ?_ ?_ _).mono ?_);(first | omega | skip);(first | omega | skip);rintro e w' ⟨rfl,rfl⟩;rw [hn])))
        go_ret
        exact ⟨ret_bool HNO.out.symm,rfl⟩
      · go_wp2_with (first
         | (go_at_call 233;((with_reducible refine (lexCapital_any _ ?_ ?_ _).mono ?_);(first | omega | skip);(first | omega | skip);rintro e w' ⟨rfl,rfl⟩;rw [hc]))
         | (go_at_call 210;((with_reducible refine (lexDigit_any _ ?_ ?_ _).mono ?_);(first | omega | skip);(first | omega | skip);rintro e w' ⟨rfl,rfl⟩;rw [hn])))
        go_roundw
        case rel=>exact ⟨k+1,by omega,by go_num,Lib.hid (HNEXT.out (by rw [hc,hn];rfl)),by trivial⟩
        case measure=>simp [intOf];omega
    · go_wp2_with (first
       | (go_at_call 233;((with_reducible refine (lexCapital_any _ ?_ ?_ _).mono ?_);(first | omega | skip);(first | omega | skip);rintro e w' ⟨rfl,rfl⟩;rw [hc])))
      go_roundw
      case rel=>exact ⟨k+1,by omega,by go_num,Lib.hid (HNEXT.out (by rw [hc];rfl)),by trivial⟩
      case measure=>simp [intOf];omega
  · have hki:¬ (k:Int)<(s.size:Int):=by omega
    have HA:=Lib.hid (nmL_all s (fun j hj=>HG.out j (by omega)))
    go_wp2_with fail
    go_ret
    refine ⟨ret_bool (by rw [HA.out,decide_eq_decide];omega),rfl⟩
def methN (c:Int):FuncId:=if isNum c=true then 211 else if c=34 then 212 else if c=35 then 213 else if isBeg c=true then 215 else 216
theorem methN_num {c:Int} (h:isNum c=true):methN c=211:=by unfold methN;rw [if_pos h]
theorem methN_quo {c:Int} (h:isNum c=false) (h1:c=34):methN c=212:=by unfold methN;rw [if_neg (by simp [h]),if_pos h1]
theorem methN_dead {c:Int} (h:isNum c=false) (h1:¬ c=34) (h2:c=35):methN c=213:=by unfold methN;rw [if_neg (by simp [h]),if_neg h1,if_pos h2]
theorem methN_word {c:Int} (h:isNum c=false) (h1:¬ c=34) (h2:¬ c=35) (h3:isBeg c=true):methN c=215:=by unfold methN;rw [if_neg (by simp [h]),if_neg h1,if_neg h2,if_pos h3]
theorem methN_sign {c:Int} (h:isNum c=false) (h1:¬ c=34) (h2:¬ c=35) (h3:isBeg c=false):methN c=216:=by unfold methN;rw [if_neg (by simp [h]),if_neg h1,if_neg h2,if_neg (by simp [h3])]
set_option maxHeartbeats 400000 in
theorem methodOf_any (c:Int) (_h0:0≤c) (_h1:c≤255) (w:World) :
 Calls Tryz.prog 183 #[.int .u8 c] w fun e w'=>e = .returned (.func (.func (methN c)) #[] #[])∧w=w':=by
 cases hn:isNum c
 · by_cases h34:c=34
   · have HM:=Lib.hid (methN_quo hn h34)
     have hb1:(c == 34)=true:=beq_iff_eq.2 h34
     clear h34
     go_enter Tryz.func183,Tryz.ntmps183
     go_wp2_with (first
      | (go_at_call 210;((with_reducible refine (lexDigit_any _ ?_ ?_ _).mono ?_);(first | omega | skip);(first | omega | skip);rintro e w' ⟨rfl,rfl⟩;rw [hn]))
      | (go_at_call 214;((with_reducible refine (beginsWord_any _ ?_ ?_ _).mono ?_);(first | omega | skip);(first | omega | skip);rintro e w' ⟨rfl,rfl⟩;rw [hb])))
     all_goals go_ret
     all_goals exact ⟨by rw [HM.out];rfl,rfl⟩
   · have hb1:(c == 34)=false:=beq_eq_false_iff_ne.2 h34
     by_cases h35:c=35
     · have HM:=Lib.hid (methN_dead hn h34 h35)
       have hb2:(c == 35)=true:=beq_iff_eq.2 h35
       clear h34 h35
       go_enter Tryz.func183,Tryz.ntmps183
       go_wp2_with (first
        | (go_at_call 210;((with_reducible refine (lexDigit_any _ ?_ ?_ _).mono ?_);(first | omega | skip);(first | omega | skip);rintro e w' ⟨rfl,rfl⟩;rw [hn]))
        | (go_at_call 214;((with_reducible refine (beginsWord_any _ ?_ ?_ _).mono ?_);(first | omega | skip);(first | omega | skip);rintro e w' ⟨rfl,rfl⟩;rw [hb])))
       all_goals go_ret
       all_goals exact ⟨by rw [HM.out];rfl,rfl⟩
     · have hb2:(c == 35)=false:=beq_eq_false_iff_ne.2 h35
       cases hb:isBeg c
       · have HM:=Lib.hid (methN_sign hn h34 h35 hb)
         clear h34 h35
         go_enter Tryz.func183,Tryz.ntmps183
         go_wp2_with (first
          | (go_at_call 210;((with_reducible refine (lexDigit_any _ ?_ ?_ _).mono ?_);(first | omega | skip);(first | omega | skip);rintro e w' ⟨rfl,rfl⟩;rw [hn]))
          | (go_at_call 214;((with_reducible refine (beginsWord_any _ ?_ ?_ _).mono ?_);(first | omega | skip);(first | omega | skip);rintro e w' ⟨rfl,rfl⟩;rw [hb])))
         all_goals go_ret
         all_goals exact ⟨by rw [HM.out];rfl,rfl⟩
       · have HM:=Lib.hid (methN_word hn h34 h35 hb)
         clear h34 h35
         go_enter Tryz.func183,Tryz.ntmps183
         go_wp2_with (first
          | (go_at_call 210;((with_reducible refine (lexDigit_any _ ?_ ?_ _).mono ?_);(first | omega | skip);(first | omega | skip);rintro e w' ⟨rfl,rfl⟩;rw [hn]))
          | (go_at_call 214;((with_reducible refine (beginsWord_any _ ?_ ?_ _).mono ?_);(first | omega | skip);(first | omega | skip);rintro e w' ⟨rfl,rfl⟩;rw [hb])))
         all_goals go_ret
         all_goals exact ⟨by rw [HM.out];rfl,rfl⟩
 · have HM:=Lib.hid (methN_num hn)
   go_enter Tryz.func183,Tryz.ntmps183
   go_wp2_with (first
    | (go_at_call 210;((with_reducible refine (lexDigit_any _ ?_ ?_ _).mono ?_);(first | omega | skip);(first | omega | skip);rintro e w' ⟨rfl,rfl⟩;rw [hn]))
    | (go_at_call 214;((with_reducible refine (beginsWord_any _ ?_ ?_ _).mono ?_);(first | omega | skip);(first | omega | skip);rintro e w' ⟨rfl,rfl⟩;skip)))
   all_goals go_ret
   all_goals exact ⟨by rw [HM.out];rfl,rfl⟩
def TokOut (o:Option (Tk × Nat)) (b:Nat) (s:ByteArray) (k:Nat) (w:World) (e:Ending) (w':World):Prop :=
 w.grownBy w' (some b)∧((∃ t n,o=some (t,n)∧e = .returned (.tuple #[.agg (tokA t),.bool true])∧LxAt w' b s (k+n))∨(o=none∧∃ t,e = .returned (.tuple #[.agg (tokA t),.bool false])))
theorem grownBy.setNew {a w:World} {r:Option Nat} (h:a.grownBy w r) (ad:Addr) (v:Value) (hg:a.heap.size≤ad.block):a.grownBy (w.setCell ad v) r :=
 ⟨h.os,h.tape,h.output,by simpa using h.size,fun j hj hr=>by
  rw [Below.heap_setCell _ _ _ _ (by intro e;omega)];exact h.block j hj hr⟩
theorem grownBy.set9 {a w:World} {r:Option Nat} {g:Nat} (h:a.grownBy w r) (hg:a.heap.size≤g) (v0 v1 v2 v3 v4 v5 v6 v7 v8:Value) :
 a.grownBy (((((((((w.setCell ⟨g,0,none⟩ v0).setCell ⟨g,1,none⟩ v1).setCell ⟨g,2,none⟩ v2).setCell ⟨g,3,none⟩ v3).setCell ⟨g,4,none⟩ v4).setCell ⟨g,5,none⟩ v5).setCell ⟨g,6,none⟩ v6).setCell ⟨g,7,none⟩ v7).setCell ⟨g,8,none⟩ v8) r :=
 grownBy.setNew (grownBy.setNew (grownBy.setNew (grownBy.setNew (grownBy.setNew (grownBy.setNew (grownBy.setNew (grownBy.setNew (grownBy.setNew (h) _ _ hg) _ _ hg) _ _ hg) _ _ hg) _ _ hg) _ _ hg) _ _ hg) _ _ hg) _ _ hg
theorem LxAt.other {w:World} {b:Nat} {s:ByteArray} {k:Nat} (h:LxAt w b s k) (ad:Addr) (v:Value) (hne:ad.block≠b):LxAt (w.setCell ad v) b s k:=by
 unfold LxAt;rw [Below.heap_setCell _ _ _ _ (by intro e;exact hne e.symm)];exact h
theorem LxAt.set9 {w:World} {b:Nat} {s:ByteArray} {k g:Nat} (h:LxAt w b s k) (hg:g≠b) (v0 v1 v2 v3 v4 v5 v6 v7 v8:Value) :
 LxAt (((((((((w.setCell ⟨g,0,none⟩ v0).setCell ⟨g,1,none⟩ v1).setCell ⟨g,2,none⟩ v2).setCell ⟨g,3,none⟩ v3).setCell ⟨g,4,none⟩ v4).setCell ⟨g,5,none⟩ v5).setCell ⟨g,6,none⟩ v6).setCell ⟨g,7,none⟩ v7).setCell ⟨g,8,none⟩ v8) b s k :=
 ((((((((h.other _ _ hg).other _ _ hg).other _ _ hg).other _ _ hg).other _ _ hg).other _ _ hg).other _ _ hg).other _ _ hg).other _ _ hg
theorem TkAt.cells {w:World} {b:Nat} {t:Tk} (h:TkAt w b t):w.cell? ⟨b,0,none⟩=some (.int .i64 t.kind)∧w.cell? ⟨b,1,none⟩=some (.string t.text)∧w.cell? ⟨b,2,none⟩=some (.int .i64 t.num)∧w.cell? ⟨b,3,none⟩=some (.string t.sh)∧w.cell? ⟨b,4,none⟩=some (.int .i64 t.c)∧w.cell? ⟨b,5,none⟩=some (.int .i64 t.r)∧w.cell? ⟨b,6,none⟩=some (.bool t.ac)∧w.cell? ⟨b,7,none⟩=some (.bool t.ar)∧w.cell? ⟨b,8,none⟩=some (.int .i64 t.pos) :=
 ⟨by rw [cell_of_row w b 0 _ _ _ h];rfl,by rw [cell_of_row w b 1 _ _ _ h];rfl,by rw [cell_of_row w b 2 _ _ _ h];rfl,by rw [cell_of_row w b 3 _ _ _ h];rfl,by rw [cell_of_row w b 4 _ _ _ h];rfl,by rw [cell_of_row w b 5 _ _ _ h];rfl,by rw [cell_of_row w b 6 _ _ _ h];rfl,by rw [cell_of_row w b 7 _ _ _ h];rfl,by rw [cell_of_row w b 8 _ _ _ h];rfl⟩
theorem TkAt.melts {w:World} {b:Nat} {t:Tk} (h:TkAt w b t):w.frozen? ⟨b,0,none⟩=false∧w.frozen? ⟨b,1,none⟩=false∧w.frozen? ⟨b,2,none⟩=false∧w.frozen? ⟨b,3,none⟩=false∧w.frozen? ⟨b,4,none⟩=false∧w.frozen? ⟨b,5,none⟩=false∧w.frozen? ⟨b,6,none⟩=false∧w.frozen? ⟨b,7,none⟩=false∧w.frozen? ⟨b,8,none⟩=false :=
 ⟨h.frozen 0,h.frozen 1,h.frozen 2,h.frozen 3,h.frozen 4,h.frozen 5,h.frozen 6,h.frozen 7,h.frozen 8⟩
abbrev zTok:Array Value:=#[.int .i64 0,.string ⟨#[]⟩,.int .i64 0,.string ⟨#[]⟩,.int .i64 0,.int .i64 0,.bool false,.bool false,.int .i64 0]
theorem TkAt.zero (w:World):TkAt (w.alloc (.cells zTok 154)) w.heap.size Tk.zero:=TkAt.new w Tk.zero
theorem TkAt.load {w:World} {b:Nat} {t:Tk} (h:TkAt w b t):(loadVar 154 ⟨b,0,none⟩).run Tryz.prog w = .ok (.agg (tokA t)) w :=
 run_loadVar_row w b 154 154 _ _ _ h Tryz.underlying154 rfl tok_size
theorem out_tok {w:World} {b:Nat} {t:Tk} (h:TkAt w b t) (fn:Func) (tmps:Array Value) (ok:Bool) (p u:Tmp) (hf:fn.results=#[.cell p 154,.tmp u]) (hp:tmps.getD p undef = .pointer (some ⟨b,0,none⟩)) (hu:tmps.getD u undef = .bool ok) :
 (results fn tmps).run Tryz.prog w = .ok (.tuple #[.agg (tokA t),.bool ok]) w:=by
 rw [results_cell_tmp hf,hp,hu]
 simp [asAddr,h.load,Result.andThen]
theorem TkAt.set0 {w:World} {b:Nat} {t:Tk} (h:TkAt w b t) (x:Int):TkAt (w.setCell ⟨b,0,none⟩ (.int .i64 x)) b { t with kind:=x }:=by unfold TkAt;rw [heap_setCell_same w b 0 _ _ _ h];rfl
theorem TkAt.set1 {w:World} {b:Nat} {t:Tk} (h:TkAt w b t) (x:ByteArray):TkAt (w.setCell ⟨b,1,none⟩ (.string x)) b { t with text:=x }:=by unfold TkAt;rw [heap_setCell_same w b 1 _ _ _ h];rfl
theorem TkAt.set2 {w:World} {b:Nat} {t:Tk} (h:TkAt w b t) (x:Int):TkAt (w.setCell ⟨b,2,none⟩ (.int .i64 x)) b { t with num:=x }:=by unfold TkAt;rw [heap_setCell_same w b 2 _ _ _ h];rfl
theorem TkAt.set3 {w:World} {b:Nat} {t:Tk} (h:TkAt w b t) (x:ByteArray):TkAt (w.setCell ⟨b,3,none⟩ (.string x)) b { t with sh:=x }:=by unfold TkAt;rw [heap_setCell_same w b 3 _ _ _ h];rfl
theorem TkAt.set4 {w:World} {b:Nat} {t:Tk} (h:TkAt w b t) (x:Int):TkAt (w.setCell ⟨b,4,none⟩ (.int .i64 x)) b { t with c:=x }:=by unfold TkAt;rw [heap_setCell_same w b 4 _ _ _ h];rfl
theorem TkAt.set5 {w:World} {b:Nat} {t:Tk} (h:TkAt w b t) (x:Int):TkAt (w.setCell ⟨b,5,none⟩ (.int .i64 x)) b { t with r:=x }:=by unfold TkAt;rw [heap_setCell_same w b 5 _ _ _ h];rfl
theorem TkAt.set6 {w:World} {b:Nat} {t:Tk} (h:TkAt w b t) (x:Bool):TkAt (w.setCell ⟨b,6,none⟩ (.bool x)) b { t with ac:=x }:=by unfold TkAt;rw [heap_setCell_same w b 6 _ _ _ h];rfl
theorem TkAt.set7 {w:World} {b:Nat} {t:Tk} (h:TkAt w b t) (x:Bool):TkAt (w.setCell ⟨b,7,none⟩ (.bool x)) b { t with ar:=x }:=by unfold TkAt;rw [heap_setCell_same w b 7 _ _ _ h];rfl
theorem TkAt.set8 {w:World} {b:Nat} {t:Tk} (h:TkAt w b t) (x:Int):TkAt (w.setCell ⟨b,8,none⟩ (.int .i64 x)) b { t with pos:=x }:=by unfold TkAt;rw [heap_setCell_same w b 8 _ _ _ h];rfl
theorem TkAt.put9 {w:World} {b:Nat} {t0:Tk} (h:TkAt w b t0) (t:Tk):TkAt (((((((((w.setCell ⟨b,0,none⟩ (.int .i64 t.kind)).setCell ⟨b,1,none⟩ (.string t.text)).setCell ⟨b,2,none⟩ (.int .i64 t.num)).setCell ⟨b,3,none⟩ (.string t.sh)).setCell ⟨b,4,none⟩ (.int .i64 t.c)).setCell ⟨b,5,none⟩ (.int .i64 t.r)).setCell ⟨b,6,none⟩ (.bool t.ac)).setCell ⟨b,7,none⟩ (.bool t.ar)).setCell ⟨b,8,none⟩ (.int .i64 t.pos)) b t:=by
 have h9:=(((((((((h.set0 t.kind).set1 t.text).set2 t.num).set3 t.sh).set4 t.c).set5 t.r).set6 t.ac).set7 t.ar).set8 t.pos)
 exact h9
theorem atoi_parse:∀ (l:List UInt8) (a:Nat) (L:List Int),a<18446744073709551616→valL L=(a:Int)→(∀ c∈l,48≤c.toNat∧c.toNat≤57) →
 Lib.parseUint10 a l=if valL (L++l.map fun x=>(x.toNat:Int))<18446744073709551616 then .ok (valL (L++l.map fun x=>(x.toNat:Int))).toNat else .range
 | [],a,L,ha,hL,_=>by
   simp only [List.map_nil,List.append_nil]
   rw [hL,if_pos (by omega)];unfold Lib.parseUint10;simp
 | c :: l,a,L,ha,hL,h=>by
   have hc:=h c (by simp)
   have hv:valL (L++[(c.toNat:Int)])=10*(a:Int)+((c.toNat:Int) - 48):=by rw [valL_snoc,hL]
   have hge:=valL_ge (l.map fun x=>(x.toNat:Int)) (L++[(c.toNat:Int)]) (by
    intro x hx;rw [List.mem_map] at hx;obtain ⟨d,hd,rfl⟩:=hx
    have:=h d (by simp [hd])
    unfold isNum;rw [decide_eq_true_iff];omega) (by omega)
   have e:L++(c :: l).map (fun x=>(x.toNat:Int))=L++[(c.toNat:Int)]++l.map fun x=>(x.toNat:Int):=by simp
   rw [e]
   unfold Lib.parseUint10
   rw [if_pos hc]
   by_cases h1:1844674407370955162≤a
   · rw [if_pos h1,if_neg (by omega)]
   · rw [if_neg h1]
     by_cases h2:18446744073709551616≤a*10+(c.toNat - 48)
     · rw [if_pos h2,if_neg (by omega)]
     · rw [if_neg h2]
       exact atoi_parse l (a*10+(c.toNat - 48)) (L++[(c.toNat:Int)]) (by omega) (by rw [hv];omega) (fun d hd=>h d (by simp [hd]))
theorem atoi_nums (D:ByteArray) (h0:sb D≠[]) (h:∀ x∈sb D,isNum x=true):Lib.atoiAll D.data.toList=if 9223372036854775807<valL (sb D) then .range else .ok (valL (sb D)):=by
 have hsb:sb D=D.data.toList.map fun x=>(x.toNat:Int):=rfl
 have hpos:=valL_ge (sb D) [] h (by decide)
 rw [List.nil_append,show valL []=0 from rfl] at hpos
 rw [hsb] at h0 h hpos ⊢
 cases hl:D.data.toList with
 | nil=>rw [hl] at h0;exact absurd rfl h0
 | cons c r =>
   rw [hl] at h hpos
   have hall:∀ d∈c :: r,48≤d.toNat∧d.toNat≤57:=by
    intro d hd
    have:=num_bd (h (d.toNat:Int) (List.mem_map_of_mem (f:=fun x:UInt8=>(x.toNat:Int)) hd))
    omega
   have hc:=hall c (by simp)
   unfold Lib.atoiAll
   simp only
   rw [if_neg (by omega)]
   unfold Lib.parseMag
   rw [if_neg (by simp)]
   rw [atoi_parse (c :: r) 0 [] (by omega) rfl hall,List.nil_append]
   have hneg:¬ c.toNat=45:=by omega
   by_cases h1:valL ((c :: r).map fun x=>(x.toNat:Int))<18446744073709551616
   · rw [if_pos h1]
     simp only [hneg,false_and,not_false_iff,true_and,if_false]
     by_cases h2:9223372036854775807<valL ((c :: r).map fun x=>(x.toNat:Int))
     · rw [if_pos h2,if_pos (by omega)]
     · rw [if_neg h2,if_neg (by omega)]
       congr 1;omega
   · rw [if_neg h1,if_pos (by omega)]
def ErrV (w:World):Prop:=∃ ev,w.cell? ⟨2,0,none⟩=some ev∧(ev = .nilIface∨∃ te pe,ev = .iface te pe)
theorem ErrV.grown {w w':World} {b:Nat} (h:ErrV w) (hg:w.grownBy w' (some b)) (hb:2<b):ErrV w':=by
 obtain ⟨ev,h1,h2⟩:=h
 refine ⟨ev, ?_,h2⟩
 rw [cell_other hg ?_ (by intro e;have:=Option.some.inj e;simp at this;omega)]
 · exact h1
 · rcases Nat.lt_or_ge 2 w.heap.size with h' | h'
   · exact h'
   · exfalso;unfold World.cell? at h1;simp only at h1;rw [Array.getElem?_eq_none h'] at h1;cases h1
theorem TkAt.drew {w:World} {b:Nat} {t:Tk} (h:TkAt w b t):TkAt w.drew b t:=h
theorem LxAt.drew {w:World} {b:Nat} {s:ByteArray} {k:Nat} (h:LxAt w b s k):LxAt w.drew b s k:=h
theorem grownBy.drew' {a w:World} {r:Option Nat} (h:a.grownBy w r):a.grownBy w.drew r:=⟨h.os,h.tape,h.output,h.size,h.block⟩
theorem atoi_ok (D:ByteArray) (hD:D.size≤1000000) (v:Int) (h:Lib.atoiAll D.data.toList = .ok v) (w:World):Calls Tryz.prog 138 #[.string D] w fun e w'=>e = .returned (.tuple #[.int .i64 v,.nilIface])∧Below w.heap.size w w':=by
 refine (Tryz.strconv_Atoi_ok D (by omega) v h w).mono ?_
 rintro e w' ⟨rfl,rfl | ⟨t,rfl⟩⟩
 · exact ⟨rfl,Below.refl _ _⟩
 · exact ⟨rfl,Lib.bytesWorld_below _ _ _⟩
theorem res_number:Tryz.f211.results=#[.cell 2 154,.tmp 3]:=by kernel_rfl
set_option maxRecDepth 100000 in
set_option maxHeartbeats 800000 in
theorem number_any (b:Nat) (s:ByteArray) (k:Nat) (w:World) (h:LxAt w b s k) (_hs:s.size≤1000000) (_hk:k<s.size) (hd:isNum ((s[k].toNat:Nat):Int)=true) (hev:ErrV w) (hb2:2<b) :
 Calls Tryz.prog 211 #[.pointer (some ⟨b,0,none⟩)] w (TokOut (numT (restL s k)) b s k w):=by
 have hal:w.grownBy (w.alloc (.cells zTok 154)) (some b):=grownBy.below' (grownBy.refl' _ _) ((Below.refl _ _).alloc (Nat.le_refl _) _)
 have h1:LxAt (w.alloc (.cells zTok 154)) b s k:=h.below ((Below.refl _ _).alloc (Nat.le_refl _) _) h.lt
 have hlt:=h.lt
 have HEV:=Lib.hid (hev.grown hal hb2);clear hev
 obtain ⟨ds,hds⟩:∃ ds,(restL s k).takeWhile isNum=ds:=⟨_,rfl⟩
 obtain ⟨D,hD⟩:∃ D,strOfNums ds=D:=⟨_,rfl⟩
 have hbd:Bytes ds:=fun x hx=>restL_bd s k x (by rw [← hds] at hx;exact (List.takeWhile_prefix _).subset hx)
 have hsD:sb D=ds:=by rw [← hD];exact sb_str ds hbd
 have hszD:D.size=ds.length:=by rw [← length_sb,hsD]
 have hlen:ds.length≤s.size:=by rw [← hds];have h0:=take_le isNum (restL s k);rw [length_restL] at h0;omega
 have hW:=(whileDigit_any b s k _ h1 _hs (by omega)).mono (R':=fun e w'=>(w.alloc (.cells zTok 154)).grownBy w' (some b)∧e = .returned (.string D)∧LxAt w' b s (k+ds.length)) (fun e w' ⟨x1,x2,x3⟩=>⟨x1,by rw [x2,hds,hD],by rw [hds] at x3;exact x3⟩)
 have HW:=Lib.hid hW;clear hW h1 h
 have HAL:=Lib.hid hal;clear hal
 have HTK:=Lib.hid (TkAt.zero w)
 have hne:ds≠[]:=by
  have h0:=restL_at s k 0 (by omega)
  rw [← hds]
  cases hr:restL s k with
  | nil=>rw [hr] at h0;simp at h0
  | cons x l=>rw [hr] at h0;simp at h0;rw [List.takeWhile_cons,h0,hd];simp
 have hall:∀ x∈ds,isNum x=true:=by rw [← hds];exact take_all isNum _
 have hN:numT (restL s k)=if (1<ds.length∧ds.head? = some 48)∨9223372036854775807<valL ds then none else some ({ Tk.zero with kind:=1,num:=valL ds },ds.length):=by
  unfold numT
  rw [hds]
  have hh:(restL s k).head? = ds.head? := by
   have e:=take_split isNum (restL s k)
   rw [hds] at e
   rw [← e]
   cases ds with
   | nil=>exact absurd rfl hne
   | cons x l=>rfl
  rw [hh]
 have hat:=atoi_nums D (by rw [hsD];exact hne) (by rw [hsD];exact hall)
 rw [hsD] at hat
 have hp:=List.length_pos_iff.2 hne
 have hD0:0<D.size:=by omega
 obtain ⟨a,ha⟩:∃ a:Int,(D[0].toNat:Int)=a:=⟨_,rfl⟩
 have hhd:ds.head? = some a:=by rw [← ha, ← hsD,List.head?_eq_getElem?,sb_at D 0 hD0]
 have hmx:D.size≤1000000:=by omega
 have HD:=Lib.hid hD;have HSD:=Lib.hid hsD
 have HLEN:=Lib.hid hlen
 have HALL:=Lib.hid hall
 clear hne hall hbd hds hD hsD hlen
 have hw0:w.heap.size≠b:=by omega
 by_cases h48:1<ds.length∧ds.head? = some 48
 · rw [if_pos (Or.inl h48)] at hN
   have HN:=Lib.hid hN;clear hN hat
   have h481:(1:Int)<(D.size:Int):=by omega
   have h482:(a == 48)=true:=by rw [hhd] at h48;exact beq_iff_eq.2 (Option.some.inj h48.2)
   have HHD:=Lib.hid hhd
   clear h48 hhd hp
   go_enter Tryz.func211,Tryz.ntmps211
   go_wp2_with (go_at_call 181;((with_reducible refine HW.out.mono ?_);rintro e w1 ⟨h1,rfl,h2⟩;have H1:=Lib.hid h1;have H2:=Lib.hid h2;clear h1 h2;have HT1:=Lib.hid (HTK.out.grown H1.out hw0);obtain ⟨x0,x1,x2,x3,x4,x5,x6,x7,x8⟩:=HT1.out.cells;obtain ⟨f0,f1,f2,f3,f4,f5,f6,f7,f8⟩:=HT1.out.melts))
   exact bodyPost_ret (out_tok (HT1.out.put9 Tk.zero) _ _ false 2 3 res_number rfl rfl) rfl ⟨grownBy.set9 (grownBy.trans' HAL.out H1.out) (Nat.le_refl _) _ _ _ _ _ _ _ _ _,.inr ⟨HN.out,Tk.zero,rfl⟩⟩
 · by_cases hbig:9223372036854775807<valL ds
   · rw [if_pos (Or.inr hbig)] at hN
     rw [if_pos hbig] at hat
     have HN:=Lib.hid hN
     have HAT:=Lib.hid hat
     clear hN hat
     have hcond:(a == 48)=false∨((a == 48)=true∧¬ (1:Int)<(D.size:Int)):=by
      by_cases ha48:a=48
      · refine .inr ⟨beq_iff_eq.2 ha48,fun h1=>h48 ⟨by omega,by rw [hhd,ha48]⟩⟩
      · exact .inl (beq_eq_false_iff_ne.2 ha48)
     clear h48 hhd hp hbig
     go_enter Tryz.func211,Tryz.ntmps211
     rcases hcond with hc1 | ⟨hc1,hc2⟩
     all_goals go_wp2_with (first
      | (go_at_call 181;((with_reducible refine HW.out.mono ?_);rintro e w1 ⟨h1,rfl,h2⟩;have H1:=Lib.hid h1;have H2:=Lib.hid h2;clear h1 h2;obtain ⟨ev,HE1,HE2⟩:=HEV.out.grown H1.out hb2;have HE1:=Lib.hid HE1;have HE2:=Lib.hid HE2))
      | (go_at_call 138;((with_reducible refine (Tryz.strconv_Atoi_range D ?_ HAT.out ev _ HE1.out HE2.out).mono ?_);(first | omega | skip);rintro e w2 ⟨N,rfl, -, -,h3⟩;have H3:=Lib.hid h3;clear h3;have HT2:=Lib.hid ((HTK.out.grown H1.out hw0).below H3.out (HTK.out.grown H1.out hw0).lt);obtain ⟨x0,x1,x2,x3,x4,x5,x6,x7,x8⟩:=HT2.out.cells;obtain ⟨f0,f1,f2,f3,f4,f5,f6,f7,f8⟩:=HT2.out.melts)))
     all_goals (generalize Lib.atoiSat D.data.toList=sat)
     all_goals go_region
     all_goals go_wp2_with fail
     all_goals exact bodyPost_ret (out_tok (HT2.out.put9 { Tk.zero with kind:=1,num:=sat }).drew _ _ false 2 3 res_number rfl rfl) rfl ⟨grownBy.drew' (grownBy.set9 (grownBy.below' (grownBy.trans' HAL.out H1.out) H3.out) (Nat.le_refl _) _ _ _ _ _ _ _ _ _),.inr ⟨HN.out,{ Tk.zero with kind:=1,num:=sat },rfl⟩⟩
   · rw [if_neg (show ¬ ((1<ds.length∧ds.head? = some 48)∨9223372036854775807<valL ds) from fun h1=>h1.elim h48 hbig)] at hN
     rw [if_neg hbig] at hat
     obtain ⟨v,hv⟩:∃ v,valL ds=v:=⟨_,rfl⟩
     rw [hv] at hN hat
     have HN:=Lib.hid hN
     have HAT:=Lib.hid hat
     clear hN hat hv
     have hcond:(a == 48)=false∨((a == 48)=true∧¬ (1:Int)<(D.size:Int)):=by
      by_cases ha48:a=48
      · refine .inr ⟨beq_iff_eq.2 ha48,fun h1=>h48 ⟨by omega,by rw [hhd,ha48]⟩⟩
      · exact .inl (beq_eq_false_iff_ne.2 ha48)
     clear h48 hhd hp hbig
     go_enter Tryz.func211,Tryz.ntmps211
     rcases hcond with hc1 | ⟨hc1,hc2⟩
     all_goals go_wp2_with (first
      | (go_at_call 181;((with_reducible refine HW.out.mono ?_);rintro e w1 ⟨h1,rfl,h2⟩;have H1:=Lib.hid h1;have H2:=Lib.hid h2;clear h1 h2))
      | (go_at_call 138;((with_reducible refine (atoi_ok D ?_ v HAT.out _).mono ?_);(first | omega | skip);rintro e w2 ⟨rfl,h3⟩;have H3:=Lib.hid h3;clear h3;have HL2:=Lib.hid (H2.out.below H3.out H2.out.lt);have HT2:=Lib.hid ((HTK.out.grown H1.out hw0).below H3.out (HTK.out.grown H1.out hw0).lt);obtain ⟨x0,x1,x2,x3,x4,x5,x6,x7,x8⟩:=HT2.out.cells;obtain ⟨f0,f1,f2,f3,f4,f5,f6,f7,f8⟩:=HT2.out.melts)))
     all_goals go_region
     all_goals go_wp2_with fail
     all_goals exact bodyPost_ret (out_tok (HT2.out.put9 { Tk.zero with kind:=1,num:=v }).drew _ _ true 2 3 res_number rfl rfl) rfl ⟨grownBy.drew' (grownBy.set9 (grownBy.below' (grownBy.trans' HAL.out H1.out) H3.out) (Nat.le_refl _) _ _ _ _ _ _ _ _ _),.inl ⟨_,_,HN.out,rfl,(HL2.out.set9 hw0 _ _ _ _ _ _ _ _ _).drew⟩⟩
theorem idx_list:∀ (l:List UInt8),Lib.indexByte l 33=if ((l.map (fun b=>(b.toNat:Int))).takeWhile ne33).length=l.length then -1 else (((l.map (fun b=>(b.toNat:Int))).takeWhile ne33).length:Int)
 | []=>rfl
 | x :: l=>by
   have ih:=idx_list l
   unfold Lib.indexByte
   by_cases hx:x=33
   · subst hx
     have hne:ne33 ((33:UInt8).toNat:Int)=false:=by decide
     rw [List.map_cons,List.takeWhile_cons,hne]
     simp
   · have hne:ne33 (x.toNat:Int)=true:=by
      unfold ne33;rw [decide_eq_true_iff];intro h;apply hx
      apply UInt8.toNat_inj.1;show x.toNat=33;omega
     have hb:(x == (33:UInt8))=false:=by rw [beq_eq_false_iff_ne];exact hx
     rw [hb,List.map_cons,List.takeWhile_cons,hne,if_pos rfl,List.length_cons,List.length_cons,ih]
     obtain ⟨n,hn⟩:∃ n,((l.map (fun b=>(b.toNat:Int))).takeWhile ne33).length=n:=⟨_,rfl⟩
     rw [hn]
     by_cases h:n=l.length
     · have h2:n+1=l.length+1:=by omega
       rw [if_pos h,if_pos h2];rfl
     · have h2:¬ n+1=l.length+1:=by omega
       rw [if_neg h,if_neg h2]
       have:((n:Int) == -1)=false:=by rw [beq_eq_false_iff_ne];omega
       rw [this];simp
theorem idx_sheet (d:Rd):Lib.indexByte d.s.data.toList 33=if d.sheetP.length=d.s.size then -1 else (d.sheetP.length:Int):=by
 rw [idx_list];unfold Rd.sheetP sb;rw [← list_bytes]
 have:d.s.toList.length=d.s.size:=by rw [list_bytes];rfl
 rw [this]
theorem sheetP_take (d:Rd):(sb d.s).take d.sheetP.length=d.sheetP:=by
 have e:=take_split ne33 (sb d.s)
 have h:(d.sheetP++(sb d.s).drop d.sheetP.length).take d.sheetP.length=d.sheetP:=List.take_left
 have e2:d.sheetP++(sb d.s).drop d.sheetP.length=sb d.s:=e
 rw [e2] at h;exact h
theorem sheetP_lt (d:Rd) (h:¬ d.sheetP.length=d.s.size):d.sheetP.length<d.s.size:=by
 have e:=congrArg List.length (take_split ne33 (sb d.s))
 rw [List.length_append,length_sb] at e
 unfold Rd.sheetP at h ⊢;omega
set_option maxRecDepth 100000 in
set_option maxHeartbeats 400000 in
theorem sheet_any (b:Nat) (d:Rd) (w:World) (h:RdAt w b d) (_hs:d.s.size≤1000000) :
 Calls Tryz.prog 247 #[.pointer (some ⟨b,0,none⟩)] w (Part d.sheet b w):=by
 obtain ⟨c0,c1,c2,c3,c4,c5,c6⟩:=h.facts
 have f1:=h.frozen 1
 have f2:=h.frozen 2
 clear c3 c4 c5 c6
 have HR:=Lib.hid h;clear h
 have hix:=idx_sheet d
 by_cases hno:d.sheetP.length=d.s.size
 · have hf:d.sheet=some d:=by unfold Rd.sheet;rw [if_pos hno]
   rw [if_pos hno] at hix
   have HF:=Lib.hid hf;clear hf hno
   have HIX:=Lib.hid hix;clear hix
   go_enter Tryz.func247,Tryz.ntmps247
   go_wp2_with (go_at_call 259;((with_reducible refine (Tryz.strings_IndexByte d.s 33 _).mono ?_);rintro e w1 ⟨rfl,rfl⟩;(rw [show (33:Int).toNat.toUInt8=33 from rfl,HIX.out])))
   go_ret
   exact ⟨grownBy.refl' _ _,.inl ⟨d,HF.out,rfl,HR.out⟩⟩
 · have hlt:=sheetP_lt d hno
   rw [if_neg hno] at hix
   obtain ⟨i,hi⟩:∃ i:Nat,d.sheetP.length=i:=⟨_,rfl⟩
   rw [hi] at hix hlt
   have hf:d.sheet=if nameL d.sheetP=true then some { d with sh:=strOfNums d.sheetP,k:=i+1 } else none:=by unfold Rd.sheet;rw [if_neg hno,hi]
   have hcut:d.s.extract 0 i=strOfNums d.sheetP:=by
    rw [← sheetP_take,hi, ← str_sb (d.s.extract 0 i)]
    congr 1
    unfold sb;rw [← List.map_take];congr 1
    simp [ByteArray.data_extract]
   have hsz:(strOfNums d.sheetP).size≤1000000:=by rw [strOfNums_size];omega
   have hb:sb (strOfNums d.sheetP)=d.sheetP:=sb_str _ (fun x hx=>sb_bd d.s x (by rw [← sheetP_take] at hx;exact List.mem_of_mem_take hx))
   have HIX:=Lib.hid hix;clear hix
   have HF:=Lib.hid hf;clear hf
   have HCUT:=Lib.hid hcut;clear hcut
   have HB:=Lib.hid hb;clear hb
   have hile:(i:Int)≤(d.s.size:Int):=by omega
   have hi0:(0:Int)≤(i:Int):=by omega
   clear hno hi
   go_enter Tryz.func247,Tryz.ntmps247
   by_cases hn:nameL d.sheetP=true
   · have hf2:d.sheet=some { d with sh:=strOfNums d.sheetP,k:=i+1 }:=by rw [HF.out,if_pos hn]
     have HF2:=Lib.hid hf2;clear hf2
     go_wp2_with (first
      | (go_at_call 259;((with_reducible refine (Tryz.strings_IndexByte d.s 33 _).mono ?_);rintro e w1 ⟨rfl,rfl⟩;(rw [show (33:Int).toNat.toUInt8=33 from rfl,HIX.out])))
      | (go_at_call 73;rw [HCUT.out];((with_reducible refine (name_any _ _ ?_).mono ?_);(first | omega | skip);rintro e w2 ⟨rfl,rfl⟩;rw [HB.out,hn])))
     go_ret
     exact ⟨grownBy.setCell' (grownBy.setCell' (grownBy.refl' _ _) _ _) _ _,.inl ⟨_,HF2.out,rfl,(HR.out.setSh (strOfNums d.sheetP)).setK (i+1)⟩⟩
   · have hf2:d.sheet=none:=by rw [HF.out,if_neg hn]
     have hn':nameL d.sheetP=false:=by simpa using hn
     have HF2:=Lib.hid hf2;clear hf2 hn
     go_wp2_with (first
      | (go_at_call 259;((with_reducible refine (Tryz.strings_IndexByte d.s 33 _).mono ?_);rintro e w1 ⟨rfl,rfl⟩;(rw [show (33:Int).toNat.toUInt8=33 from rfl,HIX.out])))
      | (go_at_call 73;rw [HCUT.out];((with_reducible refine (name_any _ _ ?_).mono ?_);(first | omega | skip);rintro e w2 ⟨rfl,rfl⟩;rw [HB.out,hn'])))
     go_ret
     exact ⟨grownBy.setCell' (grownBy.setCell' (grownBy.refl' _ _) _ _) _ _,.inr ⟨HF2.out,rfl⟩⟩
theorem all_any (b g n:Nat) (f:Nat→FuncId) (run:Nat→Rd→Option Rd) (w:World) (_hn:n≤100) (hgb:g≠b) (hg:g<w.heap.size)
 (hcall:∀ j,j<n→∀ args (v:World),(callFunc (f j) args).run Tryz.prog v = .ok (.enter (f j) args) v)
 (hcell:∀ j,j<n→w.cell? ⟨g,j,none⟩=some (.func (.func (f j)) #[.pointer (some ⟨b,0,none⟩)] #[]))
 (P:Nat→Rd→Prop) (d:Rd) (h0:P 0 d) (hr:RdAt w b d)
 (hstep:∀ j,j<n→∀ d (w:World),P j d→RdAt w b d→(∀ d',run j d=some d'→P (j+1) d')∧Calls Tryz.prog (f j) #[.pointer (some ⟨b,0,none⟩)] w (Part (run j d) b w))
 (o:Option Rd) (hend:∀ d',P n d'→o=some d') (hbad:∀ j d',j<n→P j d'→run j d'=none→o=none) :
 Calls Tryz.prog 246 #[.slice (some ⟨g,0,none⟩) n n] w (Part o b w):=by
 have HC:=Lib.hid hcall;clear hcall
 have HL:=Lib.hid hcell;clear hcell
 have HS:=Lib.hid hstep;clear hstep
 have HE:=Lib.hid hend;clear hend
 have HB:=Lib.hid hbad;clear hbad
 have H0:=Lib.hid h0;clear h0
 have HR:=Lib.hid hr;clear hr
 go_enter Tryz.func246,Tryz.ntmps246
 go_wp2_with fail
 go_loopw [7] (fun i wr=>∃ (j:Nat) (d:Rd),i = .int .i64 j∧j≤n∧Hid (P j d)∧Hid (RdAt wr b d)∧Hid (w.grownBy wr (some b)))
  (fun i _=>n - (intOf i).toNat)
 case atStart=>exact ⟨0,d,rfl,by omega,H0,HR,Lib.hid (grownBy.refl' _ _)⟩
 case round =>
  obtain ⟨j,d,rfl,hj,HP,HRD,HG⟩:=hrel
  by_cases hlt:j<n
  · have hji:(j:Int)<(n:Int):=by omega
    have hce:wr.cell? ⟨g,j,none⟩=some (.func (.func (f j)) #[.pointer (some ⟨b,0,none⟩)] #[]):=by
     rw [cell_other HG.out (by exact hg) (by intro h;exact hgb (Option.some.inj h))];exact HL.out j hlt
    have hca:=HC.out j hlt
    obtain ⟨fj,hfj⟩:∃ fj,f j=fj:=⟨_,rfl⟩
    rw [hfj] at hce hca
    have HFJ:=Lib.hid hfj;clear hfj
    cases hq:run j d with
    | some d' =>
      have HQ:=Lib.hid hq;clear hq
      go_wp2_with fail
      have hs:=HS.out j hlt d wr HP.out HRD.out
      rw [HFJ.out,HQ.out] at hs
      have HS1:=Lib.hid (hs.1 d' rfl)
      refine hs.2.mono ?_
      rintro e w1 ⟨hg1,⟨d2,h1,rfl,h3⟩ | ⟨h1,_⟩⟩
      · injection h1 with h1;subst h1
        have HG1:=Lib.hid (grownBy.trans' HG.out hg1);clear hg1
        have HR1:=Lib.hid h3;clear h3
        clear hs
        go_wp2_with fail
        go_roundw
        case rel=>exact ⟨j+1,d',by go_num,by omega,HS1,HR1,HG1⟩
        case measure=>simp [intOf];omega
      · cases h1
    | none =>
      have HQ:=Lib.hid hq;clear hq
      go_wp2_with fail
      have hs:=HS.out j hlt d wr HP.out HRD.out
      rw [HFJ.out,HQ.out] at hs
      refine hs.2.mono ?_
      rintro e w1 ⟨hg1,⟨d2,h1,_,_⟩ | ⟨_,rfl⟩⟩
      · cases h1
      · have HG1:=Lib.hid (grownBy.trans' HG.out hg1);clear hg1
        clear hs
        go_wp2_with fail
        go_ret
        exact ⟨HG1.out,.inr ⟨HB.out j d hlt HP.out HQ.out,rfl⟩⟩
  · have hji:¬ (j:Int)<(n:Int):=by omega
    have hjn:j=n:=by omega
    have hen:=HE.out d (by rw [← hjn];exact HP.out)
    have HEN:=Lib.hid hen;clear hen hjn
    go_wp2_with fail
    go_ret
    exact ⟨HG.out,.inl ⟨d,HEN.out,rfl,HRD.out⟩⟩
def chain (run:Nat→Rd→Option Rd) (d:Rd):Nat→Option Rd
 | 0=>some d
 | j+1=>(chain run d j).bind (run j)
theorem chain_none (run:Nat→Rd→Option Rd) (d:Rd) (j:Nat) (h:chain run d j=none):∀ m,chain run d (j+m)=none
 | 0=>h
 | m+1=>by show (chain run d (j+m)).bind (run (j+m))=none;rw [chain_none run d j h m];rfl
def Keeps (f:Rd→Option Rd):Prop:=∀ d d',d.k≤d.s.size→f d=some d'→d'.s=d.s∧d'.k≤d.s.size
theorem keeps_sheet:Keeps Rd.sheet:=by
 intro d d' hk h
 unfold Rd.sheet at h
 by_cases h1:d.sheetP.length=d.s.size
 · rw [if_pos h1] at h;injection h with h;subst h;exact ⟨rfl,hk⟩
 · rw [if_neg h1] at h
   have:=sheetP_lt d h1
   by_cases h2:nameL d.sheetP=true
   · rw [if_pos h2] at h;injection h with h;subst h;exact ⟨rfl,this⟩
   · rw [if_neg h2] at h;cases h
theorem mark_le (d:Rd) (hk:d.k≤d.s.size):d.k+(dol d.mark).length≤d.s.size:=by
 have h1:=congrArg List.length (mark_rest d)
 rw [List.length_append,length_rest] at h1;omega
theorem keeps_absCol:Keeps Rd.absCol:=by
 intro d d' hk h
 unfold Rd.absCol at h;injection h with h;subst h;exact ⟨rfl,mark_le d hk⟩
theorem keeps_absRow:Keeps Rd.absRow:=by
 intro d d' hk h
 unfold Rd.absRow at h;injection h with h;subst h;exact ⟨rfl,mark_le d hk⟩
theorem span_le (p:Int→Bool) (d:Rd) (hk:d.k≤d.s.size):d.k+(d.rest.takeWhile p).length≤d.s.size:=by
 have h1:=congrArg List.length (take_split p d.rest)
 rw [List.length_append,length_rest] at h1;omega
theorem keeps_col:Keeps Rd.col:=by
 intro d d' hk h
 unfold Rd.col at h
 by_cases h2:isCol (d.rest.takeWhile isCap)=true
 · rw [if_pos h2] at h;injection h with h;subst h;exact ⟨rfl,span_le isCap d hk⟩
 · rw [if_neg h2] at h;cases h
theorem keeps_row:Keeps Rd.row:=by
 intro d d' hk h
 unfold Rd.row at h
 by_cases h2:isRow (d.rest.takeWhile isNum)=true
 · rw [if_pos h2] at h;injection h with h;subst h;exact ⟨rfl,span_le isNum d hk⟩
 · rw [if_neg h2] at h;cases h
theorem keeps_fin:Keeps Rd.fin:=by
 intro d d' hk h
 unfold Rd.fin at h
 by_cases h2:d.k=d.s.size
 · rw [if_pos h2] at h;injection h with h;subst h;exact ⟨rfl,hk⟩
 · rw [if_neg h2] at h;cases h
theorem all_chain (b g n:Nat) (f:Nat→FuncId) (run:Nat→Rd→Option Rd) (w:World) (hn:n≤100) (hgb:g≠b) (hg:g<w.heap.size)
 (hcall:∀ j,j<n→∀ args (v:World),(callFunc (f j) args).run Tryz.prog v = .ok (.enter (f j) args) v)
 (hcell:∀ j,j<n→w.cell? ⟨g,j,none⟩=some (.func (.func (f j)) #[.pointer (some ⟨b,0,none⟩)] #[]))
 (d:Rd) (hr:RdAt w b d) (hs:d.s.size≤1000000) (hk:d.k≤d.s.size)
 (hkeep:∀ j,j<n→Keeps (run j))
 (hpart:∀ j,j<n→∀ d (w:World),RdAt w b d→d.s.size≤1000000→d.k≤d.s.size→Calls Tryz.prog (f j) #[.pointer (some ⟨b,0,none⟩)] w (Part (run j d) b w)) :
 Calls Tryz.prog 246 #[.slice (some ⟨g,0,none⟩) n n] w (Part (chain run d n) b w):=by
 refine all_any b g n f run w hn hgb hg hcall hcell (fun j e=>chain run d j=some e∧e.s=d.s∧e.k≤d.s.size) d ⟨rfl,rfl,hk⟩ hr ?_ _ ?_ ?_
 · rintro j hj e v ⟨h1,h2,h3⟩ hrv
   refine ⟨?_,hpart j hj e v hrv (by rw [h2];exact hs) (by rw [h2];exact h3)⟩
   intro e' he'
   obtain ⟨k1,k2⟩:=hkeep j hj e e' (by rw [h2];exact h3) he'
   refine ⟨?_,by rw [k1,h2],by rw [← h2];exact k2⟩
   show (chain run d j).bind (run j)=some e'
   rw [h1];exact he'
 · rintro e ⟨h1,_,_⟩;exact h1
 · rintro j e hj ⟨h1,_,_⟩ h2
   have h3:chain run d (j+1)=none:=by show (chain run d j).bind (run j)=none;rw [h1];exact h2
   have:=chain_none run d (j+1) h3 (n - (j+1))
   rw [show j+1+(n - (j+1))=n from by omega] at this;exact this
theorem below_of_grownBy {w w1 w2:World} {r B:Nat} (hb:Below B w w1) (h:w1.grownBy w2 (some r)) (hB:B≤w1.heap.size) (hr:B≤r):Below B w w2 :=
 hb.grown h hB (fun k hk=>by cases hk;exact hr)
theorem hmf (fn:Fn) (first cap:Array Value) (w:World):(Instr.makeFunc fn first cap).run Tryz.prog w = .ok (.func fn first cap) w:=rfl
def wR (s:ByteArray) (w:World):World:=w.alloc (.cells #[.string s,.int .i64 0,.string ⟨#[]⟩,.int .i64 0,.int .i64 0,.bool false,.bool false] 261)
def mv (f:FuncId) (b:Nat):Value := .func (.func f) #[.pointer (some ⟨b,0,none⟩)] #[]
def wF (s:ByteArray) (l:Array Value) (w:World):World:=(wR s w).alloc (.cells l 23)
theorem size_wR (s:ByteArray) (w:World):(wR s w).heap.size=w.heap.size+1:=by unfold wR;simp
theorem size_wF (s:ByteArray) (l:Array Value) (w:World):(wF s l w).heap.size=w.heap.size+1+1:=by unfold wF;rw [← size_wR s w];simp
theorem rd_wF (s:ByteArray) (l:Array Value) (w:World):RdAt (wF s l w) w.heap.size (Rd.start s):=by
 have h:RdAt (wR s w) w.heap.size (Rd.start s):=(Go.MapKept.heap_alloc w _).1
 exact h.below ((Below.refl _ _).alloc (Nat.le_refl _) _) h.lt
theorem below_wF (s:ByteArray) (l:Array Value) (w:World):Below w.heap.size w (wF s l w):=((Below.refl _ _).alloc (Nat.le_refl _) _).alloc (by have:=size_wR s w;unfold wR at this;omega) _
theorem cell_wF (s:ByteArray) (l:Array Value) (w:World) (L:List Value) (hl:l.toList=L) (j:Nat) (u:Value) (hj:L[j]? = some u):(wF s l w).cell? ⟨w.heap.size+1,j,none⟩=some u:=by
 have h:=cells_new (w:=wR s w) l 23 L hl j u hj
 rw [Addr.add_mid,Nat.zero_add,size_wR] at h
 exact h
theorem all_new (n:Nat) (f:Nat→FuncId) (run:Nat→Rd→Option Rd) (s:ByteArray) (w:World) (l:Array Value) (L:List Value) (hl:l.toList=L) (hn:n≤100) (hs:s.size≤1000000)
 (hcall:∀ j,j<n→∀ args (v:World),(callFunc (f j) args).run Tryz.prog v = .ok (.enter (f j) args) v)
 (hL:∀ j,j<n→L[j]? = some (mv (f j) w.heap.size))
 (hkeep:∀ j,j<n→Keeps (run j))
 (hpart:∀ j,j<n→∀ b d (w:World),RdAt w b d→d.s.size≤1000000→d.k≤d.s.size→Calls Tryz.prog (f j) #[.pointer (some ⟨b,0,none⟩)] w (Part (run j d) b w)) :
 Calls Tryz.prog 246 #[.slice (some ⟨w.heap.size+1,0,none⟩) n n] (wF s l w) fun e w'=>Below w.heap.size w w'∧((∃ d',chain run (Rd.start s) n=some d'∧e = .returned (.bool true)∧RdAt w' w.heap.size d')∨(chain run (Rd.start s) n=none∧e = .returned (.bool false))):=by
 refine (all_chain w.heap.size (w.heap.size+1) n f run (wF s l w) hn (by omega) (by rw [size_wF];omega) hcall (fun j hj=>cell_wF s l w L hl j _ (hL j hj)) (Rd.start s) (rd_wF s l w) hs (Nat.zero_le _) hkeep (fun j hj d v=>hpart j hj w.heap.size d v)).mono ?_
 rintro e w' ⟨h1,h2⟩
 exact ⟨below_of_grownBy (below_wF s l w) h1 (by rw [size_wF];omega) (Nat.le_refl _),h2⟩
theorem e_col:∀ args (v:World),(callFunc 249 args).run Tryz.prog v = .ok (.enter 249 args) v:=Go.Proofs.enters_of Tryz.func249 (by kernel_rfl) rfl
theorem e_end:∀ args (v:World),(callFunc 252 args).run Tryz.prog v = .ok (.enter 252 args) v:=Go.Proofs.enters_of Tryz.func252 (by kernel_rfl) rfl
theorem e_sheet:∀ args (v:World),(callFunc 247 args).run Tryz.prog v = .ok (.enter 247 args) v:=Go.Proofs.enters_of Tryz.func247 (by kernel_rfl) rfl
theorem e_absCol:∀ args (v:World),(callFunc 248 args).run Tryz.prog v = .ok (.enter 248 args) v:=Go.Proofs.enters_of Tryz.func248 (by kernel_rfl) rfl
theorem e_absRow:∀ args (v:World),(callFunc 250 args).run Tryz.prog v = .ok (.enter 250 args) v:=Go.Proofs.enters_of Tryz.func250 (by kernel_rfl) rfl
theorem e_row:∀ args (v:World),(callFunc 251 args).run Tryz.prog v = .ok (.enter 251 args) v:=Go.Proofs.enters_of Tryz.func251 (by kernel_rfl) rfl
def refRun:Nat→Rd→Option Rd
 | 0=>Rd.sheet
 | 1=>Rd.absCol
 | 2=>Rd.col
 | 3=>Rd.absRow
 | 4=>Rd.row
 | _=>Rd.fin
def refFn:Nat→FuncId
 | 0=>247
 | 1=>248
 | 2=>249
 | 3=>250
 | 4=>251
 | _=>252
theorem ref_parts (s:ByteArray) (w:World) (hs:s.size≤1000000) :
 Calls Tryz.prog 246 #[.slice (some ⟨w.heap.size+1,0,none⟩) 6 6] (wF s #[mv 247 w.heap.size,mv 248 w.heap.size,mv 249 w.heap.size,mv 250 w.heap.size,mv 251 w.heap.size,mv 252 w.heap.size] w) fun e w'=>Below w.heap.size w w'∧((∃ d',readS s=some d'∧e = .returned (.bool true)∧RdAt w' w.heap.size d')∨(readS s=none∧e = .returned (.bool false))):=by
 refine all_new 6 refFn refRun s w _ _ rfl (by omega) hs ?_ ?_ ?_ ?_
 · intro j hj
   match j,hj with
   | 0,_=>exact e_sheet
   | 1,_=>exact e_absCol
   | 2,_=>exact e_col
   | 3,_=>exact e_absRow
   | 4,_=>exact e_row
   | 5,_=>exact e_end
 · intro j hj
   match j,hj with
   | 0,_=>rfl
   | 1,_=>rfl
   | 2,_=>rfl
   | 3,_=>rfl
   | 4,_=>rfl
   | 5,_=>rfl
 · intro j hj
   match j,hj with
   | 0,_=>exact keeps_sheet
   | 1,_=>exact keeps_absCol
   | 2,_=>exact keeps_col
   | 3,_=>exact keeps_absRow
   | 4,_=>exact keeps_row
   | 5,_=>exact keeps_fin
 · intro j hj b d v h1 h2 h3
   match j,hj with
   | 0,_=>exact sheet_any b d v h1 h2
   | 1,_=>exact absCol_any b d v h1 h2 h3
   | 2,_=>exact colPart_any b d v h1 h2 h3
   | 3,_=>exact absRow_any b d v h1 h2 h3
   | 4,_=>exact rowPart_any b d v h1 h2 h3
   | 5,_=>exact fin_any b d v h1 h2 h3
theorem below_setCell5 {w w1:World} {a0 a1 a2 a3 a4:Value} (h:Below w.heap.size w w1):Below w.heap.size w (((((w1.setCell ⟨w.heap.size,0,none⟩ a0).setCell ⟨w.heap.size,1,none⟩ a1).setCell ⟨w.heap.size,2,none⟩ a2).setCell ⟨w.heap.size,3,none⟩ a3).setCell ⟨w.heap.size,4,none⟩ a4) :=
 ((((h.setCell (Nat.le_refl _) _).setCell (Nat.le_refl _) _).setCell (Nat.le_refl _) _).setCell (Nat.le_refl _) _).setCell (Nat.le_refl _) _
set_option maxRecDepth 100000 in
set_option maxHeartbeats 400000 in
theorem read_any (s:ByteArray) (w:World) (_hs:s.size≤1000000) :
 Calls Tryz.prog 235 #[.string s] w fun e w'=>Says (sb s) e∧Below w.heap.size w w':=by
 have hmf:=hmf
 have hall:=ref_parts s (w.alloc (.cells #[.string ⟨#[]⟩,.int .i64 0,.int .i64 0,.bool false,.bool false] 45)) _hs
 have hsz:(w.alloc (.cells #[.string ⟨#[]⟩,.int .i64 0,.int .i64 0,.bool false,.bool false] 45)).heap.size=w.heap.size+1:=by simp
 have hr0:=RefAt.new w ⟨#[]⟩ 0 0 false false
 have hb0:Below w.heap.size w (w.alloc (.cells #[.string ⟨#[]⟩,.int .i64 0,.int .i64 0,.bool false,.bool false] 45)):=(Below.refl _ _).alloc (Nat.le_refl _) _
 rw [hsz] at hall
 have HALL:=Lib.hid hall;clear hall
 have HR:=Lib.hid hr0;clear hr0
 have HB0:=Lib.hid hb0;clear hb0
 have HSZ:=Lib.hid hsz;clear hsz
 go_enter Tryz.func235,Tryz.ntmps235
 go_wp2_with fail
 refine HALL.out.mono ?_
 rintro e w1 ⟨hb,⟨d',h1,rfl,h3⟩ | ⟨h1,rfl⟩⟩
 · have hr1:=HR.out.below hb (by omega)
   obtain ⟨x0,x1,x2,x3,x4⟩:=hr1.facts
   have f0:=frozen_of_row w1 w.heap.size 0 _ _ hr1
   have f1:=frozen_of_row w1 w.heap.size 1 _ _ hr1
   have f2:=frozen_of_row w1 w.heap.size 2 _ _ hr1
   have f3:=frozen_of_row w1 w.heap.size 3 _ _ hr1
   have f4:=frozen_of_row w1 w.heap.size 4 _ _ hr1
   have hB:=HB0.out.trans (hb.mono (by omega))
   obtain ⟨c0,c1,c2,c3,c4,c5,c6⟩:=h3.facts
   clear c0 c1
   have H1:=Lib.hid h1;clear h1
   have H3:=Lib.hid h3;clear h3
   have HB:=Lib.hid hB;clear hB hb
   have HR1:=Lib.hid hr1;clear hr1
   go_wp2_with fail
   obtain ⟨r1,r2,r3⟩:=read_some s d' H1.out
   (try simp only [Exit.inBlock,Exit.then])
   refine bodyPost_ret (v := .tuple #[.agg #[.string d'.sh,.int .i64 d'.c,.int .i64 d'.r,.bool d'.ac,.bool d'.ar],.bool true]) ?_ rfl ⟨.inl ⟨d'.sh,d'.c,d'.r,d'.ac,d'.ar,r1,r2,r3,rfl⟩, ?_⟩
   · rw [results_cell_tmp rfl]
     go_simp
   · exact below_setCell5 HB.out
 · have hr1:=HR.out.below hb (by omega)
   obtain ⟨x0,x1,x2,x3,x4⟩:=hr1.facts
   have f0:=frozen_of_row w1 w.heap.size 0 _ _ hr1
   have f1:=frozen_of_row w1 w.heap.size 1 _ _ hr1
   have f2:=frozen_of_row w1 w.heap.size 2 _ _ hr1
   have f3:=frozen_of_row w1 w.heap.size 3 _ _ hr1
   have f4:=frozen_of_row w1 w.heap.size 4 _ _ hr1
   have hB:=HB0.out.trans (hb.mono (by omega))
   have H1:=Lib.hid h1;clear h1
   have HB:=Lib.hid hB;clear hB hb
   have HR1:=Lib.hid hr1;clear hr1
   go_wp2_with fail
   have r1:=read_none s H1.out
   (try simp only [Exit.inBlock,Exit.then])
   refine bodyPost_ret (v := .tuple #[.agg #[.string ⟨#[]⟩,.int .i64 0,.int .i64 0,.bool false,.bool false],.bool false]) ?_ rfl ⟨.inr ⟨r1,rfl⟩, ?_⟩
   · rw [results_cell_tmp rfl]
     go_simp
   · exact below_setCell5 HB.out
theorem res_dead:Tryz.f213.results=#[.cell 2 154,.tmp 3]:=by kernel_rfl
theorem res_word:Tryz.f215.results=#[.cell 2 154,.tmp 3]:=by kernel_rfl
theorem grownBy.below_new {w w':World} {b:Nat} (h:Below w.heap.size w w'):w.grownBy w' (some b):=grownBy.below' (grownBy.refl' _ _) h
theorem new_tok (w:World) (b:Nat):w.grownBy (w.alloc (.cells zTok 154)) (some b):=grownBy.below_new ((Below.refl _ _).alloc (Nat.le_refl _) _)
theorem LxAt.tok {w:World} {b:Nat} {s:ByteArray} {k:Nat} (h:LxAt w b s k):LxAt (w.alloc (.cells zTok 154)) b s k:=h.below ((Below.refl _ _).alloc (Nat.le_refl _) _) h.lt
theorem sb_dead:sb ⟨#[35,82,69,70,33]⟩=[35,82,69,70,33]:=by decide
set_option maxRecDepth 100000 in
set_option maxHeartbeats 800000 in
theorem dead_any (b:Nat) (s:ByteArray) (k:Nat) (w:World) (h:LxAt w b s k) (_hs:s.size≤1000000) (_hk:k<s.size) :
 Calls Tryz.prog 213 #[.pointer (some ⟨b,0,none⟩)] w (TokOut (deadT (restL s k)) b s k w):=by
 have hlt:=h.lt
 have hw0:w.heap.size≠b:=by omega
 have hT:=take_any b s ⟨#[35,82,69,70,33]⟩ k _ h.tok _hs (by omega) (by decide)
 rw [sb_dead] at hT
 have HAL:=Lib.hid (new_tok w b)
 have HTK:=Lib.hid (TkAt.zero w)
 have hN:deadT (restL s k)=if headL [35,82,69,70,33] (restL s k)=true then some ({ Tk.zero with kind:=6 },5) else none:=by
  unfold deadT headL;simp
 cases hq:headL [35,82,69,70,33] (restL s k)
 · rw [hq] at hN hT
   have HN:=Lib.hid hN;clear hN
   have HT:=Lib.hid hT;clear hT h
   go_enter Tryz.func213,Tryz.ntmps213
   go_wp2_with (first
    | (go_at_call 232;((with_reducible refine HT.out.mono ?_);rintro e w1 ⟨h1,rfl,h2⟩;have H1:=Lib.hid h1;have H2:=Lib.hid h2;clear h1 h2;have HT2:=Lib.hid (HTK.out.grown H1.out hw0);obtain ⟨x0,x1,x2,x3,x4,x5,x6,x7,x8⟩:=HT2.out.cells;obtain ⟨f0,f1,f2,f3,f4,f5,f6,f7,f8⟩:=HT2.out.melts)))
   exact bodyPost_ret (out_tok (HT2.out.put9 { Tk.zero with kind:=6 }) _ _ false 2 3 res_dead rfl rfl) rfl ⟨grownBy.set9 (grownBy.trans' HAL.out H1.out) (Nat.le_refl _) _ _ _ _ _ _ _ _ _,.inr ⟨HN.out,{ Tk.zero with kind:=6 },rfl⟩⟩
 · rw [hq] at hN hT
   have HN:=Lib.hid hN;clear hN
   have HT:=Lib.hid hT;clear hT h
   go_enter Tryz.func213,Tryz.ntmps213
   go_wp2_with (first
    | (go_at_call 232;((with_reducible refine HT.out.mono ?_);rintro e w1 ⟨h1,rfl,h2⟩;have H1:=Lib.hid h1;have H2:=Lib.hid h2;clear h1 h2;have HT2:=Lib.hid (HTK.out.grown H1.out hw0);obtain ⟨x0,x1,x2,x3,x4,x5,x6,x7,x8⟩:=HT2.out.cells;obtain ⟨f0,f1,f2,f3,f4,f5,f6,f7,f8⟩:=HT2.out.melts)))
   exact bodyPost_ret (out_tok (HT2.out.put9 { Tk.zero with kind:=6 }) _ _ true 2 3 res_dead rfl rfl) rfl ⟨grownBy.set9 (grownBy.trans' HAL.out H1.out) (Nat.le_refl _) _ _ _ _ _ _ _ _ _,.inl ⟨_,_,HN.out,rfl,H2.out.set9 hw0 _ _ _ _ _ _ _ _ _⟩⟩
theorem says_some {s:ByteArray} {d:Rd} (h:readS s=some d) {e:Ending} (he:Says (sb s) e):e = .returned (.tuple #[.agg #[.string d.sh,.int .i64 d.c,.int .i64 d.r,.bool d.ac,.bool d.ar],.bool true]):=by
 obtain ⟨_,h2,h3⟩:=read_some s d h
 refine Says.text h2 ?_
 rw [h3,str_sb];exact he
theorem says_none {s:ByteArray} (h:readS s=none) {e:Ending} (he:Says (sb s) e):e = .returned (.tuple #[.agg #[.string ⟨#[]⟩,.int .i64 0,.int .i64 0,.bool false,.bool false],.bool false]):=by
 rcases he with ⟨_,_,_,_,_,_,h2,h3,_⟩ | ⟨_,rfl⟩
 · exact absurd h3 (read_none s h _ _ _ _ _ h2)
 · rfl
theorem nm_called {l:List Int} {x:Int} (h0:l.head? = some x) (hx:isBeg x=true):nmL l=calledL l:=by
 cases l with
 | nil=>simp at h0
 | cons y m =>
   simp at h0;subst h0
   unfold nmL calledL
   rw [Bool.eq_iff_iff]
   simp only [Bool.and_eq_true,decide_eq_true_iff,List.getD_cons_zero]
   constructor
   · rintro ⟨h1,h2⟩
     refine ⟨h1,⟨by simp,h2⟩, ?_⟩
     have:=h1 y (by simp)
     rw [Bool.or_eq_true] at this
     rcases this with h | h
     · exact h
     · exfalso
       unfold isBeg isLet at hx;unfold isNum at h
       simp only [Bool.or_eq_true,decide_eq_true_iff] at hx h;omega
   · rintro ⟨h1,⟨_,h2⟩,_⟩
     exact ⟨h1,h2⟩
theorem word_val (l ds:List Int) (h:l.takeWhile isWord=ds):wordT l=match readS (strOfNums ds) with
 | some d=>some ({ Tk.zero with kind:=4,sh:=d.sh,c:=d.c,r:=d.r,ac:=d.ac,ar:=d.ar },ds.length)
 | none=>if calledL ds=true then some ({ Tk.zero with kind:=3,text:=strOfNums ds },ds.length) else none:=by subst h;rfl
set_option maxRecDepth 100000 in
set_option maxHeartbeats 1600000 in
theorem word_any (b:Nat) (s:ByteArray) (k:Nat) (w:World) (h:LxAt w b s k) (_hs:s.size≤1000000) (_hk:k<s.size) (hd:isBeg ((s[k].toNat:Nat):Int)=true) :
 Calls Tryz.prog 215 #[.pointer (some ⟨b,0,none⟩)] w (TokOut (wordT (restL s k)) b s k w):=by
 have hlt:=h.lt
 have hw0:w.heap.size≠b:=by omega
 obtain ⟨ds,hds⟩:∃ ds,(restL s k).takeWhile isWord=ds:=⟨_,rfl⟩
 obtain ⟨D,hD⟩:∃ D,strOfNums ds=D:=⟨_,rfl⟩
 have hbd:Bytes ds:=fun x hx=>restL_bd s k x (by rw [← hds] at hx;exact (List.takeWhile_prefix _).subset hx)
 have hsD:sb D=ds:=by rw [← hD];exact sb_str ds hbd
 have hszD:D.size=ds.length:=by rw [← length_sb,hsD]
 have hlen:ds.length≤s.size:=by rw [← hds];have h0:=take_le isWord (restL s k);rw [length_restL] at h0;omega
 have hW:=(whileWord_any b s k _ h.tok _hs (by omega)).mono (R':=fun e w'=>(w.alloc (.cells zTok 154)).grownBy w' (some b)∧e = .returned (.string D)∧LxAt w' b s (k+ds.length)) (fun e w' ⟨x1,x2,x3⟩=>⟨x1,by rw [x2,hds,hD],by rw [hds] at x3;exact x3⟩)
 have HW:=Lib.hid hW;clear hW h
 have HAL:=Lib.hid (new_tok w b)
 have HTK:=Lib.hid (TkAt.zero w)
 have hN:=word_val (restL s k) ds hds
 rw [hD] at hN
 have hhd:ds.head? = some ((s[k].toNat:Nat):Int):=by
  have h0:=restL_at s k 0 (by omega)
  rw [← hds]
  cases hr:restL s k with
  | nil=>rw [hr] at h0;simp at h0
  | cons x l =>
    rw [hr] at h0;simp at h0
    have hwd:isWord x=true:=by rw [isWord_beg,h0,hd];rfl
    rw [List.takeWhile_cons,hwd];simp [h0]
 rw [← nm_called hhd hd] at hN
 have hmx:D.size≤1000000:=by omega
 clear hhd hd hbd hds hlen hD
 cases hq:readS D with
 | some d =>
   rw [hq] at hN
   have HN:=Lib.hid hN;clear hN
   have hsz:d.sh.size≤12:=(read_some D d hq).1
   have HSY:=Lib.hid (fun (e:Ending) (he:Says (sb D) e)=>says_some hq he);clear hq hsD
   go_enter Tryz.func215,Tryz.ntmps215
   go_upto_region 4 with (first
    | (go_at_call 181;((with_reducible refine HW.out.mono ?_);rintro e w1 ⟨h1,rfl,h2⟩;have H1:=Lib.hid h1;have H2:=Lib.hid h2;clear h1 h2))
    | (go_at_call 235;((with_reducible refine (read_any D _ ?_).mono ?_);(first | omega | skip);rintro e w2 ⟨h1,h2⟩;obtain rfl:=HSY.out e h1;clear h1;have H3:=Lib.hid h2;clear h2;have HL2:=Lib.hid (H2.out.below H3.out H2.out.lt);have HT2:=Lib.hid ((HTK.out.grown H1.out hw0).below H3.out (HTK.out.grown H1.out hw0).lt);have hlt2:=HT2.out.lt;have hne2:w.heap.size≠w2.heap.size:=Nat.ne_of_lt hlt2;obtain ⟨x0,x1,x2,x3,x4,x5,x6,x7,x8⟩:=HT2.out.cells;obtain ⟨f0,f1,f2,f3,f4,f5,f6,f7,f8⟩:=HT2.out.melts)))
   have hR3:=RefAt.new w2 d.sh d.c d.r d.ac d.ar
   have hB3:Below w2.heap.size w2 (w2.alloc (.cells #[.string d.sh,.int .i64 d.c,.int .i64 d.r,.bool d.ac,.bool d.ar] 45)):=(Below.refl _ _).alloc (Nat.le_refl _) _
   have HL3:=Lib.hid (HL2.out.below hB3 HL2.out.lt)
   have HT3:=Lib.hid (HT2.out.below hB3 HT2.out.lt)
   have HG3:=Lib.hid (grownBy.below' (grownBy.below' (grownBy.trans' HAL.out H1.out) H3.out) hB3)
   clear x0 x1 x2 x3 x4 x5 x6 x7 x8 f0 f1 f2 f3 f4 f5 f6 f7 f8 hB3
   generalize w2.alloc (.cells #[.string d.sh,.int .i64 d.c,.int .i64 d.r,.bool d.ac,.bool d.ar] 45)=w3 at hR3 HL3 HT3 HG3 ⊢
   obtain ⟨x0,x1,x2,x3,x4,x5,x6,x7,x8⟩:=HT3.out.cells
   obtain ⟨f0,f1,f2,f3,f4,f5,f6,f7,f8⟩:=HT3.out.melts
   obtain ⟨y0,y1,y2,y3,y4⟩:=hR3.facts
   clear hR3
   go_wp2_with fail
   exact bodyPost_ret (out_tok (HT3.out.put9 { Tk.zero with kind:=4,sh:=d.sh,c:=d.c,r:=d.r,ac:=d.ac,ar:=d.ar }) _ _ true 2 3 res_word rfl rfl) rfl ⟨grownBy.set9 HG3.out (Nat.le_refl _) _ _ _ _ _ _ _ _ _,.inl ⟨_,_,HN.out,rfl,HL3.out.set9 hw0 _ _ _ _ _ _ _ _ _⟩⟩
 | none =>
   rw [hq] at hN
   have HSY:=Lib.hid (fun (e:Ending) (he:Says (sb D) e)=>says_none hq he);clear hq
   cases hnm:nmL ds
   all_goals
    rw [hnm] at hN
    have HN:=Lib.hid hN;clear hN
    have HNM:=Lib.hid (show nmL (sb D)=_ by rw [hsD,hnm])
    clear hnm hsD
    go_enter Tryz.func215,Tryz.ntmps215
    go_upto_region 5 with (first
     | (go_at_call 181;((with_reducible refine HW.out.mono ?_);rintro e w1 ⟨h1,rfl,h2⟩;have H1:=Lib.hid h1;have H2:=Lib.hid h2;clear h1 h2))
     | (go_at_call 235;((with_reducible refine (read_any D _ ?_).mono ?_);(first | omega | skip);rintro e w2 ⟨h1,h2⟩;obtain rfl:=HSY.out e h1;clear h1;have H3:=Lib.hid h2;clear h2;have HL2:=Lib.hid (H2.out.below H3.out H2.out.lt);have HT2:=Lib.hid ((HTK.out.grown H1.out hw0).below H3.out (HTK.out.grown H1.out hw0).lt))))
    have hB3:Below w2.heap.size w2 (w2.alloc (.cells #[.string ⟨#[]⟩,.int .i64 0,.int .i64 0,.bool false,.bool false] 45)):=(Below.refl _ _).alloc (Nat.le_refl _) _
    have HL3:=Lib.hid (HL2.out.below hB3 HL2.out.lt)
    have HT3:=Lib.hid (HT2.out.below hB3 HT2.out.lt)
    have HG3:=Lib.hid (grownBy.below' (grownBy.below' (grownBy.trans' HAL.out H1.out) H3.out) hB3)
    clear hB3
    generalize w2.alloc (.cells #[.string ⟨#[]⟩,.int .i64 0,.int .i64 0,.bool false,.bool false] 45)=w3 at HL3 HT3 HG3 ⊢
    obtain ⟨x0,x1,x2,x3,x4,x5,x6,x7,x8⟩:=HT3.out.cells
    obtain ⟨f0,f1,f2,f3,f4,f5,f6,f7,f8⟩:=HT3.out.melts
    go_wp2_with (go_at_call 236;((with_reducible refine (isName_any D _ ?_).mono ?_);(first | omega | skip);rintro e w4 ⟨rfl,rfl⟩;rw [HNM.out]))
   · exact bodyPost_ret (out_tok (HT3.out.put9 { Tk.zero with kind:=3,text:=D }) _ _ false 2 3 res_word rfl rfl) rfl ⟨grownBy.set9 HG3.out (Nat.le_refl _) _ _ _ _ _ _ _ _ _,.inr ⟨HN.out,{ Tk.zero with kind:=3,text:=D },rfl⟩⟩
   · exact bodyPost_ret (out_tok (HT3.out.put9 { Tk.zero with kind:=3,text:=D }) _ _ true 2 3 res_word rfl rfl) rfl ⟨grownBy.set9 HG3.out (Nat.le_refl _) _ _ _ _ _ _ _ _ _,.inl ⟨_,_,HN.out,rfl,HL3.out.set9 hw0 _ _ _ _ _ _ _ _ _⟩⟩
end Go.Proofs.YtdnooocmlhcpkaaGreatDoor
