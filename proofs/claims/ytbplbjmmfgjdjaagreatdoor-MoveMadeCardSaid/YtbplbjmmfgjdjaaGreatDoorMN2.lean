import Derived.Test.YtbplbjmmfgjdjaaGreatDoorMN1
import Derived.Test.YtbplbjmmfgjdjaaGreatDoorProg
import Derived.Maps.OwnSet
import Derived.RangeFuncNested
import Derived.RangeFuncBound
import Derived.RangeFuncCalls
import Derived.RangeFuncLeaves
import Derived.OwnWalkIn
import Derived.TacticsInMore
import Derived.LoopNIn
import Derived.LoopIn
import Derived.Maps.OwnIn
import Derived.Shelf.Small.Strs
import Derived.Shelf.Strconv.Atoi
import Derived.Shelf.Strconv.Itoa0
import Derived.Shelf.Strconv.Itoa1
import Derived.Shelf.LaysM
import Derived.Shelf.Strconv.Itoa2
import Derived.Shelf.Strconv.Itoa3
import Derived.Shelf.Strconv.AtoiErrFast
import Derived.Shelf.Strconv.ParseIntEmpty
import Derived.Shelf.Strconv.AtoiFail
import Derived.Shelf.Strconv.Clone
import Derived.Shelf.Strconv.SyntaxError
import Derived.Shelf.LaysC
import Derived.Shelf.Strconv.ToError
import Derived.Shelf.Strconv.Lower
import Derived.Shelf.Strconv.ParseUint10
import Derived.Shelf.Strconv.ParseUint10Empty
import Derived.Shelf.Strconv.ParseUint10Any
import Derived.Shelf.Strconv.ParseInt10
import Derived.Shelf.Strconv.AtoiLong
import Derived.Shelf.Strconv.AtoiInnerAll
import Derived.Shelf.Strconv.RangeError
import Derived.Shelf.Strconv.ToErrorRange
import Derived.Shelf.Strconv.AtoiAll
import Derived.Shelf.Strconv.ErrVarAll
import Derived.Shelf.Strings.Search1
import Derived.Shelf.Strings.Search2
import Derived.Shelf.Strings.Search3
import Derived.Shelf.Strings.Count
import Derived.Shelf.Strings.Shaped
import Derived.Shelf.Strings.Prefix
import Derived.Shelf.Unicode.DecodeSlow
import Derived.Laws.ResultCell
set_option maxRecDepth 100000
set_option maxHeartbeats 64000000
namespace Go.Proofs.YtbplbjmmfgjdjaaGreatDoor
open Go.RowKit
theorem aeQ (n:Int):xZ (kL (jg n)) (jg n:Int):=by
 have h:=KU n;refine⟨by rw[CR];omega,by omega,by omega, ?_⟩;refine⟨fun i x hx _ => ?_,fun i j x y hij hx hy _ _ => ?_⟩
 · obtain ⟨k,hk,rfl⟩:∃k:Nat,k<jg n∧x=(k:Int):=by
    unfold kL at hx;rw[gY]at hx;cases hq:(List.range (jg n))[i]? with
    | none=>rw[hq]at hx;cases hx
    | some q=>rw[hq]at hx;injection hx with hx;exact⟨q,by have:=fe hq;rwa[List.mem_range]at this,hx.symm⟩
   omega
 · have hn:∀(i:Nat)(x:Int),(kL (jg n))[i]? = some x→x=(i:Int):=by
    intro i x hx;unfold kL at hx;rw[gY]at hx;cases hq:(List.range (jg n))[i]? with
    | none=>rw[hq]at hx;cases hx
    | some q =>
      rw[hq]at hx;injection hx with hx;have h1:=(eQ.1 hq);obtain⟨h2,h3⟩:=h1;rw[List.getElem_range]at h3;rw[← hx, ← h3]
   rw[hn i x hx,hn j y hy];omega
end Go.Proofs.YtbplbjmmfgjdjaaGreatDoor
namespace Go.Proofs.YtbplbjmmfgjdjaaGreatDoor
open Go Go.WideMaps Go.ChangeMaps Go.MapKept Go.Maps Go.WideElems Go.RowKit
variable {es:List (ByteArray × Value)}{b:Nat}{w:World}
def pq (w:World)(b:Nat)(es:List (ByteArray × Value)):Prop :=
 ∃a clock,w.heap[b]? = some (.map a clock)∧a.toList.map (fun e=>(e.key,e.val))=es.map (fun p=>(Value.string p.1,p.2))
theorem pq.made(w:World):pq (w.alloc (.map #[] 0)) w.heap.size []:=⟨#[],0,(MapKept.heap_alloc w _).1,rfl⟩
theorem pq.lt (h:pq w b es):b<w.heap.size:=by
 obtain⟨a,c,hb,_⟩:=h;exact(dB.1 hb).1
theorem pq.keys {a:Array MapEntry}(h:a.toList.map (fun e=>(e.key,e.val))=es.map (fun p=>(Value.string p.1,p.2))):∀e∈a.toList,∃p∈es,e.key = .string p.1∧e.val=p.2:=by
 intro e he;have h1:(e.key,e.val)∈a.toList.map (fun e=>(e.key,e.val)):=List.mem_map.2 ⟨e,he,rfl⟩;rw[h]at h1;obtain⟨p,hp,hpe⟩:=List.mem_map.1 h1;simp only[bH]at hpe;exact⟨p,hp,hpe.1.symm,hpe.2.symm⟩
theorem pq.MG {P:Program}{t k e:TypeId}(h:pq w b es)(ht:P.underlying t=some (.map k e))(hk:P.underlying k=some .string)(hsz:∀p∈es,p.1.size≤maxLen){z:Value}(hz:(zeroValue e).run P w = .ok z w)(key:ByteArray)(hks:key.size≤maxLen)(hno:∀p∈es,p.1≠key) :
 (Instr.lookup t (.map (some b)) (.string key) true).run P w = .ok (.tuple #[z,.bool false]) w:=by
 obtain⟨a,clock,hb,hes⟩:=h;have K:=string_keyed hk;have xe:=keyOf_string_mk hk hks
 rcases K.find w xe a.toList (fun x hx=>by
  obtain⟨p,hp,h1,_⟩:=pq.keys hes x hx;exact⟨_,by rw[h1];exact keyOf_string_mk hk (hsz p hp)⟩)with ⟨h1,h2⟩|⟨j,x,_,h2,h3⟩
 · simp[Instr.lookup,run_underlying ht,MapKept.run_getObj_map hb,K.check w _ xe,h1,hz,Result.andThen]
 · exfalso
   obtain⟨p,hp,h4,_⟩:=pq.keys hes x (fe h2);rw[h3]at h4;exact hno p hp (Value.string.inj h4).symm
theorem pq.find {P:Program}{t k e:TypeId}(h:pq w b es)(ht:P.underlying t=some (.map k e))(hk:P.underlying k=some .string)(hsz:∀p∈es,p.1.size≤maxLen)(key:ByteArray)(hks:key.size≤maxLen)(v:Value)(hin:(key,v)∈es)(ach:∀p∈es,p.1=key→p.2=v) :
 (Instr.lookup t (.map (some b)) (.string key) true).run P w = .ok (.tuple #[v,.bool true]) w:=by
 obtain⟨a,clock,hb,hes⟩:=h;have K:=string_keyed hk;have xe:=keyOf_string_mk hk hks
 rcases K.find w xe a.toList (fun x hx=>by
  obtain⟨p,hp,h1,_⟩:=pq.keys hes x hx;exact⟨_,by rw[h1];exact keyOf_string_mk hk (hsz p hp)⟩)with ⟨h1,h2⟩|⟨j,x,h1,h2,h3⟩
 · exfalso
   have h4:(Value.string key,v)∈a.toList.map (fun e=>(e.key,e.val)):=by rw[hes];exact List.mem_map.2 ⟨_,hin,rfl⟩
   obtain⟨x,hx,hxe⟩:=List.mem_map.1 h4;simp only[bH]at hxe;exact h2 x hx hxe.1
 · obtain⟨p,hp,h4,h5⟩:=pq.keys hes x (fe h2)
   rw[h3]at h4;have h6:=ach p hp (Value.string.inj h4).symm;rw[h5,h6]at h1;simp[Instr.lookup,run_underlying ht,MapKept.run_getObj_map hb,K.check w _ xe,h1,Result.andThen]
end Go.Proofs.YtbplbjmmfgjdjaaGreatDoor
namespace Go.Proofs.YtbplbjmmfgjdjaaGreatDoor
open Go Go.WideMaps Go.ChangeMaps Go.MapKept Go.Maps Go.WideElems Go.RowKit
variable {f:ByteArray→Option Value}{b:Nat}{P:Program}{e k t:TypeId}{w:World}
def jy (w:World)(b:Nat)(f:ByteArray→Option Value):Prop :=
 ∃es,pq w b es∧(∀p∈es,p.1.size≤maxLen)∧(∀p∈es,f p.1=some p.2)∧(∀key v,f key=some v→(key,v)∈es)∧∀(i j:Nat) p q,es[i]? = some p→es[j]? = some q→p.1=q.1→i=j
def zO(f:ByteArray→Option Value)(key:ByteArray)(v:Value):ByteArray→Option Value:=fun k=>if k=key then some v else f k
theorem jy.made (w:World):jy (w.alloc (.map #[] 0)) w.heap.size (fun _=>none) :=
 by
 refine⟨[],pq.made w, ?_, ?_, ?_, ?_⟩
 · intro p h;cases h
 · intro p h;cases h
 · intro k v h;cases h
 · intro i j p q h;simp at h
theorem jy.lt(h:jy w b f):b<w.heap.size:=by obtain⟨es,h1,_⟩:=h;exact h1.lt
theorem jy.keep {w':World}(h:jy w b f)(hk:w'.heap[b]? = w.heap[b]?):jy w' b f:=by
 obtain⟨es,⟨a,c,h1,h2⟩,h3⟩:=h;exact⟨es,⟨a,c,hk.trans h1,h2⟩,h3⟩
theorem jy.below{w':World}{B:Nat}(h:jy w b f)(hb:Below B w w')(hB:b<B):jy w' b f:=h.keep (hb.block b hB)
theorem jy.MG (h:jy w b f)(ht:P.underlying t=some (.map k e))(hk:P.underlying k=some .string){z:Value}(hz:(zeroValue e).run P w = .ok z w)(key:ByteArray)(hks:key.size≤maxLen)(hno:f key=none) :
 (Instr.lookup t (.map (some b)) (.string key) true).run P w = .ok (.tuple #[z,.bool false]) w:=by
 obtain⟨es,h1,h2,h3,_⟩:=h;exact h1.MG ht hk h2 hz key hks fun p hp e=>by have:=h3 p hp;rw[e,hno]at this;cases this
theorem jy.find (h:jy w b f)(ht:P.underlying t=some (.map k e))(hk:P.underlying k=some .string)(key:ByteArray)(hks:key.size≤maxLen)(v:Value)(hin:f key=some v) :
 (Instr.lookup t (.map (some b)) (.string key) true).run P w = .ok (.tuple #[v,.bool true]) w:=by
 obtain⟨es,h1,h2,h3,h4,_⟩:=h;exact h1.find ht hk h2 key hks v (h4 key v hin) fun p hp e=>by have:=h3 p hp;rw[e,hin]at this;exact(dM this).symm
theorem jy.put (h:jy w b f)(ht:P.underlying t=some (.map k e))(hk:P.underlying k=some .string)(key:ByteArray)(hks:key.size≤maxLen)(v:Value) :
 ∃w',(Instr.mapUpdate t (.map (some b)) (.string key) v).run P w = .ok () w'∧jy w' b (zO f key v)∧w'.heap.size=w.heap.size∧w.grownBy w' (some b):=by
 obtain⟨es,h1,h2,h3,h4,h5⟩:=h;obtain⟨a,clock,hb,hes⟩:=h1;have K:=string_keyed hk;have xe:=keyOf_string_mk hk hks;have hgr:∀o:Obj,w.grownBy (setBlock w b o) (some b):=fun o=>⟨rfl,rfl,rfl,by simp[setBlock],fun j _ hne=>heap_setBlock_other hb _ (fun e=>hne (by rw[e]))⟩
 rcases K.find w xe a.toList (fun x hx=>by
  obtain⟨p,hp,h1,_⟩:=pq.keys hes x hx;exact⟨_,by rw[h1];exact keyOf_string_mk hk (h2 p hp)⟩)with ⟨g1,g2⟩|⟨j,x,g1,g2,g3⟩
 · have hno:∀p∈es,p.1≠key:=fun p hp e=>by
    have h6:(Value.string p.1,p.2)∈a.toList.map (fun e=>(e.key,e.val)):=by rw[hes];exact List.mem_map.2 ⟨_,hp,rfl⟩
    obtain⟨x,hx,hxe⟩:=List.mem_map.1 h6;simp only[bH]at hxe;exact g2 x hx (by rw[hxe.1,e])
   refine⟨setBlock w b (.map (a.push ⟨.string key,v,clock⟩) (clock+1)), ?_,⟨es++[(key,v)],⟨_,_,heap_setBlock_same hb _, ?_⟩, ?_, ?_, ?_, ?_⟩,by simp[setBlock],hgr _⟩
   · simp[Instr.mapUpdate,run_underlying ht,MapKept.run_getObj_map hb,K.check w false xe,g1,MapKept.run_setObj_map _ hb,Result.andThen,setBlock]
   · rw[Array.toList_push,iL,iL,hes];rfl
   · intro p hp;rcases dQ.1 hp with hp|hp
     · exact h2 p hp
     · rw[gM.1 hp];exact hks
   · intro p hp;unfold zO;rcases dQ.1 hp with hp|hp
     · rw[af (hno p hp)];exact h3 p hp
     · rw[gM.1 hp,ag rfl]
   · intro k' v' hv;unfold zO at hv
     by_cases c:k'=key
     · rw[ag c]at hv;rw[← dM hv,c];simp
     · rw[af c]at hv;exact List.mem_append_left _ (h4 _ _ hv)
   · intro i j p q hp hq hpq
     rw[List.getElem?_append]at hp hq;split at hp <;> split at hq
     · exact h5 i j p q hp hq hpq
     · have:q=(key,v):=gM.1 (fe hq)
       exact absurd (hpq.trans (by rw[this])) (hno p (fe hp))
     · have:p=(key,v):=gM.1 (fe hp)
       exact absurd (hpq.symm.trans (by rw[this])) (hno q (fe hq))
     · have e1:=(eQ.1 hp).1
       have e2:=(eQ.1 hq).1;simp at e1 e2;omega
 · have hjl:j<a.size:=by have:=(eQ.1 g2).1;simpa using this
   have haj:a[j]? = some x:=by rw[← Array.getElem?_toList];exact g2
   have GM:es[j]? = some (key,x.val):=by
    have h6:(a.toList.map (fun e=>(e.key,e.val)))[j]? = some (x.key,x.val):=by rw[gY,g2];rfl
    rw[hes,gY]at h6;cases e:es[j]? with
    | none=>rw[e]at h6;cases h6
    | some p =>
      rw[e]at h6;have h7:=dM h6;simp only[bH]at h7;rw[g3]at h7;rw[← Value.string.inj h7.1, ← h7.2]
   have LM:∀(i:Nat) p,i≠j→es[i]? = some p→p.1≠key:=fun i p hi hp e=>hi (h5 i j p _ hp GM e)
   have G5:∀(i:Nat) p,(es.set j (key,v))[i]? = some p→(i=j∧p=(key,v))∨(i≠j∧es[i]? = some p):=by
    intro i p hp;rw[List.getElem?_set]at hp;split at hp
    · rename_i e;split at hp
      · exact .inl ⟨e.symm,(dM hp).symm⟩
      · cases hp
    · rename_i e;exact .inr ⟨fun e'=>e e'.symm,hp⟩
   refine⟨setBlock w b (.map (a.modify j fun e=>{ e with key := .string key,val:=v }) clock), ?_,⟨es.set j (key,v),⟨_,_,heap_setBlock_same hb _, ?_⟩, ?_, ?_, ?_, ?_⟩,by simp[setBlock],hgr _⟩
   · simp[Instr.mapUpdate,run_underlying ht,MapKept.run_getObj_map hb,K.check w false xe,g1,haj,g3,K.stays w xe,MapKept.run_setObj_map _ hb,Result.andThen,setBlock]
   · rw [Array.toList_modify]
     apply List.ext_getElem?;intro i;have h6:(a.toList.map (fun e=>(e.key,e.val)))[i]? = (es.map (fun p=>(Value.string p.1,p.2)))[i]? := by rw[hes]
     rw[gY,gY]at h6;rw[gY,gY,List.getElem?_modify,List.getElem?_set];by_cases c:j=i
     · subst c
       rw[ag rfl,g2,ag (eQ.1 GM).1];simp
     · rw[af c];simp only[af c]
       rw[← h6];cases a.toList[i]? <;> rfl
   · intro p hp
     obtain⟨i,hi⟩:=List.getElem?_of_mem hp;rcases G5 i p hi with ⟨_,e⟩|⟨_,e⟩
     · rw[e];exact hks
     · exact h2 p (fe e)
   · intro p hp;unfold zO
     obtain⟨i,hi⟩:=List.getElem?_of_mem hp;rcases G5 i p hi with ⟨_,e⟩|⟨e0,e⟩
     · rw[e,ag rfl]
     · rw[af (LM i p e0 e)];exact h3 p (fe e)
   · intro k' v' hv;unfold zO at hv
     by_cases c:k'=key
     · rw[ag c]at hv;rw[← dM hv,c]
       exact fe (i:=j) (by rw[List.getElem?_set,ag rfl,ag (eQ.1 GM).1])
     · rw[af c]at hv
       obtain⟨i,hi⟩:=List.getElem?_of_mem (h4 _ _ hv);refine fe (i:=i) ?_;rw[List.getElem?_set,af (fun e=>c (by subst e;rw[GM]at hi;have:=dM hi;simp only[bH]at this;exact this.1.symm))];exact hi
   · intro i i' p q hp hq hpq
     rcases G5 i p hp with ⟨e1,e2⟩|⟨e1,e2⟩ <;> rcases G5 i' q hq with ⟨e3,e4⟩|⟨e3,e4⟩
     · rw[e1,e3]
     · exact absurd (hpq.symm.trans (by rw[e2])) (LM i' q e3 e4)
     · exact absurd (hpq.trans (by rw[e4])) (LM i p e1 e2)
     · exact h5 i i' p q e2 e4 hpq
end Go.Proofs.YtbplbjmmfgjdjaaGreatDoor
namespace Go.Proofs.YtbplbjmmfgjdjaaGreatDoor
open Go.RowKit
variable {B C:Nat}{α:Type}{v:Value}{w w':World}
structure aP where
 s:Sf
 ra:Option Addr
 rc:Nat
 ca:Option Addr
 cc:Nat
 z:s.sh.size≤maxLen
def aP.rv(x:aP):Value := .slice x.ra x.s.rx.length x.rc
def aP.cv(x:aP):Value := .slice x.ca x.s.cx.length x.cc
def iQ(x:aP):Array Value:=#[.string x.s.sh,x.rv,.int .i64 x.s.rn,x.cv,.int .i64 x.s.cn,.bool x.s.gone]
theorem aP.one (x:aP):∀u∈(iQ x).toList,u.oneCell'=true:=by
 intro v hv;simp only[iQ,ik,List.not_mem_nil,or_false]at hv;rcases hv with rfl|rfl|rfl|rfl|rfl|rfl <;> rfl
def Cw:Enc aP 6:={ f:=fun x=>(iQ x).toList,len:=fun _=>rfl,one:=fun x u hu=>aP.one x u hu }
structure nJ (w:World)(B:Nat)(x:aP):Prop where
 rows:IR w B x.ra x.s.rx.length x.rc x.s.rx
 mH:IR w B x.ca x.s.cx.length x.cc x.s.cx
theorem nJ.below{x:aP}(h:nJ w B x)(hb:Below C w w')(hC:B≤C):nJ w' B x:=⟨ku.below h.rows hb hC,ku.below h.mH hb hC⟩
theorem nJ.mono{x:aP}(h:nJ w B x)(hC:B≤C):nJ w C x:=⟨ku.mono h.rows hC,ku.mono h.mH hC⟩
theorem nJ.lift{x:aP}(h:nJ w w.heap.size x)(hb:Below w.heap.size w w'):nJ w' w'.heap.size x:=(h.below hb (aj _)).mono hb.size
def mW(w:World)(B:Nat)(v:Value)(xs:List aP):Prop:=ku Cw w B v xs∧∀x∈xs,nJ w B x
theorem mW.below{xs:List aP}(h:mW w B v xs)(hb:Below C w w')(hC:B≤C):mW w' B v xs:=⟨h.1.below hb hC,fun x hx=>(h.2 x hx).below hb hC⟩
theorem mW.mono{xs:List aP}(h:mW w B v xs)(hC:B≤C):mW w C v xs:=⟨h.1.mono hC,fun x hx=>(h.2 x hx).mono hC⟩
theorem mW.lift{xs:List aP}(h:mW w w.heap.size v xs)(hb:Below w.heap.size w w'):mW w' w'.heap.size v xs:=(h.below hb (aj _)).mono hb.size
def eH(xs:List aP):List Sf:=xs.map aP.s
def zG(xs:List aP)(k:ByteArray):Option aP:=xs.find? fun x=>decide (x.s.sh=k)
theorem adY (xs:List aP)(k:ByteArray):yl (eH xs) k=(zG xs k).map aP.s:=by
 unfold yl eH zG;rw[List.find?_map];rfl
theorem adZ{xs:List aP}{k:ByteArray}{x:aP}(h:zG xs k=some x):x∈xs:=List.mem_of_find?_eq_some h
def rP(xs:List aP)(k:ByteArray):Option Value:=(zG xs k).map fun x => .agg (iQ x)
theorem ael (x:aP)(xs:List aP):rP (x :: xs)=zO (rP xs) x.s.sh (.agg (iQ x)):=by
 funext k
 unfold rP zG zO;rw[List.find?_cons];by_cases c:k=x.s.sh
 · rw[ag c,aR (show x.s.sh=k from c.symm)];rfl
 · rw[af c,aV (show ¬ x.s.sh=k from fun e=>c e.symm)]
def uy{α : Type}(xs:List α)(q:Nat):List (Nat × α):=((xs.zipIdx).drop q).reverse.map fun e=>(e.2,e.1)
theorem ZN (xs:List α):uy xs xs.length=[]:=by
 unfold uy;rw[List.drop_of_length_le (by rw[List.length_zipIdx];exact aj _)];rfl
theorem ZQ (xs:List α)(m:Nat)(p : α)(hp:xs[m]? = some p):uy xs m=uy xs (m+1)++[(m,p)]:=by
 have hl:=(eQ.1 hp).1;have hz:(xs.zipIdx)[m]? = some (p,m):=by rw[List.getElem?_zipIdx,hp];simp
 have hzl:=(eQ.1 hz).1;unfold uy;rw[List.drop_eq_getElem_cons hzl,List.reverse_cons,iL];have:(xs.zipIdx)[m]=(p,m):=by rw[cZ hzl]at hz;exact dM hz
 rw[this];rfl
theorem ZO(xs:List α)(q:Nat):(uy xs q).length=xs.length - q:=by unfold uy;simp
theorem ZP (xs:List α):((uy xs 0).map (·.2)).reverse=xs:=by
 unfold uy;rw[List.drop_zero,List.map_map, ← List.map_reverse,List.reverse_reverse];show xs.zipIdx.map (fun e=>e.1)=xs;exact List.zipIdx_map_fst ..
end Go.Proofs.YtbplbjmmfgjdjaaGreatDoor
namespace Go.Proofs.YtbplbjmmfgjdjaaGreatDoor
open Go.RowKit Go.Shelf
attribute [local go_sem] Oper.semAt_some
variable {x y:Nat}{w:World}
def jB(x y:Nat)(w w':World):Prop:=w'.heap[x]? = w.heap[x]? ∧ w'.heap[y]? = w.heap[y]?
theorem jB.refl(x y:Nat)(w:World):jB x y w w:=⟨rfl,rfl⟩
theorem jB.trans{a b c:World}(h:jB x y a b)(k:jB x y b c):jB x y a c:=⟨k.1.trans h.1,k.2.trans h.2⟩
theorem jB.KT{w':World}(h:jB x y w w')(j:Nat):w'.cell? ⟨x,j,none⟩=w.cell? ⟨x,j,none⟩:=gK (a:=⟨x,j,none⟩) h.1
theorem jB.wW{w':World}(h:jB x y w w')(j:Nat):w'.cell? ⟨y,j,none⟩=w.cell? ⟨y,j,none⟩:=gK (a:=⟨y,j,none⟩) h.2
theorem Oj (hx:x<w.heap.size)(hy:y<w.heap.size)(W:World)(l:Nat)(o o':Obj)(hl:w.heap.size≤l)(h:W.heap[l]? = some o)(_:o.isCells=false)(_:o.isWalk=false):jB x y W (W.putObj l o'):=by
 have hlt:=(dB.1 h).1;have hg:=grownBy_putObj' W l o';exact⟨hg.block x (by omega) (fun e=>by have:=dM e;omega),hg.block y (by omega) (fun e=>by have:=dM e;omega)⟩
end Go.Proofs.YtbplbjmmfgjdjaaGreatDoor
namespace Go.Proofs.YtbplbjmmfgjdjaaGreatDoor
open Go.RowKit Go.Shelf
attribute [local go_sem] Oper.semAt_some
def Jp(W:World)(A:Option Addr)(b po:Nat)(xs:List aP):Prop:=∀(m:Nat)(x:aP),xs[m]? = some x→A=some ⟨b,po,none⟩∧∀(j:Nat)(u:Value),(iQ x).toList[j]? = some u→W.cell? ⟨b,po+(m*6+j),none⟩=some u
theorem Zm (F:Fence)(n:Nat)(h7:F.fn 61)(hro:F.round=none)(hn:1≤n)(l Bs b po cap:Nat)(A:Option Addr)(xs:List aP)(hlen:xs.length≤1000000)(J Jx:List (Nat × aP)→World→Prop)
 (hY:∀pre x W,J pre W→pre.length<xs.length→YieldAt F (n - 1) Tryz.prog l #[.int .i64 (x.1:Int),.agg (iQ x.2)] W fun e W' =>
   (e = .returned (.bool true)∧J (pre++[x]) W'∧jB Bs b W W')∨(e = .returned (.bool false)∧Jx (pre++[x]) W'))
 (W:World) (rA:W.cell? ⟨Bs,0,none⟩=some (.slice A xs.length cap)) (hc:Jp W A b po xs) (h0:J [] W) :
 CallsIn F n Tryz.prog 61 #[.func (.yield l) #[] #[],.pointer (some ⟨Bs,0,none⟩)] W fun e W'=>(∃v,e = .returned v) ∧
  ((∃ys,ys=uy xs 0∧J ys W')∨(∃pre,True∧Jx pre W')):=by
 obtain⟨L,hL⟩:∃L,xs.length=L:=⟨_,rfl⟩;have HL:=ae hL;rw[hL]at hlen rA;refine callsIn_of_wp Tryz.func61 rfl h7 ?_ hro;simp only[Tryz.ntmps61,List.size_toArray,bf,dX,Nat.reduceAdd,Nat.reduceSub,Array.replicate_succ,Array.replicate_zero,List.push_toArray,List.append_toArray,gX,dE];gi_wp2
 gi_loopw [3] (fun i wr=>∃q:Nat,q≤L∧i = .int .i64 ((q:Int) - 1)∧J (uy xs q) wr∧jB Bs b W wr)
  (fun i _=>(intOf i+1).toNat)
 case atStart=>exact⟨L,aj _,rfl,by rw[← hL,ZN];exact h0,jB.refl _ _ _⟩
 case round =>
  obtain⟨q,hq,rfl,hJs,hnx⟩:=hrel;have Rj:=(hnx.KT 0).trans rA;cases q with
  | zero =>
    gi_wp2
    go_end0;exact⟨⟨_,rfl⟩,.inl ⟨_,rfl,hJs⟩⟩
  | succ m =>
    obtain⟨p,hp⟩:∃p,xs[m]? = some p:=⟨_,cZ (by omega)⟩;obtain⟨hA,c0⟩:=hc m p hp;have d0:wr.cell? ⟨b,po+m*6,none⟩=some (.string p.s.sh):=(hnx.wW (po+m*6)).trans (c0 0 _ rfl);have d1:wr.cell? ⟨b,po+m*6+1,none⟩=some p.rv:=(hnx.wW (po+m*6+1)).trans (c0 1 _ rfl);have d2:wr.cell? ⟨b,po+m*6+2,none⟩=some (.int .i64 p.s.rn):=(hnx.wW (po+m*6+2)).trans (c0 2 _ rfl);have d3:wr.cell? ⟨b,po+m*6+3,none⟩=some p.cv:=(hnx.wW (po+m*6+3)).trans (c0 3 _ rfl);have d4:wr.cell? ⟨b,po+m*6+4,none⟩=some (.int .i64 p.s.cn):=(hnx.wW (po+m*6+4)).trans (c0 4 _ rfl);have d5:wr.cell? ⟨b,po+m*6+5,none⟩=some (.bool p.s.gone):=(hnx.wW (po+m*6+5)).trans (c0 5 _ rfl);have hst:=ZQ xs m p hp;obtain⟨fn,tmps,assign,body,hy,hR⟩:=hY _ (m,p) wr hJs (by rw[ZO];omega);rw[← hst]at hR;dsimp only[iQ]at hy;have hm1:((m+1:Nat):Int) - 1=(m:Int):=by omega
    rw[hm1];have RV:(m:Int)<(L:Int):=by omega
    have hm0:(0:Int)≤(m:Int):=by omega
    clear hm1 c0 hc hJs hst;subst hA;gi_wp2
    refine hR.mono ?_;rintro e W3 (⟨rfl,hJ3,hk3⟩|⟨rfl,Eo⟩)
    · gi_wp2
      go_roundw
      case rel=>exact⟨m,by omega,by simp,hJ3,hnx.trans hk3⟩
      case measure=>simp[intOf]
    · gi_wp2
      refine bodyPost_ret (results_none rfl _ _ _) rfl ?_;exact⟨⟨_,rfl⟩,.inr ⟨_,trivial,Eo⟩⟩
theorem Zq (F:Fence)(n:Nat)(h5:F.fn 37)(hro:F.round=none)(a:Option Addr)(len cap:Nat)(w:World) :
 CallsIn F n Tryz.prog 37 #[.slice a len cap] w fun e w'=>e = .returned (.func (.func 61) #[] #[.pointer (some ⟨w.heap.size,0,none⟩)])∧w.alloc (.cells #[.slice a len cap] 26)=w':=by
 refine callsIn_of_wp Tryz.func37 rfl h5 ?_ hro;simp only[Tryz.ntmps37,List.size_toArray,bf,dX,Nat.reduceAdd,Nat.reduceSub,Array.replicate_succ,Array.replicate_zero,List.push_toArray,List.append_toArray,gX,dE];gi_wp2
 go_ret;exact⟨rfl,rfl⟩
theorem Zn (F:Fence)(n:Nat)(h7:F.fn 61)(hro:F.round=none)(hn:1≤n)(Bs b po cap:Nat)(A:Option Addr)(xs:List aP)(hlen:xs.length≤1000000)(w:World)(hB:Bs<w.heap.size)(hb:b<w.heap.size)
 (rA:w.cell? ⟨Bs,0,none⟩=some (.slice A xs.length cap)) (hc:Jp w A b po xs) :
 SeqStopsK F n Tryz.prog 61 #[.pointer (some ⟨Bs,0,none⟩)] (fun x:Nat × aP=>#[Value.int .i64 (x.1:Int),.agg (iQ x.2)]) (jB Bs b) (fun ys=>ys=uy xs 0) (fun _=>True) xs.length w:=fun l J Jx W hW _ _ hY h0 =>
 Zm F n h7 hro hn l Bs b po cap A xs hlen J Jx hY W ((hW.cell hB).trans rA) (fun m x hx=>⟨(hc m x hx).1,fun j u hu=>(hW.cell (p:=⟨b,_,none⟩) hb).trans ((hc m x hx).2 j u hu)⟩) h0
end Go.Proofs.YtbplbjmmfgjdjaaGreatDoor
namespace Go.Proofs.YtbplbjmmfgjdjaaGreatDoor
open Go.RowKit Go.Shelf
attribute [local go_sem] Oper.semAt_some
variable {b:Nat}{w:World}{x:aP}
theorem ajZ {F:Fence}{nF:Nat}{P:Program}{ops:Array Oper}{rest:List Oper}{o:Oper}{a:Act}{Q:Exit→Act→World→Prop}(hg:o.guard=none)(m x v:Operand)(t:TypeId)(hop:o.op=Op.mapUpdate t m x v)
 (k e:TypeId) (ht:P.underlying t=some (.map k e)) (hk:P.underlying k=some .string) (b:Nat) (f:ByteArray→Option Value) (hm:a.eval m = .map (some b)) (gQ:jy w b f) (key:ByteArray) (val:Value) (hx:a.eval x = .string key) (hv:a.eval v=val) (hks:key.size≤maxLen)
 (hK:∀w',jy w' b (zO f key val)→w'.heap.size=w.heap.size→w.grownBy w' (some b)→wpListIn F nF P ops Q rest (a.put o.dst undef) w'):wpListIn F nF P ops Q (o :: rest) a w:=by
 refine wpListIn_plain hg fun K' hK' => ?_
 obtain⟨w',rE,r1,r2,r3⟩:=gQ.put ht hk key hks val;unfold Oper.wpIn;refine⟨by simp[Oper.about,hop], ?_⟩;rw[Oper.semAt_plain F _ _ (by rw[hop];intro c hc';cases hc')];simp[execOp,hop,hm,hx,hv,rE,Result.andThen];exact hK' _ _ (hK w' r1 r2 r3)
theorem ac7(B:Nat)(W:World)(o:Obj):KeepsFrom B W (W.alloc o):=⟨by simp,fun k o' _ hk _=>(Below.heap_alloc _ _ _ (dB.1 hk).1).trans hk⟩
theorem ajC(x y:Nat)(W:World)(o:Obj)(hx:x<W.heap.size)(hy:y<W.heap.size):jB x y W (W.alloc o):=⟨Below.heap_alloc _ _ _ hx,Below.heap_alloc _ _ _ hy⟩
def jA(w:World)(b:Nat)(x:aP):Prop:=w.heap[b]? = some (.cells (iQ x) 40)
theorem jA.new(w:World)(x:aP):jA (w.alloc (.cells (iQ x) 40)) w.heap.size x:=(lu w _).1
theorem jA.lt(h:jA w b x):b<w.heap.size:=(dB.1 h).1
theorem jA.keep{w':World}(h:jA w b x)(hk:w'.heap[b]? = w.heap[b]?):jA w' b x:=by unfold jA;rw[hk];exact h
theorem jA.cells (h:jA w b x):w.cell? ⟨b,0,none⟩=some (.string x.s.sh)∧w.cell? ⟨b,1,none⟩=some x.rv∧w.cell? ⟨b,2,none⟩=some (.int .i64 x.s.rn)∧w.cell? ⟨b,3,none⟩=some x.cv∧w.cell? ⟨b,4,none⟩=some (.int .i64 x.s.cn)∧w.cell? ⟨b,5,none⟩=some (.bool x.s.gone) :=
 ⟨cell_of_row w b 0 _ _ _ h,cell_of_row w b 1 _ _ _ h,cell_of_row w b 2 _ _ _ h,cell_of_row w b 3 _ _ _ h,cell_of_row w b 4 _ _ _ h,cell_of_row w b 5 _ _ _ h⟩
def KD (w:World)(own:ByteArray)(z mb FH zs:Nat)(sv:Value)(pre:List (Nat × aP))(W:World):Prop :=
 jy W mb (rP (pre.map (·.2)).reverse)∧W.heap[z]? = some (.cells #[.string ⟨#[]⟩,.map none] 55)∧W.heap[FH]? = some (.cells #[.string own,.map (some mb)] 55)∧Boxed W zs 26 sv∧Below w.heap.size w W
theorem Uk {own:ByteArray}{z mb FH zs:Nat}{sv:Value}{B:Nat}(h1:z<B)(h2:mb<B)(h3:FH<B)(h4:zs<B)(h5:w.heap.size≤B):OwnFrom B (KD w own z mb FH zs sv):=by
 rintro pre X Y row ⟨k1,k2,k3,k4,k5⟩ hg hr;have hk:∀k,k<B→k<X.heap.size→Y.heap[k]? = X.heap[k]? := fun k hk hx=>hg.block k hx fun e=>by have:=(hr k e.symm).1;omega
 have hz:=(dB.1 k2).1;have hzm:=(dB.1 k3).1;refine⟨k1.keep (hk mb h2 k1.lt),(hk z h1 hz).trans k2,(hk FH h3 hzm).trans k3,(hk zs h4 k4.lt).trans k4,⟨hg.os.trans k5.os,hg.tape.trans k5.tape,hg.output.trans k5.output,bN k5.size hg.size,fun k RQ=>(hk k (by omega) (eB RQ k5.size)).trans (k5.block k RQ)⟩⟩
theorem aeN:(Tryz.prog.info? 55).map (·.size)=some 2:=by kernel_rfl
theorem ag4:Tryz.f22.results=#[.cell 4 55]:=by kernel_rfl
theorem aeM (w:World)(own:ByteArray)(A:Option Addr)(n cap:Nat)(xs:List aP)(h:mW w w.heap.size (.slice A n cap) xs)(hn:n≤1000000) :
 Calls Tryz.prog 22 #[.string own,.slice A n cap] w fun e w'=>∃mb,e = .returned (.agg #[.string own,.map (some mb)])∧w.heap.size≤mb∧jy w' mb (rP xs)∧Below w.heap.size w w':=by
 have hl:=h.1.len.1;subst hl;have HX:=ae h;have hmm:=@run_makeMap Tryz.prog;clear h;refine(callsIn_wide (n:=6)).1 ?_;refine callsIn_of_wp_marks Tryz.func22 rfl trivial ?_ rfl;simp only[Tryz.ntmps22,List.size_toArray,bf,dX,Nat.reduceAdd,Nat.reduceSub,Array.replicate_succ,Array.replicate_zero,List.push_toArray,List.append_toArray,gX,dE]
 gi_wp2_with (refine⟨trivial, ?_⟩;gi_at_call 37;refine(Zq Fence.wide _ trivial rfl _ _ _ _).mono ?_;rintro e w' ⟨rfl,rfl⟩)
 obtain⟨z,hz⟩:∃z,w.heap.size=z:=⟨_,rfl⟩;obtain⟨w6,nM⟩:∃w6,((((w.alloc (Obj.cells #[Value.string { data:=#[] },Value.map none] 55)).alloc (Obj.map #[] 0)).alloc (Obj.cells #[Value.string own,Value.map (some (w.heap.size+1))] 55)).alloc (Obj.cells #[Value.slice A xs.length cap] 26))=w6:=⟨_,rfl⟩;have iy:Below w.heap.size w w6:=by rw[← nM];exact((((ak _ w).alloc (aj _) _).alloc (by simp) _).alloc (by simp;omega) _).alloc (by simp;omega) _
 have hs6:w6.heap.size=w.heap.size+4:=by rw[← nM];simp
 have Rh:w6.heap[w.heap.size]? = some (.cells #[.string ⟨#[]⟩,.map none] 55):=by
  rw[← nM];exact((Below.heap_alloc _ _ _ (by simp;omega)).trans ((Below.heap_alloc _ _ _ (by simp;omega)).trans (Below.heap_alloc _ _ _ (by simp)))).trans (lu w _).1
 have sV:jy w6 (w.heap.size+1) (fun _=>none):=by
  have h:=jy.made (w.alloc (Obj.cells #[Value.string { data:=#[] },Value.map none] 55));rw[lQ]at h;refine h.keep ?_;rw[← nM];exact(Below.heap_alloc _ _ _ (by simp)).trans (Below.heap_alloc _ _ _ (by simp))
 have Ri:w6.heap[w.heap.size+2]? = some (.cells #[.string own,.map (some (w.heap.size+1))] 55):=by
  rw[← nM];refine(Below.heap_alloc _ _ _ (by simp)).trans ?_;have h:=(lu ((w.alloc (Obj.cells #[Value.string { data:=#[] },Value.map none] 55)).alloc (Obj.map #[] 0)) (Obj.cells #[Value.string own,Value.map (some (w.heap.size+1))] 55)).1
  simpa using h
 have h63:Boxed w6 (w.heap.size+3) 26 (.slice A xs.length cap):=by
  rw[← nM];have h:=Boxed.new ((((w.alloc (Obj.cells #[Value.string { data:=#[] },Value.map none] 55)).alloc (Obj.map #[] 0)).alloc (Obj.cells #[Value.string own,Value.map (some (w.heap.size+1))] 55))) 26 (.slice A xs.length cap)
  simpa using h
 obtain ⟨pb,po,hpb,hpz,hcl⟩:∃pb po,pb<w6.heap.size∧(pb<z∨pb=z+3)∧Jp w6 A pb po xs:=by
  by_cases h0:xs=[]
  · exact⟨z+3,0,by omega,.inr rfl,fun m x hx=>by rw[h0]at hx;cases hx⟩
  · obtain⟨x0,hx0⟩:∃x0,xs[0]? = some x0:=⟨_,cZ (List.length_pos_iff.2 h0)⟩
    obtain⟨pb,po,hA,hp,_⟩:=ku.at HX.o.1 hx0;refine⟨pb,po,by omega,.inl (by omega),fun m x hx=>⟨hA,fun j u hu => ?_⟩⟩;obtain⟨pb',po',hA',hp',hc⟩:=ku.at HX.o.1 hx;rw[hA]at hA';injection hA' with e;injection e with e1 e2;subst e1;subst e2;exact(iy.cell (p:=⟨pb,_,none⟩) hp').trans (hc j u hu)
 rw[nM];rw[hz]at hs6 Rh sV Ri h63 ⊢;have iR:=ae iy;have Bb:∀ {pre:List (Nat × aP)}{W:World},KD w own z (z+1) (z+2) (z+3) (.slice A xs.length cap) pre W→w6.heap.size≤W.heap.size:=fun h=>by have:=h.2.2.2.1.lt;omega
 clear nM iy hmm;rw[show z+1+1=z+2 from rfl,show z+2+1=z+3 from rfl]
 refine wpIn_rangeFunc_ownH (F:=Fence.wide) (n:=6) rfl (by omega) (gf:=61) (lb:=#[.pointer (some ⟨z+3,0,none⟩)]) rfl trivial (enters_of Tryz.func61 (by kernel_rfl) rfl)
  (Zn Fence.wide 5 trivial rfl (by omega) (z+3) pb po cap A xs hn w6 h63.lt hpb h63.cell hcl)
  jB.trans (Oj h63.lt hpb) (ak _ _) (fun _=>rfl)
  (KD w own z (z+1) (z+2) (z+3) (.slice A xs.length cap)) (fun _ _ _=>False)
  (Uk (by omega) (by omega) (by omega) (by omega) (by omega)) (fun _ _ _ _ _ hs _ _=>hs) ⟨sV,Rh,Ri,h63,iR.o⟩
  (fun y a' W=>∃p,w6.heap.size≤p∧jA W p y.2∧a'={ tmps:=#[.string own,.slice A xs.length cap,undef,undef,.pointer (some ⟨z,0,none⟩),.pointer (some ⟨z+2,0,none⟩),undef,.pointer (some ⟨p,0,none⟩),.string own,.map (some (z+1)),.agg #[.string own,.map (some (z+1))],.slice A xs.length cap,.func (.func 61) #[] #[.pointer (some ⟨z+3,0,none⟩)],.int .i64 (y.1:Int),.agg (iQ y.2),undef,undef,undef,undef,undef,undef],defers:=[] })
  ?stay ?assign ?body ?done ?stop
 case stay =>
  rintro x a' s W W' row ⟨p,h1,h2,h3⟩ hg hr;refine⟨p,h1,h2.keep (hg.block p h2.lt fun e => ?_),h3⟩;obtain⟨_,o,ho,hc⟩:=hr p e.symm;have h2':W.heap[p]? = some (.cells (iQ x.2) 40):=h2;rw[h2']at ho;cases ho;cases hc
 case assign =>
  rintro l pre ⟨j,x⟩ W K hI hK;have hkW:=hI.2.2.2.2.size;have pX:w6.heap.size≤W.heap.size:=Bb hI;have hx3:z+3<W.heap.size:=by omega
  have hsh : .agg (iQ x)=(Value.agg #[.string x.s.sh,.slice x.ra x.s.rx.length x.rc,.int .i64 x.s.rn,.slice x.ca x.s.cx.length x.cc,.int .i64 x.s.cn,.bool x.s.gone]):=rfl;dsimp only;rw[hsh];gi_wp2
  refine hK _ _ (ac7 _ _ _) (ajC _ _ _ _ hx3 (by omega)) ?_ ⟨W.heap.size,pX,jA.new W x,rfl⟩;exact Uk (B:=W.heap.size) (by omega) (by omega) (by omega) (by omega) hkW pre W _ none hI ⟨rfl,rfl,rfl,by simp,fun k hk _=>Below.heap_alloc _ _ _ hk⟩ (fun r e=>by cases e)
 case body =>
  rintro l pre ⟨j,x⟩ a' W - - ⟨hM,h0,h2,h3,hb⟩ ⟨p,CF,hat,rfl⟩ hlen;obtain⟨y0,y1,y2,y3,y4,dH⟩:=hat.cells;have m1:W.cell? ⟨z+2,1,none⟩=some (.map (some (z+1))):=cell_of_row W (z+2) 1 _ _ _ h2;have HM:=ae hM;have hks:x.s.sh.size≤maxLen:=x.z;dsimp only[aP.rv,aP.cv]at y1 y3;dsimp only
  gi_wp2_with (refine ajZ rfl (.tmp 16) (.tmp 18) (.tmp 19) 53 rfl 9 40 Tryz.underlying53 Tryz.underlying9 (z+1) _ rfl HM.o x.s.sh (.agg (iQ x)) rfl rfl hks ?_;intro W2 k1 k2 k3)
  have hmb:z+1<W.heap.size:=by have:=Bb ⟨hM,h0,h2,h3,hb⟩;omega
  have aco:pb≠z+1:=by omega
  have hkk:∀k,k<W.heap.size→k≠z+1→W2.heap[k]? = W.heap[k]? := fun k h1 h2=>k3.block k h1 (fun e=>h2 (dM e))
  have acn:pb<W.heap.size:=by have:=Bb ⟨hM,h0,h2,h3,hb⟩;omega
  refine ⟨⟨by omega,fun k o h1 h2 _=>(hkk k (dB.1 h2).1 (by omega)).trans h2⟩,⟨hkk _ h3.lt (by omega),hkk _ acn aco⟩, ?_,(hkk _ (by omega) (by omega)).trans h0,(hkk _ (dB.1 h2).1 (by omega)).trans h2,(hkk _ h3.lt (by omega)).trans h3,
   ⟨k3.os.trans hb.os,k3.tape.trans hb.tape,k3.output.trans hb.output,bN hb.size (by omega),fun k hk=>(hkk k (eB hk hb.size) (by omega)).trans (hb.block k hk)⟩⟩
  rw[iL,List.reverse_append];show jy W2 (z+1) (rP (x :: (List.map (fun x=>x.snd) pre).reverse));rw[ael];exact k1
 case done =>
  rintro D ys W hD rfl ⟨hM,h0,h2,h3,hb⟩ hK;rw[ZP]at hM;have m0:W.cell? ⟨z+2,0,none⟩=some (.string own):=cell_of_row W (z+2) 0 _ _ _ h2;have m1:W.cell? ⟨z+2,1,none⟩=some (.map (some (z+1))):=cell_of_row W (z+2) 1 _ _ _ h2;have g0:W.cell? ⟨z,0,none⟩=some (.string ⟨#[]⟩):=cell_of_row W z 0 _ _ _ h0;have g1:W.cell? ⟨z,1,none⟩=some (.map none):=cell_of_row W z 1 _ _ _ h0;have f0:=frozen_of_row W z 0 _ _ h0;have f1:=frozen_of_row W z 1 _ _ h0;gi_wp2
  obtain⟨Wf,hWf⟩:∃Wf,(W.setCell { block:=z,off:=0 } (Value.string own)).setCell { block:=z,off:=1 } (Value.map (some (z+1)))=Wf:=⟨_,rfl⟩;rw[hWf];have RP:∀k,k≠z→Wf.heap[k]? = W.heap[k]? := fun k hk=>by rw[← hWf];exact(gy _ _ _ _ hk).trans (gy _ _ _ _ hk)
  have SG:Wf.heap[z]? = some (.cells #[.string own,.map (some (z+1))] 55):=by
   rw[← hWf,heap_setCell_same _ z 1 _ _ _ (heap_setCell_same W z 0 _ _ _ h0)];rfl
  have hbf:Below w.heap.size w Wf:=by rw[← hWf];exact(hb.setCell (by show w.heap.size≤z;omega) _).setCell (by show w.heap.size≤z;omega) _
  have hKf:Wf.heap[D]? = some (.deferred (some [])):=(RP D (by omega)).trans hK;refine⟨by simp,.inl ⟨_,_,rfl,run_takeDeferred hKf, ?_⟩⟩;have hg:=grownBy_putObj' Wf D (.deferred none);have LV:∀k,k<Wf.heap.size→k≠D→(Wf.putObj D (.deferred none)).heap[k]? = Wf.heap[k]? := fun k h1 h2=>hg.block k h1 (fun e=>h2 (dM e))
  have hzl:=(dB.1 SG).1;have sW:=(hM.keep (RP (z+1) (by omega)));refine⟨_,results_cell_row ag4 _ _ z _ _ _ _ rfl ((LV z hzl (by omega)).trans SG) Tryz.underlying55 rfl aeN,z+1,rfl,by omega,sW.keep (LV (z+1) sW.lt (by omega)),⟨hg.os.trans hbf.os,hg.tape.trans hbf.tape,hg.output.trans hbf.output,bN hbf.size hg.size,fun k hk=>(LV k (eB hk hbf.size) (by omega)).trans (hbf.block k hk)⟩⟩
 case stop =>
  rintro D c pre W _ _ h _;exact h.elim
end Go.Proofs.YtbplbjmmfgjdjaaGreatDoor
namespace Go.Proofs.YtbplbjmmfgjdjaaGreatDoor
open Go.RowKit
variable {x:Int}{l:List Int}{ts:List ah}{b:Nat}{d:Rd}{w:World}
theorem Dn {s:ByteArray}(h:ay s ts=true):ts.tail.length+1=ts.length:=by
 cases ts with
 | nil=>unfold ay at h;cases h
 | cons t l=>rfl
theorem afA {n:Nat}(h:fH n ts≠0):ts.tail.length+1=ts.length:=by
 obtain⟨p,_,h1,_⟩:=EX h;exact Dn h1
theorem QB : ∀f:Nat,(∀n deep base ts ns a r,eZ f n deep base ts=some (.ok (ns,a,r))→ns.length+r.length≤ts.length) ∧
 (∀n deep base ns a ts ns' a' r,iK f n deep base ns a ts=some (.ok (ns',a',r))→ns'.length+r.length≤ns.length+ts.length) ∧
 (∀deep base ts ns a r,jF f deep base ts=some (.ok (ns,a,r))→ns.length+r.length≤ts.length) ∧
 (∀deep base ns ks ts ns' ks' r,iq f deep base ns ks ts=some (.ok (ns',ks',r))→ns'.length+r.length≤ns.length+ts.length)
 | 0=>by
   refine⟨?_, ?_, ?_, ?_⟩
   · intro n deep base ts ns a r h;unfold eZ at h;cases h
   · intro n deep base ns a ts ns' a' r h;unfold iK at h;cases h
   · intro deep base ts ns a r h;unfold jF at h;cases h
   · intro deep base ns ks ts ns' ks' r h;unfold iq at h;cases h
 | f + 1 => by
   obtain⟨i1,i2,i3,i4⟩:=QB f;refine⟨?_, ?_, ?_, ?_⟩
   · intro n deep base ts ns a r h
     rw[lW]at h;by_cases hn:n≤3
     · rw [ag hn]at h
       rcases eO h with ⟨e,_,h2⟩|⟨ms,b,s,h1,h2⟩
       · cases h2
       · have:=i1 _ _ _ _ _ _ _ h1
         have:=i2 _ _ _ _ _ _ _ _ _ h2;omega
     · rw [af hn]at h
       by_cases c:ay ⟨#[45]⟩ ts=true
       · rw [ag c]at h
         have htl:=Dn c;by_cases d:12≤deep
         · rw[ag d]at h;injection h with h;cases h
         · rw [af d]at h
           rcases eO h with ⟨e,_,h2⟩|⟨ms,b,s,h1,h2⟩
           · cases h2
           · have:=i1 _ _ _ _ _ _ _ h1
             injection h2 with h2;injection h2 with h2;injection h2 with h3 h4;injection h4 with h4 h5;subst h3;subst h5;rw[ax,fo];omega
       · rw[af c]at h;exact i3 _ _ _ _ _ _ h
   · intro n deep base ns a ts ns' a' r h
     rw[qL]at h;by_cases c:fH n ts=0
     · rw[ag c]at h
       injection h with h;injection h with h;injection h with h3 h4;injection h4 with h4 h5;subst h3;subst h5;exact aj _
     · rw [af c]at h
       have htl:=afA c;rcases eO h with ⟨e,_,h2⟩|⟨ms,b,s,h1,h2⟩
       · cases h2
       · have:=i1 _ _ _ _ _ _ _ h1
         have:=i2 _ _ _ _ _ _ _ _ _ h2;rw[ax,ax,fo]at this;omega
   · intro deep base ts ns a r h
     cases ts with
     | nil=>rw[zN]at h;injection h with h;cases h
     | cons t ts =>
       rw[l7]at h;by_cases c:ay ⟨#[40]⟩ (t :: ts)=true
       · rw [ag c]at h
         by_cases d:12≤deep
         · rw[ag d]at h;injection h with h;cases h
         · rw [af d]at h
           rcases eO h with ⟨e,_,h2⟩|⟨ms,b,s,h1,h2⟩
           · cases h2
           · have:=i1 _ _ _ _ _ _ _ h1
             by_cases g:ay ⟨#[41]⟩ s=true
             · rw[ag g]at h2
               injection h2 with h2;injection h2 with h2;injection h2 with h3 h4;injection h4 with h4 h5;subst h3;subst h5;have:=Dn g;rw[bf];omega
             · rw[af g]at h2;injection h2 with h2;cases h2
       · rw [af c]at h
         by_cases k1:t.kind=1
         · rw[ag k1]at h;injection h with h;injection h with h;injection h with h3 h4;injection h4 with h4 h5;subst h3;subst h5;simp only[bf,dX];omega
         rw[af k1]at h;by_cases k2:t.kind=2
         · rw[ag k2]at h;injection h with h;injection h with h;injection h with h3 h4;injection h4 with h4 h5;subst h3;subst h5;simp only[bf,dX];omega
         rw[af k2]at h;by_cases k6:t.kind=6
         · rw[ag k6]at h;injection h with h;injection h with h;injection h with h3 h4;injection h4 with h4 h5;subst h3;subst h5;simp only[bf,dX];omega
         rw[af k6]at h;by_cases k4:t.kind=4
         · rw[ag k4]at h;injection h with h
           obtain⟨s1,s2,_⟩:=Vk h;have:=s1.len;rw[bf,s2];omega
         rw[af k4]at h;by_cases k3:t.kind=3
         · rw [ag k3]at h
           by_cases w1:t.text=⟨#[84,82,85,69]⟩
           · rw[ag w1]at h;injection h with h;injection h with h;injection h with h3 h4;injection h4 with h4 h5;subst h3;subst h5;simp only[bf,dX];omega
           rw[af w1]at h;by_cases w2:t.text=⟨#[70,65,76,83,69]⟩
           · rw[ag w2]at h;injection h with h;injection h with h;injection h with h3 h4;injection h4 with h4 h5;subst h3;subst h5;simp only[bf,dX];omega
           rw[af w2]at h;by_cases w3:ay ⟨#[40]⟩ ts=true
           · rw [ag w3]at h
             have htl:=Dn w3;by_cases d:12≤deep
             · rw[ag d]at h;injection h with h;cases h
             rw[af d]at h;rcases eO h with ⟨e,_,h2⟩|⟨ms,ks,s,h1,h2⟩
             · cases h2
             · have hms:ms.length+s.length≤ts.tail.length:=by
                by_cases g:ay ⟨#[41]⟩ ts.tail=true
                · rw[ag g]at h1
                  injection h1 with h1;injection h1 with h1;injection h1 with h3 h4;injection h4 with h4 h5;subst h3;subst h5;simp
                · rw[af g]at h1
                  have:=i4 _ _ _ _ _ _ _ _ h1
                  simpa using this
               by_cases g:ay ⟨#[41]⟩ s=true
               · rw[ag g]at h2
                 injection h2 with h2;injection h2 with h2;injection h2 with h3 h4;injection h4 with h4 h5;subst h3;subst h5;have:=Dn g;rw[ax,fo,bf];omega
               · rw[af g]at h2;injection h2 with h2;cases h2
           · rw[af w3]at h;injection h with h;cases h
         · rw[af k3]at h;injection h with h;cases h
   · intro deep base ns ks ts ns' ks' r h
     rw[pO]at h;rcases eO h with ⟨e,_,h2⟩|⟨ms,b,s,h1,h2⟩
     · cases h2
     · have h3:=i1 _ _ _ _ _ _ _ h1
       by_cases d:ay ⟨#[44]⟩ s=true
       · rw[ag d]at h2
         have:=Dn d;have:=i4 _ _ _ _ _ _ _ _ h2;rw[ax]at this;omega
       · rw[af d]at h2
         injection h2 with h2;injection h2 with h2;injection h2 with h3 h4;injection h4 with h4 h5;subst h3;subst h5;rw[ax];omega
theorem C9:∀(n:Nat)(l t:List Int)(k:Nat),l.length≤n→Bytes l→eU l=some (t,k)→Bytes t∧∀x∈t,¬ x<32
 | _,[],_,_,_,_,h=>by simp[eU]at h
 | 0,_ :: _,_,_,hn,_,_=>by simp at hn
 | n + 1, x :: l,t,k,hn,hb,h=>by
   have hbl:Bytes l:=fun y hy=>hb y (by simp[hy])
   rw[uR]at h;by_cases h1:x<32
   · rw[ag h1]at h;cases h
   · rw [af h1]at h
     by_cases h2:x≠34
     · rw [ag h2]at h
       cases hq:eU l with
       | none=>rw[hq]at h;cases h
       | some q =>
         rw[hq]at h;simp only[jq,aZ,bH]at h;obtain⟨g1,g2⟩:=C9 n l q.1 q.2 (by simp at hn;omega) hbl hq;rw[← h.1];refine⟨?_, ?_⟩
         · intro y hy
           rcases ik.1 hy with rfl|hy
           · exact hb _ (by simp)
           · exact g1 y hy
         · intro y hy
           rcases ik.1 hy with rfl|hy
           · exact h1
           · exact g2 y hy
     · rw [af h2]at h
       cases l with
       | nil=>simp at h;rw[h.1];exact⟨Bytes.nil,by simp⟩
       | cons y m =>
         by_cases hy:y=34
         · simp only [hy,if_true]at h
           cases hq:eU m with
           | none=>rw[hq]at h;cases h
           | some q =>
             rw[hq]at h;simp only[jq,aZ,bH]at h;obtain⟨g1,g2⟩:=C9 n m q.1 q.2 (by simp at hn;omega) (fun z hz=>hbl z (by simp[hz])) hq;rw[← h.1];refine⟨?_, ?_⟩
             · intro z hz
               rcases ik.1 hz with rfl|hz
               · omega
               · exact g1 z hz
             · intro z hz
               rcases ik.1 hz with rfl|hz
               · omega
               · exact g2 z hz
         · simp only[hy,if_false,aZ,bH]at h
           rw[← h.1];exact⟨Bytes.nil,by simp⟩
theorem Bytes.span(h:Bytes l)(p:Int→Bool):Bytes (l.takeWhile p):=fun x hx=>h x ((List.takeWhile_prefix p).subset hx)
theorem WR (l:List Int)(t:ah)(n p:Nat)(hb:Bytes l)(h:fJ l=some (t,n)):OA (t.goto p)∧t.kind≠0:=by
 cases l with
 | nil=>simp[fJ]at h
 | cons x l =>
   rw[rX]at h;by_cases h1:isNum x=true
   · rw [ag h1]at h
     unfold lJ at h;split at h
     · cases h
     · simp only[aZ,bH]at h
       rw[← h.1];have hv:=BR ((x :: l).takeWhile isNum) [] (uW isNum _) (by decide);rw[gX]at hv;exact⟨⟨fun _=>hv,fun h=>by simp[ah.goto]at h,fun h=>by simp[ah.goto]at h,fun h=>by simp[ah.goto]at h⟩,by simp⟩
   · rw [af h1] at h
     by_cases h2:x=34
     · rw [ag h2]at h
       unfold lK at h;cases hq:eU l with
       | none=>rw[hq]at h;cases h
       | some q =>
         rw[hq]at h;simp only[jq,aZ,bH]at h;obtain⟨g1,g2⟩:=C9 _ l q.1 q.2 (aj _) (fun y hy=>hb y (by simp[hy])) hq;rw[← h.1];refine⟨⟨fun h=>by simp[ah.goto]at h,fun _ => ?_,fun h=>by simp[ah.goto]at h,fun h=>by simp[ah.goto]at h⟩,by simp⟩;show mM (sb (strOfNums q.1))=true;rw[jN _ g1];unfold mM;exact aR g2
     · rw [af h2]at h
       by_cases h3:x=35
       · rw [ag h3]at h
         unfold qC at h;split at h
         · simp only[aZ,bH]at h
           rw[← h.1];exact⟨⟨fun h=>by simp[ah.goto]at h,fun h=>by simp[ah.goto]at h,fun h=>by simp[ah.goto]at h,fun h=>by simp[ah.goto]at h⟩,by simp⟩
         · cases h
       · rw [af h3]at h
         by_cases h4:isLet x=true∨x=36
         · rw [ag h4]at h
           unfold nD at h;cases hq:iA (strOfNums ((x :: l).takeWhile isWord))with
           | some d =>
             rw[hq]at h;simp only[aZ,bH]at h;rw[← h.1];exact⟨⟨fun h=>by simp[ah.goto]at h,fun h=>by simp[ah.goto]at h,fun h=>by simp[ah.goto]at h,fun _=>(yH _ d hq).2.1⟩,by simp⟩
           | none =>
             rw[hq]at h;simp only at h;by_cases hc:jL ((x :: l).takeWhile isWord)=true
             · rw [ag hc]at h
               simp only[aZ,bH]at h;rw[← h.1];refine⟨⟨fun h=>by simp[ah.goto]at h,fun h=>by simp[ah.goto]at h,fun _=>⟨?_, ?_⟩,fun h=>by simp[ah.goto]at h⟩,by simp⟩
               · show jL (sb (strOfNums ((x :: l).takeWhile isWord)))=true
                 rw[jN _ (hb.span isWord)];exact hc
               · show(iA (strOfNums ((x :: l).takeWhile isWord))).isNone=true
                 rw[hq];rfl
             · rw[af hc]at h;cases h
         · rw [af h4]at h
           unfold o9 at h;split at h
           · cases h
           · simp only[aZ,bH]at h
             rw[← h.1];exact⟨⟨fun h=>by simp[ah.goto]at h,fun h=>by simp[ah.goto]at h,fun h=>by simp[ah.goto]at h,fun h=>by simp[ah.goto]at h⟩,by simp⟩
def Fit(ts:List ah):Prop:=∃body e,ts=body++[e]∧e.kind=0∧∀t∈body,t.kind≠0
theorem Ms:∀(f p:Nat)(l:List Int)(ts:List ah),Bytes l→fE f p l=some ts→Good ts∧Fit ts
 | f,p,[],ts,_,h=>by
   have h0:fE f p []=some [ah.zero.goto p]:=by unfold fE;rfl
   rw[h0]at h;injection h with h;subst h;refine⟨?_,[],_,rfl,rfl,by simp⟩;intro t ht;simp at ht;subst ht;exact⟨fun h=>by simp[ah.goto,ah.zero]at h,fun h=>by simp[ah.goto,ah.zero]at h,fun h=>by simp[ah.goto,ah.zero]at h,fun h=>by simp[ah.goto,ah.zero]at h⟩
 | 0,_,_ :: _,_,_,h=>by unfold fE at h;cases h
 | f + 1, p,x :: l,ts,hb,h=>by
   rw[tq]at h;by_cases hx:x=32
   · rw[ag hx]at h
     exact Ms f (p+1) l ts (fun y hy=>hb y (by simp[hy])) h
   · rw [af hx]at h
     cases hq:fJ (x :: l)with
     | none=>rw[hq]at h;cases h
     | some q =>
       obtain⟨t0,n⟩:=q;obtain⟨g1,g2⟩:=WR _ _ _ p hb hq;rw[hq]at h;simp only[Option.map_eq_some_iff]at h;obtain⟨us,h1,rfl⟩:=h;obtain⟨k1,body,e,k2,k3,k4⟩:=Ms f (p+n) ((x :: l).drop n) us (fun y hy=>hb y (List.mem_of_mem_drop hy)) h1;refine⟨?_,t0.goto p :: body,e,by rw[k2];rfl,k3, ?_⟩
       · intro t ht
         rcases ik.1 ht with rfl|ht
         · exact g1
         · exact k1 t ht
       · intro t ht
         rcases ik.1 ht with rfl|ht
         · exact g2
         · exact k4 t ht
theorem Hy(s:ByteArray)(ts:List ah)(h:gT (sb s)=some ts):Good ts∧Fit ts:=Ms _ _ _ _ (fun x hx=>uS s x hx) h
theorem UK {f g:Nat}{y:Except Int (List Nd)}(hfg:f≤g)(h:j4 f ts=some y):j4 g ts=some y:=by
 unfold j4 at h ⊢;exact AJ (fun y h=>wY hfg h) (fun a b c y h=>h) y h
theorem afV {f g:Nat}{y z:Except Int (List Nd)}(h:j4 f ts=some y)(k:j4 g ts=some z):y=z:=by
 have h1:=UK (Nat.le_max_left f g) h;have h2:=UK (Nat.le_max_right f g) k;rw[h1]at h2;exact dM h2
theorem aas:∀(n u:Nat),u<n→1≤u→(bn u).head? ≠ some 48:=by
 intro n
 induction n with
 | zero=>intro u h;omega
 | succ n ih =>
   intro u hu h1;by_cases h:u<10
   · rw[pR u h];simp;omega
   · rw[uC u h]
     have:=ih (u / 10) (by omega) (by omega);cases hd:bn (u / 10)with
     | nil=>exact absurd hd (uD _)
     | cons y l=>rw[hd]at this;simpa using this
theorem Xi(h:aU x=true):isWord x=true:=Mi (.inl (by unfold aU at h;unfold isLet;rw[aQ]at h ⊢;omega))
theorem Ov(h:isNum x=true):isWord x=true:=by unfold isWord;rw[h];simp
theorem ajX (c r:Int)(ac ar:Bool):∀x∈qQ c r ac ar,isWord x=true:=by
 intro x hx;unfold qQ at hx;simp only[dQ]at hx;rcases hx with h|h|h|h
 · have:=yj _ x h;rw[aQ]at this;subst this;decide
 · exact Xi (wm c x h)
 · have:=yj _ x h;rw[aQ]at this;subst this;decide
 · exact Ov (rH _ x h)
theorem ajU (l:List Int)(h:iI l=true):∀x∈l,isWord x=true:=by
 intro x hx;unfold iI at h;rw[dJ,aQ]at h;obtain⟨j,hj,rfl⟩:=List.mem_iff_getElem.1 hx;have:=h.1 j hj;rw[kg,cZ hj]at this;simp only[Option.getD_some]at this;unfold oC at this;unfold isWord;rw[Bool.or_eq_true,dJ]at this;rcases this with h1|⟨_,h1⟩
 · rw[h1];rfl
 · rw[h1];simp
theorem ajY (sh:List Int)(c r:Int)(ac ar:Bool)(h:dO sh c r=true):∀x∈bE sh c r ac ar,isWord x=true:=by
 intro x hx;rw[BN _ _ _ _ _ h,dQ]at hx;rcases hx with hx|hx
 · by_cases h0:sh=[]
   · rw[ag h0]at hx;simp at hx
   · rw[af h0,dQ]at hx
     rcases hx with hx|hx
     · exact ajU sh ((CS h).resolve_left h0) x hx
     · simp at hx;subst hx;decide
 · exact ajX c r ac ar x hx
theorem ai6 (sh:List Int)(c r:Int)(ac ar:Bool)(h:dO sh c r=true):∃x l,bE sh c r ac ar=x :: l∧(isLet x=true∨x=36):=by
 rw[BN _ _ _ _ _ h];obtain⟨c0,c1,_,_⟩:=HZ h;by_cases h0:sh=[]
 · rw [ag h0,gX]
   unfold qQ;cases ac with
   | true=>exact⟨36,_,rfl,.inr rfl⟩
   | false =>
     have zy:=wm c;cases hc:bG c with
     | nil=>exact absurd hc (Gx c c0 c1)
     | cons y m =>
       refine⟨y,_,rfl,.inl ?_⟩;have:=zy y (by rw[hc];simp);unfold aU at this;unfold isLet;rw[aQ]at this ⊢;omega
 · rw [af h0]
   have hn:=(CS h).resolve_left h0;cases sh with
   | nil=>exact absurd rfl h0
   | cons y m =>
     refine⟨y,_,rfl,.inl ?_⟩;unfold iI at hn;rw[dJ,aQ]at hn;have:=hn.1 0 (by simp);unfold oC at this
     simpa using this
theorem agw (s:ByteArray)(c r:Int)(ac ar:Bool)(h:dO (sb s) c r=true):∃d,iA (strOfNums (bE (sb s) c r ac ar))=some d∧d.sh=s∧d.c=c∧d.r=r∧d.ac=ac∧d.ar=ar:=by
 have hb:=jN _ (AO s c r ac ar);cases hq:iA (strOfNums (bE (sb s) c r ac ar))with
 | none=>exact absurd hb.symm (Da _ hq _ _ _ _ _ h)
 | some d =>
   obtain⟨_,h2,h3⟩:=yH _ d hq;rw[hb]at h3;obtain⟨e1,e2,e3,e4,e5⟩:=WN h2 h h3;exact⟨d,rfl,VO e1,e2,e3,e4,e5⟩
def fw:List Int→List Int
 | []=>[]
 | x :: l=>(if x=34 then [34,34]else [x])++fw l
theorem EM (c:Int)(_h0:0≤c)(_h1:c≤255)(w:World) :
 Calls Tryz.prog 144 #[.int .u8 c] w fun e w'=>e = .returned (.bool (aU c))∧w=w':=by
 go_enter Tryz.func144,Tryz.ntmps144
 go_wp2
 all_goals go_ret
 all_goals exact⟨gu (by unfold aU;first|rfl|(symm;rw[aQ];omega)|(symm;rw[jv];omega)|(rw[decide_eq_decide];omega)),rfl⟩
theorem CO (c:Int)(_h0:0≤c)(_h1:c≤255)(w:World) :
 Calls Tryz.prog 119 #[.int .u8 c] w fun e w'=>e = .returned (.bool (isNum c))∧w=w':=by
 go_enter Tryz.func119,Tryz.ntmps119
 go_wp2
 all_goals go_ret
 all_goals exact⟨gu (by unfold isNum;first|rfl|(symm;rw[aQ];omega)|(symm;rw[jv];omega)|(rw[decide_eq_decide];omega)),rfl⟩
theorem SS{c:Int}(h:aU c=true):isLet c=true:=by unfold aU at h;unfold isLet;rw[aQ]at h ⊢;omega
theorem SV{c:Int}(h:aU c=false):isLet c=decide (97≤c∧c≤122):=by unfold aU at h;unfold isLet;rw[jv]at h;rw[decide_eq_decide];omega
theorem EN (c:Int)(_h0:0≤c)(_h1:c≤255)(w:World) :
 Calls Tryz.prog 118 #[.int .u8 c] w fun e w'=>e = .returned (.bool (isLet c))∧w=w':=by
 by_cases hc:aU c=true
 · have hl:=SS hc
   have HL:=ae hl;clear hl;go_enter Tryz.func118,Tryz.ntmps118;go_wp2_with (go_at_call 144;((with_reducible refine(EM _ ?_ ?_ _).mono ?_);(try omega);(try omega);rintro e w' ⟨rfl,rfl⟩))
   all_goals go_ret
   all_goals exact⟨gu (by rw[HL.o]),rfl⟩
 · have hc':aU c=false:=by simpa using hc
   have hl:=SV hc';have HL:=ae hl;clear hl hc;go_enter Tryz.func118,Tryz.ntmps118;go_wp2_with (go_at_call 144;((with_reducible refine(EM _ ?_ ?_ _).mono ?_);(try omega);(try omega);rintro e w' ⟨rfl,rfl⟩))
   all_goals go_ret
   all_goals exact⟨gu (by rw[HL.o];first|rfl|(symm;rw[aQ];omega)|(symm;rw[jv];omega)|(rw[decide_eq_decide];omega)),rfl⟩
theorem aeX (s:ByteArray)(h:s.size=0):iI (sb s)=false:=by
 unfold iI;rw[bC,h,Bool.and_eq_false_iff];right;rfl
theorem aeW (s:ByteArray)(h:12<s.size):iI (sb s)=false:=by
 unfold iI;rw[bC,Bool.and_eq_false_iff];right;rw[jv];omega
theorem H9 (s:ByteArray)(w:World)(_hs:s.size≤1000000) :
 Calls Tryz.prog 88 #[.string s] w fun e w'=>e = .returned (.bool (iI (sb s)))∧w=w':=by
 by_cases h0:s.size=0
 · have hz:=wD s h0
   have hno:=aeX s h0;have dR:=ae hno;clear hno;subst hz;clear h0 _hs;go_enter Tryz.func88,Tryz.ntmps88;go_wp2_with fail
   all_goals go_ret
   all_goals exact⟨gu dR.o.symm,rfl⟩
 · have hne := qg s h0
   have uG:s.toList.isEmpty=false:=by cases hq:s.toList with|nil=>exact absurd hq hne|cons a l=>rfl
   by_cases h12:12<s.size
   · have hno:=aeW s h12
     have dR:=ae hno;clear hno;have abM:(12:Int)<(s.size:Int):=by omega
     clear h0;go_enter Tryz.func88,Tryz.ntmps88;go_wp2_with fail
     all_goals go_ret
     all_goals exact⟨gu dR.o.symm,rfl⟩
   · have abM : ¬ (12:Int)<(s.size:Int):=by omega
     have hp0:0<s.size:=by omega
     obtain⟨a,ha⟩:∃a:Int,(s[0].toNat:Int)=a:=⟨_,rfl⟩;have ha1:0≤a∧a≤255:=by have:=s[0].toNat_lt;omega
     have hga:(sb s).getD 0 0=a:=by rw[uT s 0 hp0,ha]
     have Ah:=ae hga;clear hga;by_cases hl:isLet a=true
     · have hin : ∀j,j<1→oC j ((sb s).getD j 0)=true:=by
        intro j hj;have:j=0:=by omega
        subst this;rw[Ah.o];unfold oC;rw[hl];rfl
       have sD:=ae hin;clear hin;clear h0;go_enter Tryz.func88,Tryz.ntmps88;go_wp2_with (go_at_call 118;((with_reducible refine(EN _ ?_ ?_ _).mono ?_);(try omega);(try omega);rintro e w' ⟨rfl,rfl⟩))
       clear hl
       go_loopw [3] (fun i wr=>∃k:Nat,1≤k∧k≤s.size∧i = .int .i64 k∧Hid (∀j,j<k→oC j ((sb s).getD j 0)=true)∧w=wr)
        (fun i _=>s.size - (intOf i).toNat)
       case atStart=>exact⟨1,by omega,by omega,rfl,sD,rfl⟩
       case round =>
        obtain⟨k,hk1,hk,rfl,HG,rfl⟩:=hrel;by_cases hlt:k<s.size
        · have hki:(k:Int)<(s.size:Int):=by omega
          obtain⟨b,hb⟩:∃b:Int,(s[k].toNat:Int)=b:=⟨_,rfl⟩;have hb1:0≤b∧b≤255:=by have:=s[k].toNat_lt;omega
          have hgb:(sb s).getD k 0=b:=by rw[uT s k hlt,hb]
          have xK:=ae hgb;clear hgb;by_cases hl:isLet b=true
          · go_wp2_with (first
             | (go_at_call 118;((with_reducible refine(EN _ ?_ ?_ _).mono ?_);(try omega);(try omega);rintro e w' ⟨rfl,rfl⟩)))
            go_roundw
            case rel =>
             refine⟨k+1,by omega,by omega,by go_num,ae ?_,by trivial⟩;intro j hj;by_cases h1:j<k
             · exact HG.o j h1
             · rw[show j=k from by omega,xK.o];unfold oC;rw[hl,Bool.true_or]
            case measure=>simp[intOf];omega
          · have hl':isLet b=false:=by simpa using hl
            clear hl;by_cases hn:isNum b=true
            · go_wp2_with (first
               | (go_at_call 118;((with_reducible refine(EN _ ?_ ?_ _).mono ?_);(try omega);(try omega);rintro e w' ⟨rfl,rfl⟩))
               | (go_at_call 119;((with_reducible refine(CO _ ?_ ?_ _).mono ?_);(try omega);(try omega);rintro e w' ⟨rfl,rfl⟩)))
              go_roundw
              case rel =>
               refine⟨k+1,by omega,by omega,by go_num,ae ?_,by trivial⟩;intro j hj;by_cases h1:j<k
               · exact HG.o j h1
               · rw[show j=k from by omega,xK.o];unfold oC;rw[hl',hn,aR (by omega:0<k)];rfl
              case measure=>simp[intOf];omega
            · have hn':isNum b=false:=by simpa using hn
              clear hn;have hno:=H8 s k hlt (by rw[xK.o];unfold oC;rw[hl',hn',Bool.and_false];rfl);have dR:=ae hno;clear hno
              go_wp2_with (first
               | (go_at_call 118;((with_reducible refine(EN _ ?_ ?_ _).mono ?_);(try omega);(try omega);rintro e w' ⟨rfl,rfl⟩))
               | (go_at_call 119;((with_reducible refine(CO _ ?_ ?_ _).mono ?_);(try omega);(try omega);rintro e w' ⟨rfl,rfl⟩)))
              all_goals go_ret
              all_goals exact⟨gu dR.o.symm,rfl⟩
        · have hki:¬ (k:Int)<(s.size:Int):=by omega
          have hno:=Ul s (fun j hj=>HG.o j (by omega));rw[aR (by omega)]at hno;have dR:=ae hno;clear hno;go_wp2_with fail
          all_goals go_ret
          all_goals exact⟨gu dR.o.symm,rfl⟩
     · have hl':isLet a=false:=by simpa using hl
       have hno:=H8 s 0 hp0 (by rw[Ah.o];unfold oC;rw[hl'];rfl);have dR:=ae hno;clear hno hl h0;go_enter Tryz.func88,Tryz.ntmps88;go_wp2_with (go_at_call 118;((with_reducible refine(EN _ ?_ ?_ _).mono ?_);(try omega);(try omega);rintro e w' ⟨rfl,rfl⟩))
       all_goals go_ret
       all_goals exact⟨gu dR.o.symm,rfl⟩
theorem aaD:∀m:Nat,m<26→Utf8.encode (65+(m:Int))=strOfNums [65+(m:Int)]:=by decide +kernel
theorem QI (x:Int)(h0:65≤x)(h1:x≤90):Utf8.encode x=strOfNums [x]:=by
 have:=aaD (x - 65).toNat (by omega);rw[show(65:Int)+((x - 65).toNat:Int)=x from by omega]at this;exact this
theorem aiU(a b:List Int)(A B:ByteArray)(h:A=strOfNums a)(k:B=strOfNums b):A++B=strOfNums (a++b):=by rw[h,k,nz]
def cO(w:World)(b:Nat)(d:Rd):Prop:=w.heap[b]? = some (.cells d.cells 185)
theorem cO.lt(h:cO w b d):b<w.heap.size:=(dB.1 h).1
theorem cO.drewN(h:cO w b d)(n:Nat):cO (w.drewN n) b d:=h
theorem cO.below{w':World}{B:Nat}(h:cO w b d)(hb:Below B w w')(hB:b<B):cO w' b d:=by unfold cO;rw[hb.block b hB];exact h
theorem cO.facts (h:cO w b d) :
 w.cell? ⟨b,0,none⟩=some (.string d.s)∧w.cell? ⟨b,1,none⟩=some (.int .i64 d.k)∧w.cell? ⟨b,2,none⟩=some (.string d.sh)∧w.cell? ⟨b,3,none⟩=some (.int .i64 d.c)∧w.cell? ⟨b,4,none⟩=some (.int .i64 d.r)∧w.cell? ⟨b,5,none⟩=some (.bool d.ac)∧w.cell? ⟨b,6,none⟩=some (.bool d.ar) :=
 ⟨by rw[cell_of_row w b 0 _ _ _ h];rfl,by rw[cell_of_row w b 1 _ _ _ h];rfl,by rw[cell_of_row w b 2 _ _ _ h];rfl,by rw[cell_of_row w b 3 _ _ _ h];rfl,by rw[cell_of_row w b 4 _ _ _ h];rfl,by rw[cell_of_row w b 5 _ _ _ h];rfl,by rw[cell_of_row w b 6 _ _ _ h];rfl⟩
theorem cO.frozen(h:cO w b d)(j:Nat):w.frozen? ⟨b,j,none⟩=false:=frozen_of_row w b j _ _ h
theorem cO.uU(h:cO w b d)(k:Nat):cO (w.setCell ⟨b,1,none⟩ (.int .i64 (k:Int))) b { d with k:=k }:=by unfold cO;rw[heap_setCell_same w b 1 _ _ _ h];rfl
theorem cO.ahZ(h:cO w b d)(s:ByteArray):cO (w.setCell ⟨b,2,none⟩ (.string s)) b { d with sh:=s }:=by unfold cO;rw[heap_setCell_same w b 2 _ _ _ h];rfl
theorem cO.VS(h:cO w b d)(c:Int):cO (w.setCell ⟨b,3,none⟩ (.int .i64 c)) b { d with c:=c }:=by unfold cO;rw[heap_setCell_same w b 3 _ _ _ h];rfl
theorem cO.VT(h:cO w b d)(c:Int):cO (w.setCell ⟨b,4,none⟩ (.int .i64 c)) b { d with r:=c }:=by unfold cO;rw[heap_setCell_same w b 4 _ _ _ h];rfl
theorem cO.ahW(h:cO w b d)(x:Bool):cO (w.setCell ⟨b,5,none⟩ (.bool x)) b { d with ac:=x }:=by unfold cO;rw[heap_setCell_same w b 5 _ _ _ h];rfl
theorem cO.ahX(h:cO w b d)(x:Bool):cO (w.setCell ⟨b,6,none⟩ (.bool x)) b { d with ar:=x }:=by unfold cO;rw[heap_setCell_same w b 6 _ _ _ h];rfl
def Part (o:Option Rd)(b:Nat)(w:World)(e:Ending)(w':World):Prop :=
 w.grownBy w' (some b)∧((∃d',o=some d'∧e = .returned (.bool true)∧cO w' b d')∨(o=none∧e = .returned (.bool false)))
theorem aaW (b:Nat)(d:Rd)(w:World)(h:cO w b d)(_hs:d.s.size≤1000000)(_hk:d.k≤d.s.size) :
 Calls Tryz.prog 183 #[.pointer (some ⟨b,0,none⟩)] w (Part d.fin b w):=by
 obtain⟨c0,c1,c2,c3,c4,c5,c6⟩:=h.facts;clear c2 c3 c4 c5 c6;have HR:=ae h;clear h;by_cases hk:d.k=d.s.size
 · have hf:d.fin=some d:=by unfold Rd.fin;rw[ag hk]
   have HF:=ae hf;clear hf;have hi:((d.k:Int) == (d.s.size:Int))=true:=bB.2 (by omega);go_enter Tryz.func183,Tryz.ntmps183;go_wp2_with fail
   go_quiet (fail)
   go_wp2_with fail
   go_ret;exact⟨grownBy.fO (grownBy.fT _ _) _,.inl ⟨d,HF.o,by simp,HR.o.drewN _⟩⟩
 · have hf:d.fin=none:=by unfold Rd.fin;rw[af hk]
   have HF:=ae hf;clear hf;have hi:((d.k:Int) == (d.s.size:Int))=false:=aA.2 (by omega);go_enter Tryz.func183,Tryz.ntmps183;go_wp2_with fail
   go_quiet (fail)
   go_wp2_with fail
   go_ret;exact⟨grownBy.fO (grownBy.fT _ _) _,.inr ⟨HF.o,by simp⟩⟩
theorem Nw (d:Rd)(h:d.k<d.s.size):d.rest.head? = some ((d.s[d.k].toNat:Nat):Int):=by
 unfold Rd.rest;rw[List.head?_drop,qN d.s d.k h]
theorem Vy (d:Rd)(h:d.s.size≤d.k):d.rest=[]:=by
 unfold Rd.rest;rw[List.drop_eq_nil_iff,bC];exact h
theorem TQ (b:Nat)(d:Rd)(w:World)(h:cO w b d)(_hs:d.s.size≤1000000)(_hk:d.k≤d.s.size) :
 Calls Tryz.prog 200 #[.pointer (some ⟨b,0,none⟩)] w fun e w'=>e = .returned (.bool d.mark)∧cO w' b { d with k:=d.k+(fD d.mark).length }∧w.grownBy w' (some b):=by
 obtain⟨c0,c1,c2,c3,c4,c5,c6⟩:=h.facts;clear c2 c3 c4 c5 c6;have f1:=h.frozen 1;have HR:=ae h;clear h;by_cases hk:d.k=d.s.size
 · have hf:d.mark=false:=by unfold Rd.mark;rw[Vy d (by omega)];rfl
   have HF:=ae hf;clear hf;have hi:((d.k:Int) == (d.s.size:Int))=true:=bB.2 (by omega);go_enter Tryz.func200,Tryz.ntmps200;go_wp2_with fail
   go_quiet (fail)
   go_wp2_with fail
   go_ret;rw[HF.o];exact⟨rfl,HR.o.drewN _,grownBy.fO (grownBy.fT _ _) _⟩
 · have hi:((d.k:Int) == (d.s.size:Int))=false:=aA.2 (by omega)
   have hlt:d.k<d.s.size:=by omega
   have hki:(d.k:Int)<(d.s.size:Int):=by omega
   obtain⟨a,ha⟩:∃a:Int,(d.s[d.k].toNat:Int)=a:=⟨_,rfl⟩;have ha1:0≤a∧a≤255:=by have:=d.s[d.k].toNat_lt;omega
   have hh:=Nw d hlt;rw[ha]at hh;by_cases h36:a=36
   · have hf:d.mark=true:=by unfold Rd.mark;rw[hh,h36];rfl
     have HF:=ae hf;clear hf hh;have hj:(a == 36)=true:=bB.2 h36;have hj2:(a != 36)=false:=by rw[bne,hj];rfl
     clear h36;go_enter Tryz.func200,Tryz.ntmps200;go_wp2_with fail
     go_quiet (fail)
     go_wp2_with fail
     go_ret;rw[HF.o];exact⟨rfl,(HR.o.drewN _).uU (d.k+1),grownBy.gU (grownBy.fO (grownBy.fT _ _) _) _ _⟩
   · have hf:d.mark=false:=by unfold Rd.mark;rw[hh,jv];intro h;injection h with h;exact h36 h
     have HF:=ae hf;clear hf hh;have hj:(a == 36)=false:=aA.2 h36;have hj2:(a != 36)=true:=by rw[bne,hj];rfl
     clear h36;go_enter Tryz.func200,Tryz.ntmps200;go_wp2_with fail
     go_quiet (fail)
     go_wp2_with fail
     go_ret;rw[HF.o];exact⟨rfl,HR.o.drewN _,grownBy.fO (grownBy.fT _ _) _⟩
theorem Y5 (b:Nat)(d:Rd)(w:World)(h:cO w b d)(_hs:d.s.size≤1000000)(_hk:d.k≤d.s.size) :
 Calls Tryz.prog 179 #[.pointer (some ⟨b,0,none⟩)] w (Part d.zk b w):=by
 have HR:=ae h;clear h;go_enter Tryz.func179,Tryz.ntmps179;go_wp2_with (go_at_call 200;((with_reducible refine(TQ b d _ HR.o ?_ ?_).mono ?_);(try omega);(try omega);rintro e w1 ⟨rfl,h1,h2⟩;obtain⟨c0,c1,c2,c3,c4,c5,c6⟩:=h1.facts;have f5:=h1.frozen 5;have H1:=ae h1;clear h1;have H2:=ae h2;clear h2))
 go_ret;exact⟨grownBy.gU H2.o _ _,.inl ⟨_,rfl,rfl,H1.o.ahW _⟩⟩
theorem Y6 (b:Nat)(d:Rd)(w:World)(h:cO w b d)(_hs:d.s.size≤1000000)(_hk:d.k≤d.s.size) :
 Calls Tryz.prog 181 #[.pointer (some ⟨b,0,none⟩)] w (Part d.zl b w):=by
 have HR:=ae h;clear h;go_enter Tryz.func181,Tryz.ntmps181;go_wp2_with (go_at_call 200;((with_reducible refine(TQ b d _ HR.o ?_ ?_).mono ?_);(try omega);(try omega);rintro e w1 ⟨rfl,h1,h2⟩;obtain⟨c0,c1,c2,c3,c4,c5,c6⟩:=h1.facts;have f6:=h1.frozen 6;have H1:=ae h1;clear h1;have H2:=ae h2;clear h2))
 go_ret;exact⟨grownBy.gU H2.o _ _,.inl ⟨_,rfl,rfl,H1.o.ahX _⟩⟩
theorem tF {f:FuncId}{args:Array Value}{n:Nat}{v:Value}(h:Calls Tryz.prog f args (w.drewN n) fun e w'=>e = .returned v∧w.drewN n=w'):Calls Tryz.prog f args (w.drewN n) fun e w''=>e = .returned v∧∃m,w''=w.drewN m :=
 Calls.quiet_of_same (h.mono fun _ _ ⟨a,b⟩=>⟨a,b.symm⟩)
theorem cO.yJ {m p:Nat}(h:cO w b { d with k:=d.k+m })(hp:d.k+m=p)(n:Nat):cO ((w.drewN n).setCell ⟨b,1,none⟩ (.int .i64 ((p:Int)+1))) b { d with k:=d.k+(m+1) }:=by
 subst hp;exact(h.drewN n).uU (d.k+m+1)
theorem N7 (d:Rd)(m:Nat)(h:d.k+m<d.s.size):d.rest.take (m+1)=d.rest.take m++[((d.s[d.k+m].toNat:Nat):Int)]:=by
 unfold Rd.rest;rw[List.take_add_one,List.getElem?_drop,qN d.s _ h];rfl
theorem rM(d:Rd):d.rest.length=d.s.size - d.k:=by unfold Rd.rest;rw[lq,bC]
theorem BK (p:Int→Bool)(l:List Int)(m:Nat)(h:∀x∈l.take m,p x=true)(h2:∀x,l[m]? = some x→p x=false):l.takeWhile p=l.take m:=by
 have e:=wF p (l.take m) (l.drop m) h (fun x hx=>h2 x (by rw[List.head?_drop]at hx;exact hx));rw[List.take_append_drop]at e;exact e
theorem I6 (p:Int→Bool)(l:List Int)(m:Nat)(h:∀x∈l.take m,p x=true):l.takeWhile p=l.take m++(l.drop m).takeWhile p:=by
 have e:=WM p (l.take m) (l.drop m) h;rw[List.take_append_drop]at e;exact e
theorem ru {p:Int→Bool}(h:∀y∈l,p y=true)(hx:p x=true):∀y∈l++[x],p y=true:=by
 intro y hy;rw[dQ]at hy;rcases hy with hy|hy
 · exact h y hy
 · simp at hy;rw[hy];exact hx
def pQ(l:List Int):Int:=l.foldl (fun n x=>26*n+(x - 64)) 0
theorem aaf(l:List Int)(x:Int):pQ (l++[x])=26*pQ l+(x - 64):=by unfold pQ;rw[List.foldl_append];rfl
theorem QA (l:List Int)(h:∀x∈l,aU x=true)(hl:l.length≤2):pQ l≤702∧(l=[]∧pQ l=0∧jC l=false∨0<pQ l∧jC l=true∧l8 l=pQ l - 1):=by
 match l,hl,h with
 | [],_,_=>exact⟨by decide,.inl ⟨rfl,rfl,rfl⟩⟩
 | [a],_,h =>
   have ha:=h a (by simp);have:=sS ha;have hv:pQ [a]=a - 64:=by unfold pQ;simp
   have hi:jC [a]=true:=by unfold jC;simp[ha]
   refine⟨by omega,.inr ⟨by omega,hi, ?_⟩⟩;unfold l8;rw[ag hi,hv];simp;omega
 | [a,b],_,h =>
   have ha:=h a (by simp);have hb:=h b (by simp);have g1:=sS ha;have g2:=sS hb;have hv:pQ [a,b]=26*(a - 64)+(b - 64):=by unfold pQ;simp
   have hi:jC [a,b]=true:=by unfold jC;simp[ha,hb]
   refine⟨by omega,.inr ⟨by omega,hi, ?_⟩⟩;unfold l8;rw[ag hi,hv];simp;omega
theorem acS(h:2<l.length):jC l=false:=by unfold jC;rw[aV (by omega),Bool.false_and]
theorem Qz (d:Rd)(m:Nat)(v:Int)(b:Nat)(w wr:World)(hv:pQ (d.rest.take m)=v)(aX:∀x∈d.rest.take m,aU x=true)(hm:m≤2)(hk:d.k+m≤d.s.size)(Bh:∀x,d.rest[m]? = some x→aU x=false)(e:Ending)(he:e = .returned (.bool (decide (0<v))))
 (hr:cO wr b { { d with k:=d.k+m }with c:=v - 1 }) (hg:w.grownBy wr (some b)):Part d.col b w e wr:=by
 subst he;have hsp:=BK aU d.rest m aX Bh;have hlen:(d.rest.take m).length=m:=by rw[gW,rM];omega
 refine⟨hg, ?_⟩;unfold Rd.col;rw[hsp];rcases(QA (d.rest.take m) aX (by omega)).2 with ⟨h1,h2,h3⟩|⟨h1,h2,h3⟩
 · rw[h3,af (by simp)]
   exact .inr ⟨rfl,by rw[aV (by omega)]⟩
 · rw[ag h2]
   refine .inl ⟨_,rfl,by rw[aR (by omega)], ?_⟩;rw[h3,hv,hlen];exact hr
theorem aae (b:Nat)(d:Rd)(w:World)(h:cO w b d)(_hs:d.s.size≤1000000)(_hk:d.k≤d.s.size) :
 Calls Tryz.prog 180 #[.pointer (some ⟨b,0,none⟩)] w (Part d.col b w):=by
 have HR:=ae h;clear h;go_enter Tryz.func180,Tryz.ntmps180;go_wp2_with fail
 go_loopw [3] (fun n wr=>∃(m:Nat)(v:Int),n = .int .i64 v∧0≤v∧v≤702∧d.k+m≤d.s.size∧Hid (pQ (d.rest.take m)=v∧(∀x∈d.rest.take m,aU x=true)∧m≤2)∧Hid (cO wr b { d with k:=d.k+m })∧Hid (w.grownBy wr (some b)))
  (fun n _=>800 - (intOf n).toNat)
 case atStart=>exact⟨0,0,rfl,by omega,by omega,by omega,ae ⟨rfl,by simp,by omega⟩,ae HR.o,ae (grownBy.fT _ _)⟩
 case round =>
  obtain⟨m,v,rfl,hv0,hv1,dL,HM,fM,HG⟩:=hrel;obtain⟨c0,c1,c2,c3,c4,c5,c6⟩:=fM.o.facts;have f1:=fM.o.frozen 1;have f3:=fM.o.frozen 3;clear c2 c4 c5 c6;simp only at c0 c1 c3;obtain⟨p,hp⟩:∃p:Nat,d.k+m=p:=⟨_,rfl⟩;rw[hp]at c1;by_cases hlt:p<d.s.size
  · have lH : (p:Int)<(d.s.size:Int):=by omega
    obtain⟨a,ha⟩:∃a:Int,(d.s[p].toNat:Int)=a:=⟨_,rfl⟩;have ha1:0≤a∧a≤255:=by have:=d.s[p].toNat_lt;omega
    have hnx:d.rest.take (m+1)=d.rest.take m++[a]:=by subst hp;rw[N7 d m hlt,ha]
    have hat:d.rest[m]? = some a:=by subst hp;unfold Rd.rest;rw[List.getElem?_drop,qN d.s _ hlt,ha]
    have eu:=ae hnx;clear hnx;have HAT:=ae hat;clear hat;have HP:=ae hp;clear hp;by_cases hc:aU a=true
    · have hcb := sS hc
      have rG:pQ (d.rest.take (m+1))=26*v+(a - 64):=by rw[eu.o,aaf,HM.o.1]
      have aX:=ru HM.o.2.1 hc;rw[← eu.o]at aX;have kS:=ae rG;clear rG;have lv:=ae aX;clear aX;by_cases rC:702<v*26+(a - 65)+1
      · have hno:d.col=none:=by
         have h2:¬ m+1≤2:=by
          intro h2;have:=(QA _ lv.o (by rw[gW];omega)).1;rw[kS.o]at this;omega
         have h3:jC (d.rest.takeWhile aU)=false:=by
          apply acS;rw[I6 aU d.rest (m+1) lv.o,ax,gW,rM];have:=HP.o;omega
         unfold Rd.col;rw[h3];rfl
        have dR:=ae hno;clear hno;go_wp2_with fail
        go_quiet ((go_at_call 144;exact tF (EM _ (by omega) (by omega) _)))
        go_wp2_with fail
        go_quiet (fail)
        go_wp2_with fail
        go_ret;exact⟨grownBy.fO HG.o _,.inr ⟨dR.o,rfl⟩⟩
      · go_wp2_with fail
        go_quiet ((go_at_call 144;exact tF (EM _ (by omega) (by omega) _)))
        go_wp2_with fail
        go_quiet (fail)
        go_wp2_with fail
        go_roundw
        case rel =>
         have hm2:m+1≤2:=by
          have h3:=HM.o.2.2;by_cases h:m=2
          · exfalso
            have hl:(d.rest.take m).length=2:=by rw[gW,rM];have:=HP.o;omega
            match hq:d.rest.take m,hl with
            | [x,y],_ =>
              have h1:=HM.o.2.1;have h4:=HM.o.1;rw[hq]at h1 h4;have g1:=sS (h1 x (by simp));have g2:=sS (h1 y (by simp));have hv:pQ [x,y]=26*(x - 64)+(y - 64):=by unfold pQ;simp
              omega
          · omega
         refine⟨m+1,v*26+(a - 65)+1,rfl,by omega,by omega,by have:=HP.o;omega,ae ⟨by rw[kS.o];omega,lv.o,hm2⟩,ae ?_,ae (grownBy.gU (grownBy.fO HG.o _) _ _)⟩;exact cO.yJ fM.o HP.o _
        case measure=>simp[intOf];omega
    · have hc':aU a=false:=by simpa using hc
      clear hc;have mI:=fun (e:Ending)(oM:World)=>Qz d m v b w oM HM.o.1 HM.o.2.1 HM.o.2.2 dL (fun x hx=>by rw[HAT.o]at hx;injection hx with hx;rw[← hx];exact hc') e
      have Ag:=ae mI;clear mI;go_wp2_with fail
      go_quiet ((go_at_call 144;exact tF (EM _ (by omega) (by omega) _)))
      go_wp2_with fail
      go_ret;exact Ag.o _ _ rfl ((fM.o.drewN _).VS _) (grownBy.gU (grownBy.fO HG.o _) _ _)
  · have lH:¬ (p:Int)<(d.s.size:Int):=by omega
    have mI:=fun (e:Ending)(oM:World)=>Qz d m v b w oM HM.o.1 HM.o.2.1 HM.o.2.2 dL (fun x hx=>by have h1:=(eQ.1 hx).1;rw[rM]at h1;omega) e
    have Ag:=ae mI;clear mI;clear hp;go_wp2_with fail
    go_quiet (fail)
    go_wp2_with fail
    go_ret;exact Ag.o _ _ rfl ((fM.o.drewN _).VS _) (grownBy.gU (grownBy.fO HG.o _) _ _)
theorem VI (d:Rd)(m:Nat)(v:Int)(b:Nat)(w wr:World)(hv:dG (d.rest.take m)=v)(aX:∀x∈d.rest.take m,isNum x=true)(hz:m=0∧v=0∨1≤v∧d.rest.take m≠[]∧(d.rest.take m).head? ≠ some 48)(hv9:v≤999)(hk:d.k+m≤d.s.size)(Bh:∀x,d.rest[m]? = some x→isNum x=false)(e:Ending)(he:e = .returned (.bool (decide (0<v))))
 (hr:cO wr b { { d with k:=d.k+m }with r:=v - 1 }) (hg:w.grownBy wr (some b)):Part d.row b w e wr:=by
 subst he;have hsp:=BK isNum d.rest m aX Bh;have hlen:(d.rest.take m).length=m:=by rw[gW,rM];omega
 refine⟨hg, ?_⟩;unfold Rd.row;rw[hsp];rcases hz with ⟨h1,h2⟩|⟨h1,h2,h3⟩
 · have:isRow (d.rest.take m)=false:=by rw[h1];rfl
   rw[this,af (by simp)];exact .inr ⟨rfl,by rw[aV (by omega)]⟩
 · have:isRow (d.rest.take m)=true:=by unfold isRow;rw[aQ];exact⟨h2,h3,by omega⟩
   rw[ag this];refine .inl ⟨_,rfl,by rw[aR (by omega)], ?_⟩;rw[hv,hlen];exact hr
theorem abF(h:l≠[]):(l++[x]).head? = l.head? := by cases l with|nil=>exact absurd rfl h|cons a l=>rfl
theorem ahp (b:Nat)(d:Rd)(w:World)(h:cO w b d)(_hs:d.s.size≤1000000)(_hk:d.k≤d.s.size) :
 Calls Tryz.prog 182 #[.pointer (some ⟨b,0,none⟩)] w (Part d.row b w):=by
 have HR:=ae h;clear h;go_enter Tryz.func182,Tryz.ntmps182;go_wp2_with fail
 go_loopw [3] (fun n wr=>∃(m:Nat)(v:Int),n = .int .i64 v∧0≤v∧v≤999∧d.k+m≤d.s.size∧Hid (dG (d.rest.take m)=v∧(∀x∈d.rest.take m,isNum x=true)∧(m=0∧v=0∨1≤v∧d.rest.take m≠[]∧(d.rest.take m).head? ≠ some 48))∧Hid (cO wr b { d with k:=d.k+m })∧Hid (w.grownBy wr (some b)))
  (fun n _=>1200 - (intOf n).toNat)
 case atStart=>exact⟨0,0,rfl,by omega,by omega,by omega,ae ⟨rfl,by simp,.inl ⟨rfl,rfl⟩⟩,ae HR.o,ae (grownBy.fT _ _)⟩
 case round =>
  obtain⟨m,v,rfl,hv0,hv1,dL,HM,fM,HG⟩:=hrel;obtain⟨c0,c1,c2,c3,c4,c5,c6⟩:=fM.o.facts;have f1:=fM.o.frozen 1;have f4:=fM.o.frozen 4;clear c2 c3 c5 c6;simp only at c0 c1 c4;obtain⟨p,hp⟩:∃p:Nat,d.k+m=p:=⟨_,rfl⟩;rw[hp]at c1;by_cases hlt:p<d.s.size
  · have lH:(p:Int)<(d.s.size:Int):=by omega
    obtain⟨a,ha⟩:∃a:Int,(d.s[p].toNat:Int)=a:=⟨_,rfl⟩;have ha1:0≤a∧a≤255:=by have:=d.s[p].toNat_lt;omega
    have hnx:d.rest.take (m+1)=d.rest.take m++[a]:=by subst hp;rw[N7 d m hlt,ha]
    have hat:d.rest[m]? = some a:=by subst hp;unfold Rd.rest;rw[List.getElem?_drop,qN d.s _ hlt,ha]
    have eu:=ae hnx;clear hnx;have HAT:=ae hat;clear hat;have HP:=ae hp;clear hp;by_cases hc:isNum a=true
    · have hcb:=jE hc
      have rG:dG (d.rest.take (m+1))=10*v+(a - 48):=by rw[eu.o,z8,HM.o.1]
      have aX:=ru HM.o.2.1 hc;rw[← eu.o]at aX;have kS:=ae rG;clear rG;have lv:=ae aX;clear aX;by_cases qF:v*10+(a - 48)=0∨999<v*10+(a - 48)
      · have hno:d.row=none:=by
         have h3:isRow (d.rest.takeWhile isNum)=false:=by
          rw[I6 isNum d.rest (m+1) lv.o];unfold isRow;rw[jv];rintro⟨_,h2,h3⟩;rcases qF with h|h
          · rcases HM.o.2.2 with ⟨hm0,_⟩|⟨hm1,_⟩
            · apply h2;rw[eu.o,hm0];simp;omega
            · omega
          · have:=BR ((d.rest.drop (m+1)).takeWhile isNum) (d.rest.take (m+1)) (uW isNum _) (by rw[kS.o];omega)
            rw[kS.o]at this;omega
         unfold Rd.row;rw[h3];rfl
        have dR:=ae hno;clear hno;by_cases hz:v*10+(a - 48)=0
        · have hzb:(v*10+(a - 48) == 0)=true:=bB.2 hz
          clear qF hz;go_wp2_with fail
          go_quiet ((go_at_call 119;exact tF (CO _ (by omega) (by omega) _)))
          go_wp2_with fail
          go_quiet (fail)
          go_wp2_with fail
          go_ret;exact⟨grownBy.fO HG.o _,.inr ⟨dR.o,rfl⟩⟩
        · have hzb:(v*10+(a - 48) == 0)=false:=aA.2 hz
          have h9:999<v*10+(a - 48):=by omega
          clear qF hz;go_wp2_with fail
          go_quiet ((go_at_call 119;exact tF (CO _ (by omega) (by omega) _)))
          go_wp2_with fail
          go_quiet (fail)
          go_wp2_with fail
          go_ret;exact⟨grownBy.fO HG.o _,.inr ⟨dR.o,rfl⟩⟩
      · have hz:¬ v*10+(a - 48)=0:=by omega
        have hzb:(v*10+(a - 48) == 0)=false:=aA.2 hz;have h9:¬ 999<v*10+(a - 48):=by omega
        have h9':v*10+(a - 48)≤999:=by omega
        have h1':1≤v*10+(a - 48):=by omega
        clear qF hz;go_wp2_with fail
        go_quiet ((go_at_call 119;exact tF (CO _ (by omega) (by omega) _)))
        go_wp2_with fail
        go_quiet (fail)
        go_wp2_with fail
        go_roundw
        case rel =>
         refine⟨m+1,v*10+(a - 48),rfl,by omega,by omega,by have:=HP.o;omega,ae ⟨by rw[kS.o];omega,lv.o,.inr ⟨by omega, ?_, ?_⟩⟩,ae ?_,ae (grownBy.gU (grownBy.fO HG.o _) _ _)⟩
         · rw[eu.o];simp
         · rw[eu.o]
           rcases HM.o.2.2 with ⟨hm0,hm1⟩|⟨_,h2,h3⟩
           · rw[hm0];simp;omega
           · rw[abF h2];exact h3
         · exact cO.yJ fM.o HP.o _
        case measure=>simp[intOf];omega
    · have hc':isNum a=false:=by simpa using hc
      clear hc;have mI:=fun (e:Ending)(oM:World)=>VI d m v b w oM HM.o.1 HM.o.2.1 HM.o.2.2 hv1 dL (fun x hx=>by rw[HAT.o]at hx;injection hx with hx;rw[← hx];exact hc') e
      have Ag:=ae mI;clear mI;go_wp2_with fail
      go_quiet ((go_at_call 119;exact tF (CO _ (by omega) (by omega) _)))
      go_wp2_with fail
      go_ret;exact Ag.o _ _ rfl ((fM.o.drewN _).VT _) (grownBy.gU (grownBy.fO HG.o _) _ _)
  · have lH:¬ (p:Int)<(d.s.size:Int):=by omega
    have mI:=fun (e:Ending)(oM:World)=>VI d m v b w oM HM.o.1 HM.o.2.1 HM.o.2.2 hv1 dL (fun x hx=>by have h1:=(eQ.1 hx).1;rw[rM]at h1;omega) e
    have Ag:=ae mI;clear mI;clear hp;go_wp2_with fail
    go_quiet (fail)
    go_wp2_with fail
    go_ret;exact Ag.o _ _ rfl ((fM.o.drewN _).VT _) (grownBy.gU (grownBy.fO HG.o _) _ _)
end Go.Proofs.YtbplbjmmfgjdjaaGreatDoor
namespace Go.Proofs.YtbplbjmmfgjdjaaGreatDoor
open Go.RowKit
variable {s:ByteArray}{c:Int}{b k:Nat}{w w':World}{t:ah}
def oZ(c:Int):Bool:=decide (c=32)
def oD(c:Int):Bool:=isLet c||decide (c=36)
theorem Tv (c:Int)(_h0:0≤c)(_h1:c≤255)(w:World) :
 Calls Tryz.prog 121 #[.int .u8 c] w fun e w'=>e = .returned (.bool (oZ c))∧w=w':=by
 go_enter Tryz.func121,Tryz.ntmps121
 go_wp2
 all_goals go_ret
 all_goals exact⟨gu (by unfold oZ;first|rfl|(symm;rw[aQ];omega)|(symm;rw[jv];omega)|(rw[decide_eq_decide];omega)),rfl⟩
theorem wu (c:Int)(_h0:0≤c)(_h1:c≤255)(w:World) :
 Calls Tryz.prog 145 #[.int .u8 c] w fun e w'=>e = .returned (.bool (isNum c))∧w=w':=by
 go_enter Tryz.func145,Tryz.ntmps145
 go_wp2
 all_goals go_ret
 all_goals exact⟨gu (by unfold isNum;first|rfl|(symm;rw[aQ];omega)|(symm;rw[jv];omega)|(rw[decide_eq_decide];omega)),rfl⟩
theorem ER (c:Int)(_h0:0≤c)(_h1:c≤255)(w:World) :
 Calls Tryz.prog 165 #[.int .u8 c] w fun e w'=>e = .returned (.bool (aU c))∧w=w':=by
 go_enter Tryz.func165,Tryz.ntmps165
 go_wp2
 all_goals go_ret
 all_goals exact⟨gu (by unfold aU;first|rfl|(symm;rw[aQ];omega)|(symm;rw[jv];omega)|(rw[decide_eq_decide];omega)),rfl⟩
theorem SL(h:aU c=true):oD c=true:=by unfold oD;rw[SS h];rfl
theorem acR(h:aU c=false):oD c=decide (97≤c∧c≤122∨c=36):=by unfold oD;rw[SV h];simp
theorem Hf :isWord c=(oD c||(isNum c||decide (c=33))):=by
 unfold isWord oD;rw[show decide (c=36∨c=33)=(decide (c=36)||decide (c=33))from by simp];cases isLet c <;> cases isNum c <;> cases decide (c=36) <;> simp
theorem zn (c:Int)(_h0:0≤c)(_h1:c≤255)(w:World) :
 Calls Tryz.prog 149 #[.int .u8 c] w fun e w'=>e = .returned (.bool (oD c))∧w=w':=by
 by_cases hc:aU c=true
 · have HL:=ae (SL hc)
   go_enter Tryz.func149,Tryz.ntmps149;go_wp2_with (go_at_call 165;((with_reducible refine(ER _ ?_ ?_ _).mono ?_);(try omega);(try omega);rintro e w' ⟨rfl,rfl⟩))
   all_goals go_ret
   all_goals exact⟨gu (by rw[HL.o]),rfl⟩
 · have hc':aU c=false:=by simpa using hc
   have HL:=ae (acR hc');clear hc;go_enter Tryz.func149,Tryz.ntmps149;go_wp2_with (go_at_call 165;((with_reducible refine(ER _ ?_ ?_ _).mono ?_);(try omega);(try omega);rintro e w' ⟨rfl,rfl⟩))
   all_goals go_ret
   all_goals exact⟨gu (by rw[HL.o];first|rfl|(symm;rw[aQ];omega)|(symm;rw[jv];omega)|(rw[Bool.eq_iff_iff];simp only[Bool.or_eq_true,aQ,bB];omega)),rfl⟩
theorem S9 (c:Int)(_h0:0≤c)(_h1:c≤255)(w:World) :
 Calls Tryz.prog 166 #[.int .u8 c] w fun e w'=>e = .returned (.bool (isWord c))∧w=w':=by
 have HW:=ae (Hf (c:=c));cases hb:oD c
 · cases hn:isNum c
   · rw [hb,hn]at HW
     go_enter Tryz.func166,Tryz.ntmps166
     go_wp2_with (first
      | (go_at_call 149;((with_reducible refine(zn _ ?_ ?_ _).mono ?_);(try omega);(try omega);rintro e w' ⟨rfl,rfl⟩;rw[hb]))
      | (go_at_call 145;((with_reducible refine(wu _ ?_ ?_ _).mono ?_);(try omega);(try omega);rintro e w' ⟨rfl,rfl⟩;rw[hn])))
     all_goals go_ret
     all_goals exact⟨gu (by rw[HW.o];first|rfl|(rw[Bool.eq_iff_iff];simp only[Bool.or_eq_true,dJ,Bool.false_or,aQ,bB])),rfl⟩
   · rw [hb,hn]at HW
     go_enter Tryz.func166,Tryz.ntmps166
     go_wp2_with (first
      | (go_at_call 149;((with_reducible refine(zn _ ?_ ?_ _).mono ?_);(try omega);(try omega);rintro e w' ⟨rfl,rfl⟩;rw[hb]))
      | (go_at_call 145;((with_reducible refine(wu _ ?_ ?_ _).mono ?_);(try omega);(try omega);rintro e w' ⟨rfl,rfl⟩;rw[hn])))
     all_goals go_ret
     all_goals exact⟨gu (by rw[HW.o];rfl),rfl⟩
 · rw [hb]at HW
   go_enter Tryz.func166,Tryz.ntmps166
   go_wp2_with (first
    | (go_at_call 149;((with_reducible refine(zn _ ?_ ?_ _).mono ?_);(try omega);(try omega);rintro e w' ⟨rfl,rfl⟩;rw[hb])))
   all_goals go_ret
   all_goals exact⟨gu (by rw[HW.o];rfl),rfl⟩
def bZ(w:World)(b:Nat)(s:ByteArray)(k:Nat):Prop:=w.heap[b]? = some (.cells #[.string s,.int .i64 (k:Int)] 139)
theorem bZ.lt(h:bZ w b s k):b<w.heap.size:=(dB.1 h).1
theorem bZ.drewN(h:bZ w b s k)(n:Nat):bZ (w.drewN n) b s k:=h
theorem bZ.below{B:Nat}(h:bZ w b s k)(hb:Below B w w')(hB:b<B):bZ w' b s k:=by unfold bZ;rw[hb.block b hB];exact h
theorem bZ.facts (h:bZ w b s k):w.cell? ⟨b,0,none⟩=some (.string s)∧w.cell? ⟨b,1,none⟩=some (.int .i64 (k:Int)) :=
 ⟨by rw[cell_of_row w b 0 _ _ _ h];rfl,by rw[cell_of_row w b 1 _ _ _ h];rfl⟩
theorem bZ.frozen(h:bZ w b s k)(j:Nat):w.frozen? ⟨b,j,none⟩=false:=frozen_of_row w b j _ _ h
theorem bZ.uU(h:bZ w b s k)(m:Nat):bZ (w.setCell ⟨b,1,none⟩ (.int .i64 (m:Int))) b s m:=by unfold bZ;rw[heap_setCell_same w b 1 _ _ _ h];rfl
theorem bZ.yJ(h:bZ w b s k):bZ (w.setCell ⟨b,1,none⟩ (.int .i64 ((k:Int)+1))) b s (k+1):=h.uU (k+1)
theorem bZ.new(w:World)(s:ByteArray):bZ (w.alloc (.cells #[.string s,.int .i64 0] 139)) w.heap.size s 0:=(lu w _).1
def qh(t:ah):Array Value:=(tA t (.int .i64 t.pos))
def aN(w:World)(b:Nat)(t:ah):Prop:=w.heap[b]? = some (.cells (qh t) 113)
theorem aN.lt(h:aN w b t):b<w.heap.size:=(dB.1 h).1
theorem aN.below{B:Nat}(h:aN w b t)(hb:Below B w w')(hB:b<B):aN w' b t:=by unfold aN;rw[hb.block b hB];exact h
theorem aN.drewN(h:aN w b t)(n:Nat):aN (w.drewN n) b t:=h
theorem aN.frozen(h:aN w b t)(j:Nat):w.frozen? ⟨b,j,none⟩=false:=frozen_of_row w b j _ _ h
theorem aN.grown {c:Nat}(h:aN w b t)(hg:w.grownBy w' (some c))(hne:b≠c):aN w' b t:=by
 unfold aN;rw[hg.block b h.lt (by intro e;exact hne (dM e))];exact h
theorem aN.new(w:World)(t:ah):aN (w.alloc (.cells (qh t) 113)) w.heap.size t:=(lu w _).1
theorem WT:(Tryz.prog.info? 113).map (·.size)=some 9:=by kernel_rfl
theorem ajr (t:ah):∀v∈(qh t).toList,v.oneCell'=true:=by
 intro v hv;simp only[qh,ik,List.not_mem_nil,or_false]at hv;rcases hv with rfl|rfl|rfl|rfl|rfl|rfl|rfl|rfl|rfl <;> rfl
end Go.Proofs.YtbplbjmmfgjdjaaGreatDoor
namespace Go.Proofs
open Go.Shelf
def Tryz.adv:Go.Shelf.Ren:=⟨fun|137=>199|217=>207|266=>216|n=>n,fun|9=>9|5=>5|3=>3|n=>n,fun|n=>n⟩
theorem Tryz.adu:Go.Proofs.Lays.n137 Tryz.prog Tryz.adv:={
 mixed:=by kernel_rfl
 f137:=Tryz.func199.trans (congrArg some (by kernel_rfl))
 f217:=Tryz.func207.trans (congrArg some (by kernel_rfl))
 f266:=Tryz.func216.trans (congrArg some (by kernel_rfl))
 t3:=Tryz.underlying3
 a3:=Tryz.isAgg3
 z3:=Tryz.sizeOf3
 v3:=Tryz.zeroValue3
 t5:=Tryz.underlying5
 a5:=Tryz.isAgg5
 z5:=Tryz.sizeOf5
 v5:=Tryz.zeroValue5
 t9:=Tryz.underlying9
 a9:=Tryz.isAgg9
 z9:=Tryz.sizeOf9
 v9:=Tryz.zeroValue9 }
open Go.RowKit in
theorem Tryz.strings_IndexByte (s:ByteArray)(c:Int)(w:World) :
 Calls Tryz.prog 199 #[.string s,.int .u8 c] w fun e w'=>e = .returned (.int .i64 (Lib.indexByte s.data.toList c.toNat.toUInt8))∧w'=w:=Any.strings_IndexByte Tryz.adu s c w
def Tryz.adB:Go.Shelf.Ren:=⟨fun|171=>133|243=>156|246=>169|283=>184|284=>185|285=>186|286=>187|129=>202|317=>201|318=>203|319=>204|320=>205|337=>214|338=>215|n=>n,fun|3=>3|9=>9|2=>2|4=>4|171=>187|0=>0|53=>60|37=>22|5=>5|173=>190|212=>201|51=>202|20=>20|213=>203|46=>47|232=>222|233=>223|n=>n,fun|17=>3|18=>9|19=>10|n=>n⟩
theorem Tryz.adA:Go.Proofs.LaysM.n171 Tryz.prog Tryz.adB:={
 mixed:=by kernel_rfl
 f129:=Tryz.func202.trans (congrArg some (by kernel_rfl))
 f171:=Tryz.func133.trans (congrArg some (by kernel_rfl))
 f243:=Tryz.func156.trans (congrArg some (by kernel_rfl))
 f246:=Tryz.func169.trans (congrArg some (by kernel_rfl))
 f283:=Tryz.func184.trans (congrArg some (by kernel_rfl))
 f284:=Tryz.func185.trans (congrArg some (by kernel_rfl))
 f285:=Tryz.func186.trans (congrArg some (by kernel_rfl))
 f286:=Tryz.func187.trans (congrArg some (by kernel_rfl))
 f317:=Tryz.func201.trans (congrArg some (by kernel_rfl))
 f318:=Tryz.func203.trans (congrArg some (by kernel_rfl))
 f319:=Tryz.func204.trans (congrArg some (by kernel_rfl))
 f320:=Tryz.func205.trans (congrArg some (by kernel_rfl))
 f337:=Tryz.func214.trans (congrArg some (by kernel_rfl))
 f338:=Tryz.func215.trans (congrArg some (by kernel_rfl))
 t0:=Tryz.underlying0
 a0:=Tryz.isAgg0
 z0:=Tryz.sizeOf0
 v0:=Tryz.zeroValue0
 t2:=Tryz.underlying2
 a2:=Tryz.isAgg2
 z2:=Tryz.sizeOf2
 v2:=Tryz.zeroValue2
 t3:=Tryz.underlying3
 a3:=Tryz.isAgg3
 z3:=Tryz.sizeOf3
 v3:=Tryz.zeroValue3
 t4:=Tryz.underlying4
 a4:=Tryz.isAgg4
 z4:=Tryz.sizeOf4
 v4:=Tryz.zeroValue4
 t5:=Tryz.underlying5
 a5:=Tryz.isAgg5
 z5:=Tryz.sizeOf5
 v5:=Tryz.zeroValue5
 t9:=Tryz.underlying9
 a9:=Tryz.isAgg9
 z9:=Tryz.sizeOf9
 v9:=Tryz.zeroValue9
 t20:=Tryz.underlying20
 a20:=Tryz.isAgg20
 z20:=Tryz.sizeOf20
 v20:=Tryz.zeroValue20
 t37:=Tryz.underlying22
 a37:=Tryz.isAgg22
 z37:=Tryz.sizeOf22
 v37:=Tryz.zeroValue22
 t46:=Tryz.underlying47
 a46:=Tryz.isAgg47
 z46:=Tryz.sizeOf47
 v46:=Tryz.zeroValue47
 t51:=Tryz.underlying202
 a51:=Tryz.isAgg202
 z51:=Tryz.sizeOf202
 v51:=Tryz.zeroValue202
 t53:=Tryz.underlying60
 a53:=Tryz.isAgg60
 z53:=Tryz.sizeOf60
 v53:=Tryz.zeroValue60
 t171:=Tryz.underlying187
 a171:=Tryz.isAgg187
 z171:=Tryz.sizeOf187
 v171:=Tryz.zeroValue187
 t173:=Tryz.underlying190
 a173:=Tryz.isAgg190
 z173:=Tryz.sizeOf190
 v173:=Tryz.zeroValue190
 t212:=Tryz.underlying201
 a212:=Tryz.isAgg201
 z212:=Tryz.sizeOf201
 v212:=Tryz.zeroValue201
 t213:=Tryz.underlying203
 a213:=Tryz.isAgg203
 z213:=Tryz.sizeOf203
 t232:=Tryz.underlying222
 a232:=Tryz.isAgg222
 z232:=Tryz.sizeOf222
 v232:=Tryz.zeroValue222
 t233:=Tryz.underlying223
 a233:=Tryz.isAgg223
 z233:=Tryz.sizeOf223
 v233:=Tryz.zeroValue223
 g17:=by kernel_rfl
 g18:=by kernel_rfl
 g19:=by kernel_rfl
 i0:=by kernel_rfl
 i2:=by kernel_rfl
 i3:=by kernel_rfl
 i4:=by kernel_rfl
 i5:=by kernel_rfl
 i9:=by kernel_rfl
 i20:=by kernel_rfl
 i37:=by kernel_rfl
 i46:=by kernel_rfl
 i51:=by kernel_rfl
 i53:=by kernel_rfl
 i171:=by kernel_rfl
 i173:=by kernel_rfl
 i212:=by kernel_rfl
 i232:=by kernel_rfl
 i233:=by kernel_rfl
 m17:=by kernel_rfl
 m18:=by kernel_rfl
 m19:=by kernel_rfl }
open Go.RowKit Go.Sort Go.Lib in
theorem Tryz.strconv_Itoa (n : Int) (h0 : -9223372036854775808 ≤ n) (h1 : n ≤ 9223372036854775807) (w : World) (nL : Lib.TabIs Tryz.prog w "internal/strconv.uint64pow10" .u64 Lib.pow10Tab) :
 Calls Tryz.prog 133 #[.int .i64 n] w fun e w'=>e = .returned (.string ⟨(Lib.itoa n).toArray⟩)∧∃k os,w'=grow (w.drewN k) os:=Any.strconv_Itoa Tryz.adA n h0 h1 w nL
def Tryz.adz:Go.Shelf.Ren:=⟨fun|172=>163|244=>174|245=>175|247=>193|279=>194|280=>195|281=>196|282=>197|287=>211|316=>212|171=>133|205=>213|321=>218|322=>219|243=>156|246=>169|283=>184|284=>185|285=>186|286=>187|129=>202|317=>201|318=>203|319=>204|320=>205|337=>214|338=>215|n=>n,fun|9=>9|3=>3|75=>119|76=>120|4=>4|5=>5|167=>193|37=>22|0=>0|85=>194|2=>2|168=>196|53=>60|175=>210|46=>47|210=>213|127=>125|145=>221|143=>219|21=>21|171=>187|173=>190|212=>201|51=>202|20=>20|213=>203|232=>222|233=>223|80=>94|n=>n,fun|15=>7|16=>8|17=>3|18=>9|19=>10|n=>n⟩
theorem Tryz.Tk:Go.Proofs.LaysC.n172 Tryz.prog Tryz.adz:={
 mixed:=by kernel_rfl
 f129:=Tryz.func202.trans (congrArg some (by kernel_rfl))
 f171:=Tryz.func133.trans (congrArg some (by kernel_rfl))
 f172:=Tryz.func163.trans (congrArg some (by kernel_rfl))
 f205:=Tryz.func213.trans (congrArg some (by kernel_rfl))
 f243:=Tryz.func156.trans (congrArg some (by kernel_rfl))
 f244:=Tryz.func174.trans (congrArg some (by kernel_rfl))
 f245:=Tryz.func175.trans (congrArg some (by kernel_rfl))
 f246:=Tryz.func169.trans (congrArg some (by kernel_rfl))
 f247:=Tryz.func193.trans (congrArg some (by kernel_rfl))
 f279:=Tryz.func194.trans (congrArg some (by kernel_rfl))
 f280:=Tryz.func195.trans (congrArg some (by kernel_rfl))
 f281:=Tryz.func196.trans (congrArg some (by kernel_rfl))
 f282:=Tryz.func197.trans (congrArg some (by kernel_rfl))
 f283:=Tryz.func184.trans (congrArg some (by kernel_rfl))
 f284:=Tryz.func185.trans (congrArg some (by kernel_rfl))
 f285:=Tryz.func186.trans (congrArg some (by kernel_rfl))
 f286:=Tryz.func187.trans (congrArg some (by kernel_rfl))
 f287:=Tryz.func211.trans (congrArg some (by kernel_rfl))
 f316:=Tryz.func212.trans (congrArg some (by kernel_rfl))
 f317:=Tryz.func201.trans (congrArg some (by kernel_rfl))
 f318:=Tryz.func203.trans (congrArg some (by kernel_rfl))
 f319:=Tryz.func204.trans (congrArg some (by kernel_rfl))
 f320:=Tryz.func205.trans (congrArg some (by kernel_rfl))
 f321:=Tryz.func218.trans (congrArg some (by kernel_rfl))
 f322:=Tryz.func219.trans (congrArg some (by kernel_rfl))
 f337:=Tryz.func214.trans (congrArg some (by kernel_rfl))
 f338:=Tryz.func215.trans (congrArg some (by kernel_rfl))
 t0:=Tryz.underlying0
 a0:=Tryz.isAgg0
 z0:=Tryz.sizeOf0
 v0:=Tryz.zeroValue0
 t2:=Tryz.underlying2
 a2:=Tryz.isAgg2
 z2:=Tryz.sizeOf2
 v2:=Tryz.zeroValue2
 t3:=Tryz.underlying3
 a3:=Tryz.isAgg3
 z3:=Tryz.sizeOf3
 v3:=Tryz.zeroValue3
 t4:=Tryz.underlying4
 a4:=Tryz.isAgg4
 z4:=Tryz.sizeOf4
 v4:=Tryz.zeroValue4
 t5:=Tryz.underlying5
 a5:=Tryz.isAgg5
 z5:=Tryz.sizeOf5
 v5:=Tryz.zeroValue5
 t9:=Tryz.underlying9
 a9:=Tryz.isAgg9
 z9:=Tryz.sizeOf9
 v9:=Tryz.zeroValue9
 t20:=Tryz.underlying20
 a20:=Tryz.isAgg20
 z20:=Tryz.sizeOf20
 v20:=Tryz.zeroValue20
 t21:=Tryz.underlying21
 a21:=Tryz.isAgg21
 z21:=Tryz.sizeOf21
 v21:=Tryz.zeroValue21
 t37:=Tryz.underlying22
 a37:=Tryz.isAgg22
 z37:=Tryz.sizeOf22
 v37:=Tryz.zeroValue22
 t46:=Tryz.underlying47
 a46:=Tryz.isAgg47
 z46:=Tryz.sizeOf47
 v46:=Tryz.zeroValue47
 t51:=Tryz.underlying202
 a51:=Tryz.isAgg202
 z51:=Tryz.sizeOf202
 v51:=Tryz.zeroValue202
 t53:=Tryz.underlying60
 a53:=Tryz.isAgg60
 z53:=Tryz.sizeOf60
 v53:=Tryz.zeroValue60
 t75:=Tryz.underlying119
 a75:=Tryz.isAgg119
 z75:=Tryz.sizeOf119
 v75:=Tryz.zeroValue119
 t76:=Tryz.underlying120
 a76:=Tryz.isAgg120
 z76:=Tryz.sizeOf120
 v76:=Tryz.zeroValue120
 t85:=Tryz.underlying194
 a85:=Tryz.isAgg194
 z85:=Tryz.sizeOf194
 v85:=Tryz.zeroValue194
 t127:=Tryz.underlying125
 a127:=Tryz.isAgg125
 z127:=Tryz.sizeOf125
 v127:=Tryz.zeroValue125
 t143:=Tryz.underlying219
 a143:=Tryz.isAgg219
 z143:=Tryz.sizeOf219
 v143:=Tryz.zeroValue219
 t145:=Tryz.underlying221
 a145:=Tryz.isAgg221
 z145:=Tryz.sizeOf221
 v145:=Tryz.zeroValue221
 t167:=Tryz.underlying193
 a167:=Tryz.isAgg193
 z167:=Tryz.sizeOf193
 v167:=Tryz.zeroValue193
 t168:=Tryz.underlying196
 a168:=Tryz.isAgg196
 z168:=Tryz.sizeOf196
 v168:=Tryz.zeroValue196
 t171:=Tryz.underlying187
 a171:=Tryz.isAgg187
 z171:=Tryz.sizeOf187
 v171:=Tryz.zeroValue187
 t173:=Tryz.underlying190
 a173:=Tryz.isAgg190
 z173:=Tryz.sizeOf190
 v173:=Tryz.zeroValue190
 t175:=Tryz.underlying210
 a175:=Tryz.isAgg210
 z175:=Tryz.sizeOf210
 v175:=Tryz.zeroValue210
 t210:=Tryz.underlying213
 a210:=Tryz.isAgg213
 z210:=Tryz.sizeOf213
 v210:=Tryz.zeroValue213
 t212:=Tryz.underlying201
 a212:=Tryz.isAgg201
 z212:=Tryz.sizeOf201
 v212:=Tryz.zeroValue201
 t213:=Tryz.underlying203
 a213:=Tryz.isAgg203
 z213:=Tryz.sizeOf203
 t232:=Tryz.underlying222
 a232:=Tryz.isAgg222
 z232:=Tryz.sizeOf222
 v232:=Tryz.zeroValue222
 t233:=Tryz.underlying223
 a233:=Tryz.isAgg223
 z233:=Tryz.sizeOf223
 v233:=Tryz.zeroValue223
 g15:=by kernel_rfl
 g16:=by kernel_rfl
 g17:=by kernel_rfl
 g18:=by kernel_rfl
 g19:=by kernel_rfl
 t80:=Tryz.underlying94
 a80:=Tryz.isAgg94
 z80:=Tryz.sizeOf94
 v80:=Tryz.zeroValue94
 i0:=by kernel_rfl
 i2:=by kernel_rfl
 i3:=by kernel_rfl
 i4:=by kernel_rfl
 i5:=by kernel_rfl
 i9:=by kernel_rfl
 i20:=by kernel_rfl
 i21:=by kernel_rfl
 i37:=by kernel_rfl
 i46:=by kernel_rfl
 i51:=by kernel_rfl
 i53:=by kernel_rfl
 i75:=by kernel_rfl
 i76:=by kernel_rfl
 i80:=by kernel_rfl
 i85:=by kernel_rfl
 i127:=by kernel_rfl
 i143:=by kernel_rfl
 i145:=by kernel_rfl
 i167:=by kernel_rfl
 i168:=by kernel_rfl
 i171:=by kernel_rfl
 i173:=by kernel_rfl
 i175:=by kernel_rfl
 i210:=by kernel_rfl
 i212:=by kernel_rfl
 i232:=by kernel_rfl
 i233:=by kernel_rfl
 m15:=by kernel_rfl
 m16:=by kernel_rfl
 m17:=by kernel_rfl
 m18:=by kernel_rfl
 m19:=by kernel_rfl
 c0:=by kernel_rfl
 c2:=by kernel_rfl
 c3:=by kernel_rfl
 c4:=by kernel_rfl
 c5:=by kernel_rfl
 c9:=by kernel_rfl
 c20:=by kernel_rfl
 c21:=by kernel_rfl
 c37:=by kernel_rfl
 c46:=by kernel_rfl
 c51:=by kernel_rfl
 c53:=by kernel_rfl
 c75:=by kernel_rfl
 c76:=by kernel_rfl
 c80:=by kernel_rfl
 c85:=by kernel_rfl
 c127:=by kernel_rfl
 c143:=by kernel_rfl
 c145:=by kernel_rfl
 c167:=by kernel_rfl
 c168:=by kernel_rfl
 c171:=by kernel_rfl
 c173:=by kernel_rfl
 c175:=by kernel_rfl
 c210:=by kernel_rfl
 c212:=by kernel_rfl
 c213:=by kernel_rfl
 c232:=by kernel_rfl
 c233:=by kernel_rfl }
open Go.RowKit in
theorem Tryz.strconv_Atoi_ok (s:ByteArray)(GQ:s.size≤9223372036854775806)(v:Int)(h:Lib.atoiAll s.data.toList = .ok v)(w:World) :
 Calls Tryz.prog 163 #[.string s] w fun e w'=>e = .returned (.tuple #[.int .i64 v,.nilIface])∧(w'=w∨∃t,w'=Lib.bytesWorld w 5 t):=Any.strconv_Atoi_ok Tryz.Tk s GQ v h w
open Go.RowKit in
open Go.RowKit in
theorem Tryz.strconv_Atoi_range (s:ByteArray)(ab4:s.size≤281474976710656)(h:Lib.atoiAll s.data.toList = .range)(ev:Value)(w:World)(hv:w.cell? ⟨8,0,none⟩=some ev)(hev:ev = .nilIface∨∃te pe,ev = .iface te pe) :
 Calls Tryz.prog 163 #[.string s] w fun e w'=>∃N,e = .returned (.tuple #[.int .i64 (Lib.atoiSat s.data.toList),.iface 196 (.pointer (some ⟨N,0,none⟩))])∧w.heap.size≤N∧w'.heap[N]? = some (.cells #[.string ⟨#[65,116,111,105]⟩,.string s,ev] 213 (0,0))∧Below w.heap.size w w':=Any.strconv_Atoi_range Tryz.Tk s ab4 h ev w hv hev
def Tryz.ady:Go.Shelf.Ren:=⟨fun|99=>176|206=>198|n=>n,fun|9=>9|4=>4|3=>3|n=>n,fun|n=>n⟩
theorem Tryz.adx:Go.Proofs.Lays.n99 Tryz.prog Tryz.ady:={
 mixed:=by kernel_rfl
 f99:=Tryz.func176.trans (congrArg some (by kernel_rfl))
 f206:=Tryz.func198.trans (congrArg some (by kernel_rfl))
 t3:=Tryz.underlying3
 a3:=Tryz.isAgg3
 z3:=Tryz.sizeOf3
 v3:=Tryz.zeroValue3
 t4:=Tryz.underlying4
 a4:=Tryz.isAgg4
 z4:=Tryz.sizeOf4
 v4:=Tryz.zeroValue4
 t9:=Tryz.underlying9
 a9:=Tryz.isAgg9
 z9:=Tryz.sizeOf9
 v9:=Tryz.zeroValue9 }
open Go.RowKit Go.Lib in
theorem Tryz.strings_HasPrefix (s p:ByteArray)(w:World) :
 Calls Tryz.prog 176 #[.string s,.string p] w fun e w'=>e = .returned (.bool (Lib.hasPrefix s.data.toList p.data.toList))∧w'=w:=Any.strings_HasPrefix Tryz.adx s p w
end Go.Proofs
namespace Go.Proofs.YtbplbjmmfgjdjaaGreatDoor
open Go.RowKit
variable {s:ByteArray}{c:Int}{b k:Nat}{r:Option Nat}{a w:World}{t:ah}
theorem Cx (s:ByteArray)(a m:Nat):sb (s.extract a (a+m))=((sb s).drop a).take m:=by
 unfold sb;rw[← List.map_drop, ← List.map_take];congr 1;rw[ByteArray.data_extract,Array.toList_extract];rw[List.extract_eq_take_drop];congr 1;omega
def aL(s:ByteArray)(k:Nat):List Int:=(sb s).drop k
theorem oF(s:ByteArray)(k:Nat):(aL s k).length=s.size - k:=by unfold aL;rw[lq,bC]
theorem zR(s:ByteArray)(k m:Nat)(h:k+m<s.size):(aL s k)[m]? = some ((s[k+m].toNat:Nat):Int):=by unfold aL;rw[List.getElem?_drop,qN s _ h]
theorem Nv (s:ByteArray)(k m:Nat)(h:k+m<s.size):(aL s k).take (m+1)=(aL s k).take m++[((s[k+m].toNat:Nat):Int)]:=by
 rw[List.take_add_one,zR s k m h];rfl
theorem Fa (s:ByteArray)(k m:Nat):s.extract k (k+m)=strOfNums ((aL s k).take m):=by
 rw[← nA (s.extract k (k+m)),Cx];rfl
theorem Vx(s:ByteArray)(k m:Nat):(aL s k).drop m=aL s (k+m):=by unfold aL;rw[List.drop_drop]
theorem Nu(s:ByteArray)(k:Nat):Bytes (aL s k):=fun a ha=>uS s a (List.mem_of_mem_drop ha)
def nN(b n:Nat)(w:World):Nat:=n - (match w.cell? ⟨b,1,none⟩with|some (.int _ m)=>m.toNat|_=>0)
theorem bZ.nN (h:bZ w b s k)(n:Nat):nN b n w=n - k:=by
 unfold Go.Proofs.YtbplbjmmfgjdjaaGreatDoor.nN;rw[h.facts.2];rfl
def Gq (p:Int→Bool)(s:ByteArray)(b k:Nat)(w:World)(e:Ending)(w':World):Prop :=
 w.grownBy w' (some b)∧e = .returned (.string (strOfNums ((aL s k).takeWhile p)))∧bZ w' b s (k+((aL s k).takeWhile p).length)
theorem Dq {p:Int→Bool}{m:Nat}{wr:World}(hg:w.grownBy wr (some b))(aX:∀x∈(aL s k).take m,p x=true)(Bh:∀x,(aL s k)[m]? = some x→p x=false)(hm:k+m≤s.size)
 (hr:bZ wr b s (k+m)) (e:Ending) (he:e = .returned (.string (s.extract k (k+m)))):Gq p s b k w e wr:=by
 have hsp:=BK p (aL s k) m aX Bh;have hlen:((aL s k).take m).length=m:=by rw[gW,oF];omega
 refine⟨hg, ?_, ?_⟩
 · rw[hsp,he,Fa]
 · rw[hsp,hlen];exact hr
theorem ajN (b:Nat)(s:ByteArray)(k:Nat)(w:World)(h:bZ w b s k)(_hs:s.size≤1000000)(_hk:k≤s.size) :
 Calls Tryz.prog 120 #[.pointer (some ⟨b,0,none⟩),.func (.func 121) #[] #[]] w (Gq oZ s b k w):=by
 have HR:=ae h;obtain⟨c0,c1⟩:=h.facts;clear h;go_enter Tryz.func120,Tryz.ntmps120;go_wp2_with fail
 clear c0 c1
 go_loopw [] (fun wr=>∃m:Nat,k+m≤s.size∧Hid (∀x∈(aL s k).take m,oZ x=true)∧Hid (bZ wr b s (k+m))∧Hid (w.grownBy wr (some b)))
  (fun wr=>nN b s.size wr)
 case atStart=>exact⟨0,by omega,ae (by simp),HR,ae (grownBy.fT _ _)⟩
 case round =>
  obtain⟨m,dL,HM,fM,HG⟩:=hrel;obtain⟨c0,c1⟩:=fM.o.facts;have f1:=fM.o.frozen 1;obtain⟨p,hp⟩:∃p:Nat,k+m=p:=⟨_,rfl⟩;rw[hp]at c1;have hz1:(0:Int)≤(k:Int):=by omega
  have hz2:(k:Int)≤(p:Int):=by omega
  have hz3:(p:Int)≤(s.size:Int):=by omega
  have EK:(0:Int)≤(p:Int):=by omega
  by_cases hlt:p<s.size
  · have lH:(p:Int)<(s.size:Int):=by omega
    obtain⟨a,ha⟩:∃a:Int,(s[p].toNat:Int)=a:=⟨_,rfl⟩;have ha1:0≤a∧a≤255:=by have:=s[p].toNat_lt;omega
    have hnx:(aL s k).take (m+1)=(aL s k).take m++[a]:=by subst hp;rw[Nv s k m hlt,ha]
    have hat:(aL s k)[m]? = some a:=by subst hp;rw[zR s k m hlt,ha]
    have eu:=ae hnx;clear hnx;have HAT:=ae hat;clear hat;have HP:=ae hp;clear hp;by_cases hc:oZ a=true
    · have aX:=ru HM.o hc
      rw[← eu.o]at aX;have lv:=ae aX;clear aX;go_wp2_with fail
      go_quiet ((go_at_call 121;exact tF (Tv _ (by omega) (by omega) _)))
      go_wp2_with fail
      go_roundw
      case rel =>
       refine⟨m+1,by have:=HP.o;omega,lv,ae ?_,ae (grownBy.gU (grownBy.fO HG.o _) _ _)⟩;rw[show k+(m+1)=p+1 from by have:=HP.o;omega];exact(fM.o.drewN _).uU (p+1)
      case measure =>
       have h1:=((fM.o.drewN nq).uU (p+1)).nN s.size;have h2:=fM.o.nN s.size;have h3:=HP.o;rw[h2];refine Nat.lt_of_le_of_lt (Nat.le_of_eq h1) (by omega)
    · have hc':oZ a=false:=by simpa using hc
      clear hc;go_wp2_with fail
      go_quiet ((go_at_call 121;exact tF (Tv _ (by omega) (by omega) _)))
      go_wp2_with fail
      go_quiet (fail)
      go_wp2_with fail
      go_ret;have h3:=HP.o;exact Dq (grownBy.fO (grownBy.fO HG.o _) _) HM.o (fun x hx=>by rw[HAT.o]at hx;injection hx with hx;rw[← hx];exact hc') (by omega) ((fM.o.drewN _).drewN _) _ (by rw[h3];rfl)
  · have lH:¬ (p:Int)<(s.size:Int):=by omega
    have HP:=ae hp;clear hp;go_wp2_with fail
    go_quiet (fail)
    go_wp2_with fail
    go_quiet (fail)
    go_wp2_with fail
    go_ret;have h3:=HP.o;exact Dq (grownBy.fO (grownBy.fO HG.o _) _) HM.o (fun x hx=>by have h1:=(eQ.1 hx).1;rw[oF]at h1;omega) (by omega) ((fM.o.drewN _).drewN _) _ (by rw[h3];rfl)
theorem ajO (b:Nat)(s:ByteArray)(k:Nat)(w:World)(h:bZ w b s k)(_hs:s.size≤1000000)(_hk:k≤s.size) :
 Calls Tryz.prog 120 #[.pointer (some ⟨b,0,none⟩),.func (.func 145) #[] #[]] w (Gq isNum s b k w):=by
 have HR:=ae h;obtain⟨c0,c1⟩:=h.facts;clear h;go_enter Tryz.func120,Tryz.ntmps120;go_wp2_with fail
 clear c0 c1
 go_loopw [] (fun wr=>∃m:Nat,k+m≤s.size∧Hid (∀x∈(aL s k).take m,isNum x=true)∧Hid (bZ wr b s (k+m))∧Hid (w.grownBy wr (some b)))
  (fun wr=>nN b s.size wr)
 case atStart=>exact⟨0,by omega,ae (by simp),HR,ae (grownBy.fT _ _)⟩
 case round =>
  obtain⟨m,dL,HM,fM,HG⟩:=hrel;obtain⟨c0,c1⟩:=fM.o.facts;have f1:=fM.o.frozen 1;obtain⟨p,hp⟩:∃p:Nat,k+m=p:=⟨_,rfl⟩;rw[hp]at c1;have hz1:(0:Int)≤(k:Int):=by omega
  have hz2:(k:Int)≤(p:Int):=by omega
  have hz3:(p:Int)≤(s.size:Int):=by omega
  have EK:(0:Int)≤(p:Int):=by omega
  by_cases hlt:p<s.size
  · have lH:(p:Int)<(s.size:Int):=by omega
    obtain⟨a,ha⟩:∃a:Int,(s[p].toNat:Int)=a:=⟨_,rfl⟩;have ha1:0≤a∧a≤255:=by have:=s[p].toNat_lt;omega
    have hnx:(aL s k).take (m+1)=(aL s k).take m++[a]:=by subst hp;rw[Nv s k m hlt,ha]
    have hat:(aL s k)[m]? = some a:=by subst hp;rw[zR s k m hlt,ha]
    have eu:=ae hnx;clear hnx;have HAT:=ae hat;clear hat;have HP:=ae hp;clear hp;by_cases hc:isNum a=true
    · have aX:=ru HM.o hc
      rw[← eu.o]at aX;have lv:=ae aX;clear aX;go_wp2_with fail
      go_quiet ((go_at_call 145;exact tF (wu _ (by omega) (by omega) _)))
      go_wp2_with fail
      go_roundw
      case rel =>
       refine⟨m+1,by have:=HP.o;omega,lv,ae ?_,ae (grownBy.gU (grownBy.fO HG.o _) _ _)⟩;rw[show k+(m+1)=p+1 from by have:=HP.o;omega];exact(fM.o.drewN _).uU (p+1)
      case measure =>
       have h1:=((fM.o.drewN nq).uU (p+1)).nN s.size;have h2:=fM.o.nN s.size;have h3:=HP.o;rw[h2];refine Nat.lt_of_le_of_lt (Nat.le_of_eq h1) (by omega)
    · have hc':isNum a=false:=by simpa using hc
      clear hc;go_wp2_with fail
      go_quiet ((go_at_call 145;exact tF (wu _ (by omega) (by omega) _)))
      go_wp2_with fail
      go_quiet (fail)
      go_wp2_with fail
      go_ret;have h3:=HP.o;exact Dq (grownBy.fO (grownBy.fO HG.o _) _) HM.o (fun x hx=>by rw[HAT.o]at hx;injection hx with hx;rw[← hx];exact hc') (by omega) ((fM.o.drewN _).drewN _) _ (by rw[h3];rfl)
  · have lH:¬ (p:Int)<(s.size:Int):=by omega
    have HP:=ae hp;clear hp;go_wp2_with fail
    go_quiet (fail)
    go_wp2_with fail
    go_quiet (fail)
    go_wp2_with fail
    go_ret;have h3:=HP.o;exact Dq (grownBy.fO (grownBy.fO HG.o _) _) HM.o (fun x hx=>by have h1:=(eQ.1 hx).1;rw[oF]at h1;omega) (by omega) ((fM.o.drewN _).drewN _) _ (by rw[h3];rfl)
theorem ajP (b:Nat)(s:ByteArray)(k:Nat)(w:World)(h:bZ w b s k)(_hs:s.size≤1000000)(_hk:k≤s.size) :
 Calls Tryz.prog 120 #[.pointer (some ⟨b,0,none⟩),.func (.func 166) #[] #[]] w (Gq isWord s b k w):=by
 have HR:=ae h;obtain⟨c0,c1⟩:=h.facts;clear h;go_enter Tryz.func120,Tryz.ntmps120;go_wp2_with fail
 clear c0 c1
 go_loopw [] (fun wr=>∃m:Nat,k+m≤s.size∧Hid (∀x∈(aL s k).take m,isWord x=true)∧Hid (bZ wr b s (k+m))∧Hid (w.grownBy wr (some b)))
  (fun wr=>nN b s.size wr)
 case atStart=>exact⟨0,by omega,ae (by simp),HR,ae (grownBy.fT _ _)⟩
 case round =>
  obtain⟨m,dL,HM,fM,HG⟩:=hrel;obtain⟨c0,c1⟩:=fM.o.facts;have f1:=fM.o.frozen 1;obtain⟨p,hp⟩:∃p:Nat,k+m=p:=⟨_,rfl⟩;rw[hp]at c1;have hz1:(0:Int)≤(k:Int):=by omega
  have hz2:(k:Int)≤(p:Int):=by omega
  have hz3:(p:Int)≤(s.size:Int):=by omega
  have EK:(0:Int)≤(p:Int):=by omega
  by_cases hlt:p<s.size
  · have lH:(p:Int)<(s.size:Int):=by omega
    obtain⟨a,ha⟩:∃a:Int,(s[p].toNat:Int)=a:=⟨_,rfl⟩;have ha1:0≤a∧a≤255:=by have:=s[p].toNat_lt;omega
    have hnx:(aL s k).take (m+1)=(aL s k).take m++[a]:=by subst hp;rw[Nv s k m hlt,ha]
    have hat:(aL s k)[m]? = some a:=by subst hp;rw[zR s k m hlt,ha]
    have eu:=ae hnx;clear hnx;have HAT:=ae hat;clear hat;have HP:=ae hp;clear hp;by_cases hc:isWord a=true
    · have aX:=ru HM.o hc
      rw[← eu.o]at aX;have lv:=ae aX;clear aX;go_wp2_with fail
      go_quiet ((go_at_call 166;exact tF (S9 _ (by omega) (by omega) _)))
      go_wp2_with fail
      go_roundw
      case rel =>
       refine⟨m+1,by have:=HP.o;omega,lv,ae ?_,ae (grownBy.gU (grownBy.fO HG.o _) _ _)⟩;rw[show k+(m+1)=p+1 from by have:=HP.o;omega];exact(fM.o.drewN _).uU (p+1)
      case measure =>
       have h1:=((fM.o.drewN nq).uU (p+1)).nN s.size;have h2:=fM.o.nN s.size;have h3:=HP.o;rw[h2];refine Nat.lt_of_le_of_lt (Nat.le_of_eq h1) (by omega)
    · have hc':isWord a=false:=by simpa using hc
      clear hc;go_wp2_with fail
      go_quiet ((go_at_call 166;exact tF (S9 _ (by omega) (by omega) _)))
      go_wp2_with fail
      go_quiet (fail)
      go_wp2_with fail
      go_ret;have h3:=HP.o;exact Dq (grownBy.fO (grownBy.fO HG.o _) _) HM.o (fun x hx=>by rw[HAT.o]at hx;injection hx with hx;rw[← hx];exact hc') (by omega) ((fM.o.drewN _).drewN _) _ (by rw[h3];rfl)
  · have lH:¬ (p:Int)<(s.size:Int):=by omega
    have HP:=ae hp;clear hp;go_wp2_with fail
    go_quiet (fail)
    go_wp2_with fail
    go_quiet (fail)
    go_wp2_with fail
    go_ret;have h3:=HP.o;exact Dq (grownBy.fO (grownBy.fO HG.o _) _) HM.o (fun x hx=>by have h1:=(eQ.1 hx).1;rw[oF]at h1;omega) (by omega) ((fM.o.drewN _).drewN _) _ (by rw[h3];rfl)
theorem Wm (b:Nat)(s:ByteArray)(k:Nat)(w:World)(h:bZ w b s k)(_hs:s.size≤1000000)(_hk:k≤s.size) :
 Calls Tryz.prog 90 #[.pointer (some ⟨b,0,none⟩)] w fun e w'=>w.grownBy w' (some b)∧e = .returned (.tuple #[])∧bZ w' b s (k+((aL s k).takeWhile oZ).length):=by
 have HW:=ae (ajN b s k w h _hs _hk);clear h;go_enter Tryz.func90,Tryz.ntmps90;go_wp2_with (go_at_call 120;((with_reducible refine HW.o.mono ?_);rintro e w1 ⟨h1,rfl,h2⟩;have H1:=ae h1;have H2:=ae h2;clear h1 h2))
 first
  | exact bodyPost_ret (results_none rfl _ _ _) rfl ⟨H1.o,rfl,H2.o⟩
  | (go_end0;exact⟨H1.o,rfl,H2.o⟩)
def kV(p l:List Int):Bool:=decide (l.take p.length=p)
theorem Rv:∀(l p:List UInt8),Lib.hasPrefix l p=kV (p.map fun x=>(x.toNat:Int)) (l.map fun x=>(x.toNat:Int))
 | l,[]=>by unfold Lib.hasPrefix kV;simp
 | [],x :: p=>by unfold Lib.hasPrefix kV;simp
 | y :: l,x :: p=>by
   have ih:=Rv l p;unfold Lib.hasPrefix kV at ih ⊢;rw[List.isPrefixOf_cons_cons,ih];simp only[jr,bf,List.take_succ_cons,List.cons.injEq];rw[Bool.eq_iff_iff,dJ,bB,aQ,aQ];refine and_congr ⟨fun h=>by rw[h],fun h => ?_⟩ Iff.rfl;apply UInt8.toNat_inj.1;omega
theorem abD {p l:List Int}(h:kV p l=true):p.length≤l.length:=by
 unfold kV at h;rw[aQ]at h;have:=congrArg List.length h;rw[gW]at this;omega
theorem UT (s t:ByteArray)(k:Nat):Lib.hasPrefix (s.extract k s.size).data.toList t.data.toList=kV (sb t) (aL s k):=by
 rw[Rv];show kV (sb t) (sb (s.extract k s.size))=_;congr 1;by_cases hk:k≤s.size
 · have:=Cx s k (s.size - k)
   rw[show k+(s.size - k)=s.size from by omega]at this;rw[this];unfold aL;rw[mP];rw[lq,bC];omega
 · have h1:(sb (s.extract k s.size)).length=0:=by rw[bC,ByteArray.size_extract];omega
   have h2:(aL s k).length=0:=by rw[oF];omega
   rw[kM h1,kM h2]
theorem WL (b:Nat)(s t:ByteArray)(k:Nat)(w:World)(h:bZ w b s k)(_hs:s.size≤1000000)(_hk:k≤s.size)(_ht:t.size≤1000000) :
 Calls Tryz.prog 164 #[.pointer (some ⟨b,0,none⟩),.string t] w fun e w'=>w.grownBy w' (some b)∧e = .returned (.bool (kV (sb t) (aL s k)))∧bZ w' b s (if kV (sb t) (aL s k)=true then k+t.size else k):=by
 obtain⟨c0,c1⟩:=h.facts;have f1:=h.frozen 1;have HR:=ae h;clear h;have hz1:(0:Int)≤(k:Int):=by omega
 have hz2:(k:Int)≤(s.size:Int):=by omega
 cases hq:kV (sb t) (aL s k)
 · have HP:=ae (UT s t k);rw[hq]at HP
   go_enter Tryz.func164,Tryz.ntmps164;go_wp2_with fail
   go_quiet ((go_at_call 176;exact Calls.quiet_of_same ((Tryz.strings_HasPrefix _ _ _).mono (fun _ _ ⟨a,c⟩=>⟨by rw[a,HP.o],c⟩))))
   go_wp2_with fail
   go_ret;exact⟨grownBy.fO (grownBy.fT _ _) _,rfl,HR.o.drewN _⟩
 · have HP:=ae (UT s t k);rw[hq]at HP
   have hle:=abD hq;rw[oF,bC]at hle;go_enter Tryz.func164,Tryz.ntmps164;go_wp2_with fail
   go_quiet ((go_at_call 176;exact Calls.quiet_of_same ((Tryz.strings_HasPrefix _ _ _).mono (fun _ _ ⟨a,c⟩=>⟨by rw[a,HP.o],c⟩))))
   go_wp2_with fail
   go_ret;exact⟨grownBy.gU (grownBy.fO (grownBy.fT _ _) _) _ _,rfl,(HR.o.drewN _).uU (k+t.size)⟩
def yD(l:List Int):Bool:=decide (∀x∈l,(aU x||isNum x)=true)&&decide (l.length≤12)
theorem ae9 (s:ByteArray)(k:Nat)(h:k<s.size)(hx:(aU ((sb s).getD k 0)||isNum ((sb s).getD k 0))=false):yD (sb s)=false:=by
 unfold yD;rw[Bool.and_eq_false_iff];left;rw[jv];intro aX;have:=aX ((sb s).getD k 0) (by rw[uT s k h];exact fe (qN s k h));rw[hx]at this;cases this
theorem ae8 (s:ByteArray)(h:∀j,j<s.size→(aU ((sb s).getD j 0)||isNum ((sb s).getD j 0))=true):yD (sb s)=decide (s.size≤12):=by
 unfold yD;rw[aR (show ∀x∈sb s,(aU x||isNum x)=true from ?_),gV,bC];intro x hx;obtain⟨j,hj,rfl⟩:=List.mem_iff_getElem.1 hx;have:=h j (by rw[bC]at hj;exact hj);rw[kg,cZ hj]at this;exact this
theorem acU (s:ByteArray)(w:World)(_hs:s.size≤1000000) :
 Calls Tryz.prog 168 #[.string s] w fun e w'=>e = .returned (.bool (yD (sb s)))∧w=w':=by
 go_enter Tryz.func168,Tryz.ntmps168;go_wp2_with fail
 go_loopw [6] (fun i wr=>∃k:Nat,k≤s.size∧i = .int .i64 k∧Hid (∀j,j<k→(aU ((sb s).getD j 0)||isNum ((sb s).getD j 0))=true)∧w=wr)
  (fun i _=>s.size - (intOf i).toNat)
 case atStart=>exact⟨0,by omega,rfl,ae (by intro j hj;omega),rfl⟩
 case round =>
  obtain⟨k,hk,rfl,HG,rfl⟩:=hrel;by_cases hlt:k<s.size
  · have hki:(k:Int)<(s.size:Int):=by omega
    obtain⟨a,ha⟩:∃a:Int,(s[k].toNat:Int)=a:=⟨_,rfl⟩;have ha1:0≤a∧a≤255:=by have:=s[k].toNat_lt;omega
    have xK:=ae (show(sb s).getD k 0=a by rw[uT s k hlt,ha])
    have ED:(aU a||isNum a)=true→∀j,j<k+1→(aU ((sb s).getD j 0)||isNum ((sb s).getD j 0))=true:=by
     intro h j hj;by_cases h1:j<k
     · exact HG.o j h1
     · rw[show j=k from by omega,xK.o];exact h
    have DZ:=ae ED;clear ED;cases hc:aU a
    · cases hn:isNum a
      · have dR:=ae (ae9 s k hlt (by rw[xK.o,hc,hn];rfl))
        go_wp2_with (first
         | (go_at_call 165;((with_reducible refine(ER _ ?_ ?_ _).mono ?_);(try omega);(try omega);rintro e w' ⟨rfl,rfl⟩;rw[hc]))
         | (go_at_call 145;((with_reducible refine(wu _ ?_ ?_ _).mono ?_);(try omega);(try omega);rintro e w' ⟨rfl,rfl⟩;rw[hn])))
        go_ret;exact⟨gu dR.o.symm,rfl⟩
      · go_wp2_with (first
         | (go_at_call 165;((with_reducible refine(ER _ ?_ ?_ _).mono ?_);(try omega);(try omega);rintro e w' ⟨rfl,rfl⟩;rw[hc]))
         | (go_at_call 145;((with_reducible refine(wu _ ?_ ?_ _).mono ?_);(try omega);(try omega);rintro e w' ⟨rfl,rfl⟩;rw[hn])))
        go_roundw
        case rel=>exact⟨k+1,by omega,by go_num,ae (DZ.o (by rw[hc,hn];rfl)),by trivial⟩
        case measure=>simp[intOf];omega
    · go_wp2_with (first
       | (go_at_call 165;((with_reducible refine(ER _ ?_ ?_ _).mono ?_);(try omega);(try omega);rintro e w' ⟨rfl,rfl⟩;rw[hc])))
      go_roundw
      case rel=>exact⟨k+1,by omega,by go_num,ae (DZ.o (by rw[hc];rfl)),by trivial⟩
      case measure=>simp[intOf];omega
  · have hki:¬ (k:Int)<(s.size:Int):=by omega
    have HA:=ae (ae8 s (fun j hj=>HG.o j (by omega)));go_wp2_with fail
    go_ret;refine⟨gu (by rw[HA.o,decide_eq_decide];omega),rfl⟩
def qI(c:Int):FuncId:=if isNum c=true then 146 else if c=34 then 147 else if c=35 then 148 else if oD c=true then 150 else 151
theorem T9(h:isNum c=true):qI c=146:=by unfold qI;rw[ag h]
theorem Ua(h:isNum c=false)(h1:c=34):qI c=147:=by unfold qI;rw[af (by simp[h]),ag h1]
theorem TY(h:isNum c=false)(h1:¬ c=34)(h2:c=35):qI c=148:=by unfold qI;rw[af (by simp[h]),af h1,ag h2]
theorem Uc(h:isNum c=false)(h1:¬ c=34)(h2:¬ c=35)(h3:oD c=true):qI c=150:=by unfold qI;rw[af (by simp[h]),af h1,af h2,ag h3]
theorem Ub(h:isNum c=false)(h1:¬ c=34)(h2:¬ c=35)(h3:oD c=false):qI c=151:=by unfold qI;rw[af (by simp[h]),af h1,af h2,af (by simp[h3])]
theorem aet (c:Int)(_h0:0≤c)(_h1:c≤255)(w:World) :
 Calls Tryz.prog 122 #[.int .u8 c] w fun e w'=>e = .returned (.func (.func (qI c)) #[] #[])∧w=w':=by
 cases hn:isNum c
 · by_cases h34:c=34
   · have HM:=ae (Ua hn h34)
     have hb1:(c == 34)=true:=bB.2 h34;clear h34;go_enter Tryz.func122,Tryz.ntmps122
     go_wp2_with (first
      | (go_at_call 145;((with_reducible refine(wu _ ?_ ?_ _).mono ?_);(try omega);(try omega);rintro e w' ⟨rfl,rfl⟩;rw[hn]))
      | (go_at_call 149;((with_reducible refine(zn _ ?_ ?_ _).mono ?_);(try omega);(try omega);rintro e w' ⟨rfl,rfl⟩;rw[hb])))
     all_goals go_ret
     all_goals exact⟨by rw[HM.o];rfl,rfl⟩
   · have hb1:(c == 34)=false:=aA.2 h34
     by_cases h35:c=35
     · have HM:=ae (TY hn h34 h35)
       have hb2:(c == 35)=true:=bB.2 h35;clear h34 h35;go_enter Tryz.func122,Tryz.ntmps122
       go_wp2_with (first
        | (go_at_call 145;((with_reducible refine(wu _ ?_ ?_ _).mono ?_);(try omega);(try omega);rintro e w' ⟨rfl,rfl⟩;rw[hn]))
        | (go_at_call 149;((with_reducible refine(zn _ ?_ ?_ _).mono ?_);(try omega);(try omega);rintro e w' ⟨rfl,rfl⟩;rw[hb])))
       all_goals go_ret
       all_goals exact⟨by rw[HM.o];rfl,rfl⟩
     · have hb2:(c == 35)=false:=aA.2 h35
       cases hb:oD c
       · have HM:=ae (Ub hn h34 h35 hb)
         clear h34 h35;go_enter Tryz.func122,Tryz.ntmps122
         go_wp2_with (first
          | (go_at_call 145;((with_reducible refine(wu _ ?_ ?_ _).mono ?_);(try omega);(try omega);rintro e w' ⟨rfl,rfl⟩;rw[hn]))
          | (go_at_call 149;((with_reducible refine(zn _ ?_ ?_ _).mono ?_);(try omega);(try omega);rintro e w' ⟨rfl,rfl⟩;rw[hb])))
         all_goals go_ret
         all_goals exact⟨by rw[HM.o];rfl,rfl⟩
       · have HM:=ae (Uc hn h34 h35 hb)
         clear h34 h35;go_enter Tryz.func122,Tryz.ntmps122
         go_wp2_with (first
          | (go_at_call 145;((with_reducible refine(wu _ ?_ ?_ _).mono ?_);(try omega);(try omega);rintro e w' ⟨rfl,rfl⟩;rw[hn]))
          | (go_at_call 149;((with_reducible refine(zn _ ?_ ?_ _).mono ?_);(try omega);(try omega);rintro e w' ⟨rfl,rfl⟩;rw[hb])))
         all_goals go_ret
         all_goals exact⟨by rw[HM.o];rfl,rfl⟩
 · have HM:=ae (T9 hn)
   go_enter Tryz.func122,Tryz.ntmps122
   go_wp2_with (first
    | (go_at_call 145;((with_reducible refine(wu _ ?_ ?_ _).mono ?_);(try omega);(try omega);rintro e w' ⟨rfl,rfl⟩;rw[hn]))
    | (go_at_call 149;((with_reducible refine(zn _ ?_ ?_ _).mono ?_);(try omega);(try omega);rintro e w' ⟨rfl,rfl⟩;skip)))
   all_goals go_ret
   all_goals exact⟨by rw[HM.o];rfl,rfl⟩
def pK (o:Option (ah × Nat))(b:Nat)(s:ByteArray)(k:Nat)(w:World)(e:Ending)(w':World):Prop :=
 w.grownBy w' (some b)∧((∃t n,o=some (t,n)∧e = .returned (.tuple #[.agg (qh t),.bool true])∧bZ w' b s (k+n))∨(o=none∧∃t,e = .returned (.tuple #[.agg (qh t),.bool false])))
theorem grownBy.uV (h:a.grownBy w r)(ad:Addr)(v:Value)(hg:a.heap.size≤ad.block):a.grownBy (w.setCell ad v) r :=
 ⟨h.os,h.tape,h.output,by simpa using h.size,fun j hj hr=>by
  rw[gy _ _ _ _ (by intro e;omega)];exact h.block j hj hr⟩
theorem grownBy.kY {g:Nat}(h:a.grownBy w r)(hg:a.heap.size≤g)(v0 v1 v2 v3 v4 v5 v6 v7 v8:Value) :
 a.grownBy (((((((((w.setCell ⟨g,0,none⟩ v0).setCell ⟨g,1,none⟩ v1).setCell ⟨g,2,none⟩ v2).setCell ⟨g,3,none⟩ v3).setCell ⟨g,4,none⟩ v4).setCell ⟨g,5,none⟩ v5).setCell ⟨g,6,none⟩ v6).setCell ⟨g,7,none⟩ v7).setCell ⟨g,8,none⟩ v8) r :=
 grownBy.uV (grownBy.uV (grownBy.uV (grownBy.uV (grownBy.uV (grownBy.uV (grownBy.uV (grownBy.uV (grownBy.uV (h) _ _ hg) _ _ hg) _ _ hg) _ _ hg) _ _ hg) _ _ hg) _ _ hg) _ _ hg) _ _ hg
theorem bZ.other (h:bZ w b s k)(ad:Addr)(v:Value)(hne:ad.block≠b):bZ (w.setCell ad v) b s k:=by
 unfold bZ;rw[gy _ _ _ _ (by intro e;exact hne e.symm)];exact h
theorem bZ.kY {g:Nat}(h:bZ w b s k)(hg:g≠b)(v0 v1 v2 v3 v4 v5 v6 v7 v8:Value) :
 bZ (((((((((w.setCell ⟨g,0,none⟩ v0).setCell ⟨g,1,none⟩ v1).setCell ⟨g,2,none⟩ v2).setCell ⟨g,3,none⟩ v3).setCell ⟨g,4,none⟩ v4).setCell ⟨g,5,none⟩ v5).setCell ⟨g,6,none⟩ v6).setCell ⟨g,7,none⟩ v7).setCell ⟨g,8,none⟩ v8) b s k :=
 ((((((((h.other _ _ hg).other _ _ hg).other _ _ hg).other _ _ hg).other _ _ hg).other _ _ hg).other _ _ hg).other _ _ hg).other _ _ hg
theorem aN.cells (h:aN w b t):w.cell? ⟨b,0,none⟩=some (.int .i64 t.kind)∧w.cell? ⟨b,1,none⟩=some (.string t.text)∧w.cell? ⟨b,2,none⟩=some (.int .i64 t.num)∧w.cell? ⟨b,3,none⟩=some (.string t.sh)∧w.cell? ⟨b,4,none⟩=some (.int .i64 t.c)∧w.cell? ⟨b,5,none⟩=some (.int .i64 t.r)∧w.cell? ⟨b,6,none⟩=some (.bool t.ac)∧w.cell? ⟨b,7,none⟩=some (.bool t.ar)∧w.cell? ⟨b,8,none⟩=some (.int .i64 t.pos) :=
 ⟨by rw[cell_of_row w b 0 _ _ _ h];rfl,by rw[cell_of_row w b 1 _ _ _ h];rfl,by rw[cell_of_row w b 2 _ _ _ h];rfl,by rw[cell_of_row w b 3 _ _ _ h];rfl,by rw[cell_of_row w b 4 _ _ _ h];rfl,by rw[cell_of_row w b 5 _ _ _ h];rfl,by rw[cell_of_row w b 6 _ _ _ h];rfl,by rw[cell_of_row w b 7 _ _ _ h];rfl,by rw[cell_of_row w b 8 _ _ _ h];rfl⟩
theorem aN.bR (h:aN w b t):w.frozen? ⟨b,0,none⟩=false∧w.frozen? ⟨b,1,none⟩=false∧w.frozen? ⟨b,2,none⟩=false∧w.frozen? ⟨b,3,none⟩=false∧w.frozen? ⟨b,4,none⟩=false∧w.frozen? ⟨b,5,none⟩=false∧w.frozen? ⟨b,6,none⟩=false∧w.frozen? ⟨b,7,none⟩=false∧w.frozen? ⟨b,8,none⟩=false :=
 ⟨h.frozen 0,h.frozen 1,h.frozen 2,h.frozen 3,h.frozen 4,h.frozen 5,h.frozen 6,h.frozen 7,h.frozen 8⟩
abbrev kE:Array Value:=#[.int .i64 0,.string ⟨#[]⟩,.int .i64 0,.string ⟨#[]⟩,.int .i64 0,.int .i64 0,.bool false,.bool false,.int .i64 0]
theorem aN.zero(w:World):aN (w.alloc (.cells kE 113)) w.heap.size ah.zero:=aN.new w ah.zero
theorem aN.load (h:aN w b t):(loadVar 113 ⟨b,0,none⟩).run Tryz.prog w = .ok (.agg (qh t)) w :=
 run_loadVar_row w b 113 113 _ _ _ h Tryz.underlying113 rfl WT
theorem qa (h:aN w b t)(fn:Func)(tmps:Array Value)(ok:Bool)(p u:Tmp)(hf:fn.results=#[.cell p 113,.tmp u])(hp:tmps.getD p undef = .pointer (some ⟨b,0,none⟩))(hu:tmps.getD u undef = .bool ok) :
 (results fn tmps).run Tryz.prog w = .ok (.tuple #[.agg (qh t),.bool ok]) w:=by
 rw[results_cell_tmp hf,hp,hu];simp[asAddr,h.load,Result.andThen]
theorem aN.ahP(h:aN w b t)(x:Int):aN (w.setCell ⟨b,0,none⟩ (.int .i64 x)) b { t with kind:=x }:=by unfold aN;rw[heap_setCell_same w b 0 _ _ _ h];rfl
theorem aN.NF(h:aN w b t)(x:ByteArray):aN (w.setCell ⟨b,1,none⟩ (.string x)) b { t with text:=x }:=by unfold aN;rw[heap_setCell_same w b 1 _ _ _ h];rfl
theorem aN.NG(h:aN w b t)(x:Int):aN (w.setCell ⟨b,2,none⟩ (.int .i64 x)) b { t with num:=x }:=by unfold aN;rw[heap_setCell_same w b 2 _ _ _ h];rfl
theorem aN.ahQ(h:aN w b t)(x:ByteArray):aN (w.setCell ⟨b,3,none⟩ (.string x)) b { t with sh:=x }:=by unfold aN;rw[heap_setCell_same w b 3 _ _ _ h];rfl
theorem aN.ahR(h:aN w b t)(x:Int):aN (w.setCell ⟨b,4,none⟩ (.int .i64 x)) b { t with c:=x }:=by unfold aN;rw[heap_setCell_same w b 4 _ _ _ h];rfl
theorem aN.ahS(h:aN w b t)(x:Int):aN (w.setCell ⟨b,5,none⟩ (.int .i64 x)) b { t with r:=x }:=by unfold aN;rw[heap_setCell_same w b 5 _ _ _ h];rfl
theorem aN.ahT(h:aN w b t)(x:Bool):aN (w.setCell ⟨b,6,none⟩ (.bool x)) b { t with ac:=x }:=by unfold aN;rw[heap_setCell_same w b 6 _ _ _ h];rfl
theorem aN.ahU(h:aN w b t)(x:Bool):aN (w.setCell ⟨b,7,none⟩ (.bool x)) b { t with ar:=x }:=by unfold aN;rw[heap_setCell_same w b 7 _ _ _ h];rfl
theorem aN.ahV(h:aN w b t)(x:Int):aN (w.setCell ⟨b,8,none⟩ (.int .i64 x)) b { t with pos:=x }:=by unfold aN;rw[heap_setCell_same w b 8 _ _ _ h];rfl
theorem aN.iJ {t0:ah}(h:aN w b t0)(t:ah):aN (((((((((w.setCell ⟨b,0,none⟩ (.int .i64 t.kind)).setCell ⟨b,1,none⟩ (.string t.text)).setCell ⟨b,2,none⟩ (.int .i64 t.num)).setCell ⟨b,3,none⟩ (.string t.sh)).setCell ⟨b,4,none⟩ (.int .i64 t.c)).setCell ⟨b,5,none⟩ (.int .i64 t.r)).setCell ⟨b,6,none⟩ (.bool t.ac)).setCell ⟨b,7,none⟩ (.bool t.ar)).setCell ⟨b,8,none⟩ (.int .i64 t.pos)) b t:=by
 have h9:=(((((((((h.ahP t.kind).NF t.text).NG t.num).ahQ t.sh).ahR t.c).ahS t.r).ahT t.ac).ahU t.ar).ahV t.pos);exact h9
theorem PZ:∀(l:List UInt8)(a:Nat)(L:List Int),a<18446744073709551616→dG L=(a:Int)→(∀c∈l,48≤c.toNat∧c.toNat≤57) →
 Lib.parseUint10 a l=if dG (L++l.map fun x=>(x.toNat:Int))<18446744073709551616 then .ok (dG (L++l.map fun x=>(x.toNat:Int))).toNat else .range
 | [],a,L,ha,hL,_=>by
   simp only[List.map_nil,gL];rw[hL,ag (by omega)];unfold Lib.parseUint10;simp
 | c :: l,a,L,ha,hL,h=>by
   have hc:=h c (by simp);have hv:dG (L++[(c.toNat:Int)])=10*(a:Int)+((c.toNat:Int) - 48):=by rw[z8,hL]
   have hge:=BR (l.map fun x=>(x.toNat:Int)) (L++[(c.toNat:Int)]) (by
    intro x hx;rw[List.mem_map]at hx;obtain⟨d,hd,rfl⟩:=hx;have:=h d (by simp[hd]);unfold isNum;rw[aQ];omega) (by omega)
   have e:L++(c :: l).map (fun x=>(x.toNat:Int))=L++[(c.toNat:Int)]++l.map fun x=>(x.toNat:Int):=by simp
   rw[e];unfold Lib.parseUint10;rw[ag hc];by_cases h1:1844674407370955162≤a
   · rw[ag h1,af (by omega)]
   · rw [af h1]
     by_cases h2:18446744073709551616≤a*10+(c.toNat - 48)
     · rw[ag h2,af (by omega)]
     · rw[af h2]
       exact PZ l (a*10+(c.toNat - 48)) (L++[(c.toNat:Int)]) (by omega) (by rw[hv];omega) (fun d hd=>h d (by simp[hd]))
theorem Zh (D:ByteArray)(h0:sb D≠[])(h:∀x∈sb D,isNum x=true):Lib.atoiAll D.data.toList=if 9223372036854775807<dG (sb D)then .range else .ok (dG (sb D)):=by
 have hsb:sb D=D.data.toList.map fun x=>(x.toNat:Int):=rfl
 have mJ:=BR (sb D) [] h (by decide);rw[gX,show dG []=0 from rfl]at mJ;rw[hsb]at h0 h mJ ⊢;cases hl:D.data.toList with
 | nil=>rw[hl]at h0;exact absurd rfl h0
 | cons c r =>
   rw[hl]at h mJ
   have aX:∀d∈c :: r,48≤d.toNat∧d.toNat≤57:=by
    intro d hd;have:=jE (h (d.toNat:Int) (r9 (f:=fun x:UInt8=>(x.toNat:Int)) hd));omega
   have hc:=aX c (by simp);unfold Lib.atoiAll;simp only;rw[af (by omega)];unfold Lib.parseMag;rw[af (by simp)];rw[PZ (c :: r) 0 [] (by omega) rfl aX,gX];have vX:¬ c.toNat=45:=by omega
   by_cases h1:dG ((c :: r).map fun x=>(x.toNat:Int))<18446744073709551616
   · rw [ag h1]
     simp only[vX,false_and,not_false_iff,true_and,if_false];by_cases h2:9223372036854775807<dG ((c :: r).map fun x=>(x.toNat:Int))
     · rw[ag h2,ag (by omega)]
     · rw[af h2,af (by omega)]
       congr 1;omega
   · rw[af h1,ag (by omega)]
def yQ(w:World):Prop:=∃ev,w.cell? ⟨8,0,none⟩=some ev∧(ev = .nilIface∨∃te pe,ev = .iface te pe)
theorem yQ.grown {w':World}(h:yQ w)(hg:w.grownBy w' (some b))(hb:8<b):yQ w':=by
 obtain⟨ev,h1,h2⟩:=h;refine⟨ev, ?_,h2⟩;rw[Cu hg ?_ (by intro e;have:=dM e;simp at this;omega)]
 · exact h1
 · rcases Nat.lt_or_ge 8 w.heap.size with h'|h'
   · exact h'
   · exfalso;unfold World.cell? at h1;simp only at h1;rw[Array.getElem?_eq_none h']at h1;cases h1
theorem aN.drew(h:aN w b t):aN w.drew b t:=h
theorem bZ.drew(h:bZ w b s k):bZ w.drew b s k:=h
theorem grownBy.Gz(h:a.grownBy w r):a.grownBy w.drew r:=⟨h.os,h.tape,h.output,h.size,h.block⟩
theorem Zi (D:ByteArray)(hD:D.size≤1000000)(v:Int)(h:Lib.atoiAll D.data.toList = .ok v)(w:World):Calls Tryz.prog 163 #[.string D] w fun e w'=>e = .returned (.tuple #[.int .i64 v,.nilIface])∧Below w.heap.size w w':=by
 refine(Tryz.strconv_Atoi_ok D (by omega) v h w).mono ?_;rintro e w' ⟨rfl,rfl|⟨t,rfl⟩⟩
 · exact⟨rfl,ak _ _⟩
 · exact⟨rfl,Lib.bytesWorld_below _ _ _⟩
theorem Nq:Tryz.f146.results=#[.cell 2 113,.tmp 3]:=by kernel_rfl
theorem aft (b:Nat)(s:ByteArray)(k:Nat)(w:World)(h:bZ w b s k)(_hs:s.size≤1000000)(_hk:k<s.size)(hd:isNum ((s[k].toNat:Nat):Int)=true)(hev:yQ w)(hb2:8<b) :
 Calls Tryz.prog 146 #[.pointer (some ⟨b,0,none⟩)] w (pK (lJ (aL s k)) b s k w):=by
 have hal:w.grownBy (w.alloc (.cells kE 113)) (some b):=grownBy.below' (grownBy.fT _ _) ((ak _ _).alloc (aj _) _);have h1:bZ (w.alloc (.cells kE 113)) b s k:=h.below ((ak _ _).alloc (aj _) _) h.lt;have hlt:=h.lt;have XG:=ae (hev.grown hal hb2);clear hev;obtain⟨ds,hds⟩:∃ds,(aL s k).takeWhile isNum=ds:=⟨_,rfl⟩;obtain⟨D,hD⟩:∃D,strOfNums ds=D:=⟨_,rfl⟩;have hbd:Bytes ds:=fun x hx=>Nu s k x (by rw[← hds]at hx;exact(List.takeWhile_prefix _).subset hx)
 have uI:sb D=ds:=by rw[← hD];exact jN ds hbd
 have acz:D.size=ds.length:=by rw[← bC,uI]
 have hlen:ds.length≤s.size:=by rw[← hds];have h0:=BM isNum (aL s k);rw[oF]at h0;omega
 have hW:=(ajO b s k _ h1 _hs (by omega)).mono (R':=fun e w'=>(w.alloc (.cells kE 113)).grownBy w' (some b)∧e = .returned (.string D)∧bZ w' b s (k+ds.length)) (fun e w' ⟨x1,x2,x3⟩=>⟨x1,by rw[x2,hds,hD],by rw[hds]at x3;exact x3⟩);have HW:=ae hW;clear hW h1 h;have bz:=ae hal;clear hal;have aT:=ae (aN.zero w)
 have hne:ds≠[]:=by
  have h0:=zR s k 0 (by omega);rw[← hds];cases hr:aL s k with
  | nil=>rw[hr]at h0;simp at h0
  | cons x l=>rw[hr]at h0;simp at h0;rw[List.takeWhile_cons,h0,hd];simp
 have aX:∀x∈ds,isNum x=true:=by rw[← hds];exact uW isNum _
 have hN:lJ (aL s k)=if (1<ds.length∧ds.head? = some 48)∨9223372036854775807<dG ds then none else some ({ ah.zero with kind:=1,num:=dG ds },ds.length):=by
  unfold lJ;rw[hds]
  have hh:(aL s k).head? = ds.head? := by
   have e:=take_split isNum (aL s k);rw[hds]at e;rw[← e];cases ds with
   | nil=>exact absurd rfl hne
   | cons x l=>rfl
  rw[hh]
 have hat:=Zh D (by rw[uI];exact hne) (by rw[uI];exact aX);rw[uI]at hat;have hp:=List.length_pos_iff.2 hne;have hD0:0<D.size:=by omega
 obtain⟨a,ha⟩:∃a:Int,(D[0].toNat:Int)=a:=⟨_,rfl⟩;have hhd:ds.head? = some a:=by rw[← ha, ← uI,List.head?_eq_getElem?,qN D 0 hD0]
 have hmx:D.size≤1000000:=by omega
 have HD:=ae hD;have HSD:=ae uI;have akd:=ae hlen;have lv:=ae aX;clear hne aX hbd hds hD uI hlen;have hw0:w.heap.size≠b:=by omega
 by_cases h48:1<ds.length∧ds.head? = some 48
 · rw[ag (Or.inl h48)]at hN
   have HN:=ae hN;clear hN hat;have akp:(1:Int)<(D.size:Int):=by omega
   have akq:(a == 48)=true:=by rw[hhd]at h48;exact bB.2 (dM h48.2)
   have HHD:=ae hhd;clear h48 hhd hp;go_enter Tryz.func146,Tryz.ntmps146;go_wp2_with (go_at_call 120;((with_reducible refine HW.o.mono ?_);rintro e w1 ⟨h1,rfl,h2⟩;have H1:=ae h1;have H2:=ae h2;clear h1 h2;have HT1:=ae (aT.o.grown H1.o hw0);obtain⟨x0,x1,x2,x3,x4,x5,x6,x7,av⟩:=HT1.o.cells;obtain⟨f0,f1,f2,f3,f4,f5,f6,f7,f8⟩:=HT1.o.bR))
   exact bodyPost_ret (qa (HT1.o.iJ ah.zero) _ _ false 2 3 Nq rfl rfl) rfl ⟨grownBy.kY (grownBy.trans' bz.o H1.o) (aj _) _ _ _ _ _ _ _ _ _,.inr ⟨HN.o,ah.zero,rfl⟩⟩
 · by_cases rC:9223372036854775807<dG ds
   · rw [ag (Or.inr rC)]at hN
     rw[ag rC]at hat;have HN:=ae hN;have HAT:=ae hat;clear hN hat
     have A8:(a == 48)=false∨((a == 48)=true∧¬ (1:Int)<(D.size:Int)):=by
      by_cases AV:a=48
      · refine .inr ⟨bB.2 AV,fun h1=>h48 ⟨by omega,by rw[hhd,AV]⟩⟩
      · exact .inl (aA.2 AV)
     clear h48 hhd hp rC;go_enter Tryz.func146,Tryz.ntmps146;rcases A8 with hc1|⟨hc1,hc2⟩
     all_goals go_wp2_with (first
      | (go_at_call 120;((with_reducible refine HW.o.mono ?_);rintro e w1 ⟨h1,rfl,h2⟩;have H1:=ae h1;have H2:=ae h2;clear h1 h2;obtain⟨ev,Af,HE2⟩:=XG.o.grown H1.o hb2;have Af:=ae Af;have HE2:=ae HE2))
      | (go_at_call 163;((with_reducible refine(Tryz.strconv_Atoi_range D ?_ HAT.o ev _ Af.o HE2.o).mono ?_);(try omega);rintro e w2 ⟨N,rfl, -, -,h3⟩;have H3:=ae h3;clear h3;have HT2:=ae ((aT.o.grown H1.o hw0).below H3.o (aT.o.grown H1.o hw0).lt);obtain⟨x0,x1,x2,x3,x4,x5,x6,x7,av⟩:=HT2.o.cells;obtain⟨f0,f1,f2,f3,f4,f5,f6,f7,f8⟩:=HT2.o.bR)))
     all_goals (generalize Lib.atoiSat D.data.toList=sat)
     all_goals go_region
     all_goals go_wp2_with fail
     all_goals exact bodyPost_ret (qa (HT2.o.iJ { ah.zero with kind:=1,num:=sat }).drew _ _ false 2 3 Nq rfl rfl) rfl ⟨grownBy.Gz (grownBy.kY (grownBy.below' (grownBy.trans' bz.o H1.o) H3.o) (aj _) _ _ _ _ _ _ _ _ _),.inr ⟨HN.o,{ ah.zero with kind:=1,num:=sat },rfl⟩⟩
   · rw [af (show ¬ ((1<ds.length∧ds.head? = some 48)∨9223372036854775807<dG ds)from fun h1=>h1.elim h48 rC)]at hN
     rw[af rC]at hat;obtain⟨v,hv⟩:∃v,dG ds=v:=⟨_,rfl⟩;rw[hv]at hN hat;have HN:=ae hN;have HAT:=ae hat;clear hN hat hv
     have A8:(a == 48)=false∨((a == 48)=true∧¬ (1:Int)<(D.size:Int)):=by
      by_cases AV:a=48
      · refine .inr ⟨bB.2 AV,fun h1=>h48 ⟨by omega,by rw[hhd,AV]⟩⟩
      · exact .inl (aA.2 AV)
     clear h48 hhd hp rC;go_enter Tryz.func146,Tryz.ntmps146;rcases A8 with hc1|⟨hc1,hc2⟩
     all_goals go_wp2_with (first
      | (go_at_call 120;((with_reducible refine HW.o.mono ?_);rintro e w1 ⟨h1,rfl,h2⟩;have H1:=ae h1;have H2:=ae h2;clear h1 h2))
      | (go_at_call 163;((with_reducible refine(Zi D ?_ v HAT.o _).mono ?_);(try omega);rintro e w2 ⟨rfl,h3⟩;have H3:=ae h3;clear h3;have HL2:=ae (H2.o.below H3.o H2.o.lt);have HT2:=ae ((aT.o.grown H1.o hw0).below H3.o (aT.o.grown H1.o hw0).lt);obtain⟨x0,x1,x2,x3,x4,x5,x6,x7,av⟩:=HT2.o.cells;obtain⟨f0,f1,f2,f3,f4,f5,f6,f7,f8⟩:=HT2.o.bR)))
     all_goals go_region
     all_goals go_wp2_with fail
     all_goals exact bodyPost_ret (qa (HT2.o.iJ { ah.zero with kind:=1,num:=v }).drew _ _ true 2 3 Nq rfl rfl) rfl ⟨grownBy.Gz (grownBy.kY (grownBy.below' (grownBy.trans' bz.o H1.o) H3.o) (aj _) _ _ _ _ _ _ _ _ _),.inl ⟨_,_,HN.o,rfl,(HL2.o.kY hw0 _ _ _ _ _ _ _ _ _).drew⟩⟩
theorem SH:∀(l:List UInt8),Lib.indexByte l 33=if ((l.map (fun b=>(b.toNat:Int))).takeWhile jZ).length=l.length then -1 else (((l.map (fun b=>(b.toNat:Int))).takeWhile jZ).length:Int)
 | []=>rfl
 | x :: l=>by
   have ih:=SH l;unfold Lib.indexByte;by_cases hx:x=33
   · subst hx
     have hne:jZ ((33:UInt8).toNat:Int)=false:=by decide
     rw[jr,List.takeWhile_cons,hne];simp
   · have hne:jZ (x.toNat:Int)=true:=by
      unfold jZ;rw[aQ];intro h;apply hx;apply UInt8.toNat_inj.1;show x.toNat=33;omega
     have hb:(x == (33:UInt8))=false:=by rw[aA];exact hx
     rw[hb,jr,List.takeWhile_cons,hne,ag rfl,bf,bf,ih];obtain⟨n,hn⟩:∃n,((l.map (fun b=>(b.toNat:Int))).takeWhile jZ).length=n:=⟨_,rfl⟩;rw[hn];by_cases h:n=l.length
     · have h2:n+1=l.length+1:=by omega
       rw[ag h,ag h2];rfl
     · have h2:¬ n+1=l.length+1:=by omega
       rw[af h,af h2];have:((n:Int) == -1)=false:=by rw[aA];omega
       rw[this];simp
theorem acJ (d:Rd):Lib.indexByte d.s.data.toList 33=if d.bY.length=d.s.size then -1 else (d.bY.length:Int):=by
 rw[SH];unfold Rd.bY sb;rw[← qH];have:d.s.toList.length=d.s.size:=by rw[qH];rfl
 rw[this]
theorem NK (d:Rd):(sb d.s).take d.bY.length=d.bY:=by
 have e:=take_split jZ (sb d.s);have h:(d.bY++(sb d.s).drop d.bY.length).take d.bY.length=d.bY:=List.take_left;have e2:d.bY++(sb d.s).drop d.bY.length=sb d.s:=e;rw[e2]at h;exact h
theorem NJ (d:Rd)(h:¬ d.bY.length=d.s.size):d.bY.length<d.s.size:=by
 have e:=congrArg List.length (take_split jZ (sb d.s));rw[ax,bC]at e;unfold Rd.bY at h ⊢;omega
theorem aii (b:Nat)(d:Rd)(w:World)(h:cO w b d)(_hs:d.s.size≤1000000) :
 Calls Tryz.prog 178 #[.pointer (some ⟨b,0,none⟩)] w (Part d.kZ b w):=by
 obtain⟨c0,c1,c2,c3,c4,c5,c6⟩:=h.facts;have f1:=h.frozen 1;have f2:=h.frozen 2;clear c3 c4 c5 c6;have HR:=ae h;clear h;have hix:=acJ d;by_cases hno:d.bY.length=d.s.size
 · have hf:d.kZ=some d:=by unfold Rd.kZ;rw[ag hno]
   rw[ag hno]at hix;have HF:=ae hf;clear hf hno;have FR:=ae hix;clear hix;go_enter Tryz.func178,Tryz.ntmps178;go_wp2_with (go_at_call 199;((with_reducible refine(Tryz.strings_IndexByte d.s 33 _).mono ?_);rintro e w1 ⟨rfl,rfl⟩;(rw[show(33:Int).toNat.toUInt8=33 from rfl,FR.o])))
   go_ret;exact⟨grownBy.fT _ _,.inl ⟨d,HF.o,rfl,HR.o⟩⟩
 · have hlt:=NJ d hno
   rw[af hno]at hix;obtain⟨i,hi⟩:∃i:Nat,d.bY.length=i:=⟨_,rfl⟩;rw[hi]at hix hlt;have hf:d.kZ=if iI d.bY=true then some { d with sh:=strOfNums d.bY,k:=i+1 }else none:=by unfold Rd.kZ;rw[af hno,hi]
   have hcut:d.s.extract 0 i=strOfNums d.bY:=by
    rw[← NK,hi, ← nA (d.s.extract 0 i)];congr 1;unfold sb;rw[← List.map_take];congr 1;simp[ByteArray.data_extract]
   have hsz:(strOfNums d.bY).size≤1000000:=by rw[strOfNums_size];omega
   have hb:sb (strOfNums d.bY)=d.bY:=jN _ (fun x hx=>uS d.s x (by rw[← NK]at hx;exact List.mem_of_mem_take hx));have FR:=ae hix;clear hix;have HF:=ae hf;clear hf;have OH:=ae hcut;clear hcut;have HB:=ae hb;clear hb;have abP:(i:Int)≤(d.s.size:Int):=by omega
   have hi0:(0:Int)≤(i:Int):=by omega
   clear hno hi;go_enter Tryz.func178,Tryz.ntmps178;by_cases hn:iI d.bY=true
   · have hf2:d.kZ=some { d with sh:=strOfNums d.bY,k:=i+1 }:=by rw[HF.o,ag hn]
     have bT:=ae hf2;clear hf2
     go_wp2_with (first
      | (go_at_call 199;((with_reducible refine(Tryz.strings_IndexByte d.s 33 _).mono ?_);rintro e w1 ⟨rfl,rfl⟩;(rw[show(33:Int).toNat.toUInt8=33 from rfl,FR.o])))
      | (go_at_call 88;rw[OH.o];((with_reducible refine(H9 _ _ ?_).mono ?_);(try omega);rintro e w2 ⟨rfl,rfl⟩;rw[HB.o,hn])))
     go_ret;exact⟨grownBy.gU (grownBy.gU (grownBy.fT _ _) _ _) _ _,.inl ⟨_,bT.o,rfl,(HR.o.ahZ (strOfNums d.bY)).uU (i+1)⟩⟩
   · have hf2:d.kZ=none:=by rw[HF.o,af hn]
     have hn':iI d.bY=false:=by simpa using hn
     have bT:=ae hf2;clear hf2 hn
     go_wp2_with (first
      | (go_at_call 199;((with_reducible refine(Tryz.strings_IndexByte d.s 33 _).mono ?_);rintro e w1 ⟨rfl,rfl⟩;(rw[show(33:Int).toNat.toUInt8=33 from rfl,FR.o])))
      | (go_at_call 88;rw[OH.o];((with_reducible refine(H9 _ _ ?_).mono ?_);(try omega);rintro e w2 ⟨rfl,rfl⟩;rw[HB.o,hn'])))
     go_ret;exact⟨grownBy.gU (grownBy.gU (grownBy.fT _ _) _ _) _ _,.inr ⟨bT.o,rfl⟩⟩
theorem Y9 (b g n:Nat)(f:Nat→FuncId)(run:Nat→Rd→Option Rd)(w:World)(_hn:n≤100)(hgb:g≠b)(hg:g<w.heap.size)
 (wZ:∀j,j<n→∀args (v:World),(callFunc (f j) args).run Tryz.prog v = .ok (.enter (f j) args) v)
 (hcell:∀j,j<n→w.cell? ⟨g,j,none⟩=some (.func (.func (f j)) #[.pointer (some ⟨b,0,none⟩)] #[]))
 (P:Nat→Rd→Prop) (d:Rd) (h0:P 0 d) (hr:cO w b d)
 (uK:∀j,j<n→∀d (w:World),P j d→cO w b d→(∀d',run j d=some d'→P (j+1) d')∧Calls Tryz.prog (f j) #[.pointer (some ⟨b,0,none⟩)] w (Part (run j d) b w))
 (o:Option Rd) (mI:∀d',P n d'→o=some d') (qF:∀j d',j<n→P j d'→run j d'=none→o=none) :
 Calls Tryz.prog 177 #[.slice (some ⟨g,0,none⟩) n n] w (Part o b w):=by
 have HC:=ae wZ;clear wZ;have HL:=ae hcell;clear hcell;have HS:=ae uK;clear uK;have HE:=ae mI;clear mI;have HB:=ae qF;clear qF;have H0:=ae h0;clear h0;have HR:=ae hr;clear hr;go_enter Tryz.func177,Tryz.ntmps177;go_wp2_with fail
 go_loopw [7] (fun i wr=>∃(j:Nat)(d:Rd),i = .int .i64 j∧j≤n∧Hid (P j d)∧Hid (cO wr b d)∧Hid (w.grownBy wr (some b)))
  (fun i _=>n - (intOf i).toNat)
 case atStart=>exact⟨0,d,rfl,by omega,H0,HR,ae (grownBy.fT _ _)⟩
 case round =>
  obtain⟨j,d,rfl,hj,HP,fM,HG⟩:=hrel;by_cases hlt:j<n
  · have hji:(j:Int)<(n:Int):=by omega
    have hce:wr.cell? ⟨g,j,none⟩=some (.func (.func (f j)) #[.pointer (some ⟨b,0,none⟩)] #[]):=by
     rw[Cu HG.o (by exact hg) (by intro h;exact hgb (dM h))];exact HL.o j hlt
    have yt:=HC.o j hlt;obtain⟨fj,hfj⟩:∃fj,f j=fj:=⟨_,rfl⟩;rw[hfj]at hce yt;have OO:=ae hfj;clear hfj;cases hq:run j d with
    | some d' =>
      have HQ:=ae hq;clear hq;go_wp2_with fail
      have hs:=HS.o j hlt d wr HP.o fM.o;rw[OO.o,HQ.o]at hs;have fF:=ae (hs.1 d' rfl);refine hs.2.mono ?_;rintro e w1 ⟨hg1,⟨d2,h1,rfl,h3⟩|⟨h1,_⟩⟩
      · injection h1 with h1;subst h1
        have nT:=ae (grownBy.trans' HG.o hg1);clear hg1;have HR1:=ae h3;clear h3;clear hs;go_wp2_with fail
        go_roundw
        case rel=>exact⟨j+1,d',by go_num,by omega,fF,HR1,nT⟩
        case measure=>simp[intOf];omega
      · cases h1
    | none =>
      have HQ:=ae hq;clear hq;go_wp2_with fail
      have hs:=HS.o j hlt d wr HP.o fM.o;rw[OO.o,HQ.o]at hs;refine hs.2.mono ?_;rintro e w1 ⟨hg1,⟨d2,h1,_,_⟩|⟨_,rfl⟩⟩
      · cases h1
      · have nT:=ae (grownBy.trans' HG.o hg1);clear hg1
        clear hs;go_wp2_with fail
        go_ret;exact⟨nT.o,.inr ⟨HB.o j d hlt HP.o HQ.o,rfl⟩⟩
  · have hji:¬ (j:Int)<(n:Int):=by omega
    have hjn:j=n:=by omega
    have hen:=HE.o d (by rw[← hjn];exact HP.o);have JC:=ae hen;clear hen hjn;go_wp2_with fail
    go_ret;exact⟨HG.o,.inl ⟨d,JC.o,rfl,fM.o⟩⟩
def chain (run:Nat→Rd→Option Rd)(d:Rd):Nat→Option Rd
 | 0=>some d
 | j+1=>(chain run d j).bind (run j)
theorem Qy (run:Nat→Rd→Option Rd)(d:Rd)(j:Nat)(h:chain run d j=none):∀m,chain run d (j+m)=none
 | 0=>h
 | m+1=>by show(chain run d (j+m)).bind (run (j+m))=none;rw[Qy run d j h m];rfl
def zb(f:Rd→Option Rd):Prop:=∀d d',d.k≤d.s.size→f d=some d'→d'.s=d.s∧d'.k≤d.s.size
theorem ada:zb Rd.kZ:=by
 intro d d' hk h;unfold Rd.kZ at h;by_cases h1:d.bY.length=d.s.size
 · rw[ag h1]at h;injection h with h;subst h;exact⟨rfl,hk⟩
 · rw[af h1]at h
   have:=NJ d h1;by_cases h2:iI d.bY=true
   · rw[ag h2]at h;injection h with h;subst h;exact⟨rfl,this⟩
   · rw[af h2]at h;cases h
theorem HY (d:Rd)(hk:d.k≤d.s.size):d.k+(fD d.mark).length≤d.s.size:=by
 have h1:=congrArg List.length (ME d);rw[ax,rM]at h1;omega
theorem ac5:zb Rd.zk:=by
 intro d d' hk h;unfold Rd.zk at h;injection h with h;subst h;exact⟨rfl,HY d hk⟩
theorem ac6:zb Rd.zl:=by
 intro d d' hk h;unfold Rd.zl at h;injection h with h;subst h;exact⟨rfl,HY d hk⟩
theorem NS (p:Int→Bool)(d:Rd)(hk:d.k≤d.s.size):d.k+(d.rest.takeWhile p).length≤d.s.size:=by
 have h1:=congrArg List.length (take_split p d.rest);rw[ax,rM]at h1;omega
theorem ac8:zb Rd.col:=by
 intro d d' hk h;unfold Rd.col at h;by_cases h2:jC (d.rest.takeWhile aU)=true
 · rw[ag h2]at h;injection h with h;subst h;exact⟨rfl,NS aU d hk⟩
 · rw[af h2]at h;cases h
theorem ac':zb Rd.row:=by
 intro d d' hk h;unfold Rd.row at h;by_cases h2:isRow (d.rest.takeWhile isNum)=true
 · rw[ag h2]at h;injection h with h;subst h;exact⟨rfl,NS isNum d hk⟩
 · rw[af h2]at h;cases h
theorem ac9:zb Rd.fin:=by
 intro d d' hk h;unfold Rd.fin at h;by_cases h2:d.k=d.s.size
 · rw[ag h2]at h;injection h with h;subst h;exact⟨rfl,hk⟩
 · rw[af h2]at h;cases h
theorem Za (b g n:Nat)(f:Nat→FuncId)(run:Nat→Rd→Option Rd)(w:World)(hn:n≤100)(hgb:g≠b)(hg:g<w.heap.size)
 (wZ:∀j,j<n→∀args (v:World),(callFunc (f j) args).run Tryz.prog v = .ok (.enter (f j) args) v)
 (hcell:∀j,j<n→w.cell? ⟨g,j,none⟩=some (.func (.func (f j)) #[.pointer (some ⟨b,0,none⟩)] #[]))
 (d:Rd) (hr:cO w b d) (hs:d.s.size≤1000000) (hk:d.k≤d.s.size)
 (vU:∀j,j<n→zb (run j))
 (LQ:∀j,j<n→∀d (w:World),cO w b d→d.s.size≤1000000→d.k≤d.s.size→Calls Tryz.prog (f j) #[.pointer (some ⟨b,0,none⟩)] w (Part (run j d) b w)) :
 Calls Tryz.prog 177 #[.slice (some ⟨g,0,none⟩) n n] w (Part (chain run d n) b w):=by
 refine Y9 b g n f run w hn hgb hg wZ hcell (fun j e=>chain run d j=some e∧e.s=d.s∧e.k≤d.s.size) d ⟨rfl,rfl,hk⟩ hr ?_ _ ?_ ?_
 · rintro j hj e v ⟨h1,h2,h3⟩ hrv
   refine⟨?_,LQ j hj e v hrv (by rw[h2];exact hs) (by rw[h2];exact h3)⟩;intro e' he';obtain⟨k1,k2⟩:=vU j hj e e' (by rw[h2];exact h3) he';refine⟨?_,by rw[k1,h2],by rw[← h2];exact k2⟩;show(chain run d j).bind (run j)=some e';rw[h1];exact he'
 · rintro e ⟨h1,_,_⟩;exact h1
 · rintro j e hj ⟨h1,_,_⟩ h2
   have h3:chain run d (j+1)=none:=by show(chain run d j).bind (run j)=none;rw[h1];exact h2
   have:=Qy run d (j+1) h3 (n - (j+1));rw[show j+1+(n - (j+1))=n from by omega]at this;exact this
theorem vM {w1 w2:World}{r B:Nat}(hb:Below B w w1)(h:w1.grownBy w2 (some r))(hB:B≤w1.heap.size)(hr:B≤r):Below B w w2 :=
 hb.grown h hB (fun k hk=>by cases hk;exact hr)
theorem sW(fn:Fn)(first cap:Array Value)(w:World):(Instr.makeFunc fn first cap).run Tryz.prog w = .ok (.func fn first cap) w:=rfl
def Dt(s:ByteArray)(w:World):World:=w.alloc (.cells #[.string s,.int .i64 0,.string ⟨#[]⟩,.int .i64 0,.int .i64 0,.bool false,.bool false] 185)
def mv(f:FuncId)(b:Nat):Value := .func (.func f) #[.pointer (some ⟨b,0,none⟩)] #[]
def Ab(s:ByteArray)(l:Array Value)(w:World):World:=(Dt s w).alloc (.cells l 23)
theorem NP(s:ByteArray)(w:World):(Dt s w).heap.size=w.heap.size+1:=by unfold Dt;simp
theorem Wj(s:ByteArray)(l:Array Value)(w:World):(Ab s l w).heap.size=w.heap.size+1+1:=by unfold Ab;rw[← NP s w];simp
theorem agv (s:ByteArray)(l:Array Value)(w:World):cO (Ab s l w) w.heap.size (Rd.start s):=by
 have h:cO (Dt s w) w.heap.size (Rd.start s):=(lu w _).1;exact h.below ((ak _ _).alloc (aj _) _) h.lt
theorem Zw(s:ByteArray)(l:Array Value)(w:World):Below w.heap.size w (Ab s l w):=((ak _ _).alloc (aj _) _).alloc (by have:=NP s w;unfold Dt at this;omega) _
theorem ZY (s:ByteArray)(l:Array Value)(w:World)(L:List Value)(hl:l.toList=L)(j:Nat)(u:Value)(hj:L[j]? = some u):(Ab s l w).cell? ⟨w.heap.size+1,j,none⟩=some u:=by
 have h:=gD (w:=Dt s w) l 23 L hl j u hj;rw[Addr.add_mid,Nat.zero_add,NP]at h;exact h
theorem Zb (n:Nat)(f:Nat→FuncId)(run:Nat→Rd→Option Rd)(s:ByteArray)(w:World)(l:Array Value)(L:List Value)(hl:l.toList=L)(hn:n≤100)(hs:s.size≤1000000)
 (wZ:∀j,j<n→∀args (v:World),(callFunc (f j) args).run Tryz.prog v = .ok (.enter (f j) args) v)
 (hL:∀j,j<n→L[j]? = some (mv (f j) w.heap.size))
 (vU:∀j,j<n→zb (run j))
 (LQ:∀j,j<n→∀b d (w:World),cO w b d→d.s.size≤1000000→d.k≤d.s.size→Calls Tryz.prog (f j) #[.pointer (some ⟨b,0,none⟩)] w (Part (run j d) b w)) :
 Calls Tryz.prog 177 #[.slice (some ⟨w.heap.size+1,0,none⟩) n n] (Ab s l w) fun e w'=>Below w.heap.size w w'∧((∃d',chain run (Rd.start s) n=some d'∧e = .returned (.bool true)∧cO w' w.heap.size d')∨(chain run (Rd.start s) n=none∧e = .returned (.bool false))):=by
 refine(Za w.heap.size (w.heap.size+1) n f run (Ab s l w) hn (by omega) (by rw[Wj];omega) wZ (fun j hj=>ZY s l w L hl j _ (hL j hj)) (Rd.start s) (agv s l w) hs (ek _) vU (fun j hj d v=>LQ j hj w.heap.size d v)).mono ?_;rintro e w' ⟨h1,h2⟩;exact⟨vM (Zw s l w) h1 (by rw[Wj];omega) (aj _),h2⟩
theorem aax:∀args (v:World),(callFunc 180 args).run Tryz.prog v = .ok (.enter 180 args) v:=Go.Proofs.enters_of Tryz.func180 (by kernel_rfl) rfl
theorem aay:∀args (v:World),(callFunc 183 args).run Tryz.prog v = .ok (.enter 183 args) v:=Go.Proofs.enters_of Tryz.func183 (by kernel_rfl) rfl
theorem aaB:∀args (v:World),(callFunc 178 args).run Tryz.prog v = .ok (.enter 178 args) v:=Go.Proofs.enters_of Tryz.func178 (by kernel_rfl) rfl
theorem aav:∀args (v:World),(callFunc 179 args).run Tryz.prog v = .ok (.enter 179 args) v:=Go.Proofs.enters_of Tryz.func179 (by kernel_rfl) rfl
theorem aaw:∀args (v:World),(callFunc 181 args).run Tryz.prog v = .ok (.enter 181 args) v:=Go.Proofs.enters_of Tryz.func181 (by kernel_rfl) rfl
theorem aaA:∀args (v:World),(callFunc 182 args).run Tryz.prog v = .ok (.enter 182 args) v:=Go.Proofs.enters_of Tryz.func182 (by kernel_rfl) rfl
def agT:Nat→Rd→Option Rd
 | 0=>Rd.kZ
 | 1=>Rd.zk
 | 2=>Rd.col
 | 3=>Rd.zl
 | 4=>Rd.row
 | _=>Rd.fin
def agz:Nat→FuncId
 | 0=>178
 | 1=>179
 | 2=>180
 | 3=>181
 | 4=>182
 | _=>183
theorem ag0 (s:ByteArray)(w:World)(hs:s.size≤1000000) :
 Calls Tryz.prog 177 #[.slice (some ⟨w.heap.size+1,0,none⟩) 6 6] (Ab s #[mv 178 w.heap.size,mv 179 w.heap.size,mv 180 w.heap.size,mv 181 w.heap.size,mv 182 w.heap.size,mv 183 w.heap.size] w) fun e w'=>Below w.heap.size w w'∧((∃d',iA s=some d'∧e = .returned (.bool true)∧cO w' w.heap.size d')∨(iA s=none∧e = .returned (.bool false))):=by
 refine Zb 6 agz agT s w _ _ rfl (by omega) hs ?_ ?_ ?_ ?_
 · intro j hj
   match j,hj with
   | 0,_=>exact aaB
   | 1,_=>exact aav
   | 2,_=>exact aax
   | 3,_=>exact aaw
   | 4,_=>exact aaA
   | 5,_=>exact aay
 · intro j hj
   match j,hj with
   | 0,_=>rfl
   | 1,_=>rfl
   | 2,_=>rfl
   | 3,_=>rfl
   | 4,_=>rfl
   | 5,_=>rfl
 · intro j hj
   match j,hj with
   | 0,_=>exact ada
   | 1,_=>exact ac5
   | 2,_=>exact ac8
   | 3,_=>exact ac6
   | 4,_=>exact ac'
   | 5,_=>exact ac9
 · intro j hj b d v h1 h2 h3
   match j,hj with
   | 0,_=>exact aii b d v h1 h2
   | 1,_=>exact Y5 b d v h1 h2 h3
   | 2,_=>exact aae b d v h1 h2 h3
   | 3,_=>exact Y6 b d v h1 h2 h3
   | 4,_=>exact ahp b d v h1 h2 h3
   | 5,_=>exact aaW b d v h1 h2 h3
theorem Qh {w1:World}{a0 a1 a2 a3 a4:Value}(h:Below w.heap.size w w1):Below w.heap.size w (((((w1.setCell ⟨w.heap.size,0,none⟩ a0).setCell ⟨w.heap.size,1,none⟩ a1).setCell ⟨w.heap.size,2,none⟩ a2).setCell ⟨w.heap.size,3,none⟩ a3).setCell ⟨w.heap.size,4,none⟩ a4) :=
 ((((h.setCell (aj _) _).setCell (aj _) _).setCell (aj _) _).setCell (aj _) _).setCell (aj _) _
theorem Vf (s:ByteArray)(w:World)(_hs:s.size≤1000000) :
 Calls Tryz.prog 167 #[.string s] w fun e w'=>oh (sb s) e∧Below w.heap.size w w':=by
 have sW:=sW;have aX:=ag0 s (w.alloc (.cells #[.string ⟨#[]⟩,.int .i64 0,.int .i64 0,.bool false,.bool false] 42)) _hs;have hsz:(w.alloc (.cells #[.string ⟨#[]⟩,.int .i64 0,.int .i64 0,.bool false,.bool false] 42)).heap.size=w.heap.size+1:=by simp
 have hr0:=dz.new w ⟨#[]⟩ 0 0 false false;have hb0:Below w.heap.size w (w.alloc (.cells #[.string ⟨#[]⟩,.int .i64 0,.int .i64 0,.bool false,.bool false] 42)):=(ak _ _).alloc (aj _) _;rw[hsz]at aX;have lv:=ae aX;clear aX;have HR:=ae hr0;clear hr0;have HB0:=ae hb0;clear hb0;have mU:=ae hsz;clear hsz;go_enter Tryz.func167,Tryz.ntmps167;go_wp2_with fail
 refine lv.o.mono ?_;rintro e w1 ⟨hb,⟨d',h1,rfl,h3⟩|⟨h1,rfl⟩⟩
 · have hr1:=HR.o.below hb (by omega)
   obtain⟨x0,x1,x2,x3,x4⟩:=hr1.facts;have f0:=frozen_of_row w1 w.heap.size 0 _ _ hr1;have f1:=frozen_of_row w1 w.heap.size 1 _ _ hr1;have f2:=frozen_of_row w1 w.heap.size 2 _ _ hr1;have f3:=frozen_of_row w1 w.heap.size 3 _ _ hr1;have f4:=frozen_of_row w1 w.heap.size 4 _ _ hr1;have hB:=HB0.o.trans (hb.mono (by omega));obtain⟨c0,c1,c2,c3,c4,c5,c6⟩:=h3.facts;clear c0 c1;have H1:=ae h1;clear h1;have H3:=ae h3;clear h3;have HB:=ae hB;clear hB hb;have HR1:=ae hr1;clear hr1;go_wp2_with fail
   obtain⟨r1,r2,r3⟩:=yH s d' H1.o
   (try simp only[Exit.inBlock,Exit.then])
   refine bodyPost_ret (v := .tuple #[.agg #[.string d'.sh,.int .i64 d'.c,.int .i64 d'.r,.bool d'.ac,.bool d'.ar],.bool true]) ?_ rfl ⟨.inl ⟨d'.sh,d'.c,d'.r,d'.ac,d'.ar,r1,r2,r3,rfl⟩, ?_⟩
   · rw[results_cell_tmp rfl]
     go_simp
   · exact Qh HB.o
 · have hr1:=HR.o.below hb (by omega)
   obtain⟨x0,x1,x2,x3,x4⟩:=hr1.facts;have f0:=frozen_of_row w1 w.heap.size 0 _ _ hr1;have f1:=frozen_of_row w1 w.heap.size 1 _ _ hr1;have f2:=frozen_of_row w1 w.heap.size 2 _ _ hr1;have f3:=frozen_of_row w1 w.heap.size 3 _ _ hr1;have f4:=frozen_of_row w1 w.heap.size 4 _ _ hr1;have hB:=HB0.o.trans (hb.mono (by omega));have H1:=ae h1;clear h1;have HB:=ae hB;clear hB hb;have HR1:=ae hr1;clear hr1;go_wp2_with fail
   have r1:=Da s H1.o
   (try simp only[Exit.inBlock,Exit.then])
   refine bodyPost_ret (v := .tuple #[.agg #[.string ⟨#[]⟩,.int .i64 0,.int .i64 0,.bool false,.bool false],.bool false]) ?_ rfl ⟨.inr ⟨r1,rfl⟩, ?_⟩
   · rw[results_cell_tmp rfl]
     go_simp
   · exact Qh HB.o
end Go.Proofs.YtbplbjmmfgjdjaaGreatDoor
