import Derived.Test.YtaobhjliflomaaaGreatDoorRows
import Derived.WalkKit
import Derived.WalkSpells
import Derived.WalkLawsBesides
import Derived.WalkSmall
import Derived.Handy
import Derived.Deep.QuietTactic
import Derived.BigQuiet
import Derived.RegionTactic
import Derived.BigRegion
import Derived.StillTailTactics
import Derived.Lib.Hide
import Derived.Laws.Rows
import Derived.Laws.CopyOwn
import Derived.Laws.CopyRow
import Derived.Deep.MidRow
import Derived.Deep.WholeRow
import Derived.Deep.Cut
import Derived.Deep.RegionLaw
import Derived.Laws.BytesArg
import Derived.MapKept
import Derived.Test.YtaobhjliflomaaaGreatDoorProg
import Derived.Maps.OwnSet
import Derived.Laws.MakeOwn
import Derived.Maps.AppendAt
import Derived.Deep.AppendSrc
import Derived.Deep.RegionHeld3
import Derived.ProofKit
import Derived.OpenShut
import Derived.Deep.DeepHandedRow
import Derived.Lib.LaidTab
import Derived.Deep.OwnRows
theorem Go.RowKit.Hid.o{p:Prop}(h:Go.RowKit.Hid p):p:=h
theorem Go.Shut.o{p:Prop}(h:Go.Shut p):p:=h
namespace Go.Proofs.YtaobhjliflomaaaGreatDoor
theorem ah:∀(n : Nat), n ≤ n:=@Nat.le_refl
theorem ak.{u}:∀ {α : Type u}{lT bs : List α}, (lT ++ bs).length = lT.length + bs.length:=@List.length_append
theorem ai:∀(B : Nat)(w : Go.World), Go.RowKit.Below B w w:=@Go.RowKit.Below.refl
theorem dm.{lK}:∀ {α : Type lK}{l : List α}{i : Nat}(h : i < l.length), l[i]? = Option.some l[i]:=@List.getElem?_eq_getElem
theorem dW.{lK}:∀ {α : Type lK}{i : Nat}{a : α}{l : List α}, l[i]? = Option.some a ↔ ∃(h : i < l.length), l[i] = a:=@List.getElem?_eq_some_iff
theorem aO.{u}:∀ {α : Type u}{a : α}{lT : List α}, (a :: lT).length = lT.length + 1:=@List.length_cons
theorem dO.{lK}:∀ {α : Type lK}{i : Nat}{b : α}{xs : Array α}, xs[i]? = Option.some b ↔ ∃(h : i < xs.size), xs[i] = b:=@Array.getElem?_eq_some_iff
theorem bA.{u}:∀ {α : Type u}(val Ea : α), (Option.some val = Option.some Ea) = (val = Ea):=@Option.some.injEq
theorem bG.{u}:∀ {α : Type u}(lT bs cs : List α), lT ++ bs ++ cs = lT ++ (bs ++ cs):=@List.append_assoc
theorem fu.{lK}:∀ {α : Type lK}{l : List α}{i : Nat}{a : α}, l[i]? = Option.some a → a ∈ l:=@List.mem_of_getElem?
theorem bg.{u, v}:∀ {α : Type u}{β : Type v}(fst : α)(snd : β)(Po : α)(Ur : β), ((fst, snd) = (Po, Ur)) = (fst = Po ∧ snd = Ur):=@Prod.mk.injEq
theorem jG.{lK}:∀ {α : Type lK}{l : List α}{i : Nat}{a : α}, l.getD i a = l[i]?.getD a:=@List.getD_eq_getElem?_getD
theorem fK.{u}:∀ {α : Type u}{a : α}, [a].length = 1:=@List.length_singleton
theorem dA:∀(a b : Bool), ((a && b) = Bool.true) = (a = Bool.true ∧ b = Bool.true):=@Bool.and_eq_true
theorem gV:∀(n : Int), Go.IntKind.i64.wrap n = (n + 9223372036854775808) % 18446744073709551616 - 9223372036854775808:=@Go.IntKind.wrap_i64
theorem cu.{u}:∀ {α : Type u}{a : α}{lT bs : List α}, a :: lT ++ bs = a :: (lT ++ bs):=@List.cons_append
theorem fV:∀ {w w' : Go.World}{a : Go.Addr}, w'.heap[a.block]? = w.heap[a.block]? → w'.cell? a = w.cell? a:=@Go.World.cell?_of_block
theorem tJ:∀ {a b : Int}, 0 ≤ a → a.tmod b = a % b:=@Int.tmod_eq_emod_of_nonneg
theorem dY:∀ {n m k : Nat}, n < m → m ≤ k → n < k:=@Nat.lt_of_lt_of_le
theorem fw.{lK, D9}:∀ {α : Type lK}{β : Type D9}{lT : List α}(f : α → β), (List.map f lT).length = lT.length:=@List.length_map
theorem bF:∀ {n m k : Nat}, n ≤ m → m ≤ k → n ≤ k:=@Nat.le_trans
theorem dU.{u}:∀ {α : Type u}{val Ea : α}, Option.some val = Option.some Ea → val = Ea:=@Option.some.inj
theorem dI.{u}:∀ {α : Type u}, ([] : List α).length = 0:=@List.length_nil
theorem dV:∀(n : Nat), 0 ≤ n:=@Nat.zero_le
theorem fM.{u}:∀ {α : Type u}(lT : List α), lT ++ [] = lT:=@List.append_nil
theorem fO:∀(w : Go.World)(a : Go.Addr)(u : Go.Value)(k : Nat), k ≠ a.block → (w.setCell a u).heap[k]? = w.heap[k]?:=@Go.RowKit.Below.heap_setCell
theorem kg.{lK}:∀ {α : Type lK}{l : List α}, l.length = 0 → l = []:=@List.eq_nil_of_length_eq_zero
theorem ko:∀(w : Go.World)(o : Go.Obj), (w.alloc o).heap[w.heap.size]? = Option.some o ∧ ∀(r' : Nat), r' < w.heap.size → (w.alloc o).heap[r']? = w.heap[r']?:=@Go.MapKept.heap_alloc
theorem gK.{lK}:∀ {α : Type lK}{i : Nat}{l : List α}, (List.take i l).length = Min.min i l.length:=@List.length_take
theorem gL.{u}:∀ {α : Type u}(lT : List α), [] ++ lT = lT:=@List.nil_append
theorem iw.{lK, D9}:∀ {α : Type lK}{β : Type D9}{f : α → β}{l : List α}{i : Nat}, (List.map f l)[i]? = Option.map f l[i]?:=@List.getElem?_map
theorem iy.{lK, D9}:∀ {α : Type lK}{β : Type D9}{f : α → β}{l₁ l₂ : List α}, List.map f (l₁ ++ l₂) = List.map f l₁ ++ List.map f l₂:=@List.map_append
theorem oP.{u, v}:∀ {α : Type u}{β : Type v}{x : α}{xs : List α}{f : α → List β}, List.flatMap f (x :: xs) = f x ++ List.flatMap f xs:=@List.flatMap_cons
theorem pW.{lK}:∀ {α : Type lK}{i : Nat}{l : List α}, l.length ≤ i → List.take i l = l:=@List.take_of_length_le
theorem kK:∀(w : Go.World)(o : Go.Obj), (w.alloc o).heap.size = w.heap.size + 1:=@Go.World.size_alloc
theorem jr.{u, v}:∀ {α : Type u}{β : Type v}{f : α → β}{a : α}{l : List α}, List.map f (a :: l) = f a :: List.map f l:=@List.map_cons
theorem ae{p:Prop}(h:p):Go.RowKit.Hid p:=h
end Go.Proofs.YtaobhjliflomaaaGreatDoor
namespace Go.Proofs.YtaobhjliflomaaaGreatDoor
open Go.RowKit
theorem run_storeVar_row {P:Program}(w:World)(g:Nat)(ty t:TypeId)(cur cells:Array Value)(hg:w.heap[g]? = some (.cells cur t))(hs:cur.size=cells.size)
 (hi:(P.info? ty).map (·.size)=some cells.size) (h1:∀v∈cells.toList,v.oneCell'=true) :
 (storeVar ty ⟨g,0,none⟩ (.agg cells)).run P w = .ok () (w.setRow g cells):=by
 have:=run_storeCells_at P g 0 t cells.toList 0 cur w hg (by simp;omega) h1;cases hq:P.info? ty with
 | none=>simp[hq]at hi
 | some i =>
   have hs':cells.size=i.size:=by simp[hq]at hi;omega
   simp[storeVar,sizeOf,typeInfo,hq,Value.cells,hs',this];congr 1;have:List.drop i.size cur.toList=[]:=by rw[List.drop_eq_nil_iff];simp;omega
   rw[this];simp
theorem wp_store_row {P:Program}{op:Oper}{a:Act}{w:World}{K:Act→World→Prop}{Q:Exit→Act→World→Prop}(ty:TypeId)(x y:Operand)(ho:op.op = .store ty x y)
 (g:Nat) (t:TypeId) (cur cells:Array Value) (hx:a.eval x = .pointer (some ⟨g,0,none⟩)) (hy:a.eval y = .agg cells) (hg:w.heap[g]? = some (.cells cur t)) (hs:cur.size=cells.size)
 (hi:(P.info? ty).map (·.size)=some cells.size) (h1:∀v∈cells.toList,v.oneCell'=true)
 (h:K (a.put op.dst undef) (w.setRow g cells)):op.wp P a w K Q:=by
 unfold Oper.wp execOp;simp only[ho,hx,hy,Instr.storeAt,Instr.sureAddr,Sem.run_bind,Sem.run_pure,Result.andThen_ok,run_storeVar_row w g ty t cur cells hg hs hi h1];exact h
theorem wpList_store_row {P:Program}{ops:Array Oper}{rest:List Oper}{op:Oper}{a:Act}{w:World}{Q:Exit→Act→World→Prop}(hgd:op.guard=none)(ty:TypeId)(x y:Operand)(ho:op.op = .store ty x y)
 (g:Nat) (t:TypeId) (cur cells:Array Value) (hx:a.eval x = .pointer (some ⟨g,0,none⟩)) (hy:a.eval y = .agg cells) (hg:w.heap[g]? = some (.cells cur t)) (hs:cur.size=cells.size)
 (hi:(P.info? ty).map (·.size)=some cells.size) (h1:∀v∈cells.toList,v.oneCell'=true)
 (h:wpList P ops Q rest (a.put op.dst undef) (w.setRow g cells)):wpList P ops Q (op :: rest) a w :=
 wpList_plain hgd fun _ hK=>wp_store_row ty x y ho g t cur cells hx hy hg hs hi h1 (hK _ _ h)
def U(l:List Int):List Value:=l.map (Value.int .u32)
structure Elem (P:Program)(t e:TypeId)(size bytes:Nat):Prop where
 und:P.underlying t=some (.slice e)
 inf:∃z:Value,(P.info? e).map (fun i=>(i.zero,i.size,i.bytes))=some (some z,size,bytes)∧z.cells.size=size
 pos:0<size
structure Enc (α : Type)(size:Nat) where
 f : α → List Value
 len:∀a,(f a).length=size
 one:∀a,∀u∈f a,u.oneCell'=true
def Enc.all{α : Type}{size:Nat}(E:Enc α size)(xs:List α):List Value:=xs.flatMap E.f
theorem Enc.lU {α : Type}{size:Nat}(E:Enc α size)(xs:List α):(E.all xs).length=xs.length*size:=by
 unfold Enc.all
 induction xs with
 | nil=>simp
 | cons a l ih=>rw[oP,ak,ih,E.len,aO,Nat.add_mul];omega
theorem Enc.all_append {α : Type}{size:Nat}(E:Enc α size)(xs ys:List α):E.all (xs++ys)=E.all xs++E.all ys:=by
 unfold Enc.all;exact List.flatMap_append ..
theorem Enc.xg {α : Type}{size:Nat}(E:Enc α size)(xs:List α):∀u∈E.all xs,u.oneCell'=true:=by
 intro u hu;unfold Enc.all at hu;rw[List.mem_flatMap]at hu;obtain⟨a,_,h⟩:=hu;exact E.one a u h
theorem Enc.at {α : Type}{size:Nat}(E:Enc α size)(xs:List α)(i j:Nat)(a : α)(ha:xs[i]? = some a)(hj:j<size):(E.all xs)[i*size+j]? = (E.f a)[j]? := by
 unfold Enc.all
 induction xs generalizing i with
 | nil=>simp at ha
 | cons b l ih =>
   rw[oP];cases i with
   | zero =>
     simp at ha;subst ha;rw[Nat.zero_mul,Nat.zero_add,List.getElem?_append_left (by rw[E.len];exact hj)]
   | succ i =>
     have:(i+1)*size=i*size+size:=Nat.succ_mul i size;rw[List.getElem?_append_right (by rw[E.len];omega),E.len];have e:(i+1)*size+j - size=i*size+j:=by omega
     rw[e];exact ih i (by simpa using ha)
def Own{α : Type}{size:Nat}(E:Enc α size)(e:TypeId)(w:World)(base:Nat)(v:Value)(xs:List α):Prop:=w.ownsRow base e size v xs.length (E.all xs)
theorem Own.nil{α : Type}{size:Nat}(E:Enc α size)(e:TypeId)(w:World)(base:Nat):Own E e w base (.slice none 0 0) ([]:List α):=World.ownsRow_nil w base e size
theorem Own.alloc{α : Type}{size:Nat}{E:Enc α size}{e:TypeId}{w:World}{base:Nat}{v:Value}{xs:List α}(h:Own E e w base v xs)(o:Obj):Own E e (w.alloc o) base v xs:=World.ownsRow.alloc h o
theorem Own.drew{α : Type}{size:Nat}{E:Enc α size}{e:TypeId}{w:World}{base:Nat}{v:Value}{xs:List α}(h:Own E e w base v xs):Own E e w.drew base v xs:=h
theorem Own.drewN{α : Type}{size:Nat}{E:Enc α size}{e:TypeId}{w:World}{base:Nat}{v:Value}{xs:List α}(h:Own E e w base v xs)(n:Nat):Own E e (w.drewN n) base v xs:=h
theorem Own.mono {α : Type}{size:Nat}{E:Enc α size}{e:TypeId}{w:World}{base Oz:Nat}{v:Value}{xs:List α}(h:Own E e w base v xs)(hb:Oz≤base):Own E e w Oz v xs:=by
 refine⟨h.1, ?_⟩;rcases h.2 with h|⟨g,cap,cur,h1,h2,h3⟩
 · exact .inl h
 · exact .inr ⟨g,cap,cur,h1,by omega,h3⟩
theorem Own.below {α : Type}{size:Nat}{E:Enc α size}{e:TypeId}{w w':World}{base B:Nat}{v:Value}{xs:List α}(h:Own E e w base v xs)(hb:Below B w w')(hB:w.heap.size≤B):Own E e w' base v xs:=by
 refine⟨h.1, ?_⟩;rcases h.2 with h|⟨g,cap,cur,h1,h2,h3,h4⟩
 · exact .inl h
 · refine .inr ⟨g,cap,cur,h1,h2, ?_,h4⟩
   rw[hb.block g (by have:=(dO.1 h3).1;omega)];exact h3
theorem Own.shape {α : Type}{size:Nat}{E:Enc α size}{e:TypeId}{w:World}{base:Nat}{v:Value}{xs:List α}(h:Own E e w base v xs) :
 (v = .slice none 0 0∧xs=[])∨∃g cap,v = .slice (some ⟨g,0,none⟩) xs.length cap∧base≤g∧g<w.heap.size∧xs.length≤cap∧cap≤maxLen:=by
 rcases h.2 with ⟨h1,h2⟩|⟨g,cap,cur,h1,h2,h3,h4,h5,_⟩
 · exact .inl ⟨h1,List.length_eq_zero_iff.1 h2⟩
 · exact .inr ⟨g,cap,h1,h2,(dO.1 h3).1,h4,h5⟩
theorem Own.cells {α : Type}{size:Nat}{E:Enc α size}{e:TypeId}{w:World}{base g cap n:Nat}{xs:List α}(h:Own E e w base (.slice (some ⟨g,0,none⟩) n cap) xs)(j:Nat)(u:Value)(hj:(E.all xs)[j]? = some u) :
 w.cell? ⟨g,j,none⟩=some u:=by
 have:=World.ownsRow.cells h (g:=g) rfl j u hj;rw[Addr.add_mid,Nat.zero_add]at this;exact this
theorem nC {P:Program}{α : Type}{size t e bytes:Nat}{w:World}{ops:Array Oper}{rest:List Oper}{o:Oper}{a:Act}{Q:Exit→Act→World→Prop}(bV:Elem P t e size bytes)(E:Enc α size)
 (hgd:o.guard=none) (s x:Operand) (ho:o.op = .call { callee := .builtin .append,args:=#[s,x],argTypes:=#[t,t] }) (base:Nat) (v:Value) (xs:List α)
 (hs:a.eval s=v) (gW:Own E e w base v xs) (ad:Addr) (m c:Nat) (ys:List α) (hx:a.eval x = .slice (some ad) m c) (hl:ys.length=m)
 (hc:∀(j:Nat)(u:Value),(E.all ys)[j]? = some u→w.cell? (ad.add j)=some u) (hb:(xs.length+m)*bytes≤140737488355328) (hb2:xs.length+m≤maxLen) (jk:base≤w.heap.size)
 (h:∀(v':Value)(w':World),Own E e w' base v' (xs++ys)→Below base w w'→wpList P ops Q rest (a.put o.dst v') w'):wpList P ops Q (o :: rest) a w:=by
 obtain⟨z,hi,hz⟩:=bV.inf;obtain⟨i,hi1,hi2,hi3,hi4⟩:=info_parts hi;refine wpList_append_own w hgd s x t ho base e i z size bytes bV.und hi1 hi2 hi3 hi4 hz bV.pos v xs.length (E.all xs) hs gW ad m c (E.all ys) hx (by rw[E.lU,hl]) hc (E.xg ys) hb2 hb jk ?_;intro v' w' h1 h2 _;refine h v' w' ?_ ?_
 · unfold Own;rw[E.all_append,ak,hl];exact h1
 · refine Below.grown (ai _ _) h2 jk ?_
   intro k hk;exact(World.ownsRow.lt gW k hk).1
theorem gQ {w:World}(C:Array Value)(t:TypeId)(l:List Value)(hC:C.toList=l)(j:Nat)(u:Value)(hj:l[j]? = some u):(w.alloc (.cells C t)).cell? ((⟨w.heap.size,0,none⟩:Addr).add j)=some u:=by
 rw[Addr.add_mid,Nat.zero_add,World.cell?_alloc_at _ _ _ _ rfl];subst hC
 simpa using hj
def aK(k:IntKind):Enc Int 1:={ f:=fun n=>[.int k n],len:=fun _=>rfl,one:=fun _ u hu=>by simp at hu;subst hu;rfl }
theorem vE (k:IntKind)(l:List Int):(aK k).all l=l.map (Value.int k):=by
 unfold Enc.all aK
 induction l with
 | nil=>rfl
 | cons a l ih=>rw[oP,jr,ih];rfl
theorem Zc (k:IntKind)(xs:List Int)(i:Nat)(h:i<xs.length):(xs.map (Value.int k))[i]? = some (.int k (xs.getD i 0)):=by
 simp[List.getElem?_eq_getElem h,List.getD_eq_getElem?_getD]
theorem Own.vQ {k:IntKind}{e:TypeId}{w:World}{base g cap n:Nat}{xs:List Int}(h:Own (aK k) e w base (.slice (some ⟨g,0,none⟩) n cap) xs)(i:Nat)(hi:i<xs.length) :
 w.cell? ⟨g,i,none⟩=some (.int k (xs.getD i 0)):=by
 apply Own.cells h;rw[vE];exact Zc k xs i hi
theorem Own.made {α : Type}{size:Nat}(E:Enc α size)(e:TypeId)(w:World)(base g cap:Nat)(cur:Array Value)(hg:g=w.heap.size)(hb:base≤w.heap.size)(hm:cap≤maxLen)(hs:cur.size=cap*size) :
 Own E e (w.alloc (.cells cur e)) base (.slice (some ⟨g,0,none⟩) 0 cap) ([]:List α):=by subst hg;exact World.ownsRow_made w cur cap hb hm hs
def lenOf:Value→Nat
 | .slice _ n _=>n
 | _=>0
theorem Own.some {α : Type}{size:Nat}{E:Enc α size}{e:TypeId}{w:World}{base:Nat}{v:Value}{xs:List α}(h:Own E e w base v xs)(hne:0<xs.length) :
 ∃g cap,v = .slice (some ⟨g,0,none⟩) xs.length cap∧base≤g∧g<w.heap.size∧xs.length≤cap∧cap≤maxLen:=by
 rcases h.shape with ⟨_,rfl⟩|h
 · exact absurd hne (by simp)
 · exact h
theorem Bb {w w':World}{row:Option Nat}(h:w.grownBy w' row){a:Addr}(hlt:a.block<w.heap.size)(hne:some a.block≠row):w'.cell? a=w.cell? a:=by
 simp only[World.cell?,h.block a.block hlt hne]
theorem grownBy.fo(w:World)(r:Option Nat):w.grownBy w r:=⟨rfl,rfl,rfl,ah _,fun _ _ _=>rfl⟩
theorem grownBy.trans' {a b c:World}{r:Option Nat}(h:a.grownBy b r)(k:b.grownBy c r):a.grownBy c r :=
 ⟨k.os.trans h.os,k.tape.trans h.tape,k.output.trans h.output,bF h.size k.size,fun j hj hr=>(k.block j (dY hj h.size) hr).trans (h.block j hj hr)⟩
theorem grownBy.gp {a w:World}{b:Nat}(h:a.grownBy w (some b))(o:Nat)(v:Value):a.grownBy (w.setCell ⟨b,o,none⟩ v) (some b) :=
 ⟨h.os,h.tape,h.output,by simpa using h.size,fun j hj hr=>by
  rw[fO _ _ _ _ (by intro e;exact hr (by rw[e]))];exact h.block j hj hr⟩
theorem grownBy.eX{a w:World}{r:Option Nat}(h:a.grownBy w r)(n:Nat):a.grownBy (w.drewN n) r:=⟨h.os,h.tape,h.output,h.size,h.block⟩
theorem grownBy.below' {a w w':World}{r:Option Nat}(h:a.grownBy w r)(k:Below w.heap.size w w'):a.grownBy w' r :=
 ⟨k.os.trans h.os,k.tape.trans h.tape,k.output.trans h.output,bF h.size k.size,fun j hj hr=>(k.block j (dY hj h.size)).trans (h.block j hj hr)⟩
theorem grownBy.GU {a w:World}{b:Nat}(h:a.grownBy w (some b))(cs:Array Value):a.grownBy (w.setRow b cs) (some b) :=
 ⟨h.os,h.tape,h.output,by simpa using h.size,fun j hj hr=>by
  rw[Go.setRow_other w b j cs (by intro e;exact hr (by rw[e]))];exact h.block j hj hr⟩
theorem LM{k:IntKind}{a b:Int}(h:a=b):Ending.returned (.int k a) = .returned (.int k b):=by rw[h]
def sb(s:ByteArray):List Int:=s.data.toList.map (fun b=>(b.toNat:Int))
theorem aV(s:ByteArray):(sb s).length=s.size:=by unfold sb;simp
theorem pJ (s:ByteArray)(k:Nat)(h:k<s.size):(sb s)[k]? = some ((s[k].toNat:Nat):Int):=by
 unfold sb;rw[iw,dm (by simpa using h)];rfl
theorem sV (s:ByteArray):∀a∈sb s,0≤a∧a≤255:=by
 intro a ha;unfold sb at ha;rw[List.mem_map]at ha;obtain⟨b,_,rfl⟩:=ha;have:=b.toNat_lt;omega
theorem sW (s:ByteArray)(k:Nat)(h:k<s.size):(sb s).getD k 0=((s[k].toNat:Nat):Int):=by
 rw[jG,pJ s k h];rfl
def Bytes(l:List Int):Prop:=∀a∈l,0≤a∧a≤255
theorem Bytes.append {a b:List Int}(h:Bytes a)(k:Bytes b):Bytes (a++b):=by
 intro x hx;rw[List.mem_append]at hx;rcases hx with hx|hx
 · exact h x hx
 · exact k x hx
theorem Bytes.nil:Bytes []:=by intro a ha;simp at ha
theorem jd (l:List Int)(h:Bytes l):sb (strOfNums l)=l:=by
 unfold sb;rw[strOfNums_data,List.map_map]
 conv=>rhs;rw[← List.map_id l]
 apply List.map_congr_left;intro a ha;have:=h a ha;simp only[Function.comp,id];rw[UInt8.toNat_ofNat_of_lt' (by show a.toNat<256;omega)];omega
theorem l5 (s:ByteArray):strOfNums (sb s)=s:=by
 have:(strOfNums (sb s)).data=s.data:=by
  apply Array.toList_inj.1;rw[strOfNums_data];unfold sb;rw[List.map_map]
  conv=>rhs;rw[← List.map_id s.data.toList]
  apply List.map_congr_left;intro a _;simp only[Function.comp,id,Int.toNat_natCast];exact UInt8.ofNat_toNat
 cases s with
 | mk d => 
   cases hq:strOfNums (sb ⟨d⟩)with
   | mk e=>rw[hq]at this;simp only at this;rw[this]
def aL(c:Int):Bool:=decide (65≤c∧c≤90)
def isLet(c:Int):Bool:=decide (65≤c∧c≤90∨97≤c∧c≤122)
def isNum(c:Int):Bool:=decide (48≤c∧c≤57)
theorem fD{a b:Bool}(h:a=b):Ending.returned (.bool a) = .returned (.bool b):=by rw[h]
theorem aeR{a b:Int}{p q:Bool}(h:a=b)(h2:p=q):Ending.returned (.tuple #[.int .i64 a,.bool p]) = .returned (.tuple #[.int .i64 b,.bool q]):=by rw[h,h2]
theorem Ky{c:Int}(h:65≤c)(h2:c≤90):aL c=true:=by unfold aL;rw[decide_eq_true_iff];omega
theorem QN{c:Int}(h:c<65∨90<c):aL c=false:=by unfold aL;rw[decide_eq_false_iff_not];omega
def ni(j:Nat)(c:Int):Bool:=isLet c||(decide (0<j)&&isNum c)
def gX(l:List Int):Bool:=decide (∀j,j<l.length→ni j (l.getD j 0)=true)&&decide (1≤l.length∧l.length≤12)
def bf(n:Int):List Int:=if n<0∨701<n then []else if n<26 then [65+n]else [64+n / 26,65+n % 26]
def iR(l:List Int):Bool:=decide (1≤l.length∧l.length≤2)&&(aL (l.getD 0 0)&&aL (l.getD (l.length - 1) 0))
def lg(l:List Int):Int:=if iR l=true then (if l.length=1 then l.getD 0 0 - 65 else 26*(l.getD 0 0 - 64)+(l.getD 1 0 - 65))else 0
theorem Gb (s:ByteArray)(k:Nat)(hk:k<s.size)(h:ni k ((sb s).getD k 0)=false):gX (sb s)=false:=by
 unfold gX;rw[decide_eq_false (by intro hc;have:=hc k (by rw[aV];exact hk);rw[h]at this;cases this),Bool.false_and]
theorem R4 (s:ByteArray)(h:∀j,j<s.size→ni j ((sb s).getD j 0)=true):gX (sb s)=decide (1≤s.size∧s.size≤12):=by
 unfold gX;rw[decide_eq_true (by rw[aV];exact h),Bool.true_and,aV]
theorem lZ (a b:List Int):strOfNums a++strOfNums b=strOfNums (a++b):=by
 have h:(strOfNums a++strOfNums b).data=(strOfNums (a++b)).data:=by
  apply Array.toList_inj.1;rw[ByteArray.data_append,Array.toList_append,strOfNums_data,strOfNums_data,strOfNums_data,iy]
 cases hx:strOfNums a++strOfNums b with
 | mk d =>
   cases hy:strOfNums (a++b)with
   | mk e=>rw[hx,hy]at h;simp only at h;rw[h]
theorem afj (a b:ByteArray):sb (a++b)=sb a++sb b:=by
 unfold sb;rw[ByteArray.data_append,Array.toList_append,iy]
theorem lX{a b:ByteArray}(h:a=b):Ending.returned (.string a) = .returned (.string b):=by rw[h]
theorem ahr{a b:ByteArray}(h:a=b):Value.string a = .string b:=by rw[h]
def aQ(u:Nat):List Int:=if u<10 then [48+(u:Int)]else aQ (u / 10)++[48+((u % 10:Nat):Int)]
termination_by u
decreasing_by omega
theorem ou(u:Nat)(h:u<10):aQ u=[48+(u:Int)]:=by rw[aQ,if_pos h]
theorem sF(u:Nat)(h:¬ u<10):aQ u=aQ (u / 10)++[48+((u % 10:Nat):Int)]:=by rw[aQ,if_neg h]
def di(sh:List Int)(c r:Int):Bool:=(decide (sh=[])||gX sh)&&decide (0≤c∧c≤701∧0≤r∧r≤998)
def aY (sh:List Int)(c r:Int)(ac ar:Bool):List Int :=
 if di sh c r=true then (((if sh=[]then []else sh++[33])++(if ac=true then [36]else []))++bf c++(if ar=true then [36]else []))++aQ (r+1).toNat else []
theorem qB(a:ByteArray):a.toList=a.data.toList:=ByteArray.toList_eq a
theorem pR (a b:ByteArray)(h:¬ a=b):¬ a.toList=b.toList:=by
 rw[qB,qB,Array.toList_inj];intro hd;apply h;cases a;cases b;simp only at hd;rw[hd]
theorem rG (a:ByteArray)(h:¬ a.size=0):¬ a.toList=[]:=by
 rw[qB];intro hd;apply h;show a.data.size=0;rw[← Array.length_toList,hd];rfl
theorem uR (s:ByteArray)(h:s.size=0):s=⟨#[]⟩:=by
 cases s with
 | mk d => have:d=#[]:=Array.eq_empty_of_size_eq_zero h
           rw[this]
theorem Rb(n:Int):(bf n).length≤2:=by unfold bf;split <;> (try split) <;> simp
theorem KE (u:Nat):(aQ u).length≤u+1:=by
 induction u using Nat.strongRecOn with
 | _ u ih =>
   by_cases h:u<10
   · rw[ou u h];simp
   · rw[sF u h,ak]
     have:=ih (u / 10) (by omega);simp only[aO,dI];omega
theorem KP {sh:List Int}{c r:Int}(h:di sh c r=true):0≤c∧c≤701∧0≤r∧r≤998:=by
 unfold di at h;rw[dA,decide_eq_true_iff]at h;exact h.2
theorem ji{a b:ByteArray}{x y:List Int}(h:a=strOfNums x)(k:b=strOfNums y):a++b=strOfNums (x++y):=by rw[h,k,lZ]
theorem G5:(⟨#[]⟩:ByteArray)=strOfNums []:=rfl
theorem yH:(⟨#[36]⟩:ByteArray)=strOfNums [36]:=rfl
theorem GZ:(⟨#[33]⟩:ByteArray)=strOfNums [33]:=rfl
theorem wK {w w0 w1 w2 w3:World}(h0:Below w.heap.size w w0)(h1:Below w0.heap.size w0 w1)(h2:Below w1.heap.size w1 w2)(h3:Below w2.heap.size w2 w3):Below w.heap.size w w3:=by
 have b1:=h0.trans (h1.mono h0.size);have b2:=b1.trans (h2.mono b1.size);exact b2.trans (h3.mono b2.size)
theorem DV (p:Int→Bool):∀(a a' b b':List Int),(∀x∈a,p x=true)→(∀x∈a',p x=true)→(∀x,b.head? = some x→p x=false)→(∀x,b'.head? = some x→p x=false)→a++b=a'++b'→a=a'∧b=b'
 | [],[],_,_,_,_,_,_,h=>⟨rfl,h⟩
 | [],x :: a',b,b',_,h2,h3,_,h=>by
   rw[gL]at h;have:=h3 x (by rw[h];rfl);rw[h2 x (by simp)]at this;cases this
 | x :: a,[],b,b',h1,_,_,h4,h=>by
   rw[gL]at h;have:=h4 x (by rw[← h];rfl);rw[h1 x (by simp)]at this;cases this
 | x :: a,y :: a',b,b',h1,h2,h3,h4,h=>by
   rw[cu,cu]at h;injection h with e h;obtain⟨r1,r2⟩:=DV p a a' b b' (fun z hz=>h1 z (by simp[hz])) (fun z hz=>h2 z (by simp[hz])) h3 h4 h;exact⟨by rw[e,r1],r2⟩
theorem uJ (c:Int):∀x∈bf c,aL x=true:=by
 intro x hx;unfold bf at hx;split at hx
 · simp at hx
 · split at hx
   · simp at hx;subst hx;exact Ky (by omega) (by omega)
   · simp at hx
     rcases hx with rfl|rfl
     · exact Ky (by omega) (by omega)
     · exact Ky (by omega) (by omega)
theorem Ls (c:Int)(h0:0≤c)(h1:c≤701):iR (bf c)=true∧lg (bf c)=c:=by
 have zz:=uJ c;by_cases h:c<26
 · have e:bf c=[65+c]:=by unfold bf;rw[if_neg (by omega),if_pos h]
   have hc:iR (bf c)=true:=by rw[e]at zz ⊢;unfold iR;have:=zz (65+c) (by simp);simp[this]
   refine⟨hc, ?_⟩;unfold lg;rw[if_pos hc,e];simp;omega
 · have e:bf c=[64+c / 26,65+c % 26]:=by unfold bf;rw[if_neg (by omega),if_neg h]
   have hc:iR (bf c)=true:=by rw[e]at zz ⊢;unfold iR;have g1:=zz (64+c / 26) (by simp);have g2:=zz (65+c % 26) (by simp);simp[g1,g2]
   refine⟨hc, ?_⟩;unfold lg;rw[if_pos hc,e];simp;omega
theorem ru{x:Int}(h:aL x=true):65≤x∧x≤90:=by unfold aL at h;rw[decide_eq_true_iff]at h;exact h
theorem iT{x:Int}(h:isNum x=true):48≤x∧x≤57:=by unfold isNum at h;rw[decide_eq_true_iff]at h;exact h
theorem Yc (l:List Int)(h:iR l=true):bf (lg l)=l∧0≤lg l∧lg l≤701:=by
 have hr:lg l=(if l.length=1 then l.getD 0 0 - 65 else 26*(l.getD 0 0 - 64)+(l.getD 1 0 - 65)):=by unfold lg;rw[if_pos h]
 unfold iR at h;rw[dA,dA,decide_eq_true_iff]at h;obtain⟨⟨h1,h2⟩,h3,h4⟩:=h
 match l,h1,h2,h3,h4,hr with
 | [a],_,_,h3,_,hr =>
   have:=ru h3;simp at this hr;rw[hr];refine⟨?_,by omega,by omega⟩;unfold bf;rw[if_neg (by omega),if_pos (by omega)];congr 1;omega
 | [a,b],_,_,h3,h4,hr =>
   have g1:=ru h3;have g2:=ru h4;simp at g1 g2 hr;rw[hr];refine⟨?_,by omega,by omega⟩;unfold bf;rw[if_neg (by omega),if_neg (by omega)];congr 1
   · omega
   · congr 1;omega
theorem qy (u:Nat):∀x∈aQ u,isNum x=true:=by
 induction u using Nat.strongRecOn with
 | _ u ih =>
   intro x hx;by_cases h:u<10
   · rw[ou u h]at hx;simp at hx;subst hx;unfold isNum;rw[decide_eq_true_iff];omega
   · rw[sF u h,List.mem_append]at hx
     rcases hx with hx|hx
     · exact ih (u / 10) (by omega) x hx
     · simp at hx;subst hx;unfold isNum;rw[decide_eq_true_iff];omega
def cK(l:List Int):Int:=l.foldl (fun n d=>10*n+(d - 48)) 0
theorem yM(l:List Int)(d:Int):cK (l++[d])=10*cK l+(d - 48):=by unfold cK;rw[List.foldl_append];rfl
theorem Hg (u:Nat):cK (aQ u)=u:=by
 induction u using Nat.strongRecOn with
 | _ u ih =>
   by_cases h:u<10
   · rw[ou u h];unfold cK;simp;omega
   · rw[sF u h,yM,ih (u / 10) (by omega)];omega
theorem sG (u:Nat):aQ u≠[]:=by
 by_cases h:u<10
 · rw[ou u h];simp
 · rw[sF u h];simp
theorem E9 (c:Int)(h0:0≤c)(h1:c≤701):bf c≠[]:=by
 unfold bf;rw[if_neg (by omega)];split <;> simp
def eu(b:Bool):List Int:=if b=true then [36]else []
theorem wL(b:Bool):∀x∈eu b,decide (x=36)=true:=by cases b <;> simp[eu]
theorem O7{a b:Bool}(h:eu a=eu b):a=b:=by cases a <;> cases b <;> simp[eu]at h ⊢
def pQ(c r:Int)(ac ar:Bool):List Int:=eu ac++(bf c++(eu ar++aQ (r+1).toNat))
theorem head_append {a b:List Int}(h:a≠[]){x:Int}(hx:(a++b).head? = some x):x∈a:=by
 cases a with
 | nil=>exact absurd rfl h
 | cons y a=>simp at hx;subst hx;simp
theorem UC {c r c' r':Int}{ac ar uk rX:Bool}(h0:0≤c)(h1:c≤701)(h2:0≤r)(k0:0≤c')(k1:c'≤701)(k2:0≤r')(h:pQ c r ac ar=pQ c' r' uk rX):c=c'∧r=r'∧ac=uk∧ar=rX:=by
 unfold pQ at h;have Gf:∀x,aL x=true→decide (x=36)=false:=by intro x hx;have:=ru hx;rw[decide_eq_false_iff_not];omega
 have Gg:∀x,isNum x=true→decide (x=36)=false:=by intro x hx;have:=iT hx;rw[decide_eq_false_iff_not];omega
 have R6:∀(b:Bool)(u:Nat)(x:Int),(eu b++aQ u).head? = some x→aL x=false:=by
  intro b u x hx;cases b with
  | true=>simp[eu]at hx;subst hx;decide
  | false =>
    have hx':(aQ u++[]).head? = some x:=by simpa [eu]using hx
    have:=iT (qy u x (head_append (sG u) hx'));exact QN (by omega)
 obtain ⟨e1,e2⟩:=DV (fun x=>decide (x=36)) _ _ _ _ (wL ac) (wL uk)
  (fun x hx=>Gf x (uJ c x (head_append (E9 c h0 h1) hx))) (fun x hx=>Gf x (uJ c' x (head_append (E9 c' k0 k1) hx))) h
 obtain⟨e3,e4⟩:=DV aL _ _ _ _ (uJ c) (uJ c') (R6 ar _) (R6 rX _) e2
 obtain ⟨e5,e6⟩:=DV (fun x=>decide (x=36)) _ _ _ _ (wL ar) (wL rX)
  (fun x hx=>Gg x (qy _ x (head_append (sG _) (by rw[fM];exact hx)))) (fun x hx=>Gg x (qy _ x (head_append (sG _) (by rw[fM];exact hx)))) e4
 refine⟨?_, ?_,O7 e1,O7 e5⟩
 · rw[← (Ls c h0 h1).2, ← (Ls c' k0 k1).2,e3]
 · have:=Hg (r+1).toNat
   rw[e6,Hg]at this;omega
theorem Ms (c r:Int)(ac ar:Bool):∀x∈pQ c r ac ar,x≠33:=by
 intro x hx;unfold pQ at hx;simp only[List.mem_append]at hx;rcases hx with h|h|h|h
 · have:=wL _ x h;rw[decide_eq_true_iff]at this;omega
 · have:=ru (uJ c x h);omega
 · have:=wL _ x h;rw[decide_eq_true_iff]at this;omega
 · have:=iT (qy _ x h);omega
theorem KU (l:List Int)(h:gX l=true):∀x∈l,x≠33:=by
 intro x hx;unfold gX at h;rw[dA,decide_eq_true_iff]at h;obtain⟨j,hj,rfl⟩:=List.mem_iff_getElem.1 hx;have:=h.1 j hj;rw[jG,dm hj]at this;simp only[Option.getD_some]at this;unfold ni isLet isNum at this;simp only[Bool.or_eq_true,dA,decide_eq_true_iff]at this;omega
theorem Bt {sh:List Int}{c r:Int}(h:di sh c r=true):sh=[]∨gX sh=true:=by
 unfold di at h;rw[dA,Bool.or_eq_true,decide_eq_true_iff]at h;exact h.1
theorem F7 {sh:List Int}{c r:Int}(h:di sh c r=true):0≤c∧c≤701∧0≤r∧r≤998:=by
 unfold di at h;rw[dA,decide_eq_true_iff]at h;exact h.2
theorem Am (sh:List Int)(c r:Int)(ac ar:Bool)(h:di sh c r=true):aY sh c r ac ar=(if sh=[]then []else sh++[33])++pQ c r ac ar:=by
 unfold aY pQ eu;rw[if_pos h];simp only[bG]
theorem UH {sh sh':List Int}{c r c' r':Int}{ac ar uk rX:Bool}(h:di sh c r=true)(k:di sh' c' r'=true)(e:aY sh c r ac ar=aY sh' c' r' uk rX) :
 sh=sh'∧c=c'∧r=r'∧ac=uk∧ar=rX:=by
 obtain⟨h0,h1,h2,_⟩:=F7 h;obtain⟨k0,k1,k2,_⟩:=F7 k;rw[Am _ _ _ _ _ h,Am _ _ _ _ _ k]at e;by_cases hs:sh=[]
 · by_cases ks:sh'=[]
   · rw[if_pos hs,if_pos ks]at e
     exact⟨by rw[hs,ks],UC h0 h1 h2 k0 k1 k2 e⟩
   · rw[if_pos hs,if_neg ks,gL]at e
     exact absurd rfl (Ms c r ac ar 33 (by rw[e];simp))
 · by_cases ks:sh'=[]
   · rw[if_neg hs,if_pos ks,gL]at e
     exact absurd rfl (Ms c' r' uk rX 33 (by rw[← e];simp))
   · rw [if_neg hs,if_neg ks,bG,bG]at e
     have n1:=(Bt h).resolve_left hs;have n2:=(Bt k).resolve_left ks
     obtain ⟨e1,e2⟩:=DV (fun x=>decide (x≠33)) _ _ _ _ (fun x hx=>by rw[decide_eq_true_iff];exact KU _ n1 x hx) (fun x hx=>by rw[decide_eq_true_iff];exact KU _ n2 x hx)
      (fun x hx=>by simp at hx;subst hx;rfl) (fun x hx=>by simp at hx;subst hx;rfl) e
     exact⟨e1,UC h0 h1 h2 k0 k1 k2 (by injection e2)⟩
def bU(w:World)(b:Nat)(s:ByteArray)(c r:Int)(ac ar:Bool):Prop:=w.heap[b]? = some (.cells #[.string s,.int .i64 c,.int .i64 r,.bool ac,.bool ar] 43)
theorem bU.new (w:World)(s:ByteArray)(c r:Int)(ac ar:Bool):bU (w.alloc (.cells #[.string s,.int .i64 c,.int .i64 r,.bool ac,.bool ar] 43)) w.heap.size s c r ac ar:=by
 exact(ko w _).1
theorem bU.lt{w:World}{b:Nat}{s:ByteArray}{c r:Int}{ac ar:Bool}(h:bU w b s c r ac ar):b<w.heap.size:=(dO.1 h).1
theorem bU.below {w w':World}{B b:Nat}{s:ByteArray}{c r:Int}{ac ar:Bool}(h:bU w b s c r ac ar)(hb:Below B w w')(hB:b<B):bU w' b s c r ac ar:=by
 unfold bU;rw[hb.block b hB];exact h
theorem bU.facts {w:World}{b:Nat}{s:ByteArray}{c r:Int}{ac ar:Bool}(h:bU w b s c r ac ar) :
 w.cell? ⟨b,0,none⟩=some (.string s)∧w.cell? ⟨b,1,none⟩=some (.int .i64 c)∧w.cell? ⟨b,2,none⟩=some (.int .i64 r)∧w.cell? ⟨b,3,none⟩=some (.bool ac)∧w.cell? ⟨b,4,none⟩=some (.bool ar) :=
 ⟨by rw[cell_of_row w b 0 _ _ _ h];rfl,by rw[cell_of_row w b 1 _ _ _ h];rfl,by rw[cell_of_row w b 2 _ _ _ h];rfl,by rw[cell_of_row w b 3 _ _ _ h];rfl,by rw[cell_of_row w b 4 _ _ _ h];rfl⟩
structure Rd where
 s:ByteArray
 k:Nat
 sh:ByteArray
 c:Int
 r:Int
 ac:Bool
 ar:Bool
def Rd.rest(d:Rd):List Int:=(sb d.s).drop d.k
def Rd.cells(d:Rd):Array Value:=#[.string d.s,.int .i64 (d.k:Int),.string d.sh,.int .i64 d.c,.int .i64 d.r,.bool d.ac,.bool d.ar]
def Rd.start(s:ByteArray):Rd:=⟨s,0,⟨#[]⟩,0,0,false,false⟩
def jm(x:Int):Bool:=decide (x≠33)
def isRow(l:List Int):Bool:=decide (l≠[]∧l.head? ≠ some 48∧cK l≤999)
def Rd.bK(d:Rd):List Int:=(sb d.s).takeWhile jm
def Rd.jP(d:Rd):Option Rd:=if d.bK.length=d.s.size then some d else if gX d.bK=true then some { d with sh:=strOfNums d.bK,k:=d.bK.length+1 }else none
def Rd.mark(d:Rd):Bool:=decide (d.rest.head? = some 36)
def Rd.xQ(d:Rd):Option Rd:=some { d with ac:=d.mark,k:=d.k+(eu d.mark).length }
def Rd.xR(d:Rd):Option Rd:=some { d with ar:=d.mark,k:=d.k+(eu d.mark).length }
def Rd.col(d:Rd):Option Rd:=if iR (d.rest.takeWhile aL)=true then some { d with c:=lg (d.rest.takeWhile aL),k:=d.k+(d.rest.takeWhile aL).length }else none
def Rd.row(d:Rd):Option Rd:=if isRow (d.rest.takeWhile isNum)=true then some { d with r:=cK (d.rest.takeWhile isNum) - 1,k:=d.k+(d.rest.takeWhile isNum).length }else none
def Rd.fin(d:Rd):Option Rd:=if d.k=d.s.size then some d else none
theorem uT (p:Int→Bool):∀(a b:List Int),(∀x∈a,p x=true)→(∀x,b.head? = some x→p x=false)→(a++b).takeWhile p=a
 | [],[],_,_=>rfl
 | [],y :: b,_,h2=>by rw[gL,List.takeWhile_cons,h2 y rfl];rfl
 | x :: a,b,h,h2=>by
   rw[cu,List.takeWhile_cons,h x (by simp),if_pos rfl,uT p a b (fun z hz=>h z (by simp[hz])) h2]
theorem UF (p:Int→Bool):∀(a b:List Int),(∀x∈a,p x=true)→(a++b).takeWhile p=a++b.takeWhile p
 | [],b,_=>rfl
 | x :: a,b,h=>by
   rw[cu,List.takeWhile_cons,h x (by simp),if_pos rfl,UF p a b (fun z hz=>h z (by simp[hz])),cu]
theorem tC (p:Int→Bool):∀(l:List Int),∀x∈l.takeWhile p,p x=true
 | [],x,hx=>by simp at hx
 | y :: l,x,hx=>by
   rw[List.takeWhile_cons]at hx;by_cases h:p y=true
   · rw[if_pos h]at hx
     rcases List.mem_cons.1 hx with rfl|hx
     · exact h
     · exact tC p l x hx
   · rw[if_neg h]at hx;simp at hx
theorem take_split (p:Int→Bool):∀(l:List Int),l.takeWhile p++l.drop (l.takeWhile p).length=l
 | []=>rfl
 | y :: l=>by
   rw[List.takeWhile_cons];by_cases h:p y=true
   · rw[if_pos h,aO,List.drop_succ_cons,cu,take_split p l]
   · rw[if_neg h];rfl
theorem DY (p:Int→Bool):∀(l:List Int)(x:Int),(l.drop (l.takeWhile p).length).head? = some x→p x=false
 | [],x,h=>by simp at h
 | y :: l,x,h=>by
   rw[List.takeWhile_cons]at h;by_cases hy:p y=true
   · rw[if_pos hy,aO,List.drop_succ_cons]at h;exact DY p l x h
   · rw[if_neg hy]at h;simp at h;subst h;simpa using hy
theorem JG:∀(n:Nat)(l:List Int),l.length=n→l≠[]→(∀x∈l,isNum x=true)→l.head? ≠ some 48→1≤cK l∧aQ (cK l).toNat=l:=by
 intro n
 induction n with
 | zero=>intro l h h2;exact absurd (kg h) h2
 | succ n ih =>
   intro l hl hne aX hh
   obtain ⟨a,x,rfl⟩:∃a x,l=a++[x]:=by
    rcases List.eq_nil_or_concat l with h|⟨a,x,h⟩
    · exact absurd h hne
    · exact⟨a,x,by rw[h,List.concat_eq_append]⟩
   have hx:=iT (aX x (by simp));rw[yM];by_cases ha:a=[]
   · subst ha
     have h48:x≠48:=by intro h;subst h;exact hh rfl
     have hv:cK []=0:=rfl;rw[hv,ou _ (by omega)];refine⟨by omega, ?_⟩;rw[gL];congr 1;omega
   · have hlen:a.length=n:=by rw[ak,fK]at hl;omega
     have h0:a.head? ≠ some 48:=by
      cases a with
      | nil=>exact absurd rfl ha
      | cons y a=>simpa using hh
     obtain⟨h1,h2⟩:=ih a hlen ha (fun z hz=>aX z (by simp[hz])) h0;refine⟨by omega, ?_⟩;rw[sF _ (by omega),show(10*cK a+(x - 48)).toNat / 10=(cK a).toNat from by omega,h2];congr 2;omega
theorem Au:∀(b a:List Int),(∀x∈b,isNum x=true)→0≤cK a→cK a≤cK (a++b)
 | [],a,_,_=>by rw[fM];exact Int.le_refl _
 | x :: b,a,h,h0=>by
   have hx:=iT (h x (by simp));have h1:=yM a x;have h2:=Au b (a++[x]) (fun z hz=>h z (by simp[hz])) (by omega);rw[bG,List.singleton_append]at h2;omega
theorem Ae(d:Rd)(m:Nat):(sb d.s).drop (d.k+m)=d.rest.drop m:=by unfold Rd.rest;rw[List.drop_drop]
theorem KO (d:Rd):d.rest=eu d.mark++d.rest.drop (eu d.mark).length:=by
 unfold Rd.mark;cases h:d.rest with
 | nil=>rfl
 | cons x l =>
   by_cases hx:x=36
   · subst hx;simp[eu]
   · have:(x :: l).head? ≠ some 36:=by simpa using hx
     rw[decide_eq_false this];simp[eu]
def gH(s:ByteArray):Option Rd:=((((((Rd.start s).jP.bind Rd.xQ).bind Rd.col).bind Rd.xR).bind Rd.row).bind Rd.fin)
theorem R5 {l:List Int}(h:gX l=true):l≠[]∧l.length≤12:=by
 unfold gX at h;rw[dA,decide_eq_true_iff,decide_eq_true_iff]at h;exact⟨by intro h0;rw[h0]at h;simp at h,h.2.2⟩
theorem QV{l:List Int}(h:isRow l=true):l≠[]∧l.head? ≠ some 48∧cK l≤999:=by unfold isRow at h;rw[decide_eq_true_iff]at h;exact h
theorem xh (s:ByteArray)(d:Rd)(h:gH s=some d):d.sh.size≤12∧di (sb d.sh) d.c d.r=true∧aY (sb d.sh) d.c d.r d.ac d.ar=sb s:=by
 unfold gH at h;simp only[Option.bind_eq_some_iff]at h;obtain⟨d5,⟨d4,⟨d3,⟨d2,⟨d1,h1,h2⟩,h3⟩,h4⟩,h5⟩,h6⟩:=h
 -- the sheet
 have g1:d1.s=s∧sb s=(if sb d1.sh=[]then []else sb d1.sh++[33])++d1.rest∧(sb d1.sh=[]∨gX (sb d1.sh)=true)∧d1.sh.size≤12:=by
  unfold Rd.jP at h1;by_cases hc:(Rd.start s).bK.length=(Rd.start s).s.size
  · rw[if_pos hc]at h1
    injection h1 with h1;subst h1;exact⟨rfl,rfl,.inl rfl,by show(0:Nat)≤12;omega⟩
  · rw [if_neg hc]at h1
    by_cases hn:gX (Rd.start s).bK=true
    · rw [if_pos hn]at h1
      injection h1 with h1;subst h1
      have hb:Bytes (Rd.start s).bK:=fun x hx=>sV s x (by
       have:=take_split jm (sb s);rw[← this];exact List.mem_append_left _ hx)
      obtain⟨q1,q2⟩:=R5 hn;refine⟨rfl, ?_,.inr (by show gX (sb (strOfNums _))=true;rw[jd _ hb];exact hn),by show(strOfNums _).size≤12;rw[strOfNums_size];exact q2⟩;show sb s=(if sb (strOfNums (Rd.start s).bK)=[]then []else sb (strOfNums (Rd.start s).bK)++[33])++(sb s).drop ((Rd.start s).bK.length+1);rw[jd _ hb,if_neg q1];have e:=take_split jm (sb s)
      have hlt:(Rd.start s).bK.length<(sb s).length:=by
       have:=congrArg List.length e;rw[ak]at this;have h3:(Rd.start s).bK.length≠s.size:=hc;have h4:=aV s;show((sb s).takeWhile jm).length<_;have h5:(Rd.start s).bK=(sb s).takeWhile jm:=rfl;rw[h5]at h3;omega
      have hh:=DY jm (sb s);have h6:(sb s).drop (Rd.start s).bK.length=(sb s)[(Rd.start s).bK.length] :: (sb s).drop ((Rd.start s).bK.length+1):=List.drop_eq_getElem_cons hlt
      have h7:=hh ((sb s)[(Rd.start s).bK.length]) (by
       show((sb s).drop (Rd.start s).bK.length).head? = _;rw[h6];rfl)
      have h8:(sb s)[(Rd.start s).bK.length]=33:=by unfold jm at h7;simpa using h7
      rw[h8]at h6;rw[bG,List.singleton_append, ← h6];exact e.symm
    · rw[if_neg hn]at h1;cases h1
 obtain⟨e1,t1,n1,z1⟩:=g1
 -- the mark ahead of the column
 have g2:d2.s=d1.s∧d2.sh=d1.sh∧d1.rest=eu d2.ac++d2.rest:=by
  unfold Rd.xQ at h2;injection h2 with h2;subst h2;refine⟨rfl,rfl, ?_⟩;show d1.rest=eu d1.mark++(sb d1.s).drop (d1.k+(eu d1.mark).length);rw[Ae];exact KO d1
 obtain⟨e2,f2,t2⟩:=g2
 have g3:d3.s=d2.s∧d3.sh=d2.sh∧d3.ac=d2.ac∧d2.rest=bf d3.c++d3.rest∧0≤d3.c∧d3.c≤701:=by
  unfold Rd.col at h3;by_cases hc:iR (d2.rest.takeWhile aL)=true
  · rw[if_pos hc]at h3;injection h3 with h3;subst h3
    obtain⟨q1,q2,q3⟩:=Yc _ hc;refine⟨rfl,rfl,rfl, ?_,q2,q3⟩;show d2.rest=bf (lg (d2.rest.takeWhile aL))++(sb d2.s).drop (d2.k+(d2.rest.takeWhile aL).length);rw[q1,Ae,take_split]
  · rw[if_neg hc]at h3;cases h3
 obtain⟨e3,f3,a3,t3,c0,c1⟩:=g3
 have g4:d4.s=d3.s∧d4.sh=d3.sh∧d4.ac=d3.ac∧d4.c=d3.c∧d3.rest=eu d4.ar++d4.rest:=by
  unfold Rd.xR at h4;injection h4 with h4;subst h4;refine⟨rfl,rfl,rfl,rfl, ?_⟩;show d3.rest=eu d3.mark++(sb d3.s).drop (d3.k+(eu d3.mark).length);rw[Ae];exact KO d3
 obtain⟨e4,f4,a4,b4,t4⟩:=g4
 have g5:d5.s=d4.s∧d5.sh=d4.sh∧d5.ac=d4.ac∧d5.c=d4.c∧d5.ar=d4.ar∧d4.rest=aQ (d5.r+1).toNat++d5.rest∧0≤d5.r∧d5.r≤998:=by
  unfold Rd.row at h5;by_cases hc:isRow (d4.rest.takeWhile isNum)=true
  · rw[if_pos hc]at h5;injection h5 with h5;subst h5
    obtain⟨q1,q2,q3⟩:=QV hc;obtain⟨q4,q5⟩:=JG _ _ rfl q1 (tC isNum _) q2;refine⟨rfl,rfl,rfl,rfl,rfl, ?_,by show 0≤cK (d4.rest.takeWhile isNum) - 1;omega,by show cK (d4.rest.takeWhile isNum) - 1≤998;omega⟩;show d4.rest=aQ (cK (d4.rest.takeWhile isNum) - 1+1).toNat++(sb d4.s).drop (d4.k+(d4.rest.takeWhile isNum).length);rw[Int.sub_add_cancel,q5,Ae,take_split]
  · rw[if_neg hc]at h5;cases h5
 obtain⟨e5,f5,a5,b5,r5,t5,r0,r1⟩:=g5
 have g6:d=d5∧d5.rest=[]:=by
  unfold Rd.fin at h6;by_cases hc:d5.k=d5.s.size
  · rw[if_pos hc]at h6;injection h6 with h6
    refine⟨h6.symm, ?_⟩;unfold Rd.rest;rw[hc, ← aV,List.drop_length]
  · rw[if_neg hc]at h6;cases h6
 obtain⟨rfl,t6⟩:=g6;have hsh:d.sh=d1.sh:=by rw[f5,f4,f3,f2]
 have hac:d.ac=d2.ac:=by rw[a5,a4,a3]
 have hc:d.c=d3.c:=by rw[b5,b4]
 have hm:di (sb d.sh) d.c d.r=true:=by
  unfold di;rw[dA,Bool.or_eq_true,decide_eq_true_iff,decide_eq_true_iff,hsh,hc];exact⟨n1,by omega,by omega,by omega,by omega⟩
 refine⟨by rw[hsh];exact z1,hm, ?_⟩;rw[Am _ _ _ _ _ hm,t1,t2,t3,t4,t5,t6,hsh,hc,hac,r5,fM];rfl
def EF(l:List Int):Prop:=∀sh c r ac ar,di sh c r=true→aY sh c r ac ar≠l
def mV (l:List Int)(e:Ending):Prop :=
 (∃s c r ac ar,s.size≤12∧di (sb s) c r=true∧aY (sb s) c r ac ar=l∧e = .returned (.tuple #[.agg #[.string s,.int .i64 c,.int .i64 r,.bool ac,.bool ar],.bool true])) ∨
 (EF l∧e = .returned (.tuple #[.agg #[.string ⟨#[]⟩,.int .i64 0,.int .i64 0,.bool false,.bool false],.bool false]))
theorem Rz (d:Rd)(b:Bool)(t:List Int)(h:d.rest=eu b++t)(ht:∀x,t.head? = some x→x≠36):d.mark=b:=by
 unfold Rd.mark;rw[h];cases b with
 | true=>rfl
 | false =>
   rw[decide_eq_false_iff_not];intro hx;exact ht 36 hx rfl
theorem aaN (r:Int)(h0:0≤r)(h1:r≤998):isRow (aQ (r+1).toNat)=true:=by
 have hh:∀(n u:Nat),u<n→1≤u→(aQ u).head? ≠ some 48:=by
  intro n
  induction n with
  | zero=>intro u h;omega
  | succ n ih =>
    intro u hu h1;by_cases h:u<10
    · rw[ou u h];simp;omega
    · rw[sF u h]
      have:=ih (u / 10) (by omega) (by omega);cases hd:aQ (u / 10)with
      | nil=>exact absurd hd (sG _)
      | cons y l=>rw[hd]at this;simpa using this
 unfold isRow;rw[decide_eq_true_iff];refine⟨sG _,hh _ _ (Nat.lt_succ_self _) (by omega), ?_⟩;rw[Hg];omega
theorem BF (s:ByteArray)(h:gH s=none):EF (sb s):=by
 intro sh c r ac ar hm e;obtain⟨c0,c1,r0,r1⟩:=F7 hm;rw[Am _ _ _ _ _ hm]at e
 -- the sheet
 have g1:∃d1,(Rd.start s).jP=some d1∧d1.rest=pQ c r ac ar∧d1.s=s∧d1.k+d1.rest.length=s.size:=by
  by_cases hs:sh=[]
  · rw [if_pos hs,gL]at e
    have hp:(Rd.start s).bK=sb s:=by
     show(sb s).takeWhile jm=sb s;rw[← e, ← fM (pQ c r ac ar),uT jm _ [] (fun x hx=>by unfold jm;rw[decide_eq_true_iff];exact Ms c r ac ar x hx) (fun x hx=>by simp at hx),fM]
    refine⟨Rd.start s, ?_,e.symm,rfl,by show 0+(sb s).length=s.size;rw[aV];omega⟩;unfold Rd.jP;rw[hp,if_pos (show(sb s).length=(Rd.start s).s.size from aV s)]
  · rw [if_neg hs,bG]at e
    have hn:=(Bt hm).resolve_left hs
    have hp:(Rd.start s).bK=sh:=by
     show(sb s).takeWhile jm=sh;rw[← e];exact uT jm _ _ (fun x hx=>by unfold jm;rw[decide_eq_true_iff];exact KU _ hn x hx) (fun x hx=>by simp at hx;subst hx;rfl)
    have hlen:¬ sh.length=(Rd.start s).s.size:=by
     show ¬ sh.length=s.size;rw[← aV, ← e];simp only[ak,aO];omega
    refine⟨{ Rd.start s with sh:=strOfNums sh,k:=sh.length+1 }, ?_, ?_,rfl, ?_⟩
    · unfold Rd.jP;rw[hp,if_neg hlen,if_pos hn]
    · show(sb s).drop (sh.length+1)=_
      rw[← e, ← List.drop_drop,List.drop_left];rfl
    · show sh.length+1+((sb s).drop (sh.length+1)).length=s.size
      rw[List.length_drop, ← aV, ← e];simp only[ak,aO];omega
 obtain⟨d1,h1,t1,s1,k1⟩:=g1;have Gf:∀x,aL x=true→x≠36:=by intro x hx;have:=ru hx;omega
 have Gg:∀x,isNum x=true→x≠36:=by intro x hx;have:=iT hx;omega
 obtain ⟨d2,h2,t2,s2,k2⟩:∃d2,d1.xQ=some d2∧d2.rest=bf c++(eu ar++aQ (r+1).toNat)∧d2.s=s∧d2.k=d1.k+(eu ac).length:=by
  have hmk:=Rz d1 ac (bf c++(eu ar++aQ (r+1).toNat)) t1 (fun x hx=>Gf x (uJ c x (head_append (E9 c c0 c1) hx)));refine⟨_,rfl, ?_,s1,by show d1.k+(eu d1.mark).length=_;rw[hmk]⟩;show(sb d1.s).drop (d1.k+(eu d1.mark).length)=_;rw[Ae,hmk,t1];unfold pQ;rw[List.drop_left]
 have zz:∀x,(eu ar++aQ (r+1).toNat).head? = some x→aL x=false:=by
  intro x hx;cases ar with
  | true=>simp[eu]at hx;subst hx;decide
  | false =>
    have hx':(aQ (r+1).toNat++[]).head? = some x:=by simpa [eu]using hx
    have:=iT (qy _ x (head_append (sG _) hx'));exact QN (by omega)
 obtain ⟨d3,h3,t3,s3,k3⟩:∃d3,d2.col=some d3∧d3.rest=eu ar++aQ (r+1).toNat∧d3.s=s∧d3.k=d2.k+(bf c).length:=by
  have hp:d2.rest.takeWhile aL=bf c:=by rw[t2];exact uT aL _ _ (uJ c) zz
  refine⟨{ d2 with c:=lg (d2.rest.takeWhile aL),k:=d2.k+(d2.rest.takeWhile aL).length }, ?_, ?_,s2,by show d2.k+(d2.rest.takeWhile aL).length=_;rw[hp]⟩
  · unfold Rd.col;rw[if_pos (by rw[hp];exact(Ls c c0 c1).1)]
  · show(sb d2.s).drop (d2.k+(d2.rest.takeWhile aL).length)=_
    rw[Ae,hp,t2,List.drop_left]
 obtain ⟨d4,h4,t4,s4,k4⟩:∃d4,d3.xR=some d4∧d4.rest=aQ (r+1).toNat∧d4.s=s∧d4.k=d3.k+(eu ar).length:=by
  have hmk:=Rz d3 ar (aQ (r+1).toNat) t3 (fun x hx=>Gg x (qy _ x (head_append (b:=[]) (sG _) (by rw[fM];exact hx))));refine⟨_,rfl, ?_,s3,by show d3.k+(eu d3.mark).length=_;rw[hmk]⟩;show(sb d3.s).drop (d3.k+(eu d3.mark).length)=_;rw[Ae,hmk,t3,List.drop_left]
 obtain ⟨d5,h5,s5,k5⟩:∃d5,d4.row=some d5∧d5.s=s∧d5.k=d4.k+(aQ (r+1).toNat).length:=by
  have hp:d4.rest.takeWhile isNum=aQ (r+1).toNat:=by
   rw[t4];have:=uT isNum (aQ (r+1).toNat) [] (qy _) (fun x hx=>by simp at hx);rw[fM]at this;exact this
  refine⟨{ d4 with r:=cK (d4.rest.takeWhile isNum) - 1,k:=d4.k+(d4.rest.takeWhile isNum).length }, ?_,s4,by show d4.k+(d4.rest.takeWhile isNum).length=_;rw[hp]⟩;unfold Rd.row;rw[if_pos (by rw[hp];exact aaN r r0 r1)]
 have h6:d5.fin=none:=by
  unfold gH at h;rw[h1]at h;simp only[Option.bind_some]at h;rw[h2]at h;simp only[Option.bind_some]at h;rw[h3]at h;simp only[Option.bind_some]at h;rw[h4]at h;simp only[Option.bind_some]at h;rw[h5]at h;exact h
 unfold Rd.fin at h6
 have hk:d5.k=d5.s.size:=by
  rw[s5];rw[t1]at k1;unfold pQ at k1;simp only[ak]at k1;omega
 rw[if_pos hk]at h6;cases h6
theorem OG (c:Int):Bytes (bf c):=by
 intro x hx;have:=ru (uJ c x hx);omega
theorem OH (u:Nat):Bytes (aQ u):=by
 intro x hx;have:=iT (qy u x hx);omega
theorem OI (b:Bool):Bytes (eu b):=by
 intro x hx;have:=wL b x hx;rw[decide_eq_true_iff]at this;omega
theorem zk (s:ByteArray)(c r:Int)(ac ar:Bool):Bytes (aY (sb s) c r ac ar):=by
 by_cases h:di (sb s) c r=true
 · rw[Am _ _ _ _ _ h]
   unfold pQ;refine Bytes.append ?_ ((OI ac).append ((OG c).append ((OI ar).append (OH _))));split
   · exact Bytes.nil
   · exact Bytes.append (sV s) (by intro x hx;simp at hx;omega)
 · unfold aY;rw[if_neg h];exact Bytes.nil
theorem TQ{a b:ByteArray}(h:sb a=sb b):a=b:=by rw[← l5 a, ← l5 b,h]
theorem mV.text {s:ByteArray}{c r:Int}{ac ar:Bool}{e:Ending}(hm:di (sb s) c r=true)(h:mV (sb (strOfNums (aY (sb s) c r ac ar))) e):e = .returned (.tuple #[.agg #[.string s,.int .i64 c,.int .i64 r,.bool ac,.bool ar],.bool true]):=by
 rw[jd _ (zk s c r ac ar)]at h;rcases h with ⟨s',c',r',uk,rX,_,h2,h3,h4⟩|⟨h1,_⟩
 · obtain⟨e1,e2,e3,e4,e5⟩:=UH h2 hm h3
   rw[h4,TQ e1,e2,e3,e4,e5]
 · exact absurd rfl (h1 _ _ _ _ _ hm)
structure ag where
 kind:Int
 text:ByteArray
 num:Int
 sh:ByteArray
 c:Int
 r:Int
 ac:Bool
 ar:Bool
 pos:Int
def ag.zero:ag:=⟨0,⟨#[]⟩,0,⟨#[]⟩,0,0,false,false,0⟩
def ag.goto(t:ag)(p:Int):ag:={ t with pos:=p }
def isWord(x:Int):Bool:=isLet x||(isNum x||decide (x=36∨x=33))
def kF (l:List Int):Option (ag × Nat) :=
 if (1<(l.takeWhile isNum).length∧l.head? = some 48)∨9223372036854775807<cK (l.takeWhile isNum)then none
 else some ({ ag.zero with kind:=1,num:=cK (l.takeWhile isNum) },(l.takeWhile isNum).length)
def dS:List Int→Option (List Int × Nat)
 | []=>none
 | x :: l =>
   if x<32 then none
   else if x≠34 then (dS l).map fun p=>(x :: p.1,p.2+1)
   else match l with
    | y :: m=>if y=34 then (dS m).map fun p=>(34 :: p.1,p.2+2)else some ([],1)
    | []=>some ([],1)
def kG(l:List Int):Option (ag × Nat):=(dS l).map fun p=>({ ag.zero with kind:=2,text:=strOfNums p.1 },p.2+1)
def jb(l:List Int):Bool:=decide (∀x∈l,(aL x||isNum x)=true)&&(decide (1≤l.length∧l.length≤12)&&aL (l.getD 0 0))
def l7 (l:List Int):Option (ag × Nat) :=
 match gH (strOfNums (l.takeWhile isWord))with
 | some d=>some ({ ag.zero with kind:=4,sh:=d.sh,c:=d.c,r:=d.r,ac:=d.ac,ar:=d.ar },(l.takeWhile isWord).length)
 | none=>if jb (l.takeWhile isWord)=true then some ({ ag.zero with kind:=3,text:=strOfNums (l.takeWhile isWord) },(l.takeWhile isWord).length)else none
def o6(l:List Int):Option (ag × Nat):=if l.take 5=[35,82,69,70,33]then some ({ ag.zero with kind:=6 },5)else none
def kI:List Int→Nat
 | []=>0
 | x :: l =>
   if (x=60∧(l.head? = some 62∨l.head? = some 61))∨(x=62∧l.head? = some 61)then 2
   else if x=43∨x=45∨x=42∨x=47∨x=38∨x=61∨x=60∨x=62∨x=40∨x=41∨x=44∨x=58 then 1 else 0
def nS(l:List Int):Option (ag × Nat):=if kI l=0 then none else some ({ ag.zero with kind:=5,text:=strOfNums (l.take (kI l)) },kI l)
def eO:List Int→Option (ag × Nat)
 | []=>none
 | x :: l=>if isNum x=true then kF (x :: l)else if x=34 then kG l else if x=35 then o6 (x :: l)else if isLet x=true∨x=36 then l7 (x :: l)else nS (x :: l)
def eB:Nat→Nat→List Int→Option (List ag)
 | _,p,[]=>some [ag.zero.goto p]
 | 0,_,_ :: _=>none
 | f + 1,p,x :: l =>
   if x=32 then eB f (p+1) l
   else match eO (x :: l)with
    | none=>none
    | some (t,n)=>(eB f (p+n) ((x :: l).drop n)).map (t.goto p :: ·)
def fT(l:List Int):Option (List ag):=eB l.length 0 l
theorem qJ(x:Int)(l:List Int):eO (x :: l)=if isNum x=true then kF (x :: l)else if x=34 then kG l else if x=35 then o6 (x :: l)else if isLet x=true∨x=36 then l7 (x :: l)else nS (x :: l):=rfl
theorem sU (x:Int)(l:List Int):dS (x :: l)=if x<32 then none else if x≠34 then (dS l).map fun p=>(x :: p.1,p.2+1)else match l with
 | y :: m=>if y=34 then (dS m).map fun p=>(34 :: p.1,p.2+2)else some ([],1)
 | []=>some ([],1):=by conv=>lhs;rw[dS.eq_def]
theorem rC (f p:Nat)(x:Int)(l:List Int):eB (f+1) p (x :: l)=if x=32 then eB f (p+1) l else match eO (x :: l)with
 | none=>none
 | some (t,n)=>(eB f (p+n) ((x :: l).drop n)).map (t.goto p :: ·):=rfl
theorem Al (p:Int→Bool)(l:List Int):(l.takeWhile p).length≤l.length:=by
 have h:=congrArg List.length (take_split p l);rw[ak]at h;omega
theorem G8 (p:Int→Bool)(x:Int)(l:List Int)(h:p x=true):0<((x :: l).takeWhile p).length:=by
 rw[List.takeWhile_cons,if_pos h];simp
theorem Gx:∀(n:Nat)(l:List Int)(t:List Int)(k:Nat),l.length≤n→dS l=some (t,k)→0<k∧k≤l.length
 | _,[],_,_,_,h=>by simp[dS]at h
 | 0,_ :: _,_,_,hn,_=>by simp at hn
 | n + 1, x :: l,t,k,hn,h=>by
   rw[sU]at h;by_cases h1:x<32
   · rw[if_pos h1]at h;cases h
   · rw [if_neg h1]at h
     by_cases h2:x≠34
     · rw [if_pos h2]at h
       cases hq:dS l with
       | none=>rw[hq]at h;cases h
       | some q =>
         rw[hq]at h;simp only[Option.map_some,bA,bg]at h;have:=Gx n l q.1 q.2 (by simp at hn;omega) hq;simp only[aO];omega
     · rw [if_neg h2]at h
       cases l with
       | nil=>simp at h;simp only[aO,dI];omega
       | cons y m =>
         by_cases hy:y=34
         · simp only [hy,if_true]at h
           cases hq:dS m with
           | none=>rw[hq]at h;cases h
           | some q =>
             rw[hq]at h;simp only[Option.map_some,bA,bg]at h;have:=Gx n m q.1 q.2 (by simp at hn;omega) hq;simp only[aO];omega
         · simp only[hy,if_false,bA,bg]at h
           simp only[aO];omega
theorem rF (x:Int)(l:List Int):kI (x :: l)=if (x=60∧(l.head? = some 62∨l.head? = some 61))∨(x=62∧l.head? = some 61)then 2
 else if x=43∨x=45∨x=42∨x=47∨x=38∨x=61∨x=60∨x=62∨x=40∨x=41∨x=44∨x=58 then 1 else 0:=rfl
theorem Ui:∀l:List Int,kI l≤l.length
 | []=>ah _
 | x :: l=>by
   rw[rF];by_cases h:(x=60∧(l.head? = some 62∨l.head? = some 61))∨(x=62∧l.head? = some 61)
   · rw[if_pos h]
     have h0:l≠[]:=by rintro rfl;simp at h
     have:=List.length_pos_iff.2 h0;simp only[aO];omega
   · rw[if_neg h]
     split <;> simp
theorem Kz {x:Int}(h:isLet x=true∨x=36):isWord x=true:=by
 unfold isWord;rcases h with h|h
 · rw[h];rfl
 · subst h;decide
theorem qK (l:List Int)(t:ag)(n:Nat)(h:eO l=some (t,n)):0<n∧n≤l.length:=by
 cases l with
 | nil=>simp[eO]at h
 | cons x l =>
   rw[qJ]at h;by_cases h1:isNum x=true
   · rw [if_pos h1]at h
     unfold kF at h;split at h
     · cases h
     · simp only[bA,bg]at h
       rw[← h.2];exact⟨G8 isNum x l h1,Al _ _⟩
   · rw [if_neg h1]at h
     by_cases h2:x=34
     · rw [if_pos h2]at h
       unfold kG at h;cases hq:dS l with
       | none=>rw[hq]at h;cases h
       | some q =>
         rw[hq]at h;simp only[Option.map_some,bA,bg]at h;have:=Gx _ l q.1 q.2 (ah _) hq;simp only[aO];omega
     · rw [if_neg h2]at h
       by_cases h3:x=35
       · rw [if_pos h3]at h
         unfold o6 at h;split at h
         · rename_i h5
           simp only[bA,bg]at h;have:=congrArg List.length h5;rw[gK]at this;simp only[aO,dI]at this ⊢;omega
         · cases h
       · rw [if_neg h3]at h
         by_cases h4:isLet x=true∨x=36
         · rw [if_pos h4]at h
           unfold l7 at h;split at h
           · simp only[bA,bg]at h
             rw[← h.2];exact⟨G8 isWord x l (Kz h4),Al _ _⟩
           · split at h
             · simp only[bA,bg]at h
               rw[← h.2];exact⟨G8 isWord x l (Kz h4),Al _ _⟩
             · cases h
         · rw [if_neg h4]at h
           unfold nS at h;split at h
           · cases h
           · rename_i h5
             simp only[bA,bg]at h;rw[← h.2];exact⟨by omega,Ui _⟩
theorem FY:∀(f g p:Nat)(l:List Int),l.length≤f→l.length≤g→eB f p l=eB g p l
 | 0,0,_,_,_,_=>rfl
 | _,_,_,[],_,_=>by unfold eB;rfl
 | 0,_,_,_ :: _,h,_=>by simp at h
 | _,0,_,_ :: _,_,h=>by simp at h
 | f + 1,g+1,p,x :: l,h,h2=>by
   simp only[aO]at h h2;rw[rC,rC];by_cases hx:x=32
   · rw[if_pos hx,if_pos hx];exact FY f g (p+1) l (by omega) (by omega)
   · rw [if_neg hx,if_neg hx]
     cases ht:eO (x :: l)with
     | none=>rfl
     | some q =>
       obtain⟨t,n⟩:=q;have hn:=qK _ _ _ ht;simp only;rw[FY f g (p+n) ((x :: l).drop n) (by rw[List.length_drop];simp only[aO];omega) (by rw[List.length_drop];simp only[aO];omega)]
def Alike(b b':List Int):Prop:=b'.head? = b.head? ∨ b'.head? = some 32
theorem ZC {p:Int→Bool}(hp:p 32=false){b b':List Int}(h:Alike b b')(hb:∀x,b.head? = some x→p x=false):∀x,b'.head? = some x→p x=false:=by
 intro x hx;rcases h with h|h
 · exact hb x (by rw[← h];exact hx)
 · rw[h]at hx;injection hx with hx;rw[← hx];exact hp
theorem Ut {p:Int→Bool}(hp:p 32=false){a b b':List Int}(h:Alike b b')(hs:((a++b).takeWhile p).length=a.length):(a++b).takeWhile p=a∧(a++b').takeWhile p=a:=by
 have e:=take_split p (a++b);rw[hs,List.drop_left]at e;have e1:(a++b).takeWhile p=a:=List.append_cancel_right e;refine⟨e1, ?_⟩;have aX:∀x∈a,p x=true:=fun x hx=>tC p (a++b) x (by rw[e1];exact hx)
 have hh:=DY p (a++b);rw[hs,List.drop_left]at hh;exact uT p a b' aX (ZC hp h hh)
theorem Ll {b b':List Int}(h:Alike b b'):∀(n:Nat)(a t:List Int),a.length≤n→dS (a++b)=some (t,a.length)→dS (a++b')=some (t,a.length)
 | _,[],t,_,hq=>by
   exfalso;have:=Gx _ _ _ _ (ah _) hq;simp at this
 | 0,_ :: _,_,hn,_=>by simp at hn
 | n + 1, x :: a,t,hn,hq=>by
   rw[cu,sU]at hq ⊢;by_cases h1:x<32
   · rw[if_pos h1]at hq;cases hq
   · rw [if_neg h1]at hq ⊢
     by_cases h2:x≠34
     · rw [if_pos h2]at hq ⊢
       cases hr:dS (a++b)with
       | none=>rw[hr]at hq;cases hq
       | some q =>
         rw[hr]at hq;simp only[Option.map_some,bA,bg,aO]at hq;have h3:=Ll h n a q.1 (by simp at hn;omega) (by rw[hr, ← show q.2=a.length from by omega]);rw[h3];simp only[Option.map_some,aO,bA,bg,and_true];exact hq.1
     · rw [if_neg h2]at hq ⊢
       cases a with
       | nil =>
         simp only[gL]at hq ⊢;cases b with
         | nil =>
           simp only[bA,bg]at hq;cases b' with
           | nil=>simpa using hq
           | cons y m =>
             rcases h with h|h
             · simp at h
             · simp at h;subst h;simpa using hq
         | cons z m =>
           by_cases hz:z=34
           · exfalso
             simp only[hz,if_true]at hq;cases hr:dS m with
             | none=>rw[hr]at hq;cases hq
             | some q=>rw[hr]at hq;simp at hq
           · simp only [hz,if_false]at hq
             cases b' with
             | nil=>simpa using hq
             | cons y k =>
               have hy:¬ y=34:=by
                rcases h with h|h
                · simp at h;rw[h];exact hz
                · simp at h;omega
               simp only[hy,if_false];exact hq
       | cons y m =>
         simp only[cu]at hq ⊢;by_cases hy:y=34
         · simp only [hy,if_true]at hq ⊢
           cases hr:dS (m++b)with
           | none=>rw[hr]at hq;cases hq
           | some q =>
             rw[hr]at hq;simp only[Option.map_some,bA,bg,aO]at hq;have h3:=Ll h n m q.1 (by simp at hn;omega) (by rw[hr, ← show q.2=m.length from by omega]);rw[h3];simp only[Option.map_some,aO,bA,bg,and_true];exact hq.1
         · simp only[hy,if_false,bA,bg,aO]at hq
           exfalso;omega
theorem af' {b b':List Int}(h:Alike b b')(x:Int)(hs:kI (x :: b)=1):kI (x :: b')=1:=by
 rw[rF]at hs ⊢;by_cases h2:(x=60∧(b.head? = some 62∨b.head? = some 61))∨(x=62∧b.head? = some 61)
 · rw[if_pos h2]at hs;omega
 · rw [if_neg h2]at hs
   have h3:¬ ((x=60∧(b'.head? = some 62∨b'.head? = some 61))∨(x=62∧b'.head? = some 61)):=by
    rcases h with h|h
    · rw[h];exact h2
    · rw[h];simp
   rw[if_neg h3];exact hs
theorem take_len(a b:List Int):(a++b).take a.length=a:=List.take_left
theorem ag0 {a b b':List Int}{t:ag}(h:Alike b b')(hq:eO (a++b)=some (t,a.length)):eO (a++b')=some (t,a.length):=by
 cases a with
 | nil =>
   have:=(qK _ _ _ hq).1;simp at this
 | cons x a =>
   have hsp:∀(p:Int→Bool),p 32=false→((x :: a++b).takeWhile p).length=(x :: a).length→(x :: a++b').takeWhile p=(x :: a++b).takeWhile p:=by
    intro p hp hl;obtain⟨e1,e2⟩:=Ut hp h hl;rw[e1,e2]
   rw[cu,qJ]at hq ⊢;by_cases h1:isNum x=true
   · rw [if_pos h1]at hq ⊢
     have hn:((x :: a++b).takeWhile isNum).length=(x :: a).length:=by
      unfold kF at hq;split at hq
      · cases hq
      · simp only[bA,bg]at hq;exact hq.2
     have e:=hsp isNum (by decide) hn;rw[← hq];unfold kF;rw[cu,cu]at e;rw[e];rfl
   · rw [if_neg h1]at hq ⊢
     by_cases h2:x=34
     · rw [if_pos h2]at hq ⊢
       unfold kG at hq ⊢;cases hr:dS (a++b)with
       | none=>rw[hr]at hq;cases hq
       | some q =>
         rw[hr]at hq;simp only[Option.map_some,bA,bg,aO]at hq;have h3:=Ll h _ a q.1 (ah _) (by rw[hr, ← show q.2=a.length from by omega]);rw[h3];simp only[Option.map_some,aO,bA,bg,and_true];exact hq.1
     · rw [if_neg h2]at hq ⊢
       by_cases h3:x=35
       · rw [if_pos h3]at hq ⊢
         unfold o6 at hq ⊢;by_cases h5:(x :: (a++b)).take 5=[35,82,69,70,33]
         · rw[if_pos h5]at hq
           simp only[bA,bg]at hq;have e1:(x :: (a++b)).take 5=x :: a:=by rw[hq.2, ← cu];exact take_len _ _
           have e2:(x :: (a++b')).take 5=x :: a:=by rw[hq.2, ← cu];exact take_len _ _
           rw[e1]at h5;rw[e2,if_pos h5,hq.1];exact congrArg (fun k=>some (t,k)) hq.2
         · rw[if_neg h5]at hq;cases hq
       · rw [if_neg h3]at hq ⊢
         by_cases h4:isLet x=true∨x=36
         · rw [if_pos h4]at hq ⊢
           have hn:((x :: a++b).takeWhile isWord).length=(x :: a).length:=by
            unfold l7 at hq;split at hq
            · simp only[bA,bg]at hq;exact hq.2
            · split at hq
              · simp only[bA,bg]at hq;exact hq.2
              · cases hq
           have e:=hsp isWord (by decide) hn;rw[← hq];unfold l7;rw[cu,cu]at e;rw[e]
         · rw [if_neg h4]at hq ⊢
           unfold nS at hq ⊢;by_cases h5:kI (x :: (a++b))=0
           · rw[if_pos h5]at hq;cases hq
           · rw [if_neg h5]at hq
             simp only[bA,bg]at hq
             have e:kI (x :: (a++b'))=kI (x :: (a++b)):=by
              cases a with
              | nil=>rw[hq.2];exact af' h x hq.2
              | cons y a=>rw[rF,rF];rfl
             rw[e,if_neg h5, ← hq.1,hq.2];have e1:(x :: (a++b)).take (x :: a).length=x :: a:=by rw[← cu];exact take_len _ _
             have e2:(x :: (a++b')).take (x :: a).length=x :: a:=by rw[← cu];exact take_len _ _
             rw[e1,e2]
structure bC where
 sh:ByteArray
 c:Int
 r:Int
 ac:Bool
 ar:Bool
def bC.zero:bC:=⟨⟨#[]⟩,0,0,false,false⟩
def ag.dw(t:ag):bC:=⟨t.sh,t.c,t.r,t.ac,t.ar⟩
structure Nd where
 kind:Int
 num:Int
 text:ByteArray
 ref:bC
 af:bC
 kids:List Int
def Nd.zero:Nd:=⟨0,0,⟨#[]⟩,bC.zero,bC.zero,[]⟩
abbrev dR:=Except Int (List Nd × Nat × List ag)
abbrev Args:=Except Int (List Nd × List Int × List ag)
def iC {α β γ δ : Type}(x:Option (Except Int (α × β × γ)))(k : α → β → γ → Option (Except Int δ)):Option (Except Int δ) :=
 match x with
 | none=>none
 | some (.error e)=>some (.error e)
 | some (.ok (a,b,c))=>k a b c
def au (s:ByteArray)(ts:List ag):Bool:=match ts with
 | t :: _=>decide (t.kind=5)&&decide (t.text=s)
 | []=>false
def fC:Nat→List (ByteArray × Int)
 | 0=>[(⟨#[61]⟩,9),(⟨#[60,62]⟩,10),(⟨#[60]⟩,11),(⟨#[60,61]⟩,12),(⟨#[62]⟩,13),(⟨#[62,61]⟩,14)]
 | 1=>[(⟨#[38]⟩,15)]
 | 2=>[(⟨#[43]⟩,16),(⟨#[45]⟩,17)]
 | _=>[(⟨#[42]⟩,18),(⟨#[47]⟩,19)]
def eH (n:Nat)(ts:List ag):Int:=match (fC n).find? fun p=>au p.1 ts with
 | some p=>p.2
 | none=>0
def eD(a b:bC):Bool:=decide (b.sh=⟨#[]⟩)&&(decide (a.c≤b.c)&&decide (a.r≤b.r))
def sN (ts:List ag):Int:=match ts with
 | t :: _=>t.kind
 | []=>0
def jc (base:Nat)(t:ag)(ts:List ag):dR :=
 if au ⟨#[58]⟩ ts=true then match ts.tail with
  | u :: us=>if u.kind=4∧eD t.dw u.dw=true then .ok ([{ Nd.zero with kind:=6,ref:=t.dw,af:=u.dw }],base,us)else .error 5
  | [] => .error 5
 else .ok ([{ Nd.zero with kind:=5,ref:=t.dw }],base,ts)
mutual
def dX:Nat→Nat→Nat→Nat→List ag→Option dR
 | 0,_,_,_,_=>none
 | f + 1,n,deep,base,ts =>
   if n≤3 then iC (dX f (n+1) deep base ts) fun ns a r=>gZ f n deep base ns a r
   else if au ⟨#[45]⟩ ts=true then
    if 12≤deep then some (.error 6)
    else iC (dX f 4 (deep+1) base ts.tail) fun ns a r=>some (.ok (ns++[{ Nd.zero with kind:=8,kids:=[(a:Int)] }],base+ns.length,r))
   else iU f deep base ts
def gZ:Nat→Nat→Nat→Nat→List Nd→Nat→List ag→Option dR
 | 0,_,_,_,_,_,_=>none
 | f+1,n,deep,base,ns,a,ts =>
   if eH n ts=0 then some (.ok (ns,a,ts))
   else iC (dX f (n+1) deep (base+ns.length) ts.tail) fun ms b r=>gZ f n deep base (ns++(ms++[{ Nd.zero with kind:=eH n ts,kids:=[(a:Int),(b:Int)] }])) (base+(ns.length+ms.length)) r
def iU:Nat→Nat→Nat→List ag→Option dR
 | 0,_,_,_=>none
 | _,_,_,[]=>some (.error 5)
 | f + 1,deep,base,t :: ts =>
   if au ⟨#[40]⟩ (t :: ts)=true then
    if 12≤deep then some (.error 6)
    else iC (dX f 0 (deep+1) base ts) fun ns a r=>if au ⟨#[41]⟩ r=true then some (.ok (ns,a,r.tail))else some (.error 5)
   else if t.kind=1 then some (.ok ([{ Nd.zero with kind:=1,num:=t.num }],base,ts))
   else if t.kind=2 then some (.ok ([{ Nd.zero with kind:=2,text:=t.text }],base,ts))
   else if t.kind=6 then some (.ok ([{ Nd.zero with kind:=4 }],base,ts))
   else if t.kind=4 then some (jc base t ts)
   else if t.kind=3 then
    if t.text=⟨#[84,82,85,69]⟩then some (.ok ([{ Nd.zero with kind:=3,num:=1 }],base,ts))
    else if t.text=⟨#[70,65,76,83,69]⟩then some (.ok ([{ Nd.zero with kind:=3 }],base,ts))
    else if au ⟨#[40]⟩ ts=true then
     if 12≤deep then some (.error 6)
     else iC (if au ⟨#[41]⟩ ts.tail=true then some (.ok ([],[],ts.tail))else gB f (deep+1) base [] [] ts.tail) fun ns ks r =>
      if au ⟨#[41]⟩ r=true then some (.ok (ns++[{ Nd.zero with kind:=7,text:=t.text,kids:=ks }],base+ns.length,r.tail))else some (.error 5)
    else some (.error 5)
   else some (.error 5)
def gB:Nat→Nat→Nat→List Nd→List Int→List ag→Option Args
 | 0,_,_,_,_,_=>none
 | f + 1,deep,base,ns,ks,ts =>
   iC (dX f 0 deep (base+ns.length) ts) fun ms a r =>
    if au ⟨#[44]⟩ r=true then gB f deep base (ns++ms) (ks++[(a:Int)]) r.tail else some (.ok (ns++ms,ks++[(a:Int)],r))
end
def kY (f:Nat)(ts:List ag):Option (Except Int (List Nd)) :=
 iC (dX f 0 0 0 ts) fun ns _ r=>if sN r=0 then some (.ok ns)else some (.error 5)
theorem dP {α β γ δ : Type}{x:Option (Except Int (α × β × γ))}{k : α → β → γ → Option (Except Int δ)}{y:Except Int δ}(h:iC x k=some y) :
 (∃e,x=some (.error e)∧y = .error e)∨∃a b c,x=some (.ok (a,b,c))∧k a b c=some y:=by
 unfold iC at h;split at h
 · cases h
 · injection h with h;exact .inl ⟨_,rfl,h.symm⟩
 · exact .inr ⟨_,_,_,rfl,h⟩
theorem A9 {α β γ δ : Type}{x x':Option (Except Int (α × β × γ))}{k k' : α → β → γ → Option (Except Int δ)}(hx:∀y,x=some y→x'=some y)(hk:∀a b c y,k a b c=some y→k' a b c=some y) :
 ∀y,iC x k=some y→iC x' k'=some y:=by
 intro y h;rcases dP h with ⟨e,h1,rfl⟩|⟨a,b,c,h1,h2⟩
 · rw[hx _ h1];rfl
 · rw[hx _ h1];exact hk _ _ _ _ h2
theorem kR (f n deep base:Nat)(ts:List ag):dX (f+1) n deep base ts=if n≤3 then iC (dX f (n+1) deep base ts) fun ns a r=>gZ f n deep base ns a r
 else if au ⟨#[45]⟩ ts=true then
  if 12≤deep then some (.error 6)
  else iC (dX f 4 (deep+1) base ts.tail) fun ns a r=>some (.ok (ns++[{ Nd.zero with kind:=8,kids:=[(a:Int)] }],base+ns.length,r))
 else iU f deep base ts:=by conv=>lhs;unfold dX
theorem pG (f n deep base:Nat)(ns:List Nd)(a:Nat)(ts:List ag):gZ (f+1) n deep base ns a ts=if eH n ts=0 then some (.ok (ns,a,ts))
 else iC (dX f (n+1) deep (base+ns.length) ts.tail) fun ms b r=>gZ f n deep base (ns++(ms++[{ Nd.zero with kind:=eH n ts,kids:=[(a:Int),(b:Int)] }])) (base+(ns.length+ms.length)) r:=by conv=>lhs;unfold gZ
theorem oo (f deep base:Nat)(ns:List Nd)(ks:List Int)(ts:List ag):gB (f+1) deep base ns ks ts=iC (dX f 0 deep (base+ns.length) ts) fun ms a r =>
 if au ⟨#[44]⟩ r=true then gB f deep base (ns++ms) (ks++[(a:Int)]) r.tail else some (.ok (ns++ms,ks++[(a:Int)],r)):=by conv=>lhs;unfold gB
theorem yx(f deep base:Nat):iU (f+1) deep base []=some (.error 5):=by unfold iU;rfl
theorem kZ (f deep base:Nat)(t:ag)(ts:List ag):iU (f+1) deep base (t :: ts) =
 if au ⟨#[40]⟩ (t :: ts)=true then
  if 12≤deep then some (.error 6)
  else iC (dX f 0 (deep+1) base ts) fun ns a r=>if au ⟨#[41]⟩ r=true then some (.ok (ns,a,r.tail))else some (.error 5)
 else if t.kind=1 then some (.ok ([{ Nd.zero with kind:=1,num:=t.num }],base,ts))
 else if t.kind=2 then some (.ok ([{ Nd.zero with kind:=2,text:=t.text }],base,ts))
 else if t.kind=6 then some (.ok ([{ Nd.zero with kind:=4 }],base,ts))
 else if t.kind=4 then some (jc base t ts)
 else if t.kind=3 then
  if t.text=⟨#[84,82,85,69]⟩then some (.ok ([{ Nd.zero with kind:=3,num:=1 }],base,ts))
  else if t.text=⟨#[70,65,76,83,69]⟩then some (.ok ([{ Nd.zero with kind:=3 }],base,ts))
  else if au ⟨#[40]⟩ ts=true then
   if 12≤deep then some (.error 6)
   else iC (if au ⟨#[41]⟩ ts.tail=true then some (.ok ([],[],ts.tail))else gB f (deep+1) base [] [] ts.tail) fun ns ks r =>
    if au ⟨#[41]⟩ r=true then some (.ok (ns++[{ Nd.zero with kind:=7,text:=t.text,kids:=ks }],base+ns.length,r.tail))else some (.error 5)
  else some (.error 5)
 else some (.error 5):=by conv=>lhs;unfold iU
theorem F8 : ∀ f : Nat,(∀n deep base ts y,dX f n deep base ts=some y→dX (f+1) n deep base ts=some y)∧(∀n deep base ns a ts y,gZ f n deep base ns a ts=some y→gZ (f+1) n deep base ns a ts=some y) ∧
 (∀deep base ts y,iU f deep base ts=some y→iU (f+1) deep base ts=some y)∧(∀deep base ns ks ts y,gB f deep base ns ks ts=some y→gB (f+1) deep base ns ks ts=some y)
 | 0=>⟨fun _ _ _ _ _ h=>by simp[dX]at h,fun _ _ _ _ _ _ _ h=>by simp[gZ]at h,fun _ _ _ _ h=>by simp[iU]at h,fun _ _ _ _ _ _ h=>by simp[gB]at h⟩
 | f + 1 => by
   obtain⟨i1,i2,i3,i4⟩:=F8 f;refine⟨?_, ?_, ?_, ?_⟩
   · intro n deep base ts y h
     rw[kR]at h ⊢;split
     · rw[if_pos ‹_›]at h
       exact A9 (fun y h=>i1 _ _ _ _ y h) (fun a b c y h=>i2 _ _ _ _ _ _ y h) y h
     · rw [if_neg ‹_›]at h
       split
       · rw [if_pos ‹_›]at h
         split
         · rw[if_pos ‹_›]at h;exact h
         · rw[if_neg ‹_›]at h
           exact A9 (fun y h=>i1 _ _ _ _ y h) (fun a b c y h=>h) y h
       · rw[if_neg ‹_›]at h
         exact i3 _ _ _ y h
   · intro n deep base ns a ts y h
     rw[pG]at h ⊢;split
     · rw[if_pos ‹_›]at h;exact h
     · rw[if_neg ‹_›]at h
       exact A9 (fun y h=>i1 _ _ _ _ y h) (fun a b c y h=>i2 _ _ _ _ _ _ y h) y h
   · intro deep base ts y h
     cases ts with
     | nil=>rw[yx]at h ⊢;exact h
     | cons t ts =>
       rw[kZ]at h ⊢;by_cases c1:au ⟨#[40]⟩ (t :: ts)=true
       · rw [if_pos c1]at h ⊢
         by_cases d:12≤deep
         · rw[if_pos d]at h ⊢;exact h
         · rw[if_neg d]at h ⊢
           exact A9 (fun y h=>i1 _ _ _ _ y h) (fun a b c y h=>h) y h
       · rw [if_neg c1] at h ⊢
         by_cases c2:t.kind=1
         · rw[if_pos c2]at h ⊢
           exact h
         · rw [if_neg c2] at h ⊢
           by_cases c3:t.kind=2
           · rw[if_pos c3]at h ⊢
             exact h
           · rw [if_neg c3] at h ⊢
             by_cases c4:t.kind=6
             · rw[if_pos c4]at h ⊢
               exact h
             · rw [if_neg c4]at h ⊢
               by_cases c5:t.kind=4
               · rw[if_pos c5]at h ⊢
                 exact h
               · rw [if_neg c5]at h ⊢
                 by_cases c6:t.kind=3
                 · rw [if_pos c6]at h ⊢
                   by_cases c7:t.text=⟨#[84,82,85,69]⟩
                   · rw[if_pos c7]at h ⊢;exact h
                   · rw [if_neg c7]at h ⊢
                     by_cases c8:t.text=⟨#[70,65,76,83,69]⟩
                     · rw[if_pos c8]at h ⊢;exact h
                     · rw [if_neg c8]at h ⊢
                       by_cases c9:au ⟨#[40]⟩ ts=true
                       · rw [if_pos c9]at h ⊢
                         by_cases d:12≤deep
                         · rw[if_pos d]at h ⊢;exact h
                         · rw[if_neg d]at h ⊢
                           refine A9 (fun y h => ?_) (fun a b c y h=>h) y h;by_cases c10:au ⟨#[41]⟩ ts.tail=true
                           · rw[if_pos c10]at h ⊢;exact h
                           · rw[if_neg c10]at h ⊢;exact i4 _ _ _ _ _ y h
                       · rw[if_neg c9]at h ⊢;exact h
                 · rw[if_neg c6]at h ⊢;exact h
   · intro deep base ns ks ts y h
     rw[oo]at h ⊢;refine A9 (fun y h=>i1 _ _ _ _ y h) (fun a b c y h => ?_) y h;split
     · rw[if_pos ‹_›]at h;exact i4 _ _ _ _ _ y h
     · rw[if_neg ‹_›]at h;exact h
theorem wM {f g n deep base:Nat}{ts:List ag}{y:dR}(hfg:f≤g)(h:dX f n deep base ts=some y):dX g n deep base ts=some y:=by
 induction g with
 | zero => obtain rfl:f=0:=by omega
           exact h
 | succ g ih =>
   by_cases e:f=g+1
   · rw[← e];exact h
   · exact(F8 g).1 _ _ _ _ _ (ih (by omega))
theorem DR {f g n deep base:Nat}{ns:List Nd}{a:Nat}{ts:List ag}{y:dR}(hfg:f≤g)(h:gZ f n deep base ns a ts=some y):gZ g n deep base ns a ts=some y:=by
 induction g with
 | zero => obtain rfl:f=0:=by omega
           exact h
 | succ g ih =>
   by_cases e:f=g+1
   · rw[← e];exact h
   · exact(F8 g).2.1 _ _ _ _ _ _ _ (ih (by omega))
theorem EU {f g deep base:Nat}{ns:List Nd}{ks:List Int}{ts:List ag}{y:Args}(hfg:f≤g)(h:gB f deep base ns ks ts=some y):gB g deep base ns ks ts=some y:=by
 induction g with
 | zero => obtain rfl:f=0:=by omega
           exact h
 | succ g ih =>
   by_cases e:f=g+1
   · rw[← e];exact h
   · exact(F8 g).2.2.2 _ _ _ _ _ _ (ih (by omega))
def eG(m:Nat)(r ts:List ag):Prop:=∃pre:List ag,ts=pre++r∧(∀t∈pre,t.kind≠0)∧m≤pre.length
theorem eG.refl(ts:List ag):eG 0 ts ts:=⟨[],rfl,by simp,by simp⟩
theorem eG.trans {m k:Nat}{r s t:List ag}(h:eG m r s)(g:eG k s t):eG (k+m) r t:=by
 obtain⟨p,rfl,h1,h2⟩:=h;obtain⟨q,rfl,g1,g2⟩:=g;refine⟨q++p,by rw[bG], ?_,by rw[ak];omega⟩;intro x hx;rw[List.mem_append]at hx;rcases hx with hx|hx
 · exact g1 x hx
 · exact h1 x hx
theorem eG.less {m k:Nat}{r ts:List ag}(h:eG m r ts)(hk:k≤m):eG k r ts:=by
 obtain⟨p,h0,h1,h2⟩:=h;exact⟨p,h0,h1,by omega⟩
theorem eG.len {m:Nat}{r ts:List ag}(h:eG m r ts):r.length+m≤ts.length:=by
 obtain⟨p,rfl,_,h2⟩:=h;rw[ak];omega
theorem eG.head{t:ag}{ts:List ag}(h:t.kind≠0):eG 1 ts (t :: ts):=⟨[t],rfl,by simp[h],by simp⟩
theorem eG.sign {s:ByteArray}{ts:List ag}(h:au s ts=true):eG 1 ts.tail ts:=by
 cases ts with
 | nil=>simp[au]at h
 | cons t ts =>
   unfold au at h;rw[dA,decide_eq_true_iff]at h;exact eG.head (by omega)
theorem Dx {n:Nat}{ts:List ag}(h:eH n ts≠0):∃p∈fC n,au p.1 ts=true∧eH n ts=p.2:=by
 unfold eH at h ⊢;cases hq:(fC n).find? (fun p=>au p.1 ts)with
 | none=>rw[hq]at h;exact absurd rfl h
 | some p=>exact⟨p,List.mem_of_find?_eq_some hq,List.find?_some (p:=fun p:ByteArray × Int=>au p.1 ts) hq,rfl⟩
theorem eG.op {n:Nat}{ts:List ag}(h:eH n ts≠0):eG 1 ts.tail ts:=by
 obtain⟨p,_,h1,_⟩:=Dx h;exact eG.sign h1
theorem Tk {base:Nat}{t:ag}{ts:List ag}{ns:List Nd}{a:Nat}{r:List ag}(h:jc base t ts = .ok (ns,a,r)):eG 0 r ts∧ns.length=1∧a=base:=by
 unfold jc at h;by_cases c:au ⟨#[58]⟩ ts=true
 · rw [if_pos c]at h
   cases hq:ts.tail with
   | nil=>rw[hq]at h;cases h
   | cons u us =>
     rw[hq]at h;simp only at h;by_cases d:u.kind=4∧eD t.dw u.dw=true
     · rw[if_pos d]at h
       injection h with h;injection h with h1 h2;injection h2 with h2 h3;subst h1;subst h2;subst h3;have s1:=eG.sign c;rw[hq]at s1;exact⟨((eG.head (ts:=us) (show u.kind≠0 by omega)).trans s1).less (by omega),rfl,rfl⟩
     · rw[if_neg d]at h;cases h
 · rw[if_neg c]at h
   injection h with h;injection h with h1 h2;injection h2 with h2 h3;subst h1;subst h2;subst h3;exact⟨eG.refl _,rfl,rfl⟩
def Told(base:Nat)(ts:List ag)(ns:List Nd)(a:Nat)(r:List ag):Prop:=eG 1 r ts∧a+1=base+ns.length∧1≤ns.length
theorem uU : ∀ f : Nat, (∀ n deep base ts ns a r,dX f n deep base ts=some (.ok (ns,a,r))→Told base ts ns a r) ∧
 (∀n deep base ns a ts ns' a' r,gZ f n deep base ns a ts=some (.ok (ns',a',r))→a+1=base+ns.length→1≤ns.length→eG 0 r ts∧a'+1=base+ns'.length∧1≤ns'.length) ∧
 (∀deep base ts ns a r,iU f deep base ts=some (.ok (ns,a,r))→Told base ts ns a r) ∧
 (∀deep base ns ks ts ns' ks' r,gB f deep base ns ks ts=some (.ok (ns',ks',r))→eG 1 r ts)
 | 0=>by
   refine⟨?_, ?_, ?_, ?_⟩
   · intro n deep base ts ns a r h;unfold dX at h;cases h
   · intro n deep base ns a ts ns' a' r h;unfold gZ at h;cases h
   · intro deep base ts ns a r h;unfold iU at h;cases h
   · intro deep base ns ks ts ns' ks' r h;unfold gB at h;cases h
 | f + 1 => by
   obtain⟨i1,i2,i3,i4⟩:=uU f;refine⟨?_, ?_, ?_, ?_⟩
   · intro n deep base ts ns a r h
     rw[kR]at h;by_cases c:n≤3
     · rw [if_pos c]at h
       rcases dP h with ⟨e,_,h2⟩|⟨ms,b,s,h1,h2⟩
       · cases h2
       · obtain⟨k1,k2,k3⟩:=i1 _ _ _ _ _ _ _ h1
         obtain⟨g1,g2,g3⟩:=i2 _ _ _ _ _ _ _ _ _ h2 k2 k3;exact⟨g1.trans k1,g2,g3⟩
     · rw [if_neg c]at h
       by_cases d:au ⟨#[45]⟩ ts=true
       · rw [if_pos d]at h
         by_cases d2:12≤deep
         · rw[if_pos d2]at h;cases h
         · rw [if_neg d2]at h
           rcases dP h with ⟨e,_,h2⟩|⟨ms,b,s,h1,h2⟩
           · cases h2
           · obtain⟨k1,k2,k3⟩:=i1 _ _ _ _ _ _ _ h1
             injection h2 with h2;injection h2 with h2;injection h2 with h3 h4;injection h4 with h4 h5;subst h3;subst h4;subst h5;exact⟨(k1.trans (eG.sign d)).less (by omega),by rw[ak];simp;omega,by rw[ak];simp⟩
       · rw[if_neg d]at h;exact i3 _ _ _ _ _ _ h
   · intro n deep base ns a ts ns' a' r h ha hn
     rw[pG]at h;by_cases c:eH n ts=0
     · rw[if_pos c]at h
       injection h with h;injection h with h;injection h with h1 h2;injection h2 with h2 h3;subst h1;subst h2;subst h3;exact⟨eG.refl _,ha,hn⟩
     · rw [if_neg c]at h
       rcases dP h with ⟨e,_,h2⟩|⟨ms,b,s,h1,h2⟩
       · cases h2
       · obtain⟨k1,k2,k3⟩:=i1 _ _ _ _ _ _ _ h1
         obtain⟨g1,g2,g3⟩:=i2 _ _ _ _ _ _ _ _ _ h2 (by simp only[ak,aO,dI];omega) (by simp only[ak,aO,dI];omega);exact⟨((g1.trans k1).trans (eG.op c)).less (by omega),g2,g3⟩
   · intro deep base ts ns a r h
     cases ts with
     | nil=>rw[yx]at h;cases h
     | cons t ts =>
       have leaf:∀(x:Nd),t.kind≠0→(some (.ok ([x],base,ts)):Option dR)=some (.ok (ns,a,r))→Told base (t :: ts) ns a r:=by
        intro x hk h;injection h with h;injection h with h;injection h with h1 h2;injection h2 with h2 h3;subst h1;subst h2;subst h3;exact⟨eG.head hk,by simp,by simp⟩
       rw[kZ]at h;by_cases c1:au ⟨#[40]⟩ (t :: ts)=true
       · rw [if_pos c1]at h
         have s1:=eG.sign c1;by_cases d:12≤deep
         · rw[if_pos d]at h;cases h
         · rw [if_neg d]at h
           rcases dP h with ⟨e,_,h2⟩|⟨ms,b,s,h1,h2⟩
           · cases h2
           · obtain ⟨k1,k2,k3⟩:=i1 _ _ _ _ _ _ _ h1
             by_cases d2:au ⟨#[41]⟩ s=true
             · rw[if_pos d2]at h2
               injection h2 with h2;injection h2 with h2;injection h2 with h3 h4;injection h4 with h4 h5;subst h3;subst h4;subst h5;exact⟨(((eG.sign d2).trans k1).trans s1).less (by omega),k2,k3⟩
             · rw[if_neg d2]at h2;cases h2
       · rw [if_neg c1] at h
         by_cases c2:t.kind=1
         · rw[if_pos c2]at h;exact leaf _ (by omega) h
         · rw [if_neg c2] at h
           by_cases c3:t.kind=2
           · rw[if_pos c3]at h;exact leaf _ (by omega) h
           · rw [if_neg c3] at h
             by_cases c4:t.kind=6
             · rw[if_pos c4]at h;exact leaf _ (by omega) h
             · rw [if_neg c4] at h
               by_cases c5:t.kind=4
               · rw[if_pos c5]at h
                 injection h with h;obtain⟨g1,g2,g3⟩:=Tk h;exact⟨(g1.trans (eG.head (show t.kind≠0 by omega))).less (by omega),by omega,by omega⟩
               · rw [if_neg c5] at h
                 by_cases c6:t.kind=3
                 · rw [if_pos c6]at h
                   by_cases c7:t.text=⟨#[84,82,85,69]⟩
                   · rw[if_pos c7]at h;exact leaf _ (by omega) h
                   · rw [if_neg c7]at h
                     by_cases c8:t.text=⟨#[70,65,76,83,69]⟩
                     · rw[if_pos c8]at h;exact leaf _ (by omega) h
                     · rw [if_neg c8]at h
                       by_cases c9:au ⟨#[40]⟩ ts=true
                       · rw [if_pos c9]at h
                         by_cases d:12≤deep
                         · rw[if_pos d]at h;cases h
                         · rw [if_neg d]at h
                           rcases dP h with ⟨e,_,h2⟩|⟨ms,ks,s,h1,h2⟩
                           · cases h2
                           · have k1:eG 0 s ts.tail:=by
                              by_cases c10:au ⟨#[41]⟩ ts.tail=true
                              · rw[if_pos c10]at h1
                                injection h1 with h1;injection h1 with h1;injection h1 with h3 h4;injection h4 with h4 h5;subst h5;exact eG.refl _
                              · rw[if_neg c10]at h1;exact(i4 _ _ _ _ _ _ _ _ h1).less (by omega)
                             by_cases d2:au ⟨#[41]⟩ s=true
                             · rw[if_pos d2]at h2
                               injection h2 with h2;injection h2 with h2;injection h2 with h3 h4;injection h4 with h4 h5;subst h3;subst h4;subst h5;exact⟨((((eG.sign d2).trans k1).trans (eG.sign c9)).trans (eG.head (show t.kind≠0 by omega))).less (by omega),by rw[ak];simp;omega,by rw[ak];simp⟩
                             · rw[if_neg d2]at h2;cases h2
                       · rw[if_neg c9]at h;cases h
                 · rw[if_neg c6]at h;cases h
   · intro deep base ns ks ts ns' ks' r h
     rw[oo]at h;rcases dP h with ⟨e,_,h2⟩|⟨ms,b,s,h1,h2⟩
     · cases h2
     · obtain ⟨k1,k2,k3⟩:=i1 _ _ _ _ _ _ _ h1
       by_cases d:au ⟨#[44]⟩ s=true
       · rw[if_pos d]at h2
         exact(((i4 _ _ _ _ _ _ _ _ h2).trans (eG.sign d)).trans k1).less (by omega)
       · rw[if_neg d]at h2
         injection h2 with h2;injection h2 with h2;injection h2 with h3 h4;injection h4 with h4 h5;subst h5;exact k1
def u7(n:Nat)(ts:List ag):Prop:=∀deep base,∃f y,dX f n deep base ts=some y
def Hu(ts:List ag):Prop:=∀n deep base ns a,∃f y,gZ f n deep base ns a ts=some y
def Ee(ts:List ag):Prop:=∀deep base,∃f y,iU f deep base ts=some y
def Ht(ts:List ag):Prop:=∀deep base ns ks,∃f y,gB f deep base ns ks ts=some y
theorem YH (t : ag)(ts:List ag)(h0:u7 0 ts)(ha:Ht ts.tail):Ee (t :: ts):=by
 intro deep base;obtain⟨f1,y1,e1⟩:=h0 (deep+1) base;obtain⟨f2,y2,e2⟩:=ha (deep+1) base [] [];refine⟨f1+f2+1, ?_⟩;rw[kZ,wM (g:=f1+f2) (by omega) e1,EU (g:=f1+f2) (by omega) e2];by_cases c1:au ⟨#[40]⟩ (t :: ts)=true
 · rw [if_pos c1]
   by_cases d:12≤deep
   · rw[if_pos d];exact⟨_,rfl⟩
   · rw [if_neg d]
     cases y1 with
     | error e=>exact⟨_,rfl⟩
     | ok q =>
       obtain⟨ns,a,r⟩:=q;show ∃y,(if au ⟨#[41]⟩ r=true then _ else _)=some y;by_cases d2:au ⟨#[41]⟩ r=true
       · rw[if_pos d2];exact⟨_,rfl⟩
       · rw[if_neg d2];exact⟨_,rfl⟩
 · rw [if_neg c1]
   by_cases c2:t.kind=1
   · rw[if_pos c2];exact⟨_,rfl⟩
   · rw [if_neg c2]
     by_cases c3:t.kind=2
     · rw[if_pos c3];exact⟨_,rfl⟩
     · rw [if_neg c3]
       by_cases c4:t.kind=6
       · rw[if_pos c4];exact⟨_,rfl⟩
       · rw [if_neg c4]
         by_cases c5:t.kind=4
         · rw[if_pos c5];exact⟨_,rfl⟩
         · rw [if_neg c5]
           by_cases c6:t.kind=3
           · rw [if_pos c6]
             by_cases c7:t.text=⟨#[84,82,85,69]⟩
             · rw[if_pos c7];exact⟨_,rfl⟩
             · rw [if_neg c7]
               by_cases c8:t.text=⟨#[70,65,76,83,69]⟩
               · rw[if_pos c8];exact⟨_,rfl⟩
               · rw [if_neg c8]
                 by_cases c9:au ⟨#[40]⟩ ts=true
                 · rw [if_pos c9]
                   by_cases d:12≤deep
                   · rw[if_pos d];exact⟨_,rfl⟩
                   · rw [if_neg d]
                     have fin:∀z:Args,∃y,iC (some z) (fun ns ks r=>if au ⟨#[41]⟩ r=true then some (.ok (ns++[{ Nd.zero with kind:=7,text:=t.text,kids:=ks }],base+ns.length,r.tail))else some (.error 5))=some (y:dR):=by
                      intro z;cases z with
                      | error e=>exact⟨_,rfl⟩
                      | ok q =>
                        obtain⟨ns,ks,r⟩:=q;show ∃y,(if au ⟨#[41]⟩ r=true then _ else _)=some y;by_cases d2:au ⟨#[41]⟩ r=true
                        · rw[if_pos d2];exact⟨_,rfl⟩
                        · rw[if_neg d2];exact⟨_,rfl⟩
                     by_cases c10:au ⟨#[41]⟩ ts.tail=true
                     · rw[if_pos c10];exact fin _
                     · rw[if_neg c10];exact fin _
                 · rw[if_neg c9];exact⟨_,rfl⟩
           · rw[if_neg c6];exact⟨_,rfl⟩
theorem Pe (ts:List ag)(h4:au ⟨#[45]⟩ ts=true→u7 4 ts.tail)(hp:Ee ts)(n:Nat)(hn:3<n):u7 n ts:=by
 intro deep base;by_cases d:au ⟨#[45]⟩ ts=true
 · obtain ⟨f1,y1,e1⟩:=h4 d (deep+1) base
   refine⟨f1+1, ?_⟩;rw[kR,if_neg (by omega),if_pos d,e1];by_cases c:12≤deep
   · rw[if_pos c];exact⟨_,rfl⟩
   · rw[if_neg c];cases y1 with
     | error e=>exact⟨_,rfl⟩
     | ok q=>exact⟨_,rfl⟩
 · obtain⟨f1,y1,e1⟩:=hp deep base
   refine⟨f1+1,y1, ?_⟩;rw[kR,if_neg (by omega),if_neg d,e1]
theorem Pd (m:Nat)(hE:∀n ts,ts.length<m→u7 n ts):∀(k:Nat)(ts:List ag),ts.length≤k→k≤m→Hu ts
 | k, ts, hk,hm=>by
   intro n deep base ns a;by_cases c:eH n ts=0
   · exact⟨1,_,by rw[pG,if_pos c]⟩
   · have hs:=(eG.op c).len
     obtain⟨f1,y1,e1⟩:=hE (n+1) ts.tail (by omega) deep (base+ns.length);cases y1 with
     | error e=>exact⟨f1+1,.error e,by rw[pG,if_neg c,e1];rfl⟩
     | ok q =>
       obtain⟨ms,b,r⟩:=q;have hr:=((uU f1).1 _ _ _ _ _ _ _ e1).1.len
       match k,hk with
       | k+1,hk =>
         obtain⟨f2,y2,e2⟩:=Pd m hE k r (by omega) (by omega) n deep base (ns++(ms++[{ Nd.zero with kind:=eH n ts,kids:=[(a:Int),(b:Int)] }])) (base+(ns.length+ms.length));refine⟨f1+f2+1,y2, ?_⟩;rw[pG,if_neg c,wM (g:=f1+f2) (by omega) e1];exact DR (by omega) e2
       | 0,hk=>omega
theorem JH (m:Nat)(ts:List ag)(hR:∀r:List ag,r.length<ts.length→Hu r)(h4:u7 4 ts):∀j n:Nat,n+j=4→u7 n ts
 | 0, n, h => by obtain rfl:n=4:=by omega
                 exact h4
 | j + 1,n,h=>by
   intro deep base;obtain⟨f1,y1,e1⟩:=JH m ts hR h4 j (n+1) (by omega) deep base;cases y1 with
   | error e=>exact⟨f1+1,.error e,by rw[kR,if_pos (by omega),e1];rfl⟩
   | ok q =>
     obtain⟨ns,a,r⟩:=q;have hr:=((uU f1).1 _ _ _ _ _ _ _ e1).1.len;obtain⟨f2,y2,e2⟩:=hR r (by omega) n deep base ns a;refine⟨f1+f2+1,y2, ?_⟩;rw[kR,if_pos (by omega),wM (g:=f1+f2) (by omega) e1];exact DR (by omega) e2
theorem Pb (m:Nat)(hE:∀ts:List ag,ts.length≤m→u7 0 ts):∀(k:Nat)(ts:List ag),ts.length≤k→k≤m→Ht ts
 | k, ts, hk,hm=>by
   intro deep base ns ks;obtain⟨f1,y1,e1⟩:=hE ts (by omega) deep (base+ns.length);cases y1 with
   | error e=>exact⟨f1+1,.error e,by rw[oo,e1];rfl⟩
   | ok q =>
     obtain⟨ms,a,r⟩:=q;have hr:=((uU f1).1 _ _ _ _ _ _ _ e1).1.len;by_cases d:au ⟨#[44]⟩ r=true
     · match k,hk with
       | 0,hk=>omega
       | k+1,hk =>
         obtain⟨f2,y2,e2⟩:=Pb m hE k r.tail (by have:=(eG.sign d).len;omega) (by omega) deep base (ns++ms) (ks++[(a:Int)]);refine⟨f1+f2+1,y2, ?_⟩;rw[oo,wM (g:=f1+f2) (by omega) e1];show(if au ⟨#[44]⟩ r=true then _ else _)=_;rw[if_pos d];exact EU (by omega) e2
     · refine⟨f1+1,.ok (ns++ms,ks++[(a:Int)],r), ?_⟩
       rw[oo,e1];show(if au ⟨#[44]⟩ r=true then _ else _)=_;rw[if_neg d]
theorem YG:∀m:Nat,∀ts:List ag,ts.length≤m→∀n:Nat,u7 n ts:=by
 intro m
 induction m with
 | zero =>
   intro ts h;have e:ts=[]:=kg (by omega);subst e;have hp:Ee []:=fun deep base=>⟨1,_,yx 0 deep base⟩
   have h4:∀n,3<n→u7 n []:=fun n hn=>Pe [] (fun h=>by simp[au]at h) hp n hn
   intro n;by_cases c:n≤3
   · exact JH 0 [] (fun r hr=>by simp at hr) (h4 4 (by omega)) (4 - n) n (by omega)
   · exact h4 n (by omega)
 | succ m ih =>
   intro ts h;by_cases hs:ts.length≤m
   · exact ih ts hs
   · have hR:∀r:List ag,r.length<ts.length→Hu r:=fun r hr=>Pd (m+1) (fun n ts' h'=>ih ts' (by omega) n) m r (by omega) (by omega)
     have hA:∀r:List ag,r.length≤m→Ht r:=fun r hr=>Pb m (fun ts' h'=>ih ts' h' 0) m r hr (ah _)
     cases ts with
     | nil=>simp at hs
     | cons t ts =>
       simp only[aO]at h hs;have hp:Ee (t :: ts):=YH t ts (ih ts (by omega) 0) (hA ts.tail (by rw[List.length_tail];omega));have h4:∀n,3<n→u7 n (t :: ts):=fun n hn=>Pe (t :: ts) (fun _=>ih ts (by omega) 4) hp n hn
       intro n;by_cases c:n≤3
       · exact JH 0 (t :: ts) hR (h4 4 (by omega)) (4 - n) n (by omega)
       · exact h4 n (by omega)
theorem adC (ts:List ag):∃f y,kY f ts=some y:=by
 obtain⟨f,y,h⟩:=YG _ ts (ah _) 0 0 0;refine⟨f, ?_⟩;unfold kY;rw[h];cases y with
 | error e=>exact⟨_,rfl⟩
 | ok q =>
   obtain⟨ns,a,r⟩:=q;show ∃y,(if sN r=0 then _ else _)=some y;by_cases c:sN r=0
   · rw[if_pos c];exact⟨_,rfl⟩
   · rw[if_neg c];exact⟨_,rfl⟩
def fe(r:bC):Bool:=decide (r.sh=⟨#[]⟩∧r.c=0∧r.r=0)&&(!r.ac && !r.ar)
def bO(r:bC):Bool:=di (sb r.sh) r.c r.r
def lI(l:List Int):Bool:=decide (∀x∈l,¬ x<32)
def jy(s:ByteArray):Bool:=jb (sb s)&&((gH s).isNone&&(decide (¬ s=⟨#[84,82,85,69]⟩)&&decide (¬ s=⟨#[70,65,76,83,69]⟩)))
def jh(k:Int):Int:=if 1≤k∧k≤6 then 0 else if k=7 then -1 else if k=8 then 1 else if 9≤k∧k≤19 then 2 else -2
def aD (n:Nd):Bool :=
 if (n.kind≠1∧n.kind≠3∧n.num≠0)∨(n.kind≠2∧n.kind≠7∧n.text≠⟨#[]⟩)∨(n.kind≠5∧n.kind≠6∧fe n.ref=false)∨(n.kind≠6∧fe n.af=false)then false
 else if n.kind=1 then decide (0≤n.num)
 else if n.kind=3 then decide (n.num=0∨n.num=1)
 else if n.kind=2 then lI (sb n.text)
 else if n.kind=7 then jy n.text
 else if n.kind=5 then bO n.ref
 else if n.kind=6 then bO n.ref&&(bO n.af&&eD n.ref n.af)
 else true
def bX(n:Nd):Bool:=aD n&&(decide (jh n.kind = -1)||decide (jh n.kind=n.kids.length))
def mI:List Int→Nat→List Nd→Bool
 | st,_,[]=>decide (st.length=1)
 | st,i,n :: ns=>bX n&&(decide (n.kids.length≤st.length)&&(decide (st.drop (st.length - n.kids.length)=n.kids)&&mI (st.take (st.length - n.kids.length)++[(i:Int)]) (i+1) ns))
theorem mJ(st:List Int)(i:Nat)(n:Nd)(ns:List Nd):mI st i (n :: ns)=(bX n&&(decide (n.kids.length≤st.length)&&(decide (st.drop (st.length - n.kids.length)=n.kids)&&mI (st.take (st.length - n.kids.length)++[(i:Int)]) (i+1) ns))):=rfl
def bR(l:List Nd):Bool:=mI [] 0 l
def gm(base:Nat)(ns:List Nd)(ks:List Int):Prop:=∀st rest,mI st base (ns++rest)=mI (st++ks) (base+ns.length) rest
theorem gm.nil(base:Nat):gm base [] []:=fun st rest=>by simp
theorem gm.app {base:Nat}{ns ms:List Nd}{ks js:List Int}(h:gm base ns ks)(g:gm (base+ns.length) ms js):gm base (ns++ms) (ks++js):=by
 intro st rest;rw[bG,h,g,bG,ak,Nat.add_assoc]
theorem gm.node {base:Nat}{ns:List Nd}{n:Nd}(h:gm base ns n.kids)(hn:bX n=true):gm base (ns++[n]) [((base+ns.length:Nat):Int)]:=by
 intro st rest;rw[bG,h];show mI (st++n.kids) (base+ns.length) (n :: rest)=_;rw[mJ];have e1:(st++n.kids).length - n.kids.length=st.length:=by rw[ak];omega
 rw[hn,e1,List.drop_left,List.take_left,decide_eq_true (show n.kids.length≤(st++n.kids).length by rw[ak];omega),decide_eq_true rfl,Bool.true_and,Bool.true_and,Bool.true_and,ak];rfl
structure M3 (t:ag):Prop where
 num:t.kind=1→0≤t.num
 text:t.kind=2→lI (sb t.text)=true
 name:t.kind=3→jb (sb t.text)=true∧(gH t.text).isNone=true
 ref:t.kind=4→bO t.dw=true
def Good(ts:List ag):Prop:=∀t∈ts,M3 t
theorem Good.tail{ts:List ag}(h:Good ts):Good ts.tail:=fun t ht=>h t (List.mem_of_mem_tail ht)
theorem Good.Mr {m:Nat}{r ts:List ag}(h:Good ts)(hs:eG m r ts):Good r:=by
 obtain⟨p,rfl,_,_⟩:=hs;exact fun t ht=>h t (List.mem_append_right _ ht)
theorem w9:fe bC.zero=true:=by decide
theorem adj {n:Nat}{ts:List ag}(h:eH n ts≠0):9≤eH n ts∧eH n ts≤19:=by
 obtain⟨p,hp,_,e⟩:=Dx h;rw[e]
 match n with
 | 0=>simp[fC]at hp;rcases hp with rfl|rfl|rfl|rfl|rfl|rfl <;> decide
 | 1=>simp[fC]at hp;subst hp;decide
 | 2=>simp[fC]at hp;rcases hp with rfl|rfl <;> decide
 | n+3=>simp[fC]at hp;rcases hp with rfl|rfl <;> decide
theorem K5 {k a b:Int}(h:9≤k∧k≤19):bX { Nd.zero with kind:=k,kids:=[a,b] }=true:=by
 unfold bX
 have h1:aD { Nd.zero with kind:=k,kids:=[a,b] }=true:=by
  unfold aD
  rw [if_neg (by
   rintro(⟨_,_,h⟩|⟨_,_,h⟩|⟨_,_,h⟩|⟨_,h⟩)
   · exact h rfl
   · exact h rfl
   · rw[show fe ({ Nd.zero with kind:=k,kids:=[a,b] }:Nd).ref=true from w9]at h;cases h
   · rw[show fe ({ Nd.zero with kind:=k,kids:=[a,b] }:Nd).af=true from w9]at h;cases h),if_neg (by show ¬ k=1;omega),if_neg (by show ¬ k=3;omega),if_neg (by show ¬ k=2;omega),if_neg (by show ¬ k=7;omega),if_neg (by show ¬ k=5;omega),if_neg (by show ¬ k=6;omega)]
 have h2:jh k=2:=by unfold jh;rw[if_neg (by omega),if_neg (by omega),if_neg (by omega),if_pos h]
 rw[h1,Bool.true_and,Bool.or_eq_true]
 right
 rw[decide_eq_true_iff];exact h2
theorem Sd (a:Int):bX { Nd.zero with kind:=8,kids:=[a] }=true:=by
 unfold bX aD;rfl
theorem Sg {n:Int}(h:0≤n):bX { Nd.zero with kind:=1,num:=n }=true:=by
 unfold bX
 have h1:aD { Nd.zero with kind:=1,num:=n }=true:=by
  unfold aD
  rw [if_neg (by
   rintro(⟨h,_⟩|⟨_,_,h⟩|⟨_,_,h⟩|⟨_,h⟩)
   · exact h rfl
   · exact h rfl
   · rw[show fe ({ Nd.zero with kind:=1,num:=n }:Nd).ref=true from w9]at h;cases h
   · rw[show fe ({ Nd.zero with kind:=1,num:=n }:Nd).af=true from w9]at h;cases h),if_pos rfl]
  exact decide_eq_true h
 rw[h1];rfl
theorem Si {s:ByteArray}(h:lI (sb s)=true):bX { Nd.zero with kind:=2,text:=s }=true:=by
 unfold bX
 have h1:aD { Nd.zero with kind:=2,text:=s }=true:=by
  unfold aD
  rw [if_neg (by
   rintro(⟨_,_,h⟩|⟨h,_⟩|⟨_,_,h⟩|⟨_,h⟩)
   · exact h rfl
   · exact h rfl
   · rw[show fe ({ Nd.zero with kind:=2,text:=s }:Nd).ref=true from w9]at h;cases h
   · rw[show fe ({ Nd.zero with kind:=2,text:=s }:Nd).af=true from w9]at h;cases h),if_neg (by show ¬ (2:Int)=1;omega),if_neg (by show ¬ (2:Int)=3;omega),if_pos rfl]
  exact h
 rw[h1];rfl
theorem Sc {s:ByteArray}{ks:List Int}(h:jy s=true):bX { Nd.zero with kind:=7,text:=s,kids:=ks }=true:=by
 unfold bX
 have h1:aD { Nd.zero with kind:=7,text:=s,kids:=ks }=true:=by
  unfold aD
  rw [if_neg (by
   rintro(⟨_,_,h⟩|⟨_,h,_⟩|⟨_,_,h⟩|⟨_,h⟩)
   · exact h rfl
   · exact h rfl
   · rw[show fe ({ Nd.zero with kind:=7,text:=s,kids:=ks }:Nd).ref=true from w9]at h;cases h
   · rw[show fe ({ Nd.zero with kind:=7,text:=s,kids:=ks }:Nd).af=true from w9]at h;cases h),if_neg (by show ¬ (7:Int)=1;omega),if_neg (by show ¬ (7:Int)=3;omega),if_neg (by show ¬ (7:Int)=2;omega),if_pos rfl]
  exact h
 rw[h1];rfl
theorem K7 {r:bC}(h:bO r=true):bX { Nd.zero with kind:=5,ref:=r }=true:=by
 unfold bX
 have h1:aD { Nd.zero with kind:=5,ref:=r }=true:=by
  unfold aD
  rw [if_neg (by
   rintro(⟨_,_,h⟩|⟨_,_,h⟩|⟨h,_⟩|⟨_,h⟩)
   · exact h rfl
   · exact h rfl
   · exact h rfl
   · rw[show fe ({ Nd.zero with kind:=5,ref:=r }:Nd).af=true from w9]at h;cases h),if_neg (by show ¬ (5:Int)=1;omega),if_neg (by show ¬ (5:Int)=3;omega),if_neg (by show ¬ (5:Int)=2;omega),if_neg (by show ¬ (5:Int)=7;omega),if_pos rfl]
  exact h
 rw[h1];rfl
theorem K6 {r t:bC}(h:bO r=true)(g:bO t=true)(hs:eD r t=true):bX { Nd.zero with kind:=6,ref:=r,af:=t }=true:=by
 unfold bX
 have h1:aD { Nd.zero with kind:=6,ref:=r,af:=t }=true:=by
  unfold aD
  rw [if_neg (by
   rintro(⟨_,_,h⟩|⟨_,_,h⟩|⟨_,h,_⟩|⟨h,_⟩)
   · exact h rfl
   · exact h rfl
   · exact h rfl
   · exact h rfl),if_neg (by show ¬ (6:Int)=1;omega),if_neg (by show ¬ (6:Int)=3;omega),if_neg (by show ¬ (6:Int)=2;omega),if_neg (by show ¬ (6:Int)=7;omega),if_neg (by show ¬ (6:Int)=5;omega),if_pos rfl]
  show(bO r&&(bO t&&eD r t))=true;rw[h,g,hs];rfl
 rw[h1];rfl
theorem gm.leaf {base:Nat}{n:Nd}(hk:n.kids=[])(hn:bX n=true):gm base [n] [(base:Int)]:=by
 have h:=gm.node (base:=base) (ns:=[]) (n:=n) (by rw[hk];exact gm.nil base) hn;exact h
theorem aer {base:Nat}{t:ag}{ts:List ag}{ns:List Nd}{a:Nat}{r:List ag}(h:jc base t ts = .ok (ns,a,r))(ht:bO t.dw=true)(hg:Good ts):gm base ns [(a:Int)]:=by
 unfold jc at h;by_cases c:au ⟨#[58]⟩ ts=true
 · rw [if_pos c]at h
   cases hq:ts.tail with
   | nil=>rw[hq]at h;cases h
   | cons u us =>
     rw[hq]at h;simp only at h;by_cases d:u.kind=4∧eD t.dw u.dw=true
     · rw[if_pos d]at h
       injection h with h;injection h with h1 h2;injection h2 with h2 h3;subst h1;subst h2;have hu:=(hg u (List.mem_of_mem_tail (by rw[hq];simp))).ref d.1;exact gm.leaf rfl (K6 ht hu d.2)
     · rw[if_neg d]at h;cases h
 · rw[if_neg c]at h
   injection h with h;injection h with h1 h2;injection h2 with h2 h3;subst h1;subst h2;exact gm.leaf rfl (K7 ht)
theorem UO : ∀ f : Nat, (∀n deep base ts ns a r,dX f n deep base ts=some (.ok (ns,a,r))→Good ts→gm base ns [(a:Int)]) ∧
 (∀n deep base ns a ts ns' a' r,gZ f n deep base ns a ts=some (.ok (ns',a',r))→Good ts→gm base ns [(a:Int)]→gm base ns' [(a':Int)]) ∧
 (∀deep base ts ns a r,iU f deep base ts=some (.ok (ns,a,r))→Good ts→gm base ns [(a:Int)]) ∧
 (∀deep base ns ks ts ns' ks' r,gB f deep base ns ks ts=some (.ok (ns',ks',r))→Good ts→gm base ns ks→gm base ns' ks')
 | 0=>by
   refine⟨?_, ?_, ?_, ?_⟩
   · intro n deep base ts ns a r h;unfold dX at h;cases h
   · intro n deep base ns a ts ns' a' r h;unfold gZ at h;cases h
   · intro deep base ts ns a r h;unfold iU at h;cases h
   · intro deep base ns ks ts ns' ks' r h;unfold gB at h;cases h
 | f + 1 => by
   obtain⟨i1,i2,i3,i4⟩:=UO f;refine⟨?_, ?_, ?_, ?_⟩
   · intro n deep base ts ns a r h hg
     rw[kR]at h;by_cases c:n≤3
     · rw[if_pos c]at h
       rcases dP h with ⟨e,_,h2⟩|⟨ms,b,s,h1,h2⟩
       · cases h2
       · exact i2 _ _ _ _ _ _ _ _ _ h2 (hg.Mr ((uU f).1 _ _ _ _ _ _ _ h1).1) (i1 _ _ _ _ _ _ _ h1 hg)
     · rw [if_neg c]at h
       by_cases d:au ⟨#[45]⟩ ts=true
       · rw [if_pos d]at h
         by_cases d2:12≤deep
         · rw[if_pos d2]at h;cases h
         · rw [if_neg d2]at h
           rcases dP h with ⟨e,_,h2⟩|⟨ms,b,s,h1,h2⟩
           · cases h2
           · injection h2 with h2;injection h2 with h2;injection h2 with h3 h4;injection h4 with h4 h5
             subst h3;subst h4;exact gm.node (n:={ Nd.zero with kind:=8,kids:=[(b:Int)] }) (i1 _ _ _ _ _ _ _ h1 hg.tail) (Sd _)
       · rw[if_neg d]at h;exact i3 _ _ _ _ _ _ h hg
   · intro n deep base ns a ts ns' a' r h hg hp
     rw[pG]at h;by_cases c:eH n ts=0
     · rw[if_pos c]at h
       injection h with h;injection h with h;injection h with h1 h2;injection h2 with h2 h3;subst h1;subst h2;exact hp
     · rw [if_neg c]at h
       rcases dP h with ⟨e,_,h2⟩|⟨ms,b,s,h1,h2⟩
       · cases h2
       · have p2:=i1 _ _ _ _ _ _ _ h1 hg.tail
         have p3:=gm.node (n:={ Nd.zero with kind:=eH n ts,kids:=[(a:Int),(b:Int)] }) (gm.app hp p2) (K5 (adj c));rw[bG,ak]at p3;exact i2 _ _ _ _ _ _ _ _ _ h2 (hg.tail.Mr ((uU f).1 _ _ _ _ _ _ _ h1).1) p3
   · intro deep base ts ns a r h hg
     cases ts with
     | nil=>rw[yx]at h;cases h
     | cons t ts =>
       have ht:=hg t (by simp);have hgs:Good ts:=fun x hx=>hg x (by simp[hx])
       have leaf:∀(x:Nd),x.kids=[]→bX x=true→(some (.ok ([x],base,ts)):Option dR)=some (.ok (ns,a,r))→gm base ns [(a:Int)]:=by
        intro x hk hn h;injection h with h;injection h with h;injection h with h1 h2;injection h2 with h2 h3;subst h1;subst h2;exact gm.leaf hk hn
       rw[kZ]at h;by_cases c1:au ⟨#[40]⟩ (t :: ts)=true
       · rw [if_pos c1]at h
         by_cases d:12≤deep
         · rw[if_pos d]at h;cases h
         · rw [if_neg d]at h
           rcases dP h with ⟨e,_,h2⟩|⟨ms,b,s,h1,h2⟩
           · cases h2
           · by_cases d2:au ⟨#[41]⟩ s=true
             · rw[if_pos d2]at h2
               injection h2 with h2;injection h2 with h2;injection h2 with h3 h4;injection h4 with h4 h5;subst h3;subst h4;exact i1 _ _ _ _ _ _ _ h1 hgs
             · rw[if_neg d2]at h2;cases h2
       · rw [if_neg c1] at h
         by_cases c2:t.kind=1
         · rw[if_pos c2]at h;exact leaf { Nd.zero with kind:=1,num:=t.num } rfl (Sg (ht.num c2)) h
         · rw [if_neg c2] at h
           by_cases c3:t.kind=2
           · rw[if_pos c3]at h;exact leaf { Nd.zero with kind:=2,text:=t.text } rfl (Si (ht.text c3)) h
           · rw [if_neg c3] at h
             by_cases c4:t.kind=6
             · rw[if_pos c4]at h;exact leaf { Nd.zero with kind:=4 } rfl rfl h
             · rw [if_neg c4] at h
               by_cases c5:t.kind=4
               · rw[if_pos c5]at h
                 injection h with h;exact aer h (ht.ref c5) hgs
               · rw [if_neg c5] at h
                 by_cases c6:t.kind=3
                 · rw [if_pos c6]at h
                   by_cases c7:t.text=⟨#[84,82,85,69]⟩
                   · rw[if_pos c7]at h;exact leaf { Nd.zero with kind:=3,num:=1 } rfl rfl h
                   · rw [if_neg c7]at h
                     by_cases c8:t.text=⟨#[70,65,76,83,69]⟩
                     · rw[if_pos c8]at h;exact leaf { Nd.zero with kind:=3 } rfl rfl h
                     · rw [if_neg c8]at h
                       by_cases c9:au ⟨#[40]⟩ ts=true
                       · rw [if_pos c9]at h
                         by_cases d:12≤deep
                         · rw[if_pos d]at h;cases h
                         · rw [if_neg d]at h
                           rcases dP h with ⟨e,_,h2⟩|⟨ms,ks,s,h1,h2⟩
                           · cases h2
                           · have k1:gm base ms ks:=by
                              by_cases c10:au ⟨#[41]⟩ ts.tail=true
                              · rw[if_pos c10]at h1
                                injection h1 with h1;injection h1 with h1;injection h1 with h3 h4;injection h4 with h4 h5;subst h3;subst h4;exact gm.nil _
                              · rw[if_neg c10]at h1;exact i4 _ _ _ _ _ _ _ _ h1 hgs.tail (gm.nil _)
                             by_cases d2:au ⟨#[41]⟩ s=true
                             · rw [if_pos d2]at h2
                               injection h2 with h2;injection h2 with h2;injection h2 with h3 h4;injection h4 with h4 h5;subst h3;subst h4
                               have hcb:jy t.text=true:=by
                                unfold jy;rw[(ht.name c6).1,(ht.name c6).2,decide_eq_true c7,decide_eq_true c8];rfl
                               exact gm.node (n:={ Nd.zero with kind:=7,text:=t.text,kids:=ks }) k1 (Sc hcb)
                             · rw[if_neg d2]at h2;cases h2
                       · rw[if_neg c9]at h;cases h
                 · rw[if_neg c6]at h;cases h
   · intro deep base ns ks ts ns' ks' r h hg hp
     rw[oo]at h;rcases dP h with ⟨e,_,h2⟩|⟨ms,b,s,h1,h2⟩
     · cases h2
     · have p2:=gm.app hp (i1 _ _ _ _ _ _ _ h1 hg)
       have hgs:=hg.Mr ((uU f).1 _ _ _ _ _ _ _ h1).1;by_cases d:au ⟨#[44]⟩ s=true
       · rw[if_pos d]at h2
         exact i4 _ _ _ _ _ _ _ _ h2 hgs.tail p2
       · rw[if_neg d]at h2
         injection h2 with h2;injection h2 with h2;injection h2 with h3 h4;injection h4 with h4 h5;subst h3;subst h4;exact p2
theorem SC {f:Nat}{ts:List ag}{ns:List Nd}(h:kY f ts=some (.ok ns))(hg:Good ts):bR ns=true:=by
 unfold kY at h;rcases dP h with ⟨e,_,h2⟩|⟨ms,b,s,h1,h2⟩
 · cases h2
 · have hp:=(UO f).1 _ _ _ _ _ _ _ h1 hg
   by_cases c:sN s=0
   · rw[if_pos c]at h2
     injection h2 with h2;injection h2 with h2;subst h2;have:=hp [] [];rw[fM]at this;unfold bR;rw[this];rfl
   · rw[if_neg c]at h2;cases h2
end Go.Proofs.YtaobhjliflomaaaGreatDoor
namespace Go.Proofs.YtaobhjliflomaaaGreatDoor
def GL:Int→Int→List Int→Bool
 | _,_,[]=>true
 | last,nw,x :: l=>if x = -1 then GL last nw l else decide (last<x)&&(decide (x<nw)&&GL x nw l)
def lC(xs:List Int)(nw i:Int):Int:=if i<0 then -1 else if i<(xs.length:Int)then xs.getD i.toNat 0 else i - xs.length+nw
def fH(n:Nat):List Int:=(List.range n).map fun (i:Nat)=>(i:Int)
def FO(n:Nat)(at_:Int):List Int:=(List.range n).map fun (i:Nat)=>if (i:Int)<at_ then (i:Int)else (i:Int)+1
def kD(xs:List Int)(i:Nat):Bool:=decide (xs[i]? = some (-1))
def jJ (xs:List Int):Nat→Nat→Nat
 | 0,lo=>lo
 | n+1,lo=>if kD xs lo=true then jJ xs n (lo+1)else lo
def nu (xs:List Int):Nat→Nat→Nat
 | 0,hi=>hi
 | n+1,hi=>if kD xs hi=true then nu xs n (hi - 1)else hi
def j5 (xs:List Int)(nw lo hi:Int):Int × Int × Bool :=
 if lo<0∨hi<lo then (0,0,false)
 else if hi<(jJ xs (hi+1 - lo).toNat lo.toNat:Int)then (0,0,false)
 else (lC xs nw (jJ xs (hi+1 - lo).toNat lo.toNat),lC xs nw (nu xs (hi.toNat - jJ xs (hi+1 - lo).toNat lo.toNat) hi.toNat),true)
theorem aaB(xs:List Int)(nw i:Int)(h:i<0):lC xs nw i = -1:=by unfold lC;rw[if_pos h]
theorem Bl (xs:List Int)(nw:Int)(i:Nat)(h:i<xs.length):lC xs nw (i:Int)=xs.getD i 0:=by
 unfold lC;rw[if_neg (by omega),if_pos (by omega)];rfl
theorem Dp (xs:List Int)(nw i:Int)(h0:0≤i)(h:(xs.length:Int)≤i):lC xs nw i=i - xs.length+nw:=by
 unfold lC;rw[if_neg (by omega),if_neg (by omega)]
def EK (last nw:Int)(xs:List Int):Prop :=
 (∀(i:Nat)(x:Int),xs[i]? = some x→x ≠ -1→last<x∧x<nw)∧(∀(i j:Nat)(x y:Int),i<j→xs[i]? = some x→xs[j]? = some y→x ≠ -1→y ≠ -1→x<y)
theorem Ag:∀(xs:List Int)(last nw:Int),GL last nw xs=true→EK last nw xs
 | [],_,_,_=>⟨fun i x h=>by simp at h,fun i j x y _ h=>by simp at h⟩
 | a :: l,last,nw,h=>by
   unfold GL at h;split at h
   · rename_i ha
     obtain⟨h1,h2⟩:=Ag l last nw h;refine⟨fun i x hx hn => ?_,fun i j x y hij hx hy hnx hny => ?_⟩
     · cases i with
       | zero=>simp at hx;exact absurd (hx.symm.trans ha) hn
       | succ i=>exact h1 i x (by simpa using hx) hn
     · cases i with
       | zero=>simp at hx;exact absurd (hx.symm.trans ha) hnx
       | succ i =>
         cases j with
         | zero=>omega
         | succ j=>exact h2 i j x y (by omega) (by simpa using hx) (by simpa using hy) hnx hny
   · rename_i ha
     simp only[dA,decide_eq_true_eq]at h;obtain⟨h0,h0',h⟩:=h;obtain⟨h1,h2⟩:=Ag l a nw h;refine⟨fun i x hx hn => ?_,fun i j x y hij hx hy hnx hny => ?_⟩
     · cases i with
       | zero=>simp at hx;subst hx;exact⟨h0,h0'⟩
       | succ i=>have:=h1 i x (by simpa using hx) hn;omega
     · cases j with
       | zero=>omega
       | succ j =>
         cases i with
         | zero=>simp at hx;subst hx;exact(h1 j y (by simpa using hy) hny).1
         | succ i=>exact h2 i j x y (by omega) (by simpa using hx) (by simpa using hy) hnx hny
theorem getD_some (xs:List Int)(i:Nat)(h:i<xs.length):xs[i]? = some (xs.getD i 0):=by
 rw[jG,dm h];rfl
theorem aeU {last nw:Int}{xs:List Int}(h:EK last nw xs)(i:Nat)(hi:i<xs.length):xs.getD i 0 = -1∨(last<xs.getD i 0∧xs.getD i 0<nw):=by
 by_cases hx:xs.getD i 0 = -1
 · exact .inl hx
 · exact .inr (h.1 i _ (getD_some xs i hi) hx)
end Go.Proofs.YtaobhjliflomaaaGreatDoor
namespace Go.Proofs.YtaobhjliflomaaaGreatDoor
theorem sO(n:Nat):(fH n).length=n:=by simp[fH]
theorem afh (n j:Nat)(h:j<n):(fH n).getD j 0=(j:Int):=by
 unfold fH;rw[jG,iw,List.getElem?_range h];rfl
theorem JM (xs:List Int):∀(n lo:Nat),lo≤jJ xs n lo∧jJ xs n lo≤lo+n
 | 0,lo=>⟨ah _,ah _⟩
 | n+1,lo=>by
   unfold jJ;split
   · have:=JM xs n (lo+1);omega
   · omega
theorem Q5 (xs:List Int):∀(n hi:Nat),nu xs n hi≤hi
 | 0,_=>ah _
 | n+1,hi=>by
   unfold nu;split
   · have:=Q5 xs n (hi - 1);omega
   · exact ah _
theorem aaC {xs:List Int}{nw:Int}(h:EK (-1) nw xs)(h0:0≤nw)(i:Nat):(lC xs nw (i:Int)<0)↔kD xs i=true:=by
 unfold kD;rw[decide_eq_true_eq];by_cases hi:i<xs.length
 · rw [Bl _ _ _ hi,getD_some xs i hi]
   constructor
   · intro hn
     rcases aeU h i hi with h1|h1
     · rw[h1]
     · omega
   · intro e;have:=dU e;omega
 · rw[Dp _ _ _ (by omega) (by omega),List.getElem?_eq_none (by omega)]
   constructor
   · intro hn;omega
   · intro e;cases e
end Go.Proofs.YtaobhjliflomaaaGreatDoor
namespace Go.Proofs.YtaobhjliflomaaaGreatDoor
open Go.RowKit
structure Sf where
 sh:ByteArray
 gone:Bool
 rx:List Int
 rn:Int
 cx:List Int
 cn:Int
def zl:Nd:={ Nd.zero with kind:=4 }
def bC.goto(f:bC)(r c:Int):bC:={ f with r:=r,c:=c }
def pF(n:Nd)(s:Sf):Nd:={ n with ref:=n.ref.goto (lC s.rx s.rn n.ref.r) (lC s.cx s.cn n.ref.c) }
def Nd.qh(n:Nd)(r c r2 c2:Int):Nd:={ n with ref:=n.ref.goto r c,af:=n.af.goto r2 c2 }
def jQ (n:Nd)(s:Sf):Nd :=
 let a:=j5 s.rx s.rn n.ref.r n.af.r
 let b:=j5 s.cx s.cn n.ref.c n.af.c
 n.qh a.1 b.1 a.2.1 b.2.1
def tu(n:Nd)(s:Sf):Bool:=(j5 s.rx s.rn n.ref.r n.af.r).2.2&&(j5 s.cx s.cn n.ref.c n.af.c).2.2
def ja (n:Nd)(s:Sf):Nd × Bool :=
 if s.gone=true then (Nd.zero,false)
 else if n.kind=6 then (jQ n s,tu n s&&bO (jQ n s).af)
 else (pF n s,bO (pF n s).ref)
def oH(own:ByteArray)(n:Nd):ByteArray:=if n.ref.sh=⟨#[]⟩then own else n.ref.sh
def zn(ss:List Sf)(k:ByteArray):Option Sf:=ss.find? fun s=>decide (s.sh=k)
def jN (own:ByteArray)(ss:List Sf)(n:Nd):Nd :=
 if ¬ n.kind=5∧¬ n.kind=6 then n
 else match zn ss (oH own n)with
  | none=>n
  | some s=>if (ja n s).2=true then (ja n s).1 else zl
def mF(own:ByteArray)(ss:List Sf)(l:List Nd):List Nd:=l.map (jN own ss)
structure xM (xs:List Int)(nw:Int):Prop where
 len:xs.length≤1048577
 low:0≤nw
 top:nw≤1048577
 LQ:EK (-1) nw xs
structure og (s:Sf):Prop where
 rows:xM s.rx s.rn
 su:xM s.cx s.cn
def EL(ss:List Sf):Prop:=∀s∈ss,og s
theorem Fg {ss:List Sf}{k:ByteArray}{s:Sf}(h:zn ss k=some s):s∈ss∧s.sh=k :=
 ⟨List.mem_of_find?_eq_some h,by have:=List.find?_some h;exact of_decide_eq_true this⟩
theorem RU(own:ByteArray)(ss:List Sf)(l:List Nd):(mF own ss l).length=l.length:=fw ..
theorem aaD {xs:List Int}{nw:Int}(h:xM xs nw){i j:Nat}(hij:i≤j)(hi:¬ kD xs i=true)(hj:¬ kD xs j=true):0≤lC xs nw i∧lC xs nw i≤lC xs nw j:=by
 have h1:¬ lC xs nw (i:Int)<0:=fun e=>hi ((aaC h.LQ h.low i).1 e)
 refine⟨by omega, ?_⟩;have wU:=h.low;by_cases e:i=j
 · subst e;exact Int.le_refl _
 by_cases cj:j<xs.length
 · have ci:i<xs.length:=by omega
   have gi:=getD_some xs i ci;have gj:=getD_some xs j cj;rw[Bl _ _ _ ci,Bl _ _ _ cj];have KX:xs.getD i 0 ≠ -1:=fun e=>hi (decide_eq_true (by rw[gi,e]))
   have nj:xs.getD j 0 ≠ -1:=fun e=>hj (decide_eq_true (by rw[gj,e]))
   have:=h.LQ.2 i j _ _ (by omega) gi gj KX nj;omega
 · rw [Dp xs nw j (by omega) (by omega)]
   by_cases ci:i<xs.length
   · have gi:=getD_some xs i ci
     rw[Bl _ _ _ ci];have KX:xs.getD i 0 ≠ -1:=fun e=>hi (decide_eq_true (by rw[gi,e]))
     have:=(h.LQ.1 i _ gi KX).2;omega
   · rw[Dp xs nw i (by omega) (by omega)];omega
theorem Pm (xs:List Int):∀n lo,jJ xs n lo<lo+n→¬ kD xs (jJ xs n lo)=true
 | 0,lo,h=>by simp[jJ]at h
 | n+1,lo,h=>by
   unfold jJ at h ⊢;split
   · rename_i c;rw[if_pos c]at h;exact Pm xs n (lo+1) (by omega)
   · assumption
theorem Q0 (xs:List Int)(f:Nat)(hf:¬ kD xs f=true):∀n,f≤nu xs n (f+n)∧¬ kD xs (nu xs n (f+n))=true
 | 0=>⟨ah _,hf⟩
 | n+1=>by
   show f≤(if kD xs (f+(n+1))=true then nu xs n (f+(n+1) - 1)else f+(n+1))∧¬ kD xs (if kD xs (f+(n+1))=true then nu xs n (f+(n+1) - 1)else f+(n+1))=true;by_cases c:kD xs (f+(n+1))=true
   · rw[if_pos c];exact Q0 xs f hf n
   · rw[if_neg c];exact⟨by omega,c⟩
theorem Uv {xs:List Int}{nw lo hi:Int}(h:xM xs nw)(ho:(j5 xs nw lo hi).2.2=true):0≤(j5 xs nw lo hi).1∧(j5 xs nw lo hi).1≤(j5 xs nw lo hi).2.1:=by
 unfold j5 at ho ⊢;by_cases c:lo<0∨hi<lo
 · rw[if_pos c]at ho;cases ho
 rw[if_neg c]at ho ⊢;by_cases d:hi<(jJ xs (hi+1 - lo).toNat lo.toNat:Int)
 · rw[if_pos d]at ho;cases ho
 rw[if_neg d];have hb:=JM xs (hi+1 - lo).toNat lo.toNat;have hk:=Pm xs (hi+1 - lo).toNat lo.toNat (by omega);obtain⟨f,hf⟩:∃f,jJ xs (hi+1 - lo).toNat lo.toNat=f:=⟨_,rfl⟩;rw[hf]at hb hk d ⊢;have hl:=Q0 xs f hk (hi.toNat - f);rw[show f+(hi.toNat - f)=hi.toNat by omega]at hl;exact aaD h hl.1 hk hl.2
theorem K4{n:Nd}(h:bX n=true):aD n=true:=(Bool.and_eq_true_iff.1 h).1
theorem K3 {n:Nd}(h:bX n=true)(h1:1≤n.kind)(h6:n.kind≤6):n.kids=[]:=by
 have h2:=(Bool.and_eq_true_iff.1 h).2;have ha:jh n.kind=0:=by unfold jh;rw[if_pos ⟨h1,h6⟩]
 rw[ha]at h2;rcases Bool.or_eq_true_iff.1 h2 with h3|h3
 · exact absurd (of_decide_eq_true h3) (by decide)
 · exact List.length_eq_zero_iff.1 (by have:=of_decide_eq_true h3;omega)
structure EH (n:Nd):Prop where
 num:n.num=0
 text:n.text=⟨#[]⟩
 af:fe n.af=true
 may:bO n.ref=true
 kids:n.kids=[]
structure CJ (n:Nd):Prop where
 num:n.num=0
 text:n.text=⟨#[]⟩
 may:bO n.ref=true
 RB:bO n.af=true
 span:eD n.ref n.af=true
 kids:n.kids=[]
theorem Tt {n:Nd}(h:bX n=true)(hk:n.kind=5):EH n:=by
 have hl:=K4 h;unfold aD at hl;split at hl
 · cases hl
 rename_i c
 rw[if_neg (by omega),if_neg (by omega),if_neg (by omega),if_neg (by omega)]at hl;try rw[if_pos hk]at hl
 exact ⟨Decidable.byContradiction fun e=>c (.inl ⟨by omega,by omega,e⟩),Decidable.byContradiction fun e=>c (.inr (.inl ⟨by omega,by omega,e⟩)),
  by cases e:fe n.af with|true=>rfl|false=>exact absurd (.inr (.inr (.inr ⟨by omega,e⟩))) c,hl,K3 h (by omega) (by omega)⟩
theorem Te {n:Nd}(h:bX n=true)(hk:n.kind=6):CJ n:=by
 have hl:=K4 h;unfold aD at hl;split at hl
 · cases hl
 rename_i c
 rw[if_neg (by omega),if_neg (by omega),if_neg (by omega),if_neg (by omega),if_neg (by omega)]at hl;try rw[if_pos hk]at hl
 obtain⟨h1,h2⟩:=Bool.and_eq_true_iff.1 hl;obtain⟨h2,h3⟩:=Bool.and_eq_true_iff.1 h2;exact⟨Decidable.byContradiction fun e=>c (.inl ⟨by omega,by omega,e⟩),Decidable.byContradiction fun e=>c (.inr (.inl ⟨by omega,by omega,e⟩)),h1,h2,h3,K3 h (by omega) (by omega)⟩
theorem R8 {f:bC}(h:fe f=true):f=bC.zero:=by
 unfold fe at h;obtain⟨h1,h2⟩:=Bool.and_eq_true_iff.1 h;obtain⟨h2,h3⟩:=Bool.and_eq_true_iff.1 h2;obtain⟨e1,e2,e3⟩:=of_decide_eq_true h1;obtain⟨s,c,r,ac,ar⟩:=f;simp only at e1 e2 e3 h2 h3;subst e1;subst e2;subst e3;cases ac <;> cases ar <;> first|rfl|(exfalso;revert h2 h3;decide)
theorem EH.is {n:Nd}(h:EH n)(hk:n.kind=5):n={ Nd.zero with kind:=5,ref:=n.ref }:=by
 obtain⟨k,m,t,r,o,ks⟩:=n;have e:=R8 h.af;obtain⟨h1,h2,_,_,h5⟩:=h;simp only at h1 h2 h5 hk e;subst h1;subst h2;subst h5;subst hk;subst e;rfl
theorem CJ.is {n:Nd}(h:CJ n)(hk:n.kind=6):n={ Nd.zero with kind:=6,ref:=n.ref,af:=n.af }:=by
 obtain⟨k,m,t,r,o,ks⟩:=n;obtain⟨h1,h2,_,_,_,h5⟩:=h;simp only at h1 h2 h5 hk;subst h1;subst h2;subst h5;subst hk;rfl
theorem ac3:bX zl=true:=by decide
theorem acg {f:bC}{r c:Int}(h:bO f=true)(hr:0≤r)(hr2:r≤998)(hc:0≤c)(hc2:c≤701):bO (f.goto r c)=true:=by
 unfold bO di at h ⊢;rw[Bool.and_eq_true_iff]at h ⊢;exact⟨h.1,decide_eq_true ⟨hc,hc2,hr,hr2⟩⟩
theorem RF{f:bC}(h:bO f=true):0≤f.c∧f.c≤701∧0≤f.r∧f.r≤998:=KP h
theorem agl {a b:bC}(h:eD a b=true){r c r' c':Int}(hr:r≤r')(hc:c≤c'):eD (a.goto r c) (b.goto r' c')=true:=by
 unfold eD at h ⊢;rw[Bool.and_eq_true_iff]at h ⊢;exact⟨h.1,by rw[Bool.and_eq_true_iff];exact⟨decide_eq_true hc,decide_eq_true hr⟩⟩
theorem agm {n:Nd}{s:Sf}(h:CJ n)(hs:og s)(ho:tu n s=true)(hm:bO (jQ n s).af=true):bO (jQ n s).ref=true∧eD (jQ n s).ref (jQ n s).af=true:=by
 obtain⟨h1,h2⟩:=Bool.and_eq_true_iff.1 ho;obtain⟨a1,a2⟩:=Uv hs.rows h1;obtain⟨b1,b2⟩:=Uv hs.su h2;have hn:=RF hm;have hn:0≤(j5 s.cx s.cn n.ref.c n.af.c).2.1∧(j5 s.cx s.cn n.ref.c n.af.c).2.1≤701∧0≤(j5 s.rx s.rn n.ref.r n.af.r).2.1∧(j5 s.rx s.rn n.ref.r n.af.r).2.1≤998:=hn;exact⟨acg h.may a1 (by omega) b1 (by omega),agl h.span a2 b2⟩
theorem Xf {n:Nd}{s:Sf}(h:bX n=true)(hk:n.kind=5∨n.kind=6)(hs:og s)(ha:(ja n s).2=true):bX (ja n s).1=true∧(ja n s).1.kids=n.kids:=by
 unfold ja at ha ⊢;by_cases g:s.gone=true
 · rw[if_pos g]at ha;cases ha
 rw[if_neg g]at ha ⊢;by_cases k6:n.kind=6
 · rw[if_pos k6]at ha ⊢
   obtain⟨h1,h2⟩:=Bool.and_eq_true_iff.1 ha;have hf:=Te h k6;obtain⟨h3,h4⟩:=agm hf hs h1 h2;refine⟨?_,rfl⟩;have e:(jQ n s)={ Nd.zero with kind:=6,ref:=(jQ n s).ref,af:=(jQ n s).af }:=CJ.is ⟨hf.num,hf.text,h3,h2,h4,hf.kids⟩ k6;show bX (jQ n s)=true;rw[e];exact K6 h3 h2 h4
 · rw[if_neg k6]at ha ⊢
   have hf:=Tt h (by omega);refine⟨?_,rfl⟩;have e:pF n s={ Nd.zero with kind:=5,ref:=(pF n s).ref }:=EH.is ⟨hf.num,hf.text,hf.af,ha,hf.kids⟩ (by show n.kind=5;omega);show bX (pF n s)=true;rw[e];exact K7 ha
theorem acu {own:ByteArray}{ss:List Sf}{n:Nd}(h:bX n=true)(hs:EL ss):bX (jN own ss n)=true∧(jN own ss n).kids=n.kids:=by
 unfold jN;split
 · exact⟨h,rfl⟩
 rename_i c
 have hk:n.kind=5∨n.kind=6:=by omega
 split
 · exact⟨h,rfl⟩
 · rename_i s e
   split
   · rename_i ha;exact Xf h hk (hs s (Fg e).1) ha
   · exact⟨ac3,(K3 h (by omega) (by omega)).symm⟩
theorem MG:∀(l:List Nd)(st:List Int)(i:Nat),mI st i l=true→∀n∈l,bX n=true
 | [],_,_,_,n,hn=>by cases hn
 | m :: l,st,i,h,n,hn=>by
   rw[mJ,Bool.and_eq_true_iff,Bool.and_eq_true_iff,Bool.and_eq_true_iff]at h;rcases List.mem_cons.1 hn with rfl|hn
   · exact h.1
   · exact MG l _ _ h.2.2.2 n hn
theorem UU (f:Nd→Nd):∀(l:List Nd)(st:List Int)(i:Nat),(∀n∈l,bX n=true→bX (f n)=true∧(f n).kids=n.kids)→mI st i l=true→mI st i (l.map f)=true
 | [],_,_,_,h=>h
 | m :: l,st,i,hf,h=>by
   rw[jr,mJ];rw[mJ,Bool.and_eq_true_iff,Bool.and_eq_true_iff,Bool.and_eq_true_iff]at h;obtain⟨h1,h2,h3,h4⟩:=h;obtain⟨e1,e2⟩:=hf m (by simp) h1;rw[e1,e2,h2,h3,UU f l _ _ (fun n hn=>hf n (by simp[hn])) h4];rfl
theorem acv {own:ByteArray}{ss:List Sf}{l:List Nd}(h:bR l=true)(hs:EL ss):bR (mF own ss l)=true :=
 UU _ l [] 0 (fun _ _ hn=>acu hn hs) h
structure Jn (m n:Nd):Prop where
 num:m.num≤max n.num 0
 text:m.text.size≤n.text.size
 ref:m.ref.sh.size≤n.ref.sh.size
 af:m.af.sh.size≤n.af.sh.size
theorem RX (own:ByteArray)(ss:List Sf)(n:Nd):Jn (jN own ss n) n:=by
 have hz:Jn zl n:=⟨by show(0:Int)≤_;omega,dV _,dV _,dV _⟩;have hr:Jn n n:=⟨by omega,ah _,ah _,ah _⟩;unfold jN;split
 · exact hr
 split
 · exact hr
 split
 · rename_i s _ ha
   unfold ja;split
   · rename_i g;unfold ja at ha;rw[if_pos g]at ha;cases ha
   split
   · exact⟨by show n.num≤_;omega,ah _,ah _,ah _⟩
   · exact⟨by show n.num≤_;omega,ah _,ah _,ah _⟩
 · exact hz
end Go.Proofs.YtaobhjliflomaaaGreatDoor
namespace Go.Proofs.YtaobhjliflomaaaGreatDoor
open Go Go.WideMaps Go.ChangeMaps Go.MapKept Go.Maps Go.WideElems Go.RowKit
def nT (w:World)(b:Nat)(es:List (ByteArray × Value)):Prop :=
 ∃a clock,w.heap[b]? = some (.map a clock)∧a.toList.map (fun e=>(e.key,e.val))=es.map (fun p=>(Value.string p.1,p.2))
theorem nT.made(w:World):nT (w.alloc (.map #[] 0)) w.heap.size []:=⟨#[],0,(MapKept.heap_alloc w _).1,rfl⟩
theorem nT.lt {w:World}{b:Nat}{es:List (ByteArray × Value)}(h:nT w b es):b<w.heap.size:=by
 obtain⟨a,c,hb,_⟩:=h;exact(dO.1 hb).1
theorem nT.keys {es:List (ByteArray × Value)}{a:Array MapEntry}(h:a.toList.map (fun e=>(e.key,e.val))=es.map (fun p=>(Value.string p.1,p.2))):∀e∈a.toList,∃p∈es,e.key = .string p.1∧e.val=p.2:=by
 intro e he;have h1:(e.key,e.val)∈a.toList.map (fun e=>(e.key,e.val)):=List.mem_map.2 ⟨e,he,rfl⟩;rw[h]at h1;obtain⟨p,hp,hpe⟩:=List.mem_map.1 h1;simp only[bg]at hpe;exact⟨p,hp,hpe.1.symm,hpe.2.symm⟩
theorem nT.KQ {P:Program}{w:World}{b:Nat}{es:List (ByteArray × Value)}{t k e:TypeId}(h:nT w b es)(ht:P.underlying t=some (.map k e))(hk:P.underlying k=some .string)(hsz:∀p∈es,p.1.size≤maxLen){z:Value}(hz:(zeroValue e).run P w = .ok z w)(key:ByteArray)(hks:key.size≤maxLen)(hno:∀p∈es,p.1≠key) :
 (Instr.lookup t (.map (some b)) (.string key) true).run P w = .ok (.tuple #[z,.bool false]) w:=by
 obtain⟨a,clock,hb,hes⟩:=h;have K:=string_keyed hk;have vM:=keyOf_string_mk hk hks
 rcases K.find w vM a.toList (fun x hx=>by
  obtain⟨p,hp,h1,_⟩:=nT.keys hes x hx;exact⟨_,by rw[h1];exact keyOf_string_mk hk (hsz p hp)⟩)with ⟨h1,h2⟩|⟨j,x,_,h2,h3⟩
 · simp[Instr.lookup,run_underlying ht,MapKept.run_getObj_map hb,K.check w _ vM,h1,hz,Result.andThen]
 · exfalso
   obtain⟨p,hp,h4,_⟩:=nT.keys hes x (fu h2);rw[h3]at h4;exact hno p hp (Value.string.inj h4).symm
theorem nT.find {P:Program}{w:World}{b:Nat}{es:List (ByteArray × Value)}{t k e:TypeId}(h:nT w b es)(ht:P.underlying t=some (.map k e))(hk:P.underlying k=some .string)(hsz:∀p∈es,p.1.size≤maxLen)(key:ByteArray)(hks:key.size≤maxLen)(v:Value)(hin:(key,v)∈es)(aag:∀p∈es,p.1=key→p.2=v) :
 (Instr.lookup t (.map (some b)) (.string key) true).run P w = .ok (.tuple #[v,.bool true]) w:=by
 obtain⟨a,clock,hb,hes⟩:=h;have K:=string_keyed hk;have vM:=keyOf_string_mk hk hks
 rcases K.find w vM a.toList (fun x hx=>by
  obtain⟨p,hp,h1,_⟩:=nT.keys hes x hx;exact⟨_,by rw[h1];exact keyOf_string_mk hk (hsz p hp)⟩)with ⟨h1,h2⟩|⟨j,x,h1,h2,h3⟩
 · exfalso
   have h4:(Value.string key,v)∈a.toList.map (fun e=>(e.key,e.val)):=by rw[hes];exact List.mem_map.2 ⟨_,hin,rfl⟩
   obtain⟨x,hx,hxe⟩:=List.mem_map.1 h4;simp only[bg]at hxe;exact h2 x hx hxe.1
 · obtain⟨p,hp,h4,h5⟩:=nT.keys hes x (fu h2)
   rw[h3]at h4;have h6:=aag p hp (Value.string.inj h4).symm;rw[h5,h6]at h1;simp[Instr.lookup,run_underlying ht,MapKept.run_getObj_map hb,K.check w _ vM,h1,Result.andThen]
end Go.Proofs.YtaobhjliflomaaaGreatDoor
namespace Go.Proofs.YtaobhjliflomaaaGreatDoor
open Go Go.WideMaps Go.ChangeMaps Go.MapKept Go.Maps Go.WideElems Go.RowKit
def iO (w:World)(b:Nat)(f:ByteArray→Option Value):Prop :=
 ∃es,nT w b es∧(∀p∈es,p.1.size≤maxLen)∧(∀p∈es,f p.1=some p.2)∧(∀key v,f key=some v→(key,v)∈es)∧∀(i j:Nat) p q,es[i]? = some p→es[j]? = some q→p.1=q.1→i=j
def yz(f:ByteArray→Option Value)(key:ByteArray)(v:Value):ByteArray→Option Value:=fun k=>if k=key then some v else f k
theorem iO.made (w:World):iO (w.alloc (.map #[] 0)) w.heap.size (fun _=>none) :=
 by
 refine⟨[],nT.made w, ?_, ?_, ?_, ?_⟩
 · intro p h;cases h
 · intro p h;cases h
 · intro k v h;cases h
 · intro i j p q h;simp at h
theorem iO.lt{w:World}{b:Nat}{f:ByteArray→Option Value}(h:iO w b f):b<w.heap.size:=by obtain⟨es,h1,_⟩:=h;exact h1.lt
theorem iO.keep {w w':World}{b:Nat}{f:ByteArray→Option Value}(h:iO w b f)(hk:w'.heap[b]? = w.heap[b]?):iO w' b f:=by
 obtain⟨es,⟨a,c,h1,h2⟩,h3⟩:=h;exact⟨es,⟨a,c,hk.trans h1,h2⟩,h3⟩
theorem iO.below{w w':World}{b B:Nat}{f:ByteArray→Option Value}(h:iO w b f)(hb:Below B w w')(hB:b<B):iO w' b f:=h.keep (hb.block b hB)
theorem iO.KQ {P:Program}{w:World}{b:Nat}{f:ByteArray→Option Value}{t k e:TypeId}(h:iO w b f)(ht:P.underlying t=some (.map k e))(hk:P.underlying k=some .string){z:Value}(hz:(zeroValue e).run P w = .ok z w)(key:ByteArray)(hks:key.size≤maxLen)(hno:f key=none) :
 (Instr.lookup t (.map (some b)) (.string key) true).run P w = .ok (.tuple #[z,.bool false]) w:=by
 obtain⟨es,h1,h2,h3,_⟩:=h;exact h1.KQ ht hk h2 hz key hks fun p hp e=>by have:=h3 p hp;rw[e,hno]at this;cases this
theorem iO.find {P:Program}{w:World}{b:Nat}{f:ByteArray→Option Value}{t k e:TypeId}(h:iO w b f)(ht:P.underlying t=some (.map k e))(hk:P.underlying k=some .string)(key:ByteArray)(hks:key.size≤maxLen)(v:Value)(hin:f key=some v) :
 (Instr.lookup t (.map (some b)) (.string key) true).run P w = .ok (.tuple #[v,.bool true]) w:=by
 obtain⟨es,h1,h2,h3,h4,_⟩:=h;exact h1.find ht hk h2 key hks v (h4 key v hin) fun p hp e=>by have:=h3 p hp;rw[e,hin]at this;exact(dU this).symm
theorem iO.put {P:Program}{w:World}{b:Nat}{f:ByteArray→Option Value}{t k e:TypeId}(h:iO w b f)(ht:P.underlying t=some (.map k e))(hk:P.underlying k=some .string)(key:ByteArray)(hks:key.size≤maxLen)(v:Value) :
 ∃w',(Instr.mapUpdate t (.map (some b)) (.string key) v).run P w = .ok () w'∧iO w' b (yz f key v)∧w'.heap.size=w.heap.size∧w.grownBy w' (some b):=by
 obtain⟨es,h1,h2,h3,h4,h5⟩:=h;obtain⟨a,clock,hb,hes⟩:=h1;have K:=string_keyed hk;have vM:=keyOf_string_mk hk hks;have hgr:∀o:Obj,w.grownBy (setBlock w b o) (some b):=fun o=>⟨rfl,rfl,rfl,by simp[setBlock],fun j _ hne=>heap_setBlock_other hb _ (fun e=>hne (by rw[e]))⟩
 rcases K.find w vM a.toList (fun x hx=>by
  obtain⟨p,hp,h1,_⟩:=nT.keys hes x hx;exact⟨_,by rw[h1];exact keyOf_string_mk hk (h2 p hp)⟩)with ⟨g1,g2⟩|⟨j,x,g1,g2,g3⟩
 · have hno:∀p∈es,p.1≠key:=fun p hp e=>by
    have h6:(Value.string p.1,p.2)∈a.toList.map (fun e=>(e.key,e.val)):=by rw[hes];exact List.mem_map.2 ⟨_,hp,rfl⟩
    obtain⟨x,hx,hxe⟩:=List.mem_map.1 h6;simp only[bg]at hxe;exact g2 x hx (by rw[hxe.1,e])
   refine⟨setBlock w b (.map (a.push ⟨.string key,v,clock⟩) (clock+1)), ?_,⟨es++[(key,v)],⟨_,_,heap_setBlock_same hb _, ?_⟩, ?_, ?_, ?_, ?_⟩,by simp[setBlock],hgr _⟩
   · simp[Instr.mapUpdate,run_underlying ht,MapKept.run_getObj_map hb,K.check w false vM,g1,MapKept.run_setObj_map _ hb,Result.andThen,setBlock]
   · rw[Array.toList_push,iy,iy,hes];rfl
   · intro p hp;rcases List.mem_append.1 hp with hp|hp
     · exact h2 p hp
     · rw[List.mem_singleton.1 hp];exact hks
   · intro p hp;unfold yz;rcases List.mem_append.1 hp with hp|hp
     · rw[if_neg (hno p hp)];exact h3 p hp
     · rw[List.mem_singleton.1 hp,if_pos rfl]
   · intro k' v' hv;unfold yz at hv
     by_cases c:k'=key
     · rw[if_pos c]at hv;rw[← dU hv,c];simp
     · rw[if_neg c]at hv;exact List.mem_append_left _ (h4 _ _ hv)
   · intro i j p q hp hq hpq
     rw[List.getElem?_append]at hp hq;split at hp <;> split at hq
     · exact h5 i j p q hp hq hpq
     · have:q=(key,v):=List.mem_singleton.1 (fu hq)
       exact absurd (hpq.trans (by rw[this])) (hno p (fu hp))
     · have:p=(key,v):=List.mem_singleton.1 (fu hp)
       exact absurd (hpq.symm.trans (by rw[this])) (hno q (fu hq))
     · have e1:=(dW.1 hp).1
       have e2:=(dW.1 hq).1;simp at e1 e2;omega
 · have hjl:j<a.size:=by have:=(dW.1 g2).1;simpa using this
   have haj:a[j]? = some x:=by rw[← Array.getElem?_toList];exact g2
   have Fu:es[j]? = some (key,x.val):=by
    have h6:(a.toList.map (fun e=>(e.key,e.val)))[j]? = some (x.key,x.val):=by rw[iw,g2];rfl
    rw[hes,iw]at h6;cases e:es[j]? with
    | none=>rw[e]at h6;cases h6
    | some p =>
      rw[e]at h6;have h7:=dU h6;simp only[bg]at h7;rw[g3]at h7;rw[← Value.string.inj h7.1, ← h7.2]
   have Ke:∀(i:Nat) p,i≠j→es[i]? = some p→p.1≠key:=fun i p hi hp e=>hi (h5 i j p _ hp Fu e)
   have FD:∀(i:Nat) p,(es.set j (key,v))[i]? = some p→(i=j∧p=(key,v))∨(i≠j∧es[i]? = some p):=by
    intro i p hp;rw[List.getElem?_set]at hp;split at hp
    · rename_i e;split at hp
      · exact .inl ⟨e.symm,(dU hp).symm⟩
      · cases hp
    · rename_i e;exact .inr ⟨fun e'=>e e'.symm,hp⟩
   refine⟨setBlock w b (.map (a.modify j fun e=>{ e with key := .string key,val:=v }) clock), ?_,⟨es.set j (key,v),⟨_,_,heap_setBlock_same hb _, ?_⟩, ?_, ?_, ?_, ?_⟩,by simp[setBlock],hgr _⟩
   · simp[Instr.mapUpdate,run_underlying ht,MapKept.run_getObj_map hb,K.check w false vM,g1,haj,g3,K.stays w vM,MapKept.run_setObj_map _ hb,Result.andThen,setBlock]
   · rw [Array.toList_modify]
     apply List.ext_getElem?;intro i;have h6:(a.toList.map (fun e=>(e.key,e.val)))[i]? = (es.map (fun p=>(Value.string p.1,p.2)))[i]? := by rw[hes]
     rw[iw,iw]at h6;rw[iw,iw,List.getElem?_modify,List.getElem?_set];by_cases c:j=i
     · subst c
       rw[if_pos rfl,g2,if_pos (dW.1 Fu).1];simp
     · rw[if_neg c];simp only[if_neg c]
       rw[← h6];cases a.toList[i]? <;> rfl
   · intro p hp
     obtain⟨i,hi⟩:=List.getElem?_of_mem hp;rcases FD i p hi with ⟨_,e⟩|⟨_,e⟩
     · rw[e];exact hks
     · exact h2 p (fu e)
   · intro p hp;unfold yz
     obtain⟨i,hi⟩:=List.getElem?_of_mem hp;rcases FD i p hi with ⟨_,e⟩|⟨e0,e⟩
     · rw[e,if_pos rfl]
     · rw[if_neg (Ke i p e0 e)];exact h3 p (fu e)
   · intro k' v' hv;unfold yz at hv
     by_cases c:k'=key
     · rw[if_pos c]at hv;rw[← dU hv,c]
       exact fu (i:=j) (by rw[List.getElem?_set,if_pos rfl,if_pos (dW.1 Fu).1])
     · rw[if_neg c]at hv
       obtain⟨i,hi⟩:=List.getElem?_of_mem (h4 _ _ hv);refine fu (i:=i) ?_;rw[List.getElem?_set,if_neg (fun e=>c (by subst e;rw[Fu]at hi;have:=dU hi;simp only[bg]at this;exact this.1.symm))];exact hi
   · intro i i' p q hp hq hpq
     rcases FD i p hp with ⟨e1,e2⟩|⟨e1,e2⟩ <;> rcases FD i' q hq with ⟨e3,e4⟩|⟨e3,e4⟩
     · rw[e1,e3]
     · exact absurd (hpq.symm.trans (by rw[e2])) (Ke i' q e3 e4)
     · exact absurd (hpq.trans (by rw[e4])) (Ke i p e1 e2)
     · exact h5 i i' p q e2 e4 hpq
end Go.Proofs.YtaobhjliflomaaaGreatDoor
namespace Go.Proofs.YtaobhjliflomaaaGreatDoor
open Go.RowKit
theorem Own.keep {α : Type}{size:Nat}{E:Enc α size}{e:TypeId}{w w':World}{base:Nat}{v:Value}{xs:List α}(h:Own E e w base v xs)
 (hk:∀g,base≤g→g<w.heap.size→v.ownBlock=Option.some g→w'.heap[g]? = w.heap[g]?):Own E e w' base v xs:=by
 refine⟨h.1, ?_⟩;rcases h.2 with h|⟨g,cap,cur,h1,h2,h3,h4⟩
 · exact .inl h
 · refine .inr ⟨g,cap,cur,h1,h2, ?_,h4⟩
   rw[hk g h2 (dO.1 h3).1 (by rw[h1];rfl)];exact h3
theorem Own.lies {α : Type}{size:Nat}{E:Enc α size}{e:TypeId}{w:World}{base:Nat}{v:Value}{xs:List α}(h:Own E e w base v xs){g:Nat}(hg:v.ownBlock=Option.some g):base≤g∧∃cur,w.heap[g]? = Option.some (.cells cur e (0,0)):=by
 rcases h.2 with ⟨h1,_⟩|⟨b,cap,cur,h1,h2,h3,_⟩
 · rw[h1]at hg;cases hg
 · rw[h1]at hg;injection hg with hg
   have hg:b=g:=hg;subst hg;exact⟨h2,cur,h3⟩
theorem Own.less {α : Type}{size:Nat}{E:Enc α size}{e:TypeId}{w:World}{base:Nat}{v:Value}{xs:List α}(h:Own E e w base v xs){g:Nat}(hg:v.ownBlock=Option.some g):g<w.heap.size:=by
 obtain⟨_,cur,h3⟩:=h.lies hg;exact(dO.1 h3).1
theorem Own.EW {α β : Type}{s1 s2:Nat}{E:Enc α s1}{F:Enc β s2}{e f:TypeId}{w:World}{b1 b2:Nat}{u v:Value}{xs:List α}{ys:List β}(h:Own E e w b1 u xs)(k:Own F f w b2 v ys)(hne:e≠f){g:Nat}(hg:u.ownBlock=Option.some g):Option.some g≠v.ownBlock:=by
 intro hv;obtain⟨_,c1,h1⟩:=h.lies hg;obtain⟨_,c2,h2⟩:=k.lies hv.symm;rw[h1]at h2;injection h2 with h2;injection h2 with h2 h3;exact hne h3
def fQ {α : Type}{k:Nat}(E:Enc α k)(w:World)(B:Nat)(v:Value)(xs:List α):Prop :=
 ∃A cap,v = .slice A xs.length cap∧xs.length≤cap∧cap≤maxLen∧(xs=[]∨∃pb po,A=some ⟨pb,po,none⟩∧pb<B∧∀(j:Nat)(u:Value),(E.all xs)[j]? = some u→w.cell? ⟨pb,po+j,none⟩=some u)
theorem fQ.below {α : Type}{k:Nat}{E:Enc α k}{w w':World}{B C:Nat}{v:Value}{xs:List α}(h:fQ E w B v xs)(hb:Below C w w')(hC:B≤C):fQ E w' B v xs:=by
 obtain⟨A,cap,h1,h2,h3,h4⟩:=h;refine⟨A,cap,h1,h2,h3,h4.imp id ?_⟩;rintro⟨pb,po,e1,e2,e3⟩;exact⟨pb,po,e1,e2,fun j x hj=>(hb.cell (p:=⟨pb,po+j,none⟩) (by show pb<C;omega)).trans (e3 j x hj)⟩
theorem fQ.mono {α : Type}{k:Nat}{E:Enc α k}{w:World}{B C:Nat}{v:Value}{xs:List α}(h:fQ E w B v xs)(hC:B≤C):fQ E w C v xs:=by
 obtain⟨A,cap,h1,h2,h3,h4⟩:=h;refine⟨A,cap,h1,h2,h3,h4.imp id ?_⟩;rintro⟨pb,po,e1,e2,e3⟩;exact⟨pb,po,e1,by omega,e3⟩
theorem fQ.lift{α : Type}{k:Nat}{E:Enc α k}{w w':World}{v:Value}{xs:List α}(h:fQ E w w.heap.size v xs)(hb:Below w.heap.size w w'):fQ E w' w'.heap.size v xs:=(h.below hb (ah _)).mono hb.size
theorem Own.se {α : Type}{k:Nat}{E:Enc α k}{e:TypeId}{w:World}{base:Nat}{v:Value}{xs:List α}(h:Own E e w base v xs):fQ E w w.heap.size v xs:=by
 rcases h.shape with ⟨rfl,rfl⟩|⟨g,cap,rfl,hg,hl,hc,hm⟩
 · exact⟨none,0,rfl,ah _,by unfold maxLen;omega,.inl rfl⟩
 · exact⟨_,_,rfl,hc,hm,.inr ⟨g,0,rfl,hl,fun j u hj=>by rw[Nat.zero_add];exact h.cells j u hj⟩⟩
theorem fQ.at {α : Type}{k:Nat}{E:Enc α k}{w:World}{B:Nat}{A:Option Addr}{n cap:Nat}{xs:List α}(h:fQ E w B (.slice A n cap) xs){i:Nat}{x : α}(hi:xs[i]? = some x) :
 ∃pb po,A=some ⟨pb,po,none⟩∧pb<B∧∀(j:Nat)(u:Value),(E.f x)[j]? = some u→w.cell? ⟨pb,po+(i*k+j),none⟩=some u:=by
 obtain⟨A',oZ,h1, -, -,h2⟩:=h;injection h1 with e1 e2 e3;subst e1;rcases h2 with rfl|⟨pb,po,h1,h2,h3⟩
 · simp at hi
 · refine⟨pb,po,h1,h2,fun j u hj=>h3 _ u ?_⟩
   have hjk:j<k:=by rw[← E.len x];exact(dW.1 hj).1
   rw[E.at xs i j x hi hjk];exact hj
theorem fQ.len {α : Type}{k:Nat}{E:Enc α k}{w:World}{B:Nat}{A:Option Addr}{n cap:Nat}{xs:List α}(h:fQ E w B (.slice A n cap) xs):xs.length=n∧n≤cap∧cap≤maxLen:=by
 obtain⟨A',oZ,h1,h2,h3, -⟩:=h;injection h1 with e1 e2 e3;subst e3;exact⟨e2.symm,by omega,h3⟩
def Jr{α : Type}{k:Nat}(E:Enc α k)(e:TypeId)(w:World)(g:Nat)(xs:List α):Prop:=∃cur:Array Value,w.heap[g]? = some (.cells cur e)∧∀(j:Nat)(u:Value),(E.all xs)[j]? = some u→cur[j]? = some u
theorem Jr.uN {α : Type}{k:Nat}{E:Enc α k}{e:TypeId}{w:World}{g:Nat}{xs:List α}(h:Jr E e w g xs)(j:Nat):w.frozen? ⟨g,j,none⟩=false:=by
 obtain⟨cur,h1,h2⟩:=h;exact frozen_of_row w g j cur e h1
theorem Own.LW {α : Type}{k:Nat}{E:Enc α k}{e:TypeId}{w:World}{base g n cap:Nat}{xs:List α}(h:Own E e w base (.slice (Option.some ⟨g,0,none⟩) n cap) xs):Jr E e w g xs:=by
 obtain⟨_,cur,h1⟩:=h.lies (g:=g) rfl;refine⟨cur,h1,fun j u hj => ?_⟩;have:=h.cells j u hj;rwa[cell_of_row w g j cur e _ h1]at this
theorem Xc {α : Type}(E:Enc α 1)(xs:List α)(i:Nat)(x : α)(u:Value)(hu:E.f x=[u]):E.all (xs.set i x)=(E.all xs).set i u:=by
 unfold Enc.all
 induction xs generalizing i with
 | nil=>rfl
 | cons a t ih =>
   obtain⟨v,hv⟩:=List.length_eq_one_iff.1 (E.len a);cases i with
   | zero=>rw[List.set_cons_zero,oP,oP,hu,hv];rfl
   | succ i=>rw[List.set_cons_succ,oP,oP,ih,hv];rfl
theorem BU {P:Program}{α : Type}{size t e bytes:Nat}{w:World}{ops:Array Oper}{rest:List Oper}{o:Oper}{a:Act}{Q:Exit→Act→World→Prop}(bV:Elem P t e size bytes)(E:Enc α size)
 (hgd:o.guard=none) (s x:Operand) (ho:o.op = .call { callee := .builtin .append,args:=#[s,x],argTypes:=#[t,t] }) (base:Nat) (v:Value) (xs:List α)
 (hs:a.eval s=v) (gW:Own E e w base v xs) (ad:Addr) (m c:Nat) (ys:List α) (hx:a.eval x = .slice (some ad) m c) (hl:ys.length=m)
 (hc:∀(j:Nat)(u:Value),(E.all ys)[j]? = some u→w.cell? (ad.add j)=some u) (hb:(xs.length+m)*bytes≤140737488355328) (hb2:xs.length+m≤maxLen) (jk:base≤w.heap.size)
 (h:∀(v':Value)(w':World),Own E e w' base v' (xs++ys)→w.grownBy w' v.ownBlock→(v'.ownBlock=v.ownBlock∨v'.ownBlock=some w.heap.size)→wpList P ops Q rest (a.put o.dst v') w'):wpList P ops Q (o :: rest) a w:=by
 obtain⟨z,hi,hz⟩:=bV.inf;obtain⟨i,hi1,hi2,hi3,hi4⟩:=info_parts hi;refine wpList_append_own_at w hgd s x t ho base e i z size bytes bV.und hi1 hi2 hi3 hi4 hz bV.pos v xs.length (E.all xs) hs gW ad m c (E.all ys) hx (by rw[E.lU,hl]) hc (E.xg ys) hb2 hb jk ?_;intro v' w' h1 h2 _ h4;refine h v' w' ?_ h2 h4;unfold Own;rw[E.all_append,ak,hl];exact h1
theorem Ml {P:Program}{α : Type}{size t e bytes:Nat}{w:World}{ops:Array Oper}{o:Oper}{a:Act}{K:Act→World→Prop}{Q:Exit→Act→World→Prop}{F:Prop}(bV:Elem P t e size bytes)(E:Enc α size)
 (hgd:o.guard=none) (s x:Operand) (ho:o.op = .call { callee := .builtin .append,args:=#[s,x],argTypes:=#[t,t] }) (base:Nat) (v:Value) (xs:List α)
 (hs:a.eval s=v) (gW:Own E e w base v xs) (ad:Addr) (m c:Nat) (ys:List α) (hx:a.eval x = .slice (some ad) m c) (hl:ys.length=m)
 (hc:∀(j:Nat)(u:Value),(E.all ys)[j]? = some u→w.cell? (ad.add j)=some u) (hb:(xs.length+m)*bytes≤140737488355328) (hb2:xs.length+m≤maxLen) (jk:base≤w.heap.size)
 (h:∀(v':Value)(w':World),Own E e w' base v' (xs++ys)→w.grownBy w' v.ownBlock→(v'.ownBlock=v.ownBlock∨v'.ownBlock=some w.heap.size)→K (a.put o.dst v') w') :
 if Region.wanted o (yielded ops a.tmps)=true then Oper.wp P o a w K Q else F:=by
 have hw:Region.wanted o (yielded ops a.tmps)=true:=by simp[Region.wanted,hgd]
 rw[if_pos hw];obtain⟨z,hi,hz⟩:=bV.inf;obtain⟨i,hi1,hi2,hi3,hi4⟩:=info_parts hi;obtain⟨v',w',qo,r1,r2,_,r4⟩:=run_append_own_at (P:=P) w base t o.type e i z size bytes bV.und hi1 hi2 hi3 hi4 hz bV.pos v xs.length (E.all xs) gW ad m c (E.all ys) (by rw[E.lU,hl]) hc (E.xg ys) hb2 hb jk;unfold Oper.wp;simp[execOp,ho,resolve,invoke,builtin,hs,hx,qo,Result.andThen];refine h v' w' ?_ r2 r4;unfold Own;rw[E.all_append,ak,hl];exact r1
theorem Elem.u8:Elem Tryz.prog 22 5 1 1:=⟨Tryz.underlying22,⟨.int .u8 0,by kernel_rfl,rfl⟩,by decide⟩
abbrev oW(w:World)(base:Nat)(v:Value)(xs:List Int):Prop:=Own (aK .u8) 5 w base v xs
theorem BK {w:World}{base:Nat}{v:Value}{xs:List Int}(h:oW w base v xs):(convert 22 9 v).run Tryz.prog w = .ok (.string (strOfNums xs)) w:=by
 rcases h.shape with ⟨rfl,rfl⟩|⟨g,cap,rfl,h1,h2,h3,h4⟩
 · rw[run_convert_bytes_nil w _ 5 Tryz.underlying22 Tryz.underlying5 _ _ _ Tryz.underlying9];rfl
 · refine run_convert_bytes_arg w _ 5 Tryz.underlying22 Tryz.underlying5 g 0 _ cap xs rfl (fun i hi => ?_) _ Tryz.underlying9
   rw[Nat.zero_add];exact h.vQ i hi
theorem ae' {P:Program}{α : Type}{size t tx ty e bytes:Nat}{w:World}(bV:Elem P t e size bytes)(E:Enc α size)(base:Nat)(v:Value)(xs:List α)(gW:Own E e w base v xs)
 (x:Value) (m:Nat) (ys:List α) (hl:ys.length=m) (hs:Src P size tx x m (E.all ys) w) (hb:(xs.length+m)*bytes≤140737488355328) (hb2:xs.length+m≤maxLen) (jk:base≤w.heap.size) :
 ∃v' w',(Builtin.append_ #[t,tx] ty #[v,x]).run P w = .ok v' w'∧Own E e w' base v' (xs++ys)∧Below base w w':=by
 obtain⟨z,hi,hz⟩:=bV.inf;obtain⟨i,hi1,hi2,hi3,hi4⟩:=info_parts hi;have ht:=bV.und;subst hi3;subst hi4;have hlx:=E.lU xs;have zF:=E.lU ys;rw[hl]at zF;have hlen:(E.all (xs++ys)).length=(xs.length+m)*i.size:=by rw[E.lU,ak,hl]
 have Km:xs.length+m≤9223372036854775807:=by simp only[maxLen]at hb2;omega
 have grown:∀(old:Nat),old<xs.length+m →
  Own E e (w.drew.alloc (.cells ((E.all xs++E.all ys).toArray++Builtin.zeroCells z.cells (grownCap w (xs.length+m) old e - (xs.length+m))) e)) base (.slice (some ⟨w.heap.size,0,none⟩) (xs.length+m) (grownCap w (xs.length+m) old e)) (xs++ys) ∧
  Below base w (w.drew.alloc (.cells ((E.all xs++E.all ys).toArray++Builtin.zeroCells z.cells (grownCap w (xs.length+m) old e - (xs.length+m))) e)):=by
  intro old ho;have hge:=grownCap_ge w (xs.length+m) old e;have hcm:grownCap w (xs.length+m) old e≤maxLen:=grownCap_le_maxLen w (xs.length+m) old e hb2;refine⟨?_,((ai _ _).drew).alloc jk _⟩;unfold Own;rw[ak,hl];refine⟨hlen,.inr ⟨w.heap.size,_,_,rfl,jk,heap_alloc_new w.drew _,hge,hcm, ?_, ?_⟩⟩
  · simp only[Array.size_append,List.size_toArray,size_zeroCells,hz,ak,hlx,zF, ← Nat.add_mul]
    congr 1;omega
  · simp only[Array.toList_append]
    rw[← E.all_append, ← hlen];exact List.take_left
 have h0:=gW;rcases gW.2 with ⟨rfl,hn⟩|⟨g,cap,cur,rfl,hbg,hg,hnc,hcm,hcs,Dl⟩
 · have hx:xs=[]:=kg hn
   subst hx;by_cases hm:m=0
   · subst hm
     have hy:ys=[]:=kg hl;subst hy;refine⟨.slice none 0 0,w, ?_,Own.nil E e w base,ai _ _⟩;have hc:=hs.cells;have hll:=hs.len;have hc':(Builtin.firstCells i.size 0 x).run P w = .ok #[] w:=hc
     rcases hs.kind with ⟨e',hk⟩|hk <;>
      simp[Builtin.append_,run_underlying ht,run_underlying hk,sizeOf,typeInfo,hi1,hll,hc']
   · have hgr:=grown 0 (by simp;omega)
     have hr:=run_append_grow_src (P:=P) w t tx ty e i z ht hi1 hi2 none 0 0 [] (by simp[Builtin.firstCells]) x m (E.all ys) hs (by omega) (by simp at Km;omega) (growslice_fits (by omega) (by simpa using hb));simp only[dI,Nat.zero_add,gL,Enc.all,List.flatMap_nil]at hgr hr ⊢;exact⟨_,_,hr,hgr.1,hgr.2⟩
 · by_cases zL:xs.length+m≤cap
   · have zC:xs.length*i.size+(E.all ys).length≤cur.size:=by rw[zF,hcs, ← Nat.add_mul];exact Nat.mul_le_mul_right _ zL
     have hst:=run_storeCells_at P g (xs.length*i.size) e (E.all ys) 0 cur w hg (by omega) (E.xg ys);simp only[Nat.add_zero]at hst;refine⟨.slice (some ⟨g,0,none⟩) (xs.length+m) cap,w.setRow g (cur.toList.take (xs.length*i.size)++E.all ys++cur.toList.drop (xs.length*i.size+(E.all ys).length)).toArray, ?_, ?_, ?_⟩
     · rcases hs.kind with ⟨e',hk⟩|hk <;> simp[Builtin.append_,run_underlying ht,run_underlying hk,sizeOf,typeInfo,hi1,hs.len,zL,hs.cells,Addr.add_lit,hst]
     · unfold Own
       rw[ak,hl];refine⟨hlen,.inr ⟨g,cap,_,rfl,hbg,setRow_heap w g cur _ e _ hg,zL,hcm, ?_, ?_⟩⟩
       · simp only[List.size_toArray,ak,gK,List.length_drop,Array.length_toList]
         omega
       · rw[Dl, ← hlen, ← E.all_append]
         exact List.take_left
     · exact⟨rfl,rfl,rfl,by simp,fun k hk=>setRow_other w g k _ (by omega)⟩
   · have hold:(Builtin.firstCells i.size xs.length (.slice (some ⟨g,0,none⟩) xs.length cap)).run P w.drew = .ok (E.all xs).toArray w.drew :=
      run_firstCells_some w.drew i.size xs.length ⟨g,0,none⟩ xs.length cap (E.all xs) hlx (World.ownsRow.cells (w:=w.drew) h0 (g:=g) rfl)
     have hgr:=grown cap (by omega);have hr:=run_append_grow_src (P:=P) w t tx ty e i z ht hi1 hi2 (some ⟨g,0,none⟩) xs.length cap (E.all xs) hold x m (E.all ys) hs (by omega) (by omega) (growslice_fits (by omega) hb);exact⟨_,_,hr,hgr.1,hgr.2⟩
theorem MR {P:Program}{α : Type}{size t tx e bytes:Nat}{w:World}{ops:Array Oper}{rest:List Oper}{o:Oper}{a:Act}{Q:Exit→Act→World→Prop}(bV:Elem P t e size bytes)(E:Enc α size)
 (hgd:o.guard=none) (s x:Operand) (ho:o.op = .call { callee := .builtin .append,args:=#[s,x],argTypes:=#[t,tx] }) (base:Nat) (v:Value) (xs:List α)
 (hs:a.eval s=v) (gW:Own E e w base v xs) (y:Value) (m:Nat) (ys:List α) (hx:a.eval x=y) (hl:ys.length=m) (Kn:Src P size tx y m (E.all ys) w)
 (hb:(xs.length+m)*bytes≤140737488355328) (hb2:xs.length+m≤maxLen) (jk:base≤w.heap.size)
 (h:∀(v':Value)(w':World),Own E e w' base v' (xs++ys)→Below base w w'→wpList P ops Q rest (a.put o.dst v') w'):wpList P ops Q (o :: rest) a w:=by
 obtain⟨v',w',qo,h2,h3⟩:=ae' (ty:=o.type) bV E base v xs gW y m ys hl Kn hb hb2 jk;refine wpList_plain hgd fun _ hK => ?_
 unfold Oper.wp execOp;simp only[ho,resolve,invoke,builtin,Sem.run_bind,Sem.run_pure,Result.andThen_ok,List.map_toArray,jr,List.map_nil,hs,hx,qo];exact hK _ _ (h v' w' h2 h3)
theorem XA (s:ByteArray):byteCells s=(aK .u8).all (sb s):=by
 rw[vE];unfold byteCells sb;rw[List.map_map];rfl
theorem GY {w:World}(s:ByteArray):Src Tryz.prog 1 9 (.string s) s.size ((aK .u8).all (sb s)) w:=by
 rw[← XA];exact Src.ofString w Tryz.underlying9 s
theorem Bytes.take{l:List Int}(h:Bytes l)(k:Nat):Bytes (l.take k):=fun a ha=>h a (List.mem_of_mem_take ha)
structure S8 (w:World)(B:Nat)(A:Option Addr)(len cap:Nat)(xs:List Int):Prop where
 hlen:xs.length=len
 le:len≤cap
 max:cap≤maxLen
 bytes:Bytes xs
 at_:len=0∨∃pb po,A=some ⟨pb,po,none⟩∧pb<B∧∀j,j<len→w.cell? ⟨pb,po+j,none⟩=some (.int .u8 (xs.getD j 0))
theorem Own.other {α : Type}{size:Nat}{E:Enc α size}{e:TypeId}{w w':World}{base r:Nat}{v:Value}{xs:List α}(h:Own E e w base v xs)(hg:w.grownBy w' (Option.some r))(hr:r<base):Own E e w' base v xs:=by
 refine⟨h.1, ?_⟩;rcases h.2 with h|⟨g,cap,cur,h1,h2,h3,h4⟩
 · exact .inl h
 · refine .inr ⟨g,cap,cur,h1,h2, ?_,h4⟩
   rw[hg.block g (dO.1 h3).1 (by intro h;have:g=r:=dU h;omega)];exact h3
theorem P6 {P:Program}{md:Region.Mode}{ops:Array Oper}{Q:Exit→Act→World→Prop}{S:World→Prop}{i:Nat}{oi:Oper}{d:Option Tmp}{fuel:Nat}{listed jM:Array Bool}{a:Act}{w:World}(hi:ops[i]? = some oi)(hd:oi.dst=d)
 (hr:Region.ready md ops listed=[i]) (hl:listed.setIfInBounds i true=jM) (hw:Region.wanted oi (yielded ops a.tmps)=true)
 (h:∀K:Act→World→Prop,Shut (∀v w,S w→wpAnyH P md ops Q S fuel jM (a.put d v) w→K (a.put d v) w)→Oper.wp P oi a w K Q):wpAnyH P md ops Q S (fuel+1) listed a w:=by
 subst hd;subst hl;refine wpAnyH_ready hr (by simp) (AllReadyH.cons hi (fun K hK => ?_) AllReadyH.nil);rw[if_pos hw];exact h K (fun v w hS hW=>hK _ _ hS (fun _=>hW))
theorem gA{α : Type}(l:List α)(i:Nat):l.toArray[i]? = l[i]? := List.getElem?_toArray ..
theorem gS{α : Type}(x : α)(l:List α)(n:Nat):(x :: l)[n+1]? = l[n]? := rfl
theorem mY{α : Type}(x : α)(l:List α):(x :: l)[0]? = some x:=rfl
theorem sT{α : Type}(l:List α)(i:Nat)(a : α):l.toArray.setIfInBounds i a=(l.set i a).toArray:=List.setIfInBounds_toArray ..
theorem fG{α : Type}(x : α)(l:List α)(a : α):(x :: l).set 0 a=a :: l:=rfl
theorem fF{α : Type}(x : α)(l:List α)(n:Nat)(a : α):(x :: l).set (n+1) a=x :: l.set n a:=rfl
def BQ(md:Region.Mode)(ops:Array Oper)(listed:Array Bool)(i:Nat):Bool:=Region.noSelect ops&&(Region.free md ops listed i&&(Region.ready md ops listed).contains i)
theorem Ha {md:Region.Mode}{ops:Array Oper}{listed:Array Bool}{i:Nat}(h:BQ md ops listed i=true):Region.noSelect ops=true∧Region.free md ops listed i=true∧(Region.ready md ops listed).contains i=true :=
 ⟨(Bool.and_eq_true_iff.1 h).1,(Bool.and_eq_true_iff.1 (Bool.and_eq_true_iff.1 h).2).1,(Bool.and_eq_true_iff.1 (Bool.and_eq_true_iff.1 h).2).2⟩
theorem hT {P:Program}{md:Region.Mode}{ops:Array Oper}{Q:Exit→Act→World→Prop}{S:World→Prop}(i:Nat){oi:Oper}{v:Value}{fuel:Nat}{listed jM:Array Bool}{a a':Act}{w:World}(hS:S w)(h:wpAnyH P md ops Q S fuel jM a' w)(hi:ops[i]? = some oi:=by(first|(simp only[gA,gS,mY];done)|(simp only[gA,gS,mY];rfl)))
 (hc:BQ md ops listed i=true:=by kernel_rfl) (hl:listed.setIfInBounds i true=jM:=by(simp only[sT,fG,fF];rfl)) (hw:Region.wanted oi (yielded ops a.tmps)=true:=by rfl) (hy:∀w,S w→(execOp a.eval oi).run P w = .ok (.value v) w:=by(intro gJ hSw;go_simp;try(with_reducible rfl)))
 (ha:a.put oi.dst v=a':=by(simp only[Act.put,sT,fG,fF];rfl)) (hQ:∀c a w,Q (.panic c) (a.put oi.dst v) w→Q (.panic c) a w:=by exact fun _ _ _ h=>h):wpAnyH P md ops Q S (fuel+1) listed a w:=by
 obtain⟨h1,h2,h3⟩:=Ha hc;subst hl;subst ha;exact wpAnyH_take hi h1 h2 h3 hQ (.inl ⟨hw,hy⟩) hS h
theorem hU {P:Program}{md:Region.Mode}{ops:Array Oper}{Q:Exit→Act→World→Prop}{S:World→Prop}(i:Nat){oi:Oper}{v:Value}{fuel:Nat}{listed jM:Array Bool}{a a':Act}{w:World}(hS:S w)(h:wpAnyH P md ops Q S fuel jM a' w)(hi:ops[i]? = some oi:=by(first|(simp only[gA,gS,mY];done)|(simp only[gA,gS,mY];rfl)))
 (hc:BQ md ops listed i=true:=by kernel_rfl) (hl:listed.setIfInBounds i true=jM:=by(simp only[sT,fG,fF];rfl)) (hw:Region.wanted oi (yielded ops a.tmps)=true:=by rfl) (hy:∀w,S w→(execOp a.eval oi).run P w = .ok (.value v) w:=by(intro gJ hSw;have hz:=hSw;go_simp;try(with_reducible rfl)))
 (ha:a.put oi.dst v=a':=by(simp only[Act.put,sT,fG,fF];rfl)) (hQ:∀c a w,Q (.panic c) (a.put oi.dst v) w→Q (.panic c) a w:=by exact fun _ _ _ h=>h):wpAnyH P md ops Q S (fuel+1) listed a w:=by
 obtain⟨h1,h2,h3⟩:=Ha hc;subst hl;subst ha;exact wpAnyH_take hi h1 h2 h3 hQ (.inl ⟨hw,hy⟩) hS h
theorem hV {P:Program}{md:Region.Mode}{ops:Array Oper}{Q:Exit→Act→World→Prop}{S:World→Prop}(i:Nat){oi:Oper}{v:Value}{fuel:Nat}{listed jM:Array Bool}{a a':Act}{w:World}(hS:S w)(h:wpAnyH P md ops Q S fuel jM a' w)(hi:ops[i]? = some oi:=by(first|(simp only[gA,gS,mY];done)|(simp only[gA,gS,mY];rfl)))
 (hc:BQ md ops listed i=true:=by kernel_rfl) (hl:listed.setIfInBounds i true=jM:=by(simp only[sT,fG,fF];rfl)) (hw:Region.wanted oi (yielded ops a.tmps)=true:=by rfl) (hy:∀w,S w→(execOp a.eval oi).run P w = .ok (.value v) w:=by(intro gJ hSw;(try dsimp only at hSw);go_simp;try(with_reducible rfl)))
 (ha:a.put oi.dst v=a':=by(simp only[Act.put,sT,fG,fF];rfl)) (hQ:∀c a w,Q (.panic c) (a.put oi.dst v) w→Q (.panic c) a w:=by exact fun _ _ _ h=>h):wpAnyH P md ops Q S (fuel+1) listed a w:=by
 obtain⟨h1,h2,h3⟩:=Ha hc;subst hl;subst ha;exact wpAnyH_take hi h1 h2 h3 hQ (.inl ⟨hw,hy⟩) hS h
theorem hN {P:Program}{md:Region.Mode}{ops:Array Oper}{Q:Exit→Act→World→Prop}{S:World→Prop}(i:Nat){oi:Oper}{fuel:Nat}{listed jM:Array Bool}{a a':Act}{w:World}(hS:S w)(h:wpAnyH P md ops Q S fuel jM a' w)(hi:ops[i]? = some oi:=by(first|(simp only[gA,gS,mY];done)|(simp only[gA,gS,mY];rfl)))
 (hc:BQ md ops listed i=true:=by kernel_rfl) (hl:listed.setIfInBounds i true=jM:=by(simp only[sT,fG,fF];rfl)) (hw:Region.wanted oi (yielded ops a.tmps)=false:=by rfl) (ha:a.put oi.dst undef=a':=by(simp only[Act.put,sT,fG,fF];rfl))
 (hQ:∀c a w,Q (.panic c) (a.put oi.dst undef) w→Q (.panic c) a w:=by exact fun _ _ _ h=>h):wpAnyH P md ops Q S (fuel+1) listed a w:=by
 obtain⟨h1,h2,h3⟩:=Ha hc;subst hl;subst ha;exact wpAnyH_take hi h1 h2 h3 hQ (.inr ⟨hw,rfl⟩) hS h
theorem hO {P:Program}{md:Region.Mode}{ops:Array Oper}{Q:Exit→Act→World→Prop}{S:World→Prop}(i:Nat){oi:Oper}{d:Option Tmp}{fuel:Nat}{listed jM:Array Bool}{a:Act}{w:World}
 (h:∀K:Act→World→Prop,Shut (∀v w,S w→wpAnyH P md ops Q S fuel jM (a.put d v) w→K (a.put d v) w)→Oper.wp P oi a w K Q) (hi:ops[i]? = some oi:=by(first|(simp only[gA,gS,mY];done)|(simp only[gA,gS,mY];rfl))) (hd:oi.dst=d:=by(first|(dsimp only;done)|(dsimp only;rfl)|rfl)) (hr:Region.ready md ops listed=[i]:=by kernel_rfl)
 (hl:listed.setIfInBounds i true=jM:=by(simp only[sT,fG,fF];rfl)) (hw:Region.wanted oi (yielded ops a.tmps)=true:=by rfl):wpAnyH P md ops Q S (fuel+1) listed a w:=P6 hi hd hr hl hw h
theorem Below.of(w w' w'':World)(h:Below w.heap.size w w')(k:Below w'.heap.size w' w''):Below w.heap.size w w'':=h.trans (k.mono h.size)
theorem ahI{P:Program}{ops:Array Oper}{Q:Exit→Act→World→Prop}{i:Nat}{a:Act}{w:World}{K K':Act→World→Prop}(h:∀a w,K a w→K' a w)(hk:wpOp P ops Q i K a w):wpOp P ops Q i K' a w:=wpOp_mono h hk
theorem P5 {P:Program}{md:Region.Mode}{ops:Array Oper}{Q:Exit→Act→World→Prop}{S S':World→Prop}(hS:∀w,S w→S' w):∀(fuel:Nat)(listed:Array Bool)(a:Act)(w:World),wpAnyH P md ops Q S fuel listed a w→wpAnyH P md ops Q S' fuel listed a w
 | 0,_,_,_,h=>h
 | fuel+1,_,_,_,h=>⟨h.1,fun i hi=>ahI (fun a' w' h'=>⟨hS _ h'.1,P5 hS fuel _ a' w' h'.2⟩) (h.2 i hi)⟩
theorem aa6 {P:Program}{ops:Array Oper}{Q:Exit→Act→World→Prop}{id:Nat}{a:Act}{w:World}(hm:P.follows .mixedOrders=true)
 (h:wpAnyH P .any ops Q (Below w.heap.size w.drew) ops.size (Array.replicate ops.size false) a w.drew):(Code.region id ops true).wp P Q a w :=
 wp_region_held_drew (S:=Below w.heap.size w.drew) hm (ai _ _) (fun _=>h)
theorem aa5 {P:Program}{md:Region.Mode}{ops:Array Oper}{Q:Exit→Act→World→Prop}{i:Nat}{oi:Oper}{d:Option Tmp}{fuel:Nat}{listed jM:Array Bool}{a:Act}{B:Nat}{w:World}(hi:ops[i]? = some oi)(hd:oi.dst=d)
 (hr:Region.ready md ops listed=[i]) (hl:listed.setIfInBounds i true=jM) (hw:Region.wanted oi (yielded ops a.tmps)=true)
 (h:∀K:Act→World→Prop,Shut (∀v w',Below B w w'→B≤w'.heap.size→wpAnyH P md ops Q (Below w'.heap.size w') fuel jM (a.put d v) w'→K (a.put d v) w')→Oper.wp P oi a w K Q):wpAnyH P md ops Q (Below B w) (fuel+1) listed a w :=
 P6 hi hd hr hl hw (fun K hK=>h K (fun v w' hb hB hn=>hK v w' hb (P5 (fun _ h'=>hb.trans (h'.mono hB)) _ _ _ _ hn)))
theorem zS {P:Program}{md:Region.Mode}{ops:Array Oper}{Q:Exit→Act→World→Prop}{B:Nat}(i:Nat){oi:Oper}{v:Value}{fuel:Nat}{listed jM:Array Bool}{a a':Act}{w:World}(h:wpAnyH P md ops Q (Below B w) fuel jM a' w)(hi:ops[i]? = some oi:=by(first|(simp only[gA,gS,mY];done)|(simp only[gA,gS,mY];rfl)))
 (hc:BQ md ops listed i=true:=by kernel_rfl) (hl:listed.setIfInBounds i true=jM:=by(simp only[sT,fG,fF];rfl)) (hw:Region.wanted oi (yielded ops a.tmps)=true:=by rfl) (hy:∀w',Below B w w'→(execOp a.eval oi).run P w' = .ok (.value v) w':=by(intro gJ hSw;go_simp;try(with_reducible rfl)))
 (ha:a.put oi.dst v=a':=by(simp only[Act.put,sT,fG,fF];rfl)) (hQ:∀c a w,Q (.panic c) (a.put oi.dst v) w→Q (.panic c) a w:=by exact fun _ _ _ h=>h):wpAnyH P md ops Q (Below B w) (fuel+1) listed a w :=
 hT i (ai _ _) h hi hc hl hw hy ha hQ
theorem aaS {P:Program}{md:Region.Mode}{ops:Array Oper}{Q:Exit→Act→World→Prop}(i:Nat){oi:Oper}{d:Option Tmp}{fuel:Nat}{listed jM:Array Bool}{a:Act}{B:Nat}{w:World}
 (h:∀K:Act→World→Prop,Shut (∀v w',Below B w w'→B≤w'.heap.size→wpAnyH P md ops Q (Below w'.heap.size w') fuel jM (a.put d v) w'→K (a.put d v) w')→Oper.wp P oi a w K Q) (hi:ops[i]? = some oi:=by(first|(simp only[gA,gS,mY];done)|(simp only[gA,gS,mY];rfl))) (hd:oi.dst=d:=by(first|(dsimp only;done)|(dsimp only;rfl)|rfl))
 (hr:Region.ready md ops listed=[i]:=by kernel_rfl) (hl:listed.setIfInBounds i true=jM:=by(simp only[sT,fG,fF];rfl)) (hw:Region.wanted oi (yielded ops a.tmps)=true:=by rfl):wpAnyH P md ops Q (Below B w) (fuel+1) listed a w:=aa5 hi hd hr hl hw h
end Go.Proofs.YtaobhjliflomaaaGreatDoor
namespace Go.Proofs.YtaobhjliflomaaaGreatDoor
open Go.ChangeShapes Go.WideShapes Go.ChangeAt Go.RowKit
theorem ahe {H:Type}{enc:TypeId × Value→H}{P:Program}(hl:laidOutB P=true){W W':World}(hb:Below W.heap.size W W') :
 ∀ (ts:List TypeId)(vs:List Value)(ds:List (DataW H))(p:List MemPlace),(ts.all fun t=>P.readableRec t&&decide (t<P.types.size))=true→(∀x∈p,x.block<W.heap.size) →
   DataW.TrodAll enc P W 0 (fun _=>true) true ts vs ds p→DataW.TrodAll enc P W' 0 (fun b=>decide (b<W.heap.size)) true ts vs ds p:=by
 intro ts
 induction ts with
 | nil =>
   intro vs ds p _ _ h;obtain⟨rfl,rfl,rfl⟩:=trodAll_nil h;exact trodAll_mk0
 | cons t ts ih =>
   intro vs ds p ht hlt h;obtain⟨v,vs',d,ds',p1,q1,rfl,rfl,rfl,h0,hr⟩:=trodAll_cons h;rw[List.all_cons,dA,dA,decide_eq_true_eq]at ht;exact trodAll_cons_mk (Below.trod hl ht.1.1 ht.1.2 h0 hb (fun x hx=>hlt x (List.mem_append_left _ hx))) (ih vs' ds' q1 ht.2 (fun x hx=>hlt x (List.mem_append_right _ hx)) hr)
theorem own:ownKnob Tryz.prog.godebug=none:=by kernel_rfl
theorem laidOut:laidOutB Tryz.prog=true:=by kernel_rfl
theorem abn {H:Type}{enc:TypeId × Value→H}{f:Func}{s:ChangeSpec}{W W':World}{args:Array Value}{ds gs:List (DataW H)}{before:List MemPlace}(hl:laidOutB Tryz.prog=true)
 (aaj:(f.params.toList.all fun t=>Tryz.prog.readableRec t&&decide (t<Tryz.prog.types.size))=true) (aj:f.resultTypes=#[4])
 (aar:s.vars=[]) (hfn:s.fn H (ds++gs)={ results:=[.lit (.bool true)],args:=ds })
 (hW:DataW.Whole enc Tryz.prog f.params.toList s.vars false W args.toList ds gs before) (hlt:∀x∈before,x.block<W.heap.size) (hb:Below W.heap.size W W') :
 s.post enc Tryz.prog f false true false false W args (.bool true) W':=by
 have hW0:=hW;obtain⟨p,q,hA,hV,rfl,_,_⟩:=hW;refine⟨ds,gs,p++q,[],p,[],hW0, ?_, ?_, ?_,hb.frame _,fun h=>by cases h⟩
 · rw[hfn,aj]
   exact trodAll_cons_mk (shut_bool Tryz.underlying4 true) trodAll_mk0
 · rw[hfn]
   exact ahe hl hb _ _ _ _ aaj (fun x hx=>hlt x (List.mem_append_left _ hx)) hA
 · rw[aar,hfn];rfl
end Go.Proofs.YtaobhjliflomaaaGreatDoor
namespace Go.Proofs.YtaobhjliflomaaaGreatDoor
open Go.RowKit
theorem Elem.pl:Elem Tryz.prog 28 3 1 8:=⟨Tryz.underlying28,⟨.int .i64 0,by kernel_rfl,rfl⟩,by decide⟩
abbrev IR(w:World)(B:Nat)(A:Option Addr)(n cap:Nat)(xs:List Int):Prop:=fQ (aK .i64) w B (.slice A n cap) xs
theorem QL {w:World}{B:Nat}{A:Option Addr}{n cap:Nat}{xs:List Int}(h:IR w B A n cap xs){i:Nat}(hi:i<n) :
 ∃pb po,A=some ⟨pb,po,none⟩∧pb<B∧w.cell? ⟨pb,po+i,none⟩=some (.int .i64 (xs.getD i 0)):=by
 have hl:=h.len.1;obtain⟨pb,po,h1,h2,h3⟩:=h.at (getD_some xs i (by omega));exact⟨pb,po,h1,h2,by have:=h3 0 _ rfl;rwa[Nat.mul_one,Nat.add_zero]at this⟩
def dh(t:TypeId)(w:World)(b:Nat)(v:Value)(nw:Int):Prop:=w.heap[b]? = some (.cells #[v,.int .i64 nw] t)
theorem dh.new(t:TypeId)(w:World)(v:Value)(nw:Int):dh t (w.alloc (.cells #[v,.int .i64 nw] t)) w.heap.size v nw:=(ko w _).1
theorem dh.lt{t:TypeId}{w:World}{b:Nat}{v:Value}{nw:Int}(h:dh t w b v nw):b<w.heap.size:=(dO.1 h).1
theorem dh.keep{t:TypeId}{w w':World}{b:Nat}{v:Value}{nw:Int}(h:dh t w b v nw)(hk:w'.heap[b]? = w.heap[b]?):dh t w' b v nw:=by unfold dh;rw[hk];exact h
theorem dh.below{t:TypeId}{w w':World}{b B:Nat}{v:Value}{nw:Int}(h:dh t w b v nw)(hb:Below B w w')(hB:b<B):dh t w' b v nw:=h.keep (hb.block b hB)
theorem dh.over{t:TypeId}{w w':World}{b:Nat}{v:Value}{nw:Int}(h:dh t w b v nw)(hb:Below w.heap.size w w'):dh t w' b v nw:=h.below hb h.lt
theorem dh.cells {t:TypeId}{w:World}{b:Nat}{v:Value}{nw:Int}(h:dh t w b v nw):w.cell? ⟨b,0,none⟩=some v∧w.cell? ⟨b,1,none⟩=some (.int .i64 nw) :=
 ⟨by rw[cell_of_row w b 0 _ _ _ h];rfl,by rw[cell_of_row w b 1 _ _ _ h];rfl⟩
theorem dh.bH {t:TypeId}{w:World}{b:Nat}{v:Value}{nw:Int}(h:dh t w b v nw):w.frozen? ⟨b,0,none⟩=false∧w.frozen? ⟨b,1,none⟩=false :=
 ⟨frozen_of_row w b 0 _ _ h,frozen_of_row w b 1 _ _ h⟩
theorem dh.SX {t:TypeId}{w:World}{b:Nat}{v:Value}{nw:Int}(h:dh t w b v nw)(u:Value):dh t (w.setCell ⟨b,0,none⟩ u) b u nw:=by
 unfold dh;rw[heap_setCell_same w b 0 _ _ _ h];rfl
theorem dh.Dz {t:TypeId}{w:World}{b:Nat}{v:Value}{nw:Int}(h:dh t w b v nw)(m:Int):dh t (w.setCell ⟨b,1,none⟩ (.int .i64 m)) b v m:=by
 unfold dh;rw[heap_setCell_same w b 1 _ _ _ h];rfl
theorem dh.other {t:TypeId}{w:World}{b:Nat}{v:Value}{nw:Int}(h:dh t w b v nw)(a:Addr)(u:Value)(hne:b≠a.block):dh t (w.setCell a u) b v nw:=by
 unfold dh;rw[heap_setCell_other w a b u hne];exact h
theorem rY(t:TypeId)(w:World)(v:Value)(nw:Int):Below w.heap.size w (w.alloc (.cells #[v,.int .i64 nw] t)):=(ai _ _).alloc (ah _) _
theorem Ac {α : Type}{k:Nat}{E:Enc α k}{e:TypeId}{w:World}{lo:Nat}{v:Value}{xs:List α}(h:Own E e w lo v xs):∃A c,v = .slice A xs.length c:=by
 rcases h.shape with ⟨rfl,rfl⟩|⟨g,c,rfl,_⟩
 · exact⟨none,0,rfl⟩
 · exact⟨_,c,rfl⟩
end Go.Proofs.YtaobhjliflomaaaGreatDoor
