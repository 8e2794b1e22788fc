import Derived.Test.YtdnooocmlhcpkaaGreatDoorRows
import Derived.WalkKit
import Derived.WalkSpells
import Derived.WalkLawsBesides
import Derived.WalkSmall
import Derived.Handy
import Derived.Deep.QuietTactic
import Derived.BigQuiet
import Derived.RegionTactic
import Derived.BigRegion
import Derived.StillTailTactics
import Derived.Lib.Hide
import Derived.Laws.Rows
import Derived.Laws.CopyOwn
import Derived.Laws.CopyRow
import Derived.Deep.MidRow
import Derived.Deep.WholeRow
import Derived.Deep.Cut
import Derived.Deep.RegionLaw
import Derived.Laws.BytesArg
import Derived.Laws.MakeOwn
import Derived.MapKept
import Derived.Maps.AppendAt
import Derived.Deep.AppendSrc
import Derived.Deep.RegionHeld3
import Derived.ProofKit
import Derived.OpenShut
import Derived.Deep.DeepHandedRow
import Derived.Lib.LaidTab
import Derived.Lib.SliceRun
import Derived.Deep.OwnRows
set_option maxRecDepth 100000
set_option maxHeartbeats 64000000
theorem Go.RowKit.Hid.o{p:Prop}(h:Go.RowKit.Hid p):p:=h
theorem Go.Shut.o{p:Prop}(h:Go.Shut p):p:=h
namespace Go.Proofs.YtdnooocmlhcpkaaGreatDoor
theorem ag:∀(n : Nat), n ≤ n:=@Nat.le_refl
theorem aj.{u}:∀ {α : Type u}{kY bs : List α}, (kY ++ bs).length = kY.length + bs.length:=@List.length_append
theorem ai:∀(B : Nat)(w : Go.World), Go.RowKit.Below B w w:=@Go.RowKit.Below.refl
theorem bn.{kM}:∀ {α : Type kM}{l : List α}{i : Nat}(h : i < l.length), l[i]? = Option.some l[i]:=@List.getElem?_eq_getElem
theorem dm.{kM}:∀ {α : Type kM}{i : Nat}{a : α}{l : List α}, l[i]? = Option.some a ↔ ∃(h : i < l.length), l[i] = a:=@List.getElem?_eq_some_iff
theorem aK.{u}:∀ {α : Type u}{a : α}{kY : List α}, (a :: kY).length = kY.length + 1:=@List.length_cons
theorem dZ.{kM}:∀ {α : Type kM}{i : Nat}{b : α}{xs : Array α}, xs[i]? = Option.some b ↔ ∃(h : i < xs.size), xs[i] = b:=@Array.getElem?_eq_some_iff
theorem bA.{u}:∀ {α : Type u}(val C9 : α), (Option.some val = Option.some C9) = (val = C9):=@Option.some.injEq
theorem bO.{u}:∀ {α : Type u}(kY bs cs : List α), kY ++ bs ++ cs = kY ++ (bs ++ cs):=@List.append_assoc
theorem dz.{kM}:∀ {α : Type kM}{l : List α}{i : Nat}{a : α}, l[i]? = Option.some a → a ∈ l:=@List.mem_of_getElem?
theorem bD.{u, v}:∀ {α : Type u}{β : Type v}(fst : α)(snd : β)(M0 : α)(Q8 : β), ((fst, snd) = (M0, Q8)) = (fst = M0 ∧ snd = Q8):=@Prod.mk.injEq
theorem iC.{kM}:∀ {α : Type kM}{l : List α}{i : Nat}{a : α}, l.getD i a = l[i]?.getD a:=@List.getD_eq_getElem?_getD
theorem fq.{u}:∀ {α : Type u}{a : α}, [a].length = 1:=@List.length_singleton
theorem dE:∀(a b : Bool), ((a && b) = Bool.true) = (a = Bool.true ∧ b = Bool.true):=@Bool.and_eq_true
theorem dK:∀(n : Int), Go.IntKind.i64.wrap n = (n + 9223372036854775808) % 18446744073709551616 - 9223372036854775808:=@Go.IntKind.wrap_i64
theorem dO.{u}:∀ {α : Type u}{a : α}{kY bs : List α}, a :: kY ++ bs = a :: (kY ++ bs):=@List.cons_append
theorem fI:∀ {w w' : Go.World}{a : Go.Addr}, w'.heap[a.block]? = w.heap[a.block]? → w'.cell? a = w.cell? a:=@Go.World.cell?_of_block
theorem ja:∀ {a b : Int}, 0 ≤ a → a.tmod b = a % b:=@Int.tmod_eq_emod_of_nonneg
theorem eU:∀ {n m k : Nat}, n < m → m ≤ k → n < k:=@Nat.lt_of_lt_of_le
theorem dN.{kM, C8}:∀ {α : Type kM}{β : Type C8}{kY : List α}(f : α → β), (List.map f kY).length = kY.length:=@List.length_map
theorem bZ:∀ {n m k : Nat}, n ≤ m → m ≤ k → n ≤ k:=@Nat.le_trans
theorem dX.{u}:∀ {α : Type u}{val C9 : α}, Option.some val = Option.some C9 → val = C9:=@Option.some.inj
theorem dY.{u}:∀ {α : Type u}, ([] : List α).length = 0:=@List.length_nil
theorem cu:∀(n : Nat), 0 ≤ n:=@Nat.zero_le
theorem fu.{u}:∀ {α : Type u}(kY : List α), kY ++ [] = kY:=@List.append_nil
theorem gZ:∀(w : Go.World)(a : Go.Addr)(u : Go.Value)(k : Nat), k ≠ a.block → (w.setCell a u).heap[k]? = w.heap[k]?:=@Go.RowKit.Below.heap_setCell
theorem l5.{kM}:∀ {α : Type kM}{l : List α}, l.length = 0 → l = []:=@List.eq_nil_of_length_eq_zero
theorem jw:∀(w : Go.World)(o : Go.Obj), (w.alloc o).heap[w.heap.size]? = Option.some o ∧ ∀(r' : Nat), r' < w.heap.size → (w.alloc o).heap[r']? = w.heap[r']?:=@Go.MapKept.heap_alloc
theorem gD.{kM}:∀ {α : Type kM}{i : Nat}{l : List α}, (List.take i l).length = Min.min i l.length:=@List.length_take
theorem fQ.{u}:∀ {α : Type u}(kY : List α), [] ++ kY = kY:=@List.nil_append
theorem iD.{kM, C8}:∀ {α : Type kM}{β : Type C8}{f : α → β}{l : List α}{i : Nat}, (List.map f l)[i]? = Option.map f l[i]?:=@List.getElem?_map
theorem iE.{kM, C8}:∀ {α : Type kM}{β : Type C8}{f : α → β}{l₁ l₂ : List α}, List.map f (l₁ ++ l₂) = List.map f l₁ ++ List.map f l₂:=@List.map_append
theorem jV.{u, v}:∀ {α : Type u}{β : Type v}{x : α}{xs : List α}{f : α → List β}, List.flatMap f (x :: xs) = f x ++ List.flatMap f xs:=@List.flatMap_cons
theorem mK.{kM}:∀ {α : Type kM}{i : Nat}{l : List α}, l.length ≤ i → List.take i l = l:=@List.take_of_length_le
theorem kD:∀(w : Go.World)(o : Go.Obj), (w.alloc o).heap.size = w.heap.size + 1:=@Go.World.size_alloc
theorem lG:∀(w : Go.World)(a : Go.Addr)(v : Go.Value), (w.setCell a v).heap.size = w.heap.size:=@Go.World.size_setCell
theorem jb.{u, v}:∀ {α : Type u}{β : Type v}{f : α → β}{a : α}{l : List α}, List.map f (a :: l) = f a :: List.map f l:=@List.map_cons
theorem aa{p:Prop}(h:p):Go.RowKit.Hid p:=h
end Go.Proofs.YtdnooocmlhcpkaaGreatDoor
namespace Go.Proofs.YtdnooocmlhcpkaaGreatDoor
open Go.RowKit
theorem run_storeVar_row {P:Program}(w:World)(g:Nat)(ty t:TypeId)(cur cells:Array Value)(hg:w.heap[g]? = some (.cells cur t))(hs:cur.size=cells.size)
 (hi:(P.info? ty).map (·.size)=some cells.size)(h1:∀v∈cells.toList,v.oneCell'=true) :
 (storeVar ty ⟨g,0,none⟩ (.agg cells)).run P w = .ok () (w.setRow g cells):=by
 have:=run_storeCells_at P g 0 t cells.toList 0 cur w hg (by simp;omega) h1;cases hq:P.info? ty with
 | none=>simp[hq]at hi
 | some i =>
   have hs':cells.size=i.size:=by simp[hq]at hi;omega
   simp[storeVar,sizeOf,typeInfo,hq,Value.cells,hs',this];congr 1;have:List.drop i.size cur.toList=[]:=by rw[List.drop_eq_nil_iff];simp;omega
   rw[this];simp
theorem wp_store_row {P:Program}{op:Oper}{a:Act}{w:World}{K:Act→World→Prop}{Q:Exit→Act→World→Prop}(ty:TypeId)(x y:Operand)(ho:op.op = .store ty x y)
 (g:Nat)(t:TypeId)(cur cells:Array Value)(hx:a.eval x = .pointer (some ⟨g,0,none⟩))(hy:a.eval y = .agg cells)(hg:w.heap[g]? = some (.cells cur t))(hs:cur.size=cells.size)
 (hi:(P.info? ty).map (·.size)=some cells.size)(h1:∀v∈cells.toList,v.oneCell'=true)
 (h:K (a.put op.dst undef) (w.setRow g cells)):op.wp P a w K Q:=by
 unfold Oper.wp execOp;simp only[ho,hx,hy,Instr.storeAt,Instr.sureAddr,Sem.run_bind,Sem.run_pure,Result.andThen_ok,run_storeVar_row w g ty t cur cells hg hs hi h1];exact h
theorem wpList_store_row {P:Program}{ops:Array Oper}{rest:List Oper}{op:Oper}{a:Act}{w:World}{Q:Exit→Act→World→Prop}(hgd:op.guard=none)(ty:TypeId)(x y:Operand)(ho:op.op = .store ty x y)
 (g:Nat)(t:TypeId)(cur cells:Array Value)(hx:a.eval x = .pointer (some ⟨g,0,none⟩))(hy:a.eval y = .agg cells)(hg:w.heap[g]? = some (.cells cur t))(hs:cur.size=cells.size)
 (hi:(P.info? ty).map (·.size)=some cells.size)(h1:∀v∈cells.toList,v.oneCell'=true)
 (h:wpList P ops Q rest (a.put op.dst undef) (w.setRow g cells)):wpList P ops Q (op :: rest) a w :=
 wpList_plain hgd fun _ hK=>wp_store_row ty x y ho g t cur cells hx hy hg hs hi h1 (hK _ _ h)
def U(l:List Int):List Value:=l.map (Value.int .u32)
structure Elem (P:Program)(t e:TypeId)(size bytes:Nat):Prop where
 und:P.underlying t=some (.slice e)
 inf:∃z:Value,(P.info? e).map (fun i=>(i.zero,i.size,i.bytes))=some (some z,size,bytes)∧z.cells.size=size
 pos:0<size
structure Enc (α : Type)(size:Nat) where
 f : α → List Value
 len:∀a,(f a).length=size
 one:∀a,∀u∈f a,u.oneCell'=true
def Enc.all{α : Type}{size:Nat}(E:Enc α size)(xs:List α):List Value:=xs.flatMap E.f
theorem Enc.ku {α : Type}{size:Nat}(E:Enc α size)(xs:List α):(E.all xs).length=xs.length*size:=by
 unfold Enc.all
 induction xs with
 | nil=>simp
 | cons a l ih=>rw[jV,aj,ih,E.len,aK,Nat.add_mul];omega
theorem Enc.all_append {α : Type}{size:Nat}(E:Enc α size)(xs ys:List α):E.all (xs++ys)=E.all xs++E.all ys:=by
 unfold Enc.all;exact List.flatMap_append ..
theorem Enc.yY {α : Type}{size:Nat}(E:Enc α size)(xs:List α):∀u∈E.all xs,u.oneCell'=true:=by
 intro u hu;unfold Enc.all at hu;rw[List.mem_flatMap]at hu;obtain⟨a,_,h⟩:=hu;exact E.one a u h
theorem Enc.at {α : Type}{size:Nat}(E:Enc α size)(xs:List α)(i j:Nat)(a : α)(ha:xs[i]? = some a)(hj:j<size):(E.all xs)[i*size+j]? = (E.f a)[j]? := by
 unfold Enc.all
 induction xs generalizing i with
 | nil=>simp at ha
 | cons b l ih =>
   rw[jV];cases i with
   | zero =>
     simp at ha;subst ha;rw[Nat.zero_mul,Nat.zero_add,List.getElem?_append_left (by rw[E.len];exact hj)]
   | succ i =>
     have:(i+1)*size=i*size+size:=Nat.succ_mul i size;rw[List.getElem?_append_right (by rw[E.len];omega),E.len];have e:(i+1)*size+j - size=i*size+j:=by omega
     rw[e];exact ih i (by simpa using ha)
def Own{α : Type}{size:Nat}(E:Enc α size)(e:TypeId)(w:World)(base:Nat)(v:Value)(xs:List α):Prop:=w.ownsRow base e size v xs.length (E.all xs)
theorem Own.nil{α : Type}{size:Nat}(E:Enc α size)(e:TypeId)(w:World)(base:Nat):Own E e w base (.slice none 0 0) ([]:List α):=World.ownsRow_nil w base e size
theorem Own.alloc{α : Type}{size:Nat}{E:Enc α size}{e:TypeId}{w:World}{base:Nat}{v:Value}{xs:List α}(h:Own E e w base v xs)(o:Obj):Own E e (w.alloc o) base v xs:=World.ownsRow.alloc h o
theorem Own.drew{α : Type}{size:Nat}{E:Enc α size}{e:TypeId}{w:World}{base:Nat}{v:Value}{xs:List α}(h:Own E e w base v xs):Own E e w.drew base v xs:=h
theorem Own.drewN{α : Type}{size:Nat}{E:Enc α size}{e:TypeId}{w:World}{base:Nat}{v:Value}{xs:List α}(h:Own E e w base v xs)(n:Nat):Own E e (w.drewN n) base v xs:=h
theorem Own.mono {α : Type}{size:Nat}{E:Enc α size}{e:TypeId}{w:World}{base base':Nat}{v:Value}{xs:List α}(h:Own E e w base v xs)(hb:base'≤base):Own E e w base' v xs:=by
 refine⟨h.1, ?_⟩;rcases h.2 with h|⟨g,cap,cur,h1,h2,h3⟩
 · exact .inl h
 · exact .inr ⟨g,cap,cur,h1,by omega,h3⟩
theorem Own.below {α : Type}{size:Nat}{E:Enc α size}{e:TypeId}{w w':World}{base B:Nat}{v:Value}{xs:List α}(h:Own E e w base v xs)(hb:Below B w w')(hB:w.heap.size≤B):Own E e w' base v xs:=by
 refine⟨h.1, ?_⟩;rcases h.2 with h|⟨g,cap,cur,h1,h2,h3,h4⟩
 · exact .inl h
 · refine .inr ⟨g,cap,cur,h1,h2, ?_,h4⟩
   rw[hb.block g (by have:=(dZ.1 h3).1;omega)];exact h3
theorem Own.shape {α : Type}{size:Nat}{E:Enc α size}{e:TypeId}{w:World}{base:Nat}{v:Value}{xs:List α}(h:Own E e w base v xs) :
 (v = .slice none 0 0∧xs=[])∨∃g cap,v = .slice (some ⟨g,0,none⟩) xs.length cap∧base≤g∧g<w.heap.size∧xs.length≤cap∧cap≤maxLen:=by
 rcases h.2 with ⟨h1,h2⟩|⟨g,cap,cur,h1,h2,h3,h4,h5,_⟩
 · exact .inl ⟨h1,List.length_eq_zero_iff.1 h2⟩
 · exact .inr ⟨g,cap,h1,h2,(dZ.1 h3).1,h4,h5⟩
theorem Own.cells {α : Type}{size:Nat}{E:Enc α size}{e:TypeId}{w:World}{base g cap n:Nat}{xs:List α}(h:Own E e w base (.slice (some ⟨g,0,none⟩) n cap) xs)(j:Nat)(u:Value)(hj:(E.all xs)[j]? = some u) :
 w.cell? ⟨g,j,none⟩=some u:=by
 have:=World.ownsRow.cells h (g:=g) rfl j u hj;rw[Addr.add_mid,Nat.zero_add]at this;exact this
theorem mH {P:Program}{α : Type}{size t e bytes:Nat}{w:World}{ops:Array Oper}{rest:List Oper}{o:Oper}{a:Act}{Q:Exit→Act→World→Prop}(dA:Elem P t e size bytes)(E:Enc α size)
 (hgd:o.guard=none)(s x:Operand)(ho:o.op = .call { callee := .builtin .append,args:=#[s,x],argTypes:=#[t,t] })(base:Nat)(v:Value)(xs:List α)
 (hs:a.eval s=v)(hown:Own E e w base v xs)(ad:Addr)(m c:Nat)(ys:List α)(hx:a.eval x = .slice (some ad) m c)(hl:ys.length=m)
 (hc:∀(j:Nat)(u:Value),(E.all ys)[j]? = some u→w.cell? (ad.add j)=some u)(hb:(xs.length+m)*bytes≤140737488355328)(hb2:xs.length+m≤maxLen)(hbase:base≤w.heap.size)
 (h:∀(v':Value)(w':World),Own E e w' base v' (xs++ys)→Below base w w'→wpList P ops Q rest (a.put o.dst v') w'):wpList P ops Q (o :: rest) a w:=by
 obtain⟨z,hi,hz⟩:=dA.inf;obtain⟨i,hi1,hi2,hi3,hi4⟩:=info_parts hi;refine wpList_append_own w hgd s x t ho base e i z size bytes dA.und hi1 hi2 hi3 hi4 hz dA.pos v xs.length (E.all xs) hs hown ad m c (E.all ys) hx (by rw[E.ku,hl]) hc (E.yY ys) hb2 hb hbase ?_;intro v' w' h1 h2 _;refine h v' w' ?_ ?_
 · unfold Own;rw[E.all_append,aj,hl];exact h1
 · refine Below.grown (ai _ _) h2 hbase ?_
   intro k hk;exact(World.ownsRow.lt hown k hk).1
theorem fZ {w:World}(C:Array Value)(t:TypeId)(l:List Value)(hC:C.toList=l)(j:Nat)(u:Value)(hj:l[j]? = some u):(w.alloc (.cells C t)).cell? ((⟨w.heap.size,0,none⟩:Addr).add j)=some u:=by
 rw[Addr.add_mid,Nat.zero_add,World.cell?_alloc_at _ _ _ _ rfl];subst hC
 simpa using hj
def bT(k:IntKind):Enc Int 1:={ f:=fun n=>[.int k n],len:=fun _=>rfl,one:=fun _ u hu=>by simp at hu;subst hu;rfl }
theorem BJ (k:IntKind)(l:List Int):(bT k).all l=l.map (Value.int k):=by
 unfold Enc.all bT
 induction l with
 | nil=>rfl
 | cons a l ih=>rw[jV,jb,ih];rfl
theorem Wu (k:IntKind)(xs:List Int)(i:Nat)(h:i<xs.length):(xs.map (Value.int k))[i]? = some (.int k (xs.getD i 0)):=by
 simp[List.getElem?_eq_getElem h,List.getD_eq_getElem?_getD]
theorem Own.Ow {k:IntKind}{e:TypeId}{w:World}{base g cap n:Nat}{xs:List Int}(h:Own (bT k) e w base (.slice (some ⟨g,0,none⟩) n cap) xs)(i:Nat)(hi:i<xs.length) :
 w.cell? ⟨g,i,none⟩=some (.int k (xs.getD i 0)):=by
 apply Own.cells h;rw[BJ];exact Wu k xs i hi
theorem Own.some {α : Type}{size:Nat}{E:Enc α size}{e:TypeId}{w:World}{base:Nat}{v:Value}{xs:List α}(h:Own E e w base v xs)(hne:0<xs.length) :
 ∃g cap,v = .slice (some ⟨g,0,none⟩) xs.length cap∧base≤g∧g<w.heap.size∧xs.length≤cap∧cap≤maxLen:=by
 rcases h.shape with ⟨_,rfl⟩|h
 · exact absurd hne (by simp)
 · exact h
theorem MC {w w':World}{row:Option Nat}(h:w.grownBy w' row){a:Addr}(hlt:a.block<w.heap.size)(hne:some a.block≠row):w'.cell? a=w.cell? a:=by
 simp only[World.cell?,h.block a.block hlt hne]
theorem grownBy.refl'(w:World)(r:Option Nat):w.grownBy w r:=⟨rfl,rfl,rfl,ag _,fun _ _ _=>rfl⟩
theorem grownBy.trans' {a b c:World}{r:Option Nat}(h:a.grownBy b r)(k:b.grownBy c r):a.grownBy c r :=
 ⟨k.os.trans h.os,k.tape.trans h.tape,k.output.trans h.output,bZ h.size k.size,fun j hj hr=>(k.block j (eU hj h.size) hr).trans (h.block j hj hr)⟩
theorem grownBy.setCell' {a w:World}{b:Nat}(h:a.grownBy w (some b))(o:Nat)(v:Value):a.grownBy (w.setCell ⟨b,o,none⟩ v) (some b) :=
 ⟨h.os,h.tape,h.output,by simpa using h.size,fun j hj hr=>by
  rw[gZ _ _ _ _ (by intro e;exact hr (by rw[e]))];exact h.block j hj hr⟩
theorem grownBy.drewN'{a w:World}{r:Option Nat}(h:a.grownBy w r)(n:Nat):a.grownBy (w.drewN n) r:=⟨h.os,h.tape,h.output,h.size,h.block⟩
theorem grownBy.below' {a w w':World}{r:Option Nat}(h:a.grownBy w r)(k:Below w.heap.size w w'):a.grownBy w' r :=
 ⟨k.os.trans h.os,k.tape.trans h.tape,k.output.trans h.output,bZ h.size k.size,fun j hj hr=>(k.block j (eU hj h.size)).trans (h.block j hj hr)⟩
theorem grownBy.setRow' {a w:World}{b:Nat}(h:a.grownBy w (some b))(cs:Array Value):a.grownBy (w.setRow b cs) (some b) :=
 ⟨h.os,h.tape,h.output,by simpa using h.size,fun j hj hr=>by
  rw[Go.setRow_other w b j cs (by intro e;exact hr (by rw[e]))];exact h.block j hj hr⟩
theorem Own.keep {α : Type}{size:Nat}{E:Enc α size}{e:TypeId}{w w':World}{base:Nat}{v:Value}{xs:List α}(h:Own E e w base v xs)
 (hk:∀g,base≤g→g<w.heap.size→v.ownBlock=Option.some g→w'.heap[g]? = w.heap[g]?):Own E e w' base v xs:=by
 refine⟨h.1, ?_⟩;rcases h.2 with h|⟨g,cap,cur,h1,h2,h3,h4⟩
 · exact .inl h
 · refine .inr ⟨g,cap,cur,h1,h2, ?_,h4⟩
   rw[hk g h2 (dZ.1 h3).1 (by rw[h1];rfl)];exact h3
theorem Own.lies {α : Type}{size:Nat}{E:Enc α size}{e:TypeId}{w:World}{base:Nat}{v:Value}{xs:List α}(h:Own E e w base v xs){g:Nat}(hg:v.ownBlock=Option.some g):base≤g∧∃cur,w.heap[g]? = Option.some (.cells cur e (0,0)):=by
 rcases h.2 with ⟨h1,_⟩|⟨b,cap,cur,h1,h2,h3,_⟩
 · rw[h1]at hg;cases hg
 · rw[h1]at hg;injection hg with hg
   have hg:b=g:=hg;subst hg;exact⟨h2,cur,h3⟩
theorem Own.less {α : Type}{size:Nat}{E:Enc α size}{e:TypeId}{w:World}{base:Nat}{v:Value}{xs:List α}(h:Own E e w base v xs){g:Nat}(hg:v.ownBlock=Option.some g):g<w.heap.size:=by
 obtain⟨_,cur,h3⟩:=h.lies hg;exact(dZ.1 h3).1
theorem Own.away {α β : Type}{s1 s2:Nat}{E:Enc α s1}{F:Enc β s2}{e f:TypeId}{w:World}{b1 b2:Nat}{u v:Value}{xs:List α}{ys:List β}(h:Own E e w b1 u xs)(k:Own F f w b2 v ys)(hne:e≠f){g:Nat}(hg:u.ownBlock=Option.some g):Option.some g≠v.ownBlock:=by
 intro hv;obtain⟨_,c1,h1⟩:=h.lies hg;obtain⟨_,c2,h2⟩:=k.lies hv.symm;rw[h1]at h2;injection h2 with h2;injection h2 with h2 h3;exact hne h3
def iI {α : Type}{k:Nat}(E:Enc α k)(w:World)(B:Nat)(v:Value)(xs:List α):Prop :=
 ∃A cap,v = .slice A xs.length cap∧xs.length≤cap∧cap≤maxLen∧(xs=[]∨∃pb po,A=some ⟨pb,po,none⟩∧pb<B∧∀(j:Nat)(u:Value),(E.all xs)[j]? = some u→w.cell? ⟨pb,po+j,none⟩=some u)
theorem iI.below {α : Type}{k:Nat}{E:Enc α k}{w w':World}{B C:Nat}{v:Value}{xs:List α}(h:iI E w B v xs)(hb:Below C w w')(hC:B≤C):iI E w' B v xs:=by
 obtain⟨A,cap,h1,h2,h3,h4⟩:=h;refine⟨A,cap,h1,h2,h3,h4.imp id ?_⟩;rintro⟨pb,po,e1,e2,e3⟩;exact⟨pb,po,e1,e2,fun j x hj=>(hb.cell (p:=⟨pb,po+j,none⟩) (by show pb<C;omega)).trans (e3 j x hj)⟩
theorem iI.mono {α : Type}{k:Nat}{E:Enc α k}{w:World}{B C:Nat}{v:Value}{xs:List α}(h:iI E w B v xs)(hC:B≤C):iI E w C v xs:=by
 obtain⟨A,cap,h1,h2,h3,h4⟩:=h;refine⟨A,cap,h1,h2,h3,h4.imp id ?_⟩;rintro⟨pb,po,e1,e2,e3⟩;exact⟨pb,po,e1,by omega,e3⟩
theorem iI.lift{α : Type}{k:Nat}{E:Enc α k}{w w':World}{v:Value}{xs:List α}(h:iI E w w.heap.size v xs)(hb:Below w.heap.size w w'):iI E w' w'.heap.size v xs:=(h.below hb (ag _)).mono hb.size
theorem Own.se {α : Type}{k:Nat}{E:Enc α k}{e:TypeId}{w:World}{base:Nat}{v:Value}{xs:List α}(h:Own E e w base v xs):iI E w w.heap.size v xs:=by
 rcases h.shape with ⟨rfl,rfl⟩|⟨g,cap,rfl,hg,hl,hc,hm⟩
 · exact⟨none,0,rfl,ag _,by unfold maxLen;omega,.inl rfl⟩
 · exact⟨_,_,rfl,hc,hm,.inr ⟨g,0,rfl,hl,fun j u hj=>by rw[Nat.zero_add];exact h.cells j u hj⟩⟩
theorem iI.nil{α : Type}{k:Nat}(E:Enc α k)(w:World)(B:Nat):iI E w B (.slice none 0 0) ([]:List α):=⟨none,0,rfl,ag _,by unfold maxLen;omega,.inl rfl⟩
theorem iI.at {α : Type}{k:Nat}{E:Enc α k}{w:World}{B:Nat}{A:Option Addr}{n cap:Nat}{xs:List α}(h:iI E w B (.slice A n cap) xs){i:Nat}{x : α}(hi:xs[i]? = some x) :
 ∃pb po,A=some ⟨pb,po,none⟩∧pb<B∧∀(j:Nat)(u:Value),(E.f x)[j]? = some u→w.cell? ⟨pb,po+(i*k+j),none⟩=some u:=by
 obtain⟨A',cap',h1, -, -,h2⟩:=h;injection h1 with e1 e2 e3;subst e1;rcases h2 with rfl|⟨pb,po,h1,h2,h3⟩
 · simp at hi
 · refine⟨pb,po,h1,h2,fun j u hj=>h3 _ u ?_⟩
   have hjk:j<k:=by rw[← E.len x];exact(dm.1 hj).1
   rw[E.at xs i j x hi hjk];exact hj
theorem iI.len {α : Type}{k:Nat}{E:Enc α k}{w:World}{B:Nat}{A:Option Addr}{n cap:Nat}{xs:List α}(h:iI E w B (.slice A n cap) xs):xs.length=n∧n≤cap∧cap≤maxLen:=by
 obtain⟨A',cap',h1,h2,h3, -⟩:=h;injection h1 with e1 e2 e3;subst e3;exact⟨e2.symm,by omega,h3⟩
def iG{α : Type}{k:Nat}(E:Enc α k)(e:TypeId)(w:World)(g:Nat)(xs:List α):Prop:=∃cur:Array Value,w.heap[g]? = some (.cells cur e)∧∀(j:Nat)(u:Value),(E.all xs)[j]? = some u→cur[j]? = some u
theorem iG.keep {α : Type}{k:Nat}{E:Enc α k}{e:TypeId}{w w':World}{g:Nat}{xs:List α}(h:iG E e w g xs)(hk:w'.heap[g]? = w.heap[g]?):iG E e w' g xs:=by
 obtain⟨cur,h1,h2⟩:=h;exact⟨cur,by rw[hk];exact h1,h2⟩
theorem iG.cell {α : Type}{k:Nat}{E:Enc α k}{e:TypeId}{w:World}{g:Nat}{xs:List α}(h:iG E e w g xs)(j:Nat)(u:Value)(hj:(E.all xs)[j]? = some u):w.cell? ⟨g,j,none⟩=some u:=by
 obtain⟨cur,h1,h2⟩:=h;rw[cell_of_row w g j cur e _ h1];exact h2 j u hj
theorem iG.jh {α : Type}{k:Nat}{E:Enc α k}{e:TypeId}{w:World}{g:Nat}{xs:List α}(h:iG E e w g xs)(j:Nat):w.frozen? ⟨g,j,none⟩=false:=by
 obtain⟨cur,h1,h2⟩:=h;exact frozen_of_row w g j cur e h1
theorem iG.lt {α : Type}{k:Nat}{E:Enc α k}{e:TypeId}{w:World}{g:Nat}{xs:List α}(h:iG E e w g xs):g<w.heap.size:=by
 obtain⟨cur,h1,h2⟩:=h;exact(dZ.1 h1).1
theorem Own.Fa {α : Type}{k:Nat}{E:Enc α k}{e:TypeId}{w:World}{base g n cap:Nat}{xs:List α}(h:Own E e w base (.slice (Option.some ⟨g,0,none⟩) n cap) xs):iG E e w g xs:=by
 obtain⟨_,cur,h1⟩:=h.lies (g:=g) rfl;refine⟨cur,h1,fun j u hj => ?_⟩;have:=h.cells j u hj;rwa[cell_of_row w g j cur e _ h1]at this
theorem iG.se {α : Type}{k:Nat}{E:Enc α k}{e:TypeId}{w:World}{g cap B:Nat}{xs:List α}(h:iG E e w g xs)(hB:g<B)(h1:xs.length≤cap)(h2:cap≤maxLen):iI E w B (.slice (some ⟨g,0,none⟩) xs.length cap) xs :=
 ⟨_,_,rfl,h1,h2,.inr ⟨g,0,rfl,hB,fun j u hj=>by rw[Nat.zero_add];exact h.cell j u hj⟩⟩
theorem G8 {α : Type}(E:Enc α 1)(xs:List α)(i:Nat)(x : α)(u:Value)(hu:E.f x=[u]):E.all (xs.set i x)=(E.all xs).set i u:=by
 unfold Enc.all
 induction xs generalizing i with
 | nil=>rfl
 | cons a t ih =>
   obtain⟨v,hv⟩:=List.length_eq_one_iff.1 (E.len a);cases i with
   | zero=>rw[List.set_cons_zero,jV,jV,hu,hv];rfl
   | succ i=>rw[List.set_cons_succ,jV,jV,ih,hv];rfl
theorem Ul {α : Type}(E:Enc α 3)(xs:List α)(i:Nat)(x : α)(a b c:Value)(hu:E.f x=[a,b,c]):E.all (xs.set i x)=(((E.all xs).set (i*3) a).set (i*3+1) b).set (i*3+2) c:=by
 unfold Enc.all
 induction xs generalizing i with
 | nil=>rfl
 | cons y t ih =>
   obtain ⟨p,q,r,hv⟩:∃p q r,E.f y=[p,q,r]:=by
    have:=E.len y
    match h:E.f y,this with
    | [p,q,r],_=>exact⟨p,q,r,rfl⟩
   cases i with
   | zero=>rw[List.set_cons_zero,jV,jV,hu,hv];rfl
   | succ i =>
     rw[List.set_cons_succ,jV,jV,ih,hv];have e0:(i+1)*3=i*3+1+1+1:=by omega
     rw[e0];have e1:i*3+1+1+1+1=(i*3+1)+1+1+1:=rfl;have e2:i*3+1+1+1+2=(i*3+2)+1+1+1:=rfl;rw[e1,e2];rfl
theorem Fg {l:List Value}{cur:Array Value}{i:Nat}{u:Value}(h:∀(j:Nat)(v:Value),l[j]? = some v→cur[j]? = some v):∀(j:Nat)(v:Value),(l.set i u)[j]? = some v→(cur.setIfInBounds i u)[j]? = some v:=by
 intro j v hv;rw[List.getElem?_set]at hv;rw[Array.getElem?_setIfInBounds];by_cases hij:i=j
 · rw [if_pos hij]at hv ⊢
   split at hv
   · rename_i hl
     have hc:=h j _ (bn (hij ▸ hl));have:=(dZ.1 hc).1;rw[if_pos (by omega)];exact hv
   · cases hv
 · rw[if_neg hij]at hv ⊢
   exact h j v hv
theorem iG.set1 {α : Type}{E:Enc α 1}{e:TypeId}{w:World}{g:Nat}{xs:List α}(h:iG E e w g xs)(i:Nat)(x : α)(u:Value)(hu:E.f x=[u]):iG E e (w.setCell ⟨g,i,none⟩ u) g (xs.set i x):=by
 obtain⟨cur,h1,h2⟩:=h;exact⟨_,heap_setCell_same w g i cur e u h1,by rw[G8 E xs i x u hu];exact Fg h2⟩
theorem iG.JS {α : Type}{E:Enc α 3}{e:TypeId}{w:World}{g:Nat}{xs:List α}(h:iG E e w g xs)(i:Nat)(x : α)(a b c:Value)(hu:E.f x=[a,b,c]):iG E e (((w.setCell ⟨g,i*3,none⟩ a).setCell ⟨g,i*3+1,none⟩ b).setCell ⟨g,i*3+2,none⟩ c) g (xs.set i x):=by
 obtain⟨cur,h1,h2⟩:=h;have k1:=heap_setCell_same w g (i*3) cur e a h1;have k2:=heap_setCell_same _ g (i*3+1) _ e b k1;exact⟨_,heap_setCell_same _ g (i*3+2) _ e c k2,by rw[Ul E xs i x a b c hu];exact Fg (Fg (Fg h2))⟩
theorem Pf {α : Type}{k:Nat}(E:Enc α k)(e:TypeId)(w:World)(n:Nat)(z : α)(zs:Array Value)(hz:E.f z=zs.toList)(hk:0<k):iG E e (w.alloc (.cells (madeCells zs (n*k)) e)) w.heap.size (List.replicate n z):=by
 refine⟨_,(jw w _).1,fun j u hj => ?_⟩;have hlen:zs.size=k:=by rw[← E.len z,hz];simp
 have hjl:j<n*k:=by
  have:=(dm.1 hj).1;rwa[E.ku,List.length_replicate]at this
 obtain⟨i,m,hm,rfl⟩:∃i m,m<k∧j=i*k+m:=⟨j / k,j % k,Nat.mod_lt _ hk,by rw[Nat.mul_comm];exact(Nat.div_add_mod j k).symm⟩
 have hin:i<n:=by
  rcases Nat.lt_or_ge i n with h|h
  · exact h
  · have:=Nat.mul_le_mul_right k h;omega
 rw[E.at _ i m z (by rw[List.getElem?_replicate,if_pos hin]) hm,hz]at hj;unfold madeCells;rw[Array.getElem?_map,Array.getElem?_range,if_pos hjl];have hmod:(i*k+m) % zs.size=m:=by rw[hlen,Nat.add_comm,Nat.add_mul_mod_self_right,Nat.mod_eq_of_lt hm]
 rw[Option.map_some,hmod];have hms:m<zs.size:=by omega
 rw[Array.getElem?_toList,Array.getElem?_eq_getElem hms]at hj;rw[getElem!_pos zs m hms];exact hj
def df {α : Type}(P : α → Nat→Nat→Prop):List α → Nat→Nat→Prop
 | [],lo,hi=>lo≤hi
 | x :: xs,lo,hi=>∃mid,lo≤mid∧P x lo mid∧df P xs mid hi
theorem df.le {α : Type}{P : α → Nat→Nat→Prop}:∀ {xs:List α}{lo hi:Nat},df P xs lo hi→lo≤hi
 | [],_,_,h=>h
 | _ :: xs,_,_,⟨_,h1,_,h3⟩=>bZ h1 (df.le (xs:=xs) h3)
theorem df.snoc {α : Type}{P : α → Nat→Nat→Prop}:∀ {xs:List α}{lo mid hi:Nat}{x : α},df P xs lo mid→mid≤hi→P x mid hi→(∀y a b c,b≤c→a≤b→P y b c→P y a c)→df P (xs++[x]) lo hi
 | [],_,_,_,_,h,h1,h2,hm=>⟨_,bZ h h1,hm _ _ _ _ h1 h h2,ag _⟩
 | _ :: _,_,_,_,_,⟨m,h3,h4,h5⟩,h1,h2,hm=>⟨m,h3,h4,df.snoc h5 h1 h2 hm⟩
theorem df.imp {α : Type}{P Q : α → Nat→Nat→Prop}:∀ {xs:List α}{lo hi:Nat},df P xs lo hi→(∀x a b,x∈xs→lo≤a→b≤hi→P x a b→Q x a b)→df Q xs lo hi
 | [],_,_,h,_=>h
 | x :: xs,lo,hi,⟨m,h1,h2,h3⟩,hk=>⟨m,h1,hk x lo m (by simp) (ag _) (df.le h3) h2,df.imp h3 fun y a b hy ha hb=>hk y a b (by simp[hy]) (bZ h1 ha) hb⟩
theorem df.up {α : Type}{P : α → Nat→Nat→Prop}(hm:∀y a b c d,a≤b→c≤d→b≤c→P y b c→P y a d):∀ {xs:List α}{lo hi lo' hi':Nat},df P xs lo hi→lo'≤lo→hi≤hi'→df P xs lo' hi'
 | [],_,_,_,_,h,h1,h2=>bZ h1 (bZ h h2)
 | x :: _,lo,_,lo',_,⟨m,h3,h4,h5⟩,h1,h2=>⟨m,bZ h1 h3,hm x lo' lo m m h1 (ag _) h3 h4,df.up hm h5 (ag _) h2⟩
theorem df.at {α : Type}{P : α → Nat→Nat→Prop}:∀ {xs:List α}{lo hi:Nat}(_:df P xs lo hi)(i:Nat)(x : α)(_:xs[i]? = some x),∃a b,lo≤a∧a≤b∧b≤hi∧P x a b∧∀(Q : α → Nat→Nat→Prop)(x' : α),(∀y u v,y∈xs→lo≤u→v≤hi→(v≤a∨b≤u)→P y u v→Q y u v)→Q x' a b→df Q (xs.set i x') lo hi
 | x :: xs,lo,hi,⟨m,h1,h2,h3⟩,0,y,hy=>by
   obtain rfl:x=y:=by simpa using hy
   refine⟨lo,m,ag _,h1,df.le h3,h2,fun Q x' hk hq => ?_⟩;exact⟨m,h1,hq,df.imp h3 fun z a b hz ha hb hp=>hk z a b (by simp[hz]) (bZ h1 ha) hb (.inr ha) hp⟩
 | x :: xs,lo,hi,⟨m,h1,h2,h3⟩,i+1,y,hy=>by
   obtain⟨a,b,k1,k2,k3,k4,k5⟩:=df.at h3 i y (by simpa using hy);refine⟨a,b,bZ h1 k1,k2,k3,k4,fun Q x' hk hq => ?_⟩;exact⟨m,h1,hk x lo m (by simp) (ag _) (bZ k1 (bZ k2 k3)) (.inl k1) h2,k5 Q x' (fun z u v hz hu hv hd hp=>hk z u v (by simp[hz]) (bZ h1 hu) hv hd hp) hq⟩
theorem za{k:IntKind}{a b:Int}(h:a=b):Ending.returned (.int k a) = .returned (.int k b):=by rw[h]
def sb(s:ByteArray):List Int:=s.data.toList.map (fun b=>(b.toNat:Int))
theorem bC(s:ByteArray):(sb s).length=s.size:=by unfold sb;simp
theorem oM (s:ByteArray)(k:Nat)(h:k<s.size):(sb s)[k]? = some ((s[k].toNat:Nat):Int):=by
 unfold sb;rw[iD,bn (by simpa using h)];rfl
theorem uh (s:ByteArray):∀a∈sb s,0≤a∧a≤255:=by
 intro a ha;unfold sb at ha;rw[List.mem_map]at ha;obtain⟨b,_,rfl⟩:=ha;have:=b.toNat_lt;omega
theorem oN (s:ByteArray)(k:Nat)(h:k<s.size):(sb s).getD k 0=((s[k].toNat:Nat):Int):=by
 rw[iC,oM s k h];rfl
def Bytes(l:List Int):Prop:=∀a∈l,0≤a∧a≤255
theorem Bytes.append {a b:List Int}(h:Bytes a)(k:Bytes b):Bytes (a++b):=by
 intro x hx;rw[List.mem_append]at hx;rcases hx with hx|hx
 · exact h x hx
 · exact k x hx
theorem Bytes.nil:Bytes []:=by intro a ha;simp at ha
theorem gK (l:List Int)(h:Bytes l):sb (strOfNums l)=l:=by
 unfold sb;rw[strOfNums_data,List.map_map]
 conv=>rhs;rw[← List.map_id l]
 apply List.map_congr_left;intro a ha;have:=h a ha;simp only[Function.comp,id];rw[UInt8.toNat_ofNat_of_lt' (by show a.toNat<256;omega)];omega
theorem jU (s:ByteArray):strOfNums (sb s)=s:=by
 have:(strOfNums (sb s)).data=s.data:=by
  apply Array.toList_inj.1;rw[strOfNums_data];unfold sb;rw[List.map_map]
  conv=>rhs;rw[← List.map_id s.data.toList]
  apply List.map_congr_left;intro a _;simp only[Function.comp,id,Int.toNat_natCast];exact UInt8.ofNat_toNat
 cases s with
 | mk d => 
   cases hq:strOfNums (sb ⟨d⟩)with
   | mk e=>rw[hq]at this;simp only at this;rw[this]
def aG(c:Int):Bool:=decide (65≤c∧c≤90)
def isLet(c:Int):Bool:=decide (65≤c∧c≤90∨97≤c∧c≤122)
def isNum(c:Int):Bool:=decide (48≤c∧c≤57)
theorem dD{a b:Bool}(h:a=b):Ending.returned (.bool a) = .returned (.bool b):=by rw[h]
theorem abU{a b:Int}{p q:Bool}(h:a=b)(h2:p=q):Ending.returned (.tuple #[.int .i64 a,.bool p]) = .returned (.tuple #[.int .i64 b,.bool q]):=by rw[h,h2]
theorem II{c:Int}(h:65≤c)(h2:c≤90):aG c=true:=by unfold aG;rw[decide_eq_true_iff];omega
theorem Oy{c:Int}(h:c<65∨90<c):aG c=false:=by unfold aG;rw[decide_eq_false_iff_not];omega
def mr(j:Nat)(c:Int):Bool:=isLet c||(decide (0<j)&&isNum c)
def fF(l:List Int):Bool:=decide (∀j,j<l.length→mr j (l.getD j 0)=true)&&decide (1≤l.length∧l.length≤12)
def aS(n:Int):List Int:=if n<0∨701<n then []else if n<26 then [65+n]else [64+n / 26,65+n % 26]
def iK(l:List Int):Bool:=decide (1≤l.length∧l.length≤2)&&(aG (l.getD 0 0)&&aG (l.getD (l.length - 1) 0))
def ky(l:List Int):Int:=if iK l=true then (if l.length=1 then l.getD 0 0 - 65 else 26*(l.getD 0 0 - 64)+(l.getD 1 0 - 65))else 0
theorem EE (s:ByteArray)(k:Nat)(hk:k<s.size)(h:mr k ((sb s).getD k 0)=false):fF (sb s)=false:=by
 unfold fF;rw[decide_eq_false (by intro hc;have:=hc k (by rw[bC];exact hk);rw[h]at this;cases this),Bool.false_and]
theorem PD (s:ByteArray)(h:∀j,j<s.size→mr j ((sb s).getD j 0)=true):fF (sb s)=decide (1≤s.size∧s.size≤12):=by
 unfold fF;rw[decide_eq_true (by rw[bC];exact h),Bool.true_and,bC]
theorem gq (a b:List Int):strOfNums a++strOfNums b=strOfNums (a++b):=by
 have h:(strOfNums a++strOfNums b).data=(strOfNums (a++b)).data:=by
  apply Array.toList_inj.1;rw[ByteArray.data_append,Array.toList_append,strOfNums_data,strOfNums_data,strOfNums_data,iE]
 cases hx:strOfNums a++strOfNums b with
 | mk d =>
   cases hy:strOfNums (a++b)with
   | mk e=>rw[hx,hy]at h;simp only at h;rw[h]
theorem acw (a b:ByteArray):sb (a++b)=sb a++sb b:=by
 unfold sb;rw[ByteArray.data_append,Array.toList_append,iE]
theorem iQ{a b:ByteArray}(h:a=b):Ending.returned (.string a) = .returned (.string b):=by rw[h]
theorem RG{a b:ByteArray}(h:a=b):Value.string a = .string b:=by rw[h]
def aF(u:Nat):List Int:=if u<10 then [48+(u:Int)]else aF (u / 10)++[48+((u % 10:Nat):Int)]
termination_by u
decreasing_by omega
theorem lg(u:Nat)(h:u<10):aF u=[48+(u:Int)]:=by rw[aF,if_pos h]
theorem qC(u:Nat)(h:¬ u<10):aF u=aF (u / 10)++[48+((u % 10:Nat):Int)]:=by rw[aF,if_neg h]
def kZ(n:Int):List Int:=if n<0 then 45 :: aF n.natAbs else aF n.natAbs
def dn(sh:List Int)(c r:Int):Bool:=(decide (sh=[])||fF sh)&&decide (0≤c∧c≤701∧0≤r∧r≤998)
def aO (sh:List Int)(c r:Int)(ac ar:Bool):List Int :=
 if dn sh c r=true then (((if sh=[]then []else sh++[33])++(if ac=true then [36]else []))++aS c++(if ar=true then [36]else []))++aF (r+1).toNat else []
theorem oI(a:ByteArray):a.toList=a.data.toList:=ByteArray.toList_eq a
theorem nX (a b:ByteArray)(h:¬ a=b):¬ a.toList=b.toList:=by
 rw[oI,oI,Array.toList_inj];intro hd;apply h;cases a;cases b;simp only at hd;rw[hd]
theorem p8 (a:ByteArray)(h:¬ a.size=0):¬ a.toList=[]:=by
 rw[oI];intro hd;apply h;show a.data.size=0;rw[← Array.length_toList,hd];rfl
theorem rJ (s:ByteArray)(h:s.size=0):s=⟨#[]⟩:=by
 cases s with
 | mk d => have:d=#[]:=Array.eq_empty_of_size_eq_zero h
           rw[this]
theorem OU(n:Int):(aS n).length≤2:=by unfold aS;split <;> (try split) <;> simp
theorem OV (u:Nat):(aF u).length≤u+1:=by
 induction u using Nat.strongRecOn with
 | _ u ih =>
   by_cases h:u<10
   · rw[lg u h];simp
   · rw[qC u h,aj]
     have:=ih (u / 10) (by omega);simp only[aK,dY];omega
theorem Po {sh:List Int}{c r:Int}(h:dn sh c r=true):0≤c∧c≤701∧0≤r∧r≤998:=by
 unfold dn at h;rw[dE,decide_eq_true_iff]at h;exact h.2
theorem iV{a b:ByteArray}{x y:List Int}(h:a=strOfNums x)(k:b=strOfNums y):a++b=strOfNums (x++y):=by rw[h,k,gq]
theorem Fs:(⟨#[]⟩:ByteArray)=strOfNums []:=rfl
theorem xA:(⟨#[36]⟩:ByteArray)=strOfNums [36]:=rfl
theorem Fq:(⟨#[33]⟩:ByteArray)=strOfNums [33]:=rfl
theorem vF {w w0 w1 w2 w3:World}(h0:Below w.heap.size w w0)(h1:Below w0.heap.size w0 w1)(h2:Below w1.heap.size w1 w2)(h3:Below w2.heap.size w2 w3):Below w.heap.size w w3:=by
 have b1:=h0.trans (h1.mono h0.size);have b2:=b1.trans (h2.mono b1.size);exact b2.trans (h3.mono b2.size)
theorem CP (p:Int→Bool):∀(a a' b b':List Int),(∀x∈a,p x=true)→(∀x∈a',p x=true)→(∀x,b.head? = some x→p x=false)→(∀x,b'.head? = some x→p x=false)→a++b=a'++b'→a=a'∧b=b'
 | [],[],_,_,_,_,_,_,h=>⟨rfl,h⟩
 | [],x :: a',b,b',_,h2,h3,_,h=>by
   rw[fQ]at h;have:=h3 x (by rw[h];rfl);rw[h2 x (by simp)]at this;cases this
 | x :: a,[],b,b',h1,_,_,h4,h=>by
   rw[fQ]at h;have:=h4 x (by rw[← h];rfl);rw[h1 x (by simp)]at this;cases this
 | x :: a,y :: a',b,b',h1,h2,h3,h4,h=>by
   rw[dO,dO]at h;injection h with e h;obtain⟨r1,r2⟩:=CP p a a' b b' (fun z hz=>h1 z (by simp[hz])) (fun z hz=>h2 z (by simp[hz])) h3 h4 h;exact⟨by rw[e,r1],r2⟩
theorem tL (c:Int):∀x∈aS c,aG x=true:=by
 intro x hx;unfold aS at hx;split at hx
 · simp at hx
 · split at hx
   · simp at hx;subst hx;exact II (by omega) (by omega)
   · simp at hx
     rcases hx with rfl|rfl
     · exact II (by omega) (by omega)
     · exact II (by omega) (by omega)
theorem JC (c:Int)(h0:0≤c)(h1:c≤701):iK (aS c)=true∧ky (aS c)=c:=by
 have hcap:=tL c;by_cases h:c<26
 · have e:aS c=[65+c]:=by unfold aS;rw[if_neg (by omega),if_pos h]
   have hc:iK (aS c)=true:=by rw[e]at hcap ⊢;unfold iK;have:=hcap (65+c) (by simp);simp[this]
   refine⟨hc, ?_⟩;unfold ky;rw[if_pos hc,e];simp;omega
 · have e:aS c=[64+c / 26,65+c % 26]:=by unfold aS;rw[if_neg (by omega),if_neg h]
   have hc:iK (aS c)=true:=by rw[e]at hcap ⊢;unfold iK;have g1:=hcap (64+c / 26) (by simp);have g2:=hcap (65+c % 26) (by simp);simp[g1,g2]
   refine⟨hc, ?_⟩;unfold ky;rw[if_pos hc,e];simp;omega
theorem qB{x:Int}(h:aG x=true):65≤x∧x≤90:=by unfold aG at h;rw[decide_eq_true_iff]at h;exact h
theorem iL{x:Int}(h:isNum x=true):48≤x∧x≤57:=by unfold isNum at h;rw[decide_eq_true_iff]at h;exact h
theorem Vq (l:List Int)(h:iK l=true):aS (ky l)=l∧0≤ky l∧ky l≤701:=by
 have hr:ky l=(if l.length=1 then l.getD 0 0 - 65 else 26*(l.getD 0 0 - 64)+(l.getD 1 0 - 65)):=by unfold ky;rw[if_pos h]
 unfold iK at h;rw[dE,dE,decide_eq_true_iff]at h;obtain⟨⟨h1,h2⟩,h3,h4⟩:=h
 match l,h1,h2,h3,h4,hr with
 | [a],_,_,h3,_,hr =>
   have:=qB h3;simp at this hr;rw[hr];refine⟨?_,by omega,by omega⟩;unfold aS;rw[if_neg (by omega),if_pos (by omega)];congr 1;omega
 | [a,b],_,_,h3,h4,hr =>
   have g1:=qB h3;have g2:=qB h4;simp at g1 g2 hr;rw[hr];refine⟨?_,by omega,by omega⟩;unfold aS;rw[if_neg (by omega),if_neg (by omega)];congr 1
   · omega
   · congr 1;omega
theorem rA (u:Nat):∀x∈aF u,isNum x=true:=by
 induction u using Nat.strongRecOn with
 | _ u ih =>
   intro x hx;by_cases h:u<10
   · rw[lg u h]at hx;simp at hx;subst hx;unfold isNum;rw[decide_eq_true_iff];omega
   · rw[qC u h,List.mem_append]at hx
     rcases hx with hx|hx
     · exact ih (u / 10) (by omega) x hx
     · simp at hx;subst hx;unfold isNum;rw[decide_eq_true_iff];omega
def bH(l:List Int):Int:=l.foldl (fun n d=>10*n+(d - 48)) 0
theorem xK(l:List Int)(d:Int):bH (l++[d])=10*bH l+(d - 48):=by unfold bH;rw[List.foldl_append];rfl
theorem AL (u:Nat):bH (aF u)=u:=by
 induction u using Nat.strongRecOn with
 | _ u ih =>
   by_cases h:u<10
   · rw[lg u h];unfold bH;simp;omega
   · rw[qC u h,xK,ih (u / 10) (by omega)];omega
theorem qD (u:Nat):aF u≠[]:=by
 by_cases h:u<10
 · rw[lg u h];simp
 · rw[qC u h];simp
theorem D8 (c:Int)(h0:0≤c)(h1:c≤701):aS c≠[]:=by
 unfold aS;rw[if_neg (by omega)];split <;> simp
def eD(b:Bool):List Int:=if b=true then [36]else []
theorem vG(b:Bool):∀x∈eD b,decide (x=36)=true:=by cases b <;> simp[eD]
theorem MP{a b:Bool}(h:eD a=eD b):a=b:=by cases a <;> cases b <;> simp[eD]at h ⊢
def oQ(c r:Int)(ac ar:Bool):List Int:=eD ac++(aS c++(eD ar++aF (r+1).toNat))
theorem head_append {a b:List Int}(h:a≠[]){x:Int}(hx:(a++b).head? = some x):x∈a:=by
 cases a with
 | nil=>exact absurd rfl h
 | cons y a=>simp at hx;subst hx;simp
theorem Rh {c r c' r':Int}{ac ar sH q9:Bool}(h0:0≤c)(h1:c≤701)(h2:0≤r)(k0:0≤c')(k1:c'≤701)(k2:0≤r')(h:oQ c r ac ar=oQ c' r' sH q9):c=c'∧r=r'∧ac=sH∧ar=q9:=by
 unfold oQ at h;have EG:∀x,aG x=true→decide (x=36)=false:=by intro x hx;have:=qB hx;rw[decide_eq_false_iff_not];omega
 have EH:∀x,isNum x=true→decide (x=36)=false:=by intro x hx;have:=iL hx;rw[decide_eq_false_iff_not];omega
 have noCap:∀(b:Bool)(u:Nat)(x:Int),(eD b++aF u).head? = some x→aG x=false:=by
  intro b u x hx;cases b with
  | true=>simp[eD]at hx;subst hx;decide
  | false =>
    have hx':(aF u++[]).head? = some x:=by simpa [eD]using hx
    have:=iL (rA u x (head_append (qD u) hx'));exact Oy (by omega)
 obtain ⟨e1,e2⟩:=CP (fun x=>decide (x=36)) _ _ _ _ (vG ac) (vG sH)
  (fun x hx=>EG x (tL c x (head_append (D8 c h0 h1) hx))) (fun x hx=>EG x (tL c' x (head_append (D8 c' k0 k1) hx))) h
 obtain⟨e3,e4⟩:=CP aG _ _ _ _ (tL c) (tL c') (noCap ar _) (noCap q9 _) e2
 obtain ⟨e5,e6⟩:=CP (fun x=>decide (x=36)) _ _ _ _ (vG ar) (vG q9)
  (fun x hx=>EH x (rA _ x (head_append (qD _) (by rw[fu];exact hx)))) (fun x hx=>EH x (rA _ x (head_append (qD _) (by rw[fu];exact hx)))) e4
 refine⟨?_, ?_,MP e1,MP e5⟩
 · rw[← (JC c h0 h1).2, ← (JC c' k0 k1).2,e3]
 · have:=AL (r+1).toNat
   rw[e6,AL]at this;omega
theorem J9 (c r:Int)(ac ar:Bool):∀x∈oQ c r ac ar,x≠33:=by
 intro x hx;unfold oQ at hx;simp only[List.mem_append]at hx;rcases hx with h|h|h|h
 · have:=vG _ x h;rw[decide_eq_true_iff]at this;omega
 · have:=qB (tL c x h);omega
 · have:=vG _ x h;rw[decide_eq_true_iff]at this;omega
 · have:=iL (rA _ x h);omega
theorem Jf (l:List Int)(h:fF l=true):∀x∈l,x≠33:=by
 intro x hx;unfold fF at h;rw[dE,decide_eq_true_iff]at h;obtain⟨j,hj,rfl⟩:=List.mem_iff_getElem.1 hx;have:=h.1 j hj;rw[iC,bn hj]at this;simp only[Option.getD_some]at this;unfold mr isLet isNum at this;simp only[Bool.or_eq_true,dE,decide_eq_true_iff]at this;omega
theorem Ah {sh:List Int}{c r:Int}(h:dn sh c r=true):sh=[]∨fF sh=true:=by
 unfold dn at h;rw[dE,Bool.or_eq_true,decide_eq_true_iff]at h;exact h.1
theorem EC {sh:List Int}{c r:Int}(h:dn sh c r=true):0≤c∧c≤701∧0≤r∧r≤998:=by
 unfold dn at h;rw[dE,decide_eq_true_iff]at h;exact h.2
theorem zl (sh:List Int)(c r:Int)(ac ar:Bool)(h:dn sh c r=true):aO sh c r ac ar=(if sh=[]then []else sh++[33])++oQ c r ac ar:=by
 unfold aO oQ eD;rw[if_pos h];simp only[bO]
theorem Rl {sh sh':List Int}{c r c' r':Int}{ac ar sH q9:Bool}(h:dn sh c r=true)(k:dn sh' c' r'=true)(e:aO sh c r ac ar=aO sh' c' r' sH q9) :
 sh=sh'∧c=c'∧r=r'∧ac=sH∧ar=q9:=by
 obtain⟨h0,h1,h2,_⟩:=EC h;obtain⟨k0,k1,k2,_⟩:=EC k;rw[zl _ _ _ _ _ h,zl _ _ _ _ _ k]at e;by_cases hs:sh=[]
 · by_cases ks:sh'=[]
   · rw[if_pos hs,if_pos ks]at e
     exact⟨by rw[hs,ks],Rh h0 h1 h2 k0 k1 k2 e⟩
   · rw[if_pos hs,if_neg ks,fQ]at e
     exact absurd rfl (J9 c r ac ar 33 (by rw[e];simp))
 · by_cases ks:sh'=[]
   · rw[if_neg hs,if_pos ks,fQ]at e
     exact absurd rfl (J9 c' r' sH q9 33 (by rw[← e];simp))
   · rw [if_neg hs,if_neg ks,bO,bO]at e
     have n1:=(Ah h).resolve_left hs;have n2:=(Ah k).resolve_left ks
     obtain ⟨e1,e2⟩:=CP (fun x=>decide (x≠33)) _ _ _ _ (fun x hx=>by rw[decide_eq_true_iff];exact Jf _ n1 x hx) (fun x hx=>by rw[decide_eq_true_iff];exact Jf _ n2 x hx)
      (fun x hx=>by simp at hx;subst hx;rfl) (fun x hx=>by simp at hx;subst hx;rfl) e
     exact⟨e1,Rh h0 h1 h2 k0 k1 k2 (by injection e2)⟩
def jq(k:Nat):List Int:=[48+(k:Int)]
def bY (n:Nat):List Int :=
 if n % 13≤2 then []
 else if n % 13≤4 then jq (n / 13 % 9)
 else if n % 13=5 then [39,97+((n / 13 % 5:Nat):Int)]
 else if n % 13=6 then [61,65]++jq (1+n / 13 % 5)
 else if n % 13=7 then [61,66]++jq (1+n / 13 % 4)++[43,49]
 else if n % 13=8 then [61,83,85,77,40,65,49,58,66]++jq (1+n / 13 % 5)++[41]
 else if n % 13=9 then [61,66,33]++[65+((n / 13 % 4:Nat):Int)]++[50,42,50]
 else if n % 13=10 then [61,73,70,40,36,65,36,49,62,50,44,67]++jq (1+n / 13 % 4)++[44,34,120,34,41]
 else if n % 13=11 then [61,67,33,65,49,38,34,121,34]
 else [61,49,47]++jq (n / 13 % 2)
structure jf where
 nm:ByteArray
 ay:Int
 rows:List (List ByteArray)
def xh(m i:Nat):Int:=65+((i+m / 64*i:Nat):Int)
def ng(m i:Nat):ByteArray:=strOfNums [xh m i]
def cellS (ns:List Int)(k:Nat):ByteArray:=match ns[k]? with
 | some x=>strOfNums (bY x.toNat)
 | none=>⟨#[]⟩
def jG(ns:List Int)(C k:Nat):List ByteArray:=(List.range C).map fun c=>cellS ns (k+c)
def nV(ns:List Int)(R C k:Nat):List (List ByteArray):=(List.range R).map fun r=>jG ns C (k+r*C)
def wu(ns:List Int)(m i R C:Nat):jf:=⟨ng m i,(C:Int),nV ns R C (i*(R*C))⟩
def kK(m:Nat):Nat:=1+m % 3
def gz(m:Nat):Nat:=1+m / 3 % 4
def iA(m:Nat):Nat:=1+m / 12 % 5
def oC(ns:List Int)(m:Nat):List jf:=(List.range (kK m)).map fun i=>wu ns m i (iA m) (gz m)
theorem vR(ns:List Int)(C k:Nat):(jG ns C k).length=C:=by unfold jG;rw[dN,List.length_range]
theorem Ew(ns:List Int)(R C k:Nat):(nV ns R C k).length=R:=by unfold nV;rw[dN,List.length_range]
theorem Ag(ns:List Int)(m:Nat):(oC ns m).length=kK m:=by unfold oC;rw[dN,List.length_range]
theorem Zr (c:Int)(h0:65≤c)(h1:c≤90):fF [c]=true:=by
 obtain⟨k,hk,rfl⟩:∃k:Nat,k<26∧c=65+(k:Int):=⟨(c - 65).toNat,by omega,by omega⟩;have key:∀k:Nat,k<26→fF [65+(k:Int)]=true:=by decide
 exact key k hk
theorem Co (m i:Nat)(hm:m<256)(hi:i<3):65≤xh m i∧xh m i≤73:=by
 unfold xh;have h4:m / 64≤3:=by omega
 have:m / 64*i≤3*2:=Nat.mul_le_mul h4 (by omega);omega
theorem I8 (m i j:Nat)(h:i<j):xh m i<xh m j:=by
 unfold xh;have:m / 64*i≤m / 64*j:=Nat.mul_le_mul_left _ (by omega);omega
theorem Je(m:Nat):1≤kK m∧kK m≤3:=by unfold kK;omega
theorem Pz(m:Nat):1≤gz m∧gz m≤4:=by unfold gz;omega
theorem Zn(m:Nat):1≤iA m∧iA m≤5:=by unfold iA;omega
def rG(ns:List Int)(C k c:Nat):List ByteArray:=(List.range C).map fun j=>if j<c then cellS ns (k+j)else ⟨#[]⟩
theorem ab8 (ns:List Int)(C k:Nat):rG ns C k 0=List.replicate C ⟨#[]⟩:=by
 unfold rG;refine List.ext_getElem (by simp) fun j h1 h2 => ?_
 simp
theorem ab7 (ns:List Int)(C k c:Nat)(x:Int)(hx:ns[k+c]? = some x):(rG ns C k c).set c (strOfNums (bY x.toNat))=rG ns C k (c+1):=by
 unfold rG;refine List.ext_getElem (by simp) fun j h1 h2 => ?_
 rw[List.getElem_set];by_cases hj:c=j
 · subst hj
   rw[if_pos rfl];simp[cellS,hx]
 · rw[if_neg hj]
   simp only[List.getElem_map,List.getElem_range];by_cases h3:j<c
   · rw[if_pos h3,if_pos (by omega)]
   · rw[if_neg h3,if_neg (by omega)]
theorem QE (ns:List Int)(C k c:Nat)(h:c=C∨ns.length≤k+c):rG ns C k c=jG ns C k:=by
 unfold rG jG;refine List.map_congr_left fun j hj => ?_
 rw[List.mem_range]at hj;by_cases h3:j<c
 · rw[if_pos h3]
 · rw[if_neg h3]
   unfold cellS;rw[List.getElem?_eq_none (by omega)]
theorem AP {P:Program}{α : Type}{size t e bytes:Nat}{w:World}{ops:Array Oper}{rest:List Oper}{o:Oper}{a:Act}{Q:Exit→Act→World→Prop}(dA:Elem P t e size bytes)(E:Enc α size)
 (hgd:o.guard=none)(s x:Operand)(ho:o.op = .call { callee := .builtin .append,args:=#[s,x],argTypes:=#[t,t] })(base:Nat)(v:Value)(xs:List α)
 (hs:a.eval s=v)(hown:Own E e w base v xs)(ad:Addr)(m c:Nat)(ys:List α)(hx:a.eval x = .slice (some ad) m c)(hl:ys.length=m)
 (hc:∀(j:Nat)(u:Value),(E.all ys)[j]? = some u→w.cell? (ad.add j)=some u)(hb:(xs.length+m)*bytes≤140737488355328)(hb2:xs.length+m≤maxLen)(hbase:base≤w.heap.size)
 (h:∀(v':Value)(w':World),Own E e w' base v' (xs++ys)→w.grownBy w' v.ownBlock→(v'.ownBlock=v.ownBlock∨v'.ownBlock=some w.heap.size)→wpList P ops Q rest (a.put o.dst v') w'):wpList P ops Q (o :: rest) a w:=by
 obtain⟨z,hi,hz⟩:=dA.inf;obtain⟨i,hi1,hi2,hi3,hi4⟩:=info_parts hi;refine wpList_append_own_at w hgd s x t ho base e i z size bytes dA.und hi1 hi2 hi3 hi4 hz dA.pos v xs.length (E.all xs) hs hown ad m c (E.all ys) hx (by rw[E.ku,hl]) hc (E.yY ys) hb2 hb hbase ?_;intro v' w' h1 h2 _ h4;refine h v' w' ?_ h2 h4;unfold Own;rw[E.all_append,aj,hl];exact h1
theorem CQ {P:Program}{α : Type}{size t e bytes:Nat}{w:World}{ops:Array Oper}{o:Oper}{a:Act}{K:Act→World→Prop}{Q:Exit→Act→World→Prop}{F:Prop}(dA:Elem P t e size bytes)(E:Enc α size)
 (hgd:o.guard=none)(s x:Operand)(ho:o.op = .call { callee := .builtin .append,args:=#[s,x],argTypes:=#[t,t] })(base:Nat)(v:Value)(xs:List α)
 (hs:a.eval s=v)(hown:Own E e w base v xs)(ad:Addr)(m c:Nat)(ys:List α)(hx:a.eval x = .slice (some ad) m c)(hl:ys.length=m)
 (hc:∀(j:Nat)(u:Value),(E.all ys)[j]? = some u→w.cell? (ad.add j)=some u)(hb:(xs.length+m)*bytes≤140737488355328)(hb2:xs.length+m≤maxLen)(hbase:base≤w.heap.size)
 (h:∀(v':Value)(w':World),Own E e w' base v' (xs++ys)→w.grownBy w' v.ownBlock→(v'.ownBlock=v.ownBlock∨v'.ownBlock=some w.heap.size)→K (a.put o.dst v') w') :
 if Region.wanted o (yielded ops a.tmps)=true then Oper.wp P o a w K Q else F:=by
 have hw:Region.wanted o (yielded ops a.tmps)=true:=by simp[Region.wanted,hgd]
 rw[if_pos hw];obtain⟨z,hi,hz⟩:=dA.inf;obtain⟨i,hi1,hi2,hi3,hi4⟩:=info_parts hi;obtain⟨v',w',hrun,r1,r2,_,r4⟩:=run_append_own_at (P:=P) w base t o.type e i z size bytes dA.und hi1 hi2 hi3 hi4 hz dA.pos v xs.length (E.all xs) hown ad m c (E.all ys) (by rw[E.ku,hl]) hc (E.yY ys) hb2 hb hbase;unfold Oper.wp;simp[execOp,ho,resolve,invoke,builtin,hs,hx,hrun,Result.andThen];refine h v' w' ?_ r2 r4;unfold Own;rw[E.all_append,aj,hl];exact r1
theorem Elem.u8:Elem Tryz.prog 22 5 1 1:=⟨Tryz.underlying22,⟨.int .u8 0,by kernel_rfl,rfl⟩,by decide⟩
abbrev oz(w:World)(base:Nat)(v:Value)(xs:List Int):Prop:=Own (bT .u8) 5 w base v xs
theorem Aw {w:World}{base:Nat}{v:Value}{xs:List Int}(h:oz w base v xs):(convert 22 9 v).run Tryz.prog w = .ok (.string (strOfNums xs)) w:=by
 rcases h.shape with ⟨rfl,rfl⟩|⟨g,cap,rfl,h1,h2,h3,h4⟩
 · rw[run_convert_bytes_nil w _ 5 Tryz.underlying22 Tryz.underlying5 _ _ _ Tryz.underlying9];rfl
 · refine run_convert_bytes_arg w _ 5 Tryz.underlying22 Tryz.underlying5 g 0 _ cap xs rfl (fun i hi => ?_) _ Tryz.underlying9
   rw[Nat.zero_add];exact h.Ow i hi
theorem aci {P:Program}{α : Type}{size t tx ty e bytes:Nat}{w:World}(dA:Elem P t e size bytes)(E:Enc α size)(base:Nat)(v:Value)(xs:List α)(hown:Own E e w base v xs)
 (x:Value)(m:Nat)(ys:List α)(hl:ys.length=m)(hs:Src P size tx x m (E.all ys) w)(hb:(xs.length+m)*bytes≤140737488355328)(hb2:xs.length+m≤maxLen)(hbase:base≤w.heap.size) :
 ∃v' w',(Builtin.append_ #[t,tx] ty #[v,x]).run P w = .ok v' w'∧Own E e w' base v' (xs++ys)∧Below base w w':=by
 obtain⟨z,hi,hz⟩:=dA.inf;obtain⟨i,hi1,hi2,hi3,hi4⟩:=info_parts hi;have ht:=dA.und;subst hi3;subst hi4;have hlx:=E.ku xs;have uP:=E.ku ys;rw[hl]at uP;have hlen:(E.all (xs++ys)).length=(xs.length+m)*i.size:=by rw[E.ku,aj,hl]
 have hsmall:xs.length+m≤9223372036854775807:=by simp only[maxLen]at hb2;omega
 have grown:∀(old:Nat),old<xs.length+m →
  Own E e (w.drew.alloc (.cells ((E.all xs++E.all ys).toArray++Builtin.zeroCells z.cells (grownCap w (xs.length+m) old e - (xs.length+m))) e)) base (.slice (some ⟨w.heap.size,0,none⟩) (xs.length+m) (grownCap w (xs.length+m) old e)) (xs++ys) ∧
  Below base w (w.drew.alloc (.cells ((E.all xs++E.all ys).toArray++Builtin.zeroCells z.cells (grownCap w (xs.length+m) old e - (xs.length+m))) e)):=by
  intro old ho;have hge:=grownCap_ge w (xs.length+m) old e;have hcm:grownCap w (xs.length+m) old e≤maxLen:=grownCap_le_maxLen w (xs.length+m) old e hb2;refine⟨?_,((ai _ _).drew).alloc hbase _⟩;unfold Own;rw[aj,hl];refine⟨hlen,.inr ⟨w.heap.size,_,_,rfl,hbase,heap_alloc_new w.drew _,hge,hcm, ?_, ?_⟩⟩
  · simp only[Array.size_append,List.size_toArray,size_zeroCells,hz,aj,hlx,uP, ← Nat.add_mul]
    congr 1;omega
  · simp only[Array.toList_append]
    rw[← E.all_append, ← hlen];exact List.take_left
 have h0:=hown;rcases hown.2 with ⟨rfl,hn⟩|⟨g,cap,cur,rfl,hbg,hg,hnc,hcm,hcs,htake⟩
 · have hx:xs=[]:=l5 hn
   subst hx;by_cases hm:m=0
   · subst hm
     have hy:ys=[]:=l5 hl;subst hy;refine⟨.slice none 0 0,w, ?_,Own.nil E e w base,ai _ _⟩;have hc:=hs.cells;have hll:=hs.len;have hc':(Builtin.firstCells i.size 0 x).run P w = .ok #[] w:=hc
     rcases hs.kind with ⟨e',hk⟩|hk <;>
      simp[Builtin.append_,run_underlying ht,run_underlying hk,sizeOf,typeInfo,hi1,hll,hc']
   · have hgr:=grown 0 (by simp;omega)
     have hr:=run_append_grow_src (P:=P) w t tx ty e i z ht hi1 hi2 none 0 0 [] (by simp[Builtin.firstCells]) x m (E.all ys) hs (by omega) (by simp at hsmall;omega) (growslice_fits (by omega) (by simpa using hb));simp only[dY,Nat.zero_add,fQ,Enc.all,List.flatMap_nil]at hgr hr ⊢;exact⟨_,_,hr,hgr.1,hgr.2⟩
 · by_cases hroom:xs.length+m≤cap
   · have hfit:xs.length*i.size+(E.all ys).length≤cur.size:=by rw[uP,hcs, ← Nat.add_mul];exact Nat.mul_le_mul_right _ hroom
     have hst:=run_storeCells_at P g (xs.length*i.size) e (E.all ys) 0 cur w hg (by omega) (E.yY ys);simp only[Nat.add_zero]at hst;refine⟨.slice (some ⟨g,0,none⟩) (xs.length+m) cap,w.setRow g (cur.toList.take (xs.length*i.size)++E.all ys++cur.toList.drop (xs.length*i.size+(E.all ys).length)).toArray, ?_, ?_, ?_⟩
     · rcases hs.kind with ⟨e',hk⟩|hk <;> simp[Builtin.append_,run_underlying ht,run_underlying hk,sizeOf,typeInfo,hi1,hs.len,hroom,hs.cells,Addr.add_lit,hst]
     · unfold Own
       rw[aj,hl];refine⟨hlen,.inr ⟨g,cap,_,rfl,hbg,setRow_heap w g cur _ e _ hg,hroom,hcm, ?_, ?_⟩⟩
       · simp only[List.size_toArray,aj,gD,List.length_drop,Array.length_toList]
         omega
       · rw[htake, ← hlen, ← E.all_append]
         exact List.take_left
     · exact⟨rfl,rfl,rfl,by simp,fun k hk=>setRow_other w g k _ (by omega)⟩
   · have hold:(Builtin.firstCells i.size xs.length (.slice (some ⟨g,0,none⟩) xs.length cap)).run P w.drew = .ok (E.all xs).toArray w.drew :=
      run_firstCells_some w.drew i.size xs.length ⟨g,0,none⟩ xs.length cap (E.all xs) hlx (World.ownsRow.cells (w:=w.drew) h0 (g:=g) rfl)
     have hgr:=grown cap (by omega);have hr:=run_append_grow_src (P:=P) w t tx ty e i z ht hi1 hi2 (some ⟨g,0,none⟩) xs.length cap (E.all xs) hold x m (E.all ys) hs (by omega) (by omega) (growslice_fits (by omega) hb);exact⟨_,_,hr,hgr.1,hgr.2⟩
theorem RN {P:Program}{α : Type}{size t tx e bytes:Nat}{w:World}{ops:Array Oper}{rest:List Oper}{o:Oper}{a:Act}{Q:Exit→Act→World→Prop}(dA:Elem P t e size bytes)(E:Enc α size)
 (hgd:o.guard=none)(s x:Operand)(ho:o.op = .call { callee := .builtin .append,args:=#[s,x],argTypes:=#[t,tx] })(base:Nat)(v:Value)(xs:List α)
 (hs:a.eval s=v)(hown:Own E e w base v xs)(y:Value)(m:Nat)(ys:List α)(hx:a.eval x=y)(hl:ys.length=m)(hsrc:Src P size tx y m (E.all ys) w)
 (hb:(xs.length+m)*bytes≤140737488355328)(hb2:xs.length+m≤maxLen)(hbase:base≤w.heap.size)
 (h:∀(v':Value)(w':World),Own E e w' base v' (xs++ys)→Below base w w'→wpList P ops Q rest (a.put o.dst v') w'):wpList P ops Q (o :: rest) a w:=by
 obtain⟨v',w',hrun,h2,h3⟩:=aci (ty:=o.type) dA E base v xs hown y m ys hl hsrc hb hb2 hbase;refine wpList_plain hgd fun _ hK => ?_
 unfold Oper.wp execOp;simp only[ho,resolve,invoke,builtin,Sem.run_bind,Sem.run_pure,Result.andThen_ok,List.map_toArray,jb,List.map_nil,hs,hx,hrun];exact hK _ _ (h v' w' h2 h3)
theorem UR (s:ByteArray):byteCells s=(bT .u8).all (sb s):=by
 rw[BJ];unfold byteCells sb;rw[List.map_map];rfl
theorem Fp {w:World}(s:ByteArray):Src Tryz.prog 1 9 (.string s) s.size ((bT .u8).all (sb s)) w:=by
 rw[← UR];exact Src.ofString w Tryz.underlying9 s
theorem Bytes.take{l:List Int}(h:Bytes l)(k:Nat):Bytes (l.take k):=fun a ha=>h a (List.mem_of_mem_take ha)
theorem Bytes.get {l:List Int}(h:Bytes l)(k:Nat):0≤l.getD k 0∧l.getD k 0≤255:=by
 rw[iC];cases hk:l[k]? with
 | none=>simp
 | some a=>exact h a (dz hk)
structure S8 (w:World)(B:Nat)(A:Option Addr)(len cap:Nat)(xs:List Int):Prop where
 hlen:xs.length=len
 le:len≤cap
 max:cap≤maxLen
 bytes:Bytes xs
 at_:len=0∨∃pb po,A=some ⟨pb,po,none⟩∧pb<B∧∀j,j<len→w.cell? ⟨pb,po+j,none⟩=some (.int .u8 (xs.getD j 0))
theorem Own.other {α : Type}{size:Nat}{E:Enc α size}{e:TypeId}{w w':World}{base r:Nat}{v:Value}{xs:List α}(h:Own E e w base v xs)(hg:w.grownBy w' (Option.some r))(hr:r<base):Own E e w' base v xs:=by
 refine⟨h.1, ?_⟩;rcases h.2 with h|⟨g,cap,cur,h1,h2,h3,h4⟩
 · exact .inl h
 · refine .inr ⟨g,cap,cur,h1,h2, ?_,h4⟩
   rw[hg.block g (dZ.1 h3).1 (by intro h;have:g=r:=dX h;omega)];exact h3
theorem NF {P:Program}{md:Region.Mode}{ops:Array Oper}{Q:Exit→Act→World→Prop}{S:World→Prop}{i:Nat}{oi:Oper}{d:Option Tmp}{fuel:Nat}{listed listed':Array Bool}{a:Act}{w:World}(hi:ops[i]? = some oi)(hd:oi.dst=d)
 (hr:Region.ready md ops listed=[i])(hl:listed.setIfInBounds i true=listed')(hw:Region.wanted oi (yielded ops a.tmps)=true)
 (h:∀K:Act→World→Prop,Shut (∀v w,S w→wpAnyH P md ops Q S fuel listed' (a.put d v) w→K (a.put d v) w)→Oper.wp P oi a w K Q):wpAnyH P md ops Q S (fuel+1) listed a w:=by
 subst hd;subst hl;refine wpAnyH_ready hr (by simp) (AllReadyH.cons hi (fun K hK => ?_) AllReadyH.nil);rw[if_pos hw];exact h K (fun v w hS hW=>hK _ _ hS (fun _=>hW))
theorem gA{α : Type}(l:List α)(i:Nat):l.toArray[i]? = l[i]? := List.getElem?_toArray ..
theorem gS{α : Type}(x : α)(l:List α)(n:Nat):(x :: l)[n+1]? = l[n]? := rfl
theorem pI{α : Type}(x : α)(l:List α):(x :: l)[0]? = some x:=rfl
theorem sT{α : Type}(l:List α)(i:Nat)(a : α):l.toArray.setIfInBounds i a=(l.set i a).toArray:=List.setIfInBounds_toArray ..
theorem iT{α : Type}(x : α)(l:List α)(a : α):(x :: l).set 0 a=a :: l:=rfl
theorem iR{α : Type}(x : α)(l:List α)(n:Nat)(a : α):(x :: l).set (n+1) a=x :: l.set n a:=rfl
def AA(md:Region.Mode)(ops:Array Oper)(listed:Array Bool)(i:Nat):Bool:=Region.noSelect ops&&(Region.free md ops listed i&&(Region.ready md ops listed).contains i)
theorem Fw {md:Region.Mode}{ops:Array Oper}{listed:Array Bool}{i:Nat}(h:AA md ops listed i=true):Region.noSelect ops=true∧Region.free md ops listed i=true∧(Region.ready md ops listed).contains i=true :=
 ⟨(Bool.and_eq_true_iff.1 h).1,(Bool.and_eq_true_iff.1 (Bool.and_eq_true_iff.1 h).2).1,(Bool.and_eq_true_iff.1 (Bool.and_eq_true_iff.1 h).2).2⟩
theorem hT {P:Program}{md:Region.Mode}{ops:Array Oper}{Q:Exit→Act→World→Prop}{S:World→Prop}(i:Nat){oi:Oper}{v:Value}{fuel:Nat}{listed listed':Array Bool}{a a':Act}{w:World}(hS:S w)(h:wpAnyH P md ops Q S fuel listed' a' w)(hi:ops[i]? = some oi:=by(first|(simp only[gA,gS,pI];done)|(simp only[gA,gS,pI];rfl)))
 (hc:AA md ops listed i=true:=by kernel_rfl)(hl:listed.setIfInBounds i true=listed':=by(simp only[sT,iT,iR];rfl))(hw:Region.wanted oi (yielded ops a.tmps)=true:=by rfl)(hy:∀w,S w→(execOp a.eval oi).run P w = .ok (.value v) w:=by(intro lC hSw;go_simp;try(with_reducible rfl)))
 (ha:a.put oi.dst v=a':=by(simp only[Act.put,sT,iT,iR];rfl))(hQ:∀c a w,Q (.panic c) (a.put oi.dst v) w→Q (.panic c) a w:=by exact fun _ _ _ h=>h):wpAnyH P md ops Q S (fuel+1) listed a w:=by
 obtain⟨h1,h2,h3⟩:=Fw hc;subst hl;subst ha;exact wpAnyH_take hi h1 h2 h3 hQ (.inl ⟨hw,hy⟩) hS h
theorem hU {P:Program}{md:Region.Mode}{ops:Array Oper}{Q:Exit→Act→World→Prop}{S:World→Prop}(i:Nat){oi:Oper}{v:Value}{fuel:Nat}{listed listed':Array Bool}{a a':Act}{w:World}(hS:S w)(h:wpAnyH P md ops Q S fuel listed' a' w)(hi:ops[i]? = some oi:=by(first|(simp only[gA,gS,pI];done)|(simp only[gA,gS,pI];rfl)))
 (hc:AA md ops listed i=true:=by kernel_rfl)(hl:listed.setIfInBounds i true=listed':=by(simp only[sT,iT,iR];rfl))(hw:Region.wanted oi (yielded ops a.tmps)=true:=by rfl)(hy:∀w,S w→(execOp a.eval oi).run P w = .ok (.value v) w:=by(intro lC hSw;have hz:=hSw;go_simp;try(with_reducible rfl)))
 (ha:a.put oi.dst v=a':=by(simp only[Act.put,sT,iT,iR];rfl))(hQ:∀c a w,Q (.panic c) (a.put oi.dst v) w→Q (.panic c) a w:=by exact fun _ _ _ h=>h):wpAnyH P md ops Q S (fuel+1) listed a w:=by
 obtain⟨h1,h2,h3⟩:=Fw hc;subst hl;subst ha;exact wpAnyH_take hi h1 h2 h3 hQ (.inl ⟨hw,hy⟩) hS h
theorem hV {P:Program}{md:Region.Mode}{ops:Array Oper}{Q:Exit→Act→World→Prop}{S:World→Prop}(i:Nat){oi:Oper}{v:Value}{fuel:Nat}{listed listed':Array Bool}{a a':Act}{w:World}(hS:S w)(h:wpAnyH P md ops Q S fuel listed' a' w)(hi:ops[i]? = some oi:=by(first|(simp only[gA,gS,pI];done)|(simp only[gA,gS,pI];rfl)))
 (hc:AA md ops listed i=true:=by kernel_rfl)(hl:listed.setIfInBounds i true=listed':=by(simp only[sT,iT,iR];rfl))(hw:Region.wanted oi (yielded ops a.tmps)=true:=by rfl)(hy:∀w,S w→(execOp a.eval oi).run P w = .ok (.value v) w:=by(intro lC hSw;(try dsimp only at hSw);go_simp;try(with_reducible rfl)))
 (ha:a.put oi.dst v=a':=by(simp only[Act.put,sT,iT,iR];rfl))(hQ:∀c a w,Q (.panic c) (a.put oi.dst v) w→Q (.panic c) a w:=by exact fun _ _ _ h=>h):wpAnyH P md ops Q S (fuel+1) listed a w:=by
 obtain⟨h1,h2,h3⟩:=Fw hc;subst hl;subst ha;exact wpAnyH_take hi h1 h2 h3 hQ (.inl ⟨hw,hy⟩) hS h
theorem hN {P:Program}{md:Region.Mode}{ops:Array Oper}{Q:Exit→Act→World→Prop}{S:World→Prop}(i:Nat){oi:Oper}{fuel:Nat}{listed listed':Array Bool}{a a':Act}{w:World}(hS:S w)(h:wpAnyH P md ops Q S fuel listed' a' w)(hi:ops[i]? = some oi:=by(first|(simp only[gA,gS,pI];done)|(simp only[gA,gS,pI];rfl)))
 (hc:AA md ops listed i=true:=by kernel_rfl)(hl:listed.setIfInBounds i true=listed':=by(simp only[sT,iT,iR];rfl))(hw:Region.wanted oi (yielded ops a.tmps)=false:=by rfl)(ha:a.put oi.dst undef=a':=by(simp only[Act.put,sT,iT,iR];rfl))
 (hQ:∀c a w,Q (.panic c) (a.put oi.dst undef) w→Q (.panic c) a w:=by exact fun _ _ _ h=>h):wpAnyH P md ops Q S (fuel+1) listed a w:=by
 obtain⟨h1,h2,h3⟩:=Fw hc;subst hl;subst ha;exact wpAnyH_take hi h1 h2 h3 hQ (.inr ⟨hw,rfl⟩) hS h
theorem hO {P:Program}{md:Region.Mode}{ops:Array Oper}{Q:Exit→Act→World→Prop}{S:World→Prop}(i:Nat){oi:Oper}{d:Option Tmp}{fuel:Nat}{listed listed':Array Bool}{a:Act}{w:World}
 (h:∀K:Act→World→Prop,Shut (∀v w,S w→wpAnyH P md ops Q S fuel listed' (a.put d v) w→K (a.put d v) w)→Oper.wp P oi a w K Q)(hi:ops[i]? = some oi:=by(first|(simp only[gA,gS,pI];done)|(simp only[gA,gS,pI];rfl)))(hd:oi.dst=d:=by(first|(dsimp only;done)|(dsimp only;rfl)|rfl))(hr:Region.ready md ops listed=[i]:=by kernel_rfl)
 (hl:listed.setIfInBounds i true=listed':=by(simp only[sT,iT,iR];rfl))(hw:Region.wanted oi (yielded ops a.tmps)=true:=by rfl):wpAnyH P md ops Q S (fuel+1) listed a w:=NF hi hd hr hl hw h
theorem Below.of(w w' w'':World)(h:Below w.heap.size w w')(k:Below w'.heap.size w' w''):Below w.heap.size w w'':=h.trans (k.mono h.size)
theorem ae2{P:Program}{ops:Array Oper}{Q:Exit→Act→World→Prop}{i:Nat}{a:Act}{w:World}{K K':Act→World→Prop}(h:∀a w,K a w→K' a w)(hk:wpOp P ops Q i K a w):wpOp P ops Q i K' a w:=wpOp_mono h hk
theorem ND {P:Program}{md:Region.Mode}{ops:Array Oper}{Q:Exit→Act→World→Prop}{S S':World→Prop}(hS:∀w,S w→S' w):∀(fuel:Nat)(listed:Array Bool)(a:Act)(w:World),wpAnyH P md ops Q S fuel listed a w→wpAnyH P md ops Q S' fuel listed a w
 | 0,_,_,_,h=>h
 | fuel+1,_,_,_,h=>⟨h.1,fun i hi=>ae2 (fun a' w' h'=>⟨hS _ h'.1,ND hS fuel _ a' w' h'.2⟩) (h.2 i hi)⟩
theorem Yn {P:Program}{ops:Array Oper}{Q:Exit→Act→World→Prop}{id:Nat}{a:Act}{w:World}(hm:P.follows .mixedOrders=true)
 (h:wpAnyH P .any ops Q (Below w.heap.size w.drew) ops.size (Array.replicate ops.size false) a w.drew):(Code.region id ops true).wp P Q a w :=
 wp_region_held_drew (S:=Below w.heap.size w.drew) hm (ai _ _) (fun _=>h)
theorem Ym {P:Program}{md:Region.Mode}{ops:Array Oper}{Q:Exit→Act→World→Prop}{i:Nat}{oi:Oper}{d:Option Tmp}{fuel:Nat}{listed listed':Array Bool}{a:Act}{B:Nat}{w:World}(hi:ops[i]? = some oi)(hd:oi.dst=d)
 (hr:Region.ready md ops listed=[i])(hl:listed.setIfInBounds i true=listed')(hw:Region.wanted oi (yielded ops a.tmps)=true)
 (h:∀K:Act→World→Prop,Shut (∀v w',Below B w w'→B≤w'.heap.size→wpAnyH P md ops Q (Below w'.heap.size w') fuel listed' (a.put d v) w'→K (a.put d v) w')→Oper.wp P oi a w K Q):wpAnyH P md ops Q (Below B w) (fuel+1) listed a w :=
 NF hi hd hr hl hw (fun K hK=>h K (fun v w' hb hB hn=>hK v w' hb (ND (fun _ h'=>hb.trans (h'.mono hB)) _ _ _ _ hn)))
theorem yP {P:Program}{md:Region.Mode}{ops:Array Oper}{Q:Exit→Act→World→Prop}{B:Nat}(i:Nat){oi:Oper}{v:Value}{fuel:Nat}{listed listed':Array Bool}{a a':Act}{w:World}(h:wpAnyH P md ops Q (Below B w) fuel listed' a' w)(hi:ops[i]? = some oi:=by(first|(simp only[gA,gS,pI];done)|(simp only[gA,gS,pI];rfl)))
 (hc:AA md ops listed i=true:=by kernel_rfl)(hl:listed.setIfInBounds i true=listed':=by(simp only[sT,iT,iR];rfl))(hw:Region.wanted oi (yielded ops a.tmps)=true:=by rfl)(hy:∀w',Below B w w'→(execOp a.eval oi).run P w' = .ok (.value v) w':=by(intro lC hSw;go_simp;try(with_reducible rfl)))
 (ha:a.put oi.dst v=a':=by(simp only[Act.put,sT,iT,iR];rfl))(hQ:∀c a w,Q (.panic c) (a.put oi.dst v) w→Q (.panic c) a w:=by exact fun _ _ _ h=>h):wpAnyH P md ops Q (Below B w) (fuel+1) listed a w :=
 hT i (ai _ _) h hi hc hl hw hy ha hQ
theorem Yc {P:Program}{md:Region.Mode}{ops:Array Oper}{Q:Exit→Act→World→Prop}(i:Nat){oi:Oper}{d:Option Tmp}{fuel:Nat}{listed listed':Array Bool}{a:Act}{B:Nat}{w:World}
 (h:∀K:Act→World→Prop,Shut (∀v w',Below B w w'→B≤w'.heap.size→wpAnyH P md ops Q (Below w'.heap.size w') fuel listed' (a.put d v) w'→K (a.put d v) w')→Oper.wp P oi a w K Q)(hi:ops[i]? = some oi:=by(first|(simp only[gA,gS,pI];done)|(simp only[gA,gS,pI];rfl)))(hd:oi.dst=d:=by(first|(dsimp only;done)|(dsimp only;rfl)|rfl))
 (hr:Region.ready md ops listed=[i]:=by kernel_rfl)(hl:listed.setIfInBounds i true=listed':=by(simp only[sT,iT,iR];rfl))(hw:Region.wanted oi (yielded ops a.tmps)=true:=by rfl):wpAnyH P md ops Q (Below B w) (fuel+1) listed a w:=Ym hi hd hr hl hw h
end Go.Proofs.YtdnooocmlhcpkaaGreatDoor
namespace Go.Proofs.YtdnooocmlhcpkaaGreatDoor
open Go.ChangeShapes Go.WideShapes Go.ChangeAt Go.RowKit
theorem aeq {H:Type}{enc:TypeId × Value→H}{P:Program}(hl:laidOutB P=true){W W':World}(hb:Below W.heap.size W W') :
 ∀ (ts:List TypeId)(vs:List Value)(ds:List (DataW H))(p:List MemPlace),(ts.all fun t=>P.readableRec t&&decide (t<P.types.size))=true→(∀x∈p,x.block<W.heap.size) →
   DataW.TrodAll enc P W 0 (fun _=>true) true ts vs ds p→DataW.TrodAll enc P W' 0 (fun b=>decide (b<W.heap.size)) true ts vs ds p:=by
 intro ts
 induction ts with
 | nil =>
   intro vs ds p _ _ h;obtain⟨rfl,rfl,rfl⟩:=trodAll_nil h;exact trodAll_mk0
 | cons t ts ih =>
   intro vs ds p ht hlt h;obtain⟨v,vs',d,ds',p1,q1,rfl,rfl,rfl,h0,hr⟩:=trodAll_cons h;rw[List.all_cons,dE,dE,decide_eq_true_eq]at ht;exact trodAll_cons_mk (Below.trod hl ht.1.1 ht.1.2 h0 hb (fun x hx=>hlt x (List.mem_append_left _ hx))) (ih vs' ds' q1 ht.2 (fun x hx=>hlt x (List.mem_append_right _ hx)) hr)
theorem own:ownKnob Tryz.prog.godebug=none:=by kernel_rfl
theorem laidOut:laidOutB Tryz.prog=true:=by kernel_rfl
theorem Yy {H:Type}{enc:TypeId × Value→H}{f:Func}{s:ChangeSpec}{W W':World}{args:Array Value}{ds gs:List (DataW H)}{before:List MemPlace}(hl:laidOutB Tryz.prog=true)
 (XD:(f.params.toList.all fun t=>Tryz.prog.readableRec t&&decide (t<Tryz.prog.types.size))=true)(hres:f.resultTypes=#[4])
 (hvars:s.vars=[])(hfn:s.fn H (ds++gs)={ results:=[.lit (.bool true)],args:=ds })
 (hW:DataW.Whole enc Tryz.prog f.params.toList s.vars false W args.toList ds gs before)(hlt:∀x∈before,x.block<W.heap.size)(hb:Below W.heap.size W W') :
 s.post enc Tryz.prog f false true false false W args (.bool true) W':=by
 have hW0:=hW;obtain⟨p,q,hA,hV,rfl,_,_⟩:=hW;refine⟨ds,gs,p++q,[],p,[],hW0, ?_, ?_, ?_,hb.frame _,fun h=>by cases h⟩
 · rw[hfn,hres]
   exact trodAll_cons_mk (shut_bool Tryz.underlying4 true) trodAll_mk0
 · rw[hfn]
   exact aeq hl hb _ _ _ _ XD (fun x hx=>hlt x (List.mem_append_left _ hx)) hA
 · rw[hvars,hfn];rfl
end Go.Proofs.YtdnooocmlhcpkaaGreatDoor
namespace Go.Proofs.YtdnooocmlhcpkaaGreatDoor
open Go.RowKit
def fE:Enc ByteArray 1:={ f:=fun s=>[.string s],len:=fun _=>rfl,one:=fun _ u hu=>by simp at hu;subst hu;rfl }
theorem DV (l:List ByteArray):fE.all l=l.map Value.string:=by
 induction l with
 | nil=>rfl
 | cons a t ih=>show Value.string a :: fE.all t=_;rw[ih];rfl
structure aN where
 A:Option Addr
 cap:Nat
 l:List ByteArray
def aN.v(r:aN):Value := .slice r.A r.l.length r.cap
def nN:Enc aN 1:={ f:=fun r=>[r.v],len:=fun _=>rfl,one:=fun _ u hu=>by simp at hu;subst hu;rfl }
theorem Uj (l:List aN):nN.all l=l.map aN.v:=by
 induction l with
 | nil=>rfl
 | cons a t ih=>show a.v :: nN.all t=_;rw[ih];rfl
structure ak where
 nm:ByteArray
 ay:Int
 A:Option Addr
 cap:Nat
 rows:List aN
def ak.rv(s:ak):Value := .slice s.A s.rows.length s.cap
def ak.p(s:ak):jf:=⟨s.nm,s.ay,s.rows.map (·.l)⟩
def nO:Enc ak 3:={ f:=fun s=>[.string s.nm,.int .i64 s.ay,s.rv],len:=fun _=>rfl,one:=fun s u hu=>by simp only[List.mem_cons,List.not_mem_nil,or_false]at hu;rcases hu with rfl|rfl|rfl <;> rfl }
def jM(w:World)(B:Nat)(v:Value)(rows:List aN):Prop:=iI nN w B v rows∧∀r∈rows,iI fE w B r.v r.l
theorem jM.below{w w':World}{B C:Nat}{v:Value}{rows:List aN}(h:jM w B v rows)(hb:Below C w w')(hC:B≤C):jM w' B v rows:=⟨h.1.below hb hC,fun r hr=>(h.2 r hr).below hb hC⟩
theorem jM.mono{w:World}{B C:Nat}{v:Value}{rows:List aN}(h:jM w B v rows)(hC:B≤C):jM w C v rows:=⟨h.1.mono hC,fun r hr=>(h.2 r hr).mono hC⟩
theorem jM.lift{w w':World}{v:Value}{rows:List aN}(h:jM w w.heap.size v rows)(hb:Below w.heap.size w w'):jM w' w'.heap.size v rows:=(h.below hb (ag _)).mono hb.size
def eH(w:World)(B:Nat)(v:Value)(ah:List ak):Prop:=iI nO w B v ah∧∀s∈ah,jM w B s.rv s.rows
theorem eH.below{w w':World}{B C:Nat}{v:Value}{ah:List ak}(h:eH w B v ah)(hb:Below C w w')(hC:B≤C):eH w' B v ah:=⟨h.1.below hb hC,fun r hr=>(h.2 r hr).below hb hC⟩
theorem eH.mono{w:World}{B C:Nat}{v:Value}{ah:List ak}(h:eH w B v ah)(hC:B≤C):eH w C v ah:=⟨h.1.mono hC,fun r hr=>(h.2 r hr).mono hC⟩
theorem eH.lift{w w':World}{v:Value}{ah:List ak}(h:eH w w.heap.size v ah)(hb:Below w.heap.size w w'):eH w' w'.heap.size v ah:=(h.below hb (ag _)).mono hb.size
theorem eH.nil(w:World)(B:Nat):eH w B (.slice none 0 0) []:=⟨iI.nil _ _ _,fun _ h=>nomatch h⟩
theorem xH {w:World}{B:Nat}{A:Option Addr}{n cap:Nat}{l:List ByteArray}(h:iI fE w B (.slice A n cap) l){i:Nat}{x:ByteArray}(hi:l[i]? = some x) :
 ∃pb po,A=some ⟨pb,po,none⟩∧pb<B∧w.cell? ⟨pb,po+i,none⟩=some (.string x):=by
 obtain⟨pb,po,h1,h2,h3⟩:=h.at hi;exact⟨pb,po,h1,h2,by have:=h3 0 _ rfl;rwa[Nat.mul_one,Nat.add_zero]at this⟩
theorem rH {w:World}{B:Nat}{A:Option Addr}{n cap:Nat}{l:List aN}(h:jM w B (.slice A n cap) l){i:Nat}{x:aN}(hi:l[i]? = some x) :
 ∃pb po,A=some ⟨pb,po,none⟩∧pb<B∧w.cell? ⟨pb,po+i,none⟩=some (.slice x.A x.l.length x.cap)∧iI fE w B (.slice x.A x.l.length x.cap) x.l:=by
 obtain⟨pb,po,h1,h2,h3⟩:=h.1.at hi;exact⟨pb,po,h1,h2,by have:=h3 0 _ rfl;rwa[Nat.mul_one,Nat.add_zero]at this,h.2 x (dz hi)⟩
theorem oP {w:World}{B:Nat}{A:Option Addr}{n cap:Nat}{l:List ak}(h:eH w B (.slice A n cap) l){i:Nat}{x:ak}(hi:l[i]? = some x) :
 ∃pb po,A=some ⟨pb,po,none⟩∧pb<B∧w.cell? ⟨pb,po+i*3,none⟩=some (.string x.nm)∧w.cell? ⟨pb,po+i*3+1,none⟩=some (.int .i64 x.ay)∧w.cell? ⟨pb,po+i*3+2,none⟩=some (.slice x.A x.rows.length x.cap)∧jM w B (.slice x.A x.rows.length x.cap) x.rows:=by
 obtain⟨pb,po,h1,h2,h3⟩:=h.1.at hi;exact⟨pb,po,h1,h2,h3 0 _ rfl,by have:=h3 1 _ rfl;rwa[← Nat.add_assoc]at this,by have:=h3 2 _ rfl;rwa[← Nat.add_assoc]at this,h.2 x (dz hi)⟩
def ShAt(w:World)(b:Nat)(nm:ByteArray)(c:Int)(v:Value):Prop:=w.heap[b]? = some (.cells #[.string nm,.int .i64 c,v] 73)
theorem ShAt.new(w:World)(nm:ByteArray)(c:Int)(v:Value):ShAt (w.alloc (.cells #[.string nm,.int .i64 c,v] 73)) w.heap.size nm c v:=(jw w _).1
theorem ShAt.lt{w:World}{b:Nat}{nm:ByteArray}{c:Int}{v:Value}(h:ShAt w b nm c v):b<w.heap.size:=(dZ.1 h).1
theorem ShAt.below{w w':World}{b B:Nat}{nm:ByteArray}{c:Int}{v:Value}(h:ShAt w b nm c v)(hb:Below B w w')(hB:b<B):ShAt w' b nm c v:=by unfold ShAt;rw[hb.block b hB];exact h
theorem ShAt.over{w w':World}{b:Nat}{nm:ByteArray}{c:Int}{v:Value}(h:ShAt w b nm c v)(hb:Below w.heap.size w w'):ShAt w' b nm c v:=h.below hb h.lt
theorem ShAt.cells {w:World}{b:Nat}{nm:ByteArray}{c:Int}{v:Value}(h:ShAt w b nm c v):w.cell? ⟨b,0,none⟩=some (.string nm)∧w.cell? ⟨b,1,none⟩=some (.int .i64 c)∧w.cell? ⟨b,2,none⟩=some v :=
 ⟨by rw[cell_of_row w b 0 _ _ _ h];rfl,by rw[cell_of_row w b 1 _ _ _ h];rfl,by rw[cell_of_row w b 2 _ _ _ h];rfl⟩
theorem ShAt.bK {w:World}{b:Nat}{nm:ByteArray}{c:Int}{v:Value}(h:ShAt w b nm c v):w.frozen? ⟨b,0,none⟩=false∧w.frozen? ⟨b,1,none⟩=false∧w.frozen? ⟨b,2,none⟩=false :=
 ⟨frozen_of_row w b 0 _ _ h,frozen_of_row w b 1 _ _ h,frozen_of_row w b 2 _ _ h⟩
def aY(w:World)(b:Nat)(v:Value):Prop:=w.heap[b]? = some (.cells #[v] 26)
theorem aY.new(w:World)(v:Value):aY (w.alloc (.cells #[v] 26)) w.heap.size v:=(jw w _).1
theorem aY.lt{w:World}{b:Nat}{v:Value}(h:aY w b v):b<w.heap.size:=(dZ.1 h).1
theorem aY.below{w w':World}{b B:Nat}{v:Value}(h:aY w b v)(hb:Below B w w')(hB:b<B):aY w' b v:=by unfold aY;rw[hb.block b hB];exact h
theorem aY.over{w w':World}{b:Nat}{v:Value}(h:aY w b v)(hb:Below w.heap.size w w'):aY w' b v:=h.below hb h.lt
theorem aY.cell{w:World}{b:Nat}{v:Value}(h:aY w b v):w.cell? ⟨b,0,none⟩=some v:=by rw[cell_of_row w b 0 _ _ _ h];rfl
theorem aY.jh{w:World}{b:Nat}{v:Value}(h:aY w b v):w.frozen? ⟨b,0,none⟩=false:=frozen_of_row w b 0 _ _ h
theorem CZ (a b:ByteArray):(a.toList == b.toList)=decide (a=b):=by
 by_cases h:a=b
 · subst h;simp
 · rw[decide_eq_false h]
   exact beq_eq_false_iff_ne.2 (nX a b h)
theorem nJ(w:World)(nm:ByteArray)(c:Int)(v:Value):Below w.heap.size w (w.alloc (.cells #[.string nm,.int .i64 c,v] 73)):=(ai _ _).alloc (ag _) _
theorem kJ(w:World)(v:Value):Below w.heap.size w (w.alloc (.cells #[v] 26)):=(ai _ _).alloc (ag _) _
theorem aeG (nm t:ByteArray)(c:Int)(v:Value)(w:World):Calls Tryz.prog 109 #[.string nm,.agg #[.string t,.int .i64 c,v]] w fun e w'=>e = .returned (.bool (decide (t=nm)))∧Below w.heap.size w w':=by
 have HB:=aa (nJ w t c v);go_enter Tryz.func109,Tryz.ntmps109;go_wp2_with fail
 all_goals go_ret
 all_goals exact⟨by first|rfl|(rw[CZ];rfl),HB.o⟩
def First(ah:List ak)(nm:ByteArray)(i:Nat)(s:ak):Prop:=ah[i]? = some s∧s.nm=nm∧∀(j:Nat)(t:ak),j<i→ah[j]? = some t→t.nm≠nm
def vg (ah:List ak)(nm:ByteArray):Option (Nat × ak)→Prop
 | none=>∀(j:Nat)(t:ak),ah[j]? = some t→t.nm≠nm
 | some (i,s)=>First ah nm i s
def sS:Option (Nat × ak)→Int
 | none => -1
 | some (i,_)=>(i:Int)
theorem Wi (ah:List ak)(nm:ByteArray):∃o,vg ah nm o:=by
 have key : ∀n:Nat,(∃o,vg ah nm o)∨∀(j:Nat)(t:ak),j<n→ah[j]? = some t→t.nm≠nm:=by
  intro n
  induction n with
  | zero=>exact .inr fun j t h=>by omega
  | succ n ih =>
    rcases ih with h|h
    · exact .inl h
    · cases hn:ah[n]? with
      | none=>exact .inl ⟨none,fun j t hj=>h j t (by have:=(dm.1 hj).1;have:=List.getElem?_eq_none_iff.1 hn;omega) hj⟩
      | some s =>
        by_cases he:s.nm=nm
        · exact .inl ⟨some (n,s),hn,he,h⟩
        · refine .inr fun j t hj ht => ?_
          by_cases hjn:j=n
          · subst hjn;rw[hn]at ht;injection ht with ht;subst ht;exact he
          · exact h j t (by omega) ht
 rcases key ah.length with h|h
 · exact h
 · exact⟨none,fun j t hj=>h j t (dm.1 hj).1 hj⟩
theorem XZ (w:World)(A:Option Addr)(n cap:Nat)(ah:List ak)(nm:ByteArray)(o:Option (Nat × ak))(h:eH w w.heap.size (.slice A n cap) ah)(hn:n≤1000000)(ho:vg ah nm o) :
 Calls Tryz.prog 108 #[.slice A n cap,.func (.func 109) #[.string nm] #[]] w fun e w'=>e = .returned (.int .i64 (sS o))∧Below w.heap.size w w':=by
 have HL:=aa h.1.len.1;have gM:=aa h;have HO:=aa ho;clear h ho;go_enter Tryz.func108,Tryz.ntmps108;go_upto_region 2 with (fail)
 go_loopw [8] (fun iv wr=>∃i:Nat,i≤n∧iv = .int .i64 (i:Int)∧Hid (∀(j:Nat)(t:ak),j<i→ah[j]? = some t→t.nm≠nm)∧Hid (Below w.heap.size w wr))
  (fun iv _=>n - (intOf iv).toNat)
 case atStart=>exact⟨0,cu _,rfl,aa (fun j t h=>by omega),aa (ai _ _)⟩
 case round =>
  obtain⟨i,hi,rfl,HT,HR⟩:=hrel;by_cases hlt:i<n
  · have hii:(i:Int)<(n:Int):=by omega
    have hi0:(0:Int)≤(i:Int):=by omega
    obtain⟨s,hs⟩:∃s,ah[i]? = some s:=⟨_,bn (by rw[HL.o];exact hlt)⟩;obtain⟨pb,po,rfl,hpb,e0,e1,e2,hrow⟩:=oP gM.o hs;have x0:wr.cell? ⟨pb,po+i*3,none⟩=some (.string s.nm):=(HR.o.cell (p:=⟨pb,po+i*3,none⟩) hpb).trans e0;have x1:wr.cell? ⟨pb,po+i*3+1,none⟩=some (.int .i64 s.ay):=(HR.o.cell (p:=⟨pb,po+i*3+1,none⟩) hpb).trans e1;have x2:wr.cell? ⟨pb,po+i*3+2,none⟩=some (.slice s.A s.rows.length s.cap):=(HR.o.cell (p:=⟨pb,po+i*3+2,none⟩) hpb).trans e2;have HS:=aa hs;have hw:=aeG nm s.nm s.ay (.slice s.A s.rows.length s.cap) wr;clear e0 e1 e2 hrow hs;by_cases he:s.nm=nm
    · rw [decide_eq_true he]at hw
      have HW:=aa hw
      have HF:=aa (show sS o=(i:Int)from by
       cases o with
       | none=>exact absurd he (HO.o i s HS.o)
       | some p =>
         obtain⟨k,t⟩:=p;obtain⟨h1,h2,h3⟩:=HO.o;show(k:Int)=(i:Int);rcases Nat.lt_trichotomy i k with h|h|h
         · exact absurd he (h3 i s h HS.o)
         · omega
         · exact absurd h2 (HT.o k t h h1))
      clear hw he;go_wp2_with (go_at_call 109;((with_reducible refine HW.o.mono ?_);rintro e w2 ⟨rfl,h1⟩;have H2:=aa (HR.o.trans (h1.mono HR.o.size));clear h1))
      go_ret;exact⟨za HF.o.symm,H2.o⟩
    · rw [decide_eq_false he]at hw
      have HW:=aa hw
      have HF:=aa (show ∀(j:Nat)(t:ak),j<i+1→ah[j]? = some t→t.nm≠nm from fun j t hj ht=>by
       by_cases hji:j=i
       · subst hji
         have h:=HS.o;rw[ht]at h;injection h with h;subst h;exact he
       · exact HT.o j t (by omega) ht)
      clear hw he;go_wp2_with (go_at_call 109;((with_reducible refine HW.o.mono ?_);rintro e w2 ⟨rfl,h1⟩;have H2:=aa (HR.o.trans (h1.mono HR.o.size));clear h1))
      go_roundw
      case rel=>exact⟨i+1,by omega,by go_num,HF,H2⟩
      case measure=>simp[intOf];omega
  · have hii:¬ (i:Int)<(n:Int):=by omega
    have HF:=aa (show sS o = -1 from by
     cases o with
     | none=>rfl
     | some p =>
       obtain⟨k,t⟩:=p;obtain⟨h1,h2,h3⟩:=HO.o;have:=(dm.1 h1).1;have:=HL.o;exact absurd h2 (HT.o k t (by omega) h1))
    go_wp2_with fail
    go_ret;exact⟨za HF.o.symm,HR.o⟩
theorem Hy (w:World)(A:Option Addr)(n cap:Nat)(ah:List ak)(nm:ByteArray)(o:Option (Nat × ak))(h:eH w w.heap.size (.slice A n cap) ah)(hn:n≤1000000)(ho:vg ah nm o) :
 Calls Tryz.prog 68 #[.agg #[.slice A n cap],.string nm] w fun e w'=>e = .returned (.int .i64 (sS o))∧Below w.heap.size w w':=by
 have HB:=aa (kJ w (.slice A n cap));have HI:=aa (XZ (w.alloc (.cells #[.slice A n cap] 26)) A n cap ah nm o (h.lift HB.o) hn ho);have HA:=aa (aY.new w (.slice A n cap));clear h hn ho;go_enter Tryz.func68,Tryz.ntmps68;go_upto_region 1 with (fail)
 obtain⟨w1,hw1⟩:∃w1,w.alloc (.cells #[.slice A n cap] 26)=w1:=⟨_,rfl⟩;rw[hw1]at HA HB HI ⊢;have c0:=HA.o.cell;go_wp2_with (go_at_call 108;(go_loud (with_reducible refine HI.o.mono ?_));(rintro e w2 ⟨rfl,h1⟩;have H2:=aa (HB.o.trans (h1.mono HB.o.size));clear h1))
 go_ret;exact⟨rfl,H2.o⟩
theorem Elem.tx:Elem Tryz.prog 56 9 1 16:=⟨Tryz.underlying56,⟨.string ⟨#[]⟩,by kernel_rfl,rfl⟩,by decide⟩
theorem Elem.rw:Elem Tryz.prog 71 56 1 24:=⟨Tryz.underlying71,⟨.slice none 0 0,by kernel_rfl,rfl⟩,by decide⟩
theorem Elem.sh:Elem Tryz.prog 24 73 3 48:=⟨Tryz.underlying24,⟨.agg #[.string ⟨#[]⟩,.int .i64 0,.slice none 0 0],by kernel_rfl,rfl⟩,by decide⟩
theorem PW {α : Type}{k:Nat}(E:Enc α k)(e:TypeId)(w:World):Own E e (w.alloc (.cells #[] e)) w.heap.size (.slice (some ⟨w.heap.size,0,none⟩) 0 0) ([]:List α):=by
 refine⟨by simp[Enc.all],.inr ⟨w.heap.size,0,#[],rfl,ag _,(jw w _).1,ag _,by unfold maxLen;omega,by simp,by simp[Enc.all]⟩⟩
def nI(w:World)(r:aN)(lo hi:Nat):Prop:=r.l.length≤r.cap∧r.cap≤maxLen∧(r.l=[]∨∃g,r.A=some ⟨g,0,none⟩∧lo≤g∧g<hi∧iG fE 9 w g r.l)
theorem nI.keep {w w':World}{r:aN}{lo hi:Nat}(h:nI w r lo hi)(hk:∀g,lo≤g→g<hi→w'.heap[g]? = w.heap[g]?):nI w' r lo hi:=by
 obtain⟨h1,h2,h3⟩:=h;refine⟨h1,h2,h3.imp id ?_⟩;rintro⟨g,e1,e2,e3,e4⟩;exact⟨g,e1,e2,e3,e4.keep (hk g e2 e3)⟩
theorem nI.up {w:World}(r:aN)(a b c d:Nat)(h1:a≤b)(h2:c≤d)(_:b≤c)(h:nI w r b c):nI w r a d:=by
 obtain⟨k1,k2,k3⟩:=h;refine⟨k1,k2,k3.imp id ?_⟩;rintro⟨g,e1,e2,e3,e4⟩;exact⟨g,e1,by omega,by omega,e4⟩
theorem nI.se {w:World}{r:aN}{lo hi B:Nat}(h:nI w r lo hi)(hB:hi≤B):iI fE w B r.v r.l:=by
 obtain⟨h1,h2,h3|⟨g,e1,e2,e3,e4⟩⟩:=h
 · exact⟨_,_,rfl,h1,h2,.inl h3⟩
 · have:=e4.se (B:=B) (cap:=r.cap) (by omega) h1 h2
   unfold aN.v;rw[e1];exact this
theorem QH(A:Option Addr)(n cap:Nat)(w:World):Sem.run Tryz.prog (binOp BinOp.eql 56 (.slice A n cap) (.slice none 0 0)) w = .ok (.bool A.isNone) w:=Lib.run_eql_slice_nil w 56 9 A n cap 0 0 Tryz.underlying56
theorem Vo (w:World)(A:Option Addr)(n cap:Nat)(xs:List ByteArray)(h:iI fE w w.heap.size (.slice A n cap) xs)(hn:n≤1000000) :
 Calls Tryz.prog 107 #[.slice A n cap] w fun e w'=>Below w.heap.size w w'∧∃A' c',e = .returned (.slice A' xs.length c')∧nI w' ⟨A',c',xs⟩ w.heap.size w'.heap.size:=by
 cases A with
 | none =>
   obtain rfl:xs=[]:=by
    cases xs with
    | nil=>rfl
    | cons x t=>obtain⟨pb,po,h1,_⟩:=xH h (i:=0) rfl;cases h1
   obtain rfl:n=0:=h.len.1.symm;clear h;have hnil:=fun w=>QH none 0 cap w
   go_enter Tryz.func107,Tryz.ntmps107;go_wp2_with fail
   go_ret;exact⟨ai _ _,none,0,rfl,⟨ag _,cu _,.inl rfl⟩⟩
 | some ad =>
   have HX:=aa h;have HL:=aa h.len.1;clear h;have HO:=aa (PW fE 9 w);have iF:=aa ((ai w.heap.size w).alloc (ag _) (.cells #[] 9))
   have Ba:=aa (fun (j:Nat)(u:Value)(hj:(fE.all xs)[j]? = some u)=>(show(w.alloc (.cells #[] 9)).cell? (ad.add j)=some u from by
    obtain⟨A',cap',h1,_,_,h3⟩:=(HX.o.lift iF.o);injection h1 with h1 _ _;rcases h3 with rfl|⟨pb,po,h4,_,h5⟩
    · simp[Enc.all]at hj
    · rw[h4]at h1
      injection h1 with h1;subst h1;rw[Addr.add_mid];exact h5 j u hj))
   have hnil:=fun w=>QH (some ad) n cap w
   go_enter Tryz.func107,Tryz.ntmps107;go_wp2_with (at_builtin;refine mH Elem.tx fE rfl (.tmp 5) (.tmp 6) rfl w.heap.size _ [] rfl HO.o ad n cap xs rfl HL.o Ba.o ?_ ?_ ?_ ?_;(rw[dY];omega);(rw[dY];unfold maxLen;omega);exact iF.o.size;intro v3 w3 h1 h2;have H3:=aa h1;clear h1;have H4:=aa h2;clear h2)
   go_ret;have ho:Own fE 9 w3 w.heap.size v3 xs:=by have:=H3.o;rwa[fQ]at this
   have hb:Below w.heap.size w w3:=iF.o.trans H4.o;refine⟨hb, ?_⟩;rcases ho.shape with ⟨rfl,rfl⟩|⟨g,c3,rfl,h1,h2,h3,h4⟩
   · exact⟨none,0,rfl,⟨ag _,cu _,.inl rfl⟩⟩
   · exact⟨some ⟨g,0,none⟩,c3,rfl,⟨h3,h4,.inr ⟨g,rfl,h1,h2,ho.Fa⟩⟩⟩
def nG(w:World)(A:Option Addr)(cap:Nat)(rows:List aN)(lo hi:Nat):Prop:=∃g m,A=some ⟨g,0,none⟩∧cap=rows.length∧rows.length≤maxLen∧lo≤g∧g<m∧iG nN 56 w g rows∧df (nI w) rows m hi
theorem nG.keep {w w':World}{A:Option Addr}{cap:Nat}{rows:List aN}{lo hi:Nat}(h:nG w A cap rows lo hi)(hk:∀g,lo≤g→g<hi→w'.heap[g]? = w.heap[g]?):nG w' A cap rows lo hi:=by
 obtain⟨g,m,h1,h2,h3,h4,h5,h6,h7⟩:=h;have:=h7.le;exact⟨g,m,h1,h2,h3,h4,h5,h6.keep (hk g h4 (by omega)),h7.imp fun x a b _ ha hb hx=>hx.keep fun g h1 h2=>hk g (by omega) (by omega)⟩
theorem nG.up {w:World}{A:Option Addr}{cap:Nat}{rows:List aN}{a b c d:Nat}(h1:a≤b)(h2:c≤d)(h:nG w A cap rows b c):nG w A cap rows a d:=by
 obtain⟨g,m,k1,k2,k3,k4,k5,k6,k7⟩:=h;exact⟨g,m,k1,k2,k3,by omega,k5,k6,k7.up nI.up (ag _) h2⟩
theorem nG.JQ {w:World}{A:Option Addr}{cap:Nat}{rows:List aN}{lo hi B:Nat}(h:nG w A cap rows lo hi)(hB:hi≤B):jM w B (.slice A rows.length cap) rows:=by
 obtain⟨g,m,rfl,rfl,h3,h4,h5,h6,h7⟩:=h;have:=h7.le;refine⟨h6.se (by omega) (ag _) h3,fun r hr => ?_⟩;obtain⟨i,hi⟩:=List.getElem?_of_mem hr;obtain⟨a,b,_,_,k3,k4,_⟩:=h7.at i r hi;exact k4.se (by omega)
def Ky:aN:=⟨none,0,[]⟩
theorem MW {α : Type}(done:List α)(z x : α)(n:Nat)(h:done.length<n):(done++List.replicate (n - done.length) z).set done.length x=(done++[x])++List.replicate (n - (done.length+1)) z:=by
 obtain⟨k,hk⟩:∃k,n - done.length=k+1:=⟨n - done.length - 1,by omega⟩;have hk2:n - (done.length+1)=k:=by omega
 rw[hk,hk2,List.replicate_succ,List.set_append_right _ _ (ag _),Nat.sub_self,List.set_cons_zero,bO];rfl
theorem acn (n:Nat)(hn:n≤1000000)(w:World):(Instr.makeSlice 71 (.int .i64 (n:Int)) (.int .i64 (n:Int))).run Tryz.prog w = .ok (.slice (some ⟨w.heap.size,0,none⟩) n n) (w.alloc (.cells (madeCells #[.slice none 0 0] n) 56)):=by
 exact run_make_row' 71 56 (.slice none 0 0) 24 Tryz.underlying71 (by kernel_rfl) rfl .i64 .i64 n (by omega) (by omega) w
theorem VS (w:World)(A:Option Addr)(n cap:Nat)(rows:List aN)(h:jM w w.heap.size (.slice A n cap) rows)(hn:n≤1000000)(hz:∀r∈rows,r.l.length≤1000000) :
 Calls Tryz.prog 106 #[.slice A n cap,.func (.func 107) #[] #[]] w fun e w'=>Below w.heap.size w w'∧∃A' iB,e = .returned (.slice A' n n)∧iB.map (·.l)=rows.map (·.l)∧nG w' A' n iB w.heap.size w'.heap.size:=by
 have gG:=aa h;have HL:=aa h.1.len.1;have j4:=aa hz;clear h hz;have hmk:=fun w=>acn n hn w
 have HT:=aa (show iG nN 56 (w.alloc (.cells (madeCells #[.slice none 0 0] n) 56)) w.heap.size (List.replicate n Ky)from by have h1:=Pf nN 56 w n Ky #[.slice none 0 0] rfl (by omega);rwa[Nat.mul_one]at h1);have HB0:=aa ((ai w.heap.size w).alloc (ag _) (.cells (madeCells #[.slice none 0 0] n) 56));have lL:=aa (kD w (.cells (madeCells #[.slice none 0 0] n) 56));go_enter Tryz.func106,Tryz.ntmps106;go_upto_region 3 with (fail)
 obtain⟨w1,hw1⟩:∃w1,w.alloc (.cells (madeCells #[.slice none 0 0] n) 56)=w1:=⟨_,rfl⟩;rw[hw1]at HT HB0 lL ⊢;clear hw1 hmk;obtain⟨T,BS⟩:∃T,w.heap.size=T:=⟨_,rfl⟩;have gH:=aa BS;rw[BS]at HT HB0 lL ⊢
 go_loopw [13] (fun iv wr=>∃(i:Nat)(done:List aN),i≤n∧iv = .int .i64 (i:Int)∧Hid (done.length=i)∧Hid (done.map (·.l)=(rows.map (·.l)).take i)∧Hid (iG nN 56 wr T (done++List.replicate (n - done.length) Ky))∧Hid (df (nI wr) done (T+1) wr.heap.size)∧Hid (Below T w wr))
  (fun iv _=>n - (intOf iv).toNat)
 case atStart=>exact⟨0,[],cu _,rfl,aa rfl,aa rfl,HT,aa (show T+1≤w1.heap.size from Nat.le_of_eq lL.o.symm),HB0⟩
 case round =>
  obtain⟨i,done,hi,rfl,HD,HM,HA,o8,HB⟩:=hrel;by_cases hlt:i<n
  · have hii:(i:Int)<(n:Int):=by omega
    have hi0:(0:Int)≤(i:Int):=by omega
    obtain⟨x,hx⟩:∃x,rows[i]? = some x:=⟨_,bn (by rw[HL.o];exact hlt)⟩;obtain⟨pb,po,rfl,hpb,e0,hrx⟩:=rH gG.o hx;have Cc:pb<T:=by rw[← gH.o];exact hpb
    have x0:wr.cell? ⟨pb,po+i,none⟩=some (.slice x.A x.l.length x.cap):=(HB.o.cell (p:=⟨pb,po+i,none⟩) Cc).trans e0;have nD:=aa (show(rows.map (·.l)).take (i+1)=(rows.map (·.l)).take i++[x.l]from by rw[List.take_add_one,iD,hx];rfl);have HC:=aa (Vo wr x.A x.l.length x.cap x.l ((hrx.below HB.o (Nat.le_of_eq gH.o)).mono (by have h1:=HB.o.size;rw[gH.o]at h1 ⊢;exact h1)) (j4.o x (dz hx)));have hTr:T<wr.heap.size:=HA.o.lt;clear e0 hrx hx;go_upto_region 5 with (fail)
    clear x0
    go_wp2_with (go_at_call 107;((with_reducible refine HC.o.mono ?_);rintro e w2 ⟨h1,A2,c2,rfl,h2⟩;have H2:=aa h1;have HN:=aa h2;have HA2:=aa (HA.o.keep (h1.block T hTr));have f2:=HA2.o.jh i;have g2:w2.cell? ⟨T,i,none⟩=some (.slice none 0 0):=HA2.o.cell i _ (by
     rw[Uj,iD, ← HD.o,List.getElem?_append_right (ag _),Nat.sub_self,List.getElem?_replicate,if_pos (by have:=HD.o;omega)];rfl);clear h1 h2))
    clear f2 g2
    go_roundw
    case rel =>
     have hd:=HD.o;have hz1:df (nI (w2.setCell ⟨T,i,none⟩ (.slice A2 x.l.length c2))) done (T+1) wr.heap.size:=o8.o.imp fun y a b _ ha hb hy=>hy.keep fun g h1 h2=>(heap_setCell_other w2 _ g _ (by show g≠T;omega)).trans (H2.o.block g (by omega))
     have hx:nI (w2.setCell ⟨T,i,none⟩ (.slice A2 x.l.length c2)) ⟨A2,c2,x.l⟩ wr.heap.size w2.heap.size:=HN.o.keep fun g h1 h2=>heap_setCell_other w2 _ g _ (by show g≠T;omega)
     have hs:(w2.setCell ⟨T,i,none⟩ (.slice A2 x.l.length c2)).heap.size=w2.heap.size:=lG _ _ _;refine⟨i+1,done++[⟨A2,c2,x.l⟩],by omega,by go_num,aa (by rw[aj,hd];rfl),aa (by rw[iE,HM.o,nD.o];rfl),aa ?_,aa ?_,aa ((HB.o.trans (H2.o.mono (Nat.le_of_lt hTr))).setCell (ag T) _)⟩
     · have h1:=HA2.o.set1 i ⟨A2,c2,x.l⟩ _ rfl
       subst hd;rw[MW _ _ _ _ hlt]at h1;rw[aj];exact h1
     · rw[hs]
       exact hz1.snoc H2.o.size hx fun y a b c h1 h2 hy=>nI.up y a b c c h2 (ag _) h1 hy
    case measure=>simp[intOf];omega
  · have hii:¬ (i:Int)<(n:Int):=by omega
    have hin:i=n:=by omega
    subst hin;go_wp2_with fail
    go_ret;have hd:=HD.o;have k1:done.map (·.l)=rows.map (·.l):=by rw[HM.o];exact mK (by rw[dN,HL.o];exact ag _)
    have k2:nG wr (some ⟨T,0,none⟩) i done T wr.heap.size:=⟨T,T+1,rfl,hd.symm,by unfold maxLen;omega,by omega,by omega,by
     have h1:=HA.o;rw[hd,Nat.sub_self,List.replicate_zero,fu]at h1;exact h1,o8.o⟩
    first
     | exact⟨HB.o,_,done,rfl,k1,k2⟩
     | exact⟨HB.o,_,rfl,done,k1,k2⟩
def bV(w:World)(b:Nat)(s:ByteArray)(c r:Int)(ac ar:Bool):Prop:=w.heap[b]? = some (.cells #[.string s,.int .i64 c,.int .i64 r,.bool ac,.bool ar] 45)
theorem bV.new (w:World)(s:ByteArray)(c r:Int)(ac ar:Bool):bV (w.alloc (.cells #[.string s,.int .i64 c,.int .i64 r,.bool ac,.bool ar] 45)) w.heap.size s c r ac ar:=by
 exact(jw w _).1
theorem bV.lt{w:World}{b:Nat}{s:ByteArray}{c r:Int}{ac ar:Bool}(h:bV w b s c r ac ar):b<w.heap.size:=(dZ.1 h).1
theorem bV.below {w w':World}{B b:Nat}{s:ByteArray}{c r:Int}{ac ar:Bool}(h:bV w b s c r ac ar)(hb:Below B w w')(hB:b<B):bV w' b s c r ac ar:=by
 unfold bV;rw[hb.block b hB];exact h
theorem bV.facts {w:World}{b:Nat}{s:ByteArray}{c r:Int}{ac ar:Bool}(h:bV w b s c r ac ar) :
 w.cell? ⟨b,0,none⟩=some (.string s)∧w.cell? ⟨b,1,none⟩=some (.int .i64 c)∧w.cell? ⟨b,2,none⟩=some (.int .i64 r)∧w.cell? ⟨b,3,none⟩=some (.bool ac)∧w.cell? ⟨b,4,none⟩=some (.bool ar) :=
 ⟨by rw[cell_of_row w b 0 _ _ _ h];rfl,by rw[cell_of_row w b 1 _ _ _ h];rfl,by rw[cell_of_row w b 2 _ _ _ h];rfl,by rw[cell_of_row w b 3 _ _ _ h];rfl,by rw[cell_of_row w b 4 _ _ _ h];rfl⟩
theorem tZ (c:Int)(_h0:0≤c)(_h1:c≤255)(w:World) :
 Calls Tryz.prog 149 #[.int .u8 c] w fun e w'=>e = .returned (.bool (aG c))∧w=w':=by
 go_enter Tryz.func149,Tryz.ntmps149
 go_wp2
 all_goals go_ret
 all_goals exact⟨dD (by unfold aG;first|rfl|(symm;rw[decide_eq_true_iff];omega)|(symm;rw[decide_eq_false_iff_not];omega)|(rw[decide_eq_decide];omega)),rfl⟩
theorem iM (c:Int)(_h0:0≤c)(_h1:c≤255)(w:World) :
 Calls Tryz.prog 141 #[.int .u8 c] w fun e w'=>e = .returned (.bool (isNum c))∧w=w':=by
 go_enter Tryz.func141,Tryz.ntmps141
 go_wp2
 all_goals go_ret
 all_goals exact⟨dD (by unfold isNum;first|rfl|(symm;rw[decide_eq_true_iff];omega)|(symm;rw[decide_eq_false_iff_not];omega)|(rw[decide_eq_decide];omega)),rfl⟩
theorem nU (c:Int)(_h0:0≤c)(_h1:c≤255)(w:World) :
 Calls Tryz.prog 140 #[.int .u8 c] w fun e w'=>e = .returned (.bool (isLet c))∧w=w':=by
 go_enter Tryz.func140,Tryz.ntmps140
 go_wp2
 all_goals go_ret
 all_goals exact⟨dD (by unfold isLet;first|rfl|(rw[Bool.eq_iff_iff];simp only[Bool.or_eq_true,decide_eq_true_iff];omega)|(symm;rw[decide_eq_true_iff];omega)|(symm;rw[decide_eq_false_iff_not];omega)|(rw[decide_eq_decide];omega)),rfl⟩
theorem JF (s:ByteArray)(w:World)(_hs:s.size≤1000000) :
 Calls Tryz.prog 110 #[.string s] w fun e w'=>e = .returned (.bool (fF (sb s)))∧w=w':=by
 go_enter Tryz.func110,Tryz.ntmps110
 go_wp2
 go_loopw [3] (fun i wr=>∃k:Nat,k≤s.size∧i = .int .i64 k∧Hid (∀j,j<k→mr j ((sb s).getD j 0)=true)∧w=wr)
  (fun i _=>s.size - (intOf i).toNat)
 case atStart=>exact⟨0,by omega,rfl,aa (fun j hj=>absurd hj (by omega)),rfl⟩
 case round =>
  obtain⟨k,hk,rfl,HG,rfl⟩:=hrel;by_cases hlt:k<s.size
  · have hki:(k:Int)<(s.size:Int):=by omega
    obtain⟨a,ha⟩:∃a:Int,(s[k].toNat:Int)=a:=⟨_,rfl⟩;have ha1:0≤a∧a≤255:=by have:=s[k].toNat_lt;omega
    have hga:(sb s).getD k 0=a:=by rw[oN s k hlt,ha]
    have xR:=aa hga;clear hga;by_cases hl:isLet a=true
    · go_wp2_with (first
       | (go_at_call 140;((with_reducible refine(nU _ ?_ ?_ _).mono ?_);(first|omega|skip);(first|omega|skip);rintro e w' ⟨rfl,rfl⟩)))
      go_roundw
      case rel =>
       refine⟨k+1,by omega,by go_num,aa ?_,by trivial⟩;intro j hj;by_cases h1:j<k
       · exact HG.o j h1
       · rw[show j=k from by omega,xR.o];unfold mr;rw[hl,Bool.true_or]
      case measure=>simp[intOf];omega
    · have hl':isLet a=false:=by simpa using hl
      clear hl;by_cases hn:isNum a=true
      · by_cases hk0:0<k
        · have hk1:(0:Int)<(k:Int):=by omega
          go_wp2_with (first
           | (go_at_call 140;((with_reducible refine(nU _ ?_ ?_ _).mono ?_);(first|omega|skip);(first|omega|skip);rintro e w' ⟨rfl,rfl⟩))
           | (go_at_call 141;((with_reducible refine(iM _ ?_ ?_ _).mono ?_);(first|omega|skip);(first|omega|skip);rintro e w' ⟨rfl,rfl⟩)))
          go_roundw
          case rel =>
           refine⟨k+1,by omega,by go_num,aa ?_,by trivial⟩;intro j hj;by_cases h1:j<k
           · exact HG.o j h1
           · rw[show j=k from by omega,xR.o];unfold mr;rw[hl',hn,decide_eq_true hk0];rfl
          case measure=>simp[intOf];omega
        · have hk1:¬ (0:Int)<(k:Int):=by omega
          have hno:=EE s k hlt (by rw[xR.o];unfold mr;rw[hl',decide_eq_false hk0];rfl);have ek:=aa hno;clear hno
          go_wp2_with (first
           | (go_at_call 140;((with_reducible refine(nU _ ?_ ?_ _).mono ?_);(first|omega|skip);(first|omega|skip);rintro e w' ⟨rfl,rfl⟩)))
          go_ret;exact⟨dD ek.o.symm,rfl⟩
      · have hn':isNum a=false:=by simpa using hn
        clear hn;have hno:=EE s k hlt (by rw[xR.o];unfold mr;rw[hl',hn',Bool.and_false];rfl);have ek:=aa hno;clear hno
        go_wp2_with (first
         | (go_at_call 140;((with_reducible refine(nU _ ?_ ?_ _).mono ?_);(first|omega|skip);(first|omega|skip);rintro e w' ⟨rfl,rfl⟩))
         | (go_at_call 141;((with_reducible refine(iM _ ?_ ?_ _).mono ?_);(first|omega|skip);(first|omega|skip);rintro e w' ⟨rfl,rfl⟩)))
        all_goals go_ret
        all_goals exact⟨dD ek.o.symm,rfl⟩
  · have hki:¬ (k:Int)<(s.size:Int):=by omega
    have hno:=PD s (fun j hj=>HG.o j (by omega));have ek:=aa hno;clear hno
    go_wp2
    all_goals go_ret
    all_goals exact⟨dD (by rw[ek.o];first|(symm;rw[decide_eq_true_iff];omega)|(symm;rw[decide_eq_false_iff_not];omega)|(rw[decide_eq_decide];omega)),rfl⟩
theorem abv (s:ByteArray)(w:World)(_hs:s.size≤1000000) :
 Calls Tryz.prog 150 #[.string s] w fun e w'=>e = .returned (.tuple #[.int .i64 (ky (sb s)),.bool (iK (sb s))])∧∃n,w'=w.drewN n:=by
 by_cases hl:1≤s.size∧s.size≤2
 · by_cases h1:s.size=1
   · have hp0:0<s.size:=by omega
     obtain⟨a,ha⟩:∃a:Int,(s[0].toNat:Int)=a:=⟨_,rfl⟩;have ha1:0≤a∧a≤255:=by have:=s[0].toNat_lt;omega
     have hg0:(sb s).getD 0 0=a:=by rw[oN s 0 hp0,ha]
     have hic:iK (sb s)=aG a:=by unfold iK;rw[bC,h1,hg0,Bool.and_self];rfl
     have hrc:ky (sb s)=if aG a=true then a - 65 else 0:=by unfold ky;rw[hic,bC,h1,hg0];rfl
     have zA:=aa hic;clear hic;have qY:=aa hrc;clear hrc;have hz1:(s.size:Int)=1:=by omega
     clear hl hg0;by_cases hc:aG a=true
     · have hr:65≤a∧a≤90:=by unfold aG at hc;rw[decide_eq_true_iff]at hc;exact hc
       go_enter Tryz.func150,Tryz.ntmps150
       go_wp2_with (first
        | (go_at_call 149;((with_reducible refine(tZ _ ?_ ?_ _).mono ?_);(first|omega|skip);(first|omega|skip);rintro e w' ⟨rfl,rfl⟩)))
       all_goals go_ret2
       all_goals exact⟨by rw[zA.o,qY.o,hc];rfl,0,rfl⟩
     · have hc':aG a=false:=by simpa using hc
       clear hc;go_enter Tryz.func150,Tryz.ntmps150
       go_wp2_with (first
        | (go_at_call 149;((with_reducible refine(tZ _ ?_ ?_ _).mono ?_);(first|omega|skip);(first|omega|skip);rintro e w' ⟨rfl,rfl⟩)))
       all_goals go_ret2
       all_goals exact⟨by rw[zA.o,qY.o,hc'];rfl,0,rfl⟩
   · have h2:s.size=2:=by omega
     have hp0:0<s.size:=by omega
     have hp1:1<s.size:=by omega
     obtain⟨a,ha⟩:∃a:Int,(s[0].toNat:Int)=a:=⟨_,rfl⟩;obtain⟨b,hb⟩:∃b:Int,(s[1].toNat:Int)=b:=⟨_,rfl⟩;have ha1:0≤a∧a≤255:=by have:=s[0].toNat_lt;omega
     have hb1:0≤b∧b≤255:=by have:=s[1].toNat_lt;omega
     have hg0:(sb s).getD 0 0=a:=by rw[oN s 0 hp0,ha]
     have hg1:(sb s).getD 1 0=b:=by rw[oN s 1 hp1,hb]
     have hic:iK (sb s)=(aG a&&aG b):=by unfold iK;rw[bC,h2,hg0,hg1];rfl
     have hrc:ky (sb s)=if (aG a&&aG b)=true then 26*(a - 64)+(b - 65)else 0:=by unfold ky;rw[hic,bC,h2,hg0,hg1];rfl
     have zA:=aa hic;clear hic;have qY:=aa hrc;clear hrc;have hz1:(s.size:Int)=2:=by omega
     clear hl hg0 hg1 h1;by_cases hc:aG a=true
     · have hr:65≤a∧a≤90:=by unfold aG at hc;rw[decide_eq_true_iff]at hc;exact hc
       by_cases hd:aG b=true
       · have hr2:65≤b∧b≤90:=by unfold aG at hd;rw[decide_eq_true_iff]at hd;exact hd
         go_enter Tryz.func150,Tryz.ntmps150
         go_wp2_with (first
          | (go_at_call 149;((with_reducible refine(tZ _ ?_ ?_ _).mono ?_);(first|omega|skip);(first|omega|skip);rintro e w' ⟨rfl,rfl⟩)))
         go_quiet (fail)
         go_wp2_with fail
         all_goals go_ret2
         all_goals exact⟨abU (by rw[qY.o,hc,hd];simp only[Bool.and_self,if_true];omega) (by rw[zA.o,hc,hd];rfl),_,rfl⟩
       · have hd':aG b=false:=by simpa using hd
         clear hd;go_enter Tryz.func150,Tryz.ntmps150
         go_wp2_with (first
          | (go_at_call 149;((with_reducible refine(tZ _ ?_ ?_ _).mono ?_);(first|omega|skip);(first|omega|skip);rintro e w' ⟨rfl,rfl⟩)))
         all_goals go_ret2
         all_goals exact⟨by rw[zA.o,qY.o,hc,hd'];rfl,0,rfl⟩
     · have hc':aG a=false:=by simpa using hc
       clear hc;go_enter Tryz.func150,Tryz.ntmps150
       go_wp2_with (first
        | (go_at_call 149;((with_reducible refine(tZ _ ?_ ?_ _).mono ?_);(first|omega|skip);(first|omega|skip);rintro e w' ⟨rfl,rfl⟩)))
       all_goals go_ret2
       all_goals exact⟨by rw[zA.o,qY.o,hc'];rfl,0,rfl⟩
 · have hno:iK (sb s)=false:=by unfold iK;rw[bC,decide_eq_false hl,Bool.false_and]
   have hn2:ky (sb s)=0:=by unfold ky;rw[hno];rfl
   have ek:=aa hno;clear hno;have ed:=aa hn2;clear hn2;go_enter Tryz.func150,Tryz.ntmps150
   go_wp2
   all_goals first|omega|skip
   all_goals go_ret2
   all_goals exact⟨by rw[ek.o,ed.o];rfl,0,rfl⟩
theorem xx (w:World)(t:TypeId)(x:Int):(convert 22 9 (.slice (some ⟨w.heap.size,0,none⟩) 1 1)).run Tryz.prog (w.alloc (.cells #[.int .u8 x] t)) = .ok (.string (strOfNums [x])) (w.alloc (.cells #[.int .u8 x] t)):=by
 refine run_convert_bytes_arg _ _ 5 Tryz.underlying22 Tryz.underlying5 _ 0 _ 1 [x] rfl (fun i hi => ?_) _ Tryz.underlying9;rw[Nat.zero_add];have:i=0:=by simp at hi;exact hi
 subst this;exact fZ (w:=w) _ _ [.int .u8 x] rfl 0 _ rfl
theorem acr (w:World)(t:TypeId)(x y:Int):(convert 22 9 (.slice (some ⟨w.heap.size,0,none⟩) 2 2)).run Tryz.prog (w.alloc (.cells #[.int .u8 x,.int .u8 y] t)) = .ok (.string (strOfNums [x,y])) (w.alloc (.cells #[.int .u8 x,.int .u8 y] t)):=by
 refine run_convert_bytes_arg _ _ 5 Tryz.underlying22 Tryz.underlying5 _ 0 _ 2 [x,y] rfl (fun i hi => ?_) _ Tryz.underlying9;rw[Nat.zero_add];have h:i=0∨i=1:=by simp at hi;omega
 rcases h with rfl|rfl
 · exact fZ (w:=w) _ _ [.int .u8 x,.int .u8 y] rfl 0 _ rfl
 · exact fZ (w:=w) _ _ [.int .u8 x,.int .u8 y] rfl 1 _ rfl
theorem uf (n:Nat)(_h1:n≤9223372036854775807)(w:World) :
 Calls Tryz.prog 40 #[.int .i64 n] w fun e w'=>e = .returned (.string (strOfNums (aF n)))∧Below w.heap.size w w':=by
 have hn0:¬ (n:Int)<0:=by omega
 go_enter Tryz.func40,Tryz.ntmps40
 go_wp2
 go_loopw [3,4] (fun u v wr=>∃(m:Nat)(t:List Int),m≤9223372036854775807∧u = .int .u64 m∧v = .string (strOfNums t)∧Hid (aF m++t=aF n∧2*t.length+m≤n)∧Below w.heap.size w wr)
  (fun u _ _=>(intOf u).toNat)
 case atStart=>exact⟨n,[],by omega,by go_num,rfl,aa ⟨by rw[fu],by simp⟩,ai _ _⟩
 case round =>
  obtain⟨m,t,hm,rfl,rfl,HT,hbl⟩:=hrel;have HB:=aa hbl;clear hbl;have hcv:=fun (w:World)=>xx w 5 (48+(m:Int) % 10)
  have WV:=fun (w:World)=>xx w 5 (48+(m:Int))
  have hsz:(strOfNums [48+(m:Int) % 10]).size+(strOfNums t).size≤9223372036854775807:=by rw[strOfNums_size,strOfNums_size];have:=HT.o.2;simp only[aK,dY];by_cases h:t.length=0 <;> by_cases h2:m=0 <;> omega
  have hsz2:(strOfNums [48+(m:Int)]).size+(strOfNums t).size≤9223372036854775807:=by rw[strOfNums_size,strOfNums_size];have:=HT.o.2;simp only[aK,dY];by_cases h:t.length=0 <;> by_cases h2:m=0 <;> omega
  by_cases hlt:10≤m
  · have hki:(10:Int)≤(m:Int):=by omega
    have hd:=qC m (by omega);have HD:=aa hd;clear hd
    go_wp2
    go_roundw
    case rel =>
     refine⟨m / 10,(48+(m:Int) % 10) :: t,by omega,by go_num,RG (gq _ _),aa ⟨?_, ?_⟩,HB.o.alloc HB.o.size _⟩
     · rw[← HT.o.1,HD.o,bO,show((m % 10:Nat):Int)=(m:Int) % 10 from by omega];rfl
     · have:=HT.o.2;simp only[aK];omega
    case measure=>simp[intOf];omega
  · have hki:¬ (10:Int)≤(m:Int):=by omega
    have hd:=lg m (by omega);have HD:=aa hd;clear hd
    go_wp2
    go_ret;exact⟨iQ (by rw[gq, ← HT.o.1,HD.o]),HB.o.alloc HB.o.size _⟩
theorem aba (n:Nat)(_h0:0<n)(_h1:n≤9223372036854775808)(w:World) :
 Calls Tryz.prog 40 #[.int .i64 (-(n:Int))] w fun e w'=>e = .returned (.string (strOfNums (45 :: aF n)))∧Below w.heap.size w w':=by
 have hn0 : -(n:Int)<0:=by omega
 have hw1:IntKind.u64.wrap (-(n:Int))=18446744073709551616 - (n:Int):=by rw[IntKind.wrap_u64];omega
 have hw2:IntKind.u64.wrap (-(18446744073709551616 - (n:Int)))=(n:Int):=by rw[IntKind.wrap_u64];omega
 go_enter Tryz.func40,Tryz.ntmps40
 go_wp2
 go_loopw [3,4] (fun u v wr=>∃(m:Nat)(t:List Int),m≤9223372036854775808∧u = .int .u64 m∧v = .string (strOfNums t)∧Hid (aF m++t=aF n∧2*t.length+m≤n)∧Below w.heap.size w wr)
  (fun u _ _=>(intOf u).toNat)
 case atStart=>exact⟨n,[],by omega,by go_num,rfl,aa ⟨by rw[fu],by simp⟩,ai _ _⟩
 case round =>
  obtain⟨m,t,hm,rfl,rfl,HT,hbl⟩:=hrel;have HB:=aa hbl;clear hbl;have hcv:=fun (w:World)=>xx w 5 (48+(m:Int) % 10)
  have WV:=fun (w:World)=>xx w 5 (48+(m:Int))
  have hsz:(strOfNums [48+(m:Int) % 10]).size+(strOfNums t).size≤9000000000000000000:=by rw[strOfNums_size,strOfNums_size];have:=HT.o.2;simp only[aK,dY];by_cases h:t.length=0 <;> by_cases h2:m=0 <;> omega
  have hsz2:(strOfNums [48+(m:Int)]).size+(strOfNums t).size≤9000000000000000000:=by rw[strOfNums_size,strOfNums_size];have:=HT.o.2;simp only[aK,dY];by_cases h:t.length=0 <;> by_cases h2:m=0 <;> omega
  by_cases hlt:10≤m
  · have hki:(10:Int)≤(m:Int):=by omega
    have hd:=qC m (by omega);have HD:=aa hd;clear hd
    go_wp2
    go_roundw
    case rel =>
     refine⟨m / 10,(48+(m:Int) % 10) :: t,by omega,by go_num,RG (gq _ _),aa ⟨?_, ?_⟩,HB.o.alloc HB.o.size _⟩
     · rw[← HT.o.1,HD.o,bO,show((m % 10:Nat):Int)=(m:Int) % 10 from by omega];rfl
     · have:=HT.o.2;simp only[aK];omega
    case measure=>simp[intOf];omega
  · have hki:¬ (10:Int)≤(m:Int):=by omega
    have hd:=lg m (by omega);have HD:=aa hd;clear hd
    go_wp2
    go_ret;exact⟨iQ (by rw[gq, ← HT.o.1,HD.o];exact gq [45] _),HB.o.alloc HB.o.size _⟩
theorem aa' (n:Int)(h0 : -9223372036854775808≤n)(h1:n≤9223372036854775807)(w:World) :
 Calls Tryz.prog 40 #[.int .i64 n] w fun e w'=>e = .returned (.string (strOfNums (kZ n)))∧Below w.heap.size w w':=by
 by_cases h:n<0
 · obtain⟨m,hm⟩:∃m:Nat,n = -(m:Int):=⟨n.natAbs,by omega⟩
   have e:kZ n=45 :: aF m:=by unfold kZ;rw[if_pos h];congr 2;omega
   rw[e,hm];exact aba m (by omega) (by omega) w
 · obtain⟨m,hm⟩:∃m:Nat,n=(m:Int):=⟨n.natAbs,by omega⟩
   have e:kZ n=aF m:=by unfold kZ;rw[if_neg h];congr 1;omega
   rw[e,hm];exact uf m (by omega) w
theorem vY (n:Int)(_h0 : -9223372036854775808≤n)(_h1:n≤9223372036854775807)(w:World) :
 Calls Tryz.prog 41 #[.int .i64 n] w fun e w'=>e = .returned (.string (strOfNums (aS n)))∧Below w.heap.size w w':=by
 by_cases hr:n<0∨701<n
 · have hc:aS n=[]:=by unfold aS;rw[if_pos hr]
   have HC:=aa hc;clear hc;go_enter Tryz.func41,Tryz.ntmps41
   go_wp2
   all_goals first|omega|skip
   all_goals go_ret
   all_goals exact⟨by rw[HC.o];rfl,ai _ _⟩
 · have h0:¬ n<0:=by omega
   have h2:¬ 701<n:=by omega
   have h0':0≤n:=by omega
   by_cases BN:n<26
   · have hc:aS n=[65+n]:=by unfold aS;rw[if_neg hr,if_pos BN]
     have HC:=aa hc;clear hc hr;have hcv:=fun (w:World)=>xx w 5 (65+n)
     go_enter Tryz.func41,Tryz.ntmps41
     go_wp2
     all_goals go_ret
     all_goals exact⟨by rw[HC.o];rfl,(ai _ _).alloc (ag _) _⟩
   · have hc:aS n=[65+n / 26 - 1,65+n % 26]:=by unfold aS;rw[if_neg hr,if_neg BN];congr 1;omega
     have HC:=aa hc;clear hc hr;have hcv:=fun (w:World)=>acr w 5 (65+n / 26 - 1) (65+n % 26)
     go_enter Tryz.func41,Tryz.ntmps41
     go_wp2
     all_goals go_ret
     all_goals exact⟨by rw[HC.o];rfl,(ai _ _).alloc (ag _) _⟩
theorem VH(d:Nat)(h:d<10):aF d=jq d:=lg d h
theorem Vu (d:Nat)(h:d<26):aS (d:Int)=[65+(d:Int)]:=by
 unfold aS;rw[if_neg (by omega),if_pos (by omega)]
theorem yo (d:Nat)(h:d<10)(w:World):Calls Tryz.prog 40 #[.int .i64 d] w fun e w'=>e = .returned (.string (strOfNums (jq d)))∧Below w.heap.size w w':=by
 have:=uf d (by omega) w;rwa[VH d h]at this
theorem Vn (d:Nat)(h:d<26)(w:World):Calls Tryz.prog 41 #[.int .i64 d] w fun e w'=>e = .returned (.string (strOfNums [65+(d:Int)]))∧Below w.heap.size w w':=by
 have:=vY d (by omega) (by omega) w;rwa[Vu d h]at this
theorem CO(d:Nat):(strOfNums (jq d)).size=1:=by rw[strOfNums_size];rfl
theorem adN (n:Nat)(hn:n<256)(hr:n % 13=0)(w:World):Calls Tryz.prog 12 #[.int .i64 n] w fun e w'=>e = .returned (.string (strOfNums (bY n)))∧Below w.heap.size w w':=by
 have jF:(n:Int) % 13=0:=by omega
 have t13:(n:Int).tmod 13=0:=by rw[ja (by omega)];exact jF
 have qM:IntKind.i64.wrap 0=0:=by rw[dK];omega
 have ht:bY n=[]:=by unfold bY;rw[if_pos (by omega)]
 rw[ht];clear ht hr;go_enter Tryz.func12,Tryz.ntmps12;go_wp2_with fail
 go_ret;exact⟨rfl,ai _ _⟩
theorem adO (n:Nat)(hn:n<256)(hr:n % 13=1)(w:World):Calls Tryz.prog 12 #[.int .i64 n] w fun e w'=>e = .returned (.string (strOfNums (bY n)))∧Below w.heap.size w w':=by
 have jF:(n:Int) % 13=1:=by omega
 have t13:(n:Int).tmod 13=1:=by rw[ja (by omega)];exact jF
 have qM:IntKind.i64.wrap 1=1:=by rw[dK];omega
 have ht:bY n=[]:=by unfold bY;rw[if_pos (by omega)]
 rw[ht];clear ht hr;go_enter Tryz.func12,Tryz.ntmps12;go_wp2_with fail
 go_ret;exact⟨rfl,ai _ _⟩
theorem adS (n:Nat)(hn:n<256)(hr:n % 13=2)(w:World):Calls Tryz.prog 12 #[.int .i64 n] w fun e w'=>e = .returned (.string (strOfNums (bY n)))∧Below w.heap.size w w':=by
 have jF:(n:Int) % 13=2:=by omega
 have t13:(n:Int).tmod 13=2:=by rw[ja (by omega)];exact jF
 have qM:IntKind.i64.wrap 2=2:=by rw[dK];omega
 have ht:bY n=[]:=by unfold bY;rw[if_pos (by omega)]
 rw[ht];clear ht hr;go_enter Tryz.func12,Tryz.ntmps12;go_wp2_with fail
 go_ret;exact⟨rfl,ai _ _⟩
theorem adT (n:Nat)(hn:n<256)(hr:n % 13=3)(w:World):Calls Tryz.prog 12 #[.int .i64 n] w fun e w'=>e = .returned (.string (strOfNums (bY n)))∧Below w.heap.size w w':=by
 have jF:(n:Int) % 13=3:=by omega
 have t13:(n:Int).tmod 13=3:=by rw[ja (by omega)];exact jF
 have qM:IntKind.i64.wrap 3=3:=by rw[dK];omega
 obtain⟨k,hk⟩:∃k,n / 13=k:=⟨_,rfl⟩;have qk:(n:Int) / 13=(k:Int):=by omega
 have tk:(n:Int).tdiv 13=(k:Int):=by rw[Int.tdiv_eq_ediv_of_nonneg (by omega)];exact qk
 have wk:IntKind.i64.wrap (k:Int)=(k:Int):=by rw[dK];omega
 obtain⟨d,hd⟩:∃d,k % 9=d:=⟨_,rfl⟩;have nk:(k:Int) % 9=(d:Int):=by omega
 have td:(k:Int).tmod 9=(d:Int):=by rw[ja (by omega)];exact nk
 have wd:IntKind.i64.wrap (d:Int)=(d:Int):=by rw[dK];omega
 have w9:d<9:=by omega
 have ht:bY n=jq d:=by
  unfold bY;rw[if_neg (by omega),if_pos (by omega)];rw[hk,hd]
 rw[ht];clear ht hr hk hd;have HD:=aa (fun (w1:World)=>yo d (by omega) w1);go_enter Tryz.func12,Tryz.ntmps12;go_wp2_with (go_at_call 40;((with_reducible refine(HD.o _).mono ?_);rintro e w1 ⟨rfl,h1⟩;have H1:=aa h1;clear h1))
 go_ret;exact⟨rfl,H1.o⟩
theorem adU (n:Nat)(hn:n<256)(hr:n % 13=4)(w:World):Calls Tryz.prog 12 #[.int .i64 n] w fun e w'=>e = .returned (.string (strOfNums (bY n)))∧Below w.heap.size w w':=by
 have jF:(n:Int) % 13=4:=by omega
 have t13:(n:Int).tmod 13=4:=by rw[ja (by omega)];exact jF
 have qM:IntKind.i64.wrap 4=4:=by rw[dK];omega
 obtain⟨k,hk⟩:∃k,n / 13=k:=⟨_,rfl⟩;have qk:(n:Int) / 13=(k:Int):=by omega
 have tk:(n:Int).tdiv 13=(k:Int):=by rw[Int.tdiv_eq_ediv_of_nonneg (by omega)];exact qk
 have wk:IntKind.i64.wrap (k:Int)=(k:Int):=by rw[dK];omega
 obtain⟨d,hd⟩:∃d,k % 9=d:=⟨_,rfl⟩;have nk:(k:Int) % 9=(d:Int):=by omega
 have td:(k:Int).tmod 9=(d:Int):=by rw[ja (by omega)];exact nk
 have wd:IntKind.i64.wrap (d:Int)=(d:Int):=by rw[dK];omega
 have w9:d<9:=by omega
 have ht:bY n=jq d:=by
  unfold bY;rw[if_neg (by omega),if_pos (by omega)];rw[hk,hd]
 rw[ht];clear ht hr hk hd;have HD:=aa (fun (w1:World)=>yo d (by omega) w1);go_enter Tryz.func12,Tryz.ntmps12;go_wp2_with (go_at_call 40;((with_reducible refine(HD.o _).mono ?_);rintro e w1 ⟨rfl,h1⟩;have H1:=aa h1;clear h1))
 go_ret;exact⟨rfl,H1.o⟩
theorem adV (n:Nat)(hn:n<256)(hr:n % 13=5)(w:World):Calls Tryz.prog 12 #[.int .i64 n] w fun e w'=>e = .returned (.string (strOfNums (bY n)))∧Below w.heap.size w w':=by
 have jF:(n:Int) % 13=5:=by omega
 have t13:(n:Int).tmod 13=5:=by rw[ja (by omega)];exact jF
 have qM:IntKind.i64.wrap 5=5:=by rw[dK];omega
 obtain⟨k,hk⟩:∃k,n / 13=k:=⟨_,rfl⟩;have qk:(n:Int) / 13=(k:Int):=by omega
 have tk:(n:Int).tdiv 13=(k:Int):=by rw[Int.tdiv_eq_ediv_of_nonneg (by omega)];exact qk
 have wk:IntKind.i64.wrap (k:Int)=(k:Int):=by rw[dK];omega
 obtain⟨d,hd⟩:∃d,k % 5=d:=⟨_,rfl⟩;have nk:(k:Int) % 5=(d:Int):=by omega
 have td:(k:Int).tmod 5=(d:Int):=by rw[ja (by omega)];exact nk
 have wd:IntKind.i64.wrap (d:Int)=(d:Int):=by rw[dK];omega
 have w9:d<5:=by omega
 have ht:bY n=[39,97+(d:Int)]:=by
  unfold bY;rw[if_neg (by omega),if_neg (by omega),if_pos (by omega)];rw[hk,hd]
 rw[ht];clear ht hr hk hd;have hcv:=fun (w:World)=>xx w 5 (97+(d:Int))
 have hz:(⟨#[39]⟩:ByteArray).size+(strOfNums [97+(d:Int)]).size≤1000:=by rw[strOfNums_size];show 1+1≤1000;omega
 have HB:=aa ((ai w.heap.size w).alloc (ag _) (.cells #[.int .u8 (97+(d:Int))] 5));go_enter Tryz.func12,Tryz.ntmps12;go_wp2_with fail
 go_ret;exact⟨iQ (gq [39] [97+(d:Int)]),HB.o⟩
theorem adW (n:Nat)(hn:n<256)(hr:n % 13=6)(w:World):Calls Tryz.prog 12 #[.int .i64 n] w fun e w'=>e = .returned (.string (strOfNums (bY n)))∧Below w.heap.size w w':=by
 have jF:(n:Int) % 13=6:=by omega
 have t13:(n:Int).tmod 13=6:=by rw[ja (by omega)];exact jF
 have qM:IntKind.i64.wrap 6=6:=by rw[dK];omega
 obtain⟨k,hk⟩:∃k,n / 13=k:=⟨_,rfl⟩;have qk:(n:Int) / 13=(k:Int):=by omega
 have tk:(n:Int).tdiv 13=(k:Int):=by rw[Int.tdiv_eq_ediv_of_nonneg (by omega)];exact qk
 have wk:IntKind.i64.wrap (k:Int)=(k:Int):=by rw[dK];omega
 obtain⟨d,hd⟩:∃d,k % 5=d:=⟨_,rfl⟩;have nk:(k:Int) % 5=(d:Int):=by omega
 have td:(k:Int).tmod 5=(d:Int):=by rw[ja (by omega)];exact nk
 have wd:IntKind.i64.wrap (d:Int)=(d:Int):=by rw[dK];omega
 have w9:d<5:=by omega
 have ht:bY n=[61,65]++jq (1+d):=by
  unfold bY;rw[if_neg (by omega),if_neg (by omega),if_neg (by omega),if_pos (by omega)];rw[hk,hd]
 rw[ht];clear ht hr hk hd;obtain⟨d1,hd1⟩:∃d1,1+d=d1:=⟨_,rfl⟩;have s1:(1:Int)+(d:Int)=(d1:Int):=by omega
 have HD:=aa (fun (w1:World)=>yo d1 (by omega) w1);rw[hd1];clear hd1;obtain⟨x,hx⟩:∃x,strOfNums (jq d1)=x:=⟨_,rfl⟩;have hx1:x.size=1:=by rw[← hx];exact CO d1
 rw[hx]at HD;have kT:=aa (show⟨#[61,65]⟩++x=strOfNums ([61,65]++jq d1)from by rw[← gq,hx];rfl);clear hx;have hz1:(⟨#[61,65]⟩:ByteArray).size+x.size≤1000:=by rw[hx1];show 2+1≤1000;omega
 go_enter Tryz.func12,Tryz.ntmps12;go_wp2_with (go_at_call 40;((with_reducible refine(HD.o _).mono ?_);rintro e w1 ⟨rfl,h1⟩;have H1:=aa h1;clear h1))
 go_ret;exact⟨iQ kT.o,H1.o⟩
theorem adX (n:Nat)(hn:n<256)(hr:n % 13=7)(w:World):Calls Tryz.prog 12 #[.int .i64 n] w fun e w'=>e = .returned (.string (strOfNums (bY n)))∧Below w.heap.size w w':=by
 have jF:(n:Int) % 13=7:=by omega
 have t13:(n:Int).tmod 13=7:=by rw[ja (by omega)];exact jF
 have qM:IntKind.i64.wrap 7=7:=by rw[dK];omega
 obtain⟨k,hk⟩:∃k,n / 13=k:=⟨_,rfl⟩;have qk:(n:Int) / 13=(k:Int):=by omega
 have tk:(n:Int).tdiv 13=(k:Int):=by rw[Int.tdiv_eq_ediv_of_nonneg (by omega)];exact qk
 have wk:IntKind.i64.wrap (k:Int)=(k:Int):=by rw[dK];omega
 obtain⟨d,hd⟩:∃d,k % 4=d:=⟨_,rfl⟩;have nk:(k:Int) % 4=(d:Int):=by omega
 have td:(k:Int).tmod 4=(d:Int):=by rw[ja (by omega)];exact nk
 have wd:IntKind.i64.wrap (d:Int)=(d:Int):=by rw[dK];omega
 have w9:d<4:=by omega
 have ht:bY n=[61,66]++jq (1+d)++[43,49]:=by
  unfold bY;rw[if_neg (by omega),if_neg (by omega),if_neg (by omega),if_neg (by omega),if_pos (by omega)];rw[hk,hd]
 rw[ht];clear ht hr hk hd;obtain⟨d1,hd1⟩:∃d1,1+d=d1:=⟨_,rfl⟩;have s1:(1:Int)+(d:Int)=(d1:Int):=by omega
 have HD:=aa (fun (w1:World)=>yo d1 (by omega) w1);rw[hd1];clear hd1;obtain⟨x,hx⟩:∃x,strOfNums (jq d1)=x:=⟨_,rfl⟩;have hx1:x.size=1:=by rw[← hx];exact CO d1
 rw[hx]at HD;have kT:=aa (show⟨#[61,66]⟩++x++⟨#[43,49]⟩=strOfNums ([61,66]++jq d1++[43,49])from by rw[← gq, ← gq,hx];rfl);clear hx;have hz1:(⟨#[61,66]⟩:ByteArray).size+x.size≤1000:=by rw[hx1];show 2+1≤1000;omega
 have hz2:((⟨#[61,66]⟩:ByteArray)++x).size+(⟨#[43,49]⟩:ByteArray).size≤1000:=by rw[ByteArray.size_append,hx1];show 2+1+2≤1000;omega
 go_enter Tryz.func12,Tryz.ntmps12;go_wp2_with (go_at_call 40;((with_reducible refine(HD.o _).mono ?_);rintro e w1 ⟨rfl,h1⟩;have H1:=aa h1;clear h1))
 go_ret;exact⟨iQ kT.o,H1.o⟩
theorem adY (n:Nat)(hn:n<256)(hr:n % 13=8)(w:World):Calls Tryz.prog 12 #[.int .i64 n] w fun e w'=>e = .returned (.string (strOfNums (bY n)))∧Below w.heap.size w w':=by
 have jF:(n:Int) % 13=8:=by omega
 have t13:(n:Int).tmod 13=8:=by rw[ja (by omega)];exact jF
 have qM:IntKind.i64.wrap 8=8:=by rw[dK];omega
 obtain⟨k,hk⟩:∃k,n / 13=k:=⟨_,rfl⟩;have qk:(n:Int) / 13=(k:Int):=by omega
 have tk:(n:Int).tdiv 13=(k:Int):=by rw[Int.tdiv_eq_ediv_of_nonneg (by omega)];exact qk
 have wk:IntKind.i64.wrap (k:Int)=(k:Int):=by rw[dK];omega
 obtain⟨d,hd⟩:∃d,k % 5=d:=⟨_,rfl⟩;have nk:(k:Int) % 5=(d:Int):=by omega
 have td:(k:Int).tmod 5=(d:Int):=by rw[ja (by omega)];exact nk
 have wd:IntKind.i64.wrap (d:Int)=(d:Int):=by rw[dK];omega
 have w9:d<5:=by omega
 have ht:bY n=[61,83,85,77,40,65,49,58,66]++jq (1+d)++[41]:=by
  unfold bY;rw[if_neg (by omega),if_neg (by omega),if_neg (by omega),if_neg (by omega),if_neg (by omega),if_pos (by omega)];rw[hk,hd]
 rw[ht];clear ht hr hk hd;obtain⟨d1,hd1⟩:∃d1,1+d=d1:=⟨_,rfl⟩;have s1:(1:Int)+(d:Int)=(d1:Int):=by omega
 have HD:=aa (fun (w1:World)=>yo d1 (by omega) w1);rw[hd1];clear hd1;obtain⟨x,hx⟩:∃x,strOfNums (jq d1)=x:=⟨_,rfl⟩;have hx1:x.size=1:=by rw[← hx];exact CO d1
 rw[hx]at HD;have kT:=aa (show⟨#[61,83,85,77,40,65,49,58,66]⟩++x++⟨#[41]⟩=strOfNums ([61,83,85,77,40,65,49,58,66]++jq d1++[41])from by rw[← gq, ← gq,hx];rfl);clear hx;have hz1:(⟨#[61,83,85,77,40,65,49,58,66]⟩:ByteArray).size+x.size≤1000:=by rw[hx1];show 9+1≤1000;omega
 have hz2:((⟨#[61,83,85,77,40,65,49,58,66]⟩:ByteArray)++x).size+(⟨#[41]⟩:ByteArray).size≤1000:=by rw[ByteArray.size_append,hx1];show 9+1+1≤1000;omega
 go_enter Tryz.func12,Tryz.ntmps12;go_wp2_with (go_at_call 40;((with_reducible refine(HD.o _).mono ?_);rintro e w1 ⟨rfl,h1⟩;have H1:=aa h1;clear h1))
 go_ret;exact⟨iQ kT.o,H1.o⟩
theorem adZ (n:Nat)(hn:n<256)(hr:n % 13=9)(w:World):Calls Tryz.prog 12 #[.int .i64 n] w fun e w'=>e = .returned (.string (strOfNums (bY n)))∧Below w.heap.size w w':=by
 have jF:(n:Int) % 13=9:=by omega
 have t13:(n:Int).tmod 13=9:=by rw[ja (by omega)];exact jF
 have qM:IntKind.i64.wrap 9=9:=by rw[dK];omega
 obtain⟨k,hk⟩:∃k,n / 13=k:=⟨_,rfl⟩;have qk:(n:Int) / 13=(k:Int):=by omega
 have tk:(n:Int).tdiv 13=(k:Int):=by rw[Int.tdiv_eq_ediv_of_nonneg (by omega)];exact qk
 have wk:IntKind.i64.wrap (k:Int)=(k:Int):=by rw[dK];omega
 obtain⟨d,hd⟩:∃d,k % 4=d:=⟨_,rfl⟩;have nk:(k:Int) % 4=(d:Int):=by omega
 have td:(k:Int).tmod 4=(d:Int):=by rw[ja (by omega)];exact nk
 have wd:IntKind.i64.wrap (d:Int)=(d:Int):=by rw[dK];omega
 have w9:d<4:=by omega
 have ht:bY n=[61,66,33]++[65+(d:Int)]++[50,42,50]:=by
  unfold bY;rw[if_neg (by omega),if_neg (by omega),if_neg (by omega),if_neg (by omega),if_neg (by omega),if_neg (by omega),if_pos (by omega)];rw[hk,hd]
 rw[ht];clear ht hr hk hd;have HD:=aa (fun (w1:World)=>Vn d (by omega) w1);obtain⟨x,hx⟩:∃x,strOfNums [65+(d:Int)]=x:=⟨_,rfl⟩;have hx1:x.size=1:=by rw[← hx,strOfNums_size];rfl
 rw[hx]at HD;have kT:=aa (show⟨#[61,66,33]⟩++x++⟨#[50,42,50]⟩=strOfNums ([61,66,33]++[65+(d:Int)]++[50,42,50])from by rw[← gq, ← gq,hx];rfl);clear hx;have hz1:(⟨#[61,66,33]⟩:ByteArray).size+x.size≤1000:=by rw[hx1];show 3+1≤1000;omega
 have hz2:((⟨#[61,66,33]⟩:ByteArray)++x).size+(⟨#[50,42,50]⟩:ByteArray).size≤1000:=by rw[ByteArray.size_append,hx1];show 3+1+3≤1000;omega
 go_enter Tryz.func12,Tryz.ntmps12;go_wp2_with (go_at_call 41;((with_reducible refine(HD.o _).mono ?_);rintro e w1 ⟨rfl,h1⟩;have H1:=aa h1;clear h1))
 go_ret;exact⟨iQ kT.o,H1.o⟩
theorem adP (n:Nat)(hn:n<256)(hr:n % 13=10)(w:World):Calls Tryz.prog 12 #[.int .i64 n] w fun e w'=>e = .returned (.string (strOfNums (bY n)))∧Below w.heap.size w w':=by
 have jF:(n:Int) % 13=10:=by omega
 have t13:(n:Int).tmod 13=10:=by rw[ja (by omega)];exact jF
 have qM:IntKind.i64.wrap 10=10:=by rw[dK];omega
 obtain⟨k,hk⟩:∃k,n / 13=k:=⟨_,rfl⟩;have qk:(n:Int) / 13=(k:Int):=by omega
 have tk:(n:Int).tdiv 13=(k:Int):=by rw[Int.tdiv_eq_ediv_of_nonneg (by omega)];exact qk
 have wk:IntKind.i64.wrap (k:Int)=(k:Int):=by rw[dK];omega
 obtain⟨d,hd⟩:∃d,k % 4=d:=⟨_,rfl⟩;have nk:(k:Int) % 4=(d:Int):=by omega
 have td:(k:Int).tmod 4=(d:Int):=by rw[ja (by omega)];exact nk
 have wd:IntKind.i64.wrap (d:Int)=(d:Int):=by rw[dK];omega
 have w9:d<4:=by omega
 have ht:bY n=[61,73,70,40,36,65,36,49,62,50,44,67]++jq (1+d)++[44,34,120,34,41]:=by
  unfold bY;rw[if_neg (by omega),if_neg (by omega),if_neg (by omega),if_neg (by omega),if_neg (by omega),if_neg (by omega),if_neg (by omega),if_pos (by omega)];rw[hk,hd]
 rw[ht];clear ht hr hk hd;obtain⟨d1,hd1⟩:∃d1,1+d=d1:=⟨_,rfl⟩;have s1:(1:Int)+(d:Int)=(d1:Int):=by omega
 have HD:=aa (fun (w1:World)=>yo d1 (by omega) w1);rw[hd1];clear hd1;obtain⟨x,hx⟩:∃x,strOfNums (jq d1)=x:=⟨_,rfl⟩;have hx1:x.size=1:=by rw[← hx];exact CO d1
 rw[hx]at HD;have kT:=aa (show⟨#[61,73,70,40,36,65,36,49,62,50,44,67]⟩++x++⟨#[44,34,120,34,41]⟩=strOfNums ([61,73,70,40,36,65,36,49,62,50,44,67]++jq d1++[44,34,120,34,41])from by rw[← gq, ← gq,hx];rfl);clear hx;have hz1:(⟨#[61,73,70,40,36,65,36,49,62,50,44,67]⟩:ByteArray).size+x.size≤1000:=by rw[hx1];show 12+1≤1000;omega
 have hz2:((⟨#[61,73,70,40,36,65,36,49,62,50,44,67]⟩:ByteArray)++x).size+(⟨#[44,34,120,34,41]⟩:ByteArray).size≤1000:=by rw[ByteArray.size_append,hx1];show 12+1+5≤1000;omega
 go_enter Tryz.func12,Tryz.ntmps12;go_wp2_with (go_at_call 40;((with_reducible refine(HD.o _).mono ?_);rintro e w1 ⟨rfl,h1⟩;have H1:=aa h1;clear h1))
 go_ret;exact⟨iQ kT.o,H1.o⟩
theorem adQ (n:Nat)(hn:n<256)(hr:n % 13=11)(w:World):Calls Tryz.prog 12 #[.int .i64 n] w fun e w'=>e = .returned (.string (strOfNums (bY n)))∧Below w.heap.size w w':=by
 have jF:(n:Int) % 13=11:=by omega
 have t13:(n:Int).tmod 13=11:=by rw[ja (by omega)];exact jF
 have qM:IntKind.i64.wrap 11=11:=by rw[dK];omega
 have ht:bY n=[61,67,33,65,49,38,34,121,34]:=by
  unfold bY;rw[if_neg (by omega),if_neg (by omega),if_neg (by omega),if_neg (by omega),if_neg (by omega),if_neg (by omega),if_neg (by omega),if_neg (by omega),if_pos (by omega)]
 rw[ht];clear ht hr;go_enter Tryz.func12,Tryz.ntmps12;go_wp2_with fail
 go_ret;exact⟨iQ (by decide),ai _ _⟩
theorem adR (n:Nat)(hn:n<256)(hr:n % 13=12)(w:World):Calls Tryz.prog 12 #[.int .i64 n] w fun e w'=>e = .returned (.string (strOfNums (bY n)))∧Below w.heap.size w w':=by
 have jF:(n:Int) % 13=12:=by omega
 have t13:(n:Int).tmod 13=12:=by rw[ja (by omega)];exact jF
 have qM:IntKind.i64.wrap 12=12:=by rw[dK];omega
 obtain⟨k,hk⟩:∃k,n / 13=k:=⟨_,rfl⟩;have qk:(n:Int) / 13=(k:Int):=by omega
 have tk:(n:Int).tdiv 13=(k:Int):=by rw[Int.tdiv_eq_ediv_of_nonneg (by omega)];exact qk
 have wk:IntKind.i64.wrap (k:Int)=(k:Int):=by rw[dK];omega
 obtain⟨d,hd⟩:∃d,k % 2=d:=⟨_,rfl⟩;have nk:(k:Int) % 2=(d:Int):=by omega
 have td:(k:Int).tmod 2=(d:Int):=by rw[ja (by omega)];exact nk
 have wd:IntKind.i64.wrap (d:Int)=(d:Int):=by rw[dK];omega
 have w9:d<2:=by omega
 have ht:bY n=[61,49,47]++jq d:=by
  unfold bY;rw[if_neg (by omega),if_neg (by omega),if_neg (by omega),if_neg (by omega),if_neg (by omega),if_neg (by omega),if_neg (by omega),if_neg (by omega),if_neg (by omega)];rw[hk,hd]
 rw[ht];clear ht hr hk hd;have HD:=aa (fun (w1:World)=>yo d (by omega) w1);obtain⟨x,hx⟩:∃x,strOfNums (jq d)=x:=⟨_,rfl⟩;have hx1:x.size=1:=by rw[← hx];exact CO d
 rw[hx]at HD;have kT:=aa (show⟨#[61,49,47]⟩++x=strOfNums ([61,49,47]++jq d)from by rw[← gq,hx];rfl);clear hx;have hz1:(⟨#[61,49,47]⟩:ByteArray).size+x.size≤1000:=by rw[hx1];show 3+1≤1000;omega
 go_enter Tryz.func12,Tryz.ntmps12;go_wp2_with (go_at_call 40;((with_reducible refine(HD.o _).mono ?_);rintro e w1 ⟨rfl,h1⟩;have H1:=aa h1;clear h1))
 go_ret;exact⟨iQ kT.o,H1.o⟩
theorem Rn (n:Nat)(hn:n<256)(w:World):Calls Tryz.prog 12 #[.int .i64 n] w fun e w'=>e = .returned (.string (strOfNums (bY n)))∧Below w.heap.size w w':=by
 have yw:n % 13<13:=Nat.mod_lt _ (by omega);rcases(show n % 13=0∨n % 13=1∨n % 13=2∨n % 13=3∨n % 13=4∨n % 13=5∨n % 13=6∨n % 13=7∨n % 13=8∨n % 13=9∨n % 13=10∨n % 13=11∨n % 13=12 by omega)with h|h|h|h|h|h|h|h|h|h|h|h|h
 · exact adN n hn h w
 · exact adO n hn h w
 · exact adS n hn h w
 · exact adT n hn h w
 · exact adU n hn h w
 · exact adV n hn h w
 · exact adW n hn h w
 · exact adX n hn h w
 · exact adY n hn h w
 · exact adZ n hn h w
 · exact adP n hn h w
 · exact adQ n hn h w
 · exact adR n hn h w
def lQ{α : Type}{k:Nat}(E:Enc α k)(e:TypeId)(w:World)(g:Nat)(xs:List α):Prop:=w.heap[g]? = some (.cells (E.all xs).toArray e)
theorem lQ.Fa{α : Type}{k:Nat}{E:Enc α k}{e:TypeId}{w:World}{g:Nat}{xs:List α}(h:lQ E e w g xs):iG E e w g xs:=⟨_,h,fun j u hj=>by simpa using hj⟩
theorem lQ.keep{α : Type}{k:Nat}{E:Enc α k}{e:TypeId}{w w':World}{g:Nat}{xs:List α}(h:lQ E e w g xs)(hk:w'.heap[g]? = w.heap[g]?):lQ E e w' g xs:=by unfold lQ;rw[hk];exact h
theorem lQ.set1 {α : Type}{E:Enc α 1}{e:TypeId}{w:World}{g:Nat}{xs:List α}(h:lQ E e w g xs)(i:Nat)(x : α)(u:Value)(hu:E.f x=[u]):lQ E e (w.setCell ⟨g,i,none⟩ u) g (xs.set i x):=by
 unfold lQ;rw[heap_setCell_same w g i _ e u h,G8 E xs i x u hu];simp
theorem lQ.lt{α : Type}{k:Nat}{E:Enc α k}{e:TypeId}{w:World}{g:Nat}{xs:List α}(h:lQ E e w g xs):g<w.heap.size:=(dZ.1 h).1
theorem lQ.own {α : Type}{k:Nat}{E:Enc α k}{e:TypeId}{w:World}{g lo:Nat}{xs:List α}(h:lQ E e w g xs)(hlo:lo≤g)(hm:xs.length≤maxLen):Own E e w lo (.slice (some ⟨g,0,none⟩) xs.length xs.length) xs :=
 ⟨E.ku xs,.inr ⟨g,xs.length,_,rfl,hlo,h,ag _,hm,by rw[List.size_toArray,E.ku],by rw[← E.ku];simp⟩⟩
theorem Zf (w:World)(n:Nat):lQ fE 9 (w.alloc (.cells (madeCells #[.string ⟨#[]⟩] n) 9)) w.heap.size (List.replicate n ⟨#[]⟩):=by
 have h1:=(jw w (.cells (madeCells #[.string ⟨#[]⟩] n) 9)).1
 have e:madeCells #[.string ⟨#[]⟩] n=(fE.all (List.replicate n ⟨#[]⟩)).toArray:=by
  rw[DV,List.map_replicate];apply Array.ext
  · simp[madeCells]
  · intro i h1 h2;simp[madeCells,Nat.mod_one]
 unfold lQ;rw[h1,e]
theorem acp (n:Nat)(hn:n≤1000000)(w:World):(Instr.makeSlice 56 (.int .i64 (n:Int)) (.int .i64 (n:Int))).run Tryz.prog w = .ok (.slice (some ⟨w.heap.size,0,none⟩) n n) (w.alloc (.cells (madeCells #[.string ⟨#[]⟩] n) 9)) :=
 run_make_row' 56 9 (.string ⟨#[]⟩) 16 Tryz.underlying56 (by kernel_rfl) rfl .i64 .i64 n (by omega) (by omega) w
def iH(w:World)(lo:Nat)(v:Value)(rows:List aN):Prop:=Own nN 56 w lo v rows∧∀r∈rows,Own fE 9 w lo r.v r.l
theorem iH.nil(w:World)(lo:Nat):iH w lo (.slice none 0 0) []:=⟨Own.nil _ _ _ _,fun _ h=>nomatch h⟩
theorem iH.next{w w':World}{lo:Nat}{v:Value}{rows:List aN}(h:iH w lo v rows)(hb:Below w.heap.size w w'):iH w' lo v rows:=⟨h.1.below hb (ag _),fun r hr=>(h.2 r hr).below hb (ag _)⟩
theorem iH.mono{w:World}{lo lo':Nat}{v:Value}{rows:List aN}(h:iH w lo v rows)(hb:lo'≤lo):iH w lo' v rows:=⟨h.1.mono hb,fun r hr=>(h.2 r hr).mono hb⟩
theorem iH.keep{w w':World}{lo:Nat}{v:Value}{rows:List aN}(h:iH w lo v rows)(hk:∀g,lo≤g→g<w.heap.size→w'.heap[g]? = w.heap[g]?):iH w' lo v rows:=⟨h.1.keep fun g h1 h2 _=>hk g h1 h2,fun r hr=>(h.2 r hr).keep fun g h1 h2 _=>hk g h1 h2⟩
theorem iH.JQ{w:World}{lo:Nat}{v:Value}{rows:List aN}(h:iH w lo v rows):jM w w.heap.size v rows:=⟨h.1.se,fun r hr=>(h.2 r hr).se⟩
theorem iH.push {w w':World}{lo:Nat}{v v':Value}{rows:List aN}{r:aN}(h:iH w lo v rows)(hr:Own fE 9 w lo r.v r.l)(ho:Own nN 56 w' lo v' (rows++[r]))(hg:w.grownBy w' v.ownBlock):iH w' lo v' (rows++[r]):=by
 have key:∀x:aN,Own fE 9 w lo x.v x.l→Own fE 9 w' lo x.v x.l:=fun x hx=>hx.keep fun g _ hl e=>hg.block g hl (hx.away h.1 (by decide) e)
 refine⟨ho,fun x hx => ?_⟩;rcases List.mem_append.1 hx with hx|hx
 · exact key x (h.2 x hx)
 · rw[List.mem_singleton.1 hx];exact key r hr
def iU(w:World)(lo:Nat)(v:Value)(ah:List ak):Prop:=Own nO 73 w lo v ah∧∀s∈ah,iH w lo s.rv s.rows
theorem iU.nil(w:World)(lo:Nat):iU w lo (.slice none 0 0) []:=⟨Own.nil _ _ _ _,fun _ h=>nomatch h⟩
theorem iU.next{w w':World}{lo:Nat}{v:Value}{ah:List ak}(h:iU w lo v ah)(hb:Below w.heap.size w w'):iU w' lo v ah:=⟨h.1.below hb (ag _),fun r hr=>(h.2 r hr).next hb⟩
theorem iU.keep{w w':World}{lo:Nat}{v:Value}{ah:List ak}(h:iU w lo v ah)(hk:∀g,lo≤g→g<w.heap.size→w'.heap[g]? = w.heap[g]?):iU w' lo v ah:=⟨h.1.keep fun g h1 h2 _=>hk g h1 h2,fun r hr=>(h.2 r hr).keep hk⟩
theorem iU.wX{w:World}{lo:Nat}{v:Value}{ah:List ak}(h:iU w lo v ah):eH w w.heap.size v ah:=⟨h.1.se,fun r hr=>(h.2 r hr).JQ⟩
theorem iU.push {w w':World}{lo:Nat}{v v':Value}{ah:List ak}{s:ak}(h:iU w lo v ah)(hs:iH w lo s.rv s.rows)(ho:Own nO 73 w' lo v' (ah++[s]))(hg:w.grownBy w' v.ownBlock):iU w' lo v' (ah++[s]):=by
 have key:∀x:ak,iH w lo x.rv x.rows→iH w' lo x.rv x.rows:=fun x hx =>
  ⟨hx.1.keep fun g _ hl e=>hg.block g hl (hx.1.away h.1 (by decide) e),fun r hr=>(hx.2 r hr).keep fun g _ hl e=>hg.block g hl ((hx.2 r hr).away h.1 (by decide) e)⟩
 refine⟨ho,fun x hx => ?_⟩;rcases List.mem_append.1 hx with hx|hx
 · exact key x (h.2 x hx)
 · rw[List.mem_singleton.1 hx];exact key s hs
theorem vV {α : Type}{k:Nat}{E:Enc α k}{e:TypeId}{w:World}{lo:Nat}{v:Value}{xs:List α}(h:Own E e w lo v xs):∃A c,v = .slice A xs.length c:=by
 rcases h.shape with ⟨rfl,rfl⟩|⟨g,c,rfl,_⟩
 · exact⟨none,0,rfl⟩
 · exact⟨_,c,rfl⟩
theorem uM{B:Nat}{w w':World}(h:Below B w w')(n:Nat):Below B w (w'.drewN n):=⟨h.os,h.tape,h.output,h.size,h.block⟩
theorem Cy {f:FuncId}{args:Array Value}{w:World}{n:Nat}{v:Value}(h:Calls Tryz.prog f args (w.drewN n) fun e w'=>e = .returned v∧w.drewN n=w'):Calls Tryz.prog f args (w.drewN n) fun e w''=>e = .returned v∧∃m,w''=w.drewN m :=
 Calls.quiet_of_same (h.mono fun _ _ ⟨a,b⟩=>⟨a,b.symm⟩)
theorem Nt (A:Option Addr)(n cap:Nat)(k:Int)(w:World):Calls Tryz.prog 69 #[.slice A n cap,.int .i64 k] w fun e w'=>e = .returned (.bool (decide (0≤k∧k<(n:Int))))∧w=w':=by
 go_enter Tryz.func69,Tryz.ntmps69
 go_wp2
 all_goals go_ret
 all_goals exact⟨dD (by first|rfl|(symm;rw[decide_eq_true_iff];omega)|(symm;rw[decide_eq_false_iff_not];omega)|(rw[decide_eq_decide];omega)|(simp <;> omega)),rfl⟩
theorem Nu (A:Option Addr)(n cap:Nat)(k:Int)(w:World):Calls Tryz.prog 70 #[.slice A n cap,.int .i64 k] w fun e w'=>e = .returned (.bool (decide (0≤k∧k<(n:Int))))∧w=w':=by
 go_enter Tryz.func70,Tryz.ntmps70
 go_wp2
 all_goals go_ret
 all_goals exact⟨dD (by first|rfl|(symm;rw[decide_eq_true_iff];omega)|(symm;rw[decide_eq_false_iff_not];omega)|(rw[decide_eq_decide];omega)|(simp <;> omega)),rfl⟩
def lS(w:World)(b:Nat)(nm:ByteArray)(row aI:Int):Prop:=w.heap[b]? = some (.cells #[.string nm,.int .i64 row,.int .i64 aI] 29)
theorem lS.new(w:World)(nm:ByteArray)(row aI:Int):lS (w.alloc (.cells #[.string nm,.int .i64 row,.int .i64 aI] 29)) w.heap.size nm row aI:=(jw w _).1
theorem lS.lt{w:World}{b:Nat}{nm:ByteArray}{r c:Int}(h:lS w b nm r c):b<w.heap.size:=(dZ.1 h).1
theorem lS.below{w w':World}{b B:Nat}{nm:ByteArray}{r c:Int}(h:lS w b nm r c)(hb:Below B w w')(hB:b<B):lS w' b nm r c:=by unfold lS;rw[hb.block b hB];exact h
theorem lS.over{w w':World}{b:Nat}{nm:ByteArray}{r c:Int}(h:lS w b nm r c)(hb:Below w.heap.size w w'):lS w' b nm r c:=h.below hb h.lt
theorem lS.cells {w:World}{b:Nat}{nm:ByteArray}{r c:Int}(h:lS w b nm r c):w.cell? ⟨b,0,none⟩=some (.string nm)∧w.cell? ⟨b,1,none⟩=some (.int .i64 r)∧w.cell? ⟨b,2,none⟩=some (.int .i64 c) :=
 ⟨by rw[cell_of_row w b 0 _ _ _ h];rfl,by rw[cell_of_row w b 1 _ _ _ h];rfl,by rw[cell_of_row w b 2 _ _ _ h];rfl⟩
theorem Ha(w:World)(nm:ByteArray)(row aI:Int):Below w.heap.size w (w.alloc (.cells #[.string nm,.int .i64 row,.int .i64 aI] 29)):=(ai _ _).alloc (ag _) _
def qA (ah:List ak)(nm:ByteArray)(row aI:Int):Option (Nat × ak × Nat × aN × Nat)→Prop
 | none=>vg ah nm none∨∃i s,First ah nm i s∧(¬ (0≤row∧row<(s.rows.length:Int))∨∃(r:Nat)(rv:aN),row=(r:Int)∧s.rows[r]? = some rv∧¬ (0≤aI∧aI<(rv.l.length:Int)))
 | some (i,s,r,rv,c)=>First ah nm i s∧row=(r:Int)∧s.rows[r]? = some rv∧aI=(c:Int)∧c<rv.l.length
theorem adp (ah:List ak)(nm:ByteArray)(row aI:Int):∃o,qA ah nm row aI o:=by
 obtain⟨o,ho⟩:=Wi ah nm;cases o with
 | none=>exact⟨none,.inl ho⟩
 | some p =>
   obtain⟨i,s⟩:=p;by_cases hr:0≤row∧row<(s.rows.length:Int)
   · obtain⟨r,rfl⟩:∃r:Nat,row=(r:Int):=⟨row.toNat,by omega⟩
     obtain⟨rv,nQ⟩:∃rv,s.rows[r]? = some rv:=⟨_,bn (by omega)⟩;by_cases hc:0≤aI∧aI<(rv.l.length:Int)
     · exact⟨some (i,s,r,rv,aI.toNat),ho,rfl,nQ,by omega,by omega⟩
     · exact⟨none,.inr ⟨i,s,ho,.inr ⟨r,rv,rfl,nQ,hc⟩⟩⟩
   · exact⟨none,.inr ⟨i,s,ho,.inl hr⟩⟩
def xG:Option (Nat × ak × Nat × aN × Nat)→ByteArray
 | none=>⟨#[]⟩
 | some (_,_,_,rv,c)=>rv.l.getD c ⟨#[]⟩
def FH (w:World):Option (Nat × ak × Nat × aN × Nat)→Value→Prop
 | none,v=>v = .pointer none
 | some (_,_,_,rv,c),v=>∃pb po,rv.A=some ⟨pb,po,none⟩∧v = .pointer (some ⟨pb,po+c,none⟩)∧pb<w.heap.size∧w.cell? ⟨pb,po+c,none⟩=some (.string (rv.l.getD c ⟨#[]⟩))
theorem AJ (w:World)(v:Value)(nm:ByteArray)(row aI:Int):∃w2,(w.alloc (.cells #[v] 26)).alloc (.cells #[.string nm,.int .i64 row,.int .i64 aI] 29)=w2∧Below w.heap.size w w2∧aY w2 w.heap.size v∧lS w2 (w.heap.size+1) nm row aI∧w2.heap.size=w.heap.size+2:=by
 refine⟨_,rfl,(kJ w v).trans ((Ha (w.alloc (.cells #[v] 26)) nm row aI).mono (kJ w v).size),(aY.new w v).over (Ha _ _ _ _), ?_,by rw[kD,kD]⟩;have:=lS.new (w.alloc (.cells #[v] 26)) nm row aI;rwa[kD]at this
theorem Ur (w:World)(A:Option Addr)(n cap:Nat)(ah:List ak)(nm:ByteArray)(i:Nat)(s:ak)(r:Nat)(rv:aN)(c:Nat)(h:eH w w.heap.size (.slice A n cap) ah)(hn:n≤1000000)(ho:qA ah nm r c (some (i,s,r,rv,c))) :
 Calls Tryz.prog 39 #[.agg #[.slice A n cap],.agg #[.string nm,.int .i64 r,.int .i64 c]] w fun e w'=>(∃v,e = .returned v∧FH w (some (i,s,r,rv,c)) v)∧Below w.heap.size w w':=by
 obtain⟨hf, -,nQ, -,hc⟩:=ho;obtain⟨w2,hw2,hb,hbk,hsp,hsz⟩:=AJ w (.slice A n cap) nm r c;obtain⟨pb,po,hA,hpb,e0,e1,e2,hrows⟩:=oP h hf.1;obtain⟨di,dJ,hA2,mq,f0,hrow⟩:=rH hrows nQ;obtain⟨x,hx⟩:∃x,rv.l[c]? = some x:=⟨_,bn hc⟩;obtain⟨ub,zo,hA3,hub,g0⟩:=xH hrow hx;have hin:=hf.1;have hni:(i:Int)<(n:Int):=by have:=(dm.1 hin).1;have:=h.1.len.1;omega
 have hi0:(0:Int)≤(i:Int):=by omega
 have hr0:(0:Int)≤(r:Int):=by omega
 have hc0:(0:Int)≤(c:Int):=by omega
 have hrl:(r:Int)<(s.rows.length:Int):=by have:=(dm.1 nQ).1;omega
 have hcl:(c:Int)<(rv.l.length:Int):=by omega
 have wF:=aa (show Calls Tryz.prog 68 #[.agg #[.slice A n cap],.string nm] w2 fun e w'=>e = .returned (.int .i64 (i:Int))∧Below w2.heap.size w2 w' from Hy w2 A n cap ah nm (some (i,s)) (h.lift hb) hn hf);have H1:=aa (fun w=>Nt s.A s.rows.length s.cap r w);have H2:=aa (fun w=>Nu rv.A rv.l.length rv.cap c w);have d1:decide ((0:Int)≤(r:Int)∧(r:Int)<(s.rows.length:Int))=true:=decide_eq_true ⟨hr0,hrl⟩;have d2:decide ((0:Int)≤(c:Int)∧(c:Int)<(rv.l.length:Int))=true:=decide_eq_true ⟨hc0,hcl⟩;rw[d1]at H1;rw[d2]at H2;have SI:=aa (show FH w (some (i,s,r,rv,c)) (.pointer (some ⟨ub,zo+c,none⟩))from⟨ub,zo,hA3,rfl,hub,by rw[iC,hx];exact g0⟩);obtain⟨m,hm⟩:∃m,s.rows.length=m:=⟨_,rfl⟩;obtain⟨k,hk⟩:∃k,rv.l.length=k:=⟨_,rfl⟩;rw[hm]at e2 H1 hrl;rw[hk]at f0 H2 hcl;rw[hA2]at e2 H1;rw[hA3]at f0 H2;subst hA;have HB:=aa hb;have gM:=aa hbk;have jY:=aa hsp;clear hf nQ hc hrows hrow g0 hx hin d1 d2 hm hk h hb hbk hsp;go_enter Tryz.func39,Tryz.ntmps39;go_upto_region 1 with (fail)
 clear hw2;have b0:=gM.o.cell;obtain⟨s0,s1,s2⟩:=jY.o.cells;go_upto_region 4 with (go_at_call 68;((with_reducible refine wF.o.mono ?_);rintro e w3 ⟨rfl,h1⟩;have H3:=aa h1;clear h1))
 clear b0 s0 s1 s2;have HB3:=aa (HB.o.trans (H3.o.mono HB.o.size));have b0:=(gM.o.over H3.o).cell;obtain⟨s0,s1,s2⟩:=(jY.o.over H3.o).cells;have x0:w3.cell? ⟨pb,po+i*3,none⟩=some (.string s.nm):=(HB3.o.cell (p:=⟨pb,po+i*3,none⟩) hpb).trans e0;have x1:w3.cell? ⟨pb,po+i*3+1,none⟩=some (.int .i64 s.ay):=(HB3.o.cell (p:=⟨pb,po+i*3+1,none⟩) hpb).trans e1;have x2:w3.cell? ⟨pb,po+i*3+2,none⟩=some (.slice (some ⟨di,dJ,none⟩) m s.cap):=(HB3.o.cell (p:=⟨pb,po+i*3+2,none⟩) hpb).trans e2;have y0:w3.cell? ⟨di,dJ+r,none⟩=some (.slice (some ⟨ub,zo,none⟩) k rv.cap):=(HB3.o.cell (p:=⟨di,dJ+r,none⟩) mq).trans f0;clear e0 e1 e2 f0;go_upto_region 5 with (fail)
 go_quiet (first
  | (go_at_call 69;exact Cy (H1.o _))
  | (go_at_call 70;exact Cy (H2.o _)))
 go_wp2_with fail
 go_quiet (fail)
 go_wp2_with fail
 go_ret;exact⟨⟨_,rfl,SI.o⟩,uM (uM HB3.o _) _⟩
theorem Uo (w:World)(A:Option Addr)(n cap:Nat)(ah:List ak)(nm:ByteArray)(row aI:Int)(h:eH w w.heap.size (.slice A n cap) ah)(hn:n≤1000000)(ho:vg ah nm none) :
 Calls Tryz.prog 39 #[.agg #[.slice A n cap],.agg #[.string nm,.int .i64 row,.int .i64 aI]] w fun e w'=>e = .returned (.pointer none)∧Below w.heap.size w w':=by
 obtain⟨w2,hw2,hb,hbk,hsp,hsz⟩:=AJ w (.slice A n cap) nm row aI;have wF:=aa (show Calls Tryz.prog 68 #[.agg #[.slice A n cap],.string nm] w2 fun e w'=>e = .returned (.int .i64 (-1))∧Below w2.heap.size w2 w' from Hy w2 A n cap ah nm none (h.lift hb) hn ho);have HB:=aa hb;have gM:=aa hbk;have jY:=aa hsp;clear h hb hbk hsp ho;go_enter Tryz.func39,Tryz.ntmps39;go_upto_region 1 with (fail)
 clear hw2;have b0:=gM.o.cell;obtain⟨s0,s1,s2⟩:=jY.o.cells;go_wp2_with (go_at_call 68;((with_reducible refine wF.o.mono ?_);rintro e w3 ⟨rfl,h1⟩;have H3:=aa (HB.o.trans (h1.mono HB.o.size));clear h1))
 go_ret;exact⟨rfl,H3.o⟩
theorem Uq (w:World)(A:Option Addr)(n cap:Nat)(ah:List ak)(nm:ByteArray)(row aI:Int)(i:Nat)(s:ak)(h:eH w w.heap.size (.slice A n cap) ah)(hn:n≤1000000)(hf:First ah nm i s)
 (ho:¬ (0≤row∧row<(s.rows.length:Int))∨∃(r:Nat)(rv:aN),row=(r:Int)∧s.rows[r]? = some rv∧¬ (0≤aI∧aI<(rv.l.length:Int))) :
 Calls Tryz.prog 39 #[.agg #[.slice A n cap],.agg #[.string nm,.int .i64 row,.int .i64 aI]] w fun e w'=>e = .returned (.pointer none)∧Below w.heap.size w w':=by
 obtain⟨w2,hw2,hb,hbk,hsp,hsz⟩:=AJ w (.slice A n cap) nm row aI;obtain⟨pb,po,hA,hpb,e0,e1,e2,hrows⟩:=oP h hf.1;have hin:=hf.1;have hni:(i:Int)<(n:Int):=by have:=(dm.1 hin).1;have:=h.1.len.1;omega
 have hi0:(0:Int)≤(i:Int):=by omega
 have wF:=aa (show Calls Tryz.prog 68 #[.agg #[.slice A n cap],.string nm] w2 fun e w'=>e = .returned (.int .i64 (i:Int))∧Below w2.heap.size w2 w' from Hy w2 A n cap ah nm (some (i,s)) (h.lift hb) hn hf);have H1:=aa (fun w=>Nt s.A s.rows.length s.cap row w);obtain⟨m,hm⟩:∃m,s.rows.length=m:=⟨_,rfl⟩;rw[hm]at e2 H1 ho;subst hA;have HB:=aa hb;have gM:=aa hbk;have jY:=aa hsp;have Te:=aa hrows;have HO:=aa ho;clear hf hrows hin h hb hbk hsp ho;go_enter Tryz.func39,Tryz.ntmps39;go_upto_region 1 with (fail)
 clear hw2;have b0:=gM.o.cell;obtain⟨s0,s1,s2⟩:=jY.o.cells;go_upto_region 4 with (go_at_call 68;((with_reducible refine wF.o.mono ?_);rintro e w3 ⟨rfl,h1⟩;have H3:=aa h1;clear h1))
 clear b0 s0 s1 s2;have HB3:=aa (HB.o.trans (H3.o.mono HB.o.size));have b0:=(gM.o.over H3.o).cell;obtain⟨s0,s1,s2⟩:=(jY.o.over H3.o).cells;have x0:w3.cell? ⟨pb,po+i*3,none⟩=some (.string s.nm):=(HB3.o.cell (p:=⟨pb,po+i*3,none⟩) hpb).trans e0;have x1:w3.cell? ⟨pb,po+i*3+1,none⟩=some (.int .i64 s.ay):=(HB3.o.cell (p:=⟨pb,po+i*3+1,none⟩) hpb).trans e1;have x2:w3.cell? ⟨pb,po+i*3+2,none⟩=some (.slice s.A m s.cap):=(HB3.o.cell (p:=⟨pb,po+i*3+2,none⟩) hpb).trans e2;clear e0 e1 e2;go_upto_region 5 with (fail)
 clear b0 x0 x1 x2;by_cases hr:0≤row∧row<(m:Int)
 · rw [decide_eq_true hr]at H1
   obtain⟨r,rv,rfl,nQ,hc⟩:=HO.o.resolve_left (fun h=>h hr);obtain⟨di,dJ,hA2,mq,f0,hrow⟩:=rH Te.o nQ;have y0:w3.cell? ⟨di,dJ+r,none⟩=some (.slice rv.A rv.l.length rv.cap):=(HB3.o.cell (p:=⟨di,dJ+r,none⟩) mq).trans f0;have H2:=aa (fun w=>Nu rv.A rv.l.length rv.cap aI w);rw[decide_eq_false hc]at H2;have hr1:(r:Int)<(m:Int):=hr.2;have hr0:(0:Int)≤(r:Int):=hr.1;rw[hA2]at H1 ⊢;clear nQ hc f0 hrow hr
   go_quiet (first
    | (go_at_call 69;exact Cy (H1.o _))
    | (go_at_call 70;exact Cy (H2.o _)))
   go_wp2_with fail
   go_ret;exact⟨rfl,uM HB3.o _⟩
 · rw [decide_eq_false hr]at H1
   clear hr
   go_quiet (first
    | (go_at_call 69;exact Cy (H1.o _)))
   go_wp2_with fail
   go_ret;exact⟨rfl,uM HB3.o _⟩
theorem L8 (w:World)(A:Option Addr)(n cap:Nat)(ah:List ak)(nm:ByteArray)(row aI:Int)(o:Option (Nat × ak × Nat × aN × Nat))(h:eH w w.heap.size (.slice A n cap) ah)(hn:n≤1000000)(ho:qA ah nm row aI o) :
 Calls Tryz.prog 39 #[.agg #[.slice A n cap],.agg #[.string nm,.int .i64 row,.int .i64 aI]] w fun e w'=>(∃v,e = .returned v∧FH w o v)∧Below w.heap.size w w':=by
 cases o with
 | none =>
   rcases ho with ho|⟨i,s,hf,ho⟩
   · exact(Uo w A n cap ah nm row aI h hn ho).mono fun e w' ⟨h1,h2⟩=>⟨⟨_,h1,rfl⟩,h2⟩
   · exact(Uq w A n cap ah nm row aI i s h hn hf ho).mono fun e w' ⟨h1,h2⟩=>⟨⟨_,h1,rfl⟩,h2⟩
 | some p =>
   obtain⟨i,s,r,rv,c⟩:=p;obtain⟨h1,rfl,h3,rfl,h5⟩:=ho;exact Ur w A n cap ah nm i s r rv c h hn ⟨h1,rfl,h3,rfl,h5⟩
theorem HY (w:World)(A:Option Addr)(n cap:Nat)(ah:List ak)(nm:ByteArray)(row aI:Int)(o:Option (Nat × ak × Nat × aN × Nat))(h:eH w w.heap.size (.slice A n cap) ah)(hn:n≤1000000)(ho:qA ah nm row aI o) :
 Calls Tryz.prog 15 #[.agg #[.slice A n cap],.agg #[.string nm,.int .i64 row,.int .i64 aI]] w fun e w'=>e = .returned (.string (xG o))∧Below w.heap.size w w':=by
 obtain⟨w2,hw2,hb,hbk,hsp,hsz⟩:=AJ w (.slice A n cap) nm row aI;have HA:=aa (L8 w2 A n cap ah nm row aI o (h.lift hb) hn ho);have HB:=aa hb;have gM:=aa hbk;have jY:=aa hsp;clear h hb hbk hsp ho;go_enter Tryz.func15,Tryz.ntmps15;go_upto_region 1 with (fail)
 clear hw2;have b0:=gM.o.cell;obtain⟨s0,s1,s2⟩:=jY.o.cells;go_upto_region 2 with (go_at_call 39;((with_reducible refine HA.o.mono ?_);rintro e w3 ⟨⟨v,rfl,hv⟩,h1⟩;have H3:=aa h1;have j3:=aa hv;clear h1 hv))
 clear b0 s0 s1 s2;have HB3:=aa (HB.o.trans (H3.o.mono HB.o.size));cases o with
 | none =>
   obtain rfl:v = .pointer none:=j3.o;go_wp2_with fail
   go_ret;exact⟨rfl,HB3.o⟩
 | some p =>
   obtain⟨i,s,r,rv,c⟩:=p;obtain⟨pb,po,_,rfl,hpb,hc⟩:=j3.o;have hc3:w3.cell? ⟨pb,po+c,none⟩=some (.string (rv.l.getD c ⟨#[]⟩)):=(H3.o.cell (p:=⟨pb,po+c,none⟩) hpb).trans hc;clear hc;go_wp2_with fail
   go_ret;exact⟨rfl,HB3.o⟩
instance:DecidableEq jf:=fun a b=>decidable_of_iff (a.nm=b.nm∧a.ay=b.ay∧a.rows=b.rows) ⟨fun ⟨h1,h2,h3⟩=>by cases a;cases b;simp only at h1 h2 h3;rw[h1,h2,h3],fun h=>by rw[h];exact⟨rfl,rfl,rfl⟩⟩
theorem Hu {α : Type}{xs ys:List α}{n:Nat}(h1:xs.length=n)(h2:ys.length=n)(h:∀j,j<n→xs[j]? = ys[j]?):xs=ys:=by
 refine List.ext_getElem? fun j => ?_
 by_cases hj:j<n
 · exact h j hj
 · rw[List.getElem?_eq_none (by omega),List.getElem?_eq_none (by omega)]
theorem Jg {α : Type}{xs ys:List α}{i:Nat}{x y : α}(hx:xs[i]? = some x)(hy:ys[i]? = some y)(hne:¬ x=y):¬ xs=ys:=by
 intro e;rw[e,hy]at hx;injection hx with hx;exact hne hx.symm
theorem Km {α : Type}{xs ys:List α}{i:Nat}{x : α}(hx:xs[i]? = some x)(hy:ys[i]? = some x)(h:∀j,j<i→xs[j]? = ys[j]?):∀j,j<i+1→xs[j]? = ys[j]? := fun j hj=>by
 by_cases e:j=i
 · subst e;rw[hx,hy]
 · exact h j (by omega)
theorem tX{α β : Type}{xs:List α}{f : α → β}{i:Nat}{x : α}(h:xs[i]? = some x):(xs.map f)[i]? = some (f x):=by rw[iD,h];rfl
def dI(rows:List aN):List (List ByteArray):=rows.map (·.l)
def bF(ah:List ak):List jf:=ah.map ak.p
theorem aas {a b:ak}(h1:a.nm=b.nm)(h2:a.ay=b.ay)(h3:dI a.rows=dI b.rows):a.p=b.p:=by
 unfold ak.p dI at *;rw[h1,h2,h3]
theorem EM {a b:ak}(h:¬ a.nm=b.nm∨¬ a.ay=b.ay∨¬ dI a.rows=dI b.rows):¬ a.p=b.p:=by
 intro e;injection e with e1 e2 e3;rcases h with h|h|h
 · exact h e1
 · exact h e2
 · exact h e3
theorem Kk (w:World)(n1 n2:ByteArray)(c1 c2:Int)(v1 v2:Value):∃w2,(w.alloc (.cells #[.string n1,.int .i64 c1,v1] 73)).alloc (.cells #[.string n2,.int .i64 c2,v2] 73)=w2∧Below w.heap.size w w2∧ShAt w2 w.heap.size n1 c1 v1∧ShAt w2 (w.heap.size+1) n2 c2 v2∧w2.heap.size=w.heap.size+2:=by
 refine⟨_,rfl,(nJ w n1 c1 v1).trans ((nJ (w.alloc (.cells #[.string n1,.int .i64 c1,v1] 73)) n2 c2 v2).mono (nJ w n1 c1 v1).size),(ShAt.new w n1 c1 v1).over (nJ _ _ _ _), ?_,by rw[kD,kD]⟩;have:=ShAt.new (w.alloc (.cells #[.string n1,.int .i64 c1,v1] 73)) n2 c2 v2;rwa[kD]at this
theorem Fy (w:World)(v1 v2:Value):∃w2,(w.alloc (.cells #[v1] 26)).alloc (.cells #[v2] 26)=w2∧Below w.heap.size w w2∧aY w2 w.heap.size v1∧aY w2 (w.heap.size+1) v2∧w2.heap.size=w.heap.size+2:=by
 refine⟨_,rfl,(kJ w v1).trans ((kJ (w.alloc (.cells #[v1] 26)) v2).mono (kJ w v1).size),(aY.new w v1).over (kJ _ _), ?_,by rw[kD,kD]⟩;have:=aY.new (w.alloc (.cells #[v1] 26)) v2;rwa[kD]at this
theorem abE (w:World)(A:Option Addr)(n cap:Nat)(xs:List ByteArray)(B:Option Addr)(m c:Nat)(ys:List ByteArray)(h1:iI fE w w.heap.size (.slice A n cap) xs)(h2:iI fE w w.heap.size (.slice B m c) ys) :
 Calls Tryz.prog 76 #[.slice A n cap,.slice B m c] w fun e w'=>e = .returned (.bool (decide (xs=ys)))∧Below w.heap.size w w':=by
 have hl1:=h1.len.1;have hl2:=h2.len.1;have hmx:n≤9223372036854775807:=by have:=h1.len.2;unfold maxLen at this;omega
 by_cases hnm:n=m
 · subst hnm
   have rY:=aa hl1;have HL2:=aa hl2;have HX:=aa h1;have fB:=aa h2;clear h1 h2 hl1 hl2;go_enter Tryz.func76,Tryz.ntmps76;go_upto_region 4 with (fail)
   go_loopw [5] (fun iv wr=>∃i:Nat,i≤n∧iv = .int .i64 (i:Int)∧Hid (∀j,j<i→xs[j]? = ys[j]?)∧Hid (Below w.heap.size w wr))
    (fun iv _=>n - (intOf iv).toNat)
   case atStart=>exact⟨0,cu _,rfl,aa (fun j h=>by omega),aa (ai _ _)⟩
   case round =>
    obtain⟨i,hi,rfl,HT,HR⟩:=hrel;by_cases hlt:i<n
    · have hii:(i:Int)<(n:Int):=by omega
      have hi0:(0:Int)≤(i:Int):=by omega
      obtain⟨x,hx⟩:∃x,xs[i]? = some x:=⟨_,bn (by rw[rY.o];exact hlt)⟩;obtain⟨y,hy⟩:∃y,ys[i]? = some y:=⟨_,bn (by rw[HL2.o];exact hlt)⟩;obtain⟨pb,po,rfl,hpb,e0⟩:=xH HX.o hx;obtain⟨di,dJ,rfl,mq,f0⟩:=xH fB.o hy;have x0:wr.cell? ⟨pb,po+i,none⟩=some (.string x):=(HR.o.cell (p:=⟨pb,po+i,none⟩) hpb).trans e0;have y0:wr.cell? ⟨di,dJ+i,none⟩=some (.string y):=(HR.o.cell (p:=⟨di,dJ+i,none⟩) mq).trans f0;have nD:=aa hx;have wP:=aa hy;have htl:=CZ x y;clear e0 f0 hx hy;by_cases he:x=y
      · subst he
        rw[decide_eq_true rfl]at htl;have HF:=aa (Km nD.o wP.o HT.o);go_upto_region 6 with (fail)
        go_quiet (fail)
        go_wp2_with fail
        go_roundw
        case rel=>exact⟨i+1,by omega,by go_num,HF,aa (uM HR.o _)⟩
        case measure=>simp[intOf];omega
      · rw[decide_eq_false he]at htl
        have HF:=aa (decide_eq_false (Jg nD.o wP.o he));clear he;go_upto_region 6 with (fail)
        go_quiet (fail)
        go_wp2_with fail
        go_ret;exact⟨dD HF.o.symm,uM HR.o _⟩
    · have hii:¬ (i:Int)<(n:Int):=by omega
      have HF:=aa (decide_eq_true (Hu rY.o HL2.o (fun j hj=>HT.o j (by omega))));go_wp2_with fail
      go_ret;exact⟨dD HF.o.symm,HR.o⟩
 · have hii:¬ (n:Int)=(m:Int):=by omega
   have hib:((n:Int) == (m:Int))=false:=beq_eq_false_iff_ne.2 hii;have HF:=aa (show decide (xs=ys)=false from decide_eq_false (fun e=>hnm (by rw[← hl1, ← hl2,e])));clear h1 h2 hl1 hl2 hnm;go_enter Tryz.func76,Tryz.ntmps76;go_wp2_with fail
   go_ret;exact⟨dD HF.o.symm,ai _ _⟩
theorem acT:(Tryz.prog.info? 73).map (·.size)=some 3:=by kernel_rfl
theorem Mj:(Tryz.prog.info? 26).map (·.size)=some 1:=by kernel_rfl
theorem PU {w:World}{b:Nat}{nm:ByteArray}{c:Int}{A:Option Addr}{n cap:Nat}(h:ShAt w b nm c (.slice A n cap))(fn:Func)(tmps:Array Value)(s:Tmp)(hf:fn.results=#[.cell s 73])(hp:tmps.getD s undef = .pointer (some ⟨b,0,none⟩)) :
 (results fn tmps).run Tryz.prog w = .ok (.agg #[.string nm,.int .i64 c,.slice A n cap]) w :=
 results_cell_row hf tmps w b _ _ _ _ hp h Tryz.underlying73 rfl acT
theorem Jm {w:World}{b:Nat}{A:Option Addr}{n cap:Nat}(h:aY w b (.slice A n cap))(fn:Func)(tmps:Array Value)(s:Tmp)(hf:fn.results=#[.cell s 26])(hp:tmps.getD s undef = .pointer (some ⟨b,0,none⟩)) :
 (results fn tmps).run Tryz.prog w = .ok (.agg #[.slice A n cap]) w :=
 results_cell_row hf tmps w b _ _ _ _ hp h Tryz.underlying26 rfl Mj
theorem ShAt.qH {w:World}{b:Nat}{nm:ByteArray}{c:Int}{v:Value}(h:ShAt w b nm c v)(u:Value):ShAt (w.setCell ⟨b,2,none⟩ u) b nm c u:=by
 unfold ShAt;rw[heap_setCell_same _ b 2 _ _ _ h];rfl
theorem ShAt.y8 {w:World}{b:Nat}{n0:ByteArray}{c0:Int}{v0:Value}(h:ShAt w b n0 c0 v0)(nm:ByteArray)(c:Int)(v:Value):ShAt (((w.setCell ⟨b,0,none⟩ (.string nm)).setCell ⟨b,1,none⟩ (.int .i64 c)).setCell ⟨b,2,none⟩ v) b nm c v:=by
 have h1:(w.setCell ⟨b,0,none⟩ (.string nm)).heap[b]? = some (.cells #[.string nm,.int .i64 c0,v0] 73):=by rw[heap_setCell_same w b 0 _ _ _ h];rfl
 have h2:((w.setCell ⟨b,0,none⟩ (.string nm)).setCell ⟨b,1,none⟩ (.int .i64 c)).heap[b]? = some (.cells #[.string nm,.int .i64 c,v0] 73):=by rw[heap_setCell_same _ b 1 _ _ _ h1];rfl
 unfold ShAt;rw[heap_setCell_same _ b 2 _ _ _ h2];rfl
theorem ShAt.other {w:World}{b:Nat}{nm:ByteArray}{c:Int}{v:Value}(h:ShAt w b nm c v)(a:Addr)(u:Value)(hne:b≠a.block):ShAt (w.setCell a u) b nm c v:=by
 unfold ShAt;rw[heap_setCell_other _ _ _ _ hne];exact h
theorem aY.put {w:World}{b:Nat}{v:Value}(h:aY w b v)(u:Value):aY (w.setCell ⟨b,0,none⟩ u) b u:=by
 unfold aY;rw[heap_setCell_same _ b 0 _ _ _ h];rfl
theorem aY.other {w:World}{b:Nat}{v:Value}(h:aY w b v)(a:Addr)(u:Value)(hne:b≠a.block):aY (w.setCell a u) b v:=by
 unfold aY;rw[heap_setCell_other _ _ _ _ hne];exact h
theorem Mf {w w1:World}{B z:Nat}(h:Below B w w1)(hz:B≤z)(a b c:Value):Below B w (((w1.setCell ⟨z,0,none⟩ a).setCell ⟨z,1,none⟩ b).setCell ⟨z,2,none⟩ c) :=
 ((h.setCell hz _).setCell hz _).setCell hz _
theorem NC (w:World)(z g:Nat)(a b c:Value)(h:g≠z):(((w.setCell ⟨z,0,none⟩ a).setCell ⟨z,1,none⟩ b).setCell ⟨z,2,none⟩ c).heap[g]? = w.heap[g]? := by
 rw[heap_setCell_other _ _ _ _ (by exact h),heap_setCell_other _ _ _ _ (by exact h),heap_setCell_other _ _ _ _ (by exact h)]
theorem adm (w:World)(z:Nat)(a b c:Value):(((w.setCell ⟨z,0,none⟩ a).setCell ⟨z,1,none⟩ b).setCell ⟨z,2,none⟩ c).heap.size=w.heap.size:=by
 rw[lG,lG,lG]
theorem abN:Tryz.f67.results=#[.cell 2 73]:=by kernel_rfl
theorem Vv (w:World)(s:ak)(h:jM w w.heap.size (.slice s.A s.rows.length s.cap) s.rows)(hn:s.rows.length≤1000000)(hz:∀r∈s.rows,r.l.length≤1000000) :
 Calls Tryz.prog 67 #[.agg #[.string s.nm,.int .i64 s.ay,.slice s.A s.rows.length s.cap]] w fun e w'=>Below w.heap.size w w'∧∃A' iB,e = .returned (.agg #[.string s.nm,.int .i64 s.ay,.slice A' s.rows.length s.rows.length])∧iB.map (·.l)=s.rows.map (·.l)∧nG w' A' s.rows.length iB w.heap.size w'.heap.size:=by
 obtain⟨w2,hw2,hb,hs1,hs2,hsz⟩:=Kk w s.nm ⟨#[]⟩ s.ay 0 (.slice s.A s.rows.length s.cap) (.slice none 0 0);have he:=VS w2 s.A s.rows.length s.cap s.rows (h.lift hb) hn hz;obtain⟨n,hn2⟩:∃n,s.rows.length=n:=⟨_,rfl⟩;rw[hn2]at hw2 hs1 he ⊢;have HE:=aa he;have HB:=aa hb;have dG:=aa hs1;have HS2:=aa hs2;have jZ:=aa hsz;clear h hz hb hs1 hs2 he hn hn2 hsz;go_enter Tryz.func67,Tryz.ntmps67;go_upto_region 1 with (fail)
 clear hw2;obtain⟨x0,x1,x2⟩:=dG.o.cells;go_upto_region 2 with (go_at_call 106;((with_reducible refine HE.o.mono ?_);rintro e w3 ⟨h1,A2,iB,rfl,hm,h2⟩;have H3:=aa h1;have HM:=aa hm;have HN:=aa h2;obtain⟨y0,y1,y2⟩:=(dG.o.over h1).cells;obtain⟨m0,m1,m2⟩:=(dG.o.over h1).bK;clear h1 h2 hm))
 clear x0 x1 x2 y0 y1 y2 m0 m1 m2;have bJ:=aa ((dG.o.over H3.o).qH (.slice A2 n n));have eY:=aa ((HS2.o.over H3.o).other ⟨w.heap.size,2,none⟩ (.slice A2 n n) (by show w.heap.size+1≠w.heap.size;omega));have xX:=aa (lG w3 ⟨w.heap.size,2,none⟩ (.slice A2 n n));have bG:=aa ((HB.o.trans (H3.o.mono HB.o.size)).setCell (p:=⟨w.heap.size,2,none⟩) (ag _) (.slice A2 n n));have wL:=aa (HN.o.keep (w':=w3.setCell ⟨w.heap.size,2,none⟩ (.slice A2 n n)) fun g h1 _=>heap_setCell_other w3 _ g _ (by show g≠w.heap.size;have:=jZ.o;omega));obtain⟨w4,hw4⟩:∃w4,w3.setCell ⟨w.heap.size,2,none⟩ (.slice A2 n n)=w4:=⟨_,rfl⟩;rw[hw4]at bJ eY xX bG wL ⊢;clear hw4;obtain⟨x0,x1,x2⟩:=bJ.o.cells;obtain⟨y0,y1,y2⟩:=eY.o.cells;obtain⟨m0,m1,m2⟩:=eY.o.bK;go_wp2_with fail
 refine bodyPost_ret (PU (eY.o.y8 s.nm s.ay (.slice A2 n n)) _ _ 2 abN rfl) rfl ⟨Mf bG.o (by omega) _ _ _,A2,iB,rfl,HM.o, ?_⟩;rw[adm,xX.o];refine(wL.o.keep fun g h1 h2=>NC w4 _ g _ _ _ (by have:=jZ.o;omega)).up (by have:=jZ.o;omega) (ag _)
theorem abT:Tryz.f72.results=#[.cell 2 73]:=by kernel_rfl
structure uA (w0 w:World)(nm:ByteArray)(c:Int)(pv tv:Value)(done:List aN):Prop where
 par:ShAt w w0.heap.size nm c pv
 o:ShAt w (w0.heap.size+1) ⟨#[]⟩ 0 (.slice none 0 0)
 cur:ShAt w (w0.heap.size+2) nm c tv
 rw:iH w (w0.heap.size+3) tv done
 fV:Below w0.heap.size w0 w
theorem uA.next {w0 w w':World}{nm:ByteArray}{c:Int}{pv tv:Value}{done:List aN}(h:uA w0 w nm c pv tv done)(hb:Below w.heap.size w w'):uA w0 w' nm c pv tv done :=
 ⟨h.par.over hb,h.o.over hb,h.cur.over hb,h.rw.next hb,h.fV.trans (hb.mono h.fV.size)⟩
theorem Am {α : Type}{k:Nat}{E:Enc α k}{e:TypeId}{w:World}{lo g:Nat}{v:Value}{xs:List α}(h:Own E e w lo v xs)(hg:g<lo):Option.some g≠v.ownBlock:=by
 intro hv;have:=(h.lies hv.symm).1;omega
theorem uA.yn {w0 wa wb:World}{nm:ByteArray}{c:Int}{pv tv:Value}{done:List aN}(h:uA w0 wa nm c pv tv done)(hg:wa.grownBy wb tv.ownBlock):ShAt wb (w0.heap.size+2) nm c tv:=by
 unfold ShAt;rw[hg.block _ h.cur.lt (Am h.rw.1 (by omega))];exact h.cur
theorem uA.push {w0 wa wb:World}{nm:ByteArray}{c:Int}{pv tv v':Value}{done:List aN}{rv:aN}(h:uA w0 wa nm c pv tv done)(hrow:Own fE 9 wa (w0.heap.size+3) rv.v rv.l)(ho:Own nN 56 wb (w0.heap.size+3) v' (done++[rv]))(hg:wa.grownBy wb tv.ownBlock) :
 uA w0 (wb.setCell ⟨w0.heap.size+2,2,none⟩ v') nm c pv v' (done++[rv]):=by
 have h1:=h.rw.push hrow ho hg;have Ip:ShAt wb w0.heap.size nm c pv:=by unfold ShAt;rw[hg.block _ h.par.lt (Am h.rw.1 (by omega))];exact h.par
 have hout:ShAt wb (w0.heap.size+1) ⟨#[]⟩ 0 (.slice none 0 0):=by unfold ShAt;rw[hg.block _ h.o.lt (Am h.rw.1 (by omega))];exact h.o
 refine⟨Ip.other _ _ (by show w0.heap.size≠w0.heap.size+2;omega),hout.other _ _ (by show w0.heap.size+1≠w0.heap.size+2;omega),(h.yn hg).qH v',h1.keep fun g h2 _=>heap_setCell_other wb _ g _ (by show g≠w0.heap.size+2;omega), ?_⟩;exact(h.fV.grown hg h.fV.size fun g e=>by have:=(h.rw.1.lies e).1;omega).setCell (by show w0.heap.size≤w0.heap.size+2;omega) _
end Go.Proofs.YtdnooocmlhcpkaaGreatDoor
