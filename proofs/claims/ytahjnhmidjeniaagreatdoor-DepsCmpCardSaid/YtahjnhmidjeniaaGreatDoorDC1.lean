import Derived.Test.YtahjnhmidjeniaaGreatDoorRows
import Derived.WalkKit
import Derived.WalkSpells
import Derived.WalkLawsBesides
import Derived.WalkSmall
import Derived.Handy
import Derived.Deep.QuietTactic
import Derived.BigQuiet
import Derived.RegionTactic
import Derived.BigRegion
import Derived.StillTailTactics
import Derived.Lib.Hide
import Derived.Laws.Rows
import Derived.Laws.CopyOwn
import Derived.Laws.CopyRow
import Derived.Deep.MidRow
import Derived.Deep.WholeRow
import Derived.Deep.Cut
import Derived.Deep.RegionLaw
import Derived.Laws.BytesArg
import Derived.MapKept
import Derived.Maps.AppendAt
import Derived.Deep.AppendSrc
import Derived.Deep.RegionHeld3
import Derived.ProofKit
import Derived.OpenShut
import Derived.Deep.DeepHandedRow
import Derived.Lib.LaidTab
import Derived.Lib.Bytealg
import Derived.Lib.Small
set_option maxRecDepth 100000
set_option maxHeartbeats 64000000
theorem Go.RowKit.Hid.o{p:Prop}(h:Go.RowKit.Hid p):p:=h
theorem Go.Shut.o{p:Prop}(h:Go.Shut p):p:=h
namespace Go.Proofs.YtahjnhmidjeniaaGreatDoor
theorem af.{u}:∀ {c : Prop}{_ : Decidable c}, ¬c → ∀ {α : Sort u}{t e : α}, (if c then t else e) = e:=@if_neg
theorem ah.{u}:∀ {c : Prop}{_ : Decidable c}, c → ∀ {α : Sort u}{t e : α}, (if c then t else e) = t:=@if_pos
theorem aB.{dI}:∀ {α : Type dI} [BEq α] [LawfulBEq α] {a b : α}, (a == b) = Bool.false ↔ a ≠ b:=@beq_eq_false_iff_ne
theorem aA:∀ {p : Prop} [Decidable p], Decidable.decide p = Bool.true ↔ p:=@decide_eq_true_iff
theorem aK:∀ {p : Prop} [Decidable p], ¬p → Decidable.decide p = Bool.false:=@decide_eq_false
theorem aL:∀ {p : Prop} [Decidable p], p → Decidable.decide p = Bool.true:=@decide_eq_true
theorem bI.{dI}:∀ {α : Type dI} [BEq α] [LawfulBEq α] {a b : α}, (a == b) = Bool.true ↔ a = b:=@beq_iff_eq
theorem gK:∀ {p : Prop}{_ : Decidable p}, Decidable.decide p = Bool.false ↔ ¬p:=@decide_eq_false_iff_not
theorem gX.{dI}:∀ {α : Type dI}{a b : α}, a ∈ [b] ↔ a = b:=@List.mem_singleton
theorem eG.{dI}:∀ {α : Type dI}{a : α}{s t : List α}, a ∈ s ++ t ↔ a ∈ s ∨ a ∈ t:=@List.mem_append
theorem gp.{dI}:∀ {α : Type dI}{b : α}{l : List α}{a : α}, a ∈ b :: l ↔ a = b ∨ a ∈ l:=@List.mem_cons
theorem jW:∀(b : Bool), (Bool.true && b) = b:=@Bool.true_and
theorem jX.{dI}:∀ {α : Type dI}{i : Nat}{l : List α}, (List.drop i l).length = l.length - i:=@List.length_drop
theorem nI.{dI}:∀ {α : Type dI}{x : α}{l : List α}, [x] ++ l = x :: l:=@List.singleton_append
theorem gq.{dI, yP}:∀ {α : Type dI}{β : Type yP}(a : α)(f : α → β), Option.map f (Option.some a) = Option.some (f a):=@Option.map_some
theorem aj:∀(n : Nat), n ≤ n:=@Nat.le_refl
theorem ax.{u}:∀ {α : Type u}{jh bs : List α}, (jh ++ bs).length = jh.length + bs.length:=@List.length_append
theorem ak:∀(B : Nat)(w : Go.World), Go.RowKit.Below B w w:=@Go.RowKit.Below.refl
theorem aX.{dI}:∀ {α : Type dI}{l : List α}{i : Nat}(h : i < l.length), l[i]? = Option.some l[i]:=@List.getElem?_eq_getElem
theorem eH.{dI}:∀ {α : Type dI}{i : Nat}{a : α}{l : List α}, l[i]? = Option.some a ↔ ∃(h : i < l.length), l[i] = a:=@List.getElem?_eq_some_iff
theorem aN.{u}:∀ {α : Type u}{a : α}{jh : List α}, (a :: jh).length = jh.length + 1:=@List.length_cons
theorem cu.{dI}:∀ {α : Type dI}{i : Nat}{b : α}{xs : Array α}, xs[i]? = Option.some b ↔ ∃(h : i < xs.size), xs[i] = b:=@Array.getElem?_eq_some_iff
theorem aI.{u}:∀ {α : Type u}(val yS : α), (Option.some val = Option.some yS) = (val = yS):=@Option.some.injEq
theorem bD.{u}:∀ {α : Type u}(jh bs cs : List α), jh ++ bs ++ cs = jh ++ (bs ++ cs):=@List.append_assoc
theorem bN.{dI}:∀ {α : Type dI}{l : List α}{i : Nat}{a : α}, l[i]? = Option.some a → a ∈ l:=@List.mem_of_getElem?
theorem aJ.{u, v}:∀ {α : Type u}{β : Type v}(fst : α)(snd : β)(I1 : α)(Mj : β), ((fst, snd) = (I1, Mj)) = (fst = I1 ∧ snd = Mj):=@Prod.mk.injEq
theorem iM.{dI}:∀ {α : Type dI}{l : List α}{i : Nat}{a : α}, l.getD i a = l[i]?.getD a:=@List.getD_eq_getElem?_getD
theorem gu.{u}:∀ {α : Type u}{a : α}, [a].length = 1:=@List.length_singleton
theorem bu:∀(a b : Bool), ((a && b) = Bool.true) = (a = Bool.true ∧ b = Bool.true):=@Bool.and_eq_true
theorem bM.{u}:∀ {α : Type u}{a : α}{jh bs : List α}, a :: jh ++ bs = a :: (jh ++ bs):=@List.cons_append
theorem dx:∀ {w w' : Go.World}{a : Go.Addr}, w'.heap[a.block]? = w.heap[a.block]? → w'.cell? a = w.cell? a:=@Go.World.cell?_of_block
theorem fM:∀ {n m k : Nat}, n < m → m ≤ k → n < k:=@Nat.lt_of_lt_of_le
theorem dQ.{dI, yP}:∀ {α : Type dI}{β : Type yP}{jh : List α}(f : α → β), (List.map f jh).length = jh.length:=@List.length_map
theorem eO:∀ {n m k : Nat}, n ≤ m → m ≤ k → n ≤ k:=@Nat.le_trans
theorem dV.{u}:∀ {α : Type u}{val yS : α}, Option.some val = Option.some yS → val = yS:=@Option.some.inj
theorem fO.{u}:∀ {α : Type u}, ([] : List α).length = 0:=@List.length_nil
theorem bA:∀(n : Nat), 0 ≤ n:=@Nat.zero_le
theorem bE.{u}:∀ {α : Type u}(jh : List α), jh ++ [] = jh:=@List.append_nil
theorem jA:∀(w : Go.World)(a : Go.Addr)(u : Go.Value)(k : Nat), k ≠ a.block → (w.setCell a u).heap[k]? = w.heap[k]?:=@Go.RowKit.Below.heap_setCell
theorem mK.{dI}:∀ {α : Type dI}{l : List α}, l.length = 0 → l = []:=@List.eq_nil_of_length_eq_zero
theorem gV:∀(w : Go.World)(o : Go.Obj), (w.alloc o).heap[w.heap.size]? = Option.some o ∧ ∀(r' : Nat), r' < w.heap.size → (w.alloc o).heap[r']? = w.heap[r']?:=@Go.MapKept.heap_alloc
theorem iB.{dI}:∀ {α : Type dI}{i : Nat}{l : List α}, (List.take i l).length = Min.min i l.length:=@List.length_take
theorem eY.{u}:∀ {α : Type u}(jh : List α), [] ++ jh = jh:=@List.nil_append
theorem gW.{dI, yP}:∀ {α : Type dI}{β : Type yP}{f : α → β}{l₁ l₂ : List α}, List.map f (l₁ ++ l₂) = List.map f l₁ ++ List.map f l₂:=@List.map_append
theorem fD.{u, v}:∀ {α : Type u}{β : Type v}{x : α}{xs : List α}{f : α → List β}, List.flatMap f (x :: xs) = f x ++ List.flatMap f xs:=@List.flatMap_cons
theorem mM.{dI}:∀ {α : Type dI}{i : Nat}{l : List α}, l.length ≤ i → List.take i l = l:=@List.take_of_length_le
theorem iC:∀(w : Go.World)(o : Go.Obj), (w.alloc o).heap.size = w.heap.size + 1:=@Go.World.size_alloc
theorem fP.{u, v}:∀ {α : Type u}{β : Type v}{f : α → β}{a : α}{l : List α}, List.map f (a :: l) = f a :: List.map f l:=@List.map_cons
theorem ae{p:Prop}(h:p):Go.RowKit.Hid p:=h
end Go.Proofs.YtahjnhmidjeniaaGreatDoor
namespace Go.Proofs.YtahjnhmidjeniaaGreatDoor
open Go.RowKit
variable {a a':Act}{K:Act→World→Prop}{gI listed:Array Bool}{ops:Array Oper}{Q:Exit→Act→World→Prop}{c r x:Int}{sh:List Int}{B base bytes cap fuel g i k n size t:Nat}{oi:Oper}{d:Option Tmp}{P:Program}{md:Region.Mode}{α:Type}{e:TypeId}{w w':World}{S:World→Prop}
theorem run_storeVar_row (w:World)(g:Nat)(ty t:TypeId)(cur cells:Array Value)(hg:w.heap[g]? = some (.cells cur t))(hs:cur.size=cells.size)
 (hi:(P.info? ty).map (·.size)=some cells.size) (h1:∀v∈cells.toList,v.oneCell'=true) :
 (storeVar ty ⟨g,0,none⟩ (.agg cells)).run P w = .ok () (w.setRow g cells):=by
 have:=run_storeCells_at P g 0 t cells.toList 0 cur w hg (by simp;omega) h1;cases hq:P.info? ty with
 | none=>simp[hq]at hi
 | some i =>
   have hs':cells.size=i.size:=by simp[hq]at hi;omega
   simp[storeVar,sizeOf,typeInfo,hq,Value.cells,hs',this];congr 1;have:List.drop i.size cur.toList=[]:=by rw[List.drop_eq_nil_iff];simp;omega
   rw[this];simp
theorem wp_store_row {op:Oper}(ty:TypeId)(x y:Operand)(ho:op.op = .store ty x y)
 (g:Nat) (t:TypeId) (cur cells:Array Value) (hx:a.eval x = .pointer (some ⟨g,0,none⟩)) (hy:a.eval y = .agg cells) (hg:w.heap[g]? = some (.cells cur t)) (hs:cur.size=cells.size)
 (hi:(P.info? ty).map (·.size)=some cells.size) (h1:∀v∈cells.toList,v.oneCell'=true)
 (h:K (a.put op.dst undef) (w.setRow g cells)):op.wp P a w K Q:=by
 unfold Oper.wp execOp;simp only[ho,hx,hy,Instr.storeAt,Instr.sureAddr,Sem.run_bind,Sem.run_pure,Result.andThen_ok,run_storeVar_row w g ty t cur cells hg hs hi h1];exact h
theorem wpList_store_row {rest:List Oper}{op:Oper}(hgd:op.guard=none)(ty:TypeId)(x y:Operand)(ho:op.op = .store ty x y)
 (g:Nat) (t:TypeId) (cur cells:Array Value) (hx:a.eval x = .pointer (some ⟨g,0,none⟩)) (hy:a.eval y = .agg cells) (hg:w.heap[g]? = some (.cells cur t)) (hs:cur.size=cells.size)
 (hi:(P.info? ty).map (·.size)=some cells.size) (h1:∀v∈cells.toList,v.oneCell'=true)
 (h:wpList P ops Q rest (a.put op.dst undef) (w.setRow g cells)):wpList P ops Q (op :: rest) a w :=
 wpList_plain hgd fun _ hK=>wp_store_row ty x y ho g t cur cells hx hy hg hs hi h1 (hK _ _ h)
structure Elem (P:Program)(t e:TypeId)(size bytes:Nat):Prop where
 und:P.underlying t=some (.slice e)
 inf:∃z:Value,(P.info? e).map (fun i=>(i.zero,i.size,i.bytes))=some (some z,size,bytes)∧z.cells.size=size
 pos:0<size
structure Enc (α : Type)(size:Nat) where
 f : α → List Value
 len:∀a,(f a).length=size
 one:∀a,∀u∈f a,u.oneCell'=true
def Enc.all{α : Type}{size:Nat}(E:Enc α size)(xs:List α):List Value:=xs.flatMap E.f
theorem Enc.iZ (E:Enc α size)(xs:List α):(E.all xs).length=xs.length*size:=by
 unfold Enc.all
 induction xs with
 | nil=>simp
 | cons a l ih=>rw[fD,ax,ih,E.len,aN,Nat.add_mul];omega
theorem Enc.all_append (E:Enc α size)(xs ys:List α):E.all (xs++ys)=E.all xs++E.all ys:=by
 unfold Enc.all;exact List.flatMap_append ..
theorem Enc.tK (E:Enc α size)(xs:List α):∀u∈E.all xs,u.oneCell'=true:=by
 intro u hu;unfold Enc.all at hu;rw[List.mem_flatMap]at hu;obtain⟨a,_,h⟩:=hu;exact E.one a u h
theorem Enc.at (E:Enc α size)(xs:List α)(i j:Nat)(a : α)(ha:xs[i]? = some a)(hj:j<size):(E.all xs)[i*size+j]? = (E.f a)[j]? := by
 unfold Enc.all
 induction xs generalizing i with
 | nil=>simp at ha
 | cons b l ih =>
   rw[fD];cases i with
   | zero =>
     simp at ha;subst ha;rw[Nat.zero_mul,Nat.zero_add,List.getElem?_append_left (by rw[E.len];exact hj)]
   | succ i =>
     have:(i+1)*size=i*size+size:=Nat.succ_mul i size;rw[List.getElem?_append_right (by rw[E.len];omega),E.len];have e:(i+1)*size+j - size=i*size+j:=by omega
     rw[e];exact ih i (by simpa using ha)
def Own{α : Type}{size:Nat}(E:Enc α size)(e:TypeId)(w:World)(base:Nat)(v:Value)(xs:List α):Prop:=w.ownsRow base e size v xs.length (E.all xs)
theorem Own.nil(E:Enc α size)(e:TypeId)(w:World)(base:Nat):Own E e w base (.slice none 0 0) ([]:List α):=World.ownsRow_nil w base e size
theorem Own.alloc{E:Enc α size}{v:Value}{xs:List α}(h:Own E e w base v xs)(o:Obj):Own E e (w.alloc o) base v xs:=World.ownsRow.alloc h o
theorem Own.drew{E:Enc α size}{v:Value}{xs:List α}(h:Own E e w base v xs):Own E e w.drew base v xs:=h
theorem Own.drewN{E:Enc α size}{v:Value}{xs:List α}(h:Own E e w base v xs)(n:Nat):Own E e (w.drewN n) base v xs:=h
theorem Own.mono {E:Enc α size}{Hf:Nat}{v:Value}{xs:List α}(h:Own E e w base v xs)(hb:Hf≤base):Own E e w Hf v xs:=by
 refine⟨h.1, ?_⟩;rcases h.2 with h|⟨g,cap,cur,h1,h2,h3⟩
 · exact .inl h
 · exact .inr ⟨g,cap,cur,h1,by omega,h3⟩
theorem Own.below {E:Enc α size}{v:Value}{xs:List α}(h:Own E e w base v xs)(hb:Below B w w')(hB:w.heap.size≤B):Own E e w' base v xs:=by
 refine⟨h.1, ?_⟩;rcases h.2 with h|⟨g,cap,cur,h1,h2,h3,h4⟩
 · exact .inl h
 · refine .inr ⟨g,cap,cur,h1,h2, ?_,h4⟩
   rw[hb.block g (by have:=(cu.1 h3).1;omega)];exact h3
theorem Own.shape {E:Enc α size}{v:Value}{xs:List α}(h:Own E e w base v xs) :
 (v = .slice none 0 0∧xs=[])∨∃g cap,v = .slice (some ⟨g,0,none⟩) xs.length cap∧base≤g∧g<w.heap.size∧xs.length≤cap∧cap≤maxLen:=by
 rcases h.2 with ⟨h1,h2⟩|⟨g,cap,cur,h1,h2,h3,h4,h5,_⟩
 · exact .inl ⟨h1,List.length_eq_zero_iff.1 h2⟩
 · exact .inr ⟨g,cap,h1,h2,(cu.1 h3).1,h4,h5⟩
theorem Own.cells {E:Enc α size}{xs:List α}(h:Own E e w base (.slice (some ⟨g,0,none⟩) n cap) xs)(j:Nat)(u:Value)(hj:(E.all xs)[j]? = some u) :
 w.cell? ⟨g,j,none⟩=some u:=by
 have:=World.ownsRow.cells h (g:=g) rfl j u hj;rw[Addr.add_mid,Nat.zero_add]at this;exact this
theorem lW {e:Nat}{rest:List Oper}{o:Oper}(bS:Elem P t e size bytes)(E:Enc α size)
 (hgd:o.guard=none) (s x:Operand) (ho:o.op = .call { callee := .builtin .append,args:=#[s,x],argTypes:=#[t,t] }) (base:Nat) (v:Value) (xs:List α)
 (hs:a.eval s=v) (dK:Own E e w base v xs) (ad:Addr) (m c:Nat) (ys:List α) (hx:a.eval x = .slice (some ad) m c) (hl:ys.length=m)
 (hc:∀(j:Nat)(u:Value),(E.all ys)[j]? = some u→w.cell? (ad.add j)=some u) (hb:(xs.length+m)*bytes≤140737488355328) (hb2:xs.length+m≤maxLen) (dF:base≤w.heap.size)
 (h:∀(v':Value)(w':World),Own E e w' base v' (xs++ys)→Below base w w'→wpList P ops Q rest (a.put o.dst v') w'):wpList P ops Q (o :: rest) a w:=by
 obtain⟨z,hi,hz⟩:=bS.inf;obtain⟨i,hi1,hi2,hi3,hi4⟩:=info_parts hi;refine wpList_append_own w hgd s x t ho base e i z size bytes bS.und hi1 hi2 hi3 hi4 hz bS.pos v xs.length (E.all xs) hs dK ad m c (E.all ys) hx (by rw[E.iZ,hl]) hc (E.tK ys) hb2 hb dF ?_;intro v' w' h1 h2 _;refine h v' w' ?_ ?_
 · unfold Own;rw[E.all_append,ax,hl];exact h1
 · refine Below.grown (ak _ _) h2 dF ?_
   intro k hk;exact(World.ownsRow.lt dK k hk).1
theorem iH (C:Array Value)(t:TypeId)(l:List Value)(hC:C.toList=l)(j:Nat)(u:Value)(hj:l[j]? = some u):(w.alloc (.cells C t)).cell? ((⟨w.heap.size,0,none⟩:Addr).add j)=some u:=by
 rw[Addr.add_mid,Nat.zero_add,World.cell?_alloc_at _ _ _ _ rfl];subst hC
 simpa using hj
def bK(k:IntKind):Enc Int 1:={ f:=fun n=>[.int k n],len:=fun _=>rfl,one:=fun _ u hu=>by simp at hu;subst hu;rfl }
theorem uF (k:IntKind)(l:List Int):(bK k).all l=l.map (Value.int k):=by
 unfold Enc.all bK
 induction l with
 | nil=>rfl
 | cons a l ih=>rw[fD,fP,ih];rfl
theorem RO (k:IntKind)(xs:List Int)(i:Nat)(h:i<xs.length):(xs.map (Value.int k))[i]? = some (.int k (xs.getD i 0)):=by
 simp[List.getElem?_eq_getElem h,List.getD_eq_getElem?_getD]
theorem Own.JV {k:IntKind}{xs:List Int}(h:Own (bK k) e w base (.slice (some ⟨g,0,none⟩) n cap) xs)(i:Nat)(hi:i<xs.length) :
 w.cell? ⟨g,i,none⟩=some (.int k (xs.getD i 0)):=by
 apply Own.cells h;rw[uF];exact RO k xs i hi
theorem Own.some {E:Enc α size}{v:Value}{xs:List α}(h:Own E e w base v xs)(hne:0<xs.length) :
 ∃g cap,v = .slice (some ⟨g,0,none⟩) xs.length cap∧base≤g∧g<w.heap.size∧xs.length≤cap∧cap≤maxLen:=by
 rcases h.shape with ⟨_,rfl⟩|h
 · exact absurd hne (by simp)
 · exact h
theorem H7 {row:Option Nat}(h:w.grownBy w' row){a:Addr}(hlt:a.block<w.heap.size)(hne:some a.block≠row):w'.cell? a=w.cell? a:=by
 simp only[World.cell?,h.block a.block hlt hne]
theorem grownBy.dH(w:World)(r:Option Nat):w.grownBy w r:=⟨rfl,rfl,rfl,aj _,fun _ _ _=>rfl⟩
theorem grownBy.trans' {a b c:World}{r:Option Nat}(h:a.grownBy b r)(k:b.grownBy c r):a.grownBy c r :=
 ⟨k.os.trans h.os,k.tape.trans h.tape,k.output.trans h.output,eO h.size k.size,fun j hj hr=>(k.block j (fM hj h.size) hr).trans (h.block j hj hr)⟩
theorem grownBy.dP {a:World}{b:Nat}(h:a.grownBy w (some b))(o:Nat)(v:Value):a.grownBy (w.setCell ⟨b,o,none⟩ v) (some b) :=
 ⟨h.os,h.tape,h.output,by simpa using h.size,fun j hj hr=>by
  rw[jA _ _ _ _ (by intro e;exact hr (by rw[e]))];exact h.block j hj hr⟩
theorem grownBy.bZ{a:World}{r:Option Nat}(h:a.grownBy w r)(n:Nat):a.grownBy (w.drewN n) r:=⟨h.os,h.tape,h.output,h.size,h.block⟩
theorem grownBy.below' {a:World}{r:Option Nat}(h:a.grownBy w r)(k:Below w.heap.size w w'):a.grownBy w' r :=
 ⟨k.os.trans h.os,k.tape.trans h.tape,k.output.trans h.output,eO h.size k.size,fun j hj hr=>(k.block j (fM hj h.size)).trans (h.block j hj hr)⟩
theorem LA{k:IntKind}{a b:Int}(h:a=b):Ending.returned (.int k a) = .returned (.int k b):=by rw[h]
def sb(s:ByteArray):List Int:=s.data.toList.map (fun b=>(b.toNat:Int))
theorem bn(s:ByteArray):(sb s).length=s.size:=by unfold sb;simp
theorem p8 (s:ByteArray)(k:Nat)(h:k<s.size):(sb s)[k]? = some ((s[k].toNat:Nat):Int):=by
 unfold sb;rw[List.getElem?_map,aX (by simpa using h)];rfl
theorem p9 (s:ByteArray):∀a∈sb s,0≤a∧a≤255:=by
 intro a ha;unfold sb at ha;rw[List.mem_map]at ha;obtain⟨b,_,rfl⟩:=ha;have:=b.toNat_lt;omega
theorem yD (s:ByteArray)(k:Nat)(h:k<s.size):(sb s).getD k 0=((s[k].toNat:Nat):Int):=by
 rw[iM,p8 s k h];rfl
def Bytes(l:List Int):Prop:=∀a∈l,0≤a∧a≤255
theorem Bytes.append {a b:List Int}(h:Bytes a)(k:Bytes b):Bytes (a++b):=by
 intro x hx;rw[eG]at hx;rcases hx with hx|hx
 · exact h x hx
 · exact k x hx
theorem Bytes.nil:Bytes []:=by intro a ha;simp at ha
theorem iJ (l:List Int)(h:Bytes l):sb (strOfNums l)=l:=by
 unfold sb;rw[strOfNums_data,List.map_map]
 conv=>rhs;rw[← List.map_id l]
 apply List.map_congr_left;intro a ha;have:=h a ha;simp only[Function.comp,id];rw[UInt8.toNat_ofNat_of_lt' (by show a.toNat<256;omega)];omega
theorem oH (s:ByteArray):strOfNums (sb s)=s:=by
 have:(strOfNums (sb s)).data=s.data:=by
  apply Array.toList_inj.1;rw[strOfNums_data];unfold sb;rw[List.map_map]
  conv=>rhs;rw[← List.map_id s.data.toList]
  apply List.map_congr_left;intro a _;simp only[Function.comp,id,Int.toNat_natCast];exact UInt8.ofNat_toNat
 cases s with
 | mk d => 
   cases hq:strOfNums (sb ⟨d⟩)with
   | mk e=>rw[hq]at this;simp only at this;rw[this]
def aP(c:Int):Bool:=decide (65≤c∧c≤90)
def isLet(c:Int):Bool:=decide (65≤c∧c≤90∨97≤c∧c≤122)
def isNum(c:Int):Bool:=decide (48≤c∧c≤57)
theorem fB{a b:Bool}(h:a=b):Ending.returned (.bool a) = .returned (.bool b):=by rw[h]
theorem D7(h:65≤c)(h2:c≤90):aP c=true:=by unfold aP;rw[aA];omega
theorem JX(h:c<65∨90<c):aP c=false:=by unfold aP;rw[gK];omega
def mZ(j:Nat)(c:Int):Bool:=isLet c||(decide (0<j)&&isNum c)
def fe(l:List Int):Bool:=decide (∀j,j<l.length→mZ j (l.getD j 0)=true)&&decide (1≤l.length∧l.length≤12)
def bH(n:Int):List Int:=if n<0∨701<n then []else if n<26 then [65+n]else [64+n / 26,65+n % 26]
def jl(l:List Int):Bool:=decide (1≤l.length∧l.length≤2)&&(aP (l.getD 0 0)&&aP (l.getD (l.length - 1) 0))
def mG(l:List Int):Int:=if jl l=true then (if l.length=1 then l.getD 0 0 - 65 else 26*(l.getD 0 0 - 64)+(l.getD 1 0 - 65))else 0
theorem KP (s:ByteArray)(k:Nat)(hk:k<s.size)(h:mZ k ((sb s).getD k 0)=false):fe (sb s)=false:=by
 unfold fe;rw[aK (by intro hc;have:=hc k (by rw[bn];exact hk);rw[h]at this;cases this),Bool.false_and]
theorem U9 (s:ByteArray)(h:∀j,j<s.size→mZ j ((sb s).getD j 0)=true):fe (sb s)=decide (1≤s.size∧s.size≤12):=by
 unfold fe;rw[aL (by rw[bn];exact h),jW,bn]
theorem A7 (a b:List Int):strOfNums a++strOfNums b=strOfNums (a++b):=by
 have h:(strOfNums a++strOfNums b).data=(strOfNums (a++b)).data:=by
  apply Array.toList_inj.1;rw[ByteArray.data_append,Array.toList_append,strOfNums_data,strOfNums_data,strOfNums_data,gW]
 cases hx:strOfNums a++strOfNums b with
 | mk d =>
   cases hy:strOfNums (a++b)with
   | mk e=>rw[hx,hy]at h;simp only at h;rw[h]
theorem XU (a b:ByteArray):sb (a++b)=sb a++sb b:=by
 unfold sb;rw[ByteArray.data_append,Array.toList_append,gW]
theorem LB{a b:ByteArray}(h:a=b):Ending.returned (.string a) = .returned (.string b):=by rw[h]
def aW(u:Nat):List Int:=if u<10 then [48+(u:Int)]else aW (u / 10)++[48+((u % 10:Nat):Int)]
termination_by u
decreasing_by omega
theorem nU(u:Nat)(h:u<10):aW u=[48+(u:Int)]:=by rw[aW,ah h]
theorem rC(u:Nat)(h:¬ u<10):aW u=aW (u / 10)++[48+((u % 10:Nat):Int)]:=by rw[aW,af h]
def sQ(n:Int):List Int:=if n<0 then 45 :: aW n.natAbs else aW n.natAbs
def ek(sh:List Int)(c r:Int):Bool:=(decide (sh=[])||fe sh)&&decide (0≤c∧c≤701∧0≤r∧r≤998)
def bC (sh:List Int)(c r:Int)(ac ar:Bool):List Int :=
 if ek sh c r=true then (((if sh=[]then []else sh++[33])++(if ac=true then [36]else []))++bH c++(if ar=true then [36]else []))++aW (r+1).toNat else []
theorem rP(a:ByteArray):a.toList=a.data.toList:=ByteArray.toList_eq a
theorem yI (a b:ByteArray)(h:¬ a=b):¬ a.toList=b.toList:=by
 rw[rP,rP,Array.toList_inj];intro hd;apply h;cases a;cases b;simp only at hd;rw[hd]
theorem yJ (a:ByteArray)(h:¬ a.size=0):¬ a.toList=[]:=by
 rw[rP];intro hd;apply h;show a.data.size=0;rw[← Array.length_toList,hd];rfl
theorem wM (s:ByteArray)(h:s.size=0):s=⟨#[]⟩:=by
 cases s with
 | mk d => have:d=#[]:=Array.eq_empty_of_size_eq_zero h
           rw[this]
theorem Ux(n:Int):(bH n).length≤2:=by unfold bH;split <;> (try split) <;> simp
theorem Uy (u:Nat):(aW u).length≤u+1:=by
 induction u using Nat.strongRecOn with
 | _ u ih =>
   by_cases h:u<10
   · rw[nU u h];simp
   · rw[rC u h,ax]
     have:=ih (u / 10) (by omega);simp only[aN,fO];omega
theorem U4 (h:ek sh c r=true):0≤c∧c≤701∧0≤r∧r≤998:=by
 unfold ek at h;rw[bu,aA]at h;exact h.2
theorem PH {w0 w1 w2 w3:World}(h0:Below w.heap.size w w0)(h1:Below w0.heap.size w0 w1)(h2:Below w1.heap.size w1 w2)(h3:Below w2.heap.size w2 w3):Below w.heap.size w w3:=by
 have b1:=h0.trans (h1.mono h0.size);have b2:=b1.trans (h2.mono b1.size);exact b2.trans (h3.mono b2.size)
theorem yH (p:Int→Bool):∀(a a' b b':List Int),(∀x∈a,p x=true)→(∀x∈a',p x=true)→(∀x,b.head? = some x→p x=false)→(∀x,b'.head? = some x→p x=false)→a++b=a'++b'→a=a'∧b=b'
 | [],[],_,_,_,_,_,_,h=>⟨rfl,h⟩
 | [],x :: a',b,b',_,h2,h3,_,h=>by
   rw[eY]at h;have:=h3 x (by rw[h];rfl);rw[h2 x (by simp)]at this;cases this
 | x :: a,[],b,b',h1,_,_,h4,h=>by
   rw[eY]at h;have:=h4 x (by rw[← h];rfl);rw[h1 x (by simp)]at this;cases this
 | x :: a,y :: a',b,b',h1,h2,h3,h4,h=>by
   rw[bM,bM]at h;injection h with e h;obtain⟨r1,r2⟩:=yH p a a' b b' (fun z hz=>h1 z (by simp[hz])) (fun z hz=>h2 z (by simp[hz])) h3 h4 h;exact⟨by rw[e,r1],r2⟩
theorem pR (c:Int):∀x∈bH c,aP x=true:=by
 intro x hx;unfold bH at hx;split at hx
 · simp at hx
 · split at hx
   · simp at hx;subst hx;exact D7 (by omega) (by omega)
   · simp at hx
     rcases hx with rfl|rfl
     · exact D7 (by omega) (by omega)
     · exact D7 (by omega) (by omega)
theorem EB (c:Int)(h0:0≤c)(h1:c≤701):jl (bH c)=true∧mG (bH c)=c:=by
 have rH:=pR c;by_cases h:c<26
 · have e:bH c=[65+c]:=by unfold bH;rw[af (by omega),ah h]
   have hc:jl (bH c)=true:=by rw[e]at rH ⊢;unfold jl;have:=rH (65+c) (by simp);simp[this]
   refine⟨hc, ?_⟩;unfold mG;rw[ah hc,e];simp;omega
 · have e:bH c=[64+c / 26,65+c % 26]:=by unfold bH;rw[af (by omega),af h]
   have hc:jl (bH c)=true:=by rw[e]at rH ⊢;unfold jl;have g1:=rH (64+c / 26) (by simp);have g2:=rH (65+c % 26) (by simp);simp[g1,g2]
   refine⟨hc, ?_⟩;unfold mG;rw[ah hc,e];simp;omega
theorem mX(h:aP x=true):65≤x∧x≤90:=by unfold aP at h;rw[aA]at h;exact h
theorem oq(h:isNum x=true):48≤x∧x≤57:=by unfold isNum at h;rw[aA]at h;exact h
theorem Qv (l:List Int)(h:jl l=true):bH (mG l)=l∧0≤mG l∧mG l≤701:=by
 have hr:mG l=(if l.length=1 then l.getD 0 0 - 65 else 26*(l.getD 0 0 - 64)+(l.getD 1 0 - 65)):=by unfold mG;rw[ah h]
 unfold jl at h;rw[bu,bu,aA]at h;obtain⟨⟨h1,h2⟩,h3,h4⟩:=h
 match l,h1,h2,h3,h4,hr with
 | [a],_,_,h3,_,hr =>
   have:=mX h3;simp at this hr;rw[hr];refine⟨?_,by omega,by omega⟩;unfold bH;rw[af (by omega),ah (by omega)];congr 1;omega
 | [a,b],_,_,h3,h4,hr =>
   have g1:=mX h3;have g2:=mX h4;simp at g1 g2 hr;rw[hr];refine⟨?_,by omega,by omega⟩;unfold bH;rw[af (by omega),af (by omega)];congr 1
   · omega
   · congr 1;omega
theorem pV (u:Nat):∀x∈aW u,isNum x=true:=by
 induction u using Nat.strongRecOn with
 | _ u ih =>
   intro x hx;by_cases h:u<10
   · rw[nU u h]at hx;simp at hx;subst hx;unfold isNum;rw[aA];omega
   · rw[rC u h,eG]at hx
     rcases hx with hx|hx
     · exact ih (u / 10) (by omega) x hx
     · simp at hx;subst hx;unfold isNum;rw[aA];omega
def bV(l:List Int):Int:=l.foldl (fun n d=>10*n+(d - 48)) 0
theorem yR(l:List Int)(d:Int):bV (l++[d])=10*bV l+(d - 48):=by unfold bV;rw[List.foldl_append];rfl
theorem Bg (u:Nat):bV (aW u)=u:=by
 induction u using Nat.strongRecOn with
 | _ u ih =>
   by_cases h:u<10
   · rw[nU u h];unfold bV;simp;omega
   · rw[rC u h,yR,ih (u / 10) (by omega)];omega
theorem nT (u:Nat):aW u≠[]:=by
 by_cases h:u<10
 · rw[nU u h];simp
 · rw[rC u h];simp
theorem zR (c:Int)(h0:0≤c)(h1:c≤701):bH c≠[]:=by
 unfold bH;rw[af (by omega)];split <;> simp
def cZ(b:Bool):List Int:=if b=true then [36]else []
theorem rD(b:Bool):∀x∈cZ b,decide (x=36)=true:=by cases b <;> simp[cZ]
theorem Iw{a b:Bool}(h:cZ a=cZ b):a=b:=by cases a <;> cases b <;> simp[cZ]at h ⊢
def lV(c r:Int)(ac ar:Bool):List Int:=cZ ac++(bH c++(cZ ar++aW (r+1).toNat))
theorem head_append {a b:List Int}(h:a≠[])(hx:(a++b).head? = some x):x∈a:=by
 cases a with
 | nil=>exact absurd rfl h
 | cons y a=>simp at hx;subst hx;simp
theorem Mv {c' r':Int}{ac ar sJ ru:Bool}(h0:0≤c)(h1:c≤701)(h2:0≤r)(k0:0≤c')(k1:c'≤701)(k2:0≤r')(h:lV c r ac ar=lV c' r' sJ ru):c=c'∧r=r'∧ac=sJ∧ar=ru:=by
 unfold lV at h;have Av:∀x,aP x=true→decide (x=36)=false:=by intro x hx;have:=mX hx;rw[gK];omega
 have Aw:∀x,isNum x=true→decide (x=36)=false:=by intro x hx;have:=oq hx;rw[gK];omega
 have KS:∀(b:Bool)(u:Nat)(x:Int),(cZ b++aW u).head? = some x→aP x=false:=by
  intro b u x hx;cases b with
  | true=>simp[cZ]at hx;subst hx;decide
  | false =>
    have hx':(aW u++[]).head? = some x:=by simpa [cZ]using hx
    have:=oq (pV u x (head_append (nT u) hx'));exact JX (by omega)
 obtain ⟨e1,e2⟩:=yH (fun x=>decide (x=36)) _ _ _ _ (rD ac) (rD sJ)
  (fun x hx=>Av x (pR c x (head_append (zR c h0 h1) hx))) (fun x hx=>Av x (pR c' x (head_append (zR c' k0 k1) hx))) h
 obtain⟨e3,e4⟩:=yH aP _ _ _ _ (pR c) (pR c') (KS ar _) (KS ru _) e2
 obtain ⟨e5,e6⟩:=yH (fun x=>decide (x=36)) _ _ _ _ (rD ar) (rD ru)
  (fun x hx=>Aw x (pV _ x (head_append (nT _) (by rw[bE];exact hx)))) (fun x hx=>Aw x (pV _ x (head_append (nT _) (by rw[bE];exact hx)))) e4
 refine⟨?_, ?_,Iw e1,Iw e5⟩
 · rw[← (EB c h0 h1).2, ← (EB c' k0 k1).2,e3]
 · have:=Bg (r+1).toNat
   rw[e6,Bg]at this;omega
theorem E8 (c r:Int)(ac ar:Bool):∀x∈lV c r ac ar,x≠33:=by
 intro x hx;unfold lV at hx;simp only[eG]at hx;rcases hx with h|h|h|h
 · have:=rD _ x h;rw[aA]at this;omega
 · have:=mX (pR c x h);omega
 · have:=rD _ x h;rw[aA]at this;omega
 · have:=oq (pV _ x h);omega
theorem Eo (l:List Int)(h:fe l=true):∀x∈l,x≠33:=by
 intro x hx;unfold fe at h;rw[bu,aA]at h;obtain⟨j,hj,rfl⟩:=List.mem_iff_getElem.1 hx;have:=h.1 j hj;rw[iM,aX hj]at this;simp only[Option.getD_some]at this;unfold mZ isLet isNum at this;simp only[Bool.or_eq_true,bu,aA]at this;omega
theorem yl (h:ek sh c r=true):sh=[]∨fe sh=true:=by
 unfold ek at h;rw[bu,Bool.or_eq_true,aA]at h;exact h.1
theorem Aq (h:ek sh c r=true):0≤c∧c≤701∧0≤r∧r≤998:=by
 unfold ek at h;rw[bu,aA]at h;exact h.2
theorem vC (sh:List Int)(c r:Int)(ac ar:Bool)(h:ek sh c r=true):bC sh c r ac ar=(if sh=[]then []else sh++[33])++lV c r ac ar:=by
 unfold bC lV cZ;rw[ah h];simp only[bD]
theorem MC {sh':List Int}{c' r':Int}{ac ar sJ ru:Bool}(h:ek sh c r=true)(k:ek sh' c' r'=true)(e:bC sh c r ac ar=bC sh' c' r' sJ ru) :
 sh=sh'∧c=c'∧r=r'∧ac=sJ∧ar=ru:=by
 obtain⟨h0,h1,h2,_⟩:=Aq h;obtain⟨k0,k1,k2,_⟩:=Aq k;rw[vC _ _ _ _ _ h,vC _ _ _ _ _ k]at e;by_cases hs:sh=[]
 · by_cases ks:sh'=[]
   · rw[ah hs,ah ks]at e
     exact⟨by rw[hs,ks],Mv h0 h1 h2 k0 k1 k2 e⟩
   · rw[ah hs,af ks,eY]at e
     exact absurd rfl (E8 c r ac ar 33 (by rw[e];simp))
 · by_cases ks:sh'=[]
   · rw[af hs,ah ks,eY]at e
     exact absurd rfl (E8 c' r' sJ ru 33 (by rw[← e];simp))
   · rw [af hs,af ks,bD,bD]at e
     have n1:=(yl h).resolve_left hs;have n2:=(yl k).resolve_left ks
     obtain ⟨e1,e2⟩:=yH (fun x=>decide (x≠33)) _ _ _ _ (fun x hx=>by rw[aA];exact Eo _ n1 x hx) (fun x hx=>by rw[aA];exact Eo _ n2 x hx)
      (fun x hx=>by simp at hx;subst hx;rfl) (fun x hx=>by simp at hx;subst hx;rfl) e
     exact⟨e1,Mv h0 h1 h2 k0 k1 k2 (by injection e2)⟩
structure OV where
 nm:ByteArray
 bB:Int
 rows:List (List ByteArray)
theorem Own.keep {E:Enc α size}{v:Value}{xs:List α}(h:Own E e w base v xs)
 (hk:∀g,base≤g→g<w.heap.size→v.ownBlock=Option.some g→w'.heap[g]? = w.heap[g]?):Own E e w' base v xs:=by
 refine⟨h.1, ?_⟩;rcases h.2 with h|⟨g,cap,cur,h1,h2,h3,h4⟩
 · exact .inl h
 · refine .inr ⟨g,cap,cur,h1,h2, ?_,h4⟩
   rw[hk g h2 (cu.1 h3).1 (by rw[h1];rfl)];exact h3
theorem Own.lies {E:Enc α size}{v:Value}{xs:List α}(h:Own E e w base v xs)(hg:v.ownBlock=Option.some g):base≤g∧∃cur,w.heap[g]? = Option.some (.cells cur e (0,0)):=by
 rcases h.2 with ⟨h1,_⟩|⟨b,cap,cur,h1,h2,h3,_⟩
 · rw[h1]at hg;cases hg
 · rw[h1]at hg;injection hg with hg
   have hg:b=g:=hg;subst hg;exact⟨h2,cur,h3⟩
theorem Own.CB {β: Type}{s1 s2:Nat}{E:Enc α s1}{F:Enc β s2}{f:TypeId}{b1 b2:Nat}{u v:Value}{xs:List α}{ys:List β}(h:Own E e w b1 u xs)(k:Own F f w b2 v ys)(hne:e≠f)(hg:u.ownBlock=Option.some g):Option.some g≠v.ownBlock:=by
 intro hv;obtain⟨_,c1,h1⟩:=h.lies hg;obtain⟨_,c2,h2⟩:=k.lies hv.symm;rw[h1]at h2;injection h2 with h2;injection h2 with h2 h3;exact hne h3
def dE {α : Type}{k:Nat}(E:Enc α k)(w:World)(B:Nat)(v:Value)(xs:List α):Prop :=
 ∃A cap,v = .slice A xs.length cap∧xs.length≤cap∧cap≤maxLen∧(xs=[]∨∃pb po,A=some ⟨pb,po,none⟩∧pb<B∧∀(j:Nat)(u:Value),(E.all xs)[j]? = some u→w.cell? ⟨pb,po+j,none⟩=some u)
theorem dE.below {E:Enc α k}{C:Nat}{v:Value}{xs:List α}(h:dE E w B v xs)(hb:Below C w w')(hC:B≤C):dE E w' B v xs:=by
 obtain⟨A,cap,h1,h2,h3,h4⟩:=h;refine⟨A,cap,h1,h2,h3,h4.imp id ?_⟩;rintro⟨pb,po,e1,e2,e3⟩;exact⟨pb,po,e1,e2,fun j x hj=>(hb.cell (p:=⟨pb,po+j,none⟩) (by show pb<C;omega)).trans (e3 j x hj)⟩
theorem dE.mono {E:Enc α k}{C:Nat}{v:Value}{xs:List α}(h:dE E w B v xs)(hC:B≤C):dE E w C v xs:=by
 obtain⟨A,cap,h1,h2,h3,h4⟩:=h;refine⟨A,cap,h1,h2,h3,h4.imp id ?_⟩;rintro⟨pb,po,e1,e2,e3⟩;exact⟨pb,po,e1,by omega,e3⟩
theorem dE.lift{E:Enc α k}{v:Value}{xs:List α}(h:dE E w w.heap.size v xs)(hb:Below w.heap.size w w'):dE E w' w'.heap.size v xs:=(h.below hb (aj _)).mono hb.size
theorem Own.se {E:Enc α k}{v:Value}{xs:List α}(h:Own E e w base v xs):dE E w w.heap.size v xs:=by
 rcases h.shape with ⟨rfl,rfl⟩|⟨g,cap,rfl,hg,hl,hc,hm⟩
 · exact⟨none,0,rfl,aj _,by unfold maxLen;omega,.inl rfl⟩
 · exact⟨_,_,rfl,hc,hm,.inr ⟨g,0,rfl,hl,fun j u hj=>by rw[Nat.zero_add];exact h.cells j u hj⟩⟩
theorem dE.at {E:Enc α k}{A:Option Addr}{xs:List α}(h:dE E w B (.slice A n cap) xs){x : α}(hi:xs[i]? = some x) :
 ∃pb po,A=some ⟨pb,po,none⟩∧pb<B∧∀(j:Nat)(u:Value),(E.f x)[j]? = some u→w.cell? ⟨pb,po+(i*k+j),none⟩=some u:=by
 obtain⟨A',mf,h1, -, -,h2⟩:=h;injection h1 with e1 e2 e3;subst e1;rcases h2 with rfl|⟨pb,po,h1,h2,h3⟩
 · simp at hi
 · refine⟨pb,po,h1,h2,fun j u hj=>h3 _ u ?_⟩
   have hjk:j<k:=by rw[← E.len x];exact(eH.1 hj).1
   rw[E.at xs i j x hi hjk];exact hj
theorem dE.len {E:Enc α k}{A:Option Addr}{xs:List α}(h:dE E w B (.slice A n cap) xs):xs.length=n∧n≤cap∧cap≤maxLen:=by
 obtain⟨A',mf,h1,h2,h3, -⟩:=h;injection h1 with e1 e2 e3;subst e3;exact⟨e2.symm,by omega,h3⟩
theorem Fw {e:Nat}{rest:List Oper}{o:Oper}(bS:Elem P t e size bytes)(E:Enc α size)
 (hgd:o.guard=none) (s x:Operand) (ho:o.op = .call { callee := .builtin .append,args:=#[s,x],argTypes:=#[t,t] }) (base:Nat) (v:Value) (xs:List α)
 (hs:a.eval s=v) (dK:Own E e w base v xs) (ad:Addr) (m c:Nat) (ys:List α) (hx:a.eval x = .slice (some ad) m c) (hl:ys.length=m)
 (hc:∀(j:Nat)(u:Value),(E.all ys)[j]? = some u→w.cell? (ad.add j)=some u) (hb:(xs.length+m)*bytes≤140737488355328) (hb2:xs.length+m≤maxLen) (dF:base≤w.heap.size)
 (h:∀(v':Value)(w':World),Own E e w' base v' (xs++ys)→w.grownBy w' v.ownBlock→(v'.ownBlock=v.ownBlock∨v'.ownBlock=some w.heap.size)→wpList P ops Q rest (a.put o.dst v') w'):wpList P ops Q (o :: rest) a w:=by
 obtain⟨z,hi,hz⟩:=bS.inf;obtain⟨i,hi1,hi2,hi3,hi4⟩:=info_parts hi;refine wpList_append_own_at w hgd s x t ho base e i z size bytes bS.und hi1 hi2 hi3 hi4 hz bS.pos v xs.length (E.all xs) hs dK ad m c (E.all ys) hx (by rw[E.iZ,hl]) hc (E.tK ys) hb2 hb dF ?_;intro v' w' h1 h2 _ h4;refine h v' w' ?_ h2 h4;unfold Own;rw[E.all_append,ax,hl];exact h1
theorem YP {e:Nat}{o:Oper}{F:Prop}(bS:Elem P t e size bytes)(E:Enc α size)
 (hgd:o.guard=none) (s x:Operand) (ho:o.op = .call { callee := .builtin .append,args:=#[s,x],argTypes:=#[t,t] }) (base:Nat) (v:Value) (xs:List α)
 (hs:a.eval s=v) (dK:Own E e w base v xs) (ad:Addr) (m c:Nat) (ys:List α) (hx:a.eval x = .slice (some ad) m c) (hl:ys.length=m)
 (hc:∀(j:Nat)(u:Value),(E.all ys)[j]? = some u→w.cell? (ad.add j)=some u) (hb:(xs.length+m)*bytes≤140737488355328) (hb2:xs.length+m≤maxLen) (dF:base≤w.heap.size)
 (h:∀(v':Value)(w':World),Own E e w' base v' (xs++ys)→w.grownBy w' v.ownBlock→(v'.ownBlock=v.ownBlock∨v'.ownBlock=some w.heap.size)→K (a.put o.dst v') w') :
 if Region.wanted o (yielded ops a.tmps)=true then Oper.wp P o a w K Q else F:=by
 have hw:Region.wanted o (yielded ops a.tmps)=true:=by simp[Region.wanted,hgd]
 rw[ah hw];obtain⟨z,hi,hz⟩:=bS.inf;obtain⟨i,hi1,hi2,hi3,hi4⟩:=info_parts hi;obtain⟨v',w',iP,r1,r2,_,r4⟩:=run_append_own_at (P:=P) w base t o.type e i z size bytes bS.und hi1 hi2 hi3 hi4 hz bS.pos v xs.length (E.all xs) dK ad m c (E.all ys) (by rw[E.iZ,hl]) hc (E.tK ys) hb2 hb dF;unfold Oper.wp;simp[execOp,ho,resolve,invoke,builtin,hs,hx,iP,Result.andThen];refine h v' w' ?_ r2 r4;unfold Own;rw[E.all_append,ax,hl];exact r1
theorem Elem.u8:Elem Tryz.prog 44 5 1 1:=⟨Tryz.underlying44,⟨.int .u8 0,by kernel_rfl,rfl⟩,by decide⟩
abbrev mU(w:World)(base:Nat)(v:Value)(xs:List Int):Prop:=Own (bK .u8) 5 w base v xs
theorem EK {v:Value}{xs:List Int}(h:mU w base v xs):(convert 44 9 v).run Tryz.prog w = .ok (.string (strOfNums xs)) w:=by
 rcases h.shape with ⟨rfl,rfl⟩|⟨g,cap,rfl,h1,h2,h3,h4⟩
 · rw[run_convert_bytes_nil w _ 5 Tryz.underlying44 Tryz.underlying5 _ _ _ Tryz.underlying9];rfl
 · refine run_convert_bytes_arg w _ 5 Tryz.underlying44 Tryz.underlying5 g 0 _ cap xs rfl (fun i hi => ?_) _ Tryz.underlying9
   rw[Nat.zero_add];exact h.JV i hi
theorem LJ {tx ty e:Nat}(bS:Elem P t e size bytes)(E:Enc α size)(base:Nat)(v:Value)(xs:List α)(dK:Own E e w base v xs)
 (x:Value) (m:Nat) (ys:List α) (hl:ys.length=m) (hs:Src P size tx x m (E.all ys) w) (hb:(xs.length+m)*bytes≤140737488355328) (hb2:xs.length+m≤maxLen) (dF:base≤w.heap.size) :
 ∃v' w',(Builtin.append_ #[t,tx] ty #[v,x]).run P w = .ok v' w'∧Own E e w' base v' (xs++ys)∧Below base w w':=by
 obtain⟨z,hi,hz⟩:=bS.inf;obtain⟨i,hi1,hi2,hi3,hi4⟩:=info_parts hi;have ht:=bS.und;subst hi3;subst hi4;have hlx:=E.iZ xs;have uP:=E.iZ ys;rw[hl]at uP;have hlen:(E.all (xs++ys)).length=(xs.length+m)*i.size:=by rw[E.iZ,ax,hl]
 have DX:xs.length+m≤9223372036854775807:=by simp only[maxLen]at hb2;omega
 have grown:∀(old:Nat),old<xs.length+m →
  Own E e (w.drew.alloc (.cells ((E.all xs++E.all ys).toArray++Builtin.zeroCells z.cells (grownCap w (xs.length+m) old e - (xs.length+m))) e)) base (.slice (some ⟨w.heap.size,0,none⟩) (xs.length+m) (grownCap w (xs.length+m) old e)) (xs++ys) ∧
  Below base w (w.drew.alloc (.cells ((E.all xs++E.all ys).toArray++Builtin.zeroCells z.cells (grownCap w (xs.length+m) old e - (xs.length+m))) e)):=by
  intro old ho;have hge:=grownCap_ge w (xs.length+m) old e;have hcm:grownCap w (xs.length+m) old e≤maxLen:=grownCap_le_maxLen w (xs.length+m) old e hb2;refine⟨?_,((ak _ _).drew).alloc dF _⟩;unfold Own;rw[ax,hl];refine⟨hlen,.inr ⟨w.heap.size,_,_,rfl,dF,heap_alloc_new w.drew _,hge,hcm, ?_, ?_⟩⟩
  · simp only[Array.size_append,List.size_toArray,size_zeroCells,hz,ax,hlx,uP, ← Nat.add_mul]
    congr 1;omega
  · simp only[Array.toList_append]
    rw[← E.all_append, ← hlen];exact List.take_left
 have h0:=dK;rcases dK.2 with ⟨rfl,hn⟩|⟨g,cap,cur,rfl,hbg,hg,hnc,hcm,hcs,xZ⟩
 · have hx:xs=[]:=mK hn
   subst hx;by_cases hm:m=0
   · subst hm
     have hy:ys=[]:=mK hl;subst hy;refine⟨.slice none 0 0,w, ?_,Own.nil E e w base,ak _ _⟩;have hc:=hs.cells;have hll:=hs.len;have hc':(Builtin.firstCells i.size 0 x).run P w = .ok #[] w:=hc
     rcases hs.kind with ⟨e',hk⟩|hk <;>
      simp[Builtin.append_,run_underlying ht,run_underlying hk,sizeOf,typeInfo,hi1,hll,hc']
   · have hgr:=grown 0 (by simp;omega)
     have hr:=run_append_grow_src (P:=P) w t tx ty e i z ht hi1 hi2 none 0 0 [] (by simp[Builtin.firstCells]) x m (E.all ys) hs (by omega) (by simp at DX;omega) (growslice_fits (by omega) (by simpa using hb));simp only[fO,Nat.zero_add,eY,Enc.all,List.flatMap_nil]at hgr hr ⊢;exact⟨_,_,hr,hgr.1,hgr.2⟩
 · by_cases uS:xs.length+m≤cap
   · have z8:xs.length*i.size+(E.all ys).length≤cur.size:=by rw[uP,hcs, ← Nat.add_mul];exact Nat.mul_le_mul_right _ uS
     have hst:=run_storeCells_at P g (xs.length*i.size) e (E.all ys) 0 cur w hg (by omega) (E.tK ys);simp only[Nat.add_zero]at hst;refine⟨.slice (some ⟨g,0,none⟩) (xs.length+m) cap,w.setRow g (cur.toList.take (xs.length*i.size)++E.all ys++cur.toList.drop (xs.length*i.size+(E.all ys).length)).toArray, ?_, ?_, ?_⟩
     · rcases hs.kind with ⟨e',hk⟩|hk <;> simp[Builtin.append_,run_underlying ht,run_underlying hk,sizeOf,typeInfo,hi1,hs.len,uS,hs.cells,Addr.add_lit,hst]
     · unfold Own
       rw[ax,hl];refine⟨hlen,.inr ⟨g,cap,_,rfl,hbg,setRow_heap w g cur _ e _ hg,uS,hcm, ?_, ?_⟩⟩
       · simp only[List.size_toArray,ax,iB,jX,Array.length_toList]
         omega
       · rw[xZ, ← hlen, ← E.all_append]
         exact List.take_left
     · exact⟨rfl,rfl,rfl,by simp,fun k hk=>setRow_other w g k _ (by omega)⟩
   · have hold:(Builtin.firstCells i.size xs.length (.slice (some ⟨g,0,none⟩) xs.length cap)).run P w.drew = .ok (E.all xs).toArray w.drew :=
      run_firstCells_some w.drew i.size xs.length ⟨g,0,none⟩ xs.length cap (E.all xs) hlx (World.ownsRow.cells (w:=w.drew) h0 (g:=g) rfl)
     have hgr:=grown cap (by omega);have hr:=run_append_grow_src (P:=P) w t tx ty e i z ht hi1 hi2 (some ⟨g,0,none⟩) xs.length cap (E.all xs) hold x m (E.all ys) hs (by omega) (by omega) (growslice_fits (by omega) hb);exact⟨_,_,hr,hgr.1,hgr.2⟩
theorem Nb {tx e:Nat}{rest:List Oper}{o:Oper}(bS:Elem P t e size bytes)(E:Enc α size)
 (hgd:o.guard=none) (s x:Operand) (ho:o.op = .call { callee := .builtin .append,args:=#[s,x],argTypes:=#[t,tx] }) (base:Nat) (v:Value) (xs:List α)
 (hs:a.eval s=v) (dK:Own E e w base v xs) (y:Value) (m:Nat) (ys:List α) (hx:a.eval x=y) (hl:ys.length=m) (xX:Src P size tx y m (E.all ys) w)
 (hb:(xs.length+m)*bytes≤140737488355328) (hb2:xs.length+m≤maxLen) (dF:base≤w.heap.size)
 (h:∀(v':Value)(w':World),Own E e w' base v' (xs++ys)→Below base w w'→wpList P ops Q rest (a.put o.dst v') w'):wpList P ops Q (o :: rest) a w:=by
 obtain⟨v',w',iP,h2,h3⟩:=LJ (ty:=o.type) bS E base v xs dK y m ys hl xX hb hb2 dF;refine wpList_plain hgd fun _ hK => ?_
 unfold Oper.wp execOp;simp only[ho,resolve,invoke,builtin,Sem.run_bind,Sem.run_pure,Result.andThen_ok,List.map_toArray,fP,List.map_nil,hs,hx,iP];exact hK _ _ (h v' w' h2 h3)
theorem PR (s:ByteArray):byteCells s=(bK .u8).all (sb s):=by
 rw[uF];unfold byteCells sb;rw[List.map_map];rfl
theorem AZ (s:ByteArray):Src Tryz.prog 1 9 (.string s) s.size ((bK .u8).all (sb s)) w:=by
 rw[← PR];exact Src.ofString w Tryz.underlying9 s
theorem Own.other {E:Enc α size}{r:Nat}{v:Value}{xs:List α}(h:Own E e w base v xs)(hg:w.grownBy w' (Option.some r))(hr:r<base):Own E e w' base v xs:=by
 refine⟨h.1, ?_⟩;rcases h.2 with h|⟨g,cap,cur,h1,h2,h3,h4⟩
 · exact .inl h
 · refine .inr ⟨g,cap,cur,h1,h2, ?_,h4⟩
   rw[hg.block g (cu.1 h3).1 (by intro h;have:g=r:=dV h;omega)];exact h3
theorem Jn (hi:ops[i]? = some oi)(hd:oi.dst=d)
 (hr:Region.ready md ops listed=[i]) (hl:listed.setIfInBounds i true=gI) (hw:Region.wanted oi (yielded ops a.tmps)=true)
 (h:∀K:Act→World→Prop,Shut (∀v w,S w→wpAnyH P md ops Q S fuel gI (a.put d v) w→K (a.put d v) w)→Oper.wp P oi a w K Q):wpAnyH P md ops Q S (fuel+1) listed a w:=by
 subst hd;subst hl;refine wpAnyH_ready hr (by simp) (AllReadyH.cons hi (fun K hK => ?_) AllReadyH.nil);rw[ah hw];exact h K (fun v w hS hW=>hK _ _ hS (fun _=>hW))
theorem gA(l:List α)(i:Nat):l.toArray[i]? = l[i]? := List.getElem?_toArray ..
theorem gS(x : α)(l:List α)(n:Nat):(x :: l)[n+1]? = l[n]? := rfl
theorem ku(x : α)(l:List α):(x :: l)[0]? = some x:=rfl
theorem sT(l:List α)(i:Nat)(a : α):l.toArray.setIfInBounds i a=(l.set i a).toArray:=List.setIfInBounds_toArray ..
theorem dn(x : α)(l:List α)(a : α):(x :: l).set 0 a=a :: l:=rfl
theorem dm(x : α)(l:List α)(n:Nat)(a : α):(x :: l).set (n+1) a=x :: l.set n a:=rfl
def wO(md:Region.Mode)(ops:Array Oper)(listed:Array Bool)(i:Nat):Bool:=Region.noSelect ops&&(Region.free md ops listed i&&(Region.ready md ops listed).contains i)
theorem Bb (h:wO md ops listed i=true):Region.noSelect ops=true∧Region.free md ops listed i=true∧(Region.ready md ops listed).contains i=true :=
 ⟨(Bool.and_eq_true_iff.1 h).1,(Bool.and_eq_true_iff.1 (Bool.and_eq_true_iff.1 h).2).1,(Bool.and_eq_true_iff.1 (Bool.and_eq_true_iff.1 h).2).2⟩
theorem hT (i:Nat){v:Value}(hS:S w)(h:wpAnyH P md ops Q S fuel gI a' w)(hi:ops[i]? = some oi:=by(first|(simp only[gA,gS,ku];done)|(simp only[gA,gS,ku];rfl)))
 (hc:wO md ops listed i=true:=by kernel_rfl) (hl:listed.setIfInBounds i true=gI:=by(simp only[sT,dn,dm];rfl)) (hw:Region.wanted oi (yielded ops a.tmps)=true:=by rfl) (hy:∀w,S w→(execOp a.eval oi).run P w = .ok (.value v) w:=by(intro jy hSw;go_simp;try(with_reducible rfl)))
 (ha:a.put oi.dst v=a':=by(simp only[Act.put,sT,dn,dm];rfl)) (hQ:∀c a w,Q (.panic c) (a.put oi.dst v) w→Q (.panic c) a w:=by exact fun _ _ _ h=>h):wpAnyH P md ops Q S (fuel+1) listed a w:=by
 obtain⟨h1,h2,h3⟩:=Bb hc;subst hl;subst ha;exact wpAnyH_take hi h1 h2 h3 hQ (.inl ⟨hw,hy⟩) hS h
theorem hU (i:Nat){v:Value}(hS:S w)(h:wpAnyH P md ops Q S fuel gI a' w)(hi:ops[i]? = some oi:=by(first|(simp only[gA,gS,ku];done)|(simp only[gA,gS,ku];rfl)))
 (hc:wO md ops listed i=true:=by kernel_rfl) (hl:listed.setIfInBounds i true=gI:=by(simp only[sT,dn,dm];rfl)) (hw:Region.wanted oi (yielded ops a.tmps)=true:=by rfl) (hy:∀w,S w→(execOp a.eval oi).run P w = .ok (.value v) w:=by(intro jy hSw;have hz:=hSw;go_simp;try(with_reducible rfl)))
 (ha:a.put oi.dst v=a':=by(simp only[Act.put,sT,dn,dm];rfl)) (hQ:∀c a w,Q (.panic c) (a.put oi.dst v) w→Q (.panic c) a w:=by exact fun _ _ _ h=>h):wpAnyH P md ops Q S (fuel+1) listed a w:=by
 obtain⟨h1,h2,h3⟩:=Bb hc;subst hl;subst ha;exact wpAnyH_take hi h1 h2 h3 hQ (.inl ⟨hw,hy⟩) hS h
theorem hV (i:Nat){v:Value}(hS:S w)(h:wpAnyH P md ops Q S fuel gI a' w)(hi:ops[i]? = some oi:=by(first|(simp only[gA,gS,ku];done)|(simp only[gA,gS,ku];rfl)))
 (hc:wO md ops listed i=true:=by kernel_rfl) (hl:listed.setIfInBounds i true=gI:=by(simp only[sT,dn,dm];rfl)) (hw:Region.wanted oi (yielded ops a.tmps)=true:=by rfl) (hy:∀w,S w→(execOp a.eval oi).run P w = .ok (.value v) w:=by(intro jy hSw;(try dsimp only at hSw);go_simp;try(with_reducible rfl)))
 (ha:a.put oi.dst v=a':=by(simp only[Act.put,sT,dn,dm];rfl)) (hQ:∀c a w,Q (.panic c) (a.put oi.dst v) w→Q (.panic c) a w:=by exact fun _ _ _ h=>h):wpAnyH P md ops Q S (fuel+1) listed a w:=by
 obtain⟨h1,h2,h3⟩:=Bb hc;subst hl;subst ha;exact wpAnyH_take hi h1 h2 h3 hQ (.inl ⟨hw,hy⟩) hS h
theorem hN (i:Nat)(hS:S w)(h:wpAnyH P md ops Q S fuel gI a' w)(hi:ops[i]? = some oi:=by(first|(simp only[gA,gS,ku];done)|(simp only[gA,gS,ku];rfl)))
 (hc:wO md ops listed i=true:=by kernel_rfl) (hl:listed.setIfInBounds i true=gI:=by(simp only[sT,dn,dm];rfl)) (hw:Region.wanted oi (yielded ops a.tmps)=false:=by rfl) (ha:a.put oi.dst undef=a':=by(simp only[Act.put,sT,dn,dm];rfl))
 (hQ:∀c a w,Q (.panic c) (a.put oi.dst undef) w→Q (.panic c) a w:=by exact fun _ _ _ h=>h):wpAnyH P md ops Q S (fuel+1) listed a w:=by
 obtain⟨h1,h2,h3⟩:=Bb hc;subst hl;subst ha;exact wpAnyH_take hi h1 h2 h3 hQ (.inr ⟨hw,rfl⟩) hS h
theorem hO (i:Nat)
 (h:∀K:Act→World→Prop,Shut (∀v w,S w→wpAnyH P md ops Q S fuel gI (a.put d v) w→K (a.put d v) w)→Oper.wp P oi a w K Q) (hi:ops[i]? = some oi:=by(first|(simp only[gA,gS,ku];done)|(simp only[gA,gS,ku];rfl))) (hd:oi.dst=d:=by(first|(dsimp only;done)|(dsimp only;rfl)|rfl)) (hr:Region.ready md ops listed=[i]:=by kernel_rfl)
 (hl:listed.setIfInBounds i true=gI:=by(simp only[sT,dn,dm];rfl)) (hw:Region.wanted oi (yielded ops a.tmps)=true:=by rfl):wpAnyH P md ops Q S (fuel+1) listed a w:=Jn hi hd hr hl hw h
theorem aac{K':Act→World→Prop}(h:∀a w,K a w→K' a w)(hk:wpOp P ops Q i K a w):wpOp P ops Q i K' a w:=wpOp_mono h hk
theorem Jm {S':World→Prop}(hS:∀w,S w→S' w):∀(fuel:Nat)(listed:Array Bool)(a:Act)(w:World),wpAnyH P md ops Q S fuel listed a w→wpAnyH P md ops Q S' fuel listed a w
 | 0,_,_,_,h=>h
 | fuel+1,_,_,_,h=>⟨h.1,fun i hi=>aac (fun a' w' h'=>⟨hS _ h'.1,Jm hS fuel _ a' w' h'.2⟩) (h.2 i hi)⟩
theorem TT {id:Nat}(hm:P.follows .mixedOrders=true)
 (h:wpAnyH P .any ops Q (Below w.heap.size w.drew) ops.size (Array.replicate ops.size false) a w.drew):(Code.region id ops true).wp P Q a w :=
 wp_region_held_drew (S:=Below w.heap.size w.drew) hm (ak _ _) (fun _=>h)
theorem TS (hi:ops[i]? = some oi)(hd:oi.dst=d)
 (hr:Region.ready md ops listed=[i]) (hl:listed.setIfInBounds i true=gI) (hw:Region.wanted oi (yielded ops a.tmps)=true)
 (h:∀K:Act→World→Prop,Shut (∀v w',Below B w w'→B≤w'.heap.size→wpAnyH P md ops Q (Below w'.heap.size w') fuel gI (a.put d v) w'→K (a.put d v) w')→Oper.wp P oi a w K Q):wpAnyH P md ops Q (Below B w) (fuel+1) listed a w :=
 Jn hi hd hr hl hw (fun K hK=>h K (fun v w' hb hB hn=>hK v w' hb (Jm (fun _ h'=>hb.trans (h'.mono hB)) _ _ _ _ hn)))
theorem uV (i:Nat){v:Value}(h:wpAnyH P md ops Q (Below B w) fuel gI a' w)(hi:ops[i]? = some oi:=by(first|(simp only[gA,gS,ku];done)|(simp only[gA,gS,ku];rfl)))
 (hc:wO md ops listed i=true:=by kernel_rfl) (hl:listed.setIfInBounds i true=gI:=by(simp only[sT,dn,dm];rfl)) (hw:Region.wanted oi (yielded ops a.tmps)=true:=by rfl) (hy:∀w',Below B w w'→(execOp a.eval oi).run P w' = .ok (.value v) w':=by(intro jy hSw;go_simp;try(with_reducible rfl)))
 (ha:a.put oi.dst v=a':=by(simp only[Act.put,sT,dn,dm];rfl)) (hQ:∀c a w,Q (.panic c) (a.put oi.dst v) w→Q (.panic c) a w:=by exact fun _ _ _ h=>h):wpAnyH P md ops Q (Below B w) (fuel+1) listed a w :=
 hT i (ak _ _) h hi hc hl hw hy ha hQ
theorem TH (i:Nat)
 (h:∀K:Act→World→Prop,Shut (∀v w',Below B w w'→B≤w'.heap.size→wpAnyH P md ops Q (Below w'.heap.size w') fuel gI (a.put d v) w'→K (a.put d v) w')→Oper.wp P oi a w K Q) (hi:ops[i]? = some oi:=by(first|(simp only[gA,gS,ku];done)|(simp only[gA,gS,ku];rfl))) (hd:oi.dst=d:=by(first|(dsimp only;done)|(dsimp only;rfl)|rfl))
 (hr:Region.ready md ops listed=[i]:=by kernel_rfl) (hl:listed.setIfInBounds i true=gI:=by(simp only[sT,dn,dm];rfl)) (hw:Region.wanted oi (yielded ops a.tmps)=true:=by rfl):wpAnyH P md ops Q (Below B w) (fuel+1) listed a w:=TS hi hd hr hl hw h
end Go.Proofs.YtahjnhmidjeniaaGreatDoor
namespace Go.Proofs.YtahjnhmidjeniaaGreatDoor
open Go.ChangeShapes Go.WideShapes Go.ChangeAt Go.RowKit
theorem Zu {H:Type}{enc:TypeId × Value→H}{P:Program}(hl:laidOutB P=true){W W':World}(hb:Below W.heap.size W W') :
 ∀ (ts:List TypeId)(vs:List Value)(ds:List (DataW H))(p:List MemPlace),(ts.all fun t=>P.readableRec t&&decide (t<P.types.size))=true→(∀x∈p,x.block<W.heap.size) →
   DataW.TrodAll enc P W 0 (fun _=>true) true ts vs ds p→DataW.TrodAll enc P W' 0 (fun b=>decide (b<W.heap.size)) true ts vs ds p:=by
 intro ts
 induction ts with
 | nil =>
   intro vs ds p _ _ h;obtain⟨rfl,rfl,rfl⟩:=trodAll_nil h;exact trodAll_mk0
 | cons t ts ih =>
   intro vs ds p ht hlt h;obtain⟨v,vs',d,ds',p1,q1,rfl,rfl,rfl,h0,hr⟩:=trodAll_cons h;rw[List.all_cons,bu,bu,decide_eq_true_eq]at ht;exact trodAll_cons_mk (Below.trod hl ht.1.1 ht.1.2 h0 hb (fun x hx=>hlt x (List.mem_append_left _ hx))) (ih vs' ds' q1 ht.2 (fun x hx=>hlt x (List.mem_append_right _ hx)) hr)
theorem own:ownKnob Tryz.prog.godebug=none:=by kernel_rfl
theorem laidOut:laidOutB Tryz.prog=true:=by kernel_rfl
theorem Ue {H:Type}{enc:TypeId × Value→H}{f:Func}{s:ChangeSpec}{W W':World}{args:Array Value}{ds gs:List (DataW H)}{before:List MemPlace}(hl:laidOutB Tryz.prog=true)
 (SS:(f.params.toList.all fun t=>Tryz.prog.readableRec t&&decide (t<Tryz.prog.types.size))=true) (az:f.resultTypes=#[4])
 (Tg:s.vars=[]) (hfn:s.fn H (ds++gs)={ results:=[.lit (.bool true)],args:=ds })
 (hW:DataW.Whole enc Tryz.prog f.params.toList s.vars false W args.toList ds gs before) (hlt:∀x∈before,x.block<W.heap.size) (hb:Below W.heap.size W W') :
 s.post enc Tryz.prog f false true false false W args (.bool true) W':=by
 have hW0:=hW;obtain⟨p,q,hA,hV,rfl,_,_⟩:=hW;refine⟨ds,gs,p++q,[],p,[],hW0, ?_, ?_, ?_,hb.frame _,fun h=>by cases h⟩
 · rw[hfn,az]
   exact trodAll_cons_mk (shut_bool Tryz.underlying4 true) trodAll_mk0
 · rw[hfn]
   exact Zu hl hb _ _ _ _ SS (fun x hx=>hlt x (List.mem_append_left _ hx)) hA
 · rw[Tg,hfn];rfl
end Go.Proofs.YtahjnhmidjeniaaGreatDoor
namespace Go.Proofs.YtahjnhmidjeniaaGreatDoor
open Go.RowKit
variable {ac:Bool}{nm s:ByteArray}{c r:Int}{b':List Int}{B C b cap i n:Nat}{A:Option Addr}{x y:UInt8}{w w':World}
def kr:Enc ByteArray 1:={ f:=fun s=>[.string s],len:=fun _=>rfl,one:=fun _ u hu=>by simp at hu;subst hu;rfl }
theorem GY (l:List ByteArray):kr.all l=l.map Value.string:=by
 induction l with
 | nil=>rfl
 | cons a t ih=>show Value.string a :: kr.all t=_;rw[ih];rfl
structure iO where
 A:Option Addr
 cap:Nat
 l:List ByteArray
def iO.v(r:iO):Value := .slice r.A r.l.length r.cap
def IB:Enc iO 1:={ f:=fun r=>[r.v],len:=fun _=>rfl,one:=fun _ u hu=>by simp at hu;subst hu;rfl }
structure aU where
 nm:ByteArray
 bB:Int
 A:Option Addr
 cap:Nat
 rows:List iO
def aU.rv(s:aU):Value := .slice s.A s.rows.length s.cap
def IC:Enc aU 3:={ f:=fun s=>[.string s.nm,.int .i64 s.bB,s.rv],len:=fun _=>rfl,one:=fun s u hu=>by simp only[gp,List.not_mem_nil,or_false]at hu;rcases hu with rfl|rfl|rfl <;> rfl }
def lK(w:World)(B:Nat)(v:Value)(rows:List iO):Prop:=dE IB w B v rows∧∀r∈rows,dE kr w B r.v r.l
theorem lK.below{v:Value}{rows:List iO}(h:lK w B v rows)(hb:Below C w w')(hC:B≤C):lK w' B v rows:=⟨h.1.below hb hC,fun r hr=>(h.2 r hr).below hb hC⟩
theorem lK.mono{v:Value}{rows:List iO}(h:lK w B v rows)(hC:B≤C):lK w C v rows:=⟨h.1.mono hC,fun r hr=>(h.2 r hr).mono hC⟩
theorem lK.lift{v:Value}{rows:List iO}(h:lK w w.heap.size v rows)(hb:Below w.heap.size w w'):lK w' w'.heap.size v rows:=(h.below hb (aj _)).mono hb.size
def fQ(w:World)(B:Nat)(v:Value)(av:List aU):Prop:=dE IC w B v av∧∀s∈av,lK w B s.rv s.rows
theorem fQ.below{v:Value}{av:List aU}(h:fQ w B v av)(hb:Below C w w')(hC:B≤C):fQ w' B v av:=⟨h.1.below hb hC,fun r hr=>(h.2 r hr).below hb hC⟩
theorem fQ.mono{v:Value}{av:List aU}(h:fQ w B v av)(hC:B≤C):fQ w C v av:=⟨h.1.mono hC,fun r hr=>(h.2 r hr).mono hC⟩
theorem fQ.lift{v:Value}{av:List aU}(h:fQ w w.heap.size v av)(hb:Below w.heap.size w w'):fQ w' w'.heap.size v av:=(h.below hb (aj _)).mono hb.size
theorem Be {l:List ByteArray}(h:dE kr w B (.slice A n cap) l){x:ByteArray}(hi:l[i]? = some x) :
 ∃pb po,A=some ⟨pb,po,none⟩∧pb<B∧w.cell? ⟨pb,po+i,none⟩=some (.string x):=by
 obtain⟨pb,po,h1,h2,h3⟩:=h.at hi;exact⟨pb,po,h1,h2,by have:=h3 0 _ rfl;rwa[Nat.mul_one,Nat.add_zero]at this⟩
theorem yC {l:List iO}(h:lK w B (.slice A n cap) l){x:iO}(hi:l[i]? = some x) :
 ∃pb po,A=some ⟨pb,po,none⟩∧pb<B∧w.cell? ⟨pb,po+i,none⟩=some (.slice x.A x.l.length x.cap)∧dE kr w B (.slice x.A x.l.length x.cap) x.l:=by
 obtain⟨pb,po,h1,h2,h3⟩:=h.1.at hi;exact⟨pb,po,h1,h2,by have:=h3 0 _ rfl;rwa[Nat.mul_one,Nat.add_zero]at this,h.2 x (bN hi)⟩
theorem vv {l:List aU}(h:fQ w B (.slice A n cap) l){x:aU}(hi:l[i]? = some x) :
 ∃pb po,A=some ⟨pb,po,none⟩∧pb<B∧w.cell? ⟨pb,po+i*3,none⟩=some (.string x.nm)∧w.cell? ⟨pb,po+i*3+1,none⟩=some (.int .i64 x.bB)∧w.cell? ⟨pb,po+i*3+2,none⟩=some (.slice x.A x.rows.length x.cap)∧lK w B (.slice x.A x.rows.length x.cap) x.rows:=by
 obtain⟨pb,po,h1,h2,h3⟩:=h.1.at hi;exact⟨pb,po,h1,h2,h3 0 _ rfl,by have:=h3 1 _ rfl;rwa[← Nat.add_assoc]at this,by have:=h3 2 _ rfl;rwa[← Nat.add_assoc]at this,h.2 x (bN hi)⟩
def fA(w:World)(b:Nat)(nm:ByteArray)(c:Int)(v:Value):Prop:=w.heap[b]? = some (.cells #[.string nm,.int .i64 c,v] 29)
theorem fA.new(w:World)(nm:ByteArray)(c:Int)(v:Value):fA (w.alloc (.cells #[.string nm,.int .i64 c,v] 29)) w.heap.size nm c v:=(gV w _).1
theorem fA.lt{v:Value}(h:fA w b nm c v):b<w.heap.size:=(cu.1 h).1
theorem fA.below{v:Value}(h:fA w b nm c v)(hb:Below B w w')(hB:b<B):fA w' b nm c v:=by unfold fA;rw[hb.block b hB];exact h
theorem fA.over{v:Value}(h:fA w b nm c v)(hb:Below w.heap.size w w'):fA w' b nm c v:=h.below hb h.lt
theorem fA.cells {v:Value}(h:fA w b nm c v):w.cell? ⟨b,0,none⟩=some (.string nm)∧w.cell? ⟨b,1,none⟩=some (.int .i64 c)∧w.cell? ⟨b,2,none⟩=some v :=
 ⟨by rw[cell_of_row w b 0 _ _ _ h];rfl,by rw[cell_of_row w b 1 _ _ _ h];rfl,by rw[cell_of_row w b 2 _ _ _ h];rfl⟩
def gy(w:World)(b:Nat)(v:Value):Prop:=w.heap[b]? = some (.cells #[v] 37)
theorem gy.new(w:World)(v:Value):gy (w.alloc (.cells #[v] 37)) w.heap.size v:=(gV w _).1
theorem gy.lt{v:Value}(h:gy w b v):b<w.heap.size:=(cu.1 h).1
theorem gy.below{v:Value}(h:gy w b v)(hb:Below B w w')(hB:b<B):gy w' b v:=by unfold gy;rw[hb.block b hB];exact h
theorem gy.over{v:Value}(h:gy w b v)(hb:Below w.heap.size w w'):gy w' b v:=h.below hb h.lt
theorem gy.cell{w:World}{b:Nat}{v:Value}(h:gy w b v):w.cell? ⟨b,0,none⟩=some v:=by rw[cell_of_row w b 0 _ _ _ h];rfl
theorem gy.Em{v:Value}(h:gy w b v):w.frozen? ⟨b,0,none⟩=false:=frozen_of_row w b 0 _ _ h
theorem MF (a b:ByteArray):(a.toList == b.toList)=decide (a=b):=by
 by_cases h:a=b
 · subst h;simp
 · rw[aK h]
   exact aB.2 (yI a b h)
theorem sO(w:World)(nm:ByteArray)(c:Int)(v:Value):Below w.heap.size w (w.alloc (.cells #[.string nm,.int .i64 c,v] 29)):=(ak _ _).alloc (aj _) _
theorem sN(w:World)(v:Value):Below w.heap.size w (w.alloc (.cells #[v] 37)):=(ak _ _).alloc (aj _) _
theorem ZP (nm t:ByteArray)(c:Int)(v:Value)(w:World):Calls Tryz.prog 53 #[.string nm,.agg #[.string t,.int .i64 c,v]] w fun e w'=>e = .returned (.bool (decide (t=nm)))∧Below w.heap.size w w':=by
 have HB:=ae (sO w t c v);go_enter Tryz.func53,Tryz.ntmps53;go_wp2_with fail
 all_goals go_ret
 all_goals exact⟨by first|rfl|(rw[MF];rfl),HB.o⟩
def yT(av:List aU)(nm:ByteArray)(i:Nat)(s:aU):Prop:=av[i]? = some s∧s.nm=nm∧∀(j:Nat)(t:aU),j<i→av[j]? = some t→t.nm≠nm
def ui (av:List aU)(nm:ByteArray):Option (Nat × aU)→Prop
 | none=>∀(j:Nat)(t:aU),av[j]? = some t→t.nm≠nm
 | some (i,s)=>yT av nm i s
def zV:Option (Nat × aU)→Int
 | none => -1
 | some (i,_)=>(i:Int)
theorem Ru (av:List aU)(nm:ByteArray):∃o,ui av nm o:=by
 have key : ∀n:Nat,(∃o,ui av nm o)∨∀(j:Nat)(t:aU),j<n→av[j]? = some t→t.nm≠nm:=by
  intro n
  induction n with
  | zero=>exact .inr fun j t h=>by omega
  | succ n ih =>
    rcases ih with h|h
    · exact .inl h
    · cases hn:av[n]? with
      | none=>exact .inl ⟨none,fun j t hj=>h j t (by have:=(eH.1 hj).1;have:=List.getElem?_eq_none_iff.1 hn;omega) hj⟩
      | some s =>
        by_cases he:s.nm=nm
        · exact .inl ⟨some (n,s),hn,he,h⟩
        · refine .inr fun j t hj ht => ?_
          by_cases hjn:j=n
          · subst hjn;rw[hn]at ht;injection ht with ht;subst ht;exact he
          · exact h j t (by omega) ht
 rcases key av.length with h|h
 · exact h
 · exact⟨none,fun j t hj=>h j t (eH.1 hj).1 hj⟩
theorem Tw (w:World)(A:Option Addr)(n cap:Nat)(av:List aU)(nm:ByteArray)(o:Option (Nat × aU))(h:fQ w w.heap.size (.slice A n cap) av)(hn:n≤1000000)(ho:ui av nm o) :
 Calls Tryz.prog 52 #[.slice A n cap,.func (.func 53) #[.string nm] #[]] w fun e w'=>e = .returned (.int .i64 (zV o))∧Below w.heap.size w w':=by
 have HL:=ae h.1.len.1;have jZ:=ae h;have HO:=ae ho;clear h ho;go_enter Tryz.func52,Tryz.ntmps52;go_upto_region 2 with (fail)
 go_loopw [8] (fun iv wr=>∃i:Nat,i≤n∧iv = .int .i64 (i:Int)∧Hid (∀(j:Nat)(t:aU),j<i→av[j]? = some t→t.nm≠nm)∧Hid (Below w.heap.size w wr))
  (fun iv _=>n - (intOf iv).toNat)
 case atStart=>exact⟨0,bA _,rfl,ae (fun j t h=>by omega),ae (ak _ _)⟩
 case round =>
  obtain⟨i,hi,rfl,HT,HR⟩:=hrel;by_cases hlt:i<n
  · have hii:(i:Int)<(n:Int):=by omega
    have hi0:(0:Int)≤(i:Int):=by omega
    obtain⟨s,hs⟩:∃s,av[i]? = some s:=⟨_,aX (by rw[HL.o];exact hlt)⟩;obtain⟨pb,po,rfl,hpb,e0,e1,e2,jJ⟩:=vv jZ.o hs;have x0:wr.cell? ⟨pb,po+i*3,none⟩=some (.string s.nm):=(HR.o.cell (p:=⟨pb,po+i*3,none⟩) hpb).trans e0;have x1:wr.cell? ⟨pb,po+i*3+1,none⟩=some (.int .i64 s.bB):=(HR.o.cell (p:=⟨pb,po+i*3+1,none⟩) hpb).trans e1;have x2:wr.cell? ⟨pb,po+i*3+2,none⟩=some (.slice s.A s.rows.length s.cap):=(HR.o.cell (p:=⟨pb,po+i*3+2,none⟩) hpb).trans e2;have HS:=ae hs;have hw:=ZP nm s.nm s.bB (.slice s.A s.rows.length s.cap) wr;clear e0 e1 e2 jJ hs;by_cases he:s.nm=nm
    · rw [aL he]at hw
      have HW:=ae hw
      have HF:=ae (show zV o=(i:Int)from by
       cases o with
       | none=>exact absurd he (HO.o i s HS.o)
       | some p =>
         obtain⟨k,t⟩:=p;obtain⟨h1,h2,h3⟩:=HO.o;show(k:Int)=(i:Int);rcases Nat.lt_trichotomy i k with h|h|h
         · exact absurd he (h3 i s h HS.o)
         · omega
         · exact absurd h2 (HT.o k t h h1))
      clear hw he;go_wp2_with (go_at_call 53;((with_reducible refine HW.o.mono ?_);rintro e w2 ⟨rfl,h1⟩;have H2:=ae (HR.o.trans (h1.mono HR.o.size));clear h1))
      go_ret;exact⟨LA HF.o.symm,H2.o⟩
    · rw [aK he]at hw
      have HW:=ae hw
      have HF:=ae (show ∀(j:Nat)(t:aU),j<i+1→av[j]? = some t→t.nm≠nm from fun j t hj ht=>by
       by_cases hji:j=i
       · subst hji
         have h:=HS.o;rw[ht]at h;injection h with h;subst h;exact he
       · exact HT.o j t (by omega) ht)
      clear hw he;go_wp2_with (go_at_call 53;((with_reducible refine HW.o.mono ?_);rintro e w2 ⟨rfl,h1⟩;have H2:=ae (HR.o.trans (h1.mono HR.o.size));clear h1))
      go_roundw
      case rel=>exact⟨i+1,by omega,by go_num,HF,H2⟩
      case measure=>simp[intOf];omega
  · have hii:¬ (i:Int)<(n:Int):=by omega
    have HF:=ae (show zV o = -1 from by
     cases o with
     | none=>rfl
     | some p =>
       obtain⟨k,t⟩:=p;obtain⟨h1,h2,h3⟩:=HO.o;have:=(eH.1 h1).1;have:=HL.o;exact absurd h2 (HT.o k t (by omega) h1))
    go_wp2_with fail
    go_ret;exact⟨LA HF.o.symm,HR.o⟩
theorem zW (w:World)(A:Option Addr)(n cap:Nat)(av:List aU)(nm:ByteArray)(o:Option (Nat × aU))(h:fQ w w.heap.size (.slice A n cap) av)(hn:n≤1000000)(ho:ui av nm o) :
 Calls Tryz.prog 36 #[.agg #[.slice A n cap],.string nm] w fun e w'=>e = .returned (.int .i64 (zV o))∧Below w.heap.size w w':=by
 have HB:=ae (sN w (.slice A n cap));have HI:=ae (Tw (w.alloc (.cells #[.slice A n cap] 37)) A n cap av nm o (h.lift HB.o) hn ho);have HA:=ae (gy.new w (.slice A n cap));clear h hn ho;go_enter Tryz.func36,Tryz.ntmps36;go_upto_region 1 with (fail)
 obtain⟨w1,hw1⟩:∃w1,w.alloc (.cells #[.slice A n cap] 37)=w1:=⟨_,rfl⟩;rw[hw1]at HA HB HI ⊢;have c0:=HA.o.cell;go_wp2_with (go_at_call 52;(go_loud (with_reducible refine HI.o.mono ?_));(rintro e w2 ⟨rfl,h1⟩;have H2:=ae (HB.o.trans (h1.mono HB.o.size));clear h1))
 go_ret;exact⟨rfl,H2.o⟩
theorem zL(h:Below B w w')(n:Nat):Below B w (w'.drewN n):=⟨h.os,h.tape,h.output,h.size,h.block⟩
theorem yB {f:FuncId}{args:Array Value}{v:Value}(h:Calls Tryz.prog f args (w.drewN n) fun e w'=>e = .returned v∧w.drewN n=w'):Calls Tryz.prog f args (w.drewN n) fun e w''=>e = .returned v∧∃m,w''=w.drewN m :=
 Calls.quiet_of_same (h.mono fun _ _ ⟨a,b⟩=>⟨a,b.symm⟩)
theorem Ji (A:Option Addr)(n cap:Nat)(k:Int)(w:World):Calls Tryz.prog 74 #[.slice A n cap,.int .i64 k] w fun e w'=>e = .returned (.bool (decide (0≤k∧k<(n:Int))))∧w=w':=by
 go_enter Tryz.func74,Tryz.ntmps74
 go_wp2
 all_goals go_ret
 all_goals exact⟨fB (by first|rfl|(symm;rw[aA];omega)|(symm;rw[gK];omega)|(rw[decide_eq_decide];omega)|(simp <;> omega)),rfl⟩
theorem Jj (A:Option Addr)(n cap:Nat)(k:Int)(w:World):Calls Tryz.prog 75 #[.slice A n cap,.int .i64 k] w fun e w'=>e = .returned (.bool (decide (0≤k∧k<(n:Int))))∧w=w':=by
 go_enter Tryz.func75,Tryz.ntmps75
 go_wp2
 all_goals go_ret
 all_goals exact⟨fB (by first|rfl|(symm;rw[aA];omega)|(symm;rw[gK];omega)|(rw[decide_eq_decide];omega)|(simp <;> omega)),rfl⟩
def iF(w:World)(b:Nat)(nm:ByteArray)(row col:Int):Prop:=w.heap[b]? = some (.cells #[.string nm,.int .i64 row,.int .i64 col] 23)
theorem iF.new(w:World)(nm:ByteArray)(row col:Int):iF (w.alloc (.cells #[.string nm,.int .i64 row,.int .i64 col] 23)) w.heap.size nm row col:=(gV w _).1
theorem iF.lt(h:iF w b nm r c):b<w.heap.size:=(cu.1 h).1
theorem iF.below(h:iF w b nm r c)(hb:Below B w w')(hB:b<B):iF w' b nm r c:=by unfold iF;rw[hb.block b hB];exact h
theorem iF.over(h:iF w b nm r c)(hb:Below w.heap.size w w'):iF w' b nm r c:=h.below hb h.lt
theorem iF.cells (h:iF w b nm r c):w.cell? ⟨b,0,none⟩=some (.string nm)∧w.cell? ⟨b,1,none⟩=some (.int .i64 r)∧w.cell? ⟨b,2,none⟩=some (.int .i64 c) :=
 ⟨by rw[cell_of_row w b 0 _ _ _ h];rfl,by rw[cell_of_row w b 1 _ _ _ h];rfl,by rw[cell_of_row w b 2 _ _ _ h];rfl⟩
theorem rz(w:World)(nm:ByteArray)(row col:Int):Below w.heap.size w (w.alloc (.cells #[.string nm,.int .i64 row,.int .i64 col] 23)):=(ak _ _).alloc (aj _) _
def zD (av:List aU)(nm:ByteArray)(row col:Int):Option (Nat × aU × Nat × iO × Nat)→Prop
 | none=>ui av nm none∨∃i s,yT av nm i s∧(¬ (0≤row∧row<(s.rows.length:Int))∨∃(r:Nat)(rv:iO),row=(r:Int)∧s.rows[r]? = some rv∧¬ (0≤col∧col<(rv.l.length:Int)))
 | some (i,s,r,rv,c)=>yT av nm i s∧row=(r:Int)∧s.rows[r]? = some rv∧col=(c:Int)∧c<rv.l.length
def MX:Option (Nat × aU × Nat × iO × Nat)→ByteArray
 | none=>⟨#[]⟩
 | some (_,_,_,rv,c)=>rv.l.getD c ⟨#[]⟩
def Bi (w:World):Option (Nat × aU × Nat × iO × Nat)→Value→Prop
 | none,v=>v = .pointer none
 | some (_,_,_,rv,c),v=>∃pb po,rv.A=some ⟨pb,po,none⟩∧v = .pointer (some ⟨pb,po+c,none⟩)∧pb<w.heap.size∧w.cell? ⟨pb,po+c,none⟩=some (.string (rv.l.getD c ⟨#[]⟩))
theorem yO (w:World)(v:Value)(nm:ByteArray)(row col:Int):∃w2,(w.alloc (.cells #[v] 37)).alloc (.cells #[.string nm,.int .i64 row,.int .i64 col] 23)=w2∧Below w.heap.size w w2∧gy w2 w.heap.size v∧iF w2 (w.heap.size+1) nm row col∧w2.heap.size=w.heap.size+2:=by
 refine⟨_,rfl,(sN w v).trans ((rz (w.alloc (.cells #[v] 37)) nm row col).mono (sN w v).size),(gy.new w v).over (rz _ _ _ _), ?_,by rw[iC,iC]⟩;have:=iF.new (w.alloc (.cells #[v] 37)) nm row col;rwa[iC]at this
theorem Ph (w:World)(A:Option Addr)(n cap:Nat)(av:List aU)(nm:ByteArray)(i:Nat)(s:aU)(r:Nat)(rv:iO)(c:Nat)(h:fQ w w.heap.size (.slice A n cap) av)(hn:n≤1000000)(ho:zD av nm r c (some (i,s,r,rv,c))) :
 Calls Tryz.prog 48 #[.agg #[.slice A n cap],.agg #[.string nm,.int .i64 r,.int .i64 c]] w fun e w'=>(∃v,e = .returned v∧Bi w (some (i,s,r,rv,c)) v)∧Below w.heap.size w w':=by
 obtain⟨hf, -,ky, -,hc⟩:=ho;obtain⟨w2,hw2,hb,hbk,hsp,hsz⟩:=yO w (.slice A n cap) nm r c;obtain⟨pb,po,hA,hpb,e0,e1,e2,xV⟩:=vv h hf.1;obtain⟨nu,ny,hA2,lN,f0,jJ⟩:=yC xV ky;obtain⟨x,hx⟩:∃x,rv.l[c]? = some x:=⟨_,aX hc⟩;obtain⟨ub,Fq,hA3,hub,g0⟩:=Be jJ hx;have hin:=hf.1;have hni:(i:Int)<(n:Int):=by have:=(eH.1 hin).1;have:=h.1.len.1;omega
 have hi0:(0:Int)≤(i:Int):=by omega
 have hr0:(0:Int)≤(r:Int):=by omega
 have hc0:(0:Int)≤(c:Int):=by omega
 have hrl:(r:Int)<(s.rows.length:Int):=by have:=(eH.1 ky).1;omega
 have hcl:(c:Int)<(rv.l.length:Int):=by omega
 have oO:=ae (show Calls Tryz.prog 36 #[.agg #[.slice A n cap],.string nm] w2 fun e w'=>e = .returned (.int .i64 (i:Int))∧Below w2.heap.size w2 w' from zW w2 A n cap av nm (some (i,s)) (h.lift hb) hn hf);have H1:=ae (fun w=>Ji s.A s.rows.length s.cap r w);have H2:=ae (fun w=>Jj rv.A rv.l.length rv.cap c w);have d1:decide ((0:Int)≤(r:Int)∧(r:Int)<(s.rows.length:Int))=true:=aL ⟨hr0,hrl⟩;have d2:decide ((0:Int)≤(c:Int)∧(c:Int)<(rv.l.length:Int))=true:=aL ⟨hc0,hcl⟩;rw[d1]at H1;rw[d2]at H2;have NZ:=ae (show Bi w (some (i,s,r,rv,c)) (.pointer (some ⟨ub,Fq+c,none⟩))from⟨ub,Fq,hA3,rfl,hub,by rw[iM,hx];exact g0⟩);obtain⟨m,hm⟩:∃m,s.rows.length=m:=⟨_,rfl⟩;obtain⟨k,hk⟩:∃k,rv.l.length=k:=⟨_,rfl⟩;rw[hm]at e2 H1 hrl;rw[hk]at f0 H2 hcl;rw[hA2]at e2 H1;rw[hA3]at f0 H2;subst hA;have HB:=ae hb;have jZ:=ae hbk;have kQ:=ae hsp;clear hf ky hc xV jJ g0 hx hin d1 d2 hm hk h hb hbk hsp;go_enter Tryz.func48,Tryz.ntmps48;go_upto_region 1 with (fail)
 clear hw2;have b0:=jZ.o.cell;obtain⟨s0,s1,s2⟩:=kQ.o.cells;go_upto_region 4 with (go_at_call 36;((with_reducible refine oO.o.mono ?_);rintro e w3 ⟨rfl,h1⟩;have H3:=ae h1;clear h1))
 clear b0 s0 s1 s2;have HB3:=ae (HB.o.trans (H3.o.mono HB.o.size));have b0:=(jZ.o.over H3.o).cell;obtain⟨s0,s1,s2⟩:=(kQ.o.over H3.o).cells;have x0:w3.cell? ⟨pb,po+i*3,none⟩=some (.string s.nm):=(HB3.o.cell (p:=⟨pb,po+i*3,none⟩) hpb).trans e0;have x1:w3.cell? ⟨pb,po+i*3+1,none⟩=some (.int .i64 s.bB):=(HB3.o.cell (p:=⟨pb,po+i*3+1,none⟩) hpb).trans e1;have x2:w3.cell? ⟨pb,po+i*3+2,none⟩=some (.slice (some ⟨nu,ny,none⟩) m s.cap):=(HB3.o.cell (p:=⟨pb,po+i*3+2,none⟩) hpb).trans e2;have y0:w3.cell? ⟨nu,ny+r,none⟩=some (.slice (some ⟨ub,Fq,none⟩) k rv.cap):=(HB3.o.cell (p:=⟨nu,ny+r,none⟩) lN).trans f0;clear e0 e1 e2 f0;go_upto_region 5 with (fail)
 go_quiet (first
  | (go_at_call 74;exact yB (H1.o _))
  | (go_at_call 75;exact yB (H2.o _)))
 go_wp2_with fail
 go_quiet (fail)
 go_wp2_with fail
 go_ret;exact⟨⟨_,rfl,NZ.o⟩,zL (zL HB3.o _) _⟩
theorem Pf (w:World)(A:Option Addr)(n cap:Nat)(av:List aU)(nm:ByteArray)(row col:Int)(h:fQ w w.heap.size (.slice A n cap) av)(hn:n≤1000000)(ho:ui av nm none) :
 Calls Tryz.prog 48 #[.agg #[.slice A n cap],.agg #[.string nm,.int .i64 row,.int .i64 col]] w fun e w'=>e = .returned (.pointer none)∧Below w.heap.size w w':=by
 obtain⟨w2,hw2,hb,hbk,hsp,hsz⟩:=yO w (.slice A n cap) nm row col;have oO:=ae (show Calls Tryz.prog 36 #[.agg #[.slice A n cap],.string nm] w2 fun e w'=>e = .returned (.int .i64 (-1))∧Below w2.heap.size w2 w' from zW w2 A n cap av nm none (h.lift hb) hn ho);have HB:=ae hb;have jZ:=ae hbk;have kQ:=ae hsp;clear h hb hbk hsp ho;go_enter Tryz.func48,Tryz.ntmps48;go_upto_region 1 with (fail)
 clear hw2;have b0:=jZ.o.cell;obtain⟨s0,s1,s2⟩:=kQ.o.cells;go_wp2_with (go_at_call 36;((with_reducible refine oO.o.mono ?_);rintro e w3 ⟨rfl,h1⟩;have H3:=ae (HB.o.trans (h1.mono HB.o.size));clear h1))
 go_ret;exact⟨rfl,H3.o⟩
theorem Pg (w:World)(A:Option Addr)(n cap:Nat)(av:List aU)(nm:ByteArray)(row col:Int)(i:Nat)(s:aU)(h:fQ w w.heap.size (.slice A n cap) av)(hn:n≤1000000)(hf:yT av nm i s)
 (ho:¬ (0≤row∧row<(s.rows.length:Int))∨∃(r:Nat)(rv:iO),row=(r:Int)∧s.rows[r]? = some rv∧¬ (0≤col∧col<(rv.l.length:Int))) :
 Calls Tryz.prog 48 #[.agg #[.slice A n cap],.agg #[.string nm,.int .i64 row,.int .i64 col]] w fun e w'=>e = .returned (.pointer none)∧Below w.heap.size w w':=by
 obtain⟨w2,hw2,hb,hbk,hsp,hsz⟩:=yO w (.slice A n cap) nm row col;obtain⟨pb,po,hA,hpb,e0,e1,e2,xV⟩:=vv h hf.1;have hin:=hf.1;have hni:(i:Int)<(n:Int):=by have:=(eH.1 hin).1;have:=h.1.len.1;omega
 have hi0:(0:Int)≤(i:Int):=by omega
 have oO:=ae (show Calls Tryz.prog 36 #[.agg #[.slice A n cap],.string nm] w2 fun e w'=>e = .returned (.int .i64 (i:Int))∧Below w2.heap.size w2 w' from zW w2 A n cap av nm (some (i,s)) (h.lift hb) hn hf);have H1:=ae (fun w=>Ji s.A s.rows.length s.cap row w);obtain⟨m,hm⟩:∃m,s.rows.length=m:=⟨_,rfl⟩;rw[hm]at e2 H1 ho;subst hA;have HB:=ae hb;have jZ:=ae hbk;have kQ:=ae hsp;have Oi:=ae xV;have HO:=ae ho;clear hf xV hin h hb hbk hsp ho;go_enter Tryz.func48,Tryz.ntmps48;go_upto_region 1 with (fail)
 clear hw2;have b0:=jZ.o.cell;obtain⟨s0,s1,s2⟩:=kQ.o.cells;go_upto_region 4 with (go_at_call 36;((with_reducible refine oO.o.mono ?_);rintro e w3 ⟨rfl,h1⟩;have H3:=ae h1;clear h1))
 clear b0 s0 s1 s2;have HB3:=ae (HB.o.trans (H3.o.mono HB.o.size));have b0:=(jZ.o.over H3.o).cell;obtain⟨s0,s1,s2⟩:=(kQ.o.over H3.o).cells;have x0:w3.cell? ⟨pb,po+i*3,none⟩=some (.string s.nm):=(HB3.o.cell (p:=⟨pb,po+i*3,none⟩) hpb).trans e0;have x1:w3.cell? ⟨pb,po+i*3+1,none⟩=some (.int .i64 s.bB):=(HB3.o.cell (p:=⟨pb,po+i*3+1,none⟩) hpb).trans e1;have x2:w3.cell? ⟨pb,po+i*3+2,none⟩=some (.slice s.A m s.cap):=(HB3.o.cell (p:=⟨pb,po+i*3+2,none⟩) hpb).trans e2;clear e0 e1 e2;go_upto_region 5 with (fail)
 clear b0 x0 x1 x2;by_cases hr:0≤row∧row<(m:Int)
 · rw [aL hr]at H1
   obtain⟨r,rv,rfl,ky,hc⟩:=HO.o.resolve_left (fun h=>h hr);obtain⟨nu,ny,hA2,lN,f0,jJ⟩:=yC Oi.o ky;have y0:w3.cell? ⟨nu,ny+r,none⟩=some (.slice rv.A rv.l.length rv.cap):=(HB3.o.cell (p:=⟨nu,ny+r,none⟩) lN).trans f0;have H2:=ae (fun w=>Jj rv.A rv.l.length rv.cap col w);rw[aK hc]at H2;have hr1:(r:Int)<(m:Int):=hr.2;have hr0:(0:Int)≤(r:Int):=hr.1;rw[hA2]at H1 ⊢;clear ky hc f0 jJ hr
   go_quiet (first
    | (go_at_call 74;exact yB (H1.o _))
    | (go_at_call 75;exact yB (H2.o _)))
   go_wp2_with fail
   go_ret;exact⟨rfl,zL HB3.o _⟩
 · rw [aK hr]at H1
   clear hr
   go_quiet (first
    | (go_at_call 74;exact yB (H1.o _)))
   go_wp2_with fail
   go_ret;exact⟨rfl,zL HB3.o _⟩
theorem Pe (w:World)(A:Option Addr)(n cap:Nat)(av:List aU)(nm:ByteArray)(row col:Int)(o:Option (Nat × aU × Nat × iO × Nat))(h:fQ w w.heap.size (.slice A n cap) av)(hn:n≤1000000)(ho:zD av nm row col o) :
 Calls Tryz.prog 48 #[.agg #[.slice A n cap],.agg #[.string nm,.int .i64 row,.int .i64 col]] w fun e w'=>(∃v,e = .returned v∧Bi w o v)∧Below w.heap.size w w':=by
 cases o with
 | none =>
   rcases ho with ho|⟨i,s,hf,ho⟩
   · exact(Pf w A n cap av nm row col h hn ho).mono fun e w' ⟨h1,h2⟩=>⟨⟨_,h1,rfl⟩,h2⟩
   · exact(Pg w A n cap av nm row col i s h hn hf ho).mono fun e w' ⟨h1,h2⟩=>⟨⟨_,h1,rfl⟩,h2⟩
 | some p =>
   obtain⟨i,s,r,rv,c⟩:=p;obtain⟨h1,rfl,h3,rfl,h5⟩:=ho;exact Ph w A n cap av nm i s r rv c h hn ⟨h1,rfl,h3,rfl,h5⟩
theorem RP (w:World)(A:Option Addr)(n cap:Nat)(av:List aU)(nm:ByteArray)(row col:Int)(o:Option (Nat × aU × Nat × iO × Nat))(h:fQ w w.heap.size (.slice A n cap) av)(hn:n≤1000000)(ho:zD av nm row col o) :
 Calls Tryz.prog 33 #[.agg #[.slice A n cap],.agg #[.string nm,.int .i64 row,.int .i64 col]] w fun e w'=>e = .returned (.string (MX o))∧Below w.heap.size w w':=by
 obtain⟨w2,hw2,hb,hbk,hsp,hsz⟩:=yO w (.slice A n cap) nm row col;have HA:=ae (Pe w2 A n cap av nm row col o (h.lift hb) hn ho);have HB:=ae hb;have jZ:=ae hbk;have kQ:=ae hsp;clear h hb hbk hsp ho;go_enter Tryz.func33,Tryz.ntmps33;go_upto_region 1 with (fail)
 clear hw2;have b0:=jZ.o.cell;obtain⟨s0,s1,s2⟩:=kQ.o.cells;go_upto_region 2 with (go_at_call 48;((with_reducible refine HA.o.mono ?_);rintro e w3 ⟨⟨v,rfl,hv⟩,h1⟩;have H3:=ae h1;have ib:=ae hv;clear h1 hv))
 clear b0 s0 s1 s2;have HB3:=ae (HB.o.trans (H3.o.mono HB.o.size));cases o with
 | none =>
   obtain rfl:v = .pointer none:=ib.o;go_wp2_with fail
   go_ret;exact⟨rfl,HB3.o⟩
 | some p =>
   obtain⟨i,s,r,rv,c⟩:=p;obtain⟨pb,po,_,rfl,hpb,hc⟩:=ib.o;have hc3:w3.cell? ⟨pb,po+c,none⟩=some (.string (rv.l.getD c ⟨#[]⟩)):=(H3.o.cell (p:=⟨pb,po+c,none⟩) hpb).trans hc;clear hc;go_wp2_with fail
   go_ret;exact⟨rfl,HB3.o⟩
theorem Bf(x y:UInt8):x<y↔x.toNat<y.toNat:=UInt8.lt_iff_toNat_lt
theorem xL:∀a:List UInt8,Lib.compareBytes a a=0
 | []=>rfl
 | x :: a=>by unfold Lib.compareBytes;rw[af (UInt8.lt_irrefl x),af (UInt8.lt_irrefl x)];exact xL a
theorem CS:∀a b:List UInt8,Lib.compareBytes a b = -1∨Lib.compareBytes a b=0∨Lib.compareBytes a b=1
 | [],[] => .inr (.inl rfl)
 | [],_ :: _ => .inl rfl
 | _ :: _,[] => .inr (.inr rfl)
 | x :: a,y :: b=>by
   unfold Lib.compareBytes;by_cases h:x<y
   · rw[ah h];exact .inl rfl
   · by_cases h2:y<x
     · rw[af h,ah h2];exact .inr (.inr rfl)
     · rw[af h,af h2];exact CS a b
theorem M0(h:x<y):¬ y<x:=by rw[Bf]at h ⊢;omega
theorem Fp(h:¬ x<y)(h2:¬ y<x):x=y:=UInt8.toNat_inj.1 (by rw[Bf]at h h2;omega)
theorem ZE{z:UInt8}(h:x<y)(h2:¬ z<y):x<z:=by rw[Bf]at h h2 ⊢;omega
theorem ZF{z:UInt8}(h:¬ y<x)(h2:y<z):x<z:=by rw[Bf]at h h2 ⊢;omega
theorem Ig:∀a b:List UInt8,Lib.compareBytes b a = - Lib.compareBytes a b
 | [],[]=>rfl
 | [],_ :: _=>rfl
 | _ :: _,[]=>rfl
 | x :: a,y :: b=>by
   unfold Lib.compareBytes;have ih:=Ig a b;by_cases h:x<y
   · rw[ah h,af (M0 h),ah h];rfl
   · by_cases h2:y<x
     · rw[ah h2,af h,ah h2]
     · rw[af h2,af h,af h,af h2];exact ih
theorem CR:∀a b:List UInt8,Lib.compareBytes a b=0→a=b
 | [],[],_=>rfl
 | [],_ :: _,h=>by cases h
 | _ :: _,[],h=>by cases h
 | x :: a,y :: b,h=>by
   unfold Lib.compareBytes at h;by_cases h1:x<y
   · rw[ah h1]at h;cases h
   · by_cases h2:y<x
     · rw[af h1,ah h2]at h;cases h
     · rw[af h1,af h2]at h
       rw[Fp h1 h2,CR a b h]
theorem Ih:∀a b c:List UInt8,Lib.compareBytes a b≤0→Lib.compareBytes b c≤0→Lib.compareBytes a c≤0
 | [],_,[],_,_=>by decide
 | [],_,_ :: _,_,_=>by show(-1:Int)≤0;decide
 | _ :: _,[],_,h,_=>by exact absurd h (by show ¬ (1:Int)≤0;decide)
 | _ :: _,_ :: _,[],_,h=>by exact absurd h (by show ¬ (1:Int)≤0;decide)
 | x :: a, y :: b,z :: c,h1,h2=>by
   have ih:=Ih a b c;unfold Lib.compareBytes at h1 h2 ⊢;by_cases p1:x<y
   · by_cases p3:z<y
     · rw[af (M0 p3),ah p3]at h2;exact absurd h2 (by decide)
     · rw[ah (ZE p1 p3)];decide
   · by_cases p3:y<x
     · rw[af p1,ah p3]at h1;exact absurd h1 (by decide)
     · rw [af p1,af p3]at h1
       by_cases p2:y<z
       · rw[ah (ZF p3 p2)];decide
       · by_cases p4:z<y
         · rw[af p2,ah p4]at h2;exact absurd h2 (by decide)
         · rw[af p2,af p4]at h2
           have e:=Fp p1 p3;subst e;rw[af p2,af p4];exact ih h1 h2
theorem Ao:∀a b:List UInt8,Op.bytesLess a b=decide (Lib.compareBytes a b<0)
 | [],[]=>rfl
 | [],_ :: _=>rfl
 | _ :: _,[]=>rfl
 | x :: a,y :: b=>by
   have ih:=Ao a b;unfold Lib.compareBytes;rw[Op.bytesLess,ih];by_cases h:x<y
   · rw[ah h];simp[h]
   · by_cases h2:y<x
     · rw[af h,ah h2]
       have:¬ x=y:=fun e=>by subst e;exact UInt8.lt_irrefl _ h2
       simp[h,this]
     · rw[af h,af h2]
       have e:=Fp h h2;subst e;simp[h]
theorem nR (x y:Int):Lib.compareInt x y = -1∧x<y∨Lib.compareInt x y=0∧x=y∨Lib.compareInt x y=1∧y<x:=by
 unfold Lib.compareInt;by_cases h:x<y
 · rw[ah h];exact .inl ⟨rfl,h⟩
 · by_cases h2:x > y
   · rw[af h,ah h2];exact .inr (.inr ⟨rfl,h2⟩)
   · rw[af h,af h2];exact .inr (.inl ⟨rfl,by omega⟩)
structure mV where
 nm:ByteArray
 r:Int
 c:Int
def cS(a b:ByteArray):Int:=Lib.compareBytes a.toList b.toList
def kK(x y z:Int):Int:=if x=0 then (if y=0 then z else y)else x
def dB(a b:mV):Int:=kK (cS a.nm b.nm) (Lib.compareInt a.r b.r) (Lib.compareInt a.c b.c)
theorem Vn (x:ByteArray)(w:World):Calls Tryz.prog 18 #[.string x] w fun e w'=>e = .returned (.bool false)∧w=w':=by
 go_enter Tryz.func18,Tryz.ntmps18
 go_wp2
 go_ret;exact⟨by simp,rfl⟩
theorem Vm (x:Int)(w:World):Calls Tryz.prog 19 #[.int .i64 x] w fun e w'=>e = .returned (.bool false)∧w=w':=by
 have e0:(x != x)=false:=by simp
 go_enter Tryz.func19,Tryz.ntmps19;go_wp2_with fail
 go_ret;exact⟨by first|rfl|rw[e0],rfl⟩
theorem Qr (x y:Int)(w:World):Calls Tryz.prog 12 #[.int .i64 x,.int .i64 y] w fun e w'=>e = .returned (.int .i64 (Lib.compareInt x y))∧w=w':=by
 have HN:=ae Vm;by_cases h:x<y
 · have HC:=ae (show Lib.compareInt x y = -1 by unfold Lib.compareInt;rw[ah h])
   go_enter Tryz.func12,Tryz.ntmps12;go_wp2_with (go_at_call 19;((with_reducible refine(HN.o _ _).mono ?_);rintro e w2 ⟨rfl,rfl⟩))
   go_ret;exact⟨by rw[HC.o];rfl,rfl⟩
 · by_cases h2:y<x
   · have HC:=ae (show Lib.compareInt x y=1 by unfold Lib.compareInt;rw[af h,ah h2])
     go_enter Tryz.func12,Tryz.ntmps12;go_wp2_with (go_at_call 19;((with_reducible refine(HN.o _ _).mono ?_);rintro e w2 ⟨rfl,rfl⟩))
     go_ret;exact⟨by rw[HC.o];rfl,rfl⟩
   · have HC:=ae (show Lib.compareInt x y=0 by unfold Lib.compareInt;rw[af h,af h2])
     go_enter Tryz.func12,Tryz.ntmps12;go_wp2_with (go_at_call 19;((with_reducible refine(HN.o _ _).mono ?_);rintro e w2 ⟨rfl,rfl⟩))
     go_ret;exact⟨by rw[HC.o];rfl,rfl⟩
theorem CL (a b:ByteArray):(cS a b = -1∧Op.bytesLess a.toList b.toList=true∧¬ a.toList=b.toList)∨(cS a b=0∧a.toList=b.toList)∨(cS a b=1∧Op.bytesLess a.toList b.toList=false∧¬ a.toList=b.toList):=by
 have hl:=Ao a.toList b.toList;unfold cS;rcases CS a.toList b.toList with h|h|h
 · refine .inl ⟨h,by rw[hl,h];rfl,fun e => ?_⟩
   rw[e,xL]at h;cases h
 · exact .inr (.inl ⟨h,CR _ _ h⟩)
 · refine .inr (.inr ⟨h,by rw[hl,h];rfl,fun e => ?_⟩)
   rw[e,xL]at h;cases h
theorem Qs (a b:ByteArray)(w:World):Calls Tryz.prog 11 #[.string a,.string b] w fun e w'=>e = .returned (.int .i64 (cS a b))∧w=w':=by
 have HN:=ae Vn;rcases CL a b with ⟨h,h2,h3⟩|⟨h,h2⟩|⟨h,h2,h3⟩
 · have HC:=ae h
   clear h;go_enter Tryz.func11,Tryz.ntmps11;go_wp2_with (go_at_call 18;((with_reducible refine(HN.o _ _).mono ?_);rintro e w2 ⟨rfl,rfl⟩))
   go_ret;exact⟨by rw[HC.o];rfl,rfl⟩
 · have HC:=ae h
   have hl:Op.bytesLess a.toList b.toList=false:=by rw[Ao,h2,xL];rfl
   have he:(a.toList == b.toList)=true:=by rw[h2];simp
   clear h h2;go_enter Tryz.func11,Tryz.ntmps11;go_wp2_with (go_at_call 18;((with_reducible refine(HN.o _ _).mono ?_);rintro e w2 ⟨rfl,rfl⟩))
   go_ret;exact⟨by rw[HC.o];rfl,rfl⟩
 · have HC:=ae h
   have he:(a.toList == b.toList)=false:=aB.2 h3;clear h h3;go_enter Tryz.func11,Tryz.ntmps11;go_wp2_with (go_at_call 18;((with_reducible refine(HN.o _ _).mono ?_);rintro e w2 ⟨rfl,rfl⟩))
   go_ret;exact⟨by rw[HC.o];rfl,rfl⟩
theorem V5 (x y z:Int)(w:World)(b:Nat)(h0:w.cell? ⟨b,0,none⟩=some (.int .i64 x))(h1:w.cell? ⟨b,1,none⟩=some (.int .i64 y))(h2:w.cell? ⟨b,2,none⟩=some (.int .i64 z)) :
 Calls Tryz.prog 10 #[.slice (some ⟨b,0,none⟩) 3 3] w fun e w'=>e = .returned (.int .i64 (kK x y z))∧w=w':=by
 go_enter Tryz.func10,Tryz.ntmps10;go_upto_region 3 with (fail)
 go_loopw [8] (fun iv wr=>∃i:Nat,i≤3∧iv = .int .i64 (i:Int)∧w=wr∧(0<i→x=0)∧(1<i→y=0)∧(2<i→z=0))
  (fun iv _=>3 - (intOf iv).toNat)
 case atStart=>exact⟨0,by omega,rfl,rfl,fun h=>absurd h (by decide),fun h=>absurd h (by decide),fun h=>absurd h (by decide)⟩
 case round =>
  obtain⟨i,hi,rfl,rfl,hx,hy,hz⟩:=hrel;rcases(show i=0∨i=1∨i=2∨i=3 by omega)with rfl|rfl|rfl|rfl
  · clear hx hy hz
    by_cases he:x=0
    · subst he
      go_wp2_with fail
      go_roundw
      case rel=>exact⟨1,by omega,rfl,(by first|rfl|trivial),fun _=>(by first|rfl|trivial),fun h=>absurd h (by decide),fun h=>absurd h (by decide)⟩
      case measure=>simp[intOf]
    · have hne:(x != 0)=true:=by rw[bne_iff_ne];exact he
      have HR:=ae (show kK x y z=x from af he);clear he;go_wp2_with fail
      go_ret;exact⟨by rw[HR.o];rfl,rfl⟩
  · have h:=hx (by decide)
    subst h;clear hx hy hz;by_cases he:y=0
    · subst he
      go_wp2_with fail
      go_roundw
      case rel=>exact⟨2,by omega,rfl,(by first|rfl|trivial),fun _=>(by first|rfl|trivial),fun _=>(by first|rfl|trivial),fun h=>absurd h (by decide)⟩
      case measure=>simp[intOf]
    · have hne:(y != 0)=true:=by rw[bne_iff_ne];exact he
      have HR:=ae (show kK 0 y z=y by unfold kK;rw[ah rfl,af he]);clear he;go_wp2_with fail
      go_ret;exact⟨by rw[HR.o];rfl,rfl⟩
  · have h:=hx (by decide)
    have h':=hy (by decide);subst h;subst h';clear hx hy hz;by_cases he:z=0
    · subst he
      go_wp2_with fail
      go_roundw
      case rel=>exact⟨3,by omega,rfl,(by first|rfl|trivial),fun _=>(by first|rfl|trivial),fun _=>(by first|rfl|trivial),fun _=>(by first|rfl|trivial)⟩
      case measure=>simp[intOf]
    · have hne:(z != 0)=true:=by rw[bne_iff_ne];exact he
      clear he;go_wp2_with fail
      go_ret;exact⟨rfl,rfl⟩
  · have h:=hx (by decide)
    have h':=hy (by decide);have h'':=hz (by decide);subst h;subst h';subst h'';clear hx hy hz;go_wp2_with fail
    go_ret;exact⟨rfl,rfl⟩
theorem Fh (w:World)(a b:mV):∃w2,(w.alloc (.cells #[.string a.nm,.int .i64 a.r,.int .i64 a.c] 23)).alloc (.cells #[.string b.nm,.int .i64 b.r,.int .i64 b.c] 23)=w2∧Below w.heap.size w w2∧iF w2 w.heap.size a.nm a.r a.c∧iF w2 (w.heap.size+1) b.nm b.r b.c:=by
 refine⟨_,rfl,(rz w a.nm a.r a.c).trans ((rz _ b.nm b.r b.c).mono (rz w a.nm a.r a.c).size),(iF.new w a.nm a.r a.c).over (rz _ _ _ _), ?_⟩;have:=iF.new (w.alloc (.cells #[.string a.nm,.int .i64 a.r,.int .i64 a.c] 23)) b.nm b.r b.c;rwa[iC]at this
theorem zQ (a b:mV)(w:World):Calls Tryz.prog 5 #[.agg #[.string a.nm,.int .i64 a.r,.int .i64 a.c],.agg #[.string b.nm,.int .i64 b.r,.int .i64 b.c]] w fun e w'=>e = .returned (.int .i64 (dB a b))∧Below w.heap.size w w':=by
 obtain⟨w1,hw1,hb,ha1,hb1⟩:=Fh w a b;have HB:=ae hb
 have iD:=ae (fun (wq:World)(hq:Below w1.heap.size w1 wq)=>(show wq.cell? ⟨w.heap.size,0,none⟩=some (.string a.nm)∧wq.cell? ⟨w.heap.size,1,none⟩=some (.int .i64 a.r)∧wq.cell? ⟨w.heap.size,2,none⟩=some (.int .i64 a.c)∧wq.cell? ⟨w.heap.size+1,0,none⟩=some (.string b.nm)∧wq.cell? ⟨w.heap.size+1,1,none⟩=some (.int .i64 b.r)∧wq.cell? ⟨w.heap.size+1,2,none⟩=some (.int .i64 b.c)from by
  obtain⟨p0,p1,p2⟩:=(ha1.over hq).cells;obtain⟨q0,q1,q2⟩:=(hb1.over hq).cells;exact⟨p0,p1,p2,q0,q1,q2⟩))
 have zk:=ae (fun (W:World)=>V5 (cS a.nm b.nm) (Lib.compareInt a.r b.r) (Lib.compareInt a.c b.c) (W.alloc (.cells #[.int .i64 (cS a.nm b.nm),.int .i64 (Lib.compareInt a.r b.r),.int .i64 (Lib.compareInt a.c b.c)] 3)) W.heap.size (by rw[World.cell?_alloc_new];rfl) (by rw[World.cell?_alloc_new];rfl) (by rw[World.cell?_alloc_new];rfl));have HS:=ae Qs;have HI:=ae Qr;clear hb ha1 hb1;go_enter Tryz.func5,Tryz.ntmps5;go_upto_region 1 with (fail)
 clear hw1;have HD:=ae (Below.drew (ak w1.heap.size w1));have FO:=ae (HD.o.alloc (aj _) (.cells #[.int .i64 (cS a.nm b.nm),.int .i64 (Lib.compareInt a.r b.r),.int .i64 (Lib.compareInt a.c b.c)] 3))
 go_region_held3 (fun wq=>wq.cell? ⟨w.heap.size,0,none⟩=some (.string a.nm)∧wq.cell? ⟨w.heap.size,1,none⟩=some (.int .i64 a.r)∧wq.cell? ⟨w.heap.size,2,none⟩=some (.int .i64 a.c)∧wq.cell? ⟨w.heap.size+1,0,none⟩=some (.string b.nm)∧wq.cell? ⟨w.heap.size+1,1,none⟩=some (.int .i64 b.r)∧wq.cell? ⟨w.heap.size+1,2,none⟩=some (.int .i64 b.c)) (first|exact iD.o _ HD.o|exact iD.o _ FO.o) (first
  | (go_at_call 11;((with_reducible refine(HS.o _ _ _).mono ?_);rintro e w2 ⟨rfl,rfl⟩))
  | (go_at_call 12;((with_reducible refine(HI.o _ _ _).mono ?_);rintro e w2 ⟨rfl,rfl⟩))
  | (go_at_call 10;(refine(zk.o w1.drew).mono ?_;rintro e w2 ⟨rfl,rfl⟩)))
 all_goals go_wp2_with fail
 all_goals go_ret
 all_goals exact⟨rfl,HB.o.trans (FO.o.mono HB.o.size)⟩
theorem Qt (a b:mV)(w:World):Calls Tryz.prog 6 #[.agg #[.string a.nm,.int .i64 a.r,.int .i64 a.c],.agg #[.string b.nm,.int .i64 b.r,.int .i64 b.c]] w fun e w'=>e = .returned (.int .i64 (dB a b))∧Below w.heap.size w w':=by
 obtain⟨w1,hw1,hb,ha1,hb1⟩:=Fh w a b;have HB:=ae hb;have HA:=ae ha1;have HQ:=ae hb1;have HW1:=ae hw1;clear hw1 hb ha1 hb1;rcases CL a.nm b.nm with ⟨h,h2,h3⟩|⟨h,h2⟩|⟨h,h2,h3⟩
 · have he:(a.nm.toList == b.nm.toList)=false:=aB.2 h3
   have ib:=ae (show dB a b = -1 by unfold dB kK;rw[h,af (by decide)]);clear h h3;go_enter Tryz.func6,Tryz.ntmps6;go_upto_region 1 with (fail)
   obtain⟨p0,p1,p2⟩:=HA.o.cells;obtain⟨q0,q1,q2⟩:=HQ.o.cells;go_wp2_with fail
   all_goals go_ret
   all_goals exact⟨by rw[ib.o];rfl,by rw[HW1.o];exact HB.o⟩
 · have he:(a.nm.toList == b.nm.toList)=true:=by rw[h2];simp
   have hl:Op.bytesLess a.nm.toList b.nm.toList=false:=by rw[Ao,h2,xL];rfl
   clear h2;rcases nR a.r b.r with ⟨k,k2⟩|⟨k,k2⟩|⟨k,k2⟩
   · have ke:(a.r == b.r)=false:=aB.2 (by omega)
     have ib:=ae (show dB a b = -1 by unfold dB kK;rw[h,ah rfl,k,af (by decide)]);clear h k;go_enter Tryz.func6,Tryz.ntmps6;go_upto_region 1 with (fail)
     obtain⟨p0,p1,p2⟩:=HA.o.cells;obtain⟨q0,q1,q2⟩:=HQ.o.cells;go_wp2_with fail
     all_goals go_ret
     all_goals exact⟨by rw[ib.o];rfl,by rw[HW1.o];exact HB.o⟩
   · have ke:(a.r == b.r)=true:=by rw[k2];simp
     have kl:¬ a.r<b.r:=by omega
     rcases nR a.c b.c with ⟨m,m2⟩|⟨m,m2⟩|⟨m,m2⟩
     · have me:(a.c == b.c)=false:=aB.2 (by omega)
       have ib:=ae (show dB a b = -1 by unfold dB kK;rw[h,ah rfl,k,ah rfl,m]);clear h k k2 m;go_enter Tryz.func6,Tryz.ntmps6;go_upto_region 1 with (fail)
       obtain⟨p0,p1,p2⟩:=HA.o.cells;obtain⟨q0,q1,q2⟩:=HQ.o.cells;go_wp2_with fail
       all_goals go_ret
       all_goals exact⟨by rw[ib.o];rfl,by rw[HW1.o];exact HB.o⟩
     · have me:(a.c == b.c)=true:=by rw[m2];simp
       have ib:=ae (show dB a b=0 by unfold dB kK;rw[h,ah rfl,k,ah rfl,m]);clear h k k2 m m2 kl;go_enter Tryz.func6,Tryz.ntmps6;go_upto_region 1 with (fail)
       obtain⟨p0,p1,p2⟩:=HA.o.cells;obtain⟨q0,q1,q2⟩:=HQ.o.cells;go_wp2_with fail
       all_goals go_ret
       all_goals exact⟨by rw[ib.o];rfl,by rw[HW1.o];exact HB.o⟩
     · have me:(a.c == b.c)=false:=aB.2 (by omega)
       have ml:¬ a.c<b.c:=by omega
       have ib:=ae (show dB a b=1 by unfold dB kK;rw[h,ah rfl,k,ah rfl,m]);clear h k k2 m m2;go_enter Tryz.func6,Tryz.ntmps6;go_upto_region 1 with (fail)
       obtain⟨p0,p1,p2⟩:=HA.o.cells;obtain⟨q0,q1,q2⟩:=HQ.o.cells;go_wp2_with fail
       all_goals go_ret
       all_goals exact⟨by rw[ib.o];rfl,by rw[HW1.o];exact HB.o⟩
   · have ke:(a.r == b.r)=false:=aB.2 (by omega)
     have kl:¬ a.r<b.r:=by omega
     have ib:=ae (show dB a b=1 by unfold dB kK;rw[h,ah rfl,k,af (by decide)]);clear h k k2;go_enter Tryz.func6,Tryz.ntmps6;go_upto_region 1 with (fail)
     obtain⟨p0,p1,p2⟩:=HA.o.cells;obtain⟨q0,q1,q2⟩:=HQ.o.cells;go_wp2_with fail
     all_goals go_ret
     all_goals exact⟨by rw[ib.o];rfl,by rw[HW1.o];exact HB.o⟩
 · have he:(a.nm.toList == b.nm.toList)=false:=aB.2 h3
   have ib:=ae (show dB a b=1 by unfold dB kK;rw[h,af (by decide)]);clear h h3;go_enter Tryz.func6,Tryz.ntmps6;go_upto_region 1 with (fail)
   obtain⟨p0,p1,p2⟩:=HA.o.cells;obtain⟨q0,q1,q2⟩:=HQ.o.cells;go_wp2_with fail
   all_goals go_ret
   all_goals exact⟨by rw[ib.o];rfl,by rw[HW1.o];exact HB.o⟩
def fV(w:World)(b:Nat)(s:ByteArray)(c r:Int)(ac ar:Bool):Prop:=w.heap[b]? = some (.cells #[.string s,.int .i64 c,.int .i64 r,.bool ac,.bool ar] 104)
theorem fV.new (w:World)(s:ByteArray)(c r:Int)(ac ar:Bool):fV (w.alloc (.cells #[.string s,.int .i64 c,.int .i64 r,.bool ac,.bool ar] 104)) w.heap.size s c r ac ar:=by
 exact(gV w _).1
theorem fV.lt{ar:Bool}(h:fV w b s c r ac ar):b<w.heap.size:=(cu.1 h).1
theorem fV.below {ar:Bool}(h:fV w b s c r ac ar)(hb:Below B w w')(hB:b<B):fV w' b s c r ac ar:=by
 unfold fV;rw[hb.block b hB];exact h
theorem fV.facts {ar:Bool}(h:fV w b s c r ac ar) :
 w.cell? ⟨b,0,none⟩=some (.string s)∧w.cell? ⟨b,1,none⟩=some (.int .i64 c)∧w.cell? ⟨b,2,none⟩=some (.int .i64 r)∧w.cell? ⟨b,3,none⟩=some (.bool ac)∧w.cell? ⟨b,4,none⟩=some (.bool ar) :=
 ⟨by rw[cell_of_row w b 0 _ _ _ h];rfl,by rw[cell_of_row w b 1 _ _ _ h];rfl,by rw[cell_of_row w b 2 _ _ _ h];rfl,by rw[cell_of_row w b 3 _ _ _ h];rfl,by rw[cell_of_row w b 4 _ _ _ h];rfl⟩
structure Rd where
 s:ByteArray
 k:Nat
 sh:ByteArray
 c:Int
 r:Int
 ac:Bool
 ar:Bool
def Rd.rest(d:Rd):List Int:=(sb d.s).drop d.k
def Rd.cells(d:Rd):Array Value:=#[.string d.s,.int .i64 (d.k:Int),.string d.sh,.int .i64 d.c,.int .i64 d.r,.bool d.ac,.bool d.ar]
def Rd.start(s:ByteArray):Rd:=⟨s,0,⟨#[]⟩,0,0,false,false⟩
def ja(x:Int):Bool:=decide (x≠33)
def isRow(l:List Int):Bool:=decide (l≠[]∧l.head? ≠ some 48∧bV l≤999)
def Rd.bG(d:Rd):List Int:=(sb d.s).takeWhile ja
def Rd.lT(d:Rd):Option Rd:=if d.bG.length=d.s.size then some d else if fe d.bG=true then some { d with sh:=strOfNums d.bG,k:=d.bG.length+1 }else none
def Rd.mark(d:Rd):Bool:=decide (d.rest.head? = some 36)
def Rd.uC(d:Rd):Option Rd:=some { d with ac:=d.mark,k:=d.k+(cZ d.mark).length }
def Rd.uD(d:Rd):Option Rd:=some { d with ar:=d.mark,k:=d.k+(cZ d.mark).length }
def Rd.col(d:Rd):Option Rd:=if jl (d.rest.takeWhile aP)=true then some { d with c:=mG (d.rest.takeWhile aP),k:=d.k+(d.rest.takeWhile aP).length }else none
def Rd.row(d:Rd):Option Rd:=if isRow (d.rest.takeWhile isNum)=true then some { d with r:=bV (d.rest.takeWhile isNum) - 1,k:=d.k+(d.rest.takeWhile isNum).length }else none
def Rd.fin(d:Rd):Option Rd:=if d.k=d.s.size then some d else none
theorem qb (p:Int→Bool):∀(a b:List Int),(∀x∈a,p x=true)→(∀x,b.head? = some x→p x=false)→(a++b).takeWhile p=a
 | [],[],_,_=>rfl
 | [],y :: b,_,h2=>by rw[eY,List.takeWhile_cons,h2 y rfl];rfl
 | x :: a,b,h,h2=>by
   rw[bM,List.takeWhile_cons,h x (by simp),ah rfl,qb p a b (fun z hz=>h z (by simp[hz])) h2]
theorem Mx (p:Int→Bool):∀(a b:List Int),(∀x∈a,p x=true)→(a++b).takeWhile p=a++b.takeWhile p
 | [],b,_=>rfl
 | x :: a,b,h=>by
   rw[bM,List.takeWhile_cons,h x (by simp),ah rfl,Mx p a b (fun z hz=>h z (by simp[hz])),bM]
theorem rW (p:Int→Bool):∀(l:List Int),∀x∈l.takeWhile p,p x=true
 | [],x,hx=>by simp at hx
 | y :: l,x,hx=>by
   rw[List.takeWhile_cons]at hx;by_cases h:p y=true
   · rw[ah h]at hx
     rcases gp.1 hx with rfl|hx
     · exact h
     · exact rW p l x hx
   · rw[af h]at hx;simp at hx
theorem take_split (p:Int→Bool):∀(l:List Int),l.takeWhile p++l.drop (l.takeWhile p).length=l
 | []=>rfl
 | y :: l=>by
   rw[List.takeWhile_cons];by_cases h:p y=true
   · rw[ah h,aN,List.drop_succ_cons,bM,take_split p l]
   · rw[af h];rfl
theorem A8 (p:Int→Bool):∀(l:List Int)(x:Int),(l.drop (l.takeWhile p).length).head? = some x→p x=false
 | [],x,h=>by simp at h
 | y :: l,x,h=>by
   rw[List.takeWhile_cons]at h;by_cases hy:p y=true
   · rw[ah hy,aN,List.drop_succ_cons]at h;exact A8 p l x h
   · rw[af hy]at h;simp at h;subst h;simpa using hy
theorem Iu:∀(n:Nat)(l:List Int),l.length=n→l≠[]→(∀x∈l,isNum x=true)→l.head? ≠ some 48→1≤bV l∧aW (bV l).toNat=l:=by
 intro n
 induction n with
 | zero=>intro l h h2;exact absurd (mK h) h2
 | succ n ih =>
   intro l hl hne aV hh
   obtain ⟨a,x,rfl⟩:∃a x,l=a++[x]:=by
    rcases List.eq_nil_or_concat l with h|⟨a,x,h⟩
    · exact absurd h hne
    · exact⟨a,x,by rw[h,List.concat_eq_append]⟩
   have hx:=oq (aV x (by simp));rw[yR];by_cases ha:a=[]
   · subst ha
     have h48:x≠48:=by intro h;subst h;exact hh rfl
     have hv:bV []=0:=rfl;rw[hv,nU _ (by omega)];refine⟨by omega, ?_⟩;rw[eY];congr 1;omega
   · have hlen:a.length=n:=by rw[ax,gu]at hl;omega
     have h0:a.head? ≠ some 48:=by
      cases a with
      | nil=>exact absurd rfl ha
      | cons y a=>simpa using hh
     obtain⟨h1,h2⟩:=ih a hlen ha (fun z hz=>aV z (by simp[hz])) h0;refine⟨by omega, ?_⟩;rw[rC _ (by omega),show(10*bV a+(x - 48)).toNat / 10=(bV a).toNat from by omega,h2];congr 2;omega
theorem yQ:∀(b a:List Int),(∀x∈b,isNum x=true)→0≤bV a→bV a≤bV (a++b)
 | [],a,_,_=>by rw[bE];exact Int.le_refl _
 | x :: b,a,h,h0=>by
   have hx:=oq (h x (by simp));have h1:=yR a x;have h2:=yQ b (a++[x]) (fun z hz=>h z (by simp[hz])) (by omega);rw[bD,nI]at h2;omega
theorem vo(d:Rd)(m:Nat):(sb d.s).drop (d.k+m)=d.rest.drop m:=by unfold Rd.rest;rw[List.drop_drop]
theorem El (d:Rd):d.rest=cZ d.mark++d.rest.drop (cZ d.mark).length:=by
 unfold Rd.mark;cases h:d.rest with
 | nil=>rfl
 | cons x l =>
   by_cases hx:x=36
   · subst hx;simp[cZ]
   · have:(x :: l).head? ≠ some 36:=by simpa using hx
     rw[aK this];simp[cZ]
def gQ(s:ByteArray):Option Rd:=((((((Rd.start s).lT.bind Rd.uC).bind Rd.col).bind Rd.uD).bind Rd.row).bind Rd.fin)
theorem Vd {l:List Int}(h:fe l=true):l≠[]∧l.length≤12:=by
 unfold fe at h;rw[bu,aA,aA]at h;exact⟨by intro h0;rw[h0]at h;simp at h,h.2.2⟩
theorem TD{l:List Int}(h:isRow l=true):l≠[]∧l.head? ≠ some 48∧bV l≤999:=by unfold isRow at h;rw[aA]at h;exact h
theorem tN (s:ByteArray)(d:Rd)(h:gQ s=some d):d.sh.size≤12∧ek (sb d.sh) d.c d.r=true∧bC (sb d.sh) d.c d.r d.ac d.ar=sb s:=by
 unfold gQ at h;simp only[Option.bind_eq_some_iff]at h;obtain⟨d5,⟨d4,⟨d3,⟨d2,⟨d1,h1,h2⟩,h3⟩,h4⟩,h5⟩,h6⟩:=h
 -- the sheet
 have g1:d1.s=s∧sb s=(if sb d1.sh=[]then []else sb d1.sh++[33])++d1.rest∧(sb d1.sh=[]∨fe (sb d1.sh)=true)∧d1.sh.size≤12:=by
  unfold Rd.lT at h1;by_cases hc:(Rd.start s).bG.length=(Rd.start s).s.size
  · rw[ah hc]at h1
    injection h1 with h1;subst h1;exact⟨rfl,rfl,.inl rfl,by show(0:Nat)≤12;omega⟩
  · rw [af hc]at h1
    by_cases hn:fe (Rd.start s).bG=true
    · rw [ah hn]at h1
      injection h1 with h1;subst h1
      have hb:Bytes (Rd.start s).bG:=fun x hx=>p9 s x (by
       have:=take_split ja (sb s);rw[← this];exact List.mem_append_left _ hx)
      obtain⟨q1,q2⟩:=Vd hn;refine⟨rfl, ?_,.inr (by show fe (sb (strOfNums _))=true;rw[iJ _ hb];exact hn),by show(strOfNums _).size≤12;rw[strOfNums_size];exact q2⟩;show sb s=(if sb (strOfNums (Rd.start s).bG)=[]then []else sb (strOfNums (Rd.start s).bG)++[33])++(sb s).drop ((Rd.start s).bG.length+1);rw[iJ _ hb,af q1];have e:=take_split ja (sb s)
      have hlt:(Rd.start s).bG.length<(sb s).length:=by
       have:=congrArg List.length e;rw[ax]at this;have h3:(Rd.start s).bG.length≠s.size:=hc;have h4:=bn s;show((sb s).takeWhile ja).length<_;have h5:(Rd.start s).bG=(sb s).takeWhile ja:=rfl;rw[h5]at h3;omega
      have hh:=A8 ja (sb s);have h6:(sb s).drop (Rd.start s).bG.length=(sb s)[(Rd.start s).bG.length] :: (sb s).drop ((Rd.start s).bG.length+1):=List.drop_eq_getElem_cons hlt
      have h7:=hh ((sb s)[(Rd.start s).bG.length]) (by
       show((sb s).drop (Rd.start s).bG.length).head? = _;rw[h6];rfl)
      have h8:(sb s)[(Rd.start s).bG.length]=33:=by unfold ja at h7;simpa using h7
      rw[h8]at h6;rw[bD,nI, ← h6];exact e.symm
    · rw[af hn]at h1;cases h1
 obtain⟨e1,t1,n1,z1⟩:=g1
 -- the mark ahead of the column
 have g2:d2.s=d1.s∧d2.sh=d1.sh∧d1.rest=cZ d2.ac++d2.rest:=by
  unfold Rd.uC at h2;injection h2 with h2;subst h2;refine⟨rfl,rfl, ?_⟩;show d1.rest=cZ d1.mark++(sb d1.s).drop (d1.k+(cZ d1.mark).length);rw[vo];exact El d1
 obtain⟨e2,f2,t2⟩:=g2
 have g3:d3.s=d2.s∧d3.sh=d2.sh∧d3.ac=d2.ac∧d2.rest=bH d3.c++d3.rest∧0≤d3.c∧d3.c≤701:=by
  unfold Rd.col at h3;by_cases hc:jl (d2.rest.takeWhile aP)=true
  · rw[ah hc]at h3;injection h3 with h3;subst h3
    obtain⟨q1,q2,q3⟩:=Qv _ hc;refine⟨rfl,rfl,rfl, ?_,q2,q3⟩;show d2.rest=bH (mG (d2.rest.takeWhile aP))++(sb d2.s).drop (d2.k+(d2.rest.takeWhile aP).length);rw[q1,vo,take_split]
  · rw[af hc]at h3;cases h3
 obtain⟨e3,f3,a3,t3,c0,c1⟩:=g3
 have g4:d4.s=d3.s∧d4.sh=d3.sh∧d4.ac=d3.ac∧d4.c=d3.c∧d3.rest=cZ d4.ar++d4.rest:=by
  unfold Rd.uD at h4;injection h4 with h4;subst h4;refine⟨rfl,rfl,rfl,rfl, ?_⟩;show d3.rest=cZ d3.mark++(sb d3.s).drop (d3.k+(cZ d3.mark).length);rw[vo];exact El d3
 obtain⟨e4,f4,a4,b4,t4⟩:=g4
 have g5:d5.s=d4.s∧d5.sh=d4.sh∧d5.ac=d4.ac∧d5.c=d4.c∧d5.ar=d4.ar∧d4.rest=aW (d5.r+1).toNat++d5.rest∧0≤d5.r∧d5.r≤998:=by
  unfold Rd.row at h5;by_cases hc:isRow (d4.rest.takeWhile isNum)=true
  · rw[ah hc]at h5;injection h5 with h5;subst h5
    obtain⟨q1,q2,q3⟩:=TD hc;obtain⟨q4,q5⟩:=Iu _ _ rfl q1 (rW isNum _) q2;refine⟨rfl,rfl,rfl,rfl,rfl, ?_,by show 0≤bV (d4.rest.takeWhile isNum) - 1;omega,by show bV (d4.rest.takeWhile isNum) - 1≤998;omega⟩;show d4.rest=aW (bV (d4.rest.takeWhile isNum) - 1+1).toNat++(sb d4.s).drop (d4.k+(d4.rest.takeWhile isNum).length);rw[Int.sub_add_cancel,q5,vo,take_split]
  · rw[af hc]at h5;cases h5
 obtain⟨e5,f5,a5,b5,r5,t5,r0,r1⟩:=g5
 have g6:d=d5∧d5.rest=[]:=by
  unfold Rd.fin at h6;by_cases hc:d5.k=d5.s.size
  · rw[ah hc]at h6;injection h6 with h6
    refine⟨h6.symm, ?_⟩;unfold Rd.rest;rw[hc, ← bn,List.drop_length]
  · rw[af hc]at h6;cases h6
 obtain⟨rfl,t6⟩:=g6;have hsh:d.sh=d1.sh:=by rw[f5,f4,f3,f2]
 have hac:d.ac=d2.ac:=by rw[a5,a4,a3]
 have hc:d.c=d3.c:=by rw[b5,b4]
 have hm:ek (sb d.sh) d.c d.r=true:=by
  unfold ek;rw[bu,Bool.or_eq_true,aA,aA,hsh,hc];exact⟨n1,by omega,by omega,by omega,by omega⟩
 refine⟨by rw[hsh];exact z1,hm, ?_⟩;rw[vC _ _ _ _ _ hm,t1,t2,t3,t4,t5,t6,hsh,hc,hac,r5,bE];rfl
def GN(l:List Int):Prop:=∀sh c r ac ar,ek sh c r=true→bC sh c r ac ar≠l
def sI (l:List Int)(e:Ending):Prop :=
 (∃s c r ac ar,s.size≤12∧ek (sb s) c r=true∧bC (sb s) c r ac ar=l∧e = .returned (.tuple #[.agg #[.string s,.int .i64 c,.int .i64 r,.bool ac,.bool ar],.bool true])) ∨
 (GN l∧e = .returned (.tuple #[.agg #[.string ⟨#[]⟩,.int .i64 0,.int .i64 0,.bool false,.bool false],.bool false]))
theorem KF (d:Rd)(b:Bool)(t:List Int)(h:d.rest=cZ b++t)(ht:∀x,t.head? = some x→x≠36):d.mark=b:=by
 unfold Rd.mark;rw[h];cases b with
 | true=>rfl
 | false =>
   rw[gK];intro hx;exact ht 36 hx rfl
theorem TC (r:Int)(h0:0≤r)(h1:r≤998):isRow (aW (r+1).toNat)=true:=by
 have hh:∀(n u:Nat),u<n→1≤u→(aW u).head? ≠ some 48:=by
  intro n
  induction n with
  | zero=>intro u h;omega
  | succ n ih =>
    intro u hu h1;by_cases h:u<10
    · rw[nU u h];simp;omega
    · rw[rC u h]
      have:=ih (u / 10) (by omega) (by omega);cases hd:aW (u / 10)with
      | nil=>exact absurd hd (nT _)
      | cons y l=>rw[hd]at this;simpa using this
 unfold isRow;rw[aA];refine⟨nT _,hh _ _ (Nat.lt_succ_self _) (by omega), ?_⟩;rw[Bg];omega
theorem EC (s:ByteArray)(h:gQ s=none):GN (sb s):=by
 intro sh c r ac ar hm e;obtain⟨c0,c1,r0,r1⟩:=Aq hm;rw[vC _ _ _ _ _ hm]at e
 -- the sheet
 have g1:∃d1,(Rd.start s).lT=some d1∧d1.rest=lV c r ac ar∧d1.s=s∧d1.k+d1.rest.length=s.size:=by
  by_cases hs:sh=[]
  · rw [ah hs,eY]at e
    have hp:(Rd.start s).bG=sb s:=by
     show(sb s).takeWhile ja=sb s;rw[← e, ← bE (lV c r ac ar),qb ja _ [] (fun x hx=>by unfold ja;rw[aA];exact E8 c r ac ar x hx) (fun x hx=>by simp at hx),bE]
    refine⟨Rd.start s, ?_,e.symm,rfl,by show 0+(sb s).length=s.size;rw[bn];omega⟩;unfold Rd.lT;rw[hp,ah (show(sb s).length=(Rd.start s).s.size from bn s)]
  · rw [af hs,bD]at e
    have hn:=(yl hm).resolve_left hs
    have hp:(Rd.start s).bG=sh:=by
     show(sb s).takeWhile ja=sh;rw[← e];exact qb ja _ _ (fun x hx=>by unfold ja;rw[aA];exact Eo _ hn x hx) (fun x hx=>by simp at hx;subst hx;rfl)
    have hlen:¬ sh.length=(Rd.start s).s.size:=by
     show ¬ sh.length=s.size;rw[← bn, ← e];simp only[ax,aN];omega
    refine⟨{ Rd.start s with sh:=strOfNums sh,k:=sh.length+1 }, ?_, ?_,rfl, ?_⟩
    · unfold Rd.lT;rw[hp,af hlen,ah hn]
    · show(sb s).drop (sh.length+1)=_
      rw[← e, ← List.drop_drop,List.drop_left];rfl
    · show sh.length+1+((sb s).drop (sh.length+1)).length=s.size
      rw[jX, ← bn, ← e];simp only[ax,aN];omega
 obtain⟨d1,h1,t1,s1,k1⟩:=g1;have Av:∀x,aP x=true→x≠36:=by intro x hx;have:=mX hx;omega
 have Aw:∀x,isNum x=true→x≠36:=by intro x hx;have:=oq hx;omega
 obtain ⟨d2,h2,t2,s2,k2⟩:∃d2,d1.uC=some d2∧d2.rest=bH c++(cZ ar++aW (r+1).toNat)∧d2.s=s∧d2.k=d1.k+(cZ ac).length:=by
  have hmk:=KF d1 ac (bH c++(cZ ar++aW (r+1).toNat)) t1 (fun x hx=>Av x (pR c x (head_append (zR c c0 c1) hx)));refine⟨_,rfl, ?_,s1,by show d1.k+(cZ d1.mark).length=_;rw[hmk]⟩;show(sb d1.s).drop (d1.k+(cZ d1.mark).length)=_;rw[vo,hmk,t1];unfold lV;rw[List.drop_left]
 have rH:∀x,(cZ ar++aW (r+1).toNat).head? = some x→aP x=false:=by
  intro x hx;cases ar with
  | true=>simp[cZ]at hx;subst hx;decide
  | false =>
    have hx':(aW (r+1).toNat++[]).head? = some x:=by simpa [cZ]using hx
    have:=oq (pV _ x (head_append (nT _) hx'));exact JX (by omega)
 obtain ⟨d3,h3,t3,s3,k3⟩:∃d3,d2.col=some d3∧d3.rest=cZ ar++aW (r+1).toNat∧d3.s=s∧d3.k=d2.k+(bH c).length:=by
  have hp:d2.rest.takeWhile aP=bH c:=by rw[t2];exact qb aP _ _ (pR c) rH
  refine⟨{ d2 with c:=mG (d2.rest.takeWhile aP),k:=d2.k+(d2.rest.takeWhile aP).length }, ?_, ?_,s2,by show d2.k+(d2.rest.takeWhile aP).length=_;rw[hp]⟩
  · unfold Rd.col;rw[ah (by rw[hp];exact(EB c c0 c1).1)]
  · show(sb d2.s).drop (d2.k+(d2.rest.takeWhile aP).length)=_
    rw[vo,hp,t2,List.drop_left]
 obtain ⟨d4,h4,t4,s4,k4⟩:∃d4,d3.uD=some d4∧d4.rest=aW (r+1).toNat∧d4.s=s∧d4.k=d3.k+(cZ ar).length:=by
  have hmk:=KF d3 ar (aW (r+1).toNat) t3 (fun x hx=>Aw x (pV _ x (head_append (b:=[]) (nT _) (by rw[bE];exact hx))));refine⟨_,rfl, ?_,s3,by show d3.k+(cZ d3.mark).length=_;rw[hmk]⟩;show(sb d3.s).drop (d3.k+(cZ d3.mark).length)=_;rw[vo,hmk,t3,List.drop_left]
 obtain ⟨d5,h5,s5,k5⟩:∃d5,d4.row=some d5∧d5.s=s∧d5.k=d4.k+(aW (r+1).toNat).length:=by
  have hp:d4.rest.takeWhile isNum=aW (r+1).toNat:=by
   rw[t4];have:=qb isNum (aW (r+1).toNat) [] (pV _) (fun x hx=>by simp at hx);rw[bE]at this;exact this
  refine⟨{ d4 with r:=bV (d4.rest.takeWhile isNum) - 1,k:=d4.k+(d4.rest.takeWhile isNum).length }, ?_,s4,by show d4.k+(d4.rest.takeWhile isNum).length=_;rw[hp]⟩;unfold Rd.row;rw[ah (by rw[hp];exact TC r r0 r1)]
 have h6:d5.fin=none:=by
  unfold gQ at h;rw[h1]at h;simp only[Option.bind_some]at h;rw[h2]at h;simp only[Option.bind_some]at h;rw[h3]at h;simp only[Option.bind_some]at h;rw[h4]at h;simp only[Option.bind_some]at h;rw[h5]at h;exact h
 unfold Rd.fin at h6
 have hk:d5.k=d5.s.size:=by
  rw[s5];rw[t1]at k1;unfold lV at k1;simp only[ax]at k1;omega
 rw[ah hk]at h6;cases h6
theorem Hr (c:Int):Bytes (bH c):=by
 intro x hx;have:=mX (pR c x hx);omega
theorem Ht (u:Nat):Bytes (aW u):=by
 intro x hx;have:=oq (pV u x hx);omega
theorem Hu (b:Bool):Bytes (cZ b):=by
 intro x hx;have:=rD b x hx;rw[aA]at this;omega
theorem vU (s:ByteArray)(c r:Int)(ac ar:Bool):Bytes (bC (sb s) c r ac ar):=by
 by_cases h:ek (sb s) c r=true
 · rw[vC _ _ _ _ _ h]
   unfold lV;refine Bytes.append ?_ ((Hu ac).append ((Hr c).append ((Hu ar).append (Ht _))));split
   · exact Bytes.nil
   · exact Bytes.append (p9 s) (by intro x hx;simp at hx;omega)
 · unfold bC;rw[af h];exact Bytes.nil
theorem LP{a b:ByteArray}(h:sb a=sb b):a=b:=by rw[← oH a, ← oH b,h]
theorem sI.text {ar:Bool}{e:Ending}(hm:ek (sb s) c r=true)(h:sI (sb (strOfNums (bC (sb s) c r ac ar))) e):e = .returned (.tuple #[.agg #[.string s,.int .i64 c,.int .i64 r,.bool ac,.bool ar],.bool true]):=by
 rw[iJ _ (vU s c r ac ar)]at h;rcases h with ⟨s',c',r',sJ,ru,_,h2,h3,h4⟩|⟨h1,_⟩
 · obtain⟨e1,e2,e3,e4,e5⟩:=MC h2 hm h3
   rw[h4,LP e1,e2,e3,e4,e5]
 · exact absurd rfl (h1 _ _ _ _ _ hm)
structure ai where
 kind:Int
 text:ByteArray
 num:Int
 sh:ByteArray
 c:Int
 r:Int
 ac:Bool
 ar:Bool
 pos:Int
def ai.zero:ai:=⟨0,⟨#[]⟩,0,⟨#[]⟩,0,0,false,false,0⟩
def ai.goto(t:ai)(p:Int):ai:={ t with pos:=p }
def isWord(x:Int):Bool:=isLet x||(isNum x||decide (x=36∨x=33))
def kZ (l:List Int):Option (ai × Nat) :=
 if (1<(l.takeWhile isNum).length∧l.head? = some 48)∨9223372036854775807<bV (l.takeWhile isNum)then none
 else some ({ ai.zero with kind:=1,num:=bV (l.takeWhile isNum) },(l.takeWhile isNum).length)
def bP:List Int→Option (List Int × Nat)
 | []=>none
 | x :: l =>
   if x<32 then none
   else if x≠34 then (bP l).map fun p=>(x :: p.1,p.2+1)
   else match l with
    | y :: m=>if y=34 then (bP m).map fun p=>(34 :: p.1,p.2+2)else some ([],1)
    | []=>some ([],1)
def jr(l:List Int):Option (ai × Nat):=(bP l).map fun p=>({ ai.zero with kind:=2,text:=strOfNums p.1 },p.2+1)
def jG(l:List Int):Bool:=decide (∀x∈l,(aP x||isNum x)=true)&&(decide (1≤l.length∧l.length≤12)&&aP (l.getD 0 0))
def lq (l:List Int):Option (ai × Nat) :=
 match gQ (strOfNums (l.takeWhile isWord))with
 | some d=>some ({ ai.zero with kind:=4,sh:=d.sh,c:=d.c,r:=d.r,ac:=d.ac,ar:=d.ar },(l.takeWhile isWord).length)
 | none=>if jG (l.takeWhile isWord)=true then some ({ ai.zero with kind:=3,text:=strOfNums (l.takeWhile isWord) },(l.takeWhile isWord).length)else none
def mY(l:List Int):Option (ai × Nat):=if l.take 5=[35,82,69,70,33]then some ({ ai.zero with kind:=6 },5)else none
def jv:List Int→Nat
 | []=>0
 | x :: l =>
   if (x=60∧(l.head? = some 62∨l.head? = some 61))∨(x=62∧l.head? = some 61)then 2
   else if x=43∨x=45∨x=42∨x=47∨x=38∨x=61∨x=60∨x=62∨x=40∨x=41∨x=44∨x=58 then 1 else 0
def lU(l:List Int):Option (ai × Nat):=if jv l=0 then none else some ({ ai.zero with kind:=5,text:=strOfNums (l.take (jv l)) },jv l)
def cK:List Int→Option (ai × Nat)
 | []=>none
 | x :: l=>if isNum x=true then kZ (x :: l)else if x=34 then jr l else if x=35 then mY (x :: l)else if isLet x=true∨x=36 then lq (x :: l)else lU (x :: l)
def bU:Nat→Nat→List Int→Option (List ai)
 | _,p,[]=>some [ai.zero.goto p]
 | 0,_,_ :: _=>none
 | f + 1,p,x :: l =>
   if x=32 then bU f (p+1) l
   else match cK (x :: l)with
    | none=>none
    | some (t,n)=>(bU f (p+n) ((x :: l).drop n)).map (t.goto p :: ·)
def gH(l:List Int):Option (List ai):=bU l.length 0 l
theorem nD(x:Int)(l:List Int):cK (x :: l)=if isNum x=true then kZ (x :: l)else if x=34 then jr l else if x=35 then mY (x :: l)else if isLet x=true∨x=36 then lq (x :: l)else lU (x :: l):=rfl
theorem oz (x:Int)(l:List Int):bP (x :: l)=if x<32 then none else if x≠34 then (bP l).map fun p=>(x :: p.1,p.2+1)else match l with
 | y :: m=>if y=34 then (bP m).map fun p=>(34 :: p.1,p.2+2)else some ([],1)
 | []=>some ([],1):=by conv=>lhs;rw[bP.eq_def]
theorem nk (f p:Nat)(x:Int)(l:List Int):bU (f+1) p (x :: l)=if x=32 then bU f (p+1) l else match cK (x :: l)with
 | none=>none
 | some (t,n)=>(bU f (p+n) ((x :: l).drop n)).map (t.goto p :: ·):=rfl
theorem vB (p:Int→Bool)(l:List Int):(l.takeWhile p).length≤l.length:=by
 have h:=congrArg List.length (take_split p l);rw[ax]at h;omega
theorem A9 (p:Int→Bool)(x:Int)(l:List Int)(h:p x=true):0<((x :: l).takeWhile p).length:=by
 rw[List.takeWhile_cons,ah h];simp
theorem AO:∀(n:Nat)(l:List Int)(t:List Int)(k:Nat),l.length≤n→bP l=some (t,k)→0<k∧k≤l.length
 | _,[],_,_,_,h=>by simp[bP]at h
 | 0,_ :: _,_,_,hn,_=>by simp at hn
 | n + 1, x :: l,t,k,hn,h=>by
   rw[oz]at h;by_cases h1:x<32
   · rw[ah h1]at h;cases h
   · rw [af h1]at h
     by_cases h2:x≠34
     · rw [ah h2]at h
       cases hq:bP l with
       | none=>rw[hq]at h;cases h
       | some q =>
         rw[hq]at h;simp only[gq,aI,aJ]at h;have:=AO n l q.1 q.2 (by simp at hn;omega) hq;simp only[aN];omega
     · rw [af h2]at h
       cases l with
       | nil=>simp at h;simp only[aN,fO];omega
       | cons y m =>
         by_cases hy:y=34
         · simp only [hy,if_true]at h
           cases hq:bP m with
           | none=>rw[hq]at h;cases h
           | some q =>
             rw[hq]at h;simp only[gq,aI,aJ]at h;have:=AO n m q.1 q.2 (by simp at hn;omega) hq;simp only[aN];omega
         · simp only[hy,if_false,aI,aJ]at h
           simp only[aN];omega
theorem qa (x:Int)(l:List Int):jv (x :: l)=if (x=60∧(l.head? = some 62∨l.head? = some 61))∨(x=62∧l.head? = some 61)then 2
 else if x=43∨x=45∨x=42∨x=47∨x=38∨x=61∨x=60∨x=62∨x=40∨x=41∨x=44∨x=58 then 1 else 0:=rfl
theorem YB:∀l:List Int,jv l≤l.length
 | []=>aj _
 | x :: l=>by
   rw[qa];by_cases h:(x=60∧(l.head? = some 62∨l.head? = some 61))∨(x=62∧l.head? = some 61)
   · rw[ah h]
     have h0:l≠[]:=by rintro rfl;simp at h
     have:=List.length_pos_iff.2 h0;simp only[aN];omega
   · rw[af h]
     split <;> simp
theorem D8 {x:Int}(h:isLet x=true∨x=36):isWord x=true:=by
 unfold isWord;rcases h with h|h
 · rw[h];rfl
 · subst h;decide
theorem nE (l:List Int)(t:ai)(n:Nat)(h:cK l=some (t,n)):0<n∧n≤l.length:=by
 cases l with
 | nil=>simp[cK]at h
 | cons x l =>
   rw[nD]at h;by_cases h1:isNum x=true
   · rw [ah h1]at h
     unfold kZ at h;split at h
     · cases h
     · simp only[aI,aJ]at h
       rw[← h.2];exact⟨A9 isNum x l h1,vB _ _⟩
   · rw [af h1]at h
     by_cases h2:x=34
     · rw [ah h2]at h
       unfold jr at h;cases hq:bP l with
       | none=>rw[hq]at h;cases h
       | some q =>
         rw[hq]at h;simp only[gq,aI,aJ]at h;have:=AO _ l q.1 q.2 (aj _) hq;simp only[aN];omega
     · rw [af h2]at h
       by_cases h3:x=35
       · rw [ah h3]at h
         unfold mY at h;split at h
         · rename_i h5
           simp only[aI,aJ]at h;have:=congrArg List.length h5;rw[iB]at this;simp only[aN,fO]at this ⊢;omega
         · cases h
       · rw [af h3]at h
         by_cases h4:isLet x=true∨x=36
         · rw [ah h4]at h
           unfold lq at h;split at h
           · simp only[aI,aJ]at h
             rw[← h.2];exact⟨A9 isWord x l (D8 h4),vB _ _⟩
           · split at h
             · simp only[aI,aJ]at h
               rw[← h.2];exact⟨A9 isWord x l (D8 h4),vB _ _⟩
             · cases h
         · rw [af h4]at h
           unfold lU at h;split at h
           · cases h
           · rename_i h5
             simp only[aI,aJ]at h;rw[← h.2];exact⟨by omega,YB _⟩
theorem Ap:∀(f g p:Nat)(l:List Int),l.length≤f→l.length≤g→bU f p l=bU g p l
 | 0,0,_,_,_,_=>rfl
 | _,_,_,[],_,_=>by unfold bU;rfl
 | 0,_,_,_ :: _,h,_=>by simp at h
 | _,0,_,_ :: _,_,h=>by simp at h
 | f + 1,g+1,p,x :: l,h,h2=>by
   simp only[aN]at h h2;rw[nk,nk];by_cases hx:x=32
   · rw[ah hx,ah hx];exact Ap f g (p+1) l (by omega) (by omega)
   · rw [af hx,af hx]
     cases ht:cK (x :: l)with
     | none=>rfl
     | some q =>
       obtain⟨t,n⟩:=q;have hn:=nE _ _ _ ht;simp only;rw[Ap f g (p+n) ((x :: l).drop n) (by rw[jX];simp only[aN];omega) (by rw[jX];simp only[aN];omega)]
def Alike(b b':List Int):Prop:=b'.head? = b.head? ∨ b'.head? = some 32
theorem Sk {p:Int→Bool}(hp:p 32=false){b:List Int}(h:Alike b b')(hb:∀x,b.head? = some x→p x=false):∀x,b'.head? = some x→p x=false:=by
 intro x hx;rcases h with h|h
 · exact hb x (by rw[← h];exact hx)
 · rw[h]at hx;injection hx with hx;rw[← hx];exact hp
theorem Mk {p:Int→Bool}(hp:p 32=false){a b:List Int}(h:Alike b b')(hs:((a++b).takeWhile p).length=a.length):(a++b).takeWhile p=a∧(a++b').takeWhile p=a:=by
 have e:=take_split p (a++b);rw[hs,List.drop_left]at e;have e1:(a++b).takeWhile p=a:=List.append_cancel_right e;refine⟨e1, ?_⟩;have aV:∀x∈a,p x=true:=fun x hx=>rW p (a++b) x (by rw[e1];exact hx)
 have hh:=A8 p (a++b);rw[hs,List.drop_left]at hh;exact qb p a b' aV (Sk hp h hh)
theorem Ex {b:List Int}(h:Alike b b'):∀(n:Nat)(a t:List Int),a.length≤n→bP (a++b)=some (t,a.length)→bP (a++b')=some (t,a.length)
 | _,[],t,_,hq=>by
   exfalso;have:=AO _ _ _ _ (aj _) hq;simp at this
 | 0,_ :: _,_,hn,_=>by simp at hn
 | n + 1, x :: a,t,hn,hq=>by
   rw[bM,oz]at hq ⊢;by_cases h1:x<32
   · rw[ah h1]at hq;cases hq
   · rw [af h1]at hq ⊢
     by_cases h2:x≠34
     · rw [ah h2]at hq ⊢
       cases hr:bP (a++b)with
       | none=>rw[hr]at hq;cases hq
       | some q =>
         rw[hr]at hq;simp only[gq,aI,aJ,aN]at hq;have h3:=Ex h n a q.1 (by simp at hn;omega) (by rw[hr, ← show q.2=a.length from by omega]);rw[h3];simp only[gq,aN,aI,aJ,and_true];exact hq.1
     · rw [af h2]at hq ⊢
       cases a with
       | nil =>
         simp only[eY]at hq ⊢;cases b with
         | nil =>
           simp only[aI,aJ]at hq;cases b' with
           | nil=>simpa using hq
           | cons y m =>
             rcases h with h|h
             · simp at h
             · simp at h;subst h;simpa using hq
         | cons z m =>
           by_cases hz:z=34
           · exfalso
             simp only[hz,if_true]at hq;cases hr:bP m with
             | none=>rw[hr]at hq;cases hq
             | some q=>rw[hr]at hq;simp at hq
           · simp only [hz,if_false]at hq
             cases b' with
             | nil=>simpa using hq
             | cons y k =>
               have hy:¬ y=34:=by
                rcases h with h|h
                · simp at h;rw[h];exact hz
                · simp at h;omega
               simp only[hy,if_false];exact hq
       | cons y m =>
         simp only[bM]at hq ⊢;by_cases hy:y=34
         · simp only [hy,if_true]at hq ⊢
           cases hr:bP (m++b)with
           | none=>rw[hr]at hq;cases hq
           | some q =>
             rw[hr]at hq;simp only[gq,aI,aJ,aN]at hq;have h3:=Ex h n m q.1 (by simp at hn;omega) (by rw[hr, ← show q.2=m.length from by omega]);rw[h3];simp only[gq,aN,aI,aJ,and_true];exact hq.1
         · simp only[hy,if_false,aI,aJ,aN]at hq
           exfalso;omega
theorem YA {b:List Int}(h:Alike b b')(x:Int)(hs:jv (x :: b)=1):jv (x :: b')=1:=by
 rw[qa]at hs ⊢;by_cases h2:(x=60∧(b.head? = some 62∨b.head? = some 61))∨(x=62∧b.head? = some 61)
 · rw[ah h2]at hs;omega
 · rw [af h2]at hs
   have h3:¬ ((x=60∧(b'.head? = some 62∨b'.head? = some 61))∨(x=62∧b'.head? = some 61)):=by
    rcases h with h|h
    · rw[h];exact h2
    · rw[h];simp
   rw[af h3];exact hs
theorem take_len(a b:List Int):(a++b).take a.length=a:=List.take_left
theorem Ze {a b:List Int}{t:ai}(h:Alike b b')(hq:cK (a++b)=some (t,a.length)):cK (a++b')=some (t,a.length):=by
 cases a with
 | nil =>
   have:=(nE _ _ _ hq).1;simp at this
 | cons x a =>
   have hsp:∀(p:Int→Bool),p 32=false→((x :: a++b).takeWhile p).length=(x :: a).length→(x :: a++b').takeWhile p=(x :: a++b).takeWhile p:=by
    intro p hp hl;obtain⟨e1,e2⟩:=Mk hp h hl;rw[e1,e2]
   rw[bM,nD]at hq ⊢;by_cases h1:isNum x=true
   · rw [ah h1]at hq ⊢
     have hn:((x :: a++b).takeWhile isNum).length=(x :: a).length:=by
      unfold kZ at hq;split at hq
      · cases hq
      · simp only[aI,aJ]at hq;exact hq.2
     have e:=hsp isNum (by decide) hn;rw[← hq];unfold kZ;rw[bM,bM]at e;rw[e];rfl
   · rw [af h1]at hq ⊢
     by_cases h2:x=34
     · rw [ah h2]at hq ⊢
       unfold jr at hq ⊢;cases hr:bP (a++b)with
       | none=>rw[hr]at hq;cases hq
       | some q =>
         rw[hr]at hq;simp only[gq,aI,aJ,aN]at hq;have h3:=Ex h _ a q.1 (aj _) (by rw[hr, ← show q.2=a.length from by omega]);rw[h3];simp only[gq,aN,aI,aJ,and_true];exact hq.1
     · rw [af h2]at hq ⊢
       by_cases h3:x=35
       · rw [ah h3]at hq ⊢
         unfold mY at hq ⊢;by_cases h5:(x :: (a++b)).take 5=[35,82,69,70,33]
         · rw[ah h5]at hq
           simp only[aI,aJ]at hq;have e1:(x :: (a++b)).take 5=x :: a:=by rw[hq.2, ← bM];exact take_len _ _
           have e2:(x :: (a++b')).take 5=x :: a:=by rw[hq.2, ← bM];exact take_len _ _
           rw[e1]at h5;rw[e2,ah h5,hq.1];exact congrArg (fun k=>some (t,k)) hq.2
         · rw[af h5]at hq;cases hq
       · rw [af h3]at hq ⊢
         by_cases h4:isLet x=true∨x=36
         · rw [ah h4]at hq ⊢
           have hn:((x :: a++b).takeWhile isWord).length=(x :: a).length:=by
            unfold lq at hq;split at hq
            · simp only[aI,aJ]at hq;exact hq.2
            · split at hq
              · simp only[aI,aJ]at hq;exact hq.2
              · cases hq
           have e:=hsp isWord (by decide) hn;rw[← hq];unfold lq;rw[bM,bM]at e;rw[e]
         · rw [af h4]at hq ⊢
           unfold lU at hq ⊢;by_cases h5:jv (x :: (a++b))=0
           · rw[ah h5]at hq;cases hq
           · rw [af h5]at hq
             simp only[aI,aJ]at hq
             have e:jv (x :: (a++b'))=jv (x :: (a++b)):=by
              cases a with
              | nil=>rw[hq.2];exact YA h x hq.2
              | cons y a=>rw[qa,qa];rfl
             rw[e,af h5, ← hq.1,hq.2];have e1:(x :: (a++b)).take (x :: a).length=x :: a:=by rw[← bM];exact take_len _ _
             have e2:(x :: (a++b')).take (x :: a).length=x :: a:=by rw[← bM];exact take_len _ _
             rw[e1,e2]
structure bJ where
 sh:ByteArray
 c:Int
 r:Int
 ac:Bool
 ar:Bool
def bJ.zero:bJ:=⟨⟨#[]⟩,0,0,false,false⟩
def ai.df(t:ai):bJ:=⟨t.sh,t.c,t.r,t.ac,t.ar⟩
structure Nd where
 kind:Int
 num:Int
 text:ByteArray
 ref:bJ
 ag:bJ
 kids:List Int
def Nd.zero:Nd:=⟨0,0,⟨#[]⟩,bJ.zero,bJ.zero,[]⟩
abbrev fF:=Except Int (List Nd × Nat × List ai)
abbrev Args:=Except Int (List Nd × List Int × List ai)
def fG {α β γ δ : Type}(x:Option (Except Int (α × β × γ)))(k : α → β → γ → Option (Except Int δ)):Option (Except Int δ) :=
 match x with
 | none=>none
 | some (.error e)=>some (.error e)
 | some (.ok (a,b,c))=>k a b c
def ay (s:ByteArray)(ts:List ai):Bool:=match ts with
 | t :: _=>decide (t.kind=5)&&decide (t.text=s)
 | []=>false
def ni:Nat→List (ByteArray × Int)
 | 0=>[(⟨#[61]⟩,9),(⟨#[60,62]⟩,10),(⟨#[60]⟩,11),(⟨#[60,61]⟩,12),(⟨#[62]⟩,13),(⟨#[62,61]⟩,14)]
 | 1=>[(⟨#[38]⟩,15)]
 | 2=>[(⟨#[43]⟩,16),(⟨#[45]⟩,17)]
 | _=>[(⟨#[42]⟩,18),(⟨#[47]⟩,19)]
def dO (n:Nat)(ts:List ai):Int:=match (ni n).find? fun p=>ay p.1 ts with
 | some p=>p.2
 | none=>0
def gU(a b:bJ):Bool:=decide (b.sh=⟨#[]⟩)&&(decide (a.c≤b.c)&&decide (a.r≤b.r))
def tu (ts:List ai):Int:=match ts with
 | t :: _=>t.kind
 | []=>0
def jb (base:Nat)(t:ai)(ts:List ai):fF :=
 if ay ⟨#[58]⟩ ts=true then match ts.tail with
  | u :: us=>if u.kind=4∧gU t.df u.df=true then .ok ([{ Nd.zero with kind:=6,ref:=t.df,ag:=u.df }],base,us)else .error 5
  | [] => .error 5
 else .ok ([{ Nd.zero with kind:=5,ref:=t.df }],base,ts)
mutual
def dw:Nat→Nat→Nat→Nat→List ai→Option fF
 | 0,_,_,_,_=>none
 | f + 1,n,deep,base,ts =>
   if n≤3 then fG (dw f (n+1) deep base ts) fun ns a r=>fC f n deep base ns a r
   else if ay ⟨#[45]⟩ ts=true then
    if 12≤deep then some (.error 6)
    else fG (dw f 4 (deep+1) base ts.tail) fun ns a r=>some (.ok (ns++[{ Nd.zero with kind:=8,kids:=[(a:Int)] }],base+ns.length,r))
   else gJ f deep base ts
def fC:Nat→Nat→Nat→Nat→List Nd→Nat→List ai→Option fF
 | 0,_,_,_,_,_,_=>none
 | f+1,n,deep,base,ns,a,ts =>
   if dO n ts=0 then some (.ok (ns,a,ts))
   else fG (dw f (n+1) deep (base+ns.length) ts.tail) fun ms b r=>fC f n deep base (ns++(ms++[{ Nd.zero with kind:=dO n ts,kids:=[(a:Int),(b:Int)] }])) (base+(ns.length+ms.length)) r
def gJ:Nat→Nat→Nat→List ai→Option fF
 | 0,_,_,_=>none
 | _,_,_,[]=>some (.error 5)
 | f + 1,deep,base,t :: ts =>
   if ay ⟨#[40]⟩ (t :: ts)=true then
    if 12≤deep then some (.error 6)
    else fG (dw f 0 (deep+1) base ts) fun ns a r=>if ay ⟨#[41]⟩ r=true then some (.ok (ns,a,r.tail))else some (.error 5)
   else if t.kind=1 then some (.ok ([{ Nd.zero with kind:=1,num:=t.num }],base,ts))
   else if t.kind=2 then some (.ok ([{ Nd.zero with kind:=2,text:=t.text }],base,ts))
   else if t.kind=6 then some (.ok ([{ Nd.zero with kind:=4 }],base,ts))
   else if t.kind=4 then some (jb base t ts)
   else if t.kind=3 then
    if t.text=⟨#[84,82,85,69]⟩then some (.ok ([{ Nd.zero with kind:=3,num:=1 }],base,ts))
    else if t.text=⟨#[70,65,76,83,69]⟩then some (.ok ([{ Nd.zero with kind:=3 }],base,ts))
    else if ay ⟨#[40]⟩ ts=true then
     if 12≤deep then some (.error 6)
     else fG (if ay ⟨#[41]⟩ ts.tail=true then some (.ok ([],[],ts.tail))else dY f (deep+1) base [] [] ts.tail) fun ns ks r =>
      if ay ⟨#[41]⟩ r=true then some (.ok (ns++[{ Nd.zero with kind:=7,text:=t.text,kids:=ks }],base+ns.length,r.tail))else some (.error 5)
    else some (.error 5)
   else some (.error 5)
def dY:Nat→Nat→Nat→List Nd→List Int→List ai→Option Args
 | 0,_,_,_,_,_=>none
 | f + 1,deep,base,ns,ks,ts =>
   fG (dw f 0 deep (base+ns.length) ts) fun ms a r =>
    if ay ⟨#[44]⟩ r=true then dY f deep base (ns++ms) (ks++[(a:Int)]) r.tail else some (.ok (ns++ms,ks++[(a:Int)],r))
end
def lh (f:Nat)(ts:List ai):Option (Except Int (List Nd)) :=
 fG (dw f 0 0 0 ts) fun ns _ r=>if tu r=0 then some (.ok ns)else some (.error 5)
theorem bY {α β γ δ : Type}{x:Option (Except Int (α × β × γ))}{k : α → β → γ → Option (Except Int δ)}{y:Except Int δ}(h:fG x k=some y) :
 (∃e,x=some (.error e)∧y = .error e)∨∃a b c,x=some (.ok (a,b,c))∧k a b c=some y:=by
 unfold fG at h;split at h
 · cases h
 · injection h with h;exact .inl ⟨_,rfl,h.symm⟩
 · exact .inr ⟨_,_,_,rfl,h⟩
theorem vT {α β γ δ : Type}{x x':Option (Except Int (α × β × γ))}{k k' : α → β → γ → Option (Except Int δ)}(hx:∀y,x=some y→x'=some y)(hk:∀a b c y,k a b c=some y→k' a b c=some y) :
 ∀y,fG x k=some y→fG x' k'=some y:=by
 intro y h;rcases bY h with ⟨e,h1,rfl⟩|⟨a,b,c,h1,h2⟩
 · rw[hx _ h1];rfl
 · rw[hx _ h1];exact hk _ _ _ _ h2
end Go.Proofs.YtahjnhmidjeniaaGreatDoor
