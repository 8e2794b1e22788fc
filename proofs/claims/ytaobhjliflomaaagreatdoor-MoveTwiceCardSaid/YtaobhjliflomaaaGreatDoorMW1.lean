import Derived.Test.YtaobhjliflomaaaGreatDoorRows
import Derived.WalkKit
import Derived.WalkSpells
import Derived.WalkLawsBesides
import Derived.WalkSmall
import Derived.Handy
import Derived.Deep.QuietTactic
import Derived.BigQuiet
import Derived.RegionTactic
import Derived.BigRegion
import Derived.StillTailTactics
import Derived.Lib.Hide
import Derived.Laws.Rows
import Derived.Laws.CopyOwn
import Derived.Laws.CopyRow
import Derived.Deep.MidRow
import Derived.Deep.WholeRow
import Derived.Deep.Cut
import Derived.Deep.RegionLaw
import Derived.Laws.BytesArg
import Derived.MapKept
import Derived.Test.YtaobhjliflomaaaGreatDoorProg
import Derived.Maps.OwnSet
import Derived.Laws.MakeOwn
import Derived.Maps.AppendAt
import Derived.Deep.AppendSrc
import Derived.Deep.RegionHeld3
import Derived.ProofKit
import Derived.OpenShut
import Derived.Deep.DeepHandedRow
import Derived.Lib.LaidTab
import Derived.Deep.OwnRows
theorem Go.RowKit.Hid.o{p:Prop}(h:Go.RowKit.Hid p):p:=h
theorem Go.Shut.o{p:Prop}(h:Go.Shut p):p:=h
namespace Go.Proofs.YtaobhjliflomaaaGreatDoor
theorem ag.{u}:∀ {c : Prop}{_ : Decidable c}, ¬c → ∀ {α : Sort u}{t e : α}, (if c then t else e) = e:=@if_neg
theorem ah.{u}:∀ {c : Prop}{_ : Decidable c}, c → ∀ {α : Sort u}{t e : α}, (if c then t else e) = t:=@if_pos
theorem aA.{gH}:∀ {α : Type gH}[BEq α] [LawfulBEq α] {a b : α}, (a == b) = Bool.false ↔ a ≠ b:=@beq_eq_false_iff_ne
theorem aK:∀ {p : Prop}[Decidable p], Decidable.decide p = Bool.true ↔ p:=@decide_eq_true_iff
theorem aS:∀ {p : Prop}[Decidable p], ¬p → Decidable.decide p = Bool.false:=@decide_eq_false
theorem aQ:∀ {p : Prop}[Decidable p], p → Decidable.decide p = Bool.true:=@decide_eq_true
theorem bA.{gH}:∀ {α : Type gH}[BEq α] [LawfulBEq α] {a b : α}, (a == b) = Bool.true ↔ a = b:=@beq_iff_eq
theorem jq:∀ {p : Prop}{_ : Decidable p}, Decidable.decide p = Bool.false ↔ ¬p:=@decide_eq_false_iff_not
theorem fA.{gH}:∀ {α : Type gH}{a b : α}, a ∈ [b] ↔ a = b:=@List.mem_singleton
theorem dK.{gH}:∀ {α : Type gH}{a : α}{s t : List α}, a ∈ s ++ t ↔ a ∈ s ∨ a ∈ t:=@List.mem_append
theorem eY.{gH}:∀ {α : Type gH}{b : α}{l : List α}{a : α}, a ∈ b :: l ↔ a = b ∨ a ∈ l:=@List.mem_cons
theorem uG.{gH, yw}:∀ {α : Type gH}{β : Type yw}{l : List α}{a : α}{f : α → β}, a ∈ l → f a ∈ List.map f l:=@List.mem_map_of_mem
theorem gL:∀(b : Bool), (Bool.true && b) = b:=@Bool.true_and
theorem lG.{gH}:∀ {α : Type gH}{i : Nat}{l : List α}, (List.drop i l).length = l.length - i:=@List.length_drop
theorem pU.{gH}:∀ {α : Type gH}{x : α}{l : List α}, [x] ++ l = x :: l:=@List.singleton_append
theorem jo.{gH, yw}:∀ {α : Type gH}{β : Type yw}(a : α)(f : α → β), Option.map f (Option.some a) = Option.some (f a):=@Option.map_some
theorem iU:∀ {x y : Bool}, (x && y) = Bool.true ↔ x = Bool.true ∧ y = Bool.true:=@Bool.and_eq_true_iff
theorem aj:∀(n : Nat), n ≤ n:=@Nat.le_refl
theorem av.{u}:∀ {α : Type u}{mM bs : List α}, (mM ++ bs).length = mM.length + bs.length:=@List.length_append
theorem ak:∀(B : Nat)(w : Go.World), Go.RowKit.Below B w w:=@Go.RowKit.Below.refl
theorem dL.{gH}:∀ {α : Type gH}{l : List α}{i : Nat}(h : i < l.length), l[i]? = Option.some l[i]:=@List.getElem?_eq_getElem
theorem dS.{gH}:∀ {α : Type gH}{i : Nat}{a : α}{l : List α}, l[i]? = Option.some a ↔ ∃(h : i < l.length), l[i] = a:=@List.getElem?_eq_some_iff
theorem aX.{u}:∀ {α : Type u}{a : α}{mM : List α}, (a :: mM).length = mM.length + 1:=@List.length_cons
theorem dn.{gH}:∀ {α : Type gH}{i : Nat}{b : α}{xs : Array α}, xs[i]? = Option.some b ↔ ∃(h : i < xs.size), xs[i] = b:=@Array.getElem?_eq_some_iff
theorem bf.{u}:∀ {α : Type u}(val Ff : α), (Option.some val = Option.some Ff) = (val = Ff):=@Option.some.injEq
theorem bN.{u}:∀ {α : Type u}(mM bs cs : List α), mM ++ bs ++ cs = mM ++ (bs ++ cs):=@List.append_assoc
theorem fT.{gH}:∀ {α : Type gH}{l : List α}{i : Nat}{a : α}, l[i]? = Option.some a → a ∈ l:=@List.mem_of_getElem?
theorem bE.{u, v}:∀ {α : Type u}{β : Type v}(fst : α)(snd : β)(Qz : α)(Vx : β), ((fst, snd) = (Qz, Vx)) = (fst = Qz ∧ snd = Vx):=@Prod.mk.injEq
theorem jL.{gH}:∀ {α : Type gH}{l : List α}{i : Nat}{a : α}, l.getD i a = l[i]?.getD a:=@List.getD_eq_getElem?_getD
theorem fE.{u}:∀ {α : Type u}{a : α}, [a].length = 1:=@List.length_singleton
theorem dH:∀(a b : Bool), ((a && b) = Bool.true) = (a = Bool.true ∧ b = Bool.true):=@Bool.and_eq_true
theorem fU:∀(n : Int), Go.IntKind.i64.wrap n = (n + 9223372036854775808) % 18446744073709551616 - 9223372036854775808:=@Go.IntKind.wrap_i64
theorem dx.{u}:∀ {α : Type u}{a : α}{mM bs : List α}, a :: mM ++ bs = a :: (mM ++ bs):=@List.cons_append
theorem gM:∀ {w w' : Go.World}{a : Go.Addr}, w'.heap[a.block]? = w.heap[a.block]? → w'.cell? a = w.cell? a:=@Go.World.cell?_of_block
theorem rT:∀ {a b : Int}, 0 ≤ a → a.tmod b = a % b:=@Int.tmod_eq_emod_of_nonneg
theorem eZ:∀ {n m k : Nat}, n < m → m ≤ k → n < k:=@Nat.lt_of_lt_of_le
theorem eB.{gH, yw}:∀ {α : Type gH}{β : Type yw}{mM : List α}(f : α → β), (List.map f mM).length = mM.length:=@List.length_map
theorem bO:∀ {n m k : Nat}, n ≤ m → m ≤ k → n ≤ k:=@Nat.le_trans
theorem dU.{u}:∀ {α : Type u}{val Ff : α}, Option.some val = Option.some Ff → val = Ff:=@Option.some.inj
theorem dV.{u}:∀ {α : Type u}, ([] : List α).length = 0:=@List.length_nil
theorem eP:∀(n : Nat), 0 ≤ n:=@Nat.zero_le
theorem fF.{u}:∀ {α : Type u}(mM : List α), mM ++ [] = mM:=@List.append_nil
theorem fw:∀(w : Go.World)(a : Go.Addr)(u : Go.Value)(k : Nat), k ≠ a.block → (w.setCell a u).heap[k]? = w.heap[k]?:=@Go.RowKit.Below.heap_setCell
theorem kV.{gH}:∀ {α : Type gH}{l : List α}, l.length = 0 → l = []:=@List.eq_nil_of_length_eq_zero
theorem kW:∀(w : Go.World)(o : Go.Obj), (w.alloc o).heap[w.heap.size]? = Option.some o ∧ ∀(r' : Nat), r' < w.heap.size → (w.alloc o).heap[r']? = w.heap[r']?:=@Go.MapKept.heap_alloc
theorem gX.{gH}:∀ {α : Type gH}{i : Nat}{l : List α}, (List.take i l).length = Min.min i l.length:=@List.length_take
theorem iy.{u}:∀ {α : Type u}(mM : List α), [] ++ mM = mM:=@List.nil_append
theorem gN.{gH, yw}:∀ {α : Type gH}{β : Type yw}{f : α → β}{l : List α}{i : Nat}, (List.map f l)[i]? = Option.map f l[i]?:=@List.getElem?_map
theorem gP.{gH, yw}:∀ {α : Type gH}{β : Type yw}{f : α → β}{l₁ l₂ : List α}, List.map f (l₁ ++ l₂) = List.map f l₁ ++ List.map f l₂:=@List.map_append
theorem pV.{u, v}:∀ {α : Type u}{β : Type v}{x : α}{xs : List α}{f : α → List β}, List.flatMap f (x :: xs) = f x ++ List.flatMap f xs:=@List.flatMap_cons
theorem pW.{gH}:∀ {α : Type gH}{i : Nat}{l : List α}, l.length ≤ i → List.take i l = l:=@List.take_of_length_le
theorem jE:∀(w : Go.World)(o : Go.Obj), (w.alloc o).heap.size = w.heap.size + 1:=@Go.World.size_alloc
theorem jM.{u, v}:∀ {α : Type u}{β : Type v}{f : α → β}{a : α}{l : List α}, List.map f (a :: l) = f a :: List.map f l:=@List.map_cons
theorem ae{p:Prop}(h:p):Go.RowKit.Hid p:=h
end Go.Proofs.YtaobhjliflomaaaGreatDoor
namespace Go.Proofs.YtaobhjliflomaaaGreatDoor
open Go.RowKit
variable {ac ar:Bool}{s:ByteArray}{Q:Exit→Act→World→Prop}{c r x:Int}{b b' ks sh:List Int}{base deep f g m n size:Nat}{P:Program}{α:Type}{e:TypeId}{v:Value}{a w w':World}
theorem run_storeVar_row (w:World)(g:Nat)(ty t:TypeId)(cur cells:Array Value)(hg:w.heap[g]? = some (.cells cur t))(hs:cur.size=cells.size)
 (hi:(P.info? ty).map (·.size)=some cells.size) (h1:∀v∈cells.toList,v.oneCell'=true) :
 (storeVar ty ⟨g,0,none⟩ (.agg cells)).run P w = .ok () (w.setRow g cells):=by
 have:=run_storeCells_at P g 0 t cells.toList 0 cur w hg (by simp;omega) h1;cases hq:P.info? ty with
 | none=>simp[hq]at hi
 | some i =>
   have hs':cells.size=i.size:=by simp[hq]at hi;omega
   simp[storeVar,sizeOf,typeInfo,hq,Value.cells,hs',this];congr 1;have:List.drop i.size cur.toList=[]:=by rw[List.drop_eq_nil_iff];simp;omega
   rw[this];simp
theorem wp_store_row {op:Oper}{a:Act}{K:Act→World→Prop}(ty:TypeId)(x y:Operand)(ho:op.op = .store ty x y)
 (g:Nat) (t:TypeId) (cur cells:Array Value) (hx:a.eval x = .pointer (some ⟨g,0,none⟩)) (hy:a.eval y = .agg cells) (hg:w.heap[g]? = some (.cells cur t)) (hs:cur.size=cells.size)
 (hi:(P.info? ty).map (·.size)=some cells.size) (h1:∀v∈cells.toList,v.oneCell'=true)
 (h:K (a.put op.dst undef) (w.setRow g cells)):op.wp P a w K Q:=by
 unfold Oper.wp execOp;simp only[ho,hx,hy,Instr.storeAt,Instr.sureAddr,Sem.run_bind,Sem.run_pure,Result.andThen_ok,run_storeVar_row w g ty t cur cells hg hs hi h1];exact h
theorem wpList_store_row {ops:Array Oper}{rest:List Oper}{op:Oper}{a:Act}(hgd:op.guard=none)(ty:TypeId)(x y:Operand)(ho:op.op = .store ty x y)
 (g:Nat) (t:TypeId) (cur cells:Array Value) (hx:a.eval x = .pointer (some ⟨g,0,none⟩)) (hy:a.eval y = .agg cells) (hg:w.heap[g]? = some (.cells cur t)) (hs:cur.size=cells.size)
 (hi:(P.info? ty).map (·.size)=some cells.size) (h1:∀v∈cells.toList,v.oneCell'=true)
 (h:wpList P ops Q rest (a.put op.dst undef) (w.setRow g cells)):wpList P ops Q (op :: rest) a w :=
 wpList_plain hgd fun _ hK=>wp_store_row ty x y ho g t cur cells hx hy hg hs hi h1 (hK _ _ h)
def U(l:List Int):List Value:=l.map (Value.int .u32)
structure Elem (P:Program)(t e:TypeId)(size bytes:Nat):Prop where
 und:P.underlying t=some (.slice e)
 inf:∃z:Value,(P.info? e).map (fun i=>(i.zero,i.size,i.bytes))=some (some z,size,bytes)∧z.cells.size=size
 pos:0<size
structure Enc (α : Type)(size:Nat) where
 f : α → List Value
 len:∀a,(f a).length=size
 one:∀a,∀u∈f a,u.oneCell'=true
def Enc.all{α : Type}{size:Nat}(E:Enc α size)(xs:List α):List Value:=xs.flatMap E.f
theorem Enc.mP (E:Enc α size)(xs:List α):(E.all xs).length=xs.length*size:=by
 unfold Enc.all
 induction xs with
 | nil=>simp
 | cons a l ih=>rw[pV,av,ih,E.len,aX,Nat.add_mul];omega
theorem Enc.all_append (E:Enc α size)(xs ys:List α):E.all (xs++ys)=E.all xs++E.all ys:=by
 unfold Enc.all;exact List.flatMap_append ..
theorem Enc.ym (E:Enc α size)(xs:List α):∀u∈E.all xs,u.oneCell'=true:=by
 intro u hu;unfold Enc.all at hu;rw[List.mem_flatMap]at hu;obtain⟨a,_,h⟩:=hu;exact E.one a u h
theorem Enc.at (E:Enc α size)(xs:List α)(i j:Nat)(a : α)(ha:xs[i]? = some a)(hj:j<size):(E.all xs)[i*size+j]? = (E.f a)[j]? := by
 unfold Enc.all
 induction xs generalizing i with
 | nil=>simp at ha
 | cons b l ih =>
   rw[pV];cases i with
   | zero =>
     simp at ha;subst ha;rw[Nat.zero_mul,Nat.zero_add,List.getElem?_append_left (by rw[E.len];exact hj)]
   | succ i =>
     have:(i+1)*size=i*size+size:=Nat.succ_mul i size;rw[List.getElem?_append_right (by rw[E.len];omega),E.len];have e:(i+1)*size+j - size=i*size+j:=by omega
     rw[e];exact ih i (by simpa using ha)
def Own{α : Type}{size:Nat}(E:Enc α size)(e:TypeId)(w:World)(base:Nat)(v:Value)(xs:List α):Prop:=w.ownsRow base e size v xs.length (E.all xs)
theorem Own.nil(E:Enc α size)(e:TypeId)(w:World)(base:Nat):Own E e w base (.slice none 0 0) ([]:List α):=World.ownsRow_nil w base e size
theorem Own.alloc{E:Enc α size}{xs:List α}(h:Own E e w base v xs)(o:Obj):Own E e (w.alloc o) base v xs:=World.ownsRow.alloc h o
theorem Own.drew{E:Enc α size}{xs:List α}(h:Own E e w base v xs):Own E e w.drew base v xs:=h
theorem Own.drewN{E:Enc α size}{xs:List α}(h:Own E e w base v xs)(n:Nat):Own E e (w.drewN n) base v xs:=h
theorem Own.mono {E:Enc α size}{PK:Nat}{xs:List α}(h:Own E e w base v xs)(hb:PK≤base):Own E e w PK v xs:=by
 refine⟨h.1, ?_⟩;rcases h.2 with h|⟨g,cap,cur,h1,h2,h3⟩
 · exact .inl h
 · exact .inr ⟨g,cap,cur,h1,by omega,h3⟩
theorem Own.below {E:Enc α size}{B:Nat}{xs:List α}(h:Own E e w base v xs)(hb:Below B w w')(hB:w.heap.size≤B):Own E e w' base v xs:=by
 refine⟨h.1, ?_⟩;rcases h.2 with h|⟨g,cap,cur,h1,h2,h3,h4⟩
 · exact .inl h
 · refine .inr ⟨g,cap,cur,h1,h2, ?_,h4⟩
   rw[hb.block g (by have:=(dn.1 h3).1;omega)];exact h3
theorem Own.shape {E:Enc α size}{xs:List α}(h:Own E e w base v xs) :
 (v = .slice none 0 0∧xs=[])∨∃g cap,v = .slice (some ⟨g,0,none⟩) xs.length cap∧base≤g∧g<w.heap.size∧xs.length≤cap∧cap≤maxLen:=by
 rcases h.2 with ⟨h1,h2⟩|⟨g,cap,cur,h1,h2,h3,h4,h5,_⟩
 · exact .inl ⟨h1,List.length_eq_zero_iff.1 h2⟩
 · exact .inr ⟨g,cap,h1,h2,(dn.1 h3).1,h4,h5⟩
theorem Own.cells {E:Enc α size}{cap:Nat}{xs:List α}(h:Own E e w base (.slice (some ⟨g,0,none⟩) n cap) xs)(j:Nat)(u:Value)(hj:(E.all xs)[j]? = some u) :
 w.cell? ⟨g,j,none⟩=some u:=by
 have:=World.ownsRow.cells h (g:=g) rfl j u hj;rw[Addr.add_mid,Nat.zero_add]at this;exact this
theorem ow {t e bytes:Nat}{ops:Array Oper}{rest:List Oper}{o:Oper}{a:Act}(dh:Elem P t e size bytes)(E:Enc α size)
 (hgd:o.guard=none) (s x:Operand) (ho:o.op = .call { callee := .builtin .append,args:=#[s,x],argTypes:=#[t,t] }) (base:Nat) (v:Value) (xs:List α)
 (hs:a.eval s=v) (iG:Own E e w base v xs) (ad:Addr) (m c:Nat) (ys:List α) (hx:a.eval x = .slice (some ad) m c) (hl:ys.length=m)
 (hc:∀(j:Nat)(u:Value),(E.all ys)[j]? = some u→w.cell? (ad.add j)=some u) (hb:(xs.length+m)*bytes≤140737488355328) (hb2:xs.length+m≤maxLen) (jT:base≤w.heap.size)
 (h:∀(v':Value)(w':World),Own E e w' base v' (xs++ys)→Below base w w'→wpList P ops Q rest (a.put o.dst v') w'):wpList P ops Q (o :: rest) a w:=by
 obtain⟨z,hi,hz⟩:=dh.inf;obtain⟨i,hi1,hi2,hi3,hi4⟩:=info_parts hi;refine wpList_append_own w hgd s x t ho base e i z size bytes dh.und hi1 hi2 hi3 hi4 hz dh.pos v xs.length (E.all xs) hs iG ad m c (E.all ys) hx (by rw[E.mP,hl]) hc (E.ym ys) hb2 hb jT ?_;intro v' w' h1 h2 _;refine h v' w' ?_ ?_
 · unfold Own;rw[E.all_append,av,hl];exact h1
 · refine Below.grown (ak _ _) h2 jT ?_
   intro k hk;exact(World.ownsRow.lt iG k hk).1
theorem ic (C:Array Value)(t:TypeId)(l:List Value)(hC:C.toList=l)(j:Nat)(u:Value)(hj:l[j]? = some u):(w.alloc (.cells C t)).cell? ((⟨w.heap.size,0,none⟩:Addr).add j)=some u:=by
 rw[Addr.add_mid,Nat.zero_add,World.cell?_alloc_at _ _ _ _ rfl];subst hC
 simpa using hj
def aI(k:IntKind):Enc Int 1:={ f:=fun n=>[.int k n],len:=fun _=>rfl,one:=fun _ u hu=>by simp at hu;subst hu;rfl }
theorem wD (k:IntKind)(l:List Int):(aI k).all l=l.map (Value.int k):=by
 unfold Enc.all aI
 induction l with
 | nil=>rfl
 | cons a l ih=>rw[pV,jM,ih];rfl
theorem aaj (k:IntKind)(xs:List Int)(i:Nat)(h:i<xs.length):(xs.map (Value.int k))[i]? = some (.int k (xs.getD i 0)):=by
 simp[List.getElem?_eq_getElem h,List.getD_eq_getElem?_getD]
theorem Own.zi {k:IntKind}{cap:Nat}{xs:List Int}(h:Own (aI k) e w base (.slice (some ⟨g,0,none⟩) n cap) xs)(i:Nat)(hi:i<xs.length) :
 w.cell? ⟨g,i,none⟩=some (.int k (xs.getD i 0)):=by
 apply Own.cells h;rw[wD];exact aaj k xs i hi
theorem Own.made (E:Enc α size)(e:TypeId)(w:World)(base g cap:Nat)(cur:Array Value)(hg:g=w.heap.size)(hb:base≤w.heap.size)(hm:cap≤maxLen)(hs:cur.size=cap*size) :
 Own E e (w.alloc (.cells cur e)) base (.slice (some ⟨g,0,none⟩) 0 cap) ([]:List α):=by subst hg;exact World.ownsRow_made w cur cap hb hm hs
def lenOf:Value→Nat
 | .slice _ n _=>n
 | _=>0
theorem Own.some {E:Enc α size}{xs:List α}(h:Own E e w base v xs)(hne:0<xs.length) :
 ∃g cap,v = .slice (some ⟨g,0,none⟩) xs.length cap∧base≤g∧g<w.heap.size∧xs.length≤cap∧cap≤maxLen:=by
 rcases h.shape with ⟨_,rfl⟩|h
 · exact absurd hne (by simp)
 · exact h
theorem Cf {row:Option Nat}(h:w.grownBy w' row){a:Addr}(hlt:a.block<w.heap.size)(hne:some a.block≠row):w'.cell? a=w.cell? a:=by
 simp only[World.cell?,h.block a.block hlt hne]
theorem grownBy.fP(w:World)(r:Option Nat):w.grownBy w r:=⟨rfl,rfl,rfl,aj _,fun _ _ _=>rfl⟩
theorem grownBy.trans' {b c:World}{r:Option Nat}(h:a.grownBy b r)(k:b.grownBy c r):a.grownBy c r :=
 ⟨k.os.trans h.os,k.tape.trans h.tape,k.output.trans h.output,bO h.size k.size,fun j hj hr=>(k.block j (eZ hj h.size) hr).trans (h.block j hj hr)⟩
theorem grownBy.gU {b:Nat}(h:a.grownBy w (some b))(o:Nat)(v:Value):a.grownBy (w.setCell ⟨b,o,none⟩ v) (some b) :=
 ⟨h.os,h.tape,h.output,by simpa using h.size,fun j hj hr=>by
  rw[fw _ _ _ _ (by intro e;exact hr (by rw[e]))];exact h.block j hj hr⟩
theorem grownBy.fJ{r:Option Nat}(h:a.grownBy w r)(n:Nat):a.grownBy (w.drewN n) r:=⟨h.os,h.tape,h.output,h.size,h.block⟩
theorem grownBy.below' {r:Option Nat}(h:a.grownBy w r)(k:Below w.heap.size w w'):a.grownBy w' r :=
 ⟨k.os.trans h.os,k.tape.trans h.tape,k.output.trans h.output,bO h.size k.size,fun j hj hr=>(k.block j (eZ hj h.size)).trans (h.block j hj hr)⟩
theorem grownBy.Iz {b:Nat}(h:a.grownBy w (some b))(cs:Array Value):a.grownBy (w.setRow b cs) (some b) :=
 ⟨h.os,h.tape,h.output,by simpa using h.size,fun j hj hr=>by
  rw[Go.setRow_other w b j cs (by intro e;exact hr (by rw[e]))];exact h.block j hj hr⟩
theorem M5{k:IntKind}{a b:Int}(h:a=b):Ending.returned (.int k a) = .returned (.int k b):=by rw[h]
def sb(s:ByteArray):List Int:=s.data.toList.map (fun b=>(b.toNat:Int))
theorem bz(s:ByteArray):(sb s).length=s.size:=by unfold sb;simp
theorem qC (s:ByteArray)(k:Nat)(h:k<s.size):(sb s)[k]? = some ((s[k].toNat:Nat):Int):=by
 unfold sb;rw[gN,dL (by simpa using h)];rfl
theorem sO (s:ByteArray):∀a∈sb s,0≤a∧a≤255:=by
 intro a ha;unfold sb at ha;rw[List.mem_map]at ha;obtain⟨b,_,rfl⟩:=ha;have:=b.toNat_lt;omega
theorem uz (s:ByteArray)(k:Nat)(h:k<s.size):(sb s).getD k 0=((s[k].toNat:Nat):Int):=by
 rw[jL,qC s k h];rfl
def Bytes(l:List Int):Prop:=∀a∈l,0≤a∧a≤255
theorem Bytes.append {a:List Int}(h:Bytes a)(k:Bytes b):Bytes (a++b):=by
 intro x hx;rw[dK]at hx;rcases hx with hx|hx
 · exact h x hx
 · exact k x hx
theorem Bytes.nil:Bytes []:=by intro a ha;simp at ha
theorem jD (l:List Int)(h:Bytes l):sb (strOfNums l)=l:=by
 unfold sb;rw[strOfNums_data,List.map_map]
 conv=>rhs;rw[← List.map_id l]
 apply List.map_congr_left;intro a ha;have:=h a ha;simp only[Function.comp,id];rw[UInt8.toNat_ofNat_of_lt' (by show a.toNat<256;omega)];omega
theorem mX (s:ByteArray):strOfNums (sb s)=s:=by
 have:(strOfNums (sb s)).data=s.data:=by
  apply Array.toList_inj.1;rw[strOfNums_data];unfold sb;rw[List.map_map]
  conv=>rhs;rw[← List.map_id s.data.toList]
  apply List.map_congr_left;intro a _;simp only[Function.comp,id,Int.toNat_natCast];exact UInt8.ofNat_toNat
 cases s with
 | mk d => 
   cases hq:strOfNums (sb ⟨d⟩)with
   | mk e=>rw[hq]at this;simp only at this;rw[this]
def aP(c:Int):Bool:=decide (65≤c∧c≤90)
def isLet(c:Int):Bool:=decide (65≤c∧c≤90∨97≤c∧c≤122)
def isNum(c:Int):Bool:=decide (48≤c∧c≤57)
theorem gq{a b:Bool}(h:a=b):Ending.returned (.bool a) = .returned (.bool b):=by rw[h]
theorem afS{a b:Int}{p q:Bool}(h:a=b)(h2:p=q):Ending.returned (.tuple #[.int .i64 a,.bool p]) = .returned (.tuple #[.int .i64 b,.bool q]):=by rw[h,h2]
theorem LF(h:65≤c)(h2:c≤90):aP c=true:=by unfold aP;rw[aK];omega
theorem R7(h:c<65∨90<c):aP c=false:=by unfold aP;rw[jq];omega
def nY(j:Nat)(c:Int):Bool:=isLet c||(decide (0<j)&&isNum c)
def iH(l:List Int):Bool:=decide (∀j,j<l.length→nY j (l.getD j 0)=true)&&decide (1≤l.length∧l.length≤12)
def bB(n:Int):List Int:=if n<0∨701<n then []else if n<26 then [65+n]else [64+n / 26,65+n % 26]
def jy(l:List Int):Bool:=decide (1≤l.length∧l.length≤2)&&(aP (l.getD 0 0)&&aP (l.getD (l.length - 1) 0))
def lY(l:List Int):Int:=if jy l=true then (if l.length=1 then l.getD 0 0 - 65 else 26*(l.getD 0 0 - 64)+(l.getD 1 0 - 65))else 0
theorem Hf (s:ByteArray)(k:Nat)(hk:k<s.size)(h:nY k ((sb s).getD k 0)=false):iH (sb s)=false:=by
 unfold iH;rw[aS (by intro hc;have:=hc k (by rw[bz];exact hk);rw[h]at this;cases this),Bool.false_and]
theorem TF (s:ByteArray)(h:∀j,j<s.size→nY j ((sb s).getD j 0)=true):iH (sb s)=decide (1≤s.size∧s.size≤12):=by
 unfold iH;rw[aQ (by rw[bz];exact h),gL,bz]
theorem mW (a b:List Int):strOfNums a++strOfNums b=strOfNums (a++b):=by
 have h:(strOfNums a++strOfNums b).data=(strOfNums (a++b)).data:=by
  apply Array.toList_inj.1;rw[ByteArray.data_append,Array.toList_append,strOfNums_data,strOfNums_data,strOfNums_data,gP]
 cases hx:strOfNums a++strOfNums b with
 | mk d =>
   cases hy:strOfNums (a++b)with
   | mk e=>rw[hx,hy]at h;simp only at h;rw[h]
theorem agn (a b:ByteArray):sb (a++b)=sb a++sb b:=by
 unfold sb;rw[ByteArray.data_append,Array.toList_append,gP]
theorem mU{a b:ByteArray}(h:a=b):Ending.returned (.string a) = .returned (.string b):=by rw[h]
theorem aiB{a b:ByteArray}(h:a=b):Value.string a = .string b:=by rw[h]
def aV(u:Nat):List Int:=if u<10 then [48+(u:Int)]else aV (u / 10)++[48+((u % 10:Nat):Int)]
termination_by u
decreasing_by omega
theorem mr(u:Nat)(h:u<10):aV u=[48+(u:Int)]:=by rw[aV,ah h]
theorem qi(u:Nat)(h:¬ u<10):aV u=aV (u / 10)++[48+((u % 10:Nat):Int)]:=by rw[aV,ag h]
def cK(sh:List Int)(c r:Int):Bool:=(decide (sh=[])||iH sh)&&decide (0≤c∧c≤701∧0≤r∧r≤998)
def aZ (sh:List Int)(c r:Int)(ac ar:Bool):List Int :=
 if cK sh c r=true then (((if sh=[]then []else sh++[33])++(if ac=true then [36]else []))++bB c++(if ar=true then [36]else []))++aV (r+1).toNat else []
theorem rz(a:ByteArray):a.toList=a.data.toList:=ByteArray.toList_eq a
theorem rM (a b:ByteArray)(h:¬ a=b):¬ a.toList=b.toList:=by
 rw[rz,rz,Array.toList_inj];intro hd;apply h;cases a;cases b;simp only at hd;rw[hd]
theorem sQ (a:ByteArray)(h:¬ a.size=0):¬ a.toList=[]:=by
 rw[rz];intro hd;apply h;show a.data.size=0;rw[← Array.length_toList,hd];rfl
theorem vM (s:ByteArray)(h:s.size=0):s=⟨#[]⟩:=by
 cases s with
 | mk d => have:d=#[]:=Array.eq_empty_of_size_eq_zero h
           rw[this]
theorem SC(n:Int):(bB n).length≤2:=by unfold bB;split <;> (try split) <;> simp
theorem LM (u:Nat):(aV u).length≤u+1:=by
 induction u using Nat.strongRecOn with
 | _ u ih =>
   by_cases h:u<10
   · rw[mr u h];simp
   · rw[qi u h,av]
     have:=ih (u / 10) (by omega);simp only[aX,dV];omega
theorem L8 (h:cK sh c r=true):0≤c∧c≤701∧0≤r∧r≤998:=by
 unfold cK at h;rw[dH,aK]at h;exact h.2
theorem jR{a b:ByteArray}{x y:List Int}(h:a=strOfNums x)(k:b=strOfNums y):a++b=strOfNums (x++y):=by rw[h,k,mW]
theorem IJ:(⟨#[]⟩:ByteArray)=strOfNums []:=rfl
theorem zJ:(⟨#[36]⟩:ByteArray)=strOfNums [36]:=rfl
theorem II:(⟨#[33]⟩:ByteArray)=strOfNums [33]:=rfl
theorem xI {w0 w1 w2 w3:World}(h0:Below w.heap.size w w0)(h1:Below w0.heap.size w0 w1)(h2:Below w1.heap.size w1 w2)(h3:Below w2.heap.size w2 w3):Below w.heap.size w w3:=by
 have b1:=h0.trans (h1.mono h0.size);have b2:=b1.trans (h2.mono b1.size);exact b2.trans (h3.mono b2.size)
theorem EX (p:Int→Bool):∀(a a' b b':List Int),(∀x∈a,p x=true)→(∀x∈a',p x=true)→(∀x,b.head? = some x→p x=false)→(∀x,b'.head? = some x→p x=false)→a++b=a'++b'→a=a'∧b=b'
 | [],[],_,_,_,_,_,_,h=>⟨rfl,h⟩
 | [],x :: a',b,b',_,h2,h3,_,h=>by
   rw[iy]at h;have:=h3 x (by rw[h];rfl);rw[h2 x (by simp)]at this;cases this
 | x :: a,[],b,b',h1,_,_,h4,h=>by
   rw[iy]at h;have:=h4 x (by rw[← h];rfl);rw[h1 x (by simp)]at this;cases this
 | x :: a,y :: a',b,b',h1,h2,h3,h4,h=>by
   rw[dx,dx]at h;injection h with e h;obtain⟨r1,r2⟩:=EX p a a' b b' (fun z hz=>h1 z (by simp[hz])) (fun z hz=>h2 z (by simp[hz])) h3 h4 h;exact⟨by rw[e,r1],r2⟩
theorem vE (c:Int):∀x∈bB c,aP x=true:=by
 intro x hx;unfold bB at hx;split at hx
 · simp at hx
 · split at hx
   · simp at hx;subst hx;exact LF (by omega) (by omega)
   · simp at hx
     rcases hx with rfl|rfl
     · exact LF (by omega) (by omega)
     · exact LF (by omega) (by omega)
theorem MO (c:Int)(h0:0≤c)(h1:c≤701):jy (bB c)=true∧lY (bB c)=c:=by
 have Az:=vE c;by_cases h:c<26
 · have e:bB c=[65+c]:=by unfold bB;rw[ag (by omega),ah h]
   have hc:jy (bB c)=true:=by rw[e]at Az ⊢;unfold jy;have:=Az (65+c) (by simp);simp[this]
   refine⟨hc, ?_⟩;unfold lY;rw[ah hc,e];simp;omega
 · have e:bB c=[64+c / 26,65+c % 26]:=by unfold bB;rw[ag (by omega),ag h]
   have hc:jy (bB c)=true:=by rw[e]at Az ⊢;unfold jy;have g1:=Az (64+c / 26) (by simp);have g2:=Az (65+c % 26) (by simp);simp[g1,g2]
   refine⟨hc, ?_⟩;unfold lY;rw[ah hc,e];simp;omega
theorem sG(h:aP x=true):65≤x∧x≤90:=by unfold aP at h;rw[aK]at h;exact h
theorem jA(h:isNum x=true):48≤x∧x≤57:=by unfold isNum at h;rw[aK]at h;exact h
theorem Zi (l:List Int)(h:jy l=true):bB (lY l)=l∧0≤lY l∧lY l≤701:=by
 have hr:lY l=(if l.length=1 then l.getD 0 0 - 65 else 26*(l.getD 0 0 - 64)+(l.getD 1 0 - 65)):=by unfold lY;rw[ah h]
 unfold jy at h;rw[dH,dH,aK]at h;obtain⟨⟨h1,h2⟩,h3,h4⟩:=h
 match l,h1,h2,h3,h4,hr with
 | [a],_,_,h3,_,hr =>
   have:=sG h3;simp at this hr;rw[hr];refine⟨?_,by omega,by omega⟩;unfold bB;rw[ag (by omega),ah (by omega)];congr 1;omega
 | [a,b],_,_,h3,h4,hr =>
   have g1:=sG h3;have g2:=sG h4;simp at g1 g2 hr;rw[hr];refine⟨?_,by omega,by omega⟩;unfold bB;rw[ag (by omega),ag (by omega)];congr 1
   · omega
   · congr 1;omega
theorem rq (u:Nat):∀x∈aV u,isNum x=true:=by
 induction u using Nat.strongRecOn with
 | _ u ih =>
   intro x hx;by_cases h:u<10
   · rw[mr u h]at hx;simp at hx;subst hx;unfold isNum;rw[aK];omega
   · rw[qi u h,dK]at hx
     rcases hx with hx|hx
     · exact ih (u / 10) (by omega) x hx
     · simp at hx;subst hx;unfold isNum;rw[aK];omega
def dB(l:List Int):Int:=l.foldl (fun n d=>10*n+(d - 48)) 0
theorem zO(l:List Int)(d:Int):dB (l++[d])=10*dB l+(d - 48):=by unfold dB;rw[List.foldl_append];rfl
theorem IZ (u:Nat):dB (aV u)=u:=by
 induction u using Nat.strongRecOn with
 | _ u ih =>
   by_cases h:u<10
   · rw[mr u h];unfold dB;simp;omega
   · rw[qi u h,zO,ih (u / 10) (by omega)];omega
theorem tY (u:Nat):aV u≠[]:=by
 by_cases h:u<10
 · rw[mr u h];simp
 · rw[qi u h];simp
theorem Gg (c:Int)(h0:0≤c)(h1:c≤701):bB c≠[]:=by
 unfold bB;rw[ag (by omega)];split <;> simp
def fo(b:Bool):List Int:=if b=true then [36]else []
theorem xJ(b:Bool):∀x∈fo b,decide (x=36)=true:=by cases b <;> simp[fo]
theorem Qk{a b:Bool}(h:fo a=fo b):a=b:=by cases a <;> cases b <;> simp[fo]at h ⊢
def qF(c r:Int)(ac ar:Bool):List Int:=fo ac++(bB c++(fo ar++aV (r+1).toNat))
theorem head_append {a:List Int}(h:a≠[])(hx:(a++b).head? = some x):x∈a:=by
 cases a with
 | nil=>exact absurd rfl h
 | cons y a=>simp at hx;subst hx;simp
theorem VJ {c' r':Int}{uW tL:Bool}(h0:0≤c)(h1:c≤701)(h2:0≤r)(k0:0≤c')(k1:c'≤701)(k2:0≤r')(h:qF c r ac ar=qF c' r' uW tL):c=c'∧r=r'∧ac=uW∧ar=tL:=by
 unfold qF at h;have Hm:∀x,aP x=true→decide (x=36)=false:=by intro x hx;have:=sG hx;rw[jq];omega
 have Ho:∀x,isNum x=true→decide (x=36)=false:=by intro x hx;have:=jA hx;rw[jq];omega
 have TH:∀(b:Bool)(u:Nat)(x:Int),(fo b++aV u).head? = some x→aP x=false:=by
  intro b u x hx;cases b with
  | true=>simp[fo]at hx;subst hx;decide
  | false =>
    have hx':(aV u++[]).head? = some x:=by simpa [fo]using hx
    have:=jA (rq u x (head_append (tY u) hx'));exact R7 (by omega)
 obtain ⟨e1,e2⟩:=EX (fun x=>decide (x=36)) _ _ _ _ (xJ ac) (xJ uW)
  (fun x hx=>Hm x (vE c x (head_append (Gg c h0 h1) hx))) (fun x hx=>Hm x (vE c' x (head_append (Gg c' k0 k1) hx))) h
 obtain⟨e3,e4⟩:=EX aP _ _ _ _ (vE c) (vE c') (TH ar _) (TH tL _) e2
 obtain ⟨e5,e6⟩:=EX (fun x=>decide (x=36)) _ _ _ _ (xJ ar) (xJ tL)
  (fun x hx=>Ho x (rq _ x (head_append (tY _) (by rw[fF];exact hx)))) (fun x hx=>Ho x (rq _ x (head_append (tY _) (by rw[fF];exact hx)))) e4
 refine⟨?_, ?_,Qk e1,Qk e5⟩
 · rw[← (MO c h0 h1).2, ← (MO c' k0 k1).2,e3]
 · have:=IZ (r+1).toNat
   rw[e6,IZ]at this;omega
theorem Nz (c r:Int)(ac ar:Bool):∀x∈qF c r ac ar,x≠33:=by
 intro x hx;unfold qF at hx;simp only[dK]at hx;rcases hx with h|h|h|h
 · have:=xJ _ x h;rw[aK]at this;omega
 · have:=sG (vE c x h);omega
 · have:=xJ _ x h;rw[aK]at this;omega
 · have:=jA (rq _ x h);omega
theorem Mf (l:List Int)(h:iH l=true):∀x∈l,x≠33:=by
 intro x hx;unfold iH at h;rw[dH,aK]at h;obtain⟨j,hj,rfl⟩:=List.mem_iff_getElem.1 hx;have:=h.1 j hj;rw[jL,dL hj]at this;simp only[Option.getD_some]at this;unfold nY isLet isNum at this;simp only[Bool.or_eq_true,dH,aK]at this;omega
theorem Cw (h:cK sh c r=true):sh=[]∨iH sh=true:=by
 unfold cK at h;rw[dH,Bool.or_eq_true,aK]at h;exact h.1
theorem EE (h:cK sh c r=true):0≤c∧c≤701∧0≤r∧r≤998:=by
 unfold cK at h;rw[dH,aK]at h;exact h.2
theorem Bw (sh:List Int)(c r:Int)(ac ar:Bool)(h:cK sh c r=true):aZ sh c r ac ar=(if sh=[]then []else sh++[33])++qF c r ac ar:=by
 unfold aZ qF fo;rw[ah h];simp only[bN]
theorem VO {sh':List Int}{c' r':Int}{uW tL:Bool}(h:cK sh c r=true)(k:cK sh' c' r'=true)(e:aZ sh c r ac ar=aZ sh' c' r' uW tL) :
 sh=sh'∧c=c'∧r=r'∧ac=uW∧ar=tL:=by
 obtain⟨h0,h1,h2,_⟩:=EE h;obtain⟨k0,k1,k2,_⟩:=EE k;rw[Bw _ _ _ _ _ h,Bw _ _ _ _ _ k]at e;by_cases hs:sh=[]
 · by_cases ks:sh'=[]
   · rw[ah hs,ah ks]at e
     exact⟨by rw[hs,ks],VJ h0 h1 h2 k0 k1 k2 e⟩
   · rw[ah hs,ag ks,iy]at e
     exact absurd rfl (Nz c r ac ar 33 (by rw[e];simp))
 · by_cases ks:sh'=[]
   · rw[ag hs,ah ks,iy]at e
     exact absurd rfl (Nz c' r' uW tL 33 (by rw[← e];simp))
   · rw [ag hs,ag ks,bN,bN]at e
     have n1:=(Cw h).resolve_left hs;have n2:=(Cw k).resolve_left ks
     obtain ⟨e1,e2⟩:=EX (fun x=>decide (x≠33)) _ _ _ _ (fun x hx=>by rw[aK];exact Mf _ n1 x hx) (fun x hx=>by rw[aK];exact Mf _ n2 x hx)
      (fun x hx=>by simp at hx;subst hx;rfl) (fun x hx=>by simp at hx;subst hx;rfl) e
     exact⟨e1,VJ h0 h1 h2 k0 k1 k2 (by injection e2)⟩
def df(w:World)(b:Nat)(s:ByteArray)(c r:Int)(ac ar:Bool):Prop:=w.heap[b]? = some (.cells #[.string s,.int .i64 c,.int .i64 r,.bool ac,.bool ar] 43)
theorem df.new (w:World)(s:ByteArray)(c r:Int)(ac ar:Bool):df (w.alloc (.cells #[.string s,.int .i64 c,.int .i64 r,.bool ac,.bool ar] 43)) w.heap.size s c r ac ar:=by
 exact(kW w _).1
theorem df.lt{b:Nat}(h:df w b s c r ac ar):b<w.heap.size:=(dn.1 h).1
theorem df.below {B b:Nat}(h:df w b s c r ac ar)(hb:Below B w w')(hB:b<B):df w' b s c r ac ar:=by
 unfold df;rw[hb.block b hB];exact h
theorem df.facts {b:Nat}(h:df w b s c r ac ar) :
 w.cell? ⟨b,0,none⟩=some (.string s)∧w.cell? ⟨b,1,none⟩=some (.int .i64 c)∧w.cell? ⟨b,2,none⟩=some (.int .i64 r)∧w.cell? ⟨b,3,none⟩=some (.bool ac)∧w.cell? ⟨b,4,none⟩=some (.bool ar) :=
 ⟨by rw[cell_of_row w b 0 _ _ _ h];rfl,by rw[cell_of_row w b 1 _ _ _ h];rfl,by rw[cell_of_row w b 2 _ _ _ h];rfl,by rw[cell_of_row w b 3 _ _ _ h];rfl,by rw[cell_of_row w b 4 _ _ _ h];rfl⟩
structure Rd where
 s:ByteArray
 k:Nat
 sh:ByteArray
 c:Int
 r:Int
 ac:Bool
 ar:Bool
def Rd.rest(d:Rd):List Int:=(sb d.s).drop d.k
def Rd.cells(d:Rd):Array Value:=#[.string d.s,.int .i64 (d.k:Int),.string d.sh,.int .i64 d.c,.int .i64 d.r,.bool d.ac,.bool d.ar]
def Rd.start(s:ByteArray):Rd:=⟨s,0,⟨#[]⟩,0,0,false,false⟩
def jV(x:Int):Bool:=decide (x≠33)
def isRow(l:List Int):Bool:=decide (l≠[]∧l.head? ≠ some 48∧dB l≤999)
def Rd.bV(d:Rd):List Int:=(sb d.s).takeWhile jV
def Rd.jX(d:Rd):Option Rd:=if d.bV.length=d.s.size then some d else if iH d.bV=true then some { d with sh:=strOfNums d.bV,k:=d.bV.length+1 }else none
def Rd.mark(d:Rd):Bool:=decide (d.rest.head? = some 36)
def Rd.yS(d:Rd):Option Rd:=some { d with ac:=d.mark,k:=d.k+(fo d.mark).length }
def Rd.yT(d:Rd):Option Rd:=some { d with ar:=d.mark,k:=d.k+(fo d.mark).length }
def Rd.col(d:Rd):Option Rd:=if jy (d.rest.takeWhile aP)=true then some { d with c:=lY (d.rest.takeWhile aP),k:=d.k+(d.rest.takeWhile aP).length }else none
def Rd.row(d:Rd):Option Rd:=if isRow (d.rest.takeWhile isNum)=true then some { d with r:=dB (d.rest.takeWhile isNum) - 1,k:=d.k+(d.rest.takeWhile isNum).length }else none
def Rd.fin(d:Rd):Option Rd:=if d.k=d.s.size then some d else none
theorem vP (p:Int→Bool):∀(a b:List Int),(∀x∈a,p x=true)→(∀x,b.head? = some x→p x=false)→(a++b).takeWhile p=a
 | [],[],_,_=>rfl
 | [],y :: b,_,h2=>by rw[iy,List.takeWhile_cons,h2 y rfl];rfl
 | x :: a,b,h,h2=>by
   rw[dx,List.takeWhile_cons,h x (by simp),ah rfl,vP p a b (fun z hz=>h z (by simp[hz])) h2]
theorem VM (p:Int→Bool):∀(a b:List Int),(∀x∈a,p x=true)→(a++b).takeWhile p=a++b.takeWhile p
 | [],b,_=>rfl
 | x :: a,b,h=>by
   rw[dx,List.takeWhile_cons,h x (by simp),ah rfl,VM p a b (fun z hz=>h z (by simp[hz])),dx]
theorem uC (p:Int→Bool):∀(l:List Int),∀x∈l.takeWhile p,p x=true
 | [],x,hx=>by simp at hx
 | y :: l,x,hx=>by
   rw[List.takeWhile_cons]at hx;by_cases h:p y=true
   · rw[ah h]at hx
     rcases eY.1 hx with rfl|hx
     · exact h
     · exact uC p l x hx
   · rw[ag h]at hx;simp at hx
theorem take_split (p:Int→Bool):∀(l:List Int),l.takeWhile p++l.drop (l.takeWhile p).length=l
 | []=>rfl
 | y :: l=>by
   rw[List.takeWhile_cons];by_cases h:p y=true
   · rw[ah h,aX,List.drop_succ_cons,dx,take_split p l]
   · rw[ag h];rfl
theorem E5 (p:Int→Bool):∀(l:List Int)(x:Int),(l.drop (l.takeWhile p).length).head? = some x→p x=false
 | [],x,h=>by simp at h
 | y :: l,x,h=>by
   rw[List.takeWhile_cons]at h;by_cases hy:p y=true
   · rw[ah hy,aX,List.drop_succ_cons]at h;exact E5 p l x h
   · rw[ag hy]at h;simp at h;subst h;simpa using hy
theorem KE:∀(n:Nat)(l:List Int),l.length=n→l≠[]→(∀x∈l,isNum x=true)→l.head? ≠ some 48→1≤dB l∧aV (dB l).toNat=l:=by
 intro n
 induction n with
 | zero=>intro l h h2;exact absurd (kV h) h2
 | succ n ih =>
   intro l hl hne aT hh
   obtain ⟨a,x,rfl⟩:∃a x,l=a++[x]:=by
    rcases List.eq_nil_or_concat l with h|⟨a,x,h⟩
    · exact absurd h hne
    · exact⟨a,x,by rw[h,List.concat_eq_append]⟩
   have hx:=jA (aT x (by simp));rw[zO];by_cases ha:a=[]
   · subst ha
     have h48:x≠48:=by intro h;subst h;exact hh rfl
     have hv:dB []=0:=rfl;rw[hv,mr _ (by omega)];refine⟨by omega, ?_⟩;rw[iy];congr 1;omega
   · have hlen:a.length=n:=by rw[av,fE]at hl;omega
     have h0:a.head? ≠ some 48:=by
      cases a with
      | nil=>exact absurd rfl ha
      | cons y a=>simpa using hh
     obtain⟨h1,h2⟩:=ih a hlen ha (fun z hz=>aT z (by simp[hz])) h0;refine⟨by omega, ?_⟩;rw[qi _ (by omega),show(10*dB a+(x - 48)).toNat / 10=(dB a).toNat from by omega,h2];congr 2;omega
theorem BD:∀(b a:List Int),(∀x∈b,isNum x=true)→0≤dB a→dB a≤dB (a++b)
 | [],a,_,_=>by rw[fF];exact Int.le_refl _
 | x :: b,a,h,h0=>by
   have hx:=jA (h x (by simp));have h1:=zO a x;have h2:=BD b (a++[x]) (fun z hz=>h z (by simp[hz])) (by omega);rw[bN,pU]at h2;omega
theorem Bn(d:Rd)(m:Nat):(sb d.s).drop (d.k+m)=d.rest.drop m:=by unfold Rd.rest;rw[List.drop_drop]
theorem L6 (d:Rd):d.rest=fo d.mark++d.rest.drop (fo d.mark).length:=by
 unfold Rd.mark;cases h:d.rest with
 | nil=>rfl
 | cons x l =>
   by_cases hx:x=36
   · subst hx;simp[fo]
   · have:(x :: l).head? ≠ some 36:=by simpa using hx
     rw[aS this];simp[fo]
def iw(s:ByteArray):Option Rd:=((((((Rd.start s).jX.bind Rd.yS).bind Rd.col).bind Rd.yT).bind Rd.row).bind Rd.fin)
theorem TG {l:List Int}(h:iH l=true):l≠[]∧l.length≤12:=by
 unfold iH at h;rw[dH,aK,aK]at h;exact⟨by intro h0;rw[h0]at h;simp at h,h.2.2⟩
theorem Sj{l:List Int}(h:isRow l=true):l≠[]∧l.head? ≠ some 48∧dB l≤999:=by unfold isRow at h;rw[aK]at h;exact h
theorem yn (s:ByteArray)(d:Rd)(h:iw s=some d):d.sh.size≤12∧cK (sb d.sh) d.c d.r=true∧aZ (sb d.sh) d.c d.r d.ac d.ar=sb s:=by
 unfold iw at h;simp only[Option.bind_eq_some_iff]at h;obtain⟨d5,⟨d4,⟨d3,⟨d2,⟨d1,h1,h2⟩,h3⟩,h4⟩,h5⟩,h6⟩:=h
 -- the sheet
 have g1:d1.s=s∧sb s=(if sb d1.sh=[]then []else sb d1.sh++[33])++d1.rest∧(sb d1.sh=[]∨iH (sb d1.sh)=true)∧d1.sh.size≤12:=by
  unfold Rd.jX at h1;by_cases hc:(Rd.start s).bV.length=(Rd.start s).s.size
  · rw[ah hc]at h1
    injection h1 with h1;subst h1;exact⟨rfl,rfl,.inl rfl,by show(0:Nat)≤12;omega⟩
  · rw [ag hc]at h1
    by_cases hn:iH (Rd.start s).bV=true
    · rw [ah hn]at h1
      injection h1 with h1;subst h1
      have hb:Bytes (Rd.start s).bV:=fun x hx=>sO s x (by
       have:=take_split jV (sb s);rw[← this];exact List.mem_append_left _ hx)
      obtain⟨q1,q2⟩:=TG hn;refine⟨rfl, ?_,.inr (by show iH (sb (strOfNums _))=true;rw[jD _ hb];exact hn),by show(strOfNums _).size≤12;rw[strOfNums_size];exact q2⟩;show sb s=(if sb (strOfNums (Rd.start s).bV)=[]then []else sb (strOfNums (Rd.start s).bV)++[33])++(sb s).drop ((Rd.start s).bV.length+1);rw[jD _ hb,ag q1];have e:=take_split jV (sb s)
      have hlt:(Rd.start s).bV.length<(sb s).length:=by
       have:=congrArg List.length e;rw[av]at this;have h3:(Rd.start s).bV.length≠s.size:=hc;have h4:=bz s;show((sb s).takeWhile jV).length<_;have h5:(Rd.start s).bV=(sb s).takeWhile jV:=rfl;rw[h5]at h3;omega
      have hh:=E5 jV (sb s);have h6:(sb s).drop (Rd.start s).bV.length=(sb s)[(Rd.start s).bV.length] :: (sb s).drop ((Rd.start s).bV.length+1):=List.drop_eq_getElem_cons hlt
      have h7:=hh ((sb s)[(Rd.start s).bV.length]) (by
       show((sb s).drop (Rd.start s).bV.length).head? = _;rw[h6];rfl)
      have h8:(sb s)[(Rd.start s).bV.length]=33:=by unfold jV at h7;simpa using h7
      rw[h8]at h6;rw[bN,pU, ← h6];exact e.symm
    · rw[ag hn]at h1;cases h1
 obtain⟨e1,t1,n1,z1⟩:=g1
 -- the mark ahead of the column
 have g2:d2.s=d1.s∧d2.sh=d1.sh∧d1.rest=fo d2.ac++d2.rest:=by
  unfold Rd.yS at h2;injection h2 with h2;subst h2;refine⟨rfl,rfl, ?_⟩;show d1.rest=fo d1.mark++(sb d1.s).drop (d1.k+(fo d1.mark).length);rw[Bn];exact L6 d1
 obtain⟨e2,f2,t2⟩:=g2
 have g3:d3.s=d2.s∧d3.sh=d2.sh∧d3.ac=d2.ac∧d2.rest=bB d3.c++d3.rest∧0≤d3.c∧d3.c≤701:=by
  unfold Rd.col at h3;by_cases hc:jy (d2.rest.takeWhile aP)=true
  · rw[ah hc]at h3;injection h3 with h3;subst h3
    obtain⟨q1,q2,q3⟩:=Zi _ hc;refine⟨rfl,rfl,rfl, ?_,q2,q3⟩;show d2.rest=bB (lY (d2.rest.takeWhile aP))++(sb d2.s).drop (d2.k+(d2.rest.takeWhile aP).length);rw[q1,Bn,take_split]
  · rw[ag hc]at h3;cases h3
 obtain⟨e3,f3,a3,t3,c0,c1⟩:=g3
 have g4:d4.s=d3.s∧d4.sh=d3.sh∧d4.ac=d3.ac∧d4.c=d3.c∧d3.rest=fo d4.ar++d4.rest:=by
  unfold Rd.yT at h4;injection h4 with h4;subst h4;refine⟨rfl,rfl,rfl,rfl, ?_⟩;show d3.rest=fo d3.mark++(sb d3.s).drop (d3.k+(fo d3.mark).length);rw[Bn];exact L6 d3
 obtain⟨e4,f4,a4,b4,t4⟩:=g4
 have g5:d5.s=d4.s∧d5.sh=d4.sh∧d5.ac=d4.ac∧d5.c=d4.c∧d5.ar=d4.ar∧d4.rest=aV (d5.r+1).toNat++d5.rest∧0≤d5.r∧d5.r≤998:=by
  unfold Rd.row at h5;by_cases hc:isRow (d4.rest.takeWhile isNum)=true
  · rw[ah hc]at h5;injection h5 with h5;subst h5
    obtain⟨q1,q2,q3⟩:=Sj hc;obtain⟨q4,q5⟩:=KE _ _ rfl q1 (uC isNum _) q2;refine⟨rfl,rfl,rfl,rfl,rfl, ?_,by show 0≤dB (d4.rest.takeWhile isNum) - 1;omega,by show dB (d4.rest.takeWhile isNum) - 1≤998;omega⟩;show d4.rest=aV (dB (d4.rest.takeWhile isNum) - 1+1).toNat++(sb d4.s).drop (d4.k+(d4.rest.takeWhile isNum).length);rw[Int.sub_add_cancel,q5,Bn,take_split]
  · rw[ag hc]at h5;cases h5
 obtain⟨e5,f5,a5,b5,r5,t5,r0,r1⟩:=g5
 have g6:d=d5∧d5.rest=[]:=by
  unfold Rd.fin at h6;by_cases hc:d5.k=d5.s.size
  · rw[ah hc]at h6;injection h6 with h6
    refine⟨h6.symm, ?_⟩;unfold Rd.rest;rw[hc, ← bz,List.drop_length]
  · rw[ag hc]at h6;cases h6
 obtain⟨rfl,t6⟩:=g6;have hsh:d.sh=d1.sh:=by rw[f5,f4,f3,f2]
 have hac:d.ac=d2.ac:=by rw[a5,a4,a3]
 have hc:d.c=d3.c:=by rw[b5,b4]
 have hm:cK (sb d.sh) d.c d.r=true:=by
  unfold cK;rw[dH,Bool.or_eq_true,aK,aK,hsh,hc];exact⟨n1,by omega,by omega,by omega,by omega⟩
 refine⟨by rw[hsh];exact z1,hm, ?_⟩;rw[Bw _ _ _ _ _ hm,t1,t2,t3,t4,t5,t6,hsh,hc,hac,r5,fF];rfl
def FR(l:List Int):Prop:=∀sh c r ac ar,cK sh c r=true→aZ sh c r ac ar≠l
def nT (l:List Int)(e:Ending):Prop :=
 (∃s c r ac ar,s.size≤12∧cK (sb s) c r=true∧aZ (sb s) c r ac ar=l∧e = .returned (.tuple #[.agg #[.string s,.int .i64 c,.int .i64 r,.bool ac,.bool ar],.bool true])) ∨
 (FR l∧e = .returned (.tuple #[.agg #[.string ⟨#[]⟩,.int .i64 0,.int .i64 0,.bool false,.bool false],.bool false]))
theorem Ti (d:Rd)(b:Bool)(t:List Int)(h:d.rest=fo b++t)(ht:∀x,t.head? = some x→x≠36):d.mark=b:=by
 unfold Rd.mark;rw[h];cases b with
 | true=>rfl
 | false =>
   rw[jq];intro hx;exact ht 36 hx rfl
theorem abT (r:Int)(h0:0≤r)(h1:r≤998):isRow (aV (r+1).toNat)=true:=by
 have hh:∀(n u:Nat),u<n→1≤u→(aV u).head? ≠ some 48:=by
  intro n
  induction n with
  | zero=>intro u h;omega
  | succ n ih =>
    intro u hu h1;by_cases h:u<10
    · rw[mr u h];simp;omega
    · rw[qi u h]
      have:=ih (u / 10) (by omega) (by omega);cases hd:aV (u / 10)with
      | nil=>exact absurd hd (tY _)
      | cons y l=>rw[hd]at this;simpa using this
 unfold isRow;rw[aK];refine⟨tY _,hh _ _ (Nat.lt_succ_self _) (by omega), ?_⟩;rw[IZ];omega
theorem CL (s:ByteArray)(h:iw s=none):FR (sb s):=by
 intro sh c r ac ar hm e;obtain⟨c0,c1,r0,r1⟩:=EE hm;rw[Bw _ _ _ _ _ hm]at e
 -- the sheet
 have g1:∃d1,(Rd.start s).jX=some d1∧d1.rest=qF c r ac ar∧d1.s=s∧d1.k+d1.rest.length=s.size:=by
  by_cases hs:sh=[]
  · rw [ah hs,iy]at e
    have hp:(Rd.start s).bV=sb s:=by
     show(sb s).takeWhile jV=sb s;rw[← e, ← fF (qF c r ac ar),vP jV _ [] (fun x hx=>by unfold jV;rw[aK];exact Nz c r ac ar x hx) (fun x hx=>by simp at hx),fF]
    refine⟨Rd.start s, ?_,e.symm,rfl,by show 0+(sb s).length=s.size;rw[bz];omega⟩;unfold Rd.jX;rw[hp,ah (show(sb s).length=(Rd.start s).s.size from bz s)]
  · rw [ag hs,bN]at e
    have hn:=(Cw hm).resolve_left hs
    have hp:(Rd.start s).bV=sh:=by
     show(sb s).takeWhile jV=sh;rw[← e];exact vP jV _ _ (fun x hx=>by unfold jV;rw[aK];exact Mf _ hn x hx) (fun x hx=>by simp at hx;subst hx;rfl)
    have hlen:¬ sh.length=(Rd.start s).s.size:=by
     show ¬ sh.length=s.size;rw[← bz, ← e];simp only[av,aX];omega
    refine⟨{ Rd.start s with sh:=strOfNums sh,k:=sh.length+1 }, ?_, ?_,rfl, ?_⟩
    · unfold Rd.jX;rw[hp,ag hlen,ah hn]
    · show(sb s).drop (sh.length+1)=_
      rw[← e, ← List.drop_drop,List.drop_left];rfl
    · show sh.length+1+((sb s).drop (sh.length+1)).length=s.size
      rw[lG, ← bz, ← e];simp only[av,aX];omega
 obtain⟨d1,h1,t1,s1,k1⟩:=g1;have Hm:∀x,aP x=true→x≠36:=by intro x hx;have:=sG hx;omega
 have Ho:∀x,isNum x=true→x≠36:=by intro x hx;have:=jA hx;omega
 obtain ⟨d2,h2,t2,s2,k2⟩:∃d2,d1.yS=some d2∧d2.rest=bB c++(fo ar++aV (r+1).toNat)∧d2.s=s∧d2.k=d1.k+(fo ac).length:=by
  have hmk:=Ti d1 ac (bB c++(fo ar++aV (r+1).toNat)) t1 (fun x hx=>Hm x (vE c x (head_append (Gg c c0 c1) hx)));refine⟨_,rfl, ?_,s1,by show d1.k+(fo d1.mark).length=_;rw[hmk]⟩;show(sb d1.s).drop (d1.k+(fo d1.mark).length)=_;rw[Bn,hmk,t1];unfold qF;rw[List.drop_left]
 have Az:∀x,(fo ar++aV (r+1).toNat).head? = some x→aP x=false:=by
  intro x hx;cases ar with
  | true=>simp[fo]at hx;subst hx;decide
  | false =>
    have hx':(aV (r+1).toNat++[]).head? = some x:=by simpa [fo]using hx
    have:=jA (rq _ x (head_append (tY _) hx'));exact R7 (by omega)
 obtain ⟨d3,h3,t3,s3,k3⟩:∃d3,d2.col=some d3∧d3.rest=fo ar++aV (r+1).toNat∧d3.s=s∧d3.k=d2.k+(bB c).length:=by
  have hp:d2.rest.takeWhile aP=bB c:=by rw[t2];exact vP aP _ _ (vE c) Az
  refine⟨{ d2 with c:=lY (d2.rest.takeWhile aP),k:=d2.k+(d2.rest.takeWhile aP).length }, ?_, ?_,s2,by show d2.k+(d2.rest.takeWhile aP).length=_;rw[hp]⟩
  · unfold Rd.col;rw[ah (by rw[hp];exact(MO c c0 c1).1)]
  · show(sb d2.s).drop (d2.k+(d2.rest.takeWhile aP).length)=_
    rw[Bn,hp,t2,List.drop_left]
 obtain ⟨d4,h4,t4,s4,k4⟩:∃d4,d3.yT=some d4∧d4.rest=aV (r+1).toNat∧d4.s=s∧d4.k=d3.k+(fo ar).length:=by
  have hmk:=Ti d3 ar (aV (r+1).toNat) t3 (fun x hx=>Ho x (rq _ x (head_append (b:=[]) (tY _) (by rw[fF];exact hx))));refine⟨_,rfl, ?_,s3,by show d3.k+(fo d3.mark).length=_;rw[hmk]⟩;show(sb d3.s).drop (d3.k+(fo d3.mark).length)=_;rw[Bn,hmk,t3,List.drop_left]
 obtain ⟨d5,h5,s5,k5⟩:∃d5,d4.row=some d5∧d5.s=s∧d5.k=d4.k+(aV (r+1).toNat).length:=by
  have hp:d4.rest.takeWhile isNum=aV (r+1).toNat:=by
   rw[t4];have:=vP isNum (aV (r+1).toNat) [] (rq _) (fun x hx=>by simp at hx);rw[fF]at this;exact this
  refine⟨{ d4 with r:=dB (d4.rest.takeWhile isNum) - 1,k:=d4.k+(d4.rest.takeWhile isNum).length }, ?_,s4,by show d4.k+(d4.rest.takeWhile isNum).length=_;rw[hp]⟩;unfold Rd.row;rw[ah (by rw[hp];exact abT r r0 r1)]
 have h6:d5.fin=none:=by
  unfold iw at h;rw[h1]at h;simp only[Option.bind_some]at h;rw[h2]at h;simp only[Option.bind_some]at h;rw[h3]at h;simp only[Option.bind_some]at h;rw[h4]at h;simp only[Option.bind_some]at h;rw[h5]at h;exact h
 unfold Rd.fin at h6
 have hk:d5.k=d5.s.size:=by
  rw[s5];rw[t1]at k1;unfold qF at k1;simp only[av]at k1;omega
 rw[ah hk]at h6;cases h6
theorem PS (c:Int):Bytes (bB c):=by
 intro x hx;have:=sG (vE c x hx);omega
theorem PT (u:Nat):Bytes (aV u):=by
 intro x hx;have:=jA (rq u x hx);omega
theorem PU (b:Bool):Bytes (fo b):=by
 intro x hx;have:=xJ b x hx;rw[aK]at this;omega
theorem Al (s:ByteArray)(c r:Int)(ac ar:Bool):Bytes (aZ (sb s) c r ac ar):=by
 by_cases h:cK (sb s) c r=true
 · rw[Bw _ _ _ _ _ h]
   unfold qF;refine Bytes.append ?_ ((PU ac).append ((PS c).append ((PU ar).append (PT _))));split
   · exact Bytes.nil
   · exact Bytes.append (sO s) (by intro x hx;simp at hx;omega)
 · unfold aZ;rw[ag h];exact Bytes.nil
theorem U6{a b:ByteArray}(h:sb a=sb b):a=b:=by rw[← mX a, ← mX b,h]
theorem nT.text {e:Ending}(hm:cK (sb s) c r=true)(h:nT (sb (strOfNums (aZ (sb s) c r ac ar))) e):e = .returned (.tuple #[.agg #[.string s,.int .i64 c,.int .i64 r,.bool ac,.bool ar],.bool true]):=by
 rw[jD _ (Al s c r ac ar)]at h;rcases h with ⟨s',c',r',uW,tL,_,h2,h3,h4⟩|⟨h1,_⟩
 · obtain⟨e1,e2,e3,e4,e5⟩:=VO h2 hm h3
   rw[h4,U6 e1,e2,e3,e4,e5]
 · exact absurd rfl (h1 _ _ _ _ _ hm)
structure ai where
 kind:Int
 text:ByteArray
 num:Int
 sh:ByteArray
 c:Int
 r:Int
 ac:Bool
 ar:Bool
 pos:Int
def ai.zero:ai:=⟨0,⟨#[]⟩,0,⟨#[]⟩,0,0,false,false,0⟩
def ai.goto(t:ai)(p:Int):ai:={ t with pos:=p }
def isWord(x:Int):Bool:=isLet x||(isNum x||decide (x=36∨x=33))
def lv (l:List Int):Option (ai × Nat) :=
 if (1<(l.takeWhile isNum).length∧l.head? = some 48)∨9223372036854775807<dB (l.takeWhile isNum)then none
 else some ({ ai.zero with kind:=1,num:=dB (l.takeWhile isNum) },(l.takeWhile isNum).length)
def eT:List Int→Option (List Int × Nat)
 | []=>none
 | x :: l =>
   if x<32 then none
   else if x≠34 then (eT l).map fun p=>(x :: p.1,p.2+1)
   else match l with
    | y :: m=>if y=34 then (eT m).map fun p=>(34 :: p.1,p.2+2)else some ([],1)
    | []=>some ([],1)
def lC(l:List Int):Option (ai × Nat):=(eT l).map fun p=>({ ai.zero with kind:=2,text:=strOfNums p.1 },p.2+1)
def jI(l:List Int):Bool:=decide (∀x∈l,(aP x||isNum x)=true)&&(decide (1≤l.length∧l.length≤12)&&aP (l.getD 0 0))
def mZ (l:List Int):Option (ai × Nat) :=
 match iw (strOfNums (l.takeWhile isWord))with
 | some d=>some ({ ai.zero with kind:=4,sh:=d.sh,c:=d.c,r:=d.r,ac:=d.ac,ar:=d.ar },(l.takeWhile isWord).length)
 | none=>if jI (l.takeWhile isWord)=true then some ({ ai.zero with kind:=3,text:=strOfNums (l.takeWhile isWord) },(l.takeWhile isWord).length)else none
def qh(l:List Int):Option (ai × Nat):=if l.take 5=[35,82,69,70,33]then some ({ ai.zero with kind:=6 },5)else none
def lF:List Int→Nat
 | []=>0
 | x :: l =>
   if (x=60∧(l.head? = some 62∨l.head? = some 61))∨(x=62∧l.head? = some 61)then 2
   else if x=43∨x=45∨x=42∨x=47∨x=38∨x=61∨x=60∨x=62∨x=40∨x=41∨x=44∨x=58 then 1 else 0
def oP(l:List Int):Option (ai × Nat):=if lF l=0 then none else some ({ ai.zero with kind:=5,text:=strOfNums (l.take (lF l)) },lF l)
def fD:List Int→Option (ai × Nat)
 | []=>none
 | x :: l=>if isNum x=true then lv (x :: l)else if x=34 then lC l else if x=35 then qh (x :: l)else if isLet x=true∨x=36 then mZ (x :: l)else oP (x :: l)
def fq:Nat→Nat→List Int→Option (List ai)
 | _,p,[]=>some [ai.zero.goto p]
 | 0,_,_ :: _=>none
 | f + 1,p,x :: l =>
   if x=32 then fq f (p+1) l
   else match fD (x :: l)with
    | none=>none
    | some (t,n)=>(fq f (p+n) ((x :: l).drop n)).map (t.goto p :: ·)
def gJ(l:List Int):Option (List ai):=fq l.length 0 l
theorem rO(x:Int)(l:List Int):fD (x :: l)=if isNum x=true then lv (x :: l)else if x=34 then lC l else if x=35 then qh (x :: l)else if isLet x=true∨x=36 then mZ (x :: l)else oP (x :: l):=rfl
theorem uy (x:Int)(l:List Int):eT (x :: l)=if x<32 then none else if x≠34 then (eT l).map fun p=>(x :: p.1,p.2+1)else match l with
 | y :: m=>if y=34 then (eT m).map fun p=>(34 :: p.1,p.2+2)else some ([],1)
 | []=>some ([],1):=by conv=>lhs;rw[eT.eq_def]
theorem sK (f p:Nat)(x:Int)(l:List Int):fq (f+1) p (x :: l)=if x=32 then fq f (p+1) l else match fD (x :: l)with
 | none=>none
 | some (t,n)=>(fq f (p+n) ((x :: l).drop n)).map (t.goto p :: ·):=rfl
theorem Bv (p:Int→Bool)(l:List Int):(l.takeWhile p).length≤l.length:=by
 have h:=congrArg List.length (take_split p l);rw[av]at h;omega
theorem IP (p:Int→Bool)(x:Int)(l:List Int)(h:p x=true):0<((x :: l).takeWhile p).length:=by
 rw[List.takeWhile_cons,ah h];simp
theorem Ib:∀(n:Nat)(l:List Int)(t:List Int)(k:Nat),l.length≤n→eT l=some (t,k)→0<k∧k≤l.length
 | _,[],_,_,_,h=>by simp[eT]at h
 | 0,_ :: _,_,_,hn,_=>by simp at hn
 | n + 1, x :: l,t,k,hn,h=>by
   rw[uy]at h;by_cases h1:x<32
   · rw[ah h1]at h;cases h
   · rw [ag h1]at h
     by_cases h2:x≠34
     · rw [ah h2]at h
       cases hq:eT l with
       | none=>rw[hq]at h;cases h
       | some q =>
         rw[hq]at h;simp only[jo,bf,bE]at h;have:=Ib n l q.1 q.2 (by simp at hn;omega) hq;simp only[aX];omega
     · rw [ag h2]at h
       cases l with
       | nil=>simp at h;simp only[aX,dV];omega
       | cons y m =>
         by_cases hy:y=34
         · simp only [hy,if_true]at h
           cases hq:eT m with
           | none=>rw[hq]at h;cases h
           | some q =>
             rw[hq]at h;simp only[jo,bf,bE]at h;have:=Ib n m q.1 q.2 (by simp at hn;omega) hq;simp only[aX];omega
         · simp only[hy,if_false,bf,bE]at h
           simp only[aX];omega
theorem sP (x:Int)(l:List Int):lF (x :: l)=if (x=60∧(l.head? = some 62∨l.head? = some 61))∨(x=62∧l.head? = some 61)then 2
 else if x=43∨x=45∨x=42∨x=47∨x=38∨x=61∨x=60∨x=62∨x=40∨x=41∨x=44∨x=58 then 1 else 0:=rfl
theorem Vo:∀l:List Int,lF l≤l.length
 | []=>aj _
 | x :: l=>by
   rw[sP];by_cases h:(x=60∧(l.head? = some 62∨l.head? = some 61))∨(x=62∧l.head? = some 61)
   · rw[ah h]
     have h0:l≠[]:=by rintro rfl;simp at h
     have:=List.length_pos_iff.2 h0;simp only[aX];omega
   · rw[ag h]
     split <;> simp
theorem LG (h:isLet x=true∨x=36):isWord x=true:=by
 unfold isWord;rcases h with h|h
 · rw[h];rfl
 · subst h;decide
theorem rP (l:List Int)(t:ai)(n:Nat)(h:fD l=some (t,n)):0<n∧n≤l.length:=by
 cases l with
 | nil=>simp[fD]at h
 | cons x l =>
   rw[rO]at h;by_cases h1:isNum x=true
   · rw [ah h1]at h
     unfold lv at h;split at h
     · cases h
     · simp only[bf,bE]at h
       rw[← h.2];exact⟨IP isNum x l h1,Bv _ _⟩
   · rw [ag h1]at h
     by_cases h2:x=34
     · rw [ah h2]at h
       unfold lC at h;cases hq:eT l with
       | none=>rw[hq]at h;cases h
       | some q =>
         rw[hq]at h;simp only[jo,bf,bE]at h;have:=Ib _ l q.1 q.2 (aj _) hq;simp only[aX];omega
     · rw [ag h2]at h
       by_cases h3:x=35
       · rw [ah h3]at h
         unfold qh at h;split at h
         · rename_i h5
           simp only[bf,bE]at h;have:=congrArg List.length h5;rw[gX]at this;simp only[aX,dV]at this ⊢;omega
         · cases h
       · rw [ag h3]at h
         by_cases h4:isLet x=true∨x=36
         · rw [ah h4]at h
           unfold mZ at h;split at h
           · simp only[bf,bE]at h
             rw[← h.2];exact⟨IP isWord x l (LG h4),Bv _ _⟩
           · split at h
             · simp only[bf,bE]at h
               rw[← h.2];exact⟨IP isWord x l (LG h4),Bv _ _⟩
             · cases h
         · rw [ag h4]at h
           unfold oP at h;split at h
           · cases h
           · rename_i h5
             simp only[bf,bE]at h;rw[← h.2];exact⟨by omega,Vo _⟩
theorem GZ:∀(f g p:Nat)(l:List Int),l.length≤f→l.length≤g→fq f p l=fq g p l
 | 0,0,_,_,_,_=>rfl
 | _,_,_,[],_,_=>by unfold fq;rfl
 | 0,_,_,_ :: _,h,_=>by simp at h
 | _,0,_,_ :: _,_,h=>by simp at h
 | f + 1,g+1,p,x :: l,h,h2=>by
   simp only[aX]at h h2;rw[sK,sK];by_cases hx:x=32
   · rw[ah hx,ah hx];exact GZ f g (p+1) l (by omega) (by omega)
   · rw [ag hx,ag hx]
     cases ht:fD (x :: l)with
     | none=>rfl
     | some q =>
       obtain⟨t,n⟩:=q;have hn:=rP _ _ _ ht;simp only;rw[GZ f g (p+n) ((x :: l).drop n) (by rw[lG];simp only[aX];omega) (by rw[lG];simp only[aX];omega)]
def Alike(b b':List Int):Prop:=b'.head? = b.head? ∨ b'.head? = some 32
theorem aaJ {p:Int→Bool}(hp:p 32=false)(h:Alike b b')(hb:∀x,b.head? = some x→p x=false):∀x,b'.head? = some x→p x=false:=by
 intro x hx;rcases h with h|h
 · exact hb x (by rw[← h];exact hx)
 · rw[h]at hx;injection hx with hx;rw[← hx];exact hp
theorem Vz {p:Int→Bool}(hp:p 32=false){a:List Int}(h:Alike b b')(hs:((a++b).takeWhile p).length=a.length):(a++b).takeWhile p=a∧(a++b').takeWhile p=a:=by
 have e:=take_split p (a++b);rw[hs,List.drop_left]at e;have e1:(a++b).takeWhile p=a:=List.append_cancel_right e;refine⟨e1, ?_⟩;have aT:∀x∈a,p x=true:=fun x hx=>uC p (a++b) x (by rw[e1];exact hx)
 have hh:=E5 p (a++b);rw[hs,List.drop_left]at hh;exact vP p a b' aT (aaJ hp h hh)
theorem MJ (h:Alike b b'):∀(n:Nat)(a t:List Int),a.length≤n→eT (a++b)=some (t,a.length)→eT (a++b')=some (t,a.length)
 | _,[],t,_,hq=>by
   exfalso;have:=Ib _ _ _ _ (aj _) hq;simp at this
 | 0,_ :: _,_,hn,_=>by simp at hn
 | n + 1, x :: a,t,hn,hq=>by
   rw[dx,uy]at hq ⊢;by_cases h1:x<32
   · rw[ah h1]at hq;cases hq
   · rw [ag h1]at hq ⊢
     by_cases h2:x≠34
     · rw [ah h2]at hq ⊢
       cases hr:eT (a++b)with
       | none=>rw[hr]at hq;cases hq
       | some q =>
         rw[hr]at hq;simp only[jo,bf,bE,aX]at hq;have h3:=MJ h n a q.1 (by simp at hn;omega) (by rw[hr, ← show q.2=a.length from by omega]);rw[h3];simp only[jo,aX,bf,bE,and_true];exact hq.1
     · rw [ag h2]at hq ⊢
       cases a with
       | nil =>
         simp only[iy]at hq ⊢;cases b with
         | nil =>
           simp only[bf,bE]at hq;cases b' with
           | nil=>simpa using hq
           | cons y m =>
             rcases h with h|h
             · simp at h
             · simp at h;subst h;simpa using hq
         | cons z m =>
           by_cases hz:z=34
           · exfalso
             simp only[hz,if_true]at hq;cases hr:eT m with
             | none=>rw[hr]at hq;cases hq
             | some q=>rw[hr]at hq;simp at hq
           · simp only [hz,if_false]at hq
             cases b' with
             | nil=>simpa using hq
             | cons y k =>
               have hy:¬ y=34:=by
                rcases h with h|h
                · simp at h;rw[h];exact hz
                · simp at h;omega
               simp only[hy,if_false];exact hq
       | cons y m =>
         simp only[dx]at hq ⊢;by_cases hy:y=34
         · simp only [hy,if_true]at hq ⊢
           cases hr:eT (m++b)with
           | none=>rw[hr]at hq;cases hq
           | some q =>
             rw[hr]at hq;simp only[jo,bf,bE,aX]at hq;have h3:=MJ h n m q.1 (by simp at hn;omega) (by rw[hr, ← show q.2=m.length from by omega]);rw[h3];simp only[jo,aX,bf,bE,and_true];exact hq.1
         · simp only[hy,if_false,bf,bE,aX]at hq
           exfalso;omega
theorem ahf (h:Alike b b')(x:Int)(hs:lF (x :: b)=1):lF (x :: b')=1:=by
 rw[sP]at hs ⊢;by_cases h2:(x=60∧(b.head? = some 62∨b.head? = some 61))∨(x=62∧b.head? = some 61)
 · rw[ah h2]at hs;omega
 · rw [ag h2]at hs
   have h3:¬ ((x=60∧(b'.head? = some 62∨b'.head? = some 61))∨(x=62∧b'.head? = some 61)):=by
    rcases h with h|h
    · rw[h];exact h2
    · rw[h];simp
   rw[ag h3];exact hs
theorem take_len(a b:List Int):(a++b).take a.length=a:=List.take_left
theorem ah2 {a:List Int}{t:ai}(h:Alike b b')(hq:fD (a++b)=some (t,a.length)):fD (a++b')=some (t,a.length):=by
 cases a with
 | nil =>
   have:=(rP _ _ _ hq).1;simp at this
 | cons x a =>
   have hsp:∀(p:Int→Bool),p 32=false→((x :: a++b).takeWhile p).length=(x :: a).length→(x :: a++b').takeWhile p=(x :: a++b).takeWhile p:=by
    intro p hp hl;obtain⟨e1,e2⟩:=Vz hp h hl;rw[e1,e2]
   rw[dx,rO]at hq ⊢;by_cases h1:isNum x=true
   · rw [ah h1]at hq ⊢
     have hn:((x :: a++b).takeWhile isNum).length=(x :: a).length:=by
      unfold lv at hq;split at hq
      · cases hq
      · simp only[bf,bE]at hq;exact hq.2
     have e:=hsp isNum (by decide) hn;rw[← hq];unfold lv;rw[dx,dx]at e;rw[e];rfl
   · rw [ag h1]at hq ⊢
     by_cases h2:x=34
     · rw [ah h2]at hq ⊢
       unfold lC at hq ⊢;cases hr:eT (a++b)with
       | none=>rw[hr]at hq;cases hq
       | some q =>
         rw[hr]at hq;simp only[jo,bf,bE,aX]at hq;have h3:=MJ h _ a q.1 (aj _) (by rw[hr, ← show q.2=a.length from by omega]);rw[h3];simp only[jo,aX,bf,bE,and_true];exact hq.1
     · rw [ag h2]at hq ⊢
       by_cases h3:x=35
       · rw [ah h3]at hq ⊢
         unfold qh at hq ⊢;by_cases h5:(x :: (a++b)).take 5=[35,82,69,70,33]
         · rw[ah h5]at hq
           simp only[bf,bE]at hq;have e1:(x :: (a++b)).take 5=x :: a:=by rw[hq.2, ← dx];exact take_len _ _
           have e2:(x :: (a++b')).take 5=x :: a:=by rw[hq.2, ← dx];exact take_len _ _
           rw[e1]at h5;rw[e2,ah h5,hq.1];exact congrArg (fun k=>some (t,k)) hq.2
         · rw[ag h5]at hq;cases hq
       · rw [ag h3]at hq ⊢
         by_cases h4:isLet x=true∨x=36
         · rw [ah h4]at hq ⊢
           have hn:((x :: a++b).takeWhile isWord).length=(x :: a).length:=by
            unfold mZ at hq;split at hq
            · simp only[bf,bE]at hq;exact hq.2
            · split at hq
              · simp only[bf,bE]at hq;exact hq.2
              · cases hq
           have e:=hsp isWord (by decide) hn;rw[← hq];unfold mZ;rw[dx,dx]at e;rw[e]
         · rw [ag h4]at hq ⊢
           unfold oP at hq ⊢;by_cases h5:lF (x :: (a++b))=0
           · rw[ah h5]at hq;cases hq
           · rw [ag h5]at hq
             simp only[bf,bE]at hq
             have e:lF (x :: (a++b'))=lF (x :: (a++b)):=by
              cases a with
              | nil=>rw[hq.2];exact ahf h x hq.2
              | cons y a=>rw[sP,sP];rfl
             rw[e,ag h5, ← hq.1,hq.2];have e1:(x :: (a++b)).take (x :: a).length=x :: a:=by rw[← dx];exact take_len _ _
             have e2:(x :: (a++b')).take (x :: a).length=x :: a:=by rw[← dx];exact take_len _ _
             rw[e1,e2]
structure bL where
 sh:ByteArray
 c:Int
 r:Int
 ac:Bool
 ar:Bool
def bL.zero:bL:=⟨⟨#[]⟩,0,0,false,false⟩
def ai.bR(t:ai):bL:=⟨t.sh,t.c,t.r,t.ac,t.ar⟩
structure Nd where
 kind:Int
 num:Int
 text:ByteArray
 ref:bL
 af:bL
 kids:List Int
def Nd.zero:Nd:=⟨0,0,⟨#[]⟩,bL.zero,bL.zero,[]⟩
abbrev eQ:=Except Int (List Nd × Nat × List ai)
abbrev Args:=Except Int (List Nd × List Int × List ai)
def iW {α β γ δ : Type}(x:Option (Except Int (α × β × γ)))(k : α → β → γ → Option (Except Int δ)):Option (Except Int δ) :=
 match x with
 | none=>none
 | some (.error e)=>some (.error e)
 | some (.ok (a,b,c))=>k a b c
def ax (s:ByteArray)(ts:List ai):Bool:=match ts with
 | t :: _=>decide (t.kind=5)&&decide (t.text=s)
 | []=>false
def gp:Nat→List (ByteArray × Int)
 | 0=>[(⟨#[61]⟩,9),(⟨#[60,62]⟩,10),(⟨#[60]⟩,11),(⟨#[60,61]⟩,12),(⟨#[62]⟩,13),(⟨#[62,61]⟩,14)]
 | 1=>[(⟨#[38]⟩,15)]
 | 2=>[(⟨#[43]⟩,16),(⟨#[45]⟩,17)]
 | _=>[(⟨#[42]⟩,18),(⟨#[47]⟩,19)]
def fC (n:Nat)(ts:List ai):Int:=match (gp n).find? fun p=>ax p.1 ts with
 | some p=>p.2
 | none=>0
def fu(a b:bL):Bool:=decide (b.sh=⟨#[]⟩)&&(decide (a.c≤b.c)&&decide (a.r≤b.r))
def uo (ts:List ai):Int:=match ts with
 | t :: _=>t.kind
 | []=>0
def jJ (base:Nat)(t:ai)(ts:List ai):eQ :=
 if ax ⟨#[58]⟩ ts=true then match ts.tail with
  | u :: us=>if u.kind=4∧fu t.bR u.bR=true then .ok ([{ Nd.zero with kind:=6,ref:=t.bR,af:=u.bR }],base,us)else .error 5
  | [] => .error 5
 else .ok ([{ Nd.zero with kind:=5,ref:=t.bR }],base,ts)
mutual
def eU:Nat→Nat→Nat→Nat→List ai→Option eQ
 | 0,_,_,_,_=>none
 | f + 1,n,deep,base,ts =>
   if n≤3 then iW (eU f (n+1) deep base ts) fun ns a r=>iJ f n deep base ns a r
   else if ax ⟨#[45]⟩ ts=true then
    if 12≤deep then some (.error 6)
    else iW (eU f 4 (deep+1) base ts.tail) fun ns a r=>some (.ok (ns++[{ Nd.zero with kind:=8,kids:=[(a:Int)] }],base+ns.length,r))
   else jB f deep base ts
def iJ:Nat→Nat→Nat→Nat→List Nd→Nat→List ai→Option eQ
 | 0,_,_,_,_,_,_=>none
 | f+1,n,deep,base,ns,a,ts =>
   if fC n ts=0 then some (.ok (ns,a,ts))
   else iW (eU f (n+1) deep (base+ns.length) ts.tail) fun ms b r=>iJ f n deep base (ns++(ms++[{ Nd.zero with kind:=fC n ts,kids:=[(a:Int),(b:Int)] }])) (base+(ns.length+ms.length)) r
def jB:Nat→Nat→Nat→List ai→Option eQ
 | 0,_,_,_=>none
 | _,_,_,[]=>some (.error 5)
 | f + 1,deep,base,t :: ts =>
   if ax ⟨#[40]⟩ (t :: ts)=true then
    if 12≤deep then some (.error 6)
    else iW (eU f 0 (deep+1) base ts) fun ns a r=>if ax ⟨#[41]⟩ r=true then some (.ok (ns,a,r.tail))else some (.error 5)
   else if t.kind=1 then some (.ok ([{ Nd.zero with kind:=1,num:=t.num }],base,ts))
   else if t.kind=2 then some (.ok ([{ Nd.zero with kind:=2,text:=t.text }],base,ts))
   else if t.kind=6 then some (.ok ([{ Nd.zero with kind:=4 }],base,ts))
   else if t.kind=4 then some (jJ base t ts)
   else if t.kind=3 then
    if t.text=⟨#[84,82,85,69]⟩then some (.ok ([{ Nd.zero with kind:=3,num:=1 }],base,ts))
    else if t.text=⟨#[70,65,76,83,69]⟩then some (.ok ([{ Nd.zero with kind:=3 }],base,ts))
    else if ax ⟨#[40]⟩ ts=true then
     if 12≤deep then some (.error 6)
     else iW (if ax ⟨#[41]⟩ ts.tail=true then some (.ok ([],[],ts.tail))else ib f (deep+1) base [] [] ts.tail) fun ns ks r =>
      if ax ⟨#[41]⟩ r=true then some (.ok (ns++[{ Nd.zero with kind:=7,text:=t.text,kids:=ks }],base+ns.length,r.tail))else some (.error 5)
    else some (.error 5)
   else some (.error 5)
def ib:Nat→Nat→Nat→List Nd→List Int→List ai→Option Args
 | 0,_,_,_,_,_=>none
 | f + 1,deep,base,ns,ks,ts =>
   iW (eU f 0 deep (base+ns.length) ts) fun ms a r =>
    if ax ⟨#[44]⟩ r=true then ib f deep base (ns++ms) (ks++[(a:Int)]) r.tail else some (.ok (ns++ms,ks++[(a:Int)],r))
end
def lW (f:Nat)(ts:List ai):Option (Except Int (List Nd)) :=
 iW (eU f 0 0 0 ts) fun ns _ r=>if uo r=0 then some (.ok ns)else some (.error 5)
theorem eG {β γ δ: Type}{x:Option (Except Int (α × β × γ))}{k : α → β → γ → Option (Except Int δ)}{y:Except Int δ}(h:iW x k=some y) :
 (∃e,x=some (.error e)∧y = .error e)∨∃a b c,x=some (.ok (a,b,c))∧k a b c=some y:=by
 unfold iW at h;split at h
 · cases h
 · injection h with h;exact .inl ⟨_,rfl,h.symm⟩
 · exact .inr ⟨_,_,_,rfl,h⟩
theorem Cc {β γ δ: Type}{x x':Option (Except Int (α × β × γ))}{k k' : α → β → γ → Option (Except Int δ)}(hx:∀y,x=some y→x'=some y)(hk:∀a b c y,k a b c=some y→k' a b c=some y) :
 ∀y,iW x k=some y→iW x' k'=some y:=by
 intro y h;rcases eG h with ⟨e,h1,rfl⟩|⟨a,b,c,h1,h2⟩
 · rw[hx _ h1];rfl
 · rw[hx _ h1];exact hk _ _ _ _ h2
theorem lQ (f n deep base:Nat)(ts:List ai):eU (f+1) n deep base ts=if n≤3 then iW (eU f (n+1) deep base ts) fun ns a r=>iJ f n deep base ns a r
 else if ax ⟨#[45]⟩ ts=true then
  if 12≤deep then some (.error 6)
  else iW (eU f 4 (deep+1) base ts.tail) fun ns a r=>some (.ok (ns++[{ Nd.zero with kind:=8,kids:=[(a:Int)] }],base+ns.length,r))
 else jB f deep base ts:=by conv=>lhs;unfold eU
theorem qB (f n deep base:Nat)(ns:List Nd)(a:Nat)(ts:List ai):iJ (f+1) n deep base ns a ts=if fC n ts=0 then some (.ok (ns,a,ts))
 else iW (eU f (n+1) deep (base+ns.length) ts.tail) fun ms b r=>iJ f n deep base (ns++(ms++[{ Nd.zero with kind:=fC n ts,kids:=[(a:Int),(b:Int)] }])) (base+(ns.length+ms.length)) r:=by conv=>lhs;unfold iJ
theorem o8 (f deep base:Nat)(ns:List Nd)(ks:List Int)(ts:List ai):ib (f+1) deep base ns ks ts=iW (eU f 0 deep (base+ns.length) ts) fun ms a r =>
 if ax ⟨#[44]⟩ r=true then ib f deep base (ns++ms) (ks++[(a:Int)]) r.tail else some (.ok (ns++ms,ks++[(a:Int)],r)):=by conv=>lhs;unfold ib
theorem zz(f deep base:Nat):jB (f+1) deep base []=some (.error 5):=by unfold jB;rfl
theorem lX (f deep base:Nat)(t:ai)(ts:List ai):jB (f+1) deep base (t :: ts) =
 if ax ⟨#[40]⟩ (t :: ts)=true then
  if 12≤deep then some (.error 6)
  else iW (eU f 0 (deep+1) base ts) fun ns a r=>if ax ⟨#[41]⟩ r=true then some (.ok (ns,a,r.tail))else some (.error 5)
 else if t.kind=1 then some (.ok ([{ Nd.zero with kind:=1,num:=t.num }],base,ts))
 else if t.kind=2 then some (.ok ([{ Nd.zero with kind:=2,text:=t.text }],base,ts))
 else if t.kind=6 then some (.ok ([{ Nd.zero with kind:=4 }],base,ts))
 else if t.kind=4 then some (jJ base t ts)
 else if t.kind=3 then
  if t.text=⟨#[84,82,85,69]⟩then some (.ok ([{ Nd.zero with kind:=3,num:=1 }],base,ts))
  else if t.text=⟨#[70,65,76,83,69]⟩then some (.ok ([{ Nd.zero with kind:=3 }],base,ts))
  else if ax ⟨#[40]⟩ ts=true then
   if 12≤deep then some (.error 6)
   else iW (if ax ⟨#[41]⟩ ts.tail=true then some (.ok ([],[],ts.tail))else ib f (deep+1) base [] [] ts.tail) fun ns ks r =>
    if ax ⟨#[41]⟩ r=true then some (.ok (ns++[{ Nd.zero with kind:=7,text:=t.text,kids:=ks }],base+ns.length,r.tail))else some (.error 5)
  else some (.error 5)
 else some (.error 5):=by conv=>lhs;unfold jB
theorem Ha : ∀ f : Nat,(∀n deep base ts y,eU f n deep base ts=some y→eU (f+1) n deep base ts=some y)∧(∀n deep base ns a ts y,iJ f n deep base ns a ts=some y→iJ (f+1) n deep base ns a ts=some y) ∧
 (∀deep base ts y,jB f deep base ts=some y→jB (f+1) deep base ts=some y)∧(∀deep base ns ks ts y,ib f deep base ns ks ts=some y→ib (f+1) deep base ns ks ts=some y)
 | 0=>⟨fun _ _ _ _ _ h=>by simp[eU]at h,fun _ _ _ _ _ _ _ h=>by simp[iJ]at h,fun _ _ _ _ h=>by simp[jB]at h,fun _ _ _ _ _ _ h=>by simp[ib]at h⟩
 | f + 1 => by
   obtain⟨i1,i2,i3,i4⟩:=Ha f;refine⟨?_, ?_, ?_, ?_⟩
   · intro n deep base ts y h
     rw[lQ]at h ⊢;split
     · rw[ah ‹_›]at h
       exact Cc (fun y h=>i1 _ _ _ _ y h) (fun a b c y h=>i2 _ _ _ _ _ _ y h) y h
     · rw [ag ‹_›]at h
       split
       · rw [ah ‹_›]at h
         split
         · rw[ah ‹_›]at h;exact h
         · rw[ag ‹_›]at h
           exact Cc (fun y h=>i1 _ _ _ _ y h) (fun a b c y h=>h) y h
       · rw[ag ‹_›]at h
         exact i3 _ _ _ y h
   · intro n deep base ns a ts y h
     rw[qB]at h ⊢;split
     · rw[ah ‹_›]at h;exact h
     · rw[ag ‹_›]at h
       exact Cc (fun y h=>i1 _ _ _ _ y h) (fun a b c y h=>i2 _ _ _ _ _ _ y h) y h
   · intro deep base ts y h
     cases ts with
     | nil=>rw[zz]at h ⊢;exact h
     | cons t ts =>
       rw[lX]at h ⊢;by_cases c1:ax ⟨#[40]⟩ (t :: ts)=true
       · rw [ah c1]at h ⊢
         by_cases d:12≤deep
         · rw[ah d]at h ⊢;exact h
         · rw[ag d]at h ⊢
           exact Cc (fun y h=>i1 _ _ _ _ y h) (fun a b c y h=>h) y h
       · rw [ag c1] at h ⊢
         by_cases c2:t.kind=1
         · rw[ah c2]at h ⊢
           exact h
         · rw [ag c2] at h ⊢
           by_cases c3:t.kind=2
           · rw[ah c3]at h ⊢
             exact h
           · rw [ag c3] at h ⊢
             by_cases c4:t.kind=6
             · rw[ah c4]at h ⊢
               exact h
             · rw [ag c4] at h ⊢
               by_cases c5:t.kind=4
               · rw[ah c5]at h ⊢
                 exact h
               · rw [ag c5]at h ⊢
                 by_cases c6:t.kind=3
                 · rw [ah c6]at h ⊢
                   by_cases c7:t.text=⟨#[84,82,85,69]⟩
                   · rw[ah c7]at h ⊢;exact h
                   · rw [ag c7]at h ⊢
                     by_cases c8:t.text=⟨#[70,65,76,83,69]⟩
                     · rw[ah c8]at h ⊢;exact h
                     · rw [ag c8]at h ⊢
                       by_cases c9:ax ⟨#[40]⟩ ts=true
                       · rw [ah c9]at h ⊢
                         by_cases d:12≤deep
                         · rw[ah d]at h ⊢;exact h
                         · rw[ag d]at h ⊢
                           refine Cc (fun y h => ?_) (fun a b c y h=>h) y h;by_cases c10:ax ⟨#[41]⟩ ts.tail=true
                           · rw[ah c10]at h ⊢;exact h
                           · rw[ag c10]at h ⊢;exact i4 _ _ _ _ _ y h
                       · rw[ag c9]at h ⊢;exact h
                 · rw[ag c6]at h ⊢;exact h
   · intro deep base ns ks ts y h
     rw[o8]at h ⊢;refine Cc (fun y h=>i1 _ _ _ _ y h) (fun a b c y h => ?_) y h;split
     · rw[ah ‹_›]at h;exact i4 _ _ _ _ _ y h
     · rw[ag ‹_›]at h;exact h
theorem xK {ts:List ai}{y:eQ}(hfg:f≤g)(h:eU f n deep base ts=some y):eU g n deep base ts=some y:=by
 induction g with
 | zero => obtain rfl:f=0:=by omega
           exact h
 | succ g ih =>
   by_cases e:f=g+1
   · rw[← e];exact h
   · exact(Ha g).1 _ _ _ _ _ (ih (by omega))
theorem ET {ns:List Nd}{a:Nat}{ts:List ai}{y:eQ}(hfg:f≤g)(h:iJ f n deep base ns a ts=some y):iJ g n deep base ns a ts=some y:=by
 induction g with
 | zero => obtain rfl:f=0:=by omega
           exact h
 | succ g ih =>
   by_cases e:f=g+1
   · rw[← e];exact h
   · exact(Ha g).2.1 _ _ _ _ _ _ _ (ih (by omega))
theorem F8 {ns:List Nd}{ts:List ai}{y:Args}(hfg:f≤g)(h:ib f deep base ns ks ts=some y):ib g deep base ns ks ts=some y:=by
 induction g with
 | zero => obtain rfl:f=0:=by omega
           exact h
 | succ g ih =>
   by_cases e:f=g+1
   · rw[← e];exact h
   · exact(Ha g).2.2.2 _ _ _ _ _ _ (ih (by omega))
def fB(m:Nat)(r ts:List ai):Prop:=∃pre:List ai,ts=pre++r∧(∀t∈pre,t.kind≠0)∧m≤pre.length
theorem fB.refl(ts:List ai):fB 0 ts ts:=⟨[],rfl,by simp,by simp⟩
theorem fB.trans {k:Nat}{r s t:List ai}(h:fB m r s)(g:fB k s t):fB (k+m) r t:=by
 obtain⟨p,rfl,h1,h2⟩:=h;obtain⟨q,rfl,g1,g2⟩:=g;refine⟨q++p,by rw[bN], ?_,by rw[av];omega⟩;intro x hx;rw[dK]at hx;rcases hx with hx|hx
 · exact g1 x hx
 · exact h1 x hx
theorem fB.less {k:Nat}{r ts:List ai}(h:fB m r ts)(hk:k≤m):fB k r ts:=by
 obtain⟨p,h0,h1,h2⟩:=h;exact⟨p,h0,h1,by omega⟩
theorem fB.len {r ts:List ai}(h:fB m r ts):r.length+m≤ts.length:=by
 obtain⟨p,rfl,_,h2⟩:=h;rw[av];omega
theorem fB.head{t:ai}{ts:List ai}(h:t.kind≠0):fB 1 ts (t :: ts):=⟨[t],rfl,by simp[h],by simp⟩
theorem fB.sign {ts:List ai}(h:ax s ts=true):fB 1 ts.tail ts:=by
 cases ts with
 | nil=>simp[ax]at h
 | cons t ts =>
   unfold ax at h;rw[dH,aK]at h;exact fB.head (by omega)
theorem EH {ts:List ai}(h:fC n ts≠0):∃p∈gp n,ax p.1 ts=true∧fC n ts=p.2:=by
 unfold fC at h ⊢;cases hq:(gp n).find? (fun p=>ax p.1 ts)with
 | none=>rw[hq]at h;exact absurd rfl h
 | some p=>exact⟨p,List.mem_of_find?_eq_some hq,List.find?_some (p:=fun p:ByteArray × Int=>ax p.1 ts) hq,rfl⟩
theorem fB.op {ts:List ai}(h:fC n ts≠0):fB 1 ts.tail ts:=by
 obtain⟨p,_,h1,_⟩:=EH h;exact fB.sign h1
theorem UE {t:ai}{ts:List ai}{ns:List Nd}{a:Nat}{r:List ai}(h:jJ base t ts = .ok (ns,a,r)):fB 0 r ts∧ns.length=1∧a=base:=by
 unfold jJ at h;by_cases c:ax ⟨#[58]⟩ ts=true
 · rw [ah c]at h
   cases hq:ts.tail with
   | nil=>rw[hq]at h;cases h
   | cons u us =>
     rw[hq]at h;simp only at h;by_cases d:u.kind=4∧fu t.bR u.bR=true
     · rw[ah d]at h
       injection h with h;injection h with h1 h2;injection h2 with h2 h3;subst h1;subst h2;subst h3;have s1:=fB.sign c;rw[hq]at s1;exact⟨((fB.head (ts:=us) (show u.kind≠0 by omega)).trans s1).less (by omega),rfl,rfl⟩
     · rw[ag d]at h;cases h
 · rw[ag c]at h
   injection h with h;injection h with h1 h2;injection h2 with h2 h3;subst h1;subst h2;subst h3;exact⟨fB.refl _,rfl,rfl⟩
def Told(base:Nat)(ts:List ai)(ns:List Nd)(a:Nat)(r:List ai):Prop:=fB 1 r ts∧a+1=base+ns.length∧1≤ns.length
theorem vQ : ∀ f : Nat, (∀ n deep base ts ns a r,eU f n deep base ts=some (.ok (ns,a,r))→Told base ts ns a r) ∧
 (∀n deep base ns a ts ns' a' r,iJ f n deep base ns a ts=some (.ok (ns',a',r))→a+1=base+ns.length→1≤ns.length→fB 0 r ts∧a'+1=base+ns'.length∧1≤ns'.length) ∧
 (∀deep base ts ns a r,jB f deep base ts=some (.ok (ns,a,r))→Told base ts ns a r) ∧
 (∀deep base ns ks ts ns' ks' r,ib f deep base ns ks ts=some (.ok (ns',ks',r))→fB 1 r ts)
 | 0=>by
   refine⟨?_, ?_, ?_, ?_⟩
   · intro n deep base ts ns a r h;unfold eU at h;cases h
   · intro n deep base ns a ts ns' a' r h;unfold iJ at h;cases h
   · intro deep base ts ns a r h;unfold jB at h;cases h
   · intro deep base ns ks ts ns' ks' r h;unfold ib at h;cases h
 | f + 1 => by
   obtain⟨i1,i2,i3,i4⟩:=vQ f;refine⟨?_, ?_, ?_, ?_⟩
   · intro n deep base ts ns a r h
     rw[lQ]at h;by_cases c:n≤3
     · rw [ah c]at h
       rcases eG h with ⟨e,_,h2⟩|⟨ms,b,s,h1,h2⟩
       · cases h2
       · obtain⟨k1,k2,k3⟩:=i1 _ _ _ _ _ _ _ h1
         obtain⟨g1,g2,g3⟩:=i2 _ _ _ _ _ _ _ _ _ h2 k2 k3;exact⟨g1.trans k1,g2,g3⟩
     · rw [ag c]at h
       by_cases d:ax ⟨#[45]⟩ ts=true
       · rw [ah d]at h
         by_cases d2:12≤deep
         · rw[ah d2]at h;cases h
         · rw [ag d2]at h
           rcases eG h with ⟨e,_,h2⟩|⟨ms,b,s,h1,h2⟩
           · cases h2
           · obtain⟨k1,k2,k3⟩:=i1 _ _ _ _ _ _ _ h1
             injection h2 with h2;injection h2 with h2;injection h2 with h3 h4;injection h4 with h4 h5;subst h3;subst h4;subst h5;exact⟨(k1.trans (fB.sign d)).less (by omega),by rw[av];simp;omega,by rw[av];simp⟩
       · rw[ag d]at h;exact i3 _ _ _ _ _ _ h
   · intro n deep base ns a ts ns' a' r h ha hn
     rw[qB]at h;by_cases c:fC n ts=0
     · rw[ah c]at h
       injection h with h;injection h with h;injection h with h1 h2;injection h2 with h2 h3;subst h1;subst h2;subst h3;exact⟨fB.refl _,ha,hn⟩
     · rw [ag c]at h
       rcases eG h with ⟨e,_,h2⟩|⟨ms,b,s,h1,h2⟩
       · cases h2
       · obtain⟨k1,k2,k3⟩:=i1 _ _ _ _ _ _ _ h1
         obtain⟨g1,g2,g3⟩:=i2 _ _ _ _ _ _ _ _ _ h2 (by simp only[av,aX,dV];omega) (by simp only[av,aX,dV];omega);exact⟨((g1.trans k1).trans (fB.op c)).less (by omega),g2,g3⟩
   · intro deep base ts ns a r h
     cases ts with
     | nil=>rw[zz]at h;cases h
     | cons t ts =>
       have leaf:∀(x:Nd),t.kind≠0→(some (.ok ([x],base,ts)):Option eQ)=some (.ok (ns,a,r))→Told base (t :: ts) ns a r:=by
        intro x hk h;injection h with h;injection h with h;injection h with h1 h2;injection h2 with h2 h3;subst h1;subst h2;subst h3;exact⟨fB.head hk,by simp,by simp⟩
       rw[lX]at h;by_cases c1:ax ⟨#[40]⟩ (t :: ts)=true
       · rw [ah c1]at h
         have s1:=fB.sign c1;by_cases d:12≤deep
         · rw[ah d]at h;cases h
         · rw [ag d]at h
           rcases eG h with ⟨e,_,h2⟩|⟨ms,b,s,h1,h2⟩
           · cases h2
           · obtain ⟨k1,k2,k3⟩:=i1 _ _ _ _ _ _ _ h1
             by_cases d2:ax ⟨#[41]⟩ s=true
             · rw[ah d2]at h2
               injection h2 with h2;injection h2 with h2;injection h2 with h3 h4;injection h4 with h4 h5;subst h3;subst h4;subst h5;exact⟨(((fB.sign d2).trans k1).trans s1).less (by omega),k2,k3⟩
             · rw[ag d2]at h2;cases h2
       · rw [ag c1] at h
         by_cases c2:t.kind=1
         · rw[ah c2]at h;exact leaf _ (by omega) h
         · rw [ag c2] at h
           by_cases c3:t.kind=2
           · rw[ah c3]at h;exact leaf _ (by omega) h
           · rw [ag c3] at h
             by_cases c4:t.kind=6
             · rw[ah c4]at h;exact leaf _ (by omega) h
             · rw [ag c4] at h
               by_cases c5:t.kind=4
               · rw[ah c5]at h
                 injection h with h;obtain⟨g1,g2,g3⟩:=UE h;exact⟨(g1.trans (fB.head (show t.kind≠0 by omega))).less (by omega),by omega,by omega⟩
               · rw [ag c5] at h
                 by_cases c6:t.kind=3
                 · rw [ah c6] at h
                   by_cases c7:t.text=⟨#[84,82,85,69]⟩
                   · rw[ah c7]at h;exact leaf _ (by omega) h
                   · rw [ag c7]at h
                     by_cases c8:t.text=⟨#[70,65,76,83,69]⟩
                     · rw[ah c8]at h;exact leaf _ (by omega) h
                     · rw [ag c8]at h
                       by_cases c9:ax ⟨#[40]⟩ ts=true
                       · rw [ah c9]at h
                         by_cases d:12≤deep
                         · rw[ah d]at h;cases h
                         · rw [ag d]at h
                           rcases eG h with ⟨e,_,h2⟩|⟨ms,ks,s,h1,h2⟩
                           · cases h2
                           · have k1:fB 0 s ts.tail:=by
                              by_cases c10:ax ⟨#[41]⟩ ts.tail=true
                              · rw[ah c10]at h1
                                injection h1 with h1;injection h1 with h1;injection h1 with h3 h4;injection h4 with h4 h5;subst h5;exact fB.refl _
                              · rw[ag c10]at h1;exact(i4 _ _ _ _ _ _ _ _ h1).less (by omega)
                             by_cases d2:ax ⟨#[41]⟩ s=true
                             · rw[ah d2]at h2
                               injection h2 with h2;injection h2 with h2;injection h2 with h3 h4;injection h4 with h4 h5;subst h3;subst h4;subst h5;exact⟨((((fB.sign d2).trans k1).trans (fB.sign c9)).trans (fB.head (show t.kind≠0 by omega))).less (by omega),by rw[av];simp;omega,by rw[av];simp⟩
                             · rw[ag d2]at h2;cases h2
                       · rw[ag c9]at h;cases h
                 · rw[ag c6]at h;cases h
   · intro deep base ns ks ts ns' ks' r h
     rw[o8]at h;rcases eG h with ⟨e,_,h2⟩|⟨ms,b,s,h1,h2⟩
     · cases h2
     · obtain ⟨k1,k2,k3⟩:=i1 _ _ _ _ _ _ _ h1
       by_cases d:ax ⟨#[44]⟩ s=true
       · rw[ah d]at h2
         exact(((i4 _ _ _ _ _ _ _ _ h2).trans (fB.sign d)).trans k1).less (by omega)
       · rw[ag d]at h2
         injection h2 with h2;injection h2 with h2;injection h2 with h3 h4;injection h4 with h4 h5;subst h5;exact k1
def vX(n:Nat)(ts:List ai):Prop:=∀deep base,∃f y,eU f n deep base ts=some y
def I9(ts:List ai):Prop:=∀n deep base ns a,∃f y,iJ f n deep base ns a ts=some y
def Fp(ts:List ai):Prop:=∀deep base,∃f y,jB f deep base ts=some y
def I8(ts:List ai):Prop:=∀deep base ns ks,∃f y,ib f deep base ns ks ts=some y
theorem ZL (t : ai)(ts:List ai)(h0:vX 0 ts)(ha:I8 ts.tail):Fp (t :: ts):=by
 intro deep base;obtain⟨f1,y1,e1⟩:=h0 (deep+1) base;obtain⟨f2,y2,e2⟩:=ha (deep+1) base [] [];refine⟨f1+f2+1, ?_⟩;rw[lX,xK (g:=f1+f2) (by omega) e1,F8 (g:=f1+f2) (by omega) e2];by_cases c1:ax ⟨#[40]⟩ (t :: ts)=true
 · rw [ah c1]
   by_cases d:12≤deep
   · rw[ah d];exact⟨_,rfl⟩
   · rw [ag d]
     cases y1 with
     | error e=>exact⟨_,rfl⟩
     | ok q =>
       obtain⟨ns,a,r⟩:=q;show ∃y,(if ax ⟨#[41]⟩ r=true then _ else _)=some y;by_cases d2:ax ⟨#[41]⟩ r=true
       · rw[ah d2];exact⟨_,rfl⟩
       · rw[ag d2];exact⟨_,rfl⟩
 · rw [ag c1]
   by_cases c2:t.kind=1
   · rw[ah c2];exact⟨_,rfl⟩
   · rw [ag c2]
     by_cases c3:t.kind=2
     · rw[ah c3];exact⟨_,rfl⟩
     · rw [ag c3]
       by_cases c4:t.kind=6
       · rw[ah c4];exact⟨_,rfl⟩
       · rw [ag c4]
         by_cases c5:t.kind=4
         · rw[ah c5];exact⟨_,rfl⟩
         · rw [ag c5]
           by_cases c6:t.kind=3
           · rw [ah c6]
             by_cases c7:t.text=⟨#[84,82,85,69]⟩
             · rw[ah c7];exact⟨_,rfl⟩
             · rw [ag c7]
               by_cases c8:t.text=⟨#[70,65,76,83,69]⟩
               · rw[ah c8];exact⟨_,rfl⟩
               · rw [ag c8]
                 by_cases c9:ax ⟨#[40]⟩ ts=true
                 · rw [ah c9]
                   by_cases d:12≤deep
                   · rw[ah d];exact⟨_,rfl⟩
                   · rw [ag d]
                     have fin:∀z:Args,∃y,iW (some z) (fun ns ks r=>if ax ⟨#[41]⟩ r=true then some (.ok (ns++[{ Nd.zero with kind:=7,text:=t.text,kids:=ks }],base+ns.length,r.tail))else some (.error 5))=some (y:eQ):=by
                      intro z;cases z with
                      | error e=>exact⟨_,rfl⟩
                      | ok q =>
                        obtain⟨ns,ks,r⟩:=q;show ∃y,(if ax ⟨#[41]⟩ r=true then _ else _)=some y;by_cases d2:ax ⟨#[41]⟩ r=true
                        · rw[ah d2];exact⟨_,rfl⟩
                        · rw[ag d2];exact⟨_,rfl⟩
                     by_cases c10:ax ⟨#[41]⟩ ts.tail=true
                     · rw[ah c10];exact fin _
                     · rw[ag c10];exact fin _
                 · rw[ag c9];exact⟨_,rfl⟩
           · rw[ag c6];exact⟨_,rfl⟩
theorem Qp (ts:List ai)(h4:ax ⟨#[45]⟩ ts=true→vX 4 ts.tail)(hp:Fp ts)(n:Nat)(hn:3<n):vX n ts:=by
 intro deep base;by_cases d:ax ⟨#[45]⟩ ts=true
 · obtain ⟨f1,y1,e1⟩:=h4 d (deep+1) base
   refine⟨f1+1, ?_⟩;rw[lQ,ag (by omega),ah d,e1];by_cases c:12≤deep
   · rw[ah c];exact⟨_,rfl⟩
   · rw[ag c];cases y1 with
     | error e=>exact⟨_,rfl⟩
     | ok q=>exact⟨_,rfl⟩
 · obtain⟨f1,y1,e1⟩:=hp deep base
   refine⟨f1+1,y1, ?_⟩;rw[lQ,ag (by omega),ag d,e1]
theorem Qo (m:Nat)(hE:∀n ts,ts.length<m→vX n ts):∀(k:Nat)(ts:List ai),ts.length≤k→k≤m→I9 ts
 | k, ts, hk,hm=>by
   intro n deep base ns a;by_cases c:fC n ts=0
   · exact⟨1,_,by rw[qB,ah c]⟩
   · have hs:=(fB.op c).len
     obtain⟨f1,y1,e1⟩:=hE (n+1) ts.tail (by omega) deep (base+ns.length);cases y1 with
     | error e=>exact⟨f1+1,.error e,by rw[qB,ag c,e1];rfl⟩
     | ok q =>
       obtain⟨ms,b,r⟩:=q;have hr:=((vQ f1).1 _ _ _ _ _ _ _ e1).1.len
       match k,hk with
       | k+1,hk =>
         obtain⟨f2,y2,e2⟩:=Qo m hE k r (by omega) (by omega) n deep base (ns++(ms++[{ Nd.zero with kind:=fC n ts,kids:=[(a:Int),(b:Int)] }])) (base+(ns.length+ms.length));refine⟨f1+f2+1,y2, ?_⟩;rw[qB,ag c,xK (g:=f1+f2) (by omega) e1];exact ET (by omega) e2
       | 0,hk=>omega
theorem KG (m:Nat)(ts:List ai)(hR:∀r:List ai,r.length<ts.length→I9 r)(h4:vX 4 ts):∀j n:Nat,n+j=4→vX n ts
 | 0, n, h => by obtain rfl:n=4:=by omega
                 exact h4
 | j + 1,n,h=>by
   intro deep base;obtain⟨f1,y1,e1⟩:=KG m ts hR h4 j (n+1) (by omega) deep base;cases y1 with
   | error e=>exact⟨f1+1,.error e,by rw[lQ,ah (by omega),e1];rfl⟩
   | ok q =>
     obtain⟨ns,a,r⟩:=q;have hr:=((vQ f1).1 _ _ _ _ _ _ _ e1).1.len;obtain⟨f2,y2,e2⟩:=hR r (by omega) n deep base ns a;refine⟨f1+f2+1,y2, ?_⟩;rw[lQ,ah (by omega),xK (g:=f1+f2) (by omega) e1];exact ET (by omega) e2
theorem Qn (m:Nat)(hE:∀ts:List ai,ts.length≤m→vX 0 ts):∀(k:Nat)(ts:List ai),ts.length≤k→k≤m→I8 ts
 | k, ts, hk,hm=>by
   intro deep base ns ks;obtain⟨f1,y1,e1⟩:=hE ts (by omega) deep (base+ns.length);cases y1 with
   | error e=>exact⟨f1+1,.error e,by rw[o8,e1];rfl⟩
   | ok q =>
     obtain⟨ms,a,r⟩:=q;have hr:=((vQ f1).1 _ _ _ _ _ _ _ e1).1.len;by_cases d:ax ⟨#[44]⟩ r=true
     · match k,hk with
       | 0,hk=>omega
       | k+1,hk =>
         obtain⟨f2,y2,e2⟩:=Qn m hE k r.tail (by have:=(fB.sign d).len;omega) (by omega) deep base (ns++ms) (ks++[(a:Int)]);refine⟨f1+f2+1,y2, ?_⟩;rw[o8,xK (g:=f1+f2) (by omega) e1];show(if ax ⟨#[44]⟩ r=true then _ else _)=_;rw[ah d];exact F8 (by omega) e2
     · refine⟨f1+1,.ok (ns++ms,ks++[(a:Int)],r), ?_⟩
       rw[o8,e1];show(if ax ⟨#[44]⟩ r=true then _ else _)=_;rw[ag d]
theorem ZK:∀m:Nat,∀ts:List ai,ts.length≤m→∀n:Nat,vX n ts:=by
 intro m
 induction m with
 | zero =>
   intro ts h;have e:ts=[]:=kV (by omega);subst e;have hp:Fp []:=fun deep base=>⟨1,_,zz 0 deep base⟩
   have h4:∀n,3<n→vX n []:=fun n hn=>Qp [] (fun h=>by simp[ax]at h) hp n hn
   intro n;by_cases c:n≤3
   · exact KG 0 [] (fun r hr=>by simp at hr) (h4 4 (by omega)) (4 - n) n (by omega)
   · exact h4 n (by omega)
 | succ m ih =>
   intro ts h;by_cases hs:ts.length≤m
   · exact ih ts hs
   · have hR:∀r:List ai,r.length<ts.length→I9 r:=fun r hr=>Qo (m+1) (fun n ts' h'=>ih ts' (by omega) n) m r (by omega) (by omega)
     have hA:∀r:List ai,r.length≤m→I8 r:=fun r hr=>Qn m (fun ts' h'=>ih ts' h' 0) m r hr (aj _)
     cases ts with
     | nil=>simp at hs
     | cons t ts =>
       simp only[aX]at h hs;have hp:Fp (t :: ts):=ZL t ts (ih ts (by omega) 0) (hA ts.tail (by rw[List.length_tail];omega));have h4:∀n,3<n→vX n (t :: ts):=fun n hn=>Qp (t :: ts) (fun _=>ih ts (by omega) 4) hp n hn
       intro n;by_cases c:n≤3
       · exact KG 0 (t :: ts) hR (h4 4 (by omega)) (4 - n) n (by omega)
       · exact h4 n (by omega)
theorem aeB (ts:List ai):∃f y,lW f ts=some y:=by
 obtain⟨f,y,h⟩:=ZK _ ts (aj _) 0 0 0;refine⟨f, ?_⟩;unfold lW;rw[h];cases y with
 | error e=>exact⟨_,rfl⟩
 | ok q =>
   obtain⟨ns,a,r⟩:=q;show ∃y,(if uo r=0 then _ else _)=some y;by_cases c:uo r=0
   · rw[ah c];exact⟨_,rfl⟩
   · rw[ag c];exact⟨_,rfl⟩
def fO(r:bL):Bool:=decide (r.sh=⟨#[]⟩∧r.c=0∧r.r=0)&&(!r.ac && !r.ar)
def bQ(r:bL):Bool:=cK (sb r.sh) r.c r.r
def mF(l:List Int):Bool:=decide (∀x∈l,¬ x<32)
def j4(s:ByteArray):Bool:=jI (sb s)&&((iw s).isNone&&(decide (¬ s=⟨#[84,82,85,69]⟩)&&decide (¬ s=⟨#[70,65,76,83,69]⟩)))
def jQ(k:Int):Int:=if 1≤k∧k≤6 then 0 else if k=7 then -1 else if k=8 then 1 else if 9≤k∧k≤19 then 2 else -2
def aH (n:Nd):Bool :=
 if (n.kind≠1∧n.kind≠3∧n.num≠0)∨(n.kind≠2∧n.kind≠7∧n.text≠⟨#[]⟩)∨(n.kind≠5∧n.kind≠6∧fO n.ref=false)∨(n.kind≠6∧fO n.af=false)then false
 else if n.kind=1 then decide (0≤n.num)
 else if n.kind=3 then decide (n.num=0∨n.num=1)
 else if n.kind=2 then mF (sb n.text)
 else if n.kind=7 then j4 n.text
 else if n.kind=5 then bQ n.ref
 else if n.kind=6 then bQ n.ref&&(bQ n.af&&fu n.ref n.af)
 else true
def dm(n:Nd):Bool:=aH n&&(decide (jQ n.kind = -1)||decide (jQ n.kind=n.kids.length))
def nM:List Int→Nat→List Nd→Bool
 | st,_,[]=>decide (st.length=1)
 | st,i,n :: ns=>dm n&&(decide (n.kids.length≤st.length)&&(decide (st.drop (st.length - n.kids.length)=n.kids)&&nM (st.take (st.length - n.kids.length)++[(i:Int)]) (i+1) ns))
theorem nN(st:List Int)(i:Nat)(n:Nd)(ns:List Nd):nM st i (n :: ns)=(dm n&&(decide (n.kids.length≤st.length)&&(decide (st.drop (st.length - n.kids.length)=n.kids)&&nM (st.take (st.length - n.kids.length)++[(i:Int)]) (i+1) ns))):=rfl
def cO(l:List Nd):Bool:=nM [] 0 l
def gT(base:Nat)(ns:List Nd)(ks:List Int):Prop:=∀st rest,nM st base (ns++rest)=nM (st++ks) (base+ns.length) rest
theorem gT.nil(base:Nat):gT base [] []:=fun st rest=>by simp
theorem gT.app {ns ms:List Nd}{js:List Int}(h:gT base ns ks)(g:gT (base+ns.length) ms js):gT base (ns++ms) (ks++js):=by
 intro st rest;rw[bN,h,g,bN,av,Nat.add_assoc]
theorem gT.node {ns:List Nd}{n:Nd}(h:gT base ns n.kids)(hn:dm n=true):gT base (ns++[n]) [((base+ns.length:Nat):Int)]:=by
 intro st rest;rw[bN,h];show nM (st++n.kids) (base+ns.length) (n :: rest)=_;rw[nN];have e1:(st++n.kids).length - n.kids.length=st.length:=by rw[av];omega
 rw[hn,e1,List.drop_left,List.take_left,aQ (show n.kids.length≤(st++n.kids).length by rw[av];omega),aQ rfl,gL,gL,gL,av];rfl
structure Oc (t:ai):Prop where
 num:t.kind=1→0≤t.num
 text:t.kind=2→mF (sb t.text)=true
 name:t.kind=3→jI (sb t.text)=true∧(iw t.text).isNone=true
 ref:t.kind=4→bQ t.bR=true
def Good(ts:List ai):Prop:=∀t∈ts,Oc t
theorem Good.tail{ts:List ai}(h:Good ts):Good ts.tail:=fun t ht=>h t (List.mem_of_mem_tail ht)
theorem Good.Ny {r ts:List ai}(h:Good ts)(hs:fB m r ts):Good r:=by
 obtain⟨p,rfl,_,_⟩:=hs;exact fun t ht=>h t (List.mem_append_right _ ht)
theorem yh:fO bL.zero=true:=by decide
theorem aei {ts:List ai}(h:fC n ts≠0):9≤fC n ts∧fC n ts≤19:=by
 obtain⟨p,hp,_,e⟩:=EH h;rw[e]
 match n with
 | 0=>simp[gp]at hp;rcases hp with rfl|rfl|rfl|rfl|rfl|rfl <;> decide
 | 1=>simp[gp]at hp;subst hp;decide
 | 2=>simp[gp]at hp;rcases hp with rfl|rfl <;> decide
 | n+3=>simp[gp]at hp;rcases hp with rfl|rfl <;> decide
theorem Mq {k a b:Int}(h:9≤k∧k≤19):dm { Nd.zero with kind:=k,kids:=[a,b] }=true:=by
 unfold dm
 have h1:aH { Nd.zero with kind:=k,kids:=[a,b] }=true:=by
  unfold aH
  rw [ag (by
   rintro(⟨_,_,h⟩|⟨_,_,h⟩|⟨_,_,h⟩|⟨_,h⟩)
   · exact h rfl
   · exact h rfl
   · rw[show fO ({ Nd.zero with kind:=k,kids:=[a,b] }:Nd).ref=true from yh]at h;cases h
   · rw[show fO ({ Nd.zero with kind:=k,kids:=[a,b] }:Nd).af=true from yh]at h;cases h),ag (by show ¬ k=1;omega),ag (by show ¬ k=3;omega),ag (by show ¬ k=2;omega),ag (by show ¬ k=7;omega),ag (by show ¬ k=5;omega),ag (by show ¬ k=6;omega)]
 have h2:jQ k=2:=by unfold jQ;rw[ag (by omega),ag (by omega),ag (by omega),ah h]
 rw[h1,gL,Bool.or_eq_true]
 right
 rw[aK];exact h2
theorem TN (a:Int):dm { Nd.zero with kind:=8,kids:=[a] }=true:=by
 unfold dm aH;rfl
theorem TP {n:Int}(h:0≤n):dm { Nd.zero with kind:=1,num:=n }=true:=by
 unfold dm
 have h1:aH { Nd.zero with kind:=1,num:=n }=true:=by
  unfold aH
  rw [ag (by
   rintro(⟨h,_⟩|⟨_,_,h⟩|⟨_,_,h⟩|⟨_,h⟩)
   · exact h rfl
   · exact h rfl
   · rw[show fO ({ Nd.zero with kind:=1,num:=n }:Nd).ref=true from yh]at h;cases h
   · rw[show fO ({ Nd.zero with kind:=1,num:=n }:Nd).af=true from yh]at h;cases h),ah rfl]
  exact aQ h
 rw[h1];rfl
theorem TQ (h:mF (sb s)=true):dm { Nd.zero with kind:=2,text:=s }=true:=by
 unfold dm
 have h1:aH { Nd.zero with kind:=2,text:=s }=true:=by
  unfold aH
  rw [ag (by
   rintro(⟨_,_,h⟩|⟨h,_⟩|⟨_,_,h⟩|⟨_,h⟩)
   · exact h rfl
   · exact h rfl
   · rw[show fO ({ Nd.zero with kind:=2,text:=s }:Nd).ref=true from yh]at h;cases h
   · rw[show fO ({ Nd.zero with kind:=2,text:=s }:Nd).af=true from yh]at h;cases h),ag (by show ¬ (2:Int)=1;omega),ag (by show ¬ (2:Int)=3;omega),ah rfl]
  exact h
 rw[h1];rfl
theorem TM (h:j4 s=true):dm { Nd.zero with kind:=7,text:=s,kids:=ks }=true:=by
 unfold dm
 have h1:aH { Nd.zero with kind:=7,text:=s,kids:=ks }=true:=by
  unfold aH
  rw [ag (by
   rintro(⟨_,_,h⟩|⟨_,h,_⟩|⟨_,_,h⟩|⟨_,h⟩)
   · exact h rfl
   · exact h rfl
   · rw[show fO ({ Nd.zero with kind:=7,text:=s,kids:=ks }:Nd).ref=true from yh]at h;cases h
   · rw[show fO ({ Nd.zero with kind:=7,text:=s,kids:=ks }:Nd).af=true from yh]at h;cases h),ag (by show ¬ (7:Int)=1;omega),ag (by show ¬ (7:Int)=3;omega),ag (by show ¬ (7:Int)=2;omega),ah rfl]
  exact h
 rw[h1];rfl
theorem Ms {r:bL}(h:bQ r=true):dm { Nd.zero with kind:=5,ref:=r }=true:=by
 unfold dm
 have h1:aH { Nd.zero with kind:=5,ref:=r }=true:=by
  unfold aH
  rw [ag (by
   rintro(⟨_,_,h⟩|⟨_,_,h⟩|⟨h,_⟩|⟨_,h⟩)
   · exact h rfl
   · exact h rfl
   · exact h rfl
   · rw[show fO ({ Nd.zero with kind:=5,ref:=r }:Nd).af=true from yh]at h;cases h),ag (by show ¬ (5:Int)=1;omega),ag (by show ¬ (5:Int)=3;omega),ag (by show ¬ (5:Int)=2;omega),ag (by show ¬ (5:Int)=7;omega),ah rfl]
  exact h
 rw[h1];rfl
theorem Mr {r t:bL}(h:bQ r=true)(g:bQ t=true)(hs:fu r t=true):dm { Nd.zero with kind:=6,ref:=r,af:=t }=true:=by
 unfold dm
 have h1:aH { Nd.zero with kind:=6,ref:=r,af:=t }=true:=by
  unfold aH
  rw [ag (by
   rintro(⟨_,_,h⟩|⟨_,_,h⟩|⟨_,h,_⟩|⟨h,_⟩)
   · exact h rfl
   · exact h rfl
   · exact h rfl
   · exact h rfl),ag (by show ¬ (6:Int)=1;omega),ag (by show ¬ (6:Int)=3;omega),ag (by show ¬ (6:Int)=2;omega),ag (by show ¬ (6:Int)=7;omega),ag (by show ¬ (6:Int)=5;omega),ah rfl]
  show(bQ r&&(bQ t&&fu r t))=true;rw[h,g,hs];rfl
 rw[h1];rfl
theorem gT.leaf {n:Nd}(hk:n.kids=[])(hn:dm n=true):gT base [n] [(base:Int)]:=by
 have h:=gT.node (base:=base) (ns:=[]) (n:=n) (by rw[hk];exact gT.nil base) hn;exact h
theorem afs {t:ai}{ts:List ai}{ns:List Nd}{a:Nat}{r:List ai}(h:jJ base t ts = .ok (ns,a,r))(ht:bQ t.bR=true)(hg:Good ts):gT base ns [(a:Int)]:=by
 unfold jJ at h;by_cases c:ax ⟨#[58]⟩ ts=true
 · rw [ah c]at h
   cases hq:ts.tail with
   | nil=>rw[hq]at h;cases h
   | cons u us =>
     rw[hq]at h;simp only at h;by_cases d:u.kind=4∧fu t.bR u.bR=true
     · rw[ah d]at h
       injection h with h;injection h with h1 h2;injection h2 with h2 h3;subst h1;subst h2;have hu:=(hg u (List.mem_of_mem_tail (by rw[hq];simp))).ref d.1;exact gT.leaf rfl (Mr ht hu d.2)
     · rw[ag d]at h;cases h
 · rw[ag c]at h
   injection h with h;injection h with h1 h2;injection h2 with h2 h3;subst h1;subst h2;exact gT.leaf rfl (Ms ht)
theorem VW : ∀ f : Nat, (∀n deep base ts ns a r,eU f n deep base ts=some (.ok (ns,a,r))→Good ts→gT base ns [(a:Int)]) ∧
 (∀n deep base ns a ts ns' a' r,iJ f n deep base ns a ts=some (.ok (ns',a',r))→Good ts→gT base ns [(a:Int)]→gT base ns' [(a':Int)]) ∧
 (∀deep base ts ns a r,jB f deep base ts=some (.ok (ns,a,r))→Good ts→gT base ns [(a:Int)]) ∧
 (∀deep base ns ks ts ns' ks' r,ib f deep base ns ks ts=some (.ok (ns',ks',r))→Good ts→gT base ns ks→gT base ns' ks')
 | 0=>by
   refine⟨?_, ?_, ?_, ?_⟩
   · intro n deep base ts ns a r h;unfold eU at h;cases h
   · intro n deep base ns a ts ns' a' r h;unfold iJ at h;cases h
   · intro deep base ts ns a r h;unfold jB at h;cases h
   · intro deep base ns ks ts ns' ks' r h;unfold ib at h;cases h
 | f + 1 => by
   obtain⟨i1,i2,i3,i4⟩:=VW f;refine⟨?_, ?_, ?_, ?_⟩
   · intro n deep base ts ns a r h hg
     rw[lQ]at h;by_cases c:n≤3
     · rw[ah c]at h
       rcases eG h with ⟨e,_,h2⟩|⟨ms,b,s,h1,h2⟩
       · cases h2
       · exact i2 _ _ _ _ _ _ _ _ _ h2 (hg.Ny ((vQ f).1 _ _ _ _ _ _ _ h1).1) (i1 _ _ _ _ _ _ _ h1 hg)
     · rw [ag c]at h
       by_cases d:ax ⟨#[45]⟩ ts=true
       · rw [ah d]at h
         by_cases d2:12≤deep
         · rw[ah d2]at h;cases h
         · rw [ag d2]at h
           rcases eG h with ⟨e,_,h2⟩|⟨ms,b,s,h1,h2⟩
           · cases h2
           · injection h2 with h2;injection h2 with h2;injection h2 with h3 h4;injection h4 with h4 h5
             subst h3;subst h4;exact gT.node (n:={ Nd.zero with kind:=8,kids:=[(b:Int)] }) (i1 _ _ _ _ _ _ _ h1 hg.tail) (TN _)
       · rw[ag d]at h;exact i3 _ _ _ _ _ _ h hg
   · intro n deep base ns a ts ns' a' r h hg hp
     rw[qB]at h;by_cases c:fC n ts=0
     · rw[ah c]at h
       injection h with h;injection h with h;injection h with h1 h2;injection h2 with h2 h3;subst h1;subst h2;exact hp
     · rw [ag c]at h
       rcases eG h with ⟨e,_,h2⟩|⟨ms,b,s,h1,h2⟩
       · cases h2
       · have p2:=i1 _ _ _ _ _ _ _ h1 hg.tail
         have p3:=gT.node (n:={ Nd.zero with kind:=fC n ts,kids:=[(a:Int),(b:Int)] }) (gT.app hp p2) (Mq (aei c));rw[bN,av]at p3;exact i2 _ _ _ _ _ _ _ _ _ h2 (hg.tail.Ny ((vQ f).1 _ _ _ _ _ _ _ h1).1) p3
   · intro deep base ts ns a r h hg
     cases ts with
     | nil=>rw[zz]at h;cases h
     | cons t ts =>
       have ht:=hg t (by simp);have hgs:Good ts:=fun x hx=>hg x (by simp[hx])
       have leaf:∀(x:Nd),x.kids=[]→dm x=true→(some (.ok ([x],base,ts)):Option eQ)=some (.ok (ns,a,r))→gT base ns [(a:Int)]:=by
        intro x hk hn h;injection h with h;injection h with h;injection h with h1 h2;injection h2 with h2 h3;subst h1;subst h2;exact gT.leaf hk hn
       rw[lX]at h;by_cases c1:ax ⟨#[40]⟩ (t :: ts)=true
       · rw [ah c1]at h
         by_cases d:12≤deep
         · rw[ah d]at h;cases h
         · rw [ag d]at h
           rcases eG h with ⟨e,_,h2⟩|⟨ms,b,s,h1,h2⟩
           · cases h2
           · by_cases d2:ax ⟨#[41]⟩ s=true
             · rw[ah d2]at h2
               injection h2 with h2;injection h2 with h2;injection h2 with h3 h4;injection h4 with h4 h5;subst h3;subst h4;exact i1 _ _ _ _ _ _ _ h1 hgs
             · rw[ag d2]at h2;cases h2
       · rw [ag c1] at h
         by_cases c2:t.kind=1
         · rw[ah c2]at h;exact leaf { Nd.zero with kind:=1,num:=t.num } rfl (TP (ht.num c2)) h
         · rw [ag c2] at h
           by_cases c3:t.kind=2
           · rw[ah c3]at h;exact leaf { Nd.zero with kind:=2,text:=t.text } rfl (TQ (ht.text c3)) h
           · rw [ag c3] at h
             by_cases c4:t.kind=6
             · rw[ah c4]at h;exact leaf { Nd.zero with kind:=4 } rfl rfl h
             · rw [ag c4] at h
               by_cases c5:t.kind=4
               · rw[ah c5]at h
                 injection h with h;exact afs h (ht.ref c5) hgs
               · rw [ag c5] at h
                 by_cases c6:t.kind=3
                 · rw [ah c6] at h
                   by_cases c7:t.text=⟨#[84,82,85,69]⟩
                   · rw[ah c7]at h;exact leaf { Nd.zero with kind:=3,num:=1 } rfl rfl h
                   · rw [ag c7]at h
                     by_cases c8:t.text=⟨#[70,65,76,83,69]⟩
                     · rw[ah c8]at h;exact leaf { Nd.zero with kind:=3 } rfl rfl h
                     · rw [ag c8]at h
                       by_cases c9:ax ⟨#[40]⟩ ts=true
                       · rw [ah c9]at h
                         by_cases d:12≤deep
                         · rw[ah d]at h;cases h
                         · rw [ag d]at h
                           rcases eG h with ⟨e,_,h2⟩|⟨ms,ks,s,h1,h2⟩
                           · cases h2
                           · have k1:gT base ms ks:=by
                              by_cases c10:ax ⟨#[41]⟩ ts.tail=true
                              · rw[ah c10]at h1
                                injection h1 with h1;injection h1 with h1;injection h1 with h3 h4;injection h4 with h4 h5;subst h3;subst h4;exact gT.nil _
                              · rw[ag c10]at h1;exact i4 _ _ _ _ _ _ _ _ h1 hgs.tail (gT.nil _)
                             by_cases d2:ax ⟨#[41]⟩ s=true
                             · rw [ah d2]at h2
                               injection h2 with h2;injection h2 with h2;injection h2 with h3 h4;injection h4 with h4 h5;subst h3;subst h4
                               have hcb:j4 t.text=true:=by
                                unfold j4;rw[(ht.name c6).1,(ht.name c6).2,aQ c7,aQ c8];rfl
                               exact gT.node (n:={ Nd.zero with kind:=7,text:=t.text,kids:=ks }) k1 (TM hcb)
                             · rw[ag d2]at h2;cases h2
                       · rw[ag c9]at h;cases h
                 · rw[ag c6]at h;cases h
   · intro deep base ns ks ts ns' ks' r h hg hp
     rw[o8]at h;rcases eG h with ⟨e,_,h2⟩|⟨ms,b,s,h1,h2⟩
     · cases h2
     · have p2:=gT.app hp (i1 _ _ _ _ _ _ _ h1 hg)
       have hgs:=hg.Ny ((vQ f).1 _ _ _ _ _ _ _ h1).1;by_cases d:ax ⟨#[44]⟩ s=true
       · rw[ah d]at h2
         exact i4 _ _ _ _ _ _ _ _ h2 hgs.tail p2
       · rw[ag d]at h2
         injection h2 with h2;injection h2 with h2;injection h2 with h3 h4;injection h4 with h4 h5;subst h3;subst h4;exact p2
theorem Uf {ts:List ai}{ns:List Nd}(h:lW f ts=some (.ok ns))(hg:Good ts):cO ns=true:=by
 unfold lW at h;rcases eG h with ⟨e,_,h2⟩|⟨ms,b,s,h1,h2⟩
 · cases h2
 · have hp:=(VW f).1 _ _ _ _ _ _ _ h1 hg
   by_cases c:uo s=0
   · rw[ah c]at h2
     injection h2 with h2;injection h2 with h2;subst h2;have:=hp [] [];rw[fF]at this;unfold cO;rw[this];rfl
   · rw[ag c]at h2;cases h2
end Go.Proofs.YtaobhjliflomaaaGreatDoor
namespace Go.Proofs.YtaobhjliflomaaaGreatDoor
def Ip:Int→Int→List Int→Bool
 | _,_,[]=>true
 | last,nw,x :: l=>if x = -1 then Ip last nw l else decide (last<x)&&(decide (x<nw)&&Ip x nw l)
def bH(xs:List Int)(nw i:Int):Int:=if i<0 then -1 else if i<(xs.length:Int)then xs.getD i.toNat 0 else i - xs.length+nw
def gu(n:Nat):List Int:=(List.range n).map fun (i:Nat)=>(i:Int)
def eX(n:Nat)(at_:Int):List Int:=(List.range n).map fun (i:Nat)=>if (i:Int)<at_ then (i:Int)else (i:Int)+1
def jw(xs:List Int)(i:Nat):Bool:=decide (xs[i]? = some (-1))
def jS (xs:List Int):Nat→Nat→Nat
 | 0,lo=>lo
 | n+1,lo=>if jw xs lo=true then jS xs n (lo+1)else lo
def mO (xs:List Int):Nat→Nat→Nat
 | 0,hi=>hi
 | n+1,hi=>if jw xs hi=true then mO xs n (hi - 1)else hi
def iR (xs:List Int)(nw lo hi:Int):Int × Int × Bool :=
 if lo<0∨hi<lo then (0,0,false)
 else if hi<(jS xs (hi+1 - lo).toNat lo.toNat:Int)then (0,0,false)
 else (bH xs nw (jS xs (hi+1 - lo).toNat lo.toNat),bH xs nw (mO xs (hi.toNat - jS xs (hi+1 - lo).toNat lo.toNat) hi.toNat),true)
theorem LB(xs:List Int)(nw i:Int)(h:i<0):bH xs nw i = -1:=by unfold bH;rw[ah h]
theorem uj (xs:List Int)(nw:Int)(i:Nat)(h:i<xs.length):bH xs nw (i:Int)=xs.getD i 0:=by
 unfold bH;rw[ag (by omega),ah (by omega)];rfl
theorem wP (xs:List Int)(nw i:Int)(h0:0≤i)(h:(xs.length:Int)≤i):bH xs nw i=i - xs.length+nw:=by
 unfold bH;rw[ag (by omega),ag (by omega)]
def yQ (last nw:Int)(xs:List Int):Prop :=
 (∀(i:Nat)(x:Int),xs[i]? = some x→x ≠ -1→last<x∧x<nw)∧(∀(i j:Nat)(x y:Int),i<j→xs[i]? = some x→xs[j]? = some y→x ≠ -1→y ≠ -1→x<y)
theorem Iq:∀(xs:List Int)(last nw:Int),Ip last nw xs=true→yQ last nw xs
 | [],_,_,_=>⟨fun i x h=>by simp at h,fun i j x y _ h=>by simp at h⟩
 | a :: l,last,nw,h=>by
   unfold Ip at h;split at h
   · rename_i ha
     obtain⟨h1,h2⟩:=Iq l last nw h;refine⟨fun i x hx hn => ?_,fun i j x y hij hx hy hnx hny => ?_⟩
     · cases i with
       | zero=>simp at hx;exact absurd (hx.symm.trans ha) hn
       | succ i=>exact h1 i x (by simpa using hx) hn
     · cases i with
       | zero=>simp at hx;exact absurd (hx.symm.trans ha) hnx
       | succ i =>
         cases j with
         | zero=>omega
         | succ j=>exact h2 i j x y (by omega) (by simpa using hx) (by simpa using hy) hnx hny
   · rename_i ha
     simp only[dH,decide_eq_true_eq]at h;obtain⟨h0,h0',h⟩:=h;obtain⟨h1,h2⟩:=Iq l a nw h;refine⟨fun i x hx hn => ?_,fun i j x y hij hx hy hnx hny => ?_⟩
     · cases i with
       | zero=>simp at hx;subst hx;exact⟨h0,h0'⟩
       | succ i=>have:=h1 i x (by simpa using hx) hn;omega
     · cases j with
       | zero=>omega
       | succ j =>
         cases i with
         | zero=>simp at hx;subst hx;exact(h1 j y (by simpa using hy) hny).1
         | succ i=>exact h2 i j x y (by omega) (by simpa using hx) (by simpa using hy) hnx hny
theorem getD_some (xs:List Int)(i:Nat)(h:i<xs.length):xs[i]? = some (xs.getD i 0):=by
 rw[jL,dL h];rfl
theorem afV {last nw:Int}{xs:List Int}(h:yQ last nw xs)(i:Nat)(hi:i<xs.length):xs.getD i 0 = -1∨(last<xs.getD i 0∧xs.getD i 0<nw):=by
 by_cases hx:xs.getD i 0 = -1
 · exact .inl hx
 · exact .inr (h.1 i _ (getD_some xs i hi) hx)
end Go.Proofs.YtaobhjliflomaaaGreatDoor
namespace Go.Proofs.YtaobhjliflomaaaGreatDoor
theorem zk(n:Nat):(gu n).length=n:=by simp[gu]
theorem agl (n j:Nat)(h:j<n):(gu n).getD j 0=(j:Int):=by
 unfold gu;rw[jL,gN,List.getElem?_range h];rfl
theorem KN (xs:List Int):∀(n lo:Nat),lo≤jS xs n lo∧jS xs n lo≤lo+n
 | 0,lo=>⟨aj _,aj _⟩
 | n+1,lo=>by
   unfold jS;split
   · have:=KN xs n (lo+1);omega
   · omega
theorem Sr (xs:List Int):∀(n hi:Nat),mO xs n hi≤hi
 | 0,_=>aj _
 | n+1,hi=>by
   unfold mO;split
   · have:=Sr xs n (hi - 1);omega
   · exact aj _
theorem abI {xs:List Int}{nw:Int}(h:yQ (-1) nw xs)(h0:0≤nw)(i:Nat):(bH xs nw (i:Int)<0)↔jw xs i=true:=by
 unfold jw;rw[decide_eq_true_eq];by_cases hi:i<xs.length
 · rw [uj _ _ _ hi,getD_some xs i hi]
   constructor
   · intro hn
     rcases afV h i hi with h1|h1
     · rw[h1]
     · omega
   · intro e;have:=dU e;omega
 · rw[wP _ _ _ (by omega) (by omega),List.getElem?_eq_none (by omega)]
   constructor
   · intro hn;omega
   · intro e;cases e
end Go.Proofs.YtaobhjliflomaaaGreatDoor
namespace Go.Proofs.YtaobhjliflomaaaGreatDoor
open Go.RowKit
structure Sf where
 sh:ByteArray
 gone:Bool
 rx:List Int
 rn:Int
 cx:List Int
 cn:Int
def Am:Nd:={ Nd.zero with kind:=4 }
def bL.goto(f:bL)(r c:Int):bL:={ f with r:=r,c:=c }
def qA(n:Nd)(s:Sf):Nd:={ n with ref:=n.ref.goto (bH s.rx s.rn n.ref.r) (bH s.cx s.cn n.ref.c) }
def Nd.nD(n:Nd)(r c r2 c2:Int):Nd:={ n with ref:=n.ref.goto r c,af:=n.af.goto r2 c2 }
def kG (n:Nd)(s:Sf):Nd :=
 let a:=iR s.rx s.rn n.ref.r n.af.r
 let b:=iR s.cx s.cn n.ref.c n.af.c
 n.nD a.1 b.1 a.2.1 b.2.1
def vO(n:Nd)(s:Sf):Bool:=(iR s.rx s.rn n.ref.r n.af.r).2.2&&(iR s.cx s.cn n.ref.c n.af.c).2.2
def jP (n:Nd)(s:Sf):Nd × Bool :=
 if s.gone=true then (Nd.zero,false)
 else if n.kind=6 then (kG n s,vO n s&&bQ (kG n s).af)
 else (qA n s,bQ (qA n s).ref)
def qx(own:ByteArray)(n:Nd):ByteArray:=if n.ref.sh=⟨#[]⟩then own else n.ref.sh
def y8(ss:List Sf)(k:ByteArray):Option Sf:=ss.find? fun s=>decide (s.sh=k)
def mh (own:ByteArray)(ss:List Sf)(n:Nd):Nd :=
 if ¬ n.kind=5∧¬ n.kind=6 then n
 else match y8 ss (qx own n)with
  | none=>n
  | some s=>if (jP n s).2=true then (jP n s).1 else Am
def mg(own:ByteArray)(ss:List Sf)(l:List Nd):List Nd:=l.map (mh own ss)
structure Ag (xs:List Int)(nw:Int):Prop where
 len:xs.length≤1048577
 low:0≤nw
 top:nw≤1048577
 M8:yQ (-1) nw xs
structure qR (s:Sf):Prop where
 rows:Ag s.rx s.rn
 tV:Ag s.cx s.cn
def FX(ss:List Sf):Prop:=∀s∈ss,qR s
theorem KJ {ss:List Sf}{k:ByteArray}{s:Sf}(h:y8 ss k=some s):s∈ss∧s.sh=k :=
 ⟨List.mem_of_find?_eq_some h,by have:=List.find?_some h;exact of_decide_eq_true this⟩
theorem TA(own:ByteArray)(ss:List Sf)(l:List Nd):(mg own ss l).length=l.length:=eB ..
theorem abJ {xs:List Int}{nw:Int}(h:Ag xs nw){i j:Nat}(hij:i≤j)(hi:¬ jw xs i=true)(hj:¬ jw xs j=true):0≤bH xs nw i∧bH xs nw i≤bH xs nw j:=by
 have h1:¬ bH xs nw (i:Int)<0:=fun e=>hi ((abI h.M8 h.low i).1 e)
 refine⟨by omega, ?_⟩;have xU:=h.low;by_cases e:i=j
 · subst e;exact Int.le_refl _
 by_cases cj:j<xs.length
 · have ci:i<xs.length:=by omega
   have gi:=getD_some xs i ci;have gj:=getD_some xs j cj;rw[uj _ _ _ ci,uj _ _ _ cj];have Mi:xs.getD i 0 ≠ -1:=fun e=>hi (aQ (by rw[gi,e]))
   have nj:xs.getD j 0 ≠ -1:=fun e=>hj (aQ (by rw[gj,e]))
   have:=h.M8.2 i j _ _ (by omega) gi gj Mi nj;omega
 · rw [wP xs nw j (by omega) (by omega)]
   by_cases ci:i<xs.length
   · have gi:=getD_some xs i ci
     rw[uj _ _ _ ci];have Mi:xs.getD i 0 ≠ -1:=fun e=>hi (aQ (by rw[gi,e]))
     have:=(h.M8.1 i _ gi Mi).2;omega
   · rw[wP xs nw i (by omega) (by omega)];omega
theorem Qw (xs:List Int):∀n lo,jS xs n lo<lo+n→¬ jw xs (jS xs n lo)=true
 | 0,lo,h=>by simp[jS]at h
 | n+1,lo,h=>by
   unfold jS at h ⊢;split
   · rename_i c;rw[ah c]at h;exact Qw xs n (lo+1) (by omega)
   · assumption
theorem Sq (xs:List Int)(f:Nat)(hf:¬ jw xs f=true):∀n,f≤mO xs n (f+n)∧¬ jw xs (mO xs n (f+n))=true
 | 0=>⟨aj _,hf⟩
 | n+1=>by
   show f≤(if jw xs (f+(n+1))=true then mO xs n (f+(n+1) - 1)else f+(n+1))∧¬ jw xs (if jw xs (f+(n+1))=true then mO xs n (f+(n+1) - 1)else f+(n+1))=true;by_cases c:jw xs (f+(n+1))=true
   · rw[ah c];exact Sq xs f hf n
   · rw[ag c];exact⟨by omega,c⟩
theorem VC {xs:List Int}{nw lo hi:Int}(h:Ag xs nw)(ho:(iR xs nw lo hi).2.2=true):0≤(iR xs nw lo hi).1∧(iR xs nw lo hi).1≤(iR xs nw lo hi).2.1:=by
 unfold iR at ho ⊢;by_cases c:lo<0∨hi<lo
 · rw[ah c]at ho;cases ho
 rw[ag c]at ho ⊢;by_cases d:hi<(jS xs (hi+1 - lo).toNat lo.toNat:Int)
 · rw[ah d]at ho;cases ho
 rw[ag d];have hb:=KN xs (hi+1 - lo).toNat lo.toNat;have hk:=Qw xs (hi+1 - lo).toNat lo.toNat (by omega);obtain⟨f,hf⟩:∃f,jS xs (hi+1 - lo).toNat lo.toNat=f:=⟨_,rfl⟩;rw[hf]at hb hk d ⊢;have hl:=Sq xs f hk (hi.toNat - f);rw[show f+(hi.toNat - f)=hi.toNat by omega]at hl;exact abJ h hl.1 hk hl.2
theorem Mm{n:Nd}(h:dm n=true):aH n=true:=(iU.1 h).1
theorem Ml {n:Nd}(h:dm n=true)(h1:1≤n.kind)(h6:n.kind≤6):n.kids=[]:=by
 have h2:=(iU.1 h).2;have ha:jQ n.kind=0:=by unfold jQ;rw[ah ⟨h1,h6⟩]
 rw[ha]at h2;rcases Bool.or_eq_true_iff.1 h2 with h3|h3
 · exact absurd (of_decide_eq_true h3) (by decide)
 · exact List.length_eq_zero_iff.1 (by have:=of_decide_eq_true h3;omega)
structure FU (n:Nd):Prop where
 num:n.num=0
 text:n.text=⟨#[]⟩
 af:fO n.af=true
 may:bQ n.ref=true
 kids:n.kids=[]
structure DU (n:Nd):Prop where
 num:n.num=0
 text:n.text=⟨#[]⟩
 may:bQ n.ref=true
 Tk:bQ n.af=true
 span:fu n.ref n.af=true
 kids:n.kids=[]
theorem UJ {n:Nd}(h:dm n=true)(hk:n.kind=5):FU n:=by
 have hl:=Mm h;unfold aH at hl;split at hl
 · cases hl
 rename_i c
 rw[ag (by omega),ag (by omega),ag (by omega),ag (by omega)]at hl;try rw[ah hk]at hl
 exact ⟨Decidable.byContradiction fun e=>c (.inl ⟨by omega,by omega,e⟩),Decidable.byContradiction fun e=>c (.inr (.inl ⟨by omega,by omega,e⟩)),
  by cases e:fO n.af with|true=>rfl|false=>exact absurd (.inr (.inr (.inr ⟨by omega,e⟩))) c,hl,Ml h (by omega) (by omega)⟩
theorem Uz {n:Nd}(h:dm n=true)(hk:n.kind=6):DU n:=by
 have hl:=Mm h;unfold aH at hl;split at hl
 · cases hl
 rename_i c
 rw[ag (by omega),ag (by omega),ag (by omega),ag (by omega),ag (by omega)]at hl;try rw[ah hk]at hl
 obtain⟨h1,h2⟩:=iU.1 hl;obtain⟨h2,h3⟩:=iU.1 h2;exact⟨Decidable.byContradiction fun e=>c (.inl ⟨by omega,by omega,e⟩),Decidable.byContradiction fun e=>c (.inr (.inl ⟨by omega,by omega,e⟩)),h1,h2,h3,Ml h (by omega) (by omega)⟩
theorem TJ {f:bL}(h:fO f=true):f=bL.zero:=by
 unfold fO at h;obtain⟨h1,h2⟩:=iU.1 h;obtain⟨h2,h3⟩:=iU.1 h2;obtain⟨e1,e2,e3⟩:=of_decide_eq_true h1;obtain⟨s,c,r,ac,ar⟩:=f;simp only at e1 e2 e3 h2 h3;subst e1;subst e2;subst e3;cases ac <;> cases ar <;> first|rfl|(exfalso;revert h2 h3;decide)
theorem FU.is {n:Nd}(h:FU n)(hk:n.kind=5):n={ Nd.zero with kind:=5,ref:=n.ref }:=by
 obtain⟨k,m,t,r,o,ks⟩:=n;have e:=TJ h.af;obtain⟨h1,h2,_,_,h5⟩:=h;simp only at h1 h2 h5 hk e;subst h1;subst h2;subst h5;subst hk;subst e;rfl
theorem DU.is {n:Nd}(h:DU n)(hk:n.kind=6):n={ Nd.zero with kind:=6,ref:=n.ref,af:=n.af }:=by
 obtain⟨k,m,t,r,o,ks⟩:=n;obtain⟨h1,h2,_,_,_,h5⟩:=h;simp only at h1 h2 h5 hk;subst h1;subst h2;subst h5;subst hk;rfl
theorem ad8:dm Am=true:=by decide
theorem Cx {f:bL}{r c:Int}(h:bQ f=true)(hr:0≤r)(hr2:r≤998)(hc:0≤c)(hc2:c≤701):bQ (f.goto r c)=true:=by
 unfold bQ cK at h ⊢;rw[iU]at h ⊢;exact⟨h.1,aQ ⟨hc,hc2,hr,hr2⟩⟩
theorem rC{f:bL}(h:bQ f=true):0≤f.c∧f.c≤701∧0≤f.r∧f.r≤998:=L8 h
theorem VB {a b:bL}(h:fu a b=true){r c r' c':Int}(hr:r≤r')(hc:c≤c'):fu (a.goto r c) (b.goto r' c')=true:=by
 unfold fu at h ⊢;rw[iU]at h ⊢;exact⟨h.1,by rw[iU];exact⟨aQ hc,aQ hr⟩⟩
theorem ahr {n:Nd}{s:Sf}(h:DU n)(hs:qR s)(ho:vO n s=true)(hm:bQ (kG n s).af=true):bQ (kG n s).ref=true∧fu (kG n s).ref (kG n s).af=true:=by
 obtain⟨h1,h2⟩:=iU.1 ho;obtain⟨a1,a2⟩:=VC hs.rows h1;obtain⟨b1,b2⟩:=VC hs.tV h2;have hn:=rC hm;have hn:0≤(iR s.cx s.cn n.ref.c n.af.c).2.1∧(iR s.cx s.cn n.ref.c n.af.c).2.1≤701∧0≤(iR s.rx s.rn n.ref.r n.af.r).2.1∧(iR s.rx s.rn n.ref.r n.af.r).2.1≤998:=hn;exact⟨Cx h.may a1 (by omega) b1 (by omega),VB h.span a2 b2⟩
theorem Yo {n:Nd}{s:Sf}(h:dm n=true)(hk:n.kind=5∨n.kind=6)(hs:qR s)(ha:(jP n s).2=true):dm (jP n s).1=true∧(jP n s).1.kids=n.kids:=by
 unfold jP at ha ⊢;by_cases g:s.gone=true
 · rw[ah g]at ha;cases ha
 rw[ag g]at ha ⊢;by_cases k6:n.kind=6
 · rw[ah k6]at ha ⊢
   obtain⟨h1,h2⟩:=iU.1 ha;have hf:=Uz h k6;obtain⟨h3,h4⟩:=ahr hf hs h1 h2;refine⟨?_,rfl⟩;have e:(kG n s)={ Nd.zero with kind:=6,ref:=(kG n s).ref,af:=(kG n s).af }:=DU.is ⟨hf.num,hf.text,h3,h2,h4,hf.kids⟩ k6;show dm (kG n s)=true;rw[e];exact Mr h3 h2 h4
 · rw[ag k6]at ha ⊢
   have hf:=UJ h (by omega);refine⟨?_,rfl⟩;have e:qA n s={ Nd.zero with kind:=5,ref:=(qA n s).ref }:=FU.is ⟨hf.num,hf.text,hf.af,ha,hf.kids⟩ (by show n.kind=5;omega);show dm (qA n s)=true;rw[e];exact Ms ha
theorem adz {own:ByteArray}{ss:List Sf}{n:Nd}(h:dm n=true)(hs:FX ss):dm (mh own ss n)=true∧(mh own ss n).kids=n.kids:=by
 unfold mh;split
 · exact⟨h,rfl⟩
 rename_i c
 have hk:n.kind=5∨n.kind=6:=by omega
 split
 · exact⟨h,rfl⟩
 · rename_i s e
   split
   · rename_i ha;exact Yo h hk (hs s (KJ e).1) ha
   · exact⟨ad8,(Ml h (by omega) (by omega)).symm⟩
theorem NM:∀(l:List Nd)(st:List Int)(i:Nat),nM st i l=true→∀n∈l,dm n=true
 | [],_,_,_,n,hn=>by cases hn
 | m :: l,st,i,h,n,hn=>by
   rw[nN,iU,iU,iU]at h;rcases eY.1 hn with rfl|hn
   · exact h.1
   · exact NM l _ _ h.2.2.2 n hn
theorem V3 (f:Nd→Nd):∀(l:List Nd)(st:List Int)(i:Nat),(∀n∈l,dm n=true→dm (f n)=true∧(f n).kids=n.kids)→nM st i l=true→nM st i (l.map f)=true
 | [],_,_,_,h=>h
 | m :: l,st,i,hf,h=>by
   rw[jM,nN];rw[nN,iU,iU,iU]at h;obtain⟨h1,h2,h3,h4⟩:=h;obtain⟨e1,e2⟩:=hf m (by simp) h1;rw[e1,e2,h2,h3,V3 f l _ _ (fun n hn=>hf n (by simp[hn])) h4];rfl
theorem TD {own:ByteArray}{ss:List Sf}{l:List Nd}(h:cO l=true)(hs:FX ss):cO (mg own ss l)=true :=
 V3 _ l [] 0 (fun _ _ hn=>adz hn hs) h
structure Ki (m n:Nd):Prop where
 num:m.num≤max n.num 0
 text:m.text.size≤n.text.size
 ref:m.ref.sh.size≤n.ref.sh.size
 af:m.af.sh.size≤n.af.sh.size
theorem TC (own:ByteArray)(ss:List Sf)(n:Nd):Ki (mh own ss n) n:=by
 have hz:Ki Am n:=⟨by show(0:Int)≤_;omega,eP _,eP _,eP _⟩;have hr:Ki n n:=⟨by omega,aj _,aj _,aj _⟩;unfold mh;split
 · exact hr
 split
 · exact hr
 split
 · rename_i s _ ha
   unfold jP;split
   · rename_i g;unfold jP at ha;rw[ah g]at ha;cases ha
   split
   · exact⟨by show n.num≤_;omega,aj _,aj _,aj _⟩
   · exact⟨by show n.num≤_;omega,aj _,aj _,aj _⟩
 · exact hz
end Go.Proofs.YtaobhjliflomaaaGreatDoor
namespace Go.Proofs.YtaobhjliflomaaaGreatDoor
open Go Go.WideMaps Go.ChangeMaps Go.MapKept Go.Maps Go.WideElems Go.RowKit
variable {es:List (ByteArray × Value)}{b:Nat}{w:World}
def oQ (w:World)(b:Nat)(es:List (ByteArray × Value)):Prop :=
 ∃a clock,w.heap[b]? = some (.map a clock)∧a.toList.map (fun e=>(e.key,e.val))=es.map (fun p=>(Value.string p.1,p.2))
theorem oQ.made(w:World):oQ (w.alloc (.map #[] 0)) w.heap.size []:=⟨#[],0,(MapKept.heap_alloc w _).1,rfl⟩
theorem oQ.lt (h:oQ w b es):b<w.heap.size:=by
 obtain⟨a,c,hb,_⟩:=h;exact(dn.1 hb).1
theorem oQ.keys {a:Array MapEntry}(h:a.toList.map (fun e=>(e.key,e.val))=es.map (fun p=>(Value.string p.1,p.2))):∀e∈a.toList,∃p∈es,e.key = .string p.1∧e.val=p.2:=by
 intro e he;have h1:(e.key,e.val)∈a.toList.map (fun e=>(e.key,e.val)):=List.mem_map.2 ⟨e,he,rfl⟩;rw[h]at h1;obtain⟨p,hp,hpe⟩:=List.mem_map.1 h1;simp only[bE]at hpe;exact⟨p,hp,hpe.1.symm,hpe.2.symm⟩
theorem oQ.L9 {P:Program}{t k e:TypeId}(h:oQ w b es)(ht:P.underlying t=some (.map k e))(hk:P.underlying k=some .string)(hsz:∀p∈es,p.1.size≤maxLen){z:Value}(hz:(zeroValue e).run P w = .ok z w)(key:ByteArray)(hks:key.size≤maxLen)(hno:∀p∈es,p.1≠key) :
 (Instr.lookup t (.map (some b)) (.string key) true).run P w = .ok (.tuple #[z,.bool false]) w:=by
 obtain⟨a,clock,hb,hes⟩:=h;have K:=string_keyed hk;have wL:=keyOf_string_mk hk hks
 rcases K.find w wL a.toList (fun x hx=>by
  obtain⟨p,hp,h1,_⟩:=oQ.keys hes x hx;exact⟨_,by rw[h1];exact keyOf_string_mk hk (hsz p hp)⟩)with ⟨h1,h2⟩|⟨j,x,_,h2,h3⟩
 · simp[Instr.lookup,run_underlying ht,MapKept.run_getObj_map hb,K.check w _ wL,h1,hz,Result.andThen]
 · exfalso
   obtain⟨p,hp,h4,_⟩:=oQ.keys hes x (fT h2);rw[h3]at h4;exact hno p hp (Value.string.inj h4).symm
theorem oQ.find {P:Program}{t k e:TypeId}(h:oQ w b es)(ht:P.underlying t=some (.map k e))(hk:P.underlying k=some .string)(hsz:∀p∈es,p.1.size≤maxLen)(key:ByteArray)(hks:key.size≤maxLen)(v:Value)(hin:(key,v)∈es)(abl:∀p∈es,p.1=key→p.2=v) :
 (Instr.lookup t (.map (some b)) (.string key) true).run P w = .ok (.tuple #[v,.bool true]) w:=by
 obtain⟨a,clock,hb,hes⟩:=h;have K:=string_keyed hk;have wL:=keyOf_string_mk hk hks
 rcases K.find w wL a.toList (fun x hx=>by
  obtain⟨p,hp,h1,_⟩:=oQ.keys hes x hx;exact⟨_,by rw[h1];exact keyOf_string_mk hk (hsz p hp)⟩)with ⟨h1,h2⟩|⟨j,x,h1,h2,h3⟩
 · exfalso
   have h4:(Value.string key,v)∈a.toList.map (fun e=>(e.key,e.val)):=by rw[hes];exact List.mem_map.2 ⟨_,hin,rfl⟩
   obtain⟨x,hx,hxe⟩:=List.mem_map.1 h4;simp only[bE]at hxe;exact h2 x hx hxe.1
 · obtain⟨p,hp,h4,h5⟩:=oQ.keys hes x (fT h2)
   rw[h3]at h4;have h6:=abl p hp (Value.string.inj h4).symm;rw[h5,h6]at h1;simp[Instr.lookup,run_underlying ht,MapKept.run_getObj_map hb,K.check w _ wL,h1,Result.andThen]
end Go.Proofs.YtaobhjliflomaaaGreatDoor
namespace Go.Proofs.YtaobhjliflomaaaGreatDoor
open Go Go.WideMaps Go.ChangeMaps Go.MapKept Go.Maps Go.WideElems Go.RowKit
variable {f:ByteArray→Option Value}{b:Nat}{P:Program}{e k t:TypeId}{w:World}
def jr (w:World)(b:Nat)(f:ByteArray→Option Value):Prop :=
 ∃es,oQ w b es∧(∀p∈es,p.1.size≤maxLen)∧(∀p∈es,f p.1=some p.2)∧(∀key v,f key=some v→(key,v)∈es)∧∀(i j:Nat) p q,es[i]? = some p→es[j]? = some q→p.1=q.1→i=j
def zA(f:ByteArray→Option Value)(key:ByteArray)(v:Value):ByteArray→Option Value:=fun k=>if k=key then some v else f k
theorem jr.made (w:World):jr (w.alloc (.map #[] 0)) w.heap.size (fun _=>none) :=
 by
 refine⟨[],oQ.made w, ?_, ?_, ?_, ?_⟩
 · intro p h;cases h
 · intro p h;cases h
 · intro k v h;cases h
 · intro i j p q h;simp at h
theorem jr.lt(h:jr w b f):b<w.heap.size:=by obtain⟨es,h1,_⟩:=h;exact h1.lt
theorem jr.keep {w':World}(h:jr w b f)(hk:w'.heap[b]? = w.heap[b]?):jr w' b f:=by
 obtain⟨es,⟨a,c,h1,h2⟩,h3⟩:=h;exact⟨es,⟨a,c,hk.trans h1,h2⟩,h3⟩
theorem jr.below{w':World}{B:Nat}(h:jr w b f)(hb:Below B w w')(hB:b<B):jr w' b f:=h.keep (hb.block b hB)
theorem jr.L9 (h:jr w b f)(ht:P.underlying t=some (.map k e))(hk:P.underlying k=some .string){z:Value}(hz:(zeroValue e).run P w = .ok z w)(key:ByteArray)(hks:key.size≤maxLen)(hno:f key=none) :
 (Instr.lookup t (.map (some b)) (.string key) true).run P w = .ok (.tuple #[z,.bool false]) w:=by
 obtain⟨es,h1,h2,h3,_⟩:=h;exact h1.L9 ht hk h2 hz key hks fun p hp e=>by have:=h3 p hp;rw[e,hno]at this;cases this
theorem jr.find (h:jr w b f)(ht:P.underlying t=some (.map k e))(hk:P.underlying k=some .string)(key:ByteArray)(hks:key.size≤maxLen)(v:Value)(hin:f key=some v) :
 (Instr.lookup t (.map (some b)) (.string key) true).run P w = .ok (.tuple #[v,.bool true]) w:=by
 obtain⟨es,h1,h2,h3,h4,_⟩:=h;exact h1.find ht hk h2 key hks v (h4 key v hin) fun p hp e=>by have:=h3 p hp;rw[e,hin]at this;exact(dU this).symm
theorem jr.put (h:jr w b f)(ht:P.underlying t=some (.map k e))(hk:P.underlying k=some .string)(key:ByteArray)(hks:key.size≤maxLen)(v:Value) :
 ∃w',(Instr.mapUpdate t (.map (some b)) (.string key) v).run P w = .ok () w'∧jr w' b (zA f key v)∧w'.heap.size=w.heap.size∧w.grownBy w' (some b):=by
 obtain⟨es,h1,h2,h3,h4,h5⟩:=h;obtain⟨a,clock,hb,hes⟩:=h1;have K:=string_keyed hk;have wL:=keyOf_string_mk hk hks;have hgr:∀o:Obj,w.grownBy (setBlock w b o) (some b):=fun o=>⟨rfl,rfl,rfl,by simp[setBlock],fun j _ hne=>heap_setBlock_other hb _ (fun e=>hne (by rw[e]))⟩
 rcases K.find w wL a.toList (fun x hx=>by
  obtain⟨p,hp,h1,_⟩:=oQ.keys hes x hx;exact⟨_,by rw[h1];exact keyOf_string_mk hk (h2 p hp)⟩)with ⟨g1,g2⟩|⟨j,x,g1,g2,g3⟩
 · have hno:∀p∈es,p.1≠key:=fun p hp e=>by
    have h6:(Value.string p.1,p.2)∈a.toList.map (fun e=>(e.key,e.val)):=by rw[hes];exact List.mem_map.2 ⟨_,hp,rfl⟩
    obtain⟨x,hx,hxe⟩:=List.mem_map.1 h6;simp only[bE]at hxe;exact g2 x hx (by rw[hxe.1,e])
   refine⟨setBlock w b (.map (a.push ⟨.string key,v,clock⟩) (clock+1)), ?_,⟨es++[(key,v)],⟨_,_,heap_setBlock_same hb _, ?_⟩, ?_, ?_, ?_, ?_⟩,by simp[setBlock],hgr _⟩
   · simp[Instr.mapUpdate,run_underlying ht,MapKept.run_getObj_map hb,K.check w false wL,g1,MapKept.run_setObj_map _ hb,Result.andThen,setBlock]
   · rw[Array.toList_push,gP,gP,hes];rfl
   · intro p hp;rcases dK.1 hp with hp|hp
     · exact h2 p hp
     · rw[fA.1 hp];exact hks
   · intro p hp;unfold zA;rcases dK.1 hp with hp|hp
     · rw[ag (hno p hp)];exact h3 p hp
     · rw[fA.1 hp,ah rfl]
   · intro k' v' hv;unfold zA at hv
     by_cases c:k'=key
     · rw[ah c]at hv;rw[← dU hv,c];simp
     · rw[ag c]at hv;exact List.mem_append_left _ (h4 _ _ hv)
   · intro i j p q hp hq hpq
     rw[List.getElem?_append]at hp hq;split at hp <;> split at hq
     · exact h5 i j p q hp hq hpq
     · have:q=(key,v):=fA.1 (fT hq)
       exact absurd (hpq.trans (by rw[this])) (hno p (fT hp))
     · have:p=(key,v):=fA.1 (fT hp)
       exact absurd (hpq.symm.trans (by rw[this])) (hno q (fT hq))
     · have e1:=(dS.1 hp).1
       have e2:=(dS.1 hq).1;simp at e1 e2;omega
 · have hjl:j<a.size:=by have:=(dS.1 g2).1;simpa using this
   have haj:a[j]? = some x:=by rw[← Array.getElem?_toList];exact g2
   have Gt:es[j]? = some (key,x.val):=by
    have h6:(a.toList.map (fun e=>(e.key,e.val)))[j]? = some (x.key,x.val):=by rw[gN,g2];rfl
    rw[hes,gN]at h6;cases e:es[j]? with
    | none=>rw[e]at h6;cases h6
    | some p =>
      rw[e]at h6;have h7:=dU h6;simp only[bE]at h7;rw[g3]at h7;rw[← Value.string.inj h7.1, ← h7.2]
   have Lc:∀(i:Nat) p,i≠j→es[i]? = some p→p.1≠key:=fun i p hi hp e=>hi (h5 i j p _ hp Gt e)
   have GD:∀(i:Nat) p,(es.set j (key,v))[i]? = some p→(i=j∧p=(key,v))∨(i≠j∧es[i]? = some p):=by
    intro i p hp;rw[List.getElem?_set]at hp;split at hp
    · rename_i e;split at hp
      · exact .inl ⟨e.symm,(dU hp).symm⟩
      · cases hp
    · rename_i e;exact .inr ⟨fun e'=>e e'.symm,hp⟩
   refine⟨setBlock w b (.map (a.modify j fun e=>{ e with key := .string key,val:=v }) clock), ?_,⟨es.set j (key,v),⟨_,_,heap_setBlock_same hb _, ?_⟩, ?_, ?_, ?_, ?_⟩,by simp[setBlock],hgr _⟩
   · simp[Instr.mapUpdate,run_underlying ht,MapKept.run_getObj_map hb,K.check w false wL,g1,haj,g3,K.stays w wL,MapKept.run_setObj_map _ hb,Result.andThen,setBlock]
   · rw [Array.toList_modify]
     apply List.ext_getElem?;intro i;have h6:(a.toList.map (fun e=>(e.key,e.val)))[i]? = (es.map (fun p=>(Value.string p.1,p.2)))[i]? := by rw[hes]
     rw[gN,gN]at h6;rw[gN,gN,List.getElem?_modify,List.getElem?_set];by_cases c:j=i
     · subst c
       rw[ah rfl,g2,ah (dS.1 Gt).1];simp
     · rw[ag c];simp only[ag c]
       rw[← h6];cases a.toList[i]? <;> rfl
   · intro p hp
     obtain⟨i,hi⟩:=List.getElem?_of_mem hp;rcases GD i p hi with ⟨_,e⟩|⟨_,e⟩
     · rw[e];exact hks
     · exact h2 p (fT e)
   · intro p hp;unfold zA
     obtain⟨i,hi⟩:=List.getElem?_of_mem hp;rcases GD i p hi with ⟨_,e⟩|⟨e0,e⟩
     · rw[e,ah rfl]
     · rw[ag (Lc i p e0 e)];exact h3 p (fT e)
   · intro k' v' hv;unfold zA at hv
     by_cases c:k'=key
     · rw[ah c]at hv;rw[← dU hv,c]
       exact fT (i:=j) (by rw[List.getElem?_set,ah rfl,ah (dS.1 Gt).1])
     · rw[ag c]at hv
       obtain⟨i,hi⟩:=List.getElem?_of_mem (h4 _ _ hv);refine fT (i:=i) ?_;rw[List.getElem?_set,ag (fun e=>c (by subst e;rw[Gt]at hi;have:=dU hi;simp only[bE]at this;exact this.1.symm))];exact hi
   · intro i i' p q hp hq hpq
     rcases GD i p hp with ⟨e1,e2⟩|⟨e1,e2⟩ <;> rcases GD i' q hq with ⟨e3,e4⟩|⟨e3,e4⟩
     · rw[e1,e3]
     · exact absurd (hpq.symm.trans (by rw[e2])) (Lc i' q e3 e4)
     · exact absurd (hpq.trans (by rw[e4])) (Lc i p e1 e2)
     · exact h5 i i' p q e2 e4 hpq
end Go.Proofs.YtaobhjliflomaaaGreatDoor
namespace Go.Proofs.YtaobhjliflomaaaGreatDoor
open Go.RowKit
variable {a a':Act}{kD listed:Array Bool}{ops:Array Oper}{Q:Exit→Act→World→Prop}{B base bytes cap fuel g i k n size t:Nat}{oi:Oper}{d:Option Tmp}{P:Program}{md:Region.Mode}{α:Type}{e:TypeId}{v:Value}{w w':World}{S:World→Prop}
theorem Own.keep {E:Enc α size}{xs:List α}(h:Own E e w base v xs)
 (hk:∀g,base≤g→g<w.heap.size→v.ownBlock=Option.some g→w'.heap[g]? = w.heap[g]?):Own E e w' base v xs:=by
 refine⟨h.1, ?_⟩;rcases h.2 with h|⟨g,cap,cur,h1,h2,h3,h4⟩
 · exact .inl h
 · refine .inr ⟨g,cap,cur,h1,h2, ?_,h4⟩
   rw[hk g h2 (dn.1 h3).1 (by rw[h1];rfl)];exact h3
theorem Own.lies {E:Enc α size}{xs:List α}(h:Own E e w base v xs)(hg:v.ownBlock=Option.some g):base≤g∧∃cur,w.heap[g]? = Option.some (.cells cur e (0,0)):=by
 rcases h.2 with ⟨h1,_⟩|⟨b,cap,cur,h1,h2,h3,_⟩
 · rw[h1]at hg;cases hg
 · rw[h1]at hg;injection hg with hg
   have hg:b=g:=hg;subst hg;exact⟨h2,cur,h3⟩
theorem Own.less {E:Enc α size}{xs:List α}(h:Own E e w base v xs)(hg:v.ownBlock=Option.some g):g<w.heap.size:=by
 obtain⟨_,cur,h3⟩:=h.lies hg;exact(dn.1 h3).1
theorem Own.F9 {β: Type}{s1 s2:Nat}{E:Enc α s1}{F:Enc β s2}{f:TypeId}{b1 b2:Nat}{u:Value}{xs:List α}{ys:List β}(h:Own E e w b1 u xs)(k:Own F f w b2 v ys)(hne:e≠f)(hg:u.ownBlock=Option.some g):Option.some g≠v.ownBlock:=by
 intro hv;obtain⟨_,c1,h1⟩:=h.lies hg;obtain⟨_,c2,h2⟩:=k.lies hv.symm;rw[h1]at h2;injection h2 with h2;injection h2 with h2 h3;exact hne h3
def iF {α : Type}{k:Nat}(E:Enc α k)(w:World)(B:Nat)(v:Value)(xs:List α):Prop :=
 ∃A cap,v = .slice A xs.length cap∧xs.length≤cap∧cap≤maxLen∧(xs=[]∨∃pb po,A=some ⟨pb,po,none⟩∧pb<B∧∀(j:Nat)(u:Value),(E.all xs)[j]? = some u→w.cell? ⟨pb,po+j,none⟩=some u)
theorem iF.below {E:Enc α k}{C:Nat}{xs:List α}(h:iF E w B v xs)(hb:Below C w w')(hC:B≤C):iF E w' B v xs:=by
 obtain⟨A,cap,h1,h2,h3,h4⟩:=h;refine⟨A,cap,h1,h2,h3,h4.imp id ?_⟩;rintro⟨pb,po,e1,e2,e3⟩;exact⟨pb,po,e1,e2,fun j x hj=>(hb.cell (p:=⟨pb,po+j,none⟩) (by show pb<C;omega)).trans (e3 j x hj)⟩
theorem iF.mono {E:Enc α k}{C:Nat}{xs:List α}(h:iF E w B v xs)(hC:B≤C):iF E w C v xs:=by
 obtain⟨A,cap,h1,h2,h3,h4⟩:=h;refine⟨A,cap,h1,h2,h3,h4.imp id ?_⟩;rintro⟨pb,po,e1,e2,e3⟩;exact⟨pb,po,e1,by omega,e3⟩
theorem iF.lift{E:Enc α k}{xs:List α}(h:iF E w w.heap.size v xs)(hb:Below w.heap.size w w'):iF E w' w'.heap.size v xs:=(h.below hb (aj _)).mono hb.size
theorem Own.se {E:Enc α k}{xs:List α}(h:Own E e w base v xs):iF E w w.heap.size v xs:=by
 rcases h.shape with ⟨rfl,rfl⟩|⟨g,cap,rfl,hg,hl,hc,hm⟩
 · exact⟨none,0,rfl,aj _,by unfold maxLen;omega,.inl rfl⟩
 · exact⟨_,_,rfl,hc,hm,.inr ⟨g,0,rfl,hl,fun j u hj=>by rw[Nat.zero_add];exact h.cells j u hj⟩⟩
theorem iF.at {E:Enc α k}{A:Option Addr}{xs:List α}(h:iF E w B (.slice A n cap) xs){x : α}(hi:xs[i]? = some x) :
 ∃pb po,A=some ⟨pb,po,none⟩∧pb<B∧∀(j:Nat)(u:Value),(E.f x)[j]? = some u→w.cell? ⟨pb,po+(i*k+j),none⟩=some u:=by
 obtain⟨A',qf,h1, -, -,h2⟩:=h;injection h1 with e1 e2 e3;subst e1;rcases h2 with rfl|⟨pb,po,h1,h2,h3⟩
 · simp at hi
 · refine⟨pb,po,h1,h2,fun j u hj=>h3 _ u ?_⟩
   have hjk:j<k:=by rw[← E.len x];exact(dS.1 hj).1
   rw[E.at xs i j x hi hjk];exact hj
theorem iF.len {E:Enc α k}{A:Option Addr}{xs:List α}(h:iF E w B (.slice A n cap) xs):xs.length=n∧n≤cap∧cap≤maxLen:=by
 obtain⟨A',qf,h1,h2,h3, -⟩:=h;injection h1 with e1 e2 e3;subst e3;exact⟨e2.symm,by omega,h3⟩
def Km{α : Type}{k:Nat}(E:Enc α k)(e:TypeId)(w:World)(g:Nat)(xs:List α):Prop:=∃cur:Array Value,w.heap[g]? = some (.cells cur e)∧∀(j:Nat)(u:Value),(E.all xs)[j]? = some u→cur[j]? = some u
theorem Km.yf {E:Enc α k}{xs:List α}(h:Km E e w g xs)(j:Nat):w.frozen? ⟨g,j,none⟩=false:=by
 obtain⟨cur,h1,h2⟩:=h;exact frozen_of_row w g j cur e h1
theorem Own.rwA {E:Enc α k}{xs:List α}(h:Own E e w base (.slice (Option.some ⟨g,0,none⟩) n cap) xs):Km E e w g xs:=by
 obtain⟨_,cur,h1⟩:=h.lies (g:=g) rfl;refine⟨cur,h1,fun j u hj => ?_⟩;have:=h.cells j u hj;rwa[cell_of_row w g j cur e _ h1]at this
theorem Yl (E:Enc α 1)(xs:List α)(i:Nat)(x : α)(u:Value)(hu:E.f x=[u]):E.all (xs.set i x)=(E.all xs).set i u:=by
 unfold Enc.all
 induction xs generalizing i with
 | nil=>rfl
 | cons a t ih =>
   obtain⟨v,hv⟩:=List.length_eq_one_iff.1 (E.len a);cases i with
   | zero=>rw[List.set_cons_zero,pV,pV,hu,hv];rfl
   | succ i=>rw[List.set_cons_succ,pV,pV,ih,hv];rfl
theorem C9 {e:Nat}{rest:List Oper}{o:Oper}(dh:Elem P t e size bytes)(E:Enc α size)
 (hgd:o.guard=none) (s x:Operand) (ho:o.op = .call { callee := .builtin .append,args:=#[s,x],argTypes:=#[t,t] }) (base:Nat) (v:Value) (xs:List α)
 (hs:a.eval s=v) (iG:Own E e w base v xs) (ad:Addr) (m c:Nat) (ys:List α) (hx:a.eval x = .slice (some ad) m c) (hl:ys.length=m)
 (hc:∀(j:Nat)(u:Value),(E.all ys)[j]? = some u→w.cell? (ad.add j)=some u) (hb:(xs.length+m)*bytes≤140737488355328) (hb2:xs.length+m≤maxLen) (jT:base≤w.heap.size)
 (h:∀(v':Value)(w':World),Own E e w' base v' (xs++ys)→w.grownBy w' v.ownBlock→(v'.ownBlock=v.ownBlock∨v'.ownBlock=some w.heap.size)→wpList P ops Q rest (a.put o.dst v') w'):wpList P ops Q (o :: rest) a w:=by
 obtain⟨z,hi,hz⟩:=dh.inf;obtain⟨i,hi1,hi2,hi3,hi4⟩:=info_parts hi;refine wpList_append_own_at w hgd s x t ho base e i z size bytes dh.und hi1 hi2 hi3 hi4 hz dh.pos v xs.length (E.all xs) hs iG ad m c (E.all ys) hx (by rw[E.mP,hl]) hc (E.ym ys) hb2 hb jT ?_;intro v' w' h1 h2 _ h4;refine h v' w' ?_ h2 h4;unfold Own;rw[E.all_append,av,hl];exact h1
theorem IG {e:Nat}{o:Oper}{K:Act→World→Prop}{F:Prop}(dh:Elem P t e size bytes)(E:Enc α size)
 (hgd:o.guard=none) (s x:Operand) (ho:o.op = .call { callee := .builtin .append,args:=#[s,x],argTypes:=#[t,t] }) (base:Nat) (v:Value) (xs:List α)
 (hs:a.eval s=v) (iG:Own E e w base v xs) (ad:Addr) (m c:Nat) (ys:List α) (hx:a.eval x = .slice (some ad) m c) (hl:ys.length=m)
 (hc:∀(j:Nat)(u:Value),(E.all ys)[j]? = some u→w.cell? (ad.add j)=some u) (hb:(xs.length+m)*bytes≤140737488355328) (hb2:xs.length+m≤maxLen) (jT:base≤w.heap.size)
 (h:∀(v':Value)(w':World),Own E e w' base v' (xs++ys)→w.grownBy w' v.ownBlock→(v'.ownBlock=v.ownBlock∨v'.ownBlock=some w.heap.size)→K (a.put o.dst v') w') :
 if Region.wanted o (yielded ops a.tmps)=true then Oper.wp P o a w K Q else F:=by
 have hw:Region.wanted o (yielded ops a.tmps)=true:=by simp[Region.wanted,hgd]
 rw[ah hw];obtain⟨z,hi,hz⟩:=dh.inf;obtain⟨i,hi1,hi2,hi3,hi4⟩:=info_parts hi;obtain⟨v',w',q8,r1,r2,_,r4⟩:=run_append_own_at (P:=P) w base t o.type e i z size bytes dh.und hi1 hi2 hi3 hi4 hz dh.pos v xs.length (E.all xs) iG ad m c (E.all ys) (by rw[E.mP,hl]) hc (E.ym ys) hb2 hb jT;unfold Oper.wp;simp[execOp,ho,resolve,invoke,builtin,hs,hx,q8,Result.andThen];refine h v' w' ?_ r2 r4;unfold Own;rw[E.all_append,av,hl];exact r1
theorem Elem.u8:Elem Tryz.prog 22 5 1 1:=⟨Tryz.underlying22,⟨.int .u8 0,by kernel_rfl,rfl⟩,by decide⟩
abbrev qc(w:World)(base:Nat)(v:Value)(xs:List Int):Prop:=Own (aI .u8) 5 w base v xs
theorem CS {xs:List Int}(h:qc w base v xs):(convert 22 9 v).run Tryz.prog w = .ok (.string (strOfNums xs)) w:=by
 rcases h.shape with ⟨rfl,rfl⟩|⟨g,cap,rfl,h1,h2,h3,h4⟩
 · rw[run_convert_bytes_nil w _ 5 Tryz.underlying22 Tryz.underlying5 _ _ _ Tryz.underlying9];rfl
 · refine run_convert_bytes_arg w _ 5 Tryz.underlying22 Tryz.underlying5 g 0 _ cap xs rfl (fun i hi => ?_) _ Tryz.underlying9
   rw[Nat.zero_add];exact h.zi i hi
theorem agb {tx ty e:Nat}(dh:Elem P t e size bytes)(E:Enc α size)(base:Nat)(v:Value)(xs:List α)(iG:Own E e w base v xs)
 (x:Value) (m:Nat) (ys:List α) (hl:ys.length=m) (hs:Src P size tx x m (E.all ys) w) (hb:(xs.length+m)*bytes≤140737488355328) (hb2:xs.length+m≤maxLen) (jT:base≤w.heap.size) :
 ∃v' w',(Builtin.append_ #[t,tx] ty #[v,x]).run P w = .ok v' w'∧Own E e w' base v' (xs++ys)∧Below base w w':=by
 obtain⟨z,hi,hz⟩:=dh.inf;obtain⟨i,hi1,hi2,hi3,hi4⟩:=info_parts hi;have ht:=dh.und;subst hi3;subst hi4;have hlx:=E.mP xs;have AO:=E.mP ys;rw[hl]at AO;have hlen:(E.all (xs++ys)).length=(xs.length+m)*i.size:=by rw[E.mP,av,hl]
 have Lp:xs.length+m≤9223372036854775807:=by simp only[maxLen]at hb2;omega
 have grown:∀(old:Nat),old<xs.length+m →
  Own E e (w.drew.alloc (.cells ((E.all xs++E.all ys).toArray++Builtin.zeroCells z.cells (grownCap w (xs.length+m) old e - (xs.length+m))) e)) base (.slice (some ⟨w.heap.size,0,none⟩) (xs.length+m) (grownCap w (xs.length+m) old e)) (xs++ys) ∧
  Below base w (w.drew.alloc (.cells ((E.all xs++E.all ys).toArray++Builtin.zeroCells z.cells (grownCap w (xs.length+m) old e - (xs.length+m))) e)):=by
  intro old ho;have hge:=grownCap_ge w (xs.length+m) old e;have hcm:grownCap w (xs.length+m) old e≤maxLen:=grownCap_le_maxLen w (xs.length+m) old e hb2;refine⟨?_,((ak _ _).drew).alloc jT _⟩;unfold Own;rw[av,hl];refine⟨hlen,.inr ⟨w.heap.size,_,_,rfl,jT,heap_alloc_new w.drew _,hge,hcm, ?_, ?_⟩⟩
  · simp only[Array.size_append,List.size_toArray,size_zeroCells,hz,av,hlx,AO, ← Nat.add_mul]
    congr 1;omega
  · simp only[Array.toList_append]
    rw[← E.all_append, ← hlen];exact List.take_left
 have h0:=iG;rcases iG.2 with ⟨rfl,hn⟩|⟨g,cap,cur,rfl,hbg,hg,hnc,hcm,hcs,Ey⟩
 · have hx:xs=[]:=kV hn
   subst hx;by_cases hm:m=0
   · subst hm
     have hy:ys=[]:=kV hl;subst hy;refine⟨.slice none 0 0,w, ?_,Own.nil E e w base,ak _ _⟩;have hc:=hs.cells;have hll:=hs.len;have hc':(Builtin.firstCells i.size 0 x).run P w = .ok #[] w:=hc
     rcases hs.kind with ⟨e',hk⟩|hk <;>
      simp[Builtin.append_,run_underlying ht,run_underlying hk,sizeOf,typeInfo,hi1,hll,hc']
   · have hgr:=grown 0 (by simp;omega)
     have hr:=run_append_grow_src (P:=P) w t tx ty e i z ht hi1 hi2 none 0 0 [] (by simp[Builtin.firstCells]) x m (E.all ys) hs (by omega) (by simp at Lp;omega) (growslice_fits (by omega) (by simpa using hb));simp only[dV,Nat.zero_add,iy,Enc.all,List.flatMap_nil]at hgr hr ⊢;exact⟨_,_,hr,hgr.1,hgr.2⟩
 · by_cases AV:xs.length+m≤cap
   · have AB:xs.length*i.size+(E.all ys).length≤cur.size:=by rw[AO,hcs, ← Nat.add_mul];exact Nat.mul_le_mul_right _ AV
     have hst:=run_storeCells_at P g (xs.length*i.size) e (E.all ys) 0 cur w hg (by omega) (E.ym ys);simp only[Nat.add_zero]at hst;refine⟨.slice (some ⟨g,0,none⟩) (xs.length+m) cap,w.setRow g (cur.toList.take (xs.length*i.size)++E.all ys++cur.toList.drop (xs.length*i.size+(E.all ys).length)).toArray, ?_, ?_, ?_⟩
     · rcases hs.kind with ⟨e',hk⟩|hk <;> simp[Builtin.append_,run_underlying ht,run_underlying hk,sizeOf,typeInfo,hi1,hs.len,AV,hs.cells,Addr.add_lit,hst]
     · unfold Own
       rw[av,hl];refine⟨hlen,.inr ⟨g,cap,_,rfl,hbg,setRow_heap w g cur _ e _ hg,AV,hcm, ?_, ?_⟩⟩
       · simp only[List.size_toArray,av,gX,lG,Array.length_toList]
         omega
       · rw[Ey, ← hlen, ← E.all_append]
         exact List.take_left
     · exact⟨rfl,rfl,rfl,by simp,fun k hk=>setRow_other w g k _ (by omega)⟩
   · have hold:(Builtin.firstCells i.size xs.length (.slice (some ⟨g,0,none⟩) xs.length cap)).run P w.drew = .ok (E.all xs).toArray w.drew :=
      run_firstCells_some w.drew i.size xs.length ⟨g,0,none⟩ xs.length cap (E.all xs) hlx (World.ownsRow.cells (w:=w.drew) h0 (g:=g) rfl)
     have hgr:=grown cap (by omega);have hr:=run_append_grow_src (P:=P) w t tx ty e i z ht hi1 hi2 (some ⟨g,0,none⟩) xs.length cap (E.all xs) hold x m (E.all ys) hs (by omega) (by omega) (growslice_fits (by omega) hb);exact⟨_,_,hr,hgr.1,hgr.2⟩
theorem NZ {tx e:Nat}{rest:List Oper}{o:Oper}(dh:Elem P t e size bytes)(E:Enc α size)
 (hgd:o.guard=none) (s x:Operand) (ho:o.op = .call { callee := .builtin .append,args:=#[s,x],argTypes:=#[t,tx] }) (base:Nat) (v:Value) (xs:List α)
 (hs:a.eval s=v) (iG:Own E e w base v xs) (y:Value) (m:Nat) (ys:List α) (hx:a.eval x=y) (hl:ys.length=m) (Lr:Src P size tx y m (E.all ys) w)
 (hb:(xs.length+m)*bytes≤140737488355328) (hb2:xs.length+m≤maxLen) (jT:base≤w.heap.size)
 (h:∀(v':Value)(w':World),Own E e w' base v' (xs++ys)→Below base w w'→wpList P ops Q rest (a.put o.dst v') w'):wpList P ops Q (o :: rest) a w:=by
 obtain⟨v',w',q8,h2,h3⟩:=agb (ty:=o.type) dh E base v xs iG y m ys hl Lr hb hb2 jT;refine wpList_plain hgd fun _ hK => ?_
 unfold Oper.wp execOp;simp only[ho,resolve,invoke,builtin,Sem.run_bind,Sem.run_pure,Result.andThen_ok,List.map_toArray,jM,List.map_nil,hs,hx,q8];exact hK _ _ (h v' w' h2 h3)
theorem YJ (s:ByteArray):byteCells s=(aI .u8).all (sb s):=by
 rw[wD];unfold byteCells sb;rw[List.map_map];rfl
theorem IE (s:ByteArray):Src Tryz.prog 1 9 (.string s) s.size ((aI .u8).all (sb s)) w:=by
 rw[← YJ];exact Src.ofString w Tryz.underlying9 s
theorem Bytes.take{l:List Int}(h:Bytes l)(k:Nat):Bytes (l.take k):=fun a ha=>h a (List.mem_of_mem_take ha)
structure S8 (w:World)(B:Nat)(A:Option Addr)(len cap:Nat)(xs:List Int):Prop where
 hlen:xs.length=len
 le:len≤cap
 max:cap≤maxLen
 bytes:Bytes xs
 at_:len=0∨∃pb po,A=some ⟨pb,po,none⟩∧pb<B∧∀j,j<len→w.cell? ⟨pb,po+j,none⟩=some (.int .u8 (xs.getD j 0))
theorem Own.other {E:Enc α size}{r:Nat}{xs:List α}(h:Own E e w base v xs)(hg:w.grownBy w' (Option.some r))(hr:r<base):Own E e w' base v xs:=by
 refine⟨h.1, ?_⟩;rcases h.2 with h|⟨g,cap,cur,h1,h2,h3,h4⟩
 · exact .inl h
 · refine .inr ⟨g,cap,cur,h1,h2, ?_,h4⟩
   rw[hg.block g (dn.1 h3).1 (by intro h;have:g=r:=dU h;omega)];exact h3
theorem Q8 (hi:ops[i]? = some oi)(hd:oi.dst=d)
 (hr:Region.ready md ops listed=[i]) (hl:listed.setIfInBounds i true=kD) (hw:Region.wanted oi (yielded ops a.tmps)=true)
 (h:∀K:Act→World→Prop,Shut (∀v w,S w→wpAnyH P md ops Q S fuel kD (a.put d v) w→K (a.put d v) w)→Oper.wp P oi a w K Q):wpAnyH P md ops Q S (fuel+1) listed a w:=by
 subst hd;subst hl;refine wpAnyH_ready hr (by simp) (AllReadyH.cons hi (fun K hK => ?_) AllReadyH.nil);rw[ah hw];exact h K (fun v w hS hW=>hK _ _ hS (fun _=>hW))
theorem gA(l:List α)(i:Nat):l.toArray[i]? = l[i]? := List.getElem?_toArray ..
theorem gS(x : α)(l:List α)(n:Nat):(x :: l)[n+1]? = l[n]? := rfl
theorem nV(x : α)(l:List α):(x :: l)[0]? = some x:=rfl
theorem sT(l:List α)(i:Nat)(a : α):l.toArray.setIfInBounds i a=(l.set i a).toArray:=List.setIfInBounds_toArray ..
theorem gD(x : α)(l:List α)(a : α):(x :: l).set 0 a=a :: l:=rfl
theorem gB(x : α)(l:List α)(n:Nat)(a : α):(x :: l).set (n+1) a=x :: l.set n a:=rfl
def CX(md:Region.Mode)(ops:Array Oper)(listed:Array Bool)(i:Nat):Bool:=Region.noSelect ops&&(Region.free md ops listed i&&(Region.ready md ops listed).contains i)
theorem IU (h:CX md ops listed i=true):Region.noSelect ops=true∧Region.free md ops listed i=true∧(Region.ready md ops listed).contains i=true :=
 ⟨(iU.1 h).1,(iU.1 (iU.1 h).2).1,(iU.1 (iU.1 h).2).2⟩
theorem hT (i:Nat)(hS:S w)(h:wpAnyH P md ops Q S fuel kD a' w)(hi:ops[i]? = some oi:=by(first|(simp only[gA,gS,nV];done)|(simp only[gA,gS,nV];rfl)))
 (hc:CX md ops listed i=true:=by kernel_rfl) (hl:listed.setIfInBounds i true=kD:=by(simp only[sT,gD,gB];rfl)) (hw:Region.wanted oi (yielded ops a.tmps)=true:=by rfl) (hy:∀w,S w→(execOp a.eval oi).run P w = .ok (.value v) w:=by(intro iE hSw;go_simp;try(with_reducible rfl)))
 (ha:a.put oi.dst v=a':=by(simp only[Act.put,sT,gD,gB];rfl)) (hQ:∀c a w,Q (.panic c) (a.put oi.dst v) w→Q (.panic c) a w:=by exact fun _ _ _ h=>h):wpAnyH P md ops Q S (fuel+1) listed a w:=by
 obtain⟨h1,h2,h3⟩:=IU hc;subst hl;subst ha;exact wpAnyH_take hi h1 h2 h3 hQ (.inl ⟨hw,hy⟩) hS h
theorem hU (i:Nat)(hS:S w)(h:wpAnyH P md ops Q S fuel kD a' w)(hi:ops[i]? = some oi:=by(first|(simp only[gA,gS,nV];done)|(simp only[gA,gS,nV];rfl)))
 (hc:CX md ops listed i=true:=by kernel_rfl) (hl:listed.setIfInBounds i true=kD:=by(simp only[sT,gD,gB];rfl)) (hw:Region.wanted oi (yielded ops a.tmps)=true:=by rfl) (hy:∀w,S w→(execOp a.eval oi).run P w = .ok (.value v) w:=by(intro iE hSw;have hz:=hSw;go_simp;try(with_reducible rfl)))
 (ha:a.put oi.dst v=a':=by(simp only[Act.put,sT,gD,gB];rfl)) (hQ:∀c a w,Q (.panic c) (a.put oi.dst v) w→Q (.panic c) a w:=by exact fun _ _ _ h=>h):wpAnyH P md ops Q S (fuel+1) listed a w:=by
 obtain⟨h1,h2,h3⟩:=IU hc;subst hl;subst ha;exact wpAnyH_take hi h1 h2 h3 hQ (.inl ⟨hw,hy⟩) hS h
theorem hV (i:Nat)(hS:S w)(h:wpAnyH P md ops Q S fuel kD a' w)(hi:ops[i]? = some oi:=by(first|(simp only[gA,gS,nV];done)|(simp only[gA,gS,nV];rfl)))
 (hc:CX md ops listed i=true:=by kernel_rfl) (hl:listed.setIfInBounds i true=kD:=by(simp only[sT,gD,gB];rfl)) (hw:Region.wanted oi (yielded ops a.tmps)=true:=by rfl) (hy:∀w,S w→(execOp a.eval oi).run P w = .ok (.value v) w:=by(intro iE hSw;(try dsimp only at hSw);go_simp;try(with_reducible rfl)))
 (ha:a.put oi.dst v=a':=by(simp only[Act.put,sT,gD,gB];rfl)) (hQ:∀c a w,Q (.panic c) (a.put oi.dst v) w→Q (.panic c) a w:=by exact fun _ _ _ h=>h):wpAnyH P md ops Q S (fuel+1) listed a w:=by
 obtain⟨h1,h2,h3⟩:=IU hc;subst hl;subst ha;exact wpAnyH_take hi h1 h2 h3 hQ (.inl ⟨hw,hy⟩) hS h
theorem hN (i:Nat)(hS:S w)(h:wpAnyH P md ops Q S fuel kD a' w)(hi:ops[i]? = some oi:=by(first|(simp only[gA,gS,nV];done)|(simp only[gA,gS,nV];rfl)))
 (hc:CX md ops listed i=true:=by kernel_rfl) (hl:listed.setIfInBounds i true=kD:=by(simp only[sT,gD,gB];rfl)) (hw:Region.wanted oi (yielded ops a.tmps)=false:=by rfl) (ha:a.put oi.dst undef=a':=by(simp only[Act.put,sT,gD,gB];rfl))
 (hQ:∀c a w,Q (.panic c) (a.put oi.dst undef) w→Q (.panic c) a w:=by exact fun _ _ _ h=>h):wpAnyH P md ops Q S (fuel+1) listed a w:=by
 obtain⟨h1,h2,h3⟩:=IU hc;subst hl;subst ha;exact wpAnyH_take hi h1 h2 h3 hQ (.inr ⟨hw,rfl⟩) hS h
theorem hO (i:Nat)
 (h:∀K:Act→World→Prop,Shut (∀v w,S w→wpAnyH P md ops Q S fuel kD (a.put d v) w→K (a.put d v) w)→Oper.wp P oi a w K Q) (hi:ops[i]? = some oi:=by(first|(simp only[gA,gS,nV];done)|(simp only[gA,gS,nV];rfl))) (hd:oi.dst=d:=by(first|(dsimp only;done)|(dsimp only;rfl)|rfl)) (hr:Region.ready md ops listed=[i]:=by kernel_rfl)
 (hl:listed.setIfInBounds i true=kD:=by(simp only[sT,gD,gB];rfl)) (hw:Region.wanted oi (yielded ops a.tmps)=true:=by rfl):wpAnyH P md ops Q S (fuel+1) listed a w:=Q8 hi hd hr hl hw h
theorem Below.of(w w' w'':World)(h:Below w.heap.size w w')(k:Below w'.heap.size w' w''):Below w.heap.size w w'':=h.trans (k.mono h.size)
theorem aiU{K K':Act→World→Prop}(h:∀a w,K a w→K' a w)(hk:wpOp P ops Q i K a w):wpOp P ops Q i K' a w:=wpOp_mono h hk
theorem Q7 {S':World→Prop}(hS:∀w,S w→S' w):∀(fuel:Nat)(listed:Array Bool)(a:Act)(w:World),wpAnyH P md ops Q S fuel listed a w→wpAnyH P md ops Q S' fuel listed a w
 | 0,_,_,_,h=>h
 | fuel+1,_,_,_,h=>⟨h.1,fun i hi=>aiU (fun a' w' h'=>⟨hS _ h'.1,Q7 hS fuel _ a' w' h'.2⟩) (h.2 i hi)⟩
theorem aca {id:Nat}(hm:P.follows .mixedOrders=true)
 (h:wpAnyH P .any ops Q (Below w.heap.size w.drew) ops.size (Array.replicate ops.size false) a w.drew):(Code.region id ops true).wp P Q a w :=
 wp_region_held_drew (S:=Below w.heap.size w.drew) hm (ak _ _) (fun _=>h)
theorem ab' (hi:ops[i]? = some oi)(hd:oi.dst=d)
 (hr:Region.ready md ops listed=[i]) (hl:listed.setIfInBounds i true=kD) (hw:Region.wanted oi (yielded ops a.tmps)=true)
 (h:∀K:Act→World→Prop,Shut (∀v w',Below B w w'→B≤w'.heap.size→wpAnyH P md ops Q (Below w'.heap.size w') fuel kD (a.put d v) w'→K (a.put d v) w')→Oper.wp P oi a w K Q):wpAnyH P md ops Q (Below B w) (fuel+1) listed a w :=
 Q8 hi hd hr hl hw (fun K hK=>h K (fun v w' hb hB hn=>hK v w' hb (Q7 (fun _ h'=>hb.trans (h'.mono hB)) _ _ _ _ hn)))
theorem Ba (i:Nat)(h:wpAnyH P md ops Q (Below B w) fuel kD a' w)(hi:ops[i]? = some oi:=by(first|(simp only[gA,gS,nV];done)|(simp only[gA,gS,nV];rfl)))
 (hc:CX md ops listed i=true:=by kernel_rfl) (hl:listed.setIfInBounds i true=kD:=by(simp only[sT,gD,gB];rfl)) (hw:Region.wanted oi (yielded ops a.tmps)=true:=by rfl) (hy:∀w',Below B w w'→(execOp a.eval oi).run P w' = .ok (.value v) w':=by(intro iE hSw;go_simp;try(with_reducible rfl)))
 (ha:a.put oi.dst v=a':=by(simp only[Act.put,sT,gD,gB];rfl)) (hQ:∀c a w,Q (.panic c) (a.put oi.dst v) w→Q (.panic c) a w:=by exact fun _ _ _ h=>h):wpAnyH P md ops Q (Below B w) (fuel+1) listed a w :=
 hT i (ak _ _) h hi hc hl hw hy ha hQ
theorem abY (i:Nat)
 (h:∀K:Act→World→Prop,Shut (∀v w',Below B w w'→B≤w'.heap.size→wpAnyH P md ops Q (Below w'.heap.size w') fuel kD (a.put d v) w'→K (a.put d v) w')→Oper.wp P oi a w K Q) (hi:ops[i]? = some oi:=by(first|(simp only[gA,gS,nV];done)|(simp only[gA,gS,nV];rfl))) (hd:oi.dst=d:=by(first|(dsimp only;done)|(dsimp only;rfl)|rfl))
 (hr:Region.ready md ops listed=[i]:=by kernel_rfl) (hl:listed.setIfInBounds i true=kD:=by(simp only[sT,gD,gB];rfl)) (hw:Region.wanted oi (yielded ops a.tmps)=true:=by rfl):wpAnyH P md ops Q (Below B w) (fuel+1) listed a w:=ab' hi hd hr hl hw h
end Go.Proofs.YtaobhjliflomaaaGreatDoor
namespace Go.Proofs.YtaobhjliflomaaaGreatDoor
open Go.ChangeShapes Go.WideShapes Go.ChangeAt Go.RowKit
theorem aih {H:Type}{enc:TypeId × Value→H}{P:Program}(hl:laidOutB P=true){W W':World}(hb:Below W.heap.size W W') :
 ∀ (ts:List TypeId)(vs:List Value)(ds:List (DataW H))(p:List MemPlace),(ts.all fun t=>P.readableRec t&&decide (t<P.types.size))=true→(∀x∈p,x.block<W.heap.size) →
   DataW.TrodAll enc P W 0 (fun _=>true) true ts vs ds p→DataW.TrodAll enc P W' 0 (fun b=>decide (b<W.heap.size)) true ts vs ds p:=by
 intro ts
 induction ts with
 | nil =>
   intro vs ds p _ _ h;obtain⟨rfl,rfl,rfl⟩:=trodAll_nil h;exact trodAll_mk0
 | cons t ts ih =>
   intro vs ds p ht hlt h;obtain⟨v,vs',d,ds',p1,q1,rfl,rfl,rfl,h0,hr⟩:=trodAll_cons h;rw[List.all_cons,dH,dH,decide_eq_true_eq]at ht;exact trodAll_cons_mk (Below.trod hl ht.1.1 ht.1.2 h0 hb (fun x hx=>hlt x (List.mem_append_left _ hx))) (ih vs' ds' q1 ht.2 (fun x hx=>hlt x (List.mem_append_right _ hx)) hr)
theorem own:ownKnob Tryz.prog.godebug=none:=by kernel_rfl
theorem laidOut:laidOutB Tryz.prog=true:=by kernel_rfl
theorem acv {H:Type}{enc:TypeId × Value→H}{f:Func}{s:ChangeSpec}{W W':World}{args:Array Value}{ds gs:List (DataW H)}{before:List MemPlace}(hl:laidOutB Tryz.prog=true)
 (abo:(f.params.toList.all fun t=>Tryz.prog.readableRec t&&decide (t<Tryz.prog.types.size))=true) (au:f.resultTypes=#[4])
 (abx:s.vars=[]) (hfn:s.fn H (ds++gs)={ results:=[.lit (.bool true)],args:=ds })
 (hW:DataW.Whole enc Tryz.prog f.params.toList s.vars false W args.toList ds gs before) (hlt:∀x∈before,x.block<W.heap.size) (hb:Below W.heap.size W W') :
 s.post enc Tryz.prog f false true false false W args (.bool true) W':=by
 have hW0:=hW;obtain⟨p,q,hA,hV,rfl,_,_⟩:=hW;refine⟨ds,gs,p++q,[],p,[],hW0, ?_, ?_, ?_,hb.frame _,fun h=>by cases h⟩
 · rw[hfn,au]
   exact trodAll_cons_mk (shut_bool Tryz.underlying4 true) trodAll_mk0
 · rw[hfn]
   exact aih hl hb _ _ _ _ abo (fun x hx=>hlt x (List.mem_append_left _ hx)) hA
 · rw[abx,hfn];rfl
end Go.Proofs.YtaobhjliflomaaaGreatDoor
namespace Go.Proofs.YtaobhjliflomaaaGreatDoor
open Go.RowKit
variable {nw:Int}{b:Nat}{t:TypeId}{v:Value}{w w':World}
theorem Elem.pl:Elem Tryz.prog 28 3 1 8:=⟨Tryz.underlying28,⟨.int .i64 0,by kernel_rfl,rfl⟩,by decide⟩
abbrev IR(w:World)(B:Nat)(A:Option Addr)(n cap:Nat)(xs:List Int):Prop:=iF (aI .i64) w B (.slice A n cap) xs
theorem GM {B:Nat}{A:Option Addr}{n cap:Nat}{xs:List Int}(h:IR w B A n cap xs){i:Nat}(hi:i<n) :
 ∃pb po,A=some ⟨pb,po,none⟩∧pb<B∧w.cell? ⟨pb,po+i,none⟩=some (.int .i64 (xs.getD i 0)):=by
 have hl:=h.len.1;obtain⟨pb,po,h1,h2,h3⟩:=h.at (getD_some xs i (by omega));exact⟨pb,po,h1,h2,by have:=h3 0 _ rfl;rwa[Nat.mul_one,Nat.add_zero]at this⟩
def bP(t:TypeId)(w:World)(b:Nat)(v:Value)(nw:Int):Prop:=w.heap[b]? = some (.cells #[v,.int .i64 nw] t)
theorem bP.new(t:TypeId)(w:World)(v:Value)(nw:Int):bP t (w.alloc (.cells #[v,.int .i64 nw] t)) w.heap.size v nw:=(kW w _).1
theorem bP.lt(h:bP t w b v nw):b<w.heap.size:=(dn.1 h).1
theorem bP.keep(h:bP t w b v nw)(hk:w'.heap[b]? = w.heap[b]?):bP t w' b v nw:=by unfold bP;rw[hk];exact h
theorem bP.below{B:Nat}(h:bP t w b v nw)(hb:Below B w w')(hB:b<B):bP t w' b v nw:=h.keep (hb.block b hB)
theorem bP.over(h:bP t w b v nw)(hb:Below w.heap.size w w'):bP t w' b v nw:=h.below hb h.lt
theorem bP.cells (h:bP t w b v nw):w.cell? ⟨b,0,none⟩=some v∧w.cell? ⟨b,1,none⟩=some (.int .i64 nw) :=
 ⟨by rw[cell_of_row w b 0 _ _ _ h];rfl,by rw[cell_of_row w b 1 _ _ _ h];rfl⟩
theorem bP.bS (h:bP t w b v nw):w.frozen? ⟨b,0,none⟩=false∧w.frozen? ⟨b,1,none⟩=false :=
 ⟨frozen_of_row w b 0 _ _ h,frozen_of_row w b 1 _ _ h⟩
theorem bP.Ur (h:bP t w b v nw)(u:Value):bP t (w.setCell ⟨b,0,none⟩ u) b u nw:=by
 unfold bP;rw[heap_setCell_same w b 0 _ _ _ h];rfl
theorem bP.EL (h:bP t w b v nw)(m:Int):bP t (w.setCell ⟨b,1,none⟩ (.int .i64 m)) b v m:=by
 unfold bP;rw[heap_setCell_same w b 1 _ _ _ h];rfl
theorem bP.other (h:bP t w b v nw)(a:Addr)(u:Value)(hne:b≠a.block):bP t (w.setCell a u) b v nw:=by
 unfold bP;rw[heap_setCell_other w a b u hne];exact h
theorem o9(t:TypeId)(w:World)(v:Value)(nw:Int):Below w.heap.size w (w.alloc (.cells #[v,.int .i64 nw] t)):=(ak _ _).alloc (aj _) _
theorem zx {α : Type}{k:Nat}{E:Enc α k}{e:TypeId}{lo:Nat}{xs:List α}(h:Own E e w lo v xs):∃A c,v = .slice A xs.length c:=by
 rcases h.shape with ⟨rfl,rfl⟩|⟨g,c,rfl,_⟩
 · exact⟨none,0,rfl⟩
 · exact⟨_,c,rfl⟩
end Go.Proofs.YtaobhjliflomaaaGreatDoor
