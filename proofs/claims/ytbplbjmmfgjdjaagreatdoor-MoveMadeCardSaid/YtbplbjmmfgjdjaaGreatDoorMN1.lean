import Derived.Test.YtbplbjmmfgjdjaaGreatDoorRows
import Derived.WalkKit
import Derived.WalkSpells
import Derived.WalkLawsBesides
import Derived.WalkSmall
import Derived.Handy
import Derived.Deep.QuietTactic
import Derived.BigQuiet
import Derived.RegionTactic
import Derived.BigRegion
import Derived.StillTailTactics
import Derived.Lib.Hide
import Derived.Laws.Rows
import Derived.Laws.CopyOwn
import Derived.Laws.CopyRow
import Derived.Deep.MidRow
import Derived.Deep.WholeRow
import Derived.Deep.Cut
import Derived.Deep.RegionLaw
import Derived.Laws.BytesArg
import Derived.MapKept
import Derived.Laws.MakeOwn
import Derived.Maps.AppendAt
import Derived.Deep.AppendSrc
import Derived.Deep.RegionHeld3
import Derived.ProofKit
import Derived.OpenShut
import Derived.Deep.DeepHandedRow
import Derived.Lib.LaidTab
import Derived.Deep.OwnRows
import Derived.Shelf.Abstract
set_option maxRecDepth 100000
set_option maxHeartbeats 64000000
theorem Go.RowKit.Hid.o{p:Prop}(h:Go.RowKit.Hid p):p:=h
theorem Go.Shut.o{p:Prop}(h:Go.Shut p):p:=h
namespace Go.Proofs.YtbplbjmmfgjdjaaGreatDoor
theorem af.{u}:∀ {c : Prop}{_ : Decidable c}, ¬c → ∀ {α : Sort u}{t e : α}, (if c then t else e) = e:=@if_neg
theorem ag.{u}:∀ {c : Prop}{_ : Decidable c}, c → ∀ {α : Sort u}{t e : α}, (if c then t else e) = t:=@if_pos
theorem aA.{gI}:∀ {α : Type gI} [BEq α] [LawfulBEq α] {a b : α}, (a == b) = Bool.false ↔ a ≠ b:=@beq_eq_false_iff_ne
theorem aQ:∀ {p : Prop} [Decidable p], Decidable.decide p = Bool.true ↔ p:=@decide_eq_true_iff
theorem aV:∀ {p : Prop} [Decidable p], ¬p → Decidable.decide p = Bool.false:=@decide_eq_false
theorem aR:∀ {p : Prop} [Decidable p], p → Decidable.decide p = Bool.true:=@decide_eq_true
theorem bB.{gI}:∀ {α : Type gI} [BEq α] [LawfulBEq α] {a b : α}, (a == b) = Bool.true ↔ a = b:=@beq_iff_eq
theorem jv:∀ {p : Prop}{_ : Decidable p}, Decidable.decide p = Bool.false ↔ ¬p:=@decide_eq_false_iff_not
theorem gM.{gI}:∀ {α : Type gI}{a b : α}, a ∈ [b] ↔ a = b:=@List.mem_singleton
theorem dQ.{gI}:∀ {α : Type gI}{a : α}{s t : List α}, a ∈ s ++ t ↔ a ∈ s ∨ a ∈ t:=@List.mem_append
theorem ik.{gI}:∀ {α : Type gI}{b : α}{l : List α}{a : α}, a ∈ b :: l ↔ a = b ∨ a ∈ l:=@List.mem_cons
theorem r9.{gI, yN}:∀ {α : Type gI}{β : Type yN}{l : List α}{a : α}{f : α → β}, a ∈ l → f a ∈ List.map f l:=@List.mem_map_of_mem
theorem gV:∀(b : Bool), (Bool.true && b) = b:=@Bool.true_and
theorem lq.{gI}:∀ {α : Type gI}{i : Nat}{l : List α}, (List.drop i l).length = l.length - i:=@List.length_drop
theorem qj.{gI}:∀ {α : Type gI}{x : α}{l : List α}, [x] ++ l = x :: l:=@List.singleton_append
theorem jq.{gI, yN}:∀ {α : Type gI}{β : Type yN}(a : α)(f : α → β), Option.map f (Option.some a) = Option.some (f a):=@Option.map_some
theorem j6:∀ {x y : Bool}, (x && y) = Bool.true ↔ x = Bool.true ∧ y = Bool.true:=@Bool.and_eq_true_iff
theorem aj:∀(n : Nat), n ≤ n:=@Nat.le_refl
theorem ax.{u}:∀ {α : Type u}{mY bs : List α}, (mY ++ bs).length = mY.length + bs.length:=@List.length_append
theorem ak:∀(B : Nat)(w : Go.World), Go.RowKit.Below B w w:=@Go.RowKit.Below.refl
theorem cZ.{gI}:∀ {α : Type gI}{l : List α}{i : Nat}(h : i < l.length), l[i]? = Option.some l[i]:=@List.getElem?_eq_getElem
theorem eQ.{gI}:∀ {α : Type gI}{i : Nat}{a : α}{l : List α}, l[i]? = Option.some a ↔ ∃(h : i < l.length), l[i] = a:=@List.getElem?_eq_some_iff
theorem bf.{u}:∀ {α : Type u}{a : α}{mY : List α}, (a :: mY).length = mY.length + 1:=@List.length_cons
theorem dB.{gI}:∀ {α : Type gI}{i : Nat}{b : α}{xs : Array α}, xs[i]? = Option.some b ↔ ∃(h : i < xs.size), xs[i] = b:=@Array.getElem?_eq_some_iff
theorem aZ.{u}:∀ {α : Type u}(val FD : α), (Option.some val = Option.some FD) = (val = FD):=@Option.some.injEq
theorem bQ.{u}:∀ {α : Type u}(mY bs cs : List α), mY ++ bs ++ cs = mY ++ (bs ++ cs):=@List.append_assoc
theorem fe.{gI}:∀ {α : Type gI}{l : List α}{i : Nat}{a : α}, l[i]? = Option.some a → a ∈ l:=@List.mem_of_getElem?
theorem bH.{u, v}:∀ {α : Type u}{β : Type v}(fst : α)(snd : β)(QW : α)(Ws : β), ((fst, snd) = (QW, Ws)) = (fst = QW ∧ snd = Ws):=@Prod.mk.injEq
theorem kg.{gI}:∀ {α : Type gI}{l : List α}{i : Nat}{a : α}, l.getD i a = l[i]?.getD a:=@List.getD_eq_getElem?_getD
theorem fo.{u}:∀ {α : Type u}{a : α}, [a].length = 1:=@List.length_singleton
theorem dJ:∀(a b : Bool), ((a && b) = Bool.true) = (a = Bool.true ∧ b = Bool.true):=@Bool.and_eq_true
theorem gJ:∀(n : Int), Go.IntKind.i64.wrap n = (n + 9223372036854775808) % 18446744073709551616 - 9223372036854775808:=@Go.IntKind.wrap_i64
theorem dE.{u}:∀ {α : Type u}{a : α}{mY bs : List α}, a :: mY ++ bs = a :: (mY ++ bs):=@List.cons_append
theorem gK:∀ {w w' : Go.World}{a : Go.Addr}, w'.heap[a.block]? = w.heap[a.block]? → w'.cell? a = w.cell? a:=@Go.World.cell?_of_block
theorem ql:∀ {a b : Int}, 0 ≤ a → a.tmod b = a % b:=@Int.tmod_eq_emod_of_nonneg
theorem eB:∀ {n m k : Nat}, n < m → m ≤ k → n < k:=@Nat.lt_of_lt_of_le
theorem eF.{gI, yN}:∀ {α : Type gI}{β : Type yN}{mY : List α}(f : α → β), (List.map f mY).length = mY.length:=@List.length_map
theorem bN:∀ {n m k : Nat}, n ≤ m → m ≤ k → n ≤ k:=@Nat.le_trans
theorem dM.{u}:∀ {α : Type u}{val FD : α}, Option.some val = Option.some FD → val = FD:=@Option.some.inj
theorem dX.{u}:∀ {α : Type u}, ([] : List α).length = 0:=@List.length_nil
theorem ek:∀(n : Nat), 0 ≤ n:=@Nat.zero_le
theorem gL.{u}:∀ {α : Type u}(mY : List α), mY ++ [] = mY:=@List.append_nil
theorem gy:∀(w : Go.World)(a : Go.Addr)(u : Go.Value)(k : Nat), k ≠ a.block → (w.setCell a u).heap[k]? = w.heap[k]?:=@Go.RowKit.Below.heap_setCell
theorem kM.{gI}:∀ {α : Type gI}{l : List α}, l.length = 0 → l = []:=@List.eq_nil_of_length_eq_zero
theorem lu:∀(w : Go.World)(o : Go.Obj), (w.alloc o).heap[w.heap.size]? = Option.some o ∧ ∀(r' : Nat), r' < w.heap.size → (w.alloc o).heap[r']? = w.heap[r']?:=@Go.MapKept.heap_alloc
theorem gW.{gI}:∀ {α : Type gI}{i : Nat}{l : List α}, (List.take i l).length = Min.min i l.length:=@List.length_take
theorem gX.{u}:∀ {α : Type u}(mY : List α), [] ++ mY = mY:=@List.nil_append
theorem gY.{gI, yN}:∀ {α : Type gI}{β : Type yN}{f : α → β}{l : List α}{i : Nat}, (List.map f l)[i]? = Option.map f l[i]?:=@List.getElem?_map
theorem iL.{gI, yN}:∀ {α : Type gI}{β : Type yN}{f : α → β}{l₁ l₂ : List α}, List.map f (l₁ ++ l₂) = List.map f l₁ ++ List.map f l₂:=@List.map_append
theorem qm.{u, v}:∀ {α : Type u}{β : Type v}{x : α}{xs : List α}{f : α → List β}, List.flatMap f (x :: xs) = f x ++ List.flatMap f xs:=@List.flatMap_cons
theorem mP.{gI}:∀ {α : Type gI}{i : Nat}{l : List α}, l.length ≤ i → List.take i l = l:=@List.take_of_length_le
theorem lQ:∀(w : Go.World)(o : Go.Obj), (w.alloc o).heap.size = w.heap.size + 1:=@Go.World.size_alloc
theorem jr.{u, v}:∀ {α : Type u}{β : Type v}{f : α → β}{a : α}{l : List α}, List.map f (a :: l) = f a :: List.map f l:=@List.map_cons
theorem ae{p:Prop}(h:p):Go.RowKit.Hid p:=h
end Go.Proofs.YtbplbjmmfgjdjaaGreatDoor
namespace Go.Proofs.YtbplbjmmfgjdjaaGreatDoor
open Go.RowKit
variable {ac ar:Bool}{s:ByteArray}{Q:Exit→Act→World→Prop}{c r x:Int}{b b' ks sh:List Int}{base deep f g m n size:Nat}{P:Program}{α:Type}{e:TypeId}{v:Value}{a w w':World}
theorem run_storeVar_row (w:World)(g:Nat)(ty t:TypeId)(cur cells:Array Value)(hg:w.heap[g]? = some (.cells cur t))(hs:cur.size=cells.size)
 (hi:(P.info? ty).map (·.size)=some cells.size) (h1:∀v∈cells.toList,v.oneCell'=true) :
 (storeVar ty ⟨g,0,none⟩ (.agg cells)).run P w = .ok () (w.setRow g cells):=by
 have:=run_storeCells_at P g 0 t cells.toList 0 cur w hg (by simp;omega) h1;cases hq:P.info? ty with
 | none=>simp[hq]at hi
 | some i =>
   have hs':cells.size=i.size:=by simp[hq]at hi;omega
   simp[storeVar,sizeOf,typeInfo,hq,Value.cells,hs',this];congr 1;have:List.drop i.size cur.toList=[]:=by rw[List.drop_eq_nil_iff];simp;omega
   rw[this];simp
theorem wp_store_row {op:Oper}{a:Act}{K:Act→World→Prop}(ty:TypeId)(x y:Operand)(ho:op.op = .store ty x y)
 (g:Nat) (t:TypeId) (cur cells:Array Value) (hx:a.eval x = .pointer (some ⟨g,0,none⟩)) (hy:a.eval y = .agg cells) (hg:w.heap[g]? = some (.cells cur t)) (hs:cur.size=cells.size)
 (hi:(P.info? ty).map (·.size)=some cells.size) (h1:∀v∈cells.toList,v.oneCell'=true)
 (h:K (a.put op.dst undef) (w.setRow g cells)):op.wp P a w K Q:=by
 unfold Oper.wp execOp;simp only[ho,hx,hy,Instr.storeAt,Instr.sureAddr,Sem.run_bind,Sem.run_pure,Result.andThen_ok,run_storeVar_row w g ty t cur cells hg hs hi h1];exact h
theorem wpList_store_row {ops:Array Oper}{rest:List Oper}{op:Oper}{a:Act}(hgd:op.guard=none)(ty:TypeId)(x y:Operand)(ho:op.op = .store ty x y)
 (g:Nat) (t:TypeId) (cur cells:Array Value) (hx:a.eval x = .pointer (some ⟨g,0,none⟩)) (hy:a.eval y = .agg cells) (hg:w.heap[g]? = some (.cells cur t)) (hs:cur.size=cells.size)
 (hi:(P.info? ty).map (·.size)=some cells.size) (h1:∀v∈cells.toList,v.oneCell'=true)
 (h:wpList P ops Q rest (a.put op.dst undef) (w.setRow g cells)):wpList P ops Q (op :: rest) a w :=
 wpList_plain hgd fun _ hK=>wp_store_row ty x y ho g t cur cells hx hy hg hs hi h1 (hK _ _ h)
def U(l:List Int):List Value:=l.map (Value.int .u32)
structure Elem (P:Program)(t e:TypeId)(size bytes:Nat):Prop where
 und:P.underlying t=some (.slice e)
 inf:∃z:Value,(P.info? e).map (fun i=>(i.zero,i.size,i.bytes))=some (some z,size,bytes)∧z.cells.size=size
 pos:0<size
structure Enc (α : Type)(size:Nat) where
 f : α → List Value
 len:∀a,(f a).length=size
 one:∀a,∀u∈f a,u.oneCell'=true
def Enc.all{α : Type}{size:Nat}(E:Enc α size)(xs:List α):List Value:=xs.flatMap E.f
theorem Enc.mK (E:Enc α size)(xs:List α):(E.all xs).length=xs.length*size:=by
 unfold Enc.all
 induction xs with
 | nil=>simp
 | cons a l ih=>rw[qm,ax,ih,E.len,bf,Nat.add_mul];omega
theorem Enc.all_append (E:Enc α size)(xs ys:List α):E.all (xs++ys)=E.all xs++E.all ys:=by
 unfold Enc.all;exact List.flatMap_append ..
theorem Enc.xm (E:Enc α size)(xs:List α):∀u∈E.all xs,u.oneCell'=true:=by
 intro u hu;unfold Enc.all at hu;rw[List.mem_flatMap]at hu;obtain⟨a,_,h⟩:=hu;exact E.one a u h
theorem Enc.at (E:Enc α size)(xs:List α)(i j:Nat)(a : α)(ha:xs[i]? = some a)(hj:j<size):(E.all xs)[i*size+j]? = (E.f a)[j]? := by
 unfold Enc.all
 induction xs generalizing i with
 | nil=>simp at ha
 | cons b l ih =>
   rw[qm];cases i with
   | zero =>
     simp at ha;subst ha;rw[Nat.zero_mul,Nat.zero_add,List.getElem?_append_left (by rw[E.len];exact hj)]
   | succ i =>
     have:(i+1)*size=i*size+size:=Nat.succ_mul i size;rw[List.getElem?_append_right (by rw[E.len];omega),E.len];have e:(i+1)*size+j - size=i*size+j:=by omega
     rw[e];exact ih i (by simpa using ha)
def Own{α : Type}{size:Nat}(E:Enc α size)(e:TypeId)(w:World)(base:Nat)(v:Value)(xs:List α):Prop:=w.ownsRow base e size v xs.length (E.all xs)
theorem Own.nil(E:Enc α size)(e:TypeId)(w:World)(base:Nat):Own E e w base (.slice none 0 0) ([]:List α):=World.ownsRow_nil w base e size
theorem Own.alloc{E:Enc α size}{xs:List α}(h:Own E e w base v xs)(o:Obj):Own E e (w.alloc o) base v xs:=World.ownsRow.alloc h o
theorem Own.drew{E:Enc α size}{xs:List α}(h:Own E e w base v xs):Own E e w.drew base v xs:=h
theorem Own.drewN{E:Enc α size}{xs:List α}(h:Own E e w base v xs)(n:Nat):Own E e (w.drewN n) base v xs:=h
theorem Own.mono {E:Enc α size}{Qe:Nat}{xs:List α}(h:Own E e w base v xs)(hb:Qe≤base):Own E e w Qe v xs:=by
 refine⟨h.1, ?_⟩;rcases h.2 with h|⟨g,cap,cur,h1,h2,h3⟩
 · exact .inl h
 · exact .inr ⟨g,cap,cur,h1,by omega,h3⟩
theorem Own.below {E:Enc α size}{B:Nat}{xs:List α}(h:Own E e w base v xs)(hb:Below B w w')(hB:w.heap.size≤B):Own E e w' base v xs:=by
 refine⟨h.1, ?_⟩;rcases h.2 with h|⟨g,cap,cur,h1,h2,h3,h4⟩
 · exact .inl h
 · refine .inr ⟨g,cap,cur,h1,h2, ?_,h4⟩
   rw[hb.block g (by have:=(dB.1 h3).1;omega)];exact h3
theorem Own.shape {E:Enc α size}{xs:List α}(h:Own E e w base v xs) :
 (v = .slice none 0 0∧xs=[])∨∃g cap,v = .slice (some ⟨g,0,none⟩) xs.length cap∧base≤g∧g<w.heap.size∧xs.length≤cap∧cap≤maxLen:=by
 rcases h.2 with ⟨h1,h2⟩|⟨g,cap,cur,h1,h2,h3,h4,h5,_⟩
 · exact .inl ⟨h1,List.length_eq_zero_iff.1 h2⟩
 · exact .inr ⟨g,cap,h1,h2,(dB.1 h3).1,h4,h5⟩
theorem Own.cells {E:Enc α size}{cap:Nat}{xs:List α}(h:Own E e w base (.slice (some ⟨g,0,none⟩) n cap) xs)(j:Nat)(u:Value)(hj:(E.all xs)[j]? = some u) :
 w.cell? ⟨g,j,none⟩=some u:=by
 have:=World.ownsRow.cells h (g:=g) rfl j u hj;rw[Addr.add_mid,Nat.zero_add]at this;exact this
theorem oL {t e bytes:Nat}{ops:Array Oper}{rest:List Oper}{o:Oper}{a:Act}(df:Elem P t e size bytes)(E:Enc α size)
 (hgd:o.guard=none) (s x:Operand) (ho:o.op = .call { callee := .builtin .append,args:=#[s,x],argTypes:=#[t,t] }) (base:Nat) (v:Value) (xs:List α)
 (hs:a.eval s=v) (gQ:Own E e w base v xs) (ad:Addr) (m c:Nat) (ys:List α) (hx:a.eval x = .slice (some ad) m c) (hl:ys.length=m)
 (hc:∀(j:Nat)(u:Value),(E.all ys)[j]? = some u→w.cell? (ad.add j)=some u) (hb:(xs.length+m)*bytes≤140737488355328) (hb2:xs.length+m≤maxLen) (jX:base≤w.heap.size)
 (h:∀(v':Value)(w':World),Own E e w' base v' (xs++ys)→Below base w w'→wpList P ops Q rest (a.put o.dst v') w'):wpList P ops Q (o :: rest) a w:=by
 obtain⟨z,hi,hz⟩:=df.inf;obtain⟨i,hi1,hi2,hi3,hi4⟩:=info_parts hi;refine wpList_append_own w hgd s x t ho base e i z size bytes df.und hi1 hi2 hi3 hi4 hz df.pos v xs.length (E.all xs) hs gQ ad m c (E.all ys) hx (by rw[E.mK,hl]) hc (E.xm ys) hb2 hb jX ?_;intro v' w' h1 h2 _;refine h v' w' ?_ ?_
 · unfold Own;rw[E.all_append,ax,hl];exact h1
 · refine Below.grown (ak _ _) h2 jX ?_
   intro k hk;exact(World.ownsRow.lt gQ k hk).1
theorem gD (C:Array Value)(t:TypeId)(l:List Value)(hC:C.toList=l)(j:Nat)(u:Value)(hj:l[j]? = some u):(w.alloc (.cells C t)).cell? ((⟨w.heap.size,0,none⟩:Addr).add j)=some u:=by
 rw[Addr.add_mid,Nat.zero_add,World.cell?_alloc_at _ _ _ _ rfl];subst hC
 simpa using hj
def aJ(k:IntKind):Enc Int 1:={ f:=fun n=>[.int k n],len:=fun _=>rfl,one:=fun _ u hu=>by simp at hu;subst hu;rfl }
theorem wS (k:IntKind)(l:List Int):(aJ k).all l=l.map (Value.int k):=by
 unfold Enc.all aJ
 induction l with
 | nil=>rfl
 | cons a l ih=>rw[qm,jr,ih];rfl
theorem aa' (k:IntKind)(xs:List Int)(i:Nat)(h:i<xs.length):(xs.map (Value.int k))[i]? = some (.int k (xs.getD i 0)):=by
 simp[List.getElem?_eq_getElem h,List.getD_eq_getElem?_getD]
theorem Own.zC {k:IntKind}{cap:Nat}{xs:List Int}(h:Own (aJ k) e w base (.slice (some ⟨g,0,none⟩) n cap) xs)(i:Nat)(hi:i<xs.length) :
 w.cell? ⟨g,i,none⟩=some (.int k (xs.getD i 0)):=by
 apply Own.cells h;rw[wS];exact aa' k xs i hi
theorem Own.made (E:Enc α size)(e:TypeId)(w:World)(base g cap:Nat)(cur:Array Value)(hg:g=w.heap.size)(hb:base≤w.heap.size)(hm:cap≤maxLen)(hs:cur.size=cap*size) :
 Own E e (w.alloc (.cells cur e)) base (.slice (some ⟨g,0,none⟩) 0 cap) ([]:List α):=by subst hg;exact World.ownsRow_made w cur cap hb hm hs
def lenOf:Value→Nat
 | .slice _ n _=>n
 | _=>0
theorem Own.some {E:Enc α size}{xs:List α}(h:Own E e w base v xs)(hne:0<xs.length) :
 ∃g cap,v = .slice (some ⟨g,0,none⟩) xs.length cap∧base≤g∧g<w.heap.size∧xs.length≤cap∧cap≤maxLen:=by
 rcases h.shape with ⟨_,rfl⟩|h
 · exact absurd hne (by simp)
 · exact h
theorem Cu {row:Option Nat}(h:w.grownBy w' row){a:Addr}(hlt:a.block<w.heap.size)(hne:some a.block≠row):w'.cell? a=w.cell? a:=by
 simp only[World.cell?,h.block a.block hlt hne]
theorem grownBy.fT(w:World)(r:Option Nat):w.grownBy w r:=⟨rfl,rfl,rfl,aj _,fun _ _ _=>rfl⟩
theorem grownBy.trans' {b c:World}{r:Option Nat}(h:a.grownBy b r)(k:b.grownBy c r):a.grownBy c r :=
 ⟨k.os.trans h.os,k.tape.trans h.tape,k.output.trans h.output,bN h.size k.size,fun j hj hr=>(k.block j (eB hj h.size) hr).trans (h.block j hj hr)⟩
theorem grownBy.gU {b:Nat}(h:a.grownBy w (some b))(o:Nat)(v:Value):a.grownBy (w.setCell ⟨b,o,none⟩ v) (some b) :=
 ⟨h.os,h.tape,h.output,by simpa using h.size,fun j hj hr=>by
  rw[gy _ _ _ _ (by intro e;exact hr (by rw[e]))];exact h.block j hj hr⟩
theorem grownBy.fO{r:Option Nat}(h:a.grownBy w r)(n:Nat):a.grownBy (w.drewN n) r:=⟨h.os,h.tape,h.output,h.size,h.block⟩
theorem grownBy.below' {r:Option Nat}(h:a.grownBy w r)(k:Below w.heap.size w w'):a.grownBy w' r :=
 ⟨k.os.trans h.os,k.tape.trans h.tape,k.output.trans h.output,bN h.size k.size,fun j hj hr=>(k.block j (eB hj h.size)).trans (h.block j hj hr)⟩
theorem grownBy.I1 {b:Nat}(h:a.grownBy w (some b))(cs:Array Value):a.grownBy (w.setRow b cs) (some b) :=
 ⟨h.os,h.tape,h.output,by simpa using h.size,fun j hj hr=>by
  rw[Go.setRow_other w b j cs (by intro e;exact hr (by rw[e]))];exact h.block j hj hr⟩
theorem Ny{k:IntKind}{a b:Int}(h:a=b):Ending.returned (.int k a) = .returned (.int k b):=by rw[h]
def sb(s:ByteArray):List Int:=s.data.toList.map (fun b=>(b.toNat:Int))
theorem bC(s:ByteArray):(sb s).length=s.size:=by unfold sb;simp
theorem qN (s:ByteArray)(k:Nat)(h:k<s.size):(sb s)[k]? = some ((s[k].toNat:Nat):Int):=by
 unfold sb;rw[gY,cZ (by simpa using h)];rfl
theorem uS (s:ByteArray):∀a∈sb s,0≤a∧a≤255:=by
 intro a ha;unfold sb at ha;rw[List.mem_map]at ha;obtain⟨b,_,rfl⟩:=ha;have:=b.toNat_lt;omega
theorem uT (s:ByteArray)(k:Nat)(h:k<s.size):(sb s).getD k 0=((s[k].toNat:Nat):Int):=by
 rw[kg,qN s k h];rfl
def Bytes(l:List Int):Prop:=∀a∈l,0≤a∧a≤255
theorem Bytes.append {a:List Int}(h:Bytes a)(k:Bytes b):Bytes (a++b):=by
 intro x hx;rw[dQ]at hx;rcases hx with hx|hx
 · exact h x hx
 · exact k x hx
theorem Bytes.nil:Bytes []:=by intro a ha;simp at ha
theorem jN (l:List Int)(h:Bytes l):sb (strOfNums l)=l:=by
 unfold sb;rw[strOfNums_data,List.map_map]
 conv=>rhs;rw[← List.map_id l]
 apply List.map_congr_left;intro a ha;have:=h a ha;simp only[Function.comp,id];rw[UInt8.toNat_ofNat_of_lt' (by show a.toNat<256;omega)];omega
theorem nA (s:ByteArray):strOfNums (sb s)=s:=by
 have:(strOfNums (sb s)).data=s.data:=by
  apply Array.toList_inj.1;rw[strOfNums_data];unfold sb;rw[List.map_map]
  conv=>rhs;rw[← List.map_id s.data.toList]
  apply List.map_congr_left;intro a _;simp only[Function.comp,id,Int.toNat_natCast];exact UInt8.ofNat_toNat
 cases s with
 | mk d => 
   cases hq:strOfNums (sb ⟨d⟩)with
   | mk e=>rw[hq]at this;simp only at this;rw[this]
def aU(c:Int):Bool:=decide (65≤c∧c≤90)
def isLet(c:Int):Bool:=decide (65≤c∧c≤90∨97≤c∧c≤122)
def isNum(c:Int):Bool:=decide (48≤c∧c≤57)
theorem gu{a b:Bool}(h:a=b):Ending.returned (.bool a) = .returned (.bool b):=by rw[h]
theorem aha{a b:Int}{p q:Bool}(h:a=b)(h2:p=q):Ending.returned (.tuple #[.int .i64 a,.bool p]) = .returned (.tuple #[.int .i64 b,.bool q]):=by rw[h,h2]
theorem Mh(h:65≤c)(h2:c≤90):aU c=true:=by unfold aU;rw[aQ];omega
theorem SN(h:c<65∨90<c):aU c=false:=by unfold aU;rw[jv];omega
def oC(j:Nat)(c:Int):Bool:=isLet c||(decide (0<j)&&isNum c)
def iI(l:List Int):Bool:=decide (∀j,j<l.length→oC j (l.getD j 0)=true)&&decide (1≤l.length∧l.length≤12)
def bG(n:Int):List Int:=if n<0∨701<n then []else if n<26 then [65+n]else [64+n / 26,65+n % 26]
def jC(l:List Int):Bool:=decide (1≤l.length∧l.length≤2)&&(aU (l.getD 0 0)&&aU (l.getD (l.length - 1) 0))
def l8(l:List Int):Int:=if jC l=true then (if l.length=1 then l.getD 0 0 - 65 else 26*(l.getD 0 0 - 64)+(l.getD 1 0 - 65))else 0
theorem H8 (s:ByteArray)(k:Nat)(hk:k<s.size)(h:oC k ((sb s).getD k 0)=false):iI (sb s)=false:=by
 unfold iI;rw[aV (by intro hc;have:=hc k (by rw[bC];exact hk);rw[h]at this;cases this),Bool.false_and]
theorem Ul (s:ByteArray)(h:∀j,j<s.size→oC j ((sb s).getD j 0)=true):iI (sb s)=decide (1≤s.size∧s.size≤12):=by
 unfold iI;rw[aR (by rw[bC];exact h),gV,bC]
theorem nz (a b:List Int):strOfNums a++strOfNums b=strOfNums (a++b):=by
 have h:(strOfNums a++strOfNums b).data=(strOfNums (a++b)).data:=by
  apply Array.toList_inj.1;rw[ByteArray.data_append,Array.toList_append,strOfNums_data,strOfNums_data,strOfNums_data,iL]
 cases hx:strOfNums a++strOfNums b with
 | mk d =>
   cases hy:strOfNums (a++b)with
   | mk e=>rw[hx,hy]at h;simp only at h;rw[h]
theorem ahK (a b:ByteArray):sb (a++b)=sb a++sb b:=by
 unfold sb;rw[ByteArray.data_append,Array.toList_append,iL]
theorem nu{a b:ByteArray}(h:a=b):Ending.returned (.string a) = .returned (.string b):=by rw[h]
theorem ajL{a b:ByteArray}(h:a=b):Value.string a = .string b:=by rw[h]
def bn(u:Nat):List Int:=if u<10 then [48+(u:Int)]else bn (u / 10)++[48+((u % 10:Nat):Int)]
termination_by u
decreasing_by omega
theorem pR(u:Nat)(h:u<10):bn u=[48+(u:Int)]:=by rw[bn,ag h]
theorem uC(u:Nat)(h:¬ u<10):bn u=bn (u / 10)++[48+((u % 10:Nat):Int)]:=by rw[bn,af h]
def dO(sh:List Int)(c r:Int):Bool:=(decide (sh=[])||iI sh)&&decide (0≤c∧c≤701∧0≤r∧r≤998)
def bE (sh:List Int)(c r:Int)(ac ar:Bool):List Int :=
 if dO sh c r=true then (((if sh=[]then []else sh++[33])++(if ac=true then [36]else []))++bG c++(if ar=true then [36]else []))++bn (r+1).toNat else []
theorem qH(a:ByteArray):a.toList=a.data.toList:=ByteArray.toList_eq a
theorem pg (a b:ByteArray)(h:¬ a=b):¬ a.toList=b.toList:=by
 rw[qH,qH,Array.toList_inj];intro hd;apply h;cases a;cases b;simp only at hd;rw[hd]
theorem qg (a:ByteArray)(h:¬ a.size=0):¬ a.toList=[]:=by
 rw[qH];intro hd;apply h;show a.data.size=0;rw[← Array.length_toList,hd];rfl
theorem wD (s:ByteArray)(h:s.size=0):s=⟨#[]⟩:=by
 cases s with
 | mk d => have:d=#[]:=Array.eq_empty_of_size_eq_zero h
           rw[this]
theorem Tt(n:Int):(bG n).length≤2:=by unfold bG;split <;> (try split) <;> simp
theorem Mq (u:Nat):(bn u).length≤u+1:=by
 induction u using Nat.strongRecOn with
 | _ u ih =>
   by_cases h:u<10
   · rw[pR u h];simp
   · rw[uC u h,ax]
     have:=ih (u / 10) (by omega);simp only[bf,dX];omega
theorem MF (h:dO sh c r=true):0≤c∧c≤701∧0≤r∧r≤998:=by
 unfold dO at h;rw[dJ,aQ]at h;exact h.2
theorem jV{a b:ByteArray}{x y:List Int}(h:a=strOfNums x)(k:b=strOfNums y):a++b=strOfNums (x++y):=by rw[h,k,nz]
theorem I9:(⟨#[]⟩:ByteArray)=strOfNums []:=rfl
theorem zW:(⟨#[36]⟩:ByteArray)=strOfNums [36]:=rfl
theorem I8:(⟨#[33]⟩:ByteArray)=strOfNums [33]:=rfl
theorem yh {w0 w1 w2 w3:World}(h0:Below w.heap.size w w0)(h1:Below w0.heap.size w0 w1)(h2:Below w1.heap.size w1 w2)(h3:Below w2.heap.size w2 w3):Below w.heap.size w w3:=by
 have b1:=h0.trans (h1.mono h0.size);have b2:=b1.trans (h2.mono b1.size);exact b2.trans (h3.mono b2.size)
theorem Fs (p:Int→Bool):∀(a a' b b':List Int),(∀x∈a,p x=true)→(∀x∈a',p x=true)→(∀x,b.head? = some x→p x=false)→(∀x,b'.head? = some x→p x=false)→a++b=a'++b'→a=a'∧b=b'
 | [],[],_,_,_,_,_,_,h=>⟨rfl,h⟩
 | [],x :: a',b,b',_,h2,h3,_,h=>by
   rw[gX]at h;have:=h3 x (by rw[h];rfl);rw[h2 x (by simp)]at this;cases this
 | x :: a,[],b,b',h1,_,_,h4,h=>by
   rw[gX]at h;have:=h4 x (by rw[← h];rfl);rw[h1 x (by simp)]at this;cases this
 | x :: a,y :: a',b,b',h1,h2,h3,h4,h=>by
   rw[dE,dE]at h;injection h with e h;obtain⟨r1,r2⟩:=Fs p a a' b b' (fun z hz=>h1 z (by simp[hz])) (fun z hz=>h2 z (by simp[hz])) h3 h4 h;exact⟨by rw[e,r1],r2⟩
theorem wm (c:Int):∀x∈bG c,aU x=true:=by
 intro x hx;unfold bG at hx;split at hx
 · simp at hx
 · split at hx
   · simp at hx;subst hx;exact Mh (by omega) (by omega)
   · simp at hx
     rcases hx with rfl|rfl
     · exact Mh (by omega) (by omega)
     · exact Mh (by omega) (by omega)
theorem Nh (c:Int)(h0:0≤c)(h1:c≤701):jC (bG c)=true∧l8 (bG c)=c:=by
 have A7:=wm c;by_cases h:c<26
 · have e:bG c=[65+c]:=by unfold bG;rw[af (by omega),ag h]
   have hc:jC (bG c)=true:=by rw[e]at A7 ⊢;unfold jC;have:=A7 (65+c) (by simp);simp[this]
   refine⟨hc, ?_⟩;unfold l8;rw[ag hc,e];simp;omega
 · have e:bG c=[64+c / 26,65+c % 26]:=by unfold bG;rw[af (by omega),af h]
   have hc:jC (bG c)=true:=by rw[e]at A7 ⊢;unfold jC;have g1:=A7 (64+c / 26) (by simp);have g2:=A7 (65+c % 26) (by simp);simp[g1,g2]
   refine⟨hc, ?_⟩;unfold l8;rw[ag hc,e];simp;omega
theorem sS(h:aU x=true):65≤x∧x≤90:=by unfold aU at h;rw[aQ]at h;exact h
theorem jE(h:isNum x=true):48≤x∧x≤57:=by unfold isNum at h;rw[aQ]at h;exact h
theorem aad (l:List Int)(h:jC l=true):bG (l8 l)=l∧0≤l8 l∧l8 l≤701:=by
 have hr:l8 l=(if l.length=1 then l.getD 0 0 - 65 else 26*(l.getD 0 0 - 64)+(l.getD 1 0 - 65)):=by unfold l8;rw[ag h]
 unfold jC at h;rw[dJ,dJ,aQ]at h;obtain⟨⟨h1,h2⟩,h3,h4⟩:=h
 match l,h1,h2,h3,h4,hr with
 | [a],_,_,h3,_,hr =>
   have:=sS h3;simp at this hr;rw[hr];refine⟨?_,by omega,by omega⟩;unfold bG;rw[af (by omega),ag (by omega)];congr 1;omega
 | [a,b],_,_,h3,h4,hr =>
   have g1:=sS h3;have g2:=sS h4;simp at g1 g2 hr;rw[hr];refine⟨?_,by omega,by omega⟩;unfold bG;rw[af (by omega),af (by omega)];congr 1
   · omega
   · congr 1;omega
theorem rH (u:Nat):∀x∈bn u,isNum x=true:=by
 induction u using Nat.strongRecOn with
 | _ u ih =>
   intro x hx;by_cases h:u<10
   · rw[pR u h]at hx;simp at hx;subst hx;unfold isNum;rw[aQ];omega
   · rw[uC u h,dQ]at hx
     rcases hx with hx|hx
     · exact ih (u / 10) (by omega) x hx
     · simp at hx;subst hx;unfold isNum;rw[aQ];omega
def dG(l:List Int):Int:=l.foldl (fun n d=>10*n+(d - 48)) 0
theorem z8(l:List Int)(d:Int):dG (l++[d])=10*dG l+(d - 48):=by unfold dG;rw[List.foldl_append];rfl
theorem Jh (u:Nat):dG (bn u)=u:=by
 induction u using Nat.strongRecOn with
 | _ u ih =>
   by_cases h:u<10
   · rw[pR u h];unfold dG;simp;omega
   · rw[uC u h,z8,ih (u / 10) (by omega)];omega
theorem uD (u:Nat):bn u≠[]:=by
 by_cases h:u<10
 · rw[pR u h];simp
 · rw[uC u h];simp
theorem Gx (c:Int)(h0:0≤c)(h1:c≤701):bG c≠[]:=by
 unfold bG;rw[af (by omega)];split <;> simp
def fD(b:Bool):List Int:=if b=true then [36]else []
theorem yj(b:Bool):∀x∈fD b,decide (x=36)=true:=by cases b <;> simp[fD]
theorem QG{a b:Bool}(h:fD a=fD b):a=b:=by cases a <;> cases b <;> simp[fD]at h ⊢
def qQ(c r:Int)(ac ar:Bool):List Int:=fD ac++(bG c++(fD ar++bn (r+1).toNat))
theorem head_append {a:List Int}(h:a≠[])(hx:(a++b).head? = some x):x∈a:=by
 cases a with
 | nil=>exact absurd rfl h
 | cons y a=>simp at hx;subst hx;simp
theorem WJ {c' r':Int}{vJ uu:Bool}(h0:0≤c)(h1:c≤701)(h2:0≤r)(k0:0≤c')(k1:c'≤701)(k2:0≤r')(h:qQ c r ac ar=qQ c' r' vJ uu):c=c'∧r=r'∧ac=vJ∧ar=uu:=by
 unfold qQ at h;have Ic:∀x,aU x=true→decide (x=36)=false:=by intro x hx;have:=sS hx;rw[jv];omega
 have Ie:∀x,isNum x=true→decide (x=36)=false:=by intro x hx;have:=jE hx;rw[jv];omega
 have Uo:∀(b:Bool)(u:Nat)(x:Int),(fD b++bn u).head? = some x→aU x=false:=by
  intro b u x hx;cases b with
  | true=>simp[fD]at hx;subst hx;decide
  | false =>
    have hx':(bn u++[]).head? = some x:=by simpa [fD]using hx
    have:=jE (rH u x (head_append (uD u) hx'));exact SN (by omega)
 obtain ⟨e1,e2⟩:=Fs (fun x=>decide (x=36)) _ _ _ _ (yj ac) (yj vJ)
  (fun x hx=>Ic x (wm c x (head_append (Gx c h0 h1) hx))) (fun x hx=>Ic x (wm c' x (head_append (Gx c' k0 k1) hx))) h
 obtain⟨e3,e4⟩:=Fs aU _ _ _ _ (wm c) (wm c') (Uo ar _) (Uo uu _) e2
 obtain ⟨e5,e6⟩:=Fs (fun x=>decide (x=36)) _ _ _ _ (yj ar) (yj uu)
  (fun x hx=>Ie x (rH _ x (head_append (uD _) (by rw[gL];exact hx)))) (fun x hx=>Ie x (rH _ x (head_append (uD _) (by rw[gL];exact hx)))) e4
 refine⟨?_, ?_,QG e1,QG e5⟩
 · rw[← (Nh c h0 h1).2, ← (Nh c' k0 k1).2,e3]
 · have:=Jh (r+1).toNat
   rw[e6,Jh]at this;omega
theorem NZ (c r:Int)(ac ar:Bool):∀x∈qQ c r ac ar,x≠33:=by
 intro x hx;unfold qQ at hx;simp only[dQ]at hx;rcases hx with h|h|h|h
 · have:=yj _ x h;rw[aQ]at this;omega
 · have:=sS (wm c x h);omega
 · have:=yj _ x h;rw[aQ]at this;omega
 · have:=jE (rH _ x h);omega
theorem MJ (l:List Int)(h:iI l=true):∀x∈l,x≠33:=by
 intro x hx;unfold iI at h;rw[dJ,aQ]at h;obtain⟨j,hj,rfl⟩:=List.mem_iff_getElem.1 hx;have:=h.1 j hj;rw[kg,cZ hj]at this;simp only[Option.getD_some]at this;unfold oC isLet isNum at this;simp only[Bool.or_eq_true,dJ,aQ]at this;omega
theorem CS (h:dO sh c r=true):sh=[]∨iI sh=true:=by
 unfold dO at h;rw[dJ,Bool.or_eq_true,aQ]at h;exact h.1
theorem HZ (h:dO sh c r=true):0≤c∧c≤701∧0≤r∧r≤998:=by
 unfold dO at h;rw[dJ,aQ]at h;exact h.2
theorem BN (sh:List Int)(c r:Int)(ac ar:Bool)(h:dO sh c r=true):bE sh c r ac ar=(if sh=[]then []else sh++[33])++qQ c r ac ar:=by
 unfold bE qQ fD;rw[ag h];simp only[bQ]
theorem WN {sh':List Int}{c' r':Int}{vJ uu:Bool}(h:dO sh c r=true)(k:dO sh' c' r'=true)(e:bE sh c r ac ar=bE sh' c' r' vJ uu) :
 sh=sh'∧c=c'∧r=r'∧ac=vJ∧ar=uu:=by
 obtain⟨h0,h1,h2,_⟩:=HZ h;obtain⟨k0,k1,k2,_⟩:=HZ k;rw[BN _ _ _ _ _ h,BN _ _ _ _ _ k]at e;by_cases hs:sh=[]
 · by_cases ks:sh'=[]
   · rw[ag hs,ag ks]at e
     exact⟨by rw[hs,ks],WJ h0 h1 h2 k0 k1 k2 e⟩
   · rw[ag hs,af ks,gX]at e
     exact absurd rfl (NZ c r ac ar 33 (by rw[e];simp))
 · by_cases ks:sh'=[]
   · rw[af hs,ag ks,gX]at e
     exact absurd rfl (NZ c' r' vJ uu 33 (by rw[← e];simp))
   · rw [af hs,af ks,bQ,bQ]at e
     have n1:=(CS h).resolve_left hs;have n2:=(CS k).resolve_left ks
     obtain ⟨e1,e2⟩:=Fs (fun x=>decide (x≠33)) _ _ _ _ (fun x hx=>by rw[aQ];exact MJ _ n1 x hx) (fun x hx=>by rw[aQ];exact MJ _ n2 x hx)
      (fun x hx=>by simp at hx;subst hx;rfl) (fun x hx=>by simp at hx;subst hx;rfl) e
     exact⟨e1,WJ h0 h1 h2 k0 k1 k2 (by injection e2)⟩
def dz(w:World)(b:Nat)(s:ByteArray)(c r:Int)(ac ar:Bool):Prop:=w.heap[b]? = some (.cells #[.string s,.int .i64 c,.int .i64 r,.bool ac,.bool ar] 42)
theorem dz.new (w:World)(s:ByteArray)(c r:Int)(ac ar:Bool):dz (w.alloc (.cells #[.string s,.int .i64 c,.int .i64 r,.bool ac,.bool ar] 42)) w.heap.size s c r ac ar:=by
 exact(lu w _).1
theorem dz.lt{b:Nat}(h:dz w b s c r ac ar):b<w.heap.size:=(dB.1 h).1
theorem dz.below {B b:Nat}(h:dz w b s c r ac ar)(hb:Below B w w')(hB:b<B):dz w' b s c r ac ar:=by
 unfold dz;rw[hb.block b hB];exact h
theorem dz.facts {b:Nat}(h:dz w b s c r ac ar) :
 w.cell? ⟨b,0,none⟩=some (.string s)∧w.cell? ⟨b,1,none⟩=some (.int .i64 c)∧w.cell? ⟨b,2,none⟩=some (.int .i64 r)∧w.cell? ⟨b,3,none⟩=some (.bool ac)∧w.cell? ⟨b,4,none⟩=some (.bool ar) :=
 ⟨by rw[cell_of_row w b 0 _ _ _ h];rfl,by rw[cell_of_row w b 1 _ _ _ h];rfl,by rw[cell_of_row w b 2 _ _ _ h];rfl,by rw[cell_of_row w b 3 _ _ _ h];rfl,by rw[cell_of_row w b 4 _ _ _ h];rfl⟩
structure Rd where
 s:ByteArray
 k:Nat
 sh:ByteArray
 c:Int
 r:Int
 ac:Bool
 ar:Bool
def Rd.rest(d:Rd):List Int:=(sb d.s).drop d.k
def Rd.cells(d:Rd):Array Value:=#[.string d.s,.int .i64 (d.k:Int),.string d.sh,.int .i64 d.c,.int .i64 d.r,.bool d.ac,.bool d.ar]
def Rd.start(s:ByteArray):Rd:=⟨s,0,⟨#[]⟩,0,0,false,false⟩
def jZ(x:Int):Bool:=decide (x≠33)
def isRow(l:List Int):Bool:=decide (l≠[]∧l.head? ≠ some 48∧dG l≤999)
def Rd.bY(d:Rd):List Int:=(sb d.s).takeWhile jZ
def Rd.kZ(d:Rd):Option Rd:=if d.bY.length=d.s.size then some d else if iI d.bY=true then some { d with sh:=strOfNums d.bY,k:=d.bY.length+1 }else none
def Rd.mark(d:Rd):Bool:=decide (d.rest.head? = some 36)
def Rd.zk(d:Rd):Option Rd:=some { d with ac:=d.mark,k:=d.k+(fD d.mark).length }
def Rd.zl(d:Rd):Option Rd:=some { d with ar:=d.mark,k:=d.k+(fD d.mark).length }
def Rd.col(d:Rd):Option Rd:=if jC (d.rest.takeWhile aU)=true then some { d with c:=l8 (d.rest.takeWhile aU),k:=d.k+(d.rest.takeWhile aU).length }else none
def Rd.row(d:Rd):Option Rd:=if isRow (d.rest.takeWhile isNum)=true then some { d with r:=dG (d.rest.takeWhile isNum) - 1,k:=d.k+(d.rest.takeWhile isNum).length }else none
def Rd.fin(d:Rd):Option Rd:=if d.k=d.s.size then some d else none
theorem wF (p:Int→Bool):∀(a b:List Int),(∀x∈a,p x=true)→(∀x,b.head? = some x→p x=false)→(a++b).takeWhile p=a
 | [],[],_,_=>rfl
 | [],y :: b,_,h2=>by rw[gX,List.takeWhile_cons,h2 y rfl];rfl
 | x :: a,b,h,h2=>by
   rw[dE,List.takeWhile_cons,h x (by simp),ag rfl,wF p a b (fun z hz=>h z (by simp[hz])) h2]
theorem WM (p:Int→Bool):∀(a b:List Int),(∀x∈a,p x=true)→(a++b).takeWhile p=a++b.takeWhile p
 | [],b,_=>rfl
 | x :: a,b,h=>by
   rw[dE,List.takeWhile_cons,h x (by simp),ag rfl,WM p a b (fun z hz=>h z (by simp[hz])),dE]
theorem uW (p:Int→Bool):∀(l:List Int),∀x∈l.takeWhile p,p x=true
 | [],x,hx=>by simp at hx
 | y :: l,x,hx=>by
   rw[List.takeWhile_cons]at hx;by_cases h:p y=true
   · rw[ag h]at hx
     rcases ik.1 hx with rfl|hx
     · exact h
     · exact uW p l x hx
   · rw[af h]at hx;simp at hx
theorem take_split (p:Int→Bool):∀(l:List Int),l.takeWhile p++l.drop (l.takeWhile p).length=l
 | []=>rfl
 | y :: l=>by
   rw[List.takeWhile_cons];by_cases h:p y=true
   · rw[ag h,bf,List.drop_succ_cons,dE,take_split p l]
   · rw[af h];rfl
theorem Fw (p:Int→Bool):∀(l:List Int)(x:Int),(l.drop (l.takeWhile p).length).head? = some x→p x=false
 | [],x,h=>by simp at h
 | y :: l,x,h=>by
   rw[List.takeWhile_cons]at h;by_cases hy:p y=true
   · rw[ag hy,bf,List.drop_succ_cons]at h;exact Fw p l x h
   · rw[af hy]at h;simp at h;subst h;simpa using hy
theorem KX:∀(n:Nat)(l:List Int),l.length=n→l≠[]→(∀x∈l,isNum x=true)→l.head? ≠ some 48→1≤dG l∧bn (dG l).toNat=l:=by
 intro n
 induction n with
 | zero=>intro l h h2;exact absurd (kM h) h2
 | succ n ih =>
   intro l hl hne aX hh
   obtain ⟨a,x,rfl⟩:∃a x,l=a++[x]:=by
    rcases List.eq_nil_or_concat l with h|⟨a,x,h⟩
    · exact absurd h hne
    · exact⟨a,x,by rw[h,List.concat_eq_append]⟩
   have hx:=jE (aX x (by simp));rw[z8];by_cases ha:a=[]
   · subst ha
     have h48:x≠48:=by intro h;subst h;exact hh rfl
     have hv:dG []=0:=rfl;rw[hv,pR _ (by omega)];refine⟨by omega, ?_⟩;rw[gX];congr 1;omega
   · have hlen:a.length=n:=by rw[ax,fo]at hl;omega
     have h0:a.head? ≠ some 48:=by
      cases a with
      | nil=>exact absurd rfl ha
      | cons y a=>simpa using hh
     obtain⟨h1,h2⟩:=ih a hlen ha (fun z hz=>aX z (by simp[hz])) h0;refine⟨by omega, ?_⟩;rw[uC _ (by omega),show(10*dG a+(x - 48)).toNat / 10=(dG a).toNat from by omega,h2];congr 2;omega
theorem BR:∀(b a:List Int),(∀x∈b,isNum x=true)→0≤dG a→dG a≤dG (a++b)
 | [],a,_,_=>by rw[gL];exact Int.le_refl _
 | x :: b,a,h,h0=>by
   have hx:=jE (h x (by simp));have h1:=z8 a x;have h2:=BR b (a++[x]) (fun z hz=>h z (by simp[hz])) (by omega);rw[bQ,qj]at h2;omega
theorem BF(d:Rd)(m:Nat):(sb d.s).drop (d.k+m)=d.rest.drop m:=by unfold Rd.rest;rw[List.drop_drop]
theorem ME (d:Rd):d.rest=fD d.mark++d.rest.drop (fD d.mark).length:=by
 unfold Rd.mark;cases h:d.rest with
 | nil=>rfl
 | cons x l =>
   by_cases hx:x=36
   · subst hx;simp[fD]
   · have:(x :: l).head? ≠ some 36:=by simpa using hx
     rw[aV this];simp[fD]
def iA(s:ByteArray):Option Rd:=((((((Rd.start s).kZ.bind Rd.zk).bind Rd.col).bind Rd.zl).bind Rd.row).bind Rd.fin)
theorem Um {l:List Int}(h:iI l=true):l≠[]∧l.length≤12:=by
 unfold iI at h;rw[dJ,aQ,aQ]at h;exact⟨by intro h0;rw[h0]at h;simp at h,h.2.2⟩
theorem Tc{l:List Int}(h:isRow l=true):l≠[]∧l.head? ≠ some 48∧dG l≤999:=by unfold isRow at h;rw[aQ]at h;exact h
theorem yH (s:ByteArray)(d:Rd)(h:iA s=some d):d.sh.size≤12∧dO (sb d.sh) d.c d.r=true∧bE (sb d.sh) d.c d.r d.ac d.ar=sb s:=by
 unfold iA at h;simp only[Option.bind_eq_some_iff]at h;obtain⟨d5,⟨d4,⟨d3,⟨d2,⟨d1,h1,h2⟩,h3⟩,h4⟩,h5⟩,h6⟩:=h
 -- the sheet
 have g1:d1.s=s∧sb s=(if sb d1.sh=[]then []else sb d1.sh++[33])++d1.rest∧(sb d1.sh=[]∨iI (sb d1.sh)=true)∧d1.sh.size≤12:=by
  unfold Rd.kZ at h1;by_cases hc:(Rd.start s).bY.length=(Rd.start s).s.size
  · rw[ag hc]at h1
    injection h1 with h1;subst h1;exact⟨rfl,rfl,.inl rfl,by show(0:Nat)≤12;omega⟩
  · rw [af hc]at h1
    by_cases hn:iI (Rd.start s).bY=true
    · rw [ag hn]at h1
      injection h1 with h1;subst h1
      have hb:Bytes (Rd.start s).bY:=fun x hx=>uS s x (by
       have:=take_split jZ (sb s);rw[← this];exact List.mem_append_left _ hx)
      obtain⟨q1,q2⟩:=Um hn;refine⟨rfl, ?_,.inr (by show iI (sb (strOfNums _))=true;rw[jN _ hb];exact hn),by show(strOfNums _).size≤12;rw[strOfNums_size];exact q2⟩;show sb s=(if sb (strOfNums (Rd.start s).bY)=[]then []else sb (strOfNums (Rd.start s).bY)++[33])++(sb s).drop ((Rd.start s).bY.length+1);rw[jN _ hb,af q1];have e:=take_split jZ (sb s)
      have hlt:(Rd.start s).bY.length<(sb s).length:=by
       have:=congrArg List.length e;rw[ax]at this;have h3:(Rd.start s).bY.length≠s.size:=hc;have h4:=bC s;show((sb s).takeWhile jZ).length<_;have h5:(Rd.start s).bY=(sb s).takeWhile jZ:=rfl;rw[h5]at h3;omega
      have hh:=Fw jZ (sb s);have h6:(sb s).drop (Rd.start s).bY.length=(sb s)[(Rd.start s).bY.length] :: (sb s).drop ((Rd.start s).bY.length+1):=List.drop_eq_getElem_cons hlt
      have h7:=hh ((sb s)[(Rd.start s).bY.length]) (by
       show((sb s).drop (Rd.start s).bY.length).head? = _;rw[h6];rfl)
      have h8:(sb s)[(Rd.start s).bY.length]=33:=by unfold jZ at h7;simpa using h7
      rw[h8]at h6;rw[bQ,qj, ← h6];exact e.symm
    · rw[af hn]at h1;cases h1
 obtain⟨e1,t1,n1,z1⟩:=g1
 -- the mark ahead of the column
 have g2:d2.s=d1.s∧d2.sh=d1.sh∧d1.rest=fD d2.ac++d2.rest:=by
  unfold Rd.zk at h2;injection h2 with h2;subst h2;refine⟨rfl,rfl, ?_⟩;show d1.rest=fD d1.mark++(sb d1.s).drop (d1.k+(fD d1.mark).length);rw[BF];exact ME d1
 obtain⟨e2,f2,t2⟩:=g2
 have g3:d3.s=d2.s∧d3.sh=d2.sh∧d3.ac=d2.ac∧d2.rest=bG d3.c++d3.rest∧0≤d3.c∧d3.c≤701:=by
  unfold Rd.col at h3;by_cases hc:jC (d2.rest.takeWhile aU)=true
  · rw[ag hc]at h3;injection h3 with h3;subst h3
    obtain⟨q1,q2,q3⟩:=aad _ hc;refine⟨rfl,rfl,rfl, ?_,q2,q3⟩;show d2.rest=bG (l8 (d2.rest.takeWhile aU))++(sb d2.s).drop (d2.k+(d2.rest.takeWhile aU).length);rw[q1,BF,take_split]
  · rw[af hc]at h3;cases h3
 obtain⟨e3,f3,a3,t3,c0,c1⟩:=g3
 have g4:d4.s=d3.s∧d4.sh=d3.sh∧d4.ac=d3.ac∧d4.c=d3.c∧d3.rest=fD d4.ar++d4.rest:=by
  unfold Rd.zl at h4;injection h4 with h4;subst h4;refine⟨rfl,rfl,rfl,rfl, ?_⟩;show d3.rest=fD d3.mark++(sb d3.s).drop (d3.k+(fD d3.mark).length);rw[BF];exact ME d3
 obtain⟨e4,f4,a4,b4,t4⟩:=g4
 have g5:d5.s=d4.s∧d5.sh=d4.sh∧d5.ac=d4.ac∧d5.c=d4.c∧d5.ar=d4.ar∧d4.rest=bn (d5.r+1).toNat++d5.rest∧0≤d5.r∧d5.r≤998:=by
  unfold Rd.row at h5;by_cases hc:isRow (d4.rest.takeWhile isNum)=true
  · rw[ag hc]at h5;injection h5 with h5;subst h5
    obtain⟨q1,q2,q3⟩:=Tc hc;obtain⟨q4,q5⟩:=KX _ _ rfl q1 (uW isNum _) q2;refine⟨rfl,rfl,rfl,rfl,rfl, ?_,by show 0≤dG (d4.rest.takeWhile isNum) - 1;omega,by show dG (d4.rest.takeWhile isNum) - 1≤998;omega⟩;show d4.rest=bn (dG (d4.rest.takeWhile isNum) - 1+1).toNat++(sb d4.s).drop (d4.k+(d4.rest.takeWhile isNum).length);rw[Int.sub_add_cancel,q5,BF,take_split]
  · rw[af hc]at h5;cases h5
 obtain⟨e5,f5,a5,b5,r5,t5,r0,r1⟩:=g5
 have g6:d=d5∧d5.rest=[]:=by
  unfold Rd.fin at h6;by_cases hc:d5.k=d5.s.size
  · rw[ag hc]at h6;injection h6 with h6
    refine⟨h6.symm, ?_⟩;unfold Rd.rest;rw[hc, ← bC,List.drop_length]
  · rw[af hc]at h6;cases h6
 obtain⟨rfl,t6⟩:=g6;have hsh:d.sh=d1.sh:=by rw[f5,f4,f3,f2]
 have hac:d.ac=d2.ac:=by rw[a5,a4,a3]
 have hc:d.c=d3.c:=by rw[b5,b4]
 have hm:dO (sb d.sh) d.c d.r=true:=by
  unfold dO;rw[dJ,Bool.or_eq_true,aQ,aQ,hsh,hc];exact⟨n1,by omega,by omega,by omega,by omega⟩
 refine⟨by rw[hsh];exact z1,hm, ?_⟩;rw[BN _ _ _ _ _ hm,t1,t2,t3,t4,t5,t6,hsh,hc,hac,r5,gL];rfl
def Gf(l:List Int):Prop:=∀sh c r ac ar,dO sh c r=true→bE sh c r ac ar≠l
def oh (l:List Int)(e:Ending):Prop :=
 (∃s c r ac ar,s.size≤12∧dO (sb s) c r=true∧bE (sb s) c r ac ar=l∧e = .returned (.tuple #[.agg #[.string s,.int .i64 c,.int .i64 r,.bool ac,.bool ar],.bool true])) ∨
 (Gf l∧e = .returned (.tuple #[.agg #[.string ⟨#[]⟩,.int .i64 0,.int .i64 0,.bool false,.bool false],.bool false]))
theorem TT (d:Rd)(b:Bool)(t:List Int)(h:d.rest=fD b++t)(ht:∀x,t.head? = some x→x≠36):d.mark=b:=by
 unfold Rd.mark;rw[h];cases b with
 | true=>rfl
 | false =>
   rw[jv];intro hx;exact ht 36 hx rfl
theorem acV (r:Int)(h0:0≤r)(h1:r≤998):isRow (bn (r+1).toNat)=true:=by
 have hh:∀(n u:Nat),u<n→1≤u→(bn u).head? ≠ some 48:=by
  intro n
  induction n with
  | zero=>intro u h;omega
  | succ n ih =>
    intro u hu h1;by_cases h:u<10
    · rw[pR u h];simp;omega
    · rw[uC u h]
      have:=ih (u / 10) (by omega) (by omega);cases hd:bn (u / 10)with
      | nil=>exact absurd hd (uD _)
      | cons y l=>rw[hd]at this;simpa using this
 unfold isRow;rw[aQ];refine⟨uD _,hh _ _ (Nat.lt_succ_self _) (by omega), ?_⟩;rw[Jh];omega
theorem Da (s:ByteArray)(h:iA s=none):Gf (sb s):=by
 intro sh c r ac ar hm e;obtain⟨c0,c1,r0,r1⟩:=HZ hm;rw[BN _ _ _ _ _ hm]at e
 -- the sheet
 have g1:∃d1,(Rd.start s).kZ=some d1∧d1.rest=qQ c r ac ar∧d1.s=s∧d1.k+d1.rest.length=s.size:=by
  by_cases hs:sh=[]
  · rw [ag hs,gX]at e
    have hp:(Rd.start s).bY=sb s:=by
     show(sb s).takeWhile jZ=sb s;rw[← e, ← gL (qQ c r ac ar),wF jZ _ [] (fun x hx=>by unfold jZ;rw[aQ];exact NZ c r ac ar x hx) (fun x hx=>by simp at hx),gL]
    refine⟨Rd.start s, ?_,e.symm,rfl,by show 0+(sb s).length=s.size;rw[bC];omega⟩;unfold Rd.kZ;rw[hp,ag (show(sb s).length=(Rd.start s).s.size from bC s)]
  · rw [af hs,bQ]at e
    have hn:=(CS hm).resolve_left hs
    have hp:(Rd.start s).bY=sh:=by
     show(sb s).takeWhile jZ=sh;rw[← e];exact wF jZ _ _ (fun x hx=>by unfold jZ;rw[aQ];exact MJ _ hn x hx) (fun x hx=>by simp at hx;subst hx;rfl)
    have hlen:¬ sh.length=(Rd.start s).s.size:=by
     show ¬ sh.length=s.size;rw[← bC, ← e];simp only[ax,bf];omega
    refine⟨{ Rd.start s with sh:=strOfNums sh,k:=sh.length+1 }, ?_, ?_,rfl, ?_⟩
    · unfold Rd.kZ;rw[hp,af hlen,ag hn]
    · show(sb s).drop (sh.length+1)=_
      rw[← e, ← List.drop_drop,List.drop_left];rfl
    · show sh.length+1+((sb s).drop (sh.length+1)).length=s.size
      rw[lq, ← bC, ← e];simp only[ax,bf];omega
 obtain⟨d1,h1,t1,s1,k1⟩:=g1;have Ic:∀x,aU x=true→x≠36:=by intro x hx;have:=sS hx;omega
 have Ie:∀x,isNum x=true→x≠36:=by intro x hx;have:=jE hx;omega
 obtain ⟨d2,h2,t2,s2,k2⟩:∃d2,d1.zk=some d2∧d2.rest=bG c++(fD ar++bn (r+1).toNat)∧d2.s=s∧d2.k=d1.k+(fD ac).length:=by
  have hmk:=TT d1 ac (bG c++(fD ar++bn (r+1).toNat)) t1 (fun x hx=>Ic x (wm c x (head_append (Gx c c0 c1) hx)));refine⟨_,rfl, ?_,s1,by show d1.k+(fD d1.mark).length=_;rw[hmk]⟩;show(sb d1.s).drop (d1.k+(fD d1.mark).length)=_;rw[BF,hmk,t1];unfold qQ;rw[List.drop_left]
 have A7:∀x,(fD ar++bn (r+1).toNat).head? = some x→aU x=false:=by
  intro x hx;cases ar with
  | true=>simp[fD]at hx;subst hx;decide
  | false =>
    have hx':(bn (r+1).toNat++[]).head? = some x:=by simpa [fD]using hx
    have:=jE (rH _ x (head_append (uD _) hx'));exact SN (by omega)
 obtain ⟨d3,h3,t3,s3,k3⟩:∃d3,d2.col=some d3∧d3.rest=fD ar++bn (r+1).toNat∧d3.s=s∧d3.k=d2.k+(bG c).length:=by
  have hp:d2.rest.takeWhile aU=bG c:=by rw[t2];exact wF aU _ _ (wm c) A7
  refine⟨{ d2 with c:=l8 (d2.rest.takeWhile aU),k:=d2.k+(d2.rest.takeWhile aU).length }, ?_, ?_,s2,by show d2.k+(d2.rest.takeWhile aU).length=_;rw[hp]⟩
  · unfold Rd.col;rw[ag (by rw[hp];exact(Nh c c0 c1).1)]
  · show(sb d2.s).drop (d2.k+(d2.rest.takeWhile aU).length)=_
    rw[BF,hp,t2,List.drop_left]
 obtain ⟨d4,h4,t4,s4,k4⟩:∃d4,d3.zl=some d4∧d4.rest=bn (r+1).toNat∧d4.s=s∧d4.k=d3.k+(fD ar).length:=by
  have hmk:=TT d3 ar (bn (r+1).toNat) t3 (fun x hx=>Ie x (rH _ x (head_append (b:=[]) (uD _) (by rw[gL];exact hx))));refine⟨_,rfl, ?_,s3,by show d3.k+(fD d3.mark).length=_;rw[hmk]⟩;show(sb d3.s).drop (d3.k+(fD d3.mark).length)=_;rw[BF,hmk,t3,List.drop_left]
 obtain ⟨d5,h5,s5,k5⟩:∃d5,d4.row=some d5∧d5.s=s∧d5.k=d4.k+(bn (r+1).toNat).length:=by
  have hp:d4.rest.takeWhile isNum=bn (r+1).toNat:=by
   rw[t4];have:=wF isNum (bn (r+1).toNat) [] (rH _) (fun x hx=>by simp at hx);rw[gL]at this;exact this
  refine⟨{ d4 with r:=dG (d4.rest.takeWhile isNum) - 1,k:=d4.k+(d4.rest.takeWhile isNum).length }, ?_,s4,by show d4.k+(d4.rest.takeWhile isNum).length=_;rw[hp]⟩;unfold Rd.row;rw[ag (by rw[hp];exact acV r r0 r1)]
 have h6:d5.fin=none:=by
  unfold iA at h;rw[h1]at h;simp only[Option.bind_some]at h;rw[h2]at h;simp only[Option.bind_some]at h;rw[h3]at h;simp only[Option.bind_some]at h;rw[h4]at h;simp only[Option.bind_some]at h;rw[h5]at h;exact h
 unfold Rd.fin at h6
 have hk:d5.k=d5.s.size:=by
  rw[s5];rw[t1]at k1;unfold qQ at k1;simp only[ax]at k1;omega
 rw[ag hk]at h6;cases h6
theorem Qk (c:Int):Bytes (bG c):=by
 intro x hx;have:=sS (wm c x hx);omega
theorem Ql (u:Nat):Bytes (bn u):=by
 intro x hx;have:=jE (rH u x hx);omega
theorem Qm (b:Bool):Bytes (fD b):=by
 intro x hx;have:=yj b x hx;rw[aQ]at this;omega
theorem AO (s:ByteArray)(c r:Int)(ac ar:Bool):Bytes (bE (sb s) c r ac ar):=by
 by_cases h:dO (sb s) c r=true
 · rw[BN _ _ _ _ _ h]
   unfold qQ;refine Bytes.append ?_ ((Qm ac).append ((Qk c).append ((Qm ar).append (Ql _))));split
   · exact Bytes.nil
   · exact Bytes.append (uS s) (by intro x hx;simp at hx;omega)
 · unfold bE;rw[af h];exact Bytes.nil
theorem VO{a b:ByteArray}(h:sb a=sb b):a=b:=by rw[← nA a, ← nA b,h]
theorem oh.text {e:Ending}(hm:dO (sb s) c r=true)(h:oh (sb (strOfNums (bE (sb s) c r ac ar))) e):e = .returned (.tuple #[.agg #[.string s,.int .i64 c,.int .i64 r,.bool ac,.bool ar],.bool true]):=by
 rw[jN _ (AO s c r ac ar)]at h;rcases h with ⟨s',c',r',vJ,uu,_,h2,h3,h4⟩|⟨h1,_⟩
 · obtain⟨e1,e2,e3,e4,e5⟩:=WN h2 hm h3
   rw[h4,VO e1,e2,e3,e4,e5]
 · exact absurd rfl (h1 _ _ _ _ _ hm)
structure ah where
 kind:Int
 text:ByteArray
 num:Int
 sh:ByteArray
 c:Int
 r:Int
 ac:Bool
 ar:Bool
 pos:Int
abbrev tA(t:ah)(k:Value):Array Value:=#[.int .i64 t.kind,.string t.text,.int .i64 t.num,.string t.sh,.int .i64 t.c,.int .i64 t.r,.bool t.ac,.bool t.ar,k]
def ah.zero:ah:=⟨0,⟨#[]⟩,0,⟨#[]⟩,0,0,false,false,0⟩
def ah.goto(t:ah)(p:Int):ah:={ t with pos:=p }
def isWord(x:Int):Bool:=isLet x||(isNum x||decide (x=36∨x=33))
def lJ (l:List Int):Option (ah × Nat) :=
 if (1<(l.takeWhile isNum).length∧l.head? = some 48)∨9223372036854775807<dG (l.takeWhile isNum)then none
 else some ({ ah.zero with kind:=1,num:=dG (l.takeWhile isNum) },(l.takeWhile isNum).length)
def eU:List Int→Option (List Int × Nat)
 | []=>none
 | x :: l =>
   if x<32 then none
   else if x≠34 then (eU l).map fun p=>(x :: p.1,p.2+1)
   else match l with
    | y :: m=>if y=34 then (eU m).map fun p=>(34 :: p.1,p.2+2)else some ([],1)
    | []=>some ([],1)
def lK(l:List Int):Option (ah × Nat):=(eU l).map fun p=>({ ah.zero with kind:=2,text:=strOfNums p.1 },p.2+1)
def jL(l:List Int):Bool:=decide (∀x∈l,(aU x||isNum x)=true)&&(decide (1≤l.length∧l.length≤12)&&aU (l.getD 0 0))
def nD (l:List Int):Option (ah × Nat) :=
 match iA (strOfNums (l.takeWhile isWord))with
 | some d=>some ({ ah.zero with kind:=4,sh:=d.sh,c:=d.c,r:=d.r,ac:=d.ac,ar:=d.ar },(l.takeWhile isWord).length)
 | none=>if jL (l.takeWhile isWord)=true then some ({ ah.zero with kind:=3,text:=strOfNums (l.takeWhile isWord) },(l.takeWhile isWord).length)else none
def qC(l:List Int):Option (ah × Nat):=if l.take 5=[35,82,69,70,33]then some ({ ah.zero with kind:=6 },5)else none
def lM:List Int→Nat
 | []=>0
 | x :: l =>
   if (x=60∧(l.head? = some 62∨l.head? = some 61))∨(x=62∧l.head? = some 61)then 2
   else if x=43∨x=45∨x=42∨x=47∨x=38∨x=61∨x=60∨x=62∨x=40∨x=41∨x=44∨x=58 then 1 else 0
def o9(l:List Int):Option (ah × Nat):=if lM l=0 then none else some ({ ah.zero with kind:=5,text:=strOfNums (l.take (lM l)) },lM l)
def fJ:List Int→Option (ah × Nat)
 | []=>none
 | x :: l=>if isNum x=true then lJ (x :: l)else if x=34 then lK l else if x=35 then qC (x :: l)else if isLet x=true∨x=36 then nD (x :: l)else o9 (x :: l)
def fE:Nat→Nat→List Int→Option (List ah)
 | _,p,[]=>some [ah.zero.goto p]
 | 0,_,_ :: _=>none
 | f + 1,p,x :: l =>
   if x=32 then fE f (p+1) l
   else match fJ (x :: l)with
    | none=>none
    | some (t,n)=>(fE f (p+n) ((x :: l).drop n)).map (t.goto p :: ·)
def gT(l:List Int):Option (List ah):=fE l.length 0 l
theorem rX(x:Int)(l:List Int):fJ (x :: l)=if isNum x=true then lJ (x :: l)else if x=34 then lK l else if x=35 then qC (x :: l)else if isLet x=true∨x=36 then nD (x :: l)else o9 (x :: l):=rfl
theorem uR (x:Int)(l:List Int):eU (x :: l)=if x<32 then none else if x≠34 then (eU l).map fun p=>(x :: p.1,p.2+1)else match l with
 | y :: m=>if y=34 then (eU m).map fun p=>(34 :: p.1,p.2+2)else some ([],1)
 | []=>some ([],1):=by conv=>lhs;rw[eU.eq_def]
theorem tq (f p:Nat)(x:Int)(l:List Int):fE (f+1) p (x :: l)=if x=32 then fE f (p+1) l else match fJ (x :: l)with
 | none=>none
 | some (t,n)=>(fE f (p+n) ((x :: l).drop n)).map (t.goto p :: ·):=rfl
theorem BM (p:Int→Bool)(l:List Int):(l.takeWhile p).length≤l.length:=by
 have h:=congrArg List.length (take_split p l);rw[ax]at h;omega
theorem Jb (p:Int→Bool)(x:Int)(l:List Int)(h:p x=true):0<((x :: l).takeWhile p).length:=by
 rw[List.takeWhile_cons,ag h];simp
theorem IB:∀(n:Nat)(l:List Int)(t:List Int)(k:Nat),l.length≤n→eU l=some (t,k)→0<k∧k≤l.length
 | _,[],_,_,_,h=>by simp[eU]at h
 | 0,_ :: _,_,_,hn,_=>by simp at hn
 | n + 1, x :: l,t,k,hn,h=>by
   rw[uR]at h;by_cases h1:x<32
   · rw[ag h1]at h;cases h
   · rw [af h1]at h
     by_cases h2:x≠34
     · rw [ag h2]at h
       cases hq:eU l with
       | none=>rw[hq]at h;cases h
       | some q =>
         rw[hq]at h;simp only[jq,aZ,bH]at h;have:=IB n l q.1 q.2 (by simp at hn;omega) hq;simp only[bf];omega
     · rw [af h2]at h
       cases l with
       | nil=>simp at h;simp only[bf,dX];omega
       | cons y m =>
         by_cases hy:y=34
         · simp only [hy,if_true]at h
           cases hq:eU m with
           | none=>rw[hq]at h;cases h
           | some q =>
             rw[hq]at h;simp only[jq,aZ,bH]at h;have:=IB n m q.1 q.2 (by simp at hn;omega) hq;simp only[bf];omega
         · simp only[hy,if_false,aZ,bH]at h
           simp only[bf];omega
theorem tJ (x:Int)(l:List Int):lM (x :: l)=if (x=60∧(l.head? = some 62∨l.head? = some 61))∨(x=62∧l.head? = some 61)then 2
 else if x=43∨x=45∨x=42∨x=47∨x=38∨x=61∨x=60∨x=62∨x=40∨x=41∨x=44∨x=58 then 1 else 0:=rfl
theorem Wh:∀l:List Int,lM l≤l.length
 | []=>aj _
 | x :: l=>by
   rw[tJ];by_cases h:(x=60∧(l.head? = some 62∨l.head? = some 61))∨(x=62∧l.head? = some 61)
   · rw[ag h]
     have h0:l≠[]:=by rintro rfl;simp at h
     have:=List.length_pos_iff.2 h0;simp only[bf];omega
   · rw[af h]
     split <;> simp
theorem Mi (h:isLet x=true∨x=36):isWord x=true:=by
 unfold isWord;rcases h with h|h
 · rw[h];rfl
 · subst h;decide
theorem rY (l:List Int)(t:ah)(n:Nat)(h:fJ l=some (t,n)):0<n∧n≤l.length:=by
 cases l with
 | nil=>simp[fJ]at h
 | cons x l =>
   rw[rX]at h;by_cases h1:isNum x=true
   · rw [ag h1]at h
     unfold lJ at h;split at h
     · cases h
     · simp only[aZ,bH]at h
       rw[← h.2];exact⟨Jb isNum x l h1,BM _ _⟩
   · rw [af h1]at h
     by_cases h2:x=34
     · rw [ag h2]at h
       unfold lK at h;cases hq:eU l with
       | none=>rw[hq]at h;cases h
       | some q =>
         rw[hq]at h;simp only[jq,aZ,bH]at h;have:=IB _ l q.1 q.2 (aj _) hq;simp only[bf];omega
     · rw [af h2]at h
       by_cases h3:x=35
       · rw [ag h3]at h
         unfold qC at h;split at h
         · rename_i h5
           simp only[aZ,bH]at h;have:=congrArg List.length h5;rw[gW]at this;simp only[bf,dX]at this ⊢;omega
         · cases h
       · rw [af h3]at h
         by_cases h4:isLet x=true∨x=36
         · rw [ag h4]at h
           unfold nD at h;split at h
           · simp only[aZ,bH]at h
             rw[← h.2];exact⟨Jb isWord x l (Mi h4),BM _ _⟩
           · split at h
             · simp only[aZ,bH]at h
               rw[← h.2];exact⟨Jb isWord x l (Mi h4),BM _ _⟩
             · cases h
         · rw [af h4]at h
           unfold o9 at h;split at h
           · cases h
           · rename_i h5
             simp only[aZ,bH]at h;rw[← h.2];exact⟨by omega,Wh _⟩
theorem Hu:∀(f g p:Nat)(l:List Int),l.length≤f→l.length≤g→fE f p l=fE g p l
 | 0,0,_,_,_,_=>rfl
 | _,_,_,[],_,_=>by unfold fE;rfl
 | 0,_,_,_ :: _,h,_=>by simp at h
 | _,0,_,_ :: _,_,h=>by simp at h
 | f + 1,g+1,p,x :: l,h,h2=>by
   simp only[bf]at h h2;rw[tq,tq];by_cases hx:x=32
   · rw[ag hx,ag hx];exact Hu f g (p+1) l (by omega) (by omega)
   · rw [af hx,af hx]
     cases ht:fJ (x :: l)with
     | none=>rfl
     | some q =>
       obtain⟨t,n⟩:=q;have hn:=rY _ _ _ ht;simp only;rw[Hu f g (p+n) ((x :: l).drop n) (by rw[lq];simp only[bf];omega) (by rw[lq];simp only[bf];omega)]
def Alike(b b':List Int):Prop:=b'.head? = b.head? ∨ b'.head? = some 32
theorem abE {p:Int→Bool}(hp:p 32=false)(h:Alike b b')(hb:∀x,b.head? = some x→p x=false):∀x,b'.head? = some x→p x=false:=by
 intro x hx;rcases h with h|h
 · exact hb x (by rw[← h];exact hx)
 · rw[h]at hx;injection hx with hx;rw[← hx];exact hp
theorem Wx {p:Int→Bool}(hp:p 32=false){a:List Int}(h:Alike b b')(hs:((a++b).takeWhile p).length=a.length):(a++b).takeWhile p=a∧(a++b').takeWhile p=a:=by
 have e:=take_split p (a++b);rw[hs,List.drop_left]at e;have e1:(a++b).takeWhile p=a:=List.append_cancel_right e;refine⟨e1, ?_⟩;have aX:∀x∈a,p x=true:=fun x hx=>uW p (a++b) x (by rw[e1];exact hx)
 have hh:=Fw p (a++b);rw[hs,List.drop_left]at hh;exact wF p a b' aX (abE hp h hh)
theorem Na (h:Alike b b'):∀(n:Nat)(a t:List Int),a.length≤n→eU (a++b)=some (t,a.length)→eU (a++b')=some (t,a.length)
 | _,[],t,_,hq=>by
   exfalso;have:=IB _ _ _ _ (aj _) hq;simp at this
 | 0,_ :: _,_,hn,_=>by simp at hn
 | n + 1, x :: a,t,hn,hq=>by
   rw[dE,uR]at hq ⊢;by_cases h1:x<32
   · rw[ag h1]at hq;cases hq
   · rw [af h1]at hq ⊢
     by_cases h2:x≠34
     · rw [ag h2]at hq ⊢
       cases hr:eU (a++b)with
       | none=>rw[hr]at hq;cases hq
       | some q =>
         rw[hr]at hq;simp only[jq,aZ,bH,bf]at hq;have h3:=Na h n a q.1 (by simp at hn;omega) (by rw[hr, ← show q.2=a.length from by omega]);rw[h3];simp only[jq,bf,aZ,bH,and_true];exact hq.1
     · rw [af h2]at hq ⊢
       cases a with
       | nil =>
         simp only[gX]at hq ⊢;cases b with
         | nil =>
           simp only[aZ,bH]at hq;cases b' with
           | nil=>simpa using hq
           | cons y m =>
             rcases h with h|h
             · simp at h
             · simp at h;subst h;simpa using hq
         | cons z m =>
           by_cases hz:z=34
           · exfalso
             simp only[hz,if_true]at hq;cases hr:eU m with
             | none=>rw[hr]at hq;cases hq
             | some q=>rw[hr]at hq;simp at hq
           · simp only [hz,if_false]at hq
             cases b' with
             | nil=>simpa using hq
             | cons y k =>
               have hy:¬ y=34:=by
                rcases h with h|h
                · simp at h;rw[h];exact hz
                · simp at h;omega
               simp only[hy,if_false];exact hq
       | cons y m =>
         simp only[dE]at hq ⊢;by_cases hy:y=34
         · simp only [hy,if_true]at hq ⊢
           cases hr:eU (m++b)with
           | none=>rw[hr]at hq;cases hq
           | some q =>
             rw[hr]at hq;simp only[jq,aZ,bH,bf]at hq;have h3:=Na h n m q.1 (by simp at hn;omega) (by rw[hr, ← show q.2=m.length from by omega]);rw[h3];simp only[jq,bf,aZ,bH,and_true];exact hq.1
         · simp only[hy,if_false,aZ,bH,bf]at hq
           exfalso;omega
theorem aiC (h:Alike b b')(x:Int)(hs:lM (x :: b)=1):lM (x :: b')=1:=by
 rw[tJ]at hs ⊢;by_cases h2:(x=60∧(b.head? = some 62∨b.head? = some 61))∨(x=62∧b.head? = some 61)
 · rw[ag h2]at hs;omega
 · rw [af h2]at hs
   have h3:¬ ((x=60∧(b'.head? = some 62∨b'.head? = some 61))∨(x=62∧b'.head? = some 61)):=by
    rcases h with h|h
    · rw[h];exact h2
    · rw[h];simp
   rw[af h3];exact hs
theorem take_len(a b:List Int):(a++b).take a.length=a:=List.take_left
theorem ajj {a:List Int}{t:ah}(h:Alike b b')(hq:fJ (a++b)=some (t,a.length)):fJ (a++b')=some (t,a.length):=by
 cases a with
 | nil =>
   have:=(rY _ _ _ hq).1;simp at this
 | cons x a =>
   have hsp:∀(p:Int→Bool),p 32=false→((x :: a++b).takeWhile p).length=(x :: a).length→(x :: a++b').takeWhile p=(x :: a++b).takeWhile p:=by
    intro p hp hl;obtain⟨e1,e2⟩:=Wx hp h hl;rw[e1,e2]
   rw[dE,rX]at hq ⊢;by_cases h1:isNum x=true
   · rw [ag h1]at hq ⊢
     have hn:((x :: a++b).takeWhile isNum).length=(x :: a).length:=by
      unfold lJ at hq;split at hq
      · cases hq
      · simp only[aZ,bH]at hq;exact hq.2
     have e:=hsp isNum (by decide) hn;rw[← hq];unfold lJ;rw[dE,dE]at e;rw[e];rfl
   · rw [af h1]at hq ⊢
     by_cases h2:x=34
     · rw [ag h2]at hq ⊢
       unfold lK at hq ⊢;cases hr:eU (a++b)with
       | none=>rw[hr]at hq;cases hq
       | some q =>
         rw[hr]at hq;simp only[jq,aZ,bH,bf]at hq;have h3:=Na h _ a q.1 (aj _) (by rw[hr, ← show q.2=a.length from by omega]);rw[h3];simp only[jq,bf,aZ,bH,and_true];exact hq.1
     · rw [af h2]at hq ⊢
       by_cases h3:x=35
       · rw [ag h3]at hq ⊢
         unfold qC at hq ⊢;by_cases h5:(x :: (a++b)).take 5=[35,82,69,70,33]
         · rw[ag h5]at hq
           simp only[aZ,bH]at hq;have e1:(x :: (a++b)).take 5=x :: a:=by rw[hq.2, ← dE];exact take_len _ _
           have e2:(x :: (a++b')).take 5=x :: a:=by rw[hq.2, ← dE];exact take_len _ _
           rw[e1]at h5;rw[e2,ag h5,hq.1];exact congrArg (fun k=>some (t,k)) hq.2
         · rw[af h5]at hq;cases hq
       · rw [af h3]at hq ⊢
         by_cases h4:isLet x=true∨x=36
         · rw [ag h4]at hq ⊢
           have hn:((x :: a++b).takeWhile isWord).length=(x :: a).length:=by
            unfold nD at hq;split at hq
            · simp only[aZ,bH]at hq;exact hq.2
            · split at hq
              · simp only[aZ,bH]at hq;exact hq.2
              · cases hq
           have e:=hsp isWord (by decide) hn;rw[← hq];unfold nD;rw[dE,dE]at e;rw[e]
         · rw [af h4]at hq ⊢
           unfold o9 at hq ⊢;by_cases h5:lM (x :: (a++b))=0
           · rw[ag h5]at hq;cases hq
           · rw [af h5]at hq
             simp only[aZ,bH]at hq
             have e:lM (x :: (a++b'))=lM (x :: (a++b)):=by
              cases a with
              | nil=>rw[hq.2];exact aiC h x hq.2
              | cons y a=>rw[tJ,tJ];rfl
             rw[e,af h5, ← hq.1,hq.2];have e1:(x :: (a++b)).take (x :: a).length=x :: a:=by rw[← dE];exact take_len _ _
             have e2:(x :: (a++b')).take (x :: a).length=x :: a:=by rw[← dE];exact take_len _ _
             rw[e1,e2]
structure bL where
 sh:ByteArray
 c:Int
 r:Int
 ac:Bool
 ar:Bool
def bL.zero:bL:=⟨⟨#[]⟩,0,0,false,false⟩
def ah.dS(t:ah):bL:=⟨t.sh,t.c,t.r,t.ac,t.ar⟩
structure Nd where
 kind:Int
 num:Int
 text:ByteArray
 ref:bL
 ai:bL
 kids:List Int
def Nd.zero:Nd:=⟨0,0,⟨#[]⟩,bL.zero,bL.zero,[]⟩
abbrev eT:=Except Int (List Nd × Nat × List ah)
abbrev Args:=Except Int (List Nd × List Int × List ah)
def iX {α β γ δ : Type}(x:Option (Except Int (α × β × γ)))(k : α → β → γ → Option (Except Int δ)):Option (Except Int δ) :=
 match x with
 | none=>none
 | some (.error e)=>some (.error e)
 | some (.ok (a,b,c))=>k a b c
def ay (s:ByteArray)(ts:List ah):Bool:=match ts with
 | t :: _=>decide (t.kind=5)&&decide (t.text=s)
 | []=>false
def gp:Nat→List (ByteArray × Int)
 | 0=>[(⟨#[61]⟩,9),(⟨#[60,62]⟩,10),(⟨#[60]⟩,11),(⟨#[60,61]⟩,12),(⟨#[62]⟩,13),(⟨#[62,61]⟩,14)]
 | 1=>[(⟨#[38]⟩,15)]
 | 2=>[(⟨#[43]⟩,16),(⟨#[45]⟩,17)]
 | _=>[(⟨#[42]⟩,18),(⟨#[47]⟩,19)]
def fH (n:Nat)(ts:List ah):Int:=match (gp n).find? fun p=>ay p.1 ts with
 | some p=>p.2
 | none=>0
def fI(a b:bL):Bool:=decide (b.sh=⟨#[]⟩)&&(decide (a.c≤b.c)&&decide (a.r≤b.r))
def uN (ts:List ah):Int:=match ts with
 | t :: _=>t.kind
 | []=>0
def jM (base:Nat)(t:ah)(ts:List ah):eT :=
 if ay ⟨#[58]⟩ ts=true then match ts.tail with
  | u :: us=>if u.kind=4∧fI t.dS u.dS=true then .ok ([{ Nd.zero with kind:=6,ref:=t.dS,ai:=u.dS }],base,us)else .error 5
  | [] => .error 5
 else .ok ([{ Nd.zero with kind:=5,ref:=t.dS }],base,ts)
mutual
def eZ:Nat→Nat→Nat→Nat→List ah→Option eT
 | 0,_,_,_,_=>none
 | f + 1,n,deep,base,ts =>
   if n≤3 then iX (eZ f (n+1) deep base ts) fun ns a r=>iK f n deep base ns a r
   else if ay ⟨#[45]⟩ ts=true then
    if 12≤deep then some (.error 6)
    else iX (eZ f 4 (deep+1) base ts.tail) fun ns a r=>some (.ok (ns++[{ Nd.zero with kind:=8,kids:=[(a:Int)] }],base+ns.length,r))
   else jF f deep base ts
def iK:Nat→Nat→Nat→Nat→List Nd→Nat→List ah→Option eT
 | 0,_,_,_,_,_,_=>none
 | f+1,n,deep,base,ns,a,ts =>
   if fH n ts=0 then some (.ok (ns,a,ts))
   else iX (eZ f (n+1) deep (base+ns.length) ts.tail) fun ms b r=>iK f n deep base (ns++(ms++[{ Nd.zero with kind:=fH n ts,kids:=[(a:Int),(b:Int)] }])) (base+(ns.length+ms.length)) r
def jF:Nat→Nat→Nat→List ah→Option eT
 | 0,_,_,_=>none
 | _,_,_,[]=>some (.error 5)
 | f + 1,deep,base,t :: ts =>
   if ay ⟨#[40]⟩ (t :: ts)=true then
    if 12≤deep then some (.error 6)
    else iX (eZ f 0 (deep+1) base ts) fun ns a r=>if ay ⟨#[41]⟩ r=true then some (.ok (ns,a,r.tail))else some (.error 5)
   else if t.kind=1 then some (.ok ([{ Nd.zero with kind:=1,num:=t.num }],base,ts))
   else if t.kind=2 then some (.ok ([{ Nd.zero with kind:=2,text:=t.text }],base,ts))
   else if t.kind=6 then some (.ok ([{ Nd.zero with kind:=4 }],base,ts))
   else if t.kind=4 then some (jM base t ts)
   else if t.kind=3 then
    if t.text=⟨#[84,82,85,69]⟩then some (.ok ([{ Nd.zero with kind:=3,num:=1 }],base,ts))
    else if t.text=⟨#[70,65,76,83,69]⟩then some (.ok ([{ Nd.zero with kind:=3 }],base,ts))
    else if ay ⟨#[40]⟩ ts=true then
     if 12≤deep then some (.error 6)
     else iX (if ay ⟨#[41]⟩ ts.tail=true then some (.ok ([],[],ts.tail))else iq f (deep+1) base [] [] ts.tail) fun ns ks r =>
      if ay ⟨#[41]⟩ r=true then some (.ok (ns++[{ Nd.zero with kind:=7,text:=t.text,kids:=ks }],base+ns.length,r.tail))else some (.error 5)
    else some (.error 5)
   else some (.error 5)
def iq:Nat→Nat→Nat→List Nd→List Int→List ah→Option Args
 | 0,_,_,_,_,_=>none
 | f + 1,deep,base,ns,ks,ts =>
   iX (eZ f 0 deep (base+ns.length) ts) fun ms a r =>
    if ay ⟨#[44]⟩ r=true then iq f deep base (ns++ms) (ks++[(a:Int)]) r.tail else some (.ok (ns++ms,ks++[(a:Int)],r))
end
def j4 (f:Nat)(ts:List ah):Option (Except Int (List Nd)) :=
 iX (eZ f 0 0 0 ts) fun ns _ r=>if uN r=0 then some (.ok ns)else some (.error 5)
theorem eO {β γ δ: Type}{x:Option (Except Int (α × β × γ))}{k : α → β → γ → Option (Except Int δ)}{y:Except Int δ}(h:iX x k=some y) :
 (∃e,x=some (.error e)∧y = .error e)∨∃a b c,x=some (.ok (a,b,c))∧k a b c=some y:=by
 unfold iX at h;split at h
 · cases h
 · injection h with h;exact .inl ⟨_,rfl,h.symm⟩
 · exact .inr ⟨_,_,_,rfl,h⟩
theorem AJ {β γ δ: Type}{x x':Option (Except Int (α × β × γ))}{k k' : α → β → γ → Option (Except Int δ)}(hx:∀y,x=some y→x'=some y)(hk:∀a b c y,k a b c=some y→k' a b c=some y) :
 ∀y,iX x k=some y→iX x' k'=some y:=by
 intro y h;rcases eO h with ⟨e,h1,rfl⟩|⟨a,b,c,h1,h2⟩
 · rw[hx _ h1];rfl
 · rw[hx _ h1];exact hk _ _ _ _ h2
theorem lW (f n deep base:Nat)(ts:List ah):eZ (f+1) n deep base ts=if n≤3 then iX (eZ f (n+1) deep base ts) fun ns a r=>iK f n deep base ns a r
 else if ay ⟨#[45]⟩ ts=true then
  if 12≤deep then some (.error 6)
  else iX (eZ f 4 (deep+1) base ts.tail) fun ns a r=>some (.ok (ns++[{ Nd.zero with kind:=8,kids:=[(a:Int)] }],base+ns.length,r))
 else jF f deep base ts:=by conv=>lhs;unfold eZ
theorem qL (f n deep base:Nat)(ns:List Nd)(a:Nat)(ts:List ah):iK (f+1) n deep base ns a ts=if fH n ts=0 then some (.ok (ns,a,ts))
 else iX (eZ f (n+1) deep (base+ns.length) ts.tail) fun ms b r=>iK f n deep base (ns++(ms++[{ Nd.zero with kind:=fH n ts,kids:=[(a:Int),(b:Int)] }])) (base+(ns.length+ms.length)) r:=by conv=>lhs;unfold iK
theorem pO (f deep base:Nat)(ns:List Nd)(ks:List Int)(ts:List ah):iq (f+1) deep base ns ks ts=iX (eZ f 0 deep (base+ns.length) ts) fun ms a r =>
 if ay ⟨#[44]⟩ r=true then iq f deep base (ns++ms) (ks++[(a:Int)]) r.tail else some (.ok (ns++ms,ks++[(a:Int)],r)):=by conv=>lhs;unfold iq
theorem zN(f deep base:Nat):jF (f+1) deep base []=some (.error 5):=by unfold jF;rfl
theorem l7 (f deep base:Nat)(t:ah)(ts:List ah):jF (f+1) deep base (t :: ts) =
 if ay ⟨#[40]⟩ (t :: ts)=true then
  if 12≤deep then some (.error 6)
  else iX (eZ f 0 (deep+1) base ts) fun ns a r=>if ay ⟨#[41]⟩ r=true then some (.ok (ns,a,r.tail))else some (.error 5)
 else if t.kind=1 then some (.ok ([{ Nd.zero with kind:=1,num:=t.num }],base,ts))
 else if t.kind=2 then some (.ok ([{ Nd.zero with kind:=2,text:=t.text }],base,ts))
 else if t.kind=6 then some (.ok ([{ Nd.zero with kind:=4 }],base,ts))
 else if t.kind=4 then some (jM base t ts)
 else if t.kind=3 then
  if t.text=⟨#[84,82,85,69]⟩then some (.ok ([{ Nd.zero with kind:=3,num:=1 }],base,ts))
  else if t.text=⟨#[70,65,76,83,69]⟩then some (.ok ([{ Nd.zero with kind:=3 }],base,ts))
  else if ay ⟨#[40]⟩ ts=true then
   if 12≤deep then some (.error 6)
   else iX (if ay ⟨#[41]⟩ ts.tail=true then some (.ok ([],[],ts.tail))else iq f (deep+1) base [] [] ts.tail) fun ns ks r =>
    if ay ⟨#[41]⟩ r=true then some (.ok (ns++[{ Nd.zero with kind:=7,text:=t.text,kids:=ks }],base+ns.length,r.tail))else some (.error 5)
  else some (.error 5)
 else some (.error 5):=by conv=>lhs;unfold jF
theorem H5 : ∀ f : Nat,(∀n deep base ts y,eZ f n deep base ts=some y→eZ (f+1) n deep base ts=some y)∧(∀n deep base ns a ts y,iK f n deep base ns a ts=some y→iK (f+1) n deep base ns a ts=some y) ∧
 (∀deep base ts y,jF f deep base ts=some y→jF (f+1) deep base ts=some y)∧(∀deep base ns ks ts y,iq f deep base ns ks ts=some y→iq (f+1) deep base ns ks ts=some y)
 | 0=>⟨fun _ _ _ _ _ h=>by simp[eZ]at h,fun _ _ _ _ _ _ _ h=>by simp[iK]at h,fun _ _ _ _ h=>by simp[jF]at h,fun _ _ _ _ _ _ h=>by simp[iq]at h⟩
 | f + 1 => by
   obtain⟨i1,i2,i3,i4⟩:=H5 f;refine⟨?_, ?_, ?_, ?_⟩
   · intro n deep base ts y h
     rw[lW]at h ⊢;split
     · rw[ag ‹_›]at h
       exact AJ (fun y h=>i1 _ _ _ _ y h) (fun a b c y h=>i2 _ _ _ _ _ _ y h) y h
     · rw [af ‹_›]at h
       split
       · rw [ag ‹_›]at h
         split
         · rw[ag ‹_›]at h;exact h
         · rw[af ‹_›]at h
           exact AJ (fun y h=>i1 _ _ _ _ y h) (fun a b c y h=>h) y h
       · rw[af ‹_›]at h
         exact i3 _ _ _ y h
   · intro n deep base ns a ts y h
     rw[qL]at h ⊢;split
     · rw[ag ‹_›]at h;exact h
     · rw[af ‹_›]at h
       exact AJ (fun y h=>i1 _ _ _ _ y h) (fun a b c y h=>i2 _ _ _ _ _ _ y h) y h
   · intro deep base ts y h
     cases ts with
     | nil=>rw[zN]at h ⊢;exact h
     | cons t ts =>
       rw[l7]at h ⊢;by_cases c1:ay ⟨#[40]⟩ (t :: ts)=true
       · rw [ag c1]at h ⊢
         by_cases d:12≤deep
         · rw[ag d]at h ⊢;exact h
         · rw[af d]at h ⊢
           exact AJ (fun y h=>i1 _ _ _ _ y h) (fun a b c y h=>h) y h
       · rw [af c1] at h ⊢
         by_cases c2:t.kind=1
         · rw[ag c2]at h ⊢
           exact h
         · rw [af c2] at h ⊢
           by_cases c3:t.kind=2
           · rw[ag c3]at h ⊢
             exact h
           · rw [af c3] at h ⊢
             by_cases c4:t.kind=6
             · rw[ag c4]at h ⊢
               exact h
             · rw [af c4] at h ⊢
               by_cases c5:t.kind=4
               · rw[ag c5]at h ⊢
                 exact h
               · rw [af c5]at h ⊢
                 by_cases c6:t.kind=3
                 · rw [ag c6]at h ⊢
                   by_cases c7:t.text=⟨#[84,82,85,69]⟩
                   · rw[ag c7]at h ⊢;exact h
                   · rw [af c7]at h ⊢
                     by_cases c8:t.text=⟨#[70,65,76,83,69]⟩
                     · rw[ag c8]at h ⊢;exact h
                     · rw [af c8]at h ⊢
                       by_cases c9:ay ⟨#[40]⟩ ts=true
                       · rw [ag c9]at h ⊢
                         by_cases d:12≤deep
                         · rw[ag d]at h ⊢;exact h
                         · rw[af d]at h ⊢
                           refine AJ (fun y h => ?_) (fun a b c y h=>h) y h;by_cases c10:ay ⟨#[41]⟩ ts.tail=true
                           · rw[ag c10]at h ⊢;exact h
                           · rw[af c10]at h ⊢;exact i4 _ _ _ _ _ y h
                       · rw[af c9]at h ⊢;exact h
                 · rw[af c6]at h ⊢;exact h
   · intro deep base ns ks ts y h
     rw[pO]at h ⊢;refine AJ (fun y h=>i1 _ _ _ _ y h) (fun a b c y h => ?_) y h;split
     · rw[ag ‹_›]at h;exact i4 _ _ _ _ _ y h
     · rw[af ‹_›]at h;exact h
theorem wY {ts:List ah}{y:eT}(hfg:f≤g)(h:eZ f n deep base ts=some y):eZ g n deep base ts=some y:=by
 induction g with
 | zero => obtain rfl:f=0:=by omega
           exact h
 | succ g ih =>
   by_cases e:f=g+1
   · rw[← e];exact h
   · exact(H5 g).1 _ _ _ _ _ (ih (by omega))
theorem Fj {ns:List Nd}{a:Nat}{ts:List ah}{y:eT}(hfg:f≤g)(h:iK f n deep base ns a ts=some y):iK g n deep base ns a ts=some y:=by
 induction g with
 | zero => obtain rfl:f=0:=by omega
           exact h
 | succ g ih =>
   by_cases e:f=g+1
   · rw[← e];exact h
   · exact(H5 g).2.1 _ _ _ _ _ _ _ (ih (by omega))
theorem Gt {ns:List Nd}{ts:List ah}{y:Args}(hfg:f≤g)(h:iq f deep base ns ks ts=some y):iq g deep base ns ks ts=some y:=by
 induction g with
 | zero => obtain rfl:f=0:=by omega
           exact h
 | succ g ih =>
   by_cases e:f=g+1
   · rw[← e];exact h
   · exact(H5 g).2.2.2 _ _ _ _ _ _ (ih (by omega))
def fG(m:Nat)(r ts:List ah):Prop:=∃pre:List ah,ts=pre++r∧(∀t∈pre,t.kind≠0)∧m≤pre.length
theorem fG.refl(ts:List ah):fG 0 ts ts:=⟨[],rfl,by simp,by simp⟩
theorem fG.trans {k:Nat}{r s t:List ah}(h:fG m r s)(g:fG k s t):fG (k+m) r t:=by
 obtain⟨p,rfl,h1,h2⟩:=h;obtain⟨q,rfl,g1,g2⟩:=g;refine⟨q++p,by rw[bQ], ?_,by rw[ax];omega⟩;intro x hx;rw[dQ]at hx;rcases hx with hx|hx
 · exact g1 x hx
 · exact h1 x hx
theorem fG.less {k:Nat}{r ts:List ah}(h:fG m r ts)(hk:k≤m):fG k r ts:=by
 obtain⟨p,h0,h1,h2⟩:=h;exact⟨p,h0,h1,by omega⟩
theorem fG.len {r ts:List ah}(h:fG m r ts):r.length+m≤ts.length:=by
 obtain⟨p,rfl,_,h2⟩:=h;rw[ax];omega
theorem fG.head{t:ah}{ts:List ah}(h:t.kind≠0):fG 1 ts (t :: ts):=⟨[t],rfl,by simp[h],by simp⟩
theorem fG.sign {ts:List ah}(h:ay s ts=true):fG 1 ts.tail ts:=by
 cases ts with
 | nil=>simp[ay]at h
 | cons t ts =>
   unfold ay at h;rw[dJ,aQ]at h;exact fG.head (by omega)
theorem EX {ts:List ah}(h:fH n ts≠0):∃p∈gp n,ay p.1 ts=true∧fH n ts=p.2:=by
 unfold fH at h ⊢;cases hq:(gp n).find? (fun p=>ay p.1 ts)with
 | none=>rw[hq]at h;exact absurd rfl h
 | some p=>exact⟨p,List.mem_of_find?_eq_some hq,List.find?_some (p:=fun p:ByteArray × Int=>ay p.1 ts) hq,rfl⟩
theorem fG.op {ts:List ah}(h:fH n ts≠0):fG 1 ts.tail ts:=by
 obtain⟨p,_,h1,_⟩:=EX h;exact fG.sign h1
theorem Vk {t:ah}{ts:List ah}{ns:List Nd}{a:Nat}{r:List ah}(h:jM base t ts = .ok (ns,a,r)):fG 0 r ts∧ns.length=1∧a=base:=by
 unfold jM at h;by_cases c:ay ⟨#[58]⟩ ts=true
 · rw [ag c]at h
   cases hq:ts.tail with
   | nil=>rw[hq]at h;cases h
   | cons u us =>
     rw[hq]at h;simp only at h;by_cases d:u.kind=4∧fI t.dS u.dS=true
     · rw[ag d]at h
       injection h with h;injection h with h1 h2;injection h2 with h2 h3;subst h1;subst h2;subst h3;have s1:=fG.sign c;rw[hq]at s1;exact⟨((fG.head (ts:=us) (show u.kind≠0 by omega)).trans s1).less (by omega),rfl,rfl⟩
     · rw[af d]at h;cases h
 · rw[af c]at h
   injection h with h;injection h with h1 h2;injection h2 with h2 h3;subst h1;subst h2;subst h3;exact⟨fG.refl _,rfl,rfl⟩
def Told(base:Nat)(ts:List ah)(ns:List Nd)(a:Nat)(r:List ah):Prop:=fG 1 r ts∧a+1=base+ns.length∧1≤ns.length
theorem wG : ∀ f : Nat, (∀ n deep base ts ns a r,eZ f n deep base ts=some (.ok (ns,a,r))→Told base ts ns a r) ∧
 (∀n deep base ns a ts ns' a' r,iK f n deep base ns a ts=some (.ok (ns',a',r))→a+1=base+ns.length→1≤ns.length→fG 0 r ts∧a'+1=base+ns'.length∧1≤ns'.length) ∧
 (∀deep base ts ns a r,jF f deep base ts=some (.ok (ns,a,r))→Told base ts ns a r) ∧
 (∀deep base ns ks ts ns' ks' r,iq f deep base ns ks ts=some (.ok (ns',ks',r))→fG 1 r ts)
 | 0=>by
   refine⟨?_, ?_, ?_, ?_⟩
   · intro n deep base ts ns a r h;unfold eZ at h;cases h
   · intro n deep base ns a ts ns' a' r h;unfold iK at h;cases h
   · intro deep base ts ns a r h;unfold jF at h;cases h
   · intro deep base ns ks ts ns' ks' r h;unfold iq at h;cases h
 | f + 1 => by
   obtain⟨i1,i2,i3,i4⟩:=wG f;refine⟨?_, ?_, ?_, ?_⟩
   · intro n deep base ts ns a r h
     rw[lW]at h;by_cases c:n≤3
     · rw [ag c]at h
       rcases eO h with ⟨e,_,h2⟩|⟨ms,b,s,h1,h2⟩
       · cases h2
       · obtain⟨k1,k2,k3⟩:=i1 _ _ _ _ _ _ _ h1
         obtain⟨g1,g2,g3⟩:=i2 _ _ _ _ _ _ _ _ _ h2 k2 k3;exact⟨g1.trans k1,g2,g3⟩
     · rw [af c]at h
       by_cases d:ay ⟨#[45]⟩ ts=true
       · rw [ag d]at h
         by_cases d2:12≤deep
         · rw[ag d2]at h;cases h
         · rw [af d2]at h
           rcases eO h with ⟨e,_,h2⟩|⟨ms,b,s,h1,h2⟩
           · cases h2
           · obtain⟨k1,k2,k3⟩:=i1 _ _ _ _ _ _ _ h1
             injection h2 with h2;injection h2 with h2;injection h2 with h3 h4;injection h4 with h4 h5;subst h3;subst h4;subst h5;exact⟨(k1.trans (fG.sign d)).less (by omega),by rw[ax];simp;omega,by rw[ax];simp⟩
       · rw[af d]at h;exact i3 _ _ _ _ _ _ h
   · intro n deep base ns a ts ns' a' r h ha hn
     rw[qL]at h;by_cases c:fH n ts=0
     · rw[ag c]at h
       injection h with h;injection h with h;injection h with h1 h2;injection h2 with h2 h3;subst h1;subst h2;subst h3;exact⟨fG.refl _,ha,hn⟩
     · rw [af c]at h
       rcases eO h with ⟨e,_,h2⟩|⟨ms,b,s,h1,h2⟩
       · cases h2
       · obtain⟨k1,k2,k3⟩:=i1 _ _ _ _ _ _ _ h1
         obtain⟨g1,g2,g3⟩:=i2 _ _ _ _ _ _ _ _ _ h2 (by simp only[ax,bf,dX];omega) (by simp only[ax,bf,dX];omega);exact⟨((g1.trans k1).trans (fG.op c)).less (by omega),g2,g3⟩
   · intro deep base ts ns a r h
     cases ts with
     | nil=>rw[zN]at h;cases h
     | cons t ts =>
       have leaf:∀(x:Nd),t.kind≠0→(some (.ok ([x],base,ts)):Option eT)=some (.ok (ns,a,r))→Told base (t :: ts) ns a r:=by
        intro x hk h;injection h with h;injection h with h;injection h with h1 h2;injection h2 with h2 h3;subst h1;subst h2;subst h3;exact⟨fG.head hk,by simp,by simp⟩
       rw[l7]at h;by_cases c1:ay ⟨#[40]⟩ (t :: ts)=true
       · rw [ag c1]at h
         have s1:=fG.sign c1;by_cases d:12≤deep
         · rw[ag d]at h;cases h
         · rw [af d]at h
           rcases eO h with ⟨e,_,h2⟩|⟨ms,b,s,h1,h2⟩
           · cases h2
           · obtain ⟨k1,k2,k3⟩:=i1 _ _ _ _ _ _ _ h1
             by_cases d2:ay ⟨#[41]⟩ s=true
             · rw[ag d2]at h2
               injection h2 with h2;injection h2 with h2;injection h2 with h3 h4;injection h4 with h4 h5;subst h3;subst h4;subst h5;exact⟨(((fG.sign d2).trans k1).trans s1).less (by omega),k2,k3⟩
             · rw[af d2]at h2;cases h2
       · rw [af c1] at h
         by_cases c2:t.kind=1
         · rw[ag c2]at h;exact leaf _ (by omega) h
         · rw [af c2] at h
           by_cases c3:t.kind=2
           · rw[ag c3]at h;exact leaf _ (by omega) h
           · rw [af c3] at h
             by_cases c4:t.kind=6
             · rw[ag c4]at h;exact leaf _ (by omega) h
             · rw [af c4] at h
               by_cases c5:t.kind=4
               · rw[ag c5]at h
                 injection h with h;obtain⟨g1,g2,g3⟩:=Vk h;exact⟨(g1.trans (fG.head (show t.kind≠0 by omega))).less (by omega),by omega,by omega⟩
               · rw [af c5] at h
                 by_cases c6:t.kind=3
                 · rw [ag c6] at h
                   by_cases c7:t.text=⟨#[84,82,85,69]⟩
                   · rw[ag c7]at h;exact leaf _ (by omega) h
                   · rw [af c7]at h
                     by_cases c8:t.text=⟨#[70,65,76,83,69]⟩
                     · rw[ag c8]at h;exact leaf _ (by omega) h
                     · rw [af c8]at h
                       by_cases c9:ay ⟨#[40]⟩ ts=true
                       · rw [ag c9]at h
                         by_cases d:12≤deep
                         · rw[ag d]at h;cases h
                         · rw [af d]at h
                           rcases eO h with ⟨e,_,h2⟩|⟨ms,ks,s,h1,h2⟩
                           · cases h2
                           · have k1:fG 0 s ts.tail:=by
                              by_cases c10:ay ⟨#[41]⟩ ts.tail=true
                              · rw[ag c10]at h1
                                injection h1 with h1;injection h1 with h1;injection h1 with h3 h4;injection h4 with h4 h5;subst h5;exact fG.refl _
                              · rw[af c10]at h1;exact(i4 _ _ _ _ _ _ _ _ h1).less (by omega)
                             by_cases d2:ay ⟨#[41]⟩ s=true
                             · rw[ag d2]at h2
                               injection h2 with h2;injection h2 with h2;injection h2 with h3 h4;injection h4 with h4 h5;subst h3;subst h4;subst h5;exact⟨((((fG.sign d2).trans k1).trans (fG.sign c9)).trans (fG.head (show t.kind≠0 by omega))).less (by omega),by rw[ax];simp;omega,by rw[ax];simp⟩
                             · rw[af d2]at h2;cases h2
                       · rw[af c9]at h;cases h
                 · rw[af c6]at h;cases h
   · intro deep base ns ks ts ns' ks' r h
     rw[pO]at h;rcases eO h with ⟨e,_,h2⟩|⟨ms,b,s,h1,h2⟩
     · cases h2
     · obtain ⟨k1,k2,k3⟩:=i1 _ _ _ _ _ _ _ h1
       by_cases d:ay ⟨#[44]⟩ s=true
       · rw[ag d]at h2
         exact(((i4 _ _ _ _ _ _ _ _ h2).trans (fG.sign d)).trans k1).less (by omega)
       · rw[af d]at h2
         injection h2 with h2;injection h2 with h2;injection h2 with h3 h4;injection h4 with h4 h5;subst h5;exact k1
def wI(n:Nat)(ts:List ah):Prop:=∀deep base,∃f y,eZ f n deep base ts=some y
def Jt(ts:List ah):Prop:=∀n deep base ns a,∃f y,iK f n deep base ns a ts=some y
def FK(ts:List ah):Prop:=∀deep base,∃f y,jF f deep base ts=some y
def Js(ts:List ah):Prop:=∀deep base ns ks,∃f y,iq f deep base ns ks ts=some y
theorem aaF (t : ah)(ts:List ah)(h0:wI 0 ts)(ha:Js ts.tail):FK (t :: ts):=by
 intro deep base;obtain⟨f1,y1,e1⟩:=h0 (deep+1) base;obtain⟨f2,y2,e2⟩:=ha (deep+1) base [] [];refine⟨f1+f2+1, ?_⟩;rw[l7,wY (g:=f1+f2) (by omega) e1,Gt (g:=f1+f2) (by omega) e2];by_cases c1:ay ⟨#[40]⟩ (t :: ts)=true
 · rw [ag c1]
   by_cases d:12≤deep
   · rw[ag d];exact⟨_,rfl⟩
   · rw [af d]
     cases y1 with
     | error e=>exact⟨_,rfl⟩
     | ok q =>
       obtain⟨ns,a,r⟩:=q;show ∃y,(if ay ⟨#[41]⟩ r=true then _ else _)=some y;by_cases d2:ay ⟨#[41]⟩ r=true
       · rw[ag d2];exact⟨_,rfl⟩
       · rw[af d2];exact⟨_,rfl⟩
 · rw [af c1]
   by_cases c2:t.kind=1
   · rw[ag c2];exact⟨_,rfl⟩
   · rw [af c2]
     by_cases c3:t.kind=2
     · rw[ag c3];exact⟨_,rfl⟩
     · rw [af c3]
       by_cases c4:t.kind=6
       · rw[ag c4];exact⟨_,rfl⟩
       · rw [af c4]
         by_cases c5:t.kind=4
         · rw[ag c5];exact⟨_,rfl⟩
         · rw [af c5]
           by_cases c6:t.kind=3
           · rw [ag c6]
             by_cases c7:t.text=⟨#[84,82,85,69]⟩
             · rw[ag c7];exact⟨_,rfl⟩
             · rw [af c7]
               by_cases c8:t.text=⟨#[70,65,76,83,69]⟩
               · rw[ag c8];exact⟨_,rfl⟩
               · rw [af c8]
                 by_cases c9:ay ⟨#[40]⟩ ts=true
                 · rw [ag c9]
                   by_cases d:12≤deep
                   · rw[ag d];exact⟨_,rfl⟩
                   · rw [af d]
                     have fin:∀z:Args,∃y,iX (some z) (fun ns ks r=>if ay ⟨#[41]⟩ r=true then some (.ok (ns++[{ Nd.zero with kind:=7,text:=t.text,kids:=ks }],base+ns.length,r.tail))else some (.error 5))=some (y:eT):=by
                      intro z;cases z with
                      | error e=>exact⟨_,rfl⟩
                      | ok q =>
                        obtain⟨ns,ks,r⟩:=q;show ∃y,(if ay ⟨#[41]⟩ r=true then _ else _)=some y;by_cases d2:ay ⟨#[41]⟩ r=true
                        · rw[ag d2];exact⟨_,rfl⟩
                        · rw[af d2];exact⟨_,rfl⟩
                     by_cases c10:ay ⟨#[41]⟩ ts.tail=true
                     · rw[ag c10];exact fin _
                     · rw[af c10];exact fin _
                 · rw[af c9];exact⟨_,rfl⟩
           · rw[af c6];exact⟨_,rfl⟩
theorem QL (ts:List ah)(h4:ay ⟨#[45]⟩ ts=true→wI 4 ts.tail)(hp:FK ts)(n:Nat)(hn:3<n):wI n ts:=by
 intro deep base;by_cases d:ay ⟨#[45]⟩ ts=true
 · obtain ⟨f1,y1,e1⟩:=h4 d (deep+1) base
   refine⟨f1+1, ?_⟩;rw[lW,af (by omega),ag d,e1];by_cases c:12≤deep
   · rw[ag c];exact⟨_,rfl⟩
   · rw[af c];cases y1 with
     | error e=>exact⟨_,rfl⟩
     | ok q=>exact⟨_,rfl⟩
 · obtain⟨f1,y1,e1⟩:=hp deep base
   refine⟨f1+1,y1, ?_⟩;rw[lW,af (by omega),af d,e1]
theorem QK (m:Nat)(hE:∀n ts,ts.length<m→wI n ts):∀(k:Nat)(ts:List ah),ts.length≤k→k≤m→Jt ts
 | k, ts, hk,hm=>by
   intro n deep base ns a;by_cases c:fH n ts=0
   · exact⟨1,_,by rw[qL,ag c]⟩
   · have hs:=(fG.op c).len
     obtain⟨f1,y1,e1⟩:=hE (n+1) ts.tail (by omega) deep (base+ns.length);cases y1 with
     | error e=>exact⟨f1+1,.error e,by rw[qL,af c,e1];rfl⟩
     | ok q =>
       obtain⟨ms,b,r⟩:=q;have hr:=((wG f1).1 _ _ _ _ _ _ _ e1).1.len
       match k,hk with
       | k+1,hk =>
         obtain⟨f2,y2,e2⟩:=QK m hE k r (by omega) (by omega) n deep base (ns++(ms++[{ Nd.zero with kind:=fH n ts,kids:=[(a:Int),(b:Int)] }])) (base+(ns.length+ms.length));refine⟨f1+f2+1,y2, ?_⟩;rw[qL,af c,wY (g:=f1+f2) (by omega) e1];exact Fj (by omega) e2
       | 0,hk=>omega
theorem KY (m:Nat)(ts:List ah)(hR:∀r:List ah,r.length<ts.length→Jt r)(h4:wI 4 ts):∀j n:Nat,n+j=4→wI n ts
 | 0, n, h => by obtain rfl:n=4:=by omega
                 exact h4
 | j + 1,n,h=>by
   intro deep base;obtain⟨f1,y1,e1⟩:=KY m ts hR h4 j (n+1) (by omega) deep base;cases y1 with
   | error e=>exact⟨f1+1,.error e,by rw[lW,ag (by omega),e1];rfl⟩
   | ok q =>
     obtain⟨ns,a,r⟩:=q;have hr:=((wG f1).1 _ _ _ _ _ _ _ e1).1.len;obtain⟨f2,y2,e2⟩:=hR r (by omega) n deep base ns a;refine⟨f1+f2+1,y2, ?_⟩;rw[lW,ag (by omega),wY (g:=f1+f2) (by omega) e1];exact Fj (by omega) e2
theorem QJ (m:Nat)(hE:∀ts:List ah,ts.length≤m→wI 0 ts):∀(k:Nat)(ts:List ah),ts.length≤k→k≤m→Js ts
 | k, ts, hk,hm=>by
   intro deep base ns ks;obtain⟨f1,y1,e1⟩:=hE ts (by omega) deep (base+ns.length);cases y1 with
   | error e=>exact⟨f1+1,.error e,by rw[pO,e1];rfl⟩
   | ok q =>
     obtain⟨ms,a,r⟩:=q;have hr:=((wG f1).1 _ _ _ _ _ _ _ e1).1.len;by_cases d:ay ⟨#[44]⟩ r=true
     · match k,hk with
       | 0,hk=>omega
       | k+1,hk =>
         obtain⟨f2,y2,e2⟩:=QJ m hE k r.tail (by have:=(fG.sign d).len;omega) (by omega) deep base (ns++ms) (ks++[(a:Int)]);refine⟨f1+f2+1,y2, ?_⟩;rw[pO,wY (g:=f1+f2) (by omega) e1];show(if ay ⟨#[44]⟩ r=true then _ else _)=_;rw[ag d];exact Gt (by omega) e2
     · refine⟨f1+1,.ok (ns++ms,ks++[(a:Int)],r), ?_⟩
       rw[pO,e1];show(if ay ⟨#[44]⟩ r=true then _ else _)=_;rw[af d]
theorem aaE:∀m:Nat,∀ts:List ah,ts.length≤m→∀n:Nat,wI n ts:=by
 intro m
 induction m with
 | zero =>
   intro ts h;have e:ts=[]:=kM (by omega);subst e;have hp:FK []:=fun deep base=>⟨1,_,zN 0 deep base⟩
   have h4:∀n,3<n→wI n []:=fun n hn=>QL [] (fun h=>by simp[ay]at h) hp n hn
   intro n;by_cases c:n≤3
   · exact KY 0 [] (fun r hr=>by simp at hr) (h4 4 (by omega)) (4 - n) n (by omega)
   · exact h4 n (by omega)
 | succ m ih =>
   intro ts h;by_cases hs:ts.length≤m
   · exact ih ts hs
   · have hR:∀r:List ah,r.length<ts.length→Jt r:=fun r hr=>QK (m+1) (fun n ts' h'=>ih ts' (by omega) n) m r (by omega) (by omega)
     have hA:∀r:List ah,r.length≤m→Js r:=fun r hr=>QJ m (fun ts' h'=>ih ts' h' 0) m r hr (aj _)
     cases ts with
     | nil=>simp at hs
     | cons t ts =>
       simp only[bf]at h hs;have hp:FK (t :: ts):=aaF t ts (ih ts (by omega) 0) (hA ts.tail (by rw[List.length_tail];omega));have h4:∀n,3<n→wI n (t :: ts):=fun n hn=>QL (t :: ts) (fun _=>ih ts (by omega) 4) hp n hn
       intro n;by_cases c:n≤3
       · exact KY 0 (t :: ts) hR (h4 4 (by omega)) (4 - n) n (by omega)
       · exact h4 n (by omega)
theorem afX (ts:List ah):∃f y,j4 f ts=some y:=by
 obtain⟨f,y,h⟩:=aaE _ ts (aj _) 0 0 0;refine⟨f, ?_⟩;unfold j4;rw[h];cases y with
 | error e=>exact⟨_,rfl⟩
 | ok q =>
   obtain⟨ns,a,r⟩:=q;show ∃y,(if uN r=0 then _ else _)=some y;by_cases c:uN r=0
   · rw[ag c];exact⟨_,rfl⟩
   · rw[af c];exact⟨_,rfl⟩
def fQ(r:bL):Bool:=decide (r.sh=⟨#[]⟩∧r.c=0∧r.r=0)&&(!r.ac && !r.ar)
def bX(r:bL):Bool:=dO (sb r.sh) r.c r.r
def mM(l:List Int):Bool:=decide (∀x∈l,¬ x<32)
def kv(s:ByteArray):Bool:=jL (sb s)&&((iA s).isNone&&(decide (¬ s=⟨#[84,82,85,69]⟩)&&decide (¬ s=⟨#[70,65,76,83,69]⟩)))
def jT(k:Int):Int:=if 1≤k∧k≤6 then 0 else if k=7 then -1 else if k=8 then 1 else if 9≤k∧k≤19 then 2 else -2
def aO (n:Nd):Bool :=
 if (n.kind≠1∧n.kind≠3∧n.num≠0)∨(n.kind≠2∧n.kind≠7∧n.text≠⟨#[]⟩)∨(n.kind≠5∧n.kind≠6∧fQ n.ref=false)∨(n.kind≠6∧fQ n.ai=false)then false
 else if n.kind=1 then decide (0≤n.num)
 else if n.kind=3 then decide (n.num=0∨n.num=1)
 else if n.kind=2 then mM (sb n.text)
 else if n.kind=7 then kv n.text
 else if n.kind=5 then bX n.ref
 else if n.kind=6 then bX n.ref&&(bX n.ai&&fI n.ref n.ai)
 else true
def dD(n:Nd):Bool:=aO n&&(decide (jT n.kind = -1)||decide (jT n.kind=n.kids.length))
def nQ:List Int→Nat→List Nd→Bool
 | st,_,[]=>decide (st.length=1)
 | st,i,n :: ns=>dD n&&(decide (n.kids.length≤st.length)&&(decide (st.drop (st.length - n.kids.length)=n.kids)&&nQ (st.take (st.length - n.kids.length)++[(i:Int)]) (i+1) ns))
theorem nR(st:List Int)(i:Nat)(n:Nd)(ns:List Nd):nQ st i (n :: ns)=(dD n&&(decide (n.kids.length≤st.length)&&(decide (st.drop (st.length - n.kids.length)=n.kids)&&nQ (st.take (st.length - n.kids.length)++[(i:Int)]) (i+1) ns))):=rfl
def dA(l:List Nd):Bool:=nQ [] 0 l
def ib(base:Nat)(ns:List Nd)(ks:List Int):Prop:=∀st rest,nQ st base (ns++rest)=nQ (st++ks) (base+ns.length) rest
theorem ib.nil(base:Nat):ib base [] []:=fun st rest=>by simp
theorem ib.app {ns ms:List Nd}{js:List Int}(h:ib base ns ks)(g:ib (base+ns.length) ms js):ib base (ns++ms) (ks++js):=by
 intro st rest;rw[bQ,h,g,bQ,ax,Nat.add_assoc]
theorem ib.node {ns:List Nd}{n:Nd}(h:ib base ns n.kids)(hn:dD n=true):ib base (ns++[n]) [((base+ns.length:Nat):Int)]:=by
 intro st rest;rw[bQ,h];show nQ (st++n.kids) (base+ns.length) (n :: rest)=_;rw[nR];have e1:(st++n.kids).length - n.kids.length=st.length:=by rw[ax];omega
 rw[hn,e1,List.drop_left,List.take_left,aR (show n.kids.length≤(st++n.kids).length by rw[ax];omega),aR rfl,gV,gV,gV,ax];rfl
structure OA (t:ah):Prop where
 num:t.kind=1→0≤t.num
 text:t.kind=2→mM (sb t.text)=true
 name:t.kind=3→jL (sb t.text)=true∧(iA t.text).isNone=true
 ref:t.kind=4→bX t.dS=true
def Good(ts:List ah):Prop:=∀t∈ts,OA t
theorem Good.tail{ts:List ah}(h:Good ts):Good ts.tail:=fun t ht=>h t (List.mem_of_mem_tail ht)
theorem Good.NY {r ts:List ah}(h:Good ts)(hs:fG m r ts):Good r:=by
 obtain⟨p,rfl,_,_⟩:=hs;exact fun t ht=>h t (List.mem_append_right _ ht)
theorem yE:fQ bL.zero=true:=by decide
theorem afy {ts:List ah}(h:fH n ts≠0):9≤fH n ts∧fH n ts≤19:=by
 obtain⟨p,hp,_,e⟩:=EX h;rw[e]
 match n with
 | 0=>simp[gp]at hp;rcases hp with rfl|rfl|rfl|rfl|rfl|rfl <;> decide
 | 1=>simp[gp]at hp;subst hp;decide
 | 2=>simp[gp]at hp;rcases hp with rfl|rfl <;> decide
 | n+3=>simp[gp]at hp;rcases hp with rfl|rfl <;> decide
theorem MR {k a b:Int}(h:9≤k∧k≤19):dD { Nd.zero with kind:=k,kids:=[a,b] }=true:=by
 unfold dD
 have h1:aO { Nd.zero with kind:=k,kids:=[a,b] }=true:=by
  unfold aO
  rw [af (by
   rintro(⟨_,_,h⟩|⟨_,_,h⟩|⟨_,_,h⟩|⟨_,h⟩)
   · exact h rfl
   · exact h rfl
   · rw[show fQ ({ Nd.zero with kind:=k,kids:=[a,b] }:Nd).ref=true from yE]at h;cases h
   · rw[show fQ ({ Nd.zero with kind:=k,kids:=[a,b] }:Nd).ai=true from yE]at h;cases h),af (by show ¬ k=1;omega),af (by show ¬ k=3;omega),af (by show ¬ k=2;omega),af (by show ¬ k=7;omega),af (by show ¬ k=5;omega),af (by show ¬ k=6;omega)]
 have h2:jT k=2:=by unfold jT;rw[af (by omega),af (by omega),af (by omega),ag h]
 rw[h1,gV,Bool.or_eq_true]
 right
 rw[aQ];exact h2
theorem Uv (a:Int):dD { Nd.zero with kind:=8,kids:=[a] }=true:=by
 unfold dD aO;rfl
theorem Uw {n:Int}(h:0≤n):dD { Nd.zero with kind:=1,num:=n }=true:=by
 unfold dD
 have h1:aO { Nd.zero with kind:=1,num:=n }=true:=by
  unfold aO
  rw [af (by
   rintro(⟨h,_⟩|⟨_,_,h⟩|⟨_,_,h⟩|⟨_,h⟩)
   · exact h rfl
   · exact h rfl
   · rw[show fQ ({ Nd.zero with kind:=1,num:=n }:Nd).ref=true from yE]at h;cases h
   · rw[show fQ ({ Nd.zero with kind:=1,num:=n }:Nd).ai=true from yE]at h;cases h),ag rfl]
  exact aR h
 rw[h1];rfl
theorem Ux (h:mM (sb s)=true):dD { Nd.zero with kind:=2,text:=s }=true:=by
 unfold dD
 have h1:aO { Nd.zero with kind:=2,text:=s }=true:=by
  unfold aO
  rw [af (by
   rintro(⟨_,_,h⟩|⟨h,_⟩|⟨_,_,h⟩|⟨_,h⟩)
   · exact h rfl
   · exact h rfl
   · rw[show fQ ({ Nd.zero with kind:=2,text:=s }:Nd).ref=true from yE]at h;cases h
   · rw[show fQ ({ Nd.zero with kind:=2,text:=s }:Nd).ai=true from yE]at h;cases h),af (by show ¬ (2:Int)=1;omega),af (by show ¬ (2:Int)=3;omega),ag rfl]
  exact h
 rw[h1];rfl
theorem Uu (h:kv s=true):dD { Nd.zero with kind:=7,text:=s,kids:=ks }=true:=by
 unfold dD
 have h1:aO { Nd.zero with kind:=7,text:=s,kids:=ks }=true:=by
  unfold aO
  rw [af (by
   rintro(⟨_,_,h⟩|⟨_,h,_⟩|⟨_,_,h⟩|⟨_,h⟩)
   · exact h rfl
   · exact h rfl
   · rw[show fQ ({ Nd.zero with kind:=7,text:=s,kids:=ks }:Nd).ref=true from yE]at h;cases h
   · rw[show fQ ({ Nd.zero with kind:=7,text:=s,kids:=ks }:Nd).ai=true from yE]at h;cases h),af (by show ¬ (7:Int)=1;omega),af (by show ¬ (7:Int)=3;omega),af (by show ¬ (7:Int)=2;omega),ag rfl]
  exact h
 rw[h1];rfl
theorem MU {r:bL}(h:bX r=true):dD { Nd.zero with kind:=5,ref:=r }=true:=by
 unfold dD
 have h1:aO { Nd.zero with kind:=5,ref:=r }=true:=by
  unfold aO
  rw [af (by
   rintro(⟨_,_,h⟩|⟨_,_,h⟩|⟨h,_⟩|⟨_,h⟩)
   · exact h rfl
   · exact h rfl
   · exact h rfl
   · rw[show fQ ({ Nd.zero with kind:=5,ref:=r }:Nd).ai=true from yE]at h;cases h),af (by show ¬ (5:Int)=1;omega),af (by show ¬ (5:Int)=3;omega),af (by show ¬ (5:Int)=2;omega),af (by show ¬ (5:Int)=7;omega),ag rfl]
  exact h
 rw[h1];rfl
theorem MS {r t:bL}(h:bX r=true)(g:bX t=true)(hs:fI r t=true):dD { Nd.zero with kind:=6,ref:=r,ai:=t }=true:=by
 unfold dD
 have h1:aO { Nd.zero with kind:=6,ref:=r,ai:=t }=true:=by
  unfold aO
  rw [af (by
   rintro(⟨_,_,h⟩|⟨_,_,h⟩|⟨_,h,_⟩|⟨h,_⟩)
   · exact h rfl
   · exact h rfl
   · exact h rfl
   · exact h rfl),af (by show ¬ (6:Int)=1;omega),af (by show ¬ (6:Int)=3;omega),af (by show ¬ (6:Int)=2;omega),af (by show ¬ (6:Int)=7;omega),af (by show ¬ (6:Int)=5;omega),ag rfl]
  show(bX r&&(bX t&&fI r t))=true;rw[h,g,hs];rfl
 rw[h1];rfl
theorem ib.leaf {n:Nd}(hk:n.kids=[])(hn:dD n=true):ib base [n] [(base:Int)]:=by
 have h:=ib.node (base:=base) (ns:=[]) (n:=n) (by rw[hk];exact ib.nil base) hn;exact h
theorem agN {t:ah}{ts:List ah}{ns:List Nd}{a:Nat}{r:List ah}(h:jM base t ts = .ok (ns,a,r))(ht:bX t.dS=true)(hg:Good ts):ib base ns [(a:Int)]:=by
 unfold jM at h;by_cases c:ay ⟨#[58]⟩ ts=true
 · rw [ag c]at h
   cases hq:ts.tail with
   | nil=>rw[hq]at h;cases h
   | cons u us =>
     rw[hq]at h;simp only at h;by_cases d:u.kind=4∧fI t.dS u.dS=true
     · rw[ag d]at h
       injection h with h;injection h with h1 h2;injection h2 with h2 h3;subst h1;subst h2;have hu:=(hg u (List.mem_of_mem_tail (by rw[hq];simp))).ref d.1;exact ib.leaf rfl (MS ht hu d.2)
     · rw[af d]at h;cases h
 · rw[af c]at h
   injection h with h;injection h with h1 h2;injection h2 with h2 h3;subst h1;subst h2;exact ib.leaf rfl (MU ht)
theorem WW : ∀ f : Nat, (∀n deep base ts ns a r,eZ f n deep base ts=some (.ok (ns,a,r))→Good ts→ib base ns [(a:Int)]) ∧
 (∀n deep base ns a ts ns' a' r,iK f n deep base ns a ts=some (.ok (ns',a',r))→Good ts→ib base ns [(a:Int)]→ib base ns' [(a':Int)]) ∧
 (∀deep base ts ns a r,jF f deep base ts=some (.ok (ns,a,r))→Good ts→ib base ns [(a:Int)]) ∧
 (∀deep base ns ks ts ns' ks' r,iq f deep base ns ks ts=some (.ok (ns',ks',r))→Good ts→ib base ns ks→ib base ns' ks')
 | 0=>by
   refine⟨?_, ?_, ?_, ?_⟩
   · intro n deep base ts ns a r h;unfold eZ at h;cases h
   · intro n deep base ns a ts ns' a' r h;unfold iK at h;cases h
   · intro deep base ts ns a r h;unfold jF at h;cases h
   · intro deep base ns ks ts ns' ks' r h;unfold iq at h;cases h
 | f + 1 => by
   obtain⟨i1,i2,i3,i4⟩:=WW f;refine⟨?_, ?_, ?_, ?_⟩
   · intro n deep base ts ns a r h hg
     rw[lW]at h;by_cases c:n≤3
     · rw[ag c]at h
       rcases eO h with ⟨e,_,h2⟩|⟨ms,b,s,h1,h2⟩
       · cases h2
       · exact i2 _ _ _ _ _ _ _ _ _ h2 (hg.NY ((wG f).1 _ _ _ _ _ _ _ h1).1) (i1 _ _ _ _ _ _ _ h1 hg)
     · rw [af c]at h
       by_cases d:ay ⟨#[45]⟩ ts=true
       · rw [ag d]at h
         by_cases d2:12≤deep
         · rw[ag d2]at h;cases h
         · rw [af d2]at h
           rcases eO h with ⟨e,_,h2⟩|⟨ms,b,s,h1,h2⟩
           · cases h2
           · injection h2 with h2;injection h2 with h2;injection h2 with h3 h4;injection h4 with h4 h5
             subst h3;subst h4;exact ib.node (n:={ Nd.zero with kind:=8,kids:=[(b:Int)] }) (i1 _ _ _ _ _ _ _ h1 hg.tail) (Uv _)
       · rw[af d]at h;exact i3 _ _ _ _ _ _ h hg
   · intro n deep base ns a ts ns' a' r h hg hp
     rw[qL]at h;by_cases c:fH n ts=0
     · rw[ag c]at h
       injection h with h;injection h with h;injection h with h1 h2;injection h2 with h2 h3;subst h1;subst h2;exact hp
     · rw [af c]at h
       rcases eO h with ⟨e,_,h2⟩|⟨ms,b,s,h1,h2⟩
       · cases h2
       · have p2:=i1 _ _ _ _ _ _ _ h1 hg.tail
         have p3:=ib.node (n:={ Nd.zero with kind:=fH n ts,kids:=[(a:Int),(b:Int)] }) (ib.app hp p2) (MR (afy c));rw[bQ,ax]at p3;exact i2 _ _ _ _ _ _ _ _ _ h2 (hg.tail.NY ((wG f).1 _ _ _ _ _ _ _ h1).1) p3
   · intro deep base ts ns a r h hg
     cases ts with
     | nil=>rw[zN]at h;cases h
     | cons t ts =>
       have ht:=hg t (by simp);have hgs:Good ts:=fun x hx=>hg x (by simp[hx])
       have leaf:∀(x:Nd),x.kids=[]→dD x=true→(some (.ok ([x],base,ts)):Option eT)=some (.ok (ns,a,r))→ib base ns [(a:Int)]:=by
        intro x hk hn h;injection h with h;injection h with h;injection h with h1 h2;injection h2 with h2 h3;subst h1;subst h2;exact ib.leaf hk hn
       rw[l7]at h;by_cases c1:ay ⟨#[40]⟩ (t :: ts)=true
       · rw [ag c1]at h
         by_cases d:12≤deep
         · rw[ag d]at h;cases h
         · rw [af d]at h
           rcases eO h with ⟨e,_,h2⟩|⟨ms,b,s,h1,h2⟩
           · cases h2
           · by_cases d2:ay ⟨#[41]⟩ s=true
             · rw[ag d2]at h2
               injection h2 with h2;injection h2 with h2;injection h2 with h3 h4;injection h4 with h4 h5;subst h3;subst h4;exact i1 _ _ _ _ _ _ _ h1 hgs
             · rw[af d2]at h2;cases h2
       · rw [af c1] at h
         by_cases c2:t.kind=1
         · rw[ag c2]at h;exact leaf { Nd.zero with kind:=1,num:=t.num } rfl (Uw (ht.num c2)) h
         · rw [af c2] at h
           by_cases c3:t.kind=2
           · rw[ag c3]at h;exact leaf { Nd.zero with kind:=2,text:=t.text } rfl (Ux (ht.text c3)) h
           · rw [af c3] at h
             by_cases c4:t.kind=6
             · rw[ag c4]at h;exact leaf { Nd.zero with kind:=4 } rfl rfl h
             · rw [af c4] at h
               by_cases c5:t.kind=4
               · rw[ag c5]at h
                 injection h with h;exact agN h (ht.ref c5) hgs
               · rw [af c5] at h
                 by_cases c6:t.kind=3
                 · rw [ag c6] at h
                   by_cases c7:t.text=⟨#[84,82,85,69]⟩
                   · rw[ag c7]at h;exact leaf { Nd.zero with kind:=3,num:=1 } rfl rfl h
                   · rw [af c7]at h
                     by_cases c8:t.text=⟨#[70,65,76,83,69]⟩
                     · rw[ag c8]at h;exact leaf { Nd.zero with kind:=3 } rfl rfl h
                     · rw [af c8]at h
                       by_cases c9:ay ⟨#[40]⟩ ts=true
                       · rw [ag c9]at h
                         by_cases d:12≤deep
                         · rw[ag d]at h;cases h
                         · rw [af d]at h
                           rcases eO h with ⟨e,_,h2⟩|⟨ms,ks,s,h1,h2⟩
                           · cases h2
                           · have k1:ib base ms ks:=by
                              by_cases c10:ay ⟨#[41]⟩ ts.tail=true
                              · rw[ag c10]at h1
                                injection h1 with h1;injection h1 with h1;injection h1 with h3 h4;injection h4 with h4 h5;subst h3;subst h4;exact ib.nil _
                              · rw[af c10]at h1;exact i4 _ _ _ _ _ _ _ _ h1 hgs.tail (ib.nil _)
                             by_cases d2:ay ⟨#[41]⟩ s=true
                             · rw [ag d2]at h2
                               injection h2 with h2;injection h2 with h2;injection h2 with h3 h4;injection h4 with h4 h5;subst h3;subst h4
                               have hcb:kv t.text=true:=by
                                unfold kv;rw[(ht.name c6).1,(ht.name c6).2,aR c7,aR c8];rfl
                               exact ib.node (n:={ Nd.zero with kind:=7,text:=t.text,kids:=ks }) k1 (Uu hcb)
                             · rw[af d2]at h2;cases h2
                       · rw[af c9]at h;cases h
                 · rw[af c6]at h;cases h
   · intro deep base ns ks ts ns' ks' r h hg hp
     rw[pO]at h;rcases eO h with ⟨e,_,h2⟩|⟨ms,b,s,h1,h2⟩
     · cases h2
     · have p2:=ib.app hp (i1 _ _ _ _ _ _ _ h1 hg)
       have hgs:=hg.NY ((wG f).1 _ _ _ _ _ _ _ h1).1;by_cases d:ay ⟨#[44]⟩ s=true
       · rw[ag d]at h2
         exact i4 _ _ _ _ _ _ _ _ h2 hgs.tail p2
       · rw[af d]at h2
         injection h2 with h2;injection h2 with h2;injection h2 with h3 h4;injection h4 with h4 h5;subst h3;subst h4;exact p2
theorem UO {ts:List ah}{ns:List Nd}(h:j4 f ts=some (.ok ns))(hg:Good ts):dA ns=true:=by
 unfold j4 at h;rcases eO h with ⟨e,_,h2⟩|⟨ms,b,s,h1,h2⟩
 · cases h2
 · have hp:=(WW f).1 _ _ _ _ _ _ _ h1 hg
   by_cases c:uN s=0
   · rw[ag c]at h2
     injection h2 with h2;injection h2 with h2;subst h2;have:=hp [] [];rw[gL]at this;unfold dA;rw[this];rfl
   · rw[af c]at h2;cases h2
end Go.Proofs.YtbplbjmmfgjdjaaGreatDoor
namespace Go.Proofs.YtbplbjmmfgjdjaaGreatDoor
def Di:Int→Int→List Int→Bool
 | _,_,[]=>true
 | last,nw,x :: l=>if x = -1 then Di last nw l else decide (last<x)&&(decide (x<nw)&&Di x nw l)
def lI(xs:List Int)(nw i:Int):Int:=if i<0 then -1 else if i<(xs.length:Int)then xs.getD i.toNat 0 else i - xs.length+nw
def kL(n:Nat):List Int:=(List.range n).map fun (i:Nat)=>(i:Int)
def CL(n:Nat)(at_:Int):List Int:=(List.range n).map fun (i:Nat)=>if (i:Int)<at_ then (i:Int)else (i:Int)+1
def jh(xs:List Int)(i:Nat):Bool:=decide (xs[i]? = some (-1))
def iD (xs:List Int):Nat→Nat→Nat
 | 0,lo=>lo
 | n+1,lo=>if jh xs lo=true then iD xs n (lo+1)else lo
def mq (xs:List Int):Nat→Nat→Nat
 | 0,hi=>hi
 | n+1,hi=>if jh xs hi=true then mq xs n (hi - 1)else hi
def jO (xs:List Int)(nw lo hi:Int):Int × Int × Bool :=
 if lo<0∨hi<lo then (0,0,false)
 else if hi<(iD xs (hi+1 - lo).toNat lo.toNat:Int)then (0,0,false)
 else (lI xs nw (iD xs (hi+1 - lo).toNat lo.toNat),lI xs nw (mq xs (hi.toNat - iD xs (hi+1 - lo).toNat lo.toNat) hi.toNat),true)
theorem SK(xs:List Int)(nw i:Int)(h:i<0):lI xs nw i = -1:=by unfold lI;rw[ag h]
theorem CJ (xs:List Int)(nw:Int)(i:Nat)(h:i<xs.length):lI xs nw (i:Int)=xs.getD i 0:=by
 unfold lI;rw[af (by omega),ag (by omega)];rfl
theorem EL (xs:List Int)(nw i:Int)(h0:0≤i)(h:(xs.length:Int)≤i):lI xs nw i=i - xs.length+nw:=by
 unfold lI;rw[af (by omega),af (by omega)]
def zg (last nw:Int)(xs:List Int):Prop :=
 (∀(i:Nat)(x:Int),xs[i]? = some x→x ≠ -1→last<x∧x<nw)∧(∀(i j:Nat)(x y:Int),i<j→xs[i]? = some x→xs[j]? = some y→x ≠ -1→y ≠ -1→x<y)
theorem Fh:∀(xs:List Int)(last nw:Int),Di last nw xs=true→zg last nw xs
 | [],_,_,_=>⟨fun i x h=>by simp at h,fun i j x y _ h=>by simp at h⟩
 | a :: l,last,nw,h=>by
   unfold Di at h;split at h
   · rename_i ha
     obtain⟨h1,h2⟩:=Fh l last nw h;refine⟨fun i x hx hn => ?_,fun i j x y hij hx hy hnx hny => ?_⟩
     · cases i with
       | zero=>simp at hx;exact absurd (hx.symm.trans ha) hn
       | succ i=>exact h1 i x (by simpa using hx) hn
     · cases i with
       | zero=>simp at hx;exact absurd (hx.symm.trans ha) hnx
       | succ i =>
         cases j with
         | zero=>omega
         | succ j=>exact h2 i j x y (by omega) (by simpa using hx) (by simpa using hy) hnx hny
   · rename_i ha
     simp only[dJ,decide_eq_true_eq]at h;obtain⟨h0,h0',h⟩:=h;obtain⟨h1,h2⟩:=Fh l a nw h;refine⟨fun i x hx hn => ?_,fun i j x y hij hx hy hnx hny => ?_⟩
     · cases i with
       | zero=>simp at hx;subst hx;exact⟨h0,h0'⟩
       | succ i=>have:=h1 i x (by simpa using hx) hn;omega
     · cases j with
       | zero=>omega
       | succ j =>
         cases i with
         | zero=>simp at hx;subst hx;exact(h1 j y (by simpa using hy) hny).1
         | succ i=>exact h2 i j x y (by omega) (by simpa using hx) (by simpa using hy) hnx hny
theorem VD (xs:List Int)(last nw MW x:Int)(h:zg last nw xs)(h1:x = -1∨(nw≤x∧last<x∧x<MW))(h2:nw≤MW):zg last MW (xs++[x]):=by
 obtain⟨h3,h4⟩:=h
 have key:∀(i:Nat)(y:Int),(xs++[x])[i]? = some y→xs[i]? = some y∨(i=xs.length∧y=x):=by
  intro i y hy;rcases Nat.lt_trichotomy i xs.length with hi|hi|hi
  · rw[List.getElem?_append_left hi]at hy;exact .inl hy
  · subst hi;rw[List.getElem?_append_right (aj _),Nat.sub_self]at hy;simp at hy;exact .inr ⟨rfl,hy.symm⟩
  · rw[List.getElem?_append_right (by omega)]at hy
    rw[List.getElem?_eq_none (by simp;omega)]at hy;cases hy
 refine⟨fun i y hy hn => ?_,fun i j y z hij hy hz hny hnz => ?_⟩
 · rcases key i y hy with h|⟨_,rfl⟩
   · have:=h3 i y h hn;omega
   · omega
 · rcases key i y hy with h|⟨hi,rfl⟩
   · rcases key j z hz with h'|⟨_,rfl⟩
     · exact h4 i j y z hij h h' hny hnz
     · have:=(h3 i y h hny).2;omega
   · rcases key j z hz with h'|⟨hj,_⟩
     · have:=(eQ.1 h').1;omega
     · omega
theorem getD_some (xs:List Int)(i:Nat)(h:i<xs.length):xs[i]? = some (xs.getD i 0):=by
 rw[kg,cZ h];rfl
theorem NA {last nw:Int}{xs:List Int}(h:zg last nw xs)(i:Nat)(hi:i<xs.length):xs.getD i 0 = -1∨(last<xs.getD i 0∧xs.getD i 0<nw):=by
 by_cases hx:xs.getD i 0 = -1
 · exact .inl hx
 · exact .inr (h.1 i _ (getD_some xs i hi) hx)
def Bt (p:List Int × Int)(n:Int):List Int × Int :=
 if n % 4=0 then (p.1++[-1],p.2)else if n % 4=1 then (p.1,p.2+1+n / 4 % 3)else (p.1++[p.2],p.2+1)
def ng(ns:List Int):List Int × Int:=ns.foldl Bt ([],0)
theorem TP (ns:List Int)(i:Nat)(x:Int)(h:ns[i]? = some x):ng (ns.take (i+1))=Bt (ng (ns.take i)) x:=by
 unfold ng;rw[List.take_add_one,h,Option.toList_some,List.foldl_append];rfl
structure Ec (p:List Int × Int)(n:Nat):Prop where
 low:0≤p.2
 high:p.2≤3*n
 len:p.1.length≤n
 Dh:zg (-1) p.2 p.1
theorem aej {p:List Int × Int}{n:Nat}(h:Ec p n)(x:Int):Ec (Bt p x) (n+1):=by
 obtain⟨h1,h2,h3,h4⟩:=h;unfold Bt;split
 · exact⟨h1,by show p.2≤_;omega,by rw[ax,fo];omega,VD _ _ _ _ _ h4 (.inl rfl) (Int.le_refl _)⟩
 · split
   · refine⟨by show 0≤p.2+1+x / 4 % 3;omega,by show p.2+1+x / 4 % 3≤_;omega,by show p.1.length≤_;omega, ?_⟩
     exact⟨fun i y hy hn=>by have:=h4.1 i y hy hn;show -1<y∧y<p.2+1+x / 4 % 3;omega,h4.2⟩
   · exact⟨by show 0≤p.2+1;omega,by show p.2+1≤_;omega,by rw[ax,fo];omega,VD _ _ _ _ _ h4 (.inr ⟨Int.le_refl _,by omega,by omega⟩) (by omega)⟩
theorem TN (ns:List Int):Ec (ng ns) ns.length:=by
 have key:∀i,i≤ns.length→Ec (ng (ns.take i)) i:=by
  intro i
  induction i with
  | zero=>intro _;exact⟨Int.le_refl _,by show(0:Int)≤_;omega,ek _,fun i x h=>by simp[ng]at h,fun i j x y _ h=>by simp[ng]at h⟩
  | succ i ih =>
    intro hi;rw[TP ns i _ (cZ (by omega))];exact aej (ih (by omega)) _
 have:=key ns.length (aj _);rwa[List.take_length]at this
end Go.Proofs.YtbplbjmmfgjdjaaGreatDoor
namespace Go.Proofs.YtbplbjmmfgjdjaaGreatDoor
theorem CR(n:Nat):(kL n).length=n:=by simp[kL]
theorem adL(n:Nat)(a:Int):(CL n a).length=n:=by simp[CL]
theorem GG (xs:List Int):∀(n lo:Nat),lo≤iD xs n lo∧iD xs n lo≤lo+n
 | 0,lo=>⟨aj _,aj _⟩
 | n+1,lo=>by
   unfold iD;split
   · have:=GG xs n (lo+1);omega
   · omega
theorem Mm (xs:List Int):∀(n hi:Nat),mq xs n hi≤hi
 | 0,_=>aj _
 | n+1,hi=>by
   unfold mq;split
   · have:=Mm xs n (hi - 1);omega
   · exact aj _
theorem acK {xs:List Int}{nw:Int}(h:zg (-1) nw xs)(h0:0≤nw)(i:Nat):(lI xs nw (i:Int)<0)↔jh xs i=true:=by
 unfold jh;rw[decide_eq_true_eq];by_cases hi:i<xs.length
 · rw [CJ _ _ _ hi,getD_some xs i hi]
   constructor
   · intro hn
     rcases NA h i hi with h1|h1
     · rw[h1]
     · omega
   · intro e;have:=dM e;omega
 · rw[EL _ _ _ (by omega) (by omega),List.getElem?_eq_none (by omega)]
   constructor
   · intro hn;omega
   · intro e;cases e
end Go.Proofs.YtbplbjmmfgjdjaaGreatDoor
namespace Go.Proofs.YtbplbjmmfgjdjaaGreatDoor
open Go.RowKit
variable {a a':Act}{kK listed:Array Bool}{ops:Array Oper}{Q:Exit→Act→World→Prop}{l xs:List Int}{B C base bytes cap fuel g i k n size t:Nat}{oi:Oper}{A:Option Addr}{d:Option Tmp}{P:Program}{md:Region.Mode}{α:Type}{e:TypeId}{v:Value}{w w':World}{S:World→Prop}
structure Sf where
 sh:ByteArray
 gone:Bool
 rx:List Int
 rn:Int
 cx:List Int
 cn:Int
def oo:Nd:={ Nd.zero with kind:=4 }
def bL.goto(f:bL)(r c:Int):bL:={ f with r:=r,c:=c }
def o7(n:Nd)(s:Sf):Nd:={ n with ref:=n.ref.goto (lI s.rx s.rn n.ref.r) (lI s.cx s.cn n.ref.c) }
def Nd.kU(n:Nd)(r c r2 c2:Int):Nd:={ n with ref:=n.ref.goto r c,ai:=n.ai.goto r2 c2 }
def j5 (n:Nd)(s:Sf):Nd :=
 let a:=jO s.rx s.rn n.ref.r n.ai.r
 let b:=jO s.cx s.cn n.ref.c n.ai.c
 n.kU a.1 b.1 a.2.1 b.2.1
def tK(n:Nd)(s:Sf):Bool:=(jO s.rx s.rn n.ref.r n.ai.r).2.2&&(jO s.cx s.cn n.ref.c n.ai.c).2.2
def iW (n:Nd)(s:Sf):Nd × Bool :=
 if s.gone=true then (Nd.zero,false)
 else if n.kind=6 then (j5 n s,tK n s&&bX (j5 n s).ai)
 else (o7 n s,bX (o7 n s).ref)
def oH(own:ByteArray)(n:Nd):ByteArray:=if n.ref.sh=⟨#[]⟩then own else n.ref.sh
def yl(ss:List Sf)(k:ByteArray):Option Sf:=ss.find? fun s=>decide (s.sh=k)
def jD (own:ByteArray)(ss:List Sf)(n:Nd):Nd :=
 if ¬ n.kind=5∧¬ n.kind=6 then n
 else match yl ss (oH own n)with
  | none=>n
  | some s=>if (iW n s).2=true then (iW n s).1 else oo
def jo(own:ByteArray)(ss:List Sf)(l:List Nd):List Nd:=l.map (jD own ss)
structure xZ (xs:List Int)(nw:Int):Prop where
 len:xs.length≤1048577
 low:0≤nw
 top:nw≤1048577
 Dh:zg (-1) nw xs
structure mV (s:Sf):Prop where
 rows:xZ s.rx s.rn
 mH:xZ s.cx s.cn
def Gj(ss:List Sf):Prop:=∀s∈ss,mV s
theorem Lb {ss:List Sf}{k:ByteArray}{s:Sf}(h:yl ss k=some s):s∈ss∧s.sh=k :=
 ⟨List.mem_of_find?_eq_some h,by have:=List.find?_some h;exact of_decide_eq_true this⟩
theorem H7(own:ByteArray)(ss:List Sf)(l:List Nd):(jo own ss l).length=l.length:=eF ..
theorem acL {nw:Int}(h:xZ xs nw){j:Nat}(hij:i≤j)(hi:¬ jh xs i=true)(hj:¬ jh xs j=true):0≤lI xs nw i∧lI xs nw i≤lI xs nw j:=by
 have h1:¬ lI xs nw (i:Int)<0:=fun e=>hi ((acK h.Dh h.low i).1 e)
 refine⟨by omega, ?_⟩;have yw:=h.low;by_cases e:i=j
 · subst e;exact Int.le_refl _
 by_cases cj:j<xs.length
 · have ci:i<xs.length:=by omega
   have gi:=getD_some xs i ci;have gj:=getD_some xs j cj;rw[CJ _ _ _ ci,CJ _ _ _ cj];have MN:xs.getD i 0 ≠ -1:=fun e=>hi (aR (by rw[gi,e]))
   have nj:xs.getD j 0 ≠ -1:=fun e=>hj (aR (by rw[gj,e]))
   have:=h.Dh.2 i j _ _ (by omega) gi gj MN nj;omega
 · rw [EL xs nw j (by omega) (by omega)]
   by_cases ci:i<xs.length
   · have gi:=getD_some xs i ci
     rw[CJ _ _ _ ci];have MN:xs.getD i 0 ≠ -1:=fun e=>hi (aR (by rw[gi,e]))
     have:=(h.Dh.1 i _ gi MN).2;omega
   · rw[EL xs nw i (by omega) (by omega)];omega
theorem QU (xs:List Int):∀n lo,iD xs n lo<lo+n→¬ jh xs (iD xs n lo)=true
 | 0,lo,h=>by simp[iD]at h
 | n+1,lo,h=>by
   unfold iD at h ⊢;split
   · rename_i c;rw[ag c]at h;exact QU xs n (lo+1) (by omega)
   · assumption
theorem Ti (xs:List Int)(f:Nat)(hf:¬ jh xs f=true):∀n,f≤mq xs n (f+n)∧¬ jh xs (mq xs n (f+n))=true
 | 0=>⟨aj _,hf⟩
 | n+1=>by
   show f≤(if jh xs (f+(n+1))=true then mq xs n (f+(n+1) - 1)else f+(n+1))∧¬ jh xs (if jh xs (f+(n+1))=true then mq xs n (f+(n+1) - 1)else f+(n+1))=true;by_cases c:jh xs (f+(n+1))=true
   · rw[ag c];exact Ti xs f hf n
   · rw[af c];exact⟨by omega,c⟩
theorem WA {nw lo hi:Int}(h:xZ xs nw)(ho:(jO xs nw lo hi).2.2=true):0≤(jO xs nw lo hi).1∧(jO xs nw lo hi).1≤(jO xs nw lo hi).2.1:=by
 unfold jO at ho ⊢;by_cases c:lo<0∨hi<lo
 · rw[ag c]at ho;cases ho
 rw[af c]at ho ⊢;by_cases d:hi<(iD xs (hi+1 - lo).toNat lo.toNat:Int)
 · rw[ag d]at ho;cases ho
 rw[af d];have hb:=GG xs (hi+1 - lo).toNat lo.toNat;have hk:=QU xs (hi+1 - lo).toNat lo.toNat (by omega);obtain⟨f,hf⟩:∃f,iD xs (hi+1 - lo).toNat lo.toNat=f:=⟨_,rfl⟩;rw[hf]at hb hk d ⊢;have hl:=Ti xs f hk (hi.toNat - f);rw[show f+(hi.toNat - f)=hi.toNat by omega]at hl;exact acL h hl.1 hk hl.2
theorem MQ{n:Nd}(h:dD n=true):aO n=true:=(j6.1 h).1
theorem Ig {n:Nd}(h:dD n=true)(h1:1≤n.kind)(h6:n.kind≤6):n.kids=[]:=by
 have h2:=(j6.1 h).2;have ha:jT n.kind=0:=by unfold jT;rw[ag ⟨h1,h6⟩]
 rw[ha]at h2;rcases Bool.or_eq_true_iff.1 h2 with h3|h3
 · exact absurd (of_decide_eq_true h3) (by decide)
 · exact List.length_eq_zero_iff.1 (by have:=of_decide_eq_true h3;omega)
structure Gh (n:Nd):Prop where
 num:n.num=0
 text:n.text=⟨#[]⟩
 ai:fQ n.ai=true
 may:bX n.ref=true
 kids:n.kids=[]
structure Aw (n:Nd):Prop where
 num:n.num=0
 text:n.text=⟨#[]⟩
 may:bX n.ref=true
 TV:bX n.ai=true
 span:fI n.ref n.ai=true
 kids:n.kids=[]
theorem Vq {n:Nd}(h:dD n=true)(hk:n.kind=5):Gh n:=by
 have hl:=MQ h;unfold aO at hl;split at hl
 · cases hl
 rename_i c
 rw[af (by omega),af (by omega),af (by omega),af (by omega)]at hl;try rw[ag hk]at hl
 exact ⟨Decidable.byContradiction fun e=>c (.inl ⟨by omega,by omega,e⟩),Decidable.byContradiction fun e=>c (.inr (.inl ⟨by omega,by omega,e⟩)),
  by cases e:fQ n.ai with|true=>rfl|false=>exact absurd (.inr (.inr (.inr ⟨by omega,e⟩))) c,hl,Ig h (by omega) (by omega)⟩
theorem Nf {n:Nd}(h:dD n=true)(hk:n.kind=6):Aw n:=by
 have hl:=MQ h;unfold aO at hl;split at hl
 · cases hl
 rename_i c
 rw[af (by omega),af (by omega),af (by omega),af (by omega),af (by omega)]at hl;try rw[ag hk]at hl
 obtain⟨h1,h2⟩:=j6.1 hl;obtain⟨h2,h3⟩:=j6.1 h2;exact⟨Decidable.byContradiction fun e=>c (.inl ⟨by omega,by omega,e⟩),Decidable.byContradiction fun e=>c (.inr (.inl ⟨by omega,by omega,e⟩)),h1,h2,h3,Ig h (by omega) (by omega)⟩
theorem Ur {f:bL}(h:fQ f=true):f=bL.zero:=by
 unfold fQ at h;obtain⟨h1,h2⟩:=j6.1 h;obtain⟨h2,h3⟩:=j6.1 h2;obtain⟨e1,e2,e3⟩:=of_decide_eq_true h1;obtain⟨s,c,r,ac,ar⟩:=f;simp only at e1 e2 e3 h2 h3;subst e1;subst e2;subst e3;cases ac <;> cases ar <;> first|rfl|(exfalso;revert h2 h3;decide)
theorem Gh.is {n:Nd}(h:Gh n)(hk:n.kind=5):n={ Nd.zero with kind:=5,ref:=n.ref }:=by
 obtain⟨k,m,t,r,o,ks⟩:=n;have e:=Ur h.ai;obtain⟨h1,h2,_,_,h5⟩:=h;simp only at h1 h2 h5 hk e;subst h1;subst h2;subst h5;subst hk;subst e;rfl
theorem Aw.is {n:Nd}(h:Aw n)(hk:n.kind=6):n={ Nd.zero with kind:=6,ref:=n.ref,ai:=n.ai }:=by
 obtain⟨k,m,t,r,o,ks⟩:=n;obtain⟨h1,h2,_,_,_,h5⟩:=h;simp only at h1 h2 h5 hk;subst h1;subst h2;subst h5;subst hk;rfl
theorem afl:dD oo=true:=by decide
theorem aes {f:bL}{r c:Int}(h:bX f=true)(hr:0≤r)(hr2:r≤998)(hc:0≤c)(hc2:c≤701):bX (f.goto r c)=true:=by
 unfold bX dO at h ⊢;rw[j6]at h ⊢;exact⟨h.1,aR ⟨hc,hc2,hr,hr2⟩⟩
theorem TW{f:bL}(h:bX f=true):0≤f.c∧f.c≤701∧0≤f.r∧f.r≤998:=MF h
theorem aiK {a b:bL}(h:fI a b=true){r c r' c':Int}(hr:r≤r')(hc:c≤c'):fI (a.goto r c) (b.goto r' c')=true:=by
 unfold fI at h ⊢;rw[j6]at h ⊢;exact⟨h.1,by rw[j6];exact⟨aR hc,aR hr⟩⟩
theorem Wz {n:Nd}{s:Sf}(h:Aw n)(hs:mV s)(ho:tK n s=true)(hm:bX (j5 n s).ai=true):bX (j5 n s).ref=true∧fI (j5 n s).ref (j5 n s).ai=true:=by
 obtain⟨h1,h2⟩:=j6.1 ho;obtain⟨a1,a2⟩:=WA hs.rows h1;obtain⟨b1,b2⟩:=WA hs.mH h2;have hn:=TW hm;have hn:0≤(jO s.cx s.cn n.ref.c n.ai.c).2.1∧(jO s.cx s.cn n.ref.c n.ai.c).2.1≤701∧0≤(jO s.rx s.rn n.ref.r n.ai.r).2.1∧(jO s.rx s.rn n.ref.r n.ai.r).2.1≤998:=hn;exact⟨aes h.may a1 (by omega) b1 (by omega),aiK h.span a2 b2⟩
theorem Ze {n:Nd}{s:Sf}(h:dD n=true)(hk:n.kind=5∨n.kind=6)(hs:mV s)(ha:(iW n s).2=true):dD (iW n s).1=true∧(iW n s).1.kids=n.kids:=by
 unfold iW at ha ⊢;by_cases g:s.gone=true
 · rw[ag g]at ha;cases ha
 rw[af g]at ha ⊢;by_cases k6:n.kind=6
 · rw[ag k6]at ha ⊢
   obtain⟨h1,h2⟩:=j6.1 ha;have hf:=Nf h k6;obtain⟨h3,h4⟩:=Wz hf hs h1 h2;refine⟨?_,rfl⟩;have e:(j5 n s)={ Nd.zero with kind:=6,ref:=(j5 n s).ref,ai:=(j5 n s).ai }:=Aw.is ⟨hf.num,hf.text,h3,h2,h4,hf.kids⟩ k6;show dD (j5 n s)=true;rw[e];exact MS h3 h2 h4
 · rw[af k6]at ha ⊢
   have hf:=Vq h (by omega);refine⟨?_,rfl⟩;have e:o7 n s={ Nd.zero with kind:=5,ref:=(o7 n s).ref }:=Gh.is ⟨hf.num,hf.text,hf.ai,ha,hf.kids⟩ (by show n.kind=5;omega);show dD (o7 n s)=true;rw[e];exact MU ha
theorem aeE {own:ByteArray}{ss:List Sf}{n:Nd}(h:dD n=true)(hs:Gj ss):dD (jD own ss n)=true∧(jD own ss n).kids=n.kids:=by
 unfold jD;split
 · exact⟨h,rfl⟩
 rename_i c
 have hk:n.kind=5∨n.kind=6:=by omega
 split
 · exact⟨h,rfl⟩
 · rename_i s e
   split
   · rename_i ha;exact Ze h hk (hs s (Lb e).1) ha
   · exact⟨afl,(Ig h (by omega) (by omega)).symm⟩
theorem Oi:∀(l:List Nd)(st:List Int)(i:Nat),nQ st i l=true→∀n∈l,dD n=true
 | [],_,_,_,n,hn=>by cases hn
 | m :: l,st,i,h,n,hn=>by
   rw[nR,j6,j6,j6]at h;rcases ik.1 hn with rfl|hn
   · exact h.1
   · exact Oi l _ _ h.2.2.2 n hn
theorem W9 (f:Nd→Nd):∀(l:List Nd)(st:List Int)(i:Nat),(∀n∈l,dD n=true→dD (f n)=true∧(f n).kids=n.kids)→nQ st i l=true→nQ st i (l.map f)=true
 | [],_,_,_,h=>h
 | m :: l,st,i,hf,h=>by
   rw[jr,nR];rw[nR,j6,j6,j6]at h;obtain⟨h1,h2,h3,h4⟩:=h;obtain⟨e1,e2⟩:=hf m (by simp) h1;rw[e1,e2,h2,h3,W9 f l _ _ (fun n hn=>hf n (by simp[hn])) h4];rfl
theorem aeL {own:ByteArray}{ss:List Sf}{l:List Nd}(h:dA l=true)(hs:Gj ss):dA (jo own ss l)=true :=
 W9 _ l [] 0 (fun _ _ hn=>aeE hn hs) h
structure KE (m n:Nd):Prop where
 num:m.num≤max n.num 0
 text:m.text.size≤n.text.size
 ref:m.ref.sh.size≤n.ref.sh.size
 ai:m.ai.sh.size≤n.ai.sh.size
theorem Uj (own:ByteArray)(ss:List Sf)(n:Nd):KE (jD own ss n) n:=by
 have hz:KE oo n:=⟨by show(0:Int)≤_;omega,ek _,ek _,ek _⟩;have hr:KE n n:=⟨by omega,aj _,aj _,aj _⟩;unfold jD;split
 · exact hr
 split
 · exact hr
 split
 · rename_i s _ ha
   unfold iW;split
   · rename_i g;unfold iW at ha;rw[ag g]at ha;cases ha
   split
   · exact⟨by show n.num≤_;omega,aj _,aj _,aj _⟩
   · exact⟨by show n.num≤_;omega,aj _,aj _,aj _⟩
 · exact hz
theorem Own.keep {E:Enc α size}{xs:List α}(h:Own E e w base v xs)
 (hk:∀g,base≤g→g<w.heap.size→v.ownBlock=Option.some g→w'.heap[g]? = w.heap[g]?):Own E e w' base v xs:=by
 refine⟨h.1, ?_⟩;rcases h.2 with h|⟨g,cap,cur,h1,h2,h3,h4⟩
 · exact .inl h
 · refine .inr ⟨g,cap,cur,h1,h2, ?_,h4⟩
   rw[hk g h2 (dB.1 h3).1 (by rw[h1];rfl)];exact h3
theorem Own.lies {E:Enc α size}{xs:List α}(h:Own E e w base v xs)(hg:v.ownBlock=Option.some g):base≤g∧∃cur,w.heap[g]? = Option.some (.cells cur e (0,0)):=by
 rcases h.2 with ⟨h1,_⟩|⟨b,cap,cur,h1,h2,h3,_⟩
 · rw[h1]at hg;cases hg
 · rw[h1]at hg;injection hg with hg
   have hg:b=g:=hg;subst hg;exact⟨h2,cur,h3⟩
theorem Own.less {E:Enc α size}{xs:List α}(h:Own E e w base v xs)(hg:v.ownBlock=Option.some g):g<w.heap.size:=by
 obtain⟨_,cur,h3⟩:=h.lies hg;exact(dB.1 h3).1
theorem Own.Cr {β: Type}{s1 s2:Nat}{E:Enc α s1}{F:Enc β s2}{f:TypeId}{b1 b2:Nat}{u:Value}{xs:List α}{ys:List β}(h:Own E e w b1 u xs)(k:Own F f w b2 v ys)(hne:e≠f)(hg:u.ownBlock=Option.some g):Option.some g≠v.ownBlock:=by
 intro hv;obtain⟨_,c1,h1⟩:=h.lies hg;obtain⟨_,c2,h2⟩:=k.lies hv.symm;rw[h1]at h2;injection h2 with h2;injection h2 with h2 h3;exact hne h3
def ku {α : Type}{k:Nat}(E:Enc α k)(w:World)(B:Nat)(v:Value)(xs:List α):Prop :=
 ∃A cap,v = .slice A xs.length cap∧xs.length≤cap∧cap≤maxLen∧(xs=[]∨∃pb po,A=some ⟨pb,po,none⟩∧pb<B∧∀(j:Nat)(u:Value),(E.all xs)[j]? = some u→w.cell? ⟨pb,po+j,none⟩=some u)
theorem ku.below {E:Enc α k}{xs:List α}(h:ku E w B v xs)(hb:Below C w w')(hC:B≤C):ku E w' B v xs:=by
 obtain⟨A,cap,h1,h2,h3,h4⟩:=h;refine⟨A,cap,h1,h2,h3,h4.imp id ?_⟩;rintro⟨pb,po,e1,e2,e3⟩;exact⟨pb,po,e1,e2,fun j x hj=>(hb.cell (p:=⟨pb,po+j,none⟩) (by show pb<C;omega)).trans (e3 j x hj)⟩
theorem ku.mono {E:Enc α k}{xs:List α}(h:ku E w B v xs)(hC:B≤C):ku E w C v xs:=by
 obtain⟨A,cap,h1,h2,h3,h4⟩:=h;refine⟨A,cap,h1,h2,h3,h4.imp id ?_⟩;rintro⟨pb,po,e1,e2,e3⟩;exact⟨pb,po,e1,by omega,e3⟩
theorem ku.lift{E:Enc α k}{xs:List α}(h:ku E w w.heap.size v xs)(hb:Below w.heap.size w w'):ku E w' w'.heap.size v xs:=(h.below hb (aj _)).mono hb.size
theorem Own.se {E:Enc α k}{xs:List α}(h:Own E e w base v xs):ku E w w.heap.size v xs:=by
 rcases h.shape with ⟨rfl,rfl⟩|⟨g,cap,rfl,hg,hl,hc,hm⟩
 · exact⟨none,0,rfl,aj _,by unfold maxLen;omega,.inl rfl⟩
 · exact⟨_,_,rfl,hc,hm,.inr ⟨g,0,rfl,hl,fun j u hj=>by rw[Nat.zero_add];exact h.cells j u hj⟩⟩
theorem ku.at {E:Enc α k}{xs:List α}(h:ku E w B (.slice A n cap) xs){x : α}(hi:xs[i]? = some x) :
 ∃pb po,A=some ⟨pb,po,none⟩∧pb<B∧∀(j:Nat)(u:Value),(E.f x)[j]? = some u→w.cell? ⟨pb,po+(i*k+j),none⟩=some u:=by
 obtain⟨A',qA,h1, -, -,h2⟩:=h;injection h1 with e1 e2 e3;subst e1;rcases h2 with rfl|⟨pb,po,h1,h2,h3⟩
 · simp at hi
 · refine⟨pb,po,h1,h2,fun j u hj=>h3 _ u ?_⟩
   have hjk:j<k:=by rw[← E.len x];exact(eQ.1 hj).1
   rw[E.at xs i j x hi hjk];exact hj
theorem ku.len {E:Enc α k}{xs:List α}(h:ku E w B (.slice A n cap) xs):xs.length=n∧n≤cap∧cap≤maxLen:=by
 obtain⟨A',qA,h1,h2,h3, -⟩:=h;injection h1 with e1 e2 e3;subst e3;exact⟨e2.symm,by omega,h3⟩
def KI{α : Type}{k:Nat}(E:Enc α k)(e:TypeId)(w:World)(g:Nat)(xs:List α):Prop:=∃cur:Array Value,w.heap[g]? = some (.cells cur e)∧∀(j:Nat)(u:Value),(E.all xs)[j]? = some u→cur[j]? = some u
theorem KI.p8 {E:Enc α k}{xs:List α}(h:KI E e w g xs)(j:Nat):w.frozen? ⟨g,j,none⟩=false:=by
 obtain⟨cur,h1,h2⟩:=h;exact frozen_of_row w g j cur e h1
theorem Own.rwA {E:Enc α k}{xs:List α}(h:Own E e w base (.slice (Option.some ⟨g,0,none⟩) n cap) xs):KI E e w g xs:=by
 obtain⟨_,cur,h1⟩:=h.lies (g:=g) rfl;refine⟨cur,h1,fun j u hj => ?_⟩;have:=h.cells j u hj;rwa[cell_of_row w g j cur e _ h1]at this
theorem Zc (E:Enc α 1)(xs:List α)(i:Nat)(x : α)(u:Value)(hu:E.f x=[u]):E.all (xs.set i x)=(E.all xs).set i u:=by
 unfold Enc.all
 induction xs generalizing i with
 | nil=>rfl
 | cons a t ih =>
   obtain⟨v,hv⟩:=List.length_eq_one_iff.1 (E.len a);cases i with
   | zero=>rw[List.set_cons_zero,qm,qm,hu,hv];rfl
   | succ i=>rw[List.set_cons_succ,qm,qm,ih,hv];rfl
theorem xG {e:Nat}{rest:List Oper}{o:Oper}(df:Elem P t e size bytes)(E:Enc α size)
 (hgd:o.guard=none) (s x:Operand) (ho:o.op = .call { callee := .builtin .append,args:=#[s,x],argTypes:=#[t,t] }) (base:Nat) (v:Value) (xs:List α)
 (hs:a.eval s=v) (gQ:Own E e w base v xs) (ad:Addr) (m c:Nat) (ys:List α) (hx:a.eval x = .slice (some ad) m c) (hl:ys.length=m)
 (hc:∀(j:Nat)(u:Value),(E.all ys)[j]? = some u→w.cell? (ad.add j)=some u) (hb:(xs.length+m)*bytes≤140737488355328) (hb2:xs.length+m≤maxLen) (jX:base≤w.heap.size)
 (h:∀(v':Value)(w':World),Own E e w' base v' (xs++ys)→w.grownBy w' v.ownBlock→(v'.ownBlock=v.ownBlock∨v'.ownBlock=some w.heap.size)→wpList P ops Q rest (a.put o.dst v') w'):wpList P ops Q (o :: rest) a w:=by
 obtain⟨z,hi,hz⟩:=df.inf;obtain⟨i,hi1,hi2,hi3,hi4⟩:=info_parts hi;refine wpList_append_own_at w hgd s x t ho base e i z size bytes df.und hi1 hi2 hi3 hi4 hz df.pos v xs.length (E.all xs) hs gQ ad m c (E.all ys) hx (by rw[E.mK,hl]) hc (E.xm ys) hb2 hb jX ?_;intro v' w' h1 h2 _ h4;refine h v' w' ?_ h2 h4;unfold Own;rw[E.all_append,ax,hl];exact h1
theorem NU {e:Nat}{o:Oper}{K:Act→World→Prop}{F:Prop}(df:Elem P t e size bytes)(E:Enc α size)
 (hgd:o.guard=none) (s x:Operand) (ho:o.op = .call { callee := .builtin .append,args:=#[s,x],argTypes:=#[t,t] }) (base:Nat) (v:Value) (xs:List α)
 (hs:a.eval s=v) (gQ:Own E e w base v xs) (ad:Addr) (m c:Nat) (ys:List α) (hx:a.eval x = .slice (some ad) m c) (hl:ys.length=m)
 (hc:∀(j:Nat)(u:Value),(E.all ys)[j]? = some u→w.cell? (ad.add j)=some u) (hb:(xs.length+m)*bytes≤140737488355328) (hb2:xs.length+m≤maxLen) (jX:base≤w.heap.size)
 (h:∀(v':Value)(w':World),Own E e w' base v' (xs++ys)→w.grownBy w' v.ownBlock→(v'.ownBlock=v.ownBlock∨v'.ownBlock=some w.heap.size)→K (a.put o.dst v') w') :
 if Region.wanted o (yielded ops a.tmps)=true then Oper.wp P o a w K Q else F:=by
 have hw:Region.wanted o (yielded ops a.tmps)=true:=by simp[Region.wanted,hgd]
 rw[ag hw];obtain⟨z,hi,hz⟩:=df.inf;obtain⟨i,hi1,hi2,hi3,hi4⟩:=info_parts hi;obtain⟨v',w',rE,r1,r2,_,r4⟩:=run_append_own_at (P:=P) w base t o.type e i z size bytes df.und hi1 hi2 hi3 hi4 hz df.pos v xs.length (E.all xs) gQ ad m c (E.all ys) (by rw[E.mK,hl]) hc (E.xm ys) hb2 hb jX;unfold Oper.wp;simp[execOp,ho,resolve,invoke,builtin,hs,hx,rE,Result.andThen];refine h v' w' ?_ r2 r4;unfold Own;rw[E.all_append,ax,hl];exact r1
theorem Elem.u8:Elem Tryz.prog 22 5 1 1:=⟨Tryz.underlying22,⟨.int .u8 0,by kernel_rfl,rfl⟩,by decide⟩
abbrev qz(w:World)(base:Nat)(v:Value)(xs:List Int):Prop:=Own (aJ .u8) 5 w base v xs
theorem Dj (h:qz w base v xs):(convert 22 9 v).run Tryz.prog w = .ok (.string (strOfNums xs)) w:=by
 rcases h.shape with ⟨rfl,rfl⟩|⟨g,cap,rfl,h1,h2,h3,h4⟩
 · rw[run_convert_bytes_nil w _ 5 Tryz.underlying22 Tryz.underlying5 _ _ _ Tryz.underlying9];rfl
 · refine run_convert_bytes_arg w _ 5 Tryz.underlying22 Tryz.underlying5 g 0 _ cap xs rfl (fun i hi => ?_) _ Tryz.underlying9
   rw[Nat.zero_add];exact h.zC i hi
theorem ahy {tx ty e:Nat}(df:Elem P t e size bytes)(E:Enc α size)(base:Nat)(v:Value)(xs:List α)(gQ:Own E e w base v xs)
 (x:Value) (m:Nat) (ys:List α) (hl:ys.length=m) (hs:Src P size tx x m (E.all ys) w) (hb:(xs.length+m)*bytes≤140737488355328) (hb2:xs.length+m≤maxLen) (jX:base≤w.heap.size) :
 ∃v' w',(Builtin.append_ #[t,tx] ty #[v,x]).run P w = .ok v' w'∧Own E e w' base v' (xs++ys)∧Below base w w':=by
 obtain⟨z,hi,hz⟩:=df.inf;obtain⟨i,hi1,hi2,hi3,hi4⟩:=info_parts hi;have ht:=df.und;subst hi3;subst hi4;have hlx:=E.mK xs;have Bc:=E.mK ys;rw[hl]at Bc;have hlen:(E.all (xs++ys)).length=(xs.length+m)*i.size:=by rw[E.mK,ax,hl]
 have L8:xs.length+m≤9223372036854775807:=by simp only[maxLen]at hb2;omega
 have grown:∀(old:Nat),old<xs.length+m →
  Own E e (w.drew.alloc (.cells ((E.all xs++E.all ys).toArray++Builtin.zeroCells z.cells (grownCap w (xs.length+m) old e - (xs.length+m))) e)) base (.slice (some ⟨w.heap.size,0,none⟩) (xs.length+m) (grownCap w (xs.length+m) old e)) (xs++ys) ∧
  Below base w (w.drew.alloc (.cells ((E.all xs++E.all ys).toArray++Builtin.zeroCells z.cells (grownCap w (xs.length+m) old e - (xs.length+m))) e)):=by
  intro old ho;have hge:=grownCap_ge w (xs.length+m) old e;have hcm:grownCap w (xs.length+m) old e≤maxLen:=grownCap_le_maxLen w (xs.length+m) old e hb2;refine⟨?_,((ak _ _).drew).alloc jX _⟩;unfold Own;rw[ax,hl];refine⟨hlen,.inr ⟨w.heap.size,_,_,rfl,jX,heap_alloc_new w.drew _,hge,hcm, ?_, ?_⟩⟩
  · simp only[Array.size_append,List.size_toArray,size_zeroCells,hz,ax,hlx,Bc, ← Nat.add_mul]
    congr 1;omega
  · simp only[Array.toList_append]
    rw[← E.all_append, ← hlen];exact List.take_left
 have h0:=gQ;rcases gQ.2 with ⟨rfl,hn⟩|⟨g,cap,cur,rfl,hbg,hg,hnc,hcm,hcs,EH⟩
 · have hx:xs=[]:=kM hn
   subst hx;by_cases hm:m=0
   · subst hm
     have hy:ys=[]:=kM hl;subst hy;refine⟨.slice none 0 0,w, ?_,Own.nil E e w base,ak _ _⟩;have hc:=hs.cells;have hll:=hs.len;have hc':(Builtin.firstCells i.size 0 x).run P w = .ok #[] w:=hc
     rcases hs.kind with ⟨e',hk⟩|hk <;>
      simp[Builtin.append_,run_underlying ht,run_underlying hk,sizeOf,typeInfo,hi1,hll,hc']
   · have hgr:=grown 0 (by simp;omega)
     have hr:=run_append_grow_src (P:=P) w t tx ty e i z ht hi1 hi2 none 0 0 [] (by simp[Builtin.firstCells]) x m (E.all ys) hs (by omega) (by simp at L8;omega) (growslice_fits (by omega) (by simpa using hb));simp only[dX,Nat.zero_add,gX,Enc.all,List.flatMap_nil]at hgr hr ⊢;exact⟨_,_,hr,hgr.1,hgr.2⟩
 · by_cases Bg:xs.length+m≤cap
   · have A9:xs.length*i.size+(E.all ys).length≤cur.size:=by rw[Bc,hcs, ← Nat.add_mul];exact Nat.mul_le_mul_right _ Bg
     have hst:=run_storeCells_at P g (xs.length*i.size) e (E.all ys) 0 cur w hg (by omega) (E.xm ys);simp only[Nat.add_zero]at hst;refine⟨.slice (some ⟨g,0,none⟩) (xs.length+m) cap,w.setRow g (cur.toList.take (xs.length*i.size)++E.all ys++cur.toList.drop (xs.length*i.size+(E.all ys).length)).toArray, ?_, ?_, ?_⟩
     · rcases hs.kind with ⟨e',hk⟩|hk <;> simp[Builtin.append_,run_underlying ht,run_underlying hk,sizeOf,typeInfo,hi1,hs.len,Bg,hs.cells,Addr.add_lit,hst]
     · unfold Own
       rw[ax,hl];refine⟨hlen,.inr ⟨g,cap,_,rfl,hbg,setRow_heap w g cur _ e _ hg,Bg,hcm, ?_, ?_⟩⟩
       · simp only[List.size_toArray,ax,gW,lq,Array.length_toList]
         omega
       · rw[EH, ← hlen, ← E.all_append]
         exact List.take_left
     · exact⟨rfl,rfl,rfl,by simp,fun k hk=>setRow_other w g k _ (by omega)⟩
   · have hold:(Builtin.firstCells i.size xs.length (.slice (some ⟨g,0,none⟩) xs.length cap)).run P w.drew = .ok (E.all xs).toArray w.drew :=
      run_firstCells_some w.drew i.size xs.length ⟨g,0,none⟩ xs.length cap (E.all xs) hlx (World.ownsRow.cells (w:=w.drew) h0 (g:=g) rfl)
     have hgr:=grown cap (by omega);have hr:=run_append_grow_src (P:=P) w t tx ty e i z ht hi1 hi2 (some ⟨g,0,none⟩) xs.length cap (E.all xs) hold x m (E.all ys) hs (by omega) (by omega) (growslice_fits (by omega) hb);exact⟨_,_,hr,hgr.1,hgr.2⟩
theorem Jk {tx e:Nat}{rest:List Oper}{o:Oper}(df:Elem P t e size bytes)(E:Enc α size)
 (hgd:o.guard=none) (s x:Operand) (ho:o.op = .call { callee := .builtin .append,args:=#[s,x],argTypes:=#[t,tx] }) (base:Nat) (v:Value) (xs:List α)
 (hs:a.eval s=v) (gQ:Own E e w base v xs) (y:Value) (m:Nat) (ys:List α) (hx:a.eval x=y) (hl:ys.length=m) (L9:Src P size tx y m (E.all ys) w)
 (hb:(xs.length+m)*bytes≤140737488355328) (hb2:xs.length+m≤maxLen) (jX:base≤w.heap.size)
 (h:∀(v':Value)(w':World),Own E e w' base v' (xs++ys)→Below base w w'→wpList P ops Q rest (a.put o.dst v') w'):wpList P ops Q (o :: rest) a w:=by
 obtain⟨v',w',rE,h2,h3⟩:=ahy (ty:=o.type) df E base v xs gQ y m ys hl L9 hb hb2 jX;refine wpList_plain hgd fun _ hK => ?_
 unfold Oper.wp execOp;simp only[ho,resolve,invoke,builtin,Sem.run_bind,Sem.run_pure,Result.andThen_ok,List.map_toArray,jr,List.map_nil,hs,hx,rE];exact hK _ _ (h v' w' h2 h3)
theorem Zy (s:ByteArray):byteCells s=(aJ .u8).all (sb s):=by
 rw[wS];unfold byteCells sb;rw[List.map_map];rfl
theorem I7 (s:ByteArray):Src Tryz.prog 1 9 (.string s) s.size ((aJ .u8).all (sb s)) w:=by
 rw[← Zy];exact Src.ofString w Tryz.underlying9 s
theorem Bytes.drop(h:Bytes l)(k:Nat):Bytes (l.drop k):=fun a ha=>h a (List.mem_of_mem_drop ha)
theorem Bytes.take(h:Bytes l)(k:Nat):Bytes (l.take k):=fun a ha=>h a (List.mem_of_mem_take ha)
theorem Bytes.get (h:Bytes l)(k:Nat):0≤l.getD k 0∧l.getD k 0≤255:=by
 rw[kg];cases hk:l[k]? with
 | none=>simp
 | some a=>exact h a (fe hk)
structure S8 (w:World)(B:Nat)(A:Option Addr)(len cap:Nat)(xs:List Int):Prop where
 hlen:xs.length=len
 le:len≤cap
 max:cap≤maxLen
 bytes:Bytes xs
 at_:len=0∨∃pb po,A=some ⟨pb,po,none⟩∧pb<B∧∀j,j<len→w.cell? ⟨pb,po+j,none⟩=some (.int .u8 (xs.getD j 0))
theorem S8.below {len:Nat}(h:S8 w B A len cap xs)(hb:Below C w w')(hC:B≤C):S8 w' B A len cap xs :=
 ⟨h.hlen,h.le,h.max,h.bytes,by
  rcases h.at_ with h1|⟨pb,po,h1,h2,h3⟩
  · exact .inl h1
  · exact .inr ⟨pb,po,h1,h2,fun j hj=>(hb.cell (p:=⟨pb,po+j,none⟩) (by show pb<C;omega)).trans (h3 j hj)⟩⟩
theorem S8.mono {len:Nat}(h:S8 w B A len cap xs)(hC:B≤C):S8 w C A len cap xs :=
 ⟨h.hlen,h.le,h.max,h.bytes,by
  rcases h.at_ with h1|⟨pb,po,h1,h2,h3⟩
  · exact .inl h1
  · exact .inr ⟨pb,po,h1,by omega,h3⟩⟩
theorem Own.other {E:Enc α size}{r:Nat}{xs:List α}(h:Own E e w base v xs)(hg:w.grownBy w' (Option.some r))(hr:r<base):Own E e w' base v xs:=by
 refine⟨h.1, ?_⟩;rcases h.2 with h|⟨g,cap,cur,h1,h2,h3,h4⟩
 · exact .inl h
 · refine .inr ⟨g,cap,cur,h1,h2, ?_,h4⟩
   rw[hg.block g (dB.1 h3).1 (by intro h;have:g=r:=dM h;omega)];exact h3
theorem RI (hi:ops[i]? = some oi)(hd:oi.dst=d)
 (hr:Region.ready md ops listed=[i]) (hl:listed.setIfInBounds i true=kK) (hw:Region.wanted oi (yielded ops a.tmps)=true)
 (h:∀K:Act→World→Prop,Shut (∀v w,S w→wpAnyH P md ops Q S fuel kK (a.put d v) w→K (a.put d v) w)→Oper.wp P oi a w K Q):wpAnyH P md ops Q S (fuel+1) listed a w:=by
 subst hd;subst hl;refine wpAnyH_ready hr (by simp) (AllReadyH.cons hi (fun K hK => ?_) AllReadyH.nil);rw[ag hw];exact h K (fun v w hS hW=>hK _ _ hS (fun _=>hW))
theorem gA(l:List α)(i:Nat):l.toArray[i]? = l[i]? := List.getElem?_toArray ..
theorem gS(x : α)(l:List α)(n:Nat):(x :: l)[n+1]? = l[n]? := rfl
theorem ou(x : α)(l:List α):(x :: l)[0]? = some x:=rfl
theorem sT(l:List α)(i:Nat)(a : α):l.toArray.setIfInBounds i a=(l.set i a).toArray:=List.setIfInBounds_toArray ..
theorem fV(x : α)(l:List α)(a : α):(x :: l).set 0 a=a :: l:=rfl
theorem fU(x : α)(l:List α)(n:Nat)(a : α):(x :: l).set (n+1) a=x :: l.set n a:=rfl
def Dp(md:Region.Mode)(ops:Array Oper)(listed:Array Bool)(i:Nat):Bool:=Region.noSelect ops&&(Region.free md ops listed i&&(Region.ready md ops listed).contains i)
theorem Jd (h:Dp md ops listed i=true):Region.noSelect ops=true∧Region.free md ops listed i=true∧(Region.ready md ops listed).contains i=true :=
 ⟨(j6.1 h).1,(j6.1 (j6.1 h).2).1,(j6.1 (j6.1 h).2).2⟩
theorem hT (i:Nat)(hS:S w)(h:wpAnyH P md ops Q S fuel kK a' w)(hi:ops[i]? = some oi:=by(first|(simp only[gA,gS,ou];done)|(simp only[gA,gS,ou];rfl)))
 (hc:Dp md ops listed i=true:=by kernel_rfl) (hl:listed.setIfInBounds i true=kK:=by(simp only[sT,fV,fU];rfl)) (hw:Region.wanted oi (yielded ops a.tmps)=true:=by rfl) (hy:∀w,S w→(execOp a.eval oi).run P w = .ok (.value v) w:=by(intro ig hSw;go_simp;try(with_reducible rfl)))
 (ha:a.put oi.dst v=a':=by(simp only[Act.put,sT,fV,fU];rfl)) (hQ:∀c a w,Q (.panic c) (a.put oi.dst v) w→Q (.panic c) a w:=by exact fun _ _ _ h=>h):wpAnyH P md ops Q S (fuel+1) listed a w:=by
 obtain⟨h1,h2,h3⟩:=Jd hc;subst hl;subst ha;exact wpAnyH_take hi h1 h2 h3 hQ (.inl ⟨hw,hy⟩) hS h
theorem hU (i:Nat)(hS:S w)(h:wpAnyH P md ops Q S fuel kK a' w)(hi:ops[i]? = some oi:=by(first|(simp only[gA,gS,ou];done)|(simp only[gA,gS,ou];rfl)))
 (hc:Dp md ops listed i=true:=by kernel_rfl) (hl:listed.setIfInBounds i true=kK:=by(simp only[sT,fV,fU];rfl)) (hw:Region.wanted oi (yielded ops a.tmps)=true:=by rfl) (hy:∀w,S w→(execOp a.eval oi).run P w = .ok (.value v) w:=by(intro ig hSw;have hz:=hSw;go_simp;try(with_reducible rfl)))
 (ha:a.put oi.dst v=a':=by(simp only[Act.put,sT,fV,fU];rfl)) (hQ:∀c a w,Q (.panic c) (a.put oi.dst v) w→Q (.panic c) a w:=by exact fun _ _ _ h=>h):wpAnyH P md ops Q S (fuel+1) listed a w:=by
 obtain⟨h1,h2,h3⟩:=Jd hc;subst hl;subst ha;exact wpAnyH_take hi h1 h2 h3 hQ (.inl ⟨hw,hy⟩) hS h
theorem hV (i:Nat)(hS:S w)(h:wpAnyH P md ops Q S fuel kK a' w)(hi:ops[i]? = some oi:=by(first|(simp only[gA,gS,ou];done)|(simp only[gA,gS,ou];rfl)))
 (hc:Dp md ops listed i=true:=by kernel_rfl) (hl:listed.setIfInBounds i true=kK:=by(simp only[sT,fV,fU];rfl)) (hw:Region.wanted oi (yielded ops a.tmps)=true:=by rfl) (hy:∀w,S w→(execOp a.eval oi).run P w = .ok (.value v) w:=by(intro ig hSw;(try dsimp only at hSw);go_simp;try(with_reducible rfl)))
 (ha:a.put oi.dst v=a':=by(simp only[Act.put,sT,fV,fU];rfl)) (hQ:∀c a w,Q (.panic c) (a.put oi.dst v) w→Q (.panic c) a w:=by exact fun _ _ _ h=>h):wpAnyH P md ops Q S (fuel+1) listed a w:=by
 obtain⟨h1,h2,h3⟩:=Jd hc;subst hl;subst ha;exact wpAnyH_take hi h1 h2 h3 hQ (.inl ⟨hw,hy⟩) hS h
theorem hN (i:Nat)(hS:S w)(h:wpAnyH P md ops Q S fuel kK a' w)(hi:ops[i]? = some oi:=by(first|(simp only[gA,gS,ou];done)|(simp only[gA,gS,ou];rfl)))
 (hc:Dp md ops listed i=true:=by kernel_rfl) (hl:listed.setIfInBounds i true=kK:=by(simp only[sT,fV,fU];rfl)) (hw:Region.wanted oi (yielded ops a.tmps)=false:=by rfl) (ha:a.put oi.dst undef=a':=by(simp only[Act.put,sT,fV,fU];rfl))
 (hQ:∀c a w,Q (.panic c) (a.put oi.dst undef) w→Q (.panic c) a w:=by exact fun _ _ _ h=>h):wpAnyH P md ops Q S (fuel+1) listed a w:=by
 obtain⟨h1,h2,h3⟩:=Jd hc;subst hl;subst ha;exact wpAnyH_take hi h1 h2 h3 hQ (.inr ⟨hw,rfl⟩) hS h
theorem hO (i:Nat)
 (h:∀K:Act→World→Prop,Shut (∀v w,S w→wpAnyH P md ops Q S fuel kK (a.put d v) w→K (a.put d v) w)→Oper.wp P oi a w K Q) (hi:ops[i]? = some oi:=by(first|(simp only[gA,gS,ou];done)|(simp only[gA,gS,ou];rfl))) (hd:oi.dst=d:=by(first|(dsimp only;done)|(dsimp only;rfl)|rfl)) (hr:Region.ready md ops listed=[i]:=by kernel_rfl)
 (hl:listed.setIfInBounds i true=kK:=by(simp only[sT,fV,fU];rfl)) (hw:Region.wanted oi (yielded ops a.tmps)=true:=by rfl):wpAnyH P md ops Q S (fuel+1) listed a w:=RI hi hd hr hl hw h
theorem Below.of(w w' w'':World)(h:Below w.heap.size w w')(k:Below w'.heap.size w' w''):Below w.heap.size w w'':=h.trans (k.mono h.size)
theorem aj1{K K':Act→World→Prop}(h:∀a w,K a w→K' a w)(hk:wpOp P ops Q i K a w):wpOp P ops Q i K' a w:=wpOp_mono h hk
theorem RH {S':World→Prop}(hS:∀w,S w→S' w):∀(fuel:Nat)(listed:Array Bool)(a:Act)(w:World),wpAnyH P md ops Q S fuel listed a w→wpAnyH P md ops Q S' fuel listed a w
 | 0,_,_,_,h=>h
 | fuel+1,_,_,_,h=>⟨h.1,fun i hi=>aj1 (fun a' w' h'=>⟨hS _ h'.1,RH hS fuel _ a' w' h'.2⟩) (h.2 i hi)⟩
theorem ade {id:Nat}(hm:P.follows .mixedOrders=true)
 (h:wpAnyH P .any ops Q (Below w.heap.size w.drew) ops.size (Array.replicate ops.size false) a w.drew):(Code.region id ops true).wp P Q a w :=
 wp_region_held_drew (S:=Below w.heap.size w.drew) hm (ak _ _) (fun _=>h)
theorem adb (hi:ops[i]? = some oi)(hd:oi.dst=d)
 (hr:Region.ready md ops listed=[i]) (hl:listed.setIfInBounds i true=kK) (hw:Region.wanted oi (yielded ops a.tmps)=true)
 (h:∀K:Act→World→Prop,Shut (∀v w',Below B w w'→B≤w'.heap.size→wpAnyH P md ops Q (Below w'.heap.size w') fuel kK (a.put d v) w'→K (a.put d v) w')→Oper.wp P oi a w K Q):wpAnyH P md ops Q (Below B w) (fuel+1) listed a w :=
 RI hi hd hr hl hw (fun K hK=>h K (fun v w' hb hB hn=>hK v w' hb (RH (fun _ h'=>hb.trans (h'.mono hB)) _ _ _ _ hn)))
theorem Bp (i:Nat)(h:wpAnyH P md ops Q (Below B w) fuel kK a' w)(hi:ops[i]? = some oi:=by(first|(simp only[gA,gS,ou];done)|(simp only[gA,gS,ou];rfl)))
 (hc:Dp md ops listed i=true:=by kernel_rfl) (hl:listed.setIfInBounds i true=kK:=by(simp only[sT,fV,fU];rfl)) (hw:Region.wanted oi (yielded ops a.tmps)=true:=by rfl) (hy:∀w',Below B w w'→(execOp a.eval oi).run P w' = .ok (.value v) w':=by(intro ig hSw;go_simp;try(with_reducible rfl)))
 (ha:a.put oi.dst v=a':=by(simp only[Act.put,sT,fV,fU];rfl)) (hQ:∀c a w,Q (.panic c) (a.put oi.dst v) w→Q (.panic c) a w:=by exact fun _ _ _ h=>h):wpAnyH P md ops Q (Below B w) (fuel+1) listed a w :=
 hT i (ak _ _) h hi hc hl hw hy ha hQ
theorem ac0 (i:Nat)
 (h:∀K:Act→World→Prop,Shut (∀v w',Below B w w'→B≤w'.heap.size→wpAnyH P md ops Q (Below w'.heap.size w') fuel kK (a.put d v) w'→K (a.put d v) w')→Oper.wp P oi a w K Q) (hi:ops[i]? = some oi:=by(first|(simp only[gA,gS,ou];done)|(simp only[gA,gS,ou];rfl))) (hd:oi.dst=d:=by(first|(dsimp only;done)|(dsimp only;rfl)|rfl))
 (hr:Region.ready md ops listed=[i]:=by kernel_rfl) (hl:listed.setIfInBounds i true=kK:=by(simp only[sT,fV,fU];rfl)) (hw:Region.wanted oi (yielded ops a.tmps)=true:=by rfl):wpAnyH P md ops Q (Below B w) (fuel+1) listed a w:=adb hi hd hr hl hw h
end Go.Proofs.YtbplbjmmfgjdjaaGreatDoor
namespace Go.Proofs.YtbplbjmmfgjdjaaGreatDoor
open Go.ChangeShapes Go.WideShapes Go.ChangeAt Go.RowKit
theorem ajy {H:Type}{enc:TypeId × Value→H}{P:Program}(hl:laidOutB P=true){W W':World}(hb:Below W.heap.size W W') :
 ∀ (ts:List TypeId)(vs:List Value)(ds:List (DataW H))(p:List MemPlace),(ts.all fun t=>P.readableRec t&&decide (t<P.types.size))=true→(∀x∈p,x.block<W.heap.size) →
   DataW.TrodAll enc P W 0 (fun _=>true) true ts vs ds p→DataW.TrodAll enc P W' 0 (fun b=>decide (b<W.heap.size)) true ts vs ds p:=by
 intro ts
 induction ts with
 | nil =>
   intro vs ds p _ _ h;obtain⟨rfl,rfl,rfl⟩:=trodAll_nil h;exact trodAll_mk0
 | cons t ts ih =>
   intro vs ds p ht hlt h;obtain⟨v,vs',d,ds',p1,q1,rfl,rfl,rfl,h0,hr⟩:=trodAll_cons h;rw[List.all_cons,dJ,dJ,decide_eq_true_eq]at ht;exact trodAll_cons_mk (Below.trod hl ht.1.1 ht.1.2 h0 hb (fun x hx=>hlt x (List.mem_append_left _ hx))) (ih vs' ds' q1 ht.2 (fun x hx=>hlt x (List.mem_append_right _ hx)) hr)
theorem own:ownKnob Tryz.prog.godebug=none:=by kernel_rfl
theorem laidOut:laidOutB Tryz.prog=true:=by kernel_rfl
theorem adt {H:Type}{enc:TypeId × Value→H}{f:Func}{s:ChangeSpec}{W W':World}{args:Array Value}{ds gs:List (DataW H)}{before:List MemPlace}(hl:laidOutB Tryz.prog=true)
 (acm:(f.params.toList.all fun t=>Tryz.prog.readableRec t&&decide (t<Tryz.prog.types.size))=true) (au:f.resultTypes=#[4])
 (acA:s.vars=[]) (hfn:s.fn H (ds++gs)={ results:=[.lit (.bool true)],args:=ds })
 (hW:DataW.Whole enc Tryz.prog f.params.toList s.vars false W args.toList ds gs before) (hlt:∀x∈before,x.block<W.heap.size) (hb:Below W.heap.size W W') :
 s.post enc Tryz.prog f false true false false W args (.bool true) W':=by
 have hW0:=hW;obtain⟨p,q,hA,hV,rfl,_,_⟩:=hW;refine⟨ds,gs,p++q,[],p,[],hW0, ?_, ?_, ?_,hb.frame _,fun h=>by cases h⟩
 · rw[hfn,au]
   exact trodAll_cons_mk (shut_bool Tryz.underlying4 true) trodAll_mk0
 · rw[hfn]
   exact ajy hl hb _ _ _ _ acm (fun x hx=>hlt x (List.mem_append_left _ hx)) hA
 · rw[acA,hfn];rfl
end Go.Proofs.YtbplbjmmfgjdjaaGreatDoor
namespace Go.Proofs.YtbplbjmmfgjdjaaGreatDoor
open Go.RowKit
variable {nw:Int}{B b:Nat}{t:TypeId}{v:Value}{w w':World}
theorem Elem.pl:Elem Tryz.prog 34 3 1 8:=⟨Tryz.underlying34,⟨.int .i64 0,by kernel_rfl,rfl⟩,by decide⟩
abbrev IR(w:World)(B:Nat)(A:Option Addr)(n cap:Nat)(xs:List Int):Prop:=ku (aJ .i64) w B (.slice A n cap) xs
theorem He {A:Option Addr}{n cap:Nat}{xs:List Int}(h:IR w B A n cap xs){i:Nat}(hi:i<n) :
 ∃pb po,A=some ⟨pb,po,none⟩∧pb<B∧w.cell? ⟨pb,po+i,none⟩=some (.int .i64 (xs.getD i 0)):=by
 have hl:=h.len.1;obtain⟨pb,po,h1,h2,h3⟩:=h.at (getD_some xs i (by omega));exact⟨pb,po,h1,h2,by have:=h3 0 _ rfl;rwa[Nat.mul_one,Nat.add_zero]at this⟩
def dI(t:TypeId)(w:World)(b:Nat)(v:Value)(nw:Int):Prop:=w.heap[b]? = some (.cells #[v,.int .i64 nw] t)
theorem dI.new(t:TypeId)(w:World)(v:Value)(nw:Int):dI t (w.alloc (.cells #[v,.int .i64 nw] t)) w.heap.size v nw:=(lu w _).1
theorem dI.lt(h:dI t w b v nw):b<w.heap.size:=(dB.1 h).1
theorem dI.keep(h:dI t w b v nw)(hk:w'.heap[b]? = w.heap[b]?):dI t w' b v nw:=by unfold dI;rw[hk];exact h
theorem dI.below(h:dI t w b v nw)(hb:Below B w w')(hB:b<B):dI t w' b v nw:=h.keep (hb.block b hB)
theorem dI.over(h:dI t w b v nw)(hb:Below w.heap.size w w'):dI t w' b v nw:=h.below hb h.lt
theorem dI.cells (h:dI t w b v nw):w.cell? ⟨b,0,none⟩=some v∧w.cell? ⟨b,1,none⟩=some (.int .i64 nw) :=
 ⟨by rw[cell_of_row w b 0 _ _ _ h];rfl,by rw[cell_of_row w b 1 _ _ _ h];rfl⟩
theorem dI.bR (h:dI t w b v nw):w.frozen? ⟨b,0,none⟩=false∧w.frozen? ⟨b,1,none⟩=false :=
 ⟨frozen_of_row w b 0 _ _ h,frozen_of_row w b 1 _ _ h⟩
theorem dI.U2 (h:dI t w b v nw)(u:Value):dI t (w.setCell ⟨b,0,none⟩ u) b u nw:=by
 unfold dI;rw[heap_setCell_same w b 0 _ _ _ h];rfl
theorem dI.CZ (h:dI t w b v nw)(m:Int):dI t (w.setCell ⟨b,1,none⟩ (.int .i64 m)) b v m:=by
 unfold dI;rw[heap_setCell_same w b 1 _ _ _ h];rfl
theorem dI.other (h:dI t w b v nw)(a:Addr)(u:Value)(hne:b≠a.block):dI t (w.setCell a u) b v nw:=by
 unfold dI;rw[heap_setCell_other w a b u hne];exact h
theorem sQ(t:TypeId)(w:World)(v:Value)(nw:Int):Below w.heap.size w (w.alloc (.cells #[v,.int .i64 nw] t)):=(ak _ _).alloc (aj _) _
theorem tC {α : Type}{k:Nat}{E:Enc α k}{e:TypeId}{lo:Nat}{xs:List α}(h:Own E e w lo v xs):∃A c,v = .slice A xs.length c:=by
 rcases h.shape with ⟨rfl,rfl⟩|⟨g,c,rfl,_⟩
 · exact⟨none,0,rfl⟩
 · exact⟨_,c,rfl⟩
theorem Ou (w:World)(A:Option Addr)(n cap:Nat)(xs:List Int)(nw i:Int)(h:IR w w.heap.size A n cap xs)(hn:n≤2000000)(h0:0≤nw)(h1:nw≤2000000)(hi:i≤4398046511104) :
 Calls Tryz.prog 87 #[.agg #[.slice A n cap,.int .i64 nw],.int .i64 i] w fun e w'=>e = .returned (.int .i64 (lI xs nw i))∧Below w.heap.size w w':=by
 have HB:=ae (sQ 136 w (.slice A n cap) nw);have HP:=ae (dI.new 136 w (.slice A n cap) nw);have HX:=ae h;have HL:=ae h.len.1;clear h;by_cases vX:i<0
 · have aW:=ae (SK xs nw i vX)
   go_enter Tryz.func87,Tryz.ntmps87;go_wp2_with fail
   go_ret;exact⟨by rw[aW.o];rfl,HB.o⟩
 · obtain ⟨k,rfl⟩:∃k:Nat,i=(k:Int):=⟨i.toNat,by omega⟩
   by_cases hin:k<n
   · have hii:(k:Int)<(n:Int):=by omega
     have hi0:(0:Int)≤(k:Int):=by omega
     have aW:=ae (CJ xs nw k (by rw[HL.o];exact hin));obtain⟨pb,po,rfl,hpb,e0⟩:=He HX.o hin;obtain⟨x,hx⟩:∃x,xs.getD k 0=x:=⟨_,rfl⟩;rw[hx]at e0 aW;have HE:=ae e0;have D6:=ae hpb;clear e0 hx hpb;go_enter Tryz.func87,Tryz.ntmps87;go_upto_region 1 with (fail)
     obtain⟨w1,hw1⟩:∃w1,w.alloc (.cells #[.slice (some ⟨pb,po,none⟩) n cap,.int .i64 nw] 136)=w1:=⟨_,rfl⟩;rw[hw1]at HB HP ⊢;clear hw1;obtain⟨x0,x1⟩:=HP.o.cells;have x2:w1.cell? ⟨pb,po+k,none⟩=some (.int .i64 x):=(HB.o.cell (p:=⟨pb,po+k,none⟩) D6.o).trans HE.o;go_wp2_with fail
     go_ret;exact⟨by rw[aW.o];rfl,HB.o⟩
   · have hii:¬ (k:Int)<(n:Int):=by omega
     have aW:=ae (EL xs nw (k:Int) (by omega) (by rw[HL.o];omega));have hk:(k:Int)≤4398046511104:=hi;go_enter Tryz.func87,Tryz.ntmps87;go_upto_region 1 with (fail)
     obtain⟨w1,hw1⟩:∃w1,w.alloc (.cells #[.slice A n cap,.int .i64 nw] 136)=w1:=⟨_,rfl⟩;rw[hw1]at HB HP ⊢;clear hw1;obtain⟨x0,x1⟩:=HP.o.cells;go_wp2_with fail
     go_ret;exact⟨by rw[aW.o,HL.o];rfl,HB.o⟩
theorem IG (w:World)(A:Option Addr)(n cap:Nat)(xs:List Int)(nw i:Int)(h:IR w w.heap.size A n cap xs)(hn:n≤2000000)(h0:0≤nw)(h1:nw≤2000000)(hi:i≤4398046511104) :
 Calls Tryz.prog 41 #[.agg #[.slice A n cap,.int .i64 nw],.int .i64 i] w fun e w'=>e = .returned (.int .i64 (lI xs nw i))∧Below w.heap.size w w':=by
 have HB:=ae (sQ 36 w (.slice A n cap) nw);have HP:=ae (dI.new 36 w (.slice A n cap) nw);have HX:=ae h;have HL:=ae h.len.1;clear h;by_cases vX:i<0
 · have aW:=ae (SK xs nw i vX)
   go_enter Tryz.func41,Tryz.ntmps41;go_wp2_with fail
   go_ret;exact⟨by rw[aW.o];rfl,HB.o⟩
 · obtain ⟨k,rfl⟩:∃k:Nat,i=(k:Int):=⟨i.toNat,by omega⟩
   by_cases hin:k<n
   · have hii:(k:Int)<(n:Int):=by omega
     have hi0:(0:Int)≤(k:Int):=by omega
     have aW:=ae (CJ xs nw k (by rw[HL.o];exact hin));obtain⟨pb,po,rfl,hpb,e0⟩:=He HX.o hin;obtain⟨x,hx⟩:∃x,xs.getD k 0=x:=⟨_,rfl⟩;rw[hx]at e0 aW;have HE:=ae e0;have D6:=ae hpb;clear e0 hx hpb;go_enter Tryz.func41,Tryz.ntmps41;go_upto_region 1 with (fail)
     obtain⟨w1,hw1⟩:∃w1,w.alloc (.cells #[.slice (some ⟨pb,po,none⟩) n cap,.int .i64 nw] 36)=w1:=⟨_,rfl⟩;rw[hw1]at HB HP ⊢;clear hw1;obtain⟨x0,x1⟩:=HP.o.cells;have x2:w1.cell? ⟨pb,po+k,none⟩=some (.int .i64 x):=(HB.o.cell (p:=⟨pb,po+k,none⟩) D6.o).trans HE.o;go_wp2_with fail
     go_ret;exact⟨by rw[aW.o];rfl,HB.o⟩
   · have hii:¬ (k:Int)<(n:Int):=by omega
     have aW:=ae (EL xs nw (k:Int) (by omega) (by rw[HL.o];omega));have hk:(k:Int)≤4398046511104:=hi;go_enter Tryz.func41,Tryz.ntmps41;go_upto_region 1 with (fail)
     obtain⟨w1,hw1⟩:∃w1,w.alloc (.cells #[.slice A n cap,.int .i64 nw] 36)=w1:=⟨_,rfl⟩;rw[hw1]at HB HP ⊢;clear hw1;obtain⟨x0,x1⟩:=HP.o.cells;go_wp2_with fail
     go_ret;exact⟨by rw[aW.o,HL.o];rfl,HB.o⟩
theorem SI (w:World)(A:Option Addr)(n cap:Nat)(xs:List Int)(nw i:Int)(h:IR w w.heap.size A n cap xs)(hn:n≤2000000)(h0:0≤nw)(h1:nw≤2000000)(hi:i≤4398046511104) :
 Calls Tryz.prog 63 #[.agg #[.slice A n cap,.int .i64 nw],.int .i64 i] w fun e w'=>e = .returned (.int .i64 (lI xs nw i))∧Below w.heap.size w w':=by
 have HB:=ae (sQ 36 w (.slice A n cap) nw);have HP:=ae (dI.new 36 w (.slice A n cap) nw);have HI:=ae (Ou (w.alloc (.cells #[.slice A n cap,.int .i64 nw] 36)) A n cap xs nw i (h.lift HB.o) hn h0 h1 hi);clear h;go_enter Tryz.func63,Tryz.ntmps63;go_upto_region 1 with (fail)
 obtain⟨w1,hw1⟩:∃w1,w.alloc (.cells #[.slice A n cap,.int .i64 nw] 36)=w1:=⟨_,rfl⟩;rw[hw1]at HB HP HI ⊢;clear hw1;obtain⟨x0,x1⟩:=HP.o.cells;go_wp2_with (go_at_call 87;((with_reducible refine HI.o.mono ?_);rintro e w2 ⟨rfl,h3⟩;have H2:=ae (HB.o.trans (h3.mono HB.o.size));clear h3))
 go_ret;exact⟨rfl,H2.o⟩
def jg(n:Int):Nat:=(min (max n 0) 1048576).toNat
theorem KU(n:Int):jg n≤1048576:=by unfold jg;omega
theorem Z9(n:Int):(jg n:Int)=min (max n 0) 1048576:=by unfold jg;omega
theorem aeR:(Tryz.prog.info? 36).map (·.size)=some 2:=by kernel_rfl
theorem EZ {A:Option Addr}{n cap:Nat}(h:dI 36 w b (.slice A n cap) nw)(fn:Func)(tmps:Array Value)(s:Tmp)(hf:fn.results=#[.cell s 36])(hp:tmps.getD s undef = .pointer (some ⟨b,0,none⟩)) :
 (results fn tmps).run Tryz.prog w = .ok (.agg #[.slice A n cap,.int .i64 nw]) w :=
 results_cell_row hf tmps w b _ _ _ _ hp h Tryz.underlying36 rfl aeR
theorem dI.qK(h:dI t w b v nw)(u:Value)(m:Int):dI t ((w.setCell ⟨b,0,none⟩ u).setCell ⟨b,1,none⟩ (.int .i64 m)) b u m:=(h.U2 u).CZ m
theorem El {w0:World}(h:Below B w0 w)(hB:B≤b)(u v:Value):Below B w0 ((w.setCell ⟨b,0,none⟩ u).setCell ⟨b,1,none⟩ v):=by
 have h1:Below B w0 (w.setCell ⟨b,0,none⟩ u):=h.setCell hB u;exact h1.setCell hB v
theorem Ex (w:World)(b g:Nat)(u v:Value)(hne:g≠b):((w.setCell ⟨b,0,none⟩ u).setCell ⟨b,1,none⟩ v).heap[g]? = w.heap[g]? :=
 (heap_setCell_other _ ⟨b,1,none⟩ g v hne).trans (heap_setCell_other w ⟨b,0,none⟩ g u hne)
def mZ(n at_:Int):List Int × Int:=if at_<0∨(jg n:Int)<at_ then (kL (jg n),(jg n:Int))else (CL (jg n) at_,(jg n:Int)+1)
end Go.Proofs.YtbplbjmmfgjdjaaGreatDoor
