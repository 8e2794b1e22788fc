/-
 Texts of layers, put together.
-/
import Derived.Test.YtdphoaabaajonaaGreatDoorRows
import Derived.WalkKit
import Derived.WalkSpells
import Derived.WalkLawsBesides
import Derived.WalkSmall
import Derived.Handy
import Derived.Deep.QuietTactic
import Derived.BigQuiet
import Derived.RegionTactic
import Derived.BigRegion
import Derived.StillTailTactics
import Derived.Lib.Hide
import Derived.Laws.Rows
import Derived.Laws.CopyOwn
import Derived.Laws.CopyRow
import Derived.Deep.MidRow
import Derived.Deep.WholeRow
import Derived.Deep.Cut
import Derived.Deep.RegionLaw
import Derived.Laws.BytesArg
import Derived.Laws.MakeOwn
import Derived.MapKept
import Derived.Maps.AppendAt
import Derived.Deep.AppendSrc
import Derived.Deep.RegionHeld3
import Derived.ProofKit
import Derived.OpenShut
import Derived.Deep.DeepHandedRow
import Derived.Lib.LaidTab
import Derived.Lib.SliceRun
import Derived.Deep.OwnRows
namespace Go.Proofs.YtdphoaabaajonaaGreatDoor
open Go.RowKit
theorem run_storeVar_row {P:Program} (w:World) (g:Nat) (ty t:TypeId) (cur cells:Array Value) (hg:w.heap[g]? = some (.cells cur t)) (hs:cur.size=cells.size)
 (hi:(P.info? ty).map (·.size)=some cells.size) (h1:∀ v∈cells.toList,v.oneCell'=true) :
 (storeVar ty ⟨g,0,none⟩ (.agg cells)).run P w = .ok () (w.setRow g cells):=by
 have:=run_storeCells_at P g 0 t cells.toList 0 cur w hg (by simp;omega) h1
 cases hq:P.info? ty with
 | none=>simp [hq] at hi
 | some i =>
   have hs':cells.size=i.size:=by simp [hq] at hi;omega
   simp [storeVar,sizeOf,typeInfo,hq,Value.cells,hs',this]
   congr 1
   have:List.drop i.size cur.toList=[]:=by rw [List.drop_eq_nil_iff];simp;omega
   rw [this];simp
theorem wp_store_row {P:Program} {op:Oper} {a:Act} {w:World} {K:Act→World→Prop} {Q:Exit→Act→World→Prop} (ty:TypeId) (x y:Operand) (ho:op.op = .store ty x y)
 (g:Nat) (t:TypeId) (cur cells:Array Value) (hx:a.eval x = .pointer (some ⟨g,0,none⟩)) (hy:a.eval y = .agg cells) (hg:w.heap[g]? = some (.cells cur t)) (hs:cur.size=cells.size)
 (hi:(P.info? ty).map (·.size)=some cells.size) (h1:∀ v∈cells.toList,v.oneCell'=true)
 (h:K (a.put op.dst undef) (w.setRow g cells)):op.wp P a w K Q:=by
 unfold Oper.wp execOp
 simp only [ho,hx,hy,Instr.storeAt,Instr.sureAddr,Sem.run_bind,Sem.run_pure,Result.andThen_ok,run_storeVar_row w g ty t cur cells hg hs hi h1]
 exact h
theorem wpList_store_row {P:Program} {ops:Array Oper} {rest:List Oper} {op:Oper} {a:Act} {w:World} {Q:Exit→Act→World→Prop} (hgd:op.guard=none) (ty:TypeId) (x y:Operand) (ho:op.op = .store ty x y)
 (g:Nat) (t:TypeId) (cur cells:Array Value) (hx:a.eval x = .pointer (some ⟨g,0,none⟩)) (hy:a.eval y = .agg cells) (hg:w.heap[g]? = some (.cells cur t)) (hs:cur.size=cells.size)
 (hi:(P.info? ty).map (·.size)=some cells.size) (h1:∀ v∈cells.toList,v.oneCell'=true)
 (h:wpList P ops Q rest (a.put op.dst undef) (w.setRow g cells)):wpList P ops Q (op :: rest) a w :=
 wpList_plain hgd fun _ hK=>wp_store_row ty x y ho g t cur cells hx hy hg hs hi h1 (hK _ _ h)
def U (l:List Int):List Value:=l.map (Value.int .u32)
structure Elem (P:Program) (t e:TypeId) (size bytes:Nat):Prop where
 und:P.underlying t=some (.slice e)
 inf:∃ z:Value,(P.info? e).map (fun i=>(i.zero,i.size,i.bytes))=some (some z,size,bytes)∧z.cells.size=size
 pos:0<size
structure Enc (α : Type) (size:Nat) where
 f : α → List Value
 len:∀ a,(f a).length=size
 one:∀ a,∀ u∈f a,u.oneCell'=true
def Enc.all {α : Type} {size:Nat} (E:Enc α size) (xs:List α):List Value:=xs.flatMap E.f
theorem Enc.length_all {α : Type} {size:Nat} (E:Enc α size) (xs:List α):(E.all xs).length=xs.length*size:=by
 unfold Enc.all
 induction xs with
 | nil=>simp
 | cons a l ih=>rw [List.flatMap_cons,List.length_append,ih,E.len,List.length_cons,Nat.add_mul];omega
theorem Enc.all_append {α : Type} {size:Nat} (E:Enc α size) (xs ys:List α):E.all (xs++ys)=E.all xs++E.all ys:=by
 unfold Enc.all;exact List.flatMap_append ..
theorem Enc.one_all {α : Type} {size:Nat} (E:Enc α size) (xs:List α):∀ u∈E.all xs,u.oneCell'=true:=by
 intro u hu;unfold Enc.all at hu;rw [List.mem_flatMap] at hu;obtain ⟨a,_,h⟩:=hu;exact E.one a u h
theorem Enc.at {α : Type} {size:Nat} (E:Enc α size) (xs:List α) (i j:Nat) (a : α) (ha:xs[i]? = some a) (hj:j<size):(E.all xs)[i*size+j]? = (E.f a)[j]? := by
 unfold Enc.all
 induction xs generalizing i with
 | nil=>simp at ha
 | cons b l ih =>
   rw [List.flatMap_cons]
   cases i with
   | zero =>
     simp at ha;subst ha
     rw [Nat.zero_mul,Nat.zero_add,List.getElem?_append_left (by rw [E.len];exact hj)]
   | succ i =>
     have:(i+1)*size=i*size+size:=Nat.succ_mul i size
     rw [List.getElem?_append_right (by rw [E.len];omega),E.len]
     have e:(i+1)*size+j - size=i*size+j:=by omega
     rw [e];exact ih i (by simpa using ha)
def Own {α : Type} {size:Nat} (E:Enc α size) (e:TypeId) (w:World) (base:Nat) (v:Value) (xs:List α):Prop:=w.ownsRow base e size v xs.length (E.all xs)
theorem Own.nil {α : Type} {size:Nat} (E:Enc α size) (e:TypeId) (w:World) (base:Nat):Own E e w base (.slice none 0 0) ([]:List α):=World.ownsRow_nil w base e size
theorem Own.alloc {α : Type} {size:Nat} {E:Enc α size} {e:TypeId} {w:World} {base:Nat} {v:Value} {xs:List α} (h:Own E e w base v xs) (o:Obj):Own E e (w.alloc o) base v xs:=World.ownsRow.alloc h o
theorem Own.drew {α : Type} {size:Nat} {E:Enc α size} {e:TypeId} {w:World} {base:Nat} {v:Value} {xs:List α} (h:Own E e w base v xs):Own E e w.drew base v xs:=h
theorem Own.drewN {α : Type} {size:Nat} {E:Enc α size} {e:TypeId} {w:World} {base:Nat} {v:Value} {xs:List α} (h:Own E e w base v xs) (n:Nat):Own E e (w.drewN n) base v xs:=h
theorem Own.mono {α : Type} {size:Nat} {E:Enc α size} {e:TypeId} {w:World} {base base':Nat} {v:Value} {xs:List α} (h:Own E e w base v xs) (hb:base'≤base):Own E e w base' v xs:=by
 refine ⟨h.1, ?_⟩
 rcases h.2 with h | ⟨g,cap,cur,h1,h2,h3⟩
 · exact .inl h
 · exact .inr ⟨g,cap,cur,h1,by omega,h3⟩
theorem Own.below {α : Type} {size:Nat} {E:Enc α size} {e:TypeId} {w w':World} {base B:Nat} {v:Value} {xs:List α} (h:Own E e w base v xs) (hb:Below B w w') (hB:w.heap.size≤B):Own E e w' base v xs:=by
 refine ⟨h.1, ?_⟩
 rcases h.2 with h | ⟨g,cap,cur,h1,h2,h3,h4⟩
 · exact .inl h
 · refine .inr ⟨g,cap,cur,h1,h2, ?_,h4⟩
   rw [hb.block g (by have:=(Array.getElem?_eq_some_iff.1 h3).1;omega)];exact h3
theorem Own.shape {α : Type} {size:Nat} {E:Enc α size} {e:TypeId} {w:World} {base:Nat} {v:Value} {xs:List α} (h:Own E e w base v xs) :
 (v = .slice none 0 0∧xs=[])∨∃ g cap,v = .slice (some ⟨g,0,none⟩) xs.length cap∧base≤g∧g<w.heap.size∧xs.length≤cap∧cap≤maxLen:=by
 rcases h.2 with ⟨h1,h2⟩ | ⟨g,cap,cur,h1,h2,h3,h4,h5,_⟩
 · exact .inl ⟨h1,List.length_eq_zero_iff.1 h2⟩
 · exact .inr ⟨g,cap,h1,h2,(Array.getElem?_eq_some_iff.1 h3).1,h4,h5⟩
theorem Own.cells {α : Type} {size:Nat} {E:Enc α size} {e:TypeId} {w:World} {base g cap n:Nat} {xs:List α} (h:Own E e w base (.slice (some ⟨g,0,none⟩) n cap) xs) (j:Nat) (u:Value) (hj:(E.all xs)[j]? = some u) :
 w.cell? ⟨g,j,none⟩=some u:=by
 have:=World.ownsRow.cells h (g:=g) rfl j u hj
 rw [Addr.add_mid,Nat.zero_add] at this;exact this
theorem wpList_app {P:Program} {α : Type} {size t e bytes:Nat} {w:World} {ops:Array Oper} {rest:List Oper} {o:Oper} {a:Act} {Q:Exit→Act→World→Prop} (EL:Elem P t e size bytes) (E:Enc α size)
 (hgd:o.guard=none) (s x:Operand) (ho:o.op = .call { callee := .builtin .append,args:=#[s,x],argTypes:=#[t,t] }) (base:Nat) (v:Value) (xs:List α)
 (hs:a.eval s=v) (hown:Own E e w base v xs) (ad:Addr) (m c:Nat) (ys:List α) (hx:a.eval x = .slice (some ad) m c) (hl:ys.length=m)
 (hc:∀ (j:Nat) (u:Value),(E.all ys)[j]? = some u→w.cell? (ad.add j)=some u) (hb:(xs.length+m)*bytes≤140737488355328) (hb2:xs.length+m≤maxLen) (hbase:base≤w.heap.size)
 (h:∀ (v':Value) (w':World),Own E e w' base v' (xs++ys)→Below base w w'→wpList P ops Q rest (a.put o.dst v') w'):wpList P ops Q (o :: rest) a w:=by
 obtain ⟨z,hi,hz⟩:=EL.inf
 obtain ⟨i,hi1,hi2,hi3,hi4⟩:=info_parts hi
 refine wpList_append_own w hgd s x t ho base e i z size bytes EL.und hi1 hi2 hi3 hi4 hz EL.pos v xs.length (E.all xs) hs hown ad m c (E.all ys) hx (by rw [E.length_all,hl]) hc (E.one_all ys) hb2 hb hbase ?_
 intro v' w' h1 h2 _
 refine h v' w' ?_ ?_
 · unfold Own;rw [E.all_append,List.length_append,hl];exact h1
 · refine Below.grown (Below.refl _ _) h2 hbase ?_
   intro k hk
   exact (World.ownsRow.lt hown k hk).1
theorem cells_new {w:World} (C:Array Value) (t:TypeId) (l:List Value) (hC:C.toList=l) (j:Nat) (u:Value) (hj:l[j]? = some u):(w.alloc (.cells C t)).cell? ((⟨w.heap.size,0,none⟩:Addr).add j)=some u:=by
 rw [Addr.add_mid,Nat.zero_add,World.cell?_alloc_at _ _ _ _ rfl]
 subst hC
 simpa using hj
def encInt (k:IntKind):Enc Int 1:={ f:=fun n=>[.int k n],len:=fun _=>rfl,one:=fun _ u hu=>by simp at hu;subst hu;rfl }
theorem all_encInt (k:IntKind) (l:List Int):(encInt k).all l=l.map (Value.int k):=by
 unfold Enc.all encInt
 induction l with
 | nil=>rfl
 | cons a l ih=>rw [List.flatMap_cons,List.map_cons,ih];rfl
theorem getElem?_map_int (k:IntKind) (xs:List Int) (i:Nat) (h:i<xs.length):(xs.map (Value.int k))[i]? = some (.int k (xs.getD i 0)):=by
 simp [List.getElem?_eq_getElem h,List.getD_eq_getElem?_getD]
theorem Own.intCell {k:IntKind} {e:TypeId} {w:World} {base g cap n:Nat} {xs:List Int} (h:Own (encInt k) e w base (.slice (some ⟨g,0,none⟩) n cap) xs) (i:Nat) (hi:i<xs.length) :
 w.cell? ⟨g,i,none⟩=some (.int k (xs.getD i 0)):=by
 apply Own.cells h;rw [all_encInt];exact getElem?_map_int k xs i hi
theorem Own.some {α : Type} {size:Nat} {E:Enc α size} {e:TypeId} {w:World} {base:Nat} {v:Value} {xs:List α} (h:Own E e w base v xs) (hne:0<xs.length) :
 ∃ g cap,v = .slice (some ⟨g,0,none⟩) xs.length cap∧base≤g∧g<w.heap.size∧xs.length≤cap∧cap≤maxLen:=by
 rcases h.shape with ⟨_,rfl⟩ | h
 · exact absurd hne (by simp)
 · exact h
theorem cell_other {w w':World} {row:Option Nat} (h:w.grownBy w' row) {a:Addr} (hlt:a.block<w.heap.size) (hne:some a.block≠row):w'.cell? a=w.cell? a:=by
 simp only [World.cell?,h.block a.block hlt hne]
theorem grownBy.refl' (w:World) (r:Option Nat):w.grownBy w r:=⟨rfl,rfl,rfl,Nat.le_refl _,fun _ _ _=>rfl⟩
theorem grownBy.trans' {a b c:World} {r:Option Nat} (h:a.grownBy b r) (k:b.grownBy c r):a.grownBy c r :=
 ⟨k.os.trans h.os,k.tape.trans h.tape,k.output.trans h.output,Nat.le_trans h.size k.size,fun j hj hr=>(k.block j (Nat.lt_of_lt_of_le hj h.size) hr).trans (h.block j hj hr)⟩
theorem grownBy.setCell' {a w:World} {b:Nat} (h:a.grownBy w (some b)) (o:Nat) (v:Value):a.grownBy (w.setCell ⟨b,o,none⟩ v) (some b) :=
 ⟨h.os,h.tape,h.output,by simpa using h.size,fun j hj hr=>by
  rw [Below.heap_setCell _ _ _ _ (by intro e;exact hr (by rw [e]))];exact h.block j hj hr⟩
theorem grownBy.drewN' {a w:World} {r:Option Nat} (h:a.grownBy w r) (n:Nat):a.grownBy (w.drewN n) r:=⟨h.os,h.tape,h.output,h.size,h.block⟩
theorem grownBy.below' {a w w':World} {r:Option Nat} (h:a.grownBy w r) (k:Below w.heap.size w w'):a.grownBy w' r :=
 ⟨k.os.trans h.os,k.tape.trans h.tape,k.output.trans h.output,Nat.le_trans h.size k.size,fun j hj hr=>(k.block j (Nat.lt_of_lt_of_le hj h.size)).trans (h.block j hj hr)⟩
theorem Own.keep {α : Type} {size:Nat} {E:Enc α size} {e:TypeId} {w w':World} {base:Nat} {v:Value} {xs:List α} (h:Own E e w base v xs)
 (hk:∀ g,base≤g→g<w.heap.size→v.ownBlock=Option.some g→w'.heap[g]? = w.heap[g]?):Own E e w' base v xs:=by
 refine ⟨h.1, ?_⟩
 rcases h.2 with h | ⟨g,cap,cur,h1,h2,h3,h4⟩
 · exact .inl h
 · refine .inr ⟨g,cap,cur,h1,h2, ?_,h4⟩
   rw [hk g h2 (Array.getElem?_eq_some_iff.1 h3).1 (by rw [h1];rfl)];exact h3
theorem Own.lies {α : Type} {size:Nat} {E:Enc α size} {e:TypeId} {w:World} {base:Nat} {v:Value} {xs:List α} (h:Own E e w base v xs) {g:Nat} (hg:v.ownBlock=Option.some g):base≤g∧∃ cur,w.heap[g]? = Option.some (.cells cur e (0,0)):=by
 rcases h.2 with ⟨h1,_⟩ | ⟨b,cap,cur,h1,h2,h3,_⟩
 · rw [h1] at hg;cases hg
 · rw [h1] at hg;injection hg with hg
   have hg:b=g:=hg
   subst hg;exact ⟨h2,cur,h3⟩
theorem Own.away {α β : Type} {s1 s2:Nat} {E:Enc α s1} {F:Enc β s2} {e f:TypeId} {w:World} {b1 b2:Nat} {u v:Value} {xs:List α} {ys:List β} (h:Own E e w b1 u xs) (k:Own F f w b2 v ys) (hne:e≠f) {g:Nat} (hg:u.ownBlock=Option.some g):Option.some g≠v.ownBlock:=by
 intro hv
 obtain ⟨_,c1,h1⟩:=h.lies hg
 obtain ⟨_,c2,h2⟩:=k.lies hv.symm
 rw [h1] at h2
 injection h2 with h2
 injection h2 with h2 h3
 exact hne h3
def SE {α : Type} {k:Nat} (E:Enc α k) (w:World) (B:Nat) (v:Value) (xs:List α):Prop :=
 ∃ A cap,v = .slice A xs.length cap∧xs.length≤cap∧cap≤maxLen∧(xs=[]∨∃ pb po,A=some ⟨pb,po,none⟩∧pb<B∧∀ (j:Nat) (u:Value),(E.all xs)[j]? = some u→w.cell? ⟨pb,po+j,none⟩=some u)
theorem SE.below {α : Type} {k:Nat} {E:Enc α k} {w w':World} {B C:Nat} {v:Value} {xs:List α} (h:SE E w B v xs) (hb:Below C w w') (hC:B≤C):SE E w' B v xs:=by
 obtain ⟨A,cap,h1,h2,h3,h4⟩:=h
 refine ⟨A,cap,h1,h2,h3,h4.imp id ?_⟩
 rintro ⟨pb,po,e1,e2,e3⟩
 exact ⟨pb,po,e1,e2,fun j x hj=>(hb.cell (p:=⟨pb,po+j,none⟩) (by show pb<C;omega)).trans (e3 j x hj)⟩
theorem SE.mono {α : Type} {k:Nat} {E:Enc α k} {w:World} {B C:Nat} {v:Value} {xs:List α} (h:SE E w B v xs) (hC:B≤C):SE E w C v xs:=by
 obtain ⟨A,cap,h1,h2,h3,h4⟩:=h
 refine ⟨A,cap,h1,h2,h3,h4.imp id ?_⟩
 rintro ⟨pb,po,e1,e2,e3⟩
 exact ⟨pb,po,e1,by omega,e3⟩
theorem SE.lift {α : Type} {k:Nat} {E:Enc α k} {w w':World} {v:Value} {xs:List α} (h:SE E w w.heap.size v xs) (hb:Below w.heap.size w w'):SE E w' w'.heap.size v xs:=(h.below hb (Nat.le_refl _)).mono hb.size
theorem Own.se {α : Type} {k:Nat} {E:Enc α k} {e:TypeId} {w:World} {base:Nat} {v:Value} {xs:List α} (h:Own E e w base v xs):SE E w w.heap.size v xs:=by
 rcases h.shape with ⟨rfl,rfl⟩ | ⟨g,cap,rfl,hg,hl,hc,hm⟩
 · exact ⟨none,0,rfl,Nat.le_refl _,by unfold maxLen;omega,.inl rfl⟩
 · exact ⟨_,_,rfl,hc,hm,.inr ⟨g,0,rfl,hl,fun j u hj=>by rw [Nat.zero_add];exact h.cells j u hj⟩⟩
theorem SE.nil {α : Type} {k:Nat} (E:Enc α k) (w:World) (B:Nat):SE E w B (.slice none 0 0) ([]:List α):=⟨none,0,rfl,Nat.le_refl _,by unfold maxLen;omega,.inl rfl⟩
theorem SE.at {α : Type} {k:Nat} {E:Enc α k} {w:World} {B:Nat} {A:Option Addr} {n cap:Nat} {xs:List α} (h:SE E w B (.slice A n cap) xs) {i:Nat} {x : α} (hi:xs[i]? = some x) :
 ∃ pb po,A=some ⟨pb,po,none⟩∧pb<B∧∀ (j:Nat) (u:Value),(E.f x)[j]? = some u→w.cell? ⟨pb,po+(i*k+j),none⟩=some u:=by
 obtain ⟨A',cap',h1, -, -,h2⟩:=h
 injection h1 with e1 e2 e3
 subst e1
 rcases h2 with rfl | ⟨pb,po,h1,h2,h3⟩
 · simp at hi
 · refine ⟨pb,po,h1,h2,fun j u hj=>h3 _ u ?_⟩
   have hjk:j<k:=by rw [← E.len x];exact (List.getElem?_eq_some_iff.1 hj).1
   rw [E.at xs i j x hi hjk];exact hj
theorem SE.len {α : Type} {k:Nat} {E:Enc α k} {w:World} {B:Nat} {A:Option Addr} {n cap:Nat} {xs:List α} (h:SE E w B (.slice A n cap) xs):xs.length=n∧n≤cap∧cap≤maxLen:=by
 obtain ⟨A',cap',h1,h2,h3, -⟩:=h
 injection h1 with e1 e2 e3
 subst e3;exact ⟨e2.symm,by omega,h3⟩
def RwA {α : Type} {k:Nat} (E:Enc α k) (e:TypeId) (w:World) (g:Nat) (xs:List α):Prop:=∃ cur:Array Value,w.heap[g]? = some (.cells cur e)∧∀ (j:Nat) (u:Value),(E.all xs)[j]? = some u→cur[j]? = some u
theorem RwA.keep {α : Type} {k:Nat} {E:Enc α k} {e:TypeId} {w w':World} {g:Nat} {xs:List α} (h:RwA E e w g xs) (hk:w'.heap[g]? = w.heap[g]?):RwA E e w' g xs:=by
 obtain ⟨cur,h1,h2⟩:=h
 exact ⟨cur,by rw [hk];exact h1,h2⟩
theorem RwA.cell {α : Type} {k:Nat} {E:Enc α k} {e:TypeId} {w:World} {g:Nat} {xs:List α} (h:RwA E e w g xs) (j:Nat) (u:Value) (hj:(E.all xs)[j]? = some u):w.cell? ⟨g,j,none⟩=some u:=by
 obtain ⟨cur,h1,h2⟩:=h
 rw [cell_of_row w g j cur e _ h1];exact h2 j u hj
theorem RwA.melt {α : Type} {k:Nat} {E:Enc α k} {e:TypeId} {w:World} {g:Nat} {xs:List α} (h:RwA E e w g xs) (j:Nat):w.frozen? ⟨g,j,none⟩=false:=by
 obtain ⟨cur,h1,h2⟩:=h
 exact frozen_of_row w g j cur e h1
theorem RwA.lt {α : Type} {k:Nat} {E:Enc α k} {e:TypeId} {w:World} {g:Nat} {xs:List α} (h:RwA E e w g xs):g<w.heap.size:=by
 obtain ⟨cur,h1,h2⟩:=h
 exact (Array.getElem?_eq_some_iff.1 h1).1
theorem Own.rwA {α : Type} {k:Nat} {E:Enc α k} {e:TypeId} {w:World} {base g n cap:Nat} {xs:List α} (h:Own E e w base (.slice (Option.some ⟨g,0,none⟩) n cap) xs):RwA E e w g xs:=by
 obtain ⟨_,cur,h1⟩:=h.lies (g:=g) rfl
 refine ⟨cur,h1,fun j u hj => ?_⟩
 have:=h.cells j u hj
 rwa [cell_of_row w g j cur e _ h1] at this
theorem RwA.se {α : Type} {k:Nat} {E:Enc α k} {e:TypeId} {w:World} {g cap B:Nat} {xs:List α} (h:RwA E e w g xs) (hB:g<B) (h1:xs.length≤cap) (h2:cap≤maxLen):SE E w B (.slice (some ⟨g,0,none⟩) xs.length cap) xs :=
 ⟨_,_,rfl,h1,h2,.inr ⟨g,0,rfl,hB,fun j u hj=>by rw [Nat.zero_add];exact h.cell j u hj⟩⟩
theorem all_set1 {α : Type} (E:Enc α 1) (xs:List α) (i:Nat) (x : α) (u:Value) (hu:E.f x=[u]):E.all (xs.set i x)=(E.all xs).set i u:=by
 unfold Enc.all
 induction xs generalizing i with
 | nil=>rfl
 | cons a t ih =>
   obtain ⟨v,hv⟩:=List.length_eq_one_iff.1 (E.len a)
   cases i with
   | zero=>rw [List.set_cons_zero,List.flatMap_cons,List.flatMap_cons,hu,hv];rfl
   | succ i=>rw [List.set_cons_succ,List.flatMap_cons,List.flatMap_cons,ih,hv];rfl
theorem all_set3 {α : Type} (E:Enc α 3) (xs:List α) (i:Nat) (x : α) (a b c:Value) (hu:E.f x=[a,b,c]):E.all (xs.set i x)=(((E.all xs).set (i*3) a).set (i*3+1) b).set (i*3+2) c:=by
 unfold Enc.all
 induction xs generalizing i with
 | nil=>rfl
 | cons y t ih =>
   obtain ⟨p,q,r,hv⟩:∃ p q r,E.f y=[p,q,r]:=by
    have:=E.len y
    match h:E.f y,this with
    | [p,q,r],_=>exact ⟨p,q,r,rfl⟩
   cases i with
   | zero=>rw [List.set_cons_zero,List.flatMap_cons,List.flatMap_cons,hu,hv];rfl
   | succ i =>
     rw [List.set_cons_succ,List.flatMap_cons,List.flatMap_cons,ih,hv]
     have e0:(i+1)*3=i*3+1+1+1:=by omega
     rw [e0]
     have e1:i*3+1+1+1+1=(i*3+1)+1+1+1:=rfl
     have e2:i*3+1+1+1+2=(i*3+2)+1+1+1:=rfl
     rw [e1,e2]
     rfl
theorem set_read {l:List Value} {cur:Array Value} {i:Nat} {u:Value} (h:∀ (j:Nat) (v:Value),l[j]? = some v→cur[j]? = some v):∀ (j:Nat) (v:Value),(l.set i u)[j]? = some v→(cur.setIfInBounds i u)[j]? = some v:=by
 intro j v hv
 rw [List.getElem?_set] at hv
 rw [Array.getElem?_setIfInBounds]
 by_cases hij:i=j
 · rw [if_pos hij] at hv ⊢
   split at hv
   · rename_i hl
     have hc:=h j _ (List.getElem?_eq_getElem (hij ▸ hl))
     have:=(Array.getElem?_eq_some_iff.1 hc).1
     rw [if_pos (by omega)];exact hv
   · cases hv
 · rw [if_neg hij] at hv ⊢
   exact h j v hv
theorem RwA.set1 {α : Type} {E:Enc α 1} {e:TypeId} {w:World} {g:Nat} {xs:List α} (h:RwA E e w g xs) (i:Nat) (x : α) (u:Value) (hu:E.f x=[u]):RwA E e (w.setCell ⟨g,i,none⟩ u) g (xs.set i x):=by
 obtain ⟨cur,h1,h2⟩:=h
 exact ⟨_,heap_setCell_same w g i cur e u h1,by rw [all_set1 E xs i x u hu];exact set_read h2⟩
theorem RwA.set3 {α : Type} {E:Enc α 3} {e:TypeId} {w:World} {g:Nat} {xs:List α} (h:RwA E e w g xs) (i:Nat) (x : α) (a b c:Value) (hu:E.f x=[a,b,c]):RwA E e (((w.setCell ⟨g,i*3,none⟩ a).setCell ⟨g,i*3+1,none⟩ b).setCell ⟨g,i*3+2,none⟩ c) g (xs.set i x):=by
 obtain ⟨cur,h1,h2⟩:=h
 have k1:=heap_setCell_same w g (i*3) cur e a h1
 have k2:=heap_setCell_same _ g (i*3+1) _ e b k1
 exact ⟨_,heap_setCell_same _ g (i*3+2) _ e c k2,by rw [all_set3 E xs i x a b c hu];exact set_read (set_read (set_read h2))⟩
theorem made_rwA {α : Type} {k:Nat} (E:Enc α k) (e:TypeId) (w:World) (n:Nat) (z : α) (zs:Array Value) (hz:E.f z=zs.toList) (hk:0<k):RwA E e (w.alloc (.cells (madeCells zs (n*k)) e)) w.heap.size (List.replicate n z):=by
 refine ⟨_,(Go.MapKept.heap_alloc w _).1,fun j u hj => ?_⟩
 have hlen:zs.size=k:=by rw [← E.len z,hz];simp
 have hjl:j<n*k:=by
  have:=(List.getElem?_eq_some_iff.1 hj).1
  rwa [E.length_all,List.length_replicate] at this
 obtain ⟨i,m,hm,rfl⟩:∃ i m,m<k∧j=i*k+m:=⟨j / k,j % k,Nat.mod_lt _ hk,by rw [Nat.mul_comm];exact (Nat.div_add_mod j k).symm⟩
 have hin:i<n:=by
  rcases Nat.lt_or_ge i n with h | h
  · exact h
  · have:=Nat.mul_le_mul_right k h;omega
 rw [E.at _ i m z (by rw [List.getElem?_replicate,if_pos hin]) hm,hz] at hj
 unfold madeCells
 rw [Array.getElem?_map,Array.getElem?_range,if_pos hjl]
 have hmod:(i*k+m) % zs.size=m:=by rw [hlen,Nat.add_comm,Nat.add_mul_mod_self_right,Nat.mod_eq_of_lt hm]
 rw [Option.map_some,hmod]
 have hms:m<zs.size:=by omega
 rw [Array.getElem?_toList,Array.getElem?_eq_getElem hms] at hj
 rw [getElem!_pos zs m hms];exact hj
def Zon {α : Type} (P : α → Nat→Nat→Prop):List α → Nat→Nat→Prop
 | [],lo,hi=>lo≤hi
 | x :: xs,lo,hi=>∃ mid,lo≤mid∧P x lo mid∧Zon P xs mid hi
theorem Zon.le {α : Type} {P : α → Nat→Nat→Prop}:∀ {xs:List α} {lo hi:Nat},Zon P xs lo hi→lo≤hi
 | [],_,_,h=>h
 | _ :: xs,_,_,⟨_,h1,_,h3⟩=>Nat.le_trans h1 (Zon.le (xs:=xs) h3)
theorem Zon.snoc {α : Type} {P : α → Nat→Nat→Prop}:∀ {xs:List α} {lo mid hi:Nat} {x : α},Zon P xs lo mid→mid≤hi→P x mid hi→(∀ y a b c,b≤c→a≤b→P y b c→P y a c)→Zon P (xs++[x]) lo hi
 | [],_,_,_,_,h,h1,h2,hm=>⟨_,Nat.le_trans h h1,hm _ _ _ _ h1 h h2,Nat.le_refl _⟩
 | _ :: _,_,_,_,_,⟨m,h3,h4,h5⟩,h1,h2,hm=>⟨m,h3,h4,Zon.snoc h5 h1 h2 hm⟩
theorem Zon.imp {α : Type} {P Q : α → Nat→Nat→Prop}:∀ {xs:List α} {lo hi:Nat},Zon P xs lo hi→(∀ x a b,x∈xs→lo≤a→b≤hi→P x a b→Q x a b)→Zon Q xs lo hi
 | [],_,_,h,_=>h
 | x :: xs,lo,hi,⟨m,h1,h2,h3⟩,hk=>⟨m,h1,hk x lo m (by simp) (Nat.le_refl _) (Zon.le h3) h2,Zon.imp h3 fun y a b hy ha hb=>hk y a b (by simp [hy]) (Nat.le_trans h1 ha) hb⟩
theorem Zon.up {α : Type} {P : α → Nat→Nat→Prop} (hm:∀ y a b c d,a≤b→c≤d→b≤c→P y b c→P y a d):∀ {xs:List α} {lo hi lo' hi':Nat},Zon P xs lo hi→lo'≤lo→hi≤hi'→Zon P xs lo' hi'
 | [],_,_,_,_,h,h1,h2=>Nat.le_trans h1 (Nat.le_trans h h2)
 | x :: _,lo,_,lo',_,⟨m,h3,h4,h5⟩,h1,h2=>⟨m,Nat.le_trans h1 h3,hm x lo' lo m m h1 (Nat.le_refl _) h3 h4,Zon.up hm h5 (Nat.le_refl _) h2⟩
theorem Zon.at {α : Type} {P : α → Nat→Nat→Prop}:∀ {xs:List α} {lo hi:Nat} (_:Zon P xs lo hi) (i:Nat) (x : α) (_:xs[i]? = some x),∃ a b,lo≤a∧a≤b∧b≤hi∧P x a b∧∀ (Q : α → Nat→Nat→Prop) (x' : α),(∀ y u v,y∈xs→lo≤u→v≤hi→(v≤a∨b≤u)→P y u v→Q y u v)→Q x' a b→Zon Q (xs.set i x') lo hi
 | x :: xs,lo,hi,⟨m,h1,h2,h3⟩,0,y,hy=>by
   obtain rfl:x=y:=by simpa using hy
   refine ⟨lo,m,Nat.le_refl _,h1,Zon.le h3,h2,fun Q x' hk hq => ?_⟩
   exact ⟨m,h1,hq,Zon.imp h3 fun z a b hz ha hb hp=>hk z a b (by simp [hz]) (Nat.le_trans h1 ha) hb (.inr ha) hp⟩
 | x :: xs,lo,hi,⟨m,h1,h2,h3⟩,i+1,y,hy=>by
   obtain ⟨a,b,k1,k2,k3,k4,k5⟩:=Zon.at h3 i y (by simpa using hy)
   refine ⟨a,b,Nat.le_trans h1 k1,k2,k3,k4,fun Q x' hk hq => ?_⟩
   exact ⟨m,h1,hk x lo m (by simp) (Nat.le_refl _) (Nat.le_trans k1 (Nat.le_trans k2 k3)) (.inl k1) h2,k5 Q x' (fun z u v hz hu hv hd hp=>hk z u v (by simp [hz]) (Nat.le_trans h1 hu) hv hd hp) hq⟩
theorem ret_int {k:IntKind} {a b:Int} (h:a=b):Ending.returned (.int k a) = .returned (.int k b):=by rw [h]
def sb (s:ByteArray):List Int:=s.data.toList.map (fun b=>(b.toNat:Int))
theorem length_sb (s:ByteArray):(sb s).length=s.size:=by unfold sb;simp
theorem sb_at (s:ByteArray) (k:Nat) (h:k<s.size):(sb s)[k]? = some ((s[k].toNat:Nat):Int):=by
 unfold sb;rw [List.getElem?_map,List.getElem?_eq_getElem (by simpa using h)];rfl
theorem sb_bd (s:ByteArray):∀ a∈sb s,0≤a∧a≤255:=by
 intro a ha;unfold sb at ha;rw [List.mem_map] at ha;obtain ⟨b,_,rfl⟩:=ha
 have:=b.toNat_lt;omega
theorem sb_getD (s:ByteArray) (k:Nat) (h:k<s.size):(sb s).getD k 0=((s[k].toNat:Nat):Int):=by
 rw [List.getD_eq_getElem?_getD,sb_at s k h];rfl
def Bytes (l:List Int):Prop:=∀ a∈l,0≤a∧a≤255
theorem Bytes.append {a b:List Int} (h:Bytes a) (k:Bytes b):Bytes (a++b):=by
 intro x hx;rw [List.mem_append] at hx;rcases hx with hx | hx
 · exact h x hx
 · exact k x hx
theorem Bytes.nil:Bytes []:=by intro a ha;simp at ha
theorem sb_str (l:List Int) (h:Bytes l):sb (strOfNums l)=l:=by
 unfold sb
 rw [strOfNums_data,List.map_map]
 conv=>rhs;rw [← List.map_id l]
 apply List.map_congr_left
 intro a ha
 have:=h a ha
 simp only [Function.comp,id]
 rw [UInt8.toNat_ofNat_of_lt' (by show a.toNat<256;omega)];omega
theorem str_sb (s:ByteArray):strOfNums (sb s)=s:=by
 have:(strOfNums (sb s)).data=s.data:=by
  apply Array.toList_inj.1
  rw [strOfNums_data]
  unfold sb
  rw [List.map_map]
  conv=>rhs;rw [← List.map_id s.data.toList]
  apply List.map_congr_left
  intro a _
  simp only [Function.comp,id,Int.toNat_natCast]
  exact UInt8.ofNat_toNat
 cases s with
 | mk d => 
   cases hq:strOfNums (sb ⟨d⟩) with
   | mk e=>rw [hq] at this;simp only at this;rw [this]
def isCap (c:Int):Bool:=decide (65≤c∧c≤90)
def isLet (c:Int):Bool:=decide (65≤c∧c≤90∨97≤c∧c≤122)
def isNum (c:Int):Bool:=decide (48≤c∧c≤57)
theorem ret_bool {a b:Bool} (h:a=b):Ending.returned (.bool a) = .returned (.bool b):=by rw [h]
theorem isCap_t {c:Int} (h:65≤c) (h2:c≤90):isCap c=true:=by unfold isCap;rw [decide_eq_true_iff];omega
theorem isCap_f {c:Int} (h:c<65∨90<c):isCap c=false:=by unfold isCap;rw [decide_eq_false_iff_not];omega
def inName (j:Nat) (c:Int):Bool:=isLet c||(decide (0<j)&&isNum c)
def nameL (l:List Int):Bool:=decide (∀ j,j<l.length→inName j (l.getD j 0)=true)&&decide (1≤l.length∧l.length≤12)
def colL (n:Int):List Int:=if n<0∨701<n then [] else if n<26 then [65+n] else [64+n / 26,65+n % 26]
def isCol (l:List Int):Bool:=decide (1≤l.length∧l.length≤2)&&(isCap (l.getD 0 0)&&isCap (l.getD (l.length - 1) 0))
def readColL (l:List Int):Int:=if isCol l=true then (if l.length=1 then l.getD 0 0 - 65 else 26*(l.getD 0 0 - 64)+(l.getD 1 0 - 65)) else 0
theorem nameL_bad (s:ByteArray) (k:Nat) (hk:k<s.size) (h:inName k ((sb s).getD k 0)=false):nameL (sb s)=false:=by
 unfold nameL
 rw [decide_eq_false (by intro hc;have:=hc k (by rw [length_sb];exact hk);rw [h] at this;cases this),Bool.false_and]
theorem nameL_all (s:ByteArray) (h:∀ j,j<s.size→inName j ((sb s).getD j 0)=true):nameL (sb s)=decide (1≤s.size∧s.size≤12):=by
 unfold nameL
 rw [decide_eq_true (by rw [length_sb];exact h),Bool.true_and,length_sb]
theorem str_append (a b:List Int):strOfNums a++strOfNums b=strOfNums (a++b):=by
 have h:(strOfNums a++strOfNums b).data=(strOfNums (a++b)).data:=by
  apply Array.toList_inj.1
  rw [ByteArray.data_append,Array.toList_append,strOfNums_data,strOfNums_data,strOfNums_data,List.map_append]
 cases hx:strOfNums a++strOfNums b with
 | mk d =>
   cases hy:strOfNums (a++b) with
   | mk e=>rw [hx,hy] at h;simp only at h;rw [h]
theorem sb_append (a b:ByteArray):sb (a++b)=sb a++sb b:=by
 unfold sb;rw [ByteArray.data_append,Array.toList_append,List.map_append]
theorem ret_str {a b:ByteArray} (h:a=b):Ending.returned (.string a) = .returned (.string b):=by rw [h]
theorem val_str {a b:ByteArray} (h:a=b):Value.string a = .string b:=by rw [h]
def digL (u:Nat):List Int:=if u<10 then [48+(u:Int)] else digL (u / 10)++[48+((u % 10:Nat):Int)]
termination_by u
decreasing_by omega
theorem digL_small (u:Nat) (h:u<10):digL u=[48+(u:Int)]:=by rw [digL,if_pos h]
theorem digL_more (u:Nat) (h:¬ u<10):digL u=digL (u / 10)++[48+((u % 10:Nat):Int)]:=by rw [digL,if_neg h]
def decL (n:Int):List Int:=if n<0 then 45 :: digL n.natAbs else digL n.natAbs
def mayL (sh:List Int) (c r:Int):Bool:=(decide (sh=[])||nameL sh)&&decide (0≤c∧c≤701∧0≤r∧r≤998)
def textL (sh:List Int) (c r:Int) (ac ar:Bool):List Int :=
 if mayL sh c r=true then (((if sh=[] then [] else sh++[33])++(if ac=true then [36] else []))++colL c++(if ar=true then [36] else []))++digL (r+1).toNat else []
theorem list_bytes (a:ByteArray):a.toList=a.data.toList:=ByteArray.toList_eq a
theorem text_ne (a b:ByteArray) (h:¬ a=b):¬ a.toList=b.toList:=by
 rw [list_bytes,list_bytes,Array.toList_inj]
 intro hd;apply h
 cases a;cases b;simp only at hd;rw [hd]
theorem text_ne0 (a:ByteArray) (h:¬ a.size=0):¬ a.toList=[]:=by
 rw [list_bytes]
 intro hd;apply h
 show a.data.size=0
 rw [← Array.length_toList,hd];rfl
theorem sb_nil (s:ByteArray) (h:s.size=0):s=⟨#[]⟩:=by
 cases s with
 | mk d => have:d=#[]:=Array.eq_empty_of_size_eq_zero h
           rw [this]
theorem length_colL (n:Int):(colL n).length≤2:=by unfold colL;split <;> (try split) <;> simp
theorem length_digL (u:Nat):(digL u).length≤u+1:=by
 induction u using Nat.strongRecOn with
 | _ u ih =>
   by_cases h:u<10
   · rw [digL_small u h];simp
   · rw [digL_more u h,List.length_append]
     have:=ih (u / 10) (by omega)
     simp only [List.length_cons,List.length_nil];omega
theorem mayL_parts {sh:List Int} {c r:Int} (h:mayL sh c r=true):0≤c∧c≤701∧0≤r∧r≤998:=by
 unfold mayL at h;rw [Bool.and_eq_true,decide_eq_true_iff] at h;exact h.2
theorem below3 {w w0 w1 w2 w3:World} (h0:Below w.heap.size w w0) (h1:Below w0.heap.size w0 w1) (h2:Below w1.heap.size w1 w2) (h3:Below w2.heap.size w2 w3):Below w.heap.size w w3:=by
 have b1:=h0.trans (h1.mono h0.size)
 have b2:=b1.trans (h2.mono b1.size)
 exact b2.trans (h3.mono b2.size)
theorem span_unique (p:Int→Bool):∀ (a a' b b':List Int),(∀ x∈a,p x=true)→(∀ x∈a',p x=true)→(∀ x,b.head? = some x→p x=false)→(∀ x,b'.head? = some x→p x=false)→a++b=a'++b'→a=a'∧b=b'
 | [],[],_,_,_,_,_,_,h=>⟨rfl,h⟩
 | [],x :: a',b,b',_,h2,h3,_,h=>by
   rw [List.nil_append] at h
   have:=h3 x (by rw [h];rfl)
   rw [h2 x (by simp)] at this;cases this
 | x :: a,[],b,b',h1,_,_,h4,h=>by
   rw [List.nil_append] at h
   have:=h4 x (by rw [← h];rfl)
   rw [h1 x (by simp)] at this;cases this
 | x :: a,y :: a',b,b',h1,h2,h3,h4,h=>by
   rw [List.cons_append,List.cons_append] at h
   injection h with e h
   obtain ⟨r1,r2⟩:=span_unique p a a' b b' (fun z hz=>h1 z (by simp [hz])) (fun z hz=>h2 z (by simp [hz])) h3 h4 h
   exact ⟨by rw [e,r1],r2⟩
theorem isCap_colL (c:Int):∀ x∈colL c,isCap x=true:=by
 intro x hx
 unfold colL at hx
 split at hx
 · simp at hx
 · split at hx
   · simp at hx;subst hx;exact isCap_t (by omega) (by omega)
   · simp at hx
     rcases hx with rfl | rfl
     · exact isCap_t (by omega) (by omega)
     · exact isCap_t (by omega) (by omega)
theorem readCol_colL (c:Int) (h0:0≤c) (h1:c≤701):isCol (colL c)=true∧readColL (colL c)=c:=by
 have hcap:=isCap_colL c
 by_cases h:c<26
 · have e:colL c=[65+c]:=by unfold colL;rw [if_neg (by omega),if_pos h]
   have hc:isCol (colL c)=true:=by rw [e] at hcap ⊢;unfold isCol;have:=hcap (65+c) (by simp);simp [this]
   refine ⟨hc, ?_⟩
   unfold readColL;rw [if_pos hc,e];simp;omega
 · have e:colL c=[64+c / 26,65+c % 26]:=by unfold colL;rw [if_neg (by omega),if_neg h]
   have hc:isCol (colL c)=true:=by rw [e] at hcap ⊢;unfold isCol;have g1:=hcap (64+c / 26) (by simp);have g2:=hcap (65+c % 26) (by simp);simp [g1,g2]
   refine ⟨hc, ?_⟩
   unfold readColL;rw [if_pos hc,e];simp;omega
theorem cap_bd {x:Int} (h:isCap x=true):65≤x∧x≤90:=by unfold isCap at h;rw [decide_eq_true_iff] at h;exact h
theorem num_bd {x:Int} (h:isNum x=true):48≤x∧x≤57:=by unfold isNum at h;rw [decide_eq_true_iff] at h;exact h
theorem colL_readCol (l:List Int) (h:isCol l=true):colL (readColL l)=l∧0≤readColL l∧readColL l≤701:=by
 have hr:readColL l=(if l.length=1 then l.getD 0 0 - 65 else 26*(l.getD 0 0 - 64)+(l.getD 1 0 - 65)):=by unfold readColL;rw [if_pos h]
 unfold isCol at h
 rw [Bool.and_eq_true,Bool.and_eq_true,decide_eq_true_iff] at h
 obtain ⟨⟨h1,h2⟩,h3,h4⟩:=h
 match l,h1,h2,h3,h4,hr with
 | [a],_,_,h3,_,hr =>
   have:=cap_bd h3
   simp at this hr
   rw [hr]
   refine ⟨?_,by omega,by omega⟩
   unfold colL;rw [if_neg (by omega),if_pos (by omega)];congr 1;omega
 | [a,b],_,_,h3,h4,hr =>
   have g1:=cap_bd h3
   have g2:=cap_bd h4
   simp at g1 g2 hr
   rw [hr]
   refine ⟨?_,by omega,by omega⟩
   unfold colL;rw [if_neg (by omega),if_neg (by omega)];congr 1
   · omega
   · congr 1;omega
theorem isNum_digL (u:Nat):∀ x∈digL u,isNum x=true:=by
 induction u using Nat.strongRecOn with
 | _ u ih =>
   intro x hx
   by_cases h:u<10
   · rw [digL_small u h] at hx;simp at hx;subst hx;unfold isNum;rw [decide_eq_true_iff];omega
   · rw [digL_more u h,List.mem_append] at hx
     rcases hx with hx | hx
     · exact ih (u / 10) (by omega) x hx
     · simp at hx;subst hx;unfold isNum;rw [decide_eq_true_iff];omega
def valL (l:List Int):Int:=l.foldl (fun n d=>10*n+(d - 48)) 0
theorem valL_snoc (l:List Int) (d:Int):valL (l++[d])=10*valL l+(d - 48):=by unfold valL;rw [List.foldl_append];rfl
theorem valL_digL (u:Nat):valL (digL u)=u:=by
 induction u using Nat.strongRecOn with
 | _ u ih =>
   by_cases h:u<10
   · rw [digL_small u h];unfold valL;simp;omega
   · rw [digL_more u h,valL_snoc,ih (u / 10) (by omega)];omega
theorem digL_ne (u:Nat):digL u≠[]:=by
 by_cases h:u<10
 · rw [digL_small u h];simp
 · rw [digL_more u h];simp
theorem colL_ne (c:Int) (h0:0≤c) (h1:c≤701):colL c≠[]:=by
 unfold colL;rw [if_neg (by omega)];split <;> simp
def dol (b:Bool):List Int:=if b=true then [36] else []
theorem dol_all (b:Bool):∀ x∈dol b,decide (x=36)=true:=by cases b <;> simp [dol]
theorem dol_inj {a b:Bool} (h:dol a=dol b):a=b:=by cases a <;> cases b <;> simp [dol] at h ⊢
def tailL (c r:Int) (ac ar:Bool):List Int:=dol ac++(colL c++(dol ar++digL (r+1).toNat))
theorem head_append {a b:List Int} (h:a≠[]) {x:Int} (hx:(a++b).head? = some x):x∈a:=by
 cases a with
 | nil=>exact absurd rfl h
 | cons y a=>simp at hx;subst hx;simp
theorem tail_inj {c r c' r':Int} {ac ar ac' ar':Bool} (h0:0≤c) (h1:c≤701) (h2:0≤r) (k0:0≤c') (k1:c'≤701) (k2:0≤r') (h:tailL c r ac ar=tailL c' r' ac' ar'):c=c'∧r=r'∧ac=ac'∧ar=ar':=by
 unfold tailL at h
 have no36:∀ x,isCap x=true→decide (x=36)=false:=by intro x hx;have:=cap_bd hx;rw [decide_eq_false_iff_not];omega
 have no36n:∀ x,isNum x=true→decide (x=36)=false:=by intro x hx;have:=num_bd hx;rw [decide_eq_false_iff_not];omega
 have noCap:∀ (b:Bool) (u:Nat) (x:Int),(dol b++digL u).head? = some x→isCap x=false:=by
  intro b u x hx
  cases b with
  | true=>simp [dol] at hx;subst hx;decide
  | false =>
    have hx':(digL u++[]).head? = some x:=by simpa [dol] using hx
    have:=num_bd (isNum_digL u x (head_append (digL_ne u) hx'))
    exact isCap_f (by omega)
 obtain ⟨e1,e2⟩:=span_unique (fun x=>decide (x=36)) _ _ _ _ (dol_all ac) (dol_all ac')
  (fun x hx=>no36 x (isCap_colL c x (head_append (colL_ne c h0 h1) hx))) (fun x hx=>no36 x (isCap_colL c' x (head_append (colL_ne c' k0 k1) hx))) h
 obtain ⟨e3,e4⟩:=span_unique isCap _ _ _ _ (isCap_colL c) (isCap_colL c') (noCap ar _) (noCap ar' _) e2
 obtain ⟨e5,e6⟩:=span_unique (fun x=>decide (x=36)) _ _ _ _ (dol_all ar) (dol_all ar')
  (fun x hx=>no36n x (isNum_digL _ x (head_append (digL_ne _) (by rw [List.append_nil];exact hx)))) (fun x hx=>no36n x (isNum_digL _ x (head_append (digL_ne _) (by rw [List.append_nil];exact hx)))) e4
 refine ⟨?_, ?_,dol_inj e1,dol_inj e5⟩
 · rw [← (readCol_colL c h0 h1).2, ← (readCol_colL c' k0 k1).2,e3]
 · have:=valL_digL (r+1).toNat
   rw [e6,valL_digL] at this;omega
theorem tail_no33 (c r:Int) (ac ar:Bool):∀ x∈tailL c r ac ar,x≠33:=by
 intro x hx
 unfold tailL at hx
 simp only [List.mem_append] at hx
 rcases hx with h | h | h | h
 · have:=dol_all _ x h;rw [decide_eq_true_iff] at this;omega
 · have:=cap_bd (isCap_colL c x h);omega
 · have:=dol_all _ x h;rw [decide_eq_true_iff] at this;omega
 · have:=num_bd (isNum_digL _ x h);omega
theorem name_no33 (l:List Int) (h:nameL l=true):∀ x∈l,x≠33:=by
 intro x hx
 unfold nameL at h
 rw [Bool.and_eq_true,decide_eq_true_iff] at h
 obtain ⟨j,hj,rfl⟩:=List.mem_iff_getElem.1 hx
 have:=h.1 j hj
 rw [List.getD_eq_getElem?_getD,List.getElem?_eq_getElem hj] at this
 simp only [Option.getD_some] at this
 unfold inName isLet isNum at this
 simp only [Bool.or_eq_true,Bool.and_eq_true,decide_eq_true_iff] at this
 omega
theorem mayL_sheet {sh:List Int} {c r:Int} (h:mayL sh c r=true):sh=[]∨nameL sh=true:=by
 unfold mayL at h;rw [Bool.and_eq_true,Bool.or_eq_true,decide_eq_true_iff] at h;exact h.1
theorem mayL_nums {sh:List Int} {c r:Int} (h:mayL sh c r=true):0≤c∧c≤701∧0≤r∧r≤998:=by
 unfold mayL at h;rw [Bool.and_eq_true,decide_eq_true_iff] at h;exact h.2
theorem textL_eq (sh:List Int) (c r:Int) (ac ar:Bool) (h:mayL sh c r=true):textL sh c r ac ar=(if sh=[] then [] else sh++[33])++tailL c r ac ar:=by
 unfold textL tailL dol;rw [if_pos h];simp only [List.append_assoc]
theorem textL_inj {sh sh':List Int} {c r c' r':Int} {ac ar ac' ar':Bool} (h:mayL sh c r=true) (k:mayL sh' c' r'=true) (e:textL sh c r ac ar=textL sh' c' r' ac' ar') :
 sh=sh'∧c=c'∧r=r'∧ac=ac'∧ar=ar':=by
 obtain ⟨h0,h1,h2,_⟩:=mayL_nums h
 obtain ⟨k0,k1,k2,_⟩:=mayL_nums k
 rw [textL_eq _ _ _ _ _ h,textL_eq _ _ _ _ _ k] at e
 by_cases hs:sh=[]
 · by_cases ks:sh'=[]
   · rw [if_pos hs,if_pos ks] at e
     exact ⟨by rw [hs,ks],tail_inj h0 h1 h2 k0 k1 k2 e⟩
   · rw [if_pos hs,if_neg ks,List.nil_append] at e
     exact absurd rfl (tail_no33 c r ac ar 33 (by rw [e];simp))
 · by_cases ks:sh'=[]
   · rw [if_neg hs,if_pos ks,List.nil_append] at e
     exact absurd rfl (tail_no33 c' r' ac' ar' 33 (by rw [← e];simp))
   · rw [if_neg hs,if_neg ks,List.append_assoc,List.append_assoc] at e
     have n1:=(mayL_sheet h).resolve_left hs
     have n2:=(mayL_sheet k).resolve_left ks
     obtain ⟨e1,e2⟩:=span_unique (fun x=>decide (x≠33)) _ _ _ _ (fun x hx=>by rw [decide_eq_true_iff];exact name_no33 _ n1 x hx) (fun x hx=>by rw [decide_eq_true_iff];exact name_no33 _ n2 x hx)
      (fun x hx=>by simp at hx;subst hx;rfl) (fun x hx=>by simp at hx;subst hx;rfl) e
     exact ⟨e1,tail_inj h0 h1 h2 k0 k1 k2 (by injection e2)⟩
def dg1 (k:Nat):List Int:=[48+(k:Int)]
def txB (n:Nat):List Int :=
 if n % 13≤2 then []
 else if n % 13≤4 then dg1 (n / 13 % 9)
 else if n % 13=5 then [39,97+((n / 13 % 5:Nat):Int)]
 else if n % 13=6 then [61,65]++dg1 (1+n / 13 % 5)
 else if n % 13=7 then [61,66]++dg1 (1+n / 13 % 4)++[43,49]
 else if n % 13=8 then [61,83,85,77,40,65,49,58,66]++dg1 (1+n / 13 % 5)++[41]
 else if n % 13=9 then [61,66,33]++[65+((n / 13 % 4:Nat):Int)]++[50,42,50]
 else if n % 13=10 then [61,73,70,40,36,65,36,49,62,50,44,67]++dg1 (1+n / 13 % 4)++[44,34,120,34,41]
 else if n % 13=11 then [61,67,33,65,49,38,34,121,34]
 else [61,49,47]++dg1 (n / 13 % 2)
structure Shp where
 nm:ByteArray
 cols:Int
 rows:List (List ByteArray)
def ltB (m i:Nat):Int:=65+((i+m / 64*i:Nat):Int)
def nmB (m i:Nat):ByteArray:=strOfNums [ltB m i]
def cellS (ns:List Int) (k:Nat):ByteArray:=match ns[k]? with
 | some x=>strOfNums (txB x.toNat)
 | none=>⟨#[]⟩
def rowS (ns:List Int) (C k:Nat):List ByteArray:=(List.range C).map fun c=>cellS ns (k+c)
def rowsS (ns:List Int) (R C k:Nat):List (List ByteArray):=(List.range R).map fun r=>rowS ns C (k+r*C)
def shS (ns:List Int) (m i R C:Nat):Shp:=⟨nmB m i,(C:Int),rowsS ns R C (i*(R*C))⟩
def nS (m:Nat):Nat:=1+m % 3
def nC (m:Nat):Nat:=1+m / 3 % 4
def nR (m:Nat):Nat:=1+m / 12 % 5
def bookS (ns:List Int) (m:Nat):List Shp:=(List.range (nS m)).map fun i=>shS ns m i (nR m) (nC m)
theorem length_rowS (ns:List Int) (C k:Nat):(rowS ns C k).length=C:=by unfold rowS;rw [List.length_map,List.length_range]
theorem length_rowsS (ns:List Int) (R C k:Nat):(rowsS ns R C k).length=R:=by unfold rowsS;rw [List.length_map,List.length_range]
theorem length_bookS (ns:List Int) (m:Nat):(bookS ns m).length=nS m:=by unfold bookS;rw [List.length_map,List.length_range]
theorem name_one (c:Int) (h0:65≤c) (h1:c≤90):nameL [c]=true:=by
 obtain ⟨k,hk,rfl⟩:∃ k:Nat,k<26∧c=65+(k:Int):=⟨(c - 65).toNat,by omega,by omega⟩
 have key:∀ k:Nat,k<26→nameL [65+(k:Int)]=true:=by decide
 exact key k hk
theorem lt_bd (m i:Nat) (hm:m<256) (hi:i<3):65≤ltB m i∧ltB m i≤73:=by
 unfold ltB
 have h4:m / 64≤3:=by omega
 have:m / 64*i≤3*2:=Nat.mul_le_mul h4 (by omega)
 omega
theorem lt_up (m i j:Nat) (h:i<j):ltB m i<ltB m j:=by
 unfold ltB
 have:m / 64*i≤m / 64*j:=Nat.mul_le_mul_left _ (by omega)
 omega
theorem nS_le (m:Nat):1≤nS m∧nS m≤3:=by unfold nS;omega
theorem nC_le (m:Nat):1≤nC m∧nC m≤4:=by unfold nC;omega
theorem nR_le (m:Nat):1≤nR m∧nR m≤5:=by unfold nR;omega
def rowUpto (ns:List Int) (C k c:Nat):List ByteArray:=(List.range C).map fun j=>if j<c then cellS ns (k+j) else ⟨#[]⟩
theorem rowUpto_zero (ns:List Int) (C k:Nat):rowUpto ns C k 0=List.replicate C ⟨#[]⟩:=by
 unfold rowUpto
 refine List.ext_getElem (by simp) fun j h1 h2 => ?_
 simp
theorem rowUpto_next (ns:List Int) (C k c:Nat) (x:Int) (hx:ns[k+c]? = some x):(rowUpto ns C k c).set c (strOfNums (txB x.toNat))=rowUpto ns C k (c+1):=by
 unfold rowUpto
 refine List.ext_getElem (by simp) fun j h1 h2 => ?_
 rw [List.getElem_set]
 by_cases hj:c=j
 · subst hj
   rw [if_pos rfl]
   simp [cellS,hx]
 · rw [if_neg hj]
   simp only [List.getElem_map,List.getElem_range]
   by_cases h3:j<c
   · rw [if_pos h3,if_pos (by omega)]
   · rw [if_neg h3,if_neg (by omega)]
theorem rowUpto_end (ns:List Int) (C k c:Nat) (h:c=C∨ns.length≤k+c):rowUpto ns C k c=rowS ns C k:=by
 unfold rowUpto rowS
 refine List.map_congr_left fun j hj => ?_
 rw [List.mem_range] at hj
 by_cases h3:j<c
 · rw [if_pos h3]
 · rw [if_neg h3]
   unfold cellS
   rw [List.getElem?_eq_none (by omega)]
theorem wpList_app_at {P:Program} {α : Type} {size t e bytes:Nat} {w:World} {ops:Array Oper} {rest:List Oper} {o:Oper} {a:Act} {Q:Exit→Act→World→Prop} (EL:Elem P t e size bytes) (E:Enc α size)
 (hgd:o.guard=none) (s x:Operand) (ho:o.op = .call { callee := .builtin .append,args:=#[s,x],argTypes:=#[t,t] }) (base:Nat) (v:Value) (xs:List α)
 (hs:a.eval s=v) (hown:Own E e w base v xs) (ad:Addr) (m c:Nat) (ys:List α) (hx:a.eval x = .slice (some ad) m c) (hl:ys.length=m)
 (hc:∀ (j:Nat) (u:Value),(E.all ys)[j]? = some u→w.cell? (ad.add j)=some u) (hb:(xs.length+m)*bytes≤140737488355328) (hb2:xs.length+m≤maxLen) (hbase:base≤w.heap.size)
 (h:∀ (v':Value) (w':World),Own E e w' base v' (xs++ys)→w.grownBy w' v.ownBlock→(v'.ownBlock=v.ownBlock∨v'.ownBlock=some w.heap.size)→wpList P ops Q rest (a.put o.dst v') w'):wpList P ops Q (o :: rest) a w:=by
 obtain ⟨z,hi,hz⟩:=EL.inf
 obtain ⟨i,hi1,hi2,hi3,hi4⟩:=info_parts hi
 refine wpList_append_own_at w hgd s x t ho base e i z size bytes EL.und hi1 hi2 hi3 hi4 hz EL.pos v xs.length (E.all xs) hs hown ad m c (E.all ys) hx (by rw [E.length_all,hl]) hc (E.one_all ys) hb2 hb hbase ?_
 intro v' w' h1 h2 _ h4
 refine h v' w' ?_ h2 h4
 unfold Own;rw [E.all_append,List.length_append,hl];exact h1
theorem step_app_at {P:Program} {α : Type} {size t e bytes:Nat} {w:World} {ops:Array Oper} {o:Oper} {a:Act} {K:Act→World→Prop} {Q:Exit→Act→World→Prop} {F:Prop} (EL:Elem P t e size bytes) (E:Enc α size)
 (hgd:o.guard=none) (s x:Operand) (ho:o.op = .call { callee := .builtin .append,args:=#[s,x],argTypes:=#[t,t] }) (base:Nat) (v:Value) (xs:List α)
 (hs:a.eval s=v) (hown:Own E e w base v xs) (ad:Addr) (m c:Nat) (ys:List α) (hx:a.eval x = .slice (some ad) m c) (hl:ys.length=m)
 (hc:∀ (j:Nat) (u:Value),(E.all ys)[j]? = some u→w.cell? (ad.add j)=some u) (hb:(xs.length+m)*bytes≤140737488355328) (hb2:xs.length+m≤maxLen) (hbase:base≤w.heap.size)
 (h:∀ (v':Value) (w':World),Own E e w' base v' (xs++ys)→w.grownBy w' v.ownBlock→(v'.ownBlock=v.ownBlock∨v'.ownBlock=some w.heap.size)→K (a.put o.dst v') w') :
 if Region.wanted o (yielded ops a.tmps)=true then Oper.wp P o a w K Q else F:=by
 have hw:Region.wanted o (yielded ops a.tmps)=true:=by simp [Region.wanted,hgd]
 rw [if_pos hw]
 obtain ⟨z,hi,hz⟩:=EL.inf
 obtain ⟨i,hi1,hi2,hi3,hi4⟩:=info_parts hi
 obtain ⟨v',w',hrun,r1,r2,_,r4⟩:=run_append_own_at (P:=P) w base t o.type e i z size bytes EL.und hi1 hi2 hi3 hi4 hz EL.pos v xs.length (E.all xs) hown ad m c (E.all ys) (by rw [E.length_all,hl]) hc (E.one_all ys) hb2 hb hbase
 unfold Oper.wp
 simp [execOp,ho,resolve,invoke,builtin,hs,hx,hrun,Result.andThen]
 refine h v' w' ?_ r2 r4
 unfold Own;rw [E.all_append,List.length_append,hl];exact r1
theorem Elem.u8:Elem Tryz.prog 22 5 1 1:=⟨Tryz.underlying22,⟨.int .u8 0,by kernel_rfl,rfl⟩,by decide⟩
abbrev Own8 (w:World) (base:Nat) (v:Value) (xs:List Int):Prop:=Own (encInt .u8) 5 w base v xs
theorem run_str8 {w:World} {base:Nat} {v:Value} {xs:List Int} (h:Own8 w base v xs):(convert 22 9 v).run Tryz.prog w = .ok (.string (strOfNums xs)) w:=by
 rcases h.shape with ⟨rfl,rfl⟩ | ⟨g,cap,rfl,h1,h2,h3,h4⟩
 · rw [run_convert_bytes_nil w _ 5 Tryz.underlying22 Tryz.underlying5 _ _ _ Tryz.underlying9];rfl
 · refine run_convert_bytes_arg w _ 5 Tryz.underlying22 Tryz.underlying5 g 0 _ cap xs rfl (fun i hi => ?_) _ Tryz.underlying9
   rw [Nat.zero_add];exact h.intCell i hi
theorem run_app_src {P:Program} {α : Type} {size t tx ty e bytes:Nat} {w:World} (EL:Elem P t e size bytes) (E:Enc α size) (base:Nat) (v:Value) (xs:List α) (hown:Own E e w base v xs)
 (x:Value) (m:Nat) (ys:List α) (hl:ys.length=m) (hs:Src P size tx x m (E.all ys) w) (hb:(xs.length+m)*bytes≤140737488355328) (hb2:xs.length+m≤maxLen) (hbase:base≤w.heap.size) :
 ∃ v' w',(Builtin.append_ #[t,tx] ty #[v,x]).run P w = .ok v' w'∧Own E e w' base v' (xs++ys)∧Below base w w':=by
 obtain ⟨z,hi,hz⟩:=EL.inf
 obtain ⟨i,hi1,hi2,hi3,hi4⟩:=info_parts hi
 have ht:=EL.und
 subst hi3
 subst hi4
 have hlx:=E.length_all xs
 have hly:=E.length_all ys
 rw [hl] at hly
 have hlen:(E.all (xs++ys)).length=(xs.length+m)*i.size:=by rw [E.length_all,List.length_append,hl]
 have hsmall:xs.length+m≤9223372036854775807:=by simp only [maxLen] at hb2;omega
 have grown:∀ (old:Nat),old<xs.length+m →
  Own E e (w.drew.alloc (.cells ((E.all xs++E.all ys).toArray++Builtin.zeroCells z.cells (grownCap w (xs.length+m) old e - (xs.length+m))) e)) base (.slice (some ⟨w.heap.size,0,none⟩) (xs.length+m) (grownCap w (xs.length+m) old e)) (xs++ys) ∧
  Below base w (w.drew.alloc (.cells ((E.all xs++E.all ys).toArray++Builtin.zeroCells z.cells (grownCap w (xs.length+m) old e - (xs.length+m))) e)):=by
  intro old ho
  have hge:=grownCap_ge w (xs.length+m) old e
  have hcm:grownCap w (xs.length+m) old e≤maxLen:=grownCap_le_maxLen w (xs.length+m) old e hb2
  refine ⟨?_,((Below.refl _ _).drew).alloc hbase _⟩
  unfold Own
  rw [List.length_append,hl]
  refine ⟨hlen,.inr ⟨w.heap.size,_,_,rfl,hbase,heap_alloc_new w.drew _,hge,hcm, ?_, ?_⟩⟩
  · simp only [Array.size_append,List.size_toArray,size_zeroCells,hz,List.length_append,hlx,hly, ← Nat.add_mul]
    congr 1
    omega
  · simp only [Array.toList_append]
    rw [← E.all_append, ← hlen]
    exact List.take_left
 have h0:=hown
 rcases hown.2 with ⟨rfl,hn⟩ | ⟨g,cap,cur,rfl,hbg,hg,hnc,hcm,hcs,htake⟩
 · have hx:xs=[]:=List.eq_nil_of_length_eq_zero hn
   subst hx
   by_cases hm:m=0
   · subst hm
     have hy:ys=[]:=List.eq_nil_of_length_eq_zero hl
     subst hy
     refine ⟨.slice none 0 0,w, ?_,Own.nil E e w base,Below.refl _ _⟩
     have hc:=hs.cells
     have hll:=hs.len
     have hc':(Builtin.firstCells i.size 0 x).run P w = .ok #[] w:=hc
     rcases hs.kind with ⟨e',hk⟩ | hk <;>
      simp [Builtin.append_,run_underlying ht,run_underlying hk,sizeOf,typeInfo,hi1,hll,hc']
   · have hgr:=grown 0 (by simp;omega)
     have hr:=run_append_grow_src (P:=P) w t tx ty e i z ht hi1 hi2 none 0 0 [] (by simp [Builtin.firstCells]) x m (E.all ys) hs (by omega) (by simp at hsmall;omega) (growslice_fits (by omega) (by simpa using hb))
     simp only [List.length_nil,Nat.zero_add,List.nil_append,Enc.all,List.flatMap_nil] at hgr hr ⊢
     exact ⟨_,_,hr,hgr.1,hgr.2⟩
 · by_cases hroom:xs.length+m≤cap
   · have hfit:xs.length*i.size+(E.all ys).length≤cur.size:=by rw [hly,hcs, ← Nat.add_mul];exact Nat.mul_le_mul_right _ hroom
     have hst:=run_storeCells_at P g (xs.length*i.size) e (E.all ys) 0 cur w hg (by omega) (E.one_all ys)
     simp only [Nat.add_zero] at hst
     refine ⟨.slice (some ⟨g,0,none⟩) (xs.length+m) cap,w.setRow g (cur.toList.take (xs.length*i.size)++E.all ys++cur.toList.drop (xs.length*i.size+(E.all ys).length)).toArray, ?_, ?_, ?_⟩
     · rcases hs.kind with ⟨e',hk⟩ | hk <;> simp [Builtin.append_,run_underlying ht,run_underlying hk,sizeOf,typeInfo,hi1,hs.len,hroom,hs.cells,Addr.add_lit,hst]
     · unfold Own
       rw [List.length_append,hl]
       refine ⟨hlen,.inr ⟨g,cap,_,rfl,hbg,setRow_heap w g cur _ e _ hg,hroom,hcm, ?_, ?_⟩⟩
       · simp only [List.size_toArray,List.length_append,List.length_take,List.length_drop,Array.length_toList]
         omega
       · rw [htake, ← hlen, ← E.all_append]
         exact List.take_left
     · exact ⟨rfl,rfl,rfl,by simp,fun k hk=>setRow_other w g k _ (by omega)⟩
   · have hold:(Builtin.firstCells i.size xs.length (.slice (some ⟨g,0,none⟩) xs.length cap)).run P w.drew = .ok (E.all xs).toArray w.drew :=
      run_firstCells_some w.drew i.size xs.length ⟨g,0,none⟩ xs.length cap (E.all xs) hlx (World.ownsRow.cells (w:=w.drew) h0 (g:=g) rfl)
     have hgr:=grown cap (by omega)
     have hr:=run_append_grow_src (P:=P) w t tx ty e i z ht hi1 hi2 (some ⟨g,0,none⟩) xs.length cap (E.all xs) hold x m (E.all ys) hs (by omega) (by omega) (growslice_fits (by omega) hb)
     exact ⟨_,_,hr,hgr.1,hgr.2⟩
theorem wpList_app_src {P:Program} {α : Type} {size t tx e bytes:Nat} {w:World} {ops:Array Oper} {rest:List Oper} {o:Oper} {a:Act} {Q:Exit→Act→World→Prop} (EL:Elem P t e size bytes) (E:Enc α size)
 (hgd:o.guard=none) (s x:Operand) (ho:o.op = .call { callee := .builtin .append,args:=#[s,x],argTypes:=#[t,tx] }) (base:Nat) (v:Value) (xs:List α)
 (hs:a.eval s=v) (hown:Own E e w base v xs) (y:Value) (m:Nat) (ys:List α) (hx:a.eval x=y) (hl:ys.length=m) (hsrc:Src P size tx y m (E.all ys) w)
 (hb:(xs.length+m)*bytes≤140737488355328) (hb2:xs.length+m≤maxLen) (hbase:base≤w.heap.size)
 (h:∀ (v':Value) (w':World),Own E e w' base v' (xs++ys)→Below base w w'→wpList P ops Q rest (a.put o.dst v') w'):wpList P ops Q (o :: rest) a w:=by
 obtain ⟨v',w',hrun,h2,h3⟩:=run_app_src (ty:=o.type) EL E base v xs hown y m ys hl hsrc hb hb2 hbase
 refine wpList_plain hgd fun _ hK => ?_
 unfold Oper.wp execOp
 simp only [ho,resolve,invoke,builtin,Sem.run_bind,Sem.run_pure,Result.andThen_ok,List.map_toArray,List.map_cons,List.map_nil,hs,hx,hrun]
 exact hK _ _ (h v' w' h2 h3)
theorem byteCells_sb (s:ByteArray):byteCells s=(encInt .u8).all (sb s):=by
 rw [all_encInt];unfold byteCells sb;rw [List.map_map];rfl
theorem src_text {w:World} (s:ByteArray):Src Tryz.prog 1 9 (.string s) s.size ((encInt .u8).all (sb s)) w:=by
 rw [← byteCells_sb];exact Src.ofString w Tryz.underlying9 s
theorem Bytes.take {l:List Int} (h:Bytes l) (k:Nat):Bytes (l.take k):=fun a ha=>h a (List.mem_of_mem_take ha)
theorem Bytes.get {l:List Int} (h:Bytes l) (k:Nat):0≤l.getD k 0∧l.getD k 0≤255:=by
 rw [List.getD_eq_getElem?_getD]
 cases hk:l[k]? with
 | none=>simp
 | some a=>exact h a (List.mem_of_getElem? hk)
structure S8 (w:World) (B:Nat) (A:Option Addr) (len cap:Nat) (xs:List Int):Prop where
 hlen:xs.length=len
 le:len≤cap
 max:cap≤maxLen
 bytes:Bytes xs
 at_:len=0∨∃ pb po,A=some ⟨pb,po,none⟩∧pb<B∧∀ j,j<len→w.cell? ⟨pb,po+j,none⟩=some (.int .u8 (xs.getD j 0))
theorem Own.other {α : Type} {size:Nat} {E:Enc α size} {e:TypeId} {w w':World} {base r:Nat} {v:Value} {xs:List α} (h:Own E e w base v xs) (hg:w.grownBy w' (Option.some r)) (hr:r<base):Own E e w' base v xs:=by
 refine ⟨h.1, ?_⟩
 rcases h.2 with h | ⟨g,cap,cur,h1,h2,h3,h4⟩
 · exact .inl h
 · refine .inr ⟨g,cap,cur,h1,h2, ?_,h4⟩
   rw [hg.block g (Array.getElem?_eq_some_iff.1 h3).1 (by intro h;have:g=r:=Option.some.inj h;omega)];exact h3
theorem sT {α : Type} (l:List α) (i:Nat) (a : α):l.toArray.setIfInBounds i a=(l.set i a).toArray:=List.setIfInBounds_toArray ..
theorem sZ {α : Type} (x : α) (l:List α) (a : α):(x :: l).set 0 a=a :: l:=rfl
theorem sS {α : Type} (x : α) (l:List α) (n:Nat) (a : α):(x :: l).set (n+1) a=x :: l.set n a:=rfl
theorem held_take {P:Program} {md:Region.Mode} {ops:Array Oper} {Q:Exit→Act→World→Prop} {S:World→Prop} {i:Nat} {oi:Oper} {d:Option Tmp} {v:Value} {fuel:Nat} {listed listed':Array Bool} {a:Act} {w:World} (hi:ops[i]? = some oi) (hd:oi.dst=d)
 (hs:Region.noSelect ops=true) (hf:Region.free md ops listed i=true) (hr:(Region.ready md ops listed).contains i=true) (hl:listed.setIfInBounds i true=listed')
 (hQ:∀ c a w,Q (.panic c) (a.put d v) w→Q (.panic c) a w) (hw:Region.wanted oi (yielded ops a.tmps)=true) (hy:∀ w,S w→(execOp a.eval oi).run P w = .ok (.value v) w) (hS:S w)
 (h:wpAnyH P md ops Q S fuel listed' (a.put d v) w):wpAnyH P md ops Q S (fuel+1) listed a w:=by
 subst hd;subst hl
 exact wpAnyH_take hi hs hf hr hQ (.inl ⟨hw,hy⟩) hS h
theorem held_skip {P:Program} {md:Region.Mode} {ops:Array Oper} {Q:Exit→Act→World→Prop} {S:World→Prop} {i:Nat} {oi:Oper} {d:Option Tmp} {fuel:Nat} {listed listed':Array Bool} {a:Act} {w:World} (hi:ops[i]? = some oi) (hd:oi.dst=d)
 (hs:Region.noSelect ops=true) (hf:Region.free md ops listed i=true) (hr:(Region.ready md ops listed).contains i=true) (hl:listed.setIfInBounds i true=listed')
 (hQ:∀ c a w,Q (.panic c) (a.put d undef) w→Q (.panic c) a w) (hw:Region.wanted oi (yielded ops a.tmps)=false) (hS:S w)
 (h:wpAnyH P md ops Q S fuel listed' (a.put d undef) w):wpAnyH P md ops Q S (fuel+1) listed a w:=by
 subst hd;subst hl
 exact wpAnyH_take hi hs hf hr hQ (.inr ⟨hw,rfl⟩) hS h
theorem held_one {P:Program} {md:Region.Mode} {ops:Array Oper} {Q:Exit→Act→World→Prop} {S:World→Prop} {i:Nat} {oi:Oper} {d:Option Tmp} {fuel:Nat} {listed listed':Array Bool} {a:Act} {w:World} (hi:ops[i]? = some oi) (hd:oi.dst=d)
 (hr:Region.ready md ops listed=[i]) (hl:listed.setIfInBounds i true=listed') (hw:Region.wanted oi (yielded ops a.tmps)=true)
 (h:∀ K:Act→World→Prop,Shut (∀ v w,S w→wpAnyH P md ops Q S fuel listed' (a.put d v) w→K (a.put d v) w)→Oper.wp P oi a w K Q):wpAnyH P md ops Q S (fuel+1) listed a w:=by
 subst hd;subst hl
 refine wpAnyH_ready hr (by simp) (AllReadyH.cons hi (fun K hK => ?_) AllReadyH.nil)
 rw [if_pos hw]
 exact h K (fun v w hS hW=>hK _ _ hS (fun _=>hW))
theorem wpOp_imp {P:Program} {ops:Array Oper} {Q:Exit→Act→World→Prop} {i:Nat} {a:Act} {w:World} {K K':Act→World→Prop} (h:∀ a w,K a w→K' a w) (hk:wpOp P ops Q i K a w):wpOp P ops Q i K' a w:=wpOp_mono h hk
theorem held_less {P:Program} {md:Region.Mode} {ops:Array Oper} {Q:Exit→Act→World→Prop} {S S':World→Prop} (hS:∀ w,S w→S' w):∀ (fuel:Nat) (listed:Array Bool) (a:Act) (w:World),wpAnyH P md ops Q S fuel listed a w→wpAnyH P md ops Q S' fuel listed a w
 | 0,_,_,_,h=>h
 | fuel+1,_,_,_,h=>⟨h.1,fun i hi=>wpOp_imp (fun a' w' h'=>⟨hS _ h'.1,held_less hS fuel _ a' w' h'.2⟩) (h.2 i hi)⟩
theorem kept_start {P:Program} {ops:Array Oper} {Q:Exit→Act→World→Prop} {id:Nat} {a:Act} {w:World} (hm:P.follows .mixedOrders=true)
 (h:wpAnyH P .any ops Q (Below w.heap.size w.drew) ops.size (Array.replicate ops.size false) a w.drew):(Code.region id ops true).wp P Q a w :=
 wp_region_held_drew (S:=Below w.heap.size w.drew) hm (Below.refl _ _) (fun _=>h)
theorem kept_take {P:Program} {md:Region.Mode} {ops:Array Oper} {Q:Exit→Act→World→Prop} {i:Nat} {oi:Oper} {d:Option Tmp} {v:Value} {fuel:Nat} {listed listed':Array Bool} {a:Act} {B:Nat} {w:World} (hi:ops[i]? = some oi) (hd:oi.dst=d)
 (hs:Region.noSelect ops=true) (hf:Region.free md ops listed i=true) (hr:(Region.ready md ops listed).contains i=true) (hl:listed.setIfInBounds i true=listed')
 (hQ:∀ c a w,Q (.panic c) (a.put d v) w→Q (.panic c) a w) (hw:Region.wanted oi (yielded ops a.tmps)=true) (hy:∀ w',Below B w w'→(execOp a.eval oi).run P w' = .ok (.value v) w')
 (h:wpAnyH P md ops Q (Below B w) fuel listed' (a.put d v) w):wpAnyH P md ops Q (Below B w) (fuel+1) listed a w :=
 held_take hi hd hs hf hr hl hQ hw hy (Below.refl _ _) h
theorem kept_call {P:Program} {md:Region.Mode} {ops:Array Oper} {Q:Exit→Act→World→Prop} {i:Nat} {oi:Oper} {d:Option Tmp} {fuel:Nat} {listed listed':Array Bool} {a:Act} {B:Nat} {w:World} (hi:ops[i]? = some oi) (hd:oi.dst=d)
 (hr:Region.ready md ops listed=[i]) (hl:listed.setIfInBounds i true=listed') (hw:Region.wanted oi (yielded ops a.tmps)=true)
 (h:∀ K:Act→World→Prop,Shut (∀ v w',Below B w w'→B≤w'.heap.size→wpAnyH P md ops Q (Below w'.heap.size w') fuel listed' (a.put d v) w'→K (a.put d v) w')→Oper.wp P oi a w K Q):wpAnyH P md ops Q (Below B w) (fuel+1) listed a w :=
 held_one hi hd hr hl hw (fun K hK=>h K (fun v w' hb hB hn=>hK v w' hb (held_less (fun _ h'=>hb.trans (h'.mono hB)) _ _ _ _ hn)))
end Go.Proofs.YtdphoaabaajonaaGreatDoor
namespace Go.Proofs.YtdphoaabaajonaaGreatDoor
open Go.ChangeShapes Go.WideShapes Go.ChangeAt Go.RowKit
theorem trodAll_below {H:Type} {enc:TypeId × Value→H} {P:Program} (hl:laidOutB P=true) {W W':World} (hb:Below W.heap.size W W') :
 ∀ (ts:List TypeId) (vs:List Value) (ds:List (DataW H)) (p:List MemPlace),(ts.all fun t=>P.readableRec t&&decide (t<P.types.size))=true→(∀ x∈p,x.block<W.heap.size) →
   DataW.TrodAll enc P W 0 (fun _=>true) true ts vs ds p→DataW.TrodAll enc P W' 0 (fun b=>decide (b<W.heap.size)) true ts vs ds p:=by
 intro ts
 induction ts with
 | nil =>
   intro vs ds p _ _ h
   obtain ⟨rfl,rfl,rfl⟩:=trodAll_nil h
   exact trodAll_mk0
 | cons t ts ih =>
   intro vs ds p ht hlt h
   obtain ⟨v,vs',d,ds',p1,q1,rfl,rfl,rfl,h0,hr⟩:=trodAll_cons h
   rw [List.all_cons,Bool.and_eq_true,Bool.and_eq_true,decide_eq_true_eq] at ht
   exact trodAll_cons_mk (Below.trod hl ht.1.1 ht.1.2 h0 hb (fun x hx=>hlt x (List.mem_append_left _ hx))) (ih vs' ds' q1 ht.2 (fun x hx=>hlt x (List.mem_append_right _ hx)) hr)
theorem own:ownKnob Tryz.prog.godebug=none:=by kernel_rfl
theorem laidOut:laidOutB Tryz.prog=true:=by kernel_rfl
theorem law_post {H:Type} {enc:TypeId × Value→H} {f:Func} {s:ChangeSpec} {W W':World} {args:Array Value} {ds gs:List (DataW H)} {before:List MemPlace} (hl:laidOutB Tryz.prog=true)
 (hparams:(f.params.toList.all fun t=>Tryz.prog.readableRec t&&decide (t<Tryz.prog.types.size))=true) (hres:f.resultTypes=#[4])
 (hvars:s.vars=[]) (hfn:s.fn H (ds++gs)={ results:=[.lit (.bool true)],args:=ds })
 (hW:DataW.Whole enc Tryz.prog f.params.toList s.vars false W args.toList ds gs before) (hlt:∀ x∈before,x.block<W.heap.size) (hb:Below W.heap.size W W') :
 s.post enc Tryz.prog f false true false false W args (.bool true) W':=by
 have hW0:=hW
 obtain ⟨p,q,hA,hV,rfl,_,_⟩:=hW
 refine ⟨ds,gs,p++q,[],p,[],hW0, ?_, ?_, ?_,hb.frame _,fun h=>by cases h⟩
 · rw [hfn,hres]
   exact trodAll_cons_mk (shut_bool Tryz.underlying4 true) trodAll_mk0
 · rw [hfn]
   exact trodAll_below hl hb _ _ _ _ hparams (fun x hx=>hlt x (List.mem_append_left _ hx)) hA
 · rw [hvars,hfn];rfl
end Go.Proofs.YtdphoaabaajonaaGreatDoor
namespace Go.Proofs.YtdphoaabaajonaaGreatDoor
open Go.RowKit
def encTx:Enc ByteArray 1:={ f:=fun s=>[.string s],len:=fun _=>rfl,one:=fun _ u hu=>by simp at hu;subst hu;rfl }
theorem all_encTx (l:List ByteArray):encTx.all l=l.map Value.string:=by
 induction l with
 | nil=>rfl
 | cons a t ih=>show Value.string a :: encTx.all t=_;rw [ih];rfl
structure Rv where
 A:Option Addr
 cap:Nat
 l:List ByteArray
def Rv.v (r:Rv):Value := .slice r.A r.l.length r.cap
def encRv:Enc Rv 1:={ f:=fun r=>[r.v],len:=fun _=>rfl,one:=fun _ u hu=>by simp at hu;subst hu;rfl }
theorem all_encRv (l:List Rv):encRv.all l=l.map Rv.v:=by
 induction l with
 | nil=>rfl
 | cons a t ih=>show a.v :: encRv.all t=_;rw [ih];rfl
structure Sv where
 nm:ByteArray
 cols:Int
 A:Option Addr
 cap:Nat
 rows:List Rv
def Sv.rv (s:Sv):Value := .slice s.A s.rows.length s.cap
def Sv.p (s:Sv):Shp:=⟨s.nm,s.cols,s.rows.map (·.l)⟩
def encSv:Enc Sv 3:={ f:=fun s=>[.string s.nm,.int .i64 s.cols,s.rv],len:=fun _=>rfl,one:=fun s u hu=>by simp only [List.mem_cons,List.not_mem_nil,or_false] at hu;rcases hu with rfl | rfl | rfl <;> rfl }
def RowsR (w:World) (B:Nat) (v:Value) (rows:List Rv):Prop:=SE encRv w B v rows∧∀ r∈rows,SE encTx w B r.v r.l
theorem RowsR.below {w w':World} {B C:Nat} {v:Value} {rows:List Rv} (h:RowsR w B v rows) (hb:Below C w w') (hC:B≤C):RowsR w' B v rows:=⟨h.1.below hb hC,fun r hr=>(h.2 r hr).below hb hC⟩
theorem RowsR.mono {w:World} {B C:Nat} {v:Value} {rows:List Rv} (h:RowsR w B v rows) (hC:B≤C):RowsR w C v rows:=⟨h.1.mono hC,fun r hr=>(h.2 r hr).mono hC⟩
theorem RowsR.lift {w w':World} {v:Value} {rows:List Rv} (h:RowsR w w.heap.size v rows) (hb:Below w.heap.size w w'):RowsR w' w'.heap.size v rows:=(h.below hb (Nat.le_refl _)).mono hb.size
def BkR (w:World) (B:Nat) (v:Value) (shs:List Sv):Prop:=SE encSv w B v shs∧∀ s∈shs,RowsR w B s.rv s.rows
theorem BkR.below {w w':World} {B C:Nat} {v:Value} {shs:List Sv} (h:BkR w B v shs) (hb:Below C w w') (hC:B≤C):BkR w' B v shs:=⟨h.1.below hb hC,fun r hr=>(h.2 r hr).below hb hC⟩
theorem BkR.mono {w:World} {B C:Nat} {v:Value} {shs:List Sv} (h:BkR w B v shs) (hC:B≤C):BkR w C v shs:=⟨h.1.mono hC,fun r hr=>(h.2 r hr).mono hC⟩
theorem BkR.lift {w w':World} {v:Value} {shs:List Sv} (h:BkR w w.heap.size v shs) (hb:Below w.heap.size w w'):BkR w' w'.heap.size v shs:=(h.below hb (Nat.le_refl _)).mono hb.size
theorem BkR.nil (w:World) (B:Nat):BkR w B (.slice none 0 0) []:=⟨SE.nil _ _ _,fun _ h=>nomatch h⟩
theorem tx_at {w:World} {B:Nat} {A:Option Addr} {n cap:Nat} {l:List ByteArray} (h:SE encTx w B (.slice A n cap) l) {i:Nat} {x:ByteArray} (hi:l[i]? = some x) :
 ∃ pb po,A=some ⟨pb,po,none⟩∧pb<B∧w.cell? ⟨pb,po+i,none⟩=some (.string x):=by
 obtain ⟨pb,po,h1,h2,h3⟩:=h.at hi
 exact ⟨pb,po,h1,h2,by have:=h3 0 _ rfl;rwa [Nat.mul_one,Nat.add_zero] at this⟩
theorem row_at {w:World} {B:Nat} {A:Option Addr} {n cap:Nat} {l:List Rv} (h:RowsR w B (.slice A n cap) l) {i:Nat} {x:Rv} (hi:l[i]? = some x) :
 ∃ pb po,A=some ⟨pb,po,none⟩∧pb<B∧w.cell? ⟨pb,po+i,none⟩=some (.slice x.A x.l.length x.cap)∧SE encTx w B (.slice x.A x.l.length x.cap) x.l:=by
 obtain ⟨pb,po,h1,h2,h3⟩:=h.1.at hi
 exact ⟨pb,po,h1,h2,by have:=h3 0 _ rfl;rwa [Nat.mul_one,Nat.add_zero] at this,h.2 x (List.mem_of_getElem? hi)⟩
theorem sh_at {w:World} {B:Nat} {A:Option Addr} {n cap:Nat} {l:List Sv} (h:BkR w B (.slice A n cap) l) {i:Nat} {x:Sv} (hi:l[i]? = some x) :
 ∃ pb po,A=some ⟨pb,po,none⟩∧pb<B∧w.cell? ⟨pb,po+i*3,none⟩=some (.string x.nm)∧w.cell? ⟨pb,po+i*3+1,none⟩=some (.int .i64 x.cols)∧w.cell? ⟨pb,po+i*3+2,none⟩=some (.slice x.A x.rows.length x.cap)∧RowsR w B (.slice x.A x.rows.length x.cap) x.rows:=by
 obtain ⟨pb,po,h1,h2,h3⟩:=h.1.at hi
 exact ⟨pb,po,h1,h2,h3 0 _ rfl,by have:=h3 1 _ rfl;rwa [← Nat.add_assoc] at this,by have:=h3 2 _ rfl;rwa [← Nat.add_assoc] at this,h.2 x (List.mem_of_getElem? hi)⟩
def ShAt (w:World) (b:Nat) (nm:ByteArray) (c:Int) (v:Value):Prop:=w.heap[b]? = some (.cells #[.string nm,.int .i64 c,v] 47)
theorem ShAt.new (w:World) (nm:ByteArray) (c:Int) (v:Value):ShAt (w.alloc (.cells #[.string nm,.int .i64 c,v] 47)) w.heap.size nm c v:=(Go.MapKept.heap_alloc w _).1
theorem ShAt.lt {w:World} {b:Nat} {nm:ByteArray} {c:Int} {v:Value} (h:ShAt w b nm c v):b<w.heap.size:=(Array.getElem?_eq_some_iff.1 h).1
theorem ShAt.below {w w':World} {b B:Nat} {nm:ByteArray} {c:Int} {v:Value} (h:ShAt w b nm c v) (hb:Below B w w') (hB:b<B):ShAt w' b nm c v:=by unfold ShAt;rw [hb.block b hB];exact h
theorem ShAt.over {w w':World} {b:Nat} {nm:ByteArray} {c:Int} {v:Value} (h:ShAt w b nm c v) (hb:Below w.heap.size w w'):ShAt w' b nm c v:=h.below hb h.lt
theorem ShAt.cells {w:World} {b:Nat} {nm:ByteArray} {c:Int} {v:Value} (h:ShAt w b nm c v):w.cell? ⟨b,0,none⟩=some (.string nm)∧w.cell? ⟨b,1,none⟩=some (.int .i64 c)∧w.cell? ⟨b,2,none⟩=some v :=
 ⟨by rw [cell_of_row w b 0 _ _ _ h];rfl,by rw [cell_of_row w b 1 _ _ _ h];rfl,by rw [cell_of_row w b 2 _ _ _ h];rfl⟩
theorem ShAt.melts {w:World} {b:Nat} {nm:ByteArray} {c:Int} {v:Value} (h:ShAt w b nm c v):w.frozen? ⟨b,0,none⟩=false∧w.frozen? ⟨b,1,none⟩=false∧w.frozen? ⟨b,2,none⟩=false :=
 ⟨frozen_of_row w b 0 _ _ h,frozen_of_row w b 1 _ _ h,frozen_of_row w b 2 _ _ h⟩
def BkAt (w:World) (b:Nat) (v:Value):Prop:=w.heap[b]? = some (.cells #[v] 26)
theorem BkAt.new (w:World) (v:Value):BkAt (w.alloc (.cells #[v] 26)) w.heap.size v:=(Go.MapKept.heap_alloc w _).1
theorem BkAt.lt {w:World} {b:Nat} {v:Value} (h:BkAt w b v):b<w.heap.size:=(Array.getElem?_eq_some_iff.1 h).1
theorem BkAt.below {w w':World} {b B:Nat} {v:Value} (h:BkAt w b v) (hb:Below B w w') (hB:b<B):BkAt w' b v:=by unfold BkAt;rw [hb.block b hB];exact h
theorem BkAt.over {w w':World} {b:Nat} {v:Value} (h:BkAt w b v) (hb:Below w.heap.size w w'):BkAt w' b v:=h.below hb h.lt
theorem BkAt.cell {w:World} {b:Nat} {v:Value} (h:BkAt w b v):w.cell? ⟨b,0,none⟩=some v:=by rw [cell_of_row w b 0 _ _ _ h];rfl
theorem BkAt.melt {w:World} {b:Nat} {v:Value} (h:BkAt w b v):w.frozen? ⟨b,0,none⟩=false:=frozen_of_row w b 0 _ _ h
theorem tl_eq (a b:ByteArray):(a.toList == b.toList)=decide (a=b):=by
 by_cases h:a=b
 · subst h;simp
 · rw [decide_eq_false h]
   exact beq_eq_false_iff_ne.2 (text_ne a b h)
theorem below_sh (w:World) (nm:ByteArray) (c:Int) (v:Value):Below w.heap.size w (w.alloc (.cells #[.string nm,.int .i64 c,v] 47)):=(Below.refl _ _).alloc (Nat.le_refl _) _
theorem below_bk (w:World) (v:Value):Below w.heap.size w (w.alloc (.cells #[v] 26)):=(Below.refl _ _).alloc (Nat.le_refl _) _
set_option maxRecDepth 100000 in
set_option maxHeartbeats 1600000 in
theorem wanted_any (nm t:ByteArray) (c:Int) (v:Value) (w:World):Calls Tryz.prog 61 #[.string nm,.agg #[.string t,.int .i64 c,v]] w fun e w'=>e = .returned (.bool (decide (t=nm)))∧Below w.heap.size w w':=by
 have HB:=Lib.hid (below_sh w t c v)
 go_enter Tryz.func61,Tryz.ntmps61
 go_wp2_with fail
 all_goals go_ret
 all_goals exact ⟨by first | rfl | (rw [tl_eq];rfl),HB.out⟩
def First (shs:List Sv) (nm:ByteArray) (i:Nat) (s:Sv):Prop:=shs[i]? = some s∧s.nm=nm∧∀ (j:Nat) (t:Sv),j<i→shs[j]? = some t→t.nm≠nm
def FindR (shs:List Sv) (nm:ByteArray):Option (Nat × Sv)→Prop
 | none=>∀ (j:Nat) (t:Sv),shs[j]? = some t→t.nm≠nm
 | some (i,s)=>First shs nm i s
def findN:Option (Nat × Sv)→Int
 | none => -1
 | some (i,_)=>(i:Int)
set_option maxRecDepth 100000 in
set_option maxHeartbeats 4000000 in
theorem index_any (w:World) (A:Option Addr) (n cap:Nat) (shs:List Sv) (nm:ByteArray) (o:Option (Nat × Sv)) (h:BkR w w.heap.size (.slice A n cap) shs) (hn:n≤1000000) (ho:FindR shs nm o) :
 Calls Tryz.prog 60 #[.slice A n cap,.func (.func 61) #[.string nm] #[]] w fun e w'=>e = .returned (.int .i64 (findN o))∧Below w.heap.size w w':=by
 have HL:=Lib.hid h.1.len.1
 have HBK:=Lib.hid h;have HO:=Lib.hid ho
 clear h ho
 go_enter Tryz.func60,Tryz.ntmps60
 go_upto_region 2 with (fail)
 go_loopw [8] (fun iv wr=>∃ i:Nat,i≤n∧iv = .int .i64 (i:Int)∧Hid (∀ (j:Nat) (t:Sv),j<i→shs[j]? = some t→t.nm≠nm)∧Hid (Below w.heap.size w wr))
  (fun iv _=>n - (intOf iv).toNat)
 case atStart=>exact ⟨0,Nat.zero_le _,rfl,Lib.hid (fun j t h=>by omega),Lib.hid (Below.refl _ _)⟩
 case round =>
  obtain ⟨i,hi,rfl,HT,HR⟩:=hrel
  by_cases hlt:i<n
  · have hii:(i:Int)<(n:Int):=by omega
    have hi0:(0:Int)≤(i:Int):=by omega
    obtain ⟨s,hs⟩:∃ s,shs[i]? = some s:=⟨_,List.getElem?_eq_getElem (by rw [HL.out];exact hlt)⟩
    obtain ⟨pb,po,rfl,hpb,e0,e1,e2,hrow⟩:=sh_at HBK.out hs
    have x0:wr.cell? ⟨pb,po+i*3,none⟩=some (.string s.nm):=(HR.out.cell (p:=⟨pb,po+i*3,none⟩) hpb).trans e0
    have x1:wr.cell? ⟨pb,po+i*3+1,none⟩=some (.int .i64 s.cols):=(HR.out.cell (p:=⟨pb,po+i*3+1,none⟩) hpb).trans e1
    have x2:wr.cell? ⟨pb,po+i*3+2,none⟩=some (.slice s.A s.rows.length s.cap):=(HR.out.cell (p:=⟨pb,po+i*3+2,none⟩) hpb).trans e2
    have HS:=Lib.hid hs
    have hw:=wanted_any nm s.nm s.cols (.slice s.A s.rows.length s.cap) wr
    clear e0 e1 e2 hrow hs
    by_cases he:s.nm=nm
    · rw [decide_eq_true he] at hw
      have HW:=Lib.hid hw
      have HF:=Lib.hid (show findN o=(i:Int) from by
       cases o with
       | none=>exact absurd he (HO.out i s HS.out)
       | some p =>
         obtain ⟨k,t⟩:=p
         obtain ⟨h1,h2,h3⟩:=HO.out
         show (k:Int)=(i:Int)
         rcases Nat.lt_trichotomy i k with h | h | h
         · exact absurd he (h3 i s h HS.out)
         · omega
         · exact absurd h2 (HT.out k t h h1))
      clear hw he
      go_wp2_with (go_at_call 61;((with_reducible refine HW.out.mono ?_);rintro e w2 ⟨rfl,h1⟩;have H2:=Lib.hid (HR.out.trans (h1.mono HR.out.size));clear h1))
      go_ret
      exact ⟨ret_int HF.out.symm,H2.out⟩
    · rw [decide_eq_false he] at hw
      have HW:=Lib.hid hw
      have HF:=Lib.hid (show ∀ (j:Nat) (t:Sv),j<i+1→shs[j]? = some t→t.nm≠nm from fun j t hj ht=>by
       by_cases hji:j=i
       · subst hji
         have h:=HS.out
         rw [ht] at h;injection h with h;subst h;exact he
       · exact HT.out j t (by omega) ht)
      clear hw he
      go_wp2_with (go_at_call 61;((with_reducible refine HW.out.mono ?_);rintro e w2 ⟨rfl,h1⟩;have H2:=Lib.hid (HR.out.trans (h1.mono HR.out.size));clear h1))
      go_roundw
      case rel=>exact ⟨i+1,by omega,by go_num,HF,H2⟩
      case measure=>simp [intOf];omega
  · have hii:¬ (i:Int)<(n:Int):=by omega
    have HF:=Lib.hid (show findN o = -1 from by
     cases o with
     | none=>rfl
     | some p =>
       obtain ⟨k,t⟩:=p
       obtain ⟨h1,h2,h3⟩:=HO.out
       have:=(List.getElem?_eq_some_iff.1 h1).1
       have:=HL.out
       exact absurd h2 (HT.out k t (by omega) h1))
    go_wp2_with fail
    go_ret
    exact ⟨ret_int HF.out.symm,HR.out⟩
set_option maxRecDepth 100000 in
set_option maxHeartbeats 1600000 in
theorem find_any (w:World) (A:Option Addr) (n cap:Nat) (shs:List Sv) (nm:ByteArray) (o:Option (Nat × Sv)) (h:BkR w w.heap.size (.slice A n cap) shs) (hn:n≤1000000) (ho:FindR shs nm o) :
 Calls Tryz.prog 40 #[.agg #[.slice A n cap],.string nm] w fun e w'=>e = .returned (.int .i64 (findN o))∧Below w.heap.size w w':=by
 have HB:=Lib.hid (below_bk w (.slice A n cap))
 have HI:=Lib.hid (index_any (w.alloc (.cells #[.slice A n cap] 26)) A n cap shs nm o (h.lift HB.out) hn ho)
 have HA:=Lib.hid (BkAt.new w (.slice A n cap))
 clear h hn ho
 go_enter Tryz.func40,Tryz.ntmps40
 go_upto_region 1 with (fail)
 obtain ⟨w1,hw1⟩:∃ w1,w.alloc (.cells #[.slice A n cap] 26)=w1:=⟨_,rfl⟩
 rw [hw1] at HA HB HI ⊢
 have c0:=HA.out.cell
 go_wp2_with (go_at_call 60;(go_loud (with_reducible refine HI.out.mono ?_));(rintro e w2 ⟨rfl,h1⟩;have H2:=Lib.hid (HB.out.trans (h1.mono HB.out.size));clear h1))
 go_ret
 exact ⟨rfl,H2.out⟩
theorem Elem.tx:Elem Tryz.prog 48 9 1 16:=⟨Tryz.underlying48,⟨.string ⟨#[]⟩,by kernel_rfl,rfl⟩,by decide⟩
theorem Elem.rw:Elem Tryz.prog 45 48 1 24:=⟨Tryz.underlying45,⟨.slice none 0 0,by kernel_rfl,rfl⟩,by decide⟩
theorem Elem.sh:Elem Tryz.prog 24 47 3 48:=⟨Tryz.underlying24,⟨.agg #[.string ⟨#[]⟩,.int .i64 0,.slice none 0 0],by kernel_rfl,rfl⟩,by decide⟩
theorem own_empty {α : Type} {k:Nat} (E:Enc α k) (e:TypeId) (w:World):Own E e (w.alloc (.cells #[] e)) w.heap.size (.slice (some ⟨w.heap.size,0,none⟩) 0 0) ([]:List α):=by
 refine ⟨by simp [Enc.all],.inr ⟨w.heap.size,0,#[],rfl,Nat.le_refl _,(Go.MapKept.heap_alloc w _).1,Nat.le_refl _,by unfold maxLen;omega,by simp,by simp [Enc.all]⟩⟩
def TxO (w:World) (r:Rv) (lo hi:Nat):Prop:=r.l.length≤r.cap∧r.cap≤maxLen∧(r.l=[]∨∃ g,r.A=some ⟨g,0,none⟩∧lo≤g∧g<hi∧RwA encTx 9 w g r.l)
theorem TxO.keep {w w':World} {r:Rv} {lo hi:Nat} (h:TxO w r lo hi) (hk:∀ g,lo≤g→g<hi→w'.heap[g]? = w.heap[g]?):TxO w' r lo hi:=by
 obtain ⟨h1,h2,h3⟩:=h
 refine ⟨h1,h2,h3.imp id ?_⟩
 rintro ⟨g,e1,e2,e3,e4⟩
 exact ⟨g,e1,e2,e3,e4.keep (hk g e2 e3)⟩
theorem TxO.up {w:World} (r:Rv) (a b c d:Nat) (h1:a≤b) (h2:c≤d) (_:b≤c) (h:TxO w r b c):TxO w r a d:=by
 obtain ⟨k1,k2,k3⟩:=h
 refine ⟨k1,k2,k3.imp id ?_⟩
 rintro ⟨g,e1,e2,e3,e4⟩
 exact ⟨g,e1,by omega,by omega,e4⟩
theorem TxO.se {w:World} {r:Rv} {lo hi B:Nat} (h:TxO w r lo hi) (hB:hi≤B):SE encTx w B r.v r.l:=by
 obtain ⟨h1,h2,h3 | ⟨g,e1,e2,e3,e4⟩⟩:=h
 · exact ⟨_,_,rfl,h1,h2,.inl h3⟩
 · have:=e4.se (B:=B) (cap:=r.cap) (by omega) h1 h2
   unfold Rv.v;rw [e1];exact this
theorem run_nil (A:Option Addr) (n cap:Nat) (w:World):Sem.run Tryz.prog (binOp BinOp.eql 48 (.slice A n cap) (.slice none 0 0)) w = .ok (.bool A.isNone) w:=Lib.run_eql_slice_nil w 48 9 A n cap 0 0 Tryz.underlying48
set_option maxRecDepth 100000 in
set_option maxHeartbeats 1600000 in
theorem clone_any (w:World) (A:Option Addr) (n cap:Nat) (xs:List ByteArray) (h:SE encTx w w.heap.size (.slice A n cap) xs) (hn:n≤1000000) :
 Calls Tryz.prog 54 #[.slice A n cap] w fun e w'=>Below w.heap.size w w'∧∃ A' c',e = .returned (.slice A' xs.length c')∧TxO w' ⟨A',c',xs⟩ w.heap.size w'.heap.size:=by
 cases A with
 | none =>
   obtain rfl:xs=[]:=by
    cases xs with
    | nil=>rfl
    | cons x t=>obtain ⟨pb,po,h1,_⟩:=tx_at h (i:=0) rfl;cases h1
   obtain rfl:n=0:=h.len.1.symm
   clear h
   have hnil:=fun w=>run_nil none 0 cap w
   go_enter Tryz.func54,Tryz.ntmps54
   go_wp2_with fail
   go_ret
   exact ⟨Below.refl _ _,none,0,rfl,⟨Nat.le_refl _,Nat.zero_le _,.inl rfl⟩⟩
 | some ad =>
   have HX:=Lib.hid h
   have HL:=Lib.hid h.len.1
   clear h
   have HO:=Lib.hid (own_empty encTx 9 w)
   have HBA:=Lib.hid ((Below.refl w.heap.size w).alloc (Nat.le_refl _) (.cells #[] 9))
   have HCE:=Lib.hid (fun (j:Nat) (u:Value) (hj:(encTx.all xs)[j]? = some u)=>(show (w.alloc (.cells #[] 9)).cell? (ad.add j)=some u from by
    obtain ⟨A',cap',h1,_,_,h3⟩:=(HX.out.lift HBA.out)
    injection h1 with h1 _ _
    rcases h3 with rfl | ⟨pb,po,h4,_,h5⟩
    · simp [Enc.all] at hj
    · rw [h4] at h1
      injection h1 with h1
      subst h1
      rw [Addr.add_mid];exact h5 j u hj))
   have hnil:=fun w=>run_nil (some ad) n cap w
   go_enter Tryz.func54,Tryz.ntmps54
   go_wp2_with (at_builtin;refine wpList_app Elem.tx encTx rfl (.tmp 5) (.tmp 6) rfl w.heap.size _ [] rfl HO.out ad n cap xs rfl HL.out HCE.out ?_ ?_ ?_ ?_;(rw [List.length_nil];omega);(rw [List.length_nil];unfold maxLen;omega);exact HBA.out.size;intro v3 w3 h1 h2;have H3:=Lib.hid h1;clear h1;have H4:=Lib.hid h2;clear h2)
   go_ret
   have ho:Own encTx 9 w3 w.heap.size v3 xs:=by have:=H3.out;rwa [List.nil_append] at this
   have hb:Below w.heap.size w w3:=HBA.out.trans H4.out
   refine ⟨hb, ?_⟩
   rcases ho.shape with ⟨rfl,rfl⟩ | ⟨g,c3,rfl,h1,h2,h3,h4⟩
   · exact ⟨none,0,rfl,⟨Nat.le_refl _,Nat.zero_le _,.inl rfl⟩⟩
   · exact ⟨some ⟨g,0,none⟩,c3,rfl,⟨h3,h4,.inr ⟨g,rfl,h1,h2,ho.rwA⟩⟩⟩
def RwO (w:World) (A:Option Addr) (cap:Nat) (rows:List Rv) (lo hi:Nat):Prop:=∃ g m,A=some ⟨g,0,none⟩∧cap=rows.length∧rows.length≤maxLen∧lo≤g∧g<m∧RwA encRv 48 w g rows∧Zon (TxO w) rows m hi
theorem RwO.keep {w w':World} {A:Option Addr} {cap:Nat} {rows:List Rv} {lo hi:Nat} (h:RwO w A cap rows lo hi) (hk:∀ g,lo≤g→g<hi→w'.heap[g]? = w.heap[g]?):RwO w' A cap rows lo hi:=by
 obtain ⟨g,m,h1,h2,h3,h4,h5,h6,h7⟩:=h
 have:=h7.le
 exact ⟨g,m,h1,h2,h3,h4,h5,h6.keep (hk g h4 (by omega)),h7.imp fun x a b _ ha hb hx=>hx.keep fun g h1 h2=>hk g (by omega) (by omega)⟩
theorem RwO.up {w:World} {A:Option Addr} {cap:Nat} {rows:List Rv} {a b c d:Nat} (h1:a≤b) (h2:c≤d) (h:RwO w A cap rows b c):RwO w A cap rows a d:=by
 obtain ⟨g,m,k1,k2,k3,k4,k5,k6,k7⟩:=h
 exact ⟨g,m,k1,k2,k3,by omega,k5,k6,k7.up TxO.up (Nat.le_refl _) h2⟩
theorem RwO.rowsR {w:World} {A:Option Addr} {cap:Nat} {rows:List Rv} {lo hi B:Nat} (h:RwO w A cap rows lo hi) (hB:hi≤B):RowsR w B (.slice A rows.length cap) rows:=by
 obtain ⟨g,m,rfl,rfl,h3,h4,h5,h6,h7⟩:=h
 have:=h7.le
 refine ⟨h6.se (by omega) (Nat.le_refl _) h3,fun r hr => ?_⟩
 obtain ⟨i,hi⟩:=List.getElem?_of_mem hr
 obtain ⟨a,b,_,_,k3,k4,_⟩:=h7.at i r hi
 exact k4.se (by omega)
def zR:Rv:=⟨none,0,[]⟩
theorem fill_set {α : Type} (done:List α) (z x : α) (n:Nat) (h:done.length<n):(done++List.replicate (n - done.length) z).set done.length x=(done++[x])++List.replicate (n - (done.length+1)) z:=by
 obtain ⟨k,hk⟩:∃ k,n - done.length=k+1:=⟨n - done.length - 1,by omega⟩
 have hk2:n - (done.length+1)=k:=by omega
 rw [hk,hk2,List.replicate_succ,List.set_append_right _ _ (Nat.le_refl _),Nat.sub_self,List.set_cons_zero,List.append_assoc];rfl
set_option maxRecDepth 100000 in
theorem run_mkr (n:Nat) (hn:n≤1000000) (w:World):(Instr.makeSlice 45 (.int .i64 (n:Int)) (.int .i64 (n:Int))).run Tryz.prog w = .ok (.slice (some ⟨w.heap.size,0,none⟩) n n) (w.alloc (.cells (madeCells #[.slice none 0 0] n) 48)):=by
 exact run_make_row' 45 48 (.slice none 0 0) 24 Tryz.underlying45 (by kernel_rfl) rfl .i64 .i64 n (by omega) (by omega) w
set_option maxRecDepth 100000 in
set_option maxHeartbeats 4000000 in
theorem eachR_any (w:World) (A:Option Addr) (n cap:Nat) (rows:List Rv) (h:RowsR w w.heap.size (.slice A n cap) rows) (hn:n≤1000000) (hz:∀ r∈rows,r.l.length≤1000000) :
 Calls Tryz.prog 53 #[.slice A n cap,.func (.func 54) #[] #[]] w fun e w'=>Below w.heap.size w w'∧∃ A' rvs,e = .returned (.slice A' n n)∧rvs.map (·.l)=rows.map (·.l)∧RwO w' A' n rvs w.heap.size w'.heap.size:=by
 have HR0:=Lib.hid h;have HL:=Lib.hid h.1.len.1;have HZ:=Lib.hid hz
 clear h hz
 have hmk:=fun w=>run_mkr n hn w
 have HT:=Lib.hid (show RwA encRv 48 (w.alloc (.cells (madeCells #[.slice none 0 0] n) 48)) w.heap.size (List.replicate n zR) from by have h1:=made_rwA encRv 48 w n zR #[.slice none 0 0] rfl (by omega);rwa [Nat.mul_one] at h1)
 have HB0:=Lib.hid ((Below.refl w.heap.size w).alloc (Nat.le_refl _) (.cells (madeCells #[.slice none 0 0] n) 48))
 have HS0:=Lib.hid (World.size_alloc w (.cells (madeCells #[.slice none 0 0] n) 48))
 go_enter Tryz.func53,Tryz.ntmps53
 go_upto_region 3 with (fail)
 obtain ⟨w1,hw1⟩:∃ w1,w.alloc (.cells (madeCells #[.slice none 0 0] n) 48)=w1:=⟨_,rfl⟩
 rw [hw1] at HT HB0 HS0 ⊢
 clear hw1 hmk
 obtain ⟨T,hTq⟩:∃ T,w.heap.size=T:=⟨_,rfl⟩
 have HTQ:=Lib.hid hTq
 rw [hTq] at HT HB0 HS0 ⊢
 go_loopw [13] (fun iv wr=>∃ (i:Nat) (done:List Rv),i≤n∧iv = .int .i64 (i:Int)∧Hid (done.length=i)∧Hid (done.map (·.l)=(rows.map (·.l)).take i)∧Hid (RwA encRv 48 wr T (done++List.replicate (n - done.length) zR))∧Hid (Zon (TxO wr) done (T+1) wr.heap.size)∧Hid (Below T w wr))
  (fun iv _=>n - (intOf iv).toNat)
 case atStart=>exact ⟨0,[],Nat.zero_le _,rfl,Lib.hid rfl,Lib.hid rfl,HT,Lib.hid (show T+1≤w1.heap.size from Nat.le_of_eq HS0.out.symm),HB0⟩
 case round =>
  obtain ⟨i,done,hi,rfl,HD,HM,HA,HZN,HB⟩:=hrel
  by_cases hlt:i<n
  · have hii:(i:Int)<(n:Int):=by omega
    have hi0:(0:Int)≤(i:Int):=by omega
    obtain ⟨x,hx⟩:∃ x,rows[i]? = some x:=⟨_,List.getElem?_eq_getElem (by rw [HL.out];exact hlt)⟩
    obtain ⟨pb,po,rfl,hpb,e0,hrx⟩:=row_at HR0.out hx
    have hpT:pb<T:=by rw [← HTQ.out];exact hpb
    have x0:wr.cell? ⟨pb,po+i,none⟩=some (.slice x.A x.l.length x.cap):=(HB.out.cell (p:=⟨pb,po+i,none⟩) hpT).trans e0
    have HX1:=Lib.hid (show (rows.map (·.l)).take (i+1)=(rows.map (·.l)).take i++[x.l] from by rw [List.take_add_one,List.getElem?_map,hx];rfl)
    have HC:=Lib.hid (clone_any wr x.A x.l.length x.cap x.l ((hrx.below HB.out (Nat.le_of_eq HTQ.out)).mono (by have h1:=HB.out.size;rw [HTQ.out] at h1 ⊢;exact h1)) (HZ.out x (List.mem_of_getElem? hx)))
    have hTr:T<wr.heap.size:=HA.out.lt
    clear e0 hrx hx
    go_upto_region 5 with (fail)
    clear x0
    go_wp2_with (go_at_call 54;((with_reducible refine HC.out.mono ?_);rintro e w2 ⟨h1,A2,c2,rfl,h2⟩;have H2:=Lib.hid h1;have HN:=Lib.hid h2;have HA2:=Lib.hid (HA.out.keep (h1.block T hTr));have f2:=HA2.out.melt i;have g2:w2.cell? ⟨T,i,none⟩=some (.slice none 0 0):=HA2.out.cell i _ (by
     rw [all_encRv,List.getElem?_map, ← HD.out,List.getElem?_append_right (Nat.le_refl _),Nat.sub_self,List.getElem?_replicate,if_pos (by have:=HD.out;omega)];rfl);clear h1 h2))
    clear f2 g2
    go_roundw
    case rel =>
     have hd:=HD.out
     have hz1:Zon (TxO (w2.setCell ⟨T,i,none⟩ (.slice A2 x.l.length c2))) done (T+1) wr.heap.size:=HZN.out.imp fun y a b _ ha hb hy=>hy.keep fun g h1 h2=>(heap_setCell_other w2 _ g _ (by show g≠T;omega)).trans (H2.out.block g (by omega))
     have hx:TxO (w2.setCell ⟨T,i,none⟩ (.slice A2 x.l.length c2)) ⟨A2,c2,x.l⟩ wr.heap.size w2.heap.size:=HN.out.keep fun g h1 h2=>heap_setCell_other w2 _ g _ (by show g≠T;omega)
     have hs:(w2.setCell ⟨T,i,none⟩ (.slice A2 x.l.length c2)).heap.size=w2.heap.size:=World.size_setCell _ _ _
     refine ⟨i+1,done++[⟨A2,c2,x.l⟩],by omega,by go_num,Lib.hid (by rw [List.length_append,hd];rfl),Lib.hid (by rw [List.map_append,HM.out,HX1.out];rfl),Lib.hid ?_,Lib.hid ?_,Lib.hid ((HB.out.trans (H2.out.mono (Nat.le_of_lt hTr))).setCell (Nat.le_refl T) _)⟩
     · have h1:=HA2.out.set1 i ⟨A2,c2,x.l⟩ _ rfl
       subst hd
       rw [fill_set _ _ _ _ hlt] at h1
       rw [List.length_append];exact h1
     · rw [hs]
       exact hz1.snoc H2.out.size hx fun y a b c h1 h2 hy=>TxO.up y a b c c h2 (Nat.le_refl _) h1 hy
    case measure=>simp [intOf];omega
  · have hii:¬ (i:Int)<(n:Int):=by omega
    have hin:i=n:=by omega
    subst hin
    go_wp2_with fail
    go_ret
    have hd:=HD.out
    have k1:done.map (·.l)=rows.map (·.l):=by rw [HM.out];exact List.take_of_length_le (by rw [List.length_map,HL.out];exact Nat.le_refl _)
    have k2:RwO wr (some ⟨T,0,none⟩) i done T wr.heap.size:=⟨T,T+1,rfl,hd.symm,by unfold maxLen;omega,by omega,by omega,by
     have h1:=HA.out
     rw [hd,Nat.sub_self,List.replicate_zero,List.append_nil] at h1;exact h1,HZN.out⟩
    first
     | exact ⟨HB.out,_,done,rfl,k1,k2⟩
     | exact ⟨HB.out,_,rfl,done,k1,k2⟩
def RefAt (w:World) (b:Nat) (s:ByteArray) (c r:Int) (ac ar:Bool):Prop:=w.heap[b]? = some (.cells #[.string s,.int .i64 c,.int .i64 r,.bool ac,.bool ar] 99)
theorem RefAt.new (w:World) (s:ByteArray) (c r:Int) (ac ar:Bool):RefAt (w.alloc (.cells #[.string s,.int .i64 c,.int .i64 r,.bool ac,.bool ar] 99)) w.heap.size s c r ac ar:=by
 exact (Go.MapKept.heap_alloc w _).1
theorem RefAt.lt {w:World} {b:Nat} {s:ByteArray} {c r:Int} {ac ar:Bool} (h:RefAt w b s c r ac ar):b<w.heap.size:=(Array.getElem?_eq_some_iff.1 h).1
theorem RefAt.below {w w':World} {B b:Nat} {s:ByteArray} {c r:Int} {ac ar:Bool} (h:RefAt w b s c r ac ar) (hb:Below B w w') (hB:b<B):RefAt w' b s c r ac ar:=by
 unfold RefAt;rw [hb.block b hB];exact h
theorem RefAt.facts {w:World} {b:Nat} {s:ByteArray} {c r:Int} {ac ar:Bool} (h:RefAt w b s c r ac ar) :
 w.cell? ⟨b,0,none⟩=some (.string s)∧w.cell? ⟨b,1,none⟩=some (.int .i64 c)∧w.cell? ⟨b,2,none⟩=some (.int .i64 r)∧w.cell? ⟨b,3,none⟩=some (.bool ac)∧w.cell? ⟨b,4,none⟩=some (.bool ar) :=
 ⟨by rw [cell_of_row w b 0 _ _ _ h];rfl,by rw [cell_of_row w b 1 _ _ _ h];rfl,by rw [cell_of_row w b 2 _ _ _ h];rfl,by rw [cell_of_row w b 3 _ _ _ h];rfl,by rw [cell_of_row w b 4 _ _ _ h];rfl⟩
theorem run_one8 (w:World) (t:TypeId) (x:Int):(convert 22 9 (.slice (some ⟨w.heap.size,0,none⟩) 1 1)).run Tryz.prog (w.alloc (.cells #[.int .u8 x] t)) = .ok (.string (strOfNums [x])) (w.alloc (.cells #[.int .u8 x] t)):=by
 refine run_convert_bytes_arg _ _ 5 Tryz.underlying22 Tryz.underlying5 _ 0 _ 1 [x] rfl (fun i hi => ?_) _ Tryz.underlying9
 rw [Nat.zero_add]
 have:i=0:=by simp at hi;exact hi
 subst this
 exact cells_new (w:=w) _ _ [.int .u8 x] rfl 0 _ rfl
theorem run_two8 (w:World) (t:TypeId) (x y:Int):(convert 22 9 (.slice (some ⟨w.heap.size,0,none⟩) 2 2)).run Tryz.prog (w.alloc (.cells #[.int .u8 x,.int .u8 y] t)) = .ok (.string (strOfNums [x,y])) (w.alloc (.cells #[.int .u8 x,.int .u8 y] t)):=by
 refine run_convert_bytes_arg _ _ 5 Tryz.underlying22 Tryz.underlying5 _ 0 _ 2 [x,y] rfl (fun i hi => ?_) _ Tryz.underlying9
 rw [Nat.zero_add]
 have h:i=0∨i=1:=by simp at hi;omega
 rcases h with rfl | rfl
 · exact cells_new (w:=w) _ _ [.int .u8 x,.int .u8 y] rfl 0 _ rfl
 · exact cells_new (w:=w) _ _ [.int .u8 x,.int .u8 y] rfl 1 _ rfl
set_option maxRecDepth 100000 in
set_option maxHeartbeats 400000 in
theorem refDigits_nat (n:Nat) (_h1:n≤9223372036854775807) (w:World) :
 Calls Tryz.prog 22 #[.int .i64 n] w fun e w'=>e = .returned (.string (strOfNums (digL n)))∧Below w.heap.size w w':=by
 have hn0:¬ (n:Int)<0:=by omega
 go_enter Tryz.func22,Tryz.ntmps22
 go_wp2
 go_loopw [3,4] (fun u v wr=>∃ (m:Nat) (t:List Int),m≤9223372036854775807∧u = .int .u64 m∧v = .string (strOfNums t)∧Hid (digL m++t=digL n∧2*t.length+m≤n)∧Below w.heap.size w wr)
  (fun u _ _=>(intOf u).toNat)
 case atStart=>exact ⟨n,[],by omega,by go_num,rfl,Lib.hid ⟨by rw [List.append_nil],by simp⟩,Below.refl _ _⟩
 case round =>
  obtain ⟨m,t,hm,rfl,rfl,HT,hbl⟩:=hrel
  have HB:=Lib.hid hbl;clear hbl
  have hcv:=fun (w:World)=>run_one8 w 5 (48+(m:Int) % 10)
  have hcv2:=fun (w:World)=>run_one8 w 5 (48+(m:Int))
  have hsz:(strOfNums [48+(m:Int) % 10]).size+(strOfNums t).size≤9223372036854775807:=by rw [strOfNums_size,strOfNums_size];have:=HT.out.2;simp only [List.length_cons,List.length_nil];by_cases h:t.length=0 <;> by_cases h2:m=0 <;> omega
  have hsz2:(strOfNums [48+(m:Int)]).size+(strOfNums t).size≤9223372036854775807:=by rw [strOfNums_size,strOfNums_size];have:=HT.out.2;simp only [List.length_cons,List.length_nil];by_cases h:t.length=0 <;> by_cases h2:m=0 <;> omega
  by_cases hlt:10≤m
  · have hki:(10:Int)≤(m:Int):=by omega
    have hd:=digL_more m (by omega)
    have HD:=Lib.hid hd;clear hd
    go_wp2
    go_roundw
    case rel =>
     refine ⟨m / 10,(48+(m:Int) % 10) :: t,by omega,by go_num,val_str (str_append _ _),Lib.hid ⟨?_, ?_⟩,HB.out.alloc HB.out.size _⟩
     · rw [← HT.out.1,HD.out,List.append_assoc,show ((m % 10:Nat):Int)=(m:Int) % 10 from by omega];rfl
     · have:=HT.out.2;simp only [List.length_cons];omega
    case measure=>simp [intOf];omega
  · have hki:¬ (10:Int)≤(m:Int):=by omega
    have hd:=digL_small m (by omega)
    have HD:=Lib.hid hd;clear hd
    go_wp2
    go_ret
    exact ⟨ret_str (by rw [str_append, ← HT.out.1,HD.out]),HB.out.alloc HB.out.size _⟩
set_option maxRecDepth 100000 in
set_option maxHeartbeats 400000 in
theorem refCol_any (n:Int) (_h0 : -9223372036854775808≤n) (_h1:n≤9223372036854775807) (w:World) :
 Calls Tryz.prog 23 #[.int .i64 n] w fun e w'=>e = .returned (.string (strOfNums (colL n)))∧Below w.heap.size w w':=by
 by_cases hr:n<0∨701<n
 · have hc:colL n=[]:=by unfold colL;rw [if_pos hr]
   have HC:=Lib.hid hc;clear hc
   go_enter Tryz.func23,Tryz.ntmps23
   go_wp2
   all_goals first | omega | skip
   all_goals go_ret
   all_goals exact ⟨by rw [HC.out];rfl,Below.refl _ _⟩
 · have h0:¬ n<0:=by omega
   have h2:¬ 701<n:=by omega
   have h0':0≤n:=by omega
   by_cases h26:n<26
   · have hc:colL n=[65+n]:=by unfold colL;rw [if_neg hr,if_pos h26]
     have HC:=Lib.hid hc;clear hc hr
     have hcv:=fun (w:World)=>run_one8 w 5 (65+n)
     go_enter Tryz.func23,Tryz.ntmps23
     go_wp2
     all_goals go_ret
     all_goals exact ⟨by rw [HC.out];rfl,(Below.refl _ _).alloc (Nat.le_refl _) _⟩
   · have hc:colL n=[65+n / 26 - 1,65+n % 26]:=by unfold colL;rw [if_neg hr,if_neg h26];congr 1;omega
     have HC:=Lib.hid hc;clear hc hr
     have hcv:=fun (w:World)=>run_two8 w 5 (65+n / 26 - 1) (65+n % 26)
     go_enter Tryz.func23,Tryz.ntmps23
     go_wp2
     all_goals go_ret
     all_goals exact ⟨by rw [HC.out];rfl,(Below.refl _ _).alloc (Nat.le_refl _) _⟩
theorem dg_small (d:Nat) (h:d<10):digL d=dg1 d:=digL_small d h
theorem col_small1 (d:Nat) (h:d<26):colL (d:Int)=[65+(d:Int)]:=by
 unfold colL
 rw [if_neg (by omega),if_pos (by omega)]
theorem dig_any (d:Nat) (h:d<10) (w:World):Calls Tryz.prog 22 #[.int .i64 d] w fun e w'=>e = .returned (.string (strOfNums (dg1 d)))∧Below w.heap.size w w':=by
 have:=refDigits_nat d (by omega) w
 rwa [dg_small d h] at this
theorem cl_any (d:Nat) (h:d<26) (w:World):Calls Tryz.prog 23 #[.int .i64 d] w fun e w'=>e = .returned (.string (strOfNums [65+(d:Int)]))∧Below w.heap.size w w':=by
 have:=refCol_any d (by omega) (by omega) w
 rwa [col_small1 d h] at this
theorem size_dg (d:Nat):(strOfNums (dg1 d)).size=1:=by rw [strOfNums_size];rfl
set_option maxRecDepth 100000 in
set_option maxHeartbeats 2000000 in
theorem text_0 (n:Nat) (hn:n<256) (hr:n % 13=0) (w:World):Calls Tryz.prog 9 #[.int .i64 n] w fun e w'=>e = .returned (.string (strOfNums (txB n)))∧Below w.heap.size w w':=by
 have q13:(n:Int) % 13=0:=by omega
 have t13:(n:Int).tmod 13=0:=by rw [Int.tmod_eq_emod_of_nonneg (by omega)];exact q13
 have w13:IntKind.i64.wrap 0=0:=by rw [IntKind.wrap_i64];omega
 have ht:txB n=[]:=by unfold txB;rw [if_pos (by omega)]
 rw [ht]
 clear ht hr
 go_enter Tryz.func9,Tryz.ntmps9
 go_wp2_with fail
 go_ret
 exact ⟨rfl,Below.refl _ _⟩
set_option maxRecDepth 100000 in
set_option maxHeartbeats 2000000 in
theorem text_1 (n:Nat) (hn:n<256) (hr:n % 13=1) (w:World):Calls Tryz.prog 9 #[.int .i64 n] w fun e w'=>e = .returned (.string (strOfNums (txB n)))∧Below w.heap.size w w':=by
 have q13:(n:Int) % 13=1:=by omega
 have t13:(n:Int).tmod 13=1:=by rw [Int.tmod_eq_emod_of_nonneg (by omega)];exact q13
 have w13:IntKind.i64.wrap 1=1:=by rw [IntKind.wrap_i64];omega
 have ht:txB n=[]:=by unfold txB;rw [if_pos (by omega)]
 rw [ht]
 clear ht hr
 go_enter Tryz.func9,Tryz.ntmps9
 go_wp2_with fail
 go_ret
 exact ⟨rfl,Below.refl _ _⟩
set_option maxRecDepth 100000 in
set_option maxHeartbeats 2000000 in
theorem text_2 (n:Nat) (hn:n<256) (hr:n % 13=2) (w:World):Calls Tryz.prog 9 #[.int .i64 n] w fun e w'=>e = .returned (.string (strOfNums (txB n)))∧Below w.heap.size w w':=by
 have q13:(n:Int) % 13=2:=by omega
 have t13:(n:Int).tmod 13=2:=by rw [Int.tmod_eq_emod_of_nonneg (by omega)];exact q13
 have w13:IntKind.i64.wrap 2=2:=by rw [IntKind.wrap_i64];omega
 have ht:txB n=[]:=by unfold txB;rw [if_pos (by omega)]
 rw [ht]
 clear ht hr
 go_enter Tryz.func9,Tryz.ntmps9
 go_wp2_with fail
 go_ret
 exact ⟨rfl,Below.refl _ _⟩
set_option maxRecDepth 100000 in
set_option maxHeartbeats 2000000 in
theorem text_3 (n:Nat) (hn:n<256) (hr:n % 13=3) (w:World):Calls Tryz.prog 9 #[.int .i64 n] w fun e w'=>e = .returned (.string (strOfNums (txB n)))∧Below w.heap.size w w':=by
 have q13:(n:Int) % 13=3:=by omega
 have t13:(n:Int).tmod 13=3:=by rw [Int.tmod_eq_emod_of_nonneg (by omega)];exact q13
 have w13:IntKind.i64.wrap 3=3:=by rw [IntKind.wrap_i64];omega
 obtain ⟨k,hk⟩:∃ k,n / 13=k:=⟨_,rfl⟩
 have qk:(n:Int) / 13=(k:Int):=by omega
 have tk:(n:Int).tdiv 13=(k:Int):=by rw [Int.tdiv_eq_ediv_of_nonneg (by omega)];exact qk
 have wk:IntKind.i64.wrap (k:Int)=(k:Int):=by rw [IntKind.wrap_i64];omega
 obtain ⟨d,hd⟩:∃ d,k % 9=d:=⟨_,rfl⟩
 have qd:(k:Int) % 9=(d:Int):=by omega
 have td:(k:Int).tmod 9=(d:Int):=by rw [Int.tmod_eq_emod_of_nonneg (by omega)];exact qd
 have wd:IntKind.i64.wrap (d:Int)=(d:Int):=by rw [IntKind.wrap_i64];omega
 have hdm:d<9:=by omega
 have ht:txB n=dg1 d:=by
  unfold txB;rw [if_neg (by omega),if_pos (by omega)];rw [hk,hd]
 rw [ht]
 clear ht hr hk hd
 have HD:=Lib.hid (fun (w1:World)=>dig_any d (by omega) w1)
 go_enter Tryz.func9,Tryz.ntmps9
 go_wp2_with (go_at_call 22;((with_reducible refine (HD.out _).mono ?_);rintro e w1 ⟨rfl,h1⟩;have H1:=Lib.hid h1;clear h1))
 go_ret
 exact ⟨rfl,H1.out⟩
set_option maxRecDepth 100000 in
set_option maxHeartbeats 2000000 in
theorem text_4 (n:Nat) (hn:n<256) (hr:n % 13=4) (w:World):Calls Tryz.prog 9 #[.int .i64 n] w fun e w'=>e = .returned (.string (strOfNums (txB n)))∧Below w.heap.size w w':=by
 have q13:(n:Int) % 13=4:=by omega
 have t13:(n:Int).tmod 13=4:=by rw [Int.tmod_eq_emod_of_nonneg (by omega)];exact q13
 have w13:IntKind.i64.wrap 4=4:=by rw [IntKind.wrap_i64];omega
 obtain ⟨k,hk⟩:∃ k,n / 13=k:=⟨_,rfl⟩
 have qk:(n:Int) / 13=(k:Int):=by omega
 have tk:(n:Int).tdiv 13=(k:Int):=by rw [Int.tdiv_eq_ediv_of_nonneg (by omega)];exact qk
 have wk:IntKind.i64.wrap (k:Int)=(k:Int):=by rw [IntKind.wrap_i64];omega
 obtain ⟨d,hd⟩:∃ d,k % 9=d:=⟨_,rfl⟩
 have qd:(k:Int) % 9=(d:Int):=by omega
 have td:(k:Int).tmod 9=(d:Int):=by rw [Int.tmod_eq_emod_of_nonneg (by omega)];exact qd
 have wd:IntKind.i64.wrap (d:Int)=(d:Int):=by rw [IntKind.wrap_i64];omega
 have hdm:d<9:=by omega
 have ht:txB n=dg1 d:=by
  unfold txB;rw [if_neg (by omega),if_pos (by omega)];rw [hk,hd]
 rw [ht]
 clear ht hr hk hd
 have HD:=Lib.hid (fun (w1:World)=>dig_any d (by omega) w1)
 go_enter Tryz.func9,Tryz.ntmps9
 go_wp2_with (go_at_call 22;((with_reducible refine (HD.out _).mono ?_);rintro e w1 ⟨rfl,h1⟩;have H1:=Lib.hid h1;clear h1))
 go_ret
 exact ⟨rfl,H1.out⟩
set_option maxRecDepth 100000 in
set_option maxHeartbeats 2000000 in
theorem text_5 (n:Nat) (hn:n<256) (hr:n % 13=5) (w:World):Calls Tryz.prog 9 #[.int .i64 n] w fun e w'=>e = .returned (.string (strOfNums (txB n)))∧Below w.heap.size w w':=by
 have q13:(n:Int) % 13=5:=by omega
 have t13:(n:Int).tmod 13=5:=by rw [Int.tmod_eq_emod_of_nonneg (by omega)];exact q13
 have w13:IntKind.i64.wrap 5=5:=by rw [IntKind.wrap_i64];omega
 obtain ⟨k,hk⟩:∃ k,n / 13=k:=⟨_,rfl⟩
 have qk:(n:Int) / 13=(k:Int):=by omega
 have tk:(n:Int).tdiv 13=(k:Int):=by rw [Int.tdiv_eq_ediv_of_nonneg (by omega)];exact qk
 have wk:IntKind.i64.wrap (k:Int)=(k:Int):=by rw [IntKind.wrap_i64];omega
 obtain ⟨d,hd⟩:∃ d,k % 5=d:=⟨_,rfl⟩
 have qd:(k:Int) % 5=(d:Int):=by omega
 have td:(k:Int).tmod 5=(d:Int):=by rw [Int.tmod_eq_emod_of_nonneg (by omega)];exact qd
 have wd:IntKind.i64.wrap (d:Int)=(d:Int):=by rw [IntKind.wrap_i64];omega
 have hdm:d<5:=by omega
 have ht:txB n=[39,97+(d:Int)]:=by
  unfold txB;rw [if_neg (by omega),if_neg (by omega),if_pos (by omega)];rw [hk,hd]
 rw [ht]
 clear ht hr hk hd
 have hcv:=fun (w:World)=>run_one8 w 5 (97+(d:Int))
 have hz:(⟨#[39]⟩:ByteArray).size+(strOfNums [97+(d:Int)]).size≤1000:=by rw [strOfNums_size];show 1+1≤1000;omega
 have HB:=Lib.hid ((Below.refl w.heap.size w).alloc (Nat.le_refl _) (.cells #[.int .u8 (97+(d:Int))] 5))
 go_enter Tryz.func9,Tryz.ntmps9
 go_wp2_with fail
 go_ret
 exact ⟨ret_str (str_append [39] [97+(d:Int)]),HB.out⟩
set_option maxRecDepth 100000 in
set_option maxHeartbeats 2000000 in
theorem text_6 (n:Nat) (hn:n<256) (hr:n % 13=6) (w:World):Calls Tryz.prog 9 #[.int .i64 n] w fun e w'=>e = .returned (.string (strOfNums (txB n)))∧Below w.heap.size w w':=by
 have q13:(n:Int) % 13=6:=by omega
 have t13:(n:Int).tmod 13=6:=by rw [Int.tmod_eq_emod_of_nonneg (by omega)];exact q13
 have w13:IntKind.i64.wrap 6=6:=by rw [IntKind.wrap_i64];omega
 obtain ⟨k,hk⟩:∃ k,n / 13=k:=⟨_,rfl⟩
 have qk:(n:Int) / 13=(k:Int):=by omega
 have tk:(n:Int).tdiv 13=(k:Int):=by rw [Int.tdiv_eq_ediv_of_nonneg (by omega)];exact qk
 have wk:IntKind.i64.wrap (k:Int)=(k:Int):=by rw [IntKind.wrap_i64];omega
 obtain ⟨d,hd⟩:∃ d,k % 5=d:=⟨_,rfl⟩
 have qd:(k:Int) % 5=(d:Int):=by omega
 have td:(k:Int).tmod 5=(d:Int):=by rw [Int.tmod_eq_emod_of_nonneg (by omega)];exact qd
 have wd:IntKind.i64.wrap (d:Int)=(d:Int):=by rw [IntKind.wrap_i64];omega
 have hdm:d<5:=by omega
 have ht:txB n=[61,65]++dg1 (1+d):=by
  unfold txB;rw [if_neg (by omega),if_neg (by omega),if_neg (by omega),if_pos (by omega)];rw [hk,hd]
 rw [ht]
 clear ht hr hk hd
 obtain ⟨d1,hd1⟩:∃ d1,1+d=d1:=⟨_,rfl⟩
 have s1:(1:Int)+(d:Int)=(d1:Int):=by omega
 have HD:=Lib.hid (fun (w1:World)=>dig_any d1 (by omega) w1)
 rw [hd1]
 clear hd1
 obtain ⟨x,hx⟩:∃ x,strOfNums (dg1 d1)=x:=⟨_,rfl⟩
 have hx1:x.size=1:=by rw [← hx];exact size_dg d1
 rw [hx] at HD
 have HEQ:=Lib.hid (show ⟨#[61,65]⟩++x=strOfNums ([61,65]++dg1 d1) from by rw [← str_append,hx];rfl)
 clear hx
 have hz1:(⟨#[61,65]⟩:ByteArray).size+x.size≤1000:=by rw [hx1];show 2+1≤1000;omega
 go_enter Tryz.func9,Tryz.ntmps9
 go_wp2_with (go_at_call 22;((with_reducible refine (HD.out _).mono ?_);rintro e w1 ⟨rfl,h1⟩;have H1:=Lib.hid h1;clear h1))
 go_ret
 exact ⟨ret_str HEQ.out,H1.out⟩
set_option maxRecDepth 100000 in
set_option maxHeartbeats 2000000 in
theorem text_7 (n:Nat) (hn:n<256) (hr:n % 13=7) (w:World):Calls Tryz.prog 9 #[.int .i64 n] w fun e w'=>e = .returned (.string (strOfNums (txB n)))∧Below w.heap.size w w':=by
 have q13:(n:Int) % 13=7:=by omega
 have t13:(n:Int).tmod 13=7:=by rw [Int.tmod_eq_emod_of_nonneg (by omega)];exact q13
 have w13:IntKind.i64.wrap 7=7:=by rw [IntKind.wrap_i64];omega
 obtain ⟨k,hk⟩:∃ k,n / 13=k:=⟨_,rfl⟩
 have qk:(n:Int) / 13=(k:Int):=by omega
 have tk:(n:Int).tdiv 13=(k:Int):=by rw [Int.tdiv_eq_ediv_of_nonneg (by omega)];exact qk
 have wk:IntKind.i64.wrap (k:Int)=(k:Int):=by rw [IntKind.wrap_i64];omega
 obtain ⟨d,hd⟩:∃ d,k % 4=d:=⟨_,rfl⟩
 have qd:(k:Int) % 4=(d:Int):=by omega
 have td:(k:Int).tmod 4=(d:Int):=by rw [Int.tmod_eq_emod_of_nonneg (by omega)];exact qd
 have wd:IntKind.i64.wrap (d:Int)=(d:Int):=by rw [IntKind.wrap_i64];omega
 have hdm:d<4:=by omega
 have ht:txB n=[61,66]++dg1 (1+d)++[43,49]:=by
  unfold txB;rw [if_neg (by omega),if_neg (by omega),if_neg (by omega),if_neg (by omega),if_pos (by omega)];rw [hk,hd]
 rw [ht]
 clear ht hr hk hd
 obtain ⟨d1,hd1⟩:∃ d1,1+d=d1:=⟨_,rfl⟩
 have s1:(1:Int)+(d:Int)=(d1:Int):=by omega
 have HD:=Lib.hid (fun (w1:World)=>dig_any d1 (by omega) w1)
 rw [hd1]
 clear hd1
 obtain ⟨x,hx⟩:∃ x,strOfNums (dg1 d1)=x:=⟨_,rfl⟩
 have hx1:x.size=1:=by rw [← hx];exact size_dg d1
 rw [hx] at HD
 have HEQ:=Lib.hid (show ⟨#[61,66]⟩++x++⟨#[43,49]⟩=strOfNums ([61,66]++dg1 d1++[43,49]) from by rw [← str_append, ← str_append,hx];rfl)
 clear hx
 have hz1:(⟨#[61,66]⟩:ByteArray).size+x.size≤1000:=by rw [hx1];show 2+1≤1000;omega
 have hz2:((⟨#[61,66]⟩:ByteArray)++x).size+(⟨#[43,49]⟩:ByteArray).size≤1000:=by rw [ByteArray.size_append,hx1];show 2+1+2≤1000;omega
 go_enter Tryz.func9,Tryz.ntmps9
 go_wp2_with (go_at_call 22;((with_reducible refine (HD.out _).mono ?_);rintro e w1 ⟨rfl,h1⟩;have H1:=Lib.hid h1;clear h1))
 go_ret
 exact ⟨ret_str HEQ.out,H1.out⟩
set_option maxRecDepth 100000 in
set_option maxHeartbeats 2000000 in
theorem text_8 (n:Nat) (hn:n<256) (hr:n % 13=8) (w:World):Calls Tryz.prog 9 #[.int .i64 n] w fun e w'=>e = .returned (.string (strOfNums (txB n)))∧Below w.heap.size w w':=by
 have q13:(n:Int) % 13=8:=by omega
 have t13:(n:Int).tmod 13=8:=by rw [Int.tmod_eq_emod_of_nonneg (by omega)];exact q13
 have w13:IntKind.i64.wrap 8=8:=by rw [IntKind.wrap_i64];omega
 obtain ⟨k,hk⟩:∃ k,n / 13=k:=⟨_,rfl⟩
 have qk:(n:Int) / 13=(k:Int):=by omega
 have tk:(n:Int).tdiv 13=(k:Int):=by rw [Int.tdiv_eq_ediv_of_nonneg (by omega)];exact qk
 have wk:IntKind.i64.wrap (k:Int)=(k:Int):=by rw [IntKind.wrap_i64];omega
 obtain ⟨d,hd⟩:∃ d,k % 5=d:=⟨_,rfl⟩
 have qd:(k:Int) % 5=(d:Int):=by omega
 have td:(k:Int).tmod 5=(d:Int):=by rw [Int.tmod_eq_emod_of_nonneg (by omega)];exact qd
 have wd:IntKind.i64.wrap (d:Int)=(d:Int):=by rw [IntKind.wrap_i64];omega
 have hdm:d<5:=by omega
 have ht:txB n=[61,83,85,77,40,65,49,58,66]++dg1 (1+d)++[41]:=by
  unfold txB;rw [if_neg (by omega),if_neg (by omega),if_neg (by omega),if_neg (by omega),if_neg (by omega),if_pos (by omega)];rw [hk,hd]
 rw [ht]
 clear ht hr hk hd
 obtain ⟨d1,hd1⟩:∃ d1,1+d=d1:=⟨_,rfl⟩
 have s1:(1:Int)+(d:Int)=(d1:Int):=by omega
 have HD:=Lib.hid (fun (w1:World)=>dig_any d1 (by omega) w1)
 rw [hd1]
 clear hd1
 obtain ⟨x,hx⟩:∃ x,strOfNums (dg1 d1)=x:=⟨_,rfl⟩
 have hx1:x.size=1:=by rw [← hx];exact size_dg d1
 rw [hx] at HD
 have HEQ:=Lib.hid (show ⟨#[61,83,85,77,40,65,49,58,66]⟩++x++⟨#[41]⟩=strOfNums ([61,83,85,77,40,65,49,58,66]++dg1 d1++[41]) from by rw [← str_append, ← str_append,hx];rfl)
 clear hx
 have hz1:(⟨#[61,83,85,77,40,65,49,58,66]⟩:ByteArray).size+x.size≤1000:=by rw [hx1];show 9+1≤1000;omega
 have hz2:((⟨#[61,83,85,77,40,65,49,58,66]⟩:ByteArray)++x).size+(⟨#[41]⟩:ByteArray).size≤1000:=by rw [ByteArray.size_append,hx1];show 9+1+1≤1000;omega
 go_enter Tryz.func9,Tryz.ntmps9
 go_wp2_with (go_at_call 22;((with_reducible refine (HD.out _).mono ?_);rintro e w1 ⟨rfl,h1⟩;have H1:=Lib.hid h1;clear h1))
 go_ret
 exact ⟨ret_str HEQ.out,H1.out⟩
set_option maxRecDepth 100000 in
set_option maxHeartbeats 2000000 in
theorem text_9 (n:Nat) (hn:n<256) (hr:n % 13=9) (w:World):Calls Tryz.prog 9 #[.int .i64 n] w fun e w'=>e = .returned (.string (strOfNums (txB n)))∧Below w.heap.size w w':=by
 have q13:(n:Int) % 13=9:=by omega
 have t13:(n:Int).tmod 13=9:=by rw [Int.tmod_eq_emod_of_nonneg (by omega)];exact q13
 have w13:IntKind.i64.wrap 9=9:=by rw [IntKind.wrap_i64];omega
 obtain ⟨k,hk⟩:∃ k,n / 13=k:=⟨_,rfl⟩
 have qk:(n:Int) / 13=(k:Int):=by omega
 have tk:(n:Int).tdiv 13=(k:Int):=by rw [Int.tdiv_eq_ediv_of_nonneg (by omega)];exact qk
 have wk:IntKind.i64.wrap (k:Int)=(k:Int):=by rw [IntKind.wrap_i64];omega
 obtain ⟨d,hd⟩:∃ d,k % 4=d:=⟨_,rfl⟩
 have qd:(k:Int) % 4=(d:Int):=by omega
 have td:(k:Int).tmod 4=(d:Int):=by rw [Int.tmod_eq_emod_of_nonneg (by omega)];exact qd
 have wd:IntKind.i64.wrap (d:Int)=(d:Int):=by rw [IntKind.wrap_i64];omega
 have hdm:d<4:=by omega
 have ht:txB n=[61,66,33]++[65+(d:Int)]++[50,42,50]:=by
  unfold txB;rw [if_neg (by omega),if_neg (by omega),if_neg (by omega),if_neg (by omega),if_neg (by omega),if_neg (by omega),if_pos (by omega)];rw [hk,hd]
 rw [ht]
 clear ht hr hk hd
 have HD:=Lib.hid (fun (w1:World)=>cl_any d (by omega) w1)
 obtain ⟨x,hx⟩:∃ x,strOfNums [65+(d:Int)]=x:=⟨_,rfl⟩
 have hx1:x.size=1:=by rw [← hx,strOfNums_size];rfl
 rw [hx] at HD
 have HEQ:=Lib.hid (show ⟨#[61,66,33]⟩++x++⟨#[50,42,50]⟩=strOfNums ([61,66,33]++[65+(d:Int)]++[50,42,50]) from by rw [← str_append, ← str_append,hx];rfl)
 clear hx
 have hz1:(⟨#[61,66,33]⟩:ByteArray).size+x.size≤1000:=by rw [hx1];show 3+1≤1000;omega
 have hz2:((⟨#[61,66,33]⟩:ByteArray)++x).size+(⟨#[50,42,50]⟩:ByteArray).size≤1000:=by rw [ByteArray.size_append,hx1];show 3+1+3≤1000;omega
 go_enter Tryz.func9,Tryz.ntmps9
 go_wp2_with (go_at_call 23;((with_reducible refine (HD.out _).mono ?_);rintro e w1 ⟨rfl,h1⟩;have H1:=Lib.hid h1;clear h1))
 go_ret
 exact ⟨ret_str HEQ.out,H1.out⟩
set_option maxRecDepth 100000 in
set_option maxHeartbeats 2000000 in
theorem text_10 (n:Nat) (hn:n<256) (hr:n % 13=10) (w:World):Calls Tryz.prog 9 #[.int .i64 n] w fun e w'=>e = .returned (.string (strOfNums (txB n)))∧Below w.heap.size w w':=by
 have q13:(n:Int) % 13=10:=by omega
 have t13:(n:Int).tmod 13=10:=by rw [Int.tmod_eq_emod_of_nonneg (by omega)];exact q13
 have w13:IntKind.i64.wrap 10=10:=by rw [IntKind.wrap_i64];omega
 obtain ⟨k,hk⟩:∃ k,n / 13=k:=⟨_,rfl⟩
 have qk:(n:Int) / 13=(k:Int):=by omega
 have tk:(n:Int).tdiv 13=(k:Int):=by rw [Int.tdiv_eq_ediv_of_nonneg (by omega)];exact qk
 have wk:IntKind.i64.wrap (k:Int)=(k:Int):=by rw [IntKind.wrap_i64];omega
 obtain ⟨d,hd⟩:∃ d,k % 4=d:=⟨_,rfl⟩
 have qd:(k:Int) % 4=(d:Int):=by omega
 have td:(k:Int).tmod 4=(d:Int):=by rw [Int.tmod_eq_emod_of_nonneg (by omega)];exact qd
 have wd:IntKind.i64.wrap (d:Int)=(d:Int):=by rw [IntKind.wrap_i64];omega
 have hdm:d<4:=by omega
 have ht:txB n=[61,73,70,40,36,65,36,49,62,50,44,67]++dg1 (1+d)++[44,34,120,34,41]:=by
  unfold txB;rw [if_neg (by omega),if_neg (by omega),if_neg (by omega),if_neg (by omega),if_neg (by omega),if_neg (by omega),if_neg (by omega),if_pos (by omega)];rw [hk,hd]
 rw [ht]
 clear ht hr hk hd
 obtain ⟨d1,hd1⟩:∃ d1,1+d=d1:=⟨_,rfl⟩
 have s1:(1:Int)+(d:Int)=(d1:Int):=by omega
 have HD:=Lib.hid (fun (w1:World)=>dig_any d1 (by omega) w1)
 rw [hd1]
 clear hd1
 obtain ⟨x,hx⟩:∃ x,strOfNums (dg1 d1)=x:=⟨_,rfl⟩
 have hx1:x.size=1:=by rw [← hx];exact size_dg d1
 rw [hx] at HD
 have HEQ:=Lib.hid (show ⟨#[61,73,70,40,36,65,36,49,62,50,44,67]⟩++x++⟨#[44,34,120,34,41]⟩=strOfNums ([61,73,70,40,36,65,36,49,62,50,44,67]++dg1 d1++[44,34,120,34,41]) from by rw [← str_append, ← str_append,hx];rfl)
 clear hx
 have hz1:(⟨#[61,73,70,40,36,65,36,49,62,50,44,67]⟩:ByteArray).size+x.size≤1000:=by rw [hx1];show 12+1≤1000;omega
 have hz2:((⟨#[61,73,70,40,36,65,36,49,62,50,44,67]⟩:ByteArray)++x).size+(⟨#[44,34,120,34,41]⟩:ByteArray).size≤1000:=by rw [ByteArray.size_append,hx1];show 12+1+5≤1000;omega
 go_enter Tryz.func9,Tryz.ntmps9
 go_wp2_with (go_at_call 22;((with_reducible refine (HD.out _).mono ?_);rintro e w1 ⟨rfl,h1⟩;have H1:=Lib.hid h1;clear h1))
 go_ret
 exact ⟨ret_str HEQ.out,H1.out⟩
set_option maxRecDepth 100000 in
set_option maxHeartbeats 2000000 in
theorem text_11 (n:Nat) (hn:n<256) (hr:n % 13=11) (w:World):Calls Tryz.prog 9 #[.int .i64 n] w fun e w'=>e = .returned (.string (strOfNums (txB n)))∧Below w.heap.size w w':=by
 have q13:(n:Int) % 13=11:=by omega
 have t13:(n:Int).tmod 13=11:=by rw [Int.tmod_eq_emod_of_nonneg (by omega)];exact q13
 have w13:IntKind.i64.wrap 11=11:=by rw [IntKind.wrap_i64];omega
 have ht:txB n=[61,67,33,65,49,38,34,121,34]:=by
  unfold txB;rw [if_neg (by omega),if_neg (by omega),if_neg (by omega),if_neg (by omega),if_neg (by omega),if_neg (by omega),if_neg (by omega),if_neg (by omega),if_pos (by omega)]
 rw [ht]
 clear ht hr
 go_enter Tryz.func9,Tryz.ntmps9
 go_wp2_with fail
 go_ret
 exact ⟨ret_str (by decide),Below.refl _ _⟩
set_option maxRecDepth 100000 in
set_option maxHeartbeats 2000000 in
theorem text_12 (n:Nat) (hn:n<256) (hr:n % 13=12) (w:World):Calls Tryz.prog 9 #[.int .i64 n] w fun e w'=>e = .returned (.string (strOfNums (txB n)))∧Below w.heap.size w w':=by
 have q13:(n:Int) % 13=12:=by omega
 have t13:(n:Int).tmod 13=12:=by rw [Int.tmod_eq_emod_of_nonneg (by omega)];exact q13
 have w13:IntKind.i64.wrap 12=12:=by rw [IntKind.wrap_i64];omega
 obtain ⟨k,hk⟩:∃ k,n / 13=k:=⟨_,rfl⟩
 have qk:(n:Int) / 13=(k:Int):=by omega
 have tk:(n:Int).tdiv 13=(k:Int):=by rw [Int.tdiv_eq_ediv_of_nonneg (by omega)];exact qk
 have wk:IntKind.i64.wrap (k:Int)=(k:Int):=by rw [IntKind.wrap_i64];omega
 obtain ⟨d,hd⟩:∃ d,k % 2=d:=⟨_,rfl⟩
 have qd:(k:Int) % 2=(d:Int):=by omega
 have td:(k:Int).tmod 2=(d:Int):=by rw [Int.tmod_eq_emod_of_nonneg (by omega)];exact qd
 have wd:IntKind.i64.wrap (d:Int)=(d:Int):=by rw [IntKind.wrap_i64];omega
 have hdm:d<2:=by omega
 have ht:txB n=[61,49,47]++dg1 d:=by
  unfold txB;rw [if_neg (by omega),if_neg (by omega),if_neg (by omega),if_neg (by omega),if_neg (by omega),if_neg (by omega),if_neg (by omega),if_neg (by omega),if_neg (by omega)];rw [hk,hd]
 rw [ht]
 clear ht hr hk hd
 have HD:=Lib.hid (fun (w1:World)=>dig_any d (by omega) w1)
 obtain ⟨x,hx⟩:∃ x,strOfNums (dg1 d)=x:=⟨_,rfl⟩
 have hx1:x.size=1:=by rw [← hx];exact size_dg d
 rw [hx] at HD
 have HEQ:=Lib.hid (show ⟨#[61,49,47]⟩++x=strOfNums ([61,49,47]++dg1 d) from by rw [← str_append,hx];rfl)
 clear hx
 have hz1:(⟨#[61,49,47]⟩:ByteArray).size+x.size≤1000:=by rw [hx1];show 3+1≤1000;omega
 go_enter Tryz.func9,Tryz.ntmps9
 go_wp2_with (go_at_call 22;((with_reducible refine (HD.out _).mono ?_);rintro e w1 ⟨rfl,h1⟩;have H1:=Lib.hid h1;clear h1))
 go_ret
 exact ⟨ret_str HEQ.out,H1.out⟩
theorem text_any (n:Nat) (hn:n<256) (w:World):Calls Tryz.prog 9 #[.int .i64 n] w fun e w'=>e = .returned (.string (strOfNums (txB n)))∧Below w.heap.size w w':=by
 have h13:n % 13<13:=Nat.mod_lt _ (by omega)
 rcases (show n % 13=0∨n % 13=1∨n % 13=2∨n % 13=3∨n % 13=4∨n % 13=5∨n % 13=6∨n % 13=7∨n % 13=8∨n % 13=9∨n % 13=10∨n % 13=11∨n % 13=12 by omega) with h | h | h | h | h | h | h | h | h | h | h | h | h
 · exact text_0 n hn h w
 · exact text_1 n hn h w
 · exact text_2 n hn h w
 · exact text_3 n hn h w
 · exact text_4 n hn h w
 · exact text_5 n hn h w
 · exact text_6 n hn h w
 · exact text_7 n hn h w
 · exact text_8 n hn h w
 · exact text_9 n hn h w
 · exact text_10 n hn h w
 · exact text_11 n hn h w
 · exact text_12 n hn h w
def RwX {α : Type} {k:Nat} (E:Enc α k) (e:TypeId) (w:World) (g:Nat) (xs:List α):Prop:=w.heap[g]? = some (.cells (E.all xs).toArray e)
theorem RwX.rwA {α : Type} {k:Nat} {E:Enc α k} {e:TypeId} {w:World} {g:Nat} {xs:List α} (h:RwX E e w g xs):RwA E e w g xs:=⟨_,h,fun j u hj=>by simpa using hj⟩
theorem RwX.keep {α : Type} {k:Nat} {E:Enc α k} {e:TypeId} {w w':World} {g:Nat} {xs:List α} (h:RwX E e w g xs) (hk:w'.heap[g]? = w.heap[g]?):RwX E e w' g xs:=by unfold RwX;rw [hk];exact h
theorem RwX.set1 {α : Type} {E:Enc α 1} {e:TypeId} {w:World} {g:Nat} {xs:List α} (h:RwX E e w g xs) (i:Nat) (x : α) (u:Value) (hu:E.f x=[u]):RwX E e (w.setCell ⟨g,i,none⟩ u) g (xs.set i x):=by
 unfold RwX
 rw [heap_setCell_same w g i _ e u h,all_set1 E xs i x u hu]
 simp
theorem RwX.lt {α : Type} {k:Nat} {E:Enc α k} {e:TypeId} {w:World} {g:Nat} {xs:List α} (h:RwX E e w g xs):g<w.heap.size:=(Array.getElem?_eq_some_iff.1 h).1
theorem RwX.own {α : Type} {k:Nat} {E:Enc α k} {e:TypeId} {w:World} {g lo:Nat} {xs:List α} (h:RwX E e w g xs) (hlo:lo≤g) (hm:xs.length≤maxLen):Own E e w lo (.slice (some ⟨g,0,none⟩) xs.length xs.length) xs :=
 ⟨E.length_all xs,.inr ⟨g,xs.length,_,rfl,hlo,h,Nat.le_refl _,hm,by rw [List.size_toArray,E.length_all],by rw [← E.length_all];simp⟩⟩
theorem made_tx (w:World) (n:Nat):RwX encTx 9 (w.alloc (.cells (madeCells #[.string ⟨#[]⟩] n) 9)) w.heap.size (List.replicate n ⟨#[]⟩):=by
 have h1:=(Go.MapKept.heap_alloc w (.cells (madeCells #[.string ⟨#[]⟩] n) 9)).1
 have e:madeCells #[.string ⟨#[]⟩] n=(encTx.all (List.replicate n ⟨#[]⟩)).toArray:=by
  rw [all_encTx,List.map_replicate]
  apply Array.ext
  · simp [madeCells]
  · intro i h1 h2;simp [madeCells,Nat.mod_one]
 unfold RwX
 rw [h1,e]
set_option maxRecDepth 100000 in
theorem run_mkt (n:Nat) (hn:n≤1000000) (w:World):(Instr.makeSlice 48 (.int .i64 (n:Int)) (.int .i64 (n:Int))).run Tryz.prog w = .ok (.slice (some ⟨w.heap.size,0,none⟩) n n) (w.alloc (.cells (madeCells #[.string ⟨#[]⟩] n) 9)) :=
 run_make_row' 48 9 (.string ⟨#[]⟩) 16 Tryz.underlying48 (by kernel_rfl) rfl .i64 .i64 n (by omega) (by omega) w
def RwV (w:World) (lo:Nat) (v:Value) (rows:List Rv):Prop:=Own encRv 48 w lo v rows∧∀ r∈rows,Own encTx 9 w lo r.v r.l
theorem RwV.nil (w:World) (lo:Nat):RwV w lo (.slice none 0 0) []:=⟨Own.nil _ _ _ _,fun _ h=>nomatch h⟩
theorem RwV.next {w w':World} {lo:Nat} {v:Value} {rows:List Rv} (h:RwV w lo v rows) (hb:Below w.heap.size w w'):RwV w' lo v rows:=⟨h.1.below hb (Nat.le_refl _),fun r hr=>(h.2 r hr).below hb (Nat.le_refl _)⟩
theorem RwV.mono {w:World} {lo lo':Nat} {v:Value} {rows:List Rv} (h:RwV w lo v rows) (hb:lo'≤lo):RwV w lo' v rows:=⟨h.1.mono hb,fun r hr=>(h.2 r hr).mono hb⟩
theorem RwV.keep {w w':World} {lo:Nat} {v:Value} {rows:List Rv} (h:RwV w lo v rows) (hk:∀ g,lo≤g→g<w.heap.size→w'.heap[g]? = w.heap[g]?):RwV w' lo v rows:=⟨h.1.keep fun g h1 h2 _=>hk g h1 h2,fun r hr=>(h.2 r hr).keep fun g h1 h2 _=>hk g h1 h2⟩
theorem RwV.rowsR {w:World} {lo:Nat} {v:Value} {rows:List Rv} (h:RwV w lo v rows):RowsR w w.heap.size v rows:=⟨h.1.se,fun r hr=>(h.2 r hr).se⟩
theorem RwV.push {w w':World} {lo:Nat} {v v':Value} {rows:List Rv} {r:Rv} (h:RwV w lo v rows) (hr:Own encTx 9 w lo r.v r.l) (ho:Own encRv 48 w' lo v' (rows++[r])) (hg:w.grownBy w' v.ownBlock):RwV w' lo v' (rows++[r]):=by
 have key:∀ x:Rv,Own encTx 9 w lo x.v x.l→Own encTx 9 w' lo x.v x.l:=fun x hx=>hx.keep fun g _ hl e=>hg.block g hl (hx.away h.1 (by decide) e)
 refine ⟨ho,fun x hx => ?_⟩
 rcases List.mem_append.1 hx with hx | hx
 · exact key x (h.2 x hx)
 · rw [List.mem_singleton.1 hx];exact key r hr
def BkV (w:World) (lo:Nat) (v:Value) (shs:List Sv):Prop:=Own encSv 47 w lo v shs∧∀ s∈shs,RwV w lo s.rv s.rows
theorem BkV.nil (w:World) (lo:Nat):BkV w lo (.slice none 0 0) []:=⟨Own.nil _ _ _ _,fun _ h=>nomatch h⟩
theorem BkV.next {w w':World} {lo:Nat} {v:Value} {shs:List Sv} (h:BkV w lo v shs) (hb:Below w.heap.size w w'):BkV w' lo v shs:=⟨h.1.below hb (Nat.le_refl _),fun r hr=>(h.2 r hr).next hb⟩
theorem BkV.keep {w w':World} {lo:Nat} {v:Value} {shs:List Sv} (h:BkV w lo v shs) (hk:∀ g,lo≤g→g<w.heap.size→w'.heap[g]? = w.heap[g]?):BkV w' lo v shs:=⟨h.1.keep fun g h1 h2 _=>hk g h1 h2,fun r hr=>(h.2 r hr).keep hk⟩
theorem BkV.bkR {w:World} {lo:Nat} {v:Value} {shs:List Sv} (h:BkV w lo v shs):BkR w w.heap.size v shs:=⟨h.1.se,fun r hr=>(h.2 r hr).rowsR⟩
theorem BkV.push {w w':World} {lo:Nat} {v v':Value} {shs:List Sv} {s:Sv} (h:BkV w lo v shs) (hs:RwV w lo s.rv s.rows) (ho:Own encSv 47 w' lo v' (shs++[s])) (hg:w.grownBy w' v.ownBlock):BkV w' lo v' (shs++[s]):=by
 have key:∀ x:Sv,RwV w lo x.rv x.rows→RwV w' lo x.rv x.rows:=fun x hx =>
  ⟨hx.1.keep fun g _ hl e=>hg.block g hl (hx.1.away h.1 (by decide) e),fun r hr=>(hx.2 r hr).keep fun g _ hl e=>hg.block g hl ((hx.2 r hr).away h.1 (by decide) e)⟩
 refine ⟨ho,fun x hx => ?_⟩
 rcases List.mem_append.1 hx with hx | hx
 · exact key x (h.2 x hx)
 · rw [List.mem_singleton.1 hx];exact key s hs
theorem own_sl {α : Type} {k:Nat} {E:Enc α k} {e:TypeId} {w:World} {lo:Nat} {v:Value} {xs:List α} (h:Own E e w lo v xs):∃ A c,v = .slice A xs.length c:=by
 rcases h.shape with ⟨rfl,rfl⟩ | ⟨g,c,rfl,_⟩
 · exact ⟨none,0,rfl⟩
 · exact ⟨_,c,rfl⟩
theorem below_drawn {B:Nat} {w w':World} (h:Below B w w') (n:Nat):Below B w (w'.drewN n):=⟨h.os,h.tape,h.output,h.size,h.block⟩
theorem quiet_same {f:FuncId} {args:Array Value} {w:World} {n:Nat} {v:Value} (h:Calls Tryz.prog f args (w.drewN n) fun e w'=>e = .returned v∧w.drewN n=w'):Calls Tryz.prog f args (w.drewN n) fun e w''=>e = .returned v∧∃ m,w''=w.drewN m :=
 Calls.quiet_of_same (h.mono fun _ _ ⟨a,b⟩=>⟨a,b.symm⟩)
set_option maxHeartbeats 400000 in
theorem hasr_any (A:Option Addr) (n cap:Nat) (k:Int) (w:World):Calls Tryz.prog 41 #[.slice A n cap,.int .i64 k] w fun e w'=>e = .returned (.bool (decide (0≤k∧k<(n:Int))))∧w=w':=by
 go_enter Tryz.func41,Tryz.ntmps41
 go_wp2
 all_goals go_ret
 all_goals exact ⟨ret_bool (by first | rfl | (symm;rw [decide_eq_true_iff];omega) | (symm;rw [decide_eq_false_iff_not];omega) | (rw [decide_eq_decide];omega) | (simp <;> omega)),rfl⟩
set_option maxHeartbeats 400000 in
theorem hast_any (A:Option Addr) (n cap:Nat) (k:Int) (w:World):Calls Tryz.prog 42 #[.slice A n cap,.int .i64 k] w fun e w'=>e = .returned (.bool (decide (0≤k∧k<(n:Int))))∧w=w':=by
 go_enter Tryz.func42,Tryz.ntmps42
 go_wp2
 all_goals go_ret
 all_goals exact ⟨ret_bool (by first | rfl | (symm;rw [decide_eq_true_iff];omega) | (symm;rw [decide_eq_false_iff_not];omega) | (rw [decide_eq_decide];omega) | (simp <;> omega)),rfl⟩
def SpAt (w:World) (b:Nat) (nm:ByteArray) (row col:Int):Prop:=w.heap[b]? = some (.cells #[.string nm,.int .i64 row,.int .i64 col] 29)
theorem SpAt.new (w:World) (nm:ByteArray) (row col:Int):SpAt (w.alloc (.cells #[.string nm,.int .i64 row,.int .i64 col] 29)) w.heap.size nm row col:=(Go.MapKept.heap_alloc w _).1
theorem SpAt.lt {w:World} {b:Nat} {nm:ByteArray} {r c:Int} (h:SpAt w b nm r c):b<w.heap.size:=(Array.getElem?_eq_some_iff.1 h).1
theorem SpAt.below {w w':World} {b B:Nat} {nm:ByteArray} {r c:Int} (h:SpAt w b nm r c) (hb:Below B w w') (hB:b<B):SpAt w' b nm r c:=by unfold SpAt;rw [hb.block b hB];exact h
theorem SpAt.over {w w':World} {b:Nat} {nm:ByteArray} {r c:Int} (h:SpAt w b nm r c) (hb:Below w.heap.size w w'):SpAt w' b nm r c:=h.below hb h.lt
theorem SpAt.cells {w:World} {b:Nat} {nm:ByteArray} {r c:Int} (h:SpAt w b nm r c):w.cell? ⟨b,0,none⟩=some (.string nm)∧w.cell? ⟨b,1,none⟩=some (.int .i64 r)∧w.cell? ⟨b,2,none⟩=some (.int .i64 c) :=
 ⟨by rw [cell_of_row w b 0 _ _ _ h];rfl,by rw [cell_of_row w b 1 _ _ _ h];rfl,by rw [cell_of_row w b 2 _ _ _ h];rfl⟩
theorem below_sp (w:World) (nm:ByteArray) (row col:Int):Below w.heap.size w (w.alloc (.cells #[.string nm,.int .i64 row,.int .i64 col] 29)):=(Below.refl _ _).alloc (Nat.le_refl _) _
def SpotR (shs:List Sv) (nm:ByteArray) (row col:Int):Option (Nat × Sv × Nat × Rv × Nat)→Prop
 | none=>FindR shs nm none∨∃ i s,First shs nm i s∧(¬ (0≤row∧row<(s.rows.length:Int))∨∃ (r:Nat) (rv:Rv),row=(r:Int)∧s.rows[r]? = some rv∧¬ (0≤col∧col<(rv.l.length:Int)))
 | some (i,s,r,rv,c)=>First shs nm i s∧row=(r:Int)∧s.rows[r]? = some rv∧col=(c:Int)∧c<rv.l.length
def txO:Option (Nat × Sv × Nat × Rv × Nat)→ByteArray
 | none=>⟨#[]⟩
 | some (_,_,_,rv,c)=>rv.l.getD c ⟨#[]⟩
def AtO (w:World):Option (Nat × Sv × Nat × Rv × Nat)→Value→Prop
 | none,v=>v = .pointer none
 | some (_,_,_,rv,c),v=>∃ pb po,rv.A=some ⟨pb,po,none⟩∧v = .pointer (some ⟨pb,po+c,none⟩)∧pb<w.heap.size∧w.cell? ⟨pb,po+c,none⟩=some (.string (rv.l.getD c ⟨#[]⟩))
theorem two_blocks (w:World) (v:Value) (nm:ByteArray) (row col:Int):∃ w2,(w.alloc (.cells #[v] 26)).alloc (.cells #[.string nm,.int .i64 row,.int .i64 col] 29)=w2∧Below w.heap.size w w2∧BkAt w2 w.heap.size v∧SpAt w2 (w.heap.size+1) nm row col∧w2.heap.size=w.heap.size+2:=by
 refine ⟨_,rfl,(below_bk w v).trans ((below_sp (w.alloc (.cells #[v] 26)) nm row col).mono (below_bk w v).size),(BkAt.new w v).over (below_sp _ _ _ _), ?_,by rw [World.size_alloc,World.size_alloc]⟩
 have:=SpAt.new (w.alloc (.cells #[v] 26)) nm row col
 rwa [World.size_alloc] at this
set_option maxRecDepth 100000 in
set_option maxHeartbeats 4000000 in
theorem at_some (w:World) (A:Option Addr) (n cap:Nat) (shs:List Sv) (nm:ByteArray) (i:Nat) (s:Sv) (r:Nat) (rv:Rv) (c:Nat) (h:BkR w w.heap.size (.slice A n cap) shs) (hn:n≤1000000) (ho:SpotR shs nm r c (some (i,s,r,rv,c))) :
 Calls Tryz.prog 21 #[.agg #[.slice A n cap],.agg #[.string nm,.int .i64 r,.int .i64 c]] w fun e w'=>(∃ v,e = .returned v∧AtO w (some (i,s,r,rv,c)) v)∧Below w.heap.size w w':=by
 obtain ⟨hf, -,hrv, -,hc⟩:=ho
 obtain ⟨w2,hw2,hb,hbk,hsp,hsz⟩:=two_blocks w (.slice A n cap) nm r c
 obtain ⟨pb,po,hA,hpb,e0,e1,e2,hrows⟩:=sh_at h hf.1
 obtain ⟨qb,qo,hA2,hqb,f0,hrow⟩:=row_at hrows hrv
 obtain ⟨x,hx⟩:∃ x,rv.l[c]? = some x:=⟨_,List.getElem?_eq_getElem hc⟩
 obtain ⟨ub,uo,hA3,hub,g0⟩:=tx_at hrow hx
 have hin:=hf.1
 have hni:(i:Int)<(n:Int):=by have:=(List.getElem?_eq_some_iff.1 hin).1;have:=h.1.len.1;omega
 have hi0:(0:Int)≤(i:Int):=by omega
 have hr0:(0:Int)≤(r:Int):=by omega
 have hc0:(0:Int)≤(c:Int):=by omega
 have hrl:(r:Int)<(s.rows.length:Int):=by have:=(List.getElem?_eq_some_iff.1 hrv).1;omega
 have hcl:(c:Int)<(rv.l.length:Int):=by omega
 have HFI:=Lib.hid (show Calls Tryz.prog 40 #[.agg #[.slice A n cap],.string nm] w2 fun e w'=>e = .returned (.int .i64 (i:Int))∧Below w2.heap.size w2 w' from find_any w2 A n cap shs nm (some (i,s)) (h.lift hb) hn hf)
 have H1:=Lib.hid (fun w=>hasr_any s.A s.rows.length s.cap r w)
 have H2:=Lib.hid (fun w=>hast_any rv.A rv.l.length rv.cap c w)
 have d1:decide ((0:Int)≤(r:Int)∧(r:Int)<(s.rows.length:Int))=true:=decide_eq_true ⟨hr0,hrl⟩
 have d2:decide ((0:Int)≤(c:Int)∧(c:Int)<(rv.l.length:Int))=true:=decide_eq_true ⟨hc0,hcl⟩
 rw [d1] at H1;rw [d2] at H2
 have HOUT:=Lib.hid (show AtO w (some (i,s,r,rv,c)) (.pointer (some ⟨ub,uo+c,none⟩)) from ⟨ub,uo,hA3,rfl,hub,by rw [List.getD_eq_getElem?_getD,hx];exact g0⟩)
 obtain ⟨m,hm⟩:∃ m,s.rows.length=m:=⟨_,rfl⟩
 obtain ⟨k,hk⟩:∃ k,rv.l.length=k:=⟨_,rfl⟩
 rw [hm] at e2 H1 hrl;rw [hk] at f0 H2 hcl
 rw [hA2] at e2 H1;rw [hA3] at f0 H2
 subst hA
 have HB:=Lib.hid hb;have HBK:=Lib.hid hbk;have HSP:=Lib.hid hsp
 clear hf hrv hc hrows hrow g0 hx hin d1 d2 hm hk h hb hbk hsp
 go_enter Tryz.func21,Tryz.ntmps21
 go_upto_region 1 with (fail)
 clear hw2
 have b0:=HBK.out.cell
 obtain ⟨s0,s1,s2⟩:=HSP.out.cells
 go_upto_region 4 with (go_at_call 40;((with_reducible refine HFI.out.mono ?_);rintro e w3 ⟨rfl,h1⟩;have H3:=Lib.hid h1;clear h1))
 clear b0 s0 s1 s2
 have HB3:=Lib.hid (HB.out.trans (H3.out.mono HB.out.size))
 have b0:=(HBK.out.over H3.out).cell
 obtain ⟨s0,s1,s2⟩:=(HSP.out.over H3.out).cells
 have x0:w3.cell? ⟨pb,po+i*3,none⟩=some (.string s.nm):=(HB3.out.cell (p:=⟨pb,po+i*3,none⟩) hpb).trans e0
 have x1:w3.cell? ⟨pb,po+i*3+1,none⟩=some (.int .i64 s.cols):=(HB3.out.cell (p:=⟨pb,po+i*3+1,none⟩) hpb).trans e1
 have x2:w3.cell? ⟨pb,po+i*3+2,none⟩=some (.slice (some ⟨qb,qo,none⟩) m s.cap):=(HB3.out.cell (p:=⟨pb,po+i*3+2,none⟩) hpb).trans e2
 have y0:w3.cell? ⟨qb,qo+r,none⟩=some (.slice (some ⟨ub,uo,none⟩) k rv.cap):=(HB3.out.cell (p:=⟨qb,qo+r,none⟩) hqb).trans f0
 clear e0 e1 e2 f0
 go_upto_region 5 with (fail)
 go_quiet (first
  | (go_at_call 41;exact quiet_same (H1.out _))
  | (go_at_call 42;exact quiet_same (H2.out _)))
 go_wp2_with fail
 go_quiet (fail)
 go_wp2_with fail
 go_ret
 exact ⟨⟨_,rfl,HOUT.out⟩,below_drawn (below_drawn HB3.out _) _⟩
set_option maxRecDepth 100000 in
set_option maxHeartbeats 1600000 in
theorem at_nosheet (w:World) (A:Option Addr) (n cap:Nat) (shs:List Sv) (nm:ByteArray) (row col:Int) (h:BkR w w.heap.size (.slice A n cap) shs) (hn:n≤1000000) (ho:FindR shs nm none) :
 Calls Tryz.prog 21 #[.agg #[.slice A n cap],.agg #[.string nm,.int .i64 row,.int .i64 col]] w fun e w'=>e = .returned (.pointer none)∧Below w.heap.size w w':=by
 obtain ⟨w2,hw2,hb,hbk,hsp,hsz⟩:=two_blocks w (.slice A n cap) nm row col
 have HFI:=Lib.hid (show Calls Tryz.prog 40 #[.agg #[.slice A n cap],.string nm] w2 fun e w'=>e = .returned (.int .i64 (-1))∧Below w2.heap.size w2 w' from find_any w2 A n cap shs nm none (h.lift hb) hn ho)
 have HB:=Lib.hid hb;have HBK:=Lib.hid hbk;have HSP:=Lib.hid hsp
 clear h hb hbk hsp ho
 go_enter Tryz.func21,Tryz.ntmps21
 go_upto_region 1 with (fail)
 clear hw2
 have b0:=HBK.out.cell
 obtain ⟨s0,s1,s2⟩:=HSP.out.cells
 go_wp2_with (go_at_call 40;((with_reducible refine HFI.out.mono ?_);rintro e w3 ⟨rfl,h1⟩;have H3:=Lib.hid (HB.out.trans (h1.mono HB.out.size));clear h1))
 go_ret
 exact ⟨rfl,H3.out⟩
set_option maxRecDepth 100000 in
set_option maxHeartbeats 4000000 in
theorem at_out (w:World) (A:Option Addr) (n cap:Nat) (shs:List Sv) (nm:ByteArray) (row col:Int) (i:Nat) (s:Sv) (h:BkR w w.heap.size (.slice A n cap) shs) (hn:n≤1000000) (hf:First shs nm i s)
 (ho:¬ (0≤row∧row<(s.rows.length:Int))∨∃ (r:Nat) (rv:Rv),row=(r:Int)∧s.rows[r]? = some rv∧¬ (0≤col∧col<(rv.l.length:Int))) :
 Calls Tryz.prog 21 #[.agg #[.slice A n cap],.agg #[.string nm,.int .i64 row,.int .i64 col]] w fun e w'=>e = .returned (.pointer none)∧Below w.heap.size w w':=by
 obtain ⟨w2,hw2,hb,hbk,hsp,hsz⟩:=two_blocks w (.slice A n cap) nm row col
 obtain ⟨pb,po,hA,hpb,e0,e1,e2,hrows⟩:=sh_at h hf.1
 have hin:=hf.1
 have hni:(i:Int)<(n:Int):=by have:=(List.getElem?_eq_some_iff.1 hin).1;have:=h.1.len.1;omega
 have hi0:(0:Int)≤(i:Int):=by omega
 have HFI:=Lib.hid (show Calls Tryz.prog 40 #[.agg #[.slice A n cap],.string nm] w2 fun e w'=>e = .returned (.int .i64 (i:Int))∧Below w2.heap.size w2 w' from find_any w2 A n cap shs nm (some (i,s)) (h.lift hb) hn hf)
 have H1:=Lib.hid (fun w=>hasr_any s.A s.rows.length s.cap row w)
 obtain ⟨m,hm⟩:∃ m,s.rows.length=m:=⟨_,rfl⟩
 rw [hm] at e2 H1 ho
 subst hA
 have HB:=Lib.hid hb;have HBK:=Lib.hid hbk;have HSP:=Lib.hid hsp;have HROWS:=Lib.hid hrows;have HO:=Lib.hid ho
 clear hf hrows hin h hb hbk hsp ho
 go_enter Tryz.func21,Tryz.ntmps21
 go_upto_region 1 with (fail)
 clear hw2
 have b0:=HBK.out.cell
 obtain ⟨s0,s1,s2⟩:=HSP.out.cells
 go_upto_region 4 with (go_at_call 40;((with_reducible refine HFI.out.mono ?_);rintro e w3 ⟨rfl,h1⟩;have H3:=Lib.hid h1;clear h1))
 clear b0 s0 s1 s2
 have HB3:=Lib.hid (HB.out.trans (H3.out.mono HB.out.size))
 have b0:=(HBK.out.over H3.out).cell
 obtain ⟨s0,s1,s2⟩:=(HSP.out.over H3.out).cells
 have x0:w3.cell? ⟨pb,po+i*3,none⟩=some (.string s.nm):=(HB3.out.cell (p:=⟨pb,po+i*3,none⟩) hpb).trans e0
 have x1:w3.cell? ⟨pb,po+i*3+1,none⟩=some (.int .i64 s.cols):=(HB3.out.cell (p:=⟨pb,po+i*3+1,none⟩) hpb).trans e1
 have x2:w3.cell? ⟨pb,po+i*3+2,none⟩=some (.slice s.A m s.cap):=(HB3.out.cell (p:=⟨pb,po+i*3+2,none⟩) hpb).trans e2
 clear e0 e1 e2
 go_upto_region 5 with (fail)
 clear b0 x0 x1 x2
 by_cases hr:0≤row∧row<(m:Int)
 · rw [decide_eq_true hr] at H1
   obtain ⟨r,rv,rfl,hrv,hc⟩:=HO.out.resolve_left (fun h=>h hr)
   obtain ⟨qb,qo,hA2,hqb,f0,hrow⟩:=row_at HROWS.out hrv
   have y0:w3.cell? ⟨qb,qo+r,none⟩=some (.slice rv.A rv.l.length rv.cap):=(HB3.out.cell (p:=⟨qb,qo+r,none⟩) hqb).trans f0
   have H2:=Lib.hid (fun w=>hast_any rv.A rv.l.length rv.cap col w)
   rw [decide_eq_false hc] at H2
   have hr1:(r:Int)<(m:Int):=hr.2
   have hr0:(0:Int)≤(r:Int):=hr.1
   rw [hA2] at H1 ⊢
   clear hrv hc f0 hrow hr
   go_quiet (first
    | (go_at_call 41;exact quiet_same (H1.out _))
    | (go_at_call 42;exact quiet_same (H2.out _)))
   go_wp2_with fail
   go_ret
   exact ⟨rfl,below_drawn HB3.out _⟩
 · rw [decide_eq_false hr] at H1
   clear hr
   go_quiet (first
    | (go_at_call 41;exact quiet_same (H1.out _)))
   go_wp2_with fail
   go_ret
   exact ⟨rfl,below_drawn HB3.out _⟩
theorem at_any (w:World) (A:Option Addr) (n cap:Nat) (shs:List Sv) (nm:ByteArray) (row col:Int) (o:Option (Nat × Sv × Nat × Rv × Nat)) (h:BkR w w.heap.size (.slice A n cap) shs) (hn:n≤1000000) (ho:SpotR shs nm row col o) :
 Calls Tryz.prog 21 #[.agg #[.slice A n cap],.agg #[.string nm,.int .i64 row,.int .i64 col]] w fun e w'=>(∃ v,e = .returned v∧AtO w o v)∧Below w.heap.size w w':=by
 cases o with
 | none =>
   rcases ho with ho | ⟨i,s,hf,ho⟩
   · exact (at_nosheet w A n cap shs nm row col h hn ho).mono fun e w' ⟨h1,h2⟩=>⟨⟨_,h1,rfl⟩,h2⟩
   · exact (at_out w A n cap shs nm row col i s h hn hf ho).mono fun e w' ⟨h1,h2⟩=>⟨⟨_,h1,rfl⟩,h2⟩
 | some p =>
   obtain ⟨i,s,r,rv,c⟩:=p
   obtain ⟨h1,rfl,h3,rfl,h5⟩:=ho
   exact at_some w A n cap shs nm i s r rv c h hn ⟨h1,rfl,h3,rfl,h5⟩
set_option maxRecDepth 100000 in
set_option maxHeartbeats 1600000 in
theorem get_any (w:World) (A:Option Addr) (n cap:Nat) (shs:List Sv) (nm:ByteArray) (row col:Int) (o:Option (Nat × Sv × Nat × Rv × Nat)) (h:BkR w w.heap.size (.slice A n cap) shs) (hn:n≤1000000) (ho:SpotR shs nm row col o) :
 Calls Tryz.prog 12 #[.agg #[.slice A n cap],.agg #[.string nm,.int .i64 row,.int .i64 col]] w fun e w'=>e = .returned (.string (txO o))∧Below w.heap.size w w':=by
 obtain ⟨w2,hw2,hb,hbk,hsp,hsz⟩:=two_blocks w (.slice A n cap) nm row col
 have HA:=Lib.hid (at_any w2 A n cap shs nm row col o (h.lift hb) hn ho)
 have HB:=Lib.hid hb;have HBK:=Lib.hid hbk;have HSP:=Lib.hid hsp
 clear h hb hbk hsp ho
 go_enter Tryz.func12,Tryz.ntmps12
 go_upto_region 1 with (fail)
 clear hw2
 have b0:=HBK.out.cell
 obtain ⟨s0,s1,s2⟩:=HSP.out.cells
 go_upto_region 2 with (go_at_call 21;((with_reducible refine HA.out.mono ?_);rintro e w3 ⟨⟨v,rfl,hv⟩,h1⟩;have H3:=Lib.hid h1;have HV:=Lib.hid hv;clear h1 hv))
 clear b0 s0 s1 s2
 have HB3:=Lib.hid (HB.out.trans (H3.out.mono HB.out.size))
 cases o with
 | none =>
   obtain rfl:v = .pointer none:=HV.out
   go_wp2_with fail
   go_ret
   exact ⟨rfl,HB3.out⟩
 | some p =>
   obtain ⟨i,s,r,rv,c⟩:=p
   obtain ⟨pb,po,_,rfl,hpb,hc⟩:=HV.out
   have hc3:w3.cell? ⟨pb,po+c,none⟩=some (.string (rv.l.getD c ⟨#[]⟩)):=(H3.out.cell (p:=⟨pb,po+c,none⟩) hpb).trans hc
   clear hc
   go_wp2_with fail
   go_ret
   exact ⟨rfl,HB3.out⟩
theorem eq_upto {α : Type} {xs ys:List α} {n:Nat} (h1:xs.length=n) (h2:ys.length=n) (h:∀ j,j<n→xs[j]? = ys[j]?):xs=ys:=by
 refine List.ext_getElem? fun j => ?_
 by_cases hj:j<n
 · exact h j hj
 · rw [List.getElem?_eq_none (by omega),List.getElem?_eq_none (by omega)]
theorem ne_at {α : Type} {xs ys:List α} {i:Nat} {x y : α} (hx:xs[i]? = some x) (hy:ys[i]? = some y) (hne:¬ x=y):¬ xs=ys:=by
 intro e;rw [e,hy] at hx;injection hx with hx;exact hne hx.symm
theorem upto_next {α : Type} {xs ys:List α} {i:Nat} {x : α} (hx:xs[i]? = some x) (hy:ys[i]? = some x) (h:∀ j,j<i→xs[j]? = ys[j]?):∀ j,j<i+1→xs[j]? = ys[j]? := fun j hj=>by
 by_cases e:j=i
 · subst e;rw [hx,hy]
 · exact h j (by omega)
instance:DecidableEq Shp:=fun a b=>decidable_of_iff (a.nm=b.nm∧a.cols=b.cols∧a.rows=b.rows) ⟨fun ⟨h1,h2,h3⟩=>by cases a;cases b;simp only at h1 h2 h3;rw [h1,h2,h3],fun h=>by rw [h];exact ⟨rfl,rfl,rfl⟩⟩
set_option maxRecDepth 100000 in
set_option maxHeartbeats 2000000 in
theorem eqT_any (w:World) (A:Option Addr) (n cap:Nat) (xs:List ByteArray) (B:Option Addr) (m c:Nat) (ys:List ByteArray) (h1:SE encTx w w.heap.size (.slice A n cap) xs) (h2:SE encTx w w.heap.size (.slice B m c) ys) :
 Calls Tryz.prog 52 #[.slice A n cap,.slice B m c] w fun e w'=>e = .returned (.bool (decide (xs=ys)))∧Below w.heap.size w w':=by
 have hl1:=h1.len.1;have hl2:=h2.len.1
 have hmx:n≤9223372036854775807:=by have:=h1.len.2;unfold maxLen at this;omega
 by_cases hnm:n=m
 · subst hnm
   have HL1:=Lib.hid hl1;have HL2:=Lib.hid hl2;have HX:=Lib.hid h1;have HY:=Lib.hid h2
   clear h1 h2 hl1 hl2
   go_enter Tryz.func52,Tryz.ntmps52
   go_upto_region 4 with (fail)
   go_loopw [13] (fun iv wr=>∃ i:Nat,i≤n∧iv = .int .i64 (i:Int)∧Hid (∀ j,j<i→xs[j]? = ys[j]?)∧Hid (Below w.heap.size w wr))
    (fun iv _=>n - (intOf iv).toNat)
   case atStart=>exact ⟨0,Nat.zero_le _,rfl,Lib.hid (fun j h=>by omega),Lib.hid (Below.refl _ _)⟩
   case round =>
    obtain ⟨i,hi,rfl,HT,HR⟩:=hrel
    by_cases hlt:i<n
    · have hii:(i:Int)<(n:Int):=by omega
      have hi0:(0:Int)≤(i:Int):=by omega
      obtain ⟨x,hx⟩:∃ x,xs[i]? = some x:=⟨_,List.getElem?_eq_getElem (by rw [HL1.out];exact hlt)⟩
      obtain ⟨y,hy⟩:∃ y,ys[i]? = some y:=⟨_,List.getElem?_eq_getElem (by rw [HL2.out];exact hlt)⟩
      obtain ⟨pb,po,rfl,hpb,e0⟩:=tx_at HX.out hx
      obtain ⟨qb,qo,rfl,hqb,f0⟩:=tx_at HY.out hy
      have x0:wr.cell? ⟨pb,po+i,none⟩=some (.string x):=(HR.out.cell (p:=⟨pb,po+i,none⟩) hpb).trans e0
      have y0:wr.cell? ⟨qb,qo+i,none⟩=some (.string y):=(HR.out.cell (p:=⟨qb,qo+i,none⟩) hqb).trans f0
      have HX1:=Lib.hid hx;have HY1:=Lib.hid hy
      have htl:=tl_eq x y
      clear e0 f0 hx hy
      by_cases he:x=y
      · subst he
        rw [decide_eq_true rfl] at htl
        have HF:=Lib.hid (upto_next HX1.out HY1.out HT.out)
        go_upto_region 6 with (fail)
        go_quiet (fail)
        go_wp2_with fail
        go_roundw
        case rel=>exact ⟨i+1,by omega,by go_num,HF,Lib.hid (below_drawn HR.out _)⟩
        case measure=>simp [intOf];omega
      · rw [decide_eq_false he] at htl
        have HF:=Lib.hid (decide_eq_false (ne_at HX1.out HY1.out he))
        clear he
        go_upto_region 6 with (fail)
        go_quiet (fail)
        go_wp2_with fail
        go_ret
        exact ⟨ret_bool HF.out.symm,below_drawn HR.out _⟩
    · have hii:¬ (i:Int)<(n:Int):=by omega
      have HF:=Lib.hid (decide_eq_true (eq_upto HL1.out HL2.out (fun j hj=>HT.out j (by omega))))
      go_wp2_with fail
      go_ret
      exact ⟨ret_bool HF.out.symm,HR.out⟩
 · have hii:¬ (n:Int)=(m:Int):=by omega
   have hib:((n:Int) == (m:Int))=false:=beq_eq_false_iff_ne.2 hii
   have HF:=Lib.hid (show decide (xs=ys)=false from decide_eq_false (fun e=>hnm (by rw [← hl1, ← hl2,e])))
   clear h1 h2 hl1 hl2 hnm
   go_enter Tryz.func52,Tryz.ntmps52
   go_wp2_with fail
   go_ret
   exact ⟨ret_bool HF.out.symm,Below.refl _ _⟩
theorem map_at {α β : Type} {xs:List α} {f : α → β} {i:Nat} {x : α} (h:xs[i]? = some x):(xs.map f)[i]? = some (f x):=by rw [List.getElem?_map,h];rfl
def lns (rows:List Rv):List (List ByteArray):=rows.map (·.l)
def pgs (shs:List Sv):List Shp:=shs.map Sv.p
theorem p_eq {a b:Sv} (h1:a.nm=b.nm) (h2:a.cols=b.cols) (h3:lns a.rows=lns b.rows):a.p=b.p:=by
 unfold Sv.p lns at *;rw [h1,h2,h3]
theorem p_ne {a b:Sv} (h:¬ a.nm=b.nm∨¬ a.cols=b.cols∨¬ lns a.rows=lns b.rows):¬ a.p=b.p:=by
 intro e
 injection e with e1 e2 e3
 rcases h with h | h | h
 · exact h e1
 · exact h e2
 · exact h e3
set_option maxRecDepth 100000 in
set_option maxHeartbeats 2000000 in
theorem eqR_any (w:World) (A:Option Addr) (n cap:Nat) (xs:List Rv) (B:Option Addr) (m c:Nat) (ys:List Rv) (h1:RowsR w w.heap.size (.slice A n cap) xs) (h2:RowsR w w.heap.size (.slice B m c) ys) :
 Calls Tryz.prog 51 #[.slice A n cap,.slice B m c,.func (.func 52) #[] #[]] w fun e w'=>e = .returned (.bool (decide (lns xs=lns ys)))∧Below w.heap.size w w':=by
 have hl1:=h1.1.len.1;have hl2:=h2.1.len.1
 have hmx:n≤9223372036854775807:=by have:=h1.1.len.2;unfold maxLen at this;omega
 have hm1:(lns xs).length=n:=by unfold lns;rw [List.length_map];exact hl1
 have hm2:(lns ys).length=m:=by unfold lns;rw [List.length_map];exact hl2
 by_cases hnm:n=m
 · subst hnm
   have HL1:=Lib.hid hl1;have HL2:=Lib.hid hl2;have HX:=Lib.hid h1;have HY:=Lib.hid h2;have HM1:=Lib.hid hm1;have HM2:=Lib.hid hm2
   clear h1 h2 hl1 hl2 hm1 hm2
   go_enter Tryz.func51,Tryz.ntmps51
   go_upto_region 4 with (fail)
   go_loopw [17] (fun iv wr=>∃ i:Nat,i≤n∧iv = .int .i64 (i:Int)∧Hid (∀ j,j<i→(lns xs)[j]? = (lns ys)[j]?)∧Hid (Below w.heap.size w wr))
    (fun iv _=>n - (intOf iv).toNat)
   case atStart=>exact ⟨0,Nat.zero_le _,rfl,Lib.hid (fun j h=>by omega),Lib.hid (Below.refl _ _)⟩
   case round =>
    obtain ⟨i,hi,rfl,HT,HR⟩:=hrel
    by_cases hlt:i<n
    · have hii:(i:Int)<(n:Int):=by omega
      have hi0:(0:Int)≤(i:Int):=by omega
      obtain ⟨x,hx⟩:∃ x,xs[i]? = some x:=⟨_,List.getElem?_eq_getElem (by rw [HL1.out];exact hlt)⟩
      obtain ⟨y,hy⟩:∃ y,ys[i]? = some y:=⟨_,List.getElem?_eq_getElem (by rw [HL2.out];exact hlt)⟩
      obtain ⟨pb,po,rfl,hpb,e0,hrx⟩:=row_at HX.out hx
      obtain ⟨qb,qo,rfl,hqb,f0,hry⟩:=row_at HY.out hy
      have x0:wr.cell? ⟨pb,po+i,none⟩=some (.slice x.A x.l.length x.cap):=(HR.out.cell (p:=⟨pb,po+i,none⟩) hpb).trans e0
      have y0:wr.cell? ⟨qb,qo+i,none⟩=some (.slice y.A y.l.length y.cap):=(HR.out.cell (p:=⟨qb,qo+i,none⟩) hqb).trans f0
      have he:=eqT_any wr x.A x.l.length x.cap x.l y.A y.l.length y.cap y.l (hrx.lift HR.out) (hry.lift HR.out)
      have HX1:=Lib.hid (show (lns xs)[i]? = some x.l from map_at hx);have HY1:=Lib.hid (show (lns ys)[i]? = some y.l from map_at hy)
      clear e0 f0 hx hy hrx hry
      by_cases hxy:x.l=y.l
      · rw [decide_eq_true hxy] at he
        have HE:=Lib.hid he
        have HF:=Lib.hid (upto_next HX1.out (hxy ▸ HY1.out) HT.out)
        clear he hxy
        go_wp2_with (go_at_call 52;((with_reducible refine HE.out.mono ?_);rintro e w2 ⟨rfl,h1⟩;have H2:=Lib.hid (HR.out.trans (h1.mono HR.out.size));clear h1))
        go_roundw
        case rel=>exact ⟨i+1,by omega,by go_num,HF,H2⟩
        case measure=>simp [intOf];omega
      · rw [decide_eq_false hxy] at he
        have HE:=Lib.hid he
        have HF:=Lib.hid (decide_eq_false (ne_at HX1.out HY1.out hxy))
        clear he hxy
        go_wp2_with (go_at_call 52;((with_reducible refine HE.out.mono ?_);rintro e w2 ⟨rfl,h1⟩;have H2:=Lib.hid (HR.out.trans (h1.mono HR.out.size));clear h1))
        go_ret
        exact ⟨ret_bool HF.out.symm,H2.out⟩
    · have hii:¬ (i:Int)<(n:Int):=by omega
      have HF:=Lib.hid (decide_eq_true (eq_upto HM1.out HM2.out (fun j hj=>HT.out j (by omega))))
      go_wp2_with fail
      go_ret
      exact ⟨ret_bool HF.out.symm,HR.out⟩
 · have hii:¬ (n:Int)=(m:Int):=by omega
   have hib:((n:Int) == (m:Int))=false:=beq_eq_false_iff_ne.2 hii
   have HF:=Lib.hid (show decide (lns xs=lns ys)=false from decide_eq_false (fun e=>hnm (by rw [← hm1, ← hm2,e])))
   clear h1 h2 hl1 hl2 hnm hm1 hm2
   go_enter Tryz.func51,Tryz.ntmps51
   go_wp2_with fail
   go_ret
   exact ⟨ret_bool HF.out.symm,Below.refl _ _⟩
theorem two_sheets (w:World) (n1 n2:ByteArray) (c1 c2:Int) (v1 v2:Value):∃ w2,(w.alloc (.cells #[.string n1,.int .i64 c1,v1] 47)).alloc (.cells #[.string n2,.int .i64 c2,v2] 47)=w2∧Below w.heap.size w w2∧ShAt w2 w.heap.size n1 c1 v1∧ShAt w2 (w.heap.size+1) n2 c2 v2∧w2.heap.size=w.heap.size+2:=by
 refine ⟨_,rfl,(below_sh w n1 c1 v1).trans ((below_sh (w.alloc (.cells #[.string n1,.int .i64 c1,v1] 47)) n2 c2 v2).mono (below_sh w n1 c1 v1).size),(ShAt.new w n1 c1 v1).over (below_sh _ _ _ _), ?_,by rw [World.size_alloc,World.size_alloc]⟩
 have:=ShAt.new (w.alloc (.cells #[.string n1,.int .i64 c1,v1] 47)) n2 c2 v2
 rwa [World.size_alloc] at this
set_option maxRecDepth 100000 in
set_option maxHeartbeats 2000000 in
theorem sameSheet_any (w:World) (a b:Sv) (h1:RowsR w w.heap.size (.slice a.A a.rows.length a.cap) a.rows) (h2:RowsR w w.heap.size (.slice b.A b.rows.length b.cap) b.rows) :
 Calls Tryz.prog 34 #[.agg #[.string a.nm,.int .i64 a.cols,.slice a.A a.rows.length a.cap],.agg #[.string b.nm,.int .i64 b.cols,.slice b.A b.rows.length b.cap]] w fun e w'=>e = .returned (.bool (decide (a.p=b.p)))∧Below w.heap.size w w':=by
 obtain ⟨w2,hw2,hb,hs1,hs2,hsz⟩:=two_sheets w a.nm b.nm a.cols b.cols (.slice a.A a.rows.length a.cap) (.slice b.A b.rows.length b.cap)
 have he:=eqR_any w2 a.A a.rows.length a.cap a.rows b.A b.rows.length b.cap b.rows (h1.lift hb) (h2.lift hb)
 have htl:=tl_eq a.nm b.nm
 have HB:=Lib.hid hb;have HS1:=Lib.hid hs1;have HS2:=Lib.hid hs2
 clear h1 h2 hb hs1 hs2
 by_cases e1:a.nm=b.nm
 · rw [decide_eq_true e1] at htl
   by_cases e2:a.cols=b.cols
   · by_cases e3:lns a.rows=lns b.rows
     · rw [decide_eq_true e3] at he
       have HE:=Lib.hid he
       have HF:=Lib.hid (decide_eq_true (p_eq e1 e2 e3))
       have e2b:(a.cols == b.cols)=true:=beq_iff_eq.2 e2
       clear he e1 e3 e2
       go_enter Tryz.func34,Tryz.ntmps34
       go_upto_region 1 with (fail)
       clear hw2
       obtain ⟨x0,x1,x2⟩:=HS1.out.cells
       obtain ⟨y0,y1,y2⟩:=HS2.out.cells
       go_wp2_with (go_at_call 51;((with_reducible refine HE.out.mono ?_);rintro e w3 ⟨rfl,h1⟩;have H3:=Lib.hid (HB.out.trans (h1.mono HB.out.size));clear h1))
       go_ret
       exact ⟨ret_bool HF.out.symm,H3.out⟩
     · rw [decide_eq_false e3] at he
       have HE:=Lib.hid he
       have HF:=Lib.hid (decide_eq_false (p_ne (.inr (.inr e3))))
       have e2b:(a.cols == b.cols)=true:=beq_iff_eq.2 e2
       clear he e1 e3 e2
       go_enter Tryz.func34,Tryz.ntmps34
       go_upto_region 1 with (fail)
       clear hw2
       obtain ⟨x0,x1,x2⟩:=HS1.out.cells
       obtain ⟨y0,y1,y2⟩:=HS2.out.cells
       go_wp2_with (go_at_call 51;((with_reducible refine HE.out.mono ?_);rintro e w3 ⟨rfl,h1⟩;have H3:=Lib.hid (HB.out.trans (h1.mono HB.out.size));clear h1))
       go_ret
       exact ⟨ret_bool HF.out.symm,H3.out⟩
   · have e2b:(a.cols == b.cols)=false:=beq_eq_false_iff_ne.2 e2
     have HF:=Lib.hid (decide_eq_false (p_ne (.inr (.inl e2))))
     clear he e1
     go_enter Tryz.func34,Tryz.ntmps34
     go_upto_region 1 with (fail)
     clear hw2
     obtain ⟨x0,x1,x2⟩:=HS1.out.cells
     obtain ⟨y0,y1,y2⟩:=HS2.out.cells
     go_wp2_with fail
     go_ret
     exact ⟨ret_bool HF.out.symm,HB.out⟩
 · rw [decide_eq_false e1] at htl
   have HF:=Lib.hid (decide_eq_false (p_ne (.inl e1)))
   clear he e1
   go_enter Tryz.func34,Tryz.ntmps34
   go_upto_region 1 with (fail)
   clear hw2
   obtain ⟨x0,x1,x2⟩:=HS1.out.cells
   obtain ⟨y0,y1,y2⟩:=HS2.out.cells
   go_wp2_with fail
   go_ret
   exact ⟨ret_bool HF.out.symm,HB.out⟩
theorem two_books (w:World) (v1 v2:Value):∃ w2,(w.alloc (.cells #[v1] 26)).alloc (.cells #[v2] 26)=w2∧Below w.heap.size w w2∧BkAt w2 w.heap.size v1∧BkAt w2 (w.heap.size+1) v2∧w2.heap.size=w.heap.size+2:=by
 refine ⟨_,rfl,(below_bk w v1).trans ((below_bk (w.alloc (.cells #[v1] 26)) v2).mono (below_bk w v1).size),(BkAt.new w v1).over (below_bk _ _), ?_,by rw [World.size_alloc,World.size_alloc]⟩
 have:=BkAt.new (w.alloc (.cells #[v1] 26)) v2
 rwa [World.size_alloc] at this
set_option maxRecDepth 100000 in
set_option maxHeartbeats 2000000 in
theorem eqS_any (w:World) (A:Option Addr) (n cap:Nat) (xs:List Sv) (B:Option Addr) (m c:Nat) (ys:List Sv) (h1:BkR w w.heap.size (.slice A n cap) xs) (h2:BkR w w.heap.size (.slice B m c) ys) :
 Calls Tryz.prog 33 #[.slice A n cap,.slice B m c,.func (.func 34) #[] #[]] w fun e w'=>e = .returned (.bool (decide (pgs xs=pgs ys)))∧Below w.heap.size w w':=by
 have hl1:=h1.1.len.1;have hl2:=h2.1.len.1
 have hmx:n≤9223372036854775807:=by have:=h1.1.len.2;unfold maxLen at this;omega
 have hm1:(pgs xs).length=n:=by unfold pgs;rw [List.length_map];exact hl1
 have hm2:(pgs ys).length=m:=by unfold pgs;rw [List.length_map];exact hl2
 by_cases hnm:n=m
 · subst hnm
   have HL1:=Lib.hid hl1;have HL2:=Lib.hid hl2;have HX:=Lib.hid h1;have HY:=Lib.hid h2;have HM1:=Lib.hid hm1;have HM2:=Lib.hid hm2
   clear h1 h2 hl1 hl2 hm1 hm2
   go_enter Tryz.func33,Tryz.ntmps33
   go_upto_region 4 with (fail)
   go_loopw [17] (fun iv wr=>∃ i:Nat,i≤n∧iv = .int .i64 (i:Int)∧Hid (∀ j,j<i→(pgs xs)[j]? = (pgs ys)[j]?)∧Hid (Below w.heap.size w wr))
    (fun iv _=>n - (intOf iv).toNat)
   case atStart=>exact ⟨0,Nat.zero_le _,rfl,Lib.hid (fun j h=>by omega),Lib.hid (Below.refl _ _)⟩
   case round =>
    obtain ⟨i,hi,rfl,HT,HR⟩:=hrel
    by_cases hlt:i<n
    · have hii:(i:Int)<(n:Int):=by omega
      have hi0:(0:Int)≤(i:Int):=by omega
      obtain ⟨x,hx⟩:∃ x,xs[i]? = some x:=⟨_,List.getElem?_eq_getElem (by rw [HL1.out];exact hlt)⟩
      obtain ⟨y,hy⟩:∃ y,ys[i]? = some y:=⟨_,List.getElem?_eq_getElem (by rw [HL2.out];exact hlt)⟩
      obtain ⟨pb,po,rfl,hpb,e0,e1,e2,hrx⟩:=sh_at HX.out hx
      obtain ⟨qb,qo,rfl,hqb,f0,f1,f2,hry⟩:=sh_at HY.out hy
      have x0:wr.cell? ⟨pb,po+i*3,none⟩=some (.string x.nm):=(HR.out.cell (p:=⟨pb,po+i*3,none⟩) hpb).trans e0
      have x1:wr.cell? ⟨pb,po+i*3+1,none⟩=some (.int .i64 x.cols):=(HR.out.cell (p:=⟨pb,po+i*3+1,none⟩) hpb).trans e1
      have x2:wr.cell? ⟨pb,po+i*3+2,none⟩=some (.slice x.A x.rows.length x.cap):=(HR.out.cell (p:=⟨pb,po+i*3+2,none⟩) hpb).trans e2
      have FY0:=Lib.hid ((HR.out.cell (p:=⟨qb,qo+i*3,none⟩) hqb).trans f0)
      have FY1:=Lib.hid ((HR.out.cell (p:=⟨qb,qo+i*3+1,none⟩) hqb).trans f1)
      have FY2:=Lib.hid ((HR.out.cell (p:=⟨qb,qo+i*3+2,none⟩) hqb).trans f2)
      have hqr:qb<wr.heap.size:=Nat.lt_of_lt_of_le hqb HR.out.size
      have he:=fun (w2:World) (hb:Below wr.heap.size wr w2)=>sameSheet_any w2 x y ((hrx.lift HR.out).lift hb) ((hry.lift HR.out).lift hb)
      have HX1:=Lib.hid (show (pgs xs)[i]? = some x.p from map_at hx);have HY1:=Lib.hid (show (pgs ys)[i]? = some y.p from map_at hy)
      clear e0 e1 e2 f0 f1 f2 hx hy hrx hry
      by_cases hxy:x.p=y.p
      · simp only [decide_eq_true hxy] at he
        have HE:=Lib.hid he
        have HF:=Lib.hid (upto_next HX1.out (hxy ▸ HY1.out) HT.out)
        clear he hxy
        go_upto_region 6 with (fail)
        clear x0 x1 x2
        have HN1:=Lib.hid (ShAt.new wr x.nm x.cols (.slice x.A x.rows.length x.cap))
        have HW1:=Lib.hid (below_sh wr x.nm x.cols (.slice x.A x.rows.length x.cap))
        obtain ⟨w1,hw1⟩:∃ w1,wr.alloc (.cells #[.string x.nm,.int .i64 x.cols,.slice x.A x.rows.length x.cap] 47)=w1:=⟨_,rfl⟩
        rw [hw1] at HN1 HW1 ⊢
        clear hw1
        have y0:w1.cell? ⟨qb,qo+i*3,none⟩=some (.string y.nm):=(HW1.out.cell (p:=⟨qb,qo+i*3,none⟩) hqr).trans FY0.out
        have y1:w1.cell? ⟨qb,qo+i*3+1,none⟩=some (.int .i64 y.cols):=(HW1.out.cell (p:=⟨qb,qo+i*3+1,none⟩) hqr).trans FY1.out
        have y2:w1.cell? ⟨qb,qo+i*3+2,none⟩=some (.slice y.A y.rows.length y.cap):=(HW1.out.cell (p:=⟨qb,qo+i*3+2,none⟩) hqr).trans FY2.out
        go_upto_region 7 with (fail)
        clear y0 y1 y2
        have HN2:=Lib.hid (ShAt.new w1 y.nm y.cols (.slice y.A y.rows.length y.cap))
        have HM1:=Lib.hid (HN1.out.over (below_sh w1 y.nm y.cols (.slice y.A y.rows.length y.cap)))
        have HW2:=Lib.hid (HW1.out.trans ((below_sh w1 y.nm y.cols (.slice y.A y.rows.length y.cap)).mono HW1.out.size))
        obtain ⟨w2,hw2⟩:∃ w2,w1.alloc (.cells #[.string y.nm,.int .i64 y.cols,.slice y.A y.rows.length y.cap] 47)=w2:=⟨_,rfl⟩
        rw [hw2] at HN2 HM1 HW2 ⊢
        clear hw2
        obtain ⟨u0,u1,u2⟩:=HM1.out.cells
        obtain ⟨v0,v1,v2⟩:=HN2.out.cells
        have HB2:=Lib.hid (HR.out.trans (HW2.out.mono HR.out.size))
        go_wp2_with (go_at_call 34;((with_reducible refine (HE.out _ HW2.out).mono ?_);rintro e w3 ⟨rfl,h1⟩;have H2:=Lib.hid (HB2.out.trans (h1.mono HB2.out.size));clear h1))
        go_roundw
        case rel=>exact ⟨i+1,by omega,by go_num,HF,H2⟩
        case measure=>simp [intOf];omega
      · simp only [decide_eq_false hxy] at he
        have HE:=Lib.hid he
        have HF:=Lib.hid (decide_eq_false (ne_at HX1.out HY1.out hxy))
        clear he hxy
        go_upto_region 6 with (fail)
        clear x0 x1 x2
        have HN1:=Lib.hid (ShAt.new wr x.nm x.cols (.slice x.A x.rows.length x.cap))
        have HW1:=Lib.hid (below_sh wr x.nm x.cols (.slice x.A x.rows.length x.cap))
        obtain ⟨w1,hw1⟩:∃ w1,wr.alloc (.cells #[.string x.nm,.int .i64 x.cols,.slice x.A x.rows.length x.cap] 47)=w1:=⟨_,rfl⟩
        rw [hw1] at HN1 HW1 ⊢
        clear hw1
        have y0:w1.cell? ⟨qb,qo+i*3,none⟩=some (.string y.nm):=(HW1.out.cell (p:=⟨qb,qo+i*3,none⟩) hqr).trans FY0.out
        have y1:w1.cell? ⟨qb,qo+i*3+1,none⟩=some (.int .i64 y.cols):=(HW1.out.cell (p:=⟨qb,qo+i*3+1,none⟩) hqr).trans FY1.out
        have y2:w1.cell? ⟨qb,qo+i*3+2,none⟩=some (.slice y.A y.rows.length y.cap):=(HW1.out.cell (p:=⟨qb,qo+i*3+2,none⟩) hqr).trans FY2.out
        go_upto_region 7 with (fail)
        clear y0 y1 y2
        have HN2:=Lib.hid (ShAt.new w1 y.nm y.cols (.slice y.A y.rows.length y.cap))
        have HM1:=Lib.hid (HN1.out.over (below_sh w1 y.nm y.cols (.slice y.A y.rows.length y.cap)))
        have HW2:=Lib.hid (HW1.out.trans ((below_sh w1 y.nm y.cols (.slice y.A y.rows.length y.cap)).mono HW1.out.size))
        obtain ⟨w2,hw2⟩:∃ w2,w1.alloc (.cells #[.string y.nm,.int .i64 y.cols,.slice y.A y.rows.length y.cap] 47)=w2:=⟨_,rfl⟩
        rw [hw2] at HN2 HM1 HW2 ⊢
        clear hw2
        obtain ⟨u0,u1,u2⟩:=HM1.out.cells
        obtain ⟨v0,v1,v2⟩:=HN2.out.cells
        have HB2:=Lib.hid (HR.out.trans (HW2.out.mono HR.out.size))
        go_wp2_with (go_at_call 34;((with_reducible refine (HE.out _ HW2.out).mono ?_);rintro e w3 ⟨rfl,h1⟩;have H2:=Lib.hid (HB2.out.trans (h1.mono HB2.out.size));clear h1))
        go_ret
        exact ⟨ret_bool HF.out.symm,H2.out⟩
    · have hii:¬ (i:Int)<(n:Int):=by omega
      have HF:=Lib.hid (decide_eq_true (eq_upto HM1.out HM2.out (fun j hj=>HT.out j (by omega))))
      go_wp2_with fail
      go_ret
      exact ⟨ret_bool HF.out.symm,HR.out⟩
 · have hii:¬ (n:Int)=(m:Int):=by omega
   have hib:((n:Int) == (m:Int))=false:=beq_eq_false_iff_ne.2 hii
   have HF:=Lib.hid (show decide (pgs xs=pgs ys)=false from decide_eq_false (fun e=>hnm (by rw [← hm1, ← hm2,e])))
   clear h1 h2 hl1 hl2 hnm hm1 hm2
   go_enter Tryz.func33,Tryz.ntmps33
   go_wp2_with fail
   go_ret
   exact ⟨ret_bool HF.out.symm,Below.refl _ _⟩
set_option maxRecDepth 100000 in
set_option maxHeartbeats 1600000 in
theorem same_any (w:World) (A:Option Addr) (n cap:Nat) (xs:List Sv) (B:Option Addr) (m c:Nat) (ys:List Sv) (h1:BkR w w.heap.size (.slice A n cap) xs) (h2:BkR w w.heap.size (.slice B m c) ys) :
 Calls Tryz.prog 18 #[.agg #[.slice A n cap],.agg #[.slice B m c]] w fun e w'=>e = .returned (.bool (decide (pgs xs=pgs ys)))∧Below w.heap.size w w':=by
 obtain ⟨w2,hw2,hb,hs1,hs2,hsz⟩:=two_books w (.slice A n cap) (.slice B m c)
 have HE:=Lib.hid (eqS_any w2 A n cap xs B m c ys (h1.lift hb) (h2.lift hb))
 have HB:=Lib.hid hb;have HS1:=Lib.hid hs1;have HS2:=Lib.hid hs2
 clear h1 h2 hb hs1 hs2
 go_enter Tryz.func18,Tryz.ntmps18
 go_upto_region 1 with (fail)
 clear hw2
 have u0:=HS1.out.cell
 have v0:=HS2.out.cell
 go_wp2_with (go_at_call 33;((with_reducible refine HE.out.mono ?_);rintro e w3 ⟨rfl,h1⟩;have H3:=Lib.hid (HB.out.trans (h1.mono HB.out.size));clear h1))
 go_ret
 exact ⟨rfl,H3.out⟩
set_option maxRecDepth 100000 in
set_option maxHeartbeats 2000000 in
theorem refTexts_any (w:World) (A:Option Addr) (n cap:Nat) (xs:List ByteArray) (B:Option Addr) (m c:Nat) (ys:List ByteArray) (h1:SE encTx w w.heap.size (.slice A n cap) xs) (h2:SE encTx w w.heap.size (.slice B m c) ys) :
 Calls Tryz.prog 50 #[.slice A n cap,.slice B m c] w fun e w'=>e = .returned (.bool (decide (xs=ys)))∧Below w.heap.size w w':=by
 have hl1:=h1.len.1;have hl2:=h2.len.1
 have hmx:n≤9223372036854775807:=by have:=h1.len.2;unfold maxLen at this;omega
 by_cases hnm:n=m
 · subst hnm
   have HL1:=Lib.hid hl1;have HL2:=Lib.hid hl2;have HX:=Lib.hid h1;have HY:=Lib.hid h2
   clear h1 h2 hl1 hl2
   go_enter Tryz.func50,Tryz.ntmps50
   go_upto_region 4 with (fail)
   go_loopw [5] (fun iv wr=>∃ i:Nat,i≤n∧iv = .int .i64 (i:Int)∧Hid (∀ j,j<i→xs[j]? = ys[j]?)∧Hid (Below w.heap.size w wr))
    (fun iv _=>n - (intOf iv).toNat)
   case atStart=>exact ⟨0,Nat.zero_le _,rfl,Lib.hid (fun j h=>by omega),Lib.hid (Below.refl _ _)⟩
   case round =>
    obtain ⟨i,hi,rfl,HT,HR⟩:=hrel
    by_cases hlt:i<n
    · have hii:(i:Int)<(n:Int):=by omega
      have hi0:(0:Int)≤(i:Int):=by omega
      obtain ⟨x,hx⟩:∃ x,xs[i]? = some x:=⟨_,List.getElem?_eq_getElem (by rw [HL1.out];exact hlt)⟩
      obtain ⟨y,hy⟩:∃ y,ys[i]? = some y:=⟨_,List.getElem?_eq_getElem (by rw [HL2.out];exact hlt)⟩
      obtain ⟨pb,po,rfl,hpb,e0⟩:=tx_at HX.out hx
      obtain ⟨qb,qo,rfl,hqb,f0⟩:=tx_at HY.out hy
      have x0:wr.cell? ⟨pb,po+i,none⟩=some (.string x):=(HR.out.cell (p:=⟨pb,po+i,none⟩) hpb).trans e0
      have y0:wr.cell? ⟨qb,qo+i,none⟩=some (.string y):=(HR.out.cell (p:=⟨qb,qo+i,none⟩) hqb).trans f0
      have HX1:=Lib.hid hx;have HY1:=Lib.hid hy
      have htl:=tl_eq x y
      clear e0 f0 hx hy
      by_cases he:x=y
      · subst he
        rw [decide_eq_true rfl] at htl
        have HF:=Lib.hid (upto_next HX1.out HY1.out HT.out)
        go_upto_region 6 with (fail)
        go_quiet (fail)
        go_wp2_with fail
        go_roundw
        case rel=>exact ⟨i+1,by omega,by go_num,HF,Lib.hid (below_drawn HR.out _)⟩
        case measure=>simp [intOf];omega
      · rw [decide_eq_false he] at htl
        have HF:=Lib.hid (decide_eq_false (ne_at HX1.out HY1.out he))
        clear he
        go_upto_region 6 with (fail)
        go_quiet (fail)
        go_wp2_with fail
        go_ret
        exact ⟨ret_bool HF.out.symm,below_drawn HR.out _⟩
    · have hii:¬ (i:Int)<(n:Int):=by omega
      have HF:=Lib.hid (decide_eq_true (eq_upto HL1.out HL2.out (fun j hj=>HT.out j (by omega))))
      go_wp2_with fail
      go_ret
      exact ⟨ret_bool HF.out.symm,HR.out⟩
 · have hii:¬ (n:Int)=(m:Int):=by omega
   have hib:((n:Int) == (m:Int))=false:=beq_eq_false_iff_ne.2 hii
   have HF:=Lib.hid (show decide (xs=ys)=false from decide_eq_false (fun e=>hnm (by rw [← hl1, ← hl2,e])))
   clear h1 h2 hl1 hl2 hnm
   go_enter Tryz.func50,Tryz.ntmps50
   go_wp2_with fail
   go_ret
   exact ⟨ret_bool HF.out.symm,Below.refl _ _⟩
theorem sh_size:(Tryz.prog.info? 47).map (·.size)=some 3:=by kernel_rfl
theorem bk_size:(Tryz.prog.info? 26).map (·.size)=some 1:=by kernel_rfl
theorem out_sh {w:World} {b:Nat} {nm:ByteArray} {c:Int} {A:Option Addr} {n cap:Nat} (h:ShAt w b nm c (.slice A n cap)) (fn:Func) (tmps:Array Value) (s:Tmp) (hf:fn.results=#[.cell s 47]) (hp:tmps.getD s undef = .pointer (some ⟨b,0,none⟩)) :
 (results fn tmps).run Tryz.prog w = .ok (.agg #[.string nm,.int .i64 c,.slice A n cap]) w :=
 results_cell_row hf tmps w b _ _ _ _ hp h Tryz.underlying47 rfl sh_size
theorem out_bk {w:World} {b:Nat} {A:Option Addr} {n cap:Nat} (h:BkAt w b (.slice A n cap)) (fn:Func) (tmps:Array Value) (s:Tmp) (hf:fn.results=#[.cell s 26]) (hp:tmps.getD s undef = .pointer (some ⟨b,0,none⟩)) :
 (results fn tmps).run Tryz.prog w = .ok (.agg #[.slice A n cap]) w :=
 results_cell_row hf tmps w b _ _ _ _ hp h Tryz.underlying26 rfl bk_size
theorem ShAt.put2 {w:World} {b:Nat} {nm:ByteArray} {c:Int} {v:Value} (h:ShAt w b nm c v) (u:Value):ShAt (w.setCell ⟨b,2,none⟩ u) b nm c u:=by
 unfold ShAt;rw [heap_setCell_same _ b 2 _ _ _ h];rfl
theorem ShAt.put3 {w:World} {b:Nat} {n0:ByteArray} {c0:Int} {v0:Value} (h:ShAt w b n0 c0 v0) (nm:ByteArray) (c:Int) (v:Value):ShAt (((w.setCell ⟨b,0,none⟩ (.string nm)).setCell ⟨b,1,none⟩ (.int .i64 c)).setCell ⟨b,2,none⟩ v) b nm c v:=by
 have h1:(w.setCell ⟨b,0,none⟩ (.string nm)).heap[b]? = some (.cells #[.string nm,.int .i64 c0,v0] 47):=by rw [heap_setCell_same w b 0 _ _ _ h];rfl
 have h2:((w.setCell ⟨b,0,none⟩ (.string nm)).setCell ⟨b,1,none⟩ (.int .i64 c)).heap[b]? = some (.cells #[.string nm,.int .i64 c,v0] 47):=by rw [heap_setCell_same _ b 1 _ _ _ h1];rfl
 unfold ShAt;rw [heap_setCell_same _ b 2 _ _ _ h2];rfl
theorem ShAt.other {w:World} {b:Nat} {nm:ByteArray} {c:Int} {v:Value} (h:ShAt w b nm c v) (a:Addr) (u:Value) (hne:b≠a.block):ShAt (w.setCell a u) b nm c v:=by
 unfold ShAt;rw [heap_setCell_other _ _ _ _ hne];exact h
theorem BkAt.put {w:World} {b:Nat} {v:Value} (h:BkAt w b v) (u:Value):BkAt (w.setCell ⟨b,0,none⟩ u) b u:=by
 unfold BkAt;rw [heap_setCell_same _ b 0 _ _ _ h];rfl
theorem BkAt.other {w:World} {b:Nat} {v:Value} (h:BkAt w b v) (a:Addr) (u:Value) (hne:b≠a.block):BkAt (w.setCell a u) b v:=by
 unfold BkAt;rw [heap_setCell_other _ _ _ _ hne];exact h
theorem belowS3 {w w1:World} {B z:Nat} (h:Below B w w1) (hz:B≤z) (a b c:Value):Below B w (((w1.setCell ⟨z,0,none⟩ a).setCell ⟨z,1,none⟩ b).setCell ⟨z,2,none⟩ c) :=
 ((h.setCell hz _).setCell hz _).setCell hz _
theorem heap_put3 (w:World) (z g:Nat) (a b c:Value) (h:g≠z):(((w.setCell ⟨z,0,none⟩ a).setCell ⟨z,1,none⟩ b).setCell ⟨z,2,none⟩ c).heap[g]? = w.heap[g]? := by
 rw [heap_setCell_other _ _ _ _ (by exact h),heap_setCell_other _ _ _ _ (by exact h),heap_setCell_other _ _ _ _ (by exact h)]
theorem size_put3 (w:World) (z:Nat) (a b c:Value):(((w.setCell ⟨z,0,none⟩ a).setCell ⟨z,1,none⟩ b).setCell ⟨z,2,none⟩ c).heap.size=w.heap.size:=by
 rw [World.size_setCell,World.size_setCell,World.size_setCell]
theorem res_copySheet:Tryz.f36.results=#[.cell 2 47]:=by kernel_rfl
set_option maxRecDepth 100000 in
set_option maxHeartbeats 4000000 in
theorem copySheet_any (w:World) (s:Sv) (h:RowsR w w.heap.size (.slice s.A s.rows.length s.cap) s.rows) (hn:s.rows.length≤1000000) (hz:∀ r∈s.rows,r.l.length≤1000000) :
 Calls Tryz.prog 36 #[.agg #[.string s.nm,.int .i64 s.cols,.slice s.A s.rows.length s.cap]] w fun e w'=>Below w.heap.size w w'∧∃ A' rvs,e = .returned (.agg #[.string s.nm,.int .i64 s.cols,.slice A' s.rows.length s.rows.length])∧rvs.map (·.l)=s.rows.map (·.l)∧RwO w' A' s.rows.length rvs w.heap.size w'.heap.size:=by
 obtain ⟨w2,hw2,hb,hs1,hs2,hsz⟩:=two_sheets w s.nm ⟨#[]⟩ s.cols 0 (.slice s.A s.rows.length s.cap) (.slice none 0 0)
 have he:=eachR_any w2 s.A s.rows.length s.cap s.rows (h.lift hb) hn hz
 obtain ⟨n,hn2⟩:∃ n,s.rows.length=n:=⟨_,rfl⟩
 rw [hn2] at hw2 hs1 he ⊢
 have HE:=Lib.hid he;have HB:=Lib.hid hb;have HS1:=Lib.hid hs1;have HS2:=Lib.hid hs2;have HSZ:=Lib.hid hsz
 clear h hz hb hs1 hs2 he hn hn2 hsz
 go_enter Tryz.func36,Tryz.ntmps36
 go_upto_region 1 with (fail)
 clear hw2
 obtain ⟨x0,x1,x2⟩:=HS1.out.cells
 go_upto_region 2 with (go_at_call 53;((with_reducible refine HE.out.mono ?_);rintro e w3 ⟨h1,A2,rvs,rfl,hm,h2⟩;have H3:=Lib.hid h1;have HM:=Lib.hid hm;have HN:=Lib.hid h2;obtain ⟨y0,y1,y2⟩:=(HS1.out.over h1).cells;obtain ⟨m0,m1,m2⟩:=(HS1.out.over h1).melts;clear h1 h2 hm))
 clear x0 x1 x2 y0 y1 y2 m0 m1 m2
 have HP1:=Lib.hid ((HS1.out.over H3.out).put2 (.slice A2 n n))
 have HP2:=Lib.hid ((HS2.out.over H3.out).other ⟨w.heap.size,2,none⟩ (.slice A2 n n) (by show w.heap.size+1≠w.heap.size;omega))
 have HS4:=Lib.hid (World.size_setCell w3 ⟨w.heap.size,2,none⟩ (.slice A2 n n))
 have HB4:=Lib.hid ((HB.out.trans (H3.out.mono HB.out.size)).setCell (p:=⟨w.heap.size,2,none⟩) (Nat.le_refl _) (.slice A2 n n))
 have HN4:=Lib.hid (HN.out.keep (w':=w3.setCell ⟨w.heap.size,2,none⟩ (.slice A2 n n)) fun g h1 _=>heap_setCell_other w3 _ g _ (by show g≠w.heap.size;have:=HSZ.out;omega))
 obtain ⟨w4,hw4⟩:∃ w4,w3.setCell ⟨w.heap.size,2,none⟩ (.slice A2 n n)=w4:=⟨_,rfl⟩
 rw [hw4] at HP1 HP2 HS4 HB4 HN4 ⊢
 clear hw4
 obtain ⟨x0,x1,x2⟩:=HP1.out.cells
 obtain ⟨y0,y1,y2⟩:=HP2.out.cells
 obtain ⟨m0,m1,m2⟩:=HP2.out.melts
 go_wp2_with fail
 refine bodyPost_ret (out_sh (HP2.out.put3 s.nm s.cols (.slice A2 n n)) _ _ 2 res_copySheet rfl) rfl ⟨belowS3 HB4.out (by omega) _ _ _,A2,rvs,rfl,HM.out, ?_⟩
 rw [size_put3,HS4.out]
 refine (HN4.out.keep fun g h1 h2=>heap_put3 w4 _ g _ _ _ (by have:=HSZ.out;omega)).up (by have:=HSZ.out;omega) (Nat.le_refl _)
end Go.Proofs.YtdphoaabaajonaaGreatDoor
