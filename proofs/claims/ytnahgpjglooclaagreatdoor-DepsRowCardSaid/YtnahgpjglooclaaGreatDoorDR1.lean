/-
 Texts of layers, put together.
-/
import Derived.Test.YtnahgpjglooclaaGreatDoorRows
import Derived.WalkKit
import Derived.WalkSpells
import Derived.WalkLawsBesides
import Derived.WalkSmall
import Derived.Handy
import Derived.Deep.QuietTactic
import Derived.BigQuiet
import Derived.RegionTactic
import Derived.BigRegion
import Derived.StillTailTactics
import Derived.Lib.Hide
import Derived.Laws.Rows
import Derived.Laws.CopyOwn
import Derived.Laws.CopyRow
import Derived.Deep.MidRow
import Derived.Deep.WholeRow
import Derived.Deep.Cut
import Derived.Deep.RegionLaw
import Derived.Laws.BytesArg
import Derived.MapKept
import Derived.Maps.AppendAt
import Derived.Deep.AppendSrc
import Derived.Deep.RegionHeld3
import Derived.ProofKit
import Derived.OpenShut
import Derived.Deep.DeepHandedRow
import Derived.Lib.LaidTab
namespace Go.Proofs.YtnahgpjglooclaaGreatDoor
open Go.RowKit
theorem run_storeVar_row {P:Program} (w:World) (g:Nat) (ty t:TypeId) (cur cells:Array Value) (hg:w.heap[g]? = some (.cells cur t)) (hs:cur.size=cells.size)
 (hi:(P.info? ty).map (·.size)=some cells.size) (h1:∀ v∈cells.toList,v.oneCell'=true) :
 (storeVar ty ⟨g,0,none⟩ (.agg cells)).run P w = .ok () (w.setRow g cells):=by
 have:=run_storeCells_at P g 0 t cells.toList 0 cur w hg (by simp;omega) h1
 cases hq:P.info? ty with
 | none=>simp [hq] at hi
 | some i =>
   have hs':cells.size=i.size:=by simp [hq] at hi;omega
   simp [storeVar,sizeOf,typeInfo,hq,Value.cells,hs',this]
   congr 1
   have:List.drop i.size cur.toList=[]:=by rw [List.drop_eq_nil_iff];simp;omega
   rw [this];simp
theorem wp_store_row {P:Program} {op:Oper} {a:Act} {w:World} {K:Act→World→Prop} {Q:Exit→Act→World→Prop} (ty:TypeId) (x y:Operand) (ho:op.op = .store ty x y)
 (g:Nat) (t:TypeId) (cur cells:Array Value) (hx:a.eval x = .pointer (some ⟨g,0,none⟩)) (hy:a.eval y = .agg cells) (hg:w.heap[g]? = some (.cells cur t)) (hs:cur.size=cells.size)
 (hi:(P.info? ty).map (·.size)=some cells.size) (h1:∀ v∈cells.toList,v.oneCell'=true)
 (h:K (a.put op.dst undef) (w.setRow g cells)):op.wp P a w K Q:=by
 unfold Oper.wp execOp
 simp only [ho,hx,hy,Instr.storeAt,Instr.sureAddr,Sem.run_bind,Sem.run_pure,Result.andThen_ok,run_storeVar_row w g ty t cur cells hg hs hi h1]
 exact h
theorem wpList_store_row {P:Program} {ops:Array Oper} {rest:List Oper} {op:Oper} {a:Act} {w:World} {Q:Exit→Act→World→Prop} (hgd:op.guard=none) (ty:TypeId) (x y:Operand) (ho:op.op = .store ty x y)
 (g:Nat) (t:TypeId) (cur cells:Array Value) (hx:a.eval x = .pointer (some ⟨g,0,none⟩)) (hy:a.eval y = .agg cells) (hg:w.heap[g]? = some (.cells cur t)) (hs:cur.size=cells.size)
 (hi:(P.info? ty).map (·.size)=some cells.size) (h1:∀ v∈cells.toList,v.oneCell'=true)
 (h:wpList P ops Q rest (a.put op.dst undef) (w.setRow g cells)):wpList P ops Q (op :: rest) a w :=
 wpList_plain hgd fun _ hK=>wp_store_row ty x y ho g t cur cells hx hy hg hs hi h1 (hK _ _ h)
structure Elem (P:Program) (t e:TypeId) (size bytes:Nat):Prop where
 und:P.underlying t=some (.slice e)
 inf:∃ z:Value,(P.info? e).map (fun i=>(i.zero,i.size,i.bytes))=some (some z,size,bytes)∧z.cells.size=size
 pos:0<size
structure Enc (α : Type) (size:Nat) where
 f : α → List Value
 len:∀ a,(f a).length=size
 one:∀ a,∀ u∈f a,u.oneCell'=true
def Enc.all {α : Type} {size:Nat} (E:Enc α size) (xs:List α):List Value:=xs.flatMap E.f
theorem Enc.length_all {α : Type} {size:Nat} (E:Enc α size) (xs:List α):(E.all xs).length=xs.length*size:=by
 unfold Enc.all
 induction xs with
 | nil=>simp
 | cons a l ih=>rw [List.flatMap_cons,List.length_append,ih,E.len,List.length_cons,Nat.add_mul];omega
theorem Enc.all_append {α : Type} {size:Nat} (E:Enc α size) (xs ys:List α):E.all (xs++ys)=E.all xs++E.all ys:=by
 unfold Enc.all;exact List.flatMap_append ..
theorem Enc.one_all {α : Type} {size:Nat} (E:Enc α size) (xs:List α):∀ u∈E.all xs,u.oneCell'=true:=by
 intro u hu;unfold Enc.all at hu;rw [List.mem_flatMap] at hu;obtain ⟨a,_,h⟩:=hu;exact E.one a u h
theorem Enc.at {α : Type} {size:Nat} (E:Enc α size) (xs:List α) (i j:Nat) (a : α) (ha:xs[i]? = some a) (hj:j<size):(E.all xs)[i*size+j]? = (E.f a)[j]? := by
 unfold Enc.all
 induction xs generalizing i with
 | nil=>simp at ha
 | cons b l ih =>
   rw [List.flatMap_cons]
   cases i with
   | zero =>
     simp at ha;subst ha
     rw [Nat.zero_mul,Nat.zero_add,List.getElem?_append_left (by rw [E.len];exact hj)]
   | succ i =>
     have:(i+1)*size=i*size+size:=Nat.succ_mul i size
     rw [List.getElem?_append_right (by rw [E.len];omega),E.len]
     have e:(i+1)*size+j - size=i*size+j:=by omega
     rw [e];exact ih i (by simpa using ha)
def Own {α : Type} {size:Nat} (E:Enc α size) (e:TypeId) (w:World) (base:Nat) (v:Value) (xs:List α):Prop:=w.ownsRow base e size v xs.length (E.all xs)
theorem Own.nil {α : Type} {size:Nat} (E:Enc α size) (e:TypeId) (w:World) (base:Nat):Own E e w base (.slice none 0 0) ([]:List α):=World.ownsRow_nil w base e size
theorem Own.alloc {α : Type} {size:Nat} {E:Enc α size} {e:TypeId} {w:World} {base:Nat} {v:Value} {xs:List α} (h:Own E e w base v xs) (o:Obj):Own E e (w.alloc o) base v xs:=World.ownsRow.alloc h o
theorem Own.drew {α : Type} {size:Nat} {E:Enc α size} {e:TypeId} {w:World} {base:Nat} {v:Value} {xs:List α} (h:Own E e w base v xs):Own E e w.drew base v xs:=h
theorem Own.drewN {α : Type} {size:Nat} {E:Enc α size} {e:TypeId} {w:World} {base:Nat} {v:Value} {xs:List α} (h:Own E e w base v xs) (n:Nat):Own E e (w.drewN n) base v xs:=h
theorem Own.mono {α : Type} {size:Nat} {E:Enc α size} {e:TypeId} {w:World} {base base':Nat} {v:Value} {xs:List α} (h:Own E e w base v xs) (hb:base'≤base):Own E e w base' v xs:=by
 refine ⟨h.1, ?_⟩
 rcases h.2 with h | ⟨g,cap,cur,h1,h2,h3⟩
 · exact .inl h
 · exact .inr ⟨g,cap,cur,h1,by omega,h3⟩
theorem Own.below {α : Type} {size:Nat} {E:Enc α size} {e:TypeId} {w w':World} {base B:Nat} {v:Value} {xs:List α} (h:Own E e w base v xs) (hb:Below B w w') (hB:w.heap.size≤B):Own E e w' base v xs:=by
 refine ⟨h.1, ?_⟩
 rcases h.2 with h | ⟨g,cap,cur,h1,h2,h3,h4⟩
 · exact .inl h
 · refine .inr ⟨g,cap,cur,h1,h2, ?_,h4⟩
   rw [hb.block g (by have:=(Array.getElem?_eq_some_iff.1 h3).1;omega)];exact h3
theorem Own.shape {α : Type} {size:Nat} {E:Enc α size} {e:TypeId} {w:World} {base:Nat} {v:Value} {xs:List α} (h:Own E e w base v xs) :
 (v = .slice none 0 0∧xs=[])∨∃ g cap,v = .slice (some ⟨g,0,none⟩) xs.length cap∧base≤g∧g<w.heap.size∧xs.length≤cap∧cap≤maxLen:=by
 rcases h.2 with ⟨h1,h2⟩ | ⟨g,cap,cur,h1,h2,h3,h4,h5,_⟩
 · exact .inl ⟨h1,List.length_eq_zero_iff.1 h2⟩
 · exact .inr ⟨g,cap,h1,h2,(Array.getElem?_eq_some_iff.1 h3).1,h4,h5⟩
theorem Own.cells {α : Type} {size:Nat} {E:Enc α size} {e:TypeId} {w:World} {base g cap n:Nat} {xs:List α} (h:Own E e w base (.slice (some ⟨g,0,none⟩) n cap) xs) (j:Nat) (u:Value) (hj:(E.all xs)[j]? = some u) :
 w.cell? ⟨g,j,none⟩=some u:=by
 have:=World.ownsRow.cells h (g:=g) rfl j u hj
 rw [Addr.add_mid,Nat.zero_add] at this;exact this
theorem wpList_app {P:Program} {α : Type} {size t e bytes:Nat} {w:World} {ops:Array Oper} {rest:List Oper} {o:Oper} {a:Act} {Q:Exit→Act→World→Prop} (EL:Elem P t e size bytes) (E:Enc α size)
 (hgd:o.guard=none) (s x:Operand) (ho:o.op = .call { callee := .builtin .append,args:=#[s,x],argTypes:=#[t,t] }) (base:Nat) (v:Value) (xs:List α)
 (hs:a.eval s=v) (hown:Own E e w base v xs) (ad:Addr) (m c:Nat) (ys:List α) (hx:a.eval x = .slice (some ad) m c) (hl:ys.length=m)
 (hc:∀ (j:Nat) (u:Value),(E.all ys)[j]? = some u→w.cell? (ad.add j)=some u) (hb:(xs.length+m)*bytes≤140737488355328) (hb2:xs.length+m≤maxLen) (hbase:base≤w.heap.size)
 (h:∀ (v':Value) (w':World),Own E e w' base v' (xs++ys)→Below base w w'→wpList P ops Q rest (a.put o.dst v') w'):wpList P ops Q (o :: rest) a w:=by
 obtain ⟨z,hi,hz⟩:=EL.inf
 obtain ⟨i,hi1,hi2,hi3,hi4⟩:=info_parts hi
 refine wpList_append_own w hgd s x t ho base e i z size bytes EL.und hi1 hi2 hi3 hi4 hz EL.pos v xs.length (E.all xs) hs hown ad m c (E.all ys) hx (by rw [E.length_all,hl]) hc (E.one_all ys) hb2 hb hbase ?_
 intro v' w' h1 h2 _
 refine h v' w' ?_ ?_
 · unfold Own;rw [E.all_append,List.length_append,hl];exact h1
 · refine Below.grown (Below.refl _ _) h2 hbase ?_
   intro k hk
   exact (World.ownsRow.lt hown k hk).1
theorem cells_new {w:World} (C:Array Value) (t:TypeId) (l:List Value) (hC:C.toList=l) (j:Nat) (u:Value) (hj:l[j]? = some u):(w.alloc (.cells C t)).cell? ((⟨w.heap.size,0,none⟩:Addr).add j)=some u:=by
 rw [Addr.add_mid,Nat.zero_add,World.cell?_alloc_at _ _ _ _ rfl]
 subst hC
 simpa using hj
def encInt (k:IntKind):Enc Int 1:={ f:=fun n=>[.int k n],len:=fun _=>rfl,one:=fun _ u hu=>by simp at hu;subst hu;rfl }
theorem all_encInt (k:IntKind) (l:List Int):(encInt k).all l=l.map (Value.int k):=by
 unfold Enc.all encInt
 induction l with
 | nil=>rfl
 | cons a l ih=>rw [List.flatMap_cons,List.map_cons,ih];rfl
theorem getElem?_map_int (k:IntKind) (xs:List Int) (i:Nat) (h:i<xs.length):(xs.map (Value.int k))[i]? = some (.int k (xs.getD i 0)):=by
 simp [List.getElem?_eq_getElem h,List.getD_eq_getElem?_getD]
theorem Own.intCell {k:IntKind} {e:TypeId} {w:World} {base g cap n:Nat} {xs:List Int} (h:Own (encInt k) e w base (.slice (some ⟨g,0,none⟩) n cap) xs) (i:Nat) (hi:i<xs.length) :
 w.cell? ⟨g,i,none⟩=some (.int k (xs.getD i 0)):=by
 apply Own.cells h;rw [all_encInt];exact getElem?_map_int k xs i hi
theorem Own.some {α : Type} {size:Nat} {E:Enc α size} {e:TypeId} {w:World} {base:Nat} {v:Value} {xs:List α} (h:Own E e w base v xs) (hne:0<xs.length) :
 ∃ g cap,v = .slice (some ⟨g,0,none⟩) xs.length cap∧base≤g∧g<w.heap.size∧xs.length≤cap∧cap≤maxLen:=by
 rcases h.shape with ⟨_,rfl⟩ | h
 · exact absurd hne (by simp)
 · exact h
theorem cell_other {w w':World} {row:Option Nat} (h:w.grownBy w' row) {a:Addr} (hlt:a.block<w.heap.size) (hne:some a.block≠row):w'.cell? a=w.cell? a:=by
 simp only [World.cell?,h.block a.block hlt hne]
theorem grownBy.refl' (w:World) (r:Option Nat):w.grownBy w r:=⟨rfl,rfl,rfl,Nat.le_refl _,fun _ _ _=>rfl⟩
theorem grownBy.trans' {a b c:World} {r:Option Nat} (h:a.grownBy b r) (k:b.grownBy c r):a.grownBy c r :=
 ⟨k.os.trans h.os,k.tape.trans h.tape,k.output.trans h.output,Nat.le_trans h.size k.size,fun j hj hr=>(k.block j (Nat.lt_of_lt_of_le hj h.size) hr).trans (h.block j hj hr)⟩
theorem grownBy.setCell' {a w:World} {b:Nat} (h:a.grownBy w (some b)) (o:Nat) (v:Value):a.grownBy (w.setCell ⟨b,o,none⟩ v) (some b) :=
 ⟨h.os,h.tape,h.output,by simpa using h.size,fun j hj hr=>by
  rw [Below.heap_setCell _ _ _ _ (by intro e;exact hr (by rw [e]))];exact h.block j hj hr⟩
theorem grownBy.drewN' {a w:World} {r:Option Nat} (h:a.grownBy w r) (n:Nat):a.grownBy (w.drewN n) r:=⟨h.os,h.tape,h.output,h.size,h.block⟩
theorem grownBy.below' {a w w':World} {r:Option Nat} (h:a.grownBy w r) (k:Below w.heap.size w w'):a.grownBy w' r :=
 ⟨k.os.trans h.os,k.tape.trans h.tape,k.output.trans h.output,Nat.le_trans h.size k.size,fun j hj hr=>(k.block j (Nat.lt_of_lt_of_le hj h.size)).trans (h.block j hj hr)⟩
theorem ret_int {k:IntKind} {a b:Int} (h:a=b):Ending.returned (.int k a) = .returned (.int k b):=by rw [h]
def sb (s:ByteArray):List Int:=s.data.toList.map (fun b=>(b.toNat:Int))
theorem length_sb (s:ByteArray):(sb s).length=s.size:=by unfold sb;simp
theorem sb_at (s:ByteArray) (k:Nat) (h:k<s.size):(sb s)[k]? = some ((s[k].toNat:Nat):Int):=by
 unfold sb;rw [List.getElem?_map,List.getElem?_eq_getElem (by simpa using h)];rfl
theorem sb_bd (s:ByteArray):∀ a∈sb s,0≤a∧a≤255:=by
 intro a ha;unfold sb at ha;rw [List.mem_map] at ha;obtain ⟨b,_,rfl⟩:=ha
 have:=b.toNat_lt;omega
theorem sb_getD (s:ByteArray) (k:Nat) (h:k<s.size):(sb s).getD k 0=((s[k].toNat:Nat):Int):=by
 rw [List.getD_eq_getElem?_getD,sb_at s k h];rfl
def Bytes (l:List Int):Prop:=∀ a∈l,0≤a∧a≤255
theorem Bytes.append {a b:List Int} (h:Bytes a) (k:Bytes b):Bytes (a++b):=by
 intro x hx;rw [List.mem_append] at hx;rcases hx with hx | hx
 · exact h x hx
 · exact k x hx
theorem Bytes.nil:Bytes []:=by intro a ha;simp at ha
theorem sb_str (l:List Int) (h:Bytes l):sb (strOfNums l)=l:=by
 unfold sb
 rw [strOfNums_data,List.map_map]
 conv=>rhs;rw [← List.map_id l]
 apply List.map_congr_left
 intro a ha
 have:=h a ha
 simp only [Function.comp,id]
 rw [UInt8.toNat_ofNat_of_lt' (by show a.toNat<256;omega)];omega
theorem str_sb (s:ByteArray):strOfNums (sb s)=s:=by
 have:(strOfNums (sb s)).data=s.data:=by
  apply Array.toList_inj.1
  rw [strOfNums_data]
  unfold sb
  rw [List.map_map]
  conv=>rhs;rw [← List.map_id s.data.toList]
  apply List.map_congr_left
  intro a _
  simp only [Function.comp,id,Int.toNat_natCast]
  exact UInt8.ofNat_toNat
 cases s with
 | mk d => 
   cases hq:strOfNums (sb ⟨d⟩) with
   | mk e=>rw [hq] at this;simp only at this;rw [this]
def isCap (c:Int):Bool:=decide (65≤c∧c≤90)
def isLet (c:Int):Bool:=decide (65≤c∧c≤90∨97≤c∧c≤122)
def isNum (c:Int):Bool:=decide (48≤c∧c≤57)
theorem ret_bool {a b:Bool} (h:a=b):Ending.returned (.bool a) = .returned (.bool b):=by rw [h]
theorem isCap_t {c:Int} (h:65≤c) (h2:c≤90):isCap c=true:=by unfold isCap;rw [decide_eq_true_iff];omega
theorem isCap_f {c:Int} (h:c<65∨90<c):isCap c=false:=by unfold isCap;rw [decide_eq_false_iff_not];omega
def inName (j:Nat) (c:Int):Bool:=isLet c||(decide (0<j)&&isNum c)
def nameL (l:List Int):Bool:=decide (∀ j,j<l.length→inName j (l.getD j 0)=true)&&decide (1≤l.length∧l.length≤12)
def colL (n:Int):List Int:=if n<0∨701<n then [] else if n<26 then [65+n] else [64+n / 26,65+n % 26]
def isCol (l:List Int):Bool:=decide (1≤l.length∧l.length≤2)&&(isCap (l.getD 0 0)&&isCap (l.getD (l.length - 1) 0))
def readColL (l:List Int):Int:=if isCol l=true then (if l.length=1 then l.getD 0 0 - 65 else 26*(l.getD 0 0 - 64)+(l.getD 1 0 - 65)) else 0
theorem nameL_bad (s:ByteArray) (k:Nat) (hk:k<s.size) (h:inName k ((sb s).getD k 0)=false):nameL (sb s)=false:=by
 unfold nameL
 rw [decide_eq_false (by intro hc;have:=hc k (by rw [length_sb];exact hk);rw [h] at this;cases this),Bool.false_and]
theorem nameL_all (s:ByteArray) (h:∀ j,j<s.size→inName j ((sb s).getD j 0)=true):nameL (sb s)=decide (1≤s.size∧s.size≤12):=by
 unfold nameL
 rw [decide_eq_true (by rw [length_sb];exact h),Bool.true_and,length_sb]
theorem str_append (a b:List Int):strOfNums a++strOfNums b=strOfNums (a++b):=by
 have h:(strOfNums a++strOfNums b).data=(strOfNums (a++b)).data:=by
  apply Array.toList_inj.1
  rw [ByteArray.data_append,Array.toList_append,strOfNums_data,strOfNums_data,strOfNums_data,List.map_append]
 cases hx:strOfNums a++strOfNums b with
 | mk d =>
   cases hy:strOfNums (a++b) with
   | mk e=>rw [hx,hy] at h;simp only at h;rw [h]
theorem sb_append (a b:ByteArray):sb (a++b)=sb a++sb b:=by
 unfold sb;rw [ByteArray.data_append,Array.toList_append,List.map_append]
theorem ret_str {a b:ByteArray} (h:a=b):Ending.returned (.string a) = .returned (.string b):=by rw [h]
theorem val_str {a b:ByteArray} (h:a=b):Value.string a = .string b:=by rw [h]
def digL (u:Nat):List Int:=if u<10 then [48+(u:Int)] else digL (u / 10)++[48+((u % 10:Nat):Int)]
termination_by u
decreasing_by omega
theorem digL_small (u:Nat) (h:u<10):digL u=[48+(u:Int)]:=by rw [digL,if_pos h]
theorem digL_more (u:Nat) (h:¬ u<10):digL u=digL (u / 10)++[48+((u % 10:Nat):Int)]:=by rw [digL,if_neg h]
def decL (n:Int):List Int:=if n<0 then 45 :: digL n.natAbs else digL n.natAbs
def mayL (sh:List Int) (c r:Int):Bool:=(decide (sh=[])||nameL sh)&&decide (0≤c∧c≤701∧0≤r∧r≤998)
def textL (sh:List Int) (c r:Int) (ac ar:Bool):List Int :=
 if mayL sh c r=true then (((if sh=[] then [] else sh++[33])++(if ac=true then [36] else []))++colL c++(if ar=true then [36] else []))++digL (r+1).toNat else []
theorem list_bytes (a:ByteArray):a.toList=a.data.toList:=ByteArray.toList_eq a
theorem text_ne (a b:ByteArray) (h:¬ a=b):¬ a.toList=b.toList:=by
 rw [list_bytes,list_bytes,Array.toList_inj]
 intro hd;apply h
 cases a;cases b;simp only at hd;rw [hd]
theorem text_ne0 (a:ByteArray) (h:¬ a.size=0):¬ a.toList=[]:=by
 rw [list_bytes]
 intro hd;apply h
 show a.data.size=0
 rw [← Array.length_toList,hd];rfl
theorem sb_nil (s:ByteArray) (h:s.size=0):s=⟨#[]⟩:=by
 cases s with
 | mk d => have:d=#[]:=Array.eq_empty_of_size_eq_zero h
           rw [this]
theorem length_colL (n:Int):(colL n).length≤2:=by unfold colL;split <;> (try split) <;> simp
theorem length_digL (u:Nat):(digL u).length≤u+1:=by
 induction u using Nat.strongRecOn with
 | _ u ih =>
   by_cases h:u<10
   · rw [digL_small u h];simp
   · rw [digL_more u h,List.length_append]
     have:=ih (u / 10) (by omega)
     simp only [List.length_cons,List.length_nil];omega
theorem mayL_parts {sh:List Int} {c r:Int} (h:mayL sh c r=true):0≤c∧c≤701∧0≤r∧r≤998:=by
 unfold mayL at h;rw [Bool.and_eq_true,decide_eq_true_iff] at h;exact h.2
theorem below3 {w w0 w1 w2 w3:World} (h0:Below w.heap.size w w0) (h1:Below w0.heap.size w0 w1) (h2:Below w1.heap.size w1 w2) (h3:Below w2.heap.size w2 w3):Below w.heap.size w w3:=by
 have b1:=h0.trans (h1.mono h0.size)
 have b2:=b1.trans (h2.mono b1.size)
 exact b2.trans (h3.mono b2.size)
theorem span_unique (p:Int→Bool):∀ (a a' b b':List Int),(∀ x∈a,p x=true)→(∀ x∈a',p x=true)→(∀ x,b.head? = some x→p x=false)→(∀ x,b'.head? = some x→p x=false)→a++b=a'++b'→a=a'∧b=b'
 | [],[],_,_,_,_,_,_,h=>⟨rfl,h⟩
 | [],x :: a',b,b',_,h2,h3,_,h=>by
   rw [List.nil_append] at h
   have:=h3 x (by rw [h];rfl)
   rw [h2 x (by simp)] at this;cases this
 | x :: a,[],b,b',h1,_,_,h4,h=>by
   rw [List.nil_append] at h
   have:=h4 x (by rw [← h];rfl)
   rw [h1 x (by simp)] at this;cases this
 | x :: a,y :: a',b,b',h1,h2,h3,h4,h=>by
   rw [List.cons_append,List.cons_append] at h
   injection h with e h
   obtain ⟨r1,r2⟩:=span_unique p a a' b b' (fun z hz=>h1 z (by simp [hz])) (fun z hz=>h2 z (by simp [hz])) h3 h4 h
   exact ⟨by rw [e,r1],r2⟩
theorem isCap_colL (c:Int):∀ x∈colL c,isCap x=true:=by
 intro x hx
 unfold colL at hx
 split at hx
 · simp at hx
 · split at hx
   · simp at hx;subst hx;exact isCap_t (by omega) (by omega)
   · simp at hx
     rcases hx with rfl | rfl
     · exact isCap_t (by omega) (by omega)
     · exact isCap_t (by omega) (by omega)
theorem readCol_colL (c:Int) (h0:0≤c) (h1:c≤701):isCol (colL c)=true∧readColL (colL c)=c:=by
 have hcap:=isCap_colL c
 by_cases h:c<26
 · have e:colL c=[65+c]:=by unfold colL;rw [if_neg (by omega),if_pos h]
   have hc:isCol (colL c)=true:=by rw [e] at hcap ⊢;unfold isCol;have:=hcap (65+c) (by simp);simp [this]
   refine ⟨hc, ?_⟩
   unfold readColL;rw [if_pos hc,e];simp;omega
 · have e:colL c=[64+c / 26,65+c % 26]:=by unfold colL;rw [if_neg (by omega),if_neg h]
   have hc:isCol (colL c)=true:=by rw [e] at hcap ⊢;unfold isCol;have g1:=hcap (64+c / 26) (by simp);have g2:=hcap (65+c % 26) (by simp);simp [g1,g2]
   refine ⟨hc, ?_⟩
   unfold readColL;rw [if_pos hc,e];simp;omega
theorem cap_bd {x:Int} (h:isCap x=true):65≤x∧x≤90:=by unfold isCap at h;rw [decide_eq_true_iff] at h;exact h
theorem num_bd {x:Int} (h:isNum x=true):48≤x∧x≤57:=by unfold isNum at h;rw [decide_eq_true_iff] at h;exact h
theorem colL_readCol (l:List Int) (h:isCol l=true):colL (readColL l)=l∧0≤readColL l∧readColL l≤701:=by
 have hr:readColL l=(if l.length=1 then l.getD 0 0 - 65 else 26*(l.getD 0 0 - 64)+(l.getD 1 0 - 65)):=by unfold readColL;rw [if_pos h]
 unfold isCol at h
 rw [Bool.and_eq_true,Bool.and_eq_true,decide_eq_true_iff] at h
 obtain ⟨⟨h1,h2⟩,h3,h4⟩:=h
 match l,h1,h2,h3,h4,hr with
 | [a],_,_,h3,_,hr =>
   have:=cap_bd h3
   simp at this hr
   rw [hr]
   refine ⟨?_,by omega,by omega⟩
   unfold colL;rw [if_neg (by omega),if_pos (by omega)];congr 1;omega
 | [a,b],_,_,h3,h4,hr =>
   have g1:=cap_bd h3
   have g2:=cap_bd h4
   simp at g1 g2 hr
   rw [hr]
   refine ⟨?_,by omega,by omega⟩
   unfold colL;rw [if_neg (by omega),if_neg (by omega)];congr 1
   · omega
   · congr 1;omega
theorem isNum_digL (u:Nat):∀ x∈digL u,isNum x=true:=by
 induction u using Nat.strongRecOn with
 | _ u ih =>
   intro x hx
   by_cases h:u<10
   · rw [digL_small u h] at hx;simp at hx;subst hx;unfold isNum;rw [decide_eq_true_iff];omega
   · rw [digL_more u h,List.mem_append] at hx
     rcases hx with hx | hx
     · exact ih (u / 10) (by omega) x hx
     · simp at hx;subst hx;unfold isNum;rw [decide_eq_true_iff];omega
def valL (l:List Int):Int:=l.foldl (fun n d=>10*n+(d - 48)) 0
theorem valL_snoc (l:List Int) (d:Int):valL (l++[d])=10*valL l+(d - 48):=by unfold valL;rw [List.foldl_append];rfl
theorem valL_digL (u:Nat):valL (digL u)=u:=by
 induction u using Nat.strongRecOn with
 | _ u ih =>
   by_cases h:u<10
   · rw [digL_small u h];unfold valL;simp;omega
   · rw [digL_more u h,valL_snoc,ih (u / 10) (by omega)];omega
theorem digL_ne (u:Nat):digL u≠[]:=by
 by_cases h:u<10
 · rw [digL_small u h];simp
 · rw [digL_more u h];simp
theorem colL_ne (c:Int) (h0:0≤c) (h1:c≤701):colL c≠[]:=by
 unfold colL;rw [if_neg (by omega)];split <;> simp
def dol (b:Bool):List Int:=if b=true then [36] else []
theorem dol_all (b:Bool):∀ x∈dol b,decide (x=36)=true:=by cases b <;> simp [dol]
theorem dol_inj {a b:Bool} (h:dol a=dol b):a=b:=by cases a <;> cases b <;> simp [dol] at h ⊢
def tailL (c r:Int) (ac ar:Bool):List Int:=dol ac++(colL c++(dol ar++digL (r+1).toNat))
theorem head_append {a b:List Int} (h:a≠[]) {x:Int} (hx:(a++b).head? = some x):x∈a:=by
 cases a with
 | nil=>exact absurd rfl h
 | cons y a=>simp at hx;subst hx;simp
theorem tail_inj {c r c' r':Int} {ac ar ac' ar':Bool} (h0:0≤c) (h1:c≤701) (h2:0≤r) (k0:0≤c') (k1:c'≤701) (k2:0≤r') (h:tailL c r ac ar=tailL c' r' ac' ar'):c=c'∧r=r'∧ac=ac'∧ar=ar':=by
 unfold tailL at h
 have no36:∀ x,isCap x=true→decide (x=36)=false:=by intro x hx;have:=cap_bd hx;rw [decide_eq_false_iff_not];omega
 have no36n:∀ x,isNum x=true→decide (x=36)=false:=by intro x hx;have:=num_bd hx;rw [decide_eq_false_iff_not];omega
 have noCap:∀ (b:Bool) (u:Nat) (x:Int),(dol b++digL u).head? = some x→isCap x=false:=by
  intro b u x hx
  cases b with
  | true=>simp [dol] at hx;subst hx;decide
  | false =>
    have hx':(digL u++[]).head? = some x:=by simpa [dol] using hx
    have:=num_bd (isNum_digL u x (head_append (digL_ne u) hx'))
    exact isCap_f (by omega)
 obtain ⟨e1,e2⟩:=span_unique (fun x=>decide (x=36)) _ _ _ _ (dol_all ac) (dol_all ac')
  (fun x hx=>no36 x (isCap_colL c x (head_append (colL_ne c h0 h1) hx))) (fun x hx=>no36 x (isCap_colL c' x (head_append (colL_ne c' k0 k1) hx))) h
 obtain ⟨e3,e4⟩:=span_unique isCap _ _ _ _ (isCap_colL c) (isCap_colL c') (noCap ar _) (noCap ar' _) e2
 obtain ⟨e5,e6⟩:=span_unique (fun x=>decide (x=36)) _ _ _ _ (dol_all ar) (dol_all ar')
  (fun x hx=>no36n x (isNum_digL _ x (head_append (digL_ne _) (by rw [List.append_nil];exact hx)))) (fun x hx=>no36n x (isNum_digL _ x (head_append (digL_ne _) (by rw [List.append_nil];exact hx)))) e4
 refine ⟨?_, ?_,dol_inj e1,dol_inj e5⟩
 · rw [← (readCol_colL c h0 h1).2, ← (readCol_colL c' k0 k1).2,e3]
 · have:=valL_digL (r+1).toNat
   rw [e6,valL_digL] at this;omega
theorem tail_no33 (c r:Int) (ac ar:Bool):∀ x∈tailL c r ac ar,x≠33:=by
 intro x hx
 unfold tailL at hx
 simp only [List.mem_append] at hx
 rcases hx with h | h | h | h
 · have:=dol_all _ x h;rw [decide_eq_true_iff] at this;omega
 · have:=cap_bd (isCap_colL c x h);omega
 · have:=dol_all _ x h;rw [decide_eq_true_iff] at this;omega
 · have:=num_bd (isNum_digL _ x h);omega
theorem name_no33 (l:List Int) (h:nameL l=true):∀ x∈l,x≠33:=by
 intro x hx
 unfold nameL at h
 rw [Bool.and_eq_true,decide_eq_true_iff] at h
 obtain ⟨j,hj,rfl⟩:=List.mem_iff_getElem.1 hx
 have:=h.1 j hj
 rw [List.getD_eq_getElem?_getD,List.getElem?_eq_getElem hj] at this
 simp only [Option.getD_some] at this
 unfold inName isLet isNum at this
 simp only [Bool.or_eq_true,Bool.and_eq_true,decide_eq_true_iff] at this
 omega
theorem mayL_sheet {sh:List Int} {c r:Int} (h:mayL sh c r=true):sh=[]∨nameL sh=true:=by
 unfold mayL at h;rw [Bool.and_eq_true,Bool.or_eq_true,decide_eq_true_iff] at h;exact h.1
theorem mayL_nums {sh:List Int} {c r:Int} (h:mayL sh c r=true):0≤c∧c≤701∧0≤r∧r≤998:=by
 unfold mayL at h;rw [Bool.and_eq_true,decide_eq_true_iff] at h;exact h.2
theorem textL_eq (sh:List Int) (c r:Int) (ac ar:Bool) (h:mayL sh c r=true):textL sh c r ac ar=(if sh=[] then [] else sh++[33])++tailL c r ac ar:=by
 unfold textL tailL dol;rw [if_pos h];simp only [List.append_assoc]
theorem textL_inj {sh sh':List Int} {c r c' r':Int} {ac ar ac' ar':Bool} (h:mayL sh c r=true) (k:mayL sh' c' r'=true) (e:textL sh c r ac ar=textL sh' c' r' ac' ar') :
 sh=sh'∧c=c'∧r=r'∧ac=ac'∧ar=ar':=by
 obtain ⟨h0,h1,h2,_⟩:=mayL_nums h
 obtain ⟨k0,k1,k2,_⟩:=mayL_nums k
 rw [textL_eq _ _ _ _ _ h,textL_eq _ _ _ _ _ k] at e
 by_cases hs:sh=[]
 · by_cases ks:sh'=[]
   · rw [if_pos hs,if_pos ks] at e
     exact ⟨by rw [hs,ks],tail_inj h0 h1 h2 k0 k1 k2 e⟩
   · rw [if_pos hs,if_neg ks,List.nil_append] at e
     exact absurd rfl (tail_no33 c r ac ar 33 (by rw [e];simp))
 · by_cases ks:sh'=[]
   · rw [if_neg hs,if_pos ks,List.nil_append] at e
     exact absurd rfl (tail_no33 c' r' ac' ar' 33 (by rw [← e];simp))
   · rw [if_neg hs,if_neg ks,List.append_assoc,List.append_assoc] at e
     have n1:=(mayL_sheet h).resolve_left hs
     have n2:=(mayL_sheet k).resolve_left ks
     obtain ⟨e1,e2⟩:=span_unique (fun x=>decide (x≠33)) _ _ _ _ (fun x hx=>by rw [decide_eq_true_iff];exact name_no33 _ n1 x hx) (fun x hx=>by rw [decide_eq_true_iff];exact name_no33 _ n2 x hx)
      (fun x hx=>by simp at hx;subst hx;rfl) (fun x hx=>by simp at hx;subst hx;rfl) e
     exact ⟨e1,tail_inj h0 h1 h2 k0 k1 k2 (by injection e2)⟩
structure Shp where
 nm:ByteArray
 cols:Int
 rows:List (List ByteArray)
theorem Own.keep {α : Type} {size:Nat} {E:Enc α size} {e:TypeId} {w w':World} {base:Nat} {v:Value} {xs:List α} (h:Own E e w base v xs)
 (hk:∀ g,base≤g→g<w.heap.size→v.ownBlock=Option.some g→w'.heap[g]? = w.heap[g]?):Own E e w' base v xs:=by
 refine ⟨h.1, ?_⟩
 rcases h.2 with h | ⟨g,cap,cur,h1,h2,h3,h4⟩
 · exact .inl h
 · refine .inr ⟨g,cap,cur,h1,h2, ?_,h4⟩
   rw [hk g h2 (Array.getElem?_eq_some_iff.1 h3).1 (by rw [h1];rfl)];exact h3
theorem Own.lies {α : Type} {size:Nat} {E:Enc α size} {e:TypeId} {w:World} {base:Nat} {v:Value} {xs:List α} (h:Own E e w base v xs) {g:Nat} (hg:v.ownBlock=Option.some g):base≤g∧∃ cur,w.heap[g]? = Option.some (.cells cur e (0,0)):=by
 rcases h.2 with ⟨h1,_⟩ | ⟨b,cap,cur,h1,h2,h3,_⟩
 · rw [h1] at hg;cases hg
 · rw [h1] at hg;injection hg with hg
   have hg:b=g:=hg
   subst hg;exact ⟨h2,cur,h3⟩
theorem Own.less {α : Type} {size:Nat} {E:Enc α size} {e:TypeId} {w:World} {base:Nat} {v:Value} {xs:List α} (h:Own E e w base v xs) {g:Nat} (hg:v.ownBlock=Option.some g):g<w.heap.size:=by
 obtain ⟨_,cur,h3⟩:=h.lies hg
 exact (Array.getElem?_eq_some_iff.1 h3).1
theorem Own.away {α β : Type} {s1 s2:Nat} {E:Enc α s1} {F:Enc β s2} {e f:TypeId} {w:World} {b1 b2:Nat} {u v:Value} {xs:List α} {ys:List β} (h:Own E e w b1 u xs) (k:Own F f w b2 v ys) (hne:e≠f) {g:Nat} (hg:u.ownBlock=Option.some g):Option.some g≠v.ownBlock:=by
 intro hv
 obtain ⟨_,c1,h1⟩:=h.lies hg
 obtain ⟨_,c2,h2⟩:=k.lies hv.symm
 rw [h1] at h2
 injection h2 with h2
 injection h2 with h2 h3
 exact hne h3
def SE {α : Type} {k:Nat} (E:Enc α k) (w:World) (B:Nat) (v:Value) (xs:List α):Prop :=
 ∃ A cap,v = .slice A xs.length cap∧xs.length≤cap∧cap≤maxLen∧(xs=[]∨∃ pb po,A=some ⟨pb,po,none⟩∧pb<B∧∀ (j:Nat) (u:Value),(E.all xs)[j]? = some u→w.cell? ⟨pb,po+j,none⟩=some u)
theorem SE.below {α : Type} {k:Nat} {E:Enc α k} {w w':World} {B C:Nat} {v:Value} {xs:List α} (h:SE E w B v xs) (hb:Below C w w') (hC:B≤C):SE E w' B v xs:=by
 obtain ⟨A,cap,h1,h2,h3,h4⟩:=h
 refine ⟨A,cap,h1,h2,h3,h4.imp id ?_⟩
 rintro ⟨pb,po,e1,e2,e3⟩
 exact ⟨pb,po,e1,e2,fun j x hj=>(hb.cell (p:=⟨pb,po+j,none⟩) (by show pb<C;omega)).trans (e3 j x hj)⟩
theorem SE.mono {α : Type} {k:Nat} {E:Enc α k} {w:World} {B C:Nat} {v:Value} {xs:List α} (h:SE E w B v xs) (hC:B≤C):SE E w C v xs:=by
 obtain ⟨A,cap,h1,h2,h3,h4⟩:=h
 refine ⟨A,cap,h1,h2,h3,h4.imp id ?_⟩
 rintro ⟨pb,po,e1,e2,e3⟩
 exact ⟨pb,po,e1,by omega,e3⟩
theorem SE.lift {α : Type} {k:Nat} {E:Enc α k} {w w':World} {v:Value} {xs:List α} (h:SE E w w.heap.size v xs) (hb:Below w.heap.size w w'):SE E w' w'.heap.size v xs:=(h.below hb (Nat.le_refl _)).mono hb.size
theorem Own.se {α : Type} {k:Nat} {E:Enc α k} {e:TypeId} {w:World} {base:Nat} {v:Value} {xs:List α} (h:Own E e w base v xs):SE E w w.heap.size v xs:=by
 rcases h.shape with ⟨rfl,rfl⟩ | ⟨g,cap,rfl,hg,hl,hc,hm⟩
 · exact ⟨none,0,rfl,Nat.le_refl _,by unfold maxLen;omega,.inl rfl⟩
 · exact ⟨_,_,rfl,hc,hm,.inr ⟨g,0,rfl,hl,fun j u hj=>by rw [Nat.zero_add];exact h.cells j u hj⟩⟩
theorem SE.at {α : Type} {k:Nat} {E:Enc α k} {w:World} {B:Nat} {A:Option Addr} {n cap:Nat} {xs:List α} (h:SE E w B (.slice A n cap) xs) {i:Nat} {x : α} (hi:xs[i]? = some x) :
 ∃ pb po,A=some ⟨pb,po,none⟩∧pb<B∧∀ (j:Nat) (u:Value),(E.f x)[j]? = some u→w.cell? ⟨pb,po+(i*k+j),none⟩=some u:=by
 obtain ⟨A',cap',h1, -, -,h2⟩:=h
 injection h1 with e1 e2 e3
 subst e1
 rcases h2 with rfl | ⟨pb,po,h1,h2,h3⟩
 · simp at hi
 · refine ⟨pb,po,h1,h2,fun j u hj=>h3 _ u ?_⟩
   have hjk:j<k:=by rw [← E.len x];exact (List.getElem?_eq_some_iff.1 hj).1
   rw [E.at xs i j x hi hjk];exact hj
theorem SE.len {α : Type} {k:Nat} {E:Enc α k} {w:World} {B:Nat} {A:Option Addr} {n cap:Nat} {xs:List α} (h:SE E w B (.slice A n cap) xs):xs.length=n∧n≤cap∧cap≤maxLen:=by
 obtain ⟨A',cap',h1,h2,h3, -⟩:=h
 injection h1 with e1 e2 e3
 subst e3;exact ⟨e2.symm,by omega,h3⟩
theorem wpList_app_at {P:Program} {α : Type} {size t e bytes:Nat} {w:World} {ops:Array Oper} {rest:List Oper} {o:Oper} {a:Act} {Q:Exit→Act→World→Prop} (EL:Elem P t e size bytes) (E:Enc α size)
 (hgd:o.guard=none) (s x:Operand) (ho:o.op = .call { callee := .builtin .append,args:=#[s,x],argTypes:=#[t,t] }) (base:Nat) (v:Value) (xs:List α)
 (hs:a.eval s=v) (hown:Own E e w base v xs) (ad:Addr) (m c:Nat) (ys:List α) (hx:a.eval x = .slice (some ad) m c) (hl:ys.length=m)
 (hc:∀ (j:Nat) (u:Value),(E.all ys)[j]? = some u→w.cell? (ad.add j)=some u) (hb:(xs.length+m)*bytes≤140737488355328) (hb2:xs.length+m≤maxLen) (hbase:base≤w.heap.size)
 (h:∀ (v':Value) (w':World),Own E e w' base v' (xs++ys)→w.grownBy w' v.ownBlock→(v'.ownBlock=v.ownBlock∨v'.ownBlock=some w.heap.size)→wpList P ops Q rest (a.put o.dst v') w'):wpList P ops Q (o :: rest) a w:=by
 obtain ⟨z,hi,hz⟩:=EL.inf
 obtain ⟨i,hi1,hi2,hi3,hi4⟩:=info_parts hi
 refine wpList_append_own_at w hgd s x t ho base e i z size bytes EL.und hi1 hi2 hi3 hi4 hz EL.pos v xs.length (E.all xs) hs hown ad m c (E.all ys) hx (by rw [E.length_all,hl]) hc (E.one_all ys) hb2 hb hbase ?_
 intro v' w' h1 h2 _ h4
 refine h v' w' ?_ h2 h4
 unfold Own;rw [E.all_append,List.length_append,hl];exact h1
theorem step_app_at {P:Program} {α : Type} {size t e bytes:Nat} {w:World} {ops:Array Oper} {o:Oper} {a:Act} {K:Act→World→Prop} {Q:Exit→Act→World→Prop} {F:Prop} (EL:Elem P t e size bytes) (E:Enc α size)
 (hgd:o.guard=none) (s x:Operand) (ho:o.op = .call { callee := .builtin .append,args:=#[s,x],argTypes:=#[t,t] }) (base:Nat) (v:Value) (xs:List α)
 (hs:a.eval s=v) (hown:Own E e w base v xs) (ad:Addr) (m c:Nat) (ys:List α) (hx:a.eval x = .slice (some ad) m c) (hl:ys.length=m)
 (hc:∀ (j:Nat) (u:Value),(E.all ys)[j]? = some u→w.cell? (ad.add j)=some u) (hb:(xs.length+m)*bytes≤140737488355328) (hb2:xs.length+m≤maxLen) (hbase:base≤w.heap.size)
 (h:∀ (v':Value) (w':World),Own E e w' base v' (xs++ys)→w.grownBy w' v.ownBlock→(v'.ownBlock=v.ownBlock∨v'.ownBlock=some w.heap.size)→K (a.put o.dst v') w') :
 if Region.wanted o (yielded ops a.tmps)=true then Oper.wp P o a w K Q else F:=by
 have hw:Region.wanted o (yielded ops a.tmps)=true:=by simp [Region.wanted,hgd]
 rw [if_pos hw]
 obtain ⟨z,hi,hz⟩:=EL.inf
 obtain ⟨i,hi1,hi2,hi3,hi4⟩:=info_parts hi
 obtain ⟨v',w',hrun,r1,r2,_,r4⟩:=run_append_own_at (P:=P) w base t o.type e i z size bytes EL.und hi1 hi2 hi3 hi4 hz EL.pos v xs.length (E.all xs) hown ad m c (E.all ys) (by rw [E.length_all,hl]) hc (E.one_all ys) hb2 hb hbase
 unfold Oper.wp
 simp [execOp,ho,resolve,invoke,builtin,hs,hx,hrun,Result.andThen]
 refine h v' w' ?_ r2 r4
 unfold Own;rw [E.all_append,List.length_append,hl];exact r1
theorem Elem.u8:Elem Tryz.prog 38 5 1 1:=⟨Tryz.underlying38,⟨.int .u8 0,by kernel_rfl,rfl⟩,by decide⟩
abbrev Own8 (w:World) (base:Nat) (v:Value) (xs:List Int):Prop:=Own (encInt .u8) 5 w base v xs
theorem run_str8 {w:World} {base:Nat} {v:Value} {xs:List Int} (h:Own8 w base v xs):(convert 38 9 v).run Tryz.prog w = .ok (.string (strOfNums xs)) w:=by
 rcases h.shape with ⟨rfl,rfl⟩ | ⟨g,cap,rfl,h1,h2,h3,h4⟩
 · rw [run_convert_bytes_nil w _ 5 Tryz.underlying38 Tryz.underlying5 _ _ _ Tryz.underlying9];rfl
 · refine run_convert_bytes_arg w _ 5 Tryz.underlying38 Tryz.underlying5 g 0 _ cap xs rfl (fun i hi => ?_) _ Tryz.underlying9
   rw [Nat.zero_add];exact h.intCell i hi
theorem run_app_src {P:Program} {α : Type} {size t tx ty e bytes:Nat} {w:World} (EL:Elem P t e size bytes) (E:Enc α size) (base:Nat) (v:Value) (xs:List α) (hown:Own E e w base v xs)
 (x:Value) (m:Nat) (ys:List α) (hl:ys.length=m) (hs:Src P size tx x m (E.all ys) w) (hb:(xs.length+m)*bytes≤140737488355328) (hb2:xs.length+m≤maxLen) (hbase:base≤w.heap.size) :
 ∃ v' w',(Builtin.append_ #[t,tx] ty #[v,x]).run P w = .ok v' w'∧Own E e w' base v' (xs++ys)∧Below base w w':=by
 obtain ⟨z,hi,hz⟩:=EL.inf
 obtain ⟨i,hi1,hi2,hi3,hi4⟩:=info_parts hi
 have ht:=EL.und
 subst hi3
 subst hi4
 have hlx:=E.length_all xs
 have hly:=E.length_all ys
 rw [hl] at hly
 have hlen:(E.all (xs++ys)).length=(xs.length+m)*i.size:=by rw [E.length_all,List.length_append,hl]
 have hsmall:xs.length+m≤9223372036854775807:=by simp only [maxLen] at hb2;omega
 have grown:∀ (old:Nat),old<xs.length+m →
  Own E e (w.drew.alloc (.cells ((E.all xs++E.all ys).toArray++Builtin.zeroCells z.cells (grownCap w (xs.length+m) old e - (xs.length+m))) e)) base (.slice (some ⟨w.heap.size,0,none⟩) (xs.length+m) (grownCap w (xs.length+m) old e)) (xs++ys) ∧
  Below base w (w.drew.alloc (.cells ((E.all xs++E.all ys).toArray++Builtin.zeroCells z.cells (grownCap w (xs.length+m) old e - (xs.length+m))) e)):=by
  intro old ho
  have hge:=grownCap_ge w (xs.length+m) old e
  have hcm:grownCap w (xs.length+m) old e≤maxLen:=grownCap_le_maxLen w (xs.length+m) old e hb2
  refine ⟨?_,((Below.refl _ _).drew).alloc hbase _⟩
  unfold Own
  rw [List.length_append,hl]
  refine ⟨hlen,.inr ⟨w.heap.size,_,_,rfl,hbase,heap_alloc_new w.drew _,hge,hcm, ?_, ?_⟩⟩
  · simp only [Array.size_append,List.size_toArray,size_zeroCells,hz,List.length_append,hlx,hly, ← Nat.add_mul]
    congr 1
    omega
  · simp only [Array.toList_append]
    rw [← E.all_append, ← hlen]
    exact List.take_left
 have h0:=hown
 rcases hown.2 with ⟨rfl,hn⟩ | ⟨g,cap,cur,rfl,hbg,hg,hnc,hcm,hcs,htake⟩
 · have hx:xs=[]:=List.eq_nil_of_length_eq_zero hn
   subst hx
   by_cases hm:m=0
   · subst hm
     have hy:ys=[]:=List.eq_nil_of_length_eq_zero hl
     subst hy
     refine ⟨.slice none 0 0,w, ?_,Own.nil E e w base,Below.refl _ _⟩
     have hc:=hs.cells
     have hll:=hs.len
     have hc':(Builtin.firstCells i.size 0 x).run P w = .ok #[] w:=hc
     rcases hs.kind with ⟨e',hk⟩ | hk <;>
      simp [Builtin.append_,run_underlying ht,run_underlying hk,sizeOf,typeInfo,hi1,hll,hc']
   · have hgr:=grown 0 (by simp;omega)
     have hr:=run_append_grow_src (P:=P) w t tx ty e i z ht hi1 hi2 none 0 0 [] (by simp [Builtin.firstCells]) x m (E.all ys) hs (by omega) (by simp at hsmall;omega) (growslice_fits (by omega) (by simpa using hb))
     simp only [List.length_nil,Nat.zero_add,List.nil_append,Enc.all,List.flatMap_nil] at hgr hr ⊢
     exact ⟨_,_,hr,hgr.1,hgr.2⟩
 · by_cases hroom:xs.length+m≤cap
   · have hfit:xs.length*i.size+(E.all ys).length≤cur.size:=by rw [hly,hcs, ← Nat.add_mul];exact Nat.mul_le_mul_right _ hroom
     have hst:=run_storeCells_at P g (xs.length*i.size) e (E.all ys) 0 cur w hg (by omega) (E.one_all ys)
     simp only [Nat.add_zero] at hst
     refine ⟨.slice (some ⟨g,0,none⟩) (xs.length+m) cap,w.setRow g (cur.toList.take (xs.length*i.size)++E.all ys++cur.toList.drop (xs.length*i.size+(E.all ys).length)).toArray, ?_, ?_, ?_⟩
     · rcases hs.kind with ⟨e',hk⟩ | hk <;> simp [Builtin.append_,run_underlying ht,run_underlying hk,sizeOf,typeInfo,hi1,hs.len,hroom,hs.cells,Addr.add_lit,hst]
     · unfold Own
       rw [List.length_append,hl]
       refine ⟨hlen,.inr ⟨g,cap,_,rfl,hbg,setRow_heap w g cur _ e _ hg,hroom,hcm, ?_, ?_⟩⟩
       · simp only [List.size_toArray,List.length_append,List.length_take,List.length_drop,Array.length_toList]
         omega
       · rw [htake, ← hlen, ← E.all_append]
         exact List.take_left
     · exact ⟨rfl,rfl,rfl,by simp,fun k hk=>setRow_other w g k _ (by omega)⟩
   · have hold:(Builtin.firstCells i.size xs.length (.slice (some ⟨g,0,none⟩) xs.length cap)).run P w.drew = .ok (E.all xs).toArray w.drew :=
      run_firstCells_some w.drew i.size xs.length ⟨g,0,none⟩ xs.length cap (E.all xs) hlx (World.ownsRow.cells (w:=w.drew) h0 (g:=g) rfl)
     have hgr:=grown cap (by omega)
     have hr:=run_append_grow_src (P:=P) w t tx ty e i z ht hi1 hi2 (some ⟨g,0,none⟩) xs.length cap (E.all xs) hold x m (E.all ys) hs (by omega) (by omega) (growslice_fits (by omega) hb)
     exact ⟨_,_,hr,hgr.1,hgr.2⟩
theorem wpList_app_src {P:Program} {α : Type} {size t tx e bytes:Nat} {w:World} {ops:Array Oper} {rest:List Oper} {o:Oper} {a:Act} {Q:Exit→Act→World→Prop} (EL:Elem P t e size bytes) (E:Enc α size)
 (hgd:o.guard=none) (s x:Operand) (ho:o.op = .call { callee := .builtin .append,args:=#[s,x],argTypes:=#[t,tx] }) (base:Nat) (v:Value) (xs:List α)
 (hs:a.eval s=v) (hown:Own E e w base v xs) (y:Value) (m:Nat) (ys:List α) (hx:a.eval x=y) (hl:ys.length=m) (hsrc:Src P size tx y m (E.all ys) w)
 (hb:(xs.length+m)*bytes≤140737488355328) (hb2:xs.length+m≤maxLen) (hbase:base≤w.heap.size)
 (h:∀ (v':Value) (w':World),Own E e w' base v' (xs++ys)→Below base w w'→wpList P ops Q rest (a.put o.dst v') w'):wpList P ops Q (o :: rest) a w:=by
 obtain ⟨v',w',hrun,h2,h3⟩:=run_app_src (ty:=o.type) EL E base v xs hown y m ys hl hsrc hb hb2 hbase
 refine wpList_plain hgd fun _ hK => ?_
 unfold Oper.wp execOp
 simp only [ho,resolve,invoke,builtin,Sem.run_bind,Sem.run_pure,Result.andThen_ok,List.map_toArray,List.map_cons,List.map_nil,hs,hx,hrun]
 exact hK _ _ (h v' w' h2 h3)
theorem byteCells_sb (s:ByteArray):byteCells s=(encInt .u8).all (sb s):=by
 rw [all_encInt];unfold byteCells sb;rw [List.map_map];rfl
theorem src_text {w:World} (s:ByteArray):Src Tryz.prog 1 9 (.string s) s.size ((encInt .u8).all (sb s)) w:=by
 rw [← byteCells_sb];exact Src.ofString w Tryz.underlying9 s
theorem Own.other {α : Type} {size:Nat} {E:Enc α size} {e:TypeId} {w w':World} {base r:Nat} {v:Value} {xs:List α} (h:Own E e w base v xs) (hg:w.grownBy w' (Option.some r)) (hr:r<base):Own E e w' base v xs:=by
 refine ⟨h.1, ?_⟩
 rcases h.2 with h | ⟨g,cap,cur,h1,h2,h3,h4⟩
 · exact .inl h
 · refine .inr ⟨g,cap,cur,h1,h2, ?_,h4⟩
   rw [hg.block g (Array.getElem?_eq_some_iff.1 h3).1 (by intro h;have:g=r:=Option.some.inj h;omega)];exact h3
theorem held_one {P:Program} {md:Region.Mode} {ops:Array Oper} {Q:Exit→Act→World→Prop} {S:World→Prop} {i:Nat} {oi:Oper} {d:Option Tmp} {fuel:Nat} {listed listed':Array Bool} {a:Act} {w:World} (hi:ops[i]? = some oi) (hd:oi.dst=d)
 (hr:Region.ready md ops listed=[i]) (hl:listed.setIfInBounds i true=listed') (hw:Region.wanted oi (yielded ops a.tmps)=true)
 (h:∀ K:Act→World→Prop,Shut (∀ v w,S w→wpAnyH P md ops Q S fuel listed' (a.put d v) w→K (a.put d v) w)→Oper.wp P oi a w K Q):wpAnyH P md ops Q S (fuel+1) listed a w:=by
 subst hd;subst hl
 refine wpAnyH_ready hr (by simp) (AllReadyH.cons hi (fun K hK => ?_) AllReadyH.nil)
 rw [if_pos hw]
 exact h K (fun v w hS hW=>hK _ _ hS (fun _=>hW))
theorem gA {α : Type} (l:List α) (i:Nat):l.toArray[i]? = l[i]? := List.getElem?_toArray ..
theorem gS {α : Type} (x : α) (l:List α) (n:Nat):(x :: l)[n+1]? = l[n]? := rfl
theorem gZ {α : Type} (x : α) (l:List α):(x :: l)[0]? = some x:=rfl
theorem sT {α : Type} (l:List α) (i:Nat) (a : α):l.toArray.setIfInBounds i a=(l.set i a).toArray:=List.setIfInBounds_toArray ..
theorem sZ {α : Type} (x : α) (l:List α) (a : α):(x :: l).set 0 a=a :: l:=rfl
theorem sS {α : Type} (x : α) (l:List α) (n:Nat) (a : α):(x :: l).set (n+1) a=x :: l.set n a:=rfl
def tkOk (md:Region.Mode) (ops:Array Oper) (listed:Array Bool) (i:Nat):Bool:=Region.noSelect ops&&(Region.free md ops listed i&&(Region.ready md ops listed).contains i)
theorem tkOk_out {md:Region.Mode} {ops:Array Oper} {listed:Array Bool} {i:Nat} (h:tkOk md ops listed i=true):Region.noSelect ops=true∧Region.free md ops listed i=true∧(Region.ready md ops listed).contains i=true :=
 ⟨(Bool.and_eq_true_iff.1 h).1,(Bool.and_eq_true_iff.1 (Bool.and_eq_true_iff.1 h).2).1,(Bool.and_eq_true_iff.1 (Bool.and_eq_true_iff.1 h).2).2⟩
theorem hT {P:Program} {md:Region.Mode} {ops:Array Oper} {Q:Exit→Act→World→Prop} {S:World→Prop} (i:Nat) {oi:Oper} {v:Value} {fuel:Nat} {listed listed':Array Bool} {a a':Act} {w:World} (hS:S w) (h:wpAnyH P md ops Q S fuel listed' a' w) (hi:ops[i]? = some oi:=by (first | (simp only [gA,gS,gZ];done) | (simp only [gA,gS,gZ];rfl)))
 (hc:tkOk md ops listed i=true:=by kernel_rfl) (hl:listed.setIfInBounds i true=listed':=by (simp only [sT,sZ,sS];rfl)) (hw:Region.wanted oi (yielded ops a.tmps)=true:=by rfl) (hy:∀ w,S w→(execOp a.eval oi).run P w = .ok (.value v) w:=by (intro wS hSw;go_simp;try (with_reducible rfl)))
 (ha:a.put oi.dst v=a':=by (simp only [Act.put,sT,sZ,sS];rfl)) (hQ:∀ c a w,Q (.panic c) (a.put oi.dst v) w→Q (.panic c) a w:=by exact fun _ _ _ h=>h):wpAnyH P md ops Q S (fuel+1) listed a w:=by
 obtain ⟨h1,h2,h3⟩:=tkOk_out hc
 subst hl;subst ha
 exact wpAnyH_take hi h1 h2 h3 hQ (.inl ⟨hw,hy⟩) hS h
theorem hU {P:Program} {md:Region.Mode} {ops:Array Oper} {Q:Exit→Act→World→Prop} {S:World→Prop} (i:Nat) {oi:Oper} {v:Value} {fuel:Nat} {listed listed':Array Bool} {a a':Act} {w:World} (hS:S w) (h:wpAnyH P md ops Q S fuel listed' a' w) (hi:ops[i]? = some oi:=by (first | (simp only [gA,gS,gZ];done) | (simp only [gA,gS,gZ];rfl)))
 (hc:tkOk md ops listed i=true:=by kernel_rfl) (hl:listed.setIfInBounds i true=listed':=by (simp only [sT,sZ,sS];rfl)) (hw:Region.wanted oi (yielded ops a.tmps)=true:=by rfl) (hy:∀ w,S w→(execOp a.eval oi).run P w = .ok (.value v) w:=by (intro wS hSw;have hz:=hSw;go_simp;try (with_reducible rfl)))
 (ha:a.put oi.dst v=a':=by (simp only [Act.put,sT,sZ,sS];rfl)) (hQ:∀ c a w,Q (.panic c) (a.put oi.dst v) w→Q (.panic c) a w:=by exact fun _ _ _ h=>h):wpAnyH P md ops Q S (fuel+1) listed a w:=by
 obtain ⟨h1,h2,h3⟩:=tkOk_out hc
 subst hl;subst ha
 exact wpAnyH_take hi h1 h2 h3 hQ (.inl ⟨hw,hy⟩) hS h
theorem hV {P:Program} {md:Region.Mode} {ops:Array Oper} {Q:Exit→Act→World→Prop} {S:World→Prop} (i:Nat) {oi:Oper} {v:Value} {fuel:Nat} {listed listed':Array Bool} {a a':Act} {w:World} (hS:S w) (h:wpAnyH P md ops Q S fuel listed' a' w) (hi:ops[i]? = some oi:=by (first | (simp only [gA,gS,gZ];done) | (simp only [gA,gS,gZ];rfl)))
 (hc:tkOk md ops listed i=true:=by kernel_rfl) (hl:listed.setIfInBounds i true=listed':=by (simp only [sT,sZ,sS];rfl)) (hw:Region.wanted oi (yielded ops a.tmps)=true:=by rfl) (hy:∀ w,S w→(execOp a.eval oi).run P w = .ok (.value v) w:=by (intro wS hSw;(try dsimp only at hSw);go_simp;try (with_reducible rfl)))
 (ha:a.put oi.dst v=a':=by (simp only [Act.put,sT,sZ,sS];rfl)) (hQ:∀ c a w,Q (.panic c) (a.put oi.dst v) w→Q (.panic c) a w:=by exact fun _ _ _ h=>h):wpAnyH P md ops Q S (fuel+1) listed a w:=by
 obtain ⟨h1,h2,h3⟩:=tkOk_out hc
 subst hl;subst ha
 exact wpAnyH_take hi h1 h2 h3 hQ (.inl ⟨hw,hy⟩) hS h
theorem hN {P:Program} {md:Region.Mode} {ops:Array Oper} {Q:Exit→Act→World→Prop} {S:World→Prop} (i:Nat) {oi:Oper} {fuel:Nat} {listed listed':Array Bool} {a a':Act} {w:World} (hS:S w) (h:wpAnyH P md ops Q S fuel listed' a' w) (hi:ops[i]? = some oi:=by (first | (simp only [gA,gS,gZ];done) | (simp only [gA,gS,gZ];rfl)))
 (hc:tkOk md ops listed i=true:=by kernel_rfl) (hl:listed.setIfInBounds i true=listed':=by (simp only [sT,sZ,sS];rfl)) (hw:Region.wanted oi (yielded ops a.tmps)=false:=by rfl) (ha:a.put oi.dst undef=a':=by (simp only [Act.put,sT,sZ,sS];rfl))
 (hQ:∀ c a w,Q (.panic c) (a.put oi.dst undef) w→Q (.panic c) a w:=by exact fun _ _ _ h=>h):wpAnyH P md ops Q S (fuel+1) listed a w:=by
 obtain ⟨h1,h2,h3⟩:=tkOk_out hc
 subst hl;subst ha
 exact wpAnyH_take hi h1 h2 h3 hQ (.inr ⟨hw,rfl⟩) hS h
theorem hO {P:Program} {md:Region.Mode} {ops:Array Oper} {Q:Exit→Act→World→Prop} {S:World→Prop} (i:Nat) {oi:Oper} {d:Option Tmp} {fuel:Nat} {listed listed':Array Bool} {a:Act} {w:World}
 (h:∀ K:Act→World→Prop,Shut (∀ v w,S w→wpAnyH P md ops Q S fuel listed' (a.put d v) w→K (a.put d v) w)→Oper.wp P oi a w K Q) (hi:ops[i]? = some oi:=by (first | (simp only [gA,gS,gZ];done) | (simp only [gA,gS,gZ];rfl))) (hd:oi.dst=d:=by (first | (dsimp only;done) | (dsimp only;rfl) | rfl)) (hr:Region.ready md ops listed=[i]:=by kernel_rfl)
 (hl:listed.setIfInBounds i true=listed':=by (simp only [sT,sZ,sS];rfl)) (hw:Region.wanted oi (yielded ops a.tmps)=true:=by rfl):wpAnyH P md ops Q S (fuel+1) listed a w:=held_one hi hd hr hl hw h
theorem wpOp_imp {P:Program} {ops:Array Oper} {Q:Exit→Act→World→Prop} {i:Nat} {a:Act} {w:World} {K K':Act→World→Prop} (h:∀ a w,K a w→K' a w) (hk:wpOp P ops Q i K a w):wpOp P ops Q i K' a w:=wpOp_mono h hk
theorem held_less {P:Program} {md:Region.Mode} {ops:Array Oper} {Q:Exit→Act→World→Prop} {S S':World→Prop} (hS:∀ w,S w→S' w):∀ (fuel:Nat) (listed:Array Bool) (a:Act) (w:World),wpAnyH P md ops Q S fuel listed a w→wpAnyH P md ops Q S' fuel listed a w
 | 0,_,_,_,h=>h
 | fuel+1,_,_,_,h=>⟨h.1,fun i hi=>wpOp_imp (fun a' w' h'=>⟨hS _ h'.1,held_less hS fuel _ a' w' h'.2⟩) (h.2 i hi)⟩
theorem kept_start {P:Program} {ops:Array Oper} {Q:Exit→Act→World→Prop} {id:Nat} {a:Act} {w:World} (hm:P.follows .mixedOrders=true)
 (h:wpAnyH P .any ops Q (Below w.heap.size w.drew) ops.size (Array.replicate ops.size false) a w.drew):(Code.region id ops true).wp P Q a w :=
 wp_region_held_drew (S:=Below w.heap.size w.drew) hm (Below.refl _ _) (fun _=>h)
theorem kept_call {P:Program} {md:Region.Mode} {ops:Array Oper} {Q:Exit→Act→World→Prop} {i:Nat} {oi:Oper} {d:Option Tmp} {fuel:Nat} {listed listed':Array Bool} {a:Act} {B:Nat} {w:World} (hi:ops[i]? = some oi) (hd:oi.dst=d)
 (hr:Region.ready md ops listed=[i]) (hl:listed.setIfInBounds i true=listed') (hw:Region.wanted oi (yielded ops a.tmps)=true)
 (h:∀ K:Act→World→Prop,Shut (∀ v w',Below B w w'→B≤w'.heap.size→wpAnyH P md ops Q (Below w'.heap.size w') fuel listed' (a.put d v) w'→K (a.put d v) w')→Oper.wp P oi a w K Q):wpAnyH P md ops Q (Below B w) (fuel+1) listed a w :=
 held_one hi hd hr hl hw (fun K hK=>h K (fun v w' hb hB hn=>hK v w' hb (held_less (fun _ h'=>hb.trans (h'.mono hB)) _ _ _ _ hn)))
theorem kT {P:Program} {md:Region.Mode} {ops:Array Oper} {Q:Exit→Act→World→Prop} {B:Nat} (i:Nat) {oi:Oper} {v:Value} {fuel:Nat} {listed listed':Array Bool} {a a':Act} {w:World} (h:wpAnyH P md ops Q (Below B w) fuel listed' a' w) (hi:ops[i]? = some oi:=by (first | (simp only [gA,gS,gZ];done) | (simp only [gA,gS,gZ];rfl)))
 (hc:tkOk md ops listed i=true:=by kernel_rfl) (hl:listed.setIfInBounds i true=listed':=by (simp only [sT,sZ,sS];rfl)) (hw:Region.wanted oi (yielded ops a.tmps)=true:=by rfl) (hy:∀ w',Below B w w'→(execOp a.eval oi).run P w' = .ok (.value v) w':=by (intro wS hSw;go_simp;try (with_reducible rfl)))
 (ha:a.put oi.dst v=a':=by (simp only [Act.put,sT,sZ,sS];rfl)) (hQ:∀ c a w,Q (.panic c) (a.put oi.dst v) w→Q (.panic c) a w:=by exact fun _ _ _ h=>h):wpAnyH P md ops Q (Below B w) (fuel+1) listed a w :=
 hT i (Below.refl _ _) h hi hc hl hw hy ha hQ
theorem kC {P:Program} {md:Region.Mode} {ops:Array Oper} {Q:Exit→Act→World→Prop} (i:Nat) {oi:Oper} {d:Option Tmp} {fuel:Nat} {listed listed':Array Bool} {a:Act} {B:Nat} {w:World}
 (h:∀ K:Act→World→Prop,Shut (∀ v w',Below B w w'→B≤w'.heap.size→wpAnyH P md ops Q (Below w'.heap.size w') fuel listed' (a.put d v) w'→K (a.put d v) w')→Oper.wp P oi a w K Q) (hi:ops[i]? = some oi:=by (first | (simp only [gA,gS,gZ];done) | (simp only [gA,gS,gZ];rfl))) (hd:oi.dst=d:=by (first | (dsimp only;done) | (dsimp only;rfl) | rfl))
 (hr:Region.ready md ops listed=[i]:=by kernel_rfl) (hl:listed.setIfInBounds i true=listed':=by (simp only [sT,sZ,sS];rfl)) (hw:Region.wanted oi (yielded ops a.tmps)=true:=by rfl):wpAnyH P md ops Q (Below B w) (fuel+1) listed a w:=kept_call hi hd hr hl hw h
end Go.Proofs.YtnahgpjglooclaaGreatDoor
namespace Go.Proofs.YtnahgpjglooclaaGreatDoor
open Go.ChangeShapes Go.WideShapes Go.ChangeAt Go.RowKit
theorem trodAll_below {H:Type} {enc:TypeId × Value→H} {P:Program} (hl:laidOutB P=true) {W W':World} (hb:Below W.heap.size W W') :
 ∀ (ts:List TypeId) (vs:List Value) (ds:List (DataW H)) (p:List MemPlace),(ts.all fun t=>P.readableRec t&&decide (t<P.types.size))=true→(∀ x∈p,x.block<W.heap.size) →
   DataW.TrodAll enc P W 0 (fun _=>true) true ts vs ds p→DataW.TrodAll enc P W' 0 (fun b=>decide (b<W.heap.size)) true ts vs ds p:=by
 intro ts
 induction ts with
 | nil =>
   intro vs ds p _ _ h
   obtain ⟨rfl,rfl,rfl⟩:=trodAll_nil h
   exact trodAll_mk0
 | cons t ts ih =>
   intro vs ds p ht hlt h
   obtain ⟨v,vs',d,ds',p1,q1,rfl,rfl,rfl,h0,hr⟩:=trodAll_cons h
   rw [List.all_cons,Bool.and_eq_true,Bool.and_eq_true,decide_eq_true_eq] at ht
   exact trodAll_cons_mk (Below.trod hl ht.1.1 ht.1.2 h0 hb (fun x hx=>hlt x (List.mem_append_left _ hx))) (ih vs' ds' q1 ht.2 (fun x hx=>hlt x (List.mem_append_right _ hx)) hr)
theorem own:ownKnob Tryz.prog.godebug=none:=by kernel_rfl
theorem laidOut:laidOutB Tryz.prog=true:=by kernel_rfl
theorem law_post {H:Type} {enc:TypeId × Value→H} {f:Func} {s:ChangeSpec} {W W':World} {args:Array Value} {ds gs:List (DataW H)} {before:List MemPlace} (hl:laidOutB Tryz.prog=true)
 (hparams:(f.params.toList.all fun t=>Tryz.prog.readableRec t&&decide (t<Tryz.prog.types.size))=true) (hres:f.resultTypes=#[4])
 (hvars:s.vars=[]) (hfn:s.fn H (ds++gs)={ results:=[.lit (.bool true)],args:=ds })
 (hW:DataW.Whole enc Tryz.prog f.params.toList s.vars false W args.toList ds gs before) (hlt:∀ x∈before,x.block<W.heap.size) (hb:Below W.heap.size W W') :
 s.post enc Tryz.prog f false true false false W args (.bool true) W':=by
 have hW0:=hW
 obtain ⟨p,q,hA,hV,rfl,_,_⟩:=hW
 refine ⟨ds,gs,p++q,[],p,[],hW0, ?_, ?_, ?_,hb.frame _,fun h=>by cases h⟩
 · rw [hfn,hres]
   exact trodAll_cons_mk (shut_bool Tryz.underlying4 true) trodAll_mk0
 · rw [hfn]
   exact trodAll_below hl hb _ _ _ _ hparams (fun x hx=>hlt x (List.mem_append_left _ hx)) hA
 · rw [hvars,hfn];rfl
end Go.Proofs.YtnahgpjglooclaaGreatDoor
namespace Go.Proofs.YtnahgpjglooclaaGreatDoor
open Go.RowKit
def encTx:Enc ByteArray 1:={ f:=fun s=>[.string s],len:=fun _=>rfl,one:=fun _ u hu=>by simp at hu;subst hu;rfl }
theorem all_encTx (l:List ByteArray):encTx.all l=l.map Value.string:=by
 induction l with
 | nil=>rfl
 | cons a t ih=>show Value.string a :: encTx.all t=_;rw [ih];rfl
structure Rv where
 A:Option Addr
 cap:Nat
 l:List ByteArray
def Rv.v (r:Rv):Value := .slice r.A r.l.length r.cap
def encRv:Enc Rv 1:={ f:=fun r=>[r.v],len:=fun _=>rfl,one:=fun _ u hu=>by simp at hu;subst hu;rfl }
structure Sv where
 nm:ByteArray
 cols:Int
 A:Option Addr
 cap:Nat
 rows:List Rv
def Sv.rv (s:Sv):Value := .slice s.A s.rows.length s.cap
def encSv:Enc Sv 3:={ f:=fun s=>[.string s.nm,.int .i64 s.cols,s.rv],len:=fun _=>rfl,one:=fun s u hu=>by simp only [List.mem_cons,List.not_mem_nil,or_false] at hu;rcases hu with rfl | rfl | rfl <;> rfl }
def RowsR (w:World) (B:Nat) (v:Value) (rows:List Rv):Prop:=SE encRv w B v rows∧∀ r∈rows,SE encTx w B r.v r.l
theorem RowsR.below {w w':World} {B C:Nat} {v:Value} {rows:List Rv} (h:RowsR w B v rows) (hb:Below C w w') (hC:B≤C):RowsR w' B v rows:=⟨h.1.below hb hC,fun r hr=>(h.2 r hr).below hb hC⟩
theorem RowsR.mono {w:World} {B C:Nat} {v:Value} {rows:List Rv} (h:RowsR w B v rows) (hC:B≤C):RowsR w C v rows:=⟨h.1.mono hC,fun r hr=>(h.2 r hr).mono hC⟩
theorem RowsR.lift {w w':World} {v:Value} {rows:List Rv} (h:RowsR w w.heap.size v rows) (hb:Below w.heap.size w w'):RowsR w' w'.heap.size v rows:=(h.below hb (Nat.le_refl _)).mono hb.size
def BkR (w:World) (B:Nat) (v:Value) (shs:List Sv):Prop:=SE encSv w B v shs∧∀ s∈shs,RowsR w B s.rv s.rows
theorem BkR.below {w w':World} {B C:Nat} {v:Value} {shs:List Sv} (h:BkR w B v shs) (hb:Below C w w') (hC:B≤C):BkR w' B v shs:=⟨h.1.below hb hC,fun r hr=>(h.2 r hr).below hb hC⟩
theorem BkR.mono {w:World} {B C:Nat} {v:Value} {shs:List Sv} (h:BkR w B v shs) (hC:B≤C):BkR w C v shs:=⟨h.1.mono hC,fun r hr=>(h.2 r hr).mono hC⟩
theorem BkR.lift {w w':World} {v:Value} {shs:List Sv} (h:BkR w w.heap.size v shs) (hb:Below w.heap.size w w'):BkR w' w'.heap.size v shs:=(h.below hb (Nat.le_refl _)).mono hb.size
theorem tx_at {w:World} {B:Nat} {A:Option Addr} {n cap:Nat} {l:List ByteArray} (h:SE encTx w B (.slice A n cap) l) {i:Nat} {x:ByteArray} (hi:l[i]? = some x) :
 ∃ pb po,A=some ⟨pb,po,none⟩∧pb<B∧w.cell? ⟨pb,po+i,none⟩=some (.string x):=by
 obtain ⟨pb,po,h1,h2,h3⟩:=h.at hi
 exact ⟨pb,po,h1,h2,by have:=h3 0 _ rfl;rwa [Nat.mul_one,Nat.add_zero] at this⟩
theorem row_at {w:World} {B:Nat} {A:Option Addr} {n cap:Nat} {l:List Rv} (h:RowsR w B (.slice A n cap) l) {i:Nat} {x:Rv} (hi:l[i]? = some x) :
 ∃ pb po,A=some ⟨pb,po,none⟩∧pb<B∧w.cell? ⟨pb,po+i,none⟩=some (.slice x.A x.l.length x.cap)∧SE encTx w B (.slice x.A x.l.length x.cap) x.l:=by
 obtain ⟨pb,po,h1,h2,h3⟩:=h.1.at hi
 exact ⟨pb,po,h1,h2,by have:=h3 0 _ rfl;rwa [Nat.mul_one,Nat.add_zero] at this,h.2 x (List.mem_of_getElem? hi)⟩
theorem sh_at {w:World} {B:Nat} {A:Option Addr} {n cap:Nat} {l:List Sv} (h:BkR w B (.slice A n cap) l) {i:Nat} {x:Sv} (hi:l[i]? = some x) :
 ∃ pb po,A=some ⟨pb,po,none⟩∧pb<B∧w.cell? ⟨pb,po+i*3,none⟩=some (.string x.nm)∧w.cell? ⟨pb,po+i*3+1,none⟩=some (.int .i64 x.cols)∧w.cell? ⟨pb,po+i*3+2,none⟩=some (.slice x.A x.rows.length x.cap)∧RowsR w B (.slice x.A x.rows.length x.cap) x.rows:=by
 obtain ⟨pb,po,h1,h2,h3⟩:=h.1.at hi
 exact ⟨pb,po,h1,h2,h3 0 _ rfl,by have:=h3 1 _ rfl;rwa [← Nat.add_assoc] at this,by have:=h3 2 _ rfl;rwa [← Nat.add_assoc] at this,h.2 x (List.mem_of_getElem? hi)⟩
def ShAt (w:World) (b:Nat) (nm:ByteArray) (c:Int) (v:Value):Prop:=w.heap[b]? = some (.cells #[.string nm,.int .i64 c,v] 24)
theorem ShAt.new (w:World) (nm:ByteArray) (c:Int) (v:Value):ShAt (w.alloc (.cells #[.string nm,.int .i64 c,v] 24)) w.heap.size nm c v:=(Go.MapKept.heap_alloc w _).1
theorem ShAt.lt {w:World} {b:Nat} {nm:ByteArray} {c:Int} {v:Value} (h:ShAt w b nm c v):b<w.heap.size:=(Array.getElem?_eq_some_iff.1 h).1
theorem ShAt.below {w w':World} {b B:Nat} {nm:ByteArray} {c:Int} {v:Value} (h:ShAt w b nm c v) (hb:Below B w w') (hB:b<B):ShAt w' b nm c v:=by unfold ShAt;rw [hb.block b hB];exact h
theorem ShAt.over {w w':World} {b:Nat} {nm:ByteArray} {c:Int} {v:Value} (h:ShAt w b nm c v) (hb:Below w.heap.size w w'):ShAt w' b nm c v:=h.below hb h.lt
theorem ShAt.cells {w:World} {b:Nat} {nm:ByteArray} {c:Int} {v:Value} (h:ShAt w b nm c v):w.cell? ⟨b,0,none⟩=some (.string nm)∧w.cell? ⟨b,1,none⟩=some (.int .i64 c)∧w.cell? ⟨b,2,none⟩=some v :=
 ⟨by rw [cell_of_row w b 0 _ _ _ h];rfl,by rw [cell_of_row w b 1 _ _ _ h];rfl,by rw [cell_of_row w b 2 _ _ _ h];rfl⟩
def BkAt (w:World) (b:Nat) (v:Value):Prop:=w.heap[b]? = some (.cells #[v] 32)
theorem BkAt.new (w:World) (v:Value):BkAt (w.alloc (.cells #[v] 32)) w.heap.size v:=(Go.MapKept.heap_alloc w _).1
theorem BkAt.lt {w:World} {b:Nat} {v:Value} (h:BkAt w b v):b<w.heap.size:=(Array.getElem?_eq_some_iff.1 h).1
theorem BkAt.below {w w':World} {b B:Nat} {v:Value} (h:BkAt w b v) (hb:Below B w w') (hB:b<B):BkAt w' b v:=by unfold BkAt;rw [hb.block b hB];exact h
theorem BkAt.over {w w':World} {b:Nat} {v:Value} (h:BkAt w b v) (hb:Below w.heap.size w w'):BkAt w' b v:=h.below hb h.lt
theorem BkAt.cell {w:World} {b:Nat} {v:Value} (h:BkAt w b v):w.cell? ⟨b,0,none⟩=some v:=by rw [cell_of_row w b 0 _ _ _ h];rfl
theorem BkAt.melt {w:World} {b:Nat} {v:Value} (h:BkAt w b v):w.frozen? ⟨b,0,none⟩=false:=frozen_of_row w b 0 _ _ h
def RefAt (w:World) (b:Nat) (s:ByteArray) (c r:Int) (ac ar:Bool):Prop:=w.heap[b]? = some (.cells #[.string s,.int .i64 c,.int .i64 r,.bool ac,.bool ar] 98)
theorem RefAt.new (w:World) (s:ByteArray) (c r:Int) (ac ar:Bool):RefAt (w.alloc (.cells #[.string s,.int .i64 c,.int .i64 r,.bool ac,.bool ar] 98)) w.heap.size s c r ac ar:=by
 exact (Go.MapKept.heap_alloc w _).1
theorem RefAt.lt {w:World} {b:Nat} {s:ByteArray} {c r:Int} {ac ar:Bool} (h:RefAt w b s c r ac ar):b<w.heap.size:=(Array.getElem?_eq_some_iff.1 h).1
theorem RefAt.below {w w':World} {B b:Nat} {s:ByteArray} {c r:Int} {ac ar:Bool} (h:RefAt w b s c r ac ar) (hb:Below B w w') (hB:b<B):RefAt w' b s c r ac ar:=by
 unfold RefAt;rw [hb.block b hB];exact h
theorem RefAt.facts {w:World} {b:Nat} {s:ByteArray} {c r:Int} {ac ar:Bool} (h:RefAt w b s c r ac ar) :
 w.cell? ⟨b,0,none⟩=some (.string s)∧w.cell? ⟨b,1,none⟩=some (.int .i64 c)∧w.cell? ⟨b,2,none⟩=some (.int .i64 r)∧w.cell? ⟨b,3,none⟩=some (.bool ac)∧w.cell? ⟨b,4,none⟩=some (.bool ar) :=
 ⟨by rw [cell_of_row w b 0 _ _ _ h];rfl,by rw [cell_of_row w b 1 _ _ _ h];rfl,by rw [cell_of_row w b 2 _ _ _ h];rfl,by rw [cell_of_row w b 3 _ _ _ h];rfl,by rw [cell_of_row w b 4 _ _ _ h];rfl⟩
structure Rd where
 s:ByteArray
 k:Nat
 sh:ByteArray
 c:Int
 r:Int
 ac:Bool
 ar:Bool
def Rd.rest (d:Rd):List Int:=(sb d.s).drop d.k
def Rd.cells (d:Rd):Array Value:=#[.string d.s,.int .i64 (d.k:Int),.string d.sh,.int .i64 d.c,.int .i64 d.r,.bool d.ac,.bool d.ar]
def Rd.start (s:ByteArray):Rd:=⟨s,0,⟨#[]⟩,0,0,false,false⟩
def ne33 (x:Int):Bool:=decide (x≠33)
def isRow (l:List Int):Bool:=decide (l≠[]∧l.head? ≠ some 48∧valL l≤999)
def Rd.sheetP (d:Rd):List Int:=(sb d.s).takeWhile ne33
def Rd.sheet (d:Rd):Option Rd:=if d.sheetP.length=d.s.size then some d else if nameL d.sheetP=true then some { d with sh:=strOfNums d.sheetP,k:=d.sheetP.length+1 } else none
def Rd.mark (d:Rd):Bool:=decide (d.rest.head? = some 36)
def Rd.absCol (d:Rd):Option Rd:=some { d with ac:=d.mark,k:=d.k+(dol d.mark).length }
def Rd.absRow (d:Rd):Option Rd:=some { d with ar:=d.mark,k:=d.k+(dol d.mark).length }
def Rd.col (d:Rd):Option Rd:=if isCol (d.rest.takeWhile isCap)=true then some { d with c:=readColL (d.rest.takeWhile isCap),k:=d.k+(d.rest.takeWhile isCap).length } else none
def Rd.row (d:Rd):Option Rd:=if isRow (d.rest.takeWhile isNum)=true then some { d with r:=valL (d.rest.takeWhile isNum) - 1,k:=d.k+(d.rest.takeWhile isNum).length } else none
def Rd.fin (d:Rd):Option Rd:=if d.k=d.s.size then some d else none
theorem take_part (p:Int→Bool):∀ (a b:List Int),(∀ x∈a,p x=true)→(∀ x,b.head? = some x→p x=false)→(a++b).takeWhile p=a
 | [],[],_,_=>rfl
 | [],y :: b,_,h2=>by rw [List.nil_append,List.takeWhile_cons,h2 y rfl];rfl
 | x :: a,b,h,h2=>by
   rw [List.cons_append,List.takeWhile_cons,h x (by simp),if_pos rfl,take_part p a b (fun z hz=>h z (by simp [hz])) h2]
theorem take_more (p:Int→Bool):∀ (a b:List Int),(∀ x∈a,p x=true)→(a++b).takeWhile p=a++b.takeWhile p
 | [],b,_=>rfl
 | x :: a,b,h=>by
   rw [List.cons_append,List.takeWhile_cons,h x (by simp),if_pos rfl,take_more p a b (fun z hz=>h z (by simp [hz])),List.cons_append]
theorem take_all (p:Int→Bool):∀ (l:List Int),∀ x∈l.takeWhile p,p x=true
 | [],x,hx=>by simp at hx
 | y :: l,x,hx=>by
   rw [List.takeWhile_cons] at hx
   by_cases h:p y=true
   · rw [if_pos h] at hx
     rcases List.mem_cons.1 hx with rfl | hx
     · exact h
     · exact take_all p l x hx
   · rw [if_neg h] at hx;simp at hx
theorem take_split (p:Int→Bool):∀ (l:List Int),l.takeWhile p++l.drop (l.takeWhile p).length=l
 | []=>rfl
 | y :: l=>by
   rw [List.takeWhile_cons]
   by_cases h:p y=true
   · rw [if_pos h,List.length_cons,List.drop_succ_cons,List.cons_append,take_split p l]
   · rw [if_neg h];rfl
theorem take_head (p:Int→Bool):∀ (l:List Int) (x:Int),(l.drop (l.takeWhile p).length).head? = some x→p x=false
 | [],x,h=>by simp at h
 | y :: l,x,h=>by
   rw [List.takeWhile_cons] at h
   by_cases hy:p y=true
   · rw [if_pos hy,List.length_cons,List.drop_succ_cons] at h;exact take_head p l x h
   · rw [if_neg hy] at h;simp at h;subst h;simpa using hy
theorem digL_valL:∀ (n:Nat) (l:List Int),l.length=n→l≠[]→(∀ x∈l,isNum x=true)→l.head? ≠ some 48→1≤valL l∧digL (valL l).toNat=l:=by
 intro n
 induction n with
 | zero=>intro l h h2;exact absurd (List.eq_nil_of_length_eq_zero h) h2
 | succ n ih =>
   intro l hl hne hall hh
   obtain ⟨a,x,rfl⟩:∃ a x,l=a++[x]:=by
    rcases List.eq_nil_or_concat l with h | ⟨a,x,h⟩
    · exact absurd h hne
    · exact ⟨a,x,by rw [h,List.concat_eq_append]⟩
   have hx:=num_bd (hall x (by simp))
   rw [valL_snoc]
   by_cases ha:a=[]
   · subst ha
     have h48:x≠48:=by intro h;subst h;exact hh rfl
     have hv:valL []=0:=rfl
     rw [hv,digL_small _ (by omega)]
     refine ⟨by omega, ?_⟩
     rw [List.nil_append];congr 1;omega
   · have hlen:a.length=n:=by rw [List.length_append,List.length_singleton] at hl;omega
     have h0:a.head? ≠ some 48:=by
      cases a with
      | nil=>exact absurd rfl ha
      | cons y a=>simpa using hh
     obtain ⟨h1,h2⟩:=ih a hlen ha (fun z hz=>hall z (by simp [hz])) h0
     refine ⟨by omega, ?_⟩
     rw [digL_more _ (by omega),show (10*valL a+(x - 48)).toNat / 10=(valL a).toNat from by omega,h2]
     congr 2;omega
theorem valL_ge:∀ (b a:List Int),(∀ x∈b,isNum x=true)→0≤valL a→valL a≤valL (a++b)
 | [],a,_,_=>by rw [List.append_nil];exact Int.le_refl _
 | x :: b,a,h,h0=>by
   have hx:=num_bd (h x (by simp))
   have h1:=valL_snoc a x
   have h2:=valL_ge b (a++[x]) (fun z hz=>h z (by simp [hz])) (by omega)
   rw [List.append_assoc,List.singleton_append] at h2
   omega
theorem rest_add (d:Rd) (m:Nat):(sb d.s).drop (d.k+m)=d.rest.drop m:=by unfold Rd.rest;rw [List.drop_drop]
theorem mark_rest (d:Rd):d.rest=dol d.mark++d.rest.drop (dol d.mark).length:=by
 unfold Rd.mark
 cases h:d.rest with
 | nil=>rfl
 | cons x l =>
   by_cases hx:x=36
   · subst hx;simp [dol]
   · have:(x :: l).head? ≠ some 36:=by simpa using hx
     rw [decide_eq_false this];simp [dol]
def readS (s:ByteArray):Option Rd:=((((((Rd.start s).sheet.bind Rd.absCol).bind Rd.col).bind Rd.absRow).bind Rd.row).bind Rd.fin)
theorem nameL_size {l:List Int} (h:nameL l=true):l≠[]∧l.length≤12:=by
 unfold nameL at h;rw [Bool.and_eq_true,decide_eq_true_iff,decide_eq_true_iff] at h
 exact ⟨by intro h0;rw [h0] at h;simp at h,h.2.2⟩
theorem isRow_parts {l:List Int} (h:isRow l=true):l≠[]∧l.head? ≠ some 48∧valL l≤999:=by unfold isRow at h;rw [decide_eq_true_iff] at h;exact h
theorem read_some (s:ByteArray) (d:Rd) (h:readS s=some d):d.sh.size≤12∧mayL (sb d.sh) d.c d.r=true∧textL (sb d.sh) d.c d.r d.ac d.ar=sb s:=by
 unfold readS at h
 simp only [Option.bind_eq_some_iff] at h
 obtain ⟨d5,⟨d4,⟨d3,⟨d2,⟨d1,h1,h2⟩,h3⟩,h4⟩,h5⟩,h6⟩:=h
 -- the sheet
 have g1:d1.s=s∧sb s=(if sb d1.sh=[] then [] else sb d1.sh++[33])++d1.rest∧(sb d1.sh=[]∨nameL (sb d1.sh)=true)∧d1.sh.size≤12:=by
  unfold Rd.sheet at h1
  by_cases hc:(Rd.start s).sheetP.length=(Rd.start s).s.size
  · rw [if_pos hc] at h1
    injection h1 with h1;subst h1
    exact ⟨rfl,rfl,.inl rfl,by show (0:Nat)≤12;omega⟩
  · rw [if_neg hc] at h1
    by_cases hn:nameL (Rd.start s).sheetP=true
    · rw [if_pos hn] at h1
      injection h1 with h1;subst h1
      have hb:Bytes (Rd.start s).sheetP:=fun x hx=>sb_bd s x (by
       have:=take_split ne33 (sb s);rw [← this];exact List.mem_append_left _ hx)
      obtain ⟨q1,q2⟩:=nameL_size hn
      refine ⟨rfl, ?_,.inr (by show nameL (sb (strOfNums _))=true;rw [sb_str _ hb];exact hn),by show (strOfNums _).size≤12;rw [strOfNums_size];exact q2⟩
      show sb s=(if sb (strOfNums (Rd.start s).sheetP)=[] then [] else sb (strOfNums (Rd.start s).sheetP)++[33])++(sb s).drop ((Rd.start s).sheetP.length+1)
      rw [sb_str _ hb,if_neg q1]
      have e:=take_split ne33 (sb s)
      have hlt:(Rd.start s).sheetP.length<(sb s).length:=by
       have:=congrArg List.length e
       rw [List.length_append] at this
       have h3:(Rd.start s).sheetP.length≠s.size:=hc
       have h4:=length_sb s
       show ((sb s).takeWhile ne33).length<_
       have h5:(Rd.start s).sheetP=(sb s).takeWhile ne33:=rfl
       rw [h5] at h3
       omega
      have hh:=take_head ne33 (sb s)
      have h6:(sb s).drop (Rd.start s).sheetP.length=(sb s)[(Rd.start s).sheetP.length] :: (sb s).drop ((Rd.start s).sheetP.length+1):=List.drop_eq_getElem_cons hlt
      have h7:=hh ((sb s)[(Rd.start s).sheetP.length]) (by
       show ((sb s).drop (Rd.start s).sheetP.length).head? = _
       rw [h6];rfl)
      have h8:(sb s)[(Rd.start s).sheetP.length]=33:=by unfold ne33 at h7;simpa using h7
      rw [h8] at h6
      rw [List.append_assoc,List.singleton_append, ← h6]
      exact e.symm
    · rw [if_neg hn] at h1;cases h1
 obtain ⟨e1,t1,n1,z1⟩:=g1
 -- the mark ahead of the column
 have g2:d2.s=d1.s∧d2.sh=d1.sh∧d1.rest=dol d2.ac++d2.rest:=by
  unfold Rd.absCol at h2;injection h2 with h2;subst h2
  refine ⟨rfl,rfl, ?_⟩
  show d1.rest=dol d1.mark++(sb d1.s).drop (d1.k+(dol d1.mark).length)
  rw [rest_add];exact mark_rest d1
 obtain ⟨e2,f2,t2⟩:=g2
 have g3:d3.s=d2.s∧d3.sh=d2.sh∧d3.ac=d2.ac∧d2.rest=colL d3.c++d3.rest∧0≤d3.c∧d3.c≤701:=by
  unfold Rd.col at h3
  by_cases hc:isCol (d2.rest.takeWhile isCap)=true
  · rw [if_pos hc] at h3;injection h3 with h3;subst h3
    obtain ⟨q1,q2,q3⟩:=colL_readCol _ hc
    refine ⟨rfl,rfl,rfl, ?_,q2,q3⟩
    show d2.rest=colL (readColL (d2.rest.takeWhile isCap))++(sb d2.s).drop (d2.k+(d2.rest.takeWhile isCap).length)
    rw [q1,rest_add,take_split]
  · rw [if_neg hc] at h3;cases h3
 obtain ⟨e3,f3,a3,t3,c0,c1⟩:=g3
 have g4:d4.s=d3.s∧d4.sh=d3.sh∧d4.ac=d3.ac∧d4.c=d3.c∧d3.rest=dol d4.ar++d4.rest:=by
  unfold Rd.absRow at h4;injection h4 with h4;subst h4
  refine ⟨rfl,rfl,rfl,rfl, ?_⟩
  show d3.rest=dol d3.mark++(sb d3.s).drop (d3.k+(dol d3.mark).length)
  rw [rest_add];exact mark_rest d3
 obtain ⟨e4,f4,a4,b4,t4⟩:=g4
 have g5:d5.s=d4.s∧d5.sh=d4.sh∧d5.ac=d4.ac∧d5.c=d4.c∧d5.ar=d4.ar∧d4.rest=digL (d5.r+1).toNat++d5.rest∧0≤d5.r∧d5.r≤998:=by
  unfold Rd.row at h5
  by_cases hc:isRow (d4.rest.takeWhile isNum)=true
  · rw [if_pos hc] at h5;injection h5 with h5;subst h5
    obtain ⟨q1,q2,q3⟩:=isRow_parts hc
    obtain ⟨q4,q5⟩:=digL_valL _ _ rfl q1 (take_all isNum _) q2
    refine ⟨rfl,rfl,rfl,rfl,rfl, ?_,by show 0≤valL (d4.rest.takeWhile isNum) - 1;omega,by show valL (d4.rest.takeWhile isNum) - 1≤998;omega⟩
    show d4.rest=digL (valL (d4.rest.takeWhile isNum) - 1+1).toNat++(sb d4.s).drop (d4.k+(d4.rest.takeWhile isNum).length)
    rw [Int.sub_add_cancel,q5,rest_add,take_split]
  · rw [if_neg hc] at h5;cases h5
 obtain ⟨e5,f5,a5,b5,r5,t5,r0,r1⟩:=g5
 have g6:d=d5∧d5.rest=[]:=by
  unfold Rd.fin at h6
  by_cases hc:d5.k=d5.s.size
  · rw [if_pos hc] at h6;injection h6 with h6
    refine ⟨h6.symm, ?_⟩
    unfold Rd.rest;rw [hc, ← length_sb,List.drop_length]
  · rw [if_neg hc] at h6;cases h6
 obtain ⟨rfl,t6⟩:=g6
 have hsh:d.sh=d1.sh:=by rw [f5,f4,f3,f2]
 have hac:d.ac=d2.ac:=by rw [a5,a4,a3]
 have hc:d.c=d3.c:=by rw [b5,b4]
 have hm:mayL (sb d.sh) d.c d.r=true:=by
  unfold mayL
  rw [Bool.and_eq_true,Bool.or_eq_true,decide_eq_true_iff,decide_eq_true_iff,hsh,hc]
  exact ⟨n1,by omega,by omega,by omega,by omega⟩
 refine ⟨by rw [hsh];exact z1,hm, ?_⟩
 rw [textL_eq _ _ _ _ _ hm,t1,t2,t3,t4,t5,t6,hsh,hc,hac,r5,List.append_nil]
 rfl
def NoRef (l:List Int):Prop:=∀ sh c r ac ar,mayL sh c r=true→textL sh c r ac ar≠l
def Says (l:List Int) (e:Ending):Prop :=
 (∃ s c r ac ar,s.size≤12∧mayL (sb s) c r=true∧textL (sb s) c r ac ar=l∧e = .returned (.tuple #[.agg #[.string s,.int .i64 c,.int .i64 r,.bool ac,.bool ar],.bool true])) ∨
 (NoRef l∧e = .returned (.tuple #[.agg #[.string ⟨#[]⟩,.int .i64 0,.int .i64 0,.bool false,.bool false],.bool false]))
theorem mark_of (d:Rd) (b:Bool) (t:List Int) (h:d.rest=dol b++t) (ht:∀ x,t.head? = some x→x≠36):d.mark=b:=by
 unfold Rd.mark;rw [h]
 cases b with
 | true=>rfl
 | false =>
   rw [decide_eq_false_iff_not]
   intro hx;exact ht 36 hx rfl
theorem isRow_digL (r:Int) (h0:0≤r) (h1:r≤998):isRow (digL (r+1).toNat)=true:=by
 have hh:∀ (n u:Nat),u<n→1≤u→(digL u).head? ≠ some 48:=by
  intro n
  induction n with
  | zero=>intro u h;omega
  | succ n ih =>
    intro u hu h1
    by_cases h:u<10
    · rw [digL_small u h];simp;omega
    · rw [digL_more u h]
      have:=ih (u / 10) (by omega) (by omega)
      cases hd:digL (u / 10) with
      | nil=>exact absurd hd (digL_ne _)
      | cons y l=>rw [hd] at this;simpa using this
 unfold isRow;rw [decide_eq_true_iff]
 refine ⟨digL_ne _,hh _ _ (Nat.lt_succ_self _) (by omega), ?_⟩
 rw [valL_digL];omega
theorem read_none (s:ByteArray) (h:readS s=none):NoRef (sb s):=by
 intro sh c r ac ar hm e
 obtain ⟨c0,c1,r0,r1⟩:=mayL_nums hm
 rw [textL_eq _ _ _ _ _ hm] at e
 -- the sheet
 have g1:∃ d1,(Rd.start s).sheet=some d1∧d1.rest=tailL c r ac ar∧d1.s=s∧d1.k+d1.rest.length=s.size:=by
  by_cases hs:sh=[]
  · rw [if_pos hs,List.nil_append] at e
    have hp:(Rd.start s).sheetP=sb s:=by
     show (sb s).takeWhile ne33=sb s
     rw [← e, ← List.append_nil (tailL c r ac ar),take_part ne33 _ [] (fun x hx=>by unfold ne33;rw [decide_eq_true_iff];exact tail_no33 c r ac ar x hx) (fun x hx=>by simp at hx),List.append_nil]
    refine ⟨Rd.start s, ?_,e.symm,rfl,by show 0+(sb s).length=s.size;rw [length_sb];omega⟩
    unfold Rd.sheet;rw [hp,if_pos (show (sb s).length=(Rd.start s).s.size from length_sb s)]
  · rw [if_neg hs,List.append_assoc] at e
    have hn:=(mayL_sheet hm).resolve_left hs
    have hp:(Rd.start s).sheetP=sh:=by
     show (sb s).takeWhile ne33=sh
     rw [← e]
     exact take_part ne33 _ _ (fun x hx=>by unfold ne33;rw [decide_eq_true_iff];exact name_no33 _ hn x hx) (fun x hx=>by simp at hx;subst hx;rfl)
    have hlen:¬ sh.length=(Rd.start s).s.size:=by
     show ¬ sh.length=s.size
     rw [← length_sb, ← e];simp only [List.length_append,List.length_cons];omega
    refine ⟨{ Rd.start s with sh:=strOfNums sh,k:=sh.length+1 }, ?_, ?_,rfl, ?_⟩
    · unfold Rd.sheet;rw [hp,if_neg hlen,if_pos hn]
    · show (sb s).drop (sh.length+1)=_
      rw [← e, ← List.drop_drop,List.drop_left];rfl
    · show sh.length+1+((sb s).drop (sh.length+1)).length=s.size
      rw [List.length_drop, ← length_sb, ← e];simp only [List.length_append,List.length_cons];omega
 obtain ⟨d1,h1,t1,s1,k1⟩:=g1
 have no36:∀ x,isCap x=true→x≠36:=by intro x hx;have:=cap_bd hx;omega
 have no36n:∀ x,isNum x=true→x≠36:=by intro x hx;have:=num_bd hx;omega
 obtain ⟨d2,h2,t2,s2,k2⟩:∃ d2,d1.absCol=some d2∧d2.rest=colL c++(dol ar++digL (r+1).toNat)∧d2.s=s∧d2.k=d1.k+(dol ac).length:=by
  have hmk:=mark_of d1 ac (colL c++(dol ar++digL (r+1).toNat)) t1 (fun x hx=>no36 x (isCap_colL c x (head_append (colL_ne c c0 c1) hx)))
  refine ⟨_,rfl, ?_,s1,by show d1.k+(dol d1.mark).length=_;rw [hmk]⟩
  show (sb d1.s).drop (d1.k+(dol d1.mark).length)=_
  rw [rest_add,hmk,t1];unfold tailL;rw [List.drop_left]
 have hcap:∀ x,(dol ar++digL (r+1).toNat).head? = some x→isCap x=false:=by
  intro x hx
  cases ar with
  | true=>simp [dol] at hx;subst hx;decide
  | false =>
    have hx':(digL (r+1).toNat++[]).head? = some x:=by simpa [dol] using hx
    have:=num_bd (isNum_digL _ x (head_append (digL_ne _) hx'))
    exact isCap_f (by omega)
 obtain ⟨d3,h3,t3,s3,k3⟩:∃ d3,d2.col=some d3∧d3.rest=dol ar++digL (r+1).toNat∧d3.s=s∧d3.k=d2.k+(colL c).length:=by
  have hp:d2.rest.takeWhile isCap=colL c:=by rw [t2];exact take_part isCap _ _ (isCap_colL c) hcap
  refine ⟨{ d2 with c:=readColL (d2.rest.takeWhile isCap),k:=d2.k+(d2.rest.takeWhile isCap).length }, ?_, ?_,s2,by show d2.k+(d2.rest.takeWhile isCap).length=_;rw [hp]⟩
  · unfold Rd.col;rw [if_pos (by rw [hp];exact (readCol_colL c c0 c1).1)]
  · show (sb d2.s).drop (d2.k+(d2.rest.takeWhile isCap).length)=_
    rw [rest_add,hp,t2,List.drop_left]
 obtain ⟨d4,h4,t4,s4,k4⟩:∃ d4,d3.absRow=some d4∧d4.rest=digL (r+1).toNat∧d4.s=s∧d4.k=d3.k+(dol ar).length:=by
  have hmk:=mark_of d3 ar (digL (r+1).toNat) t3 (fun x hx=>no36n x (isNum_digL _ x (head_append (b:=[]) (digL_ne _) (by rw [List.append_nil];exact hx))))
  refine ⟨_,rfl, ?_,s3,by show d3.k+(dol d3.mark).length=_;rw [hmk]⟩
  show (sb d3.s).drop (d3.k+(dol d3.mark).length)=_
  rw [rest_add,hmk,t3,List.drop_left]
 obtain ⟨d5,h5,s5,k5⟩:∃ d5,d4.row=some d5∧d5.s=s∧d5.k=d4.k+(digL (r+1).toNat).length:=by
  have hp:d4.rest.takeWhile isNum=digL (r+1).toNat:=by
   rw [t4]
   have:=take_part isNum (digL (r+1).toNat) [] (isNum_digL _) (fun x hx=>by simp at hx)
   rw [List.append_nil] at this;exact this
  refine ⟨{ d4 with r:=valL (d4.rest.takeWhile isNum) - 1,k:=d4.k+(d4.rest.takeWhile isNum).length }, ?_,s4,by show d4.k+(d4.rest.takeWhile isNum).length=_;rw [hp]⟩
  unfold Rd.row;rw [if_pos (by rw [hp];exact isRow_digL r r0 r1)]
 have h6:d5.fin=none:=by
  unfold readS at h;rw [h1] at h;simp only [Option.bind_some] at h;rw [h2] at h;simp only [Option.bind_some] at h;rw [h3] at h;simp only [Option.bind_some] at h;rw [h4] at h;simp only [Option.bind_some] at h;rw [h5] at h;exact h
 unfold Rd.fin at h6
 have hk:d5.k=d5.s.size:=by
  rw [s5]
  rw [t1] at k1
  unfold tailL at k1
  simp only [List.length_append] at k1
  omega
 rw [if_pos hk] at h6;cases h6
theorem bytes_colL (c:Int):Bytes (colL c):=by
 intro x hx;have:=cap_bd (isCap_colL c x hx);omega
theorem bytes_digL (u:Nat):Bytes (digL u):=by
 intro x hx;have:=num_bd (isNum_digL u x hx);omega
theorem bytes_dol (b:Bool):Bytes (dol b):=by
 intro x hx;have:=dol_all b x hx;rw [decide_eq_true_iff] at this;omega
theorem bytes_textL (s:ByteArray) (c r:Int) (ac ar:Bool):Bytes (textL (sb s) c r ac ar):=by
 by_cases h:mayL (sb s) c r=true
 · rw [textL_eq _ _ _ _ _ h]
   unfold tailL
   refine Bytes.append ?_ ((bytes_dol ac).append ((bytes_colL c).append ((bytes_dol ar).append (bytes_digL _))))
   split
   · exact Bytes.nil
   · exact Bytes.append (sb_bd s) (by intro x hx;simp at hx;omega)
 · unfold textL;rw [if_neg h];exact Bytes.nil
theorem sb_inj {a b:ByteArray} (h:sb a=sb b):a=b:=by rw [← str_sb a, ← str_sb b,h]
theorem Says.text {s:ByteArray} {c r:Int} {ac ar:Bool} {e:Ending} (hm:mayL (sb s) c r=true) (h:Says (sb (strOfNums (textL (sb s) c r ac ar))) e):e = .returned (.tuple #[.agg #[.string s,.int .i64 c,.int .i64 r,.bool ac,.bool ar],.bool true]):=by
 rw [sb_str _ (bytes_textL s c r ac ar)] at h
 rcases h with ⟨s',c',r',ac',ar',_,h2,h3,h4⟩ | ⟨h1,_⟩
 · obtain ⟨e1,e2,e3,e4,e5⟩:=textL_inj h2 hm h3
   rw [h4,sb_inj e1,e2,e3,e4,e5]
 · exact absurd rfl (h1 _ _ _ _ _ hm)
structure Tk where
 kind:Int
 text:ByteArray
 num:Int
 sh:ByteArray
 c:Int
 r:Int
 ac:Bool
 ar:Bool
 pos:Int
def Tk.zero:Tk:=⟨0,⟨#[]⟩,0,⟨#[]⟩,0,0,false,false,0⟩
def Tk.goto (t:Tk) (p:Int):Tk:={ t with pos:=p }
def isWord (x:Int):Bool:=isLet x||(isNum x||decide (x=36∨x=33))
def numT (l:List Int):Option (Tk × Nat) :=
 if (1<(l.takeWhile isNum).length∧l.head? = some 48)∨9223372036854775807<valL (l.takeWhile isNum) then none
 else some ({ Tk.zero with kind:=1,num:=valL (l.takeWhile isNum) },(l.takeWhile isNum).length)
def quoF:List Int→Option (List Int × Nat)
 | []=>none
 | x :: l =>
   if x<32 then none
   else if x≠34 then (quoF l).map fun p=>(x :: p.1,p.2+1)
   else match l with
    | y :: m=>if y=34 then (quoF m).map fun p=>(34 :: p.1,p.2+2) else some ([],1)
    | []=>some ([],1)
def quoT (l:List Int):Option (Tk × Nat):=(quoF l).map fun p=>({ Tk.zero with kind:=2,text:=strOfNums p.1 },p.2+1)
def calledL (l:List Int):Bool:=decide (∀ x∈l,(isCap x||isNum x)=true)&&(decide (1≤l.length∧l.length≤12)&&isCap (l.getD 0 0))
def wordT (l:List Int):Option (Tk × Nat) :=
 match readS (strOfNums (l.takeWhile isWord)) with
 | some d=>some ({ Tk.zero with kind:=4,sh:=d.sh,c:=d.c,r:=d.r,ac:=d.ac,ar:=d.ar },(l.takeWhile isWord).length)
 | none=>if calledL (l.takeWhile isWord)=true then some ({ Tk.zero with kind:=3,text:=strOfNums (l.takeWhile isWord) },(l.takeWhile isWord).length) else none
def deadT (l:List Int):Option (Tk × Nat):=if l.take 5=[35,82,69,70,33] then some ({ Tk.zero with kind:=6 },5) else none
def signN:List Int→Nat
 | []=>0
 | x :: l =>
   if (x=60∧(l.head? = some 62∨l.head? = some 61))∨(x=62∧l.head? = some 61) then 2
   else if x=43∨x=45∨x=42∨x=47∨x=38∨x=61∨x=60∨x=62∨x=40∨x=41∨x=44∨x=58 then 1 else 0
def signT (l:List Int):Option (Tk × Nat):=if signN l=0 then none else some ({ Tk.zero with kind:=5,text:=strOfNums (l.take (signN l)) },signN l)
def tokT:List Int→Option (Tk × Nat)
 | []=>none
 | x :: l=>if isNum x=true then numT (x :: l) else if x=34 then quoT l else if x=35 then deadT (x :: l) else if isLet x=true∨x=36 then wordT (x :: l) else signT (x :: l)
def lexF:Nat→Nat→List Int→Option (List Tk)
 | _,p,[]=>some [Tk.zero.goto p]
 | 0,_,_ :: _=>none
 | f + 1,p,x :: l =>
   if x=32 then lexF f (p+1) l
   else match tokT (x :: l) with
    | none=>none
    | some (t,n)=>(lexF f (p+n) ((x :: l).drop n)).map (t.goto p :: ·)
def lexL (l:List Int):Option (List Tk):=lexF l.length 0 l
theorem tokT_cons (x:Int) (l:List Int):tokT (x :: l)=if isNum x=true then numT (x :: l) else if x=34 then quoT l else if x=35 then deadT (x :: l) else if isLet x=true∨x=36 then wordT (x :: l) else signT (x :: l):=rfl
theorem quoF_cons (x:Int) (l:List Int):quoF (x :: l)=if x<32 then none else if x≠34 then (quoF l).map fun p=>(x :: p.1,p.2+1) else match l with
 | y :: m=>if y=34 then (quoF m).map fun p=>(34 :: p.1,p.2+2) else some ([],1)
 | []=>some ([],1):=by conv=>lhs;rw [quoF.eq_def]
theorem lexF_cons (f p:Nat) (x:Int) (l:List Int):lexF (f+1) p (x :: l)=if x=32 then lexF f (p+1) l else match tokT (x :: l) with
 | none=>none
 | some (t,n)=>(lexF f (p+n) ((x :: l).drop n)).map (t.goto p :: ·):=rfl
theorem take_le (p:Int→Bool) (l:List Int):(l.takeWhile p).length≤l.length:=by
 have h:=congrArg List.length (take_split p l)
 rw [List.length_append] at h;omega
theorem take_pos (p:Int→Bool) (x:Int) (l:List Int) (h:p x=true):0<((x :: l).takeWhile p).length:=by
 rw [List.takeWhile_cons,if_pos h];simp
theorem quoF_le:∀ (n:Nat) (l:List Int) (t:List Int) (k:Nat),l.length≤n→quoF l=some (t,k)→0<k∧k≤l.length
 | _,[],_,_,_,h=>by simp [quoF] at h
 | 0,_ :: _,_,_,hn,_=>by simp at hn
 | n + 1, x :: l,t,k,hn,h=>by
   rw [quoF_cons] at h
   by_cases h1:x<32
   · rw [if_pos h1] at h;cases h
   · rw [if_neg h1] at h
     by_cases h2:x≠34
     · rw [if_pos h2] at h
       cases hq:quoF l with
       | none=>rw [hq] at h;cases h
       | some q =>
         rw [hq] at h
         simp only [Option.map_some,Option.some.injEq,Prod.mk.injEq] at h
         have:=quoF_le n l q.1 q.2 (by simp at hn;omega) hq
         simp only [List.length_cons];omega
     · rw [if_neg h2] at h
       cases l with
       | nil=>simp at h;simp only [List.length_cons,List.length_nil];omega
       | cons y m =>
         by_cases hy:y=34
         · simp only [hy,if_true] at h
           cases hq:quoF m with
           | none=>rw [hq] at h;cases h
           | some q =>
             rw [hq] at h
             simp only [Option.map_some,Option.some.injEq,Prod.mk.injEq] at h
             have:=quoF_le n m q.1 q.2 (by simp at hn;omega) hq
             simp only [List.length_cons];omega
         · simp only [hy,if_false,Option.some.injEq,Prod.mk.injEq] at h
           simp only [List.length_cons];omega
theorem signN_cons (x:Int) (l:List Int):signN (x :: l)=if (x=60∧(l.head? = some 62∨l.head? = some 61))∨(x=62∧l.head? = some 61) then 2
 else if x=43∨x=45∨x=42∨x=47∨x=38∨x=61∨x=60∨x=62∨x=40∨x=41∨x=44∨x=58 then 1 else 0:=rfl
theorem signN_le:∀ l:List Int,signN l≤l.length
 | []=>Nat.le_refl _
 | x :: l=>by
   rw [signN_cons]
   by_cases h:(x=60∧(l.head? = some 62∨l.head? = some 61))∨(x=62∧l.head? = some 61)
   · rw [if_pos h]
     have h0:l≠[]:=by rintro rfl;simp at h
     have:=List.length_pos_iff.2 h0
     simp only [List.length_cons];omega
   · rw [if_neg h]
     split <;> simp
theorem isWord_let {x:Int} (h:isLet x=true∨x=36):isWord x=true:=by
 unfold isWord
 rcases h with h | h
 · rw [h];rfl
 · subst h;decide
theorem tokT_le (l:List Int) (t:Tk) (n:Nat) (h:tokT l=some (t,n)):0<n∧n≤l.length:=by
 cases l with
 | nil=>simp [tokT] at h
 | cons x l =>
   rw [tokT_cons] at h
   by_cases h1:isNum x=true
   · rw [if_pos h1] at h
     unfold numT at h
     split at h
     · cases h
     · simp only [Option.some.injEq,Prod.mk.injEq] at h
       rw [← h.2];exact ⟨take_pos isNum x l h1,take_le _ _⟩
   · rw [if_neg h1] at h
     by_cases h2:x=34
     · rw [if_pos h2] at h
       unfold quoT at h
       cases hq:quoF l with
       | none=>rw [hq] at h;cases h
       | some q =>
         rw [hq] at h
         simp only [Option.map_some,Option.some.injEq,Prod.mk.injEq] at h
         have:=quoF_le _ l q.1 q.2 (Nat.le_refl _) hq
         simp only [List.length_cons];omega
     · rw [if_neg h2] at h
       by_cases h3:x=35
       · rw [if_pos h3] at h
         unfold deadT at h
         split at h
         · rename_i h5
           simp only [Option.some.injEq,Prod.mk.injEq] at h
           have:=congrArg List.length h5
           rw [List.length_take] at this
           simp only [List.length_cons,List.length_nil] at this ⊢;omega
         · cases h
       · rw [if_neg h3] at h
         by_cases h4:isLet x=true∨x=36
         · rw [if_pos h4] at h
           unfold wordT at h
           split at h
           · simp only [Option.some.injEq,Prod.mk.injEq] at h
             rw [← h.2];exact ⟨take_pos isWord x l (isWord_let h4),take_le _ _⟩
           · split at h
             · simp only [Option.some.injEq,Prod.mk.injEq] at h
               rw [← h.2];exact ⟨take_pos isWord x l (isWord_let h4),take_le _ _⟩
             · cases h
         · rw [if_neg h4] at h
           unfold signT at h
           split at h
           · cases h
           · rename_i h5
             simp only [Option.some.injEq,Prod.mk.injEq] at h
             rw [← h.2];exact ⟨by omega,signN_le _⟩
theorem lexF_more:∀ (f g p:Nat) (l:List Int),l.length≤f→l.length≤g→lexF f p l=lexF g p l
 | 0,0,_,_,_,_=>rfl
 | _,_,_,[],_,_=>by unfold lexF;rfl
 | 0,_,_,_ :: _,h,_=>by simp at h
 | _,0,_,_ :: _,_,h=>by simp at h
 | f + 1,g+1,p,x :: l,h,h2=>by
   simp only [List.length_cons] at h h2
   rw [lexF_cons,lexF_cons]
   by_cases hx:x=32
   · rw [if_pos hx,if_pos hx];exact lexF_more f g (p+1) l (by omega) (by omega)
   · rw [if_neg hx,if_neg hx]
     cases ht:tokT (x :: l) with
     | none=>rfl
     | some q =>
       obtain ⟨t,n⟩:=q
       have hn:=tokT_le _ _ _ ht
       simp only
       rw [lexF_more f g (p+n) ((x :: l).drop n) (by rw [List.length_drop];simp only [List.length_cons];omega) (by rw [List.length_drop];simp only [List.length_cons];omega)]
def Alike (b b':List Int):Prop:=b'.head? = b.head? ∨ b'.head? = some 32
theorem head_no {p:Int→Bool} (hp:p 32=false) {b b':List Int} (h:Alike b b') (hb:∀ x,b.head? = some x→p x=false):∀ x,b'.head? = some x→p x=false:=by
 intro x hx
 rcases h with h | h
 · exact hb x (by rw [← h];exact hx)
 · rw [h] at hx;injection hx with hx;rw [← hx];exact hp
theorem span_alike {p:Int→Bool} (hp:p 32=false) {a b b':List Int} (h:Alike b b') (hs:((a++b).takeWhile p).length=a.length):(a++b).takeWhile p=a∧(a++b').takeWhile p=a:=by
 have e:=take_split p (a++b)
 rw [hs,List.drop_left] at e
 have e1:(a++b).takeWhile p=a:=List.append_cancel_right e
 refine ⟨e1, ?_⟩
 have hall:∀ x∈a,p x=true:=fun x hx=>take_all p (a++b) x (by rw [e1];exact hx)
 have hh:=take_head p (a++b)
 rw [hs,List.drop_left] at hh
 exact take_part p a b' hall (head_no hp h hh)
theorem quoF_alike {b b':List Int} (h:Alike b b'):∀ (n:Nat) (a t:List Int),a.length≤n→quoF (a++b)=some (t,a.length)→quoF (a++b')=some (t,a.length)
 | _,[],t,_,hq=>by
   exfalso
   have:=quoF_le _ _ _ _ (Nat.le_refl _) hq
   simp at this
 | 0,_ :: _,_,hn,_=>by simp at hn
 | n + 1, x :: a,t,hn,hq=>by
   rw [List.cons_append,quoF_cons] at hq ⊢
   by_cases h1:x<32
   · rw [if_pos h1] at hq;cases hq
   · rw [if_neg h1] at hq ⊢
     by_cases h2:x≠34
     · rw [if_pos h2] at hq ⊢
       cases hr:quoF (a++b) with
       | none=>rw [hr] at hq;cases hq
       | some q =>
         rw [hr] at hq
         simp only [Option.map_some,Option.some.injEq,Prod.mk.injEq,List.length_cons] at hq
         have h3:=quoF_alike h n a q.1 (by simp at hn;omega) (by rw [hr, ← show q.2=a.length from by omega])
         rw [h3]
         simp only [Option.map_some,List.length_cons,Option.some.injEq,Prod.mk.injEq,and_true]
         exact hq.1
     · rw [if_neg h2] at hq ⊢
       cases a with
       | nil =>
         simp only [List.nil_append] at hq ⊢
         cases b with
         | nil =>
           simp only [Option.some.injEq,Prod.mk.injEq] at hq
           cases b' with
           | nil=>simpa using hq
           | cons y m =>
             rcases h with h | h
             · simp at h
             · simp at h;subst h;simpa using hq
         | cons z m =>
           by_cases hz:z=34
           · exfalso
             simp only [hz,if_true] at hq
             cases hr:quoF m with
             | none=>rw [hr] at hq;cases hq
             | some q=>rw [hr] at hq;simp at hq
           · simp only [hz,if_false] at hq
             cases b' with
             | nil=>simpa using hq
             | cons y k =>
               have hy:¬ y=34:=by
                rcases h with h | h
                · simp at h;rw [h];exact hz
                · simp at h;omega
               simp only [hy,if_false];exact hq
       | cons y m =>
         simp only [List.cons_append] at hq ⊢
         by_cases hy:y=34
         · simp only [hy,if_true] at hq ⊢
           cases hr:quoF (m++b) with
           | none=>rw [hr] at hq;cases hq
           | some q =>
             rw [hr] at hq
             simp only [Option.map_some,Option.some.injEq,Prod.mk.injEq,List.length_cons] at hq
             have h3:=quoF_alike h n m q.1 (by simp at hn;omega) (by rw [hr, ← show q.2=m.length from by omega])
             rw [h3]
             simp only [Option.map_some,List.length_cons,Option.some.injEq,Prod.mk.injEq,and_true]
             exact hq.1
         · simp only [hy,if_false,Option.some.injEq,Prod.mk.injEq,List.length_cons] at hq
           exfalso;omega
theorem signN_alike {b b':List Int} (h:Alike b b') (x:Int) (hs:signN (x :: b)=1):signN (x :: b')=1:=by
 rw [signN_cons] at hs ⊢
 by_cases h2:(x=60∧(b.head? = some 62∨b.head? = some 61))∨(x=62∧b.head? = some 61)
 · rw [if_pos h2] at hs;omega
 · rw [if_neg h2] at hs
   have h3:¬ ((x=60∧(b'.head? = some 62∨b'.head? = some 61))∨(x=62∧b'.head? = some 61)):=by
    rcases h with h | h
    · rw [h];exact h2
    · rw [h];simp
   rw [if_neg h3];exact hs
theorem take_len (a b:List Int):(a++b).take a.length=a:=List.take_left
theorem tokT_alike {a b b':List Int} {t:Tk} (h:Alike b b') (hq:tokT (a++b)=some (t,a.length)):tokT (a++b')=some (t,a.length):=by
 cases a with
 | nil =>
   have:=(tokT_le _ _ _ hq).1
   simp at this
 | cons x a =>
   have hsp:∀ (p:Int→Bool),p 32=false→((x :: a++b).takeWhile p).length=(x :: a).length→(x :: a++b').takeWhile p=(x :: a++b).takeWhile p:=by
    intro p hp hl
    obtain ⟨e1,e2⟩:=span_alike hp h hl
    rw [e1,e2]
   rw [List.cons_append,tokT_cons] at hq ⊢
   by_cases h1:isNum x=true
   · rw [if_pos h1] at hq ⊢
     have hn:((x :: a++b).takeWhile isNum).length=(x :: a).length:=by
      unfold numT at hq
      split at hq
      · cases hq
      · simp only [Option.some.injEq,Prod.mk.injEq] at hq;exact hq.2
     have e:=hsp isNum (by decide) hn
     rw [← hq]
     unfold numT
     rw [List.cons_append,List.cons_append] at e
     rw [e];rfl
   · rw [if_neg h1] at hq ⊢
     by_cases h2:x=34
     · rw [if_pos h2] at hq ⊢
       unfold quoT at hq ⊢
       cases hr:quoF (a++b) with
       | none=>rw [hr] at hq;cases hq
       | some q =>
         rw [hr] at hq
         simp only [Option.map_some,Option.some.injEq,Prod.mk.injEq,List.length_cons] at hq
         have h3:=quoF_alike h _ a q.1 (Nat.le_refl _) (by rw [hr, ← show q.2=a.length from by omega])
         rw [h3]
         simp only [Option.map_some,List.length_cons,Option.some.injEq,Prod.mk.injEq,and_true]
         exact hq.1
     · rw [if_neg h2] at hq ⊢
       by_cases h3:x=35
       · rw [if_pos h3] at hq ⊢
         unfold deadT at hq ⊢
         by_cases h5:(x :: (a++b)).take 5=[35,82,69,70,33]
         · rw [if_pos h5] at hq
           simp only [Option.some.injEq,Prod.mk.injEq] at hq
           have e1:(x :: (a++b)).take 5=x :: a:=by rw [hq.2, ← List.cons_append];exact take_len _ _
           have e2:(x :: (a++b')).take 5=x :: a:=by rw [hq.2, ← List.cons_append];exact take_len _ _
           rw [e1] at h5
           rw [e2,if_pos h5,hq.1]
           exact congrArg (fun k=>some (t,k)) hq.2
         · rw [if_neg h5] at hq;cases hq
       · rw [if_neg h3] at hq ⊢
         by_cases h4:isLet x=true∨x=36
         · rw [if_pos h4] at hq ⊢
           have hn:((x :: a++b).takeWhile isWord).length=(x :: a).length:=by
            unfold wordT at hq
            split at hq
            · simp only [Option.some.injEq,Prod.mk.injEq] at hq;exact hq.2
            · split at hq
              · simp only [Option.some.injEq,Prod.mk.injEq] at hq;exact hq.2
              · cases hq
           have e:=hsp isWord (by decide) hn
           rw [← hq]
           unfold wordT
           rw [List.cons_append,List.cons_append] at e
           rw [e]
         · rw [if_neg h4] at hq ⊢
           unfold signT at hq ⊢
           by_cases h5:signN (x :: (a++b))=0
           · rw [if_pos h5] at hq;cases hq
           · rw [if_neg h5] at hq
             simp only [Option.some.injEq,Prod.mk.injEq] at hq
             have e:signN (x :: (a++b'))=signN (x :: (a++b)):=by
              cases a with
              | nil=>rw [hq.2];exact signN_alike h x hq.2
              | cons y a=>rw [signN_cons,signN_cons];rfl
             rw [e,if_neg h5, ← hq.1,hq.2]
             have e1:(x :: (a++b)).take (x :: a).length=x :: a:=by rw [← List.cons_append];exact take_len _ _
             have e2:(x :: (a++b')).take (x :: a).length=x :: a:=by rw [← List.cons_append];exact take_len _ _
             rw [e1,e2]
structure Rf where
 sh:ByteArray
 c:Int
 r:Int
 ac:Bool
 ar:Bool
def Rf.zero:Rf:=⟨⟨#[]⟩,0,0,false,false⟩
def Tk.rf (t:Tk):Rf:=⟨t.sh,t.c,t.r,t.ac,t.ar⟩
structure Nd where
 kind:Int
 num:Int
 text:ByteArray
 ref:Rf
 zto:Rf
 kids:List Int
def Nd.zero:Nd:=⟨0,0,⟨#[]⟩,Rf.zero,Rf.zero,[]⟩
abbrev Res:=Except Int (List Nd × Nat × List Tk)
abbrev Args:=Except Int (List Nd × List Int × List Tk)
def bindR {α β γ δ : Type} (x:Option (Except Int (α × β × γ))) (k : α → β → γ → Option (Except Int δ)):Option (Except Int δ) :=
 match x with
 | none=>none
 | some (.error e)=>some (.error e)
 | some (.ok (a,b,c))=>k a b c
def signIs (s:ByteArray) (ts:List Tk):Bool:=match ts with
 | t :: _=>decide (t.kind=5)&&decide (t.text=s)
 | []=>false
def levelL:Nat→List (ByteArray × Int)
 | 0=>[(⟨#[61]⟩,9),(⟨#[60,62]⟩,10),(⟨#[60]⟩,11),(⟨#[60,61]⟩,12),(⟨#[62]⟩,13),(⟨#[62,61]⟩,14)]
 | 1=>[(⟨#[38]⟩,15)]
 | 2=>[(⟨#[43]⟩,16),(⟨#[45]⟩,17)]
 | _=>[(⟨#[42]⟩,18),(⟨#[47]⟩,19)]
def opK (n:Nat) (ts:List Tk):Int:=match (levelL n).find? fun p=>signIs p.1 ts with
 | some p=>p.2
 | none=>0
def spanB (a b:Rf):Bool:=decide (b.sh=⟨#[]⟩)&&(decide (a.c≤b.c)&&decide (a.r≤b.r))
def kindAt (ts:List Tk):Int:=match ts with
 | t :: _=>t.kind
 | []=>0
def refP (base:Nat) (t:Tk) (ts:List Tk):Res :=
 if signIs ⟨#[58]⟩ ts=true then match ts.tail with
  | u :: us=>if u.kind=4∧spanB t.rf u.rf=true then .ok ([{ Nd.zero with kind:=6,ref:=t.rf,zto:=u.rf }],base,us) else .error 5
  | [] => .error 5
 else .ok ([{ Nd.zero with kind:=5,ref:=t.rf }],base,ts)
mutual
def exprP:Nat→Nat→Nat→Nat→List Tk→Option Res
 | 0,_,_,_,_=>none
 | f + 1,n,deep,base,ts =>
   if n≤3 then bindR (exprP f (n+1) deep base ts) fun ns a r=>rowP f n deep base ns a r
   else if signIs ⟨#[45]⟩ ts=true then
    if 12≤deep then some (.error 6)
    else bindR (exprP f 4 (deep+1) base ts.tail) fun ns a r=>some (.ok (ns++[{ Nd.zero with kind:=8,kids:=[(a:Int)] }],base+ns.length,r))
   else primP f deep base ts
def rowP:Nat→Nat→Nat→Nat→List Nd→Nat→List Tk→Option Res
 | 0,_,_,_,_,_,_=>none
 | f+1,n,deep,base,ns,a,ts =>
   if opK n ts=0 then some (.ok (ns,a,ts))
   else bindR (exprP f (n+1) deep (base+ns.length) ts.tail) fun ms b r=>rowP f n deep base (ns++(ms++[{ Nd.zero with kind:=opK n ts,kids:=[(a:Int),(b:Int)] }])) (base+(ns.length+ms.length)) r
def primP:Nat→Nat→Nat→List Tk→Option Res
 | 0,_,_,_=>none
 | _,_,_,[]=>some (.error 5)
 | f + 1,deep,base,t :: ts =>
   if signIs ⟨#[40]⟩ (t :: ts)=true then
    if 12≤deep then some (.error 6)
    else bindR (exprP f 0 (deep+1) base ts) fun ns a r=>if signIs ⟨#[41]⟩ r=true then some (.ok (ns,a,r.tail)) else some (.error 5)
   else if t.kind=1 then some (.ok ([{ Nd.zero with kind:=1,num:=t.num }],base,ts))
   else if t.kind=2 then some (.ok ([{ Nd.zero with kind:=2,text:=t.text }],base,ts))
   else if t.kind=6 then some (.ok ([{ Nd.zero with kind:=4 }],base,ts))
   else if t.kind=4 then some (refP base t ts)
   else if t.kind=3 then
    if t.text=⟨#[84,82,85,69]⟩ then some (.ok ([{ Nd.zero with kind:=3,num:=1 }],base,ts))
    else if t.text=⟨#[70,65,76,83,69]⟩ then some (.ok ([{ Nd.zero with kind:=3 }],base,ts))
    else if signIs ⟨#[40]⟩ ts=true then
     if 12≤deep then some (.error 6)
     else bindR (if signIs ⟨#[41]⟩ ts.tail=true then some (.ok ([],[],ts.tail)) else argsP f (deep+1) base [] [] ts.tail) fun ns ks r =>
      if signIs ⟨#[41]⟩ r=true then some (.ok (ns++[{ Nd.zero with kind:=7,text:=t.text,kids:=ks }],base+ns.length,r.tail)) else some (.error 5)
    else some (.error 5)
   else some (.error 5)
def argsP:Nat→Nat→Nat→List Nd→List Int→List Tk→Option Args
 | 0,_,_,_,_,_=>none
 | f + 1,deep,base,ns,ks,ts =>
   bindR (exprP f 0 deep (base+ns.length) ts) fun ms a r =>
    if signIs ⟨#[44]⟩ r=true then argsP f deep base (ns++ms) (ks++[(a:Int)]) r.tail else some (.ok (ns++ms,ks++[(a:Int)],r))
end
def parseP (f:Nat) (ts:List Tk):Option (Except Int (List Nd)) :=
 bindR (exprP f 0 0 0 ts) fun ns _ r=>if kindAt r=0 then some (.ok ns) else some (.error 5)
theorem bindR_some {α β γ δ : Type} {x:Option (Except Int (α × β × γ))} {k : α → β → γ → Option (Except Int δ)} {y:Except Int δ} (h:bindR x k=some y) :
 (∃ e,x=some (.error e)∧y = .error e)∨∃ a b c,x=some (.ok (a,b,c))∧k a b c=some y:=by
 unfold bindR at h
 split at h
 · cases h
 · injection h with h;exact .inl ⟨_,rfl,h.symm⟩
 · exact .inr ⟨_,_,_,rfl,h⟩
theorem bindR_less {α β γ δ : Type} {x x':Option (Except Int (α × β × γ))} {k k' : α → β → γ → Option (Except Int δ)} (hx:∀ y,x=some y→x'=some y) (hk:∀ a b c y,k a b c=some y→k' a b c=some y) :
 ∀ y,bindR x k=some y→bindR x' k'=some y:=by
 intro y h
 rcases bindR_some h with ⟨e,h1,rfl⟩ | ⟨a,b,c,h1,h2⟩
 · rw [hx _ h1];rfl
 · rw [hx _ h1];exact hk _ _ _ _ h2
theorem tl_eq (a b:ByteArray):(a.toList == b.toList)=decide (a=b):=by
 by_cases h:a=b
 · subst h;simp
 · rw [decide_eq_false h]
   exact beq_eq_false_iff_ne.2 (text_ne a b h)
end Go.Proofs.YtnahgpjglooclaaGreatDoor
