/-
 Texts of layers, put together.
-/
import Derived.Test.YtecpbligblnonaaGreatDoorRows
import Derived.WalkKit
import Derived.WalkSpells
import Derived.WalkLawsBesides
import Derived.WalkSmall
import Derived.Handy
import Derived.Deep.QuietTactic
import Derived.BigQuiet
import Derived.RegionTactic
import Derived.BigRegion
import Derived.StillTailTactics
import Derived.Lib.Hide
import Derived.Laws.Rows
import Derived.Laws.CopyOwn
import Derived.Laws.CopyRow
import Derived.Deep.MidRow
import Derived.Deep.WholeRow
import Derived.Deep.Cut
import Derived.Deep.RegionLaw
import Derived.Laws.BytesArg
import Derived.MapKept
namespace Go.Proofs.YtecpbligblnonaaGreatDoor
open Go.RowKit
theorem run_storeVar_row {P:Program} (w:World) (g:Nat) (ty t:TypeId) (cur cells:Array Value) (hg:w.heap[g]? = some (.cells cur t)) (hs:cur.size=cells.size)
 (hi:(P.info? ty).map (·.size)=some cells.size) (h1:∀ v∈cells.toList,v.oneCell'=true) :
 (storeVar ty ⟨g,0,none⟩ (.agg cells)).run P w = .ok () (w.setRow g cells):=by
 have:=run_storeCells_at P g 0 t cells.toList 0 cur w hg (by simp;omega) h1
 cases hq:P.info? ty with
 | none=>simp [hq] at hi
 | some i =>
   have hs':cells.size=i.size:=by simp [hq] at hi;omega
   simp [storeVar,sizeOf,typeInfo,hq,Value.cells,hs',this]
   congr 1
   have:List.drop i.size cur.toList=[]:=by rw [List.drop_eq_nil_iff];simp;omega
   rw [this];simp
theorem wp_store_row {P:Program} {op:Oper} {a:Act} {w:World} {K:Act→World→Prop} {Q:Exit→Act→World→Prop} (ty:TypeId) (x y:Operand) (ho:op.op = .store ty x y)
 (g:Nat) (t:TypeId) (cur cells:Array Value) (hx:a.eval x = .pointer (some ⟨g,0,none⟩)) (hy:a.eval y = .agg cells) (hg:w.heap[g]? = some (.cells cur t)) (hs:cur.size=cells.size)
 (hi:(P.info? ty).map (·.size)=some cells.size) (h1:∀ v∈cells.toList,v.oneCell'=true)
 (h:K (a.put op.dst undef) (w.setRow g cells)):op.wp P a w K Q:=by
 unfold Oper.wp execOp
 simp only [ho,hx,hy,Instr.storeAt,Instr.sureAddr,Sem.run_bind,Sem.run_pure,Result.andThen_ok,run_storeVar_row w g ty t cur cells hg hs hi h1]
 exact h
theorem wpList_store_row {P:Program} {ops:Array Oper} {rest:List Oper} {op:Oper} {a:Act} {w:World} {Q:Exit→Act→World→Prop} (hgd:op.guard=none) (ty:TypeId) (x y:Operand) (ho:op.op = .store ty x y)
 (g:Nat) (t:TypeId) (cur cells:Array Value) (hx:a.eval x = .pointer (some ⟨g,0,none⟩)) (hy:a.eval y = .agg cells) (hg:w.heap[g]? = some (.cells cur t)) (hs:cur.size=cells.size)
 (hi:(P.info? ty).map (·.size)=some cells.size) (h1:∀ v∈cells.toList,v.oneCell'=true)
 (h:wpList P ops Q rest (a.put op.dst undef) (w.setRow g cells)):wpList P ops Q (op :: rest) a w :=
 wpList_plain hgd fun _ hK=>wp_store_row ty x y ho g t cur cells hx hy hg hs hi h1 (hK _ _ h)
structure Elem (P:Program) (t e:TypeId) (size bytes:Nat):Prop where
 und:P.underlying t=some (.slice e)
 inf:∃ z:Value,(P.info? e).map (fun i=>(i.zero,i.size,i.bytes))=some (some z,size,bytes)∧z.cells.size=size
 pos:0<size
structure Enc (α : Type) (size:Nat) where
 f : α → List Value
 len:∀ a,(f a).length=size
 one:∀ a,∀ u∈f a,u.oneCell'=true
def Enc.all {α : Type} {size:Nat} (E:Enc α size) (xs:List α):List Value:=xs.flatMap E.f
theorem Enc.length_all {α : Type} {size:Nat} (E:Enc α size) (xs:List α):(E.all xs).length=xs.length*size:=by
 unfold Enc.all
 induction xs with
 | nil=>simp
 | cons a l ih=>rw [List.flatMap_cons,List.length_append,ih,E.len,List.length_cons,Nat.add_mul];omega
theorem Enc.all_append {α : Type} {size:Nat} (E:Enc α size) (xs ys:List α):E.all (xs++ys)=E.all xs++E.all ys:=by
 unfold Enc.all;exact List.flatMap_append ..
theorem Enc.one_all {α : Type} {size:Nat} (E:Enc α size) (xs:List α):∀ u∈E.all xs,u.oneCell'=true:=by
 intro u hu;unfold Enc.all at hu;rw [List.mem_flatMap] at hu;obtain ⟨a,_,h⟩:=hu;exact E.one a u h
theorem Enc.at {α : Type} {size:Nat} (E:Enc α size) (xs:List α) (i j:Nat) (a : α) (ha:xs[i]? = some a) (hj:j<size):(E.all xs)[i*size+j]? = (E.f a)[j]? := by
 unfold Enc.all
 induction xs generalizing i with
 | nil=>simp at ha
 | cons b l ih =>
   rw [List.flatMap_cons]
   cases i with
   | zero =>
     simp at ha;subst ha
     rw [Nat.zero_mul,Nat.zero_add,List.getElem?_append_left (by rw [E.len];exact hj)]
   | succ i =>
     have:(i+1)*size=i*size+size:=Nat.succ_mul i size
     rw [List.getElem?_append_right (by rw [E.len];omega),E.len]
     have e:(i+1)*size+j - size=i*size+j:=by omega
     rw [e];exact ih i (by simpa using ha)
def Own {α : Type} {size:Nat} (E:Enc α size) (e:TypeId) (w:World) (base:Nat) (v:Value) (xs:List α):Prop:=w.ownsRow base e size v xs.length (E.all xs)
theorem Own.nil {α : Type} {size:Nat} (E:Enc α size) (e:TypeId) (w:World) (base:Nat):Own E e w base (.slice none 0 0) ([]:List α):=World.ownsRow_nil w base e size
theorem Own.alloc {α : Type} {size:Nat} {E:Enc α size} {e:TypeId} {w:World} {base:Nat} {v:Value} {xs:List α} (h:Own E e w base v xs) (o:Obj):Own E e (w.alloc o) base v xs:=World.ownsRow.alloc h o
theorem Own.drew {α : Type} {size:Nat} {E:Enc α size} {e:TypeId} {w:World} {base:Nat} {v:Value} {xs:List α} (h:Own E e w base v xs):Own E e w.drew base v xs:=h
theorem Own.drewN {α : Type} {size:Nat} {E:Enc α size} {e:TypeId} {w:World} {base:Nat} {v:Value} {xs:List α} (h:Own E e w base v xs) (n:Nat):Own E e (w.drewN n) base v xs:=h
theorem Own.mono {α : Type} {size:Nat} {E:Enc α size} {e:TypeId} {w:World} {base base':Nat} {v:Value} {xs:List α} (h:Own E e w base v xs) (hb:base'≤base):Own E e w base' v xs:=by
 refine ⟨h.1, ?_⟩
 rcases h.2 with h | ⟨g,cap,cur,h1,h2,h3⟩
 · exact .inl h
 · exact .inr ⟨g,cap,cur,h1,by omega,h3⟩
theorem Own.below {α : Type} {size:Nat} {E:Enc α size} {e:TypeId} {w w':World} {base B:Nat} {v:Value} {xs:List α} (h:Own E e w base v xs) (hb:Below B w w') (hB:w.heap.size≤B):Own E e w' base v xs:=by
 refine ⟨h.1, ?_⟩
 rcases h.2 with h | ⟨g,cap,cur,h1,h2,h3,h4⟩
 · exact .inl h
 · refine .inr ⟨g,cap,cur,h1,h2, ?_,h4⟩
   rw [hb.block g (by have:=(Array.getElem?_eq_some_iff.1 h3).1;omega)];exact h3
theorem Own.shape {α : Type} {size:Nat} {E:Enc α size} {e:TypeId} {w:World} {base:Nat} {v:Value} {xs:List α} (h:Own E e w base v xs) :
 (v = .slice none 0 0∧xs=[])∨∃ g cap,v = .slice (some ⟨g,0,none⟩) xs.length cap∧base≤g∧g<w.heap.size∧xs.length≤cap∧cap≤maxLen:=by
 rcases h.2 with ⟨h1,h2⟩ | ⟨g,cap,cur,h1,h2,h3,h4,h5,_⟩
 · exact .inl ⟨h1,List.length_eq_zero_iff.1 h2⟩
 · exact .inr ⟨g,cap,h1,h2,(Array.getElem?_eq_some_iff.1 h3).1,h4,h5⟩
theorem Own.cells {α : Type} {size:Nat} {E:Enc α size} {e:TypeId} {w:World} {base g cap n:Nat} {xs:List α} (h:Own E e w base (.slice (some ⟨g,0,none⟩) n cap) xs) (j:Nat) (u:Value) (hj:(E.all xs)[j]? = some u) :
 w.cell? ⟨g,j,none⟩=some u:=by
 have:=World.ownsRow.cells h (g:=g) rfl j u hj
 rw [Addr.add_mid,Nat.zero_add] at this;exact this
theorem wpList_app {P:Program} {α : Type} {size t e bytes:Nat} {w:World} {ops:Array Oper} {rest:List Oper} {o:Oper} {a:Act} {Q:Exit→Act→World→Prop} (EL:Elem P t e size bytes) (E:Enc α size)
 (hgd:o.guard=none) (s x:Operand) (ho:o.op = .call { callee := .builtin .append,args:=#[s,x],argTypes:=#[t,t] }) (base:Nat) (v:Value) (xs:List α)
 (hs:a.eval s=v) (hown:Own E e w base v xs) (ad:Addr) (m c:Nat) (ys:List α) (hx:a.eval x = .slice (some ad) m c) (hl:ys.length=m)
 (hc:∀ (j:Nat) (u:Value),(E.all ys)[j]? = some u→w.cell? (ad.add j)=some u) (hb:(xs.length+m)*bytes≤140737488355328) (hb2:xs.length+m≤maxLen) (hbase:base≤w.heap.size)
 (h:∀ (v':Value) (w':World),Own E e w' base v' (xs++ys)→Below base w w'→wpList P ops Q rest (a.put o.dst v') w'):wpList P ops Q (o :: rest) a w:=by
 obtain ⟨z,hi,hz⟩:=EL.inf
 obtain ⟨i,hi1,hi2,hi3,hi4⟩:=info_parts hi
 refine wpList_append_own w hgd s x t ho base e i z size bytes EL.und hi1 hi2 hi3 hi4 hz EL.pos v xs.length (E.all xs) hs hown ad m c (E.all ys) hx (by rw [E.length_all,hl]) hc (E.one_all ys) hb2 hb hbase ?_
 intro v' w' h1 h2 _
 refine h v' w' ?_ ?_
 · unfold Own;rw [E.all_append,List.length_append,hl];exact h1
 · refine Below.grown (Below.refl _ _) h2 hbase ?_
   intro k hk
   exact (World.ownsRow.lt hown k hk).1
theorem cells_new {w:World} (C:Array Value) (t:TypeId) (l:List Value) (hC:C.toList=l) (j:Nat) (u:Value) (hj:l[j]? = some u):(w.alloc (.cells C t)).cell? ((⟨w.heap.size,0,none⟩:Addr).add j)=some u:=by
 rw [Addr.add_mid,Nat.zero_add,World.cell?_alloc_at _ _ _ _ rfl]
 subst hC
 simpa using hj
def encInt (k:IntKind):Enc Int 1:={ f:=fun n=>[.int k n],len:=fun _=>rfl,one:=fun _ u hu=>by simp at hu;subst hu;rfl }
theorem all_encInt (k:IntKind) (l:List Int):(encInt k).all l=l.map (Value.int k):=by
 unfold Enc.all encInt
 induction l with
 | nil=>rfl
 | cons a l ih=>rw [List.flatMap_cons,List.map_cons,ih];rfl
theorem getElem?_map_int (k:IntKind) (xs:List Int) (i:Nat) (h:i<xs.length):(xs.map (Value.int k))[i]? = some (.int k (xs.getD i 0)):=by
 simp [List.getElem?_eq_getElem h,List.getD_eq_getElem?_getD]
theorem Own.intCell {k:IntKind} {e:TypeId} {w:World} {base g cap n:Nat} {xs:List Int} (h:Own (encInt k) e w base (.slice (some ⟨g,0,none⟩) n cap) xs) (i:Nat) (hi:i<xs.length) :
 w.cell? ⟨g,i,none⟩=some (.int k (xs.getD i 0)):=by
 apply Own.cells h;rw [all_encInt];exact getElem?_map_int k xs i hi
theorem Own.made {α : Type} {size:Nat} (E:Enc α size) (e:TypeId) (w:World) (base g cap:Nat) (cur:Array Value) (hg:g=w.heap.size) (hb:base≤w.heap.size) (hm:cap≤maxLen) (hs:cur.size=cap*size) :
 Own E e (w.alloc (.cells cur e)) base (.slice (some ⟨g,0,none⟩) 0 cap) ([]:List α):=by subst hg;exact World.ownsRow_made w cur cap hb hm hs
def lenOf:Value→Nat
 | .slice _ n _=>n
 | _=>0
theorem Own.some {α : Type} {size:Nat} {E:Enc α size} {e:TypeId} {w:World} {base:Nat} {v:Value} {xs:List α} (h:Own E e w base v xs) (hne:0<xs.length) :
 ∃ g cap,v = .slice (some ⟨g,0,none⟩) xs.length cap∧base≤g∧g<w.heap.size∧xs.length≤cap∧cap≤maxLen:=by
 rcases h.shape with ⟨_,rfl⟩ | h
 · exact absurd hne (by simp)
 · exact h
theorem cell_other {w w':World} {row:Option Nat} (h:w.grownBy w' row) {a:Addr} (hlt:a.block<w.heap.size) (hne:some a.block≠row):w'.cell? a=w.cell? a:=by
 simp only [World.cell?,h.block a.block hlt hne]
theorem grownBy.refl' (w:World) (r:Option Nat):w.grownBy w r:=⟨rfl,rfl,rfl,Nat.le_refl _,fun _ _ _=>rfl⟩
theorem grownBy.trans' {a b c:World} {r:Option Nat} (h:a.grownBy b r) (k:b.grownBy c r):a.grownBy c r :=
 ⟨k.os.trans h.os,k.tape.trans h.tape,k.output.trans h.output,Nat.le_trans h.size k.size,fun j hj hr=>(k.block j (Nat.lt_of_lt_of_le hj h.size) hr).trans (h.block j hj hr)⟩
theorem grownBy.setCell' {a w:World} {b:Nat} (h:a.grownBy w (some b)) (o:Nat) (v:Value):a.grownBy (w.setCell ⟨b,o,none⟩ v) (some b) :=
 ⟨h.os,h.tape,h.output,by simpa using h.size,fun j hj hr=>by
  rw [Below.heap_setCell _ _ _ _ (by intro e;exact hr (by rw [e]))];exact h.block j hj hr⟩
theorem grownBy.drewN' {a w:World} {r:Option Nat} (h:a.grownBy w r) (n:Nat):a.grownBy (w.drewN n) r:=⟨h.os,h.tape,h.output,h.size,h.block⟩
theorem grownBy.below' {a w w':World} {r:Option Nat} (h:a.grownBy w r) (k:Below w.heap.size w w'):a.grownBy w' r :=
 ⟨k.os.trans h.os,k.tape.trans h.tape,k.output.trans h.output,Nat.le_trans h.size k.size,fun j hj hr=>(k.block j (Nat.lt_of_lt_of_le hj h.size)).trans (h.block j hj hr)⟩
theorem grownBy.setRow' {a w:World} {b:Nat} (h:a.grownBy w (some b)) (cs:Array Value):a.grownBy (w.setRow b cs) (some b) :=
 ⟨h.os,h.tape,h.output,by simpa using h.size,fun j hj hr=>by
  rw [Go.setRow_other w b j cs (by intro e;exact hr (by rw [e]))];exact h.block j hj hr⟩
def sb (s:ByteArray):List Int:=s.data.toList.map (fun b=>(b.toNat:Int))
theorem length_sb (s:ByteArray):(sb s).length=s.size:=by unfold sb;simp
theorem sb_at (s:ByteArray) (k:Nat) (h:k<s.size):(sb s)[k]? = some ((s[k].toNat:Nat):Int):=by
 unfold sb;rw [List.getElem?_map,List.getElem?_eq_getElem (by simpa using h)];rfl
theorem sb_bd (s:ByteArray):∀ a∈sb s,0≤a∧a≤255:=by
 intro a ha;unfold sb at ha;rw [List.mem_map] at ha;obtain ⟨b,_,rfl⟩:=ha
 have:=b.toNat_lt;omega
theorem sb_getD (s:ByteArray) (k:Nat) (h:k<s.size):(sb s).getD k 0=((s[k].toNat:Nat):Int):=by
 rw [List.getD_eq_getElem?_getD,sb_at s k h];rfl
def Bytes (l:List Int):Prop:=∀ a∈l,0≤a∧a≤255
theorem Bytes.append {a b:List Int} (h:Bytes a) (k:Bytes b):Bytes (a++b):=by
 intro x hx;rw [List.mem_append] at hx;rcases hx with hx | hx
 · exact h x hx
 · exact k x hx
theorem Bytes.nil:Bytes []:=by intro a ha;simp at ha
theorem sb_str (l:List Int) (h:Bytes l):sb (strOfNums l)=l:=by
 unfold sb
 rw [strOfNums_data,List.map_map]
 conv=>rhs;rw [← List.map_id l]
 apply List.map_congr_left
 intro a ha
 have:=h a ha
 simp only [Function.comp,id]
 rw [UInt8.toNat_ofNat_of_lt' (by show a.toNat<256;omega)];omega
theorem str_sb (s:ByteArray):strOfNums (sb s)=s:=by
 have:(strOfNums (sb s)).data=s.data:=by
  apply Array.toList_inj.1
  rw [strOfNums_data]
  unfold sb
  rw [List.map_map]
  conv=>rhs;rw [← List.map_id s.data.toList]
  apply List.map_congr_left
  intro a _
  simp only [Function.comp,id,Int.toNat_natCast]
  exact UInt8.ofNat_toNat
 cases s with
 | mk d => 
   cases hq:strOfNums (sb ⟨d⟩) with
   | mk e=>rw [hq] at this;simp only at this;rw [this]
def isCap (c:Int):Bool:=decide (65≤c∧c≤90)
def isLet (c:Int):Bool:=decide (65≤c∧c≤90∨97≤c∧c≤122)
def isNum (c:Int):Bool:=decide (48≤c∧c≤57)
theorem ret_bool {a b:Bool} (h:a=b):Ending.returned (.bool a) = .returned (.bool b):=by rw [h]
theorem isCap_t {c:Int} (h:65≤c) (h2:c≤90):isCap c=true:=by unfold isCap;rw [decide_eq_true_iff];omega
theorem isCap_f {c:Int} (h:c<65∨90<c):isCap c=false:=by unfold isCap;rw [decide_eq_false_iff_not];omega
def inName (j:Nat) (c:Int):Bool:=isLet c||(decide (0<j)&&isNum c)
def nameL (l:List Int):Bool:=decide (∀ j,j<l.length→inName j (l.getD j 0)=true)&&decide (1≤l.length∧l.length≤12)
def colL (n:Int):List Int:=if n<0∨701<n then [] else if n<26 then [65+n] else [64+n / 26,65+n % 26]
def isCol (l:List Int):Bool:=decide (1≤l.length∧l.length≤2)&&(isCap (l.getD 0 0)&&isCap (l.getD (l.length - 1) 0))
def readColL (l:List Int):Int:=if isCol l=true then (if l.length=1 then l.getD 0 0 - 65 else 26*(l.getD 0 0 - 64)+(l.getD 1 0 - 65)) else 0
theorem nameL_bad (s:ByteArray) (k:Nat) (hk:k<s.size) (h:inName k ((sb s).getD k 0)=false):nameL (sb s)=false:=by
 unfold nameL
 rw [decide_eq_false (by intro hc;have:=hc k (by rw [length_sb];exact hk);rw [h] at this;cases this),Bool.false_and]
theorem nameL_all (s:ByteArray) (h:∀ j,j<s.size→inName j ((sb s).getD j 0)=true):nameL (sb s)=decide (1≤s.size∧s.size≤12):=by
 unfold nameL
 rw [decide_eq_true (by rw [length_sb];exact h),Bool.true_and,length_sb]
theorem str_append (a b:List Int):strOfNums a++strOfNums b=strOfNums (a++b):=by
 have h:(strOfNums a++strOfNums b).data=(strOfNums (a++b)).data:=by
  apply Array.toList_inj.1
  rw [ByteArray.data_append,Array.toList_append,strOfNums_data,strOfNums_data,strOfNums_data,List.map_append]
 cases hx:strOfNums a++strOfNums b with
 | mk d =>
   cases hy:strOfNums (a++b) with
   | mk e=>rw [hx,hy] at h;simp only at h;rw [h]
theorem sb_append (a b:ByteArray):sb (a++b)=sb a++sb b:=by
 unfold sb;rw [ByteArray.data_append,Array.toList_append,List.map_append]
theorem ret_str {a b:ByteArray} (h:a=b):Ending.returned (.string a) = .returned (.string b):=by rw [h]
theorem val_str {a b:ByteArray} (h:a=b):Value.string a = .string b:=by rw [h]
def digL (u:Nat):List Int:=if u<10 then [48+(u:Int)] else digL (u / 10)++[48+((u % 10:Nat):Int)]
termination_by u
decreasing_by omega
theorem digL_small (u:Nat) (h:u<10):digL u=[48+(u:Int)]:=by rw [digL,if_pos h]
theorem digL_more (u:Nat) (h:¬ u<10):digL u=digL (u / 10)++[48+((u % 10:Nat):Int)]:=by rw [digL,if_neg h]
def mayL (sh:List Int) (c r:Int):Bool:=(decide (sh=[])||nameL sh)&&decide (0≤c∧c≤701∧0≤r∧r≤998)
def textL (sh:List Int) (c r:Int) (ac ar:Bool):List Int :=
 if mayL sh c r=true then (((if sh=[] then [] else sh++[33])++(if ac=true then [36] else []))++colL c++(if ar=true then [36] else []))++digL (r+1).toNat else []
theorem list_bytes (a:ByteArray):a.toList=a.data.toList:=ByteArray.toList_eq a
theorem text_ne (a b:ByteArray) (h:¬ a=b):¬ a.toList=b.toList:=by
 rw [list_bytes,list_bytes,Array.toList_inj]
 intro hd;apply h
 cases a;cases b;simp only at hd;rw [hd]
theorem text_ne0 (a:ByteArray) (h:¬ a.size=0):¬ a.toList=[]:=by
 rw [list_bytes]
 intro hd;apply h
 show a.data.size=0
 rw [← Array.length_toList,hd];rfl
theorem sb_nil (s:ByteArray) (h:s.size=0):s=⟨#[]⟩:=by
 cases s with
 | mk d => have:d=#[]:=Array.eq_empty_of_size_eq_zero h
           rw [this]
theorem length_colL (n:Int):(colL n).length≤2:=by unfold colL;split <;> (try split) <;> simp
theorem length_digL (u:Nat):(digL u).length≤u+1:=by
 induction u using Nat.strongRecOn with
 | _ u ih =>
   by_cases h:u<10
   · rw [digL_small u h];simp
   · rw [digL_more u h,List.length_append]
     have:=ih (u / 10) (by omega)
     simp only [List.length_cons,List.length_nil];omega
theorem mayL_parts {sh:List Int} {c r:Int} (h:mayL sh c r=true):0≤c∧c≤701∧0≤r∧r≤998:=by
 unfold mayL at h;rw [Bool.and_eq_true,decide_eq_true_iff] at h;exact h.2
theorem below3 {w w0 w1 w2 w3:World} (h0:Below w.heap.size w w0) (h1:Below w0.heap.size w0 w1) (h2:Below w1.heap.size w1 w2) (h3:Below w2.heap.size w2 w3):Below w.heap.size w w3:=by
 have b1:=h0.trans (h1.mono h0.size)
 have b2:=b1.trans (h2.mono b1.size)
 exact b2.trans (h3.mono b2.size)
theorem span_unique (p:Int→Bool):∀ (a a' b b':List Int),(∀ x∈a,p x=true)→(∀ x∈a',p x=true)→(∀ x,b.head? = some x→p x=false)→(∀ x,b'.head? = some x→p x=false)→a++b=a'++b'→a=a'∧b=b'
 | [],[],_,_,_,_,_,_,h=>⟨rfl,h⟩
 | [],x :: a',b,b',_,h2,h3,_,h=>by
   rw [List.nil_append] at h
   have:=h3 x (by rw [h];rfl)
   rw [h2 x (by simp)] at this;cases this
 | x :: a,[],b,b',h1,_,_,h4,h=>by
   rw [List.nil_append] at h
   have:=h4 x (by rw [← h];rfl)
   rw [h1 x (by simp)] at this;cases this
 | x :: a,y :: a',b,b',h1,h2,h3,h4,h=>by
   rw [List.cons_append,List.cons_append] at h
   injection h with e h
   obtain ⟨r1,r2⟩:=span_unique p a a' b b' (fun z hz=>h1 z (by simp [hz])) (fun z hz=>h2 z (by simp [hz])) h3 h4 h
   exact ⟨by rw [e,r1],r2⟩
theorem isCap_colL (c:Int):∀ x∈colL c,isCap x=true:=by
 intro x hx
 unfold colL at hx
 split at hx
 · simp at hx
 · split at hx
   · simp at hx;subst hx;exact isCap_t (by omega) (by omega)
   · simp at hx
     rcases hx with rfl | rfl
     · exact isCap_t (by omega) (by omega)
     · exact isCap_t (by omega) (by omega)
theorem readCol_colL (c:Int) (h0:0≤c) (h1:c≤701):isCol (colL c)=true∧readColL (colL c)=c:=by
 have hcap:=isCap_colL c
 by_cases h:c<26
 · have e:colL c=[65+c]:=by unfold colL;rw [if_neg (by omega),if_pos h]
   have hc:isCol (colL c)=true:=by rw [e] at hcap ⊢;unfold isCol;have:=hcap (65+c) (by simp);simp [this]
   refine ⟨hc, ?_⟩
   unfold readColL;rw [if_pos hc,e];simp;omega
 · have e:colL c=[64+c / 26,65+c % 26]:=by unfold colL;rw [if_neg (by omega),if_neg h]
   have hc:isCol (colL c)=true:=by rw [e] at hcap ⊢;unfold isCol;have g1:=hcap (64+c / 26) (by simp);have g2:=hcap (65+c % 26) (by simp);simp [g1,g2]
   refine ⟨hc, ?_⟩
   unfold readColL;rw [if_pos hc,e];simp;omega
theorem cap_bd {x:Int} (h:isCap x=true):65≤x∧x≤90:=by unfold isCap at h;rw [decide_eq_true_iff] at h;exact h
theorem num_bd {x:Int} (h:isNum x=true):48≤x∧x≤57:=by unfold isNum at h;rw [decide_eq_true_iff] at h;exact h
theorem colL_readCol (l:List Int) (h:isCol l=true):colL (readColL l)=l∧0≤readColL l∧readColL l≤701:=by
 have hr:readColL l=(if l.length=1 then l.getD 0 0 - 65 else 26*(l.getD 0 0 - 64)+(l.getD 1 0 - 65)):=by unfold readColL;rw [if_pos h]
 unfold isCol at h
 rw [Bool.and_eq_true,Bool.and_eq_true,decide_eq_true_iff] at h
 obtain ⟨⟨h1,h2⟩,h3,h4⟩:=h
 match l,h1,h2,h3,h4,hr with
 | [a],_,_,h3,_,hr =>
   have:=cap_bd h3
   simp at this hr
   rw [hr]
   refine ⟨?_,by omega,by omega⟩
   unfold colL;rw [if_neg (by omega),if_pos (by omega)];congr 1;omega
 | [a,b],_,_,h3,h4,hr =>
   have g1:=cap_bd h3
   have g2:=cap_bd h4
   simp at g1 g2 hr
   rw [hr]
   refine ⟨?_,by omega,by omega⟩
   unfold colL;rw [if_neg (by omega),if_neg (by omega)];congr 1
   · omega
   · congr 1;omega
theorem isNum_digL (u:Nat):∀ x∈digL u,isNum x=true:=by
 induction u using Nat.strongRecOn with
 | _ u ih =>
   intro x hx
   by_cases h:u<10
   · rw [digL_small u h] at hx;simp at hx;subst hx;unfold isNum;rw [decide_eq_true_iff];omega
   · rw [digL_more u h,List.mem_append] at hx
     rcases hx with hx | hx
     · exact ih (u / 10) (by omega) x hx
     · simp at hx;subst hx;unfold isNum;rw [decide_eq_true_iff];omega
def valL (l:List Int):Int:=l.foldl (fun n d=>10*n+(d - 48)) 0
theorem valL_snoc (l:List Int) (d:Int):valL (l++[d])=10*valL l+(d - 48):=by unfold valL;rw [List.foldl_append];rfl
theorem valL_digL (u:Nat):valL (digL u)=u:=by
 induction u using Nat.strongRecOn with
 | _ u ih =>
   by_cases h:u<10
   · rw [digL_small u h];unfold valL;simp;omega
   · rw [digL_more u h,valL_snoc,ih (u / 10) (by omega)];omega
theorem digL_ne (u:Nat):digL u≠[]:=by
 by_cases h:u<10
 · rw [digL_small u h];simp
 · rw [digL_more u h];simp
theorem colL_ne (c:Int) (h0:0≤c) (h1:c≤701):colL c≠[]:=by
 unfold colL;rw [if_neg (by omega)];split <;> simp
def dol (b:Bool):List Int:=if b=true then [36] else []
theorem dol_all (b:Bool):∀ x∈dol b,decide (x=36)=true:=by cases b <;> simp [dol]
theorem dol_inj {a b:Bool} (h:dol a=dol b):a=b:=by cases a <;> cases b <;> simp [dol] at h ⊢
def tailL (c r:Int) (ac ar:Bool):List Int:=dol ac++(colL c++(dol ar++digL (r+1).toNat))
theorem head_append {a b:List Int} (h:a≠[]) {x:Int} (hx:(a++b).head? = some x):x∈a:=by
 cases a with
 | nil=>exact absurd rfl h
 | cons y a=>simp at hx;subst hx;simp
theorem tail_inj {c r c' r':Int} {ac ar ac' ar':Bool} (h0:0≤c) (h1:c≤701) (h2:0≤r) (k0:0≤c') (k1:c'≤701) (k2:0≤r') (h:tailL c r ac ar=tailL c' r' ac' ar'):c=c'∧r=r'∧ac=ac'∧ar=ar':=by
 unfold tailL at h
 have no36:∀ x,isCap x=true→decide (x=36)=false:=by intro x hx;have:=cap_bd hx;rw [decide_eq_false_iff_not];omega
 have no36n:∀ x,isNum x=true→decide (x=36)=false:=by intro x hx;have:=num_bd hx;rw [decide_eq_false_iff_not];omega
 have noCap:∀ (b:Bool) (u:Nat) (x:Int),(dol b++digL u).head? = some x→isCap x=false:=by
  intro b u x hx
  cases b with
  | true=>simp [dol] at hx;subst hx;decide
  | false =>
    have hx':(digL u++[]).head? = some x:=by simpa [dol] using hx
    have:=num_bd (isNum_digL u x (head_append (digL_ne u) hx'))
    exact isCap_f (by omega)
 obtain ⟨e1,e2⟩:=span_unique (fun x=>decide (x=36)) _ _ _ _ (dol_all ac) (dol_all ac')
  (fun x hx=>no36 x (isCap_colL c x (head_append (colL_ne c h0 h1) hx))) (fun x hx=>no36 x (isCap_colL c' x (head_append (colL_ne c' k0 k1) hx))) h
 obtain ⟨e3,e4⟩:=span_unique isCap _ _ _ _ (isCap_colL c) (isCap_colL c') (noCap ar _) (noCap ar' _) e2
 obtain ⟨e5,e6⟩:=span_unique (fun x=>decide (x=36)) _ _ _ _ (dol_all ar) (dol_all ar')
  (fun x hx=>no36n x (isNum_digL _ x (head_append (digL_ne _) (by rw [List.append_nil];exact hx)))) (fun x hx=>no36n x (isNum_digL _ x (head_append (digL_ne _) (by rw [List.append_nil];exact hx)))) e4
 refine ⟨?_, ?_,dol_inj e1,dol_inj e5⟩
 · rw [← (readCol_colL c h0 h1).2, ← (readCol_colL c' k0 k1).2,e3]
 · have:=valL_digL (r+1).toNat
   rw [e6,valL_digL] at this;omega
theorem tail_no33 (c r:Int) (ac ar:Bool):∀ x∈tailL c r ac ar,x≠33:=by
 intro x hx
 unfold tailL at hx
 simp only [List.mem_append] at hx
 rcases hx with h | h | h | h
 · have:=dol_all _ x h;rw [decide_eq_true_iff] at this;omega
 · have:=cap_bd (isCap_colL c x h);omega
 · have:=dol_all _ x h;rw [decide_eq_true_iff] at this;omega
 · have:=num_bd (isNum_digL _ x h);omega
theorem name_no33 (l:List Int) (h:nameL l=true):∀ x∈l,x≠33:=by
 intro x hx
 unfold nameL at h
 rw [Bool.and_eq_true,decide_eq_true_iff] at h
 obtain ⟨j,hj,rfl⟩:=List.mem_iff_getElem.1 hx
 have:=h.1 j hj
 rw [List.getD_eq_getElem?_getD,List.getElem?_eq_getElem hj] at this
 simp only [Option.getD_some] at this
 unfold inName isLet isNum at this
 simp only [Bool.or_eq_true,Bool.and_eq_true,decide_eq_true_iff] at this
 omega
theorem mayL_sheet {sh:List Int} {c r:Int} (h:mayL sh c r=true):sh=[]∨nameL sh=true:=by
 unfold mayL at h;rw [Bool.and_eq_true,Bool.or_eq_true,decide_eq_true_iff] at h;exact h.1
theorem mayL_nums {sh:List Int} {c r:Int} (h:mayL sh c r=true):0≤c∧c≤701∧0≤r∧r≤998:=by
 unfold mayL at h;rw [Bool.and_eq_true,decide_eq_true_iff] at h;exact h.2
theorem textL_eq (sh:List Int) (c r:Int) (ac ar:Bool) (h:mayL sh c r=true):textL sh c r ac ar=(if sh=[] then [] else sh++[33])++tailL c r ac ar:=by
 unfold textL tailL dol;rw [if_pos h];simp only [List.append_assoc]
theorem textL_inj {sh sh':List Int} {c r c' r':Int} {ac ar ac' ar':Bool} (h:mayL sh c r=true) (k:mayL sh' c' r'=true) (e:textL sh c r ac ar=textL sh' c' r' ac' ar') :
 sh=sh'∧c=c'∧r=r'∧ac=ac'∧ar=ar':=by
 obtain ⟨h0,h1,h2,_⟩:=mayL_nums h
 obtain ⟨k0,k1,k2,_⟩:=mayL_nums k
 rw [textL_eq _ _ _ _ _ h,textL_eq _ _ _ _ _ k] at e
 by_cases hs:sh=[]
 · by_cases ks:sh'=[]
   · rw [if_pos hs,if_pos ks] at e
     exact ⟨by rw [hs,ks],tail_inj h0 h1 h2 k0 k1 k2 e⟩
   · rw [if_pos hs,if_neg ks,List.nil_append] at e
     exact absurd rfl (tail_no33 c r ac ar 33 (by rw [e];simp))
 · by_cases ks:sh'=[]
   · rw [if_neg hs,if_pos ks,List.nil_append] at e
     exact absurd rfl (tail_no33 c' r' ac' ar' 33 (by rw [← e];simp))
   · rw [if_neg hs,if_neg ks,List.append_assoc,List.append_assoc] at e
     have n1:=(mayL_sheet h).resolve_left hs
     have n2:=(mayL_sheet k).resolve_left ks
     obtain ⟨e1,e2⟩:=span_unique (fun x=>decide (x≠33)) _ _ _ _ (fun x hx=>by rw [decide_eq_true_iff];exact name_no33 _ n1 x hx) (fun x hx=>by rw [decide_eq_true_iff];exact name_no33 _ n2 x hx)
      (fun x hx=>by simp at hx;subst hx;rfl) (fun x hx=>by simp at hx;subst hx;rfl) e
     exact ⟨e1,tail_inj h0 h1 h2 k0 k1 k2 (by injection e2)⟩
def RefAt (w:World) (b:Nat) (s:ByteArray) (c r:Int) (ac ar:Bool):Prop:=w.heap[b]? = some (.cells #[.string s,.int .i64 c,.int .i64 r,.bool ac,.bool ar] 59)
theorem RefAt.new (w:World) (s:ByteArray) (c r:Int) (ac ar:Bool):RefAt (w.alloc (.cells #[.string s,.int .i64 c,.int .i64 r,.bool ac,.bool ar] 59)) w.heap.size s c r ac ar:=by
 exact (Go.MapKept.heap_alloc w _).1
theorem RefAt.lt {w:World} {b:Nat} {s:ByteArray} {c r:Int} {ac ar:Bool} (h:RefAt w b s c r ac ar):b<w.heap.size:=(Array.getElem?_eq_some_iff.1 h).1
theorem RefAt.below {w w':World} {B b:Nat} {s:ByteArray} {c r:Int} {ac ar:Bool} (h:RefAt w b s c r ac ar) (hb:Below B w w') (hB:b<B):RefAt w' b s c r ac ar:=by
 unfold RefAt;rw [hb.block b hB];exact h
theorem RefAt.facts {w:World} {b:Nat} {s:ByteArray} {c r:Int} {ac ar:Bool} (h:RefAt w b s c r ac ar) :
 w.cell? ⟨b,0,none⟩=some (.string s)∧w.cell? ⟨b,1,none⟩=some (.int .i64 c)∧w.cell? ⟨b,2,none⟩=some (.int .i64 r)∧w.cell? ⟨b,3,none⟩=some (.bool ac)∧w.cell? ⟨b,4,none⟩=some (.bool ar) :=
 ⟨by rw [cell_of_row w b 0 _ _ _ h];rfl,by rw [cell_of_row w b 1 _ _ _ h];rfl,by rw [cell_of_row w b 2 _ _ _ h];rfl,by rw [cell_of_row w b 3 _ _ _ h];rfl,by rw [cell_of_row w b 4 _ _ _ h];rfl⟩
structure Rd where
 s:ByteArray
 k:Nat
 sh:ByteArray
 c:Int
 r:Int
 ac:Bool
 ar:Bool
def Rd.rest (d:Rd):List Int:=(sb d.s).drop d.k
def Rd.cells (d:Rd):Array Value:=#[.string d.s,.int .i64 (d.k:Int),.string d.sh,.int .i64 d.c,.int .i64 d.r,.bool d.ac,.bool d.ar]
def Rd.start (s:ByteArray):Rd:=⟨s,0,⟨#[]⟩,0,0,false,false⟩
def ne33 (x:Int):Bool:=decide (x≠33)
def isRow (l:List Int):Bool:=decide (l≠[]∧l.head? ≠ some 48∧valL l≤999)
def Rd.sheetP (d:Rd):List Int:=(sb d.s).takeWhile ne33
def Rd.sheet (d:Rd):Option Rd:=if d.sheetP.length=d.s.size then some d else if nameL d.sheetP=true then some { d with sh:=strOfNums d.sheetP,k:=d.sheetP.length+1 } else none
def Rd.mark (d:Rd):Bool:=decide (d.rest.head? = some 36)
def Rd.absCol (d:Rd):Option Rd:=some { d with ac:=d.mark,k:=d.k+(dol d.mark).length }
def Rd.absRow (d:Rd):Option Rd:=some { d with ar:=d.mark,k:=d.k+(dol d.mark).length }
def Rd.col (d:Rd):Option Rd:=if isCol (d.rest.takeWhile isCap)=true then some { d with c:=readColL (d.rest.takeWhile isCap),k:=d.k+(d.rest.takeWhile isCap).length } else none
def Rd.row (d:Rd):Option Rd:=if isRow (d.rest.takeWhile isNum)=true then some { d with r:=valL (d.rest.takeWhile isNum) - 1,k:=d.k+(d.rest.takeWhile isNum).length } else none
def Rd.fin (d:Rd):Option Rd:=if d.k=d.s.size then some d else none
theorem take_part (p:Int→Bool):∀ (a b:List Int),(∀ x∈a,p x=true)→(∀ x,b.head? = some x→p x=false)→(a++b).takeWhile p=a
 | [],[],_,_=>rfl
 | [],y :: b,_,h2=>by rw [List.nil_append,List.takeWhile_cons,h2 y rfl];rfl
 | x :: a,b,h,h2=>by
   rw [List.cons_append,List.takeWhile_cons,h x (by simp),if_pos rfl,take_part p a b (fun z hz=>h z (by simp [hz])) h2]
theorem take_more (p:Int→Bool):∀ (a b:List Int),(∀ x∈a,p x=true)→(a++b).takeWhile p=a++b.takeWhile p
 | [],b,_=>rfl
 | x :: a,b,h=>by
   rw [List.cons_append,List.takeWhile_cons,h x (by simp),if_pos rfl,take_more p a b (fun z hz=>h z (by simp [hz])),List.cons_append]
theorem take_all (p:Int→Bool):∀ (l:List Int),∀ x∈l.takeWhile p,p x=true
 | [],x,hx=>by simp at hx
 | y :: l,x,hx=>by
   rw [List.takeWhile_cons] at hx
   by_cases h:p y=true
   · rw [if_pos h] at hx
     rcases List.mem_cons.1 hx with rfl | hx
     · exact h
     · exact take_all p l x hx
   · rw [if_neg h] at hx;simp at hx
theorem take_split (p:Int→Bool):∀ (l:List Int),l.takeWhile p++l.drop (l.takeWhile p).length=l
 | []=>rfl
 | y :: l=>by
   rw [List.takeWhile_cons]
   by_cases h:p y=true
   · rw [if_pos h,List.length_cons,List.drop_succ_cons,List.cons_append,take_split p l]
   · rw [if_neg h];rfl
theorem take_head (p:Int→Bool):∀ (l:List Int) (x:Int),(l.drop (l.takeWhile p).length).head? = some x→p x=false
 | [],x,h=>by simp at h
 | y :: l,x,h=>by
   rw [List.takeWhile_cons] at h
   by_cases hy:p y=true
   · rw [if_pos hy,List.length_cons,List.drop_succ_cons] at h;exact take_head p l x h
   · rw [if_neg hy] at h;simp at h;subst h;simpa using hy
theorem digL_valL:∀ (n:Nat) (l:List Int),l.length=n→l≠[]→(∀ x∈l,isNum x=true)→l.head? ≠ some 48→1≤valL l∧digL (valL l).toNat=l:=by
 intro n
 induction n with
 | zero=>intro l h h2;exact absurd (List.eq_nil_of_length_eq_zero h) h2
 | succ n ih =>
   intro l hl hne hall hh
   obtain ⟨a,x,rfl⟩:∃ a x,l=a++[x]:=by
    rcases List.eq_nil_or_concat l with h | ⟨a,x,h⟩
    · exact absurd h hne
    · exact ⟨a,x,by rw [h,List.concat_eq_append]⟩
   have hx:=num_bd (hall x (by simp))
   rw [valL_snoc]
   by_cases ha:a=[]
   · subst ha
     have h48:x≠48:=by intro h;subst h;exact hh rfl
     have hv:valL []=0:=rfl
     rw [hv,digL_small _ (by omega)]
     refine ⟨by omega, ?_⟩
     rw [List.nil_append];congr 1;omega
   · have hlen:a.length=n:=by rw [List.length_append,List.length_singleton] at hl;omega
     have h0:a.head? ≠ some 48:=by
      cases a with
      | nil=>exact absurd rfl ha
      | cons y a=>simpa using hh
     obtain ⟨h1,h2⟩:=ih a hlen ha (fun z hz=>hall z (by simp [hz])) h0
     refine ⟨by omega, ?_⟩
     rw [digL_more _ (by omega),show (10*valL a+(x - 48)).toNat / 10=(valL a).toNat from by omega,h2]
     congr 2;omega
theorem valL_ge:∀ (b a:List Int),(∀ x∈b,isNum x=true)→0≤valL a→valL a≤valL (a++b)
 | [],a,_,_=>by rw [List.append_nil];exact Int.le_refl _
 | x :: b,a,h,h0=>by
   have hx:=num_bd (h x (by simp))
   have h1:=valL_snoc a x
   have h2:=valL_ge b (a++[x]) (fun z hz=>h z (by simp [hz])) (by omega)
   rw [List.append_assoc,List.singleton_append] at h2
   omega
theorem rest_add (d:Rd) (m:Nat):(sb d.s).drop (d.k+m)=d.rest.drop m:=by unfold Rd.rest;rw [List.drop_drop]
theorem mark_rest (d:Rd):d.rest=dol d.mark++d.rest.drop (dol d.mark).length:=by
 unfold Rd.mark
 cases h:d.rest with
 | nil=>rfl
 | cons x l =>
   by_cases hx:x=36
   · subst hx;simp [dol]
   · have:(x :: l).head? ≠ some 36:=by simpa using hx
     rw [decide_eq_false this];simp [dol]
def readS (s:ByteArray):Option Rd:=((((((Rd.start s).sheet.bind Rd.absCol).bind Rd.col).bind Rd.absRow).bind Rd.row).bind Rd.fin)
theorem nameL_size {l:List Int} (h:nameL l=true):l≠[]∧l.length≤12:=by
 unfold nameL at h;rw [Bool.and_eq_true,decide_eq_true_iff,decide_eq_true_iff] at h
 exact ⟨by intro h0;rw [h0] at h;simp at h,h.2.2⟩
theorem isRow_parts {l:List Int} (h:isRow l=true):l≠[]∧l.head? ≠ some 48∧valL l≤999:=by unfold isRow at h;rw [decide_eq_true_iff] at h;exact h
theorem read_some (s:ByteArray) (d:Rd) (h:readS s=some d):d.sh.size≤12∧mayL (sb d.sh) d.c d.r=true∧textL (sb d.sh) d.c d.r d.ac d.ar=sb s:=by
 unfold readS at h
 simp only [Option.bind_eq_some_iff] at h
 obtain ⟨d5,⟨d4,⟨d3,⟨d2,⟨d1,h1,h2⟩,h3⟩,h4⟩,h5⟩,h6⟩:=h
 -- the sheet
 have g1:d1.s=s∧sb s=(if sb d1.sh=[] then [] else sb d1.sh++[33])++d1.rest∧(sb d1.sh=[]∨nameL (sb d1.sh)=true)∧d1.sh.size≤12:=by
  unfold Rd.sheet at h1
  by_cases hc:(Rd.start s).sheetP.length=(Rd.start s).s.size
  · rw [if_pos hc] at h1
    injection h1 with h1;subst h1
    exact ⟨rfl,rfl,.inl rfl,by show (0:Nat)≤12;omega⟩
  · rw [if_neg hc] at h1
    by_cases hn:nameL (Rd.start s).sheetP=true
    · rw [if_pos hn] at h1
      injection h1 with h1;subst h1
      have hb:Bytes (Rd.start s).sheetP:=fun x hx=>sb_bd s x (by
       have:=take_split ne33 (sb s);rw [← this];exact List.mem_append_left _ hx)
      obtain ⟨q1,q2⟩:=nameL_size hn
      refine ⟨rfl, ?_,.inr (by show nameL (sb (strOfNums _))=true;rw [sb_str _ hb];exact hn),by show (strOfNums _).size≤12;rw [strOfNums_size];exact q2⟩
      show sb s=(if sb (strOfNums (Rd.start s).sheetP)=[] then [] else sb (strOfNums (Rd.start s).sheetP)++[33])++(sb s).drop ((Rd.start s).sheetP.length+1)
      rw [sb_str _ hb,if_neg q1]
      have e:=take_split ne33 (sb s)
      have hlt:(Rd.start s).sheetP.length<(sb s).length:=by
       have:=congrArg List.length e
       rw [List.length_append] at this
       have h3:(Rd.start s).sheetP.length≠s.size:=hc
       have h4:=length_sb s
       show ((sb s).takeWhile ne33).length<_
       have h5:(Rd.start s).sheetP=(sb s).takeWhile ne33:=rfl
       rw [h5] at h3
       omega
      have hh:=take_head ne33 (sb s)
      have h6:(sb s).drop (Rd.start s).sheetP.length=(sb s)[(Rd.start s).sheetP.length] :: (sb s).drop ((Rd.start s).sheetP.length+1):=List.drop_eq_getElem_cons hlt
      have h7:=hh ((sb s)[(Rd.start s).sheetP.length]) (by
       show ((sb s).drop (Rd.start s).sheetP.length).head? = _
       rw [h6];rfl)
      have h8:(sb s)[(Rd.start s).sheetP.length]=33:=by unfold ne33 at h7;simpa using h7
      rw [h8] at h6
      rw [List.append_assoc,List.singleton_append, ← h6]
      exact e.symm
    · rw [if_neg hn] at h1;cases h1
 obtain ⟨e1,t1,n1,z1⟩:=g1
 -- the mark ahead of the column
 have g2:d2.s=d1.s∧d2.sh=d1.sh∧d1.rest=dol d2.ac++d2.rest:=by
  unfold Rd.absCol at h2;injection h2 with h2;subst h2
  refine ⟨rfl,rfl, ?_⟩
  show d1.rest=dol d1.mark++(sb d1.s).drop (d1.k+(dol d1.mark).length)
  rw [rest_add];exact mark_rest d1
 obtain ⟨e2,f2,t2⟩:=g2
 have g3:d3.s=d2.s∧d3.sh=d2.sh∧d3.ac=d2.ac∧d2.rest=colL d3.c++d3.rest∧0≤d3.c∧d3.c≤701:=by
  unfold Rd.col at h3
  by_cases hc:isCol (d2.rest.takeWhile isCap)=true
  · rw [if_pos hc] at h3;injection h3 with h3;subst h3
    obtain ⟨q1,q2,q3⟩:=colL_readCol _ hc
    refine ⟨rfl,rfl,rfl, ?_,q2,q3⟩
    show d2.rest=colL (readColL (d2.rest.takeWhile isCap))++(sb d2.s).drop (d2.k+(d2.rest.takeWhile isCap).length)
    rw [q1,rest_add,take_split]
  · rw [if_neg hc] at h3;cases h3
 obtain ⟨e3,f3,a3,t3,c0,c1⟩:=g3
 have g4:d4.s=d3.s∧d4.sh=d3.sh∧d4.ac=d3.ac∧d4.c=d3.c∧d3.rest=dol d4.ar++d4.rest:=by
  unfold Rd.absRow at h4;injection h4 with h4;subst h4
  refine ⟨rfl,rfl,rfl,rfl, ?_⟩
  show d3.rest=dol d3.mark++(sb d3.s).drop (d3.k+(dol d3.mark).length)
  rw [rest_add];exact mark_rest d3
 obtain ⟨e4,f4,a4,b4,t4⟩:=g4
 have g5:d5.s=d4.s∧d5.sh=d4.sh∧d5.ac=d4.ac∧d5.c=d4.c∧d5.ar=d4.ar∧d4.rest=digL (d5.r+1).toNat++d5.rest∧0≤d5.r∧d5.r≤998:=by
  unfold Rd.row at h5
  by_cases hc:isRow (d4.rest.takeWhile isNum)=true
  · rw [if_pos hc] at h5;injection h5 with h5;subst h5
    obtain ⟨q1,q2,q3⟩:=isRow_parts hc
    obtain ⟨q4,q5⟩:=digL_valL _ _ rfl q1 (take_all isNum _) q2
    refine ⟨rfl,rfl,rfl,rfl,rfl, ?_,by show 0≤valL (d4.rest.takeWhile isNum) - 1;omega,by show valL (d4.rest.takeWhile isNum) - 1≤998;omega⟩
    show d4.rest=digL (valL (d4.rest.takeWhile isNum) - 1+1).toNat++(sb d4.s).drop (d4.k+(d4.rest.takeWhile isNum).length)
    rw [Int.sub_add_cancel,q5,rest_add,take_split]
  · rw [if_neg hc] at h5;cases h5
 obtain ⟨e5,f5,a5,b5,r5,t5,r0,r1⟩:=g5
 have g6:d=d5∧d5.rest=[]:=by
  unfold Rd.fin at h6
  by_cases hc:d5.k=d5.s.size
  · rw [if_pos hc] at h6;injection h6 with h6
    refine ⟨h6.symm, ?_⟩
    unfold Rd.rest;rw [hc, ← length_sb,List.drop_length]
  · rw [if_neg hc] at h6;cases h6
 obtain ⟨rfl,t6⟩:=g6
 have hsh:d.sh=d1.sh:=by rw [f5,f4,f3,f2]
 have hac:d.ac=d2.ac:=by rw [a5,a4,a3]
 have hc:d.c=d3.c:=by rw [b5,b4]
 have hm:mayL (sb d.sh) d.c d.r=true:=by
  unfold mayL
  rw [Bool.and_eq_true,Bool.or_eq_true,decide_eq_true_iff,decide_eq_true_iff,hsh,hc]
  exact ⟨n1,by omega,by omega,by omega,by omega⟩
 refine ⟨by rw [hsh];exact z1,hm, ?_⟩
 rw [textL_eq _ _ _ _ _ hm,t1,t2,t3,t4,t5,t6,hsh,hc,hac,r5,List.append_nil]
 rfl
def NoRef (l:List Int):Prop:=∀ sh c r ac ar,mayL sh c r=true→textL sh c r ac ar≠l
def Says (l:List Int) (e:Ending):Prop :=
 (∃ s c r ac ar,s.size≤12∧mayL (sb s) c r=true∧textL (sb s) c r ac ar=l∧e = .returned (.tuple #[.agg #[.string s,.int .i64 c,.int .i64 r,.bool ac,.bool ar],.bool true])) ∨
 (NoRef l∧e = .returned (.tuple #[.agg #[.string ⟨#[]⟩,.int .i64 0,.int .i64 0,.bool false,.bool false],.bool false]))
theorem mark_of (d:Rd) (b:Bool) (t:List Int) (h:d.rest=dol b++t) (ht:∀ x,t.head? = some x→x≠36):d.mark=b:=by
 unfold Rd.mark;rw [h]
 cases b with
 | true=>rfl
 | false =>
   rw [decide_eq_false_iff_not]
   intro hx;exact ht 36 hx rfl
theorem isRow_digL (r:Int) (h0:0≤r) (h1:r≤998):isRow (digL (r+1).toNat)=true:=by
 have hh:∀ (n u:Nat),u<n→1≤u→(digL u).head? ≠ some 48:=by
  intro n
  induction n with
  | zero=>intro u h;omega
  | succ n ih =>
    intro u hu h1
    by_cases h:u<10
    · rw [digL_small u h];simp;omega
    · rw [digL_more u h]
      have:=ih (u / 10) (by omega) (by omega)
      cases hd:digL (u / 10) with
      | nil=>exact absurd hd (digL_ne _)
      | cons y l=>rw [hd] at this;simpa using this
 unfold isRow;rw [decide_eq_true_iff]
 refine ⟨digL_ne _,hh _ _ (Nat.lt_succ_self _) (by omega), ?_⟩
 rw [valL_digL];omega
theorem read_none (s:ByteArray) (h:readS s=none):NoRef (sb s):=by
 intro sh c r ac ar hm e
 obtain ⟨c0,c1,r0,r1⟩:=mayL_nums hm
 rw [textL_eq _ _ _ _ _ hm] at e
 -- the sheet
 have g1:∃ d1,(Rd.start s).sheet=some d1∧d1.rest=tailL c r ac ar∧d1.s=s∧d1.k+d1.rest.length=s.size:=by
  by_cases hs:sh=[]
  · rw [if_pos hs,List.nil_append] at e
    have hp:(Rd.start s).sheetP=sb s:=by
     show (sb s).takeWhile ne33=sb s
     rw [← e, ← List.append_nil (tailL c r ac ar),take_part ne33 _ [] (fun x hx=>by unfold ne33;rw [decide_eq_true_iff];exact tail_no33 c r ac ar x hx) (fun x hx=>by simp at hx),List.append_nil]
    refine ⟨Rd.start s, ?_,e.symm,rfl,by show 0+(sb s).length=s.size;rw [length_sb];omega⟩
    unfold Rd.sheet;rw [hp,if_pos (show (sb s).length=(Rd.start s).s.size from length_sb s)]
  · rw [if_neg hs,List.append_assoc] at e
    have hn:=(mayL_sheet hm).resolve_left hs
    have hp:(Rd.start s).sheetP=sh:=by
     show (sb s).takeWhile ne33=sh
     rw [← e]
     exact take_part ne33 _ _ (fun x hx=>by unfold ne33;rw [decide_eq_true_iff];exact name_no33 _ hn x hx) (fun x hx=>by simp at hx;subst hx;rfl)
    have hlen:¬ sh.length=(Rd.start s).s.size:=by
     show ¬ sh.length=s.size
     rw [← length_sb, ← e];simp only [List.length_append,List.length_cons];omega
    refine ⟨{ Rd.start s with sh:=strOfNums sh,k:=sh.length+1 }, ?_, ?_,rfl, ?_⟩
    · unfold Rd.sheet;rw [hp,if_neg hlen,if_pos hn]
    · show (sb s).drop (sh.length+1)=_
      rw [← e, ← List.drop_drop,List.drop_left];rfl
    · show sh.length+1+((sb s).drop (sh.length+1)).length=s.size
      rw [List.length_drop, ← length_sb, ← e];simp only [List.length_append,List.length_cons];omega
 obtain ⟨d1,h1,t1,s1,k1⟩:=g1
 have no36:∀ x,isCap x=true→x≠36:=by intro x hx;have:=cap_bd hx;omega
 have no36n:∀ x,isNum x=true→x≠36:=by intro x hx;have:=num_bd hx;omega
 obtain ⟨d2,h2,t2,s2,k2⟩:∃ d2,d1.absCol=some d2∧d2.rest=colL c++(dol ar++digL (r+1).toNat)∧d2.s=s∧d2.k=d1.k+(dol ac).length:=by
  have hmk:=mark_of d1 ac (colL c++(dol ar++digL (r+1).toNat)) t1 (fun x hx=>no36 x (isCap_colL c x (head_append (colL_ne c c0 c1) hx)))
  refine ⟨_,rfl, ?_,s1,by show d1.k+(dol d1.mark).length=_;rw [hmk]⟩
  show (sb d1.s).drop (d1.k+(dol d1.mark).length)=_
  rw [rest_add,hmk,t1];unfold tailL;rw [List.drop_left]
 have hcap:∀ x,(dol ar++digL (r+1).toNat).head? = some x→isCap x=false:=by
  intro x hx
  cases ar with
  | true=>simp [dol] at hx;subst hx;decide
  | false =>
    have hx':(digL (r+1).toNat++[]).head? = some x:=by simpa [dol] using hx
    have:=num_bd (isNum_digL _ x (head_append (digL_ne _) hx'))
    exact isCap_f (by omega)
 obtain ⟨d3,h3,t3,s3,k3⟩:∃ d3,d2.col=some d3∧d3.rest=dol ar++digL (r+1).toNat∧d3.s=s∧d3.k=d2.k+(colL c).length:=by
  have hp:d2.rest.takeWhile isCap=colL c:=by rw [t2];exact take_part isCap _ _ (isCap_colL c) hcap
  refine ⟨{ d2 with c:=readColL (d2.rest.takeWhile isCap),k:=d2.k+(d2.rest.takeWhile isCap).length }, ?_, ?_,s2,by show d2.k+(d2.rest.takeWhile isCap).length=_;rw [hp]⟩
  · unfold Rd.col;rw [if_pos (by rw [hp];exact (readCol_colL c c0 c1).1)]
  · show (sb d2.s).drop (d2.k+(d2.rest.takeWhile isCap).length)=_
    rw [rest_add,hp,t2,List.drop_left]
 obtain ⟨d4,h4,t4,s4,k4⟩:∃ d4,d3.absRow=some d4∧d4.rest=digL (r+1).toNat∧d4.s=s∧d4.k=d3.k+(dol ar).length:=by
  have hmk:=mark_of d3 ar (digL (r+1).toNat) t3 (fun x hx=>no36n x (isNum_digL _ x (head_append (b:=[]) (digL_ne _) (by rw [List.append_nil];exact hx))))
  refine ⟨_,rfl, ?_,s3,by show d3.k+(dol d3.mark).length=_;rw [hmk]⟩
  show (sb d3.s).drop (d3.k+(dol d3.mark).length)=_
  rw [rest_add,hmk,t3,List.drop_left]
 obtain ⟨d5,h5,s5,k5⟩:∃ d5,d4.row=some d5∧d5.s=s∧d5.k=d4.k+(digL (r+1).toNat).length:=by
  have hp:d4.rest.takeWhile isNum=digL (r+1).toNat:=by
   rw [t4]
   have:=take_part isNum (digL (r+1).toNat) [] (isNum_digL _) (fun x hx=>by simp at hx)
   rw [List.append_nil] at this;exact this
  refine ⟨{ d4 with r:=valL (d4.rest.takeWhile isNum) - 1,k:=d4.k+(d4.rest.takeWhile isNum).length }, ?_,s4,by show d4.k+(d4.rest.takeWhile isNum).length=_;rw [hp]⟩
  unfold Rd.row;rw [if_pos (by rw [hp];exact isRow_digL r r0 r1)]
 have h6:d5.fin=none:=by
  unfold readS at h;rw [h1] at h;simp only [Option.bind_some] at h;rw [h2] at h;simp only [Option.bind_some] at h;rw [h3] at h;simp only [Option.bind_some] at h;rw [h4] at h;simp only [Option.bind_some] at h;rw [h5] at h;exact h
 unfold Rd.fin at h6
 have hk:d5.k=d5.s.size:=by
  rw [s5]
  rw [t1] at k1
  unfold tailL at k1
  simp only [List.length_append] at k1
  omega
 rw [if_pos hk] at h6;cases h6
theorem bytes_colL (c:Int):Bytes (colL c):=by
 intro x hx;have:=cap_bd (isCap_colL c x hx);omega
theorem bytes_digL (u:Nat):Bytes (digL u):=by
 intro x hx;have:=num_bd (isNum_digL u x hx);omega
theorem bytes_dol (b:Bool):Bytes (dol b):=by
 intro x hx;have:=dol_all b x hx;rw [decide_eq_true_iff] at this;omega
theorem bytes_textL (s:ByteArray) (c r:Int) (ac ar:Bool):Bytes (textL (sb s) c r ac ar):=by
 by_cases h:mayL (sb s) c r=true
 · rw [textL_eq _ _ _ _ _ h]
   unfold tailL
   refine Bytes.append ?_ ((bytes_dol ac).append ((bytes_colL c).append ((bytes_dol ar).append (bytes_digL _))))
   split
   · exact Bytes.nil
   · exact Bytes.append (sb_bd s) (by intro x hx;simp at hx;omega)
 · unfold textL;rw [if_neg h];exact Bytes.nil
theorem sb_inj {a b:ByteArray} (h:sb a=sb b):a=b:=by rw [← str_sb a, ← str_sb b,h]
theorem Says.text {s:ByteArray} {c r:Int} {ac ar:Bool} {e:Ending} (hm:mayL (sb s) c r=true) (h:Says (sb (strOfNums (textL (sb s) c r ac ar))) e):e = .returned (.tuple #[.agg #[.string s,.int .i64 c,.int .i64 r,.bool ac,.bool ar],.bool true]):=by
 rw [sb_str _ (bytes_textL s c r ac ar)] at h
 rcases h with ⟨s',c',r',ac',ar',_,h2,h3,h4⟩ | ⟨h1,_⟩
 · obtain ⟨e1,e2,e3,e4,e5⟩:=textL_inj h2 hm h3
   rw [h4,sb_inj e1,e2,e3,e4,e5]
 · exact absurd rfl (h1 _ _ _ _ _ hm)
structure Tk where
 kind:Int
 text:ByteArray
 num:Int
 sh:ByteArray
 c:Int
 r:Int
 ac:Bool
 ar:Bool
 pos:Int
def Tk.zero:Tk:=⟨0,⟨#[]⟩,0,⟨#[]⟩,0,0,false,false,0⟩
def Tk.goto (t:Tk) (p:Int):Tk:={ t with pos:=p }
def isWord (x:Int):Bool:=isLet x||(isNum x||decide (x=36∨x=33))
def numT (l:List Int):Option (Tk × Nat) :=
 if (1<(l.takeWhile isNum).length∧l.head? = some 48)∨9223372036854775807<valL (l.takeWhile isNum) then none
 else some ({ Tk.zero with kind:=1,num:=valL (l.takeWhile isNum) },(l.takeWhile isNum).length)
def quoF:List Int→Option (List Int × Nat)
 | []=>none
 | x :: l =>
   if x<32 then none
   else if x≠34 then (quoF l).map fun p=>(x :: p.1,p.2+1)
   else match l with
    | y :: m=>if y=34 then (quoF m).map fun p=>(34 :: p.1,p.2+2) else some ([],1)
    | []=>some ([],1)
def quoT (l:List Int):Option (Tk × Nat):=(quoF l).map fun p=>({ Tk.zero with kind:=2,text:=strOfNums p.1 },p.2+1)
def calledL (l:List Int):Bool:=decide (∀ x∈l,(isCap x||isNum x)=true)&&(decide (1≤l.length∧l.length≤12)&&isCap (l.getD 0 0))
def wordT (l:List Int):Option (Tk × Nat) :=
 match readS (strOfNums (l.takeWhile isWord)) with
 | some d=>some ({ Tk.zero with kind:=4,sh:=d.sh,c:=d.c,r:=d.r,ac:=d.ac,ar:=d.ar },(l.takeWhile isWord).length)
 | none=>if calledL (l.takeWhile isWord)=true then some ({ Tk.zero with kind:=3,text:=strOfNums (l.takeWhile isWord) },(l.takeWhile isWord).length) else none
def deadT (l:List Int):Option (Tk × Nat):=if l.take 5=[35,82,69,70,33] then some ({ Tk.zero with kind:=6 },5) else none
def signN:List Int→Nat
 | []=>0
 | x :: l =>
   if (x=60∧(l.head? = some 62∨l.head? = some 61))∨(x=62∧l.head? = some 61) then 2
   else if x=43∨x=45∨x=42∨x=47∨x=38∨x=61∨x=60∨x=62∨x=40∨x=41∨x=44∨x=58 then 1 else 0
def signT (l:List Int):Option (Tk × Nat):=if signN l=0 then none else some ({ Tk.zero with kind:=5,text:=strOfNums (l.take (signN l)) },signN l)
def tokT:List Int→Option (Tk × Nat)
 | []=>none
 | x :: l=>if isNum x=true then numT (x :: l) else if x=34 then quoT l else if x=35 then deadT (x :: l) else if isLet x=true∨x=36 then wordT (x :: l) else signT (x :: l)
def lexF:Nat→Nat→List Int→Option (List Tk)
 | _,p,[]=>some [Tk.zero.goto p]
 | 0,_,_ :: _=>none
 | f + 1,p,x :: l =>
   if x=32 then lexF f (p+1) l
   else match tokT (x :: l) with
    | none=>none
    | some (t,n)=>(lexF f (p+n) ((x :: l).drop n)).map (t.goto p :: ·)
def lexL (l:List Int):Option (List Tk):=lexF l.length 0 l
theorem tokT_cons (x:Int) (l:List Int):tokT (x :: l)=if isNum x=true then numT (x :: l) else if x=34 then quoT l else if x=35 then deadT (x :: l) else if isLet x=true∨x=36 then wordT (x :: l) else signT (x :: l):=rfl
theorem quoF_cons (x:Int) (l:List Int):quoF (x :: l)=if x<32 then none else if x≠34 then (quoF l).map fun p=>(x :: p.1,p.2+1) else match l with
 | y :: m=>if y=34 then (quoF m).map fun p=>(34 :: p.1,p.2+2) else some ([],1)
 | []=>some ([],1):=by conv=>lhs;rw [quoF.eq_def]
theorem lexF_cons (f p:Nat) (x:Int) (l:List Int):lexF (f+1) p (x :: l)=if x=32 then lexF f (p+1) l else match tokT (x :: l) with
 | none=>none
 | some (t,n)=>(lexF f (p+n) ((x :: l).drop n)).map (t.goto p :: ·):=rfl
theorem take_le (p:Int→Bool) (l:List Int):(l.takeWhile p).length≤l.length:=by
 have h:=congrArg List.length (take_split p l)
 rw [List.length_append] at h;omega
theorem take_pos (p:Int→Bool) (x:Int) (l:List Int) (h:p x=true):0<((x :: l).takeWhile p).length:=by
 rw [List.takeWhile_cons,if_pos h];simp
theorem quoF_le:∀ (n:Nat) (l:List Int) (t:List Int) (k:Nat),l.length≤n→quoF l=some (t,k)→0<k∧k≤l.length
 | _,[],_,_,_,h=>by simp [quoF] at h
 | 0,_ :: _,_,_,hn,_=>by simp at hn
 | n + 1, x :: l,t,k,hn,h=>by
   rw [quoF_cons] at h
   by_cases h1:x<32
   · rw [if_pos h1] at h;cases h
   · rw [if_neg h1] at h
     by_cases h2:x≠34
     · rw [if_pos h2] at h
       cases hq:quoF l with
       | none=>rw [hq] at h;cases h
       | some q =>
         rw [hq] at h
         simp only [Option.map_some,Option.some.injEq,Prod.mk.injEq] at h
         have:=quoF_le n l q.1 q.2 (by simp at hn;omega) hq
         simp only [List.length_cons];omega
     · rw [if_neg h2] at h
       cases l with
       | nil=>simp at h;simp only [List.length_cons,List.length_nil];omega
       | cons y m =>
         by_cases hy:y=34
         · simp only [hy,if_true] at h
           cases hq:quoF m with
           | none=>rw [hq] at h;cases h
           | some q =>
             rw [hq] at h
             simp only [Option.map_some,Option.some.injEq,Prod.mk.injEq] at h
             have:=quoF_le n m q.1 q.2 (by simp at hn;omega) hq
             simp only [List.length_cons];omega
         · simp only [hy,if_false,Option.some.injEq,Prod.mk.injEq] at h
           simp only [List.length_cons];omega
theorem signN_cons (x:Int) (l:List Int):signN (x :: l)=if (x=60∧(l.head? = some 62∨l.head? = some 61))∨(x=62∧l.head? = some 61) then 2
 else if x=43∨x=45∨x=42∨x=47∨x=38∨x=61∨x=60∨x=62∨x=40∨x=41∨x=44∨x=58 then 1 else 0:=rfl
theorem signN_le:∀ l:List Int,signN l≤l.length
 | []=>Nat.le_refl _
 | x :: l=>by
   rw [signN_cons]
   by_cases h:(x=60∧(l.head? = some 62∨l.head? = some 61))∨(x=62∧l.head? = some 61)
   · rw [if_pos h]
     have h0:l≠[]:=by rintro rfl;simp at h
     have:=List.length_pos_iff.2 h0
     simp only [List.length_cons];omega
   · rw [if_neg h]
     split <;> simp
theorem isWord_let {x:Int} (h:isLet x=true∨x=36):isWord x=true:=by
 unfold isWord
 rcases h with h | h
 · rw [h];rfl
 · subst h;decide
theorem tokT_le (l:List Int) (t:Tk) (n:Nat) (h:tokT l=some (t,n)):0<n∧n≤l.length:=by
 cases l with
 | nil=>simp [tokT] at h
 | cons x l =>
   rw [tokT_cons] at h
   by_cases h1:isNum x=true
   · rw [if_pos h1] at h
     unfold numT at h
     split at h
     · cases h
     · simp only [Option.some.injEq,Prod.mk.injEq] at h
       rw [← h.2];exact ⟨take_pos isNum x l h1,take_le _ _⟩
   · rw [if_neg h1] at h
     by_cases h2:x=34
     · rw [if_pos h2] at h
       unfold quoT at h
       cases hq:quoF l with
       | none=>rw [hq] at h;cases h
       | some q =>
         rw [hq] at h
         simp only [Option.map_some,Option.some.injEq,Prod.mk.injEq] at h
         have:=quoF_le _ l q.1 q.2 (Nat.le_refl _) hq
         simp only [List.length_cons];omega
     · rw [if_neg h2] at h
       by_cases h3:x=35
       · rw [if_pos h3] at h
         unfold deadT at h
         split at h
         · rename_i h5
           simp only [Option.some.injEq,Prod.mk.injEq] at h
           have:=congrArg List.length h5
           rw [List.length_take] at this
           simp only [List.length_cons,List.length_nil] at this ⊢;omega
         · cases h
       · rw [if_neg h3] at h
         by_cases h4:isLet x=true∨x=36
         · rw [if_pos h4] at h
           unfold wordT at h
           split at h
           · simp only [Option.some.injEq,Prod.mk.injEq] at h
             rw [← h.2];exact ⟨take_pos isWord x l (isWord_let h4),take_le _ _⟩
           · split at h
             · simp only [Option.some.injEq,Prod.mk.injEq] at h
               rw [← h.2];exact ⟨take_pos isWord x l (isWord_let h4),take_le _ _⟩
             · cases h
         · rw [if_neg h4] at h
           unfold signT at h
           split at h
           · cases h
           · rename_i h5
             simp only [Option.some.injEq,Prod.mk.injEq] at h
             rw [← h.2];exact ⟨by omega,signN_le _⟩
theorem lexF_more:∀ (f g p:Nat) (l:List Int),l.length≤f→l.length≤g→lexF f p l=lexF g p l
 | 0,0,_,_,_,_=>rfl
 | _,_,_,[],_,_=>by unfold lexF;rfl
 | 0,_,_,_ :: _,h,_=>by simp at h
 | _,0,_,_ :: _,_,h=>by simp at h
 | f + 1,g+1,p,x :: l,h,h2=>by
   simp only [List.length_cons] at h h2
   rw [lexF_cons,lexF_cons]
   by_cases hx:x=32
   · rw [if_pos hx,if_pos hx];exact lexF_more f g (p+1) l (by omega) (by omega)
   · rw [if_neg hx,if_neg hx]
     cases ht:tokT (x :: l) with
     | none=>rfl
     | some q =>
       obtain ⟨t,n⟩:=q
       have hn:=tokT_le _ _ _ ht
       simp only
       rw [lexF_more f g (p+n) ((x :: l).drop n) (by rw [List.length_drop];simp only [List.length_cons];omega) (by rw [List.length_drop];simp only [List.length_cons];omega)]
def Alike (b b':List Int):Prop:=b'.head? = b.head? ∨ b'.head? = some 32
theorem head_no {p:Int→Bool} (hp:p 32=false) {b b':List Int} (h:Alike b b') (hb:∀ x,b.head? = some x→p x=false):∀ x,b'.head? = some x→p x=false:=by
 intro x hx
 rcases h with h | h
 · exact hb x (by rw [← h];exact hx)
 · rw [h] at hx;injection hx with hx;rw [← hx];exact hp
theorem span_alike {p:Int→Bool} (hp:p 32=false) {a b b':List Int} (h:Alike b b') (hs:((a++b).takeWhile p).length=a.length):(a++b).takeWhile p=a∧(a++b').takeWhile p=a:=by
 have e:=take_split p (a++b)
 rw [hs,List.drop_left] at e
 have e1:(a++b).takeWhile p=a:=List.append_cancel_right e
 refine ⟨e1, ?_⟩
 have hall:∀ x∈a,p x=true:=fun x hx=>take_all p (a++b) x (by rw [e1];exact hx)
 have hh:=take_head p (a++b)
 rw [hs,List.drop_left] at hh
 exact take_part p a b' hall (head_no hp h hh)
theorem quoF_alike {b b':List Int} (h:Alike b b'):∀ (n:Nat) (a t:List Int),a.length≤n→quoF (a++b)=some (t,a.length)→quoF (a++b')=some (t,a.length)
 | _,[],t,_,hq=>by
   exfalso
   have:=quoF_le _ _ _ _ (Nat.le_refl _) hq
   simp at this
 | 0,_ :: _,_,hn,_=>by simp at hn
 | n + 1, x :: a,t,hn,hq=>by
   rw [List.cons_append,quoF_cons] at hq ⊢
   by_cases h1:x<32
   · rw [if_pos h1] at hq;cases hq
   · rw [if_neg h1] at hq ⊢
     by_cases h2:x≠34
     · rw [if_pos h2] at hq ⊢
       cases hr:quoF (a++b) with
       | none=>rw [hr] at hq;cases hq
       | some q =>
         rw [hr] at hq
         simp only [Option.map_some,Option.some.injEq,Prod.mk.injEq,List.length_cons] at hq
         have h3:=quoF_alike h n a q.1 (by simp at hn;omega) (by rw [hr, ← show q.2=a.length from by omega])
         rw [h3]
         simp only [Option.map_some,List.length_cons,Option.some.injEq,Prod.mk.injEq,and_true]
         exact hq.1
     · rw [if_neg h2] at hq ⊢
       cases a with
       | nil =>
         simp only [List.nil_append] at hq ⊢
         cases b with
         | nil =>
           simp only [Option.some.injEq,Prod.mk.injEq] at hq
           cases b' with
           | nil=>simpa using hq
           | cons y m =>
             rcases h with h | h
             · simp at h
             · simp at h;subst h;simpa using hq
         | cons z m =>
           by_cases hz:z=34
           · exfalso
             simp only [hz,if_true] at hq
             cases hr:quoF m with
             | none=>rw [hr] at hq;cases hq
             | some q=>rw [hr] at hq;simp at hq
           · simp only [hz,if_false] at hq
             cases b' with
             | nil=>simpa using hq
             | cons y k =>
               have hy:¬ y=34:=by
                rcases h with h | h
                · simp at h;rw [h];exact hz
                · simp at h;omega
               simp only [hy,if_false];exact hq
       | cons y m =>
         simp only [List.cons_append] at hq ⊢
         by_cases hy:y=34
         · simp only [hy,if_true] at hq ⊢
           cases hr:quoF (m++b) with
           | none=>rw [hr] at hq;cases hq
           | some q =>
             rw [hr] at hq
             simp only [Option.map_some,Option.some.injEq,Prod.mk.injEq,List.length_cons] at hq
             have h3:=quoF_alike h n m q.1 (by simp at hn;omega) (by rw [hr, ← show q.2=m.length from by omega])
             rw [h3]
             simp only [Option.map_some,List.length_cons,Option.some.injEq,Prod.mk.injEq,and_true]
             exact hq.1
         · simp only [hy,if_false,Option.some.injEq,Prod.mk.injEq,List.length_cons] at hq
           exfalso;omega
theorem signN_alike {b b':List Int} (h:Alike b b') (x:Int) (hs:signN (x :: b)=1):signN (x :: b')=1:=by
 rw [signN_cons] at hs ⊢
 by_cases h2:(x=60∧(b.head? = some 62∨b.head? = some 61))∨(x=62∧b.head? = some 61)
 · rw [if_pos h2] at hs;omega
 · rw [if_neg h2] at hs
   have h3:¬ ((x=60∧(b'.head? = some 62∨b'.head? = some 61))∨(x=62∧b'.head? = some 61)):=by
    rcases h with h | h
    · rw [h];exact h2
    · rw [h];simp
   rw [if_neg h3];exact hs
theorem take_len (a b:List Int):(a++b).take a.length=a:=List.take_left
theorem tokT_alike {a b b':List Int} {t:Tk} (h:Alike b b') (hq:tokT (a++b)=some (t,a.length)):tokT (a++b')=some (t,a.length):=by
 cases a with
 | nil =>
   have:=(tokT_le _ _ _ hq).1
   simp at this
 | cons x a =>
   have hsp:∀ (p:Int→Bool),p 32=false→((x :: a++b).takeWhile p).length=(x :: a).length→(x :: a++b').takeWhile p=(x :: a++b).takeWhile p:=by
    intro p hp hl
    obtain ⟨e1,e2⟩:=span_alike hp h hl
    rw [e1,e2]
   rw [List.cons_append,tokT_cons] at hq ⊢
   by_cases h1:isNum x=true
   · rw [if_pos h1] at hq ⊢
     have hn:((x :: a++b).takeWhile isNum).length=(x :: a).length:=by
      unfold numT at hq
      split at hq
      · cases hq
      · simp only [Option.some.injEq,Prod.mk.injEq] at hq;exact hq.2
     have e:=hsp isNum (by decide) hn
     rw [← hq]
     unfold numT
     rw [List.cons_append,List.cons_append] at e
     rw [e];rfl
   · rw [if_neg h1] at hq ⊢
     by_cases h2:x=34
     · rw [if_pos h2] at hq ⊢
       unfold quoT at hq ⊢
       cases hr:quoF (a++b) with
       | none=>rw [hr] at hq;cases hq
       | some q =>
         rw [hr] at hq
         simp only [Option.map_some,Option.some.injEq,Prod.mk.injEq,List.length_cons] at hq
         have h3:=quoF_alike h _ a q.1 (Nat.le_refl _) (by rw [hr, ← show q.2=a.length from by omega])
         rw [h3]
         simp only [Option.map_some,List.length_cons,Option.some.injEq,Prod.mk.injEq,and_true]
         exact hq.1
     · rw [if_neg h2] at hq ⊢
       by_cases h3:x=35
       · rw [if_pos h3] at hq ⊢
         unfold deadT at hq ⊢
         by_cases h5:(x :: (a++b)).take 5=[35,82,69,70,33]
         · rw [if_pos h5] at hq
           simp only [Option.some.injEq,Prod.mk.injEq] at hq
           have e1:(x :: (a++b)).take 5=x :: a:=by rw [hq.2, ← List.cons_append];exact take_len _ _
           have e2:(x :: (a++b')).take 5=x :: a:=by rw [hq.2, ← List.cons_append];exact take_len _ _
           rw [e1] at h5
           rw [e2,if_pos h5,hq.1]
           exact congrArg (fun k=>some (t,k)) hq.2
         · rw [if_neg h5] at hq;cases hq
       · rw [if_neg h3] at hq ⊢
         by_cases h4:isLet x=true∨x=36
         · rw [if_pos h4] at hq ⊢
           have hn:((x :: a++b).takeWhile isWord).length=(x :: a).length:=by
            unfold wordT at hq
            split at hq
            · simp only [Option.some.injEq,Prod.mk.injEq] at hq;exact hq.2
            · split at hq
              · simp only [Option.some.injEq,Prod.mk.injEq] at hq;exact hq.2
              · cases hq
           have e:=hsp isWord (by decide) hn
           rw [← hq]
           unfold wordT
           rw [List.cons_append,List.cons_append] at e
           rw [e]
         · rw [if_neg h4] at hq ⊢
           unfold signT at hq ⊢
           by_cases h5:signN (x :: (a++b))=0
           · rw [if_pos h5] at hq;cases hq
           · rw [if_neg h5] at hq
             simp only [Option.some.injEq,Prod.mk.injEq] at hq
             have e:signN (x :: (a++b'))=signN (x :: (a++b)):=by
              cases a with
              | nil=>rw [hq.2];exact signN_alike h x hq.2
              | cons y a=>rw [signN_cons,signN_cons];rfl
             rw [e,if_neg h5, ← hq.1,hq.2]
             have e1:(x :: (a++b)).take (x :: a).length=x :: a:=by rw [← List.cons_append];exact take_len _ _
             have e2:(x :: (a++b')).take (x :: a).length=x :: a:=by rw [← List.cons_append];exact take_len _ _
             rw [e1,e2]
structure Rf where
 sh:ByteArray
 c:Int
 r:Int
 ac:Bool
 ar:Bool
def Rf.zero:Rf:=⟨⟨#[]⟩,0,0,false,false⟩
def Tk.rf (t:Tk):Rf:=⟨t.sh,t.c,t.r,t.ac,t.ar⟩
structure Nd where
 kind:Int
 num:Int
 text:ByteArray
 ref:Rf
 to:Rf
 kids:List Int
def Nd.zero:Nd:=⟨0,0,⟨#[]⟩,Rf.zero,Rf.zero,[]⟩
abbrev Res:=Except Int (List Nd × Nat × List Tk)
abbrev Args:=Except Int (List Nd × List Int × List Tk)
def bindR {α β γ δ : Type} (x:Option (Except Int (α × β × γ))) (k : α → β → γ → Option (Except Int δ)):Option (Except Int δ) :=
 match x with
 | none=>none
 | some (.error e)=>some (.error e)
 | some (.ok (a,b,c))=>k a b c
def signIs (s:ByteArray) (ts:List Tk):Bool:=match ts with
 | t :: _=>decide (t.kind=5)&&decide (t.text=s)
 | []=>false
def levelL:Nat→List (ByteArray × Int)
 | 0=>[(⟨#[61]⟩,9),(⟨#[60,62]⟩,10),(⟨#[60]⟩,11),(⟨#[60,61]⟩,12),(⟨#[62]⟩,13),(⟨#[62,61]⟩,14)]
 | 1=>[(⟨#[38]⟩,15)]
 | 2=>[(⟨#[43]⟩,16),(⟨#[45]⟩,17)]
 | _=>[(⟨#[42]⟩,18),(⟨#[47]⟩,19)]
def opK (n:Nat) (ts:List Tk):Int:=match (levelL n).find? fun p=>signIs p.1 ts with
 | some p=>p.2
 | none=>0
def spanB (a b:Rf):Bool:=decide (b.sh=⟨#[]⟩)&&(decide (a.c≤b.c)&&decide (a.r≤b.r))
def kindAt (ts:List Tk):Int:=match ts with
 | t :: _=>t.kind
 | []=>0
def refP (base:Nat) (t:Tk) (ts:List Tk):Res :=
 if signIs ⟨#[58]⟩ ts=true then match ts.tail with
  | u :: us=>if u.kind=4∧spanB t.rf u.rf=true then .ok ([{ Nd.zero with kind:=6,ref:=t.rf,to:=u.rf }],base,us) else .error 5
  | [] => .error 5
 else .ok ([{ Nd.zero with kind:=5,ref:=t.rf }],base,ts)
mutual
def exprP:Nat→Nat→Nat→Nat→List Tk→Option Res
 | 0,_,_,_,_=>none
 | f + 1,n,deep,base,ts =>
   if n≤3 then bindR (exprP f (n+1) deep base ts) fun ns a r=>rowP f n deep base ns a r
   else if signIs ⟨#[45]⟩ ts=true then
    if 12≤deep then some (.error 6)
    else bindR (exprP f 4 (deep+1) base ts.tail) fun ns a r=>some (.ok (ns++[{ Nd.zero with kind:=8,kids:=[(a:Int)] }],base+ns.length,r))
   else primP f deep base ts
def rowP:Nat→Nat→Nat→Nat→List Nd→Nat→List Tk→Option Res
 | 0,_,_,_,_,_,_=>none
 | f+1,n,deep,base,ns,a,ts =>
   if opK n ts=0 then some (.ok (ns,a,ts))
   else bindR (exprP f (n+1) deep (base+ns.length) ts.tail) fun ms b r=>rowP f n deep base (ns++(ms++[{ Nd.zero with kind:=opK n ts,kids:=[(a:Int),(b:Int)] }])) (base+(ns.length+ms.length)) r
def primP:Nat→Nat→Nat→List Tk→Option Res
 | 0,_,_,_=>none
 | _,_,_,[]=>some (.error 5)
 | f + 1,deep,base,t :: ts =>
   if signIs ⟨#[40]⟩ (t :: ts)=true then
    if 12≤deep then some (.error 6)
    else bindR (exprP f 0 (deep+1) base ts) fun ns a r=>if signIs ⟨#[41]⟩ r=true then some (.ok (ns,a,r.tail)) else some (.error 5)
   else if t.kind=1 then some (.ok ([{ Nd.zero with kind:=1,num:=t.num }],base,ts))
   else if t.kind=2 then some (.ok ([{ Nd.zero with kind:=2,text:=t.text }],base,ts))
   else if t.kind=6 then some (.ok ([{ Nd.zero with kind:=4 }],base,ts))
   else if t.kind=4 then some (refP base t ts)
   else if t.kind=3 then
    if t.text=⟨#[84,82,85,69]⟩ then some (.ok ([{ Nd.zero with kind:=3,num:=1 }],base,ts))
    else if t.text=⟨#[70,65,76,83,69]⟩ then some (.ok ([{ Nd.zero with kind:=3 }],base,ts))
    else if signIs ⟨#[40]⟩ ts=true then
     if 12≤deep then some (.error 6)
     else bindR (if signIs ⟨#[41]⟩ ts.tail=true then some (.ok ([],[],ts.tail)) else argsP f (deep+1) base [] [] ts.tail) fun ns ks r =>
      if signIs ⟨#[41]⟩ r=true then some (.ok (ns++[{ Nd.zero with kind:=7,text:=t.text,kids:=ks }],base+ns.length,r.tail)) else some (.error 5)
    else some (.error 5)
   else some (.error 5)
def argsP:Nat→Nat→Nat→List Nd→List Int→List Tk→Option Args
 | 0,_,_,_,_,_=>none
 | f + 1,deep,base,ns,ks,ts =>
   bindR (exprP f 0 deep (base+ns.length) ts) fun ms a r =>
    if signIs ⟨#[44]⟩ r=true then argsP f deep base (ns++ms) (ks++[(a:Int)]) r.tail else some (.ok (ns++ms,ks++[(a:Int)],r))
end
def parseP (f:Nat) (ts:List Tk):Option (Except Int (List Nd)) :=
 bindR (exprP f 0 0 0 ts) fun ns _ r=>if kindAt r=0 then some (.ok ns) else some (.error 5)
theorem bindR_some {α β γ δ : Type} {x:Option (Except Int (α × β × γ))} {k : α → β → γ → Option (Except Int δ)} {y:Except Int δ} (h:bindR x k=some y) :
 (∃ e,x=some (.error e)∧y = .error e)∨∃ a b c,x=some (.ok (a,b,c))∧k a b c=some y:=by
 unfold bindR at h
 split at h
 · cases h
 · injection h with h;exact .inl ⟨_,rfl,h.symm⟩
 · exact .inr ⟨_,_,_,rfl,h⟩
theorem bindR_less {α β γ δ : Type} {x x':Option (Except Int (α × β × γ))} {k k' : α → β → γ → Option (Except Int δ)} (hx:∀ y,x=some y→x'=some y) (hk:∀ a b c y,k a b c=some y→k' a b c=some y) :
 ∀ y,bindR x k=some y→bindR x' k'=some y:=by
 intro y h
 rcases bindR_some h with ⟨e,h1,rfl⟩ | ⟨a,b,c,h1,h2⟩
 · rw [hx _ h1];rfl
 · rw [hx _ h1];exact hk _ _ _ _ h2
theorem exprP_succ (f n deep base:Nat) (ts:List Tk):exprP (f+1) n deep base ts=if n≤3 then bindR (exprP f (n+1) deep base ts) fun ns a r=>rowP f n deep base ns a r
 else if signIs ⟨#[45]⟩ ts=true then
  if 12≤deep then some (.error 6)
  else bindR (exprP f 4 (deep+1) base ts.tail) fun ns a r=>some (.ok (ns++[{ Nd.zero with kind:=8,kids:=[(a:Int)] }],base+ns.length,r))
 else primP f deep base ts:=by conv=>lhs;unfold exprP
theorem rowP_succ (f n deep base:Nat) (ns:List Nd) (a:Nat) (ts:List Tk):rowP (f+1) n deep base ns a ts=if opK n ts=0 then some (.ok (ns,a,ts))
 else bindR (exprP f (n+1) deep (base+ns.length) ts.tail) fun ms b r=>rowP f n deep base (ns++(ms++[{ Nd.zero with kind:=opK n ts,kids:=[(a:Int),(b:Int)] }])) (base+(ns.length+ms.length)) r:=by conv=>lhs;unfold rowP
theorem argsP_succ (f deep base:Nat) (ns:List Nd) (ks:List Int) (ts:List Tk):argsP (f+1) deep base ns ks ts=bindR (exprP f 0 deep (base+ns.length) ts) fun ms a r =>
 if signIs ⟨#[44]⟩ r=true then argsP f deep base (ns++ms) (ks++[(a:Int)]) r.tail else some (.ok (ns++ms,ks++[(a:Int)],r)):=by conv=>lhs;unfold argsP
theorem primP_nil (f deep base:Nat):primP (f+1) deep base []=some (.error 5):=by unfold primP;rfl
theorem primP_cons (f deep base:Nat) (t:Tk) (ts:List Tk):primP (f+1) deep base (t :: ts) =
 if signIs ⟨#[40]⟩ (t :: ts)=true then
  if 12≤deep then some (.error 6)
  else bindR (exprP f 0 (deep+1) base ts) fun ns a r=>if signIs ⟨#[41]⟩ r=true then some (.ok (ns,a,r.tail)) else some (.error 5)
 else if t.kind=1 then some (.ok ([{ Nd.zero with kind:=1,num:=t.num }],base,ts))
 else if t.kind=2 then some (.ok ([{ Nd.zero with kind:=2,text:=t.text }],base,ts))
 else if t.kind=6 then some (.ok ([{ Nd.zero with kind:=4 }],base,ts))
 else if t.kind=4 then some (refP base t ts)
 else if t.kind=3 then
  if t.text=⟨#[84,82,85,69]⟩ then some (.ok ([{ Nd.zero with kind:=3,num:=1 }],base,ts))
  else if t.text=⟨#[70,65,76,83,69]⟩ then some (.ok ([{ Nd.zero with kind:=3 }],base,ts))
  else if signIs ⟨#[40]⟩ ts=true then
   if 12≤deep then some (.error 6)
   else bindR (if signIs ⟨#[41]⟩ ts.tail=true then some (.ok ([],[],ts.tail)) else argsP f (deep+1) base [] [] ts.tail) fun ns ks r =>
    if signIs ⟨#[41]⟩ r=true then some (.ok (ns++[{ Nd.zero with kind:=7,text:=t.text,kids:=ks }],base+ns.length,r.tail)) else some (.error 5)
  else some (.error 5)
 else some (.error 5):=by conv=>lhs;unfold primP
theorem more_one : ∀ f : Nat,(∀ n deep base ts y,exprP f n deep base ts=some y→exprP (f+1) n deep base ts=some y)∧(∀ n deep base ns a ts y,rowP f n deep base ns a ts=some y→rowP (f+1) n deep base ns a ts=some y) ∧
 (∀ deep base ts y,primP f deep base ts=some y→primP (f+1) deep base ts=some y)∧(∀ deep base ns ks ts y,argsP f deep base ns ks ts=some y→argsP (f+1) deep base ns ks ts=some y)
 | 0=>⟨fun _ _ _ _ _ h=>by simp [exprP] at h,fun _ _ _ _ _ _ _ h=>by simp [rowP] at h,fun _ _ _ _ h=>by simp [primP] at h,fun _ _ _ _ _ _ h=>by simp [argsP] at h⟩
 | f + 1 => by
   obtain ⟨i1,i2,i3,i4⟩:=more_one f
   refine ⟨?_, ?_, ?_, ?_⟩
   · intro n deep base ts y h
     rw [exprP_succ] at h ⊢
     split
     · rw [if_pos ‹_›] at h
       exact bindR_less (fun y h=>i1 _ _ _ _ y h) (fun a b c y h=>i2 _ _ _ _ _ _ y h) y h
     · rw [if_neg ‹_›] at h
       split
       · rw [if_pos ‹_›] at h
         split
         · rw [if_pos ‹_›] at h;exact h
         · rw [if_neg ‹_›] at h
           exact bindR_less (fun y h=>i1 _ _ _ _ y h) (fun a b c y h=>h) y h
       · rw [if_neg ‹_›] at h
         exact i3 _ _ _ y h
   · intro n deep base ns a ts y h
     rw [rowP_succ] at h ⊢
     split
     · rw [if_pos ‹_›] at h;exact h
     · rw [if_neg ‹_›] at h
       exact bindR_less (fun y h=>i1 _ _ _ _ y h) (fun a b c y h=>i2 _ _ _ _ _ _ y h) y h
   · intro deep base ts y h
     cases ts with
     | nil=>rw [primP_nil] at h ⊢;exact h
     | cons t ts =>
       rw [primP_cons] at h ⊢
       by_cases c1:signIs ⟨#[40]⟩ (t :: ts)=true
       · rw [if_pos c1] at h ⊢
         by_cases d:12≤deep
         · rw [if_pos d] at h ⊢;exact h
         · rw [if_neg d] at h ⊢
           exact bindR_less (fun y h=>i1 _ _ _ _ y h) (fun a b c y h=>h) y h
       · rw [if_neg c1] at h ⊢
         by_cases c2:t.kind=1
         · rw [if_pos c2] at h ⊢
           exact h
         · rw [if_neg c2] at h ⊢
           by_cases c3:t.kind=2
           · rw [if_pos c3] at h ⊢
             exact h
           · rw [if_neg c3] at h ⊢
             by_cases c4:t.kind=6
             · rw [if_pos c4] at h ⊢
               exact h
             · rw [if_neg c4] at h ⊢
               by_cases c5:t.kind=4
               · rw [if_pos c5] at h ⊢
                 exact h
               · rw [if_neg c5] at h ⊢
                 by_cases c6:t.kind=3
                 · rw [if_pos c6] at h ⊢
                   by_cases c7:t.text=⟨#[84,82,85,69]⟩
                   · rw [if_pos c7] at h ⊢;exact h
                   · rw [if_neg c7] at h ⊢
                     by_cases c8:t.text=⟨#[70,65,76,83,69]⟩
                     · rw [if_pos c8] at h ⊢;exact h
                     · rw [if_neg c8] at h ⊢
                       by_cases c9:signIs ⟨#[40]⟩ ts=true
                       · rw [if_pos c9] at h ⊢
                         by_cases d:12≤deep
                         · rw [if_pos d] at h ⊢;exact h
                         · rw [if_neg d] at h ⊢
                           refine bindR_less (fun y h => ?_) (fun a b c y h=>h) y h
                           by_cases c10:signIs ⟨#[41]⟩ ts.tail=true
                           · rw [if_pos c10] at h ⊢;exact h
                           · rw [if_neg c10] at h ⊢;exact i4 _ _ _ _ _ y h
                       · rw [if_neg c9] at h ⊢;exact h
                 · rw [if_neg c6] at h ⊢;exact h
   · intro deep base ns ks ts y h
     rw [argsP_succ] at h ⊢
     refine bindR_less (fun y h=>i1 _ _ _ _ y h) (fun a b c y h => ?_) y h
     split
     · rw [if_pos ‹_›] at h;exact i4 _ _ _ _ _ y h
     · rw [if_neg ‹_›] at h;exact h
theorem exprP_more {f g n deep base:Nat} {ts:List Tk} {y:Res} (hfg:f≤g) (h:exprP f n deep base ts=some y):exprP g n deep base ts=some y:=by
 induction g with
 | zero => obtain rfl:f=0:=by omega
           exact h
 | succ g ih =>
   by_cases e:f=g+1
   · rw [← e];exact h
   · exact (more_one g).1 _ _ _ _ _ (ih (by omega))
theorem rowP_more {f g n deep base:Nat} {ns:List Nd} {a:Nat} {ts:List Tk} {y:Res} (hfg:f≤g) (h:rowP f n deep base ns a ts=some y):rowP g n deep base ns a ts=some y:=by
 induction g with
 | zero => obtain rfl:f=0:=by omega
           exact h
 | succ g ih =>
   by_cases e:f=g+1
   · rw [← e];exact h
   · exact (more_one g).2.1 _ _ _ _ _ _ _ (ih (by omega))
theorem argsP_more {f g deep base:Nat} {ns:List Nd} {ks:List Int} {ts:List Tk} {y:Args} (hfg:f≤g) (h:argsP f deep base ns ks ts=some y):argsP g deep base ns ks ts=some y:=by
 induction g with
 | zero => obtain rfl:f=0:=by omega
           exact h
 | succ g ih =>
   by_cases e:f=g+1
   · rw [← e];exact h
   · exact (more_one g).2.2.2 _ _ _ _ _ _ (ih (by omega))
def Suf (m:Nat) (r ts:List Tk):Prop:=∃ pre:List Tk,ts=pre++r∧(∀ t∈pre,t.kind≠0)∧m≤pre.length
theorem Suf.refl (ts:List Tk):Suf 0 ts ts:=⟨[],rfl,by simp,by simp⟩
theorem Suf.trans {m k:Nat} {r s t:List Tk} (h:Suf m r s) (g:Suf k s t):Suf (k+m) r t:=by
 obtain ⟨p,rfl,h1,h2⟩:=h
 obtain ⟨q,rfl,g1,g2⟩:=g
 refine ⟨q++p,by rw [List.append_assoc], ?_,by rw [List.length_append];omega⟩
 intro x hx;rw [List.mem_append] at hx
 rcases hx with hx | hx
 · exact g1 x hx
 · exact h1 x hx
theorem Suf.less {m k:Nat} {r ts:List Tk} (h:Suf m r ts) (hk:k≤m):Suf k r ts:=by
 obtain ⟨p,h0,h1,h2⟩:=h;exact ⟨p,h0,h1,by omega⟩
theorem Suf.len {m:Nat} {r ts:List Tk} (h:Suf m r ts):r.length+m≤ts.length:=by
 obtain ⟨p,rfl,_,h2⟩:=h;rw [List.length_append];omega
theorem Suf.head {t:Tk} {ts:List Tk} (h:t.kind≠0):Suf 1 ts (t :: ts):=⟨[t],rfl,by simp [h],by simp⟩
theorem Suf.sign {s:ByteArray} {ts:List Tk} (h:signIs s ts=true):Suf 1 ts.tail ts:=by
 cases ts with
 | nil=>simp [signIs] at h
 | cons t ts =>
   unfold signIs at h
   rw [Bool.and_eq_true,decide_eq_true_iff] at h
   exact Suf.head (by omega)
theorem opK_pos {n:Nat} {ts:List Tk} (h:opK n ts≠0):∃ p∈levelL n,signIs p.1 ts=true∧opK n ts=p.2:=by
 unfold opK at h ⊢
 cases hq:(levelL n).find? (fun p=>signIs p.1 ts) with
 | none=>rw [hq] at h;exact absurd rfl h
 | some p=>exact ⟨p,List.mem_of_find?_eq_some hq,List.find?_some (p:=fun p:ByteArray × Int=>signIs p.1 ts) hq,rfl⟩
theorem Suf.op {n:Nat} {ts:List Tk} (h:opK n ts≠0):Suf 1 ts.tail ts:=by
 obtain ⟨p,_,h1,_⟩:=opK_pos h;exact Suf.sign h1
theorem refP_ok {base:Nat} {t:Tk} {ts:List Tk} {ns:List Nd} {a:Nat} {r:List Tk} (h:refP base t ts = .ok (ns,a,r)):Suf 0 r ts∧ns.length=1∧a=base:=by
 unfold refP at h
 by_cases c:signIs ⟨#[58]⟩ ts=true
 · rw [if_pos c] at h
   cases hq:ts.tail with
   | nil=>rw [hq] at h;cases h
   | cons u us =>
     rw [hq] at h
     simp only at h
     by_cases d:u.kind=4∧spanB t.rf u.rf=true
     · rw [if_pos d] at h
       injection h with h;injection h with h1 h2;injection h2 with h2 h3
       subst h1;subst h2;subst h3
       have s1:=Suf.sign c
       rw [hq] at s1
       exact ⟨((Suf.head (ts:=us) (show u.kind≠0 by omega)).trans s1).less (by omega),rfl,rfl⟩
     · rw [if_neg d] at h;cases h
 · rw [if_neg c] at h
   injection h with h;injection h with h1 h2;injection h2 with h2 h3
   subst h1;subst h2;subst h3
   exact ⟨Suf.refl _,rfl,rfl⟩
def Told (base:Nat) (ts:List Tk) (ns:List Nd) (a:Nat) (r:List Tk):Prop:=Suf 1 r ts∧a+1=base+ns.length∧1≤ns.length
theorem told_all : ∀ f : Nat, (∀ n deep base ts ns a r,exprP f n deep base ts=some (.ok (ns,a,r))→Told base ts ns a r) ∧
 (∀ n deep base ns a ts ns' a' r,rowP f n deep base ns a ts=some (.ok (ns',a',r))→a+1=base+ns.length→1≤ns.length→Suf 0 r ts∧a'+1=base+ns'.length∧1≤ns'.length) ∧
 (∀ deep base ts ns a r,primP f deep base ts=some (.ok (ns,a,r))→Told base ts ns a r) ∧
 (∀ deep base ns ks ts ns' ks' r,argsP f deep base ns ks ts=some (.ok (ns',ks',r))→Suf 1 r ts)
 | 0=>by
   refine ⟨?_, ?_, ?_, ?_⟩
   · intro n deep base ts ns a r h;unfold exprP at h;cases h
   · intro n deep base ns a ts ns' a' r h;unfold rowP at h;cases h
   · intro deep base ts ns a r h;unfold primP at h;cases h
   · intro deep base ns ks ts ns' ks' r h;unfold argsP at h;cases h
 | f + 1 => by
   obtain ⟨i1,i2,i3,i4⟩:=told_all f
   refine ⟨?_, ?_, ?_, ?_⟩
   · intro n deep base ts ns a r h
     rw [exprP_succ] at h
     by_cases c:n≤3
     · rw [if_pos c] at h
       rcases bindR_some h with ⟨e,_,h2⟩ | ⟨ms,b,s,h1,h2⟩
       · cases h2
       · obtain ⟨k1,k2,k3⟩:=i1 _ _ _ _ _ _ _ h1
         obtain ⟨g1,g2,g3⟩:=i2 _ _ _ _ _ _ _ _ _ h2 k2 k3
         exact ⟨g1.trans k1,g2,g3⟩
     · rw [if_neg c] at h
       by_cases d:signIs ⟨#[45]⟩ ts=true
       · rw [if_pos d] at h
         by_cases d2:12≤deep
         · rw [if_pos d2] at h;cases h
         · rw [if_neg d2] at h
           rcases bindR_some h with ⟨e,_,h2⟩ | ⟨ms,b,s,h1,h2⟩
           · cases h2
           · obtain ⟨k1,k2,k3⟩:=i1 _ _ _ _ _ _ _ h1
             injection h2 with h2;injection h2 with h2;injection h2 with h3 h4;injection h4 with h4 h5
             subst h3;subst h4;subst h5
             exact ⟨(k1.trans (Suf.sign d)).less (by omega),by rw [List.length_append];simp;omega,by rw [List.length_append];simp⟩
       · rw [if_neg d] at h;exact i3 _ _ _ _ _ _ h
   · intro n deep base ns a ts ns' a' r h ha hn
     rw [rowP_succ] at h
     by_cases c:opK n ts=0
     · rw [if_pos c] at h
       injection h with h;injection h with h;injection h with h1 h2;injection h2 with h2 h3
       subst h1;subst h2;subst h3
       exact ⟨Suf.refl _,ha,hn⟩
     · rw [if_neg c] at h
       rcases bindR_some h with ⟨e,_,h2⟩ | ⟨ms,b,s,h1,h2⟩
       · cases h2
       · obtain ⟨k1,k2,k3⟩:=i1 _ _ _ _ _ _ _ h1
         obtain ⟨g1,g2,g3⟩:=i2 _ _ _ _ _ _ _ _ _ h2 (by simp only [List.length_append,List.length_cons,List.length_nil];omega) (by simp only [List.length_append,List.length_cons,List.length_nil];omega)
         exact ⟨((g1.trans k1).trans (Suf.op c)).less (by omega),g2,g3⟩
   · intro deep base ts ns a r h
     cases ts with
     | nil=>rw [primP_nil] at h;cases h
     | cons t ts =>
       have leaf:∀ (x:Nd),t.kind≠0→(some (.ok ([x],base,ts)):Option Res)=some (.ok (ns,a,r))→Told base (t :: ts) ns a r:=by
        intro x hk h
        injection h with h;injection h with h;injection h with h1 h2;injection h2 with h2 h3
        subst h1;subst h2;subst h3
        exact ⟨Suf.head hk,by simp,by simp⟩
       rw [primP_cons] at h
       by_cases c1:signIs ⟨#[40]⟩ (t :: ts)=true
       · rw [if_pos c1] at h
         have s1:=Suf.sign c1
         by_cases d:12≤deep
         · rw [if_pos d] at h;cases h
         · rw [if_neg d] at h
           rcases bindR_some h with ⟨e,_,h2⟩ | ⟨ms,b,s,h1,h2⟩
           · cases h2
           · obtain ⟨k1,k2,k3⟩:=i1 _ _ _ _ _ _ _ h1
             by_cases d2:signIs ⟨#[41]⟩ s=true
             · rw [if_pos d2] at h2
               injection h2 with h2;injection h2 with h2;injection h2 with h3 h4;injection h4 with h4 h5
               subst h3;subst h4;subst h5
               exact ⟨(((Suf.sign d2).trans k1).trans s1).less (by omega),k2,k3⟩
             · rw [if_neg d2] at h2;cases h2
       · rw [if_neg c1] at h
         by_cases c2:t.kind=1
         · rw [if_pos c2] at h;exact leaf _ (by omega) h
         · rw [if_neg c2] at h
           by_cases c3:t.kind=2
           · rw [if_pos c3] at h;exact leaf _ (by omega) h
           · rw [if_neg c3] at h
             by_cases c4:t.kind=6
             · rw [if_pos c4] at h;exact leaf _ (by omega) h
             · rw [if_neg c4] at h
               by_cases c5:t.kind=4
               · rw [if_pos c5] at h
                 injection h with h
                 obtain ⟨g1,g2,g3⟩:=refP_ok h
                 exact ⟨(g1.trans (Suf.head (show t.kind≠0 by omega))).less (by omega),by omega,by omega⟩
               · rw [if_neg c5] at h
                 by_cases c6:t.kind=3
                 · rw [if_pos c6] at h
                   by_cases c7:t.text=⟨#[84,82,85,69]⟩
                   · rw [if_pos c7] at h;exact leaf _ (by omega) h
                   · rw [if_neg c7] at h
                     by_cases c8:t.text=⟨#[70,65,76,83,69]⟩
                     · rw [if_pos c8] at h;exact leaf _ (by omega) h
                     · rw [if_neg c8] at h
                       by_cases c9:signIs ⟨#[40]⟩ ts=true
                       · rw [if_pos c9] at h
                         by_cases d:12≤deep
                         · rw [if_pos d] at h;cases h
                         · rw [if_neg d] at h
                           rcases bindR_some h with ⟨e,_,h2⟩ | ⟨ms,ks,s,h1,h2⟩
                           · cases h2
                           · have k1:Suf 0 s ts.tail:=by
                              by_cases c10:signIs ⟨#[41]⟩ ts.tail=true
                              · rw [if_pos c10] at h1
                                injection h1 with h1;injection h1 with h1;injection h1 with h3 h4;injection h4 with h4 h5
                                subst h5;exact Suf.refl _
                              · rw [if_neg c10] at h1;exact (i4 _ _ _ _ _ _ _ _ h1).less (by omega)
                             by_cases d2:signIs ⟨#[41]⟩ s=true
                             · rw [if_pos d2] at h2
                               injection h2 with h2;injection h2 with h2;injection h2 with h3 h4;injection h4 with h4 h5
                               subst h3;subst h4;subst h5
                               exact ⟨((((Suf.sign d2).trans k1).trans (Suf.sign c9)).trans (Suf.head (show t.kind≠0 by omega))).less (by omega),by rw [List.length_append];simp;omega,by rw [List.length_append];simp⟩
                             · rw [if_neg d2] at h2;cases h2
                       · rw [if_neg c9] at h;cases h
                 · rw [if_neg c6] at h;cases h
   · intro deep base ns ks ts ns' ks' r h
     rw [argsP_succ] at h
     rcases bindR_some h with ⟨e,_,h2⟩ | ⟨ms,b,s,h1,h2⟩
     · cases h2
     · obtain ⟨k1,k2,k3⟩:=i1 _ _ _ _ _ _ _ h1
       by_cases d:signIs ⟨#[44]⟩ s=true
       · rw [if_pos d] at h2
         exact (((i4 _ _ _ _ _ _ _ _ h2).trans (Suf.sign d)).trans k1).less (by omega)
       · rw [if_neg d] at h2
         injection h2 with h2;injection h2 with h2;injection h2 with h3 h4;injection h4 with h4 h5
         subst h5;exact k1
def EndE (n:Nat) (ts:List Tk):Prop:=∀ deep base,∃ f y,exprP f n deep base ts=some y
def EndR (ts:List Tk):Prop:=∀ n deep base ns a,∃ f y,rowP f n deep base ns a ts=some y
def EndP (ts:List Tk):Prop:=∀ deep base,∃ f y,primP f deep base ts=some y
def EndA (ts:List Tk):Prop:=∀ deep base ns ks,∃ f y,argsP f deep base ns ks ts=some y
theorem end_prim (t : Tk) (ts:List Tk) (h0:EndE 0 ts) (ha:EndA ts.tail):EndP (t :: ts):=by
 intro deep base
 obtain ⟨f1,y1,e1⟩:=h0 (deep+1) base
 obtain ⟨f2,y2,e2⟩:=ha (deep+1) base [] []
 refine ⟨f1+f2+1, ?_⟩
 rw [primP_cons,exprP_more (g:=f1+f2) (by omega) e1,argsP_more (g:=f1+f2) (by omega) e2]
 by_cases c1:signIs ⟨#[40]⟩ (t :: ts)=true
 · rw [if_pos c1]
   by_cases d:12≤deep
   · rw [if_pos d];exact ⟨_,rfl⟩
   · rw [if_neg d]
     cases y1 with
     | error e=>exact ⟨_,rfl⟩
     | ok q =>
       obtain ⟨ns,a,r⟩:=q
       show ∃ y,(if signIs ⟨#[41]⟩ r=true then _ else _)=some y
       by_cases d2:signIs ⟨#[41]⟩ r=true
       · rw [if_pos d2];exact ⟨_,rfl⟩
       · rw [if_neg d2];exact ⟨_,rfl⟩
 · rw [if_neg c1]
   by_cases c2:t.kind=1
   · rw [if_pos c2];exact ⟨_,rfl⟩
   · rw [if_neg c2]
     by_cases c3:t.kind=2
     · rw [if_pos c3];exact ⟨_,rfl⟩
     · rw [if_neg c3]
       by_cases c4:t.kind=6
       · rw [if_pos c4];exact ⟨_,rfl⟩
       · rw [if_neg c4]
         by_cases c5:t.kind=4
         · rw [if_pos c5];exact ⟨_,rfl⟩
         · rw [if_neg c5]
           by_cases c6:t.kind=3
           · rw [if_pos c6]
             by_cases c7:t.text=⟨#[84,82,85,69]⟩
             · rw [if_pos c7];exact ⟨_,rfl⟩
             · rw [if_neg c7]
               by_cases c8:t.text=⟨#[70,65,76,83,69]⟩
               · rw [if_pos c8];exact ⟨_,rfl⟩
               · rw [if_neg c8]
                 by_cases c9:signIs ⟨#[40]⟩ ts=true
                 · rw [if_pos c9]
                   by_cases d:12≤deep
                   · rw [if_pos d];exact ⟨_,rfl⟩
                   · rw [if_neg d]
                     have fin:∀ z:Args,∃ y,bindR (some z) (fun ns ks r=>if signIs ⟨#[41]⟩ r=true then some (.ok (ns++[{ Nd.zero with kind:=7,text:=t.text,kids:=ks }],base+ns.length,r.tail)) else some (.error 5))=some (y:Res):=by
                      intro z
                      cases z with
                      | error e=>exact ⟨_,rfl⟩
                      | ok q =>
                        obtain ⟨ns,ks,r⟩:=q
                        show ∃ y,(if signIs ⟨#[41]⟩ r=true then _ else _)=some y
                        by_cases d2:signIs ⟨#[41]⟩ r=true
                        · rw [if_pos d2];exact ⟨_,rfl⟩
                        · rw [if_neg d2];exact ⟨_,rfl⟩
                     by_cases c10:signIs ⟨#[41]⟩ ts.tail=true
                     · rw [if_pos c10];exact fin _
                     · rw [if_neg c10];exact fin _
                 · rw [if_neg c9];exact ⟨_,rfl⟩
           · rw [if_neg c6];exact ⟨_,rfl⟩
theorem end_unary (ts:List Tk) (h4:signIs ⟨#[45]⟩ ts=true→EndE 4 ts.tail) (hp:EndP ts) (n:Nat) (hn:3<n):EndE n ts:=by
 intro deep base
 by_cases d:signIs ⟨#[45]⟩ ts=true
 · obtain ⟨f1,y1,e1⟩:=h4 d (deep+1) base
   refine ⟨f1+1, ?_⟩
   rw [exprP_succ,if_neg (by omega),if_pos d,e1]
   by_cases c:12≤deep
   · rw [if_pos c];exact ⟨_,rfl⟩
   · rw [if_neg c];cases y1 with
     | error e=>exact ⟨_,rfl⟩
     | ok q=>exact ⟨_,rfl⟩
 · obtain ⟨f1,y1,e1⟩:=hp deep base
   refine ⟨f1+1,y1, ?_⟩
   rw [exprP_succ,if_neg (by omega),if_neg d,e1]
theorem end_row (m:Nat) (hE:∀ n ts,ts.length<m→EndE n ts):∀ (k:Nat) (ts:List Tk),ts.length≤k→k≤m→EndR ts
 | k, ts, hk,hm=>by
   intro n deep base ns a
   by_cases c:opK n ts=0
   · exact ⟨1,_,by rw [rowP_succ,if_pos c]⟩
   · have hs:=(Suf.op c).len
     obtain ⟨f1,y1,e1⟩:=hE (n+1) ts.tail (by omega) deep (base+ns.length)
     cases y1 with
     | error e=>exact ⟨f1+1,.error e,by rw [rowP_succ,if_neg c,e1];rfl⟩
     | ok q =>
       obtain ⟨ms,b,r⟩:=q
       have hr:=((told_all f1).1 _ _ _ _ _ _ _ e1).1.len
       match k,hk with
       | k+1,hk =>
         obtain ⟨f2,y2,e2⟩:=end_row m hE k r (by omega) (by omega) n deep base (ns++(ms++[{ Nd.zero with kind:=opK n ts,kids:=[(a:Int),(b:Int)] }])) (base+(ns.length+ms.length))
         refine ⟨f1+f2+1,y2, ?_⟩
         rw [rowP_succ,if_neg c,exprP_more (g:=f1+f2) (by omega) e1]
         exact rowP_more (by omega) e2
       | 0,hk=>omega
theorem end_expr (m:Nat) (ts:List Tk) (hR:∀ r:List Tk,r.length<ts.length→EndR r) (h4:EndE 4 ts):∀ j n:Nat,n+j=4→EndE n ts
 | 0, n, h => by obtain rfl:n=4:=by omega
                 exact h4
 | j + 1,n,h=>by
   intro deep base
   obtain ⟨f1,y1,e1⟩:=end_expr m ts hR h4 j (n+1) (by omega) deep base
   cases y1 with
   | error e=>exact ⟨f1+1,.error e,by rw [exprP_succ,if_pos (by omega),e1];rfl⟩
   | ok q =>
     obtain ⟨ns,a,r⟩:=q
     have hr:=((told_all f1).1 _ _ _ _ _ _ _ e1).1.len
     obtain ⟨f2,y2,e2⟩:=hR r (by omega) n deep base ns a
     refine ⟨f1+f2+1,y2, ?_⟩
     rw [exprP_succ,if_pos (by omega),exprP_more (g:=f1+f2) (by omega) e1]
     exact rowP_more (by omega) e2
theorem end_args (m:Nat) (hE:∀ ts:List Tk,ts.length≤m→EndE 0 ts):∀ (k:Nat) (ts:List Tk),ts.length≤k→k≤m→EndA ts
 | k, ts, hk,hm=>by
   intro deep base ns ks
   obtain ⟨f1,y1,e1⟩:=hE ts (by omega) deep (base+ns.length)
   cases y1 with
   | error e=>exact ⟨f1+1,.error e,by rw [argsP_succ,e1];rfl⟩
   | ok q =>
     obtain ⟨ms,a,r⟩:=q
     have hr:=((told_all f1).1 _ _ _ _ _ _ _ e1).1.len
     by_cases d:signIs ⟨#[44]⟩ r=true
     · match k,hk with
       | 0,hk=>omega
       | k+1,hk =>
         obtain ⟨f2,y2,e2⟩:=end_args m hE k r.tail (by have:=(Suf.sign d).len;omega) (by omega) deep base (ns++ms) (ks++[(a:Int)])
         refine ⟨f1+f2+1,y2, ?_⟩
         rw [argsP_succ,exprP_more (g:=f1+f2) (by omega) e1]
         show (if signIs ⟨#[44]⟩ r=true then _ else _)=_
         rw [if_pos d];exact argsP_more (by omega) e2
     · refine ⟨f1+1,.ok (ns++ms,ks++[(a:Int)],r), ?_⟩
       rw [argsP_succ,e1]
       show (if signIs ⟨#[44]⟩ r=true then _ else _)=_
       rw [if_neg d]
theorem end_all:∀ m:Nat,∀ ts:List Tk,ts.length≤m→∀ n:Nat,EndE n ts:=by
 intro m
 induction m with
 | zero =>
   intro ts h
   have e:ts=[]:=List.eq_nil_of_length_eq_zero (by omega)
   subst e
   have hp:EndP []:=fun deep base=>⟨1,_,primP_nil 0 deep base⟩
   have h4:∀ n,3<n→EndE n []:=fun n hn=>end_unary [] (fun h=>by simp [signIs] at h) hp n hn
   intro n
   by_cases c:n≤3
   · exact end_expr 0 [] (fun r hr=>by simp at hr) (h4 4 (by omega)) (4 - n) n (by omega)
   · exact h4 n (by omega)
 | succ m ih =>
   intro ts h
   by_cases hs:ts.length≤m
   · exact ih ts hs
   · have hR:∀ r:List Tk,r.length<ts.length→EndR r:=fun r hr=>end_row (m+1) (fun n ts' h'=>ih ts' (by omega) n) m r (by omega) (by omega)
     have hA:∀ r:List Tk,r.length≤m→EndA r:=fun r hr=>end_args m (fun ts' h'=>ih ts' h' 0) m r hr (Nat.le_refl _)
     cases ts with
     | nil=>simp at hs
     | cons t ts =>
       simp only [List.length_cons] at h hs
       have hp:EndP (t :: ts):=end_prim t ts (ih ts (by omega) 0) (hA ts.tail (by rw [List.length_tail];omega))
       have h4:∀ n,3<n→EndE n (t :: ts):=fun n hn=>end_unary (t :: ts) (fun _=>ih ts (by omega) 4) hp n hn
       intro n
       by_cases c:n≤3
       · exact end_expr 0 (t :: ts) hR (h4 4 (by omega)) (4 - n) n (by omega)
       · exact h4 n (by omega)
theorem parse_ends (ts:List Tk):∃ f y,parseP f ts=some y:=by
 obtain ⟨f,y,h⟩:=end_all _ ts (Nat.le_refl _) 0 0 0
 refine ⟨f, ?_⟩
 unfold parseP
 rw [h]
 cases y with
 | error e=>exact ⟨_,rfl⟩
 | ok q =>
   obtain ⟨ns,a,r⟩:=q
   show ∃ y,(if kindAt r=0 then _ else _)=some y
   by_cases c:kindAt r=0
   · rw [if_pos c];exact ⟨_,rfl⟩
   · rw [if_neg c];exact ⟨_,rfl⟩
def noRf (r:Rf):Bool:=decide (r.sh=⟨#[]⟩∧r.c=0∧r.r=0)&&(!r.ac && !r.ar)
def mayRf (r:Rf):Bool:=mayL (sb r.sh) r.c r.r
def printB (l:List Int):Bool:=decide (∀ x∈l,¬ x<32)
def callB (s:ByteArray):Bool:=calledL (sb s)&&((readS s).isNone&&(decide (¬ s=⟨#[84,82,85,69]⟩)&&decide (¬ s=⟨#[70,65,76,83,69]⟩)))
def armsN (k:Int):Int:=if 1≤k∧k≤6 then 0 else if k=7 then -1 else if k=8 then 1 else if 9≤k∧k≤19 then 2 else -2
def leafB (n:Nd):Bool :=
 if (n.kind≠1∧n.kind≠3∧n.num≠0)∨(n.kind≠2∧n.kind≠7∧n.text≠⟨#[]⟩)∨(n.kind≠5∧n.kind≠6∧noRf n.ref=false)∨(n.kind≠6∧noRf n.to=false) then false
 else if n.kind=1 then decide (0≤n.num)
 else if n.kind=3 then decide (n.num=0∨n.num=1)
 else if n.kind=2 then printB (sb n.text)
 else if n.kind=7 then callB n.text
 else if n.kind=5 then mayRf n.ref
 else if n.kind=6 then mayRf n.ref&&(mayRf n.to&&spanB n.ref n.to)
 else true
def nodeB (n:Nd):Bool:=leafB n&&(decide (armsN n.kind = -1)||decide (armsN n.kind=n.kids.length))
def treeF:List Int→Nat→List Nd→Bool
 | st,_,[]=>decide (st.length=1)
 | st,i,n :: ns=>nodeB n&&(decide (n.kids.length≤st.length)&&(decide (st.drop (st.length - n.kids.length)=n.kids)&&treeF (st.take (st.length - n.kids.length)++[(i:Int)]) (i+1) ns))
theorem treeF_cons (st:List Int) (i:Nat) (n:Nd) (ns:List Nd):treeF st i (n :: ns)=(nodeB n&&(decide (n.kids.length≤st.length)&&(decide (st.drop (st.length - n.kids.length)=n.kids)&&treeF (st.take (st.length - n.kids.length)++[(i:Int)]) (i+1) ns))):=rfl
def treeB (l:List Nd):Bool:=treeF [] 0 l
def Plants (base:Nat) (ns:List Nd) (ks:List Int):Prop:=∀ st rest,treeF st base (ns++rest)=treeF (st++ks) (base+ns.length) rest
theorem Plants.nil (base:Nat):Plants base [] []:=fun st rest=>by simp
theorem Plants.app {base:Nat} {ns ms:List Nd} {ks js:List Int} (h:Plants base ns ks) (g:Plants (base+ns.length) ms js):Plants base (ns++ms) (ks++js):=by
 intro st rest
 rw [List.append_assoc,h,g,List.append_assoc,List.length_append,Nat.add_assoc]
theorem Plants.node {base:Nat} {ns:List Nd} {n:Nd} (h:Plants base ns n.kids) (hn:nodeB n=true):Plants base (ns++[n]) [((base+ns.length:Nat):Int)]:=by
 intro st rest
 rw [List.append_assoc,h]
 show treeF (st++n.kids) (base+ns.length) (n :: rest)=_
 rw [treeF_cons]
 have e1:(st++n.kids).length - n.kids.length=st.length:=by rw [List.length_append];omega
 rw [hn,e1,List.drop_left,List.take_left,decide_eq_true (show n.kids.length≤(st++n.kids).length by rw [List.length_append];omega),decide_eq_true rfl,Bool.true_and,Bool.true_and,Bool.true_and,List.length_append]
 rfl
structure GoodT (t:Tk):Prop where
 num:t.kind=1→0≤t.num
 text:t.kind=2→printB (sb t.text)=true
 name:t.kind=3→calledL (sb t.text)=true∧(readS t.text).isNone=true
 ref:t.kind=4→mayRf t.rf=true
def Good (ts:List Tk):Prop:=∀ t∈ts,GoodT t
theorem Good.tail {ts:List Tk} (h:Good ts):Good ts.tail:=fun t ht=>h t (List.mem_of_mem_tail ht)
theorem Good.suf {m:Nat} {r ts:List Tk} (h:Good ts) (hs:Suf m r ts):Good r:=by
 obtain ⟨p,rfl,_,_⟩:=hs;exact fun t ht=>h t (List.mem_append_right _ ht)
theorem noRf_zero:noRf Rf.zero=true:=by decide
theorem opK_kind {n:Nat} {ts:List Tk} (h:opK n ts≠0):9≤opK n ts∧opK n ts≤19:=by
 obtain ⟨p,hp,_,e⟩:=opK_pos h
 rw [e]
 match n with
 | 0=>simp [levelL] at hp;rcases hp with rfl | rfl | rfl | rfl | rfl | rfl <;> decide
 | 1=>simp [levelL] at hp;subst hp;decide
 | 2=>simp [levelL] at hp;rcases hp with rfl | rfl <;> decide
 | n+3=>simp [levelL] at hp;rcases hp with rfl | rfl <;> decide
theorem node_op {k a b:Int} (h:9≤k∧k≤19):nodeB { Nd.zero with kind:=k,kids:=[a,b] }=true:=by
 unfold nodeB
 have h1:leafB { Nd.zero with kind:=k,kids:=[a,b] }=true:=by
  unfold leafB
  rw [if_neg (by
   rintro (⟨_,_,h⟩ | ⟨_,_,h⟩ | ⟨_,_,h⟩ | ⟨_,h⟩)
   · exact h rfl
   · exact h rfl
   · rw [show noRf ({ Nd.zero with kind:=k,kids:=[a,b] }:Nd).ref=true from noRf_zero] at h;cases h
   · rw [show noRf ({ Nd.zero with kind:=k,kids:=[a,b] }:Nd).to=true from noRf_zero] at h;cases h),if_neg (by show ¬ k=1;omega),if_neg (by show ¬ k=3;omega),if_neg (by show ¬ k=2;omega),if_neg (by show ¬ k=7;omega),if_neg (by show ¬ k=5;omega),if_neg (by show ¬ k=6;omega)]
 have h2:armsN k=2:=by unfold armsN;rw [if_neg (by omega),if_neg (by omega),if_neg (by omega),if_pos h]
 rw [h1,Bool.true_and,Bool.or_eq_true]
 right
 rw [decide_eq_true_iff];exact h2
theorem node_neg (a:Int):nodeB { Nd.zero with kind:=8,kids:=[a] }=true:=by
 unfold nodeB leafB;rfl
theorem node_num {n:Int} (h:0≤n):nodeB { Nd.zero with kind:=1,num:=n }=true:=by
 unfold nodeB
 have h1:leafB { Nd.zero with kind:=1,num:=n }=true:=by
  unfold leafB
  rw [if_neg (by
   rintro (⟨h,_⟩ | ⟨_,_,h⟩ | ⟨_,_,h⟩ | ⟨_,h⟩)
   · exact h rfl
   · exact h rfl
   · rw [show noRf ({ Nd.zero with kind:=1,num:=n }:Nd).ref=true from noRf_zero] at h;cases h
   · rw [show noRf ({ Nd.zero with kind:=1,num:=n }:Nd).to=true from noRf_zero] at h;cases h),if_pos rfl]
  exact decide_eq_true h
 rw [h1];rfl
theorem node_text {s:ByteArray} (h:printB (sb s)=true):nodeB { Nd.zero with kind:=2,text:=s }=true:=by
 unfold nodeB
 have h1:leafB { Nd.zero with kind:=2,text:=s }=true:=by
  unfold leafB
  rw [if_neg (by
   rintro (⟨_,_,h⟩ | ⟨h,_⟩ | ⟨_,_,h⟩ | ⟨_,h⟩)
   · exact h rfl
   · exact h rfl
   · rw [show noRf ({ Nd.zero with kind:=2,text:=s }:Nd).ref=true from noRf_zero] at h;cases h
   · rw [show noRf ({ Nd.zero with kind:=2,text:=s }:Nd).to=true from noRf_zero] at h;cases h),if_neg (by show ¬ (2:Int)=1;omega),if_neg (by show ¬ (2:Int)=3;omega),if_pos rfl]
  exact h
 rw [h1];rfl
theorem node_call {s:ByteArray} {ks:List Int} (h:callB s=true):nodeB { Nd.zero with kind:=7,text:=s,kids:=ks }=true:=by
 unfold nodeB
 have h1:leafB { Nd.zero with kind:=7,text:=s,kids:=ks }=true:=by
  unfold leafB
  rw [if_neg (by
   rintro (⟨_,_,h⟩ | ⟨_,h,_⟩ | ⟨_,_,h⟩ | ⟨_,h⟩)
   · exact h rfl
   · exact h rfl
   · rw [show noRf ({ Nd.zero with kind:=7,text:=s,kids:=ks }:Nd).ref=true from noRf_zero] at h;cases h
   · rw [show noRf ({ Nd.zero with kind:=7,text:=s,kids:=ks }:Nd).to=true from noRf_zero] at h;cases h),if_neg (by show ¬ (7:Int)=1;omega),if_neg (by show ¬ (7:Int)=3;omega),if_neg (by show ¬ (7:Int)=2;omega),if_pos rfl]
  exact h
 rw [h1];rfl
theorem node_ref {r:Rf} (h:mayRf r=true):nodeB { Nd.zero with kind:=5,ref:=r }=true:=by
 unfold nodeB
 have h1:leafB { Nd.zero with kind:=5,ref:=r }=true:=by
  unfold leafB
  rw [if_neg (by
   rintro (⟨_,_,h⟩ | ⟨_,_,h⟩ | ⟨h,_⟩ | ⟨_,h⟩)
   · exact h rfl
   · exact h rfl
   · exact h rfl
   · rw [show noRf ({ Nd.zero with kind:=5,ref:=r }:Nd).to=true from noRf_zero] at h;cases h),if_neg (by show ¬ (5:Int)=1;omega),if_neg (by show ¬ (5:Int)=3;omega),if_neg (by show ¬ (5:Int)=2;omega),if_neg (by show ¬ (5:Int)=7;omega),if_pos rfl]
  exact h
 rw [h1];rfl
theorem node_range {r t:Rf} (h:mayRf r=true) (g:mayRf t=true) (hs:spanB r t=true):nodeB { Nd.zero with kind:=6,ref:=r,to:=t }=true:=by
 unfold nodeB
 have h1:leafB { Nd.zero with kind:=6,ref:=r,to:=t }=true:=by
  unfold leafB
  rw [if_neg (by
   rintro (⟨_,_,h⟩ | ⟨_,_,h⟩ | ⟨_,h,_⟩ | ⟨h,_⟩)
   · exact h rfl
   · exact h rfl
   · exact h rfl
   · exact h rfl),if_neg (by show ¬ (6:Int)=1;omega),if_neg (by show ¬ (6:Int)=3;omega),if_neg (by show ¬ (6:Int)=2;omega),if_neg (by show ¬ (6:Int)=7;omega),if_neg (by show ¬ (6:Int)=5;omega),if_pos rfl]
  show (mayRf r&&(mayRf t&&spanB r t))=true
  rw [h,g,hs];rfl
 rw [h1];rfl
theorem Plants.leaf {base:Nat} {n:Nd} (hk:n.kids=[]) (hn:nodeB n=true):Plants base [n] [(base:Int)]:=by
 have h:=Plants.node (base:=base) (ns:=[]) (n:=n) (by rw [hk];exact Plants.nil base) hn
 exact h
theorem refP_tree {base:Nat} {t:Tk} {ts:List Tk} {ns:List Nd} {a:Nat} {r:List Tk} (h:refP base t ts = .ok (ns,a,r)) (ht:mayRf t.rf=true) (hg:Good ts):Plants base ns [(a:Int)]:=by
 unfold refP at h
 by_cases c:signIs ⟨#[58]⟩ ts=true
 · rw [if_pos c] at h
   cases hq:ts.tail with
   | nil=>rw [hq] at h;cases h
   | cons u us =>
     rw [hq] at h
     simp only at h
     by_cases d:u.kind=4∧spanB t.rf u.rf=true
     · rw [if_pos d] at h
       injection h with h;injection h with h1 h2;injection h2 with h2 h3
       subst h1;subst h2
       have hu:=(hg u (List.mem_of_mem_tail (by rw [hq];simp))).ref d.1
       exact Plants.leaf rfl (node_range ht hu d.2)
     · rw [if_neg d] at h;cases h
 · rw [if_neg c] at h
   injection h with h;injection h with h1 h2;injection h2 with h2 h3
   subst h1;subst h2
   exact Plants.leaf rfl (node_ref ht)
theorem told_tree : ∀ f : Nat, (∀ n deep base ts ns a r,exprP f n deep base ts=some (.ok (ns,a,r))→Good ts→Plants base ns [(a:Int)]) ∧
 (∀ n deep base ns a ts ns' a' r,rowP f n deep base ns a ts=some (.ok (ns',a',r))→Good ts→Plants base ns [(a:Int)]→Plants base ns' [(a':Int)]) ∧
 (∀ deep base ts ns a r,primP f deep base ts=some (.ok (ns,a,r))→Good ts→Plants base ns [(a:Int)]) ∧
 (∀ deep base ns ks ts ns' ks' r,argsP f deep base ns ks ts=some (.ok (ns',ks',r))→Good ts→Plants base ns ks→Plants base ns' ks')
 | 0=>by
   refine ⟨?_, ?_, ?_, ?_⟩
   · intro n deep base ts ns a r h;unfold exprP at h;cases h
   · intro n deep base ns a ts ns' a' r h;unfold rowP at h;cases h
   · intro deep base ts ns a r h;unfold primP at h;cases h
   · intro deep base ns ks ts ns' ks' r h;unfold argsP at h;cases h
 | f + 1 => by
   obtain ⟨i1,i2,i3,i4⟩:=told_tree f
   refine ⟨?_, ?_, ?_, ?_⟩
   · intro n deep base ts ns a r h hg
     rw [exprP_succ] at h
     by_cases c:n≤3
     · rw [if_pos c] at h
       rcases bindR_some h with ⟨e,_,h2⟩ | ⟨ms,b,s,h1,h2⟩
       · cases h2
       · exact i2 _ _ _ _ _ _ _ _ _ h2 (hg.suf ((told_all f).1 _ _ _ _ _ _ _ h1).1) (i1 _ _ _ _ _ _ _ h1 hg)
     · rw [if_neg c] at h
       by_cases d:signIs ⟨#[45]⟩ ts=true
       · rw [if_pos d] at h
         by_cases d2:12≤deep
         · rw [if_pos d2] at h;cases h
         · rw [if_neg d2] at h
           rcases bindR_some h with ⟨e,_,h2⟩ | ⟨ms,b,s,h1,h2⟩
           · cases h2
           · injection h2 with h2;injection h2 with h2;injection h2 with h3 h4;injection h4 with h4 h5
             subst h3;subst h4
             exact Plants.node (n:={ Nd.zero with kind:=8,kids:=[(b:Int)] }) (i1 _ _ _ _ _ _ _ h1 hg.tail) (node_neg _)
       · rw [if_neg d] at h;exact i3 _ _ _ _ _ _ h hg
   · intro n deep base ns a ts ns' a' r h hg hp
     rw [rowP_succ] at h
     by_cases c:opK n ts=0
     · rw [if_pos c] at h
       injection h with h;injection h with h;injection h with h1 h2;injection h2 with h2 h3
       subst h1;subst h2;exact hp
     · rw [if_neg c] at h
       rcases bindR_some h with ⟨e,_,h2⟩ | ⟨ms,b,s,h1,h2⟩
       · cases h2
       · have p2:=i1 _ _ _ _ _ _ _ h1 hg.tail
         have p3:=Plants.node (n:={ Nd.zero with kind:=opK n ts,kids:=[(a:Int),(b:Int)] }) (Plants.app hp p2) (node_op (opK_kind c))
         rw [List.append_assoc,List.length_append] at p3
         exact i2 _ _ _ _ _ _ _ _ _ h2 (hg.tail.suf ((told_all f).1 _ _ _ _ _ _ _ h1).1) p3
   · intro deep base ts ns a r h hg
     cases ts with
     | nil=>rw [primP_nil] at h;cases h
     | cons t ts =>
       have ht:=hg t (by simp)
       have hgs:Good ts:=fun x hx=>hg x (by simp [hx])
       have leaf:∀ (x:Nd),x.kids=[]→nodeB x=true→(some (.ok ([x],base,ts)):Option Res)=some (.ok (ns,a,r))→Plants base ns [(a:Int)]:=by
        intro x hk hn h
        injection h with h;injection h with h;injection h with h1 h2;injection h2 with h2 h3
        subst h1;subst h2
        exact Plants.leaf hk hn
       rw [primP_cons] at h
       by_cases c1:signIs ⟨#[40]⟩ (t :: ts)=true
       · rw [if_pos c1] at h
         by_cases d:12≤deep
         · rw [if_pos d] at h;cases h
         · rw [if_neg d] at h
           rcases bindR_some h with ⟨e,_,h2⟩ | ⟨ms,b,s,h1,h2⟩
           · cases h2
           · by_cases d2:signIs ⟨#[41]⟩ s=true
             · rw [if_pos d2] at h2
               injection h2 with h2;injection h2 with h2;injection h2 with h3 h4;injection h4 with h4 h5
               subst h3;subst h4
               exact i1 _ _ _ _ _ _ _ h1 hgs
             · rw [if_neg d2] at h2;cases h2
       · rw [if_neg c1] at h
         by_cases c2:t.kind=1
         · rw [if_pos c2] at h;exact leaf { Nd.zero with kind:=1,num:=t.num } rfl (node_num (ht.num c2)) h
         · rw [if_neg c2] at h
           by_cases c3:t.kind=2
           · rw [if_pos c3] at h;exact leaf { Nd.zero with kind:=2,text:=t.text } rfl (node_text (ht.text c3)) h
           · rw [if_neg c3] at h
             by_cases c4:t.kind=6
             · rw [if_pos c4] at h;exact leaf { Nd.zero with kind:=4 } rfl rfl h
             · rw [if_neg c4] at h
               by_cases c5:t.kind=4
               · rw [if_pos c5] at h
                 injection h with h
                 exact refP_tree h (ht.ref c5) hgs
               · rw [if_neg c5] at h
                 by_cases c6:t.kind=3
                 · rw [if_pos c6] at h
                   by_cases c7:t.text=⟨#[84,82,85,69]⟩
                   · rw [if_pos c7] at h;exact leaf { Nd.zero with kind:=3,num:=1 } rfl rfl h
                   · rw [if_neg c7] at h
                     by_cases c8:t.text=⟨#[70,65,76,83,69]⟩
                     · rw [if_pos c8] at h;exact leaf { Nd.zero with kind:=3 } rfl rfl h
                     · rw [if_neg c8] at h
                       by_cases c9:signIs ⟨#[40]⟩ ts=true
                       · rw [if_pos c9] at h
                         by_cases d:12≤deep
                         · rw [if_pos d] at h;cases h
                         · rw [if_neg d] at h
                           rcases bindR_some h with ⟨e,_,h2⟩ | ⟨ms,ks,s,h1,h2⟩
                           · cases h2
                           · have k1:Plants base ms ks:=by
                              by_cases c10:signIs ⟨#[41]⟩ ts.tail=true
                              · rw [if_pos c10] at h1
                                injection h1 with h1;injection h1 with h1;injection h1 with h3 h4;injection h4 with h4 h5
                                subst h3;subst h4;exact Plants.nil _
                              · rw [if_neg c10] at h1;exact i4 _ _ _ _ _ _ _ _ h1 hgs.tail (Plants.nil _)
                             by_cases d2:signIs ⟨#[41]⟩ s=true
                             · rw [if_pos d2] at h2
                               injection h2 with h2;injection h2 with h2;injection h2 with h3 h4;injection h4 with h4 h5
                               subst h3;subst h4
                               have hcb:callB t.text=true:=by
                                unfold callB
                                rw [(ht.name c6).1,(ht.name c6).2,decide_eq_true c7,decide_eq_true c8];rfl
                               exact Plants.node (n:={ Nd.zero with kind:=7,text:=t.text,kids:=ks }) k1 (node_call hcb)
                             · rw [if_neg d2] at h2;cases h2
                       · rw [if_neg c9] at h;cases h
                 · rw [if_neg c6] at h;cases h
   · intro deep base ns ks ts ns' ks' r h hg hp
     rw [argsP_succ] at h
     rcases bindR_some h with ⟨e,_,h2⟩ | ⟨ms,b,s,h1,h2⟩
     · cases h2
     · have p2:=Plants.app hp (i1 _ _ _ _ _ _ _ h1 hg)
       have hgs:=hg.suf ((told_all f).1 _ _ _ _ _ _ _ h1).1
       by_cases d:signIs ⟨#[44]⟩ s=true
       · rw [if_pos d] at h2
         exact i4 _ _ _ _ _ _ _ _ h2 hgs.tail p2
       · rw [if_neg d] at h2
         injection h2 with h2;injection h2 with h2;injection h2 with h3 h4;injection h4 with h4 h5
         subst h3;subst h4;exact p2
theorem parse_tree {f:Nat} {ts:List Tk} {ns:List Nd} (h:parseP f ts=some (.ok ns)) (hg:Good ts):treeB ns=true:=by
 unfold parseP at h
 rcases bindR_some h with ⟨e,_,h2⟩ | ⟨ms,b,s,h1,h2⟩
 · cases h2
 · have hp:=(told_tree f).1 _ _ _ _ _ _ _ h1 hg
   by_cases c:kindAt s=0
   · rw [if_pos c] at h2
     injection h2 with h2;injection h2 with h2
     subst h2
     have:=hp [] []
     rw [List.append_nil] at this
     unfold treeB;rw [this];rfl
   · rw [if_neg c] at h2;cases h2
theorem quoF_good:∀ (n:Nat) (l t:List Int) (k:Nat),l.length≤n→Bytes l→quoF l=some (t,k)→Bytes t∧∀ x∈t,¬ x<32
 | _,[],_,_,_,_,h=>by simp [quoF] at h
 | 0,_ :: _,_,_,hn,_,_=>by simp at hn
 | n + 1, x :: l,t,k,hn,hb,h=>by
   have hbl:Bytes l:=fun y hy=>hb y (by simp [hy])
   rw [quoF_cons] at h
   by_cases h1:x<32
   · rw [if_pos h1] at h;cases h
   · rw [if_neg h1] at h
     by_cases h2:x≠34
     · rw [if_pos h2] at h
       cases hq:quoF l with
       | none=>rw [hq] at h;cases h
       | some q =>
         rw [hq] at h
         simp only [Option.map_some,Option.some.injEq,Prod.mk.injEq] at h
         obtain ⟨g1,g2⟩:=quoF_good n l q.1 q.2 (by simp at hn;omega) hbl hq
         rw [← h.1]
         refine ⟨?_, ?_⟩
         · intro y hy
           rcases List.mem_cons.1 hy with rfl | hy
           · exact hb _ (by simp)
           · exact g1 y hy
         · intro y hy
           rcases List.mem_cons.1 hy with rfl | hy
           · exact h1
           · exact g2 y hy
     · rw [if_neg h2] at h
       cases l with
       | nil=>simp at h;rw [h.1];exact ⟨Bytes.nil,by simp⟩
       | cons y m =>
         by_cases hy:y=34
         · simp only [hy,if_true] at h
           cases hq:quoF m with
           | none=>rw [hq] at h;cases h
           | some q =>
             rw [hq] at h
             simp only [Option.map_some,Option.some.injEq,Prod.mk.injEq] at h
             obtain ⟨g1,g2⟩:=quoF_good n m q.1 q.2 (by simp at hn;omega) (fun z hz=>hbl z (by simp [hz])) hq
             rw [← h.1]
             refine ⟨?_, ?_⟩
             · intro z hz
               rcases List.mem_cons.1 hz with rfl | hz
               · omega
               · exact g1 z hz
             · intro z hz
               rcases List.mem_cons.1 hz with rfl | hz
               · omega
               · exact g2 z hz
         · simp only [hy,if_false,Option.some.injEq,Prod.mk.injEq] at h
           rw [← h.1];exact ⟨Bytes.nil,by simp⟩
theorem Bytes.span {l:List Int} (h:Bytes l) (p:Int→Bool):Bytes (l.takeWhile p):=fun x hx=>h x ((List.takeWhile_prefix p).subset hx)
theorem tokT_good (l:List Int) (t:Tk) (n p:Nat) (hb:Bytes l) (h:tokT l=some (t,n)):GoodT (t.goto p)∧t.kind≠0:=by
 cases l with
 | nil=>simp [tokT] at h
 | cons x l =>
   rw [tokT_cons] at h
   by_cases h1:isNum x=true
   · rw [if_pos h1] at h
     unfold numT at h
     split at h
     · cases h
     · simp only [Option.some.injEq,Prod.mk.injEq] at h
       rw [← h.1]
       have hv:=valL_ge ((x :: l).takeWhile isNum) [] (take_all isNum _) (by decide)
       rw [List.nil_append] at hv
       exact ⟨⟨fun _=>hv,fun h=>by simp [Tk.goto] at h,fun h=>by simp [Tk.goto] at h,fun h=>by simp [Tk.goto] at h⟩,by simp⟩
   · rw [if_neg h1] at h
     by_cases h2:x=34
     · rw [if_pos h2] at h
       unfold quoT at h
       cases hq:quoF l with
       | none=>rw [hq] at h;cases h
       | some q =>
         rw [hq] at h
         simp only [Option.map_some,Option.some.injEq,Prod.mk.injEq] at h
         obtain ⟨g1,g2⟩:=quoF_good _ l q.1 q.2 (Nat.le_refl _) (fun y hy=>hb y (by simp [hy])) hq
         rw [← h.1]
         refine ⟨⟨fun h=>by simp [Tk.goto] at h,fun _ => ?_,fun h=>by simp [Tk.goto] at h,fun h=>by simp [Tk.goto] at h⟩,by simp⟩
         show printB (sb (strOfNums q.1))=true
         rw [sb_str _ g1];unfold printB;exact decide_eq_true g2
     · rw [if_neg h2] at h
       by_cases h3:x=35
       · rw [if_pos h3] at h
         unfold deadT at h
         split at h
         · simp only [Option.some.injEq,Prod.mk.injEq] at h
           rw [← h.1]
           exact ⟨⟨fun h=>by simp [Tk.goto] at h,fun h=>by simp [Tk.goto] at h,fun h=>by simp [Tk.goto] at h,fun h=>by simp [Tk.goto] at h⟩,by simp⟩
         · cases h
       · rw [if_neg h3] at h
         by_cases h4:isLet x=true∨x=36
         · rw [if_pos h4] at h
           unfold wordT at h
           cases hq:readS (strOfNums ((x :: l).takeWhile isWord)) with
           | some d =>
             rw [hq] at h
             simp only [Option.some.injEq,Prod.mk.injEq] at h
             rw [← h.1]
             exact ⟨⟨fun h=>by simp [Tk.goto] at h,fun h=>by simp [Tk.goto] at h,fun h=>by simp [Tk.goto] at h,fun _=>(read_some _ d hq).2.1⟩,by simp⟩
           | none =>
             rw [hq] at h
             simp only at h
             by_cases hc:calledL ((x :: l).takeWhile isWord)=true
             · rw [if_pos hc] at h
               simp only [Option.some.injEq,Prod.mk.injEq] at h
               rw [← h.1]
               refine ⟨⟨fun h=>by simp [Tk.goto] at h,fun h=>by simp [Tk.goto] at h,fun _=>⟨?_, ?_⟩,fun h=>by simp [Tk.goto] at h⟩,by simp⟩
               · show calledL (sb (strOfNums ((x :: l).takeWhile isWord)))=true
                 rw [sb_str _ (hb.span isWord)];exact hc
               · show (readS (strOfNums ((x :: l).takeWhile isWord))).isNone=true
                 rw [hq];rfl
             · rw [if_neg hc] at h;cases h
         · rw [if_neg h4] at h
           unfold signT at h
           split at h
           · cases h
           · simp only [Option.some.injEq,Prod.mk.injEq] at h
             rw [← h.1]
             exact ⟨⟨fun h=>by simp [Tk.goto] at h,fun h=>by simp [Tk.goto] at h,fun h=>by simp [Tk.goto] at h,fun h=>by simp [Tk.goto] at h⟩,by simp⟩
def Fit (ts:List Tk):Prop:=∃ body e,ts=body++[e]∧e.kind=0∧∀ t∈body,t.kind≠0
theorem lexF_good:∀ (f p:Nat) (l:List Int) (ts:List Tk),Bytes l→lexF f p l=some ts→Good ts∧Fit ts
 | f,p,[],ts,_,h=>by
   have h0:lexF f p []=some [Tk.zero.goto p]:=by unfold lexF;rfl
   rw [h0] at h;injection h with h;subst h
   refine ⟨?_,[],_,rfl,rfl,by simp⟩
   intro t ht;simp at ht;subst ht
   exact ⟨fun h=>by simp [Tk.goto,Tk.zero] at h,fun h=>by simp [Tk.goto,Tk.zero] at h,fun h=>by simp [Tk.goto,Tk.zero] at h,fun h=>by simp [Tk.goto,Tk.zero] at h⟩
 | 0,_,_ :: _,_,_,h=>by unfold lexF at h;cases h
 | f + 1, p,x :: l,ts,hb,h=>by
   rw [lexF_cons] at h
   by_cases hx:x=32
   · rw [if_pos hx] at h
     exact lexF_good f (p+1) l ts (fun y hy=>hb y (by simp [hy])) h
   · rw [if_neg hx] at h
     cases hq:tokT (x :: l) with
     | none=>rw [hq] at h;cases h
     | some q =>
       obtain ⟨t0,n⟩:=q
       obtain ⟨g1,g2⟩:=tokT_good _ _ _ p hb hq
       rw [hq] at h
       simp only [Option.map_eq_some_iff] at h
       obtain ⟨us,h1,rfl⟩:=h
       obtain ⟨k1,body,e,k2,k3,k4⟩:=lexF_good f (p+n) ((x :: l).drop n) us (fun y hy=>hb y (List.mem_of_mem_drop hy)) h1
       refine ⟨?_,t0.goto p :: body,e,by rw [k2];rfl,k3, ?_⟩
       · intro t ht
         rcases List.mem_cons.1 ht with rfl | ht
         · exact g1
         · exact k1 t ht
       · intro t ht
         rcases List.mem_cons.1 ht with rfl | ht
         · exact g2
         · exact k4 t ht
theorem lexL_good (s:ByteArray) (ts:List Tk) (h:lexL (sb s)=some ts):Good ts∧Fit ts:=lexF_good _ _ _ _ (fun x hx=>sb_bd s x hx) h
def opS:List ByteArray:=[⟨#[61]⟩,⟨#[60,62]⟩,⟨#[60]⟩,⟨#[60,61]⟩,⟨#[62]⟩,⟨#[62,61]⟩,⟨#[38]⟩,⟨#[43]⟩,⟨#[45]⟩,⟨#[42]⟩,⟨#[47]⟩]
def rk (o:Nat):Nat:=if o<6 then 0 else if o<7 then 1 else if o<9 then 2 else 3
theorem rk_le (o:Nat):rk o≤3:=by
 unfold rk
 by_cases h1:o<6
 · rw [if_pos h1];omega
 · rw [if_neg h1]
   by_cases h2:o<7
   · rw [if_pos h2];omega
   · rw [if_neg h2]
     by_cases h3:o<9
     · rw [if_pos h3];omega
     · rw [if_neg h3];omega
theorem opK_sign (t:Tk) (ts:List Tk) (o:Nat) (ho:o<11) (hk:t.kind=5) (ht:t.text=opS.getD o ⟨#[]⟩) (n:Nat) (hn:n≤3):opK n (t :: ts)=if rk o=n then 9+(o:Int) else 0:=by
 have hs:∀ s:ByteArray,signIs s (t :: ts)=decide (opS.getD o ⟨#[]⟩=s):=by
  intro s;unfold signIs;simp only [hk,ht,decide_true,Bool.true_and]
 unfold opK
 simp only [hs]
 have key:∀ n:Nat,n<4→∀ o:Nat,o<11→(match (levelL n).find? (fun p=>decide (opS.getD o ⟨#[]⟩=p.1)) with | some p=>p.2 | none=>0)=if rk o=n then 9+(o:Int) else 0:=by decide +kernel
 exact key n (by omega) o ho
def Stop (n:Nat) (ts:List Tk):Prop:=∀ m,n≤m→m≤3→opK m ts=0
theorem digL_head:∀ (n u:Nat),u<n→1≤u→(digL u).head? ≠ some 48:=by
 intro n
 induction n with
 | zero=>intro u h;omega
 | succ n ih =>
   intro u hu h1
   by_cases h:u<10
   · rw [digL_small u h];simp;omega
   · rw [digL_more u h]
     have:=ih (u / 10) (by omega) (by omega)
     cases hd:digL (u / 10) with
     | nil=>exact absurd hd (digL_ne _)
     | cons y l=>rw [hd] at this;simpa using this
theorem word_cap {x:Int} (h:isCap x=true):isWord x=true:=isWord_let (.inl (by unfold isCap at h;unfold isLet;rw [decide_eq_true_iff] at h ⊢;omega))
theorem word_num {x:Int} (h:isNum x=true):isWord x=true:=by unfold isWord;rw [h];simp
theorem word_tail (c r:Int) (ac ar:Bool):∀ x∈tailL c r ac ar,isWord x=true:=by
 intro x hx
 unfold tailL at hx
 simp only [List.mem_append] at hx
 rcases hx with h | h | h | h
 · have:=dol_all _ x h;rw [decide_eq_true_iff] at this;subst this;decide
 · exact word_cap (isCap_colL c x h)
 · have:=dol_all _ x h;rw [decide_eq_true_iff] at this;subst this;decide
 · exact word_num (isNum_digL _ x h)
theorem word_name (l:List Int) (h:nameL l=true):∀ x∈l,isWord x=true:=by
 intro x hx
 unfold nameL at h
 rw [Bool.and_eq_true,decide_eq_true_iff] at h
 obtain ⟨j,hj,rfl⟩:=List.mem_iff_getElem.1 hx
 have:=h.1 j hj
 rw [List.getD_eq_getElem?_getD,List.getElem?_eq_getElem hj] at this
 simp only [Option.getD_some] at this
 unfold inName at this
 unfold isWord
 rw [Bool.or_eq_true,Bool.and_eq_true] at this
 rcases this with h1 | ⟨_,h1⟩
 · rw [h1];rfl
 · rw [h1];simp
theorem word_textL (sh:List Int) (c r:Int) (ac ar:Bool) (h:mayL sh c r=true):∀ x∈textL sh c r ac ar,isWord x=true:=by
 intro x hx
 rw [textL_eq _ _ _ _ _ h,List.mem_append] at hx
 rcases hx with hx | hx
 · by_cases h0:sh=[]
   · rw [if_pos h0] at hx;simp at hx
   · rw [if_neg h0,List.mem_append] at hx
     rcases hx with hx | hx
     · exact word_name sh ((mayL_sheet h).resolve_left h0) x hx
     · simp at hx;subst hx;decide
 · exact word_tail c r ac ar x hx
theorem textL_head (sh:List Int) (c r:Int) (ac ar:Bool) (h:mayL sh c r=true):∃ x l,textL sh c r ac ar=x :: l∧(isLet x=true∨x=36):=by
 rw [textL_eq _ _ _ _ _ h]
 obtain ⟨c0,c1,_,_⟩:=mayL_nums h
 by_cases h0:sh=[]
 · rw [if_pos h0,List.nil_append]
   unfold tailL
   cases ac with
   | true=>exact ⟨36,_,rfl,.inr rfl⟩
   | false =>
     have hcol:=isCap_colL c
     cases hc:colL c with
     | nil=>exact absurd hc (colL_ne c c0 c1)
     | cons y m =>
       refine ⟨y,_,rfl,.inl ?_⟩
       have:=hcol y (by rw [hc];simp)
       unfold isCap at this;unfold isLet;rw [decide_eq_true_iff] at this ⊢;omega
 · rw [if_neg h0]
   have hn:=(mayL_sheet h).resolve_left h0
   cases sh with
   | nil=>exact absurd rfl h0
   | cons y m =>
     refine ⟨y,_,rfl,.inl ?_⟩
     unfold nameL at hn
     rw [Bool.and_eq_true,decide_eq_true_iff] at hn
     have:=hn.1 0 (by simp)
     unfold inName at this
     simpa using this
theorem read_text (s:ByteArray) (c r:Int) (ac ar:Bool) (h:mayL (sb s) c r=true):∃ d,readS (strOfNums (textL (sb s) c r ac ar))=some d∧d.sh=s∧d.c=c∧d.r=r∧d.ac=ac∧d.ar=ar:=by
 have hb:=sb_str _ (bytes_textL s c r ac ar)
 cases hq:readS (strOfNums (textL (sb s) c r ac ar)) with
 | none=>exact absurd hb.symm (read_none _ hq _ _ _ _ _ h)
 | some d =>
   obtain ⟨_,h2,h3⟩:=read_some _ d hq
   rw [hb] at h3
   obtain ⟨e1,e2,e3,e4,e5⟩:=textL_inj h2 h h3
   exact ⟨d,rfl,sb_inj e1,e2,e3,e4,e5⟩
def dblL:List Int→List Int
 | []=>[]
 | x :: l=>(if x=34 then [34,34] else [x])++dblL l
def lexG (p:Nat) (l:List Int):Option (List Tk):=lexF l.length p l
theorem lexG_nil (p:Nat):lexG p []=some [Tk.zero.goto p]:=by unfold lexG lexF;rfl
theorem lexG_tok (p:Nat) (x:Int) (l:List Int) (t:Tk) (n:Nat) (hx:x≠32) (h:tokT (x :: l)=some (t,n)):lexG p (x :: l)=(lexG (p+n) ((x :: l).drop n)).map (t.goto p :: ·):=by
 have hn:=tokT_le _ _ _ h
 unfold lexG
 rw [List.length_cons,lexF_cons,if_neg hx,h]
 simp only
 rw [lexF_more _ ((x :: l).drop n).length _ _ (by rw [List.length_drop];simp only [List.length_cons];omega) (Nat.le_refl _)]
theorem lexG_app (p:Nat) (a b:List Int) (t:Tk) (ha:∀ x,a.head? = some x→x≠32) (h:tokT (a++b)=some (t,a.length)):lexG p (a++b)=(lexG (p+a.length) b).map (t.goto p :: ·):=by
 cases a with
 | nil=>have:=(tokT_le _ _ _ h).1;simp at this
 | cons x a =>
   rw [List.cons_append] at h ⊢
   rw [lexG_tok p x (a++b) t _ (ha x rfl) h]
   congr 2
   rw [← List.cons_append,List.drop_left]
theorem tok_digits (v:Nat) (hv:v≤9223372036854775807) (b:List Int) (hb:∀ x,b.head? = some x→isNum x=false):tokT (digL v++b)=some ({ Tk.zero with kind:=1,num:=(v:Int) },(digL v).length):=by
 cases hd:digL v with
 | nil=>exact absurd hd (digL_ne v)
 | cons x l =>
   have hall:=isNum_digL v
   rw [hd] at hall
   have hx:=hall x (by simp)
   rw [List.cons_append,tokT_cons,if_pos hx, ← List.cons_append]
   unfold numT
   rw [take_part isNum (x :: l) b hall hb]
   have hval:valL (x :: l)=v:=by rw [← hd];exact valL_digL v
   rw [hval]
   have hno:¬ ((1<(x :: l).length∧(x :: l++b).head? = some 48)∨9223372036854775807<(v:Int)):=by
    rintro (⟨h1,h2⟩ | h)
    · by_cases h10:v<10
      · rw [digL_small v h10] at hd
        injection hd with _ hl;rw [← hl] at h1;simp at h1
      · have:=digL_head (v+1) v (by omega) (by omega)
        rw [hd] at this;exact this h2
    · omega
   rw [if_neg hno]
def opL (o:Nat):List Int:=[[61],[60,62],[60],[60,61],[62],[62,61],[38],[43],[45],[42],[47]].getD o []
def IsS (s:ByteArray) (t:Tk):Prop:=t.kind=5∧t.text=s
theorem IsS.sign {s:ByteArray} {t:Tk} (h:IsS s t) (u:ByteArray) (ts:List Tk):signIs u (t :: ts)=decide (s=u):=by
 unfold signIs;simp only [h.1,h.2,decide_true,Bool.true_and]
inductive LeafS:List Tk→Nd→Prop
 | num (t:Tk) (h:t.kind=1):LeafS [t] { Nd.zero with kind:=1,num:=t.num }
 | text (t:Tk) (h:t.kind=2):LeafS [t] { Nd.zero with kind:=2,text:=t.text }
 | yes (t:Tk) (h:t.kind=3) (g:t.text=⟨#[84,82,85,69]⟩):LeafS [t] { Nd.zero with kind:=3,num:=1 }
 | no (t:Tk) (h:t.kind=3) (g:t.text=⟨#[70,65,76,83,69]⟩):LeafS [t] { Nd.zero with kind:=3 }
 | dead (t:Tk) (h:t.kind=6):LeafS [t] { Nd.zero with kind:=4 }
 | ref (t:Tk) (h:t.kind=4):LeafS [t] { Nd.zero with kind:=5,ref:=t.rf }
 | range (t c u:Tk) (h:t.kind=4) (hc:IsS ⟨#[58]⟩ c) (g:u.kind=4) (hs:spanB t.rf u.rf=true):LeafS [t,c,u] { Nd.zero with kind:=6,ref:=t.rf,to:=u.rf }
def Wr (n rk d:Nat) (ts:List Tk) (d':Nat) (ts':List Tk):Prop :=
 (n≤rk∧ts'=ts∧d'=d)∨(rk<n∧d'=d+1∧∃ l r,IsS ⟨#[40]⟩ l∧IsS ⟨#[41]⟩ r∧ts'=l :: (ts++[r]))
inductive Sh:Bool→Nat→List Nd→List Int→List Tk→Nat→Nat→Prop
 | leaf (base:Nat) (ts:List Tk) (nd:Nd) (h:LeafS ts nd):Sh false base [nd] [(base:Int)] ts 5 0
 | neg (base:Nat) (ns:List Nd) (a:Int) (ts:List Tk) (rk d:Nat) (h:Sh false base ns [a] ts rk d) (m:Tk) (hm:IsS ⟨#[45]⟩ m) (d':Nat) (ts':List Tk) (hw:Wr 4 rk d ts d' ts') :
    Sh false base (ns++[{ Nd.zero with kind:=8,kids:=[a] }]) [((base+ns.length:Nat):Int)] (m :: ts') 4 (d'+1)
 | op (base o:Nat) (ho:o<11) (ns ms:List Nd) (a b:Int) (ts us:List Tk) (rk1 rk2 d1 d2:Nat) (h:Sh false base ns [a] ts rk1 d1) (g:Sh false (base+ns.length) ms [b] us rk2 d2)
    (s:Tk) (hs:IsS (opS.getD o ⟨#[]⟩) s) (e1 e2:Nat) (ts' us':List Tk) (hw:Wr (rk o) rk1 d1 ts e1 ts') (gw:Wr (rk o+1) rk2 d2 us e2 us') :
    Sh false base (ns++(ms++[{ Nd.zero with kind:=9+(o:Int),kids:=[a,b] }])) [((base+(ns.length+ms.length):Nat):Int)] (ts'++s :: us') (rk o) (max e1 e2)
 | call (base:Nat) (ns:List Nd) (ks:List Int) (ts:List Tk) (d:Nat) (h:Sh true base ns ks ts 0 d) (t l r:Tk) (ht:t.kind=3) (h1:t.text≠⟨#[84,82,85,69]⟩) (h2:t.text≠⟨#[70,65,76,83,69]⟩) (hl:IsS ⟨#[40]⟩ l) (hr:IsS ⟨#[41]⟩ r) :
    Sh false base (ns++[{ Nd.zero with kind:=7,text:=t.text,kids:=ks }]) [((base+ns.length:Nat):Int)] (t :: l :: (ts++[r])) 5 (d+1)
 | none (base:Nat):Sh true base [] [] [] 0 0
 | one (base:Nat) (ns:List Nd) (a:Int) (ts:List Tk) (rk d:Nat) (h:Sh false base ns [a] ts rk d):Sh true base ns [a] ts 0 d
 | and (base:Nat) (ns ms:List Nd) (ks:List Int) (b:Int) (ts us:List Tk) (rk d1 d2:Nat) (h:Sh true base ns ks ts 0 d1) (hk:ks≠[]) (c:Tk) (hc:IsS ⟨#[44]⟩ c) (g:Sh false (base+ns.length) ms [b] us rk d2) :
    Sh true base (ns++ms) (ks++[b]) (ts++c :: us) 0 (max d1 d2)
def At (n deep base:Nat) (ts:List Tk) (ns:List Nd) (a:Nat) (r:List Tk):Prop :=
 if n≤4 then ∃ f,exprP f n deep base ts=some (.ok (ns,a,r)) else ∃ f,primP f deep base ts=some (.ok (ns,a,r))
def Goes (n deep base:Nat) (ts:List Tk) (ns:List Nd) (a:Nat) (r:List Tk):Prop :=
 ∃ ns1 a1 r1,At (n+1) deep base ts ns1 a1 r1∧∀ f y,rowP f n deep base ns a r=some y→∃ g,rowP g n deep base ns1 a1 r1=some y
theorem row_stop {n deep base:Nat} {ns:List Nd} {a:Nat} {r:List Tk} (h:opK n r=0):rowP 1 n deep base ns a r=some (.ok (ns,a,r)):=by
 rw [rowP_succ,if_pos h]
theorem Goes.at {n deep base:Nat} {ts:List Tk} {ns:List Nd} {a:Nat} {r:List Tk} (hn:n≤3) (h:Goes n deep base ts ns a r) (hs:Stop n r):At n deep base ts ns a r:=by
 obtain ⟨ns1,a1,r1,h1,h2⟩:=h
 obtain ⟨g,hg⟩:=h2 1 _ (row_stop (hs n (Nat.le_refl _) hn))
 unfold At at h1 ⊢
 rw [if_pos (by omega)] at h1 ⊢
 obtain ⟨f,hf⟩:=h1
 refine ⟨max f g+1, ?_⟩
 rw [exprP_succ,if_pos hn,exprP_more (Nat.le_max_left f g) hf]
 exact rowP_more (Nat.le_max_right f g) hg
theorem At.goes {n deep base:Nat} {ts:List Tk} {ns:List Nd} {a:Nat} {r:List Tk} (h:At (n+1) deep base ts ns a r):Goes n deep base ts ns a r:=⟨ns,a,r,h,fun f _ hy=>⟨f,hy⟩⟩
theorem At.four {deep base:Nat} {ts:List Tk} {ns:List Nd} {a:Nat} {r:List Tk} (h:At 5 deep base ts ns a r) (hm:signIs ⟨#[45]⟩ ts=false):At 4 deep base ts ns a r:=by
 unfold At at h ⊢
 rw [if_neg (by omega)] at h
 rw [if_pos (by omega)]
 obtain ⟨f,hf⟩:=h
 refine ⟨f+1, ?_⟩
 rw [exprP_succ,if_neg (by omega),hm,if_neg (by simp)]
 exact hf
theorem At.down {deep base:Nat} {ts:List Tk} {ns:List Nd} {a:Nat} {r:List Tk} (n:Nat):∀ (k:Nat),n+k≤5→At (n+k) deep base ts ns a r→Stop n r→(n+k=5→signIs ⟨#[45]⟩ ts=false)→At n deep base ts ns a r
 | 0,_,h,_,_=>h
 | k + 1,hk,h,hs,hm=>by
   have h1:At (n+k) deep base ts ns a r:=by
    by_cases c:n+(k+1)=5
    · rw [c] at h
      have:=h.four (hm c)
      rwa [show n+k=4 by omega]
    · exact Goes.at (by omega) (At.goes h) (fun m h1 h2=>hs m (by omega) h2)
   exact At.down n k (by omega) h1 hs (fun h=>by omega)
structure Back (base:Nat) (ns:List Nd) (a:Nat) (ts:List Tk) (rk d:Nat):Prop where
 le:rk≤5
 close:∀ rest,signIs ⟨#[41]⟩ (ts++rest)=false
 minus:rk=5→∀ rest,signIs ⟨#[45]⟩ (ts++rest)=false
 high:∀ deep rest,deep+d≤12→signIs ⟨#[58]⟩ rest=false→4≤rk→At rk deep base (ts++rest) ns a rest
 low:∀ deep rest,deep+d≤12→signIs ⟨#[58]⟩ rest=false→rk≤3→Stop (rk+1) rest→Goes rk deep base (ts++rest) ns a rest
theorem Stop.more {n m:Nat} {r:List Tk} (h:Stop n r) (hm:n≤m):Stop m r:=fun k h1 h2=>h k (by omega) h2
theorem Back.at {base:Nat} {ns:List Nd} {a:Nat} {ts:List Tk} {rk d:Nat} (h:Back base ns a ts rk d) (n deep:Nat) (rest:List Tk) (hn:n≤rk) (hd:deep+d≤12) (hc:signIs ⟨#[58]⟩ rest=false) (hs:Stop n rest) :
 At n deep base (ts++rest) ns a rest:=by
 have hle:=h.le
 have h1:At rk deep base (ts++rest) ns a rest:=by
  by_cases c:4≤rk
  · exact h.high deep rest hd hc c
  · exact Goes.at (by omega) (h.low deep rest hd hc (by omega) (hs.more (by omega))) (hs.more hn)
 refine At.down n (rk - n) (by omega) ?_ hs (fun e=>h.minus (by omega) rest)
 rwa [show n+(rk - n)=rk by omega]
theorem stop_sign {s:ByteArray} {t:Tk} (h:IsS s t) (ts:List Tk) (hs:(List.range 4).all (fun n=>(levelL n).all fun p=>decide (s≠p.1))=true) (n:Nat):Stop n (t :: ts):=by
 intro m _ hm
 unfold opK
 have hf:(levelL m).find? (fun p=>signIs p.1 (t :: ts))=none:=by
  rw [List.find?_eq_none]
  intro p hp
  rw [h.sign p.1 ts]
  have:=List.all_eq_true.1 hs m (by simp;omega)
  have:=List.all_eq_true.1 this p hp
  simpa using this
 rw [hf]
theorem Back.brk {base:Nat} {ns:List Nd} {a:Nat} {ts:List Tk} {rk d:Nat} (h:Back base ns a ts rk d) {l r:Tk} (hl:IsS ⟨#[40]⟩ l) (hr:IsS ⟨#[41]⟩ r):Back base ns a (l :: (ts++[r])) 5 (d+1):=by
 refine ⟨Nat.le_refl _,fun rest => ?_,fun _ rest => ?_,fun deep rest hd hc _ => ?_,fun deep rest _ _ h=>by omega⟩
 · rw [List.cons_append,hl.sign];decide
 · rw [List.cons_append,hl.sign];decide
 · have h1:=h.at 0 (deep+1) (r :: rest) (by omega) (by omega) (by rw [hr.sign];decide) (stop_sign hr rest (by decide) 0)
   unfold At at h1 ⊢
   rw [if_pos (by omega)] at h1
   rw [if_neg (by omega)]
   obtain ⟨f,hf⟩:=h1
   refine ⟨f+1, ?_⟩
   rw [List.cons_append,primP_cons,hl.sign,if_pos (by decide),if_neg (by omega),List.append_assoc,List.singleton_append,hf]
   show (if signIs ⟨#[41]⟩ (r :: rest)=true then _ else _)=_
   rw [hr.sign,if_pos (by decide)];rfl
theorem Back.wr {base:Nat} {ns:List Nd} {a:Nat} {ts:List Tk} {rk d n d':Nat} {ts':List Tk} (h:Back base ns a ts rk d) (hw:Wr n rk d ts d' ts') (hn:n≤5):∃ rk',n≤rk'∧Back base ns a ts' rk' d':=by
 rcases hw with ⟨h1,rfl,rfl⟩ | ⟨h1,rfl,l,r,hl,hr,rfl⟩
 · exact ⟨rk,h1,h⟩
 · exact ⟨5,hn,h.brk hl hr⟩
theorem Back.goes {base:Nat} {ns:List Nd} {a:Nat} {ts:List Tk} {rk d:Nat} (h:Back base ns a ts rk d) (n deep:Nat) (rest:List Tk) (hn:n≤rk) (hn3:n≤3) (hd:deep+d≤12) (hc:signIs ⟨#[58]⟩ rest=false) (hs:Stop (n+1) rest) :
 Goes n deep base (ts++rest) ns a rest:=by
 by_cases c:n=rk
 · subst c;exact h.low deep rest hd hc hn3 hs
 · exact (h.at (n+1) deep rest (by omega) hd hc hs).goes
theorem back_leaf {base:Nat} {ts:List Tk} {nd:Nd} (h:LeafS ts nd):Back base [nd] base ts 5 0:=by
 have key:(∀ rest,signIs ⟨#[41]⟩ (ts++rest)=false)∧(∀ rest,signIs ⟨#[45]⟩ (ts++rest)=false)∧∀ deep rest,signIs ⟨#[58]⟩ rest=false→primP 1 deep base (ts++rest)=some (.ok ([nd],base,rest)):=by
  have hs:∀ (t:Tk) (s:ByteArray) (us:List Tk),t.kind≠5→signIs s (t :: us)=false:=by
   intro t s us ht;unfold signIs;simp only [decide_eq_false ht,Bool.false_and]
  cases h with
  | num t h =>
    refine ⟨fun rest=>hs _ _ _ (by omega),fun rest=>hs _ _ _ (by omega),fun deep rest hc => ?_⟩
    rw [List.singleton_append,primP_cons,hs _ _ _ (by omega),if_neg (by simp),if_pos h]
  | text t h =>
    refine ⟨fun rest=>hs _ _ _ (by omega),fun rest=>hs _ _ _ (by omega),fun deep rest hc => ?_⟩
    rw [List.singleton_append,primP_cons,hs _ _ _ (by omega),if_neg (by simp),if_neg (by omega),if_pos h]
  | yes t h g =>
    refine ⟨fun rest=>hs _ _ _ (by omega),fun rest=>hs _ _ _ (by omega),fun deep rest hc => ?_⟩
    rw [List.singleton_append,primP_cons,hs _ _ _ (by omega),if_neg (by simp),if_neg (by omega),if_neg (by omega),if_neg (by omega),if_neg (by omega),if_pos h,if_pos g]
  | no t h g =>
    refine ⟨fun rest=>hs _ _ _ (by omega),fun rest=>hs _ _ _ (by omega),fun deep rest hc => ?_⟩
    rw [List.singleton_append,primP_cons,hs _ _ _ (by omega),if_neg (by simp),if_neg (by omega),if_neg (by omega),if_neg (by omega),if_neg (by omega),if_pos h,if_neg (by rw [g];decide),if_pos g]
  | dead t h =>
    refine ⟨fun rest=>hs _ _ _ (by omega),fun rest=>hs _ _ _ (by omega),fun deep rest hc => ?_⟩
    rw [List.singleton_append,primP_cons,hs _ _ _ (by omega),if_neg (by simp),if_neg (by omega),if_neg (by omega),if_pos h]
  | ref t h =>
    refine ⟨fun rest=>hs _ _ _ (by omega),fun rest=>hs _ _ _ (by omega),fun deep rest hc => ?_⟩
    rw [List.singleton_append,primP_cons,hs _ _ _ (by omega),if_neg (by simp),if_neg (by omega),if_neg (by omega),if_neg (by omega),if_pos h]
    unfold refP
    rw [hc,if_neg (by simp)]
  | range t c u h hc g hsp =>
    refine ⟨fun rest=>hs _ _ _ (by omega),fun rest=>hs _ _ _ (by omega),fun deep rest _ => ?_⟩
    show primP 1 deep base (t :: c :: u :: rest)=_
    rw [primP_cons,hs _ _ _ (by omega),if_neg (by simp),if_neg (by omega),if_neg (by omega),if_neg (by omega),if_pos h]
    unfold refP
    rw [hc.sign,if_pos (by decide)]
    show some (if u.kind=4∧spanB t.rf u.rf=true then _ else _)=_
    rw [if_pos ⟨g,hsp⟩]
 refine ⟨Nat.le_refl _,key.1,fun _=>key.2.1,fun deep rest _ hc _ => ?_,fun deep rest _ _ h=>by omega⟩
 unfold At;rw [if_neg (by omega)]
 exact ⟨1,key.2.2 deep rest hc⟩
theorem stop_four (r:List Tk):Stop 4 r:=fun m h1 h2=>by omega
theorem back_neg {base:Nat} {ns:List Nd} {a:Nat} {ts:List Tk} {rk d:Nat} (h:Back base ns a ts rk d) {m:Tk} (hm:IsS ⟨#[45]⟩ m) (h4:4≤rk) :
 Back base (ns++[{ Nd.zero with kind:=8,kids:=[(a:Int)] }]) (base+ns.length) (m :: ts) 4 (d+1):=by
 refine ⟨by omega,fun rest=>by rw [List.cons_append,hm.sign];decide,fun h=>by omega,fun deep rest hd hc _ => ?_,fun deep rest _ _ h=>by omega⟩
 have h1:=h.at 4 (deep+1) rest h4 (by omega) hc (stop_four _)
 unfold At at h1 ⊢
 rw [if_pos (by omega)] at h1 ⊢
 obtain ⟨f,hf⟩:=h1
 refine ⟨f+1, ?_⟩
 rw [List.cons_append,exprP_succ,if_neg (by omega),hm.sign,if_pos (by decide),if_neg (by omega),List.tail_cons,hf]
 rfl
theorem op_colon:∀ o:Nat,o<11→opS.getD o ⟨#[]⟩≠⟨#[58]⟩:=by decide +kernel
theorem stop_op {o:Nat} (ho:o<11) {s:Tk} (hs:IsS (opS.getD o ⟨#[]⟩) s) (ts:List Tk):Stop (rk o+1) (s :: ts):=by
 intro m h1 h2
 rw [opK_sign s ts o ho hs.1 hs.2 m h2,if_neg (by omega)]
theorem back_op {base o:Nat} (ho:o<11) {ns ms:List Nd} {a b:Nat} {ts us:List Tk} {rk1 rk2 d1 d2:Nat} (h:Back base ns a ts rk1 d1) (g:Back (base+ns.length) ms b us rk2 d2) {s:Tk} (hs:IsS (opS.getD o ⟨#[]⟩) s)
 (h1:rk o≤rk1) (h2:rk o+1≤rk2) :
 Back base (ns++(ms++[{ Nd.zero with kind:=9+(o:Int),kids:=[(a:Int),(b:Int)] }])) (base+(ns.length+ms.length)) (ts++s :: us) (rk o) (max d1 d2):=by
 have hr:=rk_le o
 refine ⟨by omega,fun rest=>by rw [List.append_assoc];exact h.close _,fun e=>by omega,fun deep rest _ _ e=>by omega,fun deep rest hd hc _ hst => ?_⟩
 obtain ⟨ns1,a1,r1,k1,k2⟩:=h.goes (rk o) deep (s :: (us++rest)) h1 hr (by omega) (by rw [hs.sign];exact decide_eq_false (op_colon o ho)) (stop_op ho hs _)
 have k3:=g.at (rk o+1) deep rest h2 (by omega) hc hst
 unfold At at k3
 rw [if_pos (by omega)] at k3
 obtain ⟨f,hf⟩:=k3
 refine ⟨ns1,a1,r1,by rw [List.append_assoc];exact k1,fun f' y hy => ?_⟩
 refine k2 (max f f'+1) y ?_
 rw [rowP_succ,opK_sign s _ o ho hs.1 hs.2 _ hr,if_pos rfl,if_neg (by omega),List.tail_cons,exprP_more (Nat.le_max_left f f') hf]
 exact rowP_more (Nat.le_max_right f f') hy
def BackA (base:Nat) (ns:List Nd) (ks:List Int) (ts:List Tk) (d:Nat):Prop :=
 (ks=[]∧ns=[]∧ts=[]∧d=0)∨(ks≠[]∧(∀ rest,signIs ⟨#[41]⟩ (ts++rest)=false)∧∀ deep rest,deep+d≤12→signIs ⟨#[58]⟩ rest=false→Stop 0 rest →
   ∀ f y,(if signIs ⟨#[44]⟩ rest=true then argsP f deep base ns ks rest.tail else some (.ok (ns,ks,rest)))=some y→∃ g,argsP g deep base [] [] (ts++rest)=some y)
theorem back_one {base:Nat} {ns:List Nd} {a:Nat} {ts:List Tk} {rk d:Nat} (h:Back base ns a ts rk d):BackA base ns [(a:Int)] ts d:=by
 refine .inr ⟨by simp,h.close,fun deep rest hd hc hs f y hy => ?_⟩
 have h1:=h.at 0 deep rest (by omega) hd hc hs
 unfold At at h1
 rw [if_pos (by omega)] at h1
 obtain ⟨g,hg⟩:=h1
 refine ⟨max f g+1, ?_⟩
 rw [argsP_succ,List.length_nil,Nat.add_zero,exprP_more (Nat.le_max_right f g) hg]
 show (if signIs ⟨#[44]⟩ rest=true then argsP (max f g) deep base ns [(a:Int)] rest.tail else some (.ok (ns,[(a:Int)],rest)))=some y
 by_cases c:signIs ⟨#[44]⟩ rest=true
 · rw [if_pos c] at hy ⊢;exact argsP_more (Nat.le_max_left f g) hy
 · rw [if_neg c] at hy ⊢;exact hy
theorem back_and {base:Nat} {ns ms:List Nd} {ks:List Int} {b:Nat} {ts us:List Tk} {rk d1 d2:Nat} (h:BackA base ns ks ts d1) (hk:ks≠[]) {c:Tk} (hc:IsS ⟨#[44]⟩ c) (g:Back (base+ns.length) ms b us rk d2) :
 BackA base (ns++ms) (ks++[(b:Int)]) (ts++c :: us) (max d1 d2):=by
 rcases h with ⟨h,_⟩ | ⟨_,h1,h2⟩
 · exact absurd h hk
 · refine .inr ⟨by simp,fun rest=>by rw [List.append_assoc];exact h1 _,fun deep rest hd hcol hs f y hy => ?_⟩
   have k1:=g.at 0 deep rest (by omega) (by omega) hcol hs
   unfold At at k1
   rw [if_pos (by omega)] at k1
   obtain ⟨g',hg⟩:=k1
   obtain ⟨q,hq⟩:=h2 deep (c :: (us++rest)) (by omega) (by rw [hc.sign];decide) (stop_sign hc _ (by decide) 0) (max f g'+1) y (by
    rw [hc.sign,if_pos (by decide),List.tail_cons,argsP_succ,exprP_more (Nat.le_max_right f g') hg]
    show (if signIs ⟨#[44]⟩ rest=true then argsP (max f g') deep base (ns++ms) (ks++[(b:Int)]) rest.tail else some (.ok (ns++ms,ks++[(b:Int)],rest)))=some y
    by_cases e:signIs ⟨#[44]⟩ rest=true
    · rw [if_pos e] at hy ⊢;exact argsP_more (Nat.le_max_left f g') hy
    · rw [if_neg e] at hy ⊢;exact hy)
   exact ⟨q,by rw [List.append_assoc];exact hq⟩
theorem back_call {base:Nat} {ns:List Nd} {ks:List Int} {ts:List Tk} {d:Nat} (h:BackA base ns ks ts d) {t l r:Tk} (ht:t.kind=3) (h1:t.text≠⟨#[84,82,85,69]⟩) (h2:t.text≠⟨#[70,65,76,83,69]⟩) (hl:IsS ⟨#[40]⟩ l) (hr:IsS ⟨#[41]⟩ r) :
 Back base (ns++[{ Nd.zero with kind:=7,text:=t.text,kids:=ks }]) (base+ns.length) (t :: l :: (ts++[r])) 5 (d+1):=by
 have hs:∀ (s:ByteArray) (us:List Tk),signIs s (t :: us)=false:=by
  intro s us;unfold signIs;simp only [ht];rfl
 refine ⟨Nat.le_refl _,fun rest=>hs _ _,fun _ rest=>hs _ _,fun deep rest hd hc _ => ?_,fun deep rest _ _ h=>by omega⟩
 have key:∃ f,(if signIs ⟨#[41]⟩ (ts++r :: rest)=true then some (.ok ([],[],ts++r :: rest)) else argsP f (deep+1) base [] [] (ts++r :: rest))=some (.ok (ns,ks,r :: rest)):=by
  rcases h with ⟨rfl,rfl,rfl,_⟩ | ⟨_,g1,g2⟩
  · refine ⟨0, ?_⟩
    rw [List.nil_append,hr.sign,if_pos (by decide)]
  · obtain ⟨f,hf⟩:=g2 (deep+1) (r :: rest) (by omega) (by rw [hr.sign];decide) (stop_sign hr rest (by decide) 0) 0 (.ok (ns,ks,r :: rest)) (by rw [hr.sign,if_neg (by decide)])
    refine ⟨f, ?_⟩
    rw [g1,if_neg (by simp)];exact hf
 obtain ⟨f,hf⟩:=key
 unfold At;rw [if_neg (by omega)]
 refine ⟨f+1, ?_⟩
 rw [List.cons_append,List.cons_append,List.append_assoc,List.singleton_append,primP_cons,hs,if_neg (by simp),if_neg (by omega),if_neg (by omega),if_neg (by omega),if_neg (by omega),if_pos ht,if_neg h1,if_neg h2,hl.sign,if_pos (by decide),if_neg (by omega),List.tail_cons,hf]
 show (if signIs ⟨#[41]⟩ (r :: rest)=true then _ else _)=_
 rw [hr.sign,if_pos (by decide)];rfl
theorem sh_back {b:Bool} {base:Nat} {ns:List Nd} {ks:List Int} {ts:List Tk} {rk d:Nat} (h:Sh b base ns ks ts rk d) :
 (b=false→∃ a:Nat,ks=[(a:Int)]∧Back base ns a ts rk d)∧(b=true→BackA base ns ks ts d):=by
 induction h with
 | leaf base ts nd h=>exact ⟨fun _=>⟨base,rfl,back_leaf h⟩,fun h=>by cases h⟩
 | neg base ns a ts rk d h m hm d' ts' hw ih =>
   refine ⟨fun _ => ?_,fun h=>by cases h⟩
   obtain ⟨a',e,hb⟩:=ih.1 rfl
   obtain rfl:a=(a':Int):=by simpa using e
   obtain ⟨rk',h1,hb'⟩:=hb.wr hw (by omega)
   exact ⟨_,rfl,back_neg hb' hm h1⟩
 | op base o ho ns ms a b ts us rk1 rk2 d1 d2 h g s hs e1 e2 ts' us' hw gw ih ig =>
   refine ⟨fun _ => ?_,fun h=>by cases h⟩
   have hr:=rk_le o
   obtain ⟨a',e,hb⟩:=ih.1 rfl
   obtain rfl:a=(a':Int):=by simpa using e
   obtain ⟨b',e',gb⟩:=ig.1 rfl
   obtain rfl:b=(b':Int):=by simpa using e'
   obtain ⟨r1,h1,hb'⟩:=hb.wr hw (by omega)
   obtain ⟨r2,h2,gb'⟩:=gb.wr gw (by omega)
   exact ⟨_,rfl,back_op ho hb' gb' hs h1 h2⟩
 | call base ns ks ts d h t l r ht h1 h2 hl hr ih=>exact ⟨fun _=>⟨_,rfl,back_call (ih.2 rfl) ht h1 h2 hl hr⟩,fun h=>by cases h⟩
 | none base=>exact ⟨fun h=>(by cases h),fun _ => .inl ⟨rfl,rfl,rfl,rfl⟩⟩
 | one base ns a ts rk d h ih =>
   refine ⟨fun h=>(by cases h),fun _ => ?_⟩
   obtain ⟨a',e,hb⟩:=ih.1 rfl
   obtain rfl:a=(a':Int):=by simpa using e
   exact back_one hb
 | and base ns ms ks b ts us rk d1 d2 h hk c hc g ih ig =>
   refine ⟨fun h=>(by cases h),fun _ => ?_⟩
   obtain ⟨b',e,gb⟩:=ig.1 rfl
   obtain rfl:b=(b':Int):=by simpa using e
   exact back_and (ih.2 rfl) hk hc gb
theorem sh_parse {ns:List Nd} {a:Int} {ts:List Tk} {rk d:Nat} (h:Sh false 0 ns [a] ts rk d) (hd:d≤12) (e:Tk) (he:e.kind=0):∃ f,parseP f (ts++[e])=some (.ok ns):=by
 obtain ⟨a',_,hb⟩:=(sh_back h).1 rfl
 have hsg:∀ s:ByteArray,signIs s [e]=false:=by intro s;unfold signIs;simp only [he];rfl
 have h1:=hb.at 0 0 [e] (by omega) (by omega) (hsg _) (by
  intro m _ _
  unfold opK
  have hf:(levelL m).find? (fun p=>signIs p.1 [e])=none:=by
   rw [List.find?_eq_none];intro p _;rw [hsg];simp
  rw [hf])
 unfold At at h1
 rw [if_pos (by omega)] at h1
 obtain ⟨f,hf⟩:=h1
 refine ⟨f, ?_⟩
 unfold parseP
 rw [hf]
 show (if kindAt [e]=0 then _ else _)=_
 rw [if_pos (show kindAt [e]=0 from he)]
theorem signIs_of {s:ByteArray} {ts:List Tk} (h:signIs s ts=true):∃ t,ts=t :: ts.tail∧IsS s t:=by
 cases ts with
 | nil=>simp [signIs] at h
 | cons t ts =>
   unfold signIs at h
   rw [Bool.and_eq_true,decide_eq_true_iff,decide_eq_true_iff] at h
   exact ⟨t,rfl,h⟩
theorem opK_of {n:Nat} {ts:List Tk} (hn:n≤3) (h:opK n ts≠0):∃ o t,o<11∧rk o=n∧ts=t :: ts.tail∧IsS (opS.getD o ⟨#[]⟩) t∧opK n ts=9+(o:Int):=by
 obtain ⟨p,h1,h2,h3⟩:=opK_pos h
 obtain ⟨t,e,ht⟩:=signIs_of h2
 have key:∀ n:Nat,n<4→(levelL n).all (fun p=>(List.range 11).any fun o=>decide (rk o=n)&&(decide (p.1=opS.getD o ⟨#[]⟩)&&decide (p.2=9+(o:Int))))=true:=by decide +kernel
 have:=List.all_eq_true.1 (key n (by omega)) p h1
 rw [List.any_eq_true] at this
 obtain ⟨o,ho,hq⟩:=this
 rw [Bool.and_eq_true,Bool.and_eq_true,decide_eq_true_iff,decide_eq_true_iff,decide_eq_true_iff] at hq
 refine ⟨o,t,by simpa using ho,hq.1,e, ?_,by rw [h3,hq.2.2]⟩
 rw [← hq.2.1];exact ht
def Has (n deep base:Nat) (ns:List Nd) (a:Nat) (pre:List Tk):Prop :=
 ∃ ts rk d ts' d',Sh false base ns [(a:Int)] ts rk d∧Wr n rk d ts d' ts'∧ts'.Sublist pre∧deep+d'≤12
theorem Has.less {n deep base:Nat} {ns:List Nd} {a:Nat} {pre:List Tk} (h:Has (n+1) deep base ns a pre):Has n deep base ns a pre:=by
 obtain ⟨ts,rk,d,ts',d',h1,h2,h3,h4⟩:=h
 rcases h2 with ⟨g1,rfl,rfl⟩ | ⟨g1,rfl,l,r,hl,hr,rfl⟩
 · exact ⟨_,_,_,_,_,h1,.inl ⟨by omega,rfl,rfl⟩,h3,h4⟩
 · by_cases c:n≤rk
   · refine ⟨_,_,_,_,_,h1,.inl ⟨c,rfl,rfl⟩, ?_,by omega⟩
     exact ((List.sublist_append_left ts [r]).trans (List.sublist_cons_self l _)).trans h3
   · exact ⟨_,_,_,_,_,h1,.inr ⟨by omega,rfl,l,r,hl,hr,rfl⟩,h3,h4⟩
def HasA (deep base:Nat) (ns:List Nd) (ks:List Int) (pre:List Tk):Prop :=
 (ks=[]∧ns=[])∨(ks≠[]∧∃ ts d c,Sh true base ns ks ts 0 d∧IsS ⟨#[44]⟩ c∧(ts++[c]).Sublist pre∧deep+d≤12)
theorem has_leaf {deep base:Nat} {ts pre:List Tk} {nd:Nd} (h:LeafS ts nd) (hp:ts.Sublist pre) (hd:deep≤12):Has 5 deep base [nd] base pre :=
 ⟨_,_,_,_,_,.leaf base ts nd h,.inl ⟨Nat.le_refl _,rfl,rfl⟩,hp,by omega⟩
theorem has_all : ∀ f : Nat, (∀ n deep base ts ns a r, exprP f n deep base ts=some (.ok (ns,a,r))→n≤4→deep≤12→∃ pre,ts=pre++r∧Has n deep base ns a pre) ∧
 (∀ n deep base ns a ts ns' a' r pre0,rowP f n deep base ns a ts=some (.ok (ns',a',r))→n≤3→deep≤12→Has n deep base ns a pre0→∃ pre,ts=pre++r∧Has n deep base ns' a' (pre0++pre)) ∧
 (∀ deep base ts ns a r,primP f deep base ts=some (.ok (ns,a,r))→deep≤12→∃ pre,ts=pre++r∧Has 5 deep base ns a pre) ∧
 (∀ deep base ns ks ts ns' ks' r pre0,argsP f deep base ns ks ts=some (.ok (ns',ks',r))→deep≤12→HasA deep base ns ks pre0 →
   ∃ pre us d,ts=pre++r∧Sh true base ns' ks' us 0 d∧us.Sublist (pre0++pre)∧deep+d≤12)
 | 0=>by
   refine ⟨?_, ?_, ?_, ?_⟩
   · intro n deep base ts ns a r h;unfold exprP at h;cases h
   · intro n deep base ns a ts ns' a' r pre0 h;unfold rowP at h;cases h
   · intro deep base ts ns a r h;unfold primP at h;cases h
   · intro deep base ns ks ts ns' ks' r pre0 h;unfold argsP at h;cases h
 | f + 1 => by
   obtain ⟨i1,i2,i3,i4⟩:=has_all f
   refine ⟨?_, ?_, ?_, ?_⟩
   · intro n deep base ts ns a r h hn hd
     rw [exprP_succ] at h
     by_cases c:n≤3
     · rw [if_pos c] at h
       rcases bindR_some h with ⟨e,_,h2⟩ | ⟨ms,b,s,h1,h2⟩
       · cases h2
       · obtain ⟨p1,e1,k1⟩:=i1 _ _ _ _ _ _ _ h1 (by omega) hd
         obtain ⟨p2,e2,k2⟩:=i2 _ _ _ _ _ _ _ _ _ p1 h2 c hd k1.less
         exact ⟨p1++p2,by rw [e1,e2,List.append_assoc],k2⟩
     · rw [if_neg c] at h
       have hn4:n=4:=by omega
       subst hn4
       by_cases d:signIs ⟨#[45]⟩ ts=true
       · rw [if_pos d] at h
         by_cases d2:12≤deep
         · rw [if_pos d2] at h;cases h
         · rw [if_neg d2] at h
           obtain ⟨t,et,ht⟩:=signIs_of d
           rcases bindR_some h with ⟨e,_,h2⟩ | ⟨ms,b,s,h1,h2⟩
           · cases h2
           · obtain ⟨p1,e1,us,rk',d',us',e',g1,g2,g3,g4⟩:=i1 _ _ _ _ _ _ _ h1 (by omega) (by omega)
             injection h2 with h2;injection h2 with h2;injection h2 with h3 h4;injection h4 with h4 h5
             subst h3;subst h4;subst h5
             refine ⟨t :: p1,by rw [et,e1];rfl,_,_,_,_,_,.neg base ms _ us rk' d' g1 t ht e' us' g2,.inl ⟨Nat.le_refl _,rfl,rfl⟩,g3.cons_cons t,by omega⟩
       · rw [if_neg d] at h
         obtain ⟨p,e,k⟩:=i3 _ _ _ _ _ _ h hd
         exact ⟨p,e,Has.less (n:=4) k⟩
   · intro n deep base ns a ts ns' a' r pre0 h hn hd hh
     rw [rowP_succ] at h
     by_cases c:opK n ts=0
     · rw [if_pos c] at h
       injection h with h;injection h with h;injection h with h1 h2;injection h2 with h2 h3
       subst h1;subst h2;subst h3
       exact ⟨[],rfl,by rw [List.append_nil];exact hh⟩
     · rw [if_neg c] at h
       obtain ⟨o,t,ho,hrk,et,ht,ek⟩:=opK_of hn c
       rcases bindR_some h with ⟨e,_,h2⟩ | ⟨ms,b,s,h1,h2⟩
       · cases h2
       · obtain ⟨p1,e1,us,rk2,d2,us',e2,g1,g2,g3,g4⟩:=i1 _ _ _ _ _ _ _ h1 (by omega) hd
         obtain ⟨ls,rk1,d1,ls',l2,k1,k2,k3,k4⟩:=hh
         subst hrk
         have hnew:Has (rk o) deep base (ns++(ms++[{ Nd.zero with kind:=9+(o:Int),kids:=[(a:Int),(b:Int)] }])) (base+(ns.length+ms.length)) (pre0++t :: p1) :=
          ⟨_,_,_,_,_,.op base o ho ns ms _ _ ls us rk1 rk2 d1 d2 k1 g1 t ht l2 e2 ls' us' k2 g2,.inl ⟨Nat.le_refl _,rfl,rfl⟩,k3.append (g3.cons_cons t),by omega⟩
         rw [ek] at h2
         obtain ⟨p2,e3,k5⟩:=i2 _ _ _ _ _ _ _ _ _ _ h2 hn hd hnew
         refine ⟨t :: (p1++p2),by rw [et,e1,e3];simp, ?_⟩
         have:pre0++t :: (p1++p2)=pre0++t :: p1++p2:=by simp
         rw [this];exact k5
   · intro deep base ts ns a r h hd
     cases ts with
     | nil=>rw [primP_nil] at h;injection h with h;cases h
     | cons t ts =>
       rw [primP_cons] at h
       by_cases c1:signIs ⟨#[40]⟩ (t :: ts)=true
       · rw [if_pos c1] at h
         obtain ⟨t',et,ht⟩:=signIs_of c1
         injection et with et _
         subst et
         by_cases d:12≤deep
         · rw [if_pos d] at h;cases h
         · rw [if_neg d] at h
           rcases bindR_some h with ⟨e,_,h2⟩ | ⟨ms,b,s,h1,h2⟩
           · cases h2
           · by_cases c2 : signIs ⟨#[41]⟩ s = true
             · rw [if_pos c2] at h2
               injection h2 with h2;injection h2 with h2;injection h2 with h3 h4;injection h4 with h4 h5
               subst h3;subst h4;subst h5
               obtain ⟨u,eu,hu⟩:=signIs_of c2
               obtain ⟨p1,e1,us,rk',d',us',e',g1,g2,g3,g4⟩:=i1 _ _ _ _ _ _ _ h1 (by omega) (by omega)
               rcases g2 with ⟨_,rfl,rfl⟩ | ⟨g2,_⟩
               · refine ⟨t :: (p1 ++ [u]), by rw [e1];conv=>lhs;rw [eu]
                                              simp, ?_⟩
                 by_cases c3:5≤rk'
                 · refine ⟨_,_,_,_,_,g1,.inl ⟨c3,rfl,rfl⟩, ?_,by omega⟩
                   exact (g3.trans (List.sublist_append_left _ _)).trans (List.sublist_cons_self _ _)
                 · exact ⟨_,_,_,_,_,g1,.inr ⟨by omega,rfl,t,u,ht,hu,rfl⟩,(g3.append (List.Sublist.refl [u])).cons_cons t,by omega⟩
               · omega
             · rw [if_neg c2] at h2;injection h2 with h2;cases h2
       · rw [if_neg c1] at h
         by_cases c2:t.kind=1
         · rw [if_pos c2] at h
           injection h with h;injection h with h;injection h with h1 h2;injection h2 with h2 h3
           subst h1;subst h2;subst h3
           exact ⟨[t],rfl,has_leaf (.num t c2) (List.Sublist.refl _) hd⟩
         · rw [if_neg c2] at h
           by_cases c3:t.kind=2
           · rw [if_pos c3] at h
             injection h with h;injection h with h;injection h with h1 h2;injection h2 with h2 h3
             subst h1;subst h2;subst h3
             exact ⟨[t],rfl,has_leaf (.text t c3) (List.Sublist.refl _) hd⟩
           · rw [if_neg c3] at h
             by_cases c4:t.kind=6
             · rw [if_pos c4] at h
               injection h with h;injection h with h;injection h with h1 h2;injection h2 with h2 h3
               subst h1;subst h2;subst h3
               exact ⟨[t],rfl,has_leaf (.dead t c4) (List.Sublist.refl _) hd⟩
             · rw [if_neg c4] at h
               by_cases c5:t.kind=4
               · rw [if_pos c5] at h
                 injection h with h
                 unfold refP at h
                 by_cases c6:signIs ⟨#[58]⟩ ts=true
                 · rw [if_pos c6] at h
                   obtain ⟨q,eq,hq⟩:=signIs_of c6
                   cases hu:ts.tail with
                   | nil=>rw [hu] at h;cases h
                   | cons u us =>
                     rw [hu] at h
                     simp only at h
                     by_cases c7:u.kind=4∧spanB t.rf u.rf=true
                     · rw [if_pos c7] at h
                       injection h with h;injection h with h1 h2;injection h2 with h2 h3
                       subst h1;subst h2;subst h3
                       refine ⟨[t,q,u],by rw [eq,hu];rfl,has_leaf (.range t q u c5 hq c7.1 c7.2) (List.Sublist.refl _) hd⟩
                     · rw [if_neg c7] at h;cases h
                 · rw [if_neg c6] at h
                   injection h with h;injection h with h1 h2;injection h2 with h2 h3
                   subst h1;subst h2;subst h3
                   exact ⟨[t],rfl,has_leaf (.ref t c5) (List.Sublist.refl _) hd⟩
               · rw [if_neg c5] at h
                 by_cases c6:t.kind=3
                 · rw [if_pos c6] at h
                   by_cases c7:t.text=⟨#[84,82,85,69]⟩
                   · rw [if_pos c7] at h
                     injection h with h;injection h with h;injection h with h1 h2;injection h2 with h2 h3
                     subst h1;subst h2;subst h3
                     exact ⟨[t],rfl,has_leaf (.yes t c6 c7) (List.Sublist.refl _) hd⟩
                   · rw [if_neg c7] at h
                     by_cases c8:t.text=⟨#[70,65,76,83,69]⟩
                     · rw [if_pos c8] at h
                       injection h with h;injection h with h;injection h with h1 h2;injection h2 with h2 h3
                       subst h1;subst h2;subst h3
                       exact ⟨[t],rfl,has_leaf (.no t c6 c8) (List.Sublist.refl _) hd⟩
                     · rw [if_neg c8] at h
                       by_cases c9:signIs ⟨#[40]⟩ ts=true
                       · rw [if_pos c9] at h
                         obtain ⟨l,el,hl⟩:=signIs_of c9
                         by_cases d:12≤deep
                         · rw [if_pos d] at h;cases h
                         · rw [if_neg d] at h
                           rcases bindR_some h with ⟨e,_,h2⟩ | ⟨ms,ks,s,h1,h2⟩
                           · cases h2
                           · by_cases c10 : signIs ⟨#[41]⟩ s = true
                             · rw [if_pos c10] at h2
                               injection h2 with h2;injection h2 with h2;injection h2 with h3 h4;injection h4 with h4 h5
                               subst h3;subst h4;subst h5
                               obtain ⟨u,eu,hu⟩:=signIs_of c10
                               have key:∃ p us d,ts.tail=p++s∧Sh true base ms ks us 0 d∧us.Sublist p∧deep+1+d≤12:=by
                                by_cases c11:signIs ⟨#[41]⟩ ts.tail=true
                                · rw [if_pos c11] at h1
                                  injection h1 with h1;injection h1 with h1;injection h1 with h3 h4;injection h4 with h4 h5
                                  subst h3;subst h4;subst h5
                                  exact ⟨[],[],0,rfl,.none base,List.Sublist.refl _,by omega⟩
                                · rw [if_neg c11] at h1
                                  obtain ⟨p,us,d',g1,g2,g3,g4⟩:=i4 _ _ _ _ _ _ _ _ [] h1 (by omega) (.inl ⟨rfl,rfl⟩)
                                  exact ⟨p,us,d',g1,g2,by simpa using g3,g4⟩
                               obtain ⟨p,us,d',g1,g2,g3,g4⟩:=key
                               refine ⟨t :: l :: (p ++ [u]), by rw [el,g1];conv=>lhs;rw [eu]
                                                                simp, ?_⟩
                               exact ⟨_,_,_,_,_,.call base ms ks us d' g2 t l u c6 c7 c8 hl hu,.inl ⟨Nat.le_refl _,rfl,rfl⟩,((g3.append (List.Sublist.refl [u])).cons_cons l).cons_cons t,by omega⟩
                             · rw [if_neg c10] at h2;injection h2 with h2;cases h2
                       · rw [if_neg c9] at h;injection h with h;cases h
                 · rw [if_neg c6] at h;injection h with h;cases h
   · intro deep base ns ks ts ns' ks' r pre0 h hd hh
     rw [argsP_succ] at h
     rcases bindR_some h with ⟨e,_,h2⟩ | ⟨ms,b,s,h1,h2⟩
     · cases h2
     · obtain ⟨p1, e1, us, rk', d', us', e', g1,g2,g3,g4⟩:=i1 _ _ _ _ _ _ _ h1 (by omega) hd
       rcases g2 with ⟨_,rfl,rfl⟩ | ⟨g2,_⟩
       · have key : ∃ ts d, Sh true base (ns ++ ms) (ks++[(b:Int)]) ts 0 d∧ts.Sublist (pre0++p1)∧deep+d≤12:=by
          rcases hh with ⟨rfl,rfl⟩ | ⟨hk,us0,d0,q,k1,k2,k3,k4⟩
          · exact ⟨_,_,.one base ms _ _ _ _ (by simpa using g1),g3.trans (List.sublist_append_right _ _),g4⟩
          · refine ⟨_,_,.and base ns ms ks _ us0 _ _ d0 _ k1 hk q k2 g1, ?_,by omega⟩
            have:=k3.append g3
            simpa using this
         obtain ⟨ts1,d1,j1,j2,j3⟩:=key
         by_cases c:signIs ⟨#[44]⟩ s=true
         · rw [if_pos c] at h2
           obtain ⟨q,eq,hq⟩:=signIs_of c
           obtain ⟨p2,us2,d2,m1,m2,m3,m4⟩:=i4 _ _ _ _ _ _ _ _ (pre0++p1++[q]) h2 hd (.inr ⟨by simp,ts1,d1,q,j1,hq,j2.append (List.Sublist.refl _),j3⟩)
           refine ⟨p1 ++ q :: p2, us2, d2, by rw [e1];conv=>lhs;rw [eq,m1]
                                              simp,m2,by simpa using m3,m4⟩
         · rw [if_neg c] at h2
           injection h2 with h2;injection h2 with h2;injection h2 with h3 h4;injection h4 with h4 h5
           subst h3;subst h4;subst h5
           exact ⟨p1,ts1,d1,e1,j1,j2,j3⟩
       · omega
def txK (t:Tk):List Int :=
 if t.kind=1 then digL t.num.toNat
 else if t.kind=2 then 34 :: (dblL (sb t.text)++[34])
 else if t.kind=4 then textL (sb t.sh) t.c t.r t.ac t.ar
 else if t.kind=6 then [35,82,69,70,33]
 else sb t.text
theorem take_span (p:Int→Bool) (l:List Int):l.take (l.takeWhile p).length=l.takeWhile p:=(List.prefix_iff_eq_take.1 (List.takeWhile_prefix p)).symm
theorem quoF_text:∀ (n:Nat) (l t:List Int) (k:Nat),l.length≤n→quoF l=some (t,k)→l.take k=dblL t++[34]
 | _,[],_,_,_,h=>by simp [quoF] at h
 | 0,_ :: _,_,_,hn,_=>by simp at hn
 | n + 1, x :: l,t,k,hn,h=>by
   rw [quoF_cons] at h
   by_cases h1:x<32
   · rw [if_pos h1] at h;cases h
   · rw [if_neg h1] at h
     by_cases h2:x≠34
     · rw [if_pos h2] at h
       cases hq:quoF l with
       | none=>rw [hq] at h;cases h
       | some q =>
         rw [hq] at h
         simp only [Option.map_some,Option.some.injEq,Prod.mk.injEq] at h
         have g:=quoF_text n l q.1 q.2 (by simp at hn;omega) hq
         rw [← h.1, ← h.2,List.take_succ_cons,g]
         have e:dblL (x :: q.1)=x :: dblL q.1:=by unfold dblL;rw [if_neg h2];cases q.1 <;> rfl
         rw [e];rfl
     · rw [if_neg h2] at h
       have hx:x=34:=by omega
       cases l with
       | nil=>simp only [Option.some.injEq,Prod.mk.injEq] at h;rw [← h.1, ← h.2,hx];rfl
       | cons y m =>
         by_cases hy:y=34
         · simp only [hy,if_true] at h
           cases hq:quoF m with
           | none=>rw [hq] at h;cases h
           | some q =>
             rw [hq] at h
             simp only [Option.map_some,Option.some.injEq,Prod.mk.injEq] at h
             have g:=quoF_text n m q.1 q.2 (by simp at hn;omega) hq
             rw [← h.1, ← h.2,List.take_succ_cons,List.take_succ_cons,g,hx,hy]
             rfl
         · simp only [hy,if_false,Option.some.injEq,Prod.mk.injEq] at h
           rw [← h.1, ← h.2,hx];rfl
theorem tok_text (l:List Int) (t:Tk) (n:Nat) (hb:Bytes l) (h:tokT l=some (t,n)):l.take n=txK t∧t.goto 0=t:=by
 cases l with
 | nil=>simp [tokT] at h
 | cons x l =>
   rw [tokT_cons] at h
   by_cases h1:isNum x=true
   · rw [if_pos h1] at h
     unfold numT at h
     split at h
     · cases h
     · rename_i hn
       simp only [Option.some.injEq,Prod.mk.injEq] at h
       rw [← h.1, ← h.2,take_span]
       refine ⟨?_,rfl⟩
       have hall:=take_all isNum (x :: l)
       have hpos:=take_pos isNum x l h1
       have hcons:(x :: l).takeWhile isNum=x :: l.takeWhile isNum:=by rw [List.takeWhile_cons,if_pos h1]
       show (x :: l).takeWhile isNum=digL (valL ((x :: l).takeWhile isNum)).toNat
       by_cases c:x=48
       · subst c
         have hl:((48 :: l).takeWhile isNum).length=1:=by
          apply Decidable.byContradiction
          intro hc
          exact hn (.inl ⟨by omega,rfl⟩)
         have:l.takeWhile isNum=[]:=by
          rw [hcons,List.length_cons] at hl
          exact List.eq_nil_of_length_eq_zero (by omega)
         rw [hcons,this]
         show [48]=digL 0
         rw [digL_small 0 (by omega)];rfl
       · exact (digL_valL _ _ rfl (by rw [hcons];simp) hall (by rw [hcons];simpa using c)).2.symm
   · rw [if_neg h1] at h
     by_cases h2:x=34
     · rw [if_pos h2] at h
       unfold quoT at h
       cases hq:quoF l with
       | none=>rw [hq] at h;cases h
       | some q =>
         rw [hq] at h
         simp only [Option.map_some,Option.some.injEq,Prod.mk.injEq] at h
         obtain ⟨g1,g2⟩:=quoF_good _ l q.1 q.2 (Nat.le_refl _) (fun y hy=>hb y (by simp [hy])) hq
         rw [← h.1, ← h.2,List.take_succ_cons,quoF_text _ l q.1 q.2 (Nat.le_refl _) hq,h2]
         refine ⟨?_,rfl⟩
         show _=34 :: (dblL (sb (strOfNums q.1))++[34])
         rw [sb_str _ g1]
     · rw [if_neg h2] at h
       by_cases h3:x=35
       · rw [if_pos h3] at h
         unfold deadT at h
         split at h
         · rename_i h5
           simp only [Option.some.injEq,Prod.mk.injEq] at h
           rw [← h.1, ← h.2,h5]
           exact ⟨rfl,rfl⟩
         · cases h
       · rw [if_neg h3] at h
         by_cases h4:isLet x=true∨x=36
         · rw [if_pos h4] at h
           unfold wordT at h
           cases hq:readS (strOfNums ((x :: l).takeWhile isWord)) with
           | some d =>
             rw [hq] at h
             simp only [Option.some.injEq,Prod.mk.injEq] at h
             rw [← h.1, ← h.2,take_span]
             refine ⟨?_,rfl⟩
             have e:=(read_some _ d hq).2.2
             rw [sb_str _ (hb.span isWord)] at e
             exact e.symm
           | none =>
             rw [hq] at h
             simp only at h
             by_cases hc:calledL ((x :: l).takeWhile isWord)=true
             · rw [if_pos hc] at h
               simp only [Option.some.injEq,Prod.mk.injEq] at h
               rw [← h.1, ← h.2,take_span]
               exact ⟨(sb_str _ (hb.span isWord)).symm,rfl⟩
             · rw [if_neg hc] at h;cases h
         · rw [if_neg h4] at h
           unfold signT at h
           split at h
           · cases h
           · simp only [Option.some.injEq,Prod.mk.injEq] at h
             rw [← h.1, ← h.2]
             exact ⟨(sb_str _ (fun y hy=>hb y (List.mem_of_mem_take hy))).symm,rfl⟩
def Tok (t:Tk):Prop:=t.kind≠0∧tokT (txK t++[32])=some (t.goto 0,(txK t).length)∧Bytes (txK t)
theorem tok_tok (l:List Int) (t:Tk) (n p:Nat) (hb:Bytes l) (h:tokT l=some (t,n)):Tok (t.goto p)∧(txK (t.goto p)).length=n:=by
 obtain ⟨h1,h2⟩:=tok_text l t n hb h
 have hn:=(tokT_le _ _ _ h).2
 have e:txK (t.goto p)=txK t:=rfl
 have hl:(txK t).length=n:=by rw [← h1,List.length_take];omega
 refine ⟨⟨(tokT_good l t n p hb h).2, ?_,by rw [e, ← h1];exact fun y hy=>hb y (List.mem_of_mem_take hy)⟩,by rw [e];exact hl⟩
 have h3:tokT (txK t++l.drop n)=some (t,(txK t).length):=by rw [← h1,List.take_append_drop,h,h1,hl]
 have h4:=tokT_alike (b':=[32]) (.inr rfl) h3
 rw [e,h4]
 show some (t,_)=some (t.goto 0,_)
 rw [h2]
def lenK:List Tk→Nat
 | []=>0
 | t :: ts=>(txK t).length+lenK ts
theorem lenK_cons (t:Tk) (ts:List Tk):lenK (t :: ts)=(txK t).length+lenK ts:=rfl
theorem lenK_sub {a b:List Tk} (h:a.Sublist b):lenK a≤lenK b:=by
 induction h with
 | slnil=>exact Nat.le_refl _
 | cons t _ ih=>rw [lenK_cons];omega
 | cons_cons t _ ih=>rw [lenK_cons,lenK_cons];omega
theorem lexF_tok:∀ (f p:Nat) (l:List Int) (ts:List Tk),Bytes l→lexF f p l=some ts→∃ body e,ts=body++[e]∧e.kind=0∧(∀ t∈body,Tok t)∧lenK body≤l.length
 | f,p,[],ts,_,h=>by
   have h0:lexF f p []=some [Tk.zero.goto p]:=by unfold lexF;rfl
   rw [h0] at h;injection h with h;subst h
   exact ⟨[],_,rfl,rfl,by simp,Nat.le_refl _⟩
 | 0,_,_ :: _,_,_,h=>by unfold lexF at h;cases h
 | f + 1, p,x :: l,ts,hb,h=>by
   have hbl:Bytes l:=fun y hy=>hb y (by simp [hy])
   rw [lexF_cons] at h
   by_cases hx:x=32
   · rw [if_pos hx] at h
     obtain ⟨body,e,h1,h2,h3,h4⟩:=lexF_tok f (p+1) l ts hbl h
     exact ⟨body,e,h1,h2,h3,by simp only [List.length_cons];omega⟩
   · rw [if_neg hx] at h
     cases hq:tokT (x :: l) with
     | none=>rw [hq] at h;cases h
     | some q =>
       obtain ⟨t0,n⟩:=q
       have hn:=tokT_le _ _ _ hq
       rw [hq] at h
       simp only [Option.map_eq_some_iff] at h
       obtain ⟨us,h1,rfl⟩:=h
       obtain ⟨body,e,k1,k2,k3,k4⟩:=lexF_tok f (p+n) _ us (fun y hy=>hb y (List.mem_of_mem_drop hy)) h1
       obtain ⟨g1,g2⟩:=tok_tok (x :: l) t0 n p hb hq
       refine ⟨t0.goto p :: body,e,by rw [k1];rfl,k2, ?_, ?_⟩
       · intro t ht
         rcases List.mem_cons.1 ht with rfl | ht
         · exact g1
         · exact k3 t ht
       · rw [lenK_cons,g2];rw [List.length_drop] at k4;omega
end Go.Proofs.YtecpbligblnonaaGreatDoor
