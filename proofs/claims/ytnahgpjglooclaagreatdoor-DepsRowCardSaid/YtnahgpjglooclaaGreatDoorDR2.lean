/-
 Texts of layers, put together.
-/
import Derived.Test.YtnahgpjglooclaaGreatDoorDR1
import Derived.Deep.DeepCutAuto
import Derived.Deep.CutBlock
import Derived.Laws.MakeOwn
import Derived.Shelf.Strings.Builder1
import Derived.Shelf.Strings.Builder2
import Derived.Shelf.Small.Bits
import Derived.Shelf.Small.Strs
import Derived.Shelf.Strings.BuilderF
import Derived.Shelf.Strings.BuilderK
import Derived.Shelf.Utf8.RuneCount
import Derived.Shelf.Strconv.Atoi
import Derived.Shelf.Strconv.Itoa0
import Derived.Shelf.Strconv.Itoa1
import Derived.Shelf.LaysM
import Derived.Shelf.Strconv.Itoa2
import Derived.Shelf.Strconv.Itoa3
import Derived.Shelf.Strconv.AtoiErrFast
import Derived.Shelf.Strconv.ParseIntEmpty
import Derived.Shelf.Strconv.AtoiFail
import Derived.Shelf.Strconv.Clone
import Derived.Shelf.Strconv.SyntaxError
import Derived.Shelf.LaysC
import Derived.Shelf.Strconv.ToError
import Derived.Shelf.Strconv.Lower
import Derived.Shelf.Strconv.ParseUint10
import Derived.Shelf.Strconv.ParseUint10Empty
import Derived.Shelf.Strconv.ParseUint10Any
import Derived.Shelf.Strconv.ParseInt10
import Derived.Shelf.Strconv.AtoiLong
import Derived.Shelf.Strconv.AtoiInnerAll
import Derived.Shelf.Strconv.RangeError
import Derived.Shelf.Strconv.ToErrorRange
import Derived.Shelf.Strconv.AtoiAll
import Derived.Shelf.Strconv.ErrVarAll
import Derived.Shelf.Strings.Search1
import Derived.Shelf.Strings.Search2
import Derived.Shelf.Strings.Search3
import Derived.Shelf.Strings.Count
import Derived.Shelf.Strings.Shaped
import Derived.Shelf.Sort.Plain
import Derived.Shelf.Strings.Prefix
import Derived.Shelf.Strings.Split
import Derived.Shelf.Strings.Replace
import Derived.Shelf.Strings.SplitShaped
import Derived.Shelf.Unicode.Decode
import Derived.Shelf.Strings.RuneCount
import Derived.Shelf.Unicode.DecodeSlow
import Derived.Shelf.Unicode.DecodeAny
import Derived.Shelf.Slices.CompactS
import Derived.Shelf.Slices.Cells
import Derived.Test.YtnahgpjglooclaaGreatDoorProg
namespace Go.Proofs.YtnahgpjglooclaaGreatDoor
open Go.RowKit
structure Ar where
 sh:ByteArray
 f:Rf
 l:Rf
def arA (a:Ar):Array Value:=#[.string a.sh,.string a.f.sh,.int .i64 a.f.c,.int .i64 a.f.r,.bool a.f.ac,.bool a.f.ar,.string a.l.sh,.int .i64 a.l.c,.int .i64 a.l.r,.bool a.l.ac,.bool a.l.ar]
def zAr:Ar:=⟨⟨#[]⟩,Rf.zero,Rf.zero⟩
def encAr:Enc Ar 11:={ f:=fun a=>(arA a).toList,len:=fun _=>rfl,one:=fun a u hu=>by simp only [arA,List.mem_cons,List.not_mem_nil,or_false] at hu;rcases hu with rfl | rfl | rfl | rfl | rfl | rfl | rfl | rfl | rfl | rfl | rfl <;> rfl }
theorem Elem.ar:Elem Tryz.prog 75 103 11 96:=⟨Tryz.underlying75,⟨.agg (arA zAr),by kernel_rfl,rfl⟩,by decide⟩
def ArAt (w:World) (b:Nat) (a:Ar):Prop:=w.heap[b]? = some (.cells (arA a) 103)
theorem ArAt.new (w:World) (a:Ar):ArAt (w.alloc (.cells (arA a) 103)) w.heap.size a:=(Go.MapKept.heap_alloc w _).1
theorem ArAt.lt {w:World} {b:Nat} {a:Ar} (h:ArAt w b a):b<w.heap.size:=(Array.getElem?_eq_some_iff.1 h).1
theorem ArAt.over {w w':World} {b:Nat} {a:Ar} (h:ArAt w b a) (hb:Below w.heap.size w w'):ArAt w' b a:=by unfold ArAt;rw [hb.block b h.lt];exact h
theorem ArAt.cells {w:World} {b:Nat} {a:Ar} (h:ArAt w b a):w.cell? ⟨b,0,none⟩=some (.string a.sh)∧w.cell? ⟨b,1,none⟩=some (.string a.f.sh)∧w.cell? ⟨b,2,none⟩=some (.int .i64 a.f.c)∧w.cell? ⟨b,3,none⟩=some (.int .i64 a.f.r)∧w.cell? ⟨b,4,none⟩=some (.bool a.f.ac)∧w.cell? ⟨b,5,none⟩=some (.bool a.f.ar)∧w.cell? ⟨b,6,none⟩=some (.string a.l.sh)∧w.cell? ⟨b,7,none⟩=some (.int .i64 a.l.c)∧w.cell? ⟨b,8,none⟩=some (.int .i64 a.l.r)∧w.cell? ⟨b,9,none⟩=some (.bool a.l.ac)∧w.cell? ⟨b,10,none⟩=some (.bool a.l.ar) :=
 ⟨by rw [cell_of_row w b 0 _ _ _ h];rfl,by rw [cell_of_row w b 1 _ _ _ h];rfl,by rw [cell_of_row w b 2 _ _ _ h];rfl,by rw [cell_of_row w b 3 _ _ _ h];rfl,by rw [cell_of_row w b 4 _ _ _ h];rfl,by rw [cell_of_row w b 5 _ _ _ h];rfl,by rw [cell_of_row w b 6 _ _ _ h];rfl,by rw [cell_of_row w b 7 _ _ _ h];rfl,by rw [cell_of_row w b 8 _ _ _ h];rfl,by rw [cell_of_row w b 9 _ _ _ h];rfl,by rw [cell_of_row w b 10 _ _ _ h];rfl⟩
theorem below_ar (w:World) (a:Ar):Below w.heap.size w (w.alloc (.cells (arA a) 103)):=(Below.refl _ _).alloc (Nat.le_refl _) _
def ArsR (w:World) (B:Nat) (v:Value) (l:List Ar):Prop:=SE encAr w B v l
theorem ar_at {w:World} {B:Nat} {A:Option Addr} {n cap:Nat} {l:List Ar} (h:ArsR w B (.slice A n cap) l) {i:Nat} {a:Ar} (hi:l[i]? = some a) :
 ∃ pb po,A=some ⟨pb,po,none⟩∧pb<B∧w.cell? ⟨pb,po+i*11,none⟩=some (.string a.sh)∧w.cell? ⟨pb,po+i*11+1,none⟩=some (.string a.f.sh)∧w.cell? ⟨pb,po+i*11+2,none⟩=some (.int .i64 a.f.c)∧w.cell? ⟨pb,po+i*11+3,none⟩=some (.int .i64 a.f.r)∧w.cell? ⟨pb,po+i*11+4,none⟩=some (.bool a.f.ac)∧w.cell? ⟨pb,po+i*11+5,none⟩=some (.bool a.f.ar)∧w.cell? ⟨pb,po+i*11+6,none⟩=some (.string a.l.sh)∧w.cell? ⟨pb,po+i*11+7,none⟩=some (.int .i64 a.l.c)∧w.cell? ⟨pb,po+i*11+8,none⟩=some (.int .i64 a.l.r)∧w.cell? ⟨pb,po+i*11+9,none⟩=some (.bool a.l.ac)∧w.cell? ⟨pb,po+i*11+10,none⟩=some (.bool a.l.ar):=by
 obtain ⟨pb,po,h1,h2,h3⟩:=SE.at h hi
 refine ⟨pb,po,h1,h2, ?_, ?_, ?_, ?_, ?_, ?_, ?_, ?_, ?_, ?_, ?_⟩
 · exact h3 0 _ rfl
 · have:=h3 1 _ rfl;rwa [← Nat.add_assoc] at this
 · have:=h3 2 _ rfl;rwa [← Nat.add_assoc] at this
 · have:=h3 3 _ rfl;rwa [← Nat.add_assoc] at this
 · have:=h3 4 _ rfl;rwa [← Nat.add_assoc] at this
 · have:=h3 5 _ rfl;rwa [← Nat.add_assoc] at this
 · have:=h3 6 _ rfl;rwa [← Nat.add_assoc] at this
 · have:=h3 7 _ rfl;rwa [← Nat.add_assoc] at this
 · have:=h3 8 _ rfl;rwa [← Nat.add_assoc] at this
 · have:=h3 9 _ rfl;rwa [← Nat.add_assoc] at this
 · have:=h3 10 _ rfl;rwa [← Nat.add_assoc] at this
theorem ar_over {w w':World} {B pb q:Nat} {a:Ar} (hb:Below B w w') (hB:pb<B) (h:w.cell? ⟨pb,q,none⟩=some (.string a.sh)∧w.cell? ⟨pb,q+1,none⟩=some (.string a.f.sh)∧w.cell? ⟨pb,q+2,none⟩=some (.int .i64 a.f.c)∧w.cell? ⟨pb,q+3,none⟩=some (.int .i64 a.f.r)∧w.cell? ⟨pb,q+4,none⟩=some (.bool a.f.ac)∧w.cell? ⟨pb,q+5,none⟩=some (.bool a.f.ar)∧w.cell? ⟨pb,q+6,none⟩=some (.string a.l.sh)∧w.cell? ⟨pb,q+7,none⟩=some (.int .i64 a.l.c)∧w.cell? ⟨pb,q+8,none⟩=some (.int .i64 a.l.r)∧w.cell? ⟨pb,q+9,none⟩=some (.bool a.l.ac)∧w.cell? ⟨pb,q+10,none⟩=some (.bool a.l.ar)):w'.cell? ⟨pb,q,none⟩=some (.string a.sh)∧w'.cell? ⟨pb,q+1,none⟩=some (.string a.f.sh)∧w'.cell? ⟨pb,q+2,none⟩=some (.int .i64 a.f.c)∧w'.cell? ⟨pb,q+3,none⟩=some (.int .i64 a.f.r)∧w'.cell? ⟨pb,q+4,none⟩=some (.bool a.f.ac)∧w'.cell? ⟨pb,q+5,none⟩=some (.bool a.f.ar)∧w'.cell? ⟨pb,q+6,none⟩=some (.string a.l.sh)∧w'.cell? ⟨pb,q+7,none⟩=some (.int .i64 a.l.c)∧w'.cell? ⟨pb,q+8,none⟩=some (.int .i64 a.l.r)∧w'.cell? ⟨pb,q+9,none⟩=some (.bool a.l.ac)∧w'.cell? ⟨pb,q+10,none⟩=some (.bool a.l.ar):=by
 obtain ⟨h0,h1,h2,h3,h4,h5,h6,h7,h8,h9,h10⟩:=h
 exact ⟨(hb.cell (p:=⟨pb,q,none⟩) hB).trans h0,(hb.cell (p:=⟨pb,q+1,none⟩) hB).trans h1,(hb.cell (p:=⟨pb,q+2,none⟩) hB).trans h2,(hb.cell (p:=⟨pb,q+3,none⟩) hB).trans h3,(hb.cell (p:=⟨pb,q+4,none⟩) hB).trans h4,(hb.cell (p:=⟨pb,q+5,none⟩) hB).trans h5,(hb.cell (p:=⟨pb,q+6,none⟩) hB).trans h6,(hb.cell (p:=⟨pb,q+7,none⟩) hB).trans h7,(hb.cell (p:=⟨pb,q+8,none⟩) hB).trans h8,(hb.cell (p:=⟨pb,q+9,none⟩) hB).trans h9,(hb.cell (p:=⟨pb,q+10,none⟩) hB).trans h10⟩
def hasR (a:Ar) (r:Int):Bool:=decide (a.f.r≤r∧r≤a.l.r)
def hasC (a:Ar) (c:Int):Bool:=decide (a.f.c≤c∧c≤a.l.c)
set_option maxRecDepth 100000 in
set_option maxHeartbeats 1600000 in
theorem hasRow_any (a:Ar) (r:Int) (w:World):Calls Tryz.prog 71 #[.agg #[.string a.sh,.string a.f.sh,.int .i64 a.f.c,.int .i64 a.f.r,.bool a.f.ac,.bool a.f.ar,.string a.l.sh,.int .i64 a.l.c,.int .i64 a.l.r,.bool a.l.ac,.bool a.l.ar],.int .i64 r] w fun e w'=>e = .returned (.bool (hasR a r))∧Below w.heap.size w w':=by
 have HB:=Lib.hid (below_ar w a)
 by_cases h1:a.f.r≤r
 · by_cases h2:r≤a.l.r
   · have HP:=Lib.hid (show hasR a r=true from decide_eq_true ⟨h1,h2⟩)
     go_enter Tryz.func71,Tryz.ntmps71
     go_wp2_with fail
     all_goals go_ret
     all_goals exact ⟨by rw [HP.out];first | rfl | simp [h1,h2],HB.out⟩
   · have HP:=Lib.hid (show hasR a r=false from decide_eq_false (fun h=>h2 h.2))
     go_enter Tryz.func71,Tryz.ntmps71
     go_wp2_with fail
     all_goals go_ret
     all_goals exact ⟨by rw [HP.out];first | rfl | simp [h1,h2],HB.out⟩
 · have HP:=Lib.hid (show hasR a r=false from decide_eq_false (fun h=>h1 h.1))
   go_enter Tryz.func71,Tryz.ntmps71
   go_wp2_with fail
   all_goals go_ret
   all_goals exact ⟨by rw [HP.out];first | rfl | simp [h1],HB.out⟩
set_option maxRecDepth 100000 in
set_option maxHeartbeats 1600000 in
theorem hasCol_any (a:Ar) (r:Int) (w:World):Calls Tryz.prog 53 #[.agg #[.string a.sh,.string a.f.sh,.int .i64 a.f.c,.int .i64 a.f.r,.bool a.f.ac,.bool a.f.ar,.string a.l.sh,.int .i64 a.l.c,.int .i64 a.l.r,.bool a.l.ac,.bool a.l.ar],.int .i64 r] w fun e w'=>e = .returned (.bool (hasC a r))∧Below w.heap.size w w':=by
 have HB:=Lib.hid (below_ar w a)
 by_cases h1:a.f.c≤r
 · by_cases h2:r≤a.l.c
   · have HP:=Lib.hid (show hasC a r=true from decide_eq_true ⟨h1,h2⟩)
     go_enter Tryz.func53,Tryz.ntmps53
     go_wp2_with fail
     all_goals go_ret
     all_goals exact ⟨by rw [HP.out];first | rfl | simp [h1,h2],HB.out⟩
   · have HP:=Lib.hid (show hasC a r=false from decide_eq_false (fun h=>h2 h.2))
     go_enter Tryz.func53,Tryz.ntmps53
     go_wp2_with fail
     all_goals go_ret
     all_goals exact ⟨by rw [HP.out];first | rfl | simp [h1,h2],HB.out⟩
 · have HP:=Lib.hid (show hasC a r=false from decide_eq_false (fun h=>h1 h.1))
   go_enter Tryz.func53,Tryz.ntmps53
   go_wp2_with fail
   all_goals go_ret
   all_goals exact ⟨by rw [HP.out];first | rfl | simp [h1],HB.out⟩
theorem cell_ovr (w:World) (o:Obj) (a:Addr) {u:Value} (h:w.cell? a=some u):(w.alloc o).cell? a=some u:=by
 have hl:a.block<w.heap.size:=by
  unfold World.cell? at h
  cases h2:w.heap[a.block]? with
  | none=>rw [h2] at h;cases h
  | some x=>exact (Array.getElem?_eq_some_iff.1 h2).1
 exact (((Below.refl w.heap.size w).alloc (Nat.le_refl _) o).cell (p:=a) hl).trans h
set_option maxRecDepth 100000 in
set_option maxHeartbeats 1600000 in
theorem overF_any (a:Ar) (r:Int) (w:World) (b:Nat) (hb:w.cell? ⟨b,0,none⟩=some (.int .i64 r)):Calls Tryz.prog 70 #[.agg #[.string a.sh,.string a.f.sh,.int .i64 a.f.c,.int .i64 a.f.r,.bool a.f.ac,.bool a.f.ar,.string a.l.sh,.int .i64 a.l.c,.int .i64 a.l.r,.bool a.l.ac,.bool a.l.ar],.pointer (some ⟨b,0,none⟩)] w fun e w'=>e = .returned (.bool (hasR a r))∧Below w.heap.size w w':=by
 have HB:=Lib.hid (below_ar w a)
 have hb1:(w.alloc (.cells (arA a) 103)).cell? ⟨b,0,none⟩=some (.int .i64 r):=cell_ovr w _ _ hb
 have HA:=(ArAt.new w a).cells
 obtain ⟨x0,x1,x2,x3,x4,x5,x6,x7,x8,x9,x10⟩:=HA
 have HH:=Lib.hid (fun w2:World=>hasRow_any a r w2)
 go_enter Tryz.func70,Tryz.ntmps70
 go_upto_region 1 with (fail)
 generalize hz:w.heap.size=z at x0 x1 x2 x3 x4 x5 x6 x7 x8 x9 x10 ⊢
 obtain ⟨w1,hw1⟩:∃ w1,w.alloc (.cells (arA a) 103)=w1:=⟨_,rfl⟩
 rw [show w.alloc (.cells #[.string a.sh,.string a.f.sh,.int .i64 a.f.c,.int .i64 a.f.r,.bool a.f.ac,.bool a.f.ar,.string a.l.sh,.int .i64 a.l.c,.int .i64 a.l.r,.bool a.l.ac,.bool a.l.ar] 103)=w1 from hw1]
 rw [hw1] at HB hb1 x0 x1 x2 x3 x4 x5 x6 x7 x8 x9 x10
 clear hw1 hb hz
 go_wp2_with (go_at_call 71;((with_reducible refine (HH.out _).mono ?_);rintro e w2 ⟨rfl,h1⟩;have H2:=Lib.hid (HB.out.trans (h1.mono HB.out.size));clear h1))
 go_ret
 exact ⟨rfl,H2.out⟩
set_option maxRecDepth 100000 in
set_option maxHeartbeats 1600000 in
theorem cellsF_any (a:Ar) (r:Int) (w:World) (b:Nat) (hb:w.cell? ⟨b,0,none⟩=some (.int .i64 r)):Calls Tryz.prog 52 #[.agg #[.string a.sh,.string a.f.sh,.int .i64 a.f.c,.int .i64 a.f.r,.bool a.f.ac,.bool a.f.ar,.string a.l.sh,.int .i64 a.l.c,.int .i64 a.l.r,.bool a.l.ac,.bool a.l.ar],.pointer (some ⟨b,0,none⟩)] w fun e w'=>e = .returned (.bool (hasC a r))∧Below w.heap.size w w':=by
 have HB:=Lib.hid (below_ar w a)
 have hb1:(w.alloc (.cells (arA a) 103)).cell? ⟨b,0,none⟩=some (.int .i64 r):=cell_ovr w _ _ hb
 have HA:=(ArAt.new w a).cells
 obtain ⟨x0,x1,x2,x3,x4,x5,x6,x7,x8,x9,x10⟩:=HA
 have HH:=Lib.hid (fun w2:World=>hasCol_any a r w2)
 go_enter Tryz.func52,Tryz.ntmps52
 go_upto_region 1 with (fail)
 generalize hz:w.heap.size=z at x0 x1 x2 x3 x4 x5 x6 x7 x8 x9 x10 ⊢
 obtain ⟨w1,hw1⟩:∃ w1,w.alloc (.cells (arA a) 103)=w1:=⟨_,rfl⟩
 rw [show w.alloc (.cells #[.string a.sh,.string a.f.sh,.int .i64 a.f.c,.int .i64 a.f.r,.bool a.f.ac,.bool a.f.ar,.string a.l.sh,.int .i64 a.l.c,.int .i64 a.l.r,.bool a.l.ac,.bool a.l.ar] 103)=w1 from hw1]
 rw [hw1] at HB hb1 x0 x1 x2 x3 x4 x5 x6 x7 x8 x9 x10
 clear hw1 hb hz
 go_wp2_with (go_at_call 53;((with_reducible refine (HH.out _).mono ?_);rintro e w2 ⟨rfl,h1⟩;have H2:=Lib.hid (HB.out.trans (h1.mono HB.out.size));clear h1))
 go_ret
 exact ⟨rfl,H2.out⟩
set_option maxRecDepth 100000 in
set_option maxHeartbeats 1600000 in
theorem onF_any (a:Ar) (s:ByteArray) (w:World) (b:Nat) (hb:w.cell? ⟨b,0,none⟩=some (.string s)):Calls Tryz.prog 47 #[.agg #[.string a.sh,.string a.f.sh,.int .i64 a.f.c,.int .i64 a.f.r,.bool a.f.ac,.bool a.f.ar,.string a.l.sh,.int .i64 a.l.c,.int .i64 a.l.r,.bool a.l.ac,.bool a.l.ar],.pointer (some ⟨b,0,none⟩)] w fun e w'=>e = .returned (.bool (decide (a.sh=s)))∧Below w.heap.size w w':=by
 have HB:=Lib.hid (below_ar w a)
 have hb1:(w.alloc (.cells (arA a) 103)).cell? ⟨b,0,none⟩=some (.string s):=cell_ovr w _ _ hb
 unfold arA at hb1
 go_enter Tryz.func47,Tryz.ntmps47
 go_wp2_with fail
 all_goals go_ret
 all_goals exact ⟨by first | rfl | (rw [tl_eq];rfl),HB.out⟩
theorem all_set1 {α : Type} (E:Enc α 1) (xs:List α) (i:Nat) (x : α) (u:Value) (hu:E.f x=[u]):E.all (xs.set i x)=(E.all xs).set i u:=by
 unfold Enc.all
 induction xs generalizing i with
 | nil=>rfl
 | cons a t ih =>
   obtain ⟨v,hv⟩:=List.length_eq_one_iff.1 (E.len a)
   cases i with
   | zero=>rw [List.set_cons_zero,List.flatMap_cons,List.flatMap_cons,hu,hv];rfl
   | succ i=>rw [List.set_cons_succ,List.flatMap_cons,List.flatMap_cons,ih,hv];rfl
theorem filter_take {α : Type} (p : α → Bool) (l:List α) (i:Nat) (a : α) (h:l[i]? = some a):(l.take (i+1)).filter p=(l.take i).filter p++(if p a=true then [a] else []):=by
 rw [List.take_add_one,h,List.filter_append]
 congr 1
 show List.filter p [a]=_
 by_cases hp:p a=true
 · rw [if_pos hp];simp [hp]
 · rw [if_neg hp];simp [hp]
theorem filter_le {α : Type} (p : α → Bool) (l:List α) (i:Nat):((l.take i).filter p).length≤i:=by
 have h1:=List.length_filter_le p (l.take i)
 rw [List.length_take] at h1;omega
set_option maxRecDepth 100000 in
set_option maxHeartbeats 4000000 in
theorem those_on (w:World) (A:Option Addr) (n cap:Nat) (l:List Ar) (s:ByteArray) (b:Nat) (h:ArsR w w.heap.size (.slice A n cap) l) (hn:n≤1000) (hb:w.cell? ⟨b,0,none⟩=some (.string s)) (hbl:b<w.heap.size) :
 Calls Tryz.prog 46 #[.slice A n cap,.func (.func 47) #[] #[.pointer (some ⟨b,0,none⟩)]] w fun e w'=>Below w.heap.size w w'∧∃ v,e = .returned v∧Own encAr 103 w' w.heap.size v (l.filter fun a=>decide (a.sh=s)):=by
 have HL:=Lib.hid h.len.1
 have HX:=Lib.hid h;have HC:=Lib.hid hb;have HCL:=Lib.hid hbl
 clear h hb hbl
 go_enter Tryz.func46,Tryz.ntmps46
 go_upto_region 3 with (fail)
 go_loopw [5,10] (fun lv iv wr=>∃ (i:Nat) (v:Value),i≤n∧v=lv∧iv = .int .i64 (i:Int)∧Hid (Own encAr 103 wr w.heap.size v ((l.take i).filter fun a=>decide (a.sh=s)))∧Hid (Below w.heap.size w wr))
  (fun _ iv _=>n - (intOf iv).toNat)
 case atStart=>exact ⟨0,_,Nat.zero_le _,rfl,rfl,Lib.hid (Own.nil _ _ _ _),Lib.hid (Below.refl _ _)⟩
 case round =>
  obtain ⟨i,v,hi,rfl,rfl,HO,HR⟩:=hrel
  by_cases hlt:i<n
  · have hii:(i:Int)<(n:Int):=by omega
    have hi0:(0:Int)≤(i:Int):=by omega
    obtain ⟨a,ha⟩:∃ a,l[i]? = some a:=⟨_,List.getElem?_eq_getElem (by rw [HL.out];exact hlt)⟩
    obtain ⟨pb,po,rfl,hpb,hat⟩:=ar_at HX.out ha
    obtain ⟨x0,x1,x2,x3,x4,x5,x6,x7,x8,x9,x10⟩:=ar_over HR.out hpb hat
    have HBD:=Lib.hid (filter_le (fun a:Ar=>decide (a.sh=s)) l i)
    have HFT:=Lib.hid (filter_take (fun a:Ar=>decide (a.sh=s)) l i a ha)
    clear hat ha hpb
    have HB3:=Lib.hid (HR.out.trans ((below_ar wr a).mono HR.out.size))
    have HA3:=Lib.hid (ArAt.new wr a)
    have HO3:=Lib.hid (HO.out.below (below_ar wr a) (Nat.le_refl _))
    go_upto_region 5 with (fail)
    clear x0 x1 x2 x3 x4 x5 x6 x7 x8 x9 x10
    generalize hz:wr.heap.size=z at HA3 ⊢
    obtain ⟨w3,hw3⟩:∃ w3,wr.alloc (.cells (arA a) 103)=w3:=⟨_,rfl⟩
    rw [show wr.alloc (.cells #[.string a.sh,.string a.f.sh,.int .i64 a.f.c,.int .i64 a.f.r,.bool a.f.ac,.bool a.f.ar,.string a.l.sh,.int .i64 a.l.c,.int .i64 a.l.r,.bool a.l.ac,.bool a.l.ar] 103)=w3 from hw3]
    rw [hw3] at HB3 HA3 HO3
    obtain ⟨y0,y1,y2,y3,y4,y5,y6,y7,y8,y9,y10⟩:=HA3.out.cells
    have HF:=Lib.hid (onF_any a s w3 b ((HB3.out.cell (p:=⟨b,0,none⟩) HCL.out).trans HC.out))
    clear hw3 hz HO HR
    by_cases hp:(decide (a.sh=s))=true
    · rw [hp] at HF
      rw [if_pos hp] at HFT
      clear hp
      go_wp2_with (first
       | (go_at_call 47;((with_reducible refine HF.out.mono ?_);rintro e w4 ⟨rfl,h1⟩;have HB4:=Lib.hid (HB3.out.trans (h1.mono HB3.out.size));have HO4:=Lib.hid (HO3.out.below h1 (Nat.le_refl _));obtain ⟨z0,z1,z2,z3,z4,z5,z6,z7,z8,z9,z10⟩:=(HA3.out.over h1).cells;clear h1 y0 y1 y2 y3 y4 y5 y6 y7 y8 y9 y10))
       | (at_builtin;refine wpList_app Elem.ar encAr rfl (.tmp 17) (.tmp 19) rfl w.heap.size v _ rfl (HO4.out.below (below_ar w4 a) (Nat.le_refl _)) ⟨_,0,none⟩ 1 1 [a] rfl rfl ?_ ?_ ?_ ?_ ?_;exact cells_new _ _ _ rfl;(have:=HBD.out;omega);(have:=HBD.out;unfold maxLen;omega);(have h1:=(below_ar w4 a).size;have h2:=HB4.out.size;unfold arA at h1;omega);intro v5 w5 h1 h2;have HO5:=Lib.hid h1;have HB5:=Lib.hid (HB4.out.trans (((below_ar w4 a).mono HB4.out.size).trans h2));clear h1 h2))
      go_roundw
      case rel=>exact ⟨i+1,_,by omega,rfl,by go_num,Lib.hid (by rw [HFT.out];exact HO5.out),HB5⟩
      case measure=>simp [intOf];omega
    · have hp2:=eq_false_of_ne_true hp
      rw [hp2] at HF
      rw [if_neg hp,List.append_nil] at HFT
      clear hp hp2
      go_wp2_with (first
       | (go_at_call 47;((with_reducible refine HF.out.mono ?_);rintro e w4 ⟨rfl,h1⟩;have HB4:=Lib.hid (HB3.out.trans (h1.mono HB3.out.size));have HO4:=Lib.hid (HO3.out.below h1 (Nat.le_refl _));clear h1)))
      go_roundw
      case rel=>exact ⟨i+1,_,by omega,rfl,by go_num,Lib.hid (by rw [HFT.out];exact HO4.out),HB4⟩
      case measure=>simp [intOf];omega
  · have hii:¬ (i:Int)<(n:Int):=by omega
    have hin:i=n:=by omega
    subst hin
    have HE:=Lib.hid (show l.take i=l from List.take_of_length_le (by rw [HL.out];omega))
    go_wp2_with fail
    go_ret
    exact ⟨HR.out,_,rfl,by have h:=HO.out;rw [HE.out] at h;exact h⟩
set_option maxRecDepth 100000 in
set_option maxHeartbeats 4000000 in
theorem those_over (w:World) (A:Option Addr) (n cap:Nat) (l:List Ar) (s:Int) (b:Nat) (h:ArsR w w.heap.size (.slice A n cap) l) (hn:n≤1000) (hb:w.cell? ⟨b,0,none⟩=some (.int .i64 s)) (hbl:b<w.heap.size) :
 Calls Tryz.prog 46 #[.slice A n cap,.func (.func 70) #[] #[.pointer (some ⟨b,0,none⟩)]] w fun e w'=>Below w.heap.size w w'∧∃ v,e = .returned v∧Own encAr 103 w' w.heap.size v (l.filter fun a=>hasR a s):=by
 have HL:=Lib.hid h.len.1
 have HX:=Lib.hid h;have HC:=Lib.hid hb;have HCL:=Lib.hid hbl
 clear h hb hbl
 go_enter Tryz.func46,Tryz.ntmps46
 go_upto_region 3 with (fail)
 go_loopw [5,10] (fun lv iv wr=>∃ (i:Nat) (v:Value),i≤n∧v=lv∧iv = .int .i64 (i:Int)∧Hid (Own encAr 103 wr w.heap.size v ((l.take i).filter fun a=>hasR a s))∧Hid (Below w.heap.size w wr))
  (fun _ iv _=>n - (intOf iv).toNat)
 case atStart=>exact ⟨0,_,Nat.zero_le _,rfl,rfl,Lib.hid (Own.nil _ _ _ _),Lib.hid (Below.refl _ _)⟩
 case round =>
  obtain ⟨i,v,hi,rfl,rfl,HO,HR⟩:=hrel
  by_cases hlt:i<n
  · have hii:(i:Int)<(n:Int):=by omega
    have hi0:(0:Int)≤(i:Int):=by omega
    obtain ⟨a,ha⟩:∃ a,l[i]? = some a:=⟨_,List.getElem?_eq_getElem (by rw [HL.out];exact hlt)⟩
    obtain ⟨pb,po,rfl,hpb,hat⟩:=ar_at HX.out ha
    obtain ⟨x0,x1,x2,x3,x4,x5,x6,x7,x8,x9,x10⟩:=ar_over HR.out hpb hat
    have HBD:=Lib.hid (filter_le (fun a:Ar=>hasR a s) l i)
    have HFT:=Lib.hid (filter_take (fun a:Ar=>hasR a s) l i a ha)
    clear hat ha hpb
    have HB3:=Lib.hid (HR.out.trans ((below_ar wr a).mono HR.out.size))
    have HA3:=Lib.hid (ArAt.new wr a)
    have HO3:=Lib.hid (HO.out.below (below_ar wr a) (Nat.le_refl _))
    go_upto_region 5 with (fail)
    clear x0 x1 x2 x3 x4 x5 x6 x7 x8 x9 x10
    generalize hz:wr.heap.size=z at HA3 ⊢
    obtain ⟨w3,hw3⟩:∃ w3,wr.alloc (.cells (arA a) 103)=w3:=⟨_,rfl⟩
    rw [show wr.alloc (.cells #[.string a.sh,.string a.f.sh,.int .i64 a.f.c,.int .i64 a.f.r,.bool a.f.ac,.bool a.f.ar,.string a.l.sh,.int .i64 a.l.c,.int .i64 a.l.r,.bool a.l.ac,.bool a.l.ar] 103)=w3 from hw3]
    rw [hw3] at HB3 HA3 HO3
    obtain ⟨y0,y1,y2,y3,y4,y5,y6,y7,y8,y9,y10⟩:=HA3.out.cells
    have HF:=Lib.hid (overF_any a s w3 b ((HB3.out.cell (p:=⟨b,0,none⟩) HCL.out).trans HC.out))
    clear hw3 hz HO HR
    by_cases hp:(hasR a s)=true
    · rw [hp] at HF
      rw [if_pos hp] at HFT
      clear hp
      go_wp2_with (first
       | (go_at_call 70;((with_reducible refine HF.out.mono ?_);rintro e w4 ⟨rfl,h1⟩;have HB4:=Lib.hid (HB3.out.trans (h1.mono HB3.out.size));have HO4:=Lib.hid (HO3.out.below h1 (Nat.le_refl _));obtain ⟨z0,z1,z2,z3,z4,z5,z6,z7,z8,z9,z10⟩:=(HA3.out.over h1).cells;clear h1 y0 y1 y2 y3 y4 y5 y6 y7 y8 y9 y10))
       | (at_builtin;refine wpList_app Elem.ar encAr rfl (.tmp 17) (.tmp 19) rfl w.heap.size v _ rfl (HO4.out.below (below_ar w4 a) (Nat.le_refl _)) ⟨_,0,none⟩ 1 1 [a] rfl rfl ?_ ?_ ?_ ?_ ?_;exact cells_new _ _ _ rfl;(have:=HBD.out;omega);(have:=HBD.out;unfold maxLen;omega);(have h1:=(below_ar w4 a).size;have h2:=HB4.out.size;unfold arA at h1;omega);intro v5 w5 h1 h2;have HO5:=Lib.hid h1;have HB5:=Lib.hid (HB4.out.trans (((below_ar w4 a).mono HB4.out.size).trans h2));clear h1 h2))
      go_roundw
      case rel=>exact ⟨i+1,_,by omega,rfl,by go_num,Lib.hid (by rw [HFT.out];exact HO5.out),HB5⟩
      case measure=>simp [intOf];omega
    · have hp2:=eq_false_of_ne_true hp
      rw [hp2] at HF
      rw [if_neg hp,List.append_nil] at HFT
      clear hp hp2
      go_wp2_with (first
       | (go_at_call 70;((with_reducible refine HF.out.mono ?_);rintro e w4 ⟨rfl,h1⟩;have HB4:=Lib.hid (HB3.out.trans (h1.mono HB3.out.size));have HO4:=Lib.hid (HO3.out.below h1 (Nat.le_refl _));clear h1)))
      go_roundw
      case rel=>exact ⟨i+1,_,by omega,rfl,by go_num,Lib.hid (by rw [HFT.out];exact HO4.out),HB4⟩
      case measure=>simp [intOf];omega
  · have hii:¬ (i:Int)<(n:Int):=by omega
    have hin:i=n:=by omega
    subst hin
    have HE:=Lib.hid (show l.take i=l from List.take_of_length_le (by rw [HL.out];omega))
    go_wp2_with fail
    go_ret
    exact ⟨HR.out,_,rfl,by have h:=HO.out;rw [HE.out] at h;exact h⟩
set_option maxRecDepth 100000 in
set_option maxHeartbeats 1600000 in
theorem on_any (w:World) (A:Option Addr) (n cap:Nat) (l:List Ar) (s:ByteArray) (h:ArsR w w.heap.size (.slice A n cap) l) (hn:n≤1000) :
 Calls Tryz.prog 29 #[.slice A n cap,.string s] w fun e w'=>Below w.heap.size w w'∧∃ v,e = .returned v∧Own encAr 103 w' w.heap.size v (l.filter fun a=>decide (a.sh=s)):=by
 have HB:=Lib.hid (show Below w.heap.size w (w.alloc (.cells #[.string s] 9)) from (Below.refl _ _).alloc (Nat.le_refl _) _)
 have hc:(w.alloc (.cells #[.string s] 9)).cell? ⟨w.heap.size,0,none⟩=some (.string s):=by rw [World.cell?_alloc_new];rfl
 have HT:=Lib.hid (those_on (w.alloc (.cells #[.string s] 9)) A n cap l s w.heap.size (SE.lift h HB.out) hn hc (by rw [World.size_alloc];omega))
 clear h hc
 go_enter Tryz.func29,Tryz.ntmps29
 go_wp2_with (go_at_call 46;((with_reducible refine HT.out.mono ?_);rintro e w2 ⟨h1,v,rfl,h2⟩;have H2:=Lib.hid (HB.out.trans (h1.mono HB.out.size));have HO:=Lib.hid (h2.mono HB.out.size);clear h1 h2))
 go_ret
 exact ⟨H2.out,_,rfl,HO.out⟩
set_option maxRecDepth 100000 in
set_option maxHeartbeats 1600000 in
theorem over_any (w:World) (A:Option Addr) (n cap:Nat) (l:List Ar) (s:Int) (h:ArsR w w.heap.size (.slice A n cap) l) (hn:n≤1000) :
 Calls Tryz.prog 49 #[.slice A n cap,.int .i64 s] w fun e w'=>Below w.heap.size w w'∧∃ v,e = .returned v∧Own encAr 103 w' w.heap.size v (l.filter fun a=>hasR a s):=by
 have HB:=Lib.hid (show Below w.heap.size w (w.alloc (.cells #[.int .i64 s] 3)) from (Below.refl _ _).alloc (Nat.le_refl _) _)
 have hc:(w.alloc (.cells #[.int .i64 s] 3)).cell? ⟨w.heap.size,0,none⟩=some (.int .i64 s):=by rw [World.cell?_alloc_new];rfl
 have HT:=Lib.hid (those_over (w.alloc (.cells #[.int .i64 s] 3)) A n cap l s w.heap.size (SE.lift h HB.out) hn hc (by rw [World.size_alloc];omega))
 clear h hc
 go_enter Tryz.func49,Tryz.ntmps49
 go_wp2_with (go_at_call 46;((with_reducible refine HT.out.mono ?_);rintro e w2 ⟨h1,v,rfl,h2⟩;have H2:=Lib.hid (HB.out.trans (h1.mono HB.out.size));have HO:=Lib.hid (h2.mono HB.out.size);clear h1 h2))
 go_ret
 exact ⟨H2.out,_,rfl,HO.out⟩
theorem any_take {α : Type} (p : α → Bool) (l:List α) (i:Nat) (a : α) (h:l[i]? = some a):(l.take (i+1)).any p=((l.take i).any p||p a):=by
 rw [List.take_add_one,h,List.any_append];simp
set_option maxRecDepth 100000 in
set_option maxHeartbeats 4000000 in
theorem indexA_any (w:World) (A:Option Addr) (n cap:Nat) (l:List Ar) (s:Int) (b:Nat) (h:ArsR w w.heap.size (.slice A n cap) l) (hn:n≤1000) (hb:w.cell? ⟨b,0,none⟩=some (.int .i64 s)) (hbl:b<w.heap.size) :
 Calls Tryz.prog 72 #[.slice A n cap,.func (.func 52) #[] #[.pointer (some ⟨b,0,none⟩)]] w fun e w'=>Below w.heap.size w w'∧∃ k:Int,e = .returned (.int .i64 k)∧decide (0≤k)=l.any fun a=>hasC a s:=by
 have HL:=Lib.hid h.len.1
 have HX:=Lib.hid h;have HC:=Lib.hid hb;have HCL:=Lib.hid hbl
 clear h hb hbl
 go_enter Tryz.func72,Tryz.ntmps72
 go_upto_region 2 with (fail)
 go_loopw [8] (fun iv wr=>∃ i:Nat,i≤n∧iv = .int .i64 (i:Int)∧Hid ((l.take i).any (fun a=>hasC a s)=false)∧Hid (Below w.heap.size w wr))
  (fun iv _=>n - (intOf iv).toNat)
 case atStart=>exact ⟨0,Nat.zero_le _,rfl,Lib.hid rfl,Lib.hid (Below.refl _ _)⟩
 case round =>
  obtain ⟨i,hi,rfl,HT,HR⟩:=hrel
  by_cases hlt:i<n
  · have hii:(i:Int)<(n:Int):=by omega
    have hi0:(0:Int)≤(i:Int):=by omega
    obtain ⟨a,ha⟩:∃ a,l[i]? = some a:=⟨_,List.getElem?_eq_getElem (by rw [HL.out];exact hlt)⟩
    obtain ⟨pb,po,rfl,hpb,hat⟩:=ar_at HX.out ha
    obtain ⟨x0,x1,x2,x3,x4,x5,x6,x7,x8,x9,x10⟩:=ar_over HR.out hpb hat
    have HAT:=Lib.hid (any_take (fun a:Ar=>hasC a s) l i a ha)
    have HM:=Lib.hid (List.mem_of_getElem? ha)
    clear hat ha hpb
    have HF:=Lib.hid (cellsF_any a s wr b ((HR.out.cell (p:=⟨b,0,none⟩) HCL.out).trans HC.out))
    by_cases hp:hasC a s=true
    · rw [hp] at HF
      have HP:=Lib.hid (show (l.any fun a=>hasC a s)=true from List.any_eq_true.2 ⟨a,HM.out,hp⟩)
      clear hp
      go_wp2_with (go_at_call 52;((with_reducible refine HF.out.mono ?_);rintro e w2 ⟨rfl,h1⟩;have H2:=Lib.hid (HR.out.trans (h1.mono HR.out.size));clear h1))
      go_ret
      exact ⟨H2.out,_,rfl,by rw [HP.out];exact decide_eq_true hi0⟩
    · have hp2:=eq_false_of_ne_true hp
      rw [hp2] at HF
      have HQ:=Lib.hid (show (l.take (i+1)).any (fun a=>hasC a s)=false by rw [HAT.out,HT.out,hp2];rfl)
      clear hp hp2
      go_wp2_with (go_at_call 52;((with_reducible refine HF.out.mono ?_);rintro e w2 ⟨rfl,h1⟩;have H2:=Lib.hid (HR.out.trans (h1.mono HR.out.size));clear h1))
      go_roundw
      case rel=>exact ⟨i+1,by omega,by go_num,HQ,H2⟩
      case measure=>simp [intOf];omega
  · have hii:¬ (i:Int)<(n:Int):=by omega
    have HE:=Lib.hid (show (l.any fun a=>hasC a s)=false by have h:=HT.out;rw [List.take_of_length_le (by rw [HL.out];omega)] at h;exact h)
    go_wp2_with fail
    go_ret
    exact ⟨HR.out,_,rfl,by rw [HE.out];rfl⟩
set_option maxRecDepth 100000 in
set_option maxHeartbeats 1600000 in
theorem contains_any (w:World) (A:Option Addr) (n cap:Nat) (l:List Ar) (s:Int) (b:Nat) (h:ArsR w w.heap.size (.slice A n cap) l) (hn:n≤1000) (hb:w.cell? ⟨b,0,none⟩=some (.int .i64 s)) (hbl:b<w.heap.size) (q:Bool) (hq:(l.any fun a=>hasC a s)=q) :
 Calls Tryz.prog 51 #[.slice A n cap,.func (.func 52) #[] #[.pointer (some ⟨b,0,none⟩)]] w fun e w'=>Below w.heap.size w w'∧e = .returned (.bool q):=by
 have HI:=Lib.hid (indexA_any w A n cap l s b h hn hb hbl)
 rw [hq] at HI
 clear h hb hbl hq
 go_enter Tryz.func51,Tryz.ntmps51
 go_wp2_with (go_at_call 72;((with_reducible refine HI.out.mono ?_);rintro e w2 ⟨h1,k,rfl,h2⟩;have H2:=Lib.hid h1;have HK:=Lib.hid h2;clear h1 h2))
 all_goals go_ret
 all_goals exact ⟨H2.out,by rw [← HK.out];first | rfl | simp_all⟩
theorem cut_firstR (A:Option Addr) (n cap m:Nat) (hm:m≤cap) (wq:World) (h0:A=none→m=0) :
 (Instr.slice 22 (.slice A n cap) none (some (.int .i64 (m:Int))) none).run Tryz.prog wq = .ok (.slice A m cap) wq:=by
 have e3:(Tryz.prog.info? 26).map (·.size)=some 1:=by kernel_rfl
 cases hq:Tryz.prog.info? 26 with
 | none=>rw [hq] at e3;cases e3
 | some i =>
   cases A with
   | none =>
     obtain rfl:m=0:=h0 rfl
     simp [Instr.slice,run_underlying Tryz.underlying22,Instr.sliceBounds,Instr.sliceBound,asIntOf,sizeOf,typeInfo,hq,go_sem]
   | some ad=>simp [Instr.slice,run_underlying Tryz.underlying22,Instr.sliceBounds,Instr.sliceBound,asIntOf,sizeOf,typeInfo,hq,hm,go_sem]
set_option maxRecDepth 100000 in
set_option maxHeartbeats 1600000 in
theorem upToR_any (w:World) (A:Option Addr) (n cap m:Nat) (hn:n≤cap) (h0:A=none→n=0) (hm:n≤m+1) (hmm:m≤1000):Calls Tryz.prog 48 #[.slice A n cap,.int .i64 (m:Int)] w fun e w'=>e = .returned (.slice A n cap)∧w=w':=by
 have HS:=Lib.hid (cut_firstR A n cap n hn · h0)
 have h1:min (n:Int) ((m:Int)+1)=(n:Int):=by omega
 have h2:IntKind.i64.wrap ((m:Int)+1)=(m:Int)+1:=by rw [IntKind.wrap_i64];omega
 go_enter Tryz.func48,Tryz.ntmps48
 go_wp2_with fail
 go_ret
 exact ⟨rfl,rfl⟩
theorem cut_firstT (A:Option Addr) (n cap m:Nat) (hm:m≤cap) (wq:World) (h0:A=none→m=0) :
 (Instr.slice 26 (.slice A n cap) none (some (.int .i64 (m:Int))) none).run Tryz.prog wq = .ok (.slice A m cap) wq:=by
 have e3:(Tryz.prog.info? 9).map (·.size)=some 1:=by kernel_rfl
 cases hq:Tryz.prog.info? 9 with
 | none=>rw [hq] at e3;cases e3
 | some i =>
   cases A with
   | none =>
     obtain rfl:m=0:=h0 rfl
     simp [Instr.slice,run_underlying Tryz.underlying26,Instr.sliceBounds,Instr.sliceBound,asIntOf,sizeOf,typeInfo,hq,go_sem]
   | some ad=>simp [Instr.slice,run_underlying Tryz.underlying26,Instr.sliceBounds,Instr.sliceBound,asIntOf,sizeOf,typeInfo,hq,hm,go_sem]
set_option maxRecDepth 100000 in
set_option maxHeartbeats 1600000 in
theorem upToT_any (w:World) (A:Option Addr) (n cap m:Nat) (hn:n≤cap) (h0:A=none→n=0) (hm:n≤m+1) (hmm:m≤1000):Calls Tryz.prog 50 #[.slice A n cap,.int .i64 (m:Int)] w fun e w'=>e = .returned (.slice A n cap)∧w=w':=by
 have HS:=Lib.hid (cut_firstT A n cap n hn · h0)
 have h1:min (n:Int) ((m:Int)+1)=(n:Int):=by omega
 have h2:IntKind.i64.wrap ((m:Int)+1)=(m:Int)+1:=by rw [IntKind.wrap_i64];omega
 go_enter Tryz.func50,Tryz.ntmps50
 go_wp2_with fail
 go_ret
 exact ⟨rfl,rfl⟩
structure Spt where
 nm:ByteArray
 r:Nat
 c:Nat
def encSp:Enc Spt 3:={ f:=fun s=>[.string s.nm,.int .i64 (s.r:Int),.int .i64 (s.c:Int)],len:=fun _=>rfl,one:=fun s u hu=>by simp only [List.mem_cons,List.not_mem_nil,or_false] at hu;rcases hu with rfl | rfl | rfl <;> rfl }
theorem Elem.spt:Elem Tryz.prog 27 35 3 32:=⟨Tryz.underlying27,⟨.agg #[.string ⟨#[]⟩,.int .i64 0,.int .i64 0],by kernel_rfl,rfl⟩,by decide⟩
theorem below_sh (w:World) (nm:ByteArray) (c:Int) (v:Value):Below w.heap.size w (w.alloc (.cells #[.string nm,.int .i64 c,v] 24)):=(Below.refl _ _).alloc (Nat.le_refl _) _
theorem below_bk (w:World) (v:Value):Below w.heap.size w (w.alloc (.cells #[v] 32)):=(Below.refl _ _).alloc (Nat.le_refl _) _
set_option maxRecDepth 100000 in
set_option maxHeartbeats 1600000 in
theorem wanted_any (nm t:ByteArray) (c:Int) (v:Value) (w:World):Calls Tryz.prog 45 #[.string nm,.agg #[.string t,.int .i64 c,v]] w fun e w'=>e = .returned (.bool (decide (t=nm)))∧Below w.heap.size w w':=by
 have HB:=Lib.hid (below_sh w t c v)
 go_enter Tryz.func45,Tryz.ntmps45
 go_wp2_with fail
 all_goals go_ret
 all_goals exact ⟨by first | rfl | (rw [tl_eq];rfl),HB.out⟩
def First (shs:List Sv) (nm:ByteArray) (i:Nat) (s:Sv):Prop:=shs[i]? = some s∧s.nm=nm∧∀ (j:Nat) (t:Sv),j<i→shs[j]? = some t→t.nm≠nm
def FindR (shs:List Sv) (nm:ByteArray):Option (Nat × Sv)→Prop
 | none=>∀ (j:Nat) (t:Sv),shs[j]? = some t→t.nm≠nm
 | some (i,s)=>First shs nm i s
def findN:Option (Nat × Sv)→Int
 | none => -1
 | some (i,_)=>(i:Int)
theorem find_all (shs:List Sv) (nm:ByteArray):∃ o,FindR shs nm o:=by
 have key : ∀ n:Nat,(∃ o,FindR shs nm o)∨∀ (j:Nat) (t:Sv),j<n→shs[j]? = some t→t.nm≠nm:=by
  intro n
  induction n with
  | zero=>exact .inr fun j t h=>by omega
  | succ n ih =>
    rcases ih with h | h
    · exact .inl h
    · cases hn:shs[n]? with
      | none=>exact .inl ⟨none,fun j t hj=>h j t (by have:=(List.getElem?_eq_some_iff.1 hj).1;have:=List.getElem?_eq_none_iff.1 hn;omega) hj⟩
      | some s =>
        by_cases he:s.nm=nm
        · exact .inl ⟨some (n,s),hn,he,h⟩
        · refine .inr fun j t hj ht => ?_
          by_cases hjn:j=n
          · subst hjn;rw [hn] at ht;injection ht with ht;subst ht;exact he
          · exact h j t (by omega) ht
 rcases key shs.length with h | h
 · exact h
 · exact ⟨none,fun j t hj=>h j t (List.getElem?_eq_some_iff.1 hj).1 hj⟩
set_option maxRecDepth 100000 in
set_option maxHeartbeats 4000000 in
theorem index_any (w:World) (A:Option Addr) (n cap:Nat) (shs:List Sv) (nm:ByteArray) (o:Option (Nat × Sv)) (h:BkR w w.heap.size (.slice A n cap) shs) (hn:n≤1000000) (ho:FindR shs nm o) :
 Calls Tryz.prog 44 #[.slice A n cap,.func (.func 45) #[.string nm] #[]] w fun e w'=>e = .returned (.int .i64 (findN o))∧Below w.heap.size w w':=by
 have HL:=Lib.hid h.1.len.1
 have HBK:=Lib.hid h;have HO:=Lib.hid ho
 clear h ho
 go_enter Tryz.func44,Tryz.ntmps44
 go_upto_region 2 with (fail)
 go_loopw [8] (fun iv wr=>∃ i:Nat,i≤n∧iv = .int .i64 (i:Int)∧Hid (∀ (j:Nat) (t:Sv),j<i→shs[j]? = some t→t.nm≠nm)∧Hid (Below w.heap.size w wr))
  (fun iv _=>n - (intOf iv).toNat)
 case atStart=>exact ⟨0,Nat.zero_le _,rfl,Lib.hid (fun j t h=>by omega),Lib.hid (Below.refl _ _)⟩
 case round =>
  obtain ⟨i,hi,rfl,HT,HR⟩:=hrel
  by_cases hlt:i<n
  · have hii:(i:Int)<(n:Int):=by omega
    have hi0:(0:Int)≤(i:Int):=by omega
    obtain ⟨s,hs⟩:∃ s,shs[i]? = some s:=⟨_,List.getElem?_eq_getElem (by rw [HL.out];exact hlt)⟩
    obtain ⟨pb,po,rfl,hpb,e0,e1,e2,hrow⟩:=sh_at HBK.out hs
    have x0:wr.cell? ⟨pb,po+i*3,none⟩=some (.string s.nm):=(HR.out.cell (p:=⟨pb,po+i*3,none⟩) hpb).trans e0
    have x1:wr.cell? ⟨pb,po+i*3+1,none⟩=some (.int .i64 s.cols):=(HR.out.cell (p:=⟨pb,po+i*3+1,none⟩) hpb).trans e1
    have x2:wr.cell? ⟨pb,po+i*3+2,none⟩=some (.slice s.A s.rows.length s.cap):=(HR.out.cell (p:=⟨pb,po+i*3+2,none⟩) hpb).trans e2
    have HS:=Lib.hid hs
    have hw:=wanted_any nm s.nm s.cols (.slice s.A s.rows.length s.cap) wr
    clear e0 e1 e2 hrow hs
    by_cases he:s.nm=nm
    · rw [decide_eq_true he] at hw
      have HW:=Lib.hid hw
      have HF:=Lib.hid (show findN o=(i:Int) from by
       cases o with
       | none=>exact absurd he (HO.out i s HS.out)
       | some p =>
         obtain ⟨k,t⟩:=p
         obtain ⟨h1,h2,h3⟩:=HO.out
         show (k:Int)=(i:Int)
         rcases Nat.lt_trichotomy i k with h | h | h
         · exact absurd he (h3 i s h HS.out)
         · omega
         · exact absurd h2 (HT.out k t h h1))
      clear hw he
      go_wp2_with (go_at_call 45;((with_reducible refine HW.out.mono ?_);rintro e w2 ⟨rfl,h1⟩;have H2:=Lib.hid (HR.out.trans (h1.mono HR.out.size));clear h1))
      go_ret
      exact ⟨ret_int HF.out.symm,H2.out⟩
    · rw [decide_eq_false he] at hw
      have HW:=Lib.hid hw
      have HF:=Lib.hid (show ∀ (j:Nat) (t:Sv),j<i+1→shs[j]? = some t→t.nm≠nm from fun j t hj ht=>by
       by_cases hji:j=i
       · subst hji
         have h:=HS.out
         rw [ht] at h;injection h with h;subst h;exact he
       · exact HT.out j t (by omega) ht)
      clear hw he
      go_wp2_with (go_at_call 45;((with_reducible refine HW.out.mono ?_);rintro e w2 ⟨rfl,h1⟩;have H2:=Lib.hid (HR.out.trans (h1.mono HR.out.size));clear h1))
      go_roundw
      case rel=>exact ⟨i+1,by omega,by go_num,HF,H2⟩
      case measure=>simp [intOf];omega
  · have hii:¬ (i:Int)<(n:Int):=by omega
    have HF:=Lib.hid (show findN o = -1 from by
     cases o with
     | none=>rfl
     | some p =>
       obtain ⟨k,t⟩:=p
       obtain ⟨h1,h2,h3⟩:=HO.out
       have:=(List.getElem?_eq_some_iff.1 h1).1
       have:=HL.out
       exact absurd h2 (HT.out k t (by omega) h1))
    go_wp2_with fail
    go_ret
    exact ⟨ret_int HF.out.symm,HR.out⟩
set_option maxRecDepth 100000 in
set_option maxHeartbeats 1600000 in
theorem find_any (w:World) (A:Option Addr) (n cap:Nat) (shs:List Sv) (nm:ByteArray) (o:Option (Nat × Sv)) (h:BkR w w.heap.size (.slice A n cap) shs) (hn:n≤1000000) (ho:FindR shs nm o) :
 Calls Tryz.prog 28 #[.agg #[.slice A n cap],.string nm] w fun e w'=>e = .returned (.int .i64 (findN o))∧Below w.heap.size w w':=by
 have HB:=Lib.hid (below_bk w (.slice A n cap))
 have HI:=Lib.hid (index_any (w.alloc (.cells #[.slice A n cap] 32)) A n cap shs nm o (h.lift HB.out) hn ho)
 have HA:=Lib.hid (BkAt.new w (.slice A n cap))
 clear h hn ho
 go_enter Tryz.func28,Tryz.ntmps28
 go_upto_region 1 with (fail)
 obtain ⟨w1,hw1⟩:∃ w1,w.alloc (.cells #[.slice A n cap] 32)=w1:=⟨_,rfl⟩
 rw [hw1] at HA HB HI ⊢
 have c0:=HA.out.cell
 go_wp2_with (go_at_call 44;(go_loud (with_reducible refine HI.out.mono ?_));(rintro e w2 ⟨rfl,h1⟩;have H2:=Lib.hid (HB.out.trans (h1.mono HB.out.size));clear h1))
 go_ret
 exact ⟨rfl,H2.out⟩
def RwX {α : Type} {k:Nat} (E:Enc α k) (e:TypeId) (w:World) (g:Nat) (xs:List α):Prop:=w.heap[g]? = some (.cells (E.all xs).toArray e)
theorem RwX.keep {α : Type} {k:Nat} {E:Enc α k} {e:TypeId} {w w':World} {g:Nat} {xs:List α} (h:RwX E e w g xs) (hk:w'.heap[g]? = w.heap[g]?):RwX E e w' g xs:=by unfold RwX;rw [hk];exact h
theorem RwX.set1 {α : Type} {E:Enc α 1} {e:TypeId} {w:World} {g:Nat} {xs:List α} (h:RwX E e w g xs) (i:Nat) (x : α) (u:Value) (hu:E.f x=[u]):RwX E e (w.setCell ⟨g,i,none⟩ u) g (xs.set i x):=by
 unfold RwX
 rw [heap_setCell_same w g i _ e u h,all_set1 E xs i x u hu]
 simp
theorem RwX.lt {α : Type} {k:Nat} {E:Enc α k} {e:TypeId} {w:World} {g:Nat} {xs:List α} (h:RwX E e w g xs):g<w.heap.size:=(Array.getElem?_eq_some_iff.1 h).1
theorem RwX.own {α : Type} {k:Nat} {E:Enc α k} {e:TypeId} {w:World} {g lo:Nat} {xs:List α} (h:RwX E e w g xs) (hlo:lo≤g) (hm:xs.length≤maxLen):Own E e w lo (.slice (some ⟨g,0,none⟩) xs.length xs.length) xs :=
 ⟨E.length_all xs,.inr ⟨g,xs.length,_,rfl,hlo,h,Nat.le_refl _,hm,by rw [List.size_toArray,E.length_all],by rw [← E.length_all];simp⟩⟩
theorem own_sl {α : Type} {k:Nat} {E:Enc α k} {e:TypeId} {w:World} {lo:Nat} {v:Value} {xs:List α} (h:Own E e w lo v xs):∃ A c,v = .slice A xs.length c:=by
 rcases h.shape with ⟨rfl,rfl⟩ | ⟨g,c,rfl,_⟩
 · exact ⟨none,0,rfl⟩
 · exact ⟨_,c,rfl⟩
def rowC (l:List Ar) (nm:ByteArray) (i j:Nat):List Spt:=((List.range j).filter fun c:Nat=>(l.filter fun a=>hasR a (i:Int)).any fun a=>hasC a (c:Int)).map fun c=>⟨nm,i,c⟩
def upC (l:List Ar) (nm:ByteArray) (Cs:List Nat) (i:Nat):List Spt:=(List.range i).flatMap fun r=>rowC l nm r (Cs.getD r 0)
def cellsL (l:List Ar) (nm:ByteArray) (Cs:List Nat):List Spt:=upC l nm Cs Cs.length
theorem rowC_zero (l:List Ar) (nm:ByteArray) (i:Nat):rowC l nm i 0=[]:=by simp [rowC]
theorem rowC_succ (l:List Ar) (nm:ByteArray) (i j:Nat):rowC l nm i (j+1)=rowC l nm i j++(if ((l.filter fun a=>hasR a (i:Int)).any fun a=>hasC a (j:Int))=true then [⟨nm,i,j⟩] else []):=by
 unfold rowC
 rw [List.range_succ,List.filter_append,List.map_append]
 congr 1
 by_cases h:((l.filter fun a=>hasR a (i:Int)).any fun a=>hasC a (j:Int))=true
 · rw [if_pos h,List.filter_cons];simp only [h,if_true,List.filter_nil,List.map_cons,List.map_nil]
 · rw [if_neg h,List.filter_cons];simp only [eq_false_of_ne_true h,Bool.false_eq_true,if_false,List.filter_nil,List.map_nil]
theorem upC_succ (l:List Ar) (nm:ByteArray) (Cs:List Nat) (i j:Nat) (h:Cs.getD i 0=j):upC l nm Cs i++rowC l nm i j=upC l nm Cs (i+1):=by
 unfold upC
 rw [List.range_succ,List.flatMap_append,List.flatMap_cons,List.flatMap_nil,List.append_nil,h]
theorem rowC_len (l:List Ar) (nm:ByteArray) (i j:Nat):(rowC l nm i j).length≤j:=by
 unfold rowC
 rw [List.length_map]
 have h:=List.length_filter_le (fun c:Nat=>(l.filter fun a=>hasR a (i:Int)).any fun a=>hasC a (c:Int)) (List.range j)
 rw [List.length_range] at h;exact h
theorem upC_len (l:List Ar) (nm:ByteArray) (Cs:List Nat) (hC:∀ c∈Cs,c≤100) (i:Nat):(upC l nm Cs i).length≤i*100:=by
 induction i with
 | zero=>simp [upC]
 | succ i ih =>
   rw [← upC_succ l nm Cs i _ rfl,List.length_append]
   have h1:=rowC_len l nm i (Cs.getD i 0)
   have h2:Cs.getD i 0≤100:=by
    rw [List.getD_eq_getElem?_getD]
    cases hq:Cs[i]? with
    | none=>exact Nat.zero_le _
    | some c=>exact hC c (List.mem_of_getElem? hq)
   omega
theorem SE.none_ {α : Type} {k:Nat} {E:Enc α k} {w:World} {B:Nat} {A:Option Addr} {n cap:Nat} {xs:List α} (h:SE E w B (.slice A n cap) xs) (hA:A=none):n=0:=by
 have hl:=h.len.1
 obtain ⟨A',cap',h1,_,_,h4⟩:=h
 injection h1 with e1 e2 e3
 rcases h4 with rfl | ⟨pb,po,e,_⟩
 · exact e2
 · rw [← e1,hA] at e;cases e
set_option maxRecDepth 100000 in
set_option maxHeartbeats 16000000 in
theorem cells_any (w:World) (A:Option Addr) (n cap:Nat) (l:List Ar) (s:Sv) (h:ArsR w w.heap.size (.slice A n cap) l) (hn:n≤1000) (hr:RowsR w w.heap.size (.slice s.A s.rows.length s.cap) s.rows) (hR:s.rows.length≤100) (hC:∀ r∈s.rows,r.l.length≤100) :
 Calls Tryz.prog 30 #[.slice A n cap,.agg #[.string s.nm,.int .i64 s.cols,.slice s.A s.rows.length s.cap]] w fun e w'=>Below w.heap.size w w'∧∃ v,e = .returned v∧Own encSp 35 w' w.heap.size v (cellsL l s.nm (s.rows.map fun r=>r.l.length)):=by
 have HB:=Lib.hid (below_sh w s.nm s.cols (.slice s.A s.rows.length s.cap))
 have HS:=Lib.hid (ShAt.new w s.nm s.cols (.slice s.A s.rows.length s.cap))
 have HX:=Lib.hid (SE.lift h HB.out)
 have HRW:=Lib.hid (hr.lift HB.out)
 obtain ⟨R,hRl⟩:∃ R,s.rows.length=R:=⟨_,rfl⟩
 have hle:R≤s.cap:=by have:=hr.1.len.2.1;omega
 have h0:s.A=none→R=0:=fun e=>by rw [← hRl];exact hr.1.none_ e
 have HUR:=Lib.hid (fun w1:World=>show Calls Tryz.prog 48 #[.slice s.A R s.cap,.int .i64 998] w1 fun e w'=>e = .returned (.slice s.A R s.cap)∧w1=w' from upToR_any w1 s.A R s.cap 998 hle h0 (by omega) (by omega))
 obtain ⟨Cs,hCs⟩:∃ Cs,(s.rows.map fun r=>r.l.length)=Cs:=⟨_,rfl⟩
 have HCB:=Lib.hid (show ∀ c∈Cs,c≤100 from fun c hc=>by rw [← hCs] at hc;obtain ⟨r,h1,rfl⟩:=List.mem_map.1 hc;exact hC r h1)
 have HCS:=Lib.hid (show Cs.length=R by rw [← hCs,List.length_map,hRl])
 have HCG:=Lib.hid (show ∀ (i:Nat) (r:Rv),s.rows[i]? = some r→Cs.getD i 0=r.l.length from fun i r h=>by rw [← hCs,List.getD_eq_getElem?_getD,List.getElem?_map,h];rfl)
 rw [hCs,hRl]
 rw [hRl] at hR HB HS HRW HX
 have HRL:=Lib.hid hRl
 clear h hr hCs hRl hle h0
 go_enter Tryz.func30,Tryz.ntmps30
 go_upto_region 1 with (fail)
 obtain ⟨w1,hw1⟩:∃ w1,w.alloc (.cells #[.string s.nm,.int .i64 s.cols,.slice s.A R s.cap] 24)=w1:=⟨_,rfl⟩
 generalize hz:w.heap.size=z at HS ⊢
 rw [hw1] at HB HS HX HRW ⊢
 have HZ:=Lib.hid HB.out.size
 clear hw1 hz
 obtain ⟨y0,y1,y2⟩:=HS.out.cells
 go_upto_region 3 with (go_at_call 48;((with_reducible refine (HUR.out _).mono ?_);rintro e w2 ⟨rfl,rfl⟩))
 clear y0 y1 y2 HUR
 go_loopw [5,14] (fun lv iv wr=>∃ (i:Nat) (v:Value),i≤R∧v=lv∧iv = .int .i64 (i:Int)∧Hid (Own encSp 35 wr w1.heap.size v (upC l s.nm Cs i))∧Hid (Below w1.heap.size w1 wr))
  (fun _ iv _=>R - (intOf iv).toNat)
 case atStart=>exact ⟨0,_,Nat.zero_le _,rfl,rfl,Lib.hid (Own.nil _ _ _ _),Lib.hid (Below.refl _ _)⟩
 case round =>
  obtain ⟨i,v,hi,rfl,rfl,HO,HR⟩:=hrel
  by_cases hlt:i<R
  · have hii:(i:Int)<(R:Int):=by omega
    have hi0:(0:Int)≤(i:Int):=by omega
    obtain ⟨rv,hrv⟩:∃ rv,s.rows[i]? = some rv:=⟨_,List.getElem?_eq_getElem (by rw [HRL.out];exact hlt)⟩
    obtain ⟨qb,qo,hA2,hqb,f0,hse⟩:=row_at HRW.out hrv
    have hcc:=HCG.out i rv hrv
    have hc100:=hC rv (List.mem_of_getElem? hrv)
    have hle2:rv.l.length≤rv.cap:=hse.len.2.1
    have h02:rv.A=none→rv.l.length=0:=hse.none_
    obtain ⟨C,hCC⟩:∃ C,rv.l.length=C:=⟨_,rfl⟩
    rw [hCC] at f0 hcc hc100 hle2 h02
    have HUT:=Lib.hid (fun w2:World=>show Calls Tryz.prog 50 #[.slice rv.A C rv.cap,.int .i64 701] w2 fun e w'=>e = .returned (.slice rv.A C rv.cap)∧w2=w' from upToT_any w2 rv.A C rv.cap 701 hle2 h02 (by omega) (by omega))
    have HCC:=Lib.hid hcc
    have f1:=(HR.out.cell (p:=⟨qb,qo+i,none⟩) hqb).trans f0
    have HOV:=Lib.hid (over_any wr A n cap l (i:Int) (SE.lift HX.out HR.out) hn)
    rw [hA2]
    clear hrv hse hcc f0 hle2 h02 hCC
    go_wp2_with (first
     | (go_at_call 49;((with_reducible refine HOV.out.mono ?_);rintro e w2 ⟨h1,vh,rfl,h2⟩;obtain ⟨Ah,ch,rfl⟩:=own_sl h2;have HR2:=Lib.hid (HR.out.trans (h1.mono HR.out.size));have HO2:=Lib.hid (HO.out.below h1 (Nat.le_refl _));have HH2:=Lib.hid (h2.mono HR.out.size);clear h1 h2))
     | (go_at_call 50;((with_reducible refine (HUT.out _).mono ?_);rintro e w3 ⟨rfl,rfl⟩)))
    clear HO HR HOV HUT f1
    have hhl:(l.filter fun a=>hasR a (i:Int)).length≤1000:=by have h1:=List.length_filter_le (fun a:Ar=>hasR a (i:Int)) l;have h2:=HX.out.len.1;omega
    have HUL:=Lib.hid (upC_len l s.nm Cs HCB.out i)
    obtain ⟨hs,hhs⟩:∃ hs,(l.filter fun a=>hasR a (i:Int))=hs:=⟨_,rfl⟩
    obtain ⟨m,hm⟩:∃ m,hs.length=m:=⟨_,rfl⟩
    rw [hhs] at HH2 hhl ⊢
    rw [hm] at HH2 hhl ⊢
    have HHS:=Lib.hid hhs
    clear hhs hm
    go_loopw [5,25] (fun lv cv wx=>∃ (j:Nat) (v:Value),j≤C∧v=lv∧cv = .int .i64 (j:Int)∧Hid (Own encSp 35 wx w1.heap.size v (upC l s.nm Cs i++rowC l s.nm i j))∧Hid (Own encAr 103 wx w1.heap.size (.slice Ah m ch) hs)∧Hid (Below w1.heap.size w1 wx))
     (fun _ cv _=>C - (intOf cv).toNat)
    case atStart=>exact ⟨0,_,Nat.zero_le _,rfl,rfl,Lib.hid (by rw [rowC_zero,List.append_nil];exact HO2.out),HH2,HR2⟩
    case round =>
     clear HO2 HH2 HR2
     obtain ⟨j,v,hj,rfl,rfl,HO,HH,HR⟩:=hrel
     by_cases hjt:j<C
     · have hji:(j:Int)<(C:Int):=by omega
       have hj0:(0:Int)≤(j:Int):=by omega
       have HB3:=Lib.hid (show Below wr.heap.size wr (wr.alloc (.cells #[.int .i64 (j:Int)] 3)) from (Below.refl _ _).alloc (Nat.le_refl _) _)
       have hz3:(wr.alloc (.cells #[.int .i64 (j:Int)] 3)).cell? ⟨wr.heap.size,0,none⟩=some (.int .i64 (j:Int)):=by rw [World.cell?_alloc_new];rfl
       have hzl:wr.heap.size<(wr.alloc (.cells #[.int .i64 (j:Int)] 3)).heap.size:=by rw [World.size_alloc];omega
       go_upto_region 9 with (fail)
       generalize hz4:wr.heap.size=z4 at hz3 hzl ⊢
       obtain ⟨w3,hw3⟩:∃ w3,wr.alloc (.cells #[.int .i64 (j:Int)] 3)=w3:=⟨_,rfl⟩
       rw [hw3] at HB3 hz3 hzl ⊢
       have HO3:=Lib.hid (HO.out.below HB3.out (Nat.le_refl _))
       have HH3:=Lib.hid (HH.out.below HB3.out (Nat.le_refl _))
       have HR3:=Lib.hid (HR.out.trans (HB3.out.mono HR.out.size))
       have HZ3:=Lib.hid hz3;have HZL:=Lib.hid hzl
       clear hw3 hz4 HO HH HR HB3 hzl
       have HRS:=Lib.hid (rowC_succ l s.nm i j)
       rw [HHS.out] at HRS
       have HRL2:=Lib.hid (rowC_len l s.nm i j)
       obtain ⟨q,hq⟩:∃ q,(hs.any fun a=>hasC a (j:Int))=q:=⟨_,rfl⟩
       have HCF:=Lib.hid (contains_any w3 Ah m ch hs (j:Int) z4 HH3.out.se hhl hz3 HZL.out q hq)
       rw [hq] at HRS
       clear hq hz3
       cases q with
       | true =>
         rw [if_pos rfl] at HRS
         go_wp2_with (first
          | (go_at_call 51;((with_reducible refine HCF.out.mono ?_);rintro e w4 ⟨h1,rfl⟩;have HR4:=Lib.hid (HR3.out.trans (h1.mono HR3.out.size));have HO4:=Lib.hid (HO3.out.below h1 (Nat.le_refl _));have HH4:=Lib.hid (HH3.out.below h1 (Nat.le_refl _));have hz4:=(h1.cell (p:=⟨z4,0,none⟩) HZL.out).trans HZ3.out;obtain ⟨y0,y1,y2⟩:=(HS.out.over HR4.out).cells;clear h1))
          | (at_builtin;refine wpList_app_at Elem.spt encSp rfl (.tmp 31) (.tmp 37) rfl w1.heap.size v _ rfl (HO4.out.below ((Below.refl w4.heap.size w4).alloc (Nat.le_refl _) (.cells #[.string s.nm,.int .i64 (i:Int),.int .i64 (j:Int)] 35)) (Nat.le_refl _)) ⟨_,0,none⟩ 1 1 [⟨s.nm,i,j⟩] rfl rfl ?_ ?_ ?_ ?_ ?_;exact cells_new _ _ _ rfl;(have h1:=HUL.out;have h2:=HRL2.out;rw [List.length_append];omega);(have h1:=HUL.out;have h2:=HRL2.out;rw [List.length_append];unfold maxLen;omega);(have h1:=HR4.out.size;rw [World.size_alloc];omega);intro v5 w5 h1 h2 _;have HO5:=Lib.hid h1;have HG5:=Lib.hid h2;clear h1 h2))
         have HB4:=Lib.hid ((Below.refl w4.heap.size w4).alloc (Nat.le_refl _) (.cells #[.string s.nm,.int .i64 (i:Int),.int .i64 (j:Int)] 35))
         have HO6:=Lib.hid (HO4.out.below HB4.out (Nat.le_refl _))
         have HH5:=Lib.hid ((HH4.out.below HB4.out (Nat.le_refl _)).keep fun g _ hl e=>HG5.out.block g hl ((HH4.out.below HB4.out (Nat.le_refl _)).away HO6.out (by decide) e))
         have HR6:=HR4.out.trans (HB4.out.mono HR4.out.size)
         have HR5:=Lib.hid (HR6.grown HG5.out HR6.size (fun g e=>(HO6.out.lies e).1))
         go_roundw
         case rel=>exact ⟨j+1,_,by omega,rfl,by go_num,Lib.hid (by rw [HRS.out, ← List.append_assoc];exact HO5.out),HH5,HR5⟩
         case measure=>simp [intOf];omega
       | false =>
         rw [if_neg (by decide),List.append_nil] at HRS
         go_wp2_with (go_at_call 51;((with_reducible refine HCF.out.mono ?_);rintro e w4 ⟨h1,rfl⟩;have HR4:=Lib.hid (HR3.out.trans (h1.mono HR3.out.size));have HO4:=Lib.hid (HO3.out.below h1 (Nat.le_refl _));have HH4:=Lib.hid (HH3.out.below h1 (Nat.le_refl _));clear h1))
         go_roundw
         case rel=>exact ⟨j+1,_,by omega,rfl,by go_num,Lib.hid (by rw [HRS.out];exact HO4.out),HH4,HR4⟩
         case measure=>simp [intOf];omega
     · have hji:¬ (j:Int)<(C:Int):=by omega
       have hjC:j=C:=by omega
       subst hjC
       have HNX:=Lib.hid (upC_succ l s.nm Cs i j HCC.out)
       go_wp2_with fail
       go_roundw
       case rel=>exact ⟨i+1,_,by omega,rfl,by go_num,Lib.hid (by rw [← HNX.out];exact HO.out),HR⟩
       case measure=>simp [intOf];omega
  · have hii:¬ (i:Int)<(R:Int):=by omega
    have hiR:i=R:=by omega
    subst hiR
    have HE:=Lib.hid (show cellsL l s.nm Cs=upC l s.nm Cs i by unfold cellsL;rw [HCS.out])
    go_wp2_with fail
    go_ret
    exact ⟨HB.out.trans (HR.out.mono HZ.out),_,rfl,by rw [HE.out];exact HO.out.mono HZ.out⟩
theorem exprP_succ (f n deep base:Nat) (ts:List Tk):exprP (f+1) n deep base ts=if n≤3 then bindR (exprP f (n+1) deep base ts) fun ns a r=>rowP f n deep base ns a r
 else if signIs ⟨#[45]⟩ ts=true then
  if 12≤deep then some (.error 6)
  else bindR (exprP f 4 (deep+1) base ts.tail) fun ns a r=>some (.ok (ns++[{ Nd.zero with kind:=8,kids:=[(a:Int)] }],base+ns.length,r))
 else primP f deep base ts:=by conv=>lhs;unfold exprP
theorem rowP_succ (f n deep base:Nat) (ns:List Nd) (a:Nat) (ts:List Tk):rowP (f+1) n deep base ns a ts=if opK n ts=0 then some (.ok (ns,a,ts))
 else bindR (exprP f (n+1) deep (base+ns.length) ts.tail) fun ms b r=>rowP f n deep base (ns++(ms++[{ Nd.zero with kind:=opK n ts,kids:=[(a:Int),(b:Int)] }])) (base+(ns.length+ms.length)) r:=by conv=>lhs;unfold rowP
theorem argsP_succ (f deep base:Nat) (ns:List Nd) (ks:List Int) (ts:List Tk):argsP (f+1) deep base ns ks ts=bindR (exprP f 0 deep (base+ns.length) ts) fun ms a r =>
 if signIs ⟨#[44]⟩ r=true then argsP f deep base (ns++ms) (ks++[(a:Int)]) r.tail else some (.ok (ns++ms,ks++[(a:Int)],r)):=by conv=>lhs;unfold argsP
theorem primP_nil (f deep base:Nat):primP (f+1) deep base []=some (.error 5):=by unfold primP;rfl
theorem primP_cons (f deep base:Nat) (t:Tk) (ts:List Tk):primP (f+1) deep base (t :: ts) =
 if signIs ⟨#[40]⟩ (t :: ts)=true then
  if 12≤deep then some (.error 6)
  else bindR (exprP f 0 (deep+1) base ts) fun ns a r=>if signIs ⟨#[41]⟩ r=true then some (.ok (ns,a,r.tail)) else some (.error 5)
 else if t.kind=1 then some (.ok ([{ Nd.zero with kind:=1,num:=t.num }],base,ts))
 else if t.kind=2 then some (.ok ([{ Nd.zero with kind:=2,text:=t.text }],base,ts))
 else if t.kind=6 then some (.ok ([{ Nd.zero with kind:=4 }],base,ts))
 else if t.kind=4 then some (refP base t ts)
 else if t.kind=3 then
  if t.text=⟨#[84,82,85,69]⟩ then some (.ok ([{ Nd.zero with kind:=3,num:=1 }],base,ts))
  else if t.text=⟨#[70,65,76,83,69]⟩ then some (.ok ([{ Nd.zero with kind:=3 }],base,ts))
  else if signIs ⟨#[40]⟩ ts=true then
   if 12≤deep then some (.error 6)
   else bindR (if signIs ⟨#[41]⟩ ts.tail=true then some (.ok ([],[],ts.tail)) else argsP f (deep+1) base [] [] ts.tail) fun ns ks r =>
    if signIs ⟨#[41]⟩ r=true then some (.ok (ns++[{ Nd.zero with kind:=7,text:=t.text,kids:=ks }],base+ns.length,r.tail)) else some (.error 5)
  else some (.error 5)
 else some (.error 5):=by conv=>lhs;unfold primP
theorem more_one : ∀ f : Nat,(∀ n deep base ts y,exprP f n deep base ts=some y→exprP (f+1) n deep base ts=some y)∧(∀ n deep base ns a ts y,rowP f n deep base ns a ts=some y→rowP (f+1) n deep base ns a ts=some y) ∧
 (∀ deep base ts y,primP f deep base ts=some y→primP (f+1) deep base ts=some y)∧(∀ deep base ns ks ts y,argsP f deep base ns ks ts=some y→argsP (f+1) deep base ns ks ts=some y)
 | 0=>⟨fun _ _ _ _ _ h=>by simp [exprP] at h,fun _ _ _ _ _ _ _ h=>by simp [rowP] at h,fun _ _ _ _ h=>by simp [primP] at h,fun _ _ _ _ _ _ h=>by simp [argsP] at h⟩
 | f + 1 => by
   obtain ⟨i1,i2,i3,i4⟩:=more_one f
   refine ⟨?_, ?_, ?_, ?_⟩
   · intro n deep base ts y h
     rw [exprP_succ] at h ⊢
     split
     · rw [if_pos ‹_›] at h
       exact bindR_less (fun y h=>i1 _ _ _ _ y h) (fun a b c y h=>i2 _ _ _ _ _ _ y h) y h
     · rw [if_neg ‹_›] at h
       split
       · rw [if_pos ‹_›] at h
         split
         · rw [if_pos ‹_›] at h;exact h
         · rw [if_neg ‹_›] at h
           exact bindR_less (fun y h=>i1 _ _ _ _ y h) (fun a b c y h=>h) y h
       · rw [if_neg ‹_›] at h
         exact i3 _ _ _ y h
   · intro n deep base ns a ts y h
     rw [rowP_succ] at h ⊢
     split
     · rw [if_pos ‹_›] at h;exact h
     · rw [if_neg ‹_›] at h
       exact bindR_less (fun y h=>i1 _ _ _ _ y h) (fun a b c y h=>i2 _ _ _ _ _ _ y h) y h
   · intro deep base ts y h
     cases ts with
     | nil=>rw [primP_nil] at h ⊢;exact h
     | cons t ts =>
       rw [primP_cons] at h ⊢
       by_cases c1:signIs ⟨#[40]⟩ (t :: ts)=true
       · rw [if_pos c1] at h ⊢
         by_cases d:12≤deep
         · rw [if_pos d] at h ⊢;exact h
         · rw [if_neg d] at h ⊢
           exact bindR_less (fun y h=>i1 _ _ _ _ y h) (fun a b c y h=>h) y h
       · rw [if_neg c1] at h ⊢
         by_cases c2:t.kind=1
         · rw [if_pos c2] at h ⊢
           exact h
         · rw [if_neg c2] at h ⊢
           by_cases c3:t.kind=2
           · rw [if_pos c3] at h ⊢
             exact h
           · rw [if_neg c3] at h ⊢
             by_cases c4:t.kind=6
             · rw [if_pos c4] at h ⊢
               exact h
             · rw [if_neg c4] at h ⊢
               by_cases c5:t.kind=4
               · rw [if_pos c5] at h ⊢
                 exact h
               · rw [if_neg c5] at h ⊢
                 by_cases c6:t.kind=3
                 · rw [if_pos c6] at h ⊢
                   by_cases c7:t.text=⟨#[84,82,85,69]⟩
                   · rw [if_pos c7] at h ⊢;exact h
                   · rw [if_neg c7] at h ⊢
                     by_cases c8:t.text=⟨#[70,65,76,83,69]⟩
                     · rw [if_pos c8] at h ⊢;exact h
                     · rw [if_neg c8] at h ⊢
                       by_cases c9:signIs ⟨#[40]⟩ ts=true
                       · rw [if_pos c9] at h ⊢
                         by_cases d:12≤deep
                         · rw [if_pos d] at h ⊢;exact h
                         · rw [if_neg d] at h ⊢
                           refine bindR_less (fun y h => ?_) (fun a b c y h=>h) y h
                           by_cases c10:signIs ⟨#[41]⟩ ts.tail=true
                           · rw [if_pos c10] at h ⊢;exact h
                           · rw [if_neg c10] at h ⊢;exact i4 _ _ _ _ _ y h
                       · rw [if_neg c9] at h ⊢;exact h
                 · rw [if_neg c6] at h ⊢;exact h
   · intro deep base ns ks ts y h
     rw [argsP_succ] at h ⊢
     refine bindR_less (fun y h=>i1 _ _ _ _ y h) (fun a b c y h => ?_) y h
     split
     · rw [if_pos ‹_›] at h;exact i4 _ _ _ _ _ y h
     · rw [if_neg ‹_›] at h;exact h
theorem exprP_more {f g n deep base:Nat} {ts:List Tk} {y:Res} (hfg:f≤g) (h:exprP f n deep base ts=some y):exprP g n deep base ts=some y:=by
 induction g with
 | zero => obtain rfl:f=0:=by omega
           exact h
 | succ g ih =>
   by_cases e:f=g+1
   · rw [← e];exact h
   · exact (more_one g).1 _ _ _ _ _ (ih (by omega))
theorem rowP_more {f g n deep base:Nat} {ns:List Nd} {a:Nat} {ts:List Tk} {y:Res} (hfg:f≤g) (h:rowP f n deep base ns a ts=some y):rowP g n deep base ns a ts=some y:=by
 induction g with
 | zero => obtain rfl:f=0:=by omega
           exact h
 | succ g ih =>
   by_cases e:f=g+1
   · rw [← e];exact h
   · exact (more_one g).2.1 _ _ _ _ _ _ _ (ih (by omega))
theorem argsP_more {f g deep base:Nat} {ns:List Nd} {ks:List Int} {ts:List Tk} {y:Args} (hfg:f≤g) (h:argsP f deep base ns ks ts=some y):argsP g deep base ns ks ts=some y:=by
 induction g with
 | zero => obtain rfl:f=0:=by omega
           exact h
 | succ g ih =>
   by_cases e:f=g+1
   · rw [← e];exact h
   · exact (more_one g).2.2.2 _ _ _ _ _ _ (ih (by omega))
def Suf (m:Nat) (r ts:List Tk):Prop:=∃ pre:List Tk,ts=pre++r∧(∀ t∈pre,t.kind≠0)∧m≤pre.length
theorem Suf.refl (ts:List Tk):Suf 0 ts ts:=⟨[],rfl,by simp,by simp⟩
theorem Suf.trans {m k:Nat} {r s t:List Tk} (h:Suf m r s) (g:Suf k s t):Suf (k+m) r t:=by
 obtain ⟨p,rfl,h1,h2⟩:=h
 obtain ⟨q,rfl,g1,g2⟩:=g
 refine ⟨q++p,by rw [List.append_assoc], ?_,by rw [List.length_append];omega⟩
 intro x hx;rw [List.mem_append] at hx
 rcases hx with hx | hx
 · exact g1 x hx
 · exact h1 x hx
theorem Suf.less {m k:Nat} {r ts:List Tk} (h:Suf m r ts) (hk:k≤m):Suf k r ts:=by
 obtain ⟨p,h0,h1,h2⟩:=h;exact ⟨p,h0,h1,by omega⟩
theorem Suf.len {m:Nat} {r ts:List Tk} (h:Suf m r ts):r.length+m≤ts.length:=by
 obtain ⟨p,rfl,_,h2⟩:=h;rw [List.length_append];omega
theorem Suf.head {t:Tk} {ts:List Tk} (h:t.kind≠0):Suf 1 ts (t :: ts):=⟨[t],rfl,by simp [h],by simp⟩
theorem Suf.sign {s:ByteArray} {ts:List Tk} (h:signIs s ts=true):Suf 1 ts.tail ts:=by
 cases ts with
 | nil=>simp [signIs] at h
 | cons t ts =>
   unfold signIs at h
   rw [Bool.and_eq_true,decide_eq_true_iff] at h
   exact Suf.head (by omega)
theorem opK_pos {n:Nat} {ts:List Tk} (h:opK n ts≠0):∃ p∈levelL n,signIs p.1 ts=true∧opK n ts=p.2:=by
 unfold opK at h ⊢
 cases hq:(levelL n).find? (fun p=>signIs p.1 ts) with
 | none=>rw [hq] at h;exact absurd rfl h
 | some p=>exact ⟨p,List.mem_of_find?_eq_some hq,List.find?_some (p:=fun p:ByteArray × Int=>signIs p.1 ts) hq,rfl⟩
theorem Suf.op {n:Nat} {ts:List Tk} (h:opK n ts≠0):Suf 1 ts.tail ts:=by
 obtain ⟨p,_,h1,_⟩:=opK_pos h;exact Suf.sign h1
theorem refP_ok {base:Nat} {t:Tk} {ts:List Tk} {ns:List Nd} {a:Nat} {r:List Tk} (h:refP base t ts = .ok (ns,a,r)):Suf 0 r ts∧ns.length=1∧a=base:=by
 unfold refP at h
 by_cases c:signIs ⟨#[58]⟩ ts=true
 · rw [if_pos c] at h
   cases hq:ts.tail with
   | nil=>rw [hq] at h;cases h
   | cons u us =>
     rw [hq] at h
     simp only at h
     by_cases d:u.kind=4∧spanB t.rf u.rf=true
     · rw [if_pos d] at h
       injection h with h;injection h with h1 h2;injection h2 with h2 h3
       subst h1;subst h2;subst h3
       have s1:=Suf.sign c
       rw [hq] at s1
       exact ⟨((Suf.head (ts:=us) (show u.kind≠0 by omega)).trans s1).less (by omega),rfl,rfl⟩
     · rw [if_neg d] at h;cases h
 · rw [if_neg c] at h
   injection h with h;injection h with h1 h2;injection h2 with h2 h3
   subst h1;subst h2;subst h3
   exact ⟨Suf.refl _,rfl,rfl⟩
def Told (base:Nat) (ts:List Tk) (ns:List Nd) (a:Nat) (r:List Tk):Prop:=Suf 1 r ts∧a+1=base+ns.length∧1≤ns.length
theorem told_all : ∀ f : Nat, (∀ n deep base ts ns a r,exprP f n deep base ts=some (.ok (ns,a,r))→Told base ts ns a r) ∧
 (∀ n deep base ns a ts ns' a' r,rowP f n deep base ns a ts=some (.ok (ns',a',r))→a+1=base+ns.length→1≤ns.length→Suf 0 r ts∧a'+1=base+ns'.length∧1≤ns'.length) ∧
 (∀ deep base ts ns a r,primP f deep base ts=some (.ok (ns,a,r))→Told base ts ns a r) ∧
 (∀ deep base ns ks ts ns' ks' r,argsP f deep base ns ks ts=some (.ok (ns',ks',r))→Suf 1 r ts)
 | 0=>by
   refine ⟨?_, ?_, ?_, ?_⟩
   · intro n deep base ts ns a r h;unfold exprP at h;cases h
   · intro n deep base ns a ts ns' a' r h;unfold rowP at h;cases h
   · intro deep base ts ns a r h;unfold primP at h;cases h
   · intro deep base ns ks ts ns' ks' r h;unfold argsP at h;cases h
 | f + 1 => by
   obtain ⟨i1,i2,i3,i4⟩:=told_all f
   refine ⟨?_, ?_, ?_, ?_⟩
   · intro n deep base ts ns a r h
     rw [exprP_succ] at h
     by_cases c:n≤3
     · rw [if_pos c] at h
       rcases bindR_some h with ⟨e,_,h2⟩ | ⟨ms,b,s,h1,h2⟩
       · cases h2
       · obtain ⟨k1,k2,k3⟩:=i1 _ _ _ _ _ _ _ h1
         obtain ⟨g1,g2,g3⟩:=i2 _ _ _ _ _ _ _ _ _ h2 k2 k3
         exact ⟨g1.trans k1,g2,g3⟩
     · rw [if_neg c] at h
       by_cases d:signIs ⟨#[45]⟩ ts=true
       · rw [if_pos d] at h
         by_cases d2:12≤deep
         · rw [if_pos d2] at h;cases h
         · rw [if_neg d2] at h
           rcases bindR_some h with ⟨e,_,h2⟩ | ⟨ms,b,s,h1,h2⟩
           · cases h2
           · obtain ⟨k1,k2,k3⟩:=i1 _ _ _ _ _ _ _ h1
             injection h2 with h2;injection h2 with h2;injection h2 with h3 h4;injection h4 with h4 h5
             subst h3;subst h4;subst h5
             exact ⟨(k1.trans (Suf.sign d)).less (by omega),by rw [List.length_append];simp;omega,by rw [List.length_append];simp⟩
       · rw [if_neg d] at h;exact i3 _ _ _ _ _ _ h
   · intro n deep base ns a ts ns' a' r h ha hn
     rw [rowP_succ] at h
     by_cases c:opK n ts=0
     · rw [if_pos c] at h
       injection h with h;injection h with h;injection h with h1 h2;injection h2 with h2 h3
       subst h1;subst h2;subst h3
       exact ⟨Suf.refl _,ha,hn⟩
     · rw [if_neg c] at h
       rcases bindR_some h with ⟨e,_,h2⟩ | ⟨ms,b,s,h1,h2⟩
       · cases h2
       · obtain ⟨k1,k2,k3⟩:=i1 _ _ _ _ _ _ _ h1
         obtain ⟨g1,g2,g3⟩:=i2 _ _ _ _ _ _ _ _ _ h2 (by simp only [List.length_append,List.length_cons,List.length_nil];omega) (by simp only [List.length_append,List.length_cons,List.length_nil];omega)
         exact ⟨((g1.trans k1).trans (Suf.op c)).less (by omega),g2,g3⟩
   · intro deep base ts ns a r h
     cases ts with
     | nil=>rw [primP_nil] at h;cases h
     | cons t ts =>
       have leaf:∀ (x:Nd),t.kind≠0→(some (.ok ([x],base,ts)):Option Res)=some (.ok (ns,a,r))→Told base (t :: ts) ns a r:=by
        intro x hk h
        injection h with h;injection h with h;injection h with h1 h2;injection h2 with h2 h3
        subst h1;subst h2;subst h3
        exact ⟨Suf.head hk,by simp,by simp⟩
       rw [primP_cons] at h
       by_cases c1:signIs ⟨#[40]⟩ (t :: ts)=true
       · rw [if_pos c1] at h
         have s1:=Suf.sign c1
         by_cases d:12≤deep
         · rw [if_pos d] at h;cases h
         · rw [if_neg d] at h
           rcases bindR_some h with ⟨e,_,h2⟩ | ⟨ms,b,s,h1,h2⟩
           · cases h2
           · obtain ⟨k1,k2,k3⟩:=i1 _ _ _ _ _ _ _ h1
             by_cases d2:signIs ⟨#[41]⟩ s=true
             · rw [if_pos d2] at h2
               injection h2 with h2;injection h2 with h2;injection h2 with h3 h4;injection h4 with h4 h5
               subst h3;subst h4;subst h5
               exact ⟨(((Suf.sign d2).trans k1).trans s1).less (by omega),k2,k3⟩
             · rw [if_neg d2] at h2;cases h2
       · rw [if_neg c1] at h
         by_cases c2:t.kind=1
         · rw [if_pos c2] at h;exact leaf _ (by omega) h
         · rw [if_neg c2] at h
           by_cases c3:t.kind=2
           · rw [if_pos c3] at h;exact leaf _ (by omega) h
           · rw [if_neg c3] at h
             by_cases c4:t.kind=6
             · rw [if_pos c4] at h;exact leaf _ (by omega) h
             · rw [if_neg c4] at h
               by_cases c5:t.kind=4
               · rw [if_pos c5] at h
                 injection h with h
                 obtain ⟨g1,g2,g3⟩:=refP_ok h
                 exact ⟨(g1.trans (Suf.head (show t.kind≠0 by omega))).less (by omega),by omega,by omega⟩
               · rw [if_neg c5] at h
                 by_cases c6:t.kind=3
                 · rw [if_pos c6] at h
                   by_cases c7:t.text=⟨#[84,82,85,69]⟩
                   · rw [if_pos c7] at h;exact leaf _ (by omega) h
                   · rw [if_neg c7] at h
                     by_cases c8:t.text=⟨#[70,65,76,83,69]⟩
                     · rw [if_pos c8] at h;exact leaf _ (by omega) h
                     · rw [if_neg c8] at h
                       by_cases c9:signIs ⟨#[40]⟩ ts=true
                       · rw [if_pos c9] at h
                         by_cases d:12≤deep
                         · rw [if_pos d] at h;cases h
                         · rw [if_neg d] at h
                           rcases bindR_some h with ⟨e,_,h2⟩ | ⟨ms,ks,s,h1,h2⟩
                           · cases h2
                           · have k1:Suf 0 s ts.tail:=by
                              by_cases c10:signIs ⟨#[41]⟩ ts.tail=true
                              · rw [if_pos c10] at h1
                                injection h1 with h1;injection h1 with h1;injection h1 with h3 h4;injection h4 with h4 h5
                                subst h5;exact Suf.refl _
                              · rw [if_neg c10] at h1;exact (i4 _ _ _ _ _ _ _ _ h1).less (by omega)
                             by_cases d2:signIs ⟨#[41]⟩ s=true
                             · rw [if_pos d2] at h2
                               injection h2 with h2;injection h2 with h2;injection h2 with h3 h4;injection h4 with h4 h5
                               subst h3;subst h4;subst h5
                               exact ⟨((((Suf.sign d2).trans k1).trans (Suf.sign c9)).trans (Suf.head (show t.kind≠0 by omega))).less (by omega),by rw [List.length_append];simp;omega,by rw [List.length_append];simp⟩
                             · rw [if_neg d2] at h2;cases h2
                       · rw [if_neg c9] at h;cases h
                 · rw [if_neg c6] at h;cases h
   · intro deep base ns ks ts ns' ks' r h
     rw [argsP_succ] at h
     rcases bindR_some h with ⟨e,_,h2⟩ | ⟨ms,b,s,h1,h2⟩
     · cases h2
     · obtain ⟨k1,k2,k3⟩:=i1 _ _ _ _ _ _ _ h1
       by_cases d:signIs ⟨#[44]⟩ s=true
       · rw [if_pos d] at h2
         exact (((i4 _ _ _ _ _ _ _ _ h2).trans (Suf.sign d)).trans k1).less (by omega)
       · rw [if_neg d] at h2
         injection h2 with h2;injection h2 with h2;injection h2 with h3 h4;injection h4 with h4 h5
         subst h5;exact k1
theorem tail_len {s:ByteArray} {ts:List Tk} (h:signIs s ts=true):ts.tail.length+1=ts.length:=by
 cases ts with
 | nil=>unfold signIs at h;cases h
 | cons t l=>rfl
theorem opK_tail {n:Nat} {ts:List Tk} (h:opK n ts≠0):ts.tail.length+1=ts.length:=by
 obtain ⟨p,_,h1,_⟩:=opK_pos h;exact tail_len h1
theorem count_all : ∀ f:Nat,(∀ n deep base ts ns a r,exprP f n deep base ts=some (.ok (ns,a,r))→ns.length+r.length≤ts.length) ∧
 (∀ n deep base ns a ts ns' a' r,rowP f n deep base ns a ts=some (.ok (ns',a',r))→ns'.length+r.length≤ns.length+ts.length) ∧
 (∀ deep base ts ns a r,primP f deep base ts=some (.ok (ns,a,r))→ns.length+r.length≤ts.length) ∧
 (∀ deep base ns ks ts ns' ks' r,argsP f deep base ns ks ts=some (.ok (ns',ks',r))→ns'.length+r.length≤ns.length+ts.length)
 | 0=>by
   refine ⟨?_, ?_, ?_, ?_⟩
   · intro n deep base ts ns a r h;unfold exprP at h;cases h
   · intro n deep base ns a ts ns' a' r h;unfold rowP at h;cases h
   · intro deep base ts ns a r h;unfold primP at h;cases h
   · intro deep base ns ks ts ns' ks' r h;unfold argsP at h;cases h
 | f + 1 => by
   obtain ⟨i1,i2,i3,i4⟩:=count_all f
   refine ⟨?_, ?_, ?_, ?_⟩
   · intro n deep base ts ns a r h
     rw [exprP_succ] at h
     by_cases hn:n≤3
     · rw [if_pos hn] at h
       rcases bindR_some h with ⟨e,_,h2⟩ | ⟨ms,b,s,h1,h2⟩
       · cases h2
       · have:=i1 _ _ _ _ _ _ _ h1
         have:=i2 _ _ _ _ _ _ _ _ _ h2
         omega
     · rw [if_neg hn] at h
       by_cases c:signIs ⟨#[45]⟩ ts=true
       · rw [if_pos c] at h
         have htl:=tail_len c
         by_cases d:12≤deep
         · rw [if_pos d] at h;injection h with h;cases h
         · rw [if_neg d] at h
           rcases bindR_some h with ⟨e,_,h2⟩ | ⟨ms,b,s,h1,h2⟩
           · cases h2
           · have:=i1 _ _ _ _ _ _ _ h1
             injection h2 with h2;injection h2 with h2;injection h2 with h3 h4;injection h4 with h4 h5
             subst h3;subst h5
             rw [List.length_append,List.length_singleton];omega
       · rw [if_neg c] at h;exact i3 _ _ _ _ _ _ h
   · intro n deep base ns a ts ns' a' r h
     rw [rowP_succ] at h
     by_cases c:opK n ts=0
     · rw [if_pos c] at h
       injection h with h;injection h with h;injection h with h3 h4;injection h4 with h4 h5
       subst h3;subst h5;exact Nat.le_refl _
     · rw [if_neg c] at h
       have htl:=opK_tail c
       rcases bindR_some h with ⟨e,_,h2⟩ | ⟨ms,b,s,h1,h2⟩
       · cases h2
       · have:=i1 _ _ _ _ _ _ _ h1
         have:=i2 _ _ _ _ _ _ _ _ _ h2
         rw [List.length_append,List.length_append,List.length_singleton] at this
         omega
   · intro deep base ts ns a r h
     cases ts with
     | nil=>rw [primP_nil] at h;injection h with h;cases h
     | cons t ts =>
       rw [primP_cons] at h
       by_cases c:signIs ⟨#[40]⟩ (t :: ts)=true
       · rw [if_pos c] at h
         by_cases d:12≤deep
         · rw [if_pos d] at h;injection h with h;cases h
         · rw [if_neg d] at h
           rcases bindR_some h with ⟨e,_,h2⟩ | ⟨ms,b,s,h1,h2⟩
           · cases h2
           · have:=i1 _ _ _ _ _ _ _ h1
             by_cases g:signIs ⟨#[41]⟩ s=true
             · rw [if_pos g] at h2
               injection h2 with h2;injection h2 with h2;injection h2 with h3 h4;injection h4 with h4 h5
               subst h3;subst h5
               have:=tail_len g
               rw [List.length_cons];omega
             · rw [if_neg g] at h2;injection h2 with h2;cases h2
       · rw [if_neg c] at h
         by_cases k1:t.kind=1
         · rw [if_pos k1] at h;injection h with h;injection h with h;injection h with h3 h4;injection h4 with h4 h5;subst h3;subst h5;simp only [List.length_cons,List.length_nil];omega
         rw [if_neg k1] at h
         by_cases k2:t.kind=2
         · rw [if_pos k2] at h;injection h with h;injection h with h;injection h with h3 h4;injection h4 with h4 h5;subst h3;subst h5;simp only [List.length_cons,List.length_nil];omega
         rw [if_neg k2] at h
         by_cases k6:t.kind=6
         · rw [if_pos k6] at h;injection h with h;injection h with h;injection h with h3 h4;injection h4 with h4 h5;subst h3;subst h5;simp only [List.length_cons,List.length_nil];omega
         rw [if_neg k6] at h
         by_cases k4:t.kind=4
         · rw [if_pos k4] at h;injection h with h
           obtain ⟨s1,s2,_⟩:=refP_ok h
           have:=s1.len
           rw [List.length_cons,s2];omega
         rw [if_neg k4] at h
         by_cases k3:t.kind=3
         · rw [if_pos k3] at h
           by_cases w1:t.text=⟨#[84,82,85,69]⟩
           · rw [if_pos w1] at h;injection h with h;injection h with h;injection h with h3 h4;injection h4 with h4 h5;subst h3;subst h5;simp only [List.length_cons,List.length_nil];omega
           rw [if_neg w1] at h
           by_cases w2:t.text=⟨#[70,65,76,83,69]⟩
           · rw [if_pos w2] at h;injection h with h;injection h with h;injection h with h3 h4;injection h4 with h4 h5;subst h3;subst h5;simp only [List.length_cons,List.length_nil];omega
           rw [if_neg w2] at h
           by_cases w3:signIs ⟨#[40]⟩ ts=true
           · rw [if_pos w3] at h
             have htl:=tail_len w3
             by_cases d:12≤deep
             · rw [if_pos d] at h;injection h with h;cases h
             rw [if_neg d] at h
             rcases bindR_some h with ⟨e,_,h2⟩ | ⟨ms,ks,s,h1,h2⟩
             · cases h2
             · have hms:ms.length+s.length≤ts.tail.length:=by
                by_cases g:signIs ⟨#[41]⟩ ts.tail=true
                · rw [if_pos g] at h1
                  injection h1 with h1;injection h1 with h1;injection h1 with h3 h4;injection h4 with h4 h5
                  subst h3;subst h5;simp
                · rw [if_neg g] at h1
                  have:=i4 _ _ _ _ _ _ _ _ h1
                  simpa using this
               by_cases g:signIs ⟨#[41]⟩ s=true
               · rw [if_pos g] at h2
                 injection h2 with h2;injection h2 with h2;injection h2 with h3 h4;injection h4 with h4 h5
                 subst h3;subst h5
                 have:=tail_len g
                 rw [List.length_append,List.length_singleton,List.length_cons];omega
               · rw [if_neg g] at h2;injection h2 with h2;cases h2
           · rw [if_neg w3] at h;injection h with h;cases h
         · rw [if_neg k3] at h;injection h with h;cases h
   · intro deep base ns ks ts ns' ks' r h
     rw [argsP_succ] at h
     rcases bindR_some h with ⟨e,_,h2⟩ | ⟨ms,b,s,h1,h2⟩
     · cases h2
     · have h3:=i1 _ _ _ _ _ _ _ h1
       by_cases d:signIs ⟨#[44]⟩ s=true
       · rw [if_pos d] at h2
         have:=tail_len d
         have:=i4 _ _ _ _ _ _ _ _ h2
         rw [List.length_append] at this;omega
       · rw [if_neg d] at h2
         injection h2 with h2;injection h2 with h2;injection h2 with h3 h4;injection h4 with h4 h5
         subst h3;subst h5;rw [List.length_append];omega
def noRf (r:Rf):Bool:=decide (r.sh=⟨#[]⟩∧r.c=0∧r.r=0)&&(!r.ac && !r.ar)
def mayRf (r:Rf):Bool:=mayL (sb r.sh) r.c r.r
def printB (l:List Int):Bool:=decide (∀ x∈l,¬ x<32)
def callB (s:ByteArray):Bool:=calledL (sb s)&&((readS s).isNone&&(decide (¬ s=⟨#[84,82,85,69]⟩)&&decide (¬ s=⟨#[70,65,76,83,69]⟩)))
def armsN (k:Int):Int:=if 1≤k∧k≤6 then 0 else if k=7 then -1 else if k=8 then 1 else if 9≤k∧k≤19 then 2 else -2
def leafB (n:Nd):Bool :=
 if (n.kind≠1∧n.kind≠3∧n.num≠0)∨(n.kind≠2∧n.kind≠7∧n.text≠⟨#[]⟩)∨(n.kind≠5∧n.kind≠6∧noRf n.ref=false)∨(n.kind≠6∧noRf n.zto=false) then false
 else if n.kind=1 then decide (0≤n.num)
 else if n.kind=3 then decide (n.num=0∨n.num=1)
 else if n.kind=2 then printB (sb n.text)
 else if n.kind=7 then callB n.text
 else if n.kind=5 then mayRf n.ref
 else if n.kind=6 then mayRf n.ref&&(mayRf n.zto&&spanB n.ref n.zto)
 else true
def nodeB (n:Nd):Bool:=leafB n&&(decide (armsN n.kind = -1)||decide (armsN n.kind=n.kids.length))
def treeF:List Int→Nat→List Nd→Bool
 | st,_,[]=>decide (st.length=1)
 | st,i,n :: ns=>nodeB n&&(decide (n.kids.length≤st.length)&&(decide (st.drop (st.length - n.kids.length)=n.kids)&&treeF (st.take (st.length - n.kids.length)++[(i:Int)]) (i+1) ns))
theorem treeF_cons (st:List Int) (i:Nat) (n:Nd) (ns:List Nd):treeF st i (n :: ns)=(nodeB n&&(decide (n.kids.length≤st.length)&&(decide (st.drop (st.length - n.kids.length)=n.kids)&&treeF (st.take (st.length - n.kids.length)++[(i:Int)]) (i+1) ns))):=rfl
def treeB (l:List Nd):Bool:=treeF [] 0 l
def Plants (base:Nat) (ns:List Nd) (ks:List Int):Prop:=∀ st rest,treeF st base (ns++rest)=treeF (st++ks) (base+ns.length) rest
theorem Plants.nil (base:Nat):Plants base [] []:=fun st rest=>by simp
theorem Plants.app {base:Nat} {ns ms:List Nd} {ks js:List Int} (h:Plants base ns ks) (g:Plants (base+ns.length) ms js):Plants base (ns++ms) (ks++js):=by
 intro st rest
 rw [List.append_assoc,h,g,List.append_assoc,List.length_append,Nat.add_assoc]
theorem Plants.node {base:Nat} {ns:List Nd} {n:Nd} (h:Plants base ns n.kids) (hn:nodeB n=true):Plants base (ns++[n]) [((base+ns.length:Nat):Int)]:=by
 intro st rest
 rw [List.append_assoc,h]
 show treeF (st++n.kids) (base+ns.length) (n :: rest)=_
 rw [treeF_cons]
 have e1:(st++n.kids).length - n.kids.length=st.length:=by rw [List.length_append];omega
 rw [hn,e1,List.drop_left,List.take_left,decide_eq_true (show n.kids.length≤(st++n.kids).length by rw [List.length_append];omega),decide_eq_true rfl,Bool.true_and,Bool.true_and,Bool.true_and,List.length_append]
 rfl
structure GoodT (t:Tk):Prop where
 num:t.kind=1→0≤t.num
 text:t.kind=2→printB (sb t.text)=true
 name:t.kind=3→calledL (sb t.text)=true∧(readS t.text).isNone=true
 ref:t.kind=4→mayRf t.rf=true
def Good (ts:List Tk):Prop:=∀ t∈ts,GoodT t
theorem Good.tail {ts:List Tk} (h:Good ts):Good ts.tail:=fun t ht=>h t (List.mem_of_mem_tail ht)
theorem Good.suf {m:Nat} {r ts:List Tk} (h:Good ts) (hs:Suf m r ts):Good r:=by
 obtain ⟨p,rfl,_,_⟩:=hs;exact fun t ht=>h t (List.mem_append_right _ ht)
theorem noRf_zero:noRf Rf.zero=true:=by decide
theorem opK_kind {n:Nat} {ts:List Tk} (h:opK n ts≠0):9≤opK n ts∧opK n ts≤19:=by
 obtain ⟨p,hp,_,e⟩:=opK_pos h
 rw [e]
 match n with
 | 0=>simp [levelL] at hp;rcases hp with rfl | rfl | rfl | rfl | rfl | rfl <;> decide
 | 1=>simp [levelL] at hp;subst hp;decide
 | 2=>simp [levelL] at hp;rcases hp with rfl | rfl <;> decide
 | n+3=>simp [levelL] at hp;rcases hp with rfl | rfl <;> decide
theorem node_op {k a b:Int} (h:9≤k∧k≤19):nodeB { Nd.zero with kind:=k,kids:=[a,b] }=true:=by
 unfold nodeB
 have h1:leafB { Nd.zero with kind:=k,kids:=[a,b] }=true:=by
  unfold leafB
  rw [if_neg (by
   rintro (⟨_,_,h⟩ | ⟨_,_,h⟩ | ⟨_,_,h⟩ | ⟨_,h⟩)
   · exact h rfl
   · exact h rfl
   · rw [show noRf ({ Nd.zero with kind:=k,kids:=[a,b] }:Nd).ref=true from noRf_zero] at h;cases h
   · rw [show noRf ({ Nd.zero with kind:=k,kids:=[a,b] }:Nd).zto=true from noRf_zero] at h;cases h),if_neg (by show ¬ k=1;omega),if_neg (by show ¬ k=3;omega),if_neg (by show ¬ k=2;omega),if_neg (by show ¬ k=7;omega),if_neg (by show ¬ k=5;omega),if_neg (by show ¬ k=6;omega)]
 have h2:armsN k=2:=by unfold armsN;rw [if_neg (by omega),if_neg (by omega),if_neg (by omega),if_pos h]
 rw [h1,Bool.true_and,Bool.or_eq_true]
 right
 rw [decide_eq_true_iff];exact h2
theorem node_neg (a:Int):nodeB { Nd.zero with kind:=8,kids:=[a] }=true:=by
 unfold nodeB leafB;rfl
theorem node_num {n:Int} (h:0≤n):nodeB { Nd.zero with kind:=1,num:=n }=true:=by
 unfold nodeB
 have h1:leafB { Nd.zero with kind:=1,num:=n }=true:=by
  unfold leafB
  rw [if_neg (by
   rintro (⟨h,_⟩ | ⟨_,_,h⟩ | ⟨_,_,h⟩ | ⟨_,h⟩)
   · exact h rfl
   · exact h rfl
   · rw [show noRf ({ Nd.zero with kind:=1,num:=n }:Nd).ref=true from noRf_zero] at h;cases h
   · rw [show noRf ({ Nd.zero with kind:=1,num:=n }:Nd).zto=true from noRf_zero] at h;cases h),if_pos rfl]
  exact decide_eq_true h
 rw [h1];rfl
theorem node_text {s:ByteArray} (h:printB (sb s)=true):nodeB { Nd.zero with kind:=2,text:=s }=true:=by
 unfold nodeB
 have h1:leafB { Nd.zero with kind:=2,text:=s }=true:=by
  unfold leafB
  rw [if_neg (by
   rintro (⟨_,_,h⟩ | ⟨h,_⟩ | ⟨_,_,h⟩ | ⟨_,h⟩)
   · exact h rfl
   · exact h rfl
   · rw [show noRf ({ Nd.zero with kind:=2,text:=s }:Nd).ref=true from noRf_zero] at h;cases h
   · rw [show noRf ({ Nd.zero with kind:=2,text:=s }:Nd).zto=true from noRf_zero] at h;cases h),if_neg (by show ¬ (2:Int)=1;omega),if_neg (by show ¬ (2:Int)=3;omega),if_pos rfl]
  exact h
 rw [h1];rfl
theorem node_call {s:ByteArray} {ks:List Int} (h:callB s=true):nodeB { Nd.zero with kind:=7,text:=s,kids:=ks }=true:=by
 unfold nodeB
 have h1:leafB { Nd.zero with kind:=7,text:=s,kids:=ks }=true:=by
  unfold leafB
  rw [if_neg (by
   rintro (⟨_,_,h⟩ | ⟨_,h,_⟩ | ⟨_,_,h⟩ | ⟨_,h⟩)
   · exact h rfl
   · exact h rfl
   · rw [show noRf ({ Nd.zero with kind:=7,text:=s,kids:=ks }:Nd).ref=true from noRf_zero] at h;cases h
   · rw [show noRf ({ Nd.zero with kind:=7,text:=s,kids:=ks }:Nd).zto=true from noRf_zero] at h;cases h),if_neg (by show ¬ (7:Int)=1;omega),if_neg (by show ¬ (7:Int)=3;omega),if_neg (by show ¬ (7:Int)=2;omega),if_pos rfl]
  exact h
 rw [h1];rfl
theorem node_ref {r:Rf} (h:mayRf r=true):nodeB { Nd.zero with kind:=5,ref:=r }=true:=by
 unfold nodeB
 have h1:leafB { Nd.zero with kind:=5,ref:=r }=true:=by
  unfold leafB
  rw [if_neg (by
   rintro (⟨_,_,h⟩ | ⟨_,_,h⟩ | ⟨h,_⟩ | ⟨_,h⟩)
   · exact h rfl
   · exact h rfl
   · exact h rfl
   · rw [show noRf ({ Nd.zero with kind:=5,ref:=r }:Nd).zto=true from noRf_zero] at h;cases h),if_neg (by show ¬ (5:Int)=1;omega),if_neg (by show ¬ (5:Int)=3;omega),if_neg (by show ¬ (5:Int)=2;omega),if_neg (by show ¬ (5:Int)=7;omega),if_pos rfl]
  exact h
 rw [h1];rfl
theorem node_range {r t:Rf} (h:mayRf r=true) (g:mayRf t=true) (hs:spanB r t=true):nodeB { Nd.zero with kind:=6,ref:=r,zto:=t }=true:=by
 unfold nodeB
 have h1:leafB { Nd.zero with kind:=6,ref:=r,zto:=t }=true:=by
  unfold leafB
  rw [if_neg (by
   rintro (⟨_,_,h⟩ | ⟨_,_,h⟩ | ⟨_,h,_⟩ | ⟨h,_⟩)
   · exact h rfl
   · exact h rfl
   · exact h rfl
   · exact h rfl),if_neg (by show ¬ (6:Int)=1;omega),if_neg (by show ¬ (6:Int)=3;omega),if_neg (by show ¬ (6:Int)=2;omega),if_neg (by show ¬ (6:Int)=7;omega),if_neg (by show ¬ (6:Int)=5;omega),if_pos rfl]
  show (mayRf r&&(mayRf t&&spanB r t))=true
  rw [h,g,hs];rfl
 rw [h1];rfl
theorem Plants.leaf {base:Nat} {n:Nd} (hk:n.kids=[]) (hn:nodeB n=true):Plants base [n] [(base:Int)]:=by
 have h:=Plants.node (base:=base) (ns:=[]) (n:=n) (by rw [hk];exact Plants.nil base) hn
 exact h
theorem refP_tree {base:Nat} {t:Tk} {ts:List Tk} {ns:List Nd} {a:Nat} {r:List Tk} (h:refP base t ts = .ok (ns,a,r)) (ht:mayRf t.rf=true) (hg:Good ts):Plants base ns [(a:Int)]:=by
 unfold refP at h
 by_cases c:signIs ⟨#[58]⟩ ts=true
 · rw [if_pos c] at h
   cases hq:ts.tail with
   | nil=>rw [hq] at h;cases h
   | cons u us =>
     rw [hq] at h
     simp only at h
     by_cases d:u.kind=4∧spanB t.rf u.rf=true
     · rw [if_pos d] at h
       injection h with h;injection h with h1 h2;injection h2 with h2 h3
       subst h1;subst h2
       have hu:=(hg u (List.mem_of_mem_tail (by rw [hq];simp))).ref d.1
       exact Plants.leaf rfl (node_range ht hu d.2)
     · rw [if_neg d] at h;cases h
 · rw [if_neg c] at h
   injection h with h;injection h with h1 h2;injection h2 with h2 h3
   subst h1;subst h2
   exact Plants.leaf rfl (node_ref ht)
theorem told_tree : ∀ f : Nat, (∀ n deep base ts ns a r,exprP f n deep base ts=some (.ok (ns,a,r))→Good ts→Plants base ns [(a:Int)]) ∧
 (∀ n deep base ns a ts ns' a' r,rowP f n deep base ns a ts=some (.ok (ns',a',r))→Good ts→Plants base ns [(a:Int)]→Plants base ns' [(a':Int)]) ∧
 (∀ deep base ts ns a r,primP f deep base ts=some (.ok (ns,a,r))→Good ts→Plants base ns [(a:Int)]) ∧
 (∀ deep base ns ks ts ns' ks' r,argsP f deep base ns ks ts=some (.ok (ns',ks',r))→Good ts→Plants base ns ks→Plants base ns' ks')
 | 0=>by
   refine ⟨?_, ?_, ?_, ?_⟩
   · intro n deep base ts ns a r h;unfold exprP at h;cases h
   · intro n deep base ns a ts ns' a' r h;unfold rowP at h;cases h
   · intro deep base ts ns a r h;unfold primP at h;cases h
   · intro deep base ns ks ts ns' ks' r h;unfold argsP at h;cases h
 | f + 1 => by
   obtain ⟨i1,i2,i3,i4⟩:=told_tree f
   refine ⟨?_, ?_, ?_, ?_⟩
   · intro n deep base ts ns a r h hg
     rw [exprP_succ] at h
     by_cases c:n≤3
     · rw [if_pos c] at h
       rcases bindR_some h with ⟨e,_,h2⟩ | ⟨ms,b,s,h1,h2⟩
       · cases h2
       · exact i2 _ _ _ _ _ _ _ _ _ h2 (hg.suf ((told_all f).1 _ _ _ _ _ _ _ h1).1) (i1 _ _ _ _ _ _ _ h1 hg)
     · rw [if_neg c] at h
       by_cases d:signIs ⟨#[45]⟩ ts=true
       · rw [if_pos d] at h
         by_cases d2:12≤deep
         · rw [if_pos d2] at h;cases h
         · rw [if_neg d2] at h
           rcases bindR_some h with ⟨e,_,h2⟩ | ⟨ms,b,s,h1,h2⟩
           · cases h2
           · injection h2 with h2;injection h2 with h2;injection h2 with h3 h4;injection h4 with h4 h5
             subst h3;subst h4
             exact Plants.node (n:={ Nd.zero with kind:=8,kids:=[(b:Int)] }) (i1 _ _ _ _ _ _ _ h1 hg.tail) (node_neg _)
       · rw [if_neg d] at h;exact i3 _ _ _ _ _ _ h hg
   · intro n deep base ns a ts ns' a' r h hg hp
     rw [rowP_succ] at h
     by_cases c:opK n ts=0
     · rw [if_pos c] at h
       injection h with h;injection h with h;injection h with h1 h2;injection h2 with h2 h3
       subst h1;subst h2;exact hp
     · rw [if_neg c] at h
       rcases bindR_some h with ⟨e,_,h2⟩ | ⟨ms,b,s,h1,h2⟩
       · cases h2
       · have p2:=i1 _ _ _ _ _ _ _ h1 hg.tail
         have p3:=Plants.node (n:={ Nd.zero with kind:=opK n ts,kids:=[(a:Int),(b:Int)] }) (Plants.app hp p2) (node_op (opK_kind c))
         rw [List.append_assoc,List.length_append] at p3
         exact i2 _ _ _ _ _ _ _ _ _ h2 (hg.tail.suf ((told_all f).1 _ _ _ _ _ _ _ h1).1) p3
   · intro deep base ts ns a r h hg
     cases ts with
     | nil=>rw [primP_nil] at h;cases h
     | cons t ts =>
       have ht:=hg t (by simp)
       have hgs:Good ts:=fun x hx=>hg x (by simp [hx])
       have leaf:∀ (x:Nd),x.kids=[]→nodeB x=true→(some (.ok ([x],base,ts)):Option Res)=some (.ok (ns,a,r))→Plants base ns [(a:Int)]:=by
        intro x hk hn h
        injection h with h;injection h with h;injection h with h1 h2;injection h2 with h2 h3
        subst h1;subst h2
        exact Plants.leaf hk hn
       rw [primP_cons] at h
       by_cases c1:signIs ⟨#[40]⟩ (t :: ts)=true
       · rw [if_pos c1] at h
         by_cases d:12≤deep
         · rw [if_pos d] at h;cases h
         · rw [if_neg d] at h
           rcases bindR_some h with ⟨e,_,h2⟩ | ⟨ms,b,s,h1,h2⟩
           · cases h2
           · by_cases d2:signIs ⟨#[41]⟩ s=true
             · rw [if_pos d2] at h2
               injection h2 with h2;injection h2 with h2;injection h2 with h3 h4;injection h4 with h4 h5
               subst h3;subst h4
               exact i1 _ _ _ _ _ _ _ h1 hgs
             · rw [if_neg d2] at h2;cases h2
       · rw [if_neg c1] at h
         by_cases c2:t.kind=1
         · rw [if_pos c2] at h;exact leaf { Nd.zero with kind:=1,num:=t.num } rfl (node_num (ht.num c2)) h
         · rw [if_neg c2] at h
           by_cases c3:t.kind=2
           · rw [if_pos c3] at h;exact leaf { Nd.zero with kind:=2,text:=t.text } rfl (node_text (ht.text c3)) h
           · rw [if_neg c3] at h
             by_cases c4:t.kind=6
             · rw [if_pos c4] at h;exact leaf { Nd.zero with kind:=4 } rfl rfl h
             · rw [if_neg c4] at h
               by_cases c5:t.kind=4
               · rw [if_pos c5] at h
                 injection h with h
                 exact refP_tree h (ht.ref c5) hgs
               · rw [if_neg c5] at h
                 by_cases c6:t.kind=3
                 · rw [if_pos c6] at h
                   by_cases c7:t.text=⟨#[84,82,85,69]⟩
                   · rw [if_pos c7] at h;exact leaf { Nd.zero with kind:=3,num:=1 } rfl rfl h
                   · rw [if_neg c7] at h
                     by_cases c8:t.text=⟨#[70,65,76,83,69]⟩
                     · rw [if_pos c8] at h;exact leaf { Nd.zero with kind:=3 } rfl rfl h
                     · rw [if_neg c8] at h
                       by_cases c9:signIs ⟨#[40]⟩ ts=true
                       · rw [if_pos c9] at h
                         by_cases d:12≤deep
                         · rw [if_pos d] at h;cases h
                         · rw [if_neg d] at h
                           rcases bindR_some h with ⟨e,_,h2⟩ | ⟨ms,ks,s,h1,h2⟩
                           · cases h2
                           · have k1:Plants base ms ks:=by
                              by_cases c10:signIs ⟨#[41]⟩ ts.tail=true
                              · rw [if_pos c10] at h1
                                injection h1 with h1;injection h1 with h1;injection h1 with h3 h4;injection h4 with h4 h5
                                subst h3;subst h4;exact Plants.nil _
                              · rw [if_neg c10] at h1;exact i4 _ _ _ _ _ _ _ _ h1 hgs.tail (Plants.nil _)
                             by_cases d2:signIs ⟨#[41]⟩ s=true
                             · rw [if_pos d2] at h2
                               injection h2 with h2;injection h2 with h2;injection h2 with h3 h4;injection h4 with h4 h5
                               subst h3;subst h4
                               have hcb:callB t.text=true:=by
                                unfold callB
                                rw [(ht.name c6).1,(ht.name c6).2,decide_eq_true c7,decide_eq_true c8];rfl
                               exact Plants.node (n:={ Nd.zero with kind:=7,text:=t.text,kids:=ks }) k1 (node_call hcb)
                             · rw [if_neg d2] at h2;cases h2
                       · rw [if_neg c9] at h;cases h
                 · rw [if_neg c6] at h;cases h
   · intro deep base ns ks ts ns' ks' r h hg hp
     rw [argsP_succ] at h
     rcases bindR_some h with ⟨e,_,h2⟩ | ⟨ms,b,s,h1,h2⟩
     · cases h2
     · have p2:=Plants.app hp (i1 _ _ _ _ _ _ _ h1 hg)
       have hgs:=hg.suf ((told_all f).1 _ _ _ _ _ _ _ h1).1
       by_cases d:signIs ⟨#[44]⟩ s=true
       · rw [if_pos d] at h2
         exact i4 _ _ _ _ _ _ _ _ h2 hgs.tail p2
       · rw [if_neg d] at h2
         injection h2 with h2;injection h2 with h2;injection h2 with h3 h4;injection h4 with h4 h5
         subst h3;subst h4;exact p2
theorem parse_tree {f:Nat} {ts:List Tk} {ns:List Nd} (h:parseP f ts=some (.ok ns)) (hg:Good ts):treeB ns=true:=by
 unfold parseP at h
 rcases bindR_some h with ⟨e,_,h2⟩ | ⟨ms,b,s,h1,h2⟩
 · cases h2
 · have hp:=(told_tree f).1 _ _ _ _ _ _ _ h1 hg
   by_cases c:kindAt s=0
   · rw [if_pos c] at h2
     injection h2 with h2;injection h2 with h2
     subst h2
     have:=hp [] []
     rw [List.append_nil] at this
     unfold treeB;rw [this];rfl
   · rw [if_neg c] at h2;cases h2
theorem quoF_good:∀ (n:Nat) (l t:List Int) (k:Nat),l.length≤n→Bytes l→quoF l=some (t,k)→Bytes t∧∀ x∈t,¬ x<32
 | _,[],_,_,_,_,h=>by simp [quoF] at h
 | 0,_ :: _,_,_,hn,_,_=>by simp at hn
 | n + 1, x :: l,t,k,hn,hb,h=>by
   have hbl:Bytes l:=fun y hy=>hb y (by simp [hy])
   rw [quoF_cons] at h
   by_cases h1:x<32
   · rw [if_pos h1] at h;cases h
   · rw [if_neg h1] at h
     by_cases h2:x≠34
     · rw [if_pos h2] at h
       cases hq:quoF l with
       | none=>rw [hq] at h;cases h
       | some q =>
         rw [hq] at h
         simp only [Option.map_some,Option.some.injEq,Prod.mk.injEq] at h
         obtain ⟨g1,g2⟩:=quoF_good n l q.1 q.2 (by simp at hn;omega) hbl hq
         rw [← h.1]
         refine ⟨?_, ?_⟩
         · intro y hy
           rcases List.mem_cons.1 hy with rfl | hy
           · exact hb _ (by simp)
           · exact g1 y hy
         · intro y hy
           rcases List.mem_cons.1 hy with rfl | hy
           · exact h1
           · exact g2 y hy
     · rw [if_neg h2] at h
       cases l with
       | nil=>simp at h;rw [h.1];exact ⟨Bytes.nil,by simp⟩
       | cons y m =>
         by_cases hy:y=34
         · simp only [hy,if_true] at h
           cases hq:quoF m with
           | none=>rw [hq] at h;cases h
           | some q =>
             rw [hq] at h
             simp only [Option.map_some,Option.some.injEq,Prod.mk.injEq] at h
             obtain ⟨g1,g2⟩:=quoF_good n m q.1 q.2 (by simp at hn;omega) (fun z hz=>hbl z (by simp [hz])) hq
             rw [← h.1]
             refine ⟨?_, ?_⟩
             · intro z hz
               rcases List.mem_cons.1 hz with rfl | hz
               · omega
               · exact g1 z hz
             · intro z hz
               rcases List.mem_cons.1 hz with rfl | hz
               · omega
               · exact g2 z hz
         · simp only [hy,if_false,Option.some.injEq,Prod.mk.injEq] at h
           rw [← h.1];exact ⟨Bytes.nil,by simp⟩
theorem Bytes.span {l:List Int} (h:Bytes l) (p:Int→Bool):Bytes (l.takeWhile p):=fun x hx=>h x ((List.takeWhile_prefix p).subset hx)
theorem tokT_good (l:List Int) (t:Tk) (n p:Nat) (hb:Bytes l) (h:tokT l=some (t,n)):GoodT (t.goto p)∧t.kind≠0:=by
 cases l with
 | nil=>simp [tokT] at h
 | cons x l =>
   rw [tokT_cons] at h
   by_cases h1:isNum x=true
   · rw [if_pos h1] at h
     unfold numT at h
     split at h
     · cases h
     · simp only [Option.some.injEq,Prod.mk.injEq] at h
       rw [← h.1]
       have hv:=valL_ge ((x :: l).takeWhile isNum) [] (take_all isNum _) (by decide)
       rw [List.nil_append] at hv
       exact ⟨⟨fun _=>hv,fun h=>by simp [Tk.goto] at h,fun h=>by simp [Tk.goto] at h,fun h=>by simp [Tk.goto] at h⟩,by simp⟩
   · rw [if_neg h1] at h
     by_cases h2:x=34
     · rw [if_pos h2] at h
       unfold quoT at h
       cases hq:quoF l with
       | none=>rw [hq] at h;cases h
       | some q =>
         rw [hq] at h
         simp only [Option.map_some,Option.some.injEq,Prod.mk.injEq] at h
         obtain ⟨g1,g2⟩:=quoF_good _ l q.1 q.2 (Nat.le_refl _) (fun y hy=>hb y (by simp [hy])) hq
         rw [← h.1]
         refine ⟨⟨fun h=>by simp [Tk.goto] at h,fun _ => ?_,fun h=>by simp [Tk.goto] at h,fun h=>by simp [Tk.goto] at h⟩,by simp⟩
         show printB (sb (strOfNums q.1))=true
         rw [sb_str _ g1];unfold printB;exact decide_eq_true g2
     · rw [if_neg h2] at h
       by_cases h3:x=35
       · rw [if_pos h3] at h
         unfold deadT at h
         split at h
         · simp only [Option.some.injEq,Prod.mk.injEq] at h
           rw [← h.1]
           exact ⟨⟨fun h=>by simp [Tk.goto] at h,fun h=>by simp [Tk.goto] at h,fun h=>by simp [Tk.goto] at h,fun h=>by simp [Tk.goto] at h⟩,by simp⟩
         · cases h
       · rw [if_neg h3] at h
         by_cases h4:isLet x=true∨x=36
         · rw [if_pos h4] at h
           unfold wordT at h
           cases hq:readS (strOfNums ((x :: l).takeWhile isWord)) with
           | some d =>
             rw [hq] at h
             simp only [Option.some.injEq,Prod.mk.injEq] at h
             rw [← h.1]
             exact ⟨⟨fun h=>by simp [Tk.goto] at h,fun h=>by simp [Tk.goto] at h,fun h=>by simp [Tk.goto] at h,fun _=>(read_some _ d hq).2.1⟩,by simp⟩
           | none =>
             rw [hq] at h
             simp only at h
             by_cases hc:calledL ((x :: l).takeWhile isWord)=true
             · rw [if_pos hc] at h
               simp only [Option.some.injEq,Prod.mk.injEq] at h
               rw [← h.1]
               refine ⟨⟨fun h=>by simp [Tk.goto] at h,fun h=>by simp [Tk.goto] at h,fun _=>⟨?_, ?_⟩,fun h=>by simp [Tk.goto] at h⟩,by simp⟩
               · show calledL (sb (strOfNums ((x :: l).takeWhile isWord)))=true
                 rw [sb_str _ (hb.span isWord)];exact hc
               · show (readS (strOfNums ((x :: l).takeWhile isWord))).isNone=true
                 rw [hq];rfl
             · rw [if_neg hc] at h;cases h
         · rw [if_neg h4] at h
           unfold signT at h
           split at h
           · cases h
           · simp only [Option.some.injEq,Prod.mk.injEq] at h
             rw [← h.1]
             exact ⟨⟨fun h=>by simp [Tk.goto] at h,fun h=>by simp [Tk.goto] at h,fun h=>by simp [Tk.goto] at h,fun h=>by simp [Tk.goto] at h⟩,by simp⟩
def Fit (ts:List Tk):Prop:=∃ body e,ts=body++[e]∧e.kind=0∧∀ t∈body,t.kind≠0
theorem lexF_good:∀ (f p:Nat) (l:List Int) (ts:List Tk),Bytes l→lexF f p l=some ts→Good ts∧Fit ts
 | f,p,[],ts,_,h=>by
   have h0:lexF f p []=some [Tk.zero.goto p]:=by unfold lexF;rfl
   rw [h0] at h;injection h with h;subst h
   refine ⟨?_,[],_,rfl,rfl,by simp⟩
   intro t ht;simp at ht;subst ht
   exact ⟨fun h=>by simp [Tk.goto,Tk.zero] at h,fun h=>by simp [Tk.goto,Tk.zero] at h,fun h=>by simp [Tk.goto,Tk.zero] at h,fun h=>by simp [Tk.goto,Tk.zero] at h⟩
 | 0,_,_ :: _,_,_,h=>by unfold lexF at h;cases h
 | f + 1, p,x :: l,ts,hb,h=>by
   rw [lexF_cons] at h
   by_cases hx:x=32
   · rw [if_pos hx] at h
     exact lexF_good f (p+1) l ts (fun y hy=>hb y (by simp [hy])) h
   · rw [if_neg hx] at h
     cases hq:tokT (x :: l) with
     | none=>rw [hq] at h;cases h
     | some q =>
       obtain ⟨t0,n⟩:=q
       obtain ⟨g1,g2⟩:=tokT_good _ _ _ p hb hq
       rw [hq] at h
       simp only [Option.map_eq_some_iff] at h
       obtain ⟨us,h1,rfl⟩:=h
       obtain ⟨k1,body,e,k2,k3,k4⟩:=lexF_good f (p+n) ((x :: l).drop n) us (fun y hy=>hb y (List.mem_of_mem_drop hy)) h1
       refine ⟨?_,t0.goto p :: body,e,by rw [k2];rfl,k3, ?_⟩
       · intro t ht
         rcases List.mem_cons.1 ht with rfl | ht
         · exact g1
         · exact k1 t ht
       · intro t ht
         rcases List.mem_cons.1 ht with rfl | ht
         · exact g2
         · exact k4 t ht
theorem lexL_good (s:ByteArray) (ts:List Tk) (h:lexL (sb s)=some ts):Good ts∧Fit ts:=lexF_good _ _ _ _ (fun x hx=>sb_bd s x hx) h
theorem digL_head:∀ (n u:Nat),u<n→1≤u→(digL u).head? ≠ some 48:=by
 intro n
 induction n with
 | zero=>intro u h;omega
 | succ n ih =>
   intro u hu h1
   by_cases h:u<10
   · rw [digL_small u h];simp;omega
   · rw [digL_more u h]
     have:=ih (u / 10) (by omega) (by omega)
     cases hd:digL (u / 10) with
     | nil=>exact absurd hd (digL_ne _)
     | cons y l=>rw [hd] at this;simpa using this
theorem word_cap {x:Int} (h:isCap x=true):isWord x=true:=isWord_let (.inl (by unfold isCap at h;unfold isLet;rw [decide_eq_true_iff] at h ⊢;omega))
theorem word_num {x:Int} (h:isNum x=true):isWord x=true:=by unfold isWord;rw [h];simp
theorem word_tail (c r:Int) (ac ar:Bool):∀ x∈tailL c r ac ar,isWord x=true:=by
 intro x hx
 unfold tailL at hx
 simp only [List.mem_append] at hx
 rcases hx with h | h | h | h
 · have:=dol_all _ x h;rw [decide_eq_true_iff] at this;subst this;decide
 · exact word_cap (isCap_colL c x h)
 · have:=dol_all _ x h;rw [decide_eq_true_iff] at this;subst this;decide
 · exact word_num (isNum_digL _ x h)
theorem word_name (l:List Int) (h:nameL l=true):∀ x∈l,isWord x=true:=by
 intro x hx
 unfold nameL at h
 rw [Bool.and_eq_true,decide_eq_true_iff] at h
 obtain ⟨j,hj,rfl⟩:=List.mem_iff_getElem.1 hx
 have:=h.1 j hj
 rw [List.getD_eq_getElem?_getD,List.getElem?_eq_getElem hj] at this
 simp only [Option.getD_some] at this
 unfold inName at this
 unfold isWord
 rw [Bool.or_eq_true,Bool.and_eq_true] at this
 rcases this with h1 | ⟨_,h1⟩
 · rw [h1];rfl
 · rw [h1];simp
theorem word_textL (sh:List Int) (c r:Int) (ac ar:Bool) (h:mayL sh c r=true):∀ x∈textL sh c r ac ar,isWord x=true:=by
 intro x hx
 rw [textL_eq _ _ _ _ _ h,List.mem_append] at hx
 rcases hx with hx | hx
 · by_cases h0:sh=[]
   · rw [if_pos h0] at hx;simp at hx
   · rw [if_neg h0,List.mem_append] at hx
     rcases hx with hx | hx
     · exact word_name sh ((mayL_sheet h).resolve_left h0) x hx
     · simp at hx;subst hx;decide
 · exact word_tail c r ac ar x hx
theorem textL_head (sh:List Int) (c r:Int) (ac ar:Bool) (h:mayL sh c r=true):∃ x l,textL sh c r ac ar=x :: l∧(isLet x=true∨x=36):=by
 rw [textL_eq _ _ _ _ _ h]
 obtain ⟨c0,c1,_,_⟩:=mayL_nums h
 by_cases h0:sh=[]
 · rw [if_pos h0,List.nil_append]
   unfold tailL
   cases ac with
   | true=>exact ⟨36,_,rfl,.inr rfl⟩
   | false =>
     have hcol:=isCap_colL c
     cases hc:colL c with
     | nil=>exact absurd hc (colL_ne c c0 c1)
     | cons y m =>
       refine ⟨y,_,rfl,.inl ?_⟩
       have:=hcol y (by rw [hc];simp)
       unfold isCap at this;unfold isLet;rw [decide_eq_true_iff] at this ⊢;omega
 · rw [if_neg h0]
   have hn:=(mayL_sheet h).resolve_left h0
   cases sh with
   | nil=>exact absurd rfl h0
   | cons y m =>
     refine ⟨y,_,rfl,.inl ?_⟩
     unfold nameL at hn
     rw [Bool.and_eq_true,decide_eq_true_iff] at hn
     have:=hn.1 0 (by simp)
     unfold inName at this
     simpa using this
theorem read_text (s:ByteArray) (c r:Int) (ac ar:Bool) (h:mayL (sb s) c r=true):∃ d,readS (strOfNums (textL (sb s) c r ac ar))=some d∧d.sh=s∧d.c=c∧d.r=r∧d.ac=ac∧d.ar=ar:=by
 have hb:=sb_str _ (bytes_textL s c r ac ar)
 cases hq:readS (strOfNums (textL (sb s) c r ac ar)) with
 | none=>exact absurd hb.symm (read_none _ hq _ _ _ _ _ h)
 | some d =>
   obtain ⟨_,h2,h3⟩:=read_some _ d hq
   rw [hb] at h3
   obtain ⟨e1,e2,e3,e4,e5⟩:=textL_inj h2 h h3
   exact ⟨d,rfl,sb_inj e1,e2,e3,e4,e5⟩
def dblL:List Int→List Int
 | []=>[]
 | x :: l=>(if x=34 then [34,34] else [x])++dblL l
set_option maxHeartbeats 400000 in
theorem isCapital_any (c:Int) (_h0:0≤c) (_h1:c≤255) (w:World) :
 Calls Tryz.prog 54 #[.int .u8 c] w fun e w'=>e = .returned (.bool (isCap c))∧w=w':=by
 go_enter Tryz.func54,Tryz.ntmps54
 go_wp2
 all_goals go_ret
 all_goals exact ⟨ret_bool (by unfold isCap;first | rfl | (symm;rw [decide_eq_true_iff];omega) | (symm;rw [decide_eq_false_iff_not];omega) | (rw [decide_eq_decide];omega)),rfl⟩
set_option maxHeartbeats 400000 in
theorem isDigit_any (c:Int) (_h0:0≤c) (_h1:c≤255) (w:World) :
 Calls Tryz.prog 34 #[.int .u8 c] w fun e w'=>e = .returned (.bool (isNum c))∧w=w':=by
 go_enter Tryz.func34,Tryz.ntmps34
 go_wp2
 all_goals go_ret
 all_goals exact ⟨ret_bool (by unfold isNum;first | rfl | (symm;rw [decide_eq_true_iff];omega) | (symm;rw [decide_eq_false_iff_not];omega) | (rw [decide_eq_decide];omega)),rfl⟩
theorem isLet_cap {c:Int} (h:isCap c=true):isLet c=true:=by unfold isCap at h;unfold isLet;rw [decide_eq_true_iff] at h ⊢;omega
theorem isLet_nocap {c:Int} (h:isCap c=false):isLet c=decide (97≤c∧c≤122):=by unfold isCap at h;unfold isLet;rw [decide_eq_false_iff_not] at h;rw [decide_eq_decide];omega
set_option maxHeartbeats 400000 in
theorem isLetter_any (c:Int) (_h0:0≤c) (_h1:c≤255) (w:World) :
 Calls Tryz.prog 33 #[.int .u8 c] w fun e w'=>e = .returned (.bool (isLet c))∧w=w':=by
 by_cases hc:isCap c=true
 · have hl:=isLet_cap hc
   have HL:=Lib.hid hl;clear hl
   go_enter Tryz.func33,Tryz.ntmps33
   go_wp2_with (go_at_call 54;((with_reducible refine (isCapital_any _ ?_ ?_ _).mono ?_);(first | omega | skip);(first | omega | skip);rintro e w' ⟨rfl,rfl⟩))
   all_goals go_ret
   all_goals exact ⟨ret_bool (by rw [HL.out]),rfl⟩
 · have hc':isCap c=false:=by simpa using hc
   have hl:=isLet_nocap hc'
   have HL:=Lib.hid hl;clear hl hc
   go_enter Tryz.func33,Tryz.ntmps33
   go_wp2_with (go_at_call 54;((with_reducible refine (isCapital_any _ ?_ ?_ _).mono ?_);(first | omega | skip);(first | omega | skip);rintro e w' ⟨rfl,rfl⟩))
   all_goals go_ret
   all_goals exact ⟨ret_bool (by rw [HL.out];first | rfl | (symm;rw [decide_eq_true_iff];omega) | (symm;rw [decide_eq_false_iff_not];omega) | (rw [decide_eq_decide];omega)),rfl⟩
theorem nameL_nil (s:ByteArray) (h:s.size=0):nameL (sb s)=false:=by
 unfold nameL;rw [length_sb,h,Bool.and_eq_false_iff];right;rfl
theorem nameL_long (s:ByteArray) (h:12<s.size):nameL (sb s)=false:=by
 unfold nameL;rw [length_sb,Bool.and_eq_false_iff];right;rw [decide_eq_false_iff_not];omega
set_option maxRecDepth 100000 in
set_option maxHeartbeats 400000 in
theorem name_any (s:ByteArray) (w:World) (_hs:s.size≤1000000) :
 Calls Tryz.prog 21 #[.string s] w fun e w'=>e = .returned (.bool (nameL (sb s)))∧w=w':=by
 by_cases h0:s.size=0
 · have hz:=sb_nil s h0
   have hno:=nameL_nil s h0
   have HNO:=Lib.hid hno;clear hno
   subst hz
   clear h0 _hs
   go_enter Tryz.func21,Tryz.ntmps21
   go_wp2_with fail
   all_goals go_ret
   all_goals exact ⟨ret_bool HNO.out.symm,rfl⟩
 · have hne := text_ne0 s h0
   have hne2:s.toList.isEmpty=false:=by cases hq:s.toList with | nil=>exact absurd hq hne | cons a l=>rfl
   by_cases h12:12<s.size
   · have hno:=nameL_long s h12
     have HNO:=Lib.hid hno;clear hno
     have hi12:(12:Int)<(s.size:Int):=by omega
     clear h0
     go_enter Tryz.func21,Tryz.ntmps21
     go_wp2_with fail
     all_goals go_ret
     all_goals exact ⟨ret_bool HNO.out.symm,rfl⟩
   · have hi12 : ¬ (12:Int)<(s.size:Int):=by omega
     have hp0:0<s.size:=by omega
     obtain ⟨a,ha⟩:∃ a:Int,(s[0].toNat:Int)=a:=⟨_,rfl⟩
     have ha1:0≤a∧a≤255:=by have:=s[0].toNat_lt;omega
     have hga:(sb s).getD 0 0=a:=by rw [sb_getD s 0 hp0,ha]
     have HGA:=Lib.hid hga;clear hga
     by_cases hl:isLet a=true
     · have hin : ∀ j,j<1→inName j ((sb s).getD j 0)=true:=by
        intro j hj;have:j=0:=by omega
        subst this;rw [HGA.out];unfold inName;rw [hl];rfl
       have HIN:=Lib.hid hin;clear hin
       clear h0
       go_enter Tryz.func21,Tryz.ntmps21
       go_wp2_with (go_at_call 33;((with_reducible refine (isLetter_any _ ?_ ?_ _).mono ?_);(first | omega | skip);(first | omega | skip);rintro e w' ⟨rfl,rfl⟩))
       clear hl
       go_loopw [3] (fun i wr=>∃ k:Nat,1≤k∧k≤s.size∧i = .int .i64 k∧Hid (∀ j,j<k→inName j ((sb s).getD j 0)=true)∧w=wr)
        (fun i _=>s.size - (intOf i).toNat)
       case atStart=>exact ⟨1,by omega,by omega,rfl,HIN,rfl⟩
       case round =>
        obtain ⟨k,hk1,hk,rfl,HG,rfl⟩:=hrel
        by_cases hlt:k<s.size
        · have hki:(k:Int)<(s.size:Int):=by omega
          obtain ⟨b,hb⟩:∃ b:Int,(s[k].toNat:Int)=b:=⟨_,rfl⟩
          have hb1:0≤b∧b≤255:=by have:=s[k].toNat_lt;omega
          have hgb:(sb s).getD k 0=b:=by rw [sb_getD s k hlt,hb]
          have HGB:=Lib.hid hgb;clear hgb
          by_cases hl:isLet b=true
          · go_wp2_with (first
             | (go_at_call 33;((with_reducible refine (isLetter_any _ ?_ ?_ _).mono ?_);(first | omega | skip);(first | omega | skip);rintro e w' ⟨rfl,rfl⟩)))
            go_roundw
            case rel =>
             refine ⟨k+1,by omega,by omega,by go_num,Lib.hid ?_,by trivial⟩
             intro j hj
             by_cases h1:j<k
             · exact HG.out j h1
             · rw [show j=k from by omega,HGB.out];unfold inName;rw [hl,Bool.true_or]
            case measure=>simp [intOf];omega
          · have hl':isLet b=false:=by simpa using hl
            clear hl
            by_cases hn:isNum b=true
            · go_wp2_with (first
               | (go_at_call 33;((with_reducible refine (isLetter_any _ ?_ ?_ _).mono ?_);(first | omega | skip);(first | omega | skip);rintro e w' ⟨rfl,rfl⟩))
               | (go_at_call 34;((with_reducible refine (isDigit_any _ ?_ ?_ _).mono ?_);(first | omega | skip);(first | omega | skip);rintro e w' ⟨rfl,rfl⟩)))
              go_roundw
              case rel =>
               refine ⟨k+1,by omega,by omega,by go_num,Lib.hid ?_,by trivial⟩
               intro j hj
               by_cases h1:j<k
               · exact HG.out j h1
               · rw [show j=k from by omega,HGB.out];unfold inName;rw [hl',hn,decide_eq_true (by omega:0<k)];rfl
              case measure=>simp [intOf];omega
            · have hn':isNum b=false:=by simpa using hn
              clear hn
              have hno:=nameL_bad s k hlt (by rw [HGB.out];unfold inName;rw [hl',hn',Bool.and_false];rfl)
              have HNO:=Lib.hid hno;clear hno
              go_wp2_with (first
               | (go_at_call 33;((with_reducible refine (isLetter_any _ ?_ ?_ _).mono ?_);(first | omega | skip);(first | omega | skip);rintro e w' ⟨rfl,rfl⟩))
               | (go_at_call 34;((with_reducible refine (isDigit_any _ ?_ ?_ _).mono ?_);(first | omega | skip);(first | omega | skip);rintro e w' ⟨rfl,rfl⟩)))
              all_goals go_ret
              all_goals exact ⟨ret_bool HNO.out.symm,rfl⟩
        · have hki:¬ (k:Int)<(s.size:Int):=by omega
          have hno:=nameL_all s (fun j hj=>HG.out j (by omega))
          rw [decide_eq_true (by omega)] at hno
          have HNO:=Lib.hid hno;clear hno
          go_wp2_with fail
          all_goals go_ret
          all_goals exact ⟨ret_bool HNO.out.symm,rfl⟩
     · have hl':isLet a=false:=by simpa using hl
       have hno:=nameL_bad s 0 hp0 (by rw [HGA.out];unfold inName;rw [hl'];rfl)
       have HNO:=Lib.hid hno;clear hno hl h0
       go_enter Tryz.func21,Tryz.ntmps21
       go_wp2_with (go_at_call 33;((with_reducible refine (isLetter_any _ ?_ ?_ _).mono ?_);(first | omega | skip);(first | omega | skip);rintro e w' ⟨rfl,rfl⟩))
       all_goals go_ret
       all_goals exact ⟨ret_bool HNO.out.symm,rfl⟩
theorem enc_one:∀ m:Nat,m<26→Utf8.encode (65+(m:Int))=strOfNums [65+(m:Int)]:=by decide +kernel
theorem enc_cap (x:Int) (h0:65≤x) (h1:x≤90):Utf8.encode x=strOfNums [x]:=by
 have:=enc_one (x - 65).toNat (by omega)
 rw [show (65:Int)+((x - 65).toNat:Int)=x from by omega] at this;exact this
theorem str_app (a b:List Int) (A B:ByteArray) (h:A=strOfNums a) (k:B=strOfNums b):A++B=strOfNums (a++b):=by rw [h,k,str_append]
def RdAt (w:World) (b:Nat) (d:Rd):Prop:=w.heap[b]? = some (.cells d.cells 240)
theorem RdAt.lt {w:World} {b:Nat} {d:Rd} (h:RdAt w b d):b<w.heap.size:=(Array.getElem?_eq_some_iff.1 h).1
theorem RdAt.drewN {w:World} {b:Nat} {d:Rd} (h:RdAt w b d) (n:Nat):RdAt (w.drewN n) b d:=h
theorem RdAt.below {w w':World} {B b:Nat} {d:Rd} (h:RdAt w b d) (hb:Below B w w') (hB:b<B):RdAt w' b d:=by unfold RdAt;rw [hb.block b hB];exact h
theorem RdAt.facts {w:World} {b:Nat} {d:Rd} (h:RdAt w b d) :
 w.cell? ⟨b,0,none⟩=some (.string d.s)∧w.cell? ⟨b,1,none⟩=some (.int .i64 d.k)∧w.cell? ⟨b,2,none⟩=some (.string d.sh)∧w.cell? ⟨b,3,none⟩=some (.int .i64 d.c)∧w.cell? ⟨b,4,none⟩=some (.int .i64 d.r)∧w.cell? ⟨b,5,none⟩=some (.bool d.ac)∧w.cell? ⟨b,6,none⟩=some (.bool d.ar) :=
 ⟨by rw [cell_of_row w b 0 _ _ _ h];rfl,by rw [cell_of_row w b 1 _ _ _ h];rfl,by rw [cell_of_row w b 2 _ _ _ h];rfl,by rw [cell_of_row w b 3 _ _ _ h];rfl,by rw [cell_of_row w b 4 _ _ _ h];rfl,by rw [cell_of_row w b 5 _ _ _ h];rfl,by rw [cell_of_row w b 6 _ _ _ h];rfl⟩
theorem RdAt.frozen {w:World} {b:Nat} {d:Rd} (h:RdAt w b d) (j:Nat):w.frozen? ⟨b,j,none⟩=false:=frozen_of_row w b j _ _ h
theorem RdAt.setK {w:World} {b:Nat} {d:Rd} (h:RdAt w b d) (k:Nat):RdAt (w.setCell ⟨b,1,none⟩ (.int .i64 (k:Int))) b { d with k:=k }:=by unfold RdAt;rw [heap_setCell_same w b 1 _ _ _ h];rfl
theorem RdAt.setSh {w:World} {b:Nat} {d:Rd} (h:RdAt w b d) (s:ByteArray):RdAt (w.setCell ⟨b,2,none⟩ (.string s)) b { d with sh:=s }:=by unfold RdAt;rw [heap_setCell_same w b 2 _ _ _ h];rfl
theorem RdAt.setC {w:World} {b:Nat} {d:Rd} (h:RdAt w b d) (c:Int):RdAt (w.setCell ⟨b,3,none⟩ (.int .i64 c)) b { d with c:=c }:=by unfold RdAt;rw [heap_setCell_same w b 3 _ _ _ h];rfl
theorem RdAt.setR {w:World} {b:Nat} {d:Rd} (h:RdAt w b d) (c:Int):RdAt (w.setCell ⟨b,4,none⟩ (.int .i64 c)) b { d with r:=c }:=by unfold RdAt;rw [heap_setCell_same w b 4 _ _ _ h];rfl
theorem RdAt.setAc {w:World} {b:Nat} {d:Rd} (h:RdAt w b d) (x:Bool):RdAt (w.setCell ⟨b,5,none⟩ (.bool x)) b { d with ac:=x }:=by unfold RdAt;rw [heap_setCell_same w b 5 _ _ _ h];rfl
theorem RdAt.setAr {w:World} {b:Nat} {d:Rd} (h:RdAt w b d) (x:Bool):RdAt (w.setCell ⟨b,6,none⟩ (.bool x)) b { d with ar:=x }:=by unfold RdAt;rw [heap_setCell_same w b 6 _ _ _ h];rfl
def Part (o:Option Rd) (b:Nat) (w:World) (e:Ending) (w':World):Prop :=
 w.grownBy w' (some b)∧((∃ d',o=some d'∧e = .returned (.bool true)∧RdAt w' b d')∨(o=none∧e = .returned (.bool false)))
set_option maxHeartbeats 400000 in
theorem fin_any (b:Nat) (d:Rd) (w:World) (h:RdAt w b d) (_hs:d.s.size≤1000000) (_hk:d.k≤d.s.size) :
 Calls Tryz.prog 189 #[.pointer (some ⟨b,0,none⟩)] w (Part d.fin b w):=by
 obtain ⟨c0,c1,c2,c3,c4,c5,c6⟩:=h.facts
 clear c2 c3 c4 c5 c6
 have HR:=Lib.hid h;clear h
 by_cases hk:d.k=d.s.size
 · have hf:d.fin=some d:=by unfold Rd.fin;rw [if_pos hk]
   have HF:=Lib.hid hf;clear hf
   have hi:((d.k:Int) == (d.s.size:Int))=true:=beq_iff_eq.2 (by omega)
   go_enter Tryz.func189,Tryz.ntmps189
   go_wp2_with fail
   go_quiet (fail)
   go_wp2_with fail
   go_ret
   exact ⟨grownBy.drewN' (grownBy.refl' _ _) _,.inl ⟨d,HF.out,by simp,HR.out.drewN _⟩⟩
 · have hf:d.fin=none:=by unfold Rd.fin;rw [if_neg hk]
   have HF:=Lib.hid hf;clear hf
   have hi:((d.k:Int) == (d.s.size:Int))=false:=beq_eq_false_iff_ne.2 (by omega)
   go_enter Tryz.func189,Tryz.ntmps189
   go_wp2_with fail
   go_quiet (fail)
   go_wp2_with fail
   go_ret
   exact ⟨grownBy.drewN' (grownBy.refl' _ _) _,.inr ⟨HF.out,by simp⟩⟩
theorem rest_get (d:Rd) (h:d.k<d.s.size):d.rest.head? = some ((d.s[d.k].toNat:Nat):Int):=by
 unfold Rd.rest;rw [List.head?_drop,sb_at d.s d.k h]
theorem rest_end (d:Rd) (h:d.s.size≤d.k):d.rest=[]:=by
 unfold Rd.rest;rw [List.drop_eq_nil_iff,length_sb];exact h
set_option maxRecDepth 100000 in
set_option maxHeartbeats 400000 in
theorem mark_any (b:Nat) (d:Rd) (w:World) (h:RdAt w b d) (_hs:d.s.size≤1000000) (_hk:d.k≤d.s.size) :
 Calls Tryz.prog 200 #[.pointer (some ⟨b,0,none⟩)] w fun e w'=>e = .returned (.bool d.mark)∧RdAt w' b { d with k:=d.k+(dol d.mark).length }∧w.grownBy w' (some b):=by
 obtain ⟨c0,c1,c2,c3,c4,c5,c6⟩:=h.facts
 clear c2 c3 c4 c5 c6
 have f1:=h.frozen 1
 have HR:=Lib.hid h;clear h
 by_cases hk:d.k=d.s.size
 · have hf:d.mark=false:=by unfold Rd.mark;rw [rest_end d (by omega)];rfl
   have HF:=Lib.hid hf;clear hf
   have hi:((d.k:Int) == (d.s.size:Int))=true:=beq_iff_eq.2 (by omega)
   go_enter Tryz.func200,Tryz.ntmps200
   go_wp2_with fail
   go_quiet (fail)
   go_wp2_with fail
   go_ret
   rw [HF.out]
   exact ⟨rfl,HR.out.drewN _,grownBy.drewN' (grownBy.refl' _ _) _⟩
 · have hi:((d.k:Int) == (d.s.size:Int))=false:=beq_eq_false_iff_ne.2 (by omega)
   have hlt:d.k<d.s.size:=by omega
   have hki:(d.k:Int)<(d.s.size:Int):=by omega
   obtain ⟨a,ha⟩:∃ a:Int,(d.s[d.k].toNat:Int)=a:=⟨_,rfl⟩
   have ha1:0≤a∧a≤255:=by have:=d.s[d.k].toNat_lt;omega
   have hh:=rest_get d hlt
   rw [ha] at hh
   by_cases h36:a=36
   · have hf:d.mark=true:=by unfold Rd.mark;rw [hh,h36];rfl
     have HF:=Lib.hid hf;clear hf hh
     have hj:(a == 36)=true:=beq_iff_eq.2 h36
     have hj2:(a != 36)=false:=by rw [bne,hj];rfl
     clear h36
     go_enter Tryz.func200,Tryz.ntmps200
     go_wp2_with fail
     go_quiet (fail)
     go_wp2_with fail
     go_ret
     rw [HF.out]
     exact ⟨rfl,(HR.out.drewN _).setK (d.k+1),grownBy.setCell' (grownBy.drewN' (grownBy.refl' _ _) _) _ _⟩
   · have hf:d.mark=false:=by unfold Rd.mark;rw [hh,decide_eq_false_iff_not];intro h;injection h with h;exact h36 h
     have HF:=Lib.hid hf;clear hf hh
     have hj:(a == 36)=false:=beq_eq_false_iff_ne.2 h36
     have hj2:(a != 36)=true:=by rw [bne,hj];rfl
     clear h36
     go_enter Tryz.func200,Tryz.ntmps200
     go_wp2_with fail
     go_quiet (fail)
     go_wp2_with fail
     go_ret
     rw [HF.out]
     exact ⟨rfl,HR.out.drewN _,grownBy.drewN' (grownBy.refl' _ _) _⟩
set_option maxHeartbeats 400000 in
theorem absCol_any (b:Nat) (d:Rd) (w:World) (h:RdAt w b d) (_hs:d.s.size≤1000000) (_hk:d.k≤d.s.size) :
 Calls Tryz.prog 185 #[.pointer (some ⟨b,0,none⟩)] w (Part d.absCol b w):=by
 have HR:=Lib.hid h;clear h
 go_enter Tryz.func185,Tryz.ntmps185
 go_wp2_with (go_at_call 200;((with_reducible refine (mark_any b d _ HR.out ?_ ?_).mono ?_);(first | omega | skip);(first | omega | skip);rintro e w1 ⟨rfl,h1,h2⟩;obtain ⟨c0,c1,c2,c3,c4,c5,c6⟩:=h1.facts;have f5:=h1.frozen 5;have H1:=Lib.hid h1;clear h1;have H2:=Lib.hid h2;clear h2))
 go_ret
 exact ⟨grownBy.setCell' H2.out _ _,.inl ⟨_,rfl,rfl,H1.out.setAc _⟩⟩
set_option maxHeartbeats 400000 in
theorem absRow_any (b:Nat) (d:Rd) (w:World) (h:RdAt w b d) (_hs:d.s.size≤1000000) (_hk:d.k≤d.s.size) :
 Calls Tryz.prog 187 #[.pointer (some ⟨b,0,none⟩)] w (Part d.absRow b w):=by
 have HR:=Lib.hid h;clear h
 go_enter Tryz.func187,Tryz.ntmps187
 go_wp2_with (go_at_call 200;((with_reducible refine (mark_any b d _ HR.out ?_ ?_).mono ?_);(first | omega | skip);(first | omega | skip);rintro e w1 ⟨rfl,h1,h2⟩;obtain ⟨c0,c1,c2,c3,c4,c5,c6⟩:=h1.facts;have f6:=h1.frozen 6;have H1:=Lib.hid h1;clear h1;have H2:=Lib.hid h2;clear h2))
 go_ret
 exact ⟨grownBy.setCell' H2.out _ _,.inl ⟨_,rfl,rfl,H1.out.setAr _⟩⟩
theorem quiet_call {f:FuncId} {args:Array Value} {w:World} {n:Nat} {v:Value} (h:Calls Tryz.prog f args (w.drewN n) fun e w'=>e = .returned v∧w.drewN n=w'):Calls Tryz.prog f args (w.drewN n) fun e w''=>e = .returned v∧∃ m,w''=w.drewN m :=
 Calls.quiet_of_same (h.mono fun _ _ ⟨a,b⟩=>⟨a,b.symm⟩)
theorem RdAt.setNext {w:World} {b m p:Nat} {d:Rd} (h:RdAt w b { d with k:=d.k+m }) (hp:d.k+m=p) (n:Nat):RdAt ((w.drewN n).setCell ⟨b,1,none⟩ (.int .i64 ((p:Int)+1))) b { d with k:=d.k+(m+1) }:=by
 subst hp;exact (h.drewN n).setK (d.k+m+1)
theorem take_next (d:Rd) (m:Nat) (h:d.k+m<d.s.size):d.rest.take (m+1)=d.rest.take m++[((d.s[d.k+m].toNat:Nat):Int)]:=by
 unfold Rd.rest;rw [List.take_add_one,List.getElem?_drop,sb_at d.s _ h];rfl
theorem length_rest (d:Rd):d.rest.length=d.s.size - d.k:=by unfold Rd.rest;rw [List.length_drop,length_sb]
theorem span_stop (p:Int→Bool) (l:List Int) (m:Nat) (h:∀ x∈l.take m,p x=true) (h2:∀ x,l[m]? = some x→p x=false):l.takeWhile p=l.take m:=by
 have e:=take_part p (l.take m) (l.drop m) h (fun x hx=>h2 x (by rw [List.head?_drop] at hx;exact hx))
 rw [List.take_append_drop] at e;exact e
theorem span_over (p:Int→Bool) (l:List Int) (m:Nat) (h:∀ x∈l.take m,p x=true):l.takeWhile p=l.take m++(l.drop m).takeWhile p:=by
 have e:=take_more p (l.take m) (l.drop m) h
 rw [List.take_append_drop] at e;exact e
theorem all_snoc {p:Int→Bool} {l:List Int} {x:Int} (h:∀ y∈l,p y=true) (hx:p x=true):∀ y∈l++[x],p y=true:=by
 intro y hy;rw [List.mem_append] at hy
 rcases hy with hy | hy
 · exact h y hy
 · simp at hy;rw [hy];exact hx
def colV (l:List Int):Int:=l.foldl (fun n x=>26*n+(x - 64)) 0
theorem colV_snoc (l:List Int) (x:Int):colV (l++[x])=26*colV l+(x - 64):=by unfold colV;rw [List.foldl_append];rfl
theorem col_small (l:List Int) (h:∀ x∈l,isCap x=true) (hl:l.length≤2):colV l≤702∧(l=[]∧colV l=0∧isCol l=false∨0<colV l∧isCol l=true∧readColL l=colV l - 1):=by
 match l,hl,h with
 | [],_,_=>exact ⟨by decide,.inl ⟨rfl,rfl,rfl⟩⟩
 | [a],_,h =>
   have ha:=h a (by simp)
   have:=cap_bd ha
   have hv:colV [a]=a - 64:=by unfold colV;simp
   have hi:isCol [a]=true:=by unfold isCol;simp [ha]
   refine ⟨by omega,.inr ⟨by omega,hi, ?_⟩⟩
   unfold readColL;rw [if_pos hi,hv];simp;omega
 | [a,b],_,h =>
   have ha:=h a (by simp)
   have hb:=h b (by simp)
   have g1:=cap_bd ha
   have g2:=cap_bd hb
   have hv:colV [a,b]=26*(a - 64)+(b - 64):=by unfold colV;simp
   have hi:isCol [a,b]=true:=by unfold isCol;simp [ha,hb]
   refine ⟨by omega,.inr ⟨by omega,hi, ?_⟩⟩
   unfold readColL;rw [if_pos hi,hv];simp;omega
theorem isCol_long {l:List Int} (h:2<l.length):isCol l=false:=by unfold isCol;rw [decide_eq_false (by omega),Bool.false_and]
theorem col_end (d:Rd) (m:Nat) (v:Int) (b:Nat) (w wr:World) (hv:colV (d.rest.take m)=v) (hall:∀ x∈d.rest.take m,isCap x=true) (hm:m≤2) (hk:d.k+m≤d.s.size) (hstop:∀ x,d.rest[m]? = some x→isCap x=false) (e:Ending) (he:e = .returned (.bool (decide (0<v))))
 (hr:RdAt wr b { { d with k:=d.k+m } with c:=v - 1 }) (hg:w.grownBy wr (some b)):Part d.col b w e wr:=by
 subst he
 have hsp:=span_stop isCap d.rest m hall hstop
 have hlen:(d.rest.take m).length=m:=by rw [List.length_take,length_rest];omega
 refine ⟨hg, ?_⟩
 unfold Rd.col
 rw [hsp]
 rcases (col_small (d.rest.take m) hall (by omega)).2 with ⟨h1,h2,h3⟩ | ⟨h1,h2,h3⟩
 · rw [h3,if_neg (by simp)]
   exact .inr ⟨rfl,by rw [decide_eq_false (by omega)]⟩
 · rw [if_pos h2]
   refine .inl ⟨_,rfl,by rw [decide_eq_true (by omega)], ?_⟩
   rw [h3,hv,hlen];exact hr
set_option maxRecDepth 100000 in
set_option maxHeartbeats 800000 in
theorem colPart_any (b:Nat) (d:Rd) (w:World) (h:RdAt w b d) (_hs:d.s.size≤1000000) (_hk:d.k≤d.s.size) :
 Calls Tryz.prog 186 #[.pointer (some ⟨b,0,none⟩)] w (Part d.col b w):=by
 have HR:=Lib.hid h;clear h
 go_enter Tryz.func186,Tryz.ntmps186
 go_wp2_with fail
 go_loopw [3] (fun n wr=>∃ (m:Nat) (v:Int),n = .int .i64 v∧0≤v∧v≤702∧d.k+m≤d.s.size∧Hid (colV (d.rest.take m)=v∧(∀ x∈d.rest.take m,isCap x=true)∧m≤2)∧Hid (RdAt wr b { d with k:=d.k+m })∧Hid (w.grownBy wr (some b)))
  (fun n _=>800 - (intOf n).toNat)
 case atStart=>exact ⟨0,0,rfl,by omega,by omega,by omega,Lib.hid ⟨rfl,by simp,by omega⟩,Lib.hid HR.out,Lib.hid (grownBy.refl' _ _)⟩
 case round =>
  obtain ⟨m,v,rfl,hv0,hv1,hkm,HM,HRD,HG⟩:=hrel
  obtain ⟨c0,c1,c2,c3,c4,c5,c6⟩:=HRD.out.facts
  have f1:=HRD.out.frozen 1
  have f3:=HRD.out.frozen 3
  clear c2 c4 c5 c6
  simp only at c0 c1 c3
  obtain ⟨p,hp⟩:∃ p:Nat,d.k+m=p:=⟨_,rfl⟩
  rw [hp] at c1
  by_cases hlt:p<d.s.size
  · have hlt2 : (p:Int)<(d.s.size:Int):=by omega
    obtain ⟨a,ha⟩:∃ a:Int,(d.s[p].toNat:Int)=a:=⟨_,rfl⟩
    have ha1:0≤a∧a≤255:=by have:=d.s[p].toNat_lt;omega
    have hnx:d.rest.take (m+1)=d.rest.take m++[a]:=by subst hp;rw [take_next d m hlt,ha]
    have hat:d.rest[m]? = some a:=by subst hp;unfold Rd.rest;rw [List.getElem?_drop,sb_at d.s _ hlt,ha]
    have HNX:=Lib.hid hnx;clear hnx
    have HAT:=Lib.hid hat;clear hat
    have HP:=Lib.hid hp;clear hp
    by_cases hc:isCap a=true
    · have hcb := cap_bd hc
      have hvn:colV (d.rest.take (m+1))=26*v+(a - 64):=by rw [HNX.out,colV_snoc,HM.out.1]
      have hall:=all_snoc HM.out.2.1 hc
      rw [← HNX.out] at hall
      have HVN:=Lib.hid hvn;clear hvn
      have HALL:=Lib.hid hall;clear hall
      by_cases hbig:702<v*26+(a - 65)+1
      · have hno:d.col=none:=by
         have h2:¬ m+1≤2:=by
          intro h2
          have:=(col_small _ HALL.out (by rw [List.length_take];omega)).1
          rw [HVN.out] at this;omega
         have h3:isCol (d.rest.takeWhile isCap)=false:=by
          apply isCol_long
          rw [span_over isCap d.rest (m+1) HALL.out,List.length_append,List.length_take,length_rest]
          have:=HP.out;omega
         unfold Rd.col;rw [h3];rfl
        have HNO:=Lib.hid hno;clear hno
        go_wp2_with fail
        go_quiet ((go_at_call 54;exact quiet_call (isCapital_any _ (by omega) (by omega) _)))
        go_wp2_with fail
        go_quiet (fail)
        go_wp2_with fail
        go_ret
        exact ⟨grownBy.drewN' HG.out _,.inr ⟨HNO.out,rfl⟩⟩
      · go_wp2_with fail
        go_quiet ((go_at_call 54;exact quiet_call (isCapital_any _ (by omega) (by omega) _)))
        go_wp2_with fail
        go_quiet (fail)
        go_wp2_with fail
        go_roundw
        case rel =>
         have hm2:m+1≤2:=by
          have h3:=HM.out.2.2
          by_cases h:m=2
          · exfalso
            have hl:(d.rest.take m).length=2:=by rw [List.length_take,length_rest];have:=HP.out;omega
            match hq:d.rest.take m,hl with
            | [x,y],_ =>
              have h1:=HM.out.2.1
              have h4:=HM.out.1
              rw [hq] at h1 h4
              have g1:=cap_bd (h1 x (by simp))
              have g2:=cap_bd (h1 y (by simp))
              have hv:colV [x,y]=26*(x - 64)+(y - 64):=by unfold colV;simp
              omega
          · omega
         refine ⟨m+1,v*26+(a - 65)+1,rfl,by omega,by omega,by have:=HP.out;omega,Lib.hid ⟨by rw [HVN.out];omega,HALL.out,hm2⟩,Lib.hid ?_,Lib.hid (grownBy.setCell' (grownBy.drewN' HG.out _) _ _)⟩
         exact RdAt.setNext HRD.out HP.out _
        case measure=>simp [intOf];omega
    · have hc':isCap a=false:=by simpa using hc
      clear hc
      have hend:=fun (e:Ending) (wz:World)=>col_end d m v b w wz HM.out.1 HM.out.2.1 HM.out.2.2 hkm (fun x hx=>by rw [HAT.out] at hx;injection hx with hx;rw [← hx];exact hc') e
      have HEND:=Lib.hid hend;clear hend
      go_wp2_with fail
      go_quiet ((go_at_call 54;exact quiet_call (isCapital_any _ (by omega) (by omega) _)))
      go_wp2_with fail
      go_ret
      exact HEND.out _ _ rfl ((HRD.out.drewN _).setC _) (grownBy.setCell' (grownBy.drewN' HG.out _) _ _)
  · have hlt2:¬ (p:Int)<(d.s.size:Int):=by omega
    have hend:=fun (e:Ending) (wz:World)=>col_end d m v b w wz HM.out.1 HM.out.2.1 HM.out.2.2 hkm (fun x hx=>by have h1:=(List.getElem?_eq_some_iff.1 hx).1;rw [length_rest] at h1;omega) e
    have HEND:=Lib.hid hend;clear hend
    clear hp
    go_wp2_with fail
    go_quiet (fail)
    go_wp2_with fail
    go_ret
    exact HEND.out _ _ rfl ((HRD.out.drewN _).setC _) (grownBy.setCell' (grownBy.drewN' HG.out _) _ _)
theorem row_end (d:Rd) (m:Nat) (v:Int) (b:Nat) (w wr:World) (hv:valL (d.rest.take m)=v) (hall:∀ x∈d.rest.take m,isNum x=true) (hz:m=0∧v=0∨1≤v∧d.rest.take m≠[]∧(d.rest.take m).head? ≠ some 48) (hv9:v≤999) (hk:d.k+m≤d.s.size) (hstop:∀ x,d.rest[m]? = some x→isNum x=false) (e:Ending) (he:e = .returned (.bool (decide (0<v))))
 (hr:RdAt wr b { { d with k:=d.k+m } with r:=v - 1 }) (hg:w.grownBy wr (some b)):Part d.row b w e wr:=by
 subst he
 have hsp:=span_stop isNum d.rest m hall hstop
 have hlen:(d.rest.take m).length=m:=by rw [List.length_take,length_rest];omega
 refine ⟨hg, ?_⟩
 unfold Rd.row
 rw [hsp]
 rcases hz with ⟨h1,h2⟩ | ⟨h1,h2,h3⟩
 · have:isRow (d.rest.take m)=false:=by rw [h1];rfl
   rw [this,if_neg (by simp)]
   exact .inr ⟨rfl,by rw [decide_eq_false (by omega)]⟩
 · have:isRow (d.rest.take m)=true:=by unfold isRow;rw [decide_eq_true_iff];exact ⟨h2,h3,by omega⟩
   rw [if_pos this]
   refine .inl ⟨_,rfl,by rw [decide_eq_true (by omega)], ?_⟩
   rw [hv,hlen];exact hr
theorem head_snoc {l:List Int} {x:Int} (h:l≠[]):(l++[x]).head? = l.head? := by cases l with | nil=>exact absurd rfl h | cons a l=>rfl
set_option maxRecDepth 100000 in
set_option maxHeartbeats 800000 in
theorem rowPart_any (b:Nat) (d:Rd) (w:World) (h:RdAt w b d) (_hs:d.s.size≤1000000) (_hk:d.k≤d.s.size) :
 Calls Tryz.prog 188 #[.pointer (some ⟨b,0,none⟩)] w (Part d.row b w):=by
 have HR:=Lib.hid h;clear h
 go_enter Tryz.func188,Tryz.ntmps188
 go_wp2_with fail
 go_loopw [3] (fun n wr=>∃ (m:Nat) (v:Int),n = .int .i64 v∧0≤v∧v≤999∧d.k+m≤d.s.size∧Hid (valL (d.rest.take m)=v∧(∀ x∈d.rest.take m,isNum x=true)∧(m=0∧v=0∨1≤v∧d.rest.take m≠[]∧(d.rest.take m).head? ≠ some 48))∧Hid (RdAt wr b { d with k:=d.k+m })∧Hid (w.grownBy wr (some b)))
  (fun n _=>1200 - (intOf n).toNat)
 case atStart=>exact ⟨0,0,rfl,by omega,by omega,by omega,Lib.hid ⟨rfl,by simp,.inl ⟨rfl,rfl⟩⟩,Lib.hid HR.out,Lib.hid (grownBy.refl' _ _)⟩
 case round =>
  obtain ⟨m,v,rfl,hv0,hv1,hkm,HM,HRD,HG⟩:=hrel
  obtain ⟨c0,c1,c2,c3,c4,c5,c6⟩:=HRD.out.facts
  have f1:=HRD.out.frozen 1
  have f4:=HRD.out.frozen 4
  clear c2 c3 c5 c6
  simp only at c0 c1 c4
  obtain ⟨p,hp⟩:∃ p:Nat,d.k+m=p:=⟨_,rfl⟩
  rw [hp] at c1
  by_cases hlt:p<d.s.size
  · have hlt2:(p:Int)<(d.s.size:Int):=by omega
    obtain ⟨a,ha⟩:∃ a:Int,(d.s[p].toNat:Int)=a:=⟨_,rfl⟩
    have ha1:0≤a∧a≤255:=by have:=d.s[p].toNat_lt;omega
    have hnx:d.rest.take (m+1)=d.rest.take m++[a]:=by subst hp;rw [take_next d m hlt,ha]
    have hat:d.rest[m]? = some a:=by subst hp;unfold Rd.rest;rw [List.getElem?_drop,sb_at d.s _ hlt,ha]
    have HNX:=Lib.hid hnx;clear hnx
    have HAT:=Lib.hid hat;clear hat
    have HP:=Lib.hid hp;clear hp
    by_cases hc:isNum a=true
    · have hcb:=num_bd hc
      have hvn:valL (d.rest.take (m+1))=10*v+(a - 48):=by rw [HNX.out,valL_snoc,HM.out.1]
      have hall:=all_snoc HM.out.2.1 hc
      rw [← HNX.out] at hall
      have HVN:=Lib.hid hvn;clear hvn
      have HALL:=Lib.hid hall;clear hall
      by_cases hbad:v*10+(a - 48)=0∨999<v*10+(a - 48)
      · have hno:d.row=none:=by
         have h3:isRow (d.rest.takeWhile isNum)=false:=by
          rw [span_over isNum d.rest (m+1) HALL.out]
          unfold isRow;rw [decide_eq_false_iff_not]
          rintro ⟨_,h2,h3⟩
          rcases hbad with h | h
          · rcases HM.out.2.2 with ⟨hm0,_⟩ | ⟨hm1,_⟩
            · apply h2;rw [HNX.out,hm0];simp;omega
            · omega
          · have:=valL_ge ((d.rest.drop (m+1)).takeWhile isNum) (d.rest.take (m+1)) (take_all isNum _) (by rw [HVN.out];omega)
            rw [HVN.out] at this;omega
         unfold Rd.row;rw [h3];rfl
        have HNO:=Lib.hid hno;clear hno
        by_cases hz:v*10+(a - 48)=0
        · have hzb:(v*10+(a - 48) == 0)=true:=beq_iff_eq.2 hz
          clear hbad hz
          go_wp2_with fail
          go_quiet ((go_at_call 34;exact quiet_call (isDigit_any _ (by omega) (by omega) _)))
          go_wp2_with fail
          go_quiet (fail)
          go_wp2_with fail
          go_ret
          exact ⟨grownBy.drewN' HG.out _,.inr ⟨HNO.out,rfl⟩⟩
        · have hzb:(v*10+(a - 48) == 0)=false:=beq_eq_false_iff_ne.2 hz
          have h9:999<v*10+(a - 48):=by omega
          clear hbad hz
          go_wp2_with fail
          go_quiet ((go_at_call 34;exact quiet_call (isDigit_any _ (by omega) (by omega) _)))
          go_wp2_with fail
          go_quiet (fail)
          go_wp2_with fail
          go_ret
          exact ⟨grownBy.drewN' HG.out _,.inr ⟨HNO.out,rfl⟩⟩
      · have hz:¬ v*10+(a - 48)=0:=by omega
        have hzb:(v*10+(a - 48) == 0)=false:=beq_eq_false_iff_ne.2 hz
        have h9:¬ 999<v*10+(a - 48):=by omega
        have h9':v*10+(a - 48)≤999:=by omega
        have h1':1≤v*10+(a - 48):=by omega
        clear hbad hz
        go_wp2_with fail
        go_quiet ((go_at_call 34;exact quiet_call (isDigit_any _ (by omega) (by omega) _)))
        go_wp2_with fail
        go_quiet (fail)
        go_wp2_with fail
        go_roundw
        case rel =>
         refine ⟨m+1,v*10+(a - 48),rfl,by omega,by omega,by have:=HP.out;omega,Lib.hid ⟨by rw [HVN.out];omega,HALL.out,.inr ⟨by omega, ?_, ?_⟩⟩,Lib.hid ?_,Lib.hid (grownBy.setCell' (grownBy.drewN' HG.out _) _ _)⟩
         · rw [HNX.out];simp
         · rw [HNX.out]
           rcases HM.out.2.2 with ⟨hm0,hm1⟩ | ⟨_,h2,h3⟩
           · rw [hm0];simp;omega
           · rw [head_snoc h2];exact h3
         · exact RdAt.setNext HRD.out HP.out _
        case measure=>simp [intOf];omega
    · have hc':isNum a=false:=by simpa using hc
      clear hc
      have hend:=fun (e:Ending) (wz:World)=>row_end d m v b w wz HM.out.1 HM.out.2.1 HM.out.2.2 hv1 hkm (fun x hx=>by rw [HAT.out] at hx;injection hx with hx;rw [← hx];exact hc') e
      have HEND:=Lib.hid hend;clear hend
      go_wp2_with fail
      go_quiet ((go_at_call 34;exact quiet_call (isDigit_any _ (by omega) (by omega) _)))
      go_wp2_with fail
      go_ret
      exact HEND.out _ _ rfl ((HRD.out.drewN _).setR _) (grownBy.setCell' (grownBy.drewN' HG.out _) _ _)
  · have hlt2:¬ (p:Int)<(d.s.size:Int):=by omega
    have hend:=fun (e:Ending) (wz:World)=>row_end d m v b w wz HM.out.1 HM.out.2.1 HM.out.2.2 hv1 hkm (fun x hx=>by have h1:=(List.getElem?_eq_some_iff.1 hx).1;rw [length_rest] at h1;omega) e
    have HEND:=Lib.hid hend;clear hend
    clear hp
    go_wp2_with fail
    go_quiet (fail)
    go_wp2_with fail
    go_ret
    exact HEND.out _ _ rfl ((HRD.out.drewN _).setR _) (grownBy.setCell' (grownBy.drewN' HG.out _) _ _)
end Go.Proofs.YtnahgpjglooclaaGreatDoor
namespace Go.Proofs.YtnahgpjglooclaaGreatDoor
open Go.RowKit
def isBl (c:Int):Bool:=decide (c=32)
def isBeg (c:Int):Bool:=isLet c||decide (c=36)
set_option maxHeartbeats 400000 in
theorem lexBlank_any (c:Int) (_h0:0≤c) (_h1:c≤255) (w:World) :
 Calls Tryz.prog 104 #[.int .u8 c] w fun e w'=>e = .returned (.bool (isBl c))∧w=w':=by
 go_enter Tryz.func104,Tryz.ntmps104
 go_wp2
 all_goals go_ret
 all_goals exact ⟨ret_bool (by unfold isBl;first | rfl | (symm;rw [decide_eq_true_iff];omega) | (symm;rw [decide_eq_false_iff_not];omega) | (rw [decide_eq_decide];omega)),rfl⟩
set_option maxHeartbeats 400000 in
theorem lexDigit_any (c:Int) (_h0:0≤c) (_h1:c≤255) (w:World) :
 Calls Tryz.prog 137 #[.int .u8 c] w fun e w'=>e = .returned (.bool (isNum c))∧w=w':=by
 go_enter Tryz.func137,Tryz.ntmps137
 go_wp2
 all_goals go_ret
 all_goals exact ⟨ret_bool (by unfold isNum;first | rfl | (symm;rw [decide_eq_true_iff];omega) | (symm;rw [decide_eq_false_iff_not];omega) | (rw [decide_eq_decide];omega)),rfl⟩
set_option maxHeartbeats 400000 in
theorem lexCapital_any (c:Int) (_h0:0≤c) (_h1:c≤255) (w:World) :
 Calls Tryz.prog 168 #[.int .u8 c] w fun e w'=>e = .returned (.bool (isCap c))∧w=w':=by
 go_enter Tryz.func168,Tryz.ntmps168
 go_wp2
 all_goals go_ret
 all_goals exact ⟨ret_bool (by unfold isCap;first | rfl | (symm;rw [decide_eq_true_iff];omega) | (symm;rw [decide_eq_false_iff_not];omega) | (rw [decide_eq_decide];omega)),rfl⟩
theorem isBeg_cap {c:Int} (h:isCap c=true):isBeg c=true:=by unfold isBeg;rw [isLet_cap h];rfl
theorem isBeg_nocap {c:Int} (h:isCap c=false):isBeg c=decide (97≤c∧c≤122∨c=36):=by unfold isBeg;rw [isLet_nocap h];simp
theorem isWord_beg {c:Int}:isWord c=(isBeg c||(isNum c||decide (c=33))):=by
 unfold isWord isBeg;rw [show decide (c=36∨c=33)=(decide (c=36)||decide (c=33)) from by simp]
 cases isLet c <;> cases isNum c <;> cases decide (c=36) <;> simp
set_option maxHeartbeats 400000 in
theorem beginsWord_any (c:Int) (_h0:0≤c) (_h1:c≤255) (w:World) :
 Calls Tryz.prog 141 #[.int .u8 c] w fun e w'=>e = .returned (.bool (isBeg c))∧w=w':=by
 by_cases hc:isCap c=true
 · have HL:=Lib.hid (isBeg_cap hc)
   go_enter Tryz.func141,Tryz.ntmps141
   go_wp2_with (go_at_call 168;((with_reducible refine (lexCapital_any _ ?_ ?_ _).mono ?_);(first | omega | skip);(first | omega | skip);rintro e w' ⟨rfl,rfl⟩))
   all_goals go_ret
   all_goals exact ⟨ret_bool (by rw [HL.out]),rfl⟩
 · have hc':isCap c=false:=by simpa using hc
   have HL:=Lib.hid (isBeg_nocap hc');clear hc
   go_enter Tryz.func141,Tryz.ntmps141
   go_wp2_with (go_at_call 168;((with_reducible refine (lexCapital_any _ ?_ ?_ _).mono ?_);(first | omega | skip);(first | omega | skip);rintro e w' ⟨rfl,rfl⟩))
   all_goals go_ret
   all_goals exact ⟨ret_bool (by rw [HL.out];first | rfl | (symm;rw [decide_eq_true_iff];omega) | (symm;rw [decide_eq_false_iff_not];omega) | (rw [Bool.eq_iff_iff];simp only [Bool.or_eq_true,decide_eq_true_iff,beq_iff_eq];omega)),rfl⟩
set_option maxHeartbeats 400000 in
theorem isOfWord_any (c:Int) (_h0:0≤c) (_h1:c≤255) (w:World) :
 Calls Tryz.prog 169 #[.int .u8 c] w fun e w'=>e = .returned (.bool (isWord c))∧w=w':=by
 have HW:=Lib.hid (isWord_beg (c:=c))
 cases hb:isBeg c
 · cases hn:isNum c
   · rw [hb,hn] at HW
     go_enter Tryz.func169,Tryz.ntmps169
     go_wp2_with (first
      | (go_at_call 141;((with_reducible refine (beginsWord_any _ ?_ ?_ _).mono ?_);(first | omega | skip);(first | omega | skip);rintro e w' ⟨rfl,rfl⟩;rw [hb]))
      | (go_at_call 137;((with_reducible refine (lexDigit_any _ ?_ ?_ _).mono ?_);(first | omega | skip);(first | omega | skip);rintro e w' ⟨rfl,rfl⟩;rw [hn])))
     all_goals go_ret
     all_goals exact ⟨ret_bool (by rw [HW.out];first | rfl | (rw [Bool.eq_iff_iff];simp only [Bool.or_eq_true,Bool.and_eq_true,Bool.false_or,decide_eq_true_iff,beq_iff_eq])),rfl⟩
   · rw [hb,hn] at HW
     go_enter Tryz.func169,Tryz.ntmps169
     go_wp2_with (first
      | (go_at_call 141;((with_reducible refine (beginsWord_any _ ?_ ?_ _).mono ?_);(first | omega | skip);(first | omega | skip);rintro e w' ⟨rfl,rfl⟩;rw [hb]))
      | (go_at_call 137;((with_reducible refine (lexDigit_any _ ?_ ?_ _).mono ?_);(first | omega | skip);(first | omega | skip);rintro e w' ⟨rfl,rfl⟩;rw [hn])))
     all_goals go_ret
     all_goals exact ⟨ret_bool (by rw [HW.out];rfl),rfl⟩
 · rw [hb] at HW
   go_enter Tryz.func169,Tryz.ntmps169
   go_wp2_with (first
    | (go_at_call 141;((with_reducible refine (beginsWord_any _ ?_ ?_ _).mono ?_);(first | omega | skip);(first | omega | skip);rintro e w' ⟨rfl,rfl⟩;rw [hb])))
   all_goals go_ret
   all_goals exact ⟨ret_bool (by rw [HW.out];rfl),rfl⟩
def LxAt (w:World) (b:Nat) (s:ByteArray) (k:Nat):Prop:=w.heap[b]? = some (.cells #[.string s,.int .i64 (k:Int)] 150)
theorem LxAt.lt {w:World} {b:Nat} {s:ByteArray} {k:Nat} (h:LxAt w b s k):b<w.heap.size:=(Array.getElem?_eq_some_iff.1 h).1
theorem LxAt.drewN {w:World} {b:Nat} {s:ByteArray} {k:Nat} (h:LxAt w b s k) (n:Nat):LxAt (w.drewN n) b s k:=h
theorem LxAt.below {w w':World} {B b:Nat} {s:ByteArray} {k:Nat} (h:LxAt w b s k) (hb:Below B w w') (hB:b<B):LxAt w' b s k:=by unfold LxAt;rw [hb.block b hB];exact h
theorem LxAt.facts {w:World} {b:Nat} {s:ByteArray} {k:Nat} (h:LxAt w b s k):w.cell? ⟨b,0,none⟩=some (.string s)∧w.cell? ⟨b,1,none⟩=some (.int .i64 (k:Int)) :=
 ⟨by rw [cell_of_row w b 0 _ _ _ h];rfl,by rw [cell_of_row w b 1 _ _ _ h];rfl⟩
theorem LxAt.frozen {w:World} {b:Nat} {s:ByteArray} {k:Nat} (h:LxAt w b s k) (j:Nat):w.frozen? ⟨b,j,none⟩=false:=frozen_of_row w b j _ _ h
theorem LxAt.setK {w:World} {b:Nat} {s:ByteArray} {k:Nat} (h:LxAt w b s k) (m:Nat):LxAt (w.setCell ⟨b,1,none⟩ (.int .i64 (m:Int))) b s m:=by unfold LxAt;rw [heap_setCell_same w b 1 _ _ _ h];rfl
theorem LxAt.setNext {w:World} {b:Nat} {s:ByteArray} {k:Nat} (h:LxAt w b s k):LxAt (w.setCell ⟨b,1,none⟩ (.int .i64 ((k:Int)+1))) b s (k+1):=h.setK (k+1)
theorem LxAt.new (w:World) (s:ByteArray):LxAt (w.alloc (.cells #[.string s,.int .i64 0] 150)) w.heap.size s 0:=(Go.MapKept.heap_alloc w _).1
def tokA (t:Tk):Array Value:=#[.int .i64 t.kind,.string t.text,.int .i64 t.num,.string t.sh,.int .i64 t.c,.int .i64 t.r,.bool t.ac,.bool t.ar,.int .i64 t.pos]
def TkAt (w:World) (b:Nat) (t:Tk):Prop:=w.heap[b]? = some (.cells (tokA t) 125)
theorem TkAt.lt {w:World} {b:Nat} {t:Tk} (h:TkAt w b t):b<w.heap.size:=(Array.getElem?_eq_some_iff.1 h).1
theorem TkAt.below {w w':World} {B b:Nat} {t:Tk} (h:TkAt w b t) (hb:Below B w w') (hB:b<B):TkAt w' b t:=by unfold TkAt;rw [hb.block b hB];exact h
theorem TkAt.drewN {w:World} {b:Nat} {t:Tk} (h:TkAt w b t) (n:Nat):TkAt (w.drewN n) b t:=h
theorem TkAt.frozen {w:World} {b:Nat} {t:Tk} (h:TkAt w b t) (j:Nat):w.frozen? ⟨b,j,none⟩=false:=frozen_of_row w b j _ _ h
theorem TkAt.grown {w w':World} {b c:Nat} {t:Tk} (h:TkAt w b t) (hg:w.grownBy w' (some c)) (hne:b≠c):TkAt w' b t:=by
 unfold TkAt;rw [hg.block b h.lt (by intro e;exact hne (Option.some.inj e))];exact h
theorem TkAt.new (w:World) (t:Tk):TkAt (w.alloc (.cells (tokA t) 125)) w.heap.size t:=(Go.MapKept.heap_alloc w _).1
theorem tok_size:(Tryz.prog.info? 125).map (·.size)=some 9:=by kernel_rfl
theorem tok_one (t:Tk):∀ v∈(tokA t).toList,v.oneCell'=true:=by
 intro v hv
 simp only [tokA,List.mem_cons,List.not_mem_nil,or_false] at hv
 rcases hv with rfl | rfl | rfl | rfl | rfl | rfl | rfl | rfl | rfl <;> rfl
end Go.Proofs.YtnahgpjglooclaaGreatDoor
namespace Go.Proofs
open Go.Shelf
def Tryz.lays137_ren:Go.Shelf.Ren:=⟨fun | 137=>199 | 217=>206 | 266=>211 | n=>n,fun | 9=>9 | 5=>5 | 3=>3 | n=>n,fun | n=>n⟩
theorem Tryz.lays137:Go.Proofs.Lays.n137 Tryz.prog Tryz.lays137_ren:={
 mixed:=by kernel_rfl
 f137:=Tryz.func199.trans (congrArg some (by kernel_rfl))
 f217:=Tryz.func206.trans (congrArg some (by kernel_rfl))
 f266:=Tryz.func211.trans (congrArg some (by kernel_rfl))
 t3:=Tryz.underlying3
 a3:=Tryz.isAgg3
 z3:=Tryz.sizeOf3
 v3:=Tryz.zeroValue3
 t5:=Tryz.underlying5
 a5:=Tryz.isAgg5
 z5:=Tryz.sizeOf5
 v5:=Tryz.zeroValue5
 t9:=Tryz.underlying9
 a9:=Tryz.isAgg9
 z9:=Tryz.sizeOf9
 v9:=Tryz.zeroValue9 }
open Go.RowKit in
theorem Tryz.strings_IndexByte (s:ByteArray) (c:Int) (w:World) :
 Calls Tryz.prog 199 #[.string s,.int .u8 c] w fun e w'=>e = .returned (.int .i64 (Lib.indexByte s.data.toList c.toNat.toUInt8))∧w'=w:=Any.strings_IndexByte Tryz.lays137 s c w
def Tryz.laysM171_ren:Go.Shelf.Ren:=⟨fun | 171=>74 | 243=>102 | 246=>136 | 283=>163 | 284=>164 | 285=>165 | 286=>166 | 129=>100 | 317=>178 | 318=>179 | 319=>180 | 320=>181 | 337=>196 | 338=>197 | n=>n,fun | 3=>3 | 9=>9 | 2=>2 | 4=>4 | 171=>218 | 0=>0 | 53=>37 | 37=>38 | 5=>5 | 173=>220 | 212=>236 | 51=>178 | 20=>20 | 213=>237 | 46=>146 | 232=>252 | 233=>253 | n=>n,fun | 17=>5 | 18=>6 | 19=>7 | n=>n⟩
theorem Tryz.laysM171:Go.Proofs.LaysM.n171 Tryz.prog Tryz.laysM171_ren:={
 mixed:=by kernel_rfl
 f129:=Tryz.func100.trans (congrArg some (by kernel_rfl))
 f171:=Tryz.func74.trans (congrArg some (by kernel_rfl))
 f243:=Tryz.func102.trans (congrArg some (by kernel_rfl))
 f246:=Tryz.func136.trans (congrArg some (by kernel_rfl))
 f283:=Tryz.func163.trans (congrArg some (by kernel_rfl))
 f284:=Tryz.func164.trans (congrArg some (by kernel_rfl))
 f285:=Tryz.func165.trans (congrArg some (by kernel_rfl))
 f286:=Tryz.func166.trans (congrArg some (by kernel_rfl))
 f317:=Tryz.func178.trans (congrArg some (by kernel_rfl))
 f318:=Tryz.func179.trans (congrArg some (by kernel_rfl))
 f319:=Tryz.func180.trans (congrArg some (by kernel_rfl))
 f320:=Tryz.func181.trans (congrArg some (by kernel_rfl))
 f337:=Tryz.func196.trans (congrArg some (by kernel_rfl))
 f338:=Tryz.func197.trans (congrArg some (by kernel_rfl))
 t0:=Tryz.underlying0
 a0:=Tryz.isAgg0
 z0:=Tryz.sizeOf0
 v0:=Tryz.zeroValue0
 t2:=Tryz.underlying2
 a2:=Tryz.isAgg2
 z2:=Tryz.sizeOf2
 v2:=Tryz.zeroValue2
 t3:=Tryz.underlying3
 a3:=Tryz.isAgg3
 z3:=Tryz.sizeOf3
 v3:=Tryz.zeroValue3
 t4:=Tryz.underlying4
 a4:=Tryz.isAgg4
 z4:=Tryz.sizeOf4
 v4:=Tryz.zeroValue4
 t5:=Tryz.underlying5
 a5:=Tryz.isAgg5
 z5:=Tryz.sizeOf5
 v5:=Tryz.zeroValue5
 t9:=Tryz.underlying9
 a9:=Tryz.isAgg9
 z9:=Tryz.sizeOf9
 v9:=Tryz.zeroValue9
 t20:=Tryz.underlying20
 a20:=Tryz.isAgg20
 z20:=Tryz.sizeOf20
 v20:=Tryz.zeroValue20
 t37:=Tryz.underlying38
 a37:=Tryz.isAgg38
 z37:=Tryz.sizeOf38
 v37:=Tryz.zeroValue38
 t46:=Tryz.underlying146
 a46:=Tryz.isAgg146
 z46:=Tryz.sizeOf146
 v46:=Tryz.zeroValue146
 t51:=Tryz.underlying178
 a51:=Tryz.isAgg178
 z51:=Tryz.sizeOf178
 v51:=Tryz.zeroValue178
 t53:=Tryz.underlying37
 a53:=Tryz.isAgg37
 z53:=Tryz.sizeOf37
 v53:=Tryz.zeroValue37
 t171:=Tryz.underlying218
 a171:=Tryz.isAgg218
 z171:=Tryz.sizeOf218
 v171:=Tryz.zeroValue218
 t173:=Tryz.underlying220
 a173:=Tryz.isAgg220
 z173:=Tryz.sizeOf220
 v173:=Tryz.zeroValue220
 t212:=Tryz.underlying236
 a212:=Tryz.isAgg236
 z212:=Tryz.sizeOf236
 v212:=Tryz.zeroValue236
 t213:=Tryz.underlying237
 a213:=Tryz.isAgg237
 z213:=Tryz.sizeOf237
 t232:=Tryz.underlying252
 a232:=Tryz.isAgg252
 z232:=Tryz.sizeOf252
 v232:=Tryz.zeroValue252
 t233:=Tryz.underlying253
 a233:=Tryz.isAgg253
 z233:=Tryz.sizeOf253
 v233:=Tryz.zeroValue253
 g17:=by kernel_rfl
 g18:=by kernel_rfl
 g19:=by kernel_rfl
 i0:=by kernel_rfl
 i2:=by kernel_rfl
 i3:=by kernel_rfl
 i4:=by kernel_rfl
 i5:=by kernel_rfl
 i9:=by kernel_rfl
 i20:=by kernel_rfl
 i37:=by kernel_rfl
 i46:=by kernel_rfl
 i51:=by kernel_rfl
 i53:=by kernel_rfl
 i171:=by kernel_rfl
 i173:=by kernel_rfl
 i212:=by kernel_rfl
 i232:=by kernel_rfl
 i233:=by kernel_rfl
 m17:=by kernel_rfl
 m18:=by kernel_rfl
 m19:=by kernel_rfl }
open Go.RowKit Go.Sort Go.Lib in
theorem Tryz.strconv_Itoa (n : Int) (h0 : -9223372036854775808 ≤ n) (h1 : n ≤ 9223372036854775807) (w : World) (htab : Lib.TabIs Tryz.prog w "internal/strconv.uint64pow10" .u64 Lib.pow10Tab) :
 Calls Tryz.prog 74 #[.int .i64 n] w fun e w'=>e = .returned (.string ⟨(Lib.itoa n).toArray⟩)∧∃ k os,w'=grow (w.drewN k) os:=Any.strconv_Itoa Tryz.laysM171 n h0 h1 w htab
def Tryz.laysC172_ren:Go.Shelf.Ren:=⟨fun | 172=>101 | 244=>134 | 245=>135 | 247=>158 | 279=>159 | 280=>160 | 281=>161 | 282=>162 | 287=>175 | 316=>176 | 171=>74 | 205=>177 | 321=>194 | 322=>195 | 243=>102 | 246=>136 | 283=>163 | 284=>164 | 285=>165 | 286=>166 | 129=>100 | 317=>178 | 318=>179 | 319=>180 | 320=>181 | 337=>196 | 338=>197 | n=>n,fun | 9=>9 | 3=>3 | 75=>161 | 76=>162 | 4=>4 | 5=>5 | 167=>212 | 37=>38 | 0=>0 | 85=>213 | 2=>2 | 168=>215 | 53=>37 | 175=>229 | 46=>146 | 210=>233 | 127=>168 | 145=>249 | 143=>247 | 21=>21 | 171=>218 | 173=>220 | 212=>236 | 51=>178 | 20=>20 | 213=>237 | 232=>252 | 233=>253 | 80=>141 | n=>n,fun | 15=>3 | 16=>4 | 17=>5 | 18=>6 | 19=>7 | n=>n⟩
theorem Tryz.laysC172:Go.Proofs.LaysC.n172 Tryz.prog Tryz.laysC172_ren:={
 mixed:=by kernel_rfl
 f129:=Tryz.func100.trans (congrArg some (by kernel_rfl))
 f171:=Tryz.func74.trans (congrArg some (by kernel_rfl))
 f172:=Tryz.func101.trans (congrArg some (by kernel_rfl))
 f205:=Tryz.func177.trans (congrArg some (by kernel_rfl))
 f243:=Tryz.func102.trans (congrArg some (by kernel_rfl))
 f244:=Tryz.func134.trans (congrArg some (by kernel_rfl))
 f245:=Tryz.func135.trans (congrArg some (by kernel_rfl))
 f246:=Tryz.func136.trans (congrArg some (by kernel_rfl))
 f247:=Tryz.func158.trans (congrArg some (by kernel_rfl))
 f279:=Tryz.func159.trans (congrArg some (by kernel_rfl))
 f280:=Tryz.func160.trans (congrArg some (by kernel_rfl))
 f281:=Tryz.func161.trans (congrArg some (by kernel_rfl))
 f282:=Tryz.func162.trans (congrArg some (by kernel_rfl))
 f283:=Tryz.func163.trans (congrArg some (by kernel_rfl))
 f284:=Tryz.func164.trans (congrArg some (by kernel_rfl))
 f285:=Tryz.func165.trans (congrArg some (by kernel_rfl))
 f286:=Tryz.func166.trans (congrArg some (by kernel_rfl))
 f287:=Tryz.func175.trans (congrArg some (by kernel_rfl))
 f316:=Tryz.func176.trans (congrArg some (by kernel_rfl))
 f317:=Tryz.func178.trans (congrArg some (by kernel_rfl))
 f318:=Tryz.func179.trans (congrArg some (by kernel_rfl))
 f319:=Tryz.func180.trans (congrArg some (by kernel_rfl))
 f320:=Tryz.func181.trans (congrArg some (by kernel_rfl))
 f321:=Tryz.func194.trans (congrArg some (by kernel_rfl))
 f322:=Tryz.func195.trans (congrArg some (by kernel_rfl))
 f337:=Tryz.func196.trans (congrArg some (by kernel_rfl))
 f338:=Tryz.func197.trans (congrArg some (by kernel_rfl))
 t0:=Tryz.underlying0
 a0:=Tryz.isAgg0
 z0:=Tryz.sizeOf0
 v0:=Tryz.zeroValue0
 t2:=Tryz.underlying2
 a2:=Tryz.isAgg2
 z2:=Tryz.sizeOf2
 v2:=Tryz.zeroValue2
 t3:=Tryz.underlying3
 a3:=Tryz.isAgg3
 z3:=Tryz.sizeOf3
 v3:=Tryz.zeroValue3
 t4:=Tryz.underlying4
 a4:=Tryz.isAgg4
 z4:=Tryz.sizeOf4
 v4:=Tryz.zeroValue4
 t5:=Tryz.underlying5
 a5:=Tryz.isAgg5
 z5:=Tryz.sizeOf5
 v5:=Tryz.zeroValue5
 t9:=Tryz.underlying9
 a9:=Tryz.isAgg9
 z9:=Tryz.sizeOf9
 v9:=Tryz.zeroValue9
 t20:=Tryz.underlying20
 a20:=Tryz.isAgg20
 z20:=Tryz.sizeOf20
 v20:=Tryz.zeroValue20
 t21:=Tryz.underlying21
 a21:=Tryz.isAgg21
 z21:=Tryz.sizeOf21
 v21:=Tryz.zeroValue21
 t37:=Tryz.underlying38
 a37:=Tryz.isAgg38
 z37:=Tryz.sizeOf38
 v37:=Tryz.zeroValue38
 t46:=Tryz.underlying146
 a46:=Tryz.isAgg146
 z46:=Tryz.sizeOf146
 v46:=Tryz.zeroValue146
 t51:=Tryz.underlying178
 a51:=Tryz.isAgg178
 z51:=Tryz.sizeOf178
 v51:=Tryz.zeroValue178
 t53:=Tryz.underlying37
 a53:=Tryz.isAgg37
 z53:=Tryz.sizeOf37
 v53:=Tryz.zeroValue37
 t75:=Tryz.underlying161
 a75:=Tryz.isAgg161
 z75:=Tryz.sizeOf161
 v75:=Tryz.zeroValue161
 t76:=Tryz.underlying162
 a76:=Tryz.isAgg162
 z76:=Tryz.sizeOf162
 v76:=Tryz.zeroValue162
 t85:=Tryz.underlying213
 a85:=Tryz.isAgg213
 z85:=Tryz.sizeOf213
 v85:=Tryz.zeroValue213
 t127:=Tryz.underlying168
 a127:=Tryz.isAgg168
 z127:=Tryz.sizeOf168
 v127:=Tryz.zeroValue168
 t143:=Tryz.underlying247
 a143:=Tryz.isAgg247
 z143:=Tryz.sizeOf247
 v143:=Tryz.zeroValue247
 t145:=Tryz.underlying249
 a145:=Tryz.isAgg249
 z145:=Tryz.sizeOf249
 v145:=Tryz.zeroValue249
 t167:=Tryz.underlying212
 a167:=Tryz.isAgg212
 z167:=Tryz.sizeOf212
 v167:=Tryz.zeroValue212
 t168:=Tryz.underlying215
 a168:=Tryz.isAgg215
 z168:=Tryz.sizeOf215
 v168:=Tryz.zeroValue215
 t171:=Tryz.underlying218
 a171:=Tryz.isAgg218
 z171:=Tryz.sizeOf218
 v171:=Tryz.zeroValue218
 t173:=Tryz.underlying220
 a173:=Tryz.isAgg220
 z173:=Tryz.sizeOf220
 v173:=Tryz.zeroValue220
 t175:=Tryz.underlying229
 a175:=Tryz.isAgg229
 z175:=Tryz.sizeOf229
 v175:=Tryz.zeroValue229
 t210:=Tryz.underlying233
 a210:=Tryz.isAgg233
 z210:=Tryz.sizeOf233
 v210:=Tryz.zeroValue233
 t212:=Tryz.underlying236
 a212:=Tryz.isAgg236
 z212:=Tryz.sizeOf236
 v212:=Tryz.zeroValue236
 t213:=Tryz.underlying237
 a213:=Tryz.isAgg237
 z213:=Tryz.sizeOf237
 t232:=Tryz.underlying252
 a232:=Tryz.isAgg252
 z232:=Tryz.sizeOf252
 v232:=Tryz.zeroValue252
 t233:=Tryz.underlying253
 a233:=Tryz.isAgg253
 z233:=Tryz.sizeOf253
 v233:=Tryz.zeroValue253
 g15:=by kernel_rfl
 g16:=by kernel_rfl
 g17:=by kernel_rfl
 g18:=by kernel_rfl
 g19:=by kernel_rfl
 t80:=Tryz.underlying141
 a80:=Tryz.isAgg141
 z80:=Tryz.sizeOf141
 v80:=Tryz.zeroValue141
 i0:=by kernel_rfl
 i2:=by kernel_rfl
 i3:=by kernel_rfl
 i4:=by kernel_rfl
 i5:=by kernel_rfl
 i9:=by kernel_rfl
 i20:=by kernel_rfl
 i21:=by kernel_rfl
 i37:=by kernel_rfl
 i46:=by kernel_rfl
 i51:=by kernel_rfl
 i53:=by kernel_rfl
 i75:=by kernel_rfl
 i76:=by kernel_rfl
 i80:=by kernel_rfl
 i85:=by kernel_rfl
 i127:=by kernel_rfl
 i143:=by kernel_rfl
 i145:=by kernel_rfl
 i167:=by kernel_rfl
 i168:=by kernel_rfl
 i171:=by kernel_rfl
 i173:=by kernel_rfl
 i175:=by kernel_rfl
 i210:=by kernel_rfl
 i212:=by kernel_rfl
 i232:=by kernel_rfl
 i233:=by kernel_rfl
 m15:=by kernel_rfl
 m16:=by kernel_rfl
 m17:=by kernel_rfl
 m18:=by kernel_rfl
 m19:=by kernel_rfl
 c0:=by kernel_rfl
 c2:=by kernel_rfl
 c3:=by kernel_rfl
 c4:=by kernel_rfl
 c5:=by kernel_rfl
 c9:=by kernel_rfl
 c20:=by kernel_rfl
 c21:=by kernel_rfl
 c37:=by kernel_rfl
 c46:=by kernel_rfl
 c51:=by kernel_rfl
 c53:=by kernel_rfl
 c75:=by kernel_rfl
 c76:=by kernel_rfl
 c80:=by kernel_rfl
 c85:=by kernel_rfl
 c127:=by kernel_rfl
 c143:=by kernel_rfl
 c145:=by kernel_rfl
 c167:=by kernel_rfl
 c168:=by kernel_rfl
 c171:=by kernel_rfl
 c173:=by kernel_rfl
 c175:=by kernel_rfl
 c210:=by kernel_rfl
 c212:=by kernel_rfl
 c213:=by kernel_rfl
 c232:=by kernel_rfl
 c233:=by kernel_rfl }
open Go.RowKit in
theorem Tryz.strconv_Atoi_ok (s:ByteArray) (hmax:s.size≤9223372036854775806) (v:Int) (h:Lib.atoiAll s.data.toList = .ok v) (w:World) :
 Calls Tryz.prog 101 #[.string s] w fun e w'=>e = .returned (.tuple #[.int .i64 v,.nilIface])∧(w'=w∨∃ t,w'=Lib.bytesWorld w 5 t):=Any.strconv_Atoi_ok Tryz.laysC172 s hmax v h w
open Go.RowKit in
theorem Tryz.strconv_Atoi_syntax (s:ByteArray) (hlim:s.size≤281474976710656) (E:Lib.NumEnd Int) (hE:Lib.atoiAll s.data.toList=E) (hk:match E with | .ok _=>False | .range=>False | _=>True) (ev:Value) (w:World) (hv:w.cell? ⟨3,0,none⟩=some ev) (hev:ev = .nilIface∨∃ te pe,ev = .iface te pe) :
 Calls Tryz.prog 101 #[.string s] w fun e w'=>∃ N,e = .returned (.tuple #[.int .i64 (0),.iface 215 (.pointer (some ⟨N,0,none⟩))])∧w.heap.size≤N∧w'.heap[N]? = some (.cells #[.string ⟨#[65,116,111,105]⟩,.string s,ev] 233 (0,0))∧Below w.heap.size w w':=by
 cases E with
 | ok v=>exact hk.elim
 | range=>exact hk.elim
 | _=>exact Any.strconv_Atoi_syntax Tryz.laysC172 s hlim hE ev w hv hev
open Go.RowKit in
theorem Tryz.strconv_Atoi_range (s:ByteArray) (hlim:s.size≤281474976710656) (h:Lib.atoiAll s.data.toList = .range) (ev:Value) (w:World) (hv:w.cell? ⟨4,0,none⟩=some ev) (hev:ev = .nilIface∨∃ te pe,ev = .iface te pe) :
 Calls Tryz.prog 101 #[.string s] w fun e w'=>∃ N,e = .returned (.tuple #[.int .i64 (Lib.atoiSat s.data.toList),.iface 215 (.pointer (some ⟨N,0,none⟩))])∧w.heap.size≤N∧w'.heap[N]? = some (.cells #[.string ⟨#[65,116,111,105]⟩,.string s,ev] 233 (0,0))∧Below w.heap.size w w':=Any.strconv_Atoi_range Tryz.laysC172 s hlim h ev w hv hev
def Tryz.lays99_ren:Go.Shelf.Ren:=⟨fun | 99=>182 | 206=>198 | n=>n,fun | 9=>9 | 4=>4 | 3=>3 | n=>n,fun | n=>n⟩
theorem Tryz.lays99:Go.Proofs.Lays.n99 Tryz.prog Tryz.lays99_ren:={
 mixed:=by kernel_rfl
 f99:=Tryz.func182.trans (congrArg some (by kernel_rfl))
 f206:=Tryz.func198.trans (congrArg some (by kernel_rfl))
 t3:=Tryz.underlying3
 a3:=Tryz.isAgg3
 z3:=Tryz.sizeOf3
 v3:=Tryz.zeroValue3
 t4:=Tryz.underlying4
 a4:=Tryz.isAgg4
 z4:=Tryz.sizeOf4
 v4:=Tryz.zeroValue4
 t9:=Tryz.underlying9
 a9:=Tryz.isAgg9
 z9:=Tryz.sizeOf9
 v9:=Tryz.zeroValue9 }
open Go.RowKit Go.Lib in
theorem Tryz.strings_HasPrefix (s p:ByteArray) (w:World) :
 Calls Tryz.prog 182 #[.string s,.string p] w fun e w'=>e = .returned (.bool (Lib.hasPrefix s.data.toList p.data.toList))∧w'=w:=Any.strings_HasPrefix Tryz.lays99 s p w
def Tryz.lays155_ren:Go.Shelf.Ren:=⟨fun | 155=>154 | 154=>172 | 138=>190 | 165=>191 | 143=>192 | 166=>86 | 197=>193 | 169=>65 | 195=>201 | 218=>202 | 240=>118 | 241=>203 | 219=>204 | 260=>205 | 276=>153 | 277=>207 | 217=>206 | 225=>208 | 224=>209 | 267=>210 | 266=>211 | 314=>212 | n=>n,fun | 9=>9 | 3=>3 | 4=>4 | 72=>132 | 0=>0 | 76=>162 | 105=>244 | 21=>21 | 5=>5 | 70=>130 | 20=>20 | 37=>38 | 75=>161 | 127=>168 | 164=>201 | 46=>146 | 119=>255 | 139=>258 | 138=>257 | 146=>259 | 51=>178 | 80=>141 | n=>n,fun | 1=>8 | 3=>9 | 4=>10 | n=>n⟩
theorem Tryz.lays155:Go.Proofs.Lays.n155 Tryz.prog Tryz.lays155_ren:={
 mixed:=by kernel_rfl
 f138:=Tryz.func190.trans (congrArg some (by kernel_rfl))
 f143:=Tryz.func192.trans (congrArg some (by kernel_rfl))
 f154:=Tryz.func172.trans (congrArg some (by kernel_rfl))
 f155:=Tryz.func154.trans (congrArg some (by kernel_rfl))
 f165:=Tryz.func191.trans (congrArg some (by kernel_rfl))
 f166:=Tryz.func86.trans (congrArg some (by kernel_rfl))
 f169:=Tryz.func65.trans (congrArg some (by kernel_rfl))
 f195:=Tryz.func201.trans (congrArg some (by kernel_rfl))
 f197:=Tryz.func193.trans (congrArg some (by kernel_rfl))
 f217:=Tryz.func206.trans (congrArg some (by kernel_rfl))
 f218:=Tryz.func202.trans (congrArg some (by kernel_rfl))
 f219:=Tryz.func204.trans (congrArg some (by kernel_rfl))
 f224:=Tryz.func209.trans (congrArg some (by kernel_rfl))
 f225:=Tryz.func208.trans (congrArg some (by kernel_rfl))
 f240:=Tryz.func118.trans (congrArg some (by kernel_rfl))
 f241:=Tryz.func203.trans (congrArg some (by kernel_rfl))
 f260:=Tryz.func205.trans (congrArg some (by kernel_rfl))
 f266:=Tryz.func211.trans (congrArg some (by kernel_rfl))
 f267:=Tryz.func210.trans (congrArg some (by kernel_rfl))
 f276:=Tryz.func153.trans (congrArg some (by kernel_rfl))
 f277:=Tryz.func207.trans (congrArg some (by kernel_rfl))
 f314:=Tryz.func212.trans (congrArg some (by kernel_rfl))
 t0:=Tryz.underlying0
 a0:=Tryz.isAgg0
 z0:=Tryz.sizeOf0
 v0:=Tryz.zeroValue0
 t3:=Tryz.underlying3
 a3:=Tryz.isAgg3
 z3:=Tryz.sizeOf3
 v3:=Tryz.zeroValue3
 t4:=Tryz.underlying4
 a4:=Tryz.isAgg4
 z4:=Tryz.sizeOf4
 v4:=Tryz.zeroValue4
 t5:=Tryz.underlying5
 a5:=Tryz.isAgg5
 z5:=Tryz.sizeOf5
 v5:=Tryz.zeroValue5
 t9:=Tryz.underlying9
 a9:=Tryz.isAgg9
 z9:=Tryz.sizeOf9
 v9:=Tryz.zeroValue9
 t20:=Tryz.underlying20
 a20:=Tryz.isAgg20
 z20:=Tryz.sizeOf20
 v20:=Tryz.zeroValue20
 t21:=Tryz.underlying21
 a21:=Tryz.isAgg21
 z21:=Tryz.sizeOf21
 v21:=Tryz.zeroValue21
 t37:=Tryz.underlying38
 a37:=Tryz.isAgg38
 z37:=Tryz.sizeOf38
 v37:=Tryz.zeroValue38
 t46:=Tryz.underlying146
 a46:=Tryz.isAgg146
 z46:=Tryz.sizeOf146
 v46:=Tryz.zeroValue146
 t51:=Tryz.underlying178
 a51:=Tryz.isAgg178
 z51:=Tryz.sizeOf178
 v51:=Tryz.zeroValue178
 t70:=Tryz.underlying130
 a70:=Tryz.isAgg130
 z70:=Tryz.sizeOf130
 v70:=Tryz.zeroValue130
 t72:=Tryz.underlying132
 a72:=Tryz.isAgg132
 z72:=Tryz.sizeOf132
 v72:=Tryz.zeroValue132
 t75:=Tryz.underlying161
 a75:=Tryz.isAgg161
 z75:=Tryz.sizeOf161
 v75:=Tryz.zeroValue161
 t76:=Tryz.underlying162
 a76:=Tryz.isAgg162
 z76:=Tryz.sizeOf162
 v76:=Tryz.zeroValue162
 t105:=Tryz.underlying244
 a105:=Tryz.isAgg244
 z105:=Tryz.sizeOf244
 v105:=Tryz.zeroValue244
 t119:=Tryz.underlying255
 a119:=Tryz.isAgg255
 z119:=Tryz.sizeOf255
 t127:=Tryz.underlying168
 a127:=Tryz.isAgg168
 z127:=Tryz.sizeOf168
 v127:=Tryz.zeroValue168
 t138:=Tryz.underlying257
 a138:=Tryz.isAgg257
 z138:=Tryz.sizeOf257
 v138:=Tryz.zeroValue257
 t139:=Tryz.underlying258
 a139:=Tryz.isAgg258
 z139:=Tryz.sizeOf258
 v139:=Tryz.zeroValue258
 t146:=Tryz.underlying259
 a146:=Tryz.isAgg259
 z146:=Tryz.sizeOf259
 v146:=Tryz.zeroValue259
 t164:=Tryz.underlying201
 a164:=Tryz.isAgg201
 z164:=Tryz.sizeOf201
 v164:=Tryz.zeroValue201
 g1:=by kernel_rfl
 g3:=by kernel_rfl
 g4:=by kernel_rfl }
theorem Tryz.Builder_Extra_155:Builder.Extra Tryz.prog Tryz.lays155_ren:={
 sizeBuilder:=by kernel_rfl
 liesBuilder:=by kernel_rfl
 t5:=Tryz.underlying5
 a5:=Tryz.isAgg5
 z5:=Tryz.sizeOf5
 v5:=Tryz.zeroValue5
 infoByte:=by kernel_rfl
 cellsByte:=by kernel_rfl
 sizeByte:=by kernel_rfl
 neB5:=by decide }
open Go.RowKit Go.Lib in
theorem Tryz.strings_ReplaceAll (s old new:ByteArray) (m:Int) (w:World) (hs:s.size<4294967281) (hm:w.cell? ⟨8,0,none⟩=some (.int .i64 m)) (h1:1≤old.size) (hlen:s.size+Lib.countB s old*new.size≤140737488355328) :
 Calls Tryz.prog 154 #[.string s,.string old,.string new] w fun e w' =>
  e = .returned (.string ⟨(Lib.replaceAll s.data.toList old.data.toList new.data.toList).toArray⟩)∧Below w.heap.size w w':=Any.strings_ReplaceAll Tryz.lays155 Tryz.Builder_Extra_155 s old new m w hs hm h1 hlen
end Go.Proofs
namespace Go.Proofs.YtnahgpjglooclaaGreatDoor
open Go.RowKit
theorem ext_sbL (s:ByteArray) (a m:Nat):sb (s.extract a (a+m))=((sb s).drop a).take m:=by
 unfold sb;rw [← List.map_drop, ← List.map_take];congr 1
 rw [ByteArray.data_extract,Array.toList_extract]
 rw [List.extract_eq_take_drop]
 congr 1;omega
def restL (s:ByteArray) (k:Nat):List Int:=(sb s).drop k
theorem length_restL (s:ByteArray) (k:Nat):(restL s k).length=s.size - k:=by unfold restL;rw [List.length_drop,length_sb]
theorem restL_at (s:ByteArray) (k m:Nat) (h:k+m<s.size):(restL s k)[m]? = some ((s[k+m].toNat:Nat):Int):=by unfold restL;rw [List.getElem?_drop,sb_at s _ h]
theorem restL_take (s:ByteArray) (k m:Nat) (h:k+m<s.size):(restL s k).take (m+1)=(restL s k).take m++[((s[k+m].toNat:Nat):Int)]:=by
 rw [List.take_add_one,restL_at s k m h];rfl
theorem restL_cut (s:ByteArray) (k m:Nat):s.extract k (k+m)=strOfNums ((restL s k).take m):=by
 rw [← str_sb (s.extract k (k+m)),ext_sbL];rfl
theorem restL_drop (s:ByteArray) (k m:Nat):(restL s k).drop m=restL s (k+m):=by unfold restL;rw [List.drop_drop]
theorem restL_bd (s:ByteArray) (k:Nat):Bytes (restL s k):=fun a ha=>sb_bd s a (List.mem_of_mem_drop ha)
def lxm (b n:Nat) (w:World):Nat:=n - (match w.cell? ⟨b,1,none⟩ with | some (.int _ m)=>m.toNat | _=>0)
theorem LxAt.lxm {w:World} {b:Nat} {s:ByteArray} {k:Nat} (h:LxAt w b s k) (n:Nat):lxm b n w=n - k:=by
 unfold Go.Proofs.YtnahgpjglooclaaGreatDoor.lxm;rw [h.facts.2];rfl
def Took (p:Int→Bool) (s:ByteArray) (b k:Nat) (w:World) (e:Ending) (w':World):Prop :=
 w.grownBy w' (some b)∧e = .returned (.string (strOfNums ((restL s k).takeWhile p)))∧LxAt w' b s (k+((restL s k).takeWhile p).length)
theorem took_end {p:Int→Bool} {s:ByteArray} {b k m:Nat} {w wr:World} (hg:w.grownBy wr (some b)) (hall:∀ x∈(restL s k).take m,p x=true) (hstop:∀ x,(restL s k)[m]? = some x→p x=false) (hm:k+m≤s.size)
 (hr:LxAt wr b s (k+m)) (e:Ending) (he:e = .returned (.string (s.extract k (k+m)))):Took p s b k w e wr:=by
 have hsp:=span_stop p (restL s k) m hall hstop
 have hlen:((restL s k).take m).length=m:=by rw [List.length_take,length_restL];omega
 refine ⟨hg, ?_, ?_⟩
 · rw [hsp,he,restL_cut]
 · rw [hsp,hlen];exact hr
set_option maxRecDepth 100000 in
set_option maxHeartbeats 800000 in
theorem whileBlank_any (b:Nat) (s:ByteArray) (k:Nat) (w:World) (h:LxAt w b s k) (_hs:s.size≤1000000) (_hk:k≤s.size) :
 Calls Tryz.prog 103 #[.pointer (some ⟨b,0,none⟩),.func (.func 104) #[] #[]] w (Took isBl s b k w):=by
 have HR:=Lib.hid h
 obtain ⟨c0,c1⟩:=h.facts
 clear h
 go_enter Tryz.func103,Tryz.ntmps103
 go_wp2_with fail
 clear c0 c1
 go_loopw [] (fun wr=>∃ m:Nat,k+m≤s.size∧Hid (∀ x∈(restL s k).take m,isBl x=true)∧Hid (LxAt wr b s (k+m))∧Hid (w.grownBy wr (some b)))
  (fun wr=>lxm b s.size wr)
 case atStart=>exact ⟨0,by omega,Lib.hid (by simp),HR,Lib.hid (grownBy.refl' _ _)⟩
 case round =>
  obtain ⟨m,hkm,HM,HRD,HG⟩:=hrel
  obtain ⟨c0,c1⟩:=HRD.out.facts
  have f1:=HRD.out.frozen 1
  obtain ⟨p,hp⟩:∃ p:Nat,k+m=p:=⟨_,rfl⟩
  rw [hp] at c1
  have hz1:(0:Int)≤(k:Int):=by omega
  have hz2:(k:Int)≤(p:Int):=by omega
  have hz3:(p:Int)≤(s.size:Int):=by omega
  have hz4:(0:Int)≤(p:Int):=by omega
  by_cases hlt:p<s.size
  · have hlt2:(p:Int)<(s.size:Int):=by omega
    obtain ⟨a,ha⟩:∃ a:Int,(s[p].toNat:Int)=a:=⟨_,rfl⟩
    have ha1:0≤a∧a≤255:=by have:=s[p].toNat_lt;omega
    have hnx:(restL s k).take (m+1)=(restL s k).take m++[a]:=by subst hp;rw [restL_take s k m hlt,ha]
    have hat:(restL s k)[m]? = some a:=by subst hp;rw [restL_at s k m hlt,ha]
    have HNX:=Lib.hid hnx;clear hnx
    have HAT:=Lib.hid hat;clear hat
    have HP:=Lib.hid hp;clear hp
    by_cases hc:isBl a=true
    · have hall:=all_snoc HM.out hc
      rw [← HNX.out] at hall
      have HALL:=Lib.hid hall;clear hall
      go_wp2_with fail
      go_quiet ((go_at_call 104;exact quiet_call (lexBlank_any _ (by omega) (by omega) _)))
      go_wp2_with fail
      go_roundw
      case rel =>
       refine ⟨m+1,by have:=HP.out;omega,HALL,Lib.hid ?_,Lib.hid (grownBy.setCell' (grownBy.drewN' HG.out _) _ _)⟩
       rw [show k+(m+1)=p+1 from by have:=HP.out;omega]
       exact (HRD.out.drewN _).setK (p+1)
      case measure =>
       have h1:=((HRD.out.drewN nq).setK (p+1)).lxm s.size
       have h2:=HRD.out.lxm s.size
       have h3:=HP.out
       rw [h2]
       refine Nat.lt_of_le_of_lt (Nat.le_of_eq h1) (by omega)
    · have hc':isBl a=false:=by simpa using hc
      clear hc
      go_wp2_with fail
      go_quiet ((go_at_call 104;exact quiet_call (lexBlank_any _ (by omega) (by omega) _)))
      go_wp2_with fail
      go_quiet (fail)
      go_wp2_with fail
      go_ret
      have h3:=HP.out
      exact took_end (grownBy.drewN' (grownBy.drewN' HG.out _) _) HM.out (fun x hx=>by rw [HAT.out] at hx;injection hx with hx;rw [← hx];exact hc') (by omega) ((HRD.out.drewN _).drewN _) _ (by rw [h3];rfl)
  · have hlt2:¬ (p:Int)<(s.size:Int):=by omega
    have HP:=Lib.hid hp;clear hp
    go_wp2_with fail
    go_quiet (fail)
    go_wp2_with fail
    go_quiet (fail)
    go_wp2_with fail
    go_ret
    have h3:=HP.out
    exact took_end (grownBy.drewN' (grownBy.drewN' HG.out _) _) HM.out (fun x hx=>by have h1:=(List.getElem?_eq_some_iff.1 hx).1;rw [length_restL] at h1;omega) (by omega) ((HRD.out.drewN _).drewN _) _ (by rw [h3];rfl)
set_option maxRecDepth 100000 in
set_option maxHeartbeats 800000 in
theorem whileDigit_any (b:Nat) (s:ByteArray) (k:Nat) (w:World) (h:LxAt w b s k) (_hs:s.size≤1000000) (_hk:k≤s.size) :
 Calls Tryz.prog 103 #[.pointer (some ⟨b,0,none⟩),.func (.func 137) #[] #[]] w (Took isNum s b k w):=by
 have HR:=Lib.hid h
 obtain ⟨c0,c1⟩:=h.facts
 clear h
 go_enter Tryz.func103,Tryz.ntmps103
 go_wp2_with fail
 clear c0 c1
 go_loopw [] (fun wr=>∃ m:Nat,k+m≤s.size∧Hid (∀ x∈(restL s k).take m,isNum x=true)∧Hid (LxAt wr b s (k+m))∧Hid (w.grownBy wr (some b)))
  (fun wr=>lxm b s.size wr)
 case atStart=>exact ⟨0,by omega,Lib.hid (by simp),HR,Lib.hid (grownBy.refl' _ _)⟩
 case round =>
  obtain ⟨m,hkm,HM,HRD,HG⟩:=hrel
  obtain ⟨c0,c1⟩:=HRD.out.facts
  have f1:=HRD.out.frozen 1
  obtain ⟨p,hp⟩:∃ p:Nat,k+m=p:=⟨_,rfl⟩
  rw [hp] at c1
  have hz1:(0:Int)≤(k:Int):=by omega
  have hz2:(k:Int)≤(p:Int):=by omega
  have hz3:(p:Int)≤(s.size:Int):=by omega
  have hz4:(0:Int)≤(p:Int):=by omega
  by_cases hlt:p<s.size
  · have hlt2:(p:Int)<(s.size:Int):=by omega
    obtain ⟨a,ha⟩:∃ a:Int,(s[p].toNat:Int)=a:=⟨_,rfl⟩
    have ha1:0≤a∧a≤255:=by have:=s[p].toNat_lt;omega
    have hnx:(restL s k).take (m+1)=(restL s k).take m++[a]:=by subst hp;rw [restL_take s k m hlt,ha]
    have hat:(restL s k)[m]? = some a:=by subst hp;rw [restL_at s k m hlt,ha]
    have HNX:=Lib.hid hnx;clear hnx
    have HAT:=Lib.hid hat;clear hat
    have HP:=Lib.hid hp;clear hp
    by_cases hc:isNum a=true
    · have hall:=all_snoc HM.out hc
      rw [← HNX.out] at hall
      have HALL:=Lib.hid hall;clear hall
      go_wp2_with fail
      go_quiet ((go_at_call 137;exact quiet_call (lexDigit_any _ (by omega) (by omega) _)))
      go_wp2_with fail
      go_roundw
      case rel =>
       refine ⟨m+1,by have:=HP.out;omega,HALL,Lib.hid ?_,Lib.hid (grownBy.setCell' (grownBy.drewN' HG.out _) _ _)⟩
       rw [show k+(m+1)=p+1 from by have:=HP.out;omega]
       exact (HRD.out.drewN _).setK (p+1)
      case measure =>
       have h1:=((HRD.out.drewN nq).setK (p+1)).lxm s.size
       have h2:=HRD.out.lxm s.size
       have h3:=HP.out
       rw [h2]
       refine Nat.lt_of_le_of_lt (Nat.le_of_eq h1) (by omega)
    · have hc':isNum a=false:=by simpa using hc
      clear hc
      go_wp2_with fail
      go_quiet ((go_at_call 137;exact quiet_call (lexDigit_any _ (by omega) (by omega) _)))
      go_wp2_with fail
      go_quiet (fail)
      go_wp2_with fail
      go_ret
      have h3:=HP.out
      exact took_end (grownBy.drewN' (grownBy.drewN' HG.out _) _) HM.out (fun x hx=>by rw [HAT.out] at hx;injection hx with hx;rw [← hx];exact hc') (by omega) ((HRD.out.drewN _).drewN _) _ (by rw [h3];rfl)
  · have hlt2:¬ (p:Int)<(s.size:Int):=by omega
    have HP:=Lib.hid hp;clear hp
    go_wp2_with fail
    go_quiet (fail)
    go_wp2_with fail
    go_quiet (fail)
    go_wp2_with fail
    go_ret
    have h3:=HP.out
    exact took_end (grownBy.drewN' (grownBy.drewN' HG.out _) _) HM.out (fun x hx=>by have h1:=(List.getElem?_eq_some_iff.1 hx).1;rw [length_restL] at h1;omega) (by omega) ((HRD.out.drewN _).drewN _) _ (by rw [h3];rfl)
set_option maxRecDepth 100000 in
set_option maxHeartbeats 800000 in
theorem whileWord_any (b:Nat) (s:ByteArray) (k:Nat) (w:World) (h:LxAt w b s k) (_hs:s.size≤1000000) (_hk:k≤s.size) :
 Calls Tryz.prog 103 #[.pointer (some ⟨b,0,none⟩),.func (.func 169) #[] #[]] w (Took isWord s b k w):=by
 have HR:=Lib.hid h
 obtain ⟨c0,c1⟩:=h.facts
 clear h
 go_enter Tryz.func103,Tryz.ntmps103
 go_wp2_with fail
 clear c0 c1
 go_loopw [] (fun wr=>∃ m:Nat,k+m≤s.size∧Hid (∀ x∈(restL s k).take m,isWord x=true)∧Hid (LxAt wr b s (k+m))∧Hid (w.grownBy wr (some b)))
  (fun wr=>lxm b s.size wr)
 case atStart=>exact ⟨0,by omega,Lib.hid (by simp),HR,Lib.hid (grownBy.refl' _ _)⟩
 case round =>
  obtain ⟨m,hkm,HM,HRD,HG⟩:=hrel
  obtain ⟨c0,c1⟩:=HRD.out.facts
  have f1:=HRD.out.frozen 1
  obtain ⟨p,hp⟩:∃ p:Nat,k+m=p:=⟨_,rfl⟩
  rw [hp] at c1
  have hz1:(0:Int)≤(k:Int):=by omega
  have hz2:(k:Int)≤(p:Int):=by omega
  have hz3:(p:Int)≤(s.size:Int):=by omega
  have hz4:(0:Int)≤(p:Int):=by omega
  by_cases hlt:p<s.size
  · have hlt2:(p:Int)<(s.size:Int):=by omega
    obtain ⟨a,ha⟩:∃ a:Int,(s[p].toNat:Int)=a:=⟨_,rfl⟩
    have ha1:0≤a∧a≤255:=by have:=s[p].toNat_lt;omega
    have hnx:(restL s k).take (m+1)=(restL s k).take m++[a]:=by subst hp;rw [restL_take s k m hlt,ha]
    have hat:(restL s k)[m]? = some a:=by subst hp;rw [restL_at s k m hlt,ha]
    have HNX:=Lib.hid hnx;clear hnx
    have HAT:=Lib.hid hat;clear hat
    have HP:=Lib.hid hp;clear hp
    by_cases hc:isWord a=true
    · have hall:=all_snoc HM.out hc
      rw [← HNX.out] at hall
      have HALL:=Lib.hid hall;clear hall
      go_wp2_with fail
      go_quiet ((go_at_call 169;exact quiet_call (isOfWord_any _ (by omega) (by omega) _)))
      go_wp2_with fail
      go_roundw
      case rel =>
       refine ⟨m+1,by have:=HP.out;omega,HALL,Lib.hid ?_,Lib.hid (grownBy.setCell' (grownBy.drewN' HG.out _) _ _)⟩
       rw [show k+(m+1)=p+1 from by have:=HP.out;omega]
       exact (HRD.out.drewN _).setK (p+1)
      case measure =>
       have h1:=((HRD.out.drewN nq).setK (p+1)).lxm s.size
       have h2:=HRD.out.lxm s.size
       have h3:=HP.out
       rw [h2]
       refine Nat.lt_of_le_of_lt (Nat.le_of_eq h1) (by omega)
    · have hc':isWord a=false:=by simpa using hc
      clear hc
      go_wp2_with fail
      go_quiet ((go_at_call 169;exact quiet_call (isOfWord_any _ (by omega) (by omega) _)))
      go_wp2_with fail
      go_quiet (fail)
      go_wp2_with fail
      go_ret
      have h3:=HP.out
      exact took_end (grownBy.drewN' (grownBy.drewN' HG.out _) _) HM.out (fun x hx=>by rw [HAT.out] at hx;injection hx with hx;rw [← hx];exact hc') (by omega) ((HRD.out.drewN _).drewN _) _ (by rw [h3];rfl)
  · have hlt2:¬ (p:Int)<(s.size:Int):=by omega
    have HP:=Lib.hid hp;clear hp
    go_wp2_with fail
    go_quiet (fail)
    go_wp2_with fail
    go_quiet (fail)
    go_wp2_with fail
    go_ret
    have h3:=HP.out
    exact took_end (grownBy.drewN' (grownBy.drewN' HG.out _) _) HM.out (fun x hx=>by have h1:=(List.getElem?_eq_some_iff.1 hx).1;rw [length_restL] at h1;omega) (by omega) ((HRD.out.drewN _).drewN _) _ (by rw [h3];rfl)
set_option maxHeartbeats 400000 in
theorem skipBlanks_any (b:Nat) (s:ByteArray) (k:Nat) (w:World) (h:LxAt w b s k) (_hs:s.size≤1000000) (_hk:k≤s.size) :
 Calls Tryz.prog 75 #[.pointer (some ⟨b,0,none⟩)] w fun e w'=>w.grownBy w' (some b)∧e = .returned (.tuple #[])∧LxAt w' b s (k+((restL s k).takeWhile isBl).length):=by
 have HW:=Lib.hid (whileBlank_any b s k w h _hs _hk);clear h
 go_enter Tryz.func75,Tryz.ntmps75
 go_wp2_with (go_at_call 103;((with_reducible refine HW.out.mono ?_);rintro e w1 ⟨h1,rfl,h2⟩;have H1:=Lib.hid h1;have H2:=Lib.hid h2;clear h1 h2))
 first
  | exact bodyPost_ret (results_none rfl _ _ _) rfl ⟨H1.out,rfl,H2.out⟩
  | (go_end0;exact ⟨H1.out,rfl,H2.out⟩)
def headL (p l:List Int):Bool:=decide (l.take p.length=p)
theorem hasPrefix_nums:∀ (l p:List UInt8),Lib.hasPrefix l p=headL (p.map fun x=>(x.toNat:Int)) (l.map fun x=>(x.toNat:Int))
 | l,[]=>by unfold Lib.hasPrefix headL;simp
 | [],x :: p=>by unfold Lib.hasPrefix headL;simp
 | y :: l,x :: p=>by
   have ih:=hasPrefix_nums l p
   unfold Lib.hasPrefix headL at ih ⊢
   rw [List.isPrefixOf_cons_cons,ih]
   simp only [List.map_cons,List.length_cons,List.take_succ_cons,List.cons.injEq]
   rw [Bool.eq_iff_iff,Bool.and_eq_true,beq_iff_eq,decide_eq_true_iff,decide_eq_true_iff]
   refine and_congr ⟨fun h=>by rw [h],fun h => ?_⟩ Iff.rfl
   apply UInt8.toNat_inj.1;omega
theorem headL_len {p l:List Int} (h:headL p l=true):p.length≤l.length:=by
 unfold headL at h;rw [decide_eq_true_iff] at h
 have:=congrArg List.length h
 rw [List.length_take] at this;omega
theorem prefix_rest (s t:ByteArray) (k:Nat):Lib.hasPrefix (s.extract k s.size).data.toList t.data.toList=headL (sb t) (restL s k):=by
 rw [hasPrefix_nums]
 show headL (sb t) (sb (s.extract k s.size))=_
 congr 1
 by_cases hk:k≤s.size
 · have:=ext_sbL s k (s.size - k)
   rw [show k+(s.size - k)=s.size from by omega] at this
   rw [this]
   unfold restL
   rw [List.take_of_length_le]
   rw [List.length_drop,length_sb];omega
 · have h1:(sb (s.extract k s.size)).length=0:=by rw [length_sb,ByteArray.size_extract];omega
   have h2:(restL s k).length=0:=by rw [length_restL];omega
   rw [List.eq_nil_of_length_eq_zero h1,List.eq_nil_of_length_eq_zero h2]
set_option maxHeartbeats 400000 in
theorem take_any (b:Nat) (s t:ByteArray) (k:Nat) (w:World) (h:LxAt w b s k) (_hs:s.size≤1000000) (_hk:k≤s.size) (_ht:t.size≤1000000) :
 Calls Tryz.prog 167 #[.pointer (some ⟨b,0,none⟩),.string t] w fun e w'=>w.grownBy w' (some b)∧e = .returned (.bool (headL (sb t) (restL s k)))∧LxAt w' b s (if headL (sb t) (restL s k)=true then k+t.size else k):=by
 obtain ⟨c0,c1⟩:=h.facts
 have f1:=h.frozen 1
 have HR:=Lib.hid h;clear h
 have hz1:(0:Int)≤(k:Int):=by omega
 have hz2:(k:Int)≤(s.size:Int):=by omega
 cases hq:headL (sb t) (restL s k)
 · have HP:=Lib.hid (prefix_rest s t k);rw [hq] at HP
   go_enter Tryz.func167,Tryz.ntmps167
   go_wp2_with fail
   go_quiet ((go_at_call 182;exact Calls.quiet_of_same ((Tryz.strings_HasPrefix _ _ _).mono (fun _ _ ⟨a,c⟩=>⟨by rw [a,HP.out],c⟩))))
   go_wp2_with fail
   go_ret
   exact ⟨grownBy.drewN' (grownBy.refl' _ _) _,rfl,HR.out.drewN _⟩
 · have HP:=Lib.hid (prefix_rest s t k);rw [hq] at HP
   have hle:=headL_len hq
   rw [length_restL,length_sb] at hle
   go_enter Tryz.func167,Tryz.ntmps167
   go_wp2_with fail
   go_quiet ((go_at_call 182;exact Calls.quiet_of_same ((Tryz.strings_HasPrefix _ _ _).mono (fun _ _ ⟨a,c⟩=>⟨by rw [a,HP.out],c⟩))))
   go_wp2_with fail
   go_ret
   exact ⟨grownBy.setCell' (grownBy.drewN' (grownBy.refl' _ _) _) _ _,rfl,(HR.out.drewN _).setK (k+t.size)⟩
def nmL (l:List Int):Bool:=decide (∀ x∈l,(isCap x||isNum x)=true)&&decide (l.length≤12)
theorem nmL_bad (s:ByteArray) (k:Nat) (h:k<s.size) (hx:(isCap ((sb s).getD k 0)||isNum ((sb s).getD k 0))=false):nmL (sb s)=false:=by
 unfold nmL;rw [Bool.and_eq_false_iff];left;rw [decide_eq_false_iff_not];intro hall
 have:=hall ((sb s).getD k 0) (by rw [sb_getD s k h];exact List.mem_of_getElem? (sb_at s k h))
 rw [hx] at this;cases this
theorem nmL_all (s:ByteArray) (h:∀ j,j<s.size→(isCap ((sb s).getD j 0)||isNum ((sb s).getD j 0))=true):nmL (sb s)=decide (s.size≤12):=by
 unfold nmL;rw [decide_eq_true (show ∀ x∈sb s,(isCap x||isNum x)=true from ?_),Bool.true_and,length_sb]
 intro x hx
 obtain ⟨j,hj,rfl⟩:=List.mem_iff_getElem.1 hx
 have:=h j (by rw [length_sb] at hj;exact hj)
 rw [List.getD_eq_getElem?_getD,List.getElem?_eq_getElem hj] at this
 exact this
set_option maxRecDepth 100000 in
set_option maxHeartbeats 400000 in
theorem isName_any (s:ByteArray) (w:World) (_hs:s.size≤1000000) :
 Calls Tryz.prog 171 #[.string s] w fun e w'=>e = .returned (.bool (nmL (sb s)))∧w=w':=by
 go_enter Tryz.func171,Tryz.ntmps171
 go_wp2_with fail
 go_loopw [6] (fun i wr=>∃ k:Nat,k≤s.size∧i = .int .i64 k∧Hid (∀ j,j<k→(isCap ((sb s).getD j 0)||isNum ((sb s).getD j 0))=true)∧w=wr)
  (fun i _=>s.size - (intOf i).toNat)
 case atStart=>exact ⟨0,by omega,rfl,Lib.hid (by intro j hj;omega),rfl⟩
 case round =>
  obtain ⟨k,hk,rfl,HG,rfl⟩:=hrel
  by_cases hlt:k<s.size
  · have hki:(k:Int)<(s.size:Int):=by omega
    obtain ⟨a,ha⟩:∃ a:Int,(s[k].toNat:Int)=a:=⟨_,rfl⟩
    have ha1:0≤a∧a≤255:=by have:=s[k].toNat_lt;omega
    have HGB:=Lib.hid (show (sb s).getD k 0=a by rw [sb_getD s k hlt,ha])
    have hnext:(isCap a||isNum a)=true→∀ j,j<k+1→(isCap ((sb s).getD j 0)||isNum ((sb s).getD j 0))=true:=by
     intro h j hj
     by_cases h1:j<k
     · exact HG.out j h1
     · rw [show j=k from by omega,HGB.out];exact h
    have HNEXT:=Lib.hid hnext;clear hnext
    cases hc:isCap a
    · cases hn:isNum a
      · have HNO:=Lib.hid (nmL_bad s k hlt (by rw [HGB.out,hc,hn];rfl))
        go_wp2_with (first
         | (go_at_call 168;((with_reducible refine (lexCapital_any _ ?_ ?_ _).mono ?_);(first | omega | skip);(first | omega | skip);rintro e w' ⟨rfl,rfl⟩;rw [hc]))
         | (go_at_call 137;((with_reducible refine (lexDigit_any _ ?_ ?_ _).mono ?_);(first | omega | skip);(first | omega | skip);rintro e w' ⟨rfl,rfl⟩;rw [hn])))
        go_ret
        exact ⟨ret_bool HNO.out.symm,rfl⟩
      · go_wp2_with (first
         | (go_at_call 168;((with_reducible refine (lexCapital_any _ ?_ ?_ _).mono ?_);(first | omega | skip);(first | omega | skip);rintro e w' ⟨rfl,rfl⟩;rw [hc]))
         | (go_at_call 137;((with_reducible refine (lexDigit_any _ ?_ ?_ _).mono ?_);(first | omega | skip);(first | omega | skip);rintro e w' ⟨rfl,rfl⟩;rw [hn])))
        go_roundw
        case rel=>exact ⟨k+1,by omega,by go_num,Lib.hid (HNEXT.out (by rw [hc,hn];rfl)),by trivial⟩
        case measure=>simp [intOf];omega
    · go_wp2_with (first
       | (go_at_call 168;((with_reducible refine (lexCapital_any _ ?_ ?_ _).mono ?_);(first | omega | skip);(first | omega | skip);rintro e w' ⟨rfl,rfl⟩;rw [hc])))
      go_roundw
      case rel=>exact ⟨k+1,by omega,by go_num,Lib.hid (HNEXT.out (by rw [hc];rfl)),by trivial⟩
      case measure=>simp [intOf];omega
  · have hki:¬ (k:Int)<(s.size:Int):=by omega
    have HA:=Lib.hid (nmL_all s (fun j hj=>HG.out j (by omega)))
    go_wp2_with fail
    go_ret
    refine ⟨ret_bool (by rw [HA.out,decide_eq_decide];omega),rfl⟩
def methN (c:Int):FuncId:=if isNum c=true then 138 else if c=34 then 139 else if c=35 then 140 else if isBeg c=true then 142 else 143
theorem methN_num {c:Int} (h:isNum c=true):methN c=138:=by unfold methN;rw [if_pos h]
theorem methN_quo {c:Int} (h:isNum c=false) (h1:c=34):methN c=139:=by unfold methN;rw [if_neg (by simp [h]),if_pos h1]
theorem methN_dead {c:Int} (h:isNum c=false) (h1:¬ c=34) (h2:c=35):methN c=140:=by unfold methN;rw [if_neg (by simp [h]),if_neg h1,if_pos h2]
theorem methN_word {c:Int} (h:isNum c=false) (h1:¬ c=34) (h2:¬ c=35) (h3:isBeg c=true):methN c=142:=by unfold methN;rw [if_neg (by simp [h]),if_neg h1,if_neg h2,if_pos h3]
theorem methN_sign {c:Int} (h:isNum c=false) (h1:¬ c=34) (h2:¬ c=35) (h3:isBeg c=false):methN c=143:=by unfold methN;rw [if_neg (by simp [h]),if_neg h1,if_neg h2,if_neg (by simp [h3])]
set_option maxHeartbeats 400000 in
theorem methodOf_any (c:Int) (_h0:0≤c) (_h1:c≤255) (w:World) :
 Calls Tryz.prog 105 #[.int .u8 c] w fun e w'=>e = .returned (.func (.func (methN c)) #[] #[])∧w=w':=by
 cases hn:isNum c
 · by_cases h34:c=34
   · have HM:=Lib.hid (methN_quo hn h34)
     have hb1:(c == 34)=true:=beq_iff_eq.2 h34
     clear h34
     go_enter Tryz.func105,Tryz.ntmps105
     go_wp2_with (first
      | (go_at_call 137;((with_reducible refine (lexDigit_any _ ?_ ?_ _).mono ?_);(first | omega | skip);(first | omega | skip);rintro e w' ⟨rfl,rfl⟩;rw [hn]))
      | (go_at_call 141;((with_reducible refine (beginsWord_any _ ?_ ?_ _).mono ?_);(first | omega | skip);(first | omega | skip);rintro e w' ⟨rfl,rfl⟩;rw [hb])))
     all_goals go_ret
     all_goals exact ⟨by rw [HM.out];rfl,rfl⟩
   · have hb1:(c == 34)=false:=beq_eq_false_iff_ne.2 h34
     by_cases h35:c=35
     · have HM:=Lib.hid (methN_dead hn h34 h35)
       have hb2:(c == 35)=true:=beq_iff_eq.2 h35
       clear h34 h35
       go_enter Tryz.func105,Tryz.ntmps105
       go_wp2_with (first
        | (go_at_call 137;((with_reducible refine (lexDigit_any _ ?_ ?_ _).mono ?_);(first | omega | skip);(first | omega | skip);rintro e w' ⟨rfl,rfl⟩;rw [hn]))
        | (go_at_call 141;((with_reducible refine (beginsWord_any _ ?_ ?_ _).mono ?_);(first | omega | skip);(first | omega | skip);rintro e w' ⟨rfl,rfl⟩;rw [hb])))
       all_goals go_ret
       all_goals exact ⟨by rw [HM.out];rfl,rfl⟩
     · have hb2:(c == 35)=false:=beq_eq_false_iff_ne.2 h35
       cases hb:isBeg c
       · have HM:=Lib.hid (methN_sign hn h34 h35 hb)
         clear h34 h35
         go_enter Tryz.func105,Tryz.ntmps105
         go_wp2_with (first
          | (go_at_call 137;((with_reducible refine (lexDigit_any _ ?_ ?_ _).mono ?_);(first | omega | skip);(first | omega | skip);rintro e w' ⟨rfl,rfl⟩;rw [hn]))
          | (go_at_call 141;((with_reducible refine (beginsWord_any _ ?_ ?_ _).mono ?_);(first | omega | skip);(first | omega | skip);rintro e w' ⟨rfl,rfl⟩;rw [hb])))
         all_goals go_ret
         all_goals exact ⟨by rw [HM.out];rfl,rfl⟩
       · have HM:=Lib.hid (methN_word hn h34 h35 hb)
         clear h34 h35
         go_enter Tryz.func105,Tryz.ntmps105
         go_wp2_with (first
          | (go_at_call 137;((with_reducible refine (lexDigit_any _ ?_ ?_ _).mono ?_);(first | omega | skip);(first | omega | skip);rintro e w' ⟨rfl,rfl⟩;rw [hn]))
          | (go_at_call 141;((with_reducible refine (beginsWord_any _ ?_ ?_ _).mono ?_);(first | omega | skip);(first | omega | skip);rintro e w' ⟨rfl,rfl⟩;rw [hb])))
         all_goals go_ret
         all_goals exact ⟨by rw [HM.out];rfl,rfl⟩
 · have HM:=Lib.hid (methN_num hn)
   go_enter Tryz.func105,Tryz.ntmps105
   go_wp2_with (first
    | (go_at_call 137;((with_reducible refine (lexDigit_any _ ?_ ?_ _).mono ?_);(first | omega | skip);(first | omega | skip);rintro e w' ⟨rfl,rfl⟩;rw [hn]))
    | (go_at_call 141;((with_reducible refine (beginsWord_any _ ?_ ?_ _).mono ?_);(first | omega | skip);(first | omega | skip);rintro e w' ⟨rfl,rfl⟩;skip)))
   all_goals go_ret
   all_goals exact ⟨by rw [HM.out];rfl,rfl⟩
end Go.Proofs.YtnahgpjglooclaaGreatDoor
