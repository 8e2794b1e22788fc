import Derived.Test.YtahjnhmidjeniaaGreatDoorDC1
import Derived.Deep.DeepCutAuto
import Derived.Deep.CutBlock
import Derived.Laws.MakeOwn
import Derived.Shelf.Small.Strs
import Derived.Shelf.Strconv.Atoi
import Derived.Shelf.Strconv.Itoa0
import Derived.Shelf.Strconv.Itoa1
import Derived.Shelf.LaysM
import Derived.Shelf.Strconv.Itoa2
import Derived.Shelf.Strconv.Itoa3
import Derived.Shelf.Strconv.AtoiErrFast
import Derived.Shelf.Strconv.ParseIntEmpty
import Derived.Shelf.Strconv.AtoiFail
import Derived.Shelf.Strconv.Clone
import Derived.Shelf.Strconv.SyntaxError
import Derived.Shelf.LaysC
import Derived.Shelf.Strconv.ToError
import Derived.Shelf.Strconv.Lower
import Derived.Shelf.Strconv.ParseUint10
import Derived.Shelf.Strconv.ParseUint10Empty
import Derived.Shelf.Strconv.ParseUint10Any
import Derived.Shelf.Strconv.ParseInt10
import Derived.Shelf.Strconv.AtoiLong
import Derived.Shelf.Strconv.AtoiInnerAll
import Derived.Shelf.Strconv.RangeError
import Derived.Shelf.Strconv.ToErrorRange
import Derived.Shelf.Strconv.AtoiAll
import Derived.Shelf.Strconv.ErrVarAll
import Derived.Shelf.Strings.Search1
import Derived.Shelf.Strings.Search2
import Derived.Shelf.Strings.Search3
import Derived.Shelf.Strings.Count
import Derived.Shelf.Strings.Shaped
import Derived.Shelf.Strings.Prefix
import Derived.Shelf.Unicode.DecodeSlow
import Derived.Test.YtahjnhmidjeniaaGreatDoorProg
set_option maxRecDepth 100000
set_option maxHeartbeats 64000000
namespace Go.Proofs.YtahjnhmidjeniaaGreatDoor
open Go.RowKit
variable {s:ByteArray}{x:Int}{ks l:List Int}{ns:List Nd}{r ts:List ai}{B a b base deep f g k m n:Nat}{d:Rd}{α:Type}{e:TypeId}{w w':World}{t:ai}
structure aZ where
 sh:ByteArray
 f:bJ
 l:bJ
def kG(a:aZ):Array Value:=#[.string a.sh,.string a.f.sh,.int .i64 a.f.c,.int .i64 a.f.r,.bool a.f.ac,.bool a.f.ar,.string a.l.sh,.int .i64 a.l.c,.int .i64 a.l.r,.bool a.l.ac,.bool a.l.ar]
def zAr:aZ:=⟨⟨#[]⟩,bJ.zero,bJ.zero⟩
def mh:Enc aZ 11:={ f:=fun a=>(kG a).toList,len:=fun _=>rfl,one:=fun a u hu=>by simp only[kG,gp,List.not_mem_nil,or_false]at hu;rcases hu with rfl|rfl|rfl|rfl|rfl|rfl|rfl|rfl|rfl|rfl|rfl <;> rfl }
theorem Elem.ar:Elem Tryz.prog 81 109 11 96:=⟨Tryz.underlying81,⟨.agg (kG zAr),by kernel_rfl,rfl⟩,by decide⟩
def lu(w:World)(b:Nat)(a:aZ):Prop:=w.heap[b]? = some (.cells (kG a) 109)
theorem lu.new(w:World)(a:aZ):lu (w.alloc (.cells (kG a) 109)) w.heap.size a:=(gV w _).1
theorem lu.lt{a:aZ}(h:lu w b a):b<w.heap.size:=(cu.1 h).1
theorem lu.over{a:aZ}(h:lu w b a)(hb:Below w.heap.size w w'):lu w' b a:=by unfold lu;rw[hb.block b h.lt];exact h
theorem lu.cells {a:aZ}(h:lu w b a):w.cell? ⟨b,0,none⟩=some (.string a.sh)∧w.cell? ⟨b,1,none⟩=some (.string a.f.sh)∧w.cell? ⟨b,2,none⟩=some (.int .i64 a.f.c)∧w.cell? ⟨b,3,none⟩=some (.int .i64 a.f.r)∧w.cell? ⟨b,4,none⟩=some (.bool a.f.ac)∧w.cell? ⟨b,5,none⟩=some (.bool a.f.ar)∧w.cell? ⟨b,6,none⟩=some (.string a.l.sh)∧w.cell? ⟨b,7,none⟩=some (.int .i64 a.l.c)∧w.cell? ⟨b,8,none⟩=some (.int .i64 a.l.r)∧w.cell? ⟨b,9,none⟩=some (.bool a.l.ac)∧w.cell? ⟨b,10,none⟩=some (.bool a.l.ar) :=
 ⟨by rw[cell_of_row w b 0 _ _ _ h];rfl,by rw[cell_of_row w b 1 _ _ _ h];rfl,by rw[cell_of_row w b 2 _ _ _ h];rfl,by rw[cell_of_row w b 3 _ _ _ h];rfl,by rw[cell_of_row w b 4 _ _ _ h];rfl,by rw[cell_of_row w b 5 _ _ _ h];rfl,by rw[cell_of_row w b 6 _ _ _ h];rfl,by rw[cell_of_row w b 7 _ _ _ h];rfl,by rw[cell_of_row w b 8 _ _ _ h];rfl,by rw[cell_of_row w b 9 _ _ _ h];rfl,by rw[cell_of_row w b 10 _ _ _ h];rfl⟩
theorem iX(w:World)(a:aZ):Below w.heap.size w (w.alloc (.cells (kG a) 109)):=(ak _ _).alloc (aj _) _
def nJ(w:World)(B:Nat)(v:Value)(l:List aZ):Prop:=dE mh w B v l
theorem zI {A:Option Addr}{cap:Nat}{l:List aZ}(h:nJ w B (.slice A n cap) l){i:Nat}{a:aZ}(hi:l[i]? = some a) :
 ∃pb po,A=some ⟨pb,po,none⟩∧pb<B∧w.cell? ⟨pb,po+i*11,none⟩=some (.string a.sh)∧w.cell? ⟨pb,po+i*11+1,none⟩=some (.string a.f.sh)∧w.cell? ⟨pb,po+i*11+2,none⟩=some (.int .i64 a.f.c)∧w.cell? ⟨pb,po+i*11+3,none⟩=some (.int .i64 a.f.r)∧w.cell? ⟨pb,po+i*11+4,none⟩=some (.bool a.f.ac)∧w.cell? ⟨pb,po+i*11+5,none⟩=some (.bool a.f.ar)∧w.cell? ⟨pb,po+i*11+6,none⟩=some (.string a.l.sh)∧w.cell? ⟨pb,po+i*11+7,none⟩=some (.int .i64 a.l.c)∧w.cell? ⟨pb,po+i*11+8,none⟩=some (.int .i64 a.l.r)∧w.cell? ⟨pb,po+i*11+9,none⟩=some (.bool a.l.ac)∧w.cell? ⟨pb,po+i*11+10,none⟩=some (.bool a.l.ar):=by
 obtain⟨pb,po,h1,h2,h3⟩:=dE.at h hi;refine⟨pb,po,h1,h2, ?_, ?_, ?_, ?_, ?_, ?_, ?_, ?_, ?_, ?_, ?_⟩
 · exact h3 0 _ rfl
 · have:=h3 1 _ rfl;rwa[← Nat.add_assoc]at this
 · have:=h3 2 _ rfl;rwa[← Nat.add_assoc]at this
 · have:=h3 3 _ rfl;rwa[← Nat.add_assoc]at this
 · have:=h3 4 _ rfl;rwa[← Nat.add_assoc]at this
 · have:=h3 5 _ rfl;rwa[← Nat.add_assoc]at this
 · have:=h3 6 _ rfl;rwa[← Nat.add_assoc]at this
 · have:=h3 7 _ rfl;rwa[← Nat.add_assoc]at this
 · have:=h3 8 _ rfl;rwa[← Nat.add_assoc]at this
 · have:=h3 9 _ rfl;rwa[← Nat.add_assoc]at this
 · have:=h3 10 _ rfl;rwa[← Nat.add_assoc]at this
theorem zJ {pb q:Nat}{a:aZ}(hb:Below B w w')(hB:pb<B)(h:w.cell? ⟨pb,q,none⟩=some (.string a.sh)∧w.cell? ⟨pb,q+1,none⟩=some (.string a.f.sh)∧w.cell? ⟨pb,q+2,none⟩=some (.int .i64 a.f.c)∧w.cell? ⟨pb,q+3,none⟩=some (.int .i64 a.f.r)∧w.cell? ⟨pb,q+4,none⟩=some (.bool a.f.ac)∧w.cell? ⟨pb,q+5,none⟩=some (.bool a.f.ar)∧w.cell? ⟨pb,q+6,none⟩=some (.string a.l.sh)∧w.cell? ⟨pb,q+7,none⟩=some (.int .i64 a.l.c)∧w.cell? ⟨pb,q+8,none⟩=some (.int .i64 a.l.r)∧w.cell? ⟨pb,q+9,none⟩=some (.bool a.l.ac)∧w.cell? ⟨pb,q+10,none⟩=some (.bool a.l.ar)):w'.cell? ⟨pb,q,none⟩=some (.string a.sh)∧w'.cell? ⟨pb,q+1,none⟩=some (.string a.f.sh)∧w'.cell? ⟨pb,q+2,none⟩=some (.int .i64 a.f.c)∧w'.cell? ⟨pb,q+3,none⟩=some (.int .i64 a.f.r)∧w'.cell? ⟨pb,q+4,none⟩=some (.bool a.f.ac)∧w'.cell? ⟨pb,q+5,none⟩=some (.bool a.f.ar)∧w'.cell? ⟨pb,q+6,none⟩=some (.string a.l.sh)∧w'.cell? ⟨pb,q+7,none⟩=some (.int .i64 a.l.c)∧w'.cell? ⟨pb,q+8,none⟩=some (.int .i64 a.l.r)∧w'.cell? ⟨pb,q+9,none⟩=some (.bool a.l.ac)∧w'.cell? ⟨pb,q+10,none⟩=some (.bool a.l.ar):=by
 obtain⟨h0,h1,h2,h3,h4,h5,h6,h7,h8,h9,h10⟩:=h;exact⟨(hb.cell (p:=⟨pb,q,none⟩) hB).trans h0,(hb.cell (p:=⟨pb,q+1,none⟩) hB).trans h1,(hb.cell (p:=⟨pb,q+2,none⟩) hB).trans h2,(hb.cell (p:=⟨pb,q+3,none⟩) hB).trans h3,(hb.cell (p:=⟨pb,q+4,none⟩) hB).trans h4,(hb.cell (p:=⟨pb,q+5,none⟩) hB).trans h5,(hb.cell (p:=⟨pb,q+6,none⟩) hB).trans h6,(hb.cell (p:=⟨pb,q+7,none⟩) hB).trans h7,(hb.cell (p:=⟨pb,q+8,none⟩) hB).trans h8,(hb.cell (p:=⟨pb,q+9,none⟩) hB).trans h9,(hb.cell (p:=⟨pb,q+10,none⟩) hB).trans h10⟩
def iY(a:aZ)(r:Int):Bool:=decide (a.f.r≤r∧r≤a.l.r)
def ji(a:aZ)(c:Int):Bool:=decide (a.f.c≤c∧c≤a.l.c)
theorem R7 (a:aZ)(r:Int)(w:World):Calls Tryz.prog 79 #[.agg #[.string a.sh,.string a.f.sh,.int .i64 a.f.c,.int .i64 a.f.r,.bool a.f.ac,.bool a.f.ar,.string a.l.sh,.int .i64 a.l.c,.int .i64 a.l.r,.bool a.l.ac,.bool a.l.ar],.int .i64 r] w fun e w'=>e = .returned (.bool (iY a r))∧Below w.heap.size w w':=by
 have HB:=ae (iX w a);by_cases h1:a.f.r≤r
 · by_cases h2:r≤a.l.r
   · have HP:=ae (show iY a r=true from aL ⟨h1,h2⟩)
     go_enter Tryz.func79,Tryz.ntmps79;go_wp2_with fail
     all_goals go_ret
     all_goals exact⟨by rw[HP.o];first|rfl|simp[h1,h2],HB.o⟩
   · have HP:=ae (show iY a r=false from aK (fun h=>h2 h.2))
     go_enter Tryz.func79,Tryz.ntmps79;go_wp2_with fail
     all_goals go_ret
     all_goals exact⟨by rw[HP.o];first|rfl|simp[h1,h2],HB.o⟩
 · have HP:=ae (show iY a r=false from aK (fun h=>h1 h.1))
   go_enter Tryz.func79,Tryz.ntmps79;go_wp2_with fail
   all_goals go_ret
   all_goals exact⟨by rw[HP.o];first|rfl|simp[h1],HB.o⟩
theorem R5 (a:aZ)(r:Int)(w:World):Calls Tryz.prog 61 #[.agg #[.string a.sh,.string a.f.sh,.int .i64 a.f.c,.int .i64 a.f.r,.bool a.f.ac,.bool a.f.ar,.string a.l.sh,.int .i64 a.l.c,.int .i64 a.l.r,.bool a.l.ac,.bool a.l.ar],.int .i64 r] w fun e w'=>e = .returned (.bool (ji a r))∧Below w.heap.size w w':=by
 have HB:=ae (iX w a);by_cases h1:a.f.c≤r
 · by_cases h2:r≤a.l.c
   · have HP:=ae (show ji a r=true from aL ⟨h1,h2⟩)
     go_enter Tryz.func61,Tryz.ntmps61;go_wp2_with fail
     all_goals go_ret
     all_goals exact⟨by rw[HP.o];first|rfl|simp[h1,h2],HB.o⟩
   · have HP:=ae (show ji a r=false from aK (fun h=>h2 h.2))
     go_enter Tryz.func61,Tryz.ntmps61;go_wp2_with fail
     all_goals go_ret
     all_goals exact⟨by rw[HP.o];first|rfl|simp[h1,h2],HB.o⟩
 · have HP:=ae (show ji a r=false from aK (fun h=>h1 h.1))
   go_enter Tryz.func61,Tryz.ntmps61;go_wp2_with fail
   all_goals go_ret
   all_goals exact⟨by rw[HP.o];first|rfl|simp[h1],HB.o⟩
theorem CQ (w:World)(o:Obj)(a:Addr){u:Value}(h:w.cell? a=some u):(w.alloc o).cell? a=some u:=by
 have hl:a.block<w.heap.size:=by
  unfold World.cell? at h;cases h2:w.heap[a.block]? with
  | none=>rw[h2]at h;cases h
  | some x=>exact(cu.1 h2).1
 exact(((ak w.heap.size w).alloc (aj _) o).cell (p:=a) hl).trans h
theorem Wh (a:aZ)(r:Int)(w:World)(b:Nat)(hb:w.cell? ⟨b,0,none⟩=some (.int .i64 r)):Calls Tryz.prog 78 #[.agg #[.string a.sh,.string a.f.sh,.int .i64 a.f.c,.int .i64 a.f.r,.bool a.f.ac,.bool a.f.ar,.string a.l.sh,.int .i64 a.l.c,.int .i64 a.l.r,.bool a.l.ac,.bool a.l.ar],.pointer (some ⟨b,0,none⟩)] w fun e w'=>e = .returned (.bool (iY a r))∧Below w.heap.size w w':=by
 have HB:=ae (iX w a);have hb1:(w.alloc (.cells (kG a) 109)).cell? ⟨b,0,none⟩=some (.int .i64 r):=CQ w _ _ hb;have HA:=(lu.new w a).cells;obtain⟨x0,x1,x2,x3,x4,x5,x6,x7,aY,eF,eD⟩:=HA;have HH:=ae (fun w2:World=>R7 a r w2);go_enter Tryz.func78,Tryz.ntmps78;go_upto_region 1 with (fail)
 generalize hz:w.heap.size=z at x0 x1 x2 x3 x4 x5 x6 x7 aY eF eD ⊢;obtain⟨w1,hw1⟩:∃w1,w.alloc (.cells (kG a) 109)=w1:=⟨_,rfl⟩;rw[show w.alloc (.cells #[.string a.sh,.string a.f.sh,.int .i64 a.f.c,.int .i64 a.f.r,.bool a.f.ac,.bool a.f.ar,.string a.l.sh,.int .i64 a.l.c,.int .i64 a.l.r,.bool a.l.ac,.bool a.l.ar] 109)=w1 from hw1];rw[hw1]at HB hb1 x0 x1 x2 x3 x4 x5 x6 x7 aY eF eD;clear hw1 hb hz;go_wp2_with (go_at_call 79;((with_reducible refine(HH.o _).mono ?_);rintro e w2 ⟨rfl,h1⟩;have H2:=ae (HB.o.trans (h1.mono HB.o.size));clear h1))
 go_ret;exact⟨rfl,H2.o⟩
theorem Qc (a:aZ)(r:Int)(w:World)(b:Nat)(hb:w.cell? ⟨b,0,none⟩=some (.int .i64 r)):Calls Tryz.prog 60 #[.agg #[.string a.sh,.string a.f.sh,.int .i64 a.f.c,.int .i64 a.f.r,.bool a.f.ac,.bool a.f.ar,.string a.l.sh,.int .i64 a.l.c,.int .i64 a.l.r,.bool a.l.ac,.bool a.l.ar],.pointer (some ⟨b,0,none⟩)] w fun e w'=>e = .returned (.bool (ji a r))∧Below w.heap.size w w':=by
 have HB:=ae (iX w a);have hb1:(w.alloc (.cells (kG a) 109)).cell? ⟨b,0,none⟩=some (.int .i64 r):=CQ w _ _ hb;have HA:=(lu.new w a).cells;obtain⟨x0,x1,x2,x3,x4,x5,x6,x7,aY,eF,eD⟩:=HA;have HH:=ae (fun w2:World=>R5 a r w2);go_enter Tryz.func60,Tryz.ntmps60;go_upto_region 1 with (fail)
 generalize hz:w.heap.size=z at x0 x1 x2 x3 x4 x5 x6 x7 aY eF eD ⊢;obtain⟨w1,hw1⟩:∃w1,w.alloc (.cells (kG a) 109)=w1:=⟨_,rfl⟩;rw[show w.alloc (.cells #[.string a.sh,.string a.f.sh,.int .i64 a.f.c,.int .i64 a.f.r,.bool a.f.ac,.bool a.f.ar,.string a.l.sh,.int .i64 a.l.c,.int .i64 a.l.r,.bool a.l.ac,.bool a.l.ar] 109)=w1 from hw1];rw[hw1]at HB hb1 x0 x1 x2 x3 x4 x5 x6 x7 aY eF eD;clear hw1 hb hz;go_wp2_with (go_at_call 61;((with_reducible refine(HH.o _).mono ?_);rintro e w2 ⟨rfl,h1⟩;have H2:=ae (HB.o.trans (h1.mono HB.o.size));clear h1))
 go_ret;exact⟨rfl,H2.o⟩
theorem VL (a:aZ)(s:ByteArray)(w:World)(b:Nat)(hb:w.cell? ⟨b,0,none⟩=some (.string s)):Calls Tryz.prog 55 #[.agg #[.string a.sh,.string a.f.sh,.int .i64 a.f.c,.int .i64 a.f.r,.bool a.f.ac,.bool a.f.ar,.string a.l.sh,.int .i64 a.l.c,.int .i64 a.l.r,.bool a.l.ac,.bool a.l.ar],.pointer (some ⟨b,0,none⟩)] w fun e w'=>e = .returned (.bool (decide (a.sh=s)))∧Below w.heap.size w w':=by
 have HB:=ae (iX w a);have hb1:(w.alloc (.cells (kG a) 109)).cell? ⟨b,0,none⟩=some (.string s):=CQ w _ _ hb;unfold kG at hb1;go_enter Tryz.func55,Tryz.ntmps55;go_wp2_with fail
 all_goals go_ret
 all_goals exact⟨by first|rfl|(rw[MF];rfl),HB.o⟩
theorem O7 (E:Enc α 1)(xs:List α)(i:Nat)(x : α)(u:Value)(hu:E.f x=[u]):E.all (xs.set i x)=(E.all xs).set i u:=by
 unfold Enc.all
 induction xs generalizing i with
 | nil=>rfl
 | cons a t ih =>
   obtain⟨v,hv⟩:=List.length_eq_one_iff.1 (E.len a);cases i with
   | zero=>rw[List.set_cons_zero,fD,fD,hu,hv];rfl
   | succ i=>rw[List.set_cons_succ,fD,fD,ih,hv];rfl
theorem IW (p : α → Bool)(l:List α)(i:Nat)(a : α)(h:l[i]? = some a):(l.take (i+1)).filter p=(l.take i).filter p++(if p a=true then [a]else []):=by
 rw[List.take_add_one,h,List.filter_append];congr 1;show List.filter p [a]=_;by_cases hp:p a=true
 · rw[ah hp];simp[hp]
 · rw[af hp];simp[hp]
theorem filter_le (p : α → Bool)(l:List α)(i:Nat):((l.take i).filter p).length≤i:=by
 have h1:=List.length_filter_le p (l.take i);rw[iB]at h1;omega
theorem Za (w:World)(A:Option Addr)(n cap:Nat)(l:List aZ)(s:ByteArray)(b:Nat)(h:nJ w w.heap.size (.slice A n cap) l)(hn:n≤1000)(hb:w.cell? ⟨b,0,none⟩=some (.string s))(hbl:b<w.heap.size) :
 Calls Tryz.prog 54 #[.slice A n cap,.func (.func 55) #[] #[.pointer (some ⟨b,0,none⟩)]] w fun e w'=>Below w.heap.size w w'∧∃v,e = .returned v∧Own mh 109 w' w.heap.size v (l.filter fun a=>decide (a.sh=s)):=by
 have HL:=ae h.len.1;have HX:=ae h;have HC:=ae hb;have lX:=ae hbl;clear h hb hbl;go_enter Tryz.func54,Tryz.ntmps54;go_upto_region 3 with (fail)
 go_loopw [5,10] (fun jN iv wr=>∃(i:Nat)(v:Value),i≤n∧v=jN∧iv = .int .i64 (i:Int)∧Hid (Own mh 109 wr w.heap.size v ((l.take i).filter fun a=>decide (a.sh=s)))∧Hid (Below w.heap.size w wr))
  (fun _ iv _=>n - (intOf iv).toNat)
 case atStart=>exact⟨0,_,bA _,rfl,rfl,ae (Own.nil _ _ _ _),ae (ak _ _)⟩
 case round =>
  obtain⟨i,v,hi,rfl,rfl,HO,HR⟩:=hrel;by_cases hlt:i<n
  · have hii:(i:Int)<(n:Int):=by omega
    have hi0:(0:Int)≤(i:Int):=by omega
    obtain⟨a,ha⟩:∃a,l[i]? = some a:=⟨_,aX (by rw[HL.o];exact hlt)⟩;obtain⟨pb,po,rfl,hpb,hat⟩:=zI HX.o ha;obtain⟨x0,x1,x2,x3,x4,x5,x6,x7,aY,eF,eD⟩:=zJ HR.o hpb hat;have oN:=ae (filter_le (fun a:aZ=>decide (a.sh=s)) l i);have qR:=ae (IW (fun a:aZ=>decide (a.sh=s)) l i a ha);clear hat ha hpb;have HB3:=ae (HR.o.trans ((iX wr a).mono HR.o.size));have mP:=ae (lu.new wr a);have bF:=ae (HO.o.below (iX wr a) (aj _));go_upto_region 5 with (fail)
    clear x0 x1 x2 x3 x4 x5 x6 x7 aY eF eD;generalize hz:wr.heap.size=z at mP ⊢;obtain⟨w3,hw3⟩:∃w3,wr.alloc (.cells (kG a) 109)=w3:=⟨_,rfl⟩;rw[show wr.alloc (.cells #[.string a.sh,.string a.f.sh,.int .i64 a.f.c,.int .i64 a.f.r,.bool a.f.ac,.bool a.f.ar,.string a.l.sh,.int .i64 a.l.c,.int .i64 a.l.r,.bool a.l.ac,.bool a.l.ar] 109)=w3 from hw3];rw[hw3]at HB3 mP bF;obtain⟨y0,y1,y2,y3,y4,iy,y6,iA,iR,kN,kM⟩:=mP.o.cells;have HF:=ae (VL a s w3 b ((HB3.o.cell (p:=⟨b,0,none⟩) lX.o).trans HC.o));clear hw3 hz HO HR;by_cases hp:(decide (a.sh=s))=true
    · rw [hp]at HF
      rw[ah hp]at qR;clear hp
      go_wp2_with (first
       | (go_at_call 55;((with_reducible refine HF.o.mono ?_);rintro e w4 ⟨rfl,h1⟩;have dz:=ae (HB3.o.trans (h1.mono HB3.o.size));have fq:=ae (bF.o.below h1 (aj _));obtain⟨z0,z1,z2,z3,z4,z5,z6,z7,uh,z9,ug⟩:=(mP.o.over h1).cells;clear h1 y0 y1 y2 y3 y4 iy y6 iA iR kN kM))
       | (at_builtin;refine lW Elem.ar mh rfl (.tmp 17) (.tmp 19) rfl w.heap.size v _ rfl (fq.o.below (iX w4 a) (aj _)) ⟨_,0,none⟩ 1 1 [a] rfl rfl ?_ ?_ ?_ ?_ ?_;exact iH _ _ _ rfl;(have:=oN.o;omega);(have:=oN.o;unfold maxLen;omega);(have h1:=(iX w4 a).size;have h2:=dz.o.size;unfold kG at h1;omega);intro v5 w5 h1 h2;have iU:=ae h1;have cz:=ae (dz.o.trans (((iX w4 a).mono dz.o.size).trans h2));clear h1 h2))
      go_roundw
      case rel=>exact⟨i+1,_,by omega,rfl,by go_num,ae (by rw[qR.o];exact iU.o),cz⟩
      case measure=>simp[intOf];omega
    · have hp2:=eq_false_of_ne_true hp
      rw[hp2]at HF;rw[af hp,bE]at qR;clear hp hp2
      go_wp2_with (first
       | (go_at_call 55;((with_reducible refine HF.o.mono ?_);rintro e w4 ⟨rfl,h1⟩;have dz:=ae (HB3.o.trans (h1.mono HB3.o.size));have fq:=ae (bF.o.below h1 (aj _));clear h1)))
      go_roundw
      case rel=>exact⟨i+1,_,by omega,rfl,by go_num,ae (by rw[qR.o];exact fq.o),dz⟩
      case measure=>simp[intOf];omega
  · have hii:¬ (i:Int)<(n:Int):=by omega
    have hin:i=n:=by omega
    subst hin;have HE:=ae (show l.take i=l from mM (by rw[HL.o];omega));go_wp2_with fail
    go_ret;exact⟨HR.o,_,rfl,by have h:=HO.o;rw[HE.o]at h;exact h⟩
theorem Zb (w:World)(A:Option Addr)(n cap:Nat)(l:List aZ)(s:Int)(b:Nat)(h:nJ w w.heap.size (.slice A n cap) l)(hn:n≤1000)(hb:w.cell? ⟨b,0,none⟩=some (.int .i64 s))(hbl:b<w.heap.size) :
 Calls Tryz.prog 54 #[.slice A n cap,.func (.func 78) #[] #[.pointer (some ⟨b,0,none⟩)]] w fun e w'=>Below w.heap.size w w'∧∃v,e = .returned v∧Own mh 109 w' w.heap.size v (l.filter fun a=>iY a s):=by
 have HL:=ae h.len.1;have HX:=ae h;have HC:=ae hb;have lX:=ae hbl;clear h hb hbl;go_enter Tryz.func54,Tryz.ntmps54;go_upto_region 3 with (fail)
 go_loopw [5,10] (fun jN iv wr=>∃(i:Nat)(v:Value),i≤n∧v=jN∧iv = .int .i64 (i:Int)∧Hid (Own mh 109 wr w.heap.size v ((l.take i).filter fun a=>iY a s))∧Hid (Below w.heap.size w wr))
  (fun _ iv _=>n - (intOf iv).toNat)
 case atStart=>exact⟨0,_,bA _,rfl,rfl,ae (Own.nil _ _ _ _),ae (ak _ _)⟩
 case round =>
  obtain⟨i,v,hi,rfl,rfl,HO,HR⟩:=hrel;by_cases hlt:i<n
  · have hii:(i:Int)<(n:Int):=by omega
    have hi0:(0:Int)≤(i:Int):=by omega
    obtain⟨a,ha⟩:∃a,l[i]? = some a:=⟨_,aX (by rw[HL.o];exact hlt)⟩;obtain⟨pb,po,rfl,hpb,hat⟩:=zI HX.o ha;obtain⟨x0,x1,x2,x3,x4,x5,x6,x7,aY,eF,eD⟩:=zJ HR.o hpb hat;have oN:=ae (filter_le (fun a:aZ=>iY a s) l i);have qR:=ae (IW (fun a:aZ=>iY a s) l i a ha);clear hat ha hpb;have HB3:=ae (HR.o.trans ((iX wr a).mono HR.o.size));have mP:=ae (lu.new wr a);have bF:=ae (HO.o.below (iX wr a) (aj _));go_upto_region 5 with (fail)
    clear x0 x1 x2 x3 x4 x5 x6 x7 aY eF eD;generalize hz:wr.heap.size=z at mP ⊢;obtain⟨w3,hw3⟩:∃w3,wr.alloc (.cells (kG a) 109)=w3:=⟨_,rfl⟩;rw[show wr.alloc (.cells #[.string a.sh,.string a.f.sh,.int .i64 a.f.c,.int .i64 a.f.r,.bool a.f.ac,.bool a.f.ar,.string a.l.sh,.int .i64 a.l.c,.int .i64 a.l.r,.bool a.l.ac,.bool a.l.ar] 109)=w3 from hw3];rw[hw3]at HB3 mP bF;obtain⟨y0,y1,y2,y3,y4,iy,y6,iA,iR,kN,kM⟩:=mP.o.cells;have HF:=ae (Wh a s w3 b ((HB3.o.cell (p:=⟨b,0,none⟩) lX.o).trans HC.o));clear hw3 hz HO HR;by_cases hp:(iY a s)=true
    · rw [hp]at HF
      rw[ah hp]at qR;clear hp
      go_wp2_with (first
       | (go_at_call 78;((with_reducible refine HF.o.mono ?_);rintro e w4 ⟨rfl,h1⟩;have dz:=ae (HB3.o.trans (h1.mono HB3.o.size));have fq:=ae (bF.o.below h1 (aj _));obtain⟨z0,z1,z2,z3,z4,z5,z6,z7,uh,z9,ug⟩:=(mP.o.over h1).cells;clear h1 y0 y1 y2 y3 y4 iy y6 iA iR kN kM))
       | (at_builtin;refine lW Elem.ar mh rfl (.tmp 17) (.tmp 19) rfl w.heap.size v _ rfl (fq.o.below (iX w4 a) (aj _)) ⟨_,0,none⟩ 1 1 [a] rfl rfl ?_ ?_ ?_ ?_ ?_;exact iH _ _ _ rfl;(have:=oN.o;omega);(have:=oN.o;unfold maxLen;omega);(have h1:=(iX w4 a).size;have h2:=dz.o.size;unfold kG at h1;omega);intro v5 w5 h1 h2;have iU:=ae h1;have cz:=ae (dz.o.trans (((iX w4 a).mono dz.o.size).trans h2));clear h1 h2))
      go_roundw
      case rel=>exact⟨i+1,_,by omega,rfl,by go_num,ae (by rw[qR.o];exact iU.o),cz⟩
      case measure=>simp[intOf];omega
    · have hp2:=eq_false_of_ne_true hp
      rw[hp2]at HF;rw[af hp,bE]at qR;clear hp hp2
      go_wp2_with (first
       | (go_at_call 78;((with_reducible refine HF.o.mono ?_);rintro e w4 ⟨rfl,h1⟩;have dz:=ae (HB3.o.trans (h1.mono HB3.o.size));have fq:=ae (bF.o.below h1 (aj _));clear h1)))
      go_roundw
      case rel=>exact⟨i+1,_,by omega,rfl,by go_num,ae (by rw[qR.o];exact fq.o),dz⟩
      case measure=>simp[intOf];omega
  · have hii:¬ (i:Int)<(n:Int):=by omega
    have hin:i=n:=by omega
    subst hin;have HE:=ae (show l.take i=l from mM (by rw[HL.o];omega));go_wp2_with fail
    go_ret;exact⟨HR.o,_,rfl,by have h:=HO.o;rw[HE.o]at h;exact h⟩
theorem VM (w:World)(A:Option Addr)(n cap:Nat)(l:List aZ)(s:ByteArray)(h:nJ w w.heap.size (.slice A n cap) l)(hn:n≤1000) :
 Calls Tryz.prog 37 #[.slice A n cap,.string s] w fun e w'=>Below w.heap.size w w'∧∃v,e = .returned v∧Own mh 109 w' w.heap.size v (l.filter fun a=>decide (a.sh=s)):=by
 have HB:=ae (show Below w.heap.size w (w.alloc (.cells #[.string s] 9))from(ak _ _).alloc (aj _) _);have hc:(w.alloc (.cells #[.string s] 9)).cell? ⟨w.heap.size,0,none⟩=some (.string s):=by rw[World.cell?_alloc_new];rfl
 have HT:=ae (Za (w.alloc (.cells #[.string s] 9)) A n cap l s w.heap.size (dE.lift h HB.o) hn hc (by rw[iC];omega));clear h hc;go_enter Tryz.func37,Tryz.ntmps37;go_wp2_with (go_at_call 54;((with_reducible refine HT.o.mono ?_);rintro e w2 ⟨h1,v,rfl,h2⟩;have H2:=ae (HB.o.trans (h1.mono HB.o.size));have HO:=ae (h2.mono HB.o.size);clear h1 h2))
 go_ret;exact⟨H2.o,_,rfl,HO.o⟩
theorem Wi (w:World)(A:Option Addr)(n cap:Nat)(l:List aZ)(s:Int)(h:nJ w w.heap.size (.slice A n cap) l)(hn:n≤1000) :
 Calls Tryz.prog 57 #[.slice A n cap,.int .i64 s] w fun e w'=>Below w.heap.size w w'∧∃v,e = .returned v∧Own mh 109 w' w.heap.size v (l.filter fun a=>iY a s):=by
 have HB:=ae (show Below w.heap.size w (w.alloc (.cells #[.int .i64 s] 3))from(ak _ _).alloc (aj _) _);have hc:(w.alloc (.cells #[.int .i64 s] 3)).cell? ⟨w.heap.size,0,none⟩=some (.int .i64 s):=by rw[World.cell?_alloc_new];rfl
 have HT:=ae (Zb (w.alloc (.cells #[.int .i64 s] 3)) A n cap l s w.heap.size (dE.lift h HB.o) hn hc (by rw[iC];omega));clear h hc;go_enter Tryz.func57,Tryz.ntmps57;go_wp2_with (go_at_call 54;((with_reducible refine HT.o.mono ?_);rintro e w2 ⟨h1,v,rfl,h2⟩;have H2:=ae (HB.o.trans (h1.mono HB.o.size));have HO:=ae (h2.mono HB.o.size);clear h1 h2))
 go_ret;exact⟨H2.o,_,rfl,HO.o⟩
theorem O8 (p : α → Bool)(l:List α)(i:Nat)(a : α)(h:l[i]? = some a):(l.take (i+1)).any p=((l.take i).any p||p a):=by
 rw[List.take_add_one,h,List.any_append];simp
theorem Tv (w:World)(A:Option Addr)(n cap:Nat)(l:List aZ)(s:Int)(b:Nat)(h:nJ w w.heap.size (.slice A n cap) l)(hn:n≤1000)(hb:w.cell? ⟨b,0,none⟩=some (.int .i64 s))(hbl:b<w.heap.size) :
 Calls Tryz.prog 80 #[.slice A n cap,.func (.func 60) #[] #[.pointer (some ⟨b,0,none⟩)]] w fun e w'=>Below w.heap.size w w'∧∃k:Int,e = .returned (.int .i64 k)∧decide (0≤k)=l.any fun a=>ji a s:=by
 have HL:=ae h.len.1;have HX:=ae h;have HC:=ae hb;have lX:=ae hbl;clear h hb hbl;go_enter Tryz.func80,Tryz.ntmps80;go_upto_region 2 with (fail)
 go_loopw [8] (fun iv wr=>∃i:Nat,i≤n∧iv = .int .i64 (i:Int)∧Hid ((l.take i).any (fun a=>ji a s)=false)∧Hid (Below w.heap.size w wr))
  (fun iv _=>n - (intOf iv).toNat)
 case atStart=>exact⟨0,bA _,rfl,ae rfl,ae (ak _ _)⟩
 case round =>
  obtain⟨i,hi,rfl,HT,HR⟩:=hrel;by_cases hlt:i<n
  · have hii:(i:Int)<(n:Int):=by omega
    have hi0:(0:Int)≤(i:Int):=by omega
    obtain⟨a,ha⟩:∃a,l[i]? = some a:=⟨_,aX (by rw[HL.o];exact hlt)⟩;obtain⟨pb,po,rfl,hpb,hat⟩:=zI HX.o ha;obtain⟨x0,x1,x2,x3,x4,x5,x6,x7,aY,eF,eD⟩:=zJ HR.o hpb hat;have HAT:=ae (O8 (fun a:aZ=>ji a s) l i a ha);have HM:=ae (bN ha);clear hat ha hpb;have HF:=ae (Qc a s wr b ((HR.o.cell (p:=⟨b,0,none⟩) lX.o).trans HC.o));by_cases hp:ji a s=true
    · rw[hp]at HF
      have HP:=ae (show(l.any fun a=>ji a s)=true from List.any_eq_true.2 ⟨a,HM.o,hp⟩);clear hp;go_wp2_with (go_at_call 60;((with_reducible refine HF.o.mono ?_);rintro e w2 ⟨rfl,h1⟩;have H2:=ae (HR.o.trans (h1.mono HR.o.size));clear h1))
      go_ret;exact⟨H2.o,_,rfl,by rw[HP.o];exact aL hi0⟩
    · have hp2:=eq_false_of_ne_true hp
      rw[hp2]at HF;have HQ:=ae (show(l.take (i+1)).any (fun a=>ji a s)=false by rw[HAT.o,HT.o,hp2];rfl);clear hp hp2;go_wp2_with (go_at_call 60;((with_reducible refine HF.o.mono ?_);rintro e w2 ⟨rfl,h1⟩;have H2:=ae (HR.o.trans (h1.mono HR.o.size));clear h1))
      go_roundw
      case rel=>exact⟨i+1,by omega,by go_num,HQ,H2⟩
      case measure=>simp[intOf];omega
  · have hii:¬ (i:Int)<(n:Int):=by omega
    have HE:=ae (show(l.any fun a=>ji a s)=false by have h:=HT.o;rw[mM (by rw[HL.o];omega)]at h;exact h);go_wp2_with fail
    go_ret;exact⟨HR.o,_,rfl,by rw[HE.o];rfl⟩
theorem QB (w:World)(A:Option Addr)(n cap:Nat)(l:List aZ)(s:Int)(b:Nat)(h:nJ w w.heap.size (.slice A n cap) l)(hn:n≤1000)(hb:w.cell? ⟨b,0,none⟩=some (.int .i64 s))(hbl:b<w.heap.size)(q:Bool)(hq:(l.any fun a=>ji a s)=q) :
 Calls Tryz.prog 59 #[.slice A n cap,.func (.func 60) #[] #[.pointer (some ⟨b,0,none⟩)]] w fun e w'=>Below w.heap.size w w'∧e = .returned (.bool q):=by
 have HI:=ae (Tv w A n cap l s b h hn hb hbl);rw[hq]at HI;clear h hb hbl hq;go_enter Tryz.func59,Tryz.ntmps59;go_wp2_with (go_at_call 80;((with_reducible refine HI.o.mono ?_);rintro e w2 ⟨h1,k,rfl,h2⟩;have H2:=ae h1;have HK:=ae h2;clear h1 h2))
 all_goals go_ret
 all_goals exact⟨H2.o,by rw[← HK.o];first|rfl|simp_all⟩
theorem QG (A:Option Addr)(n cap m:Nat)(hm:m≤cap)(wq:World)(h0:A=none→m=0) :
 (Instr.slice 27 (.slice A n cap) none (some (.int .i64 (m:Int))) none).run Tryz.prog wq = .ok (.slice A m cap) wq:=by
 have e3:(Tryz.prog.info? 31).map (·.size)=some 1:=by kernel_rfl
 cases hq:Tryz.prog.info? 31 with
 | none=>rw[hq]at e3;cases e3
 | some i =>
   cases A with
   | none =>
     obtain rfl:m=0:=h0 rfl;simp[Instr.slice,run_underlying Tryz.underlying27,Instr.sliceBounds,Instr.sliceBound,asIntOf,sizeOf,typeInfo,hq,go_sem]
   | some ad=>simp[Instr.slice,run_underlying Tryz.underlying27,Instr.sliceBounds,Instr.sliceBound,asIntOf,sizeOf,typeInfo,hq,hm,go_sem]
theorem ZI (w:World)(A:Option Addr)(n cap m:Nat)(hn:n≤cap)(h0:A=none→n=0)(hm:n≤m+1)(hmm:m≤1000):Calls Tryz.prog 56 #[.slice A n cap,.int .i64 (m:Int)] w fun e w'=>e = .returned (.slice A n cap)∧w=w':=by
 have HS:=ae (QG A n cap n hn · h0);have h1:min (n:Int) ((m:Int)+1)=(n:Int):=by omega
 have h2:IntKind.i64.wrap ((m:Int)+1)=(m:Int)+1:=by rw[IntKind.wrap_i64];omega
 go_enter Tryz.func56,Tryz.ntmps56;go_wp2_with fail
 go_ret;exact⟨rfl,rfl⟩
theorem QH (A:Option Addr)(n cap m:Nat)(hm:m≤cap)(wq:World)(h0:A=none→m=0) :
 (Instr.slice 31 (.slice A n cap) none (some (.int .i64 (m:Int))) none).run Tryz.prog wq = .ok (.slice A m cap) wq:=by
 have e3:(Tryz.prog.info? 9).map (·.size)=some 1:=by kernel_rfl
 cases hq:Tryz.prog.info? 9 with
 | none=>rw[hq]at e3;cases e3
 | some i =>
   cases A with
   | none =>
     obtain rfl:m=0:=h0 rfl;simp[Instr.slice,run_underlying Tryz.underlying31,Instr.sliceBounds,Instr.sliceBound,asIntOf,sizeOf,typeInfo,hq,go_sem]
   | some ad=>simp[Instr.slice,run_underlying Tryz.underlying31,Instr.sliceBounds,Instr.sliceBound,asIntOf,sizeOf,typeInfo,hq,hm,go_sem]
theorem ZJ (w:World)(A:Option Addr)(n cap m:Nat)(hn:n≤cap)(h0:A=none→n=0)(hm:n≤m+1)(hmm:m≤1000):Calls Tryz.prog 58 #[.slice A n cap,.int .i64 (m:Int)] w fun e w'=>e = .returned (.slice A n cap)∧w=w':=by
 have HS:=ae (QH A n cap n hn · h0);have h1:min (n:Int) ((m:Int)+1)=(n:Int):=by omega
 have h2:IntKind.i64.wrap ((m:Int)+1)=(m:Int)+1:=by rw[IntKind.wrap_i64];omega
 go_enter Tryz.func58,Tryz.ntmps58;go_wp2_with fail
 go_ret;exact⟨rfl,rfl⟩
structure aG where
 nm:ByteArray
 r:Nat
 c:Nat
def fH:Enc aG 3:={ f:=fun s=>[.string s.nm,.int .i64 (s.r:Int),.int .i64 (s.c:Int)],len:=fun _=>rfl,one:=fun s u hu=>by simp only[gp,List.not_mem_nil,or_false]at hu;rcases hu with rfl|rfl|rfl <;> rfl }
theorem Elem.AY:Elem Tryz.prog 32 23 3 32:=⟨Tryz.underlying32,⟨.agg #[.string ⟨#[]⟩,.int .i64 0,.int .i64 0],by kernel_rfl,rfl⟩,by decide⟩
def ic{α : Type}{k:Nat}(E:Enc α k)(e:TypeId)(w:World)(g:Nat)(xs:List α):Prop:=w.heap[g]? = some (.cells (E.all xs).toArray e)
theorem ic.keep{E:Enc α k}{xs:List α}(h:ic E e w g xs)(hk:w'.heap[g]? = w.heap[g]?):ic E e w' g xs:=by unfold ic;rw[hk];exact h
theorem ic.AU {E:Enc α 1}{xs:List α}(h:ic E e w g xs)(i:Nat)(x : α)(u:Value)(hu:E.f x=[u]):ic E e (w.setCell ⟨g,i,none⟩ u) g (xs.set i x):=by
 unfold ic;rw[heap_setCell_same w g i _ e u h,O7 E xs i x u hu];simp
theorem ic.lt{E:Enc α k}{xs:List α}(h:ic E e w g xs):g<w.heap.size:=(cu.1 h).1
theorem ic.own {E:Enc α k}{lo:Nat}{xs:List α}(h:ic E e w g xs)(hlo:lo≤g)(hm:xs.length≤maxLen):Own E e w lo (.slice (some ⟨g,0,none⟩) xs.length xs.length) xs :=
 ⟨E.iZ xs,.inr ⟨g,xs.length,_,rfl,hlo,h,aj _,hm,by rw[List.size_toArray,E.iZ],by rw[← E.iZ];simp⟩⟩
theorem rU {E:Enc α k}{lo:Nat}{v:Value}{xs:List α}(h:Own E e w lo v xs):∃A c,v = .slice A xs.length c:=by
 rcases h.shape with ⟨rfl,rfl⟩|⟨g,c,rfl,_⟩
 · exact⟨none,0,rfl⟩
 · exact⟨_,c,rfl⟩
def oD(l:List aZ)(nm:ByteArray)(i j:Nat):List aG:=((List.range j).filter fun c:Nat=>(l.filter fun a=>iY a (i:Int)).any fun a=>ji a (c:Int)).map fun c=>⟨nm,i,c⟩
def qd(l:List aZ)(nm:ByteArray)(Cs:List Nat)(i:Nat):List aG:=(List.range i).flatMap fun r=>oD l nm r (Cs.getD r 0)
def rA(l:List aZ)(nm:ByteArray)(Cs:List Nat):List aG:=qd l nm Cs Cs.length
theorem XF(l:List aZ)(nm:ByteArray)(i:Nat):oD l nm i 0=[]:=by simp[oD]
theorem XE (l:List aZ)(nm:ByteArray)(i j:Nat):oD l nm i (j+1)=oD l nm i j++(if ((l.filter fun a=>iY a (i:Int)).any fun a=>ji a (j:Int))=true then [⟨nm,i,j⟩]else []):=by
 unfold oD;rw[List.range_succ,List.filter_append,gW];congr 1;by_cases h:((l.filter fun a=>iY a (i:Int)).any fun a=>ji a (j:Int))=true
 · rw[ah h,List.filter_cons];simp only[h,if_true,List.filter_nil,fP,List.map_nil]
 · rw[af h,List.filter_cons];simp only[eq_false_of_ne_true h,Bool.false_eq_true,if_false,List.filter_nil,List.map_nil]
theorem M7 (l:List aZ)(nm:ByteArray)(Cs:List Nat)(i j:Nat)(h:Cs.getD i 0=j):qd l nm Cs i++oD l nm i j=qd l nm Cs (i+1):=by
 unfold qd;rw[List.range_succ,List.flatMap_append,fD,List.flatMap_nil,bE,h]
theorem LD (l:List aZ)(nm:ByteArray)(i j:Nat):(oD l nm i j).length≤j:=by
 unfold oD;rw[dQ];have h:=List.length_filter_le (fun c:Nat=>(l.filter fun a=>iY a (i:Int)).any fun a=>ji a (c:Int)) (List.range j);rw[List.length_range]at h;exact h
theorem M6 (l:List aZ)(nm:ByteArray)(Cs:List Nat)(hC:∀c∈Cs,c≤100)(i:Nat):(qd l nm Cs i).length≤i*100:=by
 induction i with
 | zero=>simp[qd]
 | succ i ih =>
   rw[← M7 l nm Cs i _ rfl,ax];have h1:=LD l nm i (Cs.getD i 0)
   have h2:Cs.getD i 0≤100:=by
    rw[iM];cases hq:Cs[i]? with
    | none=>exact bA _
    | some c=>exact hC c (bN hq)
   omega
theorem dE.none_ {E:Enc α k}{A:Option Addr}{cap:Nat}{xs:List α}(h:dE E w B (.slice A n cap) xs)(hA:A=none):n=0:=by
 have hl:=h.len.1;obtain⟨A',mf,h1,_,_,h4⟩:=h;injection h1 with e1 e2 e3;rcases h4 with rfl|⟨pb,po,e,_⟩
 · exact e2
 · rw[← e1,hA]at e;cases e
theorem Qg (w:World)(A:Option Addr)(n cap:Nat)(l:List aZ)(s:aU)(h:nJ w w.heap.size (.slice A n cap) l)(hn:n≤1000)(hr:lK w w.heap.size (.slice s.A s.rows.length s.cap) s.rows)(hR:s.rows.length≤100)(hC:∀r∈s.rows,r.l.length≤100) :
 Calls Tryz.prog 38 #[.slice A n cap,.agg #[.string s.nm,.int .i64 s.bB,.slice s.A s.rows.length s.cap]] w fun e w'=>Below w.heap.size w w'∧∃v,e = .returned v∧Own fH 23 w' w.heap.size v (rA l s.nm (s.rows.map fun r=>r.l.length)):=by
 have HB:=ae (sO w s.nm s.bB (.slice s.A s.rows.length s.cap));have HS:=ae (fA.new w s.nm s.bB (.slice s.A s.rows.length s.cap));have HX:=ae (dE.lift h HB.o);have HRW:=ae (hr.lift HB.o);obtain⟨R,hRl⟩:∃R,s.rows.length=R:=⟨_,rfl⟩;have hle:R≤s.cap:=by have:=hr.1.len.2.1;omega
 have h0:s.A=none→R=0:=fun e=>by rw[← hRl];exact hr.1.none_ e
 have Gy:=ae (fun w1:World=>show Calls Tryz.prog 56 #[.slice s.A R s.cap,.int .i64 998] w1 fun e w'=>e = .returned (.slice s.A R s.cap)∧w1=w' from ZI w1 s.A R s.cap 998 hle h0 (by omega) (by omega));obtain⟨Cs,hCs⟩:∃Cs,(s.rows.map fun r=>r.l.length)=Cs:=⟨_,rfl⟩;have Bt:=ae (show ∀c∈Cs,c≤100 from fun c hc=>by rw[← hCs]at hc;obtain⟨r,h1,rfl⟩:=List.mem_map.1 hc;exact hC r h1);have NB:=ae (show Cs.length=R by rw[← hCs,dQ,hRl]);have NA:=ae (show ∀(i:Nat)(r:iO),s.rows[i]? = some r→Cs.getD i 0=r.l.length from fun i r h=>by rw[← hCs,iM,List.getElem?_map,h];rfl);rw[hCs,hRl];rw[hRl]at hR HB HS HRW HX;have zm:=ae hRl;clear h hr hCs hRl hle h0;go_enter Tryz.func38,Tryz.ntmps38;go_upto_region 1 with (fail)
 obtain⟨w1,hw1⟩:∃w1,w.alloc (.cells #[.string s.nm,.int .i64 s.bB,.slice s.A R s.cap] 29)=w1:=⟨_,rfl⟩;generalize hz:w.heap.size=z at HS ⊢;rw[hw1]at HB HS HX HRW ⊢;have qj:=ae HB.o.size;clear hw1 hz;obtain⟨y0,y1,y2⟩:=HS.o.cells;go_upto_region 3 with (go_at_call 56;((with_reducible refine(Gy.o _).mono ?_);rintro e w2 ⟨rfl,rfl⟩))
 clear y0 y1 y2 Gy
 go_loopw [5,14] (fun jN iv wr=>∃(i:Nat)(v:Value),i≤R∧v=jN∧iv = .int .i64 (i:Int)∧Hid (Own fH 23 wr w1.heap.size v (qd l s.nm Cs i))∧Hid (Below w1.heap.size w1 wr))
  (fun _ iv _=>R - (intOf iv).toNat)
 case atStart=>exact⟨0,_,bA _,rfl,rfl,ae (Own.nil _ _ _ _),ae (ak _ _)⟩
 case round =>
  obtain⟨i,v,hi,rfl,rfl,HO,HR⟩:=hrel;by_cases hlt:i<R
  · have hii:(i:Int)<(R:Int):=by omega
    have hi0:(0:Int)≤(i:Int):=by omega
    obtain⟨rv,ky⟩:∃rv,s.rows[i]? = some rv:=⟨_,aX (by rw[zm.o];exact hlt)⟩;obtain⟨nu,ny,hA2,lN,f0,hse⟩:=yC HRW.o ky;have hcc:=NA.o i rv ky;have Dl:=hC rv (bN ky);have Dy:rv.l.length≤rv.cap:=hse.len.2.1;have h02:rv.A=none→rv.l.length=0:=hse.none_;obtain⟨C,vX⟩:∃C,rv.l.length=C:=⟨_,rfl⟩;rw[vX]at f0 hcc Dl Dy h02;have Gz:=ae (fun w2:World=>show Calls Tryz.prog 58 #[.slice rv.A C rv.cap,.int .i64 701] w2 fun e w'=>e = .returned (.slice rv.A C rv.cap)∧w2=w' from ZJ w2 rv.A C rv.cap 701 Dy h02 (by omega) (by omega));have Bu:=ae hcc;have f1:=(HR.o.cell (p:=⟨nu,ny+i,none⟩) lN).trans f0;have xm:=ae (Wi wr A n cap l (i:Int) (dE.lift HX.o HR.o) hn);rw[hA2];clear ky hse hcc f0 Dy h02 vX
    go_wp2_with (first
     | (go_at_call 57;((with_reducible refine xm.o.mono ?_);rintro e w2 ⟨h1,vh,rfl,h2⟩;obtain⟨FB,ch,rfl⟩:=rU h2;have HR2:=ae (HR.o.trans (h1.mono HR.o.size));have gD:=ae (HO.o.below h1 (aj _));have za:=ae (h2.mono HR.o.size);clear h1 h2))
     | (go_at_call 58;((with_reducible refine(Gz.o _).mono ?_);rintro e w3 ⟨rfl,rfl⟩)))
    clear HO HR xm Gz f1;have Dt:(l.filter fun a=>iY a (i:Int)).length≤1000:=by have h1:=List.length_filter_le (fun a:aZ=>iY a (i:Int)) l;have h2:=HX.o.len.1;omega
    have Gx:=ae (M6 l s.nm Cs Bt.o i);obtain⟨hs,Du⟩:∃hs,(l.filter fun a=>iY a (i:Int))=hs:=⟨_,rfl⟩;obtain⟨m,hm⟩:∃m,hs.length=m:=⟨_,rfl⟩;rw[Du]at za Dt ⊢;rw[hm]at za Dt ⊢;have NI:=ae Du;clear Du hm
    go_loopw [5,25] (fun jN cv wx=>∃(j:Nat)(v:Value),j≤C∧v=jN∧cv = .int .i64 (j:Int)∧Hid (Own fH 23 wx w1.heap.size v (qd l s.nm Cs i++oD l s.nm i j))∧Hid (Own mh 109 wx w1.heap.size (.slice FB m ch) hs)∧Hid (Below w1.heap.size w1 wx))
     (fun _ cv _=>C - (intOf cv).toNat)
    case atStart=>exact⟨0,_,bA _,rfl,rfl,ae (by rw[XF,bE];exact gD.o),za,HR2⟩
    case round =>
     clear gD za HR2;obtain⟨j,v,hj,rfl,rfl,HO,HH,HR⟩:=hrel;by_cases hjt:j<C
     · have hji:(j:Int)<(C:Int):=by omega
       have hj0:(0:Int)≤(j:Int):=by omega
       have HB3:=ae (show Below wr.heap.size wr (wr.alloc (.cells #[.int .i64 (j:Int)] 3))from(ak _ _).alloc (aj _) _);have hz3:(wr.alloc (.cells #[.int .i64 (j:Int)] 3)).cell? ⟨wr.heap.size,0,none⟩=some (.int .i64 (j:Int)):=by rw[World.cell?_alloc_new];rfl
       have hzl:wr.heap.size<(wr.alloc (.cells #[.int .i64 (j:Int)] 3)).heap.size:=by rw[iC];omega
       go_upto_region 9 with (fail)
       generalize x9:wr.heap.size=z4 at hz3 hzl ⊢;obtain⟨w3,hw3⟩:∃w3,wr.alloc (.cells #[.int .i64 (j:Int)] 3)=w3:=⟨_,rfl⟩;rw[hw3]at HB3 hz3 hzl ⊢;have bF:=ae (HO.o.below HB3.o (aj _));have BF:=ae (HH.o.below HB3.o (aj _));have HR3:=ae (HR.o.trans (HB3.o.mono HR.o.size));have HZ3:=ae hz3;have GI:=ae hzl;clear hw3 x9 HO HH HR HB3 hzl;have kP:=ae (XE l s.nm i j);rw[NI.o]at kP;have xu:=ae (LD l s.nm i j);obtain⟨q,hq⟩:∃q,(hs.any fun a=>ji a (j:Int))=q:=⟨_,rfl⟩;have FM:=ae (QB w3 FB m ch hs (j:Int) z4 BF.o.se Dt hz3 GI.o q hq);rw[hq]at kP;clear hq hz3;cases q with
       | true =>
         rw[ah rfl]at kP
         go_wp2_with (first
          | (go_at_call 59;((with_reducible refine FM.o.mono ?_);rintro e w4 ⟨h1,rfl⟩;have HR4:=ae (HR3.o.trans (h1.mono HR3.o.size));have fq:=ae (bF.o.below h1 (aj _));have zb:=ae (BF.o.below h1 (aj _));have x9:=(h1.cell (p:=⟨z4,0,none⟩) GI.o).trans HZ3.o;obtain⟨y0,y1,y2⟩:=(HS.o.over HR4.o).cells;clear h1))
          | (at_builtin;refine Fw Elem.AY fH rfl (.tmp 31) (.tmp 37) rfl w1.heap.size v _ rfl (fq.o.below ((ak w4.heap.size w4).alloc (aj _) (.cells #[.string s.nm,.int .i64 (i:Int),.int .i64 (j:Int)] 23)) (aj _)) ⟨_,0,none⟩ 1 1 [⟨s.nm,i,j⟩] rfl rfl ?_ ?_ ?_ ?_ ?_;exact iH _ _ _ rfl;(have h1:=Gx.o;have h2:=xu.o;rw[ax];omega);(have h1:=Gx.o;have h2:=xu.o;rw[ax];unfold maxLen;omega);(have h1:=HR4.o.size;rw[iC];omega);intro v5 w5 h1 h2 _;have iU:=ae h1;have xc:=ae h2;clear h1 h2))
         have dz:=ae ((ak w4.heap.size w4).alloc (aj _) (.cells #[.string s.nm,.int .i64 (i:Int),.int .i64 (j:Int)] 23));have gY:=ae (fq.o.below dz.o (aj _));have BG:=ae ((zb.o.below dz.o (aj _)).keep fun g _ hl e=>xc.o.block g hl ((zb.o.below dz.o (aj _)).CB gY.o (by decide) e));have oU:=HR4.o.trans (dz.o.mono HR4.o.size);have qh:=ae (oU.grown xc.o oU.size (fun g e=>(gY.o.lies e).1))
         go_roundw
         case rel=>exact⟨j+1,_,by omega,rfl,by go_num,ae (by rw[kP.o, ← bD];exact iU.o),BG,qh⟩
         case measure=>simp[intOf];omega
       | false =>
         rw[af (by decide),bE]at kP;go_wp2_with (go_at_call 59;((with_reducible refine FM.o.mono ?_);rintro e w4 ⟨h1,rfl⟩;have HR4:=ae (HR3.o.trans (h1.mono HR3.o.size));have fq:=ae (bF.o.below h1 (aj _));have zb:=ae (BF.o.below h1 (aj _));clear h1))
         go_roundw
         case rel=>exact⟨j+1,_,by omega,rfl,by go_num,ae (by rw[kP.o];exact fq.o),zb,HR4⟩
         case measure=>simp[intOf];omega
     · have hji:¬ (j:Int)<(C:Int):=by omega
       have Dv:j=C:=by omega
       subst Dv;have dS:=ae (M7 l s.nm Cs i j Bu.o);go_wp2_with fail
       go_roundw
       case rel=>exact⟨i+1,_,by omega,rfl,by go_num,ae (by rw[← dS.o];exact HO.o),HR⟩
       case measure=>simp[intOf];omega
  · have hii:¬ (i:Int)<(R:Int):=by omega
    have Sy:i=R:=by omega
    subst Sy;have HE:=ae (show rA l s.nm Cs=qd l s.nm Cs i by unfold rA;rw[NB.o]);go_wp2_with fail
    go_ret;exact⟨HB.o.trans (HR.o.mono qj.o),_,rfl,by rw[HE.o];exact HO.o.mono qj.o⟩
theorem nV (f n deep base:Nat)(ts:List ai):dw (f+1) n deep base ts=if n≤3 then fG (dw f (n+1) deep base ts) fun ns a r=>fC f n deep base ns a r
 else if ay ⟨#[45]⟩ ts=true then
  if 12≤deep then some (.error 6)
  else fG (dw f 4 (deep+1) base ts.tail) fun ns a r=>some (.ok (ns++[{ Nd.zero with kind:=8,kids:=[(a:Int)] }],base+ns.length,r))
 else gJ f deep base ts:=by conv=>lhs;unfold dw
theorem qG (f n deep base:Nat)(ns:List Nd)(a:Nat)(ts:List ai):fC (f+1) n deep base ns a ts=if dO n ts=0 then some (.ok (ns,a,ts))
 else fG (dw f (n+1) deep (base+ns.length) ts.tail) fun ms b r=>fC f n deep base (ns++(ms++[{ Nd.zero with kind:=dO n ts,kids:=[(a:Int),(b:Int)] }])) (base+(ns.length+ms.length)) r:=by conv=>lhs;unfold fC
theorem qm (f deep base:Nat)(ns:List Nd)(ks:List Int)(ts:List ai):dY (f+1) deep base ns ks ts=fG (dw f 0 deep (base+ns.length) ts) fun ms a r =>
 if ay ⟨#[44]⟩ r=true then dY f deep base (ns++ms) (ks++[(a:Int)]) r.tail else some (.ok (ns++ms,ks++[(a:Int)],r)):=by conv=>lhs;unfold dY
theorem vg(f deep base:Nat):gJ (f+1) deep base []=some (.error 5):=by unfold gJ;rfl
theorem kL (f deep base:Nat)(t:ai)(ts:List ai):gJ (f+1) deep base (t :: ts) =
 if ay ⟨#[40]⟩ (t :: ts)=true then
  if 12≤deep then some (.error 6)
  else fG (dw f 0 (deep+1) base ts) fun ns a r=>if ay ⟨#[41]⟩ r=true then some (.ok (ns,a,r.tail))else some (.error 5)
 else if t.kind=1 then some (.ok ([{ Nd.zero with kind:=1,num:=t.num }],base,ts))
 else if t.kind=2 then some (.ok ([{ Nd.zero with kind:=2,text:=t.text }],base,ts))
 else if t.kind=6 then some (.ok ([{ Nd.zero with kind:=4 }],base,ts))
 else if t.kind=4 then some (jb base t ts)
 else if t.kind=3 then
  if t.text=⟨#[84,82,85,69]⟩then some (.ok ([{ Nd.zero with kind:=3,num:=1 }],base,ts))
  else if t.text=⟨#[70,65,76,83,69]⟩then some (.ok ([{ Nd.zero with kind:=3 }],base,ts))
  else if ay ⟨#[40]⟩ ts=true then
   if 12≤deep then some (.error 6)
   else fG (if ay ⟨#[41]⟩ ts.tail=true then some (.ok ([],[],ts.tail))else dY f (deep+1) base [] [] ts.tail) fun ns ks r =>
    if ay ⟨#[41]⟩ r=true then some (.ok (ns++[{ Nd.zero with kind:=7,text:=t.text,kids:=ks }],base+ns.length,r.tail))else some (.error 5)
  else some (.error 5)
 else some (.error 5):=by conv=>lhs;unfold gJ
theorem Ar : ∀ f : Nat,(∀n deep base ts y,dw f n deep base ts=some y→dw (f+1) n deep base ts=some y)∧(∀n deep base ns a ts y,fC f n deep base ns a ts=some y→fC (f+1) n deep base ns a ts=some y) ∧
 (∀deep base ts y,gJ f deep base ts=some y→gJ (f+1) deep base ts=some y)∧(∀deep base ns ks ts y,dY f deep base ns ks ts=some y→dY (f+1) deep base ns ks ts=some y)
 | 0=>⟨fun _ _ _ _ _ h=>by simp[dw]at h,fun _ _ _ _ _ _ _ h=>by simp[fC]at h,fun _ _ _ _ h=>by simp[gJ]at h,fun _ _ _ _ _ _ h=>by simp[dY]at h⟩
 | f + 1 => by
   obtain⟨i1,i2,i3,i4⟩:=Ar f;refine⟨?_, ?_, ?_, ?_⟩
   · intro n deep base ts y h
     rw[nV]at h ⊢;split
     · rw[ah ‹_›]at h
       exact vT (fun y h=>i1 _ _ _ _ y h) (fun a b c y h=>i2 _ _ _ _ _ _ y h) y h
     · rw [af ‹_›]at h
       split
       · rw [ah ‹_›]at h
         split
         · rw[ah ‹_›]at h;exact h
         · rw[af ‹_›]at h
           exact vT (fun y h=>i1 _ _ _ _ y h) (fun a b c y h=>h) y h
       · rw[af ‹_›]at h
         exact i3 _ _ _ y h
   · intro n deep base ns a ts y h
     rw[qG]at h ⊢;split
     · rw[ah ‹_›]at h;exact h
     · rw[af ‹_›]at h
       exact vT (fun y h=>i1 _ _ _ _ y h) (fun a b c y h=>i2 _ _ _ _ _ _ y h) y h
   · intro deep base ts y h
     cases ts with
     | nil=>rw[vg]at h ⊢;exact h
     | cons t ts =>
       rw[kL]at h ⊢;by_cases c1:ay ⟨#[40]⟩ (t :: ts)=true
       · rw [ah c1]at h ⊢
         by_cases d:12≤deep
         · rw[ah d]at h ⊢;exact h
         · rw[af d]at h ⊢
           exact vT (fun y h=>i1 _ _ _ _ y h) (fun a b c y h=>h) y h
       · rw [af c1] at h ⊢
         by_cases c2:t.kind=1
         · rw[ah c2]at h ⊢
           exact h
         · rw [af c2] at h ⊢
           by_cases c3:t.kind=2
           · rw[ah c3]at h ⊢
             exact h
           · rw [af c3] at h ⊢
             by_cases c4:t.kind=6
             · rw[ah c4]at h ⊢
               exact h
             · rw [af c4] at h ⊢
               by_cases c5:t.kind=4
               · rw[ah c5]at h ⊢
                 exact h
               · rw [af c5]at h ⊢
                 by_cases c6:t.kind=3
                 · rw [ah c6]at h ⊢
                   by_cases c7:t.text=⟨#[84,82,85,69]⟩
                   · rw[ah c7]at h ⊢;exact h
                   · rw [af c7]at h ⊢
                     by_cases c8:t.text=⟨#[70,65,76,83,69]⟩
                     · rw[ah c8]at h ⊢;exact h
                     · rw [af c8]at h ⊢
                       by_cases c9:ay ⟨#[40]⟩ ts=true
                       · rw [ah c9]at h ⊢
                         by_cases d:12≤deep
                         · rw[ah d]at h ⊢;exact h
                         · rw[af d]at h ⊢
                           refine vT (fun y h => ?_) (fun a b c y h=>h) y h;by_cases c10:ay ⟨#[41]⟩ ts.tail=true
                           · rw[ah c10]at h ⊢;exact h
                           · rw[af c10]at h ⊢;exact i4 _ _ _ _ _ y h
                       · rw[af c9]at h ⊢;exact h
                 · rw[af c6]at h ⊢;exact h
   · intro deep base ns ks ts y h
     rw[qm]at h ⊢;refine vT (fun y h=>i1 _ _ _ _ y h) (fun a b c y h => ?_) y h;split
     · rw[ah ‹_›]at h;exact i4 _ _ _ _ _ y h
     · rw[af ‹_›]at h;exact h
theorem zU {y:fF}(hfg:f≤g)(h:dw f n deep base ts=some y):dw g n deep base ts=some y:=by
 induction g with
 | zero => obtain rfl:f=0:=by omega
           exact h
 | succ g ih =>
   by_cases e:f=g+1
   · rw[← e];exact h
   · exact(Ar g).1 _ _ _ _ _ (ih (by omega))
theorem LG {y:fF}(hfg:f≤g)(h:fC f n deep base ns a ts=some y):fC g n deep base ns a ts=some y:=by
 induction g with
 | zero => obtain rfl:f=0:=by omega
           exact h
 | succ g ih =>
   by_cases e:f=g+1
   · rw[← e];exact h
   · exact(Ar g).2.1 _ _ _ _ _ _ _ (ih (by omega))
theorem G9 {y:Args}(hfg:f≤g)(h:dY f deep base ns ks ts=some y):dY g deep base ns ks ts=some y:=by
 induction g with
 | zero => obtain rfl:f=0:=by omega
           exact h
 | succ g ih =>
   by_cases e:f=g+1
   · rw[← e];exact h
   · exact(Ar g).2.2.2 _ _ _ _ _ _ (ih (by omega))
def cB(m:Nat)(r ts:List ai):Prop:=∃pre:List ai,ts=pre++r∧(∀t∈pre,t.kind≠0)∧m≤pre.length
theorem cB.refl(ts:List ai):cB 0 ts ts:=⟨[],rfl,by simp,by simp⟩
theorem cB.trans {s t:List ai}(h:cB m r s)(g:cB k s t):cB (k+m) r t:=by
 obtain⟨p,rfl,h1,h2⟩:=h;obtain⟨q,rfl,g1,g2⟩:=g;refine⟨q++p,by rw[bD], ?_,by rw[ax];omega⟩;intro x hx;rw[eG]at hx;rcases hx with hx|hx
 · exact g1 x hx
 · exact h1 x hx
theorem cB.less (h:cB m r ts)(hk:k≤m):cB k r ts:=by
 obtain⟨p,h0,h1,h2⟩:=h;exact⟨p,h0,h1,by omega⟩
theorem cB.len (h:cB m r ts):r.length+m≤ts.length:=by
 obtain⟨p,rfl,_,h2⟩:=h;rw[ax];omega
theorem cB.head(h:t.kind≠0):cB 1 ts (t :: ts):=⟨[t],rfl,by simp[h],by simp⟩
theorem cB.sign (h:ay s ts=true):cB 1 ts.tail ts:=by
 cases ts with
 | nil=>simp[ay]at h
 | cons t ts =>
   unfold ay at h;rw[bu,aA]at h;exact cB.head (by omega)
theorem yx (h:dO n ts≠0):∃p∈ni n,ay p.1 ts=true∧dO n ts=p.2:=by
 unfold dO at h ⊢;cases hq:(ni n).find? (fun p=>ay p.1 ts)with
 | none=>rw[hq]at h;exact absurd rfl h
 | some p=>exact⟨p,List.mem_of_find?_eq_some hq,List.find?_some (p:=fun p:ByteArray × Int=>ay p.1 ts) hq,rfl⟩
theorem cB.op (h:dO n ts≠0):cB 1 ts.tail ts:=by
 obtain⟨p,_,h1,_⟩:=yx h;exact cB.sign h1
theorem Lp (h:jb base t ts = .ok (ns,a,r)):cB 0 r ts∧ns.length=1∧a=base:=by
 unfold jb at h;by_cases c:ay ⟨#[58]⟩ ts=true
 · rw [ah c]at h
   cases hq:ts.tail with
   | nil=>rw[hq]at h;cases h
   | cons u us =>
     rw[hq]at h;simp only at h;by_cases d:u.kind=4∧gU t.df u.df=true
     · rw[ah d]at h
       injection h with h;injection h with h1 h2;injection h2 with h2 h3;subst h1;subst h2;subst h3;have s1:=cB.sign c;rw[hq]at s1;exact⟨((cB.head (ts:=us) (show u.kind≠0 by omega)).trans s1).less (by omega),rfl,rfl⟩
     · rw[af d]at h;cases h
 · rw[af c]at h
   injection h with h;injection h with h1 h2;injection h2 with h2 h3;subst h1;subst h2;subst h3;exact⟨cB.refl _,rfl,rfl⟩
def Told(base:Nat)(ts:List ai)(ns:List Nd)(a:Nat)(r:List ai):Prop:=cB 1 r ts∧a+1=base+ns.length∧1≤ns.length
theorem vE : ∀ f : Nat, (∀ n deep base ts ns a r,dw f n deep base ts=some (.ok (ns,a,r))→Told base ts ns a r) ∧
 (∀n deep base ns a ts ns' a' r,fC f n deep base ns a ts=some (.ok (ns',a',r))→a+1=base+ns.length→1≤ns.length→cB 0 r ts∧a'+1=base+ns'.length∧1≤ns'.length) ∧
 (∀deep base ts ns a r,gJ f deep base ts=some (.ok (ns,a,r))→Told base ts ns a r) ∧
 (∀deep base ns ks ts ns' ks' r,dY f deep base ns ks ts=some (.ok (ns',ks',r))→cB 1 r ts)
 | 0=>by
   refine⟨?_, ?_, ?_, ?_⟩
   · intro n deep base ts ns a r h;unfold dw at h;cases h
   · intro n deep base ns a ts ns' a' r h;unfold fC at h;cases h
   · intro deep base ts ns a r h;unfold gJ at h;cases h
   · intro deep base ns ks ts ns' ks' r h;unfold dY at h;cases h
 | f + 1 => by
   obtain⟨i1,i2,i3,i4⟩:=vE f;refine⟨?_, ?_, ?_, ?_⟩
   · intro n deep base ts ns a r h
     rw[nV]at h;by_cases c:n≤3
     · rw [ah c]at h
       rcases bY h with ⟨e,_,h2⟩|⟨ms,b,s,h1,h2⟩
       · cases h2
       · obtain⟨k1,k2,k3⟩:=i1 _ _ _ _ _ _ _ h1
         obtain⟨g1,g2,g3⟩:=i2 _ _ _ _ _ _ _ _ _ h2 k2 k3;exact⟨g1.trans k1,g2,g3⟩
     · rw [af c]at h
       by_cases d:ay ⟨#[45]⟩ ts=true
       · rw [ah d]at h
         by_cases d2:12≤deep
         · rw[ah d2]at h;cases h
         · rw [af d2]at h
           rcases bY h with ⟨e,_,h2⟩|⟨ms,b,s,h1,h2⟩
           · cases h2
           · obtain⟨k1,k2,k3⟩:=i1 _ _ _ _ _ _ _ h1
             injection h2 with h2;injection h2 with h2;injection h2 with h3 h4;injection h4 with h4 h5;subst h3;subst h4;subst h5;exact⟨(k1.trans (cB.sign d)).less (by omega),by rw[ax];simp;omega,by rw[ax];simp⟩
       · rw[af d]at h;exact i3 _ _ _ _ _ _ h
   · intro n deep base ns a ts ns' a' r h ha hn
     rw[qG]at h;by_cases c:dO n ts=0
     · rw[ah c]at h
       injection h with h;injection h with h;injection h with h1 h2;injection h2 with h2 h3;subst h1;subst h2;subst h3;exact⟨cB.refl _,ha,hn⟩
     · rw [af c]at h
       rcases bY h with ⟨e,_,h2⟩|⟨ms,b,s,h1,h2⟩
       · cases h2
       · obtain⟨k1,k2,k3⟩:=i1 _ _ _ _ _ _ _ h1
         obtain⟨g1,g2,g3⟩:=i2 _ _ _ _ _ _ _ _ _ h2 (by simp only[ax,aN,fO];omega) (by simp only[ax,aN,fO];omega);exact⟨((g1.trans k1).trans (cB.op c)).less (by omega),g2,g3⟩
   · intro deep base ts ns a r h
     cases ts with
     | nil=>rw[vg]at h;cases h
     | cons t ts =>
       have leaf:∀(x:Nd),t.kind≠0→(some (.ok ([x],base,ts)):Option fF)=some (.ok (ns,a,r))→Told base (t :: ts) ns a r:=by
        intro x hk h;injection h with h;injection h with h;injection h with h1 h2;injection h2 with h2 h3;subst h1;subst h2;subst h3;exact⟨cB.head hk,by simp,by simp⟩
       rw[kL]at h;by_cases c1:ay ⟨#[40]⟩ (t :: ts)=true
       · rw [ah c1]at h
         have s1:=cB.sign c1;by_cases d:12≤deep
         · rw[ah d]at h;cases h
         · rw [af d]at h
           rcases bY h with ⟨e,_,h2⟩|⟨ms,b,s,h1,h2⟩
           · cases h2
           · obtain ⟨k1,k2,k3⟩:=i1 _ _ _ _ _ _ _ h1
             by_cases d2:ay ⟨#[41]⟩ s=true
             · rw[ah d2]at h2
               injection h2 with h2;injection h2 with h2;injection h2 with h3 h4;injection h4 with h4 h5;subst h3;subst h4;subst h5;exact⟨(((cB.sign d2).trans k1).trans s1).less (by omega),k2,k3⟩
             · rw[af d2]at h2;cases h2
       · rw [af c1] at h
         by_cases c2:t.kind=1
         · rw[ah c2]at h;exact leaf _ (by omega) h
         · rw [af c2] at h
           by_cases c3:t.kind=2
           · rw[ah c3]at h;exact leaf _ (by omega) h
           · rw [af c3] at h
             by_cases c4:t.kind=6
             · rw[ah c4]at h;exact leaf _ (by omega) h
             · rw [af c4] at h
               by_cases c5:t.kind=4
               · rw[ah c5]at h
                 injection h with h;obtain⟨g1,g2,g3⟩:=Lp h;exact⟨(g1.trans (cB.head (show t.kind≠0 by omega))).less (by omega),by omega,by omega⟩
               · rw [af c5] at h
                 by_cases c6:t.kind=3
                 · rw [ah c6] at h
                   by_cases c7:t.text=⟨#[84,82,85,69]⟩
                   · rw[ah c7]at h;exact leaf _ (by omega) h
                   · rw [af c7]at h
                     by_cases c8:t.text=⟨#[70,65,76,83,69]⟩
                     · rw[ah c8]at h;exact leaf _ (by omega) h
                     · rw [af c8]at h
                       by_cases c9:ay ⟨#[40]⟩ ts=true
                       · rw [ah c9]at h
                         by_cases d:12≤deep
                         · rw[ah d]at h;cases h
                         · rw [af d]at h
                           rcases bY h with ⟨e,_,h2⟩|⟨ms,ks,s,h1,h2⟩
                           · cases h2
                           · have k1:cB 0 s ts.tail:=by
                              by_cases c10:ay ⟨#[41]⟩ ts.tail=true
                              · rw[ah c10]at h1
                                injection h1 with h1;injection h1 with h1;injection h1 with h3 h4;injection h4 with h4 h5;subst h5;exact cB.refl _
                              · rw[af c10]at h1;exact(i4 _ _ _ _ _ _ _ _ h1).less (by omega)
                             by_cases d2:ay ⟨#[41]⟩ s=true
                             · rw[ah d2]at h2
                               injection h2 with h2;injection h2 with h2;injection h2 with h3 h4;injection h4 with h4 h5;subst h3;subst h4;subst h5;exact⟨((((cB.sign d2).trans k1).trans (cB.sign c9)).trans (cB.head (show t.kind≠0 by omega))).less (by omega),by rw[ax];simp;omega,by rw[ax];simp⟩
                             · rw[af d2]at h2;cases h2
                       · rw[af c9]at h;cases h
                 · rw[af c6]at h;cases h
   · intro deep base ns ks ts ns' ks' r h
     rw[qm]at h;rcases bY h with ⟨e,_,h2⟩|⟨ms,b,s,h1,h2⟩
     · cases h2
     · obtain ⟨k1,k2,k3⟩:=i1 _ _ _ _ _ _ _ h1
       by_cases d:ay ⟨#[44]⟩ s=true
       · rw[ah d]at h2
         exact(((i4 _ _ _ _ _ _ _ _ h2).trans (cB.sign d)).trans k1).less (by omega)
       · rw[af d]at h2
         injection h2 with h2;injection h2 with h2;injection h2 with h3 h4;injection h4 with h4 h5;subst h5;exact k1
theorem wN (h:ay s ts=true):ts.tail.length+1=ts.length:=by
 cases ts with
 | nil=>unfold ay at h;cases h
 | cons t l=>rfl
theorem VR (h:dO n ts≠0):ts.tail.length+1=ts.length:=by
 obtain⟨p,_,h1,_⟩:=yx h;exact wN h1
theorem Il : ∀f:Nat,(∀n deep base ts ns a r,dw f n deep base ts=some (.ok (ns,a,r))→ns.length+r.length≤ts.length) ∧
 (∀n deep base ns a ts ns' a' r,fC f n deep base ns a ts=some (.ok (ns',a',r))→ns'.length+r.length≤ns.length+ts.length) ∧
 (∀deep base ts ns a r,gJ f deep base ts=some (.ok (ns,a,r))→ns.length+r.length≤ts.length) ∧
 (∀deep base ns ks ts ns' ks' r,dY f deep base ns ks ts=some (.ok (ns',ks',r))→ns'.length+r.length≤ns.length+ts.length)
 | 0=>by
   refine⟨?_, ?_, ?_, ?_⟩
   · intro n deep base ts ns a r h;unfold dw at h;cases h
   · intro n deep base ns a ts ns' a' r h;unfold fC at h;cases h
   · intro deep base ts ns a r h;unfold gJ at h;cases h
   · intro deep base ns ks ts ns' ks' r h;unfold dY at h;cases h
 | f + 1 => by
   obtain⟨i1,i2,i3,i4⟩:=Il f;refine⟨?_, ?_, ?_, ?_⟩
   · intro n deep base ts ns a r h
     rw[nV]at h;by_cases hn:n≤3
     · rw [ah hn]at h
       rcases bY h with ⟨e,_,h2⟩|⟨ms,b,s,h1,h2⟩
       · cases h2
       · have:=i1 _ _ _ _ _ _ _ h1
         have:=i2 _ _ _ _ _ _ _ _ _ h2;omega
     · rw [af hn]at h
       by_cases c:ay ⟨#[45]⟩ ts=true
       · rw [ah c]at h
         have htl:=wN c;by_cases d:12≤deep
         · rw[ah d]at h;injection h with h;cases h
         · rw [af d]at h
           rcases bY h with ⟨e,_,h2⟩|⟨ms,b,s,h1,h2⟩
           · cases h2
           · have:=i1 _ _ _ _ _ _ _ h1
             injection h2 with h2;injection h2 with h2;injection h2 with h3 h4;injection h4 with h4 h5;subst h3;subst h5;rw[ax,gu];omega
       · rw[af c]at h;exact i3 _ _ _ _ _ _ h
   · intro n deep base ns a ts ns' a' r h
     rw[qG]at h;by_cases c:dO n ts=0
     · rw[ah c]at h
       injection h with h;injection h with h;injection h with h3 h4;injection h4 with h4 h5;subst h3;subst h5;exact aj _
     · rw [af c]at h
       have htl:=VR c;rcases bY h with ⟨e,_,h2⟩|⟨ms,b,s,h1,h2⟩
       · cases h2
       · have:=i1 _ _ _ _ _ _ _ h1
         have:=i2 _ _ _ _ _ _ _ _ _ h2;rw[ax,ax,gu]at this;omega
   · intro deep base ts ns a r h
     cases ts with
     | nil=>rw[vg]at h;injection h with h;cases h
     | cons t ts =>
       rw[kL]at h;by_cases c:ay ⟨#[40]⟩ (t :: ts)=true
       · rw [ah c]at h
         by_cases d:12≤deep
         · rw[ah d]at h;injection h with h;cases h
         · rw [af d]at h
           rcases bY h with ⟨e,_,h2⟩|⟨ms,b,s,h1,h2⟩
           · cases h2
           · have:=i1 _ _ _ _ _ _ _ h1
             by_cases g:ay ⟨#[41]⟩ s=true
             · rw[ah g]at h2
               injection h2 with h2;injection h2 with h2;injection h2 with h3 h4;injection h4 with h4 h5;subst h3;subst h5;have:=wN g;rw[aN];omega
             · rw[af g]at h2;injection h2 with h2;cases h2
       · rw [af c]at h
         by_cases k1:t.kind=1
         · rw[ah k1]at h;injection h with h;injection h with h;injection h with h3 h4;injection h4 with h4 h5;subst h3;subst h5;simp only[aN,fO];omega
         rw[af k1]at h;by_cases k2:t.kind=2
         · rw[ah k2]at h;injection h with h;injection h with h;injection h with h3 h4;injection h4 with h4 h5;subst h3;subst h5;simp only[aN,fO];omega
         rw[af k2]at h;by_cases k6:t.kind=6
         · rw[ah k6]at h;injection h with h;injection h with h;injection h with h3 h4;injection h4 with h4 h5;subst h3;subst h5;simp only[aN,fO];omega
         rw[af k6]at h;by_cases k4:t.kind=4
         · rw[ah k4]at h;injection h with h
           obtain⟨s1,s2,_⟩:=Lp h;have:=s1.len;rw[aN,s2];omega
         rw[af k4]at h;by_cases k3:t.kind=3
         · rw [ah k3]at h
           by_cases w1:t.text=⟨#[84,82,85,69]⟩
           · rw[ah w1]at h;injection h with h;injection h with h;injection h with h3 h4;injection h4 with h4 h5;subst h3;subst h5;simp only[aN,fO];omega
           rw[af w1]at h;by_cases w2:t.text=⟨#[70,65,76,83,69]⟩
           · rw[ah w2]at h;injection h with h;injection h with h;injection h with h3 h4;injection h4 with h4 h5;subst h3;subst h5;simp only[aN,fO];omega
           rw[af w2]at h;by_cases w3:ay ⟨#[40]⟩ ts=true
           · rw [ah w3]at h
             have htl:=wN w3;by_cases d:12≤deep
             · rw[ah d]at h;injection h with h;cases h
             rw[af d]at h;rcases bY h with ⟨e,_,h2⟩|⟨ms,ks,s,h1,h2⟩
             · cases h2
             · have hms:ms.length+s.length≤ts.tail.length:=by
                by_cases g:ay ⟨#[41]⟩ ts.tail=true
                · rw[ah g]at h1
                  injection h1 with h1;injection h1 with h1;injection h1 with h3 h4;injection h4 with h4 h5;subst h3;subst h5;simp
                · rw[af g]at h1
                  have:=i4 _ _ _ _ _ _ _ _ h1
                  simpa using this
               by_cases g:ay ⟨#[41]⟩ s=true
               · rw[ah g]at h2
                 injection h2 with h2;injection h2 with h2;injection h2 with h3 h4;injection h4 with h4 h5;subst h3;subst h5;have:=wN g;rw[ax,gu,aN];omega
               · rw[af g]at h2;injection h2 with h2;cases h2
           · rw[af w3]at h;injection h with h;cases h
         · rw[af k3]at h;injection h with h;cases h
   · intro deep base ns ks ts ns' ks' r h
     rw[qm]at h;rcases bY h with ⟨e,_,h2⟩|⟨ms,b,s,h1,h2⟩
     · cases h2
     · have h3:=i1 _ _ _ _ _ _ _ h1
       by_cases d:ay ⟨#[44]⟩ s=true
       · rw[ah d]at h2
         have:=wN d;have:=i4 _ _ _ _ _ _ _ _ h2;rw[ax]at this;omega
       · rw[af d]at h2
         injection h2 with h2;injection h2 with h2;injection h2 with h3 h4;injection h4 with h4 h5;subst h3;subst h5;rw[ax];omega
def jo(r:bJ):Bool:=decide (r.sh=⟨#[]⟩∧r.c=0∧r.r=0)&&(!r.ac && !r.ar)
def eu(r:bJ):Bool:=ek (sb r.sh) r.c r.r
def kD(l:List Int):Bool:=decide (∀x∈l,¬ x<32)
def jF(s:ByteArray):Bool:=jG (sb s)&&((gQ s).isNone&&(decide (¬ s=⟨#[84,82,85,69]⟩)&&decide (¬ s=⟨#[70,65,76,83,69]⟩)))
def mW(k:Int):Int:=if 1≤k∧k≤6 then 0 else if k=7 then -1 else if k=8 then 1 else if 9≤k∧k≤19 then 2 else -2
def iI (n:Nd):Bool :=
 if (n.kind≠1∧n.kind≠3∧n.num≠0)∨(n.kind≠2∧n.kind≠7∧n.text≠⟨#[]⟩)∨(n.kind≠5∧n.kind≠6∧jo n.ref=false)∨(n.kind≠6∧jo n.ag=false)then false
 else if n.kind=1 then decide (0≤n.num)
 else if n.kind=3 then decide (n.num=0∨n.num=1)
 else if n.kind=2 then kD (sb n.text)
 else if n.kind=7 then jF n.text
 else if n.kind=5 then eu n.ref
 else if n.kind=6 then eu n.ref&&(eu n.ag&&gU n.ref n.ag)
 else true
def dN(n:Nd):Bool:=iI n&&(decide (mW n.kind = -1)||decide (mW n.kind=n.kids.length))
def oI:List Int→Nat→List Nd→Bool
 | st,_,[]=>decide (st.length=1)
 | st,i,n :: ns=>dN n&&(decide (n.kids.length≤st.length)&&(decide (st.drop (st.length - n.kids.length)=n.kids)&&oI (st.take (st.length - n.kids.length)++[(i:Int)]) (i+1) ns))
theorem qc(st:List Int)(i:Nat)(n:Nd)(ns:List Nd):oI st i (n :: ns)=(dN n&&(decide (n.kids.length≤st.length)&&(decide (st.drop (st.length - n.kids.length)=n.kids)&&oI (st.take (st.length - n.kids.length)++[(i:Int)]) (i+1) ns))):=rfl
def dC(l:List Nd):Bool:=oI [] 0 l
def dW(base:Nat)(ns:List Nd)(ks:List Int):Prop:=∀st rest,oI st base (ns++rest)=oI (st++ks) (base+ns.length) rest
theorem dW.nil(base:Nat):dW base [] []:=fun st rest=>by simp
theorem dW.app {ms:List Nd}{js:List Int}(h:dW base ns ks)(g:dW (base+ns.length) ms js):dW base (ns++ms) (ks++js):=by
 intro st rest;rw[bD,h,g,bD,ax,Nat.add_assoc]
theorem dW.node {n:Nd}(h:dW base ns n.kids)(hn:dN n=true):dW base (ns++[n]) [((base+ns.length:Nat):Int)]:=by
 intro st rest;rw[bD,h];show oI (st++n.kids) (base+ns.length) (n :: rest)=_;rw[qc];have e1:(st++n.kids).length - n.kids.length=st.length:=by rw[ax];omega
 rw[hn,e1,List.drop_left,List.take_left,aL (show n.kids.length≤(st++n.kids).length by rw[ax];omega),aL rfl,jW,jW,jW,ax];rfl
structure FI (t:ai):Prop where
 num:t.kind=1→0≤t.num
 text:t.kind=2→kD (sb t.text)=true
 name:t.kind=3→jG (sb t.text)=true∧(gQ t.text).isNone=true
 ref:t.kind=4→eu t.df=true
def Good(ts:List ai):Prop:=∀t∈ts,FI t
theorem Good.tail(h:Good ts):Good ts.tail:=fun t ht=>h t (List.mem_of_mem_tail ht)
theorem Good.E5 (h:Good ts)(hs:cB m r ts):Good r:=by
 obtain⟨p,rfl,_,_⟩:=hs;exact fun t ht=>h t (List.mem_append_right _ ht)
theorem rR:jo bJ.zero=true:=by decide
theorem VP (h:dO n ts≠0):9≤dO n ts∧dO n ts≤19:=by
 obtain⟨p,hp,_,e⟩:=yx h;rw[e]
 match n with
 | 0=>simp[ni]at hp;rcases hp with rfl|rfl|rfl|rfl|rfl|rfl <;> decide
 | 1=>simp[ni]at hp;subst hp;decide
 | 2=>simp[ni]at hp;rcases hp with rfl|rfl <;> decide
 | n+3=>simp[ni]at hp;rcases hp with rfl|rfl <;> decide
theorem VD {k a b:Int}(h:9≤k∧k≤19):dN { Nd.zero with kind:=k,kids:=[a,b] }=true:=by
 unfold dN
 have h1:iI { Nd.zero with kind:=k,kids:=[a,b] }=true:=by
  unfold iI
  rw [af (by
   rintro(⟨_,_,h⟩|⟨_,_,h⟩|⟨_,_,h⟩|⟨_,h⟩)
   · exact h rfl
   · exact h rfl
   · rw[show jo ({ Nd.zero with kind:=k,kids:=[a,b] }:Nd).ref=true from rR]at h;cases h
   · rw[show jo ({ Nd.zero with kind:=k,kids:=[a,b] }:Nd).ag=true from rR]at h;cases h),af (by show ¬ k=1;omega),af (by show ¬ k=3;omega),af (by show ¬ k=2;omega),af (by show ¬ k=7;omega),af (by show ¬ k=5;omega),af (by show ¬ k=6;omega)]
 have h2:mW k=2:=by unfold mW;rw[af (by omega),af (by omega),af (by omega),ah h]
 rw[h1,jW,Bool.or_eq_true]
 right
 rw[aA];exact h2
theorem VB (a:Int):dN { Nd.zero with kind:=8,kids:=[a] }=true:=by
 unfold dN iI;rfl
theorem VC {n:Int}(h:0≤n):dN { Nd.zero with kind:=1,num:=n }=true:=by
 unfold dN
 have h1:iI { Nd.zero with kind:=1,num:=n }=true:=by
  unfold iI
  rw [af (by
   rintro(⟨h,_⟩|⟨_,_,h⟩|⟨_,_,h⟩|⟨_,h⟩)
   · exact h rfl
   · exact h rfl
   · rw[show jo ({ Nd.zero with kind:=1,num:=n }:Nd).ref=true from rR]at h;cases h
   · rw[show jo ({ Nd.zero with kind:=1,num:=n }:Nd).ag=true from rR]at h;cases h),ah rfl]
  exact aL h
 rw[h1];rfl
theorem VG (h:kD (sb s)=true):dN { Nd.zero with kind:=2,text:=s }=true:=by
 unfold dN
 have h1:iI { Nd.zero with kind:=2,text:=s }=true:=by
  unfold iI
  rw [af (by
   rintro(⟨_,_,h⟩|⟨h,_⟩|⟨_,_,h⟩|⟨_,h⟩)
   · exact h rfl
   · exact h rfl
   · rw[show jo ({ Nd.zero with kind:=2,text:=s }:Nd).ref=true from rR]at h;cases h
   · rw[show jo ({ Nd.zero with kind:=2,text:=s }:Nd).ag=true from rR]at h;cases h),af (by show ¬ (2:Int)=1;omega),af (by show ¬ (2:Int)=3;omega),ah rfl]
  exact h
 rw[h1];rfl
theorem VA (h:jF s=true):dN { Nd.zero with kind:=7,text:=s,kids:=ks }=true:=by
 unfold dN
 have h1:iI { Nd.zero with kind:=7,text:=s,kids:=ks }=true:=by
  unfold iI
  rw [af (by
   rintro(⟨_,_,h⟩|⟨_,h,_⟩|⟨_,_,h⟩|⟨_,h⟩)
   · exact h rfl
   · exact h rfl
   · rw[show jo ({ Nd.zero with kind:=7,text:=s,kids:=ks }:Nd).ref=true from rR]at h;cases h
   · rw[show jo ({ Nd.zero with kind:=7,text:=s,kids:=ks }:Nd).ag=true from rR]at h;cases h),af (by show ¬ (7:Int)=1;omega),af (by show ¬ (7:Int)=3;omega),af (by show ¬ (7:Int)=2;omega),ah rfl]
  exact h
 rw[h1];rfl
theorem VF {r:bJ}(h:eu r=true):dN { Nd.zero with kind:=5,ref:=r }=true:=by
 unfold dN
 have h1:iI { Nd.zero with kind:=5,ref:=r }=true:=by
  unfold iI
  rw [af (by
   rintro(⟨_,_,h⟩|⟨_,_,h⟩|⟨h,_⟩|⟨_,h⟩)
   · exact h rfl
   · exact h rfl
   · exact h rfl
   · rw[show jo ({ Nd.zero with kind:=5,ref:=r }:Nd).ag=true from rR]at h;cases h),af (by show ¬ (5:Int)=1;omega),af (by show ¬ (5:Int)=3;omega),af (by show ¬ (5:Int)=2;omega),af (by show ¬ (5:Int)=7;omega),ah rfl]
  exact h
 rw[h1];rfl
theorem VE {r t:bJ}(h:eu r=true)(g:eu t=true)(hs:gU r t=true):dN { Nd.zero with kind:=6,ref:=r,ag:=t }=true:=by
 unfold dN
 have h1:iI { Nd.zero with kind:=6,ref:=r,ag:=t }=true:=by
  unfold iI
  rw [af (by
   rintro(⟨_,_,h⟩|⟨_,_,h⟩|⟨_,h,_⟩|⟨h,_⟩)
   · exact h rfl
   · exact h rfl
   · exact h rfl
   · exact h rfl),af (by show ¬ (6:Int)=1;omega),af (by show ¬ (6:Int)=3;omega),af (by show ¬ (6:Int)=2;omega),af (by show ¬ (6:Int)=7;omega),af (by show ¬ (6:Int)=5;omega),ah rfl]
  show(eu r&&(eu t&&gU r t))=true;rw[h,g,hs];rfl
 rw[h1];rfl
theorem dW.leaf {n:Nd}(hk:n.kids=[])(hn:dN n=true):dW base [n] [(base:Int)]:=by
 have h:=dW.node (base:=base) (ns:=[]) (n:=n) (by rw[hk];exact dW.nil base) hn;exact h
theorem Xo (h:jb base t ts = .ok (ns,a,r))(ht:eu t.df=true)(hg:Good ts):dW base ns [(a:Int)]:=by
 unfold jb at h;by_cases c:ay ⟨#[58]⟩ ts=true
 · rw [ah c]at h
   cases hq:ts.tail with
   | nil=>rw[hq]at h;cases h
   | cons u us =>
     rw[hq]at h;simp only at h;by_cases d:u.kind=4∧gU t.df u.df=true
     · rw[ah d]at h
       injection h with h;injection h with h1 h2;injection h2 with h2 h3;subst h1;subst h2;have hu:=(hg u (List.mem_of_mem_tail (by rw[hq];simp))).ref d.1;exact dW.leaf rfl (VE ht hu d.2)
     · rw[af d]at h;cases h
 · rw[af c]at h
   injection h with h;injection h with h1 h2;injection h2 with h2 h3;subst h1;subst h2;exact dW.leaf rfl (VF ht)
theorem ML : ∀ f : Nat, (∀n deep base ts ns a r,dw f n deep base ts=some (.ok (ns,a,r))→Good ts→dW base ns [(a:Int)]) ∧
 (∀n deep base ns a ts ns' a' r,fC f n deep base ns a ts=some (.ok (ns',a',r))→Good ts→dW base ns [(a:Int)]→dW base ns' [(a':Int)]) ∧
 (∀deep base ts ns a r,gJ f deep base ts=some (.ok (ns,a,r))→Good ts→dW base ns [(a:Int)]) ∧
 (∀deep base ns ks ts ns' ks' r,dY f deep base ns ks ts=some (.ok (ns',ks',r))→Good ts→dW base ns ks→dW base ns' ks')
 | 0=>by
   refine⟨?_, ?_, ?_, ?_⟩
   · intro n deep base ts ns a r h;unfold dw at h;cases h
   · intro n deep base ns a ts ns' a' r h;unfold fC at h;cases h
   · intro deep base ts ns a r h;unfold gJ at h;cases h
   · intro deep base ns ks ts ns' ks' r h;unfold dY at h;cases h
 | f + 1 => by
   obtain⟨i1,i2,i3,i4⟩:=ML f;refine⟨?_, ?_, ?_, ?_⟩
   · intro n deep base ts ns a r h hg
     rw[nV]at h;by_cases c:n≤3
     · rw[ah c]at h
       rcases bY h with ⟨e,_,h2⟩|⟨ms,b,s,h1,h2⟩
       · cases h2
       · exact i2 _ _ _ _ _ _ _ _ _ h2 (hg.E5 ((vE f).1 _ _ _ _ _ _ _ h1).1) (i1 _ _ _ _ _ _ _ h1 hg)
     · rw [af c]at h
       by_cases d:ay ⟨#[45]⟩ ts=true
       · rw [ah d]at h
         by_cases d2:12≤deep
         · rw[ah d2]at h;cases h
         · rw [af d2]at h
           rcases bY h with ⟨e,_,h2⟩|⟨ms,b,s,h1,h2⟩
           · cases h2
           · injection h2 with h2;injection h2 with h2;injection h2 with h3 h4;injection h4 with h4 h5
             subst h3;subst h4;exact dW.node (n:={ Nd.zero with kind:=8,kids:=[(b:Int)] }) (i1 _ _ _ _ _ _ _ h1 hg.tail) (VB _)
       · rw[af d]at h;exact i3 _ _ _ _ _ _ h hg
   · intro n deep base ns a ts ns' a' r h hg hp
     rw[qG]at h;by_cases c:dO n ts=0
     · rw[ah c]at h
       injection h with h;injection h with h;injection h with h1 h2;injection h2 with h2 h3;subst h1;subst h2;exact hp
     · rw [af c]at h
       rcases bY h with ⟨e,_,h2⟩|⟨ms,b,s,h1,h2⟩
       · cases h2
       · have p2:=i1 _ _ _ _ _ _ _ h1 hg.tail
         have p3:=dW.node (n:={ Nd.zero with kind:=dO n ts,kids:=[(a:Int),(b:Int)] }) (dW.app hp p2) (VD (VP c));rw[bD,ax]at p3;exact i2 _ _ _ _ _ _ _ _ _ h2 (hg.tail.E5 ((vE f).1 _ _ _ _ _ _ _ h1).1) p3
   · intro deep base ts ns a r h hg
     cases ts with
     | nil=>rw[vg]at h;cases h
     | cons t ts =>
       have ht:=hg t (by simp);have hgs:Good ts:=fun x hx=>hg x (by simp[hx])
       have leaf:∀(x:Nd),x.kids=[]→dN x=true→(some (.ok ([x],base,ts)):Option fF)=some (.ok (ns,a,r))→dW base ns [(a:Int)]:=by
        intro x hk hn h;injection h with h;injection h with h;injection h with h1 h2;injection h2 with h2 h3;subst h1;subst h2;exact dW.leaf hk hn
       rw[kL]at h;by_cases c1:ay ⟨#[40]⟩ (t :: ts)=true
       · rw [ah c1]at h
         by_cases d:12≤deep
         · rw[ah d]at h;cases h
         · rw [af d]at h
           rcases bY h with ⟨e,_,h2⟩|⟨ms,b,s,h1,h2⟩
           · cases h2
           · by_cases d2:ay ⟨#[41]⟩ s=true
             · rw[ah d2]at h2
               injection h2 with h2;injection h2 with h2;injection h2 with h3 h4;injection h4 with h4 h5;subst h3;subst h4;exact i1 _ _ _ _ _ _ _ h1 hgs
             · rw[af d2]at h2;cases h2
       · rw [af c1] at h
         by_cases c2:t.kind=1
         · rw[ah c2]at h;exact leaf { Nd.zero with kind:=1,num:=t.num } rfl (VC (ht.num c2)) h
         · rw [af c2] at h
           by_cases c3:t.kind=2
           · rw[ah c3]at h;exact leaf { Nd.zero with kind:=2,text:=t.text } rfl (VG (ht.text c3)) h
           · rw [af c3] at h
             by_cases c4:t.kind=6
             · rw[ah c4]at h;exact leaf { Nd.zero with kind:=4 } rfl rfl h
             · rw [af c4] at h
               by_cases c5:t.kind=4
               · rw[ah c5]at h
                 injection h with h;exact Xo h (ht.ref c5) hgs
               · rw [af c5] at h
                 by_cases c6:t.kind=3
                 · rw [ah c6] at h
                   by_cases c7:t.text=⟨#[84,82,85,69]⟩
                   · rw[ah c7]at h;exact leaf { Nd.zero with kind:=3,num:=1 } rfl rfl h
                   · rw [af c7]at h
                     by_cases c8:t.text=⟨#[70,65,76,83,69]⟩
                     · rw[ah c8]at h;exact leaf { Nd.zero with kind:=3 } rfl rfl h
                     · rw [af c8]at h
                       by_cases c9:ay ⟨#[40]⟩ ts=true
                       · rw [ah c9]at h
                         by_cases d:12≤deep
                         · rw[ah d]at h;cases h
                         · rw [af d]at h
                           rcases bY h with ⟨e,_,h2⟩|⟨ms,ks,s,h1,h2⟩
                           · cases h2
                           · have k1:dW base ms ks:=by
                              by_cases c10:ay ⟨#[41]⟩ ts.tail=true
                              · rw[ah c10]at h1
                                injection h1 with h1;injection h1 with h1;injection h1 with h3 h4;injection h4 with h4 h5;subst h3;subst h4;exact dW.nil _
                              · rw[af c10]at h1;exact i4 _ _ _ _ _ _ _ _ h1 hgs.tail (dW.nil _)
                             by_cases d2:ay ⟨#[41]⟩ s=true
                             · rw [ah d2]at h2
                               injection h2 with h2;injection h2 with h2;injection h2 with h3 h4;injection h4 with h4 h5;subst h3;subst h4
                               have hcb:jF t.text=true:=by
                                unfold jF;rw[(ht.name c6).1,(ht.name c6).2,aL c7,aL c8];rfl
                               exact dW.node (n:={ Nd.zero with kind:=7,text:=t.text,kids:=ks }) k1 (VA hcb)
                             · rw[af d2]at h2;cases h2
                       · rw[af c9]at h;cases h
                 · rw[af c6]at h;cases h
   · intro deep base ns ks ts ns' ks' r h hg hp
     rw[qm]at h;rcases bY h with ⟨e,_,h2⟩|⟨ms,b,s,h1,h2⟩
     · cases h2
     · have p2:=dW.app hp (i1 _ _ _ _ _ _ _ h1 hg)
       have hgs:=hg.E5 ((vE f).1 _ _ _ _ _ _ _ h1).1;by_cases d:ay ⟨#[44]⟩ s=true
       · rw[ah d]at h2
         exact i4 _ _ _ _ _ _ _ _ h2 hgs.tail p2
       · rw[af d]at h2
         injection h2 with h2;injection h2 with h2;injection h2 with h3 h4;injection h4 with h4 h5;subst h3;subst h4;exact p2
theorem Lb (h:lh f ts=some (.ok ns))(hg:Good ts):dC ns=true:=by
 unfold lh at h;rcases bY h with ⟨e,_,h2⟩|⟨ms,b,s,h1,h2⟩
 · cases h2
 · have hp:=(ML f).1 _ _ _ _ _ _ _ h1 hg
   by_cases c:tu s=0
   · rw[ah c]at h2
     injection h2 with h2;injection h2 with h2;subst h2;have:=hp [] [];rw[bE]at this;unfold dC;rw[this];rfl
   · rw[af c]at h2;cases h2
theorem wJ:∀(n:Nat)(l t:List Int)(k:Nat),l.length≤n→Bytes l→bP l=some (t,k)→Bytes t∧∀x∈t,¬ x<32
 | _,[],_,_,_,_,h=>by simp[bP]at h
 | 0,_ :: _,_,_,hn,_,_=>by simp at hn
 | n + 1, x :: l,t,k,hn,hb,h=>by
   have hbl:Bytes l:=fun y hy=>hb y (by simp[hy])
   rw[oz]at h;by_cases h1:x<32
   · rw[ah h1]at h;cases h
   · rw [af h1]at h
     by_cases h2:x≠34
     · rw [ah h2]at h
       cases hq:bP l with
       | none=>rw[hq]at h;cases h
       | some q =>
         rw[hq]at h;simp only[gq,aI,aJ]at h;obtain⟨g1,g2⟩:=wJ n l q.1 q.2 (by simp at hn;omega) hbl hq;rw[← h.1];refine⟨?_, ?_⟩
         · intro y hy
           rcases gp.1 hy with rfl|hy
           · exact hb _ (by simp)
           · exact g1 y hy
         · intro y hy
           rcases gp.1 hy with rfl|hy
           · exact h1
           · exact g2 y hy
     · rw [af h2]at h
       cases l with
       | nil=>simp at h;rw[h.1];exact⟨Bytes.nil,by simp⟩
       | cons y m =>
         by_cases hy:y=34
         · simp only [hy,if_true]at h
           cases hq:bP m with
           | none=>rw[hq]at h;cases h
           | some q =>
             rw[hq]at h;simp only[gq,aI,aJ]at h;obtain⟨g1,g2⟩:=wJ n m q.1 q.2 (by simp at hn;omega) (fun z hz=>hbl z (by simp[hz])) hq;rw[← h.1];refine⟨?_, ?_⟩
             · intro z hz
               rcases gp.1 hz with rfl|hz
               · omega
               · exact g1 z hz
             · intro z hz
               rcases gp.1 hz with rfl|hz
               · omega
               · exact g2 z hz
         · simp only[hy,if_false,aI,aJ]at h
           rw[← h.1];exact⟨Bytes.nil,by simp⟩
theorem Bytes.span(h:Bytes l)(p:Int→Bool):Bytes (l.takeWhile p):=fun x hx=>h x ((List.takeWhile_prefix p).subset hx)
theorem MG (l:List Int)(t:ai)(n p:Nat)(hb:Bytes l)(h:cK l=some (t,n)):FI (t.goto p)∧t.kind≠0:=by
 cases l with
 | nil=>simp[cK]at h
 | cons x l =>
   rw[nD]at h;by_cases h1:isNum x=true
   · rw [ah h1]at h
     unfold kZ at h;split at h
     · cases h
     · simp only[aI,aJ]at h
       rw[← h.1];have hv:=yQ ((x :: l).takeWhile isNum) [] (rW isNum _) (by decide);rw[eY]at hv;exact⟨⟨fun _=>hv,fun h=>by simp[ai.goto]at h,fun h=>by simp[ai.goto]at h,fun h=>by simp[ai.goto]at h⟩,by simp⟩
   · rw [af h1] at h
     by_cases h2:x=34
     · rw [ah h2]at h
       unfold jr at h;cases hq:bP l with
       | none=>rw[hq]at h;cases h
       | some q =>
         rw[hq]at h;simp only[gq,aI,aJ]at h;obtain⟨g1,g2⟩:=wJ _ l q.1 q.2 (aj _) (fun y hy=>hb y (by simp[hy])) hq;rw[← h.1];refine⟨⟨fun h=>by simp[ai.goto]at h,fun _ => ?_,fun h=>by simp[ai.goto]at h,fun h=>by simp[ai.goto]at h⟩,by simp⟩;show kD (sb (strOfNums q.1))=true;rw[iJ _ g1];unfold kD;exact aL g2
     · rw [af h2]at h
       by_cases h3:x=35
       · rw [ah h3]at h
         unfold mY at h;split at h
         · simp only[aI,aJ]at h
           rw[← h.1];exact⟨⟨fun h=>by simp[ai.goto]at h,fun h=>by simp[ai.goto]at h,fun h=>by simp[ai.goto]at h,fun h=>by simp[ai.goto]at h⟩,by simp⟩
         · cases h
       · rw [af h3]at h
         by_cases h4:isLet x=true∨x=36
         · rw [ah h4]at h
           unfold lq at h;cases hq:gQ (strOfNums ((x :: l).takeWhile isWord))with
           | some d =>
             rw[hq]at h;simp only[aI,aJ]at h;rw[← h.1];exact⟨⟨fun h=>by simp[ai.goto]at h,fun h=>by simp[ai.goto]at h,fun h=>by simp[ai.goto]at h,fun _=>(tN _ d hq).2.1⟩,by simp⟩
           | none =>
             rw[hq]at h;simp only at h;by_cases hc:jG ((x :: l).takeWhile isWord)=true
             · rw [ah hc]at h
               simp only[aI,aJ]at h;rw[← h.1];refine⟨⟨fun h=>by simp[ai.goto]at h,fun h=>by simp[ai.goto]at h,fun _=>⟨?_, ?_⟩,fun h=>by simp[ai.goto]at h⟩,by simp⟩
               · show jG (sb (strOfNums ((x :: l).takeWhile isWord)))=true
                 rw[iJ _ (hb.span isWord)];exact hc
               · show(gQ (strOfNums ((x :: l).takeWhile isWord))).isNone=true
                 rw[hq];rfl
             · rw[af hc]at h;cases h
         · rw [af h4]at h
           unfold lU at h;split at h
           · cases h
           · simp only[aI,aJ]at h
             rw[← h.1];exact⟨⟨fun h=>by simp[ai.goto]at h,fun h=>by simp[ai.goto]at h,fun h=>by simp[ai.goto]at h,fun h=>by simp[ai.goto]at h⟩,by simp⟩
def Fit(ts:List ai):Prop:=∃body e,ts=body++[e]∧e.kind=0∧∀t∈body,t.kind≠0
theorem Ed:∀(f p:Nat)(l:List Int)(ts:List ai),Bytes l→bU f p l=some ts→Good ts∧Fit ts
 | f,p,[],ts,_,h=>by
   have h0:bU f p []=some [ai.zero.goto p]:=by unfold bU;rfl
   rw[h0]at h;injection h with h;subst h;refine⟨?_,[],_,rfl,rfl,by simp⟩;intro t ht;simp at ht;subst ht;exact⟨fun h=>by simp[ai.goto,ai.zero]at h,fun h=>by simp[ai.goto,ai.zero]at h,fun h=>by simp[ai.goto,ai.zero]at h,fun h=>by simp[ai.goto,ai.zero]at h⟩
 | 0,_,_ :: _,_,_,h=>by unfold bU at h;cases h
 | f + 1, p,x :: l,ts,hb,h=>by
   rw[nk]at h;by_cases hx:x=32
   · rw[ah hx]at h
     exact Ed f (p+1) l ts (fun y hy=>hb y (by simp[hy])) h
   · rw [af hx]at h
     cases hq:cK (x :: l)with
     | none=>rw[hq]at h;cases h
     | some q =>
       obtain⟨t0,n⟩:=q;obtain⟨g1,g2⟩:=MG _ _ _ p hb hq;rw[hq]at h;simp only[Option.map_eq_some_iff]at h;obtain⟨us,h1,rfl⟩:=h;obtain⟨k1,body,e,k2,k3,k4⟩:=Ed f (p+n) ((x :: l).drop n) us (fun y hy=>hb y (List.mem_of_mem_drop hy)) h1;refine⟨?_,t0.goto p :: body,e,by rw[k2];rfl,k3, ?_⟩
       · intro t ht
         rcases gp.1 ht with rfl|ht
         · exact g1
         · exact k1 t ht
       · intro t ht
         rcases gp.1 ht with rfl|ht
         · exact g2
         · exact k4 t ht
theorem Eg(s:ByteArray)(ts:List ai)(h:gH (sb s)=some ts):Good ts∧Fit ts:=Ed _ _ _ _ (fun x hx=>p9 s x hx) h
theorem QP:∀(n u:Nat),u<n→1≤u→(aW u).head? ≠ some 48:=by
 intro n
 induction n with
 | zero=>intro u h;omega
 | succ n ih =>
   intro u hu h1;by_cases h:u<10
   · rw[nU u h];simp;omega
   · rw[rC u h]
     have:=ih (u / 10) (by omega) (by omega);cases hd:aW (u / 10)with
     | nil=>exact absurd hd (nT _)
     | cons y l=>rw[hd]at this;simpa using this
theorem Na(h:aP x=true):isWord x=true:=D8 (.inl (by unfold aP at h;unfold isLet;rw[aA]at h ⊢;omega))
theorem Fv(h:isNum x=true):isWord x=true:=by unfold isWord;rw[h];simp
theorem Z6 (c r:Int)(ac ar:Bool):∀x∈lV c r ac ar,isWord x=true:=by
 intro x hx;unfold lV at hx;simp only[eG]at hx;rcases hx with h|h|h|h
 · have:=rD _ x h;rw[aA]at this;subst this;decide
 · exact Na (pR c x h)
 · have:=rD _ x h;rw[aA]at this;subst this;decide
 · exact Fv (pV _ x h)
theorem Z4 (l:List Int)(h:fe l=true):∀x∈l,isWord x=true:=by
 intro x hx;unfold fe at h;rw[bu,aA]at h;obtain⟨j,hj,rfl⟩:=List.mem_iff_getElem.1 hx;have:=h.1 j hj;rw[iM,aX hj]at this;simp only[Option.getD_some]at this;unfold mZ at this;unfold isWord;rw[Bool.or_eq_true,bu]at this;rcases this with h1|⟨_,h1⟩
 · rw[h1];rfl
 · rw[h1];simp
theorem Z7 (sh:List Int)(c r:Int)(ac ar:Bool)(h:ek sh c r=true):∀x∈bC sh c r ac ar,isWord x=true:=by
 intro x hx;rw[vC _ _ _ _ _ h,eG]at hx;rcases hx with hx|hx
 · by_cases h0:sh=[]
   · rw[ah h0]at hx;simp at hx
   · rw[af h0,eG]at hx
     rcases hx with hx|hx
     · exact Z4 sh ((yl h).resolve_left h0) x hx
     · simp at hx;subst hx;decide
 · exact Z6 c r ac ar x hx
theorem Y7 (sh:List Int)(c r:Int)(ac ar:Bool)(h:ek sh c r=true):∃x l,bC sh c r ac ar=x :: l∧(isLet x=true∨x=36):=by
 rw[vC _ _ _ _ _ h];obtain⟨c0,c1,_,_⟩:=Aq h;by_cases h0:sh=[]
 · rw [ah h0,eY]
   unfold lV;cases ac with
   | true=>exact⟨36,_,rfl,.inr rfl⟩
   | false =>
     have Dn:=pR c;cases hc:bH c with
     | nil=>exact absurd hc (zR c c0 c1)
     | cons y m =>
       refine⟨y,_,rfl,.inl ?_⟩;have:=Dn y (by rw[hc];simp);unfold aP at this;unfold isLet;rw[aA]at this ⊢;omega
 · rw [af h0]
   have hn:=(yl h).resolve_left h0;cases sh with
   | nil=>exact absurd rfl h0
   | cons y m =>
     refine⟨y,_,rfl,.inl ?_⟩;unfold fe at hn;rw[bu,aA]at hn;have:=hn.1 0 (by simp);unfold mZ at this
     simpa using this
theorem Xj (s:ByteArray)(c r:Int)(ac ar:Bool)(h:ek (sb s) c r=true):∃d,gQ (strOfNums (bC (sb s) c r ac ar))=some d∧d.sh=s∧d.c=c∧d.r=r∧d.ac=ac∧d.ar=ar:=by
 have hb:=iJ _ (vU s c r ac ar);cases hq:gQ (strOfNums (bC (sb s) c r ac ar))with
 | none=>exact absurd hb.symm (EC _ hq _ _ _ _ _ h)
 | some d =>
   obtain⟨_,h2,h3⟩:=tN _ d hq;rw[hb]at h3;obtain⟨e1,e2,e3,e4,e5⟩:=MC h2 h h3;exact⟨d,rfl,LP e1,e2,e3,e4,e5⟩
def eZ:List Int→List Int
 | []=>[]
 | x :: l=>(if x=34 then [34,34]else [x])++eZ l
theorem yc (c:Int)(_h0:0≤c)(_h1:c≤255)(w:World) :
 Calls Tryz.prog 62 #[.int .u8 c] w fun e w'=>e = .returned (.bool (aP c))∧w=w':=by
 go_enter Tryz.func62,Tryz.ntmps62
 go_wp2
 all_goals go_ret
 all_goals exact⟨fB (by unfold aP;first|rfl|(symm;rw[aA];omega)|(symm;rw[gK];omega)|(rw[decide_eq_decide];omega)),rfl⟩
theorem wm (c:Int)(_h0:0≤c)(_h1:c≤255)(w:World) :
 Calls Tryz.prog 42 #[.int .u8 c] w fun e w'=>e = .returned (.bool (isNum c))∧w=w':=by
 go_enter Tryz.func42,Tryz.ntmps42
 go_wp2
 all_goals go_ret
 all_goals exact⟨fB (by unfold isNum;first|rfl|(symm;rw[aA];omega)|(symm;rw[gK];omega)|(rw[decide_eq_decide];omega)),rfl⟩
theorem JY{c:Int}(h:aP c=true):isLet c=true:=by unfold aP at h;unfold isLet;rw[aA]at h ⊢;omega
theorem JZ{c:Int}(h:aP c=false):isLet c=decide (97≤c∧c≤122):=by unfold aP at h;unfold isLet;rw[gK]at h;rw[decide_eq_decide];omega
theorem yf (c:Int)(_h0:0≤c)(_h1:c≤255)(w:World) :
 Calls Tryz.prog 41 #[.int .u8 c] w fun e w'=>e = .returned (.bool (isLet c))∧w=w':=by
 by_cases hc:aP c=true
 · have hl:=JY hc
   have HL:=ae hl;clear hl;go_enter Tryz.func41,Tryz.ntmps41;go_wp2_with (go_at_call 62;((with_reducible refine(yc _ ?_ ?_ _).mono ?_);(first|omega|skip);(first|omega|skip);rintro e w' ⟨rfl,rfl⟩))
   all_goals go_ret
   all_goals exact⟨fB (by rw[HL.o]),rfl⟩
 · have hc':aP c=false:=by simpa using hc
   have hl:=JZ hc';have HL:=ae hl;clear hl hc;go_enter Tryz.func41,Tryz.ntmps41;go_wp2_with (go_at_call 62;((with_reducible refine(yc _ ?_ ?_ _).mono ?_);(first|omega|skip);(first|omega|skip);rintro e w' ⟨rfl,rfl⟩))
   all_goals go_ret
   all_goals exact⟨fB (by rw[HL.o];first|rfl|(symm;rw[aA];omega)|(symm;rw[gK];omega)|(rw[decide_eq_decide];omega)),rfl⟩
theorem Vb (s:ByteArray)(h:s.size=0):fe (sb s)=false:=by
 unfold fe;rw[bn,h,Bool.and_eq_false_iff];right;rfl
theorem Va (s:ByteArray)(h:12<s.size):fe (sb s)=false:=by
 unfold fe;rw[bn,Bool.and_eq_false_iff];right;rw[gK];omega
theorem yt (s:ByteArray)(w:World)(_hs:s.size≤1000000) :
 Calls Tryz.prog 29 #[.string s] w fun e w'=>e = .returned (.bool (fe (sb s)))∧w=w':=by
 by_cases h0:s.size=0
 · have hz:=wM s h0
   have hno:=Vb s h0;have fo:=ae hno;clear hno;subst hz;clear h0 _hs;go_enter Tryz.func29,Tryz.ntmps29;go_wp2_with fail
   all_goals go_ret
   all_goals exact⟨fB fo.o.symm,rfl⟩
 · have hne := yJ s h0
   have uQ:s.toList.isEmpty=false:=by cases hq:s.toList with|nil=>exact absurd hq hne|cons a l=>rfl
   by_cases h12:12<s.size
   · have hno:=Va s h12
     have fo:=ae hno;clear hno;have Sv:(12:Int)<(s.size:Int):=by omega
     clear h0;go_enter Tryz.func29,Tryz.ntmps29;go_wp2_with fail
     all_goals go_ret
     all_goals exact⟨fB fo.o.symm,rfl⟩
   · have Sv : ¬ (12:Int)<(s.size:Int):=by omega
     have hp0:0<s.size:=by omega
     obtain⟨a,ha⟩:∃a:Int,(s[0].toNat:Int)=a:=⟨_,rfl⟩;have ha1:0≤a∧a≤255:=by have:=s[0].toNat_lt;omega
     have hga:(sb s).getD 0 0=a:=by rw[yD s 0 hp0,ha]
     have FY:=ae hga;clear hga;by_cases hl:isLet a=true
     · have hin : ∀j,j<1→mZ j ((sb s).getD j 0)=true:=by
        intro j hj;have:j=0:=by omega
        subst this;rw[FY.o];unfold mZ;rw[hl];rfl
       have NL:=ae hin;clear hin;clear h0;go_enter Tryz.func29,Tryz.ntmps29;go_wp2_with (go_at_call 41;((with_reducible refine(yf _ ?_ ?_ _).mono ?_);(first|omega|skip);(first|omega|skip);rintro e w' ⟨rfl,rfl⟩))
       clear hl
       go_loopw [3] (fun i wr=>∃k:Nat,1≤k∧k≤s.size∧i = .int .i64 k∧Hid (∀j,j<k→mZ j ((sb s).getD j 0)=true)∧w=wr)
        (fun i _=>s.size - (intOf i).toNat)
       case atStart=>exact⟨1,by omega,by omega,rfl,NL,rfl⟩
       case round =>
        obtain⟨k,hk1,hk,rfl,HG,rfl⟩:=hrel;by_cases hlt:k<s.size
        · have hki:(k:Int)<(s.size:Int):=by omega
          obtain⟨b,hb⟩:∃b:Int,(s[k].toNat:Int)=b:=⟨_,rfl⟩;have hb1:0≤b∧b≤255:=by have:=s[k].toNat_lt;omega
          have hgb:(sb s).getD k 0=b:=by rw[yD s k hlt,hb]
          have qU:=ae hgb;clear hgb;by_cases hl:isLet b=true
          · go_wp2_with (first
             | (go_at_call 41;((with_reducible refine(yf _ ?_ ?_ _).mono ?_);(first|omega|skip);(first|omega|skip);rintro e w' ⟨rfl,rfl⟩)))
            go_roundw
            case rel =>
             refine⟨k+1,by omega,by omega,by go_num,ae ?_,by trivial⟩;intro j hj;by_cases h1:j<k
             · exact HG.o j h1
             · rw[show j=k from by omega,qU.o];unfold mZ;rw[hl,Bool.true_or]
            case measure=>simp[intOf];omega
          · have hl':isLet b=false:=by simpa using hl
            clear hl;by_cases hn:isNum b=true
            · go_wp2_with (first
               | (go_at_call 41;((with_reducible refine(yf _ ?_ ?_ _).mono ?_);(first|omega|skip);(first|omega|skip);rintro e w' ⟨rfl,rfl⟩))
               | (go_at_call 42;((with_reducible refine(wm _ ?_ ?_ _).mono ?_);(first|omega|skip);(first|omega|skip);rintro e w' ⟨rfl,rfl⟩)))
              go_roundw
              case rel =>
               refine⟨k+1,by omega,by omega,by go_num,ae ?_,by trivial⟩;intro j hj;by_cases h1:j<k
               · exact HG.o j h1
               · rw[show j=k from by omega,qU.o];unfold mZ;rw[hl',hn,aL (by omega:0<k)];rfl
              case measure=>simp[intOf];omega
            · have hn':isNum b=false:=by simpa using hn
              clear hn;have hno:=KP s k hlt (by rw[qU.o];unfold mZ;rw[hl',hn',Bool.and_false];rfl);have fo:=ae hno;clear hno
              go_wp2_with (first
               | (go_at_call 41;((with_reducible refine(yf _ ?_ ?_ _).mono ?_);(first|omega|skip);(first|omega|skip);rintro e w' ⟨rfl,rfl⟩))
               | (go_at_call 42;((with_reducible refine(wm _ ?_ ?_ _).mono ?_);(first|omega|skip);(first|omega|skip);rintro e w' ⟨rfl,rfl⟩)))
              all_goals go_ret
              all_goals exact⟨fB fo.o.symm,rfl⟩
        · have hki:¬ (k:Int)<(s.size:Int):=by omega
          have hno:=U9 s (fun j hj=>HG.o j (by omega));rw[aL (by omega)]at hno;have fo:=ae hno;clear hno;go_wp2_with fail
          all_goals go_ret
          all_goals exact⟨fB fo.o.symm,rfl⟩
     · have hl':isLet a=false:=by simpa using hl
       have hno:=KP s 0 hp0 (by rw[FY.o];unfold mZ;rw[hl'];rfl);have fo:=ae hno;clear hno hl h0;go_enter Tryz.func29,Tryz.ntmps29;go_wp2_with (go_at_call 41;((with_reducible refine(yf _ ?_ ?_ _).mono ?_);(first|omega|skip);(first|omega|skip);rintro e w' ⟨rfl,rfl⟩))
       all_goals go_ret
       all_goals exact⟨fB fo.o.symm,rfl⟩
theorem QY:∀m:Nat,m<26→Utf8.encode (65+(m:Int))=strOfNums [65+(m:Int)]:=by decide +kernel
theorem IE (x:Int)(h0:65≤x)(h1:x≤90):Utf8.encode x=strOfNums [x]:=by
 have:=QY (x - 65).toNat (by omega);rw[show(65:Int)+((x - 65).toNat:Int)=x from by omega]at this;exact this
theorem YT(a b:List Int)(A B:ByteArray)(h:A=strOfNums a)(k:B=strOfNums b):A++B=strOfNums (a++b):=by rw[h,k,A7]
def aT(w:World)(b:Nat)(d:Rd):Prop:=w.heap[b]? = some (.cells d.cells 245)
theorem aT.lt(h:aT w b d):b<w.heap.size:=(cu.1 h).1
theorem aT.drewN(h:aT w b d)(n:Nat):aT (w.drewN n) b d:=h
theorem aT.below(h:aT w b d)(hb:Below B w w')(hB:b<B):aT w' b d:=by unfold aT;rw[hb.block b hB];exact h
theorem aT.facts (h:aT w b d) :
 w.cell? ⟨b,0,none⟩=some (.string d.s)∧w.cell? ⟨b,1,none⟩=some (.int .i64 d.k)∧w.cell? ⟨b,2,none⟩=some (.string d.sh)∧w.cell? ⟨b,3,none⟩=some (.int .i64 d.c)∧w.cell? ⟨b,4,none⟩=some (.int .i64 d.r)∧w.cell? ⟨b,5,none⟩=some (.bool d.ac)∧w.cell? ⟨b,6,none⟩=some (.bool d.ar) :=
 ⟨by rw[cell_of_row w b 0 _ _ _ h];rfl,by rw[cell_of_row w b 1 _ _ _ h];rfl,by rw[cell_of_row w b 2 _ _ _ h];rfl,by rw[cell_of_row w b 3 _ _ _ h];rfl,by rw[cell_of_row w b 4 _ _ _ h];rfl,by rw[cell_of_row w b 5 _ _ _ h];rfl,by rw[cell_of_row w b 6 _ _ _ h];rfl⟩
theorem aT.frozen(h:aT w b d)(j:Nat):w.frozen? ⟨b,j,none⟩=false:=frozen_of_row w b j _ _ h
theorem aT.oF(h:aT w b d)(k:Nat):aT (w.setCell ⟨b,1,none⟩ (.int .i64 (k:Int))) b { d with k:=k }:=by unfold aT;rw[heap_setCell_same w b 1 _ _ _ h];rfl
theorem aT.Yb(h:aT w b d)(s:ByteArray):aT (w.setCell ⟨b,2,none⟩ (.string s)) b { d with sh:=s }:=by unfold aT;rw[heap_setCell_same w b 2 _ _ _ h];rfl
theorem aT.LU(h:aT w b d)(c:Int):aT (w.setCell ⟨b,3,none⟩ (.int .i64 c)) b { d with c:=c }:=by unfold aT;rw[heap_setCell_same w b 3 _ _ _ h];rfl
theorem aT.LV(h:aT w b d)(c:Int):aT (w.setCell ⟨b,4,none⟩ (.int .i64 c)) b { d with r:=c }:=by unfold aT;rw[heap_setCell_same w b 4 _ _ _ h];rfl
theorem aT.X8(h:aT w b d)(x:Bool):aT (w.setCell ⟨b,5,none⟩ (.bool x)) b { d with ac:=x }:=by unfold aT;rw[heap_setCell_same w b 5 _ _ _ h];rfl
theorem aT.X9(h:aT w b d)(x:Bool):aT (w.setCell ⟨b,6,none⟩ (.bool x)) b { d with ar:=x }:=by unfold aT;rw[heap_setCell_same w b 6 _ _ _ h];rfl
def Part (o:Option Rd)(b:Nat)(w:World)(e:Ending)(w':World):Prop :=
 w.grownBy w' (some b)∧((∃d',o=some d'∧e = .returned (.bool true)∧aT w' b d')∨(o=none∧e = .returned (.bool false)))
theorem Rt (b:Nat)(d:Rd)(w:World)(h:aT w b d)(_hs:d.s.size≤1000000)(_hk:d.k≤d.s.size) :
 Calls Tryz.prog 196 #[.pointer (some ⟨b,0,none⟩)] w (Part d.fin b w):=by
 obtain⟨c0,c1,c2,c3,c4,c5,c6⟩:=h.facts;clear c2 c3 c4 c5 c6;have HR:=ae h;clear h;by_cases hk:d.k=d.s.size
 · have hf:d.fin=some d:=by unfold Rd.fin;rw[ah hk]
   have HF:=ae hf;clear hf;have hi:((d.k:Int) == (d.s.size:Int))=true:=bI.2 (by omega);go_enter Tryz.func196,Tryz.ntmps196;go_wp2_with fail
   go_quiet (fail)
   go_wp2_with fail
   go_ret;exact⟨grownBy.bZ (grownBy.dH _ _) _,.inl ⟨d,HF.o,by simp,HR.o.drewN _⟩⟩
 · have hf:d.fin=none:=by unfold Rd.fin;rw[af hk]
   have HF:=ae hf;clear hf;have hi:((d.k:Int) == (d.s.size:Int))=false:=aB.2 (by omega);go_enter Tryz.func196,Tryz.ntmps196;go_wp2_with fail
   go_quiet (fail)
   go_wp2_with fail
   go_ret;exact⟨grownBy.bZ (grownBy.dH _ _) _,.inr ⟨HF.o,by simp⟩⟩
theorem XA (d:Rd)(h:d.k<d.s.size):d.rest.head? = some ((d.s[d.k].toNat:Nat):Int):=by
 unfold Rd.rest;rw[List.head?_drop,p8 d.s d.k h]
theorem Xz (d:Rd)(h:d.s.size≤d.k):d.rest=[]:=by
 unfold Rd.rest;rw[List.drop_eq_nil_iff,bn];exact h
theorem KD (b:Nat)(d:Rd)(w:World)(h:aT w b d)(_hs:d.s.size≤1000000)(_hk:d.k≤d.s.size) :
 Calls Tryz.prog 207 #[.pointer (some ⟨b,0,none⟩)] w fun e w'=>e = .returned (.bool d.mark)∧aT w' b { d with k:=d.k+(cZ d.mark).length }∧w.grownBy w' (some b):=by
 obtain⟨c0,c1,c2,c3,c4,c5,c6⟩:=h.facts;clear c2 c3 c4 c5 c6;have f1:=h.frozen 1;have HR:=ae h;clear h;by_cases hk:d.k=d.s.size
 · have hf:d.mark=false:=by unfold Rd.mark;rw[Xz d (by omega)];rfl
   have HF:=ae hf;clear hf;have hi:((d.k:Int) == (d.s.size:Int))=true:=bI.2 (by omega);go_enter Tryz.func207,Tryz.ntmps207;go_wp2_with fail
   go_quiet (fail)
   go_wp2_with fail
   go_ret;rw[HF.o];exact⟨rfl,HR.o.drewN _,grownBy.bZ (grownBy.dH _ _) _⟩
 · have hi:((d.k:Int) == (d.s.size:Int))=false:=aB.2 (by omega)
   have hlt:d.k<d.s.size:=by omega
   have hki:(d.k:Int)<(d.s.size:Int):=by omega
   obtain⟨a,ha⟩:∃a:Int,(d.s[d.k].toNat:Int)=a:=⟨_,rfl⟩;have ha1:0≤a∧a≤255:=by have:=d.s[d.k].toNat_lt;omega
   have hh:=XA d hlt;rw[ha]at hh;by_cases h36:a=36
   · have hf:d.mark=true:=by unfold Rd.mark;rw[hh,h36];rfl
     have HF:=ae hf;clear hf hh;have hj:(a == 36)=true:=bI.2 h36;have hj2:(a != 36)=false:=by rw[bne,hj];rfl
     clear h36;go_enter Tryz.func207,Tryz.ntmps207;go_wp2_with fail
     go_quiet (fail)
     go_wp2_with fail
     go_ret;rw[HF.o];exact⟨rfl,(HR.o.drewN _).oF (d.k+1),grownBy.dP (grownBy.bZ (grownBy.dH _ _) _) _ _⟩
   · have hf:d.mark=false:=by unfold Rd.mark;rw[hh,gK];intro h;injection h with h;exact h36 h
     have HF:=ae hf;clear hf hh;have hj:(a == 36)=false:=aB.2 h36;have hj2:(a != 36)=true:=by rw[bne,hj];rfl
     clear h36;go_enter Tryz.func207,Tryz.ntmps207;go_wp2_with fail
     go_quiet (fail)
     go_wp2_with fail
     go_ret;rw[HF.o];exact⟨rfl,HR.o.drewN _,grownBy.bZ (grownBy.dH _ _) _⟩
theorem OW (b:Nat)(d:Rd)(w:World)(h:aT w b d)(_hs:d.s.size≤1000000)(_hk:d.k≤d.s.size) :
 Calls Tryz.prog 192 #[.pointer (some ⟨b,0,none⟩)] w (Part d.uC b w):=by
 have HR:=ae h;clear h;go_enter Tryz.func192,Tryz.ntmps192;go_wp2_with (go_at_call 207;((with_reducible refine(KD b d _ HR.o ?_ ?_).mono ?_);(first|omega|skip);(first|omega|skip);rintro e w1 ⟨rfl,h1,h2⟩;obtain⟨c0,c1,c2,c3,c4,c5,c6⟩:=h1.facts;have f5:=h1.frozen 5;have H1:=ae h1;clear h1;have H2:=ae h2;clear h2))
 go_ret;exact⟨grownBy.dP H2.o _ _,.inl ⟨_,rfl,rfl,H1.o.X8 _⟩⟩
theorem OX (b:Nat)(d:Rd)(w:World)(h:aT w b d)(_hs:d.s.size≤1000000)(_hk:d.k≤d.s.size) :
 Calls Tryz.prog 194 #[.pointer (some ⟨b,0,none⟩)] w (Part d.uD b w):=by
 have HR:=ae h;clear h;go_enter Tryz.func194,Tryz.ntmps194;go_wp2_with (go_at_call 207;((with_reducible refine(KD b d _ HR.o ?_ ?_).mono ?_);(first|omega|skip);(first|omega|skip);rintro e w1 ⟨rfl,h1,h2⟩;obtain⟨c0,c1,c2,c3,c4,c5,c6⟩:=h1.facts;have f6:=h1.frozen 6;have H1:=ae h1;clear h1;have H2:=ae h2;clear h2))
 go_ret;exact⟨grownBy.dP H2.o _ _,.inl ⟨_,rfl,rfl,H1.o.X9 _⟩⟩
theorem nz {f:FuncId}{args:Array Value}{v:Value}(h:Calls Tryz.prog f args (w.drewN n) fun e w'=>e = .returned v∧w.drewN n=w'):Calls Tryz.prog f args (w.drewN n) fun e w''=>e = .returned v∧∃m,w''=w.drewN m :=
 Calls.quiet_of_same (h.mono fun _ _ ⟨a,b⟩=>⟨a,b.symm⟩)
theorem aT.rV {p:Nat}(h:aT w b { d with k:=d.k+m })(hp:d.k+m=p)(n:Nat):aT ((w.drewN n).setCell ⟨b,1,none⟩ (.int .i64 ((p:Int)+1))) b { d with k:=d.k+(m+1) }:=by
 subst hp;exact(h.drewN n).oF (d.k+m+1)
theorem MB (d:Rd)(m:Nat)(h:d.k+m<d.s.size):d.rest.take (m+1)=d.rest.take m++[((d.s[d.k+m].toNat:Nat):Int)]:=by
 unfold Rd.rest;rw[List.take_add_one,List.getElem?_drop,p8 d.s _ h];rfl
theorem tC(d:Rd):d.rest.length=d.s.size - d.k:=by unfold Rd.rest;rw[jX,bn]
theorem EU (p:Int→Bool)(l:List Int)(m:Nat)(h:∀x∈l.take m,p x=true)(h2:∀x,l[m]? = some x→p x=false):l.takeWhile p=l.take m:=by
 have e:=qb p (l.take m) (l.drop m) h (fun x hx=>h2 x (by rw[List.head?_drop]at hx;exact hx));rw[List.take_append_drop]at e;exact e
theorem Mq (p:Int→Bool)(l:List Int)(m:Nat)(h:∀x∈l.take m,p x=true):l.takeWhile p=l.take m++(l.drop m).takeWhile p:=by
 have e:=Mx p (l.take m) (l.drop m) h;rw[List.take_append_drop]at e;exact e
theorem xH {p:Int→Bool}(h:∀y∈l,p y=true)(hx:p x=true):∀y∈l++[x],p y=true:=by
 intro y hy;rw[eG]at hy;rcases hy with hy|hy
 · exact h y hy
 · simp at hy;rw[hy];exact hx
def kU(l:List Int):Int:=l.foldl (fun n x=>26*n+(x - 64)) 0
theorem Qx(l:List Int)(x:Int):kU (l++[x])=26*kU l+(x - 64):=by unfold kU;rw[List.foldl_append];rfl
theorem Ij (l:List Int)(h:∀x∈l,aP x=true)(hl:l.length≤2):kU l≤702∧(l=[]∧kU l=0∧jl l=false∨0<kU l∧jl l=true∧mG l=kU l - 1):=by
 match l,hl,h with
 | [],_,_=>exact⟨by decide,.inl ⟨rfl,rfl,rfl⟩⟩
 | [a],_,h =>
   have ha:=h a (by simp);have:=mX ha;have hv:kU [a]=a - 64:=by unfold kU;simp
   have hi:jl [a]=true:=by unfold jl;simp[ha]
   refine⟨by omega,.inr ⟨by omega,hi, ?_⟩⟩;unfold mG;rw[ah hi,hv];simp;omega
 | [a,b],_,h =>
   have ha:=h a (by simp);have hb:=h b (by simp);have g1:=mX ha;have g2:=mX hb;have hv:kU [a,b]=26*(a - 64)+(b - 64):=by unfold kU;simp
   have hi:jl [a,b]=true:=by unfold jl;simp[ha,hb]
   refine⟨by omega,.inr ⟨by omega,hi, ?_⟩⟩;unfold mG;rw[ah hi,hv];simp;omega
theorem Tz(h:2<l.length):jl l=false:=by unfold jl;rw[aK (by omega),Bool.false_and]
theorem Ii (d:Rd)(m:Nat)(v:Int)(b:Nat)(w wr:World)(hv:kU (d.rest.take m)=v)(aV:∀x∈d.rest.take m,aP x=true)(hm:m≤2)(hk:d.k+m≤d.s.size)(xY:∀x,d.rest[m]? = some x→aP x=false)(e:Ending)(he:e = .returned (.bool (decide (0<v))))
 (hr:aT wr b { { d with k:=d.k+m }with c:=v - 1 }) (hg:w.grownBy wr (some b)):Part d.col b w e wr:=by
 subst he;have hsp:=EU aP d.rest m aV xY;have hlen:(d.rest.take m).length=m:=by rw[iB,tC];omega
 refine⟨hg, ?_⟩;unfold Rd.col;rw[hsp];rcases(Ij (d.rest.take m) aV (by omega)).2 with ⟨h1,h2,h3⟩|⟨h1,h2,h3⟩
 · rw[h3,af (by simp)]
   exact .inr ⟨rfl,by rw[aK (by omega)]⟩
 · rw[ah h2]
   refine .inl ⟨_,rfl,by rw[aL (by omega)], ?_⟩;rw[h3,hv,hlen];exact hr
theorem Qw (b:Nat)(d:Rd)(w:World)(h:aT w b d)(_hs:d.s.size≤1000000)(_hk:d.k≤d.s.size) :
 Calls Tryz.prog 193 #[.pointer (some ⟨b,0,none⟩)] w (Part d.col b w):=by
 have HR:=ae h;clear h;go_enter Tryz.func193,Tryz.ntmps193;go_wp2_with fail
 go_loopw [3] (fun n wr=>∃(m:Nat)(v:Int),n = .int .i64 v∧0≤v∧v≤702∧d.k+m≤d.s.size∧Hid (kU (d.rest.take m)=v∧(∀x∈d.rest.take m,aP x=true)∧m≤2)∧Hid (aT wr b { d with k:=d.k+m })∧Hid (w.grownBy wr (some b)))
  (fun n _=>800 - (intOf n).toNat)
 case atStart=>exact⟨0,0,rfl,by omega,by omega,by omega,ae ⟨rfl,by simp,by omega⟩,ae HR.o,ae (grownBy.dH _ _)⟩
 case round =>
  obtain⟨m,v,rfl,hv0,hv1,jH,HM,bX,HG⟩:=hrel;obtain⟨c0,c1,c2,c3,c4,c5,c6⟩:=bX.o.facts;have f1:=bX.o.frozen 1;have f3:=bX.o.frozen 3;clear c2 c4 c5 c6;simp only at c0 c1 c3;obtain⟨p,hp⟩:∃p:Nat,d.k+m=p:=⟨_,rfl⟩;rw[hp]at c1;by_cases hlt:p<d.s.size
  · have kX : (p:Int)<(d.s.size:Int):=by omega
    obtain⟨a,ha⟩:∃a:Int,(d.s[p].toNat:Int)=a:=⟨_,rfl⟩;have ha1:0≤a∧a≤255:=by have:=d.s[p].toNat_lt;omega
    have hnx:d.rest.take (m+1)=d.rest.take m++[a]:=by subst hp;rw[MB d m hlt,ha]
    have hat:d.rest[m]? = some a:=by subst hp;unfold Rd.rest;rw[List.getElem?_drop,p8 d.s _ hlt,ha]
    have dS:=ae hnx;clear hnx;have HAT:=ae hat;clear hat;have HP:=ae hp;clear hp;by_cases hc:aP a=true
    · have hcb := mX hc
      have tq:kU (d.rest.take (m+1))=26*v+(a - 64):=by rw[dS.o,Qx,HM.o.1]
      have aV:=xH HM.o.2.1 hc;rw[← dS.o]at aV;have qi:=ae tq;clear tq;have lC:=ae aV;clear aV;by_cases pI:702<v*26+(a - 65)+1
      · have hno:d.col=none:=by
         have h2:¬ m+1≤2:=by
          intro h2;have:=(Ij _ lC.o (by rw[iB];omega)).1;rw[qi.o]at this;omega
         have h3:jl (d.rest.takeWhile aP)=false:=by
          apply Tz;rw[Mq aP d.rest (m+1) lC.o,ax,iB,tC];have:=HP.o;omega
         unfold Rd.col;rw[h3];rfl
        have fo:=ae hno;clear hno;go_wp2_with fail
        go_quiet ((go_at_call 62;exact nz (yc _ (by omega) (by omega) _)))
        go_wp2_with fail
        go_quiet (fail)
        go_wp2_with fail
        go_ret;exact⟨grownBy.bZ HG.o _,.inr ⟨fo.o,rfl⟩⟩
      · go_wp2_with fail
        go_quiet ((go_at_call 62;exact nz (yc _ (by omega) (by omega) _)))
        go_wp2_with fail
        go_quiet (fail)
        go_wp2_with fail
        go_roundw
        case rel =>
         have hm2:m+1≤2:=by
          have h3:=HM.o.2.2;by_cases h:m=2
          · exfalso
            have hl:(d.rest.take m).length=2:=by rw[iB,tC];have:=HP.o;omega
            match hq:d.rest.take m,hl with
            | [x,y],_ =>
              have h1:=HM.o.2.1;have h4:=HM.o.1;rw[hq]at h1 h4;have g1:=mX (h1 x (by simp));have g2:=mX (h1 y (by simp));have hv:kU [x,y]=26*(x - 64)+(y - 64):=by unfold kU;simp
              omega
          · omega
         refine⟨m+1,v*26+(a - 65)+1,rfl,by omega,by omega,by have:=HP.o;omega,ae ⟨by rw[qi.o];omega,lC.o,hm2⟩,ae ?_,ae (grownBy.dP (grownBy.bZ HG.o _) _ _)⟩;exact aT.rV bX.o HP.o _
        case measure=>simp[intOf];omega
    · have hc':aP a=false:=by simpa using hc
      clear hc;have mo:=fun (e:Ending)(nH:World)=>Ii d m v b w nH HM.o.1 HM.o.2.1 HM.o.2.2 jH (fun x hx=>by rw[HAT.o]at hx;injection hx with hx;rw[← hx];exact hc') e
      have um:=ae mo;clear mo;go_wp2_with fail
      go_quiet ((go_at_call 62;exact nz (yc _ (by omega) (by omega) _)))
      go_wp2_with fail
      go_ret;exact um.o _ _ rfl ((bX.o.drewN _).LU _) (grownBy.dP (grownBy.bZ HG.o _) _ _)
  · have kX:¬ (p:Int)<(d.s.size:Int):=by omega
    have mo:=fun (e:Ending)(nH:World)=>Ii d m v b w nH HM.o.1 HM.o.2.1 HM.o.2.2 jH (fun x hx=>by have h1:=(eH.1 hx).1;rw[tC]at h1;omega) e
    have um:=ae mo;clear mo;clear hp;go_wp2_with fail
    go_quiet (fail)
    go_wp2_with fail
    go_ret;exact um.o _ _ rfl ((bX.o.drewN _).LU _) (grownBy.dP (grownBy.bZ HG.o _) _ _)
theorem LH (d:Rd)(m:Nat)(v:Int)(b:Nat)(w wr:World)(hv:bV (d.rest.take m)=v)(aV:∀x∈d.rest.take m,isNum x=true)(hz:m=0∧v=0∨1≤v∧d.rest.take m≠[]∧(d.rest.take m).head? ≠ some 48)(hv9:v≤999)(hk:d.k+m≤d.s.size)(xY:∀x,d.rest[m]? = some x→isNum x=false)(e:Ending)(he:e = .returned (.bool (decide (0<v))))
 (hr:aT wr b { { d with k:=d.k+m }with r:=v - 1 }) (hg:w.grownBy wr (some b)):Part d.row b w e wr:=by
 subst he;have hsp:=EU isNum d.rest m aV xY;have hlen:(d.rest.take m).length=m:=by rw[iB,tC];omega
 refine⟨hg, ?_⟩;unfold Rd.row;rw[hsp];rcases hz with ⟨h1,h2⟩|⟨h1,h2,h3⟩
 · have:isRow (d.rest.take m)=false:=by rw[h1];rfl
   rw[this,af (by simp)];exact .inr ⟨rfl,by rw[aK (by omega)]⟩
 · have:isRow (d.rest.take m)=true:=by unfold isRow;rw[aA];exact⟨h2,h3,by omega⟩
   rw[ah this];refine .inl ⟨_,rfl,by rw[aL (by omega)], ?_⟩;rw[hv,hlen];exact hr
theorem Sl(h:l≠[]):(l++[x]).head? = l.head? := by cases l with|nil=>exact absurd rfl h|cons a l=>rfl
theorem XG (b:Nat)(d:Rd)(w:World)(h:aT w b d)(_hs:d.s.size≤1000000)(_hk:d.k≤d.s.size) :
 Calls Tryz.prog 195 #[.pointer (some ⟨b,0,none⟩)] w (Part d.row b w):=by
 have HR:=ae h;clear h;go_enter Tryz.func195,Tryz.ntmps195;go_wp2_with fail
 go_loopw [3] (fun n wr=>∃(m:Nat)(v:Int),n = .int .i64 v∧0≤v∧v≤999∧d.k+m≤d.s.size∧Hid (bV (d.rest.take m)=v∧(∀x∈d.rest.take m,isNum x=true)∧(m=0∧v=0∨1≤v∧d.rest.take m≠[]∧(d.rest.take m).head? ≠ some 48))∧Hid (aT wr b { d with k:=d.k+m })∧Hid (w.grownBy wr (some b)))
  (fun n _=>1200 - (intOf n).toNat)
 case atStart=>exact⟨0,0,rfl,by omega,by omega,by omega,ae ⟨rfl,by simp,.inl ⟨rfl,rfl⟩⟩,ae HR.o,ae (grownBy.dH _ _)⟩
 case round =>
  obtain⟨m,v,rfl,hv0,hv1,jH,HM,bX,HG⟩:=hrel;obtain⟨c0,c1,c2,c3,c4,c5,c6⟩:=bX.o.facts;have f1:=bX.o.frozen 1;have f4:=bX.o.frozen 4;clear c2 c3 c5 c6;simp only at c0 c1 c4;obtain⟨p,hp⟩:∃p:Nat,d.k+m=p:=⟨_,rfl⟩;rw[hp]at c1;by_cases hlt:p<d.s.size
  · have kX:(p:Int)<(d.s.size:Int):=by omega
    obtain⟨a,ha⟩:∃a:Int,(d.s[p].toNat:Int)=a:=⟨_,rfl⟩;have ha1:0≤a∧a≤255:=by have:=d.s[p].toNat_lt;omega
    have hnx:d.rest.take (m+1)=d.rest.take m++[a]:=by subst hp;rw[MB d m hlt,ha]
    have hat:d.rest[m]? = some a:=by subst hp;unfold Rd.rest;rw[List.getElem?_drop,p8 d.s _ hlt,ha]
    have dS:=ae hnx;clear hnx;have HAT:=ae hat;clear hat;have HP:=ae hp;clear hp;by_cases hc:isNum a=true
    · have hcb:=oq hc
      have tq:bV (d.rest.take (m+1))=10*v+(a - 48):=by rw[dS.o,yR,HM.o.1]
      have aV:=xH HM.o.2.1 hc;rw[← dS.o]at aV;have qi:=ae tq;clear tq;have lC:=ae aV;clear aV;by_cases uL:v*10+(a - 48)=0∨999<v*10+(a - 48)
      · have hno:d.row=none:=by
         have h3:isRow (d.rest.takeWhile isNum)=false:=by
          rw[Mq isNum d.rest (m+1) lC.o];unfold isRow;rw[gK];rintro⟨_,h2,h3⟩;rcases uL with h|h
          · rcases HM.o.2.2 with ⟨hm0,_⟩|⟨hm1,_⟩
            · apply h2;rw[dS.o,hm0];simp;omega
            · omega
          · have:=yQ ((d.rest.drop (m+1)).takeWhile isNum) (d.rest.take (m+1)) (rW isNum _) (by rw[qi.o];omega)
            rw[qi.o]at this;omega
         unfold Rd.row;rw[h3];rfl
        have fo:=ae hno;clear hno;by_cases hz:v*10+(a - 48)=0
        · have hzb:(v*10+(a - 48) == 0)=true:=bI.2 hz
          clear uL hz;go_wp2_with fail
          go_quiet ((go_at_call 42;exact nz (wm _ (by omega) (by omega) _)))
          go_wp2_with fail
          go_quiet (fail)
          go_wp2_with fail
          go_ret;exact⟨grownBy.bZ HG.o _,.inr ⟨fo.o,rfl⟩⟩
        · have hzb:(v*10+(a - 48) == 0)=false:=aB.2 hz
          have h9:999<v*10+(a - 48):=by omega
          clear uL hz;go_wp2_with fail
          go_quiet ((go_at_call 42;exact nz (wm _ (by omega) (by omega) _)))
          go_wp2_with fail
          go_quiet (fail)
          go_wp2_with fail
          go_ret;exact⟨grownBy.bZ HG.o _,.inr ⟨fo.o,rfl⟩⟩
      · have hz:¬ v*10+(a - 48)=0:=by omega
        have hzb:(v*10+(a - 48) == 0)=false:=aB.2 hz;have h9:¬ 999<v*10+(a - 48):=by omega
        have h9':v*10+(a - 48)≤999:=by omega
        have h1':1≤v*10+(a - 48):=by omega
        clear uL hz;go_wp2_with fail
        go_quiet ((go_at_call 42;exact nz (wm _ (by omega) (by omega) _)))
        go_wp2_with fail
        go_quiet (fail)
        go_wp2_with fail
        go_roundw
        case rel =>
         refine⟨m+1,v*10+(a - 48),rfl,by omega,by omega,by have:=HP.o;omega,ae ⟨by rw[qi.o];omega,lC.o,.inr ⟨by omega, ?_, ?_⟩⟩,ae ?_,ae (grownBy.dP (grownBy.bZ HG.o _) _ _)⟩
         · rw[dS.o];simp
         · rw[dS.o]
           rcases HM.o.2.2 with ⟨hm0,hm1⟩|⟨_,h2,h3⟩
           · rw[hm0];simp;omega
           · rw[Sl h2];exact h3
         · exact aT.rV bX.o HP.o _
        case measure=>simp[intOf];omega
    · have hc':isNum a=false:=by simpa using hc
      clear hc;have mo:=fun (e:Ending)(nH:World)=>LH d m v b w nH HM.o.1 HM.o.2.1 HM.o.2.2 hv1 jH (fun x hx=>by rw[HAT.o]at hx;injection hx with hx;rw[← hx];exact hc') e
      have um:=ae mo;clear mo;go_wp2_with fail
      go_quiet ((go_at_call 42;exact nz (wm _ (by omega) (by omega) _)))
      go_wp2_with fail
      go_ret;exact um.o _ _ rfl ((bX.o.drewN _).LV _) (grownBy.dP (grownBy.bZ HG.o _) _ _)
  · have kX:¬ (p:Int)<(d.s.size:Int):=by omega
    have mo:=fun (e:Ending)(nH:World)=>LH d m v b w nH HM.o.1 HM.o.2.1 HM.o.2.2 hv1 jH (fun x hx=>by have h1:=(eH.1 hx).1;rw[tC]at h1;omega) e
    have um:=ae mo;clear mo;clear hp;go_wp2_with fail
    go_quiet (fail)
    go_wp2_with fail
    go_ret;exact um.o _ _ rfl ((bX.o.drewN _).LV _) (grownBy.dP (grownBy.bZ HG.o _) _ _)
end Go.Proofs.YtahjnhmidjeniaaGreatDoor
namespace Go.Proofs.YtahjnhmidjeniaaGreatDoor
open Go.RowKit
variable {s:ByteArray}{c:Int}{b k:Nat}{w w':World}{t:ai}
def kJ(c:Int):Bool:=decide (c=32)
def kz(c:Int):Bool:=isLet c||decide (c=36)
theorem Kj (c:Int)(_h0:0≤c)(_h1:c≤255)(w:World) :
 Calls Tryz.prog 112 #[.int .u8 c] w fun e w'=>e = .returned (.bool (kJ c))∧w=w':=by
 go_enter Tryz.func112,Tryz.ntmps112
 go_wp2
 all_goals go_ret
 all_goals exact⟨fB (by unfold kJ;first|rfl|(symm;rw[aA];omega)|(symm;rw[gK];omega)|(rw[decide_eq_decide];omega)),rfl⟩
theorem pW (c:Int)(_h0:0≤c)(_h1:c≤255)(w:World) :
 Calls Tryz.prog 144 #[.int .u8 c] w fun e w'=>e = .returned (.bool (isNum c))∧w=w':=by
 go_enter Tryz.func144,Tryz.ntmps144
 go_wp2
 all_goals go_ret
 all_goals exact⟨fB (by unfold isNum;first|rfl|(symm;rw[aA];omega)|(symm;rw[gK];omega)|(rw[decide_eq_decide];omega)),rfl⟩
theorem yj (c:Int)(_h0:0≤c)(_h1:c≤255)(w:World) :
 Calls Tryz.prog 175 #[.int .u8 c] w fun e w'=>e = .returned (.bool (aP c))∧w=w':=by
 go_enter Tryz.func175,Tryz.ntmps175
 go_wp2
 all_goals go_ret
 all_goals exact⟨fB (by unfold aP;first|rfl|(symm;rw[aA];omega)|(symm;rw[gK];omega)|(rw[decide_eq_decide];omega)),rfl⟩
theorem JW(h:aP c=true):kz c=true:=by unfold kz;rw[JY h];rfl
theorem Tx(h:aP c=false):kz c=decide (97≤c∧c≤122∨c=36):=by unfold kz;rw[JZ h];simp
theorem Ai :isWord c=(kz c||(isNum c||decide (c=33))):=by
 unfold isWord kz;rw[show decide (c=36∨c=33)=(decide (c=36)||decide (c=33))from by simp];cases isLet c <;> cases isNum c <;> cases decide (c=36) <;> simp
theorem sM (c:Int)(_h0:0≤c)(_h1:c≤255)(w:World) :
 Calls Tryz.prog 148 #[.int .u8 c] w fun e w'=>e = .returned (.bool (kz c))∧w=w':=by
 by_cases hc:aP c=true
 · have HL:=ae (JW hc)
   go_enter Tryz.func148,Tryz.ntmps148;go_wp2_with (go_at_call 175;((with_reducible refine(yj _ ?_ ?_ _).mono ?_);(first|omega|skip);(first|omega|skip);rintro e w' ⟨rfl,rfl⟩))
   all_goals go_ret
   all_goals exact⟨fB (by rw[HL.o]),rfl⟩
 · have hc':aP c=false:=by simpa using hc
   have HL:=ae (Tx hc');clear hc;go_enter Tryz.func148,Tryz.ntmps148;go_wp2_with (go_at_call 175;((with_reducible refine(yj _ ?_ ?_ _).mono ?_);(first|omega|skip);(first|omega|skip);rintro e w' ⟨rfl,rfl⟩))
   all_goals go_ret
   all_goals exact⟨fB (by rw[HL.o];first|rfl|(symm;rw[aA];omega)|(symm;rw[gK];omega)|(rw[Bool.eq_iff_iff];simp only[Bool.or_eq_true,aA,bI];omega)),rfl⟩
theorem J4 (c:Int)(_h0:0≤c)(_h1:c≤255)(w:World) :
 Calls Tryz.prog 176 #[.int .u8 c] w fun e w'=>e = .returned (.bool (isWord c))∧w=w':=by
 have HW:=ae (Ai (c:=c));cases hb:kz c
 · cases hn:isNum c
   · rw [hb,hn]at HW
     go_enter Tryz.func176,Tryz.ntmps176
     go_wp2_with (first
      | (go_at_call 148;((with_reducible refine(sM _ ?_ ?_ _).mono ?_);(first|omega|skip);(first|omega|skip);rintro e w' ⟨rfl,rfl⟩;rw[hb]))
      | (go_at_call 144;((with_reducible refine(pW _ ?_ ?_ _).mono ?_);(first|omega|skip);(first|omega|skip);rintro e w' ⟨rfl,rfl⟩;rw[hn])))
     all_goals go_ret
     all_goals exact⟨fB (by rw[HW.o];first|rfl|(rw[Bool.eq_iff_iff];simp only[Bool.or_eq_true,bu,Bool.false_or,aA,bI])),rfl⟩
   · rw [hb,hn]at HW
     go_enter Tryz.func176,Tryz.ntmps176
     go_wp2_with (first
      | (go_at_call 148;((with_reducible refine(sM _ ?_ ?_ _).mono ?_);(first|omega|skip);(first|omega|skip);rintro e w' ⟨rfl,rfl⟩;rw[hb]))
      | (go_at_call 144;((with_reducible refine(pW _ ?_ ?_ _).mono ?_);(first|omega|skip);(first|omega|skip);rintro e w' ⟨rfl,rfl⟩;rw[hn])))
     all_goals go_ret
     all_goals exact⟨fB (by rw[HW.o];rfl),rfl⟩
 · rw [hb]at HW
   go_enter Tryz.func176,Tryz.ntmps176
   go_wp2_with (first
    | (go_at_call 148;((with_reducible refine(sM _ ?_ ?_ _).mono ?_);(first|omega|skip);(first|omega|skip);rintro e w' ⟨rfl,rfl⟩;rw[hb])))
   all_goals go_ret
   all_goals exact⟨fB (by rw[HW.o];rfl),rfl⟩
def aQ(w:World)(b:Nat)(s:ByteArray)(k:Nat):Prop:=w.heap[b]? = some (.cells #[.string s,.int .i64 (k:Int)] 155)
theorem aQ.lt(h:aQ w b s k):b<w.heap.size:=(cu.1 h).1
theorem aQ.drewN(h:aQ w b s k)(n:Nat):aQ (w.drewN n) b s k:=h
theorem aQ.below{B:Nat}(h:aQ w b s k)(hb:Below B w w')(hB:b<B):aQ w' b s k:=by unfold aQ;rw[hb.block b hB];exact h
theorem aQ.facts (h:aQ w b s k):w.cell? ⟨b,0,none⟩=some (.string s)∧w.cell? ⟨b,1,none⟩=some (.int .i64 (k:Int)) :=
 ⟨by rw[cell_of_row w b 0 _ _ _ h];rfl,by rw[cell_of_row w b 1 _ _ _ h];rfl⟩
theorem aQ.frozen(h:aQ w b s k)(j:Nat):w.frozen? ⟨b,j,none⟩=false:=frozen_of_row w b j _ _ h
theorem aQ.oF(h:aQ w b s k)(m:Nat):aQ (w.setCell ⟨b,1,none⟩ (.int .i64 (m:Int))) b s m:=by unfold aQ;rw[heap_setCell_same w b 1 _ _ _ h];rfl
theorem aQ.rV(h:aQ w b s k):aQ (w.setCell ⟨b,1,none⟩ (.int .i64 ((k:Int)+1))) b s (k+1):=h.oF (k+1)
theorem aQ.new(w:World)(s:ByteArray):aQ (w.alloc (.cells #[.string s,.int .i64 0] 155)) w.heap.size s 0:=(gV w _).1
def nC(t:ai):Array Value:=#[.int .i64 t.kind,.string t.text,.int .i64 t.num,.string t.sh,.int .i64 t.c,.int .i64 t.r,.bool t.ac,.bool t.ar,.int .i64 t.pos]
def aC(w:World)(b:Nat)(t:ai):Prop:=w.heap[b]? = some (.cells (nC t) 130)
theorem aC.lt(h:aC w b t):b<w.heap.size:=(cu.1 h).1
theorem aC.below{B:Nat}(h:aC w b t)(hb:Below B w w')(hB:b<B):aC w' b t:=by unfold aC;rw[hb.block b hB];exact h
theorem aC.drewN(h:aC w b t)(n:Nat):aC (w.drewN n) b t:=h
theorem aC.frozen(h:aC w b t)(j:Nat):w.frozen? ⟨b,j,none⟩=false:=frozen_of_row w b j _ _ h
theorem aC.grown {c:Nat}(h:aC w b t)(hg:w.grownBy w' (some c))(hne:b≠c):aC w' b t:=by
 unfold aC;rw[hg.block b h.lt (by intro e;exact hne (dV e))];exact h
theorem aC.new(w:World)(t:ai):aC (w.alloc (.cells (nC t) 130)) w.heap.size t:=(gV w _).1
theorem MI:(Tryz.prog.info? 130).map (·.size)=some 9:=by kernel_rfl
theorem Zm (t:ai):∀v∈(nC t).toList,v.oneCell'=true:=by
 intro v hv;simp only[nC,gp,List.not_mem_nil,or_false]at hv;rcases hv with rfl|rfl|rfl|rfl|rfl|rfl|rfl|rfl|rfl <;> rfl
end Go.Proofs.YtahjnhmidjeniaaGreatDoor
namespace Go.Proofs
open Go.Shelf
def Tryz.Ug:Go.Shelf.Ren:=⟨fun|137=>206|217=>213|266=>218|n=>n,fun|9=>9|5=>5|3=>3|n=>n,fun|n=>n⟩
theorem Tryz.Uf:Go.Proofs.Lays.n137 Tryz.prog Tryz.Ug:={
 mixed:=by kernel_rfl
 f137:=Tryz.func206.trans (congrArg some (by kernel_rfl))
 f217:=Tryz.func213.trans (congrArg some (by kernel_rfl))
 f266:=Tryz.func218.trans (congrArg some (by kernel_rfl))
 t3:=Tryz.underlying3
 a3:=Tryz.isAgg3
 z3:=Tryz.sizeOf3
 v3:=Tryz.zeroValue3
 t5:=Tryz.underlying5
 a5:=Tryz.isAgg5
 z5:=Tryz.sizeOf5
 v5:=Tryz.zeroValue5
 t9:=Tryz.underlying9
 a9:=Tryz.isAgg9
 z9:=Tryz.sizeOf9
 v9:=Tryz.zeroValue9 }
open Go.RowKit in
theorem Tryz.strings_IndexByte (s:ByteArray)(c:Int)(w:World) :
 Calls Tryz.prog 206 #[.string s,.int .u8 c] w fun e w'=>e = .returned (.int .i64 (Lib.indexByte s.data.toList c.toNat.toUInt8))∧w'=w:=Any.strings_IndexByte Tryz.Uf s c w
def Tryz.Uo:Go.Shelf.Ren:=⟨fun|171=>82|243=>110|246=>143|283=>170|284=>171|285=>172|286=>173|129=>108|317=>185|318=>186|319=>187|320=>188|337=>203|338=>204|n=>n,fun|3=>3|9=>9|2=>2|4=>4|171=>223|0=>0|53=>43|37=>44|5=>5|173=>225|212=>241|51=>183|20=>20|213=>242|46=>151|232=>256|233=>257|n=>n,fun|17=>5|18=>6|19=>7|n=>n⟩
theorem Tryz.Un:Go.Proofs.LaysM.n171 Tryz.prog Tryz.Uo:={
 mixed:=by kernel_rfl
 f129:=Tryz.func108.trans (congrArg some (by kernel_rfl))
 f171:=Tryz.func82.trans (congrArg some (by kernel_rfl))
 f243:=Tryz.func110.trans (congrArg some (by kernel_rfl))
 f246:=Tryz.func143.trans (congrArg some (by kernel_rfl))
 f283:=Tryz.func170.trans (congrArg some (by kernel_rfl))
 f284:=Tryz.func171.trans (congrArg some (by kernel_rfl))
 f285:=Tryz.func172.trans (congrArg some (by kernel_rfl))
 f286:=Tryz.func173.trans (congrArg some (by kernel_rfl))
 f317:=Tryz.func185.trans (congrArg some (by kernel_rfl))
 f318:=Tryz.func186.trans (congrArg some (by kernel_rfl))
 f319:=Tryz.func187.trans (congrArg some (by kernel_rfl))
 f320:=Tryz.func188.trans (congrArg some (by kernel_rfl))
 f337:=Tryz.func203.trans (congrArg some (by kernel_rfl))
 f338:=Tryz.func204.trans (congrArg some (by kernel_rfl))
 t0:=Tryz.underlying0
 a0:=Tryz.isAgg0
 z0:=Tryz.sizeOf0
 v0:=Tryz.zeroValue0
 t2:=Tryz.underlying2
 a2:=Tryz.isAgg2
 z2:=Tryz.sizeOf2
 v2:=Tryz.zeroValue2
 t3:=Tryz.underlying3
 a3:=Tryz.isAgg3
 z3:=Tryz.sizeOf3
 v3:=Tryz.zeroValue3
 t4:=Tryz.underlying4
 a4:=Tryz.isAgg4
 z4:=Tryz.sizeOf4
 v4:=Tryz.zeroValue4
 t5:=Tryz.underlying5
 a5:=Tryz.isAgg5
 z5:=Tryz.sizeOf5
 v5:=Tryz.zeroValue5
 t9:=Tryz.underlying9
 a9:=Tryz.isAgg9
 z9:=Tryz.sizeOf9
 v9:=Tryz.zeroValue9
 t20:=Tryz.underlying20
 a20:=Tryz.isAgg20
 z20:=Tryz.sizeOf20
 v20:=Tryz.zeroValue20
 t37:=Tryz.underlying44
 a37:=Tryz.isAgg44
 z37:=Tryz.sizeOf44
 v37:=Tryz.zeroValue44
 t46:=Tryz.underlying151
 a46:=Tryz.isAgg151
 z46:=Tryz.sizeOf151
 v46:=Tryz.zeroValue151
 t51:=Tryz.underlying183
 a51:=Tryz.isAgg183
 z51:=Tryz.sizeOf183
 v51:=Tryz.zeroValue183
 t53:=Tryz.underlying43
 a53:=Tryz.isAgg43
 z53:=Tryz.sizeOf43
 v53:=Tryz.zeroValue43
 t171:=Tryz.underlying223
 a171:=Tryz.isAgg223
 z171:=Tryz.sizeOf223
 v171:=Tryz.zeroValue223
 t173:=Tryz.underlying225
 a173:=Tryz.isAgg225
 z173:=Tryz.sizeOf225
 v173:=Tryz.zeroValue225
 t212:=Tryz.underlying241
 a212:=Tryz.isAgg241
 z212:=Tryz.sizeOf241
 v212:=Tryz.zeroValue241
 t213:=Tryz.underlying242
 a213:=Tryz.isAgg242
 z213:=Tryz.sizeOf242
 t232:=Tryz.underlying256
 a232:=Tryz.isAgg256
 z232:=Tryz.sizeOf256
 v232:=Tryz.zeroValue256
 t233:=Tryz.underlying257
 a233:=Tryz.isAgg257
 z233:=Tryz.sizeOf257
 v233:=Tryz.zeroValue257
 g17:=by kernel_rfl
 g18:=by kernel_rfl
 g19:=by kernel_rfl
 i0:=by kernel_rfl
 i2:=by kernel_rfl
 i3:=by kernel_rfl
 i4:=by kernel_rfl
 i5:=by kernel_rfl
 i9:=by kernel_rfl
 i20:=by kernel_rfl
 i37:=by kernel_rfl
 i46:=by kernel_rfl
 i51:=by kernel_rfl
 i53:=by kernel_rfl
 i171:=by kernel_rfl
 i173:=by kernel_rfl
 i212:=by kernel_rfl
 i232:=by kernel_rfl
 i233:=by kernel_rfl
 m17:=by kernel_rfl
 m18:=by kernel_rfl
 m19:=by kernel_rfl }
open Go.RowKit Go.Sort Go.Lib in
theorem Tryz.strconv_Itoa (n : Int) (h0 : -9223372036854775808 ≤ n) (h1 : n ≤ 9223372036854775807) (w : World) (jK : Lib.TabIs Tryz.prog w "internal/strconv.uint64pow10" .u64 Lib.pow10Tab) :
 Calls Tryz.prog 82 #[.int .i64 n] w fun e w'=>e = .returned (.string ⟨(Lib.itoa n).toArray⟩)∧∃k os,w'=grow (w.drewN k) os:=Any.strconv_Itoa Tryz.Un n h0 h1 w jK
def Tryz.Um:Go.Shelf.Ren:=⟨fun|172=>109|244=>141|245=>142|247=>165|279=>166|280=>167|281=>168|282=>169|287=>182|316=>183|171=>82|205=>184|321=>201|322=>202|243=>110|246=>143|283=>170|284=>171|285=>172|286=>173|129=>108|317=>185|318=>186|319=>187|320=>188|337=>203|338=>204|n=>n,fun|9=>9|3=>3|75=>166|76=>167|4=>4|5=>5|167=>217|37=>44|0=>0|85=>218|2=>2|168=>220|53=>43|175=>234|46=>151|210=>238|127=>173|145=>253|143=>251|21=>21|171=>223|173=>225|212=>241|51=>183|20=>20|213=>242|232=>256|233=>257|80=>146|n=>n,fun|15=>3|16=>4|17=>5|18=>6|19=>7|n=>n⟩
theorem Tryz.Eb:Go.Proofs.LaysC.n172 Tryz.prog Tryz.Um:={
 mixed:=by kernel_rfl
 f129:=Tryz.func108.trans (congrArg some (by kernel_rfl))
 f171:=Tryz.func82.trans (congrArg some (by kernel_rfl))
 f172:=Tryz.func109.trans (congrArg some (by kernel_rfl))
 f205:=Tryz.func184.trans (congrArg some (by kernel_rfl))
 f243:=Tryz.func110.trans (congrArg some (by kernel_rfl))
 f244:=Tryz.func141.trans (congrArg some (by kernel_rfl))
 f245:=Tryz.func142.trans (congrArg some (by kernel_rfl))
 f246:=Tryz.func143.trans (congrArg some (by kernel_rfl))
 f247:=Tryz.func165.trans (congrArg some (by kernel_rfl))
 f279:=Tryz.func166.trans (congrArg some (by kernel_rfl))
 f280:=Tryz.func167.trans (congrArg some (by kernel_rfl))
 f281:=Tryz.func168.trans (congrArg some (by kernel_rfl))
 f282:=Tryz.func169.trans (congrArg some (by kernel_rfl))
 f283:=Tryz.func170.trans (congrArg some (by kernel_rfl))
 f284:=Tryz.func171.trans (congrArg some (by kernel_rfl))
 f285:=Tryz.func172.trans (congrArg some (by kernel_rfl))
 f286:=Tryz.func173.trans (congrArg some (by kernel_rfl))
 f287:=Tryz.func182.trans (congrArg some (by kernel_rfl))
 f316:=Tryz.func183.trans (congrArg some (by kernel_rfl))
 f317:=Tryz.func185.trans (congrArg some (by kernel_rfl))
 f318:=Tryz.func186.trans (congrArg some (by kernel_rfl))
 f319:=Tryz.func187.trans (congrArg some (by kernel_rfl))
 f320:=Tryz.func188.trans (congrArg some (by kernel_rfl))
 f321:=Tryz.func201.trans (congrArg some (by kernel_rfl))
 f322:=Tryz.func202.trans (congrArg some (by kernel_rfl))
 f337:=Tryz.func203.trans (congrArg some (by kernel_rfl))
 f338:=Tryz.func204.trans (congrArg some (by kernel_rfl))
 t0:=Tryz.underlying0
 a0:=Tryz.isAgg0
 z0:=Tryz.sizeOf0
 v0:=Tryz.zeroValue0
 t2:=Tryz.underlying2
 a2:=Tryz.isAgg2
 z2:=Tryz.sizeOf2
 v2:=Tryz.zeroValue2
 t3:=Tryz.underlying3
 a3:=Tryz.isAgg3
 z3:=Tryz.sizeOf3
 v3:=Tryz.zeroValue3
 t4:=Tryz.underlying4
 a4:=Tryz.isAgg4
 z4:=Tryz.sizeOf4
 v4:=Tryz.zeroValue4
 t5:=Tryz.underlying5
 a5:=Tryz.isAgg5
 z5:=Tryz.sizeOf5
 v5:=Tryz.zeroValue5
 t9:=Tryz.underlying9
 a9:=Tryz.isAgg9
 z9:=Tryz.sizeOf9
 v9:=Tryz.zeroValue9
 t20:=Tryz.underlying20
 a20:=Tryz.isAgg20
 z20:=Tryz.sizeOf20
 v20:=Tryz.zeroValue20
 t21:=Tryz.underlying21
 a21:=Tryz.isAgg21
 z21:=Tryz.sizeOf21
 v21:=Tryz.zeroValue21
 t37:=Tryz.underlying44
 a37:=Tryz.isAgg44
 z37:=Tryz.sizeOf44
 v37:=Tryz.zeroValue44
 t46:=Tryz.underlying151
 a46:=Tryz.isAgg151
 z46:=Tryz.sizeOf151
 v46:=Tryz.zeroValue151
 t51:=Tryz.underlying183
 a51:=Tryz.isAgg183
 z51:=Tryz.sizeOf183
 v51:=Tryz.zeroValue183
 t53:=Tryz.underlying43
 a53:=Tryz.isAgg43
 z53:=Tryz.sizeOf43
 v53:=Tryz.zeroValue43
 t75:=Tryz.underlying166
 a75:=Tryz.isAgg166
 z75:=Tryz.sizeOf166
 v75:=Tryz.zeroValue166
 t76:=Tryz.underlying167
 a76:=Tryz.isAgg167
 z76:=Tryz.sizeOf167
 v76:=Tryz.zeroValue167
 t85:=Tryz.underlying218
 a85:=Tryz.isAgg218
 z85:=Tryz.sizeOf218
 v85:=Tryz.zeroValue218
 t127:=Tryz.underlying173
 a127:=Tryz.isAgg173
 z127:=Tryz.sizeOf173
 v127:=Tryz.zeroValue173
 t143:=Tryz.underlying251
 a143:=Tryz.isAgg251
 z143:=Tryz.sizeOf251
 v143:=Tryz.zeroValue251
 t145:=Tryz.underlying253
 a145:=Tryz.isAgg253
 z145:=Tryz.sizeOf253
 v145:=Tryz.zeroValue253
 t167:=Tryz.underlying217
 a167:=Tryz.isAgg217
 z167:=Tryz.sizeOf217
 v167:=Tryz.zeroValue217
 t168:=Tryz.underlying220
 a168:=Tryz.isAgg220
 z168:=Tryz.sizeOf220
 v168:=Tryz.zeroValue220
 t171:=Tryz.underlying223
 a171:=Tryz.isAgg223
 z171:=Tryz.sizeOf223
 v171:=Tryz.zeroValue223
 t173:=Tryz.underlying225
 a173:=Tryz.isAgg225
 z173:=Tryz.sizeOf225
 v173:=Tryz.zeroValue225
 t175:=Tryz.underlying234
 a175:=Tryz.isAgg234
 z175:=Tryz.sizeOf234
 v175:=Tryz.zeroValue234
 t210:=Tryz.underlying238
 a210:=Tryz.isAgg238
 z210:=Tryz.sizeOf238
 v210:=Tryz.zeroValue238
 t212:=Tryz.underlying241
 a212:=Tryz.isAgg241
 z212:=Tryz.sizeOf241
 v212:=Tryz.zeroValue241
 t213:=Tryz.underlying242
 a213:=Tryz.isAgg242
 z213:=Tryz.sizeOf242
 t232:=Tryz.underlying256
 a232:=Tryz.isAgg256
 z232:=Tryz.sizeOf256
 v232:=Tryz.zeroValue256
 t233:=Tryz.underlying257
 a233:=Tryz.isAgg257
 z233:=Tryz.sizeOf257
 v233:=Tryz.zeroValue257
 g15:=by kernel_rfl
 g16:=by kernel_rfl
 g17:=by kernel_rfl
 g18:=by kernel_rfl
 g19:=by kernel_rfl
 t80:=Tryz.underlying146
 a80:=Tryz.isAgg146
 z80:=Tryz.sizeOf146
 v80:=Tryz.zeroValue146
 i0:=by kernel_rfl
 i2:=by kernel_rfl
 i3:=by kernel_rfl
 i4:=by kernel_rfl
 i5:=by kernel_rfl
 i9:=by kernel_rfl
 i20:=by kernel_rfl
 i21:=by kernel_rfl
 i37:=by kernel_rfl
 i46:=by kernel_rfl
 i51:=by kernel_rfl
 i53:=by kernel_rfl
 i75:=by kernel_rfl
 i76:=by kernel_rfl
 i80:=by kernel_rfl
 i85:=by kernel_rfl
 i127:=by kernel_rfl
 i143:=by kernel_rfl
 i145:=by kernel_rfl
 i167:=by kernel_rfl
 i168:=by kernel_rfl
 i171:=by kernel_rfl
 i173:=by kernel_rfl
 i175:=by kernel_rfl
 i210:=by kernel_rfl
 i212:=by kernel_rfl
 i232:=by kernel_rfl
 i233:=by kernel_rfl
 m15:=by kernel_rfl
 m16:=by kernel_rfl
 m17:=by kernel_rfl
 m18:=by kernel_rfl
 m19:=by kernel_rfl
 c0:=by kernel_rfl
 c2:=by kernel_rfl
 c3:=by kernel_rfl
 c4:=by kernel_rfl
 c5:=by kernel_rfl
 c9:=by kernel_rfl
 c20:=by kernel_rfl
 c21:=by kernel_rfl
 c37:=by kernel_rfl
 c46:=by kernel_rfl
 c51:=by kernel_rfl
 c53:=by kernel_rfl
 c75:=by kernel_rfl
 c76:=by kernel_rfl
 c80:=by kernel_rfl
 c85:=by kernel_rfl
 c127:=by kernel_rfl
 c143:=by kernel_rfl
 c145:=by kernel_rfl
 c167:=by kernel_rfl
 c168:=by kernel_rfl
 c171:=by kernel_rfl
 c173:=by kernel_rfl
 c175:=by kernel_rfl
 c210:=by kernel_rfl
 c212:=by kernel_rfl
 c213:=by kernel_rfl
 c232:=by kernel_rfl
 c233:=by kernel_rfl }
open Go.RowKit in
theorem Tryz.strconv_Atoi_ok (s:ByteArray)(Aa:s.size≤9223372036854775806)(v:Int)(h:Lib.atoiAll s.data.toList = .ok v)(w:World) :
 Calls Tryz.prog 109 #[.string s] w fun e w'=>e = .returned (.tuple #[.int .i64 v,.nilIface])∧(w'=w∨∃t,w'=Lib.bytesWorld w 5 t):=Any.strconv_Atoi_ok Tryz.Eb s Aa v h w
open Go.RowKit in
theorem Tryz.strconv_Atoi_syntax (s:ByteArray)(Dz:s.size≤281474976710656)(E:Lib.NumEnd Int)(hE:Lib.atoiAll s.data.toList=E)(hk:match E with | .ok _=>False | .range=>False|_=>True)(ev:Value)(w:World)(hv:w.cell? ⟨3,0,none⟩=some ev)(hev:ev = .nilIface∨∃te pe,ev = .iface te pe) :
 Calls Tryz.prog 109 #[.string s] w fun e w'=>∃N,e = .returned (.tuple #[.int .i64 (0),.iface 220 (.pointer (some ⟨N,0,none⟩))])∧w.heap.size≤N∧w'.heap[N]? = some (.cells #[.string ⟨#[65,116,111,105]⟩,.string s,ev] 238 (0,0))∧Below w.heap.size w w':=by
 cases E with
 | ok v=>exact hk.elim
 | range=>exact hk.elim
 | _=>exact Any.strconv_Atoi_syntax Tryz.Eb s Dz hE ev w hv hev
open Go.RowKit in
theorem Tryz.strconv_Atoi_range (s:ByteArray)(Dz:s.size≤281474976710656)(h:Lib.atoiAll s.data.toList = .range)(ev:Value)(w:World)(hv:w.cell? ⟨4,0,none⟩=some ev)(hev:ev = .nilIface∨∃te pe,ev = .iface te pe) :
 Calls Tryz.prog 109 #[.string s] w fun e w'=>∃N,e = .returned (.tuple #[.int .i64 (Lib.atoiSat s.data.toList),.iface 220 (.pointer (some ⟨N,0,none⟩))])∧w.heap.size≤N∧w'.heap[N]? = some (.cells #[.string ⟨#[65,116,111,105]⟩,.string s,ev] 238 (0,0))∧Below w.heap.size w w':=Any.strconv_Atoi_range Tryz.Eb s Dz h ev w hv hev
def Tryz.Ul:Go.Shelf.Ren:=⟨fun|99=>189|206=>205|n=>n,fun|9=>9|4=>4|3=>3|n=>n,fun|n=>n⟩
theorem Tryz.Uk:Go.Proofs.Lays.n99 Tryz.prog Tryz.Ul:={
 mixed:=by kernel_rfl
 f99:=Tryz.func189.trans (congrArg some (by kernel_rfl))
 f206:=Tryz.func205.trans (congrArg some (by kernel_rfl))
 t3:=Tryz.underlying3
 a3:=Tryz.isAgg3
 z3:=Tryz.sizeOf3
 v3:=Tryz.zeroValue3
 t4:=Tryz.underlying4
 a4:=Tryz.isAgg4
 z4:=Tryz.sizeOf4
 v4:=Tryz.zeroValue4
 t9:=Tryz.underlying9
 a9:=Tryz.isAgg9
 z9:=Tryz.sizeOf9
 v9:=Tryz.zeroValue9 }
open Go.RowKit Go.Lib in
theorem Tryz.strings_HasPrefix (s p:ByteArray)(w:World) :
 Calls Tryz.prog 189 #[.string s,.string p] w fun e w'=>e = .returned (.bool (Lib.hasPrefix s.data.toList p.data.toList))∧w'=w:=Any.strings_HasPrefix Tryz.Uk s p w
end Go.Proofs
namespace Go.Proofs.YtahjnhmidjeniaaGreatDoor
open Go.RowKit
theorem IL (s:ByteArray)(a m:Nat):sb (s.extract a (a+m))=((sb s).drop a).take m:=by
 unfold sb;rw[← List.map_drop, ← List.map_take];congr 1;rw[ByteArray.data_extract,Array.toList_extract];rw[List.extract_eq_take_drop];congr 1;omega
def aD(s:ByteArray)(k:Nat):List Int:=(sb s).drop k
theorem ng(s:ByteArray)(k:Nat):(aD s k).length=s.size - k:=by unfold aD;rw[jX,bn]
theorem wL(s:ByteArray)(k m:Nat)(h:k+m<s.size):(aD s k)[m]? = some ((s[k+m].toNat:Nat):Int):=by unfold aD;rw[List.getElem?_drop,p8 s _ h]
theorem EI (s:ByteArray)(k m:Nat)(h:k+m<s.size):(aD s k).take (m+1)=(aD s k).take m++[((s[k+m].toNat:Nat):Int)]:=by
 rw[List.take_add_one,wL s k m h];rfl
theorem Xy (s:ByteArray)(k m:Nat):s.extract k (k+m)=strOfNums ((aD s k).take m):=by
 rw[← oH (s.extract k (k+m)),IL];rfl
theorem Lx(s:ByteArray)(k m:Nat):(aD s k).drop m=aD s (k+m):=by unfold aD;rw[List.drop_drop]
theorem Lv(s:ByteArray)(k:Nat):Bytes (aD s k):=fun a ha=>p9 s a (List.mem_of_mem_drop ha)
def jO(b n:Nat)(w:World):Nat:=n - (match w.cell? ⟨b,1,none⟩with|some (.int _ m)=>m.toNat|_=>0)
theorem aQ.jO {w:World}{b:Nat}{s:ByteArray}{k:Nat}(h:aQ w b s k)(n:Nat):jO b n w=n - k:=by
 unfold Go.Proofs.YtahjnhmidjeniaaGreatDoor.jO;rw[h.facts.2];rfl
def zG (p:Int→Bool)(s:ByteArray)(b k:Nat)(w:World)(e:Ending)(w':World):Prop :=
 w.grownBy w' (some b)∧e = .returned (.string (strOfNums ((aD s k).takeWhile p)))∧aQ w' b s (k+((aD s k).takeWhile p).length)
theorem wP {p:Int→Bool}{s:ByteArray}{b k m:Nat}{w wr:World}(hg:w.grownBy wr (some b))(aV:∀x∈(aD s k).take m,p x=true)(xY:∀x,(aD s k)[m]? = some x→p x=false)(hm:k+m≤s.size)
 (hr:aQ wr b s (k+m)) (e:Ending) (he:e = .returned (.string (s.extract k (k+m)))):zG p s b k w e wr:=by
 have hsp:=EU p (aD s k) m aV xY;have hlen:((aD s k).take m).length=m:=by rw[iB,ng];omega
 refine⟨hg, ?_, ?_⟩
 · rw[hsp,he,Xy]
 · rw[hsp,hlen];exact hr
theorem ZV (b:Nat)(s:ByteArray)(k:Nat)(w:World)(h:aQ w b s k)(_hs:s.size≤1000000)(_hk:k≤s.size) :
 Calls Tryz.prog 111 #[.pointer (some ⟨b,0,none⟩),.func (.func 112) #[] #[]] w (zG kJ s b k w):=by
 have HR:=ae h;obtain⟨c0,c1⟩:=h.facts;clear h;go_enter Tryz.func111,Tryz.ntmps111;go_wp2_with fail
 clear c0 c1
 go_loopw [] (fun wr=>∃m:Nat,k+m≤s.size∧Hid (∀x∈(aD s k).take m,kJ x=true)∧Hid (aQ wr b s (k+m))∧Hid (w.grownBy wr (some b)))
  (fun wr=>jO b s.size wr)
 case atStart=>exact⟨0,by omega,ae (by simp),HR,ae (grownBy.dH _ _)⟩
 case round =>
  obtain⟨m,jH,HM,bX,HG⟩:=hrel;obtain⟨c0,c1⟩:=bX.o.facts;have f1:=bX.o.frozen 1;obtain⟨p,hp⟩:∃p:Nat,k+m=p:=⟨_,rfl⟩;rw[hp]at c1;have hz1:(0:Int)≤(k:Int):=by omega
  have hz2:(k:Int)≤(p:Int):=by omega
  have hz3:(p:Int)≤(s.size:Int):=by omega
  have x9:(0:Int)≤(p:Int):=by omega
  by_cases hlt:p<s.size
  · have kX:(p:Int)<(s.size:Int):=by omega
    obtain⟨a,ha⟩:∃a:Int,(s[p].toNat:Int)=a:=⟨_,rfl⟩;have ha1:0≤a∧a≤255:=by have:=s[p].toNat_lt;omega
    have hnx:(aD s k).take (m+1)=(aD s k).take m++[a]:=by subst hp;rw[EI s k m hlt,ha]
    have hat:(aD s k)[m]? = some a:=by subst hp;rw[wL s k m hlt,ha]
    have dS:=ae hnx;clear hnx;have HAT:=ae hat;clear hat;have HP:=ae hp;clear hp;by_cases hc:kJ a=true
    · have aV:=xH HM.o hc
      rw[← dS.o]at aV;have lC:=ae aV;clear aV;go_wp2_with fail
      go_quiet ((go_at_call 112;exact nz (Kj _ (by omega) (by omega) _)))
      go_wp2_with fail
      go_roundw
      case rel =>
       refine⟨m+1,by have:=HP.o;omega,lC,ae ?_,ae (grownBy.dP (grownBy.bZ HG.o _) _ _)⟩;rw[show k+(m+1)=p+1 from by have:=HP.o;omega];exact(bX.o.drewN _).oF (p+1)
      case measure =>
       have h1:=((bX.o.drewN nq).oF (p+1)).jO s.size;have h2:=bX.o.jO s.size;have h3:=HP.o;rw[h2];refine Nat.lt_of_le_of_lt (Nat.le_of_eq h1) (by omega)
    · have hc':kJ a=false:=by simpa using hc
      clear hc;go_wp2_with fail
      go_quiet ((go_at_call 112;exact nz (Kj _ (by omega) (by omega) _)))
      go_wp2_with fail
      go_quiet (fail)
      go_wp2_with fail
      go_ret;have h3:=HP.o;exact wP (grownBy.bZ (grownBy.bZ HG.o _) _) HM.o (fun x hx=>by rw[HAT.o]at hx;injection hx with hx;rw[← hx];exact hc') (by omega) ((bX.o.drewN _).drewN _) _ (by rw[h3];rfl)
  · have kX:¬ (p:Int)<(s.size:Int):=by omega
    have HP:=ae hp;clear hp;go_wp2_with fail
    go_quiet (fail)
    go_wp2_with fail
    go_quiet (fail)
    go_wp2_with fail
    go_ret;have h3:=HP.o;exact wP (grownBy.bZ (grownBy.bZ HG.o _) _) HM.o (fun x hx=>by have h1:=(eH.1 hx).1;rw[ng]at h1;omega) (by omega) ((bX.o.drewN _).drewN _) _ (by rw[h3];rfl)
theorem ZW (b:Nat)(s:ByteArray)(k:Nat)(w:World)(h:aQ w b s k)(_hs:s.size≤1000000)(_hk:k≤s.size) :
 Calls Tryz.prog 111 #[.pointer (some ⟨b,0,none⟩),.func (.func 144) #[] #[]] w (zG isNum s b k w):=by
 have HR:=ae h;obtain⟨c0,c1⟩:=h.facts;clear h;go_enter Tryz.func111,Tryz.ntmps111;go_wp2_with fail
 clear c0 c1
 go_loopw [] (fun wr=>∃m:Nat,k+m≤s.size∧Hid (∀x∈(aD s k).take m,isNum x=true)∧Hid (aQ wr b s (k+m))∧Hid (w.grownBy wr (some b)))
  (fun wr=>jO b s.size wr)
 case atStart=>exact⟨0,by omega,ae (by simp),HR,ae (grownBy.dH _ _)⟩
 case round =>
  obtain⟨m,jH,HM,bX,HG⟩:=hrel;obtain⟨c0,c1⟩:=bX.o.facts;have f1:=bX.o.frozen 1;obtain⟨p,hp⟩:∃p:Nat,k+m=p:=⟨_,rfl⟩;rw[hp]at c1;have hz1:(0:Int)≤(k:Int):=by omega
  have hz2:(k:Int)≤(p:Int):=by omega
  have hz3:(p:Int)≤(s.size:Int):=by omega
  have x9:(0:Int)≤(p:Int):=by omega
  by_cases hlt:p<s.size
  · have kX:(p:Int)<(s.size:Int):=by omega
    obtain⟨a,ha⟩:∃a:Int,(s[p].toNat:Int)=a:=⟨_,rfl⟩;have ha1:0≤a∧a≤255:=by have:=s[p].toNat_lt;omega
    have hnx:(aD s k).take (m+1)=(aD s k).take m++[a]:=by subst hp;rw[EI s k m hlt,ha]
    have hat:(aD s k)[m]? = some a:=by subst hp;rw[wL s k m hlt,ha]
    have dS:=ae hnx;clear hnx;have HAT:=ae hat;clear hat;have HP:=ae hp;clear hp;by_cases hc:isNum a=true
    · have aV:=xH HM.o hc
      rw[← dS.o]at aV;have lC:=ae aV;clear aV;go_wp2_with fail
      go_quiet ((go_at_call 144;exact nz (pW _ (by omega) (by omega) _)))
      go_wp2_with fail
      go_roundw
      case rel =>
       refine⟨m+1,by have:=HP.o;omega,lC,ae ?_,ae (grownBy.dP (grownBy.bZ HG.o _) _ _)⟩;rw[show k+(m+1)=p+1 from by have:=HP.o;omega];exact(bX.o.drewN _).oF (p+1)
      case measure =>
       have h1:=((bX.o.drewN nq).oF (p+1)).jO s.size;have h2:=bX.o.jO s.size;have h3:=HP.o;rw[h2];refine Nat.lt_of_le_of_lt (Nat.le_of_eq h1) (by omega)
    · have hc':isNum a=false:=by simpa using hc
      clear hc;go_wp2_with fail
      go_quiet ((go_at_call 144;exact nz (pW _ (by omega) (by omega) _)))
      go_wp2_with fail
      go_quiet (fail)
      go_wp2_with fail
      go_ret;have h3:=HP.o;exact wP (grownBy.bZ (grownBy.bZ HG.o _) _) HM.o (fun x hx=>by rw[HAT.o]at hx;injection hx with hx;rw[← hx];exact hc') (by omega) ((bX.o.drewN _).drewN _) _ (by rw[h3];rfl)
  · have kX:¬ (p:Int)<(s.size:Int):=by omega
    have HP:=ae hp;clear hp;go_wp2_with fail
    go_quiet (fail)
    go_wp2_with fail
    go_quiet (fail)
    go_wp2_with fail
    go_ret;have h3:=HP.o;exact wP (grownBy.bZ (grownBy.bZ HG.o _) _) HM.o (fun x hx=>by have h1:=(eH.1 hx).1;rw[ng]at h1;omega) (by omega) ((bX.o.drewN _).drewN _) _ (by rw[h3];rfl)
theorem ZX (b:Nat)(s:ByteArray)(k:Nat)(w:World)(h:aQ w b s k)(_hs:s.size≤1000000)(_hk:k≤s.size) :
 Calls Tryz.prog 111 #[.pointer (some ⟨b,0,none⟩),.func (.func 176) #[] #[]] w (zG isWord s b k w):=by
 have HR:=ae h;obtain⟨c0,c1⟩:=h.facts;clear h;go_enter Tryz.func111,Tryz.ntmps111;go_wp2_with fail
 clear c0 c1
 go_loopw [] (fun wr=>∃m:Nat,k+m≤s.size∧Hid (∀x∈(aD s k).take m,isWord x=true)∧Hid (aQ wr b s (k+m))∧Hid (w.grownBy wr (some b)))
  (fun wr=>jO b s.size wr)
 case atStart=>exact⟨0,by omega,ae (by simp),HR,ae (grownBy.dH _ _)⟩
 case round =>
  obtain⟨m,jH,HM,bX,HG⟩:=hrel;obtain⟨c0,c1⟩:=bX.o.facts;have f1:=bX.o.frozen 1;obtain⟨p,hp⟩:∃p:Nat,k+m=p:=⟨_,rfl⟩;rw[hp]at c1;have hz1:(0:Int)≤(k:Int):=by omega
  have hz2:(k:Int)≤(p:Int):=by omega
  have hz3:(p:Int)≤(s.size:Int):=by omega
  have x9:(0:Int)≤(p:Int):=by omega
  by_cases hlt:p<s.size
  · have kX:(p:Int)<(s.size:Int):=by omega
    obtain⟨a,ha⟩:∃a:Int,(s[p].toNat:Int)=a:=⟨_,rfl⟩;have ha1:0≤a∧a≤255:=by have:=s[p].toNat_lt;omega
    have hnx:(aD s k).take (m+1)=(aD s k).take m++[a]:=by subst hp;rw[EI s k m hlt,ha]
    have hat:(aD s k)[m]? = some a:=by subst hp;rw[wL s k m hlt,ha]
    have dS:=ae hnx;clear hnx;have HAT:=ae hat;clear hat;have HP:=ae hp;clear hp;by_cases hc:isWord a=true
    · have aV:=xH HM.o hc
      rw[← dS.o]at aV;have lC:=ae aV;clear aV;go_wp2_with fail
      go_quiet ((go_at_call 176;exact nz (J4 _ (by omega) (by omega) _)))
      go_wp2_with fail
      go_roundw
      case rel =>
       refine⟨m+1,by have:=HP.o;omega,lC,ae ?_,ae (grownBy.dP (grownBy.bZ HG.o _) _ _)⟩;rw[show k+(m+1)=p+1 from by have:=HP.o;omega];exact(bX.o.drewN _).oF (p+1)
      case measure =>
       have h1:=((bX.o.drewN nq).oF (p+1)).jO s.size;have h2:=bX.o.jO s.size;have h3:=HP.o;rw[h2];refine Nat.lt_of_le_of_lt (Nat.le_of_eq h1) (by omega)
    · have hc':isWord a=false:=by simpa using hc
      clear hc;go_wp2_with fail
      go_quiet ((go_at_call 176;exact nz (J4 _ (by omega) (by omega) _)))
      go_wp2_with fail
      go_quiet (fail)
      go_wp2_with fail
      go_ret;have h3:=HP.o;exact wP (grownBy.bZ (grownBy.bZ HG.o _) _) HM.o (fun x hx=>by rw[HAT.o]at hx;injection hx with hx;rw[← hx];exact hc') (by omega) ((bX.o.drewN _).drewN _) _ (by rw[h3];rfl)
  · have kX:¬ (p:Int)<(s.size:Int):=by omega
    have HP:=ae hp;clear hp;go_wp2_with fail
    go_quiet (fail)
    go_wp2_with fail
    go_quiet (fail)
    go_wp2_with fail
    go_ret;have h3:=HP.o;exact wP (grownBy.bZ (grownBy.bZ HG.o _) _) HM.o (fun x hx=>by have h1:=(eH.1 hx).1;rw[ng]at h1;omega) (by omega) ((bX.o.drewN _).drewN _) _ (by rw[h3];rfl)
end Go.Proofs.YtahjnhmidjeniaaGreatDoor
