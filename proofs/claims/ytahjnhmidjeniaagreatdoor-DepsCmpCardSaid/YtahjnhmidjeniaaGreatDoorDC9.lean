import Derived.Test.YtahjnhmidjeniaaGreatDoorDC8
import Derived.ChangeArms
import Derived.Test.YtahjnhmidjeniaaGreatDoorCards
import Derived.Test.YtahjnhmidjeniaaGreatDoorTie
import Derived.Shelf.Vars
import Derived.Deep.Strs
import Derived.Stop.LaidErr
import Derived.Lay
set_option maxRecDepth 100000
set_option maxHeartbeats 64000000
namespace Go.Proofs.YtahjnhmidjeniaaGreatDoor
open Go.RowKit
theorem PQ:(Tryz.prog.info? 37).map (·.size)=some 1:=by kernel_rfl
theorem Xx:Tryz.f13.results=#[.cell 0 37]:=by kernel_rfl
def dG:ByteArray:=⟨#[65]⟩
def jd:ByteArray:=⟨#[61,66,49]⟩
def jc:ByteArray:=⟨#[61,65,49]⟩
structure xD (s:aU):Prop where
 nm:s.nm=dG
 bB:s.bB=2
 rows:∃A c,s.rows=[⟨A,c,[jd,jc]⟩]
theorem Zy (w:World):Calls Tryz.prog 13 #[] w fun e w'=>Below w.heap.size w w'∧∃A s,e = .returned (.agg #[.slice A 1 1])∧fQ w' w'.heap.size (.slice A 1 1) [s]∧xD s:=by
 have hb1:=sN w (.slice none 0 0);have hk1:=gy.new w (.slice none 0 0);obtain⟨w1,hw1⟩:∃w1,w.alloc (.cells #[.slice none 0 0] 37)=w1:=⟨_,rfl⟩;rw[hw1]at hb1 hk1;have hb2:Below w1.heap.size w1 (w1.alloc (.cells #[.string jd,.string jc] 9)):=(ak _ _).alloc (aj _) _;have hr2:ic kr 9 (w1.alloc (.cells #[.string jd,.string jc] 9)) w1.heap.size [jd,jc]:=(gV w1 _).1;obtain⟨w2,hw2⟩:∃w2,w1.alloc (.cells #[.string jd,.string jc] 9)=w2:=⟨_,rfl⟩;rw[hw2]at hb2 hr2;have hb3:Below w2.heap.size w2 (w2.alloc (.cells #[.slice (some ⟨w1.heap.size,0,none⟩) 2 2] 31)):=(ak _ _).alloc (aj _) _;have hr3:ic IB 31 (w2.alloc (.cells #[.slice (some ⟨w1.heap.size,0,none⟩) 2 2] 31)) w2.heap.size [⟨some ⟨w1.heap.size,0,none⟩,2,[jd,jc]⟩]:=(gV w2 _).1;obtain⟨w3,hw3⟩:∃w3,w2.alloc (.cells #[.slice (some ⟨w1.heap.size,0,none⟩) 2 2] 31)=w3:=⟨_,rfl⟩;rw[hw3]at hb3 hr3;have hb4:Below w3.heap.size w3 (w3.alloc (.cells #[.string dG,.int .i64 2,.slice (some ⟨w2.heap.size,0,none⟩) 1 1] 29)):=(ak _ _).alloc (aj _) _;have hr4:ic IC 29 (w3.alloc (.cells #[.string dG,.int .i64 2,.slice (some ⟨w2.heap.size,0,none⟩) 1 1] 29)) w3.heap.size [⟨dG,2,some ⟨w2.heap.size,0,none⟩,1,[⟨some ⟨w1.heap.size,0,none⟩,2,[jd,jc]⟩]⟩]:=(gV w3 _).1;obtain⟨w4,hw4⟩:∃w4,w3.alloc (.cells #[.string dG,.int .i64 2,.slice (some ⟨w2.heap.size,0,none⟩) 1 1] 29)=w4:=⟨_,rfl⟩;rw[hw4]at hb4 hr4;have h12:=hb1.trans (hb2.mono hb1.size);have h13:=h12.trans (hb3.mono h12.size);have h14:=h13.trans (hb4.mono h13.size);have hk4:gy w4 w.heap.size (.slice none 0 0):=hk1.over ((hb2.trans (hb3.mono hb2.size)).trans (hb4.mono (hb2.trans (hb3.mono hb2.size)).size));have hs2:w.heap.size≠w1.heap.size:=by have:=hk1.lt;omega
 have hs3:w.heap.size≠w2.heap.size:=by have:=hk1.lt;have:=hb2.size;omega
 have hs4:w.heap.size≠w3.heap.size:=by have:=hk1.lt;have:=hb2.size;have:=hb3.size;omega
 have rJ:∀g,g≠w.heap.size→(w4.setCell ⟨w.heap.size,0,none⟩ (.slice (some ⟨w3.heap.size,0,none⟩) 1 1)).heap[g]? = w4.heap[g]? := fun g hg=>heap_setCell_other w4 ⟨w.heap.size,0,none⟩ g _ hg
 have r2:ic kr 9 (w4.setCell ⟨w.heap.size,0,none⟩ (.slice (some ⟨w3.heap.size,0,none⟩) 1 1)) w1.heap.size [jd,jc]:=(hr2.keep ((hb3.trans (hb4.mono hb3.size)).block _ hr2.lt)).keep (rJ _ (Ne.symm hs2));have r3:=(hr3.keep (hb4.block _ hr3.lt)).keep (rJ _ (Ne.symm hs3));have r4:=hr4.keep (rJ _ (Ne.symm hs4))
 have hbk:fQ (w4.setCell ⟨w.heap.size,0,none⟩ (.slice (some ⟨w3.heap.size,0,none⟩) 1 1)) (w4.setCell ⟨w.heap.size,0,none⟩ (.slice (some ⟨w3.heap.size,0,none⟩) 1 1)).heap.size (.slice (some ⟨w3.heap.size,0,none⟩) 1 1) [⟨dG,2,some ⟨w2.heap.size,0,none⟩,1,[⟨some ⟨w1.heap.size,0,none⟩,2,[jd,jc]⟩]⟩]:=by
  refine⟨(r4.own (aj _) (show 1≤maxLen by decide)).se,fun s hs => ?_⟩;rw[gX.1 hs];refine⟨(r3.own (aj _) (show 1≤maxLen by decide)).se,fun r hr => ?_⟩;rw[gX.1 hr];exact(r2.own (aj _) (show 2≤maxLen by decide)).se
 have jZ:=ae hbk;have vH:=ae (show Below w.heap.size w (w4.setCell ⟨w.heap.size,0,none⟩ (.slice (some ⟨w3.heap.size,0,none⟩) 1 1))from h14.setCell (aj _) _);have Gh:=ae (show gy (w4.setCell ⟨w.heap.size,0,none⟩ (.slice (some ⟨w3.heap.size,0,none⟩) 1 1)) w.heap.size (.slice (some ⟨w3.heap.size,0,none⟩) 1 1)by unfold gy;rw[heap_setCell_same w4 w.heap.size 0 _ _ _ hk4];rfl);have e2:w2.heap.size=w1.heap.size+1:=by rw[← hw2];simp
 have e3:w3.heap.size=w1.heap.size+1+1:=by rw[← hw3,iC,e2]
 have hX:((w1.alloc (.cells #[.string ⟨#[61,66,49]⟩,.string ⟨#[61,65,49]⟩] 9)).alloc (.cells #[.slice (some ⟨w1.heap.size,0,none⟩) 2 2] 31)).alloc (.cells #[.string ⟨#[65]⟩,.int .i64 2,.slice (some ⟨w1.heap.size+1,0,none⟩) 1 1] 29)=w4:=by
  show((w1.alloc (.cells #[.string jd,.string jc] 9)).alloc (.cells #[.slice (some ⟨w1.heap.size,0,none⟩) 2 2] 31)).alloc (.cells #[.string dG,.int .i64 2,.slice (some ⟨w1.heap.size+1,0,none⟩) 1 1] 29)=w4;rw[hw2, ← e2,hw3];exact hw4
 have m0:(((w1.alloc (.cells #[.string ⟨#[61,66,49]⟩,.string ⟨#[61,65,49]⟩] 9)).alloc (.cells #[.slice (some ⟨w1.heap.size,0,none⟩) 2 2] 31)).alloc (.cells #[.string ⟨#[65]⟩,.int .i64 2,.slice (some ⟨w1.heap.size+1,0,none⟩) 1 1] 29)).frozen? ⟨w.heap.size,0,none⟩=false:=by rw[hX];exact hk4.Em
 have c0:(((w1.alloc (.cells #[.string ⟨#[61,66,49]⟩,.string ⟨#[61,65,49]⟩] 9)).alloc (.cells #[.slice (some ⟨w1.heap.size,0,none⟩) 2 2] 31)).alloc (.cells #[.string ⟨#[65]⟩,.int .i64 2,.slice (some ⟨w1.heap.size+1,0,none⟩) 1 1] 29)).cell? ⟨w.heap.size,0,none⟩=some (.slice none 0 0):=by rw[hX];exact hk4.cell
 rw[e3]at jZ vH Gh;have HW1:=ae hw1;have OI:=ae hX;clear hb1 hk1 hw1 hb2 hr2 hw2 hb3 hr3 hw3 hb4 hr4 hw4 h12 h13 h14 hk4 hs2 hs3 hs4 rJ r2 r3 r4 hbk e2 e3 hX;go_enter Tryz.func13,Tryz.ntmps13;go_upto_region 1 with (fail)
 rw[HW1.o];go_wp2_with fail
 rw[OI.o];refine bodyPost_ret (results_cell_row Xx _ _ w.heap.size _ _ _ _ rfl Gh.o Tryz.underlying37 rfl PQ) rfl ⟨vH.o,_,_,rfl,jZ.o,⟨rfl,rfl,_,_,rfl⟩⟩
theorem YF (x:ByteArray):qJ [x]=[x]:=by
 unfold qJ;rw[List.map_singleton,List.mergeSort_singleton,List.map_singleton];show [(⟨(x.data.toList).toArray⟩:ByteArray)]=[x];simp
theorem Qz (x:ByteArray):qw [x]=[x]:=by
 unfold qw;rw[List.map_singleton,Lib.compact_all _ (fun j hj=>Lib.keeps_lt_one _ j (by simpa using hj)),List.map_singleton];show [(⟨(x.data.toList).toArray⟩:ByteArray)]=[x];simp
theorem Vl (a:aZ):qB [a]=[a.sh]:=by
 unfold qB;rw[List.map_singleton,YF,Qz]
def GZ (ns:List Nd)(c:Int):Bool:=match kg dG ns with
 | [a]=>decide (a.sh=dG∧a.f.c=c∧a.f.r=0∧a.l.c=c∧a.l.r=0)
 | _=>false
def zT (l:List Int)(c:Int):Bool:=match gH l with
 | none=>false
 | some ts=>match lh 200 ts with
   | some (.ok ns)=>decide (gm ns=l)&&GZ ns c&&decide (ns.length≤1000)
   | _=>false
theorem Rc:zT [66,49] 1=true:=by decide +kernel
theorem Rb:zT [65,49] 0=true:=by decide +kernel
theorem IK (t:ByteArray)(l:List Int)(c:Int)(hl:sb t=l)(h:t.size≤300)(hs:zT l c=true):∃(ns:List Nd)(a:aZ),lI t (.ok ns)∧gm ns=l∧kg dG ns=[a]∧(a.sh=dG∧a.f.c=c∧a.f.r=0∧a.l.c=c∧a.l.r=0)∧ns.length≤1000:=by
 subst hl;unfold zT at hs;split at hs
 · cases hs
 · rename_i ts hl
   split at hs
   · rename_i ns hp
     rw[bu,bu,aA,aA]at hs;obtain⟨⟨h1,h2⟩,h3⟩:=hs;unfold GZ at h2;split at h2
     · rename_i a ha
       exact⟨ns,a,.inr (.inr ⟨h,ts,200,hl,hp⟩),h1,ha,of_decide_eq_true h2,h3⟩
     · cases h2
   · cases hs
theorem KR (s:aU)(hs:xD s)(a:aZ)(c:Nat)(hc:c=0∨c=1)(ha:a.sh=dG∧a.f.c=(c:Int)∧a.f.r=0∧a.l.c=(c:Int)∧a.l.r=0):yu [s] [a]=[⟨dG,0,c⟩]:=by
 obtain⟨A,cp,hr⟩:=hs.rows;obtain⟨h1,h2,h3,h4,h5⟩:=ha;unfold yu;rw[Vl,fD,List.flatMap_nil,bE,h1];have hf:[s].find? (fun s=>decide (s.nm=dG))=some s:=by rw[List.find?_cons_of_pos (by simpa using hs.nm)]
 unfold mg;rw[hf];have Sn:[a].filter (fun a=>decide (a.sh=dG))=[a]:=by rw[List.filter_cons_of_pos (by simpa using h1)];rfl
 show rA ([a].filter fun a=>decide (a.sh=dG)) s.nm (s.rows.map fun r=>r.l.length)=_;rw[Sn,hr,hs.nm];show qd [a] dG [2] 1=_;unfold qd;rw[List.range_succ,List.range_zero,eY,fD,List.flatMap_nil,bE];show oD [a] dG 0 2=_;have hR:iY a ((0:Nat):Int)=true:=by unfold iY;rw[h3,h5];rfl
 have hfr:[a].filter (fun a=>iY a ((0:Nat):Int))=[a]:=by rw[List.filter_cons];simp only[hR,if_true,List.filter_nil]
 unfold oD;rw[hfr]
 have hC:∀k:Nat,([a].any fun a=>ji a (k:Int))=decide (k=c):=fun k=>by
  rw[List.any_cons,List.any_nil,Bool.or_false];unfold ji;rw[h2,h4,decide_eq_decide];omega
 simp only[hC];rcases hc with rfl|rfl <;> rfl
def qN:List aG:=[⟨dG,0,0⟩,⟨dG,0,1⟩]
def tX(s:aG):List aG:=if s.c=0 then [⟨dG,0,1⟩]else [⟨dG,0,0⟩]
theorem MS:(mJ qN tX 2).2=[1,1]:=by decide +kernel
theorem Zz (s:aU)(hs:xD s):nX (fun _=>true) [s]=qN:=by
 obtain⟨A,cp,hr⟩:=hs.rows;unfold nX;rw[fD,List.flatMap_nil,bE,hr];show nW _ s 1=_;unfold nW;rw[List.range_succ,List.range_zero,eY,fD,List.flatMap_nil,bE,hr,hs.nm];rfl
structure vR (t:ByteArray)(c:Nat)(ns:List Nd)(a:aZ):Prop where
 size:t.size=3
 kd:kd t=2
 Ld:lI (t.extract 1 t.size) (.ok ns)
 Lg:strOfNums (gm ns)=t.extract 1 t.size
 ar:kg dG ns=[a]
 at_:a.sh=dG∧a.f.c=(c:Int)∧a.f.r=0∧a.l.c=(c:Int)∧a.l.r=0
 few:ns.length≤1000
theorem ZB:∃ns a,vR jd 1 ns a:=by
 obtain⟨ns,a,h1,h2,h3,h4,h5⟩:=IK ⟨#[66,49]⟩ [66,49] 1 (by decide) (by decide) Rc;have he:jd.extract 1 jd.size=⟨#[66,49]⟩:=by decide +kernel
 exact⟨ns,a,by decide,by decide +kernel,by rw[he];exact h1,by rw[he,h2];decide +kernel,h3,h4,h5⟩
theorem ZA:∃ns a,vR jc 0 ns a:=by
 obtain⟨ns,a,h1,h2,h3,h4,h5⟩:=IK ⟨#[65,49]⟩ [65,49] 0 (by decide) (by decide) Rb;have he:jc.extract 1 jc.size=⟨#[65,49]⟩:=by decide +kernel
 exact⟨ns,a,by decide,by decide +kernel,by rw[he];exact h1,by rw[he,h2];decide +kernel,h3,h4,h5⟩
theorem vR.norm {t:ByteArray}{c:Nat}{ns:List Nd}{a:aZ}(h:vR t c ns a)(he:En++t.extract 1 t.size=t):mR t t 0 :=
 .form (by rw[h.size];decide) h.kd _ rfl ns h.Ld t (by rw[h.Lg];exact he)
theorem vR.form {t:ByteArray}{c:Nat}{ns:List Nd}{a:aZ}(h:vR t c ns a){w:World}(hx:lv w):FE w t ns:=fun w1 h1 =>
 Rz t _ (by rw[h.size];decide) (by rw[h.size];decide) h.kd rfl ns h.Ld h.Lg w1 (hx.below h1)
theorem MR {w:World}{A:Option Addr}{s:aU}(h:fQ w w.heap.size (.slice A 1 1) [s])(hs:xD s)(c:Nat)(t:ByteArray)(ht:[jd,jc][c]? = some t):FH w A 1 1 ⟨dG,0,c⟩ t:=fun w1 h1=>by
 obtain⟨R,cp,hr⟩:=hs.rows;have hc:c<2:=(eH.1 ht).1
 have ho:zD [s] dG ((0:Nat):Int) (c:Int) (some (0,s,0,⟨R,cp,[jd,jc]⟩,c)):=by
  refine⟨⟨rfl,hs.nm,fun j _ hj _=>absurd hj (Nat.not_lt_zero _)⟩,rfl,by rw[hr];rfl,rfl,hc⟩
 have hg:=RP w1 A 1 1 [s] dG ((0:Nat):Int) (c:Int) _ (h.lift h1) (by decide) ho
 have he:MX (some (0,s,0,(⟨R,cp,[jd,jc]⟩:iO),c))=t:=by
  show [jd,jc].getD c ⟨#[]⟩=t;rw[iM,ht];rfl
 rw[he]at hg;exact hg
theorem V9 (w:World)(A:Option Addr)(s:aU)(h:fQ w w.heap.size (.slice A 1 1) [s])(hs:xD s)(hx:lv w) :
 Calls Tryz.prog 9 #[.agg #[.slice A 1 1]] w fun e w'=>Below w.heap.size w w'∧∃v xs,e = .returned (.tuple #[.slice none 0 0,v])∧Own fH 23 w' w.heap.size v xs∧xs.length=2:=by
 obtain⟨R,cp,hr⟩:=hs.rows;obtain⟨n1,a1,e1⟩:=ZB;obtain⟨n2,a2,e2⟩:=ZA;have hn1:=e1.norm (by decide +kernel);have hn2:=e2.norm (by decide +kernel)
 have htx:∀t∈[s],∀r∈t.rows,∀x∈r.l,x=jd∨x=jc:=fun t ht r hrr x rO=>by
  rw[gX.1 ht,hr]at hrr;rw[gX.1 hrr]at rO
  simpa using rO
 have hok:FC [s]:=by
  refine⟨(by decide:1≤5),⟨by rw[hs.nm];decide +kernel,trivial⟩,fun t ht => ?_⟩;rw[gX.1 ht];refine⟨by rw[hs.nm];decide +kernel,by rw[hs.nm];decide,by rw[hs.bB];decide,by rw[hs.bB];decide,by rw[hr];exact(by decide:1≤24),fun r hrr => ?_⟩;rw[hr]at hrr;rw[gX.1 hrr,hs.bB];rfl
 have hsz:∀t∈[s],t.rows.length≤100∧∀r∈t.rows,r.l.length≤100:=fun t ht=>by
  rw[gX.1 ht,hr];exact⟨(by decide:1≤100),fun r hrr=>by rw[gX.1 hrr];exact(by decide:2≤100)⟩
 have xU:∀w0,Below w.heap.size w w0→Bl (fun _=>true) w0 [s]:=fun w0 h0 t ht r hrr x rO w1 h1=>by
  have hb:=h0.trans (h1.mono h0.size);rcases htx t ht r hrr x rO with rfl|rfl
  · exact(e1.form hx w1 hb).mono fun e w' ⟨g,c,l,he,_,_,hbb⟩=>⟨⟨_,he⟩,hbb⟩
  · exact(e2.form hx w1 hb).mono fun e w' ⟨g,c,l,he,_,_,hbb⟩=>⟨⟨_,he⟩,hbb⟩
 have hnd:∀w0,Below w.heap.size w w0→GM w0 A 1 1 qN tX:=fun w0 h0 q hq w1 h1=>by
  have hb:=h0.trans (h1.mono h0.size);have hk:=h.lift hb;have hx1:=hx.below hb;rcases(show q=⟨dG,0,0⟩∨q=⟨dG,0,1⟩by simpa [qN]using hq)with rfl|rfl
  · have hn:=KQ w1 A 1 1 [s] ⟨dG,0,0⟩ jd n1 hk (by decide) hsz e1.few (MR hk hs 0 jd rfl) (e1.form hx1)
    rw[show kg (aG.nm ⟨dG,0,0⟩) n1=[a1]from e1.ar,KR s hs a1 1 (.inr rfl) e1.at_]at hn;exact hn
  · have hn:=KQ w1 A 1 1 [s] ⟨dG,0,1⟩ jc n2 hk (by decide) hsz e2.few (MR hk hs 1 jc rfl) (e2.form hx1)
    rw[show kg (aG.nm ⟨dG,0,1⟩) n2=[a2]from e2.ar,KR s hs a2 0 (.inl rfl) e2.at_]at hn;exact hn
 have hsp:∀q:aG,q=⟨dG,0,0⟩∨q=⟨dG,0,1⟩→o7 q:=fun q hq=>by
  rcases hq with rfl|rfl <;> exact⟨by decide,by decide,by decide⟩
 have ho:=V8 w A 1 1 qN tX
  (fun w1 h1=>U3 w1 A 1 1 [s] (h.lift h1) hok (fun t ht r hrr x rO w2 h2=>by
    have hb:=h1.trans (h2.mono h1.size);rcases htx t ht r hrr x rO with rfl|rfl
    · exact KG jd hn1 w2 (hx.below hb)
    · exact KG jc hn2 w2 (hx.below hb)))
  (fun w1 h1=>ZR w1 A 1 1 [s] (fun _=>true) qN tX 1 (h.lift h1) (by decide) hsz (xU w1 h1) (Zz s hs)
    (fun i j q hi hj=>by
      have hi2:=(eH.1 hi).1;have hj2:=(eH.1 hj).1;have hi3:i<2:=hi2;have hj3:j<2:=hj2;rcases(show i=0∨i=1 by omega)with rfl|rfl <;> rcases(show j=0∨j=1 by omega)with rfl|rfl
      · rfl
      · rw[← hj]at hi;exact absurd (congrArg (Option.map aG.c) hi) (by decide)
      · rw[← hj]at hi;exact absurd (congrArg (Option.map aG.c) hi) (by decide)
      · rfl)
    (fun q hq=>hsp q (by simpa [qN]using hq))
    (fun q hq t ht=>hsp t (by
      unfold tX at ht;split at ht
      · exact .inr (gX.1 ht)
      · exact .inl (gX.1 ht)))
    (by decide) (fun q hq=>by unfold tX;split <;> exact aj _) (by decide) (hnd w1 h1))
  (by decide) (fun x rO=>by
    have h2:x∈(mJ qN tX 2).2:=rO;rw[MS]at h2;simp at h2;omega)
 refine ho.mono fun e w' hq => ?_
 obtain⟨hb,v,he,hv⟩:=hq;refine⟨hb,v,_,he,hv, ?_⟩;show(qK qN (mJ qN tX 2).2 2).length=2;rw[MS];rfl
theorem Pn (w:World)(hx:lv w):Calls Tryz.prog 7 #[] w fun e w'=>e = .returned (.bool true)∧Below w.heap.size w w':=by
 have HX:=ae hx;clear hx;go_enter Tryz.func7,Tryz.ntmps7
 go_wp2_with (first
  | (go_at_call 13;((with_reducible refine(Zy _).mono ?_);rintro e w1 ⟨h1,A,s,rfl,h2,h3⟩;have HB:=ae h1;have HK:=ae h2;have HT:=ae h3;clear h1 h2 h3))
  | (go_at_call 9;((with_reducible refine(V9 w1 A s HK.o HT.o (HX.o.below HB.o)).mono ?_);rintro e w2 ⟨h1,v,xs,rfl,h2,h3⟩;obtain⟨aal,cv,rfl⟩:=rU h2;rw[h3];have HB2:=ae (HB.o.trans (h1.mono HB.o.size));clear h1 h2 h3)))
 all_goals go_ret
 all_goals exact⟨rfl,HB2.o⟩
theorem Zc (w:World)(a b c:mV):∃w2,((w.alloc (.cells #[.string a.nm,.int .i64 a.r,.int .i64 a.c] 23)).alloc (.cells #[.string b.nm,.int .i64 b.r,.int .i64 b.c] 23)).alloc (.cells #[.string c.nm,.int .i64 c.r,.int .i64 c.c] 23)=w2∧Below w.heap.size w w2∧iF w2 w.heap.size a.nm a.r a.c∧iF w2 (w.heap.size+1) b.nm b.r b.c∧iF w2 (w.heap.size+1+1) c.nm c.r c.c:=by
 obtain⟨w1,hw1,hb,ha,hb1⟩:=Fh w a b;have hs:w1.heap.size=w.heap.size+1+1:=by rw[← hw1,iC,iC]
 rw[hw1];refine⟨_,rfl,hb.trans ((rz w1 c.nm c.r c.c).mono hb.size),ha.over (rz _ _ _ _),hb1.over (rz _ _ _ _), ?_⟩;have:=iF.new w1 c.nm c.r c.c;rwa[hs]at this
theorem QO (a b c:mV)(w:World)(hx:lv w)(x y z:Int)(hab:dB a b=x)(hbc:dB b c=y)(hac:dB a c=z)(uK:dB b a = -x)(hw:IntKind.i64.wrap (-x) = -x)(t1 t2 t3:Bool)(he:(a.nm.toList == b.nm.toList)=t1)(ke:(a.r == b.r)=t2)(me:(a.c == b.c)=t3)(heq:(x == 0)=(t1&&(t2&&t3)))(hor:0<x∨0<y∨z≤0) :
 Calls Tryz.prog 3 #[.agg #[.string a.nm,.int .i64 a.r,.int .i64 a.c],.agg #[.string b.nm,.int .i64 b.r,.int .i64 b.c],.agg #[.string c.nm,.int .i64 c.r,.int .i64 c.c]] w fun e w'=>e = .returned (.bool true)∧Below w.heap.size w w':=by
 obtain⟨w1,hw1,hb,ha1,hb1,hc1⟩:=Zc w a b c;have HB:=ae hb;have HX:=ae (hx.below hb)
 have iD:=ae (fun (wq:World)(hq:Below w1.heap.size w1 wq)=>(show wq.cell? ⟨w.heap.size,0,none⟩=some (.string a.nm)∧wq.cell? ⟨w.heap.size,1,none⟩=some (.int .i64 a.r)∧wq.cell? ⟨w.heap.size,2,none⟩=some (.int .i64 a.c)∧wq.cell? ⟨w.heap.size+1,0,none⟩=some (.string b.nm)∧wq.cell? ⟨w.heap.size+1,1,none⟩=some (.int .i64 b.r)∧wq.cell? ⟨w.heap.size+1,2,none⟩=some (.int .i64 b.c)∧wq.cell? ⟨w.heap.size+1+1,0,none⟩=some (.string c.nm)∧wq.cell? ⟨w.heap.size+1+1,1,none⟩=some (.int .i64 c.r)∧wq.cell? ⟨w.heap.size+1+1,2,none⟩=some (.int .i64 c.c)from by
  obtain⟨p0,p1,p2⟩:=(ha1.over hq).cells;obtain⟨q0,q1,q2⟩:=(hb1.over hq).cells;obtain⟨r0,r1,r2⟩:=(hc1.over hq).cells;exact⟨p0,p1,p2,q0,q1,q2,r0,r1,r2⟩))
 have Nr:=ae (fun W:World=>hab ▸ zQ a b W);have Nu:=ae (fun W:World=>hbc ▸ zQ b c W);have Ns:=ae (fun W:World=>hac ▸ zQ a c W);have uj:=ae (fun W:World=>uK ▸ zQ b a W);have kQ:=ae (fun W:World=>hab ▸ Qt a b W);clear hb ha1 hb1 hc1 hx hab hbc hac uK;go_enter Tryz.func3,Tryz.ntmps3;go_upto_region 1 with (fail)
 clear hw1;have HD:=ae (Below.drew (ak w1.heap.size w1))
 go_cut [7,8,9] (fun v7 v8 v9 wx=>∃jT:World,v7 = .int .i64 x∧v8 = .int .i64 y∧v9 = .int .i64 z∧jT=wx∧Hid (Below w1.heap.size w1 jT))
 case first =>
  go_region_held3 (fun wq=>wq.cell? ⟨w.heap.size,0,none⟩=some (.string a.nm)∧wq.cell? ⟨w.heap.size,1,none⟩=some (.int .i64 a.r)∧wq.cell? ⟨w.heap.size,2,none⟩=some (.int .i64 a.c)∧wq.cell? ⟨w.heap.size+1,0,none⟩=some (.string b.nm)∧wq.cell? ⟨w.heap.size+1,1,none⟩=some (.int .i64 b.r)∧wq.cell? ⟨w.heap.size+1,2,none⟩=some (.int .i64 b.c)∧wq.cell? ⟨w.heap.size+1+1,0,none⟩=some (.string c.nm)∧wq.cell? ⟨w.heap.size+1+1,1,none⟩=some (.int .i64 c.r)∧wq.cell? ⟨w.heap.size+1+1,2,none⟩=some (.int .i64 c.c)) (first|exact iD.o _ H4.o|exact iD.o _ H3.o|exact iD.o _ H2.o|exact iD.o _ HD.o) (first
   | (go_at_call 5;((with_reducible refine(Ns.o _).mono ?_);rintro e w4 ⟨rfl,h1⟩;have H4:=ae (H3.o.trans (h1.mono H3.o.size));clear h1))
   | (go_at_call 5;((with_reducible refine(Nu.o _).mono ?_);rintro e w3 ⟨rfl,h1⟩;have H3:=ae (H2.o.trans (h1.mono H2.o.size));clear h1))
   | (go_at_call 5;((with_reducible refine(Nr.o _).mono ?_);rintro e w2 ⟨rfl,h1⟩;have H2:=ae (HD.o.trans (h1.mono HD.o.size));clear h1)))
  all_goals go_wp2_with fail
  all_goals go_meet
  all_goals exact⟨_,rfl,rfl,rfl,rfl,H4⟩
 case rest =>
  obtain⟨jT,rfl,rfl,rfl,rfl,HU⟩:=hcut;obtain⟨p0,p1,p2,q0,q1,q2,r0,r1,r2⟩:=iD.o _ HU.o;have rO:(-x == -x)=true:=by simp
  have hx1:(x == x)=true:=by simp
  have hor:∃o1 o2:Bool,decide (0<x)=o1∧decide (0<y)=o2∧(o1=true∨o2=true∨z≤0):=⟨_,_,rfl,rfl,by
   rcases hor with h|h|h
   · exact .inl (aL h)
   · exact .inr (.inl (aL h))
   · exact .inr (.inr h)⟩
  obtain⟨o1,o2,ho1,ho2,hor⟩:=hor;cases t1 <;> cases t2 <;> cases t3 <;> simp only[Bool.and_true,Bool.and_false]at heq <;> cases o1 <;> cases o2 <;> simp only[decide_eq_true_eq,gK,Bool.false_eq_true,true_or,false_or,or_true]at ho1 ho2 hor
  all_goals go_wp2_with (first
   | (go_at_call 5;((with_reducible refine(uj.o _).mono ?_);rintro e w5 ⟨rfl,h1⟩;have eP:=ae (HU.o.trans (h1.mono HU.o.size));clear h1 p0 p1 p2 q0 q1 q2 r0 r1 r2;obtain⟨p0,p1,p2,q0,q1,q2,r0,r1,r2⟩:=iD.o _ eP.o))
   | (go_at_call 6;((with_reducible refine(kQ.o _).mono ?_);rintro e w6 ⟨rfl,h1⟩;have Bo:=ae (eP.o.trans (h1.mono eP.o.size));clear h1))
   | (go_at_call 7;((with_reducible refine(Pn _ ((HX.o.below Bo.o))).mono ?_);rintro e w7 ⟨rfl,h1⟩;have Nq:=ae (Bo.o.trans (h1.mono Bo.o.size));clear h1)))
  all_goals go_ret
  all_goals exact⟨rfl,HB.o.trans (Nq.o.mono HB.o.size)⟩
theorem V6 (x y z:Int):kK x y z≤0↔x<0∨(x=0∧(y<0∨(y=0∧z≤0))):=by
 unfold kK;split
 · split <;> omega
 · omega
theorem PU(x y:Int):Lib.compareInt x y<0↔x<y:=by rcases nR x y with ⟨h,k⟩|⟨h,k⟩|⟨h,k⟩ <;> rw[h] <;> omega
theorem PS(x y:Int):Lib.compareInt x y=0↔x=y:=by rcases nR x y with ⟨h,k⟩|⟨h,k⟩|⟨h,k⟩ <;> rw[h] <;> omega
theorem PT(x y:Int):Lib.compareInt x y≤0↔x≤y:=by rcases nR x y with ⟨h,k⟩|⟨h,k⟩|⟨h,k⟩ <;> rw[h] <;> omega
theorem Qn (a b:mV):dB a b≤0↔cS a.nm b.nm<0∨(cS a.nm b.nm=0∧(a.r<b.r∨(a.r=b.r∧a.c≤b.c))):=by
 unfold dB;rw[V6,PU,PS,PT]
theorem Hy(a b:ByteArray):cS b a = - cS a b:=Ig _ _
theorem Qm (a b:mV):dB b a = - dB a b:=by
 have h1:Lib.compareInt b.r a.r = - Lib.compareInt a.r b.r:=by
  rcases nR a.r b.r with ⟨h,k⟩|⟨h,k⟩|⟨h,k⟩ <;> rcases nR b.r a.r with ⟨h',k'⟩|⟨h',k'⟩|⟨h',k'⟩ <;> rw[h,h'] <;> omega
 have h2:Lib.compareInt b.c a.c = - Lib.compareInt a.c b.c:=by
  rcases nR a.c b.c with ⟨h,k⟩|⟨h,k⟩|⟨h,k⟩ <;> rcases nR b.c a.c with ⟨h',k'⟩|⟨h',k'⟩|⟨h',k'⟩ <;> rw[h,h'] <;> omega
 unfold dB;rw[Hy,h1,h2];unfold kK;split <;> split <;> (try split) <;> (try split) <;> omega
theorem Qo (a b:mV):dB a b = -1∨dB a b=0∨dB a b=1:=by
 unfold dB kK;split
 · split
   · rcases nR a.c b.c with h|h|h <;> omega
   · rcases nR a.r b.r with h|h|h <;> omega
 · rcases CS a.nm.toList b.nm.toList with h|h|h
   · exact .inl h
   · exact .inr (.inl h)
   · exact .inr (.inr h)
theorem Qq (a b:mV):(dB a b == 0)=((a.nm.toList == b.nm.toList)&&((a.r == b.r)&&(a.c == b.c))):=by
 have hi:∀x y:Int,(x == y)=(Lib.compareInt x y == 0):=fun x y=>by
  rcases nR x y with ⟨h,k⟩|⟨h,k⟩|⟨h,k⟩
  · rw[h,aB.2 (by omega)];rfl
  · rw[h,k];simp
  · rw[h,aB.2 (by omega)];rfl
 have hs:(a.nm.toList == b.nm.toList)=(cS a.nm b.nm == 0):=by
  rcases CL a.nm b.nm with ⟨h,_,k⟩|⟨h,k⟩|⟨h,_,k⟩
  · rw[h,aB.2 k];rfl
  · rw[h,k];simp
  · rw[h,aB.2 k];rfl
 rw[hs,hi a.r b.r,hi a.c b.c];unfold dB kK;by_cases h1:cS a.nm b.nm=0
 · rw[ah h1,h1]
   by_cases h2:Lib.compareInt a.r b.r=0
   · rw[ah h2,h2];simp
   · rw[af h2,aB.2 h2];rfl
 · rw[af h1,aB.2 h1];rfl
theorem Qp (a b c:mV)(h1:dB a b≤0)(h2:dB b c≤0):dB a c≤0:=by
 rw[Qn]at h1 h2 ⊢;have t:cS a.nm b.nm≤0→cS b.nm c.nm≤0→cS a.nm c.nm≤0:=Ih _ _ _
 have z:cS a.nm c.nm=0→cS b.nm c.nm = - cS a.nm b.nm:=fun h=>by
  have:=CR _ _ h;rw[← Hy a.nm b.nm];unfold cS;rw[this]
 have hab:cS a.nm b.nm≤0:=by omega
 have hbc:cS b.nm c.nm≤0:=by omega
 have hac:=t hab hbc;by_cases h0:cS a.nm c.nm=0
 · have:=z h0
   omega
 · left;omega
theorem QN (a b c:mV)(w:World)(hx:lv w) :
 Calls Tryz.prog 3 #[.agg #[.string a.nm,.int .i64 a.r,.int .i64 a.c],.agg #[.string b.nm,.int .i64 b.r,.int .i64 b.c],.agg #[.string c.nm,.int .i64 c.r,.int .i64 c.c]] w fun e w'=>e = .returned (.bool true)∧Below w.heap.size w w' :=
 QO a b c w hx _ _ _ rfl rfl rfl (Qm a b) (by rw[IntKind.wrap_i64];rcases Qo a b with h|h|h <;> rw[h] <;> decide) _ _ _ rfl rfl rfl (Qq a b) (by
  by_cases h1:0<dB a b
  · exact .inl h1
  · by_cases h2:0<dB b c
    · exact .inr (.inl h2)
    · exact .inr (.inr (Qp a b c (by omega) (by omega))))
end Go.Proofs.YtahjnhmidjeniaaGreatDoor
namespace Go.Proofs.YtahjnhmidjeniaaGreatDoor
open Go.ChangeShapes Go.WideShapes Go.ChangeAt Go.RowKit
theorem Es {l:List Value}{j:Nat}{x:Value}(h:(l.drop j).take 1=[x]):l[j]? = some x:=by
 have h1:(l.drop j)[0]? = some x:=by
  cases hd:l.drop j with
  | nil=>rw[hd]at h;cases h
  | cons a t=>rw[hd]at h;simp at h;subst h;rfl
 rw[List.getElem?_drop]at h1;exact h1
theorem Qk:Tryz.prog.cellsOf 23=3:=by kernel_rfl
theorem Ql:Tryz.prog.cellsOf 9=1:=by kernel_rfl
theorem Qi:Tryz.prog.cellsOf 3=1:=by kernel_rfl
theorem Et {H:Type}{enc:TypeId × Value→H}{W:World}{base:Nat}{v:Value}{d:DataW H}{p:List MemPlace}(hval:Value.okWide Tryz.prog W .any base 23 v)(h:DataW.Trod enc Tryz.prog W 0 (fun _=>true) true 23 v d p) :
 ∃s:mV,v = .agg #[.string s.nm,.int .i64 s.r,.int .i64 s.c]:=by
 obtain⟨cs,rfl,hsz⟩:=okWide_struct Tryz.underlying23 hval;obtain⟨fuel,hf⟩:=h;obtain⟨xs,n,_,_,hl,hlen,hg⟩:=DataW.trod_struct Tryz.underlying23 hf;have hx:∀j,j<3→∃y,xs[j]? = some y:=fun j hj=>⟨_,aX (by rw[hlen];exact hj)⟩
 obtain⟨y0,e0⟩:=hx 0 (by omega);obtain⟨y1,e1⟩:=hx 1 (by omega);obtain⟨y2,e2⟩:=hx 2 (by omega);obtain⟨s,a0,_,_⟩:=DataW.trod_string Tryz.underlying9 ((hg 0 _ rfl).trans e0);obtain⟨r,a1,_,_⟩:=DataW.trod_int Tryz.underlying3 ((hg 1 _ rfl).trans e1);obtain⟨c,a2,_,_⟩:=DataW.trod_int Tryz.underlying3 ((hg 2 _ rfl).trans e2);have k0:(cs.toList.drop 0).take (Tryz.prog.cellsOf 9)=[.string s]:=a0;have k1:(cs.toList.drop 1).take (Tryz.prog.cellsOf 3)=[.int .i64 r]:=a1;have k2:(cs.toList.drop 2).take (Tryz.prog.cellsOf 3)=[.int .i64 c]:=a2;rw[Ql]at k0;rw[Qi]at k1 k2;have b0:=Es k0;have b1:=Es k1;have b2:=Es k2;rw[Qk]at hsz;refine⟨⟨s,r,c⟩, ?_⟩;congr 1;apply Array.ext';obtain⟨l⟩:=cs
 match l,hsz with
 | [u0,u1,u2],_ =>
   simp at b0 b1 b2;rw[b0,b1,b2]
end Go.Proofs.YtahjnhmidjeniaaGreatDoor
namespace Go.Proofs.YtahjnhmidjeniaaGreatDoor
open Go.ChangeShapes Go.WideShapes Go.ChangeAt Go.RowKit
variable {held:Bool}{p:List MemPlace}{cs:List Value}{base fuel:Nat}{sp:Nat→Bool}{W w:World}
def Ba{H:Type}(bs:List (List UInt8)):DataW H := .agg (bs.map fun b => .lit (.string b))
theorem Ic {H:Type}{enc:TypeId × Value→H}{P:Program}{t e:TypeId}{n:Nat}{bs:List (List UInt8)}
 (ht:P.underlying t=some (.array n e)) (he:P.underlying e=some .string) (hce:P.cellsOf e=1) (hct:P.cellsOf t=n)
 (h:DataW.trod enc P w base sp held fuel t cs=some (Ba bs,p)):cs=bs.map fun b=>Value.string ⟨b.toArray⟩:=by
 cases fuel with
 | zero=>simp[DataW.trod]at h
 | succ fuel =>
   simp only[DataW.trod,ht,hce,hct,Nat.mul_one]at h;split at h
   · rename_i hl
     obtain⟨xs,hm,hx⟩:=Option.map_eq_some_iff.1 h
     have hxs:xs.map (·.1)=bs.map fun b=>(DataW.lit (.string b):DataW H):=by
      have:=congrArg Prod.fst hx
      simpa [Ba]using this
     have hxl:xs.length=n:=by simpa using Lib.mapM_length hm
     have hzl:bs.length=n:=by
      have:=congrArg List.length hxs;simp at this;omega
     apply List.ext_getElem?;intro i;by_cases hi:i<n
     · obtain ⟨b,hb,hf⟩:=Lib.mapM_at hm i i (by simp[hi])
       obtain⟨z,hc,rfl,_⟩:=DataW.trod_string he hf
       have h1:cs[i]? = some (.string z):=by
        have:=congrArg (·[0]?) hc
        simpa [List.getElem?_take,List.getElem?_drop]using this
       have h2:(xs.map (·.1))[i]? = some (DataW.lit (.string z.data.toList):DataW H):=by simp[hb]
       rw[hxs]at h2;simp only[List.getElem?_map,Option.map_eq_some_iff,DataW.lit.injEq,Lit.string.injEq]at h2;obtain⟨z',hz',e⟩:=h2;simp only[h1,List.getElem?_map,hz',gq,e]
     · rw[List.getElem?_eq_none (by omega),List.getElem?_eq_none (by simp;omega)]
   · cases h
def kY : List (String × DataW Unit) := [("math/bits.deBruijn32tab", Rows.laid_math_bits_deBruijn32tab), ("math/bits.deBruijn64tab", Rows.laid_math_bits_deBruijn64tab), ("internal/strconv.uint64pow10", Rows.laid_internal_strconv_uint64pow10), ("unicode/utf8.acceptRanges", Rows.laid_unicode_utf8_acceptRanges), ("strconv.ErrRange", Rows.laid_strconv_ErrRange), ("strconv.ErrSyntax", Rows.laid_strconv_ErrSyntax), ("chequer/lex.signs", Rows.laid_chequer_lex_signs), ("chequer/parse.operators", Rows.laid_chequer_parse_operators), ("chequer/show.signs", Rows.laid_chequer_show_signs), ("unicode/utf8.first", Rows.laid_unicode_utf8_first)]
theorem I4 : Tryz.prog.globalNamed "strconv.ErrRange" = some 4 := by kernel_rfl
theorem RF:(Tryz.prog.globals[(4:Nat)]?).map (·.type)=some 166:=by kernel_rfl
theorem I7 : Tryz.prog.globalNamed "chequer/lex.signs" = some 1 := by kernel_rfl
theorem RI:(Tryz.prog.globals[(1:Nat)]?).map (·.type)=some 229:=by kernel_rfl
theorem H9:Tryz.prog.cellsOf 253=1:=by kernel_rfl
theorem zP:Tryz.prog.cellsOf 9=1:=by kernel_rfl
theorem Qf:Tryz.prog.cellsOf 229=15:=by kernel_rfl
theorem star : "*" ++ "errors.errorString" = "*errors.errorString" := by decide
theorem LF (u : TypeId) (h : Tryz.prog.typeName? 3 u = some "*errors.errorString") : u = 251 :=
 typeName_ptr_named (nm := "errors.errorString") (by rw [star]; kernel_rfl) (by kernel_rfl) (by decide) u (by rw [star]; exact h)
def Ma:List (List UInt8):=[[60,62],[60,61],[62,61],[43],[45],[42],[47],[38],[61],[60],[62],[40],[41],[44],[58]]
theorem Yv:(Rows.laid_chequer_lex_signs:DataW Unit)=Ba Ma:=rfl
theorem Yu:(Ma.map fun b=>Value.string ⟨b.toArray⟩)=tO.toList:=rfl
theorem fI {P:Program}{x:String × DataW Unit}{l:List (String × DataW Unit)}(h:laidMet P (x :: l) w):laidMet P l w:=by
 obtain⟨ps,h1,h2,h3⟩:=h;obtain⟨n,d⟩:=x;obtain⟨g,t,cs,fuel,p,q,_,_,_,_,hq,rfl⟩:=h1;exact⟨q,hq,(List.nodup_append.1 h2).2.1,fun b off hm=>h3 b off (List.mem_append_right _ hm)⟩
theorem RL:(Tryz.prog.globals[5]?).map (·.type)=some 241:=by kernel_rfl
theorem PW:Tryz.prog.cellsOf 241=20:=by kernel_rfl
theorem PV:Tryz.prog.cellsOf 43=1:=by kernel_rfl
theorem Y4 (h:laidMetH Tryz.prog kY W):ik W:=by
 have h1:laidMet Tryz.prog kY W:=h;exact Lib.tabIs_of_head I9 RL Tryz.underlying241 Tryz.underlying43 PV PW (fI (fI h1))
theorem I6 : Tryz.prog.globalNamed "chequer/show.signs" = some 0 := by kernel_rfl
theorem RH:(Tryz.prog.globals[(0:Nat)]?).map (·.type)=some 213:=by kernel_rfl
theorem Qe:Tryz.prog.cellsOf 213=20:=by kernel_rfl
def L6:List (List UInt8):=[[],[],[],[],[],[],[],[],[],[61],[60,62],[60],[60,61],[62],[62,61],[38],[43],[45],[42],[47]]
theorem Yr:(Rows.laid_chequer_show_signs:DataW Unit)=Ba L6:=rfl
theorem Yq:(L6.map fun b=>Value.string ⟨b.toArray⟩)=yF.toList:=rfl
theorem Y1 (h:laidMetH Tryz.prog kY W):l9 W:=by
 have h1:laidMet Tryz.prog kY W:=h;have h6:=fI (fI (fI (fI (fI (fI (fI (fI (h1))))))));obtain⟨ps,⟨g',t',cs,fuel,p,q,hg',ht',gG,hd,_,_⟩,_⟩:=h6;obtain rfl:=dV (I6.symm.trans hg');obtain rfl:=dV (RH.symm.trans ht');rw[Yr]at hd;have hc:=Ic Tryz.underlying213 Tryz.underlying9 zP Qe hd;rw[Yq]at hc;unfold World.var? at gG;rw[I6]at gG;simp only[Option.bind_some]at gG;split at gG
 · rename_i cs' ty fr hh
   injection gG with gG;subst gG;have:cs'=yF:=Array.toList_inj.1 hc;exact⟨ty,fr,by rw[← this];exact hh⟩
 · cases gG
theorem tables (h:laidMetH Tryz.prog kY W):Vars W:=by
 have h1:laidMet Tryz.prog kY W:=h;have h4:=fI (fI (fI (fI (h1))));constructor
 · obtain⟨a0,s0,hv0, -, -, -⟩:=laid_sentinel h4 I4 RF Tryz.underlying166 LF Tryz.underlying251 Tryz.underlying253 rfl rfl Tryz.underlying9 H9 zP
   exact⟨_,by have h0:=World.var?_cell I4 hv0 0;simpa using h0,Or.inr ⟨_,_,rfl⟩⟩
 · have h6:=fI (fI h4)
   obtain⟨ps,⟨g',t',cs,fuel,p,q,hg',ht',gG,hd,_,_⟩,_⟩:=h6;obtain rfl:=dV (I7.symm.trans hg');obtain rfl:=dV (RI.symm.trans ht');rw[Yv]at hd;have hc:=Ic Tryz.underlying229 Tryz.underlying9 zP Qf hd;rw[Yu]at hc;unfold World.var? at gG;rw[I7]at gG;simp only[Option.bind_some]at gG;split at gG
   · rename_i cs' ty fr hh
     injection gG with gG;subst gG;have:cs'=tO:=Array.toList_inj.1 hc;exact⟨ty,fr,by rw[← this];exact hh⟩
   · cases gG
def opC(q:ByteArray × Nat × Int):List Value:=[.string q.1,.int .i64 (q.2.1:Int),.int .i64 q.2.2]
theorem H8:∀(L:List (ByteArray × Nat × Int))(cs:List Value),cs.length=L.length*3→(∀(i:Nat) q,L[i]? = some q→(cs.drop (i*3)).take 3=opC q)→cs=L.flatMap opC
 | [],cs,h,_=>by simpa using h
 | q :: L,cs,h,hi=>by
   have h0:=hi 0 q rfl;rw[Nat.zero_mul,List.drop_zero]at h0
   have h1:=H8 L (cs.drop 3) (by rw[jX,h,aN];omega) (fun i q' hq=>by
    have:=hi (i+1) q' (by simpa using hq);rw[Nat.succ_mul]at this;rw[List.drop_drop,Nat.add_comm 3];exact this)
   rw[fD, ← h0, ← h1,List.take_append_drop]
def wF{H:Type}(q:ByteArray × Nat × Int):DataW H := .agg [.lit (.string q.1.data.toList),.lit (.int .i64 (q.2.1:Int)),.lit (.int .i64 q.2.2)]
theorem V3:(Rows.laid_chequer_parse_operators:DataW Unit) = .agg (mE.map wF):=rfl
theorem I5 : Tryz.prog.globalNamed "chequer/parse.operators" = some 2 := by kernel_rfl
theorem RG:(Tryz.prog.globals[(2:Nat)]?).map (·.type)=some 232:=by kernel_rfl
theorem Qd:Tryz.prog.cellsOf 232=33:=by kernel_rfl
theorem Ib:Tryz.prog.cellsOf 231=3:=by kernel_rfl
theorem VW {enc:TypeId × Value→Unit}{q:ByteArray × Nat × Int}
 (h:DataW.trod enc Tryz.prog w base sp held fuel 231 cs=some (wF q,p)):cs=opC q:=by
 obtain⟨y0,y1,y2,n,hx,hl,h0,h1,h2⟩:=Go.Deep.trod_struct3 Tryz.underlying231 h;injection hx with hx _;unfold wF at hx;injection hx with hx;injection hx with e0 hx;injection hx with e1 hx;injection hx with e2 _;rw[Ib]at hl
 match cs,hl with
 | [c0,c1,c2],_ =>
   obtain⟨s,g0,g0',_⟩:=DataW.trod_string Tryz.underlying9 h0;obtain⟨n1,g1,g1',_⟩:=DataW.trod_int Tryz.underlying3 h1;obtain⟨n2,g2,g2',_⟩:=DataW.trod_int Tryz.underlying3 h2;have k0:[c0]=[Value.string s]:=g0;have k1:[c1]=[Value.int .i64 n1]:=g1;have k2:[c2]=[Value.int .i64 n2]:=g2;injection k0 with k0 _;injection k1 with k1 _;injection k2 with k2 _;rw[g0']at e0;rw[g1']at e1;rw[g2']at e2;injection e0 with e0;injection e0 with e0;injection e1 with e1;injection e1 with _ e1;injection e2 with e2;injection e2 with _ e2
   have es:s=q.1:=by
    cases s;cases hq:q.1
    rw[hq]at e0;simp only at e0;rw[Array.toList_inj.1 e0.symm]
   rw[k0,k1,k2,es, ← e1, ← e2];rfl
theorem Qj {enc:TypeId × Value→Unit}
 (h:DataW.trod enc Tryz.prog w base sp held fuel 232 cs=some (.agg (mE.map wF),p)):cs=mE.flatMap opC:=by
 obtain⟨xs,m,_,hx,hl,hxl,hi⟩:=DataW.trod_array Tryz.underlying232 h;injection hx with hx _;injection hx with hx;rw[Qd]at hl;refine H8 mE cs (by rw[hl];rfl) fun i q hq => ?_
 have hlt:=(eH.1 hq).1;have hlt:i<11:=hlt;have h1:=hi i hlt;rw[Ib]at h1;obtain⟨y,hy⟩:∃y,xs[i]? = some y:=⟨_,aX (by omega)⟩;rw[hy]at h1;have h2:(xs.map (·.1))[i]? = some y.1:=by rw[List.getElem?_map,hy];rfl
 rw[← hx,List.getElem?_map,hq]at h2;have h2:wF q=y.1:=dV h2;obtain⟨y1,y2⟩:=y;have h2:wF q=y1:=h2;subst h2;exact VW h1
theorem VN:ve.toList=mE.flatMap opC:=rfl
theorem Y0 (h:laidMetH Tryz.prog kY W):kE W:=by
 have h1:laidMet Tryz.prog kY W:=h;have h4:=fI (fI (fI (fI (fI (fI (fI (h1)))))));obtain⟨ps,⟨g',t',cs,fuel,p,q,hg',ht',gG,hd,_,_⟩,_⟩:=h4;obtain rfl:=dV (I5.symm.trans hg');obtain rfl:=dV (RG.symm.trans ht');rw[V3]at hd;have hc:=Qj hd;rw[← VN]at hc;unfold World.var? at gG;rw[I5]at gG;simp only[Option.bind_some]at gG;split at gG
 · rename_i cs' ty fr hh
   injection gG with gG;subst gG;have:cs'=ve:=Array.toList_inj.1 hc;exact⟨ty,fr,by rw[← this];exact hh⟩
 · cases gG
theorem maxOf (h:W.ShapedOpen Tryz.prog):l8 W :=
 cell_of_shapedOpen_int (g:=8) (t:=3) (zero:=#[.int .i64 0]) h (of_decide_eq_true (by kernel_rfl)) (by kernel_rfl) rfl (by kernel_rfl) (by kernel_rfl) Tryz.underlying3
theorem Y2(h:laidMetH Tryz.prog kY W)(hs:W.ShapedOpen Tryz.prog):Sx W:=⟨tables h,Y0 h,Y4 h,maxOf hs,Y1 h⟩
noncomputable def Ak (os:Os):World:=World.laidAll Tryz.prog os kY
theorem Ud(os:Os)(args:Array Value):laidMet Tryz.prog kY ((Ak os).forCall (fun _ _=>0) ⟨#[],args,[]⟩).memory:=laidMet_laidAll args (by kernel_rfl) (by kernel_rfl)
end Go.Proofs.YtahjnhmidjeniaaGreatDoor
namespace Go.Proofs.YtahjnhmidjeniaaGreatDoor
open Go.ChangeShapes Go.WideShapes Go.ChangeAt Go.RowKit
theorem I8 : Tryz.prog.globalNamed "strconv.ErrSyntax" = some 3 := by kernel_rfl
theorem RJ:(Tryz.prog.globals[(3:Nat)]?).map (·.type)=some 166:=by kernel_rfl
theorem Y3 {W:World}(h:laidMetH Tryz.prog kY W):wW W:=by
 have h1:laidMet Tryz.prog kY W:=h;have h5:=fI (fI (fI (fI (fI (h1)))));obtain⟨a0,s0,hv0, -, -, -⟩:=laid_sentinel h5 I8 RJ Tryz.underlying166 LF Tryz.underlying251 Tryz.underlying253 rfl rfl Tryz.underlying9 H9 zP;exact⟨_,by have h0:=World.var?_cell I8 hv0 0;simpa using h0,Or.inr ⟨_,_,rfl⟩⟩
theorem YZ{W:World}(h:laidMetH Tryz.prog kY W)(hs:W.ShapedOpen Tryz.prog):lv W:=⟨Y2 h hs,Y3 h⟩
end Go.Proofs.YtahjnhmidjeniaaGreatDoor
