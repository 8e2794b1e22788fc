import Derived.Test.YtdnooocmlhcpkaaGreatDoorMD2
set_option maxRecDepth 100000
set_option maxHeartbeats 64000000
namespace Go.Proofs.YtdnooocmlhcpkaaGreatDoor
open Go.RowKit
def nH (o:Option (af × Nat))(b:Nat)(s:ByteArray)(k:Nat)(w:World)(e:Ending)(w':World):Prop :=
 w.grownBy w' (some b)∧((∃t n,o=some (t,n)∧e = .returned (.tuple #[.agg (nY t),.bool true])∧bN w' b s (k+n))∨(o=none∧∃t,e = .returned (.tuple #[.agg (nY t),.bool false])))
theorem grownBy.rO {a w:World}{r:Option Nat}(h:a.grownBy w r)(ad:Addr)(v:Value)(hg:a.heap.size≤ad.block):a.grownBy (w.setCell ad v) r :=
 ⟨h.os,h.tape,h.output,by simpa using h.size,fun j hj hr=>by
  rw[gZ _ _ _ _ (by intro e;omega)];exact h.block j hj hr⟩
theorem grownBy.jH {a w:World}{r:Option Nat}{g:Nat}(h:a.grownBy w r)(hg:a.heap.size≤g)(v0 v1 v2 v3 v4 v5 v6 v7 v8:Value) :
 a.grownBy (((((((((w.setCell ⟨g,0,none⟩ v0).setCell ⟨g,1,none⟩ v1).setCell ⟨g,2,none⟩ v2).setCell ⟨g,3,none⟩ v3).setCell ⟨g,4,none⟩ v4).setCell ⟨g,5,none⟩ v5).setCell ⟨g,6,none⟩ v6).setCell ⟨g,7,none⟩ v7).setCell ⟨g,8,none⟩ v8) r :=
 grownBy.rO (grownBy.rO (grownBy.rO (grownBy.rO (grownBy.rO (grownBy.rO (grownBy.rO (grownBy.rO (grownBy.rO (h) _ _ hg) _ _ hg) _ _ hg) _ _ hg) _ _ hg) _ _ hg) _ _ hg) _ _ hg) _ _ hg
theorem bN.other {w:World}{b:Nat}{s:ByteArray}{k:Nat}(h:bN w b s k)(ad:Addr)(v:Value)(hne:ad.block≠b):bN (w.setCell ad v) b s k:=by
 unfold bN;rw[gZ _ _ _ _ (by intro e;exact hne e.symm)];exact h
theorem bN.jH {w:World}{b:Nat}{s:ByteArray}{k g:Nat}(h:bN w b s k)(hg:g≠b)(v0 v1 v2 v3 v4 v5 v6 v7 v8:Value) :
 bN (((((((((w.setCell ⟨g,0,none⟩ v0).setCell ⟨g,1,none⟩ v1).setCell ⟨g,2,none⟩ v2).setCell ⟨g,3,none⟩ v3).setCell ⟨g,4,none⟩ v4).setCell ⟨g,5,none⟩ v5).setCell ⟨g,6,none⟩ v6).setCell ⟨g,7,none⟩ v7).setCell ⟨g,8,none⟩ v8) b s k :=
 ((((((((h.other _ _ hg).other _ _ hg).other _ _ hg).other _ _ hg).other _ _ hg).other _ _ hg).other _ _ hg).other _ _ hg).other _ _ hg
theorem aC.cells {w:World}{b:Nat}{t:af}(h:aC w b t):w.cell? ⟨b,0,none⟩=some (.int .i64 t.kind)∧w.cell? ⟨b,1,none⟩=some (.string t.text)∧w.cell? ⟨b,2,none⟩=some (.int .i64 t.num)∧w.cell? ⟨b,3,none⟩=some (.string t.sh)∧w.cell? ⟨b,4,none⟩=some (.int .i64 t.c)∧w.cell? ⟨b,5,none⟩=some (.int .i64 t.r)∧w.cell? ⟨b,6,none⟩=some (.bool t.ac)∧w.cell? ⟨b,7,none⟩=some (.bool t.ar)∧w.cell? ⟨b,8,none⟩=some (.int .i64 t.pos) :=
 ⟨by rw[cell_of_row w b 0 _ _ _ h];rfl,by rw[cell_of_row w b 1 _ _ _ h];rfl,by rw[cell_of_row w b 2 _ _ _ h];rfl,by rw[cell_of_row w b 3 _ _ _ h];rfl,by rw[cell_of_row w b 4 _ _ _ h];rfl,by rw[cell_of_row w b 5 _ _ _ h];rfl,by rw[cell_of_row w b 6 _ _ _ h];rfl,by rw[cell_of_row w b 7 _ _ _ h];rfl,by rw[cell_of_row w b 8 _ _ _ h];rfl⟩
theorem aC.bK {w:World}{b:Nat}{t:af}(h:aC w b t):w.frozen? ⟨b,0,none⟩=false∧w.frozen? ⟨b,1,none⟩=false∧w.frozen? ⟨b,2,none⟩=false∧w.frozen? ⟨b,3,none⟩=false∧w.frozen? ⟨b,4,none⟩=false∧w.frozen? ⟨b,5,none⟩=false∧w.frozen? ⟨b,6,none⟩=false∧w.frozen? ⟨b,7,none⟩=false∧w.frozen? ⟨b,8,none⟩=false :=
 ⟨h.frozen 0,h.frozen 1,h.frozen 2,h.frozen 3,h.frozen 4,h.frozen 5,h.frozen 6,h.frozen 7,h.frozen 8⟩
abbrev jk:Array Value:=#[.int .i64 0,.string ⟨#[]⟩,.int .i64 0,.string ⟨#[]⟩,.int .i64 0,.int .i64 0,.bool false,.bool false,.int .i64 0]
theorem aC.zero(w:World):aC (w.alloc (.cells jk 154)) w.heap.size af.zero:=aC.new w af.zero
theorem aC.load {w:World}{b:Nat}{t:af}(h:aC w b t):(loadVar 154 ⟨b,0,none⟩).run Tryz.prog w = .ok (.agg (nY t)) w :=
 run_loadVar_row w b 154 154 _ _ _ h Tryz.underlying154 rfl Rs
theorem nT {w:World}{b:Nat}{t:af}(h:aC w b t)(fn:Func)(tmps:Array Value)(ok:Bool)(p u:Tmp)(hf:fn.results=#[.cell p 154,.tmp u])(hp:tmps.getD p undef = .pointer (some ⟨b,0,none⟩))(hu:tmps.getD u undef = .bool ok) :
 (results fn tmps).run Tryz.prog w = .ok (.tuple #[.agg (nY t),.bool ok]) w:=by
 rw[results_cell_tmp hf,hp,hu];simp[asAddr,h.load,Result.andThen]
theorem aC.set0{w:World}{b:Nat}{t:af}(h:aC w b t)(x:Int):aC (w.setCell ⟨b,0,none⟩ (.int .i64 x)) b { t with kind:=x }:=by unfold aC;rw[heap_setCell_same w b 0 _ _ _ h];rfl
theorem aC.set1{w:World}{b:Nat}{t:af}(h:aC w b t)(x:ByteArray):aC (w.setCell ⟨b,1,none⟩ (.string x)) b { t with text:=x }:=by unfold aC;rw[heap_setCell_same w b 1 _ _ _ h];rfl
theorem aC.set2{w:World}{b:Nat}{t:af}(h:aC w b t)(x:Int):aC (w.setCell ⟨b,2,none⟩ (.int .i64 x)) b { t with num:=x }:=by unfold aC;rw[heap_setCell_same w b 2 _ _ _ h];rfl
theorem aC.JS{w:World}{b:Nat}{t:af}(h:aC w b t)(x:ByteArray):aC (w.setCell ⟨b,3,none⟩ (.string x)) b { t with sh:=x }:=by unfold aC;rw[heap_setCell_same w b 3 _ _ _ h];rfl
theorem aC.acA{w:World}{b:Nat}{t:af}(h:aC w b t)(x:Int):aC (w.setCell ⟨b,4,none⟩ (.int .i64 x)) b { t with c:=x }:=by unfold aC;rw[heap_setCell_same w b 4 _ _ _ h];rfl
theorem aC.acB{w:World}{b:Nat}{t:af}(h:aC w b t)(x:Int):aC (w.setCell ⟨b,5,none⟩ (.int .i64 x)) b { t with r:=x }:=by unfold aC;rw[heap_setCell_same w b 5 _ _ _ h];rfl
theorem aC.acC{w:World}{b:Nat}{t:af}(h:aC w b t)(x:Bool):aC (w.setCell ⟨b,6,none⟩ (.bool x)) b { t with ac:=x }:=by unfold aC;rw[heap_setCell_same w b 6 _ _ _ h];rfl
theorem aC.acD{w:World}{b:Nat}{t:af}(h:aC w b t)(x:Bool):aC (w.setCell ⟨b,7,none⟩ (.bool x)) b { t with ar:=x }:=by unfold aC;rw[heap_setCell_same w b 7 _ _ _ h];rfl
theorem aC.acE{w:World}{b:Nat}{t:af}(h:aC w b t)(x:Int):aC (w.setCell ⟨b,8,none⟩ (.int .i64 x)) b { t with pos:=x }:=by unfold aC;rw[heap_setCell_same w b 8 _ _ _ h];rfl
theorem aC.gB {w:World}{b:Nat}{t0:af}(h:aC w b t0)(t:af):aC (((((((((w.setCell ⟨b,0,none⟩ (.int .i64 t.kind)).setCell ⟨b,1,none⟩ (.string t.text)).setCell ⟨b,2,none⟩ (.int .i64 t.num)).setCell ⟨b,3,none⟩ (.string t.sh)).setCell ⟨b,4,none⟩ (.int .i64 t.c)).setCell ⟨b,5,none⟩ (.int .i64 t.r)).setCell ⟨b,6,none⟩ (.bool t.ac)).setCell ⟨b,7,none⟩ (.bool t.ar)).setCell ⟨b,8,none⟩ (.int .i64 t.pos)) b t:=by
 have h9:=(((((((((h.set0 t.kind).set1 t.text).set2 t.num).JS t.sh).acA t.c).acB t.r).acC t.ac).acD t.ar).acE t.pos);exact h9
theorem G9:∀(l:List UInt8)(a:Nat)(L:List Int),a<18446744073709551616→bH L=(a:Int)→(∀c∈l,48≤c.toNat∧c.toNat≤57) →
 Lib.parseUint10 a l=if bH (L++l.map fun x=>(x.toNat:Int))<18446744073709551616 then .ok (bH (L++l.map fun x=>(x.toNat:Int))).toNat else .range
 | [],a,L,ha,hL,_=>by
   simp only[List.map_nil,fu];rw[hL,if_pos (by omega)];unfold Lib.parseUint10;simp
 | c :: l,a,L,ha,hL,h=>by
   have hc:=h c (by simp);have hv:bH (L++[(c.toNat:Int)])=10*(a:Int)+((c.toNat:Int) - 48):=by rw[xK,hL]
   have hge:=xJ (l.map fun x=>(x.toNat:Int)) (L++[(c.toNat:Int)]) (by
    intro x hx;rw[List.mem_map]at hx;obtain⟨d,hd,rfl⟩:=hx;have:=h d (by simp[hd]);unfold isNum;rw[decide_eq_true_iff];omega) (by omega)
   have e:L++(c :: l).map (fun x=>(x.toNat:Int))=L++[(c.toNat:Int)]++l.map fun x=>(x.toNat:Int):=by simp
   rw[e];unfold Lib.parseUint10;rw[if_pos hc];by_cases h1:1844674407370955162≤a
   · rw[if_pos h1,if_neg (by omega)]
   · rw [if_neg h1]
     by_cases h2:18446744073709551616≤a*10+(c.toNat - 48)
     · rw[if_pos h2,if_neg (by omega)]
     · rw[if_neg h2]
       exact G9 l (a*10+(c.toNat - 48)) (L++[(c.toNat:Int)]) (by omega) (by rw[hv];omega) (fun d hd=>h d (by simp[hd]))
theorem Ma (D:ByteArray)(h0:sb D≠[])(h:∀x∈sb D,isNum x=true):Lib.atoiAll D.data.toList=if 9223372036854775807<bH (sb D)then .range else .ok (bH (sb D)):=by
 have hsb:sb D=D.data.toList.map fun x=>(x.toNat:Int):=rfl
 have hpos:=xJ (sb D) [] h (by decide);rw[fQ,show bH []=0 from rfl]at hpos;rw[hsb]at h0 h hpos ⊢;cases hl:D.data.toList with
 | nil=>rw[hl]at h0;exact absurd rfl h0
 | cons c r =>
   rw[hl]at h hpos
   have hall:∀d∈c :: r,48≤d.toNat∧d.toNat≤57:=by
    intro d hd;have:=iL (h (d.toNat:Int) (List.mem_map_of_mem (f:=fun x:UInt8=>(x.toNat:Int)) hd));omega
   have hc:=hall c (by simp);unfold Lib.atoiAll;simp only;rw[if_neg (by omega)];unfold Lib.parseMag;rw[if_neg (by simp)];rw[G9 (c :: r) 0 [] (by omega) rfl hall,fQ];have hneg:¬ c.toNat=45:=by omega
   by_cases h1:bH ((c :: r).map fun x=>(x.toNat:Int))<18446744073709551616
   · rw [if_pos h1]
     simp only[hneg,false_and,not_false_iff,true_and,if_false];by_cases h2:9223372036854775807<bH ((c :: r).map fun x=>(x.toNat:Int))
     · rw[if_pos h2,if_pos (by omega)]
     · rw[if_neg h2,if_neg (by omega)]
       congr 1;omega
   · rw[if_neg h1,if_pos (by omega)]
def wB(w:World):Prop:=∃ev,w.cell? ⟨2,0,none⟩=some ev∧(ev = .nilIface∨∃te pe,ev = .iface te pe)
theorem wB.grown {w w':World}{b:Nat}(h:wB w)(hg:w.grownBy w' (some b))(hb:2<b):wB w':=by
 obtain⟨ev,h1,h2⟩:=h;refine⟨ev, ?_,h2⟩;rw[MC hg ?_ (by intro e;have:=dX e;simp at this;omega)]
 · exact h1
 · rcases Nat.lt_or_ge 2 w.heap.size with h'|h'
   · exact h'
   · exfalso;unfold World.cell? at h1;simp only at h1;rw[Array.getElem?_eq_none h']at h1;cases h1
theorem aC.drew{w:World}{b:Nat}{t:af}(h:aC w b t):aC w.drew b t:=h
theorem bN.drew{w:World}{b:Nat}{s:ByteArray}{k:Nat}(h:bN w b s k):bN w.drew b s k:=h
theorem grownBy.drew'{a w:World}{r:Option Nat}(h:a.grownBy w r):a.grownBy w.drew r:=⟨h.os,h.tape,h.output,h.size,h.block⟩
theorem Mc (D:ByteArray)(hD:D.size≤1000000)(v:Int)(h:Lib.atoiAll D.data.toList = .ok v)(w:World):Calls Tryz.prog 138 #[.string D] w fun e w'=>e = .returned (.tuple #[.int .i64 v,.nilIface])∧Below w.heap.size w w':=by
 refine(Tryz.strconv_Atoi_ok D (by omega) v h w).mono ?_;rintro e w' ⟨rfl,rfl|⟨t,rfl⟩⟩
 · exact⟨rfl,ai _ _⟩
 · exact⟨rfl,Lib.bytesWorld_below _ _ _⟩
theorem JI:Tryz.f211.results=#[.cell 2 154,.tmp 3]:=by kernel_rfl
theorem Z5 (b:Nat)(s:ByteArray)(k:Nat)(w:World)(h:bN w b s k)(_hs:s.size≤1000000)(_hk:k<s.size)(hd:isNum ((s[k].toNat:Nat):Int)=true)(hev:wB w)(hb2:2<b) :
 Calls Tryz.prog 211 #[.pointer (some ⟨b,0,none⟩)] w (nH (jQ (ax s k)) b s k w):=by
 have hal:w.grownBy (w.alloc (.cells jk 154)) (some b):=grownBy.below' (grownBy.refl' _ _) ((ai _ _).alloc (ag _) _);have h1:bN (w.alloc (.cells jk 154)) b s k:=h.below ((ai _ _).alloc (ag _) _) h.lt;have hlt:=h.lt;have Sb:=aa (hev.grown hal hb2);clear hev;obtain⟨ds,hds⟩:∃ds,(ax s k).takeWhile isNum=ds:=⟨_,rfl⟩;obtain⟨D,hD⟩:∃D,strOfNums ds=D:=⟨_,rfl⟩;have hbd:Bytes ds:=fun x hx=>JM s k x (by rw[← hds]at hx;exact(List.takeWhile_prefix _).subset hx)
 have rz:sb D=ds:=by rw[← hD];exact gK ds hbd
 have XK:D.size=ds.length:=by rw[← bC,rz]
 have hlen:ds.length≤s.size:=by rw[← hds];have h0:=zk isNum (ax s k);rw[mE]at h0;omega
 have hW:=(aeI b s k _ h1 _hs (by omega)).mono (R':=fun e w'=>(w.alloc (.cells jk 154)).grownBy w' (some b)∧e = .returned (.string D)∧bN w' b s (k+ds.length)) (fun e w' ⟨x1,x2,x3⟩=>⟨x1,by rw[x2,hds,hD],by rw[hds]at x3;exact x3⟩);have HW:=aa hW;clear hW h1 h;have aR:=aa hal;clear hal;have bu:=aa (aC.zero w)
 have hne:ds≠[]:=by
  have h0:=xu s k 0 (by omega);rw[← hds];cases hr:ax s k with
  | nil=>rw[hr]at h0;simp at h0
  | cons x l=>rw[hr]at h0;simp at h0;rw[List.takeWhile_cons,h0,hd];simp
 have hall:∀x∈ds,isNum x=true:=by rw[← hds];exact rP isNum _
 have hN:jQ (ax s k)=if (1<ds.length∧ds.head? = some 48)∨9223372036854775807<bH ds then none else some ({ af.zero with kind:=1,num:=bH ds },ds.length):=by
  unfold jQ;rw[hds]
  have hh:(ax s k).head? = ds.head? := by
   have e:=take_split isNum (ax s k);rw[hds]at e;rw[← e];cases ds with
   | nil=>exact absurd rfl hne
   | cons x l=>rfl
  rw[hh]
 have hat:=Ma D (by rw[rz];exact hne) (by rw[rz];exact hall);rw[rz]at hat;have hp:=List.length_pos_iff.2 hne;have hD0:0<D.size:=by omega
 obtain⟨a,ha⟩:∃a:Int,(D[0].toNat:Int)=a:=⟨_,rfl⟩;have hhd:ds.head? = some a:=by rw[← ha, ← rz,List.head?_eq_getElem?,oM D 0 hD0]
 have hmx:D.size≤1000000:=by omega
 have HD:=aa hD;have HSD:=aa rz;have HLEN:=aa hlen;have jI:=aa hall;clear hne hall hbd hds hD rz hlen;have hw0:w.heap.size≠b:=by omega
 by_cases h48:1<ds.length∧ds.head? = some 48
 · rw[if_pos (Or.inl h48)]at hN
   have HN:=aa hN;clear hN hat;have afo:(1:Int)<(D.size:Int):=by omega
   have afp:(a == 48)=true:=by rw[hhd]at h48;exact beq_iff_eq.2 (dX h48.2)
   have HHD:=aa hhd;clear h48 hhd hp;go_enter Tryz.func211,Tryz.ntmps211;go_wp2_with (go_at_call 181;((with_reducible refine HW.o.mono ?_);rintro e w1 ⟨h1,rfl,h2⟩;have H1:=aa h1;have H2:=aa h2;clear h1 h2;have HT1:=aa (bu.o.grown H1.o hw0);obtain⟨x0,x1,x2,x3,x4,x5,x6,x7,az⟩:=HT1.o.cells;obtain⟨f0,f1,f2,f3,f4,f5,f6,f7,f8⟩:=HT1.o.bK))
   exact bodyPost_ret (nT (HT1.o.gB af.zero) _ _ false 2 3 JI rfl rfl) rfl ⟨grownBy.jH (grownBy.trans' aR.o H1.o) (ag _) _ _ _ _ _ _ _ _ _,.inr ⟨HN.o,af.zero,rfl⟩⟩
 · by_cases hbig:9223372036854775807<bH ds
   · rw [if_pos (Or.inr hbig)]at hN
     rw[if_pos hbig]at hat;have HN:=aa hN;have HAT:=aa hat;clear hN hat
     have hcond:(a == 48)=false∨((a == 48)=true∧¬ (1:Int)<(D.size:Int)):=by
      by_cases yC:a=48
      · refine .inr ⟨beq_iff_eq.2 yC,fun h1=>h48 ⟨by omega,by rw[hhd,yC]⟩⟩
      · exact .inl (beq_eq_false_iff_ne.2 yC)
     clear h48 hhd hp hbig;go_enter Tryz.func211,Tryz.ntmps211;rcases hcond with hc1|⟨hc1,hc2⟩
     all_goals go_wp2_with (first
      | (go_at_call 181;((with_reducible refine HW.o.mono ?_);rintro e w1 ⟨h1,rfl,h2⟩;have H1:=aa h1;have H2:=aa h2;clear h1 h2;obtain⟨ev,Be,HE2⟩:=Sb.o.grown H1.o hb2;have Be:=aa Be;have HE2:=aa HE2))
      | (go_at_call 138;((with_reducible refine(Tryz.strconv_Atoi_range D ?_ HAT.o ev _ Be.o HE2.o).mono ?_);(first|omega|skip);rintro e w2 ⟨N,rfl, -, -,h3⟩;have H3:=aa h3;clear h3;have HT2:=aa ((bu.o.grown H1.o hw0).below H3.o (bu.o.grown H1.o hw0).lt);obtain⟨x0,x1,x2,x3,x4,x5,x6,x7,az⟩:=HT2.o.cells;obtain⟨f0,f1,f2,f3,f4,f5,f6,f7,f8⟩:=HT2.o.bK)))
     all_goals (generalize Lib.atoiSat D.data.toList=sat)
     all_goals go_region
     all_goals go_wp2_with fail
     all_goals exact bodyPost_ret (nT (HT2.o.gB { af.zero with kind:=1,num:=sat }).drew _ _ false 2 3 JI rfl rfl) rfl ⟨grownBy.drew' (grownBy.jH (grownBy.below' (grownBy.trans' aR.o H1.o) H3.o) (ag _) _ _ _ _ _ _ _ _ _),.inr ⟨HN.o,{ af.zero with kind:=1,num:=sat },rfl⟩⟩
   · rw [if_neg (show ¬ ((1<ds.length∧ds.head? = some 48)∨9223372036854775807<bH ds)from fun h1=>h1.elim h48 hbig)]at hN
     rw[if_neg hbig]at hat;obtain⟨v,hv⟩:∃v,bH ds=v:=⟨_,rfl⟩;rw[hv]at hN hat;have HN:=aa hN;have HAT:=aa hat;clear hN hat hv
     have hcond:(a == 48)=false∨((a == 48)=true∧¬ (1:Int)<(D.size:Int)):=by
      by_cases yC:a=48
      · refine .inr ⟨beq_iff_eq.2 yC,fun h1=>h48 ⟨by omega,by rw[hhd,yC]⟩⟩
      · exact .inl (beq_eq_false_iff_ne.2 yC)
     clear h48 hhd hp hbig;go_enter Tryz.func211,Tryz.ntmps211;rcases hcond with hc1|⟨hc1,hc2⟩
     all_goals go_wp2_with (first
      | (go_at_call 181;((with_reducible refine HW.o.mono ?_);rintro e w1 ⟨h1,rfl,h2⟩;have H1:=aa h1;have H2:=aa h2;clear h1 h2))
      | (go_at_call 138;((with_reducible refine(Mc D ?_ v HAT.o _).mono ?_);(first|omega|skip);rintro e w2 ⟨rfl,h3⟩;have H3:=aa h3;clear h3;have HL2:=aa (H2.o.below H3.o H2.o.lt);have HT2:=aa ((bu.o.grown H1.o hw0).below H3.o (bu.o.grown H1.o hw0).lt);obtain⟨x0,x1,x2,x3,x4,x5,x6,x7,az⟩:=HT2.o.cells;obtain⟨f0,f1,f2,f3,f4,f5,f6,f7,f8⟩:=HT2.o.bK)))
     all_goals go_region
     all_goals go_wp2_with fail
     all_goals exact bodyPost_ret (nT (HT2.o.gB { af.zero with kind:=1,num:=v }).drew _ _ true 2 3 JI rfl rfl) rfl ⟨grownBy.drew' (grownBy.jH (grownBy.below' (grownBy.trans' aR.o H1.o) H3.o) (ag _) _ _ _ _ _ _ _ _ _),.inl ⟨_,_,HN.o,rfl,(HL2.o.jH hw0 _ _ _ _ _ _ _ _ _).drew⟩⟩
def Ad:List Int→Int
 | []=>0
 | c :: _=>if c=39 then 1 else if c=61 then 2 else if c=45∨isNum c=true then 3 else 4
def kd(s:ByteArray):Int:=Ad (sb s)
theorem IQ(c:Int)(l:List Int):Ad (c :: l)=if c=39 then 1 else if c=61 then 2 else if c=45∨isNum c=true then 3 else 4:=rfl
def mh (s:ByteArray):Option Int:=match Lib.atoiAll s.data.toList with
 | .ok v=>some v
 | _=>none
theorem L9{s:ByteArray}{v:Int}(h:Lib.atoiAll s.data.toList = .ok v):mh s=some v:=by unfold mh;rw[h]
theorem Us {s:ByteArray}{v:Int}(h:mh s=some v) : -9223372036854775808≤v∧v≤9223372036854775807:=by
 unfold mh at h;split at h
 · rename_i u hu
   have:=Lib.atoiAll_bounds hu;injection h with h;omega
 · cases h
theorem aeD(l:List Int):bH (48 :: l)=bH l:=by unfold bH;rw[List.foldl_cons];rfl
theorem Ko:∀(z:Nat)(l:List Int),bH (List.replicate z 48++l)=bH l
 | 0,_=>rfl
 | z+1,l=>by rw[List.replicate_succ,dO,aeD,Ko z l]
theorem Ut (D:ByteArray)(l:List Int)(hD:sb D=45 :: l)(h0:l≠[])(h:∀x∈l,isNum x=true):Lib.atoiAll D.data.toList=if 9223372036854775808<bH l then .range else .ok (-(bH l)):=by
 have hsb:sb D=D.data.toList.map fun x=>(x.toNat:Int):=rfl
 have hpos:=xJ l [] h (by decide);rw[fQ,show bH []=0 from rfl]at hpos;rw[hsb]at hD;cases hl:D.data.toList with
 | nil=>rw[hl]at hD;cases hD
 | cons c r =>
   rw[hl,jb]at hD;obtain⟨hc,hr⟩:=List.cons.inj hD;have Nw:c.toNat=45:=by omega
   have hall:∀d∈r,48≤d.toNat∧d.toNat≤57:=by
    intro d hd;have:=iL (h (d.toNat:Int) (hr ▸ List.mem_map_of_mem (f:=fun x:UInt8=>(x.toNat:Int)) hd));omega
   have XH:r≠[]:=by rintro rfl;exact h0 hr.symm
   unfold Lib.atoiAll;simp only;rw[if_pos (Or.inr Nw)];unfold Lib.parseMag;rw[if_neg XH,G9 r 0 [] (by omega) rfl hall,fQ,hr];by_cases h1:bH l<18446744073709551616
   · rw [if_pos h1]
     simp only[Nw,not_true,false_and,true_and,if_true,if_false];by_cases h2:9223372036854775808<bH l
     · rw[if_pos h2,if_pos (by omega)]
     · rw[if_neg h2,if_neg (by omega)]
       congr 1;omega
   · rw[if_neg h1,if_pos (by omega)]
def nS(z:Nat)(n:Int):List Int:=if n<0 then 45 :: (List.replicate z 48++aF n.natAbs)else List.replicate z 48++aF n.natAbs
theorem Z0(n:Int):nS 0 n=kZ n:=rfl
theorem FE (z u:Nat):∀x∈List.replicate z (48:Int)++aF u,isNum x=true:=by
 intro x hx;rcases List.mem_append.1 hx with hx|hx
 · rw[List.eq_of_mem_replicate hx];rfl
 · exact rA u x hx
theorem Kz (z u:Nat):List.replicate z (48:Int)++aF u≠[]:=by
 intro e;exact qD u (List.append_eq_nil_iff.1 e).2
theorem PM (z:Nat)(n:Int):Bytes (nS z n):=by
 have h:Bytes (List.replicate z (48:Int)++aF n.natAbs):=fun x hx=>by have:=iL (FE z _ x hx);omega
 unfold nS;split
 · intro x hx
   rcases List.mem_cons.1 hx with rfl|hx
   · omega
   · exact h x hx
 · exact h
theorem Uu (z:Nat)(n:Int)(h0 : -9223372036854775808≤n)(h1:n≤9223372036854775807):mh (strOfNums (nS z n))=some n:=by
 refine L9 ?_;have hsb:=gK _ (PM z n);by_cases hn:n<0
 · have e:nS z n=45 :: (List.replicate z 48++aF n.natAbs):=by unfold nS;rw[if_pos hn]
   have hv:bH (List.replicate z 48++aF n.natAbs) = -n:=by rw[Ko,AL];omega
   rw[Ut _ _ (hsb.trans e) (Kz z _) (FE z _),hv,if_neg (by omega),Int.neg_neg]
 · have e:nS z n=List.replicate z 48++aF n.natAbs:=by unfold nS;rw[if_neg hn]
   have hv:bH (List.replicate z 48++aF n.natAbs)=n:=by rw[Ko,AL];omega
   rw[Ma _ (by rw[hsb,e];exact Kz z _) (by rw[hsb,e];exact FE z _),hsb,e,hv,if_neg (by omega)]
theorem Yd (z:Nat)(n:Int):kd (strOfNums (nS z n))=3:=by
 unfold kd;rw[gK _ (PM z n)]
 have hd:∀l:List Int,l≠[]→(∀x∈l,isNum x=true)→Ad l=3:=by
  intro l h0 h;cases l with
  | nil=>exact absurd rfl h0
  | cons c l =>
    have hc:=h c (by simp);have:=iL hc;rw[IQ,if_neg (by omega),if_neg (by omega),if_pos (Or.inr hc)]
 by_cases hn:n<0
 · have e:nS z n=45 :: (List.replicate z 48++aF n.natAbs):=by unfold nS;rw[if_pos hn]
   rw[e,IQ,if_neg (by omega),if_neg (by omega),if_pos (Or.inl rfl)]
 · have e:nS z n=List.replicate z 48++aF n.natAbs:=by unfold nS;rw[if_neg hn]
   rw[e];exact hd _ (Kz z _) (FE z _)
structure cO where
 sh:ByteArray
 c:Int
 r:Int
 ac:Bool
 ar:Bool
def cO.zero:cO:=⟨⟨#[]⟩,0,0,false,false⟩
def af.dw(t:af):cO:=⟨t.sh,t.c,t.r,t.ac,t.ar⟩
structure Nd where
 kind:Int
 num:Int
 text:ByteArray
 ref:cO
 ae:cO
 kids:List Int
def Nd.zero:Nd:=⟨0,0,⟨#[]⟩,cO.zero,cO.zero,[]⟩
abbrev dW:=Except Int (List Nd × Nat × List af)
abbrev KC:=Except Int (List Nd × List Int × List af)
def il {α β γ δ : Type}(x:Option (Except Int (α × β × γ)))(k : α → β → γ → Option (Except Int δ)):Option (Except Int δ) :=
 match x with
 | none=>none
 | some (.error e)=>some (.error e)
 | some (.ok (a,b,c))=>k a b c
def au (s:ByteArray)(ts:List af):Bool:=match ts with
 | t :: _=>decide (t.kind=5)&&decide (t.text=s)
 | []=>false
def fC:Nat→List (ByteArray × Int)
 | 0=>[(⟨#[61]⟩,9),(⟨#[60,62]⟩,10),(⟨#[60]⟩,11),(⟨#[60,61]⟩,12),(⟨#[62]⟩,13),(⟨#[62,61]⟩,14)]
 | 1=>[(⟨#[38]⟩,15)]
 | 2=>[(⟨#[43]⟩,16),(⟨#[45]⟩,17)]
 | _=>[(⟨#[42]⟩,18),(⟨#[47]⟩,19)]
def fD (n:Nat)(ts:List af):Int:=match (fC n).find? fun p=>au p.1 ts with
 | some p=>p.2
 | none=>0
def fP(a b:cO):Bool:=decide (b.sh=⟨#[]⟩)&&(decide (a.c≤b.c)&&decide (a.r≤b.r))
def uS (ts:List af):Int:=match ts with
 | t :: _=>t.kind
 | []=>0
def iP (base:Nat)(t:af)(ts:List af):dW :=
 if au ⟨#[58]⟩ ts=true then match ts.tail with
  | u :: us=>if u.kind=4∧fP t.dw u.dw=true then .ok ([{ Nd.zero with kind:=6,ref:=t.dw,ae:=u.dw }],base,us)else .error 5
  | [] => .error 5
 else .ok ([{ Nd.zero with kind:=5,ref:=t.dw }],base,ts)
mutual
def eF:Nat→Nat→Nat→Nat→List af→Option dW
 | 0,_,_,_,_=>none
 | f + 1,n,deep,base,ts =>
   if n≤3 then il (eF f (n+1) deep base ts) fun ns a r=>rowP f n deep base ns a r
   else if au ⟨#[45]⟩ ts=true then
    if 12≤deep then some (.error 6)
    else il (eF f 4 (deep+1) base ts.tail) fun ns a r=>some (.ok (ns++[{ Nd.zero with kind:=8,kids:=[(a:Int)] }],base+ns.length,r))
   else iY f deep base ts
def rowP:Nat→Nat→Nat→Nat→List Nd→Nat→List af→Option dW
 | 0,_,_,_,_,_,_=>none
 | f+1,n,deep,base,ns,a,ts =>
   if fD n ts=0 then some (.ok (ns,a,ts))
   else il (eF f (n+1) deep (base+ns.length) ts.tail) fun ms b r=>rowP f n deep base (ns++(ms++[{ Nd.zero with kind:=fD n ts,kids:=[(a:Int),(b:Int)] }])) (base+(ns.length+ms.length)) r
def iY:Nat→Nat→Nat→List af→Option dW
 | 0,_,_,_=>none
 | _,_,_,[]=>some (.error 5)
 | f + 1,deep,base,t :: ts =>
   if au ⟨#[40]⟩ (t :: ts)=true then
    if 12≤deep then some (.error 6)
    else il (eF f 0 (deep+1) base ts) fun ns a r=>if au ⟨#[41]⟩ r=true then some (.ok (ns,a,r.tail))else some (.error 5)
   else if t.kind=1 then some (.ok ([{ Nd.zero with kind:=1,num:=t.num }],base,ts))
   else if t.kind=2 then some (.ok ([{ Nd.zero with kind:=2,text:=t.text }],base,ts))
   else if t.kind=6 then some (.ok ([{ Nd.zero with kind:=4 }],base,ts))
   else if t.kind=4 then some (iP base t ts)
   else if t.kind=3 then
    if t.text=⟨#[84,82,85,69]⟩then some (.ok ([{ Nd.zero with kind:=3,num:=1 }],base,ts))
    else if t.text=⟨#[70,65,76,83,69]⟩then some (.ok ([{ Nd.zero with kind:=3 }],base,ts))
    else if au ⟨#[40]⟩ ts=true then
     if 12≤deep then some (.error 6)
     else il (if au ⟨#[41]⟩ ts.tail=true then some (.ok ([],[],ts.tail))else gy f (deep+1) base [] [] ts.tail) fun ns ks r =>
      if au ⟨#[41]⟩ r=true then some (.ok (ns++[{ Nd.zero with kind:=7,text:=t.text,kids:=ks }],base+ns.length,r.tail))else some (.error 5)
    else some (.error 5)
   else some (.error 5)
def gy:Nat→Nat→Nat→List Nd→List Int→List af→Option KC
 | 0,_,_,_,_,_=>none
 | f + 1,deep,base,ns,ks,ts =>
   il (eF f 0 deep (base+ns.length) ts) fun ms a r =>
    if au ⟨#[44]⟩ r=true then gy f deep base (ns++ms) (ks++[(a:Int)]) r.tail else some (.ok (ns++ms,ks++[(a:Int)],r))
end
def mF (f:Nat)(ts:List af):Option (Except Int (List Nd)) :=
 il (eF f 0 0 0 ts) fun ns _ r=>if uS r=0 then some (.ok ns)else some (.error 5)
theorem dQ {α β γ δ : Type}{x:Option (Except Int (α × β × γ))}{k : α → β → γ → Option (Except Int δ)}{y:Except Int δ}(h:il x k=some y) :
 (∃e,x=some (.error e)∧y = .error e)∨∃a b c,x=some (.ok (a,b,c))∧k a b c=some y:=by
 unfold il at h;split at h
 · cases h
 · injection h with h;exact .inl ⟨_,rfl,h.symm⟩
 · exact .inr ⟨_,_,_,rfl,h⟩
theorem zR {α β γ δ : Type}{x x':Option (Except Int (α × β × γ))}{k k' : α → β → γ → Option (Except Int δ)}(hx:∀y,x=some y→x'=some y)(hk:∀a b c y,k a b c=some y→k' a b c=some y) :
 ∀y,il x k=some y→il x' k'=some y:=by
 intro y h;rcases dQ h with ⟨e,h1,rfl⟩|⟨a,b,c,h1,h2⟩
 · rw[hx _ h1];rfl
 · rw[hx _ h1];exact hk _ _ _ _ h2
theorem pG (f n deep base:Nat)(ts:List af):eF (f+1) n deep base ts=if n≤3 then il (eF f (n+1) deep base ts) fun ns a r=>rowP f n deep base ns a r
 else if au ⟨#[45]⟩ ts=true then
  if 12≤deep then some (.error 6)
  else il (eF f 4 (deep+1) base ts.tail) fun ns a r=>some (.ok (ns++[{ Nd.zero with kind:=8,kids:=[(a:Int)] }],base+ns.length,r))
 else iY f deep base ts:=by conv=>lhs;unfold eF
theorem ug (f n deep base:Nat)(ns:List Nd)(a:Nat)(ts:List af):rowP (f+1) n deep base ns a ts=if fD n ts=0 then some (.ok (ns,a,ts))
 else il (eF f (n+1) deep (base+ns.length) ts.tail) fun ms b r=>rowP f n deep base (ns++(ms++[{ Nd.zero with kind:=fD n ts,kids:=[(a:Int),(b:Int)] }])) (base+(ns.length+ms.length)) r:=by conv=>lhs;unfold rowP
theorem sJ (f deep base:Nat)(ns:List Nd)(ks:List Int)(ts:List af):gy (f+1) deep base ns ks ts=il (eF f 0 deep (base+ns.length) ts) fun ms a r =>
 if au ⟨#[44]⟩ r=true then gy f deep base (ns++ms) (ks++[(a:Int)]) r.tail else some (.ok (ns++ms,ks++[(a:Int)],r)):=by conv=>lhs;unfold gy
theorem y5(f deep base:Nat):iY (f+1) deep base []=some (.error 5):=by unfold iY;rfl
theorem mG (f deep base:Nat)(t:af)(ts:List af):iY (f+1) deep base (t :: ts) =
 if au ⟨#[40]⟩ (t :: ts)=true then
  if 12≤deep then some (.error 6)
  else il (eF f 0 (deep+1) base ts) fun ns a r=>if au ⟨#[41]⟩ r=true then some (.ok (ns,a,r.tail))else some (.error 5)
 else if t.kind=1 then some (.ok ([{ Nd.zero with kind:=1,num:=t.num }],base,ts))
 else if t.kind=2 then some (.ok ([{ Nd.zero with kind:=2,text:=t.text }],base,ts))
 else if t.kind=6 then some (.ok ([{ Nd.zero with kind:=4 }],base,ts))
 else if t.kind=4 then some (iP base t ts)
 else if t.kind=3 then
  if t.text=⟨#[84,82,85,69]⟩then some (.ok ([{ Nd.zero with kind:=3,num:=1 }],base,ts))
  else if t.text=⟨#[70,65,76,83,69]⟩then some (.ok ([{ Nd.zero with kind:=3 }],base,ts))
  else if au ⟨#[40]⟩ ts=true then
   if 12≤deep then some (.error 6)
   else il (if au ⟨#[41]⟩ ts.tail=true then some (.ok ([],[],ts.tail))else gy f (deep+1) base [] [] ts.tail) fun ns ks r =>
    if au ⟨#[41]⟩ r=true then some (.ok (ns++[{ Nd.zero with kind:=7,text:=t.text,kids:=ks }],base+ns.length,r.tail))else some (.error 5)
  else some (.error 5)
 else some (.error 5):=by conv=>lhs;unfold iY
theorem ED : ∀ f : Nat,(∀n deep base ts y,eF f n deep base ts=some y→eF (f+1) n deep base ts=some y)∧(∀n deep base ns a ts y,rowP f n deep base ns a ts=some y→rowP (f+1) n deep base ns a ts=some y) ∧
 (∀deep base ts y,iY f deep base ts=some y→iY (f+1) deep base ts=some y)∧(∀deep base ns ks ts y,gy f deep base ns ks ts=some y→gy (f+1) deep base ns ks ts=some y)
 | 0=>⟨fun _ _ _ _ _ h=>by simp[eF]at h,fun _ _ _ _ _ _ _ h=>by simp[rowP]at h,fun _ _ _ _ h=>by simp[iY]at h,fun _ _ _ _ _ _ h=>by simp[gy]at h⟩
 | f + 1 => by
   obtain⟨i1,i2,i3,i4⟩:=ED f;refine⟨?_, ?_, ?_, ?_⟩
   · intro n deep base ts y h
     rw[pG]at h ⊢;split
     · rw[if_pos ‹_›]at h
       exact zR (fun y h=>i1 _ _ _ _ y h) (fun a b c y h=>i2 _ _ _ _ _ _ y h) y h
     · rw [if_neg ‹_›]at h
       split
       · rw [if_pos ‹_›]at h
         split
         · rw[if_pos ‹_›]at h;exact h
         · rw[if_neg ‹_›]at h
           exact zR (fun y h=>i1 _ _ _ _ y h) (fun a b c y h=>h) y h
       · rw[if_neg ‹_›]at h
         exact i3 _ _ _ y h
   · intro n deep base ns a ts y h
     rw[ug]at h ⊢;split
     · rw[if_pos ‹_›]at h;exact h
     · rw[if_neg ‹_›]at h
       exact zR (fun y h=>i1 _ _ _ _ y h) (fun a b c y h=>i2 _ _ _ _ _ _ y h) y h
   · intro deep base ts y h
     cases ts with
     | nil=>rw[y5]at h ⊢;exact h
     | cons t ts =>
       rw[mG]at h ⊢;by_cases c1:au ⟨#[40]⟩ (t :: ts)=true
       · rw [if_pos c1]at h ⊢
         by_cases d:12≤deep
         · rw[if_pos d]at h ⊢;exact h
         · rw[if_neg d]at h ⊢
           exact zR (fun y h=>i1 _ _ _ _ y h) (fun a b c y h=>h) y h
       · rw [if_neg c1] at h ⊢
         by_cases c2:t.kind=1
         · rw[if_pos c2]at h ⊢
           exact h
         · rw [if_neg c2] at h ⊢
           by_cases c3:t.kind=2
           · rw[if_pos c3]at h ⊢
             exact h
           · rw [if_neg c3] at h ⊢
             by_cases c4:t.kind=6
             · rw[if_pos c4]at h ⊢
               exact h
             · rw [if_neg c4]at h ⊢
               by_cases c5:t.kind=4
               · rw[if_pos c5]at h ⊢
                 exact h
               · rw [if_neg c5]at h ⊢
                 by_cases c6:t.kind=3
                 · rw [if_pos c6]at h ⊢
                   by_cases c7:t.text=⟨#[84,82,85,69]⟩
                   · rw[if_pos c7]at h ⊢;exact h
                   · rw [if_neg c7]at h ⊢
                     by_cases c8:t.text=⟨#[70,65,76,83,69]⟩
                     · rw[if_pos c8]at h ⊢;exact h
                     · rw [if_neg c8]at h ⊢
                       by_cases c9:au ⟨#[40]⟩ ts=true
                       · rw [if_pos c9]at h ⊢
                         by_cases d:12≤deep
                         · rw[if_pos d]at h ⊢;exact h
                         · rw[if_neg d]at h ⊢
                           refine zR (fun y h => ?_) (fun a b c y h=>h) y h;by_cases c10:au ⟨#[41]⟩ ts.tail=true
                           · rw[if_pos c10]at h ⊢;exact h
                           · rw[if_neg c10]at h ⊢;exact i4 _ _ _ _ _ y h
                       · rw[if_neg c9]at h ⊢;exact h
                 · rw[if_neg c6]at h ⊢;exact h
   · intro deep base ns ks ts y h
     rw[sJ]at h ⊢;refine zR (fun y h=>i1 _ _ _ _ y h) (fun a b c y h => ?_) y h;split
     · rw[if_pos ‹_›]at h;exact i4 _ _ _ _ _ y h
     · rw[if_neg ‹_›]at h;exact h
theorem Ea {f g n deep base:Nat}{ts:List af}{y:dW}(hfg:f≤g)(h:eF f n deep base ts=some y):eF g n deep base ts=some y:=by
 induction g with
 | zero => obtain rfl:f=0:=by omega
           exact h
 | succ g ih =>
   by_cases e:f=g+1
   · rw[← e];exact h
   · exact(ED g).1 _ _ _ _ _ (ih (by omega))
theorem QD {f g n deep base:Nat}{ns:List Nd}{a:Nat}{ts:List af}{y:dW}(hfg:f≤g)(h:rowP f n deep base ns a ts=some y):rowP g n deep base ns a ts=some y:=by
 induction g with
 | zero => obtain rfl:f=0:=by omega
           exact h
 | succ g ih =>
   by_cases e:f=g+1
   · rw[← e];exact h
   · exact(ED g).2.1 _ _ _ _ _ _ _ (ih (by omega))
theorem LZ {f g deep base:Nat}{ns:List Nd}{ks:List Int}{ts:List af}{y:KC}(hfg:f≤g)(h:gy f deep base ns ks ts=some y):gy g deep base ns ks ts=some y:=by
 induction g with
 | zero => obtain rfl:f=0:=by omega
           exact h
 | succ g ih =>
   by_cases e:f=g+1
   · rw[← e];exact h
   · exact(ED g).2.2.2 _ _ _ _ _ _ (ih (by omega))
def eZ(m:Nat)(r ts:List af):Prop:=∃pre:List af,ts=pre++r∧(∀t∈pre,t.kind≠0)∧m≤pre.length
theorem eZ.refl(ts:List af):eZ 0 ts ts:=⟨[],rfl,by simp,by simp⟩
theorem eZ.trans {m k:Nat}{r s t:List af}(h:eZ m r s)(g:eZ k s t):eZ (k+m) r t:=by
 obtain⟨p,rfl,h1,h2⟩:=h;obtain⟨q,rfl,g1,g2⟩:=g;refine⟨q++p,by rw[bO], ?_,by rw[aj];omega⟩;intro x hx;rw[List.mem_append]at hx;rcases hx with hx|hx
 · exact g1 x hx
 · exact h1 x hx
theorem eZ.less {m k:Nat}{r ts:List af}(h:eZ m r ts)(hk:k≤m):eZ k r ts:=by
 obtain⟨p,h0,h1,h2⟩:=h;exact⟨p,h0,h1,by omega⟩
theorem eZ.len {m:Nat}{r ts:List af}(h:eZ m r ts):r.length+m≤ts.length:=by
 obtain⟨p,rfl,_,h2⟩:=h;rw[aj];omega
theorem eZ.head{t:af}{ts:List af}(h:t.kind≠0):eZ 1 ts (t :: ts):=⟨[t],rfl,by simp[h],by simp⟩
theorem eZ.sign {s:ByteArray}{ts:List af}(h:au s ts=true):eZ 1 ts.tail ts:=by
 cases ts with
 | nil=>simp[au]at h
 | cons t ts =>
   unfold au at h;rw[dE,decide_eq_true_iff]at h;exact eZ.head (by omega)
theorem Cv {n:Nat}{ts:List af}(h:fD n ts≠0):∃p∈fC n,au p.1 ts=true∧fD n ts=p.2:=by
 unfold fD at h ⊢;cases hq:(fC n).find? (fun p=>au p.1 ts)with
 | none=>rw[hq]at h;exact absurd rfl h
 | some p=>exact⟨p,List.mem_of_find?_eq_some hq,List.find?_some (p:=fun p:ByteArray × Int=>au p.1 ts) hq,rfl⟩
theorem eZ.op {n:Nat}{ts:List af}(h:fD n ts≠0):eZ 1 ts.tail ts:=by
 obtain⟨p,_,h1,_⟩:=Cv h;exact eZ.sign h1
theorem Qj {base:Nat}{t:af}{ts:List af}{ns:List Nd}{a:Nat}{r:List af}(h:iP base t ts = .ok (ns,a,r)):eZ 0 r ts∧ns.length=1∧a=base:=by
 unfold iP at h;by_cases c:au ⟨#[58]⟩ ts=true
 · rw [if_pos c]at h
   cases hq:ts.tail with
   | nil=>rw[hq]at h;cases h
   | cons u us =>
     rw[hq]at h;simp only at h;by_cases d:u.kind=4∧fP t.dw u.dw=true
     · rw[if_pos d]at h
       injection h with h;injection h with h1 h2;injection h2 with h2 h3;subst h1;subst h2;subst h3;have s1:=eZ.sign c;rw[hq]at s1;exact⟨((eZ.head (ts:=us) (show u.kind≠0 by omega)).trans s1).less (by omega),rfl,rfl⟩
     · rw[if_neg d]at h;cases h
 · rw[if_neg c]at h
   injection h with h;injection h with h1 h2;injection h2 with h2 h3;subst h1;subst h2;subst h3;exact⟨eZ.refl _,rfl,rfl⟩
def Told(base:Nat)(ts:List af)(ns:List Nd)(a:Nat)(r:List af):Prop:=eZ 1 r ts∧a+1=base+ns.length∧1≤ns.length
theorem xC : ∀ f : Nat, (∀ n deep base ts ns a r,eF f n deep base ts=some (.ok (ns,a,r))→Told base ts ns a r) ∧
 (∀n deep base ns a ts ns' a' r,rowP f n deep base ns a ts=some (.ok (ns',a',r))→a+1=base+ns.length→1≤ns.length→eZ 0 r ts∧a'+1=base+ns'.length∧1≤ns'.length) ∧
 (∀deep base ts ns a r,iY f deep base ts=some (.ok (ns,a,r))→Told base ts ns a r) ∧
 (∀deep base ns ks ts ns' ks' r,gy f deep base ns ks ts=some (.ok (ns',ks',r))→eZ 1 r ts)
 | 0=>by
   refine⟨?_, ?_, ?_, ?_⟩
   · intro n deep base ts ns a r h;unfold eF at h;cases h
   · intro n deep base ns a ts ns' a' r h;unfold rowP at h;cases h
   · intro deep base ts ns a r h;unfold iY at h;cases h
   · intro deep base ns ks ts ns' ks' r h;unfold gy at h;cases h
 | f + 1 => by
   obtain⟨i1,i2,i3,i4⟩:=xC f;refine⟨?_, ?_, ?_, ?_⟩
   · intro n deep base ts ns a r h
     rw[pG]at h;by_cases c:n≤3
     · rw [if_pos c]at h
       rcases dQ h with ⟨e,_,h2⟩|⟨ms,b,s,h1,h2⟩
       · cases h2
       · obtain⟨k1,k2,k3⟩:=i1 _ _ _ _ _ _ _ h1
         obtain⟨g1,g2,g3⟩:=i2 _ _ _ _ _ _ _ _ _ h2 k2 k3;exact⟨g1.trans k1,g2,g3⟩
     · rw [if_neg c]at h
       by_cases d:au ⟨#[45]⟩ ts=true
       · rw [if_pos d]at h
         by_cases d2:12≤deep
         · rw[if_pos d2]at h;cases h
         · rw [if_neg d2]at h
           rcases dQ h with ⟨e,_,h2⟩|⟨ms,b,s,h1,h2⟩
           · cases h2
           · obtain⟨k1,k2,k3⟩:=i1 _ _ _ _ _ _ _ h1
             injection h2 with h2;injection h2 with h2;injection h2 with h3 h4;injection h4 with h4 h5;subst h3;subst h4;subst h5;exact⟨(k1.trans (eZ.sign d)).less (by omega),by rw[aj];simp;omega,by rw[aj];simp⟩
       · rw[if_neg d]at h;exact i3 _ _ _ _ _ _ h
   · intro n deep base ns a ts ns' a' r h ha hn
     rw[ug]at h;by_cases c:fD n ts=0
     · rw[if_pos c]at h
       injection h with h;injection h with h;injection h with h1 h2;injection h2 with h2 h3;subst h1;subst h2;subst h3;exact⟨eZ.refl _,ha,hn⟩
     · rw [if_neg c]at h
       rcases dQ h with ⟨e,_,h2⟩|⟨ms,b,s,h1,h2⟩
       · cases h2
       · obtain⟨k1,k2,k3⟩:=i1 _ _ _ _ _ _ _ h1
         obtain⟨g1,g2,g3⟩:=i2 _ _ _ _ _ _ _ _ _ h2 (by simp only[aj,aK,dY];omega) (by simp only[aj,aK,dY];omega);exact⟨((g1.trans k1).trans (eZ.op c)).less (by omega),g2,g3⟩
   · intro deep base ts ns a r h
     cases ts with
     | nil=>rw[y5]at h;cases h
     | cons t ts =>
       have leaf:∀(x:Nd),t.kind≠0→(some (.ok ([x],base,ts)):Option dW)=some (.ok (ns,a,r))→Told base (t :: ts) ns a r:=by
        intro x hk h;injection h with h;injection h with h;injection h with h1 h2;injection h2 with h2 h3;subst h1;subst h2;subst h3;exact⟨eZ.head hk,by simp,by simp⟩
       rw[mG]at h;by_cases c1:au ⟨#[40]⟩ (t :: ts)=true
       · rw [if_pos c1]at h
         have s1:=eZ.sign c1;by_cases d:12≤deep
         · rw[if_pos d]at h;cases h
         · rw [if_neg d]at h
           rcases dQ h with ⟨e,_,h2⟩|⟨ms,b,s,h1,h2⟩
           · cases h2
           · obtain ⟨k1,k2,k3⟩:=i1 _ _ _ _ _ _ _ h1
             by_cases d2:au ⟨#[41]⟩ s=true
             · rw[if_pos d2]at h2
               injection h2 with h2;injection h2 with h2;injection h2 with h3 h4;injection h4 with h4 h5;subst h3;subst h4;subst h5;exact⟨(((eZ.sign d2).trans k1).trans s1).less (by omega),k2,k3⟩
             · rw[if_neg d2]at h2;cases h2
       · rw [if_neg c1] at h
         by_cases c2:t.kind=1
         · rw[if_pos c2]at h;exact leaf _ (by omega) h
         · rw [if_neg c2] at h
           by_cases c3:t.kind=2
           · rw[if_pos c3]at h;exact leaf _ (by omega) h
           · rw [if_neg c3] at h
             by_cases c4:t.kind=6
             · rw[if_pos c4]at h;exact leaf _ (by omega) h
             · rw [if_neg c4] at h
               by_cases c5:t.kind=4
               · rw[if_pos c5]at h
                 injection h with h;obtain⟨g1,g2,g3⟩:=Qj h;exact⟨(g1.trans (eZ.head (show t.kind≠0 by omega))).less (by omega),by omega,by omega⟩
               · rw [if_neg c5] at h
                 by_cases c6:t.kind=3
                 · rw [if_pos c6]at h
                   by_cases c7:t.text=⟨#[84,82,85,69]⟩
                   · rw[if_pos c7]at h;exact leaf _ (by omega) h
                   · rw [if_neg c7]at h
                     by_cases c8:t.text=⟨#[70,65,76,83,69]⟩
                     · rw[if_pos c8]at h;exact leaf _ (by omega) h
                     · rw [if_neg c8]at h
                       by_cases c9:au ⟨#[40]⟩ ts=true
                       · rw [if_pos c9]at h
                         by_cases d:12≤deep
                         · rw[if_pos d]at h;cases h
                         · rw [if_neg d]at h
                           rcases dQ h with ⟨e,_,h2⟩|⟨ms,ks,s,h1,h2⟩
                           · cases h2
                           · have k1:eZ 0 s ts.tail:=by
                              by_cases c10:au ⟨#[41]⟩ ts.tail=true
                              · rw[if_pos c10]at h1
                                injection h1 with h1;injection h1 with h1;injection h1 with h3 h4;injection h4 with h4 h5;subst h5;exact eZ.refl _
                              · rw[if_neg c10]at h1;exact(i4 _ _ _ _ _ _ _ _ h1).less (by omega)
                             by_cases d2:au ⟨#[41]⟩ s=true
                             · rw[if_pos d2]at h2
                               injection h2 with h2;injection h2 with h2;injection h2 with h3 h4;injection h4 with h4 h5;subst h3;subst h4;subst h5;exact⟨((((eZ.sign d2).trans k1).trans (eZ.sign c9)).trans (eZ.head (show t.kind≠0 by omega))).less (by omega),by rw[aj];simp;omega,by rw[aj];simp⟩
                             · rw[if_neg d2]at h2;cases h2
                       · rw[if_neg c9]at h;cases h
                 · rw[if_neg c6]at h;cases h
   · intro deep base ns ks ts ns' ks' r h
     rw[sJ]at h;rcases dQ h with ⟨e,_,h2⟩|⟨ms,b,s,h1,h2⟩
     · cases h2
     · obtain ⟨k1,k2,k3⟩:=i1 _ _ _ _ _ _ _ h1
       by_cases d:au ⟨#[44]⟩ s=true
       · rw[if_pos d]at h2
         exact(((i4 _ _ _ _ _ _ _ _ h2).trans (eZ.sign d)).trans k1).less (by omega)
       · rw[if_neg d]at h2
         injection h2 with h2;injection h2 with h2;injection h2 with h3 h4;injection h4 with h4 h5;subst h5;exact k1
def gX(r:cO):Bool:=decide (r.sh=⟨#[]⟩∧r.c=0∧r.r=0)&&(!r.ac && !r.ar)
def gp(r:cO):Bool:=dn (sb r.sh) r.c r.r
def lq(l:List Int):Bool:=decide (∀x∈l,¬ x<32)
def jo(s:ByteArray):Bool:=iO (sb s)&&((fO s).isNone&&(decide (¬ s=⟨#[84,82,85,69]⟩)&&decide (¬ s=⟨#[70,65,76,83,69]⟩)))
def jm(k:Int):Int:=if 1≤k∧k≤6 then 0 else if k=7 then -1 else if k=8 then 1 else if 9≤k∧k≤19 then 2 else -2
def aD (n:Nd):Bool :=
 if (n.kind≠1∧n.kind≠3∧n.num≠0)∨(n.kind≠2∧n.kind≠7∧n.text≠⟨#[]⟩)∨(n.kind≠5∧n.kind≠6∧gX n.ref=false)∨(n.kind≠6∧gX n.ae=false)then false
 else if n.kind=1 then decide (0≤n.num)
 else if n.kind=3 then decide (n.num=0∨n.num=1)
 else if n.kind=2 then lq (sb n.text)
 else if n.kind=7 then jo n.text
 else if n.kind=5 then gp n.ref
 else if n.kind=6 then gp n.ref&&(gp n.ae&&fP n.ref n.ae)
 else true
def fo(n:Nd):Bool:=aD n&&(decide (jm n.kind = -1)||decide (jm n.kind=n.kids.length))
def qb:List Int→Nat→List Nd→Bool
 | st,_,[]=>decide (st.length=1)
 | st,i,n :: ns=>fo n&&(decide (n.kids.length≤st.length)&&(decide (st.drop (st.length - n.kids.length)=n.kids)&&qb (st.take (st.length - n.kids.length)++[(i:Int)]) (i+1) ns))
theorem qc(st:List Int)(i:Nat)(n:Nd)(ns:List Nd):qb st i (n :: ns)=(fo n&&(decide (n.kids.length≤st.length)&&(decide (st.drop (st.length - n.kids.length)=n.kids)&&qb (st.take (st.length - n.kids.length)++[(i:Int)]) (i+1) ns))):=rfl
def dM(l:List Nd):Bool:=qb [] 0 l
def gQ(base:Nat)(ns:List Nd)(ks:List Int):Prop:=∀st rest,qb st base (ns++rest)=qb (st++ks) (base+ns.length) rest
theorem gQ.nil(base:Nat):gQ base [] []:=fun st rest=>by simp
theorem gQ.app {base:Nat}{ns ms:List Nd}{ks js:List Int}(h:gQ base ns ks)(g:gQ (base+ns.length) ms js):gQ base (ns++ms) (ks++js):=by
 intro st rest;rw[bO,h,g,bO,aj,Nat.add_assoc]
theorem gQ.node {base:Nat}{ns:List Nd}{n:Nd}(h:gQ base ns n.kids)(hn:fo n=true):gQ base (ns++[n]) [((base+ns.length:Nat):Int)]:=by
 intro st rest;rw[bO,h];show qb (st++n.kids) (base+ns.length) (n :: rest)=_;rw[qc];have e1:(st++n.kids).length - n.kids.length=st.length:=by rw[aj];omega
 rw[hn,e1,List.drop_left,List.take_left,decide_eq_true (show n.kids.length≤(st++n.kids).length by rw[aj];omega),decide_eq_true rfl,Bool.true_and,Bool.true_and,Bool.true_and,aj];rfl
structure KE (t:af):Prop where
 num:t.kind=1→0≤t.num
 text:t.kind=2→lq (sb t.text)=true
 name:t.kind=3→iO (sb t.text)=true∧(fO t.text).isNone=true
 ref:t.kind=4→gp t.dw=true
def Good(ts:List af):Prop:=∀t∈ts,KE t
theorem Good.tail{ts:List af}(h:Good ts):Good ts.tail:=fun t ht=>h t (List.mem_of_mem_tail ht)
theorem Good.J8 {m:Nat}{r ts:List af}(h:Good ts)(hs:eZ m r ts):Good r:=by
 obtain⟨p,rfl,_,_⟩:=hs;exact fun t ht=>h t (List.mem_append_right _ ht)
theorem vT:gX cO.zero=true:=by decide
theorem aaa {n:Nat}{ts:List af}(h:fD n ts≠0):9≤fD n ts∧fD n ts≤19:=by
 obtain⟨p,hp,_,e⟩:=Cv h;rw[e]
 match n with
 | 0=>simp[fC]at hp;rcases hp with rfl|rfl|rfl|rfl|rfl|rfl <;> decide
 | 1=>simp[fC]at hp;subst hp;decide
 | 2=>simp[fC]at hp;rcases hp with rfl|rfl <;> decide
 | n+3=>simp[fC]at hp;rcases hp with rfl|rfl <;> decide
theorem ZP {k a b:Int}(h:9≤k∧k≤19):fo { Nd.zero with kind:=k,kids:=[a,b] }=true:=by
 unfold fo
 have h1:aD { Nd.zero with kind:=k,kids:=[a,b] }=true:=by
  unfold aD
  rw [if_neg (by
   rintro(⟨_,_,h⟩|⟨_,_,h⟩|⟨_,_,h⟩|⟨_,h⟩)
   · exact h rfl
   · exact h rfl
   · rw[show gX ({ Nd.zero with kind:=k,kids:=[a,b] }:Nd).ref=true from vT]at h;cases h
   · rw[show gX ({ Nd.zero with kind:=k,kids:=[a,b] }:Nd).ae=true from vT]at h;cases h),if_neg (by show ¬ k=1;omega),if_neg (by show ¬ k=3;omega),if_neg (by show ¬ k=2;omega),if_neg (by show ¬ k=7;omega),if_neg (by show ¬ k=5;omega),if_neg (by show ¬ k=6;omega)]
 have h2:jm k=2:=by unfold jm;rw[if_neg (by omega),if_neg (by omega),if_neg (by omega),if_pos h]
 rw[h1,Bool.true_and,Bool.or_eq_true]
 right
 rw[decide_eq_true_iff];exact h2
theorem ZN (a:Int):fo { Nd.zero with kind:=8,kids:=[a] }=true:=by
 unfold fo aD;rfl
theorem ZO {n:Int}(h:0≤n):fo { Nd.zero with kind:=1,num:=n }=true:=by
 unfold fo
 have h1:aD { Nd.zero with kind:=1,num:=n }=true:=by
  unfold aD
  rw [if_neg (by
   rintro(⟨h,_⟩|⟨_,_,h⟩|⟨_,_,h⟩|⟨_,h⟩)
   · exact h rfl
   · exact h rfl
   · rw[show gX ({ Nd.zero with kind:=1,num:=n }:Nd).ref=true from vT]at h;cases h
   · rw[show gX ({ Nd.zero with kind:=1,num:=n }:Nd).ae=true from vT]at h;cases h),if_pos rfl]
  exact decide_eq_true h
 rw[h1];rfl
theorem ZT {s:ByteArray}(h:lq (sb s)=true):fo { Nd.zero with kind:=2,text:=s }=true:=by
 unfold fo
 have h1:aD { Nd.zero with kind:=2,text:=s }=true:=by
  unfold aD
  rw [if_neg (by
   rintro(⟨_,_,h⟩|⟨h,_⟩|⟨_,_,h⟩|⟨_,h⟩)
   · exact h rfl
   · exact h rfl
   · rw[show gX ({ Nd.zero with kind:=2,text:=s }:Nd).ref=true from vT]at h;cases h
   · rw[show gX ({ Nd.zero with kind:=2,text:=s }:Nd).ae=true from vT]at h;cases h),if_neg (by show ¬ (2:Int)=1;omega),if_neg (by show ¬ (2:Int)=3;omega),if_pos rfl]
  exact h
 rw[h1];rfl
theorem ZM {s:ByteArray}{ks:List Int}(h:jo s=true):fo { Nd.zero with kind:=7,text:=s,kids:=ks }=true:=by
 unfold fo
 have h1:aD { Nd.zero with kind:=7,text:=s,kids:=ks }=true:=by
  unfold aD
  rw [if_neg (by
   rintro(⟨_,_,h⟩|⟨_,h,_⟩|⟨_,_,h⟩|⟨_,h⟩)
   · exact h rfl
   · exact h rfl
   · rw[show gX ({ Nd.zero with kind:=7,text:=s,kids:=ks }:Nd).ref=true from vT]at h;cases h
   · rw[show gX ({ Nd.zero with kind:=7,text:=s,kids:=ks }:Nd).ae=true from vT]at h;cases h),if_neg (by show ¬ (7:Int)=1;omega),if_neg (by show ¬ (7:Int)=3;omega),if_neg (by show ¬ (7:Int)=2;omega),if_pos rfl]
  exact h
 rw[h1];rfl
theorem ZR {r:cO}(h:gp r=true):fo { Nd.zero with kind:=5,ref:=r }=true:=by
 unfold fo
 have h1:aD { Nd.zero with kind:=5,ref:=r }=true:=by
  unfold aD
  rw [if_neg (by
   rintro(⟨_,_,h⟩|⟨_,_,h⟩|⟨h,_⟩|⟨_,h⟩)
   · exact h rfl
   · exact h rfl
   · exact h rfl
   · rw[show gX ({ Nd.zero with kind:=5,ref:=r }:Nd).ae=true from vT]at h;cases h),if_neg (by show ¬ (5:Int)=1;omega),if_neg (by show ¬ (5:Int)=3;omega),if_neg (by show ¬ (5:Int)=2;omega),if_neg (by show ¬ (5:Int)=7;omega),if_pos rfl]
  exact h
 rw[h1];rfl
theorem ZQ {r t:cO}(h:gp r=true)(g:gp t=true)(hs:fP r t=true):fo { Nd.zero with kind:=6,ref:=r,ae:=t }=true:=by
 unfold fo
 have h1:aD { Nd.zero with kind:=6,ref:=r,ae:=t }=true:=by
  unfold aD
  rw [if_neg (by
   rintro(⟨_,_,h⟩|⟨_,_,h⟩|⟨_,h,_⟩|⟨h,_⟩)
   · exact h rfl
   · exact h rfl
   · exact h rfl
   · exact h rfl),if_neg (by show ¬ (6:Int)=1;omega),if_neg (by show ¬ (6:Int)=3;omega),if_neg (by show ¬ (6:Int)=2;omega),if_neg (by show ¬ (6:Int)=7;omega),if_neg (by show ¬ (6:Int)=5;omega),if_pos rfl]
  show(gp r&&(gp t&&fP r t))=true;rw[h,g,hs];rfl
 rw[h1];rfl
theorem gQ.leaf {base:Nat}{n:Nd}(hk:n.kids=[])(hn:fo n=true):gQ base [n] [(base:Int)]:=by
 have h:=gQ.node (base:=base) (ns:=[]) (n:=n) (by rw[hk];exact gQ.nil base) hn;exact h
theorem abq {base:Nat}{t:af}{ts:List af}{ns:List Nd}{a:Nat}{r:List af}(h:iP base t ts = .ok (ns,a,r))(ht:gp t.dw=true)(hg:Good ts):gQ base ns [(a:Int)]:=by
 unfold iP at h;by_cases c:au ⟨#[58]⟩ ts=true
 · rw [if_pos c]at h
   cases hq:ts.tail with
   | nil=>rw[hq]at h;cases h
   | cons u us =>
     rw[hq]at h;simp only at h;by_cases d:u.kind=4∧fP t.dw u.dw=true
     · rw[if_pos d]at h
       injection h with h;injection h with h1 h2;injection h2 with h2 h3;subst h1;subst h2;have hu:=(hg u (List.mem_of_mem_tail (by rw[hq];simp))).ref d.1;exact gQ.leaf rfl (ZQ ht hu d.2)
     · rw[if_neg d]at h;cases h
 · rw[if_neg c]at h
   injection h with h;injection h with h1 h2;injection h2 with h2 h3;subst h1;subst h2;exact gQ.leaf rfl (ZR ht)
theorem Rv : ∀ f : Nat, (∀n deep base ts ns a r,eF f n deep base ts=some (.ok (ns,a,r))→Good ts→gQ base ns [(a:Int)]) ∧
 (∀n deep base ns a ts ns' a' r,rowP f n deep base ns a ts=some (.ok (ns',a',r))→Good ts→gQ base ns [(a:Int)]→gQ base ns' [(a':Int)]) ∧
 (∀deep base ts ns a r,iY f deep base ts=some (.ok (ns,a,r))→Good ts→gQ base ns [(a:Int)]) ∧
 (∀deep base ns ks ts ns' ks' r,gy f deep base ns ks ts=some (.ok (ns',ks',r))→Good ts→gQ base ns ks→gQ base ns' ks')
 | 0=>by
   refine⟨?_, ?_, ?_, ?_⟩
   · intro n deep base ts ns a r h;unfold eF at h;cases h
   · intro n deep base ns a ts ns' a' r h;unfold rowP at h;cases h
   · intro deep base ts ns a r h;unfold iY at h;cases h
   · intro deep base ns ks ts ns' ks' r h;unfold gy at h;cases h
 | f + 1 => by
   obtain⟨i1,i2,i3,i4⟩:=Rv f;refine⟨?_, ?_, ?_, ?_⟩
   · intro n deep base ts ns a r h hg
     rw[pG]at h;by_cases c:n≤3
     · rw[if_pos c]at h
       rcases dQ h with ⟨e,_,h2⟩|⟨ms,b,s,h1,h2⟩
       · cases h2
       · exact i2 _ _ _ _ _ _ _ _ _ h2 (hg.J8 ((xC f).1 _ _ _ _ _ _ _ h1).1) (i1 _ _ _ _ _ _ _ h1 hg)
     · rw [if_neg c]at h
       by_cases d:au ⟨#[45]⟩ ts=true
       · rw [if_pos d]at h
         by_cases d2:12≤deep
         · rw[if_pos d2]at h;cases h
         · rw [if_neg d2]at h
           rcases dQ h with ⟨e,_,h2⟩|⟨ms,b,s,h1,h2⟩
           · cases h2
           · injection h2 with h2;injection h2 with h2;injection h2 with h3 h4;injection h4 with h4 h5
             subst h3;subst h4;exact gQ.node (n:={ Nd.zero with kind:=8,kids:=[(b:Int)] }) (i1 _ _ _ _ _ _ _ h1 hg.tail) (ZN _)
       · rw[if_neg d]at h;exact i3 _ _ _ _ _ _ h hg
   · intro n deep base ns a ts ns' a' r h hg hp
     rw[ug]at h;by_cases c:fD n ts=0
     · rw[if_pos c]at h
       injection h with h;injection h with h;injection h with h1 h2;injection h2 with h2 h3;subst h1;subst h2;exact hp
     · rw [if_neg c]at h
       rcases dQ h with ⟨e,_,h2⟩|⟨ms,b,s,h1,h2⟩
       · cases h2
       · have p2:=i1 _ _ _ _ _ _ _ h1 hg.tail
         have p3:=gQ.node (n:={ Nd.zero with kind:=fD n ts,kids:=[(a:Int),(b:Int)] }) (gQ.app hp p2) (ZP (aaa c));rw[bO,aj]at p3;exact i2 _ _ _ _ _ _ _ _ _ h2 (hg.tail.J8 ((xC f).1 _ _ _ _ _ _ _ h1).1) p3
   · intro deep base ts ns a r h hg
     cases ts with
     | nil=>rw[y5]at h;cases h
     | cons t ts =>
       have ht:=hg t (by simp);have hgs:Good ts:=fun x hx=>hg x (by simp[hx])
       have leaf:∀(x:Nd),x.kids=[]→fo x=true→(some (.ok ([x],base,ts)):Option dW)=some (.ok (ns,a,r))→gQ base ns [(a:Int)]:=by
        intro x hk hn h;injection h with h;injection h with h;injection h with h1 h2;injection h2 with h2 h3;subst h1;subst h2;exact gQ.leaf hk hn
       rw[mG]at h;by_cases c1:au ⟨#[40]⟩ (t :: ts)=true
       · rw [if_pos c1]at h
         by_cases d:12≤deep
         · rw[if_pos d]at h;cases h
         · rw [if_neg d]at h
           rcases dQ h with ⟨e,_,h2⟩|⟨ms,b,s,h1,h2⟩
           · cases h2
           · by_cases d2:au ⟨#[41]⟩ s=true
             · rw[if_pos d2]at h2
               injection h2 with h2;injection h2 with h2;injection h2 with h3 h4;injection h4 with h4 h5;subst h3;subst h4;exact i1 _ _ _ _ _ _ _ h1 hgs
             · rw[if_neg d2]at h2;cases h2
       · rw [if_neg c1] at h
         by_cases c2:t.kind=1
         · rw[if_pos c2]at h;exact leaf { Nd.zero with kind:=1,num:=t.num } rfl (ZO (ht.num c2)) h
         · rw [if_neg c2] at h
           by_cases c3:t.kind=2
           · rw[if_pos c3]at h;exact leaf { Nd.zero with kind:=2,text:=t.text } rfl (ZT (ht.text c3)) h
           · rw [if_neg c3] at h
             by_cases c4:t.kind=6
             · rw[if_pos c4]at h;exact leaf { Nd.zero with kind:=4 } rfl rfl h
             · rw [if_neg c4] at h
               by_cases c5:t.kind=4
               · rw[if_pos c5]at h
                 injection h with h;exact abq h (ht.ref c5) hgs
               · rw [if_neg c5] at h
                 by_cases c6:t.kind=3
                 · rw [if_pos c6]at h
                   by_cases c7:t.text=⟨#[84,82,85,69]⟩
                   · rw[if_pos c7]at h;exact leaf { Nd.zero with kind:=3,num:=1 } rfl rfl h
                   · rw [if_neg c7]at h
                     by_cases c8:t.text=⟨#[70,65,76,83,69]⟩
                     · rw[if_pos c8]at h;exact leaf { Nd.zero with kind:=3 } rfl rfl h
                     · rw [if_neg c8]at h
                       by_cases c9:au ⟨#[40]⟩ ts=true
                       · rw [if_pos c9]at h
                         by_cases d:12≤deep
                         · rw[if_pos d]at h;cases h
                         · rw [if_neg d]at h
                           rcases dQ h with ⟨e,_,h2⟩|⟨ms,ks,s,h1,h2⟩
                           · cases h2
                           · have k1:gQ base ms ks:=by
                              by_cases c10:au ⟨#[41]⟩ ts.tail=true
                              · rw[if_pos c10]at h1
                                injection h1 with h1;injection h1 with h1;injection h1 with h3 h4;injection h4 with h4 h5;subst h3;subst h4;exact gQ.nil _
                              · rw[if_neg c10]at h1;exact i4 _ _ _ _ _ _ _ _ h1 hgs.tail (gQ.nil _)
                             by_cases d2:au ⟨#[41]⟩ s=true
                             · rw [if_pos d2]at h2
                               injection h2 with h2;injection h2 with h2;injection h2 with h3 h4;injection h4 with h4 h5;subst h3;subst h4
                               have hcb:jo t.text=true:=by
                                unfold jo;rw[(ht.name c6).1,(ht.name c6).2,decide_eq_true c7,decide_eq_true c8];rfl
                               exact gQ.node (n:={ Nd.zero with kind:=7,text:=t.text,kids:=ks }) k1 (ZM hcb)
                             · rw[if_neg d2]at h2;cases h2
                       · rw[if_neg c9]at h;cases h
                 · rw[if_neg c6]at h;cases h
   · intro deep base ns ks ts ns' ks' r h hg hp
     rw[sJ]at h;rcases dQ h with ⟨e,_,h2⟩|⟨ms,b,s,h1,h2⟩
     · cases h2
     · have p2:=gQ.app hp (i1 _ _ _ _ _ _ _ h1 hg)
       have hgs:=hg.J8 ((xC f).1 _ _ _ _ _ _ _ h1).1;by_cases d:au ⟨#[44]⟩ s=true
       · rw[if_pos d]at h2
         exact i4 _ _ _ _ _ _ _ _ h2 hgs.tail p2
       · rw[if_neg d]at h2
         injection h2 with h2;injection h2 with h2;injection h2 with h3 h4;injection h4 with h4 h5;subst h3;subst h4;exact p2
theorem PZ {f:Nat}{ts:List af}{ns:List Nd}(h:mF f ts=some (.ok ns))(hg:Good ts):dM ns=true:=by
 unfold mF at h;rcases dQ h with ⟨e,_,h2⟩|⟨ms,b,s,h1,h2⟩
 · cases h2
 · have hp:=(Rv f).1 _ _ _ _ _ _ _ h1 hg
   by_cases c:uS s=0
   · rw[if_pos c]at h2
     injection h2 with h2;injection h2 with h2;subst h2;have:=hp [] [];rw[fu]at this;unfold dM;rw[this];rfl
   · rw[if_neg c]at h2;cases h2
theorem Ap:∀(n:Nat)(l t:List Int)(k:Nat),l.length≤n→Bytes l→dS l=some (t,k)→Bytes t∧∀x∈t,¬ x<32
 | _,[],_,_,_,_,h=>by simp[dS]at h
 | 0,_ :: _,_,_,hn,_,_=>by simp at hn
 | n + 1, x :: l,t,k,hn,hb,h=>by
   have hbl:Bytes l:=fun y hy=>hb y (by simp[hy])
   rw[rF]at h;by_cases h1:x<32
   · rw[if_pos h1]at h;cases h
   · rw [if_neg h1]at h
     by_cases h2:x≠34
     · rw [if_pos h2]at h
       cases hq:dS l with
       | none=>rw[hq]at h;cases h
       | some q =>
         rw[hq]at h;simp only[Option.map_some,bA,bD]at h;obtain⟨g1,g2⟩:=Ap n l q.1 q.2 (by simp at hn;omega) hbl hq;rw[← h.1];refine⟨?_, ?_⟩
         · intro y hy
           rcases List.mem_cons.1 hy with rfl|hy
           · exact hb _ (by simp)
           · exact g1 y hy
         · intro y hy
           rcases List.mem_cons.1 hy with rfl|hy
           · exact h1
           · exact g2 y hy
     · rw [if_neg h2]at h
       cases l with
       | nil=>simp at h;rw[h.1];exact⟨Bytes.nil,by simp⟩
       | cons y m =>
         by_cases hy:y=34
         · simp only [hy,if_true]at h
           cases hq:dS m with
           | none=>rw[hq]at h;cases h
           | some q =>
             rw[hq]at h;simp only[Option.map_some,bA,bD]at h;obtain⟨g1,g2⟩:=Ap n m q.1 q.2 (by simp at hn;omega) (fun z hz=>hbl z (by simp[hz])) hq;rw[← h.1];refine⟨?_, ?_⟩
             · intro z hz
               rcases List.mem_cons.1 hz with rfl|hz
               · omega
               · exact g1 z hz
             · intro z hz
               rcases List.mem_cons.1 hz with rfl|hz
               · omega
               · exact g2 z hz
         · simp only[hy,if_false,bA,bD]at h
           rw[← h.1];exact⟨Bytes.nil,by simp⟩
theorem Bytes.span{l:List Int}(h:Bytes l)(p:Int→Bool):Bytes (l.takeWhile p):=fun x hx=>h x ((List.takeWhile_prefix p).subset hx)
theorem Rp (l:List Int)(t:af)(n p:Nat)(hb:Bytes l)(h:eP l=some (t,n)):KE (t.goto p)∧t.kind≠0:=by
 cases l with
 | nil=>simp[eP]at h
 | cons x l =>
   rw[p9]at h;by_cases h1:isNum x=true
   · rw [if_pos h1]at h
     unfold jQ at h;split at h
     · cases h
     · simp only[bA,bD]at h
       rw[← h.1];have hv:=xJ ((x :: l).takeWhile isNum) [] (rP isNum _) (by decide);rw[fQ]at hv;exact⟨⟨fun _=>hv,fun h=>by simp[af.goto]at h,fun h=>by simp[af.goto]at h,fun h=>by simp[af.goto]at h⟩,by simp⟩
   · rw [if_neg h1]at h
     by_cases h2:x=34
     · rw [if_pos h2]at h
       unfold jR at h;cases hq:dS l with
       | none=>rw[hq]at h;cases h
       | some q =>
         rw[hq]at h;simp only[Option.map_some,bA,bD]at h;obtain⟨g1,g2⟩:=Ap _ l q.1 q.2 (ag _) (fun y hy=>hb y (by simp[hy])) hq;rw[← h.1];refine⟨⟨fun h=>by simp[af.goto]at h,fun _ => ?_,fun h=>by simp[af.goto]at h,fun h=>by simp[af.goto]at h⟩,by simp⟩;show lq (sb (strOfNums q.1))=true;rw[gK _ g1];unfold lq;exact decide_eq_true g2
     · rw [if_neg h2]at h
       by_cases h3:x=35
       · rw [if_pos h3]at h
         unfold oD at h;split at h
         · simp only[bA,bD]at h
           rw[← h.1];exact⟨⟨fun h=>by simp[af.goto]at h,fun h=>by simp[af.goto]at h,fun h=>by simp[af.goto]at h,fun h=>by simp[af.goto]at h⟩,by simp⟩
         · cases h
       · rw [if_neg h3]at h
         by_cases h4:isLet x=true∨x=36
         · rw [if_pos h4]at h
           unfold lD at h;cases hq:fO (strOfNums ((x :: l).takeWhile isWord))with
           | some d =>
             rw[hq]at h;simp only[bA,bD]at h;rw[← h.1];exact⟨⟨fun h=>by simp[af.goto]at h,fun h=>by simp[af.goto]at h,fun h=>by simp[af.goto]at h,fun _=>(vX _ d hq).2.1⟩,by simp⟩
           | none =>
             rw[hq]at h;simp only at h;by_cases hc:iO ((x :: l).takeWhile isWord)=true
             · rw [if_pos hc]at h
               simp only[bA,bD]at h;rw[← h.1];refine⟨⟨fun h=>by simp[af.goto]at h,fun h=>by simp[af.goto]at h,fun _=>⟨?_, ?_⟩,fun h=>by simp[af.goto]at h⟩,by simp⟩
               · show iO (sb (strOfNums ((x :: l).takeWhile isWord)))=true
                 rw[gK _ (hb.span isWord)];exact hc
               · show(fO (strOfNums ((x :: l).takeWhile isWord))).isNone=true
                 rw[hq];rfl
             · rw[if_neg hc]at h;cases h
         · rw [if_neg h4]at h
           unfold ny at h;split at h
           · cases h
           · simp only[bA,bD]at h
             rw[← h.1];exact⟨⟨fun h=>by simp[af.goto]at h,fun h=>by simp[af.goto]at h,fun h=>by simp[af.goto]at h,fun h=>by simp[af.goto]at h⟩,by simp⟩
def Fit(ts:List af):Prop:=∃body e,ts=body++[e]∧e.kind=0∧∀t∈body,t.kind≠0
theorem IZ:∀(f p:Nat)(l:List Int)(ts:List af),Bytes l→eG f p l=some ts→Good ts∧Fit ts
 | f,p,[],ts,_,h=>by
   have h0:eG f p []=some [af.zero.goto p]:=by unfold eG;rfl
   rw[h0]at h;injection h with h;subst h;refine⟨?_,[],_,rfl,rfl,by simp⟩;intro t ht;simp at ht;subst ht;exact⟨fun h=>by simp[af.goto,af.zero]at h,fun h=>by simp[af.goto,af.zero]at h,fun h=>by simp[af.goto,af.zero]at h,fun h=>by simp[af.goto,af.zero]at h⟩
 | 0,_,_ :: _,_,_,h=>by unfold eG at h;cases h
 | f + 1, p,x :: l,ts,hb,h=>by
   rw[qG]at h;by_cases hx:x=32
   · rw[if_pos hx]at h
     exact IZ f (p+1) l ts (fun y hy=>hb y (by simp[hy])) h
   · rw [if_neg hx]at h
     cases hq:eP (x :: l)with
     | none=>rw[hq]at h;cases h
     | some q =>
       obtain⟨t0,n⟩:=q;obtain⟨g1,g2⟩:=Rp _ _ _ p hb hq;rw[hq]at h;simp only[Option.map_eq_some_iff]at h;obtain⟨us,h1,rfl⟩:=h;obtain⟨k1,body,e,k2,k3,k4⟩:=IZ f (p+n) ((x :: l).drop n) us (fun y hy=>hb y (List.mem_of_mem_drop hy)) h1;refine⟨?_,t0.goto p :: body,e,by rw[k2];rfl,k3, ?_⟩
       · intro t ht
         rcases List.mem_cons.1 ht with rfl|ht
         · exact g1
         · exact k1 t ht
       · intro t ht
         rcases List.mem_cons.1 ht with rfl|ht
         · exact g2
         · exact k4 t ht
theorem Ey(s:ByteArray)(ts:List af)(h:fG (sb s)=some ts):Good ts∧Fit ts:=IZ _ _ _ _ (fun x hx=>uh s x hx) h
def jv:List ByteArray:=[⟨#[61]⟩,⟨#[60,62]⟩,⟨#[60]⟩,⟨#[60,61]⟩,⟨#[62]⟩,⟨#[62,61]⟩,⟨#[38]⟩,⟨#[43]⟩,⟨#[45]⟩,⟨#[42]⟩,⟨#[47]⟩]
def rk(o:Nat):Nat:=if o<6 then 0 else if o<7 then 1 else if o<9 then 2 else 3
theorem QA (o:Nat):rk o≤3:=by
 unfold rk;by_cases h1:o<6
 · rw[if_pos h1];omega
 · rw [if_neg h1]
   by_cases h2:o<7
   · rw[if_pos h2];omega
   · rw[if_neg h2]
     by_cases h3:o<9
     · rw[if_pos h3];omega
     · rw[if_neg h3];omega
theorem PR (t:af)(ts:List af)(o:Nat)(ho:o<11)(hk:t.kind=5)(ht:t.text=jv.getD o ⟨#[]⟩)(n:Nat)(hn:n≤3):fD n (t :: ts)=if rk o=n then 9+(o:Int)else 0:=by
 have hs:∀s:ByteArray,au s (t :: ts)=decide (jv.getD o ⟨#[]⟩=s):=by
  intro s;unfold au;simp only[hk,ht,decide_true,Bool.true_and]
 unfold fD;simp only[hs];have key:∀n:Nat,n<4→∀o:Nat,o<11→(match (fC n).find? (fun p=>decide (jv.getD o ⟨#[]⟩=p.1))with|some p=>p.2|none=>0)=if rk o=n then 9+(o:Int)else 0:=by decide +kernel
 exact key n (by omega) o ho
def Stop(n:Nat)(ts:List af):Prop:=∀m,n≤m→m≤3→fD m ts=0
def xg(p:Nat)(l:List Int):Option (List af):=eG l.length p l
theorem YX(p:Nat):xg p []=some [af.zero.goto p]:=by unfold xg eG;rfl
theorem YY (p:Nat)(x:Int)(l:List Int)(t:af)(n:Nat)(hx:x≠32)(h:eP (x :: l)=some (t,n)):xg p (x :: l)=(xg (p+n) ((x :: l).drop n)).map (t.goto p :: ·):=by
 have hn:=qa _ _ _ h;unfold xg;rw[aK,qG,if_neg hx,h];simp only;rw[Ex _ ((x :: l).drop n).length _ _ (by rw[List.length_drop];simp only[aK];omega) (ag _)]
theorem YW (p:Nat)(a b:List Int)(t:af)(ha:∀x,a.head? = some x→x≠32)(h:eP (a++b)=some (t,a.length)):xg p (a++b)=(xg (p+a.length) b).map (t.goto p :: ·):=by
 cases a with
 | nil=>have:=(qa _ _ _ h).1;simp at this
 | cons x a =>
   rw[dO]at h ⊢;rw[YY p x (a++b) t _ (ha x rfl) h];congr 2;rw[← dO,List.drop_left]
theorem aef (v:Nat)(hv:v≤9223372036854775807)(b:List Int)(hb:∀x,b.head? = some x→isNum x=false):eP (aF v++b)=some ({ af.zero with kind:=1,num:=(v:Int) },(aF v).length):=by
 cases hd:aF v with
 | nil=>exact absurd hd (qD v)
 | cons x l =>
   have hall:=rA v;rw[hd]at hall;have hx:=hall x (by simp);rw[dO,p9,if_pos hx, ← dO];unfold jQ;rw[uj isNum (x :: l) b hall hb];have hval:bH (x :: l)=v:=by rw[← hd];exact AL v
   rw[hval]
   have hno:¬ ((1<(x :: l).length∧(x :: l++b).head? = some 48)∨9223372036854775807<(v:Int)):=by
    rintro(⟨h1,h2⟩|h)
    · by_cases h10:v<10
      · rw[lg v h10]at hd
        injection hd with _ hl;rw[← hl]at h1;simp at h1
      · have:=VI (v+1) v (by omega) (by omega)
        rw[hd]at this;exact this h2
    · omega
   rw[if_neg hno]
def pR(o:Nat):List Int:=[[61],[60,62],[60],[60,61],[62],[62,61],[38],[43],[45],[42],[47]].getD o []
def fU(s:ByteArray)(t:af):Prop:=t.kind=5∧t.text=s
theorem fU.sign {s:ByteArray}{t:af}(h:fU s t)(u:ByteArray)(ts:List af):au u (t :: ts)=decide (s=u):=by
 unfold au;simp only[h.1,h.2,decide_true,Bool.true_and]
inductive ow:List af→Nd→Prop
 | num (t:af)(h:t.kind=1):ow [t] { Nd.zero with kind:=1,num:=t.num }
 | text (t:af)(h:t.kind=2):ow [t] { Nd.zero with kind:=2,text:=t.text }
 | yes (t:af)(h:t.kind=3)(g:t.text=⟨#[84,82,85,69]⟩):ow [t] { Nd.zero with kind:=3,num:=1 }
 | no (t:af)(h:t.kind=3)(g:t.text=⟨#[70,65,76,83,69]⟩):ow [t] { Nd.zero with kind:=3 }
 | dead (t:af)(h:t.kind=6):ow [t] { Nd.zero with kind:=4 }
 | ref (t:af)(h:t.kind=4):ow [t] { Nd.zero with kind:=5,ref:=t.dw }
 | range (t c u:af)(h:t.kind=4)(hc:fU ⟨#[58]⟩ c)(g:u.kind=4)(hs:fP t.dw u.dw=true):ow [t,c,u] { Nd.zero with kind:=6,ref:=t.dw,ae:=u.dw }
def Wr (n rk d:Nat)(ts:List af)(d':Nat)(ts':List af):Prop :=
 (n≤rk∧ts'=ts∧d'=d)∨(rk<n∧d'=d+1∧∃l r,fU ⟨#[40]⟩ l∧fU ⟨#[41]⟩ r∧ts'=l :: (ts++[r]))
inductive Sh:Bool→Nat→List Nd→List Int→List af→Nat→Nat→Prop
 | leaf (base:Nat)(ts:List af)(nd:Nd)(h:ow ts nd):Sh false base [nd] [(base:Int)] ts 5 0
 | neg (base:Nat)(ns:List Nd)(a:Int)(ts:List af)(rk d:Nat)(h:Sh false base ns [a] ts rk d)(m:af)(hm:fU ⟨#[45]⟩ m)(d':Nat)(ts':List af)(hw:Wr 4 rk d ts d' ts') :
    Sh false base (ns++[{ Nd.zero with kind:=8,kids:=[a] }]) [((base+ns.length:Nat):Int)] (m :: ts') 4 (d'+1)
 | op (base o:Nat)(ho:o<11)(ns ms:List Nd)(a b:Int)(ts us:List af)(pY lY d1 d2:Nat)(h:Sh false base ns [a] ts pY d1)(g:Sh false (base+ns.length) ms [b] us lY d2)
    (s:af)(hs:fU (jv.getD o ⟨#[]⟩) s)(e1 e2:Nat)(ts' kN:List af)(hw:Wr (rk o) pY d1 ts e1 ts')(gw:Wr (rk o+1) lY d2 us e2 kN) :
    Sh false base (ns++(ms++[{ Nd.zero with kind:=9+(o:Int),kids:=[a,b] }])) [((base+(ns.length+ms.length):Nat):Int)] (ts'++s :: kN) (rk o) (max e1 e2)
 | call (base:Nat)(ns:List Nd)(ks:List Int)(ts:List af)(d:Nat)(h:Sh true base ns ks ts 0 d)(t l r:af)(ht:t.kind=3)(h1:t.text≠⟨#[84,82,85,69]⟩)(h2:t.text≠⟨#[70,65,76,83,69]⟩)(hl:fU ⟨#[40]⟩ l)(hr:fU ⟨#[41]⟩ r) :
    Sh false base (ns++[{ Nd.zero with kind:=7,text:=t.text,kids:=ks }]) [((base+ns.length:Nat):Int)] (t :: l :: (ts++[r])) 5 (d+1)
 | none (base:Nat):Sh true base [] [] [] 0 0
 | one (base:Nat)(ns:List Nd)(a:Int)(ts:List af)(rk d:Nat)(h:Sh false base ns [a] ts rk d):Sh true base ns [a] ts 0 d
 | and (base:Nat)(ns ms:List Nd)(ks:List Int)(b:Int)(ts us:List af)(rk d1 d2:Nat)(h:Sh true base ns ks ts 0 d1)(hk:ks≠[])(c:af)(hc:fU ⟨#[44]⟩ c)(g:Sh false (base+ns.length) ms [b] us rk d2) :
    Sh true base (ns++ms) (ks++[b]) (ts++c :: us) 0 (max d1 d2)
def At (n deep base:Nat)(ts:List af)(ns:List Nd)(a:Nat)(r:List af):Prop :=
 if n≤4 then ∃f,eF f n deep base ts=some (.ok (ns,a,r))else ∃f,iY f deep base ts=some (.ok (ns,a,r))
def Goes (n deep base:Nat)(ts:List af)(ns:List Nd)(a:Nat)(r:List af):Prop :=
 ∃Cu a1 r1,At (n+1) deep base ts Cu a1 r1∧∀f y,rowP f n deep base ns a r=some y→∃g,rowP g n deep base Cu a1 r1=some y
theorem ab' {n deep base:Nat}{ns:List Nd}{a:Nat}{r:List af}(h:fD n r=0):rowP 1 n deep base ns a r=some (.ok (ns,a,r)):=by
 rw[ug,if_pos h]
theorem Goes.at {n deep base:Nat}{ts:List af}{ns:List Nd}{a:Nat}{r:List af}(hn:n≤3)(h:Goes n deep base ts ns a r)(hs:Stop n r):At n deep base ts ns a r:=by
 obtain⟨Cu,a1,r1,h1,h2⟩:=h;obtain⟨g,hg⟩:=h2 1 _ (ab' (hs n (ag _) hn));unfold At at h1 ⊢;rw[if_pos (by omega)]at h1 ⊢;obtain⟨f,hf⟩:=h1;refine⟨max f g+1, ?_⟩;rw[pG,if_pos hn,Ea (Nat.le_max_left f g) hf];exact QD (Nat.le_max_right f g) hg
theorem At.goes{n deep base:Nat}{ts:List af}{ns:List Nd}{a:Nat}{r:List af}(h:At (n+1) deep base ts ns a r):Goes n deep base ts ns a r:=⟨ns,a,r,h,fun f _ hy=>⟨f,hy⟩⟩
theorem At.four {deep base:Nat}{ts:List af}{ns:List Nd}{a:Nat}{r:List af}(h:At 5 deep base ts ns a r)(hm:au ⟨#[45]⟩ ts=false):At 4 deep base ts ns a r:=by
 unfold At at h ⊢;rw[if_neg (by omega)]at h;rw[if_pos (by omega)];obtain⟨f,hf⟩:=h;refine⟨f+1, ?_⟩;rw[pG,if_neg (by omega),hm,if_neg (by simp)];exact hf
theorem At.down {deep base:Nat}{ts:List af}{ns:List Nd}{a:Nat}{r:List af}(n:Nat):∀(k:Nat),n+k≤5→At (n+k) deep base ts ns a r→Stop n r→(n+k=5→au ⟨#[45]⟩ ts=false)→At n deep base ts ns a r
 | 0,_,h,_,_=>h
 | k + 1,hk,h,hs,hm=>by
   have h1:At (n+k) deep base ts ns a r:=by
    by_cases c:n+(k+1)=5
    · rw[c]at h
      have:=h.four (hm c);rwa[show n+k=4 by omega]
    · exact Goes.at (by omega) (At.goes h) (fun m h1 h2=>hs m (by omega) h2)
   exact At.down n k (by omega) h1 hs (fun h=>by omega)
structure kR (base:Nat)(ns:List Nd)(a:Nat)(ts:List af)(rk d:Nat):Prop where
 le:rk≤5
 close:∀rest,au ⟨#[41]⟩ (ts++rest)=false
 minus:rk=5→∀rest,au ⟨#[45]⟩ (ts++rest)=false
 high:∀deep rest,deep+d≤12→au ⟨#[58]⟩ rest=false→4≤rk→At rk deep base (ts++rest) ns a rest
 low:∀deep rest,deep+d≤12→au ⟨#[58]⟩ rest=false→rk≤3→Stop (rk+1) rest→Goes rk deep base (ts++rest) ns a rest
theorem Stop.more{n m:Nat}{r:List af}(h:Stop n r)(hm:n≤m):Stop m r:=fun k h1 h2=>h k (by omega) h2
theorem kR.at {base:Nat}{ns:List Nd}{a:Nat}{ts:List af}{rk d:Nat}(h:kR base ns a ts rk d)(n deep:Nat)(rest:List af)(hn:n≤rk)(hd:deep+d≤12)(hc:au ⟨#[58]⟩ rest=false)(hs:Stop n rest) :
 At n deep base (ts++rest) ns a rest:=by
 have hle:=h.le
 have h1:At rk deep base (ts++rest) ns a rest:=by
  by_cases c:4≤rk
  · exact h.high deep rest hd hc c
  · exact Goes.at (by omega) (h.low deep rest hd hc (by omega) (hs.more (by omega))) (hs.more hn)
 refine At.down n (rk - n) (by omega) ?_ hs (fun e=>h.minus (by omega) rest);rwa[show n+(rk - n)=rk by omega]
theorem J6 {s:ByteArray}{t:af}(h:fU s t)(ts:List af)(hs:(List.range 4).all (fun n=>(fC n).all fun p=>decide (s≠p.1))=true)(n:Nat):Stop n (t :: ts):=by
 intro m _ hm;unfold fD
 have hf:(fC m).find? (fun p=>au p.1 (t :: ts))=none:=by
  rw[List.find?_eq_none];intro p hp;rw[h.sign p.1 ts];have:=List.all_eq_true.1 hs m (by simp;omega);have:=List.all_eq_true.1 this p hp
  simpa using this
 rw[hf]
theorem kR.brk {base:Nat}{ns:List Nd}{a:Nat}{ts:List af}{rk d:Nat}(h:kR base ns a ts rk d){l r:af}(hl:fU ⟨#[40]⟩ l)(hr:fU ⟨#[41]⟩ r):kR base ns a (l :: (ts++[r])) 5 (d+1):=by
 refine⟨ag _,fun rest => ?_,fun _ rest => ?_,fun deep rest hd hc _ => ?_,fun deep rest _ _ h=>by omega⟩
 · rw[dO,hl.sign];decide
 · rw[dO,hl.sign];decide
 · have h1:=h.at 0 (deep+1) (r :: rest) (by omega) (by omega) (by rw[hr.sign];decide) (J6 hr rest (by decide) 0)
   unfold At at h1 ⊢;rw[if_pos (by omega)]at h1;rw[if_neg (by omega)];obtain⟨f,hf⟩:=h1;refine⟨f+1, ?_⟩;rw[dO,mG,hl.sign,if_pos (by decide),if_neg (by omega),bO,List.singleton_append,hf];show(if au ⟨#[41]⟩ (r :: rest)=true then _ else _)=_;rw[hr.sign,if_pos (by decide)];rfl
theorem kR.wr {base:Nat}{ns:List Nd}{a:Nat}{ts:List af}{rk d n d':Nat}{ts':List af}(h:kR base ns a ts rk d)(hw:Wr n rk d ts d' ts')(hn:n≤5):∃pX,n≤pX∧kR base ns a ts' pX d':=by
 rcases hw with ⟨h1,rfl,rfl⟩|⟨h1,rfl,l,r,hl,hr,rfl⟩
 · exact⟨rk,h1,h⟩
 · exact⟨5,hn,h.brk hl hr⟩
theorem kR.goes {base:Nat}{ns:List Nd}{a:Nat}{ts:List af}{rk d:Nat}(h:kR base ns a ts rk d)(n deep:Nat)(rest:List af)(hn:n≤rk)(NN:n≤3)(hd:deep+d≤12)(hc:au ⟨#[58]⟩ rest=false)(hs:Stop (n+1) rest) :
 Goes n deep base (ts++rest) ns a rest:=by
 by_cases c:n=rk
 · subst c;exact h.low deep rest hd hc NN hs
 · exact(h.at (n+1) deep rest (by omega) hd hc hs).goes
theorem UB {base:Nat}{ts:List af}{nd:Nd}(h:ow ts nd):kR base [nd] base ts 5 0:=by
 have key:(∀rest,au ⟨#[41]⟩ (ts++rest)=false)∧(∀rest,au ⟨#[45]⟩ (ts++rest)=false)∧∀deep rest,au ⟨#[58]⟩ rest=false→iY 1 deep base (ts++rest)=some (.ok ([nd],base,rest)):=by
  have hs:∀(t:af)(s:ByteArray)(us:List af),t.kind≠5→au s (t :: us)=false:=by
   intro t s us ht;unfold au;simp only[decide_eq_false ht,Bool.false_and]
  cases h with
  | num t h =>
    refine⟨fun rest=>hs _ _ _ (by omega),fun rest=>hs _ _ _ (by omega),fun deep rest hc => ?_⟩;rw[List.singleton_append,mG,hs _ _ _ (by omega),if_neg (by simp),if_pos h]
  | text t h =>
    refine⟨fun rest=>hs _ _ _ (by omega),fun rest=>hs _ _ _ (by omega),fun deep rest hc => ?_⟩;rw[List.singleton_append,mG,hs _ _ _ (by omega),if_neg (by simp),if_neg (by omega),if_pos h]
  | yes t h g =>
    refine⟨fun rest=>hs _ _ _ (by omega),fun rest=>hs _ _ _ (by omega),fun deep rest hc => ?_⟩;rw[List.singleton_append,mG,hs _ _ _ (by omega),if_neg (by simp),if_neg (by omega),if_neg (by omega),if_neg (by omega),if_neg (by omega),if_pos h,if_pos g]
  | no t h g =>
    refine⟨fun rest=>hs _ _ _ (by omega),fun rest=>hs _ _ _ (by omega),fun deep rest hc => ?_⟩;rw[List.singleton_append,mG,hs _ _ _ (by omega),if_neg (by simp),if_neg (by omega),if_neg (by omega),if_neg (by omega),if_neg (by omega),if_pos h,if_neg (by rw[g];decide),if_pos g]
  | dead t h =>
    refine⟨fun rest=>hs _ _ _ (by omega),fun rest=>hs _ _ _ (by omega),fun deep rest hc => ?_⟩;rw[List.singleton_append,mG,hs _ _ _ (by omega),if_neg (by simp),if_neg (by omega),if_neg (by omega),if_pos h]
  | ref t h =>
    refine⟨fun rest=>hs _ _ _ (by omega),fun rest=>hs _ _ _ (by omega),fun deep rest hc => ?_⟩;rw[List.singleton_append,mG,hs _ _ _ (by omega),if_neg (by simp),if_neg (by omega),if_neg (by omega),if_neg (by omega),if_pos h];unfold iP;rw[hc,if_neg (by simp)]
  | range t c u h hc g hsp =>
    refine⟨fun rest=>hs _ _ _ (by omega),fun rest=>hs _ _ _ (by omega),fun deep rest _ => ?_⟩;show iY 1 deep base (t :: c :: u :: rest)=_;rw[mG,hs _ _ _ (by omega),if_neg (by simp),if_neg (by omega),if_neg (by omega),if_neg (by omega),if_pos h];unfold iP;rw[hc.sign,if_pos (by decide)];show some (if u.kind=4∧fP t.dw u.dw=true then _ else _)=_;rw[if_pos ⟨g,hsp⟩]
 refine⟨ag _,key.1,fun _=>key.2.1,fun deep rest _ hc _ => ?_,fun deep rest _ _ h=>by omega⟩;unfold At;rw[if_neg (by omega)];exact⟨1,key.2.2 deep rest hc⟩
theorem adw(r:List af):Stop 4 r:=fun m h1 h2=>by omega
theorem UC {base:Nat}{ns:List Nd}{a:Nat}{ts:List af}{rk d:Nat}(h:kR base ns a ts rk d){m:af}(hm:fU ⟨#[45]⟩ m)(h4:4≤rk) :
 kR base (ns++[{ Nd.zero with kind:=8,kids:=[(a:Int)] }]) (base+ns.length) (m :: ts) 4 (d+1):=by
 refine⟨by omega,fun rest=>by rw[dO,hm.sign];decide,fun h=>by omega,fun deep rest hd hc _ => ?_,fun deep rest _ _ h=>by omega⟩;have h1:=h.at 4 (deep+1) rest h4 (by omega) hc (adw _);unfold At at h1 ⊢;rw[if_pos (by omega)]at h1 ⊢;obtain⟨f,hf⟩:=h1;refine⟨f+1, ?_⟩;rw[dO,pG,if_neg (by omega),hm.sign,if_pos (by decide),if_neg (by omega),List.tail_cons,hf];rfl
theorem aaf:∀o:Nat,o<11→jv.getD o ⟨#[]⟩≠⟨#[58]⟩:=by decide +kernel
theorem adx {o:Nat}(ho:o<11){s:af}(hs:fU (jv.getD o ⟨#[]⟩) s)(ts:List af):Stop (rk o+1) (s :: ts):=by
 intro m h1 h2;rw[PR s ts o ho hs.1 hs.2 m h2,if_neg (by omega)]
theorem UE {base o:Nat}(ho:o<11){ns ms:List Nd}{a b:Nat}{ts us:List af}{pY lY d1 d2:Nat}(h:kR base ns a ts pY d1)(g:kR (base+ns.length) ms b us lY d2){s:af}(hs:fU (jv.getD o ⟨#[]⟩) s)
 (h1:rk o≤pY)(h2:rk o+1≤lY) :
 kR base (ns++(ms++[{ Nd.zero with kind:=9+(o:Int),kids:=[(a:Int),(b:Int)] }])) (base+(ns.length+ms.length)) (ts++s :: us) (rk o) (max d1 d2):=by
 have hr:=QA o;refine⟨by omega,fun rest=>by rw[bO];exact h.close _,fun e=>by omega,fun deep rest _ _ e=>by omega,fun deep rest hd hc _ hst => ?_⟩;obtain⟨Cu,a1,r1,k1,k2⟩:=h.goes (rk o) deep (s :: (us++rest)) h1 hr (by omega) (by rw[hs.sign];exact decide_eq_false (aaf o ho)) (adx ho hs _);have k3:=g.at (rk o+1) deep rest h2 (by omega) hc hst;unfold At at k3;rw[if_pos (by omega)]at k3;obtain⟨f,hf⟩:=k3;refine⟨Cu,a1,r1,by rw[bO];exact k1,fun f' y hy => ?_⟩;refine k2 (max f f'+1) y ?_;rw[ug,PR s _ o ho hs.1 hs.2 _ hr,if_pos rfl,if_neg (by omega),List.tail_cons,Ea (Nat.le_max_left f f') hf];exact QD (Nat.le_max_right f f') hy
def AY (base:Nat)(ns:List Nd)(ks:List Int)(ts:List af)(d:Nat):Prop :=
 (ks=[]∧ns=[]∧ts=[]∧d=0)∨(ks≠[]∧(∀rest,au ⟨#[41]⟩ (ts++rest)=false)∧∀deep rest,deep+d≤12→au ⟨#[58]⟩ rest=false→Stop 0 rest →
   ∀f y,(if au ⟨#[44]⟩ rest=true then gy f deep base ns ks rest.tail else some (.ok (ns,ks,rest)))=some y→∃g,gy g deep base [] [] (ts++rest)=some y)
theorem UD {base:Nat}{ns:List Nd}{a:Nat}{ts:List af}{rk d:Nat}(h:kR base ns a ts rk d):AY base ns [(a:Int)] ts d:=by
 refine .inr ⟨by simp,h.close,fun deep rest hd hc hs f y hy => ?_⟩;have h1:=h.at 0 deep rest (by omega) hd hc hs;unfold At at h1;rw[if_pos (by omega)]at h1;obtain⟨g,hg⟩:=h1;refine⟨max f g+1, ?_⟩;rw[sJ,dY,Nat.add_zero,Ea (Nat.le_max_right f g) hg];show(if au ⟨#[44]⟩ rest=true then gy (max f g) deep base ns [(a:Int)] rest.tail else some (.ok (ns,[(a:Int)],rest)))=some y;by_cases c:au ⟨#[44]⟩ rest=true
 · rw[if_pos c]at hy ⊢;exact LZ (Nat.le_max_left f g) hy
 · rw[if_neg c]at hy ⊢;exact hy
theorem Uz {base:Nat}{ns ms:List Nd}{ks:List Int}{b:Nat}{ts us:List af}{rk d1 d2:Nat}(h:AY base ns ks ts d1)(hk:ks≠[]){c:af}(hc:fU ⟨#[44]⟩ c)(g:kR (base+ns.length) ms b us rk d2) :
 AY base (ns++ms) (ks++[(b:Int)]) (ts++c :: us) (max d1 d2):=by
 rcases h with ⟨h,_⟩|⟨_,h1,h2⟩
 · exact absurd h hk
 · refine .inr ⟨by simp,fun rest=>by rw[bO];exact h1 _,fun deep rest hd Ie hs f y hy => ?_⟩
   have k1:=g.at 0 deep rest (by omega) (by omega) Ie hs;unfold At at k1;rw[if_pos (by omega)]at k1;obtain⟨g',hg⟩:=k1
   obtain ⟨q,hq⟩:=h2 deep (c :: (us++rest)) (by omega) (by rw[hc.sign];decide) (J6 hc _ (by decide) 0) (max f g'+1) y (by
    rw[hc.sign,if_pos (by decide),List.tail_cons,sJ,Ea (Nat.le_max_right f g') hg];show(if au ⟨#[44]⟩ rest=true then gy (max f g') deep base (ns++ms) (ks++[(b:Int)]) rest.tail else some (.ok (ns++ms,ks++[(b:Int)],rest)))=some y;by_cases e:au ⟨#[44]⟩ rest=true
    · rw[if_pos e]at hy ⊢;exact LZ (Nat.le_max_left f g') hy
    · rw[if_neg e]at hy ⊢;exact hy)
   exact⟨q,by rw[bO];exact hq⟩
theorem UA {base:Nat}{ns:List Nd}{ks:List Int}{ts:List af}{d:Nat}(h:AY base ns ks ts d){t l r:af}(ht:t.kind=3)(h1:t.text≠⟨#[84,82,85,69]⟩)(h2:t.text≠⟨#[70,65,76,83,69]⟩)(hl:fU ⟨#[40]⟩ l)(hr:fU ⟨#[41]⟩ r) :
 kR base (ns++[{ Nd.zero with kind:=7,text:=t.text,kids:=ks }]) (base+ns.length) (t :: l :: (ts++[r])) 5 (d+1):=by
 have hs:∀(s:ByteArray)(us:List af),au s (t :: us)=false:=by
  intro s us;unfold au;simp only[ht];rfl
 refine⟨ag _,fun rest=>hs _ _,fun _ rest=>hs _ _,fun deep rest hd hc _ => ?_,fun deep rest _ _ h=>by omega⟩
 have key:∃f,(if au ⟨#[41]⟩ (ts++r :: rest)=true then some (.ok ([],[],ts++r :: rest))else gy f (deep+1) base [] [] (ts++r :: rest))=some (.ok (ns,ks,r :: rest)):=by
  rcases h with ⟨rfl,rfl,rfl,_⟩|⟨_,g1,g2⟩
  · refine⟨0, ?_⟩
    rw[fQ,hr.sign,if_pos (by decide)]
  · obtain⟨f,hf⟩:=g2 (deep+1) (r :: rest) (by omega) (by rw[hr.sign];decide) (J6 hr rest (by decide) 0) 0 (.ok (ns,ks,r :: rest)) (by rw[hr.sign,if_neg (by decide)])
    refine⟨f, ?_⟩;rw[g1,if_neg (by simp)];exact hf
 obtain⟨f,hf⟩:=key;unfold At;rw[if_neg (by omega)];refine⟨f+1, ?_⟩;rw[dO,dO,bO,List.singleton_append,mG,hs,if_neg (by simp),if_neg (by omega),if_neg (by omega),if_neg (by omega),if_neg (by omega),if_pos ht,if_neg h1,if_neg h2,hl.sign,if_pos (by decide),if_neg (by omega),List.tail_cons,hf];show(if au ⟨#[41]⟩ (r :: rest)=true then _ else _)=_;rw[hr.sign,if_pos (by decide)];rfl
theorem acM {b:Bool}{base:Nat}{ns:List Nd}{ks:List Int}{ts:List af}{rk d:Nat}(h:Sh b base ns ks ts rk d) :
 (b=false→∃a:Nat,ks=[(a:Int)]∧kR base ns a ts rk d)∧(b=true→AY base ns ks ts d):=by
 induction h with
 | leaf base ts nd h=>exact⟨fun _=>⟨base,rfl,UB h⟩,fun h=>by cases h⟩
 | neg base ns a ts rk d h m hm d' ts' hw ih =>
   refine⟨fun _ => ?_,fun h=>by cases h⟩;obtain⟨a',e,hb⟩:=ih.1 rfl;obtain rfl:a=(a':Int):=by simpa using e
   obtain⟨pX,h1,hb'⟩:=hb.wr hw (by omega);exact⟨_,rfl,UC hb' hm h1⟩
 | op base o ho ns ms a b ts us pY lY d1 d2 h g s hs e1 e2 ts' kN hw gw ih lV =>
   refine⟨fun _ => ?_,fun h=>by cases h⟩;have hr:=QA o;obtain⟨a',e,hb⟩:=ih.1 rfl;obtain rfl:a=(a':Int):=by simpa using e
   obtain⟨b',e',gb⟩:=lV.1 rfl;obtain rfl:b=(b':Int):=by simpa using e'
   obtain⟨r1,h1,hb'⟩:=hb.wr hw (by omega);obtain⟨r2,h2,Wt⟩:=gb.wr gw (by omega);exact⟨_,rfl,UE ho hb' Wt hs h1 h2⟩
 | call base ns ks ts d h t l r ht h1 h2 hl hr ih=>exact⟨fun _=>⟨_,rfl,UA (ih.2 rfl) ht h1 h2 hl hr⟩,fun h=>by cases h⟩
 | none base=>exact⟨fun h=>(by cases h),fun _ => .inl ⟨rfl,rfl,rfl,rfl⟩⟩
 | one base ns a ts rk d h ih =>
   refine⟨fun h=>(by cases h),fun _ => ?_⟩;obtain⟨a',e,hb⟩:=ih.1 rfl;obtain rfl:a=(a':Int):=by simpa using e
   exact UD hb
 | and base ns ms ks b ts us rk d1 d2 h hk c hc g ih lV =>
   refine⟨fun h=>(by cases h),fun _ => ?_⟩;obtain⟨b',e,gb⟩:=lV.1 rfl;obtain rfl:b=(b':Int):=by simpa using e
   exact Uz (ih.2 rfl) hk hc gb
theorem acR {ns:List Nd}{a:Int}{ts:List af}{rk d:Nat}(h:Sh false 0 ns [a] ts rk d)(hd:d≤12)(e:af)(he:e.kind=0):∃f,mF f (ts++[e])=some (.ok ns):=by
 obtain⟨a',_,hb⟩:=(acM h).1 rfl;have hsg:∀s:ByteArray,au s [e]=false:=by intro s;unfold au;simp only[he];rfl
 have h1:=hb.at 0 0 [e] (by omega) (by omega) (hsg _) (by
  intro m _ _;unfold fD
  have hf:(fC m).find? (fun p=>au p.1 [e])=none:=by
   rw[List.find?_eq_none];intro p _;rw[hsg];simp
  rw[hf])
 unfold At at h1;rw[if_pos (by omega)]at h1;obtain⟨f,hf⟩:=h1;refine⟨f, ?_⟩;unfold mF;rw[hf];show(if uS [e]=0 then _ else _)=_;rw[if_pos (show uS [e]=0 from he)]
theorem xz {s:ByteArray}{ts:List af}(h:au s ts=true):∃t,ts=t :: ts.tail∧fU s t:=by
 cases ts with
 | nil=>simp[au]at h
 | cons t ts =>
   unfold au at h;rw[dE,decide_eq_true_iff,decide_eq_true_iff]at h;exact⟨t,rfl,h⟩
theorem aab {n:Nat}{ts:List af}(hn:n≤3)(h:fD n ts≠0):∃o t,o<11∧rk o=n∧ts=t :: ts.tail∧fU (jv.getD o ⟨#[]⟩) t∧fD n ts=9+(o:Int):=by
 obtain⟨p,h1,h2,h3⟩:=Cv h;obtain⟨t,e,ht⟩:=xz h2;have key:∀n:Nat,n<4→(fC n).all (fun p=>(List.range 11).any fun o=>decide (rk o=n)&&(decide (p.1=jv.getD o ⟨#[]⟩)&&decide (p.2=9+(o:Int))))=true:=by decide +kernel
 have:=List.all_eq_true.1 (key n (by omega)) p h1;rw[List.any_eq_true]at this;obtain⟨o,ho,hq⟩:=this;rw[dE,dE,decide_eq_true_iff,decide_eq_true_iff,decide_eq_true_iff]at hq;refine⟨o,t,by simpa using ho,hq.1,e, ?_,by rw[h3,hq.2.2]⟩;rw[← hq.2.1];exact ht
def Has (n deep base:Nat)(ns:List Nd)(a:Nat)(pre:List af):Prop :=
 ∃ts rk d ts' d',Sh false base ns [(a:Int)] ts rk d∧Wr n rk d ts d' ts'∧ts'.Sublist pre∧deep+d'≤12
theorem Has.less {n deep base:Nat}{ns:List Nd}{a:Nat}{pre:List af}(h:Has (n+1) deep base ns a pre):Has n deep base ns a pre:=by
 obtain⟨ts,rk,d,ts',d',h1,h2,h3,h4⟩:=h;rcases h2 with ⟨g1,rfl,rfl⟩|⟨g1,rfl,l,r,hl,hr,rfl⟩
 · exact⟨_,_,_,_,_,h1,.inl ⟨by omega,rfl,rfl⟩,h3,h4⟩
 · by_cases c:n≤rk
   · refine⟨_,_,_,_,_,h1,.inl ⟨c,rfl,rfl⟩, ?_,by omega⟩
     exact((List.sublist_append_left ts [r]).trans (List.sublist_cons_self l _)).trans h3
   · exact⟨_,_,_,_,_,h1,.inr ⟨by omega,rfl,l,r,hl,hr,rfl⟩,h3,h4⟩
def TT (deep base:Nat)(ns:List Nd)(ks:List Int)(pre:List af):Prop :=
 (ks=[]∧ns=[])∨(ks≠[]∧∃ts d c,Sh true base ns ks ts 0 d∧fU ⟨#[44]⟩ c∧(ts++[c]).Sublist pre∧deep+d≤12)
theorem yD {deep base:Nat}{ts pre:List af}{nd:Nd}(h:ow ts nd)(hp:ts.Sublist pre)(hd:deep≤12):Has 5 deep base [nd] base pre :=
 ⟨_,_,_,_,_,.leaf base ts nd h,.inl ⟨ag _,rfl,rfl⟩,hp,by omega⟩
theorem Ns : ∀ f : Nat, (∀ n deep base ts ns a r, eF f n deep base ts=some (.ok (ns,a,r))→n≤4→deep≤12→∃pre,ts=pre++r∧Has n deep base ns a pre) ∧
 (∀n deep base ns a ts ns' a' r pV,rowP f n deep base ns a ts=some (.ok (ns',a',r))→n≤3→deep≤12→Has n deep base ns a pV→∃pre,ts=pre++r∧Has n deep base ns' a' (pV++pre)) ∧
 (∀deep base ts ns a r,iY f deep base ts=some (.ok (ns,a,r))→deep≤12→∃pre,ts=pre++r∧Has 5 deep base ns a pre) ∧
 (∀ deep base ns ks ts ns' ks' r pV,gy f deep base ns ks ts=some (.ok (ns',ks',r))→deep≤12→TT deep base ns ks pV →
   ∃pre us d,ts=pre++r∧Sh true base ns' ks' us 0 d∧us.Sublist (pV++pre)∧deep+d≤12)
 | 0=>by
   refine⟨?_, ?_, ?_, ?_⟩
   · intro n deep base ts ns a r h;unfold eF at h;cases h
   · intro n deep base ns a ts ns' a' r pV h;unfold rowP at h;cases h
   · intro deep base ts ns a r h;unfold iY at h;cases h
   · intro deep base ns ks ts ns' ks' r pV h;unfold gy at h;cases h
 | f + 1 => by
   obtain⟨i1,i2,i3,i4⟩:=Ns f;refine⟨?_, ?_, ?_, ?_⟩
   · intro n deep base ts ns a r h hn hd
     rw[pG]at h;by_cases c:n≤3
     · rw [if_pos c]at h
       rcases dQ h with ⟨e,_,h2⟩|⟨ms,b,s,h1,h2⟩
       · cases h2
       · obtain⟨p1,e1,k1⟩:=i1 _ _ _ _ _ _ _ h1 (by omega) hd
         obtain⟨p2,e2,k2⟩:=i2 _ _ _ _ _ _ _ _ _ p1 h2 c hd k1.less;exact⟨p1++p2,by rw[e1,e2,bO],k2⟩
     · rw [if_neg c]at h
       have tF:n=4:=by omega
       subst tF;by_cases d:au ⟨#[45]⟩ ts=true
       · rw [if_pos d]at h
         by_cases d2:12≤deep
         · rw[if_pos d2]at h;cases h
         · rw [if_neg d2]at h
           obtain⟨t,et,ht⟩:=xz d;rcases dQ h with ⟨e,_,h2⟩|⟨ms,b,s,h1,h2⟩
           · cases h2
           · obtain⟨p1,e1,us,pX,d',kN,e',g1,g2,g3,g4⟩:=i1 _ _ _ _ _ _ _ h1 (by omega) (by omega)
             injection h2 with h2;injection h2 with h2;injection h2 with h3 h4;injection h4 with h4 h5;subst h3;subst h4;subst h5;refine⟨t :: p1,by rw[et,e1];rfl,_,_,_,_,_,.neg base ms _ us pX d' g1 t ht e' kN g2,.inl ⟨ag _,rfl,rfl⟩,g3.cons_cons t,by omega⟩
       · rw[if_neg d]at h
         obtain⟨p,e,k⟩:=i3 _ _ _ _ _ _ h hd;exact⟨p,e,Has.less (n:=4) k⟩
   · intro n deep base ns a ts ns' a' r pV h hn hd hh
     rw[ug]at h;by_cases c:fD n ts=0
     · rw[if_pos c]at h
       injection h with h;injection h with h;injection h with h1 h2;injection h2 with h2 h3;subst h1;subst h2;subst h3;exact⟨[],rfl,by rw[fu];exact hh⟩
     · rw [if_neg c]at h
       obtain⟨o,t,ho,ry,et,ht,VU⟩:=aab hn c;rcases dQ h with ⟨e,_,h2⟩|⟨ms,b,s,h1,h2⟩
       · cases h2
       · obtain ⟨p1,e1,us,lY,d2,kN,e2,g1,g2,g3,g4⟩:=i1 _ _ _ _ _ _ _ h1 (by omega) hd
         obtain⟨ls,pY,d1,ls',l2,k1,k2,k3,k4⟩:=hh;subst ry
         have hnew:Has (rk o) deep base (ns++(ms++[{ Nd.zero with kind:=9+(o:Int),kids:=[(a:Int),(b:Int)] }])) (base+(ns.length+ms.length)) (pV++t :: p1) :=
          ⟨_,_,_,_,_,.op base o ho ns ms _ _ ls us pY lY d1 d2 k1 g1 t ht l2 e2 ls' kN k2 g2,.inl ⟨ag _,rfl,rfl⟩,k3.append (g3.cons_cons t),by omega⟩
         rw[VU]at h2;obtain⟨p2,e3,k5⟩:=i2 _ _ _ _ _ _ _ _ _ _ h2 hn hd hnew;refine⟨t :: (p1++p2),by rw[et,e1,e3];simp, ?_⟩;have:pV++t :: (p1++p2)=pV++t :: p1++p2:=by simp
         rw[this];exact k5
   · intro deep base ts ns a r h hd
     cases ts with
     | nil=>rw[y5]at h;injection h with h;cases h
     | cons t ts =>
       rw[mG]at h;by_cases c1:au ⟨#[40]⟩ (t :: ts)=true
       · rw [if_pos c1]at h
         obtain⟨t',et,ht⟩:=xz c1;injection et with et _;subst et;by_cases d:12≤deep
         · rw[if_pos d]at h;cases h
         · rw [if_neg d]at h
           rcases dQ h with ⟨e,_,h2⟩|⟨ms,b,s,h1,h2⟩
           · cases h2
           · by_cases c2 : au ⟨#[41]⟩ s = true
             · rw [if_pos c2]at h2
               injection h2 with h2;injection h2 with h2;injection h2 with h3 h4;injection h4 with h4 h5;subst h3;subst h4;subst h5;obtain⟨u,Hw,hu⟩:=xz c2;obtain⟨p1,e1,us,pX,d',kN,e',g1,g2,g3,g4⟩:=i1 _ _ _ _ _ _ _ h1 (by omega) (by omega);rcases g2 with ⟨_,rfl,rfl⟩|⟨g2,_⟩
               · refine ⟨t :: (p1 ++ [u]), by rw[e1];conv=>lhs;rw[Hw]
                                              simp, ?_⟩
                 by_cases c3:5≤pX
                 · refine⟨_,_,_,_,_,g1,.inl ⟨c3,rfl,rfl⟩, ?_,by omega⟩
                   exact(g3.trans (List.sublist_append_left _ _)).trans (List.sublist_cons_self _ _)
                 · exact⟨_,_,_,_,_,g1,.inr ⟨by omega,rfl,t,u,ht,hu,rfl⟩,(g3.append (List.Sublist.refl [u])).cons_cons t,by omega⟩
               · omega
             · rw[if_neg c2]at h2;injection h2 with h2;cases h2
       · rw [if_neg c1] at h
         by_cases c2:t.kind=1
         · rw[if_pos c2]at h
           injection h with h;injection h with h;injection h with h1 h2;injection h2 with h2 h3;subst h1;subst h2;subst h3;exact⟨[t],rfl,yD (.num t c2) (List.Sublist.refl _) hd⟩
         · rw [if_neg c2] at h
           by_cases c3:t.kind=2
           · rw[if_pos c3]at h
             injection h with h;injection h with h;injection h with h1 h2;injection h2 with h2 h3;subst h1;subst h2;subst h3;exact⟨[t],rfl,yD (.text t c3) (List.Sublist.refl _) hd⟩
           · rw [if_neg c3] at h
             by_cases c4:t.kind=6
             · rw[if_pos c4]at h
               injection h with h;injection h with h;injection h with h1 h2;injection h2 with h2 h3;subst h1;subst h2;subst h3;exact⟨[t],rfl,yD (.dead t c4) (List.Sublist.refl _) hd⟩
             · rw [if_neg c4] at h
               by_cases c5:t.kind=4
               · rw [if_pos c5]at h
                 injection h with h;unfold iP at h;by_cases c6:au ⟨#[58]⟩ ts=true
                 · rw [if_pos c6]at h
                   obtain⟨q,eq,hq⟩:=xz c6;cases hu:ts.tail with
                   | nil=>rw[hu]at h;cases h
                   | cons u us =>
                     rw[hu]at h;simp only at h;by_cases c7:u.kind=4∧fP t.dw u.dw=true
                     · rw[if_pos c7]at h
                       injection h with h;injection h with h1 h2;injection h2 with h2 h3;subst h1;subst h2;subst h3;refine⟨[t,q,u],by rw[eq,hu];rfl,yD (.range t q u c5 hq c7.1 c7.2) (List.Sublist.refl _) hd⟩
                     · rw[if_neg c7]at h;cases h
                 · rw[if_neg c6]at h
                   injection h with h;injection h with h1 h2;injection h2 with h2 h3;subst h1;subst h2;subst h3;exact⟨[t],rfl,yD (.ref t c5) (List.Sublist.refl _) hd⟩
               · rw [if_neg c5] at h
                 by_cases c6:t.kind=3
                 · rw [if_pos c6] at h
                   by_cases c7:t.text=⟨#[84,82,85,69]⟩
                   · rw[if_pos c7]at h
                     injection h with h;injection h with h;injection h with h1 h2;injection h2 with h2 h3;subst h1;subst h2;subst h3;exact⟨[t],rfl,yD (.yes t c6 c7) (List.Sublist.refl _) hd⟩
                   · rw [if_neg c7]at h
                     by_cases c8:t.text=⟨#[70,65,76,83,69]⟩
                     · rw[if_pos c8]at h
                       injection h with h;injection h with h;injection h with h1 h2;injection h2 with h2 h3;subst h1;subst h2;subst h3;exact⟨[t],rfl,yD (.no t c6 c8) (List.Sublist.refl _) hd⟩
                     · rw [if_neg c8]at h
                       by_cases c9:au ⟨#[40]⟩ ts=true
                       · rw [if_pos c9]at h
                         obtain⟨l,el,hl⟩:=xz c9;by_cases d:12≤deep
                         · rw[if_pos d]at h;cases h
                         · rw [if_neg d]at h
                           rcases dQ h with ⟨e,_,h2⟩|⟨ms,ks,s,h1,h2⟩
                           · cases h2
                           · by_cases c10 : au ⟨#[41]⟩ s = true
                             · rw [if_pos c10]at h2
                               injection h2 with h2;injection h2 with h2;injection h2 with h3 h4;injection h4 with h4 h5;subst h3;subst h4;subst h5;obtain⟨u,Hw,hu⟩:=xz c10
                               have key:∃p us d,ts.tail=p++s∧Sh true base ms ks us 0 d∧us.Sublist p∧deep+1+d≤12:=by
                                by_cases c11:au ⟨#[41]⟩ ts.tail=true
                                · rw[if_pos c11]at h1
                                  injection h1 with h1;injection h1 with h1;injection h1 with h3 h4;injection h4 with h4 h5;subst h3;subst h4;subst h5;exact⟨[],[],0,rfl,.none base,List.Sublist.refl _,by omega⟩
                                · rw[if_neg c11]at h1
                                  obtain⟨p,us,d',g1,g2,g3,g4⟩:=i4 _ _ _ _ _ _ _ _ [] h1 (by omega) (.inl ⟨rfl,rfl⟩);exact⟨p,us,d',g1,g2,by simpa using g3,g4⟩
                               obtain⟨p,us,d',g1,g2,g3,g4⟩:=key
                               refine ⟨t :: l :: (p ++ [u]), by rw[el,g1];conv=>lhs;rw[Hw]
                                                                simp, ?_⟩
                               exact⟨_,_,_,_,_,.call base ms ks us d' g2 t l u c6 c7 c8 hl hu,.inl ⟨ag _,rfl,rfl⟩,((g3.append (List.Sublist.refl [u])).cons_cons l).cons_cons t,by omega⟩
                             · rw[if_neg c10]at h2;injection h2 with h2;cases h2
                       · rw[if_neg c9]at h;injection h with h;cases h
                 · rw[if_neg c6]at h;injection h with h;cases h
   · intro deep base ns ks ts ns' ks' r pV h hd hh
     rw[sJ]at h;rcases dQ h with ⟨e,_,h2⟩|⟨ms,b,s,h1,h2⟩
     · cases h2
     · obtain ⟨p1, e1, us, pX, d', kN, e', g1,g2,g3,g4⟩:=i1 _ _ _ _ _ _ _ h1 (by omega) hd
       rcases g2 with ⟨_,rfl,rfl⟩|⟨g2,_⟩
       · have key : ∃ ts d, Sh true base (ns ++ ms) (ks++[(b:Int)]) ts 0 d∧ts.Sublist (pV++p1)∧deep+d≤12:=by
          rcases hh with ⟨rfl,rfl⟩|⟨hk,us0,d0,q,k1,k2,k3,k4⟩
          · exact⟨_,_,.one base ms _ _ _ _ (by simpa using g1),g3.trans (List.sublist_append_right _ _),g4⟩
          · refine⟨_,_,.and base ns ms ks _ us0 _ _ d0 _ k1 hk q k2 g1, ?_,by omega⟩
            have:=k3.append g3
            simpa using this
         obtain⟨Ry,d1,j1,j2,tO⟩:=key;by_cases c:au ⟨#[44]⟩ s=true
         · rw[if_pos c]at h2
           obtain⟨q,eq,hq⟩:=xz c;obtain⟨p2,zq,d2,m1,m2,m3,m4⟩:=i4 _ _ _ _ _ _ _ _ (pV++p1++[q]) h2 hd (.inr ⟨by simp,Ry,d1,q,j1,hq,j2.append (List.Sublist.refl _),tO⟩)
           refine ⟨p1 ++ q :: p2, zq, d2, by rw[e1];conv=>lhs;rw[eq,m1]
                                             simp,m2,by simpa using m3,m4⟩
         · rw[if_neg c]at h2
           injection h2 with h2;injection h2 with h2;injection h2 with h3 h4;injection h4 with h4 h5;subst h3;subst h4;subst h5;exact⟨p1,Ry,d1,e1,j1,j2,tO⟩
       · omega
def eB (t:af):List Int :=
 if t.kind=1 then aF t.num.toNat
 else if t.kind=2 then 34 :: (eu (sb t.text)++[34])
 else if t.kind=4 then aO (sb t.sh) t.c t.r t.ac t.ar
 else if t.kind=6 then [35,82,69,70,33]
 else sb t.text
theorem Kc(p:Int→Bool)(l:List Int):l.take (l.takeWhile p).length=l.takeWhile p:=(List.prefix_iff_eq_take.1 (List.takeWhile_prefix p)).symm
theorem ET:∀(n:Nat)(l t:List Int)(k:Nat),l.length≤n→dS l=some (t,k)→l.take k=eu t++[34]
 | _,[],_,_,_,h=>by simp[dS]at h
 | 0,_ :: _,_,_,hn,_=>by simp at hn
 | n + 1, x :: l,t,k,hn,h=>by
   rw[rF]at h;by_cases h1:x<32
   · rw[if_pos h1]at h;cases h
   · rw [if_neg h1]at h
     by_cases h2:x≠34
     · rw [if_pos h2]at h
       cases hq:dS l with
       | none=>rw[hq]at h;cases h
       | some q =>
         rw[hq]at h;simp only[Option.map_some,bA,bD]at h;have g:=ET n l q.1 q.2 (by simp at hn;omega) hq;rw[← h.1, ← h.2,List.take_succ_cons,g];have e:eu (x :: q.1)=x :: eu q.1:=by unfold eu;rw[if_neg h2];cases q.1 <;> rfl
         rw[e];rfl
     · rw [if_neg h2]at h
       have hx:x=34:=by omega
       cases l with
       | nil=>simp only[bA,bD]at h;rw[← h.1, ← h.2,hx];rfl
       | cons y m =>
         by_cases hy:y=34
         · simp only [hy,if_true]at h
           cases hq:dS m with
           | none=>rw[hq]at h;cases h
           | some q =>
             rw[hq]at h;simp only[Option.map_some,bA,bD]at h;have g:=ET n m q.1 q.2 (by simp at hn;omega) hq;rw[← h.1, ← h.2,List.take_succ_cons,List.take_succ_cons,g,hx,hy];rfl
         · simp only[hy,if_false,bA,bD]at h
           rw[← h.1, ← h.2,hx];rfl
theorem aek (l:List Int)(t:af)(n:Nat)(hb:Bytes l)(h:eP l=some (t,n)):l.take n=eB t∧t.goto 0=t:=by
 cases l with
 | nil=>simp[eP]at h
 | cons x l =>
   rw[p9]at h;by_cases h1:isNum x=true
   · rw [if_pos h1]at h
     unfold jQ at h;split at h
     · cases h
     · rename_i hn
       simp only[bA,bD]at h;rw[← h.1, ← h.2,Kc];refine⟨?_,rfl⟩;have hall:=rP isNum (x :: l);have hpos:=Fu isNum x l h1;have Ee:(x :: l).takeWhile isNum=x :: l.takeWhile isNum:=by rw[List.takeWhile_cons,if_pos h1]
       show(x :: l).takeWhile isNum=aF (bH ((x :: l).takeWhile isNum)).toNat;by_cases c:x=48
       · subst c
         have hl:((48 :: l).takeWhile isNum).length=1:=by
          apply Decidable.byContradiction;intro hc;exact hn (.inl ⟨by omega,rfl⟩)
         have:l.takeWhile isNum=[]:=by
          rw[Ee,aK]at hl;exact l5 (by omega)
         rw[Ee,this];show [48]=aF 0;rw[lg 0 (by omega)];rfl
       · exact(Hq _ _ rfl (by rw[Ee];simp) hall (by rw[Ee];simpa using c)).2.symm
   · rw [if_neg h1]at h
     by_cases h2:x=34
     · rw [if_pos h2]at h
       unfold jR at h;cases hq:dS l with
       | none=>rw[hq]at h;cases h
       | some q =>
         rw[hq]at h;simp only[Option.map_some,bA,bD]at h;obtain⟨g1,g2⟩:=Ap _ l q.1 q.2 (ag _) (fun y hy=>hb y (by simp[hy])) hq;rw[← h.1, ← h.2,List.take_succ_cons,ET _ l q.1 q.2 (ag _) hq,h2];refine⟨?_,rfl⟩;show _=34 :: (eu (sb (strOfNums q.1))++[34]);rw[gK _ g1]
     · rw [if_neg h2]at h
       by_cases h3:x=35
       · rw [if_pos h3]at h
         unfold oD at h;split at h
         · rename_i h5
           simp only[bA,bD]at h;rw[← h.1, ← h.2,h5];exact⟨rfl,rfl⟩
         · cases h
       · rw [if_neg h3]at h
         by_cases h4:isLet x=true∨x=36
         · rw [if_pos h4]at h
           unfold lD at h;cases hq:fO (strOfNums ((x :: l).takeWhile isWord))with
           | some d =>
             rw[hq]at h;simp only[bA,bD]at h;rw[← h.1, ← h.2,Kc];refine⟨?_,rfl⟩;have e:=(vX _ d hq).2.2;rw[gK _ (hb.span isWord)]at e;exact e.symm
           | none =>
             rw[hq]at h;simp only at h;by_cases hc:iO ((x :: l).takeWhile isWord)=true
             · rw[if_pos hc]at h
               simp only[bA,bD]at h;rw[← h.1, ← h.2,Kc];exact⟨(gK _ (hb.span isWord)).symm,rfl⟩
             · rw[if_neg hc]at h;cases h
         · rw [if_neg h4]at h
           unfold ny at h;split at h
           · cases h
           · simp only[bA,bD]at h
             rw[← h.1, ← h.2];exact⟨(gK _ (fun y hy=>hb y (List.mem_of_mem_take hy))).symm,rfl⟩
def Tok(t:af):Prop:=t.kind≠0∧eP (eB t++[32])=some (t.goto 0,(eB t).length)∧Bytes (eB t)
theorem ael (l:List Int)(t:af)(n p:Nat)(hb:Bytes l)(h:eP l=some (t,n)):Tok (t.goto p)∧(eB (t.goto p)).length=n:=by
 obtain⟨h1,h2⟩:=aek l t n hb h;have hn:=(qa _ _ _ h).2;have e:eB (t.goto p)=eB t:=rfl;have hl:(eB t).length=n:=by rw[← h1,gD];omega
 refine⟨⟨(Rp l t n p hb h).2, ?_,by rw[e, ← h1];exact fun y hy=>hb y (List.mem_of_mem_take hy)⟩,by rw[e];exact hl⟩;have h3:eP (eB t++l.drop n)=some (t,(eB t).length):=by rw[← h1,List.take_append_drop,h,h1,hl]
 have h4:=aea (b':=[32]) (.inr rfl) h3;rw[e,h4];show some (t,_)=some (t.goto 0,_);rw[h2]
def yR:List af→Nat
 | []=>0
 | t :: ts=>(eB t).length+yR ts
theorem Ev(t:af)(ts:List af):yR (t :: ts)=(eB t).length+yR ts:=rfl
theorem YM {a b:List af}(h:a.Sublist b):yR a≤yR b:=by
 induction h with
 | slnil=>exact ag _
 | cons t _ ih=>rw[Ev];omega
 | cons_cons t _ ih=>rw[Ev,Ev];omega
theorem I4:∀(f p:Nat)(l:List Int)(ts:List af),Bytes l→eG f p l=some ts→∃body e,ts=body++[e]∧e.kind=0∧(∀t∈body,Tok t)∧yR body≤l.length
 | f,p,[],ts,_,h=>by
   have h0:eG f p []=some [af.zero.goto p]:=by unfold eG;rfl
   rw[h0]at h;injection h with h;subst h;exact⟨[],_,rfl,rfl,by simp,ag _⟩
 | 0,_,_ :: _,_,_,h=>by unfold eG at h;cases h
 | f + 1, p,x :: l,ts,hb,h=>by
   have hbl:Bytes l:=fun y hy=>hb y (by simp[hy])
   rw[qG]at h;by_cases hx:x=32
   · rw[if_pos hx]at h
     obtain⟨body,e,h1,h2,h3,h4⟩:=I4 f (p+1) l ts hbl h;exact⟨body,e,h1,h2,h3,by simp only[aK];omega⟩
   · rw [if_neg hx]at h
     cases hq:eP (x :: l)with
     | none=>rw[hq]at h;cases h
     | some q =>
       obtain⟨t0,n⟩:=q;have hn:=qa _ _ _ hq;rw[hq]at h;simp only[Option.map_eq_some_iff]at h;obtain⟨us,h1,rfl⟩:=h;obtain⟨body,e,k1,k2,k3,k4⟩:=I4 f (p+n) _ us (fun y hy=>hb y (List.mem_of_mem_drop hy)) h1;obtain⟨g1,g2⟩:=ael (x :: l) t0 n p hb hq;refine⟨t0.goto p :: body,e,by rw[k1];rfl,k2, ?_, ?_⟩
       · intro t ht
         rcases List.mem_cons.1 ht with rfl|ht
         · exact g1
         · exact k3 t ht
       · rw[Ev,g2];rw[List.length_drop]at k4;omega
theorem Jz:∀(l b:List Int),(∀x∈l,¬ x<32)→(∀x,b.head? = some x→x≠34)→dS (eu l++34 :: b)=some (l,(eu l).length+1)
 | [],b,_,hb=>by
   show dS (34 :: b)=_;rw[rF,if_neg (by omega),if_neg (by omega)];cases b with
   | nil=>rfl
   | cons y m =>
     have:=hb y rfl;simp only[this,if_false];rfl
 | x :: l,b,h,hb=>by
   have ih:=Jz l b (fun y hy=>h y (by simp[hy])) hb;have hx:=h x (by simp);by_cases cZ:x=34
   · subst cZ
     show dS (34 :: 34 :: (eu l++34 :: b))=_;rw[rF,if_neg (by omega),if_neg (by omega)];simp only[if_true];rw[ih];rfl
   · have e:eu (x :: l)=x :: eu l:=by show(if x=34 then [34,34]else [x])++eu l=_;rw[if_neg cZ];rfl
     rw[e,dO,rF,if_neg hx,if_pos cZ,ih];rfl
def Behind (t:af)(b:List Int):Prop :=
 (t.kind≠5→∀x,b.head? = some x→isWord x=false∧x≠34)∧(t.kind=5→(t.text=⟨#[60]⟩∨t.text=⟨#[62]⟩)→∀x,b.head? = some x→x≠61∧x≠62)
theorem aeX {x:Int}(h:isWord x=false):isNum x=false:=by
 cases c:isNum x with
 | false=>rfl
 | true=>rw[Ku c]at h;cases h
theorem aed {a b:List Int}{t:af}(vM:Bytes a)(hq:eP (a++[32])=some (t,a.length))(hb:Behind t b):eP (a++b)=some (t,a.length):=by
 cases a with
 | nil =>
   have:=(qa _ _ _ hq).1;simp at this
 | cons x a =>
   have hsp:∀(p:Int→Bool),p 32=false→((x :: (a++[32])).takeWhile p).length=(x :: a).length→(∀y,b.head? = some y→p y=false)→(x :: (a++[32])).takeWhile p=x :: a∧(x :: (a++b)).takeWhile p=x :: a:=by
    intro p hp hl hh;obtain⟨e1,_⟩:=Q9 (a:=x :: a) (b:=[32]) (b':=[32]) hp (.inr rfl) hl;refine⟨e1, ?_⟩;have hall:∀y∈x :: a,p y=true:=fun y hy=>rP p (x :: (a++[32])) y (by rw[show(x :: (a++[32])).takeWhile p=x :: a from e1];exact hy)
    exact uj p (x :: a) b hall hh
   rw[dO,p9]at hq ⊢;by_cases h1:isNum x=true
   · rw [if_pos h1]at hq ⊢
     unfold jQ at hq;split at hq
     · cases hq
     · rename_i hn
       simp only[bA,bD]at hq;have hk:t.kind≠5:=by rw[← hq.1];simp
       obtain⟨e1,e2⟩:=hsp isNum (by decide) hq.2 (fun y hy=>aeX (hb.1 hk y hy).1);unfold jQ;rw[e2];rw[e1]at hn hq;rw[if_neg (show ¬(1<(x :: a).length∧(x :: (a++b)).head? = some 48∨9223372036854775807<bH (x :: a))from hn)];exact congrArg (fun u=>some (u,(x :: a).length)) hq.1
   · rw [if_neg h1]at hq ⊢
     by_cases h2:x=34
     · rw [if_pos h2]at hq ⊢
       unfold jR at hq ⊢;cases hr:dS (a++[32])with
       | none=>rw[hr]at hq;cases hq
       | some q =>
         rw[hr]at hq;simp only[Option.map_some,bA,bD,aK]at hq;have hk:t.kind≠5:=by rw[← hq.1];simp
         have hb2:Bytes (a++[32]):=by
          intro y hy;rcases List.mem_append.1 hy with hy|hy
          · exact vM y (by simp[hy])
          · simp at hy;omega
         have g1:=(Ap _ _ q.1 q.2 (ag _) hb2 hr).2;have g2:=ET _ _ q.1 q.2 (ag _) hr;have hl:q.2=a.length:=by omega
         rw[hl,List.take_left]at g2;have e:a++b=eu q.1++34 :: b:=by rw[g2];simp
         have e2:(eu q.1).length+1=a.length:=by rw[g2];simp
         rw[e,Jz q.1 b g1 (fun y hy=>(hb.1 hk y hy).2)];simp only[Option.map_some,aK,bA,bD];exact⟨hq.1,by omega⟩
     · rw [if_neg h2]at hq ⊢
       by_cases h3:x=35
       · rw [if_pos h3]at hq ⊢
         unfold oD at hq ⊢;by_cases h5:(x :: (a++[32])).take 5=[35,82,69,70,33]
         · rw[if_pos h5]at hq
           simp only[bA,bD]at hq;have e1:(x :: (a++[32])).take 5=x :: a:=by rw[hq.2, ← dO];exact take_len _ _
           have e2:(x :: (a++b)).take 5=x :: a:=by rw[hq.2, ← dO];exact take_len _ _
           rw[e1]at h5;rw[e2,if_pos h5,hq.1];exact congrArg (fun k=>some (t,k)) hq.2
         · rw[if_neg h5]at hq;cases hq
       · rw [if_neg h3]at hq ⊢
         by_cases h4:isLet x=true∨x=36
         · rw [if_pos h4]at hq ⊢
           have hn:((x :: (a++[32])).takeWhile isWord).length=(x :: a).length∧t.kind≠5:=by
            unfold lD at hq;split at hq
            · simp only[bA,bD]at hq;exact⟨hq.2,by rw[← hq.1];simp⟩
            · split at hq
              · simp only[bA,bD]at hq;exact⟨hq.2,by rw[← hq.1];simp⟩
              · cases hq
           obtain⟨e1,e2⟩:=hsp isWord (by decide) hn.1 (fun y hy=>(hb.1 hn.2 y hy).1);rw[← hq];unfold lD;rw[e1,e2]
         · rw [if_neg h4]at hq ⊢
           unfold ny at hq ⊢;by_cases h5:jT (x :: (a++[32]))=0
           · rw[if_pos h5]at hq;cases hq
           · rw [if_neg h5]at hq
             simp only[bA,bD]at hq;have e1:(x :: (a++[32])).take (x :: a).length=x :: a:=by rw[← dO];exact take_len _ _
             have e2:(x :: (a++b)).take (x :: a).length=x :: a:=by rw[← dO];exact take_len _ _
             have e:jT (x :: (a++b))=jT (x :: (a++[32])):=by
              cases a with
              | nil =>
                have hs:jT (x :: [32])=1:=hq.2
                have ht:t.text=strOfNums [x]:=by
                 rw[← hq.1];show strOfNums (List.take (jT (x :: [32])) (x :: [32]))=_;rw[hs];rfl
                have hk:t.kind=5:=by rw[← hq.1]
                have h6:¬ ((x=60∧(b.head? = some 62∨b.head? = some 61))∨(x=62∧b.head? = some 61)):=by
                 rintro(⟨rfl,h|h⟩|⟨rfl,h⟩)
                 · exact(hb.2 hk (.inl ht) _ h).2 rfl
                 · exact(hb.2 hk (.inl ht) _ h).1 rfl
                 · exact(hb.2 hk (.inr ht) _ h).1 rfl
                show jT (x :: b)=jT (x :: [32]);have h7:¬ ((x=60∧(([32]:List Int).head? = some 62∨([32]:List Int).head? = some 61))∨(x=62∧([32]:List Int).head? = some 61)):=by simp
                rw[qK,qK,if_neg h6,if_neg h7]
              | cons y a=>rw[qK,qK];rfl
             rw[e,if_neg h5, ← hq.1,hq.2,e1,e2]
theorem aeg {x:Int}{l:List Int}{t:af}{n:Nat}(h:eP (x :: l)=some (t,n)):x≠32∧(t.kind=5→isWord x=false∧x≠34)∧(t.kind≠5→x≠61∧x≠62):=by
 rw[p9]at h;by_cases h1:isNum x=true
 · rw [if_pos h1]at h
   have hx:=iL h1;unfold jQ at h;split at h
   · cases h
   · simp only[bA,bD]at h
     refine⟨by omega,fun h5 => ?_,fun _=>by omega⟩;rw[← h.1]at h5;simp at h5
 · rw [if_neg h1]at h
   by_cases h2:x=34
   · rw [if_pos h2]at h
     unfold jR at h;cases hq:dS l with
     | none=>rw[hq]at h;cases h
     | some q =>
       rw[hq]at h;simp only[Option.map_some,bA,bD]at h;refine⟨by omega,fun h5 => ?_,fun _=>by omega⟩;rw[← h.1]at h5;simp at h5
   · rw [if_neg h2]at h
     by_cases h3:x=35
     · rw [if_pos h3]at h
       unfold oD at h;split at h
       · simp only[bA,bD]at h
         refine⟨by omega,fun h5 => ?_,fun _=>by omega⟩;rw[← h.1]at h5;simp at h5
       · cases h
     · rw [if_neg h3]at h
       by_cases h4:isLet x=true∨x=36
       · rw [if_pos h4]at h
         have hx:x≠32∧x≠61∧x≠62:=by
          rcases h4 with h4|h4
          · unfold isLet at h4;rw[decide_eq_true_iff]at h4;omega
          · omega
         refine⟨hx.1,fun h5 => ?_,fun _=>hx.2⟩;unfold lD at h;split at h
         · simp only[bA,bD]at h
           rw[← h.1]at h5;simp at h5
         · split at h
           · simp only[bA,bD]at h
             rw[← h.1]at h5;simp at h5
           · cases h
       · rw [if_neg h4]at h
         unfold ny at h;split at h
         · cases h
         · rename_i h5
           simp only[bA,bD]at h;rw[qK]at h5
           have hx:x≠32∧x≠33:=by
            refine⟨?_, ?_⟩
            · rintro rfl;exact h5 (by rw[if_neg (by omega),if_neg (by omega)])
            · rintro rfl;exact h5 (by rw[if_neg (by omega),if_neg (by omega)])
           refine⟨hx.1,fun _=>⟨?_,h2⟩,fun h6=>absurd (show t.kind=5 by rw[← h.1]) h6⟩;unfold isWord
           have g1:isLet x=false:=by cases c:isLet x with
            | false=>rfl
            | true=>exact absurd (.inl c) h4
           have g2:isNum x=false:=by cases c:isNum x with
            | false=>rfl
            | true=>exact absurd c h1
           rw[g1,g2];simp only[Bool.false_or];exact decide_eq_false (by rintro(h|h);exact h4 (.inr h);exact hx.2 h)
def Db(t:af):Prop:=t.kind≠5∨t.text=⟨#[40]⟩∨t.text=⟨#[45]⟩
def LH(t:af):Prop:=t.kind≠5∨t.text=⟨#[41]⟩
def Pr(t u:af):Prop:=(t.kind≠5→u.kind=5)∧(t.kind=5→(t.text=⟨#[60]⟩∨t.text=⟨#[62]⟩)→Db u)
def Sep:List af→Prop
 | []=>True
 | t :: ts=>(∀u,ts.head? = some u→Pr t u)∧Sep ts
theorem Sep.app:∀ {a b:List af},Sep a→Sep b→(∀t u,a.getLast? = some t→b.head? = some u→Pr t u)→Sep (a++b)
 | [],_,_,h,_=>h
 | [t],b,_,h,hj=>⟨fun u hu=>hj t u rfl hu,h⟩
 | t :: t' :: a,b,g,h,hj=>⟨fun u hu=>g.1 u hu,Sep.app (a:=t' :: a) g.2 h (fun v u hv hu=>hj v u (by rw[← hv];rfl) hu)⟩
theorem Pb {t u:af}{s:ByteArray}(h:LH t)(hu:fU s u):Pr t u:=by
 refine⟨fun _=>hu.1,fun h5 hs => ?_⟩;rcases h with h|h
 · exact absurd h5 h
 · rw[h]at hs;exact absurd hs (by decide)
theorem JY{t u:af}{s:ByteArray}(ht:fU s t)(h:Db u):Pr t u:=⟨fun h5=>absurd ht.1 h5,fun _ _=>h⟩
def ik(ts:List af):Prop:=Sep ts∧(∃t l,ts=t :: l∧Db t)∧∃l t,ts=l++[t]∧LH t
theorem ik.one{t:af}(h:t.kind≠5):ik [t]:=⟨⟨fun u hu=>by simp at hu,trivial⟩,⟨t,[],rfl,.inl h⟩,[],t,rfl,.inl h⟩
theorem ik.ahead {m:af}{s:ByteArray}(hm:fU s m)(hf:Db m){a:List af}(h:ik a):ik (m :: a):=by
 obtain⟨h1,⟨t,l,rfl,h2⟩,l',t',e,h3⟩:=h;exact⟨⟨fun u hu=>by injection hu with hu;subst hu;exact JY hm h2,h1⟩,⟨m,_,rfl,hf⟩,m :: l',t',by rw[e];rfl,h3⟩
theorem ik.mid {a b:List af}{c:af}{s:ByteArray}(h:ik a)(hc:fU s c)(g:ik b):ik (a++c :: b):=by
 obtain⟨h1,⟨t,l,rfl,h2⟩,l',t',e,h3⟩:=h;obtain⟨g1,⟨u,m,rfl,g2⟩,m',u',e',g3⟩:=g;refine⟨?_,⟨t,_,rfl,h2⟩,(t :: l)++c :: m',u',by rw[e'];simp,g3⟩;refine Sep.app h1 ⟨fun v hv=>by injection hv with hv;subst hv;exact JY hc g2,g1⟩ ?_;intro v w hv hw;injection hw with hw;subst hw;rw[e,List.getLast?_append]at hv;simp at hv;subst hv;exact Pb h3 hc
theorem ik.brk {a:List af}{l r:af}(h:ik a)(hl:fU ⟨#[40]⟩ l)(hr:fU ⟨#[41]⟩ r):ik (l :: (a++[r])):=by
 obtain⟨h1,⟨t,k,rfl,h2⟩,l',t',e,h3⟩:=h;refine⟨⟨fun u hu=>by injection hu with hu;subst hu;exact JY hl h2, ?_⟩,⟨l,_,rfl,.inr (.inl hl.2)⟩,l :: (t :: k),r,rfl,.inr hr.2⟩;refine Sep.app h1 ⟨fun u hu=>by simp at hu,trivial⟩ ?_;intro v w hv hw;injection hw with hw;subst hw;rw[e,List.getLast?_append]at hv;simp at hv;subst hv;exact Pb h3 hr
theorem ik.wr {n rk d d':Nat}{ts ts':List af}(h:ik ts)(hw:Wr n rk d ts d' ts'):ik ts':=by
 rcases hw with ⟨_,rfl,_⟩|⟨_,_,l,r,hl,hr,rfl⟩
 · exact h
 · exact h.brk hl hr
theorem ik.name {a:List af}{t l r:af}(ht:t.kind=3)(hl:fU ⟨#[40]⟩ l)(hr:fU ⟨#[41]⟩ r)(h:a=[]∨ik a):ik (t :: l :: (a++[r])):=by
 have hp:∀u,(l :: (a++[r])).head? = some u→Pr t u:=by
  intro u hu;injection hu with hu;subst hu;exact⟨fun _=>hl.1,fun h=>by omega⟩
 rcases h with rfl|h
 · exact⟨⟨hp,fun u hu=>by injection hu with hu;subst hu;exact⟨fun h=>absurd hl.1 h,fun _ h=>by rw[hl.2]at h;exact absurd h (by decide)⟩,fun u hu=>by simp at hu,trivial⟩,⟨t,_,rfl,.inl (by omega)⟩,[t,l],r,rfl,.inr hr.2⟩
 · have g:=h.brk hl hr
   exact⟨⟨hp,g.1⟩,⟨t,_,rfl,.inl (by omega)⟩,t :: l :: a,r,rfl,.inr hr.2⟩
theorem YK {ts:List af}{nd:Nd}(h:ow ts nd):ik ts:=by
 cases h with
 | num t h=>exact ik.one (by omega)
 | text t h=>exact ik.one (by omega)
 | yes t h _=>exact ik.one (by omega)
 | no t h _=>exact ik.one (by omega)
 | dead t h=>exact ik.one (by omega)
 | ref t h=>exact ik.one (by omega)
 | range t c u h hc g _=>exact ik.mid (a:=[t]) (b:=[u]) (ik.one (by omega)) hc (ik.one (by omega))
theorem QP {b:Bool}{base:Nat}{ns:List Nd}{ks:List Int}{ts:List af}{rk d:Nat}(h:Sh b base ns ks ts rk d) :
 (b=false→ik ts)∧(b=true→(ks=[]∧ts=[])∨(ks≠[]∧ik ts)):=by
 induction h with
 | leaf base ts nd h=>exact⟨fun _=>YK h,fun h=>by cases h⟩
 | neg base ns a ts rk d h m hm d' ts' hw ih=>exact⟨fun _=>((ih.1 rfl).wr hw).ahead hm (.inr (.inr hm.2)),fun h=>by cases h⟩
 | op base o ho ns ms a b ts us pY lY d1 d2 h g s hs e1 e2 ts' kN hw gw ih lV=>exact⟨fun _=>((ih.1 rfl).wr hw).mid hs ((lV.1 rfl).wr gw),fun h=>by cases h⟩
 | call base ns ks ts d h t l r ht h1 h2 hl hr ih =>
   refine⟨fun _=>ik.name ht hl hr ?_,fun h=>by cases h⟩;rcases ih.2 rfl with ⟨_,h⟩|⟨_,h⟩
   · exact .inl h
   · exact .inr h
 | none base=>exact⟨fun h=>(by cases h),fun _ => .inl ⟨rfl,rfl⟩⟩
 | one base ns a ts rk d h ih=>exact⟨fun h=>(by cases h),fun _ => .inr ⟨by simp,ih.1 rfl⟩⟩
 | and base ns ms ks b ts us rk d1 d2 h hk c hc g ih lV =>
   refine⟨fun h=>(by cases h),fun _ => .inr ⟨by simp, ?_⟩⟩;rcases ih.2 rfl with ⟨h,_⟩|⟨_,h⟩
   · exact absurd h hk
   · exact h.mid hc (lV.1 rfl)
def iZ(ts:List af):List Int:=ts.flatMap eB
theorem kz(t:af)(ts:List af):iZ (t :: ts)=eB t++iZ ts:=rfl
theorem aeu (ts:List af):(iZ ts).length=yR ts:=by
 induction ts with
 | nil=>rfl
 | cons t ts ih=>rw[kz,aj,ih];rfl
theorem Kh {t:af}(h:Tok t):∃x l,eB t=x :: l∧x≠32∧(t.kind=5→isWord x=false∧x≠34)∧(t.kind≠5→x≠61∧x≠62):=by
 have hn:=(qa _ _ _ h.2.1).1;cases e:eB t with
 | nil=>rw[e]at hn;simp at hn
 | cons x l =>
   have h2:=h.2.1;rw[e,dO]at h2;have g:=aeg h2;exact⟨x,l,rfl,g.1,fun h=>g.2.1 h,fun h=>g.2.2 h⟩
theorem UI {t:af}{ts:List af}(hp:∀u,ts.head? = some u→Pr t u)(hu:∀u∈ts,Tok u):Behind t (iZ ts):=by
 cases ts with
 | nil=>exact⟨fun _ x hx=>by simp[iZ]at hx,fun _ _ x hx=>by simp[iZ]at hx⟩
 | cons u us =>
   obtain⟨x,l,e,h1,h2,h3⟩:=Kh (hu u (by simp));have hpr:=hp u rfl;have hh:(iZ (u :: us)).head? = some x:=by rw[kz,e];rfl
   refine⟨fun hk y hy => ?_,fun hk hs y hy => ?_⟩
   · rw[hh]at hy;injection hy with hy;subst hy;exact h2 (hpr.1 hk)
   · rw [hh]at hy;injection hy with hy;subst hy
     rcases hpr.2 hk hs with g|g|g
     · exact h3 g
     · by_cases h5:u.kind=5
       · have:eB u=[40]:=by unfold eB;simp only[h5,g];rfl
         rw[this]at e;injection e with e _;omega
       · exact h3 h5
     · by_cases h5:u.kind=5
       · have:eB u=[45]:=by unfold eB;simp only[h5,g];rfl
         rw[this]at e;injection e with e _;omega
       · exact h3 h5
theorem O8:∀(ts:List af)(p:Nat),Sep ts→(∀t∈ts,Tok t)→∃vs e,xg p (iZ ts)=some (vs++[e])∧e.kind=0∧vs.map (af.goto · 0)=ts.map (af.goto · 0)
 | [],p,_,_=>⟨[],_,YX p,rfl,rfl⟩
 | t :: ts,p,hs,ht=>by
   have h1:=ht t (by simp);have h2:=h1.2.2;obtain⟨vs,e,g1,g2,g3⟩:=O8 ts (p+(eB t).length) hs.2 (fun u hu=>ht u (by simp[hu]));obtain⟨x,l,hx,hx2,_⟩:=Kh h1;have hb:Behind t (iZ ts):=UI hs.1 (fun u hu=>ht u (by simp[hu]));have hq:=aed (t:=t.goto 0) h2 h1.2.1 hb;refine⟨(t.goto 0).goto p :: vs,e, ?_,g2,by rw[jb,jb,g3];rfl⟩;rw[kz,YW p (eB t) (iZ ts) (t.goto 0) (fun y hy=>by rw[hx]at hy;injection hy with hy;omega) hq,g1];rfl
theorem fU.goto {s:ByteArray}{t v:af}(h:fU s t)(hv:v.goto 0=t.goto 0):fU s v :=
 ⟨(congrArg af.kind hv).trans h.1,(congrArg af.text hv).trans h.2⟩
theorem JP{t v:af}(hv:v.goto 0=t.goto 0):v.dw=t.dw:=(show(v.goto 0).dw=(t.goto 0).dw by rw[hv])
theorem ow.goto {ts:List af}{nd:Nd}(h:ow ts nd)(vs:List af)(hv:vs.map (af.goto · 0)=ts.map (af.goto · 0)):ow vs nd:=by
 have one:∀t:af,vs.map (af.goto · 0)=[t].map (af.goto · 0)→∃v,vs=[v]∧v.goto 0=t.goto 0:=by
  intro t h;rw[jb,List.map_nil]at h;obtain⟨v,l,h1,h2,h3⟩:=List.map_eq_cons_iff.1 h;rw[List.map_eq_nil_iff]at h3;exact⟨v,by rw[h1,h3],h2⟩
 cases h with
 | num t h =>
   obtain⟨v,rfl,e⟩:=one t hv;have:=congrArg af.num e;rw[← show v.num=t.num from this];exact .num v ((congrArg af.kind e).trans h)
 | text t h =>
   obtain⟨v,rfl,e⟩:=one t hv;have:=congrArg af.text e;rw[← show v.text=t.text from this];exact .text v ((congrArg af.kind e).trans h)
 | yes t h g =>
   obtain⟨v,rfl,e⟩:=one t hv;exact .yes v ((congrArg af.kind e).trans h) ((congrArg af.text e).trans g)
 | no t h g =>
   obtain⟨v,rfl,e⟩:=one t hv;exact .no v ((congrArg af.kind e).trans h) ((congrArg af.text e).trans g)
 | dead t h =>
   obtain⟨v,rfl,e⟩:=one t hv;exact .dead v ((congrArg af.kind e).trans h)
 | ref t h =>
   obtain⟨v,rfl,e⟩:=one t hv;rw[← JP e];exact .ref v ((congrArg af.kind e).trans h)
 | range t c u h hc g hs =>
   rw[jb,jb,jb,List.map_nil]at hv;obtain⟨t',l,rfl,e1,h3⟩:=List.map_eq_cons_iff.1 hv;obtain⟨c',l,rfl,e2,h3⟩:=List.map_eq_cons_iff.1 h3;obtain⟨u',l,rfl,e3,h3⟩:=List.map_eq_cons_iff.1 h3;rw[List.map_eq_nil_iff]at h3;subst h3;rw[← JP e1, ← JP e3]at hs ⊢;exact .range t' c' u' ((congrArg af.kind e1).trans h) (hc.goto e2) ((congrArg af.kind e3).trans g) hs
theorem Wr.goto {n rk d d':Nat}{ts ts' vs':List af}(h:Wr n rk d ts d' ts')(hv:vs'.map (af.goto · 0)=ts'.map (af.goto · 0)):∃vs,vs.map (af.goto · 0)=ts.map (af.goto · 0)∧Wr n rk d vs d' vs':=by
 rcases h with ⟨h1,rfl,rfl⟩|⟨h1,rfl,l,r,hl,hr,rfl⟩
 · exact⟨vs',hv,.inl ⟨h1,rfl,rfl⟩⟩
 · rw[jb,iE,jb,List.map_nil]at hv
   obtain⟨l',k,rfl,e1,h3⟩:=List.map_eq_cons_iff.1 hv;obtain⟨vs,k2,rfl,e2,h3⟩:=List.map_eq_append_iff.1 h3;obtain⟨r',k3,rfl,e3,h3⟩:=List.map_eq_cons_iff.1 h3;rw[List.map_eq_nil_iff]at h3;subst h3;exact⟨vs,e2,.inr ⟨h1,rfl,l',r',hl.goto e1,hr.goto e3,rfl⟩⟩
theorem Sh.goto {b:Bool}{base:Nat}{ns:List Nd}{ks:List Int}{ts:List af}{rk d:Nat}(h:Sh b base ns ks ts rk d):∀vs:List af,vs.map (af.goto · 0)=ts.map (af.goto · 0)→Sh b base ns ks vs rk d:=by
 induction h with
 | leaf base ts nd h=>exact fun vs hv => .leaf base vs nd (h.goto vs hv)
 | neg base ns a ts rk d h m hm d' ts' hw ih =>
   intro vs hv;rw[jb]at hv;obtain⟨m',k,rfl,e1,h3⟩:=List.map_eq_cons_iff.1 hv;obtain⟨us,e2,hw'⟩:=hw.goto h3;exact .neg base ns a us rk d (ih us e2) m' (hm.goto e1) d' k hw'
 | op base o ho ns ms a b ts us pY lY d1 d2 h g s hs e1 e2 ts' kN hw gw ih lV =>
   intro vs hv;rw[iE,jb]at hv;obtain⟨a',k,rfl,f1,h3⟩:=List.map_eq_append_iff.1 hv;obtain⟨s',b',rfl,f2,f3⟩:=List.map_eq_cons_iff.1 h3;obtain⟨xs,x1,hw'⟩:=hw.goto f1;obtain⟨ys,y1,Wx⟩:=gw.goto f3;exact .op base o ho ns ms a b xs ys pY lY d1 d2 (ih xs x1) (lV ys y1) s' (hs.goto f2) e1 e2 a' b' hw' Wx
 | call base ns ks ts d h t l r ht h1 h2 hl hr ih =>
   intro vs hv;rw[jb,jb,iE,jb,List.map_nil]at hv;obtain⟨t',k,rfl,f1,h3⟩:=List.map_eq_cons_iff.1 hv;obtain⟨l',k,rfl,f2,h3⟩:=List.map_eq_cons_iff.1 h3;obtain⟨a',k,rfl,f3,h3⟩:=List.map_eq_append_iff.1 h3;obtain⟨r',k,rfl,f4,h3⟩:=List.map_eq_cons_iff.1 h3;rw[List.map_eq_nil_iff]at h3;subst h3;have ht':t'.text=t.text:=(show(t'.goto 0).text=(t.goto 0).text by rw[f1]);rw[← ht'];exact .call base ns ks a' d (ih a' f3) t' l' r' ((congrArg af.kind f1).trans ht) (by rw[ht'];exact h1) (by rw[ht'];exact h2) (hl.goto f2) (hr.goto f4)
 | none base =>
   intro vs hv;rw[List.map_nil,List.map_eq_nil_iff]at hv;subst hv;exact .none base
 | one base ns a ts rk d h ih=>exact fun vs hv => .one base ns a vs rk d (ih vs hv)
 | and base ns ms ks b ts us rk d1 d2 h hk c hc g ih lV =>
   intro vs hv;rw[iE,jb]at hv;obtain⟨a',k,rfl,f1,h3⟩:=List.map_eq_append_iff.1 hv;obtain⟨c',b',rfl,f2,f3⟩:=List.map_eq_cons_iff.1 h3;exact .and base ns ms ks b a' b' rk d1 d2 (ih a' f1) hk c' (hc.goto f2) (lV b' f3)
theorem acU {ns:List Nd}{a:Int}{ts:List af}{rk d:Nat}(h:Sh false 0 ns [a] ts rk d)(hd:d≤12)(ht:∀t∈ts,Tok t):∃vs g,fG (iZ ts)=some vs∧mF g vs=some (.ok ns):=by
 obtain⟨vs,e,h1,h2,h3⟩:=O8 ts 0 ((QP h).1 rfl).1 ht;obtain⟨g,hg⟩:=acR (h.goto vs h3) hd e h2;exact⟨vs++[e],g,h1,hg⟩
theorem Ru {l:List Int}{ts:List af}{f:Nat}{ns:List Nd}(hb:Bytes l)(hl:fG l=some ts)(hp:mF f ts=some (.ok ns)) :
 ∃us rk d a,Sh false 0 ns [a] us rk d∧d≤12∧(∀t∈us,Tok t)∧(iZ us).length≤l.length∧∃vs g,fG (iZ us)=some vs∧mF g vs=some (.ok ns):=by
 obtain⟨body,e,h1,h2,h3,h4⟩:=I4 _ _ _ _ hb hl;unfold mF at hp;rcases dQ hp with ⟨er,_,h5⟩|⟨ms,a,r,h5,h6⟩
 · cases h5
 · by_cases hk:uS r=0
   · rw [if_pos hk]at h6
     injection h6 with h6;injection h6 with h6;subst h6;obtain⟨pre,e1,us,rk,d,kN,d',g1,g2,g3,g4⟩:=(Ns f).1 _ _ _ _ _ _ _ h5 (by omega) (by omega);obtain⟨pre',e2,k2,_⟩:=((xC f).1 _ _ _ _ _ _ _ h5).1;rcases g2 with ⟨_,rfl,rfl⟩|⟨g2,_⟩
     · have ep:pre=pre':=List.append_cancel_right (e1.symm.trans e2)
       subst ep
       have hsub:kN.Sublist body:=by
        have s1:kN.Sublist ts:=by rw[e1];exact g3.trans (List.sublist_append_left _ _)
        have s2:=s1.filter (fun t=>decide (t.kind≠0));rw[h1,List.filter_append]at s2;have f1:kN.filter (fun t=>decide (t.kind≠0))=kN:=List.filter_eq_self.2 (fun t ht=>decide_eq_true (k2 t (g3.subset ht)));have f2:body.filter (fun t=>decide (t.kind≠0))=body:=List.filter_eq_self.2 (fun t ht=>decide_eq_true (h3 t ht).1);have f3:[e].filter (fun t=>decide (t.kind≠0))=[]:=by simp[h2]
        rw[f1,f2,f3,fu]at s2;exact s2
       have Ej:∀t∈kN,Tok t:=fun t ht=>h3 t (hsub.subset ht)
       refine⟨kN,rk,d',_,g1,by omega,Ej, ?_,acU g1 (by omega) Ej⟩;rw[aeu];exact bZ (YM hsub) h4
     · omega
   · rw[if_neg hk]at h6;injection h6 with h6;cases h6
def bz(k:Int):Nat:=if 9≤k∧k≤14 then 0 else if k=15 then 1 else if 16≤k∧k≤17 then 2 else if 18≤k∧k≤19 then 3 else if k=8 then 4 else 5
def iJ(b:Bool)(t:List Int):List Int:=if b=true then 40 :: (t++[41])else t
def gV:List (List Int)→List Int
 | []=>[]
 | [a]=>a
 | a :: b :: l=>a++44 :: gV (b :: l)
def nodeAt(l:List Nd)(at':Int):Nd:=l.getD at'.toNat Nd.zero
def jS:Nat→List Nd→Int→List Int
 | 0,_,_=>[]
 | f + 1,l,i =>
   if (nodeAt l i).kind=1 then aF (nodeAt l i).num.toNat
   else if (nodeAt l i).kind=2 then 34 :: (eu (sb (nodeAt l i).text)++[34])
   else if (nodeAt l i).kind=3 then (if (nodeAt l i).num=1 then [84,82,85,69]else [70,65,76,83,69])
   else if (nodeAt l i).kind=4 then [35,82,69,70,33]
   else if (nodeAt l i).kind=5 then aO (sb (nodeAt l i).ref.sh) (nodeAt l i).ref.c (nodeAt l i).ref.r (nodeAt l i).ref.ac (nodeAt l i).ref.ar
   else if (nodeAt l i).kind=6 then aO (sb (nodeAt l i).ref.sh) (nodeAt l i).ref.c (nodeAt l i).ref.r (nodeAt l i).ref.ac (nodeAt l i).ref.ar++58 :: aO (sb (nodeAt l i).ae.sh) (nodeAt l i).ae.c (nodeAt l i).ae.r (nodeAt l i).ae.ac (nodeAt l i).ae.ar
   else if (nodeAt l i).kind=7 then sb (nodeAt l i).text++40 :: (gV ((nodeAt l i).kids.map (jS f l))++[41])
   else if (nodeAt l i).kind=8 then 45 :: iJ (decide (bz (nodeAt l ((nodeAt l i).kids.getD 0 0)).kind<4)) (jS f l ((nodeAt l i).kids.getD 0 0))
   else iJ (decide (bz (nodeAt l ((nodeAt l i).kids.getD 0 0)).kind<bz (nodeAt l i).kind)) (jS f l ((nodeAt l i).kids.getD 0 0)) ++
    (pR ((nodeAt l i).kind - 9).toNat++iJ (decide (bz (nodeAt l ((nodeAt l i).kids.getD 1 0)).kind≤bz (nodeAt l i).kind)) (jS f l ((nodeAt l i).kids.getD 1 0)))
def gY(l:List Nd):List Int:=if dM l=true then jS l.length l ((l.length:Int) - 1)else []
theorem IL (y:List Int):∀xs:List (List Int),xs≠[]→gV (xs++[y])=gV xs++44 :: y
 | [],h=>absurd rfl h
 | [x],_=>rfl
 | x :: x' :: xs,_=>by
   have ih:=IL y (x' :: xs) (by simp);show x++44 :: gV (x' :: xs++[y])=x++44 :: gV (x' :: xs)++44 :: y;rw[ih];simp
theorem zg (f:Nat)(l:List Nd)(i:Int)(n:Nd)(h:nodeAt l i=n):jS (f+1) l i =
 if n.kind=1 then aF n.num.toNat
 else if n.kind=2 then 34 :: (eu (sb n.text)++[34])
 else if n.kind=3 then (if n.num=1 then [84,82,85,69]else [70,65,76,83,69])
 else if n.kind=4 then [35,82,69,70,33]
 else if n.kind=5 then aO (sb n.ref.sh) n.ref.c n.ref.r n.ref.ac n.ref.ar
 else if n.kind=6 then aO (sb n.ref.sh) n.ref.c n.ref.r n.ref.ac n.ref.ar++58 :: aO (sb n.ae.sh) n.ae.c n.ae.r n.ae.ac n.ae.ar
 else if n.kind=7 then sb n.text++40 :: (gV (n.kids.map (jS f l))++[41])
 else if n.kind=8 then 45 :: iJ (decide (bz (nodeAt l (n.kids.getD 0 0)).kind<4)) (jS f l (n.kids.getD 0 0))
 else iJ (decide (bz (nodeAt l (n.kids.getD 0 0)).kind<bz n.kind)) (jS f l (n.kids.getD 0 0)) ++
  (pR (n.kind - 9).toNat++iJ (decide (bz (nodeAt l (n.kids.getD 1 0)).kind≤bz n.kind)) (jS f l (n.kids.getD 1 0))):=by
 subst h;conv=>lhs;unfold jS
theorem Fz(a b:List af):iZ (a++b)=iZ a++iZ b:=by unfold iZ;rw[List.flatMap_append]
theorem xE {s:ByteArray}{t:af}(h:fU s t):eB t=sb s:=by
 unfold eB;rw[h.1,h.2];rfl
theorem Kl {n rk d d':Nat}{ts ts':List af}(h:Wr n rk d ts d' ts'):iZ ts'=iJ (decide (rk<n)) (iZ ts):=by
 rcases h with ⟨h,rfl,_⟩|⟨h,_,l,r,hl,hr,rfl⟩
 · rw[decide_eq_false (by omega)];rfl
 · rw[decide_eq_true h,kz,Fz,kz,xE hl,xE hr];rfl
def vD(l:List Nd)(base:Nat)(ns:List Nd):Prop:=∃pre post,l=pre++(ns++post)∧pre.length=base
theorem vD.left {l ns ms:List Nd}{base:Nat}(h:vD l base (ns++ms)):vD l base ns:=by
 obtain⟨p,q,h1,h2⟩:=h;exact⟨p,ms++q,by rw[h1];simp,h2⟩
theorem vD.right {l ns ms:List Nd}{base:Nat}(h:vD l base (ns++ms)):vD l (base+ns.length) ms:=by
 obtain⟨p,q,h1,h2⟩:=h;exact⟨p++ns,q,by rw[h1];simp,by rw[aj,h2]⟩
theorem vD.at {l:List Nd}{base:Nat}{n:Nd}(h:vD l base [n]):nodeAt l (base:Int)=n:=by
 obtain⟨p,q,h1,h2⟩:=h;unfold nodeAt;rw[h1,Int.toNat_natCast, ← h2];simp
theorem Jl:∀o:Nat,o<11→bz (9+(o:Int))=rk o∧sb (jv.getD o ⟨#[]⟩)=pR o:=by decide +kernel
theorem acS {b:Bool}{base:Nat}{ns:List Nd}{ks:List Int}{ts:List af}{uY d:Nat}(h:Sh b base ns ks ts uY d) :
 ∀l f,vD l base ns→ns.length≤f→(b=false→∀a,ks=[a]→jS f l a=iZ ts∧bz (nodeAt l a).kind=uY)∧(b=true→gV (ks.map (jS f l))=iZ ts):=by
 induction h with
 | leaf base ts nd h =>
   intro l f hi hf;refine⟨fun _ a ha => ?_,fun h=>by cases h⟩;injection ha with ha _;subst ha;obtain⟨g,rfl⟩:∃g,f=g+1:=⟨f - 1,by simp at hf;omega⟩;have hn:=hi.at
   rw[hn];rw[zg g l _ nd hn];cases h with
   | num t h=>refine⟨?_,rfl⟩;rw[if_pos rfl,kz];unfold eB;rw[if_pos h];simp[iZ]
   | text t h=>refine⟨?_,rfl⟩;rw[if_neg (by simp),if_pos rfl,kz];unfold eB;rw[h,if_neg (by decide),if_pos rfl];simp[iZ]
   | yes t h g=>refine⟨?_,rfl⟩;rw[if_neg (by decide),if_neg (by decide),if_pos rfl,if_pos rfl,kz];unfold eB;rw[h,g,if_neg (by decide),if_neg (by decide),if_neg (by decide),if_neg (by decide)];rfl
   | no t h g=>refine⟨?_,rfl⟩;rw[if_neg (by decide),if_neg (by decide),if_pos rfl,if_neg (by decide),kz];unfold eB;rw[h,g,if_neg (by decide),if_neg (by decide),if_neg (by decide),if_neg (by decide)];rfl
   | dead t h=>refine⟨?_,rfl⟩;rw[if_neg (by decide),if_neg (by decide),if_neg (by decide),if_pos rfl,kz];unfold eB;rw[h,if_neg (by decide),if_neg (by decide),if_neg (by decide),if_pos rfl];rfl
   | ref t h =>
     refine⟨?_,rfl⟩;rw[if_neg (by simp),if_neg (by simp),if_neg (by simp),if_neg (by simp),if_pos rfl,kz];unfold eB;rw[h,if_neg (by decide),if_neg (by decide),if_pos rfl];simp[iZ,af.dw]
   | range t c u h hc g hs =>
     refine⟨?_,rfl⟩;rw[if_neg (by simp),if_neg (by simp),if_neg (by simp),if_neg (by simp),if_neg (by simp),if_pos rfl,kz,kz,kz,xE hc];unfold eB;rw[h,g,if_neg (by decide),if_neg (by decide),if_pos rfl,if_neg (by decide),if_neg (by decide),if_pos rfl];have:sb (⟨#[58]⟩:ByteArray)=[58]:=by decide
     rw[this];simp[iZ,af.dw]
 | neg base ns a ts rk d h m hm d' ts' hw ih =>
   intro l f hi hf;refine⟨fun _ a' ha => ?_,fun h=>by cases h⟩;injection ha with ha _;subst ha;rw[aj,fq]at hf;obtain⟨g,rfl⟩:∃g,f=g+1:=⟨f - 1,by omega⟩;obtain⟨e1,e2⟩:=(ih l g hi.left (by omega)).1 rfl a rfl;have hn:=hi.right.at
   rw[hn];refine⟨?_,rfl⟩;rw[zg g l _ _ hn,if_neg (by simp),if_neg (by simp),if_neg (by simp),if_neg (by simp),if_neg (by simp),if_neg (by simp),if_neg (by simp),if_pos rfl,kz,xE hm,Kl hw];show 45 :: iJ (decide (bz (nodeAt l a).kind<4)) (jS g l a)=_;rw[e1,e2];rfl
 | op base o ho ns ms a b ts us pY lY d1 d2 h g s hs x1 x2 ts' kN hw gw ih lV =>
   intro l f hi hf;refine⟨fun _ a' ha => ?_,fun h=>by cases h⟩;injection ha with ha _;subst ha;rw[aj,aj,fq]at hf;obtain⟨q,rfl⟩:∃q,f=q+1:=⟨f - 1,by omega⟩;obtain⟨e1,e2⟩:=(ih l q hi.left (by omega)).1 rfl a rfl;obtain⟨j1,j2⟩:=(lV l q hi.right.left (by omega)).1 rfl b rfl;have hn:=hi.right.right.at
   rw[Nat.add_assoc]at hn;obtain⟨hr,ht⟩:=Jl o ho;rw[hn];refine⟨?_,hr⟩
   rw [zg q l _ _ hn,if_neg (by show ¬ 9+(o:Int)=1;omega),if_neg (by show ¬ 9+(o:Int)=2;omega),if_neg (by show ¬ 9+(o:Int)=3;omega),if_neg (by show ¬ 9+(o:Int)=4;omega),if_neg (by show ¬ 9+(o:Int)=5;omega),
    if_neg (by show ¬ 9+(o:Int)=6;omega),if_neg (by show ¬ 9+(o:Int)=7;omega),if_neg (by show ¬ 9+(o:Int)=8;omega),Fz,kz,xE hs,Kl hw,Kl gw]
   show iJ (decide (bz (nodeAt l a).kind<bz (9+(o:Int)))) (jS q l a)++(pR (9+(o:Int) - 9).toNat++iJ (decide (bz (nodeAt l b).kind≤bz (9+(o:Int)))) (jS q l b))=_;rw[e1,e2,j1,j2,hr,ht,show(9+(o:Int) - 9).toNat=o by omega];have:decide (lY≤rk o)=decide (lY<rk o+1):=by rw[decide_eq_decide];omega
   rw[this]
 | call base ns ks ts d h t x r ht h1 h2 hl hr ih =>
   intro l f hi hf;refine⟨fun _ a' ha => ?_,fun h=>by cases h⟩;injection ha with ha _;subst ha;rw[aj,fq]at hf;obtain⟨g,rfl⟩:∃g,f=g+1:=⟨f - 1,by omega⟩;have e1:=(ih l g hi.left (by omega)).2 rfl;have hn:=hi.right.at
   rw[hn];refine⟨?_,rfl⟩;rw[zg g l _ _ hn,if_neg (by simp),if_neg (by simp),if_neg (by simp),if_neg (by simp),if_neg (by simp),if_neg (by simp),if_pos rfl,kz,kz,Fz,kz,xE hl,xE hr];have:eB t=sb t.text:=by unfold eB;rw[ht];rfl
   rw[this];show sb t.text++40 :: (gV (ks.map (jS g l))++[41])=_;rw[e1];rfl
 | none base=>exact fun l f _ _=>⟨fun h=>(by cases h),fun _=>rfl⟩
 | one base ns a ts rk d h ih =>
   intro l f hi hf;exact⟨fun h=>(by cases h),fun _=>((ih l f hi hf).1 rfl a rfl).1⟩
 | and base ns ms ks b ts us rk d1 d2 h hk c hc g ih lV =>
   intro l f hi hf;refine⟨fun h=>(by cases h),fun _ => ?_⟩;rw[aj]at hf;have e1:=(ih l f hi.left (by omega)).2 rfl;have e2:=((lV l f hi.right (by omega)).1 rfl b rfl).1;rw[iE,jb,List.map_nil,IL _ _ (by simpa using hk),e1,e2,Fz,kz,xE hc];rfl
theorem acO {b:Bool}{base:Nat}{ns:List Nd}{ks:List Int}{ts:List af}{uY d:Nat}(h:Sh b base ns ks ts uY d):b=false→ks=[((base+ns.length:Nat):Int) - 1]:=by
 cases h with
 | leaf base ts nd h=>intro _;simp
 | neg base ns a ts rk d h m hm d' ts' hw=>intro _;simp;omega
 | op base o ho ns ms a b ts us pY lY d1 d2 h g s hs e1 e2 ts' kN hw gw=>intro _;simp;omega
 | call base ns ks ts d h t l r ht h1 h2 hl hr=>intro _;simp;omega
 | none base=>intro h;cases h
 | one base ns a ts rk d h=>intro h;cases h
 | and base ns ms ks b ts us rk d1 d2 h hk c hc g=>intro h;cases h
theorem JU {ns:List Nd}{a:Int}{ts:List af}{uY d:Nat}(h:Sh false 0 ns [a] ts uY d)(ht:dM ns=true):gY ns=iZ ts:=by
 unfold gY;rw[if_pos ht];have e:=acO h rfl;have:=((acS h ns ns.length ⟨[],[],by simp,rfl⟩ (ag _)).1 rfl a rfl).1;injection e with e _;rw[e,Nat.zero_add]at this;exact this
theorem aaK {l:List Int}{ts:List af}{f:Nat}{ns:List Nd}(hb:Bytes l)(hl:fG l=some ts)(hp:mF f ts=some (.ok ns))(ht:dM ns=true) :
 (gY ns).length≤l.length∧∃vs g,fG (gY ns)=some vs∧mF g vs=some (.ok ns):=by
 obtain⟨us,uY,d,a,h1,h2,h3,h4,h5⟩:=Ru hb hl hp;rw[JU h1 ht];exact⟨h4,h5⟩
theorem Rx:∀(ns:List Nd)(st:List Int)(i:Nat),(∀k∈st,0≤k∧k<i)→qb st i ns=true→∀(j:Nat)(n:Nd),ns[j]? = some n→fo n=true∧∀k∈n.kids,0≤k∧k<((i+j:Nat):Int)
 | [],_,_,_,_,j,n,h=>by simp at h
 | m :: ns,st,i,hst,ht,j,n,h=>by
   rw[qc,dE,dE,dE,decide_eq_true_iff,decide_eq_true_iff]at ht;obtain⟨h1,h2,h3,h4⟩:=ht;cases j with
   | zero =>
     have:m=n:=by simpa using h
     subst this;refine⟨h1,fun k hk => ?_⟩;rw[← h3]at hk;exact hst k (List.mem_of_mem_drop hk)
   | succ j =>
     have g:=Rx ns _ (i+1) (by
      intro k hk;rcases List.mem_append.1 hk with hk|hk
      · have:=hst k (List.mem_of_mem_take hk);omega
      · simp at hk;omega) h4 j n (by simpa using h)
     rw[show i+(j+1)=i+1+j by omega];exact g
theorem xD {l:List Nd}(h:dM l=true){i:Int}(h0:0≤i)(h1:i<l.length):fo (nodeAt l i)=true∧∀k∈(nodeAt l i).kids,0≤k∧k<i:=by
 have hi:i.toNat<l.length:=by omega
 have hn:l[i.toNat]? = some (nodeAt l i):=by
  unfold nodeAt;rw[iC,bn hi];rfl
 have:=Rx l [] 0 (by intro k hk;simp at hk) h i.toNat _ hn;refine⟨this.1,fun k hk => ?_⟩;have:=this.2 k hk;omega
theorem pE {n:Nd}(h:fo n=true):(n.kind=8→n.kids.length=1)∧(9≤n.kind→n.kids.length=2)∧(1≤n.kind∧n.kind≤6→n.kids=[])∧1≤n.kind∧n.kind≤19∧aD n=true:=by
 unfold fo at h;rw[dE,Bool.or_eq_true,decide_eq_true_iff,decide_eq_true_iff]at h;obtain⟨h1,h2⟩:=h;unfold jm at h2;split at h2
 · refine⟨by omega,by omega,fun _ => ?_,by omega,by omega,h1⟩
   apply l5;omega
 · split at h2
   · exact⟨by omega,by omega,by omega,by omega,by omega,h1⟩
   · split at h2
     · exact⟨by omega,by omega,by omega,by omega,by omega,h1⟩
     · split at h2
       · exact⟨by omega,by omega,by omega,by omega,by omega,h1⟩
       · omega
theorem Ae {n:Nd}{j:Nat}(h:j<n.kids.length):n.kids.getD j 0∈n.kids:=by
 rw[iC,bn h];exact List.getElem_mem h
theorem QU {l:List Nd}(h:dM l=true):∀(m f g:Nat)(i:Int),0≤i→i<l.length→i.toNat<m→i<f→i<g→jS f l i=jS g l i
 | 0,_,_,_,_,_,hm,_,_=>by omega
 | m + 1, f,g,i,h0,h1,hm,hf,hg=>by
   obtain⟨f,rfl⟩:∃f',f=f'+1:=⟨f - 1,by omega⟩;obtain⟨g,rfl⟩:∃g',g=g'+1:=⟨g - 1,by omega⟩;obtain⟨hn,hk⟩:=xD h h0 h1
   have ih:∀k∈(nodeAt l i).kids,jS f l k=jS g l k:=fun k dh=>by
    have:=hk k dh;exact QU h m f g k this.1 (by omega) (by omega) (by omega) (by omega)
   obtain⟨a1,a2,_,_,_,_⟩:=pE hn;rw[zg f l i _ rfl,zg g l i _ rfl];by_cases k7:(nodeAt l i).kind=7
   · have:(nodeAt l i).kids.map (jS f l)=(nodeAt l i).kids.map (jS g l):=List.map_congr_left ih
     simp only[k7,this,reduceIte,Int.reduceEq]
   · by_cases k8:(nodeAt l i).kind=8
     · have e0:=ih _ (Ae (j:=0) (by rw[a1 k8];omega))
       simp only[k8,e0,reduceIte,Int.reduceEq]
     · by_cases k9:9≤(nodeAt l i).kind
       · have e0:=ih _ (Ae (j:=0) (by rw[a2 k9];omega))
         have e1:=ih _ (Ae (j:=1) (by rw[a2 k9];omega));simp only[k7,if_false,e0,e1]
       · have:∀k:Int,k≤8→k≠7→k≠8→1≤k→k=1∨k=2∨k=3∨k=4∨k=5∨k=6:=by omega
         rcases this (nodeAt l i).kind (by omega) k7 k8 (by omega)with e|e|e|e|e|e <;> simp[e]
def bg(l:List Nd)(i:Int):List Int:=jS l.length l i
theorem ui {l:List Nd}(h:dM l=true){i:Int}(h0:0≤i)(h1:i<l.length)(n:Nd)(hn:nodeAt l i=n):bg l i =
 if n.kind=1 then aF n.num.toNat
 else if n.kind=2 then 34 :: (eu (sb n.text)++[34])
 else if n.kind=3 then (if n.num=1 then [84,82,85,69]else [70,65,76,83,69])
 else if n.kind=4 then [35,82,69,70,33]
 else if n.kind=5 then aO (sb n.ref.sh) n.ref.c n.ref.r n.ref.ac n.ref.ar
 else if n.kind=6 then aO (sb n.ref.sh) n.ref.c n.ref.r n.ref.ac n.ref.ar++58 :: aO (sb n.ae.sh) n.ae.c n.ae.r n.ae.ac n.ae.ar
 else if n.kind=7 then sb n.text++40 :: (gV (n.kids.map (bg l))++[41])
 else if n.kind=8 then 45 :: iJ (decide (bz (nodeAt l (n.kids.getD 0 0)).kind<4)) (bg l (n.kids.getD 0 0))
 else iJ (decide (bz (nodeAt l (n.kids.getD 0 0)).kind<bz n.kind)) (bg l (n.kids.getD 0 0)) ++
  (pR (n.kind - 9).toNat++iJ (decide (bz (nodeAt l (n.kids.getD 1 0)).kind≤bz n.kind)) (bg l (n.kids.getD 1 0))):=by
 have:=QU h (i.toNat+1) l.length (l.length+1) i h0 h1 (by omega) h1 (by omega);unfold bg;rw[this,zg l.length l i n hn]
structure av where
 t:ByteArray
 node:Int
 least:Int
def av.plain(t:ByteArray):av:=⟨t,0,0⟩
def av.op(node least:Int):av:=⟨⟨#[]⟩,node,least⟩
def jE(l:List Nd)(p:av):List Int:=if p.t=⟨#[]⟩then iJ (decide ((bz (nodeAt l p.node).kind:Int)+1<p.least)) (bg l p.node)else sb p.t
def jd(l:List Nd)(p:av):Prop:=p.t=⟨#[]⟩→0≤p.node∧p.node<l.length
theorem Ao (l:List Nd)(i m:Int):jE l (av.op i m)=iJ (decide ((bz (nodeAt l i).kind:Int)+1<m)) (bg l i):=by
 unfold jE;rw[if_pos (show(av.op i m).t=⟨#[]⟩from rfl)];rfl
theorem EP (l:List Nd)(t:ByteArray)(h:t≠⟨#[]⟩):jE l (av.plain t)=sb t:=by
 unfold jE;rw[if_neg (show ¬ (av.plain t).t=⟨#[]⟩from h)];rfl
theorem jd.plain(l:List Nd)(t:ByteArray)(h:t≠⟨#[]⟩):jd l (av.plain t):=fun e=>absurd e h
theorem jd.op{l:List Nd}{i:Int}(h0:0≤i)(h1:i<l.length)(m:Int):jd l (av.op i m):=fun _=>⟨h0,h1⟩
def mX:List Int→List av
 | []=>[]
 | [a]=>[av.op a 1]
 | a :: b :: ks=>av.op a 1 :: av.plain ⟨#[44]⟩ :: mX (b :: ks)
theorem IG (l:List Nd)(i:Int):iJ (decide ((bz (nodeAt l i).kind:Int)+1<1)) (bg l i)=bg l i:=by
 rw[decide_eq_false (by omega)];rfl
theorem LV (l:List Nd):∀ks:List Int,(mX ks).flatMap (jE l)=gV (ks.map (bg l))
 | []=>rfl
 | [a]=>by
   show jE l (av.op a 1)++[]=bg l a;rw[fu,Ao,IG]
 | a :: b :: ks=>by
   have ih:=LV l (b :: ks);show jE l (av.op a 1)++(jE l (av.plain ⟨#[44]⟩)++(mX (b :: ks)).flatMap (jE l))=bg l a++44 :: gV ((b :: ks).map (bg l));rw[ih,Ao,IG,EP l _ (by decide)];rfl
def dR (n:Nd):List Int × List av :=
 if n.kind=1 then (aF n.num.toNat,[])
 else if n.kind=2 then (34 :: (eu (sb n.text)++[34]),[])
 else if n.kind=3 then ((if n.num=1 then [84,82,85,69]else [70,65,76,83,69]),[])
 else if n.kind=4 then ([35,82,69,70,33],[])
 else if n.kind=5 then (aO (sb n.ref.sh) n.ref.c n.ref.r n.ref.ac n.ref.ar,[])
 else if n.kind=6 then (aO (sb n.ref.sh) n.ref.c n.ref.r n.ref.ac n.ref.ar++58 :: aO (sb n.ae.sh) n.ae.c n.ae.r n.ae.ac n.ae.ar,[])
 else if n.kind=7 then (sb n.text++[40],mX n.kids++[av.plain ⟨#[41]⟩])
 else if n.kind=8 then ([45],[av.op (n.kids.getD 0 0) 5])
 else ([],[av.op (n.kids.getD 0 0) ((bz n.kind:Int)+1),av.plain (jv.getD (n.kind - 9).toNat ⟨#[]⟩),av.op (n.kids.getD 1 0) ((bz n.kind:Int)+2)])
theorem Ho{p q:Prop} [Decidable p] [Decidable q](h:p↔q):decide p=decide q:=by rw[decide_eq_decide];exact h
theorem PS:∀o:Nat,o<11→jv.getD o ⟨#[]⟩≠⟨#[]⟩:=by decide
theorem ads {l:List Nd}(h:dM l=true){i:Int}(h0:0≤i)(h1:i<l.length)(n:Nd)(hn:nodeAt l i=n):bg l i=(dR n).1++(dR n).2.flatMap (jE l):=by
 obtain⟨hnb, -⟩:=xD h h0 h1;rw[hn]at hnb;obtain⟨-, -, -,b1,b2, -⟩:=pE hnb;rw[ui h h0 h1 n hn];unfold dR;split
 · simp
 split
 · simp
 split
 · simp
 split
 · simp
 split
 · simp
 split
 · simp
 split
 · rw[List.flatMap_append,LV,jV,List.flatMap_nil,EP l _ (by decide)]
   simp only[bO,dO,fQ,fu];rfl
 split
 · rw[jV,List.flatMap_nil,Ao,fu,Ho (show(bz (nodeAt l (n.kids.getD 0 0)).kind<4↔(bz (nodeAt l (n.kids.getD 0 0)).kind:Int)+1<5)by omega)]
   rfl
 · have ho:(n.kind - 9).toNat<11:=by omega
   rw [jV,jV,jV,List.flatMap_nil,Ao,Ao,EP l _ (PS _ ho),(Jl _ ho).2,fu,fQ,
    Ho (show(bz (nodeAt l (n.kids.getD 0 0)).kind<bz n.kind↔(bz (nodeAt l (n.kids.getD 0 0)).kind:Int)+1<(bz n.kind:Int)+1)by omega),
    Ho (show(bz (nodeAt l (n.kids.getD 1 0)).kind≤bz n.kind↔(bz (nodeAt l (n.kids.getD 1 0)).kind:Int)+1<(bz n.kind:Int)+2)by omega)]
theorem LY {l:List Nd}:∀ks:List Int,(∀k∈ks,0≤k∧k<(l.length:Int))→∀p∈mX ks,jd l p
 | [],_,p,hp=>by simp[mX]at hp
 | [a],h,p,hp=>by
   simp[mX]at hp;subst hp;exact jd.op (h a (by simp)).1 (h a (by simp)).2 1
 | a :: b :: ks,h,p,hp=>by
   simp only[mX,List.mem_cons]at hp;rcases hp with rfl|rfl|hp
   · exact jd.op (h a (by simp)).1 (h a (by simp)).2 1
   · exact jd.plain l _ (by decide)
   · exact LY (b :: ks) (fun k hk=>h k (List.mem_cons_of_mem _ hk)) p hp
theorem adt {l:List Nd}(h:dM l=true){i:Int}(h0:0≤i)(h1:i<l.length)(n:Nd)(hn:nodeAt l i=n):∀p∈(dR n).2,jd l p:=by
 obtain⟨hnb,hk⟩:=xD h h0 h1;rw[hn]at hnb hk;obtain⟨a1,a2, -,b1,b2, -⟩:=pE hnb;have hkl:∀k∈n.kids,0≤k∧k<(l.length:Int):=fun k dh=>by have:=hk k dh;omega
 intro p hp;unfold dR at hp;split at hp
 · simp at hp
 split at hp
 · simp at hp
 split at hp
 · simp at hp
 split at hp
 · simp at hp
 split at hp
 · simp at hp
 split at hp
 · simp at hp
 split at hp
 · rcases List.mem_append.1 hp with hp|hp
   · exact LY _ hkl p hp
   · rw[List.mem_singleton.1 hp];exact jd.plain l _ (by decide)
 split at hp
 · rename_i k8
   rw[List.mem_singleton.1 hp];have:=hkl _ (Ae (n:=n) (j:=0) (by rw[a1 k8];omega));exact jd.op this.1 this.2 5
 · have k9:9≤n.kind:=by omega
   have g0:=hkl _ (Ae (n:=n) (j:=0) (by rw[a2 k9];omega));have g1:=hkl _ (Ae (n:=n) (j:=1) (by rw[a2 k9];omega));simp only[List.mem_cons,List.not_mem_nil,or_false]at hp;rcases hp with rfl|rfl|rfl
   · exact jd.op g0.1 g0.2 _
   · exact jd.plain l _ (PS _ (by omega))
   · exact jd.op g1.1 g1.2 _
def lv (l:List Nd)(p:av):List Int × List av :=
 if p.t=⟨#[]⟩then (if (bz (nodeAt l p.node).kind:Int)+1<p.least then (40 :: (dR (nodeAt l p.node)).1,(dR (nodeAt l p.node)).2++[av.plain ⟨#[41]⟩])else dR (nodeAt l p.node))else (sb p.t,[])
theorem Rb {l:List Nd}(h:dM l=true)(p:av)(hp:jd l p):jE l p=(lv l p).1++(lv l p).2.flatMap (jE l):=by
 rw[show jE l p=if p.t=⟨#[]⟩then iJ (decide ((bz (nodeAt l p.node).kind:Int)+1<p.least)) (bg l p.node)else sb p.t from rfl];unfold lv;by_cases ht:p.t=⟨#[]⟩
 · obtain ⟨h0,h1⟩:=hp ht
   rw[if_pos ht,if_pos ht,ads h h0 h1 _ rfl];by_cases hr:(bz (nodeAt l p.node).kind:Int)+1<p.least
   · rw[if_pos hr,decide_eq_true hr,List.flatMap_append,jV,List.flatMap_nil,EP l _ (by decide)]
     show 40 :: (((dR (nodeAt l p.node)).1++(dR (nodeAt l p.node)).2.flatMap (jE l))++[41])=_;simp only[bO,dO,fu];rfl
   · rw[if_neg hr,decide_eq_false hr];rfl
 · rw[if_neg ht,if_neg ht];simp
theorem J5 {l:List Nd}(h:dM l=true)(p:av)(hp:jd l p):∀q∈(lv l p).2,jd l q:=by
 unfold lv;by_cases ht:p.t=⟨#[]⟩
 · obtain ⟨h0,h1⟩:=hp ht
   rw[if_pos ht];have:=adt h h0 h1 _ rfl;by_cases hr:(bz (nodeAt l p.node).kind:Int)+1<p.least
   · rw[if_pos hr]
     intro q hq;rcases List.mem_append.1 hq with hq|hq
     · exact this q hq
     · rw[List.mem_singleton.1 hq];exact jd.plain l _ (by decide)
   · rw[if_neg hr];exact this
 · rw[if_neg ht];intro q hq;simp at hq
theorem Rt {x:Int}{l:List Int}(hall:∀y∈x :: l,isWord y=true)(hx:isLet x=true∨x=36):eP (x :: l++[32])=(match fO (strOfNums (x :: l))with
 | some d=>some ({ af.zero with kind:=4,sh:=d.sh,c:=d.c,r:=d.r,ac:=d.ac,ar:=d.ar },(x :: l).length)
 | none=>if iO (x :: l)=true then some ({ af.zero with kind:=3,text:=strOfNums (x :: l) },(x :: l).length)else none):=by
 have h1:¬ isNum x=true:=by
  rcases hx with hx|hx
  · unfold isLet at hx;unfold isNum;rw[decide_eq_true_iff]at hx ⊢;omega
  · subst hx;decide
 have h2:¬ x=34∧¬ x=35:=by
  rcases hx with hx|hx
  · unfold isLet at hx;rw[decide_eq_true_iff]at hx;omega
  · omega
 have ht:(x :: (l++[32])).takeWhile isWord=x :: l:=uj isWord (x :: l) [32] hall (fun y hy=>by simp at hy;subst hy;decide);rw[dO,p9,if_neg h1,if_neg h2.1,if_neg h2.2,if_pos hx];unfold lD;rw[ht];rfl
def CW(n:Int):af:={ af.zero with kind:=1,num:=n }
def CY(s:ByteArray):af:={ af.zero with kind:=2,text:=s }
def u6(s:ByteArray):af:={ af.zero with kind:=3,text:=s }
def wy(r:cO):af:={ af.zero with kind:=4,sh:=r.sh,c:=r.c,r:=r.r,ac:=r.ac,ar:=r.ar }
def CX(s:ByteArray):af:={ af.zero with kind:=5,text:=s }
def CV:af:={ af.zero with kind:=6 }
theorem aeh {n:Int}(h0:0≤n)(h:n≤9223372036854775807):Tok (CW n):=by
 have e:eB (CW n)=aF n.toNat:=rfl;refine⟨(by simp[CW]), ?_,by rw[e];exact Mq _⟩;have:=aef n.toNat (by omega) [32] (fun x hx=>by simp at hx;subst hx;decide);rw[e,this,Int.toNat_of_nonneg h0];rfl
theorem He:∀l:List Int,Bytes l→Bytes (eu l)
 | [],_=>Bytes.nil
 | x :: l,h=>by
   have ih:=He l (fun y hy=>h y (by simp[hy]));show Bytes ((if x=34 then [34,34]else [x])++eu l);refine Bytes.append ?_ ih;split
   · intro y hy;simp at hy;omega
   · intro y hy;simp at hy;subst hy;exact h y (by simp)
theorem aej {s:ByteArray}(h:lq (sb s)=true):Tok (CY s):=by
 have e:eB (CY s)=34 :: (eu (sb s)++[34]):=rfl;have hb:Bytes [34]:=by intro x hx;simp at hx;omega
 refine⟨(by simp[CY]), ?_,by rw[e];exact Bytes.append (a:=[34]) hb ((He _ (uh s)).append hb)⟩;unfold lq at h;have:=Jz (sb s) [32] (of_decide_eq_true h) (fun x hx=>by simp at hx;omega);rw[e,dO,p9,if_neg (by decide),if_pos rfl];unfold jR;rw[bO,List.singleton_append,this];simp only[Option.map_some,bA,bD,jU,aK,aj,dY]
 first
  | rfl
  | exact⟨rfl,trivial⟩
theorem Ki {s:ByteArray}(h:iO (sb s)=true)(hr:(fO s).isNone=true):Tok (u6 s):=by
 have e:eB (u6 s)=sb s:=rfl;refine⟨(by simp[u6]), ?_,by rw[e];exact uh s⟩;have hc:=h;unfold iO at hc;rw[dE,dE,decide_eq_true_iff,decide_eq_true_iff]at hc;obtain⟨c1,c2,c3⟩:=hc;have hs:=jU s;rw[e];cases hq:sb s with
 | nil=>rw[hq]at c2;simp at c2
 | cons x l =>
   rw[hq]at c1 c3 hs h
   have hall:∀y∈x :: l,isWord y=true:=by
    intro y hy;have:=c1 y hy;rw[Bool.or_eq_true]at this;rcases this with g|g
    · exact RH g
    · exact Ku g
   have hx:isLet x=true:=by
    have hx:aG x=true:=by simpa using c3
    unfold aG at hx;unfold isLet;rw[decide_eq_true_iff]at hx ⊢;omega
   rw[Rt hall (.inl hx),hs];cases hd:fO s with
   | some d=>rw[hd]at hr;cases hr
   | none=>simp only;rw[if_pos h];rfl
theorem Kj {r:cO}(h:gp r=true):Tok (wy r):=by
 have e:eB (wy r)=aO (sb r.sh) r.c r.r r.ac r.ar:=rfl;refine⟨(by simp[wy]), ?_,by rw[e];exact ym _ _ _ _ _⟩;obtain⟨x,l,hd,hx⟩:=adL (sb r.sh) r.c r.r r.ac r.ar h;have hall:=ae0 (sb r.sh) r.c r.r r.ac r.ar h;obtain⟨d,hr,e1,e2,e3,e4,e5⟩:=aa8 r.sh r.c r.r r.ac r.ar h;rw[e];rw[hd]at hall hr ⊢;rw[Rt hall hx,hr];simp only[e1,e2,e3,e4,e5];rfl
def Fx (t:af):Bool:=match eP (eB t++[32])with
 | some (u,n)=>decide (n=(eB t).length)&&(decide (u.kind=t.kind∧u.text=t.text∧u.num=t.num∧u.sh=t.sh∧u.c=t.c∧u.r=t.r∧u.pos=0)&&(u.ac == t.ac&&u.ar == t.ar))
 | none=>false
theorem Rq {t:af}(h:Fx t=true)(hk:t.kind≠0)(hb:Bytes (eB t)):Tok t:=by
 refine⟨hk, ?_,hb⟩;unfold Fx at h;cases hq:eP (eB t++[32])with
 | none=>rw[hq]at h;cases h
 | some q =>
   obtain⟨u,n⟩:=q;rw[hq]at h;simp only[dE,decide_eq_true_iff,beq_iff_eq]at h;obtain⟨h1,⟨g1,g2,g3,g4,g5,g6,g7⟩,g8,g9⟩:=h;rw[h1]
   have:u=t.goto 0:=by
    cases u;cases t;simp only[af.goto]at *;subst g1 g2 g3 g4 g5 g6 g7 g8 g9;rfl
   rw[this]
def signs:List ByteArray:=[⟨#[40]⟩,⟨#[41]⟩,⟨#[44]⟩,⟨#[58]⟩]++jv
theorem adl:signs.all (fun s=>Fx (CX s)&&(eB (CX s)).all fun x=>decide (0≤x∧x≤255))=true:=by decide +kernel
theorem VC:(Fx CV&&(eB CV).all fun x=>decide (0≤x∧x≤255))=true:=by decide +kernel
theorem xB {s:ByteArray}(h:s∈signs):Tok (CX s)∧fU s (CX s):=by
 have:=List.all_eq_true.1 adl s h;rw[dE]at this;refine⟨Rq this.1 (by decide +revert) ?_,rfl,rfl⟩;intro x hx
 simpa using List.all_eq_true.1 this.2 x hx
theorem aee:Tok CV:=by
 have:=VC;rw[dE]at this;refine⟨by decide,(Rq this.1 (by decide) ?_).2.1, ?_⟩
 all_goals
  intro x hx
  simpa using List.all_eq_true.1 this.2 x hx
end Go.Proofs.YtdnooocmlhcpkaaGreatDoor
