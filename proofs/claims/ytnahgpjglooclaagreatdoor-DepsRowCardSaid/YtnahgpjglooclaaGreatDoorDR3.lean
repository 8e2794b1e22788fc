/-
 Texts of layers, put together.
-/
import Derived.Test.YtnahgpjglooclaaGreatDoorDR2
import Derived.Laws.ResultCell
import Derived.Laws.Rows
import Derived.Deep.RegionLaw
namespace Go.Proofs.YtnahgpjglooclaaGreatDoor
open Go.RowKit
def TokOut (o:Option (Tk × Nat)) (b:Nat) (s:ByteArray) (k:Nat) (w:World) (e:Ending) (w':World):Prop :=
 w.grownBy w' (some b)∧((∃ t n,o=some (t,n)∧e = .returned (.tuple #[.agg (tokA t),.bool true])∧LxAt w' b s (k+n))∨(o=none∧∃ t,e = .returned (.tuple #[.agg (tokA t),.bool false])))
theorem grownBy.setNew {a w:World} {r:Option Nat} (h:a.grownBy w r) (ad:Addr) (v:Value) (hg:a.heap.size≤ad.block):a.grownBy (w.setCell ad v) r :=
 ⟨h.os,h.tape,h.output,by simpa using h.size,fun j hj hr=>by
  rw [Below.heap_setCell _ _ _ _ (by intro e;omega)];exact h.block j hj hr⟩
theorem grownBy.set9 {a w:World} {r:Option Nat} {g:Nat} (h:a.grownBy w r) (hg:a.heap.size≤g) (v0 v1 v2 v3 v4 v5 v6 v7 v8:Value) :
 a.grownBy (((((((((w.setCell ⟨g,0,none⟩ v0).setCell ⟨g,1,none⟩ v1).setCell ⟨g,2,none⟩ v2).setCell ⟨g,3,none⟩ v3).setCell ⟨g,4,none⟩ v4).setCell ⟨g,5,none⟩ v5).setCell ⟨g,6,none⟩ v6).setCell ⟨g,7,none⟩ v7).setCell ⟨g,8,none⟩ v8) r :=
 grownBy.setNew (grownBy.setNew (grownBy.setNew (grownBy.setNew (grownBy.setNew (grownBy.setNew (grownBy.setNew (grownBy.setNew (grownBy.setNew (h) _ _ hg) _ _ hg) _ _ hg) _ _ hg) _ _ hg) _ _ hg) _ _ hg) _ _ hg) _ _ hg
theorem LxAt.other {w:World} {b:Nat} {s:ByteArray} {k:Nat} (h:LxAt w b s k) (ad:Addr) (v:Value) (hne:ad.block≠b):LxAt (w.setCell ad v) b s k:=by
 unfold LxAt;rw [Below.heap_setCell _ _ _ _ (by intro e;exact hne e.symm)];exact h
theorem LxAt.set9 {w:World} {b:Nat} {s:ByteArray} {k g:Nat} (h:LxAt w b s k) (hg:g≠b) (v0 v1 v2 v3 v4 v5 v6 v7 v8:Value) :
 LxAt (((((((((w.setCell ⟨g,0,none⟩ v0).setCell ⟨g,1,none⟩ v1).setCell ⟨g,2,none⟩ v2).setCell ⟨g,3,none⟩ v3).setCell ⟨g,4,none⟩ v4).setCell ⟨g,5,none⟩ v5).setCell ⟨g,6,none⟩ v6).setCell ⟨g,7,none⟩ v7).setCell ⟨g,8,none⟩ v8) b s k :=
 ((((((((h.other _ _ hg).other _ _ hg).other _ _ hg).other _ _ hg).other _ _ hg).other _ _ hg).other _ _ hg).other _ _ hg).other _ _ hg
theorem TkAt.cells {w:World} {b:Nat} {t:Tk} (h:TkAt w b t):w.cell? ⟨b,0,none⟩=some (.int .i64 t.kind)∧w.cell? ⟨b,1,none⟩=some (.string t.text)∧w.cell? ⟨b,2,none⟩=some (.int .i64 t.num)∧w.cell? ⟨b,3,none⟩=some (.string t.sh)∧w.cell? ⟨b,4,none⟩=some (.int .i64 t.c)∧w.cell? ⟨b,5,none⟩=some (.int .i64 t.r)∧w.cell? ⟨b,6,none⟩=some (.bool t.ac)∧w.cell? ⟨b,7,none⟩=some (.bool t.ar)∧w.cell? ⟨b,8,none⟩=some (.int .i64 t.pos) :=
 ⟨by rw [cell_of_row w b 0 _ _ _ h];rfl,by rw [cell_of_row w b 1 _ _ _ h];rfl,by rw [cell_of_row w b 2 _ _ _ h];rfl,by rw [cell_of_row w b 3 _ _ _ h];rfl,by rw [cell_of_row w b 4 _ _ _ h];rfl,by rw [cell_of_row w b 5 _ _ _ h];rfl,by rw [cell_of_row w b 6 _ _ _ h];rfl,by rw [cell_of_row w b 7 _ _ _ h];rfl,by rw [cell_of_row w b 8 _ _ _ h];rfl⟩
theorem TkAt.melts {w:World} {b:Nat} {t:Tk} (h:TkAt w b t):w.frozen? ⟨b,0,none⟩=false∧w.frozen? ⟨b,1,none⟩=false∧w.frozen? ⟨b,2,none⟩=false∧w.frozen? ⟨b,3,none⟩=false∧w.frozen? ⟨b,4,none⟩=false∧w.frozen? ⟨b,5,none⟩=false∧w.frozen? ⟨b,6,none⟩=false∧w.frozen? ⟨b,7,none⟩=false∧w.frozen? ⟨b,8,none⟩=false :=
 ⟨h.frozen 0,h.frozen 1,h.frozen 2,h.frozen 3,h.frozen 4,h.frozen 5,h.frozen 6,h.frozen 7,h.frozen 8⟩
abbrev zTok:Array Value:=#[.int .i64 0,.string ⟨#[]⟩,.int .i64 0,.string ⟨#[]⟩,.int .i64 0,.int .i64 0,.bool false,.bool false,.int .i64 0]
theorem TkAt.zero (w:World):TkAt (w.alloc (.cells zTok 125)) w.heap.size Tk.zero:=TkAt.new w Tk.zero
theorem TkAt.load {w:World} {b:Nat} {t:Tk} (h:TkAt w b t):(loadVar 125 ⟨b,0,none⟩).run Tryz.prog w = .ok (.agg (tokA t)) w :=
 run_loadVar_row w b 125 125 _ _ _ h Tryz.underlying125 rfl tok_size
theorem out_tok {w:World} {b:Nat} {t:Tk} (h:TkAt w b t) (fn:Func) (tmps:Array Value) (ok:Bool) (p u:Tmp) (hf:fn.results=#[.cell p 125,.tmp u]) (hp:tmps.getD p undef = .pointer (some ⟨b,0,none⟩)) (hu:tmps.getD u undef = .bool ok) :
 (results fn tmps).run Tryz.prog w = .ok (.tuple #[.agg (tokA t),.bool ok]) w:=by
 rw [results_cell_tmp hf,hp,hu]
 simp [asAddr,h.load,Result.andThen]
theorem TkAt.set0 {w:World} {b:Nat} {t:Tk} (h:TkAt w b t) (x:Int):TkAt (w.setCell ⟨b,0,none⟩ (.int .i64 x)) b { t with kind:=x }:=by unfold TkAt;rw [heap_setCell_same w b 0 _ _ _ h];rfl
theorem TkAt.set1 {w:World} {b:Nat} {t:Tk} (h:TkAt w b t) (x:ByteArray):TkAt (w.setCell ⟨b,1,none⟩ (.string x)) b { t with text:=x }:=by unfold TkAt;rw [heap_setCell_same w b 1 _ _ _ h];rfl
theorem TkAt.set2 {w:World} {b:Nat} {t:Tk} (h:TkAt w b t) (x:Int):TkAt (w.setCell ⟨b,2,none⟩ (.int .i64 x)) b { t with num:=x }:=by unfold TkAt;rw [heap_setCell_same w b 2 _ _ _ h];rfl
theorem TkAt.set3 {w:World} {b:Nat} {t:Tk} (h:TkAt w b t) (x:ByteArray):TkAt (w.setCell ⟨b,3,none⟩ (.string x)) b { t with sh:=x }:=by unfold TkAt;rw [heap_setCell_same w b 3 _ _ _ h];rfl
theorem TkAt.set4 {w:World} {b:Nat} {t:Tk} (h:TkAt w b t) (x:Int):TkAt (w.setCell ⟨b,4,none⟩ (.int .i64 x)) b { t with c:=x }:=by unfold TkAt;rw [heap_setCell_same w b 4 _ _ _ h];rfl
theorem TkAt.set5 {w:World} {b:Nat} {t:Tk} (h:TkAt w b t) (x:Int):TkAt (w.setCell ⟨b,5,none⟩ (.int .i64 x)) b { t with r:=x }:=by unfold TkAt;rw [heap_setCell_same w b 5 _ _ _ h];rfl
theorem TkAt.set6 {w:World} {b:Nat} {t:Tk} (h:TkAt w b t) (x:Bool):TkAt (w.setCell ⟨b,6,none⟩ (.bool x)) b { t with ac:=x }:=by unfold TkAt;rw [heap_setCell_same w b 6 _ _ _ h];rfl
theorem TkAt.set7 {w:World} {b:Nat} {t:Tk} (h:TkAt w b t) (x:Bool):TkAt (w.setCell ⟨b,7,none⟩ (.bool x)) b { t with ar:=x }:=by unfold TkAt;rw [heap_setCell_same w b 7 _ _ _ h];rfl
theorem TkAt.set8 {w:World} {b:Nat} {t:Tk} (h:TkAt w b t) (x:Int):TkAt (w.setCell ⟨b,8,none⟩ (.int .i64 x)) b { t with pos:=x }:=by unfold TkAt;rw [heap_setCell_same w b 8 _ _ _ h];rfl
theorem TkAt.put9 {w:World} {b:Nat} {t0:Tk} (h:TkAt w b t0) (t:Tk):TkAt (((((((((w.setCell ⟨b,0,none⟩ (.int .i64 t.kind)).setCell ⟨b,1,none⟩ (.string t.text)).setCell ⟨b,2,none⟩ (.int .i64 t.num)).setCell ⟨b,3,none⟩ (.string t.sh)).setCell ⟨b,4,none⟩ (.int .i64 t.c)).setCell ⟨b,5,none⟩ (.int .i64 t.r)).setCell ⟨b,6,none⟩ (.bool t.ac)).setCell ⟨b,7,none⟩ (.bool t.ar)).setCell ⟨b,8,none⟩ (.int .i64 t.pos)) b t:=by
 have h9:=(((((((((h.set0 t.kind).set1 t.text).set2 t.num).set3 t.sh).set4 t.c).set5 t.r).set6 t.ac).set7 t.ar).set8 t.pos)
 exact h9
theorem atoi_parse:∀ (l:List UInt8) (a:Nat) (L:List Int),a<18446744073709551616→valL L=(a:Int)→(∀ c∈l,48≤c.toNat∧c.toNat≤57) →
 Lib.parseUint10 a l=if valL (L++l.map fun x=>(x.toNat:Int))<18446744073709551616 then .ok (valL (L++l.map fun x=>(x.toNat:Int))).toNat else .range
 | [],a,L,ha,hL,_=>by
   simp only [List.map_nil,List.append_nil]
   rw [hL,if_pos (by omega)];unfold Lib.parseUint10;simp
 | c :: l,a,L,ha,hL,h=>by
   have hc:=h c (by simp)
   have hv:valL (L++[(c.toNat:Int)])=10*(a:Int)+((c.toNat:Int) - 48):=by rw [valL_snoc,hL]
   have hge:=valL_ge (l.map fun x=>(x.toNat:Int)) (L++[(c.toNat:Int)]) (by
    intro x hx;rw [List.mem_map] at hx;obtain ⟨d,hd,rfl⟩:=hx
    have:=h d (by simp [hd])
    unfold isNum;rw [decide_eq_true_iff];omega) (by omega)
   have e:L++(c :: l).map (fun x=>(x.toNat:Int))=L++[(c.toNat:Int)]++l.map fun x=>(x.toNat:Int):=by simp
   rw [e]
   unfold Lib.parseUint10
   rw [if_pos hc]
   by_cases h1:1844674407370955162≤a
   · rw [if_pos h1,if_neg (by omega)]
   · rw [if_neg h1]
     by_cases h2:18446744073709551616≤a*10+(c.toNat - 48)
     · rw [if_pos h2,if_neg (by omega)]
     · rw [if_neg h2]
       exact atoi_parse l (a*10+(c.toNat - 48)) (L++[(c.toNat:Int)]) (by omega) (by rw [hv];omega) (fun d hd=>h d (by simp [hd]))
theorem atoi_nums (D:ByteArray) (h0:sb D≠[]) (h:∀ x∈sb D,isNum x=true):Lib.atoiAll D.data.toList=if 9223372036854775807<valL (sb D) then .range else .ok (valL (sb D)):=by
 have hsb:sb D=D.data.toList.map fun x=>(x.toNat:Int):=rfl
 have hpos:=valL_ge (sb D) [] h (by decide)
 rw [List.nil_append,show valL []=0 from rfl] at hpos
 rw [hsb] at h0 h hpos ⊢
 cases hl:D.data.toList with
 | nil=>rw [hl] at h0;exact absurd rfl h0
 | cons c r =>
   rw [hl] at h hpos
   have hall:∀ d∈c :: r,48≤d.toNat∧d.toNat≤57:=by
    intro d hd
    have:=num_bd (h (d.toNat:Int) (List.mem_map_of_mem (f:=fun x:UInt8=>(x.toNat:Int)) hd))
    omega
   have hc:=hall c (by simp)
   unfold Lib.atoiAll
   simp only
   rw [if_neg (by omega)]
   unfold Lib.parseMag
   rw [if_neg (by simp)]
   rw [atoi_parse (c :: r) 0 [] (by omega) rfl hall,List.nil_append]
   have hneg:¬ c.toNat=45:=by omega
   by_cases h1:valL ((c :: r).map fun x=>(x.toNat:Int))<18446744073709551616
   · rw [if_pos h1]
     simp only [hneg,false_and,not_false_iff,true_and,if_false]
     by_cases h2:9223372036854775807<valL ((c :: r).map fun x=>(x.toNat:Int))
     · rw [if_pos h2,if_pos (by omega)]
     · rw [if_neg h2,if_neg (by omega)]
       congr 1;omega
   · rw [if_neg h1,if_pos (by omega)]
def ErrV (w:World):Prop:=∃ ev,w.cell? ⟨4,0,none⟩=some ev∧(ev = .nilIface∨∃ te pe,ev = .iface te pe)
theorem ErrV.grown {w w':World} {b:Nat} (h:ErrV w) (hg:w.grownBy w' (some b)) (hb:4<b):ErrV w':=by
 obtain ⟨ev,h1,h2⟩:=h
 refine ⟨ev, ?_,h2⟩
 rw [cell_other hg ?_ (by intro e;have:=Option.some.inj e;simp at this;omega)]
 · exact h1
 · rcases Nat.lt_or_ge 4 w.heap.size with h' | h'
   · exact h'
   · exfalso;unfold World.cell? at h1;simp only at h1;rw [Array.getElem?_eq_none h'] at h1;cases h1
theorem TkAt.drew {w:World} {b:Nat} {t:Tk} (h:TkAt w b t):TkAt w.drew b t:=h
theorem LxAt.drew {w:World} {b:Nat} {s:ByteArray} {k:Nat} (h:LxAt w b s k):LxAt w.drew b s k:=h
theorem grownBy.drew' {a w:World} {r:Option Nat} (h:a.grownBy w r):a.grownBy w.drew r:=⟨h.os,h.tape,h.output,h.size,h.block⟩
theorem atoi_ok (D:ByteArray) (hD:D.size≤1000000) (v:Int) (h:Lib.atoiAll D.data.toList = .ok v) (w:World):Calls Tryz.prog 101 #[.string D] w fun e w'=>e = .returned (.tuple #[.int .i64 v,.nilIface])∧Below w.heap.size w w':=by
 refine (Tryz.strconv_Atoi_ok D (by omega) v h w).mono ?_
 rintro e w' ⟨rfl,rfl | ⟨t,rfl⟩⟩
 · exact ⟨rfl,Below.refl _ _⟩
 · exact ⟨rfl,Lib.bytesWorld_below _ _ _⟩
theorem res_number:Tryz.f138.results=#[.cell 2 125,.tmp 3]:=by kernel_rfl
set_option maxRecDepth 100000 in
set_option maxHeartbeats 800000 in
theorem number_any (b:Nat) (s:ByteArray) (k:Nat) (w:World) (h:LxAt w b s k) (_hs:s.size≤1000000) (_hk:k<s.size) (hd:isNum ((s[k].toNat:Nat):Int)=true) (hev:ErrV w) (hb2:4<b) :
 Calls Tryz.prog 138 #[.pointer (some ⟨b,0,none⟩)] w (TokOut (numT (restL s k)) b s k w):=by
 have hal:w.grownBy (w.alloc (.cells zTok 125)) (some b):=grownBy.below' (grownBy.refl' _ _) ((Below.refl _ _).alloc (Nat.le_refl _) _)
 have h1:LxAt (w.alloc (.cells zTok 125)) b s k:=h.below ((Below.refl _ _).alloc (Nat.le_refl _) _) h.lt
 have hlt:=h.lt
 have HEV:=Lib.hid (hev.grown hal hb2);clear hev
 obtain ⟨ds,hds⟩:∃ ds,(restL s k).takeWhile isNum=ds:=⟨_,rfl⟩
 obtain ⟨D,hD⟩:∃ D,strOfNums ds=D:=⟨_,rfl⟩
 have hbd:Bytes ds:=fun x hx=>restL_bd s k x (by rw [← hds] at hx;exact (List.takeWhile_prefix _).subset hx)
 have hsD:sb D=ds:=by rw [← hD];exact sb_str ds hbd
 have hszD:D.size=ds.length:=by rw [← length_sb,hsD]
 have hlen:ds.length≤s.size:=by rw [← hds];have h0:=take_le isNum (restL s k);rw [length_restL] at h0;omega
 have hW:=(whileDigit_any b s k _ h1 _hs (by omega)).mono (R':=fun e w'=>(w.alloc (.cells zTok 125)).grownBy w' (some b)∧e = .returned (.string D)∧LxAt w' b s (k+ds.length)) (fun e w' ⟨x1,x2,x3⟩=>⟨x1,by rw [x2,hds,hD],by rw [hds] at x3;exact x3⟩)
 have HW:=Lib.hid hW;clear hW h1 h
 have HAL:=Lib.hid hal;clear hal
 have HTK:=Lib.hid (TkAt.zero w)
 have hne:ds≠[]:=by
  have h0:=restL_at s k 0 (by omega)
  rw [← hds]
  cases hr:restL s k with
  | nil=>rw [hr] at h0;simp at h0
  | cons x l=>rw [hr] at h0;simp at h0;rw [List.takeWhile_cons,h0,hd];simp
 have hall:∀ x∈ds,isNum x=true:=by rw [← hds];exact take_all isNum _
 have hN:numT (restL s k)=if (1<ds.length∧ds.head? = some 48)∨9223372036854775807<valL ds then none else some ({ Tk.zero with kind:=1,num:=valL ds },ds.length):=by
  unfold numT
  rw [hds]
  have hh:(restL s k).head? = ds.head? := by
   have e:=take_split isNum (restL s k)
   rw [hds] at e
   rw [← e]
   cases ds with
   | nil=>exact absurd rfl hne
   | cons x l=>rfl
  rw [hh]
 have hat:=atoi_nums D (by rw [hsD];exact hne) (by rw [hsD];exact hall)
 rw [hsD] at hat
 have hp:=List.length_pos_iff.2 hne
 have hD0:0<D.size:=by omega
 obtain ⟨a,ha⟩:∃ a:Int,(D[0].toNat:Int)=a:=⟨_,rfl⟩
 have hhd:ds.head? = some a:=by rw [← ha, ← hsD,List.head?_eq_getElem?,sb_at D 0 hD0]
 have hmx:D.size≤1000000:=by omega
 have HD:=Lib.hid hD;have HSD:=Lib.hid hsD
 have HLEN:=Lib.hid hlen
 have HALL:=Lib.hid hall
 clear hne hall hbd hds hD hsD hlen
 have hw0:w.heap.size≠b:=by omega
 by_cases h48:1<ds.length∧ds.head? = some 48
 · rw [if_pos (Or.inl h48)] at hN
   have HN:=Lib.hid hN;clear hN hat
   have h481:(1:Int)<(D.size:Int):=by omega
   have h482:(a == 48)=true:=by rw [hhd] at h48;exact beq_iff_eq.2 (Option.some.inj h48.2)
   have HHD:=Lib.hid hhd
   clear h48 hhd hp
   go_enter Tryz.func138,Tryz.ntmps138
   go_wp2_with (go_at_call 103;((with_reducible refine HW.out.mono ?_);rintro e w1 ⟨h1,rfl,h2⟩;have H1:=Lib.hid h1;have H2:=Lib.hid h2;clear h1 h2;have HT1:=Lib.hid (HTK.out.grown H1.out hw0);obtain ⟨x0,x1,x2,x3,x4,x5,x6,x7,x8⟩:=HT1.out.cells;obtain ⟨f0,f1,f2,f3,f4,f5,f6,f7,f8⟩:=HT1.out.melts))
   exact bodyPost_ret (out_tok (HT1.out.put9 Tk.zero) _ _ false 2 3 res_number rfl rfl) rfl ⟨grownBy.set9 (grownBy.trans' HAL.out H1.out) (Nat.le_refl _) _ _ _ _ _ _ _ _ _,.inr ⟨HN.out,Tk.zero,rfl⟩⟩
 · by_cases hbig:9223372036854775807<valL ds
   · rw [if_pos (Or.inr hbig)] at hN
     rw [if_pos hbig] at hat
     have HN:=Lib.hid hN
     have HAT:=Lib.hid hat
     clear hN hat
     have hcond:(a == 48)=false∨((a == 48)=true∧¬ (1:Int)<(D.size:Int)):=by
      by_cases ha48:a=48
      · refine .inr ⟨beq_iff_eq.2 ha48,fun h1=>h48 ⟨by omega,by rw [hhd,ha48]⟩⟩
      · exact .inl (beq_eq_false_iff_ne.2 ha48)
     clear h48 hhd hp hbig
     go_enter Tryz.func138,Tryz.ntmps138
     rcases hcond with hc1 | ⟨hc1,hc2⟩
     all_goals go_wp2_with (first
      | (go_at_call 103;((with_reducible refine HW.out.mono ?_);rintro e w1 ⟨h1,rfl,h2⟩;have H1:=Lib.hid h1;have H2:=Lib.hid h2;clear h1 h2;obtain ⟨ev,HE1,HE2⟩:=HEV.out.grown H1.out hb2;have HE1:=Lib.hid HE1;have HE2:=Lib.hid HE2))
      | (go_at_call 101;((with_reducible refine (Tryz.strconv_Atoi_range D ?_ HAT.out ev _ HE1.out HE2.out).mono ?_);(first | omega | skip);rintro e w2 ⟨N,rfl, -, -,h3⟩;have H3:=Lib.hid h3;clear h3;have HT2:=Lib.hid ((HTK.out.grown H1.out hw0).below H3.out (HTK.out.grown H1.out hw0).lt);obtain ⟨x0,x1,x2,x3,x4,x5,x6,x7,x8⟩:=HT2.out.cells;obtain ⟨f0,f1,f2,f3,f4,f5,f6,f7,f8⟩:=HT2.out.melts)))
     all_goals (generalize Lib.atoiSat D.data.toList=sat)
     all_goals go_region
     all_goals go_wp2_with fail
     all_goals exact bodyPost_ret (out_tok (HT2.out.put9 { Tk.zero with kind:=1,num:=sat }).drew _ _ false 2 3 res_number rfl rfl) rfl ⟨grownBy.drew' (grownBy.set9 (grownBy.below' (grownBy.trans' HAL.out H1.out) H3.out) (Nat.le_refl _) _ _ _ _ _ _ _ _ _),.inr ⟨HN.out,{ Tk.zero with kind:=1,num:=sat },rfl⟩⟩
   · rw [if_neg (show ¬ ((1<ds.length∧ds.head? = some 48)∨9223372036854775807<valL ds) from fun h1=>h1.elim h48 hbig)] at hN
     rw [if_neg hbig] at hat
     obtain ⟨v,hv⟩:∃ v,valL ds=v:=⟨_,rfl⟩
     rw [hv] at hN hat
     have HN:=Lib.hid hN
     have HAT:=Lib.hid hat
     clear hN hat hv
     have hcond:(a == 48)=false∨((a == 48)=true∧¬ (1:Int)<(D.size:Int)):=by
      by_cases ha48:a=48
      · refine .inr ⟨beq_iff_eq.2 ha48,fun h1=>h48 ⟨by omega,by rw [hhd,ha48]⟩⟩
      · exact .inl (beq_eq_false_iff_ne.2 ha48)
     clear h48 hhd hp hbig
     go_enter Tryz.func138,Tryz.ntmps138
     rcases hcond with hc1 | ⟨hc1,hc2⟩
     all_goals go_wp2_with (first
      | (go_at_call 103;((with_reducible refine HW.out.mono ?_);rintro e w1 ⟨h1,rfl,h2⟩;have H1:=Lib.hid h1;have H2:=Lib.hid h2;clear h1 h2))
      | (go_at_call 101;((with_reducible refine (atoi_ok D ?_ v HAT.out _).mono ?_);(first | omega | skip);rintro e w2 ⟨rfl,h3⟩;have H3:=Lib.hid h3;clear h3;have HL2:=Lib.hid (H2.out.below H3.out H2.out.lt);have HT2:=Lib.hid ((HTK.out.grown H1.out hw0).below H3.out (HTK.out.grown H1.out hw0).lt);obtain ⟨x0,x1,x2,x3,x4,x5,x6,x7,x8⟩:=HT2.out.cells;obtain ⟨f0,f1,f2,f3,f4,f5,f6,f7,f8⟩:=HT2.out.melts)))
     all_goals go_region
     all_goals go_wp2_with fail
     all_goals exact bodyPost_ret (out_tok (HT2.out.put9 { Tk.zero with kind:=1,num:=v }).drew _ _ true 2 3 res_number rfl rfl) rfl ⟨grownBy.drew' (grownBy.set9 (grownBy.below' (grownBy.trans' HAL.out H1.out) H3.out) (Nat.le_refl _) _ _ _ _ _ _ _ _ _),.inl ⟨_,_,HN.out,rfl,(HL2.out.set9 hw0 _ _ _ _ _ _ _ _ _).drew⟩⟩
theorem idx_list:∀ (l:List UInt8),Lib.indexByte l 33=if ((l.map (fun b=>(b.toNat:Int))).takeWhile ne33).length=l.length then -1 else (((l.map (fun b=>(b.toNat:Int))).takeWhile ne33).length:Int)
 | []=>rfl
 | x :: l=>by
   have ih:=idx_list l
   unfold Lib.indexByte
   by_cases hx:x=33
   · subst hx
     have hne:ne33 ((33:UInt8).toNat:Int)=false:=by decide
     rw [List.map_cons,List.takeWhile_cons,hne]
     simp
   · have hne:ne33 (x.toNat:Int)=true:=by
      unfold ne33;rw [decide_eq_true_iff];intro h;apply hx
      apply UInt8.toNat_inj.1;show x.toNat=33;omega
     have hb:(x == (33:UInt8))=false:=by rw [beq_eq_false_iff_ne];exact hx
     rw [hb,List.map_cons,List.takeWhile_cons,hne,if_pos rfl,List.length_cons,List.length_cons,ih]
     obtain ⟨n,hn⟩:∃ n,((l.map (fun b=>(b.toNat:Int))).takeWhile ne33).length=n:=⟨_,rfl⟩
     rw [hn]
     by_cases h:n=l.length
     · have h2:n+1=l.length+1:=by omega
       rw [if_pos h,if_pos h2];rfl
     · have h2:¬ n+1=l.length+1:=by omega
       rw [if_neg h,if_neg h2]
       have:((n:Int) == -1)=false:=by rw [beq_eq_false_iff_ne];omega
       rw [this];simp
theorem idx_sheet (d:Rd):Lib.indexByte d.s.data.toList 33=if d.sheetP.length=d.s.size then -1 else (d.sheetP.length:Int):=by
 rw [idx_list];unfold Rd.sheetP sb;rw [← list_bytes]
 have:d.s.toList.length=d.s.size:=by rw [list_bytes];rfl
 rw [this]
theorem sheetP_take (d:Rd):(sb d.s).take d.sheetP.length=d.sheetP:=by
 have e:=take_split ne33 (sb d.s)
 have h:(d.sheetP++(sb d.s).drop d.sheetP.length).take d.sheetP.length=d.sheetP:=List.take_left
 have e2:d.sheetP++(sb d.s).drop d.sheetP.length=sb d.s:=e
 rw [e2] at h;exact h
theorem sheetP_lt (d:Rd) (h:¬ d.sheetP.length=d.s.size):d.sheetP.length<d.s.size:=by
 have e:=congrArg List.length (take_split ne33 (sb d.s))
 rw [List.length_append,length_sb] at e
 unfold Rd.sheetP at h ⊢;omega
set_option maxRecDepth 100000 in
set_option maxHeartbeats 400000 in
theorem sheet_any (b:Nat) (d:Rd) (w:World) (h:RdAt w b d) (_hs:d.s.size≤1000000) :
 Calls Tryz.prog 184 #[.pointer (some ⟨b,0,none⟩)] w (Part d.sheet b w):=by
 obtain ⟨c0,c1,c2,c3,c4,c5,c6⟩:=h.facts
 have f1:=h.frozen 1
 have f2:=h.frozen 2
 clear c3 c4 c5 c6
 have HR:=Lib.hid h;clear h
 have hix:=idx_sheet d
 by_cases hno:d.sheetP.length=d.s.size
 · have hf:d.sheet=some d:=by unfold Rd.sheet;rw [if_pos hno]
   rw [if_pos hno] at hix
   have HF:=Lib.hid hf;clear hf hno
   have HIX:=Lib.hid hix;clear hix
   go_enter Tryz.func184,Tryz.ntmps184
   go_wp2_with (go_at_call 199;((with_reducible refine (Tryz.strings_IndexByte d.s 33 _).mono ?_);rintro e w1 ⟨rfl,rfl⟩;(rw [show (33:Int).toNat.toUInt8=33 from rfl,HIX.out])))
   go_ret
   exact ⟨grownBy.refl' _ _,.inl ⟨d,HF.out,rfl,HR.out⟩⟩
 · have hlt:=sheetP_lt d hno
   rw [if_neg hno] at hix
   obtain ⟨i,hi⟩:∃ i:Nat,d.sheetP.length=i:=⟨_,rfl⟩
   rw [hi] at hix hlt
   have hf:d.sheet=if nameL d.sheetP=true then some { d with sh:=strOfNums d.sheetP,k:=i+1 } else none:=by unfold Rd.sheet;rw [if_neg hno,hi]
   have hcut:d.s.extract 0 i=strOfNums d.sheetP:=by
    rw [← sheetP_take,hi, ← str_sb (d.s.extract 0 i)]
    congr 1
    unfold sb;rw [← List.map_take];congr 1
    simp [ByteArray.data_extract]
   have hsz:(strOfNums d.sheetP).size≤1000000:=by rw [strOfNums_size];omega
   have hb:sb (strOfNums d.sheetP)=d.sheetP:=sb_str _ (fun x hx=>sb_bd d.s x (by rw [← sheetP_take] at hx;exact List.mem_of_mem_take hx))
   have HIX:=Lib.hid hix;clear hix
   have HF:=Lib.hid hf;clear hf
   have HCUT:=Lib.hid hcut;clear hcut
   have HB:=Lib.hid hb;clear hb
   have hile:(i:Int)≤(d.s.size:Int):=by omega
   have hi0:(0:Int)≤(i:Int):=by omega
   clear hno hi
   go_enter Tryz.func184,Tryz.ntmps184
   by_cases hn:nameL d.sheetP=true
   · have hf2:d.sheet=some { d with sh:=strOfNums d.sheetP,k:=i+1 }:=by rw [HF.out,if_pos hn]
     have HF2:=Lib.hid hf2;clear hf2
     go_wp2_with (first
      | (go_at_call 199;((with_reducible refine (Tryz.strings_IndexByte d.s 33 _).mono ?_);rintro e w1 ⟨rfl,rfl⟩;(rw [show (33:Int).toNat.toUInt8=33 from rfl,HIX.out])))
      | (go_at_call 21;rw [HCUT.out];((with_reducible refine (name_any _ _ ?_).mono ?_);(first | omega | skip);rintro e w2 ⟨rfl,rfl⟩;rw [HB.out,hn])))
     go_ret
     exact ⟨grownBy.setCell' (grownBy.setCell' (grownBy.refl' _ _) _ _) _ _,.inl ⟨_,HF2.out,rfl,(HR.out.setSh (strOfNums d.sheetP)).setK (i+1)⟩⟩
   · have hf2:d.sheet=none:=by rw [HF.out,if_neg hn]
     have hn':nameL d.sheetP=false:=by simpa using hn
     have HF2:=Lib.hid hf2;clear hf2 hn
     go_wp2_with (first
      | (go_at_call 199;((with_reducible refine (Tryz.strings_IndexByte d.s 33 _).mono ?_);rintro e w1 ⟨rfl,rfl⟩;(rw [show (33:Int).toNat.toUInt8=33 from rfl,HIX.out])))
      | (go_at_call 21;rw [HCUT.out];((with_reducible refine (name_any _ _ ?_).mono ?_);(first | omega | skip);rintro e w2 ⟨rfl,rfl⟩;rw [HB.out,hn'])))
     go_ret
     exact ⟨grownBy.setCell' (grownBy.setCell' (grownBy.refl' _ _) _ _) _ _,.inr ⟨HF2.out,rfl⟩⟩
theorem all_any (b g n:Nat) (f:Nat→FuncId) (run:Nat→Rd→Option Rd) (w:World) (_hn:n≤100) (hgb:g≠b) (hg:g<w.heap.size)
 (hcall:∀ j,j<n→∀ args (v:World),(callFunc (f j) args).run Tryz.prog v = .ok (.enter (f j) args) v)
 (hcell:∀ j,j<n→w.cell? ⟨g,j,none⟩=some (.func (.func (f j)) #[.pointer (some ⟨b,0,none⟩)] #[]))
 (P:Nat→Rd→Prop) (d:Rd) (h0:P 0 d) (hr:RdAt w b d)
 (hstep:∀ j,j<n→∀ d (w:World),P j d→RdAt w b d→(∀ d',run j d=some d'→P (j+1) d')∧Calls Tryz.prog (f j) #[.pointer (some ⟨b,0,none⟩)] w (Part (run j d) b w))
 (o:Option Rd) (hend:∀ d',P n d'→o=some d') (hbad:∀ j d',j<n→P j d'→run j d'=none→o=none) :
 Calls Tryz.prog 183 #[.slice (some ⟨g,0,none⟩) n n] w (Part o b w):=by
 have HC:=Lib.hid hcall;clear hcall
 have HL:=Lib.hid hcell;clear hcell
 have HS:=Lib.hid hstep;clear hstep
 have HE:=Lib.hid hend;clear hend
 have HB:=Lib.hid hbad;clear hbad
 have H0:=Lib.hid h0;clear h0
 have HR:=Lib.hid hr;clear hr
 go_enter Tryz.func183,Tryz.ntmps183
 go_wp2_with fail
 go_loopw [7] (fun i wr=>∃ (j:Nat) (d:Rd),i = .int .i64 j∧j≤n∧Hid (P j d)∧Hid (RdAt wr b d)∧Hid (w.grownBy wr (some b)))
  (fun i _=>n - (intOf i).toNat)
 case atStart=>exact ⟨0,d,rfl,by omega,H0,HR,Lib.hid (grownBy.refl' _ _)⟩
 case round =>
  obtain ⟨j,d,rfl,hj,HP,HRD,HG⟩:=hrel
  by_cases hlt:j<n
  · have hji:(j:Int)<(n:Int):=by omega
    have hce:wr.cell? ⟨g,j,none⟩=some (.func (.func (f j)) #[.pointer (some ⟨b,0,none⟩)] #[]):=by
     rw [cell_other HG.out (by exact hg) (by intro h;exact hgb (Option.some.inj h))];exact HL.out j hlt
    have hca:=HC.out j hlt
    obtain ⟨fj,hfj⟩:∃ fj,f j=fj:=⟨_,rfl⟩
    rw [hfj] at hce hca
    have HFJ:=Lib.hid hfj;clear hfj
    cases hq:run j d with
    | some d' =>
      have HQ:=Lib.hid hq;clear hq
      go_wp2_with fail
      have hs:=HS.out j hlt d wr HP.out HRD.out
      rw [HFJ.out,HQ.out] at hs
      have HS1:=Lib.hid (hs.1 d' rfl)
      refine hs.2.mono ?_
      rintro e w1 ⟨hg1,⟨d2,h1,rfl,h3⟩ | ⟨h1,_⟩⟩
      · injection h1 with h1;subst h1
        have HG1:=Lib.hid (grownBy.trans' HG.out hg1);clear hg1
        have HR1:=Lib.hid h3;clear h3
        clear hs
        go_wp2_with fail
        go_roundw
        case rel=>exact ⟨j+1,d',by go_num,by omega,HS1,HR1,HG1⟩
        case measure=>simp [intOf];omega
      · cases h1
    | none =>
      have HQ:=Lib.hid hq;clear hq
      go_wp2_with fail
      have hs:=HS.out j hlt d wr HP.out HRD.out
      rw [HFJ.out,HQ.out] at hs
      refine hs.2.mono ?_
      rintro e w1 ⟨hg1,⟨d2,h1,_,_⟩ | ⟨_,rfl⟩⟩
      · cases h1
      · have HG1:=Lib.hid (grownBy.trans' HG.out hg1);clear hg1
        clear hs
        go_wp2_with fail
        go_ret
        exact ⟨HG1.out,.inr ⟨HB.out j d hlt HP.out HQ.out,rfl⟩⟩
  · have hji:¬ (j:Int)<(n:Int):=by omega
    have hjn:j=n:=by omega
    have hen:=HE.out d (by rw [← hjn];exact HP.out)
    have HEN:=Lib.hid hen;clear hen hjn
    go_wp2_with fail
    go_ret
    exact ⟨HG.out,.inl ⟨d,HEN.out,rfl,HRD.out⟩⟩
def chain (run:Nat→Rd→Option Rd) (d:Rd):Nat→Option Rd
 | 0=>some d
 | j+1=>(chain run d j).bind (run j)
theorem chain_none (run:Nat→Rd→Option Rd) (d:Rd) (j:Nat) (h:chain run d j=none):∀ m,chain run d (j+m)=none
 | 0=>h
 | m+1=>by show (chain run d (j+m)).bind (run (j+m))=none;rw [chain_none run d j h m];rfl
def Keeps (f:Rd→Option Rd):Prop:=∀ d d',d.k≤d.s.size→f d=some d'→d'.s=d.s∧d'.k≤d.s.size
theorem keeps_sheet:Keeps Rd.sheet:=by
 intro d d' hk h
 unfold Rd.sheet at h
 by_cases h1:d.sheetP.length=d.s.size
 · rw [if_pos h1] at h;injection h with h;subst h;exact ⟨rfl,hk⟩
 · rw [if_neg h1] at h
   have:=sheetP_lt d h1
   by_cases h2:nameL d.sheetP=true
   · rw [if_pos h2] at h;injection h with h;subst h;exact ⟨rfl,this⟩
   · rw [if_neg h2] at h;cases h
theorem mark_le (d:Rd) (hk:d.k≤d.s.size):d.k+(dol d.mark).length≤d.s.size:=by
 have h1:=congrArg List.length (mark_rest d)
 rw [List.length_append,length_rest] at h1;omega
theorem keeps_absCol:Keeps Rd.absCol:=by
 intro d d' hk h
 unfold Rd.absCol at h;injection h with h;subst h;exact ⟨rfl,mark_le d hk⟩
theorem keeps_absRow:Keeps Rd.absRow:=by
 intro d d' hk h
 unfold Rd.absRow at h;injection h with h;subst h;exact ⟨rfl,mark_le d hk⟩
theorem span_le (p:Int→Bool) (d:Rd) (hk:d.k≤d.s.size):d.k+(d.rest.takeWhile p).length≤d.s.size:=by
 have h1:=congrArg List.length (take_split p d.rest)
 rw [List.length_append,length_rest] at h1;omega
theorem keeps_col:Keeps Rd.col:=by
 intro d d' hk h
 unfold Rd.col at h
 by_cases h2:isCol (d.rest.takeWhile isCap)=true
 · rw [if_pos h2] at h;injection h with h;subst h;exact ⟨rfl,span_le isCap d hk⟩
 · rw [if_neg h2] at h;cases h
theorem keeps_row:Keeps Rd.row:=by
 intro d d' hk h
 unfold Rd.row at h
 by_cases h2:isRow (d.rest.takeWhile isNum)=true
 · rw [if_pos h2] at h;injection h with h;subst h;exact ⟨rfl,span_le isNum d hk⟩
 · rw [if_neg h2] at h;cases h
theorem keeps_fin:Keeps Rd.fin:=by
 intro d d' hk h
 unfold Rd.fin at h
 by_cases h2:d.k=d.s.size
 · rw [if_pos h2] at h;injection h with h;subst h;exact ⟨rfl,hk⟩
 · rw [if_neg h2] at h;cases h
theorem all_chain (b g n:Nat) (f:Nat→FuncId) (run:Nat→Rd→Option Rd) (w:World) (hn:n≤100) (hgb:g≠b) (hg:g<w.heap.size)
 (hcall:∀ j,j<n→∀ args (v:World),(callFunc (f j) args).run Tryz.prog v = .ok (.enter (f j) args) v)
 (hcell:∀ j,j<n→w.cell? ⟨g,j,none⟩=some (.func (.func (f j)) #[.pointer (some ⟨b,0,none⟩)] #[]))
 (d:Rd) (hr:RdAt w b d) (hs:d.s.size≤1000000) (hk:d.k≤d.s.size)
 (hkeep:∀ j,j<n→Keeps (run j))
 (hpart:∀ j,j<n→∀ d (w:World),RdAt w b d→d.s.size≤1000000→d.k≤d.s.size→Calls Tryz.prog (f j) #[.pointer (some ⟨b,0,none⟩)] w (Part (run j d) b w)) :
 Calls Tryz.prog 183 #[.slice (some ⟨g,0,none⟩) n n] w (Part (chain run d n) b w):=by
 refine all_any b g n f run w hn hgb hg hcall hcell (fun j e=>chain run d j=some e∧e.s=d.s∧e.k≤d.s.size) d ⟨rfl,rfl,hk⟩ hr ?_ _ ?_ ?_
 · rintro j hj e v ⟨h1,h2,h3⟩ hrv
   refine ⟨?_,hpart j hj e v hrv (by rw [h2];exact hs) (by rw [h2];exact h3)⟩
   intro e' he'
   obtain ⟨k1,k2⟩:=hkeep j hj e e' (by rw [h2];exact h3) he'
   refine ⟨?_,by rw [k1,h2],by rw [← h2];exact k2⟩
   show (chain run d j).bind (run j)=some e'
   rw [h1];exact he'
 · rintro e ⟨h1,_,_⟩;exact h1
 · rintro j e hj ⟨h1,_,_⟩ h2
   have h3:chain run d (j+1)=none:=by show (chain run d j).bind (run j)=none;rw [h1];exact h2
   have:=chain_none run d (j+1) h3 (n - (j+1))
   rw [show j+1+(n - (j+1))=n from by omega] at this;exact this
theorem below_of_grownBy {w w1 w2:World} {r B:Nat} (hb:Below B w w1) (h:w1.grownBy w2 (some r)) (hB:B≤w1.heap.size) (hr:B≤r):Below B w w2 :=
 hb.grown h hB (fun k hk=>by cases hk;exact hr)
theorem hmf (fn:Fn) (first cap:Array Value) (w:World):(Instr.makeFunc fn first cap).run Tryz.prog w = .ok (.func fn first cap) w:=rfl
def wR (s:ByteArray) (w:World):World:=w.alloc (.cells #[.string s,.int .i64 0,.string ⟨#[]⟩,.int .i64 0,.int .i64 0,.bool false,.bool false] 240)
def mv (f:FuncId) (b:Nat):Value := .func (.func f) #[.pointer (some ⟨b,0,none⟩)] #[]
def wF (s:ByteArray) (l:Array Value) (w:World):World:=(wR s w).alloc (.cells l 33)
theorem size_wR (s:ByteArray) (w:World):(wR s w).heap.size=w.heap.size+1:=by unfold wR;simp
theorem size_wF (s:ByteArray) (l:Array Value) (w:World):(wF s l w).heap.size=w.heap.size+1+1:=by unfold wF;rw [← size_wR s w];simp
theorem rd_wF (s:ByteArray) (l:Array Value) (w:World):RdAt (wF s l w) w.heap.size (Rd.start s):=by
 have h:RdAt (wR s w) w.heap.size (Rd.start s):=(Go.MapKept.heap_alloc w _).1
 exact h.below ((Below.refl _ _).alloc (Nat.le_refl _) _) h.lt
theorem below_wF (s:ByteArray) (l:Array Value) (w:World):Below w.heap.size w (wF s l w):=((Below.refl _ _).alloc (Nat.le_refl _) _).alloc (by have:=size_wR s w;unfold wR at this;omega) _
theorem cell_wF (s:ByteArray) (l:Array Value) (w:World) (L:List Value) (hl:l.toList=L) (j:Nat) (u:Value) (hj:L[j]? = some u):(wF s l w).cell? ⟨w.heap.size+1,j,none⟩=some u:=by
 have h:=cells_new (w:=wR s w) l 33 L hl j u hj
 rw [Addr.add_mid,Nat.zero_add,size_wR] at h
 exact h
theorem all_new (n:Nat) (f:Nat→FuncId) (run:Nat→Rd→Option Rd) (s:ByteArray) (w:World) (l:Array Value) (L:List Value) (hl:l.toList=L) (hn:n≤100) (hs:s.size≤1000000)
 (hcall:∀ j,j<n→∀ args (v:World),(callFunc (f j) args).run Tryz.prog v = .ok (.enter (f j) args) v)
 (hL:∀ j,j<n→L[j]? = some (mv (f j) w.heap.size))
 (hkeep:∀ j,j<n→Keeps (run j))
 (hpart:∀ j,j<n→∀ b d (w:World),RdAt w b d→d.s.size≤1000000→d.k≤d.s.size→Calls Tryz.prog (f j) #[.pointer (some ⟨b,0,none⟩)] w (Part (run j d) b w)) :
 Calls Tryz.prog 183 #[.slice (some ⟨w.heap.size+1,0,none⟩) n n] (wF s l w) fun e w'=>Below w.heap.size w w'∧((∃ d',chain run (Rd.start s) n=some d'∧e = .returned (.bool true)∧RdAt w' w.heap.size d')∨(chain run (Rd.start s) n=none∧e = .returned (.bool false))):=by
 refine (all_chain w.heap.size (w.heap.size+1) n f run (wF s l w) hn (by omega) (by rw [size_wF];omega) hcall (fun j hj=>cell_wF s l w L hl j _ (hL j hj)) (Rd.start s) (rd_wF s l w) hs (Nat.zero_le _) hkeep (fun j hj d v=>hpart j hj w.heap.size d v)).mono ?_
 rintro e w' ⟨h1,h2⟩
 exact ⟨below_of_grownBy (below_wF s l w) h1 (by rw [size_wF];omega) (Nat.le_refl _),h2⟩
theorem e_col:∀ args (v:World),(callFunc 186 args).run Tryz.prog v = .ok (.enter 186 args) v:=Go.Proofs.enters_of Tryz.func186 (by kernel_rfl) rfl
theorem e_end:∀ args (v:World),(callFunc 189 args).run Tryz.prog v = .ok (.enter 189 args) v:=Go.Proofs.enters_of Tryz.func189 (by kernel_rfl) rfl
theorem e_sheet:∀ args (v:World),(callFunc 184 args).run Tryz.prog v = .ok (.enter 184 args) v:=Go.Proofs.enters_of Tryz.func184 (by kernel_rfl) rfl
theorem e_absCol:∀ args (v:World),(callFunc 185 args).run Tryz.prog v = .ok (.enter 185 args) v:=Go.Proofs.enters_of Tryz.func185 (by kernel_rfl) rfl
theorem e_absRow:∀ args (v:World),(callFunc 187 args).run Tryz.prog v = .ok (.enter 187 args) v:=Go.Proofs.enters_of Tryz.func187 (by kernel_rfl) rfl
theorem e_row:∀ args (v:World),(callFunc 188 args).run Tryz.prog v = .ok (.enter 188 args) v:=Go.Proofs.enters_of Tryz.func188 (by kernel_rfl) rfl
def refRun:Nat→Rd→Option Rd
 | 0=>Rd.sheet
 | 1=>Rd.absCol
 | 2=>Rd.col
 | 3=>Rd.absRow
 | 4=>Rd.row
 | _=>Rd.fin
def refFn:Nat→FuncId
 | 0=>184
 | 1=>185
 | 2=>186
 | 3=>187
 | 4=>188
 | _=>189
theorem ref_parts (s:ByteArray) (w:World) (hs:s.size≤1000000) :
 Calls Tryz.prog 183 #[.slice (some ⟨w.heap.size+1,0,none⟩) 6 6] (wF s #[mv 184 w.heap.size,mv 185 w.heap.size,mv 186 w.heap.size,mv 187 w.heap.size,mv 188 w.heap.size,mv 189 w.heap.size] w) fun e w'=>Below w.heap.size w w'∧((∃ d',readS s=some d'∧e = .returned (.bool true)∧RdAt w' w.heap.size d')∨(readS s=none∧e = .returned (.bool false))):=by
 refine all_new 6 refFn refRun s w _ _ rfl (by omega) hs ?_ ?_ ?_ ?_
 · intro j hj
   match j,hj with
   | 0,_=>exact e_sheet
   | 1,_=>exact e_absCol
   | 2,_=>exact e_col
   | 3,_=>exact e_absRow
   | 4,_=>exact e_row
   | 5,_=>exact e_end
 · intro j hj
   match j,hj with
   | 0,_=>rfl
   | 1,_=>rfl
   | 2,_=>rfl
   | 3,_=>rfl
   | 4,_=>rfl
   | 5,_=>rfl
 · intro j hj
   match j,hj with
   | 0,_=>exact keeps_sheet
   | 1,_=>exact keeps_absCol
   | 2,_=>exact keeps_col
   | 3,_=>exact keeps_absRow
   | 4,_=>exact keeps_row
   | 5,_=>exact keeps_fin
 · intro j hj b d v h1 h2 h3
   match j,hj with
   | 0,_=>exact sheet_any b d v h1 h2
   | 1,_=>exact absCol_any b d v h1 h2 h3
   | 2,_=>exact colPart_any b d v h1 h2 h3
   | 3,_=>exact absRow_any b d v h1 h2 h3
   | 4,_=>exact rowPart_any b d v h1 h2 h3
   | 5,_=>exact fin_any b d v h1 h2 h3
theorem below_setCell5 {w w1:World} {a0 a1 a2 a3 a4:Value} (h:Below w.heap.size w w1):Below w.heap.size w (((((w1.setCell ⟨w.heap.size,0,none⟩ a0).setCell ⟨w.heap.size,1,none⟩ a1).setCell ⟨w.heap.size,2,none⟩ a2).setCell ⟨w.heap.size,3,none⟩ a3).setCell ⟨w.heap.size,4,none⟩ a4) :=
 ((((h.setCell (Nat.le_refl _) _).setCell (Nat.le_refl _) _).setCell (Nat.le_refl _) _).setCell (Nat.le_refl _) _).setCell (Nat.le_refl _) _
set_option maxRecDepth 100000 in
set_option maxHeartbeats 400000 in
theorem read_any (s:ByteArray) (w:World) (_hs:s.size≤1000000) :
 Calls Tryz.prog 170 #[.string s] w fun e w'=>Says (sb s) e∧Below w.heap.size w w':=by
 have hmf:=hmf
 have hall:=ref_parts s (w.alloc (.cells #[.string ⟨#[]⟩,.int .i64 0,.int .i64 0,.bool false,.bool false] 98)) _hs
 have hsz:(w.alloc (.cells #[.string ⟨#[]⟩,.int .i64 0,.int .i64 0,.bool false,.bool false] 98)).heap.size=w.heap.size+1:=by simp
 have hr0:=RefAt.new w ⟨#[]⟩ 0 0 false false
 have hb0:Below w.heap.size w (w.alloc (.cells #[.string ⟨#[]⟩,.int .i64 0,.int .i64 0,.bool false,.bool false] 98)):=(Below.refl _ _).alloc (Nat.le_refl _) _
 rw [hsz] at hall
 have HALL:=Lib.hid hall;clear hall
 have HR:=Lib.hid hr0;clear hr0
 have HB0:=Lib.hid hb0;clear hb0
 have HSZ:=Lib.hid hsz;clear hsz
 go_enter Tryz.func170,Tryz.ntmps170
 go_wp2_with fail
 refine HALL.out.mono ?_
 rintro e w1 ⟨hb,⟨d',h1,rfl,h3⟩ | ⟨h1,rfl⟩⟩
 · have hr1:=HR.out.below hb (by omega)
   obtain ⟨x0,x1,x2,x3,x4⟩:=hr1.facts
   have f0:=frozen_of_row w1 w.heap.size 0 _ _ hr1
   have f1:=frozen_of_row w1 w.heap.size 1 _ _ hr1
   have f2:=frozen_of_row w1 w.heap.size 2 _ _ hr1
   have f3:=frozen_of_row w1 w.heap.size 3 _ _ hr1
   have f4:=frozen_of_row w1 w.heap.size 4 _ _ hr1
   have hB:=HB0.out.trans (hb.mono (by omega))
   obtain ⟨c0,c1,c2,c3,c4,c5,c6⟩:=h3.facts
   clear c0 c1
   have H1:=Lib.hid h1;clear h1
   have H3:=Lib.hid h3;clear h3
   have HB:=Lib.hid hB;clear hB hb
   have HR1:=Lib.hid hr1;clear hr1
   go_wp2_with fail
   obtain ⟨r1,r2,r3⟩:=read_some s d' H1.out
   (try simp only [Exit.inBlock,Exit.then])
   refine bodyPost_ret (v := .tuple #[.agg #[.string d'.sh,.int .i64 d'.c,.int .i64 d'.r,.bool d'.ac,.bool d'.ar],.bool true]) ?_ rfl ⟨.inl ⟨d'.sh,d'.c,d'.r,d'.ac,d'.ar,r1,r2,r3,rfl⟩, ?_⟩
   · rw [results_cell_tmp rfl]
     go_simp
   · exact below_setCell5 HB.out
 · have hr1:=HR.out.below hb (by omega)
   obtain ⟨x0,x1,x2,x3,x4⟩:=hr1.facts
   have f0:=frozen_of_row w1 w.heap.size 0 _ _ hr1
   have f1:=frozen_of_row w1 w.heap.size 1 _ _ hr1
   have f2:=frozen_of_row w1 w.heap.size 2 _ _ hr1
   have f3:=frozen_of_row w1 w.heap.size 3 _ _ hr1
   have f4:=frozen_of_row w1 w.heap.size 4 _ _ hr1
   have hB:=HB0.out.trans (hb.mono (by omega))
   have H1:=Lib.hid h1;clear h1
   have HB:=Lib.hid hB;clear hB hb
   have HR1:=Lib.hid hr1;clear hr1
   go_wp2_with fail
   have r1:=read_none s H1.out
   (try simp only [Exit.inBlock,Exit.then])
   refine bodyPost_ret (v := .tuple #[.agg #[.string ⟨#[]⟩,.int .i64 0,.int .i64 0,.bool false,.bool false],.bool false]) ?_ rfl ⟨.inr ⟨r1,rfl⟩, ?_⟩
   · rw [results_cell_tmp rfl]
     go_simp
   · exact below_setCell5 HB.out
theorem res_dead:Tryz.f140.results=#[.cell 2 125,.tmp 3]:=by kernel_rfl
theorem res_word:Tryz.f142.results=#[.cell 2 125,.tmp 3]:=by kernel_rfl
theorem grownBy.below_new {w w':World} {b:Nat} (h:Below w.heap.size w w'):w.grownBy w' (some b):=grownBy.below' (grownBy.refl' _ _) h
theorem new_tok (w:World) (b:Nat):w.grownBy (w.alloc (.cells zTok 125)) (some b):=grownBy.below_new ((Below.refl _ _).alloc (Nat.le_refl _) _)
theorem LxAt.tok {w:World} {b:Nat} {s:ByteArray} {k:Nat} (h:LxAt w b s k):LxAt (w.alloc (.cells zTok 125)) b s k:=h.below ((Below.refl _ _).alloc (Nat.le_refl _) _) h.lt
theorem sb_dead:sb ⟨#[35,82,69,70,33]⟩=[35,82,69,70,33]:=by decide
set_option maxRecDepth 100000 in
set_option maxHeartbeats 800000 in
theorem dead_any (b:Nat) (s:ByteArray) (k:Nat) (w:World) (h:LxAt w b s k) (_hs:s.size≤1000000) (_hk:k<s.size) :
 Calls Tryz.prog 140 #[.pointer (some ⟨b,0,none⟩)] w (TokOut (deadT (restL s k)) b s k w):=by
 have hlt:=h.lt
 have hw0:w.heap.size≠b:=by omega
 have hT:=take_any b s ⟨#[35,82,69,70,33]⟩ k _ h.tok _hs (by omega) (by decide)
 rw [sb_dead] at hT
 have HAL:=Lib.hid (new_tok w b)
 have HTK:=Lib.hid (TkAt.zero w)
 have hN:deadT (restL s k)=if headL [35,82,69,70,33] (restL s k)=true then some ({ Tk.zero with kind:=6 },5) else none:=by
  unfold deadT headL;simp
 cases hq:headL [35,82,69,70,33] (restL s k)
 · rw [hq] at hN hT
   have HN:=Lib.hid hN;clear hN
   have HT:=Lib.hid hT;clear hT h
   go_enter Tryz.func140,Tryz.ntmps140
   go_wp2_with (first
    | (go_at_call 167;((with_reducible refine HT.out.mono ?_);rintro e w1 ⟨h1,rfl,h2⟩;have H1:=Lib.hid h1;have H2:=Lib.hid h2;clear h1 h2;have HT2:=Lib.hid (HTK.out.grown H1.out hw0);obtain ⟨x0,x1,x2,x3,x4,x5,x6,x7,x8⟩:=HT2.out.cells;obtain ⟨f0,f1,f2,f3,f4,f5,f6,f7,f8⟩:=HT2.out.melts)))
   exact bodyPost_ret (out_tok (HT2.out.put9 { Tk.zero with kind:=6 }) _ _ false 2 3 res_dead rfl rfl) rfl ⟨grownBy.set9 (grownBy.trans' HAL.out H1.out) (Nat.le_refl _) _ _ _ _ _ _ _ _ _,.inr ⟨HN.out,{ Tk.zero with kind:=6 },rfl⟩⟩
 · rw [hq] at hN hT
   have HN:=Lib.hid hN;clear hN
   have HT:=Lib.hid hT;clear hT h
   go_enter Tryz.func140,Tryz.ntmps140
   go_wp2_with (first
    | (go_at_call 167;((with_reducible refine HT.out.mono ?_);rintro e w1 ⟨h1,rfl,h2⟩;have H1:=Lib.hid h1;have H2:=Lib.hid h2;clear h1 h2;have HT2:=Lib.hid (HTK.out.grown H1.out hw0);obtain ⟨x0,x1,x2,x3,x4,x5,x6,x7,x8⟩:=HT2.out.cells;obtain ⟨f0,f1,f2,f3,f4,f5,f6,f7,f8⟩:=HT2.out.melts)))
   exact bodyPost_ret (out_tok (HT2.out.put9 { Tk.zero with kind:=6 }) _ _ true 2 3 res_dead rfl rfl) rfl ⟨grownBy.set9 (grownBy.trans' HAL.out H1.out) (Nat.le_refl _) _ _ _ _ _ _ _ _ _,.inl ⟨_,_,HN.out,rfl,H2.out.set9 hw0 _ _ _ _ _ _ _ _ _⟩⟩
theorem says_some {s:ByteArray} {d:Rd} (h:readS s=some d) {e:Ending} (he:Says (sb s) e):e = .returned (.tuple #[.agg #[.string d.sh,.int .i64 d.c,.int .i64 d.r,.bool d.ac,.bool d.ar],.bool true]):=by
 obtain ⟨_,h2,h3⟩:=read_some s d h
 refine Says.text h2 ?_
 rw [h3,str_sb];exact he
theorem says_none {s:ByteArray} (h:readS s=none) {e:Ending} (he:Says (sb s) e):e = .returned (.tuple #[.agg #[.string ⟨#[]⟩,.int .i64 0,.int .i64 0,.bool false,.bool false],.bool false]):=by
 rcases he with ⟨_,_,_,_,_,_,h2,h3,_⟩ | ⟨_,rfl⟩
 · exact absurd h3 (read_none s h _ _ _ _ _ h2)
 · rfl
theorem nm_called {l:List Int} {x:Int} (h0:l.head? = some x) (hx:isBeg x=true):nmL l=calledL l:=by
 cases l with
 | nil=>simp at h0
 | cons y m =>
   simp at h0;subst h0
   unfold nmL calledL
   rw [Bool.eq_iff_iff]
   simp only [Bool.and_eq_true,decide_eq_true_iff,List.getD_cons_zero]
   constructor
   · rintro ⟨h1,h2⟩
     refine ⟨h1,⟨by simp,h2⟩, ?_⟩
     have:=h1 y (by simp)
     rw [Bool.or_eq_true] at this
     rcases this with h | h
     · exact h
     · exfalso
       unfold isBeg isLet at hx;unfold isNum at h
       simp only [Bool.or_eq_true,decide_eq_true_iff] at hx h;omega
   · rintro ⟨h1,⟨_,h2⟩,_⟩
     exact ⟨h1,h2⟩
theorem word_val (l ds:List Int) (h:l.takeWhile isWord=ds):wordT l=match readS (strOfNums ds) with
 | some d=>some ({ Tk.zero with kind:=4,sh:=d.sh,c:=d.c,r:=d.r,ac:=d.ac,ar:=d.ar },ds.length)
 | none=>if calledL ds=true then some ({ Tk.zero with kind:=3,text:=strOfNums ds },ds.length) else none:=by subst h;rfl
set_option maxRecDepth 100000 in
set_option maxHeartbeats 1600000 in
theorem word_any (b:Nat) (s:ByteArray) (k:Nat) (w:World) (h:LxAt w b s k) (_hs:s.size≤1000000) (_hk:k<s.size) (hd:isBeg ((s[k].toNat:Nat):Int)=true) :
 Calls Tryz.prog 142 #[.pointer (some ⟨b,0,none⟩)] w (TokOut (wordT (restL s k)) b s k w):=by
 have hlt:=h.lt
 have hw0:w.heap.size≠b:=by omega
 obtain ⟨ds,hds⟩:∃ ds,(restL s k).takeWhile isWord=ds:=⟨_,rfl⟩
 obtain ⟨D,hD⟩:∃ D,strOfNums ds=D:=⟨_,rfl⟩
 have hbd:Bytes ds:=fun x hx=>restL_bd s k x (by rw [← hds] at hx;exact (List.takeWhile_prefix _).subset hx)
 have hsD:sb D=ds:=by rw [← hD];exact sb_str ds hbd
 have hszD:D.size=ds.length:=by rw [← length_sb,hsD]
 have hlen:ds.length≤s.size:=by rw [← hds];have h0:=take_le isWord (restL s k);rw [length_restL] at h0;omega
 have hW:=(whileWord_any b s k _ h.tok _hs (by omega)).mono (R':=fun e w'=>(w.alloc (.cells zTok 125)).grownBy w' (some b)∧e = .returned (.string D)∧LxAt w' b s (k+ds.length)) (fun e w' ⟨x1,x2,x3⟩=>⟨x1,by rw [x2,hds,hD],by rw [hds] at x3;exact x3⟩)
 have HW:=Lib.hid hW;clear hW h
 have HAL:=Lib.hid (new_tok w b)
 have HTK:=Lib.hid (TkAt.zero w)
 have hN:=word_val (restL s k) ds hds
 rw [hD] at hN
 have hhd:ds.head? = some ((s[k].toNat:Nat):Int):=by
  have h0:=restL_at s k 0 (by omega)
  rw [← hds]
  cases hr:restL s k with
  | nil=>rw [hr] at h0;simp at h0
  | cons x l =>
    rw [hr] at h0;simp at h0
    have hwd:isWord x=true:=by rw [isWord_beg,h0,hd];rfl
    rw [List.takeWhile_cons,hwd];simp [h0]
 rw [← nm_called hhd hd] at hN
 have hmx:D.size≤1000000:=by omega
 clear hhd hd hbd hds hlen hD
 cases hq:readS D with
 | some d =>
   rw [hq] at hN
   have HN:=Lib.hid hN;clear hN
   have hsz:d.sh.size≤12:=(read_some D d hq).1
   have HSY:=Lib.hid (fun (e:Ending) (he:Says (sb D) e)=>says_some hq he);clear hq hsD
   go_enter Tryz.func142,Tryz.ntmps142
   go_upto_region 4 with (first
    | (go_at_call 103;((with_reducible refine HW.out.mono ?_);rintro e w1 ⟨h1,rfl,h2⟩;have H1:=Lib.hid h1;have H2:=Lib.hid h2;clear h1 h2))
    | (go_at_call 170;((with_reducible refine (read_any D _ ?_).mono ?_);(first | omega | skip);rintro e w2 ⟨h1,h2⟩;obtain rfl:=HSY.out e h1;clear h1;have H3:=Lib.hid h2;clear h2;have HL2:=Lib.hid (H2.out.below H3.out H2.out.lt);have HT2:=Lib.hid ((HTK.out.grown H1.out hw0).below H3.out (HTK.out.grown H1.out hw0).lt);have hlt2:=HT2.out.lt;have hne2:w.heap.size≠w2.heap.size:=Nat.ne_of_lt hlt2;obtain ⟨x0,x1,x2,x3,x4,x5,x6,x7,x8⟩:=HT2.out.cells;obtain ⟨f0,f1,f2,f3,f4,f5,f6,f7,f8⟩:=HT2.out.melts)))
   have hR3:=RefAt.new w2 d.sh d.c d.r d.ac d.ar
   have hB3:Below w2.heap.size w2 (w2.alloc (.cells #[.string d.sh,.int .i64 d.c,.int .i64 d.r,.bool d.ac,.bool d.ar] 98)):=(Below.refl _ _).alloc (Nat.le_refl _) _
   have HL3:=Lib.hid (HL2.out.below hB3 HL2.out.lt)
   have HT3:=Lib.hid (HT2.out.below hB3 HT2.out.lt)
   have HG3:=Lib.hid (grownBy.below' (grownBy.below' (grownBy.trans' HAL.out H1.out) H3.out) hB3)
   clear x0 x1 x2 x3 x4 x5 x6 x7 x8 f0 f1 f2 f3 f4 f5 f6 f7 f8 hB3
   generalize w2.alloc (.cells #[.string d.sh,.int .i64 d.c,.int .i64 d.r,.bool d.ac,.bool d.ar] 98)=w3 at hR3 HL3 HT3 HG3 ⊢
   obtain ⟨x0,x1,x2,x3,x4,x5,x6,x7,x8⟩:=HT3.out.cells
   obtain ⟨f0,f1,f2,f3,f4,f5,f6,f7,f8⟩:=HT3.out.melts
   obtain ⟨y0,y1,y2,y3,y4⟩:=hR3.facts
   clear hR3
   go_wp2_with fail
   exact bodyPost_ret (out_tok (HT3.out.put9 { Tk.zero with kind:=4,sh:=d.sh,c:=d.c,r:=d.r,ac:=d.ac,ar:=d.ar }) _ _ true 2 3 res_word rfl rfl) rfl ⟨grownBy.set9 HG3.out (Nat.le_refl _) _ _ _ _ _ _ _ _ _,.inl ⟨_,_,HN.out,rfl,HL3.out.set9 hw0 _ _ _ _ _ _ _ _ _⟩⟩
 | none =>
   rw [hq] at hN
   have HSY:=Lib.hid (fun (e:Ending) (he:Says (sb D) e)=>says_none hq he);clear hq
   cases hnm:nmL ds
   all_goals
    rw [hnm] at hN
    have HN:=Lib.hid hN;clear hN
    have HNM:=Lib.hid (show nmL (sb D)=_ by rw [hsD,hnm])
    clear hnm hsD
    go_enter Tryz.func142,Tryz.ntmps142
    go_upto_region 5 with (first
     | (go_at_call 103;((with_reducible refine HW.out.mono ?_);rintro e w1 ⟨h1,rfl,h2⟩;have H1:=Lib.hid h1;have H2:=Lib.hid h2;clear h1 h2))
     | (go_at_call 170;((with_reducible refine (read_any D _ ?_).mono ?_);(first | omega | skip);rintro e w2 ⟨h1,h2⟩;obtain rfl:=HSY.out e h1;clear h1;have H3:=Lib.hid h2;clear h2;have HL2:=Lib.hid (H2.out.below H3.out H2.out.lt);have HT2:=Lib.hid ((HTK.out.grown H1.out hw0).below H3.out (HTK.out.grown H1.out hw0).lt))))
    have hB3:Below w2.heap.size w2 (w2.alloc (.cells #[.string ⟨#[]⟩,.int .i64 0,.int .i64 0,.bool false,.bool false] 98)):=(Below.refl _ _).alloc (Nat.le_refl _) _
    have HL3:=Lib.hid (HL2.out.below hB3 HL2.out.lt)
    have HT3:=Lib.hid (HT2.out.below hB3 HT2.out.lt)
    have HG3:=Lib.hid (grownBy.below' (grownBy.below' (grownBy.trans' HAL.out H1.out) H3.out) hB3)
    clear hB3
    generalize w2.alloc (.cells #[.string ⟨#[]⟩,.int .i64 0,.int .i64 0,.bool false,.bool false] 98)=w3 at HL3 HT3 HG3 ⊢
    obtain ⟨x0,x1,x2,x3,x4,x5,x6,x7,x8⟩:=HT3.out.cells
    obtain ⟨f0,f1,f2,f3,f4,f5,f6,f7,f8⟩:=HT3.out.melts
    go_wp2_with (go_at_call 171;((with_reducible refine (isName_any D _ ?_).mono ?_);(first | omega | skip);rintro e w4 ⟨rfl,rfl⟩;rw [HNM.out]))
   · exact bodyPost_ret (out_tok (HT3.out.put9 { Tk.zero with kind:=3,text:=D }) _ _ false 2 3 res_word rfl rfl) rfl ⟨grownBy.set9 HG3.out (Nat.le_refl _) _ _ _ _ _ _ _ _ _,.inr ⟨HN.out,{ Tk.zero with kind:=3,text:=D },rfl⟩⟩
   · exact bodyPost_ret (out_tok (HT3.out.put9 { Tk.zero with kind:=3,text:=D }) _ _ true 2 3 res_word rfl rfl) rfl ⟨grownBy.set9 HG3.out (Nat.le_refl _) _ _ _ _ _ _ _ _ _,.inl ⟨_,_,HN.out,rfl,HL3.out.set9 hw0 _ _ _ _ _ _ _ _ _⟩⟩
theorem run_index_arr {P:Program} {w:World} (t e:TypeId) (n:Nat) (cs:Array Value) (k:Nat) (v:Value) (d:TypeDesc) (h:P.underlying t=some (.array n e)) (he:P.underlying e=some d) (hd:(match d with | .struct _ | .array _ _=>true | _=>false)=false)
 (hsz:(P.info? e).map (·.size)=some 1) (hk:k<n) (hv:cs[k]? = some v):(Instr.index t (.agg cs) (.int .i64 (k:Int))).run P w = .ok v w:=by
 have h1:(0:Int)≤(k:Int)∧(k:Int)<(n:Int):=by omega
 cases hq:P.info? e with
 | none=>simp [hq] at hsz
 | some i =>
   have hs':i.size=1:=by simp [hq] at hsz;exact hsz
   simp [Instr.index,run_underlying h,asIntOf,h1,sizeOf,typeInfo,hq,hs',part,isAgg,run_underlying he,hv,go_sem]
   cases d <;> simp_all
theorem wpList_index_arr {P:Program} {ops:Array Oper} {rest:List Oper} {op:Oper} {a:Act} {w:World} {Q:Exit→Act→World→Prop} (hgd:op.guard=none) (t e:TypeId) (n:Nat) (x y:Operand) (ho:op.op = .index t x y)
 (cs:Array Value) (k:Nat) (v:Value) (d:TypeDesc) (h:P.underlying t=some (.array n e)) (he:P.underlying e=some d) (hd:(match d with | .struct _ | .array _ _=>true | _=>false)=false)
 (hsz:(P.info? e).map (·.size)=some 1) (hx:a.eval x = .agg cs) (hy:a.eval y = .int .i64 (k:Int)) (hk:k<n) (hv:cs[k]? = some v)
 (hh:wpList P ops Q rest (a.put op.dst v) w):wpList P ops Q (op :: rest) a w :=
 wpList_plain hgd fun _ hK=>by
  unfold Oper.wp execOp
  simp only [ho,hx,hy,Sem.run_bind,Sem.run_pure,Result.andThen_ok,run_index_arr t e n cs k v d h he hd hsz hk hv]
  exact hK _ _ hh
def sigL:List (List Int):=[[60,62],[60,61],[62,61],[43],[45],[42],[47],[38],[61],[60],[62],[40],[41],[44],[58]]
def sigB:List ByteArray:=[⟨#[60,62]⟩,⟨#[60,61]⟩,⟨#[62,61]⟩,⟨#[43]⟩,⟨#[45]⟩,⟨#[42]⟩,⟨#[47]⟩,⟨#[38]⟩,⟨#[61]⟩,⟨#[60]⟩,⟨#[62]⟩,⟨#[40]⟩,⟨#[41]⟩,⟨#[44]⟩,⟨#[58]⟩]
def sigA:Array Value:=(sigB.map Value.string).toArray
theorem sig_at:∀ j:Nat,j<15→∃ t,sigB[j]? = some t∧sigA[j]? = some (.string t)∧sb t=sigL.getD j []∧t.size≤2∧t=strOfNums (sigL.getD j [])
 | 0,_=>⟨_,rfl,rfl,by decide,by decide,by decide +kernel⟩
 | 1,_=>⟨_,rfl,rfl,by decide,by decide,by decide +kernel⟩
 | 2,_=>⟨_,rfl,rfl,by decide,by decide,by decide +kernel⟩
 | 3,_=>⟨_,rfl,rfl,by decide,by decide,by decide +kernel⟩
 | 4,_=>⟨_,rfl,rfl,by decide,by decide,by decide +kernel⟩
 | 5,_=>⟨_,rfl,rfl,by decide,by decide,by decide +kernel⟩
 | 6,_=>⟨_,rfl,rfl,by decide,by decide,by decide +kernel⟩
 | 7,_=>⟨_,rfl,rfl,by decide,by decide,by decide +kernel⟩
 | 8,_=>⟨_,rfl,rfl,by decide,by decide,by decide +kernel⟩
 | 9,_=>⟨_,rfl,rfl,by decide,by decide,by decide +kernel⟩
 | 10,_=>⟨_,rfl,rfl,by decide,by decide,by decide +kernel⟩
 | 11,_=>⟨_,rfl,rfl,by decide,by decide,by decide +kernel⟩
 | 12,_=>⟨_,rfl,rfl,by decide,by decide,by decide +kernel⟩
 | 13,_=>⟨_,rfl,rfl,by decide,by decide,by decide +kernel⟩
 | 14,_=>⟨_,rfl,rfl,by decide,by decide,by decide +kernel⟩
 | j+15,h=>by omega
theorem head_two (a b:Int) (l:List Int):headL [a,b] l=true↔l.head? = some a∧l.tail.head? = some b:=by
 unfold headL;rw [decide_eq_true_iff]
 match l with
 | []=>simp
 | [x]=>simp
 | x :: y :: m=>simp
theorem head_one (a:Int) (l:List Int):headL [a] l=true↔l.head? = some a:=by
 unfold headL;rw [decide_eq_true_iff]
 match l with
 | []=>simp
 | x :: m=>simp
theorem sig_some:∀ j:Nat,j<15→∀ l:List Int,(∀ q,q<j→headL (sigL.getD q []) l=false)→headL (sigL.getD j []) l=true→signT l=some ({ Tk.zero with kind:=5,text:=strOfNums (sigL.getD j []) },(sigL.getD j []).length):=by
 intro j hj l hno hyes
 have hlen:signN l=(sigL.getD j []).length:=by
  have hn0:∀ a b q,q<j→sigL.getD q []=[a,b]→¬ (l.head? = some a∧l.tail.head? = some b):=by
   intro a b q hq he h
   have:=hno q hq
   rw [he,(head_two a b l).2 h] at this;cases this
  cases l with
  | nil =>
    exfalso
    have:∀ j,j<15→sigL.getD j []≠[]:=by decide
    unfold headL at hyes
    rw [decide_eq_true_iff,List.take_nil] at hyes
    exact this j hj hyes.symm
  | cons x m =>
    rw [signN_cons]
    simp only [List.head?_cons,List.tail_cons,Option.some.injEq] at hn0
    match j,hj with
    | 0,_=>obtain ⟨h1,h2⟩:=(head_two _ _ _).1 hyes;simp at h1 h2;rw [if_pos (by left;exact ⟨h1,.inl h2⟩)];rfl
    | 1,_=>obtain ⟨h1,h2⟩:=(head_two _ _ _).1 hyes;simp at h1 h2;rw [if_pos (by left;exact ⟨h1,.inr h2⟩)];rfl
    | 2,_=>obtain ⟨h1,h2⟩:=(head_two _ _ _).1 hyes;simp at h1 h2;rw [if_pos (by right;exact ⟨h1,h2⟩)];rfl
    | j + 3,hj =>
      have g0:=hn0 60 62 0 (by omega) rfl
      have g1:=hn0 60 61 1 (by omega) rfl
      have g2:=hn0 62 61 2 (by omega) rfl
      rw [if_neg (by
       rintro (⟨h1,h2 | h2⟩ | ⟨h1,h2⟩)
       · exact g0 ⟨h1,h2⟩
       · exact g1 ⟨h1,h2⟩
       · exact g2 ⟨h1,h2⟩)]
      have hx:∃ a,sigL.getD (j+3) []=[a]∧(a=43∨a=45∨a=42∨a=47∨a=38∨a=61∨a=60∨a=62∨a=40∨a=41∨a=44∨a=58):=by
       have:∀ j,j<12→∃ a,sigL.getD (j+3) []=[a]∧(a=43∨a=45∨a=42∨a=47∨a=38∨a=61∨a=60∨a=62∨a=40∨a=41∨a=44∨a=58):=by
        intro j hj
        match j,hj with
        | 0,_=>exact ⟨43,rfl,by omega⟩
        | 1,_=>exact ⟨45,rfl,by omega⟩
        | 2,_=>exact ⟨42,rfl,by omega⟩
        | 3,_=>exact ⟨47,rfl,by omega⟩
        | 4,_=>exact ⟨38,rfl,by omega⟩
        | 5,_=>exact ⟨61,rfl,by omega⟩
        | 6,_=>exact ⟨60,rfl,by omega⟩
        | 7,_=>exact ⟨62,rfl,by omega⟩
        | 8,_=>exact ⟨40,rfl,by omega⟩
        | 9,_=>exact ⟨41,rfl,by omega⟩
        | 10,_=>exact ⟨44,rfl,by omega⟩
        | 11,_=>exact ⟨58,rfl,by omega⟩
        | j+12,h=>omega
       exact this j (by omega)
      obtain ⟨a,ha,hor⟩:=hx
      rw [ha] at hyes ⊢
      have h1:=(head_one _ _).1 hyes
      simp at h1;subst h1
      rw [if_pos hor];rfl
 have hpos:(sigL.getD j []).length≠0:=by
  have:∀ j,j<15→(sigL.getD j []).length≠0:=by decide
  exact this j hj
 unfold signT
 rw [hlen,if_neg hpos]
 unfold headL at hyes
 rw [decide_eq_true_iff] at hyes
 rw [hyes]
theorem sig_none (l:List Int) (hno:∀ q,q<15→headL (sigL.getD q []) l=false):signT l=none:=by
 have h2:∀ a b q,q<15→sigL.getD q []=[a,b]→¬ (l.head? = some a∧l.tail.head? = some b):=by
  intro a b q hq he h
  have:=hno q hq
  rw [he,(head_two a b l).2 h] at this;cases this
 have h1:∀ a q,q<15→sigL.getD q []=[a]→¬ l.head? = some a:=by
  intro a q hq he h
  have:=hno q hq
  rw [he,(head_one a l).2 h] at this;cases this
 have hz:signN l=0:=by
  cases l with
  | nil=>rfl
  | cons x m =>
    rw [signN_cons]
    simp only [List.head?_cons,List.tail_cons,Option.some.injEq] at h1 h2
    have g0:=h2 60 62 0 (by omega) rfl
    have g1:=h2 60 61 1 (by omega) rfl
    have g2:=h2 62 61 2 (by omega) rfl
    have k3:=h1 43 3 (by omega) rfl
    have k4:=h1 45 4 (by omega) rfl
    have k5:=h1 42 5 (by omega) rfl
    have k6:=h1 47 6 (by omega) rfl
    have k7:=h1 38 7 (by omega) rfl
    have k8:=h1 61 8 (by omega) rfl
    have k9:=h1 60 9 (by omega) rfl
    have k10:=h1 62 10 (by omega) rfl
    have k11:=h1 40 11 (by omega) rfl
    have k12:=h1 41 12 (by omega) rfl
    have k13:=h1 44 13 (by omega) rfl
    have k14:=h1 58 14 (by omega) rfl
    rw [if_neg (by
     rintro (⟨h1,h2 | h2⟩ | ⟨h1,h2⟩)
     · exact g0 ⟨h1,h2⟩
     · exact g1 ⟨h1,h2⟩
     · exact g2 ⟨h1,h2⟩),if_neg (by omega)]
 unfold signT;rw [if_pos hz]
def SigV (w:World):Prop:=∃ ty fr,w.heap[(1:Nat)]? = some (.cells sigA ty fr)
theorem SigV.lt {w:World} (h:SigV w):1<w.heap.size:=by obtain ⟨_,_,h⟩:=h;exact (Array.getElem?_eq_some_iff.1 h).1
theorem SigV.grown {w w':World} {b:Nat} (h:SigV w) (hg:w.grownBy w' (some b)) (hb:max 4 1<b):SigV w':=by
 have h0:=h.lt
 obtain ⟨ty,fr,h1⟩:=h
 exact ⟨ty,fr,by rw [hg.block _ h0 (by intro e;have:=Option.some.inj e;omega)];exact h1⟩
theorem SigV.below {w w':World} (h:SigV w) (hb:Below w.heap.size w w'):SigV w':=by
 have h0:=h.lt
 obtain ⟨ty,fr,h1⟩:=h
 exact ⟨ty,fr,by rw [hb.block _ h0];exact h1⟩
theorem ErrV.below {w w':World} (h:ErrV w) (hb:Below w.heap.size w w'):ErrV w':=h.grown (b:=w.heap.size+4+1) (grownBy.below_new hb) (by omega)
theorem res_sign:Tryz.f143.results=#[.cell 2 125,.tmp 3]:=by kernel_rfl
theorem sig_und:Tryz.prog.underlying 224=some (.array 15 9):=Tryz.underlying224
theorem sig_size:(Tryz.prog.info? 224).map (·.size)=some sigA.size:=by kernel_rfl
theorem str_size:(Tryz.prog.info? 9).map (·.size)=some 1:=by kernel_rfl
set_option maxRecDepth 100000 in
set_option maxHeartbeats 1600000 in
theorem sign_any (b:Nat) (s:ByteArray) (k:Nat) (w:World) (h:LxAt w b s k) (_hs:s.size≤1000000) (_hk:k<s.size) (hsv:SigV w) (hb2:max 4 1<b) :
 Calls Tryz.prog 143 #[.pointer (some ⟨b,0,none⟩)] w (TokOut (signT (restL s k)) b s k w):=by
 have hlt:=h.lt
 have hw0:w.heap.size≠b:=by omega
 obtain ⟨ty,fr,hrow⟩:=hsv.grown (new_tok w b) hb2
 clear hsv
 have HAL:=Lib.hid (new_tok w b)
 have HTK:=Lib.hid (TkAt.zero w)
 have HLX:=Lib.hid h.tok;clear h
 have HROW:=Lib.hid hrow;clear hrow
 go_enter Tryz.func143,Tryz.ntmps143
 go_upto_region 1 with (fail)
 refine wp_region_lit ?_
 refine wpList_load_row rfl 224 (.global 1) rfl 1 rfl ty sigA fr _ HROW.out sig_und rfl sig_size ?_
 go_wp2_with fail
 go_loopw [7] (fun i wr=>∃ j:Nat,j≤15∧i = .int .i64 j∧Hid (∀ q,q<j→headL (sigL.getD q []) (restL s k)=false)∧Hid (LxAt wr b s k)∧Hid ((w.alloc (.cells zTok 125)).grownBy wr (some b)))
  (fun i _=>15 - (intOf i).toNat)
 case atStart=>exact ⟨0,by omega,rfl,Lib.hid (by intro q hq;omega),HLX,Lib.hid (grownBy.refl' _ _)⟩
 case round =>
  obtain ⟨j,hj,rfl,HNO,HR,HG⟩:=hrel
  by_cases hlt:j<15
  · have hji:(j:Int)<15:=by omega
    obtain ⟨t,ht1,ht2,ht3,ht4,ht5⟩:=sig_at j hlt
    have hT:=take_any b s t k wr HR.out _hs (by omega) (by omega)
    rw [ht3] at hT
    have HT2:=Lib.hid ht2;have HT3:=Lib.hid ht3;have HT5:=Lib.hid ht5
    clear ht1 ht2 ht3 ht5
    cases hq:headL (sigL.getD j []) (restL s k)
    · rw [hq] at hT
      have HT:=Lib.hid hT;have HQ:=Lib.hid hq;clear hT hq
      go_upto_region 3 with (fail)
      refine wp_region_lit ?_
      refine wpList_index_arr rfl 224 9 15 (.tmp 6) (.tmp 7) rfl sigA j (.string t) _ sig_und Tryz.underlying9 rfl str_size rfl rfl hlt HT2.out ?_
      go_wp2_with (go_at_call 167;((with_reducible refine HT.out.mono ?_);rintro e w1 ⟨h1,rfl,h2⟩;have H1:=Lib.hid h1;have H2:=Lib.hid h2;clear h1 h2))
      go_roundw
      case rel =>
       refine ⟨j+1,by omega,by go_num,Lib.hid ?_,H2,Lib.hid (grownBy.trans' HG.out H1.out)⟩
       intro q hq
       by_cases hqj:q<j
       · exact HNO.out q hqj
       · rw [show q=j from by omega];exact HQ.out
      case measure=>simp [intOf];omega
    · rw [hq] at hT
      have HT:=Lib.hid hT;clear hT
      have hsz:t.size=(sigL.getD j []).length:=by rw [← HT3.out,length_sb]
      have hN:=sig_some j hlt (restL s k) HNO.out hq
      rw [← HT5.out, ← hsz] at hN
      have HN:=Lib.hid hN;clear hN hq hsz
      go_upto_region 3 with (fail)
      refine wp_region_lit ?_
      refine wpList_index_arr rfl 224 9 15 (.tmp 6) (.tmp 7) rfl sigA j (.string t) _ sig_und Tryz.underlying9 rfl str_size rfl rfl hlt HT2.out ?_
      go_wp2_with (go_at_call 167;((with_reducible refine HT.out.mono ?_);rintro e w1 ⟨h1,rfl,h2⟩;have H1:=Lib.hid (grownBy.trans' HG.out h1);have H2:=Lib.hid h2;clear h1 h2;have HT2:=Lib.hid (HTK.out.grown H1.out hw0);obtain ⟨x0,x1,x2,x3,x4,x5,x6,x7,x8⟩:=HT2.out.cells;obtain ⟨f0,f1,f2,f3,f4,f5,f6,f7,f8⟩:=HT2.out.melts))
      exact bodyPost_ret (out_tok (HT2.out.put9 { Tk.zero with kind:=5,text:=t }) _ _ true 2 3 res_sign rfl rfl) rfl ⟨grownBy.set9 (grownBy.trans' HAL.out H1.out) (Nat.le_refl _) _ _ _ _ _ _ _ _ _,.inl ⟨_,_,HN.out,rfl,H2.out.set9 hw0 _ _ _ _ _ _ _ _ _⟩⟩
  · have hji:¬ (j:Int)<15:=by omega
    have HN:=Lib.hid (sig_none (restL s k) (fun q hq=>HNO.out q (by omega)))
    have HT2:=Lib.hid (HTK.out.grown HG.out hw0)
    obtain ⟨x0,x1,x2,x3,x4,x5,x6,x7,x8⟩:=HT2.out.cells
    obtain ⟨f0,f1,f2,f3,f4,f5,f6,f7,f8⟩:=HT2.out.melts
    go_wp2_with fail
    exact bodyPost_ret (out_tok (HT2.out.put9 Tk.zero) _ _ false 2 3 res_sign rfl rfl) rfl ⟨grownBy.set9 (grownBy.trans' HAL.out HG.out) (Nat.le_refl _) _ _ _ _ _ _ _ _ _,.inr ⟨HN.out,Tk.zero,rfl⟩⟩
def QuoSt (s:ByteArray) (k p:Nat) (xs:List Int):Prop:=quoF (restL s (k+1))=(quoF (restL s p)).map fun q=>(xs++q.1,p - (k+1)+q.2)
theorem restL_cons (s:ByteArray) (p:Nat) (h:p<s.size):restL s p=((s[p].toNat:Nat):Int) :: restL s (p+1):=by
 unfold restL
 rw [List.drop_eq_getElem_cons (by rw [length_sb];exact h)]
 congr 1
 have:=sb_at s p h
 rw [List.getElem?_eq_getElem (by rw [length_sb];exact h)] at this
 exact Option.some.inj this
theorem restL_nil (s:ByteArray) (p:Nat) (h:s.size≤p):restL s p=[]:=by
 apply List.eq_nil_of_length_eq_zero;rw [length_restL];omega
theorem quo_end {s:ByteArray} {k p:Nat} {xs:List Int} (h:QuoSt s k p xs) (hp:s.size≤p):quoT (restL s (k+1))=none:=by
 unfold QuoSt at h;unfold quoT;rw [h,restL_nil s p hp];rfl
theorem quo_low {s:ByteArray} {k p:Nat} {xs:List Int} (h:QuoSt s k p xs) (hp:p<s.size) (hc:((s[p].toNat:Nat):Int)<32):quoT (restL s (k+1))=none:=by
 unfold QuoSt at h;unfold quoT;rw [h,restL_cons s p hp,quoF_cons,if_pos hc];rfl
theorem quo_next {s:ByteArray} {k p:Nat} {xs:List Int} {a:Int} (h:QuoSt s k p xs) (hk:k+1≤p) (hp:p<s.size) (ha:((s[p].toNat:Nat):Int)=a) (h1:¬ a<32) (h2:¬ a=34):QuoSt s k (p+1) (xs++[a]):=by
 unfold QuoSt at h ⊢
 rw [h,restL_cons s p hp,quoF_cons,ha,if_neg h1,if_pos h2]
 cases quoF (restL s (p+1)) with
 | none=>rfl
 | some q =>
   simp only [Option.map_some,Option.some.injEq,Prod.mk.injEq,List.append_assoc,List.cons_append,List.nil_append,true_and];omega
theorem quo_two {s:ByteArray} {k p:Nat} {xs:List Int} (h:QuoSt s k p xs) (hk:k+1≤p) (hp:p<s.size) (ha:((s[p].toNat:Nat):Int)=34) (hp2:p+1<s.size) (ha2:((s[p+1].toNat:Nat):Int)=34):QuoSt s k (p+1+1) (xs++[34]):=by
 unfold QuoSt at h ⊢
 rw [h,restL_cons s p hp,restL_cons s (p+1) hp2,quoF_cons,ha,ha2,if_neg (by omega),if_neg (by omega)]
 simp only [if_true]
 cases quoF (restL s (p+1+1)) with
 | none=>rfl
 | some q =>
   simp only [Option.map_some,Option.some.injEq,Prod.mk.injEq,List.append_assoc,List.cons_append,List.nil_append,true_and];omega
theorem quo_last {s:ByteArray} {k p:Nat} {xs:List Int} (h:QuoSt s k p xs) (hk:k+1≤p) (hp:p<s.size) (ha:((s[p].toNat:Nat):Int)=34) (h2:∀ h:p+1<s.size,¬ ((s[p+1].toNat:Nat):Int)=34) :
 quoT (restL s (k+1))=some ({ Tk.zero with kind:=2,text:=strOfNums xs },p+1 - k):=by
 unfold QuoSt at h
 have hq:quoF (restL s p)=some ([],1):=by
  rw [restL_cons s p hp,quoF_cons,ha,if_neg (by omega),if_neg (by omega)]
  by_cases hp2:p+1<s.size
  · rw [restL_cons s (p+1) hp2]
    simp only [if_neg (h2 hp2)]
  · rw [restL_nil s (p+1) (by omega)]
 unfold quoT
 rw [h,hq]
 simp only [Option.map_some,List.append_nil,Option.some.injEq,Prod.mk.injEq,true_and];omega
theorem grownBy.below1 {a w w':World} {r:Option Nat} (h:a.grownBy w r) (k:Below (a.heap.size+1) w w'):a.grownBy w' r :=
 ⟨k.os.trans h.os,k.tape.trans h.tape,k.output.trans h.output,Nat.le_trans h.size k.size,fun j hj hr=>(k.block j (by omega)).trans (h.block j hj hr)⟩
theorem res_quoted:Tryz.f139.results=#[.cell 2 125,.tmp 3]:=by kernel_rfl
set_option maxRecDepth 100000 in
set_option maxHeartbeats 4000000 in
theorem quoted_any (b:Nat) (s:ByteArray) (k:Nat) (w:World) (h:LxAt w b s k) (_hs:s.size≤1000000) (_hk:k<s.size) :
 Calls Tryz.prog 139 #[.pointer (some ⟨b,0,none⟩)] w (TokOut (quoT (restL s (k+1))) b s k w):=by
 have hlt:=h.lt
 have hw0:w.heap.size≠b:=by omega
 have hbB:b<w.heap.size+1:=by omega
 obtain ⟨c0,c1⟩:=h.tok.facts
 have f1:=h.tok.frozen 1
 have hHAL:w.grownBy ((w.setCell ⟨b,1,none⟩ (.int .i64 ((k:Int)+1))).alloc (.cells zTok 125)) (some b):=grownBy.below' (grownBy.setCell' (grownBy.refl' _ _) _ _) ((Below.refl _ _).alloc (Nat.le_refl _) _)
 have HAL:=Lib.hid hHAL;clear hHAL
 have hTK:=TkAt.zero (w.setCell ⟨b,1,none⟩ (.int .i64 ((k:Int)+1)))
 rw [show (w.setCell ⟨b,1,none⟩ (.int .i64 ((k:Int)+1))).heap.size=w.heap.size by simp] at hTK
 have HTK:=Lib.hid hTK;clear hTK
 have HLX:=Lib.hid (h.setNext.tok);clear h
 go_enter Tryz.func139,Tryz.ntmps139
 go_wp2_with fail
 clear c0 c1 f1
 go_loopw [4] (fun v wr=>∃ (p:Nat) (xs:List Int),k+1≤p∧p≤s.size∧xs.length≤p∧Hid (Bytes xs)∧Hid (QuoSt s k p xs)∧Hid (LxAt wr b s p)∧Hid (Own8 wr (w.heap.size+1) v xs)∧Hid (TkAt wr w.heap.size Tk.zero)∧Hid (w.grownBy wr (some b)))
  (fun _ wr=>lxm b s.size wr)
 case atStart =>
  refine ⟨k+1,[],by omega,by omega,by simp,Lib.hid Bytes.nil,Lib.hid ?_,HLX,Lib.hid (Own.nil _ _ _ _),HTK,HAL⟩
  unfold QuoSt
  cases quoF (restL s (k+1)) with
  | none=>rfl
  | some q=>simp
 case round =>
  obtain ⟨p,xs,hkp,hps,hxl,HBY,HQ,HR,HO,HT,HG⟩:=hrel
  clear HAL HTK HLX
  have hmeas:=HR.out.lxm s.size
  have HME:=Lib.hid hmeas;clear hmeas
  obtain ⟨c0,c1⟩:=HR.out.facts
  have f1:=HR.out.frozen 1
  by_cases hlt:p<s.size
  · have hlt2 : (p:Int)<(s.size:Int):=by omega
    obtain ⟨a,ha⟩:∃ a:Int,(s[p].toNat:Int)=a:=⟨_,rfl⟩
    have ha1:0≤a∧a≤255:=by have:=s[p].toNat_lt;omega
    by_cases hlow:a<32
    · have HN:=Lib.hid (quo_low HQ.out hlt (by rw [ha];exact hlow))
      go_wp2_with fail
      go_quiet (fail)
      have HR1:=Lib.hid (HR.out.drewN nq);have HO1:=Lib.hid (HO.out.drewN nq);have HT1:=Lib.hid (HT.out.drewN nq);have HG1:=Lib.hid (grownBy.drewN' HG.out nq)
      generalize wr.drewN nq=w1 at HR1 HO1 HT1 HG1 ⊢
      clear c0 c1 f1 HR HO HT HG
      obtain ⟨c0,c1⟩:=HR1.out.facts
      have f1:=HR1.out.frozen 1
      go_wp2_with fail
      go_quiet (fail)
      have HR2:=Lib.hid (HR1.out.drewN nq);have HO2:=Lib.hid (HO1.out.drewN nq);have HT2:=Lib.hid (HT1.out.drewN nq);have HG2:=Lib.hid (grownBy.drewN' HG1.out nq)
      generalize w1.drewN nq=w2 at HR2 HO2 HT2 HG2 ⊢
      clear c0 c1 f1 HR1 HO1 HT1 HG1
      obtain ⟨c0,c1⟩:=HR2.out.facts
      have f1:=HR2.out.frozen 1
      obtain ⟨x0,x1,x2,x3,x4,x5,x6,x7,x8⟩:=HT2.out.cells
      obtain ⟨g0,g1,g2,g3,g4,g5,g6,g7,g8⟩:=HT2.out.melts
      go_wp2_with fail
      exact bodyPost_ret (out_tok (HT2.out.put9 Tk.zero) _ _ false 2 3 res_quoted rfl rfl) rfl ⟨grownBy.set9 HG2.out (Nat.le_refl _) _ _ _ _ _ _ _ _ _,.inr ⟨HN.out,Tk.zero,rfl⟩⟩
    · by_cases h34:a=34
      · have hb34:(a == 34)=true:=beq_iff_eq.2 h34
        obtain ⟨q,hq⟩:∃ q:Nat,p+1=q:=⟨_,rfl⟩
        go_wp2_with fail
        go_quiet (fail)
        have HR1:=Lib.hid (HR.out.drewN nq);have HO1:=Lib.hid (HO.out.drewN nq);have HT1:=Lib.hid (HT.out.drewN nq);have HG1:=Lib.hid (grownBy.drewN' HG.out nq)
        generalize wr.drewN nq=w1 at HR1 HO1 HT1 HG1 ⊢
        clear c0 c1 f1 HR HO HT HG
        obtain ⟨c0,c1⟩:=HR1.out.facts
        have f1:=HR1.out.frozen 1
        go_wp2_with fail
        go_quiet (fail)
        have HR2:=Lib.hid (HR1.out.drewN nq);have HO2:=Lib.hid (HO1.out.drewN nq);have HT2:=Lib.hid (HT1.out.drewN nq);have HG2:=Lib.hid (grownBy.drewN' HG1.out nq)
        generalize w1.drewN nq=w2 at HR2 HO2 HT2 HG2 ⊢
        clear c0 c1 f1 HR1 HO1 HT1 HG1
        obtain ⟨c0,c1⟩:=HR2.out.facts
        have f1:=HR2.out.frozen 1
        go_upto_region 10 with (fail)
        have HR3:=Lib.hid (HR2.out.setNext);have HO3:=Lib.hid (Own.other HO2.out (grownBy.setCell' (grownBy.refl' _ _) _ _) hbB:Own8 (w2.setCell ⟨b,1,none⟩ (.int .i64 ((p:Int)+1))) _ _ _);have HT3:=Lib.hid (HT2.out.grown (grownBy.setCell' (grownBy.refl' _ _) 1 (.int .i64 ((p:Int)+1))) hw0);have HG3:=Lib.hid (grownBy.setCell' HG2.out 1 (.int .i64 ((p:Int)+1)))
        generalize w2.setCell ⟨b,1,none⟩ (.int .i64 ((p:Int)+1))=w3 at HR3 HO3 HT3 HG3 ⊢
        clear c0 c1 f1 HR2 HO2 HT2 HG2
        obtain ⟨c0,c1⟩:=HR3.out.facts
        have f1:=HR3.out.frozen 1
        have HR3':=Lib.hid (show LxAt w3 b s q by rw [← hq];exact HR3.out)
        clear c0 c1 HR3
        have HR3:=HR3';clear HR3'
        obtain ⟨c0,c1⟩:=HR3.out.facts
        have HQP:=Lib.hid hq
        by_cases hlt3:q<s.size
        · have hlt4:((q:Int) == (s.size:Int))=false:=beq_eq_false_iff_ne.2 (by omega)
          have hlt5:(q:Int)<(s.size:Int):=by omega
          obtain ⟨a2,ha2⟩:∃ a2:Int,(s[q].toNat:Int)=a2:=⟨_,rfl⟩
          have ha21:0≤a2∧a2≤255:=by have:=s[q].toNat_lt;omega
          by_cases h342:a2=34
          · have hb342:(a2 == 34)=true:=beq_iff_eq.2 h342
            have HQ2:=Lib.hid (show QuoSt s k (q+1) (xs++[34]) by subst hq;exact quo_two HQ.out hkp hlt (by rw [ha,h34]) hlt3 (by rw [ha2,h342]))
            clear HQ hq
            go_quiet (fail)
            have HR4:=Lib.hid (HR3.out.drewN nq);have HO4:=Lib.hid (HO3.out.drewN nq);have HT4:=Lib.hid (HT3.out.drewN nq);have HG4:=Lib.hid (grownBy.drewN' HG3.out nq)
            generalize w3.drewN nq=w4 at HR4 HO4 HT4 HG4 ⊢
            clear c0 c1 f1 HR3 HO3 HT3 HG3
            obtain ⟨c0,c1⟩:=HR4.out.facts
            have f1:=HR4.out.frozen 1
            go_wp2_with (at_builtin;refine wpList_app Elem.u8 (encInt .u8) rfl (.tmp 76) (.tmp 78) rfl (w.heap.size+1) _ _ rfl (HO4.out.alloc _) ⟨_,0,none⟩ 1 1 [34] rfl rfl ?_ ?_ ?_ ?_ ?_;exact cells_new _ _ _ rfl;omega;(unfold maxLen;omega);(have:=HT4.out.lt;simp <;> omega);intro v' wz h1 h2;have HOz:=Lib.hid h1;have HBz:=Lib.hid (((Below.refl (w.heap.size+1) _).alloc (by have:=HT4.out.lt;omega) _).trans h2);clear h1 h2;have HRz:=Lib.hid (HR4.out.below HBz.out hbB);have HTz:=Lib.hid (HT4.out.below HBz.out (Nat.lt_succ_self _));have HGz:=Lib.hid (grownBy.below1 HG4.out HBz.out);clear HR4 HO4 HT4 HG4 c0 c1 f1;obtain ⟨c0,c1⟩:=HRz.out.facts;have f1:=HRz.out.frozen 1)
            go_roundw
            case rel =>
             refine ⟨q+1,xs++[34],by have:=HQP.out;omega,by omega,by have:=HQP.out;simp;omega,Lib.hid (HBY.out.append (by intro x hx;simp at hx;omega)),HQ2,Lib.hid HRz.out.setNext,Lib.hid (Own.other HOz.out (grownBy.setCell' (grownBy.refl' _ _) _ _) hbB),Lib.hid (HTz.out.grown (grownBy.setCell' (grownBy.refl' _ _) _ _) hw0),Lib.hid (grownBy.setCell' HGz.out _ _)⟩
            case measure =>
             have h1:=HRz.out.setNext.lxm s.size
             have h2:=HQP.out
             rw [HME.out]
             exact Nat.lt_of_le_of_lt (Nat.le_of_eq h1) (by omega)
          · have hb342:(a2 == 34)=false:=beq_eq_false_iff_ne.2 h342
            have HN:=Lib.hid (show quoT (restL s (k+1))=some ({ Tk.zero with kind:=2,text:=strOfNums xs },q - k) by subst hq;exact quo_last HQ.out hkp hlt (by rw [ha,h34]) (fun h=>by rw [ha2];exact h342))
            clear HQ hq
            go_quiet (fail)
            have HR4:=Lib.hid (HR3.out.drewN nq);have HO4:=Lib.hid (HO3.out.drewN nq);have HT4:=Lib.hid (HT3.out.drewN nq);have HG4:=Lib.hid (grownBy.drewN' HG3.out nq)
            generalize w3.drewN nq=w4 at HR4 HO4 HT4 HG4 ⊢
            clear c0 c1 f1 HR3 HO3 HT3 HG3
            obtain ⟨c0,c1⟩:=HR4.out.facts
            have f1:=HR4.out.frozen 1
            have hconv:=run_str8 HO4.out
            obtain ⟨x0,x1,x2,x3,x4,x5,x6,x7,x8⟩:=HT4.out.cells
            obtain ⟨g0,g1,g2,g3,g4,g5,g6,g7,g8⟩:=HT4.out.melts
            go_wp2_with fail
            exact bodyPost_ret (out_tok (HT4.out.put9 { Tk.zero with kind:=2,text:=strOfNums xs }) _ _ true 2 3 res_quoted rfl rfl) rfl ⟨grownBy.set9 HG4.out (Nat.le_refl _) _ _ _ _ _ _ _ _ _,.inl ⟨_,_,HN.out,rfl,by rw [show k+(q - k)=q from by have:=HQP.out;omega];exact HR4.out.set9 hw0 _ _ _ _ _ _ _ _ _⟩⟩
        · have hlt4:((q:Int) == (s.size:Int))=true:=beq_iff_eq.2 (by omega)
          have HN:=Lib.hid (show quoT (restL s (k+1))=some ({ Tk.zero with kind:=2,text:=strOfNums xs },q - k) by subst hq;exact quo_last HQ.out hkp hlt (by rw [ha,h34]) (fun h=>absurd h hlt3))
          clear HQ hq
          go_quiet (fail)
          have HR4:=Lib.hid (HR3.out.drewN nq);have HO4:=Lib.hid (HO3.out.drewN nq);have HT4:=Lib.hid (HT3.out.drewN nq);have HG4:=Lib.hid (grownBy.drewN' HG3.out nq)
          generalize w3.drewN nq=w4 at HR4 HO4 HT4 HG4 ⊢
          clear c0 c1 f1 HR3 HO3 HT3 HG3
          obtain ⟨c0,c1⟩:=HR4.out.facts
          have f1:=HR4.out.frozen 1
          have hconv:=run_str8 HO4.out
          obtain ⟨x0,x1,x2,x3,x4,x5,x6,x7,x8⟩:=HT4.out.cells
          obtain ⟨g0,g1,g2,g3,g4,g5,g6,g7,g8⟩:=HT4.out.melts
          go_wp2_with fail
          exact bodyPost_ret (out_tok (HT4.out.put9 { Tk.zero with kind:=2,text:=strOfNums xs }) _ _ true 2 3 res_quoted rfl rfl) rfl ⟨grownBy.set9 HG4.out (Nat.le_refl _) _ _ _ _ _ _ _ _ _,.inl ⟨_,_,HN.out,rfl,by rw [show k+(q - k)=q from by have:=HQP.out;omega];exact HR4.out.set9 hw0 _ _ _ _ _ _ _ _ _⟩⟩
      · have hb34:(a == 34)=false:=beq_eq_false_iff_ne.2 h34
        have HQ2:=Lib.hid (quo_next HQ.out hkp hlt ha hlow h34)
        clear HQ
        go_wp2_with fail
        go_quiet (fail)
        have HR1:=Lib.hid (HR.out.drewN nq);have HO1:=Lib.hid (HO.out.drewN nq);have HT1:=Lib.hid (HT.out.drewN nq);have HG1:=Lib.hid (grownBy.drewN' HG.out nq)
        generalize wr.drewN nq=w1 at HR1 HO1 HT1 HG1 ⊢
        clear c0 c1 f1 HR HO HT HG
        obtain ⟨c0,c1⟩:=HR1.out.facts
        have f1:=HR1.out.frozen 1
        go_wp2_with fail
        go_quiet (fail)
        have HR2:=Lib.hid (HR1.out.drewN nq);have HO2:=Lib.hid (HO1.out.drewN nq);have HT2:=Lib.hid (HT1.out.drewN nq);have HG2:=Lib.hid (grownBy.drewN' HG1.out nq)
        generalize w1.drewN nq=w2 at HR2 HO2 HT2 HG2 ⊢
        clear c0 c1 f1 HR1 HO1 HT1 HG1
        obtain ⟨c0,c1⟩:=HR2.out.facts
        have f1:=HR2.out.frozen 1
        go_wp2_with (at_builtin;refine wpList_app Elem.u8 (encInt .u8) rfl (.tmp 76) (.tmp 78) rfl (w.heap.size+1) _ _ rfl (HO2.out.alloc _) ⟨_,0,none⟩ 1 1 [a] rfl rfl ?_ ?_ ?_ ?_ ?_;exact cells_new _ _ _ rfl;omega;(unfold maxLen;omega);(have:=HT2.out.lt;simp <;> omega);intro v' wz h1 h2;have HOz:=Lib.hid h1;have HBz:=Lib.hid (((Below.refl (w.heap.size+1) _).alloc (by have:=HT2.out.lt;omega) _).trans h2);clear h1 h2;have HRz:=Lib.hid (HR2.out.below HBz.out hbB);have HTz:=Lib.hid (HT2.out.below HBz.out (Nat.lt_succ_self _));have HGz:=Lib.hid (grownBy.below1 HG2.out HBz.out);clear HR2 HO2 HT2 HG2 c0 c1 f1;obtain ⟨c0,c1⟩:=HRz.out.facts;have f1:=HRz.out.frozen 1)
        go_roundw
        case rel =>
         refine ⟨p+1,xs++[a],by omega,by omega,by simp;omega,Lib.hid (HBY.out.append (by intro x hx;simp at hx;omega)),HQ2,Lib.hid HRz.out.setNext,Lib.hid (Own.other HOz.out (grownBy.setCell' (grownBy.refl' _ _) _ _) hbB),Lib.hid (HTz.out.grown (grownBy.setCell' (grownBy.refl' _ _) _ _) hw0),Lib.hid (grownBy.setCell' HGz.out _ _)⟩
        case measure =>
         have h1:=HRz.out.setNext.lxm s.size
         rw [HME.out]
         exact Nat.lt_of_le_of_lt (Nat.le_of_eq h1) (by omega)
  · have hlt2:¬ (p:Int)<(s.size:Int):=by omega
    have HN:=Lib.hid (quo_end HQ.out (by omega))
    go_wp2_with fail
    go_quiet (fail)
    have HR1:=Lib.hid (HR.out.drewN nq);have HO1:=Lib.hid (HO.out.drewN nq);have HT1:=Lib.hid (HT.out.drewN nq);have HG1:=Lib.hid (grownBy.drewN' HG.out nq)
    generalize wr.drewN nq=w1 at HR1 HO1 HT1 HG1 ⊢
    clear c0 c1 f1 HR HO HT HG
    obtain ⟨c0,c1⟩:=HR1.out.facts
    have f1:=HR1.out.frozen 1
    obtain ⟨x0,x1,x2,x3,x4,x5,x6,x7,x8⟩:=HT1.out.cells
    obtain ⟨g0,g1,g2,g3,g4,g5,g6,g7,g8⟩:=HT1.out.melts
    go_wp2_with fail
    exact bodyPost_ret (out_tok (HT1.out.put9 Tk.zero) _ _ false 2 3 res_quoted rfl rfl) rfl ⟨grownBy.set9 HG1.out (Nat.le_refl _) _ _ _ _ _ _ _ _ _,.inr ⟨HN.out,Tk.zero,rfl⟩⟩
structure Vars (w:World):Prop where
 err:ErrV w
 sig:SigV w
theorem Vars.grown {w w':World} {b:Nat} (h:Vars w) (hg:w.grownBy w' (some b)) (hb:max 4 1<b):Vars w':=⟨h.err.grown hg (by omega),h.sig.grown hg hb⟩
theorem Vars.below {w w':World} (h:Vars w) (hb:Below w.heap.size w w'):Vars w':=⟨h.err.below hb,h.sig.below hb⟩
theorem m_num:∀ args (v:World),(callFunc 138 args).run Tryz.prog v = .ok (.enter 138 args) v:=Go.Proofs.enters_of Tryz.func138 (by kernel_rfl) rfl
theorem m_quo:∀ args (v:World),(callFunc 139 args).run Tryz.prog v = .ok (.enter 139 args) v:=Go.Proofs.enters_of Tryz.func139 (by kernel_rfl) rfl
theorem m_dead:∀ args (v:World),(callFunc 140 args).run Tryz.prog v = .ok (.enter 140 args) v:=Go.Proofs.enters_of Tryz.func140 (by kernel_rfl) rfl
theorem m_word:∀ args (v:World),(callFunc 142 args).run Tryz.prog v = .ok (.enter 142 args) v:=Go.Proofs.enters_of Tryz.func142 (by kernel_rfl) rfl
theorem m_sign:∀ args (v:World),(callFunc 143 args).run Tryz.prog v = .ok (.enter 143 args) v:=Go.Proofs.enters_of Tryz.func143 (by kernel_rfl) rfl
theorem method_any (b:Nat) (s:ByteArray) (k:Nat) (_hs:s.size≤1000000) (_hk:k<s.size) (hb2:max 4 1<b) (a:Int) (ha:((s[k].toNat:Nat):Int)=a) :
 (∀ args (v:World),(callFunc (methN a) args).run Tryz.prog v = .ok (.enter (methN a) args) v) ∧
 (∀ w,LxAt w b s k→Vars w→Calls Tryz.prog (methN a) #[.pointer (some ⟨b,0,none⟩)] w (TokOut (tokT (restL s k)) b s k w)):=by
 have hc:=restL_cons s k _hk
 rw [ha] at hc
 have ht:=tokT_cons a (restL s (k+1))
 rw [← hc] at ht
 rw [ht]
 cases hn:isNum a
 · rw [if_neg (by simp)]
   by_cases h34:a=34
   · rw [methN_quo hn h34,if_pos h34]
     exact ⟨m_quo,fun w h _=>quoted_any b s k w h _hs _hk⟩
   · rw [if_neg h34]
     by_cases h35:a=35
     · rw [methN_dead hn h34 h35,if_pos h35]
       exact ⟨m_dead,fun w h _=>dead_any b s k w h _hs _hk⟩
     · rw [if_neg h35]
       cases hb:isBeg a
       · rw [methN_sign hn h34 h35 hb,if_neg (by unfold isBeg at hb;simpa using hb)]
         exact ⟨m_sign,fun w h hv=>sign_any b s k w h _hs _hk hv.sig hb2⟩
       · rw [methN_word hn h34 h35 hb,if_pos (by unfold isBeg at hb;simpa using hb)]
         exact ⟨m_word,fun w h _=>word_any b s k w h _hs _hk (by rw [ha];exact hb)⟩
 · rw [methN_num hn,if_pos rfl]
   exact ⟨m_num,fun w h hv=>number_any b s k w h _hs _hk (by rw [ha];exact hn) hv.err (by omega)⟩
theorem TokOut.lit {o:Option (Tk × Nat)} {b:Nat} {s:ByteArray} {k:Nat} {w w':World} {e:Ending} (h:TokOut o b s k w e w') :
 w.grownBy w' (some b)∧((∃ t n,o=some (t,n)∧e = .returned (.tuple #[.agg #[.int .i64 t.kind,.string t.text,.int .i64 t.num,.string t.sh,.int .i64 t.c,.int .i64 t.r,.bool t.ac,.bool t.ar,.int .i64 t.pos],.bool true])∧LxAt w' b s (k+n))∨(o=none∧∃ t:Tk,e = .returned (.tuple #[.agg #[.int .i64 t.kind,.string t.text,.int .i64 t.num,.string t.sh,.int .i64 t.c,.int .i64 t.r,.bool t.ac,.bool t.ar,.int .i64 t.pos],.bool false]))):=h
theorem res_token:Tryz.f76.results=#[.cell 2 125,.tmp 3]:=by kernel_rfl
set_option maxRecDepth 100000 in
set_option maxHeartbeats 1600000 in
theorem token_any (b:Nat) (s:ByteArray) (k:Nat) (w:World) (h:LxAt w b s k) (_hs:s.size≤1000000) (_hk:k<s.size) (hb2:max 4 1<b) (hv:Vars w) :
 Calls Tryz.prog 76 #[.pointer (some ⟨b,0,none⟩)] w (TokOut ((tokT (restL s k)).map fun q=>(q.1.goto k,q.2)) b s k w):=by
 have hlt:=h.lt
 have hw0:w.heap.size≠b:=by omega
 obtain ⟨a,ha⟩:∃ a:Int,(s[k].toNat:Int)=a:=⟨_,rfl⟩
 have ha1:0≤a∧a≤255:=by have:=s[k].toNat_lt;omega
 obtain ⟨hen,hmeth⟩:=method_any b s k _hs _hk hb2 a ha
 have hmo:=fun w=>methodOf_any a ha1.1 ha1.2 w
 obtain ⟨F,hF⟩:∃ F,methN a=F:=⟨_,rfl⟩
 rw [hF] at hen hmeth
 simp only [hF] at hmo
 have HMO:=Lib.hid hmo;clear hmo hF
 have HM:=Lib.hid (hmeth _ h.tok (hv.grown (new_tok w b) hb2));clear hmeth hv
 have HAL:=Lib.hid (new_tok w b)
 have HTK:=Lib.hid (TkAt.zero w)
 obtain ⟨c0,c1⟩:=h.tok.facts
 clear h
 have hk2:(k:Int)<(s.size:Int):=by omega
 obtain ⟨o,ho⟩:∃ o,tokT (restL s k)=o:=⟨_,rfl⟩
 rw [ho] at HM ⊢
 clear ho
 go_enter Tryz.func76,Tryz.ntmps76
 go_wp2_with (go_at_call 105;((with_reducible refine (HMO.out _).mono ?_);rintro e w1 ⟨rfl,rfl⟩))
 refine HM.out.mono ?_
 intro e w1 he
 obtain ⟨h1,⟨t,n,rfl,rfl,h2⟩ | ⟨rfl,t,rfl⟩⟩:=he.lit
 · have H1:=Lib.hid h1;have H2:=Lib.hid h2;clear h1 h2 he
   have hB3:Below w1.heap.size w1 (w1.alloc (.cells #[.int .i64 t.kind,.string t.text,.int .i64 t.num,.string t.sh,.int .i64 t.c,.int .i64 t.r,.bool t.ac,.bool t.ar,.int .i64 (k:Int)] 125)):=(Below.refl _ _).alloc (Nat.le_refl _) _
   have hT1:=HTK.out.grown H1.out hw0
   have HT3:=Lib.hid (hT1.below hB3 hT1.lt)
   have HN3:TkAt (w1.alloc (.cells #[.int .i64 t.kind,.string t.text,.int .i64 t.num,.string t.sh,.int .i64 t.c,.int .i64 t.r,.bool t.ac,.bool t.ar,.int .i64 (k:Int)] 125)) w1.heap.size (t.goto k):=TkAt.new w1 (t.goto k)
   have HG3:=Lib.hid (grownBy.below' (grownBy.trans' HAL.out H1.out) hB3)
   have HL3:=Lib.hid (H2.out.below hB3 H2.out.lt)
   have hne2:w.heap.size≠w1.heap.size:=Nat.ne_of_lt hT1.lt
   clear hB3 hT1 HMO HM c0 c1
   go_upto_region 4 with (fail)
   generalize w1.alloc (.cells #[.int .i64 t.kind,.string t.text,.int .i64 t.num,.string t.sh,.int .i64 t.c,.int .i64 t.r,.bool t.ac,.bool t.ar,.int .i64 (k:Int)] 125)=w3 at HT3 HN3 HG3 HL3 ⊢
   obtain ⟨x0,x1,x2,x3,x4,x5,x6,x7,x8⟩:=HT3.out.cells
   obtain ⟨f0,f1,f2,f3,f4,f5,f6,f7,f8⟩:=HT3.out.melts
   obtain ⟨y0,y1,y2,y3,y4,y5,y6,y7,y8⟩:=HN3.cells
   clear HN3
   simp only [Tk.goto] at y0 y1 y2 y3 y4 y5 y6 y7 y8
   go_wp2_with fail
   exact bodyPost_ret (out_tok (HT3.out.put9 (t.goto k)) _ _ true 2 3 res_token rfl rfl) rfl ⟨grownBy.set9 HG3.out (Nat.le_refl _) _ _ _ _ _ _ _ _ _,.inl ⟨_,_,rfl,rfl,HL3.out.set9 hw0 _ _ _ _ _ _ _ _ _⟩⟩
 · have H1:=Lib.hid h1;clear h1 he
   have hB3:Below w1.heap.size w1 (w1.alloc (.cells #[.int .i64 t.kind,.string t.text,.int .i64 t.num,.string t.sh,.int .i64 t.c,.int .i64 t.r,.bool t.ac,.bool t.ar,.int .i64 (k:Int)] 125)):=(Below.refl _ _).alloc (Nat.le_refl _) _
   have hT1:=HTK.out.grown H1.out hw0
   have HT3:=Lib.hid (hT1.below hB3 hT1.lt)
   have HN3:TkAt (w1.alloc (.cells #[.int .i64 t.kind,.string t.text,.int .i64 t.num,.string t.sh,.int .i64 t.c,.int .i64 t.r,.bool t.ac,.bool t.ar,.int .i64 (k:Int)] 125)) w1.heap.size (t.goto k):=TkAt.new w1 (t.goto k)
   have HG3:=Lib.hid (grownBy.below' (grownBy.trans' HAL.out H1.out) hB3)
   have hne2:w.heap.size≠w1.heap.size:=Nat.ne_of_lt hT1.lt
   clear hB3 hT1 HMO HM c0 c1
   go_upto_region 4 with (fail)
   generalize w1.alloc (.cells #[.int .i64 t.kind,.string t.text,.int .i64 t.num,.string t.sh,.int .i64 t.c,.int .i64 t.r,.bool t.ac,.bool t.ar,.int .i64 (k:Int)] 125)=w3 at HT3 HN3 HG3 ⊢
   obtain ⟨x0,x1,x2,x3,x4,x5,x6,x7,x8⟩:=HT3.out.cells
   obtain ⟨f0,f1,f2,f3,f4,f5,f6,f7,f8⟩:=HT3.out.melts
   obtain ⟨y0,y1,y2,y3,y4,y5,y6,y7,y8⟩:=HN3.cells
   clear HN3
   simp only [Tk.goto] at y0 y1 y2 y3 y4 y5 y6 y7 y8
   go_wp2_with fail
   exact bodyPost_ret (out_tok (HT3.out.put9 (t.goto k)) _ _ false 2 3 res_token rfl rfl) rfl ⟨grownBy.set9 HG3.out (Nat.le_refl _) _ _ _ _ _ _ _ _ _,.inr ⟨rfl,t.goto k,rfl⟩⟩
def encTk:Enc Tk 9:={ f:=fun t=>(tokA t).toList,len:=fun _=>rfl,one:=fun t u hu=>tok_one t u hu }
theorem Elem.tok:∃ n,n≤100∧Elem Tryz.prog 117 125 9 n:=⟨80,by omega,Tryz.underlying117,⟨.agg zTok,by kernel_rfl,rfl⟩,by decide⟩
abbrev OwnT (w:World) (base:Nat) (v:Value) (ts:List Tk):Prop:=Own encTk 125 w base v ts
def lexP (s:ByteArray) (p:Nat):Option (List Tk):=lexF (restL s p).length p (restL s p)
theorem lexL_P (s:ByteArray):lexL (sb s)=lexP s 0:=rfl
theorem lexP_end (s:ByteArray) (p:Nat) (h:s.size≤p):lexP s p=some [Tk.zero.goto p]:=by
 unfold lexP;rw [restL_nil s p h];unfold lexF;rfl
theorem lexP_blank (s:ByteArray) (p:Nat) (h:p<s.size) (ha:((s[p].toNat:Nat):Int)=32):lexP s p=lexP s (p+1):=by
 unfold lexP;rw [restL_cons s p h,ha,List.length_cons,lexF_cons,if_pos rfl]
theorem lexP_skip (s:ByteArray):∀ (m p:Nat),(∀ x∈(restL s p).take m,isBl x=true)→p+m≤s.size→lexP s p=lexP s (p+m)
 | 0,_,_,_=>rfl
 | m + 1,p,h,hm=>by
   have hp:p<s.size:=by omega
   rw [restL_cons s p hp] at h
   have h0:((s[p].toNat:Nat):Int)=32:=by
    have:=h ((s[p].toNat:Nat):Int) (by simp)
    unfold isBl at this;simpa using this
   rw [lexP_blank s p hp h0,lexP_skip s m (p+1) (fun x hx=>h x (by simp [hx])) (by omega),show p+1+m=p+(m+1) from by omega]
theorem lexP_none (s:ByteArray) (p:Nat) (h:p<s.size) (h32:¬ ((s[p].toNat:Nat):Int)=32) (ht:tokT (restL s p)=none):lexP s p=none:=by
 unfold lexP;rw [restL_cons s p h] at ht ⊢;rw [List.length_cons,lexF_cons,if_neg h32,ht]
theorem lexP_tok (s:ByteArray) (p:Nat) (h:p<s.size) (h32:¬ ((s[p].toNat:Nat):Int)=32) (t:Tk) (n:Nat) (ht:tokT (restL s p)=some (t,n)):lexP s p=(lexP s (p+n)).map (t.goto p :: ·):=by
 have hn:=tokT_le _ _ _ ht
 have hd:=restL_drop s p n
 unfold lexP
 rw [restL_cons s p h] at ht hd hn ⊢
 rw [List.length_cons,lexF_cons,if_neg h32,ht]
 simp only
 rw [hd,lexF_more _ (restL s (p+n)).length _ _ (by rw [length_restL,length_restL];omega) (Nat.le_refl _)]
theorem span_all (p:Int→Bool) (l:List Int):∀ x∈l.take (l.takeWhile p).length,p x=true:=by
 have e:=take_split p l
 have h:l.take (l.takeWhile p).length=l.takeWhile p:=by
  have h0:(l.takeWhile p++l.drop (l.takeWhile p).length).take (l.takeWhile p).length=l.takeWhile p:=List.take_left
  rw [e] at h0;exact h0
 rw [h];exact take_all p l
theorem skip_head (s:ByteArray) (p q:Nat) (hq:p+((restL s p).takeWhile isBl).length=q) (h:q<s.size):¬ ((s[q].toNat:Nat):Int)=32:=by
 have h1:=take_head isBl (restL s p)
 rw [restL_drop,hq,restL_cons s q h] at h1
 have:=h1 _ rfl
 unfold isBl at this;simpa using this
theorem skip_le (s:ByteArray) (p:Nat) (h:p≤s.size):p+((restL s p).takeWhile isBl).length≤s.size:=by
 have:=take_le isBl (restL s p);rw [length_restL] at this;omega
theorem Vars.lt {w:World} (h:Vars w):max 4 1<w.heap.size:=by
 have hs:=h.sig.lt
 obtain ⟨ev,h1,_⟩:=h.err
 have hr:4<w.heap.size:=by
  rcases Nat.lt_or_ge 4 w.heap.size with h' | h'
  · exact h'
  · exfalso;unfold World.cell? at h1;simp only at h1;rw [Array.getElem?_eq_none h'] at h1;cases h1
 omega
theorem TokOut.no {b:Nat} {s:ByteArray} {k:Nat} {w w':World} {e:Ending} (h:TokOut none b s k w e w'):w.grownBy w' (some b)∧∃ t:Tk,e = .returned (.tuple #[.agg #[.int .i64 t.kind,.string t.text,.int .i64 t.num,.string t.sh,.int .i64 t.c,.int .i64 t.r,.bool t.ac,.bool t.ar,.int .i64 t.pos],.bool false]):=by
 rcases h.lit with ⟨h1,⟨t,n,h2,_⟩ | ⟨_,h2⟩⟩
 · cases h2
 · exact ⟨h1,h2⟩
theorem TokOut.yes {b:Nat} {s:ByteArray} {k n:Nat} {t:Tk} {w w':World} {e:Ending} (h:TokOut (some (t,n)) b s k w e w'):w.grownBy w' (some b)∧e = .returned (.tuple #[.agg #[.int .i64 t.kind,.string t.text,.int .i64 t.num,.string t.sh,.int .i64 t.c,.int .i64 t.r,.bool t.ac,.bool t.ar,.int .i64 t.pos],.bool true])∧LxAt w' b s (k+n):=by
 rcases h.lit with ⟨h1,⟨t',n',h2,h3,h4⟩ | ⟨h2,_⟩⟩
 · injection h2 with h2;injection h2 with h2 h5;subst h2;subst h5;exact ⟨h1,h3,h4⟩
 · cases h2
def Lexed (s:ByteArray) (w:World) (e:Ending) (w':World):Prop :=
 Below w.heap.size w w'∧((300<s.size∧e = .returned (.tuple #[.slice none 0 0,.int .i64 4]))∨(s.size≤300∧lexL (sb s)=none∧e = .returned (.tuple #[.slice none 0 0,.int .i64 5])) ∨
  (s.size≤300∧∃ ts v,lexL (sb s)=some ts∧e = .returned (.tuple #[v,.int .i64 0])∧OwnT w' w.heap.size v ts))
set_option maxRecDepth 100000 in
set_option maxHeartbeats 400000 in
theorem lex_large (s:ByteArray) (w:World) (h:300<s.size):Calls Tryz.prog 57 #[.string s] w (Lexed s w):=by
 have hi:(300:Int)<(s.size:Int):=by omega
 go_enter Tryz.func57,Tryz.ntmps57
 go_wp2_with fail
 go_ret2
 exact ⟨Below.refl _ _,.inl ⟨h,rfl⟩⟩
set_option maxRecDepth 100000 in
set_option maxHeartbeats 4000000 in
theorem lex_any (s:ByteArray) (w:World) (hv:Vars w):Calls Tryz.prog 57 #[.string s] w (Lexed s w):=by
 by_cases hbig:300<s.size
 · exact lex_large s w hbig
 have hi:¬ (300:Int)<(s.size:Int):=by omega
 have hs0:s.size≤1000000:=by omega
 obtain ⟨eb,hEB,EL⟩:=Elem.tok
 have HEL:=Lib.hid EL;clear EL
 have hb2:=hv.lt
 have HV:=Lib.hid hv;clear hv
 have hsk:=skipBlanks_any w.heap.size s 0 _ (LxAt.new w s) hs0 (by omega)
 rw [Nat.zero_add] at hsk
 obtain ⟨p0,hp0⟩:∃ p0,((restL s 0).takeWhile isBl).length=p0:=⟨_,rfl⟩
 rw [hp0] at hsk
 have HSK:=Lib.hid hsk;clear hsk
 have hp0le:=skip_le s 0 (Nat.zero_le _)
 rw [Nat.zero_add,hp0] at hp0le
 have HL0:=Lib.hid (show lexL (sb s)=(lexP s p0).map (([]:List Tk) ++ ·) by
  have:=lexP_skip s p0 0 (by rw [← hp0];exact span_all _ _) (by omega)
  rw [lexL_P,this,Nat.zero_add];cases lexP s p0 <;> rfl)
 have HH0:=Lib.hid (fun h=>skip_head s 0 p0 (by rw [hp0];omega) h)
 clear hp0
 go_enter Tryz.func57,Tryz.ntmps57
 go_wp2_with (go_at_call 75;((with_reducible refine HSK.out.mono ?_);rintro e w1 ⟨h1,rfl,h2⟩;have HB:=Lib.hid (below_of_grownBy ((Below.refl _ _).alloc (Nat.le_refl _) _) h1 (by simp) (Nat.le_refl _));have HR:=Lib.hid h2;clear h1 h2))
 go_loopw [5] (fun v wr=>∃ (p:Nat) (acc:List Tk),p≤s.size∧acc.length≤p∧Hid (lexL (sb s)=(lexP s p).map (acc ++ ·))∧Hid (∀ h:p<s.size,¬ ((s[p].toNat:Nat):Int)=32)∧Hid (LxAt wr w.heap.size s p)∧Hid (OwnT wr (w.heap.size+1) v acc)∧Hid (Below w.heap.size w wr))
  (fun _ wr=>lxm w.heap.size s.size wr)
 case atStart=>exact ⟨p0,[],hp0le,by simp,HL0,HH0,HR,Lib.hid (Own.nil _ _ _ _),HB⟩
 case round =>
  clear HL0 HH0 HSK HR HB
  obtain ⟨p,acc,hps,hal,HL,HH,HR,HO,HB⟩:=hrel
  obtain ⟨c0,c1⟩:=HR.out.facts
  have HME:=Lib.hid (HR.out.lxm s.size)
  by_cases hlt:p<s.size
  · have hlt2:(p:Int)<(s.size:Int):=by omega
    have hT:=token_any w.heap.size s p wr HR.out hs0 hlt hb2 (HV.out.below HB.out)
    cases hq:tokT (restL s p) with
    | none =>
      rw [hq] at hT
      have HT:=Lib.hid hT;clear hT
      have HN:=Lib.hid (show lexL (sb s)=none by rw [HL.out,lexP_none s p hlt (HH.out hlt) hq];rfl)
      clear hq
      go_wp2_with (go_at_call 76;((with_reducible refine HT.out.mono ?_);intro e w1 he;obtain ⟨h1,t,rfl⟩:=TokOut.no he;have HB1:=Lib.hid (below_of_grownBy HB.out h1 HB.out.size (Nat.le_refl _));clear h1 he))
      go_ret2
      exact ⟨HB1.out.alloc HB1.out.size _,.inr (.inl ⟨by omega,HN.out,rfl⟩)⟩
    | some q =>
      obtain ⟨t0,n0⟩:=q
      rw [hq] at hT
      obtain ⟨t1,ht1⟩:∃ t1,t0.goto p=t1:=⟨_,rfl⟩
      have hT:Calls Tryz.prog 76 #[.pointer (some ⟨w.heap.size,0,none⟩)] wr (TokOut (some (t1,n0)) w.heap.size s p wr):=by rw [← ht1];exact hT
      have HT:=Lib.hid hT;clear hT
      have hn0:=tokT_le _ _ _ hq
      rw [length_restL] at hn0
      have HL1:=Lib.hid (show lexL (sb s)=(lexP s (p+n0)).map ((acc++[t1]) ++ ·) by
       rw [← ht1,HL.out,lexP_tok s p hlt (HH.out hlt) t0 n0 hq,Option.map_map]
       congr 1;funext l;simp)
      clear hq HL HH ht1
      have hlt6:p+n0≤s.size:=by omega
      go_upto_region 11 with (go_at_call 76;((with_reducible refine HT.out.mono ?_);intro e w1 he;obtain ⟨h1,rfl,h2⟩:=TokOut.yes he;have HB1:=Lib.hid (below_of_grownBy HB.out h1 HB.out.size (Nat.le_refl _));have HO1:=Lib.hid (Own.other HO.out h1 (Nat.lt_succ_self _));have HR1:=Lib.hid h2;clear h1 h2 he))
      have hB3:Below w1.heap.size w1 (w1.alloc (.cells #[.int .i64 t1.kind,.string t1.text,.int .i64 t1.num,.string t1.sh,.int .i64 t1.c,.int .i64 t1.r,.bool t1.ac,.bool t1.ar,.int .i64 t1.pos] 125)):=(Below.refl _ _).alloc (Nat.le_refl _) _
      have HN3:TkAt (w1.alloc (.cells #[.int .i64 t1.kind,.string t1.text,.int .i64 t1.num,.string t1.sh,.int .i64 t1.c,.int .i64 t1.r,.bool t1.ac,.bool t1.ar,.int .i64 t1.pos] 125)) w1.heap.size t1:=TkAt.new w1 t1
      have HR3:=Lib.hid (HR1.out.below hB3 HR1.out.lt)
      have HO3:=Lib.hid (HO1.out.alloc (.cells #[.int .i64 t1.kind,.string t1.text,.int .i64 t1.num,.string t1.sh,.int .i64 t1.c,.int .i64 t1.r,.bool t1.ac,.bool t1.ar,.int .i64 t1.pos] 125))
      have HB3:=Lib.hid (HB1.out.trans (hB3.mono HB1.out.size))
      clear hB3 HT HB1 HO1 HR1 HB HO HR c0 c1
      generalize w1.alloc (.cells #[.int .i64 t1.kind,.string t1.text,.int .i64 t1.num,.string t1.sh,.int .i64 t1.c,.int .i64 t1.r,.bool t1.ac,.bool t1.ar,.int .i64 t1.pos] 125)=w3 at HR3 HN3 HO3 HB3 ⊢
      obtain ⟨y0,y1,y2,y3,y4,y5,y6,y7,y8⟩:=HN3.cells
      clear HN3
      go_upto_region 7 with (at_builtin;refine wpList_app HEL.out encTk rfl (.tmp 32) (.tmp 34) rfl (w.heap.size+1) _ _ rfl (HO3.out.alloc _) ⟨_,0,none⟩ 1 1 [t1] rfl rfl ?_ ?_ ?_ ?_ ?_;exact cells_new _ _ _ rfl;exact Nat.le_trans (Nat.mul_le_mul_left _ hEB) (by omega);(unfold maxLen;omega);(have:=HR3.out.lt;simp <;> omega);intro v' wz h1 h2;have HOz:=Lib.hid h1;have HBz:=Lib.hid (((Below.refl (w.heap.size+1) _).alloc (by have:=HR3.out.lt;omega) _).trans h2);clear h1 h2)
      have HR4:=Lib.hid (HR3.out.below HBz.out (Nat.lt_succ_self _))
      have HB4:=Lib.hid (HB3.out.trans (HBz.out.mono (Nat.le_succ _)))
      have hsk2:=skipBlanks_any w.heap.size s (p+n0) wz HR4.out hs0 hlt6
      obtain ⟨q,hq⟩:∃ q,p+n0+((restL s (p+n0)).takeWhile isBl).length=q:=⟨_,rfl⟩
      rw [hq] at hsk2
      have HSK2:=Lib.hid hsk2;clear hsk2
      have hqle:=skip_le s (p+n0) hlt6
      rw [hq] at hqle
      have HL5:=Lib.hid (show lexL (sb s)=(lexP s q).map ((acc++[t1]) ++ ·) by
       rw [HL1.out, ← hq]
       have:=lexP_skip s _ (p+n0) (span_all isBl _) (by rw [hq];exact hqle)
       rw [this])
      have HH5:=Lib.hid (fun h=>skip_head s (p+n0) q hq h)
      have hpq:p<q:=by omega
      clear hq HL1
      go_wp2_with (go_at_call 75;((with_reducible refine HSK2.out.mono ?_);rintro e w5 ⟨h1,rfl,h2⟩;have HB5:=Lib.hid (below_of_grownBy HB4.out h1 HB4.out.size (Nat.le_refl _));have HO5:=Lib.hid (Own.other HOz.out h1 (Nat.lt_succ_self _));have HR5:=Lib.hid h2;clear h1 h2))
      go_roundw
      case rel=>exact ⟨q,acc++[t1],hqle,by simp;omega,HL5,HH5,HR5,HO5,HB5⟩
      case measure =>
       have h1:=HR5.out.lxm s.size
       rw [HME.out,h1];omega
  · have hlt2:¬ (p:Int)<(s.size:Int):=by omega
    have HN:=Lib.hid (show lexL (sb s)=some (acc++[Tk.zero.goto p]) by rw [HL.out,lexP_end s p (by omega)];rfl)
    clear HL HH
    go_wp2_with (at_builtin;refine wpList_app HEL.out encTk rfl (.tmp 36) (.tmp 42) rfl (w.heap.size+1) _ _ rfl (HO.out.alloc _) ⟨_,0,none⟩ 1 1 [Tk.zero.goto p] rfl rfl ?_ ?_ ?_ ?_ ?_;exact cells_new _ _ _ rfl;exact Nat.le_trans (Nat.mul_le_mul_left _ hEB) (by omega);(unfold maxLen;omega);(have:=HR.out.lt;simp <;> omega);intro v' wz h1 h2;have HOz:=Lib.hid h1;have HBz:=Lib.hid (((Below.refl (w.heap.size+1) _).alloc (by have:=HR.out.lt;omega) _).trans h2);clear h1 h2)
    go_ret2
    exact ⟨HB.out.trans (HBz.out.mono (by have:=HR.out.lt;omega)),.inr (.inr ⟨by omega,_,_,HN.out,rfl,HOz.out.mono (by omega)⟩)⟩
theorem OwnT.cell {w:World} {base g n cap:Nat} {ts:List Tk} (h:OwnT w base (.slice (some ⟨g,0,none⟩) n cap) ts) (i:Nat) (t:Tk) (hi:ts[i]? = some t) (j:Nat) (hj:j<9):w.cell? ⟨g,i*9+j,none⟩=(tokA t).toList[j]? := by
 have hl:(tokA t).toList.length=9:=rfl
 have hu:(encTk.f t)[j]? = some ((tokA t).toList[j]'(by omega)):=List.getElem?_eq_getElem _
 have:=Own.cells h (i*9+j) _ (by rw [encTk.at ts i j t hi hj];exact hu)
 rw [this];exact hu.symm
theorem lex_is (s:ByteArray) (w:World) (hv:Vars w) (hs:s.size≤300) (ts:List Tk) (hl:lexL (sb s)=some ts) (hne:0<ts.length) :
 Calls Tryz.prog 57 #[.string s] w fun e w'=>Below w.heap.size w w'∧∃ g cap,e = .returned (.tuple #[.slice (some ⟨g,0,none⟩) ts.length cap,.int .i64 0])∧w.heap.size≤g∧g<w'.heap.size∧OwnT w' w.heap.size (.slice (some ⟨g,0,none⟩) ts.length cap) ts:=by
 refine (lex_any s w hv).mono ?_
 rintro e w' ⟨hb,h | ⟨_,h,_⟩ | ⟨_,ts',v,h1,rfl,h2⟩⟩
 · omega
 · rw [hl] at h;cases h
 · rw [hl] at h1;injection h1 with h1;subst h1
   obtain ⟨g,cap,rfl,h3,h4,_,_⟩:=Own.some h2 hne
   exact ⟨hb,g,cap,rfl,h3,h4,h2⟩
theorem lex_isnt (s:ByteArray) (w:World) (hv:Vars w) (hs:s.size≤300) (hl:lexL (sb s)=none) :
 Calls Tryz.prog 57 #[.string s] w fun e w'=>Below w.heap.size w w'∧e = .returned (.tuple #[.slice none 0 0,.int .i64 5]):=by
 refine (lex_any s w hv).mono ?_
 rintro e w' ⟨hb,h | ⟨_,_,rfl⟩ | ⟨_,ts',v,h1,_⟩⟩
 · omega
 · exact ⟨hb,rfl⟩
 · rw [hl] at h1;cases h1
structure Nv where
 n:Nd
 g:Option (Nat × Nat)
def Nv.kv (v:Nv):Value:=match v.g with
 | none => .slice none 0 0
 | some (g,c) => .slice (some ⟨g,0,none⟩) v.n.kids.length c
def nodA (n:Nd) (k:Value):Array Value:=#[.int .i64 n.kind,.int .i64 n.num,.string n.text,.string n.ref.sh,.int .i64 n.ref.c,.int .i64 n.ref.r,.bool n.ref.ac,.bool n.ref.ar,.string n.zto.sh,.int .i64 n.zto.c,.int .i64 n.zto.r,.bool n.zto.ac,.bool n.zto.ar,k]
theorem Nv.one (v:Nv):v.kv.oneCell'=true:=by
 unfold Nv.kv;split <;> rfl
theorem nod_one (n:Nd) (k:Value) (hk:k.oneCell'=true):∀ u∈(nodA n k).toList,u.oneCell'=true:=by
 intro v hv
 simp only [nodA,List.mem_cons,List.not_mem_nil,or_false] at hv
 rcases hv with rfl | rfl | rfl | rfl | rfl | rfl | rfl | rfl | rfl | rfl | rfl | rfl | rfl | rfl
 all_goals first | rfl | exact hk
theorem cells14 {w w1:World} {pb q:Nat} {n:Nd} {k:Value} (hb:Below w.heap.size w w1) (hp:pb<w.heap.size) (hc:∀ j,j<14→w.cell? ⟨pb,q+j,none⟩=(nodA n k).toList[j]?) :
 w1.cell? ⟨pb,q,none⟩=some (.int .i64 n.kind)∧w1.cell? ⟨pb,q+1,none⟩=some (.int .i64 n.num)∧w1.cell? ⟨pb,q+2,none⟩=some (.string n.text)∧w1.cell? ⟨pb,q+3,none⟩=some (.string n.ref.sh)∧w1.cell? ⟨pb,q+4,none⟩=some (.int .i64 n.ref.c)∧w1.cell? ⟨pb,q+5,none⟩=some (.int .i64 n.ref.r)∧w1.cell? ⟨pb,q+6,none⟩=some (.bool n.ref.ac)∧w1.cell? ⟨pb,q+7,none⟩=some (.bool n.ref.ar)∧w1.cell? ⟨pb,q+8,none⟩=some (.string n.zto.sh)∧w1.cell? ⟨pb,q+9,none⟩=some (.int .i64 n.zto.c)∧w1.cell? ⟨pb,q+10,none⟩=some (.int .i64 n.zto.r)∧w1.cell? ⟨pb,q+11,none⟩=some (.bool n.zto.ac)∧w1.cell? ⟨pb,q+12,none⟩=some (.bool n.zto.ar)∧w1.cell? ⟨pb,q+13,none⟩=some k:=by
 have h:=fun j (hj:j<14)=>(hb.cell (p:=⟨pb,q+j,none⟩) hp).trans (hc j hj)
 exact ⟨h 0 (by decide),h 1 (by decide),h 2 (by decide),h 3 (by decide),h 4 (by decide),h 5 (by decide),h 6 (by decide),h 7 (by decide),h 8 (by decide),h 9 (by decide),h 10 (by decide),h 11 (by decide),h 12 (by decide),h 13 (by decide)⟩
def encNv:Enc Nv 14:={ f:=fun v=>(nodA v.n v.kv).toList,len:=fun _=>rfl,one:=fun v u hu=>nod_one _ _ v.one u hu }
def NodV (w:World) (lo:Nat) (nv:Value) (vs:List Nv):Prop:=Own encNv 100 w lo nv vs∧∀ v∈vs,Own (encInt .i64) 3 w lo v.kv v.n.kids
theorem NodV.keep {w w':World} {lo:Nat} {nv:Value} {vs:List Nv} (h:NodV w lo nv vs) (hk:∀ g,lo≤g→g<w.heap.size→w'.heap[g]? = w.heap[g]?):NodV w' lo nv vs :=
 ⟨h.1.keep fun g a b _=>hk g a b,fun v hv=>(h.2 v hv).keep fun g a b _=>hk g a b⟩
theorem NodV.nil (w:World) (lo:Nat):NodV w lo (.slice none 0 0) []:=⟨Own.nil _ _ _ _,fun v hv=>absurd hv (by simp)⟩
def NodeRow (w:World) (k:Nat):Prop:=∃ cur fr,w.heap[k]? = some (.cells cur 100 fr)
structure Fr (w w':World) (b:Nat):Prop where
 os:w'.os=w.os
 tape:w'.tape=w.tape
 output:w'.output=w.output
 size:w.heap.size≤w'.heap.size
 block:∀ k,k<w.heap.size→k≠b→(k<b∨¬ NodeRow w k)→w'.heap[k]? = w.heap[k]?
theorem Fr.refl (w:World) (b:Nat):Fr w w b:=⟨rfl,rfl,rfl,Nat.le_refl _,fun _ _ _ _=>rfl⟩
theorem Fr.trans {w w1 w2:World} {b:Nat} (h:Fr w w1 b) (k:Fr w1 w2 b):Fr w w2 b :=
 ⟨k.os.trans h.os,k.tape.trans h.tape,k.output.trans h.output,Nat.le_trans h.size k.size,fun j hj hb hr=>by
  have h1:=h.block j hj hb hr
  rw [k.block j (Nat.lt_of_lt_of_le hj h.size) hb (hr.imp id fun hn ⟨cur,fr,e⟩=>hn ⟨cur,fr,by rw [← h1];exact e⟩)]
  exact h1⟩
theorem Fr.below {w w1 w2:World} {b:Nat} (h:Fr w w1 b) (k:Below w1.heap.size w1 w2):Fr w w2 b :=
 ⟨k.os.trans h.os,k.tape.trans h.tape,k.output.trans h.output,Nat.le_trans h.size k.size,fun j hj hb hr=>by
  rw [k.block j (Nat.lt_of_lt_of_le hj h.size)];exact h.block j hj hb hr⟩
theorem Fr.of {w w1:World} (b:Nat) (k:Below w.heap.size w w1):Fr w w1 b:=(Fr.refl w b).below k
theorem Fr.setCell {w w1:World} {b:Nat} (h:Fr w w1 b) (o:Nat) (v:Value):Fr w (w1.setCell ⟨b,o,none⟩ v) b :=
 ⟨h.os,h.tape,h.output,by simpa using h.size,fun j hj hb hr=>by
  rw [Below.heap_setCell _ _ _ _ (by intro e;exact hb e)];exact h.block j hj hb hr⟩
theorem Fr.drew {w w1:World} {b:Nat} (h:Fr w w1 b):Fr w w1.drew b:=⟨h.os,h.tape,h.output,h.size,h.block⟩
theorem Fr.row {w w1 w2:World} {b:Nat} {r:Option Nat} (h:Fr w w1 b) (k:w1.grownBy w2 r) (hr:∀ g,r=some g→b<g∧(w.heap.size≤g∨NodeRow w1 g)):Fr w w2 b :=
 ⟨k.os.trans h.os,k.tape.trans h.tape,k.output.trans h.output,Nat.le_trans h.size k.size,fun j hj hb hc=>by
  have h1:=h.block j hj hb hc
  rw [k.block j (Nat.lt_of_lt_of_le hj h.size) (by
   intro e
   obtain ⟨h2,h3⟩:=hr j e.symm
   rcases h3 with h3 | ⟨cur,fr,h3⟩
   · omega
   · rcases hc with hc | hc
     · omega
     · exact hc ⟨cur,fr,by rw [← h1];exact h3⟩)]
  exact h1⟩
theorem Fr.toBelow {w w':World} {B b:Nat} (h:Fr w w' b) (hb:B≤b) (hB:B≤w.heap.size):Below B w w' :=
 ⟨h.os,h.tape,h.output,h.size,fun j hj=>h.block j (by omega) (by omega) (.inl (by omega))⟩
theorem Own.fr {α : Type} {size:Nat} {E:Enc α size} {e:TypeId} {w w':World} {base b:Nat} {v:Value} {xs:List α} (h:Own E e w base v xs) (hf:Fr w w' b) (hb:b<base) (he:e≠100):Own E e w' base v xs:=by
 refine ⟨h.1, ?_⟩
 rcases h.2 with h | ⟨g,cap,cur,h1,h2,h3,h4⟩
 · exact .inl h
 · refine .inr ⟨g,cap,cur,h1,h2, ?_,h4⟩
   rw [hf.block g (Array.getElem?_eq_some_iff.1 h3).1 (by omega) (.inr (by
    rintro ⟨c,fr,e2⟩
    rw [h3] at e2;injection e2 with e2;injection e2 with _ e2;exact he e2))];exact h3
def TokV (w:World) (b:Nat) (tv:Value) (ts:List Tk):Prop:=∃ g cap,tv = .slice (some ⟨g,0,none⟩) ts.length cap∧g<b∧OwnT w 0 tv ts
def opL3:List (ByteArray × Nat × Int):=[(⟨#[61]⟩,0,9),(⟨#[60,62]⟩,0,10),(⟨#[60]⟩,0,11),(⟨#[60,61]⟩,0,12),(⟨#[62]⟩,0,13),(⟨#[62,61]⟩,0,14),(⟨#[38]⟩,1,15),(⟨#[43]⟩,2,16),(⟨#[45]⟩,2,17),(⟨#[42]⟩,3,18),(⟨#[47]⟩,3,19)]
def opA:Array Value:=(opL3.flatMap fun p=>[.string p.1,.int .i64 (p.2.1:Int),.int .i64 p.2.2]).toArray
def OpV (w:World):Prop:=∃ ty fr,w.heap[(2:Nat)]? = some (.cells opA ty fr)
theorem OpV.lt {w:World} (h:OpV w):2<w.heap.size:=by obtain ⟨_,_,h⟩:=h;exact (Array.getElem?_eq_some_iff.1 h).1
theorem OpV.keep {w w':World} (h:OpV w) (hk:w'.heap[(2:Nat)]? = w.heap[(2:Nat)]?):OpV w':=by obtain ⟨ty,fr,h⟩:=h;exact ⟨ty,fr,by rw [hk];exact h⟩
theorem OpV.below {w w':World} (h:OpV w) (hb:Below w.heap.size w w'):OpV w':=h.keep (hb.block _ h.lt)
structure Ps (w:World) (b:Nat) (tv:Value) (ts:List Tk) (p deep:Nat) (nv:Value) (vs:List Nv):Prop where
 cell:w.heap[b]? = some (.cells #[tv,.int .i64 (p:Int),.int .i64 (deep:Int),nv] 122)
 toks:TokV w b tv ts
 nodes:NodV w (b+1) nv vs
 ops:OpV w
 lt:p<ts.length
 low:max 4 2<b
 fit:Fit ts
 few:ts.length≤1000
 cnt:vs.length≤p
 nest:deep≤12
section
variable {w:World} {b:Nat} {tv:Value} {ts:List Tk} {p deep:Nat} {nv:Value} {vs:List Nv}
theorem Ps.blt (h:Ps w b tv ts p deep nv vs):b<w.heap.size:=(Array.getElem?_eq_some_iff.1 h.cell).1
theorem Ps.below {w':World} (h:Ps w b tv ts p deep nv vs) (hb:Below w.heap.size w w'):Ps w' b tv ts p deep nv vs:=by
 have hl:=h.blt
 refine ⟨by rw [hb.block b hl];exact h.cell, ?_,h.nodes.keep fun g _ hg=>hb.block g hg,h.ops.below hb,h.lt,h.low,h.fit,h.few,h.cnt,h.nest⟩
 obtain ⟨g,cap,h1,h2,h3⟩:=h.toks
 exact ⟨g,cap,h1,h2,h3.keep fun g _ hg _=>hb.block g hg⟩
theorem Ps.facts (h:Ps w b tv ts p deep nv vs):w.cell? ⟨b,0,none⟩=some tv∧w.cell? ⟨b,1,none⟩=some (.int .i64 (p:Int))∧w.cell? ⟨b,2,none⟩=some (.int .i64 (deep:Int))∧w.cell? ⟨b,3,none⟩=some nv :=
 ⟨by rw [cell_of_row w b 0 _ _ _ h.cell];rfl,by rw [cell_of_row w b 1 _ _ _ h.cell];rfl,by rw [cell_of_row w b 2 _ _ _ h.cell];rfl,by rw [cell_of_row w b 3 _ _ _ h.cell];rfl⟩
theorem Ps.frozen (h:Ps w b tv ts p deep nv vs) (j:Nat):w.frozen? ⟨b,j,none⟩=false:=frozen_of_row w b j _ _ h.cell
theorem TokV.set (h:TokV w b tv ts) (o:Nat) (v:Value):TokV (w.setCell ⟨b,o,none⟩ v) b tv ts:=by
 obtain ⟨g,cap,h1,h2,h3⟩:=h
 refine ⟨g,cap,h1,h2,h3.keep fun j _ _ hj=>Below.heap_setCell _ _ _ _ ?_⟩
 rw [h1] at hj;injection hj with hj
 show j≠b
 have:g=j:=hj
 omega
theorem NodV.set {c:Nat} (h:NodV w (b+1) nv vs) (hc:c<b+1) (o:Nat) (v:Value):NodV (w.setCell ⟨c,o,none⟩ v) (b+1) nv vs :=
 h.keep fun j hj _=>Below.heap_setCell _ _ _ _ (by show j≠c;omega)
theorem OpV.set (h:OpV w) (hb:max 4 2<b) (o:Nat) (v:Value):OpV (w.setCell ⟨b,o,none⟩ v):=h.keep (Below.heap_setCell _ _ _ _ (by show 2≠b;omega))
theorem Ps.setP (h:Ps w b tv ts p deep nv vs) (m:Nat) (hm:m<ts.length) (hp:p≤m):Ps (w.setCell ⟨b,1,none⟩ (.int .i64 (m:Int))) b tv ts m deep nv vs :=
 ⟨by rw [heap_setCell_same w b 1 _ _ _ h.cell];rfl,h.toks.set _ _,h.nodes.set (by omega) _ _,h.ops.set h.low _ _,hm,h.low,h.fit,h.few,by have:=h.cnt;omega,h.nest⟩
theorem Ps.next (h:Ps w b tv ts p deep nv vs) (hm:p+1<ts.length):Ps (w.setCell ⟨b,1,none⟩ (.int .i64 ((p:Int)+1))) b tv ts (p+1) deep nv vs:=h.setP (p+1) hm (by omega)
theorem Ps.setD (h:Ps w b tv ts p deep nv vs) (m:Nat) (hm:m≤12):Ps (w.setCell ⟨b,2,none⟩ (.int .i64 (m:Int))) b tv ts p m nv vs :=
 ⟨by rw [heap_setCell_same w b 2 _ _ _ h.cell];rfl,h.toks.set _ _,h.nodes.set (by omega) _ _,h.ops.set h.low _ _,h.lt,h.low,h.fit,h.few,h.cnt,hm⟩
theorem Ps.drew (h:Ps w b tv ts p deep nv vs):Ps w.drew b tv ts p deep nv vs:=⟨h.cell,h.toks,h.nodes,h.ops,h.lt,h.low,h.fit,h.few,h.cnt,h.nest⟩
theorem Ps.tok (h:Ps w b tv ts p deep nv vs):∃ g cap t,tv = .slice (some ⟨g,0,none⟩) ts.length cap∧ts[p]? = some t∧ts.drop p=t :: ts.drop (p+1)∧g<w.heap.size∧w.cell? ⟨g,p*9,none⟩=some (.int .i64 t.kind)∧w.cell? ⟨g,p*9+1,none⟩=some (.string t.text)∧w.cell? ⟨g,p*9+2,none⟩=some (.int .i64 t.num)∧w.cell? ⟨g,p*9+3,none⟩=some (.string t.sh)∧w.cell? ⟨g,p*9+4,none⟩=some (.int .i64 t.c)∧w.cell? ⟨g,p*9+5,none⟩=some (.int .i64 t.r)∧w.cell? ⟨g,p*9+6,none⟩=some (.bool t.ac)∧w.cell? ⟨g,p*9+7,none⟩=some (.bool t.ar)∧w.cell? ⟨g,p*9+8,none⟩=some (.int .i64 t.pos):=by
 obtain ⟨g,cap,h1,h2,h3⟩:=h.toks
 have hl:=h.lt
 rw [h1] at h3
 have hc:=fun j hj=>OwnT.cell h3 p _ (List.getElem?_eq_getElem hl) j hj
 exact ⟨g,cap,ts[p],h1,List.getElem?_eq_getElem hl,List.drop_eq_getElem_cons hl,by have:=h.blt;omega,hc 0 (by omega),hc 1 (by omega),hc 2 (by omega),hc 3 (by omega),hc 4 (by omega),hc 5 (by omega),hc 6 (by omega),hc 7 (by omega),hc 8 (by omega)⟩
end
theorem Fit.next {ts:List Tk} {p:Nat} {t:Tk} (h:Fit ts) (ht:ts[p]? = some t) (hk:t.kind≠0):p+1<ts.length:=by
 obtain ⟨body,e,rfl,he,_⟩:=h
 have hp:=(List.getElem?_eq_some_iff.1 ht).1
 rw [List.length_append,List.length_singleton] at hp ⊢
 rcases Nat.lt_or_ge p body.length with h1 | h1
 · omega
 · exfalso
   rw [List.getElem?_append_right h1,show p - body.length=0 from by omega] at ht
   simp at ht;subst ht;exact hk he
def psm (b n:Nat) (w:World):Nat:=n - (match w.cell? ⟨b,1,none⟩ with | some (.int _ m)=>m.toNat | _=>0)
theorem Ps.psm {w:World} {b:Nat} {tv:Value} {ts:List Tk} {p deep:Nat} {nv:Value} {vs:List Nv} (h:Ps w b tv ts p deep nv vs) (n:Nat):psm b n w=n - p:=by
 unfold Go.Proofs.YtnahgpjglooclaaGreatDoor.psm;rw [h.facts.2.1];rfl
theorem res_ptoken:Tryz.f59.results=#[.cell 2 125]:=by kernel_rfl
theorem out_tok1 {w:World} {b:Nat} {t:Tk} (h:TkAt w b t) (fn:Func) (tmps:Array Value) (p:Tmp) (hf:fn.results=#[.cell p 125]) (hp:tmps.getD p undef = .pointer (some ⟨b,0,none⟩)) :
 (results fn tmps).run Tryz.prog w = .ok (.agg (tokA t)) w:=results_cell_row hf tmps w b 125 _ _ _ hp h Tryz.underlying125 rfl tok_size
set_option maxRecDepth 100000 in
set_option maxHeartbeats 800000 in
theorem ptoken_any {w:World} {b:Nat} {tv:Value} {ts:List Tk} {p deep:Nat} {nv:Value} {vs:List Nv} (h:Ps w b tv ts p deep nv vs) (t:Tk) (ht:ts[p]? = some t) :
 Calls Tryz.prog 59 #[.pointer (some ⟨b,0,none⟩)] w fun e w'=>e = .returned (.agg #[.int .i64 t.kind,.string t.text,.int .i64 t.num,.string t.sh,.int .i64 t.c,.int .i64 t.r,.bool t.ac,.bool t.ar,.int .i64 t.pos])∧Below w.heap.size w w':=by
 have hal:Below w.heap.size w (w.alloc (.cells zTok 125)):=(Below.refl _ _).alloc (Nat.le_refl _) _
 have h1:=h.below hal
 obtain ⟨c0,c1,c2,c3⟩:=h1.facts
 obtain ⟨g,cap,t',rfl,ht', -,hg,k0,k1,k2,k3,k4,k5,k6,k7,k8⟩:=h1.tok
 rw [ht] at ht';injection ht' with ht';subst ht'
 have hlt:=h.lt
 have hi1:(0:Int)≤(p:Int):=by omega
 have hi2:(p:Int)<(ts.length:Int):=by omega
 obtain ⟨n,hn⟩:∃ n,ts.length=n:=⟨_,rfl⟩
 rw [hn] at hi2 c0
 have HTK:=TkAt.zero w
 obtain ⟨x0,x1,x2,x3,x4,x5,x6,x7,x8⟩:=HTK.cells
 obtain ⟨f0,f1,f2,f3,f4,f5,f6,f7,f8⟩:=HTK.melts
 have HTK:=Lib.hid HTK
 have HAL:=Lib.hid hal
 clear h h1 hal c2 c3 ht hlt hn
 go_enter Tryz.func59,Tryz.ntmps59
 go_wp2_with fail
 go_region
 go_wp2_with fail
 exact bodyPost_ret (out_tok1 (TkAt.new w t).drew _ _ 2 res_ptoken rfl) rfl ⟨rfl,((Below.refl _ _).alloc (Nat.le_refl _) _).drew⟩
theorem sign_at {s:ByteArray} {ts:List Tk} {p:Nat} {t:Tk} (hd:ts.drop p=t :: ts.drop (p+1)):signIs s (ts.drop p)=(decide (t.kind=5)&&decide (t.text=s)):=by rw [hd];rfl
set_option maxRecDepth 100000 in
set_option maxHeartbeats 800000 in
theorem isSign_any {w:World} {b:Nat} {tv:Value} {ts:List Tk} {p deep:Nat} {nv:Value} {vs:List Nv} (h:Ps w b tv ts p deep nv vs) (s:ByteArray) :
 Calls Tryz.prog 107 #[.pointer (some ⟨b,0,none⟩),.string s] w fun e w'=>e = .returned (.bool (signIs s (ts.drop p)))∧Below w.heap.size w w':=by
 obtain ⟨g,cap,t, -,ht,hd, -⟩:=h.tok
 have HT:=Lib.hid (ptoken_any h t ht)
 have HS:=Lib.hid (sign_at (s:=s) hd)
 clear h ht hd
 go_enter Tryz.func107,Tryz.ntmps107
 go_upto_region 2 with (go_at_call 59;((with_reducible refine HT.out.mono ?_);rintro e w1 ⟨rfl,h1⟩;have HB:=Lib.hid h1;clear h1))
 have hB3:Below w1.heap.size w1 (w1.alloc (.cells #[.int .i64 t.kind,.string t.text,.int .i64 t.num,.string t.sh,.int .i64 t.c,.int .i64 t.r,.bool t.ac,.bool t.ar,.int .i64 t.pos] 125)):=(Below.refl _ _).alloc (Nat.le_refl _) _
 have HN3:TkAt (w1.alloc (.cells #[.int .i64 t.kind,.string t.text,.int .i64 t.num,.string t.sh,.int .i64 t.c,.int .i64 t.r,.bool t.ac,.bool t.ar,.int .i64 t.pos] 125)) w1.heap.size t:=TkAt.new w1 t
 have HB3:=Lib.hid (HB.out.trans (hB3.mono HB.out.size))
 clear hB3 HB
 generalize w1.alloc (.cells #[.int .i64 t.kind,.string t.text,.int .i64 t.num,.string t.sh,.int .i64 t.c,.int .i64 t.r,.bool t.ac,.bool t.ar,.int .i64 t.pos] 125)=w3 at HN3 HB3 ⊢
 obtain ⟨x0,x1,x2,x3,x4,x5,x6,x7,x8⟩:=HN3.cells
 clear HN3
 by_cases h5:t.kind=5
 · have e5:(t.kind == 5)=true:=beq_iff_eq.2 h5
   by_cases hs:t.text=s
   · have hs1:t.text.toList=s.toList:=by rw [hs]
     have HS1:=Lib.hid (show signIs s (ts.drop p)=true by rw [HS.out,decide_eq_true h5,decide_eq_true hs];rfl)
     clear h5 hs
     go_wp2_with fail
     go_ret
     exact ⟨by rw [HS1.out];rfl,HB3.out⟩
   · have HS1:=Lib.hid (show signIs s (ts.drop p)=false by rw [HS.out,decide_eq_true h5,decide_eq_false hs];rfl)
     have HE:=Lib.hid (show (t.text.toList == s.toList)=false from beq_eq_false_iff_ne.2 (text_ne _ _ hs))
     clear h5 hs
     go_wp2_with fail
     go_ret
     exact ⟨by rw [HS1.out];exact ret_bool HE.out,HB3.out⟩
 · have e5:(t.kind == 5)=false:=beq_eq_false_iff_ne.2 h5
   have HS1:=Lib.hid (show signIs s (ts.drop p)=false by rw [HS.out,decide_eq_false h5];rfl)
   clear h5
   go_wp2_with fail
   go_ret
   exact ⟨by rw [HS1.out];rfl,HB3.out⟩
theorem sign_next {w:World} {b:Nat} {tv:Value} {ts:List Tk} {p deep:Nat} {nv:Value} {vs:List Nv} (h:Ps w b tv ts p deep nv vs) {s:ByteArray} (hs:signIs s (ts.drop p)=true):p+1<ts.length:=by
 obtain ⟨g,cap,t, -,ht,hd, -⟩:=h.tok
 rw [sign_at hd,Bool.and_eq_true,decide_eq_true_iff] at hs
 exact h.fit.next ht (by omega)
set_option maxRecDepth 100000 in
set_option maxHeartbeats 400000 in
theorem root_any {w:World} {b:Nat} {tv:Value} {ts:List Tk} {p deep:Nat} {nv:Value} {vs:List Nv} (h:Ps w b tv ts p deep nv vs) (hne:0<vs.length) :
 Calls Tryz.prog 110 #[.pointer (some ⟨b,0,none⟩)] w fun e w'=>e = .returned (.int .i64 ((vs.length:Int) - 1))∧w=w':=by
 obtain ⟨c0,c1,c2,c3⟩:=h.facts
 obtain ⟨g,cap,rfl, -, -, -, -⟩:=Own.some h.nodes.1 hne
 have h1:=h.cnt
 have h2:=h.few
 have h3:=h.lt
 have hw1 : -9223372036854775808≤(vs.length:Int) - 1:=by omega
 have hw2:(vs.length:Int) - 1≤9223372036854775807:=by omega
 obtain ⟨n,hn⟩:∃ n,vs.length=n:=⟨_,rfl⟩
 rw [hn] at c3 hw1 hw2 ⊢
 clear h c0 c1 c2 h1 h2 h3 hne hn
 go_enter Tryz.func110,Tryz.ntmps110
 go_wp2_with fail
 go_ret
 exact ⟨rfl,rfl⟩
set_option maxRecDepth 100000 in
set_option maxHeartbeats 400000 in
theorem ptake_any {w:World} {b:Nat} {tv:Value} {ts:List Tk} {p deep:Nat} {nv:Value} {vs:List Nv} (h:Ps w b tv ts p deep nv vs) (s:ByteArray) :
 Calls Tryz.prog 145 #[.pointer (some ⟨b,0,none⟩),.string s] w fun e w'=>Fr w w' b∧e = .returned (.bool (signIs s (ts.drop p)))∧Ps w' b tv ts (if signIs s (ts.drop p)=true then p+1 else p) deep nv vs:=by
 have HS:=Lib.hid (isSign_any h s)
 have HP:=Lib.hid h
 cases hq:signIs s (ts.drop p)
 · rw [hq] at HS
   clear h hq
   go_enter Tryz.func145,Tryz.ntmps145
   go_wp2_with (go_at_call 107;((with_reducible refine HS.out.mono ?_);rintro e w1 ⟨rfl,h1⟩;have HB:=Lib.hid h1;clear h1))
   go_ret
   exact ⟨Fr.of b HB.out,rfl,HP.out.below HB.out⟩
 · have hnx:=sign_next h hq
   have h2:=h.few
   rw [hq] at HS
   clear h hq
   go_enter Tryz.func145,Tryz.ntmps145
   go_wp2_with (go_at_call 107;((with_reducible refine HS.out.mono ?_);rintro e w1 ⟨rfl,h1⟩;have HB:=Lib.hid h1;have HP1:=Lib.hid (HP.out.below h1);clear h1;obtain ⟨c0,c1,c2,c3⟩:=HP1.out.facts;have f1:=HP1.out.frozen 1))
   go_ret
   exact ⟨(Fr.of b HB.out).setCell _ _,rfl,HP1.out.next hnx⟩
set_option maxRecDepth 100000 in
set_option maxHeartbeats 400000 in
theorem popen_any {w:World} {b:Nat} {tv:Value} {ts:List Tk} {p deep:Nat} {nv:Value} {vs:List Nv} (h:Ps w b tv ts p deep nv vs) (hnx:p+1<ts.length) :
 Calls Tryz.prog 108 #[.pointer (some ⟨b,0,none⟩)] w fun e w'=>Fr w w' b∧((12≤deep∧e = .returned (.int .i64 6))∨(¬ 12≤deep∧e = .returned (.int .i64 0)∧Ps w' b tv ts (p+1) (deep+1) nv vs)):=by
 obtain ⟨c0,c1,c2,c3⟩:=h.facts
 have f1:=h.frozen 1
 have f2:=h.frozen 2
 have hn:=h.nest
 have hf:=h.few
 have HP:=Lib.hid h;clear h
 by_cases hd:12≤deep
 · have e12:((deep:Int) == 12)=true:=by rw [beq_iff_eq];omega
   go_enter Tryz.func108,Tryz.ntmps108
   go_wp2_with fail
   go_ret
   exact ⟨Fr.refl _ _,.inl ⟨hd,rfl⟩⟩
 · have e12:((deep:Int) == 12)=false:=by rw [beq_eq_false_iff_ne];omega
   go_enter Tryz.func108,Tryz.ntmps108
   go_wp2_with fail
   go_ret
   exact ⟨((Fr.refl _ _).setCell _ _).setCell _ _,.inr ⟨hd,rfl,(HP.out.setD (deep+1) (by omega)).next hnx⟩⟩
set_option maxRecDepth 100000 in
set_option maxHeartbeats 400000 in
theorem pclose_any {w:World} {b:Nat} {tv:Value} {ts:List Tk} {p deep:Nat} {nv:Value} {vs:List Nv} (h:Ps w b tv ts p (deep+1) nv vs) :
 Calls Tryz.prog 148 #[.pointer (some ⟨b,0,none⟩)] w fun e w'=>Fr w w' b∧((signIs ⟨#[41]⟩ (ts.drop p)=false∧e = .returned (.int .i64 5))∨(signIs ⟨#[41]⟩ (ts.drop p)=true∧e = .returned (.int .i64 0)∧Ps w' b tv ts (p+1) deep nv vs)):=by
 have HT:=Lib.hid (ptake_any h ⟨#[41]⟩)
 have hn:=h.nest
 clear h
 cases hq:signIs ⟨#[41]⟩ (ts.drop p)
 · rw [hq] at HT
   clear hq
   go_enter Tryz.func148,Tryz.ntmps148
   go_wp2_with (go_at_call 145;((with_reducible refine HT.out.mono ?_);rintro e w1 ⟨h1,rfl,h2⟩;have HF:=Lib.hid h1;clear h1 h2))
   go_ret
   exact ⟨HF.out,.inl ⟨by trivial,rfl⟩⟩
 · rw [hq] at HT
   clear hq
   go_enter Tryz.func148,Tryz.ntmps148
   go_wp2_with (go_at_call 145;((with_reducible refine HT.out.mono ?_);rintro e w1 ⟨h1,rfl,h2⟩;rw [if_pos rfl] at h2;have HF:=Lib.hid h1;have HP1:=Lib.hid h2;obtain ⟨c0,c1,c2,c3⟩:=h2.facts;have f2:=h2.frozen 2;rw [show ((deep+1:Nat):Int)=(deep:Int)+1 from rfl] at c2;clear h1 h2))
   go_ret
   refine ⟨HF.out.setCell _ _,.inr ⟨by trivial,rfl, ?_⟩⟩
   have:=HP1.out.setD deep (by omega)
   first
    | exact this
    | (rw [show (deep:Int)+1 - 1=(deep:Int) from by omega];exact this)
theorem run_index_agg {P:Program} {w:World} (t e:TypeId) (n sz:Nat) (cs:Array Value) (k:Nat) (v:Array Value) (d:TypeDesc) (h:P.underlying t=some (.array n e)) (he:P.underlying e=some d) (hd:(match d with | .struct _ | .array _ _=>true | _=>false)=true)
 (hsz:(P.info? e).map (·.size)=some sz) (hk:k<n) (hv:cs.extract (k*sz) (k*sz+sz)=v):(Instr.index t (.agg cs) (.int .i64 (k:Int))).run P w = .ok (.agg v) w:=by
 have h1:(0:Int)≤(k:Int)∧(k:Int)<(n:Int):=by omega
 cases hq:P.info? e with
 | none=>simp [hq] at hsz
 | some i =>
   have hs':i.size=sz:=by simp [hq] at hsz;exact hsz
   simp [Instr.index,run_underlying h,asIntOf,h1,sizeOf,typeInfo,hq,hs',part,isAgg,run_underlying he,go_sem]
   cases d <;> simp_all
theorem wpList_index_agg {P:Program} {ops:Array Oper} {rest:List Oper} {op:Oper} {a:Act} {w:World} {Q:Exit→Act→World→Prop} (hgd:op.guard=none) (t e:TypeId) (n sz:Nat) (x y:Operand) (ho:op.op = .index t x y)
 (cs:Array Value) (k:Nat) (v:Array Value) (d:TypeDesc) (h:P.underlying t=some (.array n e)) (he:P.underlying e=some d) (hd:(match d with | .struct _ | .array _ _=>true | _=>false)=true)
 (hsz:(P.info? e).map (·.size)=some sz) (hx:a.eval x = .agg cs) (hy:a.eval y = .int .i64 (k:Int)) (hk:k<n) (hv:cs.extract (k*sz) (k*sz+sz)=v)
 (hh:wpList P ops Q rest (a.put op.dst (.agg v)) w):wpList P ops Q (op :: rest) a w :=
 wpList_plain hgd fun _ hK=>by
  unfold Oper.wp execOp
  simp only [ho,hx,hy,Sem.run_bind,Sem.run_pure,Result.andThen_ok,run_index_agg t e n sz cs k v d h he hd hsz hk hv]
  exact hK _ _ hh
theorem find_at {α : Type} (f : α → Bool):∀ (l:List α) (j:Nat) (x : α),l[j]? = some x→f x=true→(∀ q y,q<j→l[q]? = some y→f y=false)→l.find? f=some x
 | [],j,x,h,_,_=>by simp at h
 | a :: l,0,x,h,hx,_=>by simp at h;subst h;rw [List.find?_cons,hx]
 | a :: l,j+1,x,h,hx,hn=>by
   rw [List.find?_cons,hn 0 a (by omega) rfl]
   exact find_at f l j x (by simpa using h) hx fun q y hq hy=>hn (q+1) y (by omega) (by simpa using hy)
theorem find_no {α : Type} (f : α → Bool):∀ (l:List α),(∀ (q:Nat) y,l[q]? = some y→f y=false)→l.find? f=none
 | [],_=>rfl
 | a :: l,h=>by rw [List.find?_cons,h 0 a rfl];exact find_no f l fun q y hy=>h (q+1) y (by simpa using hy)
def opIs (n:Nat) (ts:List Tk) (q:ByteArray × Nat × Int):Bool:=decide (q.2.1=n)&&signIs q.1 ts
theorem find_map (n:Nat) (ts:List Tk):∀ L:List (ByteArray × Nat × Int),(((L.filter fun q=>decide (q.2.1=n)).map fun q=>(q.1,q.2.2)).find? fun p=>signIs p.1 ts)=(L.find? (opIs n ts)).map fun q=>(q.1,q.2.2)
 | []=>rfl
 | a :: L=>by
   have ih:=find_map n ts L
   by_cases h:a.2.1=n
   · rw [List.filter_cons,if_pos (by simpa using h),List.map_cons,List.find?_cons,List.find?_cons]
     have e:opIs n ts a=signIs a.1 ts:=by unfold opIs;rw [decide_eq_true h,Bool.true_and]
     rw [e]
     cases signIs a.1 ts
     · exact ih
     · rfl
   · rw [List.filter_cons,if_neg (by simpa using h),List.find?_cons]
     have e:opIs n ts a=false:=by unfold opIs;rw [decide_eq_false h,Bool.false_and]
     rw [e];exact ih
theorem levelL_eq:∀ n:Nat,n≤3→levelL n=(opL3.filter fun q=>decide (q.2.1=n)).map fun q=>(q.1,q.2.2)
 | 0,_=>rfl
 | 1,_=>rfl
 | 2,_=>rfl
 | 3,_=>rfl
 | n+4,h=>by omega
theorem opK_find (n:Nat) (ts:List Tk) (h:n≤3):opK n ts=match opL3.find? (opIs n ts) with
 | some q=>q.2.2
 | none=>0:=by
 unfold opK
 rw [levelL_eq n h,find_map]
 cases opL3.find? (opIs n ts) <;> rfl
theorem op_at:∀ j:Nat,j<11→∃ q:ByteArray × Nat × Int,opL3[j]? = some q∧opA.extract (j*3) (j*3+3)=#[.string q.1,.int .i64 (q.2.1:Int),.int .i64 q.2.2]∧q.2.1≤3
 | 0,_=>⟨_,rfl,rfl,by decide⟩
 | 1,_=>⟨_,rfl,rfl,by decide⟩
 | 2,_=>⟨_,rfl,rfl,by decide⟩
 | 3,_=>⟨_,rfl,rfl,by decide⟩
 | 4,_=>⟨_,rfl,rfl,by decide⟩
 | 5,_=>⟨_,rfl,rfl,by decide⟩
 | 6,_=>⟨_,rfl,rfl,by decide⟩
 | 7,_=>⟨_,rfl,rfl,by decide⟩
 | 8,_=>⟨_,rfl,rfl,by decide⟩
 | 9,_=>⟨_,rfl,rfl,by decide⟩
 | 10,_=>⟨_,rfl,rfl,by decide⟩
 | j+11,h=>by omega
theorem ops_und:Tryz.prog.underlying 227=some (.array 11 226):=Tryz.underlying227
theorem ops_size:(Tryz.prog.info? 227).map (·.size)=some opA.size:=by kernel_rfl
theorem op_size:(Tryz.prog.info? 226).map (·.size)=some 3:=by kernel_rfl
def OpAt (w:World) (b:Nat) (q:ByteArray × Nat × Int):Prop:=w.heap[b]? = some (.cells #[.string q.1,.int .i64 (q.2.1:Int),.int .i64 q.2.2] 226)
theorem OpAt.new (w:World) (q:ByteArray × Nat × Int):OpAt (w.alloc (.cells #[.string q.1,.int .i64 (q.2.1:Int),.int .i64 q.2.2] 226)) w.heap.size q:=(Go.MapKept.heap_alloc w _).1
theorem OpAt.facts {w:World} {b:Nat} {q:ByteArray × Nat × Int} (h:OpAt w b q):w.cell? ⟨b,0,none⟩=some (.string q.1)∧w.cell? ⟨b,1,none⟩=some (.int .i64 (q.2.1:Int))∧w.cell? ⟨b,2,none⟩=some (.int .i64 q.2.2) :=
 ⟨by rw [cell_of_row w b 0 _ _ _ h];rfl,by rw [cell_of_row w b 1 _ _ _ h];rfl,by rw [cell_of_row w b 2 _ _ _ h];rfl⟩
theorem OpAt.lt {w:World} {b:Nat} {q:ByteArray × Nat × Int} (h:OpAt w b q):b<w.heap.size:=(Array.getElem?_eq_some_iff.1 h).1
theorem OpAt.below {w w':World} {B b:Nat} {q:ByteArray × Nat × Int} (h:OpAt w b q) (hb:Below B w w') (hB:b<B):OpAt w' b q:=by unfold OpAt;rw [hb.block b hB];exact h
set_option maxRecDepth 100000 in
set_option maxHeartbeats 1600000 in
theorem operator_any {w:World} {b:Nat} {tv:Value} {ts:List Tk} {p deep:Nat} {nv:Value} {vs:List Nv} (h:Ps w b tv ts p deep nv vs) (n:Nat) (hn:n≤3) :
 Calls Tryz.prog 144 #[.pointer (some ⟨b,0,none⟩),.int .i64 (n:Int)] w fun e w'=>e = .returned (.tuple #[.int .i64 (opK n (ts.drop p)),.bool (decide (opK n (ts.drop p)≠0))])∧Below w.heap.size w w':=by
 obtain ⟨ty,fr,hrow⟩:=h.ops
 have HP:=Lib.hid h;clear h
 have HROW:=Lib.hid hrow;clear hrow
 have HK:=Lib.hid (opK_find n (ts.drop p) hn)
 go_enter Tryz.func144,Tryz.ntmps144
 go_upto_region 1 with (fail)
 refine wp_region_lit ?_
 refine wpList_load_row rfl 227 (.global 2) rfl 2 rfl ty opA fr _ HROW.out ops_und rfl ops_size ?_
 go_wp2_with fail
 go_loopw [9] (fun i wr=>∃ j:Nat,j≤11∧i = .int .i64 j∧Hid (∀ q y,q<j→opL3[q]? = some y→opIs n (ts.drop p) y=false)∧Hid (Below w.heap.size w wr))
  (fun i _=>11 - (intOf i).toNat)
 case atStart=>exact ⟨0,by omega,rfl,Lib.hid (by intro q _ hq;omega),Lib.hid (Below.refl _ _)⟩
 case round =>
  obtain ⟨j,hj,rfl,HNO,HB⟩:=hrel
  by_cases hlt:j<11
  · have hji:(j:Int)<11:=by omega
    obtain ⟨q,hq1,hq2,hq3⟩:=op_at j hlt
    have HQ1:=Lib.hid hq1;have HQ2:=Lib.hid hq2;clear hq1 hq2
    go_upto_region 3 with (fail)
    refine wp_region_lit ?_
    refine wpList_index_agg rfl 227 226 11 3 (.tmp 8) (.tmp 9) rfl opA j _ _ ops_und Tryz.underlying226 rfl op_size rfl rfl hlt HQ2.out ?_
    go_upto_region 4 with (fail)
    have hB3:Below wr.heap.size wr (wr.alloc (.cells #[.string q.1,.int .i64 (q.2.1:Int),.int .i64 q.2.2] 226)):=(Below.refl _ _).alloc (Nat.le_refl _) _
    have HO:=OpAt.new wr q
    have HB3:=Lib.hid (HB.out.trans (hB3.mono HB.out.size))
    clear hB3 HB HQ2
    generalize wr.alloc (.cells #[.string q.1,.int .i64 (q.2.1:Int),.int .i64 q.2.2] 226)=w3 at HO HB3 ⊢
    generalize wr.heap.size=b3 at HO ⊢
    obtain ⟨x0,x1,x2⟩:=HO.facts
    have HP3:=Lib.hid (HP.out.below HB3.out)
    by_cases hr:q.2.1=n
    · have er:((q.2.1:Int) == (n:Int))=true:=by rw [beq_iff_eq,hr]
      have HS:=Lib.hid (isSign_any HP3.out q.1)
      cases hs:signIs q.1 (ts.drop p)
      · have HNO2:=Lib.hid (show opIs n (ts.drop p) q=false by unfold opIs;rw [hs,Bool.and_false])
        rw [hs] at HS
        clear hs hr
        go_wp2_with (go_at_call 107;((with_reducible refine HS.out.mono ?_);rintro e w4 ⟨rfl,h1⟩;have HB4:=Lib.hid (HB3.out.trans (h1.mono HB3.out.size));clear h1))
        go_roundw
        case rel =>
         refine ⟨j+1,by omega,by go_num,Lib.hid ?_,HB4⟩
         intro q' y hq' hy
         by_cases hqj:q'<j
         · exact HNO.out q' y hqj hy
         · rw [show q'=j from by omega,HQ1.out] at hy;injection hy with hy;subst hy;exact HNO2.out
        case measure=>simp [intOf];omega
      · have HK2:=Lib.hid (show opK n (ts.drop p)=q.2.2 by rw [HK.out,find_at (opIs n (ts.drop p)) opL3 j q HQ1.out (by unfold opIs;rw [hs,decide_eq_true hr];rfl) HNO.out])
        have HK3:=Lib.hid (show q.2.2≠0 from by
         have:∀ q∈opL3,q.2.2≠0:=by decide
         exact this q (List.mem_of_getElem? HQ1.out))
        rw [hs] at HS
        clear hs hr
        have HO3:=Lib.hid HO
        clear x0 x1 x2
        obtain ⟨x0,x1,x2⟩:=HO3.out.facts
        go_upto_region 5 with (go_at_call 107;((with_reducible refine HS.out.mono ?_);rintro e w4 ⟨rfl,h1⟩;have HB4:=Lib.hid (HB3.out.trans (h1.mono HB3.out.size));have HO4:=Lib.hid (HO3.out.below h1 HO3.out.lt);clear h1))
        clear x0 x1 x2
        obtain ⟨x0,x1,x2⟩:=HO4.out.facts
        go_wp2_with fail
        go_ret2
        exact ⟨by rw [HK2.out,decide_eq_true HK3.out];rfl,HB4.out⟩
    · have er:((q.2.1:Int) == (n:Int))=false:=by rw [beq_eq_false_iff_ne];omega
      have HNO2:=Lib.hid (show opIs n (ts.drop p) q=false by unfold opIs;rw [decide_eq_false hr,Bool.false_and])
      clear hr
      go_wp2_with fail
      go_roundw
      case rel =>
       refine ⟨j+1,by omega,by go_num,Lib.hid ?_,HB3⟩
       intro q' y hq' hy
       by_cases hqj:q'<j
       · exact HNO.out q' y hqj hy
       · rw [show q'=j from by omega,HQ1.out] at hy;injection hy with hy;subst hy;exact HNO2.out
      case measure=>simp [intOf];omega
  · have hji:¬ (j:Int)<11:=by omega
    have HK2:=Lib.hid (show opK n (ts.drop p)=0 by
     rw [HK.out,find_no (opIs n (ts.drop p)) opL3 (fun q y hy=>HNO.out q y (by have:=(List.getElem?_eq_some_iff.1 hy).1;have:q<11:=this;omega) hy)])
    go_wp2_with fail
    go_ret2
    exact ⟨by rw [HK2.out];rfl,HB.out⟩
def lvF:Nat→FuncId
 | 0=>77
 | 1=>78
 | 2=>79
 | 3=>80
 | 4=>81
 | _=>82
theorem e_lv:∀ n:Nat,n<6→∀ args (v:World),(callFunc (lvF n) args).run Tryz.prog v = .ok (.enter (lvF n) args) v
 | 0,_=>Go.Proofs.enters_of Tryz.func77 (by kernel_rfl) rfl
 | 1,_=>Go.Proofs.enters_of Tryz.func78 (by kernel_rfl) rfl
 | 2,_=>Go.Proofs.enters_of Tryz.func79 (by kernel_rfl) rfl
 | 3,_=>Go.Proofs.enters_of Tryz.func80 (by kernel_rfl) rfl
 | 4,_=>Go.Proofs.enters_of Tryz.func81 (by kernel_rfl) rfl
 | 5,_=>Go.Proofs.enters_of Tryz.func82 (by kernel_rfl) rfl
 | n+6,h=>by omega
def lvA (b:Nat):Array Value:=#[.func (.func 77) #[.pointer (some ⟨b,0,none⟩)] #[],.func (.func 78) #[.pointer (some ⟨b,0,none⟩)] #[],.func (.func 79) #[.pointer (some ⟨b,0,none⟩)] #[],.func (.func 80) #[.pointer (some ⟨b,0,none⟩)] #[],.func (.func 81) #[.pointer (some ⟨b,0,none⟩)] #[],.func (.func 82) #[.pointer (some ⟨b,0,none⟩)] #[]]
theorem lv_at (b:Nat):∀ n:Nat,n<6→(lvA b)[n]? = some (.func (.func (lvF n)) #[.pointer (some ⟨b,0,none⟩)] #[])
 | 0,_=>rfl
 | 1,_=>rfl
 | 2,_=>rfl
 | 3,_=>rfl
 | 4,_=>rfl
 | 5,_=>rfl
 | n+6,h=>by omega
theorem lv_size (b:Nat):(Tryz.prog.info? 154).map (·.size)=some (lvA b).size:=by kernel_rfl
theorem lv_one (b:Nat):∀ v∈(lvA b).toList,v.oneCell'=true:=by
 intro v hv
 simp only [lvA,List.mem_cons,List.not_mem_nil,or_false] at hv
 rcases hv with rfl | rfl | rfl | rfl | rfl | rfl <;> rfl
theorem below_setRow {B:Nat} {a w:World} {g:Nat} (h:Below B a w) (hg:B≤g) (cs:Array Value):Below B a (w.setRow g cs) :=
 ⟨h.os,h.tape,h.output,by simpa using h.size,fun j hj=>by rw [Go.setRow_other w g j cs (by omega)];exact h.block j hj⟩
set_option maxRecDepth 100000 in
set_option maxHeartbeats 1600000 in
theorem level_enter (b n:Nat) (hn:n<6) (w:World) (R:Ending→World→Prop) (hR:∀ e w',R e w'→∃ c,e = .returned (.int .i64 c)) (hc:∀ w',Below w.heap.size w w'→Calls Tryz.prog (lvF n) #[.pointer (some ⟨b,0,none⟩)] w' R) :
 Calls Tryz.prog 58 #[.pointer (some ⟨b,0,none⟩),.int .i64 (n:Int)] w R:=by
 have HC:=Lib.hid hc;clear hc
 have HRR:=Lib.hid hR;clear hR
 have hca:=e_lv n hn
 have HAT:=Lib.hid (lv_at b n hn)
 have hi1:(0:Int)≤(n:Int):=by omega
 have hi2:(n:Int)<6:=by omega
 obtain ⟨F,hF⟩:∃ F,lvF n=F:=⟨_,rfl⟩
 rw [hF] at HC hca HAT
 have hh:(w.alloc (.cells #[.nilFunc,.nilFunc,.nilFunc,.nilFunc,.nilFunc,.nilFunc] 154)).heap[w.heap.size]? = some (.cells #[.nilFunc,.nilFunc,.nilFunc,.nilFunc,.nilFunc,.nilFunc] 154):=(Go.MapKept.heap_alloc w _).1
 have HB:=Lib.hid (below_setRow ((Below.refl w.heap.size w).alloc (Nat.le_refl _) (.cells #[.nilFunc,.nilFunc,.nilFunc,.nilFunc,.nilFunc,.nilFunc] 154)) (Nat.le_refl _) (lvA b))
 have HW:=Lib.hid (setRow_heap _ w.heap.size _ (lvA b) _ _ hh)
 have HH:=Lib.hid hh
 clear hF hh
 go_enter Tryz.func58,Tryz.ntmps58
 go_upto_region 2 with ((with_reducible refine wpList_store_row (op:=⟨none,.store 154 (.tmp 5) (.tmp 18),_,_,_,_⟩) rfl 154 (.tmp 5) (.tmp 18) rfl w.heap.size 154 _ (lvA b) ?_ ?_ HH.out ?_ (lv_size b) (lv_one b) ?_);rfl;rfl;rfl)
 generalize (w.alloc (.cells #[.nilFunc,.nilFunc,.nilFunc,.nilFunc,.nilFunc,.nilFunc] 154)).setRow w.heap.size (lvA b)=w1 at HB HW ⊢
 have hce:w1.cell? ⟨w.heap.size,n,none⟩=some (.func (.func F) #[.pointer (some ⟨b,0,none⟩)] #[]):=by
  rw [cell_of_row w1 w.heap.size n _ _ _ HW.out];exact HAT.out
 go_wp2_with fail
 refine (HC.out w1 HB.out).mono ?_
 intro e w2 hr
 obtain ⟨c,rfl⟩:=HRR.out e w2 hr
 have HR:=Lib.hid hr;clear hr
 go_wp2_with fail
 exact HR.out
set_option maxRecDepth 100000 in
set_option maxHeartbeats 400000 in
theorem expr_enter (b:Nat) (w:World) (R:Ending→World→Prop) (hR:∀ e w',R e w'→∃ c,e = .returned (.int .i64 c)) (hc:Calls Tryz.prog 106 #[.pointer (some ⟨b,0,none⟩),.int .i64 0] w R) :
 Calls Tryz.prog 77 #[.pointer (some ⟨b,0,none⟩)] w R:=by
 have HC:=Lib.hid hc;have HRR:=Lib.hid hR;clear hc hR
 go_enter Tryz.func77,Tryz.ntmps77
 go_wp2_with (go_at_call 106;((with_reducible refine HC.out.mono ?_);intro e w2 hr;obtain ⟨c,rfl⟩:=HRR.out e w2 hr;have HR:=Lib.hid hr;clear hr))
 exact HR.out
set_option maxRecDepth 100000 in
set_option maxHeartbeats 400000 in
theorem cat_enter (b:Nat) (w:World) (R:Ending→World→Prop) (hR:∀ e w',R e w'→∃ c,e = .returned (.int .i64 c)) (hc:Calls Tryz.prog 106 #[.pointer (some ⟨b,0,none⟩),.int .i64 1] w R) :
 Calls Tryz.prog 78 #[.pointer (some ⟨b,0,none⟩)] w R:=by
 have HC:=Lib.hid hc;have HRR:=Lib.hid hR;clear hc hR
 go_enter Tryz.func78,Tryz.ntmps78
 go_wp2_with (go_at_call 106;((with_reducible refine HC.out.mono ?_);intro e w2 hr;obtain ⟨c,rfl⟩:=HRR.out e w2 hr;have HR:=Lib.hid hr;clear hr))
 exact HR.out
set_option maxRecDepth 100000 in
set_option maxHeartbeats 400000 in
theorem sum_enter (b:Nat) (w:World) (R:Ending→World→Prop) (hR:∀ e w',R e w'→∃ c,e = .returned (.int .i64 c)) (hc:Calls Tryz.prog 106 #[.pointer (some ⟨b,0,none⟩),.int .i64 2] w R) :
 Calls Tryz.prog 79 #[.pointer (some ⟨b,0,none⟩)] w R:=by
 have HC:=Lib.hid hc;have HRR:=Lib.hid hR;clear hc hR
 go_enter Tryz.func79,Tryz.ntmps79
 go_wp2_with (go_at_call 106;((with_reducible refine HC.out.mono ?_);intro e w2 hr;obtain ⟨c,rfl⟩:=HRR.out e w2 hr;have HR:=Lib.hid hr;clear hr))
 exact HR.out
set_option maxRecDepth 100000 in
set_option maxHeartbeats 400000 in
theorem term_enter (b:Nat) (w:World) (R:Ending→World→Prop) (hR:∀ e w',R e w'→∃ c,e = .returned (.int .i64 c)) (hc:Calls Tryz.prog 106 #[.pointer (some ⟨b,0,none⟩),.int .i64 3] w R) :
 Calls Tryz.prog 80 #[.pointer (some ⟨b,0,none⟩)] w R:=by
 have HC:=Lib.hid hc;have HRR:=Lib.hid hR;clear hc hR
 go_enter Tryz.func80,Tryz.ntmps80
 go_wp2_with (go_at_call 106;((with_reducible refine HC.out.mono ?_);intro e w2 hr;obtain ⟨c,rfl⟩:=HRR.out e w2 hr;have HR:=Lib.hid hr;clear hr))
 exact HR.out
theorem lv0:lvF 0=77:=rfl
theorem lv1:lvF 1=78:=rfl
theorem lv2:lvF 2=79:=rfl
theorem lv3:lvF 3=80:=rfl
theorem lv4:lvF 4=81:=rfl
theorem lv5:lvF 5=82:=rfl
theorem level_row (b:Nat) (w:World) (R:Ending→World→Prop) (hR:∀ e w',R e w'→∃ c,e = .returned (.int .i64 c)) (n:Nat) (hn:n≤3) (hc:∀ w',Below w.heap.size w w'→Calls Tryz.prog 106 #[.pointer (some ⟨b,0,none⟩),.int .i64 (n:Int)] w' R) :
 Calls Tryz.prog 58 #[.pointer (some ⟨b,0,none⟩),.int .i64 (n:Int)] w R:=by
 refine level_enter b n (by omega) w R hR fun w' hb => ?_
 have h:=hc w' hb
 obtain ⟨i,hi⟩:∃ i:Int,(n:Int)=i:=⟨_,rfl⟩
 rw [hi] at h
 rcases (show n=0∨n=1∨n=2∨n=3 by omega) with e | e | e | e
 · rw [e,lv0];rw [show i=0 by omega] at h;exact expr_enter b w' R hR h
 · rw [e,lv1];rw [show i=1 by omega] at h;exact cat_enter b w' R hR h
 · rw [e,lv2];rw [show i=2 by omega] at h;exact sum_enter b w' R hR h
 · rw [e,lv3];rw [show i=3 by omega] at h;exact term_enter b w' R hR h
theorem Elem.nod:∃ n,n≤200∧Elem Tryz.prog 70 100 14 n:=⟨136,by omega,Tryz.underlying70,⟨.agg #[.int .i64 0,.int .i64 0,.string ⟨#[]⟩,.string ⟨#[]⟩,.int .i64 0,.int .i64 0,.bool false,.bool false,.string ⟨#[]⟩,.int .i64 0,.int .i64 0,.bool false,.bool false,.slice none 0 0],by kernel_rfl,rfl⟩,by decide⟩
theorem nod_size:(Tryz.prog.info? 100).map (·.size)=some 14:=by kernel_rfl
def NdAt (w:World) (b:Nat) (n:Nd) (k:Value):Prop:=w.heap[b]? = some (.cells (nodA n k) 100)
theorem NdAt.new (w:World) (n:Nd) (k:Value):NdAt (w.alloc (.cells (nodA n k) 100)) w.heap.size n k:=(Go.MapKept.heap_alloc w _).1
theorem NdAt.below {w w':World} {B b:Nat} {n:Nd} {k:Value} (h:NdAt w b n k) (hb:Below B w w') (hB:b<B):NdAt w' b n k:=by unfold NdAt;rw [hb.block b hB];exact h
theorem NdAt.lt {w:World} {b:Nat} {n:Nd} {k:Value} (h:NdAt w b n k):b<w.heap.size:=(Array.getElem?_eq_some_iff.1 h).1
theorem NdAt.cells {w:World} {b:Nat} {n:Nd} {k:Value} (h:NdAt w b n k):w.cell? ⟨b,0,none⟩=some (.int .i64 n.kind)∧w.cell? ⟨b,1,none⟩=some (.int .i64 n.num)∧w.cell? ⟨b,2,none⟩=some (.string n.text)∧w.cell? ⟨b,3,none⟩=some (.string n.ref.sh)∧w.cell? ⟨b,4,none⟩=some (.int .i64 n.ref.c)∧w.cell? ⟨b,5,none⟩=some (.int .i64 n.ref.r)∧w.cell? ⟨b,6,none⟩=some (.bool n.ref.ac)∧w.cell? ⟨b,7,none⟩=some (.bool n.ref.ar)∧w.cell? ⟨b,8,none⟩=some (.string n.zto.sh)∧w.cell? ⟨b,9,none⟩=some (.int .i64 n.zto.c)∧w.cell? ⟨b,10,none⟩=some (.int .i64 n.zto.r)∧w.cell? ⟨b,11,none⟩=some (.bool n.zto.ac)∧w.cell? ⟨b,12,none⟩=some (.bool n.zto.ar)∧w.cell? ⟨b,13,none⟩=some k :=
 ⟨by rw [cell_of_row w b 0 _ _ _ h];rfl,by rw [cell_of_row w b 1 _ _ _ h];rfl,by rw [cell_of_row w b 2 _ _ _ h];rfl,by rw [cell_of_row w b 3 _ _ _ h];rfl,by rw [cell_of_row w b 4 _ _ _ h];rfl,by rw [cell_of_row w b 5 _ _ _ h];rfl,by rw [cell_of_row w b 6 _ _ _ h];rfl,by rw [cell_of_row w b 7 _ _ _ h];rfl,by rw [cell_of_row w b 8 _ _ _ h];rfl,by rw [cell_of_row w b 9 _ _ _ h];rfl,by rw [cell_of_row w b 10 _ _ _ h];rfl,by rw [cell_of_row w b 11 _ _ _ h];rfl,by rw [cell_of_row w b 12 _ _ _ h];rfl,by rw [cell_of_row w b 13 _ _ _ h];rfl⟩
theorem Ps.row {w:World} {b:Nat} {tv:Value} {ts:List Tk} {p deep:Nat} {nv:Value} {vs:List Nv} (h:Ps w b tv ts p deep nv vs):∀ g,nv.ownBlock=some g→b<g∧NodeRow w g:=by
 intro g e
 rcases h.nodes.1.2 with ⟨h1,_⟩ | ⟨g',cap,cur,h1,h2,h3,_⟩
 · rw [h1] at e;cases e
 · rw [h1] at e;injection e with e
   have e:g'=g:=e
   subst e
   exact ⟨by omega,cur,_,h3⟩
theorem Ps.grown3 {w w':World} {b:Nat} {tv:Value} {ts:List Tk} {p deep:Nat} {nv:Value} {vs:List Nv} (h:Ps w b tv ts p deep nv vs) (hg:w.grownBy w' nv.ownBlock):w'.cell? ⟨b,3,none⟩=some nv∧w'.frozen? ⟨b,3,none⟩=false:=by
 have hbb:w'.heap[b]? = w.heap[b]? := hg.block b h.blt (by intro e;have:=(h.row b e.symm).1;omega)
 have hc:=hbb.trans h.cell
 exact ⟨by rw [cell_of_row w' b 3 _ _ _ hc];rfl,frozen_of_row w' b 3 _ _ hc⟩
theorem Ps.grow {w w':World} {b:Nat} {tv:Value} {ts:List Tk} {p deep:Nat} {nv nv':Value} {vs:List Nv} {v:Nv} (h:Ps w b tv ts p deep nv vs) (hg:w.grownBy w' nv.ownBlock) (ho:Own encNv 100 w' (b+1) nv' (vs++[v]))
 (hk:Own (encInt .i64) 3 w (b+1) v.kv v.n.kids) (hc:vs.length+1≤p):Ps (w'.setCell ⟨b,3,none⟩ nv') b tv ts p deep nv' (vs++[v])∧Fr w (w'.setCell ⟨b,3,none⟩ nv') b:=by
 have hnv:=h.row
 have hfr:Fr w w' b:=(Fr.refl w b).row hg (fun g e=>⟨(hnv g e).1,.inr (hnv g e).2⟩)
 have hbb:w'.heap[b]? = w.heap[b]? := hg.block b h.blt (by intro e;have:=(hnv b e.symm).1;omega)
 refine ⟨⟨?_, ?_,⟨ho.keep fun j hj _ _=>Below.heap_setCell _ _ _ _ (by show j≠b;omega), ?_⟩, ?_,h.lt,h.low,h.fit,h.few,by rw [List.length_append,List.length_singleton];exact hc,h.nest⟩,hfr.setCell _ _⟩
 · rw [heap_setCell_same w' b 3 _ _ _ (hbb.trans h.cell)];rfl
 · have h1:TokV w' b tv ts:=by
    obtain ⟨g,cap,h1,h2,h3⟩:=h.toks
    exact ⟨g,cap,h1,h2,h3.keep fun j _ hj e=>hfr.block j hj (by rw [h1] at e;injection e with e;have:g=j:=e;omega) (.inl (by rw [h1] at e;injection e with e;have:g=j:=e;omega))⟩
   exact h1.set _ _
 · intro u hu
   have h1:Own (encInt .i64) 3 w (b+1) u.kv u.n.kids:=by
    rcases List.mem_append.1 hu with hu | hu
    · exact h.nodes.2 u hu
    · rw [List.mem_singleton.1 hu];exact hk
   exact (h1.fr hfr (by omega) (by decide)).keep fun j hj _ _=>Below.heap_setCell _ _ _ _ (by show j≠b;omega)
 · have h1:OpV w':=h.ops.keep (hfr.block _ h.ops.lt (by have:=h.low;omega) (.inl (by have:=h.low;omega)))
   exact h1.set h.low _ _
set_option maxRecDepth 100000 in
set_option maxHeartbeats 2000000 in
theorem add_any {w:World} {b:Nat} {tv:Value} {ts:List Tk} {p deep:Nat} {nv:Value} {vs:List Nv} (h:Ps w b tv ts p deep nv vs) (v:Nv) (hk:Own (encInt .i64) 3 w (b+1) v.kv v.n.kids) (hc:vs.length+1≤p) (k:Value) (hkv:v.kv=k) (n:Nd) (hn:v.n=n) :
 Calls Tryz.prog 109 #[.pointer (some ⟨b,0,none⟩),.agg #[.int .i64 n.kind,.int .i64 n.num,.string n.text,.string n.ref.sh,.int .i64 n.ref.c,.int .i64 n.ref.r,.bool n.ref.ac,.bool n.ref.ar,.string n.zto.sh,.int .i64 n.zto.c,.int .i64 n.zto.r,.bool n.zto.ac,.bool n.zto.ar,k]] w fun e w'=>Fr w w' b∧e = .returned (.tuple #[])∧∃ nv',Ps w' b tv ts p deep nv' (vs++[v]):=by
 obtain ⟨eb,hEB,EL⟩:=Elem.nod
 have hal:Below w.heap.size w (w.alloc (.cells #[.int .i64 n.kind,.int .i64 n.num,.string n.text,.string n.ref.sh,.int .i64 n.ref.c,.int .i64 n.ref.r,.bool n.ref.ac,.bool n.ref.ar,.string n.zto.sh,.int .i64 n.zto.c,.int .i64 n.zto.r,.bool n.zto.ac,.bool n.zto.ar,k] 100)):=(Below.refl _ _).alloc (Nat.le_refl _) _
 have HP1:=Lib.hid (h.below hal)
 have HK1:=Lib.hid (hk.alloc (.cells #[.int .i64 n.kind,.int .i64 n.num,.string n.text,.string n.ref.sh,.int .i64 n.ref.c,.int .i64 n.ref.r,.bool n.ref.ac,.bool n.ref.ar,.string n.zto.sh,.int .i64 n.zto.c,.int .i64 n.zto.r,.bool n.zto.ac,.bool n.zto.ar,k] 100))
 have hx:NdAt (w.alloc (.cells #[.int .i64 n.kind,.int .i64 n.num,.string n.text,.string n.ref.sh,.int .i64 n.ref.c,.int .i64 n.ref.r,.bool n.ref.ac,.bool n.ref.ar,.string n.zto.sh,.int .i64 n.zto.c,.int .i64 n.zto.r,.bool n.zto.ac,.bool n.zto.ar,k] 100)) w.heap.size n k:=NdAt.new w n k
 have h2:=h.few
 have h3:=h.lt
 have hbl:=h.blt
 have hsz:(w.alloc (.cells #[.int .i64 n.kind,.int .i64 n.num,.string n.text,.string n.ref.sh,.int .i64 n.ref.c,.int .i64 n.ref.r,.bool n.ref.ac,.bool n.ref.ar,.string n.zto.sh,.int .i64 n.zto.c,.int .i64 n.zto.r,.bool n.zto.ac,.bool n.zto.ar,k] 100)).heap.size=w.heap.size+1:=by simp
 have HEL:=Lib.hid EL
 have HAL:=Lib.hid hal
 clear h hk EL hal
 go_enter Tryz.func109,Tryz.ntmps109
 go_wp2_with fail
 generalize w.alloc (.cells #[.int .i64 n.kind,.int .i64 n.num,.string n.text,.string n.ref.sh,.int .i64 n.ref.c,.int .i64 n.ref.r,.bool n.ref.ac,.bool n.ref.ar,.string n.zto.sh,.int .i64 n.zto.c,.int .i64 n.zto.r,.bool n.zto.ac,.bool n.zto.ar,k] 100)=w1 at HP1 HK1 HAL hx hsz ⊢
 obtain ⟨x0,x1,x2,x3,x4,x5,x6,x7,x8,x9,x10,x11,x12,x13⟩:=hx.cells
 obtain ⟨c0,c1,c2,c3⟩:=HP1.out.facts
 have f3:=HP1.out.frozen 3
 clear hx c0 c1 c2
 have HPQ:=Lib.hid (HP1.out.drew.below ((Below.refl _ _).alloc (Nat.le_refl _) (.cells #[.int .i64 n.kind,.int .i64 n.num,.string n.text,.string n.ref.sh,.int .i64 n.ref.c,.int .i64 n.ref.r,.bool n.ref.ac,.bool n.ref.ar,.string n.zto.sh,.int .i64 n.zto.c,.int .i64 n.zto.r,.bool n.zto.ac,.bool n.zto.ar,k] 100)))
 go_region_law (refine step_app_at HEL.out encNv rfl (.tmp 8) (.tmp 10) rfl (b+1) nv vs ?_ (HP1.out.nodes.1.drew.alloc _) ⟨w1.heap.size,0,none⟩ 1 1 [v] ?_ rfl ?_ ?_ ?_ ?_ ?_;go_simp;go_simp;(subst hkv;subst hn;exact cells_new (w:=w1.drew) _ _ _ rfl);exact Nat.le_trans (Nat.mul_le_mul_left _ hEB) (by omega);(unfold maxLen;omega);(simp <;> omega);intro v' wz h1 h2 h4;obtain ⟨g1,cap1,rfl,hg0,hg1,hg2,hg3⟩:=Own.some h1 (by simp);obtain ⟨d1,d2⟩:=HPQ.out.grown3 h2;have HO:=Lib.hid h1;have HG:=Lib.hid h2;clear h1 h2 h4)
 all_goals
  go_wp2_with fail
  obtain ⟨q1,q2⟩:=HPQ.out.grow HG.out HO.out (HK1.out.drew.alloc _) hc
  rw [List.length_append,List.length_singleton] at q1 q2
  have hF:=(((Fr.of b HAL.out).drew).below ((Below.refl _ _).alloc (Nat.le_refl _) (.cells #[.int .i64 n.kind,.int .i64 n.num,.string n.text,.string n.ref.sh,.int .i64 n.ref.c,.int .i64 n.ref.r,.bool n.ref.ac,.bool n.ref.ar,.string n.zto.sh,.int .i64 n.zto.c,.int .i64 n.zto.r,.bool n.zto.ac,.bool n.zto.ar,k] 100))).trans q2
  first
   | exact bodyPost_ret (results_none rfl _ _ _) rfl ⟨hF,rfl,_,q1⟩
   | (go_end0;exact ⟨hF,rfl,_,q1⟩)
def Out (res:Res) (w:World) (b:Nat) (tv:Value) (ts:List Tk) (deep:Nat) (vs:List Nv) (e:Ending) (w':World):Prop :=
 Fr w w' b∧((∃ c,res = .error c∧(c=5∨c=6)∧e = .returned (.int .i64 c)) ∨
  (∃ ms a r,res = .ok (ms,a,r)∧e = .returned (.int .i64 0)∧∃ p' nv' us,ts.drop p'=r∧us.map Nv.n=ms∧(∀ u∈us,∀ g,u.kv.ownBlock=some g→w.heap.size≤g)∧Ps w' b tv ts p' deep nv' (vs++us)))
def Nv.leaf (n:Nd):Nv:=⟨n,none⟩
theorem leaf_own (w:World) (lo:Nat) (n:Nd) (h:n.kids=[]):Own (encInt .i64) 3 w lo (Nv.leaf n).kv (Nv.leaf n).n.kids:=by
 show Own (encInt .i64) 3 w lo (.slice none 0 0) n.kids
 rw [h];exact Own.nil _ _ _ _
set_option maxRecDepth 100000 in
set_option maxHeartbeats 1000000 in
theorem leaf_any {w:World} {b:Nat} {tv:Value} {ts:List Tk} {p deep:Nat} {nv:Value} {vs:List Nv} (h:Ps w b tv ts p deep nv vs) (hnx:p+1<ts.length) (n:Nd) (hn:n.kids=[]) :
 Calls Tryz.prog 111 #[.pointer (some ⟨b,0,none⟩),.agg #[.int .i64 n.kind,.int .i64 n.num,.string n.text,.string n.ref.sh,.int .i64 n.ref.c,.int .i64 n.ref.r,.bool n.ref.ac,.bool n.ref.ar,.string n.zto.sh,.int .i64 n.zto.c,.int .i64 n.zto.r,.bool n.zto.ac,.bool n.zto.ar,.slice none 0 0]] w fun e w'=>Fr w w' b∧e = .returned (.int .i64 0)∧∃ nv',Ps w' b tv ts (p+1) deep nv' (vs++[Nv.leaf n]):=by
 have hal:Below w.heap.size w (w.alloc (.cells #[.int .i64 n.kind,.int .i64 n.num,.string n.text,.string n.ref.sh,.int .i64 n.ref.c,.int .i64 n.ref.r,.bool n.ref.ac,.bool n.ref.ar,.string n.zto.sh,.int .i64 n.zto.c,.int .i64 n.zto.r,.bool n.zto.ac,.bool n.zto.ar,.slice none 0 0] 100)):=(Below.refl _ _).alloc (Nat.le_refl _) _
 have HP1:=Lib.hid (h.below hal)
 have hx:NdAt (w.alloc (.cells #[.int .i64 n.kind,.int .i64 n.num,.string n.text,.string n.ref.sh,.int .i64 n.ref.c,.int .i64 n.ref.r,.bool n.ref.ac,.bool n.ref.ar,.string n.zto.sh,.int .i64 n.zto.c,.int .i64 n.zto.r,.bool n.zto.ac,.bool n.zto.ar,.slice none 0 0] 100)) w.heap.size n (.slice none 0 0):=NdAt.new w n _
 have h2:=h.few
 have h4:=h.cnt
 have hbl:=h.blt
 have hsz:(w.alloc (.cells #[.int .i64 n.kind,.int .i64 n.num,.string n.text,.string n.ref.sh,.int .i64 n.ref.c,.int .i64 n.ref.r,.bool n.ref.ac,.bool n.ref.ar,.string n.zto.sh,.int .i64 n.zto.c,.int .i64 n.zto.r,.bool n.zto.ac,.bool n.zto.ar,.slice none 0 0] 100)).heap.size=w.heap.size+1:=by simp
 have HAL:=Lib.hid hal
 clear h hal
 go_enter Tryz.func111,Tryz.ntmps111
 go_upto_region 1 with (fail)
 generalize w.alloc (.cells #[.int .i64 n.kind,.int .i64 n.num,.string n.text,.string n.ref.sh,.int .i64 n.ref.c,.int .i64 n.ref.r,.bool n.ref.ac,.bool n.ref.ar,.string n.zto.sh,.int .i64 n.zto.c,.int .i64 n.zto.r,.bool n.zto.ac,.bool n.zto.ar,.slice none 0 0] 100)=w1 at HP1 HAL hx hsz ⊢
 obtain ⟨c0,c1,c2,c3⟩:=HP1.out.facts
 have f1:=HP1.out.frozen 1
 clear c0 c2 c3
 go_upto_region 2 with (fail)
 have HP2:=Lib.hid (HP1.out.next hnx)
 have HX2:=Lib.hid (show NdAt (w1.setCell ⟨b,1,none⟩ (.int .i64 ((p:Int)+1))) w.heap.size n (.slice none 0 0) from by unfold NdAt;rw [Below.heap_setCell _ _ _ _ (by show w.heap.size≠b;omega)];exact hx)
 have HF2:=Lib.hid ((Fr.of b HAL.out).setCell 1 (.int .i64 ((p:Int)+1)))
 clear c1 f1 hx HP1 HAL hsz
 generalize w1.setCell ⟨b,1,none⟩ (.int .i64 ((p:Int)+1))=w2 at HP2 HX2 HF2 ⊢
 obtain ⟨x0,x1,x2,x3,x4,x5,x6,x7,x8,x9,x10,x11,x12,x13⟩:=HX2.out.cells
 have HA:=Lib.hid (add_any HP2.out (Nv.leaf n) (leaf_own _ _ n hn) (by omega) (.slice none 0 0) rfl n rfl)
 go_wp2_with (go_at_call 109;((with_reducible refine HA.out.mono ?_);rintro e w3 ⟨h1,rfl,nv',h3⟩;have HF3:=Lib.hid (HF2.out.trans h1);have HP3:=Lib.hid h3;clear h1 h3))
 go_ret
 exact ⟨HF3.out,rfl,_,HP3.out⟩
theorem empty_list:(⟨#[]⟩:ByteArray).toList=[]:=by rw [list_bytes]
set_option maxRecDepth 100000 in
set_option maxHeartbeats 800000 in
theorem isRange_any (s1 s2:ByteArray) (c1 r1 c2 r2:Int) (a1 b1 a2 b2:Bool) (w:World) :
 Calls Tryz.prog 146 #[.agg #[.string s1,.int .i64 c1,.int .i64 r1,.bool a1,.bool b1],.agg #[.string s2,.int .i64 c2,.int .i64 r2,.bool a2,.bool b2]] w fun e w'=>e = .returned (.bool (spanB ⟨s1,c1,r1,a1,b1⟩ ⟨s2,c2,r2,a2,b2⟩))∧Below w.heap.size w w':=by
 have hsz:(w.alloc (.cells #[.string s1,.int .i64 c1,.int .i64 r1,.bool a1,.bool b1] 98)).heap.size=w.heap.size+1:=by simp
 have h1:=RefAt.new w s1 c1 r1 a1 b1
 have h2:=RefAt.new (w.alloc (.cells #[.string s1,.int .i64 c1,.int .i64 r1,.bool a1,.bool b1] 98)) s2 c2 r2 a2 b2
 have h3:=h1.below ((Below.refl _ _).alloc (Nat.le_refl _) (.cells #[.string s2,.int .i64 c2,.int .i64 r2,.bool a2,.bool b2] 98)) h1.lt
 rw [hsz] at h2
 have HB:=Lib.hid (((Below.refl w.heap.size w).alloc (Nat.le_refl _) (.cells #[.string s1,.int .i64 c1,.int .i64 r1,.bool a1,.bool b1] 98)).alloc (by simp) (.cells #[.string s2,.int .i64 c2,.int .i64 r2,.bool a2,.bool b2] 98))
 have HS:=Lib.hid (show spanB ⟨s1,c1,r1,a1,b1⟩ ⟨s2,c2,r2,a2,b2⟩=(decide (s2=⟨#[]⟩)&&(decide (c1≤c2)&&decide (r1≤r2))) from rfl)
 clear h1
 go_enter Tryz.func146,Tryz.ntmps146
 go_upto_region 1 with (fail)
 generalize (w.alloc (.cells #[.string s1,.int .i64 c1,.int .i64 r1,.bool a1,.bool b1] 98)).alloc (.cells #[.string s2,.int .i64 c2,.int .i64 r2,.bool a2,.bool b2] 98)=w1 at h2 h3 HB ⊢
 obtain ⟨x0,x1,x2,x3,x4⟩:=h2.facts
 obtain ⟨y0,y1,y2,y3,y4⟩:=h3.facts
 clear h2 h3
 by_cases hs:s2=⟨#[]⟩
 · subst hs
   have e0:=empty_list
   by_cases hc:c1≤c2
   · by_cases hr:r1≤r2
     · have HT:=Lib.hid (show spanB ⟨s1,c1,r1,a1,b1⟩ ⟨⟨#[]⟩,c2,r2,a2,b2⟩=true by rw [HS.out,decide_eq_true hc,decide_eq_true hr];rfl)
       go_wp2_with fail
       go_ret
       exact ⟨by rw [HT.out];rfl,HB.out⟩
     · have HT:=Lib.hid (show spanB ⟨s1,c1,r1,a1,b1⟩ ⟨⟨#[]⟩,c2,r2,a2,b2⟩=false by rw [HS.out,decide_eq_true hc,decide_eq_false hr];rfl)
       go_wp2_with fail
       go_ret
       exact ⟨by rw [HT.out];rfl,HB.out⟩
   · have HT:=Lib.hid (show spanB ⟨s1,c1,r1,a1,b1⟩ ⟨⟨#[]⟩,c2,r2,a2,b2⟩=false by rw [HS.out,decide_eq_false hc];rfl)
     go_wp2_with fail
     go_ret
     exact ⟨by rw [HT.out];rfl,HB.out⟩
 · have HT:=Lib.hid (show spanB ⟨s1,c1,r1,a1,b1⟩ ⟨s2,c2,r2,a2,b2⟩=false by rw [HS.out,decide_eq_false hs];rfl)
   have e0:¬ s2.toList=[]:=by rw [← empty_list];exact text_ne _ _ hs
   have e1:s2.toList.isEmpty=false:=by simpa using e0
   clear hs
   go_wp2_with fail
   go_ret
   exact ⟨by rw [HT.out];rfl,HB.out⟩
theorem Out.leaf {res:Res} {w w':World} {b:Nat} {tv:Value} {ts:List Tk} {deep p':Nat} {vs:List Nv} {nv':Value} {n:Nd} {a:Nat} {r:List Tk} (hr:res = .ok ([n],a,r)) (hf:Fr w w' b) (hp:ts.drop p'=r) (h:Ps w' b tv ts p' deep nv' (vs++[Nv.leaf n])):Out res w b tv ts deep vs (.returned (.int .i64 0)) w' :=
 ⟨hf,.inr ⟨[n],a,r,hr,rfl,p',nv',[Nv.leaf n],hp,rfl,(by intro u hu g hg;rw [List.mem_singleton.1 hu] at hg;cases hg),h⟩⟩
theorem Out.err {res:Res} {w w':World} {b:Nat} {tv:Value} {ts:List Tk} {deep:Nat} {vs:List Nv} {c:Int} (hr:res = .error c) (hc:c=5∨c=6) (hf:Fr w w' b):Out res w b tv ts deep vs (.returned (.int .i64 c)) w':=⟨hf,.inl ⟨c,hr,hc,rfl⟩⟩
theorem RefAt.set {w:World} {b:Nat} {s:ByteArray} {c r:Int} {ac ar:Bool} (h:RefAt w b s c r ac ar) {g:Nat} (hg:b≠g) (o:Nat) (v:Value):RefAt (w.setCell ⟨g,o,none⟩ v) b s c r ac ar:=by
 unfold RefAt;rw [Below.heap_setCell _ _ _ _ (by exact hg)];exact h
theorem RefAt.fr {w w':World} {b g:Nat} {s:ByteArray} {c r:Int} {ac ar:Bool} (h:RefAt w g s c r ac ar) (hf:Fr w w' b) (hg:g≠b):RefAt w' g s c r ac ar:=by
 unfold RefAt;rw [hf.block g h.lt hg (.inr (by rintro ⟨cur,fr,e⟩;unfold RefAt at h;rw [h] at e;injection e with e;injection e with _ e;exact absurd e (by decide)))];exact h
set_option maxRecDepth 100000 in
set_option maxHeartbeats 2000000 in
theorem place_any {w:World} {b:Nat} {tv:Value} {ts:List Tk} {p deep:Nat} {nv:Value} {vs:List Nv} (h:Ps w b tv ts p deep nv vs) (t:Tk) (hnx:p+1<ts.length) (base:Nat) :
 Calls Tryz.prog 112 #[.pointer (some ⟨b,0,none⟩),.agg #[.string t.sh,.int .i64 t.c,.int .i64 t.r,.bool t.ac,.bool t.ar]] w (Out (refP base t (ts.drop (p+1))) w b tv ts deep vs):=by
 have hal:Below w.heap.size w (w.alloc (.cells #[.string t.sh,.int .i64 t.c,.int .i64 t.r,.bool t.ac,.bool t.ar] 98)):=(Below.refl _ _).alloc (Nat.le_refl _) _
 have HP1:=Lib.hid (h.below hal)
 have hx:=RefAt.new w t.sh t.c t.r t.ac t.ar
 have h2:=h.few
 have hct:=h.cnt
 have hbl:=h.blt
 have HAL:=Lib.hid hal
 clear h hal
 go_enter Tryz.func112,Tryz.ntmps112
 go_upto_region 1 with (fail)
 generalize w.alloc (.cells #[.string t.sh,.int .i64 t.c,.int .i64 t.r,.bool t.ac,.bool t.ar] 98)=w1 at HP1 HAL hx ⊢
 obtain ⟨c0,c1,c2,c3⟩:=HP1.out.facts
 have f1:=HP1.out.frozen 1
 clear c0 c2 c3
 go_upto_region 2 with (fail)
 have HP2:=Lib.hid (HP1.out.next hnx)
 have HX2:=Lib.hid (hx.set (show w.heap.size≠b by omega) 1 (.int .i64 ((p:Int)+1)))
 have HF2:=Lib.hid ((Fr.of b HAL.out).setCell 1 (.int .i64 ((p:Int)+1)))
 clear c1 f1 hx HP1 HAL
 generalize w1.setCell ⟨b,1,none⟩ (.int .i64 ((p:Int)+1))=w2 at HP2 HX2 HF2 ⊢
 have HT:=Lib.hid (ptake_any HP2.out ⟨#[58]⟩)
 have hw0:w.heap.size≠b:=by omega
 cases hq:signIs ⟨#[58]⟩ (ts.drop (p+1))
 · rw [hq,if_neg (by decide)] at HT
   have HR:=Lib.hid (show refP base t (ts.drop (p+1)) = .ok ([{ Nd.zero with kind:=5,ref:=t.rf }],base,ts.drop (p+1)) by unfold refP;rw [hq,if_neg (by decide)])
   clear hq
   go_upto_region 3 with (go_at_call 145;((with_reducible refine HT.out.mono ?_);rintro e w3 ⟨h1,rfl,h3⟩;have HF3:=Lib.hid (HF2.out.trans h1);have HX3:=Lib.hid (HX2.out.fr h1 hw0);have HP3:=Lib.hid h3;clear h1 h3))
   obtain ⟨x0,x1,x2,x3,x4⟩:=HX3.out.facts
   have HA:=Lib.hid (show Calls Tryz.prog 109 #[.pointer (some ⟨b,0,none⟩),.agg #[.int .i64 5,.int .i64 0,.string ⟨#[]⟩,.string t.sh,.int .i64 t.c,.int .i64 t.r,.bool t.ac,.bool t.ar,.string ⟨#[]⟩,.int .i64 0,.int .i64 0,.bool false,.bool false,.slice none 0 0]] w3 _ from add_any HP3.out (Nv.leaf { Nd.zero with kind:=5,ref:=t.rf }) (leaf_own _ _ _ rfl) (by omega) (.slice none 0 0) rfl { Nd.zero with kind:=5,ref:=t.rf } rfl)
   go_wp2_with (go_at_call 109;((with_reducible refine HA.out.mono ?_);rintro e w4 ⟨h1,rfl,nv',h3⟩;have HF4:=Lib.hid (HF3.out.trans h1);have HP4:=Lib.hid h3;clear h1 h3))
   go_ret
   exact Out.leaf HR.out HF4.out rfl HP4.out
 · have hnx2:=sign_next HP2.out hq
   rw [hq,if_pos rfl] at HT
   obtain ⟨u,hu⟩:∃ u,ts[p+2]? = some u:=⟨_,List.getElem?_eq_getElem hnx2⟩
   have hd:(ts.drop (p+1)).tail=u :: ts.drop (p+3):=by
    rw [List.tail_drop,List.drop_eq_getElem_cons hnx2]
    rw [List.getElem?_eq_getElem hnx2] at hu;rw [Option.some.inj hu]
   have hR:refP base t (ts.drop (p+1))=if u.kind=4∧spanB t.rf u.rf=true then .ok ([(⟨6,0,⟨#[]⟩,t.rf,u.rf,[]⟩:Nd)],base,ts.drop (p+3)) else .error 5:=by
    unfold refP;rw [hq,if_pos rfl,hd] <;> rfl
   clear hq hd
   go_upto_region 6 with (first
    | (go_at_call 145;((with_reducible refine HT.out.mono ?_);rintro e w3 ⟨h1,rfl,h3⟩;have HF3:=Lib.hid (HF2.out.trans h1);have HX3:=Lib.hid (HX2.out.fr h1 hw0);have HP3:=Lib.hid h3;have HTK:=Lib.hid (ptoken_any h3 u hu);clear h1 h3))
    | (go_at_call 59;((with_reducible refine HTK.out.mono ?_);rintro e w4 ⟨rfl,h1⟩;have HF4:=Lib.hid (HF3.out.below h1);have HX4:=Lib.hid (HX3.out.below h1 HX3.out.lt);have HP4:=Lib.hid (HP3.out.below h1);clear h1)))
   have hB:Below w4.heap.size w4 (w4.alloc (.cells #[.int .i64 u.kind,.string u.text,.int .i64 u.num,.string u.sh,.int .i64 u.c,.int .i64 u.r,.bool u.ac,.bool u.ar,.int .i64 u.pos] 125)):=(Below.refl _ _).alloc (Nat.le_refl _) _
   have HN5:TkAt (w4.alloc (.cells #[.int .i64 u.kind,.string u.text,.int .i64 u.num,.string u.sh,.int .i64 u.c,.int .i64 u.r,.bool u.ac,.bool u.ar,.int .i64 u.pos] 125)) w4.heap.size u:=TkAt.new w4 u
   have HF5:=Lib.hid (HF4.out.below hB)
   have HX5:=Lib.hid (HX4.out.below hB HX4.out.lt)
   have HP5:=Lib.hid (HP4.out.below hB)
   clear hB HF3 HX3 HP3 HTK HF4 HX4 HP4 HT HX2 HP2 HF2
   generalize hb4:w4.heap.size=b4 at HN5 ⊢
   generalize w4.alloc (.cells #[.int .i64 u.kind,.string u.text,.int .i64 u.num,.string u.sh,.int .i64 u.c,.int .i64 u.r,.bool u.ac,.bool u.ar,.int .i64 u.pos] 125)=w5 at HN5 HF5 HX5 HP5 ⊢
   clear hb4
   obtain ⟨x0,x1,x2,x3,x4,x5,x6,x7,x8⟩:=HN5.cells
   obtain ⟨y0,y1,y2,y3,y4⟩:=HX5.out.facts
   by_cases h4:u.kind=4
   · have e4:(u.kind != 4)=false:=by rw [h4];rfl
     have e5:(u.kind == 4)=true:=beq_iff_eq.2 h4
     have HI:=Lib.hid (isRange_any t.sh u.sh t.c t.r u.c u.r t.ac t.ar u.ac u.ar w5)
     cases hs:spanB t.rf u.rf
     · have HR:=Lib.hid (show refP base t (ts.drop (p+1)) = .error 5 by rw [hR,hs,if_neg (by simp)])
       have HS:=Lib.hid (show spanB ⟨t.sh,t.c,t.r,t.ac,t.ar⟩ ⟨u.sh,u.c,u.r,u.ac,u.ar⟩=false from hs)
       rw [HS.out] at HI
       clear hR hs h4
       go_wp2_with (go_at_call 146;((with_reducible refine HI.out.mono ?_);rintro e w6 ⟨rfl,h1⟩;have HF6:=Lib.hid (HF5.out.below h1);clear h1))
       go_ret
       exact Out.err HR.out (.inl rfl) HF6.out
     · have HR:=Lib.hid (show refP base t (ts.drop (p+1)) = .ok ([(⟨6,0,⟨#[]⟩,t.rf,u.rf,[]⟩:Nd)],base,ts.drop (p+3)) by rw [hR,hs,if_pos ⟨h4,rfl⟩])
       have HS:=Lib.hid (show spanB ⟨t.sh,t.c,t.r,t.ac,t.ar⟩ ⟨u.sh,u.c,u.r,u.ac,u.ar⟩=true from hs)
       rw [HS.out] at HI
       have HNX:=Lib.hid (HP5.out.fit.next hu (by omega))
       have HN5:=Lib.hid HN5
       clear hR hs h4 x0 x1 x2 x3 x4 x5 x6 x7 x8 y0 y1 y2 y3 y4
       obtain ⟨x0,x1,x2,x3,x4,x5,x6,x7,x8⟩:=HN5.out.cells
       obtain ⟨y0,y1,y2,y3,y4⟩:=HX5.out.facts
       go_upto_region 8 with (go_at_call 146;((with_reducible refine HI.out.mono ?_);rintro e w6 ⟨rfl,h1⟩;have HF6:=Lib.hid (HF5.out.below h1);have HP6:=Lib.hid (HP5.out.below h1);have HX6:=Lib.hid (HX5.out.below h1 HX5.out.lt);have HN6:=Lib.hid (HN5.out.below h1 HN5.out.lt);clear h1))
       clear x0 x1 x2 x3 x4 x5 x6 x7 x8 y0 y1 y2 y3 y4
       obtain ⟨x0,x1,x2,x3,x4,x5,x6,x7,x8⟩:=HN6.out.cells
       obtain ⟨y0,y1,y2,y3,y4⟩:=HX6.out.facts
       have HA:=Lib.hid (show Calls Tryz.prog 111 #[.pointer (some ⟨b,0,none⟩),.agg #[.int .i64 6,.int .i64 0,.string ⟨#[]⟩,.string t.sh,.int .i64 t.c,.int .i64 t.r,.bool t.ac,.bool t.ar,.string u.sh,.int .i64 u.c,.int .i64 u.r,.bool u.ac,.bool u.ar,.slice none 0 0]] w6 _ from leaf_any HP6.out HNX.out (⟨6,0,⟨#[]⟩,t.rf,u.rf,[]⟩:Nd) rfl)
       go_wp2_with (go_at_call 111;((with_reducible refine HA.out.mono ?_);rintro e w7 ⟨h1,rfl,nv',h3⟩;have HF7:=Lib.hid (HF6.out.trans h1);have HP7:=Lib.hid h3;clear h1 h3))
       go_ret
       exact Out.leaf HR.out HF7.out rfl HP7.out
   · have e4:(u.kind != 4)=true:=by rw [bne_iff_ne];exact h4
     have e5:(u.kind == 4)=false:=beq_eq_false_iff_ne.2 h4
     have HR:=Lib.hid (show refP base t (ts.drop (p+1)) = .error 5 by rw [hR,if_neg (fun h=>h4 h.1)])
     clear hR h4
     go_wp2_with fail
     go_ret
     exact Out.err HR.out (.inl rfl) HF5.out
theorem Out.ret {res:Res} {w w':World} {b:Nat} {tv:Value} {ts:List Tk} {deep:Nat} {vs:List Nv} {e:Ending} (h:Out res w b tv ts deep vs e w'):∃ c,e = .returned (.int .i64 c):=by
 rcases h.2 with ⟨c,_,_,h⟩ | ⟨_,_,_,_,h,_⟩
 · exact ⟨c,h⟩
 · exact ⟨0,h⟩
theorem Out.bad {res:Res} {w w':World} {b:Nat} {tv:Value} {ts:List Tk} {deep:Nat} {vs:List Nv} {e:Ending} {c:Int} (h:Out res w b tv ts deep vs e w') (hr:res = .error c):Fr w w' b∧(c=5∨c=6)∧e = .returned (.int .i64 c):=by
 rcases h.2 with ⟨c',h1,h2,h3⟩ | ⟨ms,a,r,h1,_⟩
 · rw [hr] at h1;injection h1 with h1;subst h1;exact ⟨h.1,h2,h3⟩
 · rw [hr] at h1;cases h1
theorem Out.good {res:Res} {w w':World} {b:Nat} {tv:Value} {ts:List Tk} {deep:Nat} {vs:List Nv} {e:Ending} {ms:List Nd} {a:Nat} {r:List Tk} (h:Out res w b tv ts deep vs e w') (hr:res = .ok (ms,a,r)) :
 Fr w w' b∧e = .returned (.int .i64 0)∧∃ p' nv' us,ts.drop p'=r∧us.map Nv.n=ms∧(∀ u∈us,∀ g,u.kv.ownBlock=some g→w.heap.size≤g)∧Ps w' b tv ts p' deep nv' (vs++us):=by
 rcases h.2 with ⟨c',h1,h2,h3⟩ | ⟨ms',a',r',h1,h2,h3⟩
 · rw [hr] at h1;cases h1
 · rw [hr] at h1;injection h1 with h1;injection h1 with e1 e2;injection e2 with e2 e3;subst e1;subst e3;exact ⟨h.1,h2,h3⟩
theorem root_is {w:World} {b:Nat} {tv:Value} {ts:List Tk} {p deep:Nat} {nv:Value} {vs:List Nv} (h:Ps w b tv ts p deep nv vs) (a:Nat) (ha:a+1=vs.length) :
 Calls Tryz.prog 110 #[.pointer (some ⟨b,0,none⟩)] w fun e w'=>e = .returned (.int .i64 (a:Int))∧w=w':=by
 have:=root_any h (by omega)
 rw [show (vs.length:Int) - 1=(a:Int) by omega] at this;exact this
theorem own_lit2 (w:World) (base:Nat) (x y:Int) (hb:base≤w.heap.size):Own (encInt .i64) 3 (w.alloc (.cells #[.int .i64 x,.int .i64 y] 3)) base (.slice (some ⟨w.heap.size,0,none⟩) 2 2) [x,y] :=
 ⟨rfl,.inr ⟨w.heap.size,2,_,rfl,hb,(Go.MapKept.heap_alloc w _).1,Nat.le_refl _,by decide,rfl,rfl⟩⟩
theorem own_lit1 (w:World) (base:Nat) (x:Int) (hb:base≤w.heap.size):Own (encInt .i64) 3 (w.alloc (.cells #[.int .i64 x] 3)) base (.slice (some ⟨w.heap.size,0,none⟩) 1 1) [x] :=
 ⟨rfl,.inr ⟨w.heap.size,1,_,rfl,hb,(Go.MapKept.heap_alloc w _).1,Nat.le_refl _,by decide,rfl,rfl⟩⟩
def EX (f:Nat):Prop:=∀ (n deep:Nat) (res:Res) (w:World) (b:Nat) (tv:Value) (ts:List Tk) (p:Nat) (nv:Value) (vs:List Nv),n≤4→Ps w b tv ts p deep nv vs→exprP f n deep vs.length (ts.drop p)=some res →
 Calls Tryz.prog 58 #[.pointer (some ⟨b,0,none⟩),.int .i64 (n:Int)] w (Out res w b tv ts deep vs)
theorem count_at {f n deep base:Nat} {ts:List Tk} {p p':Nat} {ns:List Nd} {a:Nat} {r:List Tk} (h:exprP f n deep base (ts.drop p)=some (.ok (ns,a,r))) (hr:ts.drop p'=r) (hl:p'<ts.length):ns.length+p≤p'∧a+1=base+ns.length∧1≤ns.length:=by
 have h1:=(count_all f).1 _ _ _ _ _ _ _ h
 have h2:=(told_all f).1 _ _ _ _ _ _ _ h
 subst hr
 rw [List.length_drop,List.length_drop] at h1
 exact ⟨by omega,h2.2.1,h2.2.2⟩
set_option maxRecDepth 100000 in
set_option maxHeartbeats 4000000 in
theorem row_any (f:Nat) (IH:∀ g,g≤f→EX g) (n:Nat) (hn:n≤3) {w:World} {b:Nat} {tv:Value} {ts:List Tk} {p deep:Nat} {nv:Value} {vs:List Nv} (h:Ps w b tv ts p deep nv vs) (res:Res)
 (hres:bindR (exprP f (n+1) deep vs.length (ts.drop p)) (fun ns a r=>rowP f n deep vs.length ns a r)=some res) :
 Calls Tryz.prog 106 #[.pointer (some ⟨b,0,none⟩),.int .i64 (n:Int)] w (Out res w b tv ts deep vs):=by
 have hw1 : -9223372036854775808≤(n:Int)+1:=by omega
 have hw2:(n:Int)+1≤9223372036854775807:=by omega
 have hn4:n+1≤4:=by omega
 rcases bindR_some hres with ⟨c,h1,rfl⟩ | ⟨ns,a,r,h1,h2⟩
 · have HL:=Lib.hid (show Calls Tryz.prog 58 #[.pointer (some ⟨b,0,none⟩),.int .i64 ((n:Int)+1)] w (Out (.error c) w b tv ts deep vs) from IH f (Nat.le_refl _) (n+1) deep _ w b tv ts p nv vs hn4 h h1)
   clear hres h1 IH h
   go_enter Tryz.func106,Tryz.ntmps106
   go_wp2_with (go_at_call 58;((with_reducible refine HL.out.mono ?_);intro e w2 ho;obtain ⟨hf,hc,rfl⟩:=ho.bad rfl;have HF:=Lib.hid hf;have HC:=Lib.hid hc;have hc0:(c != 0)=true:=(by rw [bne_iff_ne];rcases hc with h | h <;> omega);clear hf hc ho))
   go_ret
   exact Out.err rfl HC.out HF.out
 · have HL := Lib.hid (show Calls Tryz.prog 58 #[.pointer (some ⟨b,0,none⟩),.int .i64 ((n:Int)+1)] w (Out (.ok (ns,a,r)) w b tv ts deep vs) from IH f (Nat.le_refl _) (n+1) deep _ w b tv ts p nv vs hn4 h h1)
   have HIH:=Lib.hid IH
   have H1:=Lib.hid h1
   have H2:=Lib.hid h2
   have hcn:=h.cnt
   have HP:=Lib.hid h
   clear hres h1 h2 IH h
   go_enter Tryz.func106,Tryz.ntmps106
   go_upto_region 4 with (go_at_call 58;((with_reducible refine HL.out.mono ?_);intro e w2 ho;obtain ⟨hf,rfl,p1,nv1,us1,hp1,hu1,hk1,hps1⟩:=ho.good rfl;have HF1:=Lib.hid hf;have HP1:=Lib.hid hps1;have HD1:=Lib.hid hp1;have HU1:=Lib.hid hu1;have HK1:=Lib.hid hk1;clear hf ho hp1 hu1 hk1 hps1))
   go_loopw [] (fun wr=>∃ (g:Nat) (ns':List Nd) (a' p':Nat) (nv':Value) (us:List Nv),g≤f∧a'+1=vs.length+ns'.length∧us.length=ns'.length∧Hid (rowP g n deep vs.length ns' a' (ts.drop p')=some res)∧Hid (us.map Nv.n=ns')∧Hid (∀ u∈us,∀ j,u.kv.ownBlock=some j→w.heap.size≤j)∧Hid (Ps wr b tv ts p' deep nv' (vs++us))∧Hid (Fr w wr b))
    (fun wr=>psm b ts.length wr)
   case atStart =>
    have h3:=count_at H1.out HD1.out HP1.out.lt
    refine ⟨f,ns,a,p1,nv1,us1,Nat.le_refl _,h3.2.1,by rw [← HU1.out,List.length_map], ?_,HU1,HK1,HP1,HF1⟩
    rw [HD1.out];exact H2
   case round =>
    clear HL H1 H2 HF1 HP1 HD1 HU1 HK1
    obtain ⟨g,ns',a',p',nv',us,hg,ha,hul,HR,HU,HK,HPr,HF⟩:=hrel
    have hlt:=HPr.out.lt
    have hfew:=HPr.out.few
    have hcnt:=HPr.out.cnt
    rw [List.length_append] at hcnt
    have HM:=Lib.hid (HPr.out.psm ts.length)
    have HO:=Lib.hid (operator_any HPr.out n hn)
    match g,hg,HR with
    | 0,_,HR=>have:=HR.out;unfold rowP at this;cases this
    | g+1,hg,HR =>
    have hr:=HR.out
    rw [rowP_succ] at hr
    by_cases h0:opK n (ts.drop p')=0
    · rw [if_pos h0] at hr
      injection hr with hr
      have HRS:=Lib.hid hr.symm
      rw [h0] at HO
      have HO:=Lib.hid (show Calls Tryz.prog 144 #[.pointer (some ⟨b,0,none⟩),.int .i64 (n:Int)] wr fun e w'=>e = .returned (.tuple #[.int .i64 0,.bool false])∧Below wr.heap.size wr w' from HO.out)
      clear hr h0 HR
      go_wp2_with (go_at_call 144;((with_reducible refine HO.out.mono ?_);rintro e w3 ⟨rfl,h1⟩;have HF3:=Lib.hid (HF.out.below h1);have HP3:=Lib.hid (HPr.out.below h1);clear h1))
      go_ret
      exact ⟨HF3.out,.inr ⟨_,_,_,HRS.out,rfl,p',nv',us,rfl,HU.out,HK.out,HP3.out⟩⟩
    · rw [if_neg h0] at hr
      obtain ⟨kd,hkd⟩:∃ kd,opK n (ts.drop p')=kd:=⟨_,rfl⟩
      obtain ⟨q,hq1,hq2,hq3⟩:=opK_pos h0
      have hnx:=sign_next HPr.out hq2
      clear hq1 hq2 hq3 q
      rw [hkd] at HO hr h0
      have HO:=Lib.hid (show Calls Tryz.prog 144 #[.pointer (some ⟨b,0,none⟩),.int .i64 (n:Int)] wr fun e w'=>e = .returned (.tuple #[.int .i64 kd,.bool true])∧Below wr.heap.size wr w' by have:=HO.out;rw [decide_eq_true h0] at this;exact this)
      rw [List.tail_drop] at hr
      have hbase:vs.length+ns'.length=(vs++us).length:=by rw [List.length_append,hul]
      rw [hbase] at hr
      have HRR:=Lib.hid hr
      clear hr h0 HR hkd
      go_upto_region 7 with (go_at_call 144;((with_reducible refine HO.out.mono ?_);rintro e w3 ⟨rfl,h1⟩;have HF3:=Lib.hid (HF.out.below h1);have HP3:=Lib.hid (HPr.out.below h1);clear h1))
      clear HO HF HPr
      obtain ⟨c0,c1,c2,c3⟩:=HP3.out.facts
      have f1:=HP3.out.frozen 1
      clear c0 c2 c3
      go_upto_region 8 with (fail)
      have HP4:=Lib.hid (HP3.out.next hnx)
      have HF4:=Lib.hid (HF3.out.setCell 1 (.int .i64 ((p':Int)+1)))
      clear c1 f1 HP3 HF3
      generalize w3.setCell ⟨b,1,none⟩ (.int .i64 ((p':Int)+1))=w4 at HP4 HF4 ⊢
      have HRT:=Lib.hid (root_is HP4.out a' (by rw [ha,hbase]))
      rcases bindR_some HRR.out with ⟨c,h1,h2⟩ | ⟨ms,b2,r2,h1,h2⟩
      · subst h2
        have HL:=Lib.hid (show Calls Tryz.prog 58 #[.pointer (some ⟨b,0,none⟩),.int .i64 ((n:Int)+1)] w4 (Out (.error c) w4 b tv ts deep (vs++us)) from HIH.out g (by omega) (n+1) deep _ w4 b tv ts (p'+1) nv' (vs++us) hn4 HP4.out h1)
        clear h1 HRR
        go_wp2_with (first
         | (go_at_call 110;((with_reducible refine HRT.out.mono ?_);rintro e wn ⟨rfl,rfl⟩))
         | (go_at_call 58;((with_reducible refine HL.out.mono ?_);intro e w5 ho;obtain ⟨hf,hc,rfl⟩:=ho.bad rfl;have HF5:=Lib.hid (HF4.out.trans hf);have HC:=Lib.hid hc;have hc0:(c != 0)=true:=(by rw [bne_iff_ne];rcases hc with h | h <;> omega);clear hf hc ho)))
        go_ret
        exact Out.err rfl HC.out HF5.out
      · have HL := Lib.hid (show Calls Tryz.prog 58 #[.pointer (some ⟨b,0,none⟩),.int .i64 ((n:Int)+1)] w4 (Out (.ok (ms,b2,r2)) w4 b tv ts deep (vs++us)) from HIH.out g (by omega) (n+1) deep _ w4 b tv ts (p'+1) nv' (vs++us) hn4 HP4.out h1)
        have H1:=Lib.hid h1
        have H2:=Lib.hid h2
        clear h1 h2 HRR
        go_upto_region 12 with (first
         | (go_at_call 110;((with_reducible refine HRT.out.mono ?_);rintro e wn ⟨rfl,rfl⟩))
         | (go_at_call 58;((with_reducible refine HL.out.mono ?_);intro e w5 ho;obtain ⟨hf,rfl,p5,nv5,us5,hp5,hu5,hk5,hps5⟩:=ho.good rfl;have HS5:=Lib.hid hf.size;have HF5:=Lib.hid (HF4.out.trans hf);have HP5:=Lib.hid hps5;have HD5:=Lib.hid hp5;have HU5:=Lib.hid hu5;have HK5:=Lib.hid hk5;clear hf ho hp5 hu5 hk5 hps5)))
        obtain ⟨hc1,hc2,hc3⟩:=count_at H1.out HD5.out HP5.out.lt
        have hus5:us5.length=ms.length:=by rw [← HU5.out,List.length_map]
        have hlen5:((vs++us)++us5).length=vs.length+us.length+us5.length:=by rw [List.length_append,List.length_append]
        have hlen4:(vs++us).length=vs.length+us.length:=List.length_append
        have HRT5:=Lib.hid (root_is HP5.out b2 (by omega))
        have hbl:=HP5.out.blt
        have hB6:Below w5.heap.size w5 (w5.alloc (.cells #[.int .i64 (a':Int),.int .i64 (b2:Int)] 3)):=(Below.refl _ _).alloc (Nat.le_refl _) _
        have HP6:=Lib.hid (HP5.out.below hB6)
        have HF6:=Lib.hid (HF5.out.below hB6)
        have HA:=Lib.hid (show Calls Tryz.prog 109 #[.pointer (some ⟨b,0,none⟩),.agg #[.int .i64 kd,.int .i64 0,.string ⟨#[]⟩,.string ⟨#[]⟩,.int .i64 0,.int .i64 0,.bool false,.bool false,.string ⟨#[]⟩,.int .i64 0,.int .i64 0,.bool false,.bool false,.slice (some ⟨w5.heap.size,0,none⟩) 2 2]] (w5.alloc (.cells #[.int .i64 (a':Int),.int .i64 (b2:Int)] 3)) _ from add_any HP6.out ⟨{ Nd.zero with kind:=kd,kids:=[(a':Int),(b2:Int)] },some (w5.heap.size,2)⟩ (own_lit2 w5 (b+1) (a':Int) (b2:Int) (by omega)) (by omega) (.slice (some ⟨w5.heap.size,0,none⟩) 2 2) rfl { Nd.zero with kind:=kd,kids:=[(a':Int),(b2:Int)] } rfl)
        clear hB6 HL HRT
        go_wp2_with (first
         | (go_at_call 110;((with_reducible refine HRT5.out.mono ?_);rintro e wn ⟨rfl,rfl⟩))
         | (go_at_call 109;((with_reducible refine HA.out.mono ?_);rintro e w7 ⟨h1,rfl,nv7,h3⟩;have HF7:=Lib.hid (HF6.out.trans h1);have HP7:=Lib.hid h3;clear h1 h3)))
        go_roundw
        case rel =>
         refine ⟨g,ns'++(ms++[{ Nd.zero with kind:=kd,kids:=[(a':Int),(b2:Int)] }]),vs.length+(ns'.length+ms.length),p5,nv7,us++(us5++[⟨{ Nd.zero with kind:=kd,kids:=[(a':Int),(b2:Int)] },some (w5.heap.size,2)⟩]),by omega, ?_, ?_, ?_, ?_, ?_, ?_,HF7⟩
         rotate_left 2
         · rw [HD5.out];exact H2
         · refine Lib.hid ?_
           rw [List.map_append,List.map_append,HU.out,HU5.out];rfl
         · refine Lib.hid ?_
           intro u hu j hj
           rcases List.mem_append.1 hu with hu | hu
           · exact HK.out u hu j hj
           · rcases List.mem_append.1 hu with hu | hu
             · have:=HK5.out u hu j hj;have:=HF4.out.size;omega
             · rw [List.mem_singleton.1 hu] at hj
               have hj:some w5.heap.size=some j:=hj
               injection hj with hj
               have:=HF5.out.size;omega
         · rw [← List.append_assoc, ← List.append_assoc];exact HP7
         · rw [List.length_append,List.length_append,List.length_singleton];omega
         · rw [List.length_append,List.length_append,List.length_append,List.length_append,List.length_singleton,List.length_singleton];omega
        case measure =>
         have h1:=HP7.out.psm ts.length
         rw [HM.out,h1];omega
def brP (f deep base:Nat) (ts:List Tk):Option Res :=
 if signIs ⟨#[40]⟩ ts=true then
  if 12≤deep then some (.error 6)
  else bindR (exprP f 0 (deep+1) base ts.tail) fun ns a r=>if signIs ⟨#[41]⟩ r=true then some (.ok (ns,a,r.tail)) else some (.error 5)
 else some (.error 5)
set_option maxRecDepth 100000 in
set_option maxHeartbeats 2000000 in
theorem inBrackets_any (f:Nat) (IH:EX f) {w:World} {b:Nat} {tv:Value} {ts:List Tk} {p deep:Nat} {nv:Value} {vs:List Nv} (h:Ps w b tv ts p deep nv vs) (res:Res) (hres:brP f deep vs.length (ts.drop p)=some res) :
 Calls Tryz.prog 114 #[.pointer (some ⟨b,0,none⟩)] w (Out res w b tv ts deep vs):=by
 have HS:=Lib.hid (isSign_any h ⟨#[40]⟩)
 unfold brP at hres
 have HP:=Lib.hid h
 cases hq:signIs ⟨#[40]⟩ (ts.drop p)
 · rw [hq,if_neg (by decide)] at hres
   injection hres with hres
   have HR:=Lib.hid hres.symm
   rw [hq] at HS
   clear hq hres h
   go_enter Tryz.func114,Tryz.ntmps114
   go_wp2_with (go_at_call 107;((with_reducible refine HS.out.mono ?_);rintro e w1 ⟨rfl,h1⟩;have HB:=Lib.hid h1;clear h1))
   go_ret
   exact Out.err HR.out (.inl rfl) (Fr.of b HB.out)
 · have hnx:=sign_next h hq
   rw [hq,if_pos rfl] at hres
   rw [hq] at HS
   by_cases hd:12≤deep
   · rw [if_pos hd] at hres
     injection hres with hres
     have HR:=Lib.hid hres.symm
     clear hq hres h
     go_enter Tryz.func114,Tryz.ntmps114
     go_wp2_with (first
      | (go_at_call 107;((with_reducible refine HS.out.mono ?_);rintro e w1 ⟨rfl,h1⟩;have HF1:=Lib.hid (Fr.of b h1);have HO1:=Lib.hid (popen_any (HP.out.below h1) hnx);clear h1))
      | (go_at_call 108;((with_reducible refine HO1.out.mono ?_);rintro e w2 ⟨h1,⟨-,rfl⟩ | ⟨h2, -⟩⟩;rotate_left;exact absurd hd h2;have HF2:=Lib.hid (HF1.out.trans h1);clear h1)))
     go_ret
     exact Out.err HR.out (.inr rfl) HF2.out
   · rw [if_neg hd,List.tail_drop] at hres
     rcases bindR_some hres with ⟨c,h1,rfl⟩ | ⟨ns,a,r,h1,h2⟩
     · have HI:=Lib.hid (fun w2 hps=>IH 0 (deep+1) _ w2 b tv ts (p+1) nv vs (by omega) hps h1)
       clear hq hres h IH h1
       go_enter Tryz.func114,Tryz.ntmps114
       go_wp2_with (first
        | (go_at_call 107;((with_reducible refine HS.out.mono ?_);rintro e w1 ⟨rfl,h1⟩;have HF1:=Lib.hid (Fr.of b h1);have HO1:=Lib.hid (popen_any (HP.out.below h1) hnx);clear h1))
        | (go_at_call 108;((with_reducible refine HO1.out.mono ?_);rintro e w2 ⟨h1,⟨h2, -⟩ | ⟨-,rfl,h3⟩⟩;exact absurd h2 hd;have HF2:=Lib.hid (HF1.out.trans h1);have HL:=Lib.hid (show Calls Tryz.prog 58 #[.pointer (some ⟨b,0,none⟩),.int .i64 0] w2 (Out (.error c) w2 b tv ts (deep+1) vs) from HI.out w2 h3);clear h1 h3))
        | (go_at_call 58;((with_reducible refine HL.out.mono ?_);intro e w5 ho;obtain ⟨hf,hc,rfl⟩:=ho.bad rfl;have HF5:=Lib.hid (HF2.out.trans hf);have HC:=Lib.hid hc;have hc0:(c != 0)=true:=(by rw [bne_iff_ne];rcases hc with h | h <;> omega);clear hf hc ho)))
       go_ret
       exact Out.err rfl HC.out HF5.out
     · have HI:=Lib.hid (fun w2 hps=>IH 0 (deep+1) _ w2 b tv ts (p+1) nv vs (by omega) hps h1)
       have H2:=Lib.hid h2
       clear hq hres h IH h1 h2
       go_enter Tryz.func114,Tryz.ntmps114
       go_upto_region 9 with (first
        | (go_at_call 107;((with_reducible refine HS.out.mono ?_);rintro e w1 ⟨rfl,h1⟩;have HF1:=Lib.hid (Fr.of b h1);have HZ1:=Lib.hid h1.size;have HO1:=Lib.hid (popen_any (HP.out.below h1) hnx);clear h1))
        | (go_at_call 108;((with_reducible refine HO1.out.mono ?_);rintro e w2 ⟨h1,⟨h2, -⟩ | ⟨-,rfl,h3⟩⟩;exact absurd h2 hd;have HF2:=Lib.hid (HF1.out.trans h1);have HL:=Lib.hid (show Calls Tryz.prog 58 #[.pointer (some ⟨b,0,none⟩),.int .i64 0] w2 (Out (.ok (ns,a,r)) w2 b tv ts (deep+1) vs) from HI.out w2 h3);clear h1 h3))
        | (go_at_call 58;((with_reducible refine HL.out.mono ?_);intro e w5 ho;obtain ⟨hf,rfl,p5,nv5,us5,hp5,hu5,hk5,hps5⟩:=ho.good rfl;have HF5:=Lib.hid (HF2.out.trans hf);have HC5:=Lib.hid (pclose_any hps5);have HD5:=Lib.hid hp5;have HU5:=Lib.hid hu5;have HK5:=Lib.hid hk5;clear hf ho hp5 hu5 hk5 hps5)))
       have h2:=H2.out
       rw [← HD5.out] at h2
       have hz:=HF2.out.size
       cases hs:signIs ⟨#[41]⟩ (ts.drop p5)
       · rw [hs,if_neg (by decide)] at h2
         injection h2 with h2
         have HR:=Lib.hid h2.symm
         rw [hs] at HC5
         clear h2 hs
         go_wp2_with (go_at_call 148;((with_reducible refine HC5.out.mono ?_);rintro e w6 ⟨h1,⟨-,rfl⟩ | ⟨h2, -⟩⟩;rotate_left;cases h2;have HF6:=Lib.hid (HF5.out.trans h1);clear h1))
         go_ret
         exact Out.err HR.out (.inl rfl) HF6.out
       · rw [hs,if_pos rfl,List.tail_drop] at h2
         injection h2 with h2
         have HR:=Lib.hid h2.symm
         rw [hs] at HC5
         clear h2 hs
         go_wp2_with (go_at_call 148;((with_reducible refine HC5.out.mono ?_);rintro e w6 ⟨h1,⟨h2, -⟩ | ⟨-,rfl,h3⟩⟩;cases h2;have HF6:=Lib.hid (HF5.out.trans h1);have HP6:=Lib.hid h3;clear h1 h3))
         go_ret
         exact ⟨HF6.out,.inr ⟨_,_,_,HR.out,rfl,p5+1,nv5,us5,rfl,HU5.out,fun u hu j hj=>Nat.le_trans hz (HK5.out u hu j hj),HP6.out⟩⟩
end Go.Proofs.YtnahgpjglooclaaGreatDoor
