/-
 Texts of layers, put together.
-/
import Derived.Test.YtnahgpjglooclaaGreatDoorDR8
import Derived.ChangeKeysEq
import Derived.Shelf.Abstract
import Derived.Test.YtnahgpjglooclaaGreatDoorCards
import Derived.Test.YtnahgpjglooclaaGreatDoorTie
import Derived.Shelf.Vars
import Derived.Deep.Strs
import Derived.ProofKit
import Derived.OpenShut
import Derived.Deep.DeepHandedRow
import Derived.Lib.LaidTab
import Derived.Stop.LaidErr
import Derived.Lay
namespace Go.Proofs.YtnahgpjglooclaaGreatDoor
open Go.RowKit
theorem two_cells {w:World} {A:Option Addr} {s:Sv} (h:BkR w w.heap.size (.slice A 1 1) [s]) (hs:TwoS s) (c:Nat) (t:ByteArray) (ht:[txB1,txA1][c]? = some t):GetIs w A 1 1 ⟨nA1,0,c⟩ t:=fun w1 h1=>by
 obtain ⟨R,cp,hr⟩:=hs.rows
 have hc:c<2:=(List.getElem?_eq_some_iff.1 ht).1
 have ho:SpotR [s] nA1 ((0:Nat):Int) (c:Int) (some (0,s,0,⟨R,cp,[txB1,txA1]⟩,c)):=by
  refine ⟨⟨rfl,hs.nm,fun j _ hj _=>absurd hj (Nat.not_lt_zero _)⟩,rfl,by rw [hr];rfl,rfl,hc⟩
 have hg:=get_any w1 A 1 1 [s] nA1 ((0:Nat):Int) (c:Int) _ (h.lift h1) (by decide) ho
 have he:txO (some (0,s,0,(⟨R,cp,[txB1,txA1]⟩:Rv),c))=t:=by
  show [txB1,txA1].getD c ⟨#[]⟩=t
  rw [List.getD_eq_getElem?_getD,ht];rfl
 rw [he] at hg
 exact hg
set_option maxRecDepth 100000 in
set_option maxHeartbeats 4000000 in
theorem order_two (w:World) (A:Option Addr) (s:Sv) (h:BkR w w.heap.size (.slice A 1 1) [s]) (hs:TwoS s) (hx:Cx w) :
 Calls Tryz.prog 5 #[.agg #[.slice A 1 1]] w fun e w'=>Below w.heap.size w w'∧∃ v xs,e = .returned (.tuple #[.slice none 0 0,v])∧Own encSp 35 w' w.heap.size v xs∧xs.length=2:=by
 obtain ⟨R,cp,hr⟩:=hs.rows
 obtain ⟨n1,a1,e1⟩:=txB1_e
 obtain ⟨n2,a2,e2⟩:=txA1_e
 have hn1:=e1.norm (by decide +kernel)
 have hn2:=e2.norm (by decide +kernel)
 have htx:∀ t∈[s],∀ r∈t.rows,∀ x∈r.l,x=txB1∨x=txA1:=fun t ht r hrr x hxx=>by
  rw [List.mem_singleton.1 ht,hr] at hrr
  rw [List.mem_singleton.1 hrr] at hxx
  simpa using hxx
 have hok:BkOk [s]:=by
  refine ⟨(by decide:1≤5),⟨by rw [hs.nm];decide +kernel,trivial⟩,fun t ht => ?_⟩
  rw [List.mem_singleton.1 ht]
  refine ⟨by rw [hs.nm];decide +kernel,by rw [hs.nm];decide,by rw [hs.cols];decide,by rw [hs.cols];decide,by rw [hr];exact (by decide:1≤24),fun r hrr => ?_⟩
  rw [hr] at hrr
  rw [List.mem_singleton.1 hrr,hs.cols];rfl
 have hsz:∀ t∈[s],t.rows.length≤100∧∀ r∈t.rows,r.l.length≤100:=fun t ht=>by
  rw [List.mem_singleton.1 ht,hr]
  exact ⟨(by decide:1≤100),fun r hrr=>by rw [List.mem_singleton.1 hrr];exact (by decide:2≤100)⟩
 have hff:∀ w0,Below w.heap.size w w0→FmB (fun _=>true) w0 [s]:=fun w0 h0 t ht r hrr x hxx w1 h1=>by
  have hb:=h0.trans (h1.mono h0.size)
  rcases htx t ht r hrr x hxx with rfl | rfl
  · exact (e1.form hx w1 hb).mono fun e w' ⟨g,c,l,he,_,_,hbb⟩=>⟨⟨_,he⟩,hbb⟩
  · exact (e2.form hx w1 hb).mono fun e w' ⟨g,c,l,he,_,_,hbb⟩=>⟨⟨_,he⟩,hbb⟩
 have hnd:∀ w0,Below w.heap.size w w0→NdB w0 A 1 1 twoL twoN:=fun w0 h0 q hq w1 h1=>by
  have hb:=h0.trans (h1.mono h0.size)
  have hk:=h.lift hb
  have hx1:=hx.below hb
  rcases (show q=⟨nA1,0,0⟩∨q=⟨nA1,0,1⟩ by simpa [twoL] using hq) with rfl | rfl
  · have hn:=needs_any w1 A 1 1 [s] ⟨nA1,0,0⟩ txB1 n1 hk (by decide) hsz e1.few (two_cells hk hs 0 txB1 rfl) (e1.form hx1)
    rw [show areasL (Spt.nm ⟨nA1,0,0⟩) n1=[a1] from e1.ar,needs_one s hs a1 1 (.inr rfl) e1.at_] at hn
    exact hn
  · have hn:=needs_any w1 A 1 1 [s] ⟨nA1,0,1⟩ txA1 n2 hk (by decide) hsz e2.few (two_cells hk hs 1 txA1 rfl) (e2.form hx1)
    rw [show areasL (Spt.nm ⟨nA1,0,1⟩) n2=[a2] from e2.ar,needs_one s hs a2 0 (.inl rfl) e2.at_] at hn
    exact hn
 have hsp:∀ q:Spt,q=⟨nA1,0,0⟩∨q=⟨nA1,0,1⟩→SpSz q:=fun q hq=>by
  rcases hq with rfl | rfl <;> exact ⟨by decide,by decide,by decide⟩
 have ho:=order_none w A 1 1 twoL twoN
  (fun w1 h1=>mayB_any w1 A 1 1 [s] (h.lift h1) hok (fun t ht r hrr x hxx w2 h2=>by
    have hb:=h1.trans (h2.mono h1.size)
    rcases htx t ht r hrr x hxx with rfl | rfl
    · exact mayc_any txB1 hn1 w2 (hx.below hb)
    · exact mayc_any txA1 hn2 w2 (hx.below hb)))
  (fun w1 h1=>webOf_any w1 A 1 1 [s] (fun _=>true) twoL twoN 1 (h.lift h1) (by decide) hsz (hff w1 h1) (two_fs s hs)
    (fun i j q hi hj=>by
      have hi2:=(List.getElem?_eq_some_iff.1 hi).1
      have hj2:=(List.getElem?_eq_some_iff.1 hj).1
      have hi3:i<2:=hi2
      have hj3:j<2:=hj2
      rcases (show i=0∨i=1 by omega) with rfl | rfl <;> rcases (show j=0∨j=1 by omega) with rfl | rfl
      · rfl
      · rw [← hj] at hi;exact absurd (congrArg (Option.map Spt.c) hi) (by decide)
      · rw [← hj] at hi;exact absurd (congrArg (Option.map Spt.c) hi) (by decide)
      · rfl)
    (fun q hq=>hsp q (by simpa [twoL] using hq))
    (fun q hq t ht=>hsp t (by
      unfold twoN at ht
      split at ht
      · exact .inr (List.mem_singleton.1 ht)
      · exact .inl (List.mem_singleton.1 ht)))
    (by decide) (fun q hq=>by unfold twoN;split <;> exact Nat.le_refl _) (by decide) (hnd w1 h1))
  (by decide) (fun x hxx=>by
    have h2:x∈(webF twoL twoN 2).2:=hxx
    rw [two_web] at h2
    simp at h2
    omega)
 refine ho.mono fun e w' hq => ?_
 obtain ⟨hb,v,he,hv⟩:=hq
 refine ⟨hb,v,_,he,hv, ?_⟩
 show (stuckL twoL (webF twoL twoN 2).2 2).length=2
 rw [two_web];rfl
set_option maxRecDepth 100000 in
set_option maxHeartbeats 4000000 in
theorem awake13 (w:World) (hx:Cx w):Calls Tryz.prog 6 #[] w fun e w'=>e = .returned (.bool true)∧Below w.heap.size w w':=by
 have HX:=Lib.hid hx
 clear hx
 go_enter Tryz.func6,Tryz.ntmps6
 go_wp2_with (first
  | (go_at_call 11;((with_reducible refine (two_any _).mono ?_);rintro e w1 ⟨h1,A,s,rfl,h2,h3⟩;have HB:=Lib.hid h1;have HK:=Lib.hid h2;have HT:=Lib.hid h3;clear h1 h2 h3))
  | (go_at_call 5;((with_reducible refine (order_two w1 A s HK.out HT.out (HX.out.below HB.out)).mono ?_);rintro e w2 ⟨h1,v,xs,rfl,h2,h3⟩;obtain ⟨Av,cv,rfl⟩:=own_sl h2;rw [h3];have HB2:=Lib.hid (HB.out.trans (h1.mono HB.out.size));clear h1 h2 h3)))
 all_goals go_ret
 all_goals exact ⟨rfl,HB2.out⟩
theorem rd_method (w:World) (b:Nat) (v:Value) (s:String) (f:Nat) (h:HpAt w b v)
 (hm:((Tryz.prog.info? 57).bind fun i=>(i.methods.find? (·.name == s)).map fun m=>(m.path,m.func))=some (#[⟨62,0,true⟩],some (f,false))) :
 (method (Tryz.prog.types.size+Made.depth) 57 (.pointer (some ⟨b,0,none⟩)) s).run Tryz.prog w = .ok (f,v) w:=by
 have hc:=h.cell
 have hs:Tryz.prog.types.size+Made.depth=(Tryz.prog.types.size+Made.depth - 1)+1:=by kernel_rfl
 obtain ⟨i,hi,hm⟩:=Option.bind_eq_some_iff.1 hm
 obtain ⟨m,hf,hm⟩:=Option.map_eq_some_iff.1 hm
 obtain ⟨h1,h2⟩:=Prod.mk.inj hm
 have hz:(sizeOf 60).run Tryz.prog w = .ok 1 w:=by kernel_rfl
 rw [hs]
 unfold method
 rw [Sem.run_bind,run_typeInfo w hi]
 simp only [Result.andThen_ok,hf,h1,h2]
 rw [Sem.run_bind]
 simp only [follow,Place.get,Sem.run_bind,Sem.run_pure,Result.andThen_ok,run_underlying Tryz.underlying62,asAddr]
 rw [show (#[(⟨"IntSlice", 60, 0, true, "", "", 0⟩ : Field)] : Array Field)[0]? = some ⟨"IntSlice", 60, 0, true, "", "", 0⟩ from rfl]
 simp only [if_true,Sem.run_bind,Sem.run_pure,Result.andThen_ok,fieldPlace,hz]
 rw [if_neg (by decide:¬ (1:Nat)=0)]
 simp only [Sem.run_pure,Result.andThen_ok,receiverAt,Sem.run_bind,run_underlying Tryz.underlying60,Place.get,loadVar]
 rw [Go.Proofs.run_isAgg_plain Tryz.underlying60 rfl]
 simp only [Result.andThen_ok,Bool.false_eq_true,if_false,run_load,Addr.add,Nat.add_zero,ite_self,hc]
theorem rd_len (w : World) (b : Nat) (v : Value) (h : HpAt w b v) : (method (Tryz.prog.types.size + Made.depth) 57 (.pointer (some ⟨b, 0, none⟩)) "Len").run Tryz.prog w = .ok (18, v) w := rd_method w b v _ _ h (by kernel_rfl)
theorem rd_swap (w : World) (b : Nat) (v : Value) (h : HpAt w b v) : (method (Tryz.prog.types.size + Made.depth) 57 (.pointer (some ⟨b, 0, none⟩)) "Swap").run Tryz.prog w = .ok (233, v) w := rd_method w b v _ _ h (by kernel_rfl)
theorem rd_push (w : World) (b : Nat) : (method (Tryz.prog.types.size + Made.depth) 57 (.pointer (some ⟨b, 0, none⟩)) "Push").run Tryz.prog w = .ok (231, .pointer (some ⟨b, 0, none⟩)) w := by kernel_rfl
theorem rd_pop (w : World) (b : Nat) : (method (Tryz.prog.types.size + Made.depth) 57 (.pointer (some ⟨b, 0, none⟩)) "Pop").run Tryz.prog w = .ok (230, .pointer (some ⟨b, 0, none⟩)) w := by kernel_rfl
structure HpFr (w w':World) (rb:Nat) (v:Value):Prop where
 os:w'.os=w.os
 tape:w'.tape=w.tape
 output:w'.output=w.output
 size:w.heap.size≤w'.heap.size
 block:∀ k,k<w.heap.size→k≠rb→v.ownBlock≠some k→w'.heap[k]? = w.heap[k]?
structure RdI (w:World) (B rb:Nat) (v:Value) (xs:List Int):Prop where
 at':HpAt w rb v
 own:Own (encInt .i64) 3 w B v xs
 low:rb<B
 size:B≤w.heap.size
theorem HpFr.trans0 {a b c:World} {rb:Nat} {v:Value} (h:Below a.heap.size a b) (k:HpFr b c rb v):HpFr a c rb v :=
 ⟨k.os.trans h.os,k.tape.trans h.tape,k.output.trans h.output,Nat.le_trans h.size k.size,fun g h1 h2 h3=>(k.block g (Nat.lt_of_lt_of_le h1 h.size) h2 h3).trans (h.block g h1)⟩
theorem HpAt.keep {w w':World} {b:Nat} {v:Value} (h:HpAt w b v) (hk:w'.heap[b]? = w.heap[b]?):HpAt w' b v:=by unfold HpAt;rw [hk];exact h
theorem Elem.is:Elem Tryz.prog 60 3 1 8:=⟨Tryz.underlying60,⟨.int .i64 0,by kernel_rfl,rfl⟩,by decide⟩
theorem HpAt.set {w:World} {b:Nat} {v:Value} (h:HpAt w b v) (u:Value):HpAt (w.setCell ⟨b,0,none⟩ u) b u:=by
 unfold HpAt
 rw [heap_setCell_same w b 0 _ _ u h];rfl
theorem HpAt.frozen {w:World} {b:Nat} {v:Value} (h:HpAt w b v):w.frozen? ⟨b,0,none⟩=false:=frozen_of_row w b 0 _ _ h
theorem RdI.fr {w w':World} {B rb:Nat} {v u:Value} {xs ys:List Int} (h:RdI w B rb v xs) (hg:w.grownBy w' v.ownBlock) (ho:Own (encInt .i64) 3 w' B u ys):HpAt w' rb v∧RdI (w'.setCell ⟨rb,0,none⟩ u) B rb u ys∧HpFr w (w'.setCell ⟨rb,0,none⟩ u) rb v:=by
 have hlo:=h.low;have hsz:=h.size
 have h1:HpAt w' rb v:=h.at'.keep (hg.block rb h.at'.lt fun e=>by have:=(h.own.lies e.symm).1;omega)
 have hk:∀ g,g≠rb→(w'.setCell ⟨rb,0,none⟩ u).heap[g]? = w'.heap[g]? := fun g hg=>heap_setCell_other w' ⟨rb,0,none⟩ g u hg
 have hs:(w'.setCell ⟨rb,0,none⟩ u).heap.size=w'.heap.size:=World.size_setCell ..
 refine ⟨h1,⟨h1.set u,ho.keep fun g hl _ _=>hk g (by omega),h.low,by rw [hs];exact Nat.le_trans h.size hg.size⟩, ?_⟩
 obtain ⟨f1,f2,f3,f4, -⟩:=(show Below 0 w' (w'.setCell ⟨rb,0,none⟩ u) from (Below.refl 0 w').setCell (Nat.zero_le rb) u)
 exact ⟨f1.trans hg.os,f2.trans hg.tape,f3.trans hg.output,Nat.le_trans hg.size f4,fun k hk1 hk2 hk3=>(hk k hk2).trans (hg.block k hk1 fun e=>hk3 e.symm)⟩
set_option maxRecDepth 100000 in
set_option maxHeartbeats 4000000 in
theorem pushM_any (w:World) (B rb:Nat) (v:Value) (xs:List Int) (x:Int) (h:RdI w B rb v xs) (hl:xs.length<1000000) :
 Calls Tryz.prog 231 #[.pointer (some ⟨rb,0,none⟩),.iface 3 (.int .i64 x)] w fun e w'=>e = .returned (.tuple #[])∧∃ v',RdI w' B rb v' (xs++[x])∧HpFr w w' rb v∧(v'.ownBlock=v.ownBlock∨v'.ownBlock=some (w.heap.size+1)):=by
 obtain ⟨A,cap,hv⟩:=own_sl h.own
 have HI:=Lib.hid h
 have HL:=Lib.hid hl
 clear hl h
 go_enter Tryz.func231,Tryz.ntmps231
 go_upto_region 0 with (fail)
 have HD:=Lib.hid (show HpAt w.drew rb v from HI.out.at')
 have HBA:=Lib.hid (show Below w.drew.heap.size w.drew (w.drew.alloc (.cells #[.int .i64 x] 3)) from (Below.refl _ _).alloc (Nat.le_refl _) _)
 have HAA:=Lib.hid (HD.out.over HBA.out)
 have HOA:=Lib.hid ((show Own (encInt .i64) 3 w.drew B v xs from HI.out.own.drew).below HBA.out (Nat.le_refl _))
 have HRA:=Lib.hid (show RdI (w.drew.alloc (.cells #[.int .i64 x] 3)) B rb v xs from ⟨HAA.out,HOA.out,HI.out.low,Nat.le_trans HI.out.size HBA.out.size⟩)
 have HFA:=Lib.hid (show Below w.heap.size w (w.drew.alloc (.cells #[.int .i64 x] 3)) from (Below.drew (Below.refl w.heap.size w)).trans HBA.out)
 subst hv
 have c0:=HD.out.cell
 have c1:=HAA.out.cell
 have c2:(w.alloc (.cells #[.int .i64 x] 3)).cell? ⟨rb,0,none⟩=some (.slice A xs.length cap):=c1
 refine wp_region_held_drew (S:=fun _=>True) (by kernel_rfl) trivial (fun _ => ?_)
 show wpAnyH _ _ _ _ _ 12 #[false,false,false,false,false,false,false,false,false,false,false,false] _ _
 have hta:∀ (T:Nat) (wS:World),(Instr.typeAssert (.iface 3 (.int .i64 x)) T 3 false).run Tryz.prog wS = .ok (.int .i64 x) wS:=fun _ _=>by kernel_rfl
 refine hT 0 trivial ?_
 refine hT 1 trivial ?_
 refine hT 2 trivial ?_
 refine hT 3 trivial ?_
 refine hT 5 trivial ?_
 refine hT 6 trivial ?_
 refine hP 4 7 (fun K hK => ?_) (fun K hK => ?_)
 · go_simp
   refine hK.out _ _ trivial ?_
   clear hK K
   simp only [Act.put,sT,sZ,sS]
   refine hO 7 (fun K hK => ?_)
   go_simp
   refine hK.out _ _ trivial ?_
   clear hK K
   simp only [Act.put,sT,sZ,sS]
   refine hO 8 (fun K hK => ?_)
   refine wp_app_at Elem.is (encInt .i64) (.tmp 8) (.tmp 11) rfl B (.slice A xs.length cap) xs ?_ HOA.out ⟨w.drew.heap.size,0,none⟩ 1 1 [x] ?_ rfl ?_ ?_ ?_ ?_ ?_
   · go_simp
   · go_simp
   · exact cells_new _ _ _ rfl
   · have h:=HL.out;omega
   · have h:=HL.out;unfold maxLen;omega
   · exact HRA.out.size
   intro v8 w8 h1 h2 h3
   obtain ⟨A8,c8,hv8⟩:=own_sl h1
   rw [List.length_append,List.length_singleton] at hv8
   subst hv8
   obtain ⟨h4,h5,h6⟩:=HRA.out.fr h2 h1
   have h7:=h4.cell;have h8:=h4.frozen
   have HR5:=Lib.hid h5;have HF6:=Lib.hid h6;have HN:=Lib.hid h3
   clear h1 h2 h3 h4 h5 h6
   refine hK.out _ _ trivial ?_
   clear hK K
   simp only [Act.put,sT,sZ,sS]
   refine hT 9 trivial ?_
   refine hT 10 trivial ?_
   refine hO 11 (fun K hK => ?_)
   go_simp
   refine hK.out undef _ trivial ?_
   clear hK K h7 h8
   simp only [Act.put]
   refine wpAnyH_done (by kernel_rfl) ?_ _
   go_wp2_with fail
   first | (refine bodyPost_end (results_none rfl _ _ _) rfl ?_) | (refine bodyPost_ret (results_none rfl _ _ _) rfl ?_)
   exact ⟨rfl,_,HR5.out,HpFr.trans0 HFA.out HF6.out,HN.out.imp id fun e=>e.trans (congrArg some (World.size_alloc _ _))⟩
 · go_simp
   refine hK.out _ _ trivial ?_
   clear hK K
   simp only [Act.put,sT,sZ,sS]
   refine hO 4 (fun K hK => ?_)
   go_simp
   refine hK.out _ _ trivial ?_
   clear hK K
   simp only [Act.put,sT,sZ,sS]
   refine hO 8 (fun K hK => ?_)
   refine wp_app_at Elem.is (encInt .i64) (.tmp 8) (.tmp 11) rfl B (.slice A xs.length cap) xs ?_ HOA.out ⟨w.drew.heap.size,0,none⟩ 1 1 [x] ?_ rfl ?_ ?_ ?_ ?_ ?_
   · go_simp
   · go_simp
   · exact cells_new _ _ _ rfl
   · have h:=HL.out;omega
   · have h:=HL.out;unfold maxLen;omega
   · exact HRA.out.size
   intro v8 w8 h1 h2 h3
   obtain ⟨A8,c8,hv8⟩:=own_sl h1
   rw [List.length_append,List.length_singleton] at hv8
   subst hv8
   obtain ⟨h4,h5,h6⟩:=HRA.out.fr h2 h1
   have h7:=h4.cell;have h8:=h4.frozen
   have HR5:=Lib.hid h5;have HF6:=Lib.hid h6;have HN:=Lib.hid h3
   clear h1 h2 h3 h4 h5 h6
   refine hK.out _ _ trivial ?_
   clear hK K
   simp only [Act.put,sT,sZ,sS]
   refine hT 9 trivial ?_
   refine hT 10 trivial ?_
   refine hO 11 (fun K hK => ?_)
   go_simp
   refine hK.out undef _ trivial ?_
   clear hK K h7 h8
   simp only [Act.put]
   refine wpAnyH_done (by kernel_rfl) ?_ _
   go_wp2_with fail
   first | (refine bodyPost_end (results_none rfl _ _ _) rfl ?_) | (refine bodyPost_ret (results_none rfl _ _ _) rfl ?_)
   exact ⟨rfl,_,HR5.out,HpFr.trans0 HFA.out HF6.out,HN.out.imp id fun e=>e.trans (congrArg some (World.size_alloc _ _))⟩
theorem Own.frontI {w:World} {t:TypeId} {base n c:Nat} {A:Option Addr} {st:List Int} (h:Own (encInt .i64) t w base (.slice A n c) st) {f:Nat} (hf:f≤st.length):Own (encInt .i64) t w base (.slice A f c) (st.take f):=by
 unfold Own at h ⊢
 obtain ⟨h1,h2⟩:=h
 have hl:(st.take f).length=f:=by rw [List.length_take];omega
 rw [hl]
 refine ⟨by rw [all_encInt,List.length_map,hl];omega, ?_⟩
 rcases h2 with ⟨h3,h4⟩ | ⟨g,cap,cur,h3,h4,h5,h6,h7,h8,h9⟩
 · injection h3 with e1 e2 e3
   subst e1;subst e3
   have:f=0:=by omega
   subst this
   exact .inl ⟨rfl,rfl⟩
 · injection h3 with e1 e2 e3
   subst e1;subst e3
   refine .inr ⟨g,c,cur,rfl,h4,h5,by omega,h7,h8, ?_⟩
   rw [all_encInt] at h9 ⊢
   rw [List.map_take, ← h9,List.take_take]
   congr 1;omega
set_option maxRecDepth 100000 in
theorem len_any (w:World) (A:Option Addr) (n c:Nat):Calls Tryz.prog 18 #[.slice A n c] w fun e w'=>e = .returned (.int .i64 (n:Int))∧w=w':=by
 go_enter Tryz.func18,Tryz.ntmps18
 go_wp2
 go_ret
 exact ⟨rfl,rfl⟩
set_option maxRecDepth 100000 in
set_option maxHeartbeats 4000000 in
theorem popM_any (w:World) (B rb:Nat) (v:Value) (ys:List Int) (x:Int) (h:RdI w B rb v (ys++[x])) (hl:ys.length<1000000) :
 Calls Tryz.prog 230 #[.pointer (some ⟨rb,0,none⟩)] w fun e w'=>e = .returned (.iface 3 (.int .i64 x))∧∃ v',RdI w' B rb v' ys∧HpFr w w' rb v∧v'.ownBlock=v.ownBlock:=by
 obtain ⟨A,cap,hv⟩:=own_sl h.own
 have hx:(ys++[x])[ys.length]? = some x:=by simp
 rw [List.length_append,List.length_singleton] at hv
 have HI:=Lib.hid h
 have c0:=h.at'.cell;have f0:=h.at'.frozen
 rw [hv] at c0 h
 have HO:=Lib.hid h.own
 obtain ⟨g,hA,hcp⟩:∃ g,A=some ⟨g,0,none⟩∧ys.length≤cap:=by
  rcases h.own.shape with ⟨e,e2⟩ | ⟨g,cap2,e,k1,k2,k3, -⟩
  · simp at e2
  · injection e with e1 e2 e3
    rw [List.length_append,List.length_singleton] at k3
    exact ⟨g,e1,by omega⟩
 subst hA
 have c1:w.cell? ⟨g,ys.length,none⟩=some (.int .i64 x):=by
  have h1:=h.own.intCell ys.length (by simp)
  rw [h1];simp
 have hiw:IntKind.i64.wrap ((ys.length:Int)+1 - 1)=(ys.length:Int):=by rw [IntKind.wrap_i64];omega
 have h0:(0:Int)≤(ys.length:Int):=by omega
 have h1:(ys.length:Int)<(ys.length:Int)+1:=by omega
 clear h hx
 go_enter Tryz.func230,Tryz.ntmps230
 go_wp2_with (go_at_call 18;((with_reducible refine (len_any _ _ _ _).mono ?_);rintro e w2 ⟨rfl,rfl⟩))
 go_ret
 have hp:=HI.out.fr (u := .slice (some ⟨g,0,none⟩) ys.length cap) (ys:=ys) (w':=w) ⟨rfl,rfl,rfl,Nat.le_refl _,fun _ _ _=>rfl⟩ (by have h:=HO.out.frontI (f:=ys.length) (by simp);simpa using h)
 exact ⟨rfl,_,hp.2.1,hp.2.2,by rw [hv];rfl⟩
theorem Own.put1 {α : Type} {E:Enc α 1} {e:TypeId} {w:World} {lo g n cap:Nat} {xs:List α} (h:Own E e w lo (.slice (Option.some ⟨g,0,none⟩) n cap) xs) (i:Nat) (x : α) (u:Value) (hu:E.f x=[u]):Own E e (w.setCell ⟨g,i,none⟩ u) lo (.slice (Option.some ⟨g,0,none⟩) n cap) (xs.set i x):=by
 obtain ⟨h1,h2⟩:=h
 refine ⟨by rw [E.length_all], ?_⟩
 rcases h2 with ⟨h3,_⟩ | ⟨g',cap',cur,h3,h4,h5,h6,h7,h8,h9⟩
 · cases h3
 · injection h3 with h3 h3' h3''
   injection h3 with h3
   injection h3 with h3
   subst h3
   refine .inr ⟨g,cap',_, ?_,h4,heap_setCell_same w g i cur e u h5, ?_,h7,by rw [Array.size_setIfInBounds];exact h8, ?_⟩
   · rw [List.length_set, ← h3', ← h3'']
   · rw [List.length_set];exact h6
   · rw [List.length_set,all_set1 E xs i x u hu, ← h9,Array.toList_setIfInBounds,List.take_set]
theorem rd_lenN (n : Nat) (w : World) (b : Nat) (v : Value) (hn : n = Tryz.prog.types.size + Made.depth) (h : HpAt w b v) : (method n 57 (.pointer (some ⟨b, 0, none⟩)) "Len").run Tryz.prog w = .ok (18, v) w := by rw [hn]; exact rd_len w b v h
theorem rd_swapN (n : Nat) (w : World) (b : Nat) (v : Value) (hn : n = Tryz.prog.types.size + Made.depth) (h : HpAt w b v) : (method n 57 (.pointer (some ⟨b, 0, none⟩)) "Swap").run Tryz.prog w = .ok (233, v) w := by rw [hn]; exact rd_swap w b v h
theorem grown_two (w:World) (g i j:Nat) (u v:Value):w.grownBy ((w.setCell ⟨g,i,none⟩ u).setCell ⟨g,j,none⟩ v) (some g):=by
 obtain ⟨h1,h2,h3,h4, -⟩:=(show Below 0 w ((w.setCell ⟨g,i,none⟩ u).setCell ⟨g,j,none⟩ v) from ((Below.refl 0 w).setCell (Nat.zero_le g) u).setCell (Nat.zero_le g) v)
 refine ⟨h1,h2,h3,h4,fun k _ hne => ?_⟩
 have hk:k≠g:=fun e=>hne (congrArg some e)
 exact (heap_setCell_other _ ⟨g,j,none⟩ k v hk).trans (heap_setCell_other w ⟨g,i,none⟩ k u hk)
set_option maxRecDepth 100000 in
set_option maxHeartbeats 4000000 in
theorem swap_any (w:World) (B g n cap:Nat) (xs:List Int) (i j:Nat) (xi xj:Int) (ho:Own (encInt .i64) 3 w B (.slice (some ⟨g,0,none⟩) n cap) xs) (hi:xs[i]? = some xi) (hj:xs[j]? = some xj) :
 Calls Tryz.prog 233 #[.slice (some ⟨g,0,none⟩) n cap,.int .i64 (i:Int),.int .i64 (j:Int)] w fun e w'=>e = .returned (.tuple #[])∧Own (encInt .i64) 3 w' B (.slice (some ⟨g,0,none⟩) n cap) ((xs.set i xj).set j xi)∧w.grownBy w' (some g):=by
 have hn:n=xs.length:=by obtain ⟨A,c,e⟩:=own_sl ho;injection e
 have hin:i<n:=by have:=(List.getElem?_eq_some_iff.1 hi).1;omega
 have hjn:j<n:=by have:=(List.getElem?_eq_some_iff.1 hj).1;omega
 have c0:w.cell? ⟨g,i,none⟩=some (.int .i64 xi):=by rw [ho.intCell i (by omega),List.getD_eq_getElem?_getD,hi];rfl
 have c1:w.cell? ⟨g,j,none⟩=some (.int .i64 xj):=by rw [ho.intCell j (by omega),List.getD_eq_getElem?_getD,hj];rfl
 have f0:∀ k,w.frozen? ⟨g,k,none⟩=false:=by
  obtain ⟨_,cur,h⟩:=ho.lies (g:=g) rfl
  exact fun k=>frozen_of_row w g k _ _ h
 have i0:(0:Int)≤(i:Int):=by omega
 have i1:(i:Int)<(n:Int):=by omega
 have j0:(0:Int)≤(j:Int):=by omega
 have j1:(j:Int)<(n:Int):=by omega
 have HO:=Lib.hid ho
 have hlj:j<(xs.set i xj).length:=by rw [List.length_set];omega
 have HO1:=Lib.hid (ho.put1 i xj (.int .i64 xj) rfl)
 have e1:(w.setCell ⟨g,i,none⟩ (.int .i64 xj)).cell? ⟨g,j,none⟩=some (.int .i64 ((xs.set i xj).getD j 0)):=HO1.out.intCell j hlj
 have HO2:=Lib.hid (HO1.out.put1 j xi (.int .i64 xi) rfl)
 have HG:=Lib.hid (grown_two w g i j (.int .i64 xj) (.int .i64 xi))
 clear ho hi hj hn hlj
 go_enter Tryz.func233,Tryz.ntmps233
 go_upto_region 0 with (fail)
 have d0:w.drew.cell? ⟨g,i,none⟩=some (.int .i64 xi):=c0
 have d1:w.drew.cell? ⟨g,j,none⟩=some (.int .i64 xj):=c1
 refine wp_region_held_drew (S:=fun _=>True) (by kernel_rfl) trivial (fun _ => ?_)
 show wpAnyH _ _ _ _ _ 16 #[false,false,false,false,false,false,false,false,false,false,false,false,false,false,false,false] _ _
 refine hT 0 trivial ?_
 refine hT 1 trivial ?_
 refine hT 2 trivial ?_
 refine hT 3 trivial ?_
 refine hT 4 trivial ?_
 refine hT 5 trivial ?_
 refine hT 6 trivial ?_
 refine hT 8 trivial ?_
 refine hT 9 trivial ?_
 refine hT 10 trivial ?_
 refine hP 7 11 (fun K hK => ?_) (fun K hK => ?_)
 · go_simp
   refine hK.out _ _ trivial ?_
   clear hK K
   simp only [Act.put,sT,sZ,sS]
   refine hO 11 (fun K hK => ?_)
   go_simp
   refine hK.out _ _ trivial ?_
   clear hK K
   simp only [Act.put,sT,sZ,sS]
   refine hT 12 trivial ?_
   refine hO 13 (fun K hK => ?_)
   go_simp
   refine hK.out undef _ trivial ?_
   clear hK K
   simp only [Act.put]
   refine hT 14 trivial ?_
   refine hO 15 (fun K hK => ?_)
   go_simp
   refine hK.out undef _ trivial ?_
   clear hK K
   simp only [Act.put]
   refine wpAnyH_done (by kernel_rfl) ?_ _
   go_wp2_with fail
   first | (refine bodyPost_end (results_none rfl _ _ _) rfl ?_) | (refine bodyPost_ret (results_none rfl _ _ _) rfl ?_)
   exact ⟨rfl,HO2.out.drew,⟨HG.out.os,HG.out.tape,HG.out.output,HG.out.size,HG.out.block⟩⟩
 · go_simp
   refine hK.out _ _ trivial ?_
   clear hK K
   simp only [Act.put,sT,sZ,sS]
   refine hO 7 (fun K hK => ?_)
   go_simp
   refine hK.out _ _ trivial ?_
   clear hK K
   simp only [Act.put,sT,sZ,sS]
   refine hT 12 trivial ?_
   refine hO 13 (fun K hK => ?_)
   go_simp
   refine hK.out undef _ trivial ?_
   clear hK K
   simp only [Act.put]
   refine hT 14 trivial ?_
   refine hO 15 (fun K hK => ?_)
   go_simp
   refine hK.out undef _ trivial ?_
   clear hK K
   simp only [Act.put]
   refine wpAnyH_done (by kernel_rfl) ?_ _
   go_wp2_with fail
   first | (refine bodyPost_end (results_none rfl _ _ _) rfl ?_) | (refine bodyPost_ret (results_none rfl _ _ _) rfl ?_)
   exact ⟨rfl,HO2.out.drew,⟨HG.out.os,HG.out.tape,HG.out.output,HG.out.size,HG.out.block⟩⟩
set_option maxRecDepth 100000 in
set_option maxHeartbeats 4000000 in
theorem up_zero (w:World) (h:Value):Calls Tryz.prog 32 #[h,.int .i64 0] w fun e w'=>e = .returned (.tuple #[])∧w=w':=by
 go_enter Tryz.func32,Tryz.ntmps32
 go_wp2_with fail
 go_loopw [1] (fun jv wr=>jv = .int .i64 0∧w=wr) (fun _ _=>0)
 case atStart=>exact ⟨rfl,rfl⟩
 case round =>
  obtain ⟨rfl,rfl⟩:=hrel
  go_wp2_with fail
  (try simp only [Exit.inBlock,Exit.then])
  first | (refine bodyPost_end (results_none rfl _ _ _) rfl ?_) | (refine bodyPost_ret (results_none rfl _ _ _) rfl ?_)
  exact ⟨rfl,rfl⟩
set_option maxRecDepth 100000 in
set_option maxHeartbeats 4000000 in
theorem push_zero (w:World) (B rb:Nat) (v:Value) (x:Int) (h:RdI w B rb v []) :
 Calls Tryz.prog 20 #[.iface 57 (.pointer (some ⟨rb,0,none⟩)),.iface 3 (.int .i64 x)] w fun e w'=>e = .returned (.tuple #[])∧∃ v',RdI w' B rb v' [x]∧HpFr w w' rb v∧(v'.ownBlock=v.ownBlock∨v'.ownBlock=some (w.heap.size+1)):=by
 have HP:=Lib.hid (pushM_any w B rb v [] x h (by simp))
 have m1:=rd_push w rb
 clear h
 go_enter Tryz.func20,Tryz.ntmps20
 go_wp2_with (first
  | (go_at_call 231;((with_reducible refine HP.out.mono ?_);rintro e w1 ⟨rfl,v',h1,h2,h3⟩;have HR:=Lib.hid h1;have HF:=Lib.hid h2;have HN:=Lib.hid h3;have m2:=fun n hn=>rd_lenN n w1 rb v' hn h1.at';obtain ⟨A1,c1,hv1⟩:=own_sl h1.own;(have hv1:v' = .slice A1 1 c1:=hv1);subst hv1;clear h1 h2 h3))
  | (rw [m2];rotate_left;kernel_rfl)
  | (go_at_call 18;((with_reducible refine (len_any _ _ _ _).mono ?_);rintro e w2 ⟨rfl,rfl⟩))
  | (go_at_call 32;((with_reducible refine (up_zero _ _).mono ?_);rintro e w2 ⟨rfl,rfl⟩)))
 (try simp only [Exit.inBlock,Exit.then])
 first | (refine bodyPost_end (results_none rfl _ _ _) rfl ?_) | (refine bodyPost_ret (results_none rfl _ _ _) rfl ?_)
 exact ⟨rfl,_,HR.out,HF.out,HN.out⟩
theorem HpFr.ofGrown {w w':World} {rb:Nat} {v:Value} (h:w.grownBy w' v.ownBlock):HpFr w w' rb v:=⟨h.os,h.tape,h.output,h.size,fun k hk _ h3=>h.block k hk fun e=>h3 e.symm⟩
theorem HpFr.trans {a b c:World} {rb:Nat} {v v':Value} (h:HpFr a b rb v) (k:HpFr b c rb v') (hv:∀ g,v'.ownBlock=some g→v.ownBlock=some g∨a.heap.size≤g):HpFr a c rb v :=
 ⟨k.os.trans h.os,k.tape.trans h.tape,k.output.trans h.output,Nat.le_trans h.size k.size,fun g h1 h2 h3=>(k.block g (Nat.lt_of_lt_of_le h1 h.size) h2 fun e=>by
  rcases hv g e with h4 | h4
  · exact h3 h4
  · omega).trans (h.block g h1 h2 h3)⟩
set_option maxRecDepth 100000 in
set_option maxHeartbeats 4000000 in
theorem down_zero (w:World) (h:Value):Calls Tryz.prog 31 #[h,.int .i64 0,.int .i64 0] w fun e w'=>e = .returned (.bool false)∧w=w':=by
 go_enter Tryz.func31,Tryz.ntmps31
 go_wp2_with fail
 go_loopw [7] (fun jv wr=>jv = .int .i64 0∧w=wr) (fun _ _=>0)
 case atStart=>exact ⟨rfl,rfl⟩
 case round =>
  obtain ⟨rfl,rfl⟩:=hrel
  go_wp2_with fail
  go_ret
  exact ⟨rfl,rfl⟩
set_option maxRecDepth 100000 in
set_option maxHeartbeats 4000000 in
theorem pop_one (w:World) (B rb:Nat) (v:Value) (x:Int) (h:RdI w B rb v [x]) :
 Calls Tryz.prog 19 #[.iface 57 (.pointer (some ⟨rb,0,none⟩))] w fun e w'=>e = .returned (.iface 3 (.int .i64 x))∧∃ v',RdI w' B rb v' []∧HpFr w w' rb v∧v'.ownBlock=v.ownBlock:=by
 obtain ⟨A,cap,hv⟩:=own_sl h.own
 have hv:v = .slice A 1 cap:=hv
 subst hv
 obtain ⟨g,hA⟩:∃ g,A=some ⟨g,0,none⟩:=by
  rcases h.own.shape with ⟨e,e2⟩ | ⟨g,cap2,e, -⟩
  · simp at e2
  · injection e with e1 e2 e3;exact ⟨g,e1⟩
 subst hA
 have hgr:rb≠g:=by have:=(h.own.lies (g:=g) rfl).1;have:=h.low;omega
 have HI:=Lib.hid h
 have hsw:=swap_any w B g 1 cap [x] 0 0 x x h.own rfl rfl
 rw [show ((0:Nat):Int)=0 from rfl] at hsw
 have HSW:=Lib.hid hsw
 have m1:=fun n hn=>rd_lenN n w rb _ hn h.at'
 have m2:=fun n hn=>rd_swapN n w rb _ hn h.at'
 clear h hsw
 go_enter Tryz.func19,Tryz.ntmps19
 go_wp2_with (first
  | (rw [m1];rotate_left;kernel_rfl)
  | (rw [m2];rotate_left;kernel_rfl)
  | (go_at_call 18;((with_reducible refine (len_any _ _ _ _).mono ?_);rintro e w2 ⟨rfl,rfl⟩))
  | (go_at_call 233;((with_reducible refine HSW.out.mono ?_);rintro e w3 ⟨rfl,h1,h2⟩;have HR3:=Lib.hid (show RdI w3 B rb (.slice (some ⟨g,0,none⟩) 1 cap) ([]++[x]) from ⟨HI.out.at'.keep (h2.block rb HI.out.at'.lt fun e=>hgr (Option.some.inj e)),h1,HI.out.low,Nat.le_trans HI.out.size h2.size⟩);have HF3:=Lib.hid (HpFr.ofGrown (rb:=rb) (v := .slice (some ⟨g,0,none⟩) 1 cap) h2);clear h1 h2))
  | (go_at_call 31;((with_reducible refine (down_zero _ _).mono ?_);rintro e w4 ⟨rfl,rfl⟩;have m3:=rd_pop w3 rb))
  | (go_at_call 230;((with_reducible refine (popM_any _ _ _ _ _ _ HR3.out (by simp)).mono ?_);rintro e w5 ⟨rfl,v',h1,h2,h3⟩;have HR5:=Lib.hid h1;have HF5:=Lib.hid h2;have HN:=Lib.hid h3;clear h1 h2 h3)))
 go_ret
 exact ⟨rfl,v',HR5.out,HF3.out.trans HF5.out fun g e => .inl e,HN.out⟩
theorem HpFr.below {S:Nat} {a b:World} {rb:Nat} {v:Value} (h:HpFr a b rb v) (hS:S≤a.heap.size) (hr:S≤rb) (hv:∀ g,v.ownBlock=some g→S≤g):Below S a b :=
 ⟨h.os,h.tape,h.output,h.size,fun k hk=>h.block k (by omega) (by omega) fun e=>by have:=hv k e;omega⟩
theorem RdI.up {w:World} {B rb:Nat} {v:Value} {xs:List Int} (h:RdI w B rb v xs) {S:Nat} (hS:S≤B):∀ g,v.ownBlock=some g→S≤g:=fun _ e=>Nat.le_trans hS (h.own.lies e).1
theorem RdI.ne {w:World} {B rb:Nat} {v o:Value} {xs:List Int} {α : Type} {s:Nat} {E:Enc α s} {t:TypeId} {b2:Nat} {ys:List α} (h:RdI w B rb v xs) (ho:Own E t w b2 o ys) (hne:t≠62) {g:Nat} (e:o.ownBlock=some g):g≠rb:=fun e2=>by
 subst e2
 obtain ⟨-,cur,h2⟩:=ho.lies e
 have h1:=h.at'
 unfold HpAt at h1
 rw [h1] at h2
 injection h2 with h2
 injection h2 with _ h3 _
 exact hne h3.symm
theorem RdI.grown {w w':World} {B rb:Nat} {v o:Value} {xs:List Int} {α : Type} {s:Nat} {E:Enc α s} {t:TypeId} {b2:Nat} {ys:List α} (h:RdI w B rb v xs) (ho:Own E t w b2 o ys) (hne:t≠3) (hne2:t≠62) (hg:w.grownBy w' o.ownBlock):RdI w' B rb v xs :=
 ⟨h.at'.keep (hg.block rb h.at'.lt fun e=>h.ne ho hne2 e.symm rfl),h.own.keep fun g _ hl e=>hg.block g hl fun e2=>(h.own.away ho (fun e3=>hne e3.symm) e) e2,h.low,Nat.le_trans h.size hg.size⟩
theorem RdI.next {w w':World} {B rb:Nat} {v:Value} {xs:List Int} (h:RdI w B rb v xs) (hb:Below w.heap.size w w'):RdI w' B rb v xs:=⟨h.at'.over hb,h.own.below hb (Nat.le_refl _),h.low,Nat.le_trans h.size hb.size⟩
theorem RdI.cut {w:World} {B rb:Nat} {v:Value} {xs:List Int} (h:RdI w B rb v xs) {g:Nat} (hg:g<B) (hr:g≠rb) (j:Nat) (x:Value):RdI (w.setCell ⟨g,j,none⟩ x) B rb v xs :=
 ⟨h.at'.keep (heap_setCell_other w ⟨g,j,none⟩ rb x (Ne.symm hr)),h.own.keep fun k hk _ _=>heap_setCell_other w ⟨g,j,none⟩ k x (by show k≠g;omega),h.low,by rw [World.size_setCell];exact h.size⟩
theorem WbI.nextS {wm w w':World} {B2 wb gu gl n:Nat} {sv:Value} {us:List Iv} {ls:List Int} (h:WbI wm w B2 wb gu gl n sv us ls) {S:Nat} (hb:Below S w w') (hS:B2≤S) (hu:∀ u∈us,∀ g,u.v.ownBlock=some g→g<S):WbI wm w' B2 wb gu gl n sv us ls:=by
 obtain ⟨h1,h2,h3,h4,h5,h6,h7,h8,h9⟩:=h.low
 exact ⟨h.web.keep (hb.block _ (by omega)),h.usr.keep (hb.block _ (by omega)),h.lck.keep (hb.block _ (by omega)),fun u hu'=>(h.each u hu').keep fun g _ _ eg=>hb.block g (hu u hu' g eg),h.apart,h.aft.trans (hb.mono (by omega)),h.low,Nat.le_trans h.size hb.size,h.ul,h.ll⟩
set_option maxRecDepth 100000 in
set_option maxHeartbeats 4000000 in
theorem free_one (wm w:World) (B2 wb gu gl n:Nat) (sv:Value) (us:List Iv) (ls:List Int) (z:Nat) (h:WbI wm w B2 wb gu gl n sv us ls) (hn:n≤1000000) (hz:ls[z]? = some 0) (hne:∀ (j:Nat) (x:Int),ls[j]? = some x→j≠z→x≠0) :
 Calls Tryz.prog 17 #[.pointer (some ⟨wb,0,none⟩)] w fun e w'=>Below w.heap.size w w'∧∃ b v,e = .returned (.pointer (some ⟨b,0,none⟩))∧RdI w' (w.heap.size+1) b v [(z:Int)]∧w.heap.size≤b:=by
 obtain ⟨S,hS⟩:∃ S,w.heap.size=S:=⟨_,rfl⟩
 have hzn:z<n:=by have:=(List.getElem?_eq_some_iff.1 hz).1;rw [h.ll] at this;exact this
 have HB:=Lib.hid (show Below w.heap.size w (w.alloc (.cells #[.slice none 0 0] 62)) from (Below.refl _ _).alloc (Nat.le_refl _) _)
 have HR0:=Lib.hid (show RdI (w.alloc (.cells #[.slice none 0 0] 62)) (w.heap.size+1) w.heap.size (.slice none 0 0) [] from ⟨HpAt.new w (.slice none 0 0),Own.nil _ _ _ _,Nat.lt_succ_self _,by rw [World.size_alloc];exact Nat.le_refl _⟩)
 have HW0:=Lib.hid h
 have HZ:=Lib.hid hz;have HNE:=Lib.hid hne
 clear h hne hz
 go_enter Tryz.func17,Tryz.ntmps17
 go_upto_region 2 with (fail)
 obtain ⟨w1,hw1⟩:∃ w1,w.alloc (.cells #[.slice none 0 0] 62)=w1:=⟨_,rfl⟩
 have HW:=Lib.hid (HW0.out.next HB.out)
 have HSW:=Lib.hid hS
 rw [hw1] at HB HR0 HW ⊢
 rw [hS] at HB HR0
 clear hw1 hS
 obtain ⟨d0,d1,d2⟩:=HW.out.web.cells
 go_upto_region 3 with (fail)
 clear d0 d1 d2
 go_loopw [13] (fun iv wr=>∃ (i:Nat) (v:Value),i≤n∧iv = .int .i64 (i:Int)∧Hid (RdI wr (S+1) S v (if z<i then [(z:Int)] else []))∧Hid (Below S w wr))
  (fun iv _=>n - (intOf iv).toNat)
 case atStart=>exact ⟨0,_,Nat.zero_le _,rfl,Lib.hid (by rw [if_neg (Nat.not_lt_zero z)];exact HR0.out),HB⟩
 case round =>
  obtain ⟨i,v,hi,rfl,HR,HBr⟩:=hrel
  have HWr:=Lib.hid (HW0.out.next (by rw [HSW.out];exact HBr.out))
  by_cases hlt:i<n
  · have hii:(i:Int)<(n:Int):=by omega
    have hi0:(0:Int)≤(i:Int):=by omega
    obtain ⟨x,hx⟩:∃ x,ls[i]? = some x:=⟨_,List.getElem?_eq_getElem (by rw [HW0.out.ll];exact hlt)⟩
    have l0:=HWr.out.lcell hx
    obtain ⟨d0,d1,d2⟩:=HWr.out.web.cells
    by_cases hiz:i=z
    · subst hiz
      have hx0:x=0:=by have:=HZ.out;rw [hx] at this;exact Option.some.inj this
      subst hx0
      have hr:=HR.out
      rw [if_neg (Nat.lt_irrefl i)] at hr
      have HR2:=Lib.hid hr
      clear hx hr
      go_wp2_with (go_at_call 20;((with_reducible refine (push_zero _ _ _ _ _ HR2.out).mono ?_);rintro e w3 ⟨rfl,v3,h1,h2, -⟩;have HR3:=Lib.hid h1;have HB3:=Lib.hid (HBr.out.trans (h2.below (by have:=HBr.out.size;have:=HSW.out;omega) (Nat.le_refl _) (HR2.out.up (Nat.le_succ _))));clear h1 h2))
      go_roundw
      case rel=>exact ⟨i+1,v3,by omega,by go_num,Lib.hid (by rw [if_pos (Nat.lt_succ_self i)];exact HR3.out),HB3⟩
      case measure=>simp [intOf];omega
    · have hx0:=HNE.out i x hx hiz
      have hxb:(x == 0)=false:=beq_eq_false_iff_ne.2 hx0
      have HR2:=Lib.hid (show RdI wr (S+1) S v (if z<i+1 then [(z:Int)] else []) from by
       have:=HR.out
       by_cases h1:z<i
       · rw [if_pos h1] at this;rw [if_pos (by omega)];exact this
       · rw [if_neg h1] at this;rw [if_neg (by omega)];exact this)
      clear hx hx0 hiz
      go_wp2_with fail
      go_roundw
      case rel=>exact ⟨i+1,v,by omega,by go_num,HR2,HBr⟩
      case measure=>simp [intOf];omega
  · have hii:¬ (i:Int)<(n:Int):=by omega
    have hin:i=n:=by omega
    have HR2:=Lib.hid (show RdI wr (S+1) S v [(z:Int)] from by have:=HR.out;rw [if_pos (by omega)] at this;exact this)
    go_wp2_with fail
    go_ret
    exact ⟨by rw [HSW.out];exact HBr.out,S,rfl,⟨v,by rw [HSW.out];exact HR2.out⟩,by rw [HSW.out];exact Nat.le_refl _⟩
def lsAt (n t:Nat):List Int:=(List.range n).map fun j=>if j+1+t<n then 1 else 0
def hpAt (n t:Nat):List Int:=if t<n then [((n - 1 - t:Nat):Int)] else []
theorem lsAt_get {n t j:Nat} (h:j<n):(lsAt n t)[j]? = some (if j+1+t<n then 1 else 0):=by
 unfold lsAt
 rw [List.getElem?_map,List.getElem?_range h];rfl
theorem lsAt_len (n t:Nat):(lsAt n t).length=n:=by unfold lsAt;rw [List.length_map,List.length_range]
theorem lsAt_set {n t i:Nat} (hi:i+1+t+1=n):(lsAt n t).set i 0=lsAt n (t+1):=by
 refine List.ext_getElem? fun j => ?_
 by_cases hj:j<n
 · rw [List.getElem?_set,lsAt_get hj,lsAt_get hj,lsAt_len]
   split
   · rename_i e
     subst e
     rw [if_pos hj,if_neg (by omega)]
   · congr 1
     by_cases h1:j+1+t<n
     · rw [if_pos h1,if_pos (by omega)]
     · rw [if_neg h1,if_neg (by omega)]
 · rw [List.getElem?_eq_none (by rw [List.length_set,lsAt_len];omega),List.getElem?_eq_none (by rw [lsAt_len];omega)]
theorem lsAt_last (n t:Nat) (h:t+1=n):lsAt n t=lsAt n (t+1):=by
 unfold lsAt
 refine List.map_congr_left fun j _ => ?_
 rw [if_neg (by omega),if_neg (by omega)]
def slL:Value→Nat | .slice _ n _=>n | _=>0
theorem rev_take {α : Type} (l:List α) (t:Nat) (x : α) (ht:t<l.length) (h:l[l.length - 1 - t]? = some x):l.reverse.take (t+1)=l.reverse.take t++[x]:=by
 rw [List.take_add_one,List.getElem?_reverse ht,h];rfl
set_option maxRecDepth 100000 in
set_option maxHeartbeats 16000000 in
theorem unwind_row (wm w:World) (B2 wb gu gl n:Nat) (A:Option Addr) (cap:Nat) (l:List Spt) (us:List Iv) (h:WbI wm w B2 wb gu gl n (.slice A n cap) us (lsAt n 0)) (hs:SE encSp w wm.heap.size (.slice A n cap) l) (h0n:0<n) (hn:n≤1000)
 (hus:∀ (j:Nat) (u:Iv),us[j]? = some u→u.l=if j=0 then [] else [((j - 1:Nat):Int)]) :
 Calls Tryz.prog 9 #[.pointer (some ⟨wb,0,none⟩)] w fun e w'=>Below wm.heap.size w w'∧∃ o,e = .returned o∧Own encSp 35 w' w.heap.size o l.reverse∧WbI wm w' B2 wb gu gl n (.slice A n cap) us (lsAt n n)∧SE encSp w' wm.heap.size (.slice A n cap) l:=by
 have hl:l.length=n:=hs.len.1
 have HF:=Lib.hid (free_one wm w B2 wb gu gl n _ us (lsAt n 0) (n - 1) h (by omega) (by rw [lsAt_get (by omega),if_neg (by omega)]) (fun j x hx hj=>by
  have hjn:j<n:=by have:=(List.getElem?_eq_some_iff.1 hx).1;rw [lsAt_len] at this;exact this
  rw [lsAt_get hjn,if_pos (by omega)] at hx
  rw [← Option.some.inj hx];decide))
 obtain ⟨S,hS⟩:∃ S,w.heap.size=S:=⟨_,rfl⟩
 have HU:=Lib.hid (show ∀ u∈us,∀ g,u.v.ownBlock=some g→g<S from fun u hu g e=>by
  obtain ⟨_,cur,h3⟩:=(h.each u hu).lies e
  rw [← hS];exact (Array.getElem?_eq_some_iff.1 h3).1)
 have HLOW:=Lib.hid h.low
 have HB2:=Lib.hid (show B2≤S by rw [← hS];exact h.size)
 have HUS:=Lib.hid hus;have HW0:=Lib.hid h;have HS:=Lib.hid hs;have HL:=Lib.hid hl;have HSW:=Lib.hid hS
 clear h hs hus hl
 go_enter Tryz.func9,Tryz.ntmps9
 go_upto_region 3 with (go_at_call 17;((with_reducible refine HF.out.mono ?_);rintro e w1 ⟨h1,rb,v1,rfl,h2,h3⟩;have HB1:=Lib.hid h1;have HR1:=Lib.hid h2;have HRB:=Lib.hid h3;clear h1 h2 h3))
 rw [hS] at HR1 HRB
 go_loopw [3] (fun ov wr=>∃ (t:Nat) (v o:Value),t≤n∧o=ov∧Hid (RdI wr (S+1) rb v (hpAt n t))∧Hid (Own encSp 35 wr S o (l.reverse.take t))∧Hid (WbI wm wr B2 wb gu gl n (.slice A n cap) us (lsAt n t))∧Hid (Below wm.heap.size w wr))
  (fun ov _=>n - slL ov)
 case atStart=>exact ⟨0,v1,_,Nat.zero_le _,rfl,Lib.hid (by unfold hpAt;rw [if_pos (by omega)];exact HR1.out),Lib.hid (Own.nil _ _ _ _),Lib.hid (HW0.out.next HB1.out),Lib.hid (HB1.out.mono HW0.out.aft.size)⟩
 case round =>
  obtain ⟨t,v,o,ht,rfl,HR,HO,HWr,HBw⟩:=hrel
  have HSZ:=Lib.hid (show S+1≤wr.heap.size from HR.out.size)
  obtain ⟨Ah,ch,hv⟩:=own_sl HR.out.own
  by_cases hlt:t<n
  · obtain ⟨i,hi⟩:∃ i,n - 1 - t=i:=⟨_,rfl⟩
    have hin:i+t+1=n:=by omega
    have hh:hpAt n t=[(i:Int)]:=by unfold hpAt;rw [if_pos hlt,hi]
    have HR2:=Lib.hid (show RdI wr (S+1) rb v [(i:Int)] from by rw [← hh];exact HR.out)
    rw [hh] at hv
    have hv:v = .slice Ah 1 ch:=hv
    subst hv
    have r0:=HR2.out.at'.cell
    have hii:(i:Int)<(n:Int):=by omega
    have hi0:(0:Int)≤(i:Int):=by omega
    obtain ⟨s,hs⟩:∃ s,l[i]? = some s:=⟨_,List.getElem?_eq_getElem (by rw [HL.out];omega)⟩
    obtain ⟨u,hu⟩:∃ u,us[i]? = some u:=⟨_,List.getElem?_eq_getElem (by rw [HW0.out.ul];omega)⟩
    have HUL:=Lib.hid (HUS.out i u hu);have HUI:=Lib.hid hu
    have HRT:=Lib.hid (rev_take l t s (by rw [HL.out];exact hlt) (by rw [HL.out,hi];exact hs))
    have HTL:=Lib.hid (show (l.reverse.take t).length≤1000 by rw [List.length_take];omega)
    obtain ⟨pb,po,hA,hpb,e0,e1,e2⟩:=sp_at HS.out hs
    subst hA
    have HE:=Lib.hid (show ∀ W,Below wm.heap.size w W→W.cell? ⟨pb,po+i*3,none⟩=some (.string s.nm)∧W.cell? ⟨pb,po+i*3+1,none⟩=some (.int .i64 (s.r:Int))∧W.cell? ⟨pb,po+i*3+2,none⟩=some (.int .i64 (s.c:Int)) from fun W hW=>⟨(hW.cell (p:=⟨pb,po+i*3,none⟩) hpb).trans e0,(hW.cell (p:=⟨pb,po+i*3+1,none⟩) hpb).trans e1,(hW.cell (p:=⟨pb,po+i*3+2,none⟩) hpb).trans e2⟩)
    have hta:∀ (T:Nat) (wS:World),(Instr.typeAssert (.iface 3 (.int .i64 (i:Int))) T 3 false).run Tryz.prog wS = .ok (.int .i64 (i:Int)) wS:=fun _ _=>by kernel_rfl
    clear hs hu e0 e1 e2 hh
    go_upto_region 7 with (first
     | (go_at_call 18;((with_reducible refine (len_any _ _ _ _).mono ?_);rintro e w2 ⟨rfl,rfl⟩))
     | (go_at_call 19;go_loud ((with_reducible refine (pop_one _ _ _ _ _ HR2.out).mono ?_);rintro e w2 ⟨rfl,v2,h1,h2,h3⟩;have HR3:=Lib.hid h1;have HB3:=Lib.hid (h2.below (S:=S) (by have:=HSZ.out;omega) HRB.out (HR2.out.up (Nat.le_succ _)));have HW3:=Lib.hid (HWr.out.nextS HB3.out HB2.out HU.out);have HO3:=Lib.hid (HO.out.keep fun g _ hl e=>h2.block g hl (HR2.out.ne HO.out (by decide) e) (HO.out.away HR2.out.own (by decide) e).symm);have HBw3:=Lib.hid (HBw.out.trans (HB3.out.mono (by have h1:=HLOW.out;have h2:=HB2.out;omega)));obtain ⟨x0,x1,x2⟩:=HE.out w2 HBw3.out;obtain ⟨d0,d1,d2⟩:=HW3.out.web.cells;clear h1 h2 h3 r0))
     | (at_builtin;refine wpList_app_at Elem.spt encSp rfl (.tmp 20) (.tmp 28) rfl S o _ rfl (HO3.out.below (below_spt w2 s) (Nat.le_refl _)) ⟨_,0,none⟩ 1 1 [s] rfl rfl ?_ ?_ ?_ ?_ ?_;exact cells_new _ _ _ rfl;(have:=HTL.out;omega);(have:=HTL.out;unfold maxLen;omega);(have h1:=HR3.out.size;rw [World.size_alloc];omega);intro o5 w5 h1 h2 h3;have HO5:=Lib.hid (show Own encSp 35 w5 S o5 (l.reverse.take (t+1)) from by rw [HRT.out];exact h1);have HOA:=Lib.hid (HO3.out.below (below_spt w2 s) (Nat.le_refl _));have HR5:=Lib.hid ((HR3.out.next (below_spt w2 s)).grown HOA.out (by decide) (by decide) h2);have HB5:=Lib.hid (show Below S w2 w5 from ((below_spt w2 s).mono (by have h1:=HR3.out.size;omega)).grown h2 (by have h1:=HR3.out.size;rw [World.size_alloc];omega) (fun g e=>(HOA.out.lies e).1));have HW5:=Lib.hid (HW3.out.nextS HB5.out HB2.out HU.out);have HBw5:=Lib.hid (HBw3.out.trans (HB5.out.mono (by have h1:=HLOW.out;have h2:=HB2.out;omega)));have u0:w5.cell? ⟨gu,i,none⟩=some (.slice u.A u.l.length u.cap):=HW5.out.ucell HUI.out;obtain ⟨y0,y1,y2⟩:=HW5.out.web.cells;clear h1 h2 h3))
    have hcase:(i=0∧u.l=[])∨∃ k:Nat,i=k+1∧u.l=[(k:Int)]:=by
     have h:=HUL.out
     by_cases h0:i=0
     · rw [if_pos h0] at h;exact .inl ⟨h0,h⟩
     · rw [if_neg h0] at h;exact .inr ⟨i - 1,by omega,h⟩
    rcases hcase with ⟨h0,hu0⟩ | ⟨k,hk,hu1⟩
    · rw [hu0]
      have hlast:t+1=n:=by omega
      clear hu0
      go_loopw [38] (fun jv wr=>jv = .int .i64 0∧w5=wr) (fun _ _=>0)
      case atStart=>exact ⟨rfl,rfl⟩
      case round =>
       obtain ⟨rfl,rfl⟩:=hrel
       go_wp2_with fail
       go_roundw
       case rel=>exact ⟨t+1,v2,o5,by omega,rfl,Lib.hid (by unfold hpAt;rw [if_neg (by omega)];exact HR5.out),HO5,Lib.hid (by rw [← lsAt_last n t hlast];exact HW5.out),HBw5⟩
       case measure =>
        obtain ⟨A9,c9,e9⟩:=own_sl HO5.out
        obtain ⟨A8,c8,e8⟩:=own_sl HO.out
        rw [e9,e8]
        simp [slL,HL.out];omega
    · subst hk
      obtain ⟨g,hg⟩:∃ g,u.A=some ⟨g,0,none⟩:=by
       rcases (HW5.out.each u (List.mem_of_getElem? HUI.out)).shape with ⟨e,e2⟩ | ⟨g,cap2,e, -⟩
       · rw [hu1] at e2;cases e2
       · unfold Iv.v at e;injection e with e1 e2 e3;exact ⟨g,e1⟩
      have huc:∀ W ls,WbI wm W B2 wb gu gl n (.slice (some ⟨pb,po,none⟩) n cap) us ls→W.cell? ⟨g,0,none⟩=some (.int .i64 (k:Int)):=fun W ls hW=>by
       have h:=hW.each u (List.mem_of_getElem? HUI.out)
       unfold Iv.v at h
       rw [hg] at h
       rw [h.intCell 0 (by rw [hu1];simp),hu1];rfl
      rw [hu1,hg]
      have HUC:=Lib.hid huc
      have hkn:k+1+t<n:=by omega
      have hki:(k:Int)<(n:Int):=by omega
      have hk0:(0:Int)≤(k:Int):=by omega
      have hw1:IntKind.i64.wrap (1 - 1)=0:=by decide
      have HST:=Lib.hid (lsAt_set (n:=n) (t:=t) (i:=k) (by omega))
      have hh2:hpAt n (t+1)=[(k:Int)]:=by unfold hpAt;rw [if_pos (by omega),show n - 1 - (t+1)=k by omega]
      clear huc hu1 hg
      go_loopw [38] (fun jv wr=>∃ (j:Nat) (v:Value),j≤1∧jv = .int .i64 (j:Int)∧Hid (RdI wr (S+1) rb v (if j=1 then [(k:Int)] else []))∧Hid (Own encSp 35 wr S o5 (l.reverse.take (t+1)))∧Hid (WbI wm wr B2 wb gu gl n (.slice (some ⟨pb,po,none⟩) n cap) us (if j=1 then lsAt n (t+1) else lsAt n t))∧Hid (Below wm.heap.size w wr))
       (fun jv _=>1 - (intOf jv).toNat)
      case atStart=>exact ⟨0,v2,by omega,rfl,HR5,HO5,HW5,HBw5⟩
      case round =>
       obtain ⟨j,v,hj,rfl,HRq,HOq,HWq,HBq⟩:=hrel
       by_cases h1:j<1
       · have hj0:j=0:=by omega
         subst hj0
         have HR6:=Lib.hid (show RdI wr (S+1) rb v [] from HRq.out)
         have HW6:=Lib.hid (show WbI wm wr B2 wb gu gl n (.slice (some ⟨pb,po,none⟩) n cap) us (lsAt n t) from HWq.out)
         have c0:=HUC.out _ _ HW6.out
         have l0:wr.cell? ⟨gl,k,none⟩=some (.int .i64 1):=by have h:=HW6.out.lcell (lsAt_get (n:=n) (t:=t) (j:=k) (by omega));rw [if_pos hkn] at h;exact h
         have l1:=HW6.out.lfrozen k
         obtain ⟨d0,d1,d2⟩:=HW6.out.web.cells
         have HW7:=Lib.hid (show WbI wm (wr.setCell ⟨gl,k,none⟩ (.int .i64 0)) B2 wb gu gl n (.slice (some ⟨pb,po,none⟩) n cap) us (lsAt n (t+1)) from by rw [← HST.out];exact HW6.out.inc k 0)
         have hgl:gl<S:=by have h1:=HLOW.out;have h2:=HB2.out;omega
         have HR7:=Lib.hid (HR6.out.cut (g:=gl) (by omega) (by have:=HRB.out;omega) k (.int .i64 0))
         have HO7:=Lib.hid (HOq.out.keep fun g hl _ _=>heap_setCell_other wr ⟨gl,k,none⟩ g (.int .i64 0) (by show g≠gl;omega))
         have HB7:=Lib.hid (HBq.out.setCell HLOW.out.2.2.1 (.int .i64 0):Below wm.heap.size w (wr.setCell ⟨gl,k,none⟩ (.int .i64 0)))
         obtain ⟨f0,f1,f2⟩:=HW7.out.web.cells
         have f3:(wr.setCell ⟨gl,k,none⟩ (.int .i64 0)).cell? ⟨gl,k,none⟩=some (.int .i64 0):=by have h:=HW7.out.lcell (lsAt_get (n:=n) (t:=t+1) (j:=k) (by omega));rw [if_neg (by omega)] at h;exact h
         have hii:(((0:Nat):Int))<1:=by decide
         go_wp2_with (go_at_call 20;((with_reducible refine (push_zero _ _ _ _ _ HR7.out).mono ?_);rintro e w9 ⟨rfl,v9,h1,h2, -⟩;have HR9:=Lib.hid h1;have HB9:=Lib.hid (h2.below (S:=S) (by have:=HR7.out.size;omega) HRB.out (HR7.out.up (Nat.le_succ _)));have HW9:=Lib.hid (HW7.out.nextS HB9.out HB2.out HU.out);have HO9:=Lib.hid (HO7.out.keep fun g _ hl e=>h2.block g hl (HR7.out.ne HO7.out (by decide) e) (HO7.out.away HR7.out.own (by decide) e).symm);have HBw9:=Lib.hid (HB7.out.trans (HB9.out.mono (by have h1:=HLOW.out;have h2:=HB2.out;omega)));clear h1 h2))
         go_roundw
         case rel =>
          exact ⟨_,_,_,_,_,_,_,_,_,_,_,_,_,_,_,_,_,_,_,_,_,_,_,_,_,_,_,_,⟨1,v9,Nat.le_refl 1,rfl,HR9,HO9,HW9,HBw9⟩,rfl⟩
         case measure=>simp [intOf]
       · have hj1:j=1:=by omega
         subst hj1
         have hii:¬ (((1:Nat):Int))<1:=by decide
         go_wp2_with fail
         go_roundw
         case rel=>exact ⟨t+1,v,o5,by omega,rfl,Lib.hid (by rw [hh2];exact HRq.out),HOq,Lib.hid HWq.out,HBq⟩
         case measure =>
          obtain ⟨A9,c9,e9⟩:=own_sl HO5.out
          obtain ⟨A8,c8,e8⟩:=own_sl HO.out
          rw [e9,e8]
          simp [slL,HL.out];omega
  · have htn:t=n:=by omega
    subst htn
    have hh:hpAt t t=[]:=by unfold hpAt;rw [if_neg (by omega)]
    rw [hh] at hv
    have hv:v = .slice Ah 0 ch:=hv
    subst hv
    have r0:=HR.out.at'.cell
    have HOE:=Lib.hid (show Own encSp 35 wr S o l.reverse from by have h:=HO.out;rw [List.take_of_length_le (by have:=HL.out;rw [List.length_reverse];omega)] at h;exact h)
    go_wp2_with (go_at_call 18;((with_reducible refine (len_any _ _ _ _).mono ?_);rintro e w2 ⟨rfl,rfl⟩))
    go_ret
    exact ⟨HBw.out,o,rfl,by rw [HSW.out];exact HOE.out,HWr.out,HS.out.below HBw.out (Nat.le_refl _)⟩
def rowL (nm:ByteArray) (k:Nat):List Spt:=(List.range k).map fun i=>⟨nm,i,0⟩
def rowN (nm:ByteArray) (k:Nat) (s:Spt):List Spt:=if s.r+1<k then [⟨nm,s.r+1,0⟩] else []
def usR (k i:Nat):List (List Int):=(List.range k).map fun j=>if 1≤j∧j≤i then [((j - 1:Nat):Int)] else []
def lsR (k i:Nat):List Int:=(List.range k).map fun j=>if j<i∧j+1<k then 1 else 0
theorem rowL_len (nm:ByteArray) (k:Nat):(rowL nm k).length=k:=by unfold rowL;rw [List.length_map,List.length_range]
theorem rowL_get {nm:ByteArray} {k i:Nat} (h:i<k):(rowL nm k)[i]? = some ⟨nm,i,0⟩:=by unfold rowL;rw [List.getElem?_map,List.getElem?_range h];rfl
theorem usR_get {k i j:Nat} (h:j<k):(usR k i)[j]? = some (if 1≤j∧j≤i then [((j - 1:Nat):Int)] else []):=by unfold usR;rw [List.getElem?_map,List.getElem?_range h];rfl
theorem lsR_get {k i j:Nat} (h:j<k):(lsR k i)[j]? = some (if j<i∧j+1<k then 1 else 0):=by unfold lsR;rw [List.getElem?_map,List.getElem?_range h];rfl
theorem usR_len (k i:Nat):(usR k i).length=k:=by unfold usR;rw [List.length_map,List.length_range]
theorem lsR_len (k i:Nat):(lsR k i).length=k:=by unfold lsR;rw [List.length_map,List.length_range]
theorem posS_row {nm:ByteArray} {k i:Nat} (h:i<k):posS (rowL nm k) ⟨nm,i,0⟩=some i:=by
 unfold posS
 rw [List.findIdx?_eq_some_iff_getElem]
 have hg:∀ j (hj:j<(rowL nm k).length),(rowL nm k)[j]=⟨nm,j,0⟩:=fun j hj=>by
  have h1:=rowL_get (nm:=nm) (k:=k) (i:=j) (by rw [rowL_len] at hj;exact hj)
  rw [List.getElem?_eq_getElem hj] at h1
  exact Option.some.inj h1
 refine ⟨by rw [rowL_len];exact h,by rw [hg];simp,fun j hji => ?_⟩
 rw [hg]
 simp
 omega
theorem webF_row (nm:ByteArray) (k:Nat):∀ i,i≤k→webF (rowL nm k) (rowN nm k) i=(usR k i,lsR k i)
 | 0,_=>by
   have h1:List.replicate (rowL nm k).length ([]:List Int)=usR k 0:=by
    rw [rowL_len]
    refine List.ext_getElem? fun j => ?_
    by_cases hj:j<k
    · rw [List.getElem?_replicate,if_pos hj,usR_get hj,if_neg (by omega)]
    · rw [List.getElem?_eq_none (by rw [List.length_replicate];omega),List.getElem?_eq_none (by rw [usR_len];omega)]
   have h2:List.replicate (rowL nm k).length (0:Int)=lsR k 0:=by
    rw [rowL_len]
    refine List.ext_getElem? fun j => ?_
    by_cases hj:j<k
    · rw [List.getElem?_replicate,if_pos hj,lsR_get hj,if_neg (by omega)]
    · rw [List.getElem?_eq_none (by rw [List.length_replicate];omega),List.getElem?_eq_none (by rw [lsR_len];omega)]
   rw [← h1, ← h2];rfl
 | i + 1, hi=>by
   rw [webF_succ _ _ i _ (rowL_get (by omega)),webF_row nm k i (by omega)]
   by_cases h:i+1<k
   · have hn:rowN nm k ⟨nm,i,0⟩=[⟨nm,i+1,0⟩]:=by unfold rowN;rw [if_pos h]
     rw [hn]
     show stepW (rowL nm k) i (usR k i,lsR k i) ⟨nm,i+1,0⟩=_
     unfold stepW
     rw [posS_row h]
     refine Prod.ext ?_ ?_
     · show (usR k i).set (i+1) ((usR k i).getD (i+1) []++[(i:Int)])=usR k (i+1)
       refine List.ext_getElem? fun j => ?_
       by_cases hj:j<k
       · rw [List.getElem?_set,usR_get hj,usR_get hj,usR_len,List.getD_eq_getElem?_getD,usR_get h]
         split
         · rename_i e
           subst e
           first | (rw [if_pos hj,if_neg (by omega),if_pos (by omega)];rfl) | (rw [if_neg (by omega),if_pos (by omega)];rfl)
         · congr 1
           by_cases h1:1≤j∧j≤i
           · rw [if_pos h1,if_pos (by omega)]
           · rw [if_neg h1,if_neg (by omega)]
       · rw [List.getElem?_eq_none (by rw [List.length_set,usR_len];omega),List.getElem?_eq_none (by rw [usR_len];omega)]
     · show (lsR k i).set i ((lsR k i).getD i 0+1)=lsR k (i+1)
       refine List.ext_getElem? fun j => ?_
       by_cases hj:j<k
       · rw [List.getElem?_set,lsR_get hj,lsR_get hj,lsR_len,List.getD_eq_getElem?_getD,lsR_get (show i<k by omega)]
         split
         · rename_i e
           subst e
           first | (rw [if_pos hj,if_neg (by omega),if_pos (by omega)];rfl) | (rw [if_neg (by omega),if_pos (by omega)];rfl)
         · congr 1
           by_cases h1:j<i∧j+1<k
           · rw [if_pos h1,if_pos (by omega)]
           · rw [if_neg h1,if_neg (by omega)]
       · rw [List.getElem?_eq_none (by rw [List.length_set,lsR_len];omega),List.getElem?_eq_none (by rw [lsR_len];omega)]
   · have hn:rowN nm k ⟨nm,i,0⟩=[]:=by unfold rowN;rw [if_neg h]
     rw [hn]
     show (usR k i,lsR k i)=_
     refine Prod.ext ?_ ?_
     · show usR k i=usR k (i+1)
       unfold usR
       refine List.map_congr_left fun j hj => ?_
       have hj:=List.mem_range.1 hj
       by_cases h1:1≤j∧j≤i
       · rw [if_pos h1,if_pos (by omega)]
       · rw [if_neg h1,if_neg (by omega)]
     · show lsR k i=lsR k (i+1)
       unfold lsR
       refine List.map_congr_left fun j hj => ?_
       by_cases h1:j<i∧j+1<k
       · rw [if_pos h1,if_pos (by omega)]
       · rw [if_neg h1,if_neg (by omega)]
theorem lsR_at (k:Nat):lsR k k=lsAt k 0:=by
 unfold lsR lsAt
 refine List.map_congr_left fun j hj => ?_
 have hj:=List.mem_range.1 hj
 by_cases h1:j+1<k
 · rw [if_pos ⟨hj,h1⟩,if_pos (by omega)]
 · rw [if_neg (by omega),if_neg (by omega)]
theorem usR_at {k j:Nat} (h:j<k):(usR k k)[j]? = some (if j=0 then [] else [((j - 1:Nat):Int)]):=by
 rw [usR_get h]
 by_cases h0:j=0
 · rw [if_pos h0,if_neg (by omega)]
 · rw [if_neg h0,if_pos (by omega)]
theorem stuck_row (l:List Spt) (n k:Nat):stuckL l (lsAt n n) k=[]:=by
 unfold stuckL
 refine List.flatMap_eq_nil_iff.2 fun i _ => ?_
 rw [if_neg]
 rw [List.getD_eq_getElem?_getD]
 by_cases h:i<n
 · rw [lsAt_get h,if_neg (by omega)];decide
 · rw [List.getElem?_eq_none (by rw [lsAt_len];omega)];decide
set_option maxRecDepth 100000 in
set_option maxHeartbeats 4000000 in
theorem order_row (w:World) (A:Option Addr) (n cap k:Nat) (nm:ByteArray) (h0k:0<k) (hk:k≤1000)
 (hmay:∀ w1,Below w.heap.size w w1→Calls Tryz.prog 7 #[.agg #[.slice A n cap]] w1 fun e w'=>e = .returned (.bool true)∧Below w1.heap.size w1 w')
 (hweb:∀ w1,Below w.heap.size w w1→Calls Tryz.prog 8 #[.agg #[.slice A n cap]] w1 fun e w'=>Below w1.heap.size w1 w'∧WebR w1 w' (rowL nm k) (rowN nm k) e) :
 Calls Tryz.prog 5 #[.agg #[.slice A n cap]] w fun e w'=>Below w.heap.size w w'∧∃ o v,e = .returned (.tuple #[o,v])∧Own encSp 35 w' w.heap.size o (rowL nm k).reverse∧Own encSp 35 w' w.heap.size v []:=by
 have HB:=Lib.hid (below_bk w (.slice A n cap))
 have HA:=Lib.hid (BkAt.new w (.slice A n cap))
 have HM:=Lib.hid (hmay _ HB.out)
 have HWB:=Lib.hid hweb
 obtain ⟨l,hl⟩:∃ l,rowL nm k=l:=⟨_,rfl⟩
 have HLE:=Lib.hid (rowL_len nm k)
 have HWF:=Lib.hid (webF_row nm k k (Nat.le_refl k))
 rw [hl] at HWB HLE HWF
 rw [hl]
 have hll:=HLE.out
 clear hmay hweb hl
 go_enter Tryz.func5,Tryz.ntmps5
 go_upto_region 1 with (fail)
 obtain ⟨w1,hw1⟩:∃ w1,w.alloc (.cells #[.slice A n cap] 32)=w1:=⟨_,rfl⟩
 rw [hw1] at HB HA HM ⊢
 clear hw1
 have b0:=HA.out.cell
 go_upto_region 4 with (first
  | (go_at_call 7;((with_reducible refine HM.out.mono ?_);rintro e w2 ⟨rfl,h1⟩;have H2:=Lib.hid h1;have b2:=(HA.out.over h1).cell;clear h1 b0))
  | (go_at_call 8;((with_reducible refine (HWB.out _ (HB.out.trans (H2.out.mono HB.out.size))).mono ?_);rintro e w3 ⟨h1,hr⟩;obtain ⟨wm,B2,wb,gu,gl,As,cs,us,ls,rfl,hm,hw,hse,heq⟩:=hr.ex;have H3:=Lib.hid (H2.out.trans (h1.mono H2.out.size));have HMW:=Lib.hid hm;have HW:=Lib.hid hw;have HS:=Lib.hid hse;have HE:=Lib.hid heq;clear h1 hm hw hse heq hr b2)))
 have he:=HE.out
 rw [hll,HWF.out] at he
 obtain ⟨he1,he2⟩:=Prod.mk.inj he
 rw [lsR_at] at he2
 subst he2
 have HW2:=Lib.hid (show WbI wm w3 B2 wb gu gl k (.slice As k cs) us (lsAt k 0) from by have h:=HW.out;rw [hll] at h;exact h)
 have HS2:=Lib.hid (show SE encSp w3 wm.heap.size (.slice As k cs) l from by have h:=HS.out;rw [hll] at h;exact h)
 have HU:=Lib.hid (unwind_row wm w3 B2 wb gu gl k As cs l us HW2.out HS2.out h0k hk (fun j u hu=>by
  have hj:j<k:=by have h:=(List.getElem?_eq_some_iff.1 hu).1;rw [HW2.out.ul] at h;exact h
  have h1:(us.map (·.l))[j]? = some u.l:=by rw [List.getElem?_map,hu];rfl
  rw [he1,usR_at hj] at h1
  exact (Option.some.inj h1).symm))
 have HWM:=Lib.hid (show w.heap.size≤wm.heap.size from Nat.le_trans (Nat.le_trans HB.out.size H2.out.size) HMW.out.size)
 clear he he1 HW HS HE
 go_wp2_with (first
  | (go_at_call 9;((with_reducible refine HU.out.mono ?_);rintro e w4 ⟨h1,o,rfl,h2,h3,h4⟩;have H4:=Lib.hid h1;have HO4:=Lib.hid h2;have HW4:=Lib.hid h3;have HS4:=Lib.hid h4;clear h1 h2 h3 h4))
  | (go_at_call 10;((with_reducible refine (stuck_any wm w4 B2 wb gu gl k As cs l us (lsAt k k) HW4.out HS4.out (by omega)).mono ?_);rintro e w5 ⟨h1,v,rfl,h2⟩;rw [stuck_row] at h2;have H5:=Lib.hid h1;have HO:=Lib.hid h2;clear h1 h2)))
 go_ret2
 have hw3:w.heap.size≤w3.heap.size:=Nat.le_trans HB.out.size H3.out.size
 have hw4:w.heap.size≤w4.heap.size:=Nat.le_trans hw3 H4.out.size
 exact ⟨((HB.out.trans (H3.out.mono HB.out.size)).trans (H4.out.mono HWM.out)).trans (H5.out.mono hw4),_,_,rfl,(HO4.out.below H5.out (Nat.le_refl _)).mono hw3,HO.out.mono hw4⟩
def arQ (ns:List Nd) (o:Option Nat):Bool:=match areasL nA1 ns,o with
 | [],none=>true
 | [a],some r=>decide (a.sh=nA1∧a.f.c=0∧a.f.r=(r:Int)∧a.l.c=0∧a.l.r=(r:Int))
 | _,_=>false
def exQ (l:List Int) (o:Option Nat):Bool:=match lexL l with
 | none=>false
 | some ts=>match parseP 200 ts with
   | some (.ok ns)=>decide (printL ns=l)&&arQ ns o&&decide (ns.length≤1000)
   | _=>false
structure TxQ (t:ByteArray) (o:Option Nat) (ns:List Nd):Prop where
 size:t.size≤10
 kd:kd t=2
 pis:PIs (t.extract 1 t.size) (.ok ns)
 prn:strOfNums (printL ns)=t.extract 1 t.size
 few:ns.length≤1000
 no:o=none→areasL nA1 ns=[]
 at_:∀ r,o=some r→∃ a,areasL nA1 ns=[a]∧a.sh=nA1∧a.f.c=0∧a.f.r=(r:Int)∧a.l.c=0∧a.l.r=(r:Int)
 back:mkF++t.extract 1 t.size=t
theorem txQ_of (t:ByteArray) (l:List Int) (o:Option Nat) (b:ByteArray) (hz:t.size≤10) (hk:kd t=2) (he:t.extract 1 t.size=b) (hl:sb b=l) (hb:b.size≤300) (hm:mkF++b=t) (hs:exQ l o=true):∃ ns,TxQ t o ns:=by
 subst hl
 unfold exQ at hs
 split at hs
 · cases hs
 · rename_i ts hl
   split at hs
   · rename_i ns hp
     rw [Bool.and_eq_true,Bool.and_eq_true,decide_eq_true_iff,decide_eq_true_iff] at hs
     obtain ⟨⟨h1,h2⟩,h3⟩:=hs
     refine ⟨ns,hz,hk,by rw [he];exact .inr (.inr ⟨hb,ts,200,hl,hp⟩),by rw [he,h1];exact str_sb b,h3,fun e => ?_,fun r e => ?_,by rw [he];exact hm⟩
     · subst e
       unfold arQ at h2
       split at h2
       · rename_i h4 _;exact h4
       · rename_i h4;cases h4
       · cases h2
     · subst e
       unfold arQ at h2
       split at h2
       · rename_i h4;cases h4
       · rename_i a r' h4 h5
         injection h5 with h5
         subst h5
         exact ⟨a,h4,of_decide_eq_true h2⟩
       · cases h2
   · cases hs
theorem TxQ.norm {t:ByteArray} {o:Option Nat} {ns:List Nd} (h:TxQ t o ns):NormR t t 0 :=
 .form (by have:=h.size;omega) h.kd _ rfl ns h.pis t (by rw [h.prn];exact h.back)
theorem TxQ.form {t:ByteArray} {o:Option Nat} {ns:List Nd} (h:TxQ t o ns) {w:World} (hx:Cx w):FormIs w t ns:=fun w1 h1 =>
 formula_nodes t _ (by have:=h.size;omega) (by have h2:=congrArg ByteArray.size h.back;rw [ByteArray.size_append] at h2;have h3:mkF.size=1:=rfl;omega) h.kd rfl ns h.pis h.prn w1 (hx.below h1)
def tx1:ByteArray:=⟨#[61,49]⟩
def txR (r:Nat):ByteArray:=(⟨#[61,65]⟩:ByteArray)++strOfNums (decL ((r:Int)+1))
theorem exQ_0:exQ [65,49] (some 0)=true:=by decide +kernel
theorem exQ_1:exQ [65,50] (some 1)=true:=by decide +kernel
theorem exQ_2:exQ [65,51] (some 2)=true:=by decide +kernel
theorem exQ_3:exQ [65,52] (some 3)=true:=by decide +kernel
theorem exQ_4:exQ [65,53] (some 4)=true:=by decide +kernel
theorem exQ_5:exQ [65,54] (some 5)=true:=by decide +kernel
theorem exQ_6:exQ [65,55] (some 6)=true:=by decide +kernel
theorem exQ_7:exQ [65,56] (some 7)=true:=by decide +kernel
theorem exQ_8:exQ [65,57] (some 8)=true:=by decide +kernel
theorem exQ_9:exQ [65,49,48] (some 9)=true:=by decide +kernel
theorem exQ_10:exQ [65,49,49] (some 10)=true:=by decide +kernel
theorem exQ_n:exQ [49] none=true:=by decide +kernel
theorem txR_0:txR 0=⟨#[61,65,49]⟩:=by
 unfold txR decL
 rw [if_neg (by decide)]
 show (⟨#[61,65]⟩:ByteArray)++strOfNums (digL 1)=_
 rw [digL_small 1 (by decide)]
 decide +kernel
theorem txR_1:txR 1=⟨#[61,65,50]⟩:=by
 unfold txR decL
 rw [if_neg (by decide)]
 show (⟨#[61,65]⟩:ByteArray)++strOfNums (digL 2)=_
 rw [digL_small 2 (by decide)]
 decide +kernel
theorem txR_2:txR 2=⟨#[61,65,51]⟩:=by
 unfold txR decL
 rw [if_neg (by decide)]
 show (⟨#[61,65]⟩:ByteArray)++strOfNums (digL 3)=_
 rw [digL_small 3 (by decide)]
 decide +kernel
theorem txR_3:txR 3=⟨#[61,65,52]⟩:=by
 unfold txR decL
 rw [if_neg (by decide)]
 show (⟨#[61,65]⟩:ByteArray)++strOfNums (digL 4)=_
 rw [digL_small 4 (by decide)]
 decide +kernel
theorem txR_4:txR 4=⟨#[61,65,53]⟩:=by
 unfold txR decL
 rw [if_neg (by decide)]
 show (⟨#[61,65]⟩:ByteArray)++strOfNums (digL 5)=_
 rw [digL_small 5 (by decide)]
 decide +kernel
theorem txR_5:txR 5=⟨#[61,65,54]⟩:=by
 unfold txR decL
 rw [if_neg (by decide)]
 show (⟨#[61,65]⟩:ByteArray)++strOfNums (digL 6)=_
 rw [digL_small 6 (by decide)]
 decide +kernel
theorem txR_6:txR 6=⟨#[61,65,55]⟩:=by
 unfold txR decL
 rw [if_neg (by decide)]
 show (⟨#[61,65]⟩:ByteArray)++strOfNums (digL 7)=_
 rw [digL_small 7 (by decide)]
 decide +kernel
theorem txR_7:txR 7=⟨#[61,65,56]⟩:=by
 unfold txR decL
 rw [if_neg (by decide)]
 show (⟨#[61,65]⟩:ByteArray)++strOfNums (digL 8)=_
 rw [digL_small 8 (by decide)]
 decide +kernel
theorem txR_8:txR 8=⟨#[61,65,57]⟩:=by
 unfold txR decL
 rw [if_neg (by decide)]
 show (⟨#[61,65]⟩:ByteArray)++strOfNums (digL 9)=_
 rw [digL_small 9 (by decide)]
 decide +kernel
theorem txR_9:txR 9=⟨#[61,65,49,48]⟩:=by
 unfold txR decL
 rw [if_neg (by decide)]
 show (⟨#[61,65]⟩:ByteArray)++strOfNums (digL 10)=_
 rw [digL_more 10 (by decide)]
 show (⟨#[61,65]⟩:ByteArray)++strOfNums (digL 1++_)=_
 rw [digL_small 1 (by decide)]
 decide +kernel
theorem txR_10:txR 10=⟨#[61,65,49,49]⟩:=by
 unfold txR decL
 rw [if_neg (by decide)]
 show (⟨#[61,65]⟩:ByteArray)++strOfNums (digL 11)=_
 rw [digL_more 11 (by decide)]
 show (⟨#[61,65]⟩:ByteArray)++strOfNums (digL 1++_)=_
 rw [digL_small 1 (by decide)]
 decide +kernel
theorem txR_e (r:Nat) (hr:r≤10):∃ ns,TxQ (txR r) (some r) ns:=by
 match r,hr with
 | 0,_=>rw [txR_0];exact txQ_of ⟨#[61,65,49]⟩ [65,49] (some 0) ⟨#[65,49]⟩ (by decide) (by decide +kernel) (by decide +kernel) (by decide +kernel) (by decide) (by decide +kernel) exQ_0
 | 1,_=>rw [txR_1];exact txQ_of ⟨#[61,65,50]⟩ [65,50] (some 1) ⟨#[65,50]⟩ (by decide) (by decide +kernel) (by decide +kernel) (by decide +kernel) (by decide) (by decide +kernel) exQ_1
 | 2,_=>rw [txR_2];exact txQ_of ⟨#[61,65,51]⟩ [65,51] (some 2) ⟨#[65,51]⟩ (by decide) (by decide +kernel) (by decide +kernel) (by decide +kernel) (by decide) (by decide +kernel) exQ_2
 | 3,_=>rw [txR_3];exact txQ_of ⟨#[61,65,52]⟩ [65,52] (some 3) ⟨#[65,52]⟩ (by decide) (by decide +kernel) (by decide +kernel) (by decide +kernel) (by decide) (by decide +kernel) exQ_3
 | 4,_=>rw [txR_4];exact txQ_of ⟨#[61,65,53]⟩ [65,53] (some 4) ⟨#[65,53]⟩ (by decide) (by decide +kernel) (by decide +kernel) (by decide +kernel) (by decide) (by decide +kernel) exQ_4
 | 5,_=>rw [txR_5];exact txQ_of ⟨#[61,65,54]⟩ [65,54] (some 5) ⟨#[65,54]⟩ (by decide) (by decide +kernel) (by decide +kernel) (by decide +kernel) (by decide) (by decide +kernel) exQ_5
 | 6,_=>rw [txR_6];exact txQ_of ⟨#[61,65,55]⟩ [65,55] (some 6) ⟨#[65,55]⟩ (by decide) (by decide +kernel) (by decide +kernel) (by decide +kernel) (by decide) (by decide +kernel) exQ_6
 | 7,_=>rw [txR_7];exact txQ_of ⟨#[61,65,56]⟩ [65,56] (some 7) ⟨#[65,56]⟩ (by decide) (by decide +kernel) (by decide +kernel) (by decide +kernel) (by decide) (by decide +kernel) exQ_7
 | 8,_=>rw [txR_8];exact txQ_of ⟨#[61,65,57]⟩ [65,57] (some 8) ⟨#[65,57]⟩ (by decide) (by decide +kernel) (by decide +kernel) (by decide +kernel) (by decide) (by decide +kernel) exQ_8
 | 9,_=>rw [txR_9];exact txQ_of ⟨#[61,65,49,48]⟩ [65,49,48] (some 9) ⟨#[65,49,48]⟩ (by decide) (by decide +kernel) (by decide +kernel) (by decide +kernel) (by decide) (by decide +kernel) exQ_9
 | 10,_=>rw [txR_10];exact txQ_of ⟨#[61,65,49,49]⟩ [65,49,49] (some 10) ⟨#[65,49,49]⟩ (by decide) (by decide +kernel) (by decide +kernel) (by decide +kernel) (by decide) (by decide +kernel) exQ_10
 | n+11,h=>exact absurd h (by omega)
theorem tx1_e:∃ ns,TxQ tx1 none ns:=txQ_of tx1 [49] none ⟨#[49]⟩ (by decide) (by decide +kernel) (by decide +kernel) (by decide +kernel) (by decide) (by decide +kernel) exQ_n
def tQ (k:Nat) (cl:Bool) (i:Nat):ByteArray:=if i+1<k then txR (i+1) else if cl then txR 0 else tx1
def oQ (k:Nat) (cl:Bool) (i:Nat):Option Nat:=if i+1<k then some (i+1) else if cl then some 0 else none
def ndQ (k:Nat) (cl:Bool) (s:Spt):List Spt:=if s.r+1<k then [⟨nA1,s.r+1,0⟩] else if cl then [⟨nA1,0,0⟩] else []
theorem tQ_e (k:Nat) (cl:Bool) (i:Nat) (hk:k≤11) (_hi:i<k):∃ ns,TxQ (tQ k cl i) (oQ k cl i) ns:=by
 unfold tQ oQ
 by_cases h:i+1<k
 · rw [if_pos h,if_pos h];exact txR_e _ (by omega)
 · rw [if_neg h,if_neg h]
   cases cl
   · exact tx1_e
   · exact txR_e 0 (by omega)
structure RowQ (s:Sv) (k:Nat) (cl:Bool):Prop where
 nm:s.nm=nA1
 cols:s.cols=1
 rows:s.rows.map (·.l)=(List.range k).map fun i=>[tQ k cl i]
theorem RowQ.len {s:Sv} {k:Nat} {cl:Bool} (h:RowQ s k cl):s.rows.length=k:=by
 have h1:=congrArg List.length h.rows
 rw [List.length_map,List.length_map,List.length_range] at h1;exact h1
theorem RowQ.at {s:Sv} {k:Nat} {cl:Bool} (h:RowQ s k cl) {i:Nat} {r:Rv} (hr:s.rows[i]? = some r):i<k∧r.l=[tQ k cl i]:=by
 have h1:(s.rows.map (·.l))[i]? = some r.l:=by rw [List.getElem?_map,hr];rfl
 have hi:i<k:=by have:=(List.getElem?_eq_some_iff.1 hr).1;rw [h.len] at this;exact this
 rw [h.rows,List.getElem?_map,List.getElem?_range hi] at h1
 exact ⟨hi,(Option.some.inj h1).symm⟩
theorem RowQ.mem {s:Sv} {k:Nat} {cl:Bool} (h:RowQ s k cl) {r:Rv} (hr:r∈s.rows):∃ i,i<k∧r.l=[tQ k cl i]:=by
 obtain ⟨i,hi⟩:=List.mem_iff_getElem?.1 hr
 exact ⟨i,h.at hi⟩
theorem rowC_q (a:Ar) (r:Nat) (i:Nat) (h:a.f.c=0∧a.f.r=(r:Int)∧a.l.c=0∧a.l.r=(r:Int)):rowC [a] nA1 i 1=if i=r then [⟨nA1,i,0⟩] else []:=by
 obtain ⟨h1,h2,h3,h4⟩:=h
 rw [rowC_succ,rowC_zero,List.nil_append]
 have hR:hasR a (i:Int)=decide (i=r):=by unfold hasR;rw [h2,h4,decide_eq_decide];omega
 have hC:hasC a ((0:Nat):Int)=true:=by unfold hasC;rw [h1,h3];rfl
 by_cases e:i=r
 · rw [if_pos e]
   have hf:[a].filter (fun a=>hasR a (i:Int))=[a]:=by rw [List.filter_cons,hR,decide_eq_true e];rfl
   rw [hf,List.any_cons,hC,Bool.true_or,if_pos rfl]
 · rw [if_neg e]
   have hf:[a].filter (fun a=>hasR a (i:Int))=[]:=by rw [List.filter_cons,hR,decide_eq_false e];rfl
   rw [hf,List.any_nil,if_neg (by decide)]
theorem upC_q (a:Ar) (r k:Nat) (h:a.f.c=0∧a.f.r=(r:Int)∧a.l.c=0∧a.l.r=(r:Int)):∀ m,m≤k→upC [a] nA1 (List.replicate k 1) m=if r<m then [⟨nA1,r,0⟩] else []
 | 0,_=>by unfold upC;simp
 | m + 1,hm=>by
   have hg:(List.replicate k 1).getD m 0=1:=by rw [List.getD_eq_getElem?_getD,List.getElem?_replicate,if_pos (by omega)];rfl
   rw [← upC_succ [a] nA1 (List.replicate k 1) m 1 hg,upC_q a r k h m (by omega),rowC_q a r m h]
   by_cases h1:r<m
   · rw [if_pos h1,if_neg (by omega),if_pos (by omega),List.append_nil]
   · rw [if_neg h1,List.nil_append]
     by_cases h2:m=r
     · rw [if_pos h2,if_pos (by omega),h2]
     · rw [if_neg h2,if_neg (by omega)]
theorem RowQ.lens {s:Sv} {k:Nat} {cl:Bool} (h:RowQ s k cl):(s.rows.map fun r=>r.l.length)=List.replicate k 1:=by
 have h1:(s.rows.map fun r=>r.l.length)=(s.rows.map (·.l)).map List.length:=by rw [List.map_map];rfl
 rw [h1,h.rows,List.map_map]
 refine List.ext_getElem? fun j => ?_
 rw [List.getElem?_map,List.getElem?_replicate]
 by_cases hj:j<k
 · rw [List.getElem?_range hj,if_pos hj];rfl
 · rw [List.getElem?_eq_none (by rw [List.length_range];omega),if_neg hj];rfl
theorem needs_q {s:Sv} {k:Nat} {cl:Bool} (hs:RowQ s k cl) (a:Ar) (r:Nat) (hr:r<k) (h:a.sh=nA1∧a.f.c=0∧a.f.r=(r:Int)∧a.l.c=0∧a.l.r=(r:Int)):needsL [s] [a]=[⟨nA1,r,0⟩]:=by
 obtain ⟨h1,h2⟩:=h
 unfold needsL
 rw [namesL_one,List.flatMap_cons,List.flatMap_nil,List.append_nil,h1]
 have hf:[s].find? (fun s=>decide (s.nm=nA1))=some s:=by rw [List.find?_cons_of_pos (by simpa using hs.nm)]
 unfold cellsOn
 rw [hf]
 have hfil:[a].filter (fun a=>decide (a.sh=nA1))=[a]:=by rw [List.filter_cons_of_pos (by simpa using h1)];rfl
 show cellsL ([a].filter fun a=>decide (a.sh=nA1)) s.nm (s.rows.map fun r=>r.l.length)=_
 rw [hfil,hs.lens,hs.nm]
 unfold cellsL
 rw [List.length_replicate,upC_q a r k h2 k (Nat.le_refl _),if_pos hr]
theorem needs_of {s:Sv} {k:Nat} {cl:Bool} (hs:RowQ s k cl) (hk:k≤11) {i:Nat} (hi:i<k) {ns:List Nd} (h:TxQ (tQ k cl i) (oQ k cl i) ns):needsL [s] (areasL nA1 ns)=ndQ k cl ⟨nA1,i,0⟩:=by
 unfold ndQ
 by_cases h1:i+1<k
 · obtain ⟨a,ha,h2⟩:=h.at_ (i+1) (by unfold oQ;rw [if_pos h1])
   rw [ha,needs_q hs a (i+1) h1 h2,if_pos h1]
 · rw [if_neg h1]
   cases cl
   · rw [h.no (by unfold oQ;rw [if_neg h1];rfl)]
     unfold needsL
     rw [namesL_nil];rfl
   · obtain ⟨a,ha,h2⟩:=h.at_ 0 (by unfold oQ;rw [if_neg h1];rfl)
     rw [ha,needs_q hs a 0 (by omega) h2];rfl
theorem row_cell {w:World} {A:Option Addr} {s:Sv} {k:Nat} {cl:Bool} (h:BkR w w.heap.size (.slice A 1 1) [s]) (hs:RowQ s k cl) (i:Nat) (hi:i<k):GetIs w A 1 1 ⟨nA1,i,0⟩ (tQ k cl i):=fun w1 h1=>by
 obtain ⟨r,hr⟩:∃ r,s.rows[i]? = some r:=⟨_,List.getElem?_eq_getElem (by rw [hs.len];exact hi)⟩
 have hl:=(hs.at hr).2
 have ho:SpotR [s] nA1 (i:Int) ((0:Nat):Int) (some (0,s,i,r,0)):=⟨⟨rfl,hs.nm,fun j _ hj _=>absurd hj (Nat.not_lt_zero _)⟩,rfl,hr,rfl,by rw [hl];exact Nat.zero_lt_one⟩
 have hg:=get_any w1 A 1 1 [s] nA1 (i:Int) ((0:Nat):Int) _ (h.lift h1) (by decide) ho
 have he:txO (some (0,s,i,r,0))=tQ k cl i:=by
  show r.l.getD 0 ⟨#[]⟩=_
  rw [hl];rfl
 rw [he] at hg
 exact hg
theorem row_fs {s:Sv} {k:Nat} {cl:Bool} (hs:RowQ s k cl):fShs (fun _=>true) [s]=rowL nA1 k:=by
 unfold fShs
 rw [List.flatMap_cons,List.flatMap_nil,List.append_nil,hs.len]
 unfold fRows rowL
 rw [hs.nm,hs.rows]
 have hgo:∀ m,m≤k→((List.range m).flatMap fun r=>fRow (fun _=>true) nA1 r (((List.range k).map fun i=>[tQ k cl i]).getD r []) (((List.range k).map fun i=>[tQ k cl i]).getD r []).length)=(List.range m).map fun i=>(⟨nA1,i,0⟩:Spt):=by
  intro m
  induction m with
  | zero=>intro _;rfl
  | succ m ih =>
    intro hm
    have hg:((List.range k).map fun i=>[tQ k cl i]).getD m []=[tQ k cl m]:=by rw [List.getD_eq_getElem?_getD,List.getElem?_map,List.getElem?_range (by omega)];rfl
    rw [List.range_succ,List.flatMap_append,List.map_append,ih (by omega),List.flatMap_cons,List.flatMap_nil,List.append_nil,hg]
    rfl
 exact hgo k (Nat.le_refl _)
theorem webF_one (nm:ByteArray) (k:Nat) (nd:Spt→List Spt) (tg:Nat→Nat) (hnd:∀ i,i<k→nd ⟨nm,i,0⟩=[⟨nm,tg i,0⟩]∧tg i<k):∀ i,i≤k→(webF (rowL nm k) nd i).2=(List.range k).map fun j=>if j<i then 1 else 0
 | 0,_=>by
   show List.replicate (rowL nm k).length (0:Int)=_
   rw [rowL_len]
   refine List.ext_getElem? fun j => ?_
   rw [List.getElem?_replicate,List.getElem?_map]
   by_cases hj:j<k
   · rw [if_pos hj,List.getElem?_range hj];rfl
   · rw [if_neg hj,List.getElem?_eq_none (by rw [List.length_range];omega)];rfl
 | i + 1,hi=>by
   obtain ⟨h1,h2⟩:=hnd i (by omega)
   rw [webF_succ _ _ i _ (rowL_get (by omega)),h1,List.foldl_cons,List.foldl_nil]
   have ih:=webF_one nm k nd tg hnd i (by omega)
   unfold stepW
   rw [posS_row h2]
   show (webF (rowL nm k) nd i).2.set i ((webF (rowL nm k) nd i).2.getD i 0+1)=_
   rw [ih]
   refine List.ext_getElem? fun j => ?_
   by_cases hj:j<k
   · rw [List.getElem?_set,List.getElem?_map,List.getElem?_map,List.getElem?_range hj,List.length_map,List.length_range,List.getD_eq_getElem?_getD,List.getElem?_map,List.getElem?_range (show i<k by omega)]
     by_cases e:i=j
     · subst e
       rw [if_pos rfl,if_pos (by omega)]
       simp
     · rw [if_neg e]
       simp only [Option.map_some]
       congr 1
       by_cases h3:j<i
       · rw [if_pos h3,if_pos (by omega)]
       · rw [if_neg h3,if_neg (by omega)]
   · rw [List.getElem?_eq_none (by rw [List.length_set,List.length_map,List.length_range];omega),List.getElem?_eq_none (by rw [List.length_map,List.length_range];omega)]
theorem stuck_all (nm:ByteArray) (k:Nat) (ls:List Int) (hls:ls=(List.range k).map fun _=>1):∀ i,i≤k→(stuckL (rowL nm k) ls i).length=i
 | 0,_=>rfl
 | i+1,hi=>by
   rw [stuckL_succ (rowL nm k) ls i _ 1 (rowL_get (by omega)) (by rw [hls,List.getElem?_map,List.getElem?_range (by omega)];rfl),List.length_append,stuck_all nm k ls hls i (by omega)]
   rfl
theorem row_may (w:World) (A:Option Addr) (s:Sv) (k:Nat) (cl:Bool) (h:BkR w w.heap.size (.slice A 1 1) [s]) (hs:RowQ s k cl) (hk:k≤11) (hx:Cx w) :
 ∀ w1,Below w.heap.size w w1→Calls Tryz.prog 7 #[.agg #[.slice A 1 1]] w1 fun e w'=>e = .returned (.bool true)∧Below w1.heap.size w1 w':=fun w1 h1 =>
 mayB_any w1 A 1 1 [s] (h.lift h1) (by
  refine ⟨(by decide:1≤5),⟨by rw [hs.nm];decide +kernel,trivial⟩,fun t ht => ?_⟩
  rw [List.mem_singleton.1 ht]
  refine ⟨by rw [hs.nm];decide +kernel,by rw [hs.nm];decide,by rw [hs.cols];decide,by rw [hs.cols];decide,by rw [hs.len];omega,fun r hrr => ?_⟩
  obtain ⟨i,hi,hl⟩:=hs.mem hrr
  rw [hl,hs.cols];rfl) (fun t ht r hrr x hxx w2 h2=>by
   rw [List.mem_singleton.1 ht] at hrr
   obtain ⟨i,hi,hl⟩:=hs.mem hrr
   rw [hl] at hxx
   rw [List.mem_singleton.1 hxx]
   obtain ⟨ns,hn⟩:=tQ_e k cl i hk hi
   exact mayc_any _ hn.norm w2 (hx.below (h1.trans (h2.mono h1.size))))
theorem row_web (w:World) (A:Option Addr) (s:Sv) (k:Nat) (cl:Bool) (h:BkR w w.heap.size (.slice A 1 1) [s]) (hs:RowQ s k cl) (hk:k≤11) (hx:Cx w) :
 ∀ w1,Below w.heap.size w w1→Calls Tryz.prog 8 #[.agg #[.slice A 1 1]] w1 fun e w'=>Below w1.heap.size w1 w'∧WebR w1 w' (rowL nA1 k) (ndQ k cl) e:=fun w1 h1=>by
 have hsz:∀ t∈[s],t.rows.length≤100∧∀ r∈t.rows,r.l.length≤100:=fun t ht=>by
  rw [List.mem_singleton.1 ht,hs.len]
  refine ⟨by omega,fun r hrr => ?_⟩
  obtain ⟨i,hi,hl⟩:=hs.mem hrr
  rw [hl];exact (by decide:1≤100)
 have hsp:∀ i,i<k→SpSz ⟨nA1,i,0⟩:=fun i hi=>⟨by show nA1.size≤maxLen;decide,by show i≤1000000;omega,by show 0≤1000000;decide⟩
 have hmem:∀ q∈rowL nA1 k,∃ i,i<k∧q=⟨nA1,i,0⟩:=fun q hq=>by
  unfold rowL at hq
  obtain ⟨i,hi,rfl⟩:=List.mem_map.1 hq
  exact ⟨i,List.mem_range.1 hi,rfl⟩
 refine webOf_any w1 A 1 1 [s] (fun _=>true) (rowL nA1 k) (ndQ k cl) 1 (h.lift h1) (by decide) hsz (fun t ht r hrr x hxx w2 h2 => ?_) (row_fs hs) (fun i j q hi hj => ?_) (fun q hq => ?_) (fun q hq t ht => ?_) (by rw [rowL_len];omega) (fun q hq => ?_) (by decide) (fun q hq w2 h2 => ?_)
 · rw [List.mem_singleton.1 ht] at hrr
   obtain ⟨i,hi,hl⟩:=hs.mem hrr
   rw [hl] at hxx
   rw [List.mem_singleton.1 hxx]
   obtain ⟨ns,hn⟩:=tQ_e k cl i hk hi
   exact (hn.form hx w2 (h1.trans (h2.mono h1.size))).mono fun e w' ⟨g,c,l,he,_,_,hbb⟩=>⟨⟨_,he⟩,hbb⟩
 · have hi2:=(List.getElem?_eq_some_iff.1 hi).1
   have hj2:=(List.getElem?_eq_some_iff.1 hj).1
   rw [rowL_len] at hi2 hj2
   rw [rowL_get hi2] at hi
   rw [rowL_get hj2, ← hi] at hj
   have:=congrArg (Option.map Spt.r) hj
   simp at this
   omega
 · obtain ⟨i,hi,rfl⟩:=hmem q hq
   exact hsp i hi
 · obtain ⟨i,hi,rfl⟩:=hmem q hq
   unfold ndQ at ht
   split at ht
   · rename_i h3
     rw [List.mem_singleton.1 ht];exact hsp _ h3
   · split at ht
     · rw [List.mem_singleton.1 ht];exact hsp 0 (by omega)
     · simp at ht
 · unfold ndQ
   split
   · exact Nat.le_refl _
   · split
     · exact Nat.le_refl _
     · exact Nat.zero_le _
 · obtain ⟨i,hi,rfl⟩:=hmem q hq
   have hb:=h1.trans (h2.mono h1.size)
   have hk2:=h.lift hb
   obtain ⟨ns,hn⟩:=tQ_e k cl i hk hi
   have hq2:=needs_any w2 A 1 1 [s] ⟨nA1,i,0⟩ (tQ k cl i) ns hk2 (by decide) hsz hn.few (row_cell hk2 hs i hi) (hn.form (hx.below hb))
   rw [show areasL (Spt.nm ⟨nA1,i,0⟩) ns=areasL nA1 ns from rfl,needs_of hs hk hi hn] at hq2
   exact hq2
theorem ndQ_open (k:Nat):ndQ k false=rowN nA1 k:=by
 funext s
 unfold ndQ rowN
 by_cases h:s.r+1<k
 · rw [if_pos h,if_pos h]
 · rw [if_neg h,if_neg h];rfl
theorem order_open (w:World) (A:Option Addr) (s:Sv) (k:Nat) (h:BkR w w.heap.size (.slice A 1 1) [s]) (hs:RowQ s k false) (h0:0<k) (hk:k≤11) (hx:Cx w) :
 Calls Tryz.prog 5 #[.agg #[.slice A 1 1]] w fun e w'=>Below w.heap.size w w'∧∃ o v,e = .returned (.tuple #[o,v])∧Own encSp 35 w' w.heap.size o (rowL nA1 k).reverse∧Own encSp 35 w' w.heap.size v [] :=
 order_row w A 1 1 k nA1 h0 (by omega) (row_may w A s k false h hs hk hx) (fun w1 h1=>by
  have hw:=row_web w A s k false h hs hk hx w1 h1
  rw [ndQ_open] at hw;exact hw)
theorem order_closed (w:World) (A:Option Addr) (s:Sv) (k:Nat) (h:BkR w w.heap.size (.slice A 1 1) [s]) (hs:RowQ s k true) (h0:0<k) (hk:k≤11) (hx:Cx w) :
 Calls Tryz.prog 5 #[.agg #[.slice A 1 1]] w fun e w'=>Below w.heap.size w w'∧∃ v xs,e = .returned (.tuple #[.slice none 0 0,v])∧Own encSp 35 w' w.heap.size v xs∧xs.length=k:=by
 have hw:=webF_one nA1 k (ndQ k true) (fun i=>if i+1<k then i+1 else 0) (fun i hi=>by
  unfold ndQ
  by_cases h3:i+1<k
  · rw [if_pos h3,if_pos h3];exact ⟨rfl,h3⟩
  · rw [if_neg h3,if_neg h3];exact ⟨rfl,h0⟩) k (Nat.le_refl _)
 have hw2:(webF (rowL nA1 k) (ndQ k true) k).2=(List.range k).map fun _=>(1:Int):=by
  rw [hw];exact List.map_congr_left fun j hj=>if_pos (List.mem_range.1 hj)
 refine (order_none w A 1 1 (rowL nA1 k) (ndQ k true) (row_may w A s k true h hs hk hx) (row_web w A s k true h hs hk hx) (by rw [rowL_len];omega) (fun x hxx => ?_)).mono fun e w' hq => ?_
 · rw [rowL_len,hw2] at hxx
   obtain ⟨_,_,rfl⟩:=List.mem_map.1 hxx
   decide
 · obtain ⟨hb,v,he,hv⟩:=hq
   refine ⟨hb,v,_,he,hv, ?_⟩
   rw [rowL_len]
   exact stuck_all nA1 k _ hw2 k (Nat.le_refl _)
theorem Elem.rwQ:Elem Tryz.prog 22 26 1 24:=⟨Tryz.underlying22,⟨.slice none 0 0,by kernel_rfl,rfl⟩,by decide⟩
def ShQ (w:World) (sb:Nat) (v:Value):Prop:=w.heap[sb]? = some (.cells #[.string nA1,.int .i64 1,v] 24)
theorem ShQ.lt {w:World} {sb:Nat} {v:Value} (h:ShQ w sb v):sb<w.heap.size:=(Array.getElem?_eq_some_iff.1 h).1
theorem ShQ.keep {w w':World} {sb:Nat} {v:Value} (h:ShQ w sb v) (hk:w'.heap[sb]? = w.heap[sb]?):ShQ w' sb v:=hk.trans h
theorem ShQ.put {w:World} {sb:Nat} {v:Value} (h:ShQ w sb v) (u:Value):ShQ (w.setCell ⟨sb,2,none⟩ u) sb u:=by
 unfold ShQ;rw [heap_setCell_same w sb 2 _ _ _ h];rfl
theorem ShQ.cells {w:World} {sb:Nat} {v:Value} (h:ShQ w sb v):w.cell? ⟨sb,0,none⟩=some (.string nA1)∧w.cell? ⟨sb,1,none⟩=some (.int .i64 1)∧w.cell? ⟨sb,2,none⟩=some v :=
 ⟨cell_of_row w sb 0 _ _ _ h,cell_of_row w sb 1 _ _ _ h,cell_of_row w sb 2 _ _ _ h⟩
def RowB (w:World) (lo:Nat) (rvs:List Rv):Prop:=∀ r∈rvs,∃ g t,lo≤g∧r=⟨some ⟨g,0,none⟩,1,[t]⟩∧RwX encTx 9 w g [t]
theorem RowB.keep {w w':World} {lo:Nat} {rvs:List Rv} (h:RowB w lo rvs) (hk:∀ g,lo≤g→g<w.heap.size→w'.heap[g]? = w.heap[g]?):RowB w' lo rvs:=fun r hr=>by
 obtain ⟨g,t,h1,h2,h3⟩:=h r hr
 exact ⟨g,t,h1,h2,h3.keep (hk g h1 h3.lt)⟩
theorem RowB.grown {w w':World} {lo b:Nat} {rvs xs:List Rv} {v:Value} (h:RowB w lo rvs) (hg:w.grownBy w' v.ownBlock) (ho:Own encRv 26 w b v xs):RowB w' lo rvs:=fun r hr=>by
 obtain ⟨g,t,h1,h2,h3⟩:=h r hr
 refine ⟨g,t,h1,h2,h3.keep (hg.block g h3.lt fun e => ?_)⟩
 obtain ⟨_,cur,hc⟩:=ho.lies e.symm
 have h4:w.heap[g]? = _:=h3
 rw [h4] at hc
 injection hc with hc
 injection hc with _ hc
 exact absurd hc (by decide)
theorem RowB.snoc {w:World} {lo g:Nat} {rvs:List Rv} {t:ByteArray} (h:RowB w lo rvs) (hl:lo≤g) (hx:RwX encTx 9 w g [t]):RowB w lo (rvs++[⟨some ⟨g,0,none⟩,1,[t]⟩]):=fun r hr=>by
 rcases List.mem_append.1 hr with hr | hr
 · exact h r hr
 · rw [List.mem_singleton.1 hr];exact ⟨g,t,hl,rfl,hx⟩
theorem RowB.se {w:World} {lo:Nat} {rvs:List Rv} (h:RowB w lo rvs):∀ r∈rvs,SE encTx w w.heap.size r.v r.l:=fun r hr=>by
 obtain ⟨g,t,h1,rfl,h3⟩:=h r hr
 exact (h3.own (Nat.le_refl g) (show 1≤maxLen by decide)).se
structure RdQ (w wr:World) (sb k:Nat) (cl:Bool) (i:Nat) (v:Value) (rvs:List Rv):Prop where
 sh:ShQ wr sb v
 own:Own encRv 26 wr (sb+1) v rvs
 each:RowB wr (sb+1) rvs
 txt:rvs.map (·.l)=(List.range i).map fun j=>[tQ k cl j]
 bl:Below sb w wr
theorem RdQ.below {w wr w2:World} {sb k:Nat} {cl:Bool} {i:Nat} {v:Value} {rvs:List Rv} (h:RdQ w wr sb k cl i v rvs) (hb:Below wr.heap.size wr w2):RdQ w w2 sb k cl i v rvs :=
 ⟨h.sh.keep (hb.block _ h.sh.lt),h.own.below hb (Nat.le_refl _),h.each.keep (fun g _ hg=>hb.block g hg),h.txt,h.bl.trans (hb.mono (Nat.le_of_lt h.sh.lt))⟩
theorem RdQ.len {w wr:World} {sb k:Nat} {cl:Bool} {i:Nat} {v:Value} {rvs:List Rv} (h:RdQ w wr sb k cl i v rvs):rvs.length=i:=by
 have h1:=congrArg List.length h.txt
 rw [List.length_map,List.length_map,List.length_range] at h1;exact h1
theorem RdQ.sh5 {w w2 w5:World} {sb k:Nat} {cl:Bool} {i:Nat} {v:Value} {rvs:List Rv} (h:RdQ w w2 sb k cl i v rvs) (o1 o2:Obj) (hg:((w2.alloc o1).alloc o2).grownBy w5 v.ownBlock):ShQ w5 sb v:=by
 have h1:=h.below (((Below.refl w2.heap.size w2).alloc (Nat.le_refl _) o1).alloc (by simp) o2)
 exact h1.sh.keep (hg.block sb h1.sh.lt (fun e=>by have:=(h.own.lies e.symm).1;omega))
theorem RdQ.next {w w2 w5:World} {sb k:Nat} {cl:Bool} {i:Nat} {v v':Value} {rvs:List Rv} {t:ByteArray} (h:RdQ w w2 sb k cl i v rvs) (ht:t=tQ k cl i) (C:Value)
 (hg:((w2.alloc (.cells #[.string t] 9)).alloc (.cells #[C] 26)).grownBy w5 v.ownBlock) (ho:Own encRv 26 w5 (sb+1) v' (rvs++[⟨some ⟨w2.heap.size,0,none⟩,1,[t]⟩])):RdQ w (w5.setCell ⟨sb,2,none⟩ v') sb k cl (i+1) v' (rvs++[⟨some ⟨w2.heap.size,0,none⟩,1,[t]⟩]):=by
 have hlt:=h.sh.lt
 have h1:=h.below (((Below.refl w2.heap.size w2).alloc (Nat.le_refl _) (.cells #[.string t] 9)).alloc (by simp) (.cells #[C] 26))
 have hno:∀ g,v.ownBlock=some g→sb+1≤g:=fun g e=>(h.own.lies e).1
 have hnew:RwX encTx 9 ((w2.alloc (.cells #[.string t] 9)).alloc (.cells #[C] 26)) w2.heap.size [t]:=(Below.heap_alloc _ _ _ (by simp)).trans (Go.MapKept.heap_alloc w2 _).1
 have hset:∀ g,sb+1≤g→(w5.setCell ⟨sb,2,none⟩ v').heap[g]? = w5.heap[g]? := fun g hg=>heap_setCell_other _ _ _ _ (by show g≠sb;omega)
 have hsh:ShQ w5 sb v:=h1.sh.keep (hg.block sb h1.sh.lt (fun e=>by have:=hno sb e.symm;omega))
 refine ⟨hsh.put v',ho.keep (fun g h2 _ _=>hset g h2), ?_, ?_, ?_⟩
 · refine RowB.snoc ((h1.each.grown hg h1.own).keep (fun g h2 _=>hset g h2)) (by omega) ?_
   refine RwX.keep (w:=w5) ?_ (hset _ (by omega))
   refine hnew.keep (hg.block _ (by simp;omega) (fun e => ?_))
   have:=h.own.less e.symm;omega
 · rw [List.map_append,h.txt,List.range_succ,List.map_append,ht];rfl
 · refine Below.setCell (p:=⟨sb,2,none⟩) ?_ (Nat.le_refl sb) v'
   exact h1.bl.trans (Below.grown (Below.refl sb _) hg (by have:=h1.sh.lt;omega) (fun g e=>by have:=hno g e;omega))
set_option maxRecDepth 100000 in
set_option maxHeartbeats 16000000 in
theorem depsRow_any (w:World) (n:Nat) (cl:Bool) (hn:n≤255) (hx:Cx w) :
 Calls Tryz.prog 3 #[.int .u8 (n:Int),.bool cl] w fun e w'=>e = .returned (.bool true)∧Below w.heap.size w w':=by
 obtain ⟨q,hq⟩:∃ q,Int.tmod (n:Int) 10=q:=⟨_,rfl⟩
 have hq0:0≤q∧q≤9:=by rw [← hq,Int.tmod_eq_emod_of_nonneg (by omega)];omega
 obtain ⟨k,hk⟩:∃ k:Nat,2+q=(k:Int):=⟨(2+q).toNat,by omega⟩
 have hk2:2≤k∧k≤11:=by omega
 have wn:IntKind.i64.wrap (n:Int)=(n:Int):=by rw [IntKind.wrap_i64];omega
 have wq:IntKind.i64.wrap q=q:=by rw [IntKind.wrap_i64];omega
 have wk:IntKind.i64.wrap (2+q)=(k:Int):=by rw [IntKind.wrap_i64];omega
 have wk1:IntKind.i64.wrap ((k:Int) - 1)=(k:Int) - 1:=by rw [IntKind.wrap_i64];omega
 have wk2:IntKind.i64.wrap (k:Int)=(k:Int):=by rw [IntKind.wrap_i64];omega
 have HK:=Lib.hid hk
 have HX:=Lib.hid hx
 clear hk hx
 go_enter Tryz.func3,Tryz.ntmps3
 go_upto_region 4 with (fail)
 obtain ⟨sb,hsb⟩:∃ sb,w.heap.size=sb:=⟨_,rfl⟩
 have HS1:=Lib.hid (show ShQ (w.alloc (.cells #[.string nA1,.int .i64 1,.slice none 0 0] 24)) w.heap.size (.slice none 0 0) from (Go.MapKept.heap_alloc w _).1)
 have HB1:=Lib.hid (show Below w.heap.size w (w.alloc (.cells #[.string nA1,.int .i64 1,.slice none 0 0] 24)) from (Below.refl _ _).alloc (Nat.le_refl _) _)
 rw [hsb] at HS1
 have hs1:(w.alloc (.cells #[.string nA1,.int .i64 1,.slice none 0 0] 24)).heap.size=sb+1:=by simp [hsb]
 obtain ⟨w1,hw1⟩:∃ w1,w.alloc (.cells #[.string nA1,.int .i64 1,.slice none 0 0] 24)=w1:=⟨_,rfl⟩
 have hw1b:w.alloc (.cells #[.string ⟨#[65]⟩,.int .i64 1,.slice none 0 0] 24)=w1:=hw1
 rw [hw1] at HS1 HB1 hs1
 rw [hw1b,hsb]
 have HR0:=Lib.hid (show RdQ w w1 sb k cl 0 (.slice none 0 0) [] from ⟨HS1.out,Own.nil _ _ _ _,fun r hr=>by simp at hr,rfl,hsb ▸ HB1.out⟩)
 clear hw1 hw1b
 go_loopw [7] (fun iv wr=>∃ (i:Nat) (v:Value) (rvs:List Rv),i≤k∧iv = .int .i64 (i:Int)∧Hid (RdQ w wr sb k cl i v rvs))
  (fun iv _=>k - (intOf iv).toNat)
 case atStart=>exact ⟨0,_,_,Nat.zero_le _,rfl,HR0⟩
 case round =>
  obtain ⟨i,v,rvs,hi,rfl,HR⟩:=hrel
  by_cases hlt:i<k
  · have hii:(i:Int)<(k:Int):=by omega
    have hi0:(0:Int)≤(i:Int):=by omega
    have HLEN:=Lib.hid HR.out.len
    have wi2:IntKind.i64.wrap ((i:Int)+2)=(i:Int)+2:=by rw [IntKind.wrap_i64];omega
    have HDG:=Lib.hid (refDigits_any ((i:Int)+2) (by omega) (by omega) wr)
    have hdl:(strOfNums (decL ((i:Int)+2))).size≤20:=by
     rw [strOfNums_size]
     unfold decL
     rw [if_neg (by omega)]
     have:=digL_len 18 ((i:Int)+2).natAbs (by omega)
     omega
    obtain ⟨D,hD⟩:∃ D,strOfNums (decL ((i:Int)+2))=D:=⟨_,rfl⟩
    have HTR:=Lib.hid (show txR (i+1)=(⟨#[61,65]⟩:ByteArray)++D from by
     unfold txR
     rw [show ((i+1:Nat):Int)+1=(i:Int)+2 from by omega,hD])
    rw [hD] at HDG hdl
    have f1:¬ 9223372036854775807<(⟨#[61,65]⟩:ByteArray).size+D.size:=by show ¬ _<2+_;omega
    have f2:¬ 9223372036854775807<2+D.size:=by omega
    clear hD
    by_cases hl:i+1<k
    · have e1:((i:Int) == (k:Int) - 1)=false:=by rw [beq_eq_false_iff_ne];omega
      have HT:=Lib.hid (show (⟨#[61,65]⟩:ByteArray)++D=tQ k cl i from by unfold tQ;rw [if_pos hl];exact HTR.out.symm)
      go_upto_region 11 with (go_at_call 4;((with_reducible refine HDG.out.mono ?_);rintro e w2 ⟨rfl,h1⟩;have HR2:=Lib.hid (HR.out.below h1);obtain ⟨-, -,x2⟩:=HR2.out.sh.cells;clear h1))
      obtain ⟨T,hT⟩:∃ T,(⟨#[61,65]⟩:ByteArray)++D=T:=⟨_,rfl⟩
      rw [hT] at HT ⊢
      clear hT
      go_wp2_with (at_builtin;refine wpList_app_at Elem.rwQ encRv rfl (.tmp 38) (.tmp 41) rfl (sb+1) v rvs rfl ((HR2.out.own.alloc (.cells #[.string T] 9)).alloc (.cells #[.slice (some ⟨w2.heap.size,0,none⟩) 1 1] 26)) ⟨w2.heap.size+1,0,none⟩ 1 1 [⟨some ⟨w2.heap.size,0,none⟩,1,[T]⟩] rfl rfl ?_ ?_ ?_ ?_ ?_;(have hc:=cells_new (w:=w2.alloc (.cells #[.string T] 9)) #[.slice (some ⟨w2.heap.size,0,none⟩) 1 1] 26 (encRv.all [⟨some ⟨w2.heap.size,0,none⟩,1,[T]⟩]) rfl;rw [World.size_alloc] at hc;exact hc);(rw [HLEN.out];omega);(rw [HLEN.out];unfold maxLen;omega);(have:=HR2.out.sh.lt;simp;omega);intro v5 w5 h1 h2 h3;have HN:=Lib.hid (HR2.out.next HT.out _ h2 h1);have hs5:=HR2.out.sh5 _ _ h2;have y2:=hs5.cells.2.2;have m2:w5.frozen? ⟨sb,2,none⟩=false:=frozen_of_row w5 sb 2 _ _ hs5;obtain ⟨g5,c5,rfl, -⟩:=h1.some (by simp);clear h1 h2 h3 hs5)
      simp only [List.length_append,List.length_singleton] at HN
      go_roundw
      case rel=>exact ⟨i+1,_,_,by omega,by go_num,HN⟩
      case measure=>simp [intOf];omega
    · have e1:((i:Int) == (k:Int) - 1)=true:=by rw [beq_iff_eq];omega
      cases hcl:cl with
      | true =>
        subst hcl
        have HT:=Lib.hid (show (⟨#[61,65,49]⟩:ByteArray)=tQ k true i from by unfold tQ;rw [if_neg hl,if_pos rfl];exact txR_0.symm)
        go_upto_region 11 with (go_at_call 4;((with_reducible refine HDG.out.mono ?_);rintro e w2 ⟨rfl,h1⟩;have HR2:=Lib.hid (HR.out.below h1);obtain ⟨-, -,x2⟩:=HR2.out.sh.cells;clear h1))
        go_wp2_with (at_builtin;refine wpList_app_at Elem.rwQ encRv rfl (.tmp 38) (.tmp 41) rfl (sb+1) v rvs rfl ((HR2.out.own.alloc (.cells #[.string (⟨#[61,65,49]⟩:ByteArray)] 9)).alloc (.cells #[.slice (some ⟨w2.heap.size,0,none⟩) 1 1] 26)) ⟨w2.heap.size+1,0,none⟩ 1 1 [⟨some ⟨w2.heap.size,0,none⟩,1,[(⟨#[61,65,49]⟩:ByteArray)]⟩] rfl rfl ?_ ?_ ?_ ?_ ?_;(have hc:=cells_new (w:=w2.alloc (.cells #[.string (⟨#[61,65,49]⟩:ByteArray)] 9)) #[.slice (some ⟨w2.heap.size,0,none⟩) 1 1] 26 (encRv.all [⟨some ⟨w2.heap.size,0,none⟩,1,[(⟨#[61,65,49]⟩:ByteArray)]⟩]) rfl;rw [World.size_alloc] at hc;exact hc);(rw [HLEN.out];omega);(rw [HLEN.out];unfold maxLen;omega);(have:=HR2.out.sh.lt;simp;omega);intro v5 w5 h1 h2 h3;have HN:=Lib.hid (HR2.out.next HT.out _ h2 h1);have hs5:=HR2.out.sh5 _ _ h2;have y2:=hs5.cells.2.2;have m2:w5.frozen? ⟨sb,2,none⟩=false:=frozen_of_row w5 sb 2 _ _ hs5;obtain ⟨g5,c5,rfl, -⟩:=h1.some (by simp);clear h1 h2 h3 hs5)
        simp only [List.length_append,List.length_singleton] at HN
        go_roundw
        case rel=>exact ⟨i+1,_,_,by omega,by go_num,HN⟩
        case measure=>simp [intOf];omega
      | false =>
        subst hcl
        have HT:=Lib.hid (show (⟨#[61,49]⟩:ByteArray)=tQ k false i from by unfold tQ;rw [if_neg hl];rfl)
        go_upto_region 11 with (go_at_call 4;((with_reducible refine HDG.out.mono ?_);rintro e w2 ⟨rfl,h1⟩;have HR2:=Lib.hid (HR.out.below h1);obtain ⟨-, -,x2⟩:=HR2.out.sh.cells;clear h1))
        go_wp2_with (at_builtin;refine wpList_app_at Elem.rwQ encRv rfl (.tmp 38) (.tmp 41) rfl (sb+1) v rvs rfl ((HR2.out.own.alloc (.cells #[.string (⟨#[61,49]⟩:ByteArray)] 9)).alloc (.cells #[.slice (some ⟨w2.heap.size,0,none⟩) 1 1] 26)) ⟨w2.heap.size+1,0,none⟩ 1 1 [⟨some ⟨w2.heap.size,0,none⟩,1,[(⟨#[61,49]⟩:ByteArray)]⟩] rfl rfl ?_ ?_ ?_ ?_ ?_;(have hc:=cells_new (w:=w2.alloc (.cells #[.string (⟨#[61,49]⟩:ByteArray)] 9)) #[.slice (some ⟨w2.heap.size,0,none⟩) 1 1] 26 (encRv.all [⟨some ⟨w2.heap.size,0,none⟩,1,[(⟨#[61,49]⟩:ByteArray)]⟩]) rfl;rw [World.size_alloc] at hc;exact hc);(rw [HLEN.out];omega);(rw [HLEN.out];unfold maxLen;omega);(have:=HR2.out.sh.lt;simp;omega);intro v5 w5 h1 h2 h3;have HN:=Lib.hid (HR2.out.next HT.out _ h2 h1);have hs5:=HR2.out.sh5 _ _ h2;have y2:=hs5.cells.2.2;have m2:w5.frozen? ⟨sb,2,none⟩=false:=frozen_of_row w5 sb 2 _ _ hs5;obtain ⟨g5,c5,rfl, -⟩:=h1.some (by simp);clear h1 h2 h3 hs5)
        simp only [List.length_append,List.length_singleton] at HN
        go_roundw
        case rel=>exact ⟨i+1,_,_,by omega,by go_num,HN⟩
        case measure=>simp [intOf];omega
  · have hii:¬ (i:Int)<(k:Int):=by omega
    obtain rfl:i=k:=by omega
    obtain ⟨A,c,hv⟩:=own_sl HR.out.own
    rw [HR.out.len] at hv
    subst hv
    obtain ⟨x0,x1,x2⟩:=HR.out.sh.cells
    have hb7:Below wr.heap.size wr (wr.alloc (.cells #[.string nA1,.int .i64 1,.slice A i c] 24)):=(Below.refl _ _).alloc (Nat.le_refl _) _
    have hr7:RwX encSv 24 (wr.alloc (.cells #[.string nA1,.int .i64 1,.slice A i c] 24)) wr.heap.size [⟨nA1,1,A,c,rvs⟩]:=by
     refine (Go.MapKept.heap_alloc wr _).1.trans ?_
     show some (Obj.cells #[.string nA1,.int .i64 1,.slice A i c] 24)=some (.cells #[.string nA1,.int .i64 1,.slice A rvs.length c] 24)
     rw [HR.out.len]
    have hbk:BkR (wr.alloc (.cells #[.string nA1,.int .i64 1,.slice A i c] 24)) (wr.alloc (.cells #[.string nA1,.int .i64 1,.slice A i c] 24)).heap.size (.slice (some ⟨wr.heap.size,0,none⟩) 1 1) [⟨nA1,1,A,c,rvs⟩]:=by
     refine ⟨(hr7.own (Nat.le_refl _) (show 1≤maxLen by decide)).se,fun s hs => ?_⟩
     rw [List.mem_singleton.1 hs]
     refine ⟨?_,fun r hr=>(HR.out.each.se r hr).lift hb7⟩
     have h:=HR.out.own.se.lift hb7
     show SE encRv _ _ (.slice A rvs.length c) rvs
     rw [HR.out.len];exact h
    have HQ:=Lib.hid (show RowQ ⟨nA1,1,A,c,rvs⟩ i cl from ⟨rfl,rfl,HR.out.txt⟩)
    have HBK:=Lib.hid hbk
    have HB7:=Lib.hid (show Below w.heap.size w (wr.alloc (.cells #[.string nA1,.int .i64 1,.slice A i c] 24)) from by rw [hsb];exact HR.out.bl.trans (hb7.mono (Nat.le_of_lt HR.out.sh.lt)))
    obtain ⟨w7,hw7⟩:∃ w7,wr.alloc (.cells #[.string nA1,.int .i64 1,.slice A i c] 24)=w7:=⟨_,rfl⟩
    rw [hw7] at HBK HB7
    have HX7:=Lib.hid (HX.out.below HB7.out)
    have HAW:=Lib.hid (fun (wq:World) (h:Below w.heap.size w wq)=>awake13 wq (HX.out.below h))
    clear hb7 hr7 hbk
    cases hcl:cl with
    | true =>
      subst hcl
      have HO:=Lib.hid (order_closed w7 _ _ i HBK.out HQ.out (by omega) (by omega) HX7.out)
      have e0:((0:Int) == 0)=true:=rfl
      have e3:((i:Int) == (i:Int))=true:=beq_self_eq_true _
      go_wp2_with (first
       | (go_at_call 5;((with_reducible refine HO.out.mono ?_);rintro e w8 ⟨h1,v8,xs,rfl,h2,h3⟩;obtain ⟨A8,c8,rfl⟩:=own_sl h2;rw [h3];have HB8:=Lib.hid (HB7.out.trans (h1.mono HB7.out.size));clear h1 h2 h3))
       | (go_at_call 6;((with_reducible refine (HAW.out _ HB8.out).mono ?_);rintro e w9 ⟨rfl,h1⟩;have HB9:=Lib.hid (HB8.out.trans (h1.mono HB8.out.size));clear h1)))
      go_ret
      exact ⟨rfl,HB9.out⟩
    | false =>
      subst hcl
      have HO:=Lib.hid (order_open w7 _ _ i HBK.out HQ.out (by omega) (by omega) HX7.out)
      have e0:((0:Int) == 0)=true:=rfl
      have e3:((i:Int) == (i:Int))=true:=beq_self_eq_true _
      go_upto_region 16 with (go_at_call 5;((with_reducible refine HO.out.mono ?_);rintro e w8 ⟨h1,o8,v8,rfl,h2,h3⟩;have HS8:=Lib.hid h2.se;obtain ⟨A8,c8,rfl⟩:=own_sl h2;obtain ⟨A9,c9,rfl⟩:=own_sl h3;rw [List.length_reverse,rowL_len] at HS8;rw [List.length_reverse,rowL_len,List.length_nil];have HB8:=Lib.hid (HB7.out.trans (h1.mono HB7.out.size));clear h1 h2 h3))
      go_loopw [11] (fun iv wz=>∃ j:Nat,j≤i∧iv = .int .i64 (j:Int)∧wz=w8)
       (fun iv _=>i - (intOf iv).toNat)
      case atStart=>exact ⟨0,Nat.zero_le _,rfl,rfl⟩
      case round =>
       obtain ⟨j,hj,rfl,hwz⟩:=hrel
       subst hwz
       by_cases hlj:j<i
       · have hji:(j:Int)<(i:Int):=by omega
         have hj0:(0:Int)≤(j:Int):=by omega
         have hg:(rowL nA1 i).reverse[j]? = some ⟨nA1,i - 1 - j,0⟩:=by
          rw [List.getElem?_reverse (by rw [rowL_len];exact hlj),rowL_len,rowL_get (by omega)]
         obtain ⟨px,qx,rfl, -,cx⟩:=HS8.out.at hg
         have k1:=cx 1 _ rfl
         rw [← Nat.add_assoc,show (((⟨nA1,i - 1 - j,0⟩:Spt).r:Nat):Int)=(i:Int) - 1 - (j:Int) from by show ((i - 1 - j:Nat):Int)=_;omega] at k1
         have ex:((i:Int) - 1 - (j:Int) != (i:Int) - 1 - (j:Int))=false:=by simp
         have wj:IntKind.i64.wrap ((i:Int) - 1 - (j:Int))=(i:Int) - 1 - (j:Int):=by rw [IntKind.wrap_i64];omega
         clear cx hg
         go_wp2_with fail
         go_roundw
         case rel=>exact ⟨j+1,by omega,by go_num,by first | rfl | trivial⟩
         case measure=>simp [intOf];omega
       · have hji:¬ (j:Int)<(i:Int):=by omega
         go_wp2_with (go_at_call 6;((with_reducible refine (HAW.out _ HB8.out).mono ?_);rintro e w9 ⟨rfl,h1⟩;have HB9:=Lib.hid (HB8.out.trans (h1.mono HB8.out.size));clear h1))
         go_ret
         exact ⟨rfl,HB9.out⟩
end Go.Proofs.YtnahgpjglooclaaGreatDoor
namespace Go.Proofs.YtnahgpjglooclaaGreatDoor
open Go.ChangeShapes Go.WideShapes Go.ChangeAt Go.RowKit
def textData {H:Type} (bs:List (List UInt8)):DataW H := .agg (bs.map fun b => .lit (.string b))
theorem cells_of_texts {H:Type} {enc:TypeId × Value→H} {P:Program} {w:World} {base:Nat} {sp:Nat→Bool} {held:Bool} {fuel:Nat} {t e:TypeId} {n:Nat} {cs:List Value} {bs:List (List UInt8)} {p:List MemPlace}
 (ht:P.underlying t=some (.array n e)) (he:P.underlying e=some .string) (hce:P.cellsOf e=1) (hct:P.cellsOf t=n)
 (h:DataW.trod enc P w base sp held fuel t cs=some (textData bs,p)):cs=bs.map fun b=>Value.string ⟨b.toArray⟩:=by
 cases fuel with
 | zero=>simp [DataW.trod] at h
 | succ fuel =>
   simp only [DataW.trod,ht,hce,hct,Nat.mul_one] at h
   split at h
   · rename_i hl
     obtain ⟨xs,hm,hx⟩:=Option.map_eq_some_iff.1 h
     have hxs:xs.map (·.1)=bs.map fun b=>(DataW.lit (.string b):DataW H):=by
      have:=congrArg Prod.fst hx
      simpa [textData] using this
     have hxl:xs.length=n:=by simpa using Lib.mapM_length hm
     have hzl:bs.length=n:=by
      have:=congrArg List.length hxs
      simp at this
      omega
     apply List.ext_getElem?
     intro i
     by_cases hi:i<n
     · obtain ⟨b,hb,hf⟩:=Lib.mapM_at hm i i (by simp [hi])
       obtain ⟨z,hc,rfl,_⟩:=DataW.trod_string he hf
       have h1:cs[i]? = some (.string z):=by
        have:=congrArg (·[0]?) hc
        simpa [List.getElem?_take,List.getElem?_drop] using this
       have h2:(xs.map (·.1))[i]? = some (DataW.lit (.string z.data.toList):DataW H):=by simp [hb]
       rw [hxs] at h2
       simp only [List.getElem?_map,Option.map_eq_some_iff,DataW.lit.injEq,Lit.string.injEq] at h2
       obtain ⟨z',hz',e⟩:=h2
       simp only [h1,List.getElem?_map,hz',Option.map_some,e]
     · rw [List.getElem?_eq_none (by omega),List.getElem?_eq_none (by simp;omega)]
   · cases h
def laidList : List (String × DataW Unit) := [("math/bits.deBruijn32tab", Rows.laid_math_bits_deBruijn32tab), ("math/bits.deBruijn64tab", Rows.laid_math_bits_deBruijn64tab), ("internal/strconv.uint64pow10", Rows.laid_internal_strconv_uint64pow10), ("unicode/utf8.acceptRanges", Rows.laid_unicode_utf8_acceptRanges), ("strconv.ErrRange", Rows.laid_strconv_ErrRange), ("strconv.ErrSyntax", Rows.laid_strconv_ErrSyntax), ("chequer/lex.signs", Rows.laid_chequer_lex_signs), ("chequer/parse.operators", Rows.laid_chequer_parse_operators), ("chequer/show.signs", Rows.laid_chequer_show_signs), ("unicode/utf8.first", Rows.laid_unicode_utf8_first)]
theorem gErr : Tryz.prog.globalNamed "strconv.ErrRange" = some 4 := by kernel_rfl
theorem gErr_t:(Tryz.prog.globals[(4:Nat)]?).map (·.type)=some 161:=by kernel_rfl
theorem gSig : Tryz.prog.globalNamed "chequer/lex.signs" = some 1 := by kernel_rfl
theorem gSig_t:(Tryz.prog.globals[(1:Nat)]?).map (·.type)=some 224:=by kernel_rfl
theorem cellsErr:Tryz.prog.cellsOf 249=1:=by kernel_rfl
theorem cellsStr:Tryz.prog.cellsOf 9=1:=by kernel_rfl
theorem cellsSig:Tryz.prog.cellsOf 224=15:=by kernel_rfl
theorem star : "*" ++ "errors.errorString" = "*errors.errorString" := by decide
theorem rowErr (u : TypeId) (h : Tryz.prog.typeName? 3 u = some "*errors.errorString") : u = 247 :=
 typeName_ptr_named (nm := "errors.errorString") (by rw [star]; kernel_rfl) (by kernel_rfl) (by decide) u (by rw [star]; exact h)
def sigBytes:List (List UInt8):=[[60,62],[60,61],[62,61],[43],[45],[42],[47],[38],[61],[60],[62],[40],[41],[44],[58]]
theorem sigData:(Rows.laid_chequer_lex_signs:DataW Unit)=textData sigBytes:=rfl
theorem sigCells:(sigBytes.map fun b=>Value.string ⟨b.toArray⟩)=sigA.toList:=rfl
theorem laidMet_tail6 {P:Program} {x:String × DataW Unit} {l:List (String × DataW Unit)} {w:World} (h:laidMet P (x :: l) w):laidMet P l w:=by
 obtain ⟨ps,h1,h2,h3⟩:=h
 obtain ⟨n,d⟩:=x
 obtain ⟨g,t,cs,fuel,p,q,_,_,_,_,hq,rfl⟩:=h1
 exact ⟨q,hq,(List.nodup_append.1 h2).2.1,fun b off hm=>h3 b off (List.mem_append_right _ hm)⟩
theorem gTab_t:(Tryz.prog.globals[5]?).map (·.type)=some 236:=by kernel_rfl
theorem cTab20:Tryz.prog.cellsOf 236=20:=by kernel_rfl
theorem cTab1:Tryz.prog.cellsOf 37=1:=by kernel_rfl
theorem tablesTab {W:World} (h:laidMetH Tryz.prog laidList W):Tab W:=by
 have h1:laidMet Tryz.prog laidList W:=h
 exact Lib.tabIs_of_head gTab gTab_t Tryz.underlying236 Tryz.underlying37 cTab1 cTab20 (laidMet_tail6 (laidMet_tail6 h1))
theorem gSho : Tryz.prog.globalNamed "chequer/show.signs" = some 0 := by kernel_rfl
theorem gSho_t:(Tryz.prog.globals[(0:Nat)]?).map (·.type)=some 208:=by kernel_rfl
theorem cellsSho:Tryz.prog.cellsOf 208=20:=by kernel_rfl
def shoBytes:List (List UInt8):=[[],[],[],[],[],[],[],[],[],[61],[60,62],[60],[60,61],[62],[62,61],[38],[43],[45],[42],[47]]
theorem shoData:(Rows.laid_chequer_show_signs:DataW Unit)=textData shoBytes:=rfl
theorem shoCells:(shoBytes.map fun b=>Value.string ⟨b.toArray⟩)=shA.toList:=rfl
theorem tablesSho {W:World} (h:laidMetH Tryz.prog laidList W):ShV W:=by
 have h1:laidMet Tryz.prog laidList W:=h
 have h6:=laidMet_tail6 (laidMet_tail6 (laidMet_tail6 (laidMet_tail6 (laidMet_tail6 (laidMet_tail6 (laidMet_tail6 (laidMet_tail6 (h1))))))))
 obtain ⟨ps,⟨g',t',cs,fuel,p,q,hg',ht',hvar,hd,_,_⟩,_⟩:=h6
 obtain rfl:=Option.some.inj (gSho.symm.trans hg')
 obtain rfl:=Option.some.inj (gSho_t.symm.trans ht')
 rw [shoData] at hd
 have hc:=cells_of_texts Tryz.underlying208 Tryz.underlying9 cellsStr cellsSho hd
 rw [shoCells] at hc
 unfold World.var? at hvar
 rw [gSho] at hvar
 simp only [Option.bind_some] at hvar
 split at hvar
 · rename_i cs' ty fr hh
   injection hvar with hvar
   subst hvar
   have:cs'=shA:=Array.toList_inj.1 hc
   exact ⟨ty,fr,by rw [← this];exact hh⟩
 · cases hvar
theorem tables {W:World} (h:laidMetH Tryz.prog laidList W):Vars W:=by
 have h1:laidMet Tryz.prog laidList W:=h
 have h4:=laidMet_tail6 (laidMet_tail6 (laidMet_tail6 (laidMet_tail6 (h1))))
 constructor
 · obtain ⟨a0,s0,hv0, -, -, -⟩:=laid_sentinel h4 gErr gErr_t Tryz.underlying161 rowErr Tryz.underlying247 Tryz.underlying249 rfl rfl Tryz.underlying9 cellsErr cellsStr
   exact ⟨_,by have h0:=World.var?_cell gErr hv0 0;simpa using h0,Or.inr ⟨_,_,rfl⟩⟩
 · have h6:=laidMet_tail6 (laidMet_tail6 h4)
   obtain ⟨ps,⟨g',t',cs,fuel,p,q,hg',ht',hvar,hd,_,_⟩,_⟩:=h6
   obtain rfl:=Option.some.inj (gSig.symm.trans hg')
   obtain rfl:=Option.some.inj (gSig_t.symm.trans ht')
   rw [sigData] at hd
   have hc:=cells_of_texts Tryz.underlying224 Tryz.underlying9 cellsStr cellsSig hd
   rw [sigCells] at hc
   unfold World.var? at hvar
   rw [gSig] at hvar
   simp only [Option.bind_some] at hvar
   split at hvar
   · rename_i cs' ty fr hh
     injection hvar with hvar
     subst hvar
     have:cs'=sigA:=Array.toList_inj.1 hc
     exact ⟨ty,fr,by rw [← this];exact hh⟩
   · cases hvar
def opC (q:ByteArray × Nat × Int):List Value:=[.string q.1,.int .i64 (q.2.1:Int),.int .i64 q.2.2]
theorem cells3:∀ (L:List (ByteArray × Nat × Int)) (cs:List Value),cs.length=L.length*3→(∀ (i:Nat) q,L[i]? = some q→(cs.drop (i*3)).take 3=opC q)→cs=L.flatMap opC
 | [],cs,h,_=>by simpa using h
 | q :: L,cs,h,hi=>by
   have h0:=hi 0 q rfl
   rw [Nat.zero_mul,List.drop_zero] at h0
   have h1:=cells3 L (cs.drop 3) (by rw [List.length_drop,h,List.length_cons];omega) (fun i q' hq=>by
    have:=hi (i+1) q' (by simpa using hq)
    rw [Nat.succ_mul] at this
    rw [List.drop_drop,Nat.add_comm 3];exact this)
   rw [List.flatMap_cons, ← h0, ← h1,List.take_append_drop]
def opData {H:Type} (q:ByteArray × Nat × Int):DataW H := .agg [.lit (.string q.1.data.toList),.lit (.int .i64 (q.2.1:Int)),.lit (.int .i64 q.2.2)]
theorem opsData:(Rows.laid_chequer_parse_operators:DataW Unit) = .agg (opL3.map opData):=rfl
theorem gOps : Tryz.prog.globalNamed "chequer/parse.operators" = some 2 := by kernel_rfl
theorem gOps_t:(Tryz.prog.globals[(2:Nat)]?).map (·.type)=some 227:=by kernel_rfl
theorem cellsOps:Tryz.prog.cellsOf 227=33:=by kernel_rfl
theorem cellsOp:Tryz.prog.cellsOf 226=3:=by kernel_rfl
set_option maxRecDepth 100000 in
theorem op_of_trod {enc:TypeId × Value→Unit} {w:World} {base:Nat} {sp:Nat→Bool} {held:Bool} {fuel:Nat} {cs:List Value} {q:ByteArray × Nat × Int} {p:List MemPlace}
 (h:DataW.trod enc Tryz.prog w base sp held fuel 226 cs=some (opData q,p)):cs=opC q:=by
 obtain ⟨y0,y1,y2,n,hx,hl,h0,h1,h2⟩:=Go.Deep.trod_struct3 Tryz.underlying226 h
 injection hx with hx _
 unfold opData at hx
 injection hx with hx
 injection hx with e0 hx;injection hx with e1 hx;injection hx with e2 _
 rw [cellsOp] at hl
 match cs,hl with
 | [c0,c1,c2],_ =>
   obtain ⟨s,g0,g0',_⟩:=DataW.trod_string Tryz.underlying9 h0
   obtain ⟨n1,g1,g1',_⟩:=DataW.trod_int Tryz.underlying3 h1
   obtain ⟨n2,g2,g2',_⟩:=DataW.trod_int Tryz.underlying3 h2
   have k0:[c0]=[Value.string s]:=g0
   have k1:[c1]=[Value.int .i64 n1]:=g1
   have k2:[c2]=[Value.int .i64 n2]:=g2
   injection k0 with k0 _;injection k1 with k1 _;injection k2 with k2 _
   rw [g0'] at e0;rw [g1'] at e1;rw [g2'] at e2
   injection e0 with e0;injection e0 with e0
   injection e1 with e1;injection e1 with _ e1
   injection e2 with e2;injection e2 with _ e2
   have es:s=q.1:=by
    cases s;cases hq:q.1
    rw [hq] at e0
    simp only at e0
    rw [Array.toList_inj.1 e0.symm]
   rw [k0,k1,k2,es, ← e1, ← e2];rfl
set_option maxRecDepth 100000 in
theorem cells_of_ops {enc:TypeId × Value→Unit} {w:World} {base:Nat} {sp:Nat→Bool} {held:Bool} {fuel:Nat} {cs:List Value} {p:List MemPlace}
 (h:DataW.trod enc Tryz.prog w base sp held fuel 227 cs=some (.agg (opL3.map opData),p)):cs=opL3.flatMap opC:=by
 obtain ⟨xs,m,_,hx,hl,hxl,hi⟩:=DataW.trod_array Tryz.underlying227 h
 injection hx with hx _
 injection hx with hx
 rw [cellsOps] at hl
 refine cells3 opL3 cs (by rw [hl];rfl) fun i q hq => ?_
 have hlt:=(List.getElem?_eq_some_iff.1 hq).1
 have hlt:i<11:=hlt
 have h1:=hi i hlt
 rw [cellsOp] at h1
 obtain ⟨y,hy⟩:∃ y,xs[i]? = some y:=⟨_,List.getElem?_eq_getElem (by omega)⟩
 rw [hy] at h1
 have h2:(xs.map (·.1))[i]? = some y.1:=by rw [List.getElem?_map,hy];rfl
 rw [← hx,List.getElem?_map,hq] at h2
 have h2:opData q=y.1:=Option.some.inj h2
 obtain ⟨y1,y2⟩:=y
 have h2:opData q=y1:=h2
 subst h2
 exact op_of_trod h1
theorem opA_list:opA.toList=opL3.flatMap opC:=rfl
theorem tablesOp {W:World} (h:laidMetH Tryz.prog laidList W):OpV W:=by
 have h1:laidMet Tryz.prog laidList W:=h
 have h4:=laidMet_tail6 (laidMet_tail6 (laidMet_tail6 (laidMet_tail6 (laidMet_tail6 (laidMet_tail6 (laidMet_tail6 (h1)))))))
 obtain ⟨ps,⟨g',t',cs,fuel,p,q,hg',ht',hvar,hd,_,_⟩,_⟩:=h4
 obtain rfl:=Option.some.inj (gOps.symm.trans hg')
 obtain rfl:=Option.some.inj (gOps_t.symm.trans ht')
 rw [opsData] at hd
 have hc:=cells_of_ops hd
 rw [← opA_list] at hc
 unfold World.var? at hvar
 rw [gOps] at hvar
 simp only [Option.bind_some] at hvar
 split at hvar
 · rename_i cs' ty fr hh
   injection hvar with hvar
   subst hvar
   have:cs'=opA:=Array.toList_inj.1 hc
   exact ⟨ty,fr,by rw [← this];exact hh⟩
 · cases hvar
theorem maxOf {W:World} (h:W.ShapedOpen Tryz.prog):MaxV W :=
 cell_of_shapedOpen_int (g:=8) (t:=3) (zero:=#[.int .i64 0]) h (of_decide_eq_true (by kernel_rfl)) (by kernel_rfl) rfl (by kernel_rfl) (by kernel_rfl) Tryz.underlying3
theorem tablesSx {W:World} (h:laidMetH Tryz.prog laidList W) (hs:W.ShapedOpen Tryz.prog):Sx W:=⟨tables h,tablesOp h,tablesTab h,maxOf hs,tablesSho h⟩
noncomputable def laidWorld (os:Os):World:=World.laidAll Tryz.prog os laidList
theorem laid_met0 (os:Os) (args:Array Value):laidMet Tryz.prog laidList ((laidWorld os).forCall (fun _ _=>0) ⟨#[],args,[]⟩).memory:=laidMet_laidAll args (by kernel_rfl) (by kernel_rfl)
end Go.Proofs.YtnahgpjglooclaaGreatDoor
namespace Go.Proofs.YtnahgpjglooclaaGreatDoor
open Go.ChangeShapes Go.WideShapes Go.ChangeAt Go.RowKit
theorem gSyn : Tryz.prog.globalNamed "strconv.ErrSyntax" = some 3 := by kernel_rfl
theorem gSyn_t:(Tryz.prog.globals[(3:Nat)]?).map (·.type)=some 161:=by kernel_rfl
theorem tablesSyn {W:World} (h:laidMetH Tryz.prog laidList W):ErrS W:=by
 have h1:laidMet Tryz.prog laidList W:=h
 have h5:=laidMet_tail6 (laidMet_tail6 (laidMet_tail6 (laidMet_tail6 (laidMet_tail6 (h1)))))
 obtain ⟨a0,s0,hv0, -, -, -⟩:=laid_sentinel h5 gSyn gSyn_t Tryz.underlying161 rowErr Tryz.underlying247 Tryz.underlying249 rfl rfl Tryz.underlying9 cellsErr cellsStr
 exact ⟨_,by have h0:=World.var?_cell gSyn hv0 0;simpa using h0,Or.inr ⟨_,_,rfl⟩⟩
theorem tablesCx {W:World} (h:laidMetH Tryz.prog laidList W) (hs:W.ShapedOpen Tryz.prog):Cx W:=⟨tablesSx h hs,tablesSyn h⟩
end Go.Proofs.YtnahgpjglooclaaGreatDoor
