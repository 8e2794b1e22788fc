/-
 Texts of layers, put together.
-/
import Derived.Test.YtdphoaabaajonaaGreatDoorMB9
import Derived.Deep.RegionHeld3
import Derived.IntWalk
import Derived.SliceStrings
import Derived.Deep.CutBlock
namespace Go.Proofs.YtdphoaabaajonaaGreatDoor
open Go.RowKit
set_option maxRecDepth 100000 in
set_option maxHeartbeats 4000000 in
theorem rfind_any (w:World) (A:Option Addr) (n cap:Nat) (shs:List Sv) (nm:ByteArray) (o:Option (Nat × Sv)) (h:BkR w w.heap.size (.slice A n cap) shs) (hn:n≤1000000) (ho:FindR shs nm o) :
 Calls Tryz.prog 24 #[.agg #[.slice A n cap],.string nm] w fun e w'=>e = .returned (.int .i64 (findN o))∧Below w.heap.size w w':=by
 have HB:=Lib.hid (below_bk w (.slice A n cap))
 have HA:=Lib.hid (BkAt.new w (.slice A n cap))
 have HL:=Lib.hid h.1.len.1
 have HBK:=Lib.hid (h.lift HB.out);have HO:=Lib.hid ho
 clear h ho
 go_enter Tryz.func24,Tryz.ntmps24
 go_upto_region 1 with (fail)
 obtain ⟨w1,hw1⟩:∃ w1,w.alloc (.cells #[.slice A n cap] 26)=w1:=⟨_,rfl⟩
 rw [hw1] at HA HB HBK ⊢
 clear hw1
 go_upto_region 2 with (fail)
 go_loopw [5] (fun iv wr=>∃ i:Nat,i≤n∧iv = .int .i64 (i:Int)∧Hid (∀ (j:Nat) (t:Sv),j<i→shs[j]? = some t→t.nm≠nm)∧wr=w1)
  (fun iv _=>n - (intOf iv).toNat)
 case atStart=>exact ⟨0,Nat.zero_le _,rfl,Lib.hid (fun j t h=>by omega),rfl⟩
 case round =>
  obtain ⟨i,hi,rfl,HT,hwr⟩:=hrel
  subst hwr
  have b0:=HA.out.cell
  by_cases hlt:i<n
  · have hii:(i:Int)<(n:Int):=by omega
    have hi0:(0:Int)≤(i:Int):=by omega
    obtain ⟨s,hs⟩:∃ s,shs[i]? = some s:=⟨_,List.getElem?_eq_getElem (by rw [HL.out];exact hlt)⟩
    obtain ⟨pb,po,rfl,hpb,e0,e1,e2,hrow⟩:=sh_at HBK.out hs
    have HS:=Lib.hid hs
    clear e1 e2 hrow hs
    by_cases he:s.nm=nm
    · have hq:(s.nm.toList == nm.toList)=true:=by rw [tl_eq];exact decide_eq_true he
      have hq2:s.nm.toList=nm.toList:=by rw [he]
      have HF:=Lib.hid (show findN o=(i:Int) from by
       cases o with
       | none=>exact absurd he (HO.out i s HS.out)
       | some p =>
         obtain ⟨k,t⟩:=p
         obtain ⟨h1,h2,h3⟩:=HO.out
         show (k:Int)=(i:Int)
         rcases Nat.lt_trichotomy i k with h | h | h
         · exact absurd he (h3 i s h HS.out)
         · omega
         · exact absurd h2 (HT.out k t h h1))
      clear he
      go_wp2_with fail
      go_ret
      exact ⟨ret_int HF.out.symm,HB.out⟩
    · have hq:(s.nm.toList == nm.toList)=false:=by rw [tl_eq];exact decide_eq_false he
      have hq2:¬ s.nm.toList=nm.toList:=text_ne _ _ he
      have HF:=Lib.hid (show ∀ (j:Nat) (t:Sv),j<i+1→shs[j]? = some t→t.nm≠nm from fun j t hj ht=>by
       by_cases hji:j=i
       · subst hji
         have h:=HS.out
         rw [ht] at h;injection h with h;subst h;exact he
       · exact HT.out j t (by omega) ht)
      clear he
      go_wp2_with fail
      go_roundw
      case rel=>exact ⟨i+1,by omega,by go_num,HF,by first | rfl | trivial⟩
      case measure=>simp [intOf];omega
  · have hii:¬ (i:Int)<(n:Int):=by omega
    have HF:=Lib.hid (show findN o = -1 from by
     cases o with
     | none=>rfl
     | some p =>
       obtain ⟨k,t⟩:=p
       obtain ⟨h1,h2,h3⟩:=HO.out
       have:=(List.getElem?_eq_some_iff.1 h1).1
       have:=HL.out
       exact absurd h2 (HT.out k t (by omega) h1))
    go_wp2_with fail
    go_ret
    exact ⟨ret_int HF.out.symm,HB.out⟩
set_option maxRecDepth 100000 in
set_option maxHeartbeats 4000000 in
theorem inside_yes (w:World) (s:Sv) (h:RowsR w w.heap.size (.slice s.A s.rows.length s.cap) s.rows) (r c:Nat) (rv:Rv) (hr:s.rows[r]? = some rv) (hc:c<rv.l.length) :
 Calls Tryz.prog 27 #[.agg #[.string s.nm,.int .i64 s.cols,.slice s.A s.rows.length s.cap],.int .i64 (r:Int),.int .i64 (c:Int)] w fun e w'=>e = .returned (.bool true)∧Below w.heap.size w w':=by
 have HB:=Lib.hid (below_sh w s.nm s.cols (.slice s.A s.rows.length s.cap))
 have HS:=Lib.hid (ShAt.new w s.nm s.cols (.slice s.A s.rows.length s.cap))
 obtain ⟨pb,po,hA,hpb,e0,_⟩:=row_at (h.lift HB.out) hr
 have hrl:=(List.getElem?_eq_some_iff.1 hr).1
 obtain ⟨n,hn⟩:∃ n,s.rows.length=n:=⟨_,rfl⟩
 obtain ⟨m,hm⟩:∃ m,rv.l.length=m:=⟨_,rfl⟩
 rw [hm] at e0 hc
 rw [hn] at hrl HB HS e0 ⊢
 rw [hA] at HB HS e0 ⊢
 have hri:(r:Int)<(n:Int):=by omega
 have hci:(c:Int)<(m:Int):=by omega
 have hr0:(0:Int)≤(r:Int):=by omega
 have hc0:(0:Int)≤(c:Int):=by omega
 have HE:=Lib.hid e0
 clear h hr hA hpb hn hm e0
 go_enter Tryz.func27,Tryz.ntmps27
 go_upto_region 1 with (fail)
 obtain ⟨w1,hw1⟩:∃ w1,w.alloc (.cells #[.string s.nm,.int .i64 s.cols,.slice (some ⟨pb,po,none⟩) n s.cap] 47)=w1:=⟨_,rfl⟩
 rw [hw1] at HB HS HE ⊢
 clear hw1
 obtain ⟨x0,x1,x2⟩:=HS.out.cells
 have y0:=HE.out
 go_wp2_with fail
 go_ret
 exact ⟨rfl,HB.out⟩
set_option maxRecDepth 100000 in
set_option maxHeartbeats 4000000 in
theorem inside_no1 (w:World) (s:Sv) (row col:Int) (h:¬ (0≤row∧row<(s.rows.length:Int))) :
 Calls Tryz.prog 27 #[.agg #[.string s.nm,.int .i64 s.cols,.slice s.A s.rows.length s.cap],.int .i64 row,.int .i64 col] w fun e w'=>e = .returned (.bool false)∧Below w.heap.size w w':=by
 have HB:=Lib.hid (below_sh w s.nm s.cols (.slice s.A s.rows.length s.cap))
 have HS:=Lib.hid (ShAt.new w s.nm s.cols (.slice s.A s.rows.length s.cap))
 obtain ⟨n,hn⟩:∃ n,s.rows.length=n:=⟨_,rfl⟩
 rw [hn] at HB HS h ⊢
 clear hn
 go_enter Tryz.func27,Tryz.ntmps27
 go_upto_region 1 with (fail)
 obtain ⟨w1,hw1⟩:∃ w1,w.alloc (.cells #[.string s.nm,.int .i64 s.cols,.slice s.A n s.cap] 47)=w1:=⟨_,rfl⟩
 rw [hw1] at HB HS ⊢
 clear hw1
 obtain ⟨x0,x1,x2⟩:=HS.out.cells
 by_cases h0:0≤row
 · have h1:¬ row<(n:Int):=fun e=>h ⟨h0,e⟩
   clear h
   go_wp2_with fail
   go_ret
   exact ⟨rfl,HB.out⟩
 · clear h
   go_wp2_with fail
   go_ret
   exact ⟨rfl,HB.out⟩
set_option maxRecDepth 100000 in
set_option maxHeartbeats 4000000 in
theorem inside_no2 (w:World) (s:Sv) (h:RowsR w w.heap.size (.slice s.A s.rows.length s.cap) s.rows) (r:Nat) (rv:Rv) (col:Int) (hr:s.rows[r]? = some rv) (hc:¬ (0≤col∧col<(rv.l.length:Int))) :
 Calls Tryz.prog 27 #[.agg #[.string s.nm,.int .i64 s.cols,.slice s.A s.rows.length s.cap],.int .i64 (r:Int),.int .i64 col] w fun e w'=>e = .returned (.bool false)∧Below w.heap.size w w':=by
 have HB:=Lib.hid (below_sh w s.nm s.cols (.slice s.A s.rows.length s.cap))
 have HS:=Lib.hid (ShAt.new w s.nm s.cols (.slice s.A s.rows.length s.cap))
 obtain ⟨pb,po,hA,hpb,e0,_⟩:=row_at (h.lift HB.out) hr
 have hrl:=(List.getElem?_eq_some_iff.1 hr).1
 obtain ⟨n,hn⟩:∃ n,s.rows.length=n:=⟨_,rfl⟩
 obtain ⟨m,hm⟩:∃ m,rv.l.length=m:=⟨_,rfl⟩
 rw [hm] at e0 hc
 rw [hn] at hrl HB HS e0 ⊢
 rw [hA] at HB HS e0 ⊢
 have hri:(r:Int)<(n:Int):=by omega
 have hr0:(0:Int)≤(r:Int):=by omega
 have HE:=Lib.hid e0
 clear h hr hA hpb hn hm e0
 go_enter Tryz.func27,Tryz.ntmps27
 go_upto_region 1 with (fail)
 obtain ⟨w1,hw1⟩:∃ w1,w.alloc (.cells #[.string s.nm,.int .i64 s.cols,.slice (some ⟨pb,po,none⟩) n s.cap] 47)=w1:=⟨_,rfl⟩
 rw [hw1] at HB HS HE ⊢
 clear hw1
 obtain ⟨x0,x1,x2⟩:=HS.out.cells
 have y0:=HE.out
 by_cases h0:0≤col
 · have h1:¬ col<(m:Int):=fun e=>hc ⟨h0,e⟩
   clear hc
   go_wp2_with fail
   go_ret
   exact ⟨rfl,HB.out⟩
 · clear hc
   go_wp2_with fail
   go_ret
   exact ⟨rfl,HB.out⟩
set_option maxRecDepth 100000 in
set_option maxHeartbeats 8000000 in
theorem rget_any (w:World) (A:Option Addr) (n cap:Nat) (shs:List Sv) (nm:ByteArray) (row col:Int) (o:Option (Nat × Sv × Nat × Rv × Nat)) (h:BkR w w.heap.size (.slice A n cap) shs) (hn:n≤1000000) (ho:SpotR shs nm row col o) :
 Calls Tryz.prog 13 #[.agg #[.slice A n cap],.agg #[.string nm,.int .i64 row,.int .i64 col]] w fun e w'=>e = .returned (.string (txO o))∧Below w.heap.size w w':=by
 obtain ⟨w2,hw2,hb,hbk,hsp,hsz⟩:=two_blocks w (.slice A n cap) nm row col
 have HX:=Lib.hid (h.lift hb)
 have HB:=Lib.hid hb;have HBK:=Lib.hid hbk;have HSP:=Lib.hid hsp;have HL:=Lib.hid h.1.len.1
 have hfind:∃ f,FindR shs nm f∧((f=none∧o=none)∨∃ i s,f=some (i,s)∧First shs nm i s):=by
  cases o with
  | none =>
    rcases ho with ho | ⟨i,s,hf,_⟩
    · exact ⟨none,ho,.inl ⟨rfl,rfl⟩⟩
    · exact ⟨some (i,s),hf,.inr ⟨i,s,rfl,hf⟩⟩
  | some p=>obtain ⟨i,s,r,rv,c⟩:=p;exact ⟨some (i,s),ho.1,.inr ⟨i,s,rfl,ho.1⟩⟩
 obtain ⟨f,hf,hcase⟩:=hfind
 have HF:=Lib.hid (rfind_any w2 A n cap shs nm f HX.out hn hf)
 have HO:=Lib.hid ho
 clear h hb hbk hsp ho hsz hf
 go_enter Tryz.func13,Tryz.ntmps13
 go_upto_region 1 with (fail)
 clear hw2
 have b0:=HBK.out.cell
 obtain ⟨s0,s1,s2⟩:=HSP.out.cells
 go_upto_region 2 with (go_at_call 24;((with_reducible refine HF.out.mono ?_);rintro e w3 ⟨rfl,h1⟩;have H3:=Lib.hid h1;clear h1))
 clear b0 s0 s1 s2
 have HB3:=Lib.hid (HB.out.trans (H3.out.mono HB.out.size))
 have HBK3:=Lib.hid (HBK.out.over H3.out);have HSP3:=Lib.hid (HSP.out.over H3.out);have HX3:=Lib.hid (HX.out.lift H3.out)
 have HBD:=Lib.hid (Below.drew (Below.refl w3.heap.size w3))
 rcases hcase with ⟨rfl,rfl⟩ | ⟨i,s,rfl,hfi⟩
 · have hm1:findN none = -1:=rfl
   rw [hm1]
   clear hm1
   have hd1:decide ((-1:Int)<0)=true:=rfl
   go_quiet (fail)
   go_wp2_with fail
   go_ret
   exact ⟨rfl,below_drawn HB3.out _⟩
 · have hfn:findN (some (i,s))=(i:Int):=rfl
   rw [hfn]
   clear hfn
   have hi0:(0:Int)≤(i:Int):=by omega
   have hil:i<n:=by have:=(List.getElem?_eq_some_iff.1 hfi.1).1;rw [HL.out] at this;exact this
   have hii:(i:Int)<(n:Int):=by omega
   have hin0:decide ((i:Int)<0)=false:=decide_eq_false (by omega)
   obtain ⟨pb,po,hA,hpb,e0,e1,e2,hrow⟩:=sh_at HX3.out hfi.1
   have HROW:=Lib.hid hrow
   cases o with
   | none =>
     have HKEEP:=Lib.hid (fun (wq:World) (hq:Below w3.heap.size w3 wq)=>(show wq.cell? ⟨w.heap.size,0,none⟩=some (.slice (some ⟨pb,po,none⟩) n cap)∧wq.cell? ⟨w.heap.size+1,0,none⟩=some (.string nm)∧wq.cell? ⟨w.heap.size+1,1,none⟩=some (.int .i64 row)∧wq.cell? ⟨w.heap.size+1,2,none⟩=some (.int .i64 col)∧wq.cell? ⟨pb,po+i*3,none⟩=some (.string s.nm)∧wq.cell? ⟨pb,po+i*3+1,none⟩=some (.int .i64 s.cols)∧wq.cell? ⟨pb,po+i*3+2,none⟩=some (Value.slice s.A s.rows.length s.cap) from by
      have hb0:=(HBK3.out.over hq).cell
      rw [hA] at hb0
      exact ⟨hb0,(HSP3.out.over hq).cells.1,(HSP3.out.over hq).cells.2.1,(HSP3.out.over hq).cells.2.2,(hq.cell (p:=⟨pb,po+i*3,none⟩) hpb).trans e0,(hq.cell (p:=⟨pb,po+i*3+1,none⟩) hpb).trans e1,(hq.cell (p:=⟨pb,po+i*3+2,none⟩) hpb).trans e2⟩))
     have HIN:=Lib.hid (fun (wq:World) (hq:Below w3.heap.size w3 wq)=>(show Calls Tryz.prog 27 #[.agg #[.string s.nm,.int .i64 s.cols,.slice s.A s.rows.length s.cap],.int .i64 row,.int .i64 col] wq fun e w'=>e = .returned (.bool false)∧Below wq.heap.size wq w' from by
      rcases HO.out with ho | ⟨i2,s',hf2,ho⟩
      · exact absurd hfi.2.1 (ho i s hfi.1)
      · have hse:s'=s:=by
         rcases Nat.lt_trichotomy i i2 with h | h | h
         · exact absurd hfi.2.1 (hf2.2.2 i s h hfi.1)
         · subst h;have:=hf2.1;rw [hfi.1] at this;exact (Option.some.inj this).symm
         · exact absurd hf2.2.1 (hfi.2.2 i2 s' h hf2.1)
        subst hse
        rcases ho with ho | ⟨r,rv,rfl,hr,hc⟩
        · exact inside_no1 wq s' row col ho
        · exact inside_no2 wq s' (HROW.out.lift hq) r rv col hr hc))
     clear e0 e1 e2 hrow hpb
     obtain ⟨x0,x1,x2,x3,x4,x5,x6⟩:=HKEEP.out _ HBD.out
     go_region_held3 (fun wq=>wq.cell? ⟨w.heap.size,0,none⟩=some (.slice (some ⟨pb,po,none⟩) n cap)∧wq.cell? ⟨w.heap.size+1,0,none⟩=some (.string nm)∧wq.cell? ⟨w.heap.size+1,1,none⟩=some (.int .i64 row)∧wq.cell? ⟨w.heap.size+1,2,none⟩=some (.int .i64 col)∧wq.cell? ⟨pb,po+i*3,none⟩=some (.string s.nm)∧wq.cell? ⟨pb,po+i*3+1,none⟩=some (.int .i64 s.cols)∧wq.cell? ⟨pb,po+i*3+2,none⟩=some (Value.slice s.A s.rows.length s.cap)) (first | exact ⟨x0,x1,x2,x3,x4,x5,x6⟩ | exact HKEEP.out _ H4.out) (first
      | (go_at_call 27;((with_reducible refine (HIN.out _ HBD.out).mono ?_);rintro e w4 ⟨rfl,h1⟩;have H4:=Lib.hid (HBD.out.trans (h1.mono HBD.out.size));clear h1)))
     all_goals clear x0 x1 x2 x3 x4 x5 x6
     all_goals go_wp2_with fail
     all_goals go_ret
     all_goals exact ⟨rfl,HB3.out.trans (H4.out.mono HB3.out.size)⟩
   | some p =>
     obtain ⟨i2,s',r,rv,c⟩:=p
     obtain ⟨hf2,rfl,hr,rfl,hc⟩:=HO.out
     have hse:s'=s:=by
      rcases Nat.lt_trichotomy i i2 with h | h | h
      · exact absurd hfi.2.1 (hf2.2.2 i s h hfi.1)
      · subst h;have:=hf2.1;rw [hfi.1] at this;exact (Option.some.inj this).symm
      · exact absurd hf2.2.1 (hfi.2.2 i2 s' h hf2.1)
     subst hse
     have hin:=fun (wq:World) (hq:Below w3.heap.size w3 wq)=>inside_yes wq s' (HROW.out.lift hq) r c rv hr hc
     obtain ⟨qb,qo,hA2,hqb,f0,htx⟩:=row_at hrow hr
     obtain ⟨ub,uo,hA3,hub,g0⟩:=tx_at htx (i:=c) (x:=rv.l.getD c ⟨#[]⟩) (by rw [List.getD_eq_getElem?_getD,List.getElem?_eq_getElem hc];rfl)
     have hrl:=(List.getElem?_eq_some_iff.1 hr).1
     obtain ⟨rn,hrn⟩:∃ rn,s'.rows.length=rn:=⟨_,rfl⟩
     obtain ⟨cn,hcn⟩:∃ cn,rv.l.length=cn:=⟨_,rfl⟩
     rw [hrn] at hrl
     simp only [hA2,hrn] at hin
     rw [hA2,hrn] at e2
     rw [hA3,hcn] at f0
     rw [hcn] at hc
     have HIN:=Lib.hid hin;have HF0:=Lib.hid f0;have HG0:=Lib.hid g0;have HQB:=Lib.hid hqb;have HUB:=Lib.hid hub
     have HKEEP:=Lib.hid (fun (wq:World) (hq:Below w3.heap.size w3 wq)=>(show wq.cell? ⟨w.heap.size,0,none⟩=some (.slice (some ⟨pb,po,none⟩) n cap)∧wq.cell? ⟨w.heap.size+1,0,none⟩=some (.string nm)∧wq.cell? ⟨w.heap.size+1,1,none⟩=some (.int .i64 (r:Int))∧wq.cell? ⟨w.heap.size+1,2,none⟩=some (.int .i64 (c:Int))∧wq.cell? ⟨pb,po+i*3,none⟩=some (.string s'.nm)∧wq.cell? ⟨pb,po+i*3+1,none⟩=some (.int .i64 s'.cols)∧wq.cell? ⟨pb,po+i*3+2,none⟩=some (Value.slice (some ⟨qb,qo,none⟩) rn s'.cap) from by
      have hb0:=(HBK3.out.over hq).cell
      rw [hA] at hb0
      exact ⟨hb0,(HSP3.out.over hq).cells.1,(HSP3.out.over hq).cells.2.1,(HSP3.out.over hq).cells.2.2,(hq.cell (p:=⟨pb,po+i*3,none⟩) hpb).trans e0,(hq.cell (p:=⟨pb,po+i*3+1,none⟩) hpb).trans e1,(hq.cell (p:=⟨pb,po+i*3+2,none⟩) hpb).trans e2⟩))
     have hr0:(0:Int)≤(r:Int):=by omega
     have hri:(r:Int)<(rn:Int):=by omega
     have hc0:(0:Int)≤(c:Int):=by omega
     have hci:(c:Int)<(cn:Int):=by omega
     clear e0 e1 e2 hrow hpb hin f0 g0 hqb hub hr htx hA2 hA3 hrn hcn hfi hf2 HO
     obtain ⟨x0,x1,x2,x3,x4,x5,x6⟩:=HKEEP.out _ HBD.out
     go_region_held3 (fun wq=>wq.cell? ⟨w.heap.size,0,none⟩=some (.slice (some ⟨pb,po,none⟩) n cap)∧wq.cell? ⟨w.heap.size+1,0,none⟩=some (.string nm)∧wq.cell? ⟨w.heap.size+1,1,none⟩=some (.int .i64 (r:Int))∧wq.cell? ⟨w.heap.size+1,2,none⟩=some (.int .i64 (c:Int))∧wq.cell? ⟨pb,po+i*3,none⟩=some (.string s'.nm)∧wq.cell? ⟨pb,po+i*3+1,none⟩=some (.int .i64 s'.cols)∧wq.cell? ⟨pb,po+i*3+2,none⟩=some (Value.slice (some ⟨qb,qo,none⟩) rn s'.cap)) (first | exact ⟨x0,x1,x2,x3,x4,x5,x6⟩ | exact HKEEP.out _ H4.out) (first
      | (go_at_call 27;((with_reducible refine (HIN.out _ HBD.out).mono ?_);rintro e w4 ⟨rfl,h1⟩;have H4:=Lib.hid (HBD.out.trans (h1.mono HBD.out.size));clear h1)))
     all_goals
      clear x0 x1 x2 x3 x4 x5 x6
      obtain ⟨y0,y1,y2,y3,y4,y5,y6⟩:=HKEEP.out _ H4.out
      have f1:=(H4.out.cell (p:=⟨qb,qo+r,none⟩) HQB.out).trans HF0.out
      have g1:=(H4.out.cell (p:=⟨ub,uo+c,none⟩) HUB.out).trans HG0.out
      go_upto_region 4 with (fail)
      go_quiet (fail)
      go_wp2_with fail
      go_ret
      exact ⟨rfl,below_drawn (HB3.out.trans (H4.out.mono HB3.out.size)) _⟩
structure Spt where
 nm:ByteArray
 r:Nat
 c:Nat
def encSp:Enc Spt 3:={ f:=fun s=>[.string s.nm,.int .i64 (s.r:Int),.int .i64 (s.c:Int)],len:=fun _=>rfl,one:=fun s u hu=>by simp only [List.mem_cons,List.not_mem_nil,or_false] at hu;rcases hu with rfl | rfl | rfl <;> rfl }
theorem Elem.spt:Elem Tryz.prog 41 29 3 32:=⟨Tryz.underlying41,⟨.agg #[.string ⟨#[]⟩,.int .i64 0,.int .i64 0],by kernel_rfl,rfl⟩,by decide⟩
structure Uni (shs:List Sv) (nm:Nat→ByteArray) (S R C:Nat):Prop where
 len:shs.length=S
 name:∀ (i:Nat) (s:Sv),shs[i]? = some s→s.nm=nm i
 rows:∀ (i:Nat) (s:Sv),shs[i]? = some s→s.rows.length=R
 cols:∀ (i:Nat) (s:Sv),shs[i]? = some s→∀ rv∈s.rows,rv.l.length=C
def spRow (nm:ByteArray) (C r:Nat):List Spt:=(List.range C).map fun d=>⟨nm,r,d⟩
def spSh (nm:ByteArray) (R C:Nat):List Spt:=(List.range R).flatMap fun b=>spRow nm C b
def upS (nm:Nat→ByteArray) (R C i r c:Nat):List Spt:=(List.range i).flatMap (fun a=>spSh (nm a) R C)++(spSh (nm i) r C++(List.range c).map fun d=>⟨nm i,r,d⟩)
theorem upS_c (nm:Nat→ByteArray) (R C i r c:Nat):upS nm R C i r c++[⟨nm i,r,c⟩]=upS nm R C i r (c+1):=by
 unfold upS
 rw [List.range_succ,List.map_append,List.append_assoc,List.append_assoc];rfl
theorem upS_r (nm:Nat→ByteArray) (R C i r:Nat):upS nm R C i r C=upS nm R C i (r+1) 0:=by
 unfold upS
 congr 1
 unfold spSh
 rw [List.range_succ,List.flatMap_append,List.flatMap_cons,List.flatMap_nil,List.append_nil,List.range_zero,List.map_nil,List.append_nil];rfl
theorem upS_i (nm:Nat→ByteArray) (R C i:Nat):upS nm R C i R 0=upS nm R C (i+1) 0 0:=by
 unfold upS
 rw [List.range_succ,List.flatMap_append,List.flatMap_cons,List.flatMap_nil,List.append_nil,List.range_zero,List.map_nil,List.append_nil,List.append_assoc]
 show _=_++(_++(spSh _ 0 C++[]))
 unfold spSh
 rw [List.range_zero,List.flatMap_nil,List.nil_append,List.append_nil]
theorem length_spSh (nm:ByteArray) (R C:Nat):(spSh nm R C).length=R*C:=by
 unfold spSh
 induction R with
 | zero=>simp
 | succ R ih =>
   rw [List.range_succ,List.flatMap_append,List.length_append,ih,List.flatMap_cons,List.flatMap_nil,List.append_nil,Nat.succ_mul]
   unfold spRow
   rw [List.length_map,List.length_range]
theorem length_upS (nm:Nat→ByteArray) (R C i r c:Nat):(upS nm R C i r c).length=i*(R*C)+(r*C+c):=by
 unfold upS
 rw [List.length_append,List.length_append,length_spSh,List.length_map,List.length_range]
 congr 1
 induction i with
 | zero=>simp
 | succ i ih=>rw [List.range_succ,List.flatMap_append,List.length_append,ih,List.flatMap_cons,List.flatMap_nil,List.append_nil,length_spSh,Nat.succ_mul]
theorem mem_upS {nm:Nat→ByteArray} {R C S:Nat} {x:Spt} (h:x∈upS nm R C S 0 0):∃ i r c,i<S∧r<R∧c<C∧x=⟨nm i,r,c⟩:=by
 unfold upS at h
 rw [List.mem_append] at h
 rcases h with h | h
 · obtain ⟨i,hi,h⟩:=List.mem_flatMap.1 h
   unfold spSh at h
   obtain ⟨r,hr,h⟩:=List.mem_flatMap.1 h
   unfold spRow at h
   obtain ⟨c,hc,h⟩:=List.mem_map.1 h
   exact ⟨i,r,c,List.mem_range.1 hi,List.mem_range.1 hr,List.mem_range.1 hc,h.symm⟩
 · unfold spSh at h
   simp at h
theorem bd_upS (nm:Nat→ByteArray) {R C S i r c:Nat} (hS:S≤3) (hR:R≤5) (hC:C≤4) (hi:i<S) (hr:r<R) (hc:c<C):(upS nm R C i r c).length≤1000:=by
 rw [length_upS]
 have h1:R*C≤5*4:=Nat.mul_le_mul hR hC
 have h2:i*(R*C)≤3*(5*4):=Nat.mul_le_mul (by omega) h1
 have h3:r*C≤5*4:=Nat.mul_le_mul (by omega) hC
 omega
set_option maxRecDepth 100000 in
set_option maxHeartbeats 16000000 in
theorem spots_any (w:World) (A:Option Addr) (n cap:Nat) (shs:List Sv) (nm:Nat→ByteArray) (R C:Nat) (h:BkR w w.heap.size (.slice A n cap) shs) (hu:Uni shs nm n R C) (hn:n≤3) (hR:R≤5) (hC:C≤4) :
 Calls Tryz.prog 16 #[.agg #[.slice A n cap]] w fun e w'=>Below w.heap.size w w'∧∃ v,e = .returned v∧Own encSp 29 w' w.heap.size v (upS nm R C n 0 0):=by
 have HB:=Lib.hid (below_bk w (.slice A n cap))
 have HA:=Lib.hid (BkAt.new w (.slice A n cap))
 have HU:=Lib.hid hu
 have HX:=Lib.hid (h.below HB.out (Nat.le_refl _))
 clear h hu
 go_enter Tryz.func16,Tryz.ntmps16
 go_upto_region 1 with (fail)
 obtain ⟨w1,hw1⟩:∃ w1,w.alloc (.cells #[.slice A n cap] 26)=w1:=⟨_,rfl⟩
 rw [hw1] at HB HA HX ⊢
 clear hw1
 have HAL:=Lib.hid HA.out.lt
 have HBS:=Lib.hid HB.out.size
 go_upto_region 3 with (fail)
 go_loopw [3,4] (fun lv iv wr=>∃ (i:Nat) (v:Value),i≤n∧v=lv∧iv = .int .i64 (i:Int)∧Hid (Own encSp 29 wr w1.heap.size v (upS nm R C i 0 0))∧Hid (Below w1.heap.size w1 wr))
  (fun _ iv _=>n - (intOf iv).toNat)
 case atStart=>exact ⟨0,_,Nat.zero_le _,rfl,rfl,Lib.hid (Own.nil _ _ _ _),Lib.hid (Below.refl _ _)⟩
 case round =>
  obtain ⟨i,v,hi,rfl,rfl,HO,HR⟩:=hrel
  have b0:=(HA.out.over HR.out).cell
  by_cases hlt:i<n
  · have hii:(i:Int)<(n:Int):=by omega
    have hi0:(0:Int)≤(i:Int):=by omega
    obtain ⟨s,hs⟩:∃ s,shs[i]? = some s:=⟨_,List.getElem?_eq_getElem (by rw [HU.out.len];exact hlt)⟩
    obtain ⟨pb,po,hAd,hpb,e0,e1,e2,hrow⟩:=sh_at HX.out hs
    have hrl:=HU.out.rows i s hs
    have hnm:=HU.out.name i s hs
    rw [hrl] at e2 hrow
    rw [hnm] at e0
    have HCOL:=Lib.hid (HU.out.cols i s hs)
    have HROW:=Lib.hid hrow;have HRL:=Lib.hid hrl
    have HE0:=Lib.hid e0;have HE2:=Lib.hid e2
    have hpw:pb<w1.heap.size:=by have:=HBS.out;omega
    have HPW:=Lib.hid hpw
    rw [hAd] at b0
    have HAD:=Lib.hid hAd
    clear hs e0 e1 e2 hrow hrl hnm hpb hAd hpw
    go_wp2_with fail
    clear b0
    go_loopw [3,5] (fun lv rv wx=>∃ (r:Nat) (v:Value),r≤R∧v=lv∧rv = .int .i64 (r:Int)∧Hid (Own encSp 29 wx w1.heap.size v (upS nm R C i r 0))∧Hid (Below w1.heap.size w1 wx))
     (fun _ rv _=>R - (intOf rv).toNat)
    case atStart=>exact ⟨0,_,Nat.zero_le _,rfl,rfl,HO,HR⟩
    case round =>
     clear HO HR
     obtain ⟨r,v,hr,rfl,rfl,HO,HR⟩:=hrel
     have b0:=(HA.out.over HR.out).cell
     rw [HAD.out] at b0
     have e2:=(HR.out.cell (p:=⟨pb,po+i*3+2,none⟩) HPW.out).trans HE2.out
     by_cases hrt:r<R
     · have hri:(r:Int)<(R:Int):=by omega
       have hr0:(0:Int)≤(r:Int):=by omega
       obtain ⟨rv,hrv⟩:∃ rv,s.rows[r]? = some rv:=⟨_,List.getElem?_eq_getElem (by rw [HRL.out];exact hrt)⟩
       have hcl:=HCOL.out rv (List.mem_of_getElem? hrv)
       obtain ⟨qb,qo,hA2,hqb,f0,_⟩:=row_at HROW.out hrv
       rw [hcl] at f0
       have HF0:=Lib.hid f0
       have HQW:=Lib.hid (show qb<w1.heap.size by have:=HBS.out;omega)
       rw [hA2] at e2
       have HA2:=Lib.hid hA2
       clear hrv hcl hA2 hqb f0
       go_wp2_with fail
       clear b0 e2
       go_loopw [3,6] (fun lv cv wy=>∃ (c:Nat) (v:Value),c≤C∧v=lv∧cv = .int .i64 (c:Int)∧Hid (Own encSp 29 wy w1.heap.size v (upS nm R C i r c))∧Hid (Below w1.heap.size w1 wy))
        (fun _ cv _=>C - (intOf cv).toNat)
       case atStart=>exact ⟨0,_,Nat.zero_le _,rfl,rfl,HO,HR⟩
       case round =>
        clear HO HR
        obtain ⟨c,v,hc,rfl,rfl,HO,HR⟩:=hrel
        have b0:=(HA.out.over HR.out).cell
        rw [HAD.out] at b0
        have e2:=(HR.out.cell (p:=⟨pb,po+i*3+2,none⟩) HPW.out).trans HE2.out
        rw [HA2.out] at e2
        have e0:=(HR.out.cell (p:=⟨pb,po+i*3,none⟩) HPW.out).trans HE0.out
        have f0:=(HR.out.cell (p:=⟨qb,qo+r,none⟩) HQW.out).trans HF0.out
        by_cases hct:c<C
        · have hci:(c:Int)<(C:Int):=by omega
          have HBD:=Lib.hid (bd_upS nm hn hR hC hlt hrt hct)
          have HBA:=Lib.hid ((Below.refl wr.heap.size wr).alloc (Nat.le_refl _) (.cells #[.string (nm i),.int .i64 (r:Int),.int .i64 (c:Int)] 29))
          have HAO:=Lib.hid (HO.out.below HBA.out (Nat.le_refl _))
          have HNX:=Lib.hid (upS_c nm R C i r c)
          go_wp2_with (at_builtin;refine wpList_app Elem.spt encSp rfl (.tmp 39) (.tmp 49) rfl w1.heap.size v (upS nm R C i r c) rfl HAO.out ⟨_,0,none⟩ 1 1 [⟨nm i,r,c⟩] rfl rfl ?_ ?_ ?_ ?_ ?_;exact cells_new _ _ _ rfl;(have:=HBD.out;omega);(have:=HBD.out;unfold maxLen;omega);(have h1:=HBA.out.size;have h2:=HR.out.size;omega);intro v5 w5 h1 h2;have HO5:=Lib.hid h1;have HB5:=Lib.hid ((HR.out.trans (HBA.out.mono HR.out.size)).trans h2);clear h1 h2)
          go_roundw
          case rel=>exact ⟨c+1,_,by omega,rfl,by go_num,Lib.hid (by rw [← HNX.out];exact HO5.out),HB5⟩
          case measure=>simp [intOf];omega
        · have hci:¬ (c:Int)<(C:Int):=by omega
          have hcC:c=C:=by omega
          subst hcC
          have HNX:=Lib.hid (upS_r nm R c i r)
          go_wp2_with fail
          go_roundw
          case rel=>exact ⟨r+1,_,by omega,rfl,by go_num,Lib.hid (by rw [← HNX.out];exact HO.out),HR⟩
          case measure=>simp [intOf];omega
     · have hri:¬ (r:Int)<(R:Int):=by omega
       have hrR:r=R:=by omega
       subst hrR
       have HNX:=Lib.hid (upS_i nm r C i)
       go_wp2_with fail
       go_roundw
       case rel=>exact ⟨i+1,_,by omega,rfl,by go_num,Lib.hid (by rw [← HNX.out];exact HO.out),HR⟩
       case measure=>simp [intOf];omega
  · have hii:¬ (i:Int)<(n:Int):=by omega
    have hin:i=n:=by omega
    subst hin
    go_wp2_with fail
    go_ret
    exact ⟨HB.out.trans (HR.out.mono HB.out.size),_,rfl,HO.out.mono HBS.out⟩
theorem rise_nm:∀ {a b:List Sv} {last:ByteArray},a.map (·.nm)=b.map (·.nm)→Rise last a→Rise last b
 | [],[],_,_,_=>trivial
 | [],_ :: _,_,h,_=>by simp at h
 | _ :: _,[],_,h,_=>by simp at h
 | x :: a,y :: b,last,h,hr=>by
   rw [List.map_cons,List.map_cons] at h
   injection h with h1 h2
   have h1:x.nm=y.nm:=h1
   refine ⟨by rw [← h1];exact hr.1, ?_⟩
   rw [← h1]
   exact rise_nm h2 hr.2
theorem nm_pgs {a b:List Sv} (h:pgs b=pgs a):a.map (·.nm)=b.map (·.nm):=by
 have h1:=congrArg (List.map (·.nm)) h
 unfold pgs at h1
 rw [List.map_map,List.map_map] at h1
 exact h1.symm
theorem ok_pgs {a b:List Sv} (h:BkOk a) (e:pgs b=pgs a):BkOk b:=by
 have hl:b.length=a.length:=by have:=congrArg List.length e;unfold pgs at this;rwa [List.length_map,List.length_map] at this
 refine ⟨by rw [hl];exact h.few,rise_nm (nm_pgs e) h.rise,fun s' hs' => ?_⟩
 obtain ⟨i,hi⟩:=List.getElem?_of_mem hs'
 obtain ⟨s,h1,h2⟩:=pgs_at e.symm hi
 have ho:=h.each s (List.mem_of_getElem? h1)
 have e1:s.nm=s'.nm:=congrArg Shp.nm h2
 have e2:s.cols=s'.cols:=congrArg Shp.cols h2
 have e3:lns s.rows=lns s'.rows:=congrArg Shp.rows h2
 have e4:s.rows.length=s'.rows.length:=by have:=congrArg List.length e3;unfold lns at this;rwa [List.length_map,List.length_map] at this
 refine ⟨by rw [← e1];exact ho.name,by rw [← e1];exact ho.size,by rw [← e2];exact ho.low,by rw [← e2];exact ho.cols,by rw [← e4];exact ho.rows,fun r hr => ?_⟩
 have h3:r.l∈lns s'.rows:=List.mem_map_of_mem hr
 rw [← e3] at h3
 obtain ⟨r2,h4,h5⟩:=List.mem_map.1 h3
 have h5:r2.l=r.l:=h5
 rw [← h5, ← e2]
 exact ho.wide r2 h4
theorem ok_put {a:List Sv} {i r c:Nat} {s:Sv} {rv:Rv} (t:ByteArray) (h:BkOk a) (hs:a[i]? = some s) (hr:s.rows[r]? = some rv):BkOk (a.set i (s.put r c rv t)):=by
 have ho:=h.each s (List.mem_of_getElem? hs)
 refine ⟨by rw [List.length_set];exact h.few,rise_nm ?_ h.rise,fun s' hs' => ?_⟩
 · rw [List.map_set]
   have hn:(s.put r c rv t).nm=s.nm:=rfl
   rw [hn]
   apply List.ext_getElem?
   intro j
   rw [List.getElem?_set]
   by_cases e:i=j
   · subst e
     rw [if_pos rfl,List.getElem?_map,hs,List.length_map,if_pos (List.getElem?_eq_some_iff.1 hs).1];rfl
   · rw [if_neg e]
 · rcases List.mem_or_eq_of_mem_set hs' with h1 | rfl
   · exact h.each s' h1
   · refine ⟨ho.name,ho.size,ho.low,ho.cols,by show (s.rows.set r _).length≤24;rw [List.length_set];exact ho.rows,fun r2 hr2 => ?_⟩
     rcases List.mem_or_eq_of_mem_set (show r2∈s.rows.set r (rv.put c t) from hr2) with h1 | rfl
     · exact ho.wide r2 h1
     · show ((rv.l.set c t).length:Int)=s.cols
       rw [List.length_set];exact ho.wide rv (List.mem_of_getElem? hr)
theorem tx_put {a:List Sv} {i r c:Nat} {s:Sv} {rv:Rv} {t:ByteArray} (h:∀ s∈a,∀ r∈s.rows,∀ x∈r.l,MayT x) (ht:MayT t) (hs:a[i]? = some s) (hr:s.rows[r]? = some rv):∀ s'∈a.set i (s.put r c rv t),∀ r∈s'.rows,∀ x∈r.l,MayT x:=by
 intro s' hs' r2 hr2 x hx
 rcases List.mem_or_eq_of_mem_set hs' with h1 | rfl
 · exact h s' h1 r2 hr2 x hx
 · rcases List.mem_or_eq_of_mem_set (show r2∈s.rows.set r (rv.put c t) from hr2) with h1 | rfl
   · exact h s (List.mem_of_getElem? hs) r2 h1 x hx
   · rcases List.mem_or_eq_of_mem_set (show x∈rv.l.set c t from hx) with h1 | rfl
     · exact h s (List.mem_of_getElem? hs) rv (List.mem_of_getElem? hr) x h1
     · exact ht
theorem tx_pgs {a b:List Sv} (h:∀ s∈a,∀ r∈s.rows,∀ x∈r.l,MayT x) (e:pgs b=pgs a):∀ s∈b,∀ r∈s.rows,∀ x∈r.l,MayT x:=by
 intro s' hs' r hr x hx
 obtain ⟨i,hi⟩:=List.getElem?_of_mem hs'
 obtain ⟨s,h1,h2⟩:=pgs_at e.symm hi
 have e3:lns s.rows=lns s'.rows:=congrArg Shp.rows h2
 have h3:r.l∈lns s'.rows:=List.mem_map_of_mem hr
 rw [← e3] at h3
 obtain ⟨r2,h4,h5⟩:=List.mem_map.1 h3
 have h5:r2.l=r.l:=h5
 exact h s (List.mem_of_getElem? h1) r2 h4 x (by rw [h5];exact hx)
theorem set_self {α : Type} {l:List α} {i:Nat} {x : α} (h:l[i]? = some x):l.set i x=l:=by
 apply List.ext_getElem?
 intro j
 rw [List.getElem?_set]
 by_cases e:i=j
 · subst e;rw [if_pos rfl,if_pos (List.getElem?_eq_some_iff.1 h).1,h]
 · rw [if_neg e]
theorem same_put {a:List Sv} {i r c:Nat} {s:Sv} {rv:Rv} (t:ByteArray) (hs:a[i]? = some s) (hr:s.rows[r]? = some rv) (hc:c<rv.l.length):pgs (a.set i (s.put r c rv t))=pgs a↔rv.l.getD c ⟨#[]⟩=t:=by
 have hil:=(List.getElem?_eq_some_iff.1 hs).1
 have hrl:=(List.getElem?_eq_some_iff.1 hr).1
 constructor
 · intro h
   have h1:(pgs (a.set i (s.put r c rv t)))[i]? = (pgs a)[i]? := by rw [h]
   unfold pgs at h1
   rw [List.getElem?_map,List.getElem?_map,hs,List.getElem?_set,if_pos rfl,if_pos hil] at h1
   have h2:(s.put r c rv t).p=s.p:=Option.some.inj h1
   have h3:lns (s.rows.set r (rv.put c t))=lns s.rows:=congrArg Shp.rows h2
   have h4:(lns (s.rows.set r (rv.put c t)))[r]? = (lns s.rows)[r]? := by rw [h3]
   unfold lns at h4
   rw [List.getElem?_map,List.getElem?_map,hr,List.getElem?_set,if_pos rfl,if_pos hrl] at h4
   have h5:rv.l.set c t=rv.l:=Option.some.inj h4
   rw [← h5,List.getD_eq_getElem?_getD,List.getElem?_set,if_pos rfl,if_pos hc];rfl
 · intro h
   have h1:rv.l[c]? = some t:=by
    rw [← h,List.getD_eq_getElem?_getD,List.getElem?_eq_getElem hc];rfl
   have h2:rv.put c t=rv:=by
    unfold Rv.put
    rw [set_self h1]
   have h3:s.put r c rv t=s:=by
    unfold Sv.put
    rw [h2,set_self hr]
   rw [h3,set_self hs]
theorem uni_of {shs:List Sv} {xs:List Int} {m:Nat} (h:pgs shs=bookS xs m):Uni shs (nmB m) (nS m) (nR m) (nC m):=by
 have hln:shs.length=nS m:=by have h:=congrArg List.length h;unfold pgs at h;rwa [List.length_map,length_bookS] at h
 have hr:∀ (i:Nat) (s:Sv),shs[i]? = some s→lns s.rows=rowsS xs (nR m) (nC m) (i*(nR m*nC m)):=fun i s hs=>congrArg Shp.rows (sheet_of h hs).2
 refine ⟨hln,fun i s hs=>congrArg Shp.nm (sheet_of h hs).2,fun i s hs => ?_,fun i s hs rv hrv => ?_⟩
 · have h1:=congrArg List.length (hr i s hs)
   unfold lns at h1;rwa [List.length_map,length_rowsS] at h1
 · have h1:rv.l∈lns s.rows:=List.mem_map_of_mem hrv
   rw [hr i s hs] at h1
   unfold rowsS at h1
   obtain ⟨j,_,h2⟩:=List.mem_map.1 h1
   rw [← h2,length_rowS]
theorem spt_inj {m i r c j r2 c2:Nat} (hm:m<256) (hi:i<3) (hj:j<3):(nmB m i=nmB m j∧r=r2∧c=c2)↔some (i,r,c)=some (j,r2,c2):=by
 constructor
 · rintro ⟨h1,rfl,rfl⟩
   rw [nmB_inj hm hi hj h1]
 · intro h
   injection h with h
   injection h with h1 h
   injection h with h2 h3
   exact ⟨by rw [h1],h2,h3⟩
theorem SpAt.melts {w:World} {b:Nat} {nm:ByteArray} {r c:Int} (h:SpAt w b nm r c):w.frozen? ⟨b,0,none⟩=false∧w.frozen? ⟨b,1,none⟩=false∧w.frozen? ⟨b,2,none⟩=false :=
 ⟨frozen_of_row w b 0 _ _ h,frozen_of_row w b 1 _ _ h,frozen_of_row w b 2 _ _ h⟩
theorem SpAt.put3 {w:World} {b:Nat} {n0:ByteArray} {r0 c0:Int} (h:SpAt w b n0 r0 c0) (nm:ByteArray) (r c:Int):SpAt (((w.setCell ⟨b,0,none⟩ (.string nm)).setCell ⟨b,1,none⟩ (.int .i64 r)).setCell ⟨b,2,none⟩ (.int .i64 c)) b nm r c:=by
 have h1:(w.setCell ⟨b,0,none⟩ (.string nm)).heap[b]? = some (.cells #[.string nm,.int .i64 r0,.int .i64 c0] 29):=by rw [heap_setCell_same w b 0 _ _ _ h];rfl
 have h2:((w.setCell ⟨b,0,none⟩ (.string nm)).setCell ⟨b,1,none⟩ (.int .i64 r)).heap[b]? = some (.cells #[.string nm,.int .i64 r,.int .i64 c0] 29):=by rw [heap_setCell_same _ b 1 _ _ _ h1];rfl
 unfold SpAt;rw [heap_setCell_same _ b 2 _ _ _ h2];rfl
theorem list3s {α : Type} (l:List α) (h:l.length=3):∃ a b c,l=[a,b,c]:=match l,h with | [a,b,c],_=>⟨a,b,c,rfl⟩
theorem st_spot:Tryz.prog.underlying 29=some (.struct (Tryz.prog.fieldsOf 29)):=by kernel_rfl
theorem st_heldS:Tryz.prog.stoodInHeld 29=false:=by kernel_rfl
theorem st_fieldsS : (Tryz.prog.fieldsOf 29).toList.map (fun f => (f.name == "_", f.type, f.offset)) = [(false, 9, 0), (false, 3, 1), (false, 3, 2)] := by kernel_rfl
theorem part_intS (xs:Array Value) (o:Nat) (v:Value) (hv:xs[o]? = some v) (w:World):(part 3 xs o).run Tryz.prog w = .ok v w:=by
 simp [part,isAgg,hv,run_underlying Tryz.underlying3]
theorem part_strS (xs:Array Value) (o:Nat) (v:Value) (hv:xs[o]? = some v) (w:World):(part 9 xs o).run Tryz.prog w = .ok v w:=by
 simp [part,isAgg,hv,run_underlying Tryz.underlying9]
theorem eqf_spot (d : Nat) (f0 f1 f2 : Field) (h0 : (f0.name == "_") = false) (h1 : f0.type = 9) (h2 : f0.offset = 0) (h3 : (f1.name == "_") = false) (h4 : f1.type = 3) (h5 : f1.offset = 1) (h6 : (f2.name == "_") = false) (h7 : f2.type = 3) (h8 : f2.offset = 2) (n1 n2 : ByteArray) (r1 r2 c1 c2 : Int) (w : World) :
 (Op.eqFields (d+1) #[.string n1,.int .i64 r1,.int .i64 c1] #[.string n2,.int .i64 r2,.int .i64 c2] [f0,f1,f2]).run Tryz.prog w = .ok (n1.toList == n2.toList&&r1 == r2&&c1 == c2) w:=by
 have m0 : f0.name ≠ "_" := by simpa using h0
 have m1 : f1.name ≠ "_" := by simpa using h3
 have m2 : f2.name ≠ "_" := by simpa using h6
 have p0:=fun w=>part_strS #[.string n1,.int .i64 r1,.int .i64 c1] 0 _ rfl w
 have p1:=fun w=>part_intS #[.string n1,.int .i64 r1,.int .i64 c1] 1 _ rfl w
 have p2:=fun w=>part_intS #[.string n1,.int .i64 r1,.int .i64 c1] 2 _ rfl w
 have q0:=fun w=>part_strS #[.string n2,.int .i64 r2,.int .i64 c2] 0 _ rfl w
 have q1:=fun w=>part_intS #[.string n2,.int .i64 r2,.int .i64 c2] 1 _ rfl w
 have q2:=fun w=>part_intS #[.string n2,.int .i64 r2,.int .i64 c2] 2 _ rfl w
 have e0:=fun w=>run_equalIn_string w d 9 n1 n2 Tryz.underlying9
 have e1:=fun w=>run_equalIn_int w d 3 .i64 .i64 r1 r2 Tryz.underlying3
 have e2:=fun w=>run_equalIn_int w d 3 .i64 .i64 c1 c2 Tryz.underlying3
 simp [Op.eqFields,m0,m1,m2,h1,h2,h4,h5,h7,h8,p0,p1,p2,q0,q1,q2,e0,e1,e2]
 by_cases k1:n1.toList=n2.toList
 · by_cases k2:r1=r2
   · by_cases k3:c1=c2 <;> simp [k1,k2,k3]
   · simp [k1,k2]
 · simp [k1]
set_option maxRecDepth 100000 in
theorem eq_spot (n1 n2:ByteArray) (r1 r2 c1 c2:Int) (w:World):(binOp .eql 29 (.agg #[.string n1,.int .i64 r1,.int .i64 c1]) (.agg #[.string n2,.int .i64 r2,.int .i64 c2])).run Tryz.prog w = .ok (.bool (n1.toList == n2.toList&&r1 == r2&&c1 == c2)) w:=by
 rw [run_eql_struct,run_equalIn_agg w 9999 _ _ _ st_spot st_heldS]
 have h:=st_fieldsS
 generalize (Tryz.prog.fieldsOf 29).toList=fs at h
 have hl:=congrArg List.length h
 rw [List.length_map] at hl
 obtain ⟨f0,f1,f2,rfl⟩:=list3s _ hl
 clear hl
 simp only [List.map_cons,List.map_nil,List.cons.injEq,Prod.mk.injEq,and_true] at h
 obtain ⟨⟨h0,h1,h2⟩,⟨h3,h4,h5⟩,h6,h7,h8⟩:=h
 rw [show (9999:Nat)=9998+1 from rfl,eqf_spot 9998 f0 f1 f2 h0 h1 h2 h3 h4 h5 h6 h7 h8 n1 n2 r1 r2 c1 c2 w]
 rfl
theorem nmB_ne {m i j:Nat} (hm:m<256) (hi:i<3) (hj:j<3):((nmB m i).toList == (nmB m j).toList)=decide (i=j):=by
 rw [tl_eq]
 exact decide_eq_decide.2 ⟨nmB_inj hm hi hj,fun h=>by rw [h]⟩
theorem below_sp3 {w0 w:World} {b B:Nat} (h:Below B w0 w) (hB:B≤b) (x y z:Value):Below B w0 (((w.setCell ⟨b,0,none⟩ x).setCell ⟨b,1,none⟩ y).setCell ⟨b,2,none⟩ z):=by
 have h1:Below B w0 (w.setCell ⟨b,0,none⟩ x):=h.setCell hB x
 have h2:Below B w0 ((w.setCell ⟨b,0,none⟩ x).setCell ⟨b,1,none⟩ y):=h1.setCell hB y
 exact h2.setCell hB z
set_option maxRecDepth 100000 in
set_option maxHeartbeats 32000000 in
theorem bookOne_any (w:World) (A:Option Addr) (n cap:Nat) (xs:List Int) (hs:S8 w w.heap.size A n cap xs) (m a u:Nat) (hm:m<256) (ha:a<256) (hu:u<256) (hx:Cx w) :
 Calls Tryz.prog 4 #[.slice A n cap,.int .u8 (m:Int),.int .u8 (a:Int),.int .u8 (u:Int)] w fun e w'=>e = .returned (.bool true)∧Below w.heap.size w w':=by
 have HAW:=Lib.hid (fun (w1:World) (h1:Below w.heap.size w w1)=>awake10_any w1 (hx.below h1))
 by_cases h80:80<n
 · have hi80:(80:Int)<(n:Int):=by omega
   clear hs hx
   go_enter Tryz.func4,Tryz.ntmps4
   go_wp2_with (go_at_call 6;((with_reducible refine (HAW.out _ (Below.refl _ _)).mono ?_);rintro e w2 ⟨rfl,h1⟩;have HB2:=Lib.hid h1;clear h1))
   go_ret
   exact ⟨rfl,HB2.out⟩
 have hi80:¬ (80:Int)<(n:Int):=by omega
 have HBK:=Lib.hid (book_any w A n cap xs hs (by omega) m hm)
 have HBX:=Lib.hid hs.bytes
 have HCX:=Lib.hid hx
 obtain ⟨S,hS⟩:∃ S,nS m=S:=⟨_,rfl⟩
 obtain ⟨R,hR⟩:∃ R,nR m=R:=⟨_,rfl⟩
 obtain ⟨C,hC⟩:∃ C,nC m=C:=⟨_,rfl⟩
 have hS1:=nS_le m
 have hR1:=nR_le m
 have hC1:=nC_le m
 have HSS:=Lib.hid hS;have HRR:=Lib.hid hR;have HCC:=Lib.hid hC
 rw [hS] at HBK hS1;rw [hR] at hR1;rw [hC] at hC1
 clear hs hx hS hR hC
 go_enter Tryz.func4,Tryz.ntmps4
 go_upto_region 4 with (go_at_call 7;((with_reducible refine HBK.out.mono ?_);rintro e w2 ⟨h1,A1,c1,shs,rfl,hp,hr⟩;have H2:=Lib.hid h1;have HP:=Lib.hid hp;have HR:=Lib.hid hr;clear h1 hp hr))
 have HOKK:=Lib.hid (bookS_ok hm HBX.out HP.out)
 have HWI:=Lib.hid (wide_of HP.out)
 have hun:=uni_of HP.out
 rw [HSS.out,HRR.out,HCC.out] at hun
 have HUN:=Lib.hid hun
 clear hun
 have HK3:=Lib.hid (BkAt.new w2 (.slice A1 S c1))
 have HB3:=Lib.hid (below_bk w2 (.slice A1 S c1))
 obtain ⟨b,hb⟩:∃ b,w2.heap.size=b:=⟨_,rfl⟩
 obtain ⟨w3,hw3⟩:∃ w3,w2.alloc (.cells #[.slice A1 S c1] 26)=w3:=⟨_,rfl⟩
 have HR3:=Lib.hid (HR.out.lift HB3.out)
 rw [hw3] at HK3 HB3 HR3 ⊢
 rw [hb] at HK3 ⊢
 have H3:=Lib.hid (H2.out.trans (HB3.out.mono H2.out.size))
 clear hw3 hb
 have HSP:=Lib.hid (spots_any w3 A1 S c1 shs (nmB m) R C HR3.out HUN.out (by omega) (by omega) (by omega))
 have x0:=HK3.out.cell
 go_upto_region 5 with (go_at_call 16;((with_reducible refine HSP.out.mono ?_);rintro e w4 ⟨h1,v,rfl,ho⟩;have H4:=Lib.hid h1;have HO:=Lib.hid ho;clear h1 ho))
 clear x0
 obtain ⟨L,hL⟩:∃ L,(upS (nmB m) R C S 0 0).length=L:=⟨_,rfl⟩
 have HLF:=Lib.hid (show 1≤L∧L≤60 from by
  rw [← hL,length_upS,Nat.zero_mul,Nat.zero_add,Nat.add_zero]
  have h1:R*C≤5*4:=Nat.mul_le_mul (by omega) (by omega)
  have h2:S*(R*C)≤3*(5*4):=Nat.mul_le_mul (by omega) h1
  have h3:1*(1*1)≤S*(R*C):=Nat.mul_le_mul (by omega) (Nat.mul_le_mul (by omega) (by omega))
  omega)
 obtain ⟨ls,hls⟩:∃ l,upS (nmB m) R C S 0 0=l:=⟨_,rfl⟩
 have HLS:=Lib.hid hls
 rw [hls] at HO hL
 obtain ⟨g,cp,hv,hg1,hg2,_⟩:=HO.out.some (by rw [hL];have:=HLF.out;omega)
 subst hv
 rw [hL] at HO ⊢
 have HLL:=Lib.hid hL
 have HE:=Lib.hid (fun (j:Nat) (x:Spt) (hj:ls[j]? = some x)=>(show w4.cell? ⟨g,j*3,none⟩=some (.string x.nm)∧w4.cell? ⟨g,j*3+1,none⟩=some (.int .i64 (x.r:Int))∧w4.cell? ⟨g,j*3+2,none⟩=some (.int .i64 (x.c:Int)) from
  ⟨HO.out.cells _ _ (by have:=encSp.at ls j 0 x hj (by omega);rwa [Nat.add_zero] at this),HO.out.cells _ _ (encSp.at ls j 1 x hj (by omega)),HO.out.cells _ _ (encSp.at ls j 2 x hj (by omega))⟩))
 have HMEM:=Lib.hid (fun (j:Nat) (hj:j<L)=>(show ∃ i r c,i<S∧r<R∧c<C∧ls[j]? = some ⟨nmB m i,r,c⟩ from by
  obtain ⟨x,hxj⟩:∃ x,ls[j]? = some x:=⟨_,List.getElem?_eq_getElem (by rw [HLL.out];exact hj)⟩
  have h2:x∈upS (nmB m) R C S 0 0:=by rw [HLS.out];exact List.mem_of_getElem? hxj
  obtain ⟨i,r,c,k1,k2,k3,k4⟩:=mem_upS h2
  exact ⟨i,r,c,k1,k2,k3,by rw [hxj,k4]⟩))
 have HGW:=Lib.hid hg2
 clear hls hL hg1 hg2
 have hL1:=HLF.out
 have bL:((L:Int) == 0)=false:=beq_eq_false_iff_ne.2 (by omega)
 have hL0:¬ (L:Int)=0:=by omega
 have hL0n:¬ L=0:=by omega
 obtain ⟨k,hk⟩:∃ k,a % L=k:=⟨_,rfl⟩
 have hkL:k<L:=by rw [← hk];exact Nat.mod_lt _ (by omega)
 have qk:(a:Int) % (L:Int)=(k:Int):=by rw [← hk];rfl
 have tk:(a:Int).tmod (L:Int)=(k:Int):=by rw [Int.tmod_eq_emod_of_nonneg (by omega)];exact qk
 have wk:IntKind.i64.wrap (k:Int)=(k:Int):=by rw [IntKind.wrap_i64];omega
 have wa:IntKind.i64.wrap (a:Int)=(a:Int):=by rw [IntKind.wrap_i64];omega
 have wu:IntKind.i64.wrap (u:Int)=(u:Int):=by rw [IntKind.wrap_i64];omega
 have hk0:(0:Int)≤(k:Int):=by omega
 have hki:(k:Int)<(L:Int):=by omega
 obtain ⟨i0,r0,c0,hi0,hr0,hc0,hat⟩:=HMEM.out k hkL
 have HTX:=Lib.hid (fun (wq:World)=>text_any u hu wq)
 have HMT:=Lib.hid (mayT_tx u hu)
 obtain ⟨t,ht⟩:∃ t,strOfNums (txB u)=t:=⟨_,rfl⟩
 rw [ht] at HTX HMT
 obtain ⟨e0,e1,e2⟩:=HE.out k _ hat
 have HBK4:=Lib.hid (HK3.out.over H4.out)
 have HBD4:=Lib.hid (Below.drew (Below.refl w4.heap.size w4))
 have HKE:=Lib.hid (fun (wq:World) (hq:Below w4.heap.size w4 wq)=>(show wq.cell? ⟨g,k*3,none⟩=some (.string (nmB m i0))∧wq.cell? ⟨g,k*3+1,none⟩=some (.int .i64 (r0:Int))∧wq.cell? ⟨g,k*3+2,none⟩=some (.int .i64 (c0:Int)) from
  ⟨(hq.cell (p:=⟨g,k*3,none⟩) HGW.out).trans e0,(hq.cell (p:=⟨g,k*3+1,none⟩) HGW.out).trans e1,(hq.cell (p:=⟨g,k*3+2,none⟩) HGW.out).trans e2⟩))
 clear hk ht hat e0 e1 e2
 obtain ⟨nm0,hnm0⟩:∃ s,nmB m i0=s:=⟨_,rfl⟩
 have HNM0:=Lib.hid hnm0
 rw [hnm0] at HKE
 clear hnm0
 go_upto_region 7 with (fail)
 go_cut [11,12] (fun pv tv wx=>∃ (z:Nat) (wu:World),pv = .pointer (some ⟨z,0,none⟩)∧tv = .string t∧wu=wx∧Hid (SpAt wu z nm0 (r0:Int) (c0:Int))∧Hid (Below w4.heap.size w4 wu))
 case first =>
  obtain ⟨e0,e1,e2⟩:=HKE.out _ HBD4.out
  go_region_held3 (fun wq=>wq.cell? ⟨g,k*3,none⟩=some (.string nm0)∧wq.cell? ⟨g,k*3+1,none⟩=some (.int .i64 (r0:Int))∧wq.cell? ⟨g,k*3+2,none⟩=some (.int .i64 (c0:Int))) (first | exact ⟨e0,e1,e2⟩ | exact HKE.out _ H5.out | exact HKE.out _ (HBD4.out.alloc (Nat.le_refl _) _) | exact HKE.out _ (below_sp3 H5.out (Nat.le_refl _) _ _ _) | exact HKE.out _ (H5.out.alloc H5.out.size _)) (first
   | (go_at_call 9;((with_reducible refine (HTX.out _).mono ?_);rintro e w5 ⟨rfl,h1⟩;have H5:=Lib.hid ((HBD4.out.alloc (Nat.le_refl _) _).trans (h1.mono (HBD4.out.alloc (Nat.le_refl _) _).size));have HZ:=Lib.hid (show SpAt w5 w4.heap.size ⟨#[]⟩ 0 0 from (SpAt.new w4.drew ⟨#[]⟩ 0 0).over h1);obtain ⟨z0,z1,z2⟩:=HZ.out.cells;obtain ⟨m0,m1,m2⟩:=HZ.out.melts;clear h1))
   | (go_at_call 9;((with_reducible refine (HTX.out _).mono ?_);rintro e w5 ⟨rfl,h1⟩;have H5:=Lib.hid (HBD4.out.trans (h1.mono HBD4.out.size));have HZ:=Lib.hid (SpAt.new w5 ⟨#[]⟩ 0 0);obtain ⟨z0,z1,z2⟩:=HZ.out.cells;obtain ⟨m0,m1,m2⟩:=HZ.out.melts;clear h1)))
  all_goals go_wp2_with fail
  all_goals go_meet
  all_goals first
   | exact ⟨_,_,rfl,rfl,rfl,Lib.hid (HZ.out.put3 nm0 (r0:Int) (c0:Int)),Lib.hid (below_sp3 H5.out (Nat.le_refl _) _ _ _)⟩
   | exact ⟨_,_,rfl,rfl,rfl,Lib.hid (SpAt.new w5 nm0 (r0:Int) (c0:Int)),Lib.hid (H5.out.alloc H5.out.size _)⟩
   | fail
 case rest =>
  obtain ⟨z,w5,rfl,rfl,rfl,HZ,H5⟩:=hcut
  have HB35:=Lib.hid (H4.out.trans (H5.out.mono H4.out.size))
  have HK5:=Lib.hid (HK3.out.over HB35.out)
  have HR5:=Lib.hid (HR3.out.lift HB35.out)
  have HOKS:=Lib.hid HOKK.out.1.sz
  have HCB:=Lib.hid (rcopyBook_any w5 A1 S c1 shs HR5.out HOKS.out HWI.out)
  have x0:=HK5.out.cell
  go_upto_region 9 with (go_at_call 17;((with_reducible refine HCB.out.mono ?_);rintro e w6 ⟨h1,A2,c2,sv2,rfl,hp,hr⟩;have H6:=Lib.hid h1;have HP6:=Lib.hid hp;have HR6:=Lib.hid hr;clear h1 hp hr))
  clear x0
  have HK7:=Lib.hid (BkAt.new w6 (.slice A2 S c2))
  have HB7:=Lib.hid (below_bk w6 (.slice A2 S c2))
  obtain ⟨p,hp⟩:∃ p,w6.heap.size=p:=⟨_,rfl⟩
  have HRW7:=Lib.hid (HR6.out.lift HB7.out)
  obtain ⟨w7,hw7⟩:∃ w7,w6.alloc (.cells #[.slice A2 S c2] 26)=w7:=⟨_,rfl⟩
  rw [hw7] at HK7 HB7 HRW7 ⊢
  rw [hp] at HK7 ⊢
  have H57:=Lib.hid (H6.out.trans (HB7.out.mono H6.out.size))
  clear hw7 hp
  have HK57:=Lib.hid (HK5.out.over H57.out)
  have HR7:=Lib.hid (HR5.out.lift H57.out)
  have HZ7:=Lib.hid (HZ.out.over H57.out)
  have HW7:=Lib.hid (show Below w.heap.size w w7 from H3.out.trans ((HB35.out.trans (H57.out.mono HB35.out.size)).mono H3.out.size))
  have hspo:=spot_of hm HP.out (i:=i0) (r:=r0) (c:=c0) (by rw [HSS.out];exact hi0) (by rw [HRR.out];exact hr0) (by rw [HCC.out];exact hc0)
  obtain ⟨s,rv,hsp,_,_⟩:=hspo
  rw [HNM0.out] at hsp
  have HSPO:=Lib.hid hsp
  have hn6:S≤1000000:=by omega
  have hset:=set_any w7 A1 S c1 shs nm0 (r0:Int) (c0:Int) t _ HR7.out HOKS.out hsp (fun wq hq=>mayB_any wq A1 S c1 shs (HR7.out.lift hq) HOKK.out.1 (texts_may ((HCX.out.below HW7.out).below hq) HOKK.out.2.1)) (fun wq hq=>mayc_any t HMT.out.1 wq ((HCX.out.below HW7.out).below hq))
  have HSET:=Lib.hid hset
  clear hset hsp
  have x0:=HK57.out.cell
  obtain ⟨z0,z1,z2⟩:=HZ7.out.cells
  go_upto_region 10 with (go_at_call 8;((with_reducible refine HSET.out.mono ?_);rintro e w8 ⟨h1,A3,sv,rfl,hp,hbo⟩;have H8:=Lib.hid h1;have HP8:=Lib.hid hp;have HR8:=Lib.hid (hbo.bkR (Nat.le_refl _));clear h1 hp hbo))
  clear x0 z0 z1 z2
  have HK9:=Lib.hid (BkAt.new w8 (.slice A3 S S))
  have HB9:=Lib.hid (below_bk w8 (.slice A3 S S))
  obtain ⟨q,hq⟩:∃ q,w8.heap.size=q:=⟨_,rfl⟩
  have HRC9:=Lib.hid (HR8.out.lift HB9.out)
  obtain ⟨w9,hw9⟩:∃ w9,w8.alloc (.cells #[.slice A3 S S] 26)=w9:=⟨_,rfl⟩
  rw [hw9] at HK9 HB9 HRC9 ⊢
  rw [hq] at HK9 ⊢
  have H79:=Lib.hid (H8.out.trans (HB9.out.mono H8.out.size))
  clear hw9 hq
  have HKB9:=Lib.hid (HK57.out.over H79.out);have HKP9:=Lib.hid (HK7.out.over H79.out);have HZ9:=Lib.hid (HZ7.out.over H79.out)
  have HRB9:=Lib.hid (HR7.out.lift H79.out);have HRW9:=Lib.hid (HRW7.out.lift H79.out)
  have HW9:=Lib.hid (HW7.out.trans (H79.out.mono HW7.out.size))
  have H49:=Lib.hid (show Below w4.heap.size w4 w9 from (H5.out.trans (H57.out.mono H5.out.size)).trans (H79.out.mono (H5.out.trans (H57.out.mono H5.out.size)).size))
  have hpg:=HP8.out
  rw [← put_pgs (c:=c0) t HSPO.out.1.1 HSPO.out.2.2.1] at hpg
  have HPG:=Lib.hid hpg
  have HOKC:=Lib.hid (ok_pgs (ok_put (c:=c0) t HOKK.out.1 HSPO.out.1.1 HSPO.out.2.2.1) hpg)
  have HTXC:=Lib.hid (tx_pgs (tx_put (c:=c0) HOKK.out.2.1 HMT.out HSPO.out.1.1 HSPO.out.2.2.1) hpg)
  have HSAM:=Lib.hid (same_put t HSPO.out.1.1 HSPO.out.2.2.1 HSPO.out.2.2.2.2)
  have HMYC:=Lib.hid (fun (wq:World) (hq:Below w9.heap.size w9 wq)=>mayB_any wq A3 S S sv (HRC9.out.lift hq) HOKC.out (texts_may ((HCX.out.below HW9.out).below hq) HTXC.out))
  have HSB:=Lib.hid (fun (wq:World) (hq:Below w9.heap.size w9 wq)=>(show Calls Tryz.prog 14 #[.agg #[.slice A1 S c1],.agg #[.slice A2 S c2]] wq fun e w'=>e = .returned (.bool true)∧Below wq.heap.size wq w' from by
   have:=refSameBook_any wq A1 S c1 shs A2 S c2 sv2 (HRB9.out.lift hq) (HRW9.out.lift hq)
   rwa [decide_eq_true HP6.out.symm] at this))
  have HJ := Lib.hid (fun (j:Nat) (hj:j<L)=>(show ∃ nm r c o o2,SpotR shs nm (r:Nat) (c:Nat) o∧SpotR sv nm r c o2∧ls[j]? = some ⟨nm,r,c⟩∧((((nm.toList == nm0.toList)&&((r:Int) == (r0:Int)))&&((c:Int) == (c0:Int)))=true∧txO o2=t∨(((nm.toList == nm0.toList)&&((r:Int) == (r0:Int)))&&((c:Int) == (c0:Int)))=false∧txO o2=txO o) from by
   obtain ⟨i,r,c,k1,k2,k3,k4⟩:=HMEM.out j hj
   obtain ⟨s2,rv2,hs2,_,_⟩:=spot_of hm HP.out (i:=i) (r:=r) (c:=c) (by rw [HSS.out];exact k1) (by rw [HRR.out];exact k2) (by rw [HCC.out];exact k3)
   obtain ⟨o1,g1,g2,g3⟩:=spot_put t HSPO.out.1.1 HSPO.out.2.2.1 (c:=c0) hs2
   obtain ⟨o2,f1,_,f3⟩:=spot_pgs HPG.out g1
   refine ⟨nmB m i,r,c,_,o2,hs2,f1,k4, ?_⟩
   rw [← HNM0.out,nmB_ne hm (by omega) (by omega)]
   have hid:idO (some (i,s2,r,rv2,c))=some (i,r,c):=rfl
   rw [f3,g3,hid]
   by_cases he:some (i,r,c)=some (i0,r0,c0)
   · left
     obtain ⟨h1,h2,h3⟩:=(spt_inj hm (by omega) (by omega)).2 he
     injection he with he
     injection he with e1 he
     rw [if_pos (by rw [e1,h2,h3])]
     refine ⟨?_,rfl⟩
     rw [e1,h2,h3];simp
   · right
     rw [if_neg he]
     refine ⟨?_,rfl⟩
     by_cases e1:i=i0
     · by_cases e2:r=r0
       · have e3:¬ c=c0:=fun e3=>he (by rw [e1,e2,e3])
         have:((c:Int) == (c0:Int))=false:=beq_eq_false_iff_ne.2 (by omega)
         rw [this,Bool.and_false]
       · have:((r:Int) == (r0:Int))=false:=beq_eq_false_iff_ne.2 (by omega)
         rw [this,Bool.and_false,Bool.false_and]
     · rw [decide_eq_false e1,Bool.false_and,Bool.false_and]))
  clear hpg
  have x0:=HK9.out.cell
  have x1:=HKB9.out.cell
  have x2:=HKP9.out.cell
  have HY9:=Lib.hid (fun (wq:World) (hq:Below w9.heap.size w9 wq)=>(show wq.cell? ⟨q,0,none⟩=some (.slice A3 S S)∧wq.cell? ⟨b,0,none⟩=some (.slice A1 S c1)∧wq.cell? ⟨p,0,none⟩=some (.slice A2 S c2) from
   ⟨(HK9.out.over hq).cell,(HKB9.out.over hq).cell,(HKP9.out.over hq).cell⟩))
  go_upto_region 12 with (first
   | (go_at_call 15;((with_reducible refine (num_is 0 _).mono ?_);rintro e w10 ⟨rfl,rfl⟩))
   | (go_at_call 11;((with_reducible refine (HMYC.out _ (Below.refl _ _)).mono ?_);rintro e w10 ⟨rfl,h1⟩;have H10:=Lib.hid h1;obtain ⟨y0,y1,y2⟩:=HY9.out _ h1;clear h1))
   | (go_at_call 14;((with_reducible refine (HSB.out _ H10.out).mono ?_);rintro e w11 ⟨rfl,h1⟩;have H11:=Lib.hid (H10.out.trans (h1.mono H10.out.size));clear h1)))
  clear x0 x1 x2 y0 y1 y2
  obtain ⟨w12,hw12⟩:∃ w12,w11=w12:=⟨_,rfl⟩
  rw [hw12] at H11 ⊢
  clear hw12
  go_upto_region 13 with (fail)
  go_loopw [16,17] (fun iv tv wr=>∃ i:Nat,i≤L∧iv = .int .i64 (i:Int)∧tv=tv∧Hid (Below w9.heap.size w9 wr))
   (fun iv _ _=>L - (intOf iv).toNat)
  case atStart=>exact ⟨0,Nat.zero_le _,rfl,rfl,H11⟩
  case round =>
   obtain ⟨i,hi,rfl,_,HR⟩:=hrel
   by_cases hlt:i<L
   · have hii:(i:Int)<(L:Int):=by omega
     have hix0:(0:Int)≤(i:Int):=by omega
     obtain ⟨nm,r,c,o,o2,s1,s2,hls,hcs⟩:=HJ.out i hlt
     have HC:=Lib.hid (fun (wq:World) (hq:Below w9.heap.size w9 wq)=>(show (wq.cell? ⟨q,0,none⟩=some (.slice A3 S S)∧wq.cell? ⟨b,0,none⟩=some (.slice A1 S c1))∧(wq.cell? ⟨g,i*3,none⟩=some (.string nm)∧wq.cell? ⟨g,i*3+1,none⟩=some (.int .i64 (r:Int))∧wq.cell? ⟨g,i*3+2,none⟩=some (.int .i64 (c:Int))) from by
      obtain ⟨a0,a1,a2⟩:=HE.out i _ hls
      have h1:=H49.out.trans (hq.mono H49.out.size)
      exact ⟨⟨(HY9.out _ hq).1,(HY9.out _ hq).2.1⟩,(h1.cell (p:=⟨g,i*3,none⟩) HGW.out).trans a0,(h1.cell (p:=⟨g,i*3+1,none⟩) HGW.out).trans a1,(h1.cell (p:=⟨g,i*3+2,none⟩) HGW.out).trans a2⟩))
     have hg1:=fun (wq:World) (hq:Below w9.heap.size w9 wq)=>rget_any wq A1 S c1 shs nm (r:Int) (c:Int) o (HRB9.out.lift hq) hn6 s1
     have hg2:=fun (wq:World) (hq:Below w9.heap.size w9 wq)=>get_any wq A3 S S sv nm (r:Int) (c:Int) o2 (HRC9.out.lift hq) hn6 s2
     obtain ⟨T1,hT1⟩:∃ T,txO o=T:=⟨_,rfl⟩
     obtain ⟨T2,hT2⟩:∃ T,txO o2=T:=⟨_,rfl⟩
     rw [hT1] at hg1 hcs
     rw [hT2] at hg2 hcs
     have HG1:=Lib.hid hg1;have HG2:=Lib.hid hg2;have HCS:=Lib.hid hcs
     have HRD:=Lib.hid (Below.drew HR.out)
     clear hg1 hg2 hcs hls s1 s2 hT1 hT2
     go_upto_region 15 with (fail)
     go_cut [17] (fun wv wx=>wv = .string T1∧Hid (Below w9.heap.size w9 wx))
     case first =>
      obtain ⟨⟨_,x1⟩,e0,e1,e2⟩:=HC.out _ HRD.out
      go_region_held3 (fun wq=>wq.cell? ⟨b,0,none⟩=some (.slice A1 S c1)∧wq.cell? ⟨g,i*3,none⟩=some (.string nm)∧wq.cell? ⟨g,i*3+1,none⟩=some (.int .i64 (r:Int))∧wq.cell? ⟨g,i*3+2,none⟩=some (.int .i64 (c:Int))) (first | exact ⟨x1,e0,e1,e2⟩ | exact ⟨(HC.out _ H12.out).1.2,(HC.out _ H12.out).2⟩ | exact ⟨(HC.out _ HR.out).1.2,(HC.out _ HR.out).2⟩) (first | (go_at_call 13;((with_reducible refine (HG1.out _ HRD.out).mono ?_);rintro e w12 ⟨rfl,h1⟩;have H12:=Lib.hid (HRD.out.trans (h1.mono HRD.out.size));clear h1)))
      all_goals go_wp2_with fail
      all_goals go_meet
      all_goals exact ⟨rfl,H12⟩
     case rest =>
      obtain ⟨rfl,HR2⟩:=hcut
      have HRD2:=Lib.hid (Below.drew HR2.out)
      have HRD3:=Lib.hid (Below.drew HRD2.out)
      have e9:=HC.out _ HR2.out
      obtain ⟨_,e0,e1,e2⟩:=e9
      have HZX:=Lib.hid (HZ9.out.over HR2.out)
      obtain ⟨z0,z1,z2⟩:=HZX.out.cells
      have htt:(T2.toList == T2.toList)=true:=by rw [tl_eq];exact decide_eq_true rfl
      have HN:=Lib.hid (fun (k:Nat)=>below_drawn HR2.out k)
      rcases HCS.out with ⟨q1,q2⟩ | ⟨q1,q2⟩
      · have hqs:=fun wq=>(eq_spot nm nm0 (r:Int) (r0:Int) (c:Int) (c0:Int) wq).trans (by rw [q1])
        clear q1
        subst q2
        go_upto_region 16 with (fail)
        go_quiet (fail)
        clear z0 z1 z2 hqs e0 e1 e2
        go_upto_region 18 with (fail)
        generalize hw14:World.drewN _ _=w14
        have H14:=Lib.hid (show Below w9.heap.size w9 w14 from by rw [← hw14];exact HN.out _)
        have HD14:=Lib.hid (Below.drew H14.out)
        clear hw14
        obtain ⟨⟨x0,_⟩,e0,e1,e2⟩:=HC.out _ HD14.out
        go_region_held3 (fun wq=>wq.cell? ⟨q,0,none⟩=some (.slice A3 S S)∧wq.cell? ⟨g,i*3,none⟩=some (.string nm)∧wq.cell? ⟨g,i*3+1,none⟩=some (.int .i64 (r:Int))∧wq.cell? ⟨g,i*3+2,none⟩=some (.int .i64 (c:Int))) (first | exact ⟨x0,e0,e1,e2⟩ | exact ⟨(HC.out _ H13.out).1.1,(HC.out _ H13.out).2⟩ | exact ⟨(HC.out _ H14.out).1.1,(HC.out _ H14.out).2⟩) (first | (go_at_call 12;((with_reducible refine (HG2.out _ HD14.out).mono ?_);rintro e w13 ⟨rfl,h1⟩;have H13:=Lib.hid (HD14.out.trans (h1.mono HD14.out.size));clear h1)))
        all_goals go_wp2_with fail
        all_goals
         go_roundw
         case rel=>exact ⟨i+1,by omega,by go_num,by first | rfl | trivial,H13⟩
         case measure=>simp [intOf];omega
      · have hqs:=fun wq=>(eq_spot nm nm0 (r:Int) (r0:Int) (c:Int) (c0:Int) wq).trans (by rw [q1])
        clear q1
        subst q2
        go_upto_region 16 with (fail)
        go_quiet (fail)
        clear z0 z1 z2 hqs e0 e1 e2
        go_upto_region 18 with (fail)
        generalize hw14:World.drewN _ _=w14
        have H14:=Lib.hid (show Below w9.heap.size w9 w14 from by rw [← hw14];exact HN.out _)
        have HD14:=Lib.hid (Below.drew H14.out)
        clear hw14
        obtain ⟨⟨x0,_⟩,e0,e1,e2⟩:=HC.out _ HD14.out
        go_region_held3 (fun wq=>wq.cell? ⟨q,0,none⟩=some (.slice A3 S S)∧wq.cell? ⟨g,i*3,none⟩=some (.string nm)∧wq.cell? ⟨g,i*3+1,none⟩=some (.int .i64 (r:Int))∧wq.cell? ⟨g,i*3+2,none⟩=some (.int .i64 (c:Int))) (first | exact ⟨x0,e0,e1,e2⟩ | exact ⟨(HC.out _ H13.out).1.1,(HC.out _ H13.out).2⟩ | exact ⟨(HC.out _ H14.out).1.1,(HC.out _ H14.out).2⟩) (first | (go_at_call 12;((with_reducible refine (HG2.out _ HD14.out).mono ?_);rintro e w13 ⟨rfl,h1⟩;have H13:=Lib.hid (HD14.out.trans (h1.mono HD14.out.size));clear h1)))
        all_goals go_wp2_with fail
        all_goals
         go_roundw
         case rel=>exact ⟨i+1,by omega,by go_num,by first | rfl | trivial,H13⟩
         case measure=>simp [intOf];omega
   · have hii:¬ (i:Int)<(L:Int):=by omega
     go_upto_region 20 with (fail)
     have HR1:=Lib.hid (Below.drew HR.out)
     have hgg:=fun (wq:World) (hq:Below w9.heap.size w9 wq)=>rget_any wq A1 S c1 shs nm0 (r0:Int) (c0:Int) _ (HRB9.out.lift hq) hn6 HSPO.out
     have HA9:=Lib.hid (fun (wq:World) (hq:Below w9.heap.size w9 wq)=>HAW.out wq (HW9.out.trans (hq.mono HW9.out.size)))
     have hiff:pgs sv=pgs shs↔txO (some (i0,s,r0,rv,c0))=t:=by rw [HPG.out];exact HSAM.out
     have hsm:=fun (wq:World) (hq:Below w9.heap.size w9 wq)=>same_any wq A3 S S sv A1 S c1 shs (HRC9.out.lift hq) (HRB9.out.lift hq)
     obtain ⟨T0,hT0⟩:∃ T,txO (some (i0,s,r0,rv,c0))=T:=⟨_,rfl⟩
     rw [hT0] at hgg hiff
     have HGG:=Lib.hid hgg
     have HC9:=Lib.hid (fun (wq:World) (hq:Below w9.heap.size w9 wq)=>(show wq.cell? ⟨q,0,none⟩=some (.slice A3 S S)∧wq.cell? ⟨b,0,none⟩=some (.slice A1 S c1)∧wq.cell? ⟨z,0,none⟩=some (.string nm0)∧wq.cell? ⟨z,1,none⟩=some (.int .i64 (r0:Int))∧wq.cell? ⟨z,2,none⟩=some (.int .i64 (c0:Int)) from
      ⟨(HY9.out _ hq).1,(HY9.out _ hq).2.1,(HZ9.out.over hq).cells⟩))
     obtain ⟨x0,x1,z0,z1,z2⟩:=HC9.out _ HR1.out
     by_cases hTt:T0=t
     · have htt:(T0.toList == t.toList)=true:=by rw [tl_eq];exact decide_eq_true hTt
       rw [decide_eq_true (hiff.2 hTt)] at hsm
       have HSM:=Lib.hid hsm
       clear hgg hsm hiff hTt hT0
       go_region_held3 (fun wq=>wq.cell? ⟨q,0,none⟩=some (.slice A3 S S)∧wq.cell? ⟨b,0,none⟩=some (.slice A1 S c1)∧wq.cell? ⟨z,0,none⟩=some (.string nm0)∧wq.cell? ⟨z,1,none⟩=some (.int .i64 (r0:Int))∧wq.cell? ⟨z,2,none⟩=some (.int .i64 (c0:Int))) (first | exact ⟨x0,x1,z0,z1,z2⟩ | exact HC9.out _ H15.out | exact HC9.out _ H14.out | exact HC9.out _ H13.out | exact HC9.out _ HR.out) (first
        | (go_at_call 18;((with_reducible refine (HSM.out _ HR1.out).mono ?_);rintro e w13 ⟨rfl,h1⟩;have H13:=Lib.hid (HR1.out.trans (h1.mono HR1.out.size));clear h1))
        | (go_at_call 13;((with_reducible refine (HGG.out _ H13.out).mono ?_);rintro e w14 ⟨rfl,h1⟩;have H14:=Lib.hid (H13.out.trans (h1.mono H13.out.size));clear h1))
        | (go_at_call 6;((with_reducible refine (HA9.out _ H14.out).mono ?_);rintro e w15 ⟨rfl,h1⟩;have H15:=Lib.hid (H14.out.trans (h1.mono H14.out.size));clear h1)))
       all_goals go_wp2_with fail
       all_goals go_ret
       all_goals exact ⟨rfl,HW9.out.trans (H15.out.mono HW9.out.size)⟩
     · have htt:(T0.toList == t.toList)=false:=by rw [tl_eq];exact decide_eq_false hTt
       rw [decide_eq_false (fun e=>hTt (hiff.1 e))] at hsm
       have HSM:=Lib.hid hsm
       clear hgg hsm hiff hTt hT0
       go_region_held3 (fun wq=>wq.cell? ⟨q,0,none⟩=some (.slice A3 S S)∧wq.cell? ⟨b,0,none⟩=some (.slice A1 S c1)∧wq.cell? ⟨z,0,none⟩=some (.string nm0)∧wq.cell? ⟨z,1,none⟩=some (.int .i64 (r0:Int))∧wq.cell? ⟨z,2,none⟩=some (.int .i64 (c0:Int))) (first | exact ⟨x0,x1,z0,z1,z2⟩ | exact HC9.out _ H15.out | exact HC9.out _ H14.out | exact HC9.out _ H13.out | exact HC9.out _ HR.out) (first
        | (go_at_call 18;((with_reducible refine (HSM.out _ HR1.out).mono ?_);rintro e w13 ⟨rfl,h1⟩;have H13:=Lib.hid (HR1.out.trans (h1.mono HR1.out.size));clear h1))
        | (go_at_call 13;((with_reducible refine (HGG.out _ H13.out).mono ?_);rintro e w14 ⟨rfl,h1⟩;have H14:=Lib.hid (H13.out.trans (h1.mono H13.out.size));clear h1))
        | (go_at_call 6;((with_reducible refine (HA9.out _ H14.out).mono ?_);rintro e w15 ⟨rfl,h1⟩;have H15:=Lib.hid (H14.out.trans (h1.mono H14.out.size));clear h1)))
       all_goals go_wp2_with fail
       all_goals go_ret
       all_goals exact ⟨rfl,HW9.out.trans (H15.out.mono HW9.out.size)⟩
end Go.Proofs.YtdphoaabaajonaaGreatDoor
