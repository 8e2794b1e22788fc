/-
 Texts of layers, put together.
-/
import Derived.Test.YtdphoaabaajonaaGreatDoorMB1
import Derived.Deep.RegionLaw
import Derived.Deep.RegionWith
import Derived.Shelf.Strings.Builder1
import Derived.Shelf.Strings.Builder2
import Derived.Shelf.Small.Strs
import Derived.Shelf.Strings.BuilderF
import Derived.Shelf.Strings.BuilderK
import Derived.Shelf.Strconv.Atoi
import Derived.Shelf.Strconv.Itoa0
import Derived.Shelf.Strconv.Itoa1
import Derived.Shelf.LaysM
import Derived.Shelf.Strconv.Itoa2
import Derived.Shelf.Strconv.Itoa3
import Derived.Shelf.Strconv.AtoiErrFast
import Derived.Shelf.Strconv.ParseIntEmpty
import Derived.Shelf.Strconv.AtoiFail
import Derived.Shelf.Strconv.Clone
import Derived.Shelf.Strconv.SyntaxError
import Derived.Shelf.LaysC
import Derived.Shelf.Strconv.ToError
import Derived.Shelf.Strconv.Lower
import Derived.Shelf.Strconv.ParseUint10
import Derived.Shelf.Strconv.ParseUint10Empty
import Derived.Shelf.Strconv.ParseUint10Any
import Derived.Shelf.Strconv.ParseInt10
import Derived.Shelf.Strconv.AtoiLong
import Derived.Shelf.Strconv.AtoiInnerAll
import Derived.Shelf.Strconv.RangeError
import Derived.Shelf.Strconv.ToErrorRange
import Derived.Shelf.Strconv.AtoiAll
import Derived.Shelf.Strconv.ErrVarAll
import Derived.Shelf.Strings.Search1
import Derived.Shelf.Strings.Search2
import Derived.Shelf.Strings.Search3
import Derived.Shelf.Strings.Count
import Derived.Shelf.Strings.Shaped
import Derived.Shelf.Strings.Prefix
import Derived.Shelf.Strings.Split
import Derived.Shelf.Strings.Replace
import Derived.Shelf.Unicode.DecodeSlow
import Derived.Test.YtdphoaabaajonaaGreatDoorProg
import Derived.Laws.ResultCell
import Derived.Lib.LaidTab
namespace Go.Proofs.YtdphoaabaajonaaGreatDoor
open Go.RowKit
theorem res_rcopySheet:Tryz.f32.results=#[.cell 2 47]:=by kernel_rfl
structure CsI (w0 w:World) (nm:ByteArray) (c:Int) (pv tv:Value) (done:List Rv):Prop where
 par:ShAt w w0.heap.size nm c pv
 out:ShAt w (w0.heap.size+1) ⟨#[]⟩ 0 (.slice none 0 0)
 cur:ShAt w (w0.heap.size+2) nm c tv
 rw:RwV w (w0.heap.size+3) tv done
 aft:Below w0.heap.size w0 w
theorem CsI.next {w0 w w':World} {nm:ByteArray} {c:Int} {pv tv:Value} {done:List Rv} (h:CsI w0 w nm c pv tv done) (hb:Below w.heap.size w w'):CsI w0 w' nm c pv tv done :=
 ⟨h.par.over hb,h.out.over hb,h.cur.over hb,h.rw.next hb,h.aft.trans (hb.mono h.aft.size)⟩
theorem own_ne2 {α : Type} {k:Nat} {E:Enc α k} {e:TypeId} {w:World} {lo g:Nat} {v:Value} {xs:List α} (h:Own E e w lo v xs) (hg:g<lo):Option.some g≠v.ownBlock:=by
 intro hv
 have:=(h.lies hv.symm).1
 omega
theorem CsI.cur5 {w0 wa wb:World} {nm:ByteArray} {c:Int} {pv tv:Value} {done:List Rv} (h:CsI w0 wa nm c pv tv done) (hg:wa.grownBy wb tv.ownBlock):ShAt wb (w0.heap.size+2) nm c tv:=by
 unfold ShAt;rw [hg.block _ h.cur.lt (own_ne2 h.rw.1 (by omega))];exact h.cur
theorem CsI.push {w0 wa wb:World} {nm:ByteArray} {c:Int} {pv tv v':Value} {done:List Rv} {rv:Rv} (h:CsI w0 wa nm c pv tv done) (hrow:Own encTx 9 wa (w0.heap.size+3) rv.v rv.l) (ho:Own encRv 48 wb (w0.heap.size+3) v' (done++[rv])) (hg:wa.grownBy wb tv.ownBlock) :
 CsI w0 (wb.setCell ⟨w0.heap.size+2,2,none⟩ v') nm c pv v' (done++[rv]):=by
 have h1:=h.rw.push hrow ho hg
 have hpar:ShAt wb w0.heap.size nm c pv:=by unfold ShAt;rw [hg.block _ h.par.lt (own_ne2 h.rw.1 (by omega))];exact h.par
 have hout:ShAt wb (w0.heap.size+1) ⟨#[]⟩ 0 (.slice none 0 0):=by unfold ShAt;rw [hg.block _ h.out.lt (own_ne2 h.rw.1 (by omega))];exact h.out
 refine ⟨hpar.other _ _ (by show w0.heap.size≠w0.heap.size+2;omega),hout.other _ _ (by show w0.heap.size+1≠w0.heap.size+2;omega),(h.cur5 hg).put2 v',h1.keep fun g h2 _=>heap_setCell_other wb _ g _ (by show g≠w0.heap.size+2;omega), ?_⟩
 exact (h.aft.grown hg h.aft.size fun g e=>by have:=(h.rw.1.lies e).1;omega).setCell (by show w0.heap.size≤w0.heap.size+2;omega) _
set_option maxRecDepth 100000 in
set_option maxHeartbeats 16000000 in
theorem rcopySheet_any (w:World) (s:Sv) (h:RowsR w w.heap.size (.slice s.A s.rows.length s.cap) s.rows) (hn:s.rows.length≤1000000) (hz:∀ r∈s.rows,r.l.length≤1000000∧r.l≠[]) :
 Calls Tryz.prog 32 #[.agg #[.string s.nm,.int .i64 s.cols,.slice s.A s.rows.length s.cap]] w fun e w'=>Below w.heap.size w w'∧∃ A' n' c' rvs,e = .returned (.agg #[.string s.nm,.int .i64 s.cols,.slice A' n' c'])∧rvs.map (·.l)=s.rows.map (·.l)∧rvs.length=n'∧RwV w' w.heap.size (.slice A' n' c') rvs:=by
 obtain ⟨w2,hw2,hb,hs1,hs2,hsz⟩:=two_sheets w s.nm ⟨#[]⟩ s.cols 0 (.slice s.A s.rows.length s.cap) (.slice none 0 0)
 obtain ⟨n,hn2⟩:∃ n,s.rows.length=n:=⟨_,rfl⟩
 rw [hn2] at hw2 hs1 h hn ⊢
 have HX:=Lib.hid h;have HZ:=Lib.hid hz;have HL:=Lib.hid hn2
 have HB:=Lib.hid hb;have HS1:=Lib.hid hs1;have HS2:=Lib.hid hs2;have HSZ:=Lib.hid hsz
 clear h hz hb hs1 hs2 hn2 hsz
 go_enter Tryz.func32,Tryz.ntmps32
 go_upto_region 1 with (fail)
 clear hw2
 obtain ⟨x0,x1,x2⟩:=HS1.out.cells
 go_upto_region 2 with (fail)
 clear x0 x1 x2
 have HBA:=Lib.hid (below_sh w2 s.nm s.cols (.slice none 0 0))
 have HN:=Lib.hid (ShAt.new w2 s.nm s.cols (.slice none 0 0))
 have hq2:=HSZ.out
 rw [hq2] at HN
 rw [hq2]
 have HI:=Lib.hid (show CsI w (w2.alloc (.cells #[.string s.nm,.int .i64 s.cols,.slice none 0 0] 47)) s.nm s.cols (.slice s.A n s.cap) (.slice none 0 0) [] from
  ⟨HS1.out.over HBA.out,HS2.out.over HBA.out,HN.out,RwV.nil _ _,HB.out.trans (HBA.out.mono HB.out.size)⟩)
 obtain ⟨w3,hw3⟩:∃ w3,w2.alloc (.cells #[.string s.nm,.int .i64 s.cols,.slice none 0 0] 47)=w3:=⟨_,rfl⟩
 rw [hw3] at HI HBA HN ⊢
 clear hw3
 go_upto_region 3 with (fail)
 go_loopw [4] (fun iv wr=>∃ (i:Nat) (A1:Option Addr) (c1:Nat) (done:List Rv),i≤n∧iv = .int .i64 (i:Int)∧Hid (done.length=i)∧Hid (lns done=(lns s.rows).take i)∧Hid (CsI w wr s.nm s.cols (.slice s.A n s.cap) (.slice A1 i c1) done))
  (fun iv _=>n - (intOf iv).toNat)
 case atStart=>exact ⟨0,none,0,[],Nat.zero_le _,rfl,Lib.hid rfl,Lib.hid rfl,HI⟩
 case round =>
  obtain ⟨i,A1,c1,done,hi,rfl,HD,HM,HC⟩:=hrel
  obtain ⟨x0,x1,x2⟩:=HC.out.par.cells
  by_cases hlt:i<n
  · have hii:(i:Int)<(n:Int):=by omega
    have hi0:(0:Int)≤(i:Int):=by omega
    obtain ⟨x,hx⟩:∃ x,s.rows[i]? = some x:=⟨_,List.getElem?_eq_getElem (by rw [HL.out];exact hlt)⟩
    obtain ⟨pb,po,hA,hpb,e0,hrx⟩:=row_at HX.out hx
    have hxz:=HZ.out x (List.mem_of_getElem? hx)
    have hwr:w.heap.size≤wr.heap.size:=HC.out.aft.size
    have y0:wr.cell? ⟨pb,po+i,none⟩=some (.slice x.A x.l.length x.cap):=(HC.out.aft.cell (p:=⟨pb,po+i,none⟩) hpb).trans e0
    have HX1:=Lib.hid (show (lns s.rows).take (i+1)=(lns s.rows).take i++[x.l] from by unfold lns;rw [List.take_add_one,List.getElem?_map,hx];rfl)
    obtain ⟨k,hk⟩:∃ k,x.l.length=k:=⟨_,rfl⟩
    have HK:=Lib.hid hk
    have HRX:=Lib.hid (show SE encTx wr wr.heap.size (.slice x.A x.l.length x.cap) x.l from (hrx.below HC.out.aft (Nat.le_refl _)).mono hwr)
    have hkz:k≤1000000:=by rw [← hk];exact hxz.1
    obtain ⟨ad,hAd⟩:∃ ad,x.A=some ad:=by
     obtain ⟨y,hy⟩:∃ y,x.l[0]? = some y:=⟨_,List.getElem?_eq_getElem (List.length_pos_iff.2 hxz.2)⟩
     obtain ⟨ub,uo,h1,_⟩:=tx_at hrx hy
     exact ⟨_,h1⟩
    rw [hk] at y0 HRX
    rw [hAd] at y0 HRX
    rw [hA] at x2
    obtain ⟨z0,z1,z2⟩:=HC.out.cur.cells
    have hln:w.heap.size+2<wr.heap.size:=HC.out.cur.lt
    have HO0:=Lib.hid (own_empty encTx 9 wr.drew)
    have HBD:=Lib.hid (show Below wr.heap.size wr (wr.drew.alloc (.cells #[] 9)) from (Below.drew (Below.refl wr.heap.size wr)).alloc (Nat.le_refl _) _)
    have HCE:=Lib.hid (fun (j:Nat) (u:Value) (hj:(encTx.all x.l)[j]? = some u)=>(show (wr.drew.alloc (.cells #[] 9)).cell? (ad.add j)=some u from by
     obtain ⟨A',cap',h1,_,_,h3⟩:=(HRX.out.lift HBD.out)
     injection h1 with h1 _ _
     rcases h3 with h3 | ⟨qb,qo,h4,_,h5⟩
     · rw [h3] at hj;simp [Enc.all] at hj
     · rw [h4] at h1
       injection h1 with h1
       subst h1
       rw [Addr.add_mid];exact h5 j u hj))
    have hal:Below wr.heap.size wr (wr.alloc (.cells #[] 9)):=(Below.refl wr.heap.size wr).alloc (Nat.le_refl _) _
    have a2:(wr.alloc (.cells #[] 9)).cell? ⟨w.heap.size,2,none⟩=some (.slice (some ⟨pb,po,none⟩) n s.cap):=(hal.cell (p:=⟨w.heap.size,2,none⟩) (by show w.heap.size<wr.heap.size;omega)).trans x2
    have a3:(wr.alloc (.cells #[] 9)).cell? ⟨w.heap.size+2,2,none⟩=some (.slice A1 i c1):=(hal.cell (p:=⟨w.heap.size+2,2,none⟩) hln).trans z2
    have a4:(wr.alloc (.cells #[] 9)).cell? ⟨pb,po+i,none⟩=some (.slice (some ad) k x.cap):=(hal.cell (p:=⟨pb,po+i,none⟩) (by show pb<wr.heap.size;omega)).trans y0
    clear hal
    clear e0 hrx hx hxz hk hA hAd
    go_upto_region 5 with (fail)
    go_region_law (first
     | (refine step_app_at Elem.tx encTx rfl (.tmp 19) (.tmp 24) rfl wr.heap.size (.slice (some ⟨wr.heap.size,0,none⟩) 0 0) [] ?_ HO0.out ad k x.cap x.l ?_ HK.out HCE.out ?_ ?_ ?_ ?_;go_simp;go_simp;(rw [List.length_nil];omega);(rw [List.length_nil];unfold maxLen;omega);exact HBD.out.size;intro v4 w4 h1 h2 _;obtain ⟨A4,c4,hv4⟩:=own_sl h1;simp only [List.nil_append,HK.out] at hv4;subst hv4;have HO4:=Lib.hid (show Own encTx 9 w4 wr.heap.size (.slice A4 k c4) x.l from by rw [List.nil_append] at h1;exact h1);have HB4:=Lib.hid (show Below wr.heap.size wr w4 from HBD.out.grown h2 HBD.out.size fun g e=>by injection e with e;have:wr.drew.heap.size=g:=e;rw [← this];exact Nat.le_refl _);have d3:w4.cell? ⟨w.heap.size+2,2,none⟩=some (.slice A1 i c1):=(HB4.out.cell (p:=⟨w.heap.size+2,2,none⟩) hln).trans z2;have d4:(w4.alloc (.cells #[.slice A4 k c4] 48)).cell? ⟨w.heap.size+2,2,none⟩=some (.slice A1 i c1):=(((HB4.out.alloc HB4.out.size (.cells #[.slice A4 k c4] 48))).cell (p:=⟨w.heap.size+2,2,none⟩) hln).trans z2;clear h1 h2)
     | (refine step_app_at Elem.rw encRv rfl (.tmp 18) (.tmp 26) rfl (w.heap.size+3) (.slice A1 i c1) done ?_ ((HC.out.next (HB4.out.alloc HB4.out.size _)).rw.1) ⟨w4.heap.size,0,none⟩ 1 1 [⟨A4,c4,x.l⟩] ?_ rfl ?_ ?_ ?_ ?_ ?_;go_simp;go_simp;exact cells_new _ _ _ (by show [_]=[Value.slice A4 x.l.length c4];rw [HK.out]);(rw [HD.out];omega);(rw [HD.out];unfold maxLen;omega);(rw [World.size_alloc];have:=HB4.out.size;omega);intro v5 w5 h1 h2 _;obtain ⟨A5,c5,hv5⟩:=own_sl h1;simp only [List.length_append,List.length_singleton,HD.out] at hv5;subst hv5;have HO5:=Lib.hid h1;have HG5:=Lib.hid h2;have HCA:=Lib.hid (HC.out.next (HB4.out.alloc HB4.out.size (.cells #[.slice A4 k c4] 48)));obtain ⟨m0,m1,m2⟩:=(HCA.out.cur5 h2).melts;obtain ⟨v0,v1,v2⟩:=(HCA.out.cur5 h2).cells;clear h1 h2))
    all_goals
     have HROW:=Lib.hid (show Own encTx 9 (w4.alloc (.cells #[.slice A4 k c4] 48)) (w.heap.size+3) (Rv.v ⟨A4,c4,x.l⟩) x.l from by
      have h1:=(HO4.out.mono (show w.heap.size+3≤wr.heap.size by omega)).alloc (.cells #[.slice A4 k c4] 48)
      show Own _ _ _ _ (.slice A4 x.l.length c4) _
      rw [HK.out];exact h1)
     have HMN:=Lib.hid (show lns (done++[⟨A4,c4,x.l⟩])=(lns s.rows).take (i+1) from by
      rw [HX1.out, ← HM.out]
      unfold lns
      rw [List.map_append];rfl)
     clear m0 m1 m2 v0 v1 v2 a2 a3 a4 x0 x1 x2 y0 z0 z1 z2 d3 d4
     go_wp2_with fail
     go_roundw
     case rel=>exact ⟨i+1,A5,c5,done++[⟨A4,c4,x.l⟩],by omega,by go_num,Lib.hid (by rw [List.length_append,HD.out];rfl),HMN,Lib.hid (HCA.out.push HROW.out HO5.out HG5.out)⟩
     case measure=>simp [intOf];omega
  · have hii:¬ (i:Int)<(n:Int):=by omega
    have hin:i=n:=by omega
    subst hin
    have hln2:(lns done)=lns s.rows:=by
     rw [HM.out];exact List.take_of_length_le (by unfold lns;rw [List.length_map,HL.out];exact Nat.le_refl _)
    have HM2:=Lib.hid hln2
    obtain ⟨z0,z1,z2⟩:=HC.out.cur.cells
    obtain ⟨m0,m1,m2⟩:=HC.out.out.melts
    obtain ⟨v0,v1,v2⟩:=HC.out.out.cells
    clear hln2
    go_wp2_with fail
    refine bodyPost_ret (out_sh (HC.out.out.put3 s.nm s.cols (.slice A1 i c1)) _ _ 2 res_rcopySheet rfl) rfl ⟨belowS3 HC.out.aft (by omega) _ _ _,A1,i,c1,rfl,done,HM2.out,HD.out, ?_⟩
    exact (HC.out.rw.keep fun g h1 _=>heap_put3 wr _ g _ _ _ (by omega)).mono (by omega)
def ShO (w:World) (s:Sv) (lo hi:Nat):Prop:=RwO w s.A s.cap s.rows lo hi
theorem ShO.keep {w w':World} {s:Sv} {lo hi:Nat} (h:ShO w s lo hi) (hk:∀ g,lo≤g→g<hi→w'.heap[g]? = w.heap[g]?):ShO w' s lo hi:=RwO.keep h hk
theorem ShO.up {w:World} (s:Sv) (a b c d:Nat) (h1:a≤b) (h2:c≤d) (_:b≤c) (h:ShO w s b c):ShO w s a d:=RwO.up h1 h2 h
def BkO (w:World) (A:Option Addr) (n cap:Nat) (shs:List Sv) (lo hi:Nat):Prop:=∃ g m,A=some ⟨g,0,none⟩∧n=shs.length∧cap=shs.length∧shs.length≤maxLen∧lo≤g∧g<m∧RwA encSv 47 w g shs∧Zon (ShO w) shs m hi
theorem BkO.keep {w w':World} {A:Option Addr} {n cap:Nat} {shs:List Sv} {lo hi:Nat} (h:BkO w A n cap shs lo hi) (hk:∀ g,lo≤g→g<hi→w'.heap[g]? = w.heap[g]?):BkO w' A n cap shs lo hi:=by
 obtain ⟨g,m,h1,h2,h3,h4,h5,h6,h7,h8⟩:=h
 have:=h8.le
 exact ⟨g,m,h1,h2,h3,h4,h5,h6,h7.keep (hk g h5 (by omega)),h8.imp fun x a b _ ha hb hx=>hx.keep fun g h1 h2=>hk g (by omega) (by omega)⟩
theorem BkO.up {w:World} {A:Option Addr} {n cap:Nat} {shs:List Sv} {a b c d:Nat} (h1:a≤b) (h2:c≤d) (h:BkO w A n cap shs b c):BkO w A n cap shs a d:=by
 obtain ⟨g,m,k1,k2,k3,k4,k5,k6,k7,k8⟩:=h
 exact ⟨g,m,k1,k2,k3,k4,by omega,k6,k7,k8.up ShO.up (Nat.le_refl _) h2⟩
theorem BkO.bkR {w:World} {A:Option Addr} {n cap:Nat} {shs:List Sv} {lo hi B:Nat} (h:BkO w A n cap shs lo hi) (hB:hi≤B):BkR w B (.slice A n cap) shs:=by
 obtain ⟨g,m,rfl,rfl,rfl,h4,h5,h6,h7,h8⟩:=h
 have:=h8.le
 refine ⟨h7.se (by omega) (Nat.le_refl _) h4,fun s hs => ?_⟩
 obtain ⟨i,hi⟩:=List.getElem?_of_mem hs
 obtain ⟨a,b,_,_,k3,k4,_⟩:=h8.at i s hi
 exact RwO.rowsR k4 (by omega)
def SzB (shs:List Sv):Prop:=shs.length≤1000000∧∀ s∈shs,s.rows.length≤1000000∧∀ r∈s.rows,r.l.length≤1000000
def zS:Sv:=⟨⟨#[]⟩,0,none,0,[]⟩
set_option maxRecDepth 100000 in
theorem run_mks (n:Nat) (hn:n≤1000000) (w:World):(Instr.makeSlice 24 (.int .i64 (n:Int)) (.int .i64 (n:Int))).run Tryz.prog w = .ok (.slice (some ⟨w.heap.size,0,none⟩) n n) (w.alloc (.cells (madeCells #[.string ⟨#[]⟩,.int .i64 0,.slice none 0 0] (n*3)) 47)):=by
 have hinfo:(Tryz.prog.info? 47).map (fun i=>(i.zero,i.size,i.bytes))=some (some (.agg #[.string ⟨#[]⟩,.int .i64 0,.slice none 0 0]),3,48):=by kernel_rfl
 obtain ⟨i,hi,hzz⟩:=Option.map_eq_some_iff.1 hinfo
 simp only [Prod.mk.injEq] at hzz
 obtain ⟨hz,hs,hb⟩:=hzz
 have hr:=run_make (P:=Tryz.prog) w 24 47 i _ Tryz.underlying24 hi hz .i64 .i64 n n (by omega) (Int.le_refl _) (by rw [hb];omega) (by omega)
 simp only [Int.toNat_natCast,hs] at hr
 exact hr
theorem heap_put3i (w:World) (z g i j k:Nat) (a b c:Value) (h:g≠z):(((w.setCell ⟨z,i,none⟩ a).setCell ⟨z,j,none⟩ b).setCell ⟨z,k,none⟩ c).heap[g]? = w.heap[g]? := by
 rw [heap_setCell_other _ _ _ _ (by exact h),heap_setCell_other _ _ _ _ (by exact h),heap_setCell_other _ _ _ _ (by exact h)]
theorem size_put3i (w:World) (z i j k:Nat) (a b c:Value):(((w.setCell ⟨z,i,none⟩ a).setCell ⟨z,j,none⟩ b).setCell ⟨z,k,none⟩ c).heap.size=w.heap.size:=by
 rw [World.size_setCell,World.size_setCell,World.size_setCell]
theorem zs_at (done:List Sv) (n i:Nat) (hd:done.length=i) (hi:i<n) (j:Nat) (u:Value) (hj:(encSv.f zS)[j]? = some u):(encSv.all (done++List.replicate (n - done.length) zS))[i*3+j]? = some u:=by
 have h3:j<3:=by rw [← encSv.len zS];exact (List.getElem?_eq_some_iff.1 hj).1
 rw [encSv.at _ i j zS (by rw [← hd,List.getElem?_append_right (Nat.le_refl _),Nat.sub_self,List.getElem?_replicate,if_pos (by omega)]) h3];exact hj
set_option maxRecDepth 100000 in
set_option maxHeartbeats 4000000 in
theorem eachS_any (w:World) (A:Option Addr) (n cap:Nat) (shs:List Sv) (h:BkR w w.heap.size (.slice A n cap) shs) (hz:SzB shs) :
 Calls Tryz.prog 35 #[.slice A n cap,.func (.func 36) #[] #[]] w fun e w'=>Below w.heap.size w w'∧∃ A' sv,e = .returned (.slice A' n n)∧pgs sv=pgs shs∧BkO w' A' n n sv w.heap.size w'.heap.size:=by
 have HR0:=Lib.hid h;have HL:=Lib.hid h.1.len.1;have HZ:=Lib.hid hz
 have hn:n≤1000000:=by have h1:=hz.1;have h2:=h.1.len.1;omega
 clear h hz
 have hmk:=fun w=>run_mks n hn w
 have HT:=Lib.hid (made_rwA encSv 47 w n zS #[.string ⟨#[]⟩,.int .i64 0,.slice none 0 0] rfl (by omega))
 have HB0:=Lib.hid ((Below.refl w.heap.size w).alloc (Nat.le_refl _) (.cells (madeCells #[.string ⟨#[]⟩,.int .i64 0,.slice none 0 0] (n*3)) 47))
 have HS0:=Lib.hid (World.size_alloc w (.cells (madeCells #[.string ⟨#[]⟩,.int .i64 0,.slice none 0 0] (n*3)) 47))
 go_enter Tryz.func35,Tryz.ntmps35
 go_upto_region 3 with (fail)
 obtain ⟨w1,hw1⟩:∃ w1,w.alloc (.cells (madeCells #[.string ⟨#[]⟩,.int .i64 0,.slice none 0 0] (n*3)) 47)=w1:=⟨_,rfl⟩
 rw [hw1] at HT HB0 HS0 ⊢
 clear hw1 hmk
 obtain ⟨T,hTq⟩:∃ T,w.heap.size=T:=⟨_,rfl⟩
 have HTQ:=Lib.hid hTq
 rw [hTq] at HT HB0 HS0 ⊢
 go_loopw [13] (fun iv wr=>∃ (i:Nat) (done:List Sv),i≤n∧iv = .int .i64 (i:Int)∧Hid (done.length=i)∧Hid (pgs done=(pgs shs).take i)∧Hid (RwA encSv 47 wr T (done++List.replicate (n - done.length) zS))∧Hid (Zon (ShO wr) done (T+1) wr.heap.size)∧Hid (Below T w wr))
  (fun iv _=>n - (intOf iv).toNat)
 case atStart=>exact ⟨0,[],Nat.zero_le _,rfl,Lib.hid rfl,Lib.hid rfl,HT,Lib.hid (show T+1≤w1.heap.size from Nat.le_of_eq HS0.out.symm),HB0⟩
 case round =>
  obtain ⟨i,done,hi,rfl,HD,HM,HA,HZN,HB⟩:=hrel
  by_cases hlt:i<n
  · have hii:(i:Int)<(n:Int):=by omega
    have hi0:(0:Int)≤(i:Int):=by omega
    obtain ⟨x,hx⟩:∃ x,shs[i]? = some x:=⟨_,List.getElem?_eq_getElem (by rw [HL.out];exact hlt)⟩
    obtain ⟨pb,po,rfl,hpb,e0,e1,e2,hrx⟩:=sh_at HR0.out hx
    have hpT:pb<T:=by rw [← HTQ.out];exact hpb
    have x0:wr.cell? ⟨pb,po+i*3,none⟩=some (.string x.nm):=(HB.out.cell (p:=⟨pb,po+i*3,none⟩) hpT).trans e0
    have x1:wr.cell? ⟨pb,po+i*3+1,none⟩=some (.int .i64 x.cols):=(HB.out.cell (p:=⟨pb,po+i*3+1,none⟩) hpT).trans e1
    have x2:wr.cell? ⟨pb,po+i*3+2,none⟩=some (.slice x.A x.rows.length x.cap):=(HB.out.cell (p:=⟨pb,po+i*3+2,none⟩) hpT).trans e2
    have HX1:=Lib.hid (show (pgs shs).take (i+1)=(pgs shs).take i++[x.p] from by unfold pgs;rw [List.take_add_one,List.getElem?_map,hx];rfl)
    have hTr:T<wr.heap.size:=HA.out.lt
    have HBS:=Lib.hid (below_sh wr x.nm x.cols (.slice x.A x.rows.length x.cap))
    have HNS:=Lib.hid (ShAt.new wr x.nm x.cols (.slice x.A x.rows.length x.cap))
    have HC:=Lib.hid (copySheet_any (wr.alloc (.cells #[.string x.nm,.int .i64 x.cols,.slice x.A x.rows.length x.cap] 47)) x (((hrx.below HB.out (Nat.le_of_eq HTQ.out)).mono (by have h1:=HB.out.size;rw [HTQ.out] at h1 ⊢;exact h1)).lift HBS.out) (HZ.out.2 x (List.mem_of_getElem? hx)).1 (HZ.out.2 x (List.mem_of_getElem? hx)).2)
    clear e0 e1 e2 hrx hx
    go_upto_region 5 with (fail)
    clear x0 x1 x2
    obtain ⟨w1,hw1⟩:∃ w1,wr.alloc (.cells #[.string x.nm,.int .i64 x.cols,.slice x.A x.rows.length x.cap] 47)=w1:=⟨_,rfl⟩
    rw [hw1] at HBS HNS HC ⊢
    clear hw1
    obtain ⟨y0,y1,y2⟩:=HNS.out.cells
    obtain ⟨n2,hn2⟩:∃ n2,x.rows.length=n2:=⟨_,rfl⟩
    have HN2:=Lib.hid hn2
    rw [hn2] at y2 HC ⊢
    clear hn2
    go_wp2_with (go_at_call 36;((with_reducible refine HC.out.mono ?_);rintro e w2 ⟨h1,A2,rvs,rfl,hm,h2⟩;have H2:=Lib.hid (HBS.out.trans (h1.mono HBS.out.size));have HN:=Lib.hid h2;have HMM:=Lib.hid hm;have HA2:=Lib.hid (HA.out.keep ((h1.block T (Nat.lt_of_lt_of_le hTr HBS.out.size)).trans (HBS.out.block T hTr)));have f0:=HA2.out.melt (i*3);have f1:=HA2.out.melt (i*3+1);have f2:=HA2.out.melt (i*3+2);have g0:w2.cell? ⟨T,i*3,none⟩=some (.string ⟨#[]⟩):=HA2.out.cell _ _ (zs_at done n i HD.out hlt 0 _ rfl);have g1:w2.cell? ⟨T,i*3+1,none⟩=some (.int .i64 0):=HA2.out.cell _ _ (zs_at done n i HD.out hlt 1 _ rfl);have g2:w2.cell? ⟨T,i*3+2,none⟩=some (.slice none 0 0):=HA2.out.cell _ _ (zs_at done n i HD.out hlt 2 _ rfl);clear h1 h2 hm))
    clear f0 f1 f2 g0 g1 g2 y0 y1 y2
    go_roundw
    case rel =>
     have hd:=HD.out
     have hbw:=HBS.out.size
     obtain ⟨w3,hw3⟩:∃ w3,((w2.setCell ⟨T,i*3,none⟩ (.string x.nm)).setCell ⟨T,i*3+1,none⟩ (.int .i64 x.cols)).setCell ⟨T,i*3+2,none⟩ (.slice A2 n2 n2)=w3:=⟨_,rfl⟩
     have hk3:∀ g,g≠T→w3.heap[g]? = w2.heap[g]? := fun g hg=>by rw [← hw3];exact heap_put3i w2 T g _ _ _ _ _ _ hg
     have hs:w3.heap.size=w2.heap.size:=by rw [← hw3];exact size_put3i w2 T _ _ _ _ _ _
     have hz1:Zon (ShO w3) done (T+1) wr.heap.size:=HZN.out.imp fun y a b _ ha hb hy=>hy.keep fun g h1 h2=>(hk3 g (by omega)).trans (H2.out.block g (by omega))
     have hrl:rvs.length=n2:=by have h:=congrArg List.length HMM.out;rw [List.length_map,List.length_map,HN2.out] at h;exact h
     have hx:ShO w3 ⟨x.nm,x.cols,A2,n2,rvs⟩ wr.heap.size w2.heap.size:=((RwO.keep HN.out fun g h1 h2=>hk3 g (by omega)).up hbw (Nat.le_refl _))
     rw [hw3]
     refine ⟨i+1,done++[⟨x.nm,x.cols,A2,n2,rvs⟩],by omega,by go_num,Lib.hid (by rw [List.length_append,hd];rfl),Lib.hid ?_,Lib.hid ?_,Lib.hid ?_,Lib.hid ?_⟩
     · have h1:=HM.out
       rw [HX1.out, ← h1]
       unfold pgs
       rw [List.map_append]
       have:(Sv.p ⟨x.nm,x.cols,A2,n2,rvs⟩)=x.p:=by unfold Sv.p;rw [HMM.out]
       rw [← this];rfl
     · have h1:=HA2.out.set3 i ⟨x.nm,x.cols,A2,n2,rvs⟩ (.string x.nm) (.int .i64 x.cols) (.slice A2 n2 n2) (by show [_,_,Value.slice A2 rvs.length n2]=_;rw [hrl])
       rw [hw3] at h1
       subst hd
       rw [fill_set _ _ _ _ hlt] at h1
       rw [List.length_append];exact h1
     · rw [hs]
       exact hz1.snoc H2.out.size hx fun y a b c h1 h2 hy=>ShO.up y a b c c h2 (Nat.le_refl _) h1 hy
     · rw [← hw3]
       exact (((HB.out.trans (H2.out.mono (Nat.le_of_lt hTr))).setCell (p:=⟨T,i*3,none⟩) (Nat.le_refl T) _).setCell (p:=⟨T,i*3+1,none⟩) (Nat.le_refl T) _).setCell (p:=⟨T,i*3+2,none⟩) (Nat.le_refl T) _
    case measure=>simp [intOf];omega
  · have hii:¬ (i:Int)<(n:Int):=by omega
    have hin:i=n:=by omega
    subst hin
    go_wp2_with fail
    go_ret
    have hd:=HD.out
    have k1:pgs done=pgs shs:=by rw [HM.out];exact List.take_of_length_le (by unfold pgs;rw [List.length_map,HL.out];exact Nat.le_refl _)
    have k2:BkO wr (some ⟨T,0,none⟩) i i done T wr.heap.size:=⟨T,T+1,rfl,hd.symm,hd.symm,by unfold maxLen;omega,by omega,by omega,by
     have h1:=HA.out
     rw [hd,Nat.sub_self,List.replicate_zero,List.append_nil] at h1;exact h1,HZN.out⟩
    first
     | exact ⟨HB.out,_,done,rfl,k1,k2⟩
     | exact ⟨HB.out,_,rfl,done,k1,k2⟩
theorem res_rcopyBook:Tryz.f17.results=#[.cell 2 26]:=by kernel_rfl
structure CbI (w0 w:World) (pv bv:Value) (done:List Sv):Prop where
 par:BkAt w w0.heap.size pv
 out:BkAt w (w0.heap.size+1) (.slice none 0 0)
 cur:BkAt w (w0.heap.size+1+1) bv
 bk:BkV w (w0.heap.size+3) bv done
 aft:Below w0.heap.size w0 w
theorem CbI.next {w0 w w':World} {pv bv:Value} {done:List Sv} (h:CbI w0 w pv bv done) (hb:Below w.heap.size w w'):CbI w0 w' pv bv done :=
 ⟨h.par.over hb,h.out.over hb,h.cur.over hb,h.bk.next hb,h.aft.trans (hb.mono h.aft.size)⟩
theorem CbI.cur5 {w0 wa wb:World} {pv bv:Value} {done:List Sv} (h:CbI w0 wa pv bv done) (hg:wa.grownBy wb bv.ownBlock):BkAt wb (w0.heap.size+1+1) bv:=by
 unfold BkAt;rw [hg.block _ h.cur.lt (own_ne2 h.bk.1 (by omega))];exact h.cur
theorem CbI.push {w0 wa wb:World} {pv bv v':Value} {done:List Sv} {s:Sv} (h:CbI w0 wa pv bv done) (hs:RwV wa (w0.heap.size+3) s.rv s.rows) (ho:Own encSv 47 wb (w0.heap.size+3) v' (done++[s])) (hg:wa.grownBy wb bv.ownBlock) :
 CbI w0 (wb.setCell ⟨w0.heap.size+1+1,0,none⟩ v') pv v' (done++[s]):=by
 have h1:=h.bk.push hs ho hg
 have hpar:BkAt wb w0.heap.size pv:=by unfold BkAt;rw [hg.block _ h.par.lt (own_ne2 h.bk.1 (by omega))];exact h.par
 have hout:BkAt wb (w0.heap.size+1) (.slice none 0 0):=by unfold BkAt;rw [hg.block _ h.out.lt (own_ne2 h.bk.1 (by omega))];exact h.out
 refine ⟨hpar.other _ _ (by show w0.heap.size≠w0.heap.size+1+1;omega),hout.other _ _ (by show w0.heap.size+1≠w0.heap.size+1+1;omega),(h.cur5 hg).put v',h1.keep fun g h2 _=>heap_setCell_other wb _ g _ (by show g≠w0.heap.size+1+1;omega), ?_⟩
 exact (h.aft.grown hg h.aft.size fun g e=>by have:=(h.bk.1.lies e).1;omega).setCell (by show w0.heap.size≤w0.heap.size+1+1;omega) _
def Wide (shs:List Sv):Prop:=∀ s∈shs,∀ r∈s.rows,r.l≠[]
set_option maxRecDepth 100000 in
set_option maxHeartbeats 16000000 in
theorem rcopyBook_any (w:World) (A:Option Addr) (n cap:Nat) (shs:List Sv) (h:BkR w w.heap.size (.slice A n cap) shs) (hz:SzB shs) (hw:Wide shs) :
 Calls Tryz.prog 17 #[.agg #[.slice A n cap]] w fun e w'=>Below w.heap.size w w'∧∃ A' c' sv,e = .returned (.agg #[.slice A' n c'])∧pgs sv=pgs shs∧BkR w' w'.heap.size (.slice A' n c') sv:=by
 obtain ⟨w2,hw2,hb,hs1,hs2,hsz⟩:=two_books w (.slice A n cap) (.slice none 0 0)
 have hn:n≤1000000:=by have h1:=hz.1;have h2:=h.1.len.1;omega
 have HX:=Lib.hid h;have HZ:=Lib.hid hz;have HL:=Lib.hid h.1.len.1;have HWD:=Lib.hid hw
 have HB:=Lib.hid hb;have HS1:=Lib.hid hs1;have HS2:=Lib.hid hs2;have HSZ:=Lib.hid hsz
 clear h hz hb hs1 hs2 hsz hw
 go_enter Tryz.func17,Tryz.ntmps17
 go_upto_region 1 with (fail)
 clear hw2
 go_upto_region 2 with (fail)
 have HBA:=Lib.hid (below_bk w2 (.slice none 0 0))
 have HN:=Lib.hid (BkAt.new w2 (.slice none 0 0))
 have hq2:w2.heap.size=w.heap.size+1+1:=HSZ.out
 rw [hq2] at HN
 rw [hq2]
 have HI:=Lib.hid (show CbI w (w2.alloc (.cells #[.slice none 0 0] 26)) (.slice A n cap) (.slice none 0 0) [] from
  ⟨HS1.out.over HBA.out,HS2.out.over HBA.out,HN.out,BkV.nil _ _,HB.out.trans (HBA.out.mono HB.out.size)⟩)
 obtain ⟨w3,hw3⟩:∃ w3,w2.alloc (.cells #[.slice none 0 0] 26)=w3:=⟨_,rfl⟩
 rw [hw3] at HI HBA HN ⊢
 clear hw3
 go_upto_region 3 with (fail)
 go_loopw [4] (fun iv wr=>∃ (i:Nat) (tv:Value) (done:List Sv),i≤n∧iv = .int .i64 (i:Int)∧Hid (done.length=i)∧Hid (pgs done=(pgs shs).take i)∧Hid (CbI w wr (.slice A n cap) tv done))
  (fun iv _=>n - (intOf iv).toNat)
 case atStart=>exact ⟨0,_,[],Nat.zero_le _,rfl,Lib.hid rfl,Lib.hid rfl,HI⟩
 case round =>
  obtain ⟨i,tv,done,hi,rfl,HD,HM,HC⟩:=hrel
  have x0:=HC.out.par.cell
  by_cases hlt:i<n
  · have hii:(i:Int)<(n:Int):=by omega
    have hi0:(0:Int)≤(i:Int):=by omega
    obtain ⟨x,hx⟩:∃ x,shs[i]? = some x:=⟨_,List.getElem?_eq_getElem (by rw [HL.out];exact hlt)⟩
    obtain ⟨pb,po,rfl,hpb,e0,e1,e2,hrx⟩:=sh_at HX.out hx
    have hwr:w.heap.size≤wr.heap.size:=HC.out.aft.size
    have hln:w.heap.size+1+1<wr.heap.size:=HC.out.cur.lt
    have y0:wr.cell? ⟨pb,po+i*3,none⟩=some (.string x.nm):=(HC.out.aft.cell (p:=⟨pb,po+i*3,none⟩) hpb).trans e0
    have y1:wr.cell? ⟨pb,po+i*3+1,none⟩=some (.int .i64 x.cols):=(HC.out.aft.cell (p:=⟨pb,po+i*3+1,none⟩) hpb).trans e1
    have y2:wr.cell? ⟨pb,po+i*3+2,none⟩=some (.slice x.A x.rows.length x.cap):=(HC.out.aft.cell (p:=⟨pb,po+i*3+2,none⟩) hpb).trans e2
    have z0:=HC.out.cur.cell
    have HX1:=Lib.hid (show (pgs shs).take (i+1)=(pgs shs).take i++[x.p] from by unfold pgs;rw [List.take_add_one,List.getElem?_map,hx];rfl)
    have hbd:Below wr.heap.size wr wr.drew:=Below.drew (Below.refl wr.heap.size wr)
    have HBD:=Lib.hid hbd
    have HCS:=Lib.hid (rcopySheet_any wr.drew x (((hrx.below HC.out.aft (Nat.le_refl _)).mono hwr).lift hbd) (HZ.out.2 x (List.mem_of_getElem? hx)).1 (fun r hr=>⟨(HZ.out.2 x (List.mem_of_getElem? hx)).2 r hr,HWD.out x (List.mem_of_getElem? hx) r hr⟩))
    have HKEEP:=Lib.hid (fun (w':World) (hb:Below wr.heap.size wr w')=>(show w'.cell? ⟨w.heap.size+1+1,0,none⟩=some tv from (hb.cell (p:=⟨w.heap.size+1+1,0,none⟩) hln).trans z0))
    clear e0 e1 e2 hrx hx hbd
    go_upto_region 5 with (fail)
    go_region_law (first
     | (refine step_app_at Elem.sh encSv rfl (.tmp 13) (.tmp 20) rfl (w.heap.size+3) tv done ?_ HCA.out.bk.1 ⟨w4.heap.size,0,none⟩ 1 1 [⟨x.nm,x.cols,A4,c4,rvs⟩] ?_ rfl ?_ ?_ ?_ ?_ ?_;go_simp;go_simp;exact cells_new _ _ _ (by show [_,_,_]=[_,_,Value.slice A4 rvs.length c4];rw [HL4.out]);(rw [HD.out];omega);(rw [HD.out];unfold maxLen;omega);(rw [World.size_alloc];have:=HB4.out.size;omega);intro v5 w5 h1 h2 _;obtain ⟨A5,c5,hv5⟩:=own_sl h1;simp only [List.length_append,List.length_singleton,HD.out] at hv5;subst hv5;have HO5:=Lib.hid h1;have HG5:=Lib.hid h2;have m0:=(HCA.out.cur5 h2).melt;have v0:=(HCA.out.cur5 h2).cell;clear h1 h2)
     | (go_simp;go_at_call 32;((with_reducible refine HCS.out.mono ?_);rintro e w4 ⟨h1,A4,n4,c4,rvs,rfl,hm,hl,h2⟩;have HB4:=Lib.hid (HBD.out.trans (h1.mono HBD.out.size));have HM4:=Lib.hid hm;have HL4:=Lib.hid hl;have HRW4:=Lib.hid h2;have d3:=HKEEP.out w4 HB4.out;have d4:=HKEEP.out (w4.alloc (.cells #[.string x.nm,.int .i64 x.cols,.slice A4 n4 c4] 47)) (HB4.out.alloc HB4.out.size _);have HCA:=Lib.hid (HC.out.next (HB4.out.alloc HB4.out.size (.cells #[.string x.nm,.int .i64 x.cols,.slice A4 n4 c4] 47)));clear h1 hm hl h2;dsimp only)))
    all_goals
     have HRW5:=Lib.hid (show RwV (w4.alloc (.cells #[.string x.nm,.int .i64 x.cols,.slice A4 n4 c4] 47)) (w.heap.size+3) (Sv.rv ⟨x.nm,x.cols,A4,c4,rvs⟩) rvs from by
      have h1:=(HRW4.out.mono (show w.heap.size+3≤wr.heap.size by omega)).next ((Below.refl w4.heap.size w4).alloc (Nat.le_refl _) (.cells #[.string x.nm,.int .i64 x.cols,.slice A4 n4 c4] 47))
      show RwV _ _ (.slice A4 rvs.length c4) _
      rw [HL4.out];exact h1)
     have HMN:=Lib.hid (show pgs (done++[⟨x.nm,x.cols,A4,c4,rvs⟩])=(pgs shs).take (i+1) from by
      rw [HX1.out, ← HM.out]
      unfold pgs
      rw [List.map_append]
      have:Sv.p ⟨x.nm,x.cols,A4,c4,rvs⟩=x.p:=by unfold Sv.p;rw [HM4.out]
      rw [← this];rfl)
     clear m0 v0 d3 d4 x0 y0 y1 y2 z0
     go_wp2_with fail
     go_roundw
     case rel=>exact ⟨i+1,.slice A5 (i+1) c5,done++[⟨x.nm,x.cols,A4,c4,rvs⟩],by omega,by go_num,Lib.hid (by rw [List.length_append,HD.out];rfl),HMN,Lib.hid (HCA.out.push (s:=⟨x.nm,x.cols,A4,c4,rvs⟩) HRW5.out HO5.out HG5.out)⟩
     case measure=>simp [intOf];omega
  · have hii:¬ (i:Int)<(n:Int):=by omega
    have hin:i=n:=by omega
    subst hin
    have hm2:pgs done=pgs shs:=by
     rw [HM.out];exact List.take_of_length_le (by unfold pgs;rw [List.length_map,HL.out];exact Nat.le_refl _)
    have HM2:=Lib.hid hm2
    obtain ⟨A1,c1,htv⟩:=own_sl HC.out.bk.1
    rw [HD.out] at htv
    subst htv
    have z0:=HC.out.cur.cell
    have m0:=HC.out.out.melt
    have v0:=HC.out.out.cell
    clear hm2
    go_wp2_with fail
    refine bodyPost_ret (out_bk (HC.out.out.put (.slice A1 i c1)) _ _ 2 res_rcopyBook rfl) rfl ⟨HC.out.aft.setCell (by show w.heap.size≤w.heap.size+1;omega) _,A1,c1,rfl,done,HM2.out, ?_⟩
    have h1:=(HC.out.bk.keep (w':=wr.setCell ⟨w.heap.size+1,0,none⟩ (.slice A1 i c1)) fun g h1 _=>heap_setCell_other wr _ g _ (by show g≠w.heap.size+1;omega)).bkR
    exact h1
structure Rd where
 s:ByteArray
 k:Nat
 sh:ByteArray
 c:Int
 r:Int
 ac:Bool
 ar:Bool
def Rd.rest (d:Rd):List Int:=(sb d.s).drop d.k
def Rd.cells (d:Rd):Array Value:=#[.string d.s,.int .i64 (d.k:Int),.string d.sh,.int .i64 d.c,.int .i64 d.r,.bool d.ac,.bool d.ar]
def Rd.start (s:ByteArray):Rd:=⟨s,0,⟨#[]⟩,0,0,false,false⟩
def ne33 (x:Int):Bool:=decide (x≠33)
def isRow (l:List Int):Bool:=decide (l≠[]∧l.head? ≠ some 48∧valL l≤999)
def Rd.sheetP (d:Rd):List Int:=(sb d.s).takeWhile ne33
def Rd.sheet (d:Rd):Option Rd:=if d.sheetP.length=d.s.size then some d else if nameL d.sheetP=true then some { d with sh:=strOfNums d.sheetP,k:=d.sheetP.length+1 } else none
def Rd.mark (d:Rd):Bool:=decide (d.rest.head? = some 36)
def Rd.absCol (d:Rd):Option Rd:=some { d with ac:=d.mark,k:=d.k+(dol d.mark).length }
def Rd.absRow (d:Rd):Option Rd:=some { d with ar:=d.mark,k:=d.k+(dol d.mark).length }
def Rd.col (d:Rd):Option Rd:=if isCol (d.rest.takeWhile isCap)=true then some { d with c:=readColL (d.rest.takeWhile isCap),k:=d.k+(d.rest.takeWhile isCap).length } else none
def Rd.row (d:Rd):Option Rd:=if isRow (d.rest.takeWhile isNum)=true then some { d with r:=valL (d.rest.takeWhile isNum) - 1,k:=d.k+(d.rest.takeWhile isNum).length } else none
def Rd.fin (d:Rd):Option Rd:=if d.k=d.s.size then some d else none
theorem take_part (p:Int→Bool):∀ (a b:List Int),(∀ x∈a,p x=true)→(∀ x,b.head? = some x→p x=false)→(a++b).takeWhile p=a
 | [],[],_,_=>rfl
 | [],y :: b,_,h2=>by rw [List.nil_append,List.takeWhile_cons,h2 y rfl];rfl
 | x :: a,b,h,h2=>by
   rw [List.cons_append,List.takeWhile_cons,h x (by simp),if_pos rfl,take_part p a b (fun z hz=>h z (by simp [hz])) h2]
theorem take_more (p:Int→Bool):∀ (a b:List Int),(∀ x∈a,p x=true)→(a++b).takeWhile p=a++b.takeWhile p
 | [],b,_=>rfl
 | x :: a,b,h=>by
   rw [List.cons_append,List.takeWhile_cons,h x (by simp),if_pos rfl,take_more p a b (fun z hz=>h z (by simp [hz])),List.cons_append]
theorem take_all (p:Int→Bool):∀ (l:List Int),∀ x∈l.takeWhile p,p x=true
 | [],x,hx=>by simp at hx
 | y :: l,x,hx=>by
   rw [List.takeWhile_cons] at hx
   by_cases h:p y=true
   · rw [if_pos h] at hx
     rcases List.mem_cons.1 hx with rfl | hx
     · exact h
     · exact take_all p l x hx
   · rw [if_neg h] at hx;simp at hx
theorem take_split (p:Int→Bool):∀ (l:List Int),l.takeWhile p++l.drop (l.takeWhile p).length=l
 | []=>rfl
 | y :: l=>by
   rw [List.takeWhile_cons]
   by_cases h:p y=true
   · rw [if_pos h,List.length_cons,List.drop_succ_cons,List.cons_append,take_split p l]
   · rw [if_neg h];rfl
theorem take_head (p:Int→Bool):∀ (l:List Int) (x:Int),(l.drop (l.takeWhile p).length).head? = some x→p x=false
 | [],x,h=>by simp at h
 | y :: l,x,h=>by
   rw [List.takeWhile_cons] at h
   by_cases hy:p y=true
   · rw [if_pos hy,List.length_cons,List.drop_succ_cons] at h;exact take_head p l x h
   · rw [if_neg hy] at h;simp at h;subst h;simpa using hy
theorem digL_valL:∀ (n:Nat) (l:List Int),l.length=n→l≠[]→(∀ x∈l,isNum x=true)→l.head? ≠ some 48→1≤valL l∧digL (valL l).toNat=l:=by
 intro n
 induction n with
 | zero=>intro l h h2;exact absurd (List.eq_nil_of_length_eq_zero h) h2
 | succ n ih =>
   intro l hl hne hall hh
   obtain ⟨a,x,rfl⟩:∃ a x,l=a++[x]:=by
    rcases List.eq_nil_or_concat l with h | ⟨a,x,h⟩
    · exact absurd h hne
    · exact ⟨a,x,by rw [h,List.concat_eq_append]⟩
   have hx:=num_bd (hall x (by simp))
   rw [valL_snoc]
   by_cases ha:a=[]
   · subst ha
     have h48:x≠48:=by intro h;subst h;exact hh rfl
     have hv:valL []=0:=rfl
     rw [hv,digL_small _ (by omega)]
     refine ⟨by omega, ?_⟩
     rw [List.nil_append];congr 1;omega
   · have hlen:a.length=n:=by rw [List.length_append,List.length_singleton] at hl;omega
     have h0:a.head? ≠ some 48:=by
      cases a with
      | nil=>exact absurd rfl ha
      | cons y a=>simpa using hh
     obtain ⟨h1,h2⟩:=ih a hlen ha (fun z hz=>hall z (by simp [hz])) h0
     refine ⟨by omega, ?_⟩
     rw [digL_more _ (by omega),show (10*valL a+(x - 48)).toNat / 10=(valL a).toNat from by omega,h2]
     congr 2;omega
theorem valL_ge:∀ (b a:List Int),(∀ x∈b,isNum x=true)→0≤valL a→valL a≤valL (a++b)
 | [],a,_,_=>by rw [List.append_nil];exact Int.le_refl _
 | x :: b,a,h,h0=>by
   have hx:=num_bd (h x (by simp))
   have h1:=valL_snoc a x
   have h2:=valL_ge b (a++[x]) (fun z hz=>h z (by simp [hz])) (by omega)
   rw [List.append_assoc,List.singleton_append] at h2
   omega
theorem rest_add (d:Rd) (m:Nat):(sb d.s).drop (d.k+m)=d.rest.drop m:=by unfold Rd.rest;rw [List.drop_drop]
theorem mark_rest (d:Rd):d.rest=dol d.mark++d.rest.drop (dol d.mark).length:=by
 unfold Rd.mark
 cases h:d.rest with
 | nil=>rfl
 | cons x l =>
   by_cases hx:x=36
   · subst hx;simp [dol]
   · have:(x :: l).head? ≠ some 36:=by simpa using hx
     rw [decide_eq_false this];simp [dol]
def readS (s:ByteArray):Option Rd:=((((((Rd.start s).sheet.bind Rd.absCol).bind Rd.col).bind Rd.absRow).bind Rd.row).bind Rd.fin)
theorem nameL_size {l:List Int} (h:nameL l=true):l≠[]∧l.length≤12:=by
 unfold nameL at h;rw [Bool.and_eq_true,decide_eq_true_iff,decide_eq_true_iff] at h
 exact ⟨by intro h0;rw [h0] at h;simp at h,h.2.2⟩
theorem isRow_parts {l:List Int} (h:isRow l=true):l≠[]∧l.head? ≠ some 48∧valL l≤999:=by unfold isRow at h;rw [decide_eq_true_iff] at h;exact h
theorem read_some (s:ByteArray) (d:Rd) (h:readS s=some d):d.sh.size≤12∧mayL (sb d.sh) d.c d.r=true∧textL (sb d.sh) d.c d.r d.ac d.ar=sb s:=by
 unfold readS at h
 simp only [Option.bind_eq_some_iff] at h
 obtain ⟨d5,⟨d4,⟨d3,⟨d2,⟨d1,h1,h2⟩,h3⟩,h4⟩,h5⟩,h6⟩:=h
 -- the sheet
 have g1:d1.s=s∧sb s=(if sb d1.sh=[] then [] else sb d1.sh++[33])++d1.rest∧(sb d1.sh=[]∨nameL (sb d1.sh)=true)∧d1.sh.size≤12:=by
  unfold Rd.sheet at h1
  by_cases hc:(Rd.start s).sheetP.length=(Rd.start s).s.size
  · rw [if_pos hc] at h1
    injection h1 with h1;subst h1
    exact ⟨rfl,rfl,.inl rfl,by show (0:Nat)≤12;omega⟩
  · rw [if_neg hc] at h1
    by_cases hn:nameL (Rd.start s).sheetP=true
    · rw [if_pos hn] at h1
      injection h1 with h1;subst h1
      have hb:Bytes (Rd.start s).sheetP:=fun x hx=>sb_bd s x (by
       have:=take_split ne33 (sb s);rw [← this];exact List.mem_append_left _ hx)
      obtain ⟨q1,q2⟩:=nameL_size hn
      refine ⟨rfl, ?_,.inr (by show nameL (sb (strOfNums _))=true;rw [sb_str _ hb];exact hn),by show (strOfNums _).size≤12;rw [strOfNums_size];exact q2⟩
      show sb s=(if sb (strOfNums (Rd.start s).sheetP)=[] then [] else sb (strOfNums (Rd.start s).sheetP)++[33])++(sb s).drop ((Rd.start s).sheetP.length+1)
      rw [sb_str _ hb,if_neg q1]
      have e:=take_split ne33 (sb s)
      have hlt:(Rd.start s).sheetP.length<(sb s).length:=by
       have:=congrArg List.length e
       rw [List.length_append] at this
       have h3:(Rd.start s).sheetP.length≠s.size:=hc
       have h4:=length_sb s
       show ((sb s).takeWhile ne33).length<_
       have h5:(Rd.start s).sheetP=(sb s).takeWhile ne33:=rfl
       rw [h5] at h3
       omega
      have hh:=take_head ne33 (sb s)
      have h6:(sb s).drop (Rd.start s).sheetP.length=(sb s)[(Rd.start s).sheetP.length] :: (sb s).drop ((Rd.start s).sheetP.length+1):=List.drop_eq_getElem_cons hlt
      have h7:=hh ((sb s)[(Rd.start s).sheetP.length]) (by
       show ((sb s).drop (Rd.start s).sheetP.length).head? = _
       rw [h6];rfl)
      have h8:(sb s)[(Rd.start s).sheetP.length]=33:=by unfold ne33 at h7;simpa using h7
      rw [h8] at h6
      rw [List.append_assoc,List.singleton_append, ← h6]
      exact e.symm
    · rw [if_neg hn] at h1;cases h1
 obtain ⟨e1,t1,n1,z1⟩:=g1
 -- the mark ahead of the column
 have g2:d2.s=d1.s∧d2.sh=d1.sh∧d1.rest=dol d2.ac++d2.rest:=by
  unfold Rd.absCol at h2;injection h2 with h2;subst h2
  refine ⟨rfl,rfl, ?_⟩
  show d1.rest=dol d1.mark++(sb d1.s).drop (d1.k+(dol d1.mark).length)
  rw [rest_add];exact mark_rest d1
 obtain ⟨e2,f2,t2⟩:=g2
 have g3:d3.s=d2.s∧d3.sh=d2.sh∧d3.ac=d2.ac∧d2.rest=colL d3.c++d3.rest∧0≤d3.c∧d3.c≤701:=by
  unfold Rd.col at h3
  by_cases hc:isCol (d2.rest.takeWhile isCap)=true
  · rw [if_pos hc] at h3;injection h3 with h3;subst h3
    obtain ⟨q1,q2,q3⟩:=colL_readCol _ hc
    refine ⟨rfl,rfl,rfl, ?_,q2,q3⟩
    show d2.rest=colL (readColL (d2.rest.takeWhile isCap))++(sb d2.s).drop (d2.k+(d2.rest.takeWhile isCap).length)
    rw [q1,rest_add,take_split]
  · rw [if_neg hc] at h3;cases h3
 obtain ⟨e3,f3,a3,t3,c0,c1⟩:=g3
 have g4:d4.s=d3.s∧d4.sh=d3.sh∧d4.ac=d3.ac∧d4.c=d3.c∧d3.rest=dol d4.ar++d4.rest:=by
  unfold Rd.absRow at h4;injection h4 with h4;subst h4
  refine ⟨rfl,rfl,rfl,rfl, ?_⟩
  show d3.rest=dol d3.mark++(sb d3.s).drop (d3.k+(dol d3.mark).length)
  rw [rest_add];exact mark_rest d3
 obtain ⟨e4,f4,a4,b4,t4⟩:=g4
 have g5:d5.s=d4.s∧d5.sh=d4.sh∧d5.ac=d4.ac∧d5.c=d4.c∧d5.ar=d4.ar∧d4.rest=digL (d5.r+1).toNat++d5.rest∧0≤d5.r∧d5.r≤998:=by
  unfold Rd.row at h5
  by_cases hc:isRow (d4.rest.takeWhile isNum)=true
  · rw [if_pos hc] at h5;injection h5 with h5;subst h5
    obtain ⟨q1,q2,q3⟩:=isRow_parts hc
    obtain ⟨q4,q5⟩:=digL_valL _ _ rfl q1 (take_all isNum _) q2
    refine ⟨rfl,rfl,rfl,rfl,rfl, ?_,by show 0≤valL (d4.rest.takeWhile isNum) - 1;omega,by show valL (d4.rest.takeWhile isNum) - 1≤998;omega⟩
    show d4.rest=digL (valL (d4.rest.takeWhile isNum) - 1+1).toNat++(sb d4.s).drop (d4.k+(d4.rest.takeWhile isNum).length)
    rw [Int.sub_add_cancel,q5,rest_add,take_split]
  · rw [if_neg hc] at h5;cases h5
 obtain ⟨e5,f5,a5,b5,r5,t5,r0,r1⟩:=g5
 have g6:d=d5∧d5.rest=[]:=by
  unfold Rd.fin at h6
  by_cases hc:d5.k=d5.s.size
  · rw [if_pos hc] at h6;injection h6 with h6
    refine ⟨h6.symm, ?_⟩
    unfold Rd.rest;rw [hc, ← length_sb,List.drop_length]
  · rw [if_neg hc] at h6;cases h6
 obtain ⟨rfl,t6⟩:=g6
 have hsh:d.sh=d1.sh:=by rw [f5,f4,f3,f2]
 have hac:d.ac=d2.ac:=by rw [a5,a4,a3]
 have hc:d.c=d3.c:=by rw [b5,b4]
 have hm:mayL (sb d.sh) d.c d.r=true:=by
  unfold mayL
  rw [Bool.and_eq_true,Bool.or_eq_true,decide_eq_true_iff,decide_eq_true_iff,hsh,hc]
  exact ⟨n1,by omega,by omega,by omega,by omega⟩
 refine ⟨by rw [hsh];exact z1,hm, ?_⟩
 rw [textL_eq _ _ _ _ _ hm,t1,t2,t3,t4,t5,t6,hsh,hc,hac,r5,List.append_nil]
 rfl
def NoRef (l:List Int):Prop:=∀ sh c r ac ar,mayL sh c r=true→textL sh c r ac ar≠l
def Says (l:List Int) (e:Ending):Prop :=
 (∃ s c r ac ar,s.size≤12∧mayL (sb s) c r=true∧textL (sb s) c r ac ar=l∧e = .returned (.tuple #[.agg #[.string s,.int .i64 c,.int .i64 r,.bool ac,.bool ar],.bool true])) ∨
 (NoRef l∧e = .returned (.tuple #[.agg #[.string ⟨#[]⟩,.int .i64 0,.int .i64 0,.bool false,.bool false],.bool false]))
theorem mark_of (d:Rd) (b:Bool) (t:List Int) (h:d.rest=dol b++t) (ht:∀ x,t.head? = some x→x≠36):d.mark=b:=by
 unfold Rd.mark;rw [h]
 cases b with
 | true=>rfl
 | false =>
   rw [decide_eq_false_iff_not]
   intro hx;exact ht 36 hx rfl
theorem isRow_digL (r:Int) (h0:0≤r) (h1:r≤998):isRow (digL (r+1).toNat)=true:=by
 have hh:∀ (n u:Nat),u<n→1≤u→(digL u).head? ≠ some 48:=by
  intro n
  induction n with
  | zero=>intro u h;omega
  | succ n ih =>
    intro u hu h1
    by_cases h:u<10
    · rw [digL_small u h];simp;omega
    · rw [digL_more u h]
      have:=ih (u / 10) (by omega) (by omega)
      cases hd:digL (u / 10) with
      | nil=>exact absurd hd (digL_ne _)
      | cons y l=>rw [hd] at this;simpa using this
 unfold isRow;rw [decide_eq_true_iff]
 refine ⟨digL_ne _,hh _ _ (Nat.lt_succ_self _) (by omega), ?_⟩
 rw [valL_digL];omega
theorem read_none (s:ByteArray) (h:readS s=none):NoRef (sb s):=by
 intro sh c r ac ar hm e
 obtain ⟨c0,c1,r0,r1⟩:=mayL_nums hm
 rw [textL_eq _ _ _ _ _ hm] at e
 -- the sheet
 have g1:∃ d1,(Rd.start s).sheet=some d1∧d1.rest=tailL c r ac ar∧d1.s=s∧d1.k+d1.rest.length=s.size:=by
  by_cases hs:sh=[]
  · rw [if_pos hs,List.nil_append] at e
    have hp:(Rd.start s).sheetP=sb s:=by
     show (sb s).takeWhile ne33=sb s
     rw [← e, ← List.append_nil (tailL c r ac ar),take_part ne33 _ [] (fun x hx=>by unfold ne33;rw [decide_eq_true_iff];exact tail_no33 c r ac ar x hx) (fun x hx=>by simp at hx),List.append_nil]
    refine ⟨Rd.start s, ?_,e.symm,rfl,by show 0+(sb s).length=s.size;rw [length_sb];omega⟩
    unfold Rd.sheet;rw [hp,if_pos (show (sb s).length=(Rd.start s).s.size from length_sb s)]
  · rw [if_neg hs,List.append_assoc] at e
    have hn:=(mayL_sheet hm).resolve_left hs
    have hp:(Rd.start s).sheetP=sh:=by
     show (sb s).takeWhile ne33=sh
     rw [← e]
     exact take_part ne33 _ _ (fun x hx=>by unfold ne33;rw [decide_eq_true_iff];exact name_no33 _ hn x hx) (fun x hx=>by simp at hx;subst hx;rfl)
    have hlen:¬ sh.length=(Rd.start s).s.size:=by
     show ¬ sh.length=s.size
     rw [← length_sb, ← e];simp only [List.length_append,List.length_cons];omega
    refine ⟨{ Rd.start s with sh:=strOfNums sh,k:=sh.length+1 }, ?_, ?_,rfl, ?_⟩
    · unfold Rd.sheet;rw [hp,if_neg hlen,if_pos hn]
    · show (sb s).drop (sh.length+1)=_
      rw [← e, ← List.drop_drop,List.drop_left];rfl
    · show sh.length+1+((sb s).drop (sh.length+1)).length=s.size
      rw [List.length_drop, ← length_sb, ← e];simp only [List.length_append,List.length_cons];omega
 obtain ⟨d1,h1,t1,s1,k1⟩:=g1
 have no36:∀ x,isCap x=true→x≠36:=by intro x hx;have:=cap_bd hx;omega
 have no36n:∀ x,isNum x=true→x≠36:=by intro x hx;have:=num_bd hx;omega
 obtain ⟨d2,h2,t2,s2,k2⟩:∃ d2,d1.absCol=some d2∧d2.rest=colL c++(dol ar++digL (r+1).toNat)∧d2.s=s∧d2.k=d1.k+(dol ac).length:=by
  have hmk:=mark_of d1 ac (colL c++(dol ar++digL (r+1).toNat)) t1 (fun x hx=>no36 x (isCap_colL c x (head_append (colL_ne c c0 c1) hx)))
  refine ⟨_,rfl, ?_,s1,by show d1.k+(dol d1.mark).length=_;rw [hmk]⟩
  show (sb d1.s).drop (d1.k+(dol d1.mark).length)=_
  rw [rest_add,hmk,t1];unfold tailL;rw [List.drop_left]
 have hcap:∀ x,(dol ar++digL (r+1).toNat).head? = some x→isCap x=false:=by
  intro x hx
  cases ar with
  | true=>simp [dol] at hx;subst hx;decide
  | false =>
    have hx':(digL (r+1).toNat++[]).head? = some x:=by simpa [dol] using hx
    have:=num_bd (isNum_digL _ x (head_append (digL_ne _) hx'))
    exact isCap_f (by omega)
 obtain ⟨d3,h3,t3,s3,k3⟩:∃ d3,d2.col=some d3∧d3.rest=dol ar++digL (r+1).toNat∧d3.s=s∧d3.k=d2.k+(colL c).length:=by
  have hp:d2.rest.takeWhile isCap=colL c:=by rw [t2];exact take_part isCap _ _ (isCap_colL c) hcap
  refine ⟨{ d2 with c:=readColL (d2.rest.takeWhile isCap),k:=d2.k+(d2.rest.takeWhile isCap).length }, ?_, ?_,s2,by show d2.k+(d2.rest.takeWhile isCap).length=_;rw [hp]⟩
  · unfold Rd.col;rw [if_pos (by rw [hp];exact (readCol_colL c c0 c1).1)]
  · show (sb d2.s).drop (d2.k+(d2.rest.takeWhile isCap).length)=_
    rw [rest_add,hp,t2,List.drop_left]
 obtain ⟨d4,h4,t4,s4,k4⟩:∃ d4,d3.absRow=some d4∧d4.rest=digL (r+1).toNat∧d4.s=s∧d4.k=d3.k+(dol ar).length:=by
  have hmk:=mark_of d3 ar (digL (r+1).toNat) t3 (fun x hx=>no36n x (isNum_digL _ x (head_append (b:=[]) (digL_ne _) (by rw [List.append_nil];exact hx))))
  refine ⟨_,rfl, ?_,s3,by show d3.k+(dol d3.mark).length=_;rw [hmk]⟩
  show (sb d3.s).drop (d3.k+(dol d3.mark).length)=_
  rw [rest_add,hmk,t3,List.drop_left]
 obtain ⟨d5,h5,s5,k5⟩:∃ d5,d4.row=some d5∧d5.s=s∧d5.k=d4.k+(digL (r+1).toNat).length:=by
  have hp:d4.rest.takeWhile isNum=digL (r+1).toNat:=by
   rw [t4]
   have:=take_part isNum (digL (r+1).toNat) [] (isNum_digL _) (fun x hx=>by simp at hx)
   rw [List.append_nil] at this;exact this
  refine ⟨{ d4 with r:=valL (d4.rest.takeWhile isNum) - 1,k:=d4.k+(d4.rest.takeWhile isNum).length }, ?_,s4,by show d4.k+(d4.rest.takeWhile isNum).length=_;rw [hp]⟩
  unfold Rd.row;rw [if_pos (by rw [hp];exact isRow_digL r r0 r1)]
 have h6:d5.fin=none:=by
  unfold readS at h;rw [h1] at h;simp only [Option.bind_some] at h;rw [h2] at h;simp only [Option.bind_some] at h;rw [h3] at h;simp only [Option.bind_some] at h;rw [h4] at h;simp only [Option.bind_some] at h;rw [h5] at h;exact h
 unfold Rd.fin at h6
 have hk:d5.k=d5.s.size:=by
  rw [s5]
  rw [t1] at k1
  unfold tailL at k1
  simp only [List.length_append] at k1
  omega
 rw [if_pos hk] at h6;cases h6
theorem bytes_colL (c:Int):Bytes (colL c):=by
 intro x hx;have:=cap_bd (isCap_colL c x hx);omega
theorem bytes_digL (u:Nat):Bytes (digL u):=by
 intro x hx;have:=num_bd (isNum_digL u x hx);omega
theorem bytes_dol (b:Bool):Bytes (dol b):=by
 intro x hx;have:=dol_all b x hx;rw [decide_eq_true_iff] at this;omega
theorem bytes_textL (s:ByteArray) (c r:Int) (ac ar:Bool):Bytes (textL (sb s) c r ac ar):=by
 by_cases h:mayL (sb s) c r=true
 · rw [textL_eq _ _ _ _ _ h]
   unfold tailL
   refine Bytes.append ?_ ((bytes_dol ac).append ((bytes_colL c).append ((bytes_dol ar).append (bytes_digL _))))
   split
   · exact Bytes.nil
   · exact Bytes.append (sb_bd s) (by intro x hx;simp at hx;omega)
 · unfold textL;rw [if_neg h];exact Bytes.nil
theorem sb_inj {a b:ByteArray} (h:sb a=sb b):a=b:=by rw [← str_sb a, ← str_sb b,h]
theorem Says.text {s:ByteArray} {c r:Int} {ac ar:Bool} {e:Ending} (hm:mayL (sb s) c r=true) (h:Says (sb (strOfNums (textL (sb s) c r ac ar))) e):e = .returned (.tuple #[.agg #[.string s,.int .i64 c,.int .i64 r,.bool ac,.bool ar],.bool true]):=by
 rw [sb_str _ (bytes_textL s c r ac ar)] at h
 rcases h with ⟨s',c',r',ac',ar',_,h2,h3,h4⟩ | ⟨h1,_⟩
 · obtain ⟨e1,e2,e3,e4,e5⟩:=textL_inj h2 hm h3
   rw [h4,sb_inj e1,e2,e3,e4,e5]
 · exact absurd rfl (h1 _ _ _ _ _ hm)
set_option maxHeartbeats 400000 in
theorem isCapital_any (c:Int) (_h0:0≤c) (_h1:c≤255) (w:World) :
 Calls Tryz.prog 98 #[.int .u8 c] w fun e w'=>e = .returned (.bool (isCap c))∧w=w':=by
 go_enter Tryz.func98,Tryz.ntmps98
 go_wp2
 all_goals go_ret
 all_goals exact ⟨ret_bool (by unfold isCap;first | rfl | (symm;rw [decide_eq_true_iff];omega) | (symm;rw [decide_eq_false_iff_not];omega) | (rw [decide_eq_decide];omega)),rfl⟩
set_option maxHeartbeats 400000 in
theorem isDigit_any (c:Int) (_h0:0≤c) (_h1:c≤255) (w:World) :
 Calls Tryz.prog 71 #[.int .u8 c] w fun e w'=>e = .returned (.bool (isNum c))∧w=w':=by
 go_enter Tryz.func71,Tryz.ntmps71
 go_wp2
 all_goals go_ret
 all_goals exact ⟨ret_bool (by unfold isNum;first | rfl | (symm;rw [decide_eq_true_iff];omega) | (symm;rw [decide_eq_false_iff_not];omega) | (rw [decide_eq_decide];omega)),rfl⟩
theorem isLet_cap {c:Int} (h:isCap c=true):isLet c=true:=by unfold isCap at h;unfold isLet;rw [decide_eq_true_iff] at h ⊢;omega
theorem isLet_nocap {c:Int} (h:isCap c=false):isLet c=decide (97≤c∧c≤122):=by unfold isCap at h;unfold isLet;rw [decide_eq_false_iff_not] at h;rw [decide_eq_decide];omega
set_option maxHeartbeats 400000 in
theorem isLetter_any (c:Int) (_h0:0≤c) (_h1:c≤255) (w:World) :
 Calls Tryz.prog 70 #[.int .u8 c] w fun e w'=>e = .returned (.bool (isLet c))∧w=w':=by
 by_cases hc:isCap c=true
 · have hl:=isLet_cap hc
   have HL:=Lib.hid hl;clear hl
   go_enter Tryz.func70,Tryz.ntmps70
   go_wp2_with (go_at_call 98;((with_reducible refine (isCapital_any _ ?_ ?_ _).mono ?_);(first | omega | skip);(first | omega | skip);rintro e w' ⟨rfl,rfl⟩))
   all_goals go_ret
   all_goals exact ⟨ret_bool (by rw [HL.out]),rfl⟩
 · have hc':isCap c=false:=by simpa using hc
   have hl:=isLet_nocap hc'
   have HL:=Lib.hid hl;clear hl hc
   go_enter Tryz.func70,Tryz.ntmps70
   go_wp2_with (go_at_call 98;((with_reducible refine (isCapital_any _ ?_ ?_ _).mono ?_);(first | omega | skip);(first | omega | skip);rintro e w' ⟨rfl,rfl⟩))
   all_goals go_ret
   all_goals exact ⟨ret_bool (by rw [HL.out];first | rfl | (symm;rw [decide_eq_true_iff];omega) | (symm;rw [decide_eq_false_iff_not];omega) | (rw [decide_eq_decide];omega)),rfl⟩
theorem nameL_nil (s:ByteArray) (h:s.size=0):nameL (sb s)=false:=by
 unfold nameL;rw [length_sb,h,Bool.and_eq_false_iff];right;rfl
theorem nameL_long (s:ByteArray) (h:12<s.size):nameL (sb s)=false:=by
 unfold nameL;rw [length_sb,Bool.and_eq_false_iff];right;rw [decide_eq_false_iff_not];omega
set_option maxRecDepth 100000 in
set_option maxHeartbeats 400000 in
theorem name_any (s:ByteArray) (w:World) (_hs:s.size≤1000000) :
 Calls Tryz.prog 47 #[.string s] w fun e w'=>e = .returned (.bool (nameL (sb s)))∧w=w':=by
 by_cases h0:s.size=0
 · have hz:=sb_nil s h0
   have hno:=nameL_nil s h0
   have HNO:=Lib.hid hno;clear hno
   subst hz
   clear h0 _hs
   go_enter Tryz.func47,Tryz.ntmps47
   go_wp2_with fail
   all_goals go_ret
   all_goals exact ⟨ret_bool HNO.out.symm,rfl⟩
 · have hne := text_ne0 s h0
   have hne2:s.toList.isEmpty=false:=by cases hq:s.toList with | nil=>exact absurd hq hne | cons a l=>rfl
   by_cases h12:12<s.size
   · have hno:=nameL_long s h12
     have HNO:=Lib.hid hno;clear hno
     have hi12:(12:Int)<(s.size:Int):=by omega
     clear h0
     go_enter Tryz.func47,Tryz.ntmps47
     go_wp2_with fail
     all_goals go_ret
     all_goals exact ⟨ret_bool HNO.out.symm,rfl⟩
   · have hi12 : ¬ (12:Int)<(s.size:Int):=by omega
     have hp0:0<s.size:=by omega
     obtain ⟨a,ha⟩:∃ a:Int,(s[0].toNat:Int)=a:=⟨_,rfl⟩
     have ha1:0≤a∧a≤255:=by have:=s[0].toNat_lt;omega
     have hga:(sb s).getD 0 0=a:=by rw [sb_getD s 0 hp0,ha]
     have HGA:=Lib.hid hga;clear hga
     by_cases hl:isLet a=true
     · have hin : ∀ j,j<1→inName j ((sb s).getD j 0)=true:=by
        intro j hj;have:j=0:=by omega
        subst this;rw [HGA.out];unfold inName;rw [hl];rfl
       have HIN:=Lib.hid hin;clear hin
       clear h0
       go_enter Tryz.func47,Tryz.ntmps47
       go_wp2_with (go_at_call 70;((with_reducible refine (isLetter_any _ ?_ ?_ _).mono ?_);(first | omega | skip);(first | omega | skip);rintro e w' ⟨rfl,rfl⟩))
       clear hl
       go_loopw [3] (fun i wr=>∃ k:Nat,1≤k∧k≤s.size∧i = .int .i64 k∧Hid (∀ j,j<k→inName j ((sb s).getD j 0)=true)∧w=wr)
        (fun i _=>s.size - (intOf i).toNat)
       case atStart=>exact ⟨1,by omega,by omega,rfl,HIN,rfl⟩
       case round =>
        obtain ⟨k,hk1,hk,rfl,HG,rfl⟩:=hrel
        by_cases hlt:k<s.size
        · have hki:(k:Int)<(s.size:Int):=by omega
          obtain ⟨b,hb⟩:∃ b:Int,(s[k].toNat:Int)=b:=⟨_,rfl⟩
          have hb1:0≤b∧b≤255:=by have:=s[k].toNat_lt;omega
          have hgb:(sb s).getD k 0=b:=by rw [sb_getD s k hlt,hb]
          have HGB:=Lib.hid hgb;clear hgb
          by_cases hl:isLet b=true
          · go_wp2_with (first
             | (go_at_call 70;((with_reducible refine (isLetter_any _ ?_ ?_ _).mono ?_);(first | omega | skip);(first | omega | skip);rintro e w' ⟨rfl,rfl⟩)))
            go_roundw
            case rel =>
             refine ⟨k+1,by omega,by omega,by go_num,Lib.hid ?_,by trivial⟩
             intro j hj
             by_cases h1:j<k
             · exact HG.out j h1
             · rw [show j=k from by omega,HGB.out];unfold inName;rw [hl,Bool.true_or]
            case measure=>simp [intOf];omega
          · have hl':isLet b=false:=by simpa using hl
            clear hl
            by_cases hn:isNum b=true
            · go_wp2_with (first
               | (go_at_call 70;((with_reducible refine (isLetter_any _ ?_ ?_ _).mono ?_);(first | omega | skip);(first | omega | skip);rintro e w' ⟨rfl,rfl⟩))
               | (go_at_call 71;((with_reducible refine (isDigit_any _ ?_ ?_ _).mono ?_);(first | omega | skip);(first | omega | skip);rintro e w' ⟨rfl,rfl⟩)))
              go_roundw
              case rel =>
               refine ⟨k+1,by omega,by omega,by go_num,Lib.hid ?_,by trivial⟩
               intro j hj
               by_cases h1:j<k
               · exact HG.out j h1
               · rw [show j=k from by omega,HGB.out];unfold inName;rw [hl',hn,decide_eq_true (by omega:0<k)];rfl
              case measure=>simp [intOf];omega
            · have hn':isNum b=false:=by simpa using hn
              clear hn
              have hno:=nameL_bad s k hlt (by rw [HGB.out];unfold inName;rw [hl',hn',Bool.and_false];rfl)
              have HNO:=Lib.hid hno;clear hno
              go_wp2_with (first
               | (go_at_call 70;((with_reducible refine (isLetter_any _ ?_ ?_ _).mono ?_);(first | omega | skip);(first | omega | skip);rintro e w' ⟨rfl,rfl⟩))
               | (go_at_call 71;((with_reducible refine (isDigit_any _ ?_ ?_ _).mono ?_);(first | omega | skip);(first | omega | skip);rintro e w' ⟨rfl,rfl⟩)))
              all_goals go_ret
              all_goals exact ⟨ret_bool HNO.out.symm,rfl⟩
        · have hki:¬ (k:Int)<(s.size:Int):=by omega
          have hno:=nameL_all s (fun j hj=>HG.out j (by omega))
          rw [decide_eq_true (by omega)] at hno
          have HNO:=Lib.hid hno;clear hno
          go_wp2_with fail
          all_goals go_ret
          all_goals exact ⟨ret_bool HNO.out.symm,rfl⟩
     · have hl':isLet a=false:=by simpa using hl
       have hno:=nameL_bad s 0 hp0 (by rw [HGA.out];unfold inName;rw [hl'];rfl)
       have HNO:=Lib.hid hno;clear hno hl h0
       go_enter Tryz.func47,Tryz.ntmps47
       go_wp2_with (go_at_call 70;((with_reducible refine (isLetter_any _ ?_ ?_ _).mono ?_);(first | omega | skip);(first | omega | skip);rintro e w' ⟨rfl,rfl⟩))
       all_goals go_ret
       all_goals exact ⟨ret_bool HNO.out.symm,rfl⟩
theorem enc_one:∀ m:Nat,m<26→Utf8.encode (65+(m:Int))=strOfNums [65+(m:Int)]:=by decide +kernel
theorem enc_cap (x:Int) (h0:65≤x) (h1:x≤90):Utf8.encode x=strOfNums [x]:=by
 have:=enc_one (x - 65).toNat (by omega)
 rw [show (65:Int)+((x - 65).toNat:Int)=x from by omega] at this;exact this
theorem str_app (a b:List Int) (A B:ByteArray) (h:A=strOfNums a) (k:B=strOfNums b):A++B=strOfNums (a++b):=by rw [h,k,str_append]
def RdAt (w:World) (b:Nat) (d:Rd):Prop:=w.heap[b]? = some (.cells d.cells 224)
theorem RdAt.lt {w:World} {b:Nat} {d:Rd} (h:RdAt w b d):b<w.heap.size:=(Array.getElem?_eq_some_iff.1 h).1
theorem RdAt.drewN {w:World} {b:Nat} {d:Rd} (h:RdAt w b d) (n:Nat):RdAt (w.drewN n) b d:=h
theorem RdAt.below {w w':World} {B b:Nat} {d:Rd} (h:RdAt w b d) (hb:Below B w w') (hB:b<B):RdAt w' b d:=by unfold RdAt;rw [hb.block b hB];exact h
theorem RdAt.facts {w:World} {b:Nat} {d:Rd} (h:RdAt w b d) :
 w.cell? ⟨b,0,none⟩=some (.string d.s)∧w.cell? ⟨b,1,none⟩=some (.int .i64 d.k)∧w.cell? ⟨b,2,none⟩=some (.string d.sh)∧w.cell? ⟨b,3,none⟩=some (.int .i64 d.c)∧w.cell? ⟨b,4,none⟩=some (.int .i64 d.r)∧w.cell? ⟨b,5,none⟩=some (.bool d.ac)∧w.cell? ⟨b,6,none⟩=some (.bool d.ar) :=
 ⟨by rw [cell_of_row w b 0 _ _ _ h];rfl,by rw [cell_of_row w b 1 _ _ _ h];rfl,by rw [cell_of_row w b 2 _ _ _ h];rfl,by rw [cell_of_row w b 3 _ _ _ h];rfl,by rw [cell_of_row w b 4 _ _ _ h];rfl,by rw [cell_of_row w b 5 _ _ _ h];rfl,by rw [cell_of_row w b 6 _ _ _ h];rfl⟩
theorem RdAt.frozen {w:World} {b:Nat} {d:Rd} (h:RdAt w b d) (j:Nat):w.frozen? ⟨b,j,none⟩=false:=frozen_of_row w b j _ _ h
theorem RdAt.setK {w:World} {b:Nat} {d:Rd} (h:RdAt w b d) (k:Nat):RdAt (w.setCell ⟨b,1,none⟩ (.int .i64 (k:Int))) b { d with k:=k }:=by unfold RdAt;rw [heap_setCell_same w b 1 _ _ _ h];rfl
theorem RdAt.setSh {w:World} {b:Nat} {d:Rd} (h:RdAt w b d) (s:ByteArray):RdAt (w.setCell ⟨b,2,none⟩ (.string s)) b { d with sh:=s }:=by unfold RdAt;rw [heap_setCell_same w b 2 _ _ _ h];rfl
theorem RdAt.setC {w:World} {b:Nat} {d:Rd} (h:RdAt w b d) (c:Int):RdAt (w.setCell ⟨b,3,none⟩ (.int .i64 c)) b { d with c:=c }:=by unfold RdAt;rw [heap_setCell_same w b 3 _ _ _ h];rfl
theorem RdAt.setR {w:World} {b:Nat} {d:Rd} (h:RdAt w b d) (c:Int):RdAt (w.setCell ⟨b,4,none⟩ (.int .i64 c)) b { d with r:=c }:=by unfold RdAt;rw [heap_setCell_same w b 4 _ _ _ h];rfl
theorem RdAt.setAc {w:World} {b:Nat} {d:Rd} (h:RdAt w b d) (x:Bool):RdAt (w.setCell ⟨b,5,none⟩ (.bool x)) b { d with ac:=x }:=by unfold RdAt;rw [heap_setCell_same w b 5 _ _ _ h];rfl
theorem RdAt.setAr {w:World} {b:Nat} {d:Rd} (h:RdAt w b d) (x:Bool):RdAt (w.setCell ⟨b,6,none⟩ (.bool x)) b { d with ar:=x }:=by unfold RdAt;rw [heap_setCell_same w b 6 _ _ _ h];rfl
def Part (o:Option Rd) (b:Nat) (w:World) (e:Ending) (w':World):Prop :=
 w.grownBy w' (some b)∧((∃ d',o=some d'∧e = .returned (.bool true)∧RdAt w' b d')∨(o=none∧e = .returned (.bool false)))
set_option maxHeartbeats 400000 in
theorem fin_any (b:Nat) (d:Rd) (w:World) (h:RdAt w b d) (_hs:d.s.size≤1000000) (_hk:d.k≤d.s.size) :
 Calls Tryz.prog 215 #[.pointer (some ⟨b,0,none⟩)] w (Part d.fin b w):=by
 obtain ⟨c0,c1,c2,c3,c4,c5,c6⟩:=h.facts
 clear c2 c3 c4 c5 c6
 have HR:=Lib.hid h;clear h
 by_cases hk:d.k=d.s.size
 · have hf:d.fin=some d:=by unfold Rd.fin;rw [if_pos hk]
   have HF:=Lib.hid hf;clear hf
   have hi:((d.k:Int) == (d.s.size:Int))=true:=beq_iff_eq.2 (by omega)
   go_enter Tryz.func215,Tryz.ntmps215
   go_wp2_with fail
   go_quiet (fail)
   go_wp2_with fail
   go_ret
   exact ⟨grownBy.drewN' (grownBy.refl' _ _) _,.inl ⟨d,HF.out,by simp,HR.out.drewN _⟩⟩
 · have hf:d.fin=none:=by unfold Rd.fin;rw [if_neg hk]
   have HF:=Lib.hid hf;clear hf
   have hi:((d.k:Int) == (d.s.size:Int))=false:=beq_eq_false_iff_ne.2 (by omega)
   go_enter Tryz.func215,Tryz.ntmps215
   go_wp2_with fail
   go_quiet (fail)
   go_wp2_with fail
   go_ret
   exact ⟨grownBy.drewN' (grownBy.refl' _ _) _,.inr ⟨HF.out,by simp⟩⟩
theorem rest_get (d:Rd) (h:d.k<d.s.size):d.rest.head? = some ((d.s[d.k].toNat:Nat):Int):=by
 unfold Rd.rest;rw [List.head?_drop,sb_at d.s d.k h]
theorem rest_end (d:Rd) (h:d.s.size≤d.k):d.rest=[]:=by
 unfold Rd.rest;rw [List.drop_eq_nil_iff,length_sb];exact h
set_option maxRecDepth 100000 in
set_option maxHeartbeats 400000 in
theorem mark_any (b:Nat) (d:Rd) (w:World) (h:RdAt w b d) (_hs:d.s.size≤1000000) (_hk:d.k≤d.s.size) :
 Calls Tryz.prog 222 #[.pointer (some ⟨b,0,none⟩)] w fun e w'=>e = .returned (.bool d.mark)∧RdAt w' b { d with k:=d.k+(dol d.mark).length }∧w.grownBy w' (some b):=by
 obtain ⟨c0,c1,c2,c3,c4,c5,c6⟩:=h.facts
 clear c2 c3 c4 c5 c6
 have f1:=h.frozen 1
 have HR:=Lib.hid h;clear h
 by_cases hk:d.k=d.s.size
 · have hf:d.mark=false:=by unfold Rd.mark;rw [rest_end d (by omega)];rfl
   have HF:=Lib.hid hf;clear hf
   have hi:((d.k:Int) == (d.s.size:Int))=true:=beq_iff_eq.2 (by omega)
   go_enter Tryz.func222,Tryz.ntmps222
   go_wp2_with fail
   go_quiet (fail)
   go_wp2_with fail
   go_ret
   rw [HF.out]
   exact ⟨rfl,HR.out.drewN _,grownBy.drewN' (grownBy.refl' _ _) _⟩
 · have hi:((d.k:Int) == (d.s.size:Int))=false:=beq_eq_false_iff_ne.2 (by omega)
   have hlt:d.k<d.s.size:=by omega
   have hki:(d.k:Int)<(d.s.size:Int):=by omega
   obtain ⟨a,ha⟩:∃ a:Int,(d.s[d.k].toNat:Int)=a:=⟨_,rfl⟩
   have ha1:0≤a∧a≤255:=by have:=d.s[d.k].toNat_lt;omega
   have hh:=rest_get d hlt
   rw [ha] at hh
   by_cases h36:a=36
   · have hf:d.mark=true:=by unfold Rd.mark;rw [hh,h36];rfl
     have HF:=Lib.hid hf;clear hf hh
     have hj:(a == 36)=true:=beq_iff_eq.2 h36
     have hj2:(a != 36)=false:=by rw [bne,hj];rfl
     clear h36
     go_enter Tryz.func222,Tryz.ntmps222
     go_wp2_with fail
     go_quiet (fail)
     go_wp2_with fail
     go_ret
     rw [HF.out]
     exact ⟨rfl,(HR.out.drewN _).setK (d.k+1),grownBy.setCell' (grownBy.drewN' (grownBy.refl' _ _) _) _ _⟩
   · have hf:d.mark=false:=by unfold Rd.mark;rw [hh,decide_eq_false_iff_not];intro h;injection h with h;exact h36 h
     have HF:=Lib.hid hf;clear hf hh
     have hj:(a == 36)=false:=beq_eq_false_iff_ne.2 h36
     have hj2:(a != 36)=true:=by rw [bne,hj];rfl
     clear h36
     go_enter Tryz.func222,Tryz.ntmps222
     go_wp2_with fail
     go_quiet (fail)
     go_wp2_with fail
     go_ret
     rw [HF.out]
     exact ⟨rfl,HR.out.drewN _,grownBy.drewN' (grownBy.refl' _ _) _⟩
set_option maxHeartbeats 400000 in
theorem absCol_any (b:Nat) (d:Rd) (w:World) (h:RdAt w b d) (_hs:d.s.size≤1000000) (_hk:d.k≤d.s.size) :
 Calls Tryz.prog 211 #[.pointer (some ⟨b,0,none⟩)] w (Part d.absCol b w):=by
 have HR:=Lib.hid h;clear h
 go_enter Tryz.func211,Tryz.ntmps211
 go_wp2_with (go_at_call 222;((with_reducible refine (mark_any b d _ HR.out ?_ ?_).mono ?_);(first | omega | skip);(first | omega | skip);rintro e w1 ⟨rfl,h1,h2⟩;obtain ⟨c0,c1,c2,c3,c4,c5,c6⟩:=h1.facts;have f5:=h1.frozen 5;have H1:=Lib.hid h1;clear h1;have H2:=Lib.hid h2;clear h2))
 go_ret
 exact ⟨grownBy.setCell' H2.out _ _,.inl ⟨_,rfl,rfl,H1.out.setAc _⟩⟩
set_option maxHeartbeats 400000 in
theorem absRow_any (b:Nat) (d:Rd) (w:World) (h:RdAt w b d) (_hs:d.s.size≤1000000) (_hk:d.k≤d.s.size) :
 Calls Tryz.prog 213 #[.pointer (some ⟨b,0,none⟩)] w (Part d.absRow b w):=by
 have HR:=Lib.hid h;clear h
 go_enter Tryz.func213,Tryz.ntmps213
 go_wp2_with (go_at_call 222;((with_reducible refine (mark_any b d _ HR.out ?_ ?_).mono ?_);(first | omega | skip);(first | omega | skip);rintro e w1 ⟨rfl,h1,h2⟩;obtain ⟨c0,c1,c2,c3,c4,c5,c6⟩:=h1.facts;have f6:=h1.frozen 6;have H1:=Lib.hid h1;clear h1;have H2:=Lib.hid h2;clear h2))
 go_ret
 exact ⟨grownBy.setCell' H2.out _ _,.inl ⟨_,rfl,rfl,H1.out.setAr _⟩⟩
end Go.Proofs.YtdphoaabaajonaaGreatDoor
namespace Go.Proofs.YtdphoaabaajonaaGreatDoor
open Go.RowKit
theorem quiet_call {f:FuncId} {args:Array Value} {w:World} {n:Nat} {v:Value} (h:Calls Tryz.prog f args (w.drewN n) fun e w'=>e = .returned v∧w.drewN n=w'):Calls Tryz.prog f args (w.drewN n) fun e w''=>e = .returned v∧∃ m,w''=w.drewN m :=
 Calls.quiet_of_same (h.mono fun _ _ ⟨a,b⟩=>⟨a,b.symm⟩)
theorem RdAt.setNext {w:World} {b m p:Nat} {d:Rd} (h:RdAt w b { d with k:=d.k+m }) (hp:d.k+m=p) (n:Nat):RdAt ((w.drewN n).setCell ⟨b,1,none⟩ (.int .i64 ((p:Int)+1))) b { d with k:=d.k+(m+1) }:=by
 subst hp;exact (h.drewN n).setK (d.k+m+1)
theorem take_next (d:Rd) (m:Nat) (h:d.k+m<d.s.size):d.rest.take (m+1)=d.rest.take m++[((d.s[d.k+m].toNat:Nat):Int)]:=by
 unfold Rd.rest;rw [List.take_add_one,List.getElem?_drop,sb_at d.s _ h];rfl
theorem length_rest (d:Rd):d.rest.length=d.s.size - d.k:=by unfold Rd.rest;rw [List.length_drop,length_sb]
theorem span_stop (p:Int→Bool) (l:List Int) (m:Nat) (h:∀ x∈l.take m,p x=true) (h2:∀ x,l[m]? = some x→p x=false):l.takeWhile p=l.take m:=by
 have e:=take_part p (l.take m) (l.drop m) h (fun x hx=>h2 x (by rw [List.head?_drop] at hx;exact hx))
 rw [List.take_append_drop] at e;exact e
theorem span_over (p:Int→Bool) (l:List Int) (m:Nat) (h:∀ x∈l.take m,p x=true):l.takeWhile p=l.take m++(l.drop m).takeWhile p:=by
 have e:=take_more p (l.take m) (l.drop m) h
 rw [List.take_append_drop] at e;exact e
theorem all_snoc {p:Int→Bool} {l:List Int} {x:Int} (h:∀ y∈l,p y=true) (hx:p x=true):∀ y∈l++[x],p y=true:=by
 intro y hy;rw [List.mem_append] at hy
 rcases hy with hy | hy
 · exact h y hy
 · simp at hy;rw [hy];exact hx
def colV (l:List Int):Int:=l.foldl (fun n x=>26*n+(x - 64)) 0
theorem colV_snoc (l:List Int) (x:Int):colV (l++[x])=26*colV l+(x - 64):=by unfold colV;rw [List.foldl_append];rfl
theorem col_small (l:List Int) (h:∀ x∈l,isCap x=true) (hl:l.length≤2):colV l≤702∧(l=[]∧colV l=0∧isCol l=false∨0<colV l∧isCol l=true∧readColL l=colV l - 1):=by
 match l,hl,h with
 | [],_,_=>exact ⟨by decide,.inl ⟨rfl,rfl,rfl⟩⟩
 | [a],_,h =>
   have ha:=h a (by simp)
   have:=cap_bd ha
   have hv:colV [a]=a - 64:=by unfold colV;simp
   have hi:isCol [a]=true:=by unfold isCol;simp [ha]
   refine ⟨by omega,.inr ⟨by omega,hi, ?_⟩⟩
   unfold readColL;rw [if_pos hi,hv];simp;omega
 | [a,b],_,h =>
   have ha:=h a (by simp)
   have hb:=h b (by simp)
   have g1:=cap_bd ha
   have g2:=cap_bd hb
   have hv:colV [a,b]=26*(a - 64)+(b - 64):=by unfold colV;simp
   have hi:isCol [a,b]=true:=by unfold isCol;simp [ha,hb]
   refine ⟨by omega,.inr ⟨by omega,hi, ?_⟩⟩
   unfold readColL;rw [if_pos hi,hv];simp;omega
theorem isCol_long {l:List Int} (h:2<l.length):isCol l=false:=by unfold isCol;rw [decide_eq_false (by omega),Bool.false_and]
theorem col_end (d:Rd) (m:Nat) (v:Int) (b:Nat) (w wr:World) (hv:colV (d.rest.take m)=v) (hall:∀ x∈d.rest.take m,isCap x=true) (hm:m≤2) (hk:d.k+m≤d.s.size) (hstop:∀ x,d.rest[m]? = some x→isCap x=false) (e:Ending) (he:e = .returned (.bool (decide (0<v))))
 (hr:RdAt wr b { { d with k:=d.k+m } with c:=v - 1 }) (hg:w.grownBy wr (some b)):Part d.col b w e wr:=by
 subst he
 have hsp:=span_stop isCap d.rest m hall hstop
 have hlen:(d.rest.take m).length=m:=by rw [List.length_take,length_rest];omega
 refine ⟨hg, ?_⟩
 unfold Rd.col
 rw [hsp]
 rcases (col_small (d.rest.take m) hall (by omega)).2 with ⟨h1,h2,h3⟩ | ⟨h1,h2,h3⟩
 · rw [h3,if_neg (by simp)]
   exact .inr ⟨rfl,by rw [decide_eq_false (by omega)]⟩
 · rw [if_pos h2]
   refine .inl ⟨_,rfl,by rw [decide_eq_true (by omega)], ?_⟩
   rw [h3,hv,hlen];exact hr
set_option maxRecDepth 100000 in
set_option maxHeartbeats 800000 in
theorem colPart_any (b:Nat) (d:Rd) (w:World) (h:RdAt w b d) (_hs:d.s.size≤1000000) (_hk:d.k≤d.s.size) :
 Calls Tryz.prog 212 #[.pointer (some ⟨b,0,none⟩)] w (Part d.col b w):=by
 have HR:=Lib.hid h;clear h
 go_enter Tryz.func212,Tryz.ntmps212
 go_wp2_with fail
 go_loopw [3] (fun n wr=>∃ (m:Nat) (v:Int),n = .int .i64 v∧0≤v∧v≤702∧d.k+m≤d.s.size∧Hid (colV (d.rest.take m)=v∧(∀ x∈d.rest.take m,isCap x=true)∧m≤2)∧Hid (RdAt wr b { d with k:=d.k+m })∧Hid (w.grownBy wr (some b)))
  (fun n _=>800 - (intOf n).toNat)
 case atStart=>exact ⟨0,0,rfl,by omega,by omega,by omega,Lib.hid ⟨rfl,by simp,by omega⟩,Lib.hid HR.out,Lib.hid (grownBy.refl' _ _)⟩
 case round =>
  obtain ⟨m,v,rfl,hv0,hv1,hkm,HM,HRD,HG⟩:=hrel
  obtain ⟨c0,c1,c2,c3,c4,c5,c6⟩:=HRD.out.facts
  have f1:=HRD.out.frozen 1
  have f3:=HRD.out.frozen 3
  clear c2 c4 c5 c6
  simp only at c0 c1 c3
  obtain ⟨p,hp⟩:∃ p:Nat,d.k+m=p:=⟨_,rfl⟩
  rw [hp] at c1
  by_cases hlt:p<d.s.size
  · have hlt2 : (p:Int)<(d.s.size:Int):=by omega
    obtain ⟨a,ha⟩:∃ a:Int,(d.s[p].toNat:Int)=a:=⟨_,rfl⟩
    have ha1:0≤a∧a≤255:=by have:=d.s[p].toNat_lt;omega
    have hnx:d.rest.take (m+1)=d.rest.take m++[a]:=by subst hp;rw [take_next d m hlt,ha]
    have hat:d.rest[m]? = some a:=by subst hp;unfold Rd.rest;rw [List.getElem?_drop,sb_at d.s _ hlt,ha]
    have HNX:=Lib.hid hnx;clear hnx
    have HAT:=Lib.hid hat;clear hat
    have HP:=Lib.hid hp;clear hp
    by_cases hc:isCap a=true
    · have hcb := cap_bd hc
      have hvn:colV (d.rest.take (m+1))=26*v+(a - 64):=by rw [HNX.out,colV_snoc,HM.out.1]
      have hall:=all_snoc HM.out.2.1 hc
      rw [← HNX.out] at hall
      have HVN:=Lib.hid hvn;clear hvn
      have HALL:=Lib.hid hall;clear hall
      by_cases hbig:702<v*26+(a - 65)+1
      · have hno:d.col=none:=by
         have h2:¬ m+1≤2:=by
          intro h2
          have:=(col_small _ HALL.out (by rw [List.length_take];omega)).1
          rw [HVN.out] at this;omega
         have h3:isCol (d.rest.takeWhile isCap)=false:=by
          apply isCol_long
          rw [span_over isCap d.rest (m+1) HALL.out,List.length_append,List.length_take,length_rest]
          have:=HP.out;omega
         unfold Rd.col;rw [h3];rfl
        have HNO:=Lib.hid hno;clear hno
        go_wp2_with fail
        go_quiet ((go_at_call 98;exact quiet_call (isCapital_any _ (by omega) (by omega) _)))
        go_wp2_with fail
        go_quiet (fail)
        go_wp2_with fail
        go_ret
        exact ⟨grownBy.drewN' HG.out _,.inr ⟨HNO.out,rfl⟩⟩
      · go_wp2_with fail
        go_quiet ((go_at_call 98;exact quiet_call (isCapital_any _ (by omega) (by omega) _)))
        go_wp2_with fail
        go_quiet (fail)
        go_wp2_with fail
        go_roundw
        case rel =>
         have hm2:m+1≤2:=by
          have h3:=HM.out.2.2
          by_cases h:m=2
          · exfalso
            have hl:(d.rest.take m).length=2:=by rw [List.length_take,length_rest];have:=HP.out;omega
            match hq:d.rest.take m,hl with
            | [x,y],_ =>
              have h1:=HM.out.2.1
              have h4:=HM.out.1
              rw [hq] at h1 h4
              have g1:=cap_bd (h1 x (by simp))
              have g2:=cap_bd (h1 y (by simp))
              have hv:colV [x,y]=26*(x - 64)+(y - 64):=by unfold colV;simp
              omega
          · omega
         refine ⟨m+1,v*26+(a - 65)+1,rfl,by omega,by omega,by have:=HP.out;omega,Lib.hid ⟨by rw [HVN.out];omega,HALL.out,hm2⟩,Lib.hid ?_,Lib.hid (grownBy.setCell' (grownBy.drewN' HG.out _) _ _)⟩
         exact RdAt.setNext HRD.out HP.out _
        case measure=>simp [intOf];omega
    · have hc':isCap a=false:=by simpa using hc
      clear hc
      have hend:=fun (e:Ending) (wz:World)=>col_end d m v b w wz HM.out.1 HM.out.2.1 HM.out.2.2 hkm (fun x hx=>by rw [HAT.out] at hx;injection hx with hx;rw [← hx];exact hc') e
      have HEND:=Lib.hid hend;clear hend
      go_wp2_with fail
      go_quiet ((go_at_call 98;exact quiet_call (isCapital_any _ (by omega) (by omega) _)))
      go_wp2_with fail
      go_ret
      exact HEND.out _ _ rfl ((HRD.out.drewN _).setC _) (grownBy.setCell' (grownBy.drewN' HG.out _) _ _)
  · have hlt2:¬ (p:Int)<(d.s.size:Int):=by omega
    have hend:=fun (e:Ending) (wz:World)=>col_end d m v b w wz HM.out.1 HM.out.2.1 HM.out.2.2 hkm (fun x hx=>by have h1:=(List.getElem?_eq_some_iff.1 hx).1;rw [length_rest] at h1;omega) e
    have HEND:=Lib.hid hend;clear hend
    clear hp
    go_wp2_with fail
    go_quiet (fail)
    go_wp2_with fail
    go_ret
    exact HEND.out _ _ rfl ((HRD.out.drewN _).setC _) (grownBy.setCell' (grownBy.drewN' HG.out _) _ _)
theorem row_end (d:Rd) (m:Nat) (v:Int) (b:Nat) (w wr:World) (hv:valL (d.rest.take m)=v) (hall:∀ x∈d.rest.take m,isNum x=true) (hz:m=0∧v=0∨1≤v∧d.rest.take m≠[]∧(d.rest.take m).head? ≠ some 48) (hv9:v≤999) (hk:d.k+m≤d.s.size) (hstop:∀ x,d.rest[m]? = some x→isNum x=false) (e:Ending) (he:e = .returned (.bool (decide (0<v))))
 (hr:RdAt wr b { { d with k:=d.k+m } with r:=v - 1 }) (hg:w.grownBy wr (some b)):Part d.row b w e wr:=by
 subst he
 have hsp:=span_stop isNum d.rest m hall hstop
 have hlen:(d.rest.take m).length=m:=by rw [List.length_take,length_rest];omega
 refine ⟨hg, ?_⟩
 unfold Rd.row
 rw [hsp]
 rcases hz with ⟨h1,h2⟩ | ⟨h1,h2,h3⟩
 · have:isRow (d.rest.take m)=false:=by rw [h1];rfl
   rw [this,if_neg (by simp)]
   exact .inr ⟨rfl,by rw [decide_eq_false (by omega)]⟩
 · have:isRow (d.rest.take m)=true:=by unfold isRow;rw [decide_eq_true_iff];exact ⟨h2,h3,by omega⟩
   rw [if_pos this]
   refine .inl ⟨_,rfl,by rw [decide_eq_true (by omega)], ?_⟩
   rw [hv,hlen];exact hr
theorem head_snoc {l:List Int} {x:Int} (h:l≠[]):(l++[x]).head? = l.head? := by cases l with | nil=>exact absurd rfl h | cons a l=>rfl
set_option maxRecDepth 100000 in
set_option maxHeartbeats 800000 in
theorem rowPart_any (b:Nat) (d:Rd) (w:World) (h:RdAt w b d) (_hs:d.s.size≤1000000) (_hk:d.k≤d.s.size) :
 Calls Tryz.prog 214 #[.pointer (some ⟨b,0,none⟩)] w (Part d.row b w):=by
 have HR:=Lib.hid h;clear h
 go_enter Tryz.func214,Tryz.ntmps214
 go_wp2_with fail
 go_loopw [3] (fun n wr=>∃ (m:Nat) (v:Int),n = .int .i64 v∧0≤v∧v≤999∧d.k+m≤d.s.size∧Hid (valL (d.rest.take m)=v∧(∀ x∈d.rest.take m,isNum x=true)∧(m=0∧v=0∨1≤v∧d.rest.take m≠[]∧(d.rest.take m).head? ≠ some 48))∧Hid (RdAt wr b { d with k:=d.k+m })∧Hid (w.grownBy wr (some b)))
  (fun n _=>1200 - (intOf n).toNat)
 case atStart=>exact ⟨0,0,rfl,by omega,by omega,by omega,Lib.hid ⟨rfl,by simp,.inl ⟨rfl,rfl⟩⟩,Lib.hid HR.out,Lib.hid (grownBy.refl' _ _)⟩
 case round =>
  obtain ⟨m,v,rfl,hv0,hv1,hkm,HM,HRD,HG⟩:=hrel
  obtain ⟨c0,c1,c2,c3,c4,c5,c6⟩:=HRD.out.facts
  have f1:=HRD.out.frozen 1
  have f4:=HRD.out.frozen 4
  clear c2 c3 c5 c6
  simp only at c0 c1 c4
  obtain ⟨p,hp⟩:∃ p:Nat,d.k+m=p:=⟨_,rfl⟩
  rw [hp] at c1
  by_cases hlt:p<d.s.size
  · have hlt2:(p:Int)<(d.s.size:Int):=by omega
    obtain ⟨a,ha⟩:∃ a:Int,(d.s[p].toNat:Int)=a:=⟨_,rfl⟩
    have ha1:0≤a∧a≤255:=by have:=d.s[p].toNat_lt;omega
    have hnx:d.rest.take (m+1)=d.rest.take m++[a]:=by subst hp;rw [take_next d m hlt,ha]
    have hat:d.rest[m]? = some a:=by subst hp;unfold Rd.rest;rw [List.getElem?_drop,sb_at d.s _ hlt,ha]
    have HNX:=Lib.hid hnx;clear hnx
    have HAT:=Lib.hid hat;clear hat
    have HP:=Lib.hid hp;clear hp
    by_cases hc:isNum a=true
    · have hcb:=num_bd hc
      have hvn:valL (d.rest.take (m+1))=10*v+(a - 48):=by rw [HNX.out,valL_snoc,HM.out.1]
      have hall:=all_snoc HM.out.2.1 hc
      rw [← HNX.out] at hall
      have HVN:=Lib.hid hvn;clear hvn
      have HALL:=Lib.hid hall;clear hall
      by_cases hbad:v*10+(a - 48)=0∨999<v*10+(a - 48)
      · have hno:d.row=none:=by
         have h3:isRow (d.rest.takeWhile isNum)=false:=by
          rw [span_over isNum d.rest (m+1) HALL.out]
          unfold isRow;rw [decide_eq_false_iff_not]
          rintro ⟨_,h2,h3⟩
          rcases hbad with h | h
          · rcases HM.out.2.2 with ⟨hm0,_⟩ | ⟨hm1,_⟩
            · apply h2;rw [HNX.out,hm0];simp;omega
            · omega
          · have:=valL_ge ((d.rest.drop (m+1)).takeWhile isNum) (d.rest.take (m+1)) (take_all isNum _) (by rw [HVN.out];omega)
            rw [HVN.out] at this;omega
         unfold Rd.row;rw [h3];rfl
        have HNO:=Lib.hid hno;clear hno
        by_cases hz:v*10+(a - 48)=0
        · have hzb:(v*10+(a - 48) == 0)=true:=beq_iff_eq.2 hz
          clear hbad hz
          go_wp2_with fail
          go_quiet ((go_at_call 71;exact quiet_call (isDigit_any _ (by omega) (by omega) _)))
          go_wp2_with fail
          go_quiet (fail)
          go_wp2_with fail
          go_ret
          exact ⟨grownBy.drewN' HG.out _,.inr ⟨HNO.out,rfl⟩⟩
        · have hzb:(v*10+(a - 48) == 0)=false:=beq_eq_false_iff_ne.2 hz
          have h9:999<v*10+(a - 48):=by omega
          clear hbad hz
          go_wp2_with fail
          go_quiet ((go_at_call 71;exact quiet_call (isDigit_any _ (by omega) (by omega) _)))
          go_wp2_with fail
          go_quiet (fail)
          go_wp2_with fail
          go_ret
          exact ⟨grownBy.drewN' HG.out _,.inr ⟨HNO.out,rfl⟩⟩
      · have hz:¬ v*10+(a - 48)=0:=by omega
        have hzb:(v*10+(a - 48) == 0)=false:=beq_eq_false_iff_ne.2 hz
        have h9:¬ 999<v*10+(a - 48):=by omega
        have h9':v*10+(a - 48)≤999:=by omega
        have h1':1≤v*10+(a - 48):=by omega
        clear hbad hz
        go_wp2_with fail
        go_quiet ((go_at_call 71;exact quiet_call (isDigit_any _ (by omega) (by omega) _)))
        go_wp2_with fail
        go_quiet (fail)
        go_wp2_with fail
        go_roundw
        case rel =>
         refine ⟨m+1,v*10+(a - 48),rfl,by omega,by omega,by have:=HP.out;omega,Lib.hid ⟨by rw [HVN.out];omega,HALL.out,.inr ⟨by omega, ?_, ?_⟩⟩,Lib.hid ?_,Lib.hid (grownBy.setCell' (grownBy.drewN' HG.out _) _ _)⟩
         · rw [HNX.out];simp
         · rw [HNX.out]
           rcases HM.out.2.2 with ⟨hm0,hm1⟩ | ⟨_,h2,h3⟩
           · rw [hm0];simp;omega
           · rw [head_snoc h2];exact h3
         · exact RdAt.setNext HRD.out HP.out _
        case measure=>simp [intOf];omega
    · have hc':isNum a=false:=by simpa using hc
      clear hc
      have hend:=fun (e:Ending) (wz:World)=>row_end d m v b w wz HM.out.1 HM.out.2.1 HM.out.2.2 hv1 hkm (fun x hx=>by rw [HAT.out] at hx;injection hx with hx;rw [← hx];exact hc') e
      have HEND:=Lib.hid hend;clear hend
      go_wp2_with fail
      go_quiet ((go_at_call 71;exact quiet_call (isDigit_any _ (by omega) (by omega) _)))
      go_wp2_with fail
      go_ret
      exact HEND.out _ _ rfl ((HRD.out.drewN _).setR _) (grownBy.setCell' (grownBy.drewN' HG.out _) _ _)
  · have hlt2:¬ (p:Int)<(d.s.size:Int):=by omega
    have hend:=fun (e:Ending) (wz:World)=>row_end d m v b w wz HM.out.1 HM.out.2.1 HM.out.2.2 hv1 hkm (fun x hx=>by have h1:=(List.getElem?_eq_some_iff.1 hx).1;rw [length_rest] at h1;omega) e
    have HEND:=Lib.hid hend;clear hend
    clear hp
    go_wp2_with fail
    go_quiet (fail)
    go_wp2_with fail
    go_ret
    exact HEND.out _ _ rfl ((HRD.out.drewN _).setR _) (grownBy.setCell' (grownBy.drewN' HG.out _) _ _)
end Go.Proofs.YtdphoaabaajonaaGreatDoor
namespace Go.Proofs
open Go.Shelf
def Tryz.lays137_ren:Go.Shelf.Ren:=⟨fun | 137=>221 | 217=>228 | 266=>233 | n=>n,fun | 9=>9 | 5=>5 | 3=>3 | n=>n,fun | n=>n⟩
theorem Tryz.lays137:Go.Proofs.Lays.n137 Tryz.prog Tryz.lays137_ren:={
 mixed:=by kernel_rfl
 f137:=Tryz.func221.trans (congrArg some (by kernel_rfl))
 f217:=Tryz.func228.trans (congrArg some (by kernel_rfl))
 f266:=Tryz.func233.trans (congrArg some (by kernel_rfl))
 t3:=Tryz.underlying3
 a3:=Tryz.isAgg3
 z3:=Tryz.sizeOf3
 v3:=Tryz.zeroValue3
 t5:=Tryz.underlying5
 a5:=Tryz.isAgg5
 z5:=Tryz.sizeOf5
 v5:=Tryz.zeroValue5
 t9:=Tryz.underlying9
 a9:=Tryz.isAgg9
 z9:=Tryz.sizeOf9
 v9:=Tryz.zeroValue9 }
open Go.RowKit in
theorem Tryz.strings_IndexByte (s:ByteArray) (c:Int) (w:World) :
 Calls Tryz.prog 221 #[.string s,.int .u8 c] w fun e w'=>e = .returned (.int .i64 (Lib.indexByte s.data.toList c.toNat.toUInt8))∧w'=w:=Any.strings_IndexByte Tryz.lays137 s c w
def Tryz.laysM171_ren:Go.Shelf.Ren:=⟨fun | 171=>59 | 243=>83 | 246=>116 | 283=>159 | 284=>160 | 285=>161 | 286=>162 | 129=>192 | 317=>191 | 318=>193 | 319=>194 | 320=>195 | 337=>206 | 338=>207 | n=>n,fun | 3=>3 | 9=>9 | 2=>2 | 4=>4 | 171=>183 | 0=>0 | 53=>72 | 37=>22 | 5=>5 | 173=>186 | 212=>206 | 51=>207 | 20=>20 | 213=>208 | 46=>201 | 232=>229 | 233=>230 | n=>n,fun | 17=>3 | 18=>6 | 19=>7 | n=>n⟩
theorem Tryz.laysM171:Go.Proofs.LaysM.n171 Tryz.prog Tryz.laysM171_ren:={
 mixed:=by kernel_rfl
 f129:=Tryz.func192.trans (congrArg some (by kernel_rfl))
 f171:=Tryz.func59.trans (congrArg some (by kernel_rfl))
 f243:=Tryz.func83.trans (congrArg some (by kernel_rfl))
 f246:=Tryz.func116.trans (congrArg some (by kernel_rfl))
 f283:=Tryz.func159.trans (congrArg some (by kernel_rfl))
 f284:=Tryz.func160.trans (congrArg some (by kernel_rfl))
 f285:=Tryz.func161.trans (congrArg some (by kernel_rfl))
 f286:=Tryz.func162.trans (congrArg some (by kernel_rfl))
 f317:=Tryz.func191.trans (congrArg some (by kernel_rfl))
 f318:=Tryz.func193.trans (congrArg some (by kernel_rfl))
 f319:=Tryz.func194.trans (congrArg some (by kernel_rfl))
 f320:=Tryz.func195.trans (congrArg some (by kernel_rfl))
 f337:=Tryz.func206.trans (congrArg some (by kernel_rfl))
 f338:=Tryz.func207.trans (congrArg some (by kernel_rfl))
 t0:=Tryz.underlying0
 a0:=Tryz.isAgg0
 z0:=Tryz.sizeOf0
 v0:=Tryz.zeroValue0
 t2:=Tryz.underlying2
 a2:=Tryz.isAgg2
 z2:=Tryz.sizeOf2
 v2:=Tryz.zeroValue2
 t3:=Tryz.underlying3
 a3:=Tryz.isAgg3
 z3:=Tryz.sizeOf3
 v3:=Tryz.zeroValue3
 t4:=Tryz.underlying4
 a4:=Tryz.isAgg4
 z4:=Tryz.sizeOf4
 v4:=Tryz.zeroValue4
 t5:=Tryz.underlying5
 a5:=Tryz.isAgg5
 z5:=Tryz.sizeOf5
 v5:=Tryz.zeroValue5
 t9:=Tryz.underlying9
 a9:=Tryz.isAgg9
 z9:=Tryz.sizeOf9
 v9:=Tryz.zeroValue9
 t20:=Tryz.underlying20
 a20:=Tryz.isAgg20
 z20:=Tryz.sizeOf20
 v20:=Tryz.zeroValue20
 t37:=Tryz.underlying22
 a37:=Tryz.isAgg22
 z37:=Tryz.sizeOf22
 v37:=Tryz.zeroValue22
 t46:=Tryz.underlying201
 a46:=Tryz.isAgg201
 z46:=Tryz.sizeOf201
 v46:=Tryz.zeroValue201
 t51:=Tryz.underlying207
 a51:=Tryz.isAgg207
 z51:=Tryz.sizeOf207
 v51:=Tryz.zeroValue207
 t53:=Tryz.underlying72
 a53:=Tryz.isAgg72
 z53:=Tryz.sizeOf72
 v53:=Tryz.zeroValue72
 t171:=Tryz.underlying183
 a171:=Tryz.isAgg183
 z171:=Tryz.sizeOf183
 v171:=Tryz.zeroValue183
 t173:=Tryz.underlying186
 a173:=Tryz.isAgg186
 z173:=Tryz.sizeOf186
 v173:=Tryz.zeroValue186
 t212:=Tryz.underlying206
 a212:=Tryz.isAgg206
 z212:=Tryz.sizeOf206
 v212:=Tryz.zeroValue206
 t213:=Tryz.underlying208
 a213:=Tryz.isAgg208
 z213:=Tryz.sizeOf208
 t232:=Tryz.underlying229
 a232:=Tryz.isAgg229
 z232:=Tryz.sizeOf229
 v232:=Tryz.zeroValue229
 t233:=Tryz.underlying230
 a233:=Tryz.isAgg230
 z233:=Tryz.sizeOf230
 v233:=Tryz.zeroValue230
 g17:=by kernel_rfl
 g18:=by kernel_rfl
 g19:=by kernel_rfl
 i0:=by kernel_rfl
 i2:=by kernel_rfl
 i3:=by kernel_rfl
 i4:=by kernel_rfl
 i5:=by kernel_rfl
 i9:=by kernel_rfl
 i20:=by kernel_rfl
 i37:=by kernel_rfl
 i46:=by kernel_rfl
 i51:=by kernel_rfl
 i53:=by kernel_rfl
 i171:=by kernel_rfl
 i173:=by kernel_rfl
 i212:=by kernel_rfl
 i232:=by kernel_rfl
 i233:=by kernel_rfl
 m17:=by kernel_rfl
 m18:=by kernel_rfl
 m19:=by kernel_rfl }
open Go.RowKit Go.Sort Go.Lib in
theorem Tryz.strconv_Itoa (n : Int) (h0 : -9223372036854775808 ≤ n) (h1 : n ≤ 9223372036854775807) (w : World) (htab : Lib.TabIs Tryz.prog w "internal/strconv.uint64pow10" .u64 Lib.pow10Tab) :
 Calls Tryz.prog 59 #[.int .i64 n] w fun e w'=>e = .returned (.string ⟨(Lib.itoa n).toArray⟩)∧∃ k os,w'=grow (w.drewN k) os:=Any.strconv_Itoa Tryz.laysM171 n h0 h1 w htab
def Tryz.laysC172_ren:Go.Shelf.Ren:=⟨fun | 172=>82 | 244=>114 | 245=>115 | 247=>154 | 279=>155 | 280=>156 | 281=>157 | 282=>158 | 287=>188 | 316=>189 | 171=>59 | 205=>190 | 321=>204 | 322=>205 | 243=>83 | 246=>116 | 283=>159 | 284=>160 | 285=>161 | 286=>162 | 129=>192 | 317=>191 | 318=>193 | 319=>194 | 320=>195 | 337=>206 | 338=>207 | n=>n,fun | 9=>9 | 3=>3 | 75=>129 | 76=>130 | 4=>4 | 5=>5 | 167=>177 | 37=>22 | 0=>0 | 85=>178 | 2=>2 | 168=>180 | 53=>72 | 175=>199 | 46=>201 | 210=>203 | 127=>159 | 145=>219 | 143=>217 | 21=>21 | 171=>183 | 173=>186 | 212=>206 | 51=>207 | 20=>20 | 213=>208 | 232=>229 | 233=>230 | 80=>127 | n=>n,fun | 15=>1 | 16=>2 | 17=>3 | 18=>6 | 19=>7 | n=>n⟩
theorem Tryz.laysC172:Go.Proofs.LaysC.n172 Tryz.prog Tryz.laysC172_ren:={
 mixed:=by kernel_rfl
 f129:=Tryz.func192.trans (congrArg some (by kernel_rfl))
 f171:=Tryz.func59.trans (congrArg some (by kernel_rfl))
 f172:=Tryz.func82.trans (congrArg some (by kernel_rfl))
 f205:=Tryz.func190.trans (congrArg some (by kernel_rfl))
 f243:=Tryz.func83.trans (congrArg some (by kernel_rfl))
 f244:=Tryz.func114.trans (congrArg some (by kernel_rfl))
 f245:=Tryz.func115.trans (congrArg some (by kernel_rfl))
 f246:=Tryz.func116.trans (congrArg some (by kernel_rfl))
 f247:=Tryz.func154.trans (congrArg some (by kernel_rfl))
 f279:=Tryz.func155.trans (congrArg some (by kernel_rfl))
 f280:=Tryz.func156.trans (congrArg some (by kernel_rfl))
 f281:=Tryz.func157.trans (congrArg some (by kernel_rfl))
 f282:=Tryz.func158.trans (congrArg some (by kernel_rfl))
 f283:=Tryz.func159.trans (congrArg some (by kernel_rfl))
 f284:=Tryz.func160.trans (congrArg some (by kernel_rfl))
 f285:=Tryz.func161.trans (congrArg some (by kernel_rfl))
 f286:=Tryz.func162.trans (congrArg some (by kernel_rfl))
 f287:=Tryz.func188.trans (congrArg some (by kernel_rfl))
 f316:=Tryz.func189.trans (congrArg some (by kernel_rfl))
 f317:=Tryz.func191.trans (congrArg some (by kernel_rfl))
 f318:=Tryz.func193.trans (congrArg some (by kernel_rfl))
 f319:=Tryz.func194.trans (congrArg some (by kernel_rfl))
 f320:=Tryz.func195.trans (congrArg some (by kernel_rfl))
 f321:=Tryz.func204.trans (congrArg some (by kernel_rfl))
 f322:=Tryz.func205.trans (congrArg some (by kernel_rfl))
 f337:=Tryz.func206.trans (congrArg some (by kernel_rfl))
 f338:=Tryz.func207.trans (congrArg some (by kernel_rfl))
 t0:=Tryz.underlying0
 a0:=Tryz.isAgg0
 z0:=Tryz.sizeOf0
 v0:=Tryz.zeroValue0
 t2:=Tryz.underlying2
 a2:=Tryz.isAgg2
 z2:=Tryz.sizeOf2
 v2:=Tryz.zeroValue2
 t3:=Tryz.underlying3
 a3:=Tryz.isAgg3
 z3:=Tryz.sizeOf3
 v3:=Tryz.zeroValue3
 t4:=Tryz.underlying4
 a4:=Tryz.isAgg4
 z4:=Tryz.sizeOf4
 v4:=Tryz.zeroValue4
 t5:=Tryz.underlying5
 a5:=Tryz.isAgg5
 z5:=Tryz.sizeOf5
 v5:=Tryz.zeroValue5
 t9:=Tryz.underlying9
 a9:=Tryz.isAgg9
 z9:=Tryz.sizeOf9
 v9:=Tryz.zeroValue9
 t20:=Tryz.underlying20
 a20:=Tryz.isAgg20
 z20:=Tryz.sizeOf20
 v20:=Tryz.zeroValue20
 t21:=Tryz.underlying21
 a21:=Tryz.isAgg21
 z21:=Tryz.sizeOf21
 v21:=Tryz.zeroValue21
 t37:=Tryz.underlying22
 a37:=Tryz.isAgg22
 z37:=Tryz.sizeOf22
 v37:=Tryz.zeroValue22
 t46:=Tryz.underlying201
 a46:=Tryz.isAgg201
 z46:=Tryz.sizeOf201
 v46:=Tryz.zeroValue201
 t51:=Tryz.underlying207
 a51:=Tryz.isAgg207
 z51:=Tryz.sizeOf207
 v51:=Tryz.zeroValue207
 t53:=Tryz.underlying72
 a53:=Tryz.isAgg72
 z53:=Tryz.sizeOf72
 v53:=Tryz.zeroValue72
 t75:=Tryz.underlying129
 a75:=Tryz.isAgg129
 z75:=Tryz.sizeOf129
 v75:=Tryz.zeroValue129
 t76:=Tryz.underlying130
 a76:=Tryz.isAgg130
 z76:=Tryz.sizeOf130
 v76:=Tryz.zeroValue130
 t85:=Tryz.underlying178
 a85:=Tryz.isAgg178
 z85:=Tryz.sizeOf178
 v85:=Tryz.zeroValue178
 t127:=Tryz.underlying159
 a127:=Tryz.isAgg159
 z127:=Tryz.sizeOf159
 v127:=Tryz.zeroValue159
 t143:=Tryz.underlying217
 a143:=Tryz.isAgg217
 z143:=Tryz.sizeOf217
 v143:=Tryz.zeroValue217
 t145:=Tryz.underlying219
 a145:=Tryz.isAgg219
 z145:=Tryz.sizeOf219
 v145:=Tryz.zeroValue219
 t167:=Tryz.underlying177
 a167:=Tryz.isAgg177
 z167:=Tryz.sizeOf177
 v167:=Tryz.zeroValue177
 t168:=Tryz.underlying180
 a168:=Tryz.isAgg180
 z168:=Tryz.sizeOf180
 v168:=Tryz.zeroValue180
 t171:=Tryz.underlying183
 a171:=Tryz.isAgg183
 z171:=Tryz.sizeOf183
 v171:=Tryz.zeroValue183
 t173:=Tryz.underlying186
 a173:=Tryz.isAgg186
 z173:=Tryz.sizeOf186
 v173:=Tryz.zeroValue186
 t175:=Tryz.underlying199
 a175:=Tryz.isAgg199
 z175:=Tryz.sizeOf199
 v175:=Tryz.zeroValue199
 t210:=Tryz.underlying203
 a210:=Tryz.isAgg203
 z210:=Tryz.sizeOf203
 v210:=Tryz.zeroValue203
 t212:=Tryz.underlying206
 a212:=Tryz.isAgg206
 z212:=Tryz.sizeOf206
 v212:=Tryz.zeroValue206
 t213:=Tryz.underlying208
 a213:=Tryz.isAgg208
 z213:=Tryz.sizeOf208
 t232:=Tryz.underlying229
 a232:=Tryz.isAgg229
 z232:=Tryz.sizeOf229
 v232:=Tryz.zeroValue229
 t233:=Tryz.underlying230
 a233:=Tryz.isAgg230
 z233:=Tryz.sizeOf230
 v233:=Tryz.zeroValue230
 g15:=by kernel_rfl
 g16:=by kernel_rfl
 g17:=by kernel_rfl
 g18:=by kernel_rfl
 g19:=by kernel_rfl
 t80:=Tryz.underlying127
 a80:=Tryz.isAgg127
 z80:=Tryz.sizeOf127
 v80:=Tryz.zeroValue127
 i0:=by kernel_rfl
 i2:=by kernel_rfl
 i3:=by kernel_rfl
 i4:=by kernel_rfl
 i5:=by kernel_rfl
 i9:=by kernel_rfl
 i20:=by kernel_rfl
 i21:=by kernel_rfl
 i37:=by kernel_rfl
 i46:=by kernel_rfl
 i51:=by kernel_rfl
 i53:=by kernel_rfl
 i75:=by kernel_rfl
 i76:=by kernel_rfl
 i80:=by kernel_rfl
 i85:=by kernel_rfl
 i127:=by kernel_rfl
 i143:=by kernel_rfl
 i145:=by kernel_rfl
 i167:=by kernel_rfl
 i168:=by kernel_rfl
 i171:=by kernel_rfl
 i173:=by kernel_rfl
 i175:=by kernel_rfl
 i210:=by kernel_rfl
 i212:=by kernel_rfl
 i232:=by kernel_rfl
 i233:=by kernel_rfl
 m15:=by kernel_rfl
 m16:=by kernel_rfl
 m17:=by kernel_rfl
 m18:=by kernel_rfl
 m19:=by kernel_rfl
 c0:=by kernel_rfl
 c2:=by kernel_rfl
 c3:=by kernel_rfl
 c4:=by kernel_rfl
 c5:=by kernel_rfl
 c9:=by kernel_rfl
 c20:=by kernel_rfl
 c21:=by kernel_rfl
 c37:=by kernel_rfl
 c46:=by kernel_rfl
 c51:=by kernel_rfl
 c53:=by kernel_rfl
 c75:=by kernel_rfl
 c76:=by kernel_rfl
 c80:=by kernel_rfl
 c85:=by kernel_rfl
 c127:=by kernel_rfl
 c143:=by kernel_rfl
 c145:=by kernel_rfl
 c167:=by kernel_rfl
 c168:=by kernel_rfl
 c171:=by kernel_rfl
 c173:=by kernel_rfl
 c175:=by kernel_rfl
 c210:=by kernel_rfl
 c212:=by kernel_rfl
 c213:=by kernel_rfl
 c232:=by kernel_rfl
 c233:=by kernel_rfl }
open Go.RowKit in
theorem Tryz.strconv_Atoi_ok (s:ByteArray) (hmax:s.size≤9223372036854775806) (v:Int) (h:Lib.atoiAll s.data.toList = .ok v) (w:World) :
 Calls Tryz.prog 82 #[.string s] w fun e w'=>e = .returned (.tuple #[.int .i64 v,.nilIface])∧(w'=w∨∃ t,w'=Lib.bytesWorld w 5 t):=Any.strconv_Atoi_ok Tryz.laysC172 s hmax v h w
open Go.RowKit in
theorem Tryz.strconv_Atoi_syntax (s:ByteArray) (hlim:s.size≤281474976710656) (E:Lib.NumEnd Int) (hE:Lib.atoiAll s.data.toList=E) (hk:match E with | .ok _=>False | .range=>False | _=>True) (ev:Value) (w:World) (hv:w.cell? ⟨1,0,none⟩=some ev) (hev:ev = .nilIface∨∃ te pe,ev = .iface te pe) :
 Calls Tryz.prog 82 #[.string s] w fun e w'=>∃ N,e = .returned (.tuple #[.int .i64 (0),.iface 180 (.pointer (some ⟨N,0,none⟩))])∧w.heap.size≤N∧w'.heap[N]? = some (.cells #[.string ⟨#[65,116,111,105]⟩,.string s,ev] 203 (0,0))∧Below w.heap.size w w':=by
 cases E with
 | ok v=>exact hk.elim
 | range=>exact hk.elim
 | _=>exact Any.strconv_Atoi_syntax Tryz.laysC172 s hlim hE ev w hv hev
open Go.RowKit in
theorem Tryz.strconv_Atoi_range (s:ByteArray) (hlim:s.size≤281474976710656) (h:Lib.atoiAll s.data.toList = .range) (ev:Value) (w:World) (hv:w.cell? ⟨2,0,none⟩=some ev) (hev:ev = .nilIface∨∃ te pe,ev = .iface te pe) :
 Calls Tryz.prog 82 #[.string s] w fun e w'=>∃ N,e = .returned (.tuple #[.int .i64 (Lib.atoiSat s.data.toList),.iface 180 (.pointer (some ⟨N,0,none⟩))])∧w.heap.size≤N∧w'.heap[N]? = some (.cells #[.string ⟨#[65,116,111,105]⟩,.string s,ev] 203 (0,0))∧Below w.heap.size w w':=Any.strconv_Atoi_range Tryz.laysC172 s hlim h ev w hv hev
def Tryz.lays99_ren:Go.Shelf.Ren:=⟨fun | 99=>208 | 206=>220 | n=>n,fun | 9=>9 | 4=>4 | 3=>3 | n=>n,fun | n=>n⟩
theorem Tryz.lays99:Go.Proofs.Lays.n99 Tryz.prog Tryz.lays99_ren:={
 mixed:=by kernel_rfl
 f99:=Tryz.func208.trans (congrArg some (by kernel_rfl))
 f206:=Tryz.func220.trans (congrArg some (by kernel_rfl))
 t3:=Tryz.underlying3
 a3:=Tryz.isAgg3
 z3:=Tryz.sizeOf3
 v3:=Tryz.zeroValue3
 t4:=Tryz.underlying4
 a4:=Tryz.isAgg4
 z4:=Tryz.sizeOf4
 v4:=Tryz.zeroValue4
 t9:=Tryz.underlying9
 a9:=Tryz.isAgg9
 z9:=Tryz.sizeOf9
 v9:=Tryz.zeroValue9 }
open Go.RowKit Go.Lib in
theorem Tryz.strings_HasPrefix (s p:ByteArray) (w:World) :
 Calls Tryz.prog 208 #[.string s,.string p] w fun e w'=>e = .returned (.bool (Lib.hasPrefix s.data.toList p.data.toList))∧w'=w:=Any.strings_HasPrefix Tryz.lays99 s p w
def Tryz.lays155_ren:Go.Shelf.Ren:=⟨fun | 155=>185 | 154=>201 | 138=>216 | 165=>217 | 143=>218 | 166=>110 | 197=>219 | 169=>81 | 195=>223 | 218=>224 | 240=>144 | 241=>225 | 219=>226 | 260=>227 | 276=>184 | 277=>229 | 217=>228 | 225=>230 | 224=>231 | 267=>232 | 266=>233 | 314=>234 | n=>n,fun | 9=>9 | 3=>3 | 4=>4 | 72=>118 | 0=>0 | 76=>130 | 105=>227 | 21=>21 | 5=>5 | 70=>116 | 20=>20 | 37=>22 | 75=>129 | 127=>159 | 164=>192 | 46=>201 | 119=>234 | 139=>237 | 138=>236 | 146=>238 | 51=>207 | 80=>127 | n=>n,fun | 1=>8 | 3=>9 | 4=>10 | n=>n⟩
theorem Tryz.lays155:Go.Proofs.Lays.n155 Tryz.prog Tryz.lays155_ren:={
 mixed:=by kernel_rfl
 f138:=Tryz.func216.trans (congrArg some (by kernel_rfl))
 f143:=Tryz.func218.trans (congrArg some (by kernel_rfl))
 f154:=Tryz.func201.trans (congrArg some (by kernel_rfl))
 f155:=Tryz.func185.trans (congrArg some (by kernel_rfl))
 f165:=Tryz.func217.trans (congrArg some (by kernel_rfl))
 f166:=Tryz.func110.trans (congrArg some (by kernel_rfl))
 f169:=Tryz.func81.trans (congrArg some (by kernel_rfl))
 f195:=Tryz.func223.trans (congrArg some (by kernel_rfl))
 f197:=Tryz.func219.trans (congrArg some (by kernel_rfl))
 f217:=Tryz.func228.trans (congrArg some (by kernel_rfl))
 f218:=Tryz.func224.trans (congrArg some (by kernel_rfl))
 f219:=Tryz.func226.trans (congrArg some (by kernel_rfl))
 f224:=Tryz.func231.trans (congrArg some (by kernel_rfl))
 f225:=Tryz.func230.trans (congrArg some (by kernel_rfl))
 f240:=Tryz.func144.trans (congrArg some (by kernel_rfl))
 f241:=Tryz.func225.trans (congrArg some (by kernel_rfl))
 f260:=Tryz.func227.trans (congrArg some (by kernel_rfl))
 f266:=Tryz.func233.trans (congrArg some (by kernel_rfl))
 f267:=Tryz.func232.trans (congrArg some (by kernel_rfl))
 f276:=Tryz.func184.trans (congrArg some (by kernel_rfl))
 f277:=Tryz.func229.trans (congrArg some (by kernel_rfl))
 f314:=Tryz.func234.trans (congrArg some (by kernel_rfl))
 t0:=Tryz.underlying0
 a0:=Tryz.isAgg0
 z0:=Tryz.sizeOf0
 v0:=Tryz.zeroValue0
 t3:=Tryz.underlying3
 a3:=Tryz.isAgg3
 z3:=Tryz.sizeOf3
 v3:=Tryz.zeroValue3
 t4:=Tryz.underlying4
 a4:=Tryz.isAgg4
 z4:=Tryz.sizeOf4
 v4:=Tryz.zeroValue4
 t5:=Tryz.underlying5
 a5:=Tryz.isAgg5
 z5:=Tryz.sizeOf5
 v5:=Tryz.zeroValue5
 t9:=Tryz.underlying9
 a9:=Tryz.isAgg9
 z9:=Tryz.sizeOf9
 v9:=Tryz.zeroValue9
 t20:=Tryz.underlying20
 a20:=Tryz.isAgg20
 z20:=Tryz.sizeOf20
 v20:=Tryz.zeroValue20
 t21:=Tryz.underlying21
 a21:=Tryz.isAgg21
 z21:=Tryz.sizeOf21
 v21:=Tryz.zeroValue21
 t37:=Tryz.underlying22
 a37:=Tryz.isAgg22
 z37:=Tryz.sizeOf22
 v37:=Tryz.zeroValue22
 t46:=Tryz.underlying201
 a46:=Tryz.isAgg201
 z46:=Tryz.sizeOf201
 v46:=Tryz.zeroValue201
 t51:=Tryz.underlying207
 a51:=Tryz.isAgg207
 z51:=Tryz.sizeOf207
 v51:=Tryz.zeroValue207
 t70:=Tryz.underlying116
 a70:=Tryz.isAgg116
 z70:=Tryz.sizeOf116
 v70:=Tryz.zeroValue116
 t72:=Tryz.underlying118
 a72:=Tryz.isAgg118
 z72:=Tryz.sizeOf118
 v72:=Tryz.zeroValue118
 t75:=Tryz.underlying129
 a75:=Tryz.isAgg129
 z75:=Tryz.sizeOf129
 v75:=Tryz.zeroValue129
 t76:=Tryz.underlying130
 a76:=Tryz.isAgg130
 z76:=Tryz.sizeOf130
 v76:=Tryz.zeroValue130
 t105:=Tryz.underlying227
 a105:=Tryz.isAgg227
 z105:=Tryz.sizeOf227
 v105:=Tryz.zeroValue227
 t119:=Tryz.underlying234
 a119:=Tryz.isAgg234
 z119:=Tryz.sizeOf234
 t127:=Tryz.underlying159
 a127:=Tryz.isAgg159
 z127:=Tryz.sizeOf159
 v127:=Tryz.zeroValue159
 t138:=Tryz.underlying236
 a138:=Tryz.isAgg236
 z138:=Tryz.sizeOf236
 v138:=Tryz.zeroValue236
 t139:=Tryz.underlying237
 a139:=Tryz.isAgg237
 z139:=Tryz.sizeOf237
 v139:=Tryz.zeroValue237
 t146:=Tryz.underlying238
 a146:=Tryz.isAgg238
 z146:=Tryz.sizeOf238
 v146:=Tryz.zeroValue238
 t164:=Tryz.underlying192
 a164:=Tryz.isAgg192
 z164:=Tryz.sizeOf192
 v164:=Tryz.zeroValue192
 g1:=by kernel_rfl
 g3:=by kernel_rfl
 g4:=by kernel_rfl }
theorem Tryz.Builder_Extra_155:Builder.Extra Tryz.prog Tryz.lays155_ren:={
 sizeBuilder:=by kernel_rfl
 liesBuilder:=by kernel_rfl
 t5:=Tryz.underlying5
 a5:=Tryz.isAgg5
 z5:=Tryz.sizeOf5
 v5:=Tryz.zeroValue5
 infoByte:=by kernel_rfl
 cellsByte:=by kernel_rfl
 sizeByte:=by kernel_rfl
 neB5:=by decide }
open Go.RowKit Go.Lib in
theorem Tryz.strings_ReplaceAll (s old new:ByteArray) (m:Int) (w:World) (hs:s.size<4294967281) (hm:w.cell? ⟨8,0,none⟩=some (.int .i64 m)) (h1:1≤old.size) (hlen:s.size+Lib.countB s old*new.size≤140737488355328) :
 Calls Tryz.prog 185 #[.string s,.string old,.string new] w fun e w' =>
  e = .returned (.string ⟨(Lib.replaceAll s.data.toList old.data.toList new.data.toList).toArray⟩)∧Below w.heap.size w w':=Any.strings_ReplaceAll Tryz.lays155 Tryz.Builder_Extra_155 s old new m w hs hm h1 hlen
end Go.Proofs
namespace Go.Proofs.YtdphoaabaajonaaGreatDoor
open Go.RowKit
theorem idx_list:∀ (l:List UInt8),Lib.indexByte l 33=if ((l.map (fun b=>(b.toNat:Int))).takeWhile ne33).length=l.length then -1 else (((l.map (fun b=>(b.toNat:Int))).takeWhile ne33).length:Int)
 | []=>rfl
 | x :: l=>by
   have ih:=idx_list l
   unfold Lib.indexByte
   by_cases hx:x=33
   · subst hx
     have hne:ne33 ((33:UInt8).toNat:Int)=false:=by decide
     rw [List.map_cons,List.takeWhile_cons,hne]
     simp
   · have hne:ne33 (x.toNat:Int)=true:=by
      unfold ne33;rw [decide_eq_true_iff];intro h;apply hx
      apply UInt8.toNat_inj.1;show x.toNat=33;omega
     have hb:(x == (33:UInt8))=false:=by rw [beq_eq_false_iff_ne];exact hx
     rw [hb,List.map_cons,List.takeWhile_cons,hne,if_pos rfl,List.length_cons,List.length_cons,ih]
     obtain ⟨n,hn⟩:∃ n,((l.map (fun b=>(b.toNat:Int))).takeWhile ne33).length=n:=⟨_,rfl⟩
     rw [hn]
     by_cases h:n=l.length
     · have h2:n+1=l.length+1:=by omega
       rw [if_pos h,if_pos h2];rfl
     · have h2:¬ n+1=l.length+1:=by omega
       rw [if_neg h,if_neg h2]
       have:((n:Int) == -1)=false:=by rw [beq_eq_false_iff_ne];omega
       rw [this];simp
theorem idx_sheet (d:Rd):Lib.indexByte d.s.data.toList 33=if d.sheetP.length=d.s.size then -1 else (d.sheetP.length:Int):=by
 rw [idx_list];unfold Rd.sheetP sb;rw [← list_bytes]
 have:d.s.toList.length=d.s.size:=by rw [list_bytes];rfl
 rw [this]
theorem sheetP_take (d:Rd):(sb d.s).take d.sheetP.length=d.sheetP:=by
 have e:=take_split ne33 (sb d.s)
 have h:(d.sheetP++(sb d.s).drop d.sheetP.length).take d.sheetP.length=d.sheetP:=List.take_left
 have e2:d.sheetP++(sb d.s).drop d.sheetP.length=sb d.s:=e
 rw [e2] at h;exact h
theorem sheetP_lt (d:Rd) (h:¬ d.sheetP.length=d.s.size):d.sheetP.length<d.s.size:=by
 have e:=congrArg List.length (take_split ne33 (sb d.s))
 rw [List.length_append,length_sb] at e
 unfold Rd.sheetP at h ⊢;omega
set_option maxRecDepth 100000 in
set_option maxHeartbeats 400000 in
theorem sheet_any (b:Nat) (d:Rd) (w:World) (h:RdAt w b d) (_hs:d.s.size≤1000000) :
 Calls Tryz.prog 210 #[.pointer (some ⟨b,0,none⟩)] w (Part d.sheet b w):=by
 obtain ⟨c0,c1,c2,c3,c4,c5,c6⟩:=h.facts
 have f1:=h.frozen 1
 have f2:=h.frozen 2
 clear c3 c4 c5 c6
 have HR:=Lib.hid h;clear h
 have hix:=idx_sheet d
 by_cases hno:d.sheetP.length=d.s.size
 · have hf:d.sheet=some d:=by unfold Rd.sheet;rw [if_pos hno]
   rw [if_pos hno] at hix
   have HF:=Lib.hid hf;clear hf hno
   have HIX:=Lib.hid hix;clear hix
   go_enter Tryz.func210,Tryz.ntmps210
   go_wp2_with (go_at_call 221;((with_reducible refine (Tryz.strings_IndexByte d.s 33 _).mono ?_);rintro e w1 ⟨rfl,rfl⟩;(rw [show (33:Int).toNat.toUInt8=33 from rfl,HIX.out])))
   go_ret
   exact ⟨grownBy.refl' _ _,.inl ⟨d,HF.out,rfl,HR.out⟩⟩
 · have hlt:=sheetP_lt d hno
   rw [if_neg hno] at hix
   obtain ⟨i,hi⟩:∃ i:Nat,d.sheetP.length=i:=⟨_,rfl⟩
   rw [hi] at hix hlt
   have hf:d.sheet=if nameL d.sheetP=true then some { d with sh:=strOfNums d.sheetP,k:=i+1 } else none:=by unfold Rd.sheet;rw [if_neg hno,hi]
   have hcut:d.s.extract 0 i=strOfNums d.sheetP:=by
    rw [← sheetP_take,hi, ← str_sb (d.s.extract 0 i)]
    congr 1
    unfold sb;rw [← List.map_take];congr 1
    simp [ByteArray.data_extract]
   have hsz:(strOfNums d.sheetP).size≤1000000:=by rw [strOfNums_size];omega
   have hb:sb (strOfNums d.sheetP)=d.sheetP:=sb_str _ (fun x hx=>sb_bd d.s x (by rw [← sheetP_take] at hx;exact List.mem_of_mem_take hx))
   have HIX:=Lib.hid hix;clear hix
   have HF:=Lib.hid hf;clear hf
   have HCUT:=Lib.hid hcut;clear hcut
   have HB:=Lib.hid hb;clear hb
   have hile:(i:Int)≤(d.s.size:Int):=by omega
   have hi0:(0:Int)≤(i:Int):=by omega
   clear hno hi
   go_enter Tryz.func210,Tryz.ntmps210
   by_cases hn:nameL d.sheetP=true
   · have hf2:d.sheet=some { d with sh:=strOfNums d.sheetP,k:=i+1 }:=by rw [HF.out,if_pos hn]
     have HF2:=Lib.hid hf2;clear hf2
     go_wp2_with (first
      | (go_at_call 221;((with_reducible refine (Tryz.strings_IndexByte d.s 33 _).mono ?_);rintro e w1 ⟨rfl,rfl⟩;(rw [show (33:Int).toNat.toUInt8=33 from rfl,HIX.out])))
      | (go_at_call 47;rw [HCUT.out];((with_reducible refine (name_any _ _ ?_).mono ?_);(first | omega | skip);rintro e w2 ⟨rfl,rfl⟩;rw [HB.out,hn])))
     go_ret
     exact ⟨grownBy.setCell' (grownBy.setCell' (grownBy.refl' _ _) _ _) _ _,.inl ⟨_,HF2.out,rfl,(HR.out.setSh (strOfNums d.sheetP)).setK (i+1)⟩⟩
   · have hf2:d.sheet=none:=by rw [HF.out,if_neg hn]
     have hn':nameL d.sheetP=false:=by simpa using hn
     have HF2:=Lib.hid hf2;clear hf2 hn
     go_wp2_with (first
      | (go_at_call 221;((with_reducible refine (Tryz.strings_IndexByte d.s 33 _).mono ?_);rintro e w1 ⟨rfl,rfl⟩;(rw [show (33:Int).toNat.toUInt8=33 from rfl,HIX.out])))
      | (go_at_call 47;rw [HCUT.out];((with_reducible refine (name_any _ _ ?_).mono ?_);(first | omega | skip);rintro e w2 ⟨rfl,rfl⟩;rw [HB.out,hn'])))
     go_ret
     exact ⟨grownBy.setCell' (grownBy.setCell' (grownBy.refl' _ _) _ _) _ _,.inr ⟨HF2.out,rfl⟩⟩
theorem all_any (b g n:Nat) (f:Nat→FuncId) (run:Nat→Rd→Option Rd) (w:World) (_hn:n≤100) (hgb:g≠b) (hg:g<w.heap.size)
 (hcall:∀ j,j<n→∀ args (v:World),(callFunc (f j) args).run Tryz.prog v = .ok (.enter (f j) args) v)
 (hcell:∀ j,j<n→w.cell? ⟨g,j,none⟩=some (.func (.func (f j)) #[.pointer (some ⟨b,0,none⟩)] #[]))
 (P:Nat→Rd→Prop) (d:Rd) (h0:P 0 d) (hr:RdAt w b d)
 (hstep:∀ j,j<n→∀ d (w:World),P j d→RdAt w b d→(∀ d',run j d=some d'→P (j+1) d')∧Calls Tryz.prog (f j) #[.pointer (some ⟨b,0,none⟩)] w (Part (run j d) b w))
 (o:Option Rd) (hend:∀ d',P n d'→o=some d') (hbad:∀ j d',j<n→P j d'→run j d'=none→o=none) :
 Calls Tryz.prog 209 #[.slice (some ⟨g,0,none⟩) n n] w (Part o b w):=by
 have HC:=Lib.hid hcall;clear hcall
 have HL:=Lib.hid hcell;clear hcell
 have HS:=Lib.hid hstep;clear hstep
 have HE:=Lib.hid hend;clear hend
 have HB:=Lib.hid hbad;clear hbad
 have H0:=Lib.hid h0;clear h0
 have HR:=Lib.hid hr;clear hr
 go_enter Tryz.func209,Tryz.ntmps209
 go_wp2_with fail
 go_loopw [7] (fun i wr=>∃ (j:Nat) (d:Rd),i = .int .i64 j∧j≤n∧Hid (P j d)∧Hid (RdAt wr b d)∧Hid (w.grownBy wr (some b)))
  (fun i _=>n - (intOf i).toNat)
 case atStart=>exact ⟨0,d,rfl,by omega,H0,HR,Lib.hid (grownBy.refl' _ _)⟩
 case round =>
  obtain ⟨j,d,rfl,hj,HP,HRD,HG⟩:=hrel
  by_cases hlt:j<n
  · have hji:(j:Int)<(n:Int):=by omega
    have hce:wr.cell? ⟨g,j,none⟩=some (.func (.func (f j)) #[.pointer (some ⟨b,0,none⟩)] #[]):=by
     rw [cell_other HG.out (by exact hg) (by intro h;exact hgb (Option.some.inj h))];exact HL.out j hlt
    have hca:=HC.out j hlt
    obtain ⟨fj,hfj⟩:∃ fj,f j=fj:=⟨_,rfl⟩
    rw [hfj] at hce hca
    have HFJ:=Lib.hid hfj;clear hfj
    cases hq:run j d with
    | some d' =>
      have HQ:=Lib.hid hq;clear hq
      go_wp2_with fail
      have hs:=HS.out j hlt d wr HP.out HRD.out
      rw [HFJ.out,HQ.out] at hs
      have HS1:=Lib.hid (hs.1 d' rfl)
      refine hs.2.mono ?_
      rintro e w1 ⟨hg1,⟨d2,h1,rfl,h3⟩ | ⟨h1,_⟩⟩
      · injection h1 with h1;subst h1
        have HG1:=Lib.hid (grownBy.trans' HG.out hg1);clear hg1
        have HR1:=Lib.hid h3;clear h3
        clear hs
        go_wp2_with fail
        go_roundw
        case rel=>exact ⟨j+1,d',by go_num,by omega,HS1,HR1,HG1⟩
        case measure=>simp [intOf];omega
      · cases h1
    | none =>
      have HQ:=Lib.hid hq;clear hq
      go_wp2_with fail
      have hs:=HS.out j hlt d wr HP.out HRD.out
      rw [HFJ.out,HQ.out] at hs
      refine hs.2.mono ?_
      rintro e w1 ⟨hg1,⟨d2,h1,_,_⟩ | ⟨_,rfl⟩⟩
      · cases h1
      · have HG1:=Lib.hid (grownBy.trans' HG.out hg1);clear hg1
        clear hs
        go_wp2_with fail
        go_ret
        exact ⟨HG1.out,.inr ⟨HB.out j d hlt HP.out HQ.out,rfl⟩⟩
  · have hji:¬ (j:Int)<(n:Int):=by omega
    have hjn:j=n:=by omega
    have hen:=HE.out d (by rw [← hjn];exact HP.out)
    have HEN:=Lib.hid hen;clear hen hjn
    go_wp2_with fail
    go_ret
    exact ⟨HG.out,.inl ⟨d,HEN.out,rfl,HRD.out⟩⟩
def chain (run:Nat→Rd→Option Rd) (d:Rd):Nat→Option Rd
 | 0=>some d
 | j+1=>(chain run d j).bind (run j)
theorem chain_none (run:Nat→Rd→Option Rd) (d:Rd) (j:Nat) (h:chain run d j=none):∀ m,chain run d (j+m)=none
 | 0=>h
 | m+1=>by show (chain run d (j+m)).bind (run (j+m))=none;rw [chain_none run d j h m];rfl
def Keeps (f:Rd→Option Rd):Prop:=∀ d d',d.k≤d.s.size→f d=some d'→d'.s=d.s∧d'.k≤d.s.size
theorem keeps_sheet:Keeps Rd.sheet:=by
 intro d d' hk h
 unfold Rd.sheet at h
 by_cases h1:d.sheetP.length=d.s.size
 · rw [if_pos h1] at h;injection h with h;subst h;exact ⟨rfl,hk⟩
 · rw [if_neg h1] at h
   have:=sheetP_lt d h1
   by_cases h2:nameL d.sheetP=true
   · rw [if_pos h2] at h;injection h with h;subst h;exact ⟨rfl,this⟩
   · rw [if_neg h2] at h;cases h
theorem mark_le (d:Rd) (hk:d.k≤d.s.size):d.k+(dol d.mark).length≤d.s.size:=by
 have h1:=congrArg List.length (mark_rest d)
 rw [List.length_append,length_rest] at h1;omega
theorem keeps_absCol:Keeps Rd.absCol:=by
 intro d d' hk h
 unfold Rd.absCol at h;injection h with h;subst h;exact ⟨rfl,mark_le d hk⟩
theorem keeps_absRow:Keeps Rd.absRow:=by
 intro d d' hk h
 unfold Rd.absRow at h;injection h with h;subst h;exact ⟨rfl,mark_le d hk⟩
theorem span_le (p:Int→Bool) (d:Rd) (hk:d.k≤d.s.size):d.k+(d.rest.takeWhile p).length≤d.s.size:=by
 have h1:=congrArg List.length (take_split p d.rest)
 rw [List.length_append,length_rest] at h1;omega
theorem keeps_col:Keeps Rd.col:=by
 intro d d' hk h
 unfold Rd.col at h
 by_cases h2:isCol (d.rest.takeWhile isCap)=true
 · rw [if_pos h2] at h;injection h with h;subst h;exact ⟨rfl,span_le isCap d hk⟩
 · rw [if_neg h2] at h;cases h
theorem keeps_row:Keeps Rd.row:=by
 intro d d' hk h
 unfold Rd.row at h
 by_cases h2:isRow (d.rest.takeWhile isNum)=true
 · rw [if_pos h2] at h;injection h with h;subst h;exact ⟨rfl,span_le isNum d hk⟩
 · rw [if_neg h2] at h;cases h
theorem keeps_fin:Keeps Rd.fin:=by
 intro d d' hk h
 unfold Rd.fin at h
 by_cases h2:d.k=d.s.size
 · rw [if_pos h2] at h;injection h with h;subst h;exact ⟨rfl,hk⟩
 · rw [if_neg h2] at h;cases h
theorem all_chain (b g n:Nat) (f:Nat→FuncId) (run:Nat→Rd→Option Rd) (w:World) (hn:n≤100) (hgb:g≠b) (hg:g<w.heap.size)
 (hcall:∀ j,j<n→∀ args (v:World),(callFunc (f j) args).run Tryz.prog v = .ok (.enter (f j) args) v)
 (hcell:∀ j,j<n→w.cell? ⟨g,j,none⟩=some (.func (.func (f j)) #[.pointer (some ⟨b,0,none⟩)] #[]))
 (d:Rd) (hr:RdAt w b d) (hs:d.s.size≤1000000) (hk:d.k≤d.s.size)
 (hkeep:∀ j,j<n→Keeps (run j))
 (hpart:∀ j,j<n→∀ d (w:World),RdAt w b d→d.s.size≤1000000→d.k≤d.s.size→Calls Tryz.prog (f j) #[.pointer (some ⟨b,0,none⟩)] w (Part (run j d) b w)) :
 Calls Tryz.prog 209 #[.slice (some ⟨g,0,none⟩) n n] w (Part (chain run d n) b w):=by
 refine all_any b g n f run w hn hgb hg hcall hcell (fun j e=>chain run d j=some e∧e.s=d.s∧e.k≤d.s.size) d ⟨rfl,rfl,hk⟩ hr ?_ _ ?_ ?_
 · rintro j hj e v ⟨h1,h2,h3⟩ hrv
   refine ⟨?_,hpart j hj e v hrv (by rw [h2];exact hs) (by rw [h2];exact h3)⟩
   intro e' he'
   obtain ⟨k1,k2⟩:=hkeep j hj e e' (by rw [h2];exact h3) he'
   refine ⟨?_,by rw [k1,h2],by rw [← h2];exact k2⟩
   show (chain run d j).bind (run j)=some e'
   rw [h1];exact he'
 · rintro e ⟨h1,_,_⟩;exact h1
 · rintro j e hj ⟨h1,_,_⟩ h2
   have h3:chain run d (j+1)=none:=by show (chain run d j).bind (run j)=none;rw [h1];exact h2
   have:=chain_none run d (j+1) h3 (n - (j+1))
   rw [show j+1+(n - (j+1))=n from by omega] at this;exact this
theorem below_of_grownBy {w w1 w2:World} {r B:Nat} (hb:Below B w w1) (h:w1.grownBy w2 (some r)) (hB:B≤w1.heap.size) (hr:B≤r):Below B w w2 :=
 hb.grown h hB (fun k hk=>by cases hk;exact hr)
theorem hmf (fn:Fn) (first cap:Array Value) (w:World):(Instr.makeFunc fn first cap).run Tryz.prog w = .ok (.func fn first cap) w:=rfl
def wR (s:ByteArray) (w:World):World:=w.alloc (.cells #[.string s,.int .i64 0,.string ⟨#[]⟩,.int .i64 0,.int .i64 0,.bool false,.bool false] 224)
def mv (f:FuncId) (b:Nat):Value := .func (.func f) #[.pointer (some ⟨b,0,none⟩)] #[]
def wF (s:ByteArray) (l:Array Value) (w:World):World:=(wR s w).alloc (.cells l 23)
theorem size_wR (s:ByteArray) (w:World):(wR s w).heap.size=w.heap.size+1:=by unfold wR;simp
theorem size_wF (s:ByteArray) (l:Array Value) (w:World):(wF s l w).heap.size=w.heap.size+1+1:=by unfold wF;rw [← size_wR s w];simp
theorem rd_wF (s:ByteArray) (l:Array Value) (w:World):RdAt (wF s l w) w.heap.size (Rd.start s):=by
 have h:RdAt (wR s w) w.heap.size (Rd.start s):=(Go.MapKept.heap_alloc w _).1
 exact h.below ((Below.refl _ _).alloc (Nat.le_refl _) _) h.lt
theorem below_wF (s:ByteArray) (l:Array Value) (w:World):Below w.heap.size w (wF s l w):=((Below.refl _ _).alloc (Nat.le_refl _) _).alloc (by have:=size_wR s w;unfold wR at this;omega) _
theorem cell_wF (s:ByteArray) (l:Array Value) (w:World) (L:List Value) (hl:l.toList=L) (j:Nat) (u:Value) (hj:L[j]? = some u):(wF s l w).cell? ⟨w.heap.size+1,j,none⟩=some u:=by
 have h:=cells_new (w:=wR s w) l 23 L hl j u hj
 rw [Addr.add_mid,Nat.zero_add,size_wR] at h
 exact h
theorem all_new (n:Nat) (f:Nat→FuncId) (run:Nat→Rd→Option Rd) (s:ByteArray) (w:World) (l:Array Value) (L:List Value) (hl:l.toList=L) (hn:n≤100) (hs:s.size≤1000000)
 (hcall:∀ j,j<n→∀ args (v:World),(callFunc (f j) args).run Tryz.prog v = .ok (.enter (f j) args) v)
 (hL:∀ j,j<n→L[j]? = some (mv (f j) w.heap.size))
 (hkeep:∀ j,j<n→Keeps (run j))
 (hpart:∀ j,j<n→∀ b d (w:World),RdAt w b d→d.s.size≤1000000→d.k≤d.s.size→Calls Tryz.prog (f j) #[.pointer (some ⟨b,0,none⟩)] w (Part (run j d) b w)) :
 Calls Tryz.prog 209 #[.slice (some ⟨w.heap.size+1,0,none⟩) n n] (wF s l w) fun e w'=>Below w.heap.size w w'∧((∃ d',chain run (Rd.start s) n=some d'∧e = .returned (.bool true)∧RdAt w' w.heap.size d')∨(chain run (Rd.start s) n=none∧e = .returned (.bool false))):=by
 refine (all_chain w.heap.size (w.heap.size+1) n f run (wF s l w) hn (by omega) (by rw [size_wF];omega) hcall (fun j hj=>cell_wF s l w L hl j _ (hL j hj)) (Rd.start s) (rd_wF s l w) hs (Nat.zero_le _) hkeep (fun j hj d v=>hpart j hj w.heap.size d v)).mono ?_
 rintro e w' ⟨h1,h2⟩
 exact ⟨below_of_grownBy (below_wF s l w) h1 (by rw [size_wF];omega) (Nat.le_refl _),h2⟩
theorem e_col:∀ args (v:World),(callFunc 212 args).run Tryz.prog v = .ok (.enter 212 args) v:=Go.Proofs.enters_of Tryz.func212 (by kernel_rfl) rfl
theorem e_end:∀ args (v:World),(callFunc 215 args).run Tryz.prog v = .ok (.enter 215 args) v:=Go.Proofs.enters_of Tryz.func215 (by kernel_rfl) rfl
theorem e_sheet:∀ args (v:World),(callFunc 210 args).run Tryz.prog v = .ok (.enter 210 args) v:=Go.Proofs.enters_of Tryz.func210 (by kernel_rfl) rfl
theorem e_absCol:∀ args (v:World),(callFunc 211 args).run Tryz.prog v = .ok (.enter 211 args) v:=Go.Proofs.enters_of Tryz.func211 (by kernel_rfl) rfl
theorem e_absRow:∀ args (v:World),(callFunc 213 args).run Tryz.prog v = .ok (.enter 213 args) v:=Go.Proofs.enters_of Tryz.func213 (by kernel_rfl) rfl
theorem e_row:∀ args (v:World),(callFunc 214 args).run Tryz.prog v = .ok (.enter 214 args) v:=Go.Proofs.enters_of Tryz.func214 (by kernel_rfl) rfl
def refRun:Nat→Rd→Option Rd
 | 0=>Rd.sheet
 | 1=>Rd.absCol
 | 2=>Rd.col
 | 3=>Rd.absRow
 | 4=>Rd.row
 | _=>Rd.fin
def refFn:Nat→FuncId
 | 0=>210
 | 1=>211
 | 2=>212
 | 3=>213
 | 4=>214
 | _=>215
theorem ref_parts (s:ByteArray) (w:World) (hs:s.size≤1000000) :
 Calls Tryz.prog 209 #[.slice (some ⟨w.heap.size+1,0,none⟩) 6 6] (wF s #[mv 210 w.heap.size,mv 211 w.heap.size,mv 212 w.heap.size,mv 213 w.heap.size,mv 214 w.heap.size,mv 215 w.heap.size] w) fun e w'=>Below w.heap.size w w'∧((∃ d',readS s=some d'∧e = .returned (.bool true)∧RdAt w' w.heap.size d')∨(readS s=none∧e = .returned (.bool false))):=by
 refine all_new 6 refFn refRun s w _ _ rfl (by omega) hs ?_ ?_ ?_ ?_
 · intro j hj
   match j,hj with
   | 0,_=>exact e_sheet
   | 1,_=>exact e_absCol
   | 2,_=>exact e_col
   | 3,_=>exact e_absRow
   | 4,_=>exact e_row
   | 5,_=>exact e_end
 · intro j hj
   match j,hj with
   | 0,_=>rfl
   | 1,_=>rfl
   | 2,_=>rfl
   | 3,_=>rfl
   | 4,_=>rfl
   | 5,_=>rfl
 · intro j hj
   match j,hj with
   | 0,_=>exact keeps_sheet
   | 1,_=>exact keeps_absCol
   | 2,_=>exact keeps_col
   | 3,_=>exact keeps_absRow
   | 4,_=>exact keeps_row
   | 5,_=>exact keeps_fin
 · intro j hj b d v h1 h2 h3
   match j,hj with
   | 0,_=>exact sheet_any b d v h1 h2
   | 1,_=>exact absCol_any b d v h1 h2 h3
   | 2,_=>exact colPart_any b d v h1 h2 h3
   | 3,_=>exact absRow_any b d v h1 h2 h3
   | 4,_=>exact rowPart_any b d v h1 h2 h3
   | 5,_=>exact fin_any b d v h1 h2 h3
theorem below_setCell5 {w w1:World} {a0 a1 a2 a3 a4:Value} (h:Below w.heap.size w w1):Below w.heap.size w (((((w1.setCell ⟨w.heap.size,0,none⟩ a0).setCell ⟨w.heap.size,1,none⟩ a1).setCell ⟨w.heap.size,2,none⟩ a2).setCell ⟨w.heap.size,3,none⟩ a3).setCell ⟨w.heap.size,4,none⟩ a4) :=
 ((((h.setCell (Nat.le_refl _) _).setCell (Nat.le_refl _) _).setCell (Nat.le_refl _) _).setCell (Nat.le_refl _) _).setCell (Nat.le_refl _) _
set_option maxRecDepth 100000 in
set_option maxHeartbeats 400000 in
theorem read_any (s:ByteArray) (w:World) (_hs:s.size≤1000000) :
 Calls Tryz.prog 199 #[.string s] w fun e w'=>Says (sb s) e∧Below w.heap.size w w':=by
 have hmf:=hmf
 have hall:=ref_parts s (w.alloc (.cells #[.string ⟨#[]⟩,.int .i64 0,.int .i64 0,.bool false,.bool false] 99)) _hs
 have hsz:(w.alloc (.cells #[.string ⟨#[]⟩,.int .i64 0,.int .i64 0,.bool false,.bool false] 99)).heap.size=w.heap.size+1:=by simp
 have hr0:=RefAt.new w ⟨#[]⟩ 0 0 false false
 have hb0:Below w.heap.size w (w.alloc (.cells #[.string ⟨#[]⟩,.int .i64 0,.int .i64 0,.bool false,.bool false] 99)):=(Below.refl _ _).alloc (Nat.le_refl _) _
 rw [hsz] at hall
 have HALL:=Lib.hid hall;clear hall
 have HR:=Lib.hid hr0;clear hr0
 have HB0:=Lib.hid hb0;clear hb0
 have HSZ:=Lib.hid hsz;clear hsz
 go_enter Tryz.func199,Tryz.ntmps199
 go_wp2_with fail
 refine HALL.out.mono ?_
 rintro e w1 ⟨hb,⟨d',h1,rfl,h3⟩ | ⟨h1,rfl⟩⟩
 · have hr1:=HR.out.below hb (by omega)
   obtain ⟨x0,x1,x2,x3,x4⟩:=hr1.facts
   have f0:=frozen_of_row w1 w.heap.size 0 _ _ hr1
   have f1:=frozen_of_row w1 w.heap.size 1 _ _ hr1
   have f2:=frozen_of_row w1 w.heap.size 2 _ _ hr1
   have f3:=frozen_of_row w1 w.heap.size 3 _ _ hr1
   have f4:=frozen_of_row w1 w.heap.size 4 _ _ hr1
   have hB:=HB0.out.trans (hb.mono (by omega))
   obtain ⟨c0,c1,c2,c3,c4,c5,c6⟩:=h3.facts
   clear c0 c1
   have H1:=Lib.hid h1;clear h1
   have H3:=Lib.hid h3;clear h3
   have HB:=Lib.hid hB;clear hB hb
   have HR1:=Lib.hid hr1;clear hr1
   go_wp2_with fail
   obtain ⟨r1,r2,r3⟩:=read_some s d' H1.out
   (try simp only [Exit.inBlock,Exit.then])
   refine bodyPost_ret (v := .tuple #[.agg #[.string d'.sh,.int .i64 d'.c,.int .i64 d'.r,.bool d'.ac,.bool d'.ar],.bool true]) ?_ rfl ⟨.inl ⟨d'.sh,d'.c,d'.r,d'.ac,d'.ar,r1,r2,r3,rfl⟩, ?_⟩
   · rw [results_cell_tmp rfl]
     go_simp
   · exact below_setCell5 HB.out
 · have hr1:=HR.out.below hb (by omega)
   obtain ⟨x0,x1,x2,x3,x4⟩:=hr1.facts
   have f0:=frozen_of_row w1 w.heap.size 0 _ _ hr1
   have f1:=frozen_of_row w1 w.heap.size 1 _ _ hr1
   have f2:=frozen_of_row w1 w.heap.size 2 _ _ hr1
   have f3:=frozen_of_row w1 w.heap.size 3 _ _ hr1
   have f4:=frozen_of_row w1 w.heap.size 4 _ _ hr1
   have hB:=HB0.out.trans (hb.mono (by omega))
   have H1:=Lib.hid h1;clear h1
   have HB:=Lib.hid hB;clear hB hb
   have HR1:=Lib.hid hr1;clear hr1
   go_wp2_with fail
   have r1:=read_none s H1.out
   (try simp only [Exit.inBlock,Exit.then])
   refine bodyPost_ret (v := .tuple #[.agg #[.string ⟨#[]⟩,.int .i64 0,.int .i64 0,.bool false,.bool false],.bool false]) ?_ rfl ⟨.inr ⟨r1,rfl⟩, ?_⟩
   · rw [results_cell_tmp rfl]
     go_simp
   · exact below_setCell5 HB.out
theorem sb_dec:∀ (n u:Nat),u<n→sb ⟨(Lib.decDigits u).toArray⟩=digL u:=by
 have sbm:∀ l:List UInt8,sb ⟨l.toArray⟩=l.map (fun b=>(b.toNat:Int)):=fun l=>rfl
 intro n
 induction n with
 | zero=>intro u h;omega
 | succ n ih =>
   intro u hu
   rw [sbm,Lib.decDigits]
   by_cases h:u<10
   · rw [dif_pos h,digL_small u h]
     simp only [List.map_cons,List.map_nil]
     rw [UInt8.toNat_ofNat_of_lt' (by show 48+u<256;omega)];congr 1
   · rw [dif_neg h,digL_more u h,List.map_append, ← sbm,ih (u / 10) (by omega)]
     simp only [List.map_cons,List.map_nil]
     rw [UInt8.toNat_ofNat_of_lt' (by show 48+u % 10<256;omega)];congr 1
theorem dec_str (u:Nat):(⟨(Lib.decDigits u).toArray⟩:ByteArray)=strOfNums (digL u):=by
 rw [← str_sb ⟨(Lib.decDigits u).toArray⟩,sb_dec (u+1) u (by omega)]
def Tab (w : World) : Prop := Lib.TabIs Tryz.prog w "internal/strconv.uint64pow10" .u64 Lib.pow10Tab
theorem gTab : Tryz.prog.globalNamed "internal/strconv.uint64pow10" = some 3 := by kernel_rfl
theorem Tab.below {w w':World} (h:Tab w) (hb:Below w.heap.size w w'):Tab w':=by
 unfold Tab Lib.TabIs World.var? at h ⊢
 rw [gTab] at h ⊢
 simp only [Option.bind_some] at h ⊢
 rw [hb.block _ ?_]
 · exact h
 · rcases Nat.lt_or_ge 3 w.heap.size with h' | h'
   · exact h'
   · rw [Array.getElem?_eq_none h'] at h;cases h
theorem below_grow (w:World) (k:Nat) (os:Array Obj):Below w.heap.size w (Sort.grow (w.drewN k) os):=by
 refine ⟨rfl,rfl,rfl, ?_, ?_⟩
 · show w.heap.size≤(w.heap++os).size
   simp
 · intro j hj
   show (w.heap++os)[j]? = w.heap[j]?
   rw [Array.getElem?_append_left hj]
theorem itoa_any (n:Nat) (_h1:n≤9223372036854775807) (w:World) (ht:Tab w) :
 Calls Tryz.prog 59 #[.int .i64 (n:Int)] w fun e w'=>e = .returned (.string (strOfNums (digL n)))∧Below w.heap.size w w':=by
 refine (Tryz.strconv_Itoa (n:Int) (by omega) (by omega) w ht).mono ?_
 rintro e w' ⟨rfl,k,os,rfl⟩
 refine ⟨?_,below_grow w k os⟩
 have:Lib.itoa (n:Int)=Lib.decDigits n:=by unfold Lib.itoa;rw [if_neg (by omega)];rfl
 rw [this,dec_str]
theorem natAbs_digits (n:Int) (h:n<0):(⟨(Lib.itoa n).toArray⟩:ByteArray)=strOfNums (decL n):=by
 have sbm:∀ l:List UInt8,sb ⟨l.toArray⟩=l.map (fun b=>(b.toNat:Int)):=fun l=>rfl
 rw [← str_sb ⟨(Lib.itoa n).toArray⟩]
 congr 1
 unfold Lib.itoa decL
 rw [if_pos h,if_pos h,sbm,List.map_cons, ← sbm,sb_dec (n.natAbs+1) _ (by omega)];rfl
theorem itoaZ_any (n:Int) (_h0 : -9223372036854775808≤n) (_h1:n≤9223372036854775807) (w:World) (ht:Tab w) :
 Calls Tryz.prog 59 #[.int .i64 n] w fun e w'=>e = .returned (.string (strOfNums (decL n)))∧Below w.heap.size w w':=by
 by_cases h:n<0
 · refine (Tryz.strconv_Itoa n (by omega) (by omega) w ht).mono ?_
   rintro e w' ⟨rfl,k,os,rfl⟩
   exact ⟨by rw [natAbs_digits n h],below_grow w k os⟩
 · obtain ⟨m,rfl⟩:∃ m:Nat,n=m:=⟨n.toNat,by omega⟩
   have hd:decL (m:Int)=digL m:=by unfold decL;rw [if_neg (by omega)];rfl
   rw [hd];exact itoa_any m (by omega) w ht
structure Tk where
 kind:Int
 text:ByteArray
 num:Int
 sh:ByteArray
 c:Int
 r:Int
 ac:Bool
 ar:Bool
 pos:Int
def Tk.zero:Tk:=⟨0,⟨#[]⟩,0,⟨#[]⟩,0,0,false,false,0⟩
def Tk.goto (t:Tk) (p:Int):Tk:={ t with pos:=p }
def isWord (x:Int):Bool:=isLet x||(isNum x||decide (x=36∨x=33))
def numT (l:List Int):Option (Tk × Nat) :=
 if (1<(l.takeWhile isNum).length∧l.head? = some 48)∨9223372036854775807<valL (l.takeWhile isNum) then none
 else some ({ Tk.zero with kind:=1,num:=valL (l.takeWhile isNum) },(l.takeWhile isNum).length)
def quoF:List Int→Option (List Int × Nat)
 | []=>none
 | x :: l =>
   if x<32 then none
   else if x≠34 then (quoF l).map fun p=>(x :: p.1,p.2+1)
   else match l with
    | y :: m=>if y=34 then (quoF m).map fun p=>(34 :: p.1,p.2+2) else some ([],1)
    | []=>some ([],1)
def quoT (l:List Int):Option (Tk × Nat):=(quoF l).map fun p=>({ Tk.zero with kind:=2,text:=strOfNums p.1 },p.2+1)
def calledL (l:List Int):Bool:=decide (∀ x∈l,(isCap x||isNum x)=true)&&(decide (1≤l.length∧l.length≤12)&&isCap (l.getD 0 0))
def wordT (l:List Int):Option (Tk × Nat) :=
 match readS (strOfNums (l.takeWhile isWord)) with
 | some d=>some ({ Tk.zero with kind:=4,sh:=d.sh,c:=d.c,r:=d.r,ac:=d.ac,ar:=d.ar },(l.takeWhile isWord).length)
 | none=>if calledL (l.takeWhile isWord)=true then some ({ Tk.zero with kind:=3,text:=strOfNums (l.takeWhile isWord) },(l.takeWhile isWord).length) else none
def deadT (l:List Int):Option (Tk × Nat):=if l.take 5=[35,82,69,70,33] then some ({ Tk.zero with kind:=6 },5) else none
def signN:List Int→Nat
 | []=>0
 | x :: l =>
   if (x=60∧(l.head? = some 62∨l.head? = some 61))∨(x=62∧l.head? = some 61) then 2
   else if x=43∨x=45∨x=42∨x=47∨x=38∨x=61∨x=60∨x=62∨x=40∨x=41∨x=44∨x=58 then 1 else 0
def signT (l:List Int):Option (Tk × Nat):=if signN l=0 then none else some ({ Tk.zero with kind:=5,text:=strOfNums (l.take (signN l)) },signN l)
def tokT:List Int→Option (Tk × Nat)
 | []=>none
 | x :: l=>if isNum x=true then numT (x :: l) else if x=34 then quoT l else if x=35 then deadT (x :: l) else if isLet x=true∨x=36 then wordT (x :: l) else signT (x :: l)
def lexF:Nat→Nat→List Int→Option (List Tk)
 | _,p,[]=>some [Tk.zero.goto p]
 | 0,_,_ :: _=>none
 | f + 1,p,x :: l =>
   if x=32 then lexF f (p+1) l
   else match tokT (x :: l) with
    | none=>none
    | some (t,n)=>(lexF f (p+n) ((x :: l).drop n)).map (t.goto p :: ·)
def lexL (l:List Int):Option (List Tk):=lexF l.length 0 l
theorem tokT_cons (x:Int) (l:List Int):tokT (x :: l)=if isNum x=true then numT (x :: l) else if x=34 then quoT l else if x=35 then deadT (x :: l) else if isLet x=true∨x=36 then wordT (x :: l) else signT (x :: l):=rfl
theorem quoF_cons (x:Int) (l:List Int):quoF (x :: l)=if x<32 then none else if x≠34 then (quoF l).map fun p=>(x :: p.1,p.2+1) else match l with
 | y :: m=>if y=34 then (quoF m).map fun p=>(34 :: p.1,p.2+2) else some ([],1)
 | []=>some ([],1):=by conv=>lhs;rw [quoF.eq_def]
theorem lexF_cons (f p:Nat) (x:Int) (l:List Int):lexF (f+1) p (x :: l)=if x=32 then lexF f (p+1) l else match tokT (x :: l) with
 | none=>none
 | some (t,n)=>(lexF f (p+n) ((x :: l).drop n)).map (t.goto p :: ·):=rfl
theorem take_le (p:Int→Bool) (l:List Int):(l.takeWhile p).length≤l.length:=by
 have h:=congrArg List.length (take_split p l)
 rw [List.length_append] at h;omega
theorem take_pos (p:Int→Bool) (x:Int) (l:List Int) (h:p x=true):0<((x :: l).takeWhile p).length:=by
 rw [List.takeWhile_cons,if_pos h];simp
theorem quoF_le:∀ (n:Nat) (l:List Int) (t:List Int) (k:Nat),l.length≤n→quoF l=some (t,k)→0<k∧k≤l.length
 | _,[],_,_,_,h=>by simp [quoF] at h
 | 0,_ :: _,_,_,hn,_=>by simp at hn
 | n + 1, x :: l,t,k,hn,h=>by
   rw [quoF_cons] at h
   by_cases h1:x<32
   · rw [if_pos h1] at h;cases h
   · rw [if_neg h1] at h
     by_cases h2:x≠34
     · rw [if_pos h2] at h
       cases hq:quoF l with
       | none=>rw [hq] at h;cases h
       | some q =>
         rw [hq] at h
         simp only [Option.map_some,Option.some.injEq,Prod.mk.injEq] at h
         have:=quoF_le n l q.1 q.2 (by simp at hn;omega) hq
         simp only [List.length_cons];omega
     · rw [if_neg h2] at h
       cases l with
       | nil=>simp at h;simp only [List.length_cons,List.length_nil];omega
       | cons y m =>
         by_cases hy:y=34
         · simp only [hy,if_true] at h
           cases hq:quoF m with
           | none=>rw [hq] at h;cases h
           | some q =>
             rw [hq] at h
             simp only [Option.map_some,Option.some.injEq,Prod.mk.injEq] at h
             have:=quoF_le n m q.1 q.2 (by simp at hn;omega) hq
             simp only [List.length_cons];omega
         · simp only [hy,if_false,Option.some.injEq,Prod.mk.injEq] at h
           simp only [List.length_cons];omega
theorem signN_cons (x:Int) (l:List Int):signN (x :: l)=if (x=60∧(l.head? = some 62∨l.head? = some 61))∨(x=62∧l.head? = some 61) then 2
 else if x=43∨x=45∨x=42∨x=47∨x=38∨x=61∨x=60∨x=62∨x=40∨x=41∨x=44∨x=58 then 1 else 0:=rfl
theorem signN_le:∀ l:List Int,signN l≤l.length
 | []=>Nat.le_refl _
 | x :: l=>by
   rw [signN_cons]
   by_cases h:(x=60∧(l.head? = some 62∨l.head? = some 61))∨(x=62∧l.head? = some 61)
   · rw [if_pos h]
     have h0:l≠[]:=by rintro rfl;simp at h
     have:=List.length_pos_iff.2 h0
     simp only [List.length_cons];omega
   · rw [if_neg h]
     split <;> simp
theorem isWord_let {x:Int} (h:isLet x=true∨x=36):isWord x=true:=by
 unfold isWord
 rcases h with h | h
 · rw [h];rfl
 · subst h;decide
theorem tokT_le (l:List Int) (t:Tk) (n:Nat) (h:tokT l=some (t,n)):0<n∧n≤l.length:=by
 cases l with
 | nil=>simp [tokT] at h
 | cons x l =>
   rw [tokT_cons] at h
   by_cases h1:isNum x=true
   · rw [if_pos h1] at h
     unfold numT at h
     split at h
     · cases h
     · simp only [Option.some.injEq,Prod.mk.injEq] at h
       rw [← h.2];exact ⟨take_pos isNum x l h1,take_le _ _⟩
   · rw [if_neg h1] at h
     by_cases h2:x=34
     · rw [if_pos h2] at h
       unfold quoT at h
       cases hq:quoF l with
       | none=>rw [hq] at h;cases h
       | some q =>
         rw [hq] at h
         simp only [Option.map_some,Option.some.injEq,Prod.mk.injEq] at h
         have:=quoF_le _ l q.1 q.2 (Nat.le_refl _) hq
         simp only [List.length_cons];omega
     · rw [if_neg h2] at h
       by_cases h3:x=35
       · rw [if_pos h3] at h
         unfold deadT at h
         split at h
         · rename_i h5
           simp only [Option.some.injEq,Prod.mk.injEq] at h
           have:=congrArg List.length h5
           rw [List.length_take] at this
           simp only [List.length_cons,List.length_nil] at this ⊢;omega
         · cases h
       · rw [if_neg h3] at h
         by_cases h4:isLet x=true∨x=36
         · rw [if_pos h4] at h
           unfold wordT at h
           split at h
           · simp only [Option.some.injEq,Prod.mk.injEq] at h
             rw [← h.2];exact ⟨take_pos isWord x l (isWord_let h4),take_le _ _⟩
           · split at h
             · simp only [Option.some.injEq,Prod.mk.injEq] at h
               rw [← h.2];exact ⟨take_pos isWord x l (isWord_let h4),take_le _ _⟩
             · cases h
         · rw [if_neg h4] at h
           unfold signT at h
           split at h
           · cases h
           · rename_i h5
             simp only [Option.some.injEq,Prod.mk.injEq] at h
             rw [← h.2];exact ⟨by omega,signN_le _⟩
theorem lexF_more:∀ (f g p:Nat) (l:List Int),l.length≤f→l.length≤g→lexF f p l=lexF g p l
 | 0,0,_,_,_,_=>rfl
 | _,_,_,[],_,_=>by unfold lexF;rfl
 | 0,_,_,_ :: _,h,_=>by simp at h
 | _,0,_,_ :: _,_,h=>by simp at h
 | f + 1,g+1,p,x :: l,h,h2=>by
   simp only [List.length_cons] at h h2
   rw [lexF_cons,lexF_cons]
   by_cases hx:x=32
   · rw [if_pos hx,if_pos hx];exact lexF_more f g (p+1) l (by omega) (by omega)
   · rw [if_neg hx,if_neg hx]
     cases ht:tokT (x :: l) with
     | none=>rfl
     | some q =>
       obtain ⟨t,n⟩:=q
       have hn:=tokT_le _ _ _ ht
       simp only
       rw [lexF_more f g (p+n) ((x :: l).drop n) (by rw [List.length_drop];simp only [List.length_cons];omega) (by rw [List.length_drop];simp only [List.length_cons];omega)]
def Alike (b b':List Int):Prop:=b'.head? = b.head? ∨ b'.head? = some 32
theorem head_no {p:Int→Bool} (hp:p 32=false) {b b':List Int} (h:Alike b b') (hb:∀ x,b.head? = some x→p x=false):∀ x,b'.head? = some x→p x=false:=by
 intro x hx
 rcases h with h | h
 · exact hb x (by rw [← h];exact hx)
 · rw [h] at hx;injection hx with hx;rw [← hx];exact hp
theorem span_alike {p:Int→Bool} (hp:p 32=false) {a b b':List Int} (h:Alike b b') (hs:((a++b).takeWhile p).length=a.length):(a++b).takeWhile p=a∧(a++b').takeWhile p=a:=by
 have e:=take_split p (a++b)
 rw [hs,List.drop_left] at e
 have e1:(a++b).takeWhile p=a:=List.append_cancel_right e
 refine ⟨e1, ?_⟩
 have hall:∀ x∈a,p x=true:=fun x hx=>take_all p (a++b) x (by rw [e1];exact hx)
 have hh:=take_head p (a++b)
 rw [hs,List.drop_left] at hh
 exact take_part p a b' hall (head_no hp h hh)
theorem quoF_alike {b b':List Int} (h:Alike b b'):∀ (n:Nat) (a t:List Int),a.length≤n→quoF (a++b)=some (t,a.length)→quoF (a++b')=some (t,a.length)
 | _,[],t,_,hq=>by
   exfalso
   have:=quoF_le _ _ _ _ (Nat.le_refl _) hq
   simp at this
 | 0,_ :: _,_,hn,_=>by simp at hn
 | n + 1, x :: a,t,hn,hq=>by
   rw [List.cons_append,quoF_cons] at hq ⊢
   by_cases h1:x<32
   · rw [if_pos h1] at hq;cases hq
   · rw [if_neg h1] at hq ⊢
     by_cases h2:x≠34
     · rw [if_pos h2] at hq ⊢
       cases hr:quoF (a++b) with
       | none=>rw [hr] at hq;cases hq
       | some q =>
         rw [hr] at hq
         simp only [Option.map_some,Option.some.injEq,Prod.mk.injEq,List.length_cons] at hq
         have h3:=quoF_alike h n a q.1 (by simp at hn;omega) (by rw [hr, ← show q.2=a.length from by omega])
         rw [h3]
         simp only [Option.map_some,List.length_cons,Option.some.injEq,Prod.mk.injEq,and_true]
         exact hq.1
     · rw [if_neg h2] at hq ⊢
       cases a with
       | nil =>
         simp only [List.nil_append] at hq ⊢
         cases b with
         | nil =>
           simp only [Option.some.injEq,Prod.mk.injEq] at hq
           cases b' with
           | nil=>simpa using hq
           | cons y m =>
             rcases h with h | h
             · simp at h
             · simp at h;subst h;simpa using hq
         | cons z m =>
           by_cases hz:z=34
           · exfalso
             simp only [hz,if_true] at hq
             cases hr:quoF m with
             | none=>rw [hr] at hq;cases hq
             | some q=>rw [hr] at hq;simp at hq
           · simp only [hz,if_false] at hq
             cases b' with
             | nil=>simpa using hq
             | cons y k =>
               have hy:¬ y=34:=by
                rcases h with h | h
                · simp at h;rw [h];exact hz
                · simp at h;omega
               simp only [hy,if_false];exact hq
       | cons y m =>
         simp only [List.cons_append] at hq ⊢
         by_cases hy:y=34
         · simp only [hy,if_true] at hq ⊢
           cases hr:quoF (m++b) with
           | none=>rw [hr] at hq;cases hq
           | some q =>
             rw [hr] at hq
             simp only [Option.map_some,Option.some.injEq,Prod.mk.injEq,List.length_cons] at hq
             have h3:=quoF_alike h n m q.1 (by simp at hn;omega) (by rw [hr, ← show q.2=m.length from by omega])
             rw [h3]
             simp only [Option.map_some,List.length_cons,Option.some.injEq,Prod.mk.injEq,and_true]
             exact hq.1
         · simp only [hy,if_false,Option.some.injEq,Prod.mk.injEq,List.length_cons] at hq
           exfalso;omega
theorem signN_alike {b b':List Int} (h:Alike b b') (x:Int) (hs:signN (x :: b)=1):signN (x :: b')=1:=by
 rw [signN_cons] at hs ⊢
 by_cases h2:(x=60∧(b.head? = some 62∨b.head? = some 61))∨(x=62∧b.head? = some 61)
 · rw [if_pos h2] at hs;omega
 · rw [if_neg h2] at hs
   have h3:¬ ((x=60∧(b'.head? = some 62∨b'.head? = some 61))∨(x=62∧b'.head? = some 61)):=by
    rcases h with h | h
    · rw [h];exact h2
    · rw [h];simp
   rw [if_neg h3];exact hs
theorem take_len (a b:List Int):(a++b).take a.length=a:=List.take_left
theorem tokT_alike {a b b':List Int} {t:Tk} (h:Alike b b') (hq:tokT (a++b)=some (t,a.length)):tokT (a++b')=some (t,a.length):=by
 cases a with
 | nil =>
   have:=(tokT_le _ _ _ hq).1
   simp at this
 | cons x a =>
   have hsp:∀ (p:Int→Bool),p 32=false→((x :: a++b).takeWhile p).length=(x :: a).length→(x :: a++b').takeWhile p=(x :: a++b).takeWhile p:=by
    intro p hp hl
    obtain ⟨e1,e2⟩:=span_alike hp h hl
    rw [e1,e2]
   rw [List.cons_append,tokT_cons] at hq ⊢
   by_cases h1:isNum x=true
   · rw [if_pos h1] at hq ⊢
     have hn:((x :: a++b).takeWhile isNum).length=(x :: a).length:=by
      unfold numT at hq
      split at hq
      · cases hq
      · simp only [Option.some.injEq,Prod.mk.injEq] at hq;exact hq.2
     have e:=hsp isNum (by decide) hn
     rw [← hq]
     unfold numT
     rw [List.cons_append,List.cons_append] at e
     rw [e];rfl
   · rw [if_neg h1] at hq ⊢
     by_cases h2:x=34
     · rw [if_pos h2] at hq ⊢
       unfold quoT at hq ⊢
       cases hr:quoF (a++b) with
       | none=>rw [hr] at hq;cases hq
       | some q =>
         rw [hr] at hq
         simp only [Option.map_some,Option.some.injEq,Prod.mk.injEq,List.length_cons] at hq
         have h3:=quoF_alike h _ a q.1 (Nat.le_refl _) (by rw [hr, ← show q.2=a.length from by omega])
         rw [h3]
         simp only [Option.map_some,List.length_cons,Option.some.injEq,Prod.mk.injEq,and_true]
         exact hq.1
     · rw [if_neg h2] at hq ⊢
       by_cases h3:x=35
       · rw [if_pos h3] at hq ⊢
         unfold deadT at hq ⊢
         by_cases h5:(x :: (a++b)).take 5=[35,82,69,70,33]
         · rw [if_pos h5] at hq
           simp only [Option.some.injEq,Prod.mk.injEq] at hq
           have e1:(x :: (a++b)).take 5=x :: a:=by rw [hq.2, ← List.cons_append];exact take_len _ _
           have e2:(x :: (a++b')).take 5=x :: a:=by rw [hq.2, ← List.cons_append];exact take_len _ _
           rw [e1] at h5
           rw [e2,if_pos h5,hq.1]
           exact congrArg (fun k=>some (t,k)) hq.2
         · rw [if_neg h5] at hq;cases hq
       · rw [if_neg h3] at hq ⊢
         by_cases h4:isLet x=true∨x=36
         · rw [if_pos h4] at hq ⊢
           have hn:((x :: a++b).takeWhile isWord).length=(x :: a).length:=by
            unfold wordT at hq
            split at hq
            · simp only [Option.some.injEq,Prod.mk.injEq] at hq;exact hq.2
            · split at hq
              · simp only [Option.some.injEq,Prod.mk.injEq] at hq;exact hq.2
              · cases hq
           have e:=hsp isWord (by decide) hn
           rw [← hq]
           unfold wordT
           rw [List.cons_append,List.cons_append] at e
           rw [e]
         · rw [if_neg h4] at hq ⊢
           unfold signT at hq ⊢
           by_cases h5:signN (x :: (a++b))=0
           · rw [if_pos h5] at hq;cases hq
           · rw [if_neg h5] at hq
             simp only [Option.some.injEq,Prod.mk.injEq] at hq
             have e:signN (x :: (a++b'))=signN (x :: (a++b)):=by
              cases a with
              | nil=>rw [hq.2];exact signN_alike h x hq.2
              | cons y a=>rw [signN_cons,signN_cons];rfl
             rw [e,if_neg h5, ← hq.1,hq.2]
             have e1:(x :: (a++b)).take (x :: a).length=x :: a:=by rw [← List.cons_append];exact take_len _ _
             have e2:(x :: (a++b')).take (x :: a).length=x :: a:=by rw [← List.cons_append];exact take_len _ _
             rw [e1,e2]
theorem digL_head:∀ (n u:Nat),u<n→1≤u→(digL u).head? ≠ some 48:=by
 intro n
 induction n with
 | zero=>intro u h;omega
 | succ n ih =>
   intro u hu h1
   by_cases h:u<10
   · rw [digL_small u h];simp;omega
   · rw [digL_more u h]
     have:=ih (u / 10) (by omega) (by omega)
     cases hd:digL (u / 10) with
     | nil=>exact absurd hd (digL_ne _)
     | cons y l=>rw [hd] at this;simpa using this
theorem word_cap {x:Int} (h:isCap x=true):isWord x=true:=isWord_let (.inl (by unfold isCap at h;unfold isLet;rw [decide_eq_true_iff] at h ⊢;omega))
theorem word_num {x:Int} (h:isNum x=true):isWord x=true:=by unfold isWord;rw [h];simp
theorem word_tail (c r:Int) (ac ar:Bool):∀ x∈tailL c r ac ar,isWord x=true:=by
 intro x hx
 unfold tailL at hx
 simp only [List.mem_append] at hx
 rcases hx with h | h | h | h
 · have:=dol_all _ x h;rw [decide_eq_true_iff] at this;subst this;decide
 · exact word_cap (isCap_colL c x h)
 · have:=dol_all _ x h;rw [decide_eq_true_iff] at this;subst this;decide
 · exact word_num (isNum_digL _ x h)
theorem word_name (l:List Int) (h:nameL l=true):∀ x∈l,isWord x=true:=by
 intro x hx
 unfold nameL at h
 rw [Bool.and_eq_true,decide_eq_true_iff] at h
 obtain ⟨j,hj,rfl⟩:=List.mem_iff_getElem.1 hx
 have:=h.1 j hj
 rw [List.getD_eq_getElem?_getD,List.getElem?_eq_getElem hj] at this
 simp only [Option.getD_some] at this
 unfold inName at this
 unfold isWord
 rw [Bool.or_eq_true,Bool.and_eq_true] at this
 rcases this with h1 | ⟨_,h1⟩
 · rw [h1];rfl
 · rw [h1];simp
theorem word_textL (sh:List Int) (c r:Int) (ac ar:Bool) (h:mayL sh c r=true):∀ x∈textL sh c r ac ar,isWord x=true:=by
 intro x hx
 rw [textL_eq _ _ _ _ _ h,List.mem_append] at hx
 rcases hx with hx | hx
 · by_cases h0:sh=[]
   · rw [if_pos h0] at hx;simp at hx
   · rw [if_neg h0,List.mem_append] at hx
     rcases hx with hx | hx
     · exact word_name sh ((mayL_sheet h).resolve_left h0) x hx
     · simp at hx;subst hx;decide
 · exact word_tail c r ac ar x hx
theorem textL_head (sh:List Int) (c r:Int) (ac ar:Bool) (h:mayL sh c r=true):∃ x l,textL sh c r ac ar=x :: l∧(isLet x=true∨x=36):=by
 rw [textL_eq _ _ _ _ _ h]
 obtain ⟨c0,c1,_,_⟩:=mayL_nums h
 by_cases h0:sh=[]
 · rw [if_pos h0,List.nil_append]
   unfold tailL
   cases ac with
   | true=>exact ⟨36,_,rfl,.inr rfl⟩
   | false =>
     have hcol:=isCap_colL c
     cases hc:colL c with
     | nil=>exact absurd hc (colL_ne c c0 c1)
     | cons y m =>
       refine ⟨y,_,rfl,.inl ?_⟩
       have:=hcol y (by rw [hc];simp)
       unfold isCap at this;unfold isLet;rw [decide_eq_true_iff] at this ⊢;omega
 · rw [if_neg h0]
   have hn:=(mayL_sheet h).resolve_left h0
   cases sh with
   | nil=>exact absurd rfl h0
   | cons y m =>
     refine ⟨y,_,rfl,.inl ?_⟩
     unfold nameL at hn
     rw [Bool.and_eq_true,decide_eq_true_iff] at hn
     have:=hn.1 0 (by simp)
     unfold inName at this
     simpa using this
theorem read_text (s:ByteArray) (c r:Int) (ac ar:Bool) (h:mayL (sb s) c r=true):∃ d,readS (strOfNums (textL (sb s) c r ac ar))=some d∧d.sh=s∧d.c=c∧d.r=r∧d.ac=ac∧d.ar=ar:=by
 have hb:=sb_str _ (bytes_textL s c r ac ar)
 cases hq:readS (strOfNums (textL (sb s) c r ac ar)) with
 | none=>exact absurd hb.symm (read_none _ hq _ _ _ _ _ h)
 | some d =>
   obtain ⟨_,h2,h3⟩:=read_some _ d hq
   rw [hb] at h3
   obtain ⟨e1,e2,e3,e4,e5⟩:=textL_inj h2 h h3
   exact ⟨d,rfl,sb_inj e1,e2,e3,e4,e5⟩
def dblL:List Int→List Int
 | []=>[]
 | x :: l=>(if x=34 then [34,34] else [x])++dblL l
def isBl (c:Int):Bool:=decide (c=32)
def isBeg (c:Int):Bool:=isLet c||decide (c=36)
set_option maxHeartbeats 400000 in
theorem lexBlank_any (c:Int) (_h0:0≤c) (_h1:c≤255) (w:World) :
 Calls Tryz.prog 130 #[.int .u8 c] w fun e w'=>e = .returned (.bool (isBl c))∧w=w':=by
 go_enter Tryz.func130,Tryz.ntmps130
 go_wp2
 all_goals go_ret
 all_goals exact ⟨ret_bool (by unfold isBl;first | rfl | (symm;rw [decide_eq_true_iff];omega) | (symm;rw [decide_eq_false_iff_not];omega) | (rw [decide_eq_decide];omega)),rfl⟩
set_option maxHeartbeats 400000 in
theorem lexDigit_any (c:Int) (_h0:0≤c) (_h1:c≤255) (w:World) :
 Calls Tryz.prog 168 #[.int .u8 c] w fun e w'=>e = .returned (.bool (isNum c))∧w=w':=by
 go_enter Tryz.func168,Tryz.ntmps168
 go_wp2
 all_goals go_ret
 all_goals exact ⟨ret_bool (by unfold isNum;first | rfl | (symm;rw [decide_eq_true_iff];omega) | (symm;rw [decide_eq_false_iff_not];omega) | (rw [decide_eq_decide];omega)),rfl⟩
set_option maxHeartbeats 400000 in
theorem lexCapital_any (c:Int) (_h0:0≤c) (_h1:c≤255) (w:World) :
 Calls Tryz.prog 197 #[.int .u8 c] w fun e w'=>e = .returned (.bool (isCap c))∧w=w':=by
 go_enter Tryz.func197,Tryz.ntmps197
 go_wp2
 all_goals go_ret
 all_goals exact ⟨ret_bool (by unfold isCap;first | rfl | (symm;rw [decide_eq_true_iff];omega) | (symm;rw [decide_eq_false_iff_not];omega) | (rw [decide_eq_decide];omega)),rfl⟩
theorem isBeg_cap {c:Int} (h:isCap c=true):isBeg c=true:=by unfold isBeg;rw [isLet_cap h];rfl
theorem isBeg_nocap {c:Int} (h:isCap c=false):isBeg c=decide (97≤c∧c≤122∨c=36):=by unfold isBeg;rw [isLet_nocap h];simp
theorem isWord_beg {c:Int}:isWord c=(isBeg c||(isNum c||decide (c=33))):=by
 unfold isWord isBeg;rw [show decide (c=36∨c=33)=(decide (c=36)||decide (c=33)) from by simp]
 cases isLet c <;> cases isNum c <;> cases decide (c=36) <;> simp
set_option maxHeartbeats 400000 in
theorem beginsWord_any (c:Int) (_h0:0≤c) (_h1:c≤255) (w:World) :
 Calls Tryz.prog 172 #[.int .u8 c] w fun e w'=>e = .returned (.bool (isBeg c))∧w=w':=by
 by_cases hc:isCap c=true
 · have HL:=Lib.hid (isBeg_cap hc)
   go_enter Tryz.func172,Tryz.ntmps172
   go_wp2_with (go_at_call 197;((with_reducible refine (lexCapital_any _ ?_ ?_ _).mono ?_);(first | omega | skip);(first | omega | skip);rintro e w' ⟨rfl,rfl⟩))
   all_goals go_ret
   all_goals exact ⟨ret_bool (by rw [HL.out]),rfl⟩
 · have hc':isCap c=false:=by simpa using hc
   have HL:=Lib.hid (isBeg_nocap hc');clear hc
   go_enter Tryz.func172,Tryz.ntmps172
   go_wp2_with (go_at_call 197;((with_reducible refine (lexCapital_any _ ?_ ?_ _).mono ?_);(first | omega | skip);(first | omega | skip);rintro e w' ⟨rfl,rfl⟩))
   all_goals go_ret
   all_goals exact ⟨ret_bool (by rw [HL.out];first | rfl | (symm;rw [decide_eq_true_iff];omega) | (symm;rw [decide_eq_false_iff_not];omega) | (rw [Bool.eq_iff_iff];simp only [Bool.or_eq_true,decide_eq_true_iff,beq_iff_eq];omega)),rfl⟩
set_option maxHeartbeats 400000 in
theorem isOfWord_any (c:Int) (_h0:0≤c) (_h1:c≤255) (w:World) :
 Calls Tryz.prog 198 #[.int .u8 c] w fun e w'=>e = .returned (.bool (isWord c))∧w=w':=by
 have HW:=Lib.hid (isWord_beg (c:=c))
 cases hb:isBeg c
 · cases hn:isNum c
   · rw [hb,hn] at HW
     go_enter Tryz.func198,Tryz.ntmps198
     go_wp2_with (first
      | (go_at_call 172;((with_reducible refine (beginsWord_any _ ?_ ?_ _).mono ?_);(first | omega | skip);(first | omega | skip);rintro e w' ⟨rfl,rfl⟩;rw [hb]))
      | (go_at_call 168;((with_reducible refine (lexDigit_any _ ?_ ?_ _).mono ?_);(first | omega | skip);(first | omega | skip);rintro e w' ⟨rfl,rfl⟩;rw [hn])))
     all_goals go_ret
     all_goals exact ⟨ret_bool (by rw [HW.out];first | rfl | (rw [Bool.eq_iff_iff];simp only [Bool.or_eq_true,Bool.and_eq_true,Bool.false_or,decide_eq_true_iff,beq_iff_eq])),rfl⟩
   · rw [hb,hn] at HW
     go_enter Tryz.func198,Tryz.ntmps198
     go_wp2_with (first
      | (go_at_call 172;((with_reducible refine (beginsWord_any _ ?_ ?_ _).mono ?_);(first | omega | skip);(first | omega | skip);rintro e w' ⟨rfl,rfl⟩;rw [hb]))
      | (go_at_call 168;((with_reducible refine (lexDigit_any _ ?_ ?_ _).mono ?_);(first | omega | skip);(first | omega | skip);rintro e w' ⟨rfl,rfl⟩;rw [hn])))
     all_goals go_ret
     all_goals exact ⟨ret_bool (by rw [HW.out];rfl),rfl⟩
 · rw [hb] at HW
   go_enter Tryz.func198,Tryz.ntmps198
   go_wp2_with (first
    | (go_at_call 172;((with_reducible refine (beginsWord_any _ ?_ ?_ _).mono ?_);(first | omega | skip);(first | omega | skip);rintro e w' ⟨rfl,rfl⟩;rw [hb])))
   all_goals go_ret
   all_goals exact ⟨ret_bool (by rw [HW.out];rfl),rfl⟩
def LxAt (w:World) (b:Nat) (s:ByteArray) (k:Nat):Prop:=w.heap[b]? = some (.cells #[.string s,.int .i64 (k:Int)] 147)
theorem LxAt.lt {w:World} {b:Nat} {s:ByteArray} {k:Nat} (h:LxAt w b s k):b<w.heap.size:=(Array.getElem?_eq_some_iff.1 h).1
theorem LxAt.drewN {w:World} {b:Nat} {s:ByteArray} {k:Nat} (h:LxAt w b s k) (n:Nat):LxAt (w.drewN n) b s k:=h
theorem LxAt.below {w w':World} {B b:Nat} {s:ByteArray} {k:Nat} (h:LxAt w b s k) (hb:Below B w w') (hB:b<B):LxAt w' b s k:=by unfold LxAt;rw [hb.block b hB];exact h
theorem LxAt.facts {w:World} {b:Nat} {s:ByteArray} {k:Nat} (h:LxAt w b s k):w.cell? ⟨b,0,none⟩=some (.string s)∧w.cell? ⟨b,1,none⟩=some (.int .i64 (k:Int)) :=
 ⟨by rw [cell_of_row w b 0 _ _ _ h];rfl,by rw [cell_of_row w b 1 _ _ _ h];rfl⟩
theorem LxAt.frozen {w:World} {b:Nat} {s:ByteArray} {k:Nat} (h:LxAt w b s k) (j:Nat):w.frozen? ⟨b,j,none⟩=false:=frozen_of_row w b j _ _ h
theorem LxAt.setK {w:World} {b:Nat} {s:ByteArray} {k:Nat} (h:LxAt w b s k) (m:Nat):LxAt (w.setCell ⟨b,1,none⟩ (.int .i64 (m:Int))) b s m:=by unfold LxAt;rw [heap_setCell_same w b 1 _ _ _ h];rfl
theorem LxAt.setNext {w:World} {b:Nat} {s:ByteArray} {k:Nat} (h:LxAt w b s k):LxAt (w.setCell ⟨b,1,none⟩ (.int .i64 ((k:Int)+1))) b s (k+1):=h.setK (k+1)
theorem LxAt.new (w:World) (s:ByteArray):LxAt (w.alloc (.cells #[.string s,.int .i64 0] 147)) w.heap.size s 0:=(Go.MapKept.heap_alloc w _).1
def tokA (t:Tk):Array Value:=#[.int .i64 t.kind,.string t.text,.int .i64 t.num,.string t.sh,.int .i64 t.c,.int .i64 t.r,.bool t.ac,.bool t.ar,.int .i64 t.pos]
def TkAt (w:World) (b:Nat) (t:Tk):Prop:=w.heap[b]? = some (.cells (tokA t) 101)
theorem TkAt.lt {w:World} {b:Nat} {t:Tk} (h:TkAt w b t):b<w.heap.size:=(Array.getElem?_eq_some_iff.1 h).1
theorem TkAt.below {w w':World} {B b:Nat} {t:Tk} (h:TkAt w b t) (hb:Below B w w') (hB:b<B):TkAt w' b t:=by unfold TkAt;rw [hb.block b hB];exact h
theorem TkAt.drewN {w:World} {b:Nat} {t:Tk} (h:TkAt w b t) (n:Nat):TkAt (w.drewN n) b t:=h
theorem TkAt.frozen {w:World} {b:Nat} {t:Tk} (h:TkAt w b t) (j:Nat):w.frozen? ⟨b,j,none⟩=false:=frozen_of_row w b j _ _ h
theorem TkAt.grown {w w':World} {b c:Nat} {t:Tk} (h:TkAt w b t) (hg:w.grownBy w' (some c)) (hne:b≠c):TkAt w' b t:=by
 unfold TkAt;rw [hg.block b h.lt (by intro e;exact hne (Option.some.inj e))];exact h
theorem TkAt.new (w:World) (t:Tk):TkAt (w.alloc (.cells (tokA t) 101)) w.heap.size t:=(Go.MapKept.heap_alloc w _).1
theorem tok_size:(Tryz.prog.info? 101).map (·.size)=some 9:=by kernel_rfl
theorem tok_one (t:Tk):∀ v∈(tokA t).toList,v.oneCell'=true:=by
 intro v hv
 simp only [tokA,List.mem_cons,List.not_mem_nil,or_false] at hv
 rcases hv with rfl | rfl | rfl | rfl | rfl | rfl | rfl | rfl | rfl <;> rfl
theorem ext_sbL (s:ByteArray) (a m:Nat):sb (s.extract a (a+m))=((sb s).drop a).take m:=by
 unfold sb;rw [← List.map_drop, ← List.map_take];congr 1
 rw [ByteArray.data_extract,Array.toList_extract]
 rw [List.extract_eq_take_drop]
 congr 1;omega
def restL (s:ByteArray) (k:Nat):List Int:=(sb s).drop k
theorem length_restL (s:ByteArray) (k:Nat):(restL s k).length=s.size - k:=by unfold restL;rw [List.length_drop,length_sb]
theorem restL_at (s:ByteArray) (k m:Nat) (h:k+m<s.size):(restL s k)[m]? = some ((s[k+m].toNat:Nat):Int):=by unfold restL;rw [List.getElem?_drop,sb_at s _ h]
theorem restL_take (s:ByteArray) (k m:Nat) (h:k+m<s.size):(restL s k).take (m+1)=(restL s k).take m++[((s[k+m].toNat:Nat):Int)]:=by
 rw [List.take_add_one,restL_at s k m h];rfl
theorem restL_cut (s:ByteArray) (k m:Nat):s.extract k (k+m)=strOfNums ((restL s k).take m):=by
 rw [← str_sb (s.extract k (k+m)),ext_sbL];rfl
theorem restL_drop (s:ByteArray) (k m:Nat):(restL s k).drop m=restL s (k+m):=by unfold restL;rw [List.drop_drop]
theorem restL_bd (s:ByteArray) (k:Nat):Bytes (restL s k):=fun a ha=>sb_bd s a (List.mem_of_mem_drop ha)
def lxm (b n:Nat) (w:World):Nat:=n - (match w.cell? ⟨b,1,none⟩ with | some (.int _ m)=>m.toNat | _=>0)
theorem LxAt.lxm {w:World} {b:Nat} {s:ByteArray} {k:Nat} (h:LxAt w b s k) (n:Nat):lxm b n w=n - k:=by
 unfold Go.Proofs.YtdphoaabaajonaaGreatDoor.lxm;rw [h.facts.2];rfl
def Took (p:Int→Bool) (s:ByteArray) (b k:Nat) (w:World) (e:Ending) (w':World):Prop :=
 w.grownBy w' (some b)∧e = .returned (.string (strOfNums ((restL s k).takeWhile p)))∧LxAt w' b s (k+((restL s k).takeWhile p).length)
theorem took_end {p:Int→Bool} {s:ByteArray} {b k m:Nat} {w wr:World} (hg:w.grownBy wr (some b)) (hall:∀ x∈(restL s k).take m,p x=true) (hstop:∀ x,(restL s k)[m]? = some x→p x=false) (hm:k+m≤s.size)
 (hr:LxAt wr b s (k+m)) (e:Ending) (he:e = .returned (.string (s.extract k (k+m)))):Took p s b k w e wr:=by
 have hsp:=span_stop p (restL s k) m hall hstop
 have hlen:((restL s k).take m).length=m:=by rw [List.length_take,length_restL];omega
 refine ⟨hg, ?_, ?_⟩
 · rw [hsp,he,restL_cut]
 · rw [hsp,hlen];exact hr
set_option maxRecDepth 100000 in
set_option maxHeartbeats 800000 in
theorem whileBlank_any (b:Nat) (s:ByteArray) (k:Nat) (w:World) (h:LxAt w b s k) (_hs:s.size≤1000000) (_hk:k≤s.size) :
 Calls Tryz.prog 129 #[.pointer (some ⟨b,0,none⟩),.func (.func 130) #[] #[]] w (Took isBl s b k w):=by
 have HR:=Lib.hid h
 obtain ⟨c0,c1⟩:=h.facts
 clear h
 go_enter Tryz.func129,Tryz.ntmps129
 go_wp2_with fail
 clear c0 c1
 go_loopw [] (fun wr=>∃ m:Nat,k+m≤s.size∧Hid (∀ x∈(restL s k).take m,isBl x=true)∧Hid (LxAt wr b s (k+m))∧Hid (w.grownBy wr (some b)))
  (fun wr=>lxm b s.size wr)
 case atStart=>exact ⟨0,by omega,Lib.hid (by simp),HR,Lib.hid (grownBy.refl' _ _)⟩
 case round =>
  obtain ⟨m,hkm,HM,HRD,HG⟩:=hrel
  obtain ⟨c0,c1⟩:=HRD.out.facts
  have f1:=HRD.out.frozen 1
  obtain ⟨p,hp⟩:∃ p:Nat,k+m=p:=⟨_,rfl⟩
  rw [hp] at c1
  have hz1:(0:Int)≤(k:Int):=by omega
  have hz2:(k:Int)≤(p:Int):=by omega
  have hz3:(p:Int)≤(s.size:Int):=by omega
  have hz4:(0:Int)≤(p:Int):=by omega
  by_cases hlt:p<s.size
  · have hlt2:(p:Int)<(s.size:Int):=by omega
    obtain ⟨a,ha⟩:∃ a:Int,(s[p].toNat:Int)=a:=⟨_,rfl⟩
    have ha1:0≤a∧a≤255:=by have:=s[p].toNat_lt;omega
    have hnx:(restL s k).take (m+1)=(restL s k).take m++[a]:=by subst hp;rw [restL_take s k m hlt,ha]
    have hat:(restL s k)[m]? = some a:=by subst hp;rw [restL_at s k m hlt,ha]
    have HNX:=Lib.hid hnx;clear hnx
    have HAT:=Lib.hid hat;clear hat
    have HP:=Lib.hid hp;clear hp
    by_cases hc:isBl a=true
    · have hall:=all_snoc HM.out hc
      rw [← HNX.out] at hall
      have HALL:=Lib.hid hall;clear hall
      go_wp2_with fail
      go_quiet ((go_at_call 130;exact quiet_call (lexBlank_any _ (by omega) (by omega) _)))
      go_wp2_with fail
      go_roundw
      case rel =>
       refine ⟨m+1,by have:=HP.out;omega,HALL,Lib.hid ?_,Lib.hid (grownBy.setCell' (grownBy.drewN' HG.out _) _ _)⟩
       rw [show k+(m+1)=p+1 from by have:=HP.out;omega]
       exact (HRD.out.drewN _).setK (p+1)
      case measure =>
       have h1:=((HRD.out.drewN nq).setK (p+1)).lxm s.size
       have h2:=HRD.out.lxm s.size
       have h3:=HP.out
       rw [h2]
       refine Nat.lt_of_le_of_lt (Nat.le_of_eq h1) (by omega)
    · have hc':isBl a=false:=by simpa using hc
      clear hc
      go_wp2_with fail
      go_quiet ((go_at_call 130;exact quiet_call (lexBlank_any _ (by omega) (by omega) _)))
      go_wp2_with fail
      go_quiet (fail)
      go_wp2_with fail
      go_ret
      have h3:=HP.out
      exact took_end (grownBy.drewN' (grownBy.drewN' HG.out _) _) HM.out (fun x hx=>by rw [HAT.out] at hx;injection hx with hx;rw [← hx];exact hc') (by omega) ((HRD.out.drewN _).drewN _) _ (by rw [h3];rfl)
  · have hlt2:¬ (p:Int)<(s.size:Int):=by omega
    have HP:=Lib.hid hp;clear hp
    go_wp2_with fail
    go_quiet (fail)
    go_wp2_with fail
    go_quiet (fail)
    go_wp2_with fail
    go_ret
    have h3:=HP.out
    exact took_end (grownBy.drewN' (grownBy.drewN' HG.out _) _) HM.out (fun x hx=>by have h1:=(List.getElem?_eq_some_iff.1 hx).1;rw [length_restL] at h1;omega) (by omega) ((HRD.out.drewN _).drewN _) _ (by rw [h3];rfl)
set_option maxRecDepth 100000 in
set_option maxHeartbeats 800000 in
theorem whileDigit_any (b:Nat) (s:ByteArray) (k:Nat) (w:World) (h:LxAt w b s k) (_hs:s.size≤1000000) (_hk:k≤s.size) :
 Calls Tryz.prog 129 #[.pointer (some ⟨b,0,none⟩),.func (.func 168) #[] #[]] w (Took isNum s b k w):=by
 have HR:=Lib.hid h
 obtain ⟨c0,c1⟩:=h.facts
 clear h
 go_enter Tryz.func129,Tryz.ntmps129
 go_wp2_with fail
 clear c0 c1
 go_loopw [] (fun wr=>∃ m:Nat,k+m≤s.size∧Hid (∀ x∈(restL s k).take m,isNum x=true)∧Hid (LxAt wr b s (k+m))∧Hid (w.grownBy wr (some b)))
  (fun wr=>lxm b s.size wr)
 case atStart=>exact ⟨0,by omega,Lib.hid (by simp),HR,Lib.hid (grownBy.refl' _ _)⟩
 case round =>
  obtain ⟨m,hkm,HM,HRD,HG⟩:=hrel
  obtain ⟨c0,c1⟩:=HRD.out.facts
  have f1:=HRD.out.frozen 1
  obtain ⟨p,hp⟩:∃ p:Nat,k+m=p:=⟨_,rfl⟩
  rw [hp] at c1
  have hz1:(0:Int)≤(k:Int):=by omega
  have hz2:(k:Int)≤(p:Int):=by omega
  have hz3:(p:Int)≤(s.size:Int):=by omega
  have hz4:(0:Int)≤(p:Int):=by omega
  by_cases hlt:p<s.size
  · have hlt2:(p:Int)<(s.size:Int):=by omega
    obtain ⟨a,ha⟩:∃ a:Int,(s[p].toNat:Int)=a:=⟨_,rfl⟩
    have ha1:0≤a∧a≤255:=by have:=s[p].toNat_lt;omega
    have hnx:(restL s k).take (m+1)=(restL s k).take m++[a]:=by subst hp;rw [restL_take s k m hlt,ha]
    have hat:(restL s k)[m]? = some a:=by subst hp;rw [restL_at s k m hlt,ha]
    have HNX:=Lib.hid hnx;clear hnx
    have HAT:=Lib.hid hat;clear hat
    have HP:=Lib.hid hp;clear hp
    by_cases hc:isNum a=true
    · have hall:=all_snoc HM.out hc
      rw [← HNX.out] at hall
      have HALL:=Lib.hid hall;clear hall
      go_wp2_with fail
      go_quiet ((go_at_call 168;exact quiet_call (lexDigit_any _ (by omega) (by omega) _)))
      go_wp2_with fail
      go_roundw
      case rel =>
       refine ⟨m+1,by have:=HP.out;omega,HALL,Lib.hid ?_,Lib.hid (grownBy.setCell' (grownBy.drewN' HG.out _) _ _)⟩
       rw [show k+(m+1)=p+1 from by have:=HP.out;omega]
       exact (HRD.out.drewN _).setK (p+1)
      case measure =>
       have h1:=((HRD.out.drewN nq).setK (p+1)).lxm s.size
       have h2:=HRD.out.lxm s.size
       have h3:=HP.out
       rw [h2]
       refine Nat.lt_of_le_of_lt (Nat.le_of_eq h1) (by omega)
    · have hc':isNum a=false:=by simpa using hc
      clear hc
      go_wp2_with fail
      go_quiet ((go_at_call 168;exact quiet_call (lexDigit_any _ (by omega) (by omega) _)))
      go_wp2_with fail
      go_quiet (fail)
      go_wp2_with fail
      go_ret
      have h3:=HP.out
      exact took_end (grownBy.drewN' (grownBy.drewN' HG.out _) _) HM.out (fun x hx=>by rw [HAT.out] at hx;injection hx with hx;rw [← hx];exact hc') (by omega) ((HRD.out.drewN _).drewN _) _ (by rw [h3];rfl)
  · have hlt2:¬ (p:Int)<(s.size:Int):=by omega
    have HP:=Lib.hid hp;clear hp
    go_wp2_with fail
    go_quiet (fail)
    go_wp2_with fail
    go_quiet (fail)
    go_wp2_with fail
    go_ret
    have h3:=HP.out
    exact took_end (grownBy.drewN' (grownBy.drewN' HG.out _) _) HM.out (fun x hx=>by have h1:=(List.getElem?_eq_some_iff.1 hx).1;rw [length_restL] at h1;omega) (by omega) ((HRD.out.drewN _).drewN _) _ (by rw [h3];rfl)
set_option maxRecDepth 100000 in
set_option maxHeartbeats 800000 in
theorem whileWord_any (b:Nat) (s:ByteArray) (k:Nat) (w:World) (h:LxAt w b s k) (_hs:s.size≤1000000) (_hk:k≤s.size) :
 Calls Tryz.prog 129 #[.pointer (some ⟨b,0,none⟩),.func (.func 198) #[] #[]] w (Took isWord s b k w):=by
 have HR:=Lib.hid h
 obtain ⟨c0,c1⟩:=h.facts
 clear h
 go_enter Tryz.func129,Tryz.ntmps129
 go_wp2_with fail
 clear c0 c1
 go_loopw [] (fun wr=>∃ m:Nat,k+m≤s.size∧Hid (∀ x∈(restL s k).take m,isWord x=true)∧Hid (LxAt wr b s (k+m))∧Hid (w.grownBy wr (some b)))
  (fun wr=>lxm b s.size wr)
 case atStart=>exact ⟨0,by omega,Lib.hid (by simp),HR,Lib.hid (grownBy.refl' _ _)⟩
 case round =>
  obtain ⟨m,hkm,HM,HRD,HG⟩:=hrel
  obtain ⟨c0,c1⟩:=HRD.out.facts
  have f1:=HRD.out.frozen 1
  obtain ⟨p,hp⟩:∃ p:Nat,k+m=p:=⟨_,rfl⟩
  rw [hp] at c1
  have hz1:(0:Int)≤(k:Int):=by omega
  have hz2:(k:Int)≤(p:Int):=by omega
  have hz3:(p:Int)≤(s.size:Int):=by omega
  have hz4:(0:Int)≤(p:Int):=by omega
  by_cases hlt:p<s.size
  · have hlt2:(p:Int)<(s.size:Int):=by omega
    obtain ⟨a,ha⟩:∃ a:Int,(s[p].toNat:Int)=a:=⟨_,rfl⟩
    have ha1:0≤a∧a≤255:=by have:=s[p].toNat_lt;omega
    have hnx:(restL s k).take (m+1)=(restL s k).take m++[a]:=by subst hp;rw [restL_take s k m hlt,ha]
    have hat:(restL s k)[m]? = some a:=by subst hp;rw [restL_at s k m hlt,ha]
    have HNX:=Lib.hid hnx;clear hnx
    have HAT:=Lib.hid hat;clear hat
    have HP:=Lib.hid hp;clear hp
    by_cases hc:isWord a=true
    · have hall:=all_snoc HM.out hc
      rw [← HNX.out] at hall
      have HALL:=Lib.hid hall;clear hall
      go_wp2_with fail
      go_quiet ((go_at_call 198;exact quiet_call (isOfWord_any _ (by omega) (by omega) _)))
      go_wp2_with fail
      go_roundw
      case rel =>
       refine ⟨m+1,by have:=HP.out;omega,HALL,Lib.hid ?_,Lib.hid (grownBy.setCell' (grownBy.drewN' HG.out _) _ _)⟩
       rw [show k+(m+1)=p+1 from by have:=HP.out;omega]
       exact (HRD.out.drewN _).setK (p+1)
      case measure =>
       have h1:=((HRD.out.drewN nq).setK (p+1)).lxm s.size
       have h2:=HRD.out.lxm s.size
       have h3:=HP.out
       rw [h2]
       refine Nat.lt_of_le_of_lt (Nat.le_of_eq h1) (by omega)
    · have hc':isWord a=false:=by simpa using hc
      clear hc
      go_wp2_with fail
      go_quiet ((go_at_call 198;exact quiet_call (isOfWord_any _ (by omega) (by omega) _)))
      go_wp2_with fail
      go_quiet (fail)
      go_wp2_with fail
      go_ret
      have h3:=HP.out
      exact took_end (grownBy.drewN' (grownBy.drewN' HG.out _) _) HM.out (fun x hx=>by rw [HAT.out] at hx;injection hx with hx;rw [← hx];exact hc') (by omega) ((HRD.out.drewN _).drewN _) _ (by rw [h3];rfl)
  · have hlt2:¬ (p:Int)<(s.size:Int):=by omega
    have HP:=Lib.hid hp;clear hp
    go_wp2_with fail
    go_quiet (fail)
    go_wp2_with fail
    go_quiet (fail)
    go_wp2_with fail
    go_ret
    have h3:=HP.out
    exact took_end (grownBy.drewN' (grownBy.drewN' HG.out _) _) HM.out (fun x hx=>by have h1:=(List.getElem?_eq_some_iff.1 hx).1;rw [length_restL] at h1;omega) (by omega) ((HRD.out.drewN _).drewN _) _ (by rw [h3];rfl)
end Go.Proofs.YtdphoaabaajonaaGreatDoor
