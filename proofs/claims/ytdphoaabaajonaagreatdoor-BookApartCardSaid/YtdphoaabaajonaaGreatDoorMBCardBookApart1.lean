/-
 Texts of layers, put together.
-/
import Derived.Test.YtdphoaabaajonaaGreatDoorMB9
namespace Go.Proofs.YtdphoaabaajonaaGreatDoor
open Go.RowKit
theorem all_setc {α : Type} {k:Nat} (E:Enc α k) {xs:List α} {i j:Nat} {x x' : α} {u:Value} (hx:xs[i]? = some x) (he:E.f x'=(E.f x).set j u) (hj:j<k):E.all (xs.set i x')=(E.all xs).set (i*k+j) u:=by
 unfold Enc.all
 induction xs generalizing i with
 | nil=>simp at hx
 | cons a t ih =>
   cases i with
   | zero =>
     obtain rfl:a=x:=by simpa using hx
     rw [List.set_cons_zero,List.flatMap_cons,List.flatMap_cons,he,Nat.zero_mul,Nat.zero_add,List.set_append_left _ _ (by rw [E.len];exact hj)]
   | succ i =>
     rw [List.set_cons_succ,List.flatMap_cons,List.flatMap_cons,ih (by simpa using hx),List.set_append_right _ _ (by rw [E.len,Nat.succ_mul];omega),E.len,Nat.succ_mul]
     congr 2;omega
theorem RwA.setc {α : Type} {k:Nat} {E:Enc α k} {e:TypeId} {w:World} {g:Nat} {xs:List α} (h:RwA E e w g xs) {i j:Nat} {x x' : α} {u:Value} (hx:xs[i]? = some x) (he:E.f x'=(E.f x).set j u) (hj:j<k):RwA E e (w.setCell ⟨g,i*k+j,none⟩ u) g (xs.set i x'):=by
 obtain ⟨cur,h1,h2⟩:=h
 exact ⟨_,heap_setCell_same w g _ cur e u h1,by rw [all_setc E hx he hj];exact set_read h2⟩
def Sv.top (s:Sv):Sv:=⟨s.nm,s.cols,s.A,s.cap,s.rows.take 1⟩
theorem BkO.cut {w:World} {A:Option Addr} {n cap:Nat} {sv:List Sv} {lo hi:Nat} {s:Sv} (h:BkO w A n cap sv lo hi) (hs:sv[0]? = some s) (hr:1≤s.rows.length) :
 ∃ T U,A=some ⟨T,0,none⟩∧s.A=some ⟨U,0,none⟩∧s.cap=s.rows.length∧lo≤T∧T<hi∧w.cell? ⟨T,2,none⟩=some (.slice s.A s.rows.length s.cap)∧w.frozen? ⟨T,2,none⟩=false∧∀ B,hi≤B→BkR (w.setCell ⟨T,2,none⟩ (.slice s.A 1 s.cap)) B (.slice A n cap) (sv.set 0 s.top):=by
 obtain ⟨T,m,h1,h2,h3,h4,h5,h6,h7,h8⟩:=h
 have hmh:=h8.le
 have hz:∀ (i:Nat) (x:Sv),sv[i]? = some x→∃ a b,m≤a∧b≤hi∧ShO w x a b:=fun i x hi=>by
  obtain ⟨a,b,k1,_,k3,k4,_⟩:=h8.at i x hi
  exact ⟨a,b,k1,k3,k4⟩
 obtain ⟨a,b,k1,k3,k4⟩:=hz 0 s hs
 obtain ⟨U,m2,j1,j2,j3,j4,j5,j6,j7⟩:=k4
 have hcell:=h7.cell (0*3+2) (.slice s.A s.rows.length s.cap) (by rw [encSv.at sv 0 2 s hs (by omega)];rfl)
 have hk:∀ y,y≠T→(w.setCell ⟨T,2,none⟩ (.slice s.A 1 s.cap)).heap[y]? = w.heap[y]? := fun y hy=>heap_setCell_other w _ y _ hy
 refine ⟨T,U,h1,j1,j2,h5,by omega,hcell,h7.melt 2,fun B hB => ?_⟩
 have ht:s.top.rows.length=1:=by show (s.rows.take 1).length=1;rw [List.length_take];omega
 have h9:RwA encSv 47 (w.setCell ⟨T,2,none⟩ (.slice s.A 1 s.cap)) T (sv.set 0 s.top):=by
  refine h7.setc (i:=0) (j:=2) hs ?_ (by omega)
  show [Value.string s.nm,.int .i64 s.cols,.slice s.A s.top.rows.length s.cap]=[Value.string s.nm,.int .i64 s.cols,.slice s.A 1 s.cap]
  rw [ht]
 have hsame:∀ (i:Nat) (x:Sv),sv[i]? = some x→RowsR (w.setCell ⟨T,2,none⟩ (.slice s.A 1 s.cap)) B x.rv x.rows:=fun i x hi=>by
  obtain ⟨a,b,q1,q2,q3⟩:=hz i x hi
  exact (RwO.keep q3 fun g h1 h2=>hk g (by omega)).rowsR (by omega)
 have h10:=h9.se (cap:=sv.length) (B:=B) (by omega) (by rw [List.length_set];exact Nat.le_refl _) h4
 rw [List.length_set] at h10
 refine ⟨by rw [h1,h2,h3];exact h10,fun x hx => ?_⟩
 obtain ⟨i,hi⟩:=List.getElem?_of_mem hx
 rcases set_at hi (by have:=(List.getElem?_eq_some_iff.1 hs).1;omega) with ⟨_,rfl⟩ | ⟨_,h11⟩
 · have h12:=hsame 0 s hs
   obtain ⟨⟨A',cap',e1,e2,e3,e4⟩,h14⟩:=h12
   have e1:Value.slice s.A s.rows.length s.cap = .slice A' s.rows.length cap':=e1
   injection e1 with f1 f2 f3
   subst f1;subst f3
   refine ⟨⟨s.A,s.cap,by show Value.slice s.A s.top.rows.length s.cap=_;rfl,by rw [ht];omega,e3, ?_⟩,fun r hr=>h14 r (List.mem_of_mem_take hr)⟩
   rcases e4 with e4 | ⟨pb,po,g1,g2,g3⟩
   · rw [e4] at hr;simp at hr
   · refine .inr ⟨pb,po,g1,g2,fun j u hj=>g3 j u ?_⟩
     rw [all_encRv,List.getElem?_map] at hj ⊢
     obtain ⟨y,hy,hyu⟩:=Option.map_eq_some_iff.1 hj
     have hy:(s.rows.take 1)[j]? = some y:=hy
     rw [List.getElem?_take] at hy
     split at hy
     · rw [hy];exact congrArg some hyu
     · cases hy
 · exact hsame i x h11
theorem apart_same {b c:List Sv} {s s':Sv} {r:Rv} {rest:List Rv} {z:ByteArray} (hp:pgs c=pgs b) (hb:b[0]? = some s) (hc:c[0]? = some s') (hr:s.rows=r :: rest) (hl:1≤r.l.length) {r':Rv} (hr':s'.rows[0]? = some r') :
 decide (pgs b=pgs ((c.set 0 (s'.put 0 0 r' z)).set 0 (s'.put 0 0 r' z).top)) = !(decide (1<s.rows.length)||decide (¬ r.l.getD 0 ⟨#[]⟩=z)):=by
 obtain ⟨s2,h1,h2⟩:=pgs_at hp hb
 rw [hc] at h1
 obtain rfl:=Option.some.inj h1
 have hlen:=(List.getElem?_eq_some_iff.1 hc).1
 have hrows:lns s'.rows=lns s.rows:=congrArg Shp.rows h2
 have hrl:r'.l=r.l:=by
  have h3:(lns s'.rows)[0]? = some r'.l:=map_at hr'
  rw [hrows,hr] at h3
  exact (Option.some.inj h3).symm
 obtain ⟨x,l,hxl⟩:∃ x l,r.l=x :: l:=by
  cases h:r.l with
  | nil=>rw [h] at hl;simp at hl
  | cons x l=>exact ⟨x,l,rfl⟩
 have e1:pgs ((c.set 0 (s'.put 0 0 r' z)).set 0 (s'.put 0 0 r' z).top)=(pgs b).set 0 ⟨s.nm,s.cols,[z :: l]⟩:=by
  rw [List.set_set, ← hp]
  unfold pgs
  rw [List.map_set]
  congr 1
  obtain ⟨r2,rest2,h4⟩:∃ r2 rest2,s'.rows=r2 :: rest2:=by
   cases h:s'.rows with
   | nil=>rw [h] at hr';cases hr'
   | cons r2 rest2=>exact ⟨r2,rest2,rfl⟩
  show Shp.mk s'.nm s'.cols (List.map Rv.l ((s'.rows.set 0 (r'.put 0 z)).take 1))=_
  rw [h4,List.set_cons_zero]
  show Shp.mk s'.nm s'.cols [r'.l.set 0 z]=_
  rw [hrl,hxl,List.set_cons_zero,show s'.nm=s.nm from congrArg Shp.nm h2,show s'.cols=s.cols from congrArg Shp.cols h2]
 rw [e1]
 have hb0:(pgs b)[0]? = some s.p:=map_at hb
 have hlb:=(List.getElem?_eq_some_iff.1 hb0).1
 have hiff:(pgs b=(pgs b).set 0 ⟨s.nm,s.cols,[z :: l]⟩)↔(¬ 1<s.rows.length∧x=z):=by
  constructor
  · intro e
    have h5:(pgs b)[0]? = ((pgs b).set 0 ⟨s.nm,s.cols,[z :: l]⟩)[0]? := congrArg (fun q:List Shp=>q[0]?) e
    rw [hb0,List.getElem?_set,if_pos rfl,if_pos hlb] at h5
    have h6:=congrArg Shp.rows (Option.some.inj h5)
    have h6:lns s.rows=[z :: l]:=h6
    rw [hr] at h6
    have h7:r.l :: lns rest=[z :: l]:=h6
    injection h7 with h8 h9
    rw [hxl] at h8
    injection h8 with h8 _
    refine ⟨?_,h8⟩
    have:rest=[]:=by unfold lns at h9;exact List.map_eq_nil_iff.1 h9
    rw [hr,this];simp
  · rintro ⟨h5,rfl⟩
    have h6:rest=[]:=by
     rw [hr] at h5
     cases rest with
     | nil=>rfl
     | cons _ _=>simp at h5
    have h7:s.p=⟨s.nm,s.cols,[x :: l]⟩:=by unfold Sv.p;rw [hr,h6];show Shp.mk _ _ [r.l]=_;rw [hxl]
    rw [← h7]
    refine (List.ext_getElem? fun j => ?_)
    rw [List.getElem?_set]
    by_cases hj:0=j
    · subst hj;rw [if_pos rfl,if_pos hlb,hb0]
    · rw [if_neg hj]
 have h9:decide (pgs b=(pgs b).set 0 ⟨s.nm,s.cols,[z :: l]⟩)=decide (¬ 1<s.rows.length∧x=z):=decide_eq_decide.2 hiff
 rw [h9,hxl]
 show decide (¬ 1<s.rows.length∧x=z) = !(decide (1<s.rows.length)||decide (¬ x=z))
 by_cases q1:1<s.rows.length
 · rw [decide_eq_true q1,decide_eq_false (fun h=>h.1 q1)];rfl
 · by_cases q2:x=z
   · rw [decide_eq_false q1,decide_eq_true (⟨q1,q2⟩:¬ 1<s.rows.length∧x=z),decide_eq_false (fun h:¬ x=z=>h q2)];rfl
   · rw [decide_eq_false q1,decide_eq_false (fun h:¬ 1<s.rows.length∧x=z=>q2 h.2),decide_eq_true q2];rfl
theorem BkO.zero {w:World} {A:Option Addr} {n cap:Nat} {sv:List Sv} {lo hi:Nat} {s:Sv} {rv:Rv} (h:BkO w A n cap sv lo hi) (hs:sv[0]? = some s) (hr:s.rows[0]? = some rv) (hc:0<rv.l.length) :
 ∃ T U g,A=some ⟨T,0,none⟩∧s.A=some ⟨U,0,none⟩∧s.cap=s.rows.length∧rv.A=some ⟨g,0,none⟩∧(lo≤T∧T<U∧U<g∧g<hi)∧w.cell? ⟨T,2,none⟩=some (.slice (some ⟨U,0,none⟩) s.rows.length s.cap)∧w.cell? ⟨U,0,none⟩=some (.slice (some ⟨g,0,none⟩) rv.l.length rv.cap)∧w.frozen? ⟨g,0,none⟩=false∧w.cell? ⟨g,0,none⟩=some (.string (rv.l.getD 0 ⟨#[]⟩)):=by
 obtain ⟨T,m,h1,h2,h3,h4,h5,h6,h7,h8⟩:=h
 obtain ⟨a,b,k1,k2,k3,k4,k5⟩:=h8.at 0 s hs
 obtain ⟨U,m2,j1,j2,j3,j4,j5,j6,j7⟩:=k4
 obtain ⟨a2,b2,q1,q2,q3,q4,q5⟩:=j7.at 0 rv hr
 obtain ⟨p1,p2,p3⟩:=q4
 obtain ⟨g,f1,f2,f3,f4⟩:=p3.resolve_left (fun e=>by rw [e] at hc;exact absurd hc (Nat.lt_irrefl _))
 obtain ⟨x,hx⟩:∃ x,rv.l[0]? = some x:=⟨_,List.getElem?_eq_getElem hc⟩
 refine ⟨T,U,g,h1,j1,j2,f1,⟨h5,by omega,by omega,by omega⟩, ?_, ?_,f4.melt 0, ?_⟩
 · have:=h7.cell (0*3+2) (.slice s.A s.rows.length s.cap) (by rw [encSv.at sv 0 2 s hs (by omega)];rfl)
   rw [j1] at this;exact this
 · have:=j6.cell 0 (.slice rv.A rv.l.length rv.cap) (by rw [all_encRv,List.getElem?_map,hr];rfl)
   rw [f1] at this;exact this
 · rw [List.getD_eq_getElem?_getD,hx]
   exact f4.cell 0 _ (by rw [all_encTx,List.getElem?_map,hx];rfl)
theorem BkR.zero {w:World} {B:Nat} {A:Option Addr} {n cap:Nat} {sv:List Sv} {s:Sv} {rv:Rv} (h:BkR w B (.slice A n cap) sv) (hs:sv[0]? = some s) (hr:s.rows[0]? = some rv) (hc:0<rv.l.length) :
 ∃ pb po qb qo ub uo,A=some ⟨pb,po,none⟩∧(pb<B∧qb<B∧ub<B)∧w.cell? ⟨pb,po+2,none⟩=some (.slice (some ⟨qb,qo,none⟩) s.rows.length s.cap)∧w.cell? ⟨qb,qo,none⟩=some (.slice (some ⟨ub,uo,none⟩) rv.l.length rv.cap)∧w.cell? ⟨ub,uo,none⟩=some (.string (rv.l.getD 0 ⟨#[]⟩)):=by
 obtain ⟨pb,po,h1,h2,_,_,h3,h4⟩:=sh_at h hs
 obtain ⟨qb,qo,j1,j2,j3,j4⟩:=row_at h4 hr
 obtain ⟨x,hx⟩:∃ x,rv.l[0]? = some x:=⟨_,List.getElem?_eq_getElem hc⟩
 obtain ⟨ub,uo,k1,k2,k3⟩:=tx_at j4 hx
 rw [Nat.zero_mul,Nat.add_zero,j1] at h3
 rw [Nat.add_zero,k1] at j3
 rw [Nat.add_zero] at k3
 exact ⟨pb,po,qb,qo,ub,uo,h1,⟨h2,j2,k2⟩,h3,j3,by rw [List.getD_eq_getElem?_getD,hx];exact k3⟩
set_option maxRecDepth 100000 in
set_option maxHeartbeats 16000000 in
theorem bookApart_any (w:World) (A:Option Addr) (n cap:Nat) (xs:List Int) (hs:S8 w w.heap.size A n cap xs) (m:Nat) (hm:m<256) (hx:Cx w) :
 Calls Tryz.prog 5 #[.slice A n cap,.int .u8 (m:Int)] w fun e w'=>e = .returned (.bool true)∧Below w.heap.size w w':=by
 have HAW:=Lib.hid (fun (w1:World) (h1:Below w.heap.size w w1)=>awake10_any w1 (hx.below h1))
 by_cases h80:80<n
 · have hi80:(80:Int)<(n:Int):=by omega
   clear hs hx
   go_enter Tryz.func5,Tryz.ntmps5
   go_wp2_with (go_at_call 6;((with_reducible refine (HAW.out _ (Below.refl _ _)).mono ?_);rintro e w2 ⟨rfl,h1⟩;have HB2:=Lib.hid h1;clear h1))
   go_ret
   exact ⟨rfl,HB2.out⟩
 have hi80:¬ (80:Int)<(n:Int):=by omega
 have HBK:=Lib.hid (book_any w A n cap xs hs (by omega) m hm)
 have hbx:Bytes xs:=hs.bytes
 have HBX:=Lib.hid hbx
 obtain ⟨S,hS⟩:∃ S,nS m=S:=⟨_,rfl⟩
 have hS1:=nS_le m
 have hR1:=nR_le m
 have hC1:=nC_le m
 have HSS:=Lib.hid hS
 rw [hS] at HBK hS1
 clear hs hx hS
 go_enter Tryz.func5,Tryz.ntmps5
 go_upto_region 4 with (go_at_call 7;((with_reducible refine HBK.out.mono ?_);rintro e w2 ⟨h1,A1,c1,shs,rfl,hp,hr⟩;have H2:=Lib.hid h1;have HP:=Lib.hid hp;have HR:=Lib.hid hr;clear h1 hp hr))
 obtain ⟨hok,_,hln⟩:=bookS_ok hm HBX.out HP.out
 have HOK:=Lib.hid hok
 have HSZ:=Lib.hid hok.sz
 have HWI:=Lib.hid (wide_of HP.out)
 rw [HSS.out] at hln
 have HLN:=Lib.hid hln
 clear hok hln
 have HK3:=Lib.hid (BkAt.new w2 (.slice A1 S c1))
 have HB3:=Lib.hid (below_bk w2 (.slice A1 S c1))
 obtain ⟨b,hb⟩:∃ b,w2.heap.size=b:=⟨_,rfl⟩
 obtain ⟨w3,hw3⟩:∃ w3,w2.alloc (.cells #[.slice A1 S c1] 26)=w3:=⟨_,rfl⟩
 have HR3:=Lib.hid (HR.out.lift HB3.out)
 rw [hw3] at HK3 HB3 HR3 ⊢
 rw [hb] at HK3 ⊢
 have H3:=Lib.hid (H2.out.trans (HB3.out.mono H2.out.size))
 have HCB:=Lib.hid (rcopyBook_any w3 A1 S c1 shs HR3.out HSZ.out HWI.out)
 clear hw3
 have x0:=HK3.out.cell
 go_upto_region 5 with (go_at_call 17;((with_reducible refine HCB.out.mono ?_);rintro e w4 ⟨h1,A2,c2,sv2,rfl,hp,hr⟩;have H4:=Lib.hid h1;have HP4:=Lib.hid hp;have HR4:=Lib.hid hr;clear h1 hp hr))
 clear x0
 have HK5:=Lib.hid (BkAt.new w4 (.slice A2 S c2))
 have HB5:=Lib.hid (below_bk w4 (.slice A2 S c2))
 obtain ⟨p,hp⟩:∃ p,w4.heap.size=p:=⟨_,rfl⟩
 have HR5:=Lib.hid (HR4.out.lift HB5.out)
 obtain ⟨w5,hw5⟩:∃ w5,w4.alloc (.cells #[.slice A2 S c2] 26)=w5:=⟨_,rfl⟩
 rw [hw5] at HK5 HB5 HR5 ⊢
 rw [hp] at HK5 ⊢
 have H5:=Lib.hid (H4.out.trans (HB5.out.mono H4.out.size))
 have HCP:=Lib.hid (copy_any w5 A1 S c1 shs (HR3.out.lift H5.out) HSZ.out)
 have HKB5:=Lib.hid (HK3.out.over H5.out)
 clear hw5
 have x0:=HKB5.out.cell
 go_upto_region 6 with (go_at_call 19;((with_reducible refine HCP.out.mono ?_);rintro e w6 ⟨h1,A3,sv3,rfl,hp,hr⟩;have H6:=Lib.hid h1;have HP6:=Lib.hid hp;have HR6:=Lib.hid hr;clear h1 hp hr))
 clear x0
 have HK7:=Lib.hid (BkAt.new w6 (.slice A3 S S))
 have HB7:=Lib.hid (below_bk w6 (.slice A3 S S))
 obtain ⟨q,hq⟩:∃ q,w6.heap.size=q:=⟨_,rfl⟩
 have HO7:=Lib.hid (HR6.out.keep (w':=w6.alloc (.cells #[.slice A3 S S] 26)) fun g _ h2=>HB7.out.block g h2)
 obtain ⟨w7,hw7⟩:∃ w7,w6.alloc (.cells #[.slice A3 S S] 26)=w7:=⟨_,rfl⟩
 rw [hw7] at HK7 HB7 HO7 ⊢
 rw [hq] at HK7 HO7 ⊢
 clear hw7
 have H7:=Lib.hid (H6.out.trans (HB7.out.mono H6.out.size))
 have HKB7:=Lib.hid (HKB5.out.over H7.out)
 have HKP7:=Lib.hid (HK5.out.over H7.out)
 have HRB7:=Lib.hid ((HR3.out.lift H5.out).lift H7.out)
 have HRP7:=Lib.hid (HR5.out.lift H7.out)
 obtain ⟨s0,hs0⟩:∃ s0,shs[0]? = some s0:=⟨_,List.getElem?_eq_getElem (by have:=HLN.out;omega)⟩
 obtain ⟨_,hp0⟩:=sheet_of HP.out hs0
 have e3:lns s0.rows=rowsS xs (nR m) (nC m) (0*(nR m*nC m)):=congrArg Shp.rows hp0
 have hrl0:s0.rows.length=nR m:=by have h:=congrArg List.length e3;unfold lns at h;rwa [List.length_map,length_rowsS] at h
 obtain ⟨r0,rest,hrr⟩:∃ r0 rest,s0.rows=r0 :: rest:=by
  cases h:s0.rows with
  | nil=>rw [h] at hrl0;simp at hrl0;omega
  | cons r0 rest=>exact ⟨r0,rest,rfl⟩
 have hr00:s0.rows[0]? = some r0:=by rw [hrr];rfl
 have hcl0:r0.l.length=nC m:=by
  have h1:(lns s0.rows)[0]? = some r0.l:=map_at hr00
  rw [e3] at h1
  unfold rowsS at h1
  rw [List.getElem?_map,List.getElem?_range (by omega)] at h1
  rw [← Option.some.inj h1,length_rowS]
 obtain ⟨s3,hs3,hp3⟩:=pgs_at HP6.out hs0
 have hrows3:lns s3.rows=lns s0.rows:=congrArg Shp.rows hp3
 have hrl3:s3.rows.length=nR m:=by have h:=congrArg List.length hrows3;unfold lns at h;rw [List.length_map,List.length_map] at h;rw [h,hrl0]
 obtain ⟨r3,hr30⟩:∃ r3,s3.rows[0]? = some r3:=⟨_,List.getElem?_eq_getElem (by omega)⟩
 have hcl3:r3.l.length=nC m:=by
  have h3:(lns s3.rows)[0]? = some r3.l:=map_at hr30
  rw [hrows3,show (lns s0.rows)[0]? = some r0.l from map_at hr00] at h3
  rw [← Option.some.inj h3,hcl0]
 have HAP:=Lib.hid (apart_same (z:=⟨#[39,122,122]⟩) HP6.out hs0 hs3 hrr (by omega) hr30)
 obtain ⟨T,U,g,hA3,hU,hcap3,hg,⟨z1,z2,z3,z4⟩,t0,t1,tf,t2⟩:=HO7.out.zero hs3 hr30 (by omega)
 obtain ⟨pb,po,qb,qo,ub,uo,hA1,⟨l1,l2,l3⟩,u0,u1,u2⟩:=HRB7.out.zero hs0 hr00 (by omega)
 obtain ⟨g',hg',_,_,_,_,hput⟩:=HO7.out.cell hs3 hr30 (c:=0) (by omega)
 obtain rfl:g=g':=by rw [hg] at hg';injection hg' with hg';injection hg'
 have HPUT:=Lib.hid (hput ⟨#[39,122,122]⟩)
 clear hput hg'
 subst hA3
 subst hA1
 obtain ⟨R,hRn⟩:∃ R,nR m=R:=⟨_,rfl⟩
 obtain ⟨C,hCn⟩:∃ C,nC m=C:=⟨_,rfl⟩
 rw [hRn] at hR1 hrl0 hrl3;rw [hCn] at hC1 hcl0 hcl3
 rw [hrl3] at t0 hcap3;rw [hcl3] at t1;rw [hrl0] at u0 HAP;rw [hcl0] at u1
 rw [hcap3] at t0
 have bS:((S:Int) == 0)=false:=beq_eq_false_iff_ne.2 (by omega)
 have bR:((R:Int) == 0)=false:=beq_eq_false_iff_ne.2 (by omega)
 have bC:((C:Int) == 0)=false:=beq_eq_false_iff_ne.2 (by omega)
 have iS:(0:Int)<(S:Int):=by omega
 have iR:(0:Int)<(R:Int):=by omega
 have iC:(0:Int)<(C:Int):=by omega
 have x7:=HK7.out.cell
 have xb:=HKB7.out.cell
 clear e3
 have HS3:=Lib.hid hs3;have HR30:=Lib.hid hr30
 have hbw:=HK3.out.lt
 have hpw:=HK5.out.lt
 have hb5:b<w5.heap.size:=HKB5.out.lt
 have h57:w5.heap.size≤w6.heap.size:=H6.out.size
 obtain ⟨x,hxx⟩:∃ x,r0.l.getD 0 ⟨#[]⟩=x:=⟨_,rfl⟩
 rw [hxx] at HAP u2
 have HXX:=Lib.hid hxx
 clear hxx
 go_upto_region 9 with (fail)
 clear t2 tf x7 xb
 have HP8:=Lib.hid (show BkO (w7.setCell ⟨g,0,none⟩ (.string ⟨#[39,122,122]⟩)) (some ⟨T,0,none⟩) S S (sv3.set 0 (s3.put 0 0 r3 ⟨#[39,122,122]⟩)) w5.heap.size q from HPUT.out)
 have t08:(w7.setCell ⟨g,0,none⟩ (.string ⟨#[39,122,122]⟩)).cell? ⟨T,2,none⟩=some (.slice (some ⟨U,0,none⟩) R R):=(World.cell?_of_block (heap_setCell_other w7 _ T _ (by show T≠g;omega))).trans t0
 have x78:(w7.setCell ⟨g,0,none⟩ (.string ⟨#[39,122,122]⟩)).cell? ⟨q,0,none⟩=some (.slice (some ⟨T,0,none⟩) S S):=(World.cell?_of_block (heap_setCell_other w7 _ q _ (by show q≠g;omega))).trans HK7.out.cell
 obtain ⟨T',U',hT',hU',hc',_,_,_,tf8,hcut⟩:=HP8.out.cut (s:=s3.put 0 0 r3 ⟨#[39,122,122]⟩) (by
  have h1:=at_set (x:=s3.put 0 0 r3 ⟨#[39,122,122]⟩) HS3.out (List.getElem?_eq_some_iff.1 HS3.out).1
  rwa [if_pos rfl] at h1) (by show 1≤(s3.rows.set 0 _).length;rw [List.length_set,hrl3];omega)
 obtain rfl:T=T':=by injection hT' with hT';injection hT'
 have hsA:(s3.put 0 0 r3 ⟨#[39,122,122]⟩).A=some ⟨U,0,none⟩:=hU
 have hsC:(s3.put 0 0 r3 ⟨#[39,122,122]⟩).cap=R:=hcap3
 rw [hsA,hsC] at hcut
 have HCUT:=Lib.hid hcut
 clear hcut hT' hU' hc' hsA hsC
 have h81:(w7.setCell ⟨g,0,none⟩ (.string ⟨#[39,122,122]⟩)).heap.size=w7.heap.size:=World.size_setCell _ _ _
 have hb8:=(H7.out.setCell (p:=⟨g,0,none⟩) (by show w5.heap.size≤g;omega) (.string ⟨#[39,122,122]⟩))
 have HB8:=Lib.hid hb8
 have HX8:=Lib.hid (fun (y:Nat) (hy:y≠g)=>heap_setCell_other w7 ⟨g,0,none⟩ y (.string ⟨#[39,122,122]⟩) hy)
 obtain ⟨w8,hw8⟩:∃ w8,w7.setCell ⟨g,0,none⟩ (.string ⟨#[39,122,122]⟩)=w8:=⟨_,rfl⟩
 rw [hw8] at HP8 t08 x78 HCUT h81 HB8 tf8 HX8 ⊢
 clear hw8 hb8 t0 t1
 have tf9:w8.frozen? ⟨T,2,none⟩=false:=tf8
 have i1:(1:Int)≤(R:Int):=by omega
 go_region
 clear t08 x78 tf8 tf9
 have h91:((w8.setCell ⟨T,2,none⟩ (.slice (some ⟨U,0,none⟩) 1 R)).drew).heap.size=w8.heap.size:=World.size_setCell _ _ _
 have HB9:=Lib.hid (show Below w5.heap.size w5 ((w8.setCell ⟨T,2,none⟩ (.slice (some ⟨U,0,none⟩) 1 R)).drew) from Below.drew (HB8.out.setCell (p:=⟨T,2,none⟩) (by show w5.heap.size≤T;omega) _))
 have HX9:=Lib.hid (fun (y:Nat) (hy:y≠g) (hy2:y≠T)=>(show ((w8.setCell ⟨T,2,none⟩ (.slice (some ⟨U,0,none⟩) 1 R)).drew).heap[y]? = w7.heap[y]? from (heap_setCell_other w8 ⟨T,2,none⟩ y _ hy2).trans (HX8.out y hy)))
 have HRC9:=Lib.hid (fun (B:Nat) (hB:q≤B)=>(HCUT.out B hB).below (Below.drew (Below.refl B _)) (Nat.le_refl _))
 obtain ⟨w9,hw9⟩:∃ w9,(w8.setCell ⟨T,2,none⟩ (.slice (some ⟨U,0,none⟩) 1 R)).drew=w9:=⟨_,rfl⟩
 rw [hw9] at h91 HB9 HX9 ⊢
 have HRC:=Lib.hid (fun (B:Nat) (hB:q≤B)=>(show BkR w9 B (.slice (some ⟨T,0,none⟩) S S) ((sv3.set 0 (s3.put 0 0 r3 ⟨#[39,122,122]⟩)).set 0 (s3.put 0 0 r3 ⟨#[39,122,122]⟩).top) from by rw [← hw9];exact HRC9.out B hB))
 clear hw9 HRC9
 have hq7:q<w7.heap.size:=HK7.out.lt
 have hw97:w9.heap.size=w7.heap.size:=h91.trans h81
 have HW9:=Lib.hid (show Below w.heap.size w w9 from (H3.out.trans (H5.out.mono H3.out.size)).trans (HB9.out.mono (H3.out.trans (H5.out.mono H3.out.size)).size))
 have HAW9:=Lib.hid (fun (w1:World) (h1:Below w9.heap.size w9 w1)=>HAW.out w1 (HW9.out.trans (h1.mono HW9.out.size)))
 have HRA9:=Lib.hid ((HR3.out.lift H5.out).lift HB9.out)
 have HRP9:=Lib.hid (HR5.out.lift HB9.out)
 have HSB:=Lib.hid (fun (w1:World) (h1:Below w9.heap.size w9 w1)=>(show Calls Tryz.prog 14 #[.agg #[.slice (some ⟨pb,po,none⟩) S c1],.agg #[.slice A2 S c2]] w1 fun e w'=>e = .returned (.bool true)∧Below w1.heap.size w1 w' from by
  have h2:=refSameBook_any w1 (some ⟨pb,po,none⟩) S c1 shs A2 S c2 sv2 (HRA9.out.lift h1) (HRP9.out.lift h1)
  rw [decide_eq_true HP4.out.symm] at h2;exact h2))
 have hsc:=fun (w1:World) (h1:Below w9.heap.size w9 w1)=>same_any w1 (some ⟨pb,po,none⟩) S c1 shs (some ⟨T,0,none⟩) S S _ (HRA9.out.lift h1) ((HRC.out w9.heap.size (by omega)).lift h1)
 simp only [HAP.out] at hsc
 have y0:w9.cell? ⟨b,0,none⟩=some (.slice (some ⟨pb,po,none⟩) S c1):=(HB9.out.cell (p:=⟨b,0,none⟩) hb5).trans HKB5.out.cell
 have y1:w9.cell? ⟨p,0,none⟩=some (.slice A2 S c2):=(HB9.out.cell (p:=⟨p,0,none⟩) hpw).trans HK5.out.cell
 have y2:w9.cell? ⟨q,0,none⟩=some (.slice (some ⟨T,0,none⟩) S S):=(World.cell?_of_block (HX9.out q (by omega) (by omega))).trans HK7.out.cell
 have hpb9:pb<w9.heap.size∧qb<w9.heap.size∧ub<w9.heap.size:=by omega
 obtain ⟨pb',po',qb',qo',ub',uo',hA',⟨l1',l2',l3'⟩,v0,v1,v2⟩:=HRA9.out.zero hs0 hr00 (by omega)
 obtain ⟨rfl,rfl⟩:pb=pb'∧po=po':=by injection hA' with hA';injection hA' with h1 h2;exact ⟨h1,h2⟩
 rw [hrl0] at v0;rw [hcl0] at v1;rw [HXX.out] at v2
 clear u0 u1 u2 hA'
 have HKEEP:=Lib.hid (fun (w':World) (hb:Below w9.heap.size w9 w')=>(show w'.cell? ⟨b,0,none⟩=some (.slice (some ⟨pb,po,none⟩) S c1)∧w'.cell? ⟨p,0,none⟩=some (.slice A2 S c2)∧w'.cell? ⟨q,0,none⟩=some (.slice (some ⟨T,0,none⟩) S S)∧w'.cell? ⟨pb,po+2,none⟩=some (.slice (some ⟨qb',qo',none⟩) R s0.cap)∧w'.cell? ⟨qb',qo',none⟩=some (.slice (some ⟨ub',uo',none⟩) C r0.cap)∧w'.cell? ⟨ub',uo',none⟩=some (.string x) from
  ⟨(hb.cell (p:=⟨b,0,none⟩) (by show b<w9.heap.size;omega)).trans y0,(hb.cell (p:=⟨p,0,none⟩) (by show p<w9.heap.size;omega)).trans y1,(hb.cell (p:=⟨q,0,none⟩) (by show q<w9.heap.size;omega)).trans y2,(hb.cell (p:=⟨pb,po+2,none⟩) (by show pb<w9.heap.size;omega)).trans v0,(hb.cell (p:=⟨qb',qo',none⟩) (by show qb'<w9.heap.size;omega)).trans v1,(hb.cell (p:=⟨ub',uo',none⟩) (by show ub'<w9.heap.size;omega)).trans v2⟩))
 have HD9:=Lib.hid (Below.drew (Below.refl w9.heap.size w9))
 go_upto_region 10 with (fail)
 have kS:0<S:=by omega
 have kR:0<R:=by omega
 have kC:0<C:=by omega
 by_cases hR2:1<R
 · have iR2:(1:Int)<(R:Int):=by omega
   simp only [decide_eq_true hR2,Bool.true_or,Bool.not_true] at hsc
   have HSC:=Lib.hid hsc
   clear hsc
   refine wp_region_held_drew (S:=(fun w'=>w'.cell? ⟨b,0,none⟩=some (.slice (some ⟨pb,po,none⟩) S c1)∧w'.cell? ⟨p,0,none⟩=some (.slice A2 S c2)∧w'.cell? ⟨q,0,none⟩=some (.slice (some ⟨T,0,none⟩) S S)∧w'.cell? ⟨pb,po+2,none⟩=some (.slice (some ⟨qb',qo',none⟩) R s0.cap)∧w'.cell? ⟨qb',qo',none⟩=some (.slice (some ⟨ub',uo',none⟩) C r0.cap)∧w'.cell? ⟨ub',uo',none⟩=some (.string x))) (by kernel_rfl) (HKEEP.out _ HD9.out) (fun _ => ?_)
   show wpAnyH _ _ _ _ _ 33 #[false,false,false,false,false,false,false,false,false,false,false,false,false,false,false,false,false,false,false,false,false,false,false,false,false,false,false,false,false,false,false,false,false] _ _
   refine held_take (i:=0) (d:=some 70) (fuel:=32) (listed':=#[true,false,false,false,false,false,false,false,false,false,false,false,false,false,false,false,false,false,false,false,false,false,false,false,false,false,false,false,false,false,false,false,false]) (v := ?_) rfl rfl (by kernel_rfl) (by kernel_rfl) (by kernel_rfl) rfl (fun _ _ _ h=>h) (by rfl) ?_ (HKEEP.out _ HD9.out) ?_
   rotate_left
   · (intro wS hSw;have hz:=hSw;go_simp;try (with_reducible rfl))
   simp only [Act.put,sT,sZ,sS]
   refine held_take (i:=1) (d:=some 71) (fuel:=31) (listed':=#[true,true,false,false,false,false,false,false,false,false,false,false,false,false,false,false,false,false,false,false,false,false,false,false,false,false,false,false,false,false,false,false,false]) (v := ?_) rfl rfl (by kernel_rfl) (by kernel_rfl) (by kernel_rfl) rfl (fun _ _ _ h=>h) (by rfl) ?_ (HKEEP.out _ HD9.out) ?_
   rotate_left
   · (intro wS hSw;have hz:=hSw;go_simp;try (with_reducible rfl))
   simp only [Act.put,sT,sZ,sS]
   refine held_one (i:=2) (d:=some 72) (fuel:=30) (listed':=#[true,true,true,false,false,false,false,false,false,false,false,false,false,false,false,false,false,false,false,false,false,false,false,false,false,false,false,false,false,false,false,false,false]) rfl rfl (by kernel_rfl) rfl (by rfl) (fun K hK => ?_)
   go_simp
   go_at_call 14
   (with_reducible refine (HSB.out _ HD9.out).mono ?_)
   rintro e w10 ⟨rfl,h1⟩
   have H10:=Lib.hid (HD9.out.trans (h1.mono HD9.out.size))
   clear h1
   dsimp only
   refine hK.out _ _ (HKEEP.out _ H10.out) ?_
   clear hK K
   simp only [Act.put,sT,sZ,sS]
   refine held_take (i:=3) (d:=some 73) (fuel:=29) (listed':=#[true,true,true,true,false,false,false,false,false,false,false,false,false,false,false,false,false,false,false,false,false,false,false,false,false,false,false,false,false,false,false,false,false]) (v := ?_) rfl rfl (by kernel_rfl) (by kernel_rfl) (by kernel_rfl) rfl (fun _ _ _ h=>h) (by rfl) ?_ (HKEEP.out _ H10.out) ?_
   rotate_left
   · (intro wS hSw;have hz:=hSw;go_simp;try (with_reducible rfl))
   simp only [Act.put,sT,sZ,sS]
   refine held_take (i:=4) (d:=some 74) (fuel:=28) (listed':=#[true,true,true,true,true,false,false,false,false,false,false,false,false,false,false,false,false,false,false,false,false,false,false,false,false,false,false,false,false,false,false,false,false]) (v := ?_) rfl rfl (by kernel_rfl) (by kernel_rfl) (by kernel_rfl) rfl (fun _ _ _ h=>h) (by rfl) ?_ (HKEEP.out _ H10.out) ?_
   rotate_left
   · (intro wS hSw;have hz:=hSw;go_simp;try (with_reducible rfl))
   simp only [Act.put,sT,sZ,sS]
   refine held_take (i:=5) (d:=some 75) (fuel:=27) (listed':=#[true,true,true,true,true,true,false,false,false,false,false,false,false,false,false,false,false,false,false,false,false,false,false,false,false,false,false,false,false,false,false,false,false]) (v := ?_) rfl rfl (by kernel_rfl) (by kernel_rfl) (by kernel_rfl) rfl (fun _ _ _ h=>h) (by rfl) ?_ (HKEEP.out _ H10.out) ?_
   rotate_left
   · (intro wS hSw;have hz:=hSw;go_simp;try (with_reducible rfl))
   simp only [Act.put,sT,sZ,sS]
   refine held_take (i:=8) (d:=some 78) (fuel:=26) (listed':=#[true,true,true,true,true,true,false,false,true,false,false,false,false,false,false,false,false,false,false,false,false,false,false,false,false,false,false,false,false,false,false,false,false]) (v := ?_) rfl rfl (by kernel_rfl) (by kernel_rfl) (by kernel_rfl) rfl (fun _ _ _ h=>h) (by rfl) ?_ (HKEEP.out _ H10.out) ?_
   rotate_left
   · (intro wS hSw;have hz:=hSw;go_simp;try (with_reducible rfl))
   simp only [Act.put,sT,sZ,sS]
   refine held_take (i:=9) (d:=some 79) (fuel:=25) (listed':=#[true,true,true,true,true,true,false,false,true,true,false,false,false,false,false,false,false,false,false,false,false,false,false,false,false,false,false,false,false,false,false,false,false]) (v := ?_) rfl rfl (by kernel_rfl) (by kernel_rfl) (by kernel_rfl) rfl (fun _ _ _ h=>h) (by rfl) ?_ (HKEEP.out _ H10.out) ?_
   rotate_left
   · (intro wS hSw;have hz:=hSw;go_simp;try (with_reducible rfl))
   simp only [Act.put,sT,sZ,sS]
   refine held_take (i:=10) (d:=some 80) (fuel:=24) (listed':=#[true,true,true,true,true,true,false,false,true,true,true,false,false,false,false,false,false,false,false,false,false,false,false,false,false,false,false,false,false,false,false,false,false]) (v := ?_) rfl rfl (by kernel_rfl) (by kernel_rfl) (by kernel_rfl) rfl (fun _ _ _ h=>h) (by rfl) ?_ (HKEEP.out _ H10.out) ?_
   rotate_left
   · (intro wS hSw;have hz:=hSw;go_simp;try (with_reducible rfl))
   simp only [Act.put,sT,sZ,sS]
   refine held_take (i:=11) (d:=some 81) (fuel:=23) (listed':=#[true,true,true,true,true,true,false,false,true,true,true,true,false,false,false,false,false,false,false,false,false,false,false,false,false,false,false,false,false,false,false,false,false]) (v := ?_) rfl rfl (by kernel_rfl) (by kernel_rfl) (by kernel_rfl) rfl (fun _ _ _ h=>h) (by rfl) ?_ (HKEEP.out _ H10.out) ?_
   rotate_left
   · (intro wS hSw;have hz:=hSw;go_simp;try (with_reducible rfl))
   simp only [Act.put,sT,sZ,sS]
   refine held_take (i:=12) (d:=some 82) (fuel:=22) (listed':=#[true,true,true,true,true,true,false,false,true,true,true,true,true,false,false,false,false,false,false,false,false,false,false,false,false,false,false,false,false,false,false,false,false]) (v := ?_) rfl rfl (by kernel_rfl) (by kernel_rfl) (by kernel_rfl) rfl (fun _ _ _ h=>h) (by rfl) ?_ (HKEEP.out _ H10.out) ?_
   rotate_left
   · (intro wS hSw;have hz:=hSw;go_simp;try (with_reducible rfl))
   simp only [Act.put,sT,sZ,sS]
   refine held_take (i:=13) (d:=some 83) (fuel:=21) (listed':=#[true,true,true,true,true,true,false,false,true,true,true,true,true,true,false,false,false,false,false,false,false,false,false,false,false,false,false,false,false,false,false,false,false]) (v := ?_) rfl rfl (by kernel_rfl) (by kernel_rfl) (by kernel_rfl) rfl (fun _ _ _ h=>h) (by rfl) ?_ (HKEEP.out _ H10.out) ?_
   rotate_left
   · (intro wS hSw;have hz:=hSw;go_simp;try (with_reducible rfl))
   simp only [Act.put,sT,sZ,sS]
   refine held_take (i:=14) (d:=some 84) (fuel:=20) (listed':=#[true,true,true,true,true,true,false,false,true,true,true,true,true,true,true,false,false,false,false,false,false,false,false,false,false,false,false,false,false,false,false,false,false]) (v := ?_) rfl rfl (by kernel_rfl) (by kernel_rfl) (by kernel_rfl) rfl (fun _ _ _ h=>h) (by rfl) ?_ (HKEEP.out _ H10.out) ?_
   rotate_left
   · (intro wS hSw;have hz:=hSw;go_simp;try (with_reducible rfl))
   simp only [Act.put,sT,sZ,sS]
   refine held_one (i:=6) (d:=some 76) (fuel:=19) (listed':=#[true,true,true,true,true,true,true,false,true,true,true,true,true,true,true,false,false,false,false,false,false,false,false,false,false,false,false,false,false,false,false,false,false]) rfl rfl (by kernel_rfl) rfl (by rfl) (fun K hK => ?_)
   go_simp
   go_at_call 18
   (with_reducible refine (HSC.out _ H10.out).mono ?_)
   rintro e w11 ⟨rfl,h1⟩
   have H11:=Lib.hid (H10.out.trans (h1.mono H10.out.size))
   clear h1
   dsimp only
   refine hK.out _ _ (HKEEP.out _ H11.out) ?_
   clear hK K
   simp only [Act.put,sT,sZ,sS]
   refine held_take (i:=7) (d:=some 77) (fuel:=18) (listed':=#[true,true,true,true,true,true,true,true,true,true,true,true,true,true,true,false,false,false,false,false,false,false,false,false,false,false,false,false,false,false,false,false,false]) (v := ?_) rfl rfl (by kernel_rfl) (by kernel_rfl) (by kernel_rfl) rfl (fun _ _ _ h=>h) (by rfl) ?_ (HKEEP.out _ H11.out) ?_
   rotate_left
   · (intro wS hSw;have hz:=hSw;go_simp;try (with_reducible rfl))
   simp only [Act.put,sT,sZ,sS]
   refine held_take (i:=15) (d:=some 85) (fuel:=17) (listed':=#[true,true,true,true,true,true,true,true,true,true,true,true,true,true,true,true,false,false,false,false,false,false,false,false,false,false,false,false,false,false,false,false,false]) (v := ?_) rfl rfl (by kernel_rfl) (by kernel_rfl) (by kernel_rfl) rfl (fun _ _ _ h=>h) (by rfl) ?_ (HKEEP.out _ H11.out) ?_
   rotate_left
   · (intro wS hSw;have hz:=hSw;go_simp;try (with_reducible rfl))
   simp only [Act.put,sT,sZ,sS]
   refine held_skip (i:=16) (d:=some 86) (fuel:=16) (listed':=#[true,true,true,true,true,true,true,true,true,true,true,true,true,true,true,true,true,false,false,false,false,false,false,false,false,false,false,false,false,false,false,false,false]) rfl rfl (by kernel_rfl) (by kernel_rfl) (by kernel_rfl) rfl (fun _ _ _ h=>h) (by rfl) (HKEEP.out _ H11.out) ?_
   simp only [Act.put,sT,sZ,sS]
   refine held_skip (i:=17) (d:=some 87) (fuel:=15) (listed':=#[true,true,true,true,true,true,true,true,true,true,true,true,true,true,true,true,true,true,false,false,false,false,false,false,false,false,false,false,false,false,false,false,false]) rfl rfl (by kernel_rfl) (by kernel_rfl) (by kernel_rfl) rfl (fun _ _ _ h=>h) (by rfl) (HKEEP.out _ H11.out) ?_
   simp only [Act.put,sT,sZ,sS]
   refine held_skip (i:=18) (d:=some 88) (fuel:=14) (listed':=#[true,true,true,true,true,true,true,true,true,true,true,true,true,true,true,true,true,true,true,false,false,false,false,false,false,false,false,false,false,false,false,false,false]) rfl rfl (by kernel_rfl) (by kernel_rfl) (by kernel_rfl) rfl (fun _ _ _ h=>h) (by rfl) (HKEEP.out _ H11.out) ?_
   simp only [Act.put,sT,sZ,sS]
   refine held_skip (i:=19) (d:=some 89) (fuel:=13) (listed':=#[true,true,true,true,true,true,true,true,true,true,true,true,true,true,true,true,true,true,true,true,false,false,false,false,false,false,false,false,false,false,false,false,false]) rfl rfl (by kernel_rfl) (by kernel_rfl) (by kernel_rfl) rfl (fun _ _ _ h=>h) (by rfl) (HKEEP.out _ H11.out) ?_
   simp only [Act.put,sT,sZ,sS]
   refine held_skip (i:=20) (d:=some 90) (fuel:=12) (listed':=#[true,true,true,true,true,true,true,true,true,true,true,true,true,true,true,true,true,true,true,true,true,false,false,false,false,false,false,false,false,false,false,false,false]) rfl rfl (by kernel_rfl) (by kernel_rfl) (by kernel_rfl) rfl (fun _ _ _ h=>h) (by rfl) (HKEEP.out _ H11.out) ?_
   simp only [Act.put,sT,sZ,sS]
   refine held_skip (i:=21) (d:=some 91) (fuel:=11) (listed':=#[true,true,true,true,true,true,true,true,true,true,true,true,true,true,true,true,true,true,true,true,true,true,false,false,false,false,false,false,false,false,false,false,false]) rfl rfl (by kernel_rfl) (by kernel_rfl) (by kernel_rfl) rfl (fun _ _ _ h=>h) (by rfl) (HKEEP.out _ H11.out) ?_
   simp only [Act.put,sT,sZ,sS]
   refine held_skip (i:=22) (d:=some 92) (fuel:=10) (listed':=#[true,true,true,true,true,true,true,true,true,true,true,true,true,true,true,true,true,true,true,true,true,true,true,false,false,false,false,false,false,false,false,false,false]) rfl rfl (by kernel_rfl) (by kernel_rfl) (by kernel_rfl) rfl (fun _ _ _ h=>h) (by rfl) (HKEEP.out _ H11.out) ?_
   simp only [Act.put,sT,sZ,sS]
   refine held_skip (i:=23) (d:=some 93) (fuel:=9) (listed':=#[true,true,true,true,true,true,true,true,true,true,true,true,true,true,true,true,true,true,true,true,true,true,true,true,false,false,false,false,false,false,false,false,false]) rfl rfl (by kernel_rfl) (by kernel_rfl) (by kernel_rfl) rfl (fun _ _ _ h=>h) (by rfl) (HKEEP.out _ H11.out) ?_
   simp only [Act.put,sT,sZ,sS]
   refine held_skip (i:=24) (d:=some 94) (fuel:=8) (listed':=#[true,true,true,true,true,true,true,true,true,true,true,true,true,true,true,true,true,true,true,true,true,true,true,true,true,false,false,false,false,false,false,false,false]) rfl rfl (by kernel_rfl) (by kernel_rfl) (by kernel_rfl) rfl (fun _ _ _ h=>h) (by rfl) (HKEEP.out _ H11.out) ?_
   simp only [Act.put,sT,sZ,sS]
   refine held_skip (i:=25) (d:=some 95) (fuel:=7) (listed':=#[true,true,true,true,true,true,true,true,true,true,true,true,true,true,true,true,true,true,true,true,true,true,true,true,true,true,false,false,false,false,false,false,false]) rfl rfl (by kernel_rfl) (by kernel_rfl) (by kernel_rfl) rfl (fun _ _ _ h=>h) (by rfl) (HKEEP.out _ H11.out) ?_
   simp only [Act.put,sT,sZ,sS]
   refine held_take (i:=26) (d:=some 96) (fuel:=6) (listed':=#[true,true,true,true,true,true,true,true,true,true,true,true,true,true,true,true,true,true,true,true,true,true,true,true,true,true,true,false,false,false,false,false,false]) (v := ?_) rfl rfl (by kernel_rfl) (by kernel_rfl) (by kernel_rfl) rfl (fun _ _ _ h=>h) (by rfl) ?_ (HKEEP.out _ H11.out) ?_
   rotate_left
   · (intro wS hSw;have hz:=hSw;go_simp;try (with_reducible rfl))
   simp only [Act.put,sT,sZ,sS]
   refine held_take (i:=27) (d:=some 97) (fuel:=5) (listed':=#[true,true,true,true,true,true,true,true,true,true,true,true,true,true,true,true,true,true,true,true,true,true,true,true,true,true,true,true,false,false,false,false,false]) (v := ?_) rfl rfl (by kernel_rfl) (by kernel_rfl) (by kernel_rfl) rfl (fun _ _ _ h=>h) (by rfl) ?_ (HKEEP.out _ H11.out) ?_
   rotate_left
   · (intro wS hSw;have hz:=hSw;go_simp;try (with_reducible rfl))
   simp only [Act.put,sT,sZ,sS]
   refine held_take (i:=28) (d:=some 98) (fuel:=4) (listed':=#[true,true,true,true,true,true,true,true,true,true,true,true,true,true,true,true,true,true,true,true,true,true,true,true,true,true,true,true,true,false,false,false,false]) (v := ?_) rfl rfl (by kernel_rfl) (by kernel_rfl) (by kernel_rfl) rfl (fun _ _ _ h=>h) (by rfl) ?_ (HKEEP.out _ H11.out) ?_
   rotate_left
   · (intro wS hSw;have hz:=hSw;go_simp;try (with_reducible rfl))
   simp only [Act.put,sT,sZ,sS]
   refine held_take (i:=29) (d:=some 99) (fuel:=3) (listed':=#[true,true,true,true,true,true,true,true,true,true,true,true,true,true,true,true,true,true,true,true,true,true,true,true,true,true,true,true,true,true,false,false,false]) (v := ?_) rfl rfl (by kernel_rfl) (by kernel_rfl) (by kernel_rfl) rfl (fun _ _ _ h=>h) (by rfl) ?_ (HKEEP.out _ H11.out) ?_
   rotate_left
   · (intro wS hSw;have hz:=hSw;go_simp;try (with_reducible rfl))
   simp only [Act.put,sT,sZ,sS]
   refine held_one (i:=30) (d:=some 100) (fuel:=2) (listed':=#[true,true,true,true,true,true,true,true,true,true,true,true,true,true,true,true,true,true,true,true,true,true,true,true,true,true,true,true,true,true,true,false,false]) rfl rfl (by kernel_rfl) rfl (by rfl) (fun K hK => ?_)
   go_simp
   go_at_call 6
   (with_reducible refine (HAW9.out _ H11.out).mono ?_)
   rintro e w12 ⟨rfl,h1⟩
   have H12:=Lib.hid (H11.out.trans (h1.mono H11.out.size))
   clear h1
   dsimp only
   refine hK.out _ _ (HKEEP.out _ H12.out) ?_
   clear hK K
   simp only [Act.put,sT,sZ,sS]
   refine held_take (i:=31) (d:=some 101) (fuel:=1) (listed':=#[true,true,true,true,true,true,true,true,true,true,true,true,true,true,true,true,true,true,true,true,true,true,true,true,true,true,true,true,true,true,true,true,false]) (v := ?_) rfl rfl (by kernel_rfl) (by kernel_rfl) (by kernel_rfl) rfl (fun _ _ _ h=>h) (by rfl) ?_ (HKEEP.out _ H12.out) ?_
   rotate_left
   · (intro wS hSw;have hz:=hSw;go_simp;try (with_reducible rfl))
   simp only [Act.put,sT,sZ,sS]
   refine held_take (i:=32) (d:=some 4) (fuel:=0) (listed':=#[true,true,true,true,true,true,true,true,true,true,true,true,true,true,true,true,true,true,true,true,true,true,true,true,true,true,true,true,true,true,true,true,true]) (v := ?_) rfl rfl (by kernel_rfl) (by kernel_rfl) (by kernel_rfl) rfl (fun _ _ _ h=>h) (by rfl) ?_ (HKEEP.out _ H12.out) ?_
   rotate_left
   · (intro wS hSw;have hz:=hSw;go_simp;try (with_reducible rfl))
   simp only [Act.put,sT,sZ,sS]
   refine wpAnyH_done (by kernel_rfl) ?_ _
   go_wp2_with fail
   go_ret
   exact ⟨rfl,HW9.out.trans (H12.out.mono HW9.out.size)⟩
 · have iR2:¬ (1:Int)<(R:Int):=by omega
   by_cases hxz:x=⟨#[39,122,122]⟩
   · subst hxz
     simp only [decide_eq_false hR2,Bool.false_or,not_true_eq_false,decide_false,Bool.not_false] at hsc
     have HSC:=Lib.hid hsc
     clear hsc
     refine wp_region_held_drew (S:=(fun w'=>w'.cell? ⟨b,0,none⟩=some (.slice (some ⟨pb,po,none⟩) S c1)∧w'.cell? ⟨p,0,none⟩=some (.slice A2 S c2)∧w'.cell? ⟨q,0,none⟩=some (.slice (some ⟨T,0,none⟩) S S)∧w'.cell? ⟨pb,po+2,none⟩=some (.slice (some ⟨qb',qo',none⟩) R s0.cap)∧w'.cell? ⟨qb',qo',none⟩=some (.slice (some ⟨ub',uo',none⟩) C r0.cap)∧w'.cell? ⟨ub',uo',none⟩=some (.string ⟨#[39,122,122]⟩))) (by kernel_rfl) (HKEEP.out _ HD9.out) (fun _ => ?_)
     show wpAnyH _ _ _ _ _ 33 #[false,false,false,false,false,false,false,false,false,false,false,false,false,false,false,false,false,false,false,false,false,false,false,false,false,false,false,false,false,false,false,false,false] _ _
     refine held_take (i:=0) (d:=some 70) (fuel:=32) (listed':=#[true,false,false,false,false,false,false,false,false,false,false,false,false,false,false,false,false,false,false,false,false,false,false,false,false,false,false,false,false,false,false,false,false]) (v := ?_) rfl rfl (by kernel_rfl) (by kernel_rfl) (by kernel_rfl) rfl (fun _ _ _ h=>h) (by rfl) ?_ (HKEEP.out _ HD9.out) ?_
     rotate_left
     · (intro wS hSw;have hz:=hSw;go_simp;try (with_reducible rfl))
     simp only [Act.put,sT,sZ,sS]
     refine held_take (i:=1) (d:=some 71) (fuel:=31) (listed':=#[true,true,false,false,false,false,false,false,false,false,false,false,false,false,false,false,false,false,false,false,false,false,false,false,false,false,false,false,false,false,false,false,false]) (v := ?_) rfl rfl (by kernel_rfl) (by kernel_rfl) (by kernel_rfl) rfl (fun _ _ _ h=>h) (by rfl) ?_ (HKEEP.out _ HD9.out) ?_
     rotate_left
     · (intro wS hSw;have hz:=hSw;go_simp;try (with_reducible rfl))
     simp only [Act.put,sT,sZ,sS]
     refine held_one (i:=2) (d:=some 72) (fuel:=30) (listed':=#[true,true,true,false,false,false,false,false,false,false,false,false,false,false,false,false,false,false,false,false,false,false,false,false,false,false,false,false,false,false,false,false,false]) rfl rfl (by kernel_rfl) rfl (by rfl) (fun K hK => ?_)
     go_simp
     go_at_call 14
     (with_reducible refine (HSB.out _ HD9.out).mono ?_)
     rintro e w10 ⟨rfl,h1⟩
     have H10:=Lib.hid (HD9.out.trans (h1.mono HD9.out.size))
     clear h1
     dsimp only
     refine hK.out _ _ (HKEEP.out _ H10.out) ?_
     clear hK K
     simp only [Act.put,sT,sZ,sS]
     refine held_take (i:=3) (d:=some 73) (fuel:=29) (listed':=#[true,true,true,true,false,false,false,false,false,false,false,false,false,false,false,false,false,false,false,false,false,false,false,false,false,false,false,false,false,false,false,false,false]) (v := ?_) rfl rfl (by kernel_rfl) (by kernel_rfl) (by kernel_rfl) rfl (fun _ _ _ h=>h) (by rfl) ?_ (HKEEP.out _ H10.out) ?_
     rotate_left
     · (intro wS hSw;have hz:=hSw;go_simp;try (with_reducible rfl))
     simp only [Act.put,sT,sZ,sS]
     refine held_take (i:=4) (d:=some 74) (fuel:=28) (listed':=#[true,true,true,true,true,false,false,false,false,false,false,false,false,false,false,false,false,false,false,false,false,false,false,false,false,false,false,false,false,false,false,false,false]) (v := ?_) rfl rfl (by kernel_rfl) (by kernel_rfl) (by kernel_rfl) rfl (fun _ _ _ h=>h) (by rfl) ?_ (HKEEP.out _ H10.out) ?_
     rotate_left
     · (intro wS hSw;have hz:=hSw;go_simp;try (with_reducible rfl))
     simp only [Act.put,sT,sZ,sS]
     refine held_take (i:=5) (d:=some 75) (fuel:=27) (listed':=#[true,true,true,true,true,true,false,false,false,false,false,false,false,false,false,false,false,false,false,false,false,false,false,false,false,false,false,false,false,false,false,false,false]) (v := ?_) rfl rfl (by kernel_rfl) (by kernel_rfl) (by kernel_rfl) rfl (fun _ _ _ h=>h) (by rfl) ?_ (HKEEP.out _ H10.out) ?_
     rotate_left
     · (intro wS hSw;have hz:=hSw;go_simp;try (with_reducible rfl))
     simp only [Act.put,sT,sZ,sS]
     refine held_take (i:=8) (d:=some 78) (fuel:=26) (listed':=#[true,true,true,true,true,true,false,false,true,false,false,false,false,false,false,false,false,false,false,false,false,false,false,false,false,false,false,false,false,false,false,false,false]) (v := ?_) rfl rfl (by kernel_rfl) (by kernel_rfl) (by kernel_rfl) rfl (fun _ _ _ h=>h) (by rfl) ?_ (HKEEP.out _ H10.out) ?_
     rotate_left
     · (intro wS hSw;have hz:=hSw;go_simp;try (with_reducible rfl))
     simp only [Act.put,sT,sZ,sS]
     refine held_take (i:=9) (d:=some 79) (fuel:=25) (listed':=#[true,true,true,true,true,true,false,false,true,true,false,false,false,false,false,false,false,false,false,false,false,false,false,false,false,false,false,false,false,false,false,false,false]) (v := ?_) rfl rfl (by kernel_rfl) (by kernel_rfl) (by kernel_rfl) rfl (fun _ _ _ h=>h) (by rfl) ?_ (HKEEP.out _ H10.out) ?_
     rotate_left
     · (intro wS hSw;have hz:=hSw;go_simp;try (with_reducible rfl))
     simp only [Act.put,sT,sZ,sS]
     refine held_take (i:=10) (d:=some 80) (fuel:=24) (listed':=#[true,true,true,true,true,true,false,false,true,true,true,false,false,false,false,false,false,false,false,false,false,false,false,false,false,false,false,false,false,false,false,false,false]) (v := ?_) rfl rfl (by kernel_rfl) (by kernel_rfl) (by kernel_rfl) rfl (fun _ _ _ h=>h) (by rfl) ?_ (HKEEP.out _ H10.out) ?_
     rotate_left
     · (intro wS hSw;have hz:=hSw;go_simp;try (with_reducible rfl))
     simp only [Act.put,sT,sZ,sS]
     refine held_take (i:=11) (d:=some 81) (fuel:=23) (listed':=#[true,true,true,true,true,true,false,false,true,true,true,true,false,false,false,false,false,false,false,false,false,false,false,false,false,false,false,false,false,false,false,false,false]) (v := ?_) rfl rfl (by kernel_rfl) (by kernel_rfl) (by kernel_rfl) rfl (fun _ _ _ h=>h) (by rfl) ?_ (HKEEP.out _ H10.out) ?_
     rotate_left
     · (intro wS hSw;have hz:=hSw;go_simp;try (with_reducible rfl))
     simp only [Act.put,sT,sZ,sS]
     refine held_take (i:=12) (d:=some 82) (fuel:=22) (listed':=#[true,true,true,true,true,true,false,false,true,true,true,true,true,false,false,false,false,false,false,false,false,false,false,false,false,false,false,false,false,false,false,false,false]) (v := ?_) rfl rfl (by kernel_rfl) (by kernel_rfl) (by kernel_rfl) rfl (fun _ _ _ h=>h) (by rfl) ?_ (HKEEP.out _ H10.out) ?_
     rotate_left
     · (intro wS hSw;have hz:=hSw;go_simp;try (with_reducible rfl))
     simp only [Act.put,sT,sZ,sS]
     refine held_take (i:=13) (d:=some 83) (fuel:=21) (listed':=#[true,true,true,true,true,true,false,false,true,true,true,true,true,true,false,false,false,false,false,false,false,false,false,false,false,false,false,false,false,false,false,false,false]) (v := ?_) rfl rfl (by kernel_rfl) (by kernel_rfl) (by kernel_rfl) rfl (fun _ _ _ h=>h) (by rfl) ?_ (HKEEP.out _ H10.out) ?_
     rotate_left
     · (intro wS hSw;have hz:=hSw;go_simp;try (with_reducible rfl))
     simp only [Act.put,sT,sZ,sS]
     refine held_take (i:=14) (d:=some 84) (fuel:=20) (listed':=#[true,true,true,true,true,true,false,false,true,true,true,true,true,true,true,false,false,false,false,false,false,false,false,false,false,false,false,false,false,false,false,false,false]) (v := ?_) rfl rfl (by kernel_rfl) (by kernel_rfl) (by kernel_rfl) rfl (fun _ _ _ h=>h) (by rfl) ?_ (HKEEP.out _ H10.out) ?_
     rotate_left
     · (intro wS hSw;have hz:=hSw;go_simp;try (with_reducible rfl))
     simp only [Act.put,sT,sZ,sS]
     refine held_one (i:=6) (d:=some 76) (fuel:=19) (listed':=#[true,true,true,true,true,true,true,false,true,true,true,true,true,true,true,false,false,false,false,false,false,false,false,false,false,false,false,false,false,false,false,false,false]) rfl rfl (by kernel_rfl) rfl (by rfl) (fun K hK => ?_)
     go_simp
     go_at_call 18
     (with_reducible refine (HSC.out _ H10.out).mono ?_)
     rintro e w11 ⟨rfl,h1⟩
     have H11:=Lib.hid (H10.out.trans (h1.mono H10.out.size))
     clear h1
     dsimp only
     refine hK.out _ _ (HKEEP.out _ H11.out) ?_
     clear hK K
     simp only [Act.put,sT,sZ,sS]
     refine held_take (i:=7) (d:=some 77) (fuel:=18) (listed':=#[true,true,true,true,true,true,true,true,true,true,true,true,true,true,true,false,false,false,false,false,false,false,false,false,false,false,false,false,false,false,false,false,false]) (v := ?_) rfl rfl (by kernel_rfl) (by kernel_rfl) (by kernel_rfl) rfl (fun _ _ _ h=>h) (by rfl) ?_ (HKEEP.out _ H11.out) ?_
     rotate_left
     · (intro wS hSw;have hz:=hSw;go_simp;try (with_reducible rfl))
     simp only [Act.put,sT,sZ,sS]
     refine held_take (i:=15) (d:=some 85) (fuel:=17) (listed':=#[true,true,true,true,true,true,true,true,true,true,true,true,true,true,true,true,false,false,false,false,false,false,false,false,false,false,false,false,false,false,false,false,false]) (v := ?_) rfl rfl (by kernel_rfl) (by kernel_rfl) (by kernel_rfl) rfl (fun _ _ _ h=>h) (by rfl) ?_ (HKEEP.out _ H11.out) ?_
     rotate_left
     · (intro wS hSw;have hz:=hSw;go_simp;try (with_reducible rfl))
     simp only [Act.put,sT,sZ,sS]
     refine held_take (i:=16) (d:=some 86) (fuel:=16) (listed':=#[true,true,true,true,true,true,true,true,true,true,true,true,true,true,true,true,true,false,false,false,false,false,false,false,false,false,false,false,false,false,false,false,false]) (v := ?_) rfl rfl (by kernel_rfl) (by kernel_rfl) (by kernel_rfl) rfl (fun _ _ _ h=>h) (by rfl) ?_ (HKEEP.out _ H11.out) ?_
     rotate_left
     · (intro wS hSw;have hz:=hSw;go_simp;try (with_reducible rfl))
     simp only [Act.put,sT,sZ,sS]
     refine held_take (i:=17) (d:=some 87) (fuel:=15) (listed':=#[true,true,true,true,true,true,true,true,true,true,true,true,true,true,true,true,true,true,false,false,false,false,false,false,false,false,false,false,false,false,false,false,false]) (v := ?_) rfl rfl (by kernel_rfl) (by kernel_rfl) (by kernel_rfl) rfl (fun _ _ _ h=>h) (by rfl) ?_ (HKEEP.out _ H11.out) ?_
     rotate_left
     · (intro wS hSw;have hz:=hSw;go_simp;try (with_reducible rfl))
     simp only [Act.put,sT,sZ,sS]
     refine held_take (i:=18) (d:=some 88) (fuel:=14) (listed':=#[true,true,true,true,true,true,true,true,true,true,true,true,true,true,true,true,true,true,true,false,false,false,false,false,false,false,false,false,false,false,false,false,false]) (v := ?_) rfl rfl (by kernel_rfl) (by kernel_rfl) (by kernel_rfl) rfl (fun _ _ _ h=>h) (by rfl) ?_ (HKEEP.out _ H11.out) ?_
     rotate_left
     · (intro wS hSw;have hz:=hSw;go_simp;try (with_reducible rfl))
     simp only [Act.put,sT,sZ,sS]
     refine held_take (i:=19) (d:=some 89) (fuel:=13) (listed':=#[true,true,true,true,true,true,true,true,true,true,true,true,true,true,true,true,true,true,true,true,false,false,false,false,false,false,false,false,false,false,false,false,false]) (v := ?_) rfl rfl (by kernel_rfl) (by kernel_rfl) (by kernel_rfl) rfl (fun _ _ _ h=>h) (by rfl) ?_ (HKEEP.out _ H11.out) ?_
     rotate_left
     · (intro wS hSw;have hz:=hSw;go_simp;try (with_reducible rfl))
     simp only [Act.put,sT,sZ,sS]
     refine held_take (i:=20) (d:=some 90) (fuel:=12) (listed':=#[true,true,true,true,true,true,true,true,true,true,true,true,true,true,true,true,true,true,true,true,true,false,false,false,false,false,false,false,false,false,false,false,false]) (v := ?_) rfl rfl (by kernel_rfl) (by kernel_rfl) (by kernel_rfl) rfl (fun _ _ _ h=>h) (by rfl) ?_ (HKEEP.out _ H11.out) ?_
     rotate_left
     · (intro wS hSw;have hz:=hSw;go_simp;try (with_reducible rfl))
     simp only [Act.put,sT,sZ,sS]
     refine held_take (i:=21) (d:=some 91) (fuel:=11) (listed':=#[true,true,true,true,true,true,true,true,true,true,true,true,true,true,true,true,true,true,true,true,true,true,false,false,false,false,false,false,false,false,false,false,false]) (v := ?_) rfl rfl (by kernel_rfl) (by kernel_rfl) (by kernel_rfl) rfl (fun _ _ _ h=>h) (by rfl) ?_ (HKEEP.out _ H11.out) ?_
     rotate_left
     · (intro wS hSw;have hz:=hSw;go_simp;try (with_reducible rfl))
     simp only [Act.put,sT,sZ,sS]
     refine held_take (i:=22) (d:=some 92) (fuel:=10) (listed':=#[true,true,true,true,true,true,true,true,true,true,true,true,true,true,true,true,true,true,true,true,true,true,true,false,false,false,false,false,false,false,false,false,false]) (v := ?_) rfl rfl (by kernel_rfl) (by kernel_rfl) (by kernel_rfl) rfl (fun _ _ _ h=>h) (by rfl) ?_ (HKEEP.out _ H11.out) ?_
     rotate_left
     · (intro wS hSw;have hz:=hSw;go_simp;try (with_reducible rfl))
     simp only [Act.put,sT,sZ,sS]
     refine held_take (i:=23) (d:=some 93) (fuel:=9) (listed':=#[true,true,true,true,true,true,true,true,true,true,true,true,true,true,true,true,true,true,true,true,true,true,true,true,false,false,false,false,false,false,false,false,false]) (v := ?_) rfl rfl (by kernel_rfl) (by kernel_rfl) (by kernel_rfl) rfl (fun _ _ _ h=>h) (by rfl) ?_ (HKEEP.out _ H11.out) ?_
     rotate_left
     · (intro wS hSw;have hz:=hSw;go_simp;try (with_reducible rfl))
     simp only [Act.put,sT,sZ,sS]
     refine held_take (i:=24) (d:=some 94) (fuel:=8) (listed':=#[true,true,true,true,true,true,true,true,true,true,true,true,true,true,true,true,true,true,true,true,true,true,true,true,true,false,false,false,false,false,false,false,false]) (v := ?_) rfl rfl (by kernel_rfl) (by kernel_rfl) (by kernel_rfl) rfl (fun _ _ _ h=>h) (by rfl) ?_ (HKEEP.out _ H11.out) ?_
     rotate_left
     · (intro wS hSw;have hz:=hSw;go_simp;try (with_reducible rfl))
     simp only [Act.put,sT,sZ,sS]
     refine held_take (i:=25) (d:=some 95) (fuel:=7) (listed':=#[true,true,true,true,true,true,true,true,true,true,true,true,true,true,true,true,true,true,true,true,true,true,true,true,true,true,false,false,false,false,false,false,false]) (v := ?_) rfl rfl (by kernel_rfl) (by kernel_rfl) (by kernel_rfl) rfl (fun _ _ _ h=>h) (by rfl) ?_ (HKEEP.out _ H11.out) ?_
     rotate_left
     · (intro wS hSw;have hz:=hSw;go_simp;try (with_reducible rfl))
     simp only [Act.put,sT,sZ,sS]
     refine held_take (i:=26) (d:=some 96) (fuel:=6) (listed':=#[true,true,true,true,true,true,true,true,true,true,true,true,true,true,true,true,true,true,true,true,true,true,true,true,true,true,true,false,false,false,false,false,false]) (v := ?_) rfl rfl (by kernel_rfl) (by kernel_rfl) (by kernel_rfl) rfl (fun _ _ _ h=>h) (by rfl) ?_ (HKEEP.out _ H11.out) ?_
     rotate_left
     · (intro wS hSw;have hz:=hSw;go_simp;try (with_reducible rfl))
     simp only [Act.put,sT,sZ,sS]
     refine held_take (i:=27) (d:=some 97) (fuel:=5) (listed':=#[true,true,true,true,true,true,true,true,true,true,true,true,true,true,true,true,true,true,true,true,true,true,true,true,true,true,true,true,false,false,false,false,false]) (v := ?_) rfl rfl (by kernel_rfl) (by kernel_rfl) (by kernel_rfl) rfl (fun _ _ _ h=>h) (by rfl) ?_ (HKEEP.out _ H11.out) ?_
     rotate_left
     · (intro wS hSw;have hz:=hSw;go_simp;try (with_reducible rfl))
     simp only [Act.put,sT,sZ,sS]
     refine held_take (i:=28) (d:=some 98) (fuel:=4) (listed':=#[true,true,true,true,true,true,true,true,true,true,true,true,true,true,true,true,true,true,true,true,true,true,true,true,true,true,true,true,true,false,false,false,false]) (v := ?_) rfl rfl (by kernel_rfl) (by kernel_rfl) (by kernel_rfl) rfl (fun _ _ _ h=>h) (by rfl) ?_ (HKEEP.out _ H11.out) ?_
     rotate_left
     · (intro wS hSw;have hz:=hSw;go_simp;try (with_reducible rfl))
     simp only [Act.put,sT,sZ,sS]
     refine held_take (i:=29) (d:=some 99) (fuel:=3) (listed':=#[true,true,true,true,true,true,true,true,true,true,true,true,true,true,true,true,true,true,true,true,true,true,true,true,true,true,true,true,true,true,false,false,false]) (v := ?_) rfl rfl (by kernel_rfl) (by kernel_rfl) (by kernel_rfl) rfl (fun _ _ _ h=>h) (by rfl) ?_ (HKEEP.out _ H11.out) ?_
     rotate_left
     · (intro wS hSw;have hz:=hSw;go_simp;try (with_reducible rfl))
     simp only [Act.put,sT,sZ,sS]
     refine held_one (i:=30) (d:=some 100) (fuel:=2) (listed':=#[true,true,true,true,true,true,true,true,true,true,true,true,true,true,true,true,true,true,true,true,true,true,true,true,true,true,true,true,true,true,true,false,false]) rfl rfl (by kernel_rfl) rfl (by rfl) (fun K hK => ?_)
     go_simp
     go_at_call 6
     (with_reducible refine (HAW9.out _ H11.out).mono ?_)
     rintro e w12 ⟨rfl,h1⟩
     have H12:=Lib.hid (H11.out.trans (h1.mono H11.out.size))
     clear h1
     dsimp only
     refine hK.out _ _ (HKEEP.out _ H12.out) ?_
     clear hK K
     simp only [Act.put,sT,sZ,sS]
     refine held_take (i:=31) (d:=some 101) (fuel:=1) (listed':=#[true,true,true,true,true,true,true,true,true,true,true,true,true,true,true,true,true,true,true,true,true,true,true,true,true,true,true,true,true,true,true,true,false]) (v := ?_) rfl rfl (by kernel_rfl) (by kernel_rfl) (by kernel_rfl) rfl (fun _ _ _ h=>h) (by rfl) ?_ (HKEEP.out _ H12.out) ?_
     rotate_left
     · (intro wS hSw;have hz:=hSw;go_simp;try (with_reducible rfl))
     simp only [Act.put,sT,sZ,sS]
     refine held_take (i:=32) (d:=some 4) (fuel:=0) (listed':=#[true,true,true,true,true,true,true,true,true,true,true,true,true,true,true,true,true,true,true,true,true,true,true,true,true,true,true,true,true,true,true,true,true]) (v := ?_) rfl rfl (by kernel_rfl) (by kernel_rfl) (by kernel_rfl) rfl (fun _ _ _ h=>h) (by rfl) ?_ (HKEEP.out _ H12.out) ?_
     rotate_left
     · (intro wS hSw;have hz:=hSw;go_simp;try (with_reducible rfl))
     simp only [Act.put,sT,sZ,sS]
     refine wpAnyH_done (by kernel_rfl) ?_ _
     go_wp2_with fail
     go_ret
     exact ⟨rfl,HW9.out.trans (H12.out.mono HW9.out.size)⟩
   · simp only [decide_eq_false hR2,Bool.false_or,hxz,not_false_eq_true,decide_true,Bool.not_true] at hsc
     have HSC:=Lib.hid hsc
     have hlit:(⟨#[39,122,122]⟩:ByteArray).toList=[39,122,122]:=by first | (go_simp;done) | decide | kernel_rfl
     have hne:¬ x.toList=[39,122,122]:=fun h=>text_ne x ⟨#[39,122,122]⟩ hxz (h.trans hlit.symm)
     clear hsc
     refine wp_region_held_drew (S:=(fun w'=>w'.cell? ⟨b,0,none⟩=some (.slice (some ⟨pb,po,none⟩) S c1)∧w'.cell? ⟨p,0,none⟩=some (.slice A2 S c2)∧w'.cell? ⟨q,0,none⟩=some (.slice (some ⟨T,0,none⟩) S S)∧w'.cell? ⟨pb,po+2,none⟩=some (.slice (some ⟨qb',qo',none⟩) R s0.cap)∧w'.cell? ⟨qb',qo',none⟩=some (.slice (some ⟨ub',uo',none⟩) C r0.cap)∧w'.cell? ⟨ub',uo',none⟩=some (.string x))) (by kernel_rfl) (HKEEP.out _ HD9.out) (fun _ => ?_)
     show wpAnyH _ _ _ _ _ 33 #[false,false,false,false,false,false,false,false,false,false,false,false,false,false,false,false,false,false,false,false,false,false,false,false,false,false,false,false,false,false,false,false,false] _ _
     refine held_take (i:=0) (d:=some 70) (fuel:=32) (listed':=#[true,false,false,false,false,false,false,false,false,false,false,false,false,false,false,false,false,false,false,false,false,false,false,false,false,false,false,false,false,false,false,false,false]) (v := ?_) rfl rfl (by kernel_rfl) (by kernel_rfl) (by kernel_rfl) rfl (fun _ _ _ h=>h) (by rfl) ?_ (HKEEP.out _ HD9.out) ?_
     rotate_left
     · (intro wS hSw;have hz:=hSw;go_simp;try (with_reducible rfl))
     simp only [Act.put,sT,sZ,sS]
     refine held_take (i:=1) (d:=some 71) (fuel:=31) (listed':=#[true,true,false,false,false,false,false,false,false,false,false,false,false,false,false,false,false,false,false,false,false,false,false,false,false,false,false,false,false,false,false,false,false]) (v := ?_) rfl rfl (by kernel_rfl) (by kernel_rfl) (by kernel_rfl) rfl (fun _ _ _ h=>h) (by rfl) ?_ (HKEEP.out _ HD9.out) ?_
     rotate_left
     · (intro wS hSw;have hz:=hSw;go_simp;try (with_reducible rfl))
     simp only [Act.put,sT,sZ,sS]
     refine held_one (i:=2) (d:=some 72) (fuel:=30) (listed':=#[true,true,true,false,false,false,false,false,false,false,false,false,false,false,false,false,false,false,false,false,false,false,false,false,false,false,false,false,false,false,false,false,false]) rfl rfl (by kernel_rfl) rfl (by rfl) (fun K hK => ?_)
     go_simp
     go_at_call 14
     (with_reducible refine (HSB.out _ HD9.out).mono ?_)
     rintro e w10 ⟨rfl,h1⟩
     have H10:=Lib.hid (HD9.out.trans (h1.mono HD9.out.size))
     clear h1
     dsimp only
     refine hK.out _ _ (HKEEP.out _ H10.out) ?_
     clear hK K
     simp only [Act.put,sT,sZ,sS]
     refine held_take (i:=3) (d:=some 73) (fuel:=29) (listed':=#[true,true,true,true,false,false,false,false,false,false,false,false,false,false,false,false,false,false,false,false,false,false,false,false,false,false,false,false,false,false,false,false,false]) (v := ?_) rfl rfl (by kernel_rfl) (by kernel_rfl) (by kernel_rfl) rfl (fun _ _ _ h=>h) (by rfl) ?_ (HKEEP.out _ H10.out) ?_
     rotate_left
     · (intro wS hSw;have hz:=hSw;go_simp;try (with_reducible rfl))
     simp only [Act.put,sT,sZ,sS]
     refine held_take (i:=4) (d:=some 74) (fuel:=28) (listed':=#[true,true,true,true,true,false,false,false,false,false,false,false,false,false,false,false,false,false,false,false,false,false,false,false,false,false,false,false,false,false,false,false,false]) (v := ?_) rfl rfl (by kernel_rfl) (by kernel_rfl) (by kernel_rfl) rfl (fun _ _ _ h=>h) (by rfl) ?_ (HKEEP.out _ H10.out) ?_
     rotate_left
     · (intro wS hSw;have hz:=hSw;go_simp;try (with_reducible rfl))
     simp only [Act.put,sT,sZ,sS]
     refine held_take (i:=5) (d:=some 75) (fuel:=27) (listed':=#[true,true,true,true,true,true,false,false,false,false,false,false,false,false,false,false,false,false,false,false,false,false,false,false,false,false,false,false,false,false,false,false,false]) (v := ?_) rfl rfl (by kernel_rfl) (by kernel_rfl) (by kernel_rfl) rfl (fun _ _ _ h=>h) (by rfl) ?_ (HKEEP.out _ H10.out) ?_
     rotate_left
     · (intro wS hSw;have hz:=hSw;go_simp;try (with_reducible rfl))
     simp only [Act.put,sT,sZ,sS]
     refine held_take (i:=8) (d:=some 78) (fuel:=26) (listed':=#[true,true,true,true,true,true,false,false,true,false,false,false,false,false,false,false,false,false,false,false,false,false,false,false,false,false,false,false,false,false,false,false,false]) (v := ?_) rfl rfl (by kernel_rfl) (by kernel_rfl) (by kernel_rfl) rfl (fun _ _ _ h=>h) (by rfl) ?_ (HKEEP.out _ H10.out) ?_
     rotate_left
     · (intro wS hSw;have hz:=hSw;go_simp;try (with_reducible rfl))
     simp only [Act.put,sT,sZ,sS]
     refine held_take (i:=9) (d:=some 79) (fuel:=25) (listed':=#[true,true,true,true,true,true,false,false,true,true,false,false,false,false,false,false,false,false,false,false,false,false,false,false,false,false,false,false,false,false,false,false,false]) (v := ?_) rfl rfl (by kernel_rfl) (by kernel_rfl) (by kernel_rfl) rfl (fun _ _ _ h=>h) (by rfl) ?_ (HKEEP.out _ H10.out) ?_
     rotate_left
     · (intro wS hSw;have hz:=hSw;go_simp;try (with_reducible rfl))
     simp only [Act.put,sT,sZ,sS]
     refine held_take (i:=10) (d:=some 80) (fuel:=24) (listed':=#[true,true,true,true,true,true,false,false,true,true,true,false,false,false,false,false,false,false,false,false,false,false,false,false,false,false,false,false,false,false,false,false,false]) (v := ?_) rfl rfl (by kernel_rfl) (by kernel_rfl) (by kernel_rfl) rfl (fun _ _ _ h=>h) (by rfl) ?_ (HKEEP.out _ H10.out) ?_
     rotate_left
     · (intro wS hSw;have hz:=hSw;go_simp;try (with_reducible rfl))
     simp only [Act.put,sT,sZ,sS]
     refine held_take (i:=11) (d:=some 81) (fuel:=23) (listed':=#[true,true,true,true,true,true,false,false,true,true,true,true,false,false,false,false,false,false,false,false,false,false,false,false,false,false,false,false,false,false,false,false,false]) (v := ?_) rfl rfl (by kernel_rfl) (by kernel_rfl) (by kernel_rfl) rfl (fun _ _ _ h=>h) (by rfl) ?_ (HKEEP.out _ H10.out) ?_
     rotate_left
     · (intro wS hSw;have hz:=hSw;go_simp;try (with_reducible rfl))
     simp only [Act.put,sT,sZ,sS]
     refine held_take (i:=12) (d:=some 82) (fuel:=22) (listed':=#[true,true,true,true,true,true,false,false,true,true,true,true,true,false,false,false,false,false,false,false,false,false,false,false,false,false,false,false,false,false,false,false,false]) (v := ?_) rfl rfl (by kernel_rfl) (by kernel_rfl) (by kernel_rfl) rfl (fun _ _ _ h=>h) (by rfl) ?_ (HKEEP.out _ H10.out) ?_
     rotate_left
     · (intro wS hSw;have hz:=hSw;go_simp;try (with_reducible rfl))
     simp only [Act.put,sT,sZ,sS]
     refine held_take (i:=13) (d:=some 83) (fuel:=21) (listed':=#[true,true,true,true,true,true,false,false,true,true,true,true,true,true,false,false,false,false,false,false,false,false,false,false,false,false,false,false,false,false,false,false,false]) (v := ?_) rfl rfl (by kernel_rfl) (by kernel_rfl) (by kernel_rfl) rfl (fun _ _ _ h=>h) (by rfl) ?_ (HKEEP.out _ H10.out) ?_
     rotate_left
     · (intro wS hSw;have hz:=hSw;go_simp;try (with_reducible rfl))
     simp only [Act.put,sT,sZ,sS]
     refine held_take (i:=14) (d:=some 84) (fuel:=20) (listed':=#[true,true,true,true,true,true,false,false,true,true,true,true,true,true,true,false,false,false,false,false,false,false,false,false,false,false,false,false,false,false,false,false,false]) (v := ?_) rfl rfl (by kernel_rfl) (by kernel_rfl) (by kernel_rfl) rfl (fun _ _ _ h=>h) (by rfl) ?_ (HKEEP.out _ H10.out) ?_
     rotate_left
     · (intro wS hSw;have hz:=hSw;go_simp;try (with_reducible rfl))
     simp only [Act.put,sT,sZ,sS]
     refine held_one (i:=6) (d:=some 76) (fuel:=19) (listed':=#[true,true,true,true,true,true,true,false,true,true,true,true,true,true,true,false,false,false,false,false,false,false,false,false,false,false,false,false,false,false,false,false,false]) rfl rfl (by kernel_rfl) rfl (by rfl) (fun K hK => ?_)
     go_simp
     go_at_call 18
     (with_reducible refine (HSC.out _ H10.out).mono ?_)
     rintro e w11 ⟨rfl,h1⟩
     have H11:=Lib.hid (H10.out.trans (h1.mono H10.out.size))
     clear h1
     dsimp only
     refine hK.out _ _ (HKEEP.out _ H11.out) ?_
     clear hK K
     simp only [Act.put,sT,sZ,sS]
     refine held_take (i:=7) (d:=some 77) (fuel:=18) (listed':=#[true,true,true,true,true,true,true,true,true,true,true,true,true,true,true,false,false,false,false,false,false,false,false,false,false,false,false,false,false,false,false,false,false]) (v := ?_) rfl rfl (by kernel_rfl) (by kernel_rfl) (by kernel_rfl) rfl (fun _ _ _ h=>h) (by rfl) ?_ (HKEEP.out _ H11.out) ?_
     rotate_left
     · (intro wS hSw;have hz:=hSw;go_simp;try (with_reducible rfl))
     simp only [Act.put,sT,sZ,sS]
     refine held_take (i:=15) (d:=some 85) (fuel:=17) (listed':=#[true,true,true,true,true,true,true,true,true,true,true,true,true,true,true,true,false,false,false,false,false,false,false,false,false,false,false,false,false,false,false,false,false]) (v := ?_) rfl rfl (by kernel_rfl) (by kernel_rfl) (by kernel_rfl) rfl (fun _ _ _ h=>h) (by rfl) ?_ (HKEEP.out _ H11.out) ?_
     rotate_left
     · (intro wS hSw;have hz:=hSw;go_simp;try (with_reducible rfl))
     simp only [Act.put,sT,sZ,sS]
     refine held_take (i:=16) (d:=some 86) (fuel:=16) (listed':=#[true,true,true,true,true,true,true,true,true,true,true,true,true,true,true,true,true,false,false,false,false,false,false,false,false,false,false,false,false,false,false,false,false]) (v := ?_) rfl rfl (by kernel_rfl) (by kernel_rfl) (by kernel_rfl) rfl (fun _ _ _ h=>h) (by rfl) ?_ (HKEEP.out _ H11.out) ?_
     rotate_left
     · (intro wS hSw;have hz:=hSw;go_simp;try (with_reducible rfl))
     simp only [Act.put,sT,sZ,sS]
     refine held_take (i:=17) (d:=some 87) (fuel:=15) (listed':=#[true,true,true,true,true,true,true,true,true,true,true,true,true,true,true,true,true,true,false,false,false,false,false,false,false,false,false,false,false,false,false,false,false]) (v := ?_) rfl rfl (by kernel_rfl) (by kernel_rfl) (by kernel_rfl) rfl (fun _ _ _ h=>h) (by rfl) ?_ (HKEEP.out _ H11.out) ?_
     rotate_left
     · (intro wS hSw;have hz:=hSw;go_simp;try (with_reducible rfl))
     simp only [Act.put,sT,sZ,sS]
     refine held_take (i:=18) (d:=some 88) (fuel:=14) (listed':=#[true,true,true,true,true,true,true,true,true,true,true,true,true,true,true,true,true,true,true,false,false,false,false,false,false,false,false,false,false,false,false,false,false]) (v := ?_) rfl rfl (by kernel_rfl) (by kernel_rfl) (by kernel_rfl) rfl (fun _ _ _ h=>h) (by rfl) ?_ (HKEEP.out _ H11.out) ?_
     rotate_left
     · (intro wS hSw;have hz:=hSw;go_simp;try (with_reducible rfl))
     simp only [Act.put,sT,sZ,sS]
     refine held_take (i:=19) (d:=some 89) (fuel:=13) (listed':=#[true,true,true,true,true,true,true,true,true,true,true,true,true,true,true,true,true,true,true,true,false,false,false,false,false,false,false,false,false,false,false,false,false]) (v := ?_) rfl rfl (by kernel_rfl) (by kernel_rfl) (by kernel_rfl) rfl (fun _ _ _ h=>h) (by rfl) ?_ (HKEEP.out _ H11.out) ?_
     rotate_left
     · (intro wS hSw;have hz:=hSw;go_simp;try (with_reducible rfl))
     simp only [Act.put,sT,sZ,sS]
     refine held_take (i:=20) (d:=some 90) (fuel:=12) (listed':=#[true,true,true,true,true,true,true,true,true,true,true,true,true,true,true,true,true,true,true,true,true,false,false,false,false,false,false,false,false,false,false,false,false]) (v := ?_) rfl rfl (by kernel_rfl) (by kernel_rfl) (by kernel_rfl) rfl (fun _ _ _ h=>h) (by rfl) ?_ (HKEEP.out _ H11.out) ?_
     rotate_left
     · (intro wS hSw;have hz:=hSw;go_simp;try (with_reducible rfl))
     simp only [Act.put,sT,sZ,sS]
     refine held_take (i:=21) (d:=some 91) (fuel:=11) (listed':=#[true,true,true,true,true,true,true,true,true,true,true,true,true,true,true,true,true,true,true,true,true,true,false,false,false,false,false,false,false,false,false,false,false]) (v := ?_) rfl rfl (by kernel_rfl) (by kernel_rfl) (by kernel_rfl) rfl (fun _ _ _ h=>h) (by rfl) ?_ (HKEEP.out _ H11.out) ?_
     rotate_left
     · (intro wS hSw;have hz:=hSw;go_simp;try (with_reducible rfl))
     simp only [Act.put,sT,sZ,sS]
     refine held_take (i:=22) (d:=some 92) (fuel:=10) (listed':=#[true,true,true,true,true,true,true,true,true,true,true,true,true,true,true,true,true,true,true,true,true,true,true,false,false,false,false,false,false,false,false,false,false]) (v := ?_) rfl rfl (by kernel_rfl) (by kernel_rfl) (by kernel_rfl) rfl (fun _ _ _ h=>h) (by rfl) ?_ (HKEEP.out _ H11.out) ?_
     rotate_left
     · (intro wS hSw;have hz:=hSw;go_simp;try (with_reducible rfl))
     simp only [Act.put,sT,sZ,sS]
     refine held_take (i:=23) (d:=some 93) (fuel:=9) (listed':=#[true,true,true,true,true,true,true,true,true,true,true,true,true,true,true,true,true,true,true,true,true,true,true,true,false,false,false,false,false,false,false,false,false]) (v := ?_) rfl rfl (by kernel_rfl) (by kernel_rfl) (by kernel_rfl) rfl (fun _ _ _ h=>h) (by rfl) ?_ (HKEEP.out _ H11.out) ?_
     rotate_left
     · (intro wS hSw;have hz:=hSw;go_simp;try (with_reducible rfl))
     simp only [Act.put,sT,sZ,sS]
     refine held_take (i:=24) (d:=some 94) (fuel:=8) (listed':=#[true,true,true,true,true,true,true,true,true,true,true,true,true,true,true,true,true,true,true,true,true,true,true,true,true,false,false,false,false,false,false,false,false]) (v := ?_) rfl rfl (by kernel_rfl) (by kernel_rfl) (by kernel_rfl) rfl (fun _ _ _ h=>h) (by rfl) ?_ (HKEEP.out _ H11.out) ?_
     rotate_left
     · (intro wS hSw;have hz:=hSw;go_simp;try (with_reducible rfl))
     simp only [Act.put,sT,sZ,sS]
     refine held_take (i:=25) (d:=some 95) (fuel:=7) (listed':=#[true,true,true,true,true,true,true,true,true,true,true,true,true,true,true,true,true,true,true,true,true,true,true,true,true,true,false,false,false,false,false,false,false]) (v := .bool true) rfl rfl (by kernel_rfl) (by kernel_rfl) (by kernel_rfl) rfl (fun _ _ _ h=>h) (by rfl) ?_ (HKEEP.out _ H11.out) ?_
     · (intro wS hSw;have hz:=hSw;go_simp;first | done | simp [hne] | simp [hxz])
     simp only [Act.put,sT,sZ,sS]
     refine held_take (i:=26) (d:=some 96) (fuel:=6) (listed':=#[true,true,true,true,true,true,true,true,true,true,true,true,true,true,true,true,true,true,true,true,true,true,true,true,true,true,true,false,false,false,false,false,false]) (v := ?_) rfl rfl (by kernel_rfl) (by kernel_rfl) (by kernel_rfl) rfl (fun _ _ _ h=>h) (by rfl) ?_ (HKEEP.out _ H11.out) ?_
     rotate_left
     · (intro wS hSw;have hz:=hSw;go_simp;try (with_reducible rfl))
     simp only [Act.put,sT,sZ,sS]
     refine held_take (i:=27) (d:=some 97) (fuel:=5) (listed':=#[true,true,true,true,true,true,true,true,true,true,true,true,true,true,true,true,true,true,true,true,true,true,true,true,true,true,true,true,false,false,false,false,false]) (v := ?_) rfl rfl (by kernel_rfl) (by kernel_rfl) (by kernel_rfl) rfl (fun _ _ _ h=>h) (by rfl) ?_ (HKEEP.out _ H11.out) ?_
     rotate_left
     · (intro wS hSw;have hz:=hSw;go_simp;try (with_reducible rfl))
     simp only [Act.put,sT,sZ,sS]
     refine held_take (i:=28) (d:=some 98) (fuel:=4) (listed':=#[true,true,true,true,true,true,true,true,true,true,true,true,true,true,true,true,true,true,true,true,true,true,true,true,true,true,true,true,true,false,false,false,false]) (v := ?_) rfl rfl (by kernel_rfl) (by kernel_rfl) (by kernel_rfl) rfl (fun _ _ _ h=>h) (by rfl) ?_ (HKEEP.out _ H11.out) ?_
     rotate_left
     · (intro wS hSw;have hz:=hSw;go_simp;try (with_reducible rfl))
     simp only [Act.put,sT,sZ,sS]
     refine held_take (i:=29) (d:=some 99) (fuel:=3) (listed':=#[true,true,true,true,true,true,true,true,true,true,true,true,true,true,true,true,true,true,true,true,true,true,true,true,true,true,true,true,true,true,false,false,false]) (v := ?_) rfl rfl (by kernel_rfl) (by kernel_rfl) (by kernel_rfl) rfl (fun _ _ _ h=>h) (by rfl) ?_ (HKEEP.out _ H11.out) ?_
     rotate_left
     · (intro wS hSw;have hz:=hSw;go_simp;try (with_reducible rfl))
     simp only [Act.put,sT,sZ,sS]
     refine held_one (i:=30) (d:=some 100) (fuel:=2) (listed':=#[true,true,true,true,true,true,true,true,true,true,true,true,true,true,true,true,true,true,true,true,true,true,true,true,true,true,true,true,true,true,true,false,false]) rfl rfl (by kernel_rfl) rfl (by rfl) (fun K hK => ?_)
     go_simp
     go_at_call 6
     (with_reducible refine (HAW9.out _ H11.out).mono ?_)
     rintro e w12 ⟨rfl,h1⟩
     have H12:=Lib.hid (H11.out.trans (h1.mono H11.out.size))
     clear h1
     dsimp only
     refine hK.out _ _ (HKEEP.out _ H12.out) ?_
     clear hK K
     simp only [Act.put,sT,sZ,sS]
     refine held_take (i:=31) (d:=some 101) (fuel:=1) (listed':=#[true,true,true,true,true,true,true,true,true,true,true,true,true,true,true,true,true,true,true,true,true,true,true,true,true,true,true,true,true,true,true,true,false]) (v := ?_) rfl rfl (by kernel_rfl) (by kernel_rfl) (by kernel_rfl) rfl (fun _ _ _ h=>h) (by rfl) ?_ (HKEEP.out _ H12.out) ?_
     rotate_left
     · (intro wS hSw;have hz:=hSw;go_simp;try (with_reducible rfl))
     simp only [Act.put,sT,sZ,sS]
     refine held_take (i:=32) (d:=some 4) (fuel:=0) (listed':=#[true,true,true,true,true,true,true,true,true,true,true,true,true,true,true,true,true,true,true,true,true,true,true,true,true,true,true,true,true,true,true,true,true]) (v := ?_) rfl rfl (by kernel_rfl) (by kernel_rfl) (by kernel_rfl) rfl (fun _ _ _ h=>h) (by rfl) ?_ (HKEEP.out _ H12.out) ?_
     rotate_left
     · (intro wS hSw;have hz:=hSw;go_simp;try (with_reducible rfl))
     simp only [Act.put,sT,sZ,sS]
     refine wpAnyH_done (by kernel_rfl) ?_ _
     go_wp2_with fail
     go_ret
     exact ⟨rfl,HW9.out.trans (H12.out.mono HW9.out.size)⟩
end Go.Proofs.YtdphoaabaajonaaGreatDoor
