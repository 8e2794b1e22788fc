/-
 Texts of layers, put together.
-/
import Derived.Test.YtdnooocmlhcpkaaGreatDoorMO7
import Derived.OpenShut
import Derived.ProofKit
import Derived.Test.YtdnooocmlhcpkaaGreatDoorCards
import Derived.Test.YtdnooocmlhcpkaaGreatDoorTie
import Derived.Shelf.Vars
import Derived.Deep.Strs
import Derived.Deep.DeepHandedRow
import Derived.Lib.LaidTab
import Derived.Stop.LaidErr
import Derived.Lay
namespace Go.Proofs.YtdnooocmlhcpkaaGreatDoor
open Go.RowKit
theorem Own.set1 {α : Type} {E:Enc α 1} {e:TypeId} {w:World} {lo g n cap:Nat} {xs:List α} (h:Own E e w lo (.slice (Option.some ⟨g,0,none⟩) n cap) xs) (i:Nat) (x : α) (u:Value) (hu:E.f x=[u]):Own E e (w.setCell ⟨g,i,none⟩ u) lo (.slice (Option.some ⟨g,0,none⟩) n cap) (xs.set i x):=by
 obtain ⟨h1,h2⟩:=h
 refine ⟨by rw [E.length_all], ?_⟩
 rcases h2 with ⟨h3,_⟩ | ⟨g',cap',cur,h3,h4,h5,h6,h7,h8,h9⟩
 · cases h3
 · injection h3 with h3 h3' h3''
   injection h3 with h3
   injection h3 with h3
   subst h3
   refine .inr ⟨g,cap',_, ?_,h4,heap_setCell_same w g i cur e u h5, ?_,h7,by rw [Array.size_setIfInBounds];exact h8, ?_⟩
   · rw [List.length_set, ← h3', ← h3'']
   · rw [List.length_set];exact h6
   · rw [List.length_set,all_set1 E xs i x u hu, ← h9,Array.toList_setIfInBounds,List.take_set]
theorem mapU_set (f:Nat→Int) (n i:Nat) (x:Int):((List.range n).map f).set i x=(List.range n).map fun j=>if j=i then x else f j:=by
 apply List.ext_getElem?
 intro j
 rw [List.getElem?_set,List.getElem?_map,List.length_map,List.length_range,List.getElem?_map]
 by_cases hj:j<n
 · rw [List.getElem?_range hj]
   by_cases hij:i=j
   · subst hij;rw [if_pos rfl,if_pos hj,Option.map_some,if_pos rfl]
   · rw [if_neg hij,Option.map_some,Option.map_some,if_neg (fun e=>hij e.symm)]
 · rw [List.getElem?_eq_none (by simp;omega)]
   by_cases hij:i=j
   · subst hij;rw [if_pos rfl,if_neg hj];rfl
   · rw [if_neg hij];rfl
theorem mapU_at (f:Nat→Int) (n i:Nat) (h:i<n):((List.range n).map f).getD i 0=f i:=by
 rw [List.getD_eq_getElem?_getD,List.getElem?_map,List.getElem?_range h];rfl
theorem mapU_eq {f g:Nat→Int} {n:Nat} (h:∀ j,j<n→f j=g j):(List.range n).map f=(List.range n).map g:=List.map_congr_left fun j hj=>h j (List.mem_range.1 hj)
def insF (a i j:Nat):Int:=if j<a then (j:Int) else if j<i then (j:Int)+1 else (j:Int)
def delF (a i j:Nat):Int:=if j<a then (j:Int) else if j=a then -1 else if j<i then (j:Int) - 1 else (j:Int)
theorem insF_start (a n:Nat):sameM n=(List.range n).map (insF a a):=by
 unfold sameM;apply mapU_eq;intro j _;unfold insF;split
 · rfl
 · rfl
theorem insF_next (a i n:Nat) (h:a≤i):((List.range n).map (insF a i)).set i ((i:Int)+1)=(List.range n).map (insF a (i+1)):=by
 rw [mapU_set];apply mapU_eq;intro j _;unfold insF
 by_cases hj:j=i
 · subst hj;rw [if_pos rfl,if_neg (by omega),if_pos (by omega)]
 · rw [if_neg hj]
   by_cases h1:j<a
   · rw [if_pos h1,if_pos h1]
   · rw [if_neg h1,if_neg h1]
     by_cases h2:j<i
     · rw [if_pos h2,if_pos (by omega)]
     · rw [if_neg h2,if_neg (by omega)]
theorem insF_end (a n:Nat):(List.range n).map (insF a n)=insM n a:=by
 unfold insM;apply mapU_eq;intro j hj;unfold insF
 by_cases h1:j<a
 · rw [if_pos h1,if_pos (by omega)]
 · rw [if_neg h1,if_pos hj,if_neg (by omega)]
theorem delF_start (a n:Nat):(sameM n).set a (-1)=(List.range n).map (delF a (a+1)):=by
 unfold sameM;rw [mapU_set];apply mapU_eq;intro j _;unfold delF
 by_cases hj:j=a
 · subst hj;rw [if_pos rfl,if_neg (by omega),if_pos rfl]
 · rw [if_neg hj]
   by_cases h1:j<a
   · rw [if_pos h1]
   · rw [if_neg h1,if_neg hj,if_neg (by omega)]
theorem delF_next (a i n:Nat) (h:a<i):((List.range n).map (delF a i)).set i ((i:Int) - 1)=(List.range n).map (delF a (i+1)):=by
 rw [mapU_set];apply mapU_eq;intro j _;unfold delF
 by_cases hj:j=i
 · subst hj;rw [if_pos rfl,if_neg (by omega),if_neg (by omega),if_pos (by omega)]
 · rw [if_neg hj]
   by_cases h1:j<a
   · rw [if_pos h1,if_pos h1]
   · rw [if_neg h1,if_neg h1]
     by_cases h3:j=a
     · rw [if_pos h3,if_pos h3]
     · rw [if_neg h3,if_neg h3]
       by_cases h2:j<i
       · rw [if_pos h2,if_pos (by omega)]
       · rw [if_neg h2,if_neg (by omega)]
theorem delF_end (a n:Nat):(List.range n).map (delF a n)=delM n a:=by
 unfold delM;apply mapU_eq;intro j hj;unfold delF
 by_cases h1:j<a
 · rw [if_pos h1,if_pos (by omega)]
 · rw [if_neg h1,if_neg (show ¬ (j:Int)<(a:Int) by omega)]
   by_cases h3:j=a
   · rw [if_pos h3,if_pos (by omega)]
   · rw [if_neg h3,if_pos hj,if_neg (by omega)]
structure WvI (w0 w:World) (q p:Nat) (A:Option Addr) (N c:Nat) (k:Int) (xs:List Int):Prop where
 out:PrAt 60 w q (.slice none 0 0) 0
 cur:PrAt 60 w p (.slice A N c) k
 own:Own (encInt .i64) 3 w (q+1) (.slice A N c) xs
 row:∀ g,A=Option.some ⟨g,0,none⟩→g<p
 aft:Below q w0 w
 qp:q<p
theorem WvI.set {w0 w:World} {q p g:Nat} {N c:Nat} {k:Int} {xs:List Int} (h:WvI w0 w q p (Option.some ⟨g,0,none⟩) N c k xs) (i:Nat) (x:Int):WvI w0 (w.setCell ⟨g,i,none⟩ (.int .i64 x)) q p (Option.some ⟨g,0,none⟩) N c k (xs.set i x):=by
 have hg:=h.row g rfl
 have hl:=(h.own.lies (g:=g) rfl).1
 exact ⟨h.out.other _ _ (by show q≠g;omega),h.cur.other _ _ (by show p≠g;omega),h.own.set1 i x _ rfl,h.row,h.aft.setCell (by show q≤g;omega) _,h.qp⟩
theorem WvI.setN {w0 w:World} {q p:Nat} {A:Option Addr} {N c:Nat} {k:Int} {xs:List Int} (h:WvI w0 w q p A N c k xs) (m:Int):WvI w0 (w.setCell ⟨p,1,none⟩ (.int .i64 m)) q p A N c m xs :=
 ⟨h.out.other _ _ (by show q≠p;have:=h.qp;omega),h.cur.put1 m,h.own.keep (fun g h1 h2 h3=>heap_setCell_other w _ g _ (by
  show g≠p
  rcases h.own.shape with ⟨h4,_⟩ | ⟨g',c',h4,_⟩
  · rw [h4] at h3;cases h3
  · injection h4 with h4
    have:=h.row g' h4
    rw [h4] at h3
    have:g'=g:=Option.some.inj h3
    omega)),h.row,h.aft.setCell (by show q≤p;have:=h.qp;omega) _,h.qp⟩
theorem res_rins:Tryz.f33.results=#[.cell 4 60]:=by kernel_rfl
theorem res_rdel:Tryz.f32.results=#[.cell 4 60]:=by kernel_rfl
theorem WvI.start {w w1 w2:World} {A:Option Addr} {N c:Nat} {k:Int} {xs:List Int} (hb:Below w.heap.size w w1) (hp:PrAt 60 w1 w.heap.size (.slice none 0 0) 0) (ho:Own (encInt .i64) 3 w2 w1.heap.size (.slice A N c) xs) (hb2:Below w1.heap.size w1 w2) :
 WvI w (w2.alloc (.cells #[.slice A N c,.int .i64 k] 60)) w.heap.size w2.heap.size A N c k xs:=by
 have h1:=hp.lt
 have h2:=hb2.size
 have hn:=below_pr 60 w2 (.slice A N c) k
 refine ⟨(hp.over hb2).over hn,PrAt.new _ _ _ _,(ho.below hn (Nat.le_refl _)).mono (by omega),fun g hg => ?_,(hb.trans (hb2.mono hb.size)).trans (hn.mono (by omega)),by omega⟩
 subst hg
 exact ho.less rfl
set_option maxRecDepth 100000 in
set_option maxHeartbeats 8000000 in
theorem rins_map (w:World) (n a:Int):Calls Tryz.prog 33 #[.int .i64 n,.int .i64 a] w fun e w'=>RefOut w w' (insO n a).1 (insO n a).2 e:=by
 have HB:=Lib.hid (below_pr 60 w (.slice none 0 0) 0)
 have HP:=Lib.hid (PrAt.new 60 w (.slice none 0 0) 0)
 have hle:=cntM_le n
 have hs:=fun w=>rsame_map w n
 have hO:insO n a=if a<0∨(cntM n:Int)<a then (sameM (cntM n),(cntM n:Int)) else (insM (cntM n) a,(cntM n:Int)+1):=rfl
 obtain ⟨N,hN⟩:∃ N,cntM n=N:=⟨_,rfl⟩
 simp only [hN] at hs hO hle
 have HS:=Lib.hid hs
 clear hN hs
 by_cases hbad:a<0∨(N:Int)<a
 · rw [if_pos hbad] at hO
   rw [hO]
   clear hO
   go_enter Tryz.func33,Tryz.ntmps33
   go_upto_region 1 with (fail)
   obtain ⟨w1,hw1⟩:∃ w1,w.alloc (.cells #[.slice none 0 0,.int .i64 0] 60)=w1:=⟨_,rfl⟩
   rw [hw1] at HB HP ⊢
   clear hw1
   go_upto_region 2 with (go_at_call 31;((with_reducible refine (HS.out _).mono ?_);rintro e w2 ⟨v,rfl,h1,h2⟩;have H1:=Lib.hid h1;have H2:=Lib.hid h2;obtain ⟨A,c,hv⟩:=own_sl h1;rw [length_sameM] at hv;subst hv;clear h1 h2))
   have HW:=Lib.hid (WvI.start (k:=(N:Int)) HB.out HP.out H1.out H2.out)
   obtain ⟨p,hp⟩:∃ p,w2.heap.size=p:=⟨_,rfl⟩
   rw [hp] at HW ⊢
   obtain ⟨w3,hw3⟩:∃ w3,w2.alloc (.cells #[.slice A N c,.int .i64 (N:Int)] 60)=w3:=⟨_,rfl⟩
   rw [hw3] at HW ⊢
   clear hw3 hp
   obtain ⟨x0,x1⟩:=HW.out.cur.cells
   obtain ⟨y0,y1⟩:=HW.out.out.cells
   obtain ⟨m0,m1⟩:=HW.out.out.melts
   by_cases h0:a<0
   · go_wp2_with fail
     refine bodyPost_ret (out_mp (HW.out.out.put2 (.slice A N c) (N:Int)) _ _ 4 res_rins rfl) rfl ⟨_,rfl, ?_,below_put2 HW.out.aft (Nat.le_refl _) _ _⟩
     exact (HW.out.own.keep (fun g h1 _ _=>heap_put2 _ _ _ _ _ (by omega))).mono (by omega)
   · have h9:(N:Int)<a:=hbad.resolve_left h0
     clear hbad
     go_wp2_with fail
     refine bodyPost_ret (out_mp (HW.out.out.put2 (.slice A N c) (N:Int)) _ _ 4 res_rins rfl) rfl ⟨_,rfl, ?_,below_put2 HW.out.aft (Nat.le_refl _) _ _⟩
     exact (HW.out.own.keep (fun g h1 _ _=>heap_put2 _ _ _ _ _ (by omega))).mono (by omega)
 · rw [if_neg hbad] at hO
   rw [hO]
   obtain ⟨a0,rfl⟩:∃ a0:Nat,a=(a0:Int):=⟨a.toNat,by omega⟩
   have h0:¬ (a0:Int)<0:=fun e=>hbad (.inl e)
   have h9:¬ (N:Int)<(a0:Int):=fun e=>hbad (.inr e)
   clear hO hbad
   go_enter Tryz.func33,Tryz.ntmps33
   go_upto_region 1 with (fail)
   obtain ⟨w1,hw1⟩:∃ w1,w.alloc (.cells #[.slice none 0 0,.int .i64 0] 60)=w1:=⟨_,rfl⟩
   rw [hw1] at HB HP ⊢
   clear hw1
   go_upto_region 2 with (go_at_call 31;((with_reducible refine (HS.out _).mono ?_);rintro e w2 ⟨v,rfl,h1,h2⟩;have H1:=Lib.hid h1;have H2:=Lib.hid h2;obtain ⟨A,c,hv⟩:=own_sl h1;rw [length_sameM] at hv;subst hv;clear h1 h2))
   have HW:=Lib.hid (WvI.start (k:=(N:Int)) HB.out HP.out H1.out H2.out)
   obtain ⟨p,hp⟩:∃ p,w2.heap.size=p:=⟨_,rfl⟩
   rw [hp] at HW ⊢
   obtain ⟨w3,hw3⟩:∃ w3,w2.alloc (.cells #[.slice A N c,.int .i64 (N:Int)] 60)=w3:=⟨_,rfl⟩
   rw [hw3] at HW ⊢
   clear hw3 hp
   obtain ⟨x0,x1⟩:=HW.out.cur.cells
   obtain ⟨m0,m1⟩:=HW.out.cur.melts
   go_upto_region 5 with (fail)
   clear x0 x1 m0 m1
   have HW2:=Lib.hid (HW.out.setN ((N:Int)+1))
   obtain ⟨w4,hw4⟩:∃ w4,w3.setCell ⟨p,1,none⟩ (.int .i64 ((N:Int)+1))=w4:=⟨_,rfl⟩
   rw [hw4] at HW2 ⊢
   clear hw4
   have HS0:=Lib.hid (show WvI w w4 w.heap.size p A N c ((N:Int)+1) ((List.range N).map (insF a0 a0)) from by rw [← insF_start];exact HW2.out)
   go_wp2_with fail
   go_loopw [6] (fun iv wr=>∃ i:Nat,a0≤i∧i≤N∧iv = .int .i64 (i:Int)∧Hid (WvI w wr w.heap.size p A N c ((N:Int)+1) ((List.range N).map (insF a0 i))))
    (fun iv _=>N - (intOf iv).toNat)
   case atStart=>exact ⟨_,Nat.le_refl _,by omega,by first | rfl | trivial | go_num,HS0⟩
   case round =>
    obtain ⟨i,hai,hi,rfl,HR⟩:=hrel
    obtain ⟨x0,x1⟩:=HR.out.cur.cells
    by_cases hlt:i<N
    · have hii:(i:Int)<(N:Int):=by omega
      have hi0:(0:Int)≤(i:Int):=by omega
      have HLN:=Lib.hid (show ((List.range N).map (insF a0 i)).length=N from by simp)
      obtain ⟨g,c',hA,_⟩:=HR.out.own.some (by rw [HLN.out];omega)
      injection hA with hA h2 h3
      subst hA
      clear h2 h3
      have e0:=HR.out.own.intCell i (by rw [HLN.out];exact hlt)
      rw [mapU_at _ _ _ hlt] at e0
      have hf:insF a0 i i=(i:Int):=by unfold insF;(repeat' split) <;> omega
      rw [hf] at e0
      have f0:=HR.out.own.rwA.melt i
      have HN:=Lib.hid (insF_next a0 i N hai)
      clear hf
      go_wp2_with fail
      clear e0 f0 x0 x1
      go_roundw
      case rel=>exact ⟨i+1,by omega,by omega,by go_num,Lib.hid (by rw [← HN.out];exact HR.out.set i ((i:Int)+1))⟩
      case measure=>simp [intOf];omega
    · have hii:¬ (i:Int)<(N:Int):=by omega
      have hin:i=N:=by omega
      subst hin
      have HE:=Lib.hid (insF_end a0 i)
      obtain ⟨y0,y1⟩:=HR.out.out.cells
      obtain ⟨m0,m1⟩:=HR.out.out.melts
      go_wp2_with fail
      have ho:=HR.out.own
      rw [HE.out] at ho
      refine bodyPost_ret (out_mp (HR.out.out.put2 (.slice A i c) ((i:Int)+1)) _ _ 4 res_rins rfl) rfl ⟨_,rfl, ?_,below_put2 HR.out.aft (Nat.le_refl _) _ _⟩
      exact (ho.keep (fun g h1 _ _=>heap_put2 _ _ _ _ _ (by omega))).mono (by omega)
set_option maxRecDepth 100000 in
set_option maxHeartbeats 8000000 in
theorem rdel_map (w:World) (n a:Int):Calls Tryz.prog 32 #[.int .i64 n,.int .i64 a] w fun e w'=>RefOut w w' (delO n a).1 (delO n a).2 e:=by
 have HB:=Lib.hid (below_pr 60 w (.slice none 0 0) 0)
 have HP:=Lib.hid (PrAt.new 60 w (.slice none 0 0) 0)
 have hle:=cntM_le n
 have hs:=fun w=>rsame_map w n
 have hO:delO n a=if a<0∨(cntM n:Int)≤a then (sameM (cntM n),(cntM n:Int)) else (delM (cntM n) a,(cntM n:Int) - 1):=rfl
 obtain ⟨N,hN⟩:∃ N,cntM n=N:=⟨_,rfl⟩
 simp only [hN] at hs hO hle
 have HS:=Lib.hid hs
 clear hN hs
 by_cases hbad:a<0∨(N:Int)≤a
 · rw [if_pos hbad] at hO
   rw [hO]
   clear hO
   go_enter Tryz.func32,Tryz.ntmps32
   go_upto_region 1 with (fail)
   obtain ⟨w1,hw1⟩:∃ w1,w.alloc (.cells #[.slice none 0 0,.int .i64 0] 60)=w1:=⟨_,rfl⟩
   rw [hw1] at HB HP ⊢
   clear hw1
   go_upto_region 2 with (go_at_call 31;((with_reducible refine (HS.out _).mono ?_);rintro e w2 ⟨v,rfl,h1,h2⟩;have H1:=Lib.hid h1;have H2:=Lib.hid h2;obtain ⟨A,c,hv⟩:=own_sl h1;rw [length_sameM] at hv;subst hv;clear h1 h2))
   have HW:=Lib.hid (WvI.start (k:=(N:Int)) HB.out HP.out H1.out H2.out)
   obtain ⟨p,hp⟩:∃ p,w2.heap.size=p:=⟨_,rfl⟩
   rw [hp] at HW ⊢
   obtain ⟨w3,hw3⟩:∃ w3,w2.alloc (.cells #[.slice A N c,.int .i64 (N:Int)] 60)=w3:=⟨_,rfl⟩
   rw [hw3] at HW ⊢
   clear hw3 hp
   obtain ⟨x0,x1⟩:=HW.out.cur.cells
   obtain ⟨y0,y1⟩:=HW.out.out.cells
   obtain ⟨m0,m1⟩:=HW.out.out.melts
   by_cases h0:a<0
   · go_wp2_with fail
     refine bodyPost_ret (out_mp (HW.out.out.put2 (.slice A N c) (N:Int)) _ _ 4 res_rdel rfl) rfl ⟨_,rfl, ?_,below_put2 HW.out.aft (Nat.le_refl _) _ _⟩
     exact (HW.out.own.keep (fun g h1 _ _=>heap_put2 _ _ _ _ _ (by omega))).mono (by omega)
   · have h9:(N:Int)≤a:=hbad.resolve_left h0
     clear hbad
     go_wp2_with fail
     refine bodyPost_ret (out_mp (HW.out.out.put2 (.slice A N c) (N:Int)) _ _ 4 res_rdel rfl) rfl ⟨_,rfl, ?_,below_put2 HW.out.aft (Nat.le_refl _) _ _⟩
     exact (HW.out.own.keep (fun g h1 _ _=>heap_put2 _ _ _ _ _ (by omega))).mono (by omega)
 · rw [if_neg hbad] at hO
   rw [hO]
   obtain ⟨a0,rfl⟩:∃ a0:Nat,a=(a0:Int):=⟨a.toNat,by omega⟩
   have h0:¬ (a0:Int)<0:=fun e=>hbad (.inl e)
   have h9:¬ (N:Int)≤(a0:Int):=fun e=>hbad (.inr e)
   clear hO hbad
   go_enter Tryz.func32,Tryz.ntmps32
   go_upto_region 1 with (fail)
   obtain ⟨w1,hw1⟩:∃ w1,w.alloc (.cells #[.slice none 0 0,.int .i64 0] 60)=w1:=⟨_,rfl⟩
   rw [hw1] at HB HP ⊢
   clear hw1
   go_upto_region 2 with (go_at_call 31;((with_reducible refine (HS.out _).mono ?_);rintro e w2 ⟨v,rfl,h1,h2⟩;have H1:=Lib.hid h1;have H2:=Lib.hid h2;obtain ⟨A,c,hv⟩:=own_sl h1;rw [length_sameM] at hv;subst hv;clear h1 h2))
   have HW:=Lib.hid (WvI.start (k:=(N:Int)) HB.out HP.out H1.out H2.out)
   obtain ⟨p,hp⟩:∃ p,w2.heap.size=p:=⟨_,rfl⟩
   rw [hp] at HW ⊢
   obtain ⟨w3,hw3⟩:∃ w3,w2.alloc (.cells #[.slice A N c,.int .i64 (N:Int)] 60)=w3:=⟨_,rfl⟩
   rw [hw3] at HW ⊢
   clear hw3 hp
   obtain ⟨x0,x1⟩:=HW.out.cur.cells
   obtain ⟨m0,m1⟩:=HW.out.cur.melts
   go_upto_region 5 with (fail)
   clear x0 x1 m0 m1
   have HW2:=Lib.hid (HW.out.setN ((N:Int) - 1))
   obtain ⟨w4,hw4⟩:∃ w4,w3.setCell ⟨p,1,none⟩ (.int .i64 ((N:Int) - 1))=w4:=⟨_,rfl⟩
   rw [hw4] at HW2 ⊢
   clear hw4
   have hlt0:(a0:Int)<(N:Int):=by omega
   have ha00:(0:Int)≤(a0:Int):=by omega
   obtain ⟨g0,c0,hA0,_⟩:=HW2.out.own.some (by rw [length_sameM];omega)
   injection hA0 with hA0 h2 h3
   subst hA0
   clear h2 h3
   have e0:=HW2.out.own.intCell a0 (by rw [length_sameM];omega)
   have f0:=HW2.out.own.rwA.melt a0
   obtain ⟨x0,x1⟩:=HW2.out.cur.cells
   have HS0:=Lib.hid (show WvI w (w4.setCell ⟨g0,a0,none⟩ (.int .i64 (-1))) w.heap.size p (some ⟨g0,0,none⟩) N c ((N:Int) - 1) ((List.range N).map (delF a0 (a0+1))) from by rw [← delF_start];exact HW2.out.set a0 (-1))
   go_wp2_with fail
   clear e0 f0 x0 x1
   go_loopw [6] (fun iv wr=>∃ i:Nat,a0<i∧i≤N∧iv = .int .i64 (i:Int)∧Hid (WvI w wr w.heap.size p (some ⟨g0,0,none⟩) N c ((N:Int) - 1) ((List.range N).map (delF a0 i))))
    (fun iv _=>N - (intOf iv).toNat)
   case atStart=>exact ⟨_,Nat.le_refl _,by omega,by first | rfl | trivial | go_num,HS0⟩
   case round =>
    obtain ⟨i,hai,hi,rfl,HR⟩:=hrel
    obtain ⟨x0,x1⟩:=HR.out.cur.cells
    by_cases hlt:i<N
    · have hii:(i:Int)<(N:Int):=by omega
      have hi0:(0:Int)≤(i:Int):=by omega
      have HLN:=Lib.hid (show ((List.range N).map (delF a0 i)).length=N from by simp)
      have e0:=HR.out.own.intCell i (by rw [HLN.out];exact hlt)
      rw [mapU_at _ _ _ hlt] at e0
      have hf:delF a0 i i=(i:Int):=by unfold delF;(repeat' split) <;> omega
      rw [hf] at e0
      have f0:=HR.out.own.rwA.melt i
      have HN:=Lib.hid (delF_next a0 i N hai)
      clear hf
      go_wp2_with fail
      clear e0 f0 x0 x1
      go_roundw
      case rel=>exact ⟨i+1,by omega,by omega,by go_num,Lib.hid (by rw [← HN.out];exact HR.out.set i ((i:Int) - 1))⟩
      case measure=>simp [intOf];omega
    · have hii:¬ (i:Int)<(N:Int):=by omega
      have hin:i=N:=by omega
      subst hin
      have HE:=Lib.hid (delF_end a0 i)
      obtain ⟨y0,y1⟩:=HR.out.out.cells
      obtain ⟨m0,m1⟩:=HR.out.out.melts
      go_wp2_with fail
      have ho:=HR.out.own
      rw [HE.out] at ho
      refine bodyPost_ret (out_mp (HR.out.out.put2 (.slice (some ⟨g0,0,none⟩) i c) ((i:Int) - 1)) _ _ 4 res_rdel rfl) rfl ⟨_,rfl, ?_,below_put2 HR.out.aft (Nat.le_refl _) _ _⟩
      exact (ho.keep (fun g h1 _ _=>heap_put2 _ _ _ _ _ (by omega))).mono (by omega)
def exSf:Sf:=⟨⟨#[65]⟩,false,(insO 3 1).1,(insO 3 1).2,sameM (cntM 3),(cntM 3:Int)⟩
theorem exSf_ok:SfOk exSf:=⟨⟨by decide +kernel,by decide +kernel,by decide +kernel,rises_of _ _ _ (by decide +kernel)⟩,⟨by decide +kernel,by decide +kernel,by decide +kernel,rises_of _ _ _ (by decide +kernel)⟩⟩
theorem sfR_one (w:World) (x:Sw) (h:SwR w w.heap.size x):SfR (w.alloc (.cells (shfA x) 63)) (w.heap.size+1) (.slice (some ⟨w.heap.size,0,none⟩) 1 1) [x]:=by
 have hb:Below w.heap.size w (w.alloc (.cells (shfA x) 63)):=Below.alloc (Below.refl _ _) (Nat.le_refl _) _
 refine ⟨⟨_,1,rfl,Nat.le_refl 1,by decide,.inr ⟨w.heap.size,0,rfl,by omega,fun j u hj => ?_⟩⟩,fun y hy => ?_⟩
 · have e:encSw.all [x]=(shfA x).toList:=by simp [Enc.all,encSw]
   rw [e] at hj
   rw [Nat.zero_add]
   rw [World.cell?_alloc_new];simpa using hj
 · rw [List.mem_singleton.1 hy]
   exact (h.below hb (Nat.le_refl _)).mono (by omega)
def mvB (l out own:List Int) (ss:List Sf):Bool:=match lexL l with
 | none=>false
 | some ts=>match parseP 200 ts with
   | some (.ok ns)=>decide (printL ns=l)&&decide (printL (moveL (strOfNums own) ss ns)=out)
   | _=>false
theorem mv_ex:mvB [65,50] [65,51] [65] [exSf]=true:=by decide +kernel
theorem mv_PIs (s own:ByteArray) (h:s.size≤300) {l out o:List Int} {ss:List Sf} (hl:sb s=l) (ho:strOfNums o=own) (hs:mvB l out o ss=true):∃ ns,PIs s (.ok ns)∧printL ns=l∧printL (moveL own ss ns)=out:=by
 subst hl;subst ho
 unfold mvB at hs
 split at hs
 · cases hs
 · rename_i ts hl
   split at hs
   · rename_i ns hp
     rw [Bool.and_eq_true,decide_eq_true_iff,decide_eq_true_iff] at hs
     exact ⟨ns,.inr (.inr ⟨h,ts,200,hl,hp⟩),hs.1,hs.2⟩
   · cases hs
theorem ex_text:∃ ns,PIs ⟨#[65,50]⟩ (.ok ns)∧strOfNums (printL ns)=⟨#[65,50]⟩∧textM ⟨#[65]⟩ [exSf] ns=⟨#[61,65,51]⟩:=by
 obtain ⟨ns,h1,h2,h3⟩:=mv_PIs ⟨#[65,50]⟩ ⟨#[65]⟩ (by decide) (by decide:sb ⟨#[65,50]⟩=[65,50]) (by decide +kernel:strOfNums [65]=⟨#[65]⟩) mv_ex
 refine ⟨ns,h1,by rw [h2];decide +kernel, ?_⟩
 unfold textM
 rw [h3]
 decide +kernel
theorem text_ex (w:World) (hx:Cx w) (x:Sw) (A:Option Addr) (c:Nat) (hv:SfR w w.heap.size (.slice A 1 c) [x]) (hs:x.s=exSf) :
 Calls Tryz.prog 25 #[.string ⟨#[61,65,50]⟩,.string ⟨#[65]⟩,.slice A 1 c] w fun e w'=>e = .returned (.string ⟨#[61,65,51]⟩)∧Below w.heap.size w w':=by
 obtain ⟨ns,h1,h2,h3⟩:=ex_text
 have:=moveText_form w ⟨#[61,65,50]⟩ ⟨#[65,50]⟩ ⟨#[65]⟩ [x] A 1 c hx hv (by decide) (fun y hy=>by rw [List.mem_singleton.1 hy,hs];exact exSf_ok) (by decide) (by decide) (by decide) (by decide +kernel) (by decide +kernel) ns h1 h2
 rwa [show sfs [x]=[exSf] by unfold sfs;rw [List.map_cons,hs];rfl,h3] at this
theorem text_ex1 (w:World) (hx:Cx w) (D D2:Option Addr) (d d2:Nat) (h1:IR w w.heap.size D 3 d (insO 3 1).1) (h2:IR w w.heap.size D2 3 d2 (sameM (cntM 3))) :
 Calls Tryz.prog 25 #[.string ⟨#[61,65,50]⟩,.string ⟨#[65]⟩,.slice (some ⟨w.heap.size,0,none⟩) 1 1] (w.alloc (.cells #[.string ⟨#[65]⟩,.slice D 3 d,.int .i64 (insO 3 1).2,.slice D2 3 d2,.int .i64 (cntM 3:Int),.bool false] 63)) fun e w'=>e = .returned (.string ⟨#[61,65,51]⟩)∧Below w.heap.size w w':=by
 have hs:=sfR_one w ⟨exSf,D,d,D2,d2,by decide⟩ ⟨h1,h2⟩
 have hb:Below w.heap.size w (w.alloc (.cells (shfA ⟨exSf,D,d,D2,d2,by decide⟩) 63)):=Below.alloc (Below.refl _ _) (Nat.le_refl _) _
 have:=text_ex _ (hx.below hb) ⟨exSf,D,d,D2,d2,by decide⟩ _ _ (hs.mono (by rw [World.size_alloc];exact Nat.le_refl _)) rfl
 exact this.mono fun e w' h=>⟨h.1,hb.trans (h.2.mono hb.size)⟩
set_option maxRecDepth 100000 in
set_option maxHeartbeats 4000000 in
theorem awake12 (w:World) (hx:Cx w) :
 Calls Tryz.prog 21 #[] w fun e w'=>e = .returned (.bool true)∧Below w.heap.size w w':=by
 have HI:=Lib.hid ((rins_map w 3 1).mono fun e w1 h=>refOut_is (n:=3) h rfl)
 have HSa:=Lib.hid (fun (w1:World)=>(rsame_map w1 3).mono fun e w2 h=>refOut_is (n:=3) h rfl)
 have HT:=Lib.hid (fun (wq:World) (hq:Below w.heap.size w wq)=>text_ex1 wq (hx.below hq))
 clear hx
 go_enter Tryz.func21,Tryz.ntmps21
 go_wp2_with (first
  | (go_at_call 33;((with_reducible refine HI.out.mono ?_);rintro e w1 ⟨D,d,rfl,hr,hq⟩;have H1:=Lib.hid hq;have HR1:=Lib.hid hr;clear hq hr))
  | (go_at_call 31;((with_reducible refine (HSa.out _).mono ?_);rintro e w2 ⟨D2,d2,rfl,hr,hq⟩;have H2:=Lib.hid hq;have HR2:=Lib.hid hr;clear hq hr))
  | (go_at_call 25;((with_reducible refine (HT.out _ (H1.out.trans (H2.out.mono H1.out.size)) _ _ _ _ ((HR1.out.below H2.out (Nat.le_refl _)).mono H2.out.size) HR2.out).mono ?_);rintro e w4 ⟨rfl,hq⟩;have H4:=Lib.hid ((H1.out.trans (H2.out.mono H1.out.size)).trans (hq.mono (H1.out.trans (H2.out.mono H1.out.size)).size));clear hq)))
 go_ret
 exact ⟨rfl,H4.out⟩
theorem res_mk:Tryz.f34.results=#[.cell 2 60]:=by kernel_rfl
theorem makeM_bd (ns:List Int) (i:Nat) (hi:i≤ns.length):MadeOk (makeM (ns.take i)) i:=by
 have h:=makeM_ok (ns.take i)
 rwa [List.length_take,Nat.min_eq_left hi] at h
set_option maxRecDepth 100000 in
set_option maxHeartbeats 16000000 in
theorem make_map (w:World) (A:Option Addr) (n cap:Nat) (ns:List Int) (hs:S8 w w.heap.size A n cap ns) (hn:n≤100) :
 Calls Tryz.prog 34 #[.slice A n cap] w fun e w'=>RefOut w w' (makeM ns).1 (makeM ns).2 e:=by
 obtain ⟨w2,hw2,hb,hp1,hp2,hsz⟩:=two_pr 60 w (.slice none 0 0) (.slice none 0 0) 0 0
 have HB:=Lib.hid hb;have HP1:=Lib.hid hp1;have HSZ:=Lib.hid hsz
 have HI:=Lib.hid (ApI.nil hp2)
 have HS:=Lib.hid hs
 clear hs hb hp1 hp2 hsz
 go_enter Tryz.func34,Tryz.ntmps34
 go_upto_region 2 with (fail)
 clear hw2
 go_upto_region 3 with (fail)
 go_loopw [4] (fun iv wr=>∃ (i:Nat) (A1:Option Addr) (k1 c1:Nat) (nw:Int),i≤n∧iv = .int .i64 (i:Int)∧Hid (k1=(makeM (ns.take i)).1.length)∧Hid (nw=(makeM (ns.take i)).2)∧Hid (ApI w2 wr (w.heap.size+1) (.slice A1 k1 c1) nw (makeM (ns.take i)).1))
  (fun iv _=>n - (intOf iv).toNat)
 case atStart=>exact ⟨0,none,0,0,0,Nat.zero_le _,rfl,Lib.hid rfl,Lib.hid rfl,HI⟩
 case round =>
  obtain ⟨i,A1,k1,c1,nw,hi,rfl,HK1,HNW,HA⟩:=hrel
  by_cases hlt:i<n
  · have hii:(i:Int)<(n:Int):=by omega
    have hi0:(0:Int)≤(i:Int):=by omega
    have hls:i<ns.length:=by rw [HS.out.hlen];exact hlt
    obtain ⟨pb,po,rfl,hpb,hcell⟩:=HS.out.at_.resolve_left (by omega)
    have hbx:=HS.out.bytes.get i
    have HGX:=Lib.hid (getD_some ns i hls)
    obtain ⟨x,hx⟩:∃ x:Nat,ns.getD i 0=(x:Int):=⟨(ns.getD i 0).toNat,by omega⟩
    have hc1:=hcell i hlt
    rw [hx] at hc1 hbx HGX
    have HBD:=Lib.hid (makeM_bd ns i (by omega))
    have HMK:=Lib.hid (makeM_take ns i (x:Int) HGX.out)
    have hpw:pb<w.heap.size+1:=by omega
    have HWB:=Lib.hid (HA.out.aft HB.out (by omega) (by have:=HSZ.out;omega))
    have y0:=(HWB.out.cell (p:=⟨pb,po+i,none⟩) hpb).trans hc1
    have hk1:k1≤100:=by have h1:=HBD.out.len;have h2:=HK1.out;omega
    have hnw:0≤nw∧nw≤300:=by have h1:=HBD.out.low;have h2:=HBD.out.high;have h3:=HNW.out;omega
    have hxb:x≤255:=by omega
    obtain ⟨obj,hobj⟩:∃ l,(makeM (ns.take i)).1=l:=⟨_,rfl⟩
    have HOB:=Lib.hid hobj
    rw [hobj] at HA HK1
    have HLN:=Lib.hid HK1.out.symm
    obtain ⟨z0,z1⟩:=HA.out.cur.cells
    obtain ⟨m0,m1⟩:=HA.out.cur.melts
    obtain ⟨r,hr⟩:∃ r,x % 4=r:=⟨_,rfl⟩
    have q4:(x:Int) % 4=(r:Int):=by omega
    have t4:(x:Int).tmod 4=(r:Int):=by rw [Int.tmod_eq_emod_of_nonneg (by omega)];exact q4
    have w4:IntKind.i64.wrap (r:Int)=(r:Int):=by rw [IntKind.wrap_i64];omega
    have hr4:r<4:=by omega
    have HR:=Lib.hid hr
    clear hcell hc1 hx hobj hbx hr
    by_cases c0:r=0
    · have d0:((r:Int) == 0)=true:=by rw [c0];rfl
      have HMK2:=Lib.hid (show (makeM (ns.take (i+1)))=(obj++[-1],nw) from by
       rw [HMK.out];unfold makeS;rw [if_pos (by have:=HR.out;omega),HOB.out,HNW.out])
      have HBA:=Lib.hid ((Below.refl wr.heap.size wr).alloc (Nat.le_refl _) (.cells #[.int .i64 (-1)] 3))
      have HAA:=Lib.hid (HA.out.next HBA.out)
      clear c0 m0 m1 z1
      go_wp2_with (at_builtin;refine wpList_app_at Elem.pl (encInt .i64) rfl (.tmp 33) (.tmp 34) rfl w2.heap.size _ obj rfl HAA.out.own ⟨_,0,none⟩ 1 1 [-1] rfl rfl ?_ ?_ ?_ ?_ ?_;exact cells_new _ _ _ rfl;(rw [HLN.out];omega);(rw [HLN.out];unfold maxLen;omega);(have h1:=HBA.out.size;have h2:=HA.out.gr.size;omega);intro v5 w5 h1 h2 _;obtain ⟨A5,c5,hv5⟩:=own_sl h1;simp only [List.length_append,List.length_singleton,HLN.out] at hv5;subst hv5;have HO5:=Lib.hid h1;have HG5:=Lib.hid h2;obtain ⟨m0,m1⟩:=(HAA.out.at5 h2).melts;obtain ⟨v0,v1⟩:=(HAA.out.at5 h2).cells;clear h1 h2)
      clear m0 m1 v0 v1 z0 y0
      go_roundw
      case rel=>exact ⟨i+1,A5,k1+1,c5,nw,by omega,by go_num,Lib.hid (by rw [HMK2.out,List.length_append,HLN.out];rfl),Lib.hid (by rw [HMK2.out]),Lib.hid (by rw [HMK2.out];exact HAA.out.push HO5.out HG5.out)⟩
      case measure=>simp [intOf];omega
    · have d0:((r:Int) == 0)=false:=by rw [beq_eq_false_iff_ne];omega
      by_cases c1':r=1
      · have d1:((r:Int) == 1)=true:=by rw [c1'];rfl
        obtain ⟨q,hq⟩:∃ q,x / 4=q:=⟨_,rfl⟩
        have a1:(x:Int).tdiv 4=(q:Int):=by rw [Int.tdiv_eq_ediv_of_nonneg (by omega)];omega
        have a2:(x:Int) / 4=(q:Int):=by omega
        have a3:IntKind.i64.wrap (q:Int)=(q:Int):=by rw [IntKind.wrap_i64];omega
        obtain ⟨p,hp⟩:∃ p,q % 3=p:=⟨_,rfl⟩
        have b1:(q:Int) % 3=(p:Int):=by omega
        have b2:(q:Int).tmod 3=(p:Int):=by rw [Int.tmod_eq_emod_of_nonneg (by omega)];exact b1
        have b3:IntKind.i64.wrap (p:Int)=(p:Int):=by rw [IntKind.wrap_i64];omega
        have hp3:p<3:=by omega
        have HMK2:=Lib.hid (show (makeM (ns.take (i+1)))=(obj,nw+1+(p:Int)) from by
         rw [HMK.out];unfold makeS;rw [if_neg (by have:=HR.out;omega),if_pos (by have:=HR.out;omega),HOB.out,HNW.out,a2,b1])
        clear c0 c1' hq hp
        go_wp2_with fail
        clear m0 m1 z0 z1 y0
        go_roundw
        case rel=>exact ⟨i+1,A1,k1,c1,nw+1+(p:Int),by omega,by go_num,Lib.hid (by rw [HMK2.out,HLN.out]),Lib.hid (by rw [HMK2.out]),Lib.hid (by rw [HMK2.out];exact HA.out.setN (nw+1+(p:Int)))⟩
        case measure=>simp [intOf];omega
      · have d1:((r:Int) == 1)=false:=by rw [beq_eq_false_iff_ne];omega
        have HMK2:=Lib.hid (show (makeM (ns.take (i+1)))=(obj++[nw],nw+1) from by
         rw [HMK.out];unfold makeS;rw [if_neg (by have:=HR.out;omega),if_neg (by have:=HR.out;omega),HOB.out,HNW.out])
        have HBA:=Lib.hid ((Below.refl wr.heap.size wr).alloc (Nat.le_refl _) (.cells #[.int .i64 nw] 3))
        have HAA:=Lib.hid (HA.out.next HBA.out)
        clear c0 c1' m0 m1
        go_wp2_with (at_builtin;refine wpList_app_at Elem.pl (encInt .i64) rfl (.tmp 20) (.tmp 23) rfl w2.heap.size _ obj rfl HAA.out.own ⟨_,0,none⟩ 1 1 [nw] rfl rfl ?_ ?_ ?_ ?_ ?_;exact cells_new _ _ _ rfl;(rw [HLN.out];omega);(rw [HLN.out];unfold maxLen;omega);(have h1:=HBA.out.size;have h2:=HA.out.gr.size;omega);intro v5 w5 h1 h2 _;obtain ⟨A5,c5,hv5⟩:=own_sl h1;simp only [List.length_append,List.length_singleton,HLN.out] at hv5;subst hv5;have HO5:=Lib.hid h1;have HG5:=Lib.hid h2;obtain ⟨m0,m1⟩:=(HAA.out.at5 h2).melts;obtain ⟨v0,v1⟩:=(HAA.out.at5 h2).cells;clear h1 h2)
        clear m0 m1 v0 v1 z0 z1 y0
        go_roundw
        case rel=>exact ⟨i+1,A5,k1+1,c5,nw+1,by omega,by go_num,Lib.hid (by rw [HMK2.out,List.length_append,HLN.out];rfl),Lib.hid (by rw [HMK2.out]),Lib.hid (by rw [HMK2.out];exact (HAA.out.push HO5.out HG5.out).setN (nw+1))⟩
        case measure=>simp [intOf];omega
  · have hii:¬ (i:Int)<(n:Int):=by omega
    have hin:i=n:=by omega
    subst hin
    have HE:=Lib.hid (show ns.take i=ns from List.take_of_length_le (by rw [HS.out.hlen];exact Nat.le_refl _))
    rw [HE.out] at HK1 HNW HA
    have HP:=Lib.hid (HA.out.other HP1.out (by omega))
    obtain ⟨y0,y1⟩:=HP.out.cells
    obtain ⟨m0,m1⟩:=HP.out.melts
    obtain ⟨z0,z1⟩:=HA.out.cur.cells
    go_wp2_with fail
    have ho:=HA.out.own
    rw [HSZ.out] at ho
    refine bodyPost_ret (out_mp (HP.out.put2 (.slice A1 k1 c1) nw) _ _ 2 res_mk rfl) rfl ⟨_,by rw [HNW.out], ?_,below_put2 (HA.out.aft HB.out (by omega) (by have:=HSZ.out;omega)) (Nat.le_refl _) _ _⟩
    exact (ho.keep (fun g h1 _ _=>heap_put2 _ _ _ _ _ (by omega))).mono (by omega)
set_option maxRecDepth 100000 in
set_option maxHeartbeats 1600000 in
theorem refInts_any (w:World) (B:Nat) (v1 v2:Value) (xs ys:List Int) (h1:SI w B v1 xs) (h2:SI w B v2 ys):Calls Tryz.prog 51 #[v1,v2] w fun e w'=>e = .returned (.bool (decide (xs=ys)))∧Below w.heap.size w w':=by
 obtain ⟨A1,cap1,rfl,hc1,hm1,a1⟩:=h1
 obtain ⟨A2,cap2,rfl,hc2,hm2,a2⟩:=h2
 unfold maxLen at hm1 hm2
 obtain ⟨n1,hn1⟩:∃ n1,xs.length=n1:=⟨_,rfl⟩
 obtain ⟨n2,hn2⟩:∃ n2,ys.length=n2:=⟨_,rfl⟩
 rw [hn1] at hc1 ⊢
 rw [hn2] at hc2 ⊢
 by_cases hl:n1=n2
 · subst hl
   have HA1:=Lib.hid a1;have HA2:=Lib.hid a2;have HN1:=Lib.hid hn1;have HN2:=Lib.hid hn2
   clear a1 a2 hn1 hn2
   go_enter Tryz.func51,Tryz.ntmps51
   go_upto_region 4 with (fail)
   go_loopw [5] (fun i wr=>∃ (k m:Nat),k≤n1∧i = .int .i64 (k:Int)∧Hid (xs.take k=ys.take k)∧w.drewN m=wr)
    (fun i _=>n1 - (intOf i).toNat)
   case atStart=>exact ⟨0,0,Nat.zero_le _,rfl,Lib.hid rfl,rfl⟩
   case round =>
    obtain ⟨k,m,hk,rfl,HT,rfl⟩:=hrel
    by_cases hlt:k<n1
    · have hki:(k:Int)<(n1:Int):=by omega
      obtain ⟨x,hx⟩:∃ x,xs[k]? = some x:=⟨_,List.getElem?_eq_getElem (by rw [HN1.out];exact hlt)⟩
      obtain ⟨y,hy⟩:∃ y,ys[k]? = some y:=⟨_,List.getElem?_eq_getElem (by rw [HN2.out];exact hlt)⟩
      rcases HA1.out with e | ⟨p1,o1,rfl, -,c1⟩
      · exfalso;rw [e] at hx;simp at hx
      rcases HA2.out with e | ⟨p2,o2,rfl, -,c2⟩
      · exfalso;rw [e] at hy;simp at hy
      have k1:=c1 k x hx
      have k2:=c2 k y hy
      have HX:=Lib.hid hx;have HY:=Lib.hid hy
      clear c1 c2 hx hy
      by_cases hxy:x=y
      · have ex:(x != y)=false:=by rw [hxy];simp
        have HT2:=Lib.hid (take_snoc HT.out HX.out (by rw [hxy];exact HY.out))
        clear hxy
        go_wp2_with fail
        go_quiet (fail)
        go_wp2_with fail
        go_roundw
        case rel=>exact ⟨k+1,_,by omega,by go_num,HT2,by first | rfl | trivial⟩
        case measure=>simp [intOf];omega
      · have ex:(x != y)=true:=by rw [bne_iff_ne];exact hxy
        have HR:=Lib.hid (show ¬ xs=ys from fun e=>hxy (by have h1:=HX.out;rw [e,HY.out] at h1;exact (Option.some.inj h1).symm))
        clear hxy
        go_wp2_with fail
        go_quiet (fail)
        go_wp2_with fail
        go_ret
        exact ⟨by rw [decide_eq_false HR.out] <;> rfl,drew_below (drew_below (Below.refl _ _) m) nq⟩
    · have hki:¬ (k:Int)<(n1:Int):=by omega
      have HR:=Lib.hid (show xs=ys by
       have h1:=HT.out
       rw [List.take_of_length_le (by rw [HN1.out];omega),List.take_of_length_le (by rw [HN2.out];omega)] at h1
       exact h1)
      go_wp2_with fail
      go_ret
      exact ⟨by rw [decide_eq_true HR.out] <;> rfl,drew_below (Below.refl _ _) m⟩
 · have hne:((n1:Int) != (n2:Int))=true:=by rw [bne_iff_ne];omega
   have HR:=Lib.hid (show ¬ xs=ys from fun e=>hl (by rw [← hn1, ← hn2,e]))
   clear a1 a2 hn1 hn2
   go_enter Tryz.func51,Tryz.ntmps51
   go_wp2_with fail
   go_ret
   exact ⟨by rw [decide_eq_false HR.out] <;> rfl,Below.refl _ _⟩
def SameSays (l1 l2:List Nd) (e:Ending):Prop:=∃ b:Bool,e = .returned (.bool b)∧(b=true↔l1=l2)
theorem SameSays.yes {l1 l2:List Nd} (h:l1=l2):SameSays l1 l2 (.returned (.bool true)):=⟨true,rfl,⟨fun _=>h,fun _=>rfl⟩⟩
theorem SameSays.no {l1 l2:List Nd} (h:¬ l1=l2):SameSays l1 l2 (.returned (.bool false)):=⟨false,rfl,⟨fun e=>absurd e Bool.false_ne_true,fun e=>absurd e h⟩⟩
theorem SameSays.is {l1 l2:List Nd} {e:Ending} (h:SameSays l1 l2 e):(l1=l2∧e = .returned (.bool true))∨(¬ l1=l2∧e = .returned (.bool false)):=by
 obtain ⟨b,rfl,hb⟩:=h
 cases b
 · exact .inr ⟨fun e=>(Bool.noConfusion (hb.2 e)),rfl⟩
 · exact .inl ⟨hb.1 rfl,rfl⟩
set_option maxRecDepth 100000 in
set_option maxHeartbeats 16000000 in
theorem refSame_any (w:World) (v1 v2:Value) (l1 l2:List (Nd × Value)) (h1:SN w w.heap.size v1 l1) (h2:SN w w.heap.size v2 l2) (hz1:l1.length≤1000) (hz2:l2.length≤1000) :
 Calls Tryz.prog 22 #[v1,v2] w fun e w'=>SameSays (l1.map (·.1)) (l2.map (·.1)) e∧Below w.heap.size w w':=by
 obtain ⟨A1,cap1,rfl⟩:=h1.lenle
 obtain ⟨A2,cap2,rfl⟩:=h2.lenle
 obtain ⟨n1,hn1⟩:∃ n1,l1.length=n1:=⟨_,rfl⟩
 obtain ⟨n2,hn2⟩:∃ n2,l2.length=n2:=⟨_,rfl⟩
 rw [hn1] at h1 hz1 ⊢
 rw [hn2] at h2 hz2 ⊢
 by_cases hl:n1=n2
 rotate_left
 · have hne:((n1:Int) != (n2:Int))=true:=by rw [bne_iff_ne];omega
   have HR:=Lib.hid (show ¬ l1.map (·.1)=l2.map (·.1) from fun e=>hl (by have:=congrArg List.length e;rw [List.length_map,List.length_map] at this;omega))
   clear h1 h2 hn1 hn2
   go_enter Tryz.func22,Tryz.ntmps22
   go_wp2_with fail
   go_ret
   exact ⟨.no HR.out,Below.refl _ _⟩
 subst hl
 have HS1:=Lib.hid h1;have HS2:=Lib.hid h2;have HN1:=Lib.hid hn1;have HN2:=Lib.hid hn2
 clear h1 h2 hn1 hn2 hz2
 go_enter Tryz.func22,Tryz.ntmps22
 go_upto_region 4 with (fail)
 go_loopw [5] (fun iv wr=>∃ (i:Nat),i≤n1∧iv = .int .i64 (i:Int)∧Hid (l1.map (·.1) |>.take i |> (· = (l2.map (·.1)).take i))∧Hid (Below w.heap.size w wr))
  (fun iv _=>n1 - (intOf iv).toNat)
 case atStart=>exact ⟨0,Nat.zero_le _,rfl,Lib.hid rfl,Lib.hid (Below.refl _ _)⟩
 case round =>
  obtain ⟨i,hi,rfl,HT,HB⟩:=hrel
  by_cases hlt:i<n1
  rotate_left
  · have hii:¬ (i:Int)<(n1:Int):=by omega
    have HR:=Lib.hid (show l1.map (·.1)=l2.map (·.1) by
     have h1:=HT.out
     have e1:(l1.map (·.1)).take i=l1.map (·.1):=List.take_of_length_le (by have:=HN1.out;simp only [List.length_map];omega)
     have e2:(l2.map (·.1)).take i=l2.map (·.1):=List.take_of_length_le (by have:=HN2.out;simp only [List.length_map];omega)
     rw [e1,e2] at h1
     exact h1)
    go_wp2_with fail
    go_ret
    exact ⟨.yes HR.out,HB.out⟩
  have hii:(i:Int)<(n1:Int):=by omega
  obtain ⟨⟨a,ka⟩,hka⟩:∃ q,l1[i]? = some q:=⟨_,List.getElem?_eq_getElem (by rw [HN1.out];exact hlt)⟩
  obtain ⟨⟨c,kc⟩,hkc⟩:∃ q,l2[i]? = some q:=⟨_,List.getElem?_eq_getElem (by rw [HN2.out];exact hlt)⟩
  obtain ⟨hsa,pa,oa,rfl,hpa,ca⟩:=HS1.out.cellAt hka
  obtain ⟨hsc,pc,oc,rfl,hpc,cc⟩:=HS2.out.cellAt hkc
  obtain ⟨Aa,ma,hma,hea⟩:∃ Aa ma,a.kids.length≤ma∧ka = .slice Aa a.kids.length ma:=(by obtain ⟨A,c,h1,h2,_⟩:=hsa;exact ⟨A,c,h2,h1⟩)
  obtain ⟨Ac,mc,hmc,hec⟩:∃ Ac mc,c.kids.length≤mc∧kc = .slice Ac c.kids.length mc:=(by obtain ⟨A,cc,h1,h2,_⟩:=hsc;exact ⟨A,cc,h2,h1⟩)
  subst hea;subst hec
  have HKA:=Lib.hid hsa;have HKC:=Lib.hid hsc
  have HA:=Lib.hid (show (l1.map (·.1))[i]? = some a by rw [List.getElem?_map,hka];rfl)
  have HC:=Lib.hid (show (l2.map (·.1))[i]? = some c by rw [List.getElem?_map,hkc];rfl)
  have HNO:=Lib.hid (show ¬ a=c→¬ l1.map (·.1)=l2.map (·.1) from fun hne e=>hne (by have h1:=HA.out;rw [e,HC.out] at h1;exact (Option.some.inj h1).symm))
  have HYES:=Lib.hid (show a=c→(l1.map (·.1)).take (i+1)=(l2.map (·.1)).take (i+1) from fun e=>takeN HT.out HA.out (by rw [e];exact HC.out))
  have hpa':pa<wr.heap.size:=Nat.lt_of_lt_of_le hpa HB.out.size
  have hpc':pc<wr.heap.size:=Nat.lt_of_lt_of_le hpc HB.out.size
  have x0:wr.cell? ⟨pa,oa+i*14,none⟩=some (.int .i64 a.kind):=(HB.out.cell (p:=⟨pa,oa+i*14,none⟩) hpa).trans (ca 0 (by omega))
  have x1:wr.cell? ⟨pa,oa+i*14+1,none⟩=some (.int .i64 a.num):=(HB.out.cell (p:=⟨pa,oa+i*14+1,none⟩) hpa).trans (ca 1 (by omega))
  have x2:wr.cell? ⟨pa,oa+i*14+2,none⟩=some (.string a.text):=(HB.out.cell (p:=⟨pa,oa+i*14+2,none⟩) hpa).trans (ca 2 (by omega))
  have x3:wr.cell? ⟨pa,oa+i*14+3,none⟩=some (.string a.ref.sh):=(HB.out.cell (p:=⟨pa,oa+i*14+3,none⟩) hpa).trans (ca 3 (by omega))
  have x4:wr.cell? ⟨pa,oa+i*14+4,none⟩=some (.int .i64 a.ref.c):=(HB.out.cell (p:=⟨pa,oa+i*14+4,none⟩) hpa).trans (ca 4 (by omega))
  have x5:wr.cell? ⟨pa,oa+i*14+5,none⟩=some (.int .i64 a.ref.r):=(HB.out.cell (p:=⟨pa,oa+i*14+5,none⟩) hpa).trans (ca 5 (by omega))
  have x6:wr.cell? ⟨pa,oa+i*14+6,none⟩=some (.bool a.ref.ac):=(HB.out.cell (p:=⟨pa,oa+i*14+6,none⟩) hpa).trans (ca 6 (by omega))
  have x7:wr.cell? ⟨pa,oa+i*14+7,none⟩=some (.bool a.ref.ar):=(HB.out.cell (p:=⟨pa,oa+i*14+7,none⟩) hpa).trans (ca 7 (by omega))
  have x8:wr.cell? ⟨pa,oa+i*14+8,none⟩=some (.string a.«to».sh):=(HB.out.cell (p:=⟨pa,oa+i*14+8,none⟩) hpa).trans (ca 8 (by omega))
  have x9:wr.cell? ⟨pa,oa+i*14+9,none⟩=some (.int .i64 a.«to».c):=(HB.out.cell (p:=⟨pa,oa+i*14+9,none⟩) hpa).trans (ca 9 (by omega))
  have x10:wr.cell? ⟨pa,oa+i*14+10,none⟩=some (.int .i64 a.«to».r):=(HB.out.cell (p:=⟨pa,oa+i*14+10,none⟩) hpa).trans (ca 10 (by omega))
  have x11:wr.cell? ⟨pa,oa+i*14+11,none⟩=some (.bool a.«to».ac):=(HB.out.cell (p:=⟨pa,oa+i*14+11,none⟩) hpa).trans (ca 11 (by omega))
  have x12:wr.cell? ⟨pa,oa+i*14+12,none⟩=some (.bool a.«to».ar):=(HB.out.cell (p:=⟨pa,oa+i*14+12,none⟩) hpa).trans (ca 12 (by omega))
  have x13:wr.cell? ⟨pa,oa+i*14+13,none⟩=some (.slice Aa a.kids.length ma):=(HB.out.cell (p:=⟨pa,oa+i*14+13,none⟩) hpa).trans (ca 13 (by omega))
  have y0:wr.cell? ⟨pc,oc+i*14,none⟩=some (.int .i64 c.kind):=(HB.out.cell (p:=⟨pc,oc+i*14,none⟩) hpc).trans (cc 0 (by omega))
  have y1:wr.cell? ⟨pc,oc+i*14+1,none⟩=some (.int .i64 c.num):=(HB.out.cell (p:=⟨pc,oc+i*14+1,none⟩) hpc).trans (cc 1 (by omega))
  have y2:wr.cell? ⟨pc,oc+i*14+2,none⟩=some (.string c.text):=(HB.out.cell (p:=⟨pc,oc+i*14+2,none⟩) hpc).trans (cc 2 (by omega))
  have y3:wr.cell? ⟨pc,oc+i*14+3,none⟩=some (.string c.ref.sh):=(HB.out.cell (p:=⟨pc,oc+i*14+3,none⟩) hpc).trans (cc 3 (by omega))
  have y4:wr.cell? ⟨pc,oc+i*14+4,none⟩=some (.int .i64 c.ref.c):=(HB.out.cell (p:=⟨pc,oc+i*14+4,none⟩) hpc).trans (cc 4 (by omega))
  have y5:wr.cell? ⟨pc,oc+i*14+5,none⟩=some (.int .i64 c.ref.r):=(HB.out.cell (p:=⟨pc,oc+i*14+5,none⟩) hpc).trans (cc 5 (by omega))
  have y6:wr.cell? ⟨pc,oc+i*14+6,none⟩=some (.bool c.ref.ac):=(HB.out.cell (p:=⟨pc,oc+i*14+6,none⟩) hpc).trans (cc 6 (by omega))
  have y7:wr.cell? ⟨pc,oc+i*14+7,none⟩=some (.bool c.ref.ar):=(HB.out.cell (p:=⟨pc,oc+i*14+7,none⟩) hpc).trans (cc 7 (by omega))
  have y8:wr.cell? ⟨pc,oc+i*14+8,none⟩=some (.string c.«to».sh):=(HB.out.cell (p:=⟨pc,oc+i*14+8,none⟩) hpc).trans (cc 8 (by omega))
  have y9:wr.cell? ⟨pc,oc+i*14+9,none⟩=some (.int .i64 c.«to».c):=(HB.out.cell (p:=⟨pc,oc+i*14+9,none⟩) hpc).trans (cc 9 (by omega))
  have y10:wr.cell? ⟨pc,oc+i*14+10,none⟩=some (.int .i64 c.«to».r):=(HB.out.cell (p:=⟨pc,oc+i*14+10,none⟩) hpc).trans (cc 10 (by omega))
  have y11:wr.cell? ⟨pc,oc+i*14+11,none⟩=some (.bool c.«to».ac):=(HB.out.cell (p:=⟨pc,oc+i*14+11,none⟩) hpc).trans (cc 11 (by omega))
  have y12:wr.cell? ⟨pc,oc+i*14+12,none⟩=some (.bool c.«to».ar):=(HB.out.cell (p:=⟨pc,oc+i*14+12,none⟩) hpc).trans (cc 12 (by omega))
  have y13:wr.cell? ⟨pc,oc+i*14+13,none⟩=some (.slice Ac c.kids.length mc):=(HB.out.cell (p:=⟨pc,oc+i*14+13,none⟩) hpc).trans (cc 13 (by omega))
  clear ca cc hka hkc hsa hsc hma hmc
  go_upto_region 6 with (fail)
  go_cut [6,7] from 13 to 67 (fun t6 t7 wx=>∃ p q,t6 = .pointer (some ⟨p,0,none⟩)∧t7 = .pointer (some ⟨q,0,none⟩)∧NdAt wx p a (.slice Aa a.kids.length ma)∧NdAt wx q c (.slice Ac c.kids.length mc)∧Below wr.heap.size wr wx)
  case first =>
   go_region_held3 (fun w'=>w'.cell? ⟨pa,oa+i*14,none⟩=some (.int .i64 a.kind)∧w'.cell? ⟨pa,oa+i*14+1,none⟩=some (.int .i64 a.num)∧w'.cell? ⟨pa,oa+i*14+2,none⟩=some (.string a.text)∧w'.cell? ⟨pa,oa+i*14+3,none⟩=some (.string a.ref.sh)∧w'.cell? ⟨pa,oa+i*14+4,none⟩=some (.int .i64 a.ref.c)∧w'.cell? ⟨pa,oa+i*14+5,none⟩=some (.int .i64 a.ref.r)∧w'.cell? ⟨pa,oa+i*14+6,none⟩=some (.bool a.ref.ac)∧w'.cell? ⟨pa,oa+i*14+7,none⟩=some (.bool a.ref.ar)∧w'.cell? ⟨pa,oa+i*14+8,none⟩=some (.string a.«to».sh)∧w'.cell? ⟨pa,oa+i*14+9,none⟩=some (.int .i64 a.«to».c)∧w'.cell? ⟨pa,oa+i*14+10,none⟩=some (.int .i64 a.«to».r)∧w'.cell? ⟨pa,oa+i*14+11,none⟩=some (.bool a.«to».ac)∧w'.cell? ⟨pa,oa+i*14+12,none⟩=some (.bool a.«to».ar)∧w'.cell? ⟨pa,oa+i*14+13,none⟩=some (.slice Aa a.kids.length ma)∧w'.cell? ⟨pc,oc+i*14,none⟩=some (.int .i64 c.kind)∧w'.cell? ⟨pc,oc+i*14+1,none⟩=some (.int .i64 c.num)∧w'.cell? ⟨pc,oc+i*14+2,none⟩=some (.string c.text)∧w'.cell? ⟨pc,oc+i*14+3,none⟩=some (.string c.ref.sh)∧w'.cell? ⟨pc,oc+i*14+4,none⟩=some (.int .i64 c.ref.c)∧w'.cell? ⟨pc,oc+i*14+5,none⟩=some (.int .i64 c.ref.r)∧w'.cell? ⟨pc,oc+i*14+6,none⟩=some (.bool c.ref.ac)∧w'.cell? ⟨pc,oc+i*14+7,none⟩=some (.bool c.ref.ar)∧w'.cell? ⟨pc,oc+i*14+8,none⟩=some (.string c.«to».sh)∧w'.cell? ⟨pc,oc+i*14+9,none⟩=some (.int .i64 c.«to».c)∧w'.cell? ⟨pc,oc+i*14+10,none⟩=some (.int .i64 c.«to».r)∧w'.cell? ⟨pc,oc+i*14+11,none⟩=some (.bool c.«to».ac)∧w'.cell? ⟨pc,oc+i*14+12,none⟩=some (.bool c.«to».ar)∧w'.cell? ⟨pc,oc+i*14+13,none⟩=some (.slice Ac c.kids.length mc)) (go_keep) (fail)
   all_goals go_wp2_with fail
   all_goals go_meet
   all_goals first
    | exact ⟨_,_,rfl,rfl,(two_nd wr a c _ _).1,(two_nd wr a c _ _).2.1,(two_nd wr a c _ _).2.2⟩
    | exact ⟨_,_,rfl,rfl,(two_nd wr c a _ _).2.1,(two_nd wr c a _ _).1,(two_nd wr c a _ _).2.2⟩
  case rest =>
   obtain ⟨p,q,rfl,rfl,hna,hnc,hb⟩:=hcut
   have HB3:=Lib.hid (HB.out.trans (hb.mono HB.out.size))
   have HIN:=Lib.hid (refInts_any wc w.heap.size _ _ _ _ (HKA.out.below HB3.out (Nat.le_refl _)) (HKC.out.below HB3.out (Nat.le_refl _)))
   obtain ⟨p0,p1,p2,p3,p4,p5,p6,p7,p8,p9,p10,p11,p12,p13⟩:=hna.cells
   obtain ⟨q0,q1,q2,q3,q4,q5,q6,q7,q8,q9,q10,q11,q12,q13⟩:=hnc.cells
   clear x0 x1 x2 x3 x4 x5 x6 x7 x8 x9 x10 x11 x12 x13 y0 y1 y2 y3 y4 y5 y6 y7 y8 y9 y10 y11 y12 y13 hpa' hpc' hna hnc hb
   by_cases hk:a.kids=c.kids
   · rw [decide_eq_true hk] at HIN
     have HK:=Lib.hid hk
     clear hk
     go_wp2_with (go_at_call 51;((with_reducible refine HIN.out.mono ?_);rintro e w4 ⟨rfl,h1⟩;have HB4:=Lib.hid (HB3.out.trans (h1.mono HB3.out.size));clear h1))
     any_goals (go_ret;exact ⟨.no (HNO.out fun e=>by rename_i h;exact h (by rw [e])),HB3.out⟩)
     rename_i h0 h1 h2 h3 h4 h5 h6 h7 h8 h9 h10 h11 h12
     have HY:=Lib.hid (HYES.out (nd_eq h0 h1 h2 h3 h4 h5 h6 h7 h8 h9 h10 h11 h12 HK.out))
     clear h0 h1 h2 h3 h4 h5 h6 h7 h8 h9 h10 h11 h12
     go_roundw
     case rel=>exact ⟨i+1,by omega,by go_num,HY,HB4⟩
     case measure=>simp [intOf];omega
   · rw [decide_eq_false hk] at HIN
     have HR:=Lib.hid (HNO.out fun e=>hk (by rw [e]))
     clear hk
     go_wp2_with (go_at_call 51;((with_reducible refine HIN.out.mono ?_);rintro e w4 ⟨rfl,h1⟩;have HB4:=Lib.hid (HB3.out.trans (h1.mono HB3.out.size));clear h1))
     all_goals go_ret
     all_goals first | exact ⟨.no HR.out,HB3.out⟩ | exact ⟨.no HR.out,HB4.out⟩
def oneN (sh:ByteArray) (r c:Int) (ac ar:Bool):Nd:=⟨5,0,⟨#[]⟩,⟨sh,c,r,ac,ar⟩,Rf.zero,[]⟩
theorem one_may {sh:ByteArray} (h:sh=⟨#[]⟩∨sh=⟨#[65]⟩) (r c:Int) (ac ar:Bool):mayRf ⟨sh,c,r,ac,ar⟩=decide (0≤c∧c≤701∧0≤r∧r≤998):=by
 have e:(decide (sb sh=[])||nameL (sb sh))=true:=by rcases h with rfl | rfl <;> decide
 show mayL (sb sh) c r=_
 unfold mayL;rw [e,Bool.true_and]
theorem one_tree {sh:ByteArray} (h:sh=⟨#[]⟩∨sh=⟨#[65]⟩) {r c:Int} (ac ar:Bool) (h1:0≤r) (h2:r≤998) (h3:0≤c) (h4:c≤701):treeB [oneN sh r c ac ar]=true:=by
 have e:mayRf (oneN sh r c ac ar).ref=true:=by
  show mayRf ⟨sh,c,r,ac,ar⟩=true
  rw [one_may h];exact decide_eq_true ⟨h3,h4,h1,h2⟩
 have el:leafB (oneN sh r c ac ar)=true:=by
  unfold leafB
  rw [if_neg (by show ¬ ((¬ (5:Int)=1∧¬ (5:Int)=3∧¬ (0:Int)=0)∨(¬ (5:Int)=2∧¬ (5:Int)=7∧¬ (⟨#[]⟩:ByteArray)=⟨#[]⟩)∨(¬ (5:Int)=5∧_)∨(¬ (5:Int)=6∧noRf Rf.zero=false));simp;decide),e];rfl
 have en:nodeB (oneN sh r c ac ar)=true:=by unfold nodeB;rw [el];rfl
 unfold treeB;rw [treeF_cons,en];rfl
def oneD (x y:Int):Prop:=((x<0∨y<0)∨998<x)∨701<y
theorem one_move {sh own:ByteArray} (h:sh=⟨#[]⟩∧own=⟨#[65]⟩∨sh=⟨#[65]⟩) (s:Sf) (hs:s.sh=⟨#[65]⟩) (hg:s.gone=false) (r c:Int) (ac ar:Bool) {x y:Int} (hx:imgM s.rx s.rn r=x) (hy:imgM s.cx s.cn c=y) :
 (oneD x y→moveL own [s] [oneN sh r c ac ar]=[deadN])∧(¬ oneD x y→moveL own [s] [oneN sh r c ac ar]=[oneN sh x y ac ar]):=by
 have hn:nameN own (oneN sh r c ac ar)=⟨#[65]⟩:=by
  rcases h with ⟨rfl,rfl⟩ | rfl
  · rfl
  · rfl
 have hf:findS [s] ⟨#[65]⟩=some s:=by unfold findS;rw [List.find?_cons,hs];rfl
 have ha:alongN (oneN sh r c ac ar) s=(oneN sh x y ac ar,decide (0≤y∧y≤701∧0≤x∧x≤998)):=by
  unfold alongN
  rw [if_neg (by rw [hg];decide),if_neg (by show ¬ (5:Int)=6;decide)]
  have e:refN (oneN sh r c ac ar) s=oneN sh x y ac ar:=by rw [← hx, ← hy];rfl
  rw [e]
  exact congrArg (Prod.mk _) (one_may (h.imp And.left id) x y ac ar)
 have hm:moveL own [s] [oneN sh r c ac ar]=[if (alongN (oneN sh r c ac ar) s).2=true then (alongN (oneN sh r c ac ar) s).1 else deadN]:=by
  unfold moveL moveN
  rw [List.map_cons,List.map_nil,if_neg (by show ¬ (¬ (5:Int)=5∧_);omega),hn,hf]
 rw [hm,ha]
 unfold oneD
 refine ⟨fun hd => ?_,fun hd => ?_⟩
 · rw [if_neg (by show ¬ decide _=true;rw [decide_eq_true_iff];omega)]
 · rw [if_pos (by show decide _=true;rw [decide_eq_true_iff];omega)]
theorem sn_one (w:World) (n:Nd) (hk:n.kids=[]):SN (w.alloc (.cells (nodA n (.slice none 0 0)) 48)) (w.heap.size+1) (.slice (some ⟨w.heap.size,0,none⟩) 1 1) [(n,.slice none 0 0)]:=by
 refine ⟨⟨_,1,rfl,.inr ⟨w.heap.size,0,rfl,by omega,fun i m k hi j hj => ?_⟩⟩,fun p hp => ?_⟩
 · have h0:i=0:=by have:=(List.getElem?_eq_some_iff.1 hi).1;simpa using this
   subst h0
   injection hi with hi;injection hi with h1 h2;subst h1;subst h2
   rw [show 0+0*14+j=j by omega,World.cell?_alloc_new]
   exact Array.getElem?_toList.symm
 · rw [List.mem_singleton.1 hp]
   show SI _ _ _ n.kids
   rw [hk];exact (SE.nil _ _ _).si
theorem SN.put1 {w:World} {T b:Nat} {done:List (Nd × Value)} {n:Nd} (h:SN w w.heap.size (.slice (some ⟨T,0,none⟩) 1 1) done) (hb:T≠b) (hl:done.map (·.1)=[n]) (hk:n.kids=[]) (i:Nat) (u:Value):SN (w.setCell ⟨b,i,none⟩ u) (w.setCell ⟨b,i,none⟩ u).heap.size (.slice (some ⟨T,0,none⟩) 1 1) done:=by
 rw [World.size_setCell]
 obtain ⟨⟨A,cap,e,h1⟩,h2⟩:=h
 refine ⟨⟨A,cap,e,h1.imp id ?_⟩,fun p hp => ?_⟩
 · rintro ⟨pb,po,e1,e2,e3⟩
   refine ⟨pb,po,e1,e2,fun j m k hj q hq => ?_⟩
   injection e with e4
   have e5:T=pb:=by rw [e1] at e4;injection e4 with e4;injection e4
   rw [← e3 j m k hj q hq,World.cell?_setCell_far _ _ _ _ (fun h=>hb (e5.trans h.symm))]
 · have hpk:p.1.kids=[]:=by
    have:p.1∈done.map (·.1):=List.mem_map_of_mem hp
    rw [hl,List.mem_singleton] at this;rw [this];exact hk
   obtain ⟨A2,c2,q1,q2,q3,q4⟩:=h2 p hp
   exact ⟨A2,c2,q1,q2,q3,.inl hpk⟩
theorem one_szs {n:Nd} {v:Value} (h:n.text.size≤300∧n.ref.sh.size≤300∧n.«to».sh.size≤300):SZ [(n,v)]:=⟨by show 1≤1000;decide,fun p hp=>by rw [List.mem_singleton.1 hp];show n.text.size≤_∧n.ref.sh.size≤_∧n.«to».sh.size≤_;omega⟩
theorem mpOk_del (a:Nat) (h:a<7):MpOk (delO 6 (a:Int)).1 (delO 6 (a:Int)).2:=by
 have e:riseM (-1) (delO 6 (a:Int)).2 (delO 6 (a:Int)).1=true∧0≤(delO 6 (a:Int)).2∧(delO 6 (a:Int)).2≤6:=by
  have:∀ a:Fin 7,riseM (-1) (delO 6 (a.1:Int)).2 (delO 6 (a.1:Int)).1=true∧0≤(delO 6 (a.1:Int)).2∧(delO 6 (a.1:Int)).2≤6:=by decide +kernel
  exact this ⟨a,h⟩
 exact ⟨by rw [length_delO];decide,e.2.1,by omega,rises_of _ _ _ e.1⟩
theorem mpOk_make (ns:List Int) (h:ns.length≤60):MpOk (makeM ns).1 (makeM ns).2∧(makeM ns).1.length≤60∧(makeM ns).2≤180:=by
 have k:=makeM_ok ns
 have h1:=k.len
 have h2:=k.high
 exact ⟨⟨by omega,k.low,by omega,k.rise⟩,by omega,by omega⟩
def RfB (w:World) (b:Nat) (f:Rf):Prop:=w.heap[b]? = some (.cells #[.string f.sh,.int .i64 f.c,.int .i64 f.r,.bool f.ac,.bool f.ar] 45)
theorem RfB.cells {w:World} {b:Nat} {f:Rf} (h:RfB w b f):w.cell? ⟨b,0,none⟩=some (.string f.sh)∧w.cell? ⟨b,1,none⟩=some (.int .i64 f.c)∧w.cell? ⟨b,2,none⟩=some (.int .i64 f.r)∧w.cell? ⟨b,3,none⟩=some (.bool f.ac)∧w.cell? ⟨b,4,none⟩=some (.bool f.ar) :=
 ⟨by rw [cell_of_row w b 0 _ _ _ h];rfl,by rw [cell_of_row w b 1 _ _ _ h];rfl,by rw [cell_of_row w b 2 _ _ _ h];rfl,by rw [cell_of_row w b 3 _ _ _ h];rfl,by rw [cell_of_row w b 4 _ _ _ h];rfl⟩
theorem RfB.melts {w:World} {b:Nat} {f:Rf} (h:RfB w b f) (i:Nat):w.frozen? ⟨b,i,none⟩=false:=frozen_of_row w b i _ _ h
theorem RfB.put0 {w:World} {b:Nat} {f:Rf} (h:RfB w b f) (x:ByteArray):RfB (w.setCell ⟨b,0,none⟩ (.string x)) b { f with sh:=x }:=by
 unfold RfB;rw [heap_setCell_same w b 0 _ _ _ h];rfl
theorem RfB.put1 {w:World} {b:Nat} {f:Rf} (h:RfB w b f) (x:Int):RfB (w.setCell ⟨b,1,none⟩ (.int .i64 x)) b { f with c:=x }:=by
 unfold RfB;rw [heap_setCell_same w b 1 _ _ _ h];rfl
theorem RfB.put2 {w:World} {b:Nat} {f:Rf} (h:RfB w b f) (x:Int):RfB (w.setCell ⟨b,2,none⟩ (.int .i64 x)) b { f with r:=x }:=by
 unfold RfB;rw [heap_setCell_same w b 2 _ _ _ h];rfl
theorem RfB.below {w w':World} {b B:Nat} {f:Rf} (h:RfB w b f) (hb:Below B w w') (hB:b<B):RfB w' b f:=by unfold RfB;rw [hb.block b hB];exact h
structure Boxes (w w3:World) (z:Nat) (u v:Value) (m n:Int) (f:Rf):Prop where
 below:Below z w w3
 p1:PrAt 60 w3 z u m
 p2:PrAt 60 w3 (z+1) v n
 rf:RfB w3 (z+1+1) f
 size:w3.heap.size=z+3
theorem boxes (w:World) (u v:Value) (m n:Int) (c r:Int) (ac ar:Bool):∃ w3,(((w.alloc (.cells #[u,.int .i64 m] 60)).alloc (.cells #[v,.int .i64 n] 60)).alloc (.cells #[.string ⟨#[]⟩,.int .i64 c,.int .i64 r,.bool ac,.bool ar] 45))=w3∧Boxes w w3 w.heap.size u v m n ⟨⟨#[]⟩,c,r,ac,ar⟩:=by
 obtain ⟨w2,e,h1,h2,h3,h4⟩:=two_pr 60 w u v m n
 rw [e]
 have hb:=Below.alloc (Below.refl w2.heap.size w2) (Nat.le_refl _) (.cells #[.string ⟨#[]⟩,.int .i64 c,.int .i64 r,.bool ac,.bool ar] 45)
 refine ⟨_,rfl,h1.trans (hb.mono (by omega)),h2.over hb,h3.over hb, ?_,by rw [World.size_alloc,h4]⟩
 rw [show w.heap.size+1+1=w2.heap.size by omega]
 exact (Go.MapKept.heap_alloc w2 _).1
theorem Boxes.put0 {w w3:World} {z:Nat} {u v:Value} {m n:Int} {f:Rf} (h:Boxes w w3 z u v m n f) (x:ByteArray):Boxes w (w3.setCell ⟨z+1+1,0,none⟩ (.string x)) z u v m n { f with sh:=x } :=
 ⟨h.below.setCell (by show z≤z+1+1;omega) _,h.p1.other _ _ (by show z≠z+1+1;omega),h.p2.other _ _ (by show z+1≠z+1+1;omega),h.rf.put0 x,by rw [World.size_setCell];exact h.size⟩
theorem a65:(⟨#[65]⟩:ByteArray).size≤maxLen:=by decide
theorem nodes_one (w:World) (hx:Cx w) {sh own:ByteArray} (h:sh=⟨#[]⟩∧own=⟨#[65]⟩∨sh=⟨#[65]⟩) (how:own.size≤maxLen) (r c:Int) (ac ar:Bool) (h1:0≤r) (h2:r≤998) (h3:0≤c) (h4:c≤701) (D D2:Option Addr) (d d2 L L2:Nat) (xs ys:List Int) (nw nb:Int)
 (hxs:MpOk xs nw) (hys:MpOk ys nb) (hL:xs.length=L) (hL2:ys.length=L2) (k1:IR w w.heap.size D L d xs) (k2:IR w w.heap.size D2 L2 d2 ys) :
 Calls Tryz.prog 23 #[.slice (some ⟨w.heap.size,0,none⟩) 1 1,.string own,.slice (some ⟨w.heap.size+1,0,none⟩) 1 1] ((w.alloc (.cells #[.int .i64 5,.int .i64 0,.string ⟨#[]⟩,.string sh,.int .i64 c,.int .i64 r,.bool ac,.bool ar,.string ⟨#[]⟩,.int .i64 0,.int .i64 0,.bool false,.bool false,.slice none 0 0] 48)).alloc (.cells #[.string ⟨#[65]⟩,.slice D L d,.int .i64 nw,.slice D2 L2 d2,.int .i64 nb,.bool false] 63)) fun e w' =>
  ∃ T done,e = .returned (.slice (some ⟨T,0,none⟩) 1 1)∧SN w' w'.heap.size (.slice (some ⟨T,0,none⟩) 1 1) done∧(oneD (imgM xs nw r) (imgM ys nb c)→done.map (·.1)=[deadN])∧(¬ oneD (imgM xs nw r) (imgM ys nb c)→done.map (·.1)=[oneN sh (imgM xs nw r) (imgM ys nb c) ac ar])∧Below w.heap.size w w'∧w.heap.size≤T:=by
 subst hL;subst hL2
 have hb1:Below w.heap.size w (w.alloc (.cells (nodA (oneN sh r c ac ar) (.slice none 0 0)) 48)):=Below.alloc (Below.refl _ _) (Nat.le_refl _) _
 have hs1:=sn_one w (oneN sh r c ac ar) rfl
 have hw1:(w.alloc (.cells (nodA (oneN sh r c ac ar) (.slice none 0 0)) 48)).heap.size=w.heap.size+1:=World.size_alloc ..
 show Calls Tryz.prog 23 _ ((w.alloc (.cells (nodA (oneN sh r c ac ar) (.slice none 0 0)) 48)).alloc (.cells (shfA ⟨⟨⟨#[65]⟩,false,xs,nw,ys,nb⟩,D,d,D2,d2,a65⟩) _)) _
 generalize w.alloc (.cells (nodA (oneN sh r c ac ar) (.slice none 0 0)) 48)=w1 at hb1 hs1 hw1 ⊢
 have hS:=sfR_one w1 ⟨⟨⟨#[65]⟩,false,xs,nw,ys,nb⟩,D,d,D2,d2,a65⟩ ⟨SE.lift k1 hb1,SE.lift k2 hb1⟩
 have hb2:Below w1.heap.size w1 (w1.alloc (.cells (shfA ⟨⟨⟨#[65]⟩,false,xs,nw,ys,nb⟩,D,d,D2,d2,a65⟩) 63)):=Below.alloc (Below.refl _ _) (Nat.le_refl _) _
 have hw2:(w1.alloc (.cells (shfA ⟨⟨⟨#[65]⟩,false,xs,nw,ys,nb⟩,D,d,D2,d2,a65⟩) 63)).heap.size=w1.heap.size+1:=World.size_alloc ..
 show Calls Tryz.prog 23 _ (w1.alloc (.cells (shfA ⟨⟨⟨#[65]⟩,false,xs,nw,ys,nb⟩,D,d,D2,d2,a65⟩) 63)) _
 generalize w1.alloc (.cells (shfA ⟨⟨⟨#[65]⟩,false,xs,nw,ys,nb⟩,D,d,D2,d2,a65⟩) 63)=w2 at hS hb2 hw2 ⊢
 have hb:Below w.heap.size w w2:=hb1.trans (hb2.mono hb1.size)
 rw [← hw1]
 have hm:=moveNodes_yes w2 own [⟨⟨⟨#[65]⟩,false,xs,nw,ys,nb⟩,D,d,D2,d2,a65⟩] (some ⟨w.heap.size,0,none⟩) (some ⟨w1.heap.size,0,none⟩) 1 1 1 1 [(oneN sh r c ac ar,.slice none 0 0)] (hx.sx.below hb).vars (hS.mono (by omega)) (by omega)
  (fun y hy=>by rw [List.mem_singleton.1 hy];exact ⟨hxs,hys⟩) how ((hs1.lift (hb2.mono (by omega)) (by omega)):SN w2 w2.heap.size _ _)
  (one_szs ⟨by show 0≤300;omega,by show sh.size≤300;rcases h with ⟨rfl,_⟩ | rfl <;> decide,by show 0≤300;omega⟩) (one_tree (h.imp And.left id) ac ar h1 h2 h3 h4)
 refine hm.mono ?_
 rintro e w3 ⟨T,done,he,hd,hl,hq,hT⟩
 have hmv:=one_move h ⟨⟨#[65]⟩,false,xs,nw,ys,nb⟩ rfl rfl r c ac ar (rfl:imgM xs nw r=_) (rfl:imgM ys nb c=_)
 exact ⟨T,done,he,hd,fun hD=>hl.trans (hmv.1 hD),fun hD=>hl.trans (hmv.2 hD),hb.trans (hq.mono hb.size),Nat.le_trans hb.size hT⟩
theorem same_one (w:World) (v:Value) (l:List (Nd × Value)) (n:Nd) (hk:n.kids=[]) (hl:l.map (·.1)=[n]) (hs:SN w w.heap.size v l) :
 Calls Tryz.prog 22 #[v,.slice (some ⟨w.heap.size,0,none⟩) 1 1] (w.alloc (.cells (nodA n (.slice none 0 0)) 48)) fun e w'=>e = .returned (.bool true)∧Below w.heap.size w w':=by
 have hb:Below w.heap.size w (w.alloc (.cells (nodA n (.slice none 0 0)) 48)):=Below.alloc (Below.refl _ _) (Nat.le_refl _) _
 have h1:=sn_one w n hk
 have hw:=World.size_alloc w (.cells (nodA n (.slice none 0 0)) 48)
 generalize w.alloc (.cells (nodA n (.slice none 0 0)) 48)=w1 at hb h1 hw ⊢
 have hlen:l.length=1:=by have:=congrArg List.length hl;rwa [List.length_map] at this
 have hm:=refSame_any w1 v _ l _ (hs.lift hb hb.size) (by rw [hw];exact h1) (by omega) (by show 1≤1000;omega)
 refine hm.mono ?_
 rintro e w2 ⟨hsay,hq⟩
 rcases hsay.is with ⟨_,rfl⟩ | ⟨hne,_⟩
 · exact ⟨rfl,hb.trans (hq.mono hb.size)⟩
 · exact absurd hl hne
set_option maxRecDepth 100000 in
set_option maxHeartbeats 4000000 in
theorem moveOne_sh (w:World) (A:Option Addr) (n cap:Nat) (row col flags:Nat) (sheet:Bool) (sh own:ByteArray) (hso:sheet=false∧sh=⟨#[]⟩∧own=⟨#[65]⟩∨sheet=true∧sh=⟨#[65]⟩∧own=⟨#[66]⟩)
 (hr:row≤255) (hc:col≤255) (hf:flags≤255) (hx:Cx w) (hn:¬ 60<n) (L:Nat) (xs:List Int) (nw:Int) (hxs:MpOk xs nw) (hL:xs.length=L) (hL60:L≤60) (hnw:nw≤180)
 (hmk:Calls Tryz.prog 34 #[.slice A n cap] w fun e w'=>∃ D d,e = .returned (.agg #[.slice D L d,.int .i64 nw])∧IR w' w'.heap.size D L d xs∧Below w.heap.size w w') :
 Calls Tryz.prog 7 #[.slice A n cap,.int .u8 (row:Int),.int .u8 (col:Int),.bool sheet,.int .u8 (flags:Int)] w fun e w'=>e = .returned (.bool true)∧Below w.heap.size w w':=by
 have hlen:¬ (60:Int)<(n:Int):=by omega
 have HMK:=Lib.hid hmk
 have hr0:(0:Int)≤(row:Int) % 70∧(row:Int) % 70≤69:=by omega
 have hc0:(0:Int)≤(col:Int) % 9∧(col:Int) % 9≤8:=by omega
 have hc7:∃ a:Nat,(col:Int) % 7=(a:Int)∧a<7:=⟨col % 7,by omega,by omega⟩
 have hys:MpOk (delO 6 ((col:Int) % 7)).1 (delO 6 ((col:Int) % 7)).2∧(delO 6 ((col:Int) % 7)).1.length=6:=by
  obtain ⟨a,e,ha⟩:=hc7;rw [e];exact ⟨mpOk_del a ha,length_delO 6 _⟩
 have hsa:sh=⟨#[]⟩∧own=⟨#[65]⟩∨sh=⟨#[65]⟩:=by exact hso.imp And.right fun h=>h.2.1
 have how:own.size≤maxLen:=by rcases hso with ⟨_,_,rfl⟩ | ⟨_,_,rfl⟩ <;> decide
 have HDEL:=Lib.hid (fun (wq:World)=>(rdel_map wq 6 ((col:Int) % 7)).mono fun e w1 h=>refOut_is (n:=6) h (length_delO 6 _))
 obtain ⟨ys,hY⟩:∃ ys,(delO 6 ((col:Int) % 7)).1=ys:=⟨_,rfl⟩
 obtain ⟨nb,hB⟩:∃ nb,(delO 6 ((col:Int) % 7)).2=nb:=⟨_,rfl⟩
 rw [hY,hB] at hys
 simp only [hY,hB] at HDEL
 clear hY hB hc7
 have HNO:=Lib.hid (fun (wq:World) (hq:Below w.heap.size w wq) (ac ar:Bool)=>nodes_one wq (hx.below hq) hsa how ((row:Int) % 70) ((col:Int) % 9) ac ar hr0.1 (by omega) hc0.1 (by omega))
 have HAW:=Lib.hid (fun (wq:World) (hq:Below w.heap.size w wq)=>awake12 wq (hx.below hq))
 have HXO:=Lib.hid hxs;have HYO:=Lib.hid hys.1;have HLX:=Lib.hid hL;have HLY:=Lib.hid hys.2
 have hX:=hxs.low;have hY:=hys.1.low;have hX2:=hxs.top;have hY2:=hys.1.top
 have HIX:=Lib.hid (fun (wq:World) (D:Option Addr) (d:Nat) (h:IR wq wq.heap.size D L d xs)=>refImage_any wq D L d xs nw ((row:Int) % 70) h (by omega) (by omega) (by omega) (by omega))
 have HIY:=Lib.hid (fun (wq:World) (D:Option Addr) (d:Nat) (h:IR wq wq.heap.size D 6 d ys)=>refImage_any wq D 6 d ys nb ((col:Int) % 9) h (by omega) (by omega) (by omega) (by omega))
 obtain ⟨x,hx1⟩:∃ x,imgM xs nw ((row:Int) % 70)=x:=⟨_,rfl⟩
 obtain ⟨y,hy1⟩:∃ y,imgM ys nb ((col:Int) % 9)=y:=⟨_,rfl⟩
 rw [hx1] at HIX;rw [hy1] at HIY
 have HX1:=Lib.hid hx1;have HY1:=Lib.hid hy1
 clear hmk hsa how hxs hys hx1 hy1 hX hY hX2 hY2 hL hx hr0 hc0
 rcases hso with ⟨rfl,rfl,rfl⟩ | ⟨rfl,rfl,rfl⟩
 all_goals go_enter Tryz.func7,Tryz.ntmps7
 all_goals go_upto_region 6 with (first
  | (go_at_call 34;((with_reducible refine HMK.out.mono ?_);rintro e w1 ⟨D,d,rfl,hr1,hq⟩;have H1:=Lib.hid hq;have HR1:=Lib.hid hr1;clear hq hr1))
  | (go_at_call 32;((with_reducible refine (HDEL.out _).mono ?_);rintro e w2 ⟨D2,d2,rfl,hr1,hq⟩;have H2:=Lib.hid (H1.out.trans (hq.mono H1.out.size));have HR1':=Lib.hid ((HR1.out.below hq (Nat.le_refl _)).mono hq.size);have HR2:=Lib.hid hr1;clear hq hr1)))
 all_goals
  obtain ⟨w3,hw3,hbx⟩:=boxes w2 (.slice D L d) (.slice D2 6 d2) nw nb ((col:Int) % 9) ((row:Int) % 70) (decide (1<(flags:Int) % 4)) (decide (0<(flags:Int) % 2))
  rw [hw3]
  obtain ⟨z,hz⟩:∃ z,w2.heap.size=z:=⟨_,rfl⟩
  rw [hz] at hbx ⊢
  obtain ⟨m0,m1,m2,m3,m4⟩:=hbx.rf.cells
  have m0':=hbx.rf.melts 0
  clear hw3
 · go_upto_region 9 with fail
   obtain ⟨w4,hw4⟩:∃ w4,w3=w4:=⟨_,rfl⟩
   rw [hw4] at hbx ⊢
   clear m0 m1 m2 m3 m4 m0' hw4 w3
   have HBX:=Lib.hid hbx
   have HB4:=Lib.hid (H2.out.trans (hbx.below.mono (by rw [← hz];exact H2.out.size)))
   have HK1:=Lib.hid (show IR w4 w4.heap.size D L d xs from SE.lift HR1'.out (by rw [hz];exact hbx.below))
   have HK2:=Lib.hid (show IR w4 w4.heap.size D2 6 d2 ys from SE.lift HR2.out (by rw [hz];exact hbx.below))
   obtain ⟨p10,p11⟩:=hbx.p1.cells
   obtain ⟨p20,p21⟩:=hbx.p2.cells
   obtain ⟨m0,m1,m2,m3,m4⟩:=hbx.rf.cells
   have hsz:=hbx.size
   clear hbx
   have HKEEP:=Lib.hid (fun (wq:World) (hq:Below w4.heap.size w4 wq)=>(show wq.cell? ⟨z,0,none⟩=some (.slice D L d)∧wq.cell? ⟨z,1,none⟩=some (.int .i64 nw)∧wq.cell? ⟨z+1,0,none⟩=some (.slice D2 6 d2)∧wq.cell? ⟨z+1,1,none⟩=some (.int .i64 nb)∧wq.cell? ⟨z+1+1,1,none⟩=some (.int .i64 ((col:Int) % 9))∧wq.cell? ⟨z+1+1,2,none⟩=some (.int .i64 ((row:Int) % 70)) from
    ⟨(hq.cell (p:=⟨z,0,none⟩) (by show z<_;omega)).trans p10,(hq.cell (p:=⟨z,1,none⟩) (by show z<_;omega)).trans p11,(hq.cell (p:=⟨z+1,0,none⟩) (by show z+1<_;omega)).trans p20,(hq.cell (p:=⟨z+1,1,none⟩) (by show z+1<_;omega)).trans p21,(hq.cell (p:=⟨z+1+1,1,none⟩) (by show z+1+1<_;omega)).trans m1,(hq.cell (p:=⟨z+1+1,2,none⟩) (by show z+1+1<_;omega)).trans m2⟩))
   have HSZ:=Lib.hid hsz
   clear hsz
   obtain ⟨q10,q11,q20,q21, -, -⟩:=HKEEP.out (w4.alloc (.cells #[.int .i64 5,.int .i64 0,.string ⟨#[]⟩,.string ⟨#[]⟩,.int .i64 ((col:Int) % 9),.int .i64 ((row:Int) % 70),.bool (decide (1<(flags:Int) % 4)),.bool (decide (0<(flags:Int) % 2)),.string ⟨#[]⟩,.int .i64 0,.int .i64 0,.bool false,.bool false,.slice none 0 0] 48)) (Below.alloc (Below.refl _ _) (Nat.le_refl _) _)
   go_upto_region 10 with (first
    | (go_at_call 23;((with_reducible refine (HNO.out w4 HB4.out _ _ D D2 d d2 L 6 xs ys nw nb HXO.out HYO.out HLX.out HLY.out HK1.out HK2.out).mono ?_);rintro e w5 ⟨T,done,rfl,hsn,hdd,hon,hq,hT⟩;have HTT:=Lib.hid hT;have H5:=Lib.hid hq;have HSN:=Lib.hid hsn;have HDD:=Lib.hid hdd;have HON:=Lib.hid hon;clear hq hsn hdd hon hT)))
   clear p10 p11 p20 p21 m0 m1 m2 m3 m4 q10 q11 q20 q21
   have H5d:=Lib.hid (below_drew H5.out)
   obtain ⟨p10,p11,p20,p21,m1,m2⟩:=HKEEP.out _ H5d.out
   go_region_held3 (fun wq=>wq.cell? ⟨z,0,none⟩=some (.slice D L d)∧wq.cell? ⟨z,1,none⟩=some (.int .i64 nw)∧wq.cell? ⟨z+1,0,none⟩=some (.slice D2 6 d2)∧wq.cell? ⟨z+1,1,none⟩=some (.int .i64 nb)∧wq.cell? ⟨z+1+1,1,none⟩=some (.int .i64 ((col:Int) % 9))∧wq.cell? ⟨z+1+1,2,none⟩=some (.int .i64 ((row:Int) % 70))) (first | exact ⟨p10,p11,p20,p21,m1,m2⟩ | exact HKEEP.out _ H7.out | exact HKEEP.out _ H6.out) (first
    | (go_at_call 35;((with_reducible refine (HIX.out _ D d (SE.lift HK1.out H5d.out)).mono ?_);rintro e w6 ⟨rfl,hq⟩;have H6:=Lib.hid (H5d.out.trans (hq.mono H5d.out.size));have HS6:=Lib.hid ((below_drew (Below.refl _ w5)).trans hq);clear hq))
    | (go_at_call 35;((with_reducible refine (HIY.out _ D2 d2 (SE.lift HK2.out H6.out)).mono ?_);rintro e w7 ⟨rfl,hq⟩;have H7:=Lib.hid (H6.out.trans (hq.mono H6.out.size));have HS7:=Lib.hid (HS6.out.trans (hq.mono HS6.out.size));clear hq)))
   clear p10 p11 p20 p21 m1 m2
   have HRB:=Lib.hid (HBX.out.rf.below H7.out (by have:=HSZ.out;omega))
   have HW7:=Lib.hid (HB4.out.trans (H7.out.mono HB4.out.size))
   have HSN7:=Lib.hid (HSN.out.lift HS7.out HS7.out.size)
   have HZ:=Lib.hid (show w.heap.size≤z by rw [← hz];exact H2.out.size)
   clear hz
   by_cases hd:oneD x y
   · have HSA:=Lib.hid (show Calls Tryz.prog 22 #[.slice (some ⟨T,0,none⟩) 1 1,.slice (some ⟨w7.heap.size,0,none⟩) 1 1] (w7.alloc (.cells #[.int .i64 4,.int .i64 0,.string ⟨#[]⟩,.string ⟨#[]⟩,.int .i64 0,.int .i64 0,.bool false,.bool false,.string ⟨#[]⟩,.int .i64 0,.int .i64 0,.bool false,.bool false,.slice none 0 0] 48)) (fun e w'=>e = .returned (.bool true)∧Below w7.heap.size w7 w') from same_one w7 _ done deadN rfl (HDD.out (by rw [HX1.out,HY1.out];exact hd)) HSN7.out)
     have HAR:=Lib.hid (fun (w8:World) (h:Below w7.heap.size w7 w8)=>(HAW.out w8 (HW7.out.trans (h.mono HW7.out.size))).mono fun e w9 h9=>(show e = .returned (.bool true)∧Below w.heap.size w w9 from ⟨h9.1,(HW7.out.trans (h.mono HW7.out.size)).trans (h9.2.mono (HW7.out.trans (h.mono HW7.out.size)).size)⟩))
     unfold oneD at hd
     by_cases e1:x<0
     rotate_left
     by_cases e2:y<0
     rotate_left
     by_cases e3:998<x
     rotate_left
     have e4:701<y:=by omega
     all_goals
      clear hd
      go_wp2_with (first
       | (go_at_call 22;((with_reducible refine HSA.out.mono ?_);rintro e w8 ⟨rfl,hq⟩;have H8:=Lib.hid hq;clear hq))
       | (go_at_call 21;((with_reducible refine (HAR.out _ H8.out).mono ?_);rintro e w9 ⟨rfl,hq⟩;have H9:=Lib.hid hq;clear hq)))
      go_ret
      exact ⟨rfl,H9.out⟩
   · have hd':=hd
     unfold oneD at hd'
     have e1:¬ x<0:=by omega
     have e2:¬ y<0:=by omega
     have e3:¬ 998<x:=by omega
     have e4:¬ 701<y:=by omega
     have HL0:=HON.out (by rw [HX1.out,HY1.out];exact hd)
     rw [HX1.out,HY1.out] at HL0
     have HL:=Lib.hid HL0
     clear HL0
     clear hd hd'
     have f2:=HRB.out.melts 2
     have f1:=HRB.out.melts 1
     go_upto_region 17 with fail
     have HW9:=Lib.hid ((HW7.out.setCell (by have:=HZ.out;show w.heap.size≤z+1+1;omega) (.int .i64 x):Below w.heap.size w (w7.setCell ⟨z+1+1,2,none⟩ (.int .i64 x))).setCell (by have:=HZ.out;show w.heap.size≤z+1+1;omega) (.int .i64 y):Below w.heap.size w ((w7.setCell ⟨z+1+1,2,none⟩ (.int .i64 x)).setCell ⟨z+1+1,1,none⟩ (.int .i64 y)))
     have HR9:=Lib.hid ((HRB.out.put2 x).put1 y)
     have HSN9:=Lib.hid ((HSN7.out.put1 (b:=z+1+1) (by have:=HTT.out;have:=HSZ.out;omega) HL.out rfl 2 (.int .i64 x)).put1 (b:=z+1+1) (by have:=HTT.out;have:=HSZ.out;omega) HL.out rfl 1 (.int .i64 y))
     obtain ⟨w9,hw9⟩:∃ w9,(w7.setCell ⟨z+1+1,2,none⟩ (.int .i64 x)).setCell ⟨z+1+1,1,none⟩ (.int .i64 y)=w9:=⟨_,rfl⟩
     rw [hw9] at HW9 HR9 HSN9 ⊢
     clear hw9 f2 f1
     obtain ⟨m0,m1,m2,m3,m4⟩:=HR9.out.cells
     have HSA:=Lib.hid (show Calls Tryz.prog 22 #[.slice (some ⟨T,0,none⟩) 1 1,.slice (some ⟨w9.heap.size,0,none⟩) 1 1] (w9.alloc (.cells #[.int .i64 5,.int .i64 0,.string ⟨#[]⟩,.string ⟨#[]⟩,.int .i64 y,.int .i64 x,.bool (decide (1<(flags:Int) % 4)),.bool (decide (0<(flags:Int) % 2)),.string ⟨#[]⟩,.int .i64 0,.int .i64 0,.bool false,.bool false,.slice none 0 0] 48)) (fun e w'=>e = .returned (.bool true)∧Below w9.heap.size w9 w') from same_one w9 _ done (oneN ⟨#[]⟩ x y (decide (1<(flags:Int) % 4)) (decide (0<(flags:Int) % 2))) rfl HL.out HSN9.out)
     have HAR:=Lib.hid (fun (w8:World) (h:Below w9.heap.size w9 w8)=>(HAW.out w8 (HW9.out.trans (h.mono HW9.out.size))).mono fun e w9' h9=>(show e = .returned (.bool true)∧Below w.heap.size w w9' from ⟨h9.1,(HW9.out.trans (h.mono HW9.out.size)).trans (h9.2.mono (HW9.out.trans (h.mono HW9.out.size)).size)⟩))
     go_wp2_with (first
      | (go_at_call 22;((with_reducible refine HSA.out.mono ?_);rintro e w8 ⟨rfl,hq⟩;have H8:=Lib.hid hq;clear hq))
      | (go_at_call 21;((with_reducible refine (HAR.out _ H8.out).mono ?_);rintro e w9 ⟨rfl,hq⟩;have H9:=Lib.hid hq;clear hq)))
     go_ret
     exact ⟨rfl,H9.out⟩
 · go_upto_region 9 with fail
   have hbx:=hbx.put0 ⟨#[65]⟩
   obtain ⟨w4,hw4⟩:∃ w4,w3.setCell ⟨z+1+1,0,none⟩ (.string ⟨#[65]⟩)=w4:=⟨_,rfl⟩
   rw [hw4] at hbx ⊢
   clear m0 m1 m2 m3 m4 m0' hw4
   have HBX:=Lib.hid hbx
   have HB4:=Lib.hid (H2.out.trans (hbx.below.mono (by rw [← hz];exact H2.out.size)))
   have HK1:=Lib.hid (show IR w4 w4.heap.size D L d xs from SE.lift HR1'.out (by rw [hz];exact hbx.below))
   have HK2:=Lib.hid (show IR w4 w4.heap.size D2 6 d2 ys from SE.lift HR2.out (by rw [hz];exact hbx.below))
   obtain ⟨p10,p11⟩:=hbx.p1.cells
   obtain ⟨p20,p21⟩:=hbx.p2.cells
   obtain ⟨m0,m1,m2,m3,m4⟩:=hbx.rf.cells
   have hsz:=hbx.size
   clear hbx
   have HKEEP:=Lib.hid (fun (wq:World) (hq:Below w4.heap.size w4 wq)=>(show wq.cell? ⟨z,0,none⟩=some (.slice D L d)∧wq.cell? ⟨z,1,none⟩=some (.int .i64 nw)∧wq.cell? ⟨z+1,0,none⟩=some (.slice D2 6 d2)∧wq.cell? ⟨z+1,1,none⟩=some (.int .i64 nb)∧wq.cell? ⟨z+1+1,1,none⟩=some (.int .i64 ((col:Int) % 9))∧wq.cell? ⟨z+1+1,2,none⟩=some (.int .i64 ((row:Int) % 70)) from
    ⟨(hq.cell (p:=⟨z,0,none⟩) (by show z<_;omega)).trans p10,(hq.cell (p:=⟨z,1,none⟩) (by show z<_;omega)).trans p11,(hq.cell (p:=⟨z+1,0,none⟩) (by show z+1<_;omega)).trans p20,(hq.cell (p:=⟨z+1,1,none⟩) (by show z+1<_;omega)).trans p21,(hq.cell (p:=⟨z+1+1,1,none⟩) (by show z+1+1<_;omega)).trans m1,(hq.cell (p:=⟨z+1+1,2,none⟩) (by show z+1+1<_;omega)).trans m2⟩))
   have HSZ:=Lib.hid hsz
   clear hsz
   obtain ⟨q10,q11,q20,q21, -, -⟩:=HKEEP.out (w4.alloc (.cells #[.int .i64 5,.int .i64 0,.string ⟨#[]⟩,.string ⟨#[65]⟩,.int .i64 ((col:Int) % 9),.int .i64 ((row:Int) % 70),.bool (decide (1<(flags:Int) % 4)),.bool (decide (0<(flags:Int) % 2)),.string ⟨#[]⟩,.int .i64 0,.int .i64 0,.bool false,.bool false,.slice none 0 0] 48)) (Below.alloc (Below.refl _ _) (Nat.le_refl _) _)
   go_upto_region 10 with (first
    | (go_at_call 23;((with_reducible refine (HNO.out w4 HB4.out _ _ D D2 d d2 L 6 xs ys nw nb HXO.out HYO.out HLX.out HLY.out HK1.out HK2.out).mono ?_);rintro e w5 ⟨T,done,rfl,hsn,hdd,hon,hq,hT⟩;have HTT:=Lib.hid hT;have H5:=Lib.hid hq;have HSN:=Lib.hid hsn;have HDD:=Lib.hid hdd;have HON:=Lib.hid hon;clear hq hsn hdd hon hT)))
   clear p10 p11 p20 p21 m0 m1 m2 m3 m4 q10 q11 q20 q21
   have H5d:=Lib.hid (below_drew H5.out)
   obtain ⟨p10,p11,p20,p21,m1,m2⟩:=HKEEP.out _ H5d.out
   go_region_held3 (fun wq=>wq.cell? ⟨z,0,none⟩=some (.slice D L d)∧wq.cell? ⟨z,1,none⟩=some (.int .i64 nw)∧wq.cell? ⟨z+1,0,none⟩=some (.slice D2 6 d2)∧wq.cell? ⟨z+1,1,none⟩=some (.int .i64 nb)∧wq.cell? ⟨z+1+1,1,none⟩=some (.int .i64 ((col:Int) % 9))∧wq.cell? ⟨z+1+1,2,none⟩=some (.int .i64 ((row:Int) % 70))) (first | exact ⟨p10,p11,p20,p21,m1,m2⟩ | exact HKEEP.out _ H7.out | exact HKEEP.out _ H6.out) (first
    | (go_at_call 35;((with_reducible refine (HIX.out _ D d (SE.lift HK1.out H5d.out)).mono ?_);rintro e w6 ⟨rfl,hq⟩;have H6:=Lib.hid (H5d.out.trans (hq.mono H5d.out.size));have HS6:=Lib.hid ((below_drew (Below.refl _ w5)).trans hq);clear hq))
    | (go_at_call 35;((with_reducible refine (HIY.out _ D2 d2 (SE.lift HK2.out H6.out)).mono ?_);rintro e w7 ⟨rfl,hq⟩;have H7:=Lib.hid (H6.out.trans (hq.mono H6.out.size));have HS7:=Lib.hid (HS6.out.trans (hq.mono HS6.out.size));clear hq)))
   clear p10 p11 p20 p21 m1 m2
   have HRB:=Lib.hid (HBX.out.rf.below H7.out (by have:=HSZ.out;omega))
   have HW7:=Lib.hid (HB4.out.trans (H7.out.mono HB4.out.size))
   have HSN7:=Lib.hid (HSN.out.lift HS7.out HS7.out.size)
   have HZ:=Lib.hid (show w.heap.size≤z by rw [← hz];exact H2.out.size)
   clear hz
   by_cases hd:oneD x y
   · have HSA:=Lib.hid (show Calls Tryz.prog 22 #[.slice (some ⟨T,0,none⟩) 1 1,.slice (some ⟨w7.heap.size,0,none⟩) 1 1] (w7.alloc (.cells #[.int .i64 4,.int .i64 0,.string ⟨#[]⟩,.string ⟨#[]⟩,.int .i64 0,.int .i64 0,.bool false,.bool false,.string ⟨#[]⟩,.int .i64 0,.int .i64 0,.bool false,.bool false,.slice none 0 0] 48)) (fun e w'=>e = .returned (.bool true)∧Below w7.heap.size w7 w') from same_one w7 _ done deadN rfl (HDD.out (by rw [HX1.out,HY1.out];exact hd)) HSN7.out)
     have HAR:=Lib.hid (fun (w8:World) (h:Below w7.heap.size w7 w8)=>(HAW.out w8 (HW7.out.trans (h.mono HW7.out.size))).mono fun e w9 h9=>(show e = .returned (.bool true)∧Below w.heap.size w w9 from ⟨h9.1,(HW7.out.trans (h.mono HW7.out.size)).trans (h9.2.mono (HW7.out.trans (h.mono HW7.out.size)).size)⟩))
     unfold oneD at hd
     by_cases e1:x<0
     rotate_left
     by_cases e2:y<0
     rotate_left
     by_cases e3:998<x
     rotate_left
     have e4:701<y:=by omega
     all_goals
      clear hd
      go_wp2_with (first
       | (go_at_call 22;((with_reducible refine HSA.out.mono ?_);rintro e w8 ⟨rfl,hq⟩;have H8:=Lib.hid hq;clear hq))
       | (go_at_call 21;((with_reducible refine (HAR.out _ H8.out).mono ?_);rintro e w9 ⟨rfl,hq⟩;have H9:=Lib.hid hq;clear hq)))
      go_ret
      exact ⟨rfl,H9.out⟩
   · have hd':=hd
     unfold oneD at hd'
     have e1:¬ x<0:=by omega
     have e2:¬ y<0:=by omega
     have e3:¬ 998<x:=by omega
     have e4:¬ 701<y:=by omega
     have HL0:=HON.out (by rw [HX1.out,HY1.out];exact hd)
     rw [HX1.out,HY1.out] at HL0
     have HL:=Lib.hid HL0
     clear HL0
     clear hd hd'
     have f2:=HRB.out.melts 2
     have f1:=HRB.out.melts 1
     go_upto_region 17 with fail
     have HW9:=Lib.hid ((HW7.out.setCell (by have:=HZ.out;show w.heap.size≤z+1+1;omega) (.int .i64 x):Below w.heap.size w (w7.setCell ⟨z+1+1,2,none⟩ (.int .i64 x))).setCell (by have:=HZ.out;show w.heap.size≤z+1+1;omega) (.int .i64 y):Below w.heap.size w ((w7.setCell ⟨z+1+1,2,none⟩ (.int .i64 x)).setCell ⟨z+1+1,1,none⟩ (.int .i64 y)))
     have HR9:=Lib.hid ((HRB.out.put2 x).put1 y)
     have HSN9:=Lib.hid ((HSN7.out.put1 (b:=z+1+1) (by have:=HTT.out;have:=HSZ.out;omega) HL.out rfl 2 (.int .i64 x)).put1 (b:=z+1+1) (by have:=HTT.out;have:=HSZ.out;omega) HL.out rfl 1 (.int .i64 y))
     obtain ⟨w9,hw9⟩:∃ w9,(w7.setCell ⟨z+1+1,2,none⟩ (.int .i64 x)).setCell ⟨z+1+1,1,none⟩ (.int .i64 y)=w9:=⟨_,rfl⟩
     rw [hw9] at HW9 HR9 HSN9 ⊢
     clear hw9 f2 f1
     obtain ⟨m0,m1,m2,m3,m4⟩:=HR9.out.cells
     have HSA:=Lib.hid (show Calls Tryz.prog 22 #[.slice (some ⟨T,0,none⟩) 1 1,.slice (some ⟨w9.heap.size,0,none⟩) 1 1] (w9.alloc (.cells #[.int .i64 5,.int .i64 0,.string ⟨#[]⟩,.string ⟨#[65]⟩,.int .i64 y,.int .i64 x,.bool (decide (1<(flags:Int) % 4)),.bool (decide (0<(flags:Int) % 2)),.string ⟨#[]⟩,.int .i64 0,.int .i64 0,.bool false,.bool false,.slice none 0 0] 48)) (fun e w'=>e = .returned (.bool true)∧Below w9.heap.size w9 w') from same_one w9 _ done (oneN ⟨#[65]⟩ x y (decide (1<(flags:Int) % 4)) (decide (0<(flags:Int) % 2))) rfl HL.out HSN9.out)
     have HAR:=Lib.hid (fun (w8:World) (h:Below w9.heap.size w9 w8)=>(HAW.out w8 (HW9.out.trans (h.mono HW9.out.size))).mono fun e w9' h9=>(show e = .returned (.bool true)∧Below w.heap.size w w9' from ⟨h9.1,(HW9.out.trans (h.mono HW9.out.size)).trans (h9.2.mono (HW9.out.trans (h.mono HW9.out.size)).size)⟩))
     go_wp2_with (first
      | (go_at_call 22;((with_reducible refine HSA.out.mono ?_);rintro e w8 ⟨rfl,hq⟩;have H8:=Lib.hid hq;clear hq))
      | (go_at_call 21;((with_reducible refine (HAR.out _ H8.out).mono ?_);rintro e w9 ⟨rfl,hq⟩;have H9:=Lib.hid hq;clear hq)))
     go_ret
     exact ⟨rfl,H9.out⟩
set_option maxRecDepth 100000 in
set_option maxHeartbeats 4000000 in
theorem moveOne_any (w:World) (A:Option Addr) (n cap:Nat) (ns:List Int) (row col flags:Nat) (sheet:Bool) (hs:S8 w w.heap.size A n cap ns) (hr:row≤255) (hc:col≤255) (hf:flags≤255) (hx:Cx w) :
 Calls Tryz.prog 7 #[.slice A n cap,.int .u8 (row:Int),.int .u8 (col:Int),.bool sheet,.int .u8 (flags:Int)] w fun e w'=>e = .returned (.bool true)∧Below w.heap.size w w':=by
 by_cases hn:60<n
 · have hlen:(60:Int)<(n:Int):=by omega
   have HA:=Lib.hid (awake12 w hx)
   clear hs hx
   go_enter Tryz.func7,Tryz.ntmps7
   go_wp2_with (first
    | (go_at_call 21;((with_reducible refine HA.out.mono ?_);rintro e w1 ⟨rfl,hq⟩;have H1:=Lib.hid hq;clear hq)))
   go_ret
   exact ⟨rfl,H1.out⟩
 · have hl:=hs.hlen
   obtain ⟨h1,h2,h3⟩:=mpOk_make ns (by omega)
   have hm:=(make_map w A n cap ns hs (by omega)).mono fun e w1 h=>refOut_is (n:=(makeM ns).1.length) h rfl
   cases sheet
   · exact moveOne_sh w A n cap row col flags false ⟨#[]⟩ ⟨#[65]⟩ (.inl ⟨rfl,rfl,rfl⟩) hr hc hf hx hn _ _ _ h1 rfl h2 h3 hm
   · exact moveOne_sh w A n cap row col flags true ⟨#[65]⟩ ⟨#[66]⟩ (.inr ⟨rfl,rfl,rfl⟩) hr hc hf hx hn _ _ _ h1 rfl h2 h3 hm
end Go.Proofs.YtdnooocmlhcpkaaGreatDoor
namespace Go.Proofs.YtdnooocmlhcpkaaGreatDoor
open Go.ChangeShapes Go.WideShapes Go.ChangeAt Go.RowKit
theorem cells_u8:Tryz.prog.cellsOf 5=1:=by kernel_rfl
set_option maxRecDepth 100000 in
theorem open_s8 {H:Type} {enc:TypeId × Value→H} {W:World} {base:Nat} {v:Value} {d:DataW H} {p:List MemPlace} (hval:Value.okWide Tryz.prog W .any base 22 v) (h:DataW.Trod enc Tryz.prog W 0 (fun _=>true) true 22 v d p) :
 ∃ A len cap xs,v = .slice A len cap∧S8 W W.heap.size A len cap xs:=by
 obtain ⟨A,len,cap,rfl⟩:=okWide_slice Tryz.underlying22 hval
 obtain ⟨fuel,hf⟩:=h
 rcases open_ints Tryz.underlying22 Tryz.underlying5 cells_u8 hf with ⟨hcs,_⟩ | ⟨a,len',cap',zs,hcs,_,hl,hm,hz,_,hcell,hwz⟩
 · simp [Value.cells] at hcs
   obtain ⟨rfl,rfl,rfl⟩:=hcs
   exact ⟨none,0,0,[],rfl,rfl,Nat.le_refl _,by unfold maxLen;omega,Bytes.nil,.inl rfl⟩
 · simp [Value.cells] at hcs
   obtain ⟨rfl,rfl,rfl⟩:=hcs
   simp only [if_true] at hz
   have hb:Bytes zs:=fun n hn=>bounds_u8 (hwz n hn)
   by_cases h0:cap=0
   · have hl0:len=0:=by omega
     exact ⟨some a,len,cap,zs.take len,rfl,by rw [List.length_take];omega,hl,hm,hb.take _,.inl hl0⟩
   · obtain ⟨b,off,rfl,hc⟩:=ints_at hcell (by omega)
     refine ⟨some ⟨b,off,none⟩,len,cap,zs.take len,rfl,by rw [List.length_take];omega,hl,hm,hb.take _,.inr ⟨b,off,rfl,block_lt_of_cell (hc 0 (by omega)),fun j hj => ?_⟩⟩
     rw [hc j (by omega)]
     congr 2
     simp only [List.getD_eq_getElem?_getD]
     rw [List.getElem?_take_of_lt hj]
end Go.Proofs.YtdnooocmlhcpkaaGreatDoor
namespace Go.Proofs.YtdnooocmlhcpkaaGreatDoor
open Go.ChangeShapes Go.WideShapes Go.ChangeAt Go.RowKit
def textData {H:Type} (bs:List (List UInt8)):DataW H := .agg (bs.map fun b => .lit (.string b))
theorem cells_of_texts {H:Type} {enc:TypeId × Value→H} {P:Program} {w:World} {base:Nat} {sp:Nat→Bool} {held:Bool} {fuel:Nat} {t e:TypeId} {n:Nat} {cs:List Value} {bs:List (List UInt8)} {p:List MemPlace}
 (ht:P.underlying t=some (.array n e)) (he:P.underlying e=some .string) (hce:P.cellsOf e=1) (hct:P.cellsOf t=n)
 (h:DataW.trod enc P w base sp held fuel t cs=some (textData bs,p)):cs=bs.map fun b=>Value.string ⟨b.toArray⟩:=by
 cases fuel with
 | zero=>simp [DataW.trod] at h
 | succ fuel =>
   simp only [DataW.trod,ht,hce,hct,Nat.mul_one] at h
   split at h
   · rename_i hl
     obtain ⟨xs,hm,hx⟩:=Option.map_eq_some_iff.1 h
     have hxs:xs.map (·.1)=bs.map fun b=>(DataW.lit (.string b):DataW H):=by
      have:=congrArg Prod.fst hx
      simpa [textData] using this
     have hxl:xs.length=n:=by simpa using Lib.mapM_length hm
     have hzl:bs.length=n:=by
      have:=congrArg List.length hxs
      simp at this
      omega
     apply List.ext_getElem?
     intro i
     by_cases hi:i<n
     · obtain ⟨b,hb,hf⟩:=Lib.mapM_at hm i i (by simp [hi])
       obtain ⟨z,hc,rfl,_⟩:=DataW.trod_string he hf
       have h1:cs[i]? = some (.string z):=by
        have:=congrArg (·[0]?) hc
        simpa [List.getElem?_take,List.getElem?_drop] using this
       have h2:(xs.map (·.1))[i]? = some (DataW.lit (.string z.data.toList):DataW H):=by simp [hb]
       rw [hxs] at h2
       simp only [List.getElem?_map,Option.map_eq_some_iff,DataW.lit.injEq,Lit.string.injEq] at h2
       obtain ⟨z',hz',e⟩:=h2
       simp only [h1,List.getElem?_map,hz',Option.map_some,e]
     · rw [List.getElem?_eq_none (by omega),List.getElem?_eq_none (by simp;omega)]
   · cases h
def laidList : List (String × DataW Unit) := [("math/bits.deBruijn32tab", Rows.laid_math_bits_deBruijn32tab), ("math/bits.deBruijn64tab", Rows.laid_math_bits_deBruijn64tab), ("internal/strconv.uint64pow10", Rows.laid_internal_strconv_uint64pow10), ("unicode/utf8.acceptRanges", Rows.laid_unicode_utf8_acceptRanges), ("strconv.ErrRange", Rows.laid_strconv_ErrRange), ("strconv.ErrSyntax", Rows.laid_strconv_ErrSyntax), ("chequer/lex.signs", Rows.laid_chequer_lex_signs), ("chequer/parse.operators", Rows.laid_chequer_parse_operators), ("chequer/show.signs", Rows.laid_chequer_show_signs), ("unicode/utf8.first", Rows.laid_unicode_utf8_first)]
theorem gErr : Tryz.prog.globalNamed "strconv.ErrRange" = some 2 := by kernel_rfl
theorem gErr_t:(Tryz.prog.globals[(2:Nat)]?).map (·.type)=some 179:=by kernel_rfl
theorem gSig : Tryz.prog.globalNamed "chequer/lex.signs" = some 4 := by kernel_rfl
theorem gSig_t:(Tryz.prog.globals[(4:Nat)]?).map (·.type)=some 246:=by kernel_rfl
theorem cellsErr:Tryz.prog.cellsOf 256=1:=by kernel_rfl
theorem cellsStr:Tryz.prog.cellsOf 9=1:=by kernel_rfl
theorem cellsSig:Tryz.prog.cellsOf 246=15:=by kernel_rfl
theorem star : "*" ++ "errors.errorString" = "*errors.errorString" := by decide
theorem rowErr (u : TypeId) (h : Tryz.prog.typeName? 3 u = some "*errors.errorString") : u = 254 :=
 typeName_ptr_named (nm := "errors.errorString") (by rw [star]; kernel_rfl) (by kernel_rfl) (by decide) u (by rw [star]; exact h)
def sigBytes:List (List UInt8):=[[60,62],[60,61],[62,61],[43],[45],[42],[47],[38],[61],[60],[62],[40],[41],[44],[58]]
theorem sigData:(Rows.laid_chequer_lex_signs:DataW Unit)=textData sigBytes:=rfl
theorem sigCells:(sigBytes.map fun b=>Value.string ⟨b.toArray⟩)=sigA.toList:=rfl
theorem laidMet_tail6 {P:Program} {x:String × DataW Unit} {l:List (String × DataW Unit)} {w:World} (h:laidMet P (x :: l) w):laidMet P l w:=by
 obtain ⟨ps,h1,h2,h3⟩:=h
 obtain ⟨n,d⟩:=x
 obtain ⟨g,t,cs,fuel,p,q,_,_,_,_,hq,rfl⟩:=h1
 exact ⟨q,hq,(List.nodup_append.1 h2).2.1,fun b off hm=>h3 b off (List.mem_append_right _ hm)⟩
theorem gTab_t:(Tryz.prog.globals[3]?).map (·.type)=some 242:=by kernel_rfl
theorem cTab20:Tryz.prog.cellsOf 242=20:=by kernel_rfl
theorem cTab1:Tryz.prog.cellsOf 109=1:=by kernel_rfl
theorem tablesTab {W:World} (h:laidMetH Tryz.prog laidList W):Tab W:=by
 have h1:laidMet Tryz.prog laidList W:=h
 exact Lib.tabIs_of_head gTab gTab_t Tryz.underlying242 Tryz.underlying109 cTab1 cTab20 (laidMet_tail6 (laidMet_tail6 h1))
theorem gSho : Tryz.prog.globalNamed "chequer/show.signs" = some 0 := by kernel_rfl
theorem gSho_t:(Tryz.prog.globals[(0:Nat)]?).map (·.type)=some 219:=by kernel_rfl
theorem cellsSho:Tryz.prog.cellsOf 219=20:=by kernel_rfl
def shoBytes:List (List UInt8):=[[],[],[],[],[],[],[],[],[],[61],[60,62],[60],[60,61],[62],[62,61],[38],[43],[45],[42],[47]]
theorem shoData:(Rows.laid_chequer_show_signs:DataW Unit)=textData shoBytes:=rfl
theorem shoCells:(shoBytes.map fun b=>Value.string ⟨b.toArray⟩)=shA.toList:=rfl
theorem tablesSho {W:World} (h:laidMetH Tryz.prog laidList W):ShV W:=by
 have h1:laidMet Tryz.prog laidList W:=h
 have h6:=laidMet_tail6 (laidMet_tail6 (laidMet_tail6 (laidMet_tail6 (laidMet_tail6 (laidMet_tail6 (laidMet_tail6 (laidMet_tail6 (h1))))))))
 obtain ⟨ps,⟨g',t',cs,fuel,p,q,hg',ht',hvar,hd,_,_⟩,_⟩:=h6
 obtain rfl:=Option.some.inj (gSho.symm.trans hg')
 obtain rfl:=Option.some.inj (gSho_t.symm.trans ht')
 rw [shoData] at hd
 have hc:=cells_of_texts Tryz.underlying219 Tryz.underlying9 cellsStr cellsSho hd
 rw [shoCells] at hc
 unfold World.var? at hvar
 rw [gSho] at hvar
 simp only [Option.bind_some] at hvar
 split at hvar
 · rename_i cs' ty fr hh
   injection hvar with hvar
   subst hvar
   have:cs'=shA:=Array.toList_inj.1 hc
   exact ⟨ty,fr,by rw [← this];exact hh⟩
 · cases hvar
theorem tables {W:World} (h:laidMetH Tryz.prog laidList W):Vars W:=by
 have h1:laidMet Tryz.prog laidList W:=h
 have h4:=laidMet_tail6 (laidMet_tail6 (laidMet_tail6 (laidMet_tail6 (h1))))
 constructor
 · obtain ⟨a0,s0,hv0, -, -, -⟩:=laid_sentinel h4 gErr gErr_t Tryz.underlying179 rowErr Tryz.underlying254 Tryz.underlying256 rfl rfl Tryz.underlying9 cellsErr cellsStr
   exact ⟨_,by have h0:=World.var?_cell gErr hv0 0;simpa using h0,Or.inr ⟨_,_,rfl⟩⟩
 · have h6:=laidMet_tail6 (laidMet_tail6 h4)
   obtain ⟨ps,⟨g',t',cs,fuel,p,q,hg',ht',hvar,hd,_,_⟩,_⟩:=h6
   obtain rfl:=Option.some.inj (gSig.symm.trans hg')
   obtain rfl:=Option.some.inj (gSig_t.symm.trans ht')
   rw [sigData] at hd
   have hc:=cells_of_texts Tryz.underlying246 Tryz.underlying9 cellsStr cellsSig hd
   rw [sigCells] at hc
   unfold World.var? at hvar
   rw [gSig] at hvar
   simp only [Option.bind_some] at hvar
   split at hvar
   · rename_i cs' ty fr hh
     injection hvar with hvar
     subst hvar
     have:cs'=sigA:=Array.toList_inj.1 hc
     exact ⟨ty,fr,by rw [← this];exact hh⟩
   · cases hvar
def opC (q:ByteArray × Nat × Int):List Value:=[.string q.1,.int .i64 (q.2.1:Int),.int .i64 q.2.2]
theorem cells3:∀ (L:List (ByteArray × Nat × Int)) (cs:List Value),cs.length=L.length*3→(∀ (i:Nat) q,L[i]? = some q→(cs.drop (i*3)).take 3=opC q)→cs=L.flatMap opC
 | [],cs,h,_=>by simpa using h
 | q :: L,cs,h,hi=>by
   have h0:=hi 0 q rfl
   rw [Nat.zero_mul,List.drop_zero] at h0
   have h1:=cells3 L (cs.drop 3) (by rw [List.length_drop,h,List.length_cons];omega) (fun i q' hq=>by
    have:=hi (i+1) q' (by simpa using hq)
    rw [Nat.succ_mul] at this
    rw [List.drop_drop,Nat.add_comm 3];exact this)
   rw [List.flatMap_cons, ← h0, ← h1,List.take_append_drop]
def opData {H:Type} (q:ByteArray × Nat × Int):DataW H := .agg [.lit (.string q.1.data.toList),.lit (.int .i64 (q.2.1:Int)),.lit (.int .i64 q.2.2)]
theorem opsData:(Rows.laid_chequer_parse_operators:DataW Unit) = .agg (opL3.map opData):=rfl
theorem gOps : Tryz.prog.globalNamed "chequer/parse.operators" = some 5 := by kernel_rfl
theorem gOps_t:(Tryz.prog.globals[(5:Nat)]?).map (·.type)=some 249:=by kernel_rfl
theorem cellsOps:Tryz.prog.cellsOf 249=33:=by kernel_rfl
theorem cellsOp:Tryz.prog.cellsOf 248=3:=by kernel_rfl
set_option maxRecDepth 100000 in
theorem op_of_trod {enc:TypeId × Value→Unit} {w:World} {base:Nat} {sp:Nat→Bool} {held:Bool} {fuel:Nat} {cs:List Value} {q:ByteArray × Nat × Int} {p:List MemPlace}
 (h:DataW.trod enc Tryz.prog w base sp held fuel 248 cs=some (opData q,p)):cs=opC q:=by
 obtain ⟨y0,y1,y2,n,hx,hl,h0,h1,h2⟩:=Go.Deep.trod_struct3 Tryz.underlying248 h
 injection hx with hx _
 unfold opData at hx
 injection hx with hx
 injection hx with e0 hx;injection hx with e1 hx;injection hx with e2 _
 rw [cellsOp] at hl
 match cs,hl with
 | [c0,c1,c2],_ =>
   obtain ⟨s,g0,g0',_⟩:=DataW.trod_string Tryz.underlying9 h0
   obtain ⟨n1,g1,g1',_⟩:=DataW.trod_int Tryz.underlying3 h1
   obtain ⟨n2,g2,g2',_⟩:=DataW.trod_int Tryz.underlying3 h2
   have k0:[c0]=[Value.string s]:=g0
   have k1:[c1]=[Value.int .i64 n1]:=g1
   have k2:[c2]=[Value.int .i64 n2]:=g2
   injection k0 with k0 _;injection k1 with k1 _;injection k2 with k2 _
   rw [g0'] at e0;rw [g1'] at e1;rw [g2'] at e2
   injection e0 with e0;injection e0 with e0
   injection e1 with e1;injection e1 with _ e1
   injection e2 with e2;injection e2 with _ e2
   have es:s=q.1:=by
    cases s;cases hq:q.1
    rw [hq] at e0
    simp only at e0
    rw [Array.toList_inj.1 e0.symm]
   rw [k0,k1,k2,es, ← e1, ← e2];rfl
set_option maxRecDepth 100000 in
theorem cells_of_ops {enc:TypeId × Value→Unit} {w:World} {base:Nat} {sp:Nat→Bool} {held:Bool} {fuel:Nat} {cs:List Value} {p:List MemPlace}
 (h:DataW.trod enc Tryz.prog w base sp held fuel 249 cs=some (.agg (opL3.map opData),p)):cs=opL3.flatMap opC:=by
 obtain ⟨xs,m,_,hx,hl,hxl,hi⟩:=DataW.trod_array Tryz.underlying249 h
 injection hx with hx _
 injection hx with hx
 rw [cellsOps] at hl
 refine cells3 opL3 cs (by rw [hl];rfl) fun i q hq => ?_
 have hlt:=(List.getElem?_eq_some_iff.1 hq).1
 have hlt:i<11:=hlt
 have h1:=hi i hlt
 rw [cellsOp] at h1
 obtain ⟨y,hy⟩:∃ y,xs[i]? = some y:=⟨_,List.getElem?_eq_getElem (by omega)⟩
 rw [hy] at h1
 have h2:(xs.map (·.1))[i]? = some y.1:=by rw [List.getElem?_map,hy];rfl
 rw [← hx,List.getElem?_map,hq] at h2
 have h2:opData q=y.1:=Option.some.inj h2
 obtain ⟨y1,y2⟩:=y
 have h2:opData q=y1:=h2
 subst h2
 exact op_of_trod h1
theorem opA_list:opA.toList=opL3.flatMap opC:=rfl
theorem tablesOp {W:World} (h:laidMetH Tryz.prog laidList W):OpV W:=by
 have h1:laidMet Tryz.prog laidList W:=h
 have h4:=laidMet_tail6 (laidMet_tail6 (laidMet_tail6 (laidMet_tail6 (laidMet_tail6 (laidMet_tail6 (laidMet_tail6 (h1)))))))
 obtain ⟨ps,⟨g',t',cs,fuel,p,q,hg',ht',hvar,hd,_,_⟩,_⟩:=h4
 obtain rfl:=Option.some.inj (gOps.symm.trans hg')
 obtain rfl:=Option.some.inj (gOps_t.symm.trans ht')
 rw [opsData] at hd
 have hc:=cells_of_ops hd
 rw [← opA_list] at hc
 unfold World.var? at hvar
 rw [gOps] at hvar
 simp only [Option.bind_some] at hvar
 split at hvar
 · rename_i cs' ty fr hh
   injection hvar with hvar
   subst hvar
   have:cs'=opA:=Array.toList_inj.1 hc
   exact ⟨ty,fr,by rw [← this];exact hh⟩
 · cases hvar
theorem maxOf {W:World} (h:W.ShapedOpen Tryz.prog):MaxV W :=
 cell_of_shapedOpen_int (g:=8) (t:=3) (zero:=#[.int .i64 0]) h (of_decide_eq_true (by kernel_rfl)) (by kernel_rfl) rfl (by kernel_rfl) (by kernel_rfl) Tryz.underlying3
theorem tablesSx {W:World} (h:laidMetH Tryz.prog laidList W) (hs:W.ShapedOpen Tryz.prog):Sx W:=⟨tables h,tablesOp h,tablesTab h,maxOf hs,tablesSho h⟩
noncomputable def laidWorld (os:Os):World:=World.laidAll Tryz.prog os laidList
theorem laid_met0 (os:Os) (args:Array Value):laidMet Tryz.prog laidList ((laidWorld os).forCall (fun _ _=>0) ⟨#[],args,[]⟩).memory:=laidMet_laidAll args (by kernel_rfl) (by kernel_rfl)
end Go.Proofs.YtdnooocmlhcpkaaGreatDoor
namespace Go.Proofs.YtdnooocmlhcpkaaGreatDoor
open Go.ChangeShapes Go.WideShapes Go.ChangeAt Go.RowKit
theorem gSyn : Tryz.prog.globalNamed "strconv.ErrSyntax" = some 1 := by kernel_rfl
theorem gSyn_t:(Tryz.prog.globals[(1:Nat)]?).map (·.type)=some 179:=by kernel_rfl
theorem tablesSyn {W:World} (h:laidMetH Tryz.prog laidList W):ErrS W:=by
 have h1:laidMet Tryz.prog laidList W:=h
 have h5:=laidMet_tail6 (laidMet_tail6 (laidMet_tail6 (laidMet_tail6 (laidMet_tail6 (h1)))))
 obtain ⟨a0,s0,hv0, -, -, -⟩:=laid_sentinel h5 gSyn gSyn_t Tryz.underlying179 rowErr Tryz.underlying254 Tryz.underlying256 rfl rfl Tryz.underlying9 cellsErr cellsStr
 exact ⟨_,by have h0:=World.var?_cell gSyn hv0 0;simpa using h0,Or.inr ⟨_,_,rfl⟩⟩
theorem tablesCx {W:World} (h:laidMetH Tryz.prog laidList W) (hs:W.ShapedOpen Tryz.prog):Cx W:=⟨tablesSx h hs,tablesSyn h⟩
end Go.Proofs.YtdnooocmlhcpkaaGreatDoor
