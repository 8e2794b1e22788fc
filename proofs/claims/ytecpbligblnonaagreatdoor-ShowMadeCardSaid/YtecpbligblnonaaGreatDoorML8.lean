/-
 Texts of layers, put together.
-/
import Derived.Test.YtecpbligblnonaaGreatDoorML7
namespace Go.Proofs.YtecpbligblnonaaGreatDoor
open Go.RowKit
theorem takeN {α : Type} {xs ys:List α} {k:Nat} {x : α} (h:xs.take k=ys.take k) (hx:xs[k]? = some x) (hy:ys[k]? = some x):xs.take (k+1)=ys.take (k+1):=by
 rw [List.take_add_one,List.take_add_one,h,hx,hy]
def SameSays (l1 l2:List Nd) (e:Ending):Prop:=∃ b:Bool,e = .returned (.bool b)∧(b=true↔l1=l2)
theorem SameSays.yes {l1 l2:List Nd} (h:l1=l2):SameSays l1 l2 (.returned (.bool true)):=⟨true,rfl,⟨fun _=>h,fun _=>rfl⟩⟩
theorem SameSays.no {l1 l2:List Nd} (h:¬ l1=l2):SameSays l1 l2 (.returned (.bool false)):=⟨false,rfl,⟨fun e=>absurd e Bool.false_ne_true,fun e=>absurd e h⟩⟩
theorem SameSays.is {l1 l2:List Nd} {e:Ending} (h:SameSays l1 l2 e):(l1=l2∧e = .returned (.bool true))∨(¬ l1=l2∧e = .returned (.bool false)):=by
 obtain ⟨b,rfl,hb⟩:=h
 cases b
 · exact .inr ⟨fun e=>(Bool.noConfusion (hb.2 e)),rfl⟩
 · exact .inl ⟨hb.1 rfl,rfl⟩
theorem SN.lenle {w:World} {B:Nat} {v:Value} {vs:List (Nd × Value)} (h:SN w B v vs):∃ A cap,v = .slice A vs.length cap:=by
 obtain ⟨⟨A,cap,h,_⟩,_⟩:=h;exact ⟨A,cap,h⟩
theorem SN.cellAt {w:World} {B:Nat} {A:Option Addr} {L cap:Nat} {vs:List (Nd × Value)} (h:SN w B (.slice A L cap) vs) {i:Nat} {n:Nd} {k:Value} (hi:vs[i]? = some (n,k)):SI w B k n.kids∧∃ pb po,A=some ⟨pb,po,none⟩∧pb<B∧∀ j,j<14→w.cell? ⟨pb,po+i*14+j,none⟩=(nodA n k).toList[j]? := by
 obtain ⟨⟨A',cap',h1,h2⟩,h3⟩:=h
 injection h1 with e1 e2 e3
 subst e1
 refine ⟨h3 _ (List.mem_of_getElem? hi), ?_⟩
 rcases h2 with rfl | ⟨pb,po,e1,e2,e3⟩
 · simp at hi
 · exact ⟨pb,po,e1,e2,e3 i n k hi⟩
theorem text_sames {a b:ByteArray} (h:a.toList=b.toList):a=b:=by
 rw [ByteArray.toList_eq,ByteArray.toList_eq,Array.toList_inj] at h
 cases a;cases b;simp only at h;rw [h]
theorem nd_eq {a c:Nd} (h0:a.kind=c.kind) (h1:a.num=c.num) (h2:a.text.toList=c.text.toList) (h3:a.ref.sh.toList=c.ref.sh.toList) (h4:a.ref.c=c.ref.c) (h5:a.ref.r=c.ref.r) (h6:a.ref.ac=c.ref.ac) (h7:a.ref.ar=c.ref.ar)
 (h8:a.to.sh.toList=c.to.sh.toList) (h9:a.to.c=c.to.c) (h10:a.to.r=c.to.r) (h11:a.to.ac=c.to.ac) (h12:a.to.ar=c.to.ar) (h13:a.kids=c.kids):a=c:=by
 obtain ⟨k,n,t,⟨r1,r2,r3,r4,r5⟩,⟨t1,t2,t3,t4,t5⟩,ks⟩:=a
 obtain ⟨k',n',t',⟨r1',r2',r3',r4',r5'⟩,⟨t1',t2',t3',t4',t5'⟩,ks'⟩:=c
 have g2:=text_sames h2;have g3:=text_sames h3;have g8:=text_sames h8
 dsimp only at h0 h1 g2 g3 h4 h5 h6 h7 g8 h9 h10 h11 h12 h13
 subst h0;subst h1;subst g2;subst g3;subst h4;subst h5;subst h6;subst h7;subst g8;subst h9;subst h10;subst h11;subst h12;subst h13
 rfl
theorem two_nd (w:World) (a c:Nd) (ka kc:Value):NdAt ((w.alloc (.cells (nodA a ka) 61)).alloc (.cells (nodA c kc) 61)).drew w.heap.size a ka∧NdAt ((w.alloc (.cells (nodA a ka) 61)).alloc (.cells (nodA c kc) 61)).drew (w.heap.size+1) c kc∧Below w.heap.size w ((w.alloc (.cells (nodA a ka) 61)).alloc (.cells (nodA c kc) 61)).drew:=by
 have hs:(w.alloc (.cells (nodA a ka) 61)).heap.size=w.heap.size+1:=by simp
 have h1:=NdAt.new w a ka
 have h2:=NdAt.new (w.alloc (.cells (nodA a ka) 61)) c kc
 rw [hs] at h2
 exact ⟨h1.below ((Below.refl _ _).alloc (Nat.le_refl _) _).drew h1.lt,h2,(((Below.refl _ _).alloc (Nat.le_refl _) _).alloc (by omega) _).drew⟩
set_option maxRecDepth 100000 in
set_option maxHeartbeats 16000000 in
theorem refSame_any (w:World) (v1 v2:Value) (l1 l2:List (Nd × Value)) (h1:SN w w.heap.size v1 l1) (h2:SN w w.heap.size v2 l2) (hz1:l1.length≤1000) (hz2:l2.length≤1000) :
 Calls Tryz.prog 14 #[v1,v2] w fun e w'=>SameSays (l1.map (·.1)) (l2.map (·.1)) e∧Below w.heap.size w w':=by
 obtain ⟨A1,cap1,rfl⟩:=h1.lenle
 obtain ⟨A2,cap2,rfl⟩:=h2.lenle
 obtain ⟨n1,hn1⟩:∃ n1,l1.length=n1:=⟨_,rfl⟩
 obtain ⟨n2,hn2⟩:∃ n2,l2.length=n2:=⟨_,rfl⟩
 rw [hn1] at h1 hz1 ⊢
 rw [hn2] at h2 hz2 ⊢
 by_cases hl:n1=n2
 rotate_left
 · have hne:((n1:Int) != (n2:Int))=true:=by rw [bne_iff_ne];omega
   have HR:=Lib.hid (show ¬ l1.map (·.1)=l2.map (·.1) from fun e=>hl (by have:=congrArg List.length e;rw [List.length_map,List.length_map] at this;omega))
   clear h1 h2 hn1 hn2
   go_enter Tryz.func14,Tryz.ntmps14
   go_wp2_with fail
   go_ret
   exact ⟨.no HR.out,Below.refl _ _⟩
 subst hl
 have HS1:=Lib.hid h1;have HS2:=Lib.hid h2;have HN1:=Lib.hid hn1;have HN2:=Lib.hid hn2
 clear h1 h2 hn1 hn2 hz2
 go_enter Tryz.func14,Tryz.ntmps14
 go_upto_region 4 with (fail)
 go_loopw [5] (fun iv wr=>∃ (i:Nat),i≤n1∧iv = .int .i64 (i:Int)∧Hid (l1.map (·.1) |>.take i |> (· = (l2.map (·.1)).take i))∧Hid (Below w.heap.size w wr))
  (fun iv _=>n1 - (intOf iv).toNat)
 case atStart=>exact ⟨0,Nat.zero_le _,rfl,Lib.hid rfl,Lib.hid (Below.refl _ _)⟩
 case round =>
  obtain ⟨i,hi,rfl,HT,HB⟩:=hrel
  by_cases hlt:i<n1
  rotate_left
  · have hii:¬ (i:Int)<(n1:Int):=by omega
    have HR:=Lib.hid (show l1.map (·.1)=l2.map (·.1) by
     have h1:=HT.out
     have e1:(l1.map (·.1)).take i=l1.map (·.1):=List.take_of_length_le (by have:=HN1.out;simp only [List.length_map];omega)
     have e2:(l2.map (·.1)).take i=l2.map (·.1):=List.take_of_length_le (by have:=HN2.out;simp only [List.length_map];omega)
     rw [e1,e2] at h1
     exact h1)
    go_wp2_with fail
    go_ret
    exact ⟨.yes HR.out,HB.out⟩
  have hii:(i:Int)<(n1:Int):=by omega
  obtain ⟨⟨a,ka⟩,hka⟩:∃ q,l1[i]? = some q:=⟨_,List.getElem?_eq_getElem (by rw [HN1.out];exact hlt)⟩
  obtain ⟨⟨c,kc⟩,hkc⟩:∃ q,l2[i]? = some q:=⟨_,List.getElem?_eq_getElem (by rw [HN2.out];exact hlt)⟩
  obtain ⟨hsa,pa,oa,rfl,hpa,ca⟩:=HS1.out.cellAt hka
  obtain ⟨hsc,pc,oc,rfl,hpc,cc⟩:=HS2.out.cellAt hkc
  obtain ⟨Aa,ma,hma,hea⟩:∃ Aa ma,a.kids.length≤ma∧ka = .slice Aa a.kids.length ma:=(by obtain ⟨A,c,h1,h2,_⟩:=hsa;exact ⟨A,c,h2,h1⟩)
  obtain ⟨Ac,mc,hmc,hec⟩:∃ Ac mc,c.kids.length≤mc∧kc = .slice Ac c.kids.length mc:=(by obtain ⟨A,cc,h1,h2,_⟩:=hsc;exact ⟨A,cc,h2,h1⟩)
  subst hea;subst hec
  have HKA:=Lib.hid hsa;have HKC:=Lib.hid hsc
  have HA:=Lib.hid (show (l1.map (·.1))[i]? = some a by rw [List.getElem?_map,hka];rfl)
  have HC:=Lib.hid (show (l2.map (·.1))[i]? = some c by rw [List.getElem?_map,hkc];rfl)
  have HNO:=Lib.hid (show ¬ a=c→¬ l1.map (·.1)=l2.map (·.1) from fun hne e=>hne (by have h1:=HA.out;rw [e,HC.out] at h1;exact (Option.some.inj h1).symm))
  have HYES:=Lib.hid (show a=c→(l1.map (·.1)).take (i+1)=(l2.map (·.1)).take (i+1) from fun e=>takeN HT.out HA.out (by rw [e];exact HC.out))
  have hpa':pa<wr.heap.size:=Nat.lt_of_lt_of_le hpa HB.out.size
  have hpc':pc<wr.heap.size:=Nat.lt_of_lt_of_le hpc HB.out.size
  have x0:wr.cell? ⟨pa,oa+i*14,none⟩=some (.int .i64 a.kind):=(HB.out.cell (p:=⟨pa,oa+i*14,none⟩) hpa).trans (ca 0 (by omega))
  have x1:wr.cell? ⟨pa,oa+i*14+1,none⟩=some (.int .i64 a.num):=(HB.out.cell (p:=⟨pa,oa+i*14+1,none⟩) hpa).trans (ca 1 (by omega))
  have x2:wr.cell? ⟨pa,oa+i*14+2,none⟩=some (.string a.text):=(HB.out.cell (p:=⟨pa,oa+i*14+2,none⟩) hpa).trans (ca 2 (by omega))
  have x3:wr.cell? ⟨pa,oa+i*14+3,none⟩=some (.string a.ref.sh):=(HB.out.cell (p:=⟨pa,oa+i*14+3,none⟩) hpa).trans (ca 3 (by omega))
  have x4:wr.cell? ⟨pa,oa+i*14+4,none⟩=some (.int .i64 a.ref.c):=(HB.out.cell (p:=⟨pa,oa+i*14+4,none⟩) hpa).trans (ca 4 (by omega))
  have x5:wr.cell? ⟨pa,oa+i*14+5,none⟩=some (.int .i64 a.ref.r):=(HB.out.cell (p:=⟨pa,oa+i*14+5,none⟩) hpa).trans (ca 5 (by omega))
  have x6:wr.cell? ⟨pa,oa+i*14+6,none⟩=some (.bool a.ref.ac):=(HB.out.cell (p:=⟨pa,oa+i*14+6,none⟩) hpa).trans (ca 6 (by omega))
  have x7:wr.cell? ⟨pa,oa+i*14+7,none⟩=some (.bool a.ref.ar):=(HB.out.cell (p:=⟨pa,oa+i*14+7,none⟩) hpa).trans (ca 7 (by omega))
  have x8:wr.cell? ⟨pa,oa+i*14+8,none⟩=some (.string a.to.sh):=(HB.out.cell (p:=⟨pa,oa+i*14+8,none⟩) hpa).trans (ca 8 (by omega))
  have x9:wr.cell? ⟨pa,oa+i*14+9,none⟩=some (.int .i64 a.to.c):=(HB.out.cell (p:=⟨pa,oa+i*14+9,none⟩) hpa).trans (ca 9 (by omega))
  have x10:wr.cell? ⟨pa,oa+i*14+10,none⟩=some (.int .i64 a.to.r):=(HB.out.cell (p:=⟨pa,oa+i*14+10,none⟩) hpa).trans (ca 10 (by omega))
  have x11:wr.cell? ⟨pa,oa+i*14+11,none⟩=some (.bool a.to.ac):=(HB.out.cell (p:=⟨pa,oa+i*14+11,none⟩) hpa).trans (ca 11 (by omega))
  have x12:wr.cell? ⟨pa,oa+i*14+12,none⟩=some (.bool a.to.ar):=(HB.out.cell (p:=⟨pa,oa+i*14+12,none⟩) hpa).trans (ca 12 (by omega))
  have x13:wr.cell? ⟨pa,oa+i*14+13,none⟩=some (.slice Aa a.kids.length ma):=(HB.out.cell (p:=⟨pa,oa+i*14+13,none⟩) hpa).trans (ca 13 (by omega))
  have y0:wr.cell? ⟨pc,oc+i*14,none⟩=some (.int .i64 c.kind):=(HB.out.cell (p:=⟨pc,oc+i*14,none⟩) hpc).trans (cc 0 (by omega))
  have y1:wr.cell? ⟨pc,oc+i*14+1,none⟩=some (.int .i64 c.num):=(HB.out.cell (p:=⟨pc,oc+i*14+1,none⟩) hpc).trans (cc 1 (by omega))
  have y2:wr.cell? ⟨pc,oc+i*14+2,none⟩=some (.string c.text):=(HB.out.cell (p:=⟨pc,oc+i*14+2,none⟩) hpc).trans (cc 2 (by omega))
  have y3:wr.cell? ⟨pc,oc+i*14+3,none⟩=some (.string c.ref.sh):=(HB.out.cell (p:=⟨pc,oc+i*14+3,none⟩) hpc).trans (cc 3 (by omega))
  have y4:wr.cell? ⟨pc,oc+i*14+4,none⟩=some (.int .i64 c.ref.c):=(HB.out.cell (p:=⟨pc,oc+i*14+4,none⟩) hpc).trans (cc 4 (by omega))
  have y5:wr.cell? ⟨pc,oc+i*14+5,none⟩=some (.int .i64 c.ref.r):=(HB.out.cell (p:=⟨pc,oc+i*14+5,none⟩) hpc).trans (cc 5 (by omega))
  have y6:wr.cell? ⟨pc,oc+i*14+6,none⟩=some (.bool c.ref.ac):=(HB.out.cell (p:=⟨pc,oc+i*14+6,none⟩) hpc).trans (cc 6 (by omega))
  have y7:wr.cell? ⟨pc,oc+i*14+7,none⟩=some (.bool c.ref.ar):=(HB.out.cell (p:=⟨pc,oc+i*14+7,none⟩) hpc).trans (cc 7 (by omega))
  have y8:wr.cell? ⟨pc,oc+i*14+8,none⟩=some (.string c.to.sh):=(HB.out.cell (p:=⟨pc,oc+i*14+8,none⟩) hpc).trans (cc 8 (by omega))
  have y9:wr.cell? ⟨pc,oc+i*14+9,none⟩=some (.int .i64 c.to.c):=(HB.out.cell (p:=⟨pc,oc+i*14+9,none⟩) hpc).trans (cc 9 (by omega))
  have y10:wr.cell? ⟨pc,oc+i*14+10,none⟩=some (.int .i64 c.to.r):=(HB.out.cell (p:=⟨pc,oc+i*14+10,none⟩) hpc).trans (cc 10 (by omega))
  have y11:wr.cell? ⟨pc,oc+i*14+11,none⟩=some (.bool c.to.ac):=(HB.out.cell (p:=⟨pc,oc+i*14+11,none⟩) hpc).trans (cc 11 (by omega))
  have y12:wr.cell? ⟨pc,oc+i*14+12,none⟩=some (.bool c.to.ar):=(HB.out.cell (p:=⟨pc,oc+i*14+12,none⟩) hpc).trans (cc 12 (by omega))
  have y13:wr.cell? ⟨pc,oc+i*14+13,none⟩=some (.slice Ac c.kids.length mc):=(HB.out.cell (p:=⟨pc,oc+i*14+13,none⟩) hpc).trans (cc 13 (by omega))
  clear ca cc hka hkc hsa hsc hma hmc
  go_upto_region 6 with (fail)
  go_cut [6,7] from 13 to 67 (fun t6 t7 wx=>∃ p q,t6 = .pointer (some ⟨p,0,none⟩)∧t7 = .pointer (some ⟨q,0,none⟩)∧NdAt wx p a (.slice Aa a.kids.length ma)∧NdAt wx q c (.slice Ac c.kids.length mc)∧Below wr.heap.size wr wx)
  case first =>
   go_region_held3 (fun w'=>w'.cell? ⟨pa,oa+i*14,none⟩=some (.int .i64 a.kind)∧w'.cell? ⟨pa,oa+i*14+1,none⟩=some (.int .i64 a.num)∧w'.cell? ⟨pa,oa+i*14+2,none⟩=some (.string a.text)∧w'.cell? ⟨pa,oa+i*14+3,none⟩=some (.string a.ref.sh)∧w'.cell? ⟨pa,oa+i*14+4,none⟩=some (.int .i64 a.ref.c)∧w'.cell? ⟨pa,oa+i*14+5,none⟩=some (.int .i64 a.ref.r)∧w'.cell? ⟨pa,oa+i*14+6,none⟩=some (.bool a.ref.ac)∧w'.cell? ⟨pa,oa+i*14+7,none⟩=some (.bool a.ref.ar)∧w'.cell? ⟨pa,oa+i*14+8,none⟩=some (.string a.to.sh)∧w'.cell? ⟨pa,oa+i*14+9,none⟩=some (.int .i64 a.to.c)∧w'.cell? ⟨pa,oa+i*14+10,none⟩=some (.int .i64 a.to.r)∧w'.cell? ⟨pa,oa+i*14+11,none⟩=some (.bool a.to.ac)∧w'.cell? ⟨pa,oa+i*14+12,none⟩=some (.bool a.to.ar)∧w'.cell? ⟨pa,oa+i*14+13,none⟩=some (.slice Aa a.kids.length ma)∧w'.cell? ⟨pc,oc+i*14,none⟩=some (.int .i64 c.kind)∧w'.cell? ⟨pc,oc+i*14+1,none⟩=some (.int .i64 c.num)∧w'.cell? ⟨pc,oc+i*14+2,none⟩=some (.string c.text)∧w'.cell? ⟨pc,oc+i*14+3,none⟩=some (.string c.ref.sh)∧w'.cell? ⟨pc,oc+i*14+4,none⟩=some (.int .i64 c.ref.c)∧w'.cell? ⟨pc,oc+i*14+5,none⟩=some (.int .i64 c.ref.r)∧w'.cell? ⟨pc,oc+i*14+6,none⟩=some (.bool c.ref.ac)∧w'.cell? ⟨pc,oc+i*14+7,none⟩=some (.bool c.ref.ar)∧w'.cell? ⟨pc,oc+i*14+8,none⟩=some (.string c.to.sh)∧w'.cell? ⟨pc,oc+i*14+9,none⟩=some (.int .i64 c.to.c)∧w'.cell? ⟨pc,oc+i*14+10,none⟩=some (.int .i64 c.to.r)∧w'.cell? ⟨pc,oc+i*14+11,none⟩=some (.bool c.to.ac)∧w'.cell? ⟨pc,oc+i*14+12,none⟩=some (.bool c.to.ar)∧w'.cell? ⟨pc,oc+i*14+13,none⟩=some (.slice Ac c.kids.length mc)) (go_keep) (fail)
   all_goals go_wp2_with fail
   all_goals go_meet
   all_goals first
    | exact ⟨_,_,rfl,rfl,(two_nd wr a c _ _).1,(two_nd wr a c _ _).2.1,(two_nd wr a c _ _).2.2⟩
    | exact ⟨_,_,rfl,rfl,(two_nd wr c a _ _).2.1,(two_nd wr c a _ _).1,(two_nd wr c a _ _).2.2⟩
  case rest =>
   obtain ⟨p,q,rfl,rfl,hna,hnc,hb⟩:=hcut
   have HB3:=Lib.hid (HB.out.trans (hb.mono HB.out.size))
   have HIN:=Lib.hid (refInts_any wc w.heap.size _ _ _ _ (HKA.out.below HB3.out (Nat.le_refl _)) (HKC.out.below HB3.out (Nat.le_refl _)))
   obtain ⟨p0,p1,p2,p3,p4,p5,p6,p7,p8,p9,p10,p11,p12,p13⟩:=hna.cells
   obtain ⟨q0,q1,q2,q3,q4,q5,q6,q7,q8,q9,q10,q11,q12,q13⟩:=hnc.cells
   clear x0 x1 x2 x3 x4 x5 x6 x7 x8 x9 x10 x11 x12 x13 y0 y1 y2 y3 y4 y5 y6 y7 y8 y9 y10 y11 y12 y13 hpa' hpc' hna hnc hb
   by_cases hk:a.kids=c.kids
   · rw [decide_eq_true hk] at HIN
     have HK:=Lib.hid hk
     clear hk
     go_wp2_with (go_at_call 40;((with_reducible refine HIN.out.mono ?_);rintro e w4 ⟨rfl,h1⟩;have HB4:=Lib.hid (HB3.out.trans (h1.mono HB3.out.size));clear h1))
     any_goals (go_ret;exact ⟨.no (HNO.out fun e=>by rename_i h;exact h (by rw [e])),HB3.out⟩)
     rename_i h0 h1 h2 h3 h4 h5 h6 h7 h8 h9 h10 h11 h12
     have HY:=Lib.hid (HYES.out (nd_eq h0 h1 h2 h3 h4 h5 h6 h7 h8 h9 h10 h11 h12 HK.out))
     clear h0 h1 h2 h3 h4 h5 h6 h7 h8 h9 h10 h11 h12
     go_roundw
     case rel=>exact ⟨i+1,by omega,by go_num,HY,HB4⟩
     case measure=>simp [intOf];omega
   · rw [decide_eq_false hk] at HIN
     have HR:=Lib.hid (HNO.out fun e=>hk (by rw [e]))
     clear hk
     go_wp2_with (go_at_call 40;((with_reducible refine HIN.out.mono ?_);rintro e w4 ⟨rfl,h1⟩;have HB4:=Lib.hid (HB3.out.trans (h1.mono HB3.out.size));clear h1))
     all_goals go_ret
     all_goals first | exact ⟨.no HR.out,HB3.out⟩ | exact ⟨.no HR.out,HB4.out⟩
theorem SN.fq {w w':World} {b:Nat} {v:Value} {vs:List (Nd × Value)} (h:SN w b v vs) (hf:Fq w w' b) (hw:b<w.heap.size):SN w' b v vs:=by
 obtain ⟨⟨A,cap,h1,h2⟩,h3⟩:=h
 refine ⟨⟨A,cap,h1,h2.imp id ?_⟩,fun p hp=>(h3 p hp).fq hf (Nat.le_refl _) hw⟩
 rintro ⟨pb,po,e1,e2,e3⟩
 exact ⟨pb,po,e1,e2,fun i n k hi j hj=>(World.cell?_of_block (a:=⟨pb,po+i*14+j,none⟩) (hf.block pb (by omega) (by omega) (.inl e2))).trans (e3 i n k hi j hj)⟩
theorem SN.lift {w w':World} {B C:Nat} {v:Value} {vs:List (Nd × Value)} (h:SN w B v vs) (hb:Below B w w') (hC:B≤C):SN w' C v vs:=by
 obtain ⟨⟨A,cap,h1,h2⟩,h3⟩:=h
 refine ⟨⟨A,cap,h1,h2.imp id ?_⟩,fun p hp => ?_⟩
 · rintro ⟨pb,po,e1,e2,e3⟩
   exact ⟨pb,po,e1,by omega,fun i n k hi j hj=>(hb.cell (p:=⟨pb,po+i*14+j,none⟩) e2).trans (e3 i n k hi j hj)⟩
 · obtain ⟨A2,c2,g1,g2,g3,g4⟩:=h3 p hp
   refine ⟨A2,c2,g1,g2,g3,g4.imp id ?_⟩
   rintro ⟨pb,po,e1,e2,e3⟩
   exact ⟨pb,po,e1,by omega,fun j x hj=>(hb.cell (p:=⟨pb,po+j,none⟩) e2).trans (e3 j x hj)⟩
def slen (o:Option Value):Nat:=match o with | some (.slice _ n _)=>n | _=>0
theorem slen_own {α : Type} {size:Nat} {E:Enc α size} {e:TypeId} {w:World} {base:Nat} {v:Value} {xs:List α} (h:Own E e w base v xs):slen (some v)=xs.length:=by
 rcases h.shape with ⟨rfl,rfl⟩ | ⟨g,cap,rfl, -⟩
 · rfl
 · rfl
def wm (b L:Nat) (w:World):Nat:=2*(L - slen (w.cell? ⟨b,3,none⟩)) - slen (w.cell? ⟨b,1,none⟩)
theorem WQ.wm {w:World} {b:Nat} {nv:Value} {st:List Pt} {txt:List Int} (h:WQ w b nv st txt) (L:Nat):wm b L w=2*(L - txt.length) - st.length:=by
 obtain ⟨wv,⟨ad,bv,h1,_,h3,_⟩,h4⟩:=h
 obtain ⟨-,c1, -,c3⟩:=h1.facts
 unfold Go.Proofs.YtecpbligblnonaaGreatDoor.wm
 rw [c1,c3,slen_own h4,slen_own h3]
theorem WQ.wait {w:World} {b:Nat} {nv:Value} {st:List Pt} {txt:List Int} (h:WQ w b nv st txt):∃ A c,w.cell? ⟨b,1,none⟩=some (.slice A st.length c):=by
 obtain ⟨wv,⟨ad,bv,h1, -⟩,h4⟩:=h
 have c1:=h1.facts.2.1
 rcases h4.shape with ⟨rfl,rfl⟩ | ⟨g,cap,rfl, -⟩
 · exact ⟨_,_,c1⟩
 · exact ⟨_,_,c1⟩
set_option maxRecDepth 100000 in
set_option maxHeartbeats 4000000 in
theorem print_not (w:World) (v:Value) (vs:List (Nd × Value)) (hv:Vars w) (h:SN w w.heap.size v vs) (hz:SZ vs) (ht:¬ treeB (vs.map (·.1))=true) :
 Calls Tryz.prog 9 #[v] w fun e w'=>e = .returned (.string (strOfNums (printL (vs.map (·.1)))))∧Below w.heap.size w w':=by
 have hT:=ptree_any w v vs hv h hz
 rw [show treeB (vs.map (·.1))=false from by cases hq:treeB (vs.map (·.1)) with | false=>rfl | true=>exact absurd hq ht] at hT
 have HT:=Lib.hid hT
 have HP:=Lib.hid (show printL (vs.map (·.1))=[] from by unfold printL;rw [if_neg ht])
 clear hT hv h hz ht
 go_enter Tryz.func9,Tryz.ntmps9
 go_wp2_with (go_at_call 29;((with_reducible refine HT.out.mono ?_);rintro e w1 ⟨rfl,h1⟩;have H1:=Lib.hid h1;clear h1))
 go_ret
 exact ⟨by rw [HP.out] <;> rfl,H1.out⟩
set_option maxRecDepth 100000 in
set_option maxHeartbeats 8000000 in
theorem print_tree (w:World) (v:Value) (vs:List (Nd × Value)) (hv:Vars w) (htab:Tab w) (hmax:MaxV w) (hsh:ShV w) (h:SN w w.heap.size v vs) (hz:SZ vs) (hnum:∀ q∈vs,q.1.num≤9223372036854775807) (hlen:(printL (vs.map (·.1))).length≤1000000000) (ht:treeB (vs.map (·.1))=true) :
 Calls Tryz.prog 9 #[v] w fun e w'=>e = .returned (.string (strOfNums (printL (vs.map (·.1)))))∧Below w.heap.size w w':=by
 have hT:=ptree_any w v vs hv h hz
 rw [ht] at hT
 have HT:=Lib.hid hT
 obtain ⟨l,hl⟩:∃ l,vs.map (·.1)=l:=⟨_,rfl⟩
 have hpos:0<vs.length:=by
  rcases Nat.eq_zero_or_pos vs.length with e | e
  · rw [List.length_eq_zero_iff.1 e] at ht;exact absurd ht (by decide)
  · exact e
 have hlv:l.length=vs.length:=by rw [← hl,List.length_map]
 obtain ⟨L,hL⟩:∃ L,(printL l).length=L:=⟨_,rfl⟩
 rw [hl,hL] at hlen
 have hpl:printL l=shN l ((l.length:Int) - 1):=by unfold printL shN;rw [if_pos (hl ▸ ht)]
 have hp0:ptL l (Pt.op ((l.length:Int) - 1) 1)=printL l:=by rw [ptL_op,inL_any,hpl]
 have hok0:PtOk l (Pt.op ((l.length:Int) - 1) 1):=PtOk.op (by omega) (by omega) 1
 rw [hlv] at hp0 hok0
 obtain ⟨N,hN⟩:∃ N,vs.length=N:=⟨_,rfl⟩
 have hN9:N≤1000:=by rw [← hN];exact hz.1
 rw [hN] at hp0 hok0 hpos
 have hw1:wrap64 ((N:Int) - 1)=(N:Int) - 1:=by unfold wrap64;omega
 obtain ⟨A,cap,hva⟩:=h.lenle
 rw [hN] at hva
 subst hva
 have HSN:=Lib.hid h;have HZ:=Lib.hid hz;have HNUM:=Lib.hid hnum;have HTR:=Lib.hid ht
 have HL:=Lib.hid hl;have HLL:=Lib.hid hL;have HP0:=Lib.hid hp0;have HOK0:=Lib.hid hok0
 have HG0:=Lib.hid (show Tab w∧MaxV w∧ShV w from ⟨htab,hmax,hsh⟩)
 rw [hl]
 clear hT hv htab hmax hsh h hz hnum ht hl hL hpl hp0 hok0 hlv hN
 go_enter Tryz.func9,Tryz.ntmps9
 go_upto_region 3 with (go_at_call 29;((with_reducible refine HT.out.mono ?_);rintro e w1 ⟨rfl,h1⟩;have H1:=Lib.hid h1;clear h1))
 go_upto_region 4 with (fail)
 have hwr:WrAt (w1.alloc (.cells #[.slice A N cap,.slice none 0 0,.pointer none,.slice none 0 0] 69)) w1.heap.size (.slice A N cap) (.slice none 0 0) (.pointer none) (.slice none 0 0):=(Go.MapKept.heap_alloc w1 _).1
 have hB2:Below w1.heap.size w1 (w1.alloc (.cells #[.slice A N cap,.slice none 0 0,.pointer none,.slice none 0 0] 69)):=(Below.refl _ _).alloc (Nat.le_refl _) _
 obtain ⟨b,hb⟩:∃ b,w1.heap.size=b:=⟨_,rfl⟩
 obtain ⟨w2,hw2⟩:∃ w2,w1.alloc (.cells #[.slice A N cap,.slice none 0 0,.pointer none,.slice none 0 0] 69)=w2:=⟨_,rfl⟩
 have hwb:w.heap.size≤b:=by rw [← hb];exact H1.out.size
 have HB02:=Lib.hid (H1.out.trans (hB2.mono H1.out.size))
 rw [hw2] at hwr HB02 ⊢
 rw [hb] at hwr ⊢
 have hbl:b<w2.heap.size:=hwr.lt
 have HQ2:=Lib.hid (show WQ w2 b (.slice A N cap) [] [] from ⟨_,⟨_,_,hwr,.inl rfl,Own.nil _ _ _ _,fun x hx=>absurd hx (by simp)⟩,Own.nil _ _ _ _⟩)
 have HG2:=Lib.hid (show Gl w w2 b from ⟨hwb,HB02.out,HG0.out⟩)
 have HSN2:=Lib.hid (HSN.out.lift HB02.out hwb)
 have HPU:=Lib.hid (fun (wr:World) (hr:Below w2.heap.size w2 wr)=>push_lit wr b (.slice A N cap) [] [Pt.op ((N:Int) - 1) 1] [] #[.string ⟨#[]⟩,.int .i64 ((N:Int) - 1),.int .i64 1] 1 rfl rfl (HQ2.out.below hr) (by show 1≤1000000;decide) (Nat.zero_le _))
 clear hw2 hb hwr hB2 HT
 go_upto_region 5 with (first
  | (go_at_call 31;((with_reducible refine (op_lit _ _ _).mono ?_);rintro e w3 ⟨rfl,h3⟩;have HB3:=Lib.hid h3;clear h3))
  | (go_at_call 30;((with_reducible refine (HPU.out _ HB3.out).mono ?_);rintro e w4 ⟨rfl,h3,h4⟩;have HQ4:=Lib.hid h3;have HF4:=Lib.hid ((Fq.ofBelow HB3.out).trans h4);clear h3 h4)))
 go_loopw [] (fun wr=>∃ (st:List Pt) (txt:List Int),Hid (WQ wr b (.slice A N cap) st txt)∧Hid (Fq w2 wr b)∧Hid (∀ p∈st,PtOk l p)∧Hid (txt++st.reverse.flatMap (ptL l)=printL l))
  (fun wr=>wm b L wr)
 case atStart=>exact ⟨[Pt.op ((N:Int) - 1) 1],[],HQ4,HF4,Lib.hid (fun p hp=>by rw [List.mem_singleton.1 hp];exact HOK0.out),Lib.hid (by show ptL l (Pt.op ((N:Int) - 1) 1)++[]=_;rw [List.append_nil];exact HP0.out)⟩
 case round =>
  obtain ⟨st,txt,HQ,HF,HOK,HE⟩:=hrel
  rcases List.eq_nil_or_concat st with rfl | ⟨st',p,rfl⟩
  · obtain ⟨Aw,cw,c1⟩:=HQ.out.wait
    rw [List.length_nil] at c1
    have HTX:=Lib.hid (show txt=printL l from by have h:=HE.out;rw [List.reverse_nil,List.flatMap_nil,List.append_nil] at h;exact h)
    obtain ⟨wv,hws, -⟩:=HQ.out
    have HSTR:=Lib.hid (string_any wr b (.slice A N cap) wv txt hws (by rw [HTX.out];exact HL.out ▸ tree_ne HTR.out (fun n hn=>by obtain ⟨q,hq,rfl⟩:=List.mem_map.1 hn;exact HNUM.out q hq)))
    clear hws
    go_wp2_with (go_at_call 34;((with_reducible refine HSTR.out.mono ?_);rintro e w5 ⟨rfl,h3⟩;have H5:=Lib.hid h3;clear h3))
    go_ret
    refine ⟨by rw [HTX.out] <;> rfl, ?_⟩
    have hg:=((HG2.out.fq HF.out)).2.1
    exact hg.trans ((H5.out.mono (by omega)))
  · rw [List.concat_eq_append] at HQ HOK HE
    obtain ⟨Aw,cw,c1⟩:=HQ.out.wait
    rw [List.length_append,List.length_singleton] at c1
    obtain ⟨M,hM⟩:∃ M:Nat,st'.length+1=M:=⟨_,rfl⟩
    have hM0:(0:Int)<(M:Int):=by omega
    rw [hM] at c1
    have htr:treeB l=true:=by rw [← HL.out];exact HTR.out
    have hpk:PtOk l p:=HOK.out p (by simp)
    have hE:=HE.out
    rw [List.reverse_append,List.reverse_singleton,List.singleton_append,List.flatMap_cons] at hE
    have hE2:=congrArg List.length hE
    rw [List.length_append,List.length_append,HLL.out] at hE2
    have hfl:=flat_len htr st'.reverse (fun q hq=>HOK.out q (List.mem_append_left _ (List.mem_reverse.1 hq)))
    rw [List.length_reverse] at hfl
    have hSL:=stepP_L htr p hpk
    have hSL2:=congrArg List.length hSL
    rw [List.length_append] at hSL2
    have hSF:=flat_len htr _ (stepP_ok htr p hpk)
    have hSM:=stepP_less htr p hpk
    have HPOP:=Lib.hid (pop_any wr b (.slice A N cap) st' p txt HQ.out (by omega))
    have HWR:=Lib.hid (fun (w5:World) (h5:WQ w5 b (.slice A N cap) st' txt) (hf:Fb wr w5 b)=>writeP_any w w5 b (.slice A N cap) vs st' txt p (HG2.out.fq (HF.out.trans (Fq.ofB hf))) h5 (HSN2.out.fq (HF.out.trans (Fq.ofB hf)) hbl) HZ.out (by rw [HL.out];exact htr) HNUM.out (by rw [HL.out];exact hpk) (by rw [HL.out];omega) (by rw [HL.out];omega))
    rw [HL.out] at HWR
    have HQN:=Lib.hid (fun (w6:World) (hq:WQ w6 b (.slice A N cap) (st'++(stepP l p).2.reverse) (txt++(stepP l p).1))=>show wm b L w6<wm b L wr from by
     rw [hq.wm,HQ.out.wm,List.length_append,List.length_append,List.length_append,List.length_reverse,List.length_singleton];omega)
    have HEN:=Lib.hid (show (txt++(stepP l p).1)++(st'++(stepP l p).2.reverse).reverse.flatMap (ptL l)=printL l from by
     rw [List.reverse_append,List.reverse_reverse,List.flatMap_append,List.append_assoc txt, ← List.append_assoc (stepP l p).1, ← hSL];exact hE)
    have HON:=Lib.hid (show ∀ q∈st'++(stepP l p).2.reverse,PtOk l q from fun q hq=>by
     rcases List.mem_append.1 hq with hq | hq
     · exact HOK.out q (List.mem_append_left _ hq)
     · exact stepP_ok htr p hpk q (List.mem_reverse.1 hq))
    clear hE hE2 hfl hSL hSL2 hSF hSM hM
    go_wp2_with (first
     | (go_at_call 33;((with_reducible refine HPOP.out.mono ?_);rintro e w5 ⟨rfl,h3,h4⟩;have HQ5:=Lib.hid h3;have HF5:=Lib.hid h4;clear h3 h4))
     | (go_at_call 32;((with_reducible refine (HWR.out _ HQ5.out HF5.out).mono ?_);rintro e w6 ⟨rfl,h3,h4⟩;have HQ6:=Lib.hid h3;have HF6:=Lib.hid h4;clear h3 h4)))
    go_roundw
    case rel=>exact ⟨_,_,HQ6,Lib.hid (HF.out.trans ((Fq.ofB HF5.out).trans HF6.out)),HON,HEN⟩
    case measure=>exact HQN.out _ HQ6.out
theorem print_any (w:World) (v:Value) (vs:List (Nd × Value)) (hv:Vars w) (htab:Tab w) (hmax:MaxV w) (hsh:ShV w) (h:SN w w.heap.size v vs) (hz:SZ vs) (hnum:∀ q∈vs,q.1.num≤9223372036854775807) (hlen:(printL (vs.map (·.1))).length≤1000000000) :
 Calls Tryz.prog 9 #[v] w fun e w'=>e = .returned (.string (strOfNums (printL (vs.map (·.1)))))∧Below w.heap.size w w':=by
 by_cases ht:treeB (vs.map (·.1))=true
 · exact print_tree w v vs hv htab hmax hsh h hz hnum hlen ht
 · exact print_not w v vs hv h hz ht
structure Sx (w:World):Prop where
 vars:Vars w
 ops:OpV w
 tab:Tab w
 max:MaxV w
 sh:ShV w
theorem Sx.below {w w':World} (h:Sx w) (hb:Below w.heap.size w w'):Sx w':=⟨h.vars.below hb,h.ops.below hb,h.tab.below hb,h.max.below hb,h.sh.below hb⟩
theorem Sx.print {w:World} (h:Sx w) (v:Value) (vs:List (Nd × Value)) (hs:SN w w.heap.size v vs) (hz:SZ vs) (hnum:∀ q∈vs,q.1.num≤9223372036854775807) (hlen:(printL (vs.map (·.1))).length≤1000000000) :
 Calls Tryz.prog 9 #[v] w fun e w'=>e = .returned (.string (strOfNums (printL (vs.map (·.1)))))∧Below w.heap.size w w':=print_any w v vs h.vars h.tab h.max h.sh hs hz hnum hlen
def okN (n:Nd):Bool:=decide (n.text.size≤1000000)&&(decide (n.ref.sh.size≤1000000)&&(decide (n.to.sh.size≤1000000)&&decide (n.num≤9223372036854775807)))
def showB (l out:List Int) (k:Nat):Bool:=match lexL l with
 | none=>false
 | some ts=>match parseP 200 ts with
   | some (.ok ns)=>decide (printL ns=out)&&(decide (ns.length=k)&&ns.all okN)
   | _=>false
theorem show_ex:showB [40,32,49,43,32,50,41,32,42,51] [40,49,43,50,41,42,51] 5=true:=by decide +kernel
theorem show_PIs (s:ByteArray) (h:s.size≤300) {out:List Int} {k:Nat} (hs:showB (sb s) out k=true):∃ ns,PIs s (.ok ns)∧printL ns=out∧ns.length=k∧∀ n∈ns,okN n=true:=by
 unfold showB at hs
 split at hs
 · cases hs
 · rename_i ts hl
   split at hs
   · rename_i ns hp
     rw [Bool.and_eq_true,Bool.and_eq_true,decide_eq_true_iff,decide_eq_true_iff,List.all_eq_true] at hs
     exact ⟨ns,.inr (.inr ⟨h,ts,200,hl,hp⟩),hs.1,hs.2.1,hs.2.2⟩
   · cases hs
theorem okN_spec {n:Nd} (h:okN n=true):(n.text.size≤1000000∧n.ref.sh.size≤1000000∧n.to.sh.size≤1000000)∧n.num≤9223372036854775807:=by
 unfold okN at h
 rw [Bool.and_eq_true,Bool.and_eq_true,Bool.and_eq_true,decide_eq_true_iff,decide_eq_true_iff,decide_eq_true_iff,decide_eq_true_iff] at h
 exact ⟨⟨h.1,h.2.1,h.2.2.1⟩,h.2.2.2⟩
theorem Sx.printV {w:World} (h:Sx w) {lo g n cap:Nat} {vs:List Nv} (hn:NodV w lo (.slice (some ⟨g,0,none⟩) n cap) vs) (hl:vs.length=n) (hn1:n≤1000) (hok:∀ v∈vs,(v.n.text.size≤1000000∧v.n.ref.sh.size≤1000000∧v.n.to.sh.size≤1000000)∧v.n.num≤9223372036854775807) (hlen:(printL (vs.map Nv.n)).length≤1000000000) :
 Calls Tryz.prog 9 #[.slice (some ⟨g,0,none⟩) n cap] w fun e w'=>e = .returned (.string (strOfNums (printL (vs.map Nv.n))))∧Below w.heap.size w w':=by
 have:=h.print _ _ (hn.sn hl) ⟨by rw [List.length_map];omega,fun p hp=>by obtain ⟨v,hv,rfl⟩:=List.mem_map.1 hp;exact (hok v hv).1⟩ (fun p hp=>by obtain ⟨v,hv,rfl⟩:=List.mem_map.1 hp;exact (hok v hv).2) (by rw [sn_fst];exact hlen)
 rwa [sn_fst] at this
set_option maxRecDepth 100000 in
set_option maxHeartbeats 400000 in
theorem awake6_any (w:World) (h:Sx w):Calls Tryz.prog 13 #[] w fun e w'=>e = .returned (.bool true)∧Below w.heap.size w w':=by
 obtain ⟨ns,hp,h1,h2,h3⟩:=show_PIs ⟨#[40,32,49,43,32,50,41,32,42,51]⟩ (by decide) (by rw [show sb ⟨#[40,32,49,43,32,50,41,32,42,51]⟩=[40,32,49,43,32,50,41,32,42,51] by decide];exact show_ex)
 have HX:=Lib.hid (parse_ok _ w h.vars h.ops ns hp (by omega))
 have HP:=Lib.hid (fun (w1:World) (hb:Below w.heap.size w w1) (g cap:Nat) (vs:List Nv) (hvn:vs.map Nv.n=ns) (hvl:vs.length=ns.length) (hnv:NodV w1 w.heap.size (.slice (some ⟨g,0,none⟩) ns.length cap) vs)=>(show Calls Tryz.prog 9 #[.slice (some ⟨g,0,none⟩) ns.length cap] w1 fun e w'=>e = .returned (.string ⟨#[40,49,43,50,41,42,51]⟩)∧Below w1.heap.size w1 w' from by
  have:=(h.below hb).printV hnv hvl (by omega) (fun v hv=>okN_spec (h3 _ (hvn ▸ List.mem_map.2 ⟨v,hv,rfl⟩))) (by rw [hvn,h1];decide)
  rw [hvn,h1] at this
  rwa [show strOfNums [40,49,43,50,41,42,51]=⟨#[40,49,43,50,41,42,51]⟩ by decide] at this))
 clear hp h1 h2 h3 h
 go_enter Tryz.func13,Tryz.ntmps13
 go_wp2_with (first
  | (go_at_call 11;((with_reducible refine HX.out.mono ?_);rintro e w1 ⟨hb,g,cap,vs,rfl,hvn,hvl,hnv,ht⟩;have HB:=Lib.hid hb;have HC:=Lib.hid (HP.out w1 hb g cap vs hvn hvl hnv);clear hb hvn hvl hnv ht))
  | (go_at_call 9;((with_reducible refine HC.out.mono ?_);rintro e w2 ⟨rfl,h3⟩;have HB2:=Lib.hid (HB.out.trans (h3.mono HB.out.size));clear h3)))
 go_ret
 exact ⟨rfl,HB2.out⟩
theorem tokT_num (l:List Int) (t:Tk) (n:Nat) (h:tokT l=some (t,n)):t.num≤9223372036854775807:=by
 cases l with
 | nil=>simp [tokT] at h
 | cons x l =>
   rw [tokT_cons] at h
   split at h
   · unfold numT at h
     split at h
     · cases h
     · simp only [Option.some.injEq,Prod.mk.injEq] at h
       rw [← h.1]
       show valL _≤_
       omega
   split at h
   · unfold quoT at h
     cases hq:quoF l with
     | none=>rw [hq] at h;cases h
     | some q =>
       rw [hq] at h
       simp only [Option.map_some,Option.some.injEq,Prod.mk.injEq] at h
       rw [← h.1];show (0:Int)≤_;omega
   split at h
   · unfold deadT at h
     split at h
     · simp only [Option.some.injEq,Prod.mk.injEq] at h
       rw [← h.1];show (0:Int)≤_;omega
     · cases h
   split at h
   · unfold wordT at h
     split at h
     · simp only [Option.some.injEq,Prod.mk.injEq] at h
       rw [← h.1];show (0:Int)≤_;omega
     · split at h
       · simp only [Option.some.injEq,Prod.mk.injEq] at h
         rw [← h.1];show (0:Int)≤_;omega
       · cases h
   · unfold signT at h
     split at h
     · cases h
     · simp only [Option.some.injEq,Prod.mk.injEq] at h
       rw [← h.1];show (0:Int)≤_;omega
theorem Tok.num {t:Tk} (h:Tok t):t.num≤9223372036854775807:=by
 have:=tokT_num _ _ _ h.2.1
 exact this
theorem Tok.pos {t:Tk} (h:Tok t):1≤(txK t).length:=(tokT_le _ _ _ h.2.1).1
theorem wr_mem {n rk d:Nat} {ts:List Tk} {d':Nat} {ts':List Tk} (h:Wr n rk d ts d' ts'):ts.length≤ts'.length∧∀ t∈ts,t∈ts':=by
 rcases h with ⟨_,rfl,_⟩ | ⟨_,_,l,r,_,_,rfl⟩
 · exact ⟨Nat.le_refl _,fun _ h=>h⟩
 · exact ⟨by simp;omega,fun t ht=>by simp [ht]⟩
theorem sh_few {m:Bool} {base:Nat} {ns:List Nd} {ks:List Int} {ts:List Tk} {rk d:Nat} (h:Sh m base ns ks ts rk d):(∀ t∈ts,t.num≤9223372036854775807)→ns.length≤ts.length∧∀ n∈ns,n.num≤9223372036854775807:=by
 induction h with
 | leaf base ts nd h =>
   intro ht
   refine ⟨by cases h <;> simp,fun n hn => ?_⟩
   rw [List.mem_singleton.1 hn]
   cases h with
   | num t h=>exact ht t (by simp)
   | yes t h g=>show (1:Int)≤_;omega
   | _=>show (0:Int)≤_;omega
 | neg base ns a ts rk d h m hm d' ts' hw ih =>
   intro ht
   obtain ⟨w1,w2⟩:=wr_mem hw
   obtain ⟨g1,g2⟩:=ih fun t h=>ht t (List.mem_cons_of_mem _ (w2 t h))
   refine ⟨by simp only [List.length_append,List.length_cons,List.length_nil];omega,fun n hn => ?_⟩
   rcases List.mem_append.1 hn with hn | hn
   · exact g2 n hn
   · rw [List.mem_singleton.1 hn];show (0:Int)≤_;omega
 | op base o ho ns ms a b ts us rk1 rk2 d1 d2 h g s hs e1 e2 ts' us' hw gw ih ig =>
   intro ht
   obtain ⟨w1,w2⟩:=wr_mem hw
   obtain ⟨x1,x2⟩:=wr_mem gw
   obtain ⟨g1,g2⟩:=ih fun t h=>ht t (List.mem_append_left _ (w2 t h))
   obtain ⟨y1,y2⟩:=ig fun t h=>ht t (List.mem_append_right _ (List.mem_cons_of_mem _ (x2 t h)))
   refine ⟨by simp only [List.length_append,List.length_cons,List.length_nil];omega,fun n hn => ?_⟩
   rcases List.mem_append.1 hn with hn | hn
   · exact g2 n hn
   rcases List.mem_append.1 hn with hn | hn
   · exact y2 n hn
   · rw [List.mem_singleton.1 hn];show (0:Int)≤_;omega
 | call base ns ks ts d h t l r =>
   rename_i ih
   intro ht
   obtain ⟨g1,g2⟩:=ih fun t h=>ht t (by simp [h])
   refine ⟨by simp only [List.length_append,List.length_cons,List.length_nil];omega,fun n hn => ?_⟩
   rcases List.mem_append.1 hn with hn | hn
   · exact g2 n hn
   · rw [List.mem_singleton.1 hn];show (0:Int)≤_;omega
 | none base=>intro _;exact ⟨Nat.le_refl _,fun n hn=>by cases hn⟩
 | one base ns a ts rk d h ih=>exact ih
 | and base ns ms ks b ts us rk d1 d2 h hk c hc g ih ig =>
   intro ht
   obtain ⟨g1,g2⟩:=ih fun t h=>ht t (List.mem_append_left _ h)
   obtain ⟨y1,y2⟩:=ig fun t h=>ht t (List.mem_append_right _ (List.mem_cons_of_mem _ h))
   refine ⟨by simp only [List.length_append,List.length_cons];omega,fun n hn => ?_⟩
   rcases List.mem_append.1 hn with hn | hn
   · exact g2 n hn
   · exact y2 n hn
theorem txL_few:∀ ts:List Tk,(∀ t∈ts,Tok t)→ts.length≤(txL ts).length
 | [],_=>Nat.zero_le _
 | t :: ts,h=>by
   have ih:=txL_few ts fun u hu=>h u (List.mem_cons_of_mem _ hu)
   have h1:=(h t (by simp)).pos
   rw [txL_cons,List.length_append,List.length_cons];omega
theorem txL_bytes:∀ ts:List Tk,(∀ t∈ts,Tok t)→Bytes (txL ts)
 | [],_=>fun x hx=>by cases hx
 | t :: ts,h=>fun x hx=>by
   rw [txL_cons] at hx
   rcases List.mem_append.1 hx with hx | hx
   · exact (h t (by simp)).2.2 x hx
   · exact txL_bytes ts (fun u hu=>h u (List.mem_cons_of_mem _ hu)) x hx
theorem PIs_told (s:ByteArray) (ns:List Nd) (h:PIs s (.ok ns)):(ns.length≤300∧0<ns.length∧treeB ns=true)∧(∀ n∈ns,n.num≤9223372036854775807)∧(printL ns).length≤s.size∧s.size≤300∧PIs (strOfNums (printL ns)) (.ok ns):=by
 rcases h with ⟨_,h⟩ | ⟨_,_,h⟩ | ⟨h0,ts,f,h1,h2⟩
 · cases h
 · cases h
 · have hb:Bytes (sb s):=fun x hx=>sb_bd s x hx
   have ht:=parse_tree h2 (lexL_good s ts h1).1
   obtain ⟨us,rq,d,a,g1,g2,g3,g4,g5⟩:=told_text hb h1 h2
   rw [length_sb] at g4
   obtain ⟨k1,k2⟩:=sh_few g1 fun t h=>(g3 t h).num
   have k3:=txL_few us g3
   obtain ⟨p1,vs,g,p2,p3⟩:=print_told hb h1 h2 ht
   rw [length_sb] at p1
   have hpos:0<ns.length:=by
    cases ns with
    | nil=>exact absurd ht (by decide)
    | cons n ns=>simp
   have hby:Bytes (printL ns):=by
    rw [sh_print g1 ht]
    exact txL_bytes us g3
   refine ⟨⟨by omega,hpos,ht⟩,k2,p1,h0,.inr (.inr ⟨by rw [strOfNums_size];omega,vs,g,by rw [sb_str _ hby];exact p2,p3⟩)⟩
theorem parse_sn (s:ByteArray) (w:World) (hx:Sx w) (ns:List Nd) (hp:PIs s (.ok ns)) :
 Calls Tryz.prog 11 #[.string s] w fun e w'=>Below w.heap.size w w'∧∃ g cap vs,e = .returned (.tuple #[.slice (some ⟨g,0,none⟩) ns.length cap,.int .i64 0])∧vs.map Prod.fst=ns∧SN w' w'.heap.size (.slice (some ⟨g,0,none⟩) ns.length cap) vs:=by
 refine (parse_ok s w hx.vars hx.ops ns hp (PIs_told s ns hp).1.2.1).mono ?_
 rintro e w' ⟨hb,g,cap,vs,he,h1,h2,h3, -⟩
 exact ⟨hb,g,cap,_,he,(sn_fst vs).trans h1,h3.sn h2⟩
def OkE {α : Type} (x:Option (Except Int α)):Prop:=∀ c,x=some (.error c)→c=5∨c=6
theorem OkE.non {α : Type}:OkE (none:Option (Except Int α)):=fun c h=>by cases h
theorem OkE.ok {α : Type} (v : α):OkE (some (.ok v):Option (Except Int α)):=fun c h=>by injection h with h;cases h
theorem OkE.e5 {α : Type}:OkE (some (.error 5):Option (Except Int α)):=fun c h=>by injection h with h;injection h with h;exact .inl h.symm
theorem OkE.e6 {α : Type}:OkE (some (.error 6):Option (Except Int α)):=fun c h=>by injection h with h;injection h with h;exact .inr h.symm
theorem OkE.ite {α : Type} {p:Prop} [Decidable p] {x y:Option (Except Int α)} (h:OkE x) (g:OkE y):OkE (if p then x else y):=by split;exact h;exact g
theorem OkE.bind {α β γ δ : Type} {x:Option (Except Int (α × β × γ))} {k : α → β → γ → Option (Except Int δ)} (h:OkE x) (g:∀ a b c,OkE (k a b c)):OkE (bindR x k):=fun c hc=>by
 rcases bindR_some hc with ⟨e,h1,h2⟩ | ⟨a,b,d,_,h2⟩
 · injection h2 with h2;subst h2;exact h c h1
 · exact g a b d c h2
theorem refP_e (base:Nat) (t:Tk) (ts:List Tk):OkE (some (refP base t ts)):=by
 unfold refP
 split
 · split
   · split
     · exact OkE.ok _
     · exact OkE.e5
   · exact OkE.e5
 · exact OkE.ok _
theorem err_all:∀ f:Nat,(∀ n deep base ts,OkE (exprP f n deep base ts))∧(∀ n deep base ns a ts,OkE (rowP f n deep base ns a ts))∧(∀ deep base ts,OkE (primP f deep base ts))∧(∀ deep base ns ks ts,OkE (argsP f deep base ns ks ts))
 | 0=>⟨fun _ _ _ _=>by unfold exprP;exact OkE.non,fun _ _ _ _ _ _=>by unfold rowP;exact OkE.non,fun _ _ _=>by unfold primP;exact OkE.non,fun _ _ _ _ _=>by unfold argsP;exact OkE.non⟩
 | f + 1 => by
   obtain ⟨i1,i2,i3,i4⟩:=err_all f
   refine ⟨fun n deep base ts => ?_,fun n deep base ns a ts => ?_,fun deep base ts => ?_,fun deep base ns ks ts => ?_⟩
   · rw [exprP_succ]
     exact OkE.ite (OkE.bind (i1 _ _ _ _) fun _ _ _=>i2 _ _ _ _ _ _) (OkE.ite (OkE.ite OkE.e6 (OkE.bind (i1 _ _ _ _) fun _ _ _=>OkE.ok _)) (i3 _ _ _))
   · rw [rowP_succ]
     exact OkE.ite (OkE.ok _) (OkE.bind (i1 _ _ _ _) fun _ _ _=>i2 _ _ _ _ _ _)
   · cases ts with
     | nil=>rw [primP_nil];exact OkE.e5
     | cons t ts =>
       rw [primP_cons]
       repeat' first
        | exact OkE.ok _
        | exact OkE.e5
        | exact OkE.e6
        | exact refP_e _ _ _
        | exact i1 _ _ _ _
        | exact i4 _ _ _ _ _
        | (apply OkE.bind)
        | (apply OkE.ite)
        | intro
   · rw [argsP_succ]
     exact OkE.bind (i1 _ _ _ _) fun _ _ _=>OkE.ite (i4 _ _ _ _ _) (OkE.ok _)
theorem PIs_err (s:ByteArray) (c:Int) (h:PIs s (.error c)):c≠0:=by
 rcases h with ⟨_,h⟩ | ⟨_,_,h⟩ | ⟨_,ts,f,_,h⟩
 · injection h with h;omega
 · injection h with h;omega
 · unfold parseP at h
   have:=OkE.bind ((err_all f).1 0 0 0 ts) (k:=fun ns _ r=>if kindAt r=0 then some (.ok ns) else some (.error 5)) (fun _ _ _=>OkE.ite (OkE.ok _) OkE.e5) c h
   omega
theorem sn_nil (w:World):SN w w.heap.size (.slice none 0 0) []:=⟨⟨none,0,rfl,.inl rfl⟩,fun p hp=>absurd hp (by simp)⟩
theorem sumN_most (c:Nat):∀ ns:List Nd,(∀ n∈ns,wN n≤c)→sumN ns≤ns.length*c
 | [],_=>Nat.zero_le _
 | n :: ns,h=>by
   have ih:=sumN_most c ns fun m hm=>h m (List.mem_cons_of_mem _ hm)
   have h1:=h n (by simp)
   show wN n+sumN ns≤(ns.length+1)*c
   rw [Nat.succ_mul];omega
def MadeOut (w:World) (e:Ending) (w':World):Prop:=∃ lv sv vs st,e = .returned lv∧Mk w w' lv sv vs st∧MadeI (vs.map (·.n)) st∧st.length≤1∧vs.length≤80
structure MadeN (ns:List Nd):Prop where
 few:ns.length≤80
 tiny:∀ n∈ns,TinyM n
 tree:ns≠[]→treeB ns=true
 free:∀ n∈ns,FreeT n
theorem MadeN.num {ns:List Nd} (h:MadeN ns):∀ n∈ns,n.num≤9223372036854775807:=fun n hn=>by have:=(h.tiny n hn).1;omega
theorem MadeN.szs {ns:List Nd} (h:MadeN ns):∀ n∈ns,n.text.size≤1000000∧n.ref.sh.size≤1000000∧n.to.sh.size≤1000000:=fun n hn=>by obtain ⟨_,h2,h3,h4⟩:=h.tiny n hn;omega
theorem MadeN.len {ns:List Nd} (h:MadeN ns):(printL ns).length≤100000:=by
 by_cases h0:ns=[]
 · subst h0;decide
 · have h1:=print_len (h.tree h0) h.num
   have h2:=sumN_most 1000 ns (fun n hn=>by obtain ⟨_,h2,h3,h4⟩:=h.tiny n hn;unfold wN;omega)
   have h3:=h.few
   have:ns.length*1000≤80*1000:=Nat.mul_le_mul_right _ h3
   omega
theorem MadeOut.made {w w':World} {e:Ending} (h:MadeOut w e w'):Below w.heap.size w w'∧∃ A c l,e = .returned (.slice A l.length c)∧SN w' w'.heap.size (.slice A l.length c) l∧MadeN (l.map (·.1)):=by
 obtain ⟨lv,sv,vs,st,he,hm,hi,h1,h80⟩:=h
 have hN:MadeN (vs.map (·.n)):=⟨by rw [List.length_map];exact h80,hi.tiny,fun hne=>by
  have h2:=hi.some hne
  match st,h2,h1,hi with
  | [],h2,_,_=>exact absurd rfl h2
  | [a],_,_,hi=>exact hi.tree
  | _ :: _ :: _,_,h1,_=>simp at h1,hi.free⟩
 refine ⟨hm.aft, ?_⟩
 rcases hm.nodes.shape with ⟨e1,e2⟩ | ⟨g,cap,e1,_⟩
 · subst e2
   exact ⟨none,0,[],by rw [he,e1];rfl,sn_nil w',hN⟩
 · have hsn:SN w' w'.heap.size (.slice (some ⟨g,0,none⟩) vs.length cap) (vs.map fun v=>(v.n,v.kv)):=NodV.sn (lo:=w.heap.size) (by have:=hm.nodV;rwa [e1] at this) rfl
   exact ⟨some ⟨g,0,none⟩,cap,vs.map (fun v=>(v.n,v.kv)),by rw [he,e1,List.length_map],by rw [List.length_map];exact hsn,by rw [sn_fst];exact hN⟩
theorem printL_bytes {ns:List Nd} (ht:treeB ns=true) (hm:∀ n∈ns,n.num≤9223372036854775807):Bytes (printL ns):=by
 obtain ⟨a,ts,rk,d,h1,h2⟩:=tree_sh ht hm
 rw [sh_print h1 ht]
 exact txL_bytes ts h2
theorem MadeN.told {ns:List Nd} (h:MadeN ns) (hne:ns≠[]):strOfNums (printL ns)≠⟨#[]⟩∧(PIs (strOfNums (printL ns)) (.ok ns)∨∃ c,PIs (strOfNums (printL ns)) (.error c)∧c≠0∧(300<(strOfNums (printL ns)).size∨c=6)):=by
 have ht:=h.tree hne
 have hb:=printL_bytes ht h.num
 refine ⟨fun e => ?_, ?_⟩
 · have h1:=congrArg ByteArray.size e
   rw [strOfNums_size] at h1
   exact tree_ne ht h.num (List.eq_nil_of_length_eq_zero h1)
 · by_cases h3:300<(strOfNums (printL ns)).size
   · exact .inr ⟨4,.inl ⟨h3,rfl⟩,by omega,.inl h3⟩
   · obtain ⟨vs,g,h1,h2⟩:=tree_print ht h.num
     rcases h2 with h2 | h2
     · exact .inl (.inr (.inr ⟨by omega,vs,g,by rw [sb_str _ hb];exact h1,h2⟩))
     · exact .inr ⟨6,.inr (.inr ⟨by omega,vs,g,by rw [sb_str _ hb];exact h1,h2⟩),by omega,.inr rfl⟩
theorem parse_empty:∃ c,PIs ⟨#[]⟩ (.error c)∧c≠0:=by
 obtain ⟨res,hp⟩:=PIs.all ⟨#[]⟩
 cases res with
 | error c=>exact ⟨c,hp,PIs_err _ c hp⟩
 | ok ns =>
   obtain ⟨⟨_,_,ht⟩,hn,hl,_⟩:=PIs_told _ ns hp
   exact absurd (List.eq_nil_of_length_eq_zero (Nat.le_zero.1 hl)) (tree_ne ht hn)
end Go.Proofs.YtecpbligblnonaaGreatDoor
