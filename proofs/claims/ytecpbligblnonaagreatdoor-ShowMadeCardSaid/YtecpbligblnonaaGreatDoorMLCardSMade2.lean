/-
 Texts of layers, put together.
-/
import Derived.Test.YtecpbligblnonaaGreatDoorMLCardSMade1
namespace Go.Proofs.YtecpbligblnonaaGreatDoor
open Go.RowKit
structure ShC (w:World) (v:Value) (l:List (Nd × Value)) (ns:List Nd):Prop where
 sn:SN w w.heap.size v l
 map:l.map (·.1)=ns
 tree:treeB ns=true
 few:l.length≤1000
 sizes:∀ q∈l,q.1.text.size≤1000000∧q.1.ref.sh.size≤1000000∧q.1.to.sh.size≤1000000
 nums:∀ q∈l,q.1.num≤9223372036854775807
theorem ShC.node {w:World} {v:Value} {l:List (Nd × Value)} {ns:List Nd} (h:ShC w v l ns) {i:Nat} {n:Nd} {k:Value} (hi:l[i]? = some (n,k)):nodeAt ns (i:Int)=n∧i<ns.length:=by
 rw [← h.map]
 have hl:=(List.getElem?_eq_some_iff.1 hi).1
 refine ⟨?_,by rw [List.length_map];exact hl⟩
 unfold nodeAt
 rw [show ((i:Int)).toNat=i by omega,List.getD_eq_getElem?_getD,List.getElem?_map,hi];rfl
theorem ShC.leaf {w:World} {v:Value} {l:List (Nd × Value)} {ns:List Nd} (h:ShC w v l ns) {i:Nat} {n:Nd} {k:Value} (hi:l[i]? = some (n,k)):nodeB n=true:=by
 obtain ⟨h1,h2⟩:=h.node hi
 have:=(tree_at h.tree (i:=(i:Int)) (by omega) (by omega)).1
 rw [h1] at this;exact this
def ShR (ns:List Nd) (i:Nat) (w1:World) (e:Ending) (w':World):Prop:=e = .returned (.string (strOfNums (shN ns (i:Int))))∧Below w1.heap.size w1 w'
set_option maxRecDepth 100000 in
set_option maxHeartbeats 4000000 in
theorem shown_1 {w:World} {v:Value} {l:List (Nd × Value)} {ns:List Nd} (C:ShC w v l ns) (i:Nat) (n:Nd) (k:Value) (hi:l[i]? = some (n,k)) (hk:n.kind=1) (w1:World) (hb:Below w.heap.size w w1) :
 Calls Tryz.prog 36 #[v,.int .i64 (i:Int)] w1 (ShR ns i w1):=by
 obtain ⟨hnode,hil⟩:=C.node hi
 have hlf:=C.leaf hi
 have hmem:=List.mem_of_getElem? hi
 have hll:i<l.length:=(List.getElem?_eq_some_iff.1 hi).1
 obtain ⟨hz1,hz2,hz3⟩:=(show n.text.size≤1000000∧n.ref.sh.size≤1000000∧n.to.sh.size≤1000000 from C.sizes _ hmem)
 have hnum:n.num≤9223372036854775807:=C.nums _ hmem
 have hfew:=C.few
 have HC:=Lib.hid C
 obtain ⟨A,cap,rfl⟩:=C.sn.lenle
 obtain ⟨hsk,pb,po,rfl,hpb,hcell⟩:=C.sn.cellAt hi
 obtain ⟨Ak,ck,hkk,hkc,hkm,hkat⟩:=id hsk
 obtain ⟨m,hm⟩:∃ m,n.kids.length=m:=⟨_,rfl⟩
 rw [hm] at hkk hkc
 subst hkk
 obtain ⟨nl,hnl⟩:∃ nl,l.length=nl:=⟨_,rfl⟩
 rw [hnl] at hll hfew ⊢
 have hii:(i:Int)<(nl:Int):=by omega
 have hi0:(0:Int)≤(i:Int):=by omega
 have hmx:m≤9223372036854775807:=by unfold maxLen at hkm;omega
 have HM:=Lib.hid hm;have HNL:=Lib.hid hnl;have HKAT:=Lib.hid hkat;have HND:=Lib.hid hnode;have HLF:=Lib.hid hlf;have HKC:=Lib.hid hkc;have HB:=Lib.hid hb
 have HSH:=Lib.hid (shN_eq C.tree (i:=(i:Int)) (by omega) (by omega) n hnode)
 have k0:w1.cell? ⟨pb,po+i*14,none⟩=some (.int .i64 n.kind):=(hb.cell (p:=⟨pb,po+i*14,none⟩) hpb).trans (hcell 0 (by omega))
 have k1:w1.cell? ⟨pb,po+i*14+1,none⟩=some (.int .i64 n.num):=(hb.cell (p:=⟨pb,po+i*14+1,none⟩) hpb).trans (hcell 1 (by omega))
 have k2:w1.cell? ⟨pb,po+i*14+2,none⟩=some (.string n.text):=(hb.cell (p:=⟨pb,po+i*14+2,none⟩) hpb).trans (hcell 2 (by omega))
 have k3:w1.cell? ⟨pb,po+i*14+3,none⟩=some (.string n.ref.sh):=(hb.cell (p:=⟨pb,po+i*14+3,none⟩) hpb).trans (hcell 3 (by omega))
 have k4:w1.cell? ⟨pb,po+i*14+4,none⟩=some (.int .i64 n.ref.c):=(hb.cell (p:=⟨pb,po+i*14+4,none⟩) hpb).trans (hcell 4 (by omega))
 have k5:w1.cell? ⟨pb,po+i*14+5,none⟩=some (.int .i64 n.ref.r):=(hb.cell (p:=⟨pb,po+i*14+5,none⟩) hpb).trans (hcell 5 (by omega))
 have k6:w1.cell? ⟨pb,po+i*14+6,none⟩=some (.bool n.ref.ac):=(hb.cell (p:=⟨pb,po+i*14+6,none⟩) hpb).trans (hcell 6 (by omega))
 have k7:w1.cell? ⟨pb,po+i*14+7,none⟩=some (.bool n.ref.ar):=(hb.cell (p:=⟨pb,po+i*14+7,none⟩) hpb).trans (hcell 7 (by omega))
 have k8:w1.cell? ⟨pb,po+i*14+8,none⟩=some (.string n.to.sh):=(hb.cell (p:=⟨pb,po+i*14+8,none⟩) hpb).trans (hcell 8 (by omega))
 have k9:w1.cell? ⟨pb,po+i*14+9,none⟩=some (.int .i64 n.to.c):=(hb.cell (p:=⟨pb,po+i*14+9,none⟩) hpb).trans (hcell 9 (by omega))
 have k10:w1.cell? ⟨pb,po+i*14+10,none⟩=some (.int .i64 n.to.r):=(hb.cell (p:=⟨pb,po+i*14+10,none⟩) hpb).trans (hcell 10 (by omega))
 have k11:w1.cell? ⟨pb,po+i*14+11,none⟩=some (.bool n.to.ac):=(hb.cell (p:=⟨pb,po+i*14+11,none⟩) hpb).trans (hcell 11 (by omega))
 have k12:w1.cell? ⟨pb,po+i*14+12,none⟩=some (.bool n.to.ar):=(hb.cell (p:=⟨pb,po+i*14+12,none⟩) hpb).trans (hcell 12 (by omega))
 have k13:w1.cell? ⟨pb,po+i*14+13,none⟩=some (.slice Ak m ck):=(hb.cell (p:=⟨pb,po+i*14+13,none⟩) hpb).trans (hcell 13 (by omega))
 have HK:=Lib.hid hk
 obtain ⟨u,hu⟩:∃ u:Nat,n.num=(u:Int):=⟨n.num.toNat,by have:=leaf_num (arms_kids hlf).2.2.2.2.2 hk;omega⟩
 have HT:=Lib.hid (show shN ns (i:Int)=digL u by rw [HSH.out,if_pos hk,hu];rfl)
 have HU:=Lib.hid hu
 have hu9:u≤9223372036854775807:=by omega
 clear hu
 clear hk
 have hB3:Below w1.heap.size w1 (w1.alloc (.cells #[.int .i64 n.kind,.int .i64 n.num,.string n.text,.string n.ref.sh,.int .i64 n.ref.c,.int .i64 n.ref.r,.bool n.ref.ac,.bool n.ref.ar,.string n.to.sh,.int .i64 n.to.c,.int .i64 n.to.r,.bool n.to.ac,.bool n.to.ar,.slice Ak m ck] 61)):=(Below.refl _ _).alloc (Nat.le_refl _) _
 have HN3:NdAt (w1.alloc (.cells #[.int .i64 n.kind,.int .i64 n.num,.string n.text,.string n.ref.sh,.int .i64 n.ref.c,.int .i64 n.ref.r,.bool n.ref.ac,.bool n.ref.ar,.string n.to.sh,.int .i64 n.to.c,.int .i64 n.to.r,.bool n.to.ac,.bool n.to.ar,.slice Ak m ck] 61)) w1.heap.size n (.slice Ak m ck):=NdAt.new w1 n _
 have HB3:=Lib.hid hB3
 clear hB3 C hi hmem hcell hkat hkc hkm hm hnl hnode hlf hsk hb
 go_enter Tryz.func36,Tryz.ntmps36
 go_upto_region 2 with (fail)
 generalize hb3:w1.heap.size=b3 at HN3 ⊢
 generalize w1.alloc (.cells #[.int .i64 n.kind,.int .i64 n.num,.string n.text,.string n.ref.sh,.int .i64 n.ref.c,.int .i64 n.ref.r,.bool n.ref.ac,.bool n.ref.ar,.string n.to.sh,.int .i64 n.to.c,.int .i64 n.to.r,.bool n.to.ac,.bool n.to.ar,.slice Ak m ck] 61)=w3 at HN3 HB3 ⊢
 clear hb3 k0 k1 k2 k3 k4 k5 k6 k7 k8 k9 k10 k11 k12 k13
 obtain ⟨x0,x1,x2,x3,x4,x5,x6,x7,x8,x9,x10,x11,x12,x13⟩:=HN3.cells
 have hb3:=HN3.lt
 have HN3:=Lib.hid HN3
 have hk:=HK.out
 have e1:(n.kind == 1)=true:=by rw [hk];rfl
 clear hk
 rw [HU.out] at x1
 have HD:=Lib.hid (fun w=>refDigits_nat u hu9 w)
 go_wp2_with (go_at_call 28;((with_reducible refine (HD.out _).mono ?_);rintro e w4 ⟨rfl,h1⟩;have HB4:=Lib.hid (HB3.out.trans (h1.mono HB3.out.size));clear h1))
 go_ret
 exact ⟨by rw [HT.out] <;> rfl,HB4.out⟩
set_option maxRecDepth 100000 in
set_option maxHeartbeats 4000000 in
theorem shown_2 {w:World} {v:Value} {l:List (Nd × Value)} {ns:List Nd} (C:ShC w v l ns) (i:Nat) (n:Nd) (k:Value) (hi:l[i]? = some (n,k)) (hk:n.kind=2) (w1:World) (hb:Below w.heap.size w w1) :
 Calls Tryz.prog 36 #[v,.int .i64 (i:Int)] w1 (ShR ns i w1):=by
 obtain ⟨hnode,hil⟩:=C.node hi
 have hlf:=C.leaf hi
 have hmem:=List.mem_of_getElem? hi
 have hll:i<l.length:=(List.getElem?_eq_some_iff.1 hi).1
 obtain ⟨hz1,hz2,hz3⟩:=(show n.text.size≤1000000∧n.ref.sh.size≤1000000∧n.to.sh.size≤1000000 from C.sizes _ hmem)
 have hnum:n.num≤9223372036854775807:=C.nums _ hmem
 have hfew:=C.few
 have HC:=Lib.hid C
 obtain ⟨A,cap,rfl⟩:=C.sn.lenle
 obtain ⟨hsk,pb,po,rfl,hpb,hcell⟩:=C.sn.cellAt hi
 obtain ⟨Ak,ck,hkk,hkc,hkm,hkat⟩:=id hsk
 obtain ⟨m,hm⟩:∃ m,n.kids.length=m:=⟨_,rfl⟩
 rw [hm] at hkk hkc
 subst hkk
 obtain ⟨nl,hnl⟩:∃ nl,l.length=nl:=⟨_,rfl⟩
 rw [hnl] at hll hfew ⊢
 have hii:(i:Int)<(nl:Int):=by omega
 have hi0:(0:Int)≤(i:Int):=by omega
 have hmx:m≤9223372036854775807:=by unfold maxLen at hkm;omega
 have HM:=Lib.hid hm;have HNL:=Lib.hid hnl;have HKAT:=Lib.hid hkat;have HND:=Lib.hid hnode;have HLF:=Lib.hid hlf;have HKC:=Lib.hid hkc;have HB:=Lib.hid hb
 have HSH:=Lib.hid (shN_eq C.tree (i:=(i:Int)) (by omega) (by omega) n hnode)
 have k0:w1.cell? ⟨pb,po+i*14,none⟩=some (.int .i64 n.kind):=(hb.cell (p:=⟨pb,po+i*14,none⟩) hpb).trans (hcell 0 (by omega))
 have k1:w1.cell? ⟨pb,po+i*14+1,none⟩=some (.int .i64 n.num):=(hb.cell (p:=⟨pb,po+i*14+1,none⟩) hpb).trans (hcell 1 (by omega))
 have k2:w1.cell? ⟨pb,po+i*14+2,none⟩=some (.string n.text):=(hb.cell (p:=⟨pb,po+i*14+2,none⟩) hpb).trans (hcell 2 (by omega))
 have k3:w1.cell? ⟨pb,po+i*14+3,none⟩=some (.string n.ref.sh):=(hb.cell (p:=⟨pb,po+i*14+3,none⟩) hpb).trans (hcell 3 (by omega))
 have k4:w1.cell? ⟨pb,po+i*14+4,none⟩=some (.int .i64 n.ref.c):=(hb.cell (p:=⟨pb,po+i*14+4,none⟩) hpb).trans (hcell 4 (by omega))
 have k5:w1.cell? ⟨pb,po+i*14+5,none⟩=some (.int .i64 n.ref.r):=(hb.cell (p:=⟨pb,po+i*14+5,none⟩) hpb).trans (hcell 5 (by omega))
 have k6:w1.cell? ⟨pb,po+i*14+6,none⟩=some (.bool n.ref.ac):=(hb.cell (p:=⟨pb,po+i*14+6,none⟩) hpb).trans (hcell 6 (by omega))
 have k7:w1.cell? ⟨pb,po+i*14+7,none⟩=some (.bool n.ref.ar):=(hb.cell (p:=⟨pb,po+i*14+7,none⟩) hpb).trans (hcell 7 (by omega))
 have k8:w1.cell? ⟨pb,po+i*14+8,none⟩=some (.string n.to.sh):=(hb.cell (p:=⟨pb,po+i*14+8,none⟩) hpb).trans (hcell 8 (by omega))
 have k9:w1.cell? ⟨pb,po+i*14+9,none⟩=some (.int .i64 n.to.c):=(hb.cell (p:=⟨pb,po+i*14+9,none⟩) hpb).trans (hcell 9 (by omega))
 have k10:w1.cell? ⟨pb,po+i*14+10,none⟩=some (.int .i64 n.to.r):=(hb.cell (p:=⟨pb,po+i*14+10,none⟩) hpb).trans (hcell 10 (by omega))
 have k11:w1.cell? ⟨pb,po+i*14+11,none⟩=some (.bool n.to.ac):=(hb.cell (p:=⟨pb,po+i*14+11,none⟩) hpb).trans (hcell 11 (by omega))
 have k12:w1.cell? ⟨pb,po+i*14+12,none⟩=some (.bool n.to.ar):=(hb.cell (p:=⟨pb,po+i*14+12,none⟩) hpb).trans (hcell 12 (by omega))
 have k13:w1.cell? ⟨pb,po+i*14+13,none⟩=some (.slice Ak m ck):=(hb.cell (p:=⟨pb,po+i*14+13,none⟩) hpb).trans (hcell 13 (by omega))
 have HK:=Lib.hid hk
 have HT:=Lib.hid (show shN ns (i:Int)=34 :: (dblL (sb n.text)++[34]) by rw [HSH.out,if_neg (by omega),if_pos hk])
 clear hk
 have hB3:Below w1.heap.size w1 (w1.alloc (.cells #[.int .i64 n.kind,.int .i64 n.num,.string n.text,.string n.ref.sh,.int .i64 n.ref.c,.int .i64 n.ref.r,.bool n.ref.ac,.bool n.ref.ar,.string n.to.sh,.int .i64 n.to.c,.int .i64 n.to.r,.bool n.to.ac,.bool n.to.ar,.slice Ak m ck] 61)):=(Below.refl _ _).alloc (Nat.le_refl _) _
 have HN3:NdAt (w1.alloc (.cells #[.int .i64 n.kind,.int .i64 n.num,.string n.text,.string n.ref.sh,.int .i64 n.ref.c,.int .i64 n.ref.r,.bool n.ref.ac,.bool n.ref.ar,.string n.to.sh,.int .i64 n.to.c,.int .i64 n.to.r,.bool n.to.ac,.bool n.to.ar,.slice Ak m ck] 61)) w1.heap.size n (.slice Ak m ck):=NdAt.new w1 n _
 have HB3:=Lib.hid hB3
 clear hB3 C hi hmem hcell hkat hkc hkm hm hnl hnode hlf hsk hb
 go_enter Tryz.func36,Tryz.ntmps36
 go_upto_region 2 with (fail)
 generalize hb3:w1.heap.size=b3 at HN3 ⊢
 generalize w1.alloc (.cells #[.int .i64 n.kind,.int .i64 n.num,.string n.text,.string n.ref.sh,.int .i64 n.ref.c,.int .i64 n.ref.r,.bool n.ref.ac,.bool n.ref.ar,.string n.to.sh,.int .i64 n.to.c,.int .i64 n.to.r,.bool n.to.ac,.bool n.to.ar,.slice Ak m ck] 61)=w3 at HN3 HB3 ⊢
 clear hb3 k0 k1 k2 k3 k4 k5 k6 k7 k8 k9 k10 k11 k12 k13
 obtain ⟨x0,x1,x2,x3,x4,x5,x6,x7,x8,x9,x10,x11,x12,x13⟩:=HN3.cells
 have hb3:=HN3.lt
 have HN3:=Lib.hid HN3
 have hk:=HK.out
 have e1:(n.kind == 1)=false:=by rw [hk];rfl
 have e2:(n.kind == 2)=true:=by rw [hk];rfl
 clear hk
 have HD:=Lib.hid (fun w=>refQuote_any n.text w (by omega))
 go_wp2_with (go_at_call 66;((with_reducible refine (HD.out _).mono ?_);rintro e w4 ⟨rfl,h1⟩;have HB4:=Lib.hid (HB3.out.trans (h1.mono HB3.out.size));clear h1))
 go_ret
 exact ⟨by rw [HT.out] <;> rfl,HB4.out⟩
set_option maxRecDepth 100000 in
set_option maxHeartbeats 4000000 in
theorem shown_3 {w:World} {v:Value} {l:List (Nd × Value)} {ns:List Nd} (C:ShC w v l ns) (i:Nat) (n:Nd) (k:Value) (hi:l[i]? = some (n,k)) (hk:n.kind=3) (w1:World) (hb:Below w.heap.size w w1) :
 Calls Tryz.prog 36 #[v,.int .i64 (i:Int)] w1 (ShR ns i w1):=by
 obtain ⟨hnode,hil⟩:=C.node hi
 have hlf:=C.leaf hi
 have hmem:=List.mem_of_getElem? hi
 have hll:i<l.length:=(List.getElem?_eq_some_iff.1 hi).1
 obtain ⟨hz1,hz2,hz3⟩:=(show n.text.size≤1000000∧n.ref.sh.size≤1000000∧n.to.sh.size≤1000000 from C.sizes _ hmem)
 have hnum:n.num≤9223372036854775807:=C.nums _ hmem
 have hfew:=C.few
 have HC:=Lib.hid C
 obtain ⟨A,cap,rfl⟩:=C.sn.lenle
 obtain ⟨hsk,pb,po,rfl,hpb,hcell⟩:=C.sn.cellAt hi
 obtain ⟨Ak,ck,hkk,hkc,hkm,hkat⟩:=id hsk
 obtain ⟨m,hm⟩:∃ m,n.kids.length=m:=⟨_,rfl⟩
 rw [hm] at hkk hkc
 subst hkk
 obtain ⟨nl,hnl⟩:∃ nl,l.length=nl:=⟨_,rfl⟩
 rw [hnl] at hll hfew ⊢
 have hii:(i:Int)<(nl:Int):=by omega
 have hi0:(0:Int)≤(i:Int):=by omega
 have hmx:m≤9223372036854775807:=by unfold maxLen at hkm;omega
 have HM:=Lib.hid hm;have HNL:=Lib.hid hnl;have HKAT:=Lib.hid hkat;have HND:=Lib.hid hnode;have HLF:=Lib.hid hlf;have HKC:=Lib.hid hkc;have HB:=Lib.hid hb
 have HSH:=Lib.hid (shN_eq C.tree (i:=(i:Int)) (by omega) (by omega) n hnode)
 have k0:w1.cell? ⟨pb,po+i*14,none⟩=some (.int .i64 n.kind):=(hb.cell (p:=⟨pb,po+i*14,none⟩) hpb).trans (hcell 0 (by omega))
 have k1:w1.cell? ⟨pb,po+i*14+1,none⟩=some (.int .i64 n.num):=(hb.cell (p:=⟨pb,po+i*14+1,none⟩) hpb).trans (hcell 1 (by omega))
 have k2:w1.cell? ⟨pb,po+i*14+2,none⟩=some (.string n.text):=(hb.cell (p:=⟨pb,po+i*14+2,none⟩) hpb).trans (hcell 2 (by omega))
 have k3:w1.cell? ⟨pb,po+i*14+3,none⟩=some (.string n.ref.sh):=(hb.cell (p:=⟨pb,po+i*14+3,none⟩) hpb).trans (hcell 3 (by omega))
 have k4:w1.cell? ⟨pb,po+i*14+4,none⟩=some (.int .i64 n.ref.c):=(hb.cell (p:=⟨pb,po+i*14+4,none⟩) hpb).trans (hcell 4 (by omega))
 have k5:w1.cell? ⟨pb,po+i*14+5,none⟩=some (.int .i64 n.ref.r):=(hb.cell (p:=⟨pb,po+i*14+5,none⟩) hpb).trans (hcell 5 (by omega))
 have k6:w1.cell? ⟨pb,po+i*14+6,none⟩=some (.bool n.ref.ac):=(hb.cell (p:=⟨pb,po+i*14+6,none⟩) hpb).trans (hcell 6 (by omega))
 have k7:w1.cell? ⟨pb,po+i*14+7,none⟩=some (.bool n.ref.ar):=(hb.cell (p:=⟨pb,po+i*14+7,none⟩) hpb).trans (hcell 7 (by omega))
 have k8:w1.cell? ⟨pb,po+i*14+8,none⟩=some (.string n.to.sh):=(hb.cell (p:=⟨pb,po+i*14+8,none⟩) hpb).trans (hcell 8 (by omega))
 have k9:w1.cell? ⟨pb,po+i*14+9,none⟩=some (.int .i64 n.to.c):=(hb.cell (p:=⟨pb,po+i*14+9,none⟩) hpb).trans (hcell 9 (by omega))
 have k10:w1.cell? ⟨pb,po+i*14+10,none⟩=some (.int .i64 n.to.r):=(hb.cell (p:=⟨pb,po+i*14+10,none⟩) hpb).trans (hcell 10 (by omega))
 have k11:w1.cell? ⟨pb,po+i*14+11,none⟩=some (.bool n.to.ac):=(hb.cell (p:=⟨pb,po+i*14+11,none⟩) hpb).trans (hcell 11 (by omega))
 have k12:w1.cell? ⟨pb,po+i*14+12,none⟩=some (.bool n.to.ar):=(hb.cell (p:=⟨pb,po+i*14+12,none⟩) hpb).trans (hcell 12 (by omega))
 have k13:w1.cell? ⟨pb,po+i*14+13,none⟩=some (.slice Ak m ck):=(hb.cell (p:=⟨pb,po+i*14+13,none⟩) hpb).trans (hcell 13 (by omega))
 have HK:=Lib.hid hk
 have HT:=Lib.hid (show shN ns (i:Int)=(if n.num=1 then [84,82,85,69] else [70,65,76,83,69]) by rw [HSH.out,if_neg (by omega),if_neg (by omega),if_pos hk])
 clear hk
 have hB3:Below w1.heap.size w1 (w1.alloc (.cells #[.int .i64 n.kind,.int .i64 n.num,.string n.text,.string n.ref.sh,.int .i64 n.ref.c,.int .i64 n.ref.r,.bool n.ref.ac,.bool n.ref.ar,.string n.to.sh,.int .i64 n.to.c,.int .i64 n.to.r,.bool n.to.ac,.bool n.to.ar,.slice Ak m ck] 61)):=(Below.refl _ _).alloc (Nat.le_refl _) _
 have HN3:NdAt (w1.alloc (.cells #[.int .i64 n.kind,.int .i64 n.num,.string n.text,.string n.ref.sh,.int .i64 n.ref.c,.int .i64 n.ref.r,.bool n.ref.ac,.bool n.ref.ar,.string n.to.sh,.int .i64 n.to.c,.int .i64 n.to.r,.bool n.to.ac,.bool n.to.ar,.slice Ak m ck] 61)) w1.heap.size n (.slice Ak m ck):=NdAt.new w1 n _
 have HB3:=Lib.hid hB3
 clear hB3 C hi hmem hcell hkat hkc hkm hm hnl hnode hlf hsk hb
 go_enter Tryz.func36,Tryz.ntmps36
 go_upto_region 2 with (fail)
 generalize hb3:w1.heap.size=b3 at HN3 ⊢
 generalize w1.alloc (.cells #[.int .i64 n.kind,.int .i64 n.num,.string n.text,.string n.ref.sh,.int .i64 n.ref.c,.int .i64 n.ref.r,.bool n.ref.ac,.bool n.ref.ar,.string n.to.sh,.int .i64 n.to.c,.int .i64 n.to.r,.bool n.to.ac,.bool n.to.ar,.slice Ak m ck] 61)=w3 at HN3 HB3 ⊢
 clear hb3 k0 k1 k2 k3 k4 k5 k6 k7 k8 k9 k10 k11 k12 k13
 obtain ⟨x0,x1,x2,x3,x4,x5,x6,x7,x8,x9,x10,x11,x12,x13⟩:=HN3.cells
 have hb3:=HN3.lt
 have HN3:=Lib.hid HN3
 have hk:=HK.out
 have e1:(n.kind == 1)=false:=by rw [hk];rfl
 have e2:(n.kind == 2)=false:=by rw [hk];rfl
 have e3:(n.kind == 3)=true:=by rw [hk];rfl
 clear hk
 by_cases h1:n.num=1
 · have g1:(n.num == 1)=true:=beq_iff_eq.2 h1
   have HT2:=Lib.hid (show (⟨#[84,82,85,69]⟩:ByteArray)=strOfNums (shN ns (i:Int)) by rw [HT.out,if_pos h1];decide)
   clear h1
   go_wp2_with fail
   go_ret
   exact ⟨ret_str HT2.out,HB3.out⟩
 · have g1:(n.num == 1)=false:=beq_eq_false_iff_ne.2 h1
   have HT2:=Lib.hid (show (⟨#[70,65,76,83,69]⟩:ByteArray)=strOfNums (shN ns (i:Int)) by rw [HT.out,if_neg h1];decide)
   clear h1
   go_wp2_with fail
   go_ret
   exact ⟨ret_str HT2.out,HB3.out⟩
set_option maxRecDepth 100000 in
set_option maxHeartbeats 4000000 in
theorem shown_4 {w:World} {v:Value} {l:List (Nd × Value)} {ns:List Nd} (C:ShC w v l ns) (i:Nat) (n:Nd) (k:Value) (hi:l[i]? = some (n,k)) (hk:n.kind=4) (w1:World) (hb:Below w.heap.size w w1) :
 Calls Tryz.prog 36 #[v,.int .i64 (i:Int)] w1 (ShR ns i w1):=by
 obtain ⟨hnode,hil⟩:=C.node hi
 have hlf:=C.leaf hi
 have hmem:=List.mem_of_getElem? hi
 have hll:i<l.length:=(List.getElem?_eq_some_iff.1 hi).1
 obtain ⟨hz1,hz2,hz3⟩:=(show n.text.size≤1000000∧n.ref.sh.size≤1000000∧n.to.sh.size≤1000000 from C.sizes _ hmem)
 have hnum:n.num≤9223372036854775807:=C.nums _ hmem
 have hfew:=C.few
 have HC:=Lib.hid C
 obtain ⟨A,cap,rfl⟩:=C.sn.lenle
 obtain ⟨hsk,pb,po,rfl,hpb,hcell⟩:=C.sn.cellAt hi
 obtain ⟨Ak,ck,hkk,hkc,hkm,hkat⟩:=id hsk
 obtain ⟨m,hm⟩:∃ m,n.kids.length=m:=⟨_,rfl⟩
 rw [hm] at hkk hkc
 subst hkk
 obtain ⟨nl,hnl⟩:∃ nl,l.length=nl:=⟨_,rfl⟩
 rw [hnl] at hll hfew ⊢
 have hii:(i:Int)<(nl:Int):=by omega
 have hi0:(0:Int)≤(i:Int):=by omega
 have hmx:m≤9223372036854775807:=by unfold maxLen at hkm;omega
 have HM:=Lib.hid hm;have HNL:=Lib.hid hnl;have HKAT:=Lib.hid hkat;have HND:=Lib.hid hnode;have HLF:=Lib.hid hlf;have HKC:=Lib.hid hkc;have HB:=Lib.hid hb
 have HSH:=Lib.hid (shN_eq C.tree (i:=(i:Int)) (by omega) (by omega) n hnode)
 have k0:w1.cell? ⟨pb,po+i*14,none⟩=some (.int .i64 n.kind):=(hb.cell (p:=⟨pb,po+i*14,none⟩) hpb).trans (hcell 0 (by omega))
 have k1:w1.cell? ⟨pb,po+i*14+1,none⟩=some (.int .i64 n.num):=(hb.cell (p:=⟨pb,po+i*14+1,none⟩) hpb).trans (hcell 1 (by omega))
 have k2:w1.cell? ⟨pb,po+i*14+2,none⟩=some (.string n.text):=(hb.cell (p:=⟨pb,po+i*14+2,none⟩) hpb).trans (hcell 2 (by omega))
 have k3:w1.cell? ⟨pb,po+i*14+3,none⟩=some (.string n.ref.sh):=(hb.cell (p:=⟨pb,po+i*14+3,none⟩) hpb).trans (hcell 3 (by omega))
 have k4:w1.cell? ⟨pb,po+i*14+4,none⟩=some (.int .i64 n.ref.c):=(hb.cell (p:=⟨pb,po+i*14+4,none⟩) hpb).trans (hcell 4 (by omega))
 have k5:w1.cell? ⟨pb,po+i*14+5,none⟩=some (.int .i64 n.ref.r):=(hb.cell (p:=⟨pb,po+i*14+5,none⟩) hpb).trans (hcell 5 (by omega))
 have k6:w1.cell? ⟨pb,po+i*14+6,none⟩=some (.bool n.ref.ac):=(hb.cell (p:=⟨pb,po+i*14+6,none⟩) hpb).trans (hcell 6 (by omega))
 have k7:w1.cell? ⟨pb,po+i*14+7,none⟩=some (.bool n.ref.ar):=(hb.cell (p:=⟨pb,po+i*14+7,none⟩) hpb).trans (hcell 7 (by omega))
 have k8:w1.cell? ⟨pb,po+i*14+8,none⟩=some (.string n.to.sh):=(hb.cell (p:=⟨pb,po+i*14+8,none⟩) hpb).trans (hcell 8 (by omega))
 have k9:w1.cell? ⟨pb,po+i*14+9,none⟩=some (.int .i64 n.to.c):=(hb.cell (p:=⟨pb,po+i*14+9,none⟩) hpb).trans (hcell 9 (by omega))
 have k10:w1.cell? ⟨pb,po+i*14+10,none⟩=some (.int .i64 n.to.r):=(hb.cell (p:=⟨pb,po+i*14+10,none⟩) hpb).trans (hcell 10 (by omega))
 have k11:w1.cell? ⟨pb,po+i*14+11,none⟩=some (.bool n.to.ac):=(hb.cell (p:=⟨pb,po+i*14+11,none⟩) hpb).trans (hcell 11 (by omega))
 have k12:w1.cell? ⟨pb,po+i*14+12,none⟩=some (.bool n.to.ar):=(hb.cell (p:=⟨pb,po+i*14+12,none⟩) hpb).trans (hcell 12 (by omega))
 have k13:w1.cell? ⟨pb,po+i*14+13,none⟩=some (.slice Ak m ck):=(hb.cell (p:=⟨pb,po+i*14+13,none⟩) hpb).trans (hcell 13 (by omega))
 have HK:=Lib.hid hk
 have HT:=Lib.hid (show (⟨#[35,82,69,70,33]⟩:ByteArray)=strOfNums (shN ns (i:Int)) by rw [HSH.out,if_neg (by omega),if_neg (by omega),if_neg (by omega),if_pos hk];decide)
 clear hk
 have hB3:Below w1.heap.size w1 (w1.alloc (.cells #[.int .i64 n.kind,.int .i64 n.num,.string n.text,.string n.ref.sh,.int .i64 n.ref.c,.int .i64 n.ref.r,.bool n.ref.ac,.bool n.ref.ar,.string n.to.sh,.int .i64 n.to.c,.int .i64 n.to.r,.bool n.to.ac,.bool n.to.ar,.slice Ak m ck] 61)):=(Below.refl _ _).alloc (Nat.le_refl _) _
 have HN3:NdAt (w1.alloc (.cells #[.int .i64 n.kind,.int .i64 n.num,.string n.text,.string n.ref.sh,.int .i64 n.ref.c,.int .i64 n.ref.r,.bool n.ref.ac,.bool n.ref.ar,.string n.to.sh,.int .i64 n.to.c,.int .i64 n.to.r,.bool n.to.ac,.bool n.to.ar,.slice Ak m ck] 61)) w1.heap.size n (.slice Ak m ck):=NdAt.new w1 n _
 have HB3:=Lib.hid hB3
 clear hB3 C hi hmem hcell hkat hkc hkm hm hnl hnode hlf hsk hb
 go_enter Tryz.func36,Tryz.ntmps36
 go_upto_region 2 with (fail)
 generalize hb3:w1.heap.size=b3 at HN3 ⊢
 generalize w1.alloc (.cells #[.int .i64 n.kind,.int .i64 n.num,.string n.text,.string n.ref.sh,.int .i64 n.ref.c,.int .i64 n.ref.r,.bool n.ref.ac,.bool n.ref.ar,.string n.to.sh,.int .i64 n.to.c,.int .i64 n.to.r,.bool n.to.ac,.bool n.to.ar,.slice Ak m ck] 61)=w3 at HN3 HB3 ⊢
 clear hb3 k0 k1 k2 k3 k4 k5 k6 k7 k8 k9 k10 k11 k12 k13
 obtain ⟨x0,x1,x2,x3,x4,x5,x6,x7,x8,x9,x10,x11,x12,x13⟩:=HN3.cells
 have hb3:=HN3.lt
 have HN3:=Lib.hid HN3
 have hk:=HK.out
 have e1:(n.kind == 1)=false:=by rw [hk];rfl
 have e2:(n.kind == 2)=false:=by rw [hk];rfl
 have e3:(n.kind == 3)=false:=by rw [hk];rfl
 have e4:(n.kind == 4)=true:=by rw [hk];rfl
 clear hk
 go_wp2_with fail
 go_ret
 exact ⟨ret_str HT.out,HB3.out⟩
set_option maxRecDepth 100000 in
set_option maxHeartbeats 4000000 in
theorem shown_5 {w:World} {v:Value} {l:List (Nd × Value)} {ns:List Nd} (C:ShC w v l ns) (i:Nat) (n:Nd) (k:Value) (hi:l[i]? = some (n,k)) (hk:n.kind=5) (w1:World) (hb:Below w.heap.size w w1) :
 Calls Tryz.prog 36 #[v,.int .i64 (i:Int)] w1 (ShR ns i w1):=by
 obtain ⟨hnode,hil⟩:=C.node hi
 have hlf:=C.leaf hi
 have hmem:=List.mem_of_getElem? hi
 have hll:i<l.length:=(List.getElem?_eq_some_iff.1 hi).1
 obtain ⟨hz1,hz2,hz3⟩:=(show n.text.size≤1000000∧n.ref.sh.size≤1000000∧n.to.sh.size≤1000000 from C.sizes _ hmem)
 have hnum:n.num≤9223372036854775807:=C.nums _ hmem
 have hfew:=C.few
 have HC:=Lib.hid C
 obtain ⟨A,cap,rfl⟩:=C.sn.lenle
 obtain ⟨hsk,pb,po,rfl,hpb,hcell⟩:=C.sn.cellAt hi
 obtain ⟨Ak,ck,hkk,hkc,hkm,hkat⟩:=id hsk
 obtain ⟨m,hm⟩:∃ m,n.kids.length=m:=⟨_,rfl⟩
 rw [hm] at hkk hkc
 subst hkk
 obtain ⟨nl,hnl⟩:∃ nl,l.length=nl:=⟨_,rfl⟩
 rw [hnl] at hll hfew ⊢
 have hii:(i:Int)<(nl:Int):=by omega
 have hi0:(0:Int)≤(i:Int):=by omega
 have hmx:m≤9223372036854775807:=by unfold maxLen at hkm;omega
 have HM:=Lib.hid hm;have HNL:=Lib.hid hnl;have HKAT:=Lib.hid hkat;have HND:=Lib.hid hnode;have HLF:=Lib.hid hlf;have HKC:=Lib.hid hkc;have HB:=Lib.hid hb
 have HSH:=Lib.hid (shN_eq C.tree (i:=(i:Int)) (by omega) (by omega) n hnode)
 have k0:w1.cell? ⟨pb,po+i*14,none⟩=some (.int .i64 n.kind):=(hb.cell (p:=⟨pb,po+i*14,none⟩) hpb).trans (hcell 0 (by omega))
 have k1:w1.cell? ⟨pb,po+i*14+1,none⟩=some (.int .i64 n.num):=(hb.cell (p:=⟨pb,po+i*14+1,none⟩) hpb).trans (hcell 1 (by omega))
 have k2:w1.cell? ⟨pb,po+i*14+2,none⟩=some (.string n.text):=(hb.cell (p:=⟨pb,po+i*14+2,none⟩) hpb).trans (hcell 2 (by omega))
 have k3:w1.cell? ⟨pb,po+i*14+3,none⟩=some (.string n.ref.sh):=(hb.cell (p:=⟨pb,po+i*14+3,none⟩) hpb).trans (hcell 3 (by omega))
 have k4:w1.cell? ⟨pb,po+i*14+4,none⟩=some (.int .i64 n.ref.c):=(hb.cell (p:=⟨pb,po+i*14+4,none⟩) hpb).trans (hcell 4 (by omega))
 have k5:w1.cell? ⟨pb,po+i*14+5,none⟩=some (.int .i64 n.ref.r):=(hb.cell (p:=⟨pb,po+i*14+5,none⟩) hpb).trans (hcell 5 (by omega))
 have k6:w1.cell? ⟨pb,po+i*14+6,none⟩=some (.bool n.ref.ac):=(hb.cell (p:=⟨pb,po+i*14+6,none⟩) hpb).trans (hcell 6 (by omega))
 have k7:w1.cell? ⟨pb,po+i*14+7,none⟩=some (.bool n.ref.ar):=(hb.cell (p:=⟨pb,po+i*14+7,none⟩) hpb).trans (hcell 7 (by omega))
 have k8:w1.cell? ⟨pb,po+i*14+8,none⟩=some (.string n.to.sh):=(hb.cell (p:=⟨pb,po+i*14+8,none⟩) hpb).trans (hcell 8 (by omega))
 have k9:w1.cell? ⟨pb,po+i*14+9,none⟩=some (.int .i64 n.to.c):=(hb.cell (p:=⟨pb,po+i*14+9,none⟩) hpb).trans (hcell 9 (by omega))
 have k10:w1.cell? ⟨pb,po+i*14+10,none⟩=some (.int .i64 n.to.r):=(hb.cell (p:=⟨pb,po+i*14+10,none⟩) hpb).trans (hcell 10 (by omega))
 have k11:w1.cell? ⟨pb,po+i*14+11,none⟩=some (.bool n.to.ac):=(hb.cell (p:=⟨pb,po+i*14+11,none⟩) hpb).trans (hcell 11 (by omega))
 have k12:w1.cell? ⟨pb,po+i*14+12,none⟩=some (.bool n.to.ar):=(hb.cell (p:=⟨pb,po+i*14+12,none⟩) hpb).trans (hcell 12 (by omega))
 have k13:w1.cell? ⟨pb,po+i*14+13,none⟩=some (.slice Ak m ck):=(hb.cell (p:=⟨pb,po+i*14+13,none⟩) hpb).trans (hcell 13 (by omega))
 have HK:=Lib.hid hk
 have HT:=Lib.hid (show shN ns (i:Int)=textL (sb n.ref.sh) n.ref.c n.ref.r n.ref.ac n.ref.ar by rw [HSH.out,if_neg (by omega),if_neg (by omega),if_neg (by omega),if_neg (by omega),if_pos hk])
 clear hk
 have hB3:Below w1.heap.size w1 (w1.alloc (.cells #[.int .i64 n.kind,.int .i64 n.num,.string n.text,.string n.ref.sh,.int .i64 n.ref.c,.int .i64 n.ref.r,.bool n.ref.ac,.bool n.ref.ar,.string n.to.sh,.int .i64 n.to.c,.int .i64 n.to.r,.bool n.to.ac,.bool n.to.ar,.slice Ak m ck] 61)):=(Below.refl _ _).alloc (Nat.le_refl _) _
 have HN3:NdAt (w1.alloc (.cells #[.int .i64 n.kind,.int .i64 n.num,.string n.text,.string n.ref.sh,.int .i64 n.ref.c,.int .i64 n.ref.r,.bool n.ref.ac,.bool n.ref.ar,.string n.to.sh,.int .i64 n.to.c,.int .i64 n.to.r,.bool n.to.ac,.bool n.to.ar,.slice Ak m ck] 61)) w1.heap.size n (.slice Ak m ck):=NdAt.new w1 n _
 have HB3:=Lib.hid hB3
 clear hB3 C hi hmem hcell hkat hkc hkm hm hnl hnode hlf hsk hb
 go_enter Tryz.func36,Tryz.ntmps36
 go_upto_region 2 with (fail)
 generalize hb3:w1.heap.size=b3 at HN3 ⊢
 generalize w1.alloc (.cells #[.int .i64 n.kind,.int .i64 n.num,.string n.text,.string n.ref.sh,.int .i64 n.ref.c,.int .i64 n.ref.r,.bool n.ref.ac,.bool n.ref.ar,.string n.to.sh,.int .i64 n.to.c,.int .i64 n.to.r,.bool n.to.ac,.bool n.to.ar,.slice Ak m ck] 61)=w3 at HN3 HB3 ⊢
 clear hb3 k0 k1 k2 k3 k4 k5 k6 k7 k8 k9 k10 k11 k12 k13
 obtain ⟨x0,x1,x2,x3,x4,x5,x6,x7,x8,x9,x10,x11,x12,x13⟩:=HN3.cells
 have hb3:=HN3.lt
 have HN3:=Lib.hid HN3
 have hk:=HK.out
 have e1:(n.kind == 1)=false:=by rw [hk];rfl
 have e2:(n.kind == 2)=false:=by rw [hk];rfl
 have e3:(n.kind == 3)=false:=by rw [hk];rfl
 have e4:(n.kind == 4)=false:=by rw [hk];rfl
 have e5:(n.kind == 5)=true:=by rw [hk];rfl
 clear hk
 have HD:=Lib.hid (fun w=>refText_any n.ref.sh n.ref.c n.ref.r n.ref.ac n.ref.ar w hz2)
 go_wp2_with (go_at_call 67;((with_reducible refine (HD.out _).mono ?_);rintro e w4 ⟨rfl,h1⟩;have HB4:=Lib.hid (HB3.out.trans (h1.mono HB3.out.size));clear h1))
 go_ret
 exact ⟨by rw [HT.out] <;> rfl,HB4.out⟩
theorem inL_len (b:Bool) (t:List Int):t.length≤(inL b t).length∧(inL b t).length≤t.length+2:=by
 unfold inL;cases b <;> simp <;> omega
theorem strOf_forty:(⟨#[40]⟩:ByteArray)=strOfNums [40]:=by decide
theorem strOf_fortyone:(⟨#[41]⟩:ByteArray)=strOfNums [41]:=by decide
theorem refInL_any (t:List Int) (b:Bool) (w:World) (hs:t.length≤10000000000):Calls Tryz.prog 68 #[.string (strOfNums t),.bool b] w fun e w'=>e = .returned (.string (strOfNums (inL b t)))∧w=w':=by
 have hz:(strOfNums t).size=t.length:=strOfNums_size t
 cases b
 · go_enter Tryz.func68,Tryz.ntmps68
   go_wp2_with fail
   go_ret
   exact ⟨rfl,rfl⟩
 · have HS:=Lib.hid (show ((⟨#[40]⟩:ByteArray)++strOfNums t)++⟨#[41]⟩=strOfNums (inL true t) by rw [strOf_forty,strOf_fortyone,str_append,str_append];rfl)
   obtain ⟨s,hs2⟩:∃ s,strOfNums t=s:=⟨_,rfl⟩
   rw [hs2] at HS hz ⊢
   have hz2:s.size≤10000000000:=by omega
   have h1:¬ 9223372036854775807<(⟨#[40]⟩:ByteArray).size+s.size:=by show ¬ _<1+s.size;omega
   have h2:((⟨#[40]⟩:ByteArray)++s).size=1+s.size:=by rw [ByteArray.size_append];rfl
   clear hs2 hz
   go_enter Tryz.func68,Tryz.ntmps68
   go_wp2_with fail
   go_ret
   exact ⟨ret_str HS.out,rfl⟩
theorem ShC.kid {w:World} {v:Value} {l:List (Nd × Value)} {ns:List Nd} (h:ShC w v l ns) {i:Nat} {n:Nd} {k:Value} (hi:l[i]? = some (n,k)) {x:Int} (hx:x∈n.kids):∃ j:Nat,x=(j:Int)∧j<i∧j<l.length∧∃ q kq,l[j]? = some (q,kq)∧nodeAt ns (j:Int)=q:=by
 obtain ⟨h1,h2⟩:=h.node hi
 have hk:=(tree_at h.tree (i:=(i:Int)) (by omega) (by omega)).2
 rw [h1] at hk
 obtain ⟨h3,h4⟩:=hk x hx
 have hl:=(List.getElem?_eq_some_iff.1 hi).1
 have hjl:x.toNat<l.length:=by omega
 have he:l[x.toNat]? = some (l[x.toNat].1,l[x.toNat].2):=List.getElem?_eq_getElem hjl
 exact ⟨x.toNat,by omega,by omega,hjl,_,_,he,(h.node he).1⟩
def ShIH (w:World) (v:Value) (ns:List Nd) (i:Nat):Prop:=∀ j:Nat,j<i→(shN ns (j:Int)).length≤1000000000→∀ w1,Below w.heap.size w w1→Calls Tryz.prog 36 #[v,.int .i64 (j:Int)] w1 (ShR ns j w1)
set_option maxRecDepth 100000 in
set_option maxHeartbeats 4000000 in
theorem shown_6 {w:World} {v:Value} {l:List (Nd × Value)} {ns:List Nd} (C:ShC w v l ns) (i:Nat) (n:Nd) (k:Value) (hi:l[i]? = some (n,k)) (hk:n.kind=6) (w1:World) (hb:Below w.heap.size w w1) :
 Calls Tryz.prog 36 #[v,.int .i64 (i:Int)] w1 (ShR ns i w1):=by
 obtain ⟨hnode,hil⟩:=C.node hi
 have hlf:=C.leaf hi
 have hmem:=List.mem_of_getElem? hi
 have hll:i<l.length:=(List.getElem?_eq_some_iff.1 hi).1
 obtain ⟨hz1,hz2,hz3⟩:=(show n.text.size≤1000000∧n.ref.sh.size≤1000000∧n.to.sh.size≤1000000 from C.sizes _ hmem)
 have hnum:n.num≤9223372036854775807:=C.nums _ hmem
 have hfew:=C.few
 have HC:=Lib.hid C
 obtain ⟨A,cap,rfl⟩:=C.sn.lenle
 obtain ⟨hsk,pb,po,rfl,hpb,hcell⟩:=C.sn.cellAt hi
 obtain ⟨Ak,ck,hkk,hkc,hkm,hkat⟩:=id hsk
 obtain ⟨m,hm⟩:∃ m,n.kids.length=m:=⟨_,rfl⟩
 rw [hm] at hkk hkc
 subst hkk
 obtain ⟨nl,hnl⟩:∃ nl,l.length=nl:=⟨_,rfl⟩
 rw [hnl] at hll hfew ⊢
 have hii:(i:Int)<(nl:Int):=by omega
 have hi0:(0:Int)≤(i:Int):=by omega
 have hmx:m≤9223372036854775807:=by unfold maxLen at hkm;omega
 have HM:=Lib.hid hm;have HNL:=Lib.hid hnl;have HKAT:=Lib.hid hkat;have HND:=Lib.hid hnode;have HLF:=Lib.hid hlf;have HKC:=Lib.hid hkc;have HB:=Lib.hid hb
 have HSH:=Lib.hid (shN_eq C.tree (i:=(i:Int)) (by omega) (by omega) n hnode)
 have k0:w1.cell? ⟨pb,po+i*14,none⟩=some (.int .i64 n.kind):=(hb.cell (p:=⟨pb,po+i*14,none⟩) hpb).trans (hcell 0 (by omega))
 have k1:w1.cell? ⟨pb,po+i*14+1,none⟩=some (.int .i64 n.num):=(hb.cell (p:=⟨pb,po+i*14+1,none⟩) hpb).trans (hcell 1 (by omega))
 have k2:w1.cell? ⟨pb,po+i*14+2,none⟩=some (.string n.text):=(hb.cell (p:=⟨pb,po+i*14+2,none⟩) hpb).trans (hcell 2 (by omega))
 have k3:w1.cell? ⟨pb,po+i*14+3,none⟩=some (.string n.ref.sh):=(hb.cell (p:=⟨pb,po+i*14+3,none⟩) hpb).trans (hcell 3 (by omega))
 have k4:w1.cell? ⟨pb,po+i*14+4,none⟩=some (.int .i64 n.ref.c):=(hb.cell (p:=⟨pb,po+i*14+4,none⟩) hpb).trans (hcell 4 (by omega))
 have k5:w1.cell? ⟨pb,po+i*14+5,none⟩=some (.int .i64 n.ref.r):=(hb.cell (p:=⟨pb,po+i*14+5,none⟩) hpb).trans (hcell 5 (by omega))
 have k6:w1.cell? ⟨pb,po+i*14+6,none⟩=some (.bool n.ref.ac):=(hb.cell (p:=⟨pb,po+i*14+6,none⟩) hpb).trans (hcell 6 (by omega))
 have k7:w1.cell? ⟨pb,po+i*14+7,none⟩=some (.bool n.ref.ar):=(hb.cell (p:=⟨pb,po+i*14+7,none⟩) hpb).trans (hcell 7 (by omega))
 have k8:w1.cell? ⟨pb,po+i*14+8,none⟩=some (.string n.to.sh):=(hb.cell (p:=⟨pb,po+i*14+8,none⟩) hpb).trans (hcell 8 (by omega))
 have k9:w1.cell? ⟨pb,po+i*14+9,none⟩=some (.int .i64 n.to.c):=(hb.cell (p:=⟨pb,po+i*14+9,none⟩) hpb).trans (hcell 9 (by omega))
 have k10:w1.cell? ⟨pb,po+i*14+10,none⟩=some (.int .i64 n.to.r):=(hb.cell (p:=⟨pb,po+i*14+10,none⟩) hpb).trans (hcell 10 (by omega))
 have k11:w1.cell? ⟨pb,po+i*14+11,none⟩=some (.bool n.to.ac):=(hb.cell (p:=⟨pb,po+i*14+11,none⟩) hpb).trans (hcell 11 (by omega))
 have k12:w1.cell? ⟨pb,po+i*14+12,none⟩=some (.bool n.to.ar):=(hb.cell (p:=⟨pb,po+i*14+12,none⟩) hpb).trans (hcell 12 (by omega))
 have k13:w1.cell? ⟨pb,po+i*14+13,none⟩=some (.slice Ak m ck):=(hb.cell (p:=⟨pb,po+i*14+13,none⟩) hpb).trans (hcell 13 (by omega))
 have HK:=Lib.hid hk
 have HT:=Lib.hid (show shN ns (i:Int)=textL (sb n.ref.sh) n.ref.c n.ref.r n.ref.ac n.ref.ar++58 :: textL (sb n.to.sh) n.to.c n.to.r n.to.ac n.to.ar by rw [HSH.out,if_neg (by omega),if_neg (by omega),if_neg (by omega),if_neg (by omega),if_neg (by omega),if_pos hk])
 clear hk
 have hB3:Below w1.heap.size w1 (w1.alloc (.cells #[.int .i64 n.kind,.int .i64 n.num,.string n.text,.string n.ref.sh,.int .i64 n.ref.c,.int .i64 n.ref.r,.bool n.ref.ac,.bool n.ref.ar,.string n.to.sh,.int .i64 n.to.c,.int .i64 n.to.r,.bool n.to.ac,.bool n.to.ar,.slice Ak m ck] 61)):=(Below.refl _ _).alloc (Nat.le_refl _) _
 have HN3:NdAt (w1.alloc (.cells #[.int .i64 n.kind,.int .i64 n.num,.string n.text,.string n.ref.sh,.int .i64 n.ref.c,.int .i64 n.ref.r,.bool n.ref.ac,.bool n.ref.ar,.string n.to.sh,.int .i64 n.to.c,.int .i64 n.to.r,.bool n.to.ac,.bool n.to.ar,.slice Ak m ck] 61)) w1.heap.size n (.slice Ak m ck):=NdAt.new w1 n _
 have HB3:=Lib.hid hB3
 clear hB3 C hi hmem hcell hkat hkc hkm hm hnl hnode hlf hsk hb
 go_enter Tryz.func36,Tryz.ntmps36
 go_upto_region 2 with (fail)
 generalize hb3:w1.heap.size=b3 at HN3 ⊢
 generalize w1.alloc (.cells #[.int .i64 n.kind,.int .i64 n.num,.string n.text,.string n.ref.sh,.int .i64 n.ref.c,.int .i64 n.ref.r,.bool n.ref.ac,.bool n.ref.ar,.string n.to.sh,.int .i64 n.to.c,.int .i64 n.to.r,.bool n.to.ac,.bool n.to.ar,.slice Ak m ck] 61)=w3 at HN3 HB3 ⊢
 clear hb3 k0 k1 k2 k3 k4 k5 k6 k7 k8 k9 k10 k11 k12 k13
 obtain ⟨x0,x1,x2,x3,x4,x5,x6,x7,x8,x9,x10,x11,x12,x13⟩:=HN3.cells
 have hb3:=HN3.lt
 have HN3:=Lib.hid HN3
 have hk:=HK.out
 have e1:(n.kind == 1)=false:=by rw [hk];rfl
 have e2:(n.kind == 2)=false:=by rw [hk];rfl
 have e3:(n.kind == 3)=false:=by rw [hk];rfl
 have e4:(n.kind == 4)=false:=by rw [hk];rfl
 have e5:(n.kind == 5)=false:=by rw [hk];rfl
 have e6:(n.kind == 6)=true:=by rw [hk];rfl
 clear hk
 have HD:=Lib.hid (fun w=>refText_any n.ref.sh n.ref.c n.ref.r n.ref.ac n.ref.ar w hz2)
 have HE:=Lib.hid (fun w=>refText_any n.to.sh n.to.c n.to.r n.to.ac n.to.ar w hz3)
 have l1:=textL_len (sb n.ref.sh) n.ref.c n.ref.r n.ref.ac n.ref.ar
 have l2:=textL_len (sb n.to.sh) n.to.c n.to.r n.to.ac n.to.ar
 rw [length_sb] at l1 l2
 obtain ⟨T1,hT1⟩:∃ T,textL (sb n.ref.sh) n.ref.c n.ref.r n.ref.ac n.ref.ar=T:=⟨_,rfl⟩
 obtain ⟨T2,hT2⟩:∃ T,textL (sb n.to.sh) n.to.c n.to.r n.to.ac n.to.ar=T:=⟨_,rfl⟩
 rw [hT1] at HD HT l1
 rw [hT2] at HE HT l2
 clear hT1 hT2
 have HR:=Lib.hid (show (strOfNums T1++⟨#[58]⟩)++strOfNums T2=strOfNums (shN ns (i:Int)) by rw [HT.out,show (⟨#[58]⟩:ByteArray)=strOfNums [58] by decide,str_append,str_append];simp)
 have hs1:(strOfNums T1).size=T1.length:=strOfNums_size T1
 have hs2:(strOfNums T2).size=T2.length:=strOfNums_size T2
 obtain ⟨t1,ht1⟩:∃ t,strOfNums T1=t:=⟨_,rfl⟩
 obtain ⟨t2,ht2⟩:∃ t,strOfNums T2=t:=⟨_,rfl⟩
 rw [ht1] at HD HR hs1
 rw [ht2] at HE HR hs2
 clear ht1 ht2
 have q1:¬ 9223372036854775807<t1.size+(⟨#[58]⟩:ByteArray).size:=by show ¬ _<t1.size+1;omega
 have q2:(t1++(⟨#[58]⟩:ByteArray)).size=t1.size+1:=by rw [ByteArray.size_append];rfl
 have q3:¬ 9223372036854775807<t1.size+1+t2.size:=by omega
 have q4:¬ 9223372036854775807<t1.size+1:=by omega
 have b1:t1.size≤1000008:=by omega
 have b2:t2.size≤1000008:=by omega
 have H3:=Lib.hid ((Below.refl w3.heap.size w3).drew)
 clear hs1 hs2 l1 l2
 go_upto_region 16 with (fail)
 go_region_held3 (fun w'=>w'.cell? ⟨b3,3,none⟩=some (.string n.ref.sh)∧w'.cell? ⟨b3,4,none⟩=some (.int .i64 n.ref.c)∧w'.cell? ⟨b3,5,none⟩=some (.int .i64 n.ref.r)∧w'.cell? ⟨b3,6,none⟩=some (.bool n.ref.ac)∧w'.cell? ⟨b3,7,none⟩=some (.bool n.ref.ar)∧w'.cell? ⟨b3,8,none⟩=some (.string n.to.sh)∧w'.cell? ⟨b3,9,none⟩=some (.int .i64 n.to.c)∧w'.cell? ⟨b3,10,none⟩=some (.int .i64 n.to.r)∧w'.cell? ⟨b3,11,none⟩=some (.bool n.to.ac)∧w'.cell? ⟨b3,12,none⟩=some (.bool n.to.ar)) (go_keep) (first
  | (go_at_call 67;((with_reducible refine (HD.out _).mono ?_);rintro e w4 ⟨rfl,h1⟩;have H4:=Lib.hid (H3.out.trans (h1.mono H3.out.size));clear h1;have y3:=(H4.out.cell (p:=⟨b3,3,none⟩) hb3).trans x3;have y4:=(H4.out.cell (p:=⟨b3,4,none⟩) hb3).trans x4;have y5:=(H4.out.cell (p:=⟨b3,5,none⟩) hb3).trans x5;have y6:=(H4.out.cell (p:=⟨b3,6,none⟩) hb3).trans x6;have y7:=(H4.out.cell (p:=⟨b3,7,none⟩) hb3).trans x7;have y8:=(H4.out.cell (p:=⟨b3,8,none⟩) hb3).trans x8;have y9:=(H4.out.cell (p:=⟨b3,9,none⟩) hb3).trans x9;have y10:=(H4.out.cell (p:=⟨b3,10,none⟩) hb3).trans x10;have y11:=(H4.out.cell (p:=⟨b3,11,none⟩) hb3).trans x11;have y12:=(H4.out.cell (p:=⟨b3,12,none⟩) hb3).trans x12))
  | (go_at_call 67;((with_reducible refine (HE.out _).mono ?_);rintro e w5 ⟨rfl,h1⟩;have H5:=Lib.hid (H4.out.trans (h1.mono H4.out.size));clear h1;have z3:=(H5.out.cell (p:=⟨b3,3,none⟩) hb3).trans x3;have z4:=(H5.out.cell (p:=⟨b3,4,none⟩) hb3).trans x4;have z5:=(H5.out.cell (p:=⟨b3,5,none⟩) hb3).trans x5;have z6:=(H5.out.cell (p:=⟨b3,6,none⟩) hb3).trans x6;have z7:=(H5.out.cell (p:=⟨b3,7,none⟩) hb3).trans x7;have z8:=(H5.out.cell (p:=⟨b3,8,none⟩) hb3).trans x8;have z9:=(H5.out.cell (p:=⟨b3,9,none⟩) hb3).trans x9;have z10:=(H5.out.cell (p:=⟨b3,10,none⟩) hb3).trans x10;have z11:=(H5.out.cell (p:=⟨b3,11,none⟩) hb3).trans x11;have z12:=(H5.out.cell (p:=⟨b3,12,none⟩) hb3).trans x12)))
 all_goals go_wp2_with fail
 all_goals go_ret
 all_goals exact ⟨ret_str HR.out,HB3.out.trans (H5.out.mono HB3.out.size)⟩
set_option maxRecDepth 100000 in
set_option maxHeartbeats 4000000 in
theorem shown_8 {w:World} {v:Value} {l:List (Nd × Value)} {ns:List Nd} (C:ShC w v l ns) (i:Nat) (n:Nd) (k:Value) (hi:l[i]? = some (n,k)) (hk:n.kind=8) (hlen:(shN ns (i:Int)).length≤1000000000) (IH:ShIH w v ns i) (w1:World) (hb:Below w.heap.size w w1) :
 Calls Tryz.prog 36 #[v,.int .i64 (i:Int)] w1 (ShR ns i w1):=by
 obtain ⟨hnode,hil⟩:=C.node hi
 have hlf:=C.leaf hi
 have hmem:=List.mem_of_getElem? hi
 have hll:i<l.length:=(List.getElem?_eq_some_iff.1 hi).1
 obtain ⟨hz1,hz2,hz3⟩:=(show n.text.size≤1000000∧n.ref.sh.size≤1000000∧n.to.sh.size≤1000000 from C.sizes _ hmem)
 have hnum:n.num≤9223372036854775807:=C.nums _ hmem
 have hfew:=C.few
 have HC:=Lib.hid C
 obtain ⟨A,cap,rfl⟩:=C.sn.lenle
 obtain ⟨hsk,pb,po,rfl,hpb,hcell⟩:=C.sn.cellAt hi
 obtain ⟨Ak,ck,hkk,hkc,hkm,hkat⟩:=id hsk
 obtain ⟨m,hm⟩:∃ m,n.kids.length=m:=⟨_,rfl⟩
 rw [hm] at hkk hkc
 subst hkk
 obtain ⟨nl,hnl⟩:∃ nl,l.length=nl:=⟨_,rfl⟩
 rw [hnl] at hll hfew ⊢
 have hii:(i:Int)<(nl:Int):=by omega
 have hi0:(0:Int)≤(i:Int):=by omega
 have hmx:m≤9223372036854775807:=by unfold maxLen at hkm;omega
 have HM:=Lib.hid hm;have HNL:=Lib.hid hnl;have HKAT:=Lib.hid hkat;have HND:=Lib.hid hnode;have HLF:=Lib.hid hlf;have HKC:=Lib.hid hkc;have HB:=Lib.hid hb
 have HSH:=Lib.hid (shN_eq C.tree (i:=(i:Int)) (by omega) (by omega) n hnode)
 have hk1:n.kids.length=1:=(arms_kids hlf).1 hk
 have hm1:m=1:=by rw [← hm];exact hk1
 subst hm1
 have hkne:n.kids≠[]:=by intro e;rw [e] at hm;simp at hm
 obtain ⟨kb,ko,rfl,hkb,hkc2⟩:=hkat.resolve_left hkne
 obtain ⟨a,hka⟩:∃ x,n.kids[0]? = some x:=⟨_,List.getElem?_eq_getElem (by omega)⟩
 have hga:n.kids.getD 0 0=a:=by rw [List.getD_eq_getElem?_getD,hka];rfl
 obtain ⟨ja,rfl,hja,hjla,q,kva,hla,hna⟩:=C.kid hi (List.mem_of_getElem? hka)
 obtain ⟨-,pba,poa,hpa, -,hca⟩:=C.sn.cellAt hla
 injection hpa with hpa;injection hpa with hp1 hp2;subst hp1;subst hp2
 have ca:w1.cell? ⟨pb,po+ja*14,none⟩=some (.int .i64 q.kind):=(hb.cell (p:=⟨pb,po+ja*14,none⟩) hpb).trans (hca 0 (by omega))
 have da:w1.cell? ⟨kb,ko,none⟩=some (.int .i64 (ja:Int)):=(hb.cell (p:=⟨kb,ko,none⟩) hkb).trans (hkc2 0 _ hka)
 obtain ⟨Ra,hRa⟩:∃ R:Int,((rankL q.kind:Nat):Int)+1=R:=⟨_,rfl⟩
 have HRa:=Lib.hid (show ∀ w,Calls Tryz.prog 69 #[.int .i64 q.kind] w (fun e w'=>e = .returned (.int .i64 Ra)∧w=w') from fun w=>by rw [← hRa];exact refRank_any q.kind w)
 have hia:(ja:Int)<(l.length:Int):=by omega
 have HT:=Lib.hid (show shN ns (i:Int)=45 :: inL (decide (rankL q.kind<4)) (shN ns (ja:Int)) by rw [HSH.out,if_neg (by omega),if_neg (by omega),if_neg (by omega),if_neg (by omega),if_neg (by omega),if_neg (by omega),if_neg (by omega),if_pos hk,hga,hna])
 have hba:(shN ns (ja:Int)).length≤1000000000:=by rw [HT.out] at hlen;have:=(inL_len (decide (rankL q.kind<4)) (shN ns (ja:Int))).1;simp only [List.length_cons] at hlen;omega
 have hIA:=IH ja hja hba
 rw [hnl] at hIA
 have HIA:=Lib.hid hIA
 have hRd:decide (rankL q.kind<4)=decide (Ra<5):=by rw [decide_eq_decide];omega
 rw [hRd] at HT
 have HCA:=Lib.hid (show Below w1.heap.size w1 w1→True from fun _=>trivial)
 clear hIA HCA hRd hRa hga hka hla hna hca hkne hkc2 IH
 rw [hnl] at hia
 have k0:w1.cell? ⟨pb,po+i*14,none⟩=some (.int .i64 n.kind):=(hb.cell (p:=⟨pb,po+i*14,none⟩) hpb).trans (hcell 0 (by omega))
 have k1:w1.cell? ⟨pb,po+i*14+1,none⟩=some (.int .i64 n.num):=(hb.cell (p:=⟨pb,po+i*14+1,none⟩) hpb).trans (hcell 1 (by omega))
 have k2:w1.cell? ⟨pb,po+i*14+2,none⟩=some (.string n.text):=(hb.cell (p:=⟨pb,po+i*14+2,none⟩) hpb).trans (hcell 2 (by omega))
 have k3:w1.cell? ⟨pb,po+i*14+3,none⟩=some (.string n.ref.sh):=(hb.cell (p:=⟨pb,po+i*14+3,none⟩) hpb).trans (hcell 3 (by omega))
 have k4:w1.cell? ⟨pb,po+i*14+4,none⟩=some (.int .i64 n.ref.c):=(hb.cell (p:=⟨pb,po+i*14+4,none⟩) hpb).trans (hcell 4 (by omega))
 have k5:w1.cell? ⟨pb,po+i*14+5,none⟩=some (.int .i64 n.ref.r):=(hb.cell (p:=⟨pb,po+i*14+5,none⟩) hpb).trans (hcell 5 (by omega))
 have k6:w1.cell? ⟨pb,po+i*14+6,none⟩=some (.bool n.ref.ac):=(hb.cell (p:=⟨pb,po+i*14+6,none⟩) hpb).trans (hcell 6 (by omega))
 have k7:w1.cell? ⟨pb,po+i*14+7,none⟩=some (.bool n.ref.ar):=(hb.cell (p:=⟨pb,po+i*14+7,none⟩) hpb).trans (hcell 7 (by omega))
 have k8:w1.cell? ⟨pb,po+i*14+8,none⟩=some (.string n.to.sh):=(hb.cell (p:=⟨pb,po+i*14+8,none⟩) hpb).trans (hcell 8 (by omega))
 have k9:w1.cell? ⟨pb,po+i*14+9,none⟩=some (.int .i64 n.to.c):=(hb.cell (p:=⟨pb,po+i*14+9,none⟩) hpb).trans (hcell 9 (by omega))
 have k10:w1.cell? ⟨pb,po+i*14+10,none⟩=some (.int .i64 n.to.r):=(hb.cell (p:=⟨pb,po+i*14+10,none⟩) hpb).trans (hcell 10 (by omega))
 have k11:w1.cell? ⟨pb,po+i*14+11,none⟩=some (.bool n.to.ac):=(hb.cell (p:=⟨pb,po+i*14+11,none⟩) hpb).trans (hcell 11 (by omega))
 have k12:w1.cell? ⟨pb,po+i*14+12,none⟩=some (.bool n.to.ar):=(hb.cell (p:=⟨pb,po+i*14+12,none⟩) hpb).trans (hcell 12 (by omega))
 have k13:w1.cell? ⟨pb,po+i*14+13,none⟩=some (.slice (some ⟨kb,ko,none⟩) 1 ck):=(hb.cell (p:=⟨pb,po+i*14+13,none⟩) hpb).trans (hcell 13 (by omega))
 have HK:=Lib.hid hk
 clear hk hlen
 have hB3:Below w1.heap.size w1 (w1.alloc (.cells #[.int .i64 n.kind,.int .i64 n.num,.string n.text,.string n.ref.sh,.int .i64 n.ref.c,.int .i64 n.ref.r,.bool n.ref.ac,.bool n.ref.ar,.string n.to.sh,.int .i64 n.to.c,.int .i64 n.to.r,.bool n.to.ac,.bool n.to.ar,.slice (some ⟨kb,ko,none⟩) 1 ck] 61)):=(Below.refl _ _).alloc (Nat.le_refl _) _
 have HN3:NdAt (w1.alloc (.cells #[.int .i64 n.kind,.int .i64 n.num,.string n.text,.string n.ref.sh,.int .i64 n.ref.c,.int .i64 n.ref.r,.bool n.ref.ac,.bool n.ref.ar,.string n.to.sh,.int .i64 n.to.c,.int .i64 n.to.r,.bool n.to.ac,.bool n.to.ar,.slice (some ⟨kb,ko,none⟩) 1 ck] 61)) w1.heap.size n (.slice (some ⟨kb,ko,none⟩) 1 ck):=NdAt.new w1 n _
 have HB3:=Lib.hid hB3
 clear hB3 C hi hmem hcell hkat hkc hkm hm hnl hnode hlf hsk hb
 go_enter Tryz.func36,Tryz.ntmps36
 go_upto_region 2 with (fail)
 generalize hb3:w1.heap.size=b3 at HN3 ⊢
 generalize w1.alloc (.cells #[.int .i64 n.kind,.int .i64 n.num,.string n.text,.string n.ref.sh,.int .i64 n.ref.c,.int .i64 n.ref.r,.bool n.ref.ac,.bool n.ref.ar,.string n.to.sh,.int .i64 n.to.c,.int .i64 n.to.r,.bool n.to.ac,.bool n.to.ar,.slice (some ⟨kb,ko,none⟩) 1 ck] 61)=w3 at HN3 HB3 ⊢
 have s0:=(HB3.out.cell (p:=⟨kb,ko,none⟩) (Nat.lt_of_lt_of_le hkb HB.out.size)).trans da
 have s1:=(HB3.out.cell (p:=⟨pb,po+ja*14,none⟩) (Nat.lt_of_lt_of_le hpb HB.out.size)).trans ca
 clear da ca hb3 k0 k1 k2 k3 k4 k5 k6 k7 k8 k9 k10 k11 k12 k13
 obtain ⟨x0,x1,x2,x3,x4,x5,x6,x7,x8,x9,x10,x11,x12,x13⟩:=HN3.cells
 have hb3:=HN3.lt
 have HN3:=Lib.hid HN3
 have hk:=HK.out
 have e1:(n.kind == 1)=false:=by rw [hk];rfl
 have e2:(n.kind == 2)=false:=by rw [hk];rfl
 have e3:(n.kind == 3)=false:=by rw [hk];rfl
 have e4:(n.kind == 4)=false:=by rw [hk];rfl
 have e5:(n.kind == 5)=false:=by rw [hk];rfl
 have e6:(n.kind == 6)=false:=by rw [hk];rfl
 have e7:(n.kind == 7)=false:=by rw [hk];rfl
 have e8:(n.kind == 8)=true:=by rw [hk];rfl
 clear hk
 have hkb1:kb<w1.heap.size:=Nat.lt_of_lt_of_le hkb HB.out.size
 have hpb1:pb<w1.heap.size:=Nat.lt_of_lt_of_le hpb HB.out.size
 have hkb3:kb<w3.heap.size:=Nat.lt_of_lt_of_le hkb1 HB3.out.size
 have hpb3:pb<w3.heap.size:=Nat.lt_of_lt_of_le hpb1 HB3.out.size
 have HBW:=Lib.hid (HB.out.trans (HB3.out.mono HB.out.size))
 have H3:=Lib.hid ((Below.refl w3.heap.size w3).drew)
 have hzi:=(inL_len (decide (Ra<5)) (shN ns (ja:Int))).2
 have HIN:=Lib.hid (fun w=>refInL_any (shN ns (ja:Int)) (decide (Ra<5)) w (by omega))
 obtain ⟨T,hT⟩:∃ T,inL (decide (Ra<5)) (shN ns (ja:Int))=T:=⟨_,rfl⟩
 rw [hT] at HT HIN hzi
 have HRR:=Lib.hid (show (⟨#[45]⟩:ByteArray)++strOfNums T=strOfNums (shN ns (i:Int)) by rw [HT.out,show (⟨#[45]⟩:ByteArray)=strOfNums [45] by decide,str_append];rfl)
 have hs1:(strOfNums T).size=T.length:=strOfNums_size T
 obtain ⟨t,ht⟩:∃ t,strOfNums T=t:=⟨_,rfl⟩
 rw [ht] at HIN HRR hs1
 have q1:¬ 9223372036854775807<(⟨#[45]⟩:ByteArray).size+t.size:=by show ¬ _<1+t.size;omega
 have q2:¬ 9223372036854775807<1+t.size:=by omega
 clear ht hT hs1 hzi
 go_upto_region 27 with (fail)
 go_region_held3 (fun w'=>w'.cell? ⟨b3,13,none⟩=some (.slice (some ⟨kb,ko,none⟩) 1 ck)∧w'.cell? ⟨kb,ko,none⟩=some (.int .i64 (ja:Int))∧w'.cell? ⟨pb,po+ja*14,none⟩=some (.int .i64 q.kind)) (go_keep) (first
  | (go_at_call 36;((with_reducible refine (HIA.out _ (HBW.out.trans (H3.out.mono HBW.out.size))).mono ?_);rintro e w4 ⟨rfl,h1⟩;have H4:=Lib.hid (H3.out.trans (h1.mono H3.out.size));clear h1;have y0:=(H4.out.cell (p:=⟨b3,13,none⟩) hb3).trans x13;have y1:=(H4.out.cell (p:=⟨kb,ko,none⟩) hkb3).trans s0;have y2:=(H4.out.cell (p:=⟨pb,po+ja*14,none⟩) hpb3).trans s1))
  | (go_at_call 69;((with_reducible refine (HRa.out _).mono ?_);rintro e wn ⟨rfl,rfl⟩))
  | (go_at_call 68;((with_reducible refine (HIN.out _).mono ?_);rintro e wn ⟨rfl,rfl⟩)))
 all_goals go_wp2_with fail
 all_goals go_ret
 all_goals exact ⟨ret_str HRR.out,HB3.out.trans (H4.out.mono HB3.out.size)⟩
set_option maxRecDepth 100000 in
set_option maxHeartbeats 4000000 in
theorem shown_9 {w:World} {v:Value} {l:List (Nd × Value)} {ns:List Nd} (C:ShC w v l ns) (i:Nat) (n:Nd) (k:Value) (hi:l[i]? = some (n,k)) (hk:9≤n.kind) (hlen:(shN ns (i:Int)).length≤1000000000) (IH:ShIH w v ns i) (w1:World) (hb:Below w.heap.size w w1) :
 Calls Tryz.prog 36 #[v,.int .i64 (i:Int)] w1 (ShR ns i w1):=by
 obtain ⟨hnode,hil⟩:=C.node hi
 have hlf:=C.leaf hi
 have hmem:=List.mem_of_getElem? hi
 have hll:i<l.length:=(List.getElem?_eq_some_iff.1 hi).1
 obtain ⟨hz1,hz2,hz3⟩:=(show n.text.size≤1000000∧n.ref.sh.size≤1000000∧n.to.sh.size≤1000000 from C.sizes _ hmem)
 have hnum:n.num≤9223372036854775807:=C.nums _ hmem
 have hfew:=C.few
 have HC:=Lib.hid C
 obtain ⟨A,cap,rfl⟩:=C.sn.lenle
 obtain ⟨hsk,pb,po,rfl,hpb,hcell⟩:=C.sn.cellAt hi
 obtain ⟨Ak,ck,hkk,hkc,hkm,hkat⟩:=id hsk
 obtain ⟨m,hm⟩:∃ m,n.kids.length=m:=⟨_,rfl⟩
 rw [hm] at hkk hkc
 subst hkk
 obtain ⟨nl,hnl⟩:∃ nl,l.length=nl:=⟨_,rfl⟩
 rw [hnl] at hll hfew ⊢
 have hii:(i:Int)<(nl:Int):=by omega
 have hi0:(0:Int)≤(i:Int):=by omega
 have hmx:m≤9223372036854775807:=by unfold maxLen at hkm;omega
 have HM:=Lib.hid hm;have HNL:=Lib.hid hnl;have HKAT:=Lib.hid hkat;have HND:=Lib.hid hnode;have HLF:=Lib.hid hlf;have HKC:=Lib.hid hkc;have HB:=Lib.hid hb
 have HSH:=Lib.hid (shN_eq C.tree (i:=(i:Int)) (by omega) (by omega) n hnode)
 have hk1:n.kids.length=2:=(arms_kids hlf).2.1 hk
 have hk19:n.kind≤19:=(arms_kids hlf).2.2.2.2.1
 have hm1:m=2:=by rw [← hm];exact hk1
 subst hm1
 have hkne:n.kids≠[]:=by intro e;rw [e] at hm;simp at hm
 obtain ⟨gb,ko,rfl,hgk,hkc2⟩:=hkat.resolve_left hkne
 obtain ⟨a,hka⟩:∃ x,n.kids[0]? = some x:=⟨_,List.getElem?_eq_getElem (by omega)⟩
 have hga:n.kids.getD 0 0=a:=by rw [List.getD_eq_getElem?_getD,hka];rfl
 obtain ⟨ja,rfl,hja,hjla,q,kva,hla,hna⟩:=C.kid hi (List.mem_of_getElem? hka)
 obtain ⟨-,pba,poa,hpa, -,hca⟩:=C.sn.cellAt hla
 injection hpa with hpa;injection hpa with hp1 hp2;subst hp1;subst hp2
 have ca:w1.cell? ⟨pb,po+ja*14,none⟩=some (.int .i64 q.kind):=(hb.cell (p:=⟨pb,po+ja*14,none⟩) hpb).trans (hca 0 (by omega))
 have da:w1.cell? ⟨gb,ko,none⟩=some (.int .i64 (ja:Int)):=(hb.cell (p:=⟨gb,ko,none⟩) hgk).trans (hkc2 0 _ hka)
 obtain ⟨Ra,hRa⟩:∃ R:Int,((rankL q.kind:Nat):Int)+1=R:=⟨_,rfl⟩
 have HRa:=Lib.hid (show ∀ w,Calls Tryz.prog 69 #[.int .i64 q.kind] w (fun e w'=>e = .returned (.int .i64 Ra)∧w=w') from fun w=>by rw [← hRa];exact refRank_any q.kind w)
 have hia:(ja:Int)<(l.length:Int):=by omega
 obtain ⟨b,hkb⟩:∃ x,n.kids[1]? = some x:=⟨_,List.getElem?_eq_getElem (by omega)⟩
 have hgb:n.kids.getD 1 0=b:=by rw [List.getD_eq_getElem?_getD,hkb];rfl
 obtain ⟨jb,rfl,hjb,hjlb,r,kvb,hlb,hnb⟩:=C.kid hi (List.mem_of_getElem? hkb)
 obtain ⟨-,pbb,pob,hpb, -,hcb⟩:=C.sn.cellAt hlb
 injection hpb with hpb;injection hpb with hp1 hp2;subst hp1;subst hp2
 have cb:w1.cell? ⟨pb,po+jb*14,none⟩=some (.int .i64 r.kind):=(hb.cell (p:=⟨pb,po+jb*14,none⟩) hpb).trans (hcb 0 (by omega))
 have db:w1.cell? ⟨gb,ko+1,none⟩=some (.int .i64 (jb:Int)):=(hb.cell (p:=⟨gb,ko+1,none⟩) hgk).trans (hkc2 1 _ hkb)
 obtain ⟨Rb,hRb⟩:∃ R:Int,((rankL r.kind:Nat):Int)+1=R:=⟨_,rfl⟩
 have HRb:=Lib.hid (show ∀ w,Calls Tryz.prog 69 #[.int .i64 r.kind] w (fun e w'=>e = .returned (.int .i64 Rb)∧w=w') from fun w=>by rw [← hRb];exact refRank_any r.kind w)
 have hib:(jb:Int)<(l.length:Int):=by omega
 obtain ⟨o,ho,ho11⟩:∃ o:Nat,n.kind=9+(o:Int)∧o<11:=⟨(n.kind - 9).toNat,by omega,by omega⟩
 have hoo:(n.kind - 9).toNat=o:=by omega
 obtain ⟨N,hN⟩:∃ R:Int,((rankL n.kind:Nat):Int)+1=R:=⟨_,rfl⟩
 have HRN:=Lib.hid (show ∀ w,Calls Tryz.prog 69 #[.int .i64 n.kind] w (fun e w'=>e = .returned (.int .i64 N)∧w=w') from fun w=>by rw [← hN];exact refRank_any n.kind w)
 have HOP:=Lib.hid (show ∀ w,Calls Tryz.prog 70 #[.int .i64 n.kind] w (fun e w'=>e = .returned (.string (strOfNums (opL o)))∧Below w.heap.size w w') from fun w=>by
  rw [ho, ← (op_rank o ho11).2,str_sb];exact refOp_any o ho11 w)
 have hol:(opL o).length≤2:=(show ∀ o:Nat,o<11→(opL o).length≤2 by decide) o ho11
 have HT:=Lib.hid (show shN ns (i:Int)=inL (decide (rankL q.kind<rankL n.kind)) (shN ns (ja:Int))++(opL o++inL (decide (rankL r.kind≤rankL n.kind)) (shN ns (jb:Int))) by rw [HSH.out,if_neg (by omega),if_neg (by omega),if_neg (by omega),if_neg (by omega),if_neg (by omega),if_neg (by omega),if_neg (by omega),if_neg (by omega),hga,hgb,hna,hnb,hoo])
 have hba:(shN ns (ja:Int)).length≤1000000000:=by rw [HT.out] at hlen;have:=(inL_len (decide (rankL q.kind<rankL n.kind)) (shN ns (ja:Int))).1;simp only [List.length_append] at hlen;omega
 have hbb:(shN ns (jb:Int)).length≤1000000000:=by rw [HT.out] at hlen;have:=(inL_len (decide (rankL r.kind≤rankL n.kind)) (shN ns (jb:Int))).1;simp only [List.length_append] at hlen;omega
 have hIA:=IH ja hja hba
 have hIB:=IH jb hjb hbb
 rw [hnl] at hIA hIB
 have HIA:=Lib.hid hIA
 have HIB:=Lib.hid hIB
 have hRd:decide (rankL q.kind<rankL n.kind)=decide (Ra<N):=by rw [decide_eq_decide];omega
 have hRe:decide (rankL r.kind≤rankL n.kind)=decide (Rb≤N):=by rw [decide_eq_decide];omega
 rw [hRd,hRe] at HT
 clear hIA hIB hRd hRe hRa hRb hga hgb hka hkb hla hlb hna hnb hca hcb hkne hkc2 IH hN hoo ho
 rw [hnl] at hia hib
 have k0:w1.cell? ⟨pb,po+i*14,none⟩=some (.int .i64 n.kind):=(hb.cell (p:=⟨pb,po+i*14,none⟩) hpb).trans (hcell 0 (by omega))
 have k1:w1.cell? ⟨pb,po+i*14+1,none⟩=some (.int .i64 n.num):=(hb.cell (p:=⟨pb,po+i*14+1,none⟩) hpb).trans (hcell 1 (by omega))
 have k2:w1.cell? ⟨pb,po+i*14+2,none⟩=some (.string n.text):=(hb.cell (p:=⟨pb,po+i*14+2,none⟩) hpb).trans (hcell 2 (by omega))
 have k3:w1.cell? ⟨pb,po+i*14+3,none⟩=some (.string n.ref.sh):=(hb.cell (p:=⟨pb,po+i*14+3,none⟩) hpb).trans (hcell 3 (by omega))
 have k4:w1.cell? ⟨pb,po+i*14+4,none⟩=some (.int .i64 n.ref.c):=(hb.cell (p:=⟨pb,po+i*14+4,none⟩) hpb).trans (hcell 4 (by omega))
 have k5:w1.cell? ⟨pb,po+i*14+5,none⟩=some (.int .i64 n.ref.r):=(hb.cell (p:=⟨pb,po+i*14+5,none⟩) hpb).trans (hcell 5 (by omega))
 have k6:w1.cell? ⟨pb,po+i*14+6,none⟩=some (.bool n.ref.ac):=(hb.cell (p:=⟨pb,po+i*14+6,none⟩) hpb).trans (hcell 6 (by omega))
 have k7:w1.cell? ⟨pb,po+i*14+7,none⟩=some (.bool n.ref.ar):=(hb.cell (p:=⟨pb,po+i*14+7,none⟩) hpb).trans (hcell 7 (by omega))
 have k8:w1.cell? ⟨pb,po+i*14+8,none⟩=some (.string n.to.sh):=(hb.cell (p:=⟨pb,po+i*14+8,none⟩) hpb).trans (hcell 8 (by omega))
 have k9:w1.cell? ⟨pb,po+i*14+9,none⟩=some (.int .i64 n.to.c):=(hb.cell (p:=⟨pb,po+i*14+9,none⟩) hpb).trans (hcell 9 (by omega))
 have k10:w1.cell? ⟨pb,po+i*14+10,none⟩=some (.int .i64 n.to.r):=(hb.cell (p:=⟨pb,po+i*14+10,none⟩) hpb).trans (hcell 10 (by omega))
 have k11:w1.cell? ⟨pb,po+i*14+11,none⟩=some (.bool n.to.ac):=(hb.cell (p:=⟨pb,po+i*14+11,none⟩) hpb).trans (hcell 11 (by omega))
 have k12:w1.cell? ⟨pb,po+i*14+12,none⟩=some (.bool n.to.ar):=(hb.cell (p:=⟨pb,po+i*14+12,none⟩) hpb).trans (hcell 12 (by omega))
 have k13:w1.cell? ⟨pb,po+i*14+13,none⟩=some (.slice (some ⟨gb,ko,none⟩) 2 ck):=(hb.cell (p:=⟨pb,po+i*14+13,none⟩) hpb).trans (hcell 13 (by omega))
 have HK:=Lib.hid (show 9≤n.kind from hk)
 clear hk hlen
 have hB3:Below w1.heap.size w1 (w1.alloc (.cells #[.int .i64 n.kind,.int .i64 n.num,.string n.text,.string n.ref.sh,.int .i64 n.ref.c,.int .i64 n.ref.r,.bool n.ref.ac,.bool n.ref.ar,.string n.to.sh,.int .i64 n.to.c,.int .i64 n.to.r,.bool n.to.ac,.bool n.to.ar,.slice (some ⟨gb,ko,none⟩) 2 ck] 61)):=(Below.refl _ _).alloc (Nat.le_refl _) _
 have HN3:NdAt (w1.alloc (.cells #[.int .i64 n.kind,.int .i64 n.num,.string n.text,.string n.ref.sh,.int .i64 n.ref.c,.int .i64 n.ref.r,.bool n.ref.ac,.bool n.ref.ar,.string n.to.sh,.int .i64 n.to.c,.int .i64 n.to.r,.bool n.to.ac,.bool n.to.ar,.slice (some ⟨gb,ko,none⟩) 2 ck] 61)) w1.heap.size n (.slice (some ⟨gb,ko,none⟩) 2 ck):=NdAt.new w1 n _
 have HB3:=Lib.hid hB3
 clear hB3 C hi hmem hcell hkat hkc hkm hm hnl hnode hlf hsk hb
 go_enter Tryz.func36,Tryz.ntmps36
 go_upto_region 2 with (fail)
 generalize hb3:w1.heap.size=b3 at HN3 ⊢
 generalize w1.alloc (.cells #[.int .i64 n.kind,.int .i64 n.num,.string n.text,.string n.ref.sh,.int .i64 n.ref.c,.int .i64 n.ref.r,.bool n.ref.ac,.bool n.ref.ar,.string n.to.sh,.int .i64 n.to.c,.int .i64 n.to.r,.bool n.to.ac,.bool n.to.ar,.slice (some ⟨gb,ko,none⟩) 2 ck] 61)=w3 at HN3 HB3 ⊢
 have hgb1:gb<w1.heap.size:=Nat.lt_of_lt_of_le hgk HB.out.size
 have hpb1:pb<w1.heap.size:=Nat.lt_of_lt_of_le hpb HB.out.size
 have s0:=(HB3.out.cell (p:=⟨gb,ko,none⟩) hgb1).trans da
 have s1:=(HB3.out.cell (p:=⟨pb,po+ja*14,none⟩) hpb1).trans ca
 have s2:=(HB3.out.cell (p:=⟨gb,ko+1,none⟩) hgb1).trans db
 have s3:=(HB3.out.cell (p:=⟨pb,po+jb*14,none⟩) hpb1).trans cb
 clear da ca db cb hb3 k0 k1 k2 k3 k4 k5 k6 k7 k8 k9 k10 k11 k12 k13
 obtain ⟨x0,x1,x2,x3,x4,x5,x6,x7,x8,x9,x10,x11,x12,x13⟩:=HN3.cells
 have hb3:=HN3.lt
 have HN3:=Lib.hid HN3
 have hk9:=HK.out
 have e1:(n.kind == 1)=false:=beq_eq_false_iff_ne.2 (by omega)
 have e2:(n.kind == 2)=false:=beq_eq_false_iff_ne.2 (by omega)
 have e3:(n.kind == 3)=false:=beq_eq_false_iff_ne.2 (by omega)
 have e4:(n.kind == 4)=false:=beq_eq_false_iff_ne.2 (by omega)
 have e5:(n.kind == 5)=false:=beq_eq_false_iff_ne.2 (by omega)
 have e6:(n.kind == 6)=false:=beq_eq_false_iff_ne.2 (by omega)
 have e7:(n.kind == 7)=false:=beq_eq_false_iff_ne.2 (by omega)
 have e8:(n.kind == 8)=false:=beq_eq_false_iff_ne.2 (by omega)
 clear hk9
 have hpb3:pb<w3.heap.size:=Nat.lt_of_lt_of_le hpb1 HB3.out.size
 have HBW:=Lib.hid (HB.out.trans (HB3.out.mono HB.out.size))
 have hzi:=(inL_len (decide (Ra<N)) (shN ns (ja:Int))).2
 have hzj:=(inL_len (decide (Rb≤N)) (shN ns (jb:Int))).2
 have HINA:=Lib.hid (fun w=>refInL_any (shN ns (ja:Int)) (decide (Ra<N)) w (by omega))
 have HINB:=Lib.hid (fun w=>refInL_any (shN ns (jb:Int)) (decide (Rb≤N)) w (by omega))
 obtain ⟨T,hT⟩:∃ T,inL (decide (Ra<N)) (shN ns (ja:Int))=T:=⟨_,rfl⟩
 obtain ⟨U,hU⟩:∃ T,inL (decide (Rb≤N)) (shN ns (jb:Int))=T:=⟨_,rfl⟩
 rw [hT] at HINA hzi
 rw [hU] at HINB hzj
 rw [hT,hU] at HT
 have HRR:=Lib.hid (show (strOfNums T++strOfNums (opL o))++strOfNums U=strOfNums (shN ns (i:Int)) by rw [HT.out,str_append,str_append,List.append_assoc])
 have hs1:(strOfNums T).size=T.length:=strOfNums_size T
 have hs2:(strOfNums U).size=U.length:=strOfNums_size U
 have hs3:(strOfNums (opL o)).size=(opL o).length:=strOfNums_size _
 obtain ⟨t,ht⟩:∃ t,strOfNums T=t:=⟨_,rfl⟩
 obtain ⟨u,hu⟩:∃ t,strOfNums U=t:=⟨_,rfl⟩
 obtain ⟨s,hs⟩:∃ t,strOfNums (opL o)=t:=⟨_,rfl⟩
 rw [ht] at HINA HRR hs1
 rw [hu] at HINB HRR hs2
 rw [hs] at HOP HRR hs3
 have q1:¬ 9223372036854775807<t.size+s.size:=by omega
 have q2:(t++s).size=t.size+s.size:=ByteArray.size_append
 have q3:¬ 9223372036854775807<t.size+s.size+u.size:=by omega
 have q4:t.size≤1000000002:=by omega
 have q5:u.size≤1000000002:=by omega
 have q6:s.size≤2:=by omega
 clear ht hu hs hT hU hs1 hs2 hs3 hzi hzj hol hba hbb
 go_upto_region 28 with (fail)
 go_quiet (fail)
 go_upto_region 29 with (fail)
 have hb4:b3<(w3.drewN nq).heap.size:=hb3
 have hpb4:pb<(w3.drewN nq).heap.size:=hpb3
 have HB4:=Lib.hid (drew_below HB3.out nq)
 have HBW4:=Lib.hid (drew_below HBW.out nq)
 have t0:(w3.drewN nq).cell? ⟨b3,0,none⟩=some (.int .i64 n.kind):=x0
 have t1:(w3.drewN nq).cell? ⟨pb,po+ja*14,none⟩=some (.int .i64 q.kind):=s1
 have t2:(w3.drewN nq).cell? ⟨pb,po+jb*14,none⟩=some (.int .i64 r.kind):=s3
 clear x0 x1 x2 x3 x4 x5 x6 x7 x8 x9 x10 x11 x12 x13 s0 s1 s2 s3 HB3 HBW HN3 hb3 hpb3
 generalize w3.drewN nq=w4 at hb4 hpb4 HB4 HBW4 t0 t1 t2 ⊢
 have H4:=Lib.hid ((Below.refl w4.heap.size w4).drew)
 go_region_held3 (fun w'=>w'.cell? ⟨b3,0,none⟩=some (.int .i64 n.kind)∧w'.cell? ⟨pb,po+ja*14,none⟩=some (.int .i64 q.kind)∧w'.cell? ⟨pb,po+jb*14,none⟩=some (.int .i64 r.kind)) (go_keep) (first
  | (go_at_call 36;((with_reducible refine (HIA.out _ (HBW4.out.trans (H4.out.mono HBW4.out.size))).mono ?_);rintro e w5 ⟨rfl,h1⟩;have H5:=Lib.hid (H4.out.trans (h1.mono H4.out.size));clear h1;have y0:=(H5.out.cell (p:=⟨b3,0,none⟩) hb4).trans t0;have y1:=(H5.out.cell (p:=⟨pb,po+ja*14,none⟩) hpb4).trans t1;have y2:=(H5.out.cell (p:=⟨pb,po+jb*14,none⟩) hpb4).trans t2))
  | (go_at_call 69;((with_reducible refine (HRa.out _).mono ?_);rintro e wn ⟨rfl,rfl⟩))
  | (go_at_call 69;((with_reducible refine (HRN.out _).mono ?_);rintro e wn ⟨rfl,rfl⟩))
  | (go_at_call 69;((with_reducible refine (HRb.out _).mono ?_);rintro e wn ⟨rfl,rfl⟩))
  | (go_at_call 68;((with_reducible refine (HINA.out _).mono ?_);rintro e wn ⟨rfl,rfl⟩))
  | (go_at_call 70;((with_reducible refine (HOP.out _).mono ?_);rintro e w6 ⟨rfl,h1⟩;have H6:=Lib.hid (H5.out.trans (h1.mono H5.out.size));clear h1;have z0:=(H6.out.cell (p:=⟨b3,0,none⟩) hb4).trans t0;have z1:=(H6.out.cell (p:=⟨pb,po+ja*14,none⟩) hpb4).trans t1;have z2:=(H6.out.cell (p:=⟨pb,po+jb*14,none⟩) hpb4).trans t2))
  | (go_at_call 36;((with_reducible refine (HIB.out _ (HBW4.out.trans (H6.out.mono HBW4.out.size))).mono ?_);rintro e w7 ⟨rfl,h1⟩;have H7:=Lib.hid (H6.out.trans (h1.mono H6.out.size));clear h1;have v0:=(H7.out.cell (p:=⟨b3,0,none⟩) hb4).trans t0;have v1:=(H7.out.cell (p:=⟨pb,po+ja*14,none⟩) hpb4).trans t1;have v2:=(H7.out.cell (p:=⟨pb,po+jb*14,none⟩) hpb4).trans t2))
  | (go_at_call 68;((with_reducible refine (HINB.out _).mono ?_);rintro e wn ⟨rfl,rfl⟩)))
 all_goals go_wp2_with fail
 all_goals go_ret
 all_goals exact ⟨ret_str HRR.out,HB4.out.trans (H7.out.mono HB4.out.size)⟩
theorem join_cut:∀ (xs:List (List Int)) (j:Nat),∃ r,joinA xs=joinA (xs.take j)++r
 | [],j=>⟨[],by simp [joinA]⟩
 | a :: l,0=>⟨joinA (a :: l),rfl⟩
 | [a],j+1=>⟨[],by simp [joinA]⟩
 | a :: b :: l,1=>⟨44 :: joinA (b :: l),rfl⟩
 | a :: b :: l,j+2=>by
   obtain ⟨r,h⟩:=join_cut (b :: l) (j+1)
   refine ⟨r, ?_⟩
   show a++44 :: joinA (b :: l)=(a++44 :: joinA (b :: l.take j))++r
   rw [h,List.take_succ_cons];simp
theorem join_more (xs:List (List Int)) (j:Nat) (y:List Int) (h:xs[j]? = some y):joinA (xs.take (j+1))=if j=0 then y else joinA (xs.take j)++44 :: y:=by
 rw [List.take_add_one,h]
 show joinA (xs.take j++[y])=_
 have hl:=(List.getElem?_eq_some_iff.1 h).1
 by_cases hj:j=0
 · subst hj;rfl
 · rw [if_neg hj,joinA_snoc y _ (fun e=>by have h2:(xs.take j).length=0:=(by rw [e];rfl);rw [List.length_take] at h2;omega)]
theorem join_mem (xs:List (List Int)) (j:Nat) (y:List Int) (h:xs[j]? = some y):y.length≤(joinA xs).length:=by
 obtain ⟨r,hr⟩:=join_cut xs (j+1)
 rw [join_more xs j y h] at hr
 rw [hr,List.length_append]
 split
 · omega
 · simp;omega
theorem join_len (xs:List (List Int)) (j:Nat):(joinA (xs.take j)).length≤(joinA xs).length:=by
 obtain ⟨r,hr⟩:=join_cut xs j
 rw [hr,List.length_append];omega
def callX (n:Nd) (ns:List Nd) (j:Nat):List Int:=sb n.text++40 :: joinA ((n.kids.map (shN ns)).take j)
theorem callX_zero (n:Nd) (ns:List Nd):n.text++⟨#[40]⟩=strOfNums (callX n ns 0):=by
 have h:callX n ns 0=sb n.text++[40]:=by unfold callX;rw [List.take_zero];rfl
 rw [h, ← str_append,str_sb];rfl
theorem callX_len (n:Nd) (ns:List Nd) (j:Nat):(callX n ns j).length≤(joinA (n.kids.map (shN ns))).length+n.text.size+1:=by
 have:=join_len (n.kids.map (shN ns)) j
 unfold callX;simp only [List.length_append,List.length_cons,length_sb];omega
theorem callX_more (n:Nd) (ns:List Nd) (j:Nat) (x:Int) (h:n.kids[j]? = some x):callX n ns (j+1)=if j=0 then callX n ns j++shN ns x else (callX n ns j++[44])++shN ns x:=by
 unfold callX
 rw [join_more _ j (shN ns x) (by rw [List.getElem?_map,h];rfl)]
 by_cases hj:j=0
 · subst hj;rw [if_pos rfl,if_pos rfl];simp [joinA]
 · rw [if_neg hj,if_neg hj];simp
theorem callX_end (n:Nd) (ns:List Nd) (j:Nat) (h:n.kids.length≤j):callX n ns j=sb n.text++40 :: joinA (n.kids.map (shN ns)):=by
 unfold callX;rw [List.take_of_length_le (by rw [List.length_map];exact h)]
set_option maxRecDepth 100000 in
set_option maxHeartbeats 4000000 in
theorem shown_7 {w:World} {v:Value} {l:List (Nd × Value)} {ns:List Nd} (C:ShC w v l ns) (i:Nat) (n:Nd) (k:Value) (hi:l[i]? = some (n,k)) (hk:n.kind=7) (hlen:(shN ns (i:Int)).length≤1000000000) (IH:ShIH w v ns i) (w1:World) (hb:Below w.heap.size w w1) :
 Calls Tryz.prog 36 #[v,.int .i64 (i:Int)] w1 (ShR ns i w1):=by
 obtain ⟨hnode,hil⟩:=C.node hi
 have hlf:=C.leaf hi
 have hmem:=List.mem_of_getElem? hi
 have hll:i<l.length:=(List.getElem?_eq_some_iff.1 hi).1
 obtain ⟨hz1,hz2,hz3⟩:=(show n.text.size≤1000000∧n.ref.sh.size≤1000000∧n.to.sh.size≤1000000 from C.sizes _ hmem)
 have hnum:n.num≤9223372036854775807:=C.nums _ hmem
 have hfew:=C.few
 have HC:=Lib.hid C
 obtain ⟨A,cap,rfl⟩:=C.sn.lenle
 obtain ⟨hsk,pb,po,rfl,hpb,hcell⟩:=C.sn.cellAt hi
 obtain ⟨Ak,ck,hkk,hkc,hkm,hkat⟩:=id hsk
 obtain ⟨m,hm⟩:∃ m,n.kids.length=m:=⟨_,rfl⟩
 rw [hm] at hkk hkc
 subst hkk
 obtain ⟨nl,hnl⟩:∃ nl,l.length=nl:=⟨_,rfl⟩
 rw [hnl] at hll hfew ⊢
 have hii:(i:Int)<(nl:Int):=by omega
 have hi0:(0:Int)≤(i:Int):=by omega
 have hmx:m≤9223372036854775807:=by unfold maxLen at hkm;omega
 have HM:=Lib.hid hm;have HNL:=Lib.hid hnl;have HKAT:=Lib.hid hkat;have HND:=Lib.hid hnode;have HLF:=Lib.hid hlf;have HKC:=Lib.hid hkc;have HB:=Lib.hid hb
 have HSH:=Lib.hid (shN_eq C.tree (i:=(i:Int)) (by omega) (by omega) n hnode)
 have k0:w1.cell? ⟨pb,po+i*14,none⟩=some (.int .i64 n.kind):=(hb.cell (p:=⟨pb,po+i*14,none⟩) hpb).trans (hcell 0 (by omega))
 have k1:w1.cell? ⟨pb,po+i*14+1,none⟩=some (.int .i64 n.num):=(hb.cell (p:=⟨pb,po+i*14+1,none⟩) hpb).trans (hcell 1 (by omega))
 have k2:w1.cell? ⟨pb,po+i*14+2,none⟩=some (.string n.text):=(hb.cell (p:=⟨pb,po+i*14+2,none⟩) hpb).trans (hcell 2 (by omega))
 have k3:w1.cell? ⟨pb,po+i*14+3,none⟩=some (.string n.ref.sh):=(hb.cell (p:=⟨pb,po+i*14+3,none⟩) hpb).trans (hcell 3 (by omega))
 have k4:w1.cell? ⟨pb,po+i*14+4,none⟩=some (.int .i64 n.ref.c):=(hb.cell (p:=⟨pb,po+i*14+4,none⟩) hpb).trans (hcell 4 (by omega))
 have k5:w1.cell? ⟨pb,po+i*14+5,none⟩=some (.int .i64 n.ref.r):=(hb.cell (p:=⟨pb,po+i*14+5,none⟩) hpb).trans (hcell 5 (by omega))
 have k6:w1.cell? ⟨pb,po+i*14+6,none⟩=some (.bool n.ref.ac):=(hb.cell (p:=⟨pb,po+i*14+6,none⟩) hpb).trans (hcell 6 (by omega))
 have k7:w1.cell? ⟨pb,po+i*14+7,none⟩=some (.bool n.ref.ar):=(hb.cell (p:=⟨pb,po+i*14+7,none⟩) hpb).trans (hcell 7 (by omega))
 have k8:w1.cell? ⟨pb,po+i*14+8,none⟩=some (.string n.to.sh):=(hb.cell (p:=⟨pb,po+i*14+8,none⟩) hpb).trans (hcell 8 (by omega))
 have k9:w1.cell? ⟨pb,po+i*14+9,none⟩=some (.int .i64 n.to.c):=(hb.cell (p:=⟨pb,po+i*14+9,none⟩) hpb).trans (hcell 9 (by omega))
 have k10:w1.cell? ⟨pb,po+i*14+10,none⟩=some (.int .i64 n.to.r):=(hb.cell (p:=⟨pb,po+i*14+10,none⟩) hpb).trans (hcell 10 (by omega))
 have k11:w1.cell? ⟨pb,po+i*14+11,none⟩=some (.bool n.to.ac):=(hb.cell (p:=⟨pb,po+i*14+11,none⟩) hpb).trans (hcell 11 (by omega))
 have k12:w1.cell? ⟨pb,po+i*14+12,none⟩=some (.bool n.to.ar):=(hb.cell (p:=⟨pb,po+i*14+12,none⟩) hpb).trans (hcell 12 (by omega))
 have k13:w1.cell? ⟨pb,po+i*14+13,none⟩=some (.slice Ak m ck):=(hb.cell (p:=⟨pb,po+i*14+13,none⟩) hpb).trans (hcell 13 (by omega))
 have HK:=Lib.hid hk
 have HT:=Lib.hid (show shN ns (i:Int)=sb n.text++40 :: (joinA (n.kids.map (shN ns))++[41]) by rw [HSH.out,if_neg (by omega),if_neg (by omega),if_neg (by omega),if_neg (by omega),if_neg (by omega),if_neg (by omega),if_pos hk])
 have hjl:(joinA (n.kids.map (shN ns))).length+n.text.size+2≤1000000000:=by rw [HT.out] at hlen;simp only [List.length_append,List.length_cons,List.length_nil,length_sb] at hlen;omega
 have HKID:=Lib.hid (show ∀ (j:Nat) (x:Int),n.kids[j]? = some x→∃ y:Nat,x=(y:Int)∧∀ w2,Below w.heap.size w w2→Calls Tryz.prog 36 #[.slice (some ⟨pb,po,none⟩) nl cap,.int .i64 (y:Int)] w2 (ShR ns y w2) from fun j x hx=>by
  obtain ⟨y,e,hy, -⟩:=C.kid hi (List.mem_of_getElem? hx)
  refine ⟨y,e, ?_⟩
  have hl:=join_mem (n.kids.map (shN ns)) j (shN ns (y:Int)) (by rw [List.getElem?_map,hx,e];rfl)
  have:=IH y hy (by omega)
  rw [hnl] at this
  exact this)
 clear IH
 clear hk hlen
 have hB3:Below w1.heap.size w1 (w1.alloc (.cells #[.int .i64 n.kind,.int .i64 n.num,.string n.text,.string n.ref.sh,.int .i64 n.ref.c,.int .i64 n.ref.r,.bool n.ref.ac,.bool n.ref.ar,.string n.to.sh,.int .i64 n.to.c,.int .i64 n.to.r,.bool n.to.ac,.bool n.to.ar,.slice Ak m ck] 61)):=(Below.refl _ _).alloc (Nat.le_refl _) _
 have HN3:NdAt (w1.alloc (.cells #[.int .i64 n.kind,.int .i64 n.num,.string n.text,.string n.ref.sh,.int .i64 n.ref.c,.int .i64 n.ref.r,.bool n.ref.ac,.bool n.ref.ar,.string n.to.sh,.int .i64 n.to.c,.int .i64 n.to.r,.bool n.to.ac,.bool n.to.ar,.slice Ak m ck] 61)) w1.heap.size n (.slice Ak m ck):=NdAt.new w1 n _
 have HB3:=Lib.hid hB3
 clear hB3 C hi hmem hcell hkat hkc hkm hm hnl hnode hlf hsk hb
 go_enter Tryz.func36,Tryz.ntmps36
 go_upto_region 2 with (fail)
 generalize hb3:w1.heap.size=b3 at HN3 ⊢
 generalize w1.alloc (.cells #[.int .i64 n.kind,.int .i64 n.num,.string n.text,.string n.ref.sh,.int .i64 n.ref.c,.int .i64 n.ref.r,.bool n.ref.ac,.bool n.ref.ar,.string n.to.sh,.int .i64 n.to.c,.int .i64 n.to.r,.bool n.to.ac,.bool n.to.ar,.slice Ak m ck] 61)=w3 at HN3 HB3 ⊢
 clear hb3 k0 k1 k2 k3 k4 k5 k6 k7 k8 k9 k10 k11 k12 k13
 obtain ⟨x0,x1,x2,x3,x4,x5,x6,x7,x8,x9,x10,x11,x12,x13⟩:=HN3.cells
 have hb3:=HN3.lt
 have HN3:=Lib.hid HN3
 have hk:=HK.out
 have e1:(n.kind == 1)=false:=by rw [hk];rfl
 have e2:(n.kind == 2)=false:=by rw [hk];rfl
 have e3:(n.kind == 3)=false:=by rw [hk];rfl
 have e4:(n.kind == 4)=false:=by rw [hk];rfl
 have e5:(n.kind == 5)=false:=by rw [hk];rfl
 have e6:(n.kind == 6)=false:=by rw [hk];rfl
 have e7:(n.kind == 7)=true:=by rw [hk];rfl
 clear hk
 have HBW:=Lib.hid (HB.out.trans (HB3.out.mono HB.out.size))
 have hzt:=hz1
 have q0:¬ 9223372036854775807<n.text.size+(⟨#[40]⟩:ByteArray).size:=by show ¬ _<n.text.size+1;omega
 have q00:¬ 9223372036854775807<n.text.size+1:=by omega
 go_upto_region 20 with (fail)
 go_loopw [6,7] (fun tv iv wr=>∃ (j:Nat),j≤m∧iv = .int .i64 (j:Int)∧tv = .string (strOfNums (callX n ns j))∧Hid (Below w3.heap.size w3 wr))
  (fun _ iv _=>m - (intOf iv).toNat)
 case atStart=>exact ⟨0,Nat.zero_le _,rfl,congrArg Value.string (callX_zero n ns),Lib.hid (Below.refl _ _)⟩
 case round =>
  obtain ⟨j,hj,rfl,rfl,HW⟩:=hrel
  have hcl:=callX_len n ns j
  have y13:=(HW.out.cell (p:=⟨b3,13,none⟩) hb3).trans x13
  by_cases hlt:j<m
  · have hji:(j:Int)<(m:Int):=by omega
    have hj0:(0:Int)≤(j:Int):=by omega
    obtain ⟨x,hx⟩:∃ x,n.kids[j]? = some x:=⟨_,List.getElem?_eq_getElem (by rw [HM.out];exact hlt)⟩
    have hmore:=callX_more n ns j x hx
    obtain ⟨y,rfl,hcall⟩:=HKID.out j x hx
    have hsl:=join_mem (n.kids.map (shN ns)) j (shN ns (y:Int)) (by rw [List.getElem?_map,hx];rfl)
    rcases HKAT.out with e | ⟨kb,ko,rfl,hkb,hkc2⟩
    · exfalso;rw [e] at hx;simp at hx
    have hkbw:kb<w1.heap.size:=Nat.lt_of_lt_of_le hkb HB.out.size
    have d0:wr.cell? ⟨kb,ko+j,none⟩=some (.int .i64 (y:Int)):=(HW.out.cell (p:=⟨kb,ko+j,none⟩) (Nat.lt_of_lt_of_le hkbw HB3.out.size)).trans ((HB3.out.cell (p:=⟨kb,ko+j,none⟩) hkbw).trans ((HB.out.cell (p:=⟨kb,ko+j,none⟩) hkb).trans (hkc2 j _ hx)))
    have HCALL:=Lib.hid (hcall wr (HBW.out.trans (HW.out.mono HBW.out.size)))
    have hs1:(strOfNums (callX n ns j)).size=(callX n ns j).length:=strOfNums_size _
    have hs2:(strOfNums (shN ns (y:Int))).size=(shN ns (y:Int)).length:=strOfNums_size _
    by_cases h0:j=0
    · have hg:¬ (0:Int)<(j:Int):=by omega
      rw [if_pos h0] at hmore
      have HNX:=Lib.hid (show strOfNums (callX n ns j)++strOfNums (shN ns (y:Int))=strOfNums (callX n ns (j+1)) by rw [hmore,str_append])
      obtain ⟨t,ht⟩:∃ t,strOfNums (callX n ns j)=t:=⟨_,rfl⟩
      rw [ht] at HNX hs1 ⊢
      have q1:¬ 9223372036854775807<t.size+(strOfNums (shN ns (y:Int))).size:=by omega
      clear h0 hmore hcall hx hkc2 hs1 hs2 hsl hcl ht
      go_wp2_with (go_at_call 36;((with_reducible refine HCALL.out.mono ?_);rintro e w4 ⟨rfl,h1⟩;have HW4:=Lib.hid (HW.out.trans (h1.mono HW.out.size));clear h1))
      go_roundw
      case rel=>exact ⟨j+1,by omega,by go_num,congrArg Value.string HNX.out,HW4⟩
      case measure=>simp [intOf];omega
    · have hg:(0:Int)<(j:Int):=by omega
      rw [if_neg h0] at hmore
      have HNX:=Lib.hid (show (strOfNums (callX n ns j)++⟨#[44]⟩)++strOfNums (shN ns (y:Int))=strOfNums (callX n ns (j+1)) by rw [hmore,show (⟨#[44]⟩:ByteArray)=strOfNums [44] by decide,str_append,str_append])
      obtain ⟨t,ht⟩:∃ t,strOfNums (callX n ns j)=t:=⟨_,rfl⟩
      rw [ht] at HNX hs1 ⊢
      have q1:¬ 9223372036854775807<t.size+(⟨#[44]⟩:ByteArray).size:=by show ¬ _<t.size+1;omega
      have q2:(t++(⟨#[44]⟩:ByteArray)).size=t.size+1:=by rw [ByteArray.size_append];rfl
      have q3:¬ 9223372036854775807<t.size+1+(strOfNums (shN ns (y:Int))).size:=by omega
      have q4:¬ 9223372036854775807<t.size+1:=by omega
      clear h0 hmore hcall hx hkc2 hs1 hs2 hsl hcl ht
      go_wp2_with (go_at_call 36;((with_reducible refine HCALL.out.mono ?_);rintro e w4 ⟨rfl,h1⟩;have HW4:=Lib.hid (HW.out.trans (h1.mono HW.out.size));clear h1))
      go_roundw
      case rel=>exact ⟨j+1,by omega,by go_num,congrArg Value.string HNX.out,HW4⟩
      case measure=>simp [intOf];omega
  · have hji:¬ (j:Int)<(m:Int):=by omega
    have HE:=Lib.hid (show strOfNums (callX n ns j)++⟨#[41]⟩=strOfNums (shN ns (i:Int)) by
     rw [strOf_fortyone,str_append,HT.out,callX_end n ns j (by rw [HM.out];omega)];simp)
    have hs1:(strOfNums (callX n ns j)).size=(callX n ns j).length:=strOfNums_size _
    obtain ⟨t,ht⟩:∃ t,strOfNums (callX n ns j)=t:=⟨_,rfl⟩
    rw [ht] at HE hs1 ⊢
    have q1:¬ 9223372036854775807<t.size+(⟨#[41]⟩:ByteArray).size:=by show ¬ _<t.size+1;omega
    have q4:¬ 9223372036854775807<t.size+1:=by omega
    clear hs1 hcl ht
    go_wp2_with fail
    go_ret
    exact ⟨ret_str HE.out,HB3.out.trans (HW.out.mono HB3.out.size)⟩
theorem shown_any {w:World} {v:Value} {l:List (Nd × Value)} {ns:List Nd} (C:ShC w v l ns):∀ (m i:Nat),i<m→i<l.length→(shN ns (i:Int)).length≤1000000000→∀ w1,Below w.heap.size w w1→Calls Tryz.prog 36 #[v,.int .i64 (i:Int)] w1 (ShR ns i w1)
 | 0,_,h,_,_,_,_=>absurd h (by omega)
 | m+1,i,him,hil,hlen,w1,hb=>by
   have IH:ShIH w v ns i:=fun j hj hl w2 hb2=>shown_any C m j (by omega) (by omega) hl w2 hb2
   obtain ⟨⟨n,k⟩,hi⟩:∃ q,l[i]? = some q:=⟨_,List.getElem?_eq_getElem hil⟩
   obtain ⟨-, -, -,k1,k19, -⟩:=arms_kids (C.leaf hi)
   have hk:n.kind=1∨n.kind=2∨n.kind=3∨n.kind=4∨n.kind=5∨n.kind=6∨n.kind=7∨n.kind=8∨9≤n.kind:=by omega
   rcases hk with h | h | h | h | h | h | h | h | h
   · exact shown_1 C i n k hi h w1 hb
   · exact shown_2 C i n k hi h w1 hb
   · exact shown_3 C i n k hi h w1 hb
   · exact shown_4 C i n k hi h w1 hb
   · exact shown_5 C i n k hi h w1 hb
   · exact shown_6 C i n k hi h w1 hb
   · exact shown_7 C i n k hi h hlen IH w1 hb
   · exact shown_8 C i n k hi h hlen IH w1 hb
   · exact shown_9 C i n k hi h hlen IH w1 hb
theorem tree_pos {ns:List Nd} (h:treeB ns=true):0<ns.length:=by
 cases ns with
 | nil=>exact absurd h (by decide)
 | cons a l=>simp
set_option maxRecDepth 100000 in
set_option maxHeartbeats 2000000 in
theorem refPrint_any (w:World) (v:Value) (l:List (Nd × Value)) (h:SN w w.heap.size v l) (hz:SZ l) (hn:∀ q∈l,q.1.num≤9223372036854775807) (hlen:(printL (l.map (·.1))).length≤1000000000) :
 Calls Tryz.prog 10 #[v] w fun e w'=>e = .returned (.string (strOfNums (printL (l.map (·.1)))))∧Below w.heap.size w w':=by
 have HT:=Lib.hid (refTree_any w v l h hz)
 obtain ⟨ns,hns⟩:∃ ns,l.map (·.1)=ns:=⟨_,rfl⟩
 rw [hns] at HT hlen ⊢
 by_cases ht:treeB ns=true
 · rw [ht] at HT
   have C:ShC w v l ns:=⟨h,hns,ht,hz.1,hz.2,hn⟩
   have hpos:=tree_pos ht
   have hll:l.length=ns.length:=by rw [← hns,List.length_map]
   obtain ⟨L,hL⟩:∃ L,l.length=L:=⟨_,rfl⟩
   have hp:printL ns=shN ns ((L - 1:Nat):Int):=by
    unfold printL shN;rw [if_pos ht];congr 1;omega
   rw [hp] at hlen ⊢
   have HS:=Lib.hid (shown_any C L (L - 1) (by omega) (by omega) hlen)
   obtain ⟨A,cap,rfl⟩:=h.lenle
   have hL1:(L:Int) - 1=((L - 1:Nat):Int):=by omega
   have hlm:L≤1000:=by have:=hz.1;omega
   have hwr:IntKind.i64.wrap ((L:Int) - 1)=(L:Int) - 1:=by rw [IntKind.wrap_i64];omega
   rw [hL] at HT HS ⊢
   rw [← hL1] at HS
   clear C h hz hn hlen hns ht hll hp hpos hL hL1
   go_enter Tryz.func10,Tryz.ntmps10
   go_wp2_with (first
    | (go_at_call 35;((with_reducible refine HT.out.mono ?_);rintro e w2 ⟨rfl,h1⟩;have HB2:=Lib.hid h1;clear h1))
    | (go_at_call 36;((with_reducible refine (HS.out _ HB2.out).mono ?_);rintro e w3 ⟨rfl,h1⟩;have HB3:=Lib.hid (HB2.out.trans (h1.mono HB2.out.size));clear h1)))
   go_ret
   exact ⟨by rfl,HB3.out⟩
 · have ht2:treeB ns=false:=by simpa using ht
   rw [ht2] at HT
   have HP:=Lib.hid (show printL ns=[] by unfold printL;rw [if_neg ht])
   obtain ⟨A,cap,rfl⟩:=h.lenle
   clear h hz hn hlen hns ht ht2
   go_enter Tryz.func10,Tryz.ntmps10
   go_wp2_with (first
    | (go_at_call 35;((with_reducible refine HT.out.mono ?_);rintro e w2 ⟨rfl,h1⟩;have HB2:=Lib.hid h1;clear h1)))
   go_ret
   exact ⟨by rw [HP.out];rfl,HB2.out⟩
theorem text_ne3 {t:ByteArray} (h:t≠⟨#[]⟩):¬ t.toList=[]∧t.toList.isEmpty=false:=by
 have h1:¬ t.toList=[]:=by
  intro e
  apply h
  have:=list_bytes t
  rw [e] at this
  cases t with
  | mk d =>
    have h2:d.toList=[]:=this.symm
    have h3:d=#[]:=by simpa using h2
    rw [h3]
 refine ⟨h1, ?_⟩
 cases hl:t.toList with
 | nil=>exact absurd hl h1
 | cons=>rfl
set_option maxRecDepth 100000 in
set_option maxHeartbeats 8000000 in
theorem showMade_any (w:World) (A:Option Addr) (n cap:Nat) (xs:List Int) (hs:S8 w w.heap.size A n cap xs) (hn:n≤9223372036854775807) (hx:Sx w) :
 Calls Tryz.prog 3 #[.slice A n cap] w fun e w'=>e = .returned (.bool true)∧Below w.heap.size w w':=by
 have HA:=Lib.hid (made_any w A n cap xs hs hn)
 have HX:=Lib.hid hx
 clear hs hx
 go_enter Tryz.func3,Tryz.ntmps3
 go_upto_region 2 with (go_at_call 8;((with_reducible refine HA.out.mono ?_);rintro e w1 h;obtain ⟨hb,A1,c1,l,rfl,hsn,hN⟩:=h.made;have HB1:=Lib.hid hb;have HS1:=Lib.hid hsn;have HN:=Lib.hid hN;clear hb hsn hN h))
 obtain ⟨ns,hns⟩:∃ ns,l.map (·.1)=ns:=⟨_,rfl⟩
 obtain ⟨k,hk⟩:∃ k,l.length=k:=⟨_,rfl⟩
 obtain ⟨t,ht⟩:∃ t,strOfNums (printL ns)=t:=⟨_,rfl⟩
 have hkn:ns.length=k:=by rw [← hns,List.length_map];exact hk
 have HN2:=Lib.hid (show MadeN ns from by rw [← hns];exact HN.out)
 have hk80:k≤80:=by have:=HN2.out.few;omega
 have HPR:=Lib.hid (fun (wr:World) (hr:Below w1.heap.size w1 wr)=>(show Calls Tryz.prog 9 #[.slice A1 k c1] wr fun e w'=>e = .returned (.string t)∧Below wr.heap.size wr w' from by
  have:=(HX.out.below (HB1.out.trans (hr.mono HB1.out.size))).print _ l (HS1.out.lift hr hr.size) ⟨by omega,fun p hp=>HN2.out.szs p.1 (by rw [← hns];exact List.mem_map_of_mem hp)⟩ (fun p hp=>HN2.out.num p.1 (by rw [← hns];exact List.mem_map_of_mem hp)) (by rw [hns];exact Nat.le_trans HN2.out.len (by omega))
  rw [hns,ht,hk] at this
  exact this))
 have HRP:=Lib.hid (fun (wr:World) (hr:Below w1.heap.size w1 wr)=>(show Calls Tryz.prog 10 #[.slice A1 k c1] wr fun e w'=>e = .returned (.string t)∧Below wr.heap.size wr w' from by
  have:=refPrint_any wr _ l (HS1.out.lift hr hr.size) ⟨by omega,fun p hp=>HN2.out.szs p.1 (by rw [← hns];exact List.mem_map_of_mem hp)⟩ (fun p hp=>HN2.out.num p.1 (by rw [← hns];exact List.mem_map_of_mem hp)) (by rw [hns];exact Nat.le_trans HN2.out.len (by omega))
  rw [hns,ht,hk] at this
  exact this))
 have HAW:=Lib.hid (fun (wr:World) (hr:Below w1.heap.size w1 wr)=>awake6_any wr (HX.out.below (HB1.out.trans (hr.mono HB1.out.size))))
 have HPE:=Lib.hid (fun (c:Int) (hp:PIs t (.error c)) (wr:World) (hr:Below w1.heap.size w1 wr)=>parse_err t wr (HX.out.below (HB1.out.trans (hr.mono HB1.out.size))).vars (HX.out.below (HB1.out.trans (hr.mono HB1.out.size))).ops c hp)
 have HPO:=Lib.hid (fun (hp:PIs t (.ok ns)) (wr:World) (hr:Below w1.heap.size w1 wr)=>parse_sn t wr (HX.out.below (HB1.out.trans (hr.mono HB1.out.size))) ns hp)
 rw [hk]
 by_cases h0:ns=[]
 · have hk0:k=0:=by rw [← hkn,h0];rfl
   have ht0:t=⟨#[]⟩:=by rw [← ht,h0];decide
   subst ht0;subst hk0
   obtain ⟨c,hpe,hc⟩:=parse_empty
   have hc0:(c == 0)=false:=beq_eq_false_iff_ne.2 hc
   have HE:=Lib.hid (HPE.out c hpe)
   clear h0 hns hk hkn ht hpe hc
   go_wp2_with (first
    | (go_at_call 9;((with_reducible refine (HPR.out _ (Below.refl _ _)).mono ?_);rintro e w2 ⟨rfl,h1⟩;have H2:=Lib.hid h1;clear h1))
    | (go_at_call 10;((with_reducible refine (HRP.out _ H2.out).mono ?_);rintro e w3 ⟨rfl,h1⟩;have H3:=Lib.hid (H2.out.trans (h1.mono H2.out.size));clear h1))
    | (go_at_call 11;((with_reducible refine (HE.out _ H3.out).mono ?_);rintro e w4 ⟨h1,rfl⟩;have H4:=Lib.hid (H3.out.trans (h1.mono H3.out.size));clear h1))
    | (go_at_call 13;((with_reducible refine (HAW.out _ H4.out).mono ?_);rintro e w7 ⟨rfl,h1⟩;have H7:=Lib.hid (HB1.out.trans ((H4.out.trans (h1.mono H4.out.size)).mono HB1.out.size));clear h1))
    | (go_at_call 12;((with_reducible refine (num_is _ _).mono ?_);rintro e wn ⟨rfl,rfl⟩)))
   go_ret
   exact ⟨rfl,H7.out⟩
 · obtain ⟨hne,hcase⟩:=HN2.out.told h0
   rw [ht] at hne hcase
   obtain ⟨e1,e2⟩:=text_ne3 hne
   have hkp:0<k:=by rw [← hkn];exact List.length_pos_iff.2 h0
   have hk1:((k:Int) == 0)=false:=beq_eq_false_iff_ne.2 (by omega)
   rcases hcase with hp | ⟨c,hp,hc,hor⟩
   · have HE:=Lib.hid (HPO.out hp)
     rw [hkn] at HE
     have HSM:=Lib.hid (fun (w4:World) (v2:Value) (l2:List (Nd × Value)) (hm2:l2.map Prod.fst=ns) (hs2:SN w4 w4.heap.size v2 l2) (hr:Below w1.heap.size w1 w4)=>(show Calls Tryz.prog 14 #[.slice A1 k c1,v2] w4 fun e w'=>e = .returned (.bool true)∧Below w4.heap.size w4 w' from by
      have hl2:l2.length=k:=by rw [← hkn, ← hm2,List.length_map]
      have hs1:=HS1.out.lift hr hr.size
      rw [hk] at hs1
      refine (refSame_any w4 _ v2 l l2 hs1 hs2 (by omega) (by omega)).mono fun e w' h=>⟨?_,h.2⟩
      rcases h.1.is with ⟨_,h⟩ | ⟨h,_⟩
      · exact h
      · exact absurd (hns.trans hm2.symm) h))
     clear h0 hns hk hkn ht hne hp
     go_wp2_with (first
      | (go_at_call 9;((with_reducible refine (HPR.out _ (Below.refl _ _)).mono ?_);rintro e w2 ⟨rfl,h1⟩;have H2:=Lib.hid h1;clear h1))
      | (go_at_call 10;((with_reducible refine (HRP.out _ H2.out).mono ?_);rintro e w3 ⟨rfl,h1⟩;have H3:=Lib.hid (H2.out.trans (h1.mono H2.out.size));clear h1))
      | (go_at_call 11;((with_reducible refine (HE.out _ H3.out).mono ?_);rintro e w4 ⟨h1,g2,cap2,l2,rfl,hm2,hs2⟩;have H4:=Lib.hid (H3.out.trans (h1.mono H3.out.size));have HM2:=Lib.hid hm2;have HS2:=Lib.hid hs2;clear h1 hm2 hs2))
      | (go_at_call 14;((with_reducible refine (HSM.out w4 _ l2 HM2.out HS2.out H4.out).mono ?_);rintro e w5 ⟨rfl,h1⟩;have H5:=Lib.hid (H4.out.trans (h1.mono H4.out.size));clear h1))
      | (go_at_call 13;((with_reducible refine (HAW.out _ H5.out).mono ?_);rintro e w7 ⟨rfl,h1⟩;have H7:=Lib.hid (HB1.out.trans ((H5.out.trans (h1.mono H5.out.size)).mono HB1.out.size));clear h1))
      | (go_at_call 12;((with_reducible refine (num_is _ _).mono ?_);rintro e wn ⟨rfl,rfl⟩)))
     go_ret
     exact ⟨rfl,H7.out⟩
   · have hc0:(c == 0)=false:=beq_eq_false_iff_ne.2 hc
     have HE:=Lib.hid (HPE.out c hp)
     have HOR:=Lib.hid hor
     by_cases h300:300<t.size
     · have h3:(300:Int)<(t.size:Int):=by omega
       clear h0 hns hk hkn ht hne hp hor hc h300
       go_wp2_with (first
        | (go_at_call 9;((with_reducible refine (HPR.out _ (Below.refl _ _)).mono ?_);rintro e w2 ⟨rfl,h1⟩;have H2:=Lib.hid h1;clear h1))
        | (go_at_call 10;((with_reducible refine (HRP.out _ H2.out).mono ?_);rintro e w3 ⟨rfl,h1⟩;have H3:=Lib.hid (H2.out.trans (h1.mono H2.out.size));clear h1))
        | (go_at_call 11;((with_reducible refine (HE.out _ H3.out).mono ?_);rintro e w4 ⟨h1,rfl⟩;have H4:=Lib.hid (H3.out.trans (h1.mono H3.out.size));clear h1))
        | (go_at_call 13;((with_reducible refine (HAW.out _ H4.out).mono ?_);rintro e w7 ⟨rfl,h1⟩;have H7:=Lib.hid (HB1.out.trans ((H4.out.trans (h1.mono H4.out.size)).mono HB1.out.size));clear h1))
        | (go_at_call 12;((with_reducible refine (num_is _ _).mono ?_);rintro e wn ⟨rfl,rfl⟩)))
       go_ret
       exact ⟨rfl,H7.out⟩
     · have h3:¬ (300:Int)<(t.size:Int):=by omega
       have hc6:c=6:=by rcases HOR.out with h | h;exact absurd h h300;exact h
       subst hc6
       clear h0 hns hk hkn ht hne hp hor hc h300 hc0
       go_wp2_with (first
        | (go_at_call 9;((with_reducible refine (HPR.out _ (Below.refl _ _)).mono ?_);rintro e w2 ⟨rfl,h1⟩;have H2:=Lib.hid h1;clear h1))
        | (go_at_call 10;((with_reducible refine (HRP.out _ H2.out).mono ?_);rintro e w3 ⟨rfl,h1⟩;have H3:=Lib.hid (H2.out.trans (h1.mono H2.out.size));clear h1))
        | (go_at_call 11;((with_reducible refine (HE.out _ H3.out).mono ?_);rintro e w4 ⟨h1,rfl⟩;have H4:=Lib.hid (H3.out.trans (h1.mono H3.out.size));clear h1))
        | (go_at_call 13;((with_reducible refine (HAW.out _ H4.out).mono ?_);rintro e w7 ⟨rfl,h1⟩;have H7:=Lib.hid (HB1.out.trans ((H4.out.trans (h1.mono H4.out.size)).mono HB1.out.size));clear h1))
        | (go_at_call 12;((with_reducible refine (num_is _ _).mono ?_);rintro e wn ⟨rfl,rfl⟩)))
       go_ret
       exact ⟨rfl,H7.out⟩
end Go.Proofs.YtecpbligblnonaaGreatDoor
