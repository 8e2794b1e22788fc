/-
 Texts of layers, put together.
-/
import Derived.Test.YtecpbligblnonaaGreatDoorML8
import Derived.Deep.DeepCutAuto
import Derived.Deep.CutBlock
import Derived.Deep.CutRange
namespace Go.Proofs.YtecpbligblnonaaGreatDoor
open Go.RowKit
theorem s8_num {w:World} {B:Nat} {A:Option Addr} {len cap:Nat} {xs:List Int} (h:S8 w B A len cap xs) (i:Nat) (hi:i<len):∃ (m pb po:Nat),m<256∧xs[i]? = some (m:Int)∧A=some ⟨pb,po,none⟩∧pb<B∧w.cell? ⟨pb,po+i,none⟩=some (.int .u8 (m:Int)):=by
 rcases h.at_ with h0 | ⟨pb,po,h1,h2,h3⟩
 · omega
 · have hl:i<xs.length:=by rw [h.hlen];exact hi
   have hx:xs[i]? = some xs[i]:=List.getElem?_eq_getElem hl
   have hb:=h.bytes xs[i] (List.mem_of_getElem? hx)
   refine ⟨xs[i].toNat,pb,po,by omega,by rw [hx];congr 1;omega,h1,h2, ?_⟩
   rw [h3 i hi,List.getD_eq_getElem?_getD,hx]
   show some (Value.int .u8 xs[i])=_
   congr 2;omega
theorem Aft_alloc (w:World) (o:Obj):Below w.heap.size w (w.alloc o):=(Below.refl _ _).alloc (Nat.le_refl _) _
theorem cell_over (w:World) (o:Obj) (a:Addr) {u:Value} (h:w.cell? a=some u):(w.alloc o).cell? a=some u:=by
 have hl:a.block<w.heap.size:=by
  unfold World.cell? at h
  cases h2:w.heap[a.block]? with
  | none=>rw [h2] at h;cases h
  | some x=>exact (Array.getElem?_eq_some_iff.1 h2).1
 exact ((Aft_alloc w o).cell (p:=a) hl).trans h
theorem own_any {α : Type} {size:Nat} {E:Enc α size} {e:TypeId} {w:World} {base:Nat} {v:Value} {xs:List α} (h:Own E e w base v xs) (n:Nat) (hn:xs.length=n):∃ A c,v = .slice A n c:=by
 rcases h.shape with ⟨h1,h2⟩ | ⟨g,c,h1,_⟩
 · exact ⟨none,0,by rw [h1, ← hn,h2];rfl⟩
 · exact ⟨_,c,by rw [h1,hn]⟩
set_option maxRecDepth 100000 in
set_option maxHeartbeats 64000000 in
theorem made_any (w:World) (A:Option Addr) (n cap:Nat) (xs:List Int) (hs:S8 w w.heap.size A n cap xs) (hn:n≤9223372036854775807) :
 Calls Tryz.prog 8 #[.slice A n cap] w (MadeOut w):=by
 have HS:=Lib.hid hs
 clear hs
 go_enter Tryz.func8,Tryz.ntmps8
 go_upto_block 0 with (fail)
 go_cut [3,4] from 5 (fun lv sv wx=>∃ (vs:List Nv) (st:List Int) (lk sk:Value) (wu:World),lk=lv∧sk=sv∧wu=wx∧Hid (Mk w wu lk sk vs st)∧Hid (MadeI (vs.map (·.n)) st)∧Hid (vs.length≤40))
 case first =>
  go_upto_region 4 with (fail)
  go_loopw [3,4,5] (fun lv sv iv wr=>∃ (i nl:Nat) (vs:List Nv) (st:List Int) (lk sk:Value),i≤n∧nl=vs.length∧nl≤40∧lk=lv∧sk=sv∧iv = .int .i64 (i:Int)∧Hid (Mk w wr lk sk vs st)∧Hid (MadeI (vs.map (·.n)) st)) (fun _ _ iv _=>n - (intOf iv).toNat)
  case atStart=>exact ⟨0,0,[],[],_,_,Nat.zero_le _,rfl,by decide,rfl,rfl,rfl,Lib.hid (Mk.nil w),Lib.hid MadeI.nil⟩
  case round =>
   obtain ⟨i,nl,vs,st,lk,sk,hi,hnl,h40,rfl,rfl,rfl,HM,HI⟩:=hrel
   by_cases hlt:i<n∧nl<40
   · obtain ⟨hin, hl4⟩:=hlt
     obtain ⟨m,pb,po,hm,hx,rfl,hpb,hc⟩:=s8_num HS.out i hin
     obtain ⟨Al,cl,rfl⟩:=own_any HM.out.nodes nl hnl.symm
     obtain ⟨k,hk⟩:∃ k,st.length=k:=⟨_,rfl⟩
     obtain ⟨As,cs,rfl⟩:=own_any HM.out.stk k hk
     have hcw:wr.cell? ⟨pb,po+i,none⟩=some (.int .u8 (m:Int)):=(HM.out.aft.cell (p:=⟨pb,po+i,none⟩) hpb).trans hc
     have hii:(i:Int)<(n:Int):=by omega
     have hi0:(0:Int)≤(i:Int):=by omega
     have hl40:(nl:Int)<40:=by omega
     have hwm:IntKind.i64.wrap (m:Int)=(m:Int):=by rw [IntKind.wrap_i64];omega
     have HK:=Lib.hid hk;have HX:=Lib.hid hx;have HNL:=Lib.hid hnl
     have h40s:k≤40:=by have h1:=HI.out.few;rw [List.length_map, ← hnl,hk] at h1;omega
     obtain ⟨eb,hEB,EL⟩:=Elem.kid
     obtain ⟨nb,hNB,NL⟩:=Elem.nod
     have HEL:=Lib.hid EL;have HNE:=Lib.hid NL
     clear hc hk hx hnl EL NL
     go_upto_block 2 with (fail)
     have HN0:=Lib.hid (NdAt.new wr { Nd.zero with kind:=1,num:=(m:Int) } (.slice none 0 0))
     have HM0:=Lib.hid (HM.out.next ((Below.refl _ _).alloc (Nat.le_refl _) (.cells #[.int .i64 1,.int .i64 (m:Int),.string ⟨#[]⟩,.string ⟨#[]⟩,.int .i64 0,.int .i64 0,.bool false,.bool false,.string ⟨#[]⟩,.int .i64 0,.int .i64 0,.bool false,.bool false,.slice none 0 0] 61)))
     have HN1:=Lib.hid (show NdAt (wr.alloc (.cells #[.int .i64 1,.int .i64 (m:Int),.string ⟨#[]⟩,.string ⟨#[]⟩,.int .i64 0,.int .i64 0,.bool false,.bool false,.string ⟨#[]⟩,.int .i64 0,.int .i64 0,.bool false,.bool false,.slice none 0 0] 61)) wr.heap.size { Nd.zero with kind:=1,num:=(m:Int) } (.slice none 0 0) from HN0.out)
     clear HN0
     generalize (wr.alloc (.cells #[.int .i64 1,.int .i64 (m:Int),.string ⟨#[]⟩,.string ⟨#[]⟩,.int .i64 0,.int .i64 0,.bool false,.bool false,.string ⟨#[]⟩,.int .i64 0,.int .i64 0,.bool false,.bool false,.slice none 0 0] 61))=w1 at HM0 HN1 ⊢
     have HZ:=Lib.hid (show (Value.slice Al nl cl).ownBlock≠Option.some wr.heap.size∧w.heap.size≤wr.heap.size from ⟨fun e=>Nat.lt_irrefl _ (HM.out.nodes.less e),HM.out.aft.size⟩)
     generalize wr.heap.size=z at HN1 HZ ⊢
     clear HM
     go_cut [4] from 8 to 184 (fun sk wx=>∃ (s:Value) (wu:World),s=sk∧wu=wx∧Hid (MkSw w wu (.slice Al nl cl) (.slice As k cs) vs st z m s))
     case first =>
      have HKD:=Lib.hid (MkKid.nil w1 w.heap.size (.slice As k cs))
      obtain ⟨r3,hr3⟩:∃ r,m % 3=r:=⟨_,rfl⟩
      have q3:(m:Int) % 3=(r3:Int):=by omega
      have t3:(m:Int).tmod 3=(r3:Int):=by rw [Int.tmod_eq_emod_of_nonneg (by omega)];exact q3
      have b3:(r3:Int)<3:=by omega
      have w3:IntKind.i64.wrap (r3:Int)=(r3:Int):=by rw [IntKind.wrap_i64];omega
      obtain ⟨r16,hr16⟩:∃ r,m % 16=r:=⟨_,rfl⟩
      have q16:(m:Int) % 16=(r16:Int):=by omega
      have t16:(m:Int).tmod 16=(r16:Int):=by rw [Int.tmod_eq_emod_of_nonneg (by omega)];exact q16
      have b16:(r16:Int)<16:=by omega
      have w16:IntKind.i64.wrap (r16:Int)=(r16:Int):=by rw [IntKind.wrap_i64];omega
      obtain ⟨r8,hr8⟩:∃ r,m % 8=r:=⟨_,rfl⟩
      have q8:(m:Int) % 8=(r8:Int):=by omega
      have t8:(m:Int).tmod 8=(r8:Int):=by rw [Int.tmod_eq_emod_of_nonneg (by omega)];exact q8
      have b8:(r8:Int)<8:=by omega
      have w8:IntKind.i64.wrap (r8:Int)=(r8:Int):=by rw [IntKind.wrap_i64];omega
      obtain ⟨r32,hr32⟩:∃ r,m % 32=r:=⟨_,rfl⟩
      have q32:(m:Int) % 32=(r32:Int):=by omega
      have t32:(m:Int).tmod 32=(r32:Int):=by rw [Int.tmod_eq_emod_of_nonneg (by omega)];exact q32
      have b32:(r32:Int)<32:=by omega
      have w32:IntKind.i64.wrap (r32:Int)=(r32:Int):=by rw [IntKind.wrap_i64];omega
      have HR3:=Lib.hid hr3;have HR16:=Lib.hid hr16;have HR8:=Lib.hid hr8;have HR32:=Lib.hid hr32
      have HMD:=Lib.hid hm
      clear hr3 hr16 hr8 hr32
      obtain ⟨p3,hp3⟩:∃ p,decide (r3=0∧2≤k)=p:=⟨_,rfl⟩
      obtain ⟨p1,hp1⟩:∃ p,decide (r16=1∧1≤k)=p:=⟨_,rfl⟩
      have HP3:=Lib.hid hp3;have HP1:=Lib.hid hp1
      clear hp3 hp1
      go_upto_region 8 with (fail)
      go_cut [27] from 28 to 35 (fun cv wx=>∃ (wu:World),cv = .bool p3∧wu=wx∧wu=w1)
      case first =>
       by_cases c3:r3=0
       · subst c3
         have d3:(((0:Nat):Int) == 0)=true:=rfl
         go_wp2_with fail
         go_meet
         case rel=>exact ⟨_,(show Value.bool (decide ((2:Int)≤(k:Int)))=Value.bool p3 from by rw [← HP3.out];exact congrArg Value.bool (decide_eq_decide.2 ⟨fun h=>⟨by trivial,by omega⟩,fun h=>by have:=h.2;omega⟩)),rfl,rfl⟩
       · have d3:((r3:Int) == 0)=false:=by rw [beq_eq_false_iff_ne];omega
         have hp:p3=false:=by rw [← HP3.out];exact decide_eq_false (fun h=>c3 h.1)
         subst hp
         go_wp2_with fail
         go_meet
         case rel=>exact ⟨_,rfl,rfl,rfl⟩
      case rest =>
       obtain ⟨wu,rfl,rfl,hw⟩:=hcut
       have hw:=hw.symm
       subst hw
       cases p3 with
       | true =>
         as_aux_lemma =>
          have HQ3:=of_decide_eq_true HP3.out
          have hk2:2≤k:=HQ3.2
          have HR0:=Lib.hid HQ3.1
          clear HQ3
          obtain ⟨q,hq⟩:∃ q,m / 3=q:=⟨_,rfl⟩
          obtain ⟨o,ho⟩:∃ o,q % 11=o:=⟨_,rfl⟩
          have a1:(m:Int).tdiv 3=(q:Int):=by rw [Int.tdiv_eq_ediv_of_nonneg (by omega)];omega
          have a2:(m:Int) / 3=(q:Int):=by omega
          have a3:IntKind.i64.wrap (q:Int)=(q:Int):=by rw [IntKind.wrap_i64];omega
          have a4:(q:Int).tmod 11=(o:Int):=by rw [Int.tmod_eq_emod_of_nonneg (by omega)];omega
          have a5:(q:Int) % 11=(o:Int):=by omega
          have a6:IntKind.i64.wrap (o:Int)=(o:Int):=by rw [IntKind.wrap_i64];omega
          have lo:o<11:=by omega
          obtain ⟨z9,hz9⟩:∃ z,9+o=z:=⟨_,rfl⟩
          have a7:(9:Int)+(o:Int)=(z9:Int):=by omega
          have a8:IntKind.i64.wrap (z9:Int)=(z9:Int):=by rw [IntKind.wrap_i64];omega
          obtain ⟨i2,hi2⟩:∃ i,k - 2=i:=⟨_,rfl⟩
          obtain ⟨i1,hi1⟩:∃ i,k - 1=i:=⟨_,rfl⟩
          have b1:(k:Int) - 2=(i2:Int):=by omega
          have b2:(k:Int) - 1=(i1:Int):=by omega
          have b5:IntKind.i64.wrap (i2:Int)=(i2:Int):=by rw [IntKind.wrap_i64];omega
          have b6:IntKind.i64.wrap (i1:Int)=(i1:Int):=by rw [IntKind.wrap_i64];omega
          have l2:i2<k:=by omega
          have l1:i1<k:=by omega
          have j2:(i2:Int)<(k:Int):=by omega
          have j1:(i1:Int)<(k:Int):=by omega
          have n2:(0:Int)≤(i2:Int):=by omega
          have n1:(0:Int)≤(i1:Int):=by omega
          obtain ⟨g,cg,hA,hg0,hg1,hg2,hg3⟩:=Own.some HM0.out.stk (by rw [HK.out];omega)
          injection hA with hA1 hA2 hA3
          subst hA1
          have hdr:=drop_two HK.out hk2
          rw [hi2,hi1] at hdr
          obtain ⟨a,ha⟩:∃ a,st.getD i2 0=a:=⟨_,rfl⟩
          obtain ⟨b,hb⟩:∃ b,st.getD i1 0=b:=⟨_,rfl⟩
          have ca:w1.cell? ⟨g,i2,none⟩=some (.int .i64 a):=by rw [← ha];exact Own.intCell HM0.out.stk i2 (by rw [HK.out];exact l2)
          have cb:w1.cell? ⟨g,i1,none⟩=some (.int .i64 b):=by rw [← hb];exact Own.intCell HM0.out.stk i1 (by rw [HK.out];exact l1)
          rw [ha,hb] at hdr
          have HTK:=Lib.hid (show takeM m st.length=2 from by unfold takeM;rw [if_pos ⟨HR3.out.trans HR0.out,by rw [HK.out];exact hk2⟩])
          have HND:=Lib.hid (show nodeM m st.length (st.drop (st.length - takeM m st.length))={ Nd.zero with kind:=(z9:Int),kids:=[a,b] } from by rw [HTK.out,HK.out,hi2,hdr];unfold nodeM;rw [if_pos ⟨HR3.out.trans HR0.out,hk2⟩,hq,ho,a7])
          have HDR:=Lib.hid (show st.drop (st.length - takeM m st.length)=[a,b] from by rw [HTK.out,HK.out,hi2,hdr])
          have HI2:=Lib.hid hi2;have HI1:=Lib.hid hi1
          have hcs:i2≤cs:=by rw [hA3];have:=HK.out;omega
          clear hq ho hz9 hi2 hi1 ha hb hdr hA2 hA3 hg0 hg2 hg3
          have HM2:=Lib.hid (HM0.out.drew.next (Aft_alloc w1.drew (.cells #[.int .i64 a,.int .i64 b] 3)))
          have HN2:=Lib.hid (HN1.out.drew'.below (Aft_alloc w1.drew (.cells #[.int .i64 a,.int .i64 b] 3)) HN1.out.lt)
          have HK2:=Lib.hid (MkKid.row2 (w:=w1.drew) HM0.out.aft.size HM0.out.drew.stk a b)
          have HS0:=Lib.hid (show w1.drew.cell? ⟨g,i2,none⟩=some (.int .i64 a)∧w1.drew.cell? ⟨g,i1,none⟩=some (.int .i64 b) from ⟨ca,cb⟩)
          have HGL:=Lib.hid (show g<(w1.drew.alloc (.cells #[.int .i64 a,.int .i64 b] 3)).heap.size∧some g≠some z from ⟨by rw [World.size_alloc];exact Nat.lt_succ_of_lt hg1,nd_ne HN1.out HM0.out.stk rfl⟩)
          clear hg1
          go_upto_region 9 with (fail)
          refine wp_region_held_drew (S:=fun W=>W.cell? ⟨g,i2,none⟩=some (.int .i64 a)∧W.cell? ⟨g,i1,none⟩=some (.int .i64 b)) (by kernel_rfl) HS0.out (fun _ => ?_)
          show wpAnyH _ _ _ _ _ 19 #[false,false,false,false,false,false,false,false,false,false,false,false,false,false,false,false,false,false,false] _ _
          refine held_take (i:=0) (d:=(some 36)) (fuel:=18) (listed':=#[true,false,false,false,false,false,false,false,false,false,false,false,false,false,false,false,false,false,false]) (v := ?_) rfl rfl (by kernel_rfl) (by kernel_rfl) (by kernel_rfl) rfl (fun _ _ _ h=>h) (by rfl) ?_ HS0.out ?_
          rotate_left
          · (intro wS hSw;go_simp;try (with_reducible rfl))
          simp only [Act.put,sT,sZ,sS]
          refine held_take (i:=1) (d:=(some 37)) (fuel:=17) (listed':=#[true,true,false,false,false,false,false,false,false,false,false,false,false,false,false,false,false,false,false]) (v := ?_) rfl rfl (by kernel_rfl) (by kernel_rfl) (by kernel_rfl) rfl (fun _ _ _ h=>h) (by rfl) ?_ HS0.out ?_
          rotate_left
          · (intro wS hSw;go_simp;try (with_reducible rfl))
          simp only [Act.put,sT,sZ,sS]
          refine held_take (i:=2) (d:=(some 38)) (fuel:=16) (listed':=#[true,true,true,false,false,false,false,false,false,false,false,false,false,false,false,false,false,false,false]) (v := ?_) rfl rfl (by kernel_rfl) (by kernel_rfl) (by kernel_rfl) rfl (fun _ _ _ h=>h) (by rfl) ?_ HS0.out ?_
          rotate_left
          · (intro wS hSw;go_simp;try (with_reducible rfl))
          simp only [Act.put,sT,sZ,sS]
          refine held_take (i:=3) (d:=(some 39)) (fuel:=15) (listed':=#[true,true,true,true,false,false,false,false,false,false,false,false,false,false,false,false,false,false,false]) (v := ?_) rfl rfl (by kernel_rfl) (by kernel_rfl) (by kernel_rfl) rfl (fun _ _ _ h=>h) (by rfl) ?_ HS0.out ?_
          rotate_left
          · (intro wS hSw;go_simp;try (with_reducible rfl))
          simp only [Act.put,sT,sZ,sS]
          refine held_take (i:=4) (d:=(some 40)) (fuel:=14) (listed':=#[true,true,true,true,true,false,false,false,false,false,false,false,false,false,false,false,false,false,false]) (v := ?_) rfl rfl (by kernel_rfl) (by kernel_rfl) (by kernel_rfl) rfl (fun _ _ _ h=>h) (by rfl) ?_ HS0.out ?_
          rotate_left
          · (intro wS hSw;go_simp;try (with_reducible rfl))
          simp only [Act.put,sT,sZ,sS]
          refine held_take (i:=5) (d:=(some 41)) (fuel:=13) (listed':=#[true,true,true,true,true,true,false,false,false,false,false,false,false,false,false,false,false,false,false]) (v := ?_) rfl rfl (by kernel_rfl) (by kernel_rfl) (by kernel_rfl) rfl (fun _ _ _ h=>h) (by rfl) ?_ HS0.out ?_
          rotate_left
          · (intro wS hSw;go_simp;try (with_reducible rfl))
          simp only [Act.put,sT,sZ,sS]
          refine held_take (i:=6) (d:=(some 42)) (fuel:=12) (listed':=#[true,true,true,true,true,true,true,false,false,false,false,false,false,false,false,false,false,false,false]) (v := ?_) rfl rfl (by kernel_rfl) (by kernel_rfl) (by kernel_rfl) rfl (fun _ _ _ h=>h) (by rfl) ?_ HS0.out ?_
          rotate_left
          · (intro wS hSw;go_simp;try (with_reducible rfl))
          simp only [Act.put,sT,sZ,sS]
          refine held_take (i:=7) (d:=(some 43)) (fuel:=11) (listed':=#[true,true,true,true,true,true,true,true,false,false,false,false,false,false,false,false,false,false,false]) (v := ?_) rfl rfl (by kernel_rfl) (by kernel_rfl) (by kernel_rfl) rfl (fun _ _ _ h=>h) (by rfl) ?_ HS0.out ?_
          rotate_left
          · (intro wS hSw;go_simp;try (with_reducible rfl))
          simp only [Act.put,sT,sZ,sS]
          refine held_take (i:=8) (d:=(some 44)) (fuel:=10) (listed':=#[true,true,true,true,true,true,true,true,true,false,false,false,false,false,false,false,false,false,false]) (v := ?_) rfl rfl (by kernel_rfl) (by kernel_rfl) (by kernel_rfl) rfl (fun _ _ _ h=>h) (by rfl) ?_ HS0.out ?_
          rotate_left
          · (intro wS hSw;go_simp;try (with_reducible rfl))
          simp only [Act.put,sT,sZ,sS]
          refine held_take (i:=9) (d:=(some 45)) (fuel:=9) (listed':=#[true,true,true,true,true,true,true,true,true,true,false,false,false,false,false,false,false,false,false]) (v := ?_) rfl rfl (by kernel_rfl) (by kernel_rfl) (by kernel_rfl) rfl (fun _ _ _ h=>h) (by rfl) ?_ HS0.out ?_
          rotate_left
          · (intro wS hSw;have hz:=hSw.1;go_simp;try (with_reducible rfl))
          simp only [Act.put,sT,sZ,sS]
          refine held_take (i:=10) (d:=(some 46)) (fuel:=8) (listed':=#[true,true,true,true,true,true,true,true,true,true,true,false,false,false,false,false,false,false,false]) (v := ?_) rfl rfl (by kernel_rfl) (by kernel_rfl) (by kernel_rfl) rfl (fun _ _ _ h=>h) (by rfl) ?_ HS0.out ?_
          rotate_left
          · (intro wS hSw;go_simp;try (with_reducible rfl))
          simp only [Act.put,sT,sZ,sS]
          refine held_take (i:=11) (d:=(some 47)) (fuel:=7) (listed':=#[true,true,true,true,true,true,true,true,true,true,true,true,false,false,false,false,false,false,false]) (v := ?_) rfl rfl (by kernel_rfl) (by kernel_rfl) (by kernel_rfl) rfl (fun _ _ _ h=>h) (by rfl) ?_ HS0.out ?_
          rotate_left
          · (intro wS hSw;go_simp;try (with_reducible rfl))
          simp only [Act.put,sT,sZ,sS]
          refine held_take (i:=12) (d:=(some 48)) (fuel:=6) (listed':=#[true,true,true,true,true,true,true,true,true,true,true,true,true,false,false,false,false,false,false]) (v := ?_) rfl rfl (by kernel_rfl) (by kernel_rfl) (by kernel_rfl) rfl (fun _ _ _ h=>h) (by rfl) ?_ HS0.out ?_
          rotate_left
          · (intro wS hSw;go_simp;try (with_reducible rfl))
          simp only [Act.put,sT,sZ,sS]
          refine held_take (i:=13) (d:=(some 49)) (fuel:=5) (listed':=#[true,true,true,true,true,true,true,true,true,true,true,true,true,true,false,false,false,false,false]) (v := ?_) rfl rfl (by kernel_rfl) (by kernel_rfl) (by kernel_rfl) rfl (fun _ _ _ h=>h) (by rfl) ?_ HS0.out ?_
          rotate_left
          · (intro wS hSw;go_simp;try (with_reducible rfl))
          simp only [Act.put,sT,sZ,sS]
          refine held_take (i:=14) (d:=(some 50)) (fuel:=4) (listed':=#[true,true,true,true,true,true,true,true,true,true,true,true,true,true,true,false,false,false,false]) (v := ?_) rfl rfl (by kernel_rfl) (by kernel_rfl) (by kernel_rfl) rfl (fun _ _ _ h=>h) (by rfl) ?_ HS0.out ?_
          rotate_left
          · (intro wS hSw;go_simp;try (with_reducible rfl))
          simp only [Act.put,sT,sZ,sS]
          refine held_take (i:=15) (d:=(some 51)) (fuel:=3) (listed':=#[true,true,true,true,true,true,true,true,true,true,true,true,true,true,true,true,false,false,false]) (v := ?_) rfl rfl (by kernel_rfl) (by kernel_rfl) (by kernel_rfl) rfl (fun _ _ _ h=>h) (by rfl) ?_ HS0.out ?_
          rotate_left
          · (intro wS hSw;have hz:=hSw.2;go_simp;try (with_reducible rfl))
          simp only [Act.put,sT,sZ,sS]
          refine held_one (i:=16) (d:=(some 52)) (fuel:=2) (listed':=#[true,true,true,true,true,true,true,true,true,true,true,true,true,true,true,true,true,false,false]) rfl rfl (by kernel_rfl) rfl (by rfl) (fun K hK => ?_)
          go_simp
          refine hK.out _ _ ⟨cell_over _ _ _ HS0.out.1,cell_over _ _ _ HS0.out.2⟩ ?_
          clear hK K
          simp only [Act.put,sT,sZ,sS]
          refine held_take (i:=17) (d:=(some 53)) (fuel:=1) (listed':=#[true,true,true,true,true,true,true,true,true,true,true,true,true,true,true,true,true,true,false]) (v := ?_) rfl rfl (by kernel_rfl) (by kernel_rfl) (by kernel_rfl) rfl (fun _ _ _ h=>h) (by rfl) ?_ ⟨cell_over _ _ _ HS0.out.1,cell_over _ _ _ HS0.out.2⟩ ?_
          rotate_left
          · (intro wS hSw;go_simp;try (with_reducible rfl))
          simp only [Act.put,sT,sZ,sS]
          refine held_one (i:=18) (d:=none) (fuel:=0) (listed':=#[true,true,true,true,true,true,true,true,true,true,true,true,true,true,true,true,true,true,true]) rfl rfl (by kernel_rfl) rfl (by rfl) (fun K hK => ?_)
          refine wp_store_nod (.tmp 7) (.tmp 53) rfl z _ { Nd.zero with kind:=(z9:Int),kids:=[a,b] } _ (.slice (some ⟨w1.heap.size,0,none⟩) 2 2) rfl rfl HN2.out rfl ?_
          intro w9 h1 h2;have HN9:=Lib.hid h1;have HG9:=Lib.hid h2;clear h1 h2
          have HS9:=Lib.hid (show w9.cell? ⟨g,i2,none⟩=some (.int .i64 a)∧w9.cell? ⟨g,i1,none⟩=some (.int .i64 b) from ⟨(cell_other (a:=⟨g,i2,none⟩) HG9.out HGL.out.1 HGL.out.2).trans (cell_over w1.drew _ _ HS0.out.1),(cell_other (a:=⟨g,i1,none⟩) HG9.out HGL.out.1 HGL.out.2).trans (cell_over w1.drew _ _ HS0.out.2)⟩)
          refine hK.out undef _ HS9.out ?_
          clear hK K
          simp only [Act.put]
          refine wpAnyH_done (by kernel_rfl) ?_ _
          go_wp2_with fail
          go_meet
          case rel =>
           refine ⟨_,_,rfl,rfl,Lib.hid ⟨HM2.out.over HN2.out HZ.out.1 HZ.out.2 HG9.out,⟨.slice (some ⟨w1.heap.size,0,none⟩) 2 2, ?_, ?_⟩,.inr ⟨some ⟨g,0,none⟩,cs, ?_, ?_⟩⟩⟩
           · rw [HND.out];exact HN9.out
           · rw [HDR.out];exact HK2.out.over HN2.out HG9.out
           · rw [HK.out]
           · rw [HTK.out,HK.out,HI2.out]
       | false =>
         clear q3 t3 b3 w3
         go_upto_region 11 with (fail)
         go_cut [62] from 63 to 70 (fun cv wx=>∃ (wu:World),cv = .bool p1∧wu=wx∧wu=w1)
         case first =>
          by_cases c1:r16=1
          · subst c1
            have d1:(((1:Nat):Int) == 1)=true:=rfl
            go_wp2_with fail
            go_meet
            case rel=>exact ⟨_,(show Value.bool (decide ((1:Int)≤(k:Int)))=Value.bool p1 from by rw [← HP1.out];exact congrArg Value.bool (decide_eq_decide.2 ⟨fun h=>⟨by trivial,by omega⟩,fun h=>by have:=h.2;omega⟩)),rfl,rfl⟩
          · have d1:((r16:Int) == 1)=false:=by rw [beq_eq_false_iff_ne];omega
            have hp:p1=false:=by rw [← HP1.out];exact decide_eq_false (fun h=>c1 h.1)
            subst hp
            go_wp2_with fail
            go_meet
            case rel=>exact ⟨_,rfl,rfl,rfl⟩
         case rest =>
          obtain ⟨wu,rfl,rfl,hw⟩:=hcut
          have hw:=hw.symm
          subst hw
          cases p1 with
          | true =>
            as_aux_lemma =>
             have HQ1:=of_decide_eq_true HP1.out
             have hk1:1≤k:=HQ1.2
             have HR0:=Lib.hid HQ1.1
             have HC3:=Lib.hid (of_decide_eq_false HP3.out)
             clear HQ1
             obtain ⟨i1,hi1⟩:∃ i,k - 1=i:=⟨_,rfl⟩
             have b2:(k:Int) - 1=(i1:Int):=by omega
             have b6:IntKind.i64.wrap (i1:Int)=(i1:Int):=by rw [IntKind.wrap_i64];omega
             have l1:i1<k:=by omega
             have j1:(i1:Int)<(k:Int):=by omega
             have n1:(0:Int)≤(i1:Int):=by omega
             obtain ⟨g,cg,hA,hg0,hg1,hg2,hg3⟩:=Own.some HM0.out.stk (by rw [HK.out];omega)
             injection hA with hA1 hA2 hA3
             subst hA1
             have hdr:=drop_one HK.out hk1
             rw [hi1] at hdr
             obtain ⟨a,ha⟩:∃ a,st.getD i1 0=a:=⟨_,rfl⟩
             have ca:w1.cell? ⟨g,i1,none⟩=some (.int .i64 a):=by rw [← ha];exact Own.intCell HM0.out.stk i1 (by rw [HK.out];exact l1)
             rw [ha] at hdr
             have HTK:=Lib.hid (show takeM m st.length=1 from by unfold takeM;rw [if_neg (by rw [HR3.out,HK.out];exact HC3.out),if_pos ⟨HR16.out.trans HR0.out,by rw [HK.out];exact hk1⟩])
             have HND:=Lib.hid (show nodeM m st.length (st.drop (st.length - takeM m st.length))={ Nd.zero with kind:=8,kids:=[a] } from by rw [HTK.out,HK.out,hi1,hdr];unfold nodeM;rw [if_neg (by rw [HR3.out];exact HC3.out),if_pos ⟨HR16.out.trans HR0.out,hk1⟩])
             have HDR:=Lib.hid (show st.drop (st.length - takeM m st.length)=[a] from by rw [HTK.out,HK.out,hi1,hdr])
             have HI1:=Lib.hid hi1
             have hcs:i1≤cs:=by rw [hA3];have:=HK.out;omega
             clear hi1 ha hdr hA2 hA3 hg0 hg1 hg2 hg3
             have HM2:=Lib.hid (HM0.out.next (Aft_alloc w1 (.cells #[.int .i64 a] 3)))
             have HN2:=Lib.hid (HN1.out.below (Aft_alloc w1 (.cells #[.int .i64 a] 3)) HN1.out.lt)
             have HK2:=Lib.hid (MkKid.row1 (w:=w1) HM0.out.aft.size HM0.out.stk a)
             go_wp2_with (refine wpList_store_nod rfl (.tmp 7) _ rfl z _ { Nd.zero with kind:=8,kids:=[a] } _ (.slice (some ⟨w1.heap.size,0,none⟩) 1 1) rfl rfl HN2.out rfl ?_;intro w9 h1 h2;have HN9:=Lib.hid h1;have HG9:=Lib.hid h2;clear h1 h2)
             go_meet
             case rel =>
              refine ⟨_,_,rfl,rfl,Lib.hid ⟨HM2.out.over HN2.out HZ.out.1 HZ.out.2 HG9.out,⟨.slice (some ⟨w1.heap.size,0,none⟩) 1 1, ?_, ?_⟩,.inr ⟨some ⟨g,0,none⟩,cs, ?_, ?_⟩⟩⟩
              · rw [HND.out];exact HN9.out
              · rw [HDR.out];exact HK2.out.over HN2.out HG9.out
              · rw [HK.out]
              · rw [HTK.out,HK.out,HI1.out]
          | false =>
            have HC3:=Lib.hid (of_decide_eq_false HP3.out)
            have HC1:=Lib.hid (of_decide_eq_false HP1.out)
            by_cases c2:r16=2
            · have d2:((r16:Int) == 2)=true:=by rw [beq_iff_eq];omega
              have HC2:=Lib.hid c2;clear c2
              as_aux_lemma =>
               have HQ2:=Lib.hid (HR16.out.trans HC2.out)
               obtain ⟨q16,hq16⟩:∃ q,m / 16=q:=⟨_,rfl⟩
               have a4:(m:Int).tdiv 16=(q16:Int):=by rw [Int.tdiv_eq_ediv_of_nonneg (by omega)];omega
               have a5:(m:Int) / 16=(q16:Int):=by omega
               have a6:IntKind.i64.wrap (q16:Int)=(q16:Int):=by rw [IntKind.wrap_i64];omega
               obtain ⟨r,hr⟩:∃ r,q16 % 4=r:=⟨_,rfl⟩
               have ra:(q16:Int).tmod 4=(r:Int):=by rw [Int.tmod_eq_emod_of_nonneg (by omega)];omega
               have rb:(q16:Int) % 4=(r:Int):=by omega
               have rc:IntKind.i64.wrap (r:Int)=(r:Int):=by rw [IntKind.wrap_i64];omega
               have rd:r<4:=by omega
               obtain ⟨t,ht⟩:∃ t,min k r=t:=⟨_,rfl⟩
               have m1:min (k:Int) (r:Int)=(t:Int):=by omega
               have htk:t≤k:=by omega
               obtain ⟨f,hf⟩:∃ f,k - t=f:=⟨_,rfl⟩
               have b1:(k:Int) - (t:Int)=(f:Int):=by omega
               have b5:IntKind.i64.wrap (f:Int)=(f:Int):=by rw [IntKind.wrap_i64];omega
               have hfk:f≤k:=by omega
               have hff:k - f=t:=by omega
               have f0:(0:Int)≤(f:Int):=by omega
               have f1:(f:Int)≤(k:Int):=by omega
               have HTK:=Lib.hid (show takeM m st.length=t from by unfold takeM;rw [if_neg (by rw [HR3.out,HK.out];exact HC3.out),if_neg (by rw [HR16.out,HK.out];exact HC1.out),if_pos HQ2.out,HK.out,hq16,hr,ht])
               have HDR:=Lib.hid (show st.drop (st.length - takeM m st.length)=st.drop f from by rw [HTK.out,HK.out,hf])
               have HND:=Lib.hid (show nodeM m st.length (st.drop (st.length - takeM m st.length))={ Nd.zero with kind:=7,text:=⟨#[83,85,77]⟩,kids:=st.drop f } from by rw [HDR.out];unfold nodeM;rw [if_neg (by rw [HR3.out,HK.out];exact HC3.out),if_neg (by rw [HR16.out,HK.out];exact HC1.out),if_pos HQ2.out])
               have HFL:=Lib.hid (show (st.drop f).length=t from by rw [List.length_drop,HK.out];exact hff)
               have HF:=Lib.hid hf
               have HO0:=Lib.hid (own_none w1 w1.heap.size (Nat.le_refl _))
               clear hq16 hr ht hf
               rcases HM0.out.stk.shape with ⟨h1,h2⟩ | ⟨g,cg,h1,hg0,hg1,hg2,hg3⟩
               · injection h1 with e1 e2 e3
                 subst e1;subst e2;subst e3
                 have hf0:f=0:=by omega
                 have ht0:t=0:=by omega
                 subst hf0;subst ht0
                 have HSRC:=Lib.hid (show Src Tryz.prog 1 57 (.slice none 0 0) 0 ((encInt .i64).all (st.drop 0)) (w1.alloc (.cells #[] 3)) from by rw [h2];exact Src.ofNil _ Tryz.underlying57 0)
                 have m2:min (0:Int) (r:Int)=0:=by omega
                 have hd0:st.drop 0=[]:=h2
                 clear h2
                 have HD0:=Lib.hid hd0
                 have HM2:=Lib.hid (HM0.out.next (Aft_alloc w1 (.cells #[] 3)))
                 have HN2:=Lib.hid (HN1.out.below (Aft_alloc w1 (.cells #[] 3)) HN1.out.lt)
                 have HK5:=Lib.hid (show MkKid (w1.alloc (.cells #[] 3)) w.heap.size (.slice none 0 0) (.slice (some ⟨w1.heap.size,0,none⟩) 0 0) (st.drop 0) from ⟨by rw [HD0.out];exact own_none w1 _ HM0.out.aft.size,fun g5 e e2=>by cases e2⟩)
                 clear hd0 HFL HSRC HO0
                 go_wp2_with (refine wpList_store_nod rfl (.tmp 7) _ rfl z _ { Nd.zero with kind:=7,text:=⟨#[83,85,77]⟩,kids:=st.drop 0 } _ (.slice (some ⟨w1.heap.size,0,none⟩) 0 0) rfl rfl HN2.out rfl ?_;intro w9 h1 h2;have HN9:=Lib.hid h1;have HG9:=Lib.hid h2;clear h1 h2)
                 go_meet
                 case rel =>
                  refine ⟨_,_,rfl,rfl,Lib.hid ⟨HM2.out.over HN2.out HZ.out.1 HZ.out.2 HG9.out,⟨(.slice (some ⟨w1.heap.size,0,none⟩) 0 0), ?_, ?_⟩,.inl ⟨rfl,HTK.out⟩⟩⟩
                  · rw [HND.out];exact HN9.out
                  · rw [HDR.out];exact HK5.out.over HN2.out HG9.out
               · injection h1 with e1 e2 e3
                 subst e1
                 have hkc:k≤cs:=by have:=HK.out;omega
                 have hfc:f≤cs:=by omega
                 have hfci:(f:Int)≤(cs:Int):=by omega
                 obtain ⟨AT,hAT⟩:∃ AT,(if cs=f then some (⟨g,0,none⟩:Addr) else some ⟨g,f,none⟩)=AT:=⟨_,rfl⟩
                 have HSRC:=Lib.hid (show Src Tryz.prog 1 57 (.slice AT t (cs - f)) t ((encInt .i64).all (st.drop f)) (w1.alloc (.cells #[] 3)) from by have:=src_tail (HM0.out.stk.alloc (.cells #[] 3)) HK.out hfk hkc;rw [hAT,hff] at this;exact this)
                 clear e2 e3 hg0 hg1 hg2 hg3
                 go_wp2_with (first
                  | (at_builtin;refine wpList_app_src HEL.out (encInt .i64) rfl (.tmp 97) (.tmp 103) rfl w1.heap.size _ [] rfl HO0.out _ t (st.drop f) rfl HFL.out HSRC.out ?_ ?_ ?_ ?_;(refine Nat.le_trans (Nat.mul_le_mul_left _ hEB) ?_;rw [List.length_nil];omega);(rw [List.length_nil];unfold maxLen;omega);(rw [World.size_alloc];exact Nat.le_succ _);intro v5 w5 h1 h2;rw [List.nil_append] at h1;obtain ⟨A5,c5,rfl⟩:=own_any h1 t HFL.out;have HM5:=Lib.hid (HM0.out.next ((Aft_alloc w1 (.cells #[] 3)).trans h2));have HN5:=Lib.hid (HN1.out.below ((Aft_alloc w1 (.cells #[] 3)).trans h2) HN1.out.lt);have HK5:=Lib.hid (show MkKid w5 w.heap.size (.slice (some ⟨g,0,none⟩) k cs) (.slice A5 t c5) (st.drop f) from ⟨h1.mono HM0.out.aft.size,fun g5 e e2=>by have x1:=(h1.lies e).1;have x2:=HM0.out.stk.less e2;omega⟩);clear h1 h2)
                  | (refine wpList_store_nod rfl (.tmp 7) _ rfl z _ { Nd.zero with kind:=7,text:=⟨#[83,85,77]⟩,kids:=st.drop f } _ (.slice A5 t c5) rfl rfl HN5.out rfl ?_;intro w9 h1 h2;have HN9:=Lib.hid h1;have HG9:=Lib.hid h2;clear h1 h2))
                 go_meet
                 case rel =>
                  refine ⟨_,_,rfl,rfl,Lib.hid ⟨HM5.out.over HN5.out HZ.out.1 HZ.out.2 HG9.out,⟨.slice A5 t c5, ?_, ?_⟩,.inr ⟨some ⟨g,0,none⟩,cs, ?_, ?_⟩⟩⟩
                  · rw [HND.out];exact HN9.out
                  · rw [HDR.out];exact HK5.out.over HN5.out HG9.out
                  · rw [HK.out]
                  · rw [HTK.out,HK.out,HF.out]
            have d2:((r16:Int) == 2)=false:=by rw [beq_eq_false_iff_ne];omega
            have HTK:=Lib.hid (show takeM m st.length=0 from by have h3:=HC3.out;have h1:=HC1.out;rw [← HR3.out, ← HK.out] at h3;rw [← HR16.out, ← HK.out] at h1;rw [← HR16.out] at c2;unfold takeM;rw [if_neg h3,if_neg h1,if_neg c2])
            have HND0:=Lib.hid (show ∀ ks,nodeM m st.length ks=leafM m from by have h3:=HC3.out;have h1:=HC1.out;rw [← HR3.out, ← HK.out] at h3;rw [← HR16.out, ← HK.out] at h1;rw [← HR16.out] at c2;exact fun ks=>nodeM_leaf h3 h1 c2 ks)
            clear c2
            by_cases c4:r8=4
            · have d4:((r8:Int) == 4)=true:=by rw [beq_iff_eq];omega
              have HND:=Lib.hid (show nodeM m st.length (st.drop (st.length - takeM m st.length))={ Nd.zero with kind:=5,ref:=rfM m } from by rw [HND0.out];unfold leafM;rw [if_pos (HR8.out.trans c4)])
              clear c4
              obtain ⟨q8,hq8⟩:∃ q,m / 8=q:=⟨_,rfl⟩
              obtain ⟨q16,hq16⟩:∃ q,m / 16=q:=⟨_,rfl⟩
              have a1:(m:Int).tdiv 8=(q8:Int):=by rw [Int.tdiv_eq_ediv_of_nonneg (by omega)];omega
              have a2:(m:Int) / 8=(q8:Int):=by omega
              have a3:IntKind.i64.wrap (q8:Int)=(q8:Int):=by rw [IntKind.wrap_i64];omega
              have a4:(m:Int).tdiv 16=(q16:Int):=by rw [Int.tdiv_eq_ediv_of_nonneg (by omega)];omega
              have a5:(m:Int) / 16=(q16:Int):=by omega
              have a6:IntKind.i64.wrap (q16:Int)=(q16:Int):=by rw [IntKind.wrap_i64];omega
              have l8:q8<32:=by omega
              have l16:q16<16:=by omega
              obtain ⟨u,hu⟩:∃ r,q8 % 3=r:=⟨_,rfl⟩
              have ua:(q8:Int).tmod 3=(u:Int):=by rw [Int.tmod_eq_emod_of_nonneg (by omega)];omega
              have ub:(q8:Int) % 3=(u:Int):=by omega
              have uc:IntKind.i64.wrap (u:Int)=(u:Int):=by rw [IntKind.wrap_i64];omega
              have ud:u<3:=by omega
              obtain ⟨v,hv⟩:∃ r,q16 % 5=r:=⟨_,rfl⟩
              have va:(q16:Int).tmod 5=(v:Int):=by rw [Int.tmod_eq_emod_of_nonneg (by omega)];omega
              have vb:(q16:Int) % 5=(v:Int):=by omega
              have vc:IntKind.i64.wrap (v:Int)=(v:Int):=by rw [IntKind.wrap_i64];omega
              have vd:v<5:=by omega
              obtain ⟨x,hx⟩:∃ r,q8 % 7=r:=⟨_,rfl⟩
              have xa:(q8:Int).tmod 7=(x:Int):=by rw [Int.tmod_eq_emod_of_nonneg (by omega)];omega
              have xb:(q8:Int) % 7=(x:Int):=by omega
              have xc:IntKind.i64.wrap (x:Int)=(x:Int):=by rw [IntKind.wrap_i64];omega
              have xd:x<7:=by omega
              obtain ⟨sh,hsh⟩:∃ s,sheetM m=s:=⟨_,rfl⟩
              obtain ⟨ac,hac⟩:∃ a,decide (128<m)=a:=⟨_,rfl⟩
              have hac2:decide ((128:Int)<(m:Int))=ac:=by rw [← hac];exact decide_eq_decide.2 (by omega)
              have hrf:rfM m=⟨sh,(v:Int),(x:Int),ac,false⟩:=by unfold rfM;rw [hsh,hac,hq16,hq8,hv,hx]
              have hsel:sh=if u=2 then ⟨#[84]⟩ else ⟨#[]⟩:=by rw [← hsh];unfold sheetM;rw [hq8,hu]
              rw [hrf] at HND
              have HRF:=Lib.hid hrf;have HSH:=Lib.hid hsh;have HAC:=Lib.hid hac;have HSEL:=Lib.hid hsel;have HA2:=Lib.hid hac2
              have HQ8:=Lib.hid hq8;have HQ16:=Lib.hid hq16;have HU:=Lib.hid hu;have HV:=Lib.hid hv;have HX:=Lib.hid hx
              clear hrf hsh hac hsel hac2 hq8 hq16 hu hv hx
              have k4:(w1.alloc (.cells #[.string ⟨#[]⟩,.string ⟨#[]⟩,.string ⟨#[84]⟩] 9)).cell? ⟨w1.heap.size,u,none⟩=some (.string sh):=by
               rw [World.cell?_alloc_at _ _ _ _ rfl,HSEL.out]
               have hu3:u=0∨u=1∨u=2:=by omega
               rcases hu3 with e | e | e <;> rw [e] <;> rfl
              have HM2:=Lib.hid (HM0.out.next (Aft_alloc w1 (.cells #[.string ⟨#[]⟩,.string ⟨#[]⟩,.string ⟨#[84]⟩] 9)))
              have HN2:=Lib.hid (HN1.out.below (Aft_alloc w1 (.cells #[.string ⟨#[]⟩,.string ⟨#[]⟩,.string ⟨#[84]⟩] 9)) HN1.out.lt)
              have HK2:=Lib.hid (HKD.out.next (Aft_alloc w1 (.cells #[.string ⟨#[]⟩,.string ⟨#[]⟩,.string ⟨#[84]⟩] 9)))
              have iu:(u:Int)<3:=by omega
              have hac2:=HA2.out
              go_wp2_with (refine wpList_store_nod rfl (.tmp 7) _ rfl z _ { Nd.zero with kind:=5,ref:=⟨sh,(v:Int),(x:Int),ac,false⟩ } _ (.slice none 0 0) rfl rfl HN2.out rfl ?_;intro w9 h1 h2;have HN9:=Lib.hid h1;have HG9:=Lib.hid h2;clear h1 h2)
              go_meet
              case rel =>
               refine ⟨_,_,rfl,rfl,Lib.hid ⟨HM2.out.over HN2.out HZ.out.1 HZ.out.2 HG9.out,⟨.slice none 0 0, ?_, ?_⟩,.inl ⟨rfl,HTK.out⟩⟩⟩
               · rw [HND.out];exact HN9.out
               · rw [HTK.out,Nat.sub_zero,List.drop_length];exact HK2.out.over HN2.out HG9.out
            have d4:((r8:Int) == 4)=false:=by rw [beq_eq_false_iff_ne];omega
            by_cases c5:r8=5
            · have d5:((r8:Int) == 5)=true:=by rw [beq_iff_eq];omega
              have HND:=Lib.hid (show nodeM m st.length (st.drop (st.length - takeM m st.length))=ndSpan m from by rw [HND0.out];unfold leafM;rw [if_neg (by rw [HR8.out];exact c4),if_pos (HR8.out.trans c5)])
              clear c4 c5
              obtain ⟨q8,hq8⟩:∃ q,m / 8=q:=⟨_,rfl⟩
              obtain ⟨q16,hq16⟩:∃ q,m / 16=q:=⟨_,rfl⟩
              have a1:(m:Int).tdiv 8=(q8:Int):=by rw [Int.tdiv_eq_ediv_of_nonneg (by omega)];omega
              have a2:(m:Int) / 8=(q8:Int):=by omega
              have a3:IntKind.i64.wrap (q8:Int)=(q8:Int):=by rw [IntKind.wrap_i64];omega
              have a4:(m:Int).tdiv 16=(q16:Int):=by rw [Int.tdiv_eq_ediv_of_nonneg (by omega)];omega
              have a5:(m:Int) / 16=(q16:Int):=by omega
              have a6:IntKind.i64.wrap (q16:Int)=(q16:Int):=by rw [IntKind.wrap_i64];omega
              have l8:q8<32:=by omega
              have l16:q16<16:=by omega
              obtain ⟨u,hu⟩:∃ r,q16 % 3=r:=⟨_,rfl⟩
              have ua:(q16:Int).tmod 3=(u:Int):=by rw [Int.tmod_eq_emod_of_nonneg (by omega)];omega
              have ub:(q16:Int) % 3=(u:Int):=by omega
              have uc:IntKind.i64.wrap (u:Int)=(u:Int):=by rw [IntKind.wrap_i64];omega
              have ud:u<3:=by omega
              obtain ⟨v,hv⟩:∃ r,q8 % 4=r:=⟨_,rfl⟩
              have va:(q8:Int).tmod 4=(v:Int):=by rw [Int.tmod_eq_emod_of_nonneg (by omega)];omega
              have vb:(q8:Int) % 4=(v:Int):=by omega
              have vc:IntKind.i64.wrap (v:Int)=(v:Int):=by rw [IntKind.wrap_i64];omega
              have vd:v<4:=by omega
              obtain ⟨x,hx⟩:∃ r,1+q16=r:=⟨_,rfl⟩
              obtain ⟨y,hy⟩:∃ r,2+q8=r:=⟨_,rfl⟩
              have a7:(1:Int)+(q16:Int)=(x:Int):=by omega
              have a8:(2:Int)+(q8:Int)=(y:Int):=by omega
              have a9:IntKind.i64.wrap (x:Int)=(x:Int):=by rw [IntKind.wrap_i64];omega
              have a10:IntKind.i64.wrap (y:Int)=(y:Int):=by rw [IntKind.wrap_i64];omega
              have hrf:ndSpan m=ndSpn (u:Int) (v:Int) (x:Int) (y:Int):=by unfold ndSpan ndSpn rfA rfB;rw [hq16,hq8,hu,hv,hx,hy]
              rw [hrf] at HND
              have HRF:=Lib.hid hrf
              have HQ8:=Lib.hid hq8;have HQ16:=Lib.hid hq16;have HU:=Lib.hid hu;have HV:=Lib.hid hv;have HX:=Lib.hid hx;have HY:=Lib.hid hy
              clear hrf hq8 hq16 hu hv hx hy
              go_wp2_with (refine wpList_store_nod rfl (.tmp 7) _ rfl z _ (ndSpn (u:Int) (v:Int) (x:Int) (y:Int)) _ (.slice none 0 0) rfl rfl HN1.out rfl ?_;intro w9 h1 h2;have HN9:=Lib.hid h1;have HG9:=Lib.hid h2;clear h1 h2)
              go_meet
              case rel =>
               refine ⟨_,_,rfl,rfl,Lib.hid ⟨HM0.out.over HN1.out HZ.out.1 HZ.out.2 HG9.out,⟨.slice none 0 0, ?_, ?_⟩,.inl ⟨rfl,HTK.out⟩⟩⟩
               · rw [HND.out];exact HN9.out
               · rw [HTK.out,Nat.sub_zero,List.drop_length];exact HKD.out.over HN1.out HG9.out
            have d5:((r8:Int) == 5)=false:=by rw [beq_eq_false_iff_ne];omega
            by_cases c7:r32=7
            · have d7:((r32:Int) == 7)=true:=by rw [beq_iff_eq];omega
              have HND:=Lib.hid (show nodeM m st.length (st.drop (st.length - takeM m st.length))={ Nd.zero with kind:=2,text:=txM m } from by rw [HND0.out];unfold leafM;rw [if_neg (by rw [HR8.out];exact c4),if_neg (by rw [HR8.out];exact c5),if_pos (HR32.out.trans c7)])
              clear c4 c5 c7
              as_aux_lemma =>
               have hts:=txM_size m hm
               obtain ⟨dg,hdg⟩:∃ d,strOfNums (digL m)=d:=⟨_,rfl⟩
               obtain ⟨tx,htx⟩:∃ t,txM m=t:=⟨_,rfl⟩
               have e7:(⟨#[97,34]⟩:ByteArray)++dg=tx:=by rw [← hdg, ← htx,show (⟨#[97,34]⟩:ByteArray)=strOfNums [97,34] by decide,str_append];rfl
               have z7:(⟨#[97,34]⟩:ByteArray).size+dg.size≤300:=by rw [← ByteArray.size_append,e7, ← htx];exact hts
               have y7:¬ (9223372036854775807:Int)<((⟨#[97,34]⟩:ByteArray).size:Int)+(dg.size:Int):=by omega
               have x7:(⟨#[97,34]⟩:ByteArray).size+dg.size≤9223372036854775807:=by omega
               rw [htx] at HND
               have HDG:=Lib.hid hdg;have HTX:=Lib.hid htx
               clear hdg htx hts z7
               go_wp2_with (first
                | (go_at_call 28;((with_reducible refine (refDigits_nat m (by omega) _).mono ?_);rintro e w2 ⟨rfl,hb⟩;rw [HDG.out];have HM2:=Lib.hid (HM0.out.next hb);have HN2:=Lib.hid (HN1.out.below hb HN1.out.lt);have HK2:=Lib.hid (HKD.out.next hb);clear hb))
                | (refine wpList_store_nod rfl (.tmp 7) _ rfl z _ { Nd.zero with kind:=2,text:=tx } _ (.slice none 0 0) rfl rfl HN2.out rfl ?_;intro w9 h1 h2;have HN9:=Lib.hid h1;have HG9:=Lib.hid h2;clear h1 h2))
               go_meet
               case rel =>
                refine ⟨_,_,rfl,rfl,Lib.hid ⟨HM2.out.over HN2.out HZ.out.1 HZ.out.2 HG9.out,⟨.slice none 0 0, ?_, ?_⟩,.inl ⟨rfl,HTK.out⟩⟩⟩
                · rw [HND.out];exact HN9.out
                · rw [HTK.out,Nat.sub_zero,List.drop_length];exact HK2.out.over HN2.out HG9.out
            have d7:((r32:Int) == 7)=false:=by rw [beq_eq_false_iff_ne];omega
            by_cases c10:r32=10
            · have d10:((r32:Int) == 10)=true:=by rw [beq_iff_eq];omega
              have HND:=Lib.hid (show nodeM m st.length (st.drop (st.length - takeM m st.length))={ Nd.zero with kind:=3,num:=((m / 32 % 2:Nat):Int) } from by rw [HND0.out];unfold leafM;rw [if_neg (by rw [HR8.out];exact c4),if_neg (by rw [HR8.out];exact c5),if_neg (by rw [HR32.out];exact c7),if_pos (HR32.out.trans c10)])
              clear c4 c5 c7 c10
              as_aux_lemma =>
               obtain ⟨qb,hqb⟩:∃ q,m / 32=q:=⟨_,rfl⟩
               obtain ⟨rb,hrb⟩:∃ r,m / 32 % 2=r:=⟨_,rfl⟩
               have x1:(m:Int).tdiv 32=(qb:Int):=by rw [Int.tdiv_eq_ediv_of_nonneg (by omega)];omega
               have x2:(m:Int) / 32=(qb:Int):=by omega
               have x3:IntKind.i64.wrap (qb:Int)=(qb:Int):=by rw [IntKind.wrap_i64];omega
               have x4:(qb:Int).tmod 2=(rb:Int):=by rw [Int.tmod_eq_emod_of_nonneg (by omega)];omega
               have x5:(qb:Int) % 2=(rb:Int):=by omega
               have x6:IntKind.i64.wrap (rb:Int)=(rb:Int):=by rw [IntKind.wrap_i64];omega
               rw [hrb] at HND
               have HQB:=Lib.hid hqb;have HRB:=Lib.hid hrb
               clear hqb hrb
               go_wp2_with (refine wpList_store_nod rfl (.tmp 7) _ rfl z _ { Nd.zero with kind:=3,num:=(rb:Int) } _ (.slice none 0 0) rfl rfl HN1.out rfl ?_;intro w9 h1 h2;have HN9:=Lib.hid h1;have HG9:=Lib.hid h2;clear h1 h2)
               go_meet
               case rel =>
                refine ⟨_,_,rfl,rfl,Lib.hid ⟨HM0.out.over HN1.out HZ.out.1 HZ.out.2 HG9.out,⟨.slice none 0 0, ?_, ?_⟩,.inl ⟨rfl,HTK.out⟩⟩⟩
                · rw [HND.out];exact HN9.out
                · rw [HTK.out,Nat.sub_zero,List.drop_length];exact HKD.out.over HN1.out HG9.out
            have d10:((r32:Int) == 10)=false:=by rw [beq_eq_false_iff_ne];omega
            by_cases c11:r32=11
            · have d11:((r32:Int) == 11)=true:=by rw [beq_iff_eq];omega
              have HND:=Lib.hid (show nodeM m st.length (st.drop (st.length - takeM m st.length))={ Nd.zero with kind:=4 } from by rw [HND0.out];unfold leafM;rw [if_neg (by rw [HR8.out];exact c4),if_neg (by rw [HR8.out];exact c5),if_neg (by rw [HR32.out];exact c7),if_neg (by rw [HR32.out];exact c10),if_pos (HR32.out.trans c11)])
              clear c4 c5 c7 c10 c11
              as_aux_lemma =>
               go_wp2_with (refine wpList_store_nod rfl (.tmp 7) _ rfl z _ { Nd.zero with kind:=4 } _ (.slice none 0 0) rfl rfl HN1.out rfl ?_;intro w9 h1 h2;have HN9:=Lib.hid h1;have HG9:=Lib.hid h2;clear h1 h2)
               go_meet
               case rel =>
                refine ⟨_,_,rfl,rfl,Lib.hid ⟨HM0.out.over HN1.out HZ.out.1 HZ.out.2 HG9.out,⟨.slice none 0 0, ?_, ?_⟩,.inl ⟨rfl,HTK.out⟩⟩⟩
                · rw [HND.out];exact HN9.out
                · rw [HTK.out,Nat.sub_zero,List.drop_length];exact HKD.out.over HN1.out HG9.out
            have d11:((r32:Int) == 11)=false:=by rw [beq_eq_false_iff_ne];omega
            have HND:=Lib.hid (show nodeM m st.length (st.drop (st.length - takeM m st.length))={ Nd.zero with kind:=1,num:=(m:Int) } from by rw [HND0.out];unfold leafM;rw [if_neg (by rw [HR8.out];exact c4),if_neg (by rw [HR8.out];exact c5),if_neg (by rw [HR32.out];exact c7),if_neg (by rw [HR32.out];exact c10),if_neg (by rw [HR32.out];exact c11)])
            clear c4 c5 c7 c10 c11
            as_aux_lemma =>
             go_wp2_with fail
             go_meet
             case rel =>
              refine ⟨_,_,rfl,rfl,Lib.hid ⟨HM0.out,⟨.slice none 0 0, ?_, ?_⟩,.inl ⟨rfl,HTK.out⟩⟩⟩
              · rw [HND.out];exact HN1.out
              · rw [HTK.out,Nat.sub_zero,List.drop_length];exact HKD.out
     case rest =>
      obtain ⟨s9,wu,rfl,rfl,HW⟩:=hcut
      obtain ⟨hmk,⟨kv,hnd,hha⟩,hvw⟩:=HW.out
      clear HW HM0 HN1
      have HR:=Lib.hid (HI.out.round m hm)
      rw [List.length_map,HNL.out.symm,HK.out] at HR
      rw [HK.out] at hnd hha hvw
      have hks:=kids_nodeM m k (st.drop (k - takeM m k)) hm (by rw [List.length_drop,HK.out];have:=takeM_le m k;omega)
      obtain ⟨v,hv,hkv⟩:=hha.nv _ hks
      have hk2:v.n.kids=st.drop (k - takeM m k):=by rw [hv];exact hks
      rw [← hk2] at hha
      clear hk2
      rw [← hv] at hnd HR
      subst hkv
      obtain ⟨L,hL⟩:∃ L,vs.map (·.n)++[v.n]=L:=⟨_,rfl⟩
      rw [hL] at HR
      have HL:=Lib.hid hL
      clear hL
      go_upto_region 28 with (fail)
      go_cut [4] from 176 to 180 (fun sk wx=>∃ (st5:List Int) (s5:Value) (wu5:World),s5=sk∧wu5=wx∧Hid (Mk w wu5 (.slice Al nl cl) s5 vs st5)∧Hid (NdAt wu5 z v.n v.kv)∧Hid (MkKid wu5 w.heap.size s5 v.kv v.n.kids)∧Hid (MadeI L st5))
      case first =>
       as_aux_lemma =>
        rcases hvw with ⟨rfl,ht0⟩ | ⟨A5,c5,h5,rfl⟩
        · rw [ht0,Nat.sub_zero,List.take_of_length_le (by rw [HK.out];exact Nat.le_refl _)] at HR
          have HM:=Lib.hid hmk;have HN:=Lib.hid hnd;have HH:=Lib.hid hha
          clear hmk hnd hha hv hks
          go_wp2_with (at_builtin;refine wpList_app_at HEL.out (encInt .i64) rfl (.tmp 176) (.tmp 179) rfl w.heap.size _ st rfl (HM.out.stk.alloc _) ⟨_,0,none⟩ 1 1 [(nl:Int)] rfl rfl ?_ ?_ ?_ ?_ ?_;exact cells_new _ _ _ rfl;(rw [HK.out];exact Nat.le_trans (Nat.mul_le_mul_left _ hEB) (by omega));(rw [HK.out];unfold maxLen;omega);(rw [World.size_alloc];exact Nat.le_trans HM.out.aft.size (Nat.le_succ _));intro v5 w5 h1 h2 h3;have HN5:=Lib.hid (NdAt.grow (HN.out.below (Aft_alloc _ _) HN.out.lt) (HM.out.stk.alloc _) h2);have HM5:=Lib.hid ((HM.out.next (Aft_alloc _ _)).push h1 h2 h3);have HH5:=Lib.hid ((HH.out.next (Aft_alloc _ _)).grow h2 h3);clear h1 h2 h3)
          go_meet
          case rel=>exact ⟨_,_,_,rfl,rfl,HM5,HN5,HH5,HR⟩
        · injection h5 with h5 _ _
          subst h5
          obtain ⟨f,hf⟩:∃ f,k - takeM m k=f:=⟨_,rfl⟩
          rw [hf] at HR ⊢
          have hfk:f≤k:=by omega
          obtain ⟨hfn,hfc⟩:=Own.mkFront hmk.stk f
          have hfl:(st.take f).length=f:=by rw [List.length_take,HK.out];exact Nat.min_eq_left hfk
          have HFN:=Lib.hid (show As=none→f=0∧f=0 from fun e=>by have:=hfn e;omega)
          have HFC:=Lib.hid hfc;have HFL:=Lib.hid hfl
          have HM:=Lib.hid hmk;have HN:=Lib.hid hnd;have HH:=Lib.hid hha
          clear hmk hnd hha hv hks hf hfn hfc hfl
          go_wp2_with (at_builtin;refine wpList_app_full HEL.out (encInt .i64) rfl (.tmp 176) (.tmp 179) rfl As f f (st.take f) rfl HFN.out HFL.out (fun b e j u hu=>(cell_over _ _ _ (HFC.out b e j u hu))) ⟨_,0,none⟩ 1 1 [(nl:Int)] rfl rfl ?_ (by omega) ?_ ?_ ?_;exact cells_new _ _ _ rfl;(exact Nat.le_trans (Nat.mul_le_mul_left _ hEB) (by omega));(unfold maxLen;omega);intro v5 w5 h1 h2;have HN5:=Lib.hid ((HN.out.below (Aft_alloc _ _) HN.out.lt).below h2 (NdAt.lt (HN.out.below (Aft_alloc _ _) HN.out.lt)));have HM5:=Lib.hid ((HM.out.next (Aft_alloc _ _)).fresh h1 h2);have HH5:=Lib.hid ((HH.out.next (Aft_alloc _ _)).fresh h1 h2);clear h1 h2)
          go_meet
          case rel=>exact ⟨_,_,_,rfl,rfl,HM5,HN5,HH5,HR⟩
      case rest =>
       obtain ⟨st5,s5,w5,rfl,rfl,HM5,HN5,HH5,HR5⟩:=hcut
       clear hmk hnd hha hv hks hvw HR
       go_wp2_with (first | (refine wpList_load_row rfl 61 (.tmp 7) rfl z rfl 61 #[.int .i64 v.n.kind,.int .i64 v.n.num,.string v.n.text,.string v.n.ref.sh,.int .i64 v.n.ref.c,.int .i64 v.n.ref.r,.bool v.n.ref.ac,.bool v.n.ref.ar,.string v.n.«to».sh,.int .i64 v.n.«to».c,.int .i64 v.n.«to».r,.bool v.n.«to».ac,.bool v.n.«to».ar,v.kv] _ _ HN5.out Tryz.underlying61 rfl nod_size ?_) | (at_builtin;refine wpList_app_at HNE.out encNv rfl (.tmp 181) (.tmp 183) rfl w.heap.size _ vs rfl (HM5.out.nodes.alloc _) ⟨_,0,none⟩ 1 1 [v] rfl rfl ?_ ?_ ?_ ?_ ?_;exact cells_new _ _ _ rfl;(rw [← HNL.out];exact Nat.le_trans (Nat.mul_le_mul_left _ hNB) (by omega));(rw [← HNL.out];unfold maxLen;omega);(rw [World.size_alloc];exact Nat.le_trans HM5.out.aft.size (Nat.le_succ _));intro v6 w6 h1 h2 h3;have HO6:=Lib.hid h1;have HG6:=Lib.hid h2;clear h1 h2 h3))
       go_roundw
       case rel =>
        refine ⟨i+1,nl+1,vs++[v],st5,_,_,by omega,(by rw [List.length_append, ← HNL.out];rfl),by omega,rfl,rfl,by go_num,Lib.hid ?_,Lib.hid ?_⟩
        · exact (HM5.out.next (Aft_alloc _ _)).node v (HH5.out.next (Aft_alloc _ _)) HO6.out HG6.out
        · rw [List.map_append];show MadeI (vs.map (·.n)++[v.n]) st5;rw [HL.out];exact HR5.out
       case measure=>simp [intOf];omega
   · by_cases hin:i<n
     · have h4:nl=40:=by omega
       subst h4
       have hii:(i:Int)<(n:Int):=by omega
       obtain ⟨Al,cl,rfl⟩:=own_any HM.out.nodes 40 hnl.symm
       go_wp2_with fail
       go_meet
       case rel=>exact ⟨vs,st,_,_,_,rfl,rfl,rfl,HM,HI,Lib.hid (Nat.le_of_eq hnl.symm)⟩
     · have hii:¬ (i:Int)<(n:Int):=by omega
       go_wp2_with fail
       go_meet
       case rel=>exact ⟨vs,st,_,_,_,rfl,rfl,rfl,HM,HI,Lib.hid (by rw [← hnl];exact h40)⟩
 case rest =>
  obtain ⟨vs,st,lk,sk,wu,rfl,rfl,rfl,HM,HI,HL⟩:=hcut
  obtain ⟨eb,hEB,EL⟩:=Elem.kid
  obtain ⟨nb,hNB,NL⟩:=Elem.nod
  have HEL:=Lib.hid EL;have HNE:=Lib.hid NL
  clear EL NL
  go_upto_region 30 with (fail)
  go_loopw [3,4] (fun lv sv wr=>∃ (k nl:Nat) (vs:List Nv) (st:List Int) (lk sk:Value),nl+k≤80∧lk=lv∧sk=sv∧Hid (vs.length=nl)∧Hid (st.length=k)∧Hid (Mk w wr lk sk vs st)∧Hid (MadeI (vs.map (·.n)) st)) (fun _ sv _=>lenOf sv)
  case atStart =>
   have h1:=HI.out.few
   have h2:=HL.out
   rw [List.length_map] at h1
   exact ⟨st.length,vs.length,vs,st,_,_,by omega,rfl,rfl,Lib.hid rfl,Lib.hid rfl,HM,HI⟩
  case round =>
   obtain ⟨k,nl,vs,st,lk,sk,h80,rfl,rfl,HNL,HK,HM,HI⟩:=hrel
   obtain ⟨Al,cl,rfl⟩:=own_any HM.out.nodes nl HNL.out
   obtain ⟨As,cs,rfl⟩:=own_any HM.out.stk k HK.out
   by_cases hlt:1<k
   · have hii:(1:Int)<(k:Int):=by omega
     have hk2:2≤k:=hlt
     obtain ⟨i2,hi2⟩:∃ i,k - 2=i:=⟨_,rfl⟩
     obtain ⟨i1,hi1⟩:∃ i,k - 1=i:=⟨_,rfl⟩
     have b1:(k:Int) - 2=(i2:Int):=by omega
     have b2:(k:Int) - 1=(i1:Int):=by omega
     have b5:IntKind.i64.wrap (i2:Int)=(i2:Int):=by rw [IntKind.wrap_i64];omega
     have b6:IntKind.i64.wrap (i1:Int)=(i1:Int):=by rw [IntKind.wrap_i64];omega
     have l2:i2<k:=by omega
     have l1:i1<k:=by omega
     have j2:(i2:Int)<(k:Int):=by omega
     have j1:(i1:Int)<(k:Int):=by omega
     have n2:(0:Int)≤(i2:Int):=by omega
     have n1:(0:Int)≤(i1:Int):=by omega
     obtain ⟨g,cg,hA,hg0,hg1,hg2,hg3⟩:=Own.some HM.out.stk (by rw [HK.out];omega)
     injection hA with hA1 hA2 hA3
     subst hA1
     have hdr:=drop_two HK.out hk2
     rw [hi2,hi1] at hdr
     obtain ⟨a,ha⟩:∃ a,st.getD i2 0=a:=⟨_,rfl⟩
     obtain ⟨b,hb⟩:∃ b,st.getD i1 0=b:=⟨_,rfl⟩
     have ca:wr.cell? ⟨g,i2,none⟩=some (.int .i64 a):=by rw [← ha];exact Own.intCell HM.out.stk i2 (by rw [HK.out];exact l2)
     have cb:wr.cell? ⟨g,i1,none⟩=some (.int .i64 b):=by rw [← hb];exact Own.intCell HM.out.stk i1 (by rw [HK.out];exact l1)
     rw [ha,hb] at hdr
     have hcs:i2≤cs:=by rw [hA3];have:=HK.out;omega
     have HIC:=Lib.hid (show MadeI (vs.map (·.n)++[catM a b]) (st.take i2++[((vs.map (·.n)).length:Int)]) from MadeI.cat (by rw [← hdr,List.take_append_drop];exact HI.out))
     have HI2:=Lib.hid hi2
     have HTL:=Lib.hid (show (st.take i2).length=i2 from by rw [List.length_take,HK.out];omega)
     have HKD:=Lib.hid (MkKid.row2 (w:=wr.drew) HM.out.aft.size HM.out.drew.stk a b)
     obtain ⟨v,hv,hkv⟩:=HKD.out.nv (catM a b) rfl
     have HV:=Lib.hid hv;have HKV:=Lib.hid hkv
     have HM2:=Lib.hid (HM.out.drew.next (Aft_alloc wr.drew (.cells #[.int .i64 a,.int .i64 b] 3)))
     have HM3:=Lib.hid (HM2.out.next (Aft_alloc (wr.drew.alloc (.cells #[.int .i64 a,.int .i64 b] 3)) (.cells #[.int .i64 15,.int .i64 0,.string ⟨#[]⟩,.string ⟨#[]⟩,.int .i64 0,.int .i64 0,.bool false,.bool false,.string ⟨#[]⟩,.int .i64 0,.int .i64 0,.bool false,.bool false,.slice (some ⟨wr.heap.size,0,none⟩) 2 2] 61)))
     have HK3:=Lib.hid (HKD.out.next (Aft_alloc (wr.drew.alloc (.cells #[.int .i64 a,.int .i64 b] 3)) (.cells #[.int .i64 15,.int .i64 0,.string ⟨#[]⟩,.string ⟨#[]⟩,.int .i64 0,.int .i64 0,.bool false,.bool false,.string ⟨#[]⟩,.int .i64 0,.int .i64 0,.bool false,.bool false,.slice (some ⟨wr.heap.size,0,none⟩) 2 2] 61)))
     have HC3:=Lib.hid (show ∀ (j:Nat) (u:Value),(encNv.all [v])[j]? = some u→((wr.drew.alloc (.cells #[.int .i64 a,.int .i64 b] 3)).alloc (.cells #[.int .i64 15,.int .i64 0,.string ⟨#[]⟩,.string ⟨#[]⟩,.int .i64 0,.int .i64 0,.bool false,.bool false,.string ⟨#[]⟩,.int .i64 0,.int .i64 0,.bool false,.bool false,.slice (some ⟨wr.heap.size,0,none⟩) 2 2] 61)).cell? ((⟨wr.heap.size+1,0,none⟩:Addr).add j)=some u from by
      have e:encNv.all [v]=(#[.int .i64 15,.int .i64 0,.string ⟨#[]⟩,.string ⟨#[]⟩,.int .i64 0,.int .i64 0,.bool false,.bool false,.string ⟨#[]⟩,.int .i64 0,.int .i64 0,.bool false,.bool false,.slice (some ⟨wr.heap.size,0,none⟩) 2 2]:Array Value).toList:=by show encNv.f v++[]=_;rw [List.append_nil];show (nodA v.n v.kv).toList=_;rw [hv,hkv];rfl
      rw [e]
      intro j u hj
      have:=cells_new (w:=(wr.drew.alloc (.cells #[.int .i64 a,.int .i64 b] 3))) #[.int .i64 15,.int .i64 0,.string ⟨#[]⟩,.string ⟨#[]⟩,.int .i64 0,.int .i64 0,.bool false,.bool false,.string ⟨#[]⟩,.int .i64 0,.int .i64 0,.bool false,.bool false,.slice (some ⟨wr.heap.size,0,none⟩) 2 2] 61 _ rfl j u hj
      rwa [World.size_alloc] at this)
     have HS0:=Lib.hid (show wr.drew.cell? ⟨g,i2,none⟩=some (.int .i64 a)∧wr.drew.cell? ⟨g,i1,none⟩=some (.int .i64 b) from ⟨ca,cb⟩)
     have HS2:=Lib.hid (show (wr.drew.alloc (.cells #[.int .i64 a,.int .i64 b] 3)).cell? ⟨g,i2,none⟩=some (.int .i64 a)∧(wr.drew.alloc (.cells #[.int .i64 a,.int .i64 b] 3)).cell? ⟨g,i1,none⟩=some (.int .i64 b) from ⟨cell_over _ _ _ HS0.out.1,cell_over _ _ _ HS0.out.2⟩)
     have HS3:=Lib.hid (show ((wr.drew.alloc (.cells #[.int .i64 a,.int .i64 b] 3)).alloc (.cells #[.int .i64 15,.int .i64 0,.string ⟨#[]⟩,.string ⟨#[]⟩,.int .i64 0,.int .i64 0,.bool false,.bool false,.string ⟨#[]⟩,.int .i64 0,.int .i64 0,.bool false,.bool false,.slice (some ⟨wr.heap.size,0,none⟩) 2 2] 61)).cell? ⟨g,i2,none⟩=some (.int .i64 a)∧((wr.drew.alloc (.cells #[.int .i64 a,.int .i64 b] 3)).alloc (.cells #[.int .i64 15,.int .i64 0,.string ⟨#[]⟩,.string ⟨#[]⟩,.int .i64 0,.int .i64 0,.bool false,.bool false,.string ⟨#[]⟩,.int .i64 0,.int .i64 0,.bool false,.bool false,.slice (some ⟨wr.heap.size,0,none⟩) 2 2] 61)).cell? ⟨g,i1,none⟩=some (.int .i64 b) from ⟨cell_over _ _ _ HS2.out.1,cell_over _ _ _ HS2.out.2⟩)
     have HGL:=Lib.hid (show g<((wr.drew.alloc (.cells #[.int .i64 a,.int .i64 b] 3)).alloc (.cells #[.int .i64 15,.int .i64 0,.string ⟨#[]⟩,.string ⟨#[]⟩,.int .i64 0,.int .i64 0,.bool false,.bool false,.string ⟨#[]⟩,.int .i64 0,.int .i64 0,.bool false,.bool false,.slice (some ⟨wr.heap.size,0,none⟩) 2 2] 61)).heap.size∧some g≠(Value.slice Al nl cl).ownBlock from ⟨by rw [World.size_alloc,World.size_alloc];show g<wr.heap.size+1+1;omega,fun e=>HM.out.stk.away HM.out.nodes (by decide) rfl e⟩)
     clear hi2 hi1 ha hb hdr hA2 hA3 hg0 hg1 hg2 hg3 hlt hk2 hv hkv
     go_wp2_with fail
     refine wp_region_held_drew (S:=fun W=>W.cell? ⟨g,i2,none⟩=some (.int .i64 a)∧W.cell? ⟨g,i1,none⟩=some (.int .i64 b)) (by kernel_rfl) HS0.out (fun _ => ?_)
     show wpAnyH _ _ _ _ _ 18 #[false,false,false,false,false,false,false,false,false,false,false,false,false,false,false,false,false,false] _ _
     refine held_take (i:=0) (d:=(some 188)) (fuel:=17) (listed':=#[true,false,false,false,false,false,false,false,false,false,false,false,false,false,false,false,false,false]) (v := ?_) rfl rfl (by kernel_rfl) (by kernel_rfl) (by kernel_rfl) rfl (fun _ _ _ h=>h) (by rfl) ?_ HS0.out ?_
     rotate_left
     · (intro wS hSw;go_simp;try (with_reducible rfl))
     simp only [Act.put,sT,sZ,sS]
     refine held_take (i:=1) (d:=(some 189)) (fuel:=16) (listed':=#[true,true,false,false,false,false,false,false,false,false,false,false,false,false,false,false,false,false]) (v := ?_) rfl rfl (by kernel_rfl) (by kernel_rfl) (by kernel_rfl) rfl (fun _ _ _ h=>h) (by rfl) ?_ HS0.out ?_
     rotate_left
     · (intro wS hSw;go_simp;try (with_reducible rfl))
     simp only [Act.put,sT,sZ,sS]
     refine held_take (i:=2) (d:=(some 190)) (fuel:=15) (listed':=#[true,true,true,false,false,false,false,false,false,false,false,false,false,false,false,false,false,false]) (v := ?_) rfl rfl (by kernel_rfl) (by kernel_rfl) (by kernel_rfl) rfl (fun _ _ _ h=>h) (by rfl) ?_ HS0.out ?_
     rotate_left
     · (intro wS hSw;go_simp;try (with_reducible rfl))
     simp only [Act.put,sT,sZ,sS]
     refine held_take (i:=3) (d:=(some 191)) (fuel:=14) (listed':=#[true,true,true,true,false,false,false,false,false,false,false,false,false,false,false,false,false,false]) (v := ?_) rfl rfl (by kernel_rfl) (by kernel_rfl) (by kernel_rfl) rfl (fun _ _ _ h=>h) (by rfl) ?_ HS0.out ?_
     rotate_left
     · (intro wS hSw;go_simp;try (with_reducible rfl))
     simp only [Act.put,sT,sZ,sS]
     refine held_take (i:=4) (d:=(some 192)) (fuel:=13) (listed':=#[true,true,true,true,true,false,false,false,false,false,false,false,false,false,false,false,false,false]) (v := ?_) rfl rfl (by kernel_rfl) (by kernel_rfl) (by kernel_rfl) rfl (fun _ _ _ h=>h) (by rfl) ?_ HS0.out ?_
     rotate_left
     · (intro wS hSw;go_simp;try (with_reducible rfl))
     simp only [Act.put,sT,sZ,sS]
     refine held_take (i:=5) (d:=(some 193)) (fuel:=12) (listed':=#[true,true,true,true,true,true,false,false,false,false,false,false,false,false,false,false,false,false]) (v := ?_) rfl rfl (by kernel_rfl) (by kernel_rfl) (by kernel_rfl) rfl (fun _ _ _ h=>h) (by rfl) ?_ HS0.out ?_
     rotate_left
     · (intro wS hSw;go_simp;try (with_reducible rfl))
     simp only [Act.put,sT,sZ,sS]
     refine held_take (i:=6) (d:=(some 194)) (fuel:=11) (listed':=#[true,true,true,true,true,true,true,false,false,false,false,false,false,false,false,false,false,false]) (v := ?_) rfl rfl (by kernel_rfl) (by kernel_rfl) (by kernel_rfl) rfl (fun _ _ _ h=>h) (by rfl) ?_ HS0.out ?_
     rotate_left
     · (intro wS hSw;have hz:=hSw.1;go_simp;try (with_reducible rfl))
     simp only [Act.put,sT,sZ,sS]
     refine held_take (i:=7) (d:=(some 195)) (fuel:=10) (listed':=#[true,true,true,true,true,true,true,true,false,false,false,false,false,false,false,false,false,false]) (v := ?_) rfl rfl (by kernel_rfl) (by kernel_rfl) (by kernel_rfl) rfl (fun _ _ _ h=>h) (by rfl) ?_ HS0.out ?_
     rotate_left
     · (intro wS hSw;go_simp;try (with_reducible rfl))
     simp only [Act.put,sT,sZ,sS]
     refine held_take (i:=8) (d:=(some 196)) (fuel:=9) (listed':=#[true,true,true,true,true,true,true,true,true,false,false,false,false,false,false,false,false,false]) (v := ?_) rfl rfl (by kernel_rfl) (by kernel_rfl) (by kernel_rfl) rfl (fun _ _ _ h=>h) (by rfl) ?_ HS0.out ?_
     rotate_left
     · (intro wS hSw;go_simp;try (with_reducible rfl))
     simp only [Act.put,sT,sZ,sS]
     refine held_take (i:=9) (d:=(some 197)) (fuel:=8) (listed':=#[true,true,true,true,true,true,true,true,true,true,false,false,false,false,false,false,false,false]) (v := ?_) rfl rfl (by kernel_rfl) (by kernel_rfl) (by kernel_rfl) rfl (fun _ _ _ h=>h) (by rfl) ?_ HS0.out ?_
     rotate_left
     · (intro wS hSw;go_simp;try (with_reducible rfl))
     simp only [Act.put,sT,sZ,sS]
     refine held_take (i:=10) (d:=(some 198)) (fuel:=7) (listed':=#[true,true,true,true,true,true,true,true,true,true,true,false,false,false,false,false,false,false]) (v := ?_) rfl rfl (by kernel_rfl) (by kernel_rfl) (by kernel_rfl) rfl (fun _ _ _ h=>h) (by rfl) ?_ HS0.out ?_
     rotate_left
     · (intro wS hSw;go_simp;try (with_reducible rfl))
     simp only [Act.put,sT,sZ,sS]
     refine held_take (i:=11) (d:=(some 199)) (fuel:=6) (listed':=#[true,true,true,true,true,true,true,true,true,true,true,true,false,false,false,false,false,false]) (v := ?_) rfl rfl (by kernel_rfl) (by kernel_rfl) (by kernel_rfl) rfl (fun _ _ _ h=>h) (by rfl) ?_ HS0.out ?_
     rotate_left
     · (intro wS hSw;go_simp;try (with_reducible rfl))
     simp only [Act.put,sT,sZ,sS]
     refine held_take (i:=12) (d:=(some 200)) (fuel:=5) (listed':=#[true,true,true,true,true,true,true,true,true,true,true,true,true,false,false,false,false,false]) (v := ?_) rfl rfl (by kernel_rfl) (by kernel_rfl) (by kernel_rfl) rfl (fun _ _ _ h=>h) (by rfl) ?_ HS0.out ?_
     rotate_left
     · (intro wS hSw;have hz:=hSw.2;go_simp;try (with_reducible rfl))
     simp only [Act.put,sT,sZ,sS]
     refine held_one (i:=13) (d:=(some 201)) (fuel:=4) (listed':=#[true,true,true,true,true,true,true,true,true,true,true,true,true,true,false,false,false,false]) rfl rfl (by kernel_rfl) rfl (by rfl) (fun K hK => ?_)
     go_simp
     refine hK.out _ _ HS2.out ?_
     clear hK K
     simp only [Act.put,sT,sZ,sS]
     refine held_take (i:=14) (d:=(some 202)) (fuel:=3) (listed':=#[true,true,true,true,true,true,true,true,true,true,true,true,true,true,true,false,false,false]) (v := ?_) rfl rfl (by kernel_rfl) (by kernel_rfl) (by kernel_rfl) rfl (fun _ _ _ h=>h) (by rfl) ?_ HS2.out ?_
     rotate_left
     · (intro wS hSw;go_simp;try (with_reducible rfl))
     simp only [Act.put,sT,sZ,sS]
     refine held_one (i:=15) (d:=(some 203)) (fuel:=2) (listed':=#[true,true,true,true,true,true,true,true,true,true,true,true,true,true,true,true,false,false]) rfl rfl (by kernel_rfl) rfl (by rfl) (fun K hK => ?_)
     go_simp
     refine hK.out _ _ HS3.out ?_
     clear hK K
     simp only [Act.put,sT,sZ,sS]
     refine held_one (i:=16) (d:=(some 204)) (fuel:=1) (listed':=#[true,true,true,true,true,true,true,true,true,true,true,true,true,true,true,true,true,false]) rfl rfl (by kernel_rfl) rfl (by rfl) (fun K hK => ?_)
     refine wp_app_at HNE.out encNv rfl (.tmp 188) (.tmp 203) rfl w.heap.size _ vs rfl HM3.out.nodes ⟨wr.heap.size+1,0,none⟩ 1 1 [v] rfl rfl HC3.out ?_ ?_ ?_ ?_
     · (rw [HNL.out];exact Nat.le_trans (Nat.mul_le_mul_left _ hNB) (by omega))
     · (rw [HNL.out];unfold maxLen;omega)
     · exact HM3.out.aft.size
     intro v4 w4 h1 h2 _
     have HO4:=Lib.hid h1;have HG4:=Lib.hid h2;clear h1 h2
     have HS4:=Lib.hid (show w4.cell? ⟨g,i2,none⟩=some (.int .i64 a)∧w4.cell? ⟨g,i1,none⟩=some (.int .i64 b) from ⟨(cell_other (a:=⟨g,i2,none⟩) HG4.out HGL.out.1 HGL.out.2).trans HS3.out.1,(cell_other (a:=⟨g,i1,none⟩) HG4.out HGL.out.1 HGL.out.2).trans HS3.out.2⟩)
     refine hK.out _ _ HS4.out ?_
     clear hK K
     simp only [Act.put,sT,sZ,sS]
     refine held_take (i:=17) (d:=(some 3)) (fuel:=0) (listed':=#[true,true,true,true,true,true,true,true,true,true,true,true,true,true,true,true,true,true]) (v := ?_) rfl rfl (by kernel_rfl) (by kernel_rfl) (by kernel_rfl) rfl (fun _ _ _ h=>h) (by rfl) ?_ HS4.out ?_
     rotate_left
     · (intro wS hSw;go_simp;try (with_reducible rfl))
     simp only [Act.put,sT,sZ,sS]
     refine wpAnyH_done (by kernel_rfl) ?_ _
     obtain ⟨A4,c4,rfl⟩:=own_any HO4.out (nl+1) (by rw [List.length_append,HNL.out];rfl)
     have HM4:=Lib.hid (HM3.out.node v (by rw [HV.out,HKV.out];exact HK3.out) HO4.out HG4.out)
     obtain ⟨hfn,hfc⟩:=Own.mkFront HM4.out.stk i2
     have HFN:=Lib.hid (show (some ⟨g,0,none⟩:Option Addr)=none→i2=0∧i2=0 from fun e=>nomatch e)
     have HFC:=Lib.hid hfc
     have s1:((nl+1:Nat):Int) - 1=(nl:Int):=by omega
     have s3:(nl:Int)+1 - 1=(nl:Int):=by omega
     have s2:IntKind.i64.wrap (nl:Int)=(nl:Int):=by rw [IntKind.wrap_i64];omega
     clear hfn hfc
     go_wp2_with (at_builtin;refine wpList_app_full HEL.out (encInt .i64) rfl (.tmp 212) (.tmp 216) rfl (some ⟨g,0,none⟩) i2 i2 (st.take i2) rfl HFN.out HTL.out (fun b e j u hu=>(cell_over _ _ _ (HFC.out b e j u hu))) ⟨_,0,none⟩ 1 1 [(nl:Int)] rfl rfl ?_ (by omega) ?_ ?_ ?_;exact cells_new _ _ _ rfl;(exact Nat.le_trans (Nat.mul_le_mul_left _ hEB) (by omega));(unfold maxLen;omega);intro v5 w5 h1 h2;obtain ⟨A5,c5,rfl⟩:=own_any h1 (i2+1) (by rw [List.length_append,HTL.out];rfl);have HO5:=Lib.hid h1;have HM5:=Lib.hid ((HM4.out.next (Aft_alloc _ _)).fresh h1 h2);clear h1 h2)
     go_roundw
     case rel =>
      refine ⟨i2+1,nl+1,vs++[v],st.take i2++[(nl:Int)],_,_,by omega,rfl,rfl,Lib.hid (by rw [List.length_append,HNL.out];rfl),Lib.hid (by rw [List.length_append,HTL.out];rfl),HM5,Lib.hid ?_⟩
      have:=HIC.out
      rw [List.length_map,HNL.out] at this
      rw [List.map_append]
      show MadeI (vs.map (·.n)++[v.n]) _
      rw [HV.out];exact this
     case measure=>simp [lenOf];omega
   · have hii:¬ (1:Int)<(k:Int):=by omega
     go_wp2_with fail
     go_ret
     exact ⟨_,_,vs,st,rfl,HM.out,HI.out,by rw [HK.out];omega,by rw [HNL.out];omega⟩
end Go.Proofs.YtecpbligblnonaaGreatDoor
