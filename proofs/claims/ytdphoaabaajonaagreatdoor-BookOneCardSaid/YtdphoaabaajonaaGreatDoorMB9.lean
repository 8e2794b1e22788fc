/-
 Texts of layers, put together.
-/
import Derived.Test.YtdphoaabaajonaaGreatDoorMB8
import Derived.Deep.RegionHeld3
import Derived.OpenShut
import Derived.ProofKit
import Derived.Test.YtdphoaabaajonaaGreatDoorCards
import Derived.Test.YtdphoaabaajonaaGreatDoorTie
import Derived.Shelf.Vars
import Derived.Deep.Strs
import Derived.Deep.DeepHandedRow
import Derived.Lib.LaidTab
import Derived.Stop.LaidErr
import Derived.Lay
namespace Go.Proofs.YtdphoaabaajonaaGreatDoor
open Go.RowKit
theorem SN.fq {w w':World} {b:Nat} {v:Value} {vs:List (Nd × Value)} (h:SN w b v vs) (hf:Fq w w' b) (hw:b<w.heap.size):SN w' b v vs:=by
 obtain ⟨⟨A,cap,h1,h2⟩,h3⟩:=h
 refine ⟨⟨A,cap,h1,h2.imp id ?_⟩,fun p hp=>(h3 p hp).fq hf (Nat.le_refl _) hw⟩
 rintro ⟨pb,po,e1,e2,e3⟩
 exact ⟨pb,po,e1,e2,fun i n k hi j hj=>(World.cell?_of_block (a:=⟨pb,po+i*14+j,none⟩) (hf.block pb (by omega) (by omega) (.inl e2))).trans (e3 i n k hi j hj)⟩
theorem SN.lift {w w':World} {B C:Nat} {v:Value} {vs:List (Nd × Value)} (h:SN w B v vs) (hb:Below B w w') (hC:B≤C):SN w' C v vs:=by
 obtain ⟨⟨A,cap,h1,h2⟩,h3⟩:=h
 refine ⟨⟨A,cap,h1,h2.imp id ?_⟩,fun p hp => ?_⟩
 · rintro ⟨pb,po,e1,e2,e3⟩
   exact ⟨pb,po,e1,by omega,fun i n k hi j hj=>(hb.cell (p:=⟨pb,po+i*14+j,none⟩) e2).trans (e3 i n k hi j hj)⟩
 · obtain ⟨A2,c2,g1,g2,g3,g4⟩:=h3 p hp
   refine ⟨A2,c2,g1,g2,g3,g4.imp id ?_⟩
   rintro ⟨pb,po,e1,e2,e3⟩
   exact ⟨pb,po,e1,by omega,fun j x hj=>(hb.cell (p:=⟨pb,po+j,none⟩) e2).trans (e3 j x hj)⟩
def slen (o:Option Value):Nat:=match o with | some (.slice _ n _)=>n | _=>0
theorem slen_own {α : Type} {size:Nat} {E:Enc α size} {e:TypeId} {w:World} {base:Nat} {v:Value} {xs:List α} (h:Own E e w base v xs):slen (some v)=xs.length:=by
 rcases h.shape with ⟨rfl,rfl⟩ | ⟨g,cap,rfl, -⟩
 · rfl
 · rfl
def wm (b L:Nat) (w:World):Nat:=2*(L - slen (w.cell? ⟨b,3,none⟩)) - slen (w.cell? ⟨b,1,none⟩)
theorem WQ.wm {w:World} {b:Nat} {nv:Value} {st:List Pt} {txt:List Int} (h:WQ w b nv st txt) (L:Nat):wm b L w=2*(L - txt.length) - st.length:=by
 obtain ⟨wv,⟨ad,bv,h1,_,h3,_⟩,h4⟩:=h
 obtain ⟨-,c1, -,c3⟩:=h1.facts
 unfold Go.Proofs.YtdphoaabaajonaaGreatDoor.wm
 rw [c1,c3,slen_own h4,slen_own h3]
theorem WQ.wait {w:World} {b:Nat} {nv:Value} {st:List Pt} {txt:List Int} (h:WQ w b nv st txt):∃ A c,w.cell? ⟨b,1,none⟩=some (.slice A st.length c):=by
 obtain ⟨wv,⟨ad,bv,h1, -⟩,h4⟩:=h
 have c1:=h1.facts.2.1
 rcases h4.shape with ⟨rfl,rfl⟩ | ⟨g,cap,rfl, -⟩
 · exact ⟨_,_,c1⟩
 · exact ⟨_,_,c1⟩
set_option maxRecDepth 100000 in
set_option maxHeartbeats 4000000 in
theorem print_not (w:World) (v:Value) (vs:List (Nd × Value)) (hv:Vars w) (h:SN w w.heap.size v vs) (hz:SZ vs) (ht:¬ treeB (vs.map (·.1))=true) :
 Calls Tryz.prog 57 #[v] w fun e w'=>e = .returned (.string (strOfNums (printL (vs.map (·.1)))))∧Below w.heap.size w w':=by
 have hT:=ptree_any w v vs hv h hz
 rw [show treeB (vs.map (·.1))=false from by cases hq:treeB (vs.map (·.1)) with | false=>rfl | true=>exact absurd hq ht] at hT
 have HT:=Lib.hid hT
 have HP:=Lib.hid (show printL (vs.map (·.1))=[] from by unfold printL;rw [if_neg ht])
 clear hT hv h hz ht
 go_enter Tryz.func57,Tryz.ntmps57
 go_wp2_with (go_at_call 76;((with_reducible refine HT.out.mono ?_);rintro e w1 ⟨rfl,h1⟩;have H1:=Lib.hid h1;clear h1))
 go_ret
 exact ⟨by rw [HP.out] <;> rfl,H1.out⟩
set_option maxRecDepth 100000 in
set_option maxHeartbeats 8000000 in
theorem print_tree (w:World) (v:Value) (vs:List (Nd × Value)) (hv:Vars w) (htab:Tab w) (hmax:MaxV w) (hsh:ShV w) (h:SN w w.heap.size v vs) (hz:SZ vs) (hnum:∀ q∈vs,q.1.num≤9223372036854775807) (hlen:(printL (vs.map (·.1))).length≤1000000000) (ht:treeB (vs.map (·.1))=true) :
 Calls Tryz.prog 57 #[v] w fun e w'=>e = .returned (.string (strOfNums (printL (vs.map (·.1)))))∧Below w.heap.size w w':=by
 have hT:=ptree_any w v vs hv h hz
 rw [ht] at hT
 have HT:=Lib.hid hT
 obtain ⟨l,hl⟩:∃ l,vs.map (·.1)=l:=⟨_,rfl⟩
 have hpos:0<vs.length:=by
  rcases Nat.eq_zero_or_pos vs.length with e | e
  · rw [List.length_eq_zero_iff.1 e] at ht;exact absurd ht (by decide)
  · exact e
 have hlv:l.length=vs.length:=by rw [← hl,List.length_map]
 obtain ⟨L,hL⟩:∃ L,(printL l).length=L:=⟨_,rfl⟩
 rw [hl,hL] at hlen
 have hpl:printL l=shN l ((l.length:Int) - 1):=by unfold printL shN;rw [if_pos (hl ▸ ht)]
 have hp0:ptL l (Pt.op ((l.length:Int) - 1) 1)=printL l:=by rw [ptL_op,inL_any,hpl]
 have hok0:PtOk l (Pt.op ((l.length:Int) - 1) 1):=PtOk.op (by omega) (by omega) 1
 rw [hlv] at hp0 hok0
 obtain ⟨N,hN⟩:∃ N,vs.length=N:=⟨_,rfl⟩
 have hN9:N≤1000:=by rw [← hN];exact hz.1
 rw [hN] at hp0 hok0 hpos
 have hw1:wrap64 ((N:Int) - 1)=(N:Int) - 1:=by unfold wrap64;omega
 obtain ⟨A,cap,hva⟩:=h.lenle
 rw [hN] at hva
 subst hva
 have HSN:=Lib.hid h;have HZ:=Lib.hid hz;have HNUM:=Lib.hid hnum;have HTR:=Lib.hid ht
 have HL:=Lib.hid hl;have HLL:=Lib.hid hL;have HP0:=Lib.hid hp0;have HOK0:=Lib.hid hok0
 have HG0:=Lib.hid (show Tab w∧MaxV w∧ShV w from ⟨htab,hmax,hsh⟩)
 rw [hl]
 clear hT hv htab hmax hsh h hz hnum ht hl hL hpl hp0 hok0 hlv hN
 go_enter Tryz.func57,Tryz.ntmps57
 go_upto_region 3 with (go_at_call 76;((with_reducible refine HT.out.mono ?_);rintro e w1 ⟨rfl,h1⟩;have H1:=Lib.hid h1;clear h1))
 go_upto_region 4 with (fail)
 have hwr:WrAt (w1.alloc (.cells #[.slice A N cap,.slice none 0 0,.pointer none,.slice none 0 0] 120)) w1.heap.size (.slice A N cap) (.slice none 0 0) (.pointer none) (.slice none 0 0):=(Go.MapKept.heap_alloc w1 _).1
 have hB2:Below w1.heap.size w1 (w1.alloc (.cells #[.slice A N cap,.slice none 0 0,.pointer none,.slice none 0 0] 120)):=(Below.refl _ _).alloc (Nat.le_refl _) _
 obtain ⟨b,hb⟩:∃ b,w1.heap.size=b:=⟨_,rfl⟩
 obtain ⟨w2,hw2⟩:∃ w2,w1.alloc (.cells #[.slice A N cap,.slice none 0 0,.pointer none,.slice none 0 0] 120)=w2:=⟨_,rfl⟩
 have hwb:w.heap.size≤b:=by rw [← hb];exact H1.out.size
 have HB02:=Lib.hid (H1.out.trans (hB2.mono H1.out.size))
 rw [hw2] at hwr HB02 ⊢
 rw [hb] at hwr ⊢
 have hbl:b<w2.heap.size:=hwr.lt
 have HQ2:=Lib.hid (show WQ w2 b (.slice A N cap) [] [] from ⟨_,⟨_,_,hwr,.inl rfl,Own.nil _ _ _ _,fun x hx=>absurd hx (by simp)⟩,Own.nil _ _ _ _⟩)
 have HG2:=Lib.hid (show Gl w w2 b from ⟨hwb,HB02.out,HG0.out⟩)
 have HSN2:=Lib.hid (HSN.out.lift HB02.out hwb)
 have HPU:=Lib.hid (fun (wr:World) (hr:Below w2.heap.size w2 wr)=>push_lit wr b (.slice A N cap) [] [Pt.op ((N:Int) - 1) 1] [] #[.string ⟨#[]⟩,.int .i64 ((N:Int) - 1),.int .i64 1] 1 rfl rfl (HQ2.out.below hr) (by show 1≤1000000;decide) (Nat.zero_le _))
 clear hw2 hb hwr hB2 HT
 go_upto_region 5 with (first
  | (go_at_call 78;((with_reducible refine (op_lit _ _ _).mono ?_);rintro e w3 ⟨rfl,h3⟩;have HB3:=Lib.hid h3;clear h3))
  | (go_at_call 77;((with_reducible refine (HPU.out _ HB3.out).mono ?_);rintro e w4 ⟨rfl,h3,h4⟩;have HQ4:=Lib.hid h3;have HF4:=Lib.hid ((Fq.ofBelow HB3.out).trans h4);clear h3 h4)))
 go_loopw [] (fun wr=>∃ (st:List Pt) (txt:List Int),Hid (WQ wr b (.slice A N cap) st txt)∧Hid (Fq w2 wr b)∧Hid (∀ p∈st,PtOk l p)∧Hid (txt++st.reverse.flatMap (ptL l)=printL l))
  (fun wr=>wm b L wr)
 case atStart=>exact ⟨[Pt.op ((N:Int) - 1) 1],[],HQ4,HF4,Lib.hid (fun p hp=>by rw [List.mem_singleton.1 hp];exact HOK0.out),Lib.hid (by show ptL l (Pt.op ((N:Int) - 1) 1)++[]=_;rw [List.append_nil];exact HP0.out)⟩
 case round =>
  obtain ⟨st,txt,HQ,HF,HOK,HE⟩:=hrel
  rcases List.eq_nil_or_concat st with rfl | ⟨st',p,rfl⟩
  · obtain ⟨Aw,cw,c1⟩:=HQ.out.wait
    rw [List.length_nil] at c1
    have HTX:=Lib.hid (show txt=printL l from by have h:=HE.out;rw [List.reverse_nil,List.flatMap_nil,List.append_nil] at h;exact h)
    obtain ⟨wv,hws, -⟩:=HQ.out
    have HSTR:=Lib.hid (string_any wr b (.slice A N cap) wv txt hws (by rw [HTX.out];exact HL.out ▸ tree_ne HTR.out (fun n hn=>by obtain ⟨q,hq,rfl⟩:=List.mem_map.1 hn;exact HNUM.out q hq)))
    clear hws
    go_wp2_with (go_at_call 81;((with_reducible refine HSTR.out.mono ?_);rintro e w5 ⟨rfl,h3⟩;have H5:=Lib.hid h3;clear h3))
    go_ret
    refine ⟨by rw [HTX.out] <;> rfl, ?_⟩
    have hg:=((HG2.out.fq HF.out)).2.1
    exact hg.trans ((H5.out.mono (by omega)))
  · rw [List.concat_eq_append] at HQ HOK HE
    obtain ⟨Aw,cw,c1⟩:=HQ.out.wait
    rw [List.length_append,List.length_singleton] at c1
    obtain ⟨M,hM⟩:∃ M:Nat,st'.length+1=M:=⟨_,rfl⟩
    have hM0:(0:Int)<(M:Int):=by omega
    rw [hM] at c1
    have htr:treeB l=true:=by rw [← HL.out];exact HTR.out
    have hpk:PtOk l p:=HOK.out p (by simp)
    have hE:=HE.out
    rw [List.reverse_append,List.reverse_singleton,List.singleton_append,List.flatMap_cons] at hE
    have hE2:=congrArg List.length hE
    rw [List.length_append,List.length_append,HLL.out] at hE2
    have hfl:=flat_len htr st'.reverse (fun q hq=>HOK.out q (List.mem_append_left _ (List.mem_reverse.1 hq)))
    rw [List.length_reverse] at hfl
    have hSL:=stepP_L htr p hpk
    have hSL2:=congrArg List.length hSL
    rw [List.length_append] at hSL2
    have hSF:=flat_len htr _ (stepP_ok htr p hpk)
    have hSM:=stepP_less htr p hpk
    have HPOP:=Lib.hid (pop_any wr b (.slice A N cap) st' p txt HQ.out (by omega))
    have HWR:=Lib.hid (fun (w5:World) (h5:WQ w5 b (.slice A N cap) st' txt) (hf:Fb wr w5 b)=>writeP_any w w5 b (.slice A N cap) vs st' txt p (HG2.out.fq (HF.out.trans (Fq.ofB hf))) h5 (HSN2.out.fq (HF.out.trans (Fq.ofB hf)) hbl) HZ.out (by rw [HL.out];exact htr) HNUM.out (by rw [HL.out];exact hpk) (by rw [HL.out];omega) (by rw [HL.out];omega))
    rw [HL.out] at HWR
    have HQN:=Lib.hid (fun (w6:World) (hq:WQ w6 b (.slice A N cap) (st'++(stepP l p).2.reverse) (txt++(stepP l p).1))=>show wm b L w6<wm b L wr from by
     rw [hq.wm,HQ.out.wm,List.length_append,List.length_append,List.length_append,List.length_reverse,List.length_singleton];omega)
    have HEN:=Lib.hid (show (txt++(stepP l p).1)++(st'++(stepP l p).2.reverse).reverse.flatMap (ptL l)=printL l from by
     rw [List.reverse_append,List.reverse_reverse,List.flatMap_append,List.append_assoc txt, ← List.append_assoc (stepP l p).1, ← hSL];exact hE)
    have HON:=Lib.hid (show ∀ q∈st'++(stepP l p).2.reverse,PtOk l q from fun q hq=>by
     rcases List.mem_append.1 hq with hq | hq
     · exact HOK.out q (List.mem_append_left _ hq)
     · exact stepP_ok htr p hpk q (List.mem_reverse.1 hq))
    clear hE hE2 hfl hSL hSL2 hSF hSM hM
    go_wp2_with (first
     | (go_at_call 80;((with_reducible refine HPOP.out.mono ?_);rintro e w5 ⟨rfl,h3,h4⟩;have HQ5:=Lib.hid h3;have HF5:=Lib.hid h4;clear h3 h4))
     | (go_at_call 79;((with_reducible refine (HWR.out _ HQ5.out HF5.out).mono ?_);rintro e w6 ⟨rfl,h3,h4⟩;have HQ6:=Lib.hid h3;have HF6:=Lib.hid h4;clear h3 h4)))
    go_roundw
    case rel=>exact ⟨_,_,HQ6,Lib.hid (HF.out.trans ((Fq.ofB HF5.out).trans HF6.out)),HON,HEN⟩
    case measure=>exact HQN.out _ HQ6.out
theorem print_any (w:World) (v:Value) (vs:List (Nd × Value)) (hv:Vars w) (htab:Tab w) (hmax:MaxV w) (hsh:ShV w) (h:SN w w.heap.size v vs) (hz:SZ vs) (hnum:∀ q∈vs,q.1.num≤9223372036854775807) (hlen:(printL (vs.map (·.1))).length≤1000000000) :
 Calls Tryz.prog 57 #[v] w fun e w'=>e = .returned (.string (strOfNums (printL (vs.map (·.1)))))∧Below w.heap.size w w':=by
 by_cases ht:treeB (vs.map (·.1))=true
 · exact print_tree w v vs hv htab hmax hsh h hz hnum hlen ht
 · exact print_not w v vs hv h hz ht
structure Sx (w:World):Prop where
 vars:Vars w
 ops:OpV w
 tab:Tab w
 max:MaxV w
 sh:ShV w
theorem Sx.below {w w':World} (h:Sx w) (hb:Below w.heap.size w w'):Sx w':=⟨h.vars.below hb,h.ops.below hb,h.tab.below hb,h.max.below hb,h.sh.below hb⟩
theorem Sx.print {w:World} (h:Sx w) (v:Value) (vs:List (Nd × Value)) (hs:SN w w.heap.size v vs) (hz:SZ vs) (hnum:∀ q∈vs,q.1.num≤9223372036854775807) (hlen:(printL (vs.map (·.1))).length≤1000000000) :
 Calls Tryz.prog 57 #[v] w fun e w'=>e = .returned (.string (strOfNums (printL (vs.map (·.1)))))∧Below w.heap.size w w':=print_any w v vs h.vars h.tab h.max h.sh hs hz hnum hlen
def TS (M:Nat) (t:Tk):Prop:=t.text.size≤M∧t.sh.size≤M
def NS (M:Nat) (n:Nd):Prop:=n.text.size≤M∧n.ref.sh.size≤M∧n.to.sh.size≤M
def TSs (M:Nat) (ts:List Tk):Prop:=∀ t∈ts,TS M t
def NSs (M:Nat) (ns:List Nd):Prop:=∀ n∈ns,NS M n
theorem TSs.tail {M:Nat} {ts:List Tk} (h:TSs M ts):TSs M ts.tail:=fun t ht=>h t (List.mem_of_mem_tail ht)
theorem NSs.app {M:Nat} {a b:List Nd} (h:NSs M a) (k:NSs M b):NSs M (a++b):=fun n hn=>(List.mem_append.1 hn).elim (h n) (k n)
theorem NSs.one {M:Nat} {n:Nd} (h:NS M n):NSs M [n]:=fun m hm=>by rw [List.mem_singleton] at hm;subst hm;exact h
theorem NS.plain (M:Nat) (k n:Int) (ks:List Int):NS M { Nd.zero with kind:=k,num:=n,kids:=ks }:=⟨Nat.zero_le _,Nat.zero_le _,Nat.zero_le _⟩
theorem refP_sizes {M base:Nat} {t:Tk} {ts:List Tk} {ns:List Nd} {a:Nat} {r:List Tk} (ht:TS M t) (hs:TSs M ts) (h:refP base t ts = .ok (ns,a,r)):NSs M ns∧TSs M r:=by
 unfold refP at h
 split at h
 · split at h
   · rename_i u us hu
     split at h
     · injection h with h;injection h with h1 h2;injection h2 with h2 h3
       subst h1;subst h3
       have hus:TSs M (u :: us):=by rw [← hu];exact hs.tail
       exact ⟨NSs.one ⟨Nat.zero_le _,ht.2,(hus u (by simp)).2⟩,fun x hx=>hus x (by simp [hx])⟩
     · cases h
   · cases h
 · injection h with h;injection h with h1 h2;injection h2 with h2 h3
   subst h1;subst h3
   exact ⟨NSs.one ⟨Nat.zero_le _,ht.2,Nat.zero_le _⟩,hs⟩
theorem sizes_all (M:Nat):∀ f:Nat,(∀ n deep base ts ns a r,exprP f n deep base ts=some (.ok (ns,a,r))→TSs M ts→NSs M ns∧TSs M r) ∧
 (∀ n deep base ns a ts ns' a' r,rowP f n deep base ns a ts=some (.ok (ns',a',r))→TSs M ts→NSs M ns→NSs M ns'∧TSs M r) ∧
 (∀ deep base ts ns a r,primP f deep base ts=some (.ok (ns,a,r))→TSs M ts→NSs M ns∧TSs M r) ∧
 (∀ deep base ns ks ts ns' ks' r,argsP f deep base ns ks ts=some (.ok (ns',ks',r))→TSs M ts→NSs M ns→NSs M ns'∧TSs M r)
 | 0=>by
   refine ⟨?_, ?_, ?_, ?_⟩
   · intro n deep base ts ns a r h;unfold exprP at h;cases h
   · intro n deep base ns a ts ns' a' r h;unfold rowP at h;cases h
   · intro deep base ts ns a r h;unfold primP at h;cases h
   · intro deep base ns ks ts ns' ks' r h;unfold argsP at h;cases h
 | f + 1 => by
   obtain ⟨i1,i2,i3,i4⟩:=sizes_all M f
   refine ⟨?_, ?_, ?_, ?_⟩
   · intro n deep base ts ns a r h ht
     rw [exprP_succ] at h
     by_cases c:n≤3
     · rw [if_pos c] at h
       rcases bindR_some h with ⟨e,_,h2⟩ | ⟨ms,b,s,h1,h2⟩
       · cases h2
       · obtain ⟨k1,k2⟩:=i1 _ _ _ _ _ _ _ h1 ht
         exact i2 _ _ _ _ _ _ _ _ _ h2 k2 k1
     · rw [if_neg c] at h
       by_cases d:signIs ⟨#[45]⟩ ts=true
       · rw [if_pos d] at h
         by_cases d2:12≤deep
         · rw [if_pos d2] at h;cases h
         · rw [if_neg d2] at h
           rcases bindR_some h with ⟨e,_,h2⟩ | ⟨ms,b,s,h1,h2⟩
           · cases h2
           · obtain ⟨k1,k2⟩:=i1 _ _ _ _ _ _ _ h1 ht.tail
             injection h2 with h2;injection h2 with h2;injection h2 with h3 h4;injection h4 with h4 h5
             subst h3;subst h4;subst h5
             exact ⟨k1.app (NSs.one (NS.plain _ _ _ _)),k2⟩
       · rw [if_neg d] at h;exact i3 _ _ _ _ _ _ h ht
   · intro n deep base ns a ts ns' a' r h ht hn
     rw [rowP_succ] at h
     by_cases c:opK n ts=0
     · rw [if_pos c] at h
       injection h with h;injection h with h;injection h with h1 h2;injection h2 with h2 h3
       subst h1;subst h2;subst h3
       exact ⟨hn,ht⟩
     · rw [if_neg c] at h
       rcases bindR_some h with ⟨e,_,h2⟩ | ⟨ms,b,s,h1,h2⟩
       · cases h2
       · obtain ⟨k1,k2⟩:=i1 _ _ _ _ _ _ _ h1 ht.tail
         exact i2 _ _ _ _ _ _ _ _ _ h2 k2 (hn.app (k1.app (NSs.one (NS.plain _ _ _ _))))
   · intro deep base ts ns a r h ht
     cases ts with
     | nil=>rw [primP_nil] at h;cases h
     | cons t ts =>
       have h0:TS M t:=ht t (by simp)
       have hts:TSs M ts:=fun x hx=>ht x (by simp [hx])
       have leaf:∀ (x:Nd),NS M x→(some (.ok ([x],base,ts)):Option Res)=some (.ok (ns,a,r))→NSs M ns∧TSs M r:=by
        intro x hk h
        injection h with h;injection h with h;injection h with h1 h2;injection h2 with h2 h3
        subst h1;subst h2;subst h3
        exact ⟨NSs.one hk,hts⟩
       rw [primP_cons] at h
       by_cases c1:signIs ⟨#[40]⟩ (t :: ts)=true
       · rw [if_pos c1] at h
         by_cases d2:12≤deep
         · rw [if_pos d2] at h;cases h
         · rw [if_neg d2] at h
           rcases bindR_some h with ⟨e,_,h2⟩ | ⟨ms,b,s,h1,h2⟩
           · cases h2
           · obtain ⟨k1,k2⟩:=i1 _ _ _ _ _ _ _ h1 hts
             split at h2
             · injection h2 with h2;injection h2 with h2;injection h2 with h3 h4;injection h4 with h4 h5
               subst h3;subst h4;subst h5
               exact ⟨k1,k2.tail⟩
             · cases h2
       rw [if_neg c1] at h
       by_cases c2:t.kind=1
       · rw [if_pos c2] at h;exact leaf _ (NS.plain _ _ _ _) h
       rw [if_neg c2] at h
       by_cases c3:t.kind=2
       · rw [if_pos c3] at h;exact leaf _ ⟨h0.1,Nat.zero_le _,Nat.zero_le _⟩ h
       rw [if_neg c3] at h
       by_cases c4:t.kind=6
       · rw [if_pos c4] at h;exact leaf _ (NS.plain _ _ _ _) h
       rw [if_neg c4] at h
       by_cases c5:t.kind=4
       · rw [if_pos c5] at h;injection h with h;exact refP_sizes h0 hts h
       rw [if_neg c5] at h
       by_cases c6:t.kind=3
       · rw [if_pos c6] at h
         by_cases e1:t.text=⟨#[84,82,85,69]⟩
         · rw [if_pos e1] at h;exact leaf _ (NS.plain _ _ _ _) h
         rw [if_neg e1] at h
         by_cases e2:t.text=⟨#[70,65,76,83,69]⟩
         · rw [if_pos e2] at h;exact leaf _ (NS.plain _ _ _ _) h
         rw [if_neg e2] at h
         by_cases e3:signIs ⟨#[40]⟩ ts=true
         · rw [if_pos e3] at h
           by_cases d2:12≤deep
           · rw [if_pos d2] at h;cases h
           · rw [if_neg d2] at h
             rcases bindR_some h with ⟨e,_,h2⟩ | ⟨ms,ks,s,h1,h2⟩
             · cases h2
             · have hk:NSs M ms∧TSs M s:=by
                split at h1
                · injection h1 with h1;injection h1 with h1;injection h1 with h3 h4;injection h4 with h4 h5
                  subst h3;subst h5
                  exact ⟨fun _ h=>absurd h (by simp),hts.tail⟩
                · exact i4 _ _ _ _ _ _ _ _ h1 hts.tail (fun _ h=>absurd h (by simp))
               split at h2
               · injection h2 with h2;injection h2 with h2;injection h2 with h3 h4;injection h4 with h4 h5
                 subst h3;subst h4;subst h5
                 exact ⟨hk.1.app (NSs.one ⟨h0.1,Nat.zero_le _,Nat.zero_le _⟩),hk.2.tail⟩
               · cases h2
         · rw [if_neg e3] at h;cases h
       · rw [if_neg c6] at h;cases h
   · intro deep base ns ks ts ns' ks' r h ht hn
     rw [argsP_succ] at h
     rcases bindR_some h with ⟨e,_,h2⟩ | ⟨ms,b,s,h1,h2⟩
     · cases h2
     · obtain ⟨k1,k2⟩:=i1 _ _ _ _ _ _ _ h1 ht
       split at h2
       · exact i4 _ _ _ _ _ _ _ _ h2 k2.tail (hn.app k1)
       · injection h2 with h2;injection h2 with h2;injection h2 with h3 h4;injection h4 with h4 h5
         subst h3;subst h4;subst h5
         exact ⟨hn.app k1,k2⟩
theorem parseP_sizes {M f:Nat} {ts:List Tk} {ns:List Nd} (h:parseP f ts=some (.ok ns)) (ht:TSs M ts):NSs M ns:=by
 unfold parseP at h
 rcases bindR_some h with ⟨e,_,h2⟩ | ⟨ms,b,s,h1,h2⟩
 · cases h2
 · split at h2
   · injection h2 with h2;injection h2 with h2;subst h2
     exact ((sizes_all M f).1 _ _ _ _ _ _ _ h1 ht).1
   · cases h2
theorem strN_size {l:List Int} (h:Bytes l):(strOfNums l).size=l.length:=by rw [← length_sb,sb_str _ h]
theorem quoF_size:∀ (n:Nat) (l:List Int) (t:List Int) (k:Nat),l.length≤n→quoF l=some (t,k)→t.length≤l.length
 | _,[],_,_,_,h=>by simp [quoF] at h
 | 0,_ :: _,_,_,hn,_=>by simp at hn
 | n + 1, x :: l,t,k,hn,h=>by
   rw [quoF_cons] at h
   by_cases h1:x<32
   · rw [if_pos h1] at h;cases h
   · rw [if_neg h1] at h
     by_cases h2:x≠34
     · rw [if_pos h2] at h
       cases hq:quoF l with
       | none=>rw [hq] at h;cases h
       | some q =>
         rw [hq] at h
         simp only [Option.map_some,Option.some.injEq,Prod.mk.injEq] at h
         have:=quoF_size n l q.1 q.2 (by simp at hn;omega) hq
         rw [← h.1];simp only [List.length_cons];omega
     · rw [if_neg h2] at h
       cases l with
       | nil=>simp only [Option.some.injEq,Prod.mk.injEq] at h;rw [← h.1];simp
       | cons y m =>
         simp only at h
         by_cases h3:y=34
         · rw [if_pos h3] at h
           cases hq:quoF m with
           | none=>rw [hq] at h;cases h
           | some q =>
             rw [hq] at h
             simp only [Option.map_some,Option.some.injEq,Prod.mk.injEq] at h
             have:=quoF_size n m q.1 q.2 (by simp at hn;omega) hq
             rw [← h.1];simp only [List.length_cons];omega
         · rw [if_neg h3] at h
           simp only [Option.some.injEq,Prod.mk.injEq] at h;rw [← h.1];simp
theorem textL_size (sh:List Int) (c r:Int) (ac ar:Bool) (hm:mayL sh c r=true):sh.length≤(textL sh c r ac ar).length:=by
 unfold textL
 rw [if_pos hm]
 by_cases h:sh=[]
 · rw [h];exact Nat.zero_le _
 · rw [if_neg h];simp only [List.length_append];omega
theorem tokT_size (l:List Int) (t:Tk) (n p M:Nat) (hb:Bytes l) (hM:l.length≤M) (h:tokT l=some (t,n)):TS M (t.goto p):=by
 have z:(⟨#[]⟩:ByteArray).size≤M:=Nat.zero_le _
 cases l with
 | nil=>simp [tokT] at h
 | cons x l =>
   have hspan:∀ q:Int→Bool,((x :: l).takeWhile q).length≤M:=fun q=>Nat.le_trans (take_le q _) hM
   rw [tokT_cons] at h
   by_cases h1:isNum x=true
   · rw [if_pos h1] at h
     unfold numT at h
     split at h
     · cases h
     · simp only [Option.some.injEq,Prod.mk.injEq] at h
       rw [← h.1];exact ⟨z,z⟩
   · rw [if_neg h1] at h
     by_cases h2:x=34
     · rw [if_pos h2] at h
       unfold quoT at h
       cases hq:quoF l with
       | none=>rw [hq] at h;cases h
       | some q =>
         rw [hq] at h
         simp only [Option.map_some,Option.some.injEq,Prod.mk.injEq] at h
         obtain ⟨g1,g2⟩:=quoF_good _ l q.1 q.2 (Nat.le_refl _) (fun y hy=>hb y (by simp [hy])) hq
         rw [← h.1]
         refine ⟨?_,z⟩
         show (strOfNums q.1).size≤M
         rw [strN_size g1]
         have:=quoF_size _ l q.1 q.2 (Nat.le_refl _) hq
         simp only [List.length_cons] at hM;omega
     · rw [if_neg h2] at h
       by_cases h3:x=35
       · rw [if_pos h3] at h
         unfold deadT at h
         split at h
         · simp only [Option.some.injEq,Prod.mk.injEq] at h
           rw [← h.1];exact ⟨z,z⟩
         · cases h
       · rw [if_neg h3] at h
         by_cases h4:isLet x=true∨x=36
         · rw [if_pos h4] at h
           unfold wordT at h
           cases hq:readS (strOfNums ((x :: l).takeWhile isWord)) with
           | some d =>
             rw [hq] at h
             simp only [Option.some.injEq,Prod.mk.injEq] at h
             rw [← h.1]
             refine ⟨z, ?_⟩
             show d.sh.size≤M
             have e:=(read_some _ d hq).2.2
             rw [sb_str _ (hb.span isWord)] at e
             have k1:=textL_size (sb d.sh) d.c d.r d.ac d.ar (read_some _ d hq).2.1
             rw [e,length_sb] at k1
             exact Nat.le_trans k1 (hspan isWord)
           | none =>
             rw [hq] at h
             simp only at h
             by_cases hc:calledL ((x :: l).takeWhile isWord)=true
             · rw [if_pos hc] at h
               simp only [Option.some.injEq,Prod.mk.injEq] at h
               rw [← h.1]
               refine ⟨?_,z⟩
               show (strOfNums ((x :: l).takeWhile isWord)).size≤M
               rw [strN_size (hb.span isWord)];exact hspan isWord
             · rw [if_neg hc] at h;cases h
         · rw [if_neg h4] at h
           unfold signT at h
           split at h
           · cases h
           · simp only [Option.some.injEq,Prod.mk.injEq] at h
             rw [← h.1]
             refine ⟨?_,z⟩
             show (strOfNums ((x :: l).take (signN (x :: l)))).size≤M
             rw [strN_size (fun y hy=>hb y (List.mem_of_mem_take hy)),List.length_take];omega
theorem lexF_sizes (M:Nat):∀ (f p:Nat) (l:List Int) (ts:List Tk),Bytes l→l.length≤M→lexF f p l=some ts→TSs M ts
 | f,p,[],ts,_,_,h=>by
   have h0:lexF f p []=some [Tk.zero.goto p]:=by unfold lexF;rfl
   rw [h0] at h;injection h with h;subst h
   intro t ht;rw [List.mem_singleton] at ht;subst ht
   exact ⟨Nat.zero_le _,Nat.zero_le _⟩
 | 0,_,_ :: _,_,_,_,h=>by unfold lexF at h;cases h
 | f + 1,p,x :: l,ts,hb,hM,h=>by
   have hbl:Bytes l:=fun y hy=>hb y (by simp [hy])
   rw [lexF_cons] at h
   by_cases hx:x=32
   · rw [if_pos hx] at h
     exact lexF_sizes M f (p+1) l ts hbl (by simp only [List.length_cons] at hM;omega) h
   · rw [if_neg hx] at h
     cases hq:tokT (x :: l) with
     | none=>rw [hq] at h;cases h
     | some q =>
       obtain ⟨t0,n⟩:=q
       rw [hq] at h
       simp only [Option.map_eq_some_iff] at h
       obtain ⟨us,h1,rfl⟩:=h
       have k1:=lexF_sizes M f (p+n) _ us (fun y hy=>hb y (List.mem_of_mem_drop hy)) (by rw [List.length_drop];omega) h1
       intro t ht
       rcases List.mem_cons.1 ht with rfl | ht
       · exact tokT_size (x :: l) t0 n p M hb hM hq
       · exact k1 t ht
theorem tokT_num (l:List Int) (t:Tk) (n:Nat) (h:tokT l=some (t,n)):t.num≤9223372036854775807:=by
 cases l with
 | nil=>simp [tokT] at h
 | cons x l =>
   rw [tokT_cons] at h
   split at h
   · unfold numT at h
     split at h
     · cases h
     · simp only [Option.some.injEq,Prod.mk.injEq] at h
       rw [← h.1]
       show valL _≤_
       omega
   split at h
   · unfold quoT at h
     cases hq:quoF l with
     | none=>rw [hq] at h;cases h
     | some q =>
       rw [hq] at h
       simp only [Option.map_some,Option.some.injEq,Prod.mk.injEq] at h
       rw [← h.1];show (0:Int)≤_;omega
   split at h
   · unfold deadT at h
     split at h
     · simp only [Option.some.injEq,Prod.mk.injEq] at h
       rw [← h.1];show (0:Int)≤_;omega
     · cases h
   split at h
   · unfold wordT at h
     split at h
     · simp only [Option.some.injEq,Prod.mk.injEq] at h
       rw [← h.1];show (0:Int)≤_;omega
     · split at h
       · simp only [Option.some.injEq,Prod.mk.injEq] at h
         rw [← h.1];show (0:Int)≤_;omega
       · cases h
   · unfold signT at h
     split at h
     · cases h
     · simp only [Option.some.injEq,Prod.mk.injEq] at h
       rw [← h.1];show (0:Int)≤_;omega
theorem Tok.num {t:Tk} (h:Tok t):t.num≤9223372036854775807:=by
 have:=tokT_num _ _ _ h.2.1
 exact this
theorem Tok.pos {t:Tk} (h:Tok t):1≤(txK t).length:=(tokT_le _ _ _ h.2.1).1
theorem wr_mem {n rk d:Nat} {ts:List Tk} {d':Nat} {ts':List Tk} (h:Wr n rk d ts d' ts'):ts.length≤ts'.length∧∀ t∈ts,t∈ts':=by
 rcases h with ⟨_,rfl,_⟩ | ⟨_,_,l,r,_,_,rfl⟩
 · exact ⟨Nat.le_refl _,fun _ h=>h⟩
 · exact ⟨by simp;omega,fun t ht=>by simp [ht]⟩
theorem sh_few {m:Bool} {base:Nat} {ns:List Nd} {ks:List Int} {ts:List Tk} {rk d:Nat} (h:Sh m base ns ks ts rk d):(∀ t∈ts,t.num≤9223372036854775807)→ns.length≤ts.length∧∀ n∈ns,n.num≤9223372036854775807:=by
 induction h with
 | leaf base ts nd h =>
   intro ht
   refine ⟨by cases h <;> simp,fun n hn => ?_⟩
   rw [List.mem_singleton.1 hn]
   cases h with
   | num t h=>exact ht t (by simp)
   | yes t h g=>show (1:Int)≤_;omega
   | _=>show (0:Int)≤_;omega
 | neg base ns a ts rk d h m hm d' ts' hw ih =>
   intro ht
   obtain ⟨w1,w2⟩:=wr_mem hw
   obtain ⟨g1,g2⟩:=ih fun t h=>ht t (List.mem_cons_of_mem _ (w2 t h))
   refine ⟨by simp only [List.length_append,List.length_cons,List.length_nil];omega,fun n hn => ?_⟩
   rcases List.mem_append.1 hn with hn | hn
   · exact g2 n hn
   · rw [List.mem_singleton.1 hn];show (0:Int)≤_;omega
 | op base o ho ns ms a b ts us rk1 rk2 d1 d2 h g s hs e1 e2 ts' us' hw gw ih ig =>
   intro ht
   obtain ⟨w1,w2⟩:=wr_mem hw
   obtain ⟨x1,x2⟩:=wr_mem gw
   obtain ⟨g1,g2⟩:=ih fun t h=>ht t (List.mem_append_left _ (w2 t h))
   obtain ⟨y1,y2⟩:=ig fun t h=>ht t (List.mem_append_right _ (List.mem_cons_of_mem _ (x2 t h)))
   refine ⟨by simp only [List.length_append,List.length_cons,List.length_nil];omega,fun n hn => ?_⟩
   rcases List.mem_append.1 hn with hn | hn
   · exact g2 n hn
   rcases List.mem_append.1 hn with hn | hn
   · exact y2 n hn
   · rw [List.mem_singleton.1 hn];show (0:Int)≤_;omega
 | call base ns ks ts d h t l r =>
   rename_i ih
   intro ht
   obtain ⟨g1,g2⟩:=ih fun t h=>ht t (by simp [h])
   refine ⟨by simp only [List.length_append,List.length_cons,List.length_nil];omega,fun n hn => ?_⟩
   rcases List.mem_append.1 hn with hn | hn
   · exact g2 n hn
   · rw [List.mem_singleton.1 hn];show (0:Int)≤_;omega
 | none base=>intro _;exact ⟨Nat.le_refl _,fun n hn=>by cases hn⟩
 | one base ns a ts rk d h ih=>exact ih
 | and base ns ms ks b ts us rk d1 d2 h hk c hc g ih ig =>
   intro ht
   obtain ⟨g1,g2⟩:=ih fun t h=>ht t (List.mem_append_left _ h)
   obtain ⟨y1,y2⟩:=ig fun t h=>ht t (List.mem_append_right _ (List.mem_cons_of_mem _ h))
   refine ⟨by simp only [List.length_append,List.length_cons];omega,fun n hn => ?_⟩
   rcases List.mem_append.1 hn with hn | hn
   · exact g2 n hn
   · exact y2 n hn
theorem txL_few:∀ ts:List Tk,(∀ t∈ts,Tok t)→ts.length≤(txL ts).length
 | [],_=>Nat.zero_le _
 | t :: ts,h=>by
   have ih:=txL_few ts fun u hu=>h u (List.mem_cons_of_mem _ hu)
   have h1:=(h t (by simp)).pos
   rw [txL_cons,List.length_append,List.length_cons];omega
theorem txL_bytes:∀ ts:List Tk,(∀ t∈ts,Tok t)→Bytes (txL ts)
 | [],_=>fun x hx=>by cases hx
 | t :: ts,h=>fun x hx=>by
   rw [txL_cons] at hx
   rcases List.mem_append.1 hx with hx | hx
   · exact (h t (by simp)).2.2 x hx
   · exact txL_bytes ts (fun u hu=>h u (List.mem_cons_of_mem _ hu)) x hx
theorem PIs_told (s:ByteArray) (ns:List Nd) (h:PIs s (.ok ns)):(ns.length≤300∧0<ns.length∧treeB ns=true)∧(∀ n∈ns,n.num≤9223372036854775807)∧(printL ns).length≤s.size∧s.size≤300∧PIs (strOfNums (printL ns)) (.ok ns):=by
 rcases h with ⟨_,h⟩ | ⟨_,_,h⟩ | ⟨h0,ts,f,h1,h2⟩
 · cases h
 · cases h
 · have hb:Bytes (sb s):=fun x hx=>sb_bd s x hx
   have ht:=parse_tree h2 (lexL_good s ts h1).1
   obtain ⟨us,rq,d,a,g1,g2,g3,g4,g5⟩:=told_text hb h1 h2
   rw [length_sb] at g4
   obtain ⟨k1,k2⟩:=sh_few g1 fun t h=>(g3 t h).num
   have k3:=txL_few us g3
   obtain ⟨p1,vs,g,p2,p3⟩:=print_told hb h1 h2 ht
   rw [length_sb] at p1
   have hpos:0<ns.length:=by
    cases ns with
    | nil=>exact absurd ht (by decide)
    | cons n ns=>simp
   have hby:Bytes (printL ns):=by
    rw [sh_print g1 ht]
    exact txL_bytes us g3
   refine ⟨⟨by omega,hpos,ht⟩,k2,p1,h0,.inr (.inr ⟨by rw [strOfNums_size];omega,vs,g,by rw [sb_str _ hby];exact p2,p3⟩)⟩
theorem PIs_sizes6 (s:ByteArray) (ns:List Nd) (h:PIs s (.ok ns)):∀ n∈ns,n.text.size≤1000000∧n.ref.sh.size≤1000000∧n.to.sh.size≤1000000:=by
 rcases h with ⟨_,h⟩ | ⟨_,_,h⟩ | ⟨h0,ts,f,h1,h2⟩
 · cases h
 · cases h
 · exact parseP_sizes h2 (lexF_sizes 1000000 _ _ _ _ (fun x hx=>sb_bd s x hx) (by rw [length_sb];omega) h1)
theorem parse_sn (s:ByteArray) (w:World) (hx:Sx w) (ns:List Nd) (hp:PIs s (.ok ns)) :
 Calls Tryz.prog 56 #[.string s] w fun e w'=>Below w.heap.size w w'∧∃ g cap vs,e = .returned (.tuple #[.slice (some ⟨g,0,none⟩) ns.length cap,.int .i64 0])∧vs.map Prod.fst=ns∧SN w' w'.heap.size (.slice (some ⟨g,0,none⟩) ns.length cap) vs:=by
 refine (parse_ok s w hx.vars hx.ops ns hp (PIs_told s ns hp).1.2.1).mono ?_
 rintro e w' ⟨hb,g,cap,vs,he,h1,h2,h3, -⟩
 exact ⟨hb,g,cap,_,he,(sn_fst vs).trans h1,h3.sn h2⟩
def OkE {α : Type} (x:Option (Except Int α)):Prop:=∀ c,x=some (.error c)→c=5∨c=6
theorem OkE.non {α : Type}:OkE (none:Option (Except Int α)):=fun c h=>by cases h
theorem OkE.ok {α : Type} (v : α):OkE (some (.ok v):Option (Except Int α)):=fun c h=>by injection h with h;cases h
theorem OkE.e5 {α : Type}:OkE (some (.error 5):Option (Except Int α)):=fun c h=>by injection h with h;injection h with h;exact .inl h.symm
theorem OkE.e6 {α : Type}:OkE (some (.error 6):Option (Except Int α)):=fun c h=>by injection h with h;injection h with h;exact .inr h.symm
theorem OkE.ite {α : Type} {p:Prop} [Decidable p] {x y:Option (Except Int α)} (h:OkE x) (g:OkE y):OkE (if p then x else y):=by split;exact h;exact g
theorem OkE.bind {α β γ δ : Type} {x:Option (Except Int (α × β × γ))} {k : α → β → γ → Option (Except Int δ)} (h:OkE x) (g:∀ a b c,OkE (k a b c)):OkE (bindR x k):=fun c hc=>by
 rcases bindR_some hc with ⟨e,h1,h2⟩ | ⟨a,b,d,_,h2⟩
 · injection h2 with h2;subst h2;exact h c h1
 · exact g a b d c h2
theorem refP_e (base:Nat) (t:Tk) (ts:List Tk):OkE (some (refP base t ts)):=by
 unfold refP
 split
 · split
   · split
     · exact OkE.ok _
     · exact OkE.e5
   · exact OkE.e5
 · exact OkE.ok _
theorem err_all:∀ f:Nat,(∀ n deep base ts,OkE (exprP f n deep base ts))∧(∀ n deep base ns a ts,OkE (rowP f n deep base ns a ts))∧(∀ deep base ts,OkE (primP f deep base ts))∧(∀ deep base ns ks ts,OkE (argsP f deep base ns ks ts))
 | 0=>⟨fun _ _ _ _=>by unfold exprP;exact OkE.non,fun _ _ _ _ _ _=>by unfold rowP;exact OkE.non,fun _ _ _=>by unfold primP;exact OkE.non,fun _ _ _ _ _=>by unfold argsP;exact OkE.non⟩
 | f + 1 => by
   obtain ⟨i1,i2,i3,i4⟩:=err_all f
   refine ⟨fun n deep base ts => ?_,fun n deep base ns a ts => ?_,fun deep base ts => ?_,fun deep base ns ks ts => ?_⟩
   · rw [exprP_succ]
     exact OkE.ite (OkE.bind (i1 _ _ _ _) fun _ _ _=>i2 _ _ _ _ _ _) (OkE.ite (OkE.ite OkE.e6 (OkE.bind (i1 _ _ _ _) fun _ _ _=>OkE.ok _)) (i3 _ _ _))
   · rw [rowP_succ]
     exact OkE.ite (OkE.ok _) (OkE.bind (i1 _ _ _ _) fun _ _ _=>i2 _ _ _ _ _ _)
   · cases ts with
     | nil=>rw [primP_nil];exact OkE.e5
     | cons t ts =>
       rw [primP_cons]
       repeat' first
        | exact OkE.ok _
        | exact OkE.e5
        | exact OkE.e6
        | exact refP_e _ _ _
        | exact i1 _ _ _ _
        | exact i4 _ _ _ _ _
        | (apply OkE.bind)
        | (apply OkE.ite)
        | intro
   · rw [argsP_succ]
     exact OkE.bind (i1 _ _ _ _) fun _ _ _=>OkE.ite (i4 _ _ _ _ _) (OkE.ok _)
theorem PIs_err (s:ByteArray) (c:Int) (h:PIs s (.error c)):c≠0:=by
 rcases h with ⟨_,h⟩ | ⟨_,_,h⟩ | ⟨_,ts,f,_,h⟩
 · injection h with h;omega
 · injection h with h;omega
 · unfold parseP at h
   have:=OkE.bind ((err_all f).1 0 0 0 ts) (k:=fun ns _ r=>if kindAt r=0 then some (.ok ns) else some (.error 5)) (fun _ _ _=>OkE.ite (OkE.ok _) OkE.e5) c h
   omega
def ErrS (w:World):Prop:=∃ ev,w.cell? ⟨1,0,none⟩=some ev∧(ev = .nilIface∨∃ te pe,ev = .iface te pe)
theorem ErrS.below {w w':World} (h:ErrS w) (hb:Below w.heap.size w w'):ErrS w':=by
 obtain ⟨ev,h1,h2⟩:=h
 exact ⟨ev,(hb.cell (show (⟨1,0,none⟩:Addr).block<w.heap.size from Lib.lt_of_cell h1)).trans h1,h2⟩
structure Cx (w:World):Prop where
 sx:Sx w
 syn:ErrS w
theorem Cx.below {w w':World} (h:Cx w) (hb:Below w.heap.size w w'):Cx w':=⟨h.sx.below hb,h.syn.below hb⟩
set_option maxHeartbeats 400000 in
theorem cdig_any (c:Int) (_h0:0≤c) (_h1:c≤255) (w:World) :
 Calls Tryz.prog 55 #[.int .u8 c] w fun e w'=>e = .returned (.bool (isNum c))∧w=w':=by
 go_enter Tryz.func55,Tryz.ntmps55
 go_wp2
 all_goals go_ret
 all_goals exact ⟨ret_bool (by unfold isNum;first | rfl | (symm;rw [decide_eq_true_iff];omega) | (symm;rw [decide_eq_false_iff_not];omega) | (rw [decide_eq_decide];omega)),rfl⟩
theorem kd_empty (s:ByteArray) (h:s.size=0):kd s=0:=by unfold kd;rw [sb_nil s h];rfl
theorem kd_first (s:ByteArray) (hp0:0<s.size) (a:Int) (ha:(s[0].toNat:Int)=a):kd s=if a=39 then 1 else if a=61 then 2 else if a=45∨isNum a=true then 3 else 4:=by
 have hga:(sb s).getD 0 0=a:=by rw [sb_getD s 0 hp0,ha]
 have hl:(sb s).length=s.size:=length_sb s
 unfold kd
 cases h:sb s with
 | nil=>rw [h] at hl;simp at hl;omega
 | cons c l =>
   rw [h] at hga
   have:c=a:=by simpa using hga
   subst this;rfl
set_option maxRecDepth 100000 in
set_option maxHeartbeats 400000 in
theorem kindOf_any (s:ByteArray) (_hs:s.size≤1000000) (w:World):Calls Tryz.prog 37 #[.string s] w fun e w'=>e = .returned (.int .i64 (kd s))∧w=w':=by
 by_cases h0:s.size=0
 · have hk:=kd_empty s h0
   have hz:=sb_nil s h0
   have HK:=Lib.hid hk;clear hk
   obtain rfl:s=⟨#[]⟩:=by first | exact hz | (rw [← str_sb s,hz];rfl)
   clear h0 hz _hs
   go_enter Tryz.func37,Tryz.ntmps37
   go_wp2_with fail
   all_goals go_ret
   all_goals exact ⟨by rw [HK.out];first | done | rfl,rfl⟩
 · have hne:=text_ne0 s h0
   have hne2:s.toList.isEmpty=false:=by cases hq:s.toList with | nil=>exact absurd hq hne | cons a l=>rfl
   have hp0:0<s.size:=by omega
   obtain ⟨a,ha⟩:∃ a:Int,(s[0].toNat:Int)=a:=⟨_,rfl⟩
   have ha1:0≤a∧a≤255:=by have:=s[0].toNat_lt;omega
   have hk:=kd_first s hp0 a ha
   by_cases c1:a=39
   · rw [if_pos c1] at hk
     have HK:=Lib.hid hk
     have e1:(a == 39)=true:=beq_iff_eq.2 c1
     clear hk c1 h0
     go_enter Tryz.func37,Tryz.ntmps37
     go_wp2_with fail
     all_goals go_ret
     all_goals exact ⟨by rw [HK.out];first | done | rfl,rfl⟩
   rw [if_neg c1] at hk
   have e1:(a == 39)=false:=beq_eq_false_iff_ne.2 c1
   by_cases c2:a=61
   · rw [if_pos c2] at hk
     have HK:=Lib.hid hk
     have e2:(a == 61)=true:=beq_iff_eq.2 c2
     clear hk c1 c2 h0
     go_enter Tryz.func37,Tryz.ntmps37
     go_wp2_with fail
     all_goals go_ret
     all_goals exact ⟨by rw [HK.out];first | done | rfl,rfl⟩
   rw [if_neg c2] at hk
   have e2:(a == 61)=false:=beq_eq_false_iff_ne.2 c2
   by_cases c3:a=45
   · rw [if_pos (Or.inl c3)] at hk
     have HK:=Lib.hid hk
     have e3:(a == 45)=true:=beq_iff_eq.2 c3
     clear hk c1 c2 c3 h0
     go_enter Tryz.func37,Tryz.ntmps37
     go_wp2_with fail
     all_goals go_ret
     all_goals exact ⟨by rw [HK.out];first | done | rfl,rfl⟩
   have e3:(a == 45)=false:=beq_eq_false_iff_ne.2 c3
   cases c4:isNum a with
   | true =>
     rw [if_pos (Or.inr c4)] at hk
     have HK:=Lib.hid hk
     clear hk c1 c2 c3 h0
     go_enter Tryz.func37,Tryz.ntmps37
     go_wp2_with (go_at_call 55;((with_reducible refine (cdig_any _ ?_ ?_ _).mono ?_);(first | omega | skip);(first | omega | skip);rintro e w' ⟨rfl,rfl⟩))
     all_goals go_ret
     all_goals exact ⟨by rw [HK.out];first | done | rfl,rfl⟩
   | false =>
     rw [if_neg (by rw [c4];simp;exact c3)] at hk
     have HK:=Lib.hid hk
     clear hk c1 c2 c3 h0
     go_enter Tryz.func37,Tryz.ntmps37
     go_wp2_with (go_at_call 55;((with_reducible refine (cdig_any _ ?_ ?_ _).mono ?_);(first | omega | skip);(first | omega | skip);rintro e w' ⟨rfl,rfl⟩))
     all_goals go_ret
     all_goals exact ⟨by rw [HK.out];first | done | rfl,rfl⟩
theorem kindOf_is (s:ByteArray) (_hs:s.size≤1000000) (k:Int) (hk:kd s=k) (w:World):Calls Tryz.prog 37 #[.string s] w fun e w'=>e = .returned (.int .i64 k)∧w=w':=hk ▸ kindOf_any s _hs w
theorem below_drew {B:Nat} {w w':World} (h:Below B w w'):Below B w w'.drew:=⟨h.os,h.tape,h.output,h.size,h.block⟩
def WholeR (s:ByteArray) (n:Int):Prop:=∀ v,atoiO s=some v→n=v
theorem WholeR.no {s:ByteArray} (h:atoiO s=none) (n:Int):WholeR s n:=fun u hu=>by rw [h] at hu;cases hu
set_option maxRecDepth 100000 in
set_option maxHeartbeats 400000 in
theorem whole_any (s:ByteArray) (_hs:s.size≤1000000) (w:World) (hx:Cx w):Calls Tryz.prog 58 #[.string s] w fun e w'=>∃ n,e = .returned (.tuple #[.int .i64 n,.bool (atoiO s).isSome])∧WholeR s n∧Below w.heap.size w w':=by
 cases h:Lib.atoiAll s.data.toList with
 | ok v =>
   have HA:=Lib.hid (atoi_ok s _hs v h w)
   have HO:=Lib.hid (atoiO_ok h)
   clear h hx
   go_enter Tryz.func58,Tryz.ntmps58
   go_wp2_with (go_at_call 82;((with_reducible refine HA.out.mono ?_);rintro e w1 ⟨rfl,hb⟩;have HB:=Lib.hid hb;clear hb))
   go_region
   all_goals go_wp2_with fail
   all_goals go_ret2
   all_goals exact ⟨v,by rw [HO.out];rfl,fun u hu=>by rw [HO.out] at hu;exact Option.some.inj hu,below_drew HB.out⟩
 | range =>
   obtain ⟨ev,h1,h2⟩:=hx.sx.vars.err
   have HA:=Lib.hid (Tryz.strconv_Atoi_range s (by omega) h ev w h1 h2)
   have HO:=Lib.hid (show atoiO s=none by unfold atoiO;rw [h])
   clear h hx h1 h2
   go_enter Tryz.func58,Tryz.ntmps58
   go_wp2_with (go_at_call 82;((with_reducible refine HA.out.mono ?_);rintro e w1 ⟨N,rfl, -, -,hb⟩;have HB:=Lib.hid hb;clear hb))
   go_region
   all_goals go_wp2_with fail
   all_goals go_ret2
   all_goals exact ⟨_,by rw [HO.out];rfl,WholeR.no HO.out _,below_drew HB.out⟩
 | _ =>
   obtain ⟨ev,h1,h2⟩:=hx.syn
   have HA:=Lib.hid (Tryz.strconv_Atoi_syntax s (by omega) _ h trivial ev w h1 h2)
   have HO:=Lib.hid (show atoiO s=none by unfold atoiO;rw [h])
   clear h hx h1 h2
   go_enter Tryz.func58,Tryz.ntmps58
   go_wp2_with (go_at_call 82;((with_reducible refine HA.out.mono ?_);rintro e w1 ⟨N,rfl, -, -,hb⟩;have HB:=Lib.hid hb;clear hb))
   go_region
   all_goals go_wp2_with fail
   all_goals go_ret2
   all_goals exact ⟨_,by rw [HO.out];rfl,WholeR.no HO.out _,below_drew HB.out⟩
theorem whole_is (s:ByteArray) (_hs:s.size≤1000000) (v:Int) (h:atoiO s=some v) (w:World) (hx:Cx w):Calls Tryz.prog 58 #[.string s] w fun e w'=>e = .returned (.tuple #[.int .i64 v,.bool true])∧Below w.heap.size w w':=by
 refine (whole_any s _hs w hx).mono ?_
 rintro e w' ⟨n,rfl,h1,h2⟩
 exact ⟨by rw [h1 v h,h];rfl,h2⟩
theorem print_told6 (s:ByteArray) (ns:List Nd) (hp:PIs s (.ok ns)) (w1 wr:World) (hx:Sx wr) (v:Value) (l:List (Nd × Value)) (hm:l.map Prod.fst=ns) (hs:SN w1 w1.heap.size v l) (hr:Below w1.heap.size w1 wr) :
 Calls Tryz.prog 57 #[v] wr fun e w'=>e = .returned (.string (strOfNums (printL ns)))∧Below wr.heap.size wr w':=by
 obtain ⟨⟨hl300,hpos,htree⟩,hnum,hpl,hs300,hp2⟩:=PIs_told s ns hp
 have hsz:=PIs_sizes6 s ns hp
 have hl:l.length=ns.length:=by rw [← hm,List.length_map]
 have:=hx.print v l (hs.lift hr hr.size) ⟨by omega,fun p hp=>hsz p.1 (by rw [← hm];exact List.mem_map_of_mem hp)⟩ (fun p hp=>hnum p.1 (by rw [← hm];exact List.mem_map_of_mem hp)) (by rw [show l.map (·.1)=ns from hm];omega)
 rwa [show l.map (·.1)=ns from hm] at this
def mkF:ByteArray:=⟨#[61]⟩
def mkT:ByteArray:=⟨#[39]⟩
inductive NormR (s:ByteArray):ByteArray→Int→Prop
 | large (h:100<s.size):NormR s ⟨#[]⟩ 4
 | stays (h:s.size≤100) (hk:kd s=0∨kd s=1):NormR s s 0
 | form (h:s.size≤100) (hk:kd s=2) (r:ByteArray) (hr:s.extract 1 s.size=r) (ns:List Nd) (hp:PIs r (.ok ns)) (t:ByteArray) (ht:mkF++strOfNums (printL ns)=t):NormR s t 0
 | bad (h:s.size≤100) (hk:kd s=2) (r:ByteArray) (hr:s.extract 1 s.size=r) (c:Int) (hp:PIs r (.error c)):NormR s ⟨#[]⟩ c
 | num (h:s.size≤100) (hk:kd s=3) (n:Int) (ha:atoiO s=some n):NormR s (strOfNums (decL n)) 0
 | text (h:s.size+1≤100) (hk:kd s=4∨(kd s=3∧atoiO s=none)) (t:ByteArray) (ht:mkT++s=t):NormR s t 0
 | long (h:s.size≤100) (h2:¬ s.size+1≤100) (hk:kd s=4∨(kd s=3∧atoiO s=none)):NormR s ⟨#[]⟩ 4
theorem kd_pos (s:ByteArray) (h:kd s≠0):1≤s.size:=by
 rcases Nat.eq_zero_or_pos s.size with h0 | h0
 · exact absurd (kd_empty s h0) h
 · exact h0
theorem mk_rest (mk s t:ByteArray) (hm:mk.size=1) (ht:mk++s=t):t.extract 1 t.size=s:=by
 subst ht
 rw [ByteArray.extract_append,hm,ByteArray.size_append,hm]
 rw [show mk.extract 1 (1+s.size)=ByteArray.empty from ByteArray.extract_eq_empty_iff.2 (by omega)]
 rw [ByteArray.empty_append,show 1+s.size - 1=s.size by omega]
 exact ByteArray.extract_zero_size
theorem NormR.first {t:ByteArray} (h:NormR t t 0):t.size≤100∧kd t≤3:=by
 generalize hu:t=u at h
 generalize he:(0:Int)=e at h
 cases h with
 | large h=>omega
 | stays h hk=>exact ⟨by omega,by rcases hk with hk | hk <;> omega⟩
 | form h hk r hr ns hp t ht=>exact ⟨h,by omega⟩
 | bad h hk r hr c hp=>exact absurd he.symm (PIs_err r _ hp)
 | num h hk n ha=>exact ⟨h,by omega⟩
 | text h hk t ht =>
   exfalso
   have:(mkT++u).size=u.size:=by rw [ht]
   rw [ByteArray.size_append] at this
   have:mkT.size=1:=rfl
   omega
 | long h h2 hk=>omega
set_option maxRecDepth 100000 in
set_option maxHeartbeats 1000000 in
theorem formula_ok (t p:ByteArray) (hs:t.size≤300) (h1:1≤t.size) (hk:kd t=2) (hr:t.extract 1 t.size=p) (ns:List Nd) (hp:PIs p (.ok ns)) (hpp:strOfNums (printL ns)=p) (w:World) (hx:Cx w) :
 Calls Tryz.prog 38 #[.string t] w fun e w'=>(∃ v,e = .returned (.tuple #[v,.bool true]))∧Below w.heap.size w w':=by
 have HA:=Lib.hid (parse_sn p w hx.sx ns hp)
 have HPR:=Lib.hid (fun (w1:World) (h1:Below w.heap.size w w1) (v:Value) (l:List (Nd × Value)) (hm:l.map Prod.fst=ns) (hs:SN w1 w1.heap.size v l)=>(show Calls Tryz.prog 57 #[v] w1.drew fun e w'=>e = .returned (.string p)∧Below w1.drew.heap.size w1.drew w' from hpp ▸ print_told6 p ns hp w1 w1.drew (hx.sx.below (below_drew h1)) v l hm hs (below_drew (Below.refl _ _))))
 have HK:=Lib.hid (kindOf_is t (by omega) _ hk w)
 have hi1:(1:Int)≤(t.size:Int):=by omega
 have hi:¬ (300:Int)<(t.size:Int):=by omega
 obtain ⟨L,hL⟩:∃ L,ns.length=L:=⟨_,rfl⟩
 rw [hL] at HA
 clear hp hpp hL hx hs hk
 go_enter Tryz.func38,Tryz.ntmps38
 go_wp2_with (first
  | (go_at_call 37;((with_reducible refine HK.out.mono ?_);rintro e w1 ⟨rfl,rfl⟩))
  | (go_at_call 56;((with_reducible refine HA.out.mono ?_);rintro e w1 ⟨hb,g1,cap1,l1,rfl,hm1,hs1⟩;have HB1:=Lib.hid hb;have HP1:=Lib.hid (HPR.out w1 hb _ l1 hm1 hs1);clear hb hm1 hs1)))
 go_region_held3 (fun _=>True) (trivial) (first
  | (go_at_call 57;((with_reducible refine HP1.out.mono ?_);rintro e w2 ⟨rfl,h1⟩;have HB2:=Lib.hid ((below_drew HB1.out).trans (h1.mono HB1.out.size));clear h1)))
 all_goals go_wp2_with fail
 all_goals go_ret2
 all_goals exact ⟨⟨_,rfl⟩,HB2.out⟩
set_option maxRecDepth 100000 in
set_option maxHeartbeats 1000000 in
theorem decimal_ok (t:ByteArray) (hs:t.size≤300) (n:Int) (ha:atoiO t=some n) (ht:strOfNums (decL n)=t) (w:World) (hx:Cx w) :
 Calls Tryz.prog 39 #[.string t] w fun e w'=>e = .returned (.tuple #[.int .i64 n,.bool true])∧Below w.heap.size w w':=by
 have HW:=Lib.hid (whole_is t (by omega) n ha w hx)
 have hbd:=atoiO_bd ha
 have HI:=Lib.hid (fun (w1:World) (hb:Below w.heap.size w w1)=>(show Calls Tryz.prog 59 #[.int .i64 n] w1 fun e w'=>e = .returned (.string t)∧Below w1.heap.size w1 w' from ht ▸ itoaZ_any n hbd.1 hbd.2 w1 (hx.sx.tab.below hb)))
 clear hx ha hbd ht hs
 go_enter Tryz.func39,Tryz.ntmps39
 go_wp2_with (first
  | (go_at_call 58;((with_reducible refine HW.out.mono ?_);rintro e w2 ⟨rfl,hb⟩;have HB:=Lib.hid hb;clear hb))
  | (go_at_call 59;((with_reducible refine (HI.out _ HB.out).mono ?_);rintro e w3 ⟨rfl,hb⟩;have HB3:=Lib.hid (HB.out.trans (hb.mono HB.out.size));clear hb)))
 go_ret2
 exact ⟨by rfl,HB3.out⟩
theorem NormR.kinds {t:ByteArray} (h:NormR t t 0):(kd t=0∨kd t=1)∨(kd t=2∧∃ p ns,t.extract 1 t.size=p∧PIs p (.ok ns)∧strOfNums (printL ns)=p)∨(kd t=3∧∃ n,atoiO t=some n∧strOfNums (decL n)=t):=by
 generalize hu:t=u at h
 generalize he:(0:Int)=e at h
 cases h with
 | large h=>omega
 | stays h hk=>exact .inl hk
 | form h hk r hr ns hp t' ht =>
   have hp2:=(PIs_told r ns hp).2.2.2.2
   exact .inr (.inl ⟨hk,_,ns,mk_rest mkF _ _ rfl ht,hp2,rfl⟩)
 | bad h hk r hr c hp=>exact absurd he.symm (PIs_err r _ hp)
 | num h hk n ha=>exact .inr (.inr ⟨hk,n,ha,rfl⟩)
 | text h hk t' ht =>
   exfalso
   have:(mkT++u).size=u.size:=by rw [ht]
   rw [ByteArray.size_append] at this
   have:mkT.size=1:=rfl
   omega
 | long h h2 hk=>omega
set_option maxRecDepth 100000 in
set_option maxHeartbeats 1000000 in
theorem mayc_any (t:ByteArray) (h:NormR t t 0) (w:World) (hx:Cx w) :
 Calls Tryz.prog 20 #[.string t] w fun e w'=>e = .returned (.bool true)∧Below w.heap.size w w':=by
 have hsz:=h.first.1
 have hs:t.size≤1000000:=by omega
 have hi:¬ (300:Int)<(t.size:Int):=by omega
 rcases h.kinds with hk | ⟨hk,p,ns,hr,hp,hpp⟩ | ⟨hk,n,ha,ht⟩
 · rcases hk with hk | hk
   all_goals
    have HK:=Lib.hid (kindOf_is t hs _ hk w)
    clear h hk hx hs hsz
    go_enter Tryz.func20,Tryz.ntmps20
    go_wp2_with (go_at_call 37;((with_reducible refine HK.out.mono ?_);rintro e w1 ⟨rfl,rfl⟩))
    go_ret
    exact ⟨rfl,Below.refl _ _⟩
 · have HK:=Lib.hid (kindOf_is t hs _ hk w)
   have HF:=Lib.hid (formula_ok t p (by omega) (kd_pos t (by omega)) hk hr ns hp hpp w hx)
   clear h hk hx hs hsz hp hpp hr
   go_enter Tryz.func20,Tryz.ntmps20
   go_wp2_with (first
    | (go_at_call 37;((with_reducible refine HK.out.mono ?_);rintro e w1 ⟨rfl,rfl⟩))
    | (go_at_call 38;((with_reducible refine HF.out.mono ?_);rintro e w1 ⟨⟨v,rfl⟩,hb⟩;have HB:=Lib.hid hb;clear hb)))
   go_ret
   exact ⟨rfl,HB.out⟩
 · have HK:=Lib.hid (kindOf_is t hs _ hk w)
   have HF:=Lib.hid (decimal_ok t (by omega) n ha ht w hx)
   clear h hk hx hs hsz ha ht
   go_enter Tryz.func20,Tryz.ntmps20
   go_wp2_with (first
    | (go_at_call 37;((with_reducible refine HK.out.mono ?_);rintro e w1 ⟨rfl,rfl⟩))
    | (go_at_call 39;((with_reducible refine HF.out.mono ?_);rintro e w1 ⟨rfl,hb⟩;have HB:=Lib.hid hb;clear hb)))
   go_ret
   exact ⟨rfl,HB.out⟩
theorem numZ_size (z:Nat) (n:Int) (h0 : -9223372036854775808≤n) (h1:n≤9223372036854775807) (hz:z<20):(strOfNums (numZ z n)).size≤40:=by
 rw [strOfNums_size]
 have:=digL_len 18 n.natAbs (by omega)
 unfold numZ
 split
 · rw [List.length_cons,List.length_append,List.length_replicate];omega
 · rw [List.length_append,List.length_replicate];omega
theorem norm_num (z:Nat) (n:Int) (h0 : -9223372036854775808≤n) (h1:n≤9223372036854775807) (hz:z<20):NormR (strOfNums (numZ z n)) (strOfNums (decL n)) 0:=by
 have:=numZ_size z n h0 h1 hz
 exact .num (by omega) (kd_numZ z n) n (atoi_numZ z n h0 h1)
def keptB:List Int→Bool
 | []=>true
 | c :: r =>
   if c=39 then true
   else if c=61 then match lexL r with
    | none=>false
    | some ts=>match parseP 200 ts with
      | some (.ok ns)=>decide (printL ns=r)
      | _=>false
   else decide (r=[]∧48≤c∧c≤57)
theorem keptB_cons (c:Int) (r:List Int):keptB (c :: r)=if c=39 then true else if c=61 then (match lexL r with
 | none=>false
 | some ts=>match parseP 200 ts with
   | some (.ok ns)=>decide (printL ns=r)
   | _=>false) else decide (r=[]∧48≤c∧c≤57):=rfl
theorem tx_kept:∀ n:Nat,n<256→keptB (txB n)=true:=by decide +kernel
theorem tx_bytes:∀ n:Nat,n<256→((txB n).all (fun x=>decide (0≤x∧x≤255))&&decide ((txB n).length≤30))=true:=by decide +kernel
theorem tx_ok (n:Nat) (h:n<256):Bytes (txB n)∧(txB n).length≤30:=by
 have h1:=tx_bytes n h
 rw [Bool.and_eq_true,List.all_eq_true,decide_eq_true_iff] at h1
 exact ⟨fun x hx=>of_decide_eq_true (h1.1 x hx),h1.2⟩
theorem kept_norm (l:List Int) (hb:Bytes l) (hl:l.length≤90) (h:keptB l=true):NormR (strOfNums l) (strOfNums l) 0:=by
 have hz:(strOfNums l).size≤100:=by rw [strOfNums_size];omega
 have hk:kd (strOfNums l)=kdL l:=by unfold kd;rw [sb_str l hb]
 cases l with
 | nil=>exact .stays hz (.inl (hk.trans rfl))
 | cons c r =>
   rw [keptB_cons] at h
   rw [kdL_cons] at hk
   by_cases h39:c=39
   · rw [if_pos h39] at hk
     exact .stays hz (.inr hk)
   rw [if_neg h39] at h hk
   have hr:Bytes r:=fun x hx=>hb x (List.mem_cons_of_mem _ hx)
   by_cases h61:c=61
   · subst h61
     rw [if_pos rfl] at h hk
     have hcat:∀ q:List Int,mkF++strOfNums q=strOfNums (61 :: q):=fun q=>str_append [61] q
     split at h
     · cases h
     · rename_i ts hlx
       split at h
       · rename_i ns hp
         have hpr:printL ns=r:=of_decide_eq_true h
         refine .form hz hk (strOfNums r) (mk_rest mkF (strOfNums r) _ rfl (hcat r)) ns ?_ _ (by rw [hpr,hcat])
         exact .inr (.inr ⟨by rw [strOfNums_size] at hz ⊢;rw [List.length_cons] at hz;omega,ts,200,by rw [sb_str r hr];exact hlx,hp⟩)
       · cases h
   · rw [if_neg h61] at h
     obtain ⟨rfl,h0,h9⟩:=of_decide_eq_true h
     have:=norm_num 0 (c - 48) (by omega) (by omega) (by omega)
     have e:decL (c - 48)=[c]:=by
      unfold decL
      rw [if_neg (by omega),digL_small _ (by omega)]
      congr 1;omega
     rw [numZ_dec,e] at this
     exact this
theorem tx_norm (n:Nat) (h:n<256):NormR (strOfNums (txB n)) (strOfNums (txB n)) 0 :=
 kept_norm _ (tx_ok n h).1 (by have:=(tx_ok n h).2;omega) (tx_kept n h)
def MayT (t:ByteArray):Prop:=NormR t t 0∧t.size≤100
theorem mayT_nil:MayT ⟨#[]⟩:=⟨.stays (by decide) (.inl (by decide)),by decide⟩
theorem mayT_tx (n:Nat) (h:n<256):MayT (strOfNums (txB n)):=⟨tx_norm n h,by rw [strOfNums_size];have:=(tx_ok n h).2;omega⟩
theorem cellS_may (ns:List Int) (hb:Bytes ns) (k:Nat):MayT (cellS ns k):=by
 unfold cellS
 cases h:ns[k]? with
 | none=>exact mayT_nil
 | some x =>
   have:=hb x (List.mem_of_getElem? h)
   exact mayT_tx _ (by omega)
theorem res_book:Tryz.f7.results=#[.cell 4 26]:=by kernel_rfl
structure BkI (w0 w:World) (xs:List Int) (m L i p:Nat) (bv:Value) (shs:List Sv):Prop where
 bk:BkV w (w0.heap.size+2) bv shs
 out:BkAt w w0.heap.size (.slice none 0 0)
 cur:BkAt w (w0.heap.size+1) bv
 aft:Below w0.heap.size w0 w
 pg:pgs shs=(bookS xs m).take i
 pos:p=min (i*(nR m*nC m)) L
theorem BkI.nil (w:World) (xs:List Int) (m L:Nat):∃ w2,(w.alloc (.cells #[.slice none 0 0] 26)).alloc (.cells #[.slice none 0 0] 26)=w2∧BkI w w2 xs m L 0 0 (.slice none 0 0) []∧w2.heap.size=w.heap.size+2:=by
 obtain ⟨w2,h1,h2,h3,h4,h5⟩:=two_books w (.slice none 0 0) (.slice none 0 0)
 exact ⟨w2,h1,⟨BkV.nil _ _,h3,h4,h2,rfl,by simp⟩,h5⟩
theorem BkI.next {w0 w w':World} {xs:List Int} {m L i p:Nat} {bv:Value} {shs:List Sv} (h:BkI w0 w xs m L i p bv shs) (hb:Below w.heap.size w w'):BkI w0 w' xs m L i p bv shs :=
 ⟨h.bk.next hb,h.out.over hb,h.cur.over hb,h.aft.trans (hb.mono h.aft.size),h.pg,h.pos⟩
theorem own_ne {α : Type} {k:Nat} {E:Enc α k} {e:TypeId} {w:World} {lo g:Nat} {v:Value} {xs:List α} (h:Own E e w lo v xs) (hg:g<lo):Option.some g≠v.ownBlock:=by
 intro hv
 have:=(h.lies hv.symm).1
 omega
theorem BkI.push {w0 wa wb:World} {xs:List Int} {m L i p p':Nat} {bv v':Value} {shs:List Sv} {s:Sv} (h:BkI w0 wa xs m L i p bv shs) (hs:RwV wa (w0.heap.size+2) s.rv s.rows) (ho:Own encSv 47 wb (w0.heap.size+2) v' (shs++[s])) (hg:wa.grownBy wb bv.ownBlock)
 (hp:s.p=shS xs m i (nR m) (nC m)) (hi:i<nS m) (hp':p'=min ((i+1)*(nR m*nC m)) L):BkI w0 (wb.setCell ⟨w0.heap.size+1,0,none⟩ v') xs m L (i+1) p' v' (shs++[s]):=by
 have h1:=h.bk.push hs ho hg
 have hc:=h.cur.lt
 have ho2:=h.out.lt
 have hcur:BkAt wb (w0.heap.size+1) bv:=by unfold BkAt;rw [hg.block _ hc (own_ne h.bk.1 (by omega))];exact h.cur
 have hout:BkAt wb w0.heap.size (.slice none 0 0):=by unfold BkAt;rw [hg.block _ ho2 (own_ne h.bk.1 (by omega))];exact h.out
 refine ⟨h1.keep fun g h2 _=>heap_setCell_other wb _ g _ (by show g≠w0.heap.size+1;omega),hout.other _ _ (by show w0.heap.size≠w0.heap.size+1;omega),hcur.put v', ?_, ?_,hp'⟩
 · exact (h.aft.grown hg h.aft.size fun g e=>by have:=(h.bk.1.lies e).1;omega).setCell (by show w0.heap.size≤w0.heap.size+1;omega) _
 · have h2:=h.pg
   unfold pgs at h2 ⊢
   rw [List.map_append,h2,List.take_add_one]
   congr 1
   have:(bookS xs m)[i]? = some (shS xs m i (nR m) (nC m)):=by
    unfold bookS
    rw [List.getElem?_map,List.getElem?_range hi];rfl
   rw [this, ← hp];rfl
structure RwI (w1 w:World) (y:Nat) (nm:ByteArray) (xs:List Int) (R C k0 r:Nat) (rvv:Value) (rows:List Rv):Prop where
 sh:ShAt w y nm (C:Int) rvv
 rw:RwV w (y+1) rvv rows
 aft:Below y w1 w
 pg:lns rows=(rowsS xs R C k0).take r
theorem RwI.next {w1 w w':World} {y:Nat} {nm:ByteArray} {xs:List Int} {R C k0 r:Nat} {rvv:Value} {rows:List Rv} (h:RwI w1 w y nm xs R C k0 r rvv rows) (hb:Below w.heap.size w w'):RwI w1 w' y nm xs R C k0 r rvv rows :=
 ⟨h.sh.over hb,h.rw.next hb,h.aft.trans (hb.mono (Nat.le_of_lt h.sh.lt)),h.pg⟩
theorem RwI.push {w1 wa wb:World} {y:Nat} {nm:ByteArray} {xs:List Int} {R C k0 r:Nat} {rvv v':Value} {rows:List Rv} {rv:Rv} (h:RwI w1 wa y nm xs R C k0 r rvv rows) (hrow:Own encTx 9 wa (y+1) rv.v rv.l) (ho:Own encRv 48 wb (y+1) v' (rows++[rv])) (hg:wa.grownBy wb rvv.ownBlock)
 (hl:rv.l=rowS xs C (k0+r*C)) (hr:r<R):RwI w1 (wb.setCell ⟨y,2,none⟩ v') y nm xs R C k0 (r+1) v' (rows++[rv]):=by
 have h1:=h.rw.push hrow ho hg
 have hsh:ShAt wb y nm (C:Int) rvv:=by unfold ShAt;rw [hg.block _ h.sh.lt (own_ne h.rw.1 (by omega))];exact h.sh
 refine ⟨hsh.put2 v',h1.keep fun g h2 _=>heap_setCell_other wb _ g _ (by show g≠y;omega), ?_, ?_⟩
 · exact (h.aft.grown hg (Nat.le_of_lt h.sh.lt) fun g e=>by have:=(h.rw.1.lies e).1;omega).setCell (Nat.le_refl y) _
 · have h2:=h.pg
   unfold lns at h2 ⊢
   rw [List.map_append,h2,List.take_add_one]
   congr 1
   have:(rowsS xs R C k0)[r]? = some (rowS xs C (k0+r*C)):=by
    unfold rowsS
    rw [List.getElem?_map,List.getElem?_range hr];rfl
   rw [this, ← hl];rfl
set_option maxRecDepth 100000 in
set_option maxHeartbeats 16000000 in
theorem book_any (w:World) (A:Option Addr) (L cap:Nat) (xs:List Int) (hs:S8 w w.heap.size A L cap xs) (hn:L≤80) (m:Nat) (hm:m<256) :
 Calls Tryz.prog 7 #[.slice A L cap,.int .u8 (m:Int)] w fun e w'=>Below w.heap.size w w'∧∃ A' c' shs,e = .returned (.agg #[.slice A' (nS m) c'])∧pgs shs=bookS xs m∧BkR w' w'.heap.size (.slice A' (nS m) c') shs:=by
 have HS:=Lib.hid hs
 clear hs
 obtain ⟨s0,hs0⟩:∃ r,m % 3=r:=⟨_,rfl⟩
 have qs:(m:Int) % 3=(s0:Int):=by omega
 have ts:(m:Int).tmod 3=(s0:Int):=by rw [Int.tmod_eq_emod_of_nonneg (by omega)];exact qs
 have ws:IntKind.i64.wrap (s0:Int)=(s0:Int):=by rw [IntKind.wrap_i64];omega
 have bs:s0≤2:=by omega
 obtain ⟨d4,hd4⟩:∃ r,m / 64=r:=⟨_,rfl⟩
 have q4:(m:Int) / 64=(d4:Int):=by omega
 have t4:(m:Int).tdiv 64=(d4:Int):=by rw [Int.tdiv_eq_ediv_of_nonneg (by omega)];exact q4
 have w4:IntKind.i64.wrap (d4:Int)=(d4:Int):=by rw [IntKind.wrap_i64];omega
 have b4:d4≤3:=by omega
 obtain ⟨d3,hd3⟩:∃ r,m / 3=r:=⟨_,rfl⟩
 have q3:(m:Int) / 3=(d3:Int):=by omega
 have t3:(m:Int).tdiv 3=(d3:Int):=by rw [Int.tdiv_eq_ediv_of_nonneg (by omega)];exact q3
 have w3:IntKind.i64.wrap (d3:Int)=(d3:Int):=by rw [IntKind.wrap_i64];omega
 obtain ⟨c0,hc0⟩:∃ r,d3 % 4=r:=⟨_,rfl⟩
 have qc:(d3:Int) % 4=(c0:Int):=by omega
 have tc:(d3:Int).tmod 4=(c0:Int):=by rw [Int.tmod_eq_emod_of_nonneg (by omega)];exact qc
 have wc:IntKind.i64.wrap (c0:Int)=(c0:Int):=by rw [IntKind.wrap_i64];omega
 have bc:c0≤3:=by omega
 obtain ⟨d12,hd12⟩:∃ r,m / 12=r:=⟨_,rfl⟩
 have q12:(m:Int) / 12=(d12:Int):=by omega
 have t12:(m:Int).tdiv 12=(d12:Int):=by rw [Int.tdiv_eq_ediv_of_nonneg (by omega)];exact q12
 have w12:IntKind.i64.wrap (d12:Int)=(d12:Int):=by rw [IntKind.wrap_i64];omega
 obtain ⟨r0,hr0⟩:∃ r,d12 % 5=r:=⟨_,rfl⟩
 have qr:(d12:Int) % 5=(r0:Int):=by omega
 have tr:(d12:Int).tmod 5=(r0:Int):=by rw [Int.tmod_eq_emod_of_nonneg (by omega)];exact qr
 have wr0:IntKind.i64.wrap (r0:Int)=(r0:Int):=by rw [IntKind.wrap_i64];omega
 have br:r0≤4:=by omega
 have hS:nS m=1+s0:=by unfold nS;rw [hs0]
 have hC:nC m=1+c0:=by unfold nC;rw [hd3,hc0]
 have hR:nR m=1+r0:=by unfold nR;rw [hd12,hr0]
 obtain ⟨S,hSl⟩:∃ S,1+s0=S:=⟨_,rfl⟩
 obtain ⟨C,hCl⟩:∃ C,1+c0=C:=⟨_,rfl⟩
 obtain ⟨R,hRl⟩:∃ R,1+r0=R:=⟨_,rfl⟩
 rw [hSl] at hS;rw [hCl] at hC;rw [hRl] at hR
 have eS:(1:Int)+(s0:Int)=(S:Int):=by omega
 have eC:(1:Int)+(c0:Int)=(C:Int):=by omega
 have eR:(1:Int)+(r0:Int)=(R:Int):=by omega
 have hS3:S≤3:=by omega
 have hC4:C≤4∧1≤C:=by omega
 have hR5:R≤5∧1≤R:=by omega
 clear hSl hCl hRl
 have HSS:=Lib.hid hS;have HCC:=Lib.hid hC;have HRR:=Lib.hid hR;have HD4:=Lib.hid hd4
 clear hs0 hd4 hd3 hc0 hd12 hr0 hS hC hR
 obtain ⟨w2,hw2,hI,hsz⟩:=BkI.nil w xs m L
 have HI:=Lib.hid hI;have HSZ:=Lib.hid hsz
 clear hI hsz
 go_enter Tryz.func7,Tryz.ntmps7
 go_upto_region 4 with (fail)
 clear hw2
 go_loopw [6,7] (fun av iv wr=>∃ (i p:Nat) (bv:Value) (shs:List Sv),i≤S∧av = .int .i64 (p:Int)∧iv = .int .i64 (i:Int)∧p≤L∧Hid (BkI w wr xs m L i p bv shs))
  (fun _ iv _=>S - (intOf iv).toNat)
 case atStart=>exact ⟨0,0,_,_,Nat.zero_le _,rfl,rfl,Nat.zero_le _,HI⟩
 case round =>
  obtain ⟨i,p,bv,shs,hi,rfl,rfl,hpL,HB⟩:=hrel
  by_cases hlt:i<S
  · have hii : (i:Int)<(S:Int):=by omega
    obtain ⟨Ab,cb,rfl⟩:=own_sl HB.out.bk.1
    have hi2:i≤2:=by omega
    have hprb:d4*i≤3*2:=Nat.mul_le_mul b4 hi2
    obtain ⟨pr,hpr⟩:∃ pr,d4*i=pr:=⟨_,rfl⟩
    rw [hpr] at hprb
    have hmul:(d4:Int)*(i:Int)=(pr:Int):=by rw [← hpr];exact (Int.natCast_mul d4 i).symm
    have hcv:=fun w=>run_one8 w 5 (65+(i:Int)+(pr:Int))
    have hnm:strOfNums [65+(i:Int)+(pr:Int)]=nmB m i:=by
     unfold nmB ltB
     rw [HD4.out,hpr]
     congr 2;omega
    obtain ⟨nm,hnmE⟩:∃ nm,strOfNums [65+(i:Int)+(pr:Int)]=nm:=⟨_,rfl⟩
    have HNM:=Lib.hid (hnmE.symm.trans hnm)
    clear hnm
    go_upto_region 7 with (fail)
    have HBL1:=Lib.hid ((Below.refl wr.heap.size wr).alloc (Nat.le_refl _) (.cells #[.int .u8 (65+(i:Int)+(pr:Int))] 5))
    have hz1:=World.size_alloc wr (.cells #[.int .u8 (65+(i:Int)+(pr:Int))] 5)
    obtain ⟨wa,hwa⟩:∃ wa,wr.alloc (.cells #[.int .u8 (65+(i:Int)+(pr:Int))] 5)=wa:=⟨_,rfl⟩
    rw [hwa] at HBL1 hz1 ⊢
    clear hwa hcv hmul
    have HSH:=Lib.hid (ShAt.new wa nm (C:Int) (.slice none 0 0))
    have HBL2:=Lib.hid (below_sh wa nm (C:Int) (.slice none 0 0))
    obtain ⟨y,hy⟩:∃ y,wr.heap.size+1=y:=⟨_,rfl⟩
    rw [hy] at hz1
    rw [hz1] at HSH HBL2
    rw [hy]
    obtain ⟨w1,hw1⟩:∃ w1,wa.alloc (.cells #[.string nm,.int .i64 (C:Int),.slice none 0 0] 47)=w1:=⟨_,rfl⟩
    rw [hw1] at HSH HBL2 ⊢
    clear hw1
    have HY:=Lib.hid hy
    have HZ1:=Lib.hid hz1
    have HBLW:=Lib.hid (HBL1.out.trans (HBL2.out.mono (by omega)))
    obtain ⟨k0,hk0⟩:∃ k0,i*(R*C)=k0:=⟨_,rfl⟩
    have HP0:=Lib.hid (show p=min k0 L from by rw [← hk0,HB.out.pos,HRR.out,HCC.out])
    have HK0:=Lib.hid hk0
    clear hk0 hz1 hy
    go_upto_region 8 with (fail)
    go_loopw [6,9] (fun av rv wx=>∃ (r p:Nat) (A1:Option Addr) (n1 c1:Nat) (rows:List Rv),r≤R∧av = .int .i64 (p:Int)∧rv = .int .i64 (r:Int)∧p≤L∧Hid (p=min (k0+r*C) L)∧Hid (rows.length=n1)∧Hid (RwI w1 wx y nm xs R C k0 r (.slice A1 n1 c1) rows))
     (fun _ rv _=>R - (intOf rv).toNat)
    case atStart=>exact ⟨0,p,none,0,0,[],Nat.zero_le _,rfl,rfl,hpL,Lib.hid (by rw [Nat.zero_mul,Nat.add_zero];exact HP0.out),Lib.hid rfl,Lib.hid ⟨HSH.out,RwV.nil _ _,Below.refl _ _,rfl⟩⟩
    case round =>
     obtain ⟨r,p,A1,n1,c1,rows,hrR,rfl,rfl,hpL,HPOS,HN1,HRI⟩:=hrel
     by_cases hrt:r<R
     · have hri:(r:Int)<(R:Int):=by omega
       obtain ⟨x0,x1,x2⟩:=HRI.out.sh.cells
       have hmk:=fun w=>run_mkt C (by omega) w
       have HROW:=Lib.hid (made_tx wr C)
       have HBM:=Lib.hid ((Below.refl wr.heap.size wr).alloc (Nat.le_refl _) (.cells (madeCells #[.string ⟨#[]⟩] C) 9))
       go_upto_region 12 with (fail)
       obtain ⟨wx,rfl⟩:∃ wx,wx=wr:=⟨_,rfl⟩
       clear x0 x1 x2 hmk
       obtain ⟨wm,hwm⟩:∃ wm,wx.alloc (.cells (madeCells #[.string ⟨#[]⟩] C) 9)=wm:=⟨_,rfl⟩
       rw [hwm] at HROW HBM ⊢
       clear hwm
       have hyx:y<wx.heap.size:=HRI.out.sh.lt
       have HWX:=Lib.hid (show Below w.heap.size w wx from (HB.out.aft.trans (HBLW.out.mono HB.out.aft.size)).trans (HRI.out.aft.mono (by have h1:=HB.out.aft.size;have h2:=HY.out;omega)))
       have hwx:w.heap.size≤wx.heap.size:=HWX.out.size
       obtain ⟨M,hM⟩:∃ M,wx.heap.size=M:=⟨_,rfl⟩
       have HM:=Lib.hid hM
       rw [hM] at HROW HBM hyx hwx ⊢
       obtain ⟨k,hk⟩:∃ k,k0+r*C=k:=⟨_,rfl⟩
       have HK:=Lib.hid hk
       rw [hk] at HPOS
       have hn1:n1≤5:=by
        have h1:=congrArg List.length HRI.out.pg
        unfold lns at h1
        rw [List.length_map,List.length_take,length_rowsS,HN1.out] at h1
        omega
       clear hk hM
       go_loopw [6,11] (fun av cv wq=>∃ (c p':Nat),c≤C∧cv = .int .i64 (c:Int)∧av = .int .i64 (p':Int)∧p'≤L∧Hid (p'=min k L+c∧(c=0∨k+c≤L))∧Hid (RwX encTx 9 wq M (rowUpto xs C k c))∧Hid (Below M wx wq))
        (fun _ cv _=>C - (intOf cv).toNat)
       case atStart=>exact ⟨0,p,Nat.zero_le _,rfl,rfl,hpL,Lib.hid ⟨by rw [HPOS.out];rfl,.inl rfl⟩,Lib.hid (by rw [rowUpto_zero];exact HROW.out),HBM⟩
       case round =>
        obtain ⟨c,p',hcC,rfl,rfl,hpL',HPP,HRX,HBX⟩:=hrel
        have hy1:=(HRI.out.sh.below HBX.out hyx).cells.2.1
        by_cases hct:c<C
        · have hci:(c:Int)<(C:Int):=by omega
          have hc0:(0:Int)≤(c:Int):=by omega
          by_cases hpt:p'<L
          · have hpi:(p':Int)<(L:Int):=by omega
            have hp0:(0:Int)≤(p':Int):=by omega
            obtain ⟨pb,po,rfl,hpb,hcell⟩:=HS.out.at_.resolve_left (by omega)
            have hbx:=HS.out.bytes.get p'
            obtain ⟨xn,hxn⟩:∃ xn:Nat,xs.getD p' 0=(xn:Int):=⟨(xs.getD p' 0).toNat,by omega⟩
            have hc1:=hcell p' hpt
            rw [hxn] at hc1 hbx
            have hxc:wr.cell? ⟨pb,po+p',none⟩=some (.int .u8 (xn:Int)):=((HWX.out.trans (HBX.out.mono hwx)).cell (p:=⟨pb,po+p',none⟩) hpb).trans hc1
            have HT:=Lib.hid (text_any xn (by omega) wr)
            have hkc:k+c=p':=by have h1:=HPP.out;omega
            have HXA:=Lib.hid (show xs[k+c]? = some (xn:Int) from by
             rw [hkc,List.getElem?_eq_getElem (by rw [HS.out.hlen];exact hpt)]
             rw [List.getD_eq_getElem?_getD,List.getElem?_eq_getElem (by rw [HS.out.hlen];exact hpt)] at hxn
             exact congrArg some hxn)
            have hMr:M<wr.heap.size:=HRX.out.lt
            have HE:=Lib.hid (show (encTx.all (rowUpto xs C k c))[c]? = some (.string ⟨#[]⟩) from by
             rw [all_encTx,List.getElem?_map]
             unfold rowUpto
             rw [List.getElem?_map,List.getElem?_range hct]
             simp)
            clear hcell hxn hc1
            go_wp2_with (go_at_call 9;((with_reducible refine HT.out.mono ?_);rintro e w2 ⟨rfl,h1⟩;have H2:=Lib.hid h1;have HR2:=Lib.hid (HRX.out.keep (h1.block M hMr));have f2:=HR2.out.rwA.melt c;have g2:=HR2.out.rwA.cell c _ HE.out;clear h1))
            clear f2 g2 hxc hy1
            go_roundw
            case rel=>exact ⟨c+1,p'+1,by omega,by go_num,by go_num,by omega,Lib.hid ⟨by have h1:=HPP.out;omega,.inr (by omega)⟩,Lib.hid (by have h1:=HR2.out.set1 c (strOfNums (txB xn)) _ rfl;have h2:=rowUpto_next xs C k c (xn:Int) HXA.out;rw [show ((xn:Int)).toNat=xn from Int.toNat_natCast xn] at h2;rw [← h2];exact h1),Lib.hid ((HBX.out.trans (H2.out.mono (Nat.le_of_lt hMr))).setCell (Nat.le_refl M) _)⟩
            case measure=>simp [intOf];omega
          · have hpi:¬ (p':Int)<(L:Int):=by omega
            have hrl:rowUpto xs C k c=rowS xs C k:=rowUpto_end xs C k c (by rw [HS.out.hlen];have h1:=HPP.out;omega)
            have HRX2:=Lib.hid (show RwX encTx 9 wr M (rowS xs C k) from by rw [← hrl];exact HRX.out)
            have HOWN:=Lib.hid (show Own encTx 9 wr (y+1) (Rv.v ⟨some ⟨M,0,none⟩,C,rowS xs C k⟩) (rowS xs C k) from by
             have h1:=HRX2.out.own (lo:=y+1) (by omega) (by rw [length_rowS];unfold maxLen;omega)
             unfold Rv.v
             rw [length_rowS] at h1 ⊢;exact h1)
            have HRI3:=Lib.hid (HRI.out.next (by rw [HM.out];exact HBX.out))
            have HBA:=Lib.hid ((Below.refl wr.heap.size wr).alloc (Nat.le_refl _) (.cells #[.slice (some ⟨M,0,none⟩) C C] 48))
            have HRIA:=Lib.hid (HRI3.out.next HBA.out)
            have HOWA:=Lib.hid (HOWN.out.below HBA.out (Nat.le_refl _))
            have HPP2:=Lib.hid (show p'=min (k0+(r+1)*C) L from by have h1:=HPP.out;have h2:=HK.out;have h3:(r+1)*C=r*C+C:=Nat.succ_mul r C;rw [h3];omega)
            obtain ⟨x0,x1,x2⟩:=HRI3.out.sh.cells
            have hyw:y<wr.heap.size:=HRI3.out.sh.lt
            clear hy1 hrl
            go_wp2_with (at_builtin;refine wpList_app_at Elem.rw encRv rfl (.tmp 73) (.tmp 75) rfl (y+1) _ rows rfl (HRIA.out.rw.1) ⟨_,0,none⟩ 1 1 [⟨some ⟨M,0,none⟩,C,rowS xs C k⟩] rfl rfl ?_ ?_ ?_ ?_ ?_;exact cells_new _ _ _ (by show [_]=[Value.slice _ (rowS xs C k).length C];rw [length_rowS]);(rw [HN1.out];omega);(rw [HN1.out];unfold maxLen;omega);(have:=HBA.out.size;omega);intro v5 w5 h1 h2 _;obtain ⟨A5,c5,hv5⟩:=own_sl h1;simp only [List.length_append,List.length_singleton,HN1.out] at hv5;subst hv5;have HO5:=Lib.hid h1;have HG5:=Lib.hid h2;have hsh5:ShAt w5 y nm (C:Int) (.slice A1 n1 c1):=(by unfold ShAt;rw [h2.block _ HRIA.out.sh.lt (own_ne HRIA.out.rw.1 (by omega))];exact HRIA.out.sh);obtain ⟨m0,m1,m2⟩:=hsh5.melts;obtain ⟨z0,z1,z2⟩:=hsh5.cells;clear h1 h2 hsh5)
            clear m0 m1 m2 z0 z1 z2 x0 x1 x2
            go_roundw
            case rel=>exact ⟨r+1,p',A5,n1+1,c5,rows++[⟨some ⟨M,0,none⟩,C,rowS xs C k⟩],by omega,rfl,by go_num,hpL',HPP2,Lib.hid (by rw [List.length_append,HN1.out];rfl),Lib.hid (HRIA.out.push HOWA.out HO5.out HG5.out (by rw [HK.out]) hrt)⟩
            case measure=>simp [intOf];omega
        · have hci:¬ (c:Int)<(C:Int):=by omega
          have hrl:rowUpto xs C k c=rowS xs C k:=rowUpto_end xs C k c (by rw [HS.out.hlen];have h1:=HPP.out;omega)
          have HRX2:=Lib.hid (show RwX encTx 9 wr M (rowS xs C k) from by rw [← hrl];exact HRX.out)
          have HOWN:=Lib.hid (show Own encTx 9 wr (y+1) (Rv.v ⟨some ⟨M,0,none⟩,C,rowS xs C k⟩) (rowS xs C k) from by
           have h1:=HRX2.out.own (lo:=y+1) (by omega) (by rw [length_rowS];unfold maxLen;omega)
           unfold Rv.v
           rw [length_rowS] at h1 ⊢;exact h1)
          have HRI3:=Lib.hid (HRI.out.next (by rw [HM.out];exact HBX.out))
          have HBA:=Lib.hid ((Below.refl wr.heap.size wr).alloc (Nat.le_refl _) (.cells #[.slice (some ⟨M,0,none⟩) C C] 48))
          have HRIA:=Lib.hid (HRI3.out.next HBA.out)
          have HOWA:=Lib.hid (HOWN.out.below HBA.out (Nat.le_refl _))
          have HPP2:=Lib.hid (show p'=min (k0+(r+1)*C) L from by have h1:=HPP.out;have h2:=HK.out;have h3:(r+1)*C=r*C+C:=Nat.succ_mul r C;rw [h3];omega)
          obtain ⟨x0,x1,x2⟩:=HRI3.out.sh.cells
          have hyw:y<wr.heap.size:=HRI3.out.sh.lt
          clear hy1 hrl
          go_wp2_with (at_builtin;refine wpList_app_at Elem.rw encRv rfl (.tmp 73) (.tmp 75) rfl (y+1) _ rows rfl (HRIA.out.rw.1) ⟨_,0,none⟩ 1 1 [⟨some ⟨M,0,none⟩,C,rowS xs C k⟩] rfl rfl ?_ ?_ ?_ ?_ ?_;exact cells_new _ _ _ (by show [_]=[Value.slice _ (rowS xs C k).length C];rw [length_rowS]);(rw [HN1.out];omega);(rw [HN1.out];unfold maxLen;omega);(have:=HBA.out.size;omega);intro v5 w5 h1 h2 _;obtain ⟨A5,c5,hv5⟩:=own_sl h1;simp only [List.length_append,List.length_singleton,HN1.out] at hv5;subst hv5;have HO5:=Lib.hid h1;have HG5:=Lib.hid h2;have hsh5:ShAt w5 y nm (C:Int) (.slice A1 n1 c1):=(by unfold ShAt;rw [h2.block _ HRIA.out.sh.lt (own_ne HRIA.out.rw.1 (by omega))];exact HRIA.out.sh);obtain ⟨m0,m1,m2⟩:=hsh5.melts;obtain ⟨z0,z1,z2⟩:=hsh5.cells;clear h1 h2 hsh5)
          clear m0 m1 m2 z0 z1 z2 x0 x1 x2
          go_roundw
          case rel=>exact ⟨r+1,p',A5,n1+1,c5,rows++[⟨some ⟨M,0,none⟩,C,rowS xs C k⟩],by omega,rfl,by go_num,hpL',HPP2,Lib.hid (by rw [List.length_append,HN1.out];rfl),Lib.hid (HRIA.out.push HOWA.out HO5.out HG5.out (by rw [HK.out]) hrt)⟩
          case measure=>simp [intOf];omega
     · have hri:¬ (r:Int)<(R:Int):=by omega
       have hrR2:r=R:=by omega
       subst hrR2
       have HBN:=Lib.hid (HB.out.next (HBLW.out.trans (HRI.out.aft.mono (by have:=HY.out;omega))))
       have HBA:=Lib.hid ((Below.refl wr.heap.size wr).alloc (Nat.le_refl _) (.cells #[.string nm,.int .i64 (C:Int),.slice A1 n1 c1] 47))
       have HBNA:=Lib.hid (HBN.out.next HBA.out)
       have HRIA:=Lib.hid (HRI.out.next HBA.out)
       have hpp:p=min ((i+1)*(nR m*nC m)) L:=by
        have h1:=HPOS.out
        have h2:=HK0.out
        have h3:(i+1)*(r*C)=i*(r*C)+r*C:=Nat.succ_mul i (r*C)
        rw [HRR.out,HCC.out,h3,h2];exact h1
       have HPP:=Lib.hid hpp
       have hlt17:i<nS m:=by rw [HSS.out];exact hlt
       have HSP:=Lib.hid (show Sv.p ⟨nm,(C:Int),A1,c1,rows⟩=shS xs m i (nR m) (nC m) from by
        have h1:=HRI.out.pg
        rw [List.take_of_length_le (by rw [length_rowsS];exact Nat.le_refl _)] at h1
        unfold lns at h1
        unfold Sv.p shS
        rw [HRR.out,HCC.out, ← HNM.out]
        simp only
        rw [h1,HK0.out])
       have hsl:shs.length≤3:=by
        have h1:=congrArg List.length HB.out.pg
        unfold pgs at h1
        rw [List.length_map,List.length_take,length_bookS,HSS.out] at h1
        omega
       obtain ⟨x0,x1,x2⟩:=HRI.out.sh.cells
       have b0:=HBN.out.cur.cell
       clear hpp
       go_wp2_with (at_builtin;refine wpList_app_at Elem.sh encSv rfl (.tmp 79) (.tmp 81) rfl (w.heap.size+2) _ shs rfl (HBNA.out.bk.1) ⟨_,0,none⟩ 1 1 [⟨nm,(C:Int),A1,c1,rows⟩] rfl rfl ?_ ?_ ?_ ?_ ?_;exact cells_new _ _ _ (by show [_,_,_]=[_,_,Value.slice A1 rows.length c1];rw [HN1.out]);omega;(unfold maxLen;omega);(have h1:=HBA.out.size;have h2:=HBN.out.cur.lt;omega);intro v5 w5 h1 h2 _;obtain ⟨A5,c5,hv5⟩:=own_sl h1;simp only [List.length_append,List.length_singleton] at hv5;subst hv5;have HO5:=Lib.hid h1;have HG5:=Lib.hid h2;have hb5:BkAt w5 (w.heap.size+1) (.slice Ab shs.length cb):=(by unfold BkAt;rw [h2.block _ HBNA.out.cur.lt (own_ne HBNA.out.bk.1 (by omega))];exact HBNA.out.cur);have m0:=hb5.melt;have z0:=hb5.cell;clear h1 h2 hb5)
       clear m0 z0 x0 x1 x2 b0
       go_roundw
       case rel=>exact ⟨i+1,p,_,shs++[⟨nm,(C:Int),A1,c1,rows⟩],by omega,rfl,by go_num,hpL,Lib.hid (HBNA.out.push (s:=⟨nm,(C:Int),A1,c1,rows⟩) (by have h1:=HRIA.out.rw.mono (show w.heap.size+2≤y+1 from by have h2:=HB.out.cur.lt;have h3:=HY.out;omega);show RwV _ _ (.slice A1 rows.length c1) rows;rw [HN1.out];exact h1) HO5.out HG5.out HSP.out hlt17 HPP.out)⟩
       case measure=>simp [intOf];omega
  · have hii:¬ (i:Int)<(S:Int):=by omega
    have hin:i=S:=by omega
    obtain ⟨A1,c1,hbv⟩:=own_sl HB.out.bk.1
    have hcur:=HB.out.cur
    rw [hbv] at hcur
    have HCUR:=Lib.hid hcur
    have HBV:=Lib.hid hbv
    have b0:=HCUR.out.cell
    have o0:=HB.out.out.cell
    have m0:=HB.out.out.melt
    clear hcur hbv
    go_wp2_with fail
    have hpg:=HB.out.pg
    rw [List.take_of_length_le (by rw [length_bookS,HSS.out];omega)] at hpg
    have hln:shs.length=nS m:=by have h:=congrArg List.length hpg;unfold pgs at h;rwa [List.length_map,length_bookS] at h
    have hbk:=(HB.out.bk.keep (w':=wr.setCell ⟨w.heap.size,0,none⟩ (.slice A1 shs.length c1)) fun g h1 _=>heap_setCell_other wr _ g _ (by show g≠w.heap.size;omega)).bkR
    rw [HBV.out] at hbk
    refine bodyPost_ret (out_bk (HB.out.out.put (.slice A1 shs.length c1)) _ _ 4 res_book rfl) rfl ⟨HB.out.aft.setCell (by show w.heap.size≤w.heap.size;omega) _,A1,c1,by rw [hln],shs,hpg,by rw [← hln];exact hbk⟩
theorem res_copy:Tryz.f19.results=#[.cell 2 26]:=by kernel_rfl
set_option maxRecDepth 100000 in
set_option maxHeartbeats 4000000 in
theorem copy_any (w:World) (A:Option Addr) (n cap:Nat) (shs:List Sv) (h:BkR w w.heap.size (.slice A n cap) shs) (hz:SzB shs) :
 Calls Tryz.prog 19 #[.agg #[.slice A n cap]] w fun e w'=>Below w.heap.size w w'∧∃ A' sv,e = .returned (.agg #[.slice A' n n])∧pgs sv=pgs shs∧BkO w' A' n n sv w.heap.size w'.heap.size:=by
 obtain ⟨w2,hw2,hb,hs1,hs2,hsz⟩:=two_books w (.slice A n cap) (.slice none 0 0)
 have HE:=Lib.hid (eachS_any w2 A n cap shs (h.lift hb) hz)
 have HB:=Lib.hid hb;have HS1:=Lib.hid hs1;have HS2:=Lib.hid hs2;have HSZ:=Lib.hid hsz
 clear h hz hb hs1 hs2 hsz
 go_enter Tryz.func19,Tryz.ntmps19
 go_upto_region 1 with (fail)
 clear hw2
 have x0:=HS1.out.cell
 go_wp2_with (go_at_call 35;((with_reducible refine HE.out.mono ?_);rintro e w3 ⟨h1,A2,sv,rfl,hm,h2⟩;have H3:=Lib.hid h1;have HM:=Lib.hid hm;have HN:=Lib.hid h2;have y0:=(HS2.out.over h1).cell;have m0:=(HS2.out.over h1).melt;clear h1 h2 hm))
 refine bodyPost_ret (out_bk ((HS2.out.over H3.out).put (.slice A2 n n)) _ _ 2 res_copy rfl) rfl ⟨(HB.out.trans (H3.out.mono HB.out.size)).setCell (by show w.heap.size≤w.heap.size+1;omega) _,A2,sv,rfl,HM.out, ?_⟩
 rw [World.size_setCell]
 exact (HN.out.keep fun g h1 _=>heap_setCell_other w3 _ g _ (by show g≠w.heap.size+1;have:=HSZ.out;omega)).up (by have:=HSZ.out;omega) (Nat.le_refl _)
theorem all_set_same {α : Type} {k:Nat} (E:Enc α k) {xs:List α} {i:Nat} {x x' : α} (hx:xs[i]? = some x) (he:E.f x'=E.f x):E.all (xs.set i x')=E.all xs:=by
 unfold Enc.all
 induction xs generalizing i with
 | nil=>rfl
 | cons a t ih =>
   cases i with
   | zero =>
     obtain rfl:a=x:=by simpa using hx
     rw [List.set_cons_zero,List.flatMap_cons,List.flatMap_cons,he]
   | succ i=>rw [List.set_cons_succ,List.flatMap_cons,List.flatMap_cons,ih (by simpa using hx)]
theorem RwA.same {α : Type} {k:Nat} {E:Enc α k} {e:TypeId} {w:World} {g:Nat} {xs ys:List α} (h:RwA E e w g xs) (he:E.all ys=E.all xs):RwA E e w g ys:=by
 obtain ⟨cur,h1,h2⟩:=h
 exact ⟨cur,h1,by rw [he];exact h2⟩
def Rv.put (r:Rv) (c:Nat) (t:ByteArray):Rv:=⟨r.A,r.cap,r.l.set c t⟩
def Sv.put (s:Sv) (r c:Nat) (rv:Rv) (t:ByteArray):Sv:=⟨s.nm,s.cols,s.A,s.cap,s.rows.set r (rv.put c t)⟩
theorem BkO.cell {w:World} {A:Option Addr} {n cap:Nat} {sv:List Sv} {lo hi i r c:Nat} {s:Sv} {rv:Rv} (h:BkO w A n cap sv lo hi) (hs:sv[i]? = some s) (hr:s.rows[r]? = some rv) (hc:c<rv.l.length) :
 ∃ g,rv.A=some ⟨g,0,none⟩∧lo≤g∧g<hi∧w.cell? ⟨g,c,none⟩=some (.string (rv.l.getD c ⟨#[]⟩))∧w.frozen? ⟨g,c,none⟩=false∧∀ t:ByteArray,BkO (w.setCell ⟨g,c,none⟩ (.string t)) A n cap (sv.set i (s.put r c rv t)) lo hi:=by
 obtain ⟨T,m,h1,h2,h3,h4,h5,h6,h7,h8⟩:=h
 obtain ⟨a,b,k1,k2,k3,k4,k5⟩:=h8.at i s hs
 obtain ⟨U,m2,j1,j2,j3,j4,j5,j6,j7⟩:=k4
 obtain ⟨a2,b2,q1,q2,q3,q4,q5⟩:=j7.at r rv hr
 obtain ⟨p1,p2,p3⟩:=q4
 obtain ⟨g,f1,f2,f3,f4⟩:=p3.resolve_left (fun e=>by rw [e] at hc;exact absurd hc (Nat.not_lt_zero _))
 obtain ⟨x,hx⟩:∃ x,rv.l[c]? = some x:=⟨_,List.getElem?_eq_getElem hc⟩
 refine ⟨g,f1,by omega,by omega, ?_,f4.melt c,fun t => ?_⟩
 · rw [List.getD_eq_getElem?_getD,hx]
   exact f4.cell c _ (by rw [all_encTx,List.getElem?_map,hx];rfl)
 · have hk:∀ y,y≠g→(w.setCell ⟨g,c,none⟩ (.string t)).heap[y]? = w.heap[y]? := fun y hy=>heap_setCell_other w _ y _ hy
   have f5:RwA encTx 9 (w.setCell ⟨g,c,none⟩ (.string t)) g (rv.l.set c t):=f4.set1 c t _ rfl
   refine ⟨T,m,h1,by rw [List.length_set];exact h2,by rw [List.length_set];exact h3,by rw [List.length_set];exact h4,h5,h6, ?_, ?_⟩
   · refine (h7.keep (hk T (by omega))).same (all_set_same encSv hs ?_)
     show [_,_,Value.slice s.A (s.rows.set r (rv.put c t)).length s.cap]=[_,_,Value.slice s.A s.rows.length s.cap]
     rw [List.length_set]
     rfl
   · refine k5 (ShO (w.setCell ⟨g,c,none⟩ (.string t))) _ (fun y u v _ _ _ hd hy=>hy.keep fun z hz1 hz2=>hk z (by omega)) ?_
     refine ⟨U,m2,j1,by show s.cap=(s.rows.set r (rv.put c t)).length;rw [List.length_set];exact j2,by show (s.rows.set r (rv.put c t)).length≤maxLen;rw [List.length_set];exact j3,j4,j5, ?_, ?_⟩
     · refine (j6.keep (hk U (by omega))).same (all_set_same encRv hr ?_)
       show [Value.slice rv.A (rv.l.set c t).length rv.cap]=[Value.slice rv.A rv.l.length rv.cap]
       rw [List.length_set]
     · refine q5 (TxO (w.setCell ⟨g,c,none⟩ (.string t))) _ (fun y u v _ _ _ hd hy=>hy.keep fun z hz1 hz2=>hk z (by omega)) ?_
       exact ⟨by show (rv.l.set c t).length≤rv.cap;rw [List.length_set];exact p1,p2,.inr ⟨g,f1,f2,f3,f5⟩⟩
theorem BkAt.load {w:World} {b:Nat} {A:Option Addr} {n cap:Nat} (h:BkAt w b (.slice A n cap)):(loadVar 26 ⟨b,0,none⟩).run Tryz.prog w = .ok (.agg #[.slice A n cap]) w :=
 run_loadVar_row w b 26 26 _ _ _ h Tryz.underlying26 rfl bk_size
theorem out_bkn {w:World} {b:Nat} {A:Option Addr} {n cap:Nat} (h:BkAt w b (.slice A n cap)) (fn:Func) (tmps:Array Value) (ok:Value) (p u:Tmp) (hf:fn.results=#[.cell p 26,.tmp u]) (hp:tmps.getD p undef = .pointer (some ⟨b,0,none⟩)) (hu:tmps.getD u undef=ok) :
 (results fn tmps).run Tryz.prog w = .ok (.tuple #[.agg #[.slice A n cap],ok]) w:=by
 rw [results_cell_tmp hf,hp,hu]
 simp [asAddr,h.load,Result.andThen]
theorem res_set:Tryz.f8.results=#[.cell 6 26,.tmp 7]:=by kernel_rfl
theorem pgs_at {a b:List Sv} (h:pgs a=pgs b) {i:Nat} {s:Sv} (hs:b[i]? = some s):∃ s',a[i]? = some s'∧s'.p=s.p:=by
 have h1:(pgs b)[i]? = some s.p:=map_at hs
 rw [← h] at h1
 unfold pgs at h1
 rw [List.getElem?_map] at h1
 obtain ⟨s',h2,h3⟩:=Option.map_eq_some_iff.1 h1
 exact ⟨s',h2,h3⟩
theorem first_pgs {a b:List Sv} (h:pgs a=pgs b) {nm:ByteArray} {i:Nat} {s s':Sv} (hf:First b nm i s) (hs:a[i]? = some s') (hp:s'.p=s.p):First a nm i s':=by
 refine ⟨hs,(congrArg Shp.nm hp).trans hf.2.1,fun j t hj ht => ?_⟩
 obtain ⟨t',h1,h2⟩:=pgs_at h.symm ht
 have:=hf.2.2 j t' hj h1
 exact fun e=>this ((congrArg Shp.nm h2).trans e)
def idO:Option (Nat × Sv × Nat × Rv × Nat)→Option (Nat × Nat × Nat)
 | none=>none
 | some (i,_,r,_,c)=>some (i,r,c)
theorem spot_pgs {a b:List Sv} (h:pgs a=pgs b) {nm:ByteArray} {row col:Int} {o:Option (Nat × Sv × Nat × Rv × Nat)} (ho:SpotR b nm row col o):∃ o',SpotR a nm row col o'∧idO o'=idO o∧txO o'=txO o:=by
 cases o with
 | none =>
   refine ⟨none, ?_,rfl,rfl⟩
   rcases ho with ho | ⟨i,s,hf,ho⟩
   · refine .inl fun j t ht => ?_
     obtain ⟨t',h1,h2⟩:=pgs_at h.symm ht
     exact fun e=>ho j t' h1 ((congrArg Shp.nm h2).trans e)
   · obtain ⟨s',h1,h2⟩:=pgs_at h hf.1
     have hrl:lns s'.rows=lns s.rows:=congrArg Shp.rows h2
     have hln:s'.rows.length=s.rows.length:=by have:=congrArg List.length hrl;unfold lns at this;rwa [List.length_map,List.length_map] at this
     refine .inr ⟨i,s',first_pgs h hf h1 h2, ?_⟩
     rcases ho with ho | ⟨r,rv,e1,e2,e3⟩
     · exact .inl (by rw [hln];exact ho)
     · have h3:(lns s.rows)[r]? = some rv.l:=map_at e2
       rw [← hrl] at h3
       unfold lns at h3
       rw [List.getElem?_map] at h3
       obtain ⟨rv',h4,h5⟩:=Option.map_eq_some_iff.1 h3
       exact .inr ⟨r,rv',e1,h4,by rw [h5];exact e3⟩
 | some p =>
   obtain ⟨i,s,r,rv,c⟩:=p
   obtain ⟨hf,e1,e2,e3,e4⟩:=ho
   obtain ⟨s',h1,h2⟩:=pgs_at h hf.1
   have hrl:lns s'.rows=lns s.rows:=congrArg Shp.rows h2
   have h3:(lns s.rows)[r]? = some rv.l:=map_at e2
   rw [← hrl] at h3
   unfold lns at h3
   rw [List.getElem?_map] at h3
   obtain ⟨rv',h4,h5⟩:=Option.map_eq_some_iff.1 h3
   have h5:rv'.l=rv.l:=h5
   exact ⟨some (i,s',r,rv',c),⟨first_pgs h hf h1 h2,e1,h4,e3,by rw [h5];exact e4⟩,rfl,by show rv'.l.getD c _=rv.l.getD c _;rw [h5]⟩
theorem three_blocks (w:World) (v:Value) (nm:ByteArray) (row col:Int):∃ w3,((w.alloc (.cells #[v] 26)).alloc (.cells #[.string nm,.int .i64 row,.int .i64 col] 29)).alloc (.cells #[.slice none 0 0] 26)=w3∧Below w.heap.size w w3∧BkAt w3 w.heap.size v∧SpAt w3 (w.heap.size+1) nm row col∧BkAt w3 (w.heap.size+2) (.slice none 0 0)∧w3.heap.size=w.heap.size+3:=by
 obtain ⟨w2,hw2,hb,hbk,hsp,hsz⟩:=two_blocks w v nm row col
 refine ⟨_,by rw [hw2],hb.trans ((below_bk w2 (.slice none 0 0)).mono hb.size),hbk.over (below_bk _ _),hsp.over (below_bk _ _), ?_,by rw [World.size_alloc,hsz]⟩
 have:=BkAt.new w2 (.slice none 0 0)
 rwa [hsz] at this
def setSh (p:Shp) (r c:Nat) (t:ByteArray):Shp:=⟨p.nm,p.cols,p.rows.set r ((p.rows.getD r []).set c t)⟩
def setP (l:List Shp) (i r c:Nat) (t:ByteArray):List Shp:=l.set i (setSh (l.getD i ⟨⟨#[]⟩,0,[]⟩) r c t)
theorem put_pgs {sv:List Sv} {i r c:Nat} {s:Sv} {rv:Rv} (t:ByteArray) (hs:sv[i]? = some s) (hr:s.rows[r]? = some rv):pgs (sv.set i (s.put r c rv t))=setP (pgs sv) i r c t:=by
 have h1:(pgs sv)[i]? = some s.p:=map_at hs
 unfold setP
 rw [List.getD_eq_getElem?_getD,h1]
 unfold pgs
 rw [List.map_set]
 congr 1
 have h2:(lns s.rows)[r]? = some rv.l:=map_at hr
 show Sv.p (s.put r c rv t)=setSh s.p r c t
 unfold Sv.p Sv.put setSh
 simp only
 rw [List.map_set,List.getD_eq_getElem?_getD]
 unfold lns at h2
 rw [h2]
 rfl
set_option maxRecDepth 100000 in
set_option maxHeartbeats 2000000 in
theorem allT_any (w:World) (A:Option Addr) (n cap:Nat) (xs:List ByteArray) (h:SE encTx w w.heap.size (.slice A n cap) xs)
 (hc:∀ x∈xs,∀ w1,Below w.heap.size w w1→Calls Tryz.prog 20 #[.string x] w1 fun e w'=>e = .returned (.bool true)∧Below w1.heap.size w1 w') :
 Calls Tryz.prog 72 #[.slice A n cap,.func (.func 20) #[] #[]] w fun e w'=>e = .returned (.bool true)∧Below w.heap.size w w':=by
 have HL:=Lib.hid h.len.1;have HX:=Lib.hid h;have HC:=Lib.hid hc
 have hmx:n≤9223372036854775807:=by have:=h.len.2;unfold maxLen at this;omega
 clear h hc
 go_enter Tryz.func72,Tryz.ntmps72
 go_upto_region 2 with (fail)
 go_loopw [9] (fun iv wr=>∃ i:Nat,i≤n∧iv = .int .i64 (i:Int)∧Hid (Below w.heap.size w wr))
  (fun iv _=>n - (intOf iv).toNat)
 case atStart=>exact ⟨0,Nat.zero_le _,rfl,Lib.hid (Below.refl _ _)⟩
 case round =>
  obtain ⟨i,hi,rfl,HR⟩:=hrel
  by_cases hlt:i<n
  · have hii:(i:Int)<(n:Int):=by omega
    have hi0:(0:Int)≤(i:Int):=by omega
    obtain ⟨x,hx⟩:∃ x,xs[i]? = some x:=⟨_,List.getElem?_eq_getElem (by rw [HL.out];exact hlt)⟩
    obtain ⟨pb,po,rfl,hpb,e0⟩:=tx_at HX.out hx
    have x0:wr.cell? ⟨pb,po+i,none⟩=some (.string x):=(HR.out.cell (p:=⟨pb,po+i,none⟩) hpb).trans e0
    have HW:=Lib.hid (HC.out x (List.mem_of_getElem? hx) wr HR.out)
    clear e0 hx
    go_wp2_with (go_at_call 20;((with_reducible refine HW.out.mono ?_);rintro e w2 ⟨rfl,h1⟩;have H2:=Lib.hid (HR.out.trans (h1.mono HR.out.size));clear h1))
    go_roundw
    case rel=>exact ⟨i+1,by omega,by go_num,H2⟩
    case measure=>simp [intOf];omega
  · have hii:¬ (i:Int)<(n:Int):=by omega
    go_wp2_with fail
    go_ret
    exact ⟨rfl,HR.out⟩
theorem below_gr (w:World) (c:Int):Below w.heap.size w (w.alloc (.cells #[.int .i64 c] 80)):=(Below.refl _ _).alloc (Nat.le_refl _) _
set_option maxRecDepth 100000 in
set_option maxHeartbeats 2000000 in
theorem fits_any (w:World) (A:Option Addr) (n cap:Nat) (xs:List ByteArray) (h:SE encTx w w.heap.size (.slice A n cap) xs)
 (hc:∀ x∈xs,∀ w1,Below w.heap.size w w1→Calls Tryz.prog 20 #[.string x] w1 fun e w'=>e = .returned (.bool true)∧Below w1.heap.size w1 w') :
 Calls Tryz.prog 49 #[.agg #[.int .i64 (n:Int)],.slice A n cap] w fun e w'=>e = .returned (.bool true)∧Below w.heap.size w w':=by
 have HB:=Lib.hid (below_gr w n)
 have HA:=Lib.hid (allT_any (w.alloc (.cells #[.int .i64 (n:Int)] 80)) A n cap xs (h.lift HB.out) (fun x hx w1 h1=>hc x hx w1 (HB.out.trans (h1.mono HB.out.size))))
 clear h hc
 go_enter Tryz.func49,Tryz.ntmps49
 go_wp2_with (go_at_call 72;((with_reducible refine HA.out.mono ?_);rintro e w2 ⟨rfl,h1⟩;have H2:=Lib.hid (HB.out.trans (h1.mono HB.out.size));clear h1))
 go_ret
 exact ⟨rfl,H2.out⟩
def ClAt (w:World) (b:Nat) (nm:ByteArray):Prop:=w.heap[b]? = some (.cells #[.string nm] 57)
theorem ClAt.cell {w:World} {b:Nat} {nm:ByteArray} (h:ClAt w b nm):w.cell? ⟨b,0,none⟩=some (.string nm):=by rw [cell_of_row w b 0 _ _ _ h];rfl
theorem ClAt.melt {w:World} {b:Nat} {nm:ByteArray} (h:ClAt w b nm):w.frozen? ⟨b,0,none⟩=false:=frozen_of_row w b 0 _ _ h
theorem ClAt.lt {w:World} {b:Nat} {nm:ByteArray} (h:ClAt w b nm):b<w.heap.size:=(Array.getElem?_eq_some_iff.1 h).1
theorem ClAt.over {w w':World} {b:Nat} {nm:ByteArray} (h:ClAt w b nm) (hb:Below w.heap.size w w'):ClAt w' b nm:=by unfold ClAt;rw [hb.block b h.lt];exact h
theorem ClAt.put {w:World} {b:Nat} {nm:ByteArray} (h:ClAt w b nm) (t:ByteArray):ClAt (w.setCell ⟨b,0,none⟩ (.string t)) b t:=by
 unfold ClAt;rw [heap_setCell_same w b 0 _ _ _ h];rfl
set_option maxRecDepth 100000 in
set_option maxHeartbeats 2000000 in
theorem goesOn_any (w:World) (b:Nat) (last nm:ByteArray) (c:Int) (A:Option Addr) (n cap:Nat) (h:ClAt w b last) (hl:Op.bytesLess last.toList nm.toList=true) :
 Calls Tryz.prog 29 #[.pointer (some ⟨b,0,none⟩),.agg #[.string nm,.int .i64 c,.slice A n cap]] w fun e w'=>e = .returned (.bool true)∧ClAt w' b nm∧∀ B,B≤b→Below B w w':=by
 have HS:=Lib.hid (ShAt.new w nm c (.slice A n cap))
 have HB:=Lib.hid (below_sh w nm c (.slice A n cap))
 have HC:=Lib.hid (h.over HB.out)
 have HLT:=Lib.hid h.lt
 clear h
 go_enter Tryz.func29,Tryz.ntmps29
 go_upto_region 1 with (fail)
 obtain ⟨w1,hw1⟩:∃ w1,w.alloc (.cells #[.string nm,.int .i64 c,.slice A n cap] 47)=w1:=⟨_,rfl⟩
 rw [hw1] at HS HB HC ⊢
 clear hw1
 have x0:=HC.out.cell
 have m0:=HC.out.melt
 obtain ⟨y0,y1,y2⟩:=HS.out.cells
 go_upto_region 3 with (fail)
 clear x0 m0 y0 y1 y2
 have hne:w.heap.size≠b:=fun e=>by have:=HLT.out;omega
 have HC2:=Lib.hid (HC.out.put nm)
 have HS2:=Lib.hid (HS.out.other ⟨b,0,none⟩ (.string nm) hne)
 have HB2:=Lib.hid (fun (B:Nat) (hB:B≤b)=>(show Below B w (w1.setCell ⟨b,0,none⟩ (.string nm)) from (HB.out.mono (by have:=HLT.out;omega)).setCell hB _))
 obtain ⟨w2,hw2⟩:∃ w2,w1.setCell ⟨b,0,none⟩ (.string nm)=w2:=⟨_,rfl⟩
 rw [hw2] at HC2 HS2 HB2 ⊢
 clear hw2
 obtain ⟨y0,y1,y2⟩:=HS2.out.cells
 go_wp2_with fail
 go_ret
 exact ⟨rfl,HC2.out,HB2.out⟩
def Rise:ByteArray→List Sv→Prop
 | _,[]=>True
 | last,s :: l=>Op.bytesLess last.toList s.nm.toList=true∧Rise s.nm l
set_option maxRecDepth 100000 in
set_option maxHeartbeats 4000000 in
theorem allRise_any (w:World) (b:Nat) (A:Option Addr) (n cap:Nat) (shs:List Sv) (h:BkR w b (.slice A n cap) shs) (hn:n≤1000000) (hr:Rise ⟨#[]⟩ shs) (hc:ClAt w b ⟨#[]⟩) :
 Calls Tryz.prog 28 #[.slice A n cap,.func (.func 29) #[.pointer (some ⟨b,0,none⟩)] #[]] w fun e w'=>e = .returned (.bool true)∧Below b w w':=by
 have HL:=Lib.hid h.1.len.1;have HX:=Lib.hid h;have HRS:=Lib.hid hr;have HC:=Lib.hid hc
 clear h hr hc
 go_enter Tryz.func28,Tryz.ntmps28
 go_upto_region 2 with (fail)
 go_loopw [9] (fun iv wr=>∃ (i:Nat) (last:ByteArray),i≤n∧iv = .int .i64 (i:Int)∧Hid (ClAt wr b last)∧Hid (Rise last (shs.drop i))∧Hid (Below b w wr))
  (fun iv _=>n - (intOf iv).toNat)
 case atStart=>exact ⟨0,_,Nat.zero_le _,rfl,HC,Lib.hid (by rw [List.drop_zero];exact HRS.out),Lib.hid (Below.refl _ _)⟩
 case round =>
  obtain ⟨i,last,hi,rfl,HCL,HRI,HR⟩:=hrel
  by_cases hlt:i<n
  · have hii:(i:Int)<(n:Int):=by omega
    have hi0:(0:Int)≤(i:Int):=by omega
    have hls:i<shs.length:=by rw [HL.out];exact hlt
    obtain ⟨x,hx⟩:∃ x,shs[i]? = some x:=⟨_,List.getElem?_eq_getElem hls⟩
    have hri:=HRI.out
    rw [List.drop_eq_getElem_cons hls] at hri
    have hxe:shs[i]=x:=by rw [List.getElem?_eq_getElem hls] at hx;exact Option.some.inj hx
    rw [hxe] at hri
    have HNX:=Lib.hid hri.2
    obtain ⟨pb,po,rfl,hpb,e0,e1,e2,hrx⟩:=sh_at HX.out hx
    have x0:wr.cell? ⟨pb,po+i*3,none⟩=some (.string x.nm):=(HR.out.cell (p:=⟨pb,po+i*3,none⟩) hpb).trans e0
    have x1:wr.cell? ⟨pb,po+i*3+1,none⟩=some (.int .i64 x.cols):=(HR.out.cell (p:=⟨pb,po+i*3+1,none⟩) hpb).trans e1
    have x2:wr.cell? ⟨pb,po+i*3+2,none⟩=some (.slice x.A x.rows.length x.cap):=(HR.out.cell (p:=⟨pb,po+i*3+2,none⟩) hpb).trans e2
    have HBS:=Lib.hid (below_sh wr x.nm x.cols (.slice x.A x.rows.length x.cap))
    have HNS:=Lib.hid (ShAt.new wr x.nm x.cols (.slice x.A x.rows.length x.cap))
    have HG:=Lib.hid (goesOn_any (wr.alloc (.cells #[.string x.nm,.int .i64 x.cols,.slice x.A x.rows.length x.cap] 47)) b last x.nm x.cols x.A x.rows.length x.cap (HCL.out.over HBS.out) hri.1)
    have HBB:=Lib.hid (show Below b w (wr.alloc (.cells #[.string x.nm,.int .i64 x.cols,.slice x.A x.rows.length x.cap] 47)) from HR.out.alloc (Nat.le_of_lt HCL.out.lt) _)
    clear e0 e1 e2 hrx hx hri hxe
    go_upto_region 4 with (fail)
    clear x0 x1 x2
    obtain ⟨w1,hw1⟩:∃ w1,wr.alloc (.cells #[.string x.nm,.int .i64 x.cols,.slice x.A x.rows.length x.cap] 47)=w1:=⟨_,rfl⟩
    rw [hw1] at HBS HNS HG HBB ⊢
    clear hw1
    obtain ⟨y0,y1,y2⟩:=HNS.out.cells
    go_wp2_with (go_at_call 29;((with_reducible refine HG.out.mono ?_);rintro e w2 ⟨rfl,h1,h2⟩;have H1:=Lib.hid h1;have H2:=Lib.hid (HBB.out.trans (h2 b (Nat.le_refl _)));clear h1 h2))
    go_roundw
    case rel=>exact ⟨i+1,x.nm,by omega,by go_num,H1,HNX,H2⟩
    case measure=>simp [intOf];omega
  · have hii:¬ (i:Int)<(n:Int):=by omega
    go_wp2_with fail
    go_ret
    exact ⟨rfl,HR.out⟩
structure ShOk (s:Sv):Prop where
 name:nameL (sb s.nm)=true
 size:s.nm.size≤1000
 low:0≤s.cols
 cols:s.cols≤12
 rows:s.rows.length≤24
 wide:∀ r∈s.rows,(r.l.length:Int)=s.cols
set_option maxRecDepth 100000 in
set_option maxHeartbeats 4000000 in
theorem allFits_any (w:World) (A:Option Addr) (n cap:Nat) (rows:List Rv) (m:Int) (h:RowsR w w.heap.size (.slice A n cap) rows) (hn:n≤1000000) (hm:∀ r∈rows,(r.l.length:Int)=m)
 (hc:∀ r∈rows,∀ x∈r.l,∀ w1,Below w.heap.size w w1→Calls Tryz.prog 20 #[.string x] w1 fun e w'=>e = .returned (.bool true)∧Below w1.heap.size w1 w') :
 Calls Tryz.prog 48 #[.slice A n cap,.func (.func 49) #[.agg #[.int .i64 m]] #[]] w fun e w'=>e = .returned (.bool true)∧Below w.heap.size w w':=by
 have HL:=Lib.hid h.1.len.1;have HX:=Lib.hid h;have HC:=Lib.hid hc;have HM:=Lib.hid hm
 clear h hc hm
 go_enter Tryz.func48,Tryz.ntmps48
 go_upto_region 2 with (fail)
 go_loopw [9] (fun iv wr=>∃ i:Nat,i≤n∧iv = .int .i64 (i:Int)∧Hid (Below w.heap.size w wr))
  (fun iv _=>n - (intOf iv).toNat)
 case atStart=>exact ⟨0,Nat.zero_le _,rfl,Lib.hid (Below.refl _ _)⟩
 case round =>
  obtain ⟨i,hi,rfl,HR⟩:=hrel
  by_cases hlt:i<n
  · have hii:(i:Int)<(n:Int):=by omega
    have hi0:(0:Int)≤(i:Int):=by omega
    obtain ⟨x,hx⟩:∃ x,rows[i]? = some x:=⟨_,List.getElem?_eq_getElem (by rw [HL.out];exact hlt)⟩
    obtain ⟨pb,po,rfl,hpb,e0,hrx⟩:=row_at HX.out hx
    have x0:wr.cell? ⟨pb,po+i,none⟩=some (.slice x.A x.l.length x.cap):=(HR.out.cell (p:=⟨pb,po+i,none⟩) hpb).trans e0
    have hw:=fits_any wr x.A x.l.length x.cap x.l (hrx.lift HR.out) (fun y hy w1 h1=>HC.out x (List.mem_of_getElem? hx) y hy w1 (HR.out.trans (h1.mono HR.out.size)))
    rw [HM.out x (List.mem_of_getElem? hx)] at hw
    have HW:=Lib.hid hw
    clear e0 hx hw hrx
    go_wp2_with (go_at_call 49;((with_reducible refine HW.out.mono ?_);rintro e w2 ⟨rfl,h1⟩;have H2:=Lib.hid (HR.out.trans (h1.mono HR.out.size));clear h1))
    go_roundw
    case rel=>exact ⟨i+1,by omega,by go_num,H2⟩
    case measure=>simp [intOf];omega
  · have hii:¬ (i:Int)<(n:Int):=by omega
    go_wp2_with fail
    go_ret
    exact ⟨rfl,HR.out⟩
set_option maxRecDepth 100000 in
set_option maxHeartbeats 4000000 in
theorem sheetMay_any (w:World) (s:Sv) (h:RowsR w w.heap.size (.slice s.A s.rows.length s.cap) s.rows) (ho:ShOk s)
 (hc:∀ r∈s.rows,∀ x∈r.l,∀ w1,Below w.heap.size w w1→Calls Tryz.prog 20 #[.string x] w1 fun e w'=>e = .returned (.bool true)∧Below w1.heap.size w1 w') :
 Calls Tryz.prog 30 #[.agg #[.string s.nm,.int .i64 s.cols,.slice s.A s.rows.length s.cap]] w fun e w'=>e = .returned (.bool true)∧Below w.heap.size w w':=by
 have HB:=Lib.hid (below_sh w s.nm s.cols (.slice s.A s.rows.length s.cap))
 have HS:=Lib.hid (ShAt.new w s.nm s.cols (.slice s.A s.rows.length s.cap))
 have hnm:=name_any s.nm (w.alloc (.cells #[.string s.nm,.int .i64 s.cols,.slice s.A s.rows.length s.cap] 47)) (by have:=ho.size;omega)
 rw [ho.name] at hnm
 have HNM:=Lib.hid hnm
 have HA:=Lib.hid (allFits_any (w.alloc (.cells #[.string s.nm,.int .i64 s.cols,.slice s.A s.rows.length s.cap] 47)) s.A s.rows.length s.cap s.rows s.cols (h.lift HB.out) (by have:=ho.rows;omega) ho.wide (fun r hr x hx w1 h1=>hc r hr x hx w1 (HB.out.trans (h1.mono HB.out.size))))
 have h1:=ho.low
 have h2:=ho.cols
 have h3:(s.rows.length:Int)≤24:=by have:=ho.rows;omega
 clear h hc ho hnm
 go_enter Tryz.func30,Tryz.ntmps30
 go_upto_region 1 with (fail)
 obtain ⟨w1,hw1⟩:∃ w1,w.alloc (.cells #[.string s.nm,.int .i64 s.cols,.slice s.A s.rows.length s.cap] 47)=w1:=⟨_,rfl⟩
 rw [hw1] at HS HB HNM HA ⊢
 clear hw1
 obtain ⟨y0,y1,y2⟩:=HS.out.cells
 obtain ⟨n,hn⟩:∃ n,s.rows.length=n:=⟨_,rfl⟩
 rw [hn] at y2 HA h3
 clear hn
 go_wp2_with (first
  | (go_at_call 47;((with_reducible refine HNM.out.mono ?_);rintro e w2 ⟨rfl,rfl⟩))
  | (go_at_call 48;((with_reducible refine HA.out.mono ?_);rintro e w2 ⟨rfl,h1⟩;have H2:=Lib.hid (HB.out.trans (h1.mono HB.out.size));clear h1)))
 go_ret
 exact ⟨rfl,H2.out⟩
set_option maxRecDepth 100000 in
set_option maxHeartbeats 4000000 in
theorem allMay_any (w:World) (A:Option Addr) (n cap:Nat) (shs:List Sv) (h:BkR w w.heap.size (.slice A n cap) shs) (hn:n≤1000000) (ho:∀ s∈shs,ShOk s)
 (hc:∀ s∈shs,∀ r∈s.rows,∀ x∈r.l,∀ w1,Below w.heap.size w w1→Calls Tryz.prog 20 #[.string x] w1 fun e w'=>e = .returned (.bool true)∧Below w1.heap.size w1 w') :
 Calls Tryz.prog 28 #[.slice A n cap,.func (.func 30) #[] #[]] w fun e w'=>e = .returned (.bool true)∧Below w.heap.size w w':=by
 have HL:=Lib.hid h.1.len.1;have HX:=Lib.hid h;have HC:=Lib.hid hc;have HO:=Lib.hid ho
 clear h hc ho
 go_enter Tryz.func28,Tryz.ntmps28
 go_upto_region 2 with (fail)
 go_loopw [9] (fun iv wr=>∃ i:Nat,i≤n∧iv = .int .i64 (i:Int)∧Hid (Below w.heap.size w wr))
  (fun iv _=>n - (intOf iv).toNat)
 case atStart=>exact ⟨0,Nat.zero_le _,rfl,Lib.hid (Below.refl _ _)⟩
 case round =>
  obtain ⟨i,hi,rfl,HR⟩:=hrel
  by_cases hlt:i<n
  · have hii:(i:Int)<(n:Int):=by omega
    have hi0:(0:Int)≤(i:Int):=by omega
    obtain ⟨x,hx⟩:∃ x,shs[i]? = some x:=⟨_,List.getElem?_eq_getElem (by rw [HL.out];exact hlt)⟩
    obtain ⟨pb,po,rfl,hpb,e0,e1,e2,hrx⟩:=sh_at HX.out hx
    have x0:wr.cell? ⟨pb,po+i*3,none⟩=some (.string x.nm):=(HR.out.cell (p:=⟨pb,po+i*3,none⟩) hpb).trans e0
    have x1:wr.cell? ⟨pb,po+i*3+1,none⟩=some (.int .i64 x.cols):=(HR.out.cell (p:=⟨pb,po+i*3+1,none⟩) hpb).trans e1
    have x2:wr.cell? ⟨pb,po+i*3+2,none⟩=some (.slice x.A x.rows.length x.cap):=(HR.out.cell (p:=⟨pb,po+i*3+2,none⟩) hpb).trans e2
    have HBS:=Lib.hid (below_sh wr x.nm x.cols (.slice x.A x.rows.length x.cap))
    have HNS:=Lib.hid (ShAt.new wr x.nm x.cols (.slice x.A x.rows.length x.cap))
    have HBB:=Lib.hid (show Below w.heap.size w (wr.alloc (.cells #[.string x.nm,.int .i64 x.cols,.slice x.A x.rows.length x.cap] 47)) from HR.out.trans (HBS.out.mono HR.out.size))
    have HG:=Lib.hid (sheetMay_any (wr.alloc (.cells #[.string x.nm,.int .i64 x.cols,.slice x.A x.rows.length x.cap] 47)) x ((hrx.lift HR.out).lift HBS.out) (HO.out x (List.mem_of_getElem? hx)) (fun r hr y hy w1 h1=>HC.out x (List.mem_of_getElem? hx) r hr y hy w1 (HBB.out.trans (h1.mono HBB.out.size))))
    clear e0 e1 e2 hrx hx
    go_upto_region 4 with (fail)
    clear x0 x1 x2
    obtain ⟨w1,hw1⟩:∃ w1,wr.alloc (.cells #[.string x.nm,.int .i64 x.cols,.slice x.A x.rows.length x.cap] 47)=w1:=⟨_,rfl⟩
    rw [hw1] at HBS HNS HG HBB ⊢
    clear hw1
    obtain ⟨y0,y1,y2⟩:=HNS.out.cells
    go_wp2_with (go_at_call 30;((with_reducible refine HG.out.mono ?_);rintro e w2 ⟨rfl,h1⟩;have H2:=Lib.hid (HBB.out.trans (h1.mono HBB.out.size));clear h1))
    go_roundw
    case rel=>exact ⟨i+1,by omega,by go_num,H2⟩
    case measure=>simp [intOf];omega
  · have hii:¬ (i:Int)<(n:Int):=by omega
    go_wp2_with fail
    go_ret
    exact ⟨rfl,HR.out⟩
structure BkOk (shs:List Sv):Prop where
 few:shs.length≤5
 rise:Rise ⟨#[]⟩ shs
 each:∀ s∈shs,ShOk s
theorem BkOk.sz {shs:List Sv} (h:BkOk shs):SzB shs:=⟨by have:=h.few;omega,fun s hs=>⟨by have:=(h.each s hs).rows;omega,fun r hr=>by have h1:=(h.each s hs).wide r hr;have h2:=(h.each s hs).cols;omega⟩⟩
set_option maxRecDepth 100000 in
set_option maxHeartbeats 4000000 in
theorem mayB_any (w:World) (A:Option Addr) (n cap:Nat) (shs:List Sv) (h:BkR w w.heap.size (.slice A n cap) shs) (ho:BkOk shs)
 (hc:∀ s∈shs,∀ r∈s.rows,∀ x∈r.l,∀ w1,Below w.heap.size w w1→Calls Tryz.prog 20 #[.string x] w1 fun e w'=>e = .returned (.bool true)∧Below w1.heap.size w1 w') :
 Calls Tryz.prog 11 #[.agg #[.slice A n cap]] w fun e w'=>e = .returned (.bool true)∧Below w.heap.size w w':=by
 have HB:=Lib.hid (below_bk w (.slice A n cap))
 have HK:=Lib.hid (BkAt.new w (.slice A n cap))
 have hn5:(n:Int)≤5:=by have h1:=ho.few;have h2:=h.1.len.1;omega
 have hn6:n≤1000000:=by omega
 have HX:=Lib.hid h;have HO:=Lib.hid ho;have HC:=Lib.hid hc
 clear h ho hc
 go_enter Tryz.func11,Tryz.ntmps11
 go_upto_region 1 with (fail)
 obtain ⟨w1,hw1⟩:∃ w1,w.alloc (.cells #[.slice A n cap] 26)=w1:=⟨_,rfl⟩
 rw [hw1] at HB HK ⊢
 clear hw1
 go_upto_region 2 with (fail)
 have HCL:=Lib.hid (show ClAt (w1.alloc (.cells #[.string ⟨#[]⟩] 57)) w1.heap.size ⟨#[]⟩ from (Go.MapKept.heap_alloc w1 _).1)
 have HB1:=Lib.hid (show Below w1.heap.size w1 (w1.alloc (.cells #[.string ⟨#[]⟩] 57)) from (Below.refl _ _).alloc (Nat.le_refl _) _)
 obtain ⟨w2,hw2⟩:∃ w2,w1.alloc (.cells #[.string ⟨#[]⟩] 57)=w2:=⟨_,rfl⟩
 rw [hw2] at HCL HB1 ⊢
 clear hw2
 have HB2:=Lib.hid (HB.out.trans (HB1.out.mono HB.out.size))
 have HR:=Lib.hid (allRise_any w2 w1.heap.size A n cap shs ((HX.out.below HB2.out (Nat.le_refl _)).mono HB.out.size) hn6 HO.out.rise HCL.out)
 have HM:=Lib.hid (fun (w3:World) (h3:Below w1.heap.size w2 w3)=>(show Below w.heap.size w w3∧_ from ⟨HB2.out.trans (h3.mono HB.out.size),allMay_any w3 A n cap shs (HX.out.lift (HB2.out.trans (h3.mono HB.out.size))) hn6 HO.out.each (fun s hs r hr x hx wq hq=>HC.out s hs r hr x hx wq ((HB2.out.trans (h3.mono HB.out.size)).trans (hq.mono (HB2.out.trans (h3.mono HB.out.size)).size)))⟩))
 have HK2:=Lib.hid (HK.out.over HB1.out)
 have hlt:w.heap.size<w1.heap.size:=HK.out.lt
 have HK3:=Lib.hid (fun (w3:World) (h3:Below w1.heap.size w2 w3)=>(show w3.cell? ⟨w.heap.size,0,none⟩=some (.slice A n cap) from (HK2.out.below h3 hlt).cell))
 have x0:=HK2.out.cell
 go_wp2_with (first
  | (go_at_call 28;((with_reducible refine HR.out.mono ?_);rintro e w3 ⟨rfl,h1⟩;have H3:=Lib.hid (HM.out w3 h1);have y0:=HK3.out w3 h1;clear h1))
  | (go_at_call 28;((with_reducible refine H3.out.2.mono ?_);rintro e w4 ⟨rfl,h1⟩;have H4:=Lib.hid (H3.out.1.trans (h1.mono H3.out.1.size));clear h1)))
 go_ret
 exact ⟨rfl,H4.out⟩
def SetR (w:World) (n:Nat) (shs:List Sv) (t:ByteArray) (o:Option (Nat × Nat × Nat)) (e:Ending) (w':World):Prop :=
 match o with
 | none=>e = .returned (.tuple #[.agg #[.slice none 0 0],.int .i64 2])
 | some (i,r,c)=>∃ A' sv,e = .returned (.tuple #[.agg #[.slice A' n n],.int .i64 0])∧pgs sv=setP (pgs shs) i r c t∧BkO w' A' n n sv w.heap.size w'.heap.size
set_option maxRecDepth 100000 in
set_option maxHeartbeats 8000000 in
theorem set_any (w:World) (A:Option Addr) (n cap:Nat) (shs:List Sv) (nm:ByteArray) (row col:Int) (t:ByteArray) (o:Option (Nat × Sv × Nat × Rv × Nat)) (h:BkR w w.heap.size (.slice A n cap) shs) (hz:SzB shs) (ho:SpotR shs nm row col o)
 (hmay:∀ w1,Below w.heap.size w w1→Calls Tryz.prog 11 #[.agg #[.slice A n cap]] w1 fun e w'=>e = .returned (.bool true)∧Below w1.heap.size w1 w')
 (htext:∀ w1,Below w.heap.size w w1→Calls Tryz.prog 20 #[.string t] w1 fun e w'=>e = .returned (.bool true)∧Below w1.heap.size w1 w') :
 Calls Tryz.prog 8 #[.agg #[.slice A n cap],.agg #[.string nm,.int .i64 row,.int .i64 col],.string t] w fun e w'=>Below w.heap.size w w'∧SetR w n shs t (idO o) e w':=by
 obtain ⟨w1,hw1,hb,hbk,hsp,hz0,hsz⟩:=three_blocks w (.slice A n cap) nm row col
 have hn:n≤1000000:=by have h1:=hz.1;have h2:=h.1.len.1;omega
 have HB:=Lib.hid hb;have HBK:=Lib.hid hbk;have HSP:=Lib.hid hsp;have HZ0:=Lib.hid (show BkAt w1 (w.heap.size+1+1) (.slice none 0 0) from hz0);have HSZ:=Lib.hid hsz
 have HMAY:=Lib.hid hmay;have HTEXT:=Lib.hid htext;have HO:=Lib.hid ho
 have HCOPY:=Lib.hid (fun (wq:World) (hq:Below w.heap.size w wq)=>copy_any wq A n cap shs (h.lift hq) hz)
 clear h hz hb hbk hsp hz0 hsz hmay htext ho
 go_enter Tryz.func8,Tryz.ntmps8
 go_upto_region 1 with (fail)
 clear hw1
 have x0:=HBK.out.cell
 go_upto_region 3 with (first
  | (go_at_call 11;((with_reducible refine (HMAY.out _ HB.out).mono ?_);rintro e w2 ⟨rfl,h1⟩;have H2:=Lib.hid h1;have HB2:=Lib.hid (HB.out.trans (h1.mono HB.out.size));clear h1))
  | (go_at_call 20;((with_reducible refine (HTEXT.out _ HB2.out).mono ?_);rintro e w3 ⟨rfl,h1⟩;have H3:=Lib.hid (H2.out.trans (h1.mono H2.out.size));have HB3:=Lib.hid (HB2.out.trans (h1.mono HB2.out.size));clear h1)))
 clear x0
 have x0:=(HBK.out.over H3.out).cell
 go_upto_region 4 with (first
  | (go_at_call 19;((with_reducible refine (HCOPY.out _ HB3.out).mono ?_);rintro e w4 ⟨h1,A2,sv,rfl,hm,h2⟩;have H4:=Lib.hid (H3.out.trans (h1.mono H3.out.size));have HB4:=Lib.hid (HB3.out.trans (h1.mono HB3.out.size));have HM:=Lib.hid hm;have HN:=Lib.hid h2;have HS34:=Lib.hid (HB3.out.size);have HS3:=Lib.hid (H3.out.size);have y0:=(HBK.out.over H4.out).cell;have m0:=(HBK.out.over H4.out).melt;clear h1 h2 hm)))
 clear x0 y0 m0
 have hq1:w.heap.size+3≤w3.heap.size:=by have:=HS3.out;have:=HSZ.out;omega
 have HBK5:=Lib.hid ((HBK.out.over H4.out).put (.slice A2 n n))
 have HSP5:=Lib.hid (show SpAt (w4.setCell ⟨w.heap.size,0,none⟩ (.slice A2 n n)) (w.heap.size+1) nm row col from by
  unfold SpAt;rw [heap_setCell_other w4 _ _ _ (by show w.heap.size+1≠w.heap.size;omega)];exact HSP.out.over H4.out)
 have HZ5:=Lib.hid ((HZ0.out.over H4.out).other ⟨w.heap.size,0,none⟩ (.slice A2 n n) (by show w.heap.size+1+1≠w.heap.size;omega))
 have HN5:=Lib.hid (HN.out.keep (w':=w4.setCell ⟨w.heap.size,0,none⟩ (.slice A2 n n)) fun g h1 _=>heap_setCell_other w4 _ g _ (by show g≠w.heap.size;omega))
 have HS5:=Lib.hid (World.size_setCell w4 ⟨w.heap.size,0,none⟩ (.slice A2 n n))
 have HB5:=Lib.hid (HB4.out.setCell (p:=⟨w.heap.size,0,none⟩) (Nat.le_refl _) (.slice A2 n n))
 obtain ⟨w5,hw5⟩:∃ w5,w4.setCell ⟨w.heap.size,0,none⟩ (.slice A2 n n)=w5:=⟨_,rfl⟩
 rw [hw5] at HBK5 HSP5 HZ5 HN5 HS5 HB5 ⊢
 clear hw5
 rw [← HS5.out] at HN5
 obtain ⟨o',ho',hid,_⟩:=spot_pgs HM.out HO.out
 have HAT:=Lib.hid (at_any w5 A2 n n sv nm row col o' (HN5.out.bkR (Nat.le_refl _)) hn ho')
 have x0:=HBK5.out.cell
 obtain ⟨s0,s1,s2⟩:=HSP5.out.cells
 have HO2:=Lib.hid ho'
 have HID:=Lib.hid hid
 clear hid ho'
 cases o' with
 | none =>
   have m0:=HZ5.out.melt
   go_upto_region 5 with (first
    | (go_at_call 21;((with_reducible refine HAT.out.mono ?_);rintro e w6 ⟨⟨v,rfl,hv⟩,h1⟩;obtain rfl:v = .pointer none:=hv;have H6:=Lib.hid h1;clear h1)))
   clear x0 s0 s1 s2 m0
   have HZ6:=Lib.hid (HZ5.out.over H6.out)
   have HB6:=Lib.hid (HB5.out.trans (H6.out.mono HB5.out.size))
   have m0:=HZ6.out.melt
   have z0:=HZ6.out.cell
   go_wp2_with fail
   exact bodyPost_ret (out_bkn (HZ6.out.put (.slice none 0 0)) _ _ (.int .i64 2) 6 7 res_set rfl rfl) rfl ⟨HB6.out.setCell (by show w.heap.size≤w.heap.size+1+1;omega) _,by rw [← HID.out];rfl⟩
 | some p =>
   obtain ⟨i,s,r,rv,c⟩:=p
   obtain ⟨hf,hr1,hr2,hc1,hc2⟩:=HO2.out
   have HPG:=Lib.hid (put_pgs (c:=c) t hf.1 hr2)
   obtain ⟨g,hA,hg1,hg2,hce,hfr,hput⟩:=HN5.out.cell hf.1 hr2 hc2
   have HPUT:=Lib.hid hput;have HCE:=Lib.hid hce;have HFR:=Lib.hid hfr;have HA:=Lib.hid hA
   clear hput hce hfr hA hf hr1 hr2 hc1 hc2
   go_upto_region 5 with (first
    | (go_at_call 21;((with_reducible refine HAT.out.mono ?_);rintro e w6 ⟨⟨v,rfl,hv⟩,h1⟩;obtain ⟨pb,po,ha,rfl,_,_⟩:=hv;rw [HA.out] at ha;injection ha with ha;injection ha with ha1 ha2;subst ha1;subst ha2;rw [Nat.zero_add];have H6:=Lib.hid h1;clear h1)))
   clear x0 s0 s1 s2
   have hgq:w.heap.size+3≤g:=by omega
   have hg5:g<w5.heap.size:=hg2
   have HB6:=Lib.hid (HB5.out.trans (H6.out.mono HB5.out.size))
   have c0:w6.cell? ⟨g,c,none⟩=some (.string (rv.l.getD c ⟨#[]⟩)):=(H6.out.cell (p:=⟨g,c,none⟩) hg5).trans HCE.out
   have HP6:=Lib.hid (HN5.out.keep (w':=w6) fun y _ h2=>H6.out.block y h2)
   have hfr:=(HP6.out.cell HO2.out.1.1 HO2.out.2.2.1 HO2.out.2.2.2.2)
   obtain ⟨g',hA',_,_,_,m0,hput⟩:=hfr
   obtain rfl:g=g':=by have h1:=HA.out;rw [h1] at hA';injection hA' with h2;injection h2
   have HPUT6:=Lib.hid (hput t)
   clear hput hA'
   go_upto_region 8 with (fail)
   clear c0 m0
   have HBK7:=Lib.hid ((HBK5.out.over H6.out).other ⟨g,c,none⟩ (.string t) (by show w.heap.size≠g;omega))
   have HZ7:=Lib.hid ((HZ5.out.over H6.out).other ⟨g,c,none⟩ (.string t) (by show w.heap.size+1+1≠g;omega))
   have HB7:=Lib.hid (HB6.out.setCell (p:=⟨g,c,none⟩) (by show w.heap.size≤g;omega) (.string t))
   have HS7:=Lib.hid (World.size_setCell w6 ⟨g,c,none⟩ (.string t))
   obtain ⟨w7,hw7⟩:∃ w7,w6.setCell ⟨g,c,none⟩ (.string t)=w7:=⟨_,rfl⟩
   rw [hw7] at HPUT6 HBK7 HZ7 HB7 HS7 ⊢
   clear hw7
   have x0:=HBK7.out.cell
   have z0:=HZ7.out.cell
   have m0:=HZ7.out.melt
   go_wp2_with fail
   refine bodyPost_ret (out_bkn (HZ7.out.put (.slice A2 n n)) _ _ (.int .i64 0) 6 7 res_set rfl rfl) rfl ⟨HB7.out.setCell (by show w.heap.size≤w.heap.size+1+1;omega) _, ?_⟩
   rw [← HID.out]
   refine ⟨A2,sv.set i (s.put r c rv t),rfl, ?_, ?_⟩
   · exact HPG.out.trans (by rw [HM.out])
   · rw [World.size_setCell,HS7.out]
     exact (HPUT6.out.keep fun y h1 _=>heap_setCell_other w7 _ y _ (by show y≠w.heap.size+1+1;omega)).up (by omega) H6.out.size
theorem less_letters (a b:Int) (ha:65≤a) (hab:a<b) (hb:b≤73):Op.bytesLess (strOfNums [a]).toList (strOfNums [b]).toList=true:=by
 obtain ⟨i,rfl⟩:∃ i:Nat,a=65+(i:Int):=⟨(a - 65).toNat,by omega⟩
 obtain ⟨j,rfl⟩:∃ j:Nat,b=65+(j:Int):=⟨(b - 65).toNat,by omega⟩
 have key:∀ i:Nat,i<9→∀ j:Nat,j<9→i<j→Op.bytesLess (strOfNums [65+(i:Int)]).toList (strOfNums [65+(j:Int)]).toList=true:=by decide +kernel
 exact key i (by omega) j (by omega) (by omega)
theorem less_none (a:Int):Op.bytesLess (⟨#[]⟩:ByteArray).toList (strOfNums [a]).toList=true:=by
 rw [list_bytes,list_bytes];rfl
theorem rise_of:∀ (shs:List Sv) (last:ByteArray) (m i:Nat),m<256→i+shs.length≤3→(∀ k (s:Sv),shs[k]? = some s→s.nm=nmB m (i+k))→(∀ s:Sv,shs[0]? = some s→Op.bytesLess last.toList s.nm.toList=true)→Rise last shs
 | [],_,_,_,_,_,_,_=>trivial
 | s :: l,last,m,i,hm,hi,hn,h0=>by
   rw [List.length_cons] at hi
   refine ⟨h0 s rfl,rise_of l s.nm m (i+1) hm (by omega) (fun k t ht=>by rw [hn (k+1) t (by simpa using ht)];congr 1;omega) fun t ht => ?_⟩
   have h1:s.nm=nmB m i:=hn 0 s rfl
   have h2:t.nm=nmB m (i+1):=hn 1 t (by simpa using ht)
   have hl:1≤l.length:=by
    cases l with
    | nil=>cases ht
    | cons _ _=>simp
   rw [h1,h2]
   unfold nmB
   have b1:=lt_bd m i hm (by omega)
   have b2:=lt_bd m (i+1) hm (by omega)
   exact less_letters _ _ b1.1 (lt_up m i (i+1) (by omega)) b2.2
theorem bookS_at (xs:List Int) (m i:Nat) (hi:i<nS m):(bookS xs m)[i]? = some (shS xs m i (nR m) (nC m)):=by
 unfold bookS
 rw [List.getElem?_map,List.getElem?_range hi];rfl
theorem sheet_of {shs:List Sv} {xs:List Int} {m:Nat} (h:pgs shs=bookS xs m) {k:Nat} {s:Sv} (hs:shs[k]? = some s):k<nS m∧s.p=shS xs m k (nR m) (nC m):=by
 have h1:(pgs shs)[k]? = some s.p:=map_at hs
 rw [h] at h1
 have hk:k<nS m:=by have:=(List.getElem?_eq_some_iff.1 h1).1;rwa [length_bookS] at this
 rw [bookS_at xs m k hk] at h1
 exact ⟨hk,(Option.some.inj h1).symm⟩
theorem bookS_ok {shs:List Sv} {xs:List Int} {m:Nat} (hm:m<256) (hb:Bytes xs) (h:pgs shs=bookS xs m):BkOk shs∧(∀ s∈shs,∀ r∈s.rows,∀ x∈r.l,MayT x)∧shs.length=nS m:=by
 have hln:shs.length=nS m:=by have h:=congrArg List.length h;unfold pgs at h;rwa [List.length_map,length_bookS] at h
 have hS:=nS_le m;have hC:=nC_le m;have hR:=nR_le m
 have hall:∀ s∈shs,∃ k,k<nS m∧s.p=shS xs m k (nR m) (nC m):=fun s hs=>by
  obtain ⟨k,hk⟩:=List.getElem?_of_mem hs
  exact ⟨k,sheet_of h hk⟩
 refine ⟨⟨by omega, ?_,fun s hs => ?_⟩,fun s hs r hr x hx => ?_,hln⟩
 · refine rise_of shs _ m 0 hm (by omega) (fun k s hk=>by rw [Nat.zero_add];exact congrArg Shp.nm (sheet_of h hk).2) fun s hs => ?_
   rw [show s.nm=nmB m 0 from congrArg Shp.nm (sheet_of h hs).2]
   exact less_none _
 · obtain ⟨k,hk,hp⟩:=hall s hs
   have e1:s.nm=nmB m k:=congrArg Shp.nm hp
   have e2:s.cols=(nC m:Int):=congrArg Shp.cols hp
   have e3:lns s.rows=rowsS xs (nR m) (nC m) (k*(nR m*nC m)):=congrArg Shp.rows hp
   have hb:=lt_bd m k hm (by omega)
   have hrl:s.rows.length=nR m:=by have h:=congrArg List.length e3;unfold lns at h;rwa [List.length_map,length_rowsS] at h
   refine ⟨?_, ?_,by omega,by omega,by omega,fun r hr => ?_⟩
   · rw [e1];unfold nmB
     rw [sb_str _ (fun x hx=>by rw [List.mem_singleton.1 hx];omega)]
     exact name_one _ hb.1 (by omega)
   · rw [e1];unfold nmB;rw [strOfNums_size];show 1≤1000;omega
   · have h1:r.l∈lns s.rows:=List.mem_map_of_mem hr
     rw [e3] at h1
     unfold rowsS at h1
     obtain ⟨j,_,h2⟩:=List.mem_map.1 h1
     rw [← h2,length_rowS,e2]
 · obtain ⟨k,hk,hp⟩:=hall s hs
   have e3:lns s.rows=rowsS xs (nR m) (nC m) (k*(nR m*nC m)):=congrArg Shp.rows hp
   have h1:r.l∈lns s.rows:=List.mem_map_of_mem hr
   rw [e3] at h1
   unfold rowsS at h1
   obtain ⟨j,_,h2⟩:=List.mem_map.1 h1
   rw [← h2] at hx
   unfold rowS at hx
   obtain ⟨c,_,h3⟩:=List.mem_map.1 hx
   rw [← h3];exact cellS_may xs hb _
theorem texts_may {w:World} {shs:List Sv} (hx:Cx w) (h:∀ s∈shs,∀ r∈s.rows,∀ x∈r.l,MayT x):∀ s∈shs,∀ r∈s.rows,∀ x∈r.l,∀ w1,Below w.heap.size w w1→Calls Tryz.prog 20 #[.string x] w1 fun e w'=>e = .returned (.bool true)∧Below w1.heap.size w1 w' :=
 fun s hs r hr x hxx w1 h1=>mayc_any x (h s hs r hr x hxx).1 w1 (hx.below h1)
theorem set_at {α : Type} {l:List α} {i j:Nat} {x y : α} (h:(l.set i x)[j]? = some y) (hi:i<l.length):(j=i∧y=x)∨(j≠i∧l[j]? = some y):=by
 rw [List.getElem?_set] at h
 by_cases e:i=j
 · subst e
   rw [if_pos rfl,if_pos hi] at h
   exact .inl ⟨rfl,(Option.some.inj h).symm⟩
 · rw [if_neg e] at h
   exact .inr ⟨fun e2=>e e2.symm,h⟩
theorem at_set {α : Type} {l:List α} {i j:Nat} {x y : α} (h:l[j]? = some y) (hi:i<l.length):(l.set i x)[j]? = some (if j=i then x else y):=by
 rw [List.getElem?_set]
 by_cases e:i=j
 · subst e;rw [if_pos rfl,if_pos hi,if_pos rfl]
 · rw [if_neg e,if_neg (fun e2=>e e2.symm),h]
theorem spot_put {shs:List Sv} {i r c:Nat} {s:Sv} {rv:Rv} (t:ByteArray) (hs:shs[i]? = some s) (hr:s.rows[r]? = some rv) {nm:ByteArray} {row col:Int} {o:Option (Nat × Sv × Nat × Rv × Nat)} (ho:SpotR shs nm row col o) :
 ∃ o',SpotR (shs.set i (s.put r c rv t)) nm row col o'∧idO o'=idO o∧txO o'=if idO o=some (i,r,c) then t else txO o:=by
 have hil:=(List.getElem?_eq_some_iff.1 hs).1
 have hrl:=(List.getElem?_eq_some_iff.1 hr).1
 have hfirst:∀ j u,First shs nm j u→First (shs.set i (s.put r c rv t)) nm j (if j=i then s.put r c rv t else u):=fun j u hf=>by
  refine ⟨at_set hf.1 hil, ?_,fun k v hk hv => ?_⟩
  · by_cases e:j=i
    · subst e
      have h1:=hf.1
      rw [hs] at h1
      rw [if_pos rfl]
      obtain rfl:=Option.some.inj h1
      exact hf.2.1
    · rw [if_neg e];exact hf.2.1
  · rcases set_at hv hil with ⟨rfl,rfl⟩ | ⟨_,h2⟩
    · exact hf.2.2 k s hk hs
    · exact hf.2.2 k v hk h2
 cases o with
 | none =>
   refine ⟨none, ?_,rfl,rfl⟩
   rcases ho with ho | ⟨j,u,hf,ho⟩
   · refine .inl fun k v hv => ?_
     rcases set_at hv hil with ⟨rfl,rfl⟩ | ⟨_,h2⟩
     · exact ho k s hs
     · exact ho k v h2
   · refine .inr ⟨j,_,hfirst j u hf, ?_⟩
     by_cases e:j=i
     · subst e
       have h1:=hf.1
       rw [hs] at h1
       obtain rfl:=Option.some.inj h1
       rw [if_pos rfl]
       have hlen:(s.put r c rv t).rows.length=s.rows.length:=List.length_set
       rcases ho with ho | ⟨r2,rv2,e1,e2,e3⟩
       · exact .inl (by rw [hlen];exact ho)
       · refine .inr ⟨r2,_,e1,at_set e2 hrl, ?_⟩
         by_cases er:r2=r
         · subst er
           rw [hr] at e2
           obtain rfl:=Option.some.inj e2
           rw [if_pos rfl]
           show ¬ (0≤col∧col<((rv.l.set c t).length:Int))
           rw [List.length_set];exact e3
         · rw [if_neg er];exact e3
     · rw [if_neg e];exact ho
 | some p =>
   obtain ⟨j,u,r2,rv2,c2⟩:=p
   obtain ⟨hf,e1,e2,e3,e4⟩:=ho
   by_cases e:j=i
   · subst e
     have h1:=hf.1
     rw [hs] at h1
     obtain rfl:=Option.some.inj h1
     have hf2:=hfirst j s hf
     rw [if_pos rfl] at hf2
     by_cases er:r2=r
     · subst er
       rw [hr] at e2
       obtain rfl:=Option.some.inj e2
       have h2:=at_set (x:=rv.put c t) hr hrl
       rw [if_pos rfl] at h2
       refine ⟨some (j,_,r2,rv.put c t,c2),⟨hf2,e1,h2,e3,by show c2<(rv.l.set c t).length;rw [List.length_set];exact e4⟩,rfl, ?_⟩
       show (rv.l.set c t).getD c2 _=if some (j,r2,c2)=some (j,r2,c) then t else rv.l.getD c2 _
       rw [List.getD_eq_getElem?_getD,List.getElem?_set,List.getD_eq_getElem?_getD]
       by_cases ec:c=c2
       · subst ec
         rw [if_pos rfl,if_pos e4,if_pos rfl];rfl
       · rw [if_neg ec,if_neg (fun h=>ec (by injection h with h;injection h with _ h;injection h with _ h;exact h.symm))]
     · have h2:=at_set (x:=rv.put c t) e2 hrl
       rw [if_neg er] at h2
       refine ⟨some (j,_,r2,rv2,c2),⟨hf2,e1,h2,e3,e4⟩,rfl, ?_⟩
       rw [if_neg (fun h=>er (by injection h with h;injection h with _ h;injection h with h _))];rfl
   · have hf2:=hfirst j u hf
     rw [if_neg e] at hf2
     refine ⟨some (j,u,r2,rv2,c2),⟨hf2,e1,e2,e3,e4⟩,rfl, ?_⟩
     rw [if_neg (fun h=>e (by injection h with h;injection h with h _))]
theorem nmB_inj {m i j:Nat} (hm:m<256) (hi:i<3) (hj:j<3) (h:nmB m i=nmB m j):i=j:=by
 have hbi:=lt_bd m i hm hi
 have hbj:=lt_bd m j hm hj
 have h1:=congrArg sb h
 unfold nmB at h1
 rw [sb_str _ (fun x hx=>by rw [List.mem_singleton.1 hx];omega),sb_str _ (fun x hx=>by rw [List.mem_singleton.1 hx];omega)] at h1
 injection h1 with h1 _
 rcases Nat.lt_trichotomy i j with h2 | h2 | h2
 · have:=lt_up m i j h2;omega
 · exact h2
 · have:=lt_up m j i h2;omega
theorem spot_of {shs:List Sv} {xs:List Int} {m:Nat} (hm:m<256) (h:pgs shs=bookS xs m) {i r c:Nat} (hi:i<nS m) (hr:r<nR m) (hc:c<nC m) :
 ∃ s rv,SpotR shs (nmB m i) r c (some (i,s,r,rv,c))∧s.p=shS xs m i (nR m) (nC m)∧rv.l=rowS xs (nC m) (i*(nR m*nC m)+r*nC m):=by
 have hS:=nS_le m
 have hln:shs.length=nS m:=by have h:=congrArg List.length h;unfold pgs at h;rwa [List.length_map,length_bookS] at h
 obtain ⟨s,hs⟩:∃ s,shs[i]? = some s:=⟨_,List.getElem?_eq_getElem (by omega)⟩
 obtain ⟨_,hp⟩:=sheet_of h hs
 have e3:lns s.rows=rowsS xs (nR m) (nC m) (i*(nR m*nC m)):=congrArg Shp.rows hp
 have hrl:s.rows.length=nR m:=by have h:=congrArg List.length e3;unfold lns at h;rwa [List.length_map,length_rowsS] at h
 obtain ⟨rv,hrv⟩:∃ rv,s.rows[r]? = some rv:=⟨_,List.getElem?_eq_getElem (by omega)⟩
 have h1:(lns s.rows)[r]? = some rv.l:=map_at hrv
 rw [e3] at h1
 unfold rowsS at h1
 rw [List.getElem?_map,List.getElem?_range hr] at h1
 have h2:rv.l=rowS xs (nC m) (i*(nR m*nC m)+r*nC m):=(Option.some.inj h1).symm
 refine ⟨s,rv,⟨⟨hs,congrArg Shp.nm hp,fun j t hj ht => ?_⟩,rfl,hrv,rfl,by rw [h2,length_rowS];exact hc⟩,hp,h2⟩
 obtain ⟨hjn,hq⟩:=sheet_of h ht
 rw [show t.nm=nmB m j from congrArg Shp.nm hq]
 intro e
 have:=nmB_inj hm (by omega) (by omega) e
 omega
theorem s8_one (w:World) (x:Int) (h0:0≤x) (h1:x≤255):S8 (w.alloc (.cells #[.int .u8 x] 5)) (w.alloc (.cells #[.int .u8 x] 5)).heap.size (some ⟨w.heap.size,0,none⟩) 1 1 [x] :=
 ⟨rfl,Nat.le_refl _,by unfold maxLen;omega,fun y hy=>by rw [List.mem_singleton.1 hy];exact ⟨h0,h1⟩,.inr ⟨w.heap.size,0,rfl,by rw [World.size_alloc];omega,fun j hj=>by
  obtain rfl:j=0:=by omega
  have:=cells_new (w:=w) #[.int .u8 x] 5 [.int .u8 x] rfl 0 _ rfl
  rwa [Addr.add_mid] at this⟩⟩
theorem norm_7:NormR ⟨#[55]⟩ ⟨#[55]⟩ 0:=by
 have:=kept_norm [55] (fun x hx=>by rw [List.mem_singleton.1 hx];omega) (by decide) (by decide)
 rwa [show strOfNums [55]=(⟨#[55]⟩:ByteArray) from by decide] at this
theorem nm_A:nmB 0 0=⟨#[65]⟩:=by decide
set_option maxRecDepth 100000 in
set_option maxHeartbeats 8000000 in
theorem awake10_any (w:World) (hx:Cx w):Calls Tryz.prog 6 #[] w fun e w'=>e = .returned (.bool true)∧Below w.heap.size w w':=by
 have HX:=Lib.hid hx
 have HBA:=Lib.hid ((Below.refl w.heap.size w).alloc (Nat.le_refl _) (.cells #[.int .u8 3] 5))
 have HBK:=Lib.hid (show Calls Tryz.prog 7 #[.slice (some ⟨w.heap.size,0,none⟩) 1 1,.int .u8 0] (w.alloc (.cells #[.int .u8 3] 5)) fun e w'=>Below (w.alloc (.cells #[.int .u8 3] 5)).heap.size (w.alloc (.cells #[.int .u8 3] 5)) w'∧∃ A' c' shs,e = .returned (.agg #[.slice A' 1 c'])∧pgs shs=bookS [3] 0∧BkR w' w'.heap.size (.slice A' 1 c') shs from
  book_any _ _ 1 1 [3] (s8_one w 3 (by omega) (by omega)) (by omega) 0 (by omega))
 have HSET:=Lib.hid (fun (w2:World) (hw:Below w.heap.size w w2) (A':Option Addr) (c':Nat) (shs:List Sv) (hp:pgs shs=bookS [3] 0) (hr:BkR w2 w2.heap.size (.slice A' 1 c') shs) =>
  (show Calls Tryz.prog 8 #[.agg #[.slice A' 1 c'],.agg #[.string ⟨#[65]⟩,.int .i64 0,.int .i64 0],.string ⟨#[55]⟩] w2 fun e w'=>Below w2.heap.size w2 w'∧∃ A2 sv,e = .returned (.tuple #[.agg #[.slice A2 1 1],.int .i64 0])∧BkR w' w'.heap.size (.slice A2 1 1) sv∧∃ o,SpotR sv ⟨#[65]⟩ 0 0 o∧txO o=⟨#[55]⟩ from by
    obtain ⟨hok,htx,hln⟩:=bookS_ok (m:=0) (by omega) (fun x hx=>by rw [List.mem_singleton.1 hx];omega) hp
    obtain ⟨s,rv,hsp,hsn,hrl⟩:=spot_of (m:=0) (by omega) hp (i:=0) (r:=0) (c:=0) (by decide) (by decide) (by decide)
    rw [nm_A] at hsp
    refine (set_any w2 A' 1 c' shs ⟨#[65]⟩ 0 0 ⟨#[55]⟩ _ hr hok.sz hsp (fun w3 h3=>mayB_any w3 A' 1 c' shs (hr.lift h3) hok (texts_may ((hx.below hw).below h3) htx)) (fun w3 h3=>mayc_any _ norm_7 w3 ((hx.below hw).below h3))).mono ?_
    rintro e w' ⟨hb,A2,sv,he,hpg,hbo⟩
    refine ⟨hb,A2,sv,he,hbo.bkR (Nat.le_refl _), ?_⟩
    obtain ⟨o1,k1,k2,k3⟩:=spot_put ⟨#[55]⟩ hsp.1.1 hsp.2.2.1 hsp (c:=0)
    rw [← put_pgs (c:=0) ⟨#[55]⟩ hsp.1.1 hsp.2.2.1] at hpg
    obtain ⟨o2,j1,_,j3⟩:=spot_pgs hpg k1
    exact ⟨o2,j1,by rw [j3,k3];rfl⟩))
 have HG0:=Lib.hid (fun (w2:World)=>show Calls Tryz.prog 12 #[.agg #[.slice none 0 0],.agg #[.string ⟨#[65]⟩,.int .i64 0,.int .i64 0]] w2 fun e w'=>e = .returned (.string ⟨#[]⟩)∧Below w2.heap.size w2 w' from get_any w2 none 0 0 [] ⟨#[65]⟩ 0 0 none (BkR.nil w2 _) (by omega) (.inl fun j t ht=>by simp at ht))
 clear hx
 go_enter Tryz.func6,Tryz.ntmps6
 go_upto_region 2 with (first
  | (go_at_call 7;((with_reducible refine HBK.out.mono ?_);rintro e w2 ⟨h1,A1,c1,shs,rfl,hp,hr⟩;have H2:=Lib.hid (HBA.out.trans (h1.mono HBA.out.size));have HP:=Lib.hid hp;have HR:=Lib.hid hr;clear h1 hp hr))
  | (go_at_call 8;((with_reducible refine (HSET.out w2 H2.out A1 c1 shs HP.out HR.out).mono ?_);rintro e w3 ⟨h1,A2,sv,rfl,hr,ho⟩;have H3:=Lib.hid (H2.out.trans (h1.mono H2.out.size));have HR3:=Lib.hid hr;have HO3:=Lib.hid ho;clear h1 hr ho)))
 have HB4:=Lib.hid (below_bk w3 (.slice A2 1 1))
 have HK4:=Lib.hid (BkAt.new w3 (.slice A2 1 1))
 obtain ⟨w4,hw4⟩:∃ w4,w3.alloc (.cells #[.slice A2 1 1] 26)=w4:=⟨_,rfl⟩
 rw [hw4] at HB4 HK4 ⊢
 clear hw4
 have H4:=Lib.hid (H3.out.trans (HB4.out.mono H3.out.size))
 have HR4:=Lib.hid (HR3.out.lift HB4.out)
 obtain ⟨o,ho,htx⟩:=HO3.out
 have HGET:=Lib.hid (fun (w5:World) (h5:Below w4.heap.size w4 w5)=>(show Calls Tryz.prog 12 #[.agg #[.slice A2 1 1],.agg #[.string ⟨#[65]⟩,.int .i64 0,.int .i64 0]] w5 fun e w'=>e = .returned (.string ⟨#[55]⟩)∧Below w5.heap.size w5 w' from htx ▸ get_any w5 A2 1 1 sv ⟨#[65]⟩ 0 0 o (HR4.out.lift h5) (by omega) ho))
 clear ho htx
 have x0:=HK4.out.cell
 go_wp2_with (first
  | (go_at_call 12;((with_reducible refine (HG0.out _).mono ?_);rintro e w5 ⟨rfl,h1⟩;have H5:=Lib.hid h1;have y0:=(HK4.out.over h1).cell;clear h1))
  | (go_at_call 12;((with_reducible refine (HGET.out _ H5.out).mono ?_);rintro e w6 ⟨rfl,h1⟩;have H6:=Lib.hid (H4.out.trans ((H5.out.trans (h1.mono H5.out.size)).mono H4.out.size));clear h1))
  | (go_at_call 15;((with_reducible refine (num_is _ _).mono ?_);rintro e wn ⟨rfl,rfl⟩)))
 go_ret
 exact ⟨rfl,H6.out⟩
set_option maxRecDepth 100000 in
set_option maxHeartbeats 4000000 in
theorem refSameSheet_any (w:World) (a b:Sv) (h1:RowsR w w.heap.size (.slice a.A a.rows.length a.cap) a.rows) (h2:RowsR w w.heap.size (.slice b.A b.rows.length b.cap) b.rows) :
 Calls Tryz.prog 31 #[.agg #[.string a.nm,.int .i64 a.cols,.slice a.A a.rows.length a.cap],.agg #[.string b.nm,.int .i64 b.cols,.slice b.A b.rows.length b.cap]] w fun e w'=>e = .returned (.bool (decide (a.p=b.p)))∧Below w.heap.size w w':=by
 obtain ⟨w2,hw2,hb,hs1,hs2,hsz⟩:=two_sheets w a.nm b.nm a.cols b.cols (.slice a.A a.rows.length a.cap) (.slice b.A b.rows.length b.cap)
 have htl:=tl_eq a.nm b.nm
 have HB:=Lib.hid hb;have HS1:=Lib.hid hs1;have HS2:=Lib.hid hs2
 have HX:=Lib.hid (h1.lift hb);have HY:=Lib.hid (h2.lift hb)
 have hmx:a.rows.length≤9223372036854775807:=by have:=h1.1.len.2;unfold maxLen at this;omega
 clear h1 h2 hb hs1 hs2
 obtain ⟨n,hn⟩:∃ n,a.rows.length=n:=⟨_,rfl⟩
 obtain ⟨m,hm⟩:∃ m,b.rows.length=m:=⟨_,rfl⟩
 have hq2:w.heap.size<w2.heap.size:=by omega
 have hq3:w.heap.size+1<w2.heap.size:=by omega
 have hlx:(lns a.rows).length=n:=by unfold lns;rw [List.length_map];exact hn
 have hly:(lns b.rows).length=m:=by unfold lns;rw [List.length_map];exact hm
 have HLX:=Lib.hid hlx;have HLY:=Lib.hid hly
 rw [hn] at hw2 HS1 HX hmx ⊢;rw [hm] at hw2 HS2 HY ⊢
 have HN:=Lib.hid hn;have HM:=Lib.hid hm
 clear hn hm hsz hlx hly
 by_cases e1:a.nm=b.nm
 · rw [decide_eq_true e1] at htl
   have HE1:=Lib.hid e1
   clear e1
   by_cases e2:a.cols=b.cols
   · have HE2 := Lib.hid e2
     clear e2
     by_cases hnm:n=m
     · subst hnm
       go_enter Tryz.func31,Tryz.ntmps31
       go_upto_region 1 with (fail)
       clear hw2
       have e2b:(a.cols == b.cols)=true:=beq_iff_eq.2 HE2.out
       obtain ⟨x0,x1,x2⟩:=HS1.out.cells
       obtain ⟨y0,y1,y2⟩:=HS2.out.cells
       go_upto_region 4 with (fail)
       clear x0 x1 x2 y0 y1 y2 e2b
       go_loopw [5] (fun iv wr=>∃ i:Nat,i≤n∧iv = .int .i64 (i:Int)∧Hid (∀ j,j<i→(lns a.rows)[j]? = (lns b.rows)[j]?)∧Hid (Below w2.heap.size w2 wr))
        (fun iv _=>n - (intOf iv).toNat)
       case atStart=>exact ⟨0,Nat.zero_le _,rfl,Lib.hid (fun j h=>by omega),Lib.hid (Below.refl _ _)⟩
       case round =>
        obtain ⟨i,hi,rfl,HT,HR⟩:=hrel
        have b0:=(HS1.out.over HR.out).cells.2.2
        have b1:=(HS2.out.over HR.out).cells.2.2
        by_cases hlt:i<n
        · have hii:(i:Int)<(n:Int):=by omega
          have hi0:(0:Int)≤(i:Int):=by omega
          obtain ⟨x,hx⟩:∃ x,a.rows[i]? = some x:=⟨_,List.getElem?_eq_getElem (by rw [HN.out];exact hlt)⟩
          obtain ⟨y,hy⟩:∃ y,b.rows[i]? = some y:=⟨_,List.getElem?_eq_getElem (by rw [HM.out];exact hlt)⟩
          obtain ⟨pb,po,ea,hpb,e0,hrx⟩:=row_at HX.out hx
          obtain ⟨qb,qo,eb,hqb,f0,hry⟩:=row_at HY.out hy
          have x0:wr.cell? ⟨pb,po+i,none⟩=some (.slice x.A x.l.length x.cap):=(HR.out.cell (p:=⟨pb,po+i,none⟩) hpb).trans e0
          have y0:wr.cell? ⟨qb,qo+i,none⟩=some (.slice y.A y.l.length y.cap):=(HR.out.cell (p:=⟨qb,qo+i,none⟩) hqb).trans f0
          rw [ea] at b0;rw [eb] at b1
          have HX1:=Lib.hid (show (lns a.rows)[i]? = some x.l from map_at hx);have HY1:=Lib.hid (show (lns b.rows)[i]? = some y.l from map_at hy)
          have he:=fun (wq:World) (hb:Below wr.heap.size wr wq)=>refTexts_any wq x.A x.l.length x.cap x.l y.A y.l.length y.cap y.l ((hrx.lift HR.out).lift hb) ((hry.lift HR.out).lift hb)
          have HBD:=Lib.hid (Below.drew (Below.refl wr.heap.size wr))
          have hw2r:w2.heap.size≤wr.heap.size:=HR.out.size
          have HKEEP:=Lib.hid (fun (w':World) (hb:Below wr.heap.size wr w')=>(show w'.cell? ⟨w.heap.size,2,none⟩=some (.slice (some ⟨pb,po,none⟩) n a.cap)∧w'.cell? ⟨w.heap.size+1,2,none⟩=some (.slice (some ⟨qb,qo,none⟩) n b.cap)∧w'.cell? ⟨pb,po+i,none⟩=some (.slice x.A x.l.length x.cap)∧w'.cell? ⟨qb,qo+i,none⟩=some (.slice y.A y.l.length y.cap) from
           ⟨(hb.cell (p:=⟨w.heap.size,2,none⟩) (by show w.heap.size<wr.heap.size;omega)).trans b0,(hb.cell (p:=⟨w.heap.size+1,2,none⟩) (by show w.heap.size+1<wr.heap.size;omega)).trans b1,(hb.cell (p:=⟨pb,po+i,none⟩) (by show pb<wr.heap.size;omega)).trans x0,(hb.cell (p:=⟨qb,qo+i,none⟩) (by show qb<wr.heap.size;omega)).trans y0⟩))
          clear e0 f0 hx hy hrx hry ea eb
          by_cases hxy:x.l=y.l
          · simp only [decide_eq_true hxy] at he
            have HE:=Lib.hid he
            have HF:=Lib.hid (upto_next HX1.out (hxy ▸ HY1.out) HT.out)
            clear he hxy
            go_upto_region 6 with (fail)
            go_region_held3 (fun w'=>w'.cell? ⟨w.heap.size,2,none⟩=some (.slice (some ⟨pb,po,none⟩) n a.cap)∧w'.cell? ⟨w.heap.size+1,2,none⟩=some (.slice (some ⟨qb,qo,none⟩) n b.cap)∧w'.cell? ⟨pb,po+i,none⟩=some (.slice x.A x.l.length x.cap)∧w'.cell? ⟨qb,qo+i,none⟩=some (.slice y.A y.l.length y.cap)) (first | exact ⟨b0,b1,x0,y0⟩ | exact HKEEP.out _ H3.out) (first
             | (go_at_call 50;((with_reducible refine (HE.out _ HBD.out).mono ?_);rintro e w3 ⟨rfl,h1⟩;have H3:=Lib.hid (HBD.out.trans (h1.mono HBD.out.size));clear h1)))
            all_goals go_wp2_with fail
            all_goals go_roundw
            all_goals first
             | exact ⟨i+1,by omega,by go_num,HF,Lib.hid (HR.out.trans (H3.out.mono HR.out.size))⟩
             | (simp [intOf];omega)
          · simp only [decide_eq_false hxy] at he
            have HE:=Lib.hid he
            have HF:=Lib.hid (decide_eq_false (p_ne (.inr (.inr (ne_at HX1.out HY1.out hxy)))))
            clear he hxy
            go_upto_region 6 with (fail)
            go_region_held3 (fun w'=>w'.cell? ⟨w.heap.size,2,none⟩=some (.slice (some ⟨pb,po,none⟩) n a.cap)∧w'.cell? ⟨w.heap.size+1,2,none⟩=some (.slice (some ⟨qb,qo,none⟩) n b.cap)∧w'.cell? ⟨pb,po+i,none⟩=some (.slice x.A x.l.length x.cap)∧w'.cell? ⟨qb,qo+i,none⟩=some (.slice y.A y.l.length y.cap)) (first | exact ⟨b0,b1,x0,y0⟩ | exact HKEEP.out _ H3.out) (first
             | (go_at_call 50;((with_reducible refine (HE.out _ HBD.out).mono ?_);rintro e w3 ⟨rfl,h1⟩;have H3:=Lib.hid (HBD.out.trans (h1.mono HBD.out.size));clear h1)))
            all_goals go_wp2_with fail
            all_goals go_ret
            all_goals exact ⟨ret_bool HF.out.symm,HB.out.trans ((HR.out.trans (H3.out.mono HR.out.size)).mono HB.out.size)⟩
        · have hii:¬ (i:Int)<(n:Int):=by omega
          have HF:=Lib.hid (decide_eq_true (p_eq HE1.out HE2.out (eq_upto HLX.out HLY.out (fun j hj=>HT.out j (by omega)))))
          go_wp2_with fail
          go_ret
          exact ⟨ret_bool HF.out.symm,HB.out.trans (HR.out.mono HB.out.size)⟩
     · have hii:¬ (n:Int)=(m:Int):=by omega
       have hib:((n:Int) == (m:Int))=false:=beq_eq_false_iff_ne.2 hii
       have HF:=Lib.hid (decide_eq_false (p_ne (a:=a) (b:=b) (.inr (.inr (fun e=>hnm (by rw [← HLX.out, ← HLY.out,e]))))))
       clear hnm
       go_enter Tryz.func31,Tryz.ntmps31
       go_upto_region 1 with (fail)
       clear hw2
       have e2b:(a.cols == b.cols)=true:=beq_iff_eq.2 HE2.out
       obtain ⟨x0,x1,x2⟩:=HS1.out.cells
       obtain ⟨y0,y1,y2⟩:=HS2.out.cells
       go_wp2_with fail
       go_ret
       exact ⟨ret_bool HF.out.symm,HB.out⟩
   · have e2b:(a.cols == b.cols)=false:=beq_eq_false_iff_ne.2 e2
     have HF:=Lib.hid (decide_eq_false (p_ne (.inr (.inl e2))))
     go_enter Tryz.func31,Tryz.ntmps31
     go_upto_region 1 with (fail)
     clear hw2
     obtain ⟨x0,x1,x2⟩:=HS1.out.cells
     obtain ⟨y0,y1,y2⟩:=HS2.out.cells
     go_wp2_with fail
     go_ret
     exact ⟨ret_bool HF.out.symm,HB.out⟩
 · rw [decide_eq_false e1] at htl
   have HF:=Lib.hid (decide_eq_false (p_ne (.inl e1)))
   clear e1
   go_enter Tryz.func31,Tryz.ntmps31
   go_upto_region 1 with (fail)
   clear hw2
   obtain ⟨x0,x1,x2⟩:=HS1.out.cells
   obtain ⟨y0,y1,y2⟩:=HS2.out.cells
   go_wp2_with fail
   go_ret
   exact ⟨ret_bool HF.out.symm,HB.out⟩
set_option maxRecDepth 100000 in
set_option maxHeartbeats 8000000 in
theorem refSameBook_any (w:World) (A:Option Addr) (n cap:Nat) (xs:List Sv) (B:Option Addr) (m c:Nat) (ys:List Sv) (h1:BkR w w.heap.size (.slice A n cap) xs) (h2:BkR w w.heap.size (.slice B m c) ys) :
 Calls Tryz.prog 14 #[.agg #[.slice A n cap],.agg #[.slice B m c]] w fun e w'=>e = .returned (.bool (decide (pgs xs=pgs ys)))∧Below w.heap.size w w':=by
 obtain ⟨w2,hw2,hb,hs1,hs2,hsz⟩:=two_books w (.slice A n cap) (.slice B m c)
 have HB:=Lib.hid hb;have HS1:=Lib.hid hs1;have HS2:=Lib.hid hs2
 have HX:=Lib.hid (h1.lift hb);have HY:=Lib.hid (h2.lift hb)
 have hmx:n≤9223372036854775807:=by have:=h1.1.len.2;unfold maxLen at this;omega
 have hq2:w.heap.size<w2.heap.size:=by omega
 have hq3:w.heap.size+1<w2.heap.size:=by omega
 have HN:=Lib.hid h1.1.len.1;have HM:=Lib.hid h2.1.len.1
 have HLX:=Lib.hid (show (pgs xs).length=n by unfold pgs;rw [List.length_map];exact HN.out)
 have HLY:=Lib.hid (show (pgs ys).length=m by unfold pgs;rw [List.length_map];exact HM.out)
 clear h1 h2 hb hs1 hs2 hsz
 by_cases hnm:n=m
 · subst hnm
   go_enter Tryz.func14,Tryz.ntmps14
   go_upto_region 1 with (fail)
   clear hw2
   have x0:=HS1.out.cell
   have y0:=HS2.out.cell
   go_upto_region 4 with (fail)
   clear x0 y0
   go_loopw [5] (fun iv wr=>∃ i:Nat,i≤n∧iv = .int .i64 (i:Int)∧Hid (∀ j,j<i→(pgs xs)[j]? = (pgs ys)[j]?)∧Hid (Below w2.heap.size w2 wr))
    (fun iv _=>n - (intOf iv).toNat)
   case atStart=>exact ⟨0,Nat.zero_le _,rfl,Lib.hid (fun j h=>by omega),Lib.hid (Below.refl _ _)⟩
   case round =>
    obtain ⟨i,hi,rfl,HT,HR⟩:=hrel
    have b0:=(HS1.out.over HR.out).cell
    have b1:=(HS2.out.over HR.out).cell
    by_cases hlt:i<n
    · have hii:(i:Int)<(n:Int):=by omega
      have hi0:(0:Int)≤(i:Int):=by omega
      obtain ⟨x,hx⟩:∃ x,xs[i]? = some x:=⟨_,List.getElem?_eq_getElem (by rw [HN.out];exact hlt)⟩
      obtain ⟨y,hy⟩:∃ y,ys[i]? = some y:=⟨_,List.getElem?_eq_getElem (by rw [HM.out];exact hlt)⟩
      obtain ⟨pb,po,rfl,hpb,e0,e1,e2,hrx⟩:=sh_at HX.out hx
      obtain ⟨qb,qo,rfl,hqb,f0,f1,f2,hry⟩:=sh_at HY.out hy
      have x0:wr.cell? ⟨pb,po+i*3,none⟩=some (.string x.nm):=(HR.out.cell (p:=⟨pb,po+i*3,none⟩) hpb).trans e0
      have x1:wr.cell? ⟨pb,po+i*3+1,none⟩=some (.int .i64 x.cols):=(HR.out.cell (p:=⟨pb,po+i*3+1,none⟩) hpb).trans e1
      have x2:wr.cell? ⟨pb,po+i*3+2,none⟩=some (.slice x.A x.rows.length x.cap):=(HR.out.cell (p:=⟨pb,po+i*3+2,none⟩) hpb).trans e2
      have y0:wr.cell? ⟨qb,qo+i*3,none⟩=some (.string y.nm):=(HR.out.cell (p:=⟨qb,qo+i*3,none⟩) hqb).trans f0
      have y1:wr.cell? ⟨qb,qo+i*3+1,none⟩=some (.int .i64 y.cols):=(HR.out.cell (p:=⟨qb,qo+i*3+1,none⟩) hqb).trans f1
      have y2:wr.cell? ⟨qb,qo+i*3+2,none⟩=some (.slice y.A y.rows.length y.cap):=(HR.out.cell (p:=⟨qb,qo+i*3+2,none⟩) hqb).trans f2
      have HX1:=Lib.hid (show (pgs xs)[i]? = some x.p from map_at hx);have HY1:=Lib.hid (show (pgs ys)[i]? = some y.p from map_at hy)
      have he:=fun (wq:World) (hb:Below wr.heap.size wr wq)=>refSameSheet_any wq x y ((hrx.lift HR.out).lift hb) ((hry.lift HR.out).lift hb)
      have HBD:=Lib.hid (Below.drew (Below.refl wr.heap.size wr))
      have hw2r:w2.heap.size≤wr.heap.size:=HR.out.size
      have HKEEP:=Lib.hid (fun (w':World) (hb:Below wr.heap.size wr w')=>(show w'.cell? ⟨w.heap.size,0,none⟩=some (.slice (some ⟨pb,po,none⟩) n cap)∧w'.cell? ⟨w.heap.size+1,0,none⟩=some (.slice (some ⟨qb,qo,none⟩) n c)∧w'.cell? ⟨pb,po+i*3,none⟩=some (.string x.nm)∧w'.cell? ⟨pb,po+i*3+1,none⟩=some (.int .i64 x.cols)∧w'.cell? ⟨pb,po+i*3+2,none⟩=some (.slice x.A x.rows.length x.cap)∧w'.cell? ⟨qb,qo+i*3,none⟩=some (.string y.nm)∧w'.cell? ⟨qb,qo+i*3+1,none⟩=some (.int .i64 y.cols)∧w'.cell? ⟨qb,qo+i*3+2,none⟩=some (.slice y.A y.rows.length y.cap) from
       ⟨(hb.cell (p:=⟨w.heap.size,0,none⟩) (by show w.heap.size<wr.heap.size;omega)).trans b0,(hb.cell (p:=⟨w.heap.size+1,0,none⟩) (by show w.heap.size+1<wr.heap.size;omega)).trans b1,(hb.cell (p:=⟨pb,po+i*3,none⟩) (by show pb<wr.heap.size;omega)).trans x0,(hb.cell (p:=⟨pb,po+i*3+1,none⟩) (by show pb<wr.heap.size;omega)).trans x1,(hb.cell (p:=⟨pb,po+i*3+2,none⟩) (by show pb<wr.heap.size;omega)).trans x2,(hb.cell (p:=⟨qb,qo+i*3,none⟩) (by show qb<wr.heap.size;omega)).trans y0,(hb.cell (p:=⟨qb,qo+i*3+1,none⟩) (by show qb<wr.heap.size;omega)).trans y1,(hb.cell (p:=⟨qb,qo+i*3+2,none⟩) (by show qb<wr.heap.size;omega)).trans y2⟩))
      clear e0 e1 e2 f0 f1 f2 hx hy hrx hry
      by_cases hxy:x.p=y.p
      · simp only [decide_eq_true hxy] at he
        have HE:=Lib.hid he
        have HF:=Lib.hid (upto_next HX1.out (hxy ▸ HY1.out) HT.out)
        clear he hxy
        go_upto_region 6 with (fail)
        go_region_held3 (fun w'=>w'.cell? ⟨w.heap.size,0,none⟩=some (.slice (some ⟨pb,po,none⟩) n cap)∧w'.cell? ⟨w.heap.size+1,0,none⟩=some (.slice (some ⟨qb,qo,none⟩) n c)∧w'.cell? ⟨pb,po+i*3,none⟩=some (.string x.nm)∧w'.cell? ⟨pb,po+i*3+1,none⟩=some (.int .i64 x.cols)∧w'.cell? ⟨pb,po+i*3+2,none⟩=some (.slice x.A x.rows.length x.cap)∧w'.cell? ⟨qb,qo+i*3,none⟩=some (.string y.nm)∧w'.cell? ⟨qb,qo+i*3+1,none⟩=some (.int .i64 y.cols)∧w'.cell? ⟨qb,qo+i*3+2,none⟩=some (.slice y.A y.rows.length y.cap)) (first | exact ⟨b0,b1,x0,x1,x2,y0,y1,y2⟩ | exact HKEEP.out _ H3.out) (first
         | (go_at_call 31;((with_reducible refine (HE.out _ HBD.out).mono ?_);rintro e w3 ⟨rfl,h1⟩;have H3:=Lib.hid (HBD.out.trans (h1.mono HBD.out.size));clear h1)))
        all_goals go_wp2_with fail
        all_goals go_roundw
        all_goals first
         | exact ⟨i+1,by omega,by go_num,HF,Lib.hid (HR.out.trans (H3.out.mono HR.out.size))⟩
         | (simp [intOf];omega)
      · simp only [decide_eq_false hxy] at he
        have HE:=Lib.hid he
        have HF:=Lib.hid (decide_eq_false (ne_at HX1.out HY1.out hxy))
        clear he hxy
        go_upto_region 6 with (fail)
        go_region_held3 (fun w'=>w'.cell? ⟨w.heap.size,0,none⟩=some (.slice (some ⟨pb,po,none⟩) n cap)∧w'.cell? ⟨w.heap.size+1,0,none⟩=some (.slice (some ⟨qb,qo,none⟩) n c)∧w'.cell? ⟨pb,po+i*3,none⟩=some (.string x.nm)∧w'.cell? ⟨pb,po+i*3+1,none⟩=some (.int .i64 x.cols)∧w'.cell? ⟨pb,po+i*3+2,none⟩=some (.slice x.A x.rows.length x.cap)∧w'.cell? ⟨qb,qo+i*3,none⟩=some (.string y.nm)∧w'.cell? ⟨qb,qo+i*3+1,none⟩=some (.int .i64 y.cols)∧w'.cell? ⟨qb,qo+i*3+2,none⟩=some (.slice y.A y.rows.length y.cap)) (first | exact ⟨b0,b1,x0,x1,x2,y0,y1,y2⟩ | exact HKEEP.out _ H3.out) (first
         | (go_at_call 31;((with_reducible refine (HE.out _ HBD.out).mono ?_);rintro e w3 ⟨rfl,h1⟩;have H3:=Lib.hid (HBD.out.trans (h1.mono HBD.out.size));clear h1)))
        all_goals go_wp2_with fail
        all_goals go_ret
        all_goals exact ⟨ret_bool HF.out.symm,HB.out.trans ((HR.out.trans (H3.out.mono HR.out.size)).mono HB.out.size)⟩
    · have hii:¬ (i:Int)<(n:Int):=by omega
      have HF:=Lib.hid (decide_eq_true (eq_upto HLX.out HLY.out (fun j hj=>HT.out j (by omega))))
      go_wp2_with fail
      go_ret
      exact ⟨ret_bool HF.out.symm,HB.out.trans (HR.out.mono HB.out.size)⟩
 · have hii:¬ (n:Int)=(m:Int):=by omega
   have hib:((n:Int) == (m:Int))=false:=beq_eq_false_iff_ne.2 hii
   have HF:=Lib.hid (show decide (pgs xs=pgs ys)=false from decide_eq_false (fun e=>hnm (by rw [← HLX.out, ← HLY.out,e])))
   clear hnm
   go_enter Tryz.func14,Tryz.ntmps14
   go_upto_region 1 with (fail)
   clear hw2
   have x0:=HS1.out.cell
   have y0:=HS2.out.cell
   go_wp2_with fail
   go_ret
   exact ⟨ret_bool HF.out.symm,HB.out⟩
theorem wide_of {shs:List Sv} {xs:List Int} {m:Nat} (h:pgs shs=bookS xs m):Wide shs:=by
 intro s hs r hr e
 obtain ⟨k,hk⟩:=List.getElem?_of_mem hs
 obtain ⟨_,hp⟩:=sheet_of h hk
 have e3:lns s.rows=rowsS xs (nR m) (nC m) (k*(nR m*nC m)):=congrArg Shp.rows hp
 have h1:r.l∈lns s.rows:=List.mem_map_of_mem hr
 rw [e3] at h1
 unfold rowsS at h1
 obtain ⟨j,_,h2⟩:=List.mem_map.1 h1
 have h3:=congrArg List.length h2
 rw [length_rowS,e] at h3
 have:=nC_le m
 simp at h3;omega
end Go.Proofs.YtdphoaabaajonaaGreatDoor
namespace Go.Proofs.YtdphoaabaajonaaGreatDoor
open Go.ChangeShapes Go.WideShapes Go.ChangeAt Go.RowKit
theorem cells_u8:Tryz.prog.cellsOf 5=1:=by kernel_rfl
set_option maxRecDepth 100000 in
theorem open_s8 {H:Type} {enc:TypeId × Value→H} {W:World} {base:Nat} {v:Value} {d:DataW H} {p:List MemPlace} (hval:Value.okWide Tryz.prog W .any base 22 v) (h:DataW.Trod enc Tryz.prog W 0 (fun _=>true) true 22 v d p) :
 ∃ A len cap xs,v = .slice A len cap∧S8 W W.heap.size A len cap xs:=by
 obtain ⟨A,len,cap,rfl⟩:=okWide_slice Tryz.underlying22 hval
 obtain ⟨fuel,hf⟩:=h
 rcases open_ints Tryz.underlying22 Tryz.underlying5 cells_u8 hf with ⟨hcs,_⟩ | ⟨a,len',cap',zs,hcs,_,hl,hm,hz,_,hcell,hwz⟩
 · simp [Value.cells] at hcs
   obtain ⟨rfl,rfl,rfl⟩:=hcs
   exact ⟨none,0,0,[],rfl,rfl,Nat.le_refl _,by unfold maxLen;omega,Bytes.nil,.inl rfl⟩
 · simp [Value.cells] at hcs
   obtain ⟨rfl,rfl,rfl⟩:=hcs
   simp only [if_true] at hz
   have hb:Bytes zs:=fun n hn=>bounds_u8 (hwz n hn)
   by_cases h0:cap=0
   · have hl0:len=0:=by omega
     exact ⟨some a,len,cap,zs.take len,rfl,by rw [List.length_take];omega,hl,hm,hb.take _,.inl hl0⟩
   · obtain ⟨b,off,rfl,hc⟩:=ints_at hcell (by omega)
     refine ⟨some ⟨b,off,none⟩,len,cap,zs.take len,rfl,by rw [List.length_take];omega,hl,hm,hb.take _,.inr ⟨b,off,rfl,block_lt_of_cell (hc 0 (by omega)),fun j hj => ?_⟩⟩
     rw [hc j (by omega)]
     congr 2
     simp only [List.getD_eq_getElem?_getD]
     rw [List.getElem?_take_of_lt hj]
end Go.Proofs.YtdphoaabaajonaaGreatDoor
namespace Go.Proofs.YtdphoaabaajonaaGreatDoor
open Go.ChangeShapes Go.WideShapes Go.ChangeAt Go.RowKit
def textData {H:Type} (bs:List (List UInt8)):DataW H := .agg (bs.map fun b => .lit (.string b))
theorem cells_of_texts {H:Type} {enc:TypeId × Value→H} {P:Program} {w:World} {base:Nat} {sp:Nat→Bool} {held:Bool} {fuel:Nat} {t e:TypeId} {n:Nat} {cs:List Value} {bs:List (List UInt8)} {p:List MemPlace}
 (ht:P.underlying t=some (.array n e)) (he:P.underlying e=some .string) (hce:P.cellsOf e=1) (hct:P.cellsOf t=n)
 (h:DataW.trod enc P w base sp held fuel t cs=some (textData bs,p)):cs=bs.map fun b=>Value.string ⟨b.toArray⟩:=by
 cases fuel with
 | zero=>simp [DataW.trod] at h
 | succ fuel =>
   simp only [DataW.trod,ht,hce,hct,Nat.mul_one] at h
   split at h
   · rename_i hl
     obtain ⟨xs,hm,hx⟩:=Option.map_eq_some_iff.1 h
     have hxs:xs.map (·.1)=bs.map fun b=>(DataW.lit (.string b):DataW H):=by
      have:=congrArg Prod.fst hx
      simpa [textData] using this
     have hxl:xs.length=n:=by simpa using Lib.mapM_length hm
     have hzl:bs.length=n:=by
      have:=congrArg List.length hxs
      simp at this
      omega
     apply List.ext_getElem?
     intro i
     by_cases hi:i<n
     · obtain ⟨b,hb,hf⟩:=Lib.mapM_at hm i i (by simp [hi])
       obtain ⟨z,hc,rfl,_⟩:=DataW.trod_string he hf
       have h1:cs[i]? = some (.string z):=by
        have:=congrArg (·[0]?) hc
        simpa [List.getElem?_take,List.getElem?_drop] using this
       have h2:(xs.map (·.1))[i]? = some (DataW.lit (.string z.data.toList):DataW H):=by simp [hb]
       rw [hxs] at h2
       simp only [List.getElem?_map,Option.map_eq_some_iff,DataW.lit.injEq,Lit.string.injEq] at h2
       obtain ⟨z',hz',e⟩:=h2
       simp only [h1,List.getElem?_map,hz',Option.map_some,e]
     · rw [List.getElem?_eq_none (by omega),List.getElem?_eq_none (by simp;omega)]
   · cases h
def laidList : List (String × DataW Unit) := [("math/bits.deBruijn32tab", Rows.laid_math_bits_deBruijn32tab), ("math/bits.deBruijn64tab", Rows.laid_math_bits_deBruijn64tab), ("internal/strconv.uint64pow10", Rows.laid_internal_strconv_uint64pow10), ("unicode/utf8.acceptRanges", Rows.laid_unicode_utf8_acceptRanges), ("strconv.ErrRange", Rows.laid_strconv_ErrRange), ("strconv.ErrSyntax", Rows.laid_strconv_ErrSyntax), ("chequer/lex.signs", Rows.laid_chequer_lex_signs), ("chequer/parse.operators", Rows.laid_chequer_parse_operators), ("chequer/show.signs", Rows.laid_chequer_show_signs), ("unicode/utf8.first", Rows.laid_unicode_utf8_first)]
theorem gErr : Tryz.prog.globalNamed "strconv.ErrRange" = some 2 := by kernel_rfl
theorem gErr_t:(Tryz.prog.globals[(2:Nat)]?).map (·.type)=some 129:=by kernel_rfl
theorem gSig : Tryz.prog.globalNamed "chequer/lex.signs" = some 4 := by kernel_rfl
theorem gSig_t:(Tryz.prog.globals[(4:Nat)]?).map (·.type)=some 210:=by kernel_rfl
theorem cellsErr:Tryz.prog.cellsOf 219=1:=by kernel_rfl
theorem cellsStr:Tryz.prog.cellsOf 9=1:=by kernel_rfl
theorem cellsSig:Tryz.prog.cellsOf 210=15:=by kernel_rfl
theorem star : "*" ++ "errors.errorString" = "*errors.errorString" := by decide
theorem rowErr (u : TypeId) (h : Tryz.prog.typeName? 3 u = some "*errors.errorString") : u = 217 :=
 typeName_ptr_named (nm := "errors.errorString") (by rw [star]; kernel_rfl) (by kernel_rfl) (by decide) u (by rw [star]; exact h)
def sigBytes:List (List UInt8):=[[60,62],[60,61],[62,61],[43],[45],[42],[47],[38],[61],[60],[62],[40],[41],[44],[58]]
theorem sigData:(Rows.laid_chequer_lex_signs:DataW Unit)=textData sigBytes:=rfl
theorem sigCells:(sigBytes.map fun b=>Value.string ⟨b.toArray⟩)=sigA.toList:=rfl
theorem laidMet_tail6 {P:Program} {x:String × DataW Unit} {l:List (String × DataW Unit)} {w:World} (h:laidMet P (x :: l) w):laidMet P l w:=by
 obtain ⟨ps,h1,h2,h3⟩:=h
 obtain ⟨n,d⟩:=x
 obtain ⟨g,t,cs,fuel,p,q,_,_,_,_,hq,rfl⟩:=h1
 exact ⟨q,hq,(List.nodup_append.1 h2).2.1,fun b off hm=>h3 b off (List.mem_append_right _ hm)⟩
theorem gTab_t:(Tryz.prog.globals[3]?).map (·.type)=some 206:=by kernel_rfl
theorem cTab20:Tryz.prog.cellsOf 206=20:=by kernel_rfl
theorem cTab1:Tryz.prog.cellsOf 72=1:=by kernel_rfl
theorem tablesTab {W:World} (h:laidMetH Tryz.prog laidList W):Tab W:=by
 have h1:laidMet Tryz.prog laidList W:=h
 exact Lib.tabIs_of_head gTab gTab_t Tryz.underlying206 Tryz.underlying72 cTab1 cTab20 (laidMet_tail6 (laidMet_tail6 h1))
theorem gSho : Tryz.prog.globalNamed "chequer/show.signs" = some 0 := by kernel_rfl
theorem gSho_t:(Tryz.prog.globals[(0:Nat)]?).map (·.type)=some 198:=by kernel_rfl
theorem cellsSho:Tryz.prog.cellsOf 198=20:=by kernel_rfl
def shoBytes:List (List UInt8):=[[],[],[],[],[],[],[],[],[],[61],[60,62],[60],[60,61],[62],[62,61],[38],[43],[45],[42],[47]]
theorem shoData:(Rows.laid_chequer_show_signs:DataW Unit)=textData shoBytes:=rfl
theorem shoCells:(shoBytes.map fun b=>Value.string ⟨b.toArray⟩)=shA.toList:=rfl
theorem tablesSho {W:World} (h:laidMetH Tryz.prog laidList W):ShV W:=by
 have h1:laidMet Tryz.prog laidList W:=h
 have h6:=laidMet_tail6 (laidMet_tail6 (laidMet_tail6 (laidMet_tail6 (laidMet_tail6 (laidMet_tail6 (laidMet_tail6 (laidMet_tail6 (h1))))))))
 obtain ⟨ps,⟨g',t',cs,fuel,p,q,hg',ht',hvar,hd,_,_⟩,_⟩:=h6
 obtain rfl:=Option.some.inj (gSho.symm.trans hg')
 obtain rfl:=Option.some.inj (gSho_t.symm.trans ht')
 rw [shoData] at hd
 have hc:=cells_of_texts Tryz.underlying198 Tryz.underlying9 cellsStr cellsSho hd
 rw [shoCells] at hc
 unfold World.var? at hvar
 rw [gSho] at hvar
 simp only [Option.bind_some] at hvar
 split at hvar
 · rename_i cs' ty fr hh
   injection hvar with hvar
   subst hvar
   have:cs'=shA:=Array.toList_inj.1 hc
   exact ⟨ty,fr,by rw [← this];exact hh⟩
 · cases hvar
theorem tables {W:World} (h:laidMetH Tryz.prog laidList W):Vars W:=by
 have h1:laidMet Tryz.prog laidList W:=h
 have h4:=laidMet_tail6 (laidMet_tail6 (laidMet_tail6 (laidMet_tail6 (h1))))
 constructor
 · obtain ⟨a0,s0,hv0, -, -, -⟩:=laid_sentinel h4 gErr gErr_t Tryz.underlying129 rowErr Tryz.underlying217 Tryz.underlying219 rfl rfl Tryz.underlying9 cellsErr cellsStr
   exact ⟨_,by have h0:=World.var?_cell gErr hv0 0;simpa using h0,Or.inr ⟨_,_,rfl⟩⟩
 · have h6:=laidMet_tail6 (laidMet_tail6 h4)
   obtain ⟨ps,⟨g',t',cs,fuel,p,q,hg',ht',hvar,hd,_,_⟩,_⟩:=h6
   obtain rfl:=Option.some.inj (gSig.symm.trans hg')
   obtain rfl:=Option.some.inj (gSig_t.symm.trans ht')
   rw [sigData] at hd
   have hc:=cells_of_texts Tryz.underlying210 Tryz.underlying9 cellsStr cellsSig hd
   rw [sigCells] at hc
   unfold World.var? at hvar
   rw [gSig] at hvar
   simp only [Option.bind_some] at hvar
   split at hvar
   · rename_i cs' ty fr hh
     injection hvar with hvar
     subst hvar
     have:cs'=sigA:=Array.toList_inj.1 hc
     exact ⟨ty,fr,by rw [← this];exact hh⟩
   · cases hvar
def opC (q:ByteArray × Nat × Int):List Value:=[.string q.1,.int .i64 (q.2.1:Int),.int .i64 q.2.2]
theorem cells3:∀ (L:List (ByteArray × Nat × Int)) (cs:List Value),cs.length=L.length*3→(∀ (i:Nat) q,L[i]? = some q→(cs.drop (i*3)).take 3=opC q)→cs=L.flatMap opC
 | [],cs,h,_=>by simpa using h
 | q :: L,cs,h,hi=>by
   have h0:=hi 0 q rfl
   rw [Nat.zero_mul,List.drop_zero] at h0
   have h1:=cells3 L (cs.drop 3) (by rw [List.length_drop,h,List.length_cons];omega) (fun i q' hq=>by
    have:=hi (i+1) q' (by simpa using hq)
    rw [Nat.succ_mul] at this
    rw [List.drop_drop,Nat.add_comm 3];exact this)
   rw [List.flatMap_cons, ← h0, ← h1,List.take_append_drop]
def opData {H:Type} (q:ByteArray × Nat × Int):DataW H := .agg [.lit (.string q.1.data.toList),.lit (.int .i64 (q.2.1:Int)),.lit (.int .i64 q.2.2)]
theorem opsData:(Rows.laid_chequer_parse_operators:DataW Unit) = .agg (opL3.map opData):=rfl
theorem gOps : Tryz.prog.globalNamed "chequer/parse.operators" = some 5 := by kernel_rfl
theorem gOps_t:(Tryz.prog.globals[(5:Nat)]?).map (·.type)=some 213:=by kernel_rfl
theorem cellsOps:Tryz.prog.cellsOf 213=33:=by kernel_rfl
theorem cellsOp:Tryz.prog.cellsOf 212=3:=by kernel_rfl
set_option maxRecDepth 100000 in
theorem op_of_trod {enc:TypeId × Value→Unit} {w:World} {base:Nat} {sp:Nat→Bool} {held:Bool} {fuel:Nat} {cs:List Value} {q:ByteArray × Nat × Int} {p:List MemPlace}
 (h:DataW.trod enc Tryz.prog w base sp held fuel 212 cs=some (opData q,p)):cs=opC q:=by
 obtain ⟨y0,y1,y2,n,hx,hl,h0,h1,h2⟩:=Go.Deep.trod_struct3 Tryz.underlying212 h
 injection hx with hx _
 unfold opData at hx
 injection hx with hx
 injection hx with e0 hx;injection hx with e1 hx;injection hx with e2 _
 rw [cellsOp] at hl
 match cs,hl with
 | [c0,c1,c2],_ =>
   obtain ⟨s,g0,g0',_⟩:=DataW.trod_string Tryz.underlying9 h0
   obtain ⟨n1,g1,g1',_⟩:=DataW.trod_int Tryz.underlying3 h1
   obtain ⟨n2,g2,g2',_⟩:=DataW.trod_int Tryz.underlying3 h2
   have k0:[c0]=[Value.string s]:=g0
   have k1:[c1]=[Value.int .i64 n1]:=g1
   have k2:[c2]=[Value.int .i64 n2]:=g2
   injection k0 with k0 _;injection k1 with k1 _;injection k2 with k2 _
   rw [g0'] at e0;rw [g1'] at e1;rw [g2'] at e2
   injection e0 with e0;injection e0 with e0
   injection e1 with e1;injection e1 with _ e1
   injection e2 with e2;injection e2 with _ e2
   have es:s=q.1:=by
    cases s;cases hq:q.1
    rw [hq] at e0
    simp only at e0
    rw [Array.toList_inj.1 e0.symm]
   rw [k0,k1,k2,es, ← e1, ← e2];rfl
set_option maxRecDepth 100000 in
theorem cells_of_ops {enc:TypeId × Value→Unit} {w:World} {base:Nat} {sp:Nat→Bool} {held:Bool} {fuel:Nat} {cs:List Value} {p:List MemPlace}
 (h:DataW.trod enc Tryz.prog w base sp held fuel 213 cs=some (.agg (opL3.map opData),p)):cs=opL3.flatMap opC:=by
 obtain ⟨xs,m,_,hx,hl,hxl,hi⟩:=DataW.trod_array Tryz.underlying213 h
 injection hx with hx _
 injection hx with hx
 rw [cellsOps] at hl
 refine cells3 opL3 cs (by rw [hl];rfl) fun i q hq => ?_
 have hlt:=(List.getElem?_eq_some_iff.1 hq).1
 have hlt:i<11:=hlt
 have h1:=hi i hlt
 rw [cellsOp] at h1
 obtain ⟨y,hy⟩:∃ y,xs[i]? = some y:=⟨_,List.getElem?_eq_getElem (by omega)⟩
 rw [hy] at h1
 have h2:(xs.map (·.1))[i]? = some y.1:=by rw [List.getElem?_map,hy];rfl
 rw [← hx,List.getElem?_map,hq] at h2
 have h2:opData q=y.1:=Option.some.inj h2
 obtain ⟨y1,y2⟩:=y
 have h2:opData q=y1:=h2
 subst h2
 exact op_of_trod h1
theorem opA_list:opA.toList=opL3.flatMap opC:=rfl
theorem tablesOp {W:World} (h:laidMetH Tryz.prog laidList W):OpV W:=by
 have h1:laidMet Tryz.prog laidList W:=h
 have h4:=laidMet_tail6 (laidMet_tail6 (laidMet_tail6 (laidMet_tail6 (laidMet_tail6 (laidMet_tail6 (laidMet_tail6 (h1)))))))
 obtain ⟨ps,⟨g',t',cs,fuel,p,q,hg',ht',hvar,hd,_,_⟩,_⟩:=h4
 obtain rfl:=Option.some.inj (gOps.symm.trans hg')
 obtain rfl:=Option.some.inj (gOps_t.symm.trans ht')
 rw [opsData] at hd
 have hc:=cells_of_ops hd
 rw [← opA_list] at hc
 unfold World.var? at hvar
 rw [gOps] at hvar
 simp only [Option.bind_some] at hvar
 split at hvar
 · rename_i cs' ty fr hh
   injection hvar with hvar
   subst hvar
   have:cs'=opA:=Array.toList_inj.1 hc
   exact ⟨ty,fr,by rw [← this];exact hh⟩
 · cases hvar
theorem maxOf {W:World} (h:W.ShapedOpen Tryz.prog):MaxV W :=
 cell_of_shapedOpen_int (g:=8) (t:=3) (zero:=#[.int .i64 0]) h (of_decide_eq_true (by kernel_rfl)) (by kernel_rfl) rfl (by kernel_rfl) (by kernel_rfl) Tryz.underlying3
theorem tablesSx {W:World} (h:laidMetH Tryz.prog laidList W) (hs:W.ShapedOpen Tryz.prog):Sx W:=⟨tables h,tablesOp h,tablesTab h,maxOf hs,tablesSho h⟩
noncomputable def laidWorld (os:Os):World:=World.laidAll Tryz.prog os laidList
theorem laid_met0 (os:Os) (args:Array Value):laidMet Tryz.prog laidList ((laidWorld os).forCall (fun _ _=>0) ⟨#[],args,[]⟩).memory:=laidMet_laidAll args (by kernel_rfl) (by kernel_rfl)
end Go.Proofs.YtdphoaabaajonaaGreatDoor
namespace Go.Proofs.YtdphoaabaajonaaGreatDoor
open Go.ChangeShapes Go.WideShapes Go.ChangeAt Go.RowKit
theorem gSyn : Tryz.prog.globalNamed "strconv.ErrSyntax" = some 1 := by kernel_rfl
theorem gSyn_t:(Tryz.prog.globals[(1:Nat)]?).map (·.type)=some 129:=by kernel_rfl
theorem tablesSyn {W:World} (h:laidMetH Tryz.prog laidList W):ErrS W:=by
 have h1:laidMet Tryz.prog laidList W:=h
 have h5:=laidMet_tail6 (laidMet_tail6 (laidMet_tail6 (laidMet_tail6 (laidMet_tail6 (h1)))))
 obtain ⟨a0,s0,hv0, -, -, -⟩:=laid_sentinel h5 gSyn gSyn_t Tryz.underlying129 rowErr Tryz.underlying217 Tryz.underlying219 rfl rfl Tryz.underlying9 cellsErr cellsStr
 exact ⟨_,by have h0:=World.var?_cell gSyn hv0 0;simpa using h0,Or.inr ⟨_,_,rfl⟩⟩
theorem tablesCx {W:World} (h:laidMetH Tryz.prog laidList W) (hs:W.ShapedOpen Tryz.prog):Cx W:=⟨tablesSx h hs,tablesSyn h⟩
end Go.Proofs.YtdphoaabaajonaaGreatDoor
