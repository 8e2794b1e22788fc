import Derived.Test.YtaobhjliflomaaaGreatDoorMT10
import Derived.Deep.CutRange
import Derived.Test.YtaobhjliflomaaaGreatDoorCards
import Derived.Test.YtaobhjliflomaaaGreatDoorTie
import Derived.Shelf.Vars
import Derived.Deep.Strs
import Derived.Stop.LaidErr
import Derived.Lay
set_option maxRecDepth 100000
set_option maxHeartbeats 64000000
namespace Go.Proofs.YtaobhjliflomaaaGreatDoor
open Go.RowKit
theorem afg {w:World}{B:Nat}{A:Option Addr}{len cap:Nat}{xs:List Int}(h:S8 w B A len cap xs)(i:Nat)(hi:i<len):∃(m pb po:Nat),m<256∧xs[i]? = some (m:Int)∧A=some ⟨pb,po,none⟩∧pb<B∧w.cell? ⟨pb,po+i,none⟩=some (.int .u8 (m:Int)):=by
 rcases h.at_ with h0|⟨pb,po,h1,h2,h3⟩
 · omega
 · have hl:i<xs.length:=by rw[h.hlen];exact hi
   have hx:xs[i]? = some xs[i]:=dm hl;have hb:=h.bytes xs[i] (fu hx);refine⟨xs[i].toNat,pb,po,by omega,by rw[hx];congr 1;omega,h1,h2, ?_⟩;rw[h3 i hi,jG,hx];show some (Value.int .u8 xs[i])=_;congr 2;omega
theorem jR(w:World)(o:Obj):Below w.heap.size w (w.alloc o):=(ai _ _).alloc (ah _) _
theorem sj (w:World)(o:Obj)(a:Addr){u:Value}(h:w.cell? a=some u):(w.alloc o).cell? a=some u:=by
 have hl:a.block<w.heap.size:=by
  unfold World.cell? at h;cases h2:w.heap[a.block]? with
  | none=>rw[h2]at h;cases h
  | some x=>exact(dO.1 h2).1
 exact((jR w o).cell (p:=a) hl).trans h
theorem yu {α : Type}{size:Nat}{E:Enc α size}{e:TypeId}{w:World}{base:Nat}{v:Value}{xs:List α}(h:Own E e w base v xs)(n:Nat)(hn:xs.length=n):∃A c,v = .slice A n c:=by
 rcases h.shape with ⟨h1,h2⟩|⟨g,c,h1,_⟩
 · exact⟨none,0,by rw[h1, ← hn,h2];rfl⟩
 · exact⟨_,c,by rw[h1,hn]⟩
theorem ab7 (w:World)(A:Option Addr)(n cap:Nat)(xs:List Int)(hs:S8 w w.heap.size A n cap xs)(hn:n≤9223372036854775807) :
 Calls Tryz.prog 7 #[.slice A n cap] w (ED w):=by
 have HS:=ae hs;clear hs;go_enter Tryz.func7,Tryz.ntmps7;go_upto_block 0 with (fail)
 go_cut [3,4]from 5 (fun fU sv wx=>∃(vs:List az)(st:List Int)(lk sk:Value)(fJ:World),lk=fU∧sk=sv∧fJ=wx∧Hid (iZ w fJ lk sk vs st)∧Hid (kz (vs.map (·.n)) st)∧Hid (vs.length≤40))
 case first =>
  go_upto_region 4 with (fail)
  go_loopw [3,4,5] (fun fU sv iv wr=>∃(i nl:Nat)(vs:List az)(st:List Int)(lk sk:Value),i≤n∧nl=vs.length∧nl≤40∧lk=fU∧sk=sv∧iv = .int .i64 (i:Int)∧Hid (iZ w wr lk sk vs st)∧Hid (kz (vs.map (·.n)) st)) (fun _ _ iv _=>n - (intOf iv).toNat)
  case atStart=>exact⟨0,0,[],[],_,_,dV _,rfl,by decide,rfl,rfl,rfl,ae (iZ.nil w),ae kz.nil⟩
  case round =>
   obtain⟨i,nl,vs,st,lk,sk,hi,hnl,Zi,rfl,rfl,rfl,HM,HI⟩:=hrel;by_cases hlt:i<n∧nl<40
   · obtain ⟨hin, hl4⟩:=hlt
     obtain⟨m,pb,po,hm,hx,rfl,hpb,hc⟩:=afg HS.o i hin;obtain⟨Av,cl,rfl⟩:=yu HM.o.nodes nl hnl.symm;obtain⟨k,hk⟩:∃k,st.length=k:=⟨_,rfl⟩;obtain⟨As,cs,rfl⟩:=yu HM.o.je k hk;have hcw:wr.cell? ⟨pb,po+i,none⟩=some (.int .u8 (m:Int)):=(HM.o.iQ.cell (p:=⟨pb,po+i,none⟩) hpb).trans hc;have hii:(i:Int)<(n:Int):=by omega
     have hi0:(0:Int)≤(i:Int):=by omega
     have aix:(nl:Int)<40:=by omega
     have hwm:IntKind.i64.wrap (m:Int)=(m:Int):=by rw[gV];omega
     have HK:=ae hk;have HX:=ae hx;have iW:=ae hnl;have ah7:k≤40:=by have h1:=HI.o.few;rw[fw, ← hnl,hk]at h1;omega
     obtain⟨eb,jK,bV⟩:=Elem.kid;obtain⟨nb,JS,CF⟩:=Elem.il;have jH:=ae bV;have IA:=ae CF;clear hc hk hx hnl bV CF;go_upto_block 2 with (fail)
     have Nw:=ae (ax.new wr { Nd.zero with kind:=1,num:=(m:Int) } (.slice none 0 0));have jv:=ae (HM.o.next ((ai _ _).alloc (ah _) (.cells #[.int .i64 1,.int .i64 (m:Int),.string ⟨#[]⟩,.string ⟨#[]⟩,.int .i64 0,.int .i64 0,.bool false,.bool false,.string ⟨#[]⟩,.int .i64 0,.int .i64 0,.bool false,.bool false,.slice none 0 0] 45)));have dK:=ae (show ax (wr.alloc (.cells #[.int .i64 1,.int .i64 (m:Int),.string ⟨#[]⟩,.string ⟨#[]⟩,.int .i64 0,.int .i64 0,.bool false,.bool false,.string ⟨#[]⟩,.int .i64 0,.int .i64 0,.bool false,.bool false,.slice none 0 0] 45)) wr.heap.size { Nd.zero with kind:=1,num:=(m:Int) } (.slice none 0 0)from Nw.o);clear Nw;generalize (wr.alloc (.cells #[.int .i64 1,.int .i64 (m:Int),.string ⟨#[]⟩,.string ⟨#[]⟩,.int .i64 0,.int .i64 0,.bool false,.bool false,.string ⟨#[]⟩,.int .i64 0,.int .i64 0,.bool false,.bool false,.slice none 0 0] 45))=w1 at jv dK ⊢;have gN:=ae (show(Value.slice Av nl cl).ownBlock≠Option.some wr.heap.size∧w.heap.size≤wr.heap.size from⟨fun e=>Nat.lt_irrefl _ (HM.o.nodes.less e),HM.o.iQ.size⟩);generalize wr.heap.size=z at dK gN ⊢;clear HM
     go_cut [4]from 8 to 184 (fun sk wx=>∃(s:Value)(fJ:World),s=sk∧fJ=wx∧Hid (WO w fJ (.slice Av nl cl) (.slice As k cs) vs st z m s))
     case first =>
      have ma:=ae (ic.nil w1 w.heap.size (.slice As k cs));obtain⟨r3,hr3⟩:∃r,m % 3=r:=⟨_,rfl⟩;have q3:(m:Int) % 3=(r3:Int):=by omega
      have t3:(m:Int).tmod 3=(r3:Int):=by rw[tJ (by omega)];exact q3
      have b3:(r3:Int)<3:=by omega
      have w3:IntKind.i64.wrap (r3:Int)=(r3:Int):=by rw[gV];omega
      obtain⟨r16,Qq⟩:∃r,m % 16=r:=⟨_,rfl⟩;have q16:(m:Int) % 16=(r16:Int):=by omega
      have t16:(m:Int).tmod 16=(r16:Int):=by rw[tJ (by omega)];exact q16
      have b16:(r16:Int)<16:=by omega
      have w16:IntKind.i64.wrap (r16:Int)=(r16:Int):=by rw[gV];omega
      obtain⟨r8,Qs⟩:∃r,m % 8=r:=⟨_,rfl⟩;have jO:(m:Int) % 8=(r8:Int):=by omega
      have t8:(m:Int).tmod 8=(r8:Int):=by rw[tJ (by omega)];exact jO
      have b8:(r8:Int)<8:=by omega
      have w8:IntKind.i64.wrap (r8:Int)=(r8:Int):=by rw[gV];omega
      obtain⟨r32,Qr⟩:∃r,m % 32=r:=⟨_,rfl⟩;have q32:(m:Int) % 32=(r32:Int):=by omega
      have t32:(m:Int).tmod 32=(r32:Int):=by rw[tJ (by omega)];exact q32
      have b32:(r32:Int)<32:=by omega
      have w32:IntKind.i64.wrap (r32:Int)=(r32:Int):=by rw[gV];omega
      have HR3:=ae hr3;have wC:=ae Qq;have tO:=ae Qs;have wD:=ae Qr;have Iu:=ae hm;clear hr3 Qq Qs Qr;obtain⟨p3,hp3⟩:∃p,decide (r3=0∧2≤k)=p:=⟨_,rfl⟩;obtain⟨p1,hp1⟩:∃p,decide (r16=1∧1≤k)=p:=⟨_,rfl⟩;have aW:=ae hp3;have bD:=ae hp1;clear hp3 hp1;go_upto_region 8 with (fail)
      go_cut [27]from 28 to 35 (fun cv wx=>∃(fJ:World),cv = .bool p3∧fJ=wx∧fJ=w1)
      case first =>
       by_cases c3:r3=0
       · subst c3
         have d3:(((0:Nat):Int) == 0)=true:=rfl;go_wp2_with fail
         go_meet
         case rel=>exact⟨_,(show Value.bool (decide ((2:Int)≤(k:Int)))=Value.bool p3 from by rw[← aW.o];exact congrArg Value.bool (decide_eq_decide.2 ⟨fun h=>⟨by trivial,by omega⟩,fun h=>by have:=h.2;omega⟩)),rfl,rfl⟩
       · have d3:((r3:Int) == 0)=false:=by rw[beq_eq_false_iff_ne];omega
         have hp:p3=false:=by rw[← aW.o];exact decide_eq_false (fun h=>c3 h.1)
         subst hp;go_wp2_with fail
         go_meet
         case rel=>exact⟨_,rfl,rfl,rfl⟩
      case rest =>
       obtain⟨fJ,rfl,rfl,hw⟩:=hcut;have hw:=hw.symm;subst hw;cases p3 with
       | true =>
         as_aux_lemma =>
          have y5:=of_decide_eq_true aW.o;have hk2:2≤k:=y5.2;have gM:=ae y5.1;clear y5;obtain⟨q,hq⟩:∃q,m / 3=q:=⟨_,rfl⟩;obtain⟨o,ho⟩:∃o,q % 11=o:=⟨_,rfl⟩;have a1:(m:Int).tdiv 3=(q:Int):=by rw[Int.tdiv_eq_ediv_of_nonneg (by omega)];omega
          have a2:(m:Int) / 3=(q:Int):=by omega
          have a3:IntKind.i64.wrap (q:Int)=(q:Int):=by rw[gV];omega
          have a4:(q:Int).tmod 11=(o:Int):=by rw[tJ (by omega)];omega
          have a5:(q:Int) % 11=(o:Int):=by omega
          have a6:IntKind.i64.wrap (o:Int)=(o:Int):=by rw[gV];omega
          have lo:o<11:=by omega
          obtain⟨z9,hz9⟩:∃z,9+o=z:=⟨_,rfl⟩;have a7:(9:Int)+(o:Int)=(z9:Int):=by omega
          have a8:IntKind.i64.wrap (z9:Int)=(z9:Int):=by rw[gV];omega
          obtain⟨i2,hi2⟩:∃i,k - 2=i:=⟨_,rfl⟩;obtain⟨i1,hi1⟩:∃i,k - 1=i:=⟨_,rfl⟩;have b1:(k:Int) - 2=(i2:Int):=by omega
          have b2:(k:Int) - 1=(i1:Int):=by omega
          have b5:IntKind.i64.wrap (i2:Int)=(i2:Int):=by rw[gV];omega
          have b6:IntKind.i64.wrap (i1:Int)=(i1:Int):=by rw[gV];omega
          have l2:i2<k:=by omega
          have l1:i1<k:=by omega
          have j2:(i2:Int)<(k:Int):=by omega
          have j1:(i1:Int)<(k:Int):=by omega
          have n2:(0:Int)≤(i2:Int):=by omega
          have n1:(0:Int)≤(i1:Int):=by omega
          obtain⟨g,cg,hA,hg0,hg1,hg2,hg3⟩:=Own.some jv.o.je (by rw[HK.o];omega);injection hA with hA1 hA2 hA3;subst hA1;have hdr:=O8 HK.o hk2;rw[hi2,hi1]at hdr;obtain⟨a,ha⟩:∃a,st.getD i2 0=a:=⟨_,rfl⟩;obtain⟨b,hb⟩:∃b,st.getD i1 0=b:=⟨_,rfl⟩;have ca:w1.cell? ⟨g,i2,none⟩=some (.int .i64 a):=by rw[← ha];exact Own.vQ jv.o.je i2 (by rw[HK.o];exact l2)
          have cb:w1.cell? ⟨g,i1,none⟩=some (.int .i64 b):=by rw[← hb];exact Own.vQ jv.o.je i1 (by rw[HK.o];exact l1)
          rw[ha,hb]at hdr;have aM:=ae (show fI m st.length=2 from by unfold fI;rw[if_pos ⟨HR3.o.trans gM.o,by rw[HK.o];exact hk2⟩]);have gq:=ae (show jD m st.length (st.drop (st.length - fI m st.length))={ Nd.zero with kind:=(z9:Int),kids:=[a,b] }from by rw[aM.o,HK.o,hi2,hdr];unfold jD;rw[if_pos ⟨HR3.o.trans gM.o,hk2⟩,hq,ho,a7]);have HDR:=ae (show st.drop (st.length - fI m st.length)=[a,b]from by rw[aM.o,HK.o,hi2,hdr]);have HI2:=ae hi2;have HI1:=ae hi1;have hcs:i2≤cs:=by rw[hA3];have:=HK.o;omega
          clear hq ho hz9 hi2 hi1 ha hb hdr hA2 hA3 hg0 hg2 hg3;have qV:=ae (jv.o.drew.next (jR w1.drew (.cells #[.int .i64 a,.int .i64 b] 3)));have bS:=ae (dK.o.Fe.below (jR w1.drew (.cells #[.int .i64 a,.int .i64 b] 3)) dK.o.lt);have nV:=ae (ic.TI (w:=w1.drew) jv.o.iQ.size jv.o.drew.je a b);have bY:=ae (show w1.drew.cell? ⟨g,i2,none⟩=some (.int .i64 a)∧w1.drew.cell? ⟨g,i1,none⟩=some (.int .i64 b)from⟨ca,cb⟩);have wy:=ae (show g<(w1.drew.alloc (.cells #[.int .i64 a,.int .i64 b] 3)).heap.size∧some g≠some z from⟨by rw[kK];exact Nat.lt_succ_of_lt hg1,KW dK.o jv.o.je rfl⟩);clear hg1;go_upto_region 9 with (fail)
          refine wp_region_held_drew (S:=fun W=>W.cell? ⟨g,i2,none⟩=some (.int .i64 a)∧W.cell? ⟨g,i1,none⟩=some (.int .i64 b)) (by kernel_rfl) bY.o (fun _ => ?_);show wpAnyH _ _ _ _ _ 19 #[false,false,false,false,false,false,false,false,false,false,false,false,false,false,false,false,false,false,false] _ _;refine hT 0 bY.o ?_;refine hT 1 bY.o ?_;refine hT 2 bY.o ?_;refine hT 3 bY.o ?_;refine hT 4 bY.o ?_;refine hT 5 bY.o ?_;refine hT 6 bY.o ?_;refine hT 7 bY.o ?_;refine hT 8 bY.o ?_;refine hT 9 bY.o ?_ (hy:=by(intro gJ hSw;have hz:=hSw.1;go_simp;try(with_reducible rfl)));refine hT 10 bY.o ?_;refine hT 11 bY.o ?_;refine hT 12 bY.o ?_;refine hT 13 bY.o ?_;refine hT 14 bY.o ?_;refine hT 15 bY.o ?_ (hy:=by(intro gJ hSw;have hz:=hSw.2;go_simp;try(with_reducible rfl)));refine hO 16 (fun K hK => ?_);go_simp;refine hK.o _ _ ⟨sj _ _ _ bY.o.1,sj _ _ _ bY.o.2⟩ ?_;clear hK K;simp only[Act.put,sT,fG,fF];refine hT 17 ⟨sj _ _ _ bY.o.1,sj _ _ _ bY.o.2⟩ ?_;refine hO 18 (fun K hK => ?_);refine MS (.tmp 7) (.tmp 53) rfl z _ { Nd.zero with kind:=(z9:Int),kids:=[a,b] } _ (.slice (some ⟨w1.heap.size,0,none⟩) 2 2) rfl rfl bS.o rfl ?_;intro iN h1 h2;have mf:=ae h1;have fA:=ae h2;clear h1 h2;have V8:=ae (show iN.cell? ⟨g,i2,none⟩=some (.int .i64 a)∧iN.cell? ⟨g,i1,none⟩=some (.int .i64 b)from⟨(Bb (a:=⟨g,i2,none⟩) fA.o wy.o.1 wy.o.2).trans (sj w1.drew _ _ bY.o.1),(Bb (a:=⟨g,i1,none⟩) fA.o wy.o.1 wy.o.2).trans (sj w1.drew _ _ bY.o.2)⟩);refine hK.o undef _ V8.o ?_;clear hK K;simp only[Act.put];refine wpAnyH_done (by kernel_rfl) ?_ _;go_wp2_with fail
          go_meet
          case rel =>
           refine⟨_,_,rfl,rfl,ae ⟨qV.o.over bS.o gN.o.1 gN.o.2 fA.o,⟨.slice (some ⟨w1.heap.size,0,none⟩) 2 2, ?_, ?_⟩,.inr ⟨some ⟨g,0,none⟩,cs, ?_, ?_⟩⟩⟩
           · rw[gq.o];exact mf.o
           · rw[HDR.o];exact nV.o.over bS.o fA.o
           · rw[HK.o]
           · rw[aM.o,HK.o,HI2.o]
       | false =>
         clear q3 t3 b3 w3;go_upto_region 11 with (fail)
         go_cut [62]from 63 to 70 (fun cv wx=>∃(fJ:World),cv = .bool p1∧fJ=wx∧fJ=w1)
         case first =>
          by_cases c1:r16=1
          · subst c1
            have d1:(((1:Nat):Int) == 1)=true:=rfl;go_wp2_with fail
            go_meet
            case rel=>exact⟨_,(show Value.bool (decide ((1:Int)≤(k:Int)))=Value.bool p1 from by rw[← bD.o];exact congrArg Value.bool (decide_eq_decide.2 ⟨fun h=>⟨by trivial,by omega⟩,fun h=>by have:=h.2;omega⟩)),rfl,rfl⟩
          · have d1:((r16:Int) == 1)=false:=by rw[beq_eq_false_iff_ne];omega
            have hp:p1=false:=by rw[← bD.o];exact decide_eq_false (fun h=>c1 h.1)
            subst hp;go_wp2_with fail
            go_meet
            case rel=>exact⟨_,rfl,rfl,rfl⟩
         case rest =>
          obtain⟨fJ,rfl,rfl,hw⟩:=hcut;have hw:=hw.symm;subst hw;cases p1 with
          | true =>
            as_aux_lemma =>
             have qZ:=of_decide_eq_true bD.o;have hk1:1≤k:=qZ.2;have gM:=ae qZ.1;have qP:=ae (of_decide_eq_false aW.o);clear qZ;obtain⟨i1,hi1⟩:∃i,k - 1=i:=⟨_,rfl⟩;have b2:(k:Int) - 1=(i1:Int):=by omega
             have b6:IntKind.i64.wrap (i1:Int)=(i1:Int):=by rw[gV];omega
             have l1:i1<k:=by omega
             have j1:(i1:Int)<(k:Int):=by omega
             have n1:(0:Int)≤(i1:Int):=by omega
             obtain⟨g,cg,hA,hg0,hg1,hg2,hg3⟩:=Own.some jv.o.je (by rw[HK.o];omega);injection hA with hA1 hA2 hA3;subst hA1;have hdr:=drop_one HK.o hk1;rw[hi1]at hdr;obtain⟨a,ha⟩:∃a,st.getD i1 0=a:=⟨_,rfl⟩;have ca:w1.cell? ⟨g,i1,none⟩=some (.int .i64 a):=by rw[← ha];exact Own.vQ jv.o.je i1 (by rw[HK.o];exact l1)
             rw[ha]at hdr;have aM:=ae (show fI m st.length=1 from by unfold fI;rw[if_neg (by rw[HR3.o,HK.o];exact qP.o),if_pos ⟨wC.o.trans gM.o,by rw[HK.o];exact hk1⟩]);have gq:=ae (show jD m st.length (st.drop (st.length - fI m st.length))={ Nd.zero with kind:=8,kids:=[a] }from by rw[aM.o,HK.o,hi1,hdr];unfold jD;rw[if_neg (by rw[HR3.o];exact qP.o),if_pos ⟨wC.o.trans gM.o,hk1⟩]);have HDR:=ae (show st.drop (st.length - fI m st.length)=[a]from by rw[aM.o,HK.o,hi1,hdr]);have HI1:=ae hi1;have hcs:i1≤cs:=by rw[hA3];have:=HK.o;omega
             clear hi1 ha hdr hA2 hA3 hg0 hg1 hg2 hg3;have qV:=ae (jv.o.next (jR w1 (.cells #[.int .i64 a] 3)));have bS:=ae (dK.o.below (jR w1 (.cells #[.int .i64 a] 3)) dK.o.lt);have nV:=ae (ic.ae1 (w:=w1) jv.o.iQ.size jv.o.je a);go_wp2_with (refine oN rfl (.tmp 7) _ rfl z _ { Nd.zero with kind:=8,kids:=[a] } _ (.slice (some ⟨w1.heap.size,0,none⟩) 1 1) rfl rfl bS.o rfl ?_;intro iN h1 h2;have mf:=ae h1;have fA:=ae h2;clear h1 h2)
             go_meet
             case rel =>
              refine⟨_,_,rfl,rfl,ae ⟨qV.o.over bS.o gN.o.1 gN.o.2 fA.o,⟨.slice (some ⟨w1.heap.size,0,none⟩) 1 1, ?_, ?_⟩,.inr ⟨some ⟨g,0,none⟩,cs, ?_, ?_⟩⟩⟩
              · rw[gq.o];exact mf.o
              · rw[HDR.o];exact nV.o.over bS.o fA.o
              · rw[HK.o]
              · rw[aM.o,HK.o,HI1.o]
          | false =>
            have qP:=ae (of_decide_eq_false aW.o);have AB:=ae (of_decide_eq_false bD.o);by_cases c2:r16=2
            · have d2:((r16:Int) == 2)=true:=by rw[beq_iff_eq];omega
              have Cg:=ae c2;clear c2
              as_aux_lemma =>
               have lG:=ae (wC.o.trans Cg.o);obtain⟨q16,vO⟩:∃q,m / 16=q:=⟨_,rfl⟩;have a4:(m:Int).tdiv 16=(q16:Int):=by rw[Int.tdiv_eq_ediv_of_nonneg (by omega)];omega
               have a5:(m:Int) / 16=(q16:Int):=by omega
               have a6:IntKind.i64.wrap (q16:Int)=(q16:Int):=by rw[gV];omega
               obtain⟨r,hr⟩:∃r,q16 % 4=r:=⟨_,rfl⟩;have ra:(q16:Int).tmod 4=(r:Int):=by rw[tJ (by omega)];omega
               have rb:(q16:Int) % 4=(r:Int):=by omega
               have rc:IntKind.i64.wrap (r:Int)=(r:Int):=by rw[gV];omega
               have rd:r<4:=by omega
               obtain⟨t,ht⟩:∃t,min k r=t:=⟨_,rfl⟩;have m1:min (k:Int) (r:Int)=(t:Int):=by omega
               have htk:t≤k:=by omega
               obtain⟨f,hf⟩:∃f,k - t=f:=⟨_,rfl⟩;have b1:(k:Int) - (t:Int)=(f:Int):=by omega
               have b5:IntKind.i64.wrap (f:Int)=(f:Int):=by rw[gV];omega
               have J4:f≤k:=by omega
               have P7:k - f=t:=by omega
               have f0:(0:Int)≤(f:Int):=by omega
               have f1:(f:Int)≤(k:Int):=by omega
               have aM:=ae (show fI m st.length=t from by unfold fI;rw[if_neg (by rw[HR3.o,HK.o];exact qP.o),if_neg (by rw[wC.o,HK.o];exact AB.o),if_pos lG.o,HK.o,vO,hr,ht]);have HDR:=ae (show st.drop (st.length - fI m st.length)=st.drop f from by rw[aM.o,HK.o,hf]);have gq:=ae (show jD m st.length (st.drop (st.length - fI m st.length))={ Nd.zero with kind:=7,text:=⟨#[83,85,77]⟩,kids:=st.drop f }from by rw[HDR.o];unfold jD;rw[if_neg (by rw[HR3.o,HK.o];exact qP.o),if_neg (by rw[wC.o,HK.o];exact AB.o),if_pos lG.o]);have Ck:=ae (show(st.drop f).length=t from by rw[List.length_drop,HK.o];exact P7);have HF:=ae hf;have Nz:=ae (Sw w1 w1.heap.size (ah _));clear vO hr ht hf;rcases jv.o.je.shape with ⟨h1,h2⟩|⟨g,cg,h1,hg0,hg1,hg2,hg3⟩
               · injection h1 with e1 e2 e3
                 subst e1;subst e2;subst e3;have hf0:f=0:=by omega
                 have ht0:t=0:=by omega
                 subst hf0;subst ht0;have I5:=ae (show Src Tryz.prog 1 28 (.slice none 0 0) 0 ((aK .i64).all (st.drop 0)) (w1.alloc (.cells #[] 3))from by rw[h2];exact Src.ofNil _ Tryz.underlying28 0);have m2:min (0:Int) (r:Int)=0:=by omega
                 have hd0:st.drop 0=[]:=h2;clear h2;have HD0:=ae hd0;have qV:=ae (jv.o.next (jR w1 (.cells #[] 3)));have bS:=ae (dK.o.below (jR w1 (.cells #[] 3)) dK.o.lt);have kv:=ae (show ic (w1.alloc (.cells #[] 3)) w.heap.size (.slice none 0 0) (.slice (some ⟨w1.heap.size,0,none⟩) 0 0) (st.drop 0)from⟨by rw[HD0.o];exact Sw w1 _ jv.o.iQ.size,fun g5 e e2=>by cases e2⟩);clear hd0 Ck I5 Nz;go_wp2_with (refine oN rfl (.tmp 7) _ rfl z _ { Nd.zero with kind:=7,text:=⟨#[83,85,77]⟩,kids:=st.drop 0 } _ (.slice (some ⟨w1.heap.size,0,none⟩) 0 0) rfl rfl bS.o rfl ?_;intro iN h1 h2;have mf:=ae h1;have fA:=ae h2;clear h1 h2)
                 go_meet
                 case rel =>
                  refine⟨_,_,rfl,rfl,ae ⟨qV.o.over bS.o gN.o.1 gN.o.2 fA.o,⟨(.slice (some ⟨w1.heap.size,0,none⟩) 0 0), ?_, ?_⟩,.inl ⟨rfl,aM.o⟩⟩⟩
                  · rw[gq.o];exact mf.o
                  · rw[HDR.o];exact kv.o.over bS.o fA.o
               · injection h1 with e1 e2 e3
                 subst e1;have hkc:k≤cs:=by have:=HK.o;omega
                 have hfc:f≤cs:=by omega
                 have aim:(f:Int)≤(cs:Int):=by omega
                 obtain⟨AT,JQ⟩:∃AT,(if cs=f then some (⟨g,0,none⟩:Addr)else some ⟨g,f,none⟩)=AT:=⟨_,rfl⟩;have I5:=ae (show Src Tryz.prog 1 28 (.slice AT t (cs - f)) t ((aK .i64).all (st.drop f)) (w1.alloc (.cells #[] 3))from by have:=agp (jv.o.je.alloc (.cells #[] 3)) HK.o J4 hkc;rw[JQ,P7]at this;exact this);clear e2 e3 hg0 hg1 hg2 hg3
                 go_wp2_with (first
                  | (at_builtin;refine MR jH.o (aK .i64) rfl (.tmp 97) (.tmp 103) rfl w1.heap.size _ [] rfl Nz.o _ t (st.drop f) rfl Ck.o I5.o ?_ ?_ ?_ ?_;(refine bF (Nat.mul_le_mul_left _ jK) ?_;rw[dI];omega);(rw[dI];unfold maxLen;omega);(rw[kK];exact Nat.le_succ _);intro v5 w5 h1 h2;rw[gL]at h1;obtain⟨A5,c5,rfl⟩:=yu h1 t Ck.o;have tK:=ae (jv.o.next ((jR w1 (.cells #[] 3)).trans h2));have fP:=ae (dK.o.below ((jR w1 (.cells #[] 3)).trans h2) dK.o.lt);have kv:=ae (show ic w5 w.heap.size (.slice (some ⟨g,0,none⟩) k cs) (.slice A5 t c5) (st.drop f)from⟨h1.mono jv.o.iQ.size,fun g5 e e2=>by have x1:=(h1.lies e).1;have x2:=jv.o.je.less e2;omega⟩);clear h1 h2)
                  | (refine oN rfl (.tmp 7) _ rfl z _ { Nd.zero with kind:=7,text:=⟨#[83,85,77]⟩,kids:=st.drop f } _ (.slice A5 t c5) rfl rfl fP.o rfl ?_;intro iN h1 h2;have mf:=ae h1;have fA:=ae h2;clear h1 h2))
                 go_meet
                 case rel =>
                  refine⟨_,_,rfl,rfl,ae ⟨tK.o.over fP.o gN.o.1 gN.o.2 fA.o,⟨.slice A5 t c5, ?_, ?_⟩,.inr ⟨some ⟨g,0,none⟩,cs, ?_, ?_⟩⟩⟩
                  · rw[gq.o];exact mf.o
                  · rw[HDR.o];exact kv.o.over fP.o fA.o
                  · rw[HK.o]
                  · rw[aM.o,HK.o,HF.o]
            have d2:((r16:Int) == 2)=false:=by rw[beq_eq_false_iff_ne];omega
            have aM:=ae (show fI m st.length=0 from by have h3:=qP.o;have h1:=AB.o;rw[← HR3.o, ← HK.o]at h3;rw[← wC.o, ← HK.o]at h1;rw[← wC.o]at c2;unfold fI;rw[if_neg h3,if_neg h1,if_neg c2]);have AO:=ae (show ∀ks,jD m st.length ks=wX m from by have h3:=qP.o;have h1:=AB.o;rw[← HR3.o, ← HK.o]at h3;rw[← wC.o, ← HK.o]at h1;rw[← wC.o]at c2;exact fun ks=>ac0 h3 h1 c2 ks);clear c2;by_cases c4:r8=4
            · have d4:((r8:Int) == 4)=true:=by rw[beq_iff_eq];omega
              have gq:=ae (show jD m st.length (st.drop (st.length - fI m st.length))={ Nd.zero with kind:=5,ref:=BJ m }from by rw[AO.o];unfold wX;rw[if_pos (tO.o.trans c4)]);clear c4;obtain⟨jO,hq8⟩:∃q,m / 8=q:=⟨_,rfl⟩;obtain⟨q16,vO⟩:∃q,m / 16=q:=⟨_,rfl⟩;have a1:(m:Int).tdiv 8=(jO:Int):=by rw[Int.tdiv_eq_ediv_of_nonneg (by omega)];omega
              have a2:(m:Int) / 8=(jO:Int):=by omega
              have a3:IntKind.i64.wrap (jO:Int)=(jO:Int):=by rw[gV];omega
              have a4:(m:Int).tdiv 16=(q16:Int):=by rw[Int.tdiv_eq_ediv_of_nonneg (by omega)];omega
              have a5:(m:Int) / 16=(q16:Int):=by omega
              have a6:IntKind.i64.wrap (q16:Int)=(q16:Int):=by rw[gV];omega
              have abh:jO<32:=by omega
              have l16:q16<16:=by omega
              obtain⟨u,hu⟩:∃r,jO % 3=r:=⟨_,rfl⟩;have ua:(jO:Int).tmod 3=(u:Int):=by rw[tJ (by omega)];omega
              have ub:(jO:Int) % 3=(u:Int):=by omega
              have uc:IntKind.i64.wrap (u:Int)=(u:Int):=by rw[gV];omega
              have ud:u<3:=by omega
              obtain⟨v,hv⟩:∃r,q16 % 5=r:=⟨_,rfl⟩;have va:(q16:Int).tmod 5=(v:Int):=by rw[tJ (by omega)];omega
              have vb:(q16:Int) % 5=(v:Int):=by omega
              have vc:IntKind.i64.wrap (v:Int)=(v:Int):=by rw[gV];omega
              have vd:v<5:=by omega
              obtain⟨x,hx⟩:∃r,jO % 7=r:=⟨_,rfl⟩;have xa:(jO:Int).tmod 7=(x:Int):=by rw[tJ (by omega)];omega
              have xb:(jO:Int) % 7=(x:Int):=by omega
              have ajm:IntKind.i64.wrap (x:Int)=(x:Int):=by rw[gV];omega
              have xd:x<7:=by omega
              obtain⟨sh,hsh⟩:∃s,yE m=s:=⟨_,rfl⟩;obtain⟨ac,hac⟩:∃a,decide (128<m)=a:=⟨_,rfl⟩;have JW:decide ((128:Int)<(m:Int))=ac:=by rw[← hac];exact decide_eq_decide.2 (by omega)
              have hrf:BJ m=⟨sh,(v:Int),(x:Int),ac,false⟩:=by unfold BJ;rw[hsh,hac,vO,hq8,hv,hx]
              have Qw:sh=if u=2 then ⟨#[84]⟩else ⟨#[]⟩:=by rw[← hsh];unfold yE;rw[hq8,hu]
              rw[hrf]at gq;have VZ:=ae hrf;have ll:=ae hsh;have HAC:=ae hac;have Wd:=ae Qw;have HA2:=ae JW;have VU:=ae hq8;have VS:=ae vO;have HU:=ae hu;have dH:=ae hv;have HX:=ae hx;clear hrf hsh hac Qw JW hq8 vO hu hv hx
              have k4:(w1.alloc (.cells #[.string ⟨#[]⟩,.string ⟨#[]⟩,.string ⟨#[84]⟩] 9)).cell? ⟨w1.heap.size,u,none⟩=some (.string sh):=by
               rw[World.cell?_alloc_at _ _ _ _ rfl,Wd.o];have hu3:u=0∨u=1∨u=2:=by omega
               rcases hu3 with e|e|e <;> rw[e] <;> rfl
              have qV:=ae (jv.o.next (jR w1 (.cells #[.string ⟨#[]⟩,.string ⟨#[]⟩,.string ⟨#[84]⟩] 9)));have bS:=ae (dK.o.below (jR w1 (.cells #[.string ⟨#[]⟩,.string ⟨#[]⟩,.string ⟨#[84]⟩] 9)) dK.o.lt);have nV:=ae (ma.o.next (jR w1 (.cells #[.string ⟨#[]⟩,.string ⟨#[]⟩,.string ⟨#[84]⟩] 9)));have iu:(u:Int)<3:=by omega
              have JW:=HA2.o;go_wp2_with (refine oN rfl (.tmp 7) _ rfl z _ { Nd.zero with kind:=5,ref:=⟨sh,(v:Int),(x:Int),ac,false⟩ } _ (.slice none 0 0) rfl rfl bS.o rfl ?_;intro iN h1 h2;have mf:=ae h1;have fA:=ae h2;clear h1 h2)
              go_meet
              case rel =>
               refine⟨_,_,rfl,rfl,ae ⟨qV.o.over bS.o gN.o.1 gN.o.2 fA.o,⟨.slice none 0 0, ?_, ?_⟩,.inl ⟨rfl,aM.o⟩⟩⟩
               · rw[gq.o];exact mf.o
               · rw[aM.o,Nat.sub_zero,List.drop_length];exact nV.o.over bS.o fA.o
            have d4:((r8:Int) == 4)=false:=by rw[beq_eq_false_iff_ne];omega
            by_cases c5:r8=5
            · have d5:((r8:Int) == 5)=true:=by rw[beq_iff_eq];omega
              have gq:=ae (show jD m st.length (st.drop (st.length - fI m st.length))=Dw m from by rw[AO.o];unfold wX;rw[if_neg (by rw[tO.o];exact c4),if_pos (tO.o.trans c5)]);clear c4 c5;obtain⟨jO,hq8⟩:∃q,m / 8=q:=⟨_,rfl⟩;obtain⟨q16,vO⟩:∃q,m / 16=q:=⟨_,rfl⟩;have a1:(m:Int).tdiv 8=(jO:Int):=by rw[Int.tdiv_eq_ediv_of_nonneg (by omega)];omega
              have a2:(m:Int) / 8=(jO:Int):=by omega
              have a3:IntKind.i64.wrap (jO:Int)=(jO:Int):=by rw[gV];omega
              have a4:(m:Int).tdiv 16=(q16:Int):=by rw[Int.tdiv_eq_ediv_of_nonneg (by omega)];omega
              have a5:(m:Int) / 16=(q16:Int):=by omega
              have a6:IntKind.i64.wrap (q16:Int)=(q16:Int):=by rw[gV];omega
              have abh:jO<32:=by omega
              have l16:q16<16:=by omega
              obtain⟨u,hu⟩:∃r,q16 % 3=r:=⟨_,rfl⟩;have ua:(q16:Int).tmod 3=(u:Int):=by rw[tJ (by omega)];omega
              have ub:(q16:Int) % 3=(u:Int):=by omega
              have uc:IntKind.i64.wrap (u:Int)=(u:Int):=by rw[gV];omega
              have ud:u<3:=by omega
              obtain⟨v,hv⟩:∃r,jO % 4=r:=⟨_,rfl⟩;have va:(jO:Int).tmod 4=(v:Int):=by rw[tJ (by omega)];omega
              have vb:(jO:Int) % 4=(v:Int):=by omega
              have vc:IntKind.i64.wrap (v:Int)=(v:Int):=by rw[gV];omega
              have vd:v<4:=by omega
              obtain⟨x,hx⟩:∃r,1+q16=r:=⟨_,rfl⟩;obtain⟨y,hy⟩:∃r,2+jO=r:=⟨_,rfl⟩;have a7:(1:Int)+(q16:Int)=(x:Int):=by omega
              have a8:(2:Int)+(jO:Int)=(y:Int):=by omega
              have a9:IntKind.i64.wrap (x:Int)=(x:Int):=by rw[gV];omega
              have a10:IntKind.i64.wrap (y:Int)=(y:Int):=by rw[gV];omega
              have hrf:Dw m=KV (u:Int) (v:Int) (x:Int) (y:Int):=by unfold Dw KV DL DN;rw[vO,hq8,hu,hv,hx,hy]
              rw[hrf]at gq;have VZ:=ae hrf;have VU:=ae hq8;have VS:=ae vO;have HU:=ae hu;have dH:=ae hv;have HX:=ae hx;have iY:=ae hy;clear hrf hq8 vO hu hv hx hy;go_wp2_with (refine oN rfl (.tmp 7) _ rfl z _ (KV (u:Int) (v:Int) (x:Int) (y:Int)) _ (.slice none 0 0) rfl rfl dK.o rfl ?_;intro iN h1 h2;have mf:=ae h1;have fA:=ae h2;clear h1 h2)
              go_meet
              case rel =>
               refine⟨_,_,rfl,rfl,ae ⟨jv.o.over dK.o gN.o.1 gN.o.2 fA.o,⟨.slice none 0 0, ?_, ?_⟩,.inl ⟨rfl,aM.o⟩⟩⟩
               · rw[gq.o];exact mf.o
               · rw[aM.o,Nat.sub_zero,List.drop_length];exact ma.o.over dK.o fA.o
            have d5:((r8:Int) == 5)=false:=by rw[beq_eq_false_iff_ne];omega
            by_cases c7:r32=7
            · have d7:((r32:Int) == 7)=true:=by rw[beq_iff_eq];omega
              have gq:=ae (show jD m st.length (st.drop (st.length - fI m st.length))={ Nd.zero with kind:=2,text:=wh m }from by rw[AO.o];unfold wX;rw[if_neg (by rw[tO.o];exact c4),if_neg (by rw[tO.o];exact c5),if_pos (wD.o.trans c7)]);clear c4 c5 c7
              as_aux_lemma =>
               have hts:=U1 m hm;obtain⟨dg,hdg⟩:∃d,strOfNums (aQ m)=d:=⟨_,rfl⟩;obtain⟨tx,htx⟩:∃t,wh m=t:=⟨_,rfl⟩;have e7:(⟨#[97,34]⟩:ByteArray)++dg=tx:=by rw[← hdg, ← htx,show(⟨#[97,34]⟩:ByteArray)=strOfNums [97,34]by decide,lZ];rfl
               have z7:(⟨#[97,34]⟩:ByteArray).size+dg.size≤300:=by rw[← ByteArray.size_append,e7, ← htx];exact hts
               have lL:¬ (9223372036854775807:Int)<((⟨#[97,34]⟩:ByteArray).size:Int)+(dg.size:Int):=by omega
               have x7:(⟨#[97,34]⟩:ByteArray).size+dg.size≤9223372036854775807:=by omega
               rw[htx]at gq;have Vp:=ae hdg;have nY:=ae htx;clear hdg htx hts z7
               go_wp2_with (first
                | (go_at_call 16;((with_reducible refine(vU m (by omega) _).mono ?_);rintro e w2 ⟨rfl,hb⟩;rw[Vp.o];have qV:=ae (jv.o.next hb);have bS:=ae (dK.o.below hb dK.o.lt);have nV:=ae (ma.o.next hb);clear hb))
                | (refine oN rfl (.tmp 7) _ rfl z _ { Nd.zero with kind:=2,text:=tx } _ (.slice none 0 0) rfl rfl bS.o rfl ?_;intro iN h1 h2;have mf:=ae h1;have fA:=ae h2;clear h1 h2))
               go_meet
               case rel =>
                refine⟨_,_,rfl,rfl,ae ⟨qV.o.over bS.o gN.o.1 gN.o.2 fA.o,⟨.slice none 0 0, ?_, ?_⟩,.inl ⟨rfl,aM.o⟩⟩⟩
                · rw[gq.o];exact mf.o
                · rw[aM.o,Nat.sub_zero,List.drop_length];exact nV.o.over bS.o fA.o
            have d7:((r32:Int) == 7)=false:=by rw[beq_eq_false_iff_ne];omega
            by_cases c10:r32=10
            · have d10:((r32:Int) == 10)=true:=by rw[beq_iff_eq];omega
              have gq:=ae (show jD m st.length (st.drop (st.length - fI m st.length))={ Nd.zero with kind:=3,num:=((m / 32 % 2:Nat):Int) }from by rw[AO.o];unfold wX;rw[if_neg (by rw[tO.o];exact c4),if_neg (by rw[tO.o];exact c5),if_neg (by rw[wD.o];exact c7),if_pos (wD.o.trans c10)]);clear c4 c5 c7 c10
              as_aux_lemma =>
               obtain⟨BB,FC⟩:∃q,m / 32=q:=⟨_,rfl⟩;obtain⟨rb,hrb⟩:∃r,m / 32 % 2=r:=⟨_,rfl⟩;have x1:(m:Int).tdiv 32=(BB:Int):=by rw[Int.tdiv_eq_ediv_of_nonneg (by omega)];omega
               have x2:(m:Int) / 32=(BB:Int):=by omega
               have x3:IntKind.i64.wrap (BB:Int)=(BB:Int):=by rw[gV];omega
               have x4:(BB:Int).tmod 2=(rb:Int):=by rw[tJ (by omega)];omega
               have x5:(BB:Int) % 2=(rb:Int):=by omega
               have x6:IntKind.i64.wrap (rb:Int)=(rb:Int):=by rw[gV];omega
               rw[hrb]at gq;have HQB:=ae FC;have HRB:=ae hrb;clear FC hrb;go_wp2_with (refine oN rfl (.tmp 7) _ rfl z _ { Nd.zero with kind:=3,num:=(rb:Int) } _ (.slice none 0 0) rfl rfl dK.o rfl ?_;intro iN h1 h2;have mf:=ae h1;have fA:=ae h2;clear h1 h2)
               go_meet
               case rel =>
                refine⟨_,_,rfl,rfl,ae ⟨jv.o.over dK.o gN.o.1 gN.o.2 fA.o,⟨.slice none 0 0, ?_, ?_⟩,.inl ⟨rfl,aM.o⟩⟩⟩
                · rw[gq.o];exact mf.o
                · rw[aM.o,Nat.sub_zero,List.drop_length];exact ma.o.over dK.o fA.o
            have d10:((r32:Int) == 10)=false:=by rw[beq_eq_false_iff_ne];omega
            by_cases c11:r32=11
            · have d11:((r32:Int) == 11)=true:=by rw[beq_iff_eq];omega
              have gq:=ae (show jD m st.length (st.drop (st.length - fI m st.length))={ Nd.zero with kind:=4 }from by rw[AO.o];unfold wX;rw[if_neg (by rw[tO.o];exact c4),if_neg (by rw[tO.o];exact c5),if_neg (by rw[wD.o];exact c7),if_neg (by rw[wD.o];exact c10),if_pos (wD.o.trans c11)]);clear c4 c5 c7 c10 c11
              as_aux_lemma =>
               go_wp2_with (refine oN rfl (.tmp 7) _ rfl z _ { Nd.zero with kind:=4 } _ (.slice none 0 0) rfl rfl dK.o rfl ?_;intro iN h1 h2;have mf:=ae h1;have fA:=ae h2;clear h1 h2)
               go_meet
               case rel =>
                refine⟨_,_,rfl,rfl,ae ⟨jv.o.over dK.o gN.o.1 gN.o.2 fA.o,⟨.slice none 0 0, ?_, ?_⟩,.inl ⟨rfl,aM.o⟩⟩⟩
                · rw[gq.o];exact mf.o
                · rw[aM.o,Nat.sub_zero,List.drop_length];exact ma.o.over dK.o fA.o
            have d11:((r32:Int) == 11)=false:=by rw[beq_eq_false_iff_ne];omega
            have gq:=ae (show jD m st.length (st.drop (st.length - fI m st.length))={ Nd.zero with kind:=1,num:=(m:Int) }from by rw[AO.o];unfold wX;rw[if_neg (by rw[tO.o];exact c4),if_neg (by rw[tO.o];exact c5),if_neg (by rw[wD.o];exact c7),if_neg (by rw[wD.o];exact c10),if_neg (by rw[wD.o];exact c11)]);clear c4 c5 c7 c10 c11
            as_aux_lemma =>
             go_wp2_with fail
             go_meet
             case rel =>
              refine⟨_,_,rfl,rfl,ae ⟨jv.o,⟨.slice none 0 0, ?_, ?_⟩,.inl ⟨rfl,aM.o⟩⟩⟩
              · rw[gq.o];exact dK.o
              · rw[aM.o,Nat.sub_zero,List.drop_length];exact ma.o
     case rest =>
      obtain⟨s9,fJ,rfl,rfl,HW⟩:=hcut;obtain⟨hmk,⟨aS,hnd,yf⟩,hvw⟩:=HW.o;clear HW jv dK;have HR:=ae (HI.o.round m hm);rw[fw,iW.o.symm,HK.o]at HR;rw[HK.o]at hnd yf hvw;have hks:=abd m k (st.drop (k - fI m k)) hm (by rw[List.length_drop,HK.o];have:=UD m k;omega);obtain⟨v,hv,lv⟩:=yf.nv _ hks;have hk2:v.n.kids=st.drop (k - fI m k):=by rw[hv];exact hks
      rw[← hk2]at yf;clear hk2;rw[← hv]at hnd HR;subst lv;obtain⟨L,hL⟩:∃L,vs.map (·.n)++[v.n]=L:=⟨_,rfl⟩;rw[hL]at HR;have HL:=ae hL;clear hL;go_upto_region 28 with (fail)
      go_cut [4]from 176 to 180 (fun sk wx=>∃(DW:List Int)(s5:Value)(Ho:World),s5=sk∧Ho=wx∧Hid (iZ w Ho (.slice Av nl cl) s5 vs DW)∧Hid (ax Ho z v.n v.aS)∧Hid (ic Ho w.heap.size s5 v.aS v.n.kids)∧Hid (kz L DW))
      case first =>
       as_aux_lemma =>
        rcases hvw with ⟨rfl,ht0⟩|⟨A5,c5,h5,rfl⟩
        · rw[ht0,Nat.sub_zero,pW (by rw[HK.o];exact ah _)]at HR
          have HM:=ae hmk;have HN:=ae hnd;have HH:=ae yf;clear hmk hnd yf hv hks;go_wp2_with (at_builtin;refine BU jH.o (aK .i64) rfl (.tmp 176) (.tmp 179) rfl w.heap.size _ st rfl (HM.o.je.alloc _) ⟨_,0,none⟩ 1 1 [(nl:Int)] rfl rfl ?_ ?_ ?_ ?_ ?_;exact gQ _ _ _ rfl;(rw[HK.o];exact bF (Nat.mul_le_mul_left _ jK) (by omega));(rw[HK.o];unfold maxLen;omega);(rw[kK];exact bF HM.o.iQ.size (Nat.le_succ _));intro v5 w5 h1 h2 h3;have fP:=ae (ax.grow (HN.o.below (jR _ _) HN.o.lt) (HM.o.je.alloc _) h2);have tK:=ae ((HM.o.next (jR _ _)).push h1 h2 h3);have yT:=ae ((HH.o.next (jR _ _)).grow h2 h3);clear h1 h2 h3)
          go_meet
          case rel=>exact⟨_,_,_,rfl,rfl,tK,fP,yT,HR⟩
        · injection h5 with h5 _ _
          subst h5;obtain⟨f,hf⟩:∃f,k - fI m k=f:=⟨_,rfl⟩;rw[hf]at HR ⊢;have J4:f≤k:=by omega
          obtain⟨hfn,hfc⟩:=Own.RP hmk.je f;have hfl:(st.take f).length=f:=by rw[gK,HK.o];exact Nat.min_eq_left J4
          have Ig:=ae (show As=none→f=0∧f=0 from fun e=>by have:=hfn e;omega);have Ic:=ae hfc;have Ck:=ae hfl;have HM:=ae hmk;have HN:=ae hnd;have HH:=ae yf;clear hmk hnd yf hv hks hf hfn hfc hfl;go_wp2_with (at_builtin;refine Hm jH.o (aK .i64) rfl (.tmp 176) (.tmp 179) rfl As f f (st.take f) rfl Ig.o Ck.o (fun b e j u hu=>(sj _ _ _ (Ic.o b e j u hu))) ⟨_,0,none⟩ 1 1 [(nl:Int)] rfl rfl ?_ (by omega) ?_ ?_ ?_;exact gQ _ _ _ rfl;(exact bF (Nat.mul_le_mul_left _ jK) (by omega));(unfold maxLen;omega);intro v5 w5 h1 h2;have fP:=ae ((HN.o.below (jR _ _) HN.o.lt).below h2 (ax.lt (HN.o.below (jR _ _) HN.o.lt)));have tK:=ae ((HM.o.next (jR _ _)).fresh h1 h2);have yT:=ae ((HH.o.next (jR _ _)).fresh h1 h2);clear h1 h2)
          go_meet
          case rel=>exact⟨_,_,_,rfl,rfl,tK,fP,yT,HR⟩
      case rest =>
       obtain⟨DW,s5,w5,rfl,rfl,tK,fP,yT,vz⟩:=hcut;clear hmk hnd yf hv hks hvw HR;go_wp2_with (first|(refine wpList_load_row rfl 45 (.tmp 7) rfl z rfl 45 #[.int .i64 v.n.kind,.int .i64 v.n.num,.string v.n.text,.string v.n.ref.sh,.int .i64 v.n.ref.c,.int .i64 v.n.ref.r,.bool v.n.ref.ac,.bool v.n.ref.ar,.string v.n.af.sh,.int .i64 v.n.af.c,.int .i64 v.n.af.r,.bool v.n.af.ac,.bool v.n.af.ar,v.aS] _ _ fP.o Tryz.underlying45 rfl zX ?_)|(at_builtin;refine BU IA.o o8 rfl (.tmp 181) (.tmp 183) rfl w.heap.size _ vs rfl (tK.o.nodes.alloc _) ⟨_,0,none⟩ 1 1 [v] rfl rfl ?_ ?_ ?_ ?_ ?_;exact gQ _ _ _ rfl;(rw[← iW.o];exact bF (Nat.mul_le_mul_left _ JS) (by omega));(rw[← iW.o];unfold maxLen;omega);(rw[kK];exact bF tK.o.iQ.size (Nat.le_succ _));intro v6 w6 h1 h2 h3;have qX:=ae h1;have qQ:=ae h2;clear h1 h2 h3))
       go_roundw
       case rel =>
        refine⟨i+1,nl+1,vs++[v],DW,_,_,by omega,(by rw[ak, ← iW.o];rfl),by omega,rfl,rfl,by go_num,ae ?_,ae ?_⟩
        · exact(tK.o.next (jR _ _)).node v (yT.o.next (jR _ _)) qX.o qQ.o
        · rw[iy];show kz (vs.map (·.n)++[v.n]) DW;rw[HL.o];exact vz.o
       case measure=>simp[intOf];omega
   · by_cases hin:i<n
     · have h4:nl=40:=by omega
       subst h4;have hii:(i:Int)<(n:Int):=by omega
       obtain⟨Av,cl,rfl⟩:=yu HM.o.nodes 40 hnl.symm;go_wp2_with fail
       go_meet
       case rel=>exact⟨vs,st,_,_,_,rfl,rfl,rfl,HM,HI,ae (Nat.le_of_eq hnl.symm)⟩
     · have hii:¬ (i:Int)<(n:Int):=by omega
       go_wp2_with fail
       go_meet
       case rel=>exact⟨vs,st,_,_,_,rfl,rfl,rfl,HM,HI,ae (by rw[← hnl];exact Zi)⟩
 case rest =>
  obtain⟨vs,st,lk,sk,fJ,rfl,rfl,rfl,HM,HI,HL⟩:=hcut;obtain⟨eb,jK,bV⟩:=Elem.kid;obtain⟨nb,JS,CF⟩:=Elem.il;have jH:=ae bV;have IA:=ae CF;clear bV CF;go_upto_region 30 with (fail)
  go_loopw [3,4] (fun fU sv wr=>∃(k nl:Nat)(vs:List az)(st:List Int)(lk sk:Value),nl+k≤80∧lk=fU∧sk=sv∧Hid (vs.length=nl)∧Hid (st.length=k)∧Hid (iZ w wr lk sk vs st)∧Hid (kz (vs.map (·.n)) st)) (fun _ sv _=>lenOf sv)
  case atStart =>
   have h1:=HI.o.few;have h2:=HL.o;rw[fw]at h1;exact⟨st.length,vs.length,vs,st,_,_,by omega,rfl,rfl,ae rfl,ae rfl,HM,HI⟩
  case round =>
   obtain⟨k,nl,vs,st,lk,sk,h80,rfl,rfl,iW,HK,HM,HI⟩:=hrel;obtain⟨Av,cl,rfl⟩:=yu HM.o.nodes nl iW.o;obtain⟨As,cs,rfl⟩:=yu HM.o.je k HK.o;by_cases hlt:1<k
   · have hii:(1:Int)<(k:Int):=by omega
     have hk2:2≤k:=hlt;obtain⟨i2,hi2⟩:∃i,k - 2=i:=⟨_,rfl⟩;obtain⟨i1,hi1⟩:∃i,k - 1=i:=⟨_,rfl⟩;have b1:(k:Int) - 2=(i2:Int):=by omega
     have b2:(k:Int) - 1=(i1:Int):=by omega
     have b5:IntKind.i64.wrap (i2:Int)=(i2:Int):=by rw[gV];omega
     have b6:IntKind.i64.wrap (i1:Int)=(i1:Int):=by rw[gV];omega
     have l2:i2<k:=by omega
     have l1:i1<k:=by omega
     have j2:(i2:Int)<(k:Int):=by omega
     have j1:(i1:Int)<(k:Int):=by omega
     have n2:(0:Int)≤(i2:Int):=by omega
     have n1:(0:Int)≤(i1:Int):=by omega
     obtain⟨g,cg,hA,hg0,hg1,hg2,hg3⟩:=Own.some HM.o.je (by rw[HK.o];omega);injection hA with hA1 hA2 hA3;subst hA1;have hdr:=O8 HK.o hk2;rw[hi2,hi1]at hdr;obtain⟨a,ha⟩:∃a,st.getD i2 0=a:=⟨_,rfl⟩;obtain⟨b,hb⟩:∃b,st.getD i1 0=b:=⟨_,rfl⟩;have ca:wr.cell? ⟨g,i2,none⟩=some (.int .i64 a):=by rw[← ha];exact Own.vQ HM.o.je i2 (by rw[HK.o];exact l2)
     have cb:wr.cell? ⟨g,i1,none⟩=some (.int .i64 b):=by rw[← hb];exact Own.vQ HM.o.je i1 (by rw[HK.o];exact l1)
     rw[ha,hb]at hdr;have hcs:i2≤cs:=by rw[hA3];have:=HK.o;omega
     have xD:=ae (show kz (vs.map (·.n)++[JC a b]) (st.take i2++[((vs.map (·.n)).length:Int)])from kz.cat (by rw[← hdr,List.take_append_drop];exact HI.o));have HI2:=ae hi2;have y7:=ae (show(st.take i2).length=i2 from by rw[gK,HK.o];omega);have ma:=ae (ic.TI (w:=wr.drew) HM.o.iQ.size HM.o.drew.je a b);obtain⟨v,hv,lv⟩:=ma.o.nv (JC a b) rfl;have dH:=ae hv;have VE:=ae lv;have qV:=ae (HM.o.drew.next (jR wr.drew (.cells #[.int .i64 a,.int .i64 b] 3)));have vk:=ae (qV.o.next (jR (wr.drew.alloc (.cells #[.int .i64 a,.int .i64 b] 3)) (.cells #[.int .i64 15,.int .i64 0,.string ⟨#[]⟩,.string ⟨#[]⟩,.int .i64 0,.int .i64 0,.bool false,.bool false,.string ⟨#[]⟩,.int .i64 0,.int .i64 0,.bool false,.bool false,.slice (some ⟨wr.heap.size,0,none⟩) 2 2] 45)));have nW:=ae (ma.o.next (jR (wr.drew.alloc (.cells #[.int .i64 a,.int .i64 b] 3)) (.cells #[.int .i64 15,.int .i64 0,.string ⟨#[]⟩,.string ⟨#[]⟩,.int .i64 0,.int .i64 0,.bool false,.bool false,.string ⟨#[]⟩,.int .i64 0,.int .i64 0,.bool false,.bool false,.slice (some ⟨wr.heap.size,0,none⟩) 2 2] 45)))
     have qP:=ae (show ∀(j:Nat)(u:Value),(o8.all [v])[j]? = some u→((wr.drew.alloc (.cells #[.int .i64 a,.int .i64 b] 3)).alloc (.cells #[.int .i64 15,.int .i64 0,.string ⟨#[]⟩,.string ⟨#[]⟩,.int .i64 0,.int .i64 0,.bool false,.bool false,.string ⟨#[]⟩,.int .i64 0,.int .i64 0,.bool false,.bool false,.slice (some ⟨wr.heap.size,0,none⟩) 2 2] 45)).cell? ((⟨wr.heap.size+1,0,none⟩:Addr).add j)=some u from by
      have e:o8.all [v]=(#[.int .i64 15,.int .i64 0,.string ⟨#[]⟩,.string ⟨#[]⟩,.int .i64 0,.int .i64 0,.bool false,.bool false,.string ⟨#[]⟩,.int .i64 0,.int .i64 0,.bool false,.bool false,.slice (some ⟨wr.heap.size,0,none⟩) 2 2]:Array Value).toList:=by show o8.f v++[]=_;rw[fM];show(bJ v.n v.aS).toList=_;rw[hv,lv];rfl
      rw[e];intro j u hj;have:=gQ (w:=(wr.drew.alloc (.cells #[.int .i64 a,.int .i64 b] 3))) #[.int .i64 15,.int .i64 0,.string ⟨#[]⟩,.string ⟨#[]⟩,.int .i64 0,.int .i64 0,.bool false,.bool false,.string ⟨#[]⟩,.int .i64 0,.int .i64 0,.bool false,.bool false,.slice (some ⟨wr.heap.size,0,none⟩) 2 2] 45 _ rfl j u hj;rwa[kK]at this)
     have bY:=ae (show wr.drew.cell? ⟨g,i2,none⟩=some (.int .i64 a)∧wr.drew.cell? ⟨g,i1,none⟩=some (.int .i64 b)from⟨ca,cb⟩);have HS2:=ae (show(wr.drew.alloc (.cells #[.int .i64 a,.int .i64 b] 3)).cell? ⟨g,i2,none⟩=some (.int .i64 a)∧(wr.drew.alloc (.cells #[.int .i64 a,.int .i64 b] 3)).cell? ⟨g,i1,none⟩=some (.int .i64 b)from⟨sj _ _ _ bY.o.1,sj _ _ _ bY.o.2⟩);have mh:=ae (show((wr.drew.alloc (.cells #[.int .i64 a,.int .i64 b] 3)).alloc (.cells #[.int .i64 15,.int .i64 0,.string ⟨#[]⟩,.string ⟨#[]⟩,.int .i64 0,.int .i64 0,.bool false,.bool false,.string ⟨#[]⟩,.int .i64 0,.int .i64 0,.bool false,.bool false,.slice (some ⟨wr.heap.size,0,none⟩) 2 2] 45)).cell? ⟨g,i2,none⟩=some (.int .i64 a)∧((wr.drew.alloc (.cells #[.int .i64 a,.int .i64 b] 3)).alloc (.cells #[.int .i64 15,.int .i64 0,.string ⟨#[]⟩,.string ⟨#[]⟩,.int .i64 0,.int .i64 0,.bool false,.bool false,.string ⟨#[]⟩,.int .i64 0,.int .i64 0,.bool false,.bool false,.slice (some ⟨wr.heap.size,0,none⟩) 2 2] 45)).cell? ⟨g,i1,none⟩=some (.int .i64 b)from⟨sj _ _ _ HS2.o.1,sj _ _ _ HS2.o.2⟩);have wy:=ae (show g<((wr.drew.alloc (.cells #[.int .i64 a,.int .i64 b] 3)).alloc (.cells #[.int .i64 15,.int .i64 0,.string ⟨#[]⟩,.string ⟨#[]⟩,.int .i64 0,.int .i64 0,.bool false,.bool false,.string ⟨#[]⟩,.int .i64 0,.int .i64 0,.bool false,.bool false,.slice (some ⟨wr.heap.size,0,none⟩) 2 2] 45)).heap.size∧some g≠(Value.slice Av nl cl).ownBlock from⟨by rw[kK,kK];show g<wr.heap.size+1+1;omega,fun e=>HM.o.je.EW HM.o.nodes (by decide) rfl e⟩);clear hi2 hi1 ha hb hdr hA2 hA3 hg0 hg1 hg2 hg3 hlt hk2 hv lv;go_wp2_with fail
     refine wp_region_held_drew (S:=fun W=>W.cell? ⟨g,i2,none⟩=some (.int .i64 a)∧W.cell? ⟨g,i1,none⟩=some (.int .i64 b)) (by kernel_rfl) bY.o (fun _ => ?_);show wpAnyH _ _ _ _ _ 18 #[false,false,false,false,false,false,false,false,false,false,false,false,false,false,false,false,false,false] _ _;refine hT 0 bY.o ?_;refine hT 1 bY.o ?_;refine hT 2 bY.o ?_;refine hT 3 bY.o ?_;refine hT 4 bY.o ?_;refine hT 5 bY.o ?_;refine hT 6 bY.o ?_ (hy:=by(intro gJ hSw;have hz:=hSw.1;go_simp;try(with_reducible rfl)));refine hT 7 bY.o ?_;refine hT 8 bY.o ?_;refine hT 9 bY.o ?_;refine hT 10 bY.o ?_;refine hT 11 bY.o ?_;refine hT 12 bY.o ?_ (hy:=by(intro gJ hSw;have hz:=hSw.2;go_simp;try(with_reducible rfl)));refine hO 13 (fun K hK => ?_);go_simp;refine hK.o _ _ HS2.o ?_;clear hK K;simp only[Act.put,sT,fG,fF];refine hT 14 HS2.o ?_;refine hO 15 (fun K hK => ?_);go_simp;refine hK.o _ _ mh.o ?_;clear hK K;simp only[Act.put,sT,fG,fF];refine hO 16 (fun K hK => ?_);refine ahJ IA.o o8 rfl (.tmp 188) (.tmp 203) rfl w.heap.size _ vs rfl vk.o.nodes ⟨wr.heap.size+1,0,none⟩ 1 1 [v] rfl rfl qP.o ?_ ?_ ?_ ?_
     · (rw[iW.o];exact bF (Nat.mul_le_mul_left _ JS) (by omega))
     · (rw[iW.o];unfold maxLen;omega)
     · exact vk.o.iQ.size
     intro v4 w4 h1 h2 _;have mP:=ae h1;have nH:=ae h2;clear h1 h2;have q8:=ae (show w4.cell? ⟨g,i2,none⟩=some (.int .i64 a)∧w4.cell? ⟨g,i1,none⟩=some (.int .i64 b)from⟨(Bb (a:=⟨g,i2,none⟩) nH.o wy.o.1 wy.o.2).trans mh.o.1,(Bb (a:=⟨g,i1,none⟩) nH.o wy.o.1 wy.o.2).trans mh.o.2⟩);refine hK.o _ _ q8.o ?_;clear hK K;simp only[Act.put,sT,fG,fF];refine hT 17 q8.o ?_;refine wpAnyH_done (by kernel_rfl) ?_ _;obtain⟨A4,c4,rfl⟩:=yu mP.o (nl+1) (by rw[ak,iW.o];rfl);have Ns:=ae (vk.o.node v (by rw[dH.o,VE.o];exact nW.o) mP.o nH.o);obtain⟨hfn,hfc⟩:=Own.RP Ns.o.je i2;have Ig:=ae (show(some ⟨g,0,none⟩:Option Addr)=none→i2=0∧i2=0 from fun e=>nomatch e);have Ic:=ae hfc;have s1:((nl+1:Nat):Int) - 1=(nl:Int):=by omega
     have s3:(nl:Int)+1 - 1=(nl:Int):=by omega
     have s2:IntKind.i64.wrap (nl:Int)=(nl:Int):=by rw[gV];omega
     clear hfn hfc;go_wp2_with (at_builtin;refine Hm jH.o (aK .i64) rfl (.tmp 212) (.tmp 216) rfl (some ⟨g,0,none⟩) i2 i2 (st.take i2) rfl Ig.o y7.o (fun b e j u hu=>(sj _ _ _ (Ic.o b e j u hu))) ⟨_,0,none⟩ 1 1 [(nl:Int)] rfl rfl ?_ (by omega) ?_ ?_ ?_;exact gQ _ _ _ rfl;(exact bF (Nat.mul_le_mul_left _ jK) (by omega));(unfold maxLen;omega);intro v5 w5 h1 h2;obtain⟨A5,c5,rfl⟩:=yu h1 (i2+1) (by rw[ak,y7.o];rfl);have vo:=ae h1;have tK:=ae ((Ns.o.next (jR _ _)).fresh h1 h2);clear h1 h2)
     go_roundw
     case rel =>
      refine⟨i2+1,nl+1,vs++[v],st.take i2++[(nl:Int)],_,_,by omega,rfl,rfl,ae (by rw[ak,iW.o];rfl),ae (by rw[ak,y7.o];rfl),tK,ae ?_⟩;have:=xD.o;rw[fw,iW.o]at this;rw[iy];show kz (vs.map (·.n)++[v.n]) _;rw[dH.o];exact this
     case measure=>simp[lenOf];omega
   · have hii:¬ (1:Int)<(k:Int):=by omega
     go_wp2_with fail
     go_ret;exact⟨_,_,vs,st,rfl,HM.o,HI.o,by rw[HK.o];omega,by rw[iW.o];omega⟩
end Go.Proofs.YtaobhjliflomaaaGreatDoor
namespace Go.Proofs.YtaobhjliflomaaaGreatDoor
open Go.ChangeShapes Go.WideShapes Go.ChangeAt Go.RowKit
theorem X8:Tryz.prog.cellsOf 5=1:=by kernel_rfl
theorem adr {H:Type}{enc:TypeId × Value→H}{W:World}{base:Nat}{v:Value}{d:DataW H}{p:List MemPlace}(hval:Value.okWide Tryz.prog W .any base 22 v)(h:DataW.Trod enc Tryz.prog W 0 (fun _=>true) true 22 v d p) :
 ∃A len cap xs,v = .slice A len cap∧S8 W W.heap.size A len cap xs:=by
 obtain⟨A,len,cap,rfl⟩:=okWide_slice Tryz.underlying22 hval;obtain⟨fuel,hf⟩:=h;rcases open_ints Tryz.underlying22 Tryz.underlying5 X8 hf with ⟨hcs,_⟩|⟨a,aiS,oZ,zs,hcs,_,hl,hm,hz,_,hcell,hwz⟩
 · simp[Value.cells]at hcs
   obtain⟨rfl,rfl,rfl⟩:=hcs;exact⟨none,0,0,[],rfl,rfl,ah _,by unfold maxLen;omega,Bytes.nil,.inl rfl⟩
 · simp [Value.cells]at hcs
   obtain⟨rfl,rfl,rfl⟩:=hcs;simp only[if_true]at hz;have hb:Bytes zs:=fun n hn=>bounds_u8 (hwz n hn)
   by_cases h0:cap=0
   · have hl0:len=0:=by omega
     exact⟨some a,len,cap,zs.take len,rfl,by rw[gK];omega,hl,hm,hb.take _,.inl hl0⟩
   · obtain⟨b,off,rfl,hc⟩:=ints_at hcell (by omega)
     refine⟨some ⟨b,off,none⟩,len,cap,zs.take len,rfl,by rw[gK];omega,hl,hm,hb.take _,.inr ⟨b,off,rfl,block_lt_of_cell (hc 0 (by omega)),fun j hj => ?_⟩⟩;rw[hc j (by omega)];congr 2;simp only[jG];rw[List.getElem?_take_of_lt hj]
end Go.Proofs.YtaobhjliflomaaaGreatDoor
namespace Go.Proofs.YtaobhjliflomaaaGreatDoor
open Go.ChangeShapes Go.WideShapes Go.ChangeAt Go.RowKit
def G9{H:Type}(bs:List (List UInt8)):DataW H := .agg (bs.map fun b => .lit (.string b))
theorem OX {H:Type}{enc:TypeId × Value→H}{P:Program}{w:World}{base:Nat}{sp:Nat→Bool}{held:Bool}{fuel:Nat}{t e:TypeId}{n:Nat}{cs:List Value}{bs:List (List UInt8)}{p:List MemPlace}
 (ht:P.underlying t=some (.array n e)) (he:P.underlying e=some .string) (hce:P.cellsOf e=1) (hct:P.cellsOf t=n)
 (h:DataW.trod enc P w base sp held fuel t cs=some (G9 bs,p)):cs=bs.map fun b=>Value.string ⟨b.toArray⟩:=by
 cases fuel with
 | zero=>simp[DataW.trod]at h
 | succ fuel =>
   simp only[DataW.trod,ht,hce,hct,Nat.mul_one]at h;split at h
   · rename_i hl
     obtain⟨xs,hm,hx⟩:=Option.map_eq_some_iff.1 h
     have hxs:xs.map (·.1)=bs.map fun b=>(DataW.lit (.string b):DataW H):=by
      have:=congrArg Prod.fst hx
      simpa [G9]using this
     have hxl:xs.length=n:=by simpa using Lib.mapM_length hm
     have hzl:bs.length=n:=by
      have:=congrArg List.length hxs;simp at this;omega
     apply List.ext_getElem?;intro i;by_cases hi:i<n
     · obtain ⟨b,hb,hf⟩:=Lib.mapM_at hm i i (by simp[hi])
       obtain⟨z,hc,rfl,_⟩:=DataW.trod_string he hf
       have h1:cs[i]? = some (.string z):=by
        have:=congrArg (·[0]?) hc
        simpa [List.getElem?_take,List.getElem?_drop]using this
       have h2:(xs.map (·.1))[i]? = some (DataW.lit (.string z.data.toList):DataW H):=by simp[hb]
       rw[hxs]at h2;simp only[iw,Option.map_eq_some_iff,DataW.lit.injEq,Lit.string.injEq]at h2;obtain⟨z',hz',e⟩:=h2;simp only[h1,iw,hz',Option.map_some,e]
     · rw[List.getElem?_eq_none (by omega),List.getElem?_eq_none (by simp;omega)]
   · cases h
def oG : List (String × DataW Unit) := [("math/bits.deBruijn32tab", Rows.laid_math_bits_deBruijn32tab), ("math/bits.deBruijn64tab", Rows.laid_math_bits_deBruijn64tab), ("internal/strconv.uint64pow10", Rows.laid_internal_strconv_uint64pow10), ("unicode/utf8.acceptRanges", Rows.laid_unicode_utf8_acceptRanges), ("strconv.ErrRange", Rows.laid_strconv_ErrRange), ("strconv.ErrSyntax", Rows.laid_strconv_ErrSyntax), ("chequer/lex.signs", Rows.laid_chequer_lex_signs), ("chequer/parse.operators", Rows.laid_chequer_parse_operators), ("chequer/show.signs", Rows.laid_chequer_show_signs), ("unicode/utf8.first", Rows.laid_unicode_utf8_first)]
theorem Ps : Tryz.prog.globalNamed "strconv.ErrRange" = some 8 := by kernel_rfl
theorem Y6:(Tryz.prog.globals[(8:Nat)]?).map (·.type)=some 121:=by kernel_rfl
theorem Pw : Tryz.prog.globalNamed "chequer/lex.signs" = some 1 := by kernel_rfl
theorem Y9:(Tryz.prog.globals[(1:Nat)]?).map (·.type)=some 170:=by kernel_rfl
theorem OV:Tryz.prog.cellsOf 219=1:=by kernel_rfl
theorem E5:Tryz.prog.cellsOf 9=1:=by kernel_rfl
theorem X5:Tryz.prog.cellsOf 170=15:=by kernel_rfl
theorem star : "*" ++ "errors.errorString" = "*errors.errorString" := by decide
theorem TJ (u : TypeId) (h : Tryz.prog.typeName? 3 u = some "*errors.errorString") : u = 217 :=
 typeName_ptr_named (nm := "errors.errorString") (by rw [star]; kernel_rfl) (by kernel_rfl) (by decide) u (by rw [star]; exact h)
def Uh:List (List UInt8):=[[60,62],[60,61],[62,61],[43],[45],[42],[47],[38],[61],[60],[62],[40],[41],[44],[58]]
theorem af5:(Rows.laid_chequer_lex_signs:DataW Unit)=G9 Uh:=rfl
theorem af4:(Uh.map fun b=>Value.string ⟨b.toArray⟩)=yF.toList:=rfl
theorem jl {P:Program}{x:String × DataW Unit}{l:List (String × DataW Unit)}{w:World}(h:laidMet P (x :: l) w):laidMet P l w:=by
 obtain⟨ps,h1,h2,h3⟩:=h;obtain⟨n,d⟩:=x;obtain⟨g,t,cs,fuel,p,q,_,_,_,_,hq,rfl⟩:=h1;exact⟨q,hq,(List.nodup_append.1 h2).2.1,fun b off hm=>h3 b off (List.mem_append_right _ hm)⟩
theorem Zb:(Tryz.prog.globals[3]?).map (·.type)=some 198:=by kernel_rfl
theorem XC:Tryz.prog.cellsOf 198=20:=by kernel_rfl
theorem XB:Tryz.prog.cellsOf 62=1:=by kernel_rfl
theorem agJ {W:World}(h:laidMetH Tryz.prog oG W):kP W:=by
 have h1:laidMet Tryz.prog oG W:=h;exact Lib.tabIs_of_head Py Zb Tryz.underlying198 Tryz.underlying62 XB XC (jl (jl h1))
theorem Pv : Tryz.prog.globalNamed "chequer/show.signs" = some 0 := by kernel_rfl
theorem Y8:(Tryz.prog.globals[(0:Nat)]?).map (·.type)=some 162:=by kernel_rfl
theorem X4:Tryz.prog.cellsOf 162=20:=by kernel_rfl
def Ud:List (List UInt8):=[[],[],[],[],[],[],[],[],[],[61],[60,62],[60],[60,61],[62],[62,61],[38],[43],[45],[42],[47]]
theorem afT:(Rows.laid_chequer_show_signs:DataW Unit)=G9 Ud:=rfl
theorem afS:(Ud.map fun b=>Value.string ⟨b.toArray⟩)=DT.toList:=rfl
theorem agG {W:World}(h:laidMetH Tryz.prog oG W):qc W:=by
 have h1:laidMet Tryz.prog oG W:=h;have h6:=jl (jl (jl (jl (jl (jl (jl (jl (h1))))))));obtain⟨ps,⟨g',t',cs,fuel,p,q,hg',ht',jL,hd,_,_⟩,_⟩:=h6;obtain rfl:=dU (Pv.symm.trans hg');obtain rfl:=dU (Y8.symm.trans ht');rw[afT]at hd;have hc:=OX Tryz.underlying162 Tryz.underlying9 E5 X4 hd;rw[afS]at hc;unfold World.var? at jL;rw[Pv]at jL;simp only[Option.bind_some]at jL;split at jL
 · rename_i cs' ty fr hh
   injection jL with jL;subst jL;have:cs'=DT:=Array.toList_inj.1 hc;exact⟨ty,fr,by rw[← this];exact hh⟩
 · cases jL
theorem tables {W:World}(h:laidMetH Tryz.prog oG W):Vars W:=by
 have h1:laidMet Tryz.prog oG W:=h;have h4:=jl (jl (jl (jl (h1))));constructor
 · obtain⟨a0,s0,hv0, -, -, -⟩:=laid_sentinel h4 Ps Y6 Tryz.underlying121 TJ Tryz.underlying217 Tryz.underlying219 rfl rfl Tryz.underlying9 OV E5
   exact⟨_,by have h0:=World.var?_cell Ps hv0 0;simpa using h0,Or.inr ⟨_,_,rfl⟩⟩
 · have h6:=jl (jl h4)
   obtain⟨ps,⟨g',t',cs,fuel,p,q,hg',ht',jL,hd,_,_⟩,_⟩:=h6;obtain rfl:=dU (Pw.symm.trans hg');obtain rfl:=dU (Y9.symm.trans ht');rw[af5]at hd;have hc:=OX Tryz.underlying170 Tryz.underlying9 E5 X5 hd;rw[af4]at hc;unfold World.var? at jL;rw[Pw]at jL;simp only[Option.bind_some]at jL;split at jL
   · rename_i cs' ty fr hh
     injection jL with jL;subst jL;have:cs'=yF:=Array.toList_inj.1 hc;exact⟨ty,fr,by rw[← this];exact hh⟩
   · cases jL
def opC(q:ByteArray × Nat × Int):List Value:=[.string q.1,.int .i64 (q.2.1:Int),.int .i64 q.2.2]
theorem OU:∀(L:List (ByteArray × Nat × Int))(cs:List Value),cs.length=L.length*3→(∀(i:Nat) q,L[i]? = some q→(cs.drop (i*3)).take 3=opC q)→cs=L.flatMap opC
 | [],cs,h,_=>by simpa using h
 | q :: L,cs,h,hi=>by
   have h0:=hi 0 q rfl;rw[Nat.zero_mul,List.drop_zero]at h0
   have h1:=OU L (cs.drop 3) (by rw[List.length_drop,h,aO];omega) (fun i q' hq=>by
    have:=hi (i+1) q' (by simpa using hq);rw[Nat.succ_mul]at this;rw[List.drop_drop,Nat.add_comm 3];exact this)
   rw[oP, ← h0, ← h1,List.take_append_drop]
def Bw{H:Type}(q:ByteArray × Nat × Int):DataW H := .agg [.lit (.string q.1.data.toList),.lit (.int .i64 (q.2.1:Int)),.lit (.int .i64 q.2.2)]
theorem adu:(Rows.laid_chequer_parse_operators:DataW Unit) = .agg (qE.map Bw):=rfl
theorem Pt : Tryz.prog.globalNamed "chequer/parse.operators" = some 2 := by kernel_rfl
theorem Y7:(Tryz.prog.globals[(2:Nat)]?).map (·.type)=some 173:=by kernel_rfl
theorem X3:Tryz.prog.cellsOf 173=33:=by kernel_rfl
theorem OW:Tryz.prog.cellsOf 172=3:=by kernel_rfl
theorem adp {enc:TypeId × Value→Unit}{w:World}{base:Nat}{sp:Nat→Bool}{held:Bool}{fuel:Nat}{cs:List Value}{q:ByteArray × Nat × Int}{p:List MemPlace}
 (h:DataW.trod enc Tryz.prog w base sp held fuel 172 cs=some (Bw q,p)):cs=opC q:=by
 obtain⟨y0,y1,y2,n,hx,hl,h0,h1,h2⟩:=Go.Deep.trod_struct3 Tryz.underlying172 h;injection hx with hx _;unfold Bw at hx;injection hx with hx;injection hx with e0 hx;injection hx with e1 hx;injection hx with e2 _;rw[OW]at hl
 match cs,hl with
 | [c0,c1,c2],_ =>
   obtain⟨s,g0,g0',_⟩:=DataW.trod_string Tryz.underlying9 h0;obtain⟨n1,g1,g1',_⟩:=DataW.trod_int Tryz.underlying3 h1;obtain⟨n2,g2,g2',_⟩:=DataW.trod_int Tryz.underlying3 h2;have k0:[c0]=[Value.string s]:=g0;have k1:[c1]=[Value.int .i64 n1]:=g1;have k2:[c2]=[Value.int .i64 n2]:=g2;injection k0 with k0 _;injection k1 with k1 _;injection k2 with k2 _;rw[g0']at e0;rw[g1']at e1;rw[g2']at e2;injection e0 with e0;injection e0 with e0;injection e1 with e1;injection e1 with _ e1;injection e2 with e2;injection e2 with _ e2
   have es:s=q.1:=by
    cases s;cases hq:q.1
    rw[hq]at e0;simp only at e0;rw[Array.toList_inj.1 e0.symm]
   rw[k0,k1,k2,es, ← e1, ← e2];rfl
theorem X7 {enc:TypeId × Value→Unit}{w:World}{base:Nat}{sp:Nat→Bool}{held:Bool}{fuel:Nat}{cs:List Value}{p:List MemPlace}
 (h:DataW.trod enc Tryz.prog w base sp held fuel 173 cs=some (.agg (qE.map Bw),p)):cs=qE.flatMap opC:=by
 obtain⟨xs,m,_,hx,hl,hxl,hi⟩:=DataW.trod_array Tryz.underlying173 h;injection hx with hx _;injection hx with hx;rw[X3]at hl;refine OU qE cs (by rw[hl];rfl) fun i q hq => ?_
 have hlt:=(dW.1 hq).1;have hlt:i<11:=hlt;have h1:=hi i hlt;rw[OW]at h1;obtain⟨y,hy⟩:∃y,xs[i]? = some y:=⟨_,dm (by omega)⟩;rw[hy]at h1;have h2:(xs.map (·.1))[i]? = some y.1:=by rw[iw,hy];rfl
 rw[← hx,iw,hq]at h2;have h2:Bw q=y.1:=dU h2;obtain⟨y1,y2⟩:=y;have h2:Bw q=y1:=h2;subst h2;exact adp h1
theorem adh:Aa.toList=qE.flatMap opC:=rfl
theorem agF {W:World}(h:laidMetH Tryz.prog oG W):mQ W:=by
 have h1:laidMet Tryz.prog oG W:=h;have h4:=jl (jl (jl (jl (jl (jl (jl (h1)))))));obtain⟨ps,⟨g',t',cs,fuel,p,q,hg',ht',jL,hd,_,_⟩,_⟩:=h4;obtain rfl:=dU (Pt.symm.trans hg');obtain rfl:=dU (Y7.symm.trans ht');rw[adu]at hd;have hc:=X7 hd;rw[← adh]at hc;unfold World.var? at jL;rw[Pt]at jL;simp only[Option.bind_some]at jL;split at jL
 · rename_i cs' ty fr hh
   injection jL with jL;subst jL;have:cs'=Aa:=Array.toList_inj.1 hc;exact⟨ty,fr,by rw[← this];exact hh⟩
 · cases jL
theorem maxOf {W:World}(h:W.ShapedOpen Tryz.prog):qb W :=
 cell_of_shapedOpen_int (g:=4) (t:=3) (zero:=#[.int .i64 0]) h (of_decide_eq_true (by kernel_rfl)) (by kernel_rfl) rfl (by kernel_rfl) (by kernel_rfl) Tryz.underlying3
theorem agH{W:World}(h:laidMetH Tryz.prog oG W)(hs:W.ShapedOpen Tryz.prog):Sx W:=⟨tables h,agF h,agJ h,maxOf hs,agG h⟩
noncomputable def FW (os:Os):World:=World.laidAll Tryz.prog os oG
theorem abk(os:Os)(args:Array Value):laidMet Tryz.prog oG ((FW os).forCall (fun _ _=>0) ⟨#[],args,[]⟩).memory:=laidMet_laidAll args (by kernel_rfl) (by kernel_rfl)
end Go.Proofs.YtaobhjliflomaaaGreatDoor
namespace Go.Proofs.YtaobhjliflomaaaGreatDoor
open Go.ChangeShapes Go.WideShapes Go.ChangeAt Go.RowKit
theorem Px : Tryz.prog.globalNamed "strconv.ErrSyntax" = some 7 := by kernel_rfl
theorem Za:(Tryz.prog.globals[(7:Nat)]?).map (·.type)=some 121:=by kernel_rfl
theorem agI {W:World}(h:laidMetH Tryz.prog oG W):Cb W:=by
 have h1:laidMet Tryz.prog oG W:=h;have h5:=jl (jl (jl (jl (jl (h1)))));obtain⟨a0,s0,hv0, -, -, -⟩:=laid_sentinel h5 Px Za Tryz.underlying121 TJ Tryz.underlying217 Tryz.underlying219 rfl rfl Tryz.underlying9 OV E5;exact⟨_,by have h0:=World.var?_cell Px hv0 0;simpa using h0,Or.inr ⟨_,_,rfl⟩⟩
theorem agE{W:World}(h:laidMetH Tryz.prog oG W)(hs:W.ShapedOpen Tryz.prog):nG W:=⟨agH h hs,agI h⟩
end Go.Proofs.YtaobhjliflomaaaGreatDoor
