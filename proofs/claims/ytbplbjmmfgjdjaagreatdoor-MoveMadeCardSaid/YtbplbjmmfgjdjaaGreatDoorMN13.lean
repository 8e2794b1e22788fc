import Derived.Test.YtbplbjmmfgjdjaaGreatDoorMN12
import Derived.Deep.CutRange
import Derived.Test.YtbplbjmmfgjdjaaGreatDoorCards
import Derived.Test.YtbplbjmmfgjdjaaGreatDoorTie
import Derived.Shelf.Vars
import Derived.Deep.Strs
import Derived.Stop.LaidErr
import Derived.Lay
set_option maxRecDepth 100000
set_option maxHeartbeats 64000000
namespace Go.Proofs.YtbplbjmmfgjdjaaGreatDoor
open Go.RowKit
variable {w:World}
theorem ahH {B:Nat}{A:Option Addr}{len cap:Nat}{xs:List Int}(h:S8 w B A len cap xs)(i:Nat)(hi:i<len):∃(m pb po:Nat),m<256∧xs[i]? = some (m:Int)∧A=some ⟨pb,po,none⟩∧pb<B∧w.cell? ⟨pb,po+i,none⟩=some (.int .u8 (m:Int)):=by
 rcases h.at_ with h0|⟨pb,po,h1,h2,h3⟩
 · omega
 · have hl:i<xs.length:=by rw[h.hlen];exact hi
   have hx:xs[i]? = some xs[i]:=cZ hl;have hb:=h.bytes xs[i] (fe hx);refine⟨xs[i].toNat,pb,po,by omega,by rw[hx];congr 1;omega,h1,h2, ?_⟩;rw[h3 i hi,kg,hx];show some (Value.int .u8 xs[i])=_;congr 2;omega
theorem kN(w:World)(o:Obj):Below w.heap.size w (w.alloc o):=(ak _ _).alloc (aj _) _
theorem uA (w:World)(o:Obj)(a:Addr){u:Value}(h:w.cell? a=some u):(w.alloc o).cell? a=some u:=by
 have hl:a.block<w.heap.size:=by
  unfold World.cell? at h;cases h2:w.heap[a.block]? with
  | none=>rw[h2]at h;cases h
  | some x=>exact(dB.1 h2).1
 exact((kN w o).cell (p:=a) hl).trans h
theorem zL {α : Type}{size:Nat}{E:Enc α size}{e:TypeId}{base:Nat}{v:Value}{xs:List α}(h:Own E e w base v xs)(n:Nat)(hn:xs.length=n):∃A c,v = .slice A n c:=by
 rcases h.shape with ⟨h1,h2⟩|⟨g,c,h1,_⟩
 · exact⟨none,0,by rw[h1, ← hn,h2];rfl⟩
 · exact⟨_,c,by rw[h1,hn]⟩
theorem aee (w:World)(A:Option Addr)(n cap:Nat)(xs:List Int)(hs:S8 w w.heap.size A n cap xs)(hn:n≤9223372036854775807) :
 Calls Tryz.prog 5 #[.slice A n cap] w (Gc w):=by
 have HS:=ae hs;clear hs;go_enter Tryz.func5,Tryz.ntmps5;go_upto_block 0 with (fail)
 go_cut [3,4]from 5 (fun gq sv wx=>∃(vs:List aK)(st:List Int)(lk sk:Value)(dn:World),lk=gq∧sk=sv∧dn=wx∧Hid (jK w dn lk sk vs st)∧Hid (lF (vs.map (·.n)) st)∧Hid (vs.length≤40))
 case first =>
  go_upto_region 4 with (fail)
  go_loopw [3,4,5] (fun gq sv iv wr=>∃(i nl:Nat)(vs:List aK)(st:List Int)(lk sk:Value),i≤n∧nl=vs.length∧nl≤40∧lk=gq∧sk=sv∧iv = .int .i64 (i:Int)∧Hid (jK w wr lk sk vs st)∧Hid (lF (vs.map (·.n)) st)) (fun _ _ iv _=>n - (intOf iv).toNat)
  case atStart=>exact⟨0,0,[],[],_,_,ek _,rfl,by decide,rfl,rfl,rfl,ae (jK.nil w),ae lF.nil⟩
  case round =>
   obtain⟨i,nl,vs,st,lk,sk,hi,hnl,h40,rfl,rfl,rfl,HM,HI⟩:=hrel;by_cases hlt:i<n∧nl<40
   · obtain ⟨hin, hl4⟩:=hlt
     obtain⟨m,pb,po,hm,hx,rfl,hpb,hc⟩:=ahH HS.o i hin;obtain⟨BS,cl,rfl⟩:=zL HM.o.nodes nl hnl.symm;obtain⟨k,hk⟩:∃k,st.length=k:=⟨_,rfl⟩;obtain⟨As,cs,rfl⟩:=zL HM.o.jP k hk;have hcw:wr.cell? ⟨pb,po+i,none⟩=some (.int .u8 (m:Int)):=(HM.o.dC.cell (p:=⟨pb,po+i,none⟩) hpb).trans hc;have hii:(i:Int)<(n:Int):=by omega
     have hi0:(0:Int)≤(i:Int):=by omega
     have akL:(nl:Int)<40:=by omega
     have hwm:IntKind.i64.wrap (m:Int)=(m:Int):=by rw[gJ];omega
     have HK:=ae hk;have HX:=ae hx;have jI:=ae hnl;have ako:k≤40:=by have h1:=HI.o.few;rw[eF, ← hnl,hk]at h1;omega
     obtain⟨eb,jW,df⟩:=Elem.kid;obtain⟨nb,Ll,NL⟩:=Elem.dP;have jw:=ae df;have JV:=ae NL;clear hc hk hx hnl df NL;go_upto_block 2 with (fail)
     have O1:=ae (az.new wr { Nd.zero with kind:=1,num:=(m:Int) } (.slice none 0 0));have ko:=ae (HM.o.next ((ak _ _).alloc (aj _) (.cells #[.int .i64 1,.int .i64 (m:Int),.string ⟨#[]⟩,.string ⟨#[]⟩,.int .i64 0,.int .i64 0,.bool false,.bool false,.string ⟨#[]⟩,.int .i64 0,.int .i64 0,.bool false,.bool false,.slice none 0 0] 44)));have dK:=ae (show az (wr.alloc (.cells #[.int .i64 1,.int .i64 (m:Int),.string ⟨#[]⟩,.string ⟨#[]⟩,.int .i64 0,.int .i64 0,.bool false,.bool false,.string ⟨#[]⟩,.int .i64 0,.int .i64 0,.bool false,.bool false,.slice none 0 0] 44)) wr.heap.size { Nd.zero with kind:=1,num:=(m:Int) } (.slice none 0 0)from O1.o);clear O1;generalize (wr.alloc (.cells #[.int .i64 1,.int .i64 (m:Int),.string ⟨#[]⟩,.string ⟨#[]⟩,.int .i64 0,.int .i64 0,.bool false,.bool false,.string ⟨#[]⟩,.int .i64 0,.int .i64 0,.bool false,.bool false,.slice none 0 0] 44))=w1 at ko dK ⊢;have eY:=ae (show(Value.slice BS nl cl).ownBlock≠Option.some wr.heap.size∧w.heap.size≤wr.heap.size from⟨fun e=>Nat.lt_irrefl _ (HM.o.nodes.less e),HM.o.dC.size⟩);generalize wr.heap.size=z at dK eY ⊢;clear HM
     go_cut [4]from 8 to 184 (fun sk wx=>∃(s:Value)(dn:World),s=sk∧dn=wx∧Hid (YY w dn (.slice BS nl cl) (.slice As k cs) vs st z m s))
     case first =>
      have mf:=ae (iN.nil w1 w.heap.size (.slice As k cs));obtain⟨r3,hr3⟩:∃r,m % 3=r:=⟨_,rfl⟩;have q3:(m:Int) % 3=(r3:Int):=by omega
      have t3:(m:Int).tmod 3=(r3:Int):=by rw[ql (by omega)];exact q3
      have b3:(r3:Int)<3:=by omega
      have w3:IntKind.i64.wrap (r3:Int)=(r3:Int):=by rw[gJ];omega
      obtain⟨r16,Sc⟩:∃r,m % 16=r:=⟨_,rfl⟩;have q16:(m:Int) % 16=(r16:Int):=by omega
      have t16:(m:Int).tmod 16=(r16:Int):=by rw[ql (by omega)];exact q16
      have b16:(r16:Int)<16:=by omega
      have w16:IntKind.i64.wrap (r16:Int)=(r16:Int):=by rw[gJ];omega
      obtain⟨r8,Sg⟩:∃r,m % 8=r:=⟨_,rfl⟩;have kD:(m:Int) % 8=(r8:Int):=by omega
      have t8:(m:Int).tmod 8=(r8:Int):=by rw[ql (by omega)];exact kD
      have b8:(r8:Int)<8:=by omega
      have w8:IntKind.i64.wrap (r8:Int)=(r8:Int):=by rw[gJ];omega
      obtain⟨r32,Sd⟩:∃r,m % 32=r:=⟨_,rfl⟩;have q32:(m:Int) % 32=(r32:Int):=by omega
      have t32:(m:Int).tmod 32=(r32:Int):=by rw[ql (by omega)];exact q32
      have b32:(r32:Int)<32:=by omega
      have w32:IntKind.i64.wrap (r32:Int)=(r32:Int):=by rw[gJ];omega
      have HR3:=ae hr3;have xS:=ae Sc;have sM:=ae Sg;have xU:=ae Sd;have JR:=ae hm;clear hr3 Sc Sg Sd;obtain⟨p3,hp3⟩:∃p,decide (r3=0∧2≤k)=p:=⟨_,rfl⟩;obtain⟨p1,hp1⟩:∃p,decide (r16=1∧1≤k)=p:=⟨_,rfl⟩;have bg:=ae hp3;have bK:=ae hp1;clear hp3 hp1;go_upto_region 8 with (fail)
      go_cut [27]from 28 to 35 (fun cv wx=>∃(dn:World),cv = .bool p3∧dn=wx∧dn=w1)
      case first =>
       by_cases c3:r3=0
       · subst c3
         have d3:(((0:Nat):Int) == 0)=true:=rfl;go_wp2_with fail
         go_meet
         case rel=>exact⟨_,(show Value.bool (decide ((2:Int)≤(k:Int)))=Value.bool p3 from by rw[← bg.o];exact congrArg Value.bool (decide_eq_decide.2 ⟨fun h=>⟨by trivial,by omega⟩,fun h=>by have:=h.2;omega⟩)),rfl,rfl⟩
       · have d3:((r3:Int) == 0)=false:=by rw[aA];omega
         have hp:p3=false:=by rw[← bg.o];exact aV (fun h=>c3 h.1)
         subst hp;go_wp2_with fail
         go_meet
         case rel=>exact⟨_,rfl,rfl,rfl⟩
      case rest =>
       obtain⟨dn,rfl,rfl,hw⟩:=hcut;have hw:=hw.symm;subst hw;cases p3 with
       | true =>
         as_aux_lemma =>
          have vo:=of_decide_eq_true bg.o;have hk2:2≤k:=vo.2;have iB:=ae vo.1;clear vo;obtain⟨q,hq⟩:∃q,m / 3=q:=⟨_,rfl⟩;obtain⟨o,ho⟩:∃o,q % 11=o:=⟨_,rfl⟩;have a1:(m:Int).tdiv 3=(q:Int):=by rw[Int.tdiv_eq_ediv_of_nonneg (by omega)];omega
          have a2:(m:Int) / 3=(q:Int):=by omega
          have a3:IntKind.i64.wrap (q:Int)=(q:Int):=by rw[gJ];omega
          have a4:(q:Int).tmod 11=(o:Int):=by rw[ql (by omega)];omega
          have a5:(q:Int) % 11=(o:Int):=by omega
          have a6:IntKind.i64.wrap (o:Int)=(o:Int):=by rw[gJ];omega
          have lo:o<11:=by omega
          obtain⟨z9,hz9⟩:∃z,9+o=z:=⟨_,rfl⟩;have a7:(9:Int)+(o:Int)=(z9:Int):=by omega
          have a8:IntKind.i64.wrap (z9:Int)=(z9:Int):=by rw[gJ];omega
          obtain⟨i2,hi2⟩:∃i,k - 2=i:=⟨_,rfl⟩;obtain⟨i1,hi1⟩:∃i,k - 1=i:=⟨_,rfl⟩;have b1:(k:Int) - 2=(i2:Int):=by omega
          have b2:(k:Int) - 1=(i1:Int):=by omega
          have b5:IntKind.i64.wrap (i2:Int)=(i2:Int):=by rw[gJ];omega
          have b6:IntKind.i64.wrap (i1:Int)=(i1:Int):=by rw[gJ];omega
          have l2:i2<k:=by omega
          have l1:i1<k:=by omega
          have j2:(i2:Int)<(k:Int):=by omega
          have j1:(i1:Int)<(k:Int):=by omega
          have n2:(0:Int)≤(i2:Int):=by omega
          have n1:(0:Int)≤(i1:Int):=by omega
          obtain⟨g,cg,hA,hg0,hg1,hg2,hg3⟩:=Own.some ko.o.jP (by rw[HK.o];omega);injection hA with hA1 hA2 hA3;subst hA1;have hdr:=QH HK.o hk2;rw[hi2,hi1]at hdr;obtain⟨a,ha⟩:∃a,st.getD i2 0=a:=⟨_,rfl⟩;obtain⟨b,hb⟩:∃b,st.getD i1 0=b:=⟨_,rfl⟩;have ca:w1.cell? ⟨g,i2,none⟩=some (.int .i64 a):=by rw[← ha];exact Own.zC ko.o.jP i2 (by rw[HK.o];exact l2)
          have cb:w1.cell? ⟨g,i1,none⟩=some (.int .i64 b):=by rw[← hb];exact Own.zC ko.o.jP i1 (by rw[HK.o];exact l1)
          rw[ha,hb]at hdr;have aT:=ae (show gH m st.length=2 from by unfold gH;rw[ag ⟨HR3.o.trans iB.o,by rw[HK.o];exact hk2⟩]);have fC:=ae (show kz m st.length (st.drop (st.length - gH m st.length))={ Nd.zero with kind:=(z9:Int),kids:=[a,b] }from by rw[aT.o,HK.o,hi2,hdr];unfold kz;rw[ag ⟨HR3.o.trans iB.o,hk2⟩,hq,ho,a7]);have HDR:=ae (show st.drop (st.length - gH m st.length)=[a,b]from by rw[aT.o,HK.o,hi2,hdr]);have HI2:=ae hi2;have HI1:=ae hi1;have hcs:i2≤cs:=by rw[hA3];have:=HK.o;omega
          clear hq ho hz9 hi2 hi1 ha hb hdr hA2 hA3 hg0 hg2 hg3;have nV:=ae (ko.o.drew.next (kN w1.drew (.cells #[.int .i64 a,.int .i64 b] 3)));have bV:=ae (dK.o.Gz.below (kN w1.drew (.cells #[.int .i64 a,.int .i64 b] 3)) dK.o.lt);have pz:=ae (iN.VG (w:=w1.drew) ko.o.dC.size ko.o.drew.jP a b);have cK:=ae (show w1.drew.cell? ⟨g,i2,none⟩=some (.int .i64 a)∧w1.drew.cell? ⟨g,i1,none⟩=some (.int .i64 b)from⟨ca,cb⟩);have xL:=ae (show g<(w1.drew.alloc (.cells #[.int .i64 a,.int .i64 b] 3)).heap.size∧some g≠some z from⟨by rw[lQ];exact Nat.lt_succ_of_lt hg1,ML dK.o ko.o.jP rfl⟩);clear hg1;go_upto_region 9 with (fail)
          refine wp_region_held_drew (S:=fun W=>W.cell? ⟨g,i2,none⟩=some (.int .i64 a)∧W.cell? ⟨g,i1,none⟩=some (.int .i64 b)) (by kernel_rfl) cK.o (fun _ => ?_);show wpAnyH _ _ _ _ _ 19 #[false,false,false,false,false,false,false,false,false,false,false,false,false,false,false,false,false,false,false] _ _;refine hT 0 cK.o ?_;refine hT 1 cK.o ?_;refine hT 2 cK.o ?_;refine hT 3 cK.o ?_;refine hT 4 cK.o ?_;refine hT 5 cK.o ?_;refine hT 6 cK.o ?_;refine hT 7 cK.o ?_;refine hT 8 cK.o ?_;refine hT 9 cK.o ?_ (hy:=by(intro ig hSw;have hz:=hSw.1;go_simp;try(with_reducible rfl)));refine hT 10 cK.o ?_;refine hT 11 cK.o ?_;refine hT 12 cK.o ?_;refine hT 13 cK.o ?_;refine hT 14 cK.o ?_;refine hT 15 cK.o ?_ (hy:=by(intro ig hSw;have hz:=hSw.2;go_simp;try(with_reducible rfl)));refine hO 16 (fun K hK => ?_);go_simp;refine hK.o _ _ ⟨uA _ _ _ cK.o.1,uA _ _ _ cK.o.2⟩ ?_;clear hK K;simp only[Act.put,sT,fV,fU];refine hT 17 ⟨uA _ _ _ cK.o.1,uA _ _ _ cK.o.2⟩ ?_;refine hO 18 (fun K hK => ?_);refine Jl (.tmp 7) (.tmp 53) rfl z _ { Nd.zero with kind:=(z9:Int),kids:=[a,b] } _ (.slice (some ⟨w1.heap.size,0,none⟩) 2 2) rfl rfl bV.o rfl ?_;intro iG h1 h2;have mD:=ae h1;have fB:=ae h2;clear h1 h2;have Yp:=ae (show iG.cell? ⟨g,i2,none⟩=some (.int .i64 a)∧iG.cell? ⟨g,i1,none⟩=some (.int .i64 b)from⟨(Cu (a:=⟨g,i2,none⟩) fB.o xL.o.1 xL.o.2).trans (uA w1.drew _ _ cK.o.1),(Cu (a:=⟨g,i1,none⟩) fB.o xL.o.1 xL.o.2).trans (uA w1.drew _ _ cK.o.2)⟩);refine hK.o undef _ Yp.o ?_;clear hK K;simp only[Act.put];refine wpAnyH_done (by kernel_rfl) ?_ _;go_wp2_with fail
          go_meet
          case rel =>
           refine⟨_,_,rfl,rfl,ae ⟨nV.o.over bV.o eY.o.1 eY.o.2 fB.o,⟨.slice (some ⟨w1.heap.size,0,none⟩) 2 2, ?_, ?_⟩,.inr ⟨some ⟨g,0,none⟩,cs, ?_, ?_⟩⟩⟩
           · rw[fC.o];exact mD.o
           · rw[HDR.o];exact pz.o.over bV.o fB.o
           · rw[HK.o]
           · rw[aT.o,HK.o,HI2.o]
       | false =>
         clear q3 t3 b3 w3;go_upto_region 11 with (fail)
         go_cut [62]from 63 to 70 (fun cv wx=>∃(dn:World),cv = .bool p1∧dn=wx∧dn=w1)
         case first =>
          by_cases c1:r16=1
          · subst c1
            have d1:(((1:Nat):Int) == 1)=true:=rfl;go_wp2_with fail
            go_meet
            case rel=>exact⟨_,(show Value.bool (decide ((1:Int)≤(k:Int)))=Value.bool p1 from by rw[← bK.o];exact congrArg Value.bool (decide_eq_decide.2 ⟨fun h=>⟨by trivial,by omega⟩,fun h=>by have:=h.2;omega⟩)),rfl,rfl⟩
          · have d1:((r16:Int) == 1)=false:=by rw[aA];omega
            have hp:p1=false:=by rw[← bK.o];exact aV (fun h=>c1 h.1)
            subst hp;go_wp2_with fail
            go_meet
            case rel=>exact⟨_,rfl,rfl,rfl⟩
         case rest =>
          obtain⟨dn,rfl,rfl,hw⟩:=hcut;have hw:=hw.symm;subst hw;cases p1 with
          | true =>
            as_aux_lemma =>
             have sJ:=of_decide_eq_true bK.o;have hk1:1≤k:=sJ.2;have iB:=ae sJ.1;have sj:=ae (of_decide_eq_false bg.o);clear sJ;obtain⟨i1,hi1⟩:∃i,k - 1=i:=⟨_,rfl⟩;have b2:(k:Int) - 1=(i1:Int):=by omega
             have b6:IntKind.i64.wrap (i1:Int)=(i1:Int):=by rw[gJ];omega
             have l1:i1<k:=by omega
             have j1:(i1:Int)<(k:Int):=by omega
             have n1:(0:Int)≤(i1:Int):=by omega
             obtain⟨g,cg,hA,hg0,hg1,hg2,hg3⟩:=Own.some ko.o.jP (by rw[HK.o];omega);injection hA with hA1 hA2 hA3;subst hA1;have hdr:=drop_one HK.o hk1;rw[hi1]at hdr;obtain⟨a,ha⟩:∃a,st.getD i1 0=a:=⟨_,rfl⟩;have ca:w1.cell? ⟨g,i1,none⟩=some (.int .i64 a):=by rw[← ha];exact Own.zC ko.o.jP i1 (by rw[HK.o];exact l1)
             rw[ha]at hdr;have aT:=ae (show gH m st.length=1 from by unfold gH;rw[af (by rw[HR3.o,HK.o];exact sj.o),ag ⟨xS.o.trans iB.o,by rw[HK.o];exact hk1⟩]);have fC:=ae (show kz m st.length (st.drop (st.length - gH m st.length))={ Nd.zero with kind:=8,kids:=[a] }from by rw[aT.o,HK.o,hi1,hdr];unfold kz;rw[af (by rw[HR3.o];exact sj.o),ag ⟨xS.o.trans iB.o,hk1⟩]);have HDR:=ae (show st.drop (st.length - gH m st.length)=[a]from by rw[aT.o,HK.o,hi1,hdr]);have HI1:=ae hi1;have hcs:i1≤cs:=by rw[hA3];have:=HK.o;omega
             clear hi1 ha hdr hA2 hA3 hg0 hg1 hg2 hg3;have nV:=ae (ko.o.next (kN w1 (.cells #[.int .i64 a] 3)));have bV:=ae (dK.o.below (kN w1 (.cells #[.int .i64 a] 3)) dK.o.lt);have pz:=ae (iN.ahn (w:=w1) ko.o.dC.size ko.o.jP a);go_wp2_with (refine lh rfl (.tmp 7) _ rfl z _ { Nd.zero with kind:=8,kids:=[a] } _ (.slice (some ⟨w1.heap.size,0,none⟩) 1 1) rfl rfl bV.o rfl ?_;intro iG h1 h2;have mD:=ae h1;have fB:=ae h2;clear h1 h2)
             go_meet
             case rel =>
              refine⟨_,_,rfl,rfl,ae ⟨nV.o.over bV.o eY.o.1 eY.o.2 fB.o,⟨.slice (some ⟨w1.heap.size,0,none⟩) 1 1, ?_, ?_⟩,.inr ⟨some ⟨g,0,none⟩,cs, ?_, ?_⟩⟩⟩
              · rw[fC.o];exact mD.o
              · rw[HDR.o];exact pz.o.over bV.o fB.o
              · rw[HK.o]
              · rw[aT.o,HK.o,HI1.o]
          | false =>
            have sj:=ae (of_decide_eq_false bg.o);have Ca:=ae (of_decide_eq_false bK.o);by_cases c2:r16=2
            · have d2:((r16:Int) == 2)=true:=by rw[bB];omega
              have DF:=ae c2;clear c2
              as_aux_lemma =>
               have mF:=ae (xS.o.trans DF.o);obtain⟨q16,xh⟩:∃q,m / 16=q:=⟨_,rfl⟩;have a4:(m:Int).tdiv 16=(q16:Int):=by rw[Int.tdiv_eq_ediv_of_nonneg (by omega)];omega
               have a5:(m:Int) / 16=(q16:Int):=by omega
               have a6:IntKind.i64.wrap (q16:Int)=(q16:Int):=by rw[gJ];omega
               obtain⟨r,hr⟩:∃r,q16 % 4=r:=⟨_,rfl⟩;have ra:(q16:Int).tmod 4=(r:Int):=by rw[ql (by omega)];omega
               have rb:(q16:Int) % 4=(r:Int):=by omega
               have rc:IntKind.i64.wrap (r:Int)=(r:Int):=by rw[gJ];omega
               have rd:r<4:=by omega
               obtain⟨t,ht⟩:∃t,min k r=t:=⟨_,rfl⟩;have m1:min (k:Int) (r:Int)=(t:Int):=by omega
               have htk:t≤k:=by omega
               obtain⟨f,hf⟩:∃f,k - t=f:=⟨_,rfl⟩;have b1:(k:Int) - (t:Int)=(f:Int):=by omega
               have b5:IntKind.i64.wrap (f:Int)=(f:Int):=by rw[gJ];omega
               have Lx:f≤k:=by omega
               have RL:k - f=t:=by omega
               have f0:(0:Int)≤(f:Int):=by omega
               have f1:(f:Int)≤(k:Int):=by omega
               have aT:=ae (show gH m st.length=t from by unfold gH;rw[af (by rw[HR3.o,HK.o];exact sj.o),af (by rw[xS.o,HK.o];exact Ca.o),ag mF.o,HK.o,xh,hr,ht]);have HDR:=ae (show st.drop (st.length - gH m st.length)=st.drop f from by rw[aT.o,HK.o,hf]);have fC:=ae (show kz m st.length (st.drop (st.length - gH m st.length))={ Nd.zero with kind:=7,text:=⟨#[83,85,77]⟩,kids:=st.drop f }from by rw[HDR.o];unfold kz;rw[af (by rw[HR3.o,HK.o];exact sj.o),af (by rw[xS.o,HK.o];exact Ca.o),ag mF.o]);have DL:=ae (show(st.drop f).length=t from by rw[lq,HK.o];exact RL);have HF:=ae hf;have D5:=ae (UI w1 w1.heap.size (aj _));clear xh hr ht hf;rcases ko.o.jP.shape with ⟨h1,h2⟩|⟨g,cg,h1,hg0,hg1,hg2,hg3⟩
               · injection h1 with e1 e2 e3
                 subst e1;subst e2;subst e3;have hf0:f=0:=by omega
                 have ht0:t=0:=by omega
                 subst hf0;subst ht0;have Cj:=ae (show Src Tryz.prog 1 34 (.slice none 0 0) 0 ((aJ .i64).all (st.drop 0)) (w1.alloc (.cells #[] 3))from by rw[h2];exact Src.ofNil _ Tryz.underlying34 0);have m2:min (0:Int) (r:Int)=0:=by omega
                 have hd0:st.drop 0=[]:=h2;clear h2;have HD0:=ae hd0;have nV:=ae (ko.o.next (kN w1 (.cells #[] 3)));have bV:=ae (dK.o.below (kN w1 (.cells #[] 3)) dK.o.lt);have jQ:=ae (show iN (w1.alloc (.cells #[] 3)) w.heap.size (.slice none 0 0) (.slice (some ⟨w1.heap.size,0,none⟩) 0 0) (st.drop 0)from⟨by rw[HD0.o];exact UI w1 _ ko.o.dC.size,fun g5 e e2=>by cases e2⟩);clear hd0 DL Cj D5;go_wp2_with (refine lh rfl (.tmp 7) _ rfl z _ { Nd.zero with kind:=7,text:=⟨#[83,85,77]⟩,kids:=st.drop 0 } _ (.slice (some ⟨w1.heap.size,0,none⟩) 0 0) rfl rfl bV.o rfl ?_;intro iG h1 h2;have mD:=ae h1;have fB:=ae h2;clear h1 h2)
                 go_meet
                 case rel =>
                  refine⟨_,_,rfl,rfl,ae ⟨nV.o.over bV.o eY.o.1 eY.o.2 fB.o,⟨(.slice (some ⟨w1.heap.size,0,none⟩) 0 0), ?_, ?_⟩,.inl ⟨rfl,aT.o⟩⟩⟩
                  · rw[fC.o];exact mD.o
                  · rw[HDR.o];exact jQ.o.over bV.o fB.o
               · injection h1 with e1 e2 e3
                 subst e1;have hkc:k≤cs:=by have:=HK.o;omega
                 have hfc:f≤cs:=by omega
                 have akB:(f:Int)≤(cs:Int):=by omega
                 obtain⟨AT,Lh⟩:∃AT,(if cs=f then some (⟨g,0,none⟩:Addr)else some ⟨g,f,none⟩)=AT:=⟨_,rfl⟩;have Cj:=ae (show Src Tryz.prog 1 34 (.slice AT t (cs - f)) t ((aJ .i64).all (st.drop f)) (w1.alloc (.cells #[] 3))from by have:=aiN (ko.o.jP.alloc (.cells #[] 3)) HK.o Lx hkc;rw[Lh,RL]at this;exact this);clear e2 e3 hg0 hg1 hg2 hg3
                 go_wp2_with (first
                  | (at_builtin;refine Jk jw.o (aJ .i64) rfl (.tmp 97) (.tmp 103) rfl w1.heap.size _ [] rfl D5.o _ t (st.drop f) rfl DL.o Cj.o ?_ ?_ ?_ ?_;(refine bN (Nat.mul_le_mul_left _ jW) ?_;rw[dX];omega);(rw[dX];unfold maxLen;omega);(rw[lQ];exact Nat.le_succ _);intro v5 w5 h1 h2;rw[gX]at h1;obtain⟨A5,c5,rfl⟩:=zL h1 t DL.o;have uZ:=ae (ko.o.next ((kN w1 (.cells #[] 3)).trans h2));have gN:=ae (dK.o.below ((kN w1 (.cells #[] 3)).trans h2) dK.o.lt);have jQ:=ae (show iN w5 w.heap.size (.slice (some ⟨g,0,none⟩) k cs) (.slice A5 t c5) (st.drop f)from⟨h1.mono ko.o.dC.size,fun g5 e e2=>by have x1:=(h1.lies e).1;have x2:=ko.o.jP.less e2;omega⟩);clear h1 h2)
                  | (refine lh rfl (.tmp 7) _ rfl z _ { Nd.zero with kind:=7,text:=⟨#[83,85,77]⟩,kids:=st.drop f } _ (.slice A5 t c5) rfl rfl gN.o rfl ?_;intro iG h1 h2;have mD:=ae h1;have fB:=ae h2;clear h1 h2))
                 go_meet
                 case rel =>
                  refine⟨_,_,rfl,rfl,ae ⟨uZ.o.over gN.o eY.o.1 eY.o.2 fB.o,⟨.slice A5 t c5, ?_, ?_⟩,.inr ⟨some ⟨g,0,none⟩,cs, ?_, ?_⟩⟩⟩
                  · rw[fC.o];exact mD.o
                  · rw[HDR.o];exact jQ.o.over gN.o fB.o
                  · rw[HK.o]
                  · rw[aT.o,HK.o,HF.o]
            have d2:((r16:Int) == 2)=false:=by rw[aA];omega
            have aT:=ae (show gH m st.length=0 from by have h3:=sj.o;have h1:=Ca.o;rw[← HR3.o, ← HK.o]at h3;rw[← xS.o, ← HK.o]at h1;rw[← xS.o]at c2;unfold gH;rw[af h3,af h1,af c2]);have Cf:=ae (show ∀ks,kz m st.length ks=yB m from by have h3:=sj.o;have h1:=Ca.o;rw[← HR3.o, ← HK.o]at h3;rw[← xS.o, ← HK.o]at h1;rw[← xS.o]at c2;exact fun ks=>afi h3 h1 c2 ks);clear c2;by_cases c4:r8=4
            · have d4:((r8:Int) == 4)=true:=by rw[bB];omega
              have fC:=ae (show kz m st.length (st.drop (st.length - gH m st.length))={ Nd.zero with kind:=5,ref:=Df m }from by rw[Cf.o];unfold yB;rw[ag (sM.o.trans c4)]);clear c4;obtain⟨kD,hq8⟩:∃q,m / 8=q:=⟨_,rfl⟩;obtain⟨q16,xh⟩:∃q,m / 16=q:=⟨_,rfl⟩;have a1:(m:Int).tdiv 8=(kD:Int):=by rw[Int.tdiv_eq_ediv_of_nonneg (by omega)];omega
              have a2:(m:Int) / 8=(kD:Int):=by omega
              have a3:IntKind.i64.wrap (kD:Int)=(kD:Int):=by rw[gJ];omega
              have a4:(m:Int).tdiv 16=(q16:Int):=by rw[Int.tdiv_eq_ediv_of_nonneg (by omega)];omega
              have a5:(m:Int) / 16=(q16:Int):=by omega
              have a6:IntKind.i64.wrap (q16:Int)=(q16:Int):=by rw[gJ];omega
              have adp:kD<32:=by omega
              have l16:q16<16:=by omega
              obtain⟨u,hu⟩:∃r,kD % 3=r:=⟨_,rfl⟩;have ua:(kD:Int).tmod 3=(u:Int):=by rw[ql (by omega)];omega
              have ub:(kD:Int) % 3=(u:Int):=by omega
              have uc:IntKind.i64.wrap (u:Int)=(u:Int):=by rw[gJ];omega
              have ud:u<3:=by omega
              obtain⟨v,hv⟩:∃r,q16 % 5=r:=⟨_,rfl⟩;have va:(q16:Int).tmod 5=(v:Int):=by rw[ql (by omega)];omega
              have vb:(q16:Int) % 5=(v:Int):=by omega
              have vc:IntKind.i64.wrap (v:Int)=(v:Int):=by rw[gJ];omega
              have vd:v<5:=by omega
              obtain⟨x,hx⟩:∃r,kD % 7=r:=⟨_,rfl⟩;have xa:(kD:Int).tmod 7=(x:Int):=by rw[ql (by omega)];omega
              have xb:(kD:Int) % 7=(x:Int):=by omega
              have alE:IntKind.i64.wrap (x:Int)=(x:Int):=by rw[gJ];omega
              have xd:x<7:=by omega
              obtain⟨sh,hsh⟩:∃s,zT m=s:=⟨_,rfl⟩;obtain⟨ac,hac⟩:∃a,decide (128<m)=a:=⟨_,rfl⟩;have Lr:decide ((128:Int)<(m:Int))=ac:=by rw[← hac];exact decide_eq_decide.2 (by omega)
              have hrf:Df m=⟨sh,(v:Int),(x:Int),ac,false⟩:=by unfold Df;rw[hsh,hac,xh,hq8,hv,hx]
              have Sk:sh=if u=2 then ⟨#[84]⟩else ⟨#[]⟩:=by rw[← hsh];unfold zT;rw[hq8,hu]
              rw[hrf]at fC;have Yl:=ae hrf;have kR:=ae hsh;have HAC:=ae hac;have Yr:=ae Sk;have HA2:=ae Lr;have D8:=ae hq8;have Ye:=ae xh;have HU:=ae hu;have aW:=ae hv;have HX:=ae hx;clear hrf hsh hac Sk Lr hq8 xh hu hv hx
              have k4:(w1.alloc (.cells #[.string ⟨#[]⟩,.string ⟨#[]⟩,.string ⟨#[84]⟩] 9)).cell? ⟨w1.heap.size,u,none⟩=some (.string sh):=by
               rw[World.cell?_alloc_at _ _ _ _ rfl,Yr.o];have hu3:u=0∨u=1∨u=2:=by omega
               rcases hu3 with e|e|e <;> rw[e] <;> rfl
              have nV:=ae (ko.o.next (kN w1 (.cells #[.string ⟨#[]⟩,.string ⟨#[]⟩,.string ⟨#[84]⟩] 9)));have bV:=ae (dK.o.below (kN w1 (.cells #[.string ⟨#[]⟩,.string ⟨#[]⟩,.string ⟨#[84]⟩] 9)) dK.o.lt);have pz:=ae (mf.o.next (kN w1 (.cells #[.string ⟨#[]⟩,.string ⟨#[]⟩,.string ⟨#[84]⟩] 9)));have iu:(u:Int)<3:=by omega
              have Lr:=HA2.o;go_wp2_with (refine lh rfl (.tmp 7) _ rfl z _ { Nd.zero with kind:=5,ref:=⟨sh,(v:Int),(x:Int),ac,false⟩ } _ (.slice none 0 0) rfl rfl bV.o rfl ?_;intro iG h1 h2;have mD:=ae h1;have fB:=ae h2;clear h1 h2)
              go_meet
              case rel =>
               refine⟨_,_,rfl,rfl,ae ⟨nV.o.over bV.o eY.o.1 eY.o.2 fB.o,⟨.slice none 0 0, ?_, ?_⟩,.inl ⟨rfl,aT.o⟩⟩⟩
               · rw[fC.o];exact mD.o
               · rw[aT.o,Nat.sub_zero,List.drop_length];exact pz.o.over bV.o fB.o
            have d4:((r8:Int) == 4)=false:=by rw[aA];omega
            by_cases c5:r8=5
            · have d5:((r8:Int) == 5)=true:=by rw[bB];omega
              have fC:=ae (show kz m st.length (st.drop (st.length - gH m st.length))=EU m from by rw[Cf.o];unfold yB;rw[af (by rw[sM.o];exact c4),ag (sM.o.trans c5)]);clear c4 c5;obtain⟨kD,hq8⟩:∃q,m / 8=q:=⟨_,rfl⟩;obtain⟨q16,xh⟩:∃q,m / 16=q:=⟨_,rfl⟩;have a1:(m:Int).tdiv 8=(kD:Int):=by rw[Int.tdiv_eq_ediv_of_nonneg (by omega)];omega
              have a2:(m:Int) / 8=(kD:Int):=by omega
              have a3:IntKind.i64.wrap (kD:Int)=(kD:Int):=by rw[gJ];omega
              have a4:(m:Int).tdiv 16=(q16:Int):=by rw[Int.tdiv_eq_ediv_of_nonneg (by omega)];omega
              have a5:(m:Int) / 16=(q16:Int):=by omega
              have a6:IntKind.i64.wrap (q16:Int)=(q16:Int):=by rw[gJ];omega
              have adp:kD<32:=by omega
              have l16:q16<16:=by omega
              obtain⟨u,hu⟩:∃r,q16 % 3=r:=⟨_,rfl⟩;have ua:(q16:Int).tmod 3=(u:Int):=by rw[ql (by omega)];omega
              have ub:(q16:Int) % 3=(u:Int):=by omega
              have uc:IntKind.i64.wrap (u:Int)=(u:Int):=by rw[gJ];omega
              have ud:u<3:=by omega
              obtain⟨v,hv⟩:∃r,kD % 4=r:=⟨_,rfl⟩;have va:(kD:Int).tmod 4=(v:Int):=by rw[ql (by omega)];omega
              have vb:(kD:Int) % 4=(v:Int):=by omega
              have vc:IntKind.i64.wrap (v:Int)=(v:Int):=by rw[gJ];omega
              have vd:v<4:=by omega
              obtain⟨x,hx⟩:∃r,1+q16=r:=⟨_,rfl⟩;obtain⟨y,hy⟩:∃r,2+kD=r:=⟨_,rfl⟩;have a7:(1:Int)+(q16:Int)=(x:Int):=by omega
              have a8:(2:Int)+(kD:Int)=(y:Int):=by omega
              have a9:IntKind.i64.wrap (x:Int)=(x:Int):=by rw[gJ];omega
              have a10:IntKind.i64.wrap (y:Int)=(y:Int):=by rw[gJ];omega
              have hrf:EU m=MK (u:Int) (v:Int) (x:Int) (y:Int):=by unfold EU MK Ff Fg;rw[xh,hq8,hu,hv,hx,hy]
              rw[hrf]at fC;have Yl:=ae hrf;have D8:=ae hq8;have Ye:=ae xh;have HU:=ae hu;have aW:=ae hv;have HX:=ae hx;have iH:=ae hy;clear hrf hq8 xh hu hv hx hy;go_wp2_with (refine lh rfl (.tmp 7) _ rfl z _ (MK (u:Int) (v:Int) (x:Int) (y:Int)) _ (.slice none 0 0) rfl rfl dK.o rfl ?_;intro iG h1 h2;have mD:=ae h1;have fB:=ae h2;clear h1 h2)
              go_meet
              case rel =>
               refine⟨_,_,rfl,rfl,ae ⟨ko.o.over dK.o eY.o.1 eY.o.2 fB.o,⟨.slice none 0 0, ?_, ?_⟩,.inl ⟨rfl,aT.o⟩⟩⟩
               · rw[fC.o];exact mD.o
               · rw[aT.o,Nat.sub_zero,List.drop_length];exact mf.o.over dK.o fB.o
            have d5:((r8:Int) == 5)=false:=by rw[aA];omega
            by_cases c7:r32=7
            · have d7:((r32:Int) == 7)=true:=by rw[bB];omega
              have fC:=ae (show kz m st.length (st.drop (st.length - gH m st.length))={ Nd.zero with kind:=2,text:=xD m }from by rw[Cf.o];unfold yB;rw[af (by rw[sM.o];exact c4),af (by rw[sM.o];exact c5),ag (xU.o.trans c7)]);clear c4 c5 c7
              as_aux_lemma =>
               have hts:=Xg m hm;obtain⟨dg,hdg⟩:∃d,strOfNums (bn m)=d:=⟨_,rfl⟩;obtain⟨tx,htx⟩:∃t,xD m=t:=⟨_,rfl⟩;have e7:(⟨#[97,34]⟩:ByteArray)++dg=tx:=by rw[← hdg, ← htx,show(⟨#[97,34]⟩:ByteArray)=strOfNums [97,34]by decide,nz];rfl
               have z7:(⟨#[97,34]⟩:ByteArray).size+dg.size≤300:=by rw[← ByteArray.size_append,e7, ← htx];exact hts
               have ll:¬ (9223372036854775807:Int)<((⟨#[97,34]⟩:ByteArray).size:Int)+(dg.size:Int):=by omega
               have x7:(⟨#[97,34]⟩:ByteArray).size+dg.size≤9223372036854775807:=by omega
               rw[htx]at fC;have XE:=ae hdg;have pG:=ae htx;clear hdg htx hts z7
               go_wp2_with (first
                | (go_at_call 15;((with_reducible refine(xw m (by omega) _).mono ?_);rintro e w2 ⟨rfl,hb⟩;rw[XE.o];have nV:=ae (ko.o.next hb);have bV:=ae (dK.o.below hb dK.o.lt);have pz:=ae (mf.o.next hb);clear hb))
                | (refine lh rfl (.tmp 7) _ rfl z _ { Nd.zero with kind:=2,text:=tx } _ (.slice none 0 0) rfl rfl bV.o rfl ?_;intro iG h1 h2;have mD:=ae h1;have fB:=ae h2;clear h1 h2))
               go_meet
               case rel =>
                refine⟨_,_,rfl,rfl,ae ⟨nV.o.over bV.o eY.o.1 eY.o.2 fB.o,⟨.slice none 0 0, ?_, ?_⟩,.inl ⟨rfl,aT.o⟩⟩⟩
                · rw[fC.o];exact mD.o
                · rw[aT.o,Nat.sub_zero,List.drop_length];exact pz.o.over bV.o fB.o
            have d7:((r32:Int) == 7)=false:=by rw[aA];omega
            by_cases c10:r32=10
            · have d10:((r32:Int) == 10)=true:=by rw[bB];omega
              have fC:=ae (show kz m st.length (st.drop (st.length - gH m st.length))={ Nd.zero with kind:=3,num:=((m / 32 % 2:Nat):Int) }from by rw[Cf.o];unfold yB;rw[af (by rw[sM.o];exact c4),af (by rw[sM.o];exact c5),af (by rw[xU.o];exact c7),ag (xU.o.trans c10)]);clear c4 c5 c7 c10
              as_aux_lemma =>
               obtain⟨C8,GY⟩:∃q,m / 32=q:=⟨_,rfl⟩;obtain⟨rb,hrb⟩:∃r,m / 32 % 2=r:=⟨_,rfl⟩;have x1:(m:Int).tdiv 32=(C8:Int):=by rw[Int.tdiv_eq_ediv_of_nonneg (by omega)];omega
               have x2:(m:Int) / 32=(C8:Int):=by omega
               have x3:IntKind.i64.wrap (C8:Int)=(C8:Int):=by rw[gJ];omega
               have x4:(C8:Int).tmod 2=(rb:Int):=by rw[ql (by omega)];omega
               have x5:(C8:Int) % 2=(rb:Int):=by omega
               have x6:IntKind.i64.wrap (rb:Int)=(rb:Int):=by rw[gJ];omega
               rw[hrb]at fC;have HQB:=ae GY;have HRB:=ae hrb;clear GY hrb;go_wp2_with (refine lh rfl (.tmp 7) _ rfl z _ { Nd.zero with kind:=3,num:=(rb:Int) } _ (.slice none 0 0) rfl rfl dK.o rfl ?_;intro iG h1 h2;have mD:=ae h1;have fB:=ae h2;clear h1 h2)
               go_meet
               case rel =>
                refine⟨_,_,rfl,rfl,ae ⟨ko.o.over dK.o eY.o.1 eY.o.2 fB.o,⟨.slice none 0 0, ?_, ?_⟩,.inl ⟨rfl,aT.o⟩⟩⟩
                · rw[fC.o];exact mD.o
                · rw[aT.o,Nat.sub_zero,List.drop_length];exact mf.o.over dK.o fB.o
            have d10:((r32:Int) == 10)=false:=by rw[aA];omega
            by_cases c11:r32=11
            · have d11:((r32:Int) == 11)=true:=by rw[bB];omega
              have fC:=ae (show kz m st.length (st.drop (st.length - gH m st.length))={ Nd.zero with kind:=4 }from by rw[Cf.o];unfold yB;rw[af (by rw[sM.o];exact c4),af (by rw[sM.o];exact c5),af (by rw[xU.o];exact c7),af (by rw[xU.o];exact c10),ag (xU.o.trans c11)]);clear c4 c5 c7 c10 c11
              as_aux_lemma =>
               go_wp2_with (refine lh rfl (.tmp 7) _ rfl z _ { Nd.zero with kind:=4 } _ (.slice none 0 0) rfl rfl dK.o rfl ?_;intro iG h1 h2;have mD:=ae h1;have fB:=ae h2;clear h1 h2)
               go_meet
               case rel =>
                refine⟨_,_,rfl,rfl,ae ⟨ko.o.over dK.o eY.o.1 eY.o.2 fB.o,⟨.slice none 0 0, ?_, ?_⟩,.inl ⟨rfl,aT.o⟩⟩⟩
                · rw[fC.o];exact mD.o
                · rw[aT.o,Nat.sub_zero,List.drop_length];exact mf.o.over dK.o fB.o
            have d11:((r32:Int) == 11)=false:=by rw[aA];omega
            have fC:=ae (show kz m st.length (st.drop (st.length - gH m st.length))={ Nd.zero with kind:=1,num:=(m:Int) }from by rw[Cf.o];unfold yB;rw[af (by rw[sM.o];exact c4),af (by rw[sM.o];exact c5),af (by rw[xU.o];exact c7),af (by rw[xU.o];exact c10),af (by rw[xU.o];exact c11)]);clear c4 c5 c7 c10 c11
            as_aux_lemma =>
             go_wp2_with fail
             go_meet
             case rel =>
              refine⟨_,_,rfl,rfl,ae ⟨ko.o,⟨.slice none 0 0, ?_, ?_⟩,.inl ⟨rfl,aT.o⟩⟩⟩
              · rw[fC.o];exact dK.o
              · rw[aT.o,Nat.sub_zero,List.drop_length];exact mf.o
     case rest =>
      obtain⟨s9,dn,rfl,rfl,HW⟩:=hcut;obtain⟨hmk,⟨aY,hnd,zz⟩,hvw⟩:=HW.o;clear HW ko dK;have HR:=ae (HI.o.round m hm);rw[eF,jI.o.symm,HK.o]at HR;rw[HK.o]at hnd zz hvw;have hks:=adk m k (st.drop (k - gH m k)) hm (by rw[lq,HK.o];have:=WK m k;omega);obtain⟨v,hv,kI⟩:=zz.nv _ hks;have hk2:v.n.kids=st.drop (k - gH m k):=by rw[hv];exact hks
      rw[← hk2]at zz;clear hk2;rw[← hv]at hnd HR;subst kI;obtain⟨L,hL⟩:∃L,vs.map (·.n)++[v.n]=L:=⟨_,rfl⟩;rw[hL]at HR;have HL:=ae hL;clear hL;go_upto_region 28 with (fail)
      go_cut [4]from 176 to 180 (fun sk wx=>∃(Fu:List Int)(s5:Value)(Jn:World),s5=sk∧Jn=wx∧Hid (jK w Jn (.slice BS nl cl) s5 vs Fu)∧Hid (az Jn z v.n v.aY)∧Hid (iN Jn w.heap.size s5 v.aY v.n.kids)∧Hid (lF L Fu))
      case first =>
       as_aux_lemma =>
        rcases hvw with ⟨rfl,ht0⟩|⟨A5,c5,h5,rfl⟩
        · rw[ht0,Nat.sub_zero,mP (by rw[HK.o];exact aj _)]at HR
          have HM:=ae hmk;have HN:=ae hnd;have HH:=ae zz;clear hmk hnd zz hv hks;go_wp2_with (at_builtin;refine xG jw.o (aJ .i64) rfl (.tmp 176) (.tmp 179) rfl w.heap.size _ st rfl (HM.o.jP.alloc _) ⟨_,0,none⟩ 1 1 [(nl:Int)] rfl rfl ?_ ?_ ?_ ?_ ?_;exact gD _ _ _ rfl;(rw[HK.o];exact bN (Nat.mul_le_mul_left _ jW) (by omega));(rw[HK.o];unfold maxLen;omega);(rw[lQ];exact bN HM.o.dC.size (Nat.le_succ _));intro v5 w5 h1 h2 h3;have gN:=ae (az.grow (HN.o.below (kN _ _) HN.o.lt) (HM.o.jP.alloc _) h2);have uZ:=ae ((HM.o.next (kN _ _)).push h1 h2 h3);have Aj:=ae ((HH.o.next (kN _ _)).grow h2 h3);clear h1 h2 h3)
          go_meet
          case rel=>exact⟨_,_,_,rfl,rfl,uZ,gN,Aj,HR⟩
        · injection h5 with h5 _ _
          subst h5;obtain⟨f,hf⟩:∃f,k - gH m k=f:=⟨_,rfl⟩;rw[hf]at HR ⊢;have Lx:f≤k:=by omega
          obtain⟨hfn,hfc⟩:=Own.Uf hmk.jP f;have hfl:(st.take f).length=f:=by rw[gW,HK.o];exact Nat.min_eq_left Lx
          have JG:=ae (show As=none→f=0∧f=0 from fun e=>by have:=hfn e;omega);have JE:=ae hfc;have DL:=ae hfl;have HM:=ae hmk;have HN:=ae hnd;have HH:=ae zz;clear hmk hnd zz hv hks hf hfn hfc hfl;go_wp2_with (at_builtin;refine Jj jw.o (aJ .i64) rfl (.tmp 176) (.tmp 179) rfl As f f (st.take f) rfl JG.o DL.o (fun b e j u hu=>(uA _ _ _ (JE.o b e j u hu))) ⟨_,0,none⟩ 1 1 [(nl:Int)] rfl rfl ?_ (by omega) ?_ ?_ ?_;exact gD _ _ _ rfl;(exact bN (Nat.mul_le_mul_left _ jW) (by omega));(unfold maxLen;omega);intro v5 w5 h1 h2;have gN:=ae ((HN.o.below (kN _ _) HN.o.lt).below h2 (az.lt (HN.o.below (kN _ _) HN.o.lt)));have uZ:=ae ((HM.o.next (kN _ _)).fresh h1 h2);have Aj:=ae ((HH.o.next (kN _ _)).fresh h1 h2);clear h1 h2)
          go_meet
          case rel=>exact⟨_,_,_,rfl,rfl,uZ,gN,Aj,HR⟩
      case rest =>
       obtain⟨Fu,s5,w5,rfl,rfl,uZ,gN,Aj,Ao⟩:=hcut;clear hmk hnd zz hv hks hvw HR;go_wp2_with (first|(refine wpList_load_row rfl 44 (.tmp 7) rfl z rfl 44 #[.int .i64 v.n.kind,.int .i64 v.n.num,.string v.n.text,.string v.n.ref.sh,.int .i64 v.n.ref.c,.int .i64 v.n.ref.r,.bool v.n.ref.ac,.bool v.n.ref.ar,.string v.n.ai.sh,.int .i64 v.n.ai.c,.int .i64 v.n.ai.r,.bool v.n.ai.ac,.bool v.n.ai.ar,v.aY] _ _ gN.o Tryz.underlying44 rfl zJ ?_)|(at_builtin;refine xG JV.o qD rfl (.tmp 181) (.tmp 183) rfl w.heap.size _ vs rfl (uZ.o.nodes.alloc _) ⟨_,0,none⟩ 1 1 [v] rfl rfl ?_ ?_ ?_ ?_ ?_;exact gD _ _ _ rfl;(rw[← jI.o];exact bN (Nat.mul_le_mul_left _ Ll) (by omega));(rw[← jI.o];unfold maxLen;omega);(rw[lQ];exact bN uZ.o.dC.size (Nat.le_succ _));intro v6 w6 h1 h2 h3;have sH:=ae h1;have su:=ae h2;clear h1 h2 h3))
       go_roundw
       case rel =>
        refine⟨i+1,nl+1,vs++[v],Fu,_,_,by omega,(by rw[ax, ← jI.o];rfl),by omega,rfl,rfl,by go_num,ae ?_,ae ?_⟩
        · exact(uZ.o.next (kN _ _)).node v (Aj.o.next (kN _ _)) sH.o su.o
        · rw[iL];show lF (vs.map (·.n)++[v.n]) Fu;rw[HL.o];exact Ao.o
       case measure=>simp[intOf];omega
   · by_cases hin:i<n
     · have h4:nl=40:=by omega
       subst h4;have hii:(i:Int)<(n:Int):=by omega
       obtain⟨BS,cl,rfl⟩:=zL HM.o.nodes 40 hnl.symm;go_wp2_with fail
       go_meet
       case rel=>exact⟨vs,st,_,_,_,rfl,rfl,rfl,HM,HI,ae (Nat.le_of_eq hnl.symm)⟩
     · have hii:¬ (i:Int)<(n:Int):=by omega
       go_wp2_with fail
       go_meet
       case rel=>exact⟨vs,st,_,_,_,rfl,rfl,rfl,HM,HI,ae (by rw[← hnl];exact h40)⟩
 case rest =>
  obtain⟨vs,st,lk,sk,dn,rfl,rfl,rfl,HM,HI,HL⟩:=hcut;obtain⟨eb,jW,df⟩:=Elem.kid;obtain⟨nb,Ll,NL⟩:=Elem.dP;have jw:=ae df;have JV:=ae NL;clear df NL;go_upto_region 30 with (fail)
  go_loopw [3,4] (fun gq sv wr=>∃(k nl:Nat)(vs:List aK)(st:List Int)(lk sk:Value),nl+k≤80∧lk=gq∧sk=sv∧Hid (vs.length=nl)∧Hid (st.length=k)∧Hid (jK w wr lk sk vs st)∧Hid (lF (vs.map (·.n)) st)) (fun _ sv _=>lenOf sv)
  case atStart =>
   have h1:=HI.o.few;have h2:=HL.o;rw[eF]at h1;exact⟨st.length,vs.length,vs,st,_,_,by omega,rfl,rfl,ae rfl,ae rfl,HM,HI⟩
  case round =>
   obtain⟨k,nl,vs,st,lk,sk,h80,rfl,rfl,jI,HK,HM,HI⟩:=hrel;obtain⟨BS,cl,rfl⟩:=zL HM.o.nodes nl jI.o;obtain⟨As,cs,rfl⟩:=zL HM.o.jP k HK.o;by_cases hlt:1<k
   · have hii:(1:Int)<(k:Int):=by omega
     have hk2:2≤k:=hlt;obtain⟨i2,hi2⟩:∃i,k - 2=i:=⟨_,rfl⟩;obtain⟨i1,hi1⟩:∃i,k - 1=i:=⟨_,rfl⟩;have b1:(k:Int) - 2=(i2:Int):=by omega
     have b2:(k:Int) - 1=(i1:Int):=by omega
     have b5:IntKind.i64.wrap (i2:Int)=(i2:Int):=by rw[gJ];omega
     have b6:IntKind.i64.wrap (i1:Int)=(i1:Int):=by rw[gJ];omega
     have l2:i2<k:=by omega
     have l1:i1<k:=by omega
     have j2:(i2:Int)<(k:Int):=by omega
     have j1:(i1:Int)<(k:Int):=by omega
     have n2:(0:Int)≤(i2:Int):=by omega
     have n1:(0:Int)≤(i1:Int):=by omega
     obtain⟨g,cg,hA,hg0,hg1,hg2,hg3⟩:=Own.some HM.o.jP (by rw[HK.o];omega);injection hA with hA1 hA2 hA3;subst hA1;have hdr:=QH HK.o hk2;rw[hi2,hi1]at hdr;obtain⟨a,ha⟩:∃a,st.getD i2 0=a:=⟨_,rfl⟩;obtain⟨b,hb⟩:∃b,st.getD i1 0=b:=⟨_,rfl⟩;have ca:wr.cell? ⟨g,i2,none⟩=some (.int .i64 a):=by rw[← ha];exact Own.zC HM.o.jP i2 (by rw[HK.o];exact l2)
     have cb:wr.cell? ⟨g,i1,none⟩=some (.int .i64 b):=by rw[← hb];exact Own.zC HM.o.jP i1 (by rw[HK.o];exact l1)
     rw[ha,hb]at hdr;have hcs:i2≤cs:=by rw[hA3];have:=HK.o;omega
     have yV:=ae (show lF (vs.map (·.n)++[KS a b]) (st.take i2++[((vs.map (·.n)).length:Int)])from lF.cat (by rw[← hdr,List.take_append_drop];exact HI.o));have HI2:=ae hi2;have Ap:=ae (show(st.take i2).length=i2 from by rw[gW,HK.o];omega);have mf:=ae (iN.VG (w:=wr.drew) HM.o.dC.size HM.o.drew.jP a b);obtain⟨v,hv,kI⟩:=mf.o.nv (KS a b) rfl;have aW:=ae hv;have XW:=ae kI;have nV:=ae (HM.o.drew.next (kN wr.drew (.cells #[.int .i64 a,.int .i64 b] 3)));have uf:=ae (nV.o.next (kN (wr.drew.alloc (.cells #[.int .i64 a,.int .i64 b] 3)) (.cells #[.int .i64 15,.int .i64 0,.string ⟨#[]⟩,.string ⟨#[]⟩,.int .i64 0,.int .i64 0,.bool false,.bool false,.string ⟨#[]⟩,.int .i64 0,.int .i64 0,.bool false,.bool false,.slice (some ⟨wr.heap.size,0,none⟩) 2 2] 44)));have pE:=ae (mf.o.next (kN (wr.drew.alloc (.cells #[.int .i64 a,.int .i64 b] 3)) (.cells #[.int .i64 15,.int .i64 0,.string ⟨#[]⟩,.string ⟨#[]⟩,.int .i64 0,.int .i64 0,.bool false,.bool false,.string ⟨#[]⟩,.int .i64 0,.int .i64 0,.bool false,.bool false,.slice (some ⟨wr.heap.size,0,none⟩) 2 2] 44)))
     have sj:=ae (show ∀(j:Nat)(u:Value),(qD.all [v])[j]? = some u→((wr.drew.alloc (.cells #[.int .i64 a,.int .i64 b] 3)).alloc (.cells #[.int .i64 15,.int .i64 0,.string ⟨#[]⟩,.string ⟨#[]⟩,.int .i64 0,.int .i64 0,.bool false,.bool false,.string ⟨#[]⟩,.int .i64 0,.int .i64 0,.bool false,.bool false,.slice (some ⟨wr.heap.size,0,none⟩) 2 2] 44)).cell? ((⟨wr.heap.size+1,0,none⟩:Addr).add j)=some u from by
      have e:qD.all [v]=(#[.int .i64 15,.int .i64 0,.string ⟨#[]⟩,.string ⟨#[]⟩,.int .i64 0,.int .i64 0,.bool false,.bool false,.string ⟨#[]⟩,.int .i64 0,.int .i64 0,.bool false,.bool false,.slice (some ⟨wr.heap.size,0,none⟩) 2 2]:Array Value).toList:=by show qD.f v++[]=_;rw[gL];show(bA v.n v.aY).toList=_;rw[hv,kI];rfl
      rw[e];intro j u hj;have:=gD (w:=(wr.drew.alloc (.cells #[.int .i64 a,.int .i64 b] 3))) #[.int .i64 15,.int .i64 0,.string ⟨#[]⟩,.string ⟨#[]⟩,.int .i64 0,.int .i64 0,.bool false,.bool false,.string ⟨#[]⟩,.int .i64 0,.int .i64 0,.bool false,.bool false,.slice (some ⟨wr.heap.size,0,none⟩) 2 2] 44 _ rfl j u hj;rwa[lQ]at this)
     have cK:=ae (show wr.drew.cell? ⟨g,i2,none⟩=some (.int .i64 a)∧wr.drew.cell? ⟨g,i1,none⟩=some (.int .i64 b)from⟨ca,cb⟩);have HS2:=ae (show(wr.drew.alloc (.cells #[.int .i64 a,.int .i64 b] 3)).cell? ⟨g,i2,none⟩=some (.int .i64 a)∧(wr.drew.alloc (.cells #[.int .i64 a,.int .i64 b] 3)).cell? ⟨g,i1,none⟩=some (.int .i64 b)from⟨uA _ _ _ cK.o.1,uA _ _ _ cK.o.2⟩);have mG:=ae (show((wr.drew.alloc (.cells #[.int .i64 a,.int .i64 b] 3)).alloc (.cells #[.int .i64 15,.int .i64 0,.string ⟨#[]⟩,.string ⟨#[]⟩,.int .i64 0,.int .i64 0,.bool false,.bool false,.string ⟨#[]⟩,.int .i64 0,.int .i64 0,.bool false,.bool false,.slice (some ⟨wr.heap.size,0,none⟩) 2 2] 44)).cell? ⟨g,i2,none⟩=some (.int .i64 a)∧((wr.drew.alloc (.cells #[.int .i64 a,.int .i64 b] 3)).alloc (.cells #[.int .i64 15,.int .i64 0,.string ⟨#[]⟩,.string ⟨#[]⟩,.int .i64 0,.int .i64 0,.bool false,.bool false,.string ⟨#[]⟩,.int .i64 0,.int .i64 0,.bool false,.bool false,.slice (some ⟨wr.heap.size,0,none⟩) 2 2] 44)).cell? ⟨g,i1,none⟩=some (.int .i64 b)from⟨uA _ _ _ HS2.o.1,uA _ _ _ HS2.o.2⟩);have xL:=ae (show g<((wr.drew.alloc (.cells #[.int .i64 a,.int .i64 b] 3)).alloc (.cells #[.int .i64 15,.int .i64 0,.string ⟨#[]⟩,.string ⟨#[]⟩,.int .i64 0,.int .i64 0,.bool false,.bool false,.string ⟨#[]⟩,.int .i64 0,.int .i64 0,.bool false,.bool false,.slice (some ⟨wr.heap.size,0,none⟩) 2 2] 44)).heap.size∧some g≠(Value.slice BS nl cl).ownBlock from⟨by rw[lQ,lQ];show g<wr.heap.size+1+1;omega,fun e=>HM.o.jP.Cr HM.o.nodes (by decide) rfl e⟩);clear hi2 hi1 ha hb hdr hA2 hA3 hg0 hg1 hg2 hg3 hlt hk2 hv kI;go_wp2_with fail
     refine wp_region_held_drew (S:=fun W=>W.cell? ⟨g,i2,none⟩=some (.int .i64 a)∧W.cell? ⟨g,i1,none⟩=some (.int .i64 b)) (by kernel_rfl) cK.o (fun _ => ?_);show wpAnyH _ _ _ _ _ 18 #[false,false,false,false,false,false,false,false,false,false,false,false,false,false,false,false,false,false] _ _;refine hT 0 cK.o ?_;refine hT 1 cK.o ?_;refine hT 2 cK.o ?_;refine hT 3 cK.o ?_;refine hT 4 cK.o ?_;refine hT 5 cK.o ?_;refine hT 6 cK.o ?_ (hy:=by(intro ig hSw;have hz:=hSw.1;go_simp;try(with_reducible rfl)));refine hT 7 cK.o ?_;refine hT 8 cK.o ?_;refine hT 9 cK.o ?_;refine hT 10 cK.o ?_;refine hT 11 cK.o ?_;refine hT 12 cK.o ?_ (hy:=by(intro ig hSw;have hz:=hSw.2;go_simp;try(with_reducible rfl)));refine hO 13 (fun K hK => ?_);go_simp;refine hK.o _ _ HS2.o ?_;clear hK K;simp only[Act.put,sT,fV,fU];refine hT 14 HS2.o ?_;refine hO 15 (fun K hK => ?_);go_simp;refine hK.o _ _ mG.o ?_;clear hK K;simp only[Act.put,sT,fV,fU];refine hO 16 (fun K hK => ?_);refine aj2 JV.o qD rfl (.tmp 188) (.tmp 203) rfl w.heap.size _ vs rfl uf.o.nodes ⟨wr.heap.size+1,0,none⟩ 1 1 [v] rfl rfl sj.o ?_ ?_ ?_ ?_
     · (rw[jI.o];exact bN (Nat.mul_le_mul_left _ Ll) (by omega))
     · (rw[jI.o];unfold maxLen;omega)
     · exact uf.o.dC.size
     intro v4 w4 h1 h2 _;have mg:=ae h1;have oO:=ae h2;clear h1 h2;have qw:=ae (show w4.cell? ⟨g,i2,none⟩=some (.int .i64 a)∧w4.cell? ⟨g,i1,none⟩=some (.int .i64 b)from⟨(Cu (a:=⟨g,i2,none⟩) oO.o xL.o.1 xL.o.2).trans mG.o.1,(Cu (a:=⟨g,i1,none⟩) oO.o xL.o.1 xL.o.2).trans mG.o.2⟩);refine hK.o _ _ qw.o ?_;clear hK K;simp only[Act.put,sT,fV,fU];refine hT 17 qw.o ?_;refine wpAnyH_done (by kernel_rfl) ?_ _;obtain⟨A4,c4,rfl⟩:=zL mg.o (nl+1) (by rw[ax,jI.o];rfl);have OZ:=ae (uf.o.node v (by rw[aW.o,XW.o];exact pE.o) mg.o oO.o);obtain⟨hfn,hfc⟩:=Own.Uf OZ.o.jP i2;have JG:=ae (show(some ⟨g,0,none⟩:Option Addr)=none→i2=0∧i2=0 from fun e=>nomatch e);have JE:=ae hfc;have s1:((nl+1:Nat):Int) - 1=(nl:Int):=by omega
     have s3:(nl:Int)+1 - 1=(nl:Int):=by omega
     have s2:IntKind.i64.wrap (nl:Int)=(nl:Int):=by rw[gJ];omega
     clear hfn hfc;go_wp2_with (at_builtin;refine Jj jw.o (aJ .i64) rfl (.tmp 212) (.tmp 216) rfl (some ⟨g,0,none⟩) i2 i2 (st.take i2) rfl JG.o Ap.o (fun b e j u hu=>(uA _ _ _ (JE.o b e j u hu))) ⟨_,0,none⟩ 1 1 [(nl:Int)] rfl rfl ?_ (by omega) ?_ ?_ ?_;exact gD _ _ _ rfl;(exact bN (Nat.mul_le_mul_left _ jW) (by omega));(unfold maxLen;omega);intro v5 w5 h1 h2;obtain⟨A5,c5,rfl⟩:=zL h1 (i2+1) (by rw[ax,Ap.o];rfl);have mQ:=ae h1;have uZ:=ae ((OZ.o.next (kN _ _)).fresh h1 h2);clear h1 h2)
     go_roundw
     case rel =>
      refine⟨i2+1,nl+1,vs++[v],st.take i2++[(nl:Int)],_,_,by omega,rfl,rfl,ae (by rw[ax,jI.o];rfl),ae (by rw[ax,Ap.o];rfl),uZ,ae ?_⟩;have:=yV.o;rw[eF,jI.o]at this;rw[iL];show lF (vs.map (·.n)++[v.n]) _;rw[aW.o];exact this
     case measure=>simp[lenOf];omega
   · have hii:¬ (1:Int)<(k:Int):=by omega
     go_wp2_with fail
     go_ret;exact⟨_,_,vs,st,rfl,HM.o,HI.o,by rw[HK.o];omega,by rw[jI.o];omega⟩
def Il(i:Nat):ByteArray:=if i=0 then ⟨#[65]⟩else if i=1 then ⟨#[66]⟩else ⟨#[67]⟩
theorem afK (W:World)(i:Nat)(hi:i<3):(W.alloc (.cells #[.string ⟨#[65]⟩,.string ⟨#[66]⟩,.string ⟨#[67]⟩] 9)).cell? ⟨W.heap.size,i,none⟩=some (.string (Il i)):=by
 rw[World.cell?_alloc_new]
 match i,hi with
 | 0,_=>rfl
 | 1,_=>rfl
 | 2,_=>rfl
theorem afL(i:Nat):(Il i).size≤maxLen:=by unfold Il;(repeat' split) <;> decide
theorem aey (w:World)(A B:Option Addr)(n cap m jU k:Nat)(hno:40<n∨60<m)(hx:oN w) :
 Calls Tryz.prog 3 #[.slice A n cap,.slice B m jU,.int .u8 (k:Int)] w fun e w'=>e = .returned (.bool true)∧Below w.heap.size w w':=by
 have HA:=ae (P5 w hx);clear hx;by_cases h1:(40:Int)<(n:Int);rotate_left;have h2:(60:Int)<(m:Int):=by omega
 all_goals
  clear hno;go_enter Tryz.func3,Tryz.ntmps3
  go_wp2_with (first
   | (go_at_call 4;((with_reducible refine HA.o.mono ?_);rintro e w1 ⟨rfl,hq⟩;have H1:=ae hq;clear hq)))
  go_ret;exact⟨rfl,H1.o⟩
theorem yc.few {ms:List Nd}{e:Ending}{w':World}(h:yc w ms e w')(hm:ms.length≤1000):∃v l,e = .returned v∧Hid (dN w' w'.heap.size v l)∧Hid (l.map (·.1)=ms)∧Hid (l.length≤1000)∧Hid (Below w.heap.size w w'):=by
 obtain⟨v,l,he,h1,h2,h3⟩:=h;exact⟨v,l,he,ae h1,ae h2,ae (by rw[← eF (f:=(·.1)),h2];exact hm),ae h3⟩
theorem ahJ (w:World)(v1 v2:Value)(l1 l2:List (Nd × Value))(h1:dN w w.heap.size v1 l1)(h2:dN w w.heap.size v2 l2)(hz1:l1.length≤1000)(hz2:l2.length≤1000)(he:l1.map (·.1)=l2.map (·.1)) :
 Calls Tryz.prog 8 #[v1,v2] w fun e w'=>e = .returned (.bool true)∧Below w.heap.size w w' :=
 (agU w v1 v2 l1 l2 h1 h2 hz1 hz2).mono fun e w' h=>⟨by rcases h.1.is with ⟨_,h3⟩|⟨h3,_⟩;exact h3;exact absurd he h3,h.2⟩
theorem aez (w:World)(A B:Option Addr)(n cap m jU k:Nat)(ys:List Int)(hk:k≤255)(hs2:S8 w w.heap.size B m jU ys)(hmd:Calls Tryz.prog 5 #[.slice A n cap] w (Gc w))(hx:oN w) :
 Calls Tryz.prog 3 #[.slice A n cap,.slice B m jU,.int .u8 (k:Int)] w fun e w'=>e = .returned (.bool true)∧Below w.heap.size w w':=by
 by_cases hno:40<n∨60<m
 · exact aey w A B n cap m jU k hno hx
 have h1:¬ (40:Int)<(n:Int):=by omega
 have h2:¬ (60:Int)<(m:Int):=by omega
 have JR:=ae hmd;have HX:=ae hx;have kR:=ae (fun (wq:World)(hq:Below w.heap.size w wq)=>aik wq B m jU ys ((hs2.below hq (aj _)).mono hq.size) (by omega) k hk);have qY:=ae aeg;obtain⟨r3,hr3⟩:∃r,k % 3=r:=⟨_,rfl⟩;have q3:(k:Int) % 3=(r3:Int):=by omega
 have t3:(k:Int).tmod 3=(r3:Int):=by rw[ql (by omega)];exact q3
 have l3:r3<3:=by omega
 have l3a:(r3:Int)<3:=by omega
 have l3b:(0:Int)≤(r3:Int):=by omega
 clear hmd hx hno hs2 hr3;go_enter Tryz.func3,Tryz.ntmps3
 go_upto_region 5 with (first
  | (go_at_call 5;((with_reducible refine JR.o.mono ?_);rintro e w1 h;obtain⟨hb,A1,c1,l,rfl,hsn,hN⟩:=h.made;have w9:=aef hN;have HB1:=ae hb;have fF:=ae hsn;have HN:=ae hN;clear hb hsn hN h))
  | (go_at_call 6;((with_reducible refine(kR.o _ HB1.o).mono ?_);rintro e w2 ⟨B1,d1,done,rfl,Sl,hok,hq⟩;have H2:=ae (HB1.o.trans (hq.mono HB1.o.size));have HS2:=ae (fF.o.lift hq hq.size);have Pk:=ae Sl;have kF:=ae hok;clear hq Sl hok))
  | (go_at_call 7;((with_reducible refine(qY.o _ _ l HS2.o HN.o).mono ?_);rintro e w3 ⟨rfl,hq⟩;have H3:=ae (H2.o.trans (hq.mono H2.o.size));have vo:=ae hq;clear hq)))
 obtain⟨own,gQ⟩:∃o,Il r3=o:=⟨_,rfl⟩;have Pb:=ae (show own.size≤maxLen by rw[← gQ];exact afL r3);have RA:=afK w3 r3 l3;rw[gQ]at RA;clear gQ;go_upto_region 6 with fail
 obtain⟨w4,hw4⟩:∃w4,w3.alloc (.cells #[.string ⟨#[65]⟩,.string ⟨#[66]⟩,.string ⟨#[67]⟩] 9)=w4:=⟨_,rfl⟩;have hb4:Below w3.heap.size w3 w4:=by rw[← hw4];exact Below.alloc (ak _ _) (aj _) _
 rw[hw4];have FO:=ae (vo.o.trans (hb4.mono vo.o.size));have H4:=ae (H3.o.trans (hb4.mono H3.o.size));have qw:=ae (HS2.o.lift FO.o FO.o.size);have Pm:=ae (Pk.o.lift FO.o);obtain⟨u,hu⟩:=aje w4 (HX.o.below H4.o) own Pb.o done B1 3 d1 Pm.o (by omega) kF.o _ HN.o;have pG:=ae hu;have fC:=ae (fun (wq:World)(hq:Below w4.heap.size w4 wq)=>afn wq ((HX.o.below H4.o).below hq).sx.vars own Pb.o done B1 3 d1 (Pm.o.lift hq) (by omega) kF.o A1 c1 l (qw.o.lift hq hq.size) HN.o);have XA:=ae (fun (wq:World)(hq:Below w.heap.size w wq)=>P5 wq (HX.o.below hq));have Lj:(jo own (eH done) (l.map (·.1))).length≤1000:=by rw[H7];have:=HN.o.few;omega
 obtain⟨M,hM⟩:∃M,jo own (eH done) (l.map (·.1))=M:=⟨_,rfl⟩;rw[hM]at Lj fC;have O0:=ae Lj;obtain⟨t,ht⟩:∃t,(⟨#[61]⟩:ByteArray)++strOfNums (di (l.map (·.1)))=t:=⟨_,rfl⟩;have pG:=ae (show ∀wq:World,Below w4.heap.size w4 wq→(Calls Tryz.prog 11 #[.string t,.string own,.slice B1 3 d1] wq fun e w'=>e = .returned (.string u)∧Below wq.heap.size wq w')∧Calls Tryz.prog 12 #[.string t,.string own,.slice B1 3 d1] wq fun e w'=>e = .returned (.string u)∧Below wq.heap.size wq w' from by rw[← ht];exact hu);rw[ht];clear hu ht hM Lj hw4 hb4 RA w9 fF HS2 Pk HB1 H2 H3 vo JR qY kR FO HN
 go_wp2_with (first
  | (go_at_call 9;((with_reducible refine(fC.o _ (ak _ _)).1.mono ?_);intro e w5 h;obtain⟨v1,l1,rfl,HA1,HA2,Xy,sK⟩:=h.few O0.o;clear h))
  | (go_at_call 10;((with_reducible refine(fC.o _ sK.o).2.mono ?_);intro e w6 h;obtain⟨v2,l2,rfl,Ca,DF,sj,hq⟩:=h.few O0.o;have Xz:=ae (HA1.o.lift hq.o hq.o.size);have xR:=ae (sK.o.trans (hq.o.mono sK.o.size));clear h hq))
  | (go_at_call 8;((with_reducible refine(ahJ _ _ _ l1 l2 Xz.o Ca.o Xy.o sj.o (HA2.o.trans DF.o.symm)).mono ?_);rintro e w7 ⟨rfl,hq⟩;have J5:=ae (xR.o.trans (hq.mono xR.o.size));clear hq))
  | (go_at_call 11;((with_reducible refine(pG.o _ J5.o).1.mono ?_);rintro e w8 ⟨rfl,hq⟩;have D8:=ae (J5.o.trans (hq.mono J5.o.size));clear hq))
  | (go_at_call 12;((with_reducible refine(pG.o _ D8.o).2.mono ?_);rintro e iG ⟨rfl,hq⟩;have J6:=ae (H4.o.trans ((D8.o.trans (hq.mono D8.o.size)).mono H4.o.size));clear hq))
  | (go_at_call 4;((with_reducible refine(XA.o _ J6.o).mono ?_);rintro e w10 ⟨rfl,hq⟩;have Yd:=ae (J6.o.trans (hq.mono J6.o.size));clear hq)))
 go_ret;exact⟨rfl,Yd.o⟩
theorem aex (w:World)(A B:Option Addr)(n cap m jU k:Nat)(xs ys:List Int)(hk:k≤255)(hs:S8 w w.heap.size A n cap xs)(hs2:S8 w w.heap.size B m jU ys)(hx:oN w) :
 Calls Tryz.prog 3 #[.slice A n cap,.slice B m jU,.int .u8 (k:Int)] w fun e w'=>e = .returned (.bool true)∧Below w.heap.size w w':=by
 have h1:=hs.le;have h2:=hs.max;have h3:maxLen≤9223372036854775807:=by decide
 exact aez w A B n cap m jU k ys hk hs2 (aee w A n cap xs hs (by omega)) hx
end Go.Proofs.YtbplbjmmfgjdjaaGreatDoor
namespace Go.Proofs.YtbplbjmmfgjdjaaGreatDoor
open Go.ChangeShapes Go.WideShapes Go.ChangeAt Go.RowKit
theorem Z7:Tryz.prog.cellsOf 5=1:=by kernel_rfl
theorem UE {H:Type}{enc:TypeId × Value→H}{W:World}{base:Nat}{v:Value}{d:DataW H}{p:List MemPlace}(hval:Value.okWide Tryz.prog W .any base 22 v)(h:DataW.Trod enc Tryz.prog W 0 (fun _=>true) true 22 v d p) :
 ∃A len cap xs,v = .slice A len cap∧S8 W W.heap.size A len cap xs:=by
 obtain⟨A,len,cap,rfl⟩:=okWide_slice Tryz.underlying22 hval;obtain⟨fuel,hf⟩:=h;rcases open_ints Tryz.underlying22 Tryz.underlying5 Z7 hf with ⟨hcs,_⟩|⟨a,ak9,qA,zs,hcs,_,hl,hm,hz,_,hcell,hwz⟩
 · simp[Value.cells]at hcs
   obtain⟨rfl,rfl,rfl⟩:=hcs;exact⟨none,0,0,[],rfl,rfl,aj _,by unfold maxLen;omega,Bytes.nil,.inl rfl⟩
 · simp [Value.cells]at hcs
   obtain⟨rfl,rfl,rfl⟩:=hcs;simp only[if_true]at hz;have hb:Bytes zs:=fun n hn=>bounds_u8 (hwz n hn)
   by_cases h0:cap=0
   · have hl0:len=0:=by omega
     exact⟨some a,len,cap,zs.take len,rfl,by rw[gW];omega,hl,hm,hb.take _,.inl hl0⟩
   · obtain⟨b,off,rfl,hc⟩:=ints_at hcell (by omega)
     refine⟨some ⟨b,off,none⟩,len,cap,zs.take len,rfl,by rw[gW];omega,hl,hm,hb.take _,.inr ⟨b,off,rfl,block_lt_of_cell (hc 0 (by omega)),fun j hj => ?_⟩⟩;rw[hc j (by omega)];congr 2;simp only[kg];rw[List.getElem?_take_of_lt hj]
end Go.Proofs.YtbplbjmmfgjdjaaGreatDoor
namespace Go.Proofs.YtbplbjmmfgjdjaaGreatDoor
open Go.ChangeShapes Go.WideShapes Go.ChangeAt Go.RowKit
variable {held:Bool}{p:List MemPlace}{cs:List Value}{base fuel:Nat}{sp:Nat→Bool}{W w:World}
def Jc{H:Type}(bs:List (List UInt8)):DataW H := .agg (bs.map fun b => .lit (.string b))
theorem Qx {H:Type}{enc:TypeId × Value→H}{P:Program}{t e:TypeId}{n:Nat}{bs:List (List UInt8)}
 (ht:P.underlying t=some (.array n e)) (he:P.underlying e=some .string) (hce:P.cellsOf e=1) (hct:P.cellsOf t=n)
 (h:DataW.trod enc P w base sp held fuel t cs=some (Jc bs,p)):cs=bs.map fun b=>Value.string ⟨b.toArray⟩:=by
 cases fuel with
 | zero=>simp[DataW.trod]at h
 | succ fuel =>
   simp only[DataW.trod,ht,hce,hct,Nat.mul_one]at h;split at h
   · rename_i hl
     obtain⟨xs,hm,hx⟩:=Option.map_eq_some_iff.1 h
     have hxs:xs.map (·.1)=bs.map fun b=>(DataW.lit (.string b):DataW H):=by
      have:=congrArg Prod.fst hx
      simpa [Jc]using this
     have hxl:xs.length=n:=by simpa using Lib.mapM_length hm
     have hzl:bs.length=n:=by
      have:=congrArg List.length hxs;simp at this;omega
     apply List.ext_getElem?;intro i;by_cases hi:i<n
     · obtain ⟨b,hb,hf⟩:=Lib.mapM_at hm i i (by simp[hi])
       obtain⟨z,hc,rfl,_⟩:=DataW.trod_string he hf
       have h1:cs[i]? = some (.string z):=by
        have:=congrArg (·[0]?) hc
        simpa [List.getElem?_take,List.getElem?_drop]using this
       have h2:(xs.map (·.1))[i]? = some (DataW.lit (.string z.data.toList):DataW H):=by simp[hb]
       rw[hxs]at h2;simp only[gY,Option.map_eq_some_iff,DataW.lit.injEq,Lit.string.injEq]at h2;obtain⟨z',hz',e⟩:=h2;simp only[h1,gY,hz',jq,e]
     · rw[List.getElem?_eq_none (by omega),List.getElem?_eq_none (by simp;omega)]
   · cases h
def pY : List (String × DataW Unit) := [("math/bits.deBruijn32tab", Rows.laid_math_bits_deBruijn32tab), ("math/bits.deBruijn64tab", Rows.laid_math_bits_deBruijn64tab), ("internal/strconv.uint64pow10", Rows.laid_internal_strconv_uint64pow10), ("unicode/utf8.acceptRanges", Rows.laid_unicode_utf8_acceptRanges), ("strconv.ErrRange", Rows.laid_strconv_ErrRange), ("strconv.ErrSyntax", Rows.laid_strconv_ErrSyntax), ("chequer/lex.signs", Rows.laid_chequer_lex_signs), ("chequer/parse.operators", Rows.laid_chequer_parse_operators), ("chequer/show.signs", Rows.laid_chequer_show_signs), ("unicode/utf8.first", Rows.laid_unicode_utf8_first)]
theorem QZ : Tryz.prog.globalNamed "strconv.ErrRange" = some 8 := by kernel_rfl
theorem aa4:(Tryz.prog.globals[(8:Nat)]?).map (·.type)=some 119:=by kernel_rfl
theorem Rc : Tryz.prog.globalNamed "chequer/lex.signs" = some 1 := by kernel_rfl
theorem aa7:(Tryz.prog.globals[(1:Nat)]?).map (·.type)=some 173:=by kernel_rfl
theorem Qv:Tryz.prog.cellsOf 221=1:=by kernel_rfl
theorem Gw:Tryz.prog.cellsOf 9=1:=by kernel_rfl
theorem Z4:Tryz.prog.cellsOf 173=15:=by kernel_rfl
theorem star : "*" ++ "errors.errorString" = "*errors.errorString" := by decide
theorem VH (u : TypeId) (h : Tryz.prog.typeName? 3 u = some "*errors.errorString") : u = 219 :=
 typeName_ptr_named (nm := "errors.errorString") (by rw [star]; kernel_rfl) (by kernel_rfl) (by decide) u (by rw [star]; exact h)
def Wd:List (List UInt8):=[[60,62],[60,61],[62,61],[43],[45],[42],[47],[38],[61],[60],[62],[40],[41],[44],[58]]
theorem aix:(Rows.laid_chequer_lex_signs:DataW Unit)=Jc Wd:=rfl
theorem aiw:(Wd.map fun b=>Value.string ⟨b.toArray⟩)=zU.toList:=rfl
theorem jY {P:Program}{x:String × DataW Unit}{l:List (String × DataW Unit)}(h:laidMet P (x :: l) w):laidMet P l w:=by
 obtain⟨ps,h1,h2,h3⟩:=h;obtain⟨n,d⟩:=x;obtain⟨g,t,cs,fuel,p,q,_,_,_,_,hq,rfl⟩:=h1;exact⟨q,hq,(List.nodup_append.1 h2).2.1,fun b off hm=>h3 b off (List.mem_append_right _ hm)⟩
theorem aa9:(Tryz.prog.globals[3]?).map (·.type)=some 201:=by kernel_rfl
theorem ZA:Tryz.prog.cellsOf 201=20:=by kernel_rfl
theorem Zz:Tryz.prog.cellsOf 60=1:=by kernel_rfl
theorem ai4 (h:laidMetH Tryz.prog pY W):lU W:=by
 have h1:laidMet Tryz.prog pY W:=h;exact Lib.tabIs_of_head Rf aa9 Tryz.underlying201 Tryz.underlying60 Zz ZA (jY (jY h1))
theorem Rb : Tryz.prog.globalNamed "chequer/show.signs" = some 0 := by kernel_rfl
theorem aa6:(Tryz.prog.globals[(0:Nat)]?).map (·.type)=some 166:=by kernel_rfl
theorem Z0:Tryz.prog.cellsOf 166=20:=by kernel_rfl
def V5:List (List UInt8):=[[],[],[],[],[],[],[],[],[],[61],[60,62],[60],[60,61],[62],[62,61],[38],[43],[45],[42],[47]]
theorem aim:(Rows.laid_chequer_show_signs:DataW Unit)=Jc V5:=rfl
theorem ail:(V5.map fun b=>Value.string ⟨b.toArray⟩)=Fp.toList:=rfl
theorem ai1 (h:laidMetH Tryz.prog pY W):rf W:=by
 have h1:laidMet Tryz.prog pY W:=h;have h6:=jY (jY (jY (jY (jY (jY (jY (jY (h1))))))));obtain⟨ps,⟨g',t',cs,fuel,p,q,hg',ht',kJ,hd,_,_⟩,_⟩:=h6;obtain rfl:=dM (Rb.symm.trans hg');obtain rfl:=dM (aa6.symm.trans ht');rw[aim]at hd;have hc:=Qx Tryz.underlying166 Tryz.underlying9 Gw Z0 hd;rw[ail]at hc;unfold World.var? at kJ;rw[Rb]at kJ;simp only[Option.bind_some]at kJ;split at kJ
 · rename_i cs' ty fr hh
   injection kJ with kJ;subst kJ;have:cs'=Fp:=Array.toList_inj.1 hc;exact⟨ty,fr,by rw[← this];exact hh⟩
 · cases kJ
theorem tables (h:laidMetH Tryz.prog pY W):Vars W:=by
 have h1:laidMet Tryz.prog pY W:=h;have h4:=jY (jY (jY (jY (h1))));constructor
 · obtain⟨a0,s0,hv0, -, -, -⟩:=laid_sentinel h4 QZ aa4 Tryz.underlying119 VH Tryz.underlying219 Tryz.underlying221 rfl rfl Tryz.underlying9 Qv Gw
   exact⟨_,by have h0:=World.var?_cell QZ hv0 0;simpa using h0,Or.inr ⟨_,_,rfl⟩⟩
 · have h6:=jY (jY h4)
   obtain⟨ps,⟨g',t',cs,fuel,p,q,hg',ht',kJ,hd,_,_⟩,_⟩:=h6;obtain rfl:=dM (Rc.symm.trans hg');obtain rfl:=dM (aa7.symm.trans ht');rw[aix]at hd;have hc:=Qx Tryz.underlying173 Tryz.underlying9 Gw Z4 hd;rw[aiw]at hc;unfold World.var? at kJ;rw[Rc]at kJ;simp only[Option.bind_some]at kJ;split at kJ
   · rename_i cs' ty fr hh
     injection kJ with kJ;subst kJ;have:cs'=zU:=Array.toList_inj.1 hc;exact⟨ty,fr,by rw[← this];exact hh⟩
   · cases kJ
def opC(q:ByteArray × Nat × Int):List Value:=[.string q.1,.int .i64 (q.2.1:Int),.int .i64 q.2.2]
theorem Qu:∀(L:List (ByteArray × Nat × Int))(cs:List Value),cs.length=L.length*3→(∀(i:Nat) q,L[i]? = some q→(cs.drop (i*3)).take 3=opC q)→cs=L.flatMap opC
 | [],cs,h,_=>by simpa using h
 | q :: L,cs,h,hi=>by
   have h0:=hi 0 q rfl;rw[Nat.zero_mul,List.drop_zero]at h0
   have h1:=Qu L (cs.drop 3) (by rw[lq,h,bf];omega) (fun i q' hq=>by
    have:=hi (i+1) q' (by simpa using hq);rw[Nat.succ_mul]at this;rw[List.drop_drop,Nat.add_comm 3];exact this)
   rw[qm, ← h0, ← h1,List.take_append_drop]
def CW{H:Type}(q:ByteArray × Nat × Int):DataW H := .agg [.lit (.string q.1.data.toList),.lit (.int .i64 (q.2.1:Int)),.lit (.int .i64 q.2.2)]
theorem afH:(Rows.laid_chequer_parse_operators:DataW Unit) = .agg (rR.map CW):=rfl
theorem Ra : Tryz.prog.globalNamed "chequer/parse.operators" = some 2 := by kernel_rfl
theorem aa5:(Tryz.prog.globals[(2:Nat)]?).map (·.type)=some 176:=by kernel_rfl
theorem ZZ:Tryz.prog.cellsOf 176=33:=by kernel_rfl
theorem Qw:Tryz.prog.cellsOf 175=3:=by kernel_rfl
theorem afD {enc:TypeId × Value→Unit}{q:ByteArray × Nat × Int}
 (h:DataW.trod enc Tryz.prog w base sp held fuel 175 cs=some (CW q,p)):cs=opC q:=by
 obtain⟨y0,y1,y2,n,hx,hl,h0,h1,h2⟩:=Go.Deep.trod_struct3 Tryz.underlying175 h;injection hx with hx _;unfold CW at hx;injection hx with hx;injection hx with e0 hx;injection hx with e1 hx;injection hx with e2 _;rw[Qw]at hl
 match cs,hl with
 | [c0,c1,c2],_ =>
   obtain⟨s,g0,g0',_⟩:=DataW.trod_string Tryz.underlying9 h0;obtain⟨n1,g1,g1',_⟩:=DataW.trod_int Tryz.underlying3 h1;obtain⟨n2,g2,g2',_⟩:=DataW.trod_int Tryz.underlying3 h2;have k0:[c0]=[Value.string s]:=g0;have k1:[c1]=[Value.int .i64 n1]:=g1;have k2:[c2]=[Value.int .i64 n2]:=g2;injection k0 with k0 _;injection k1 with k1 _;injection k2 with k2 _;rw[g0']at e0;rw[g1']at e1;rw[g2']at e2;injection e0 with e0;injection e0 with e0;injection e1 with e1;injection e1 with _ e1;injection e2 with e2;injection e2 with _ e2
   have es:s=q.1:=by
    cases s;cases hq:q.1
    rw[hq]at e0;simp only at e0;rw[Array.toList_inj.1 e0.symm]
   rw[k0,k1,k2,es, ← e1, ← e2];rfl
theorem Z6 {enc:TypeId × Value→Unit}
 (h:DataW.trod enc Tryz.prog w base sp held fuel 176 cs=some (.agg (rR.map CW),p)):cs=rR.flatMap opC:=by
 obtain⟨xs,m,_,hx,hl,hxl,hi⟩:=DataW.trod_array Tryz.underlying176 h;injection hx with hx _;injection hx with hx;rw[ZZ]at hl;refine Qu rR cs (by rw[hl];rfl) fun i q hq => ?_
 have hlt:=(eQ.1 hq).1;have hlt:i<11:=hlt;have h1:=hi i hlt;rw[Qw]at h1;obtain⟨y,hy⟩:∃y,xs[i]? = some y:=⟨_,cZ (by omega)⟩;rw[hy]at h1;have h2:(xs.map (·.1))[i]? = some y.1:=by rw[gY,hy];rfl
 rw[← hx,gY,hq]at h2;have h2:CW q=y.1:=dM h2;obtain⟨y1,y2⟩:=y;have h2:CW q=y1:=h2;subst h2;exact afD h1
theorem afw:BB.toList=rR.flatMap opC:=rfl
theorem ai0 (h:laidMetH Tryz.prog pY W):nY W:=by
 have h1:laidMet Tryz.prog pY W:=h;have h4:=jY (jY (jY (jY (jY (jY (jY (h1)))))));obtain⟨ps,⟨g',t',cs,fuel,p,q,hg',ht',kJ,hd,_,_⟩,_⟩:=h4;obtain rfl:=dM (Ra.symm.trans hg');obtain rfl:=dM (aa5.symm.trans ht');rw[afH]at hd;have hc:=Z6 hd;rw[← afw]at hc;unfold World.var? at kJ;rw[Ra]at kJ;simp only[Option.bind_some]at kJ;split at kJ
 · rename_i cs' ty fr hh
   injection kJ with kJ;subst kJ;have:cs'=BB:=Array.toList_inj.1 hc;exact⟨ty,fr,by rw[← this];exact hh⟩
 · cases kJ
theorem maxOf (h:W.ShapedOpen Tryz.prog):q9 W :=
 cell_of_shapedOpen_int (g:=4) (t:=3) (zero:=#[.int .i64 0]) h (of_decide_eq_true (by kernel_rfl)) (by kernel_rfl) rfl (by kernel_rfl) (by kernel_rfl) Tryz.underlying3
theorem ai2(h:laidMetH Tryz.prog pY W)(hs:W.ShapedOpen Tryz.prog):Sx W:=⟨tables h,ai0 h,ai4 h,maxOf hs,ai1 h⟩
noncomputable def Hr (os:Os):World:=World.laidAll Tryz.prog os pY
theorem adr(os:Os)(args:Array Value):laidMet Tryz.prog pY ((Hr os).forCall (fun _ _=>0) ⟨#[],args,[]⟩).memory:=laidMet_laidAll args (by kernel_rfl) (by kernel_rfl)
end Go.Proofs.YtbplbjmmfgjdjaaGreatDoor
namespace Go.Proofs.YtbplbjmmfgjdjaaGreatDoor
open Go.ChangeShapes Go.WideShapes Go.ChangeAt Go.RowKit
theorem Re : Tryz.prog.globalNamed "strconv.ErrSyntax" = some 7 := by kernel_rfl
theorem aa8:(Tryz.prog.globals[(7:Nat)]?).map (·.type)=some 119:=by kernel_rfl
theorem ai3 {W:World}(h:laidMetH Tryz.prog pY W):Dy W:=by
 have h1:laidMet Tryz.prog pY W:=h;have h5:=jY (jY (jY (jY (jY (h1)))));obtain⟨a0,s0,hv0, -, -, -⟩:=laid_sentinel h5 Re aa8 Tryz.underlying119 VH Tryz.underlying219 Tryz.underlying221 rfl rfl Tryz.underlying9 Qv Gw;exact⟨_,by have h0:=World.var?_cell Re hv0 0;simpa using h0,Or.inr ⟨_,_,rfl⟩⟩
theorem aiZ{W:World}(h:laidMetH Tryz.prog pY W)(hs:W.ShapedOpen Tryz.prog):oN W:=⟨ai2 h hs,ai3 h⟩
end Go.Proofs.YtbplbjmmfgjdjaaGreatDoor
