import Derived.Test.YtaobhjliflomaaaGreatDoorMW10
import Derived.Deep.CutRange
import Derived.Test.YtaobhjliflomaaaGreatDoorCards
import Derived.Test.YtaobhjliflomaaaGreatDoorTie
import Derived.Shelf.Vars
import Derived.Deep.Strs
import Derived.Stop.LaidErr
import Derived.Lay
set_option maxRecDepth 100000
set_option maxHeartbeats 64000000
namespace Go.Proofs.YtaobhjliflomaaaGreatDoor
open Go.RowKit
theorem agk {w:World}{B:Nat}{A:Option Addr}{len cap:Nat}{xs:List Int}(h:S8 w B A len cap xs)(i:Nat)(hi:i<len):∃(m pb po:Nat),m<256∧xs[i]? = some (m:Int)∧A=some ⟨pb,po,none⟩∧pb<B∧w.cell? ⟨pb,po+i,none⟩=some (.int .u8 (m:Int)):=by
 rcases h.at_ with h0|⟨pb,po,h1,h2,h3⟩
 · omega
 · have hl:i<xs.length:=by rw[h.hlen];exact hi
   have hx:xs[i]? = some xs[i]:=dL hl;have hb:=h.bytes xs[i] (fT hx);refine⟨xs[i].toNat,pb,po,by omega,by rw[hx];congr 1;omega,h1,h2, ?_⟩;rw[h3 i hi,jL,hx];show some (Value.int .u8 xs[i])=_;congr 2;omega
theorem kI(w:World)(o:Obj):Below w.heap.size w (w.alloc o):=(ak _ _).alloc (aj _) _
theorem tT (w:World)(o:Obj)(a:Addr){u:Value}(h:w.cell? a=some u):(w.alloc o).cell? a=some u:=by
 have hl:a.block<w.heap.size:=by
  unfold World.cell? at h;cases h2:w.heap[a.block]? with
  | none=>rw[h2]at h;cases h
  | some x=>exact(dn.1 h2).1
 exact((kI w o).cell (p:=a) hl).trans h
theorem zw {α : Type}{size:Nat}{E:Enc α size}{e:TypeId}{w:World}{base:Nat}{v:Value}{xs:List α}(h:Own E e w base v xs)(n:Nat)(hn:xs.length=n):∃A c,v = .slice A n c:=by
 rcases h.shape with ⟨h1,h2⟩|⟨g,c,h1,_⟩
 · exact⟨none,0,by rw[h1, ← hn,h2];rfl⟩
 · exact⟨_,c,by rw[h1,hn]⟩
theorem adf (w:World)(A:Option Addr)(n cap:Nat)(xs:List Int)(hs:S8 w w.heap.size A n cap xs)(hn:n≤9223372036854775807) :
 Calls Tryz.prog 7 #[.slice A n cap] w (FP w):=by
 have HS:=ae hs;clear hs;go_enter Tryz.func7,Tryz.ntmps7;go_upto_block 0 with (fail)
 go_cut [3,4]from 5 (fun gK sv wx=>∃(vs:List aC)(st:List Int)(lk sk:Value)(dX:World),lk=gK∧sk=sv∧dX=wx∧Hid (jH w dX lk sk vs st)∧Hid (ll (vs.map (·.n)) st)∧Hid (vs.length≤40))
 case first =>
  go_upto_region 4 with (fail)
  go_loopw [3,4,5] (fun gK sv iv wr=>∃(i nl:Nat)(vs:List aC)(st:List Int)(lk sk:Value),i≤n∧nl=vs.length∧nl≤40∧lk=gK∧sk=sv∧iv = .int .i64 (i:Int)∧Hid (jH w wr lk sk vs st)∧Hid (ll (vs.map (·.n)) st)) (fun _ _ iv _=>n - (intOf iv).toNat)
  case atStart=>exact⟨0,0,[],[],_,_,eP _,rfl,by decide,rfl,rfl,rfl,ae (jH.nil w),ae ll.nil⟩
  case round =>
   obtain⟨i,nl,vs,st,lk,sk,hi,hnl,h40,rfl,rfl,rfl,HM,HI⟩:=hrel;by_cases hlt:i<n∧nl<40
   · obtain ⟨hin, hl4⟩:=hlt
     obtain⟨m,pb,po,hm,hx,rfl,hpb,hc⟩:=agk HS.o i hin;obtain⟨BF,cl,rfl⟩:=zw HM.o.nodes nl hnl.symm;obtain⟨k,hk⟩:∃k,st.length=k:=⟨_,rfl⟩;obtain⟨As,cs,rfl⟩:=zw HM.o.jK k hk;have hcw:wr.cell? ⟨pb,po+i,none⟩=some (.int .u8 (m:Int)):=(HM.o.iN.cell (p:=⟨pb,po+i,none⟩) hpb).trans hc;have hii:(i:Int)<(n:Int):=by omega
     have hi0:(0:Int)≤(i:Int):=by omega
     have ajI:(nl:Int)<40:=by omega
     have hwm:IntKind.i64.wrap (m:Int)=(m:Int):=by rw[fU];omega
     have HK:=ae hk;have HX:=ae hx;have jF:=ae hnl;have ajk:k≤40:=by have h1:=HI.o.few;rw[eB, ← hnl,hk]at h1;omega
     obtain⟨eb,kz,dh⟩:=Elem.kid;obtain⟨nb,KS,DR⟩:=Elem.iP;have kv:=ae dh;have JH:=ae DR;clear hc hk hx hnl dh DR;go_upto_block 2 with (fail)
     have OH:=ae (az.new wr { Nd.zero with kind:=1,num:=(m:Int) } (.slice none 0 0));have jZ:=ae (HM.o.next ((ak _ _).alloc (aj _) (.cells #[.int .i64 1,.int .i64 (m:Int),.string ⟨#[]⟩,.string ⟨#[]⟩,.int .i64 0,.int .i64 0,.bool false,.bool false,.string ⟨#[]⟩,.int .i64 0,.int .i64 0,.bool false,.bool false,.slice none 0 0] 45)));have dW:=ae (show az (wr.alloc (.cells #[.int .i64 1,.int .i64 (m:Int),.string ⟨#[]⟩,.string ⟨#[]⟩,.int .i64 0,.int .i64 0,.bool false,.bool false,.string ⟨#[]⟩,.int .i64 0,.int .i64 0,.bool false,.bool false,.slice none 0 0] 45)) wr.heap.size { Nd.zero with kind:=1,num:=(m:Int) } (.slice none 0 0)from OH.o);clear OH;generalize (wr.alloc (.cells #[.int .i64 1,.int .i64 (m:Int),.string ⟨#[]⟩,.string ⟨#[]⟩,.int .i64 0,.int .i64 0,.bool false,.bool false,.string ⟨#[]⟩,.int .i64 0,.int .i64 0,.bool false,.bool false,.slice none 0 0] 45))=w1 at jZ dW ⊢;have iB:=ae (show(Value.slice BF nl cl).ownBlock≠Option.some wr.heap.size∧w.heap.size≤wr.heap.size from⟨fun e=>Nat.lt_irrefl _ (HM.o.nodes.less e),HM.o.iN.size⟩);generalize wr.heap.size=z at dW iB ⊢;clear HM
     go_cut [4]from 8 to 184 (fun sk wx=>∃(s:Value)(dX:World),s=sk∧dX=wx∧Hid (X6 w dX (.slice BF nl cl) (.slice As k cs) vs st z m s))
     case first =>
      have ni:=ae (iL.nil w1 w.heap.size (.slice As k cs));obtain⟨r3,hr3⟩:∃r,m % 3=r:=⟨_,rfl⟩;have q3:(m:Int) % 3=(r3:Int):=by omega
      have t3:(m:Int).tmod 3=(r3:Int):=by rw[rT (by omega)];exact q3
      have b3:(r3:Int)<3:=by omega
      have w3:IntKind.i64.wrap (r3:Int)=(r3:Int):=by rw[fU];omega
      obtain⟨r16,Rw⟩:∃r,m % 16=r:=⟨_,rfl⟩;have q16:(m:Int) % 16=(r16:Int):=by omega
      have t16:(m:Int).tmod 16=(r16:Int):=by rw[rT (by omega)];exact q16
      have b16:(r16:Int)<16:=by omega
      have w16:IntKind.i64.wrap (r16:Int)=(r16:Int):=by rw[fU];omega
      obtain⟨r8,Ry⟩:∃r,m % 8=r:=⟨_,rfl⟩;have kE:(m:Int) % 8=(r8:Int):=by omega
      have t8:(m:Int).tmod 8=(r8:Int):=by rw[rT (by omega)];exact kE
      have b8:(r8:Int)<8:=by omega
      have w8:IntKind.i64.wrap (r8:Int)=(r8:Int):=by rw[fU];omega
      obtain⟨r32,Rx⟩:∃r,m % 32=r:=⟨_,rfl⟩;have q32:(m:Int) % 32=(r32:Int):=by omega
      have t32:(m:Int).tmod 32=(r32:Int):=by rw[rT (by omega)];exact q32
      have b32:(r32:Int)<32:=by omega
      have w32:IntKind.i64.wrap (r32:Int)=(r32:Int):=by rw[fU];omega
      have HR3:=ae hr3;have xw:=ae Rw;have qO:=ae Ry;have xx:=ae Rx;have JD:=ae hm;clear hr3 Rw Ry Rx;obtain⟨p3,hp3⟩:∃p,decide (r3=0∧2≤k)=p:=⟨_,rfl⟩;obtain⟨p1,hp1⟩:∃p,decide (r16=1∧1≤k)=p:=⟨_,rfl⟩;have aY:=ae hp3;have bG:=ae hp1;clear hp3 hp1;go_upto_region 8 with (fail)
      go_cut [27]from 28 to 35 (fun cv wx=>∃(dX:World),cv = .bool p3∧dX=wx∧dX=w1)
      case first =>
       by_cases c3:r3=0
       · subst c3
         have d3:(((0:Nat):Int) == 0)=true:=rfl;go_wp2_with fail
         go_meet
         case rel=>exact⟨_,(show Value.bool (decide ((2:Int)≤(k:Int)))=Value.bool p3 from by rw[← aY.o];exact congrArg Value.bool (decide_eq_decide.2 ⟨fun h=>⟨by trivial,by omega⟩,fun h=>by have:=h.2;omega⟩)),rfl,rfl⟩
       · have d3:((r3:Int) == 0)=false:=by rw[aA];omega
         have hp:p3=false:=by rw[← aY.o];exact aS (fun h=>c3 h.1)
         subst hp;go_wp2_with fail
         go_meet
         case rel=>exact⟨_,rfl,rfl,rfl⟩
      case rest =>
       obtain⟨dX,rfl,rfl,hw⟩:=hcut;have hw:=hw.symm;subst hw;cases p3 with
       | true =>
         as_aux_lemma =>
          have xq:=of_decide_eq_true aY.o;have hk2:2≤k:=xq.2;have iA:=ae xq.1;clear xq;obtain⟨q,hq⟩:∃q,m / 3=q:=⟨_,rfl⟩;obtain⟨o,ho⟩:∃o,q % 11=o:=⟨_,rfl⟩;have a1:(m:Int).tdiv 3=(q:Int):=by rw[Int.tdiv_eq_ediv_of_nonneg (by omega)];omega
          have a2:(m:Int) / 3=(q:Int):=by omega
          have a3:IntKind.i64.wrap (q:Int)=(q:Int):=by rw[fU];omega
          have a4:(q:Int).tmod 11=(o:Int):=by rw[rT (by omega)];omega
          have a5:(q:Int) % 11=(o:Int):=by omega
          have a6:IntKind.i64.wrap (o:Int)=(o:Int):=by rw[fU];omega
          have lo:o<11:=by omega
          obtain⟨z9,Lx⟩:∃z,9+o=z:=⟨_,rfl⟩;have a7:(9:Int)+(o:Int)=(z9:Int):=by omega
          have a8:IntKind.i64.wrap (z9:Int)=(z9:Int):=by rw[fU];omega
          obtain⟨i2,hi2⟩:∃i,k - 2=i:=⟨_,rfl⟩;obtain⟨i1,hi1⟩:∃i,k - 1=i:=⟨_,rfl⟩;have b1:(k:Int) - 2=(i2:Int):=by omega
          have b2:(k:Int) - 1=(i1:Int):=by omega
          have b5:IntKind.i64.wrap (i2:Int)=(i2:Int):=by rw[fU];omega
          have b6:IntKind.i64.wrap (i1:Int)=(i1:Int):=by rw[fU];omega
          have l2:i2<k:=by omega
          have l1:i1<k:=by omega
          have j2:(i2:Int)<(k:Int):=by omega
          have j1:(i1:Int)<(k:Int):=by omega
          have n2:(0:Int)≤(i2:Int):=by omega
          have n1:(0:Int)≤(i1:Int):=by omega
          obtain⟨g,cg,hA,hg0,hg1,hg2,hg3⟩:=Own.some jZ.o.jK (by rw[HK.o];omega);injection hA with hA1 hA2 hA3;subst hA1;have hdr:=Ql HK.o hk2;rw[hi2,hi1]at hdr;obtain⟨a,ha⟩:∃a,st.getD i2 0=a:=⟨_,rfl⟩;obtain⟨b,hb⟩:∃b,st.getD i1 0=b:=⟨_,rfl⟩;have ca:w1.cell? ⟨g,i2,none⟩=some (.int .i64 a):=by rw[← ha];exact Own.zi jZ.o.jK i2 (by rw[HK.o];exact l2)
          have cb:w1.cell? ⟨g,i1,none⟩=some (.int .i64 b):=by rw[← hb];exact Own.zi jZ.o.jK i1 (by rw[HK.o];exact l1)
          rw[ha,hb]at hdr;have aR:=ae (show gF m st.length=2 from by unfold gF;rw[ah ⟨HR3.o.trans iA.o,by rw[HK.o];exact hk2⟩]);have gY:=ae (show kg m st.length (st.drop (st.length - gF m st.length))={ Nd.zero with kind:=(z9:Int),kids:=[a,b] }from by rw[aR.o,HK.o,hi2,hdr];unfold kg;rw[ah ⟨HR3.o.trans iA.o,hk2⟩,hq,ho,a7]);have HDR:=ae (show st.drop (st.length - gF m st.length)=[a,b]from by rw[aR.o,HK.o,hi2,hdr]);have HI2:=ae hi2;have HI1:=ae hi1;have hcs:i2≤cs:=by rw[hA3];have:=HK.o;omega
          clear hq ho Lx hi2 hi1 ha hb hdr hA2 hA3 hg0 hg2 hg3;have si:=ae (jZ.o.drew.next (kI w1.drew (.cells #[.int .i64 a,.int .i64 b] 3)));have cZ:=ae (dW.o.Gi.below (kI w1.drew (.cells #[.int .i64 a,.int .i64 b] 3)) dW.o.lt);have oV:=ae (iL.UZ (w:=w1.drew) jZ.o.iN.size jZ.o.drew.jK a b);have dE:=ae (show w1.drew.cell? ⟨g,i2,none⟩=some (.int .i64 a)∧w1.drew.cell? ⟨g,i1,none⟩=some (.int .i64 b)from⟨ca,cb⟩);have xg:=ae (show g<(w1.drew.alloc (.cells #[.int .i64 a,.int .i64 b] 3)).heap.size∧some g≠some z from⟨by rw[jE];exact Nat.lt_succ_of_lt hg1,Mh dW.o jZ.o.jK rfl⟩);clear hg1;go_upto_region 9 with (fail)
          refine wp_region_held_drew (S:=fun W=>W.cell? ⟨g,i2,none⟩=some (.int .i64 a)∧W.cell? ⟨g,i1,none⟩=some (.int .i64 b)) (by kernel_rfl) dE.o (fun _ => ?_);show wpAnyH _ _ _ _ _ 19 #[false,false,false,false,false,false,false,false,false,false,false,false,false,false,false,false,false,false,false] _ _;refine hT 0 dE.o ?_;refine hT 1 dE.o ?_;refine hT 2 dE.o ?_;refine hT 3 dE.o ?_;refine hT 4 dE.o ?_;refine hT 5 dE.o ?_;refine hT 6 dE.o ?_;refine hT 7 dE.o ?_;refine hT 8 dE.o ?_;refine hT 9 dE.o ?_ (hy:=by(intro iE hSw;have hz:=hSw.1;go_simp;try(with_reducible rfl)));refine hT 10 dE.o ?_;refine hT 11 dE.o ?_;refine hT 12 dE.o ?_;refine hT 13 dE.o ?_;refine hT 14 dE.o ?_;refine hT 15 dE.o ?_ (hy:=by(intro iE hSw;have hz:=hSw.2;go_simp;try(with_reducible rfl)));refine hO 16 (fun K hK => ?_);go_simp;refine hK.o _ _ ⟨tT _ _ _ dE.o.1,tT _ _ _ dE.o.2⟩ ?_;clear hK K;simp only[Act.put,sT,gD,gB];refine hT 17 ⟨tT _ _ _ dE.o.1,tT _ _ _ dE.o.2⟩ ?_;refine hO 18 (fun K hK => ?_);refine N7 (.tmp 7) (.tmp 53) rfl z _ { Nd.zero with kind:=(z9:Int),kids:=[a,b] } _ (.slice (some ⟨w1.heap.size,0,none⟩) 2 2) rfl rfl cZ.o rfl ?_;intro gW h1 h2;have nk:=ae h1;have fV:=ae h2;clear h1 h2;have Xy:=ae (show gW.cell? ⟨g,i2,none⟩=some (.int .i64 a)∧gW.cell? ⟨g,i1,none⟩=some (.int .i64 b)from⟨(Cf (a:=⟨g,i2,none⟩) fV.o xg.o.1 xg.o.2).trans (tT w1.drew _ _ dE.o.1),(Cf (a:=⟨g,i1,none⟩) fV.o xg.o.1 xg.o.2).trans (tT w1.drew _ _ dE.o.2)⟩);refine hK.o undef _ Xy.o ?_;clear hK K;simp only[Act.put];refine wpAnyH_done (by kernel_rfl) ?_ _;go_wp2_with fail
          go_meet
          case rel =>
           refine⟨_,_,rfl,rfl,ae ⟨si.o.over cZ.o iB.o.1 iB.o.2 fV.o,⟨.slice (some ⟨w1.heap.size,0,none⟩) 2 2, ?_, ?_⟩,.inr ⟨some ⟨g,0,none⟩,cs, ?_, ?_⟩⟩⟩
           · rw[gY.o];exact nk.o
           · rw[HDR.o];exact oV.o.over cZ.o fV.o
           · rw[HK.o]
           · rw[aR.o,HK.o,HI2.o]
       | false =>
         clear q3 t3 b3 w3;go_upto_region 11 with (fail)
         go_cut [62]from 63 to 70 (fun cv wx=>∃(dX:World),cv = .bool p1∧dX=wx∧dX=w1)
         case first =>
          by_cases c1:r16=1
          · subst c1
            have d1:(((1:Nat):Int) == 1)=true:=rfl;go_wp2_with fail
            go_meet
            case rel=>exact⟨_,(show Value.bool (decide ((1:Int)≤(k:Int)))=Value.bool p1 from by rw[← bG.o];exact congrArg Value.bool (decide_eq_decide.2 ⟨fun h=>⟨by trivial,by omega⟩,fun h=>by have:=h.2;omega⟩)),rfl,rfl⟩
          · have d1:((r16:Int) == 1)=false:=by rw[aA];omega
            have hp:p1=false:=by rw[← bG.o];exact aS (fun h=>c1 h.1)
            subst hp;go_wp2_with fail
            go_meet
            case rel=>exact⟨_,rfl,rfl,rfl⟩
         case rest =>
          obtain⟨dX,rfl,rfl,hw⟩:=hcut;have hw:=hw.symm;subst hw;cases p1 with
          | true =>
            as_aux_lemma =>
             have p9:=of_decide_eq_true bG.o;have hk1:1≤k:=p9.2;have iA:=ae p9.1;have rY:=ae (of_decide_eq_false aY.o);clear p9;obtain⟨i1,hi1⟩:∃i,k - 1=i:=⟨_,rfl⟩;have b2:(k:Int) - 1=(i1:Int):=by omega
             have b6:IntKind.i64.wrap (i1:Int)=(i1:Int):=by rw[fU];omega
             have l1:i1<k:=by omega
             have j1:(i1:Int)<(k:Int):=by omega
             have n1:(0:Int)≤(i1:Int):=by omega
             obtain⟨g,cg,hA,hg0,hg1,hg2,hg3⟩:=Own.some jZ.o.jK (by rw[HK.o];omega);injection hA with hA1 hA2 hA3;subst hA1;have hdr:=drop_one HK.o hk1;rw[hi1]at hdr;obtain⟨a,ha⟩:∃a,st.getD i1 0=a:=⟨_,rfl⟩;have ca:w1.cell? ⟨g,i1,none⟩=some (.int .i64 a):=by rw[← ha];exact Own.zi jZ.o.jK i1 (by rw[HK.o];exact l1)
             rw[ha]at hdr;have aR:=ae (show gF m st.length=1 from by unfold gF;rw[ag (by rw[HR3.o,HK.o];exact rY.o),ah ⟨xw.o.trans iA.o,by rw[HK.o];exact hk1⟩]);have gY:=ae (show kg m st.length (st.drop (st.length - gF m st.length))={ Nd.zero with kind:=8,kids:=[a] }from by rw[aR.o,HK.o,hi1,hdr];unfold kg;rw[ag (by rw[HR3.o];exact rY.o),ah ⟨xw.o.trans iA.o,hk1⟩]);have HDR:=ae (show st.drop (st.length - gF m st.length)=[a]from by rw[aR.o,HK.o,hi1,hdr]);have HI1:=ae hi1;have hcs:i1≤cs:=by rw[hA3];have:=HK.o;omega
             clear hi1 ha hdr hA2 hA3 hg0 hg1 hg2 hg3;have si:=ae (jZ.o.next (kI w1 (.cells #[.int .i64 a] 3)));have cZ:=ae (dW.o.below (kI w1 (.cells #[.int .i64 a] 3)) dW.o.lt);have oV:=ae (iL.af2 (w:=w1) jZ.o.iN.size jZ.o.jK a);go_wp2_with (refine pQ rfl (.tmp 7) _ rfl z _ { Nd.zero with kind:=8,kids:=[a] } _ (.slice (some ⟨w1.heap.size,0,none⟩) 1 1) rfl rfl cZ.o rfl ?_;intro gW h1 h2;have nk:=ae h1;have fV:=ae h2;clear h1 h2)
             go_meet
             case rel =>
              refine⟨_,_,rfl,rfl,ae ⟨si.o.over cZ.o iB.o.1 iB.o.2 fV.o,⟨.slice (some ⟨w1.heap.size,0,none⟩) 1 1, ?_, ?_⟩,.inr ⟨some ⟨g,0,none⟩,cs, ?_, ?_⟩⟩⟩
              · rw[gY.o];exact nk.o
              · rw[HDR.o];exact oV.o.over cZ.o fV.o
              · rw[HK.o]
              · rw[aR.o,HK.o,HI1.o]
          | false =>
            have rY:=ae (of_decide_eq_false aY.o);have BJ:=ae (of_decide_eq_false bG.o);by_cases c2:r16=2
            · have d2:((r16:Int) == 2)=true:=by rw[bA];omega
              have Dm:=ae c2;clear c2
              as_aux_lemma =>
               have lK:=ae (xw.o.trans Dm.o);obtain⟨q16,wN⟩:∃q,m / 16=q:=⟨_,rfl⟩;have a4:(m:Int).tdiv 16=(q16:Int):=by rw[Int.tdiv_eq_ediv_of_nonneg (by omega)];omega
               have a5:(m:Int) / 16=(q16:Int):=by omega
               have a6:IntKind.i64.wrap (q16:Int)=(q16:Int):=by rw[fU];omega
               obtain⟨r,hr⟩:∃r,q16 % 4=r:=⟨_,rfl⟩;have ra:(q16:Int).tmod 4=(r:Int):=by rw[rT (by omega)];omega
               have rb:(q16:Int) % 4=(r:Int):=by omega
               have rc:IntKind.i64.wrap (r:Int)=(r:Int):=by rw[fU];omega
               have rd:r<4:=by omega
               obtain⟨t,ht⟩:∃t,min k r=t:=⟨_,rfl⟩;have m1:min (k:Int) (r:Int)=(t:Int):=by omega
               have htk:t≤k:=by omega
               obtain⟨f,hf⟩:∃f,k - t=f:=⟨_,rfl⟩;have b1:(k:Int) - (t:Int)=(f:Int):=by omega
               have b5:IntKind.i64.wrap (f:Int)=(f:Int):=by rw[fU];omega
               have K4:f≤k:=by omega
               have Q9:k - f=t:=by omega
               have f0:(0:Int)≤(f:Int):=by omega
               have f1:(f:Int)≤(k:Int):=by omega
               have aR:=ae (show gF m st.length=t from by unfold gF;rw[ag (by rw[HR3.o,HK.o];exact rY.o),ag (by rw[xw.o,HK.o];exact BJ.o),ah lK.o,HK.o,wN,hr,ht]);have HDR:=ae (show st.drop (st.length - gF m st.length)=st.drop f from by rw[aR.o,HK.o,hf]);have gY:=ae (show kg m st.length (st.drop (st.length - gF m st.length))={ Nd.zero with kind:=7,text:=⟨#[83,85,77]⟩,kids:=st.drop f }from by rw[HDR.o];unfold kg;rw[ag (by rw[HR3.o,HK.o];exact rY.o),ag (by rw[xw.o,HK.o];exact BJ.o),ah lK.o]);have Dr:=ae (show(st.drop f).length=t from by rw[lG,HK.o];exact Q9);have HF:=ae hf;have OJ:=ae (Ua w1 w1.heap.size (aj _));clear wN hr ht hf;rcases jZ.o.jK.shape with ⟨h1,h2⟩|⟨g,cg,h1,hg0,hg1,hg2,hg3⟩
               · injection h1 with e1 e2 e3
                 subst e1;subst e2;subst e3;have hf0:f=0:=by omega
                 have ht0:t=0:=by omega
                 subst hf0;subst ht0;have JY:=ae (show Src Tryz.prog 1 28 (.slice none 0 0) 0 ((aI .i64).all (st.drop 0)) (w1.alloc (.cells #[] 3))from by rw[h2];exact Src.ofNil _ Tryz.underlying28 0);have m2:min (0:Int) (r:Int)=0:=by omega
                 have hd0:st.drop 0=[]:=h2;clear h2;have HD0:=ae hd0;have si:=ae (jZ.o.next (kI w1 (.cells #[] 3)));have cZ:=ae (dW.o.below (kI w1 (.cells #[] 3)) dW.o.lt);have lg:=ae (show iL (w1.alloc (.cells #[] 3)) w.heap.size (.slice none 0 0) (.slice (some ⟨w1.heap.size,0,none⟩) 0 0) (st.drop 0)from⟨by rw[HD0.o];exact Ua w1 _ jZ.o.iN.size,fun g5 e e2=>by cases e2⟩);clear hd0 Dr JY OJ;go_wp2_with (refine pQ rfl (.tmp 7) _ rfl z _ { Nd.zero with kind:=7,text:=⟨#[83,85,77]⟩,kids:=st.drop 0 } _ (.slice (some ⟨w1.heap.size,0,none⟩) 0 0) rfl rfl cZ.o rfl ?_;intro gW h1 h2;have nk:=ae h1;have fV:=ae h2;clear h1 h2)
                 go_meet
                 case rel =>
                  refine⟨_,_,rfl,rfl,ae ⟨si.o.over cZ.o iB.o.1 iB.o.2 fV.o,⟨(.slice (some ⟨w1.heap.size,0,none⟩) 0 0), ?_, ?_⟩,.inl ⟨rfl,aR.o⟩⟩⟩
                  · rw[gY.o];exact nk.o
                  · rw[HDR.o];exact lg.o.over cZ.o fV.o
               · injection h1 with e1 e2 e3
                 subst e1;have hkc:k≤cs:=by have:=HK.o;omega
                 have hfc:f≤cs:=by omega
                 have ajx:(f:Int)≤(cs:Int):=by omega
                 obtain⟨AT,KQ⟩:∃AT,(if cs=f then some (⟨g,0,none⟩:Addr)else some ⟨g,f,none⟩)=AT:=⟨_,rfl⟩;have JY:=ae (show Src Tryz.prog 1 28 (.slice AT t (cs - f)) t ((aI .i64).all (st.drop f)) (w1.alloc (.cells #[] 3))from by have:=aht (jZ.o.jK.alloc (.cells #[] 3)) HK.o K4 hkc;rw[KQ,Q9]at this;exact this);clear e2 e3 hg0 hg1 hg2 hg3
                 go_wp2_with (first
                  | (at_builtin;refine NZ kv.o (aI .i64) rfl (.tmp 97) (.tmp 103) rfl w1.heap.size _ [] rfl OJ.o _ t (st.drop f) rfl Dr.o JY.o ?_ ?_ ?_ ?_;(refine bO (Nat.mul_le_mul_left _ kz) ?_;rw[dV];omega);(rw[dV];unfold maxLen;omega);(rw[jE];exact Nat.le_succ _);intro v5 w5 h1 h2;rw[iy]at h1;obtain⟨A5,c5,rfl⟩:=zw h1 t Dr.o;have uI:=ae (jZ.o.next ((kI w1 (.cells #[] 3)).trans h2));have gI:=ae (dW.o.below ((kI w1 (.cells #[] 3)).trans h2) dW.o.lt);have lg:=ae (show iL w5 w.heap.size (.slice (some ⟨g,0,none⟩) k cs) (.slice A5 t c5) (st.drop f)from⟨h1.mono jZ.o.iN.size,fun g5 e e2=>by have x1:=(h1.lies e).1;have x2:=jZ.o.jK.less e2;omega⟩);clear h1 h2)
                  | (refine pQ rfl (.tmp 7) _ rfl z _ { Nd.zero with kind:=7,text:=⟨#[83,85,77]⟩,kids:=st.drop f } _ (.slice A5 t c5) rfl rfl gI.o rfl ?_;intro gW h1 h2;have nk:=ae h1;have fV:=ae h2;clear h1 h2))
                 go_meet
                 case rel =>
                  refine⟨_,_,rfl,rfl,ae ⟨uI.o.over gI.o iB.o.1 iB.o.2 fV.o,⟨.slice A5 t c5, ?_, ?_⟩,.inr ⟨some ⟨g,0,none⟩,cs, ?_, ?_⟩⟩⟩
                  · rw[gY.o];exact nk.o
                  · rw[HDR.o];exact lg.o.over gI.o fV.o
                  · rw[HK.o]
                  · rw[aR.o,HK.o,HF.o]
            have d2:((r16:Int) == 2)=false:=by rw[aA];omega
            have aR:=ae (show gF m st.length=0 from by have h3:=rY.o;have h1:=BJ.o;rw[← HR3.o, ← HK.o]at h3;rw[← xw.o, ← HK.o]at h1;rw[← xw.o]at c2;unfold gF;rw[ag h3,ag h1,ag c2]);have BM:=ae (show ∀ks,kg m st.length ks=x9 m from by have h3:=rY.o;have h1:=BJ.o;rw[← HR3.o, ← HK.o]at h3;rw[← xw.o, ← HK.o]at h1;rw[← xw.o]at c2;exact fun ks=>ad5 h3 h1 c2 ks);clear c2;by_cases c4:r8=4
            · have d4:((r8:Int) == 4)=true:=by rw[bA];omega
              have gY:=ae (show kg m st.length (st.drop (st.length - gF m st.length))={ Nd.zero with kind:=5,ref:=CR m }from by rw[BM.o];unfold x9;rw[ah (qO.o.trans c4)]);clear c4;obtain⟨kE,hq8⟩:∃q,m / 8=q:=⟨_,rfl⟩;obtain⟨q16,wN⟩:∃q,m / 16=q:=⟨_,rfl⟩;have a1:(m:Int).tdiv 8=(kE:Int):=by rw[Int.tdiv_eq_ediv_of_nonneg (by omega)];omega
              have a2:(m:Int) / 8=(kE:Int):=by omega
              have a3:IntKind.i64.wrap (kE:Int)=(kE:Int):=by rw[fU];omega
              have a4:(m:Int).tdiv 16=(q16:Int):=by rw[Int.tdiv_eq_ediv_of_nonneg (by omega)];omega
              have a5:(m:Int) / 16=(q16:Int):=by omega
              have a6:IntKind.i64.wrap (q16:Int)=(q16:Int):=by rw[fU];omega
              have acn:kE<32:=by omega
              have l16:q16<16:=by omega
              obtain⟨u,hu⟩:∃r,kE % 3=r:=⟨_,rfl⟩;have ua:(kE:Int).tmod 3=(u:Int):=by rw[rT (by omega)];omega
              have ub:(kE:Int) % 3=(u:Int):=by omega
              have uc:IntKind.i64.wrap (u:Int)=(u:Int):=by rw[fU];omega
              have ud:u<3:=by omega
              obtain⟨v,hv⟩:∃r,q16 % 5=r:=⟨_,rfl⟩;have va:(q16:Int).tmod 5=(v:Int):=by rw[rT (by omega)];omega
              have vb:(q16:Int) % 5=(v:Int):=by omega
              have vc:IntKind.i64.wrap (v:Int)=(v:Int):=by rw[fU];omega
              have vd:v<5:=by omega
              obtain⟨x,hx⟩:∃r,kE % 7=r:=⟨_,rfl⟩;have xa:(kE:Int).tmod 7=(x:Int):=by rw[rT (by omega)];omega
              have xb:(kE:Int) % 7=(x:Int):=by omega
              have aku:IntKind.i64.wrap (x:Int)=(x:Int):=by rw[fU];omega
              have xd:x<7:=by omega
              obtain⟨sh,hsh⟩:∃s,zG m=s:=⟨_,rfl⟩;obtain⟨ac,hac⟩:∃a,decide (128<m)=a:=⟨_,rfl⟩;have KW:decide ((128:Int)<(m:Int))=ac:=by rw[← hac];exact decide_eq_decide.2 (by omega)
              have hrf:CR m=⟨sh,(v:Int),(x:Int),ac,false⟩:=by unfold CR;rw[hsh,hac,wN,hq8,hv,hx]
              have RA:sh=if u=2 then ⟨#[84]⟩else ⟨#[]⟩:=by rw[← hsh];unfold zG;rw[hq8,hu]
              rw[hrf]at gY;have Xt:=ae hrf;have l7:=ae hsh;have HAC:=ae hac;have XA:=ae RA;have HA2:=ae KW;have Xo:=ae hq8;have Xm:=ae wN;have HU:=ae hu;have dF:=ae hv;have HX:=ae hx;clear hrf hsh hac RA KW hq8 wN hu hv hx
              have k4:(w1.alloc (.cells #[.string ⟨#[]⟩,.string ⟨#[]⟩,.string ⟨#[84]⟩] 9)).cell? ⟨w1.heap.size,u,none⟩=some (.string sh):=by
               rw[World.cell?_alloc_at _ _ _ _ rfl,XA.o];have hu3:u=0∨u=1∨u=2:=by omega
               rcases hu3 with e|e|e <;> rw[e] <;> rfl
              have si:=ae (jZ.o.next (kI w1 (.cells #[.string ⟨#[]⟩,.string ⟨#[]⟩,.string ⟨#[84]⟩] 9)));have cZ:=ae (dW.o.below (kI w1 (.cells #[.string ⟨#[]⟩,.string ⟨#[]⟩,.string ⟨#[84]⟩] 9)) dW.o.lt);have oV:=ae (ni.o.next (kI w1 (.cells #[.string ⟨#[]⟩,.string ⟨#[]⟩,.string ⟨#[84]⟩] 9)));have iu:(u:Int)<3:=by omega
              have KW:=HA2.o;go_wp2_with (refine pQ rfl (.tmp 7) _ rfl z _ { Nd.zero with kind:=5,ref:=⟨sh,(v:Int),(x:Int),ac,false⟩ } _ (.slice none 0 0) rfl rfl cZ.o rfl ?_;intro gW h1 h2;have nk:=ae h1;have fV:=ae h2;clear h1 h2)
              go_meet
              case rel =>
               refine⟨_,_,rfl,rfl,ae ⟨si.o.over cZ.o iB.o.1 iB.o.2 fV.o,⟨.slice none 0 0, ?_, ?_⟩,.inl ⟨rfl,aR.o⟩⟩⟩
               · rw[gY.o];exact nk.o
               · rw[aR.o,Nat.sub_zero,List.drop_length];exact oV.o.over cZ.o fV.o
            have d4:((r8:Int) == 4)=false:=by rw[aA];omega
            by_cases c5:r8=5
            · have d5:((r8:Int) == 5)=true:=by rw[bA];omega
              have gY:=ae (show kg m st.length (st.drop (st.length - gF m st.length))=EG m from by rw[BM.o];unfold x9;rw[ag (by rw[qO.o];exact c4),ah (qO.o.trans c5)]);clear c4 c5;obtain⟨kE,hq8⟩:∃q,m / 8=q:=⟨_,rfl⟩;obtain⟨q16,wN⟩:∃q,m / 16=q:=⟨_,rfl⟩;have a1:(m:Int).tdiv 8=(kE:Int):=by rw[Int.tdiv_eq_ediv_of_nonneg (by omega)];omega
              have a2:(m:Int) / 8=(kE:Int):=by omega
              have a3:IntKind.i64.wrap (kE:Int)=(kE:Int):=by rw[fU];omega
              have a4:(m:Int).tdiv 16=(q16:Int):=by rw[Int.tdiv_eq_ediv_of_nonneg (by omega)];omega
              have a5:(m:Int) / 16=(q16:Int):=by omega
              have a6:IntKind.i64.wrap (q16:Int)=(q16:Int):=by rw[fU];omega
              have acn:kE<32:=by omega
              have l16:q16<16:=by omega
              obtain⟨u,hu⟩:∃r,q16 % 3=r:=⟨_,rfl⟩;have ua:(q16:Int).tmod 3=(u:Int):=by rw[rT (by omega)];omega
              have ub:(q16:Int) % 3=(u:Int):=by omega
              have uc:IntKind.i64.wrap (u:Int)=(u:Int):=by rw[fU];omega
              have ud:u<3:=by omega
              obtain⟨v,hv⟩:∃r,kE % 4=r:=⟨_,rfl⟩;have va:(kE:Int).tmod 4=(v:Int):=by rw[rT (by omega)];omega
              have vb:(kE:Int) % 4=(v:Int):=by omega
              have vc:IntKind.i64.wrap (v:Int)=(v:Int):=by rw[fU];omega
              have vd:v<4:=by omega
              obtain⟨x,hx⟩:∃r,1+q16=r:=⟨_,rfl⟩;obtain⟨y,hy⟩:∃r,2+kE=r:=⟨_,rfl⟩;have a7:(1:Int)+(q16:Int)=(x:Int):=by omega
              have a8:(2:Int)+(kE:Int)=(y:Int):=by omega
              have a9:IntKind.i64.wrap (x:Int)=(x:Int):=by rw[fU];omega
              have a10:IntKind.i64.wrap (y:Int)=(y:Int):=by rw[fU];omega
              have hrf:EG m=Mg (u:Int) (v:Int) (x:Int) (y:Int):=by unfold EG Mg ER ES;rw[wN,hq8,hu,hv,hx,hy]
              rw[hrf]at gY;have Xt:=ae hrf;have Xo:=ae hq8;have Xm:=ae wN;have HU:=ae hu;have dF:=ae hv;have HX:=ae hx;have jb:=ae hy;clear hrf hq8 wN hu hv hx hy;go_wp2_with (refine pQ rfl (.tmp 7) _ rfl z _ (Mg (u:Int) (v:Int) (x:Int) (y:Int)) _ (.slice none 0 0) rfl rfl dW.o rfl ?_;intro gW h1 h2;have nk:=ae h1;have fV:=ae h2;clear h1 h2)
              go_meet
              case rel =>
               refine⟨_,_,rfl,rfl,ae ⟨jZ.o.over dW.o iB.o.1 iB.o.2 fV.o,⟨.slice none 0 0, ?_, ?_⟩,.inl ⟨rfl,aR.o⟩⟩⟩
               · rw[gY.o];exact nk.o
               · rw[aR.o,Nat.sub_zero,List.drop_length];exact ni.o.over dW.o fV.o
            have d5:((r8:Int) == 5)=false:=by rw[aA];omega
            by_cases c7:r32=7
            · have d7:((r32:Int) == 7)=true:=by rw[bA];omega
              have gY:=ae (show kg m st.length (st.drop (st.length - gF m st.length))={ Nd.zero with kind:=2,text:=wZ m }from by rw[BM.o];unfold x9;rw[ag (by rw[qO.o];exact c4),ag (by rw[qO.o];exact c5),ah (xx.o.trans c7)]);clear c4 c5 c7
              as_aux_lemma =>
               have hts:=V8 m hm;obtain⟨dg,hdg⟩:∃d,strOfNums (aV m)=d:=⟨_,rfl⟩;obtain⟨tx,htx⟩:∃t,wZ m=t:=⟨_,rfl⟩;have e7:(⟨#[97,34]⟩:ByteArray)++dg=tx:=by rw[← hdg, ← htx,show(⟨#[97,34]⟩:ByteArray)=strOfNums [97,34]by decide,mW];rfl
               have z7:(⟨#[97,34]⟩:ByteArray).size+dg.size≤300:=by rw[← ByteArray.size_append,e7, ← htx];exact hts
               have mG:¬ (9223372036854775807:Int)<((⟨#[97,34]⟩:ByteArray).size:Int)+(dg.size:Int):=by omega
               have x7:(⟨#[97,34]⟩:ByteArray).size+dg.size≤9223372036854775807:=by omega
               rw[htx]at gY;have WH:=ae hdg;have tu:=ae htx;clear hdg htx hts z7
               go_wp2_with (first
                | (go_at_call 16;((with_reducible refine(wT m (by omega) _).mono ?_);rintro e w2 ⟨rfl,hb⟩;rw[WH.o];have si:=ae (jZ.o.next hb);have cZ:=ae (dW.o.below hb dW.o.lt);have oV:=ae (ni.o.next hb);clear hb))
                | (refine pQ rfl (.tmp 7) _ rfl z _ { Nd.zero with kind:=2,text:=tx } _ (.slice none 0 0) rfl rfl cZ.o rfl ?_;intro gW h1 h2;have nk:=ae h1;have fV:=ae h2;clear h1 h2))
               go_meet
               case rel =>
                refine⟨_,_,rfl,rfl,ae ⟨si.o.over cZ.o iB.o.1 iB.o.2 fV.o,⟨.slice none 0 0, ?_, ?_⟩,.inl ⟨rfl,aR.o⟩⟩⟩
                · rw[gY.o];exact nk.o
                · rw[aR.o,Nat.sub_zero,List.drop_length];exact oV.o.over cZ.o fV.o
            have d7:((r32:Int) == 7)=false:=by rw[aA];omega
            by_cases c10:r32=10
            · have d10:((r32:Int) == 10)=true:=by rw[bA];omega
              have gY:=ae (show kg m st.length (st.drop (st.length - gF m st.length))={ Nd.zero with kind:=3,num:=((m / 32 % 2:Nat):Int) }from by rw[BM.o];unfold x9;rw[ag (by rw[qO.o];exact c4),ag (by rw[qO.o];exact c5),ag (by rw[xx.o];exact c7),ah (xx.o.trans c10)]);clear c4 c5 c7 c10
              as_aux_lemma =>
               obtain⟨CJ,GA⟩:∃q,m / 32=q:=⟨_,rfl⟩;obtain⟨rb,hrb⟩:∃r,m / 32 % 2=r:=⟨_,rfl⟩;have x1:(m:Int).tdiv 32=(CJ:Int):=by rw[Int.tdiv_eq_ediv_of_nonneg (by omega)];omega
               have x2:(m:Int) / 32=(CJ:Int):=by omega
               have x3:IntKind.i64.wrap (CJ:Int)=(CJ:Int):=by rw[fU];omega
               have x4:(CJ:Int).tmod 2=(rb:Int):=by rw[rT (by omega)];omega
               have x5:(CJ:Int) % 2=(rb:Int):=by omega
               have x6:IntKind.i64.wrap (rb:Int)=(rb:Int):=by rw[fU];omega
               rw[hrb]at gY;have HQB:=ae GA;have HRB:=ae hrb;clear GA hrb;go_wp2_with (refine pQ rfl (.tmp 7) _ rfl z _ { Nd.zero with kind:=3,num:=(rb:Int) } _ (.slice none 0 0) rfl rfl dW.o rfl ?_;intro gW h1 h2;have nk:=ae h1;have fV:=ae h2;clear h1 h2)
               go_meet
               case rel =>
                refine⟨_,_,rfl,rfl,ae ⟨jZ.o.over dW.o iB.o.1 iB.o.2 fV.o,⟨.slice none 0 0, ?_, ?_⟩,.inl ⟨rfl,aR.o⟩⟩⟩
                · rw[gY.o];exact nk.o
                · rw[aR.o,Nat.sub_zero,List.drop_length];exact ni.o.over dW.o fV.o
            have d10:((r32:Int) == 10)=false:=by rw[aA];omega
            by_cases c11:r32=11
            · have d11:((r32:Int) == 11)=true:=by rw[bA];omega
              have gY:=ae (show kg m st.length (st.drop (st.length - gF m st.length))={ Nd.zero with kind:=4 }from by rw[BM.o];unfold x9;rw[ag (by rw[qO.o];exact c4),ag (by rw[qO.o];exact c5),ag (by rw[xx.o];exact c7),ag (by rw[xx.o];exact c10),ah (xx.o.trans c11)]);clear c4 c5 c7 c10 c11
              as_aux_lemma =>
               go_wp2_with (refine pQ rfl (.tmp 7) _ rfl z _ { Nd.zero with kind:=4 } _ (.slice none 0 0) rfl rfl dW.o rfl ?_;intro gW h1 h2;have nk:=ae h1;have fV:=ae h2;clear h1 h2)
               go_meet
               case rel =>
                refine⟨_,_,rfl,rfl,ae ⟨jZ.o.over dW.o iB.o.1 iB.o.2 fV.o,⟨.slice none 0 0, ?_, ?_⟩,.inl ⟨rfl,aR.o⟩⟩⟩
                · rw[gY.o];exact nk.o
                · rw[aR.o,Nat.sub_zero,List.drop_length];exact ni.o.over dW.o fV.o
            have d11:((r32:Int) == 11)=false:=by rw[aA];omega
            have gY:=ae (show kg m st.length (st.drop (st.length - gF m st.length))={ Nd.zero with kind:=1,num:=(m:Int) }from by rw[BM.o];unfold x9;rw[ag (by rw[qO.o];exact c4),ag (by rw[qO.o];exact c5),ag (by rw[xx.o];exact c7),ag (by rw[xx.o];exact c10),ag (by rw[xx.o];exact c11)]);clear c4 c5 c7 c10 c11
            as_aux_lemma =>
             go_wp2_with fail
             go_meet
             case rel =>
              refine⟨_,_,rfl,rfl,ae ⟨jZ.o,⟨.slice none 0 0, ?_, ?_⟩,.inl ⟨rfl,aR.o⟩⟩⟩
              · rw[gY.o];exact dW.o
              · rw[aR.o,Nat.sub_zero,List.drop_length];exact ni.o
     case rest =>
      obtain⟨s9,dX,rfl,rfl,HW⟩:=hcut;obtain⟨hmk,⟨bn,hnd,zb⟩,hvw⟩:=HW.o;clear HW jZ dW;have HR:=ae (HI.o.round m hm);rw[eB,jF.o.symm,HK.o]at HR;rw[HK.o]at hnd zb hvw;have hks:=ach m k (st.drop (k - gF m k)) hm (by rw[lG,HK.o];have:=VK m k;omega);obtain⟨v,hv,ma⟩:=zb.nv _ hks;have hk2:v.n.kids=st.drop (k - gF m k):=by rw[hv];exact hks
      rw[← hk2]at zb;clear hk2;rw[← hv]at hnd HR;subst ma;obtain⟨L,hL⟩:∃L,vs.map (·.n)++[v.n]=L:=⟨_,rfl⟩;rw[hL]at HR;have HL:=ae hL;clear hL;go_upto_region 28 with (fail)
      go_cut [4]from 176 to 180 (fun sk wx=>∃(EY:List Int)(s5:Value)(I5:World),s5=sk∧I5=wx∧Hid (jH w I5 (.slice BF nl cl) s5 vs EY)∧Hid (az I5 z v.n v.bn)∧Hid (iL I5 w.heap.size s5 v.bn v.n.kids)∧Hid (ll L EY))
      case first =>
       as_aux_lemma =>
        rcases hvw with ⟨rfl,ht0⟩|⟨A5,c5,h5,rfl⟩
        · rw[ht0,Nat.sub_zero,pW (by rw[HK.o];exact aj _)]at HR
          have HM:=ae hmk;have HN:=ae hnd;have HH:=ae zb;clear hmk hnd zb hv hks;go_wp2_with (at_builtin;refine C9 kv.o (aI .i64) rfl (.tmp 176) (.tmp 179) rfl w.heap.size _ st rfl (HM.o.jK.alloc _) ⟨_,0,none⟩ 1 1 [(nl:Int)] rfl rfl ?_ ?_ ?_ ?_ ?_;exact ic _ _ _ rfl;(rw[HK.o];exact bO (Nat.mul_le_mul_left _ kz) (by omega));(rw[HK.o];unfold maxLen;omega);(rw[jE];exact bO HM.o.iN.size (Nat.le_succ _));intro v5 w5 h1 h2 h3;have gI:=ae (az.grow (HN.o.below (kI _ _) HN.o.lt) (HM.o.jK.alloc _) h2);have uI:=ae ((HM.o.next (kI _ _)).push h1 h2 h3);have zY:=ae ((HH.o.next (kI _ _)).grow h2 h3);clear h1 h2 h3)
          go_meet
          case rel=>exact⟨_,_,_,rfl,rfl,uI,gI,zY,HR⟩
        · injection h5 with h5 _ _
          subst h5;obtain⟨f,hf⟩:∃f,k - gF m k=f:=⟨_,rfl⟩;rw[hf]at HR ⊢;have K4:f≤k:=by omega
          obtain⟨hfn,hfc⟩:=Own.Tx hmk.jK f;have hfl:(st.take f).length=f:=by rw[gX,HK.o];exact Nat.min_eq_left K4
          have Jq:=ae (show As=none→f=0∧f=0 from fun e=>by have:=hfn e;omega);have Jo:=ae hfc;have Dr:=ae hfl;have HM:=ae hmk;have HN:=ae hnd;have HH:=ae zb;clear hmk hnd zb hv hks hf hfn hfc hfl;go_wp2_with (at_builtin;refine I4 kv.o (aI .i64) rfl (.tmp 176) (.tmp 179) rfl As f f (st.take f) rfl Jq.o Dr.o (fun b e j u hu=>(tT _ _ _ (Jo.o b e j u hu))) ⟨_,0,none⟩ 1 1 [(nl:Int)] rfl rfl ?_ (by omega) ?_ ?_ ?_;exact ic _ _ _ rfl;(exact bO (Nat.mul_le_mul_left _ kz) (by omega));(unfold maxLen;omega);intro v5 w5 h1 h2;have gI:=ae ((HN.o.below (kI _ _) HN.o.lt).below h2 (az.lt (HN.o.below (kI _ _) HN.o.lt)));have uI:=ae ((HM.o.next (kI _ _)).fresh h1 h2);have zY:=ae ((HH.o.next (kI _ _)).fresh h1 h2);clear h1 h2)
          go_meet
          case rel=>exact⟨_,_,_,rfl,rfl,uI,gI,zY,HR⟩
      case rest =>
       obtain⟨EY,s5,w5,rfl,rfl,uI,gI,zY,uK⟩:=hcut;clear hmk hnd zb hv hks hvw HR;go_wp2_with (first|(refine wpList_load_row rfl 45 (.tmp 7) rfl z rfl 45 #[.int .i64 v.n.kind,.int .i64 v.n.num,.string v.n.text,.string v.n.ref.sh,.int .i64 v.n.ref.c,.int .i64 v.n.ref.r,.bool v.n.ref.ac,.bool v.n.ref.ar,.string v.n.af.sh,.int .i64 v.n.af.c,.int .i64 v.n.af.r,.bool v.n.af.ac,.bool v.n.af.ar,v.bn] _ _ gI.o Tryz.underlying45 rfl Bf ?_)|(at_builtin;refine C9 JH.o ql rfl (.tmp 181) (.tmp 183) rfl w.heap.size _ vs rfl (uI.o.nodes.alloc _) ⟨_,0,none⟩ 1 1 [v] rfl rfl ?_ ?_ ?_ ?_ ?_;exact ic _ _ _ rfl;(rw[← jF.o];exact bO (Nat.mul_le_mul_left _ KS) (by omega));(rw[← jF.o];unfold maxLen;omega);(rw[jE];exact bO uI.o.iN.size (Nat.le_succ _));intro v6 w6 h1 h2 h3;have pY:=ae h1;have pX:=ae h2;clear h1 h2 h3))
       go_roundw
       case rel =>
        refine⟨i+1,nl+1,vs++[v],EY,_,_,by omega,(by rw[av, ← jF.o];rfl),by omega,rfl,rfl,by go_num,ae ?_,ae ?_⟩
        · exact(uI.o.next (kI _ _)).node v (zY.o.next (kI _ _)) pY.o pX.o
        · rw[gP];show ll (vs.map (·.n)++[v.n]) EY;rw[HL.o];exact uK.o
       case measure=>simp[intOf];omega
   · by_cases hin:i<n
     · have h4:nl=40:=by omega
       subst h4;have hii:(i:Int)<(n:Int):=by omega
       obtain⟨BF,cl,rfl⟩:=zw HM.o.nodes 40 hnl.symm;go_wp2_with fail
       go_meet
       case rel=>exact⟨vs,st,_,_,_,rfl,rfl,rfl,HM,HI,ae (Nat.le_of_eq hnl.symm)⟩
     · have hii:¬ (i:Int)<(n:Int):=by omega
       go_wp2_with fail
       go_meet
       case rel=>exact⟨vs,st,_,_,_,rfl,rfl,rfl,HM,HI,ae (by rw[← hnl];exact h40)⟩
 case rest =>
  obtain⟨vs,st,lk,sk,dX,rfl,rfl,rfl,HM,HI,HL⟩:=hcut;obtain⟨eb,kz,dh⟩:=Elem.kid;obtain⟨nb,KS,DR⟩:=Elem.iP;have kv:=ae dh;have JH:=ae DR;clear dh DR;go_upto_region 30 with (fail)
  go_loopw [3,4] (fun gK sv wr=>∃(k nl:Nat)(vs:List aC)(st:List Int)(lk sk:Value),nl+k≤80∧lk=gK∧sk=sv∧Hid (vs.length=nl)∧Hid (st.length=k)∧Hid (jH w wr lk sk vs st)∧Hid (ll (vs.map (·.n)) st)) (fun _ sv _=>lenOf sv)
  case atStart =>
   have h1:=HI.o.few;have h2:=HL.o;rw[eB]at h1;exact⟨st.length,vs.length,vs,st,_,_,by omega,rfl,rfl,ae rfl,ae rfl,HM,HI⟩
  case round =>
   obtain⟨k,nl,vs,st,lk,sk,h80,rfl,rfl,jF,HK,HM,HI⟩:=hrel;obtain⟨BF,cl,rfl⟩:=zw HM.o.nodes nl jF.o;obtain⟨As,cs,rfl⟩:=zw HM.o.jK k HK.o;by_cases hlt:1<k
   · have hii:(1:Int)<(k:Int):=by omega
     have hk2:2≤k:=hlt;obtain⟨i2,hi2⟩:∃i,k - 2=i:=⟨_,rfl⟩;obtain⟨i1,hi1⟩:∃i,k - 1=i:=⟨_,rfl⟩;have b1:(k:Int) - 2=(i2:Int):=by omega
     have b2:(k:Int) - 1=(i1:Int):=by omega
     have b5:IntKind.i64.wrap (i2:Int)=(i2:Int):=by rw[fU];omega
     have b6:IntKind.i64.wrap (i1:Int)=(i1:Int):=by rw[fU];omega
     have l2:i2<k:=by omega
     have l1:i1<k:=by omega
     have j2:(i2:Int)<(k:Int):=by omega
     have j1:(i1:Int)<(k:Int):=by omega
     have n2:(0:Int)≤(i2:Int):=by omega
     have n1:(0:Int)≤(i1:Int):=by omega
     obtain⟨g,cg,hA,hg0,hg1,hg2,hg3⟩:=Own.some HM.o.jK (by rw[HK.o];omega);injection hA with hA1 hA2 hA3;subst hA1;have hdr:=Ql HK.o hk2;rw[hi2,hi1]at hdr;obtain⟨a,ha⟩:∃a,st.getD i2 0=a:=⟨_,rfl⟩;obtain⟨b,hb⟩:∃b,st.getD i1 0=b:=⟨_,rfl⟩;have ca:wr.cell? ⟨g,i2,none⟩=some (.int .i64 a):=by rw[← ha];exact Own.zi HM.o.jK i2 (by rw[HK.o];exact l2)
     have cb:wr.cell? ⟨g,i1,none⟩=some (.int .i64 b):=by rw[← hb];exact Own.zi HM.o.jK i1 (by rw[HK.o];exact l1)
     rw[ha,hb]at hdr;have hcs:i2≤cs:=by rw[hA3];have:=HK.o;omega
     have yG:=ae (show ll (vs.map (·.n)++[Ky a b]) (st.take i2++[((vs.map (·.n)).length:Int)])from ll.cat (by rw[← hdr,List.take_append_drop];exact HI.o));have HI2:=ae hi2;have uP:=ae (show(st.take i2).length=i2 from by rw[gX,HK.o];omega);have ni:=ae (iL.UZ (w:=wr.drew) HM.o.iN.size HM.o.drew.jK a b);obtain⟨v,hv,ma⟩:=ni.o.nv (Ky a b) rfl;have dF:=ae hv;have WZ:=ae ma;have si:=ae (HM.o.drew.next (kI wr.drew (.cells #[.int .i64 a,.int .i64 b] 3)));have wh:=ae (si.o.next (kI (wr.drew.alloc (.cells #[.int .i64 a,.int .i64 b] 3)) (.cells #[.int .i64 15,.int .i64 0,.string ⟨#[]⟩,.string ⟨#[]⟩,.int .i64 0,.int .i64 0,.bool false,.bool false,.string ⟨#[]⟩,.int .i64 0,.int .i64 0,.bool false,.bool false,.slice (some ⟨wr.heap.size,0,none⟩) 2 2] 45)));have oW:=ae (ni.o.next (kI (wr.drew.alloc (.cells #[.int .i64 a,.int .i64 b] 3)) (.cells #[.int .i64 15,.int .i64 0,.string ⟨#[]⟩,.string ⟨#[]⟩,.int .i64 0,.int .i64 0,.bool false,.bool false,.string ⟨#[]⟩,.int .i64 0,.int .i64 0,.bool false,.bool false,.slice (some ⟨wr.heap.size,0,none⟩) 2 2] 45)))
     have rY:=ae (show ∀(j:Nat)(u:Value),(ql.all [v])[j]? = some u→((wr.drew.alloc (.cells #[.int .i64 a,.int .i64 b] 3)).alloc (.cells #[.int .i64 15,.int .i64 0,.string ⟨#[]⟩,.string ⟨#[]⟩,.int .i64 0,.int .i64 0,.bool false,.bool false,.string ⟨#[]⟩,.int .i64 0,.int .i64 0,.bool false,.bool false,.slice (some ⟨wr.heap.size,0,none⟩) 2 2] 45)).cell? ((⟨wr.heap.size+1,0,none⟩:Addr).add j)=some u from by
      have e:ql.all [v]=(#[.int .i64 15,.int .i64 0,.string ⟨#[]⟩,.string ⟨#[]⟩,.int .i64 0,.int .i64 0,.bool false,.bool false,.string ⟨#[]⟩,.int .i64 0,.int .i64 0,.bool false,.bool false,.slice (some ⟨wr.heap.size,0,none⟩) 2 2]:Array Value).toList:=by show ql.f v++[]=_;rw[fF];show(bU v.n v.bn).toList=_;rw[hv,ma];rfl
      rw[e];intro j u hj;have:=ic (w:=(wr.drew.alloc (.cells #[.int .i64 a,.int .i64 b] 3))) #[.int .i64 15,.int .i64 0,.string ⟨#[]⟩,.string ⟨#[]⟩,.int .i64 0,.int .i64 0,.bool false,.bool false,.string ⟨#[]⟩,.int .i64 0,.int .i64 0,.bool false,.bool false,.slice (some ⟨wr.heap.size,0,none⟩) 2 2] 45 _ rfl j u hj;rwa[jE]at this)
     have dE:=ae (show wr.drew.cell? ⟨g,i2,none⟩=some (.int .i64 a)∧wr.drew.cell? ⟨g,i1,none⟩=some (.int .i64 b)from⟨ca,cb⟩);have HS2:=ae (show(wr.drew.alloc (.cells #[.int .i64 a,.int .i64 b] 3)).cell? ⟨g,i2,none⟩=some (.int .i64 a)∧(wr.drew.alloc (.cells #[.int .i64 a,.int .i64 b] 3)).cell? ⟨g,i1,none⟩=some (.int .i64 b)from⟨tT _ _ _ dE.o.1,tT _ _ _ dE.o.2⟩);have ny:=ae (show((wr.drew.alloc (.cells #[.int .i64 a,.int .i64 b] 3)).alloc (.cells #[.int .i64 15,.int .i64 0,.string ⟨#[]⟩,.string ⟨#[]⟩,.int .i64 0,.int .i64 0,.bool false,.bool false,.string ⟨#[]⟩,.int .i64 0,.int .i64 0,.bool false,.bool false,.slice (some ⟨wr.heap.size,0,none⟩) 2 2] 45)).cell? ⟨g,i2,none⟩=some (.int .i64 a)∧((wr.drew.alloc (.cells #[.int .i64 a,.int .i64 b] 3)).alloc (.cells #[.int .i64 15,.int .i64 0,.string ⟨#[]⟩,.string ⟨#[]⟩,.int .i64 0,.int .i64 0,.bool false,.bool false,.string ⟨#[]⟩,.int .i64 0,.int .i64 0,.bool false,.bool false,.slice (some ⟨wr.heap.size,0,none⟩) 2 2] 45)).cell? ⟨g,i1,none⟩=some (.int .i64 b)from⟨tT _ _ _ HS2.o.1,tT _ _ _ HS2.o.2⟩);have xg:=ae (show g<((wr.drew.alloc (.cells #[.int .i64 a,.int .i64 b] 3)).alloc (.cells #[.int .i64 15,.int .i64 0,.string ⟨#[]⟩,.string ⟨#[]⟩,.int .i64 0,.int .i64 0,.bool false,.bool false,.string ⟨#[]⟩,.int .i64 0,.int .i64 0,.bool false,.bool false,.slice (some ⟨wr.heap.size,0,none⟩) 2 2] 45)).heap.size∧some g≠(Value.slice BF nl cl).ownBlock from⟨by rw[jE,jE];show g<wr.heap.size+1+1;omega,fun e=>HM.o.jK.F9 HM.o.nodes (by decide) rfl e⟩);clear hi2 hi1 ha hb hdr hA2 hA3 hg0 hg1 hg2 hg3 hlt hk2 hv ma;go_wp2_with fail
     refine wp_region_held_drew (S:=fun W=>W.cell? ⟨g,i2,none⟩=some (.int .i64 a)∧W.cell? ⟨g,i1,none⟩=some (.int .i64 b)) (by kernel_rfl) dE.o (fun _ => ?_);show wpAnyH _ _ _ _ _ 18 #[false,false,false,false,false,false,false,false,false,false,false,false,false,false,false,false,false,false] _ _;refine hT 0 dE.o ?_;refine hT 1 dE.o ?_;refine hT 2 dE.o ?_;refine hT 3 dE.o ?_;refine hT 4 dE.o ?_;refine hT 5 dE.o ?_;refine hT 6 dE.o ?_ (hy:=by(intro iE hSw;have hz:=hSw.1;go_simp;try(with_reducible rfl)));refine hT 7 dE.o ?_;refine hT 8 dE.o ?_;refine hT 9 dE.o ?_;refine hT 10 dE.o ?_;refine hT 11 dE.o ?_;refine hT 12 dE.o ?_ (hy:=by(intro iE hSw;have hz:=hSw.2;go_simp;try(with_reducible rfl)));refine hO 13 (fun K hK => ?_);go_simp;refine hK.o _ _ HS2.o ?_;clear hK K;simp only[Act.put,sT,gD,gB];refine hT 14 HS2.o ?_;refine hO 15 (fun K hK => ?_);go_simp;refine hK.o _ _ ny.o ?_;clear hK K;simp only[Act.put,sT,gD,gB];refine hO 16 (fun K hK => ?_);refine aiV JH.o ql rfl (.tmp 188) (.tmp 203) rfl w.heap.size _ vs rfl wh.o.nodes ⟨wr.heap.size+1,0,none⟩ 1 1 [v] rfl rfl rY.o ?_ ?_ ?_ ?_
     · (rw[jF.o];exact bO (Nat.mul_le_mul_left _ KS) (by omega))
     · (rw[jF.o];unfold maxLen;omega)
     · exact wh.o.iN.size
     intro v4 w4 h1 h2 _;have nQ:=ae h1;have oD:=ae h2;clear h1 h2;have sw:=ae (show w4.cell? ⟨g,i2,none⟩=some (.int .i64 a)∧w4.cell? ⟨g,i1,none⟩=some (.int .i64 b)from⟨(Cf (a:=⟨g,i2,none⟩) oD.o xg.o.1 xg.o.2).trans ny.o.1,(Cf (a:=⟨g,i1,none⟩) oD.o xg.o.1 xg.o.2).trans ny.o.2⟩);refine hK.o _ _ sw.o ?_;clear hK K;simp only[Act.put,sT,gD,gB];refine hT 17 sw.o ?_;refine wpAnyH_done (by kernel_rfl) ?_ _;obtain⟨A4,c4,rfl⟩:=zw nQ.o (nl+1) (by rw[av,jF.o];rfl);have OD:=ae (wh.o.node v (by rw[dF.o,WZ.o];exact oW.o) nQ.o oD.o);obtain⟨hfn,hfc⟩:=Own.Tx OD.o.jK i2;have Jq:=ae (show(some ⟨g,0,none⟩:Option Addr)=none→i2=0∧i2=0 from fun e=>nomatch e);have Jo:=ae hfc;have s1:((nl+1:Nat):Int) - 1=(nl:Int):=by omega
     have s3:(nl:Int)+1 - 1=(nl:Int):=by omega
     have s2:IntKind.i64.wrap (nl:Int)=(nl:Int):=by rw[fU];omega
     clear hfn hfc;go_wp2_with (at_builtin;refine I4 kv.o (aI .i64) rfl (.tmp 212) (.tmp 216) rfl (some ⟨g,0,none⟩) i2 i2 (st.take i2) rfl Jq.o uP.o (fun b e j u hu=>(tT _ _ _ (Jo.o b e j u hu))) ⟨_,0,none⟩ 1 1 [(nl:Int)] rfl rfl ?_ (by omega) ?_ ?_ ?_;exact ic _ _ _ rfl;(exact bO (Nat.mul_le_mul_left _ kz) (by omega));(unfold maxLen;omega);intro v5 w5 h1 h2;obtain⟨A5,c5,rfl⟩:=zw h1 (i2+1) (by rw[av,uP.o];rfl);have wm:=ae h1;have uI:=ae ((OD.o.next (kI _ _)).fresh h1 h2);clear h1 h2)
     go_roundw
     case rel =>
      refine⟨i2+1,nl+1,vs++[v],st.take i2++[(nl:Int)],_,_,by omega,rfl,rfl,ae (by rw[av,jF.o];rfl),ae (by rw[av,uP.o];rfl),uI,ae ?_⟩;have:=yG.o;rw[eB,jF.o]at this;rw[gP];show ll (vs.map (·.n)++[v.n]) _;rw[dF.o];exact this
     case measure=>simp[lenOf];omega
   · have hii:¬ (1:Int)<(k:Int):=by omega
     go_wp2_with fail
     go_ret;exact⟨_,_,vs,st,rfl,HM.o,HI.o,by rw[HK.o];omega,by rw[jF.o];omega⟩
end Go.Proofs.YtaobhjliflomaaaGreatDoor
namespace Go.Proofs.YtaobhjliflomaaaGreatDoor
open Go.ChangeShapes Go.WideShapes Go.ChangeAt Go.RowKit
theorem Zd:Tryz.prog.cellsOf 5=1:=by kernel_rfl
theorem aep {H:Type}{enc:TypeId × Value→H}{W:World}{base:Nat}{v:Value}{d:DataW H}{p:List MemPlace}(hval:Value.okWide Tryz.prog W .any base 22 v)(h:DataW.Trod enc Tryz.prog W 0 (fun _=>true) true 22 v d p) :
 ∃A len cap xs,v = .slice A len cap∧S8 W W.heap.size A len cap xs:=by
 obtain⟨A,len,cap,rfl⟩:=okWide_slice Tryz.underlying22 hval;obtain⟨fuel,hf⟩:=h;rcases open_ints Tryz.underlying22 Tryz.underlying5 Zd hf with ⟨hcs,_⟩|⟨a,aj3,qf,zs,hcs,_,hl,hm,hz,_,hcell,hwz⟩
 · simp[Value.cells]at hcs
   obtain⟨rfl,rfl,rfl⟩:=hcs;exact⟨none,0,0,[],rfl,rfl,aj _,by unfold maxLen;omega,Bytes.nil,.inl rfl⟩
 · simp [Value.cells]at hcs
   obtain⟨rfl,rfl,rfl⟩:=hcs;simp only[if_true]at hz;have hb:Bytes zs:=fun n hn=>bounds_u8 (hwz n hn)
   by_cases h0:cap=0
   · have hl0:len=0:=by omega
     exact⟨some a,len,cap,zs.take len,rfl,by rw[gX];omega,hl,hm,hb.take _,.inl hl0⟩
   · obtain⟨b,off,rfl,hc⟩:=ints_at hcell (by omega)
     refine⟨some ⟨b,off,none⟩,len,cap,zs.take len,rfl,by rw[gX];omega,hl,hm,hb.take _,.inr ⟨b,off,rfl,block_lt_of_cell (hc 0 (by omega)),fun j hj => ?_⟩⟩;rw[hc j (by omega)];congr 2;simp only[jL];rw[List.getElem?_take_of_lt hj]
end Go.Proofs.YtaobhjliflomaaaGreatDoor
namespace Go.Proofs.YtaobhjliflomaaaGreatDoor
open Go.ChangeShapes Go.WideShapes Go.ChangeAt Go.RowKit
variable {held:Bool}{p:List MemPlace}{cs:List Value}{base fuel:Nat}{sp:Nat→Bool}{W w:World}
def IQ{H:Type}(bs:List (List UInt8)):DataW H := .agg (bs.map fun b => .lit (.string b))
theorem Qa {H:Type}{enc:TypeId × Value→H}{P:Program}{t e:TypeId}{n:Nat}{bs:List (List UInt8)}
 (ht:P.underlying t=some (.array n e)) (he:P.underlying e=some .string) (hce:P.cellsOf e=1) (hct:P.cellsOf t=n)
 (h:DataW.trod enc P w base sp held fuel t cs=some (IQ bs,p)):cs=bs.map fun b=>Value.string ⟨b.toArray⟩:=by
 cases fuel with
 | zero=>simp[DataW.trod]at h
 | succ fuel =>
   simp only[DataW.trod,ht,hce,hct,Nat.mul_one]at h;split at h
   · rename_i hl
     obtain⟨xs,hm,hx⟩:=Option.map_eq_some_iff.1 h
     have hxs:xs.map (·.1)=bs.map fun b=>(DataW.lit (.string b):DataW H):=by
      have:=congrArg Prod.fst hx
      simpa [IQ]using this
     have hxl:xs.length=n:=by simpa using Lib.mapM_length hm
     have hzl:bs.length=n:=by
      have:=congrArg List.length hxs;simp at this;omega
     apply List.ext_getElem?;intro i;by_cases hi:i<n
     · obtain ⟨b,hb,hf⟩:=Lib.mapM_at hm i i (by simp[hi])
       obtain⟨z,hc,rfl,_⟩:=DataW.trod_string he hf
       have h1:cs[i]? = some (.string z):=by
        have:=congrArg (·[0]?) hc
        simpa [List.getElem?_take,List.getElem?_drop]using this
       have h2:(xs.map (·.1))[i]? = some (DataW.lit (.string z.data.toList):DataW H):=by simp[hb]
       rw[hxs]at h2;simp only[gN,Option.map_eq_some_iff,DataW.lit.injEq,Lit.string.injEq]at h2;obtain⟨z',hz',e⟩:=h2;simp only[h1,gN,hz',jo,e]
     · rw[List.getElem?_eq_none (by omega),List.getElem?_eq_none (by simp;omega)]
   · cases h
def pG : List (String × DataW Unit) := [("math/bits.deBruijn32tab", Rows.laid_math_bits_deBruijn32tab), ("math/bits.deBruijn64tab", Rows.laid_math_bits_deBruijn64tab), ("internal/strconv.uint64pow10", Rows.laid_internal_strconv_uint64pow10), ("unicode/utf8.acceptRanges", Rows.laid_unicode_utf8_acceptRanges), ("strconv.ErrRange", Rows.laid_strconv_ErrRange), ("strconv.ErrSyntax", Rows.laid_strconv_ErrSyntax), ("chequer/lex.signs", Rows.laid_chequer_lex_signs), ("chequer/parse.operators", Rows.laid_chequer_parse_operators), ("chequer/show.signs", Rows.laid_chequer_show_signs), ("unicode/utf8.first", Rows.laid_unicode_utf8_first)]
theorem QC : Tryz.prog.globalNamed "strconv.ErrRange" = some 8 := by kernel_rfl
theorem aad:(Tryz.prog.globals[(8:Nat)]?).map (·.type)=some 121:=by kernel_rfl
theorem QF : Tryz.prog.globalNamed "chequer/lex.signs" = some 1 := by kernel_rfl
theorem aag:(Tryz.prog.globals[(1:Nat)]?).map (·.type)=some 170:=by kernel_rfl
theorem P8:Tryz.prog.cellsOf 219=1:=by kernel_rfl
theorem Gf:Tryz.prog.cellsOf 9=1:=by kernel_rfl
theorem Za:Tryz.prog.cellsOf 170=15:=by kernel_rfl
theorem star : "*" ++ "errors.errorString" = "*errors.errorString" := by decide
theorem U0 (u : TypeId) (h : Tryz.prog.typeName? 3 u = some "*errors.errorString") : u = 217 :=
 typeName_ptr_named (nm := "errors.errorString") (by rw [star]; kernel_rfl) (by kernel_rfl) (by decide) u (by rw [star]; exact h)
def Vn:List (List UInt8):=[[60,62],[60,61],[62,61],[43],[45],[42],[47],[38],[61],[60],[62],[40],[41],[44],[58]]
theorem aha:(Rows.laid_chequer_lex_signs:DataW Unit)=IQ Vn:=rfl
theorem ag':(Vn.map fun b=>Value.string ⟨b.toArray⟩)=zH.toList:=rfl
theorem jU {P:Program}{x:String × DataW Unit}{l:List (String × DataW Unit)}(h:laidMet P (x :: l) w):laidMet P l w:=by
 obtain⟨ps,h1,h2,h3⟩:=h;obtain⟨n,d⟩:=x;obtain⟨g,t,cs,fuel,p,q,_,_,_,_,hq,rfl⟩:=h1;exact⟨q,hq,(List.nodup_append.1 h2).2.1,fun b off hm=>h3 b off (List.mem_append_right _ hm)⟩
theorem aai:(Tryz.prog.globals[3]?).map (·.type)=some 198:=by kernel_rfl
theorem YL:Tryz.prog.cellsOf 198=20:=by kernel_rfl
theorem YK:Tryz.prog.cellsOf 62=1:=by kernel_rfl
theorem ahK (h:laidMetH Tryz.prog pG W):lM W:=by
 have h1:laidMet Tryz.prog pG W:=h;exact Lib.tabIs_of_head QH aai Tryz.underlying198 Tryz.underlying62 YK YL (jU (jU h1))
theorem QE : Tryz.prog.globalNamed "chequer/show.signs" = some 0 := by kernel_rfl
theorem aaf:(Tryz.prog.globals[(0:Nat)]?).map (·.type)=some 162:=by kernel_rfl
theorem Y9:Tryz.prog.cellsOf 162=20:=by kernel_rfl
def Vj:List (List UInt8):=[[],[],[],[],[],[],[],[],[],[61],[60,62],[60],[60,61],[62],[62,61],[38],[43],[45],[42],[47]]
theorem agZ:(Rows.laid_chequer_show_signs:DataW Unit)=IQ Vj:=rfl
theorem agY:(Vj.map fun b=>Value.string ⟨b.toArray⟩)=EU.toList:=rfl
theorem ahH (h:laidMetH Tryz.prog pG W):qU W:=by
 have h1:laidMet Tryz.prog pG W:=h;have h6:=jU (jU (jU (jU (jU (jU (jU (jU (h1))))))));obtain⟨ps,⟨g',t',cs,fuel,p,q,hg',ht',kC,hd,_,_⟩,_⟩:=h6;obtain rfl:=dU (QE.symm.trans hg');obtain rfl:=dU (aaf.symm.trans ht');rw[agZ]at hd;have hc:=Qa Tryz.underlying162 Tryz.underlying9 Gf Y9 hd;rw[agY]at hc;unfold World.var? at kC;rw[QE]at kC;simp only[Option.bind_some]at kC;split at kC
 · rename_i cs' ty fr hh
   injection kC with kC;subst kC;have:cs'=EU:=Array.toList_inj.1 hc;exact⟨ty,fr,by rw[← this];exact hh⟩
 · cases kC
theorem tables (h:laidMetH Tryz.prog pG W):Vars W:=by
 have h1:laidMet Tryz.prog pG W:=h;have h4:=jU (jU (jU (jU (h1))));constructor
 · obtain⟨a0,s0,hv0, -, -, -⟩:=laid_sentinel h4 QC aad Tryz.underlying121 U0 Tryz.underlying217 Tryz.underlying219 rfl rfl Tryz.underlying9 P8 Gf
   exact⟨_,by have h0:=World.var?_cell QC hv0 0;simpa using h0,Or.inr ⟨_,_,rfl⟩⟩
 · have h6:=jU (jU h4)
   obtain⟨ps,⟨g',t',cs,fuel,p,q,hg',ht',kC,hd,_,_⟩,_⟩:=h6;obtain rfl:=dU (QF.symm.trans hg');obtain rfl:=dU (aag.symm.trans ht');rw[aha]at hd;have hc:=Qa Tryz.underlying170 Tryz.underlying9 Gf Za hd;rw[ag']at hc;unfold World.var? at kC;rw[QF]at kC;simp only[Option.bind_some]at kC;split at kC
   · rename_i cs' ty fr hh
     injection kC with kC;subst kC;have:cs'=zH:=Array.toList_inj.1 hc;exact⟨ty,fr,by rw[← this];exact hh⟩
   · cases kC
def opC(q:ByteArray × Nat × Int):List Value:=[.string q.1,.int .i64 (q.2.1:Int),.int .i64 q.2.2]
theorem P7:∀(L:List (ByteArray × Nat × Int))(cs:List Value),cs.length=L.length*3→(∀(i:Nat) q,L[i]? = some q→(cs.drop (i*3)).take 3=opC q)→cs=L.flatMap opC
 | [],cs,h,_=>by simpa using h
 | q :: L,cs,h,hi=>by
   have h0:=hi 0 q rfl;rw[Nat.zero_mul,List.drop_zero]at h0
   have h1:=P7 L (cs.drop 3) (by rw[lG,h,aX];omega) (fun i q' hq=>by
    have:=hi (i+1) q' (by simpa using hq);rw[Nat.succ_mul]at this;rw[List.drop_drop,Nat.add_comm 3];exact this)
   rw[pV, ← h0, ← h1,List.take_append_drop]
def CB{H:Type}(q:ByteArray × Nat × Int):DataW H := .agg [.lit (.string q.1.data.toList),.lit (.int .i64 (q.2.1:Int)),.lit (.int .i64 q.2.2)]
theorem aes:(Rows.laid_chequer_parse_operators:DataW Unit) = .agg (rE.map CB):=rfl
theorem QD : Tryz.prog.globalNamed "chequer/parse.operators" = some 2 := by kernel_rfl
theorem aae:(Tryz.prog.globals[(2:Nat)]?).map (·.type)=some 173:=by kernel_rfl
theorem Y8:Tryz.prog.cellsOf 173=33:=by kernel_rfl
theorem P9:Tryz.prog.cellsOf 172=3:=by kernel_rfl
theorem aen {enc:TypeId × Value→Unit}{q:ByteArray × Nat × Int}
 (h:DataW.trod enc Tryz.prog w base sp held fuel 172 cs=some (CB q,p)):cs=opC q:=by
 obtain⟨y0,y1,y2,n,hx,hl,h0,h1,h2⟩:=Go.Deep.trod_struct3 Tryz.underlying172 h;injection hx with hx _;unfold CB at hx;injection hx with hx;injection hx with e0 hx;injection hx with e1 hx;injection hx with e2 _;rw[P9]at hl
 match cs,hl with
 | [c0,c1,c2],_ =>
   obtain⟨s,g0,g0',_⟩:=DataW.trod_string Tryz.underlying9 h0;obtain⟨n1,g1,g1',_⟩:=DataW.trod_int Tryz.underlying3 h1;obtain⟨n2,g2,g2',_⟩:=DataW.trod_int Tryz.underlying3 h2;have k0:[c0]=[Value.string s]:=g0;have k1:[c1]=[Value.int .i64 n1]:=g1;have k2:[c2]=[Value.int .i64 n2]:=g2;injection k0 with k0 _;injection k1 with k1 _;injection k2 with k2 _;rw[g0']at e0;rw[g1']at e1;rw[g2']at e2;injection e0 with e0;injection e0 with e0;injection e1 with e1;injection e1 with _ e1;injection e2 with e2;injection e2 with _ e2
   have es:s=q.1:=by
    cases s;cases hq:q.1
    rw[hq]at e0;simp only at e0;rw[Array.toList_inj.1 e0.symm]
   rw[k0,k1,k2,es, ← e1, ← e2];rfl
theorem Zc {enc:TypeId × Value→Unit}
 (h:DataW.trod enc Tryz.prog w base sp held fuel 173 cs=some (.agg (rE.map CB),p)):cs=rE.flatMap opC:=by
 obtain⟨xs,m,_,hx,hl,hxl,hi⟩:=DataW.trod_array Tryz.underlying173 h;injection hx with hx _;injection hx with hx;rw[Y8]at hl;refine P7 rE cs (by rw[hl];rfl) fun i q hq => ?_
 have hlt:=(dS.1 hq).1;have hlt:i<11:=hlt;have h1:=hi i hlt;rw[P9]at h1;obtain⟨y,hy⟩:∃y,xs[i]? = some y:=⟨_,dL (by omega)⟩;rw[hy]at h1;have h2:(xs.map (·.1))[i]? = some y.1:=by rw[gN,hy];rfl
 rw[← hx,gN,hq]at h2;have h2:CB q=y.1:=dU h2;obtain⟨y1,y2⟩:=y;have h2:CB q=y1:=h2;subst h2;exact aen h1
theorem aeg:Bj.toList=rE.flatMap opC:=rfl
theorem ahG (h:laidMetH Tryz.prog pG W):oH W:=by
 have h1:laidMet Tryz.prog pG W:=h;have h4:=jU (jU (jU (jU (jU (jU (jU (h1)))))));obtain⟨ps,⟨g',t',cs,fuel,p,q,hg',ht',kC,hd,_,_⟩,_⟩:=h4;obtain rfl:=dU (QD.symm.trans hg');obtain rfl:=dU (aae.symm.trans ht');rw[aes]at hd;have hc:=Zc hd;rw[← aeg]at hc;unfold World.var? at kC;rw[QD]at kC;simp only[Option.bind_some]at kC;split at kC
 · rename_i cs' ty fr hh
   injection kC with kC;subst kC;have:cs'=Bj:=Array.toList_inj.1 hc;exact⟨ty,fr,by rw[← this];exact hh⟩
 · cases kC
theorem maxOf (h:W.ShapedOpen Tryz.prog):qQ W :=
 cell_of_shapedOpen_int (g:=4) (t:=3) (zero:=#[.int .i64 0]) h (of_decide_eq_true (by kernel_rfl)) (by kernel_rfl) rfl (by kernel_rfl) (by kernel_rfl) Tryz.underlying3
theorem ahI(h:laidMetH Tryz.prog pG W)(hs:W.ShapedOpen Tryz.prog):Sx W:=⟨tables h,ahG h,ahK h,maxOf hs,ahH h⟩
noncomputable def GX (os:Os):World:=World.laidAll Tryz.prog os pG
theorem acp(os:Os)(args:Array Value):laidMet Tryz.prog pG ((GX os).forCall (fun _ _=>0) ⟨#[],args,[]⟩).memory:=laidMet_laidAll args (by kernel_rfl) (by kernel_rfl)
end Go.Proofs.YtaobhjliflomaaaGreatDoor
namespace Go.Proofs.YtaobhjliflomaaaGreatDoor
open Go.ChangeShapes Go.WideShapes Go.ChangeAt Go.RowKit
theorem QG : Tryz.prog.globalNamed "strconv.ErrSyntax" = some 7 := by kernel_rfl
theorem aah:(Tryz.prog.globals[(7:Nat)]?).map (·.type)=some 121:=by kernel_rfl
theorem ahJ {W:World}(h:laidMetH Tryz.prog pG W):Dh W:=by
 have h1:laidMet Tryz.prog pG W:=h;have h5:=jU (jU (jU (jU (jU (h1)))));obtain⟨a0,s0,hv0, -, -, -⟩:=laid_sentinel h5 QG aah Tryz.underlying121 U0 Tryz.underlying217 Tryz.underlying219 rfl rfl Tryz.underlying9 P8 Gf;exact⟨_,by have h0:=World.var?_cell QG hv0 0;simpa using h0,Or.inr ⟨_,_,rfl⟩⟩
theorem ahF{W:World}(h:laidMetH Tryz.prog pG W)(hs:W.ShapedOpen Tryz.prog):rV W:=⟨ahI h hs,ahJ h⟩
end Go.Proofs.YtaobhjliflomaaaGreatDoor
