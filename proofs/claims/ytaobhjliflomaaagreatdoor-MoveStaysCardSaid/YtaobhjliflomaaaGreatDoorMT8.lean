import Derived.Test.YtaobhjliflomaaaGreatDoorMT7
set_option maxRecDepth 100000
set_option maxHeartbeats 64000000
namespace Go.Proofs.YtaobhjliflomaaaGreatDoor
open Go.RowKit
theorem Pj (s:ByteArray)(a m:Nat):sb (s.extract a (a+m))=((sb s).drop a).take m:=by
 unfold sb;rw[← List.map_drop, ← List.map_take];congr 1;rw[ByteArray.data_extract,Array.toList_extract];rw[List.extract_eq_take_drop];congr 1;omega
theorem ad9 (d:Rd)(m:Nat)(h:d.k+m<d.s.size):d.rest[m]? = some ((d.s[d.k+m].toNat:Nat):Int):=by
 unfold Rd.rest;rw[List.getElem?_drop,pJ d.s _ h]
theorem Mv (d:Rd)(s:ByteArray)(m p:Nat)(a:Int)(hs:d.s=s)(hp:d.k+m=p)(h:p<s.size)(ha:((s[p].toNat:Nat):Int)=a):d.rest.take (m+1)=d.rest.take m++[a]∧d.rest[m]? = some a:=by
 subst hs;subst hp;subst ha;exact⟨Mt d m h,ad9 d m h⟩
theorem MK (l:List Int)(h:∀x∈l,isNum x=true)(hl:l.length≤4):0≤cK l∧cK l≤9999:=by
 match l,hl,h with
 | [],_,_=>exact⟨by decide,by decide⟩
 | [a],_,h =>
   have h1:=iT (h a (by simp));unfold cK;simp only[List.foldl_cons,List.foldl_nil];omega
 | [a,b],_,h =>
   have h1:=iT (h a (by simp));have h2:=iT (h b (by simp));unfold cK;simp only[List.foldl_cons,List.foldl_nil];omega
 | [a,b,c],_,h =>
   have h1:=iT (h a (by simp));have h2:=iT (h b (by simp));have h3:=iT (h c (by simp));unfold cK;simp only[List.foldl_cons,List.foldl_nil];omega
 | [a,b,c,d],_,h =>
   have h1:=iT (h a (by simp));have h2:=iT (h b (by simp));have h3:=iT (h c (by simp));have h4:=iT (h d (by simp));unfold cK;simp only[List.foldl_cons,List.foldl_nil];omega
theorem agn (p:Int→Bool)(d:Rd):((sb d.s).drop d.k).take (d.rest.takeWhile p).length=d.rest.takeWhile p:=by
 have e:=take_split p d.rest;have h:(d.rest.takeWhile p++d.rest.drop (d.rest.takeWhile p).length).take (d.rest.takeWhile p).length=d.rest.takeWhile p:=List.take_left;rw[e]at h;exact h
theorem Tv:(Tryz.prog.info? 43).map (·.size)=some 5:=by kernel_rfl
theorem BV {ops:Array Oper}{rest:List Oper}{op:Oper}{a:Act}{w:World}{Q:Exit→Act→World→Prop}(hgd:op.guard=none)(x y:Operand)(ho:op.op = .store 43 x y)
 (g:Nat) (s0:ByteArray) (c0 r0:Int) (WY Xh:Bool) (s:ByteArray) (c r:Int) (ac ar:Bool) (hx:a.eval x = .pointer (some ⟨g,0,none⟩)) (hy:a.eval y = .agg #[.string s,.int .i64 c,.int .i64 r,.bool ac,.bool ar]) (hr:bU w g s0 c0 r0 WY Xh)
 (h:∀w',bU w' g s c r ac ar→w.grownBy w' (some g)→wpList Tryz.prog ops Q rest (a.put op.dst undef) w'):wpList Tryz.prog ops Q (op :: rest) a w:=by
 refine wpList_store_row hgd 43 x y ho g 43 _ _ hx hy hr rfl Tv ?_ (h _ (setRow_heap w g _ _ _ _ hr) (grownBy.GU (grownBy.fo w _) _));intro v hv;simp only[List.mem_cons,List.not_mem_nil,or_false]at hv;rcases hv with rfl|rfl|rfl|rfl|rfl <;> rfl
theorem bU.load {w:World}{b:Nat}{s:ByteArray}{c r:Int}{ac ar:Bool}(h:bU w b s c r ac ar):(loadVar 43 ⟨b,0,none⟩).run Tryz.prog w = .ok (.agg #[.string s,.int .i64 c,.int .i64 r,.bool ac,.bool ar]) w :=
 run_loadVar_row w b 43 43 _ _ _ h Tryz.underlying43 rfl Tv
theorem Bz {w:World}{b:Nat}{s:ByteArray}{c r:Int}{ac ar:Bool}(h:bU w b s c r ac ar)(fn:Func)(tmps:Array Value)(ok:Bool)(p u:Tmp)(hf:fn.results=#[.cell p 43,.tmp u])(hp:tmps.getD p undef = .pointer (some ⟨b,0,none⟩))(hu:tmps.getD u undef = .bool ok) :
 (results fn tmps).run Tryz.prog w = .ok (.tuple #[.agg #[.string s,.int .i64 c,.int .i64 r,.bool ac,.bool ar],.bool ok]) w:=by
 rw[results_cell_tmp hf,hp,hu];simp[asAddr,h.load,Result.andThen]
theorem BH:Tryz.f48.results=#[.cell 2 43,.tmp 3]:=by kernel_rfl
theorem ad' (d:Rd)(m:Nat)(h:d.s.size≤d.k+m):d.rest[m]? = none:=by
 rw[List.getElem?_eq_none_iff,qA];omega
theorem ace (d:Rd)(h:d.k<d.s.size)(h2:((d.s[d.k].toNat:Nat):Int)=36):d.mark=true:=by
 unfold Rd.mark;rw[LK d h,h2];rfl
theorem acd (d:Rd)(h:d.k<d.s.size)(h2:¬ ((d.s[d.k].toNat:Nat):Int)=36):d.mark=false:=by
 unfold Rd.mark;rw[LK d h,decide_eq_false_iff_not];intro h3;injection h3 with h3;exact h2 h3
theorem RA(d:Rd)(s:ByteArray)(hs:d.s=s)(h:d.k<s.size)(h2:((s[d.k].toNat:Nat):Int)=36):d.mark=true:=by subst hs;exact ace d h h2
theorem Ry(d:Rd)(s:ByteArray)(hs:d.s=s)(h:d.k<s.size)(h2:¬ ((s[d.k].toNat:Nat):Int)=36):d.mark=false:=by subst hs;exact acd d h h2
theorem Jt(d:Rd):d.rW.k=d.k+(eu d.mark).length:=rfl
theorem Ju(d:Rd):d.A8.k=d.k+(eu d.mark).length:=rfl
theorem acb(d:Rd)(h:d.s.size≤d.k):d.mark=false:=by unfold Rd.mark;rw[TC d h];rfl
theorem Rx(d:Rd)(s:ByteArray)(hs:d.s=s)(h:s.size≤d.k):d.mark=false:=by subst hs;exact acb d h
theorem Tp (s:ByteArray)(w:World)(_hs:s.size≤1000000)(d1:Rd)(hs1:d1.s=s)(hk1:d1.k≤s.size)(Qx:∀e,(Rd.start s).jP=some e→e=d1)(m:Nat)
 (hd1:(m=s.size∧d1.k=0∧d1.sh=⟨#[]⟩)∨(m<s.size∧0<m∧d1.k=m+1∧d1.sh=s.extract 0 m∧∀h:m<s.size,((s[m].toNat:Nat):Int)=33)) (PV:∀(k:Nat)(h:k<s.size),k<m→¬ ((s[k].toNat:Nat):Int)=33) :
 Calls Tryz.prog 48 #[.string s] w fun e w'=>mV (sb s) e∧Below w.heap.size w w':=by
 have hst:iH w ((w.alloc (.cells #[.string ⟨#[]⟩,.int .i64 0,.int .i64 0,.bool false,.bool false] 43)).alloc (.cells #[.string ⟨#[]⟩,.int .i64 0,.int .i64 0,.bool false,.bool false] 43)) ⟨#[]⟩ 0 0 false false:=by
  have h0:=bU.new w ⟨#[]⟩ 0 0 false false;have hsz:(w.alloc (.cells #[.string ⟨#[]⟩,.int .i64 0,.int .i64 0,.bool false,.bool false] 43)).heap.size=w.heap.size+1:=by simp
  have h1:=bU.new (w.alloc (.cells #[.string ⟨#[]⟩,.int .i64 0,.int .i64 0,.bool false,.bool false] 43)) ⟨#[]⟩ 0 0 false false;rw[hsz]at h1;exact⟨h0.below ((ai _ _).alloc (ah _) _) h0.lt,h1,((ai _ _).alloc (ah _) _).alloc (by rw[hsz];omega) _⟩
 have HST:=ae hst;clear hst;have gu:=ae hs1;clear hs1;have Wi:=ae Qx;clear Qx
 have aiD:d1.sh.size≤1000000:=by
  rcases hd1 with ⟨_,_,h⟩|⟨_,_,_,h,_⟩
  · rw[h];exact dV _
  · rw[h,ByteArray.size_extract];omega
 have HD1:=ae hd1;clear hd1;have wo:=ae PV;clear PV;go_enter Tryz.func48,Tryz.ntmps48;go_upto_block 0 with (fail)
 go_cut [5] (fun at_ wx=>at_ = .int .i64 (d1.k:Int)∧iH w wx d1.sh 0 0 false false)
 case first =>
  go_wp2_with fail
  go_loopw [5,6] (fun at_ i wr=>∃k:Nat,k≤s.size∧k≤m∧at_ = .int .i64 0∧i = .int .i64 k∧Hid (iH w wr ⟨#[]⟩ 0 0 false false))
   (fun _ i _=>s.size - (intOf i).toNat)
  case atStart=>exact⟨0,by omega,by omega,rfl,rfl,HST⟩
  case round =>
   clear HST;obtain⟨k,hk,dn,rfl,rfl,HST⟩:=hrel;by_cases hlt:k<s.size
   · have hki:(k:Int)<(s.size:Int):=by omega
     obtain⟨a,ha⟩:∃a:Int,(s[k].toNat:Int)=a:=⟨_,rfl⟩;by_cases hm:k<m
     · have Zn:(a == 33)=false:=beq_eq_false_iff_ne.2 (by rw[← ha];exact wo.o k hlt hm)
       go_wp2_with fail
       go_roundw
       case rel=>exact⟨k+1,by omega,by omega,rfl,by go_num,HST⟩
       case measure=>simp[intOf];omega
     · obtain rfl:k=m:=by omega
       have hd:=HD1.o.resolve_left (by omega);have Zn:(a == 33)=true:=beq_iff_eq.2 (by rw[← ha];exact hd.2.2.2.2 hlt);have hk0:((k:Int) == 0)=false:=beq_eq_false_iff_ne.2 (by have:=hd.2.1;omega);have ais:(0:Int)≤(k:Int):=by omega
       have Ch:=ae hd;clear hd;obtain⟨x0,x1,x2,x3,x4⟩:=HST.o.ref.facts;clear x1 x2 x3 x4;have z0:=(HST.o.ref.frozen 0);go_wp2_with fail
       go_meet
       case rel=>exact⟨by rw[Ch.o.2.2.1];rfl,by rw[Ch.o.2.2.2.1];exact iH.set 0 HST.o (.string (s.extract 0 k)) _ 0 0 false false rfl⟩
   · have hki:¬ (k:Int)<(s.size:Int):=by omega
     have hd:=HD1.o.resolve_right (by omega);have Ch:=ae hd;clear hd;go_wp2_with fail
     go_meet
     case rel=>exact⟨by rw[Ch.o.2.1];rfl,by rw[Ch.o.2.2];exact HST.o⟩
 case rest =>
  obtain⟨rfl,kV⟩:=hcut;clear HST;have HST:=ae kV;clear kV;go_upto_region 11 with (fail)
  go_cut [40] (fun t wx=>t = .bool d1.mark∧iH w wx d1.sh 0 0 false false)
  case first =>
   by_cases hlt:d1.k<s.size
   · have hki:(d1.k:Int)<(s.size:Int):=by omega
     obtain⟨a,ha⟩:∃a:Int,(s[d1.k].toNat:Int)=a:=⟨_,rfl⟩;by_cases gF:a=36
     · have hj:(a == 36)=true:=beq_iff_eq.2 gF
       have hmk:d1.mark=true:=RA d1 s gu.o hlt (by rw[ha,gF]);have jU:=ae hmk;clear hmk gF;go_wp2_with fail
       go_meet
       case rel=>exact⟨by rw[jU.o],HST.o⟩
     · have hj:(a == 36)=false:=beq_eq_false_iff_ne.2 gF
       have hmk:d1.mark=false:=Ry d1 s gu.o hlt (by rw[ha];exact gF);have jU:=ae hmk;clear hmk gF;go_wp2_with fail
       go_meet
       case rel=>exact⟨by rw[jU.o],HST.o⟩
   · have hki:¬ (d1.k:Int)<(s.size:Int):=by omega
     have hmk:d1.mark=false:=Rx d1 s gu.o (by omega);have jU:=ae hmk;clear hmk;go_wp2_with fail
     go_meet
     case rel=>exact⟨by rw[jU.o],HST.o⟩
  case rest =>
   obtain⟨rfl,kV⟩:=hcut;clear HST;have HST:=ae kV;clear kV;go_upto_if 40 with (fail)
   go_cut [5] (fun k wx=>k = .int .i64 (d1.rW.k:Int)∧iH w wx d1.sh 0 0 d1.mark false)
   case first =>
    obtain⟨x0,x1,x2,x3,x4⟩:=HST.o.ref.facts;have z0:=(HST.o.ref.frozen 0);have z1:=(HST.o.ref.frozen 1);have z2:=(HST.o.ref.frozen 2);have z3:=(HST.o.ref.frozen 3);have z4:=(HST.o.ref.frozen 4);cases hm:d1.mark with
    | true =>
      have jU:=ae hm;clear hm;go_wp2_with fail
      go_meet
      case rel=>exact⟨by rw[show d1.rW.k=d1.k+1 from by rw[Jt,jU.o];rfl];rfl,(by first|(rw[jU.o];exact iH.set 3 HST.o (.bool true) d1.sh 0 0 true false rfl)|exact iH.set 3 HST.o (.bool true) d1.sh 0 0 true false rfl)⟩
    | false =>
      have jU:=ae hm;clear hm;go_wp2_with fail
      go_meet
      case rel=>exact⟨by rw[show d1.rW.k=d1.k from by rw[Jt,jU.o];rfl],(by first|(rw[jU.o];exact HST.o)|exact HST.o)⟩
   case rest =>
    obtain⟨rfl,kV⟩:=hcut;clear HST;have HST:=ae kV;clear kV;obtain⟨d2,hd2⟩:∃d:Rd,d1.rW=d:=⟨_,rfl⟩;rw[hd2];have hs2:d2.s=s:=by rw[← hd2];exact gu.o
    have hk2:d2.k≤s.size:=by rw[← hd2,Jt, ← gu.o];exact F6 d1 (by rw[gu.o];exact hk1)
    obtain⟨d3,hd3⟩:∃d:Rd,d2.CP=d:=⟨_,rfl⟩;have hk3:d3.k=d2.k+(d2.rest.takeWhile aL).length:=by rw[← hd3];rfl
    have ZW:d3.k≤s.size:=by rw[hk3, ← hs2];exact Mj aL d2 (by rw[hs2];exact hk2)
    have hs3:d3.s=s:=by rw[← hd3];exact hs2
    have hc3:lg (d2.rest.takeWhile aL)=d3.c:=by rw[← hd3];rfl
    obtain⟨Gi,Qj⟩:∃b:Bool,iR (d2.rest.takeWhile aL)=b:=⟨_,rfl⟩
    have yh:sb (s.extract d2.k d3.k)=d2.rest.takeWhile aL:=by
     rw[hk3,Pj, ← hs2];exact agn aL d2
    have ZF:(s.extract d2.k d3.k).size≤1000000:=by rw[ByteArray.size_extract];omega
    have hkp:(d2.k:Int)≤(d3.k:Int):=by omega
    have hps:(d3.k:Int)≤(s.size:Int):=by omega
    have HD2:=ae hd2;clear hd2;have HS2:=ae hs2;clear hs2;have HD3:=ae hd3;clear hd3;have mh:=ae hs3;clear hs3;have qP:=ae hc3;clear hc3;have nW:=ae hk3;clear hk3;have NA:=ae Qj;clear Qj;have Wn:=ae yh;clear yh;go_upto_block 2 with (fail)
    go_cut [7] (fun t wx=>t = .int .i64 (d3.k:Int)∧iH w wx d1.sh 0 0 d1.mark false)
    case first =>
     go_wp2_with fail
     go_loopw [7] (fun t wr=>∃m:Nat,d2.k+m≤s.size∧t = .int .i64 ((d2.k+m:Nat):Int)∧Hid (∀x∈d2.rest.take m,aL x=true)∧Hid (iH w wr d1.sh 0 0 d1.mark false))
      (fun t _=>s.size - (intOf t).toNat)
     case atStart=>exact⟨0,by omega,rfl,ae (by simp),HST⟩
     case round =>
      clear HST;obtain⟨m,hm,rfl,kr,HST⟩:=hrel;obtain⟨p,hp⟩:∃p:Nat,d2.k+m=p:=⟨_,rfl⟩;rw[hp];have HP:=ae hp;have hp2:p≤s.size:=by omega
      clear hp;by_cases hlt:p<s.size
      · have hki:(p:Int)<(s.size:Int):=by omega
        obtain⟨a,ha⟩:∃a:Int,(s[p].toNat:Int)=a:=⟨_,rfl⟩;have ha1:0≤a∧a≤255:=by have:=s[p].toNat_lt;omega
        have hnx:=Mv d2 s m p a HS2.o HP.o hlt ha;have dG:=ae hnx;clear hnx;by_cases hc:aL a=true
        · go_wp2_with (go_at_call 73;((with_reducible refine(uQ _ ?_ ?_ _).mono ?_);(first|omega|skip);(first|omega|skip);rintro e w' ⟨rfl,rfl⟩))
          go_roundw
          case rel=>exact⟨m+1,by have:=HP.o;omega,by rw[show d2.k+(m+1)=p+1 from by have:=HP.o;omega];rfl,ae (by rw[dG.o.1];exact qd kr.o hc),HST⟩
          case measure=>simp[intOf];omega
        · have hc':aL a=false:=by simpa using hc
          clear hc;have hsp:=Ak aL d2.rest m kr.o (fun x hx=>by rw[dG.o.2]at hx;injection hx with hx;rw[← hx];exact hc');have hpk:p=d3.k:=by rw[nW.o,hsp,gK,qA,HS2.o];have:=HP.o;omega
          have rR:=ae hpk;clear hpk hsp;go_wp2_with (go_at_call 73;((with_reducible refine(uQ _ ?_ ?_ _).mono ?_);(first|omega|skip);(first|omega|skip);rintro e w' ⟨rfl,rfl⟩))
          go_meet
          case rel=>exact⟨by rw[rR.o],HST.o⟩
      · have hki:¬ (p:Int)<(s.size:Int):=by omega
        have hsp:=Ak aL d2.rest m kr.o (fun x hx=>by rw[ad' d2 m (by rw[HS2.o];have:=HP.o;omega)]at hx;cases hx);have hpk:p=d3.k:=by rw[nW.o,hsp,gK,qA,HS2.o];have:=HP.o;omega
        have rR:=ae hpk;clear hpk hsp;go_wp2_with fail
        go_meet
        case rel=>exact⟨by rw[rR.o],HST.o⟩
    case rest =>
     obtain⟨rfl,kV⟩:=hcut;clear HST;have HST:=ae kV;clear kV;go_upto_region 18 with (first|(go_at_call 74;((with_reducible refine(aev _ _ ?_).mono ?_);(first|omega|skip);rintro e w1 ⟨rfl,n,rfl⟩;rw[Wn.o,qP.o,NA.o];have HST:=ae (HST.o.drewN n))))
     clear hkp hps ZF;go_upto_region 18 with (fail)
     go_cut [74] (fun t wx=>t = .bool d3.mark∧iH w wx d1.sh 0 0 d1.mark false)
     case first =>
      by_cases hlt:d3.k<s.size
      · have hki:(d3.k:Int)<(s.size:Int):=by omega
        obtain⟨a,ha⟩:∃a:Int,(s[d3.k].toNat:Int)=a:=⟨_,rfl⟩;by_cases gF:a=36
        · have hj:(a == 36)=true:=beq_iff_eq.2 gF
          have hmk:d3.mark=true:=RA d3 s mh.o hlt (by rw[ha,gF]);have jU:=ae hmk;clear hmk gF;go_wp2_with fail
          go_meet
          case rel=>exact⟨by rw[jU.o],HST.o⟩
        · have hj:(a == 36)=false:=beq_eq_false_iff_ne.2 gF
          have hmk:d3.mark=false:=Ry d3 s mh.o hlt (by rw[ha];exact gF);have jU:=ae hmk;clear hmk gF;go_wp2_with fail
          go_meet
          case rel=>exact⟨by rw[jU.o],HST.o⟩
      · have hki:¬ (d3.k:Int)<(s.size:Int):=by omega
        have hmk:d3.mark=false:=Rx d3 s mh.o (by omega);have jU:=ae hmk;clear hmk;go_wp2_with fail
        go_meet
        case rel=>exact⟨by rw[jU.o],HST.o⟩
     case rest =>
      obtain⟨rfl,kV⟩:=hcut;clear HST;have HST:=ae kV;clear kV;go_upto_if 74 with (fail)
      go_cut [7] (fun k wx=>k = .int .i64 (d3.A8.k:Int)∧iH w wx d1.sh 0 0 d1.mark d3.mark)
      case first =>
       obtain⟨x0,x1,x2,x3,x4⟩:=HST.o.ref.facts;have z0:=(HST.o.ref.frozen 0);have z1:=(HST.o.ref.frozen 1);have z2:=(HST.o.ref.frozen 2);have z3:=(HST.o.ref.frozen 3);have z4:=(HST.o.ref.frozen 4);cases hm:d3.mark with
       | true =>
         have jU:=ae hm;clear hm;go_wp2_with fail
         go_meet
         case rel=>exact⟨by rw[show d3.A8.k=d3.k+1 from by rw[Ju,jU.o];rfl];rfl,(by first|(rw[jU.o];exact iH.set 4 HST.o (.bool true) d1.sh 0 0 d1.mark true rfl)|exact iH.set 4 HST.o (.bool true) d1.sh 0 0 d1.mark true rfl)⟩
       | false =>
         have jU:=ae hm;clear hm;go_wp2_with fail
         go_meet
         case rel=>exact⟨by rw[show d3.A8.k=d3.k from by rw[Ju,jU.o];rfl],(by first|(rw[jU.o];exact HST.o)|exact HST.o)⟩
      case rest =>
       obtain⟨rfl,kV⟩:=hcut;clear HST;have HST:=ae kV;clear kV;obtain⟨d4,hd4⟩:∃d:Rd,d3.A8=d:=⟨_,rfl⟩;rw[hd4];have hs4:d4.s=s:=by rw[← hd4];exact mh.o
       have hk4:d4.k≤s.size:=by rw[← hd4,Ju, ← mh.o];exact F6 d3 (by rw[mh.o];exact ZW)
       have PT:d1.at4=d4:=by unfold Rd.at4;rw[HD2.o,HD3.o,hd4]
       have PW:∀d,gH s=some d→Gi=true∧(∀x∈d4.rest,isNum x=true)∧d4.rest.length≤3∧d.sh=d1.sh∧d.c=d3.c∧d.ac=d1.mark∧d.ar=d3.mark∧d.r=cK d4.rest - 1:=by
        intro d hd;obtain⟨g1,g2,g3,g4,g5,g6,g7,g8⟩:=XX s d1 d Wi.o gu.o hd;rw[PT]at g2 g3 g8;rw[HD2.o,NA.o]at g1;have Pp:d.c=d1.rW.CP.c:=g5;have Pq:d.ar=d1.rW.CP.mark:=g7;rw[HD2.o,HD3.o]at Pp Pq;exact⟨g1,g2,g3,g4,Pp,g6,Pq,g8⟩
       have q8:=ae hs4;clear hs4;have Nc:=ae PW;clear PW PT hd4;obtain⟨v4,hv4⟩:∃v,cK (d4.rest.take 4)=v:=⟨_,rfl⟩;by_cases aX:∀x∈d4.rest.take 4,isNum x=true
       · have hvb:=MK (d4.rest.take 4) aX (by rw[gK];omega)
         rw[hv4]at hvb;have kr:=ae aX;clear aX;have Ja:=ae hv4;clear hv4;go_upto_block 4 with (fail)
         go_cut [10] (fun rr wx=>rr = .int .i64 v4∧iH w wx d1.sh 0 0 d1.mark d3.mark)
         case first =>
          go_wp2_with fail
          go_loopw [10,11] (fun rr t wr=>∃(j:Nat)(v:Int),j≤4∧d4.k+j≤s.size∧rr = .int .i64 v∧t = .int .i64 ((d4.k+j:Nat):Int)∧Hid (cK (d4.rest.take j)=v)∧Hid (iH w wr d1.sh 0 0 d1.mark d3.mark))
           (fun _ t _=>s.size - (intOf t).toNat)
          case atStart=>exact⟨0,0,by omega,by omega,rfl,rfl,ae rfl,HST⟩
          case round =>
           clear HST;obtain⟨j,v,ZN,hjk,rfl,rfl,dH,HST⟩:=hrel;obtain⟨p,hp⟩:∃p:Nat,d4.k+j=p:=⟨_,rfl⟩;rw[hp];have hp2:p≤s.size:=by omega
           by_cases hlt:p<s.size∧j<4
           · obtain ⟨hlt,hj⟩:=hlt
             have hki:(p:Int)<(s.size:Int):=by omega
             have hji:(p:Int)<(d4.k:Int)+4:=by omega
             obtain⟨a,ha⟩:∃a:Int,(s[p].toNat:Int)=a:=⟨_,rfl⟩;have ha1:0≤a∧a≤255:=by have:=s[p].toNat_lt;omega
             have hnx:=Mv d4 s j p a q8.o hp hlt ha
             have hc:isNum a=true:=kr.o a (by
              have h1:a∈d4.rest.take (j+1):=by rw[hnx.1];simp
              exact List.mem_of_mem_take (i:=j+1) (by rw[List.take_take];rw[Nat.min_eq_left (by omega)];exact h1))
             have hab:=iT hc;have aas:=MK (d4.rest.take j) (fun x hx=>kr.o x (List.mem_of_mem_take (i:=j) (by rw[List.take_take,Nat.min_eq_left (by omega)];exact hx))) (by rw[gK];omega);rw[dH.o]at aas;have dG:=ae hnx;clear hnx;have HP:=ae hp;clear hp;go_wp2_with (go_at_call 75;((with_reducible refine(iV _ ?_ ?_ _).mono ?_);(first|omega|skip);(first|omega|skip);rintro e w' ⟨rfl,rfl⟩))
             go_roundw
             case rel=>exact⟨j+1,10*v+(a - 48),by omega,by have:=HP.o;omega,rfl,by rw[show d4.k+(j+1)=p+1 from by have:=HP.o;omega];rfl,ae (by rw[dG.o.1,yM,dH.o]),HST⟩
             case measure=>simp[intOf];omega
           · have QE:v4=v:=by
              rw[← dH.o, ← Ja.o];by_cases hj:j=4
              · rw[hj]
              · have hl:d4.rest.length≤j:=by rw[qA,q8.o];omega
                rw[pW hl,pW (by omega)]
             have NR:=ae QE;clear QE;by_cases hps:p<s.size
             · have hki:(p:Int)<(s.size:Int):=by omega
               have hji:¬ (p:Int)<(d4.k:Int)+4:=by omega
               have HP:=ae hp;clear hp hlt;go_wp2_with fail
               go_meet
               case rel=>exact⟨by rw[NR.o],HST.o⟩
             · have hki:¬ (p:Int)<(s.size:Int):=by omega
               have HP:=ae hp;clear hp hlt;go_wp2_with fail
               go_meet
               case rel=>exact⟨by rw[NR.o],HST.o⟩
         case rest =>
          obtain⟨rfl,kV⟩:=hcut;clear HST;have HST:=ae kV;clear kV
          have bQ:Gi=true→di (sb d1.sh) d3.c (v4 - 1)=true→strOfNums (aY (sb d1.sh) d3.c (v4 - 1) d1.mark d3.mark)=s→mV (sb s) (.returned (.tuple #[.agg #[.string d1.sh,.int .i64 d3.c,.int .i64 (v4 - 1),.bool d1.mark,.bool d3.mark],.bool true])):=by
           intro _ h2 h3;refine .inl ⟨d1.sh,d3.c,v4 - 1,d1.mark,d3.mark, ?_,h2, ?_,rfl⟩
           · rcases Bt h2 with h|h
             · rw[← aV,h];exact dV _
             · rw[← aV];exact(R5 h).2
           · rw[← jd _ (zk d1.sh d3.c (v4 - 1) d1.mark d3.mark),h3]
          have hno:¬ (Gi=true∧di (sb d1.sh) d3.c (v4 - 1)=true∧strOfNums (aY (sb d1.sh) d3.c (v4 - 1) d1.mark d3.mark)=s)→EF (sb s):=by
           intro h;apply BF;cases hq:gH s with
           | none=>rfl
           | some d =>
             exfalso;obtain⟨g1,g2,g3,g4,g5,g6,g7,g8⟩:=Nc.o d hq;obtain⟨r1,r2,r3⟩:=xh s d hq;rw[pW (by omega)]at Ja;rw[Ja.o]at g8;rw[g4,g5,g8]at r2;rw[g4,g5,g6,g7,g8]at r3;exact h ⟨g1,r2,by rw[r3,l5]⟩
          have bZ:=ae bQ;clear bQ;have dN:=ae hno;clear hno;obtain⟨tt,zN⟩:∃t:ByteArray,strOfNums (aY (sb d1.sh) d3.c (v4 - 1) d1.mark d3.mark)=t:=⟨_,rfl⟩;obtain⟨my,Ka⟩:∃b:Bool,di (sb d1.sh) d3.c (v4 - 1)=b:=⟨_,rfl⟩;rw[zN,Ka]at bZ dN;have CB:=ae zN;clear zN;have yX:=ae Ka;clear Ka;go_upto_region 28 with (fail)
          obtain⟨x0,x1,x2,x3,x4⟩:=HST.o.ref.facts;have z0:=(HST.o.ref.frozen 0);have z1:=(HST.o.ref.frozen 1);have z2:=(HST.o.ref.frozen 2);have z3:=(HST.o.ref.frozen 3);have z4:=(HST.o.ref.frozen 4);go_upto_region 30 with (fail)
          clear x0 x1 x2 x3 x4 z0 z1 z2 z3 z4;have Ko:=iH.set 2 (iH.set 1 HST.o (.int .i64 d3.c) d1.sh d3.c 0 d1.mark d3.mark rfl) (.int .i64 (v4 - 1)) d1.sh d3.c (v4 - 1) d1.mark d3.mark rfl;clear HST;generalize (wc.setCell ⟨w.heap.size+1,1,none⟩ (.int .i64 d3.c)).setCell ⟨w.heap.size+1,2,none⟩ (.int .i64 (v4 - 1))=w3 at Ko ⊢;have HST:=ae Ko;clear Ko;obtain⟨x0,x1,x2,x3,x4⟩:=HST.o.ref.facts;have z0:=(HST.o.ref.frozen 0);have z1:=(HST.o.ref.frozen 1);have z2:=(HST.o.ref.frozen 2);have z3:=(HST.o.ref.frozen 3);have z4:=(HST.o.ref.frozen 4);cases Gi with
          | false =>
            have hnr:=dN.o (by rintro⟨h,_⟩;cases h);have wB:=ae hnr;clear hnr;go_upto_region 31 with (fail)
            repeat (first|go_says ((with_reducible refine BV (op:=⟨none,.store 43 (.tmp 2) (.tmp 123),_,_,_,_⟩) rfl (.tmp 2) (.tmp 123) rfl w.heap.size _ _ _ _ _ ⟨#[]⟩ 0 0 false false ?_ ?_ HST.o.res ?_);rfl;rfl;intro iN h9 g9;have tQ:=ae h9;clear h9;have fA:=ae g9;clear g9)|go_values|go_skip|go_guarded|go_step|go_upon)
            (try simp only[Exit.inBlock,Exit.then])
            refine bodyPost_ret (Bz tQ.o _ _ false 2 3 BH rfl rfl) rfl ⟨.inr ⟨wB.o,rfl⟩,uq HST.o.below fA.o HST.o.below.size (ah _)⟩
          | true =>
            cases my with
            | false =>
              have hnr:=dN.o (by rintro⟨_,h,_⟩;cases h);have wB:=ae hnr;clear hnr;go_upto_region 31 with (first|(go_at_call 50;((with_reducible refine(pE _ _ _ _ _ _ ?_).mono ?_);(first|omega|skip);rintro e w1 ⟨rfl,h1⟩;rw[yX.o];have HST:=ae (HST.o.next h1);clear h1;clear x0 x1 x2 x3 x4 z0 z1 z2 z3 z4;obtain⟨x0,x1,x2,x3,x4⟩:=HST.o.ref.facts;have z0:=(HST.o.ref.frozen 0);have z1:=(HST.o.ref.frozen 1);have z2:=(HST.o.ref.frozen 2);have z3:=(HST.o.ref.frozen 3);have z4:=(HST.o.ref.frozen 4))))
              repeat (first|go_says ((with_reducible refine BV (op:=⟨none,.store 43 (.tmp 2) (.tmp 123),_,_,_,_⟩) rfl (.tmp 2) (.tmp 123) rfl w.heap.size _ _ _ _ _ ⟨#[]⟩ 0 0 false false ?_ ?_ HST.o.res ?_);rfl;rfl;intro iN h9 g9;have tQ:=ae h9;clear h9;have fA:=ae g9;clear g9)|go_values|go_skip|go_guarded|go_step|go_upon)
              (try simp only[Exit.inBlock,Exit.then])
              refine bodyPost_ret (Bz tQ.o _ _ false 2 3 BH rfl rfl) rfl ⟨.inr ⟨wB.o,rfl⟩,uq HST.o.below fA.o HST.o.below.size (ah _)⟩
            | true =>
              by_cases hts:tt=s
              · have hys:=bZ.o rfl rfl hts
                have WI:=ae hys;clear hys;have htb:(s.toList == s.toList)=true:=beq_self_eq_true _;have PN:=ae hts;clear hts;go_upto_region 32 with (first|(go_at_call 50;((with_reducible refine(pE _ _ _ _ _ _ ?_).mono ?_);(first|omega|skip);rintro e w1 ⟨rfl,h1⟩;rw[yX.o];have HST:=ae (HST.o.next h1);clear h1;clear x0 x1 x2 x3 x4 z0 z1 z2 z3 z4;obtain⟨x0,x1,x2,x3,x4⟩:=HST.o.ref.facts;have z0:=(HST.o.ref.frozen 0);have z1:=(HST.o.ref.frozen 1);have z2:=(HST.o.ref.frozen 2);have z3:=(HST.o.ref.frozen 3);have z4:=(HST.o.ref.frozen 4)))|(go_at_call 26;((with_reducible refine(DF _ _ _ _ _ _ ?_).mono ?_);(first|omega|skip);rintro e w1 ⟨rfl,h1⟩;rw[CB.o];(try rw[PN.o]);have HST:=ae (HST.o.next h1);clear h1;clear x0 x1 x2 x3 x4 z0 z1 z2 z3 z4;obtain⟨x0,x1,x2,x3,x4⟩:=HST.o.ref.facts;have z0:=(HST.o.ref.frozen 0);have z1:=(HST.o.ref.frozen 1);have z2:=(HST.o.ref.frozen 2);have z3:=(HST.o.ref.frozen 3);have z4:=(HST.o.ref.frozen 4))))
                repeat (first|go_says ((with_reducible refine BV (op:=⟨none,.store 43 (.tmp 2) (.tmp 124),_,_,_,_⟩) rfl (.tmp 2) (.tmp 124) rfl w.heap.size _ _ _ _ _ d1.sh d3.c (v4 - 1) d1.mark d3.mark ?_ ?_ HST.o.res ?_);rfl;rfl;intro iN h9 g9;have tQ:=ae h9;clear h9;have fA:=ae g9;clear g9)|go_values|go_skip|go_guarded|go_step|go_upon)
                (try simp only[Exit.inBlock,Exit.then])
                exact bodyPost_ret (Bz tQ.o _ _ true 2 3 BH rfl rfl) rfl ⟨WI.o,uq HST.o.below fA.o HST.o.below.size (ah _)⟩
              · have hnr:=dN.o (by rintro⟨_,_,h⟩;exact hts h)
                have wB:=ae hnr;clear hnr;have htn:=pR tt s hts;have htb:(tt.toList == s.toList)=false:=beq_eq_false_iff_ne.2 htn;clear hts;go_upto_region 31 with (first|(go_at_call 50;((with_reducible refine(pE _ _ _ _ _ _ ?_).mono ?_);(first|omega|skip);rintro e w1 ⟨rfl,h1⟩;rw[yX.o];have HST:=ae (HST.o.next h1);clear h1;clear x0 x1 x2 x3 x4 z0 z1 z2 z3 z4;obtain⟨x0,x1,x2,x3,x4⟩:=HST.o.ref.facts;have z0:=(HST.o.ref.frozen 0);have z1:=(HST.o.ref.frozen 1);have z2:=(HST.o.ref.frozen 2);have z3:=(HST.o.ref.frozen 3);have z4:=(HST.o.ref.frozen 4)))|(go_at_call 26;((with_reducible refine(DF _ _ _ _ _ _ ?_).mono ?_);(first|omega|skip);rintro e w1 ⟨rfl,h1⟩;rw[CB.o];(try rw[PN.o]);have HST:=ae (HST.o.next h1);clear h1;clear x0 x1 x2 x3 x4 z0 z1 z2 z3 z4;obtain⟨x0,x1,x2,x3,x4⟩:=HST.o.ref.facts;have z0:=(HST.o.ref.frozen 0);have z1:=(HST.o.ref.frozen 1);have z2:=(HST.o.ref.frozen 2);have z3:=(HST.o.ref.frozen 3);have z4:=(HST.o.ref.frozen 4))))
                repeat (first|go_says ((with_reducible refine BV (op:=⟨none,.store 43 (.tmp 2) (.tmp 123),_,_,_,_⟩) rfl (.tmp 2) (.tmp 123) rfl w.heap.size _ _ _ _ _ ⟨#[]⟩ 0 0 false false ?_ ?_ HST.o.res ?_);rfl;rfl;intro iN h9 g9;have tQ:=ae h9;clear h9;have fA:=ae g9;clear g9)|go_values|go_skip|go_guarded|go_step|go_upon)
                (try simp only[Exit.inBlock,Exit.then])
                refine bodyPost_ret (Bz tQ.o _ _ false 2 3 BH rfl rfl) rfl ⟨.inr ⟨wB.o,rfl⟩,uq HST.o.below fA.o HST.o.below.size (ah _)⟩
       · have PQ:=aX
         clear aX;have kr:=ae PQ;clear PQ;go_wp2_with fail
         go_loopw [10,11] (fun rr t wr=>∃(j:Nat)(v:Int),j≤4∧d4.k+j≤s.size∧rr = .int .i64 v∧t = .int .i64 ((d4.k+j:Nat):Int)∧Hid (cK (d4.rest.take j)=v∧(∀x∈d4.rest.take j,isNum x=true))∧Hid (iH w wr d1.sh 0 0 d1.mark d3.mark))
          (fun _ t _=>s.size - (intOf t).toNat)
         case atStart=>exact⟨0,0,by omega,by omega,rfl,rfl,ae ⟨rfl,by simp⟩,HST⟩
         case round =>
          clear HST;obtain⟨j,v,ZN,hjk,rfl,rfl,dH,HST⟩:=hrel;obtain⟨p,hp⟩:∃p:Nat,d4.k+j=p:=⟨_,rfl⟩;rw[hp];have hp2:p≤s.size:=by omega
          have hj:j<4∧p<s.size:=by
           refine Decidable.byContradiction fun hn=>kr.o ?_
           have he:d4.rest.take 4=d4.rest.take j:=by
            by_cases hj:j=4
            · rw[hj]
            · have hl:d4.rest.length≤j:=by rw[qA,q8.o];omega
              rw[pW hl,pW (by omega)]
           rw[he];exact dH.o.2
          obtain⟨hj,hlt⟩:=hj;have hvb:=MK (d4.rest.take j) dH.o.2 (by rw[gK];omega);rw[dH.o.1]at hvb;have hki:(p:Int)<(s.size:Int):=by omega
          have hji:(p:Int)<(d4.k:Int)+4:=by omega
          obtain⟨a,ha⟩:∃a:Int,(s[p].toNat:Int)=a:=⟨_,rfl⟩;have ha1:0≤a∧a≤255:=by have:=s[p].toNat_lt;omega
          have hnx:=Mv d4 s j p a q8.o hp hlt ha;have dG:=ae hnx;clear hnx;have HP:=ae hp;clear hp;by_cases hc:isNum a=true
          · have hab:=iT hc
            go_wp2_with (go_at_call 75;((with_reducible refine(iV _ ?_ ?_ _).mono ?_);(first|omega|skip);(first|omega|skip);rintro e w' ⟨rfl,rfl⟩))
            go_roundw
            case rel=>exact⟨j+1,10*v+(a - 48),by omega,by have:=HP.o;omega,rfl,by rw[show d4.k+(j+1)=p+1 from by have:=HP.o;omega];rfl,ae ⟨by rw[dG.o.1,yM,dH.o.1],by rw[dG.o.1];exact qd dH.o.2 hc⟩,HST⟩
            case measure=>simp[intOf];omega
          · have hc':isNum a=false:=by simpa using hc
            clear hc
            have hno:gH s=none:=by
             cases hq:gH s with
             | none=>rfl
             | some d =>
               have h1:=(Nc.o d hq).2.1 a (fu dG.o.2);rw[hc']at h1;cases h1
            have hnr:=BF s hno;have wB:=ae hnr;clear hnr hno;go_upto_region 26 with (first|(go_at_call 75;((with_reducible refine(iV _ ?_ ?_ _).mono ?_);(first|omega|skip);(first|omega|skip);rintro e w' ⟨rfl,rfl⟩)))
            repeat (first|go_says ((with_reducible refine BV (op:=⟨none,.store 43 (.tmp 2) (.tmp 96),_,_,_,_⟩) rfl (.tmp 2) (.tmp 96) rfl w.heap.size _ _ _ _ _ ⟨#[]⟩ 0 0 false false ?_ ?_ HST.o.res ?_);rfl;rfl;intro iN h9 g9;have tQ:=ae h9;clear h9;have fA:=ae g9;clear g9)|go_values|go_skip|go_guarded|go_step|go_upon)
            (try simp only[Exit.inBlock,Exit.then])
            refine bodyPost_ret (Bz tQ.o _ _ false 2 3 BH rfl rfl) rfl ⟨.inr ⟨wB.o,rfl⟩,uq HST.o.below fA.o HST.o.below.size (ah _)⟩
theorem Ub (s:ByteArray)(k:Nat)(h:k<s.size)(hk:k<(Rd.start s).bK.length):¬ ((s[k].toNat:Nat):Int)=33:=by
 intro wO
 have h1:=tC jm (sb s) 33 (by
  have h2:=take_split jm (sb s)
  have h3:((sb s).takeWhile jm)[k]? = (sb s)[k]? := by
   conv=>rhs;rw[← h2]
   rw[List.getElem?_append_left (show k<((sb s).takeWhile jm).length from hk)]
  rw[pJ s k h,wO]at h3;exact fu h3)
 exact absurd h1 (by decide)
theorem Uc (s:ByteArray)(m:Nat)(hm:(Rd.start s).bK.length=m)(h:m<s.size):((s[m].toNat:Nat):Int)=33:=by
 have h1:=DY jm (sb s) ((s[m].toNat:Nat):Int) (by
  have h2:((sb s).takeWhile jm).length=m:=hm;rw[h2,List.head?_drop,pJ s m h])
 unfold jm at h1
 simpa using h1
theorem afP (s:ByteArray):s.extract 0 (Rd.start s).bK.length=strOfNums (Rd.start s).bK:=by
 have h:=Mc (Rd.start s);have h2:(sb s).take (Rd.start s).bK.length=(Rd.start s).bK:=h;rw[← l5 (s.extract 0 (Rd.start s).bK.length)];congr 1;have e:=Pj s 0 (Rd.start s).bK.length;rw[Nat.zero_add,List.drop_zero,h2]at e;exact e
theorem aew (s:ByteArray)(w:World)(_hs:s.size≤1000000)(hp:0<s.size)(h0:(Rd.start s).bK.length=0) :
 Calls Tryz.prog 48 #[.string s] w fun e w'=>mV (sb s) e∧Below w.heap.size w w':=by
 have hst:iH w ((w.alloc (.cells #[.string ⟨#[]⟩,.int .i64 0,.int .i64 0,.bool false,.bool false] 43)).alloc (.cells #[.string ⟨#[]⟩,.int .i64 0,.int .i64 0,.bool false,.bool false] 43)) ⟨#[]⟩ 0 0 false false:=by
  have h0:=bU.new w ⟨#[]⟩ 0 0 false false;have hsz:(w.alloc (.cells #[.string ⟨#[]⟩,.int .i64 0,.int .i64 0,.bool false,.bool false] 43)).heap.size=w.heap.size+1:=by simp
  have h1:=bU.new (w.alloc (.cells #[.string ⟨#[]⟩,.int .i64 0,.int .i64 0,.bool false,.bool false] 43)) ⟨#[]⟩ 0 0 false false;rw[hsz]at h1;exact⟨h0.below ((ai _ _).alloc (ah _) _) h0.lt,h1,((ai _ _).alloc (ah _) _).alloc (by rw[hsz];omega) _⟩
 have hnr:EF (sb s):=by
  apply BF
  have hsh:(Rd.start s).jP=none:=by
   unfold Rd.jP;rw[if_neg (show ¬ (Rd.start s).bK.length=(Rd.start s).s.size by rw[h0];show ¬ 0=s.size;omega)];rw[kg h0];rfl
  unfold gH;rw[hsh];rfl
 have hb:=Uc s 0 h0 hp;obtain⟨a,ha⟩:∃a:Int,(s[0].toNat:Int)=a:=⟨_,rfl⟩;have hb2:(a == 33)=true:=beq_iff_eq.2 (by rw[← ha];exact hb);have hpi:(0:Int)<(s.size:Int):=by omega
 have HST:=ae hst;clear hst;have wB:=ae hnr;clear hnr hb h0;go_enter Tryz.func48,Tryz.ntmps48;go_wp2_with fail
 go_loopw [3,5,6] (fun rk at_ i wr=>rk = .bool false∧at_ = .int .i64 0∧i = .int .i64 0∧Hid (iH w wr ⟨#[]⟩ 0 0 false false))
  (fun _ _ i _=>s.size - (intOf i).toNat)
 case atStart=>exact⟨rfl,rfl,rfl,HST⟩
 case round =>
  clear HST;obtain⟨rfl,rfl,rfl,HST⟩:=hrel;obtain⟨x0,x1,x2,x3,x4⟩:=HST.o.ref.facts;clear x1 x2 x3 x4;have z0:=(HST.o.ref.frozen 0);have kV:=iH.set 0 HST.o (.string ByteArray.empty) ByteArray.empty 0 0 false false rfl;have I6:=ae kV;clear kV;go_wp2_with ((with_reducible refine BV (op:=⟨none,.store 43 (.tmp 2) (.tmp 30),_,_,_,_⟩) rfl (.tmp 2) (.tmp 30) rfl w.heap.size _ _ _ _ _ ⟨#[]⟩ 0 0 false false ?_ ?_ I6.o.res ?_);rfl;rfl;intro iN h9 g9;have tQ:=ae h9;clear h9;have fA:=ae g9;clear g9)
  (try simp only[Exit.inBlock,Exit.then])
  exact bodyPost_ret (Bz tQ.o _ _ false 2 3 BH rfl rfl) rfl ⟨.inr ⟨wB.o,rfl⟩,uq I6.o.below fA.o I6.o.below.size (ah _)⟩
theorem BG (s:ByteArray)(w:World)(hs:s.size≤1000000) :
 Calls Tryz.prog 48 #[.string s] w fun e w'=>mV (sb s) e∧Below w.heap.size w w':=by
 by_cases hno:(Rd.start s).bK.length=s.size
 · refine Tp s w hs (Rd.start s) rfl (dV _) ?_ s.size (.inl ⟨rfl,rfl,rfl⟩) ?_
   · intro e he
     unfold Rd.jP at he;rw[if_pos (show(Rd.start s).bK.length=(Rd.start s).s.size from hno)]at he;injection he with he;exact he.symm
   · intro k h hk;exact Ub s k h (by rw[hno];exact hk)
 · have hlt:(Rd.start s).bK.length<s.size:=Ma (Rd.start s) hno
   by_cases h0:(Rd.start s).bK.length=0
   · exact aew s w hs (by omega) h0
   · refine Tp s w hs { Rd.start s with sh:=s.extract 0 (Rd.start s).bK.length,k:=(Rd.start s).bK.length+1 } rfl hlt ?_ (Rd.start s).bK.length (.inr ⟨hlt,by omega,rfl,rfl,fun h=>Uc s _ rfl h⟩) (fun k h hk=>Ub s k h hk)
     intro e he;unfold Rd.jP at he;rw[if_neg (show ¬ (Rd.start s).bK.length=(Rd.start s).s.size from hno)]at he;by_cases hn:gX (Rd.start s).bK=true
     · rw[if_pos hn]at he;injection he with he;rw[← he,afP]
     · rw[if_neg hn]at he;cases he
theorem XO (s:ByteArray)(k:Nat)(h:k<s.size)(hx:(aL ((sb s).getD k 0)||isNum ((sb s).getD k 0))=false):jb (sb s)=false:=by
 unfold jb;rw[Bool.and_eq_false_iff];left;rw[decide_eq_false_iff_not];intro aX;have:=aX ((sb s).getD k 0) (by rw[sW s k h];exact fu (pJ s k h));rw[hx]at this;cases this
theorem XM (s:ByteArray)(h:∀j,j<s.size→(aL ((sb s).getD j 0)||isNum ((sb s).getD j 0))=true):jb (sb s)=(decide (1≤s.size∧s.size≤12)&&aL ((sb s).getD 0 0)):=by
 unfold jb;rw[decide_eq_true (show ∀x∈sb s,(aL x||isNum x)=true from ?_),Bool.true_and,aV];intro x hx;obtain⟨j,hj,rfl⟩:=List.mem_iff_getElem.1 hx;have:=h j (by rw[aV]at hj;exact hj);rw[jG,dm hj]at this;exact this
theorem Lt (s:ByteArray)(w:World)(_hs:s.size≤1000000) :
 Calls Tryz.prog 49 #[.string s] w fun e w'=>e = .returned (.bool (jb (sb s)))∧w=w':=by
 go_enter Tryz.func49,Tryz.ntmps49;go_wp2_with fail
 go_loopw [3] (fun i wr=>∃k:Nat,k≤s.size∧i = .int .i64 k∧Hid (∀j,j<k→(aL ((sb s).getD j 0)||isNum ((sb s).getD j 0))=true)∧w=wr)
  (fun i _=>s.size - (intOf i).toNat)
 case atStart=>exact⟨0,by omega,rfl,ae (by intro j hj;omega),rfl⟩
 case round =>
  obtain⟨k,hk,rfl,HG,rfl⟩:=hrel;by_cases hlt:k<s.size
  · have hki:(k:Int)<(s.size:Int):=by omega
    obtain⟨a,ha⟩:∃a:Int,(s[k].toNat:Int)=a:=⟨_,rfl⟩;have ha1:0≤a∧a≤255:=by have:=s[k].toNat_lt;omega
    have wu:=ae (show(sb s).getD k 0=a by rw[sW s k hlt,ha])
    have Dh:(aL a||isNum a)=true→∀j,j<k+1→(aL ((sb s).getD j 0)||isNum ((sb s).getD j 0))=true:=by
     intro h j hj;by_cases h1:j<k
     · exact HG.o j h1
     · rw[show j=k from by omega,wu.o];exact h
    have Cu:=ae Dh;clear Dh;cases hc:aL a
    · cases hn:isNum a
      · have dN:=ae (XO s k hlt (by rw[wu.o,hc,hn];rfl))
        go_wp2_with (first
         | (go_at_call 73;((with_reducible refine(uQ _ ?_ ?_ _).mono ?_);(first|omega|skip);(first|omega|skip);rintro e w' ⟨rfl,rfl⟩;rw[hc]))
         | (go_at_call 75;((with_reducible refine(iV _ ?_ ?_ _).mono ?_);(first|omega|skip);(first|omega|skip);rintro e w' ⟨rfl,rfl⟩;rw[hn])))
        go_ret;exact⟨fD dN.o.symm,rfl⟩
      · go_wp2_with (first
         | (go_at_call 73;((with_reducible refine(uQ _ ?_ ?_ _).mono ?_);(first|omega|skip);(first|omega|skip);rintro e w' ⟨rfl,rfl⟩;rw[hc]))
         | (go_at_call 75;((with_reducible refine(iV _ ?_ ?_ _).mono ?_);(first|omega|skip);(first|omega|skip);rintro e w' ⟨rfl,rfl⟩;rw[hn])))
        go_roundw
        case rel=>exact⟨k+1,by omega,by go_num,ae (Cu.o (by rw[hc,hn];rfl)),by trivial⟩
        case measure=>simp[intOf];omega
    · go_wp2_with (first
       | (go_at_call 73;((with_reducible refine(uQ _ ?_ ?_ _).mono ?_);(first|omega|skip);(first|omega|skip);rintro e w' ⟨rfl,rfl⟩;rw[hc])))
      go_roundw
      case rel=>exact⟨k+1,by omega,by go_num,ae (Cu.o (by rw[hc];rfl)),by trivial⟩
      case measure=>simp[intOf];omega
  · have hki:¬ (k:Int)<(s.size:Int):=by omega
    have HA:=ae (XM s (fun j hj=>HG.o j (by omega)));by_cases h1:1≤s.size∧s.size≤12
    · have hi1:(1:Int)≤(s.size:Int):=by omega
      have hi2:(s.size:Int)≤12:=by omega
      have hp0:0<s.size:=by omega
      obtain⟨a,ha⟩:∃a:Int,(s[0].toNat:Int)=a:=⟨_,rfl⟩;have ha1:0≤a∧a≤255:=by have:=s[0].toNat_lt;omega
      rw[decide_eq_true h1,Bool.true_and,sW s 0 hp0,ha]at HA
      go_wp2_with (first
       | (go_at_call 73;((with_reducible refine(uQ _ ?_ ?_ _).mono ?_);(first|omega|skip);(first|omega|skip);rintro e w' ⟨rfl,rfl⟩)))
      go_ret;exact⟨fD HA.o.symm,rfl⟩
    · rw [decide_eq_false h1,Bool.false_and]at HA
      by_cases h0:1≤s.size
      · have hi1:(1:Int)≤(s.size:Int):=by omega
        have hi2:¬ (s.size:Int)≤12:=by omega
        go_wp2_with fail
        go_ret;exact⟨fD HA.o.symm,rfl⟩
      · have hi1:¬ (1:Int)≤(s.size:Int):=by omega
        go_wp2_with fail
        go_ret;exact⟨fD HA.o.symm,rfl⟩
theorem aed (k:Int)(w:World):Calls Tryz.prog 23 #[.int .i64 k] w fun e w'=>e = .returned (.int .i64 (jh k))∧w=w':=by
 have fin:∀r:Int,jh k=r→(Calls Tryz.prog 23 #[.int .i64 k] w fun e w'=>e = .returned (.int .i64 r)∧w=w')→Calls Tryz.prog 23 #[.int .i64 k] w fun e w'=>e = .returned (.int .i64 (jh k))∧w=w':=fun r h g=>by rw[h];exact g
 by_cases h1:1≤k
 · by_cases h6:k≤6
   · refine fin 0 (by unfold jh;rw[if_pos ⟨h1,h6⟩]) ?_
     go_enter Tryz.func23,Tryz.ntmps23;go_wp2_with fail
     go_ret;exact⟨rfl,rfl⟩
   · by_cases h7:k=7
     · have e7:(k == 7)=true:=beq_iff_eq.2 h7
       refine fin (-1) (by unfold jh;rw[if_neg (by omega),if_pos h7]) ?_;clear h7;go_enter Tryz.func23,Tryz.ntmps23;go_wp2_with fail
       go_ret;exact⟨rfl,rfl⟩
     · have e7:(k == 7)=false:=beq_eq_false_iff_ne.2 h7
       by_cases h8:k=8
       · have e8:(k == 8)=true:=beq_iff_eq.2 h8
         refine fin 1 (by unfold jh;rw[if_neg (by omega),if_neg h7,if_pos h8]) ?_;clear h7 h8;go_enter Tryz.func23,Tryz.ntmps23;go_wp2_with fail
         go_ret;exact⟨rfl,rfl⟩
       · have e8:(k == 8)=false:=beq_eq_false_iff_ne.2 h8
         have h9:9≤k:=by omega
         by_cases h19:k≤19
         · refine fin 2 (by unfold jh;rw[if_neg (by omega),if_neg h7,if_neg h8,if_pos ⟨h9,h19⟩]) ?_
           clear h7 h8;go_enter Tryz.func23,Tryz.ntmps23;go_wp2_with fail
           go_ret;exact⟨rfl,rfl⟩
         · refine fin (-2) (by unfold jh;rw[if_neg (by omega),if_neg h7,if_neg h8,if_neg (by omega)]) ?_
           clear h7 h8;go_enter Tryz.func23,Tryz.ntmps23;go_wp2_with fail
           go_ret;exact⟨rfl,rfl⟩
 · have e7:(k == 7)=false:=beq_eq_false_iff_ne.2 (by omega)
   have e8:(k == 8)=false:=beq_eq_false_iff_ne.2 (by omega);have h9:¬ 9≤k:=by omega
   refine fin (-2) (by unfold jh;rw[if_neg (by omega),if_neg (by omega),if_neg (by omega),if_neg (by omega)]) ?_;go_enter Tryz.func23,Tryz.ntmps23;go_wp2_with fail
   go_ret;exact⟨rfl,rfl⟩
theorem qH (f:bC)(w:World):Calls Tryz.prog 46 #[.agg #[.string f.sh,.int .i64 f.c,.int .i64 f.r,.bool f.ac,.bool f.ar]] w fun e w'=>e = .returned (.bool (fe f))∧Below w.heap.size w w':=by
 have HN:=ae (KZ f);have hx:=bU.new w f.sh f.c f.r f.ac f.ar;have HB:=ae ((ai w.heap.size w).alloc (ah _) (.cells #[.string f.sh,.int .i64 f.c,.int .i64 f.r,.bool f.ac,.bool f.ar] 43));go_enter Tryz.func46,Tryz.ntmps46;go_upto_region 1 with (fail)
 generalize w.alloc (.cells #[.string f.sh,.int .i64 f.c,.int .i64 f.r,.bool f.ac,.bool f.ar] 43)=w1 at hx HB ⊢;obtain⟨x0,x1,x2,x3,x4⟩:=hx.facts;clear hx;have xB:=ae (fun (h1:f.sh.toList=[])(h2:f.c=0)(h3:f.r=0)(h4:f.ac=false)(h5:f.ar=false)=>(YI (a:=f) (b:=bC.zero) (h1.trans ow.symm) h2 h3 h4 h5));go_wp2_with fail
 all_goals go_ret
 all_goals first
  | (have hv:gD f bC.zero=true:=xB.o ‹f.sh.toList=[]› ‹f.c=0› ‹f.r=0› (by simpa using ‹¬ f.ac=true›) (by simpa using ‹¬ f.ar=true›)
     exact⟨by rw[HN.o,hv];rfl,HB.o⟩)
  | (have hv:gD f bC.zero=false:=by
      cases hq:gD f bC.zero
      · rfl
      · exfalso
        have hz:=(CR f bC.zero).1 hq;clear x0 x1 x2 x3 x4 xB HN hq;subst hz
        first
         | exact absurd (show bC.zero.sh.toList=[]from ow) ‹¬ bC.zero.sh.toList=[]›
         | exact absurd (show bC.zero.c=0 from rfl) ‹¬ bC.zero.c=0›
         | exact absurd (show bC.zero.r=0 from rfl) ‹¬ bC.zero.r=0›
         | exact absurd ‹bC.zero.ac=true› (by decide)
         | exact absurd ‹bC.zero.ar=true› (by decide)
     exact⟨by rw[HN.o,hv];rfl,HB.o⟩)
theorem aet (s:ByteArray)(w:World)(_hs:s.size≤1000000):Calls Tryz.prog 47 #[.string s] w fun e w'=>e = .returned (.bool (lI (sb s)))∧w=w':=by
 go_enter Tryz.func47,Tryz.ntmps47;go_wp2_with fail
 go_loopw [3] (fun i wr=>∃k:Nat,k≤s.size∧i = .int .i64 k∧Hid (∀(j:Nat)(hj:j<s.size),j<k→¬ ((s[j].toNat:Nat):Int)<32)∧w=wr)
  (fun i _=>s.size - (intOf i).toNat)
 case atStart=>exact⟨0,by omega,rfl,ae (by intro j _ hj;omega),rfl⟩
 case round =>
  obtain⟨k,hk,rfl,HG,rfl⟩:=hrel;by_cases hlt:k<s.size
  · have hki:(k:Int)<(s.size:Int):=by omega
    obtain⟨a,ha⟩:∃a:Int,(s[k].toNat:Int)=a:=⟨_,rfl⟩;have ha1:0≤a∧a≤255:=by have:=s[k].toNat_lt;omega
    have HA:=ae ha;by_cases h32:a<32
    · have HB:=ae (SK s k hlt (by rw[ha];exact h32))
      go_wp2_with fail
      go_ret;exact⟨by rw[HB.o] <;> rfl,rfl⟩
    · go_wp2_with fail
      go_roundw
      case rel =>
       refine⟨k+1,by omega,by go_num,ae ?_,by first|rfl|trivial⟩;intro j hj hjk;by_cases e:j=k
       · subst e;rw[HA.o];exact h32
       · exact HG.o j hj (by omega)
      case measure=>simp[intOf];omega
  · have hki:¬ (k:Int)<(s.size:Int):=by omega
    have HB:=ae (SI s (fun j hj=>HG.o j hj (by omega)));go_wp2_with fail
    go_ret;exact⟨by rw[HB.o] <;> rfl,rfl⟩
theorem Tq (s1 s2:ByteArray)(c1 r1 c2 r2:Int)(a1 b1 a2 b2:Bool)(w:World) :
 Calls Tryz.prog 51 #[.agg #[.string s1,.int .i64 c1,.int .i64 r1,.bool a1,.bool b1],.agg #[.string s2,.int .i64 c2,.int .i64 r2,.bool a2,.bool b2]] w fun e w'=>e = .returned (.bool (eD ⟨s1,c1,r1,a1,b1⟩ ⟨s2,c2,r2,a2,b2⟩))∧Below w.heap.size w w':=by
 have hsz:(w.alloc (.cells #[.string s1,.int .i64 c1,.int .i64 r1,.bool a1,.bool b1] 43)).heap.size=w.heap.size+1:=by simp
 have h1:=bU.new w s1 c1 r1 a1 b1;have h2:=bU.new (w.alloc (.cells #[.string s1,.int .i64 c1,.int .i64 r1,.bool a1,.bool b1] 43)) s2 c2 r2 a2 b2;have h3:=h1.below ((ai _ _).alloc (ah _) (.cells #[.string s2,.int .i64 c2,.int .i64 r2,.bool a2,.bool b2] 43)) h1.lt;rw[hsz]at h2;have HB:=ae (((ai w.heap.size w).alloc (ah _) (.cells #[.string s1,.int .i64 c1,.int .i64 r1,.bool a1,.bool b1] 43)).alloc (by simp) (.cells #[.string s2,.int .i64 c2,.int .i64 r2,.bool a2,.bool b2] 43));have HS:=ae (show eD ⟨s1,c1,r1,a1,b1⟩ ⟨s2,c2,r2,a2,b2⟩=(decide (s2=⟨#[]⟩)&&(decide (c1≤c2)&&decide (r1≤r2)))from rfl);clear h1;go_enter Tryz.func51,Tryz.ntmps51;go_upto_region 1 with (fail)
 generalize (w.alloc (.cells #[.string s1,.int .i64 c1,.int .i64 r1,.bool a1,.bool b1] 43)).alloc (.cells #[.string s2,.int .i64 c2,.int .i64 r2,.bool a2,.bool b2] 43)=w1 at h2 h3 HB ⊢;obtain⟨x0,x1,x2,x3,x4⟩:=h2.facts;obtain⟨y0,y1,y2,y3,y4⟩:=h3.facts;clear h2 h3;by_cases hs:s2=⟨#[]⟩
 · subst hs
   have e0:=ow;by_cases hc:c1≤c2
   · by_cases hr:r1≤r2
     · have HT:=ae (show eD ⟨s1,c1,r1,a1,b1⟩ ⟨⟨#[]⟩,c2,r2,a2,b2⟩=true by rw[HS.o,decide_eq_true hc,decide_eq_true hr];rfl)
       go_wp2_with fail
       go_ret;exact⟨by rw[HT.o];rfl,HB.o⟩
     · have HT:=ae (show eD ⟨s1,c1,r1,a1,b1⟩ ⟨⟨#[]⟩,c2,r2,a2,b2⟩=false by rw[HS.o,decide_eq_true hc,decide_eq_false hr];rfl)
       go_wp2_with fail
       go_ret;exact⟨by rw[HT.o];rfl,HB.o⟩
   · have HT:=ae (show eD ⟨s1,c1,r1,a1,b1⟩ ⟨⟨#[]⟩,c2,r2,a2,b2⟩=false by rw[HS.o,decide_eq_false hc];rfl)
     go_wp2_with fail
     go_ret;exact⟨by rw[HT.o];rfl,HB.o⟩
 · have HT:=ae (show eD ⟨s1,c1,r1,a1,b1⟩ ⟨s2,c2,r2,a2,b2⟩=false by rw[HS.o,decide_eq_false hs];rfl)
   have e0:¬ s2.toList=[]:=by rw[← ow];exact pR _ _ hs
   have e1:s2.toList.isEmpty=false:=by simpa using e0
   clear hs;go_wp2_with fail
   go_ret;exact⟨by rw[HT.o];rfl,HB.o⟩
theorem Hm {P:Program}{α : Type}{size t e bytes:Nat}{w:World}{ops:Array Oper}{rest:List Oper}{o:Oper}{a:Act}{Q:Exit→Act→World→Prop}(bV:Elem P t e size bytes)(E:Enc α size)
 (hgd:o.guard=none) (s x:Operand) (ho:o.op = .call { callee := .builtin .append,args:=#[s,x],argTypes:=#[t,t] }) (ao:Option Addr) (n cap:Nat) (xs:List α)
 (hs:a.eval s = .slice ao n cap) (aae:ao=none→n=0∧cap=0) (hxl:xs.length=n) (hxs:∀b,ao=some b→∀(j:Nat)(u:Value),(E.all xs)[j]? = some u→w.cell? (b.add j)=some u)
 (ad:Addr) (m c:Nat) (ys:List α) (hx:a.eval x = .slice (some ad) m c) (hl:ys.length=m)
 (hc:∀(j:Nat)(u:Value),(E.all ys)[j]? = some u→w.cell? (ad.add j)=some u) (J5:cap<n+m) (hb:(n+m)*bytes≤140737488355328) (hb2:n+m≤maxLen)
 (h:∀(v':Value)(w':World),Own E e w' w.heap.size v' (xs++ys)→Below w.heap.size w w'→wpList P ops Q rest (a.put o.dst v') w'):wpList P ops Q (o :: rest) a w:=by
 obtain⟨z,hi,hz⟩:=bV.inf;obtain⟨i,hi1,hi2,hi3,hi4⟩:=info_parts hi;refine wpList_append_grows w hgd s x t ho e i z size bytes bV.und hi1 hi2 hi3 hi4 hz bV.pos ao n cap (E.all xs) hs aae (by rw[E.lU,hxl]) hxs ad m c (E.all ys) hx (by rw[E.lU,hl]) hc (E.xg ys) J5 hb2 hb ?_;intro v' w' h1 h2;refine h v' w' ?_ ?_
 · unfold Own;rw[E.all_append,ak,hxl,hl];exact h1
 · exact Below.grown (ai _ _) h2 (ah _) (fun k hk=>by cases hk)
theorem acW{n:Nd}:bX n=(aD n&&(decide (jh n.kind = -1)||decide (jh n.kind=n.kids.length))):=rfl
theorem Yw {st ks:List Int}{f j:Nat}{x:Int}(h:(st.drop f).take j=ks.take j)(hx:st[f+j]? = some x)(hy:ks[j]? = some x):(st.drop f).take (j+1)=ks.take (j+1) :=
 UG h (by rw[List.getElem?_drop];exact hx) hy
theorem Yv {st ks:List Int}{f j:Nat}{x y:Int}(hx:st[f+j]? = some x)(hy:ks[j]? = some y)(h:¬ x=y):¬ st.drop f=ks:=by
 intro e;have h1:(st.drop f)[j]? = some x:=by rw[List.getElem?_drop];exact hx
 rw[e,hy]at h1;exact h (dU h1).symm
theorem GA (k:Int)(w:World):Calls Tryz.prog 28 #[.int .i64 k] w fun e w'=>e = .returned (.int .i64 ((bz k:Nat)+1:Int))∧w=w':=by
 have fin:∀r:Nat,bz k=r→(Calls Tryz.prog 28 #[.int .i64 k] w fun e w'=>e = .returned (.int .i64 ((r:Int)+1))∧w=w')→Calls Tryz.prog 28 #[.int .i64 k] w fun e w'=>e = .returned (.int .i64 ((bz k:Nat)+1:Int))∧w=w':=fun r h1 h2=>by rw[h1];exact h2
 by_cases h:9≤k∧k≤14
 · obtain⟨h1,h2⟩:=h
   refine fin 0 (by unfold bz;rw[if_pos ⟨h1,h2⟩]) ?_;clear fin;go_enter Tryz.func28,Tryz.ntmps28;go_wp2_with fail
   go_ret;exact⟨rfl,rfl⟩
 by_cases uB:k=15
 · refine fin 1 (by subst uB;rfl) ?_
   clear fin;subst uB;go_enter Tryz.func28,Tryz.ntmps28;go_wp2_with fail
   go_ret;exact⟨rfl,rfl⟩
 by_cases h16:k=16
 · refine fin 2 (by subst h16;rfl) ?_
   clear fin;subst h16;go_enter Tryz.func28,Tryz.ntmps28;go_wp2_with fail
   go_ret;exact⟨rfl,rfl⟩
 by_cases wN:k=17
 · refine fin 2 (by subst wN;rfl) ?_
   clear fin;subst wN;go_enter Tryz.func28,Tryz.ntmps28;go_wp2_with fail
   go_ret;exact⟨rfl,rfl⟩
 by_cases h18:k=18
 · refine fin 3 (by subst h18;rfl) ?_
   clear fin;subst h18;go_enter Tryz.func28,Tryz.ntmps28;go_wp2_with fail
   go_ret;exact⟨rfl,rfl⟩
 by_cases h19:k=19
 · refine fin 3 (by subst h19;rfl) ?_
   clear fin;subst h19;go_enter Tryz.func28,Tryz.ntmps28;go_wp2_with fail
   go_ret;exact⟨rfl,rfl⟩
 by_cases h8:k=8
 · refine fin 4 (by subst h8;rfl) ?_
   clear fin;subst h8;go_enter Tryz.func28,Tryz.ntmps28;go_wp2_with fail
   go_ret;exact⟨rfl,rfl⟩
 refine fin 5 (by unfold bz;rw[if_neg h,if_neg uB,if_neg (by omega),if_neg (by omega),if_neg h8]) ?_;have e15:(k == 15)=false:=beq_eq_false_iff_ne.2 uB;have e16:(k == 16)=false:=beq_eq_false_iff_ne.2 h16;have e17:(k == 17)=false:=beq_eq_false_iff_ne.2 wN;have e18:(k == 18)=false:=beq_eq_false_iff_ne.2 h18;have e19:(k == 19)=false:=beq_eq_false_iff_ne.2 h19;have e8:(k == 8)=false:=beq_eq_false_iff_ne.2 h8;clear fin uB h16 wN h18 h19 h8;by_cases h9:9≤k
 · have CS:¬ k≤14:=by omega
   clear h;go_enter Tryz.func28,Tryz.ntmps28;go_wp2_with fail
   go_ret;exact⟨rfl,rfl⟩
 · clear h
   go_enter Tryz.func28,Tryz.ntmps28;go_wp2_with fail
   go_ret;exact⟨rfl,rfl⟩
theorem aeo (o:Nat)(ho:o<11)(w:World):Calls Tryz.prog 29 #[.int .i64 (9+(o:Int))] w fun e w'=>e = .returned (.string (jo.getD o ⟨#[]⟩))∧Below w.heap.size w w':=by
 have h:o=0∨o=1∨o=2∨o=3∨o=4∨o=5∨o=6∨o=7∨o=8∨o=9∨o=10:=by omega
 rcases h with rfl|rfl|rfl|rfl|rfl|rfl|rfl|rfl|rfl|rfl|rfl
 all_goals
  go_enter Tryz.func29,Tryz.ntmps29;go_wp2_with fail
  go_ret;exact⟨rfl,(ai _ _).alloc (ah _) _⟩
theorem adx (w:World)(base:Nat)(x:Int)(hb:base≤w.heap.size):Own (aK .u8) 5 (w.alloc (.cells #[.int .u8 x] 5)) base (.slice (some ⟨w.heap.size,0,none⟩) 1 1) [x] :=
 ⟨rfl,.inr ⟨w.heap.size,1,_,rfl,hb,(ko w _).1,ah _,by decide,rfl,rfl⟩⟩
theorem Yk(x:Int)(l:List Int):ek (x :: l)=(if x=34 then [34,34]else [x])++ek l:=rfl
theorem aeu (s:ByteArray)(w:World)(hs:s.size≤1000000000):Calls Tryz.prog 25 #[.string s] w fun e w'=>e = .returned (.string (strOfNums (34 :: (ek (sb s)++[34]))))∧Below w.heap.size w w':=by
 go_enter Tryz.func25,Tryz.ntmps25;go_upto_region 3 with (fail)
 go_loopw [3,4] (fun ov iv wr=>∃(i:Nat)(xs:List Int),i≤s.size∧xs.length≤1+2*i∧iv = .int .i64 (i:Int)∧Hid (xs++ek (aA s i)=34 :: ek (sb s))∧Hid (oW wr w.heap.size ov xs)∧Hid (Below w.heap.size w wr))
  (fun _ iv _=>s.size - (intOf iv).toNat)
 case atStart=>exact⟨0,[34],dV _,by simp,rfl,ae rfl,ae (adx w _ 34 (ah _)),ae ((ai _ _).alloc (ah _) _)⟩
 case round =>
  obtain⟨i,xs,hi,hxl,rfl,HD,HO,HB⟩:=hrel;by_cases hlt:i<s.size
  · have hii:(i:Int)<(s.size:Int):=by omega
    obtain⟨a,ha⟩:∃a:Int,(s[i].toNat:Int)=a:=⟨_,rfl⟩;have ha1:0≤a∧a≤255:=by have:=s[i].toNat_lt;omega
    have HR:=ae (show ek (aA s i)=(if a=34 then [34,34]else [a])++ek (aA s (i+1))by rw[mG s i hlt,Yk,ha]);by_cases df:a=34
    · have zx:(a == 34)=true:=beq_iff_eq.2 df
      have HX:=ae (show((xs++[34])++[a])++ek (aA s (i+1))=34 :: ek (sb s)by rw[← HD.o,HR.o,if_pos df,df];simp);clear df HD HR
      go_wp2_with (first
       | (at_builtin;refine nC Elem.u8 (aK .u8) rfl (.tmp 16) (.tmp 17) rfl w.heap.size _ _ rfl (HO.o.alloc _) ⟨_,0,none⟩ 1 1 [34] rfl rfl ?_ ?_ ?_ ?_ ?_;exact gQ _ _ _ rfl;(first|omega|(simp only[ak,aO,dI];omega));(unfold maxLen;first|omega|(simp only[ak,aO,dI];omega));(have:=HB.o.size;simp <;> omega);intro v1 w1 h1 h2;have fB:=ae h1;have HB1:=ae ((HB.o.alloc HB.o.size _).trans h2);clear h1 h2)
       | (at_builtin;refine nC Elem.u8 (aK .u8) rfl (.tmp 19) (.tmp 23) rfl w.heap.size _ _ rfl (fB.o.alloc _) ⟨_,0,none⟩ 1 1 [a] rfl rfl ?_ ?_ ?_ ?_ ?_;exact gQ _ _ _ rfl;(first|omega|(simp only[ak,aO,dI];omega));(unfold maxLen;first|omega|(simp only[ak,aO,dI];omega));(have:=HB1.o.size;simp <;> omega);intro v2 w2 h1 h2;have mO:=ae h1;have HB2:=ae ((HB1.o.alloc HB1.o.size _).trans h2);clear h1 h2))
      go_roundw
      case rel=>exact⟨i+1,_,by omega,by simp;omega,by go_num,HX,mO,HB2⟩
      case measure=>simp[intOf];omega
    · have zx:(a == 34)=false:=beq_eq_false_iff_ne.2 df
      have HX:=ae (show(xs++[a])++ek (aA s (i+1))=34 :: ek (sb s)by rw[← HD.o,HR.o,if_neg df];simp);clear df HD HR;go_wp2_with ((at_builtin;refine nC Elem.u8 (aK .u8) rfl (.tmp 19) (.tmp 23) rfl w.heap.size _ _ rfl (HO.o.alloc _) ⟨_,0,none⟩ 1 1 [a] rfl rfl ?_ ?_ ?_ ?_ ?_;exact gQ _ _ _ rfl;(first|omega|(simp only[ak,aO,dI];omega));(unfold maxLen;first|omega|(simp only[ak,aO,dI];omega));(have:=HB.o.size;simp <;> omega);intro v1 w1 h1 h2;have fB:=ae h1;have HB1:=ae ((HB.o.alloc HB.o.size _).trans h2);clear h1 h2))
      go_roundw
      case rel=>exact⟨i+1,_,by omega,by simp;omega,by go_num,HX,fB,HB1⟩
      case measure=>simp[intOf];omega
  · have hii:¬ (i:Int)<(s.size:Int):=by omega
    have HX:=ae (show xs++[34]=34 :: (ek (sb s)++[34])by
     have:=HD.o;rw[DJ s i (by omega)]at this;rw[show xs=34 :: ek (sb s)from(fM xs).symm.trans this];rfl)
    clear HD;go_wp2_with (at_builtin;refine nC Elem.u8 (aK .u8) rfl (.tmp 25) (.tmp 26) rfl w.heap.size _ _ rfl (HO.o.alloc _) ⟨_,0,none⟩ 1 1 [34] rfl rfl ?_ ?_ ?_ ?_ ?_;exact gQ _ _ _ rfl;(first|omega|(simp only[ak,aO,dI];omega));(unfold maxLen;first|omega|(simp only[ak,aO,dI];omega));(have:=HB.o.size;simp <;> omega);intro v1 w1 h1 h2;have fB:=ae h1;have HB1:=ae ((HB.o.alloc HB.o.size _).trans h2);clear h1 h2;have hcv:=BK fB.o)
    go_ret;exact⟨lX (congrArg strOfNums HX.o),HB1.o⟩
theorem Own.Md {w:World}{lo:Nat}{v:Value}{xs:List Int}(h:Own (aK .i64) 3 w lo v xs):ig w w.heap.size v xs:=by
 rcases h.shape with ⟨rfl,rfl⟩|⟨g,cap,rfl,h1,h2,h3,h4⟩
 · exact⟨none,0,rfl,ah _,by unfold maxLen;omega,.inl rfl⟩
 · refine⟨_,cap,rfl,h3,h4,.inr ⟨g,0,rfl,h2,fun j x hj => ?_⟩⟩
   rw[Nat.zero_add];have:=(aK .i64).at xs j 0 x hj (by omega);rw[Nat.mul_one,Nat.add_zero]at this;exact Own.cells h j _ (by rw[this];rfl)
theorem jI.sn {w:World}{lo g n cap:Nat}{vs:List az}(h:jI w lo (.slice (some ⟨g,0,none⟩) n cap) vs)(hn:vs.length=n):eF w w.heap.size (.slice (some ⟨g,0,none⟩) n cap) (vs.map fun v=>(v.n,v.aS)):=by
 refine⟨⟨_,cap,by rw[fw,hn],.inr ⟨g,0,rfl,(Own.jX h.1 g rfl).2.1,fun i nd k hi j hj => ?_⟩⟩, ?_⟩
 · rw[iw]at hi
   obtain⟨v,hv,e⟩:=Option.map_eq_some_iff.1 hi;injection e with e1 e2;subst e1;subst e2;rw[Nat.zero_add];exact h.cell i v hv j hj
 · intro p hp
   obtain⟨v,hv,rfl⟩:=List.mem_map.1 hp;exact(h.2 v hv).Md
theorem Mi(vs:List az):(vs.map fun v=>(v.n,v.aS)).map (·.1)=vs.map az.n:=by rw[List.map_map];rfl
theorem eF.sP {w:World}{B:Nat}{v:Value}{vs:List (Nd × Value)}(h:eF w B v vs):∃A cap,v = .slice A vs.length cap:=by
 obtain⟨⟨A,cap,h,_⟩,_⟩:=h;exact⟨A,cap,h⟩
theorem eF.cellAt {w:World}{B:Nat}{A:Option Addr}{L cap:Nat}{vs:List (Nd × Value)}(h:eF w B (.slice A L cap) vs){i:Nat}{n:Nd}{k:Value}(hi:vs[i]? = some (n,k)):ig w B k n.kids∧∃pb po,A=some ⟨pb,po,none⟩∧pb<B∧∀j,j<14→w.cell? ⟨pb,po+i*14+j,none⟩=(bJ n k).toList[j]? := by
 obtain⟨⟨A',oZ,h1,h2⟩,h3⟩:=h;injection h1 with e1 e2 e3;subst e1;refine⟨h3 _ (fu hi), ?_⟩;rcases h2 with rfl|⟨pb,po,e1,e2,e3⟩
 · simp at hi
 · exact⟨pb,po,e1,e2,e3 i n k hi⟩
structure nL (w:World)(v:Value)(l:List (Nd × Value))(ns:List Nd):Prop where
 sn:eF w w.heap.size v l
 map:l.map (·.1)=ns
 tree:bR ns=true
 few:l.length≤1000
 sizes:∀q∈l,q.1.text.size≤1000000∧q.1.ref.sh.size≤1000000∧q.1.af.sh.size≤1000000
 xe:∀q∈l,q.1.num≤9223372036854775807
theorem nL.node {w:World}{v:Value}{l:List (Nd × Value)}{ns:List Nd}(h:nL w v l ns){i:Nat}{n:Nd}{k:Value}(hi:l[i]? = some (n,k)):nodeAt ns (i:Int)=n∧i<ns.length:=by
 rw[← h.map];have hl:=(dW.1 hi).1;refine⟨?_,by rw[fw];exact hl⟩;unfold nodeAt;rw[show((i:Int)).toNat=i by omega,jG,iw,hi];rfl
theorem nL.leaf {w:World}{v:Value}{l:List (Nd × Value)}{ns:List Nd}(h:nL w v l ns){i:Nat}{n:Nd}{k:Value}(hi:l[i]? = some (n,k)):bX n=true:=by
 obtain⟨h1,h2⟩:=h.node hi;have:=(yK h.tree (i:=(i:Int)) (by omega) (by omega)).1;rw[h1]at this;exact this
def ShR(ns:List Nd)(i:Nat)(w1:World)(e:Ending)(w':World):Prop:=e = .returned (.string (strOfNums (bq ns (i:Int))))∧Below w1.heap.size w1 w'
theorem afU {w:World}{v:Value}{l:List (Nd × Value)}{ns:List Nd}(C:nL w v l ns)(i:Nat)(n:Nd)(k:Value)(hi:l[i]? = some (n,k))(hk:n.kind=1)(w1:World)(hb:Below w.heap.size w w1) :
 Calls Tryz.prog 15 #[v,.int .i64 (i:Int)] w1 (ShR ns i w1):=by
 obtain⟨gT,hil⟩:=C.node hi;have hlf:=C.leaf hi;have bW:=fu hi;have hll:i<l.length:=(dW.1 hi).1;obtain⟨hz1,hz2,hz3⟩:=(show n.text.size≤1000000∧n.ref.sh.size≤1000000∧n.af.sh.size≤1000000 from C.sizes _ bW);have bE:n.num≤9223372036854775807:=C.xe _ bW;have jZ:=C.few;have HC:=ae C;obtain⟨A,cap,rfl⟩:=C.sn.sP;obtain⟨hsk,pb,po,rfl,hpb,hcell⟩:=C.sn.cellAt hi;obtain⟨aN,ck,hkk,hkc,dn,iK⟩:=id hsk;obtain⟨m,hm⟩:∃m,n.kids.length=m:=⟨_,rfl⟩;rw[hm]at hkk hkc;subst hkk;obtain⟨nl,hnl⟩:∃nl,l.length=nl:=⟨_,rfl⟩;rw[hnl]at hll jZ ⊢;have hii:(i:Int)<(nl:Int):=by omega
 have hi0:(0:Int)≤(i:Int):=by omega
 have hmx:m≤9223372036854775807:=by unfold maxLen at dn;omega
 have HM:=ae hm;have iW:=ae hnl;have qU:=ae iK;have gq:=ae gT;have vg:=ae hlf;have xE:=ae hkc;have HB:=ae hb;have ll:=ae (uS C.tree (i:=(i:Int)) (by omega) (by omega) n gT);have k0:w1.cell? ⟨pb,po+i*14,none⟩=some (.int .i64 n.kind):=(hb.cell (p:=⟨pb,po+i*14,none⟩) hpb).trans (hcell 0 (by omega));have k1:w1.cell? ⟨pb,po+i*14+1,none⟩=some (.int .i64 n.num):=(hb.cell (p:=⟨pb,po+i*14+1,none⟩) hpb).trans (hcell 1 (by omega));have k2:w1.cell? ⟨pb,po+i*14+2,none⟩=some (.string n.text):=(hb.cell (p:=⟨pb,po+i*14+2,none⟩) hpb).trans (hcell 2 (by omega));have k3:w1.cell? ⟨pb,po+i*14+3,none⟩=some (.string n.ref.sh):=(hb.cell (p:=⟨pb,po+i*14+3,none⟩) hpb).trans (hcell 3 (by omega));have k4:w1.cell? ⟨pb,po+i*14+4,none⟩=some (.int .i64 n.ref.c):=(hb.cell (p:=⟨pb,po+i*14+4,none⟩) hpb).trans (hcell 4 (by omega));have k5:w1.cell? ⟨pb,po+i*14+5,none⟩=some (.int .i64 n.ref.r):=(hb.cell (p:=⟨pb,po+i*14+5,none⟩) hpb).trans (hcell 5 (by omega));have k6:w1.cell? ⟨pb,po+i*14+6,none⟩=some (.bool n.ref.ac):=(hb.cell (p:=⟨pb,po+i*14+6,none⟩) hpb).trans (hcell 6 (by omega));have k7:w1.cell? ⟨pb,po+i*14+7,none⟩=some (.bool n.ref.ar):=(hb.cell (p:=⟨pb,po+i*14+7,none⟩) hpb).trans (hcell 7 (by omega));have k8:w1.cell? ⟨pb,po+i*14+8,none⟩=some (.string n.af.sh):=(hb.cell (p:=⟨pb,po+i*14+8,none⟩) hpb).trans (hcell 8 (by omega));have k9:w1.cell? ⟨pb,po+i*14+9,none⟩=some (.int .i64 n.af.c):=(hb.cell (p:=⟨pb,po+i*14+9,none⟩) hpb).trans (hcell 9 (by omega));have k10:w1.cell? ⟨pb,po+i*14+10,none⟩=some (.int .i64 n.af.r):=(hb.cell (p:=⟨pb,po+i*14+10,none⟩) hpb).trans (hcell 10 (by omega));have k11:w1.cell? ⟨pb,po+i*14+11,none⟩=some (.bool n.af.ac):=(hb.cell (p:=⟨pb,po+i*14+11,none⟩) hpb).trans (hcell 11 (by omega));have k12:w1.cell? ⟨pb,po+i*14+12,none⟩=some (.bool n.af.ar):=(hb.cell (p:=⟨pb,po+i*14+12,none⟩) hpb).trans (hcell 12 (by omega));have k13:w1.cell? ⟨pb,po+i*14+13,none⟩=some (.slice aN m ck):=(hb.cell (p:=⟨pb,po+i*14+13,none⟩) hpb).trans (hcell 13 (by omega));have HK:=ae hk;obtain⟨u,hu⟩:∃u:Nat,n.num=(u:Int):=⟨n.num.toNat,by have:=abz (qg hlf).2.2.2.2.2 hk;omega⟩;have HT:=ae (show bq ns (i:Int)=aQ u by rw[ll.o,if_pos hk,hu];rfl);have HU:=ae hu;have Kt:u≤9223372036854775807:=by omega
 clear hu;clear hk;have hB3:Below w1.heap.size w1 (w1.alloc (.cells #[.int .i64 n.kind,.int .i64 n.num,.string n.text,.string n.ref.sh,.int .i64 n.ref.c,.int .i64 n.ref.r,.bool n.ref.ac,.bool n.ref.ar,.string n.af.sh,.int .i64 n.af.c,.int .i64 n.af.r,.bool n.af.ac,.bool n.af.ar,.slice aN m ck] 45)):=(ai _ _).alloc (ah _) _;have aB:ax (w1.alloc (.cells #[.int .i64 n.kind,.int .i64 n.num,.string n.text,.string n.ref.sh,.int .i64 n.ref.c,.int .i64 n.ref.r,.bool n.ref.ac,.bool n.ref.ar,.string n.af.sh,.int .i64 n.af.c,.int .i64 n.af.r,.bool n.af.ac,.bool n.af.ar,.slice aN m ck] 45)) w1.heap.size n (.slice aN m ck):=ax.new w1 n _;have HB3:=ae hB3;clear hB3 C hi bW hcell iK hkc dn hm hnl gT hlf hsk hb;go_enter Tryz.func15,Tryz.ntmps15;go_upto_region 2 with (fail)
 generalize hb3:w1.heap.size=b3 at aB ⊢;generalize w1.alloc (.cells #[.int .i64 n.kind,.int .i64 n.num,.string n.text,.string n.ref.sh,.int .i64 n.ref.c,.int .i64 n.ref.r,.bool n.ref.ac,.bool n.ref.ar,.string n.af.sh,.int .i64 n.af.c,.int .i64 n.af.r,.bool n.af.ac,.bool n.af.ar,.slice aN m ck] 45)=w3 at aB HB3 ⊢;clear hb3 k0 k1 k2 k3 k4 k5 k6 k7 k8 k9 k10 k11 k12 k13;obtain⟨x0,x1,x2,x3,x4,x5,x6,x7,av,aJ,aG,aH,aI,aF⟩:=aB.cells;have hb3:=aB.lt;have aB:=ae aB;have hk:=HK.o;have e1:(n.kind == 1)=true:=by rw[hk];rfl
 clear hk;rw[HU.o]at x1;have HD:=ae (fun w=>vU u Kt w);go_wp2_with (go_at_call 16;((with_reducible refine(HD.o _).mono ?_);rintro e w4 ⟨rfl,h1⟩;have dJ:=ae (HB3.o.trans (h1.mono HB3.o.size));clear h1))
 go_ret;exact⟨by rw[HT.o] <;> rfl,dJ.o⟩
theorem afV {w:World}{v:Value}{l:List (Nd × Value)}{ns:List Nd}(C:nL w v l ns)(i:Nat)(n:Nd)(k:Value)(hi:l[i]? = some (n,k))(hk:n.kind=2)(w1:World)(hb:Below w.heap.size w w1) :
 Calls Tryz.prog 15 #[v,.int .i64 (i:Int)] w1 (ShR ns i w1):=by
 obtain⟨gT,hil⟩:=C.node hi;have hlf:=C.leaf hi;have bW:=fu hi;have hll:i<l.length:=(dW.1 hi).1;obtain⟨hz1,hz2,hz3⟩:=(show n.text.size≤1000000∧n.ref.sh.size≤1000000∧n.af.sh.size≤1000000 from C.sizes _ bW);have bE:n.num≤9223372036854775807:=C.xe _ bW;have jZ:=C.few;have HC:=ae C;obtain⟨A,cap,rfl⟩:=C.sn.sP;obtain⟨hsk,pb,po,rfl,hpb,hcell⟩:=C.sn.cellAt hi;obtain⟨aN,ck,hkk,hkc,dn,iK⟩:=id hsk;obtain⟨m,hm⟩:∃m,n.kids.length=m:=⟨_,rfl⟩;rw[hm]at hkk hkc;subst hkk;obtain⟨nl,hnl⟩:∃nl,l.length=nl:=⟨_,rfl⟩;rw[hnl]at hll jZ ⊢;have hii:(i:Int)<(nl:Int):=by omega
 have hi0:(0:Int)≤(i:Int):=by omega
 have hmx:m≤9223372036854775807:=by unfold maxLen at dn;omega
 have HM:=ae hm;have iW:=ae hnl;have qU:=ae iK;have gq:=ae gT;have vg:=ae hlf;have xE:=ae hkc;have HB:=ae hb;have ll:=ae (uS C.tree (i:=(i:Int)) (by omega) (by omega) n gT);have k0:w1.cell? ⟨pb,po+i*14,none⟩=some (.int .i64 n.kind):=(hb.cell (p:=⟨pb,po+i*14,none⟩) hpb).trans (hcell 0 (by omega));have k1:w1.cell? ⟨pb,po+i*14+1,none⟩=some (.int .i64 n.num):=(hb.cell (p:=⟨pb,po+i*14+1,none⟩) hpb).trans (hcell 1 (by omega));have k2:w1.cell? ⟨pb,po+i*14+2,none⟩=some (.string n.text):=(hb.cell (p:=⟨pb,po+i*14+2,none⟩) hpb).trans (hcell 2 (by omega));have k3:w1.cell? ⟨pb,po+i*14+3,none⟩=some (.string n.ref.sh):=(hb.cell (p:=⟨pb,po+i*14+3,none⟩) hpb).trans (hcell 3 (by omega));have k4:w1.cell? ⟨pb,po+i*14+4,none⟩=some (.int .i64 n.ref.c):=(hb.cell (p:=⟨pb,po+i*14+4,none⟩) hpb).trans (hcell 4 (by omega));have k5:w1.cell? ⟨pb,po+i*14+5,none⟩=some (.int .i64 n.ref.r):=(hb.cell (p:=⟨pb,po+i*14+5,none⟩) hpb).trans (hcell 5 (by omega));have k6:w1.cell? ⟨pb,po+i*14+6,none⟩=some (.bool n.ref.ac):=(hb.cell (p:=⟨pb,po+i*14+6,none⟩) hpb).trans (hcell 6 (by omega));have k7:w1.cell? ⟨pb,po+i*14+7,none⟩=some (.bool n.ref.ar):=(hb.cell (p:=⟨pb,po+i*14+7,none⟩) hpb).trans (hcell 7 (by omega));have k8:w1.cell? ⟨pb,po+i*14+8,none⟩=some (.string n.af.sh):=(hb.cell (p:=⟨pb,po+i*14+8,none⟩) hpb).trans (hcell 8 (by omega));have k9:w1.cell? ⟨pb,po+i*14+9,none⟩=some (.int .i64 n.af.c):=(hb.cell (p:=⟨pb,po+i*14+9,none⟩) hpb).trans (hcell 9 (by omega));have k10:w1.cell? ⟨pb,po+i*14+10,none⟩=some (.int .i64 n.af.r):=(hb.cell (p:=⟨pb,po+i*14+10,none⟩) hpb).trans (hcell 10 (by omega));have k11:w1.cell? ⟨pb,po+i*14+11,none⟩=some (.bool n.af.ac):=(hb.cell (p:=⟨pb,po+i*14+11,none⟩) hpb).trans (hcell 11 (by omega));have k12:w1.cell? ⟨pb,po+i*14+12,none⟩=some (.bool n.af.ar):=(hb.cell (p:=⟨pb,po+i*14+12,none⟩) hpb).trans (hcell 12 (by omega));have k13:w1.cell? ⟨pb,po+i*14+13,none⟩=some (.slice aN m ck):=(hb.cell (p:=⟨pb,po+i*14+13,none⟩) hpb).trans (hcell 13 (by omega));have HK:=ae hk;have HT:=ae (show bq ns (i:Int)=34 :: (ek (sb n.text)++[34])by rw[ll.o,if_neg (by omega),if_pos hk]);clear hk;have hB3:Below w1.heap.size w1 (w1.alloc (.cells #[.int .i64 n.kind,.int .i64 n.num,.string n.text,.string n.ref.sh,.int .i64 n.ref.c,.int .i64 n.ref.r,.bool n.ref.ac,.bool n.ref.ar,.string n.af.sh,.int .i64 n.af.c,.int .i64 n.af.r,.bool n.af.ac,.bool n.af.ar,.slice aN m ck] 45)):=(ai _ _).alloc (ah _) _;have aB:ax (w1.alloc (.cells #[.int .i64 n.kind,.int .i64 n.num,.string n.text,.string n.ref.sh,.int .i64 n.ref.c,.int .i64 n.ref.r,.bool n.ref.ac,.bool n.ref.ar,.string n.af.sh,.int .i64 n.af.c,.int .i64 n.af.r,.bool n.af.ac,.bool n.af.ar,.slice aN m ck] 45)) w1.heap.size n (.slice aN m ck):=ax.new w1 n _;have HB3:=ae hB3;clear hB3 C hi bW hcell iK hkc dn hm hnl gT hlf hsk hb;go_enter Tryz.func15,Tryz.ntmps15;go_upto_region 2 with (fail)
 generalize hb3:w1.heap.size=b3 at aB ⊢;generalize w1.alloc (.cells #[.int .i64 n.kind,.int .i64 n.num,.string n.text,.string n.ref.sh,.int .i64 n.ref.c,.int .i64 n.ref.r,.bool n.ref.ac,.bool n.ref.ar,.string n.af.sh,.int .i64 n.af.c,.int .i64 n.af.r,.bool n.af.ac,.bool n.af.ar,.slice aN m ck] 45)=w3 at aB HB3 ⊢;clear hb3 k0 k1 k2 k3 k4 k5 k6 k7 k8 k9 k10 k11 k12 k13;obtain⟨x0,x1,x2,x3,x4,x5,x6,x7,av,aJ,aG,aH,aI,aF⟩:=aB.cells;have hb3:=aB.lt;have aB:=ae aB;have hk:=HK.o;have e1:(n.kind == 1)=false:=by rw[hk];rfl
 have e2:(n.kind == 2)=true:=by rw[hk];rfl
 clear hk;have HD:=ae (fun w=>aeu n.text w (by omega));go_wp2_with (go_at_call 25;((with_reducible refine(HD.o _).mono ?_);rintro e w4 ⟨rfl,h1⟩;have dJ:=ae (HB3.o.trans (h1.mono HB3.o.size));clear h1))
 go_ret;exact⟨by rw[HT.o] <;> rfl,dJ.o⟩
theorem afW {w:World}{v:Value}{l:List (Nd × Value)}{ns:List Nd}(C:nL w v l ns)(i:Nat)(n:Nd)(k:Value)(hi:l[i]? = some (n,k))(hk:n.kind=3)(w1:World)(hb:Below w.heap.size w w1) :
 Calls Tryz.prog 15 #[v,.int .i64 (i:Int)] w1 (ShR ns i w1):=by
 obtain⟨gT,hil⟩:=C.node hi;have hlf:=C.leaf hi;have bW:=fu hi;have hll:i<l.length:=(dW.1 hi).1;obtain⟨hz1,hz2,hz3⟩:=(show n.text.size≤1000000∧n.ref.sh.size≤1000000∧n.af.sh.size≤1000000 from C.sizes _ bW);have bE:n.num≤9223372036854775807:=C.xe _ bW;have jZ:=C.few;have HC:=ae C;obtain⟨A,cap,rfl⟩:=C.sn.sP;obtain⟨hsk,pb,po,rfl,hpb,hcell⟩:=C.sn.cellAt hi;obtain⟨aN,ck,hkk,hkc,dn,iK⟩:=id hsk;obtain⟨m,hm⟩:∃m,n.kids.length=m:=⟨_,rfl⟩;rw[hm]at hkk hkc;subst hkk;obtain⟨nl,hnl⟩:∃nl,l.length=nl:=⟨_,rfl⟩;rw[hnl]at hll jZ ⊢;have hii:(i:Int)<(nl:Int):=by omega
 have hi0:(0:Int)≤(i:Int):=by omega
 have hmx:m≤9223372036854775807:=by unfold maxLen at dn;omega
 have HM:=ae hm;have iW:=ae hnl;have qU:=ae iK;have gq:=ae gT;have vg:=ae hlf;have xE:=ae hkc;have HB:=ae hb;have ll:=ae (uS C.tree (i:=(i:Int)) (by omega) (by omega) n gT);have k0:w1.cell? ⟨pb,po+i*14,none⟩=some (.int .i64 n.kind):=(hb.cell (p:=⟨pb,po+i*14,none⟩) hpb).trans (hcell 0 (by omega));have k1:w1.cell? ⟨pb,po+i*14+1,none⟩=some (.int .i64 n.num):=(hb.cell (p:=⟨pb,po+i*14+1,none⟩) hpb).trans (hcell 1 (by omega));have k2:w1.cell? ⟨pb,po+i*14+2,none⟩=some (.string n.text):=(hb.cell (p:=⟨pb,po+i*14+2,none⟩) hpb).trans (hcell 2 (by omega));have k3:w1.cell? ⟨pb,po+i*14+3,none⟩=some (.string n.ref.sh):=(hb.cell (p:=⟨pb,po+i*14+3,none⟩) hpb).trans (hcell 3 (by omega));have k4:w1.cell? ⟨pb,po+i*14+4,none⟩=some (.int .i64 n.ref.c):=(hb.cell (p:=⟨pb,po+i*14+4,none⟩) hpb).trans (hcell 4 (by omega));have k5:w1.cell? ⟨pb,po+i*14+5,none⟩=some (.int .i64 n.ref.r):=(hb.cell (p:=⟨pb,po+i*14+5,none⟩) hpb).trans (hcell 5 (by omega));have k6:w1.cell? ⟨pb,po+i*14+6,none⟩=some (.bool n.ref.ac):=(hb.cell (p:=⟨pb,po+i*14+6,none⟩) hpb).trans (hcell 6 (by omega));have k7:w1.cell? ⟨pb,po+i*14+7,none⟩=some (.bool n.ref.ar):=(hb.cell (p:=⟨pb,po+i*14+7,none⟩) hpb).trans (hcell 7 (by omega));have k8:w1.cell? ⟨pb,po+i*14+8,none⟩=some (.string n.af.sh):=(hb.cell (p:=⟨pb,po+i*14+8,none⟩) hpb).trans (hcell 8 (by omega));have k9:w1.cell? ⟨pb,po+i*14+9,none⟩=some (.int .i64 n.af.c):=(hb.cell (p:=⟨pb,po+i*14+9,none⟩) hpb).trans (hcell 9 (by omega));have k10:w1.cell? ⟨pb,po+i*14+10,none⟩=some (.int .i64 n.af.r):=(hb.cell (p:=⟨pb,po+i*14+10,none⟩) hpb).trans (hcell 10 (by omega));have k11:w1.cell? ⟨pb,po+i*14+11,none⟩=some (.bool n.af.ac):=(hb.cell (p:=⟨pb,po+i*14+11,none⟩) hpb).trans (hcell 11 (by omega));have k12:w1.cell? ⟨pb,po+i*14+12,none⟩=some (.bool n.af.ar):=(hb.cell (p:=⟨pb,po+i*14+12,none⟩) hpb).trans (hcell 12 (by omega));have k13:w1.cell? ⟨pb,po+i*14+13,none⟩=some (.slice aN m ck):=(hb.cell (p:=⟨pb,po+i*14+13,none⟩) hpb).trans (hcell 13 (by omega));have HK:=ae hk;have HT:=ae (show bq ns (i:Int)=(if n.num=1 then [84,82,85,69]else [70,65,76,83,69])by rw[ll.o,if_neg (by omega),if_neg (by omega),if_pos hk]);clear hk;have hB3:Below w1.heap.size w1 (w1.alloc (.cells #[.int .i64 n.kind,.int .i64 n.num,.string n.text,.string n.ref.sh,.int .i64 n.ref.c,.int .i64 n.ref.r,.bool n.ref.ac,.bool n.ref.ar,.string n.af.sh,.int .i64 n.af.c,.int .i64 n.af.r,.bool n.af.ac,.bool n.af.ar,.slice aN m ck] 45)):=(ai _ _).alloc (ah _) _;have aB:ax (w1.alloc (.cells #[.int .i64 n.kind,.int .i64 n.num,.string n.text,.string n.ref.sh,.int .i64 n.ref.c,.int .i64 n.ref.r,.bool n.ref.ac,.bool n.ref.ar,.string n.af.sh,.int .i64 n.af.c,.int .i64 n.af.r,.bool n.af.ac,.bool n.af.ar,.slice aN m ck] 45)) w1.heap.size n (.slice aN m ck):=ax.new w1 n _;have HB3:=ae hB3;clear hB3 C hi bW hcell iK hkc dn hm hnl gT hlf hsk hb;go_enter Tryz.func15,Tryz.ntmps15;go_upto_region 2 with (fail)
 generalize hb3:w1.heap.size=b3 at aB ⊢;generalize w1.alloc (.cells #[.int .i64 n.kind,.int .i64 n.num,.string n.text,.string n.ref.sh,.int .i64 n.ref.c,.int .i64 n.ref.r,.bool n.ref.ac,.bool n.ref.ar,.string n.af.sh,.int .i64 n.af.c,.int .i64 n.af.r,.bool n.af.ac,.bool n.af.ar,.slice aN m ck] 45)=w3 at aB HB3 ⊢;clear hb3 k0 k1 k2 k3 k4 k5 k6 k7 k8 k9 k10 k11 k12 k13;obtain⟨x0,x1,x2,x3,x4,x5,x6,x7,av,aJ,aG,aH,aI,aF⟩:=aB.cells;have hb3:=aB.lt;have aB:=ae aB;have hk:=HK.o;have e1:(n.kind == 1)=false:=by rw[hk];rfl
 have e2:(n.kind == 2)=false:=by rw[hk];rfl
 have e3:(n.kind == 3)=true:=by rw[hk];rfl
 clear hk;by_cases h1:n.num=1
 · have g1:(n.num == 1)=true:=beq_iff_eq.2 h1
   have HT2:=ae (show(⟨#[84,82,85,69]⟩:ByteArray)=strOfNums (bq ns (i:Int))by rw[HT.o,if_pos h1];decide);clear h1;go_wp2_with fail
   go_ret;exact⟨lX HT2.o,HB3.o⟩
 · have g1:(n.num == 1)=false:=beq_eq_false_iff_ne.2 h1
   have HT2:=ae (show(⟨#[70,65,76,83,69]⟩:ByteArray)=strOfNums (bq ns (i:Int))by rw[HT.o,if_neg h1];decide);clear h1;go_wp2_with fail
   go_ret;exact⟨lX HT2.o,HB3.o⟩
theorem afX {w:World}{v:Value}{l:List (Nd × Value)}{ns:List Nd}(C:nL w v l ns)(i:Nat)(n:Nd)(k:Value)(hi:l[i]? = some (n,k))(hk:n.kind=4)(w1:World)(hb:Below w.heap.size w w1) :
 Calls Tryz.prog 15 #[v,.int .i64 (i:Int)] w1 (ShR ns i w1):=by
 obtain⟨gT,hil⟩:=C.node hi;have hlf:=C.leaf hi;have bW:=fu hi;have hll:i<l.length:=(dW.1 hi).1;obtain⟨hz1,hz2,hz3⟩:=(show n.text.size≤1000000∧n.ref.sh.size≤1000000∧n.af.sh.size≤1000000 from C.sizes _ bW);have bE:n.num≤9223372036854775807:=C.xe _ bW;have jZ:=C.few;have HC:=ae C;obtain⟨A,cap,rfl⟩:=C.sn.sP;obtain⟨hsk,pb,po,rfl,hpb,hcell⟩:=C.sn.cellAt hi;obtain⟨aN,ck,hkk,hkc,dn,iK⟩:=id hsk;obtain⟨m,hm⟩:∃m,n.kids.length=m:=⟨_,rfl⟩;rw[hm]at hkk hkc;subst hkk;obtain⟨nl,hnl⟩:∃nl,l.length=nl:=⟨_,rfl⟩;rw[hnl]at hll jZ ⊢;have hii:(i:Int)<(nl:Int):=by omega
 have hi0:(0:Int)≤(i:Int):=by omega
 have hmx:m≤9223372036854775807:=by unfold maxLen at dn;omega
 have HM:=ae hm;have iW:=ae hnl;have qU:=ae iK;have gq:=ae gT;have vg:=ae hlf;have xE:=ae hkc;have HB:=ae hb;have ll:=ae (uS C.tree (i:=(i:Int)) (by omega) (by omega) n gT);have k0:w1.cell? ⟨pb,po+i*14,none⟩=some (.int .i64 n.kind):=(hb.cell (p:=⟨pb,po+i*14,none⟩) hpb).trans (hcell 0 (by omega));have k1:w1.cell? ⟨pb,po+i*14+1,none⟩=some (.int .i64 n.num):=(hb.cell (p:=⟨pb,po+i*14+1,none⟩) hpb).trans (hcell 1 (by omega));have k2:w1.cell? ⟨pb,po+i*14+2,none⟩=some (.string n.text):=(hb.cell (p:=⟨pb,po+i*14+2,none⟩) hpb).trans (hcell 2 (by omega));have k3:w1.cell? ⟨pb,po+i*14+3,none⟩=some (.string n.ref.sh):=(hb.cell (p:=⟨pb,po+i*14+3,none⟩) hpb).trans (hcell 3 (by omega));have k4:w1.cell? ⟨pb,po+i*14+4,none⟩=some (.int .i64 n.ref.c):=(hb.cell (p:=⟨pb,po+i*14+4,none⟩) hpb).trans (hcell 4 (by omega));have k5:w1.cell? ⟨pb,po+i*14+5,none⟩=some (.int .i64 n.ref.r):=(hb.cell (p:=⟨pb,po+i*14+5,none⟩) hpb).trans (hcell 5 (by omega));have k6:w1.cell? ⟨pb,po+i*14+6,none⟩=some (.bool n.ref.ac):=(hb.cell (p:=⟨pb,po+i*14+6,none⟩) hpb).trans (hcell 6 (by omega));have k7:w1.cell? ⟨pb,po+i*14+7,none⟩=some (.bool n.ref.ar):=(hb.cell (p:=⟨pb,po+i*14+7,none⟩) hpb).trans (hcell 7 (by omega));have k8:w1.cell? ⟨pb,po+i*14+8,none⟩=some (.string n.af.sh):=(hb.cell (p:=⟨pb,po+i*14+8,none⟩) hpb).trans (hcell 8 (by omega));have k9:w1.cell? ⟨pb,po+i*14+9,none⟩=some (.int .i64 n.af.c):=(hb.cell (p:=⟨pb,po+i*14+9,none⟩) hpb).trans (hcell 9 (by omega));have k10:w1.cell? ⟨pb,po+i*14+10,none⟩=some (.int .i64 n.af.r):=(hb.cell (p:=⟨pb,po+i*14+10,none⟩) hpb).trans (hcell 10 (by omega));have k11:w1.cell? ⟨pb,po+i*14+11,none⟩=some (.bool n.af.ac):=(hb.cell (p:=⟨pb,po+i*14+11,none⟩) hpb).trans (hcell 11 (by omega));have k12:w1.cell? ⟨pb,po+i*14+12,none⟩=some (.bool n.af.ar):=(hb.cell (p:=⟨pb,po+i*14+12,none⟩) hpb).trans (hcell 12 (by omega));have k13:w1.cell? ⟨pb,po+i*14+13,none⟩=some (.slice aN m ck):=(hb.cell (p:=⟨pb,po+i*14+13,none⟩) hpb).trans (hcell 13 (by omega));have HK:=ae hk;have HT:=ae (show(⟨#[35,82,69,70,33]⟩:ByteArray)=strOfNums (bq ns (i:Int))by rw[ll.o,if_neg (by omega),if_neg (by omega),if_neg (by omega),if_pos hk];decide);clear hk;have hB3:Below w1.heap.size w1 (w1.alloc (.cells #[.int .i64 n.kind,.int .i64 n.num,.string n.text,.string n.ref.sh,.int .i64 n.ref.c,.int .i64 n.ref.r,.bool n.ref.ac,.bool n.ref.ar,.string n.af.sh,.int .i64 n.af.c,.int .i64 n.af.r,.bool n.af.ac,.bool n.af.ar,.slice aN m ck] 45)):=(ai _ _).alloc (ah _) _;have aB:ax (w1.alloc (.cells #[.int .i64 n.kind,.int .i64 n.num,.string n.text,.string n.ref.sh,.int .i64 n.ref.c,.int .i64 n.ref.r,.bool n.ref.ac,.bool n.ref.ar,.string n.af.sh,.int .i64 n.af.c,.int .i64 n.af.r,.bool n.af.ac,.bool n.af.ar,.slice aN m ck] 45)) w1.heap.size n (.slice aN m ck):=ax.new w1 n _;have HB3:=ae hB3;clear hB3 C hi bW hcell iK hkc dn hm hnl gT hlf hsk hb;go_enter Tryz.func15,Tryz.ntmps15;go_upto_region 2 with (fail)
 generalize hb3:w1.heap.size=b3 at aB ⊢;generalize w1.alloc (.cells #[.int .i64 n.kind,.int .i64 n.num,.string n.text,.string n.ref.sh,.int .i64 n.ref.c,.int .i64 n.ref.r,.bool n.ref.ac,.bool n.ref.ar,.string n.af.sh,.int .i64 n.af.c,.int .i64 n.af.r,.bool n.af.ac,.bool n.af.ar,.slice aN m ck] 45)=w3 at aB HB3 ⊢;clear hb3 k0 k1 k2 k3 k4 k5 k6 k7 k8 k9 k10 k11 k12 k13;obtain⟨x0,x1,x2,x3,x4,x5,x6,x7,av,aJ,aG,aH,aI,aF⟩:=aB.cells;have hb3:=aB.lt;have aB:=ae aB;have hk:=HK.o;have e1:(n.kind == 1)=false:=by rw[hk];rfl
 have e2:(n.kind == 2)=false:=by rw[hk];rfl
 have e3:(n.kind == 3)=false:=by rw[hk];rfl
 have e4:(n.kind == 4)=true:=by rw[hk];rfl
 clear hk;go_wp2_with fail
 go_ret;exact⟨lX HT.o,HB3.o⟩
theorem afY {w:World}{v:Value}{l:List (Nd × Value)}{ns:List Nd}(C:nL w v l ns)(i:Nat)(n:Nd)(k:Value)(hi:l[i]? = some (n,k))(hk:n.kind=5)(w1:World)(hb:Below w.heap.size w w1) :
 Calls Tryz.prog 15 #[v,.int .i64 (i:Int)] w1 (ShR ns i w1):=by
 obtain⟨gT,hil⟩:=C.node hi;have hlf:=C.leaf hi;have bW:=fu hi;have hll:i<l.length:=(dW.1 hi).1;obtain⟨hz1,hz2,hz3⟩:=(show n.text.size≤1000000∧n.ref.sh.size≤1000000∧n.af.sh.size≤1000000 from C.sizes _ bW);have bE:n.num≤9223372036854775807:=C.xe _ bW;have jZ:=C.few;have HC:=ae C;obtain⟨A,cap,rfl⟩:=C.sn.sP;obtain⟨hsk,pb,po,rfl,hpb,hcell⟩:=C.sn.cellAt hi;obtain⟨aN,ck,hkk,hkc,dn,iK⟩:=id hsk;obtain⟨m,hm⟩:∃m,n.kids.length=m:=⟨_,rfl⟩;rw[hm]at hkk hkc;subst hkk;obtain⟨nl,hnl⟩:∃nl,l.length=nl:=⟨_,rfl⟩;rw[hnl]at hll jZ ⊢;have hii:(i:Int)<(nl:Int):=by omega
 have hi0:(0:Int)≤(i:Int):=by omega
 have hmx:m≤9223372036854775807:=by unfold maxLen at dn;omega
 have HM:=ae hm;have iW:=ae hnl;have qU:=ae iK;have gq:=ae gT;have vg:=ae hlf;have xE:=ae hkc;have HB:=ae hb;have ll:=ae (uS C.tree (i:=(i:Int)) (by omega) (by omega) n gT);have k0:w1.cell? ⟨pb,po+i*14,none⟩=some (.int .i64 n.kind):=(hb.cell (p:=⟨pb,po+i*14,none⟩) hpb).trans (hcell 0 (by omega));have k1:w1.cell? ⟨pb,po+i*14+1,none⟩=some (.int .i64 n.num):=(hb.cell (p:=⟨pb,po+i*14+1,none⟩) hpb).trans (hcell 1 (by omega));have k2:w1.cell? ⟨pb,po+i*14+2,none⟩=some (.string n.text):=(hb.cell (p:=⟨pb,po+i*14+2,none⟩) hpb).trans (hcell 2 (by omega));have k3:w1.cell? ⟨pb,po+i*14+3,none⟩=some (.string n.ref.sh):=(hb.cell (p:=⟨pb,po+i*14+3,none⟩) hpb).trans (hcell 3 (by omega));have k4:w1.cell? ⟨pb,po+i*14+4,none⟩=some (.int .i64 n.ref.c):=(hb.cell (p:=⟨pb,po+i*14+4,none⟩) hpb).trans (hcell 4 (by omega));have k5:w1.cell? ⟨pb,po+i*14+5,none⟩=some (.int .i64 n.ref.r):=(hb.cell (p:=⟨pb,po+i*14+5,none⟩) hpb).trans (hcell 5 (by omega));have k6:w1.cell? ⟨pb,po+i*14+6,none⟩=some (.bool n.ref.ac):=(hb.cell (p:=⟨pb,po+i*14+6,none⟩) hpb).trans (hcell 6 (by omega));have k7:w1.cell? ⟨pb,po+i*14+7,none⟩=some (.bool n.ref.ar):=(hb.cell (p:=⟨pb,po+i*14+7,none⟩) hpb).trans (hcell 7 (by omega));have k8:w1.cell? ⟨pb,po+i*14+8,none⟩=some (.string n.af.sh):=(hb.cell (p:=⟨pb,po+i*14+8,none⟩) hpb).trans (hcell 8 (by omega));have k9:w1.cell? ⟨pb,po+i*14+9,none⟩=some (.int .i64 n.af.c):=(hb.cell (p:=⟨pb,po+i*14+9,none⟩) hpb).trans (hcell 9 (by omega));have k10:w1.cell? ⟨pb,po+i*14+10,none⟩=some (.int .i64 n.af.r):=(hb.cell (p:=⟨pb,po+i*14+10,none⟩) hpb).trans (hcell 10 (by omega));have k11:w1.cell? ⟨pb,po+i*14+11,none⟩=some (.bool n.af.ac):=(hb.cell (p:=⟨pb,po+i*14+11,none⟩) hpb).trans (hcell 11 (by omega));have k12:w1.cell? ⟨pb,po+i*14+12,none⟩=some (.bool n.af.ar):=(hb.cell (p:=⟨pb,po+i*14+12,none⟩) hpb).trans (hcell 12 (by omega));have k13:w1.cell? ⟨pb,po+i*14+13,none⟩=some (.slice aN m ck):=(hb.cell (p:=⟨pb,po+i*14+13,none⟩) hpb).trans (hcell 13 (by omega));have HK:=ae hk;have HT:=ae (show bq ns (i:Int)=aY (sb n.ref.sh) n.ref.c n.ref.r n.ref.ac n.ref.ar by rw[ll.o,if_neg (by omega),if_neg (by omega),if_neg (by omega),if_neg (by omega),if_pos hk]);clear hk;have hB3:Below w1.heap.size w1 (w1.alloc (.cells #[.int .i64 n.kind,.int .i64 n.num,.string n.text,.string n.ref.sh,.int .i64 n.ref.c,.int .i64 n.ref.r,.bool n.ref.ac,.bool n.ref.ar,.string n.af.sh,.int .i64 n.af.c,.int .i64 n.af.r,.bool n.af.ac,.bool n.af.ar,.slice aN m ck] 45)):=(ai _ _).alloc (ah _) _;have aB:ax (w1.alloc (.cells #[.int .i64 n.kind,.int .i64 n.num,.string n.text,.string n.ref.sh,.int .i64 n.ref.c,.int .i64 n.ref.r,.bool n.ref.ac,.bool n.ref.ar,.string n.af.sh,.int .i64 n.af.c,.int .i64 n.af.r,.bool n.af.ac,.bool n.af.ar,.slice aN m ck] 45)) w1.heap.size n (.slice aN m ck):=ax.new w1 n _;have HB3:=ae hB3;clear hB3 C hi bW hcell iK hkc dn hm hnl gT hlf hsk hb;go_enter Tryz.func15,Tryz.ntmps15;go_upto_region 2 with (fail)
 generalize hb3:w1.heap.size=b3 at aB ⊢;generalize w1.alloc (.cells #[.int .i64 n.kind,.int .i64 n.num,.string n.text,.string n.ref.sh,.int .i64 n.ref.c,.int .i64 n.ref.r,.bool n.ref.ac,.bool n.ref.ar,.string n.af.sh,.int .i64 n.af.c,.int .i64 n.af.r,.bool n.af.ac,.bool n.af.ar,.slice aN m ck] 45)=w3 at aB HB3 ⊢;clear hb3 k0 k1 k2 k3 k4 k5 k6 k7 k8 k9 k10 k11 k12 k13;obtain⟨x0,x1,x2,x3,x4,x5,x6,x7,av,aJ,aG,aH,aI,aF⟩:=aB.cells;have hb3:=aB.lt;have aB:=ae aB;have hk:=HK.o;have e1:(n.kind == 1)=false:=by rw[hk];rfl
 have e2:(n.kind == 2)=false:=by rw[hk];rfl
 have e3:(n.kind == 3)=false:=by rw[hk];rfl
 have e4:(n.kind == 4)=false:=by rw[hk];rfl
 have e5:(n.kind == 5)=true:=by rw[hk];rfl
 clear hk;have HD:=ae (fun w=>DF n.ref.sh n.ref.c n.ref.r n.ref.ac n.ref.ar w hz2);go_wp2_with (go_at_call 26;((with_reducible refine(HD.o _).mono ?_);rintro e w4 ⟨rfl,h1⟩;have dJ:=ae (HB3.o.trans (h1.mono HB3.o.size));clear h1))
 go_ret;exact⟨by rw[HT.o] <;> rfl,dJ.o⟩
theorem Bn (b:Bool)(t:List Int):t.length≤(iM b t).length∧(iM b t).length≤t.length+2:=by
 unfold iM;cases b <;> simp <;> omega
theorem agy:(⟨#[40]⟩:ByteArray)=strOfNums [40]:=by decide
theorem Uy:(⟨#[41]⟩:ByteArray)=strOfNums [41]:=by decide
theorem Lu (t:List Int)(b:Bool)(w:World)(hs:t.length≤10000000000):Calls Tryz.prog 27 #[.string (strOfNums t),.bool b] w fun e w'=>e = .returned (.string (strOfNums (iM b t)))∧w=w':=by
 have hz:(strOfNums t).size=t.length:=strOfNums_size t;cases b
 · go_enter Tryz.func27,Tryz.ntmps27
   go_wp2_with fail
   go_ret;exact⟨rfl,rfl⟩
 · have HS:=ae (show((⟨#[40]⟩:ByteArray)++strOfNums t)++⟨#[41]⟩=strOfNums (iM true t)by rw[agy,Uy,lZ,lZ];rfl)
   obtain⟨s,hs2⟩:∃s,strOfNums t=s:=⟨_,rfl⟩;rw[hs2]at HS hz ⊢;have hz2:s.size≤10000000000:=by omega
   have h1:¬ 9223372036854775807<(⟨#[40]⟩:ByteArray).size+s.size:=by show ¬ _<1+s.size;omega
   have h2:((⟨#[40]⟩:ByteArray)++s).size=1+s.size:=by rw[ByteArray.size_append];rfl
   clear hs2 hz;go_enter Tryz.func27,Tryz.ntmps27;go_wp2_with fail
   go_ret;exact⟨lX HS.o,rfl⟩
theorem nL.kid {w:World}{v:Value}{l:List (Nd × Value)}{ns:List Nd}(h:nL w v l ns){i:Nat}{n:Nd}{k:Value}(hi:l[i]? = some (n,k)){x:Int}(hx:x∈n.kids):∃j:Nat,x=(j:Int)∧j<i∧j<l.length∧∃q kq,l[j]? = some (q,kq)∧nodeAt ns (j:Int)=q:=by
 obtain⟨h1,h2⟩:=h.node hi;have hk:=(yK h.tree (i:=(i:Int)) (by omega) (by omega)).2;rw[h1]at hk;obtain⟨h3,h4⟩:=hk x hx;have hl:=(dW.1 hi).1;have hjl:x.toNat<l.length:=by omega
 have he:l[x.toNat]? = some (l[x.toNat].1,l[x.toNat].2):=dm hjl;exact⟨x.toNat,by omega,by omega,hjl,_,_,he,(h.node he).1⟩
def EM(w:World)(v:Value)(ns:List Nd)(i:Nat):Prop:=∀j:Nat,j<i→(bq ns (j:Int)).length≤1000000000→∀w1,Below w.heap.size w w1→Calls Tryz.prog 15 #[v,.int .i64 (j:Int)] w1 (ShR ns j w1)
theorem afZ {w:World}{v:Value}{l:List (Nd × Value)}{ns:List Nd}(C:nL w v l ns)(i:Nat)(n:Nd)(k:Value)(hi:l[i]? = some (n,k))(hk:n.kind=6)(w1:World)(hb:Below w.heap.size w w1) :
 Calls Tryz.prog 15 #[v,.int .i64 (i:Int)] w1 (ShR ns i w1):=by
 obtain⟨gT,hil⟩:=C.node hi;have hlf:=C.leaf hi;have bW:=fu hi;have hll:i<l.length:=(dW.1 hi).1;obtain⟨hz1,hz2,hz3⟩:=(show n.text.size≤1000000∧n.ref.sh.size≤1000000∧n.af.sh.size≤1000000 from C.sizes _ bW);have bE:n.num≤9223372036854775807:=C.xe _ bW;have jZ:=C.few;have HC:=ae C;obtain⟨A,cap,rfl⟩:=C.sn.sP;obtain⟨hsk,pb,po,rfl,hpb,hcell⟩:=C.sn.cellAt hi;obtain⟨aN,ck,hkk,hkc,dn,iK⟩:=id hsk;obtain⟨m,hm⟩:∃m,n.kids.length=m:=⟨_,rfl⟩;rw[hm]at hkk hkc;subst hkk;obtain⟨nl,hnl⟩:∃nl,l.length=nl:=⟨_,rfl⟩;rw[hnl]at hll jZ ⊢;have hii:(i:Int)<(nl:Int):=by omega
 have hi0:(0:Int)≤(i:Int):=by omega
 have hmx:m≤9223372036854775807:=by unfold maxLen at dn;omega
 have HM:=ae hm;have iW:=ae hnl;have qU:=ae iK;have gq:=ae gT;have vg:=ae hlf;have xE:=ae hkc;have HB:=ae hb;have ll:=ae (uS C.tree (i:=(i:Int)) (by omega) (by omega) n gT);have k0:w1.cell? ⟨pb,po+i*14,none⟩=some (.int .i64 n.kind):=(hb.cell (p:=⟨pb,po+i*14,none⟩) hpb).trans (hcell 0 (by omega));have k1:w1.cell? ⟨pb,po+i*14+1,none⟩=some (.int .i64 n.num):=(hb.cell (p:=⟨pb,po+i*14+1,none⟩) hpb).trans (hcell 1 (by omega));have k2:w1.cell? ⟨pb,po+i*14+2,none⟩=some (.string n.text):=(hb.cell (p:=⟨pb,po+i*14+2,none⟩) hpb).trans (hcell 2 (by omega));have k3:w1.cell? ⟨pb,po+i*14+3,none⟩=some (.string n.ref.sh):=(hb.cell (p:=⟨pb,po+i*14+3,none⟩) hpb).trans (hcell 3 (by omega));have k4:w1.cell? ⟨pb,po+i*14+4,none⟩=some (.int .i64 n.ref.c):=(hb.cell (p:=⟨pb,po+i*14+4,none⟩) hpb).trans (hcell 4 (by omega));have k5:w1.cell? ⟨pb,po+i*14+5,none⟩=some (.int .i64 n.ref.r):=(hb.cell (p:=⟨pb,po+i*14+5,none⟩) hpb).trans (hcell 5 (by omega));have k6:w1.cell? ⟨pb,po+i*14+6,none⟩=some (.bool n.ref.ac):=(hb.cell (p:=⟨pb,po+i*14+6,none⟩) hpb).trans (hcell 6 (by omega));have k7:w1.cell? ⟨pb,po+i*14+7,none⟩=some (.bool n.ref.ar):=(hb.cell (p:=⟨pb,po+i*14+7,none⟩) hpb).trans (hcell 7 (by omega));have k8:w1.cell? ⟨pb,po+i*14+8,none⟩=some (.string n.af.sh):=(hb.cell (p:=⟨pb,po+i*14+8,none⟩) hpb).trans (hcell 8 (by omega));have k9:w1.cell? ⟨pb,po+i*14+9,none⟩=some (.int .i64 n.af.c):=(hb.cell (p:=⟨pb,po+i*14+9,none⟩) hpb).trans (hcell 9 (by omega));have k10:w1.cell? ⟨pb,po+i*14+10,none⟩=some (.int .i64 n.af.r):=(hb.cell (p:=⟨pb,po+i*14+10,none⟩) hpb).trans (hcell 10 (by omega));have k11:w1.cell? ⟨pb,po+i*14+11,none⟩=some (.bool n.af.ac):=(hb.cell (p:=⟨pb,po+i*14+11,none⟩) hpb).trans (hcell 11 (by omega));have k12:w1.cell? ⟨pb,po+i*14+12,none⟩=some (.bool n.af.ar):=(hb.cell (p:=⟨pb,po+i*14+12,none⟩) hpb).trans (hcell 12 (by omega));have k13:w1.cell? ⟨pb,po+i*14+13,none⟩=some (.slice aN m ck):=(hb.cell (p:=⟨pb,po+i*14+13,none⟩) hpb).trans (hcell 13 (by omega));have HK:=ae hk;have HT:=ae (show bq ns (i:Int)=aY (sb n.ref.sh) n.ref.c n.ref.r n.ref.ac n.ref.ar++58 :: aY (sb n.af.sh) n.af.c n.af.r n.af.ac n.af.ar by rw[ll.o,if_neg (by omega),if_neg (by omega),if_neg (by omega),if_neg (by omega),if_neg (by omega),if_pos hk]);clear hk;have hB3:Below w1.heap.size w1 (w1.alloc (.cells #[.int .i64 n.kind,.int .i64 n.num,.string n.text,.string n.ref.sh,.int .i64 n.ref.c,.int .i64 n.ref.r,.bool n.ref.ac,.bool n.ref.ar,.string n.af.sh,.int .i64 n.af.c,.int .i64 n.af.r,.bool n.af.ac,.bool n.af.ar,.slice aN m ck] 45)):=(ai _ _).alloc (ah _) _;have aB:ax (w1.alloc (.cells #[.int .i64 n.kind,.int .i64 n.num,.string n.text,.string n.ref.sh,.int .i64 n.ref.c,.int .i64 n.ref.r,.bool n.ref.ac,.bool n.ref.ar,.string n.af.sh,.int .i64 n.af.c,.int .i64 n.af.r,.bool n.af.ac,.bool n.af.ar,.slice aN m ck] 45)) w1.heap.size n (.slice aN m ck):=ax.new w1 n _;have HB3:=ae hB3;clear hB3 C hi bW hcell iK hkc dn hm hnl gT hlf hsk hb;go_enter Tryz.func15,Tryz.ntmps15;go_upto_region 2 with (fail)
 generalize hb3:w1.heap.size=b3 at aB ⊢;generalize w1.alloc (.cells #[.int .i64 n.kind,.int .i64 n.num,.string n.text,.string n.ref.sh,.int .i64 n.ref.c,.int .i64 n.ref.r,.bool n.ref.ac,.bool n.ref.ar,.string n.af.sh,.int .i64 n.af.c,.int .i64 n.af.r,.bool n.af.ac,.bool n.af.ar,.slice aN m ck] 45)=w3 at aB HB3 ⊢;clear hb3 k0 k1 k2 k3 k4 k5 k6 k7 k8 k9 k10 k11 k12 k13;obtain⟨x0,x1,x2,x3,x4,x5,x6,x7,av,aJ,aG,aH,aI,aF⟩:=aB.cells;have hb3:=aB.lt;have aB:=ae aB;have hk:=HK.o;have e1:(n.kind == 1)=false:=by rw[hk];rfl
 have e2:(n.kind == 2)=false:=by rw[hk];rfl
 have e3:(n.kind == 3)=false:=by rw[hk];rfl
 have e4:(n.kind == 4)=false:=by rw[hk];rfl
 have e5:(n.kind == 5)=false:=by rw[hk];rfl
 have e6:(n.kind == 6)=true:=by rw[hk];rfl
 clear hk;have HD:=ae (fun w=>DF n.ref.sh n.ref.c n.ref.r n.ref.ac n.ref.ar w hz2);have HE:=ae (fun w=>DF n.af.sh n.af.c n.af.r n.af.ac n.af.ar w hz3);have l1:=yI (sb n.ref.sh) n.ref.c n.ref.r n.ref.ac n.ref.ar;have l2:=yI (sb n.af.sh) n.af.c n.af.r n.af.ac n.af.ar;rw[aV]at l1 l2;obtain⟨T1,hT1⟩:∃T,aY (sb n.ref.sh) n.ref.c n.ref.r n.ref.ac n.ref.ar=T:=⟨_,rfl⟩;obtain⟨T2,PL⟩:∃T,aY (sb n.af.sh) n.af.c n.af.r n.af.ac n.af.ar=T:=⟨_,rfl⟩;rw[hT1]at HD HT l1;rw[PL]at HE HT l2;clear hT1 PL;have HR:=ae (show(strOfNums T1++⟨#[58]⟩)++strOfNums T2=strOfNums (bq ns (i:Int))by rw[HT.o,show(⟨#[58]⟩:ByteArray)=strOfNums [58]by decide,lZ,lZ];simp);have hs1:(strOfNums T1).size=T1.length:=strOfNums_size T1;have hs2:(strOfNums T2).size=T2.length:=strOfNums_size T2;obtain⟨t1,ht1⟩:∃t,strOfNums T1=t:=⟨_,rfl⟩;obtain⟨t2,ht2⟩:∃t,strOfNums T2=t:=⟨_,rfl⟩;rw[ht1]at HD HR hs1;rw[ht2]at HE HR hs2;clear ht1 ht2;have q1:¬ 9223372036854775807<t1.size+(⟨#[58]⟩:ByteArray).size:=by show ¬ _<t1.size+1;omega
 have q2:(t1++(⟨#[58]⟩:ByteArray)).size=t1.size+1:=by rw[ByteArray.size_append];rfl
 have q3:¬ 9223372036854775807<t1.size+1+t2.size:=by omega
 have q4:¬ 9223372036854775807<t1.size+1:=by omega
 have b1:t1.size≤1000008:=by omega
 have b2:t2.size≤1000008:=by omega
 have H3:=ae ((ai w3.heap.size w3).drew);clear hs1 hs2 l1 l2;go_upto_region 16 with (fail)
 go_region_held3 (fun w'=>w'.cell? ⟨b3,3,none⟩=some (.string n.ref.sh)∧w'.cell? ⟨b3,4,none⟩=some (.int .i64 n.ref.c)∧w'.cell? ⟨b3,5,none⟩=some (.int .i64 n.ref.r)∧w'.cell? ⟨b3,6,none⟩=some (.bool n.ref.ac)∧w'.cell? ⟨b3,7,none⟩=some (.bool n.ref.ar)∧w'.cell? ⟨b3,8,none⟩=some (.string n.af.sh)∧w'.cell? ⟨b3,9,none⟩=some (.int .i64 n.af.c)∧w'.cell? ⟨b3,10,none⟩=some (.int .i64 n.af.r)∧w'.cell? ⟨b3,11,none⟩=some (.bool n.af.ac)∧w'.cell? ⟨b3,12,none⟩=some (.bool n.af.ar)) (go_keep) (first
  | (go_at_call 26;((with_reducible refine(HD.o _).mono ?_);rintro e w4 ⟨rfl,h1⟩;have H4:=ae (H3.o.trans (h1.mono H3.o.size));clear h1;have y3:=(H4.o.cell (p:=⟨b3,3,none⟩) hb3).trans x3;have y4:=(H4.o.cell (p:=⟨b3,4,none⟩) hb3).trans x4;have fq:=(H4.o.cell (p:=⟨b3,5,none⟩) hb3).trans x5;have y6:=(H4.o.cell (p:=⟨b3,6,none⟩) hb3).trans x6;have lL:=(H4.o.cell (p:=⟨b3,7,none⟩) hb3).trans x7;have nE:=(H4.o.cell (p:=⟨b3,8,none⟩) hb3).trans av;have uZ:=(H4.o.cell (p:=⟨b3,9,none⟩) hb3).trans aJ;have uW:=(H4.o.cell (p:=⟨b3,10,none⟩) hb3).trans aG;have uX:=(H4.o.cell (p:=⟨b3,11,none⟩) hb3).trans aH;have uY:=(H4.o.cell (p:=⟨b3,12,none⟩) hb3).trans aI))
  | (go_at_call 26;((with_reducible refine(HE.o _).mono ?_);rintro e w5 ⟨rfl,h1⟩;have fE:=ae (H4.o.trans (h1.mono H4.o.size));clear h1;have z3:=(fE.o.cell (p:=⟨b3,3,none⟩) hb3).trans x3;have z4:=(fE.o.cell (p:=⟨b3,4,none⟩) hb3).trans x4;have z5:=(fE.o.cell (p:=⟨b3,5,none⟩) hb3).trans x5;have z6:=(fE.o.cell (p:=⟨b3,6,none⟩) hb3).trans x6;have z7:=(fE.o.cell (p:=⟨b3,7,none⟩) hb3).trans x7;have Ca:=(fE.o.cell (p:=⟨b3,8,none⟩) hb3).trans av;have z9:=(fE.o.cell (p:=⟨b3,9,none⟩) hb3).trans aJ;have BX:=(fE.o.cell (p:=⟨b3,10,none⟩) hb3).trans aG;have BZ:=(fE.o.cell (p:=⟨b3,11,none⟩) hb3).trans aH;have z12:=(fE.o.cell (p:=⟨b3,12,none⟩) hb3).trans aI)))
 all_goals go_wp2_with fail
 all_goals go_ret
 all_goals exact⟨lX HR.o,HB3.o.trans (fE.o.mono HB3.o.size)⟩
theorem af1 {w:World}{v:Value}{l:List (Nd × Value)}{ns:List Nd}(C:nL w v l ns)(i:Nat)(n:Nd)(k:Value)(hi:l[i]? = some (n,k))(hk:n.kind=8)(hlen:(bq ns (i:Int)).length≤1000000000)(IH:EM w v ns i)(w1:World)(hb:Below w.heap.size w w1) :
 Calls Tryz.prog 15 #[v,.int .i64 (i:Int)] w1 (ShR ns i w1):=by
 obtain⟨gT,hil⟩:=C.node hi;have hlf:=C.leaf hi;have bW:=fu hi;have hll:i<l.length:=(dW.1 hi).1;obtain⟨hz1,hz2,hz3⟩:=(show n.text.size≤1000000∧n.ref.sh.size≤1000000∧n.af.sh.size≤1000000 from C.sizes _ bW);have bE:n.num≤9223372036854775807:=C.xe _ bW;have jZ:=C.few;have HC:=ae C;obtain⟨A,cap,rfl⟩:=C.sn.sP;obtain⟨hsk,pb,po,rfl,hpb,hcell⟩:=C.sn.cellAt hi;obtain⟨aN,ck,hkk,hkc,dn,iK⟩:=id hsk;obtain⟨m,hm⟩:∃m,n.kids.length=m:=⟨_,rfl⟩;rw[hm]at hkk hkc;subst hkk;obtain⟨nl,hnl⟩:∃nl,l.length=nl:=⟨_,rfl⟩;rw[hnl]at hll jZ ⊢;have hii:(i:Int)<(nl:Int):=by omega
 have hi0:(0:Int)≤(i:Int):=by omega
 have hmx:m≤9223372036854775807:=by unfold maxLen at dn;omega
 have HM:=ae hm;have iW:=ae hnl;have qU:=ae iK;have gq:=ae gT;have vg:=ae hlf;have xE:=ae hkc;have HB:=ae hb;have ll:=ae (uS C.tree (i:=(i:Int)) (by omega) (by omega) n gT);have hk1:n.kids.length=1:=(qg hlf).1 hk;have hm1:m=1:=by rw[← hm];exact hk1
 subst hm1;have Dc:n.kids≠[]:=by intro e;rw[e]at hm;simp at hm
 obtain⟨kb,eZ,rfl,hkb,vL⟩:=iK.resolve_left Dc;obtain⟨a,hka⟩:∃x,n.kids[0]? = some x:=⟨_,dm (by omega)⟩;have hga:n.kids.getD 0 0=a:=by rw[jG,hka];rfl
 obtain⟨ik,rfl,hja,ZO,q,kva,hla,hna⟩:=C.kid hi (fu hka);obtain⟨-,pba,poa,zI, -,wS⟩:=C.sn.cellAt hla;injection zI with zI;injection zI with hp1 hp2;subst hp1;subst hp2;have ca:w1.cell? ⟨pb,po+ik*14,none⟩=some (.int .i64 q.kind):=(hb.cell (p:=⟨pb,po+ik*14,none⟩) hpb).trans (wS 0 (by omega));have da:w1.cell? ⟨kb,eZ,none⟩=some (.int .i64 (ik:Int)):=(hb.cell (p:=⟨kb,eZ,none⟩) hkb).trans (vL 0 _ hka);obtain⟨uj,CX⟩:∃R:Int,((bz q.kind:Nat):Int)+1=R:=⟨_,rfl⟩;have IX:=ae (show ∀w,Calls Tryz.prog 28 #[.int .i64 q.kind] w (fun e w'=>e = .returned (.int .i64 uj)∧w=w')from fun w=>by rw[← CX];exact GA q.kind w);have hia:(ik:Int)<(l.length:Int):=by omega
 have HT:=ae (show bq ns (i:Int)=45 :: iM (decide (bz q.kind<4)) (bq ns (ik:Int))by rw[ll.o,if_neg (by omega),if_neg (by omega),if_neg (by omega),if_neg (by omega),if_neg (by omega),if_neg (by omega),if_neg (by omega),if_pos hk,hga,hna]);have wR:(bq ns (ik:Int)).length≤1000000000:=by rw[HT.o]at hlen;have:=(Bn (decide (bz q.kind<4)) (bq ns (ik:Int))).1;simp only[aO]at hlen;omega
 have zt:=IH ik hja wR;rw[hnl]at zt;have Il:=ae zt;have CY:decide (bz q.kind<4)=decide (uj<5):=by rw[decide_eq_decide];omega
 rw[CY]at HT;have H6:=ae (show Below w1.heap.size w1 w1→True from fun _=>trivial);clear zt H6 CY CX hga hka hla hna wS Dc vL IH;rw[hnl]at hia;have k0:w1.cell? ⟨pb,po+i*14,none⟩=some (.int .i64 n.kind):=(hb.cell (p:=⟨pb,po+i*14,none⟩) hpb).trans (hcell 0 (by omega));have k1:w1.cell? ⟨pb,po+i*14+1,none⟩=some (.int .i64 n.num):=(hb.cell (p:=⟨pb,po+i*14+1,none⟩) hpb).trans (hcell 1 (by omega));have k2:w1.cell? ⟨pb,po+i*14+2,none⟩=some (.string n.text):=(hb.cell (p:=⟨pb,po+i*14+2,none⟩) hpb).trans (hcell 2 (by omega));have k3:w1.cell? ⟨pb,po+i*14+3,none⟩=some (.string n.ref.sh):=(hb.cell (p:=⟨pb,po+i*14+3,none⟩) hpb).trans (hcell 3 (by omega));have k4:w1.cell? ⟨pb,po+i*14+4,none⟩=some (.int .i64 n.ref.c):=(hb.cell (p:=⟨pb,po+i*14+4,none⟩) hpb).trans (hcell 4 (by omega));have k5:w1.cell? ⟨pb,po+i*14+5,none⟩=some (.int .i64 n.ref.r):=(hb.cell (p:=⟨pb,po+i*14+5,none⟩) hpb).trans (hcell 5 (by omega));have k6:w1.cell? ⟨pb,po+i*14+6,none⟩=some (.bool n.ref.ac):=(hb.cell (p:=⟨pb,po+i*14+6,none⟩) hpb).trans (hcell 6 (by omega));have k7:w1.cell? ⟨pb,po+i*14+7,none⟩=some (.bool n.ref.ar):=(hb.cell (p:=⟨pb,po+i*14+7,none⟩) hpb).trans (hcell 7 (by omega));have k8:w1.cell? ⟨pb,po+i*14+8,none⟩=some (.string n.af.sh):=(hb.cell (p:=⟨pb,po+i*14+8,none⟩) hpb).trans (hcell 8 (by omega));have k9:w1.cell? ⟨pb,po+i*14+9,none⟩=some (.int .i64 n.af.c):=(hb.cell (p:=⟨pb,po+i*14+9,none⟩) hpb).trans (hcell 9 (by omega));have k10:w1.cell? ⟨pb,po+i*14+10,none⟩=some (.int .i64 n.af.r):=(hb.cell (p:=⟨pb,po+i*14+10,none⟩) hpb).trans (hcell 10 (by omega));have k11:w1.cell? ⟨pb,po+i*14+11,none⟩=some (.bool n.af.ac):=(hb.cell (p:=⟨pb,po+i*14+11,none⟩) hpb).trans (hcell 11 (by omega));have k12:w1.cell? ⟨pb,po+i*14+12,none⟩=some (.bool n.af.ar):=(hb.cell (p:=⟨pb,po+i*14+12,none⟩) hpb).trans (hcell 12 (by omega));have k13:w1.cell? ⟨pb,po+i*14+13,none⟩=some (.slice (some ⟨kb,eZ,none⟩) 1 ck):=(hb.cell (p:=⟨pb,po+i*14+13,none⟩) hpb).trans (hcell 13 (by omega));have HK:=ae hk;clear hk hlen;have hB3:Below w1.heap.size w1 (w1.alloc (.cells #[.int .i64 n.kind,.int .i64 n.num,.string n.text,.string n.ref.sh,.int .i64 n.ref.c,.int .i64 n.ref.r,.bool n.ref.ac,.bool n.ref.ar,.string n.af.sh,.int .i64 n.af.c,.int .i64 n.af.r,.bool n.af.ac,.bool n.af.ar,.slice (some ⟨kb,eZ,none⟩) 1 ck] 45)):=(ai _ _).alloc (ah _) _;have aB:ax (w1.alloc (.cells #[.int .i64 n.kind,.int .i64 n.num,.string n.text,.string n.ref.sh,.int .i64 n.ref.c,.int .i64 n.ref.r,.bool n.ref.ac,.bool n.ref.ar,.string n.af.sh,.int .i64 n.af.c,.int .i64 n.af.r,.bool n.af.ac,.bool n.af.ar,.slice (some ⟨kb,eZ,none⟩) 1 ck] 45)) w1.heap.size n (.slice (some ⟨kb,eZ,none⟩) 1 ck):=ax.new w1 n _;have HB3:=ae hB3;clear hB3 C hi bW hcell iK hkc dn hm hnl gT hlf hsk hb;go_enter Tryz.func15,Tryz.ntmps15;go_upto_region 2 with (fail)
 generalize hb3:w1.heap.size=b3 at aB ⊢;generalize w1.alloc (.cells #[.int .i64 n.kind,.int .i64 n.num,.string n.text,.string n.ref.sh,.int .i64 n.ref.c,.int .i64 n.ref.r,.bool n.ref.ac,.bool n.ref.ar,.string n.af.sh,.int .i64 n.af.c,.int .i64 n.af.r,.bool n.af.ac,.bool n.af.ar,.slice (some ⟨kb,eZ,none⟩) 1 ck] 45)=w3 at aB HB3 ⊢;have s0:=(HB3.o.cell (p:=⟨kb,eZ,none⟩) (dY hkb HB.o.size)).trans da;have s1:=(HB3.o.cell (p:=⟨pb,po+ik*14,none⟩) (dY hpb HB.o.size)).trans ca;clear da ca hb3 k0 k1 k2 k3 k4 k5 k6 k7 k8 k9 k10 k11 k12 k13;obtain⟨x0,x1,x2,x3,x4,x5,x6,x7,av,aJ,aG,aH,aI,aF⟩:=aB.cells;have hb3:=aB.lt;have aB:=ae aB;have hk:=HK.o;have e1:(n.kind == 1)=false:=by rw[hk];rfl
 have e2:(n.kind == 2)=false:=by rw[hk];rfl
 have e3:(n.kind == 3)=false:=by rw[hk];rfl
 have e4:(n.kind == 4)=false:=by rw[hk];rfl
 have e5:(n.kind == 5)=false:=by rw[hk];rfl
 have e6:(n.kind == 6)=false:=by rw[hk];rfl
 have e7:(n.kind == 7)=false:=by rw[hk];rfl
 have e8:(n.kind == 8)=true:=by rw[hk];rfl
 clear hk;have ZP:kb<w1.heap.size:=dY hkb HB.o.size;have zJ:pb<w1.heap.size:=dY hpb HB.o.size;have ZQ:kb<w3.heap.size:=dY ZP HB3.o.size;have FB:pb<w3.heap.size:=dY zJ HB3.o.size;have rM:=ae (HB.o.trans (HB3.o.mono HB.o.size));have H3:=ae ((ai w3.heap.size w3).drew);have hzi:=(Bn (decide (uj<5)) (bq ns (ik:Int))).2;have yU:=ae (fun w=>Lu (bq ns (ik:Int)) (decide (uj<5)) w (by omega));obtain⟨T,hT⟩:∃T,iM (decide (uj<5)) (bq ns (ik:Int))=T:=⟨_,rfl⟩;rw[hT]at HT yU hzi;have HRR:=ae (show(⟨#[45]⟩:ByteArray)++strOfNums T=strOfNums (bq ns (i:Int))by rw[HT.o,show(⟨#[45]⟩:ByteArray)=strOfNums [45]by decide,lZ];rfl);have hs1:(strOfNums T).size=T.length:=strOfNums_size T;obtain⟨t,ht⟩:∃t,strOfNums T=t:=⟨_,rfl⟩;rw[ht]at yU HRR hs1;have q1:¬ 9223372036854775807<(⟨#[45]⟩:ByteArray).size+t.size:=by show ¬ _<1+t.size;omega
 have q2:¬ 9223372036854775807<1+t.size:=by omega
 clear ht hT hs1 hzi;go_upto_region 27 with (fail)
 go_region_held3 (fun w'=>w'.cell? ⟨b3,13,none⟩=some (.slice (some ⟨kb,eZ,none⟩) 1 ck)∧w'.cell? ⟨kb,eZ,none⟩=some (.int .i64 (ik:Int))∧w'.cell? ⟨pb,po+ik*14,none⟩=some (.int .i64 q.kind)) (go_keep) (first
  | (go_at_call 15;((with_reducible refine(Il.o _ (rM.o.trans (H3.o.mono rM.o.size))).mono ?_);rintro e w4 ⟨rfl,h1⟩;have H4:=ae (H3.o.trans (h1.mono H3.o.size));clear h1;have y0:=(H4.o.cell (p:=⟨b3,13,none⟩) hb3).trans aF;have y1:=(H4.o.cell (p:=⟨kb,eZ,none⟩) ZQ).trans s0;have y2:=(H4.o.cell (p:=⟨pb,po+ik*14,none⟩) FB).trans s1))
  | (go_at_call 28;((with_reducible refine(IX.o _).mono ?_);rintro e wn ⟨rfl,rfl⟩))
  | (go_at_call 27;((with_reducible refine(yU.o _).mono ?_);rintro e wn ⟨rfl,rfl⟩)))
 all_goals go_wp2_with fail
 all_goals go_ret
 all_goals exact⟨lX HRR.o,HB3.o.trans (H4.o.mono HB3.o.size)⟩
theorem af2 {w:World}{v:Value}{l:List (Nd × Value)}{ns:List Nd}(C:nL w v l ns)(i:Nat)(n:Nd)(k:Value)(hi:l[i]? = some (n,k))(hk:9≤n.kind)(hlen:(bq ns (i:Int)).length≤1000000000)(IH:EM w v ns i)(w1:World)(hb:Below w.heap.size w w1) :
 Calls Tryz.prog 15 #[v,.int .i64 (i:Int)] w1 (ShR ns i w1):=by
 obtain⟨gT,hil⟩:=C.node hi;have hlf:=C.leaf hi;have bW:=fu hi;have hll:i<l.length:=(dW.1 hi).1;obtain⟨hz1,hz2,hz3⟩:=(show n.text.size≤1000000∧n.ref.sh.size≤1000000∧n.af.sh.size≤1000000 from C.sizes _ bW);have bE:n.num≤9223372036854775807:=C.xe _ bW;have jZ:=C.few;have HC:=ae C;obtain⟨A,cap,rfl⟩:=C.sn.sP;obtain⟨hsk,pb,po,rfl,hpb,hcell⟩:=C.sn.cellAt hi;obtain⟨aN,ck,hkk,hkc,dn,iK⟩:=id hsk;obtain⟨m,hm⟩:∃m,n.kids.length=m:=⟨_,rfl⟩;rw[hm]at hkk hkc;subst hkk;obtain⟨nl,hnl⟩:∃nl,l.length=nl:=⟨_,rfl⟩;rw[hnl]at hll jZ ⊢;have hii:(i:Int)<(nl:Int):=by omega
 have hi0:(0:Int)≤(i:Int):=by omega
 have hmx:m≤9223372036854775807:=by unfold maxLen at dn;omega
 have HM:=ae hm;have iW:=ae hnl;have qU:=ae iK;have gq:=ae gT;have vg:=ae hlf;have xE:=ae hkc;have HB:=ae hb;have ll:=ae (uS C.tree (i:=(i:Int)) (by omega) (by omega) n gT);have hk1:n.kids.length=2:=(qg hlf).2.1 hk;have ait:n.kind≤19:=(qg hlf).2.2.2.2.1;have hm1:m=2:=by rw[← hm];exact hk1
 subst hm1;have Dc:n.kids≠[]:=by intro e;rw[e]at hm;simp at hm
 obtain⟨gb,eZ,rfl,Bf,vL⟩:=iK.resolve_left Dc;obtain⟨a,hka⟩:∃x,n.kids[0]? = some x:=⟨_,dm (by omega)⟩;have hga:n.kids.getD 0 0=a:=by rw[jG,hka];rfl
 obtain⟨ik,rfl,hja,ZO,q,kva,hla,hna⟩:=C.kid hi (fu hka);obtain⟨-,pba,poa,zI, -,wS⟩:=C.sn.cellAt hla;injection zI with zI;injection zI with hp1 hp2;subst hp1;subst hp2;have ca:w1.cell? ⟨pb,po+ik*14,none⟩=some (.int .i64 q.kind):=(hb.cell (p:=⟨pb,po+ik*14,none⟩) hpb).trans (wS 0 (by omega));have da:w1.cell? ⟨gb,eZ,none⟩=some (.int .i64 (ik:Int)):=(hb.cell (p:=⟨gb,eZ,none⟩) Bf).trans (vL 0 _ hka);obtain⟨uj,CX⟩:∃R:Int,((bz q.kind:Nat):Int)+1=R:=⟨_,rfl⟩;have IX:=ae (show ∀w,Calls Tryz.prog 28 #[.int .i64 q.kind] w (fun e w'=>e = .returned (.int .i64 uj)∧w=w')from fun w=>by rw[← CX];exact GA q.kind w);have hia:(ik:Int)<(l.length:Int):=by omega
 obtain⟨b,hkb⟩:∃x,n.kids[1]? = some x:=⟨_,dm (by omega)⟩;have hgb:n.kids.getD 1 0=b:=by rw[jG,hkb];rfl
 obtain⟨nO,rfl,hjb,aiq,r,kvb,hlb,hnb⟩:=C.kid hi (fu hkb);obtain⟨-,pbb,pob,hpb, -,hcb⟩:=C.sn.cellAt hlb;injection hpb with hpb;injection hpb with hp1 hp2;subst hp1;subst hp2;have cb:w1.cell? ⟨pb,po+nO*14,none⟩=some (.int .i64 r.kind):=(hb.cell (p:=⟨pb,po+nO*14,none⟩) hpb).trans (hcb 0 (by omega));have db:w1.cell? ⟨gb,eZ+1,none⟩=some (.int .i64 (nO:Int)):=(hb.cell (p:=⟨gb,eZ+1,none⟩) Bf).trans (vL 1 _ hkb);obtain⟨CK,hRb⟩:∃R:Int,((bz r.kind:Nat):Int)+1=R:=⟨_,rfl⟩;have V6:=ae (show ∀w,Calls Tryz.prog 28 #[.int .i64 r.kind] w (fun e w'=>e = .returned (.int .i64 CK)∧w=w')from fun w=>by rw[← hRb];exact GA r.kind w);have hib:(nO:Int)<(l.length:Int):=by omega
 obtain⟨o,ho,Kc⟩:∃o:Nat,n.kind=9+(o:Int)∧o<11:=⟨(n.kind - 9).toNat,by omega,by omega⟩;have Qk:(n.kind - 9).toNat=o:=by omega
 obtain⟨N,hN⟩:∃R:Int,((bz n.kind:Nat):Int)+1=R:=⟨_,rfl⟩;have V4:=ae (show ∀w,Calls Tryz.prog 28 #[.int .i64 n.kind] w (fun e w'=>e = .returned (.int .i64 N)∧w=w')from fun w=>by rw[← hN];exact GA n.kind w)
 have NB:=ae (show ∀w,Calls Tryz.prog 29 #[.int .i64 n.kind] w (fun e w'=>e = .returned (.string (strOfNums (qD o)))∧Below w.heap.size w w')from fun w=>by
  rw[ho, ← (Lb o Kc).2,l5];exact aeo o Kc w)
 have hol:(qD o).length≤2:=(show ∀o:Nat,o<11→(qD o).length≤2 by decide) o Kc;have HT:=ae (show bq ns (i:Int)=iM (decide (bz q.kind<bz n.kind)) (bq ns (ik:Int))++(qD o++iM (decide (bz r.kind≤bz n.kind)) (bq ns (nO:Int)))by rw[ll.o,if_neg (by omega),if_neg (by omega),if_neg (by omega),if_neg (by omega),if_neg (by omega),if_neg (by omega),if_neg (by omega),if_neg (by omega),hga,hgb,hna,hnb,Qk]);have wR:(bq ns (ik:Int)).length≤1000000000:=by rw[HT.o]at hlen;have:=(Bn (decide (bz q.kind<bz n.kind)) (bq ns (ik:Int))).1;simp only[ak]at hlen;omega
 have hbb:(bq ns (nO:Int)).length≤1000000000:=by rw[HT.o]at hlen;have:=(Bn (decide (bz r.kind≤bz n.kind)) (bq ns (nO:Int))).1;simp only[ak]at hlen;omega
 have zt:=IH ik hja wR;have hIB:=IH nO hjb hbb;rw[hnl]at zt hIB;have Il:=ae zt;have VA:=ae hIB;have CY:decide (bz q.kind<bz n.kind)=decide (uj<N):=by rw[decide_eq_decide];omega
 have hRe:decide (bz r.kind≤bz n.kind)=decide (CK≤N):=by rw[decide_eq_decide];omega
 rw[CY,hRe]at HT;clear zt hIB CY hRe CX hRb hga hgb hka hkb hla hlb hna hnb wS hcb Dc vL IH hN Qk ho;rw[hnl]at hia hib;have k0:w1.cell? ⟨pb,po+i*14,none⟩=some (.int .i64 n.kind):=(hb.cell (p:=⟨pb,po+i*14,none⟩) hpb).trans (hcell 0 (by omega));have k1:w1.cell? ⟨pb,po+i*14+1,none⟩=some (.int .i64 n.num):=(hb.cell (p:=⟨pb,po+i*14+1,none⟩) hpb).trans (hcell 1 (by omega));have k2:w1.cell? ⟨pb,po+i*14+2,none⟩=some (.string n.text):=(hb.cell (p:=⟨pb,po+i*14+2,none⟩) hpb).trans (hcell 2 (by omega));have k3:w1.cell? ⟨pb,po+i*14+3,none⟩=some (.string n.ref.sh):=(hb.cell (p:=⟨pb,po+i*14+3,none⟩) hpb).trans (hcell 3 (by omega));have k4:w1.cell? ⟨pb,po+i*14+4,none⟩=some (.int .i64 n.ref.c):=(hb.cell (p:=⟨pb,po+i*14+4,none⟩) hpb).trans (hcell 4 (by omega));have k5:w1.cell? ⟨pb,po+i*14+5,none⟩=some (.int .i64 n.ref.r):=(hb.cell (p:=⟨pb,po+i*14+5,none⟩) hpb).trans (hcell 5 (by omega));have k6:w1.cell? ⟨pb,po+i*14+6,none⟩=some (.bool n.ref.ac):=(hb.cell (p:=⟨pb,po+i*14+6,none⟩) hpb).trans (hcell 6 (by omega));have k7:w1.cell? ⟨pb,po+i*14+7,none⟩=some (.bool n.ref.ar):=(hb.cell (p:=⟨pb,po+i*14+7,none⟩) hpb).trans (hcell 7 (by omega));have k8:w1.cell? ⟨pb,po+i*14+8,none⟩=some (.string n.af.sh):=(hb.cell (p:=⟨pb,po+i*14+8,none⟩) hpb).trans (hcell 8 (by omega));have k9:w1.cell? ⟨pb,po+i*14+9,none⟩=some (.int .i64 n.af.c):=(hb.cell (p:=⟨pb,po+i*14+9,none⟩) hpb).trans (hcell 9 (by omega));have k10:w1.cell? ⟨pb,po+i*14+10,none⟩=some (.int .i64 n.af.r):=(hb.cell (p:=⟨pb,po+i*14+10,none⟩) hpb).trans (hcell 10 (by omega));have k11:w1.cell? ⟨pb,po+i*14+11,none⟩=some (.bool n.af.ac):=(hb.cell (p:=⟨pb,po+i*14+11,none⟩) hpb).trans (hcell 11 (by omega));have k12:w1.cell? ⟨pb,po+i*14+12,none⟩=some (.bool n.af.ar):=(hb.cell (p:=⟨pb,po+i*14+12,none⟩) hpb).trans (hcell 12 (by omega));have k13:w1.cell? ⟨pb,po+i*14+13,none⟩=some (.slice (some ⟨gb,eZ,none⟩) 2 ck):=(hb.cell (p:=⟨pb,po+i*14+13,none⟩) hpb).trans (hcell 13 (by omega));have HK:=ae (show 9≤n.kind from hk);clear hk hlen;have hB3:Below w1.heap.size w1 (w1.alloc (.cells #[.int .i64 n.kind,.int .i64 n.num,.string n.text,.string n.ref.sh,.int .i64 n.ref.c,.int .i64 n.ref.r,.bool n.ref.ac,.bool n.ref.ar,.string n.af.sh,.int .i64 n.af.c,.int .i64 n.af.r,.bool n.af.ac,.bool n.af.ar,.slice (some ⟨gb,eZ,none⟩) 2 ck] 45)):=(ai _ _).alloc (ah _) _;have aB:ax (w1.alloc (.cells #[.int .i64 n.kind,.int .i64 n.num,.string n.text,.string n.ref.sh,.int .i64 n.ref.c,.int .i64 n.ref.r,.bool n.ref.ac,.bool n.ref.ar,.string n.af.sh,.int .i64 n.af.c,.int .i64 n.af.r,.bool n.af.ac,.bool n.af.ar,.slice (some ⟨gb,eZ,none⟩) 2 ck] 45)) w1.heap.size n (.slice (some ⟨gb,eZ,none⟩) 2 ck):=ax.new w1 n _;have HB3:=ae hB3;clear hB3 C hi bW hcell iK hkc dn hm hnl gT hlf hsk hb;go_enter Tryz.func15,Tryz.ntmps15;go_upto_region 2 with (fail)
 generalize hb3:w1.heap.size=b3 at aB ⊢;generalize w1.alloc (.cells #[.int .i64 n.kind,.int .i64 n.num,.string n.text,.string n.ref.sh,.int .i64 n.ref.c,.int .i64 n.ref.r,.bool n.ref.ac,.bool n.ref.ar,.string n.af.sh,.int .i64 n.af.c,.int .i64 n.af.r,.bool n.af.ac,.bool n.af.ar,.slice (some ⟨gb,eZ,none⟩) 2 ck] 45)=w3 at aB HB3 ⊢;have P8:gb<w1.heap.size:=dY Bf HB.o.size;have zJ:pb<w1.heap.size:=dY hpb HB.o.size;have s0:=(HB3.o.cell (p:=⟨gb,eZ,none⟩) P8).trans da;have s1:=(HB3.o.cell (p:=⟨pb,po+ik*14,none⟩) zJ).trans ca;have s2:=(HB3.o.cell (p:=⟨gb,eZ+1,none⟩) P8).trans db;have s3:=(HB3.o.cell (p:=⟨pb,po+nO*14,none⟩) zJ).trans cb;clear da ca db cb hb3 k0 k1 k2 k3 k4 k5 k6 k7 k8 k9 k10 k11 k12 k13;obtain⟨x0,x1,x2,x3,x4,x5,x6,x7,av,aJ,aG,aH,aI,aF⟩:=aB.cells;have hb3:=aB.lt;have aB:=ae aB;have J7:=HK.o;have e1:(n.kind == 1)=false:=beq_eq_false_iff_ne.2 (by omega);have e2:(n.kind == 2)=false:=beq_eq_false_iff_ne.2 (by omega);have e3:(n.kind == 3)=false:=beq_eq_false_iff_ne.2 (by omega);have e4:(n.kind == 4)=false:=beq_eq_false_iff_ne.2 (by omega);have e5:(n.kind == 5)=false:=beq_eq_false_iff_ne.2 (by omega);have e6:(n.kind == 6)=false:=beq_eq_false_iff_ne.2 (by omega);have e7:(n.kind == 7)=false:=beq_eq_false_iff_ne.2 (by omega);have e8:(n.kind == 8)=false:=beq_eq_false_iff_ne.2 (by omega);clear J7;have FB:pb<w3.heap.size:=dY zJ HB3.o.size;have rM:=ae (HB.o.trans (HB3.o.mono HB.o.size));have hzi:=(Bn (decide (uj<N)) (bq ns (ik:Int))).2;have hzj:=(Bn (decide (CK≤N)) (bq ns (nO:Int))).2;have Im:=ae (fun w=>Lu (bq ns (ik:Int)) (decide (uj<N)) w (by omega));have Io:=ae (fun w=>Lu (bq ns (nO:Int)) (decide (CK≤N)) w (by omega));obtain⟨T,hT⟩:∃T,iM (decide (uj<N)) (bq ns (ik:Int))=T:=⟨_,rfl⟩;obtain⟨U,hU⟩:∃T,iM (decide (CK≤N)) (bq ns (nO:Int))=T:=⟨_,rfl⟩;rw[hT]at Im hzi;rw[hU]at Io hzj;rw[hT,hU]at HT;have HRR:=ae (show(strOfNums T++strOfNums (qD o))++strOfNums U=strOfNums (bq ns (i:Int))by rw[HT.o,lZ,lZ,bG]);have hs1:(strOfNums T).size=T.length:=strOfNums_size T;have hs2:(strOfNums U).size=U.length:=strOfNums_size U;have hs3:(strOfNums (qD o)).size=(qD o).length:=strOfNums_size _;obtain⟨t,ht⟩:∃t,strOfNums T=t:=⟨_,rfl⟩;obtain⟨u,hu⟩:∃t,strOfNums U=t:=⟨_,rfl⟩;obtain⟨s,hs⟩:∃t,strOfNums (qD o)=t:=⟨_,rfl⟩;rw[ht]at Im HRR hs1;rw[hu]at Io HRR hs2;rw[hs]at NB HRR hs3;have q1:¬ 9223372036854775807<t.size+s.size:=by omega
 have q2:(t++s).size=t.size+s.size:=ByteArray.size_append;have q3:¬ 9223372036854775807<t.size+s.size+u.size:=by omega
 have q4:t.size≤1000000002:=by omega
 have q5:u.size≤1000000002:=by omega
 have q6:s.size≤2:=by omega
 clear ht hu hs hT hU hs1 hs2 hs3 hzi hzj hol wR hbb;go_upto_region 28 with (fail)
 go_quiet (fail)
 go_upto_region 29 with (fail)
 have hb4:b3<(w3.drewN nq).heap.size:=hb3;have zK:pb<(w3.drewN nq).heap.size:=FB;have dJ:=ae (o7 HB3.o nq);have Cf:=ae (o7 rM.o nq);have t0:(w3.drewN nq).cell? ⟨b3,0,none⟩=some (.int .i64 n.kind):=x0;have t1:(w3.drewN nq).cell? ⟨pb,po+ik*14,none⟩=some (.int .i64 q.kind):=s1;have t2:(w3.drewN nq).cell? ⟨pb,po+nO*14,none⟩=some (.int .i64 r.kind):=s3;clear x0 x1 x2 x3 x4 x5 x6 x7 av aJ aG aH aI aF s0 s1 s2 s3 HB3 rM aB hb3 FB;generalize w3.drewN nq=w4 at hb4 zK dJ Cf t0 t1 t2 ⊢;have H4:=ae ((ai w4.heap.size w4).drew)
 go_region_held3 (fun w'=>w'.cell? ⟨b3,0,none⟩=some (.int .i64 n.kind)∧w'.cell? ⟨pb,po+ik*14,none⟩=some (.int .i64 q.kind)∧w'.cell? ⟨pb,po+nO*14,none⟩=some (.int .i64 r.kind)) (go_keep) (first
  | (go_at_call 15;((with_reducible refine(Il.o _ (Cf.o.trans (H4.o.mono Cf.o.size))).mono ?_);rintro e w5 ⟨rfl,h1⟩;have fE:=ae (H4.o.trans (h1.mono H4.o.size));clear h1;have y0:=(fE.o.cell (p:=⟨b3,0,none⟩) hb4).trans t0;have y1:=(fE.o.cell (p:=⟨pb,po+ik*14,none⟩) zK).trans t1;have y2:=(fE.o.cell (p:=⟨pb,po+nO*14,none⟩) zK).trans t2))
  | (go_at_call 28;((with_reducible refine(IX.o _).mono ?_);rintro e wn ⟨rfl,rfl⟩))
  | (go_at_call 28;((with_reducible refine(V4.o _).mono ?_);rintro e wn ⟨rfl,rfl⟩))
  | (go_at_call 28;((with_reducible refine(V6.o _).mono ?_);rintro e wn ⟨rfl,rfl⟩))
  | (go_at_call 27;((with_reducible refine(Im.o _).mono ?_);rintro e wn ⟨rfl,rfl⟩))
  | (go_at_call 29;((with_reducible refine(NB.o _).mono ?_);rintro e w6 ⟨rfl,h1⟩;have jS:=ae (fE.o.trans (h1.mono fE.o.size));clear h1;have z0:=(jS.o.cell (p:=⟨b3,0,none⟩) hb4).trans t0;have z1:=(jS.o.cell (p:=⟨pb,po+ik*14,none⟩) zK).trans t1;have z2:=(jS.o.cell (p:=⟨pb,po+nO*14,none⟩) zK).trans t2))
  | (go_at_call 15;((with_reducible refine(VA.o _ (Cf.o.trans (jS.o.mono Cf.o.size))).mono ?_);rintro e w7 ⟨rfl,h1⟩;have qO:=ae (jS.o.trans (h1.mono jS.o.size));clear h1;have v0:=(qO.o.cell (p:=⟨b3,0,none⟩) hb4).trans t0;have v1:=(qO.o.cell (p:=⟨pb,po+ik*14,none⟩) zK).trans t1;have v2:=(qO.o.cell (p:=⟨pb,po+nO*14,none⟩) zK).trans t2))
  | (go_at_call 27;((with_reducible refine(Io.o _).mono ?_);rintro e wn ⟨rfl,rfl⟩)))
 all_goals go_wp2_with fail
 all_goals go_ret
 all_goals exact⟨lX HRR.o,dJ.o.trans (qO.o.mono dJ.o.size)⟩
theorem KC:∀(xs:List (List Int))(j:Nat),∃r,iE xs=iE (xs.take j)++r
 | [],j=>⟨[],by simp[iE]⟩
 | a :: l,0=>⟨iE (a :: l),rfl⟩
 | [a],j+1=>⟨[],by simp[iE]⟩
 | a :: b :: l,1=>⟨44 :: iE (b :: l),rfl⟩
 | a :: b :: l,j+2=>by
   obtain⟨r,h⟩:=KC (b :: l) (j+1);refine⟨r, ?_⟩;show a++44 :: iE (b :: l)=(a++44 :: iE (b :: l.take j))++r;rw[h,List.take_succ_cons];simp
theorem QZ (xs:List (List Int))(j:Nat)(y:List Int)(h:xs[j]? = some y):iE (xs.take (j+1))=if j=0 then y else iE (xs.take j)++44 :: y:=by
 rw[List.take_add_one,h];show iE (xs.take j++[y])=_;have hl:=(dW.1 h).1;by_cases hj:j=0
 · subst hj;rfl
 · rw[if_neg hj,KA y _ (fun e=>by have h2:(xs.take j).length=0:=(by rw[e];rfl);rw[gK]at h2;omega)]
theorem QY (xs:List (List Int))(j:Nat)(y:List Int)(h:xs[j]? = some y):y.length≤(iE xs).length:=by
 obtain⟨r,hr⟩:=KC xs (j+1);rw[QZ xs j y h]at hr;rw[hr,ak];split
 · omega
 · simp;omega
theorem aaR (xs:List (List Int))(j:Nat):(iE (xs.take j)).length≤(iE xs).length:=by
 obtain⟨r,hr⟩:=KC xs j;rw[hr,ak];omega
def kC(n:Nd)(ns:List Nd)(j:Nat):List Int:=sb n.text++40 :: iE ((n.kids.map (bq ns)).take j)
theorem XI (n:Nd)(ns:List Nd):n.text++⟨#[40]⟩=strOfNums (kC n ns 0):=by
 have h:kC n ns 0=sb n.text++[40]:=by unfold kC;rw[List.take_zero];rfl
 rw[h, ← lZ,l5];rfl
theorem XG (n:Nd)(ns:List Nd)(j:Nat):(kC n ns j).length≤(iE (n.kids.map (bq ns))).length+n.text.size+1:=by
 have:=aaR (n.kids.map (bq ns)) j;unfold kC;simp only[ak,aO,aV];omega
theorem XH (n:Nd)(ns:List Nd)(j:Nat)(x:Int)(h:n.kids[j]? = some x):kC n ns (j+1)=if j=0 then kC n ns j++bq ns x else (kC n ns j++[44])++bq ns x:=by
 unfold kC;rw[QZ _ j (bq ns x) (by rw[iw,h];rfl)];by_cases hj:j=0
 · subst hj;rw[if_pos rfl,if_pos rfl];simp[iE]
 · rw[if_neg hj,if_neg hj];simp
theorem XF (n:Nd)(ns:List Nd)(j:Nat)(h:n.kids.length≤j):kC n ns j=sb n.text++40 :: iE (n.kids.map (bq ns)):=by
 unfold kC;rw[pW (by rw[fw];exact h)]
theorem af0 {w:World}{v:Value}{l:List (Nd × Value)}{ns:List Nd}(C:nL w v l ns)(i:Nat)(n:Nd)(k:Value)(hi:l[i]? = some (n,k))(hk:n.kind=7)(hlen:(bq ns (i:Int)).length≤1000000000)(IH:EM w v ns i)(w1:World)(hb:Below w.heap.size w w1) :
 Calls Tryz.prog 15 #[v,.int .i64 (i:Int)] w1 (ShR ns i w1):=by
 obtain⟨gT,hil⟩:=C.node hi;have hlf:=C.leaf hi;have bW:=fu hi;have hll:i<l.length:=(dW.1 hi).1;obtain⟨hz1,hz2,hz3⟩:=(show n.text.size≤1000000∧n.ref.sh.size≤1000000∧n.af.sh.size≤1000000 from C.sizes _ bW);have bE:n.num≤9223372036854775807:=C.xe _ bW;have jZ:=C.few;have HC:=ae C;obtain⟨A,cap,rfl⟩:=C.sn.sP;obtain⟨hsk,pb,po,rfl,hpb,hcell⟩:=C.sn.cellAt hi;obtain⟨aN,ck,hkk,hkc,dn,iK⟩:=id hsk;obtain⟨m,hm⟩:∃m,n.kids.length=m:=⟨_,rfl⟩;rw[hm]at hkk hkc;subst hkk;obtain⟨nl,hnl⟩:∃nl,l.length=nl:=⟨_,rfl⟩;rw[hnl]at hll jZ ⊢;have hii:(i:Int)<(nl:Int):=by omega
 have hi0:(0:Int)≤(i:Int):=by omega
 have hmx:m≤9223372036854775807:=by unfold maxLen at dn;omega
 have HM:=ae hm;have iW:=ae hnl;have qU:=ae iK;have gq:=ae gT;have vg:=ae hlf;have xE:=ae hkc;have HB:=ae hb;have ll:=ae (uS C.tree (i:=(i:Int)) (by omega) (by omega) n gT);have k0:w1.cell? ⟨pb,po+i*14,none⟩=some (.int .i64 n.kind):=(hb.cell (p:=⟨pb,po+i*14,none⟩) hpb).trans (hcell 0 (by omega));have k1:w1.cell? ⟨pb,po+i*14+1,none⟩=some (.int .i64 n.num):=(hb.cell (p:=⟨pb,po+i*14+1,none⟩) hpb).trans (hcell 1 (by omega));have k2:w1.cell? ⟨pb,po+i*14+2,none⟩=some (.string n.text):=(hb.cell (p:=⟨pb,po+i*14+2,none⟩) hpb).trans (hcell 2 (by omega));have k3:w1.cell? ⟨pb,po+i*14+3,none⟩=some (.string n.ref.sh):=(hb.cell (p:=⟨pb,po+i*14+3,none⟩) hpb).trans (hcell 3 (by omega));have k4:w1.cell? ⟨pb,po+i*14+4,none⟩=some (.int .i64 n.ref.c):=(hb.cell (p:=⟨pb,po+i*14+4,none⟩) hpb).trans (hcell 4 (by omega));have k5:w1.cell? ⟨pb,po+i*14+5,none⟩=some (.int .i64 n.ref.r):=(hb.cell (p:=⟨pb,po+i*14+5,none⟩) hpb).trans (hcell 5 (by omega));have k6:w1.cell? ⟨pb,po+i*14+6,none⟩=some (.bool n.ref.ac):=(hb.cell (p:=⟨pb,po+i*14+6,none⟩) hpb).trans (hcell 6 (by omega));have k7:w1.cell? ⟨pb,po+i*14+7,none⟩=some (.bool n.ref.ar):=(hb.cell (p:=⟨pb,po+i*14+7,none⟩) hpb).trans (hcell 7 (by omega));have k8:w1.cell? ⟨pb,po+i*14+8,none⟩=some (.string n.af.sh):=(hb.cell (p:=⟨pb,po+i*14+8,none⟩) hpb).trans (hcell 8 (by omega));have k9:w1.cell? ⟨pb,po+i*14+9,none⟩=some (.int .i64 n.af.c):=(hb.cell (p:=⟨pb,po+i*14+9,none⟩) hpb).trans (hcell 9 (by omega));have k10:w1.cell? ⟨pb,po+i*14+10,none⟩=some (.int .i64 n.af.r):=(hb.cell (p:=⟨pb,po+i*14+10,none⟩) hpb).trans (hcell 10 (by omega));have k11:w1.cell? ⟨pb,po+i*14+11,none⟩=some (.bool n.af.ac):=(hb.cell (p:=⟨pb,po+i*14+11,none⟩) hpb).trans (hcell 11 (by omega));have k12:w1.cell? ⟨pb,po+i*14+12,none⟩=some (.bool n.af.ar):=(hb.cell (p:=⟨pb,po+i*14+12,none⟩) hpb).trans (hcell 12 (by omega));have k13:w1.cell? ⟨pb,po+i*14+13,none⟩=some (.slice aN m ck):=(hb.cell (p:=⟨pb,po+i*14+13,none⟩) hpb).trans (hcell 13 (by omega));have HK:=ae hk;have HT:=ae (show bq ns (i:Int)=sb n.text++40 :: (iE (n.kids.map (bq ns))++[41])by rw[ll.o,if_neg (by omega),if_neg (by omega),if_neg (by omega),if_neg (by omega),if_neg (by omega),if_neg (by omega),if_pos hk]);have hjl:(iE (n.kids.map (bq ns))).length+n.text.size+2≤1000000000:=by rw[HT.o]at hlen;simp only[ak,aO,dI,aV]at hlen;omega
 have Cm:=ae (show ∀(j:Nat)(x:Int),n.kids[j]? = some x→∃y:Nat,x=(y:Int)∧∀w2,Below w.heap.size w w2→Calls Tryz.prog 15 #[.slice (some ⟨pb,po,none⟩) nl cap,.int .i64 (y:Int)] w2 (ShR ns y w2)from fun j x hx=>by
  obtain⟨y,e,hy, -⟩:=C.kid hi (fu hx);refine⟨y,e, ?_⟩;have hl:=QY (n.kids.map (bq ns)) j (bq ns (y:Int)) (by rw[iw,hx,e];rfl);have:=IH y hy (by omega);rw[hnl]at this;exact this)
 clear IH;clear hk hlen;have hB3:Below w1.heap.size w1 (w1.alloc (.cells #[.int .i64 n.kind,.int .i64 n.num,.string n.text,.string n.ref.sh,.int .i64 n.ref.c,.int .i64 n.ref.r,.bool n.ref.ac,.bool n.ref.ar,.string n.af.sh,.int .i64 n.af.c,.int .i64 n.af.r,.bool n.af.ac,.bool n.af.ar,.slice aN m ck] 45)):=(ai _ _).alloc (ah _) _;have aB:ax (w1.alloc (.cells #[.int .i64 n.kind,.int .i64 n.num,.string n.text,.string n.ref.sh,.int .i64 n.ref.c,.int .i64 n.ref.r,.bool n.ref.ac,.bool n.ref.ar,.string n.af.sh,.int .i64 n.af.c,.int .i64 n.af.r,.bool n.af.ac,.bool n.af.ar,.slice aN m ck] 45)) w1.heap.size n (.slice aN m ck):=ax.new w1 n _;have HB3:=ae hB3;clear hB3 C hi bW hcell iK hkc dn hm hnl gT hlf hsk hb;go_enter Tryz.func15,Tryz.ntmps15;go_upto_region 2 with (fail)
 generalize hb3:w1.heap.size=b3 at aB ⊢;generalize w1.alloc (.cells #[.int .i64 n.kind,.int .i64 n.num,.string n.text,.string n.ref.sh,.int .i64 n.ref.c,.int .i64 n.ref.r,.bool n.ref.ac,.bool n.ref.ar,.string n.af.sh,.int .i64 n.af.c,.int .i64 n.af.r,.bool n.af.ac,.bool n.af.ar,.slice aN m ck] 45)=w3 at aB HB3 ⊢;clear hb3 k0 k1 k2 k3 k4 k5 k6 k7 k8 k9 k10 k11 k12 k13;obtain⟨x0,x1,x2,x3,x4,x5,x6,x7,av,aJ,aG,aH,aI,aF⟩:=aB.cells;have hb3:=aB.lt;have aB:=ae aB;have hk:=HK.o;have e1:(n.kind == 1)=false:=by rw[hk];rfl
 have e2:(n.kind == 2)=false:=by rw[hk];rfl
 have e3:(n.kind == 3)=false:=by rw[hk];rfl
 have e4:(n.kind == 4)=false:=by rw[hk];rfl
 have e5:(n.kind == 5)=false:=by rw[hk];rfl
 have e6:(n.kind == 6)=false:=by rw[hk];rfl
 have e7:(n.kind == 7)=true:=by rw[hk];rfl
 clear hk;have rM:=ae (HB.o.trans (HB3.o.mono HB.o.size));have hzt:=hz1;have q0:¬ 9223372036854775807<n.text.size+(⟨#[40]⟩:ByteArray).size:=by show ¬ _<n.text.size+1;omega
 have q00:¬ 9223372036854775807<n.text.size+1:=by omega
 go_upto_region 20 with (fail)
 go_loopw [6,7] (fun tv iv wr=>∃(j:Nat),j≤m∧iv = .int .i64 (j:Int)∧tv = .string (strOfNums (kC n ns j))∧Hid (Below w3.heap.size w3 wr))
  (fun _ iv _=>m - (intOf iv).toNat)
 case atStart=>exact⟨0,dV _,rfl,congrArg Value.string (XI n ns),ae (ai _ _)⟩
 case round =>
  obtain⟨j,hj,rfl,rfl,HW⟩:=hrel;have hcl:=XG n ns j;have y13:=(HW.o.cell (p:=⟨b3,13,none⟩) hb3).trans aF;by_cases hlt:j<m
  · have hji:(j:Int)<(m:Int):=by omega
    have hj0:(0:Int)≤(j:Int):=by omega
    obtain⟨x,hx⟩:∃x,n.kids[j]? = some x:=⟨_,dm (by rw[HM.o];exact hlt)⟩;have Bh:=XH n ns j x hx;obtain⟨y,rfl,vJ⟩:=Cm.o j x hx;have hsl:=QY (n.kids.map (bq ns)) j (bq ns (y:Int)) (by rw[iw,hx];rfl);rcases qU.o with e|⟨kb,eZ,rfl,hkb,vL⟩
    · exfalso;rw[e]at hx;simp at hx
    have P9:kb<w1.heap.size:=dY hkb HB.o.size;have d0:wr.cell? ⟨kb,eZ+j,none⟩=some (.int .i64 (y:Int)):=(HW.o.cell (p:=⟨kb,eZ+j,none⟩) (dY P9 HB3.o.size)).trans ((HB3.o.cell (p:=⟨kb,eZ+j,none⟩) P9).trans ((HB.o.cell (p:=⟨kb,eZ+j,none⟩) hkb).trans (vL j _ hx)));have xA:=ae (vJ wr (rM.o.trans (HW.o.mono rM.o.size)));have hs1:(strOfNums (kC n ns j)).size=(kC n ns j).length:=strOfNums_size _;have hs2:(strOfNums (bq ns (y:Int))).size=(bq ns (y:Int)).length:=strOfNums_size _;by_cases h0:j=0
    · have hg:¬ (0:Int)<(j:Int):=by omega
      rw[if_pos h0]at Bh;have dG:=ae (show strOfNums (kC n ns j)++strOfNums (bq ns (y:Int))=strOfNums (kC n ns (j+1))by rw[Bh,lZ]);obtain⟨t,ht⟩:∃t,strOfNums (kC n ns j)=t:=⟨_,rfl⟩;rw[ht]at dG hs1 ⊢;have q1:¬ 9223372036854775807<t.size+(strOfNums (bq ns (y:Int))).size:=by omega
      clear h0 Bh vJ hx vL hs1 hs2 hsl hcl ht;go_wp2_with (go_at_call 15;((with_reducible refine xA.o.mono ?_);rintro e w4 ⟨rfl,h1⟩;have wF:=ae (HW.o.trans (h1.mono HW.o.size));clear h1))
      go_roundw
      case rel=>exact⟨j+1,by omega,by go_num,congrArg Value.string dG.o,wF⟩
      case measure=>simp[intOf];omega
    · have hg:(0:Int)<(j:Int):=by omega
      rw[if_neg h0]at Bh;have dG:=ae (show(strOfNums (kC n ns j)++⟨#[44]⟩)++strOfNums (bq ns (y:Int))=strOfNums (kC n ns (j+1))by rw[Bh,show(⟨#[44]⟩:ByteArray)=strOfNums [44]by decide,lZ,lZ]);obtain⟨t,ht⟩:∃t,strOfNums (kC n ns j)=t:=⟨_,rfl⟩;rw[ht]at dG hs1 ⊢;have q1:¬ 9223372036854775807<t.size+(⟨#[44]⟩:ByteArray).size:=by show ¬ _<t.size+1;omega
      have q2:(t++(⟨#[44]⟩:ByteArray)).size=t.size+1:=by rw[ByteArray.size_append];rfl
      have q3:¬ 9223372036854775807<t.size+1+(strOfNums (bq ns (y:Int))).size:=by omega
      have q4:¬ 9223372036854775807<t.size+1:=by omega
      clear h0 Bh vJ hx vL hs1 hs2 hsl hcl ht;go_wp2_with (go_at_call 15;((with_reducible refine xA.o.mono ?_);rintro e w4 ⟨rfl,h1⟩;have wF:=ae (HW.o.trans (h1.mono HW.o.size));clear h1))
      go_roundw
      case rel=>exact⟨j+1,by omega,by go_num,congrArg Value.string dG.o,wF⟩
      case measure=>simp[intOf];omega
  · have hji:¬ (j:Int)<(m:Int):=by omega
    have HE:=ae (show strOfNums (kC n ns j)++⟨#[41]⟩=strOfNums (bq ns (i:Int))by
     rw[Uy,lZ,HT.o,XF n ns j (by rw[HM.o];omega)];simp)
    have hs1:(strOfNums (kC n ns j)).size=(kC n ns j).length:=strOfNums_size _;obtain⟨t,ht⟩:∃t,strOfNums (kC n ns j)=t:=⟨_,rfl⟩;rw[ht]at HE hs1 ⊢;have q1:¬ 9223372036854775807<t.size+(⟨#[41]⟩:ByteArray).size:=by show ¬ _<t.size+1;omega
    have q4:¬ 9223372036854775807<t.size+1:=by omega
    clear hs1 hcl ht;go_wp2_with fail
    go_ret;exact⟨lX HE.o,HB3.o.trans (HW.o.mono HB3.o.size)⟩
theorem Ue {w:World}{v:Value}{l:List (Nd × Value)}{ns:List Nd}(C:nL w v l ns):∀(m i:Nat),i<m→i<l.length→(bq ns (i:Int)).length≤1000000000→∀w1,Below w.heap.size w w1→Calls Tryz.prog 15 #[v,.int .i64 (i:Int)] w1 (ShR ns i w1)
 | 0,_,h,_,_,_,_=>absurd h (by omega)
 | m+1,i,him,hil,hlen,w1,hb=>by
   have IH:EM w v ns i:=fun j hj hl w2 hb2=>Ue C m j (by omega) (by omega) hl w2 hb2
   obtain⟨⟨n,k⟩,hi⟩:∃q,l[i]? = some q:=⟨_,dm hil⟩;obtain⟨-, -, -,k1,k19, -⟩:=qg (C.leaf hi);have hk:n.kind=1∨n.kind=2∨n.kind=3∨n.kind=4∨n.kind=5∨n.kind=6∨n.kind=7∨n.kind=8∨9≤n.kind:=by omega
   rcases hk with h|h|h|h|h|h|h|h|h
   · exact afU C i n k hi h w1 hb
   · exact afV C i n k hi h w1 hb
   · exact afW C i n k hi h w1 hb
   · exact afX C i n k hi h w1 hb
   · exact afY C i n k hi h w1 hb
   · exact afZ C i n k hi h w1 hb
   · exact af0 C i n k hi h hlen IH w1 hb
   · exact af1 C i n k hi h hlen IH w1 hb
   · exact af2 C i n k hi h hlen IH w1 hb
theorem ahc {ns:List Nd}(h:bR ns=true):0<ns.length:=by
 cases ns with
 | nil=>exact absurd h (by decide)
 | cons a l=>simp
theorem eF.oC {w w':World}{b:Nat}{v:Value}{vs:List (Nd × Value)}(h:eF w b v vs)(hf:bn w w' b)(hw:b<w.heap.size):eF w' b v vs:=by
 obtain⟨⟨A,cap,h1,h2⟩,h3⟩:=h;refine⟨⟨A,cap,h1,h2.imp id ?_⟩,fun p hp=>(h3 p hp).oC hf (ah _) hw⟩;rintro⟨pb,po,e1,e2,e3⟩;exact⟨pb,po,e1,e2,fun i n k hi j hj=>(fV (a:=⟨pb,po+i*14+j,none⟩) (hf.block pb (by omega) (by omega) (.inl e2))).trans (e3 i n k hi j hj)⟩
theorem eF.lift {w w':World}{B C:Nat}{v:Value}{vs:List (Nd × Value)}(h:eF w B v vs)(hb:Below B w w')(hC:B≤C):eF w' C v vs:=by
 obtain⟨⟨A,cap,h1,h2⟩,h3⟩:=h;refine⟨⟨A,cap,h1,h2.imp id ?_⟩,fun p hp => ?_⟩
 · rintro⟨pb,po,e1,e2,e3⟩
   exact⟨pb,po,e1,by omega,fun i n k hi j hj=>(hb.cell (p:=⟨pb,po+i*14+j,none⟩) e2).trans (e3 i n k hi j hj)⟩
 · obtain⟨A2,c2,g1,g2,g3,g4⟩:=h3 p hp
   refine⟨A2,c2,g1,g2,g3,g4.imp id ?_⟩;rintro⟨pb,po,e1,e2,e3⟩;exact⟨pb,po,e1,by omega,fun j x hj=>(hb.cell (p:=⟨pb,po+j,none⟩) e2).trans (e3 j x hj)⟩
def Mh(o:Option Value):Nat:=match o with|some (.slice _ n _)=>n|_=>0
theorem Uq {α : Type}{size:Nat}{E:Enc α size}{e:TypeId}{w:World}{base:Nat}{v:Value}{xs:List α}(h:Own E e w base v xs):Mh (some v)=xs.length:=by
 rcases h.shape with ⟨rfl,rfl⟩|⟨g,cap,rfl, -⟩
 · rfl
 · rfl
def nA(b L:Nat)(w:World):Nat:=2*(L - Mh (w.cell? ⟨b,3,none⟩)) - Mh (w.cell? ⟨b,1,none⟩)
theorem dC.nA {w:World}{b:Nat}{nv:Value}{st:List ay}{txt:List Int}(h:dC w b nv st txt)(L:Nat):nA b L w=2*(L - txt.length) - st.length:=by
 obtain⟨wv,⟨ad,bv,h1,_,h3,_⟩,h4⟩:=h;obtain⟨-,c1, -,c3⟩:=h1.facts;unfold Go.Proofs.YtaobhjliflomaaaGreatDoor.nA;rw[c1,c3,Uq h4,Uq h3]
theorem dC.wait {w:World}{b:Nat}{nv:Value}{st:List ay}{txt:List Int}(h:dC w b nv st txt):∃A c,w.cell? ⟨b,1,none⟩=some (.slice A st.length c):=by
 obtain⟨wv,⟨ad,bv,h1, -⟩,h4⟩:=h;have c1:=h1.facts.2.1;rcases h4.shape with ⟨rfl,rfl⟩|⟨g,cap,rfl, -⟩
 · exact⟨_,_,c1⟩
 · exact⟨_,_,c1⟩
theorem adT (w:World)(v:Value)(vs:List (Nd × Value))(hv:Vars w)(mD:kP w)(Fw:qb w)(hsh:qc w)(h:eF w w.heap.size v vs)(hz:SZ vs)(bE:∀q∈vs,q.1.num≤9223372036854775807)(hlen:(cB (vs.map (·.1))).length≤1000000000)(ht:bR (vs.map (·.1))=true) :
 Calls Tryz.prog 20 #[v] w fun e w'=>e = .returned (.string (strOfNums (cB (vs.map (·.1)))))∧Below w.heap.size w w':=by
 have hT:=SV w v vs hv h hz ht;have HT:=ae hT;obtain⟨l,hl⟩:∃l,vs.map (·.1)=l:=⟨_,rfl⟩
 have lH:0<vs.length:=by
  rcases Nat.eq_zero_or_pos vs.length with e|e
  · rw[List.length_eq_zero_iff.1 e]at ht;exact absurd ht (by decide)
  · exact e
 have hlv:l.length=vs.length:=by rw[← hl,fw]
 obtain⟨L,hL⟩:∃L,(cB l).length=L:=⟨_,rfl⟩;rw[hl,hL]at hlen;have hpl:cB l=bq l ((l.length:Int) - 1):=by unfold cB bq;rw[if_pos (hl ▸ ht)]
 have hp0:j3 l (ay.op ((l.length:Int) - 1) 1)=cB l:=by rw[BA,Kw,hpl]
 have Fz:jw l (ay.op ((l.length:Int) - 1) 1):=jw.op (by omega) (by omega) 1;rw[hlv]at hp0 Fz;obtain⟨N,hN⟩:∃N,vs.length=N:=⟨_,rfl⟩;have hN9:N≤1000:=by rw[← hN];exact hz.1
 rw[hN]at hp0 Fz lH;have hw1:wrap64 ((N:Int) - 1)=(N:Int) - 1:=by unfold wrap64;omega
 obtain⟨A,cap,hva⟩:=h.sP;rw[hN]at hva;subst hva;have Wl:=ae h;have gN:=ae hz;have Ny:=ae bE;have AU:=ae ht;have HL:=ae hl;have yV:=ae hL;have VN:=ae hp0;have VK:=ae Fz;have Vw:=ae (show kP w∧qb w∧qc w from⟨mD,Fw,hsh⟩);rw[hl];clear hT hv mD Fw hsh h hz bE ht hl hL hpl hp0 Fz hlv hN;go_enter Tryz.func20,Tryz.ntmps20;go_upto_region 3 with (go_at_call 37;((with_reducible refine HT.o.mono ?_);rintro e w1 ⟨rfl,h1⟩;have H1:=ae h1;clear h1))
 go_upto_region 4 with (fail)
 have hwr:gy (w1.alloc (.cells #[.slice A N cap,.slice none 0 0,.pointer none,.slice none 0 0] 84)) w1.heap.size (.slice A N cap) (.slice none 0 0) (.pointer none) (.slice none 0 0):=(ko w1 _).1;have hB2:Below w1.heap.size w1 (w1.alloc (.cells #[.slice A N cap,.slice none 0 0,.pointer none,.slice none 0 0] 84)):=(ai _ _).alloc (ah _) _;obtain⟨b,hb⟩:∃b,w1.heap.size=b:=⟨_,rfl⟩;obtain⟨w2,hw2⟩:∃w2,w1.alloc (.cells #[.slice A N cap,.slice none 0 0,.pointer none,.slice none 0 0] 84)=w2:=⟨_,rfl⟩;have hwb:w.heap.size≤b:=by rw[← hb];exact H1.o.size
 have HY:=ae (H1.o.trans (hB2.mono H1.o.size));rw[hw2]at hwr HY ⊢;rw[hb]at hwr ⊢;have hbl:b<w2.heap.size:=hwr.lt;have lG:=ae (show dC w2 b (.slice A N cap) [] []from⟨_,⟨_,_,hwr,.inl rfl,Own.nil _ _ _ _,fun x hx=>absurd hx (by simp)⟩,Own.nil _ _ _ _⟩);have HG2:=ae (show mK w w2 b from⟨hwb,HY.o,Vw.o⟩);have Wm:=ae (Wl.o.lift HY.o hwb);have p8:=ae (fun (wr:World)(hr:Below w2.heap.size w2 wr)=>Ad wr b (.slice A N cap) [] [ay.op ((N:Int) - 1) 1] [] #[.string ⟨#[]⟩,.int .i64 ((N:Int) - 1),.int .i64 1] 1 rfl rfl (lG.o.below hr) (by show 1≤1000000;decide) (dV _));clear hw2 hb hwr hB2 HT
 go_upto_region 5 with (first
  | (go_at_call 39;((with_reducible refine(Dy _ _ _).mono ?_);rintro e w3 ⟨rfl,h3⟩;have HB3:=ae h3;clear h3))
  | (go_at_call 38;((with_reducible refine(p8.o _ HB3.o).mono ?_);rintro e w4 ⟨rfl,h3,h4⟩;have VT:=ae h3;have dL:=ae ((bn.iq HB3.o).trans h4);clear h3 h4)))
 go_loopw [] (fun wr=>∃(st:List ay)(txt:List Int),Hid (dC wr b (.slice A N cap) st txt)∧Hid (bn w2 wr b)∧Hid (∀p∈st,jw l p)∧Hid (txt++st.reverse.flatMap (j3 l)=cB l))
  (fun wr=>nA b L wr)
 case atStart=>exact⟨[ay.op ((N:Int) - 1) 1],[],VT,dL,ae (fun p hp=>by rw[List.mem_singleton.1 hp];exact VK.o),ae (by show j3 l (ay.op ((N:Int) - 1) 1)++[]=_;rw[fM];exact VN.o)⟩
 case round =>
  obtain⟨st,txt,HQ,HF,kM,HE⟩:=hrel;rcases List.eq_nil_or_concat st with rfl|⟨st',p,rfl⟩
  · obtain⟨Vf,cw,c1⟩:=HQ.o.wait
    rw[dI]at c1;have nY:=ae (show txt=cB l from by have h:=HE.o;rw[List.reverse_nil,List.flatMap_nil,fM]at h;exact h);obtain⟨wv,hws, -⟩:=HQ.o;have Wp:=ae (agA wr b (.slice A N cap) wv txt hws (by rw[nY.o];exact HL.o ▸ MF AU.o (fun n hn=>by obtain⟨q,hq,rfl⟩:=List.mem_map.1 hn;exact Ny.o q hq)));clear hws;go_wp2_with (go_at_call 42;((with_reducible refine Wp.o.mono ?_);rintro e w5 ⟨rfl,h3⟩;have fE:=ae h3;clear h3))
    go_ret;refine⟨by rw[nY.o] <;> rfl, ?_⟩;have hg:=((HG2.o.oC HF.o)).2.1;exact hg.trans ((fE.o.mono (by omega)))
  · rw [List.concat_eq_append]at HQ kM HE
    obtain⟨Vf,cw,c1⟩:=HQ.o.wait;rw[ak,fK]at c1;obtain⟨M,hM⟩:∃M:Nat,st'.length+1=M:=⟨_,rfl⟩;have hM0:(0:Int)<(M:Int):=by omega
    rw[hM]at c1;have htr:bR l=true:=by rw[← HL.o];exact AU.o
    have hpk:jw l p:=kM.o p (by simp);have hE:=HE.o;rw[List.reverse_append,List.reverse_singleton,List.singleton_append,oP]at hE;have hE2:=congrArg List.length hE;rw[ak,ak,yV.o]at hE2;have hfl:=Fh htr st'.reverse (fun q hq=>kM.o q (List.mem_append_left _ (List.mem_reverse.1 hq)));rw[List.length_reverse]at hfl;have JU:=Uw htr p hpk;have PK:=congrArg List.length JU;rw[ak]at PK;have Zk:=Fh htr _ (Mk htr p hpk);have hSM:=agv htr p hpk;have VO:=ae (adM wr b (.slice A N cap) st' p txt HQ.o (by omega));have NS:=ae (fun (w5:World)(h5:dC w5 b (.slice A N cap) st' txt)(hf:ib wr w5 b)=>ahM w w5 b (.slice A N cap) vs st' txt p (HG2.o.oC (HF.o.trans (bn.sQ hf))) h5 (Wm.o.oC (HF.o.trans (bn.sQ hf)) hbl) gN.o (by rw[HL.o];exact htr) Ny.o (by rw[HL.o];exact hpk) (by rw[HL.o];omega) (by rw[HL.o];omega));rw[HL.o]at NS
    have VX:=ae (fun (w6:World)(hq:dC w6 b (.slice A N cap) (st'++(lY l p).2.reverse) (txt++(lY l p).1))=>show nA b L w6<nA b L wr from by
     rw[hq.nA,HQ.o.nA,ak,ak,ak,List.length_reverse,fK];omega)
    have Ia:=ae (show(txt++(lY l p).1)++(st'++(lY l p).2.reverse).reverse.flatMap (j3 l)=cB l from by
     rw[List.reverse_append,List.reverse_reverse,List.flatMap_append,bG txt, ← bG (lY l p).1, ← JU];exact hE)
    have VM:=ae (show ∀q∈st'++(lY l p).2.reverse,jw l q from fun q hq=>by
     rcases List.mem_append.1 hq with hq|hq
     · exact kM.o q (List.mem_append_left _ hq)
     · exact Mk htr p hpk q (List.mem_reverse.1 hq))
    clear hE hE2 hfl JU PK Zk hSM hM
    go_wp2_with (first
     | (go_at_call 41;((with_reducible refine VO.o.mono ?_);rintro e w5 ⟨rfl,h3,h4⟩;have rT:=ae h3;have aR:=ae h4;clear h3 h4))
     | (go_at_call 40;((with_reducible refine(NS.o _ rT.o aR.o).mono ?_);rintro e w6 ⟨rfl,h3,h4⟩;have vw:=ae h3;have dM:=ae h4;clear h3 h4)))
    go_roundw
    case rel=>exact⟨_,_,vw,ae (HF.o.trans ((bn.sQ aR.o).trans dM.o)),VM,Ia⟩
    case measure=>exact VX.o _ vw.o
theorem ac4 {n:Nd}(h:bX n=true)(h1:n.ref.sh.size≤1000000)(h2:n.af.sh.size≤1000000):CL n:=by
 have hz:∀f:bC,fe f=true→f.r≤1000000∧f.c≤1000000:=fun f hf=>by rw[R8 hf];exact⟨by decide,by decide⟩
 have hm:∀f:bC,bO f=true→f.r≤1000000∧f.c≤1000000:=fun f hf=>by have:=RF hf;omega
 by_cases k5:n.kind=5
 · have hf:=Tt h k5
   exact⟨(hm _ hf.may).1,(hm _ hf.may).2,(hz _ hf.af).1,(hz _ hf.af).2,h1,h2⟩
 by_cases k6:n.kind=6
 · have hf:=Te h k6
   exact⟨(hm _ hf.may).1,(hm _ hf.may).2,(hm _ hf.RB).1,(hm _ hf.RB).2,h1,h2⟩
 have hl:=K4 h;unfold aD at hl;split at hl
 · cases hl
 rename_i c
 have hr:fe n.ref=true:=by
  cases e:fe n.ref with
  | true=>rfl
  | false=>exact absurd (.inr (.inr (.inl ⟨k5,k6,e⟩))) c
 have ht:fe n.af=true:=by
  cases e:fe n.af with
  | true=>rfl
  | false=>exact absurd (.inr (.inr (.inr ⟨k6,e⟩))) c
 exact⟨(hz _ hr).1,(hz _ hr).2,(hz _ ht).1,(hz _ ht).2,h1,h2⟩
theorem UQ:∀(l:List Nd)(st:List Int)(i:Nat),mI st i l=true→st.length≤i→∀n∈l,n.kids.length≤i+l.length
 | [],_,_,_,_,n,hn=>by cases hn
 | m :: l,st,i,h,hi,n,hn=>by
   rw[mJ,Bool.and_eq_true_iff,Bool.and_eq_true_iff,Bool.and_eq_true_iff]at h;have h2:m.kids.length≤st.length:=of_decide_eq_true h.2.1;rcases List.mem_cons.1 hn with rfl|hn
   · rw[aO];omega
   · have:=UQ l _ _ h.2.2.2 (by rw[ak,gK];show _+1≤_;omega) n hn
     rw[aO];omega
theorem acM {l:List (Nd × Value)}(ht:bR (l.map (·.1))=true)(hz:SZ l):N8 l :=
 ⟨hz.1,fun p hp=>ac4 (MG _ [] 0 ht p.1 (List.mem_map_of_mem hp)) (hz.2 p hp).2.1 (hz.2 p hp).2.2,fun p hp=>by
  have:=UQ _ [] 0 ht (ah _) p.1 (List.mem_map_of_mem hp);have:=hz.1;rw[fw]at *;omega⟩
def EE (w:World)(own:ByteArray)(ss:List Sf)(ns:List Nd)(e:Ending)(w':World):Prop :=
 ∃T done,e = .returned (.slice (some ⟨T,0,none⟩) ns.length ns.length)∧eF w' w'.heap.size (.slice (some ⟨T,0,none⟩) ns.length ns.length) done∧done.map (·.1)=mF own ss ns∧Below w.heap.size w w'∧w.heap.size≤T
theorem acm (w:World)(own:ByteArray)(xs:List bu)(A B:Option Addr)(n cap m c:Nat)(l:List (Nd × Value))(hv:Vars w)(hS:mW w w.heap.size (.slice B m c) xs)(hm:m≤1000000)(hO:∀x∈xs,og x.s)(ho:own.size≤maxLen)(hs:eF w w.heap.size (.slice A n cap) l)(hz:SZ l)(ht:bR (l.map (·.1))=true) :
 Calls Tryz.prog 21 #[.slice A n cap,.string own,.slice B m c] w (EE w own (jq xs) (l.map (·.1))):=by
 have hl:l.length=n:=by obtain⟨⟨A',c',e,_⟩,_⟩:=hs;injection e with _ e _;exact e.symm
 have HT:=ae (SV w _ l hv hs hz ht);have Cr:=ae (fun (wq:World)(hq:Below w.heap.size w wq)=>acw wq own B m c xs (hS.lift hq) hm);have Vq:=ae (fun (wq:World)(hq:Below w.heap.size w wq)(mb:Nat)(hM:iO wq mb (qC xs))=>acj wq own mb xs A n cap l hM (fun x hx=>(hS.2 x hx).lift hq) hO ho ((hs.lift hq hq.size)) hl (acM ht hz));unfold EE;rw[fw,hl];clear hv hS hm hO ho hs hz ht hl;go_enter Tryz.func21,Tryz.ntmps21
 go_wp2_with (first
  | (go_at_call 37;((with_reducible refine HT.o.mono ?_);rintro e w2 ⟨rfl,hq⟩;have H2:=ae hq;clear hq))
  | (go_at_call 44;((with_reducible refine(Cr.o _ H2.o).mono ?_);rintro e w3 ⟨mb,rfl,h1,h2,hq⟩;have H3:=ae (H2.o.trans (hq.mono H2.o.size));have vk:=ae h2;clear hq h1 h2))
  | (go_at_call 43;((with_reducible refine(Vq.o _ H3.o mb vk.o).mono ?_);rintro e w4 ⟨done,rfl,h1,h2,hq⟩;have H4:=ae (H3.o.trans (hq.mono H3.o.size));have HD1:=ae h1;have HD2:=ae h2;clear hq h1 h2)))
 go_ret;exact⟨_,done,rfl,HD1.o,HD2.o,H4.o,H3.o.size⟩
def kdL:List Int→Int
 | []=>0
 | c :: _=>if c=39 then 1 else if c=61 then 2 else if c=45∨isNum c=true then 3 else 4
def kd(s:ByteArray):Int:=kdL (sb s)
structure Sx (w:World):Prop where
 vars:Vars w
 ops:mQ w
 tab:kP w
 max:qb w
 sh:qc w
theorem Sx.below{w w':World}(h:Sx w)(hb:Below w.heap.size w w'):Sx w':=⟨h.vars.below hb,h.ops.below hb,h.tab.below hb,h.max.below hb,h.sh.below hb⟩
theorem Sx.SL {w:World}(h:Sx w)(v:Value)(vs:List (Nd × Value))(hs:eF w w.heap.size v vs)(hz:SZ vs)(bE:∀q∈vs,q.1.num≤9223372036854775807)(hlen:(cB (vs.map (·.1))).length≤1000000000)(ht:bR (vs.map (·.1))=true) :
 Calls Tryz.prog 20 #[v] w fun e w'=>e = .returned (.string (strOfNums (cB (vs.map (·.1)))))∧Below w.heap.size w w':=adT w v vs h.vars h.tab h.max h.sh hs hz bE hlen ht
def EO(M:Nat)(t:ag):Prop:=t.text.size≤M∧t.sh.size≤M
def uf(M:Nat)(n:Nd):Prop:=n.text.size≤M∧n.ref.sh.size≤M∧n.af.sh.size≤M
def mr(M:Nat)(ts:List ag):Prop:=∀t∈ts,EO M t
def lu(M:Nat)(ns:List Nd):Prop:=∀n∈ns,uf M n
theorem mr.tail{M:Nat}{ts:List ag}(h:mr M ts):mr M ts.tail:=fun t ht=>h t (List.mem_of_mem_tail ht)
theorem lu.app{M:Nat}{a b:List Nd}(h:lu M a)(k:lu M b):lu M (a++b):=fun n hn=>(List.mem_append.1 hn).elim (h n) (k n)
theorem lu.one{M:Nat}{n:Nd}(h:uf M n):lu M [n]:=fun m hm=>by rw[List.mem_singleton]at hm;subst hm;exact h
theorem uf.plain(M:Nat)(k n:Int)(ks:List Int):uf M { Nd.zero with kind:=k,num:=n,kids:=ks }:=⟨dV _,dV _,dV _⟩
theorem aeq {M base:Nat}{t:ag}{ts:List ag}{ns:List Nd}{a:Nat}{r:List ag}(ht:EO M t)(hs:mr M ts)(h:jc base t ts = .ok (ns,a,r)):lu M ns∧mr M r:=by
 unfold jc at h;split at h
 · split at h
   · rename_i u us hu
     split at h
     · injection h with h;injection h with h1 h2;injection h2 with h2 h3
       subst h1;subst h3;have QC:mr M (u :: us):=by rw[← hu];exact hs.tail
       exact⟨lu.one ⟨dV _,ht.2,(QC u (by simp)).2⟩,fun x hx=>QC x (by simp[hx])⟩
     · cases h
   · cases h
 · injection h with h;injection h with h1 h2;injection h2 with h2 h3
   subst h1;subst h3;exact⟨lu.one ⟨dV _,ht.2,dV _⟩,hs⟩
theorem Ul (M:Nat):∀f:Nat,(∀n deep base ts ns a r,dX f n deep base ts=some (.ok (ns,a,r))→mr M ts→lu M ns∧mr M r) ∧
 (∀n deep base ns a ts ns' a' r,gZ f n deep base ns a ts=some (.ok (ns',a',r))→mr M ts→lu M ns→lu M ns'∧mr M r) ∧
 (∀deep base ts ns a r,iU f deep base ts=some (.ok (ns,a,r))→mr M ts→lu M ns∧mr M r) ∧
 (∀deep base ns ks ts ns' ks' r,gB f deep base ns ks ts=some (.ok (ns',ks',r))→mr M ts→lu M ns→lu M ns'∧mr M r)
 | 0=>by
   refine⟨?_, ?_, ?_, ?_⟩
   · intro n deep base ts ns a r h;unfold dX at h;cases h
   · intro n deep base ns a ts ns' a' r h;unfold gZ at h;cases h
   · intro deep base ts ns a r h;unfold iU at h;cases h
   · intro deep base ns ks ts ns' ks' r h;unfold gB at h;cases h
 | f + 1 => by
   obtain⟨i1,i2,i3,i4⟩:=Ul M f;refine⟨?_, ?_, ?_, ?_⟩
   · intro n deep base ts ns a r h ht
     rw[kR]at h;by_cases c:n≤3
     · rw [if_pos c]at h
       rcases dP h with ⟨e,_,h2⟩|⟨ms,b,s,h1,h2⟩
       · cases h2
       · obtain⟨k1,k2⟩:=i1 _ _ _ _ _ _ _ h1 ht
         exact i2 _ _ _ _ _ _ _ _ _ h2 k2 k1
     · rw [if_neg c]at h
       by_cases d:au ⟨#[45]⟩ ts=true
       · rw [if_pos d]at h
         by_cases d2:12≤deep
         · rw[if_pos d2]at h;cases h
         · rw [if_neg d2]at h
           rcases dP h with ⟨e,_,h2⟩|⟨ms,b,s,h1,h2⟩
           · cases h2
           · obtain⟨k1,k2⟩:=i1 _ _ _ _ _ _ _ h1 ht.tail
             injection h2 with h2;injection h2 with h2;injection h2 with h3 h4;injection h4 with h4 h5;subst h3;subst h4;subst h5;exact⟨k1.app (lu.one (uf.plain _ _ _ _)),k2⟩
       · rw[if_neg d]at h;exact i3 _ _ _ _ _ _ h ht
   · intro n deep base ns a ts ns' a' r h ht hn
     rw[pG]at h;by_cases c:eH n ts=0
     · rw[if_pos c]at h
       injection h with h;injection h with h;injection h with h1 h2;injection h2 with h2 h3;subst h1;subst h2;subst h3;exact⟨hn,ht⟩
     · rw [if_neg c]at h
       rcases dP h with ⟨e,_,h2⟩|⟨ms,b,s,h1,h2⟩
       · cases h2
       · obtain⟨k1,k2⟩:=i1 _ _ _ _ _ _ _ h1 ht.tail
         exact i2 _ _ _ _ _ _ _ _ _ h2 k2 (hn.app (k1.app (lu.one (uf.plain _ _ _ _))))
   · intro deep base ts ns a r h ht
     cases ts with
     | nil=>rw[yx]at h;cases h
     | cons t ts =>
       have h0:EO M t:=ht t (by simp);have hts:mr M ts:=fun x hx=>ht x (by simp[hx])
       have leaf:∀(x:Nd),uf M x→(some (.ok ([x],base,ts)):Option dR)=some (.ok (ns,a,r))→lu M ns∧mr M r:=by
        intro x hk h;injection h with h;injection h with h;injection h with h1 h2;injection h2 with h2 h3;subst h1;subst h2;subst h3;exact⟨lu.one hk,hts⟩
       rw[kZ]at h;by_cases c1:au ⟨#[40]⟩ (t :: ts)=true
       · rw [if_pos c1]at h
         by_cases d2:12≤deep
         · rw[if_pos d2]at h;cases h
         · rw [if_neg d2]at h
           rcases dP h with ⟨e,_,h2⟩|⟨ms,b,s,h1,h2⟩
           · cases h2
           · obtain ⟨k1,k2⟩:=i1 _ _ _ _ _ _ _ h1 hts
             split at h2
             · injection h2 with h2;injection h2 with h2;injection h2 with h3 h4;injection h4 with h4 h5
               subst h3;subst h4;subst h5;exact⟨k1,k2.tail⟩
             · cases h2
       rw[if_neg c1]at h;by_cases c2:t.kind=1
       · rw[if_pos c2]at h;exact leaf _ (uf.plain _ _ _ _) h
       rw[if_neg c2]at h;by_cases c3:t.kind=2
       · rw[if_pos c3]at h;exact leaf _ ⟨h0.1,dV _,dV _⟩ h
       rw[if_neg c3]at h;by_cases c4:t.kind=6
       · rw[if_pos c4]at h;exact leaf _ (uf.plain _ _ _ _) h
       rw[if_neg c4]at h;by_cases c5:t.kind=4
       · rw[if_pos c5]at h;injection h with h;exact aeq h0 hts h
       rw[if_neg c5]at h;by_cases c6:t.kind=3
       · rw [if_pos c6]at h
         by_cases e1:t.text=⟨#[84,82,85,69]⟩
         · rw[if_pos e1]at h;exact leaf _ (uf.plain _ _ _ _) h
         rw[if_neg e1]at h;by_cases e2:t.text=⟨#[70,65,76,83,69]⟩
         · rw[if_pos e2]at h;exact leaf _ (uf.plain _ _ _ _) h
         rw[if_neg e2]at h;by_cases e3:au ⟨#[40]⟩ ts=true
         · rw [if_pos e3]at h
           by_cases d2:12≤deep
           · rw[if_pos d2]at h;cases h
           · rw [if_neg d2]at h
             rcases dP h with ⟨e,_,h2⟩|⟨ms,ks,s,h1,h2⟩
             · cases h2
             · have hk:lu M ms∧mr M s:=by
                split at h1
                · injection h1 with h1;injection h1 with h1;injection h1 with h3 h4;injection h4 with h4 h5
                  subst h3;subst h5;exact⟨fun _ h=>absurd h (by simp),hts.tail⟩
                · exact i4 _ _ _ _ _ _ _ _ h1 hts.tail (fun _ h=>absurd h (by simp))
               split at h2
               · injection h2 with h2;injection h2 with h2;injection h2 with h3 h4;injection h4 with h4 h5
                 subst h3;subst h4;subst h5;exact⟨hk.1.app (lu.one ⟨h0.1,dV _,dV _⟩),hk.2.tail⟩
               · cases h2
         · rw[if_neg e3]at h;cases h
       · rw[if_neg c6]at h;cases h
   · intro deep base ns ks ts ns' ks' r h ht hn
     rw[oo]at h;rcases dP h with ⟨e,_,h2⟩|⟨ms,b,s,h1,h2⟩
     · cases h2
     · obtain ⟨k1,k2⟩:=i1 _ _ _ _ _ _ _ h1 ht
       split at h2
       · exact i4 _ _ _ _ _ _ _ _ h2 k2.tail (hn.app k1)
       · injection h2 with h2;injection h2 with h2;injection h2 with h3 h4;injection h4 with h4 h5
         subst h3;subst h4;subst h5;exact⟨hn.app k1,k2⟩
theorem Sz {M f:Nat}{ts:List ag}{ns:List Nd}(h:kY f ts=some (.ok ns))(ht:mr M ts):lu M ns:=by
 unfold kY at h;rcases dP h with ⟨e,_,h2⟩|⟨ms,b,s,h1,h2⟩
 · cases h2
 · split at h2
   · injection h2 with h2;injection h2 with h2;subst h2
     exact((Ul M f).1 _ _ _ _ _ _ _ h1 ht).1
   · cases h2
end Go.Proofs.YtaobhjliflomaaaGreatDoor
