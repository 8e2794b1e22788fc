import Derived.Test.YtaobhjliflomaaaGreatDoorMW7
set_option maxRecDepth 100000
set_option maxHeartbeats 64000000
namespace Go.Proofs.YtaobhjliflomaaaGreatDoor
open Go.RowKit
variable {x:Int}{l vs:List (Nd × Value)}{ns:List Nd}{ts:List ai}{B M b f i:Nat}{n:Nd}{k v:Value}{w w':World}
theorem Qt (s:ByteArray)(a m:Nat):sb (s.extract a (a+m))=((sb s).drop a).take m:=by
 unfold sb;rw[← List.map_drop, ← List.map_take];congr 1;rw[ByteArray.data_extract,Array.toList_extract];rw[List.extract_eq_take_drop];congr 1;omega
theorem ae' (d:Rd)(m:Nat)(h:d.k+m<d.s.size):d.rest[m]? = some ((d.s[d.k+m].toNat:Nat):Int):=by
 unfold Rd.rest;rw[List.getElem?_drop,qC d.s _ h]
theorem NB (d:Rd)(s:ByteArray)(m p:Nat)(a:Int)(hs:d.s=s)(hp:d.k+m=p)(h:p<s.size)(ha:((s[p].toNat:Nat):Int)=a):d.rest.take (m+1)=d.rest.take m++[a]∧d.rest[m]? = some a:=by
 subst hs;subst hp;subst ha;exact⟨NA d m h,ae' d m h⟩
theorem NT (l:List Int)(h:∀x∈l,isNum x=true)(hl:l.length≤4):0≤dB l∧dB l≤9999:=by
 match l,hl,h with
 | [],_,_=>exact⟨by decide,by decide⟩
 | [a],_,h =>
   have h1:=jA (h a (by simp));unfold dB;simp only[List.foldl_cons,List.foldl_nil];omega
 | [a,b],_,h =>
   have h1:=jA (h a (by simp));have h2:=jA (h b (by simp));unfold dB;simp only[List.foldl_cons,List.foldl_nil];omega
 | [a,b,c],_,h =>
   have h1:=jA (h a (by simp));have h2:=jA (h b (by simp));have h3:=jA (h c (by simp));unfold dB;simp only[List.foldl_cons,List.foldl_nil];omega
 | [a,b,c,d],_,h =>
   have h1:=jA (h a (by simp));have h2:=jA (h b (by simp));have h3:=jA (h c (by simp));have h4:=jA (h d (by simp));unfold dB;simp only[List.foldl_cons,List.foldl_nil];omega
theorem ahs (p:Int→Bool)(d:Rd):((sb d.s).drop d.k).take (d.rest.takeWhile p).length=d.rest.takeWhile p:=by
 have e:=take_split p d.rest;have h:(d.rest.takeWhile p++d.rest.drop (d.rest.takeWhile p).length).take (d.rest.takeWhile p).length=d.rest.takeWhile p:=List.take_left;rw[e]at h;exact h
theorem UL:(Tryz.prog.info? 43).map (·.size)=some 5:=by kernel_rfl
theorem Da {ops:Array Oper}{rest:List Oper}{op:Oper}{a:Act}{Q:Exit→Act→World→Prop}(hgd:op.guard=none)(x y:Operand)(ho:op.op = .store 43 x y)
 (g:Nat) (s0:ByteArray) (c0 r0:Int) (Yg Yq:Bool) (s:ByteArray) (c r:Int) (ac ar:Bool) (hx:a.eval x = .pointer (some ⟨g,0,none⟩)) (hy:a.eval y = .agg #[.string s,.int .i64 c,.int .i64 r,.bool ac,.bool ar]) (hr:df w g s0 c0 r0 Yg Yq)
 (h:∀w',df w' g s c r ac ar→w.grownBy w' (some g)→wpList Tryz.prog ops Q rest (a.put op.dst undef) w'):wpList Tryz.prog ops Q (op :: rest) a w:=by
 refine wpList_store_row hgd 43 x y ho g 43 _ _ hx hy hr rfl UL ?_ (h _ (setRow_heap w g _ _ _ _ hr) (grownBy.Iz (grownBy.fP w _) _));intro v hv;simp only[eY,List.not_mem_nil,or_false]at hv;rcases hv with rfl|rfl|rfl|rfl|rfl <;> rfl
theorem df.load {s:ByteArray}{c r:Int}{ac ar:Bool}(h:df w b s c r ac ar):(loadVar 43 ⟨b,0,none⟩).run Tryz.prog w = .ok (.agg #[.string s,.int .i64 c,.int .i64 r,.bool ac,.bool ar]) w :=
 run_loadVar_row w b 43 43 _ _ _ h Tryz.underlying43 rfl UL
theorem CF {s:ByteArray}{c r:Int}{ac ar:Bool}(h:df w b s c r ac ar)(fn:Func)(tmps:Array Value)(ok:Bool)(p u:Tmp)(hf:fn.results=#[.cell p 43,.tmp u])(hp:tmps.getD p undef = .pointer (some ⟨b,0,none⟩))(hu:tmps.getD u undef = .bool ok) :
 (results fn tmps).run Tryz.prog w = .ok (.tuple #[.agg #[.string s,.int .i64 c,.int .i64 r,.bool ac,.bool ar],.bool ok]) w:=by
 rw[results_cell_tmp hf,hp,hu];simp[asAddr,h.load,Result.andThen]
theorem CP:Tryz.f48.results=#[.cell 2 43,.tmp 3]:=by kernel_rfl
theorem afa (d:Rd)(m:Nat)(h:d.s.size≤d.k+m):d.rest[m]? = none:=by
 rw[List.getElem?_eq_none_iff,ry];omega
theorem adp (d:Rd)(h:d.k<d.s.size)(h2:((d.s[d.k].toNat:Nat):Int)=36):d.mark=true:=by
 unfold Rd.mark;rw[M4 d h,h2];rfl
theorem ado (d:Rd)(h:d.k<d.s.size)(h2:¬ ((d.s[d.k].toNat:Nat):Int)=36):d.mark=false:=by
 unfold Rd.mark;rw[M4 d h,jq];intro h3;injection h3 with h3;exact h2 h3
theorem Tj(d:Rd)(s:ByteArray)(hs:d.s=s)(h:d.k<s.size)(h2:((s[d.k].toNat:Nat):Int)=36):d.mark=true:=by subst hs;exact adp d h h2
theorem Tg(d:Rd)(s:ByteArray)(hs:d.s=s)(h:d.k<s.size)(h2:¬ ((s[d.k].toNat:Nat):Int)=36):d.mark=false:=by subst hs;exact ado d h h2
theorem Ko(d:Rd):d.tK.k=d.k+(fo d.mark).length:=rfl
theorem Kq(d:Rd):d.Cb.k=d.k+(fo d.mark).length:=rfl
theorem adn(d:Rd)(h:d.s.size≤d.k):d.mark=false:=by unfold Rd.mark;rw[UT d h];rfl
theorem Tf(d:Rd)(s:ByteArray)(hs:d.s=s)(h:s.size≤d.k):d.mark=false:=by subst hs;exact adn d h
theorem UH (s:ByteArray)(w:World)(_hs:s.size≤1000000)(d1:Rd)(hs1:d1.s=s)(hk1:d1.k≤s.size)(RB:∀e,(Rd.start s).jX=some e→e=d1)(m:Nat)
 (hd1:(m=s.size∧d1.k=0∧d1.sh=⟨#[]⟩)∨(m<s.size∧0<m∧d1.k=m+1∧d1.sh=s.extract 0 m∧∀h:m<s.size,((s[m].toNat:Nat):Int)=33)) (QX:∀(k:Nat)(h:k<s.size),k<m→¬ ((s[k].toNat:Nat):Int)=33) :
 Calls Tryz.prog 48 #[.string s] w fun e w'=>nT (sb s) e∧Below w.heap.size w w':=by
 have hst:je w ((w.alloc (.cells #[.string ⟨#[]⟩,.int .i64 0,.int .i64 0,.bool false,.bool false] 43)).alloc (.cells #[.string ⟨#[]⟩,.int .i64 0,.int .i64 0,.bool false,.bool false] 43)) ⟨#[]⟩ 0 0 false false:=by
  have h0:=df.new w ⟨#[]⟩ 0 0 false false;have hsz:(w.alloc (.cells #[.string ⟨#[]⟩,.int .i64 0,.int .i64 0,.bool false,.bool false] 43)).heap.size=w.heap.size+1:=by simp
  have h1:=df.new (w.alloc (.cells #[.string ⟨#[]⟩,.int .i64 0,.int .i64 0,.bool false,.bool false] 43)) ⟨#[]⟩ 0 0 false false;rw[hsz]at h1;exact⟨h0.below ((ak _ _).alloc (aj _) _) h0.lt,h1,((ak _ _).alloc (aj _) _).alloc (by rw[hsz];omega) _⟩
 have HST:=ae hst;clear hst;have gy:=ae hs1;clear hs1;have XC:=ae RB;clear RB
 have ajN:d1.sh.size≤1000000:=by
  rcases hd1 with ⟨_,_,h⟩|⟨_,_,_,h,_⟩
  · rw[h];exact eP _
  · rw[h,ByteArray.size_extract];omega
 have HD1:=ae hd1;clear hd1;have xc:=ae QX;clear QX;go_enter Tryz.func48,Tryz.ntmps48;go_upto_block 0 with (fail)
 go_cut [5] (fun at_ wx=>at_ = .int .i64 (d1.k:Int)∧je w wx d1.sh 0 0 false false)
 case first =>
  go_wp2_with fail
  go_loopw [5,6] (fun at_ i wr=>∃k:Nat,k≤s.size∧k≤m∧at_ = .int .i64 0∧i = .int .i64 k∧Hid (je w wr ⟨#[]⟩ 0 0 false false))
   (fun _ i _=>s.size - (intOf i).toNat)
  case atStart=>exact⟨0,by omega,by omega,rfl,rfl,HST⟩
  case round =>
   clear HST;obtain⟨k,hk,dM,rfl,rfl,HST⟩:=hrel;by_cases hlt:k<s.size
   · have hki:(k:Int)<(s.size:Int):=by omega
     obtain⟨a,ha⟩:∃a:Int,(s[k].toNat:Int)=a:=⟨_,rfl⟩;by_cases hm:k<m
     · have aav:(a == 33)=false:=aA.2 (by rw[← ha];exact xc.o k hlt hm)
       go_wp2_with fail
       go_roundw
       case rel=>exact⟨k+1,by omega,by omega,rfl,by go_num,HST⟩
       case measure=>simp[intOf];omega
     · obtain rfl:k=m:=by omega
       have hd:=HD1.o.resolve_left (by omega);have aav:(a == 33)=true:=bA.2 (by rw[← ha];exact hd.2.2.2.2 hlt);have hk0:((k:Int) == 0)=false:=aA.2 (by have:=hd.2.1;omega);have ajD:(0:Int)≤(k:Int):=by omega
       have Dn:=ae hd;clear hd;obtain⟨x0,x1,x2,x3,x4⟩:=HST.o.ref.facts;clear x1 x2 x3 x4;have z0:=(HST.o.ref.frozen 0);go_wp2_with fail
       go_meet
       case rel=>exact⟨by rw[Dn.o.2.2.1];rfl,by rw[Dn.o.2.2.2.1];exact je.set 0 HST.o (.string (s.extract 0 k)) _ 0 0 false false rfl⟩
   · have hki:¬ (k:Int)<(s.size:Int):=by omega
     have hd:=HD1.o.resolve_right (by omega);have Dn:=ae hd;clear hd;go_wp2_with fail
     go_meet
     case rel=>exact⟨by rw[Dn.o.2.1];rfl,by rw[Dn.o.2.2];exact HST.o⟩
 case rest =>
  obtain⟨rfl,lU⟩:=hcut;clear HST;have HST:=ae lU;clear lU;go_upto_region 11 with (fail)
  go_cut [40] (fun t wx=>t = .bool d1.mark∧je w wx d1.sh 0 0 false false)
  case first =>
   by_cases hlt:d1.k<s.size
   · have hki:(d1.k:Int)<(s.size:Int):=by omega
     obtain⟨a,ha⟩:∃a:Int,(s[d1.k].toNat:Int)=a:=⟨_,rfl⟩;by_cases ik:a=36
     · have hj:(a == 36)=true:=bA.2 ik
       have hmk:d1.mark=true:=Tj d1 s gy.o hlt (by rw[ha,ik]);have kL:=ae hmk;clear hmk ik;go_wp2_with fail
       go_meet
       case rel=>exact⟨by rw[kL.o],HST.o⟩
     · have hj:(a == 36)=false:=aA.2 ik
       have hmk:d1.mark=false:=Tg d1 s gy.o hlt (by rw[ha];exact ik);have kL:=ae hmk;clear hmk ik;go_wp2_with fail
       go_meet
       case rel=>exact⟨by rw[kL.o],HST.o⟩
   · have hki:¬ (d1.k:Int)<(s.size:Int):=by omega
     have hmk:d1.mark=false:=Tf d1 s gy.o (by omega);have kL:=ae hmk;clear hmk;go_wp2_with fail
     go_meet
     case rel=>exact⟨by rw[kL.o],HST.o⟩
  case rest =>
   obtain⟨rfl,lU⟩:=hcut;clear HST;have HST:=ae lU;clear lU;go_upto_if 40 with (fail)
   go_cut [5] (fun k wx=>k = .int .i64 (d1.tK.k:Int)∧je w wx d1.sh 0 0 d1.mark false)
   case first =>
    obtain⟨x0,x1,x2,x3,x4⟩:=HST.o.ref.facts;have z0:=(HST.o.ref.frozen 0);have z1:=(HST.o.ref.frozen 1);have z2:=(HST.o.ref.frozen 2);have z3:=(HST.o.ref.frozen 3);have z4:=(HST.o.ref.frozen 4);cases hm:d1.mark with
    | true =>
      have kL:=ae hm;clear hm;go_wp2_with fail
      go_meet
      case rel=>exact⟨by rw[show d1.tK.k=d1.k+1 from by rw[Ko,kL.o];rfl];rfl,(by first|(rw[kL.o];exact je.set 3 HST.o (.bool true) d1.sh 0 0 true false rfl)|exact je.set 3 HST.o (.bool true) d1.sh 0 0 true false rfl)⟩
    | false =>
      have kL:=ae hm;clear hm;go_wp2_with fail
      go_meet
      case rel=>exact⟨by rw[show d1.tK.k=d1.k from by rw[Ko,kL.o];rfl],(by first|(rw[kL.o];exact HST.o)|exact HST.o)⟩
   case rest =>
    obtain⟨rfl,lU⟩:=hcut;clear HST;have HST:=ae lU;clear lU;obtain⟨d2,hd2⟩:∃d:Rd,d1.tK=d:=⟨_,rfl⟩;rw[hd2];have hs2:d2.s=s:=by rw[← hd2];exact gy.o
    have hk2:d2.k≤s.size:=by rw[← hd2,Ko, ← gy.o];exact G9 d1 (by rw[gy.o];exact hk1)
    obtain⟨d3,hd3⟩:∃d:Rd,d2.D7=d:=⟨_,rfl⟩;have hk3:d3.k=d2.k+(d2.rest.takeWhile aP).length:=by rw[← hd3];rfl
    have aa3:d3.k≤s.size:=by rw[hk3, ← hs2];exact Nt aP d2 (by rw[hs2];exact hk2)
    have hs3:d3.s=s:=by rw[← hd3];exact hs2
    have hc3:lY (d2.rest.takeWhile aP)=d3.c:=by rw[← hd3];rfl
    obtain⟨Hr,Eu⟩:∃b:Bool,jy (d2.rest.takeWhile aP)=b:=⟨_,rfl⟩
    have zf:sb (s.extract d2.k d3.k)=d2.rest.takeWhile aP:=by
     rw[hk3,Qt, ← hs2];exact ahs aP d2
    have aaL:(s.extract d2.k d3.k).size≤1000000:=by rw[ByteArray.size_extract];omega
    have hkp:(d2.k:Int)≤(d3.k:Int):=by omega
    have hps:(d3.k:Int)≤(s.size:Int):=by omega
    have HD2:=ae hd2;clear hd2;have HS2:=ae hs2;clear hs2;have HD3:=ae hd3;clear hd3;have ny:=ae hs3;clear hs3;have rY:=ae hc3;clear hc3;have oW:=ae hk3;clear hk3;have OL:=ae Eu;clear Eu;have XG:=ae zf;clear zf;go_upto_block 2 with (fail)
    go_cut [7] (fun t wx=>t = .int .i64 (d3.k:Int)∧je w wx d1.sh 0 0 d1.mark false)
    case first =>
     go_wp2_with fail
     go_loopw [7] (fun t wr=>∃m:Nat,d2.k+m≤s.size∧t = .int .i64 ((d2.k+m:Nat):Int)∧Hid (∀x∈d2.rest.take m,aP x=true)∧Hid (je w wr d1.sh 0 0 d1.mark false))
      (fun t _=>s.size - (intOf t).toNat)
     case atStart=>exact⟨0,by omega,rfl,ae (by simp),HST⟩
     case round =>
      clear HST;obtain⟨m,hm,rfl,kY,HST⟩:=hrel;obtain⟨p,hp⟩:∃p:Nat,d2.k+m=p:=⟨_,rfl⟩;rw[hp];have HP:=ae hp;have hp2:p≤s.size:=by omega
      clear hp;by_cases hlt:p<s.size
      · have hki:(p:Int)<(s.size:Int):=by omega
        obtain⟨a,ha⟩:∃a:Int,(s[p].toNat:Int)=a:=⟨_,rfl⟩;have ha1:0≤a∧a≤255:=by have:=s[p].toNat_lt;omega
        have hnx:=NB d2 s m p a HS2.o HP.o hlt ha;have dR:=ae hnx;clear hnx;by_cases hc:aP a=true
        · go_wp2_with (go_at_call 73;((with_reducible refine(vL _ ?_ ?_ _).mono ?_);(first|omega|skip);(first|omega|skip);rintro e w' ⟨rfl,rfl⟩))
          go_roundw
          case rel=>exact⟨m+1,by have:=HP.o;omega,by rw[show d2.k+(m+1)=p+1 from by have:=HP.o;omega];rfl,ae (by rw[dR.o.1];exact qV kY.o hc),HST⟩
          case measure=>simp[intOf];omega
        · have hc':aP a=false:=by simpa using hc
          clear hc;have hsp:=Bu aP d2.rest m kY.o (fun x hx=>by rw[dR.o.2]at hx;injection hx with hx;rw[← hx];exact hc');have hpk:p=d3.k:=by rw[oW.o,hsp,gX,ry,HS2.o];have:=HP.o;omega
          have tq:=ae hpk;clear hpk hsp;go_wp2_with (go_at_call 73;((with_reducible refine(vL _ ?_ ?_ _).mono ?_);(first|omega|skip);(first|omega|skip);rintro e w' ⟨rfl,rfl⟩))
          go_meet
          case rel=>exact⟨by rw[tq.o],HST.o⟩
      · have hki:¬ (p:Int)<(s.size:Int):=by omega
        have hsp:=Bu aP d2.rest m kY.o (fun x hx=>by rw[afa d2 m (by rw[HS2.o];have:=HP.o;omega)]at hx;cases hx);have hpk:p=d3.k:=by rw[oW.o,hsp,gX,ry,HS2.o];have:=HP.o;omega
        have tq:=ae hpk;clear hpk hsp;go_wp2_with fail
        go_meet
        case rel=>exact⟨by rw[tq.o],HST.o⟩
    case rest =>
     obtain⟨rfl,lU⟩:=hcut;clear HST;have HST:=ae lU;clear lU;go_upto_region 18 with (first|(go_at_call 74;((with_reducible refine(afw _ _ ?_).mono ?_);(first|omega|skip);rintro e w1 ⟨rfl,n,rfl⟩;rw[XG.o,rY.o,OL.o];have HST:=ae (HST.o.drewN n))))
     clear hkp hps aaL;go_upto_region 18 with (fail)
     go_cut [74] (fun t wx=>t = .bool d3.mark∧je w wx d1.sh 0 0 d1.mark false)
     case first =>
      by_cases hlt:d3.k<s.size
      · have hki:(d3.k:Int)<(s.size:Int):=by omega
        obtain⟨a,ha⟩:∃a:Int,(s[d3.k].toNat:Int)=a:=⟨_,rfl⟩;by_cases ik:a=36
        · have hj:(a == 36)=true:=bA.2 ik
          have hmk:d3.mark=true:=Tj d3 s ny.o hlt (by rw[ha,ik]);have kL:=ae hmk;clear hmk ik;go_wp2_with fail
          go_meet
          case rel=>exact⟨by rw[kL.o],HST.o⟩
        · have hj:(a == 36)=false:=aA.2 ik
          have hmk:d3.mark=false:=Tg d3 s ny.o hlt (by rw[ha];exact ik);have kL:=ae hmk;clear hmk ik;go_wp2_with fail
          go_meet
          case rel=>exact⟨by rw[kL.o],HST.o⟩
      · have hki:¬ (d3.k:Int)<(s.size:Int):=by omega
        have hmk:d3.mark=false:=Tf d3 s ny.o (by omega);have kL:=ae hmk;clear hmk;go_wp2_with fail
        go_meet
        case rel=>exact⟨by rw[kL.o],HST.o⟩
     case rest =>
      obtain⟨rfl,lU⟩:=hcut;clear HST;have HST:=ae lU;clear lU;go_upto_if 74 with (fail)
      go_cut [7] (fun k wx=>k = .int .i64 (d3.Cb.k:Int)∧je w wx d1.sh 0 0 d1.mark d3.mark)
      case first =>
       obtain⟨x0,x1,x2,x3,x4⟩:=HST.o.ref.facts;have z0:=(HST.o.ref.frozen 0);have z1:=(HST.o.ref.frozen 1);have z2:=(HST.o.ref.frozen 2);have z3:=(HST.o.ref.frozen 3);have z4:=(HST.o.ref.frozen 4);cases hm:d3.mark with
       | true =>
         have kL:=ae hm;clear hm;go_wp2_with fail
         go_meet
         case rel=>exact⟨by rw[show d3.Cb.k=d3.k+1 from by rw[Kq,kL.o];rfl];rfl,(by first|(rw[kL.o];exact je.set 4 HST.o (.bool true) d1.sh 0 0 d1.mark true rfl)|exact je.set 4 HST.o (.bool true) d1.sh 0 0 d1.mark true rfl)⟩
       | false =>
         have kL:=ae hm;clear hm;go_wp2_with fail
         go_meet
         case rel=>exact⟨by rw[show d3.Cb.k=d3.k from by rw[Kq,kL.o];rfl],(by first|(rw[kL.o];exact HST.o)|exact HST.o)⟩
      case rest =>
       obtain⟨rfl,lU⟩:=hcut;clear HST;have HST:=ae lU;clear lU;obtain⟨d4,hd4⟩:∃d:Rd,d3.Cb=d:=⟨_,rfl⟩;rw[hd4];have hs4:d4.s=s:=by rw[← hd4];exact ny.o
       have hk4:d4.k≤s.size:=by rw[← hd4,Kq, ← ny.o];exact G9 d3 (by rw[ny.o];exact aa3)
       have QV:d1.at4=d4:=by unfold Rd.at4;rw[HD2.o,HD3.o,hd4]
       have QY:∀d,iw s=some d→Hr=true∧(∀x∈d4.rest,isNum x=true)∧d4.rest.length≤3∧d.sh=d1.sh∧d.c=d3.c∧d.ac=d1.mark∧d.ar=d3.mark∧d.r=dB d4.rest - 1:=by
        intro d hd;obtain⟨g1,g2,g3,g4,g5,g6,g7,g8⟩:=Y4 s d1 d XC.o gy.o hd;rw[QV]at g2 g3 g8;rw[HD2.o,OL.o]at g1;have QA:d.c=d1.tK.D7.c:=g5;have QB:d.ar=d1.tK.D7.mark:=g7;rw[HD2.o,HD3.o]at QA QB;exact⟨g1,g2,g3,g4,QA,g6,QB,g8⟩
       have sw:=ae hs4;clear hs4;have Oj:=ae QY;clear QY QV hd4;obtain⟨v4,hv4⟩:∃v,dB (d4.rest.take 4)=v:=⟨_,rfl⟩;by_cases aT:∀x∈d4.rest.take 4,isNum x=true
       · have hvb:=NT (d4.rest.take 4) aT (by rw[gX];omega)
         rw[hv4]at hvb;have kY:=ae aT;clear aT;have J5:=ae hv4;clear hv4;go_upto_block 4 with (fail)
         go_cut [10] (fun rr wx=>rr = .int .i64 v4∧je w wx d1.sh 0 0 d1.mark d3.mark)
         case first =>
          go_wp2_with fail
          go_loopw [10,11] (fun rr t wr=>∃(j:Nat)(v:Int),j≤4∧d4.k+j≤s.size∧rr = .int .i64 v∧t = .int .i64 ((d4.k+j:Nat):Int)∧Hid (dB (d4.rest.take j)=v)∧Hid (je w wr d1.sh 0 0 d1.mark d3.mark))
           (fun _ t _=>s.size - (intOf t).toNat)
          case atStart=>exact⟨0,0,by omega,by omega,rfl,rfl,ae rfl,HST⟩
          case round =>
           clear HST;obtain⟨j,v,hj4,hjk,rfl,rfl,dF,HST⟩:=hrel;obtain⟨p,hp⟩:∃p:Nat,d4.k+j=p:=⟨_,rfl⟩;rw[hp];have hp2:p≤s.size:=by omega
           by_cases hlt:p<s.size∧j<4
           · obtain ⟨hlt,hj⟩:=hlt
             have hki:(p:Int)<(s.size:Int):=by omega
             have hji:(p:Int)<(d4.k:Int)+4:=by omega
             obtain⟨a,ha⟩:∃a:Int,(s[p].toNat:Int)=a:=⟨_,rfl⟩;have ha1:0≤a∧a≤255:=by have:=s[p].toNat_lt;omega
             have hnx:=NB d4 s j p a sw.o hp hlt ha
             have hc:isNum a=true:=kY.o a (by
              have h1:a∈d4.rest.take (j+1):=by rw[hnx.1];simp
              exact List.mem_of_mem_take (i:=j+1) (by rw[List.take_take];rw[Nat.min_eq_left (by omega)];exact h1))
             have hab:=jA hc;have aby:=NT (d4.rest.take j) (fun x hx=>kY.o x (List.mem_of_mem_take (i:=j) (by rw[List.take_take,Nat.min_eq_left (by omega)];exact hx))) (by rw[gX];omega);rw[dF.o]at aby;have dR:=ae hnx;clear hnx;have HP:=ae hp;clear hp;go_wp2_with (go_at_call 75;((with_reducible refine(jC _ ?_ ?_ _).mono ?_);(first|omega|skip);(first|omega|skip);rintro e w' ⟨rfl,rfl⟩))
             go_roundw
             case rel=>exact⟨j+1,10*v+(a - 48),by omega,by have:=HP.o;omega,rfl,by rw[show d4.k+(j+1)=p+1 from by have:=HP.o;omega];rfl,ae (by rw[dR.o.1,zO,dF.o]),HST⟩
             case measure=>simp[intOf];omega
           · have RP:v4=v:=by
              rw[← dF.o, ← J5.o];by_cases hj:j=4
              · rw[hj]
              · have hl:d4.rest.length≤j:=by rw[ry,sw.o];omega
                rw[pW hl,pW (by omega)]
             have O5:=ae RP;clear RP;by_cases hps:p<s.size
             · have hki:(p:Int)<(s.size:Int):=by omega
               have hji:¬ (p:Int)<(d4.k:Int)+4:=by omega
               have HP:=ae hp;clear hp hlt;go_wp2_with fail
               go_meet
               case rel=>exact⟨by rw[O5.o],HST.o⟩
             · have hki:¬ (p:Int)<(s.size:Int):=by omega
               have HP:=ae hp;clear hp hlt;go_wp2_with fail
               go_meet
               case rel=>exact⟨by rw[O5.o],HST.o⟩
         case rest =>
          obtain⟨rfl,lU⟩:=hcut;clear HST;have HST:=ae lU;clear lU
          have cB:Hr=true→cK (sb d1.sh) d3.c (v4 - 1)=true→strOfNums (aZ (sb d1.sh) d3.c (v4 - 1) d1.mark d3.mark)=s→nT (sb s) (.returned (.tuple #[.agg #[.string d1.sh,.int .i64 d3.c,.int .i64 (v4 - 1),.bool d1.mark,.bool d3.mark],.bool true])):=by
           intro _ h2 h3;refine .inl ⟨d1.sh,d3.c,v4 - 1,d1.mark,d3.mark, ?_,h2, ?_,rfl⟩
           · rcases Cw h2 with h|h
             · rw[← bz,h];exact eP _
             · rw[← bz];exact(TG h).2
           · rw[← jD _ (Al d1.sh d3.c (v4 - 1) d1.mark d3.mark),h3]
          have hno:¬ (Hr=true∧cK (sb d1.sh) d3.c (v4 - 1)=true∧strOfNums (aZ (sb d1.sh) d3.c (v4 - 1) d1.mark d3.mark)=s)→FR (sb s):=by
           intro h;apply CL;cases hq:iw s with
           | none=>rfl
           | some d =>
             exfalso;obtain⟨g1,g2,g3,g4,g5,g6,g7,g8⟩:=Oj.o d hq;obtain⟨r1,r2,r3⟩:=yn s d hq;rw[pW (by omega)]at J5;rw[J5.o]at g8;rw[g4,g5,g8]at r2;rw[g4,g5,g6,g7,g8]at r3;exact h ⟨g1,r2,by rw[r3,mX]⟩
          have dw:=ae cB;clear cB;have eu:=ae hno;clear hno;obtain⟨tt,AY⟩:∃t:ByteArray,strOfNums (aZ (sb d1.sh) d3.c (v4 - 1) d1.mark d3.mark)=t:=⟨_,rfl⟩;obtain⟨my,K9⟩:∃b:Bool,cK (sb d1.sh) d3.c (v4 - 1)=b:=⟨_,rfl⟩;rw[AY,K9]at dw eu;have xA:=ae AY;clear AY;have z8:=ae K9;clear K9;go_upto_region 28 with (fail)
          obtain⟨x0,x1,x2,x3,x4⟩:=HST.o.ref.facts;have z0:=(HST.o.ref.frozen 0);have z1:=(HST.o.ref.frozen 1);have z2:=(HST.o.ref.frozen 2);have z3:=(HST.o.ref.frozen 3);have z4:=(HST.o.ref.frozen 4);go_upto_region 30 with (fail)
          clear x0 x1 x2 x3 x4 z0 z1 z2 z3 z4;have Ls:=je.set 2 (je.set 1 HST.o (.int .i64 d3.c) d1.sh d3.c 0 d1.mark d3.mark rfl) (.int .i64 (v4 - 1)) d1.sh d3.c (v4 - 1) d1.mark d3.mark rfl;clear HST;generalize (wc.setCell ⟨w.heap.size+1,1,none⟩ (.int .i64 d3.c)).setCell ⟨w.heap.size+1,2,none⟩ (.int .i64 (v4 - 1))=w3 at Ls ⊢;have HST:=ae Ls;clear Ls;obtain⟨x0,x1,x2,x3,x4⟩:=HST.o.ref.facts;have z0:=(HST.o.ref.frozen 0);have z1:=(HST.o.ref.frozen 1);have z2:=(HST.o.ref.frozen 2);have z3:=(HST.o.ref.frozen 3);have z4:=(HST.o.ref.frozen 4);cases Hr with
          | false =>
            have hnr:=eu.o (by rintro⟨h,_⟩;cases h);have xm:=ae hnr;clear hnr;go_upto_region 31 with (fail)
            repeat (first|go_says ((with_reducible refine Da (op:=⟨none,.store 43 (.tmp 2) (.tmp 123),_,_,_,_⟩) rfl (.tmp 2) (.tmp 123) rfl w.heap.size _ _ _ _ _ ⟨#[]⟩ 0 0 false false ?_ ?_ HST.o.res ?_);rfl;rfl;intro gW h9 g9;have uL:=ae h9;clear h9;have fV:=ae g9;clear g9)|go_values|go_skip|go_guarded|go_step|go_upon)
            (try simp only[Exit.inBlock,Exit.then])
            refine bodyPost_ret (CF uL.o _ _ false 2 3 CP rfl rfl) rfl ⟨.inr ⟨xm.o,rfl⟩,uZ HST.o.below fV.o HST.o.below.size (aj _)⟩
          | true =>
            cases my with
            | false =>
              have hnr:=eu.o (by rintro⟨_,h,_⟩;cases h);have xm:=ae hnr;clear hnr;go_upto_region 31 with (first|(go_at_call 50;((with_reducible refine(qz _ _ _ _ _ _ ?_).mono ?_);(first|omega|skip);rintro e w1 ⟨rfl,h1⟩;rw[z8.o];have HST:=ae (HST.o.next h1);clear h1;clear x0 x1 x2 x3 x4 z0 z1 z2 z3 z4;obtain⟨x0,x1,x2,x3,x4⟩:=HST.o.ref.facts;have z0:=(HST.o.ref.frozen 0);have z1:=(HST.o.ref.frozen 1);have z2:=(HST.o.ref.frozen 2);have z3:=(HST.o.ref.frozen 3);have z4:=(HST.o.ref.frozen 4))))
              repeat (first|go_says ((with_reducible refine Da (op:=⟨none,.store 43 (.tmp 2) (.tmp 123),_,_,_,_⟩) rfl (.tmp 2) (.tmp 123) rfl w.heap.size _ _ _ _ _ ⟨#[]⟩ 0 0 false false ?_ ?_ HST.o.res ?_);rfl;rfl;intro gW h9 g9;have uL:=ae h9;clear h9;have fV:=ae g9;clear g9)|go_values|go_skip|go_guarded|go_step|go_upon)
              (try simp only[Exit.inBlock,Exit.then])
              refine bodyPost_ret (CF uL.o _ _ false 2 3 CP rfl rfl) rfl ⟨.inr ⟨xm.o,rfl⟩,uZ HST.o.below fV.o HST.o.below.size (aj _)⟩
            | true =>
              by_cases hts:tt=s
              · have hys:=dw.o rfl rfl hts
                have XZ:=ae hys;clear hys;have htb:(s.toList == s.toList)=true:=beq_self_eq_true _;have QQ:=ae hts;clear hts;go_upto_region 32 with (first|(go_at_call 50;((with_reducible refine(qz _ _ _ _ _ _ ?_).mono ?_);(first|omega|skip);rintro e w1 ⟨rfl,h1⟩;rw[z8.o];have HST:=ae (HST.o.next h1);clear h1;clear x0 x1 x2 x3 x4 z0 z1 z2 z3 z4;obtain⟨x0,x1,x2,x3,x4⟩:=HST.o.ref.facts;have z0:=(HST.o.ref.frozen 0);have z1:=(HST.o.ref.frozen 1);have z2:=(HST.o.ref.frozen 2);have z3:=(HST.o.ref.frozen 3);have z4:=(HST.o.ref.frozen 4)))|(go_at_call 26;((with_reducible refine(EM _ _ _ _ _ _ ?_).mono ?_);(first|omega|skip);rintro e w1 ⟨rfl,h1⟩;rw[xA.o];(try rw[QQ.o]);have HST:=ae (HST.o.next h1);clear h1;clear x0 x1 x2 x3 x4 z0 z1 z2 z3 z4;obtain⟨x0,x1,x2,x3,x4⟩:=HST.o.ref.facts;have z0:=(HST.o.ref.frozen 0);have z1:=(HST.o.ref.frozen 1);have z2:=(HST.o.ref.frozen 2);have z3:=(HST.o.ref.frozen 3);have z4:=(HST.o.ref.frozen 4))))
                repeat (first|go_says ((with_reducible refine Da (op:=⟨none,.store 43 (.tmp 2) (.tmp 124),_,_,_,_⟩) rfl (.tmp 2) (.tmp 124) rfl w.heap.size _ _ _ _ _ d1.sh d3.c (v4 - 1) d1.mark d3.mark ?_ ?_ HST.o.res ?_);rfl;rfl;intro gW h9 g9;have uL:=ae h9;clear h9;have fV:=ae g9;clear g9)|go_values|go_skip|go_guarded|go_step|go_upon)
                (try simp only[Exit.inBlock,Exit.then])
                exact bodyPost_ret (CF uL.o _ _ true 2 3 CP rfl rfl) rfl ⟨XZ.o,uZ HST.o.below fV.o HST.o.below.size (aj _)⟩
              · have hnr:=eu.o (by rintro⟨_,_,h⟩;exact hts h)
                have xm:=ae hnr;clear hnr;have htn:=rM tt s hts;have htb:(tt.toList == s.toList)=false:=aA.2 htn;clear hts;go_upto_region 31 with (first|(go_at_call 50;((with_reducible refine(qz _ _ _ _ _ _ ?_).mono ?_);(first|omega|skip);rintro e w1 ⟨rfl,h1⟩;rw[z8.o];have HST:=ae (HST.o.next h1);clear h1;clear x0 x1 x2 x3 x4 z0 z1 z2 z3 z4;obtain⟨x0,x1,x2,x3,x4⟩:=HST.o.ref.facts;have z0:=(HST.o.ref.frozen 0);have z1:=(HST.o.ref.frozen 1);have z2:=(HST.o.ref.frozen 2);have z3:=(HST.o.ref.frozen 3);have z4:=(HST.o.ref.frozen 4)))|(go_at_call 26;((with_reducible refine(EM _ _ _ _ _ _ ?_).mono ?_);(first|omega|skip);rintro e w1 ⟨rfl,h1⟩;rw[xA.o];(try rw[QQ.o]);have HST:=ae (HST.o.next h1);clear h1;clear x0 x1 x2 x3 x4 z0 z1 z2 z3 z4;obtain⟨x0,x1,x2,x3,x4⟩:=HST.o.ref.facts;have z0:=(HST.o.ref.frozen 0);have z1:=(HST.o.ref.frozen 1);have z2:=(HST.o.ref.frozen 2);have z3:=(HST.o.ref.frozen 3);have z4:=(HST.o.ref.frozen 4))))
                repeat (first|go_says ((with_reducible refine Da (op:=⟨none,.store 43 (.tmp 2) (.tmp 123),_,_,_,_⟩) rfl (.tmp 2) (.tmp 123) rfl w.heap.size _ _ _ _ _ ⟨#[]⟩ 0 0 false false ?_ ?_ HST.o.res ?_);rfl;rfl;intro gW h9 g9;have uL:=ae h9;clear h9;have fV:=ae g9;clear g9)|go_values|go_skip|go_guarded|go_step|go_upon)
                (try simp only[Exit.inBlock,Exit.then])
                refine bodyPost_ret (CF uL.o _ _ false 2 3 CP rfl rfl) rfl ⟨.inr ⟨xm.o,rfl⟩,uZ HST.o.below fV.o HST.o.below.size (aj _)⟩
       · have QS:=aT
         clear aT;have kY:=ae QS;clear QS;go_wp2_with fail
         go_loopw [10,11] (fun rr t wr=>∃(j:Nat)(v:Int),j≤4∧d4.k+j≤s.size∧rr = .int .i64 v∧t = .int .i64 ((d4.k+j:Nat):Int)∧Hid (dB (d4.rest.take j)=v∧(∀x∈d4.rest.take j,isNum x=true))∧Hid (je w wr d1.sh 0 0 d1.mark d3.mark))
          (fun _ t _=>s.size - (intOf t).toNat)
         case atStart=>exact⟨0,0,by omega,by omega,rfl,rfl,ae ⟨rfl,by simp⟩,HST⟩
         case round =>
          clear HST;obtain⟨j,v,hj4,hjk,rfl,rfl,dF,HST⟩:=hrel;obtain⟨p,hp⟩:∃p:Nat,d4.k+j=p:=⟨_,rfl⟩;rw[hp];have hp2:p≤s.size:=by omega
          have hj:j<4∧p<s.size:=by
           refine Decidable.byContradiction fun hn=>kY.o ?_
           have he:d4.rest.take 4=d4.rest.take j:=by
            by_cases hj:j=4
            · rw[hj]
            · have hl:d4.rest.length≤j:=by rw[ry,sw.o];omega
              rw[pW hl,pW (by omega)]
           rw[he];exact dF.o.2
          obtain⟨hj,hlt⟩:=hj;have hvb:=NT (d4.rest.take j) dF.o.2 (by rw[gX];omega);rw[dF.o.1]at hvb;have hki:(p:Int)<(s.size:Int):=by omega
          have hji:(p:Int)<(d4.k:Int)+4:=by omega
          obtain⟨a,ha⟩:∃a:Int,(s[p].toNat:Int)=a:=⟨_,rfl⟩;have ha1:0≤a∧a≤255:=by have:=s[p].toNat_lt;omega
          have hnx:=NB d4 s j p a sw.o hp hlt ha;have dR:=ae hnx;clear hnx;have HP:=ae hp;clear hp;by_cases hc:isNum a=true
          · have hab:=jA hc
            go_wp2_with (go_at_call 75;((with_reducible refine(jC _ ?_ ?_ _).mono ?_);(first|omega|skip);(first|omega|skip);rintro e w' ⟨rfl,rfl⟩))
            go_roundw
            case rel=>exact⟨j+1,10*v+(a - 48),by omega,by have:=HP.o;omega,rfl,by rw[show d4.k+(j+1)=p+1 from by have:=HP.o;omega];rfl,ae ⟨by rw[dR.o.1,zO,dF.o.1],by rw[dR.o.1];exact qV dF.o.2 hc⟩,HST⟩
            case measure=>simp[intOf];omega
          · have hc':isNum a=false:=by simpa using hc
            clear hc
            have hno:iw s=none:=by
             cases hq:iw s with
             | none=>rfl
             | some d =>
               have h1:=(Oj.o d hq).2.1 a (fT dR.o.2);rw[hc']at h1;cases h1
            have hnr:=CL s hno;have xm:=ae hnr;clear hnr hno;go_upto_region 26 with (first|(go_at_call 75;((with_reducible refine(jC _ ?_ ?_ _).mono ?_);(first|omega|skip);(first|omega|skip);rintro e w' ⟨rfl,rfl⟩)))
            repeat (first|go_says ((with_reducible refine Da (op:=⟨none,.store 43 (.tmp 2) (.tmp 96),_,_,_,_⟩) rfl (.tmp 2) (.tmp 96) rfl w.heap.size _ _ _ _ _ ⟨#[]⟩ 0 0 false false ?_ ?_ HST.o.res ?_);rfl;rfl;intro gW h9 g9;have uL:=ae h9;clear h9;have fV:=ae g9;clear g9)|go_values|go_skip|go_guarded|go_step|go_upon)
            (try simp only[Exit.inBlock,Exit.then])
            refine bodyPost_ret (CF uL.o _ _ false 2 3 CP rfl rfl) rfl ⟨.inr ⟨xm.o,rfl⟩,uZ HST.o.below fV.o HST.o.below.size (aj _)⟩
theorem Vh (s:ByteArray)(k:Nat)(h:k<s.size)(hk:k<(Rd.start s).bV.length):¬ ((s[k].toNat:Nat):Int)=33:=by
 intro xM
 have h1:=uC jV (sb s) 33 (by
  have h2:=take_split jV (sb s)
  have h3:((sb s).takeWhile jV)[k]? = (sb s)[k]? := by
   conv=>rhs;rw[← h2]
   rw[List.getElem?_append_left (show k<((sb s).takeWhile jV).length from hk)]
  rw[qC s k h,xM]at h3;exact fT h3)
 exact absurd h1 (by decide)
theorem Vi (s:ByteArray)(m:Nat)(hm:(Rd.start s).bV.length=m)(h:m<s.size):((s[m].toNat:Nat):Int)=33:=by
 have h1:=E5 jV (sb s) ((s[m].toNat:Nat):Int) (by
  have h2:((sb s).takeWhile jV).length=m:=hm;rw[h2,List.head?_drop,qC s m h])
 unfold jV at h1
 simpa using h1
theorem agV (s:ByteArray):s.extract 0 (Rd.start s).bV.length=strOfNums (Rd.start s).bV:=by
 have h:=Nk (Rd.start s);have h2:(sb s).take (Rd.start s).bV.length=(Rd.start s).bV:=h;rw[← mX (s.extract 0 (Rd.start s).bV.length)];congr 1;have e:=Qt s 0 (Rd.start s).bV.length;rw[Nat.zero_add,List.drop_zero,h2]at e;exact e
theorem afx (s:ByteArray)(w:World)(_hs:s.size≤1000000)(hp:0<s.size)(h0:(Rd.start s).bV.length=0) :
 Calls Tryz.prog 48 #[.string s] w fun e w'=>nT (sb s) e∧Below w.heap.size w w':=by
 have hst:je w ((w.alloc (.cells #[.string ⟨#[]⟩,.int .i64 0,.int .i64 0,.bool false,.bool false] 43)).alloc (.cells #[.string ⟨#[]⟩,.int .i64 0,.int .i64 0,.bool false,.bool false] 43)) ⟨#[]⟩ 0 0 false false:=by
  have h0:=df.new w ⟨#[]⟩ 0 0 false false;have hsz:(w.alloc (.cells #[.string ⟨#[]⟩,.int .i64 0,.int .i64 0,.bool false,.bool false] 43)).heap.size=w.heap.size+1:=by simp
  have h1:=df.new (w.alloc (.cells #[.string ⟨#[]⟩,.int .i64 0,.int .i64 0,.bool false,.bool false] 43)) ⟨#[]⟩ 0 0 false false;rw[hsz]at h1;exact⟨h0.below ((ak _ _).alloc (aj _) _) h0.lt,h1,((ak _ _).alloc (aj _) _).alloc (by rw[hsz];omega) _⟩
 have hnr:FR (sb s):=by
  apply CL
  have hsh:(Rd.start s).jX=none:=by
   unfold Rd.jX;rw[ag (show ¬ (Rd.start s).bV.length=(Rd.start s).s.size by rw[h0];show ¬ 0=s.size;omega)];rw[kV h0];rfl
  unfold iw;rw[hsh];rfl
 have hb:=Vi s 0 h0 hp;obtain⟨a,ha⟩:∃a:Int,(s[0].toNat:Int)=a:=⟨_,rfl⟩;have hb2:(a == 33)=true:=bA.2 (by rw[← ha];exact hb);have hpi:(0:Int)<(s.size:Int):=by omega
 have HST:=ae hst;clear hst;have xm:=ae hnr;clear hnr hb h0;go_enter Tryz.func48,Tryz.ntmps48;go_wp2_with fail
 go_loopw [3,5,6] (fun rk at_ i wr=>rk = .bool false∧at_ = .int .i64 0∧i = .int .i64 0∧Hid (je w wr ⟨#[]⟩ 0 0 false false))
  (fun _ _ i _=>s.size - (intOf i).toNat)
 case atStart=>exact⟨rfl,rfl,rfl,HST⟩
 case round =>
  clear HST;obtain⟨rfl,rfl,rfl,HST⟩:=hrel;obtain⟨x0,x1,x2,x3,x4⟩:=HST.o.ref.facts;clear x1 x2 x3 x4;have z0:=(HST.o.ref.frozen 0);have lU:=je.set 0 HST.o (.string ByteArray.empty) ByteArray.empty 0 0 false false rfl;have JZ:=ae lU;clear lU;go_wp2_with ((with_reducible refine Da (op:=⟨none,.store 43 (.tmp 2) (.tmp 30),_,_,_,_⟩) rfl (.tmp 2) (.tmp 30) rfl w.heap.size _ _ _ _ _ ⟨#[]⟩ 0 0 false false ?_ ?_ JZ.o.res ?_);rfl;rfl;intro gW h9 g9;have uL:=ae h9;clear h9;have fV:=ae g9;clear g9)
  (try simp only[Exit.inBlock,Exit.then])
  exact bodyPost_ret (CF uL.o _ _ false 2 3 CP rfl rfl) rfl ⟨.inr ⟨xm.o,rfl⟩,uZ JZ.o.below fV.o JZ.o.below.size (aj _)⟩
theorem CO (s:ByteArray)(w:World)(hs:s.size≤1000000) :
 Calls Tryz.prog 48 #[.string s] w fun e w'=>nT (sb s) e∧Below w.heap.size w w':=by
 by_cases hno:(Rd.start s).bV.length=s.size
 · refine UH s w hs (Rd.start s) rfl (eP _) ?_ s.size (.inl ⟨rfl,rfl,rfl⟩) ?_
   · intro e he
     unfold Rd.jX at he;rw[ah (show(Rd.start s).bV.length=(Rd.start s).s.size from hno)]at he;injection he with he;exact he.symm
   · intro k h hk;exact Vh s k h (by rw[hno];exact hk)
 · have hlt:(Rd.start s).bV.length<s.size:=Nj (Rd.start s) hno
   by_cases h0:(Rd.start s).bV.length=0
   · exact afx s w hs (by omega) h0
   · refine UH s w hs { Rd.start s with sh:=s.extract 0 (Rd.start s).bV.length,k:=(Rd.start s).bV.length+1 } rfl hlt ?_ (Rd.start s).bV.length (.inr ⟨hlt,by omega,rfl,rfl,fun h=>Vi s _ rfl h⟩) (fun k h hk=>Vh s k h hk)
     intro e he;unfold Rd.jX at he;rw[ag (show ¬ (Rd.start s).bV.length=(Rd.start s).s.size from hno)]at he;by_cases hn:iH (Rd.start s).bV=true
     · rw[ah hn]at he;injection he with he;rw[← he,agV]
     · rw[ag hn]at he;cases he
theorem YW (s:ByteArray)(k:Nat)(h:k<s.size)(hx:(aP ((sb s).getD k 0)||isNum ((sb s).getD k 0))=false):jI (sb s)=false:=by
 unfold jI;rw[Bool.and_eq_false_iff];left;rw[jq];intro aT;have:=aT ((sb s).getD k 0) (by rw[uz s k h];exact fT (qC s k h));rw[hx]at this;cases this
theorem YV (s:ByteArray)(h:∀j,j<s.size→(aP ((sb s).getD j 0)||isNum ((sb s).getD j 0))=true):jI (sb s)=(decide (1≤s.size∧s.size≤12)&&aP ((sb s).getD 0 0)):=by
 unfold jI;rw[aQ (show ∀x∈sb s,(aP x||isNum x)=true from ?_),gL,bz];intro x hx;obtain⟨j,hj,rfl⟩:=List.mem_iff_getElem.1 hx;have:=h j (by rw[bz]at hj;exact hj);rw[jL,dL hj]at this;exact this
theorem MP (s:ByteArray)(w:World)(_hs:s.size≤1000000) :
 Calls Tryz.prog 49 #[.string s] w fun e w'=>e = .returned (.bool (jI (sb s)))∧w=w':=by
 go_enter Tryz.func49,Tryz.ntmps49;go_wp2_with fail
 go_loopw [3] (fun i wr=>∃k:Nat,k≤s.size∧i = .int .i64 k∧Hid (∀j,j<k→(aP ((sb s).getD j 0)||isNum ((sb s).getD j 0))=true)∧w=wr)
  (fun i _=>s.size - (intOf i).toNat)
 case atStart=>exact⟨0,by omega,rfl,ae (by intro j hj;omega),rfl⟩
 case round =>
  obtain⟨k,hk,rfl,HG,rfl⟩:=hrel;by_cases hlt:k<s.size
  · have hki:(k:Int)<(s.size:Int):=by omega
    obtain⟨a,ha⟩:∃a:Int,(s[k].toNat:Int)=a:=⟨_,rfl⟩;have ha1:0≤a∧a≤255:=by have:=s[k].toNat_lt;omega
    have xe:=ae (show(sb s).getD k 0=a by rw[uz s k hlt,ha])
    have Et:(aP a||isNum a)=true→∀j,j<k+1→(aP ((sb s).getD j 0)||isNum ((sb s).getD j 0))=true:=by
     intro h j hj;by_cases h1:j<k
     · exact HG.o j h1
     · rw[show j=k from by omega,xe.o];exact h
    have DC:=ae Et;clear Et;cases hc:aP a
    · cases hn:isNum a
      · have eu:=ae (YW s k hlt (by rw[xe.o,hc,hn];rfl))
        go_wp2_with (first
         | (go_at_call 73;((with_reducible refine(vL _ ?_ ?_ _).mono ?_);(first|omega|skip);(first|omega|skip);rintro e w' ⟨rfl,rfl⟩;rw[hc]))
         | (go_at_call 75;((with_reducible refine(jC _ ?_ ?_ _).mono ?_);(first|omega|skip);(first|omega|skip);rintro e w' ⟨rfl,rfl⟩;rw[hn])))
        go_ret;exact⟨gq eu.o.symm,rfl⟩
      · go_wp2_with (first
         | (go_at_call 73;((with_reducible refine(vL _ ?_ ?_ _).mono ?_);(first|omega|skip);(first|omega|skip);rintro e w' ⟨rfl,rfl⟩;rw[hc]))
         | (go_at_call 75;((with_reducible refine(jC _ ?_ ?_ _).mono ?_);(first|omega|skip);(first|omega|skip);rintro e w' ⟨rfl,rfl⟩;rw[hn])))
        go_roundw
        case rel=>exact⟨k+1,by omega,by go_num,ae (DC.o (by rw[hc,hn];rfl)),by trivial⟩
        case measure=>simp[intOf];omega
    · go_wp2_with (first
       | (go_at_call 73;((with_reducible refine(vL _ ?_ ?_ _).mono ?_);(first|omega|skip);(first|omega|skip);rintro e w' ⟨rfl,rfl⟩;rw[hc])))
      go_roundw
      case rel=>exact⟨k+1,by omega,by go_num,ae (DC.o (by rw[hc];rfl)),by trivial⟩
      case measure=>simp[intOf];omega
  · have hki:¬ (k:Int)<(s.size:Int):=by omega
    have HA:=ae (YV s (fun j hj=>HG.o j (by omega)));by_cases h1:1≤s.size∧s.size≤12
    · have hi1:(1:Int)≤(s.size:Int):=by omega
      have hi2:(s.size:Int)≤12:=by omega
      have hp0:0<s.size:=by omega
      obtain⟨a,ha⟩:∃a:Int,(s[0].toNat:Int)=a:=⟨_,rfl⟩;have ha1:0≤a∧a≤255:=by have:=s[0].toNat_lt;omega
      rw[aQ h1,gL,uz s 0 hp0,ha]at HA
      go_wp2_with (first
       | (go_at_call 73;((with_reducible refine(vL _ ?_ ?_ _).mono ?_);(first|omega|skip);(first|omega|skip);rintro e w' ⟨rfl,rfl⟩)))
      go_ret;exact⟨gq HA.o.symm,rfl⟩
    · rw [aS h1,Bool.false_and]at HA
      by_cases h0:1≤s.size
      · have hi1:(1:Int)≤(s.size:Int):=by omega
        have hi2:¬ (s.size:Int)≤12:=by omega
        go_wp2_with fail
        go_ret;exact⟨gq HA.o.symm,rfl⟩
      · have hi1:¬ (1:Int)≤(s.size:Int):=by omega
        go_wp2_with fail
        go_ret;exact⟨gq HA.o.symm,rfl⟩
theorem afd (k:Int)(w:World):Calls Tryz.prog 23 #[.int .i64 k] w fun e w'=>e = .returned (.int .i64 (jQ k))∧w=w':=by
 have fin:∀r:Int,jQ k=r→(Calls Tryz.prog 23 #[.int .i64 k] w fun e w'=>e = .returned (.int .i64 r)∧w=w')→Calls Tryz.prog 23 #[.int .i64 k] w fun e w'=>e = .returned (.int .i64 (jQ k))∧w=w':=fun r h g=>by rw[h];exact g
 by_cases h1:1≤k
 · by_cases h6:k≤6
   · refine fin 0 (by unfold jQ;rw[ah ⟨h1,h6⟩]) ?_
     go_enter Tryz.func23,Tryz.ntmps23;go_wp2_with fail
     go_ret;exact⟨rfl,rfl⟩
   · by_cases h7:k=7
     · have e7:(k == 7)=true:=bA.2 h7
       refine fin (-1) (by unfold jQ;rw[ag (by omega),ah h7]) ?_;clear h7;go_enter Tryz.func23,Tryz.ntmps23;go_wp2_with fail
       go_ret;exact⟨rfl,rfl⟩
     · have e7:(k == 7)=false:=aA.2 h7
       by_cases h8:k=8
       · have e8:(k == 8)=true:=bA.2 h8
         refine fin 1 (by unfold jQ;rw[ag (by omega),ag h7,ah h8]) ?_;clear h7 h8;go_enter Tryz.func23,Tryz.ntmps23;go_wp2_with fail
         go_ret;exact⟨rfl,rfl⟩
       · have e8:(k == 8)=false:=aA.2 h8
         have h9:9≤k:=by omega
         by_cases h19:k≤19
         · refine fin 2 (by unfold jQ;rw[ag (by omega),ag h7,ag h8,ah ⟨h9,h19⟩]) ?_
           clear h7 h8;go_enter Tryz.func23,Tryz.ntmps23;go_wp2_with fail
           go_ret;exact⟨rfl,rfl⟩
         · refine fin (-2) (by unfold jQ;rw[ag (by omega),ag h7,ag h8,ag (by omega)]) ?_
           clear h7 h8;go_enter Tryz.func23,Tryz.ntmps23;go_wp2_with fail
           go_ret;exact⟨rfl,rfl⟩
 · have e7:(k == 7)=false:=aA.2 (by omega)
   have e8:(k == 8)=false:=aA.2 (by omega);have h9:¬ 9≤k:=by omega
   refine fin (-2) (by unfold jQ;rw[ag (by omega),ag (by omega),ag (by omega),ag (by omega)]) ?_;go_enter Tryz.func23,Tryz.ntmps23;go_wp2_with fail
   go_ret;exact⟨rfl,rfl⟩
theorem rH (f:bL)(w:World):Calls Tryz.prog 46 #[.agg #[.string f.sh,.int .i64 f.c,.int .i64 f.r,.bool f.ac,.bool f.ar]] w fun e w'=>e = .returned (.bool (fO f))∧Below w.heap.size w w':=by
 have HN:=ae (Mk f);have hx:=df.new w f.sh f.c f.r f.ac f.ar;have HB:=ae ((ak w.heap.size w).alloc (aj _) (.cells #[.string f.sh,.int .i64 f.c,.int .i64 f.r,.bool f.ac,.bool f.ar] 43));go_enter Tryz.func46,Tryz.ntmps46;go_upto_region 1 with (fail)
 generalize w.alloc (.cells #[.string f.sh,.int .i64 f.c,.int .i64 f.r,.bool f.ac,.bool f.ar] 43)=w1 at hx HB ⊢;obtain⟨x0,x1,x2,x3,x4⟩:=hx.facts;clear hx;have yE:=ae (fun (h1:f.sh.toList=[])(h2:f.c=0)(h3:f.r=0)(h4:f.ac=false)(h5:f.ar=false)=>(ZM (a:=f) (b:=bL.zero) (h1.trans pq.symm) h2 h3 h4 h5));go_wp2_with fail
 all_goals go_ret
 all_goals first
  | (have hv:ig f bL.zero=true:=yE.o ‹f.sh.toList=[]› ‹f.c=0› ‹f.r=0› (by simpa using ‹¬ f.ac=true›) (by simpa using ‹¬ f.ar=true›)
     exact⟨by rw[HN.o,hv];rfl,HB.o⟩)
  | (have hv:ig f bL.zero=false:=by
      cases hq:ig f bL.zero
      · rfl
      · exfalso
        have hz:=(D8 f bL.zero).1 hq;clear x0 x1 x2 x3 x4 yE HN hq;subst hz
        first
         | exact absurd (show bL.zero.sh.toList=[]from pq) ‹¬ bL.zero.sh.toList=[]›
         | exact absurd (show bL.zero.c=0 from rfl) ‹¬ bL.zero.c=0›
         | exact absurd (show bL.zero.r=0 from rfl) ‹¬ bL.zero.r=0›
         | exact absurd ‹bL.zero.ac=true› (by decide)
         | exact absurd ‹bL.zero.ar=true› (by decide)
     exact⟨by rw[HN.o,hv];rfl,HB.o⟩)
theorem afu (s:ByteArray)(w:World)(_hs:s.size≤1000000):Calls Tryz.prog 47 #[.string s] w fun e w'=>e = .returned (.bool (mF (sb s)))∧w=w':=by
 go_enter Tryz.func47,Tryz.ntmps47;go_wp2_with fail
 go_loopw [3] (fun i wr=>∃k:Nat,k≤s.size∧i = .int .i64 k∧Hid (∀(j:Nat)(hj:j<s.size),j<k→¬ ((s[j].toNat:Nat):Int)<32)∧w=wr)
  (fun i _=>s.size - (intOf i).toNat)
 case atStart=>exact⟨0,by omega,rfl,ae (by intro j _ hj;omega),rfl⟩
 case round =>
  obtain⟨k,hk,rfl,HG,rfl⟩:=hrel;by_cases hlt:k<s.size
  · have hki:(k:Int)<(s.size:Int):=by omega
    obtain⟨a,ha⟩:∃a:Int,(s[k].toNat:Int)=a:=⟨_,rfl⟩;have ha1:0≤a∧a≤255:=by have:=s[k].toNat_lt;omega
    have HA:=ae ha;by_cases h32:a<32
    · have HB:=ae (Ul s k hlt (by rw[ha];exact h32))
      go_wp2_with fail
      go_ret;exact⟨by rw[HB.o] <;> rfl,rfl⟩
    · go_wp2_with fail
      go_roundw
      case rel =>
       refine⟨k+1,by omega,by go_num,ae ?_,by first|rfl|trivial⟩;intro j hj hjk;by_cases e:j=k
       · subst e;rw[HA.o];exact h32
       · exact HG.o j hj (by omega)
      case measure=>simp[intOf];omega
  · have hki:¬ (k:Int)<(s.size:Int):=by omega
    have HB:=ae (Uk s (fun j hj=>HG.o j hj (by omega)));go_wp2_with fail
    go_ret;exact⟨by rw[HB.o] <;> rfl,rfl⟩
theorem UI (s1 s2:ByteArray)(c1 r1 c2 r2:Int)(a1 b1 a2 b2:Bool)(w:World) :
 Calls Tryz.prog 51 #[.agg #[.string s1,.int .i64 c1,.int .i64 r1,.bool a1,.bool b1],.agg #[.string s2,.int .i64 c2,.int .i64 r2,.bool a2,.bool b2]] w fun e w'=>e = .returned (.bool (fu ⟨s1,c1,r1,a1,b1⟩ ⟨s2,c2,r2,a2,b2⟩))∧Below w.heap.size w w':=by
 have hsz:(w.alloc (.cells #[.string s1,.int .i64 c1,.int .i64 r1,.bool a1,.bool b1] 43)).heap.size=w.heap.size+1:=by simp
 have h1:=df.new w s1 c1 r1 a1 b1;have h2:=df.new (w.alloc (.cells #[.string s1,.int .i64 c1,.int .i64 r1,.bool a1,.bool b1] 43)) s2 c2 r2 a2 b2;have h3:=h1.below ((ak _ _).alloc (aj _) (.cells #[.string s2,.int .i64 c2,.int .i64 r2,.bool a2,.bool b2] 43)) h1.lt;rw[hsz]at h2;have HB:=ae (((ak w.heap.size w).alloc (aj _) (.cells #[.string s1,.int .i64 c1,.int .i64 r1,.bool a1,.bool b1] 43)).alloc (by simp) (.cells #[.string s2,.int .i64 c2,.int .i64 r2,.bool a2,.bool b2] 43));have HS:=ae (show fu ⟨s1,c1,r1,a1,b1⟩ ⟨s2,c2,r2,a2,b2⟩=(decide (s2=⟨#[]⟩)&&(decide (c1≤c2)&&decide (r1≤r2)))from rfl);clear h1;go_enter Tryz.func51,Tryz.ntmps51;go_upto_region 1 with (fail)
 generalize (w.alloc (.cells #[.string s1,.int .i64 c1,.int .i64 r1,.bool a1,.bool b1] 43)).alloc (.cells #[.string s2,.int .i64 c2,.int .i64 r2,.bool a2,.bool b2] 43)=w1 at h2 h3 HB ⊢;obtain⟨x0,x1,x2,x3,x4⟩:=h2.facts;obtain⟨y0,y1,y2,y3,y4⟩:=h3.facts;clear h2 h3;by_cases hs:s2=⟨#[]⟩
 · subst hs
   have e0:=pq;by_cases hc:c1≤c2
   · by_cases hr:r1≤r2
     · have HT:=ae (show fu ⟨s1,c1,r1,a1,b1⟩ ⟨⟨#[]⟩,c2,r2,a2,b2⟩=true by rw[HS.o,aQ hc,aQ hr];rfl)
       go_wp2_with fail
       go_ret;exact⟨by rw[HT.o];rfl,HB.o⟩
     · have HT:=ae (show fu ⟨s1,c1,r1,a1,b1⟩ ⟨⟨#[]⟩,c2,r2,a2,b2⟩=false by rw[HS.o,aQ hc,aS hr];rfl)
       go_wp2_with fail
       go_ret;exact⟨by rw[HT.o];rfl,HB.o⟩
   · have HT:=ae (show fu ⟨s1,c1,r1,a1,b1⟩ ⟨⟨#[]⟩,c2,r2,a2,b2⟩=false by rw[HS.o,aS hc];rfl)
     go_wp2_with fail
     go_ret;exact⟨by rw[HT.o];rfl,HB.o⟩
 · have HT:=ae (show fu ⟨s1,c1,r1,a1,b1⟩ ⟨s2,c2,r2,a2,b2⟩=false by rw[HS.o,aS hs];rfl)
   have e0:¬ s2.toList=[]:=by rw[← pq];exact rM _ _ hs
   have e1:s2.toList.isEmpty=false:=by simpa using e0
   clear hs;go_wp2_with fail
   go_ret;exact⟨by rw[HT.o];rfl,HB.o⟩
theorem I4 {P:Program}{α : Type}{size t e bytes:Nat}{ops:Array Oper}{rest:List Oper}{o:Oper}{a:Act}{Q:Exit→Act→World→Prop}(dh:Elem P t e size bytes)(E:Enc α size)
 (hgd:o.guard=none) (s x:Operand) (ho:o.op = .call { callee := .builtin .append,args:=#[s,x],argTypes:=#[t,t] }) (ao:Option Addr) (n cap:Nat) (xs:List α)
 (hs:a.eval s = .slice ao n cap) (abh:ao=none→n=0∧cap=0) (hxl:xs.length=n) (hxs:∀b,ao=some b→∀(j:Nat)(u:Value),(E.all xs)[j]? = some u→w.cell? (b.add j)=some u)
 (ad:Addr) (m c:Nat) (ys:List α) (hx:a.eval x = .slice (some ad) m c) (hl:ys.length=m)
 (hc:∀(j:Nat)(u:Value),(E.all ys)[j]? = some u→w.cell? (ad.add j)=some u) (Eo:cap<n+m) (hb:(n+m)*bytes≤140737488355328) (hb2:n+m≤maxLen)
 (h:∀(v':Value)(w':World),Own E e w' w.heap.size v' (xs++ys)→Below w.heap.size w w'→wpList P ops Q rest (a.put o.dst v') w'):wpList P ops Q (o :: rest) a w:=by
 obtain⟨z,hi,hz⟩:=dh.inf;obtain⟨i,hi1,hi2,hi3,hi4⟩:=info_parts hi;refine wpList_append_grows w hgd s x t ho e i z size bytes dh.und hi1 hi2 hi3 hi4 hz dh.pos ao n cap (E.all xs) hs abh (by rw[E.mP,hxl]) hxs ad m c (E.all ys) hx (by rw[E.mP,hl]) hc (E.ym ys) Eo hb2 hb ?_;intro v' w' h1 h2;refine h v' w' ?_ ?_
 · unfold Own;rw[E.all_append,av,hxl,hl];exact h1
 · exact Below.grown (ak _ _) h2 (aj _) (fun k hk=>by cases hk)
theorem ad1:dm n=(aH n&&(decide (jQ n.kind = -1)||decide (jQ n.kind=n.kids.length))):=rfl
theorem Zz {st ks:List Int}{j:Nat}(h:(st.drop f).take j=ks.take j)(hx:st[f+j]? = some x)(hy:ks[j]? = some x):(st.drop f).take (j+1)=ks.take (j+1) :=
 VN h (by rw[List.getElem?_drop];exact hx) hy
theorem Zy {st ks:List Int}{j:Nat}{y:Int}(hx:st[f+j]? = some x)(hy:ks[j]? = some y)(h:¬ x=y):¬ st.drop f=ks:=by
 intro e;have h1:(st.drop f)[j]? = some x:=by rw[List.getElem?_drop];exact hx
 rw[e,hy]at h1;exact h (dU h1).symm
theorem Ih (k:Int)(w:World):Calls Tryz.prog 28 #[.int .i64 k] w fun e w'=>e = .returned (.int .i64 ((bJ k:Nat)+1:Int))∧w=w':=by
 have fin:∀r:Nat,bJ k=r→(Calls Tryz.prog 28 #[.int .i64 k] w fun e w'=>e = .returned (.int .i64 ((r:Int)+1))∧w=w')→Calls Tryz.prog 28 #[.int .i64 k] w fun e w'=>e = .returned (.int .i64 ((bJ k:Nat)+1:Int))∧w=w':=fun r h1 h2=>by rw[h1];exact h2
 by_cases h:9≤k∧k≤14
 · obtain⟨h1,h2⟩:=h
   refine fin 0 (by unfold bJ;rw[ah ⟨h1,h2⟩]) ?_;clear fin;go_enter Tryz.func28,Tryz.ntmps28;go_wp2_with fail
   go_ret;exact⟨rfl,rfl⟩
 by_cases vo:k=15
 · refine fin 1 (by subst vo;rfl) ?_
   clear fin;subst vo;go_enter Tryz.func28,Tryz.ntmps28;go_wp2_with fail
   go_ret;exact⟨rfl,rfl⟩
 by_cases h16:k=16
 · refine fin 2 (by subst h16;rfl) ?_
   clear fin;subst h16;go_enter Tryz.func28,Tryz.ntmps28;go_wp2_with fail
   go_ret;exact⟨rfl,rfl⟩
 by_cases xL:k=17
 · refine fin 2 (by subst xL;rfl) ?_
   clear fin;subst xL;go_enter Tryz.func28,Tryz.ntmps28;go_wp2_with fail
   go_ret;exact⟨rfl,rfl⟩
 by_cases h18:k=18
 · refine fin 3 (by subst h18;rfl) ?_
   clear fin;subst h18;go_enter Tryz.func28,Tryz.ntmps28;go_wp2_with fail
   go_ret;exact⟨rfl,rfl⟩
 by_cases h19:k=19
 · refine fin 3 (by subst h19;rfl) ?_
   clear fin;subst h19;go_enter Tryz.func28,Tryz.ntmps28;go_wp2_with fail
   go_ret;exact⟨rfl,rfl⟩
 by_cases h8:k=8
 · refine fin 4 (by subst h8;rfl) ?_
   clear fin;subst h8;go_enter Tryz.func28,Tryz.ntmps28;go_wp2_with fail
   go_ret;exact⟨rfl,rfl⟩
 refine fin 5 (by unfold bJ;rw[ag h,ag vo,ag (by omega),ag (by omega),ag h8]) ?_;have e15:(k == 15)=false:=aA.2 vo;have e16:(k == 16)=false:=aA.2 h16;have e17:(k == 17)=false:=aA.2 xL;have e18:(k == 18)=false:=aA.2 h18;have e19:(k == 19)=false:=aA.2 h19;have e8:(k == 8)=false:=aA.2 h8;clear fin vo h16 xL h18 h19 h8;by_cases h9:9≤k
 · have Eb:¬ k≤14:=by omega
   clear h;go_enter Tryz.func28,Tryz.ntmps28;go_wp2_with fail
   go_ret;exact⟨rfl,rfl⟩
 · clear h
   go_enter Tryz.func28,Tryz.ntmps28;go_wp2_with fail
   go_ret;exact⟨rfl,rfl⟩
theorem afp (o:Nat)(ho:o<11)(w:World):Calls Tryz.prog 29 #[.int .i64 (9+(o:Int))] w fun e w'=>e = .returned (.string (jW.getD o ⟨#[]⟩))∧Below w.heap.size w w':=by
 have h:o=0∨o=1∨o=2∨o=3∨o=4∨o=5∨o=6∨o=7∨o=8∨o=9∨o=10:=by omega
 rcases h with rfl|rfl|rfl|rfl|rfl|rfl|rfl|rfl|rfl|rfl|rfl
 all_goals
  go_enter Tryz.func29,Tryz.ntmps29;go_wp2_with fail
  go_ret;exact⟨rfl,(ak _ _).alloc (aj _) _⟩
theorem aev (w:World)(base:Nat)(x:Int)(hb:base≤w.heap.size):Own (aI .u8) 5 (w.alloc (.cells #[.int .u8 x] 5)) base (.slice (some ⟨w.heap.size,0,none⟩) 1 1) [x] :=
 ⟨rfl,.inr ⟨w.heap.size,1,_,rfl,hb,(kW w _).1,aj _,by decide,rfl,rfl⟩⟩
theorem Zq(x:Int)(l:List Int):fe (x :: l)=(if x=34 then [34,34]else [x])++fe l:=rfl
theorem afv (s:ByteArray)(w:World)(hs:s.size≤1000000000):Calls Tryz.prog 25 #[.string s] w fun e w'=>e = .returned (.string (strOfNums (34 :: (fe (sb s)++[34]))))∧Below w.heap.size w w':=by
 go_enter Tryz.func25,Tryz.ntmps25;go_upto_region 3 with (fail)
 go_loopw [3,4] (fun ov iv wr=>∃(i:Nat)(xs:List Int),i≤s.size∧xs.length≤1+2*i∧iv = .int .i64 (i:Int)∧Hid (xs++fe (aD s i)=34 :: fe (sb s))∧Hid (qc wr w.heap.size ov xs)∧Hid (Below w.heap.size w wr))
  (fun _ iv _=>s.size - (intOf iv).toNat)
 case atStart=>exact⟨0,[34],eP _,by simp,rfl,ae rfl,ae (aev w _ 34 (aj _)),ae ((ak _ _).alloc (aj _) _)⟩
 case round =>
  obtain⟨i,xs,hi,hxl,rfl,HD,HO,HB⟩:=hrel;by_cases hlt:i<s.size
  · have hii:(i:Int)<(s.size:Int):=by omega
    obtain⟨a,ha⟩:∃a:Int,(s[i].toNat:Int)=a:=⟨_,rfl⟩;have ha1:0≤a∧a≤255:=by have:=s[i].toNat_lt;omega
    have HR:=ae (show fe (aD s i)=(if a=34 then [34,34]else [a])++fe (aD s (i+1))by rw[nJ s i hlt,Zq,ha]);by_cases dG:a=34
    · have Aw:(a == 34)=true:=bA.2 dG
      have HX:=ae (show((xs++[34])++[a])++fe (aD s (i+1))=34 :: fe (sb s)by rw[← HD.o,HR.o,ah dG,dG];simp);clear dG HD HR
      go_wp2_with (first
       | (at_builtin;refine ow Elem.u8 (aI .u8) rfl (.tmp 16) (.tmp 17) rfl w.heap.size _ _ rfl (HO.o.alloc _) ⟨_,0,none⟩ 1 1 [34] rfl rfl ?_ ?_ ?_ ?_ ?_;exact ic _ _ _ rfl;(first|omega|(simp only[av,aX,dV];omega));(unfold maxLen;first|omega|(simp only[av,aX,dV];omega));(have:=HB.o.size;simp <;> omega);intro v1 w1 h1 h2;have fZ:=ae h1;have HB1:=ae ((HB.o.alloc HB.o.size _).trans h2);clear h1 h2)
       | (at_builtin;refine ow Elem.u8 (aI .u8) rfl (.tmp 19) (.tmp 23) rfl w.heap.size _ _ rfl (fZ.o.alloc _) ⟨_,0,none⟩ 1 1 [a] rfl rfl ?_ ?_ ?_ ?_ ?_;exact ic _ _ _ rfl;(first|omega|(simp only[av,aX,dV];omega));(unfold maxLen;first|omega|(simp only[av,aX,dV];omega));(have:=HB1.o.size;simp <;> omega);intro v2 w2 h1 h2;have nP:=ae h1;have HB2:=ae ((HB1.o.alloc HB1.o.size _).trans h2);clear h1 h2))
      go_roundw
      case rel=>exact⟨i+1,_,by omega,by simp;omega,by go_num,HX,nP,HB2⟩
      case measure=>simp[intOf];omega
    · have Aw:(a == 34)=false:=aA.2 dG
      have HX:=ae (show(xs++[a])++fe (aD s (i+1))=34 :: fe (sb s)by rw[← HD.o,HR.o,ag dG];simp);clear dG HD HR;go_wp2_with ((at_builtin;refine ow Elem.u8 (aI .u8) rfl (.tmp 19) (.tmp 23) rfl w.heap.size _ _ rfl (HO.o.alloc _) ⟨_,0,none⟩ 1 1 [a] rfl rfl ?_ ?_ ?_ ?_ ?_;exact ic _ _ _ rfl;(first|omega|(simp only[av,aX,dV];omega));(unfold maxLen;first|omega|(simp only[av,aX,dV];omega));(have:=HB.o.size;simp <;> omega);intro v1 w1 h1 h2;have fZ:=ae h1;have HB1:=ae ((HB.o.alloc HB.o.size _).trans h2);clear h1 h2))
      go_roundw
      case rel=>exact⟨i+1,_,by omega,by simp;omega,by go_num,HX,fZ,HB1⟩
      case measure=>simp[intOf];omega
  · have hii:¬ (i:Int)<(s.size:Int):=by omega
    have HX:=ae (show xs++[34]=34 :: (fe (sb s)++[34])by
     have:=HD.o;rw[EO s i (by omega)]at this;rw[show xs=34 :: fe (sb s)from(fF xs).symm.trans this];rfl)
    clear HD;go_wp2_with (at_builtin;refine ow Elem.u8 (aI .u8) rfl (.tmp 25) (.tmp 26) rfl w.heap.size _ _ rfl (HO.o.alloc _) ⟨_,0,none⟩ 1 1 [34] rfl rfl ?_ ?_ ?_ ?_ ?_;exact ic _ _ _ rfl;(first|omega|(simp only[av,aX,dV];omega));(unfold maxLen;first|omega|(simp only[av,aX,dV];omega));(have:=HB.o.size;simp <;> omega);intro v1 w1 h1 h2;have fZ:=ae h1;have HB1:=ae ((HB.o.alloc HB.o.size _).trans h2);clear h1 h2;have hcv:=CS fZ.o)
    go_ret;exact⟨mU (congrArg strOfNums HX.o),HB1.o⟩
theorem Own.Nl {lo:Nat}{xs:List Int}(h:Own (aI .i64) 3 w lo v xs):iM w w.heap.size v xs:=by
 rcases h.shape with ⟨rfl,rfl⟩|⟨g,cap,rfl,h1,h2,h3,h4⟩
 · exact⟨none,0,rfl,aj _,by unfold maxLen;omega,.inl rfl⟩
 · refine⟨_,cap,rfl,h3,h4,.inr ⟨g,0,rfl,h2,fun j x hj => ?_⟩⟩
   rw[Nat.zero_add];have:=(aI .i64).at xs j 0 x hj (by omega);rw[Nat.mul_one,Nat.add_zero]at this;exact Own.cells h j _ (by rw[this];rfl)
theorem ky.sn {lo g n cap:Nat}{vs:List aC}(h:ky w lo (.slice (some ⟨g,0,none⟩) n cap) vs)(hn:vs.length=n):fI w w.heap.size (.slice (some ⟨g,0,none⟩) n cap) (vs.map fun v=>(v.n,v.bn)):=by
 refine⟨⟨_,cap,by rw[eB,hn],.inr ⟨g,0,rfl,(Own.kP h.1 g rfl).2.1,fun i nd k hi j hj => ?_⟩⟩, ?_⟩
 · rw[gN]at hi
   obtain⟨v,hv,e⟩:=Option.map_eq_some_iff.1 hi;injection e with e1 e2;subst e1;subst e2;rw[Nat.zero_add];exact h.cell i v hv j hj
 · intro p hp
   obtain⟨v,hv,rfl⟩:=List.mem_map.1 hp;exact(h.2 v hv).Nl
theorem Ns(vs:List aC):(vs.map fun v=>(v.n,v.bn)).map (·.1)=vs.map aC.n:=by rw[List.map_map];rfl
theorem fI.uq (h:fI w B v vs):∃A cap,v = .slice A vs.length cap:=by
 obtain⟨⟨A,cap,h,_⟩,_⟩:=h;exact⟨A,cap,h⟩
theorem fI.cellAt {A:Option Addr}{L cap:Nat}(h:fI w B (.slice A L cap) vs)(hi:vs[i]? = some (n,k)):iM w B k n.kids∧∃pb po,A=some ⟨pb,po,none⟩∧pb<B∧∀j,j<14→w.cell? ⟨pb,po+i*14+j,none⟩=(bU n k).toList[j]? := by
 obtain⟨⟨A',qf,h1,h2⟩,h3⟩:=h;injection h1 with e1 e2 e3;subst e1;refine⟨h3 _ (fT hi), ?_⟩;rcases h2 with rfl|⟨pb,po,e1,e2,e3⟩
 · simp at hi
 · exact⟨pb,po,e1,e2,e3 i n k hi⟩
structure oI (w:World)(v:Value)(l:List (Nd × Value))(ns:List Nd):Prop where
 sn:fI w w.heap.size v l
 map:l.map (·.1)=ns
 tree:cO ns=true
 few:l.length≤1000
 sizes:∀q∈l,q.1.text.size≤1000000∧q.1.ref.sh.size≤1000000∧q.1.af.sh.size≤1000000
 yl:∀q∈l,q.1.num≤9223372036854775807
theorem oI.node (h:oI w v l ns)(hi:l[i]? = some (n,k)):nodeAt ns (i:Int)=n∧i<ns.length:=by
 rw[← h.map];have hl:=(dS.1 hi).1;refine⟨?_,by rw[eB];exact hl⟩;unfold nodeAt;rw[show((i:Int)).toNat=i by omega,jL,gN,hi];rfl
theorem oI.leaf (h:oI w v l ns)(hi:l[i]? = some (n,k)):dm n=true:=by
 obtain⟨h1,h2⟩:=h.node hi;have:=(zM h.tree (i:=(i:Int)) (by omega) (by omega)).1;rw[h1]at this;exact this
def ShR(ns:List Nd)(i:Nat)(w1:World)(e:Ending)(w':World):Prop:=e = .returned (.string (strOfNums (bI ns (i:Int))))∧Below w1.heap.size w1 w'
theorem ag0 (C:oI w v l ns)(i:Nat)(n:Nd)(k:Value)(hi:l[i]? = some (n,k))(hk:n.kind=1)(w1:World)(hb:Below w.heap.size w w1) :
 Calls Tryz.prog 15 #[v,.int .i64 (i:Int)] w1 (ShR ns i w1):=by
 obtain⟨iD,hil⟩:=C.node hi;have hlf:=C.leaf hi;have di:=fT hi;have hll:i<l.length:=(dS.1 hi).1;obtain⟨hz1,hz2,hz3⟩:=(show n.text.size≤1000000∧n.ref.sh.size≤1000000∧n.af.sh.size≤1000000 from C.sizes _ di);have bM:n.num≤9223372036854775807:=C.yl _ di;have kR:=C.few;have HC:=ae C;obtain⟨A,cap,rfl⟩:=C.sn.uq;obtain⟨hsk,pb,po,rfl,hpb,hcell⟩:=C.sn.cellAt hi;obtain⟨aW,ck,hkk,hkc,dM,ji⟩:=id hsk;obtain⟨m,hm⟩:∃m,n.kids.length=m:=⟨_,rfl⟩;rw[hm]at hkk hkc;subst hkk;obtain⟨nl,hnl⟩:∃nl,l.length=nl:=⟨_,rfl⟩;rw[hnl]at hll kR ⊢;have hii:(i:Int)<(nl:Int):=by omega
 have hi0:(0:Int)≤(i:Int):=by omega
 have hmx:m≤9223372036854775807:=by unfold maxLen at dM;omega
 have HM:=ae hm;have jF:=ae hnl;have r9:=ae ji;have gY:=ae iD;have vZ:=ae hlf;have yH:=ae hkc;have HB:=ae hb;have l7:=ae (vN C.tree (i:=(i:Int)) (by omega) (by omega) n iD);have k0:w1.cell? ⟨pb,po+i*14,none⟩=some (.int .i64 n.kind):=(hb.cell (p:=⟨pb,po+i*14,none⟩) hpb).trans (hcell 0 (by omega));have k1:w1.cell? ⟨pb,po+i*14+1,none⟩=some (.int .i64 n.num):=(hb.cell (p:=⟨pb,po+i*14+1,none⟩) hpb).trans (hcell 1 (by omega));have k2:w1.cell? ⟨pb,po+i*14+2,none⟩=some (.string n.text):=(hb.cell (p:=⟨pb,po+i*14+2,none⟩) hpb).trans (hcell 2 (by omega));have k3:w1.cell? ⟨pb,po+i*14+3,none⟩=some (.string n.ref.sh):=(hb.cell (p:=⟨pb,po+i*14+3,none⟩) hpb).trans (hcell 3 (by omega));have k4:w1.cell? ⟨pb,po+i*14+4,none⟩=some (.int .i64 n.ref.c):=(hb.cell (p:=⟨pb,po+i*14+4,none⟩) hpb).trans (hcell 4 (by omega));have k5:w1.cell? ⟨pb,po+i*14+5,none⟩=some (.int .i64 n.ref.r):=(hb.cell (p:=⟨pb,po+i*14+5,none⟩) hpb).trans (hcell 5 (by omega));have k6:w1.cell? ⟨pb,po+i*14+6,none⟩=some (.bool n.ref.ac):=(hb.cell (p:=⟨pb,po+i*14+6,none⟩) hpb).trans (hcell 6 (by omega));have k7:w1.cell? ⟨pb,po+i*14+7,none⟩=some (.bool n.ref.ar):=(hb.cell (p:=⟨pb,po+i*14+7,none⟩) hpb).trans (hcell 7 (by omega));have k8:w1.cell? ⟨pb,po+i*14+8,none⟩=some (.string n.af.sh):=(hb.cell (p:=⟨pb,po+i*14+8,none⟩) hpb).trans (hcell 8 (by omega));have k9:w1.cell? ⟨pb,po+i*14+9,none⟩=some (.int .i64 n.af.c):=(hb.cell (p:=⟨pb,po+i*14+9,none⟩) hpb).trans (hcell 9 (by omega));have k10:w1.cell? ⟨pb,po+i*14+10,none⟩=some (.int .i64 n.af.r):=(hb.cell (p:=⟨pb,po+i*14+10,none⟩) hpb).trans (hcell 10 (by omega));have k11:w1.cell? ⟨pb,po+i*14+11,none⟩=some (.bool n.af.ac):=(hb.cell (p:=⟨pb,po+i*14+11,none⟩) hpb).trans (hcell 11 (by omega));have k12:w1.cell? ⟨pb,po+i*14+12,none⟩=some (.bool n.af.ar):=(hb.cell (p:=⟨pb,po+i*14+12,none⟩) hpb).trans (hcell 12 (by omega));have k13:w1.cell? ⟨pb,po+i*14+13,none⟩=some (.slice aW m ck):=(hb.cell (p:=⟨pb,po+i*14+13,none⟩) hpb).trans (hcell 13 (by omega));have HK:=ae hk;obtain⟨u,hu⟩:∃u:Nat,n.num=(u:Int):=⟨n.num.toNat,by have:=acG (qX hlf).2.2.2.2.2 hk;omega⟩;have HT:=ae (show bI ns (i:Int)=aV u by rw[l7.o,ah hk,hu];rfl);have HU:=ae hu;have Lv:u≤9223372036854775807:=by omega
 clear hu;clear hk;have hB3:Below w1.heap.size w1 (w1.alloc (.cells #[.int .i64 n.kind,.int .i64 n.num,.string n.text,.string n.ref.sh,.int .i64 n.ref.c,.int .i64 n.ref.r,.bool n.ref.ac,.bool n.ref.ar,.string n.af.sh,.int .i64 n.af.c,.int .i64 n.af.r,.bool n.af.ac,.bool n.af.ar,.slice aW m ck] 45)):=(ak _ _).alloc (aj _) _;have aF:az (w1.alloc (.cells #[.int .i64 n.kind,.int .i64 n.num,.string n.text,.string n.ref.sh,.int .i64 n.ref.c,.int .i64 n.ref.r,.bool n.ref.ac,.bool n.ref.ar,.string n.af.sh,.int .i64 n.af.c,.int .i64 n.af.r,.bool n.af.ac,.bool n.af.ar,.slice aW m ck] 45)) w1.heap.size n (.slice aW m ck):=az.new w1 n _;have HB3:=ae hB3;clear hB3 C hi di hcell ji hkc dM hm hnl iD hlf hsk hb;go_enter Tryz.func15,Tryz.ntmps15;go_upto_region 2 with (fail)
 generalize hb3:w1.heap.size=b3 at aF ⊢;generalize w1.alloc (.cells #[.int .i64 n.kind,.int .i64 n.num,.string n.text,.string n.ref.sh,.int .i64 n.ref.c,.int .i64 n.ref.r,.bool n.ref.ac,.bool n.ref.ar,.string n.af.sh,.int .i64 n.af.c,.int .i64 n.af.r,.bool n.af.ac,.bool n.af.ar,.slice aW m ck] 45)=w3 at aF HB3 ⊢;clear hb3 k0 k1 k2 k3 k4 k5 k6 k7 k8 k9 k10 k11 k12 k13;obtain⟨x0,x1,x2,x3,x4,x5,x6,x7,ay,aO,aL,aM,aN,aJ⟩:=aF.cells;have hb3:=aF.lt;have aF:=ae aF;have hk:=HK.o;have e1:(n.kind == 1)=true:=by rw[hk];rfl
 clear hk;rw[HU.o]at x1;have HD:=ae (fun w=>wT u Lv w);go_wp2_with (go_at_call 16;((with_reducible refine(HD.o _).mono ?_);rintro e w4 ⟨rfl,h1⟩;have dC:=ae (HB3.o.trans (h1.mono HB3.o.size));clear h1))
 go_ret;exact⟨by rw[HT.o] <;> rfl,dC.o⟩
theorem ag1 (C:oI w v l ns)(i:Nat)(n:Nd)(k:Value)(hi:l[i]? = some (n,k))(hk:n.kind=2)(w1:World)(hb:Below w.heap.size w w1) :
 Calls Tryz.prog 15 #[v,.int .i64 (i:Int)] w1 (ShR ns i w1):=by
 obtain⟨iD,hil⟩:=C.node hi;have hlf:=C.leaf hi;have di:=fT hi;have hll:i<l.length:=(dS.1 hi).1;obtain⟨hz1,hz2,hz3⟩:=(show n.text.size≤1000000∧n.ref.sh.size≤1000000∧n.af.sh.size≤1000000 from C.sizes _ di);have bM:n.num≤9223372036854775807:=C.yl _ di;have kR:=C.few;have HC:=ae C;obtain⟨A,cap,rfl⟩:=C.sn.uq;obtain⟨hsk,pb,po,rfl,hpb,hcell⟩:=C.sn.cellAt hi;obtain⟨aW,ck,hkk,hkc,dM,ji⟩:=id hsk;obtain⟨m,hm⟩:∃m,n.kids.length=m:=⟨_,rfl⟩;rw[hm]at hkk hkc;subst hkk;obtain⟨nl,hnl⟩:∃nl,l.length=nl:=⟨_,rfl⟩;rw[hnl]at hll kR ⊢;have hii:(i:Int)<(nl:Int):=by omega
 have hi0:(0:Int)≤(i:Int):=by omega
 have hmx:m≤9223372036854775807:=by unfold maxLen at dM;omega
 have HM:=ae hm;have jF:=ae hnl;have r9:=ae ji;have gY:=ae iD;have vZ:=ae hlf;have yH:=ae hkc;have HB:=ae hb;have l7:=ae (vN C.tree (i:=(i:Int)) (by omega) (by omega) n iD);have k0:w1.cell? ⟨pb,po+i*14,none⟩=some (.int .i64 n.kind):=(hb.cell (p:=⟨pb,po+i*14,none⟩) hpb).trans (hcell 0 (by omega));have k1:w1.cell? ⟨pb,po+i*14+1,none⟩=some (.int .i64 n.num):=(hb.cell (p:=⟨pb,po+i*14+1,none⟩) hpb).trans (hcell 1 (by omega));have k2:w1.cell? ⟨pb,po+i*14+2,none⟩=some (.string n.text):=(hb.cell (p:=⟨pb,po+i*14+2,none⟩) hpb).trans (hcell 2 (by omega));have k3:w1.cell? ⟨pb,po+i*14+3,none⟩=some (.string n.ref.sh):=(hb.cell (p:=⟨pb,po+i*14+3,none⟩) hpb).trans (hcell 3 (by omega));have k4:w1.cell? ⟨pb,po+i*14+4,none⟩=some (.int .i64 n.ref.c):=(hb.cell (p:=⟨pb,po+i*14+4,none⟩) hpb).trans (hcell 4 (by omega));have k5:w1.cell? ⟨pb,po+i*14+5,none⟩=some (.int .i64 n.ref.r):=(hb.cell (p:=⟨pb,po+i*14+5,none⟩) hpb).trans (hcell 5 (by omega));have k6:w1.cell? ⟨pb,po+i*14+6,none⟩=some (.bool n.ref.ac):=(hb.cell (p:=⟨pb,po+i*14+6,none⟩) hpb).trans (hcell 6 (by omega));have k7:w1.cell? ⟨pb,po+i*14+7,none⟩=some (.bool n.ref.ar):=(hb.cell (p:=⟨pb,po+i*14+7,none⟩) hpb).trans (hcell 7 (by omega));have k8:w1.cell? ⟨pb,po+i*14+8,none⟩=some (.string n.af.sh):=(hb.cell (p:=⟨pb,po+i*14+8,none⟩) hpb).trans (hcell 8 (by omega));have k9:w1.cell? ⟨pb,po+i*14+9,none⟩=some (.int .i64 n.af.c):=(hb.cell (p:=⟨pb,po+i*14+9,none⟩) hpb).trans (hcell 9 (by omega));have k10:w1.cell? ⟨pb,po+i*14+10,none⟩=some (.int .i64 n.af.r):=(hb.cell (p:=⟨pb,po+i*14+10,none⟩) hpb).trans (hcell 10 (by omega));have k11:w1.cell? ⟨pb,po+i*14+11,none⟩=some (.bool n.af.ac):=(hb.cell (p:=⟨pb,po+i*14+11,none⟩) hpb).trans (hcell 11 (by omega));have k12:w1.cell? ⟨pb,po+i*14+12,none⟩=some (.bool n.af.ar):=(hb.cell (p:=⟨pb,po+i*14+12,none⟩) hpb).trans (hcell 12 (by omega));have k13:w1.cell? ⟨pb,po+i*14+13,none⟩=some (.slice aW m ck):=(hb.cell (p:=⟨pb,po+i*14+13,none⟩) hpb).trans (hcell 13 (by omega));have HK:=ae hk;have HT:=ae (show bI ns (i:Int)=34 :: (fe (sb n.text)++[34])by rw[l7.o,ag (by omega),ah hk]);clear hk;have hB3:Below w1.heap.size w1 (w1.alloc (.cells #[.int .i64 n.kind,.int .i64 n.num,.string n.text,.string n.ref.sh,.int .i64 n.ref.c,.int .i64 n.ref.r,.bool n.ref.ac,.bool n.ref.ar,.string n.af.sh,.int .i64 n.af.c,.int .i64 n.af.r,.bool n.af.ac,.bool n.af.ar,.slice aW m ck] 45)):=(ak _ _).alloc (aj _) _;have aF:az (w1.alloc (.cells #[.int .i64 n.kind,.int .i64 n.num,.string n.text,.string n.ref.sh,.int .i64 n.ref.c,.int .i64 n.ref.r,.bool n.ref.ac,.bool n.ref.ar,.string n.af.sh,.int .i64 n.af.c,.int .i64 n.af.r,.bool n.af.ac,.bool n.af.ar,.slice aW m ck] 45)) w1.heap.size n (.slice aW m ck):=az.new w1 n _;have HB3:=ae hB3;clear hB3 C hi di hcell ji hkc dM hm hnl iD hlf hsk hb;go_enter Tryz.func15,Tryz.ntmps15;go_upto_region 2 with (fail)
 generalize hb3:w1.heap.size=b3 at aF ⊢;generalize w1.alloc (.cells #[.int .i64 n.kind,.int .i64 n.num,.string n.text,.string n.ref.sh,.int .i64 n.ref.c,.int .i64 n.ref.r,.bool n.ref.ac,.bool n.ref.ar,.string n.af.sh,.int .i64 n.af.c,.int .i64 n.af.r,.bool n.af.ac,.bool n.af.ar,.slice aW m ck] 45)=w3 at aF HB3 ⊢;clear hb3 k0 k1 k2 k3 k4 k5 k6 k7 k8 k9 k10 k11 k12 k13;obtain⟨x0,x1,x2,x3,x4,x5,x6,x7,ay,aO,aL,aM,aN,aJ⟩:=aF.cells;have hb3:=aF.lt;have aF:=ae aF;have hk:=HK.o;have e1:(n.kind == 1)=false:=by rw[hk];rfl
 have e2:(n.kind == 2)=true:=by rw[hk];rfl
 clear hk;have HD:=ae (fun w=>afv n.text w (by omega));go_wp2_with (go_at_call 25;((with_reducible refine(HD.o _).mono ?_);rintro e w4 ⟨rfl,h1⟩;have dC:=ae (HB3.o.trans (h1.mono HB3.o.size));clear h1))
 go_ret;exact⟨by rw[HT.o] <;> rfl,dC.o⟩
theorem ag2 (C:oI w v l ns)(i:Nat)(n:Nd)(k:Value)(hi:l[i]? = some (n,k))(hk:n.kind=3)(w1:World)(hb:Below w.heap.size w w1) :
 Calls Tryz.prog 15 #[v,.int .i64 (i:Int)] w1 (ShR ns i w1):=by
 obtain⟨iD,hil⟩:=C.node hi;have hlf:=C.leaf hi;have di:=fT hi;have hll:i<l.length:=(dS.1 hi).1;obtain⟨hz1,hz2,hz3⟩:=(show n.text.size≤1000000∧n.ref.sh.size≤1000000∧n.af.sh.size≤1000000 from C.sizes _ di);have bM:n.num≤9223372036854775807:=C.yl _ di;have kR:=C.few;have HC:=ae C;obtain⟨A,cap,rfl⟩:=C.sn.uq;obtain⟨hsk,pb,po,rfl,hpb,hcell⟩:=C.sn.cellAt hi;obtain⟨aW,ck,hkk,hkc,dM,ji⟩:=id hsk;obtain⟨m,hm⟩:∃m,n.kids.length=m:=⟨_,rfl⟩;rw[hm]at hkk hkc;subst hkk;obtain⟨nl,hnl⟩:∃nl,l.length=nl:=⟨_,rfl⟩;rw[hnl]at hll kR ⊢;have hii:(i:Int)<(nl:Int):=by omega
 have hi0:(0:Int)≤(i:Int):=by omega
 have hmx:m≤9223372036854775807:=by unfold maxLen at dM;omega
 have HM:=ae hm;have jF:=ae hnl;have r9:=ae ji;have gY:=ae iD;have vZ:=ae hlf;have yH:=ae hkc;have HB:=ae hb;have l7:=ae (vN C.tree (i:=(i:Int)) (by omega) (by omega) n iD);have k0:w1.cell? ⟨pb,po+i*14,none⟩=some (.int .i64 n.kind):=(hb.cell (p:=⟨pb,po+i*14,none⟩) hpb).trans (hcell 0 (by omega));have k1:w1.cell? ⟨pb,po+i*14+1,none⟩=some (.int .i64 n.num):=(hb.cell (p:=⟨pb,po+i*14+1,none⟩) hpb).trans (hcell 1 (by omega));have k2:w1.cell? ⟨pb,po+i*14+2,none⟩=some (.string n.text):=(hb.cell (p:=⟨pb,po+i*14+2,none⟩) hpb).trans (hcell 2 (by omega));have k3:w1.cell? ⟨pb,po+i*14+3,none⟩=some (.string n.ref.sh):=(hb.cell (p:=⟨pb,po+i*14+3,none⟩) hpb).trans (hcell 3 (by omega));have k4:w1.cell? ⟨pb,po+i*14+4,none⟩=some (.int .i64 n.ref.c):=(hb.cell (p:=⟨pb,po+i*14+4,none⟩) hpb).trans (hcell 4 (by omega));have k5:w1.cell? ⟨pb,po+i*14+5,none⟩=some (.int .i64 n.ref.r):=(hb.cell (p:=⟨pb,po+i*14+5,none⟩) hpb).trans (hcell 5 (by omega));have k6:w1.cell? ⟨pb,po+i*14+6,none⟩=some (.bool n.ref.ac):=(hb.cell (p:=⟨pb,po+i*14+6,none⟩) hpb).trans (hcell 6 (by omega));have k7:w1.cell? ⟨pb,po+i*14+7,none⟩=some (.bool n.ref.ar):=(hb.cell (p:=⟨pb,po+i*14+7,none⟩) hpb).trans (hcell 7 (by omega));have k8:w1.cell? ⟨pb,po+i*14+8,none⟩=some (.string n.af.sh):=(hb.cell (p:=⟨pb,po+i*14+8,none⟩) hpb).trans (hcell 8 (by omega));have k9:w1.cell? ⟨pb,po+i*14+9,none⟩=some (.int .i64 n.af.c):=(hb.cell (p:=⟨pb,po+i*14+9,none⟩) hpb).trans (hcell 9 (by omega));have k10:w1.cell? ⟨pb,po+i*14+10,none⟩=some (.int .i64 n.af.r):=(hb.cell (p:=⟨pb,po+i*14+10,none⟩) hpb).trans (hcell 10 (by omega));have k11:w1.cell? ⟨pb,po+i*14+11,none⟩=some (.bool n.af.ac):=(hb.cell (p:=⟨pb,po+i*14+11,none⟩) hpb).trans (hcell 11 (by omega));have k12:w1.cell? ⟨pb,po+i*14+12,none⟩=some (.bool n.af.ar):=(hb.cell (p:=⟨pb,po+i*14+12,none⟩) hpb).trans (hcell 12 (by omega));have k13:w1.cell? ⟨pb,po+i*14+13,none⟩=some (.slice aW m ck):=(hb.cell (p:=⟨pb,po+i*14+13,none⟩) hpb).trans (hcell 13 (by omega));have HK:=ae hk;have HT:=ae (show bI ns (i:Int)=(if n.num=1 then [84,82,85,69]else [70,65,76,83,69])by rw[l7.o,ag (by omega),ag (by omega),ah hk]);clear hk;have hB3:Below w1.heap.size w1 (w1.alloc (.cells #[.int .i64 n.kind,.int .i64 n.num,.string n.text,.string n.ref.sh,.int .i64 n.ref.c,.int .i64 n.ref.r,.bool n.ref.ac,.bool n.ref.ar,.string n.af.sh,.int .i64 n.af.c,.int .i64 n.af.r,.bool n.af.ac,.bool n.af.ar,.slice aW m ck] 45)):=(ak _ _).alloc (aj _) _;have aF:az (w1.alloc (.cells #[.int .i64 n.kind,.int .i64 n.num,.string n.text,.string n.ref.sh,.int .i64 n.ref.c,.int .i64 n.ref.r,.bool n.ref.ac,.bool n.ref.ar,.string n.af.sh,.int .i64 n.af.c,.int .i64 n.af.r,.bool n.af.ac,.bool n.af.ar,.slice aW m ck] 45)) w1.heap.size n (.slice aW m ck):=az.new w1 n _;have HB3:=ae hB3;clear hB3 C hi di hcell ji hkc dM hm hnl iD hlf hsk hb;go_enter Tryz.func15,Tryz.ntmps15;go_upto_region 2 with (fail)
 generalize hb3:w1.heap.size=b3 at aF ⊢;generalize w1.alloc (.cells #[.int .i64 n.kind,.int .i64 n.num,.string n.text,.string n.ref.sh,.int .i64 n.ref.c,.int .i64 n.ref.r,.bool n.ref.ac,.bool n.ref.ar,.string n.af.sh,.int .i64 n.af.c,.int .i64 n.af.r,.bool n.af.ac,.bool n.af.ar,.slice aW m ck] 45)=w3 at aF HB3 ⊢;clear hb3 k0 k1 k2 k3 k4 k5 k6 k7 k8 k9 k10 k11 k12 k13;obtain⟨x0,x1,x2,x3,x4,x5,x6,x7,ay,aO,aL,aM,aN,aJ⟩:=aF.cells;have hb3:=aF.lt;have aF:=ae aF;have hk:=HK.o;have e1:(n.kind == 1)=false:=by rw[hk];rfl
 have e2:(n.kind == 2)=false:=by rw[hk];rfl
 have e3:(n.kind == 3)=true:=by rw[hk];rfl
 clear hk;by_cases h1:n.num=1
 · have g1:(n.num == 1)=true:=bA.2 h1
   have HT2:=ae (show(⟨#[84,82,85,69]⟩:ByteArray)=strOfNums (bI ns (i:Int))by rw[HT.o,ah h1];decide);clear h1;go_wp2_with fail
   go_ret;exact⟨mU HT2.o,HB3.o⟩
 · have g1:(n.num == 1)=false:=aA.2 h1
   have HT2:=ae (show(⟨#[70,65,76,83,69]⟩:ByteArray)=strOfNums (bI ns (i:Int))by rw[HT.o,ag h1];decide);clear h1;go_wp2_with fail
   go_ret;exact⟨mU HT2.o,HB3.o⟩
theorem ag3 (C:oI w v l ns)(i:Nat)(n:Nd)(k:Value)(hi:l[i]? = some (n,k))(hk:n.kind=4)(w1:World)(hb:Below w.heap.size w w1) :
 Calls Tryz.prog 15 #[v,.int .i64 (i:Int)] w1 (ShR ns i w1):=by
 obtain⟨iD,hil⟩:=C.node hi;have hlf:=C.leaf hi;have di:=fT hi;have hll:i<l.length:=(dS.1 hi).1;obtain⟨hz1,hz2,hz3⟩:=(show n.text.size≤1000000∧n.ref.sh.size≤1000000∧n.af.sh.size≤1000000 from C.sizes _ di);have bM:n.num≤9223372036854775807:=C.yl _ di;have kR:=C.few;have HC:=ae C;obtain⟨A,cap,rfl⟩:=C.sn.uq;obtain⟨hsk,pb,po,rfl,hpb,hcell⟩:=C.sn.cellAt hi;obtain⟨aW,ck,hkk,hkc,dM,ji⟩:=id hsk;obtain⟨m,hm⟩:∃m,n.kids.length=m:=⟨_,rfl⟩;rw[hm]at hkk hkc;subst hkk;obtain⟨nl,hnl⟩:∃nl,l.length=nl:=⟨_,rfl⟩;rw[hnl]at hll kR ⊢;have hii:(i:Int)<(nl:Int):=by omega
 have hi0:(0:Int)≤(i:Int):=by omega
 have hmx:m≤9223372036854775807:=by unfold maxLen at dM;omega
 have HM:=ae hm;have jF:=ae hnl;have r9:=ae ji;have gY:=ae iD;have vZ:=ae hlf;have yH:=ae hkc;have HB:=ae hb;have l7:=ae (vN C.tree (i:=(i:Int)) (by omega) (by omega) n iD);have k0:w1.cell? ⟨pb,po+i*14,none⟩=some (.int .i64 n.kind):=(hb.cell (p:=⟨pb,po+i*14,none⟩) hpb).trans (hcell 0 (by omega));have k1:w1.cell? ⟨pb,po+i*14+1,none⟩=some (.int .i64 n.num):=(hb.cell (p:=⟨pb,po+i*14+1,none⟩) hpb).trans (hcell 1 (by omega));have k2:w1.cell? ⟨pb,po+i*14+2,none⟩=some (.string n.text):=(hb.cell (p:=⟨pb,po+i*14+2,none⟩) hpb).trans (hcell 2 (by omega));have k3:w1.cell? ⟨pb,po+i*14+3,none⟩=some (.string n.ref.sh):=(hb.cell (p:=⟨pb,po+i*14+3,none⟩) hpb).trans (hcell 3 (by omega));have k4:w1.cell? ⟨pb,po+i*14+4,none⟩=some (.int .i64 n.ref.c):=(hb.cell (p:=⟨pb,po+i*14+4,none⟩) hpb).trans (hcell 4 (by omega));have k5:w1.cell? ⟨pb,po+i*14+5,none⟩=some (.int .i64 n.ref.r):=(hb.cell (p:=⟨pb,po+i*14+5,none⟩) hpb).trans (hcell 5 (by omega));have k6:w1.cell? ⟨pb,po+i*14+6,none⟩=some (.bool n.ref.ac):=(hb.cell (p:=⟨pb,po+i*14+6,none⟩) hpb).trans (hcell 6 (by omega));have k7:w1.cell? ⟨pb,po+i*14+7,none⟩=some (.bool n.ref.ar):=(hb.cell (p:=⟨pb,po+i*14+7,none⟩) hpb).trans (hcell 7 (by omega));have k8:w1.cell? ⟨pb,po+i*14+8,none⟩=some (.string n.af.sh):=(hb.cell (p:=⟨pb,po+i*14+8,none⟩) hpb).trans (hcell 8 (by omega));have k9:w1.cell? ⟨pb,po+i*14+9,none⟩=some (.int .i64 n.af.c):=(hb.cell (p:=⟨pb,po+i*14+9,none⟩) hpb).trans (hcell 9 (by omega));have k10:w1.cell? ⟨pb,po+i*14+10,none⟩=some (.int .i64 n.af.r):=(hb.cell (p:=⟨pb,po+i*14+10,none⟩) hpb).trans (hcell 10 (by omega));have k11:w1.cell? ⟨pb,po+i*14+11,none⟩=some (.bool n.af.ac):=(hb.cell (p:=⟨pb,po+i*14+11,none⟩) hpb).trans (hcell 11 (by omega));have k12:w1.cell? ⟨pb,po+i*14+12,none⟩=some (.bool n.af.ar):=(hb.cell (p:=⟨pb,po+i*14+12,none⟩) hpb).trans (hcell 12 (by omega));have k13:w1.cell? ⟨pb,po+i*14+13,none⟩=some (.slice aW m ck):=(hb.cell (p:=⟨pb,po+i*14+13,none⟩) hpb).trans (hcell 13 (by omega));have HK:=ae hk;have HT:=ae (show(⟨#[35,82,69,70,33]⟩:ByteArray)=strOfNums (bI ns (i:Int))by rw[l7.o,ag (by omega),ag (by omega),ag (by omega),ah hk];decide);clear hk;have hB3:Below w1.heap.size w1 (w1.alloc (.cells #[.int .i64 n.kind,.int .i64 n.num,.string n.text,.string n.ref.sh,.int .i64 n.ref.c,.int .i64 n.ref.r,.bool n.ref.ac,.bool n.ref.ar,.string n.af.sh,.int .i64 n.af.c,.int .i64 n.af.r,.bool n.af.ac,.bool n.af.ar,.slice aW m ck] 45)):=(ak _ _).alloc (aj _) _;have aF:az (w1.alloc (.cells #[.int .i64 n.kind,.int .i64 n.num,.string n.text,.string n.ref.sh,.int .i64 n.ref.c,.int .i64 n.ref.r,.bool n.ref.ac,.bool n.ref.ar,.string n.af.sh,.int .i64 n.af.c,.int .i64 n.af.r,.bool n.af.ac,.bool n.af.ar,.slice aW m ck] 45)) w1.heap.size n (.slice aW m ck):=az.new w1 n _;have HB3:=ae hB3;clear hB3 C hi di hcell ji hkc dM hm hnl iD hlf hsk hb;go_enter Tryz.func15,Tryz.ntmps15;go_upto_region 2 with (fail)
 generalize hb3:w1.heap.size=b3 at aF ⊢;generalize w1.alloc (.cells #[.int .i64 n.kind,.int .i64 n.num,.string n.text,.string n.ref.sh,.int .i64 n.ref.c,.int .i64 n.ref.r,.bool n.ref.ac,.bool n.ref.ar,.string n.af.sh,.int .i64 n.af.c,.int .i64 n.af.r,.bool n.af.ac,.bool n.af.ar,.slice aW m ck] 45)=w3 at aF HB3 ⊢;clear hb3 k0 k1 k2 k3 k4 k5 k6 k7 k8 k9 k10 k11 k12 k13;obtain⟨x0,x1,x2,x3,x4,x5,x6,x7,ay,aO,aL,aM,aN,aJ⟩:=aF.cells;have hb3:=aF.lt;have aF:=ae aF;have hk:=HK.o;have e1:(n.kind == 1)=false:=by rw[hk];rfl
 have e2:(n.kind == 2)=false:=by rw[hk];rfl
 have e3:(n.kind == 3)=false:=by rw[hk];rfl
 have e4:(n.kind == 4)=true:=by rw[hk];rfl
 clear hk;go_wp2_with fail
 go_ret;exact⟨mU HT.o,HB3.o⟩
theorem ag4 (C:oI w v l ns)(i:Nat)(n:Nd)(k:Value)(hi:l[i]? = some (n,k))(hk:n.kind=5)(w1:World)(hb:Below w.heap.size w w1) :
 Calls Tryz.prog 15 #[v,.int .i64 (i:Int)] w1 (ShR ns i w1):=by
 obtain⟨iD,hil⟩:=C.node hi;have hlf:=C.leaf hi;have di:=fT hi;have hll:i<l.length:=(dS.1 hi).1;obtain⟨hz1,hz2,hz3⟩:=(show n.text.size≤1000000∧n.ref.sh.size≤1000000∧n.af.sh.size≤1000000 from C.sizes _ di);have bM:n.num≤9223372036854775807:=C.yl _ di;have kR:=C.few;have HC:=ae C;obtain⟨A,cap,rfl⟩:=C.sn.uq;obtain⟨hsk,pb,po,rfl,hpb,hcell⟩:=C.sn.cellAt hi;obtain⟨aW,ck,hkk,hkc,dM,ji⟩:=id hsk;obtain⟨m,hm⟩:∃m,n.kids.length=m:=⟨_,rfl⟩;rw[hm]at hkk hkc;subst hkk;obtain⟨nl,hnl⟩:∃nl,l.length=nl:=⟨_,rfl⟩;rw[hnl]at hll kR ⊢;have hii:(i:Int)<(nl:Int):=by omega
 have hi0:(0:Int)≤(i:Int):=by omega
 have hmx:m≤9223372036854775807:=by unfold maxLen at dM;omega
 have HM:=ae hm;have jF:=ae hnl;have r9:=ae ji;have gY:=ae iD;have vZ:=ae hlf;have yH:=ae hkc;have HB:=ae hb;have l7:=ae (vN C.tree (i:=(i:Int)) (by omega) (by omega) n iD);have k0:w1.cell? ⟨pb,po+i*14,none⟩=some (.int .i64 n.kind):=(hb.cell (p:=⟨pb,po+i*14,none⟩) hpb).trans (hcell 0 (by omega));have k1:w1.cell? ⟨pb,po+i*14+1,none⟩=some (.int .i64 n.num):=(hb.cell (p:=⟨pb,po+i*14+1,none⟩) hpb).trans (hcell 1 (by omega));have k2:w1.cell? ⟨pb,po+i*14+2,none⟩=some (.string n.text):=(hb.cell (p:=⟨pb,po+i*14+2,none⟩) hpb).trans (hcell 2 (by omega));have k3:w1.cell? ⟨pb,po+i*14+3,none⟩=some (.string n.ref.sh):=(hb.cell (p:=⟨pb,po+i*14+3,none⟩) hpb).trans (hcell 3 (by omega));have k4:w1.cell? ⟨pb,po+i*14+4,none⟩=some (.int .i64 n.ref.c):=(hb.cell (p:=⟨pb,po+i*14+4,none⟩) hpb).trans (hcell 4 (by omega));have k5:w1.cell? ⟨pb,po+i*14+5,none⟩=some (.int .i64 n.ref.r):=(hb.cell (p:=⟨pb,po+i*14+5,none⟩) hpb).trans (hcell 5 (by omega));have k6:w1.cell? ⟨pb,po+i*14+6,none⟩=some (.bool n.ref.ac):=(hb.cell (p:=⟨pb,po+i*14+6,none⟩) hpb).trans (hcell 6 (by omega));have k7:w1.cell? ⟨pb,po+i*14+7,none⟩=some (.bool n.ref.ar):=(hb.cell (p:=⟨pb,po+i*14+7,none⟩) hpb).trans (hcell 7 (by omega));have k8:w1.cell? ⟨pb,po+i*14+8,none⟩=some (.string n.af.sh):=(hb.cell (p:=⟨pb,po+i*14+8,none⟩) hpb).trans (hcell 8 (by omega));have k9:w1.cell? ⟨pb,po+i*14+9,none⟩=some (.int .i64 n.af.c):=(hb.cell (p:=⟨pb,po+i*14+9,none⟩) hpb).trans (hcell 9 (by omega));have k10:w1.cell? ⟨pb,po+i*14+10,none⟩=some (.int .i64 n.af.r):=(hb.cell (p:=⟨pb,po+i*14+10,none⟩) hpb).trans (hcell 10 (by omega));have k11:w1.cell? ⟨pb,po+i*14+11,none⟩=some (.bool n.af.ac):=(hb.cell (p:=⟨pb,po+i*14+11,none⟩) hpb).trans (hcell 11 (by omega));have k12:w1.cell? ⟨pb,po+i*14+12,none⟩=some (.bool n.af.ar):=(hb.cell (p:=⟨pb,po+i*14+12,none⟩) hpb).trans (hcell 12 (by omega));have k13:w1.cell? ⟨pb,po+i*14+13,none⟩=some (.slice aW m ck):=(hb.cell (p:=⟨pb,po+i*14+13,none⟩) hpb).trans (hcell 13 (by omega));have HK:=ae hk;have HT:=ae (show bI ns (i:Int)=aZ (sb n.ref.sh) n.ref.c n.ref.r n.ref.ac n.ref.ar by rw[l7.o,ag (by omega),ag (by omega),ag (by omega),ag (by omega),ah hk]);clear hk;have hB3:Below w1.heap.size w1 (w1.alloc (.cells #[.int .i64 n.kind,.int .i64 n.num,.string n.text,.string n.ref.sh,.int .i64 n.ref.c,.int .i64 n.ref.r,.bool n.ref.ac,.bool n.ref.ar,.string n.af.sh,.int .i64 n.af.c,.int .i64 n.af.r,.bool n.af.ac,.bool n.af.ar,.slice aW m ck] 45)):=(ak _ _).alloc (aj _) _;have aF:az (w1.alloc (.cells #[.int .i64 n.kind,.int .i64 n.num,.string n.text,.string n.ref.sh,.int .i64 n.ref.c,.int .i64 n.ref.r,.bool n.ref.ac,.bool n.ref.ar,.string n.af.sh,.int .i64 n.af.c,.int .i64 n.af.r,.bool n.af.ac,.bool n.af.ar,.slice aW m ck] 45)) w1.heap.size n (.slice aW m ck):=az.new w1 n _;have HB3:=ae hB3;clear hB3 C hi di hcell ji hkc dM hm hnl iD hlf hsk hb;go_enter Tryz.func15,Tryz.ntmps15;go_upto_region 2 with (fail)
 generalize hb3:w1.heap.size=b3 at aF ⊢;generalize w1.alloc (.cells #[.int .i64 n.kind,.int .i64 n.num,.string n.text,.string n.ref.sh,.int .i64 n.ref.c,.int .i64 n.ref.r,.bool n.ref.ac,.bool n.ref.ar,.string n.af.sh,.int .i64 n.af.c,.int .i64 n.af.r,.bool n.af.ac,.bool n.af.ar,.slice aW m ck] 45)=w3 at aF HB3 ⊢;clear hb3 k0 k1 k2 k3 k4 k5 k6 k7 k8 k9 k10 k11 k12 k13;obtain⟨x0,x1,x2,x3,x4,x5,x6,x7,ay,aO,aL,aM,aN,aJ⟩:=aF.cells;have hb3:=aF.lt;have aF:=ae aF;have hk:=HK.o;have e1:(n.kind == 1)=false:=by rw[hk];rfl
 have e2:(n.kind == 2)=false:=by rw[hk];rfl
 have e3:(n.kind == 3)=false:=by rw[hk];rfl
 have e4:(n.kind == 4)=false:=by rw[hk];rfl
 have e5:(n.kind == 5)=true:=by rw[hk];rfl
 clear hk;have HD:=ae (fun w=>EM n.ref.sh n.ref.c n.ref.r n.ref.ac n.ref.ar w hz2);go_wp2_with (go_at_call 26;((with_reducible refine(HD.o _).mono ?_);rintro e w4 ⟨rfl,h1⟩;have dC:=ae (HB3.o.trans (h1.mono HB3.o.size));clear h1))
 go_ret;exact⟨by rw[HT.o] <;> rfl,dC.o⟩
theorem Cq (b:Bool)(t:List Int):t.length≤(jm b t).length∧(jm b t).length≤t.length+2:=by
 unfold jm;cases b <;> simp <;> omega
theorem ahz:(⟨#[40]⟩:ByteArray)=strOfNums [40]:=by decide
theorem VF:(⟨#[41]⟩:ByteArray)=strOfNums [41]:=by decide
theorem MQ (t:List Int)(b:Bool)(w:World)(hs:t.length≤10000000000):Calls Tryz.prog 27 #[.string (strOfNums t),.bool b] w fun e w'=>e = .returned (.string (strOfNums (jm b t)))∧w=w':=by
 have hz:(strOfNums t).size=t.length:=strOfNums_size t;cases b
 · go_enter Tryz.func27,Tryz.ntmps27
   go_wp2_with fail
   go_ret;exact⟨rfl,rfl⟩
 · have HS:=ae (show((⟨#[40]⟩:ByteArray)++strOfNums t)++⟨#[41]⟩=strOfNums (jm true t)by rw[ahz,VF,mW,mW];rfl)
   obtain⟨s,hs2⟩:∃s,strOfNums t=s:=⟨_,rfl⟩;rw[hs2]at HS hz ⊢;have hz2:s.size≤10000000000:=by omega
   have h1:¬ 9223372036854775807<(⟨#[40]⟩:ByteArray).size+s.size:=by show ¬ _<1+s.size;omega
   have h2:((⟨#[40]⟩:ByteArray)++s).size=1+s.size:=by rw[ByteArray.size_append];rfl
   clear hs2 hz;go_enter Tryz.func27,Tryz.ntmps27;go_wp2_with fail
   go_ret;exact⟨mU HS.o,rfl⟩
theorem oI.kid (h:oI w v l ns)(hi:l[i]? = some (n,k))(hx:x∈n.kids):∃j:Nat,x=(j:Int)∧j<i∧j<l.length∧∃q kq,l[j]? = some (q,kq)∧nodeAt ns (j:Int)=q:=by
 obtain⟨h1,h2⟩:=h.node hi;have hk:=(zM h.tree (i:=(i:Int)) (by omega) (by omega)).2;rw[h1]at hk;obtain⟨h3,h4⟩:=hk x hx;have hl:=(dS.1 hi).1;have hjl:x.toNat<l.length:=by omega
 have he:l[x.toNat]? = some (l[x.toNat].1,l[x.toNat].2):=dL hjl;exact⟨x.toNat,by omega,by omega,hjl,_,_,he,(h.node he).1⟩
def FY(w:World)(v:Value)(ns:List Nd)(i:Nat):Prop:=∀j:Nat,j<i→(bI ns (j:Int)).length≤1000000000→∀w1,Below w.heap.size w w1→Calls Tryz.prog 15 #[v,.int .i64 (j:Int)] w1 (ShR ns j w1)
theorem ag5 (C:oI w v l ns)(i:Nat)(n:Nd)(k:Value)(hi:l[i]? = some (n,k))(hk:n.kind=6)(w1:World)(hb:Below w.heap.size w w1) :
 Calls Tryz.prog 15 #[v,.int .i64 (i:Int)] w1 (ShR ns i w1):=by
 obtain⟨iD,hil⟩:=C.node hi;have hlf:=C.leaf hi;have di:=fT hi;have hll:i<l.length:=(dS.1 hi).1;obtain⟨hz1,hz2,hz3⟩:=(show n.text.size≤1000000∧n.ref.sh.size≤1000000∧n.af.sh.size≤1000000 from C.sizes _ di);have bM:n.num≤9223372036854775807:=C.yl _ di;have kR:=C.few;have HC:=ae C;obtain⟨A,cap,rfl⟩:=C.sn.uq;obtain⟨hsk,pb,po,rfl,hpb,hcell⟩:=C.sn.cellAt hi;obtain⟨aW,ck,hkk,hkc,dM,ji⟩:=id hsk;obtain⟨m,hm⟩:∃m,n.kids.length=m:=⟨_,rfl⟩;rw[hm]at hkk hkc;subst hkk;obtain⟨nl,hnl⟩:∃nl,l.length=nl:=⟨_,rfl⟩;rw[hnl]at hll kR ⊢;have hii:(i:Int)<(nl:Int):=by omega
 have hi0:(0:Int)≤(i:Int):=by omega
 have hmx:m≤9223372036854775807:=by unfold maxLen at dM;omega
 have HM:=ae hm;have jF:=ae hnl;have r9:=ae ji;have gY:=ae iD;have vZ:=ae hlf;have yH:=ae hkc;have HB:=ae hb;have l7:=ae (vN C.tree (i:=(i:Int)) (by omega) (by omega) n iD);have k0:w1.cell? ⟨pb,po+i*14,none⟩=some (.int .i64 n.kind):=(hb.cell (p:=⟨pb,po+i*14,none⟩) hpb).trans (hcell 0 (by omega));have k1:w1.cell? ⟨pb,po+i*14+1,none⟩=some (.int .i64 n.num):=(hb.cell (p:=⟨pb,po+i*14+1,none⟩) hpb).trans (hcell 1 (by omega));have k2:w1.cell? ⟨pb,po+i*14+2,none⟩=some (.string n.text):=(hb.cell (p:=⟨pb,po+i*14+2,none⟩) hpb).trans (hcell 2 (by omega));have k3:w1.cell? ⟨pb,po+i*14+3,none⟩=some (.string n.ref.sh):=(hb.cell (p:=⟨pb,po+i*14+3,none⟩) hpb).trans (hcell 3 (by omega));have k4:w1.cell? ⟨pb,po+i*14+4,none⟩=some (.int .i64 n.ref.c):=(hb.cell (p:=⟨pb,po+i*14+4,none⟩) hpb).trans (hcell 4 (by omega));have k5:w1.cell? ⟨pb,po+i*14+5,none⟩=some (.int .i64 n.ref.r):=(hb.cell (p:=⟨pb,po+i*14+5,none⟩) hpb).trans (hcell 5 (by omega));have k6:w1.cell? ⟨pb,po+i*14+6,none⟩=some (.bool n.ref.ac):=(hb.cell (p:=⟨pb,po+i*14+6,none⟩) hpb).trans (hcell 6 (by omega));have k7:w1.cell? ⟨pb,po+i*14+7,none⟩=some (.bool n.ref.ar):=(hb.cell (p:=⟨pb,po+i*14+7,none⟩) hpb).trans (hcell 7 (by omega));have k8:w1.cell? ⟨pb,po+i*14+8,none⟩=some (.string n.af.sh):=(hb.cell (p:=⟨pb,po+i*14+8,none⟩) hpb).trans (hcell 8 (by omega));have k9:w1.cell? ⟨pb,po+i*14+9,none⟩=some (.int .i64 n.af.c):=(hb.cell (p:=⟨pb,po+i*14+9,none⟩) hpb).trans (hcell 9 (by omega));have k10:w1.cell? ⟨pb,po+i*14+10,none⟩=some (.int .i64 n.af.r):=(hb.cell (p:=⟨pb,po+i*14+10,none⟩) hpb).trans (hcell 10 (by omega));have k11:w1.cell? ⟨pb,po+i*14+11,none⟩=some (.bool n.af.ac):=(hb.cell (p:=⟨pb,po+i*14+11,none⟩) hpb).trans (hcell 11 (by omega));have k12:w1.cell? ⟨pb,po+i*14+12,none⟩=some (.bool n.af.ar):=(hb.cell (p:=⟨pb,po+i*14+12,none⟩) hpb).trans (hcell 12 (by omega));have k13:w1.cell? ⟨pb,po+i*14+13,none⟩=some (.slice aW m ck):=(hb.cell (p:=⟨pb,po+i*14+13,none⟩) hpb).trans (hcell 13 (by omega));have HK:=ae hk;have HT:=ae (show bI ns (i:Int)=aZ (sb n.ref.sh) n.ref.c n.ref.r n.ref.ac n.ref.ar++58 :: aZ (sb n.af.sh) n.af.c n.af.r n.af.ac n.af.ar by rw[l7.o,ag (by omega),ag (by omega),ag (by omega),ag (by omega),ag (by omega),ah hk]);clear hk;have hB3:Below w1.heap.size w1 (w1.alloc (.cells #[.int .i64 n.kind,.int .i64 n.num,.string n.text,.string n.ref.sh,.int .i64 n.ref.c,.int .i64 n.ref.r,.bool n.ref.ac,.bool n.ref.ar,.string n.af.sh,.int .i64 n.af.c,.int .i64 n.af.r,.bool n.af.ac,.bool n.af.ar,.slice aW m ck] 45)):=(ak _ _).alloc (aj _) _;have aF:az (w1.alloc (.cells #[.int .i64 n.kind,.int .i64 n.num,.string n.text,.string n.ref.sh,.int .i64 n.ref.c,.int .i64 n.ref.r,.bool n.ref.ac,.bool n.ref.ar,.string n.af.sh,.int .i64 n.af.c,.int .i64 n.af.r,.bool n.af.ac,.bool n.af.ar,.slice aW m ck] 45)) w1.heap.size n (.slice aW m ck):=az.new w1 n _;have HB3:=ae hB3;clear hB3 C hi di hcell ji hkc dM hm hnl iD hlf hsk hb;go_enter Tryz.func15,Tryz.ntmps15;go_upto_region 2 with (fail)
 generalize hb3:w1.heap.size=b3 at aF ⊢;generalize w1.alloc (.cells #[.int .i64 n.kind,.int .i64 n.num,.string n.text,.string n.ref.sh,.int .i64 n.ref.c,.int .i64 n.ref.r,.bool n.ref.ac,.bool n.ref.ar,.string n.af.sh,.int .i64 n.af.c,.int .i64 n.af.r,.bool n.af.ac,.bool n.af.ar,.slice aW m ck] 45)=w3 at aF HB3 ⊢;clear hb3 k0 k1 k2 k3 k4 k5 k6 k7 k8 k9 k10 k11 k12 k13;obtain⟨x0,x1,x2,x3,x4,x5,x6,x7,ay,aO,aL,aM,aN,aJ⟩:=aF.cells;have hb3:=aF.lt;have aF:=ae aF;have hk:=HK.o;have e1:(n.kind == 1)=false:=by rw[hk];rfl
 have e2:(n.kind == 2)=false:=by rw[hk];rfl
 have e3:(n.kind == 3)=false:=by rw[hk];rfl
 have e4:(n.kind == 4)=false:=by rw[hk];rfl
 have e5:(n.kind == 5)=false:=by rw[hk];rfl
 have e6:(n.kind == 6)=true:=by rw[hk];rfl
 clear hk;have HD:=ae (fun w=>EM n.ref.sh n.ref.c n.ref.r n.ref.ac n.ref.ar w hz2);have HE:=ae (fun w=>EM n.af.sh n.af.c n.af.r n.af.ac n.af.ar w hz3);have l1:=zK (sb n.ref.sh) n.ref.c n.ref.r n.ref.ac n.ref.ar;have l2:=zK (sb n.af.sh) n.af.c n.af.r n.af.ac n.af.ar;rw[bz]at l1 l2;obtain⟨T1,hT1⟩:∃T,aZ (sb n.ref.sh) n.ref.c n.ref.r n.ref.ac n.ref.ar=T:=⟨_,rfl⟩;obtain⟨T2,QP⟩:∃T,aZ (sb n.af.sh) n.af.c n.af.r n.af.ac n.af.ar=T:=⟨_,rfl⟩;rw[hT1]at HD HT l1;rw[QP]at HE HT l2;clear hT1 QP;have HR:=ae (show(strOfNums T1++⟨#[58]⟩)++strOfNums T2=strOfNums (bI ns (i:Int))by rw[HT.o,show(⟨#[58]⟩:ByteArray)=strOfNums [58]by decide,mW,mW];simp);have hs1:(strOfNums T1).size=T1.length:=strOfNums_size T1;have hs2:(strOfNums T2).size=T2.length:=strOfNums_size T2;obtain⟨t1,ht1⟩:∃t,strOfNums T1=t:=⟨_,rfl⟩;obtain⟨t2,ht2⟩:∃t,strOfNums T2=t:=⟨_,rfl⟩;rw[ht1]at HD HR hs1;rw[ht2]at HE HR hs2;clear ht1 ht2;have q1:¬ 9223372036854775807<t1.size+(⟨#[58]⟩:ByteArray).size:=by show ¬ _<t1.size+1;omega
 have q2:(t1++(⟨#[58]⟩:ByteArray)).size=t1.size+1:=by rw[ByteArray.size_append];rfl
 have q3:¬ 9223372036854775807<t1.size+1+t2.size:=by omega
 have q4:¬ 9223372036854775807<t1.size+1:=by omega
 have b1:t1.size≤1000008:=by omega
 have b2:t2.size≤1000008:=by omega
 have H3:=ae ((ak w3.heap.size w3).drew);clear hs1 hs2 l1 l2;go_upto_region 16 with (fail)
 go_region_held3 (fun w'=>w'.cell? ⟨b3,3,none⟩=some (.string n.ref.sh)∧w'.cell? ⟨b3,4,none⟩=some (.int .i64 n.ref.c)∧w'.cell? ⟨b3,5,none⟩=some (.int .i64 n.ref.r)∧w'.cell? ⟨b3,6,none⟩=some (.bool n.ref.ac)∧w'.cell? ⟨b3,7,none⟩=some (.bool n.ref.ar)∧w'.cell? ⟨b3,8,none⟩=some (.string n.af.sh)∧w'.cell? ⟨b3,9,none⟩=some (.int .i64 n.af.c)∧w'.cell? ⟨b3,10,none⟩=some (.int .i64 n.af.r)∧w'.cell? ⟨b3,11,none⟩=some (.bool n.af.ac)∧w'.cell? ⟨b3,12,none⟩=some (.bool n.af.ar)) (go_keep) (first
  | (go_at_call 26;((with_reducible refine(HD.o _).mono ?_);rintro e w4 ⟨rfl,h1⟩;have H4:=ae (H3.o.trans (h1.mono H3.o.size));clear h1;have y3:=(H4.o.cell (p:=⟨b3,3,none⟩) hb3).trans x3;have y4:=(H4.o.cell (p:=⟨b3,4,none⟩) hb3).trans x4;have fQ:=(H4.o.cell (p:=⟨b3,5,none⟩) hb3).trans x5;have y6:=(H4.o.cell (p:=⟨b3,6,none⟩) hb3).trans x6;have mG:=(H4.o.cell (p:=⟨b3,7,none⟩) hb3).trans x7;have oC:=(H4.o.cell (p:=⟨b3,8,none⟩) hb3).trans ay;have vV:=(H4.o.cell (p:=⟨b3,9,none⟩) hb3).trans aO;have vS:=(H4.o.cell (p:=⟨b3,10,none⟩) hb3).trans aL;have vT:=(H4.o.cell (p:=⟨b3,11,none⟩) hb3).trans aM;have vU:=(H4.o.cell (p:=⟨b3,12,none⟩) hb3).trans aN))
  | (go_at_call 26;((with_reducible refine(HE.o _).mono ?_);rintro e w5 ⟨rfl,h1⟩;have dZ:=ae (H4.o.trans (h1.mono H4.o.size));clear h1;have z3:=(dZ.o.cell (p:=⟨b3,3,none⟩) hb3).trans x3;have z4:=(dZ.o.cell (p:=⟨b3,4,none⟩) hb3).trans x4;have z5:=(dZ.o.cell (p:=⟨b3,5,none⟩) hb3).trans x5;have z6:=(dZ.o.cell (p:=⟨b3,6,none⟩) hb3).trans x6;have z7:=(dZ.o.cell (p:=⟨b3,7,none⟩) hb3).trans x7;have Df:=(dZ.o.cell (p:=⟨b3,8,none⟩) hb3).trans ay;have z9:=(dZ.o.cell (p:=⟨b3,9,none⟩) hb3).trans aO;have Dc:=(dZ.o.cell (p:=⟨b3,10,none⟩) hb3).trans aL;have De:=(dZ.o.cell (p:=⟨b3,11,none⟩) hb3).trans aM;have z12:=(dZ.o.cell (p:=⟨b3,12,none⟩) hb3).trans aN)))
 all_goals go_wp2_with fail
 all_goals go_ret
 all_goals exact⟨mU HR.o,HB3.o.trans (dZ.o.mono HB3.o.size)⟩
theorem ag7 (C:oI w v l ns)(i:Nat)(n:Nd)(k:Value)(hi:l[i]? = some (n,k))(hk:n.kind=8)(hlen:(bI ns (i:Int)).length≤1000000000)(IH:FY w v ns i)(w1:World)(hb:Below w.heap.size w w1) :
 Calls Tryz.prog 15 #[v,.int .i64 (i:Int)] w1 (ShR ns i w1):=by
 obtain⟨iD,hil⟩:=C.node hi;have hlf:=C.leaf hi;have di:=fT hi;have hll:i<l.length:=(dS.1 hi).1;obtain⟨hz1,hz2,hz3⟩:=(show n.text.size≤1000000∧n.ref.sh.size≤1000000∧n.af.sh.size≤1000000 from C.sizes _ di);have bM:n.num≤9223372036854775807:=C.yl _ di;have kR:=C.few;have HC:=ae C;obtain⟨A,cap,rfl⟩:=C.sn.uq;obtain⟨hsk,pb,po,rfl,hpb,hcell⟩:=C.sn.cellAt hi;obtain⟨aW,ck,hkk,hkc,dM,ji⟩:=id hsk;obtain⟨m,hm⟩:∃m,n.kids.length=m:=⟨_,rfl⟩;rw[hm]at hkk hkc;subst hkk;obtain⟨nl,hnl⟩:∃nl,l.length=nl:=⟨_,rfl⟩;rw[hnl]at hll kR ⊢;have hii:(i:Int)<(nl:Int):=by omega
 have hi0:(0:Int)≤(i:Int):=by omega
 have hmx:m≤9223372036854775807:=by unfold maxLen at dM;omega
 have HM:=ae hm;have jF:=ae hnl;have r9:=ae ji;have gY:=ae iD;have vZ:=ae hlf;have yH:=ae hkc;have HB:=ae hb;have l7:=ae (vN C.tree (i:=(i:Int)) (by omega) (by omega) n iD);have hk1:n.kids.length=1:=(qX hlf).1 hk;have hm1:m=1:=by rw[← hm];exact hk1
 subst hm1;have Ep:n.kids≠[]:=by intro e;rw[e]at hm;simp at hm
 obtain⟨kb,fM,rfl,hkb,wK⟩:=ji.resolve_left Ep;obtain⟨a,hka⟩:∃x,n.kids[0]? = some x:=⟨_,dL (by omega)⟩;have hga:n.kids.getD 0 0=a:=by rw[jL,hka];rfl
 obtain⟨iO,rfl,hja,aaV,q,kva,hla,hna⟩:=C.kid hi (fT hka);obtain⟨-,pba,poa,AQ, -,xR⟩:=C.sn.cellAt hla;injection AQ with AQ;injection AQ with hp1 hp2;subst hp1;subst hp2;have ca:w1.cell? ⟨pb,po+iO*14,none⟩=some (.int .i64 q.kind):=(hb.cell (p:=⟨pb,po+iO*14,none⟩) hpb).trans (xR 0 (by omega));have da:w1.cell? ⟨kb,fM,none⟩=some (.int .i64 (iO:Int)):=(hb.cell (p:=⟨kb,fM,none⟩) hkb).trans (wK 0 _ hka);obtain⟨uV,Ef⟩:∃R:Int,((bJ q.kind:Nat):Int)+1=R:=⟨_,rfl⟩;have JS:=ae (show ∀w,Calls Tryz.prog 28 #[.int .i64 q.kind] w (fun e w'=>e = .returned (.int .i64 uV)∧w=w')from fun w=>by rw[← Ef];exact Ih q.kind w);have hia:(iO:Int)<(l.length:Int):=by omega
 have HT:=ae (show bI ns (i:Int)=45 :: jm (decide (bJ q.kind<4)) (bI ns (iO:Int))by rw[l7.o,ag (by omega),ag (by omega),ag (by omega),ag (by omega),ag (by omega),ag (by omega),ag (by omega),ah hk,hga,hna]);have xQ:(bI ns (iO:Int)).length≤1000000000:=by rw[HT.o]at hlen;have:=(Cq (decide (bJ q.kind<4)) (bI ns (iO:Int))).1;simp only[aX]at hlen;omega
 have Ar:=IH iO hja xQ;rw[hnl]at Ar;have Jv:=ae Ar;have Eg:decide (bJ q.kind<4)=decide (uV<5):=by rw[decide_eq_decide];omega
 rw[Eg]at HT;have Ji:=ae (show Below w1.heap.size w1 w1→True from fun _=>trivial);clear Ar Ji Eg Ef hga hka hla hna xR Ep wK IH;rw[hnl]at hia;have k0:w1.cell? ⟨pb,po+i*14,none⟩=some (.int .i64 n.kind):=(hb.cell (p:=⟨pb,po+i*14,none⟩) hpb).trans (hcell 0 (by omega));have k1:w1.cell? ⟨pb,po+i*14+1,none⟩=some (.int .i64 n.num):=(hb.cell (p:=⟨pb,po+i*14+1,none⟩) hpb).trans (hcell 1 (by omega));have k2:w1.cell? ⟨pb,po+i*14+2,none⟩=some (.string n.text):=(hb.cell (p:=⟨pb,po+i*14+2,none⟩) hpb).trans (hcell 2 (by omega));have k3:w1.cell? ⟨pb,po+i*14+3,none⟩=some (.string n.ref.sh):=(hb.cell (p:=⟨pb,po+i*14+3,none⟩) hpb).trans (hcell 3 (by omega));have k4:w1.cell? ⟨pb,po+i*14+4,none⟩=some (.int .i64 n.ref.c):=(hb.cell (p:=⟨pb,po+i*14+4,none⟩) hpb).trans (hcell 4 (by omega));have k5:w1.cell? ⟨pb,po+i*14+5,none⟩=some (.int .i64 n.ref.r):=(hb.cell (p:=⟨pb,po+i*14+5,none⟩) hpb).trans (hcell 5 (by omega));have k6:w1.cell? ⟨pb,po+i*14+6,none⟩=some (.bool n.ref.ac):=(hb.cell (p:=⟨pb,po+i*14+6,none⟩) hpb).trans (hcell 6 (by omega));have k7:w1.cell? ⟨pb,po+i*14+7,none⟩=some (.bool n.ref.ar):=(hb.cell (p:=⟨pb,po+i*14+7,none⟩) hpb).trans (hcell 7 (by omega));have k8:w1.cell? ⟨pb,po+i*14+8,none⟩=some (.string n.af.sh):=(hb.cell (p:=⟨pb,po+i*14+8,none⟩) hpb).trans (hcell 8 (by omega));have k9:w1.cell? ⟨pb,po+i*14+9,none⟩=some (.int .i64 n.af.c):=(hb.cell (p:=⟨pb,po+i*14+9,none⟩) hpb).trans (hcell 9 (by omega));have k10:w1.cell? ⟨pb,po+i*14+10,none⟩=some (.int .i64 n.af.r):=(hb.cell (p:=⟨pb,po+i*14+10,none⟩) hpb).trans (hcell 10 (by omega));have k11:w1.cell? ⟨pb,po+i*14+11,none⟩=some (.bool n.af.ac):=(hb.cell (p:=⟨pb,po+i*14+11,none⟩) hpb).trans (hcell 11 (by omega));have k12:w1.cell? ⟨pb,po+i*14+12,none⟩=some (.bool n.af.ar):=(hb.cell (p:=⟨pb,po+i*14+12,none⟩) hpb).trans (hcell 12 (by omega));have k13:w1.cell? ⟨pb,po+i*14+13,none⟩=some (.slice (some ⟨kb,fM,none⟩) 1 ck):=(hb.cell (p:=⟨pb,po+i*14+13,none⟩) hpb).trans (hcell 13 (by omega));have HK:=ae hk;clear hk hlen;have hB3:Below w1.heap.size w1 (w1.alloc (.cells #[.int .i64 n.kind,.int .i64 n.num,.string n.text,.string n.ref.sh,.int .i64 n.ref.c,.int .i64 n.ref.r,.bool n.ref.ac,.bool n.ref.ar,.string n.af.sh,.int .i64 n.af.c,.int .i64 n.af.r,.bool n.af.ac,.bool n.af.ar,.slice (some ⟨kb,fM,none⟩) 1 ck] 45)):=(ak _ _).alloc (aj _) _;have aF:az (w1.alloc (.cells #[.int .i64 n.kind,.int .i64 n.num,.string n.text,.string n.ref.sh,.int .i64 n.ref.c,.int .i64 n.ref.r,.bool n.ref.ac,.bool n.ref.ar,.string n.af.sh,.int .i64 n.af.c,.int .i64 n.af.r,.bool n.af.ac,.bool n.af.ar,.slice (some ⟨kb,fM,none⟩) 1 ck] 45)) w1.heap.size n (.slice (some ⟨kb,fM,none⟩) 1 ck):=az.new w1 n _;have HB3:=ae hB3;clear hB3 C hi di hcell ji hkc dM hm hnl iD hlf hsk hb;go_enter Tryz.func15,Tryz.ntmps15;go_upto_region 2 with (fail)
 generalize hb3:w1.heap.size=b3 at aF ⊢;generalize w1.alloc (.cells #[.int .i64 n.kind,.int .i64 n.num,.string n.text,.string n.ref.sh,.int .i64 n.ref.c,.int .i64 n.ref.r,.bool n.ref.ac,.bool n.ref.ar,.string n.af.sh,.int .i64 n.af.c,.int .i64 n.af.r,.bool n.af.ac,.bool n.af.ar,.slice (some ⟨kb,fM,none⟩) 1 ck] 45)=w3 at aF HB3 ⊢;have s0:=(HB3.o.cell (p:=⟨kb,fM,none⟩) (eZ hkb HB.o.size)).trans da;have s1:=(HB3.o.cell (p:=⟨pb,po+iO*14,none⟩) (eZ hpb HB.o.size)).trans ca;clear da ca hb3 k0 k1 k2 k3 k4 k5 k6 k7 k8 k9 k10 k11 k12 k13;obtain⟨x0,x1,x2,x3,x4,x5,x6,x7,ay,aO,aL,aM,aN,aJ⟩:=aF.cells;have hb3:=aF.lt;have aF:=ae aF;have hk:=HK.o;have e1:(n.kind == 1)=false:=by rw[hk];rfl
 have e2:(n.kind == 2)=false:=by rw[hk];rfl
 have e3:(n.kind == 3)=false:=by rw[hk];rfl
 have e4:(n.kind == 4)=false:=by rw[hk];rfl
 have e5:(n.kind == 5)=false:=by rw[hk];rfl
 have e6:(n.kind == 6)=false:=by rw[hk];rfl
 have e7:(n.kind == 7)=false:=by rw[hk];rfl
 have e8:(n.kind == 8)=true:=by rw[hk];rfl
 clear hk;have aaX:kb<w1.heap.size:=eZ hkb HB.o.size;have AR:pb<w1.heap.size:=eZ hpb HB.o.size;have aaY:kb<w3.heap.size:=eZ aaX HB3.o.size;have Gz:pb<w3.heap.size:=eZ AR HB3.o.size;have qJ:=ae (HB.o.trans (HB3.o.mono HB.o.size));have H3:=ae ((ak w3.heap.size w3).drew);have hzi:=(Cq (decide (uV<5)) (bI ns (iO:Int))).2;have Dt:=ae (fun w=>MQ (bI ns (iO:Int)) (decide (uV<5)) w (by omega));obtain⟨T,hT⟩:∃T,jm (decide (uV<5)) (bI ns (iO:Int))=T:=⟨_,rfl⟩;rw[hT]at HT Dt hzi;have HRR:=ae (show(⟨#[45]⟩:ByteArray)++strOfNums T=strOfNums (bI ns (i:Int))by rw[HT.o,show(⟨#[45]⟩:ByteArray)=strOfNums [45]by decide,mW];rfl);have hs1:(strOfNums T).size=T.length:=strOfNums_size T;obtain⟨t,ht⟩:∃t,strOfNums T=t:=⟨_,rfl⟩;rw[ht]at Dt HRR hs1;have q1:¬ 9223372036854775807<(⟨#[45]⟩:ByteArray).size+t.size:=by show ¬ _<1+t.size;omega
 have q2:¬ 9223372036854775807<1+t.size:=by omega
 clear ht hT hs1 hzi;go_upto_region 27 with (fail)
 go_region_held3 (fun w'=>w'.cell? ⟨b3,13,none⟩=some (.slice (some ⟨kb,fM,none⟩) 1 ck)∧w'.cell? ⟨kb,fM,none⟩=some (.int .i64 (iO:Int))∧w'.cell? ⟨pb,po+iO*14,none⟩=some (.int .i64 q.kind)) (go_keep) (first
  | (go_at_call 15;((with_reducible refine(Jv.o _ (qJ.o.trans (H3.o.mono qJ.o.size))).mono ?_);rintro e w4 ⟨rfl,h1⟩;have H4:=ae (H3.o.trans (h1.mono H3.o.size));clear h1;have y0:=(H4.o.cell (p:=⟨b3,13,none⟩) hb3).trans aJ;have y1:=(H4.o.cell (p:=⟨kb,fM,none⟩) aaY).trans s0;have y2:=(H4.o.cell (p:=⟨pb,po+iO*14,none⟩) Gz).trans s1))
  | (go_at_call 28;((with_reducible refine(JS.o _).mono ?_);rintro e wn ⟨rfl,rfl⟩))
  | (go_at_call 27;((with_reducible refine(Dt.o _).mono ?_);rintro e wn ⟨rfl,rfl⟩)))
 all_goals go_wp2_with fail
 all_goals go_ret
 all_goals exact⟨mU HRR.o,HB3.o.trans (H4.o.mono HB3.o.size)⟩
theorem ag8 (C:oI w v l ns)(i:Nat)(n:Nd)(k:Value)(hi:l[i]? = some (n,k))(hk:9≤n.kind)(hlen:(bI ns (i:Int)).length≤1000000000)(IH:FY w v ns i)(w1:World)(hb:Below w.heap.size w w1) :
 Calls Tryz.prog 15 #[v,.int .i64 (i:Int)] w1 (ShR ns i w1):=by
 obtain⟨iD,hil⟩:=C.node hi;have hlf:=C.leaf hi;have di:=fT hi;have hll:i<l.length:=(dS.1 hi).1;obtain⟨hz1,hz2,hz3⟩:=(show n.text.size≤1000000∧n.ref.sh.size≤1000000∧n.af.sh.size≤1000000 from C.sizes _ di);have bM:n.num≤9223372036854775807:=C.yl _ di;have kR:=C.few;have HC:=ae C;obtain⟨A,cap,rfl⟩:=C.sn.uq;obtain⟨hsk,pb,po,rfl,hpb,hcell⟩:=C.sn.cellAt hi;obtain⟨aW,ck,hkk,hkc,dM,ji⟩:=id hsk;obtain⟨m,hm⟩:∃m,n.kids.length=m:=⟨_,rfl⟩;rw[hm]at hkk hkc;subst hkk;obtain⟨nl,hnl⟩:∃nl,l.length=nl:=⟨_,rfl⟩;rw[hnl]at hll kR ⊢;have hii:(i:Int)<(nl:Int):=by omega
 have hi0:(0:Int)≤(i:Int):=by omega
 have hmx:m≤9223372036854775807:=by unfold maxLen at dM;omega
 have HM:=ae hm;have jF:=ae hnl;have r9:=ae ji;have gY:=ae iD;have vZ:=ae hlf;have yH:=ae hkc;have HB:=ae hb;have l7:=ae (vN C.tree (i:=(i:Int)) (by omega) (by omega) n iD);have hk1:n.kids.length=2:=(qX hlf).2.1 hk;have ajE:n.kind≤19:=(qX hlf).2.2.2.2.1;have hm1:m=2:=by rw[← hm];exact hk1
 subst hm1;have Ep:n.kids≠[]:=by intro e;rw[e]at hm;simp at hm
 obtain⟨gb,fM,rfl,Ck,wK⟩:=ji.resolve_left Ep;obtain⟨a,hka⟩:∃x,n.kids[0]? = some x:=⟨_,dL (by omega)⟩;have hga:n.kids.getD 0 0=a:=by rw[jL,hka];rfl
 obtain⟨iO,rfl,hja,aaV,q,kva,hla,hna⟩:=C.kid hi (fT hka);obtain⟨-,pba,poa,AQ, -,xR⟩:=C.sn.cellAt hla;injection AQ with AQ;injection AQ with hp1 hp2;subst hp1;subst hp2;have ca:w1.cell? ⟨pb,po+iO*14,none⟩=some (.int .i64 q.kind):=(hb.cell (p:=⟨pb,po+iO*14,none⟩) hpb).trans (xR 0 (by omega));have da:w1.cell? ⟨gb,fM,none⟩=some (.int .i64 (iO:Int)):=(hb.cell (p:=⟨gb,fM,none⟩) Ck).trans (wK 0 _ hka);obtain⟨uV,Ef⟩:∃R:Int,((bJ q.kind:Nat):Int)+1=R:=⟨_,rfl⟩;have JS:=ae (show ∀w,Calls Tryz.prog 28 #[.int .i64 q.kind] w (fun e w'=>e = .returned (.int .i64 uV)∧w=w')from fun w=>by rw[← Ef];exact Ih q.kind w);have hia:(iO:Int)<(l.length:Int):=by omega
 obtain⟨b,hkb⟩:∃x,n.kids[1]? = some x:=⟨_,dL (by omega)⟩;have hgb:n.kids.getD 1 0=b:=by rw[jL,hkb];rfl
 obtain⟨oL,rfl,hjb,ajB,r,kvb,hlb,hnb⟩:=C.kid hi (fT hkb);obtain⟨-,pbb,pob,hpb, -,hcb⟩:=C.sn.cellAt hlb;injection hpb with hpb;injection hpb with hp1 hp2;subst hp1;subst hp2;have cb:w1.cell? ⟨pb,po+oL*14,none⟩=some (.int .i64 r.kind):=(hb.cell (p:=⟨pb,po+oL*14,none⟩) hpb).trans (hcb 0 (by omega));have db:w1.cell? ⟨gb,fM+1,none⟩=some (.int .i64 (oL:Int)):=(hb.cell (p:=⟨gb,fM+1,none⟩) Ck).trans (wK 1 _ hkb);obtain⟨DV,hRb⟩:∃R:Int,((bJ r.kind:Nat):Int)+1=R:=⟨_,rfl⟩;have Xx:=ae (show ∀w,Calls Tryz.prog 28 #[.int .i64 r.kind] w (fun e w'=>e = .returned (.int .i64 DV)∧w=w')from fun w=>by rw[← hRb];exact Ih r.kind w);have hib:(oL:Int)<(l.length:Int):=by omega
 obtain⟨o,ho,Lb⟩:∃o:Nat,n.kind=9+(o:Int)∧o<11:=⟨(n.kind - 9).toNat,by omega,by omega⟩;have Rp:(n.kind - 9).toNat=o:=by omega
 obtain⟨N,hN⟩:∃R:Int,((bJ n.kind:Nat):Int)+1=R:=⟨_,rfl⟩;have Xv:=ae (show ∀w,Calls Tryz.prog 28 #[.int .i64 n.kind] w (fun e w'=>e = .returned (.int .i64 N)∧w=w')from fun w=>by rw[← hN];exact Ih n.kind w)
 have OM:=ae (show ∀w,Calls Tryz.prog 29 #[.int .i64 n.kind] w (fun e w'=>e = .returned (.string (strOfNums (rD o)))∧Below w.heap.size w w')from fun w=>by
  rw[ho, ← (MB o Lb).2,mX];exact afp o Lb w)
 have hol:(rD o).length≤2:=(show ∀o:Nat,o<11→(rD o).length≤2 by decide) o Lb;have HT:=ae (show bI ns (i:Int)=jm (decide (bJ q.kind<bJ n.kind)) (bI ns (iO:Int))++(rD o++jm (decide (bJ r.kind≤bJ n.kind)) (bI ns (oL:Int)))by rw[l7.o,ag (by omega),ag (by omega),ag (by omega),ag (by omega),ag (by omega),ag (by omega),ag (by omega),ag (by omega),hga,hgb,hna,hnb,Rp]);have xQ:(bI ns (iO:Int)).length≤1000000000:=by rw[HT.o]at hlen;have:=(Cq (decide (bJ q.kind<bJ n.kind)) (bI ns (iO:Int))).1;simp only[av]at hlen;omega
 have hbb:(bI ns (oL:Int)).length≤1000000000:=by rw[HT.o]at hlen;have:=(Cq (decide (bJ r.kind≤bJ n.kind)) (bI ns (oL:Int))).1;simp only[av]at hlen;omega
 have Ar:=IH iO hja xQ;have hIB:=IH oL hjb hbb;rw[hnl]at Ar hIB;have Jv:=ae Ar;have WU:=ae hIB;have Eg:decide (bJ q.kind<bJ n.kind)=decide (uV<N):=by rw[decide_eq_decide];omega
 have hRe:decide (bJ r.kind≤bJ n.kind)=decide (DV≤N):=by rw[decide_eq_decide];omega
 rw[Eg,hRe]at HT;clear Ar hIB Eg hRe Ef hRb hga hgb hka hkb hla hlb hna hnb xR hcb Ep wK IH hN Rp ho;rw[hnl]at hia hib;have k0:w1.cell? ⟨pb,po+i*14,none⟩=some (.int .i64 n.kind):=(hb.cell (p:=⟨pb,po+i*14,none⟩) hpb).trans (hcell 0 (by omega));have k1:w1.cell? ⟨pb,po+i*14+1,none⟩=some (.int .i64 n.num):=(hb.cell (p:=⟨pb,po+i*14+1,none⟩) hpb).trans (hcell 1 (by omega));have k2:w1.cell? ⟨pb,po+i*14+2,none⟩=some (.string n.text):=(hb.cell (p:=⟨pb,po+i*14+2,none⟩) hpb).trans (hcell 2 (by omega));have k3:w1.cell? ⟨pb,po+i*14+3,none⟩=some (.string n.ref.sh):=(hb.cell (p:=⟨pb,po+i*14+3,none⟩) hpb).trans (hcell 3 (by omega));have k4:w1.cell? ⟨pb,po+i*14+4,none⟩=some (.int .i64 n.ref.c):=(hb.cell (p:=⟨pb,po+i*14+4,none⟩) hpb).trans (hcell 4 (by omega));have k5:w1.cell? ⟨pb,po+i*14+5,none⟩=some (.int .i64 n.ref.r):=(hb.cell (p:=⟨pb,po+i*14+5,none⟩) hpb).trans (hcell 5 (by omega));have k6:w1.cell? ⟨pb,po+i*14+6,none⟩=some (.bool n.ref.ac):=(hb.cell (p:=⟨pb,po+i*14+6,none⟩) hpb).trans (hcell 6 (by omega));have k7:w1.cell? ⟨pb,po+i*14+7,none⟩=some (.bool n.ref.ar):=(hb.cell (p:=⟨pb,po+i*14+7,none⟩) hpb).trans (hcell 7 (by omega));have k8:w1.cell? ⟨pb,po+i*14+8,none⟩=some (.string n.af.sh):=(hb.cell (p:=⟨pb,po+i*14+8,none⟩) hpb).trans (hcell 8 (by omega));have k9:w1.cell? ⟨pb,po+i*14+9,none⟩=some (.int .i64 n.af.c):=(hb.cell (p:=⟨pb,po+i*14+9,none⟩) hpb).trans (hcell 9 (by omega));have k10:w1.cell? ⟨pb,po+i*14+10,none⟩=some (.int .i64 n.af.r):=(hb.cell (p:=⟨pb,po+i*14+10,none⟩) hpb).trans (hcell 10 (by omega));have k11:w1.cell? ⟨pb,po+i*14+11,none⟩=some (.bool n.af.ac):=(hb.cell (p:=⟨pb,po+i*14+11,none⟩) hpb).trans (hcell 11 (by omega));have k12:w1.cell? ⟨pb,po+i*14+12,none⟩=some (.bool n.af.ar):=(hb.cell (p:=⟨pb,po+i*14+12,none⟩) hpb).trans (hcell 12 (by omega));have k13:w1.cell? ⟨pb,po+i*14+13,none⟩=some (.slice (some ⟨gb,fM,none⟩) 2 ck):=(hb.cell (p:=⟨pb,po+i*14+13,none⟩) hpb).trans (hcell 13 (by omega));have HK:=ae (show 9≤n.kind from hk);clear hk hlen;have hB3:Below w1.heap.size w1 (w1.alloc (.cells #[.int .i64 n.kind,.int .i64 n.num,.string n.text,.string n.ref.sh,.int .i64 n.ref.c,.int .i64 n.ref.r,.bool n.ref.ac,.bool n.ref.ar,.string n.af.sh,.int .i64 n.af.c,.int .i64 n.af.r,.bool n.af.ac,.bool n.af.ar,.slice (some ⟨gb,fM,none⟩) 2 ck] 45)):=(ak _ _).alloc (aj _) _;have aF:az (w1.alloc (.cells #[.int .i64 n.kind,.int .i64 n.num,.string n.text,.string n.ref.sh,.int .i64 n.ref.c,.int .i64 n.ref.r,.bool n.ref.ac,.bool n.ref.ar,.string n.af.sh,.int .i64 n.af.c,.int .i64 n.af.r,.bool n.af.ac,.bool n.af.ar,.slice (some ⟨gb,fM,none⟩) 2 ck] 45)) w1.heap.size n (.slice (some ⟨gb,fM,none⟩) 2 ck):=az.new w1 n _;have HB3:=ae hB3;clear hB3 C hi di hcell ji hkc dM hm hnl iD hlf hsk hb;go_enter Tryz.func15,Tryz.ntmps15;go_upto_region 2 with (fail)
 generalize hb3:w1.heap.size=b3 at aF ⊢;generalize w1.alloc (.cells #[.int .i64 n.kind,.int .i64 n.num,.string n.text,.string n.ref.sh,.int .i64 n.ref.c,.int .i64 n.ref.r,.bool n.ref.ac,.bool n.ref.ar,.string n.af.sh,.int .i64 n.af.c,.int .i64 n.af.r,.bool n.af.ac,.bool n.af.ar,.slice (some ⟨gb,fM,none⟩) 2 ck] 45)=w3 at aF HB3 ⊢;have Ra:gb<w1.heap.size:=eZ Ck HB.o.size;have AR:pb<w1.heap.size:=eZ hpb HB.o.size;have s0:=(HB3.o.cell (p:=⟨gb,fM,none⟩) Ra).trans da;have s1:=(HB3.o.cell (p:=⟨pb,po+iO*14,none⟩) AR).trans ca;have s2:=(HB3.o.cell (p:=⟨gb,fM+1,none⟩) Ra).trans db;have s3:=(HB3.o.cell (p:=⟨pb,po+oL*14,none⟩) AR).trans cb;clear da ca db cb hb3 k0 k1 k2 k3 k4 k5 k6 k7 k8 k9 k10 k11 k12 k13;obtain⟨x0,x1,x2,x3,x4,x5,x6,x7,ay,aO,aL,aM,aN,aJ⟩:=aF.cells;have hb3:=aF.lt;have aF:=ae aF;have K6:=HK.o;have e1:(n.kind == 1)=false:=aA.2 (by omega);have e2:(n.kind == 2)=false:=aA.2 (by omega);have e3:(n.kind == 3)=false:=aA.2 (by omega);have e4:(n.kind == 4)=false:=aA.2 (by omega);have e5:(n.kind == 5)=false:=aA.2 (by omega);have e6:(n.kind == 6)=false:=aA.2 (by omega);have e7:(n.kind == 7)=false:=aA.2 (by omega);have e8:(n.kind == 8)=false:=aA.2 (by omega);clear K6;have Gz:pb<w3.heap.size:=eZ AR HB3.o.size;have qJ:=ae (HB.o.trans (HB3.o.mono HB.o.size));have hzi:=(Cq (decide (uV<N)) (bI ns (iO:Int))).2;have hzj:=(Cq (decide (DV≤N)) (bI ns (oL:Int))).2;have Jw:=ae (fun w=>MQ (bI ns (iO:Int)) (decide (uV<N)) w (by omega));have Jy:=ae (fun w=>MQ (bI ns (oL:Int)) (decide (DV≤N)) w (by omega));obtain⟨T,hT⟩:∃T,jm (decide (uV<N)) (bI ns (iO:Int))=T:=⟨_,rfl⟩;obtain⟨U,hU⟩:∃T,jm (decide (DV≤N)) (bI ns (oL:Int))=T:=⟨_,rfl⟩;rw[hT]at Jw hzi;rw[hU]at Jy hzj;rw[hT,hU]at HT;have HRR:=ae (show(strOfNums T++strOfNums (rD o))++strOfNums U=strOfNums (bI ns (i:Int))by rw[HT.o,mW,mW,bN]);have hs1:(strOfNums T).size=T.length:=strOfNums_size T;have hs2:(strOfNums U).size=U.length:=strOfNums_size U;have hs3:(strOfNums (rD o)).size=(rD o).length:=strOfNums_size _;obtain⟨t,ht⟩:∃t,strOfNums T=t:=⟨_,rfl⟩;obtain⟨u,hu⟩:∃t,strOfNums U=t:=⟨_,rfl⟩;obtain⟨s,hs⟩:∃t,strOfNums (rD o)=t:=⟨_,rfl⟩;rw[ht]at Jw HRR hs1;rw[hu]at Jy HRR hs2;rw[hs]at OM HRR hs3;have q1:¬ 9223372036854775807<t.size+s.size:=by omega
 have q2:(t++s).size=t.size+s.size:=ByteArray.size_append;have q3:¬ 9223372036854775807<t.size+s.size+u.size:=by omega
 have q4:t.size≤1000000002:=by omega
 have q5:u.size≤1000000002:=by omega
 have q6:s.size≤2:=by omega
 clear ht hu hs hT hU hs1 hs2 hs3 hzi hzj hol xQ hbb;go_upto_region 28 with (fail)
 go_quiet (fail)
 go_upto_region 29 with (fail)
 have hb4:b3<(w3.drewN nq).heap.size:=hb3;have AU:pb<(w3.drewN nq).heap.size:=Gz;have dC:=ae (qj HB3.o nq);have Dl:=ae (qj qJ.o nq);have t0:(w3.drewN nq).cell? ⟨b3,0,none⟩=some (.int .i64 n.kind):=x0;have t1:(w3.drewN nq).cell? ⟨pb,po+iO*14,none⟩=some (.int .i64 q.kind):=s1;have t2:(w3.drewN nq).cell? ⟨pb,po+oL*14,none⟩=some (.int .i64 r.kind):=s3;clear x0 x1 x2 x3 x4 x5 x6 x7 ay aO aL aM aN aJ s0 s1 s2 s3 HB3 qJ aF hb3 Gz;generalize w3.drewN nq=w4 at hb4 AU dC Dl t0 t1 t2 ⊢;have H4:=ae ((ak w4.heap.size w4).drew)
 go_region_held3 (fun w'=>w'.cell? ⟨b3,0,none⟩=some (.int .i64 n.kind)∧w'.cell? ⟨pb,po+iO*14,none⟩=some (.int .i64 q.kind)∧w'.cell? ⟨pb,po+oL*14,none⟩=some (.int .i64 r.kind)) (go_keep) (first
  | (go_at_call 15;((with_reducible refine(Jv.o _ (Dl.o.trans (H4.o.mono Dl.o.size))).mono ?_);rintro e w5 ⟨rfl,h1⟩;have dZ:=ae (H4.o.trans (h1.mono H4.o.size));clear h1;have y0:=(dZ.o.cell (p:=⟨b3,0,none⟩) hb4).trans t0;have y1:=(dZ.o.cell (p:=⟨pb,po+iO*14,none⟩) AU).trans t1;have y2:=(dZ.o.cell (p:=⟨pb,po+oL*14,none⟩) AU).trans t2))
  | (go_at_call 28;((with_reducible refine(JS.o _).mono ?_);rintro e wn ⟨rfl,rfl⟩))
  | (go_at_call 28;((with_reducible refine(Xv.o _).mono ?_);rintro e wn ⟨rfl,rfl⟩))
  | (go_at_call 28;((with_reducible refine(Xx.o _).mono ?_);rintro e wn ⟨rfl,rfl⟩))
  | (go_at_call 27;((with_reducible refine(Jw.o _).mono ?_);rintro e wn ⟨rfl,rfl⟩))
  | (go_at_call 29;((with_reducible refine(OM.o _).mono ?_);rintro e w6 ⟨rfl,h1⟩;have kJ:=ae (dZ.o.trans (h1.mono dZ.o.size));clear h1;have z0:=(kJ.o.cell (p:=⟨b3,0,none⟩) hb4).trans t0;have z1:=(kJ.o.cell (p:=⟨pb,po+iO*14,none⟩) AU).trans t1;have z2:=(kJ.o.cell (p:=⟨pb,po+oL*14,none⟩) AU).trans t2))
  | (go_at_call 15;((with_reducible refine(WU.o _ (Dl.o.trans (kJ.o.mono Dl.o.size))).mono ?_);rintro e w7 ⟨rfl,h1⟩;have rW:=ae (kJ.o.trans (h1.mono kJ.o.size));clear h1;have v0:=(rW.o.cell (p:=⟨b3,0,none⟩) hb4).trans t0;have v1:=(rW.o.cell (p:=⟨pb,po+iO*14,none⟩) AU).trans t1;have v2:=(rW.o.cell (p:=⟨pb,po+oL*14,none⟩) AU).trans t2))
  | (go_at_call 27;((with_reducible refine(Jy.o _).mono ?_);rintro e wn ⟨rfl,rfl⟩)))
 all_goals go_wp2_with fail
 all_goals go_ret
 all_goals exact⟨mU HRR.o,dC.o.trans (rW.o.mono dC.o.size)⟩
theorem LJ:∀(xs:List (List Int))(j:Nat),∃r,iY xs=iY (xs.take j)++r
 | [],j=>⟨[],by simp[iY]⟩
 | a :: l,0=>⟨iY (a :: l),rfl⟩
 | [a],j+1=>⟨[],by simp[iY]⟩
 | a :: b :: l,1=>⟨44 :: iY (b :: l),rfl⟩
 | a :: b :: l,j+2=>by
   obtain⟨r,h⟩:=LJ (b :: l) (j+1);refine⟨r, ?_⟩;show a++44 :: iY (b :: l)=(a++44 :: iY (b :: l.take j))++r;rw[h,List.take_succ_cons];simp
theorem Sn (xs:List (List Int))(j:Nat)(y:List Int)(h:xs[j]? = some y):iY (xs.take (j+1))=if j=0 then y else iY (xs.take j)++44 :: y:=by
 rw[List.take_add_one,h];show iY (xs.take j++[y])=_;have hl:=(dS.1 h).1;by_cases hj:j=0
 · subst hj;rfl
 · rw[ag hj,LH y _ (fun e=>by have h2:(xs.take j).length=0:=(by rw[e];rfl);rw[gX]at h2;omega)]
theorem Sm (xs:List (List Int))(j:Nat)(y:List Int)(h:xs[j]? = some y):y.length≤(iY xs).length:=by
 obtain⟨r,hr⟩:=LJ xs (j+1);rw[Sn xs j y h]at hr;rw[hr,av];split
 · omega
 · simp;omega
theorem abX (xs:List (List Int))(j:Nat):(iY (xs.take j)).length≤(iY xs).length:=by
 obtain⟨r,hr⟩:=LJ xs j;rw[hr,av];omega
def lq(n:Nd)(ns:List Nd)(j:Nat):List Int:=sb n.text++40 :: iY ((n.kids.map (bI ns)).take j)
theorem YR (n:Nd)(ns:List Nd):n.text++⟨#[40]⟩=strOfNums (lq n ns 0):=by
 have h:lq n ns 0=sb n.text++[40]:=by unfold lq;rw[List.take_zero];rfl
 rw[h, ← mW,mX];rfl
theorem YP (n:Nd)(ns:List Nd)(j:Nat):(lq n ns j).length≤(iY (n.kids.map (bI ns))).length+n.text.size+1:=by
 have:=abX (n.kids.map (bI ns)) j;unfold lq;simp only[av,aX,bz];omega
theorem YQ (n:Nd)(ns:List Nd)(j:Nat)(x:Int)(h:n.kids[j]? = some x):lq n ns (j+1)=if j=0 then lq n ns j++bI ns x else (lq n ns j++[44])++bI ns x:=by
 unfold lq;rw[Sn _ j (bI ns x) (by rw[gN,h];rfl)];by_cases hj:j=0
 · subst hj;rw[ah rfl,ah rfl];simp[iY]
 · rw[ag hj,ag hj];simp
theorem YO (n:Nd)(ns:List Nd)(j:Nat)(h:n.kids.length≤j):lq n ns j=sb n.text++40 :: iY (n.kids.map (bI ns)):=by
 unfold lq;rw[pW (by rw[eB];exact h)]
theorem ag6 (C:oI w v l ns)(i:Nat)(n:Nd)(k:Value)(hi:l[i]? = some (n,k))(hk:n.kind=7)(hlen:(bI ns (i:Int)).length≤1000000000)(IH:FY w v ns i)(w1:World)(hb:Below w.heap.size w w1) :
 Calls Tryz.prog 15 #[v,.int .i64 (i:Int)] w1 (ShR ns i w1):=by
 obtain⟨iD,hil⟩:=C.node hi;have hlf:=C.leaf hi;have di:=fT hi;have hll:i<l.length:=(dS.1 hi).1;obtain⟨hz1,hz2,hz3⟩:=(show n.text.size≤1000000∧n.ref.sh.size≤1000000∧n.af.sh.size≤1000000 from C.sizes _ di);have bM:n.num≤9223372036854775807:=C.yl _ di;have kR:=C.few;have HC:=ae C;obtain⟨A,cap,rfl⟩:=C.sn.uq;obtain⟨hsk,pb,po,rfl,hpb,hcell⟩:=C.sn.cellAt hi;obtain⟨aW,ck,hkk,hkc,dM,ji⟩:=id hsk;obtain⟨m,hm⟩:∃m,n.kids.length=m:=⟨_,rfl⟩;rw[hm]at hkk hkc;subst hkk;obtain⟨nl,hnl⟩:∃nl,l.length=nl:=⟨_,rfl⟩;rw[hnl]at hll kR ⊢;have hii:(i:Int)<(nl:Int):=by omega
 have hi0:(0:Int)≤(i:Int):=by omega
 have hmx:m≤9223372036854775807:=by unfold maxLen at dM;omega
 have HM:=ae hm;have jF:=ae hnl;have r9:=ae ji;have gY:=ae iD;have vZ:=ae hlf;have yH:=ae hkc;have HB:=ae hb;have l7:=ae (vN C.tree (i:=(i:Int)) (by omega) (by omega) n iD);have k0:w1.cell? ⟨pb,po+i*14,none⟩=some (.int .i64 n.kind):=(hb.cell (p:=⟨pb,po+i*14,none⟩) hpb).trans (hcell 0 (by omega));have k1:w1.cell? ⟨pb,po+i*14+1,none⟩=some (.int .i64 n.num):=(hb.cell (p:=⟨pb,po+i*14+1,none⟩) hpb).trans (hcell 1 (by omega));have k2:w1.cell? ⟨pb,po+i*14+2,none⟩=some (.string n.text):=(hb.cell (p:=⟨pb,po+i*14+2,none⟩) hpb).trans (hcell 2 (by omega));have k3:w1.cell? ⟨pb,po+i*14+3,none⟩=some (.string n.ref.sh):=(hb.cell (p:=⟨pb,po+i*14+3,none⟩) hpb).trans (hcell 3 (by omega));have k4:w1.cell? ⟨pb,po+i*14+4,none⟩=some (.int .i64 n.ref.c):=(hb.cell (p:=⟨pb,po+i*14+4,none⟩) hpb).trans (hcell 4 (by omega));have k5:w1.cell? ⟨pb,po+i*14+5,none⟩=some (.int .i64 n.ref.r):=(hb.cell (p:=⟨pb,po+i*14+5,none⟩) hpb).trans (hcell 5 (by omega));have k6:w1.cell? ⟨pb,po+i*14+6,none⟩=some (.bool n.ref.ac):=(hb.cell (p:=⟨pb,po+i*14+6,none⟩) hpb).trans (hcell 6 (by omega));have k7:w1.cell? ⟨pb,po+i*14+7,none⟩=some (.bool n.ref.ar):=(hb.cell (p:=⟨pb,po+i*14+7,none⟩) hpb).trans (hcell 7 (by omega));have k8:w1.cell? ⟨pb,po+i*14+8,none⟩=some (.string n.af.sh):=(hb.cell (p:=⟨pb,po+i*14+8,none⟩) hpb).trans (hcell 8 (by omega));have k9:w1.cell? ⟨pb,po+i*14+9,none⟩=some (.int .i64 n.af.c):=(hb.cell (p:=⟨pb,po+i*14+9,none⟩) hpb).trans (hcell 9 (by omega));have k10:w1.cell? ⟨pb,po+i*14+10,none⟩=some (.int .i64 n.af.r):=(hb.cell (p:=⟨pb,po+i*14+10,none⟩) hpb).trans (hcell 10 (by omega));have k11:w1.cell? ⟨pb,po+i*14+11,none⟩=some (.bool n.af.ac):=(hb.cell (p:=⟨pb,po+i*14+11,none⟩) hpb).trans (hcell 11 (by omega));have k12:w1.cell? ⟨pb,po+i*14+12,none⟩=some (.bool n.af.ar):=(hb.cell (p:=⟨pb,po+i*14+12,none⟩) hpb).trans (hcell 12 (by omega));have k13:w1.cell? ⟨pb,po+i*14+13,none⟩=some (.slice aW m ck):=(hb.cell (p:=⟨pb,po+i*14+13,none⟩) hpb).trans (hcell 13 (by omega));have HK:=ae hk;have HT:=ae (show bI ns (i:Int)=sb n.text++40 :: (iY (n.kids.map (bI ns))++[41])by rw[l7.o,ag (by omega),ag (by omega),ag (by omega),ag (by omega),ag (by omega),ag (by omega),ah hk]);have hjl:(iY (n.kids.map (bI ns))).length+n.text.size+2≤1000000000:=by rw[HT.o]at hlen;simp only[av,aX,dV,bz]at hlen;omega
 have Du:=ae (show ∀(j:Nat)(x:Int),n.kids[j]? = some x→∃y:Nat,x=(y:Int)∧∀w2,Below w.heap.size w w2→Calls Tryz.prog 15 #[.slice (some ⟨pb,po,none⟩) nl cap,.int .i64 (y:Int)] w2 (ShR ns y w2)from fun j x hx=>by
  obtain⟨y,e,hy, -⟩:=C.kid hi (fT hx);refine⟨y,e, ?_⟩;have hl:=Sm (n.kids.map (bI ns)) j (bI ns (y:Int)) (by rw[gN,hx,e];rfl);have:=IH y hy (by omega);rw[hnl]at this;exact this)
 clear IH;clear hk hlen;have hB3:Below w1.heap.size w1 (w1.alloc (.cells #[.int .i64 n.kind,.int .i64 n.num,.string n.text,.string n.ref.sh,.int .i64 n.ref.c,.int .i64 n.ref.r,.bool n.ref.ac,.bool n.ref.ar,.string n.af.sh,.int .i64 n.af.c,.int .i64 n.af.r,.bool n.af.ac,.bool n.af.ar,.slice aW m ck] 45)):=(ak _ _).alloc (aj _) _;have aF:az (w1.alloc (.cells #[.int .i64 n.kind,.int .i64 n.num,.string n.text,.string n.ref.sh,.int .i64 n.ref.c,.int .i64 n.ref.r,.bool n.ref.ac,.bool n.ref.ar,.string n.af.sh,.int .i64 n.af.c,.int .i64 n.af.r,.bool n.af.ac,.bool n.af.ar,.slice aW m ck] 45)) w1.heap.size n (.slice aW m ck):=az.new w1 n _;have HB3:=ae hB3;clear hB3 C hi di hcell ji hkc dM hm hnl iD hlf hsk hb;go_enter Tryz.func15,Tryz.ntmps15;go_upto_region 2 with (fail)
 generalize hb3:w1.heap.size=b3 at aF ⊢;generalize w1.alloc (.cells #[.int .i64 n.kind,.int .i64 n.num,.string n.text,.string n.ref.sh,.int .i64 n.ref.c,.int .i64 n.ref.r,.bool n.ref.ac,.bool n.ref.ar,.string n.af.sh,.int .i64 n.af.c,.int .i64 n.af.r,.bool n.af.ac,.bool n.af.ar,.slice aW m ck] 45)=w3 at aF HB3 ⊢;clear hb3 k0 k1 k2 k3 k4 k5 k6 k7 k8 k9 k10 k11 k12 k13;obtain⟨x0,x1,x2,x3,x4,x5,x6,x7,ay,aO,aL,aM,aN,aJ⟩:=aF.cells;have hb3:=aF.lt;have aF:=ae aF;have hk:=HK.o;have e1:(n.kind == 1)=false:=by rw[hk];rfl
 have e2:(n.kind == 2)=false:=by rw[hk];rfl
 have e3:(n.kind == 3)=false:=by rw[hk];rfl
 have e4:(n.kind == 4)=false:=by rw[hk];rfl
 have e5:(n.kind == 5)=false:=by rw[hk];rfl
 have e6:(n.kind == 6)=false:=by rw[hk];rfl
 have e7:(n.kind == 7)=true:=by rw[hk];rfl
 clear hk;have qJ:=ae (HB.o.trans (HB3.o.mono HB.o.size));have hzt:=hz1;have q0:¬ 9223372036854775807<n.text.size+(⟨#[40]⟩:ByteArray).size:=by show ¬ _<n.text.size+1;omega
 have q00:¬ 9223372036854775807<n.text.size+1:=by omega
 go_upto_region 20 with (fail)
 go_loopw [6,7] (fun tv iv wr=>∃(j:Nat),j≤m∧iv = .int .i64 (j:Int)∧tv = .string (strOfNums (lq n ns j))∧Hid (Below w3.heap.size w3 wr))
  (fun _ iv _=>m - (intOf iv).toNat)
 case atStart=>exact⟨0,eP _,rfl,congrArg Value.string (YR n ns),ae (ak _ _)⟩
 case round =>
  obtain⟨j,hj,rfl,rfl,HW⟩:=hrel;have hcl:=YP n ns j;have y13:=(HW.o.cell (p:=⟨b3,13,none⟩) hb3).trans aJ;by_cases hlt:j<m
  · have hji:(j:Int)<(m:Int):=by omega
    have hj0:(0:Int)≤(j:Int):=by omega
    obtain⟨x,hx⟩:∃x,n.kids[j]? = some x:=⟨_,dL (by rw[HM.o];exact hlt)⟩;have Cn:=YQ n ns j x hx;obtain⟨y,rfl,wI⟩:=Du.o j x hx;have hsl:=Sm (n.kids.map (bI ns)) j (bI ns (y:Int)) (by rw[gN,hx];rfl);rcases r9.o with e|⟨kb,fM,rfl,hkb,wK⟩
    · exfalso;rw[e]at hx;simp at hx
    have Rb:kb<w1.heap.size:=eZ hkb HB.o.size;have d0:wr.cell? ⟨kb,fM+j,none⟩=some (.int .i64 (y:Int)):=(HW.o.cell (p:=⟨kb,fM+j,none⟩) (eZ Rb HB3.o.size)).trans ((HB3.o.cell (p:=⟨kb,fM+j,none⟩) Rb).trans ((HB.o.cell (p:=⟨kb,fM+j,none⟩) hkb).trans (wK j _ hx)));have yD:=ae (wI wr (qJ.o.trans (HW.o.mono qJ.o.size)));have hs1:(strOfNums (lq n ns j)).size=(lq n ns j).length:=strOfNums_size _;have hs2:(strOfNums (bI ns (y:Int))).size=(bI ns (y:Int)).length:=strOfNums_size _;by_cases h0:j=0
    · have hg:¬ (0:Int)<(j:Int):=by omega
      rw[ah h0]at Cn;have dR:=ae (show strOfNums (lq n ns j)++strOfNums (bI ns (y:Int))=strOfNums (lq n ns (j+1))by rw[Cn,mW]);obtain⟨t,ht⟩:∃t,strOfNums (lq n ns j)=t:=⟨_,rfl⟩;rw[ht]at dR hs1 ⊢;have q1:¬ 9223372036854775807<t.size+(strOfNums (bI ns (y:Int))).size:=by omega
      clear h0 Cn wI hx wK hs1 hs2 hsl hcl ht;go_wp2_with (go_at_call 15;((with_reducible refine yD.o.mono ?_);rintro e w4 ⟨rfl,h1⟩;have xB:=ae (HW.o.trans (h1.mono HW.o.size));clear h1))
      go_roundw
      case rel=>exact⟨j+1,by omega,by go_num,congrArg Value.string dR.o,xB⟩
      case measure=>simp[intOf];omega
    · have hg:(0:Int)<(j:Int):=by omega
      rw[ag h0]at Cn;have dR:=ae (show(strOfNums (lq n ns j)++⟨#[44]⟩)++strOfNums (bI ns (y:Int))=strOfNums (lq n ns (j+1))by rw[Cn,show(⟨#[44]⟩:ByteArray)=strOfNums [44]by decide,mW,mW]);obtain⟨t,ht⟩:∃t,strOfNums (lq n ns j)=t:=⟨_,rfl⟩;rw[ht]at dR hs1 ⊢;have q1:¬ 9223372036854775807<t.size+(⟨#[44]⟩:ByteArray).size:=by show ¬ _<t.size+1;omega
      have q2:(t++(⟨#[44]⟩:ByteArray)).size=t.size+1:=by rw[ByteArray.size_append];rfl
      have q3:¬ 9223372036854775807<t.size+1+(strOfNums (bI ns (y:Int))).size:=by omega
      have q4:¬ 9223372036854775807<t.size+1:=by omega
      clear h0 Cn wI hx wK hs1 hs2 hsl hcl ht;go_wp2_with (go_at_call 15;((with_reducible refine yD.o.mono ?_);rintro e w4 ⟨rfl,h1⟩;have xB:=ae (HW.o.trans (h1.mono HW.o.size));clear h1))
      go_roundw
      case rel=>exact⟨j+1,by omega,by go_num,congrArg Value.string dR.o,xB⟩
      case measure=>simp[intOf];omega
  · have hji:¬ (j:Int)<(m:Int):=by omega
    have HE:=ae (show strOfNums (lq n ns j)++⟨#[41]⟩=strOfNums (bI ns (i:Int))by
     rw[VF,mW,HT.o,YO n ns j (by rw[HM.o];omega)];simp)
    have hs1:(strOfNums (lq n ns j)).size=(lq n ns j).length:=strOfNums_size _;obtain⟨t,ht⟩:∃t,strOfNums (lq n ns j)=t:=⟨_,rfl⟩;rw[ht]at HE hs1 ⊢;have q1:¬ 9223372036854775807<t.size+(⟨#[41]⟩:ByteArray).size:=by show ¬ _<t.size+1;omega
    have q4:¬ 9223372036854775807<t.size+1:=by omega
    clear hs1 hcl ht;go_wp2_with fail
    go_ret;exact⟨mU HE.o,HB3.o.trans (HW.o.mono HB3.o.size)⟩
theorem Vk (C:oI w v l ns):∀(m i:Nat),i<m→i<l.length→(bI ns (i:Int)).length≤1000000000→∀w1,Below w.heap.size w w1→Calls Tryz.prog 15 #[v,.int .i64 (i:Int)] w1 (ShR ns i w1)
 | 0,_,h,_,_,_,_=>absurd h (by omega)
 | m+1,i,him,hil,hlen,w1,hb=>by
   have IH:FY w v ns i:=fun j hj hl w2 hb2=>Vk C m j (by omega) (by omega) hl w2 hb2
   obtain⟨⟨n,k⟩,hi⟩:∃q,l[i]? = some q:=⟨_,dL hil⟩;obtain⟨-, -, -,k1,k19, -⟩:=qX (C.leaf hi);have hk:n.kind=1∨n.kind=2∨n.kind=3∨n.kind=4∨n.kind=5∨n.kind=6∨n.kind=7∨n.kind=8∨9≤n.kind:=by omega
   rcases hk with h|h|h|h|h|h|h|h|h
   · exact ag0 C i n k hi h w1 hb
   · exact ag1 C i n k hi h w1 hb
   · exact ag2 C i n k hi h w1 hb
   · exact ag3 C i n k hi h w1 hb
   · exact ag4 C i n k hi h w1 hb
   · exact ag5 C i n k hi h w1 hb
   · exact ag6 C i n k hi h hlen IH w1 hb
   · exact ag7 C i n k hi h hlen IH w1 hb
   · exact ag8 C i n k hi h hlen IH w1 hb
theorem aie (h:cO ns=true):0<ns.length:=by
 cases ns with
 | nil=>exact absurd h (by decide)
 | cons a l=>simp
theorem fI.pE (h:fI w b v vs)(hf:bF w w' b)(hw:b<w.heap.size):fI w' b v vs:=by
 obtain⟨⟨A,cap,h1,h2⟩,h3⟩:=h;refine⟨⟨A,cap,h1,h2.imp id ?_⟩,fun p hp=>(h3 p hp).pE hf (aj _) hw⟩;rintro⟨pb,po,e1,e2,e3⟩;exact⟨pb,po,e1,e2,fun i n k hi j hj=>(gM (a:=⟨pb,po+i*14+j,none⟩) (hf.block pb (by omega) (by omega) (.inl e2))).trans (e3 i n k hi j hj)⟩
theorem fI.lift {C:Nat}(h:fI w B v vs)(hb:Below B w w')(hC:B≤C):fI w' C v vs:=by
 obtain⟨⟨A,cap,h1,h2⟩,h3⟩:=h;refine⟨⟨A,cap,h1,h2.imp id ?_⟩,fun p hp => ?_⟩
 · rintro⟨pb,po,e1,e2,e3⟩
   exact⟨pb,po,e1,by omega,fun i n k hi j hj=>(hb.cell (p:=⟨pb,po+i*14+j,none⟩) e2).trans (e3 i n k hi j hj)⟩
 · obtain⟨A2,c2,g1,g2,g3,g4⟩:=h3 p hp
   refine⟨A2,c2,g1,g2,g3,g4.imp id ?_⟩;rintro⟨pb,po,e1,e2,e3⟩;exact⟨pb,po,e1,by omega,fun j x hj=>(hb.cell (p:=⟨pb,po+j,none⟩) e2).trans (e3 j x hj)⟩
def Nr(o:Option Value):Nat:=match o with|some (.slice _ n _)=>n|_=>0
theorem Vv {α : Type}{size:Nat}{E:Enc α size}{e:TypeId}{base:Nat}{xs:List α}(h:Own E e w base v xs):Nr (some v)=xs.length:=by
 rcases h.shape with ⟨rfl,rfl⟩|⟨g,cap,rfl, -⟩
 · rfl
 · rfl
def ou(b L:Nat)(w:World):Nat:=2*(L - Nr (w.cell? ⟨b,3,none⟩)) - Nr (w.cell? ⟨b,1,none⟩)
theorem dO.ou {nv:Value}{st:List aB}{txt:List Int}(h:dO w b nv st txt)(L:Nat):ou b L w=2*(L - txt.length) - st.length:=by
 obtain⟨wv,⟨ad,bv,h1,_,h3,_⟩,h4⟩:=h;obtain⟨-,c1, -,c3⟩:=h1.facts;unfold Go.Proofs.YtaobhjliflomaaaGreatDoor.ou;rw[c1,c3,Vv h4,Vv h3]
theorem dO.wait {nv:Value}{st:List aB}{txt:List Int}(h:dO w b nv st txt):∃A c,w.cell? ⟨b,1,none⟩=some (.slice A st.length c):=by
 obtain⟨wv,⟨ad,bv,h1, -⟩,h4⟩:=h;have c1:=h1.facts.2.1;rcases h4.shape with ⟨rfl,rfl⟩|⟨g,cap,rfl, -⟩
 · exact⟨_,_,c1⟩
 · exact⟨_,_,c1⟩
theorem aeV (w:World)(v:Value)(vs:List (Nd × Value))(hv:Vars w)(nG:lM w)(Gv:qQ w)(hsh:qU w)(h:fI w w.heap.size v vs)(hz:SZ vs)(bM:∀q∈vs,q.1.num≤9223372036854775807)(hlen:(cz (vs.map (·.1))).length≤1000000000)(ht:cO (vs.map (·.1))=true) :
 Calls Tryz.prog 20 #[v] w fun e w'=>e = .returned (.string (strOfNums (cz (vs.map (·.1)))))∧Below w.heap.size w w':=by
 have hT:=Uq w v vs hv h hz ht;have HT:=ae hT;obtain⟨l,hl⟩:∃l,vs.map (·.1)=l:=⟨_,rfl⟩
 have mE:0<vs.length:=by
  rcases Nat.eq_zero_or_pos vs.length with e|e
  · rw[List.length_eq_zero_iff.1 e]at ht;exact absurd ht (by decide)
  · exact e
 have hlv:l.length=vs.length:=by rw[← hl,eB]
 obtain⟨L,hL⟩:∃L,(cz l).length=L:=⟨_,rfl⟩;rw[hl,hL]at hlen;have hpl:cz l=bI l ((l.length:Int) - 1):=by unfold cz bI;rw[ah (hl ▸ ht)]
 have hp0:kS l (aB.op ((l.length:Int) - 1) 1)=cz l:=by rw[CG,LC,hpl]
 have Gy:j3 l (aB.op ((l.length:Int) - 1) 1):=j3.op (by omega) (by omega) 1;rw[hlv]at hp0 Gy;obtain⟨N,hN⟩:∃N,vs.length=N:=⟨_,rfl⟩;have hN9:N≤1000:=by rw[← hN];exact hz.1
 rw[hN]at hp0 Gy mE;have hw1:wrap64 ((N:Int) - 1)=(N:Int) - 1:=by unfold wrap64;omega
 obtain⟨A,cap,hva⟩:=h.uq;rw[hN]at hva;subst hva;have XE:=ae h;have iB:=ae hz;have OI:=ae bM;have O3:=ae ht;have HL:=ae hl;have zZ:=ae hL;have Xi:=ae hp0;have Xf:=ae Gy;have WQ:=ae (show lM w∧qQ w∧qU w from⟨nG,Gv,hsh⟩);rw[hl];clear hT hv nG Gv hsh h hz bM ht hl hL hpl hp0 Gy hlv hN;go_enter Tryz.func20,Tryz.ntmps20;go_upto_region 3 with (go_at_call 37;((with_reducible refine HT.o.mono ?_);rintro e w1 ⟨rfl,h1⟩;have H1:=ae h1;clear h1))
 go_upto_region 4 with (fail)
 have hwr:gZ (w1.alloc (.cells #[.slice A N cap,.slice none 0 0,.pointer none,.slice none 0 0] 84)) w1.heap.size (.slice A N cap) (.slice none 0 0) (.pointer none) (.slice none 0 0):=(kW w1 _).1;have hB2:Below w1.heap.size w1 (w1.alloc (.cells #[.slice A N cap,.slice none 0 0,.pointer none,.slice none 0 0] 84)):=(ak _ _).alloc (aj _) _;obtain⟨b,hb⟩:∃b,w1.heap.size=b:=⟨_,rfl⟩;obtain⟨w2,hw2⟩:∃w2,w1.alloc (.cells #[.slice A N cap,.slice none 0 0,.pointer none,.slice none 0 0] 84)=w2:=⟨_,rfl⟩;have hwb:w.heap.size≤b:=by rw[← hb];exact H1.o.size
 have Je:=ae (H1.o.trans (hB2.mono H1.o.size));rw[hw2]at hwr Je ⊢;rw[hb]at hwr ⊢;have hbl:b<w2.heap.size:=hwr.lt;have lK:=ae (show dO w2 b (.slice A N cap) [] []from⟨_,⟨_,_,hwr,.inl rfl,Own.nil _ _ _ _,fun x hx=>absurd hx (by simp)⟩,Own.nil _ _ _ _⟩);have HG2:=ae (show nO w w2 b from⟨hwb,Je.o,WQ.o⟩);have XF:=ae (XE.o.lift Je.o hwb);have qM:=ae (fun (wr:World)(hr:Below w2.heap.size w2 wr)=>Bl wr b (.slice A N cap) [] [aB.op ((N:Int) - 1) 1] [] #[.string ⟨#[]⟩,.int .i64 ((N:Int) - 1),.int .i64 1] 1 rfl rfl (lK.o.below hr) (by show 1≤1000000;decide) (eP _));clear hw2 hb hwr hB2 HT
 go_upto_region 5 with (first
  | (go_at_call 39;((with_reducible refine(EI _ _ _).mono ?_);rintro e w3 ⟨rfl,h3⟩;have HB3:=ae h3;clear h3))
  | (go_at_call 38;((with_reducible refine(qM.o _ HB3.o).mono ?_);rintro e w4 ⟨rfl,h3,h4⟩;have Xn:=ae h3;have dY:=ae ((bF.iQ HB3.o).trans h4);clear h3 h4)))
 go_loopw [] (fun wr=>∃(st:List aB)(txt:List Int),Hid (dO wr b (.slice A N cap) st txt)∧Hid (bF w2 wr b)∧Hid (∀p∈st,j3 l p)∧Hid (txt++st.reverse.flatMap (kS l)=cz l))
  (fun wr=>ou b L wr)
 case atStart=>exact⟨[aB.op ((N:Int) - 1) 1],[],Xn,dY,ae (fun p hp=>by rw[fA.1 hp];exact Xf.o),ae (by show kS l (aB.op ((N:Int) - 1) 1)++[]=_;rw[fF];exact Xi.o)⟩
 case round =>
  obtain⟨st,txt,HQ,HF,lJ,HE⟩:=hrel;rcases List.eq_nil_or_concat st with rfl|⟨st',p,rfl⟩
  · obtain⟨Ww,cw,c1⟩:=HQ.o.wait
    rw[dV]at c1;have tu:=ae (show txt=cz l from by have h:=HE.o;rw[List.reverse_nil,List.flatMap_nil,fF]at h;exact h);obtain⟨wv,hws, -⟩:=HQ.o;have XI:=ae (ahB wr b (.slice A N cap) wv txt hws (by rw[tu.o];exact HL.o ▸ NL O3.o (fun n hn=>by obtain⟨q,hq,rfl⟩:=List.mem_map.1 hn;exact OI.o q hq)));clear hws;go_wp2_with (go_at_call 42;((with_reducible refine XI.o.mono ?_);rintro e w5 ⟨rfl,h3⟩;have dZ:=ae h3;clear h3))
    go_ret;refine⟨by rw[tu.o] <;> rfl, ?_⟩;have hg:=((HG2.o.pE HF.o)).2.1;exact hg.trans ((dZ.o.mono (by omega)))
  · rw [List.concat_eq_append]at HQ lJ HE
    obtain⟨Ww,cw,c1⟩:=HQ.o.wait;rw[av,fE]at c1;obtain⟨M,hM⟩:∃M:Nat,st'.length+1=M:=⟨_,rfl⟩;have hM0:(0:Int)<(M:Int):=by omega
    rw[hM]at c1;have htr:cO l=true:=by rw[← HL.o];exact O3.o
    have hpk:j3 l p:=lJ.o p (by simp);have hE:=HE.o;rw[List.reverse_append,List.reverse_singleton,pU,pV]at hE;have hE2:=congrArg List.length hE;rw[av,av,zZ.o]at hE2;have hfl:=Gm htr st'.reverse (fun q hq=>lJ.o q (List.mem_append_left _ (List.mem_reverse.1 hq)));rw[List.length_reverse]at hfl;have KU:=VD htr p hpk;have QO:=congrArg List.length KU;rw[av]at QO;have hSF:=Gm htr _ (Nu htr p hpk);have hSM:=ahw htr p hpk;have Xj:=ae (aeN wr b (.slice A N cap) st' p txt HQ.o (by omega));have O6:=ae (fun (w5:World)(h5:dO w5 b (.slice A N cap) st' txt)(hf:iK wr w5 b)=>ai0 w w5 b (.slice A N cap) vs st' txt p (HG2.o.pE (HF.o.trans (bF.uu hf))) h5 (XF.o.pE (HF.o.trans (bF.uu hf)) hbl) iB.o (by rw[HL.o];exact htr) OI.o (by rw[HL.o];exact hpk) (by rw[HL.o];omega) (by rw[HL.o];omega));rw[HL.o]at O6
    have Xq:=ae (fun (w6:World)(hq:dO w6 b (.slice A N cap) (st'++(mV l p).2.reverse) (txt++(mV l p).1))=>show ou b L w6<ou b L wr from by
     rw[hq.ou,HQ.o.ou,av,av,av,List.length_reverse,fE];omega)
    have Jm:=ae (show(txt++(mV l p).1)++(st'++(mV l p).2.reverse).reverse.flatMap (kS l)=cz l from by
     rw[List.reverse_append,List.reverse_reverse,List.flatMap_append,bN txt, ← bN (mV l p).1, ← KU];exact hE)
    have Xh:=ae (show ∀q∈st'++(mV l p).2.reverse,j3 l q from fun q hq=>by
     rcases dK.1 hq with hq|hq
     · exact lJ.o q (List.mem_append_left _ hq)
     · exact Nu htr p hpk q (List.mem_reverse.1 hq))
    clear hE hE2 hfl KU QO hSF hSM hM
    go_wp2_with (first
     | (go_at_call 41;((with_reducible refine Xj.o.mono ?_);rintro e w5 ⟨rfl,h3,h4⟩;have xu:=ae h3;have bg:=ae h4;clear h3 h4))
     | (go_at_call 40;((with_reducible refine(O6.o _ xu.o bg.o).mono ?_);rintro e w6 ⟨rfl,h3,h4⟩;have BO:=ae h3;have ek:=ae h4;clear h3 h4)))
    go_roundw
    case rel=>exact⟨_,_,BO,ae (HF.o.trans ((bF.uu bg.o).trans ek.o)),Xh,Jm⟩
    case measure=>exact Xq.o _ BO.o
theorem ad9 (h:dm n=true)(h1:n.ref.sh.size≤1000000)(h2:n.af.sh.size≤1000000):DX n:=by
 have hz:∀f:bL,fO f=true→f.r≤1000000∧f.c≤1000000:=fun f hf=>by rw[TJ hf];exact⟨by decide,by decide⟩
 have hm:∀f:bL,bQ f=true→f.r≤1000000∧f.c≤1000000:=fun f hf=>by have:=rC hf;omega
 by_cases k5:n.kind=5
 · have hf:=UJ h k5
   exact⟨(hm _ hf.may).1,(hm _ hf.may).2,(hz _ hf.af).1,(hz _ hf.af).2,h1,h2⟩
 by_cases k6:n.kind=6
 · have hf:=Uz h k6
   exact⟨(hm _ hf.may).1,(hm _ hf.may).2,(hm _ hf.Tk).1,(hm _ hf.Tk).2,h1,h2⟩
 have hl:=Mm h;unfold aH at hl;split at hl
 · cases hl
 rename_i c
 have hr:fO n.ref=true:=by
  cases e:fO n.ref with
  | true=>rfl
  | false=>exact absurd (.inr (.inr (.inl ⟨k5,k6,e⟩))) c
 have ht:fO n.af=true:=by
  cases e:fO n.af with
  | true=>rfl
  | false=>exact absurd (.inr (.inr (.inr ⟨k6,e⟩))) c
 exact⟨(hz _ hr).1,(hz _ hr).2,(hz _ ht).1,(hz _ ht).2,h1,h2⟩
theorem VX:∀(l:List Nd)(st:List Int)(i:Nat),nM st i l=true→st.length≤i→∀n∈l,n.kids.length≤i+l.length
 | [],_,_,_,_,n,hn=>by cases hn
 | m :: l,st,i,h,hi,n,hn=>by
   rw[nN,iU,iU,iU]at h;have h2:m.kids.length≤st.length:=of_decide_eq_true h.2.1;rcases eY.1 hn with rfl|hn
   · rw[aX];omega
   · have:=VX l _ _ h.2.2.2 (by rw[av,gX];show _+1≤_;omega) n hn
     rw[aX];omega
theorem adQ (ht:cO (l.map (·.1))=true)(hz:SZ l):Pg l :=
 ⟨hz.1,fun p hp=>ad9 (NM _ [] 0 ht p.1 (uG hp)) (hz.2 p hp).2.1 (hz.2 p hp).2.2,fun p hp=>by
  have:=VX _ [] 0 ht (aj _) p.1 (uG hp);have:=hz.1;rw[eB]at *;omega⟩
def FQ (w:World)(own:ByteArray)(ss:List Sf)(ns:List Nd)(e:Ending)(w':World):Prop :=
 ∃T done,e = .returned (.slice (some ⟨T,0,none⟩) ns.length ns.length)∧fI w' w'.heap.size (.slice (some ⟨T,0,none⟩) ns.length ns.length) done∧done.map (·.1)=mg own ss ns∧Below w.heap.size w w'∧w.heap.size≤T
theorem adv (w:World)(own:ByteArray)(xs:List bK)(A B:Option Addr)(n cap m c:Nat)(l:List (Nd × Value))(hv:Vars w)(hS:o6 w w.heap.size (.slice B m c) xs)(hm:m≤1000000)(hO:∀x∈xs,qR x.s)(ho:own.size≤maxLen)(hs:fI w w.heap.size (.slice A n cap) l)(hz:SZ l)(ht:cO (l.map (·.1))=true) :
 Calls Tryz.prog 21 #[.slice A n cap,.string own,.slice B m c] w (FQ w own (kF xs) (l.map (·.1))):=by
 have hl:l.length=n:=by obtain⟨⟨A',c',e,_⟩,_⟩:=hs;injection e with _ e _;exact e.symm
 have HT:=ae (Uq w _ l hv hs hz ht);have Dy:=ae (fun (wq:World)(hq:Below w.heap.size w wq)=>adB wq own B m c xs (hS.lift hq) hm);have WI:=ae (fun (wq:World)(hq:Below w.heap.size w wq)(mb:Nat)(hM:jr wq mb (rA xs))=>adu wq own mb xs A n cap l hM (fun x hx=>(hS.2 x hx).lift hq) hO ho ((hs.lift hq hq.size)) hl (adQ ht hz));unfold FQ;rw[eB,hl];clear hv hS hm hO ho hs hz ht hl;go_enter Tryz.func21,Tryz.ntmps21
 go_wp2_with (first
  | (go_at_call 37;((with_reducible refine HT.o.mono ?_);rintro e w2 ⟨rfl,hq⟩;have H2:=ae hq;clear hq))
  | (go_at_call 44;((with_reducible refine(Dy.o _ H2.o).mono ?_);rintro e w3 ⟨mb,rfl,h1,h2,hq⟩;have H3:=ae (H2.o.trans (hq.mono H2.o.size));have wh:=ae h2;clear hq h1 h2))
  | (go_at_call 43;((with_reducible refine(WI.o _ H3.o mb wh.o).mono ?_);rintro e w4 ⟨done,rfl,h1,h2,hq⟩;have H4:=ae (H3.o.trans (hq.mono H3.o.size));have HD1:=ae h1;have HD2:=ae h2;clear hq h1 h2)))
 go_ret;exact⟨_,done,rfl,HD1.o,HD2.o,H4.o,H3.o.size⟩
def kdL:List Int→Int
 | []=>0
 | c :: _=>if c=39 then 1 else if c=61 then 2 else if c=45∨isNum c=true then 3 else 4
def kd(s:ByteArray):Int:=kdL (sb s)
structure Sx (w:World):Prop where
 vars:Vars w
 ops:oH w
 tab:lM w
 max:qQ w
 sh:qU w
theorem Sx.below(h:Sx w)(hb:Below w.heap.size w w'):Sx w':=⟨h.vars.below hb,h.ops.below hb,h.tab.below hb,h.max.below hb,h.sh.below hb⟩
theorem Sx.Um (h:Sx w)(v:Value)(vs:List (Nd × Value))(hs:fI w w.heap.size v vs)(hz:SZ vs)(bM:∀q∈vs,q.1.num≤9223372036854775807)(hlen:(cz (vs.map (·.1))).length≤1000000000)(ht:cO (vs.map (·.1))=true) :
 Calls Tryz.prog 20 #[v] w fun e w'=>e = .returned (.string (strOfNums (cz (vs.map (·.1)))))∧Below w.heap.size w w':=aeV w v vs h.vars h.tab h.max h.sh hs hz bM hlen ht
def F3(M:Nat)(t:ai):Prop:=t.text.size≤M∧t.sh.size≤M
def uR(M:Nat)(n:Nd):Prop:=n.text.size≤M∧n.ref.sh.size≤M∧n.af.sh.size≤M
def nC(M:Nat)(ts:List ai):Prop:=∀t∈ts,F3 M t
def l9(M:Nat)(ns:List Nd):Prop:=∀n∈ns,uR M n
theorem nC.tail(h:nC M ts):nC M ts.tail:=fun t ht=>h t (List.mem_of_mem_tail ht)
theorem l9.app{a b:List Nd}(h:l9 M a)(k:l9 M b):l9 M (a++b):=fun n hn=>(dK.1 hn).elim (h n) (k n)
theorem l9.one(h:uR M n):l9 M [n]:=fun m hm=>by rw[fA]at hm;subst hm;exact h
theorem uR.plain(M:Nat)(k n:Int)(ks:List Int):uR M { Nd.zero with kind:=k,num:=n,kids:=ks }:=⟨eP _,eP _,eP _⟩
theorem afr {base:Nat}{t:ai}{a:Nat}{r:List ai}(ht:F3 M t)(hs:nC M ts)(h:jJ base t ts = .ok (ns,a,r)):l9 M ns∧nC M r:=by
 unfold jJ at h;split at h
 · split at h
   · rename_i u us hu
     split at h
     · injection h with h;injection h with h1 h2;injection h2 with h2 h3
       subst h1;subst h3;have RN:nC M (u :: us):=by rw[← hu];exact hs.tail
       exact⟨l9.one ⟨eP _,ht.2,(RN u (by simp)).2⟩,fun x hx=>RN x (by simp[hx])⟩
     · cases h
   · cases h
 · injection h with h;injection h with h1 h2;injection h2 with h2 h3
   subst h1;subst h3;exact⟨l9.one ⟨eP _,ht.2,eP _⟩,hs⟩
theorem Vr (M:Nat):∀f:Nat,(∀n deep base ts ns a r,eU f n deep base ts=some (.ok (ns,a,r))→nC M ts→l9 M ns∧nC M r) ∧
 (∀n deep base ns a ts ns' a' r,iJ f n deep base ns a ts=some (.ok (ns',a',r))→nC M ts→l9 M ns→l9 M ns'∧nC M r) ∧
 (∀deep base ts ns a r,jB f deep base ts=some (.ok (ns,a,r))→nC M ts→l9 M ns∧nC M r) ∧
 (∀deep base ns ks ts ns' ks' r,ib f deep base ns ks ts=some (.ok (ns',ks',r))→nC M ts→l9 M ns→l9 M ns'∧nC M r)
 | 0=>by
   refine⟨?_, ?_, ?_, ?_⟩
   · intro n deep base ts ns a r h;unfold eU at h;cases h
   · intro n deep base ns a ts ns' a' r h;unfold iJ at h;cases h
   · intro deep base ts ns a r h;unfold jB at h;cases h
   · intro deep base ns ks ts ns' ks' r h;unfold ib at h;cases h
 | f + 1 => by
   obtain⟨i1,i2,i3,i4⟩:=Vr M f;refine⟨?_, ?_, ?_, ?_⟩
   · intro n deep base ts ns a r h ht
     rw[lQ]at h;by_cases c:n≤3
     · rw [ah c]at h
       rcases eG h with ⟨e,_,h2⟩|⟨ms,b,s,h1,h2⟩
       · cases h2
       · obtain⟨k1,k2⟩:=i1 _ _ _ _ _ _ _ h1 ht
         exact i2 _ _ _ _ _ _ _ _ _ h2 k2 k1
     · rw [ag c]at h
       by_cases d:ax ⟨#[45]⟩ ts=true
       · rw [ah d]at h
         by_cases d2:12≤deep
         · rw[ah d2]at h;cases h
         · rw [ag d2]at h
           rcases eG h with ⟨e,_,h2⟩|⟨ms,b,s,h1,h2⟩
           · cases h2
           · obtain⟨k1,k2⟩:=i1 _ _ _ _ _ _ _ h1 ht.tail
             injection h2 with h2;injection h2 with h2;injection h2 with h3 h4;injection h4 with h4 h5;subst h3;subst h4;subst h5;exact⟨k1.app (l9.one (uR.plain _ _ _ _)),k2⟩
       · rw[ag d]at h;exact i3 _ _ _ _ _ _ h ht
   · intro n deep base ns a ts ns' a' r h ht hn
     rw[qB]at h;by_cases c:fC n ts=0
     · rw[ah c]at h
       injection h with h;injection h with h;injection h with h1 h2;injection h2 with h2 h3;subst h1;subst h2;subst h3;exact⟨hn,ht⟩
     · rw [ag c]at h
       rcases eG h with ⟨e,_,h2⟩|⟨ms,b,s,h1,h2⟩
       · cases h2
       · obtain⟨k1,k2⟩:=i1 _ _ _ _ _ _ _ h1 ht.tail
         exact i2 _ _ _ _ _ _ _ _ _ h2 k2 (hn.app (k1.app (l9.one (uR.plain _ _ _ _))))
   · intro deep base ts ns a r h ht
     cases ts with
     | nil=>rw[zz]at h;cases h
     | cons t ts =>
       have h0:F3 M t:=ht t (by simp);have hts:nC M ts:=fun x hx=>ht x (by simp[hx])
       have leaf:∀(x:Nd),uR M x→(some (.ok ([x],base,ts)):Option eQ)=some (.ok (ns,a,r))→l9 M ns∧nC M r:=by
        intro x hk h;injection h with h;injection h with h;injection h with h1 h2;injection h2 with h2 h3;subst h1;subst h2;subst h3;exact⟨l9.one hk,hts⟩
       rw[lX]at h;by_cases c1:ax ⟨#[40]⟩ (t :: ts)=true
       · rw [ah c1]at h
         by_cases d2:12≤deep
         · rw[ah d2]at h;cases h
         · rw [ag d2]at h
           rcases eG h with ⟨e,_,h2⟩|⟨ms,b,s,h1,h2⟩
           · cases h2
           · obtain ⟨k1,k2⟩:=i1 _ _ _ _ _ _ _ h1 hts
             split at h2
             · injection h2 with h2;injection h2 with h2;injection h2 with h3 h4;injection h4 with h4 h5
               subst h3;subst h4;subst h5;exact⟨k1,k2.tail⟩
             · cases h2
       rw[ag c1]at h;by_cases c2:t.kind=1
       · rw[ah c2]at h;exact leaf _ (uR.plain _ _ _ _) h
       rw[ag c2]at h;by_cases c3:t.kind=2
       · rw[ah c3]at h;exact leaf _ ⟨h0.1,eP _,eP _⟩ h
       rw[ag c3]at h;by_cases c4:t.kind=6
       · rw[ah c4]at h;exact leaf _ (uR.plain _ _ _ _) h
       rw[ag c4]at h;by_cases c5:t.kind=4
       · rw[ah c5]at h;injection h with h;exact afr h0 hts h
       rw[ag c5]at h;by_cases c6:t.kind=3
       · rw [ah c6]at h
         by_cases e1:t.text=⟨#[84,82,85,69]⟩
         · rw[ah e1]at h;exact leaf _ (uR.plain _ _ _ _) h
         rw[ag e1]at h;by_cases e2:t.text=⟨#[70,65,76,83,69]⟩
         · rw[ah e2]at h;exact leaf _ (uR.plain _ _ _ _) h
         rw[ag e2]at h;by_cases e3:ax ⟨#[40]⟩ ts=true
         · rw [ah e3]at h
           by_cases d2:12≤deep
           · rw[ah d2]at h;cases h
           · rw [ag d2]at h
             rcases eG h with ⟨e,_,h2⟩|⟨ms,ks,s,h1,h2⟩
             · cases h2
             · have hk:l9 M ms∧nC M s:=by
                split at h1
                · injection h1 with h1;injection h1 with h1;injection h1 with h3 h4;injection h4 with h4 h5
                  subst h3;subst h5;exact⟨fun _ h=>absurd h (by simp),hts.tail⟩
                · exact i4 _ _ _ _ _ _ _ _ h1 hts.tail (fun _ h=>absurd h (by simp))
               split at h2
               · injection h2 with h2;injection h2 with h2;injection h2 with h3 h4;injection h4 with h4 h5
                 subst h3;subst h4;subst h5;exact⟨hk.1.app (l9.one ⟨h0.1,eP _,eP _⟩),hk.2.tail⟩
               · cases h2
         · rw[ag e3]at h;cases h
       · rw[ag c6]at h;cases h
   · intro deep base ns ks ts ns' ks' r h ht hn
     rw[o8]at h;rcases eG h with ⟨e,_,h2⟩|⟨ms,b,s,h1,h2⟩
     · cases h2
     · obtain ⟨k1,k2⟩:=i1 _ _ _ _ _ _ _ h1 ht
       split at h2
       · exact i4 _ _ _ _ _ _ _ _ h2 k2.tail (hn.app k1)
       · injection h2 with h2;injection h2 with h2;injection h2 with h3 h4;injection h4 with h4 h5
         subst h3;subst h4;subst h5;exact⟨hn.app k1,k2⟩
theorem Ue (h:lW f ts=some (.ok ns))(ht:nC M ts):l9 M ns:=by
 unfold lW at h;rcases eG h with ⟨e,_,h2⟩|⟨ms,b,s,h1,h2⟩
 · cases h2
 · split at h2
   · injection h2 with h2;injection h2 with h2;subst h2
     exact((Vr M f).1 _ _ _ _ _ _ _ h1 ht).1
   · cases h2
end Go.Proofs.YtaobhjliflomaaaGreatDoor
