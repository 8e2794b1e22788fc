import Derived.Test.YtbplbjmmfgjdjaaGreatDoorMN8
set_option maxRecDepth 100000
set_option maxHeartbeats 64000000
namespace Go.Proofs.YtbplbjmmfgjdjaaGreatDoor
open Go.RowKit
variable {x:Int}{l vs:List (Nd × Value)}{ks:List Int}{ns:List Nd}{ts:List ah}{B M b base f i:Nat}{n:Nd}{α:Type}{k v:Value}{w w':World}{t:ah}
theorem QP (s:ByteArray)(a m:Nat):sb (s.extract a (a+m))=((sb s).drop a).take m:=by
 unfold sb;rw[← List.map_drop, ← List.map_take];congr 1;rw[ByteArray.data_extract,Array.toList_extract];rw[List.extract_eq_take_drop];congr 1;omega
theorem agt (d:Rd)(m:Nat)(h:d.k+m<d.s.size):d.rest[m]? = some ((d.s[d.k+m].toNat:Nat):Int):=by
 unfold Rd.rest;rw[List.getElem?_drop,qN d.s _ h]
theorem N8 (d:Rd)(s:ByteArray)(m p:Nat)(a:Int)(hs:d.s=s)(hp:d.k+m=p)(h:p<s.size)(ha:((s[p].toNat:Nat):Int)=a):d.rest.take (m+1)=d.rest.take m++[a]∧d.rest[m]? = some a:=by
 subst hs;subst hp;subst ha;exact⟨N7 d m h,agt d m h⟩
theorem Oo (l:List Int)(h:∀x∈l,isNum x=true)(hl:l.length≤4):0≤dG l∧dG l≤9999:=by
 match l,hl,h with
 | [],_,_=>exact⟨by decide,by decide⟩
 | [a],_,h =>
   have h1:=jE (h a (by simp));unfold dG;simp only[List.foldl_cons,List.foldl_nil];omega
 | [a,b],_,h =>
   have h1:=jE (h a (by simp));have h2:=jE (h b (by simp));unfold dG;simp only[List.foldl_cons,List.foldl_nil];omega
 | [a,b,c],_,h =>
   have h1:=jE (h a (by simp));have h2:=jE (h b (by simp));have h3:=jE (h c (by simp));unfold dG;simp only[List.foldl_cons,List.foldl_nil];omega
 | [a,b,c,d],_,h =>
   have h1:=jE (h a (by simp));have h2:=jE (h b (by simp));have h3:=jE (h c (by simp));have h4:=jE (h d (by simp));unfold dG;simp only[List.foldl_cons,List.foldl_nil];omega
theorem aiL (p:Int→Bool)(d:Rd):((sb d.s).drop d.k).take (d.rest.takeWhile p).length=d.rest.takeWhile p:=by
 have e:=take_split p d.rest;have h:(d.rest.takeWhile p++d.rest.drop (d.rest.takeWhile p).length).take (d.rest.takeWhile p).length=d.rest.takeWhile p:=List.take_left;rw[e]at h;exact h
theorem Vr:(Tryz.prog.info? 42).map (·.size)=some 5:=by kernel_rfl
theorem Du {ops:Array Oper}{rest:List Oper}{op:Oper}{a:Act}{Q:Exit→Act→World→Prop}(hgd:op.guard=none)(x y:Operand)(ho:op.op = .store 42 x y)
 (g:Nat) (s0:ByteArray) (c0 r0:Int) (Y7 Zg:Bool) (s:ByteArray) (c r:Int) (ac ar:Bool) (hx:a.eval x = .pointer (some ⟨g,0,none⟩)) (hy:a.eval y = .agg #[.string s,.int .i64 c,.int .i64 r,.bool ac,.bool ar]) (hr:dz w g s0 c0 r0 Y7 Zg)
 (h:∀w',dz w' g s c r ac ar→w.grownBy w' (some g)→wpList Tryz.prog ops Q rest (a.put op.dst undef) w'):wpList Tryz.prog ops Q (op :: rest) a w:=by
 refine wpList_store_row hgd 42 x y ho g 42 _ _ hx hy hr rfl Vr ?_ (h _ (setRow_heap w g _ _ _ _ hr) (grownBy.I1 (grownBy.fT w _) _));intro v hv;simp only[ik,List.not_mem_nil,or_false]at hv;rcases hv with rfl|rfl|rfl|rfl|rfl <;> rfl
theorem dz.load {s:ByteArray}{c r:Int}{ac ar:Bool}(h:dz w b s c r ac ar):(loadVar 42 ⟨b,0,none⟩).run Tryz.prog w = .ok (.agg #[.string s,.int .i64 c,.int .i64 r,.bool ac,.bool ar]) w :=
 run_loadVar_row w b 42 42 _ _ _ h Tryz.underlying42 rfl Vr
theorem CX {s:ByteArray}{c r:Int}{ac ar:Bool}(h:dz w b s c r ac ar)(fn:Func)(tmps:Array Value)(ok:Bool)(p u:Tmp)(hf:fn.results=#[.cell p 42,.tmp u])(hp:tmps.getD p undef = .pointer (some ⟨b,0,none⟩))(hu:tmps.getD u undef = .bool ok) :
 (results fn tmps).run Tryz.prog w = .ok (.tuple #[.agg #[.string s,.int .i64 c,.int .i64 r,.bool ac,.bool ar],.bool ok]) w:=by
 rw[results_cell_tmp hf,hp,hu];simp[asAddr,h.load,Result.andThen]
theorem Dc:Tryz.f55.results=#[.cell 2 42,.tmp 3]:=by kernel_rfl
theorem agu (d:Rd)(m:Nat)(h:d.s.size≤d.k+m):d.rest[m]? = none:=by
 rw[List.getElem?_eq_none_iff,rM];omega
theorem aeq (d:Rd)(h:d.k<d.s.size)(h2:((d.s[d.k].toNat:Nat):Int)=36):d.mark=true:=by
 unfold Rd.mark;rw[Nw d h,h2];rfl
theorem aep (d:Rd)(h:d.k<d.s.size)(h2:¬ ((d.s[d.k].toNat:Nat):Int)=36):d.mark=false:=by
 unfold Rd.mark;rw[Nw d h,jv];intro h3;injection h3 with h3;exact h2 h3
theorem TU(d:Rd)(s:ByteArray)(hs:d.s=s)(h:d.k<s.size)(h2:((s[d.k].toNat:Nat):Int)=36):d.mark=true:=by subst hs;exact aeq d h h2
theorem TS(d:Rd)(s:ByteArray)(hs:d.s=s)(h:d.k<s.size)(h2:¬ ((s[d.k].toNat:Nat):Int)=36):d.mark=false:=by subst hs;exact aep d h h2
theorem KL(d:Rd):d.uq.k=d.k+(fD d.mark).length:=rfl
theorem KM(d:Rd):d.Cq.k=d.k+(fD d.mark).length:=rfl
theorem aeo(d:Rd)(h:d.s.size≤d.k):d.mark=false:=by unfold Rd.mark;rw[Vy d h];rfl
theorem TR(d:Rd)(s:ByteArray)(hs:d.s=s)(h:s.size≤d.k):d.mark=false:=by subst hs;exact aeo d h
theorem Vm (s:ByteArray)(w:World)(_hs:s.size≤1000000)(d1:Rd)(hs1:d1.s=s)(hk1:d1.k≤s.size)(Sm:∀e,(Rd.start s).kZ=some e→e=d1)(m:Nat)
 (hd1:(m=s.size∧d1.k=0∧d1.sh=⟨#[]⟩)∨(m<s.size∧0<m∧d1.k=m+1∧d1.sh=s.extract 0 m∧∀h:m<s.size,((s[m].toNat:Nat):Int)=33)) (Rz:∀(k:Nat)(h:k<s.size),k<m→¬ ((s[k].toNat:Nat):Int)=33) :
 Calls Tryz.prog 55 #[.string s] w fun e w'=>oh (sb s) e∧Below w.heap.size w w':=by
 have hst:je w ((w.alloc (.cells Ad 42)).alloc (.cells Ad 42)) ⟨#[]⟩ 0 0 false false:=by
  have h0:=dz.new w ⟨#[]⟩ 0 0 false false;have hsz:(w.alloc (.cells Ad 42)).heap.size=w.heap.size+1:=by simp
  have h1:=dz.new (w.alloc (.cells Ad 42)) ⟨#[]⟩ 0 0 false false;rw[hsz]at h1;exact⟨h0.below ((ak _ _).alloc (aj _) _) h0.lt,h1,((ak _ _).alloc (aj _) _).alloc (by rw[hsz];omega) _⟩
 have HST:=ae hst;clear hst;have fF:=ae hs1;clear hs1;have Yu:=ae Sm;clear Sm
 have akS:d1.sh.size≤1000000:=by
  rcases hd1 with ⟨_,_,h⟩|⟨_,_,_,h,_⟩
  · rw[h];exact ek _
  · rw[h,ByteArray.size_extract];omega
 have HD1:=ae hd1;clear hd1;have xJ:=ae Rz;clear Rz;go_enter Tryz.func55,Tryz.ntmps55;go_upto_block 0 with (fail)
 go_cut [5] (fun at_ wx=>at_ = .int .i64 (d1.k:Int)∧je w wx d1.sh 0 0 false false)
 case first =>
  go_wp2_with fail
  go_loopw [5,6] (fun at_ i wr=>∃k:Nat,k≤s.size∧k≤m∧at_ = .int .i64 0∧i = .int .i64 k∧Hid (je w wr ⟨#[]⟩ 0 0 false false))
   (fun _ i _=>s.size - (intOf i).toNat)
  case atStart=>exact⟨0,by omega,by omega,rfl,rfl,HST⟩
  case round =>
   clear HST;obtain⟨k,hk,dL,rfl,rfl,HST⟩:=hrel;by_cases hlt:k<s.size
   · have hki:(k:Int)<(s.size:Int):=by omega
     obtain⟨a,ha⟩:∃a:Int,(s[k].toNat:Int)=a:=⟨_,rfl⟩;by_cases hm:k<m
     · have abm:(a == 33)=false:=aA.2 (by rw[← ha];exact xJ.o k hlt hm)
       go_wp2_with fail
       go_roundw
       case rel=>exact⟨k+1,by omega,by omega,rfl,by go_num,HST⟩
       case measure=>simp[intOf];omega
     · obtain rfl:k=m:=by omega
       have hd:=HD1.o.resolve_left (by omega);have abm:(a == 33)=true:=bB.2 (by rw[← ha];exact hd.2.2.2.2 hlt);have hk0:((k:Int) == 0)=false:=aA.2 (by have:=hd.2.1;omega);have akG:(0:Int)≤(k:Int):=by omega
       have DI:=ae hd;clear hd;obtain⟨x0,x1,x2,x3,x4⟩:=HST.o.ref.facts;clear x1 x2 x3 x4;have z0:=(HST.o.ref.frozen 0);go_wp2_with fail
       go_meet
       case rel=>exact⟨by rw[DI.o.2.2.1];rfl,by rw[DI.o.2.2.2.1];exact je.set 0 HST.o (.string (s.extract 0 k)) _ 0 0 false false rfl⟩
   · have hki:¬ (k:Int)<(s.size:Int):=by omega
     have hd:=HD1.o.resolve_right (by omega);have DI:=ae hd;clear hd;go_wp2_with fail
     go_meet
     case rel=>exact⟨by rw[DI.o.2.1];rfl,by rw[DI.o.2.2];exact HST.o⟩
 case rest =>
  obtain⟨rfl,lZ⟩:=hcut;clear HST;have HST:=ae lZ;clear lZ;go_upto_region 11 with (fail)
  go_cut [40] (fun t wx=>t = .bool d1.mark∧je w wx d1.sh 0 0 false false)
  case first =>
   by_cases hlt:d1.k<s.size
   · have hki:(d1.k:Int)<(s.size:Int):=by omega
     obtain⟨a,ha⟩:∃a:Int,(s[d1.k].toNat:Int)=a:=⟨_,rfl⟩;by_cases h36:a=36
     · have hj:(a == 36)=true:=bB.2 h36
       have hmk:d1.mark=true:=TU d1 s fF.o hlt (by rw[ha,h36]);have iU:=ae hmk;clear hmk h36;go_wp2_with fail
       go_meet
       case rel=>exact⟨by rw[iU.o],HST.o⟩
     · have hj:(a == 36)=false:=aA.2 h36
       have hmk:d1.mark=false:=TS d1 s fF.o hlt (by rw[ha];exact h36);have iU:=ae hmk;clear hmk h36;go_wp2_with fail
       go_meet
       case rel=>exact⟨by rw[iU.o],HST.o⟩
   · have hki:¬ (d1.k:Int)<(s.size:Int):=by omega
     have hmk:d1.mark=false:=TR d1 s fF.o (by omega);have iU:=ae hmk;clear hmk;go_wp2_with fail
     go_meet
     case rel=>exact⟨by rw[iU.o],HST.o⟩
  case rest =>
   obtain⟨rfl,lZ⟩:=hcut;clear HST;have HST:=ae lZ;clear lZ;go_upto_if 40 with (fail)
   go_cut [5] (fun k wx=>k = .int .i64 (d1.uq.k:Int)∧je w wx d1.sh 0 0 d1.mark false)
   case first =>
    obtain⟨x0,x1,x2,x3,x4⟩:=HST.o.ref.facts;have z0:=(HST.o.ref.frozen 0);have z1:=(HST.o.ref.frozen 1);have z2:=(HST.o.ref.frozen 2);have z3:=(HST.o.ref.frozen 3);have z4:=(HST.o.ref.frozen 4);cases hm:d1.mark with
    | true =>
      have iU:=ae hm;clear hm;go_wp2_with fail
      go_meet
      case rel=>exact⟨by rw[show d1.uq.k=d1.k+1 from by rw[KL,iU.o];rfl];rfl,(by first|(rw[iU.o];exact je.set 3 HST.o (.bool true) d1.sh 0 0 true false rfl)|exact je.set 3 HST.o (.bool true) d1.sh 0 0 true false rfl)⟩
    | false =>
      have iU:=ae hm;clear hm;go_wp2_with fail
      go_meet
      case rel=>exact⟨by rw[show d1.uq.k=d1.k from by rw[KL,iU.o];rfl],(by first|(rw[iU.o];exact HST.o)|exact HST.o)⟩
   case rest =>
    obtain⟨rfl,lZ⟩:=hcut;clear HST;have HST:=ae lZ;clear lZ;obtain⟨d2,hd2⟩:∃d:Rd,d1.uq=d:=⟨_,rfl⟩;rw[hd2];have hs2:d2.s=s:=by rw[← hd2];exact fF.o
    have hk2:d2.k≤s.size:=by rw[← hd2,KL, ← fF.o];exact HY d1 (by rw[fF.o];exact hk1)
    obtain⟨d3,hd3⟩:∃d:Rd,d2.Em=d:=⟨_,rfl⟩;have hk3:d3.k=d2.k+(d2.rest.takeWhile aU).length:=by rw[← hd3];rfl
    have ab1:d3.k≤s.size:=by rw[hk3, ← hs2];exact NS aU d2 (by rw[hs2];exact hk2)
    have hs3:d3.s=s:=by rw[← hd3];exact hs2
    have hc3:l8 (d2.rest.takeWhile aU)=d3.c:=by rw[← hd3];rfl
    obtain⟨Ih,R4⟩:∃b:Bool,jC (d2.rest.takeWhile aU)=b:=⟨_,rfl⟩
    have uJ:sb (s.extract d2.k d3.k)=d2.rest.takeWhile aU:=by
     rw[hk3,QP, ← hs2];exact aiL aU d2
    have abH:(s.extract d2.k d3.k).size≤1000000:=by rw[ByteArray.size_extract];omega
    have hkp:(d2.k:Int)≤(d3.k:Int):=by omega
    have hps:(d3.k:Int)≤(s.size:Int):=by omega
    have HD2:=ae hd2;clear hd2;have HS2:=ae hs2;clear hs2;have HD3:=ae hd3;clear hd3;have mG:=ae hs3;clear hs3;have sj:=ae hc3;clear hc3;have pE:=ae hk3;clear hk3;have O6:=ae R4;clear R4;have Yy:=ae uJ;clear uJ;go_upto_block 2 with (fail)
    go_cut [7] (fun t wx=>t = .int .i64 (d3.k:Int)∧je w wx d1.sh 0 0 d1.mark false)
    case first =>
     go_wp2_with fail
     go_loopw [7] (fun t wr=>∃m:Nat,d2.k+m≤s.size∧t = .int .i64 ((d2.k+m:Nat):Int)∧Hid (∀x∈d2.rest.take m,aU x=true)∧Hid (je w wr d1.sh 0 0 d1.mark false))
      (fun t _=>s.size - (intOf t).toNat)
     case atStart=>exact⟨0,by omega,rfl,ae (by simp),HST⟩
     case round =>
      clear HST;obtain⟨m,hm,rfl,lv,HST⟩:=hrel;obtain⟨p,hp⟩:∃p:Nat,d2.k+m=p:=⟨_,rfl⟩;rw[hp];have HP:=ae hp;have hp2:p≤s.size:=by omega
      clear hp;by_cases hlt:p<s.size
      · have hki:(p:Int)<(s.size:Int):=by omega
        obtain⟨a,ha⟩:∃a:Int,(s[p].toNat:Int)=a:=⟨_,rfl⟩;have ha1:0≤a∧a≤255:=by have:=s[p].toNat_lt;omega
        have hnx:=N8 d2 s m p a HS2.o HP.o hlt ha;have eu:=ae hnx;clear hnx;by_cases hc:aU a=true
        · go_wp2_with (go_at_call 79;((with_reducible refine(wC _ ?_ ?_ _).mono ?_);(try omega);(try omega);rintro e w' ⟨rfl,rfl⟩))
          go_roundw
          case rel=>exact⟨m+1,by have:=HP.o;omega,by rw[show d2.k+(m+1)=p+1 from by have:=HP.o;omega];rfl,ae (by rw[eu.o.1];exact ru lv.o hc),HST⟩
          case measure=>simp[intOf];omega
        · have hc':aU a=false:=by simpa using hc
          clear hc;have hsp:=BK aU d2.rest m lv.o (fun x hx=>by rw[eu.o.2]at hx;injection hx with hx;rw[← hx];exact hc');have hpk:p=d3.k:=by rw[pE.o,hsp,gW,rM,HS2.o];have:=HP.o;omega
          have ui:=ae hpk;clear hpk hsp;go_wp2_with (go_at_call 79;((with_reducible refine(wC _ ?_ ?_ _).mono ?_);(try omega);(try omega);rintro e w' ⟨rfl,rfl⟩))
          go_meet
          case rel=>exact⟨by rw[ui.o],HST.o⟩
      · have hki:¬ (p:Int)<(s.size:Int):=by omega
        have hsp:=BK aU d2.rest m lv.o (fun x hx=>by rw[agu d2 m (by rw[HS2.o];have:=HP.o;omega)]at hx;cases hx);have hpk:p=d3.k:=by rw[pE.o,hsp,gW,rM,HS2.o];have:=HP.o;omega
        have ui:=ae hpk;clear hpk hsp;go_wp2_with fail
        go_meet
        case rel=>exact⟨by rw[ui.o],HST.o⟩
    case rest =>
     obtain⟨rfl,lZ⟩:=hcut;clear HST;have HST:=ae lZ;clear lZ;go_upto_region 18 with (first|(go_at_call 80;((with_reducible refine(agR _ _ ?_).mono ?_);(try omega);rintro e w1 ⟨rfl,n,rfl⟩;rw[Yy.o,sj.o,O6.o];have HST:=ae (HST.o.drewN n))))
     clear hkp hps abH;go_upto_region 18 with (fail)
     go_cut [74] (fun t wx=>t = .bool d3.mark∧je w wx d1.sh 0 0 d1.mark false)
     case first =>
      by_cases hlt:d3.k<s.size
      · have hki:(d3.k:Int)<(s.size:Int):=by omega
        obtain⟨a,ha⟩:∃a:Int,(s[d3.k].toNat:Int)=a:=⟨_,rfl⟩;by_cases h36:a=36
        · have hj:(a == 36)=true:=bB.2 h36
          have hmk:d3.mark=true:=TU d3 s mG.o hlt (by rw[ha,h36]);have iU:=ae hmk;clear hmk h36;go_wp2_with fail
          go_meet
          case rel=>exact⟨by rw[iU.o],HST.o⟩
        · have hj:(a == 36)=false:=aA.2 h36
          have hmk:d3.mark=false:=TS d3 s mG.o hlt (by rw[ha];exact h36);have iU:=ae hmk;clear hmk h36;go_wp2_with fail
          go_meet
          case rel=>exact⟨by rw[iU.o],HST.o⟩
      · have hki:¬ (d3.k:Int)<(s.size:Int):=by omega
        have hmk:d3.mark=false:=TR d3 s mG.o (by omega);have iU:=ae hmk;clear hmk;go_wp2_with fail
        go_meet
        case rel=>exact⟨by rw[iU.o],HST.o⟩
     case rest =>
      obtain⟨rfl,lZ⟩:=hcut;clear HST;have HST:=ae lZ;clear lZ;go_upto_if 74 with (fail)
      go_cut [7] (fun k wx=>k = .int .i64 (d3.Cq.k:Int)∧je w wx d1.sh 0 0 d1.mark d3.mark)
      case first =>
       obtain⟨x0,x1,x2,x3,x4⟩:=HST.o.ref.facts;have z0:=(HST.o.ref.frozen 0);have z1:=(HST.o.ref.frozen 1);have z2:=(HST.o.ref.frozen 2);have z3:=(HST.o.ref.frozen 3);have z4:=(HST.o.ref.frozen 4);cases hm:d3.mark with
       | true =>
         have iU:=ae hm;clear hm;go_wp2_with fail
         go_meet
         case rel=>exact⟨by rw[show d3.Cq.k=d3.k+1 from by rw[KM,iU.o];rfl];rfl,(by first|(rw[iU.o];exact je.set 4 HST.o (.bool true) d1.sh 0 0 d1.mark true rfl)|exact je.set 4 HST.o (.bool true) d1.sh 0 0 d1.mark true rfl)⟩
       | false =>
         have iU:=ae hm;clear hm;go_wp2_with fail
         go_meet
         case rel=>exact⟨by rw[show d3.Cq.k=d3.k from by rw[KM,iU.o];rfl],(by first|(rw[iU.o];exact HST.o)|exact HST.o)⟩
      case rest =>
       obtain⟨rfl,lZ⟩:=hcut;clear HST;have HST:=ae lZ;clear lZ;obtain⟨d4,hd4⟩:∃d:Rd,d3.Cq=d:=⟨_,rfl⟩;rw[hd4];have hs4:d4.s=s:=by rw[← hd4];exact mG.o
       have hk4:d4.k≤s.size:=by rw[← hd4,KM, ← mG.o];exact HY d3 (by rw[mG.o];exact ab1)
       have Rx:d1.at4=d4:=by unfold Rd.at4;rw[HD2.o,HD3.o,hd4]
       have RB:∀d,iA s=some d→Ih=true∧(∀x∈d4.rest,isNum x=true)∧d4.rest.length≤3∧d.sh=d1.sh∧d.c=d3.c∧d.ac=d1.mark∧d.ar=d3.mark∧d.r=dG d4.rest - 1:=by
        intro d hd;obtain⟨g1,g2,g3,g4,g5,g6,g7,g8⟩:=ZV s d1 d Yu.o fF.o hd;rw[Rx]at g2 g3 g8;rw[HD2.o,O6.o]at g1;have QX:d.c=d1.uq.Em.c:=g5;have QY:d.ar=d1.uq.Em.mark:=g7;rw[HD2.o,HD3.o]at QX QY;exact⟨g1,g2,g3,g4,QX,g6,QY,g8⟩
       have qw:=ae hs4;clear hs4;have OG:=ae RB;clear RB Rx hd4;obtain⟨v4,hv4⟩:∃v,dG (d4.rest.take 4)=v:=⟨_,rfl⟩;by_cases aX:∀x∈d4.rest.take 4,isNum x=true
       · have hvb:=Oo (d4.rest.take 4) aX (by rw[gW];omega)
         rw[hv4]at hvb;have lv:=ae aX;clear aX;have za:=ae hv4;clear hv4;go_upto_block 4 with (fail)
         go_cut [10] (fun rr wx=>rr = .int .i64 v4∧je w wx d1.sh 0 0 d1.mark d3.mark)
         case first =>
          go_wp2_with fail
          go_loopw [10,11] (fun rr t wr=>∃(j:Nat)(v:Int),j≤4∧d4.k+j≤s.size∧rr = .int .i64 v∧t = .int .i64 ((d4.k+j:Nat):Int)∧Hid (dG (d4.rest.take j)=v)∧Hid (je w wr d1.sh 0 0 d1.mark d3.mark))
           (fun _ t _=>s.size - (intOf t).toNat)
          case atStart=>exact⟨0,0,by omega,by omega,rfl,rfl,ae rfl,HST⟩
          case round =>
           clear HST;obtain⟨j,v,hj4,hjk,rfl,rfl,aW,HST⟩:=hrel;obtain⟨p,hp⟩:∃p:Nat,d4.k+j=p:=⟨_,rfl⟩;rw[hp];have hp2:p≤s.size:=by omega
           by_cases hlt:p<s.size∧j<4
           · obtain ⟨hlt,hj⟩:=hlt
             have hki:(p:Int)<(s.size:Int):=by omega
             have hji:(p:Int)<(d4.k:Int)+4:=by omega
             obtain⟨a,ha⟩:∃a:Int,(s[p].toNat:Int)=a:=⟨_,rfl⟩;have ha1:0≤a∧a≤255:=by have:=s[p].toNat_lt;omega
             have hnx:=N8 d4 s j p a qw.o hp hlt ha
             have hc:isNum a=true:=lv.o a (by
              have h1:a∈d4.rest.take (j+1):=by rw[hnx.1];simp
              exact List.mem_of_mem_take (i:=j+1) (by rw[List.take_take];rw[Nat.min_eq_left (by omega)];exact h1))
             have hab:=jE hc;have acB:=Oo (d4.rest.take j) (fun x hx=>lv.o x (List.mem_of_mem_take (i:=j) (by rw[List.take_take,Nat.min_eq_left (by omega)];exact hx))) (by rw[gW];omega);rw[aW.o]at acB;have eu:=ae hnx;clear hnx;have HP:=ae hp;clear hp;go_wp2_with (go_at_call 81;((with_reducible refine(jG _ ?_ ?_ _).mono ?_);(try omega);(try omega);rintro e w' ⟨rfl,rfl⟩))
             go_roundw
             case rel=>exact⟨j+1,10*v+(a - 48),by omega,by have:=HP.o;omega,rfl,by rw[show d4.k+(j+1)=p+1 from by have:=HP.o;omega];rfl,ae (by rw[eu.o.1,z8,aW.o]),HST⟩
             case measure=>simp[intOf];omega
           · have SA:v4=v:=by
              rw[← aW.o, ← za.o];by_cases hj:j=4
              · rw[hj]
              · have hl:d4.rest.length≤j:=by rw[rM,qw.o];omega
                rw[mP hl,mP (by omega)]
             have Pq:=ae SA;clear SA;by_cases hps:p<s.size
             · have hki:(p:Int)<(s.size:Int):=by omega
               have hji:¬ (p:Int)<(d4.k:Int)+4:=by omega
               have HP:=ae hp;clear hp hlt;go_wp2_with fail
               go_meet
               case rel=>exact⟨by rw[Pq.o],HST.o⟩
             · have hki:¬ (p:Int)<(s.size:Int):=by omega
               have HP:=ae hp;clear hp hlt;go_wp2_with fail
               go_meet
               case rel=>exact⟨by rw[Pq.o],HST.o⟩
         case rest =>
          obtain⟨rfl,lZ⟩:=hcut;clear HST;have HST:=ae lZ;clear lZ
          have dh:Ih=true→dO (sb d1.sh) d3.c (v4 - 1)=true→strOfNums (bE (sb d1.sh) d3.c (v4 - 1) d1.mark d3.mark)=s→oh (sb s) (.returned (.tuple #[.agg #[.string d1.sh,.int .i64 d3.c,.int .i64 (v4 - 1),.bool d1.mark,.bool d3.mark],.bool true])):=by
           intro _ h2 h3;refine .inl ⟨d1.sh,d3.c,v4 - 1,d1.mark,d3.mark, ?_,h2, ?_,rfl⟩
           · rcases CS h2 with h|h
             · rw[← bC,h];exact ek _
             · rw[← bC];exact(Um h).2
           · rw[← jN _ (AO d1.sh d3.c (v4 - 1) d1.mark d3.mark),h3]
          have hno:¬ (Ih=true∧dO (sb d1.sh) d3.c (v4 - 1)=true∧strOfNums (bE (sb d1.sh) d3.c (v4 - 1) d1.mark d3.mark)=s)→Gf (sb s):=by
           intro h;apply Da;cases hq:iA s with
           | none=>rfl
           | some d =>
             exfalso;obtain⟨g1,g2,g3,g4,g5,g6,g7,g8⟩:=OG.o d hq;obtain⟨r1,r2,r3⟩:=yH s d hq;rw[mP (by omega)]at za;rw[za.o]at g8;rw[g4,g5,g8]at r2;rw[g4,g5,g6,g7,g8]at r3;exact h ⟨g1,r2,by rw[r3,nA]⟩
          have dx:=ae dh;clear dh;have dR:=ae hno;clear hno;obtain⟨tt,Bi⟩:∃t:ByteArray,strOfNums (bE (sb d1.sh) d3.c (v4 - 1) d1.mark d3.mark)=t:=⟨_,rfl⟩;obtain⟨my,zB⟩:∃b:Bool,dO (sb d1.sh) d3.c (v4 - 1)=b:=⟨_,rfl⟩;rw[Bi,zB]at dx dR;have Eb:=ae Bi;clear Bi;have vg:=ae zB;clear zB;go_upto_region 28 with (fail)
          obtain⟨x0,x1,x2,x3,x4⟩:=HST.o.ref.facts;have z0:=(HST.o.ref.frozen 0);have z1:=(HST.o.ref.frozen 1);have z2:=(HST.o.ref.frozen 2);have z3:=(HST.o.ref.frozen 3);have z4:=(HST.o.ref.frozen 4);go_upto_region 30 with (fail)
          clear x0 x1 x2 x3 x4 z0 z1 z2 z3 z4;have Ma:=je.set 2 (je.set 1 HST.o (.int .i64 d3.c) d1.sh d3.c 0 d1.mark d3.mark rfl) (.int .i64 (v4 - 1)) d1.sh d3.c (v4 - 1) d1.mark d3.mark rfl;clear HST;generalize (wc.setCell ⟨w.heap.size+1,1,none⟩ (.int .i64 d3.c)).setCell ⟨w.heap.size+1,2,none⟩ (.int .i64 (v4 - 1))=w3 at Ma ⊢;have HST:=ae Ma;clear Ma;obtain⟨x0,x1,x2,x3,x4⟩:=HST.o.ref.facts;have z0:=(HST.o.ref.frozen 0);have z1:=(HST.o.ref.frozen 1);have z2:=(HST.o.ref.frozen 2);have z3:=(HST.o.ref.frozen 3);have z4:=(HST.o.ref.frozen 4);cases Ih with
          | false =>
            have hnr:=dR.o (by rintro⟨h,_⟩;cases h);have xQ:=ae hnr;clear hnr;go_upto_region 31 with (fail)
            repeat (first|go_says ((with_reducible refine Du (op:=⟨none,.store 42 (.tmp 2) (.tmp 123),_,_,_,_⟩) rfl (.tmp 2) (.tmp 123) rfl w.heap.size _ _ _ _ _ ⟨#[]⟩ 0 0 false false ?_ ?_ HST.o.res ?_);rfl;rfl;intro iG h9 g9;have vv:=ae h9;clear h9;have fB:=ae g9;clear g9)|go_values|go_skip|go_guarded|go_step|go_upon)
            (try simp only[Exit.inBlock,Exit.then])
            refine bodyPost_ret (CX vv.o _ _ false 2 3 Dc rfl rfl) rfl ⟨.inr ⟨xQ.o,rfl⟩,vM HST.o.below fB.o HST.o.below.size (aj _)⟩
          | true =>
            cases my with
            | false =>
              have hnr:=dR.o (by rintro⟨_,h,_⟩;cases h);have xQ:=ae hnr;clear hnr;go_upto_region 31 with (first|(go_at_call 42;((with_reducible refine(oI _ _ _ _ _ _ ?_).mono ?_);(try omega);rintro e w1 ⟨rfl,h1⟩;rw[vg.o];have HST:=ae (HST.o.next h1);clear h1;clear x0 x1 x2 x3 x4 z0 z1 z2 z3 z4;obtain⟨x0,x1,x2,x3,x4⟩:=HST.o.ref.facts;have z0:=(HST.o.ref.frozen 0);have z1:=(HST.o.ref.frozen 1);have z2:=(HST.o.ref.frozen 2);have z3:=(HST.o.ref.frozen 3);have z4:=(HST.o.ref.frozen 4))))
              repeat (first|go_says ((with_reducible refine Du (op:=⟨none,.store 42 (.tmp 2) (.tmp 123),_,_,_,_⟩) rfl (.tmp 2) (.tmp 123) rfl w.heap.size _ _ _ _ _ ⟨#[]⟩ 0 0 false false ?_ ?_ HST.o.res ?_);rfl;rfl;intro iG h9 g9;have vv:=ae h9;clear h9;have fB:=ae g9;clear g9)|go_values|go_skip|go_guarded|go_step|go_upon)
              (try simp only[Exit.inBlock,Exit.then])
              refine bodyPost_ret (CX vv.o _ _ false 2 3 Dc rfl rfl) rfl ⟨.inr ⟨xQ.o,rfl⟩,vM HST.o.below fB.o HST.o.below.size (aj _)⟩
            | true =>
              by_cases hts:tt=s
              · have hys:=dx.o rfl rfl hts
                have YS:=ae hys;clear hys;have htb:(s.toList == s.toList)=true:=beq_self_eq_true _;have Rs:=ae hts;clear hts;go_upto_region 32 with (first|(go_at_call 42;((with_reducible refine(oI _ _ _ _ _ _ ?_).mono ?_);(try omega);rintro e w1 ⟨rfl,h1⟩;rw[vg.o];have HST:=ae (HST.o.next h1);clear h1;clear x0 x1 x2 x3 x4 z0 z1 z2 z3 z4;obtain⟨x0,x1,x2,x3,x4⟩:=HST.o.ref.facts;have z0:=(HST.o.ref.frozen 0);have z1:=(HST.o.ref.frozen 1);have z2:=(HST.o.ref.frozen 2);have z3:=(HST.o.ref.frozen 3);have z4:=(HST.o.ref.frozen 4)))|(go_at_call 31;((with_reducible refine(E9 _ _ _ _ _ _ ?_).mono ?_);(try omega);rintro e w1 ⟨rfl,h1⟩;rw[Eb.o];(try rw[Rs.o]);have HST:=ae (HST.o.next h1);clear h1;clear x0 x1 x2 x3 x4 z0 z1 z2 z3 z4;obtain⟨x0,x1,x2,x3,x4⟩:=HST.o.ref.facts;have z0:=(HST.o.ref.frozen 0);have z1:=(HST.o.ref.frozen 1);have z2:=(HST.o.ref.frozen 2);have z3:=(HST.o.ref.frozen 3);have z4:=(HST.o.ref.frozen 4))))
                repeat (first|go_says ((with_reducible refine Du (op:=⟨none,.store 42 (.tmp 2) (.tmp 124),_,_,_,_⟩) rfl (.tmp 2) (.tmp 124) rfl w.heap.size _ _ _ _ _ d1.sh d3.c (v4 - 1) d1.mark d3.mark ?_ ?_ HST.o.res ?_);rfl;rfl;intro iG h9 g9;have vv:=ae h9;clear h9;have fB:=ae g9;clear g9)|go_values|go_skip|go_guarded|go_step|go_upon)
                (try simp only[Exit.inBlock,Exit.then])
                exact bodyPost_ret (CX vv.o _ _ true 2 3 Dc rfl rfl) rfl ⟨YS.o,vM HST.o.below fB.o HST.o.below.size (aj _)⟩
              · have hnr:=dR.o (by rintro⟨_,_,h⟩;exact hts h)
                have xQ:=ae hnr;clear hnr;have htn:=pg tt s hts;have htb:(tt.toList == s.toList)=false:=aA.2 htn;clear hts;go_upto_region 31 with (first|(go_at_call 42;((with_reducible refine(oI _ _ _ _ _ _ ?_).mono ?_);(try omega);rintro e w1 ⟨rfl,h1⟩;rw[vg.o];have HST:=ae (HST.o.next h1);clear h1;clear x0 x1 x2 x3 x4 z0 z1 z2 z3 z4;obtain⟨x0,x1,x2,x3,x4⟩:=HST.o.ref.facts;have z0:=(HST.o.ref.frozen 0);have z1:=(HST.o.ref.frozen 1);have z2:=(HST.o.ref.frozen 2);have z3:=(HST.o.ref.frozen 3);have z4:=(HST.o.ref.frozen 4)))|(go_at_call 31;((with_reducible refine(E9 _ _ _ _ _ _ ?_).mono ?_);(try omega);rintro e w1 ⟨rfl,h1⟩;rw[Eb.o];(try rw[Rs.o]);have HST:=ae (HST.o.next h1);clear h1;clear x0 x1 x2 x3 x4 z0 z1 z2 z3 z4;obtain⟨x0,x1,x2,x3,x4⟩:=HST.o.ref.facts;have z0:=(HST.o.ref.frozen 0);have z1:=(HST.o.ref.frozen 1);have z2:=(HST.o.ref.frozen 2);have z3:=(HST.o.ref.frozen 3);have z4:=(HST.o.ref.frozen 4))))
                repeat (first|go_says ((with_reducible refine Du (op:=⟨none,.store 42 (.tmp 2) (.tmp 123),_,_,_,_⟩) rfl (.tmp 2) (.tmp 123) rfl w.heap.size _ _ _ _ _ ⟨#[]⟩ 0 0 false false ?_ ?_ HST.o.res ?_);rfl;rfl;intro iG h9 g9;have vv:=ae h9;clear h9;have fB:=ae g9;clear g9)|go_values|go_skip|go_guarded|go_step|go_upon)
                (try simp only[Exit.inBlock,Exit.then])
                refine bodyPost_ret (CX vv.o _ _ false 2 3 Dc rfl rfl) rfl ⟨.inr ⟨xQ.o,rfl⟩,vM HST.o.below fB.o HST.o.below.size (aj _)⟩
       · have Ru:=aX
         clear aX;have lv:=ae Ru;clear Ru;go_wp2_with fail
         go_loopw [10,11] (fun rr t wr=>∃(j:Nat)(v:Int),j≤4∧d4.k+j≤s.size∧rr = .int .i64 v∧t = .int .i64 ((d4.k+j:Nat):Int)∧Hid (dG (d4.rest.take j)=v∧(∀x∈d4.rest.take j,isNum x=true))∧Hid (je w wr d1.sh 0 0 d1.mark d3.mark))
          (fun _ t _=>s.size - (intOf t).toNat)
         case atStart=>exact⟨0,0,by omega,by omega,rfl,rfl,ae ⟨rfl,by simp⟩,HST⟩
         case round =>
          clear HST;obtain⟨j,v,hj4,hjk,rfl,rfl,aW,HST⟩:=hrel;obtain⟨p,hp⟩:∃p:Nat,d4.k+j=p:=⟨_,rfl⟩;rw[hp];have hp2:p≤s.size:=by omega
          have hj:j<4∧p<s.size:=by
           refine Decidable.byContradiction fun hn=>lv.o ?_
           have he:d4.rest.take 4=d4.rest.take j:=by
            by_cases hj:j=4
            · rw[hj]
            · have hl:d4.rest.length≤j:=by rw[rM,qw.o];omega
              rw[mP hl,mP (by omega)]
           rw[he];exact aW.o.2
          obtain⟨hj,hlt⟩:=hj;have hvb:=Oo (d4.rest.take j) aW.o.2 (by rw[gW];omega);rw[aW.o.1]at hvb;have hki:(p:Int)<(s.size:Int):=by omega
          have hji:(p:Int)<(d4.k:Int)+4:=by omega
          obtain⟨a,ha⟩:∃a:Int,(s[p].toNat:Int)=a:=⟨_,rfl⟩;have ha1:0≤a∧a≤255:=by have:=s[p].toNat_lt;omega
          have hnx:=N8 d4 s j p a qw.o hp hlt ha;have eu:=ae hnx;clear hnx;have HP:=ae hp;clear hp;by_cases hc:isNum a=true
          · have hab:=jE hc
            go_wp2_with (go_at_call 81;((with_reducible refine(jG _ ?_ ?_ _).mono ?_);(try omega);(try omega);rintro e w' ⟨rfl,rfl⟩))
            go_roundw
            case rel=>exact⟨j+1,10*v+(a - 48),by omega,by have:=HP.o;omega,rfl,by rw[show d4.k+(j+1)=p+1 from by have:=HP.o;omega];rfl,ae ⟨by rw[eu.o.1,z8,aW.o.1],by rw[eu.o.1];exact ru aW.o.2 hc⟩,HST⟩
            case measure=>simp[intOf];omega
          · have hc':isNum a=false:=by simpa using hc
            clear hc
            have hno:iA s=none:=by
             cases hq:iA s with
             | none=>rfl
             | some d =>
               have h1:=(OG.o d hq).2.1 a (fe eu.o.2);rw[hc']at h1;cases h1
            have hnr:=Da s hno;have xQ:=ae hnr;clear hnr hno;go_upto_region 26 with (first|(go_at_call 81;((with_reducible refine(jG _ ?_ ?_ _).mono ?_);(try omega);(try omega);rintro e w' ⟨rfl,rfl⟩)))
            repeat (first|go_says ((with_reducible refine Du (op:=⟨none,.store 42 (.tmp 2) (.tmp 96),_,_,_,_⟩) rfl (.tmp 2) (.tmp 96) rfl w.heap.size _ _ _ _ _ ⟨#[]⟩ 0 0 false false ?_ ?_ HST.o.res ?_);rfl;rfl;intro iG h9 g9;have vv:=ae h9;clear h9;have fB:=ae g9;clear g9)|go_values|go_skip|go_guarded|go_step|go_upon)
            (try simp only[Exit.inBlock,Exit.then])
            refine bodyPost_ret (CX vv.o _ _ false 2 3 Dc rfl rfl) rfl ⟨.inr ⟨xQ.o,rfl⟩,vM HST.o.below fB.o HST.o.below.size (aj _)⟩
theorem V3 (s:ByteArray)(k:Nat)(h:k<s.size)(hk:k<(Rd.start s).bY.length):¬ ((s[k].toNat:Nat):Int)=33:=by
 intro h33
 have h1:=uW jZ (sb s) 33 (by
  have h2:=take_split jZ (sb s)
  have h3:((sb s).takeWhile jZ)[k]? = (sb s)[k]? := by
   conv=>rhs;rw[← h2]
   rw[List.getElem?_append_left (show k<((sb s).takeWhile jZ).length from hk)]
  rw[qN s k h,h33]at h3;exact fe h3)
 exact absurd h1 (by decide)
theorem V4 (s:ByteArray)(m:Nat)(hm:(Rd.start s).bY.length=m)(h:m<s.size):((s[m].toNat:Nat):Int)=33:=by
 have h1:=Fw jZ (sb s) ((s[m].toNat:Nat):Int) (by
  have h2:((sb s).takeWhile jZ).length=m:=hm;rw[h2,List.head?_drop,qN s m h])
 unfold jZ at h1
 simpa using h1
theorem aih (s:ByteArray):s.extract 0 (Rd.start s).bY.length=strOfNums (Rd.start s).bY:=by
 have h:=NK (Rd.start s);have h2:(sb s).take (Rd.start s).bY.length=(Rd.start s).bY:=h;rw[← nA (s.extract 0 (Rd.start s).bY.length)];congr 1;have e:=QP s 0 (Rd.start s).bY.length;rw[Nat.zero_add,List.drop_zero,h2]at e;exact e
theorem agS (s:ByteArray)(w:World)(_hs:s.size≤1000000)(hp:0<s.size)(h0:(Rd.start s).bY.length=0) :
 Calls Tryz.prog 55 #[.string s] w fun e w'=>oh (sb s) e∧Below w.heap.size w w':=by
 have hst:je w ((w.alloc (.cells Ad 42)).alloc (.cells Ad 42)) ⟨#[]⟩ 0 0 false false:=by
  have h0:=dz.new w ⟨#[]⟩ 0 0 false false;have hsz:(w.alloc (.cells Ad 42)).heap.size=w.heap.size+1:=by simp
  have h1:=dz.new (w.alloc (.cells Ad 42)) ⟨#[]⟩ 0 0 false false;rw[hsz]at h1;exact⟨h0.below ((ak _ _).alloc (aj _) _) h0.lt,h1,((ak _ _).alloc (aj _) _).alloc (by rw[hsz];omega) _⟩
 have hnr:Gf (sb s):=by
  apply Da
  have hsh:(Rd.start s).kZ=none:=by
   unfold Rd.kZ;rw[af (show ¬ (Rd.start s).bY.length=(Rd.start s).s.size by rw[h0];show ¬ 0=s.size;omega)];rw[kM h0];rfl
  unfold iA;rw[hsh];rfl
 have hb:=V4 s 0 h0 hp;obtain⟨a,ha⟩:∃a:Int,(s[0].toNat:Int)=a:=⟨_,rfl⟩;have hb2:(a == 33)=true:=bB.2 (by rw[← ha];exact hb);have hpi:(0:Int)<(s.size:Int):=by omega
 have HST:=ae hst;clear hst;have xQ:=ae hnr;clear hnr hb h0;go_enter Tryz.func55,Tryz.ntmps55;go_wp2_with fail
 go_loopw [3,5,6] (fun rk at_ i wr=>rk = .bool false∧at_ = .int .i64 0∧i = .int .i64 0∧Hid (je w wr ⟨#[]⟩ 0 0 false false))
  (fun _ _ i _=>s.size - (intOf i).toNat)
 case atStart=>exact⟨rfl,rfl,rfl,HST⟩
 case round =>
  clear HST;obtain⟨rfl,rfl,rfl,HST⟩:=hrel;obtain⟨x0,x1,x2,x3,x4⟩:=HST.o.ref.facts;clear x1 x2 x3 x4;have z0:=(HST.o.ref.frozen 0);have lZ:=je.set 0 HST.o (.string ByteArray.empty) ByteArray.empty 0 0 false false rfl;have Kj:=ae lZ;clear lZ;go_wp2_with ((with_reducible refine Du (op:=⟨none,.store 42 (.tmp 2) (.tmp 30),_,_,_,_⟩) rfl (.tmp 2) (.tmp 30) rfl w.heap.size _ _ _ _ _ ⟨#[]⟩ 0 0 false false ?_ ?_ Kj.o.res ?_);rfl;rfl;intro iG h9 g9;have vv:=ae h9;clear h9;have fB:=ae g9;clear g9)
  (try simp only[Exit.inBlock,Exit.then])
  exact bodyPost_ret (CX vv.o _ _ false 2 3 Dc rfl rfl) rfl ⟨.inr ⟨xQ.o,rfl⟩,vM Kj.o.below fB.o Kj.o.below.size (aj _)⟩
theorem Db (s:ByteArray)(w:World)(hs:s.size≤1000000) :
 Calls Tryz.prog 55 #[.string s] w fun e w'=>oh (sb s) e∧Below w.heap.size w w':=by
 by_cases hno:(Rd.start s).bY.length=s.size
 · refine Vm s w hs (Rd.start s) rfl (ek _) ?_ s.size (.inl ⟨rfl,rfl,rfl⟩) ?_
   · intro e he
     unfold Rd.kZ at he;rw[ag (show(Rd.start s).bY.length=(Rd.start s).s.size from hno)]at he;injection he with he;exact he.symm
   · intro k h hk;exact V3 s k h (by rw[hno];exact hk)
 · have hlt:(Rd.start s).bY.length<s.size:=NJ (Rd.start s) hno
   by_cases h0:(Rd.start s).bY.length=0
   · exact agS s w hs (by omega) h0
   · refine Vm s w hs { Rd.start s with sh:=s.extract 0 (Rd.start s).bY.length,k:=(Rd.start s).bY.length+1 } rfl hlt ?_ (Rd.start s).bY.length (.inr ⟨hlt,by omega,rfl,rfl,fun h=>V4 s _ rfl h⟩) (fun k h hk=>V3 s k h hk)
     intro e he;unfold Rd.kZ at he;rw[af (show ¬ (Rd.start s).bY.length=(Rd.start s).s.size from hno)]at he;by_cases hn:iI (Rd.start s).bY=true
     · rw[ag hn]at he;injection he with he;rw[← he,aih]
     · rw[af hn]at he;cases he
theorem ZM (s:ByteArray)(k:Nat)(h:k<s.size)(hx:(aU ((sb s).getD k 0)||isNum ((sb s).getD k 0))=false):jL (sb s)=false:=by
 unfold jL;rw[Bool.and_eq_false_iff];left;rw[jv];intro aX;have:=aX ((sb s).getD k 0) (by rw[uT s k h];exact fe (qN s k h));rw[hx]at this;cases this
theorem ZL (s:ByteArray)(h:∀j,j<s.size→(aU ((sb s).getD j 0)||isNum ((sb s).getD j 0))=true):jL (sb s)=(decide (1≤s.size∧s.size≤12)&&aU ((sb s).getD 0 0)):=by
 unfold jL;rw[aR (show ∀x∈sb s,(aU x||isNum x)=true from ?_),gV,bC];intro x hx;obtain⟨j,hj,rfl⟩:=List.mem_iff_getElem.1 hx;have:=h j (by rw[bC]at hj;exact hj);rw[kg,cZ hj]at this;exact this
theorem Ni (s:ByteArray)(w:World)(_hs:s.size≤1000000) :
 Calls Tryz.prog 56 #[.string s] w fun e w'=>e = .returned (.bool (jL (sb s)))∧w=w':=by
 go_enter Tryz.func56,Tryz.ntmps56;go_wp2_with fail
 go_loopw [3] (fun i wr=>∃k:Nat,k≤s.size∧i = .int .i64 k∧Hid (∀j,j<k→(aU ((sb s).getD j 0)||isNum ((sb s).getD j 0))=true)∧w=wr)
  (fun i _=>s.size - (intOf i).toNat)
 case atStart=>exact⟨0,by omega,rfl,ae (by intro j hj;omega),rfl⟩
 case round =>
  obtain⟨k,hk,rfl,HG,rfl⟩:=hrel;by_cases hlt:k<s.size
  · have hki:(k:Int)<(s.size:Int):=by omega
    obtain⟨a,ha⟩:∃a:Int,(s[k].toNat:Int)=a:=⟨_,rfl⟩;have ha1:0≤a∧a≤255:=by have:=s[k].toNat_lt;omega
    have xK:=ae (show(sb s).getD k 0=a by rw[uT s k hlt,ha])
    have ED:(aU a||isNum a)=true→∀j,j<k+1→(aU ((sb s).getD j 0)||isNum ((sb s).getD j 0))=true:=by
     intro h j hj;by_cases h1:j<k
     · exact HG.o j h1
     · rw[show j=k from by omega,xK.o];exact h
    have DZ:=ae ED;clear ED;cases hc:aU a
    · cases hn:isNum a
      · have dR:=ae (ZM s k hlt (by rw[xK.o,hc,hn];rfl))
        go_wp2_with (first
         | (go_at_call 79;((with_reducible refine(wC _ ?_ ?_ _).mono ?_);(try omega);(try omega);rintro e w' ⟨rfl,rfl⟩;rw[hc]))
         | (go_at_call 81;((with_reducible refine(jG _ ?_ ?_ _).mono ?_);(try omega);(try omega);rintro e w' ⟨rfl,rfl⟩;rw[hn])))
        go_ret;exact⟨gu dR.o.symm,rfl⟩
      · go_wp2_with (first
         | (go_at_call 79;((with_reducible refine(wC _ ?_ ?_ _).mono ?_);(try omega);(try omega);rintro e w' ⟨rfl,rfl⟩;rw[hc]))
         | (go_at_call 81;((with_reducible refine(jG _ ?_ ?_ _).mono ?_);(try omega);(try omega);rintro e w' ⟨rfl,rfl⟩;rw[hn])))
        go_roundw
        case rel=>exact⟨k+1,by omega,by go_num,ae (DZ.o (by rw[hc,hn];rfl)),by trivial⟩
        case measure=>simp[intOf];omega
    · go_wp2_with (first
       | (go_at_call 79;((with_reducible refine(wC _ ?_ ?_ _).mono ?_);(try omega);(try omega);rintro e w' ⟨rfl,rfl⟩;rw[hc])))
      go_roundw
      case rel=>exact⟨k+1,by omega,by go_num,ae (DZ.o (by rw[hc];rfl)),by trivial⟩
      case measure=>simp[intOf];omega
  · have hki:¬ (k:Int)<(s.size:Int):=by omega
    have HA:=ae (ZL s (fun j hj=>HG.o j (by omega)));by_cases h1:1≤s.size∧s.size≤12
    · have hi1:(1:Int)≤(s.size:Int):=by omega
      have hi2:(s.size:Int)≤12:=by omega
      have hp0:0<s.size:=by omega
      obtain⟨a,ha⟩:∃a:Int,(s[0].toNat:Int)=a:=⟨_,rfl⟩;have ha1:0≤a∧a≤255:=by have:=s[0].toNat_lt;omega
      rw[aR h1,gV,uT s 0 hp0,ha]at HA
      go_wp2_with (first
       | (go_at_call 79;((with_reducible refine(wC _ ?_ ?_ _).mono ?_);(try omega);(try omega);rintro e w' ⟨rfl,rfl⟩)))
      go_ret;exact⟨gu HA.o.symm,rfl⟩
    · rw [aV h1,Bool.false_and]at HA
      by_cases h0:1≤s.size
      · have hi1:(1:Int)≤(s.size:Int):=by omega
        have hi2:¬ (s.size:Int)≤12:=by omega
        go_wp2_with fail
        go_ret;exact⟨gu HA.o.symm,rfl⟩
      · have hi1:¬ (1:Int)≤(s.size:Int):=by omega
        go_wp2_with fail
        go_ret;exact⟨gu HA.o.symm,rfl⟩
theorem agx (k:Int)(w:World):Calls Tryz.prog 28 #[.int .i64 k] w fun e w'=>e = .returned (.int .i64 (jT k))∧w=w':=by
 have fin:∀r:Int,jT k=r→(Calls Tryz.prog 28 #[.int .i64 k] w fun e w'=>e = .returned (.int .i64 r)∧w=w')→Calls Tryz.prog 28 #[.int .i64 k] w fun e w'=>e = .returned (.int .i64 (jT k))∧w=w':=fun r h g=>by rw[h];exact g
 by_cases h1:1≤k
 · by_cases h6:k≤6
   · refine fin 0 (by unfold jT;rw[ag ⟨h1,h6⟩]) ?_
     go_enter Tryz.func28,Tryz.ntmps28;go_wp2_with fail
     go_ret;exact⟨rfl,rfl⟩
   · by_cases h7:k=7
     · have e7:(k == 7)=true:=bB.2 h7
       refine fin (-1) (by unfold jT;rw[af (by omega),ag h7]) ?_;clear h7;go_enter Tryz.func28,Tryz.ntmps28;go_wp2_with fail
       go_ret;exact⟨rfl,rfl⟩
     · have e7:(k == 7)=false:=aA.2 h7
       by_cases h8:k=8
       · have e8:(k == 8)=true:=bB.2 h8
         refine fin 1 (by unfold jT;rw[af (by omega),af h7,ag h8]) ?_;clear h7 h8;go_enter Tryz.func28,Tryz.ntmps28;go_wp2_with fail
         go_ret;exact⟨rfl,rfl⟩
       · have e8:(k == 8)=false:=aA.2 h8
         have h9:9≤k:=by omega
         by_cases h19:k≤19
         · refine fin 2 (by unfold jT;rw[af (by omega),af h7,af h8,ag ⟨h9,h19⟩]) ?_
           clear h7 h8;go_enter Tryz.func28,Tryz.ntmps28;go_wp2_with fail
           go_ret;exact⟨rfl,rfl⟩
         · refine fin (-2) (by unfold jT;rw[af (by omega),af h7,af h8,af (by omega)]) ?_
           clear h7 h8;go_enter Tryz.func28,Tryz.ntmps28;go_wp2_with fail
           go_ret;exact⟨rfl,rfl⟩
 · have e7:(k == 7)=false:=aA.2 (by omega)
   have e8:(k == 8)=false:=aA.2 (by omega);have h9:¬ 9≤k:=by omega
   refine fin (-2) (by unfold jT;rw[af (by omega),af (by omega),af (by omega),af (by omega)]) ?_;go_enter Tryz.func28,Tryz.ntmps28;go_wp2_with fail
   go_ret;exact⟨rfl,rfl⟩
theorem rV (f:bL)(w:World):Calls Tryz.prog 53 #[.agg #[.string f.sh,.int .i64 f.c,.int .i64 f.r,.bool f.ac,.bool f.ar]] w fun e w'=>e = .returned (.bool (fQ f))∧Below w.heap.size w w':=by
 have HN:=ae (MP f);have hx:=dz.new w f.sh f.c f.r f.ac f.ar;have HB:=ae ((ak w.heap.size w).alloc (aj _) (.cells #[.string f.sh,.int .i64 f.c,.int .i64 f.r,.bool f.ac,.bool f.ar] 42));go_enter Tryz.func53,Tryz.ntmps53;go_upto_region 1 with (fail)
 generalize w.alloc (.cells #[.string f.sh,.int .i64 f.c,.int .i64 f.r,.bool f.ac,.bool f.ar] 42)=w1 at hx HB ⊢;obtain⟨x0,x1,x2,x3,x4⟩:=hx.facts;clear hx;have yS:=ae (fun (h1:f.sh.toList=[])(h2:f.c=0)(h3:f.r=0)(h4:f.ac=false)(h5:f.ar=false)=>(aaG (a:=f) (b:=bL.zero) (h1.trans pU.symm) h2 h3 h4 h5));go_wp2_with fail
 all_goals go_ret
 all_goals first
  | (have hv:iw f bL.zero=true:=yS.o ‹f.sh.toList=[]› ‹f.c=0› ‹f.r=0› (by simpa using ‹¬ f.ac=true›) (by simpa using ‹¬ f.ar=true›)
     exact⟨by rw[HN.o,hv];rfl,HB.o⟩)
  | (have hv:iw f bL.zero=false:=by
      cases hq:iw f bL.zero
      · rfl
      · exfalso
        have hz:=(En f bL.zero).1 hq;clear x0 x1 x2 x3 x4 yS HN hq;subst hz
        first
         | exact absurd (show bL.zero.sh.toList=[]from pU) ‹¬ bL.zero.sh.toList=[]›
         | exact absurd (show bL.zero.c=0 from rfl) ‹¬ bL.zero.c=0›
         | exact absurd (show bL.zero.r=0 from rfl) ‹¬ bL.zero.r=0›
         | exact absurd ‹bL.zero.ac=true› (by decide)
         | exact absurd ‹bL.zero.ar=true› (by decide)
     exact⟨by rw[HN.o,hv];rfl,HB.o⟩)
theorem agP (s:ByteArray)(w:World)(_hs:s.size≤1000000):Calls Tryz.prog 54 #[.string s] w fun e w'=>e = .returned (.bool (mM (sb s)))∧w=w':=by
 go_enter Tryz.func54,Tryz.ntmps54;go_wp2_with fail
 go_loopw [3] (fun i wr=>∃k:Nat,k≤s.size∧i = .int .i64 k∧Hid (∀(j:Nat)(hj:j<s.size),j<k→¬ ((s[j].toNat:Nat):Int)<32)∧w=wr)
  (fun i _=>s.size - (intOf i).toNat)
 case atStart=>exact⟨0,by omega,rfl,ae (by intro j _ hj;omega),rfl⟩
 case round =>
  obtain⟨k,hk,rfl,HG,rfl⟩:=hrel;by_cases hlt:k<s.size
  · have hki:(k:Int)<(s.size:Int):=by omega
    obtain⟨a,ha⟩:∃a:Int,(s[k].toNat:Int)=a:=⟨_,rfl⟩;have ha1:0≤a∧a≤255:=by have:=s[k].toNat_lt;omega
    have HA:=ae ha;by_cases h32:a<32
    · have HB:=ae (UW s k hlt (by rw[ha];exact h32))
      go_wp2_with fail
      go_ret;exact⟨by rw[HB.o] <;> rfl,rfl⟩
    · go_wp2_with fail
      go_roundw
      case rel =>
       refine⟨k+1,by omega,by go_num,ae ?_,by first|rfl|trivial⟩;intro j hj hjk;by_cases e:j=k
       · subst e;rw[HA.o];exact h32
       · exact HG.o j hj (by omega)
      case measure=>simp[intOf];omega
  · have hki:¬ (k:Int)<(s.size:Int):=by omega
    have HB:=ae (UU s (fun j hj=>HG.o j hj (by omega)));go_wp2_with fail
    go_ret;exact⟨by rw[HB.o] <;> rfl,rfl⟩
theorem Vn (s1 s2:ByteArray)(c1 r1 c2 r2:Int)(a1 b1 a2 b2:Bool)(w:World) :
 Calls Tryz.prog 57 #[.agg #[.string s1,.int .i64 c1,.int .i64 r1,.bool a1,.bool b1],.agg #[.string s2,.int .i64 c2,.int .i64 r2,.bool a2,.bool b2]] w fun e w'=>e = .returned (.bool (fI ⟨s1,c1,r1,a1,b1⟩ ⟨s2,c2,r2,a2,b2⟩))∧Below w.heap.size w w':=by
 have hsz:(w.alloc (.cells #[.string s1,.int .i64 c1,.int .i64 r1,.bool a1,.bool b1] 42)).heap.size=w.heap.size+1:=by simp
 have h1:=dz.new w s1 c1 r1 a1 b1;have h2:=dz.new (w.alloc (.cells #[.string s1,.int .i64 c1,.int .i64 r1,.bool a1,.bool b1] 42)) s2 c2 r2 a2 b2;have h3:=h1.below ((ak _ _).alloc (aj _) (.cells #[.string s2,.int .i64 c2,.int .i64 r2,.bool a2,.bool b2] 42)) h1.lt;rw[hsz]at h2;have HB:=ae (((ak w.heap.size w).alloc (aj _) (.cells #[.string s1,.int .i64 c1,.int .i64 r1,.bool a1,.bool b1] 42)).alloc (by simp) (.cells #[.string s2,.int .i64 c2,.int .i64 r2,.bool a2,.bool b2] 42));have HS:=ae (show fI ⟨s1,c1,r1,a1,b1⟩ ⟨s2,c2,r2,a2,b2⟩=(decide (s2=⟨#[]⟩)&&(decide (c1≤c2)&&decide (r1≤r2)))from rfl);clear h1;go_enter Tryz.func57,Tryz.ntmps57;go_upto_region 1 with (fail)
 generalize (w.alloc (.cells #[.string s1,.int .i64 c1,.int .i64 r1,.bool a1,.bool b1] 42)).alloc (.cells #[.string s2,.int .i64 c2,.int .i64 r2,.bool a2,.bool b2] 42)=w1 at h2 h3 HB ⊢;obtain⟨x0,x1,x2,x3,x4⟩:=h2.facts;obtain⟨y0,y1,y2,y3,y4⟩:=h3.facts;clear h2 h3;by_cases hs:s2=⟨#[]⟩
 · subst hs
   have e0:=pU;by_cases hc:c1≤c2
   · by_cases hr:r1≤r2
     · have HT:=ae (show fI ⟨s1,c1,r1,a1,b1⟩ ⟨⟨#[]⟩,c2,r2,a2,b2⟩=true by rw[HS.o,aR hc,aR hr];rfl)
       go_wp2_with fail
       go_ret;exact⟨by rw[HT.o];rfl,HB.o⟩
     · have HT:=ae (show fI ⟨s1,c1,r1,a1,b1⟩ ⟨⟨#[]⟩,c2,r2,a2,b2⟩=false by rw[HS.o,aR hc,aV hr];rfl)
       go_wp2_with fail
       go_ret;exact⟨by rw[HT.o];rfl,HB.o⟩
   · have HT:=ae (show fI ⟨s1,c1,r1,a1,b1⟩ ⟨⟨#[]⟩,c2,r2,a2,b2⟩=false by rw[HS.o,aV hc];rfl)
     go_wp2_with fail
     go_ret;exact⟨by rw[HT.o];rfl,HB.o⟩
 · have HT:=ae (show fI ⟨s1,c1,r1,a1,b1⟩ ⟨s2,c2,r2,a2,b2⟩=false by rw[HS.o,aV hs];rfl)
   have e0:¬ s2.toList=[]:=by rw[← pU];exact pg _ _ hs
   have e1:s2.toList.isEmpty=false:=by simpa using e0
   clear hs;go_wp2_with fail
   go_ret;exact⟨by rw[HT.o];rfl,HB.o⟩
theorem Jj {P:Program}{size t e bytes:Nat}{ops:Array Oper}{rest:List Oper}{o:Oper}{a:Act}{Q:Exit→Act→World→Prop}(df:Elem P t e size bytes)(E:Enc α size)
 (hgd:o.guard=none) (s x:Operand) (ho:o.op = .call { callee := .builtin .append,args:=#[s,x],argTypes:=#[t,t] }) (ao:Option Addr) (n cap:Nat) (xs:List α)
 (hs:a.eval s = .slice ao n cap) (ace:ao=none→n=0∧cap=0) (hxl:xs.length=n) (hxs:∀b,ao=some b→∀(j:Nat)(u:Value),(E.all xs)[j]? = some u→w.cell? (b.add j)=some u)
 (ad:Addr) (m c:Nat) (ys:List α) (hx:a.eval x = .slice (some ad) m c) (hl:ys.length=m)
 (hc:∀(j:Nat)(u:Value),(E.all ys)[j]? = some u→w.cell? (ad.add j)=some u) (LA:cap<n+m) (hb:(n+m)*bytes≤140737488355328) (hb2:n+m≤maxLen)
 (h:∀(v':Value)(w':World),Own E e w' w.heap.size v' (xs++ys)→Below w.heap.size w w'→wpList P ops Q rest (a.put o.dst v') w'):wpList P ops Q (o :: rest) a w:=by
 obtain⟨z,hi,hz⟩:=df.inf;obtain⟨i,hi1,hi2,hi3,hi4⟩:=info_parts hi;refine wpList_append_grows w hgd s x t ho e i z size bytes df.und hi1 hi2 hi3 hi4 hz df.pos ao n cap (E.all xs) hs ace (by rw[E.mK,hxl]) hxs ad m c (E.all ys) hx (by rw[E.mK,hl]) hc (E.xm ys) LA hb2 hb ?_;intro v' w' h1 h2;refine h v' w' ?_ ?_
 · unfold Own;rw[E.all_append,ax,hxl,hl];exact h1
 · exact Below.grown (ak _ _) h2 (aj _) (fun k hk=>by cases hk)
theorem afe:dD n=(aO n&&(decide (jT n.kind = -1)||decide (jT n.kind=n.kids.length))):=rfl
theorem aau {st:List Int}{j:Nat}(h:(st.drop f).take j=ks.take j)(hx:st[f+j]? = some x)(hy:ks[j]? = some x):(st.drop f).take (j+1)=ks.take (j+1) :=
 N9 h (by rw[List.getElem?_drop];exact hx) hy
theorem aat {st:List Int}{j:Nat}{y:Int}(hx:st[f+j]? = some x)(hy:ks[j]? = some y)(h:¬ x=y):¬ st.drop f=ks:=by
 intro e;have h1:(st.drop f)[j]? = some x:=by rw[List.getElem?_drop];exact hx
 rw[e,hy]at h1;exact h (dM h1).symm
theorem II (k:Int)(w:World):Calls Tryz.prog 33 #[.int .i64 k] w fun e w'=>e = .returned (.int .i64 ((bM k:Nat)+1:Int))∧w=w':=by
 have fin:∀r:Nat,bM k=r→(Calls Tryz.prog 33 #[.int .i64 k] w fun e w'=>e = .returned (.int .i64 ((r:Int)+1))∧w=w')→Calls Tryz.prog 33 #[.int .i64 k] w fun e w'=>e = .returned (.int .i64 ((bM k:Nat)+1:Int))∧w=w':=fun r h1 h2=>by rw[h1];exact h2
 by_cases h:9≤k∧k≤14
 · obtain⟨h1,h2⟩:=h
   refine fin 0 (by unfold bM;rw[ag ⟨h1,h2⟩]) ?_;clear fin;go_enter Tryz.func33,Tryz.ntmps33;go_wp2_with fail
   go_ret;exact⟨rfl,rfl⟩
 by_cases h15:k=15
 · refine fin 1 (by subst h15;rfl) ?_
   clear fin;subst h15;go_enter Tryz.func33,Tryz.ntmps33;go_wp2_with fail
   go_ret;exact⟨rfl,rfl⟩
 by_cases h16:k=16
 · refine fin 2 (by subst h16;rfl) ?_
   clear fin;subst h16;go_enter Tryz.func33,Tryz.ntmps33;go_wp2_with fail
   go_ret;exact⟨rfl,rfl⟩
 by_cases h17:k=17
 · refine fin 2 (by subst h17;rfl) ?_
   clear fin;subst h17;go_enter Tryz.func33,Tryz.ntmps33;go_wp2_with fail
   go_ret;exact⟨rfl,rfl⟩
 by_cases h18:k=18
 · refine fin 3 (by subst h18;rfl) ?_
   clear fin;subst h18;go_enter Tryz.func33,Tryz.ntmps33;go_wp2_with fail
   go_ret;exact⟨rfl,rfl⟩
 by_cases h19:k=19
 · refine fin 3 (by subst h19;rfl) ?_
   clear fin;subst h19;go_enter Tryz.func33,Tryz.ntmps33;go_wp2_with fail
   go_ret;exact⟨rfl,rfl⟩
 by_cases h8:k=8
 · refine fin 4 (by subst h8;rfl) ?_
   clear fin;subst h8;go_enter Tryz.func33,Tryz.ntmps33;go_wp2_with fail
   go_ret;exact⟨rfl,rfl⟩
 refine fin 5 (by unfold bM;rw[af h,af h15,af (by omega),af (by omega),af h8]) ?_;have e15:(k == 15)=false:=aA.2 h15;have e16:(k == 16)=false:=aA.2 h16;have e17:(k == 17)=false:=aA.2 h17;have e18:(k == 18)=false:=aA.2 h18;have e19:(k == 19)=false:=aA.2 h19;have e8:(k == 8)=false:=aA.2 h8;clear fin h15 h16 h17 h18 h19 h8;by_cases h9:9≤k
 · have h14:¬ k≤14:=by omega
   clear h;go_enter Tryz.func33,Tryz.ntmps33;go_wp2_with fail
   go_ret;exact⟨rfl,rfl⟩
 · clear h
   go_enter Tryz.func33,Tryz.ntmps33;go_wp2_with fail
   go_ret;exact⟨rfl,rfl⟩
theorem agK (o:Nat)(ho:o<11)(w:World):Calls Tryz.prog 34 #[.int .i64 (9+(o:Int))] w fun e w'=>e = .returned (.string (j3.getD o ⟨#[]⟩))∧Below w.heap.size w w':=by
 have h:o=0∨o=1∨o=2∨o=3∨o=4∨o=5∨o=6∨o=7∨o=8∨o=9∨o=10:=by omega
 rcases h with rfl|rfl|rfl|rfl|rfl|rfl|rfl|rfl|rfl|rfl|rfl
 all_goals
  go_enter Tryz.func34,Tryz.ntmps34;go_wp2_with fail
  go_ret;exact⟨rfl,(ak _ _).alloc (aj _) _⟩
theorem afM (w:World)(base:Nat)(x:Int)(hb:base≤w.heap.size):Own (aJ .u8) 5 (w.alloc (.cells #[.int .u8 x] 5)) base (.slice (some ⟨w.heap.size,0,none⟩) 1 1) [x] :=
 ⟨rfl,.inr ⟨w.heap.size,1,_,rfl,hb,(lu w _).1,aj _,by decide,rfl,rfl⟩⟩
theorem aam(x:Int)(l:List Int):fw (x :: l)=(if x=34 then [34,34]else [x])++fw l:=rfl
theorem agQ (s:ByteArray)(w:World)(hs:s.size≤1000000000):Calls Tryz.prog 30 #[.string s] w fun e w'=>e = .returned (.string (strOfNums (34 :: (fw (sb s)++[34]))))∧Below w.heap.size w w':=by
 go_enter Tryz.func30,Tryz.ntmps30;go_upto_region 3 with (fail)
 go_loopw [3,4] (fun ov iv wr=>∃(i:Nat)(xs:List Int),i≤s.size∧xs.length≤1+2*i∧iv = .int .i64 (i:Int)∧Hid (xs++fw (aL s i)=34 :: fw (sb s))∧Hid (qz wr w.heap.size ov xs)∧Hid (Below w.heap.size w wr))
  (fun _ iv _=>s.size - (intOf iv).toNat)
 case atStart=>exact⟨0,[34],ek _,by simp,rfl,ae rfl,ae (afM w _ 34 (aj _)),ae ((ak _ _).alloc (aj _) _)⟩
 case round =>
  obtain⟨i,xs,hi,hxl,rfl,HD,HO,HB⟩:=hrel;by_cases hlt:i<s.size
  · have hii:(i:Int)<(s.size:Int):=by omega
    obtain⟨a,ha⟩:∃a:Int,(s[i].toNat:Int)=a:=⟨_,rfl⟩;have ha1:0≤a∧a≤255:=by have:=s[i].toNat_lt;omega
    have HR:=ae (show fw (aL s i)=(if a=34 then [34,34]else [a])++fw (aL s (i+1))by rw[nO s i hlt,aam,ha]);by_cases h34:a=34
    · have AY:(a == 34)=true:=bB.2 h34
      have HX:=ae (show((xs++[34])++[a])++fw (aL s (i+1))=34 :: fw (sb s)by rw[← HD.o,HR.o,ag h34,h34];simp);clear h34 HD HR
      go_wp2_with (first
       | (at_builtin;refine oL Elem.u8 (aJ .u8) rfl (.tmp 16) (.tmp 17) rfl w.heap.size _ _ rfl (HO.o.alloc _) ⟨_,0,none⟩ 1 1 [34] rfl rfl ?_ ?_ ?_ ?_ ?_;exact gD _ _ _ rfl;(first|omega|(simp only[ax,bf,dX];omega));(unfold maxLen;first|omega|(simp only[ax,bf,dX];omega));(have:=HB.o.size;simp <;> omega);intro v1 w1 h1 h2;have fZ:=ae h1;have HB1:=ae ((HB.o.alloc HB.o.size _).trans h2);clear h1 h2)
       | (at_builtin;refine oL Elem.u8 (aJ .u8) rfl (.tmp 19) (.tmp 23) rfl w.heap.size _ _ rfl (fZ.o.alloc _) ⟨_,0,none⟩ 1 1 [a] rfl rfl ?_ ?_ ?_ ?_ ?_;exact gD _ _ _ rfl;(first|omega|(simp only[ax,bf,dX];omega));(unfold maxLen;first|omega|(simp only[ax,bf,dX];omega));(have:=HB1.o.size;simp <;> omega);intro v2 w2 h1 h2;have nW:=ae h1;have HB2:=ae ((HB1.o.alloc HB1.o.size _).trans h2);clear h1 h2))
      go_roundw
      case rel=>exact⟨i+1,_,by omega,by simp;omega,by go_num,HX,nW,HB2⟩
      case measure=>simp[intOf];omega
    · have AY:(a == 34)=false:=aA.2 h34
      have HX:=ae (show(xs++[a])++fw (aL s (i+1))=34 :: fw (sb s)by rw[← HD.o,HR.o,af h34];simp);clear h34 HD HR;go_wp2_with ((at_builtin;refine oL Elem.u8 (aJ .u8) rfl (.tmp 19) (.tmp 23) rfl w.heap.size _ _ rfl (HO.o.alloc _) ⟨_,0,none⟩ 1 1 [a] rfl rfl ?_ ?_ ?_ ?_ ?_;exact gD _ _ _ rfl;(first|omega|(simp only[ax,bf,dX];omega));(unfold maxLen;first|omega|(simp only[ax,bf,dX];omega));(have:=HB.o.size;simp <;> omega);intro v1 w1 h1 h2;have fZ:=ae h1;have HB1:=ae ((HB.o.alloc HB.o.size _).trans h2);clear h1 h2))
      go_roundw
      case rel=>exact⟨i+1,_,by omega,by simp;omega,by go_num,HX,fZ,HB1⟩
      case measure=>simp[intOf];omega
  · have hii:¬ (i:Int)<(s.size:Int):=by omega
    have HX:=ae (show xs++[34]=34 :: (fw (sb s)++[34])by
     have:=HD.o;rw[Fb s i (by omega)]at this;rw[show xs=34 :: fw (sb s)from(gL xs).symm.trans this];rfl)
    clear HD;go_wp2_with (at_builtin;refine oL Elem.u8 (aJ .u8) rfl (.tmp 25) (.tmp 26) rfl w.heap.size _ _ rfl (HO.o.alloc _) ⟨_,0,none⟩ 1 1 [34] rfl rfl ?_ ?_ ?_ ?_ ?_;exact gD _ _ _ rfl;(first|omega|(simp only[ax,bf,dX];omega));(unfold maxLen;first|omega|(simp only[ax,bf,dX];omega));(have:=HB.o.size;simp <;> omega);intro v1 w1 h1 h2;have fZ:=ae h1;have HB1:=ae ((HB.o.alloc HB.o.size _).trans h2);clear h1 h2;have hcv:=Dj fZ.o)
    go_ret;exact⟨nu (congrArg strOfNums HX.o),HB1.o⟩
theorem Own.si {lo:Nat}{xs:List Int}(h:Own (aJ .i64) 3 w lo v xs):ic w w.heap.size v xs:=by
 rcases h.shape with ⟨rfl,rfl⟩|⟨g,cap,rfl,h1,h2,h3,h4⟩
 · exact⟨none,0,rfl,aj _,by unfold maxLen;omega,.inl rfl⟩
 · refine⟨_,cap,rfl,h3,h4,.inr ⟨g,0,rfl,h2,fun j x hj => ?_⟩⟩
   rw[Nat.zero_add];have:=(aJ .i64).at xs j 0 x hj (by omega);rw[Nat.mul_one,Nat.add_zero]at this;exact Own.cells h j _ (by rw[this];rfl)
theorem kG.sn {lo g n cap:Nat}{vs:List aK}(h:kG w lo (.slice (some ⟨g,0,none⟩) n cap) vs)(hn:vs.length=n):dN w w.heap.size (.slice (some ⟨g,0,none⟩) n cap) (vs.map fun v=>(v.n,v.aY)):=by
 refine⟨⟨_,cap,by rw[eF,hn],.inr ⟨g,0,rfl,(Own.kT h.1 g rfl).2.1,fun i nd k hi j hj => ?_⟩⟩, ?_⟩
 · rw[gY]at hi
   obtain⟨v,hv,e⟩:=Option.map_eq_some_iff.1 hi;injection e with e1 e2;subst e1;subst e2;rw[Nat.zero_add];exact h.cell i v hv j hj
 · intro p hp
   obtain⟨v,hv,rfl⟩:=List.mem_map.1 hp;exact(h.2 v hv).si
theorem NR(vs:List aK):(vs.map fun v=>(v.n,v.aY)).map (·.1)=vs.map aK.n:=by rw[List.map_map];rfl
theorem takeN {xs ys:List α}{k:Nat}{x : α}(h:xs.take k=ys.take k)(hx:xs[k]? = some x)(hy:ys[k]? = some x):xs.take (k+1)=ys.take (k+1):=by
 rw[List.take_add_one,List.take_add_one,h,hx,hy]
theorem dN.rO (h:dN w B v vs):∃A cap,v = .slice A vs.length cap:=by
 obtain⟨⟨A,cap,h,_⟩,_⟩:=h;exact⟨A,cap,h⟩
theorem dN.cellAt {A:Option Addr}{L cap:Nat}(h:dN w B (.slice A L cap) vs)(hi:vs[i]? = some (n,k)):ic w B k n.kids∧∃pb po,A=some ⟨pb,po,none⟩∧pb<B∧∀j,j<14→w.cell? ⟨pb,po+i*14+j,none⟩=(bA n k).toList[j]? := by
 obtain⟨⟨A',qA,h1,h2⟩,h3⟩:=h;injection h1 with e1 e2 e3;subst e1;refine⟨h3 _ (fe hi), ?_⟩;rcases h2 with rfl|⟨pb,po,e1,e2,e3⟩
 · simp at hi
 · exact⟨pb,po,e1,e2,e3 i n k hi⟩
theorem Oc {a b:ByteArray}(h:a.toList=b.toList):a=b:=by
 rw[ByteArray.toList_eq,ByteArray.toList_eq,Array.toList_inj]at h;cases a;cases b;simp only at h;rw[h]
theorem ae3 {a c:Nd}(h0:a.kind=c.kind)(h1:a.num=c.num)(h2:a.text.toList=c.text.toList)(h3:a.ref.sh.toList=c.ref.sh.toList)(h4:a.ref.c=c.ref.c)(h5:a.ref.r=c.ref.r)(h6:a.ref.ac=c.ref.ac)(h7:a.ref.ar=c.ref.ar)
 (h8:a.ai.sh.toList=c.ai.sh.toList) (h9:a.ai.c=c.ai.c) (h10:a.ai.r=c.ai.r) (h11:a.ai.ac=c.ai.ac) (h12:a.ai.ar=c.ai.ar) (h13:a.kids=c.kids):a=c:=by
 obtain⟨k,n,t,⟨r1,r2,r3,r4,r5⟩,⟨t1,t2,t3,t4,t5⟩,ks⟩:=a;obtain⟨k',n',t',⟨r1',r2',r3',r4',r5'⟩,⟨t1',t2',t3',t4',t5'⟩,ks'⟩:=c;have g2:=Oc h2;have g3:=Oc h3;have g8:=Oc h8;dsimp only at h0 h1 g2 g3 h4 h5 h6 h7 g8 h9 h10 h11 h12 h13;subst h0;subst h1;subst g2;subst g3;subst h4;subst h5;subst h6;subst h7;subst g8;subst h9;subst h10;subst h11;subst h12;subst h13;rfl
theorem Dr (w:World)(a c:Nd)(ka kc:Value):az ((w.alloc (.cells (bA a ka) 44)).alloc (.cells (bA c kc) 44)).drew w.heap.size a ka∧az ((w.alloc (.cells (bA a ka) 44)).alloc (.cells (bA c kc) 44)).drew (w.heap.size+1) c kc∧Below w.heap.size w ((w.alloc (.cells (bA a ka) 44)).alloc (.cells (bA c kc) 44)).drew:=by
 have hs:(w.alloc (.cells (bA a ka) 44)).heap.size=w.heap.size+1:=by simp
 have h1:=az.new w a ka;have h2:=az.new (w.alloc (.cells (bA a ka) 44)) c kc;rw[hs]at h2;exact⟨h1.below ((ak _ _).alloc (aj _) _).drew h1.lt,h2,(((ak _ _).alloc (aj _) _).alloc (by omega) _).drew⟩
structure oV (w:World)(v:Value)(l:List (Nd × Value))(ns:List Nd):Prop where
 sn:dN w w.heap.size v l
 map:l.map (·.1)=ns
 tree:dA ns=true
 few:l.length≤1000
 sizes:∀q∈l,q.1.text.size≤1000000∧q.1.ref.sh.size≤1000000∧q.1.ai.sh.size≤1000000
 yG:∀q∈l,q.1.num≤9223372036854775807
theorem oV.node (h:oV w v l ns)(hi:l[i]? = some (n,k)):nodeAt ns (i:Int)=n∧i<ns.length:=by
 rw[← h.map];have hl:=(eQ.1 hi).1;refine⟨?_,by rw[eF];exact hl⟩;unfold nodeAt;rw[show((i:Int)).toNat=i by omega,kg,gY,hi];rfl
theorem oV.leaf (h:oV w v l ns)(hi:l[i]? = some (n,k)):dD n=true:=by
 obtain⟨h1,h2⟩:=h.node hi;have:=(zZ h.tree (i:=(i:Int)) (by omega) (by omega)).1;rw[h1]at this;exact this
def ShR(ns:List Nd)(i:Nat)(w1:World)(e:Ending)(w':World):Prop:=e = .returned (.string (strOfNums (bJ ns (i:Int))))∧Below w1.heap.size w1 w'
theorem ain (C:oV w v l ns)(i:Nat)(n:Nd)(k:Value)(hi:l[i]? = some (n,k))(hk:n.kind=1)(w1:World)(hb:Below w.heap.size w w1) :
 Calls Tryz.prog 18 #[v,.int .i64 (i:Int)] w1 (ShR ns i w1):=by
 obtain⟨iE,hil⟩:=C.node hi;have hlf:=C.leaf hi;have bW:=fe hi;have hll:i<l.length:=(eQ.1 hi).1;obtain⟨hz1,hz2,hz3⟩:=(show n.text.size≤1000000∧n.ref.sh.size≤1000000∧n.ai.sh.size≤1000000 from C.sizes _ bW);have bP:n.num≤9223372036854775807:=C.yG _ bW;have kW:=C.few;have HC:=ae C;obtain⟨A,cap,rfl⟩:=C.sn.rO;obtain⟨hsk,pb,po,rfl,hpb,hcell⟩:=C.sn.cellAt hi;obtain⟨bD,ck,hkk,hkc,dL,jk⟩:=id hsk;obtain⟨m,hm⟩:∃m,n.kids.length=m:=⟨_,rfl⟩;rw[hm]at hkk hkc;subst hkk;obtain⟨nl,hnl⟩:∃nl,l.length=nl:=⟨_,rfl⟩;rw[hnl]at hll kW ⊢;have hii:(i:Int)<(nl:Int):=by omega
 have hi0:(0:Int)≤(i:Int):=by omega
 have hmx:m≤9223372036854775807:=by unfold maxLen at dL;omega
 have HM:=ae hm;have jI:=ae hnl;have sF:=ae jk;have fC:=ae iE;have tY:=ae hlf;have wL:=ae hkc;have HB:=ae hb;have kR:=ae (wE C.tree (i:=(i:Int)) (by omega) (by omega) n iE);obtain⟨k0,k1,k2,k3,k4,k5,k6,k7,k8,k9,k10,k11,k12,k13⟩:=qB hb hpb hcell;have HK:=ae hk;obtain⟨u,hu⟩:∃u:Nat,n.num=(u:Int):=⟨n.num.toNat,by have:=adE (rz hlf).2.2.2.2.2 hk;omega⟩;have HT:=ae (show bJ ns (i:Int)=bn u by rw[kR.o,ag hk,hu];rfl);have HU:=ae hu;have Me:u≤9223372036854775807:=by omega
 clear hu;clear hk;have hB3:Below w1.heap.size w1 (w1.alloc (.cells (aB n (.slice bD m ck)) 44)):=(ak _ _).alloc (aj _) _;have aM:az (w1.alloc (.cells (aB n (.slice bD m ck)) 44)) w1.heap.size n (.slice bD m ck):=az.new w1 n _;have HB3:=ae hB3;clear hB3 C hi bW hcell jk hkc dL hm hnl iE hlf hsk hb;go_enter Tryz.func18,Tryz.ntmps18;go_upto_region 2 with (fail)
 generalize hb3:w1.heap.size=b3 at aM ⊢;generalize w1.alloc (.cells (aB n (.slice bD m ck)) 44)=w3 at aM HB3 ⊢;clear hb3 k0 k1 k2 k3 k4 k5 k6 k7 k8 k9 k10 k11 k12 k13;obtain⟨x0,x1,x2,x3,x4,x5,x6,x7,av,aI,aF,aG,aH,aC⟩:=aM.cells;have hb3:=aM.lt;have aM:=ae aM;have hk:=HK.o;have e1:(n.kind == 1)=true:=by rw[hk];rfl
 clear hk;rw[HU.o]at x1;have HD:=ae (fun w=>xw u Me w);go_wp2_with (go_at_call 15;((with_reducible refine(HD.o _).mono ?_);rintro e w4 ⟨rfl,h1⟩;have cu:=ae (HB3.o.trans (h1.mono HB3.o.size));clear h1))
 go_ret;exact⟨by rw[HT.o] <;> rfl,cu.o⟩
theorem aio (C:oV w v l ns)(i:Nat)(n:Nd)(k:Value)(hi:l[i]? = some (n,k))(hk:n.kind=2)(w1:World)(hb:Below w.heap.size w w1) :
 Calls Tryz.prog 18 #[v,.int .i64 (i:Int)] w1 (ShR ns i w1):=by
 obtain⟨iE,hil⟩:=C.node hi;have hlf:=C.leaf hi;have bW:=fe hi;have hll:i<l.length:=(eQ.1 hi).1;obtain⟨hz1,hz2,hz3⟩:=(show n.text.size≤1000000∧n.ref.sh.size≤1000000∧n.ai.sh.size≤1000000 from C.sizes _ bW);have bP:n.num≤9223372036854775807:=C.yG _ bW;have kW:=C.few;have HC:=ae C;obtain⟨A,cap,rfl⟩:=C.sn.rO;obtain⟨hsk,pb,po,rfl,hpb,hcell⟩:=C.sn.cellAt hi;obtain⟨bD,ck,hkk,hkc,dL,jk⟩:=id hsk;obtain⟨m,hm⟩:∃m,n.kids.length=m:=⟨_,rfl⟩;rw[hm]at hkk hkc;subst hkk;obtain⟨nl,hnl⟩:∃nl,l.length=nl:=⟨_,rfl⟩;rw[hnl]at hll kW ⊢;have hii:(i:Int)<(nl:Int):=by omega
 have hi0:(0:Int)≤(i:Int):=by omega
 have hmx:m≤9223372036854775807:=by unfold maxLen at dL;omega
 have HM:=ae hm;have jI:=ae hnl;have sF:=ae jk;have fC:=ae iE;have tY:=ae hlf;have wL:=ae hkc;have HB:=ae hb;have kR:=ae (wE C.tree (i:=(i:Int)) (by omega) (by omega) n iE);obtain⟨k0,k1,k2,k3,k4,k5,k6,k7,k8,k9,k10,k11,k12,k13⟩:=qB hb hpb hcell;have HK:=ae hk;have HT:=ae (show bJ ns (i:Int)=34 :: (fw (sb n.text)++[34])by rw[kR.o,af (by omega),ag hk]);clear hk;have hB3:Below w1.heap.size w1 (w1.alloc (.cells (aB n (.slice bD m ck)) 44)):=(ak _ _).alloc (aj _) _;have aM:az (w1.alloc (.cells (aB n (.slice bD m ck)) 44)) w1.heap.size n (.slice bD m ck):=az.new w1 n _;have HB3:=ae hB3;clear hB3 C hi bW hcell jk hkc dL hm hnl iE hlf hsk hb;go_enter Tryz.func18,Tryz.ntmps18;go_upto_region 2 with (fail)
 generalize hb3:w1.heap.size=b3 at aM ⊢;generalize w1.alloc (.cells (aB n (.slice bD m ck)) 44)=w3 at aM HB3 ⊢;clear hb3 k0 k1 k2 k3 k4 k5 k6 k7 k8 k9 k10 k11 k12 k13;obtain⟨x0,x1,x2,x3,x4,x5,x6,x7,av,aI,aF,aG,aH,aC⟩:=aM.cells;have hb3:=aM.lt;have aM:=ae aM;have hk:=HK.o;have e1:(n.kind == 1)=false:=by rw[hk];rfl
 have e2:(n.kind == 2)=true:=by rw[hk];rfl
 clear hk;have HD:=ae (fun w=>agQ n.text w (by omega));go_wp2_with (go_at_call 30;((with_reducible refine(HD.o _).mono ?_);rintro e w4 ⟨rfl,h1⟩;have cu:=ae (HB3.o.trans (h1.mono HB3.o.size));clear h1))
 go_ret;exact⟨by rw[HT.o] <;> rfl,cu.o⟩
theorem aip (C:oV w v l ns)(i:Nat)(n:Nd)(k:Value)(hi:l[i]? = some (n,k))(hk:n.kind=3)(w1:World)(hb:Below w.heap.size w w1) :
 Calls Tryz.prog 18 #[v,.int .i64 (i:Int)] w1 (ShR ns i w1):=by
 obtain⟨iE,hil⟩:=C.node hi;have hlf:=C.leaf hi;have bW:=fe hi;have hll:i<l.length:=(eQ.1 hi).1;obtain⟨hz1,hz2,hz3⟩:=(show n.text.size≤1000000∧n.ref.sh.size≤1000000∧n.ai.sh.size≤1000000 from C.sizes _ bW);have bP:n.num≤9223372036854775807:=C.yG _ bW;have kW:=C.few;have HC:=ae C;obtain⟨A,cap,rfl⟩:=C.sn.rO;obtain⟨hsk,pb,po,rfl,hpb,hcell⟩:=C.sn.cellAt hi;obtain⟨bD,ck,hkk,hkc,dL,jk⟩:=id hsk;obtain⟨m,hm⟩:∃m,n.kids.length=m:=⟨_,rfl⟩;rw[hm]at hkk hkc;subst hkk;obtain⟨nl,hnl⟩:∃nl,l.length=nl:=⟨_,rfl⟩;rw[hnl]at hll kW ⊢;have hii:(i:Int)<(nl:Int):=by omega
 have hi0:(0:Int)≤(i:Int):=by omega
 have hmx:m≤9223372036854775807:=by unfold maxLen at dL;omega
 have HM:=ae hm;have jI:=ae hnl;have sF:=ae jk;have fC:=ae iE;have tY:=ae hlf;have wL:=ae hkc;have HB:=ae hb;have kR:=ae (wE C.tree (i:=(i:Int)) (by omega) (by omega) n iE);obtain⟨k0,k1,k2,k3,k4,k5,k6,k7,k8,k9,k10,k11,k12,k13⟩:=qB hb hpb hcell;have HK:=ae hk;have HT:=ae (show bJ ns (i:Int)=(if n.num=1 then [84,82,85,69]else [70,65,76,83,69])by rw[kR.o,af (by omega),af (by omega),ag hk]);clear hk;have hB3:Below w1.heap.size w1 (w1.alloc (.cells (aB n (.slice bD m ck)) 44)):=(ak _ _).alloc (aj _) _;have aM:az (w1.alloc (.cells (aB n (.slice bD m ck)) 44)) w1.heap.size n (.slice bD m ck):=az.new w1 n _;have HB3:=ae hB3;clear hB3 C hi bW hcell jk hkc dL hm hnl iE hlf hsk hb;go_enter Tryz.func18,Tryz.ntmps18;go_upto_region 2 with (fail)
 generalize hb3:w1.heap.size=b3 at aM ⊢;generalize w1.alloc (.cells (aB n (.slice bD m ck)) 44)=w3 at aM HB3 ⊢;clear hb3 k0 k1 k2 k3 k4 k5 k6 k7 k8 k9 k10 k11 k12 k13;obtain⟨x0,x1,x2,x3,x4,x5,x6,x7,av,aI,aF,aG,aH,aC⟩:=aM.cells;have hb3:=aM.lt;have aM:=ae aM;have hk:=HK.o;have e1:(n.kind == 1)=false:=by rw[hk];rfl
 have e2:(n.kind == 2)=false:=by rw[hk];rfl
 have e3:(n.kind == 3)=true:=by rw[hk];rfl
 clear hk;by_cases h1:n.num=1
 · have g1:(n.num == 1)=true:=bB.2 h1
   have HT2:=ae (show(⟨#[84,82,85,69]⟩:ByteArray)=strOfNums (bJ ns (i:Int))by rw[HT.o,ag h1];decide);clear h1;go_wp2_with fail
   go_ret;exact⟨nu HT2.o,HB3.o⟩
 · have g1:(n.num == 1)=false:=aA.2 h1
   have HT2:=ae (show(⟨#[70,65,76,83,69]⟩:ByteArray)=strOfNums (bJ ns (i:Int))by rw[HT.o,af h1];decide);clear h1;go_wp2_with fail
   go_ret;exact⟨nu HT2.o,HB3.o⟩
theorem aiq (C:oV w v l ns)(i:Nat)(n:Nd)(k:Value)(hi:l[i]? = some (n,k))(hk:n.kind=4)(w1:World)(hb:Below w.heap.size w w1) :
 Calls Tryz.prog 18 #[v,.int .i64 (i:Int)] w1 (ShR ns i w1):=by
 obtain⟨iE,hil⟩:=C.node hi;have hlf:=C.leaf hi;have bW:=fe hi;have hll:i<l.length:=(eQ.1 hi).1;obtain⟨hz1,hz2,hz3⟩:=(show n.text.size≤1000000∧n.ref.sh.size≤1000000∧n.ai.sh.size≤1000000 from C.sizes _ bW);have bP:n.num≤9223372036854775807:=C.yG _ bW;have kW:=C.few;have HC:=ae C;obtain⟨A,cap,rfl⟩:=C.sn.rO;obtain⟨hsk,pb,po,rfl,hpb,hcell⟩:=C.sn.cellAt hi;obtain⟨bD,ck,hkk,hkc,dL,jk⟩:=id hsk;obtain⟨m,hm⟩:∃m,n.kids.length=m:=⟨_,rfl⟩;rw[hm]at hkk hkc;subst hkk;obtain⟨nl,hnl⟩:∃nl,l.length=nl:=⟨_,rfl⟩;rw[hnl]at hll kW ⊢;have hii:(i:Int)<(nl:Int):=by omega
 have hi0:(0:Int)≤(i:Int):=by omega
 have hmx:m≤9223372036854775807:=by unfold maxLen at dL;omega
 have HM:=ae hm;have jI:=ae hnl;have sF:=ae jk;have fC:=ae iE;have tY:=ae hlf;have wL:=ae hkc;have HB:=ae hb;have kR:=ae (wE C.tree (i:=(i:Int)) (by omega) (by omega) n iE);obtain⟨k0,k1,k2,k3,k4,k5,k6,k7,k8,k9,k10,k11,k12,k13⟩:=qB hb hpb hcell;have HK:=ae hk;have HT:=ae (show(⟨#[35,82,69,70,33]⟩:ByteArray)=strOfNums (bJ ns (i:Int))by rw[kR.o,af (by omega),af (by omega),af (by omega),ag hk];decide);clear hk;have hB3:Below w1.heap.size w1 (w1.alloc (.cells (aB n (.slice bD m ck)) 44)):=(ak _ _).alloc (aj _) _;have aM:az (w1.alloc (.cells (aB n (.slice bD m ck)) 44)) w1.heap.size n (.slice bD m ck):=az.new w1 n _;have HB3:=ae hB3;clear hB3 C hi bW hcell jk hkc dL hm hnl iE hlf hsk hb;go_enter Tryz.func18,Tryz.ntmps18;go_upto_region 2 with (fail)
 generalize hb3:w1.heap.size=b3 at aM ⊢;generalize w1.alloc (.cells (aB n (.slice bD m ck)) 44)=w3 at aM HB3 ⊢;clear hb3 k0 k1 k2 k3 k4 k5 k6 k7 k8 k9 k10 k11 k12 k13;obtain⟨x0,x1,x2,x3,x4,x5,x6,x7,av,aI,aF,aG,aH,aC⟩:=aM.cells;have hb3:=aM.lt;have aM:=ae aM;have hk:=HK.o;have e1:(n.kind == 1)=false:=by rw[hk];rfl
 have e2:(n.kind == 2)=false:=by rw[hk];rfl
 have e3:(n.kind == 3)=false:=by rw[hk];rfl
 have e4:(n.kind == 4)=true:=by rw[hk];rfl
 clear hk;go_wp2_with fail
 go_ret;exact⟨nu HT.o,HB3.o⟩
theorem air (C:oV w v l ns)(i:Nat)(n:Nd)(k:Value)(hi:l[i]? = some (n,k))(hk:n.kind=5)(w1:World)(hb:Below w.heap.size w w1) :
 Calls Tryz.prog 18 #[v,.int .i64 (i:Int)] w1 (ShR ns i w1):=by
 obtain⟨iE,hil⟩:=C.node hi;have hlf:=C.leaf hi;have bW:=fe hi;have hll:i<l.length:=(eQ.1 hi).1;obtain⟨hz1,hz2,hz3⟩:=(show n.text.size≤1000000∧n.ref.sh.size≤1000000∧n.ai.sh.size≤1000000 from C.sizes _ bW);have bP:n.num≤9223372036854775807:=C.yG _ bW;have kW:=C.few;have HC:=ae C;obtain⟨A,cap,rfl⟩:=C.sn.rO;obtain⟨hsk,pb,po,rfl,hpb,hcell⟩:=C.sn.cellAt hi;obtain⟨bD,ck,hkk,hkc,dL,jk⟩:=id hsk;obtain⟨m,hm⟩:∃m,n.kids.length=m:=⟨_,rfl⟩;rw[hm]at hkk hkc;subst hkk;obtain⟨nl,hnl⟩:∃nl,l.length=nl:=⟨_,rfl⟩;rw[hnl]at hll kW ⊢;have hii:(i:Int)<(nl:Int):=by omega
 have hi0:(0:Int)≤(i:Int):=by omega
 have hmx:m≤9223372036854775807:=by unfold maxLen at dL;omega
 have HM:=ae hm;have jI:=ae hnl;have sF:=ae jk;have fC:=ae iE;have tY:=ae hlf;have wL:=ae hkc;have HB:=ae hb;have kR:=ae (wE C.tree (i:=(i:Int)) (by omega) (by omega) n iE);obtain⟨k0,k1,k2,k3,k4,k5,k6,k7,k8,k9,k10,k11,k12,k13⟩:=qB hb hpb hcell;have HK:=ae hk;have HT:=ae (show bJ ns (i:Int)=bE (sb n.ref.sh) n.ref.c n.ref.r n.ref.ac n.ref.ar by rw[kR.o,af (by omega),af (by omega),af (by omega),af (by omega),ag hk]);clear hk;have hB3:Below w1.heap.size w1 (w1.alloc (.cells (aB n (.slice bD m ck)) 44)):=(ak _ _).alloc (aj _) _;have aM:az (w1.alloc (.cells (aB n (.slice bD m ck)) 44)) w1.heap.size n (.slice bD m ck):=az.new w1 n _;have HB3:=ae hB3;clear hB3 C hi bW hcell jk hkc dL hm hnl iE hlf hsk hb;go_enter Tryz.func18,Tryz.ntmps18;go_upto_region 2 with (fail)
 generalize hb3:w1.heap.size=b3 at aM ⊢;generalize w1.alloc (.cells (aB n (.slice bD m ck)) 44)=w3 at aM HB3 ⊢;clear hb3 k0 k1 k2 k3 k4 k5 k6 k7 k8 k9 k10 k11 k12 k13;obtain⟨x0,x1,x2,x3,x4,x5,x6,x7,av,aI,aF,aG,aH,aC⟩:=aM.cells;have hb3:=aM.lt;have aM:=ae aM;have hk:=HK.o;have e1:(n.kind == 1)=false:=by rw[hk];rfl
 have e2:(n.kind == 2)=false:=by rw[hk];rfl
 have e3:(n.kind == 3)=false:=by rw[hk];rfl
 have e4:(n.kind == 4)=false:=by rw[hk];rfl
 have e5:(n.kind == 5)=true:=by rw[hk];rfl
 clear hk;have HD:=ae (fun w=>E9 n.ref.sh n.ref.c n.ref.r n.ref.ac n.ref.ar w hz2);go_wp2_with (go_at_call 31;((with_reducible refine(HD.o _).mono ?_);rintro e w4 ⟨rfl,h1⟩;have cu:=ae (HB3.o.trans (h1.mono HB3.o.size));clear h1))
 go_ret;exact⟨by rw[HT.o] <;> rfl,cu.o⟩
theorem CK (b:Bool)(t:List Int):t.length≤(jm b t).length∧(jm b t).length≤t.length+2:=by
 unfold jm;cases b <;> simp <;> omega
theorem aiT:(⟨#[40]⟩:ByteArray)=strOfNums [40]:=by decide
theorem WE:(⟨#[41]⟩:ByteArray)=strOfNums [41]:=by decide
theorem Nj (t:List Int)(b:Bool)(w:World)(hs:t.length≤10000000000):Calls Tryz.prog 32 #[.string (strOfNums t),.bool b] w fun e w'=>e = .returned (.string (strOfNums (jm b t)))∧w=w':=by
 have hz:(strOfNums t).size=t.length:=strOfNums_size t;cases b
 · go_enter Tryz.func32,Tryz.ntmps32
   go_wp2_with fail
   go_ret;exact⟨rfl,rfl⟩
 · have HS:=ae (show((⟨#[40]⟩:ByteArray)++strOfNums t)++⟨#[41]⟩=strOfNums (jm true t)by rw[aiT,WE,nz,nz];rfl)
   obtain⟨s,hs2⟩:∃s,strOfNums t=s:=⟨_,rfl⟩;rw[hs2]at HS hz ⊢;have hz2:s.size≤10000000000:=by omega
   have h1:¬ 9223372036854775807<(⟨#[40]⟩:ByteArray).size+s.size:=by show ¬ _<1+s.size;omega
   have h2:((⟨#[40]⟩:ByteArray)++s).size=1+s.size:=by rw[ByteArray.size_append];rfl
   clear hs2 hz;go_enter Tryz.func32,Tryz.ntmps32;go_wp2_with fail
   go_ret;exact⟨nu HS.o,rfl⟩
theorem oV.kid (h:oV w v l ns)(hi:l[i]? = some (n,k))(hx:x∈n.kids):∃j:Nat,x=(j:Int)∧j<i∧j<l.length∧∃q kq,l[j]? = some (q,kq)∧nodeAt ns (j:Int)=q:=by
 obtain⟨h1,h2⟩:=h.node hi;have hk:=(zZ h.tree (i:=(i:Int)) (by omega) (by omega)).2;rw[h1]at hk;obtain⟨h3,h4⟩:=hk x hx;have hl:=(eQ.1 hi).1;have hjl:x.toNat<l.length:=by omega
 have he:l[x.toNat]? = some (l[x.toNat].1,l[x.toNat].2):=cZ hjl;exact⟨x.toNat,by omega,by omega,hjl,_,_,he,(h.node he).1⟩
def Gl(w:World)(v:Value)(ns:List Nd)(i:Nat):Prop:=∀j:Nat,j<i→(bJ ns (j:Int)).length≤1000000000→∀w1,Below w.heap.size w w1→Calls Tryz.prog 18 #[v,.int .i64 (j:Int)] w1 (ShR ns j w1)
theorem ais (C:oV w v l ns)(i:Nat)(n:Nd)(k:Value)(hi:l[i]? = some (n,k))(hk:n.kind=6)(w1:World)(hb:Below w.heap.size w w1) :
 Calls Tryz.prog 18 #[v,.int .i64 (i:Int)] w1 (ShR ns i w1):=by
 obtain⟨iE,hil⟩:=C.node hi;have hlf:=C.leaf hi;have bW:=fe hi;have hll:i<l.length:=(eQ.1 hi).1;obtain⟨hz1,hz2,hz3⟩:=(show n.text.size≤1000000∧n.ref.sh.size≤1000000∧n.ai.sh.size≤1000000 from C.sizes _ bW);have bP:n.num≤9223372036854775807:=C.yG _ bW;have kW:=C.few;have HC:=ae C;obtain⟨A,cap,rfl⟩:=C.sn.rO;obtain⟨hsk,pb,po,rfl,hpb,hcell⟩:=C.sn.cellAt hi;obtain⟨bD,ck,hkk,hkc,dL,jk⟩:=id hsk;obtain⟨m,hm⟩:∃m,n.kids.length=m:=⟨_,rfl⟩;rw[hm]at hkk hkc;subst hkk;obtain⟨nl,hnl⟩:∃nl,l.length=nl:=⟨_,rfl⟩;rw[hnl]at hll kW ⊢;have hii:(i:Int)<(nl:Int):=by omega
 have hi0:(0:Int)≤(i:Int):=by omega
 have hmx:m≤9223372036854775807:=by unfold maxLen at dL;omega
 have HM:=ae hm;have jI:=ae hnl;have sF:=ae jk;have fC:=ae iE;have tY:=ae hlf;have wL:=ae hkc;have HB:=ae hb;have kR:=ae (wE C.tree (i:=(i:Int)) (by omega) (by omega) n iE);obtain⟨k0,k1,k2,k3,k4,k5,k6,k7,k8,k9,k10,k11,k12,k13⟩:=qB hb hpb hcell;have HK:=ae hk;have HT:=ae (show bJ ns (i:Int)=bE (sb n.ref.sh) n.ref.c n.ref.r n.ref.ac n.ref.ar++58 :: bE (sb n.ai.sh) n.ai.c n.ai.r n.ai.ac n.ai.ar by rw[kR.o,af (by omega),af (by omega),af (by omega),af (by omega),af (by omega),ag hk]);clear hk;have hB3:Below w1.heap.size w1 (w1.alloc (.cells (aB n (.slice bD m ck)) 44)):=(ak _ _).alloc (aj _) _;have aM:az (w1.alloc (.cells (aB n (.slice bD m ck)) 44)) w1.heap.size n (.slice bD m ck):=az.new w1 n _;have HB3:=ae hB3;clear hB3 C hi bW hcell jk hkc dL hm hnl iE hlf hsk hb;go_enter Tryz.func18,Tryz.ntmps18;go_upto_region 2 with (fail)
 generalize hb3:w1.heap.size=b3 at aM ⊢;generalize w1.alloc (.cells (aB n (.slice bD m ck)) 44)=w3 at aM HB3 ⊢;clear hb3 k0 k1 k2 k3 k4 k5 k6 k7 k8 k9 k10 k11 k12 k13;obtain⟨x0,x1,x2,x3,x4,x5,x6,x7,av,aI,aF,aG,aH,aC⟩:=aM.cells;have hb3:=aM.lt;have aM:=ae aM;have hk:=HK.o;have e1:(n.kind == 1)=false:=by rw[hk];rfl
 have e2:(n.kind == 2)=false:=by rw[hk];rfl
 have e3:(n.kind == 3)=false:=by rw[hk];rfl
 have e4:(n.kind == 4)=false:=by rw[hk];rfl
 have e5:(n.kind == 5)=false:=by rw[hk];rfl
 have e6:(n.kind == 6)=true:=by rw[hk];rfl
 clear hk;have HD:=ae (fun w=>E9 n.ref.sh n.ref.c n.ref.r n.ref.ac n.ref.ar w hz2);have HE:=ae (fun w=>E9 n.ai.sh n.ai.c n.ai.r n.ai.ac n.ai.ar w hz3);have l1:=zX (sb n.ref.sh) n.ref.c n.ref.r n.ref.ac n.ref.ar;have l2:=zX (sb n.ai.sh) n.ai.c n.ai.r n.ai.ac n.ai.ar;rw[bC]at l1 l2;obtain⟨T1,hT1⟩:∃T,bE (sb n.ref.sh) n.ref.c n.ref.r n.ref.ac n.ref.ar=T:=⟨_,rfl⟩;obtain⟨T2,Rq⟩:∃T,bE (sb n.ai.sh) n.ai.c n.ai.r n.ai.ac n.ai.ar=T:=⟨_,rfl⟩;rw[hT1]at HD HT l1;rw[Rq]at HE HT l2;clear hT1 Rq;have HR:=ae (show(strOfNums T1++⟨#[58]⟩)++strOfNums T2=strOfNums (bJ ns (i:Int))by rw[HT.o,show(⟨#[58]⟩:ByteArray)=strOfNums [58]by decide,nz,nz];simp);have hs1:(strOfNums T1).size=T1.length:=strOfNums_size T1;have hs2:(strOfNums T2).size=T2.length:=strOfNums_size T2;obtain⟨t1,ht1⟩:∃t,strOfNums T1=t:=⟨_,rfl⟩;obtain⟨t2,ht2⟩:∃t,strOfNums T2=t:=⟨_,rfl⟩;rw[ht1]at HD HR hs1;rw[ht2]at HE HR hs2;clear ht1 ht2;have q1:¬ 9223372036854775807<t1.size+(⟨#[58]⟩:ByteArray).size:=by show ¬ _<t1.size+1;omega
 have q2:(t1++(⟨#[58]⟩:ByteArray)).size=t1.size+1:=by rw[ByteArray.size_append];rfl
 have q3:¬ 9223372036854775807<t1.size+1+t2.size:=by omega
 have q4:¬ 9223372036854775807<t1.size+1:=by omega
 have b1:t1.size≤1000008:=by omega
 have b2:t2.size≤1000008:=by omega
 have H3:=ae ((ak w3.heap.size w3).drew);clear hs1 hs2 l1 l2;go_upto_region 16 with (fail)
 go_region_held3 (fun w'=>w'.cell? ⟨b3,3,none⟩=some (.string n.ref.sh)∧w'.cell? ⟨b3,4,none⟩=some (.int .i64 n.ref.c)∧w'.cell? ⟨b3,5,none⟩=some (.int .i64 n.ref.r)∧w'.cell? ⟨b3,6,none⟩=some (.bool n.ref.ac)∧w'.cell? ⟨b3,7,none⟩=some (.bool n.ref.ar)∧w'.cell? ⟨b3,8,none⟩=some (.string n.ai.sh)∧w'.cell? ⟨b3,9,none⟩=some (.int .i64 n.ai.c)∧w'.cell? ⟨b3,10,none⟩=some (.int .i64 n.ai.r)∧w'.cell? ⟨b3,11,none⟩=some (.bool n.ai.ac)∧w'.cell? ⟨b3,12,none⟩=some (.bool n.ai.ar)) (go_keep) (first
  | (go_at_call 31;((with_reducible refine(HD.o _).mono ?_);rintro e w4 ⟨rfl,h1⟩;have H4:=ae (H3.o.trans (h1.mono H3.o.size));clear h1;have y3:=(H4.o.cell (p:=⟨b3,3,none⟩) hb3).trans x3;have y4:=(H4.o.cell (p:=⟨b3,4,none⟩) hb3).trans x4;have dH:=(H4.o.cell (p:=⟨b3,5,none⟩) hb3).trans x5;have y6:=(H4.o.cell (p:=⟨b3,6,none⟩) hb3).trans x6;have ll:=(H4.o.cell (p:=⟨b3,7,none⟩) hb3).trans x7;have nE:=(H4.o.cell (p:=⟨b3,8,none⟩) hb3).trans av;have tT:=(H4.o.cell (p:=⟨b3,9,none⟩) hb3).trans aI;have tN:=(H4.o.cell (p:=⟨b3,10,none⟩) hb3).trans aF;have tO:=(H4.o.cell (p:=⟨b3,11,none⟩) hb3).trans aG;have tQ:=(H4.o.cell (p:=⟨b3,12,none⟩) hb3).trans aH))
  | (go_at_call 31;((with_reducible refine(HE.o _).mono ?_);rintro e w5 ⟨rfl,h1⟩;have gB:=ae (H4.o.trans (h1.mono H4.o.size));clear h1;have z3:=(gB.o.cell (p:=⟨b3,3,none⟩) hb3).trans x3;have z4:=(gB.o.cell (p:=⟨b3,4,none⟩) hb3).trans x4;have z5:=(gB.o.cell (p:=⟨b3,5,none⟩) hb3).trans x5;have z6:=(gB.o.cell (p:=⟨b3,6,none⟩) hb3).trans x6;have z7:=(gB.o.cell (p:=⟨b3,7,none⟩) hb3).trans x7;have Dx:=(gB.o.cell (p:=⟨b3,8,none⟩) hb3).trans av;have z9:=(gB.o.cell (p:=⟨b3,9,none⟩) hb3).trans aI;have Dv:=(gB.o.cell (p:=⟨b3,10,none⟩) hb3).trans aF;have Dw:=(gB.o.cell (p:=⟨b3,11,none⟩) hb3).trans aG;have z12:=(gB.o.cell (p:=⟨b3,12,none⟩) hb3).trans aH)))
 all_goals go_wp2_with fail
 all_goals go_ret
 all_goals exact⟨nu HR.o,HB3.o.trans (gB.o.mono HB3.o.size)⟩
theorem aiu (C:oV w v l ns)(i:Nat)(n:Nd)(k:Value)(hi:l[i]? = some (n,k))(hk:n.kind=8)(hlen:(bJ ns (i:Int)).length≤1000000000)(IH:Gl w v ns i)(w1:World)(hb:Below w.heap.size w w1) :
 Calls Tryz.prog 18 #[v,.int .i64 (i:Int)] w1 (ShR ns i w1):=by
 obtain⟨iE,hil⟩:=C.node hi;have hlf:=C.leaf hi;have bW:=fe hi;have hll:i<l.length:=(eQ.1 hi).1;obtain⟨hz1,hz2,hz3⟩:=(show n.text.size≤1000000∧n.ref.sh.size≤1000000∧n.ai.sh.size≤1000000 from C.sizes _ bW);have bP:n.num≤9223372036854775807:=C.yG _ bW;have kW:=C.few;have HC:=ae C;obtain⟨A,cap,rfl⟩:=C.sn.rO;obtain⟨hsk,pb,po,rfl,hpb,hcell⟩:=C.sn.cellAt hi;obtain⟨bD,ck,hkk,hkc,dL,jk⟩:=id hsk;obtain⟨m,hm⟩:∃m,n.kids.length=m:=⟨_,rfl⟩;rw[hm]at hkk hkc;subst hkk;obtain⟨nl,hnl⟩:∃nl,l.length=nl:=⟨_,rfl⟩;rw[hnl]at hll kW ⊢;have hii:(i:Int)<(nl:Int):=by omega
 have hi0:(0:Int)≤(i:Int):=by omega
 have hmx:m≤9223372036854775807:=by unfold maxLen at dL;omega
 have HM:=ae hm;have jI:=ae hnl;have sF:=ae jk;have fC:=ae iE;have tY:=ae hlf;have wL:=ae hkc;have HB:=ae hb;have kR:=ae (wE C.tree (i:=(i:Int)) (by omega) (by omega) n iE);have hk1:n.kids.length=1:=(rz hlf).1 hk;have hm1:m=1:=by rw[← hm];exact hk1
 subst hm1;have EA:n.kids≠[]:=by intro e;rw[e]at hm;simp at hm
 obtain⟨kb,gF,rfl,hkb,xc⟩:=jk.resolve_left EA;obtain⟨a,hka⟩:∃x,n.kids[0]? = some x:=⟨_,cZ (by omega)⟩;have hga:n.kids.getD 0 0=a:=by rw[kg,hka];rfl
 obtain⟨iO,rfl,hja,abT,q,kva,hla,hna⟩:=C.kid hi (fe hka);obtain⟨-,pba,poa,xg, -,yt⟩:=C.sn.cellAt hla;injection xg with xg;injection xg with hp1 hp2;subst hp1;subst hp2;have ca:w1.cell? ⟨pb,po+iO*14,none⟩=some (.int .i64 q.kind):=(hb.cell (p:=⟨pb,po+iO*14,none⟩) hpb).trans (yt 0 (by omega));have da:w1.cell? ⟨kb,gF,none⟩=some (.int .i64 (iO:Int)):=(hb.cell (p:=⟨kb,gF,none⟩) hkb).trans (xc 0 _ hka);obtain⟨vI,Er⟩:∃R:Int,((bM q.kind:Nat):Int)+1=R:=⟨_,rfl⟩;have Kc:=ae (show ∀w,Calls Tryz.prog 33 #[.int .i64 q.kind] w (fun e w'=>e = .returned (.int .i64 vI)∧w=w')from fun w=>by rw[← Er];exact II q.kind w);have hia:(iO:Int)<(l.length:Int):=by omega
 have HT:=ae (show bJ ns (i:Int)=45 :: jm (decide (bM q.kind<4)) (bJ ns (iO:Int))by rw[kR.o,af (by omega),af (by omega),af (by omega),af (by omega),af (by omega),af (by omega),af (by omega),ag hk,hga,hna]);have yo:(bJ ns (iO:Int)).length≤1000000000:=by rw[HT.o]at hlen;have:=(CK (decide (bM q.kind<4)) (bJ ns (iO:Int))).1;simp only[bf]at hlen;omega
 have AU:=IH iO hja yo;rw[hnl]at AU;have JK:=ae AU;have Es:decide (bM q.kind<4)=decide (vI<5):=by rw[decide_eq_decide];omega
 rw[Es]at HT;have Jz:=ae (show Below w1.heap.size w1 w1→True from fun _=>trivial);clear AU Jz Es Er hga hka hla hna yt EA xc IH;rw[hnl]at hia;obtain⟨k0,k1,k2,k3,k4,k5,k6,k7,k8,k9,k10,k11,k12,k13⟩:=qB hb hpb hcell;have HK:=ae hk;clear hk hlen;have hB3:Below w1.heap.size w1 (w1.alloc (.cells (aB n (.slice (some ⟨kb,gF,none⟩) 1 ck)) 44)):=(ak _ _).alloc (aj _) _;have aM:az (w1.alloc (.cells (aB n (.slice (some ⟨kb,gF,none⟩) 1 ck)) 44)) w1.heap.size n (.slice (some ⟨kb,gF,none⟩) 1 ck):=az.new w1 n _;have HB3:=ae hB3;clear hB3 C hi bW hcell jk hkc dL hm hnl iE hlf hsk hb;go_enter Tryz.func18,Tryz.ntmps18;go_upto_region 2 with (fail)
 generalize hb3:w1.heap.size=b3 at aM ⊢;generalize w1.alloc (.cells (aB n (.slice (some ⟨kb,gF,none⟩) 1 ck)) 44)=w3 at aM HB3 ⊢;have s0:=(HB3.o.cell (p:=⟨kb,gF,none⟩) (eB hkb HB.o.size)).trans da;have s1:=(HB3.o.cell (p:=⟨pb,po+iO*14,none⟩) (eB hpb HB.o.size)).trans ca;clear da ca hb3 k0 k1 k2 k3 k4 k5 k6 k7 k8 k9 k10 k11 k12 k13;obtain⟨x0,x1,x2,x3,x4,x5,x6,x7,av,aI,aF,aG,aH,aC⟩:=aM.cells;have hb3:=aM.lt;have aM:=ae aM;have hk:=HK.o;have e1:(n.kind == 1)=false:=by rw[hk];rfl
 have e2:(n.kind == 2)=false:=by rw[hk];rfl
 have e3:(n.kind == 3)=false:=by rw[hk];rfl
 have e4:(n.kind == 4)=false:=by rw[hk];rfl
 have e5:(n.kind == 5)=false:=by rw[hk];rfl
 have e6:(n.kind == 6)=false:=by rw[hk];rfl
 have e7:(n.kind == 7)=false:=by rw[hk];rfl
 have e8:(n.kind == 8)=true:=by rw[hk];rfl
 clear hk;have abU:kb<w1.heap.size:=eB hkb HB.o.size;have Be:pb<w1.heap.size:=eB hpb HB.o.size;have abV:kb<w3.heap.size:=eB abU HB3.o.size;have GX:pb<w3.heap.size:=eB Be HB3.o.size;have tV:=ae (HB.o.trans (HB3.o.mono HB.o.size));have H3:=ae ((ak w3.heap.size w3).drew);have hzi:=(CK (decide (vI<5)) (bJ ns (iO:Int))).2;have sD:=ae (fun w=>Nj (bJ ns (iO:Int)) (decide (vI<5)) w (by omega));obtain⟨T,hT⟩:∃T,jm (decide (vI<5)) (bJ ns (iO:Int))=T:=⟨_,rfl⟩;rw[hT]at HT sD hzi;have HRR:=ae (show(⟨#[45]⟩:ByteArray)++strOfNums T=strOfNums (bJ ns (i:Int))by rw[HT.o,show(⟨#[45]⟩:ByteArray)=strOfNums [45]by decide,nz];rfl);have hs1:(strOfNums T).size=T.length:=strOfNums_size T;obtain⟨t,ht⟩:∃t,strOfNums T=t:=⟨_,rfl⟩;rw[ht]at sD HRR hs1;have q1:¬ 9223372036854775807<(⟨#[45]⟩:ByteArray).size+t.size:=by show ¬ _<1+t.size;omega
 have q2:¬ 9223372036854775807<1+t.size:=by omega
 clear ht hT hs1 hzi;go_upto_region 27 with (fail)
 go_region_held3 (fun w'=>w'.cell? ⟨b3,13,none⟩=some (.slice (some ⟨kb,gF,none⟩) 1 ck)∧w'.cell? ⟨kb,gF,none⟩=some (.int .i64 (iO:Int))∧w'.cell? ⟨pb,po+iO*14,none⟩=some (.int .i64 q.kind)) (go_keep) (first
  | (go_at_call 18;((with_reducible refine(JK.o _ (tV.o.trans (H3.o.mono tV.o.size))).mono ?_);rintro e w4 ⟨rfl,h1⟩;have H4:=ae (H3.o.trans (h1.mono H3.o.size));clear h1;have y0:=(H4.o.cell (p:=⟨b3,13,none⟩) hb3).trans aC;have y1:=(H4.o.cell (p:=⟨kb,gF,none⟩) abV).trans s0;have y2:=(H4.o.cell (p:=⟨pb,po+iO*14,none⟩) GX).trans s1))
  | (go_at_call 33;((with_reducible refine(Kc.o _).mono ?_);rintro e wn ⟨rfl,rfl⟩))
  | (go_at_call 32;((with_reducible refine(sD.o _).mono ?_);rintro e wn ⟨rfl,rfl⟩)))
 all_goals go_wp2_with fail
 all_goals go_ret
 all_goals exact⟨nu HRR.o,HB3.o.trans (H4.o.mono HB3.o.size)⟩
theorem aiv (C:oV w v l ns)(i:Nat)(n:Nd)(k:Value)(hi:l[i]? = some (n,k))(hk:9≤n.kind)(hlen:(bJ ns (i:Int)).length≤1000000000)(IH:Gl w v ns i)(w1:World)(hb:Below w.heap.size w w1) :
 Calls Tryz.prog 18 #[v,.int .i64 (i:Int)] w1 (ShR ns i w1):=by
 obtain⟨iE,hil⟩:=C.node hi;have hlf:=C.leaf hi;have bW:=fe hi;have hll:i<l.length:=(eQ.1 hi).1;obtain⟨hz1,hz2,hz3⟩:=(show n.text.size≤1000000∧n.ref.sh.size≤1000000∧n.ai.sh.size≤1000000 from C.sizes _ bW);have bP:n.num≤9223372036854775807:=C.yG _ bW;have kW:=C.few;have HC:=ae C;obtain⟨A,cap,rfl⟩:=C.sn.rO;obtain⟨hsk,pb,po,rfl,hpb,hcell⟩:=C.sn.cellAt hi;obtain⟨bD,ck,hkk,hkc,dL,jk⟩:=id hsk;obtain⟨m,hm⟩:∃m,n.kids.length=m:=⟨_,rfl⟩;rw[hm]at hkk hkc;subst hkk;obtain⟨nl,hnl⟩:∃nl,l.length=nl:=⟨_,rfl⟩;rw[hnl]at hll kW ⊢;have hii:(i:Int)<(nl:Int):=by omega
 have hi0:(0:Int)≤(i:Int):=by omega
 have hmx:m≤9223372036854775807:=by unfold maxLen at dL;omega
 have HM:=ae hm;have jI:=ae hnl;have sF:=ae jk;have fC:=ae iE;have tY:=ae hlf;have wL:=ae hkc;have HB:=ae hb;have kR:=ae (wE C.tree (i:=(i:Int)) (by omega) (by omega) n iE);have hk1:n.kids.length=2:=(rz hlf).2.1 hk;have akH:n.kind≤19:=(rz hlf).2.2.2.2.1;have hm1:m=2:=by rw[← hm];exact hk1
 subst hm1;have EA:n.kids≠[]:=by intro e;rw[e]at hm;simp at hm
 obtain⟨gb,gF,rfl,Cy,xc⟩:=jk.resolve_left EA;obtain⟨a,hka⟩:∃x,n.kids[0]? = some x:=⟨_,cZ (by omega)⟩;have hga:n.kids.getD 0 0=a:=by rw[kg,hka];rfl
 obtain⟨iO,rfl,hja,abT,q,kva,hla,hna⟩:=C.kid hi (fe hka);obtain⟨-,pba,poa,xg, -,yt⟩:=C.sn.cellAt hla;injection xg with xg;injection xg with hp1 hp2;subst hp1;subst hp2;have ca:w1.cell? ⟨pb,po+iO*14,none⟩=some (.int .i64 q.kind):=(hb.cell (p:=⟨pb,po+iO*14,none⟩) hpb).trans (yt 0 (by omega));have da:w1.cell? ⟨gb,gF,none⟩=some (.int .i64 (iO:Int)):=(hb.cell (p:=⟨gb,gF,none⟩) Cy).trans (xc 0 _ hka);obtain⟨vI,Er⟩:∃R:Int,((bM q.kind:Nat):Int)+1=R:=⟨_,rfl⟩;have Kc:=ae (show ∀w,Calls Tryz.prog 33 #[.int .i64 q.kind] w (fun e w'=>e = .returned (.int .i64 vI)∧w=w')from fun w=>by rw[← Er];exact II q.kind w);have hia:(iO:Int)<(l.length:Int):=by omega
 obtain⟨b,hkb⟩:∃x,n.kids[1]? = some x:=⟨_,cZ (by omega)⟩;have hgb:n.kids.getD 1 0=b:=by rw[kg,hkb];rfl
 obtain⟨o5,rfl,hjb,akE,r,kvb,hlb,hnb⟩:=C.kid hi (fe hkb);obtain⟨-,pbb,pob,hpb, -,hcb⟩:=C.sn.cellAt hlb;injection hpb with hpb;injection hpb with hp1 hp2;subst hp1;subst hp2;have cb:w1.cell? ⟨pb,po+o5*14,none⟩=some (.int .i64 r.kind):=(hb.cell (p:=⟨pb,po+o5*14,none⟩) hpb).trans (hcb 0 (by omega));have db:w1.cell? ⟨gb,gF+1,none⟩=some (.int .i64 (o5:Int)):=(hb.cell (p:=⟨gb,gF+1,none⟩) Cy).trans (xc 1 _ hkb);obtain⟨Eh,hRb⟩:∃R:Int,((bM r.kind:Nat):Int)+1=R:=⟨_,rfl⟩;have Yo:=ae (show ∀w,Calls Tryz.prog 33 #[.int .i64 r.kind] w (fun e w'=>e = .returned (.int .i64 Eh)∧w=w')from fun w=>by rw[← hRb];exact II r.kind w);have hib:(o5:Int)<(l.length:Int):=by omega
 obtain⟨o,ho,LJ⟩:∃o:Nat,n.kind=9+(o:Int)∧o<11:=⟨(n.kind - 9).toNat,by omega,by omega⟩;have R5:(n.kind - 9).toNat=o:=by omega
 obtain⟨N,hN⟩:∃R:Int,((bM n.kind:Nat):Int)+1=R:=⟨_,rfl⟩;have Ym:=ae (show ∀w,Calls Tryz.prog 33 #[.int .i64 n.kind] w (fun e w'=>e = .returned (.int .i64 N)∧w=w')from fun w=>by rw[← hN];exact II n.kind w)
 have O7:=ae (show ∀w,Calls Tryz.prog 34 #[.int .i64 n.kind] w (fun e w'=>e = .returned (.string (strOfNums (rQ o)))∧Below w.heap.size w w')from fun w=>by
  rw[ho, ← (M0 o LJ).2,nA];exact agK o LJ w)
 have hol:(rQ o).length≤2:=(show ∀o:Nat,o<11→(rQ o).length≤2 by decide) o LJ;have HT:=ae (show bJ ns (i:Int)=jm (decide (bM q.kind<bM n.kind)) (bJ ns (iO:Int))++(rQ o++jm (decide (bM r.kind≤bM n.kind)) (bJ ns (o5:Int)))by rw[kR.o,af (by omega),af (by omega),af (by omega),af (by omega),af (by omega),af (by omega),af (by omega),af (by omega),hga,hgb,hna,hnb,R5]);have yo:(bJ ns (iO:Int)).length≤1000000000:=by rw[HT.o]at hlen;have:=(CK (decide (bM q.kind<bM n.kind)) (bJ ns (iO:Int))).1;simp only[ax]at hlen;omega
 have hbb:(bJ ns (o5:Int)).length≤1000000000:=by rw[HT.o]at hlen;have:=(CK (decide (bM r.kind≤bM n.kind)) (bJ ns (o5:Int))).1;simp only[ax]at hlen;omega
 have AU:=IH iO hja yo;have hIB:=IH o5 hjb hbb;rw[hnl]at AU hIB;have JK:=ae AU;have XP:=ae hIB;have Es:decide (bM q.kind<bM n.kind)=decide (vI<N):=by rw[decide_eq_decide];omega
 have hRe:decide (bM r.kind≤bM n.kind)=decide (Eh≤N):=by rw[decide_eq_decide];omega
 rw[Es,hRe]at HT;clear AU hIB Es hRe Er hRb hga hgb hka hkb hla hlb hna hnb yt hcb EA xc IH hN R5 ho;rw[hnl]at hia hib;obtain⟨k0,k1,k2,k3,k4,k5,k6,k7,k8,k9,k10,k11,k12,k13⟩:=qB hb hpb hcell;have HK:=ae (show 9≤n.kind from hk);clear hk hlen;have hB3:Below w1.heap.size w1 (w1.alloc (.cells (aB n (.slice (some ⟨gb,gF,none⟩) 2 ck)) 44)):=(ak _ _).alloc (aj _) _;have aM:az (w1.alloc (.cells (aB n (.slice (some ⟨gb,gF,none⟩) 2 ck)) 44)) w1.heap.size n (.slice (some ⟨gb,gF,none⟩) 2 ck):=az.new w1 n _;have HB3:=ae hB3;clear hB3 C hi bW hcell jk hkc dL hm hnl iE hlf hsk hb;go_enter Tryz.func18,Tryz.ntmps18;go_upto_region 2 with (fail)
 generalize hb3:w1.heap.size=b3 at aM ⊢;generalize w1.alloc (.cells (aB n (.slice (some ⟨gb,gF,none⟩) 2 ck)) 44)=w3 at aM HB3 ⊢;have RN:gb<w1.heap.size:=eB Cy HB.o.size;have Be:pb<w1.heap.size:=eB hpb HB.o.size;have s0:=(HB3.o.cell (p:=⟨gb,gF,none⟩) RN).trans da;have s1:=(HB3.o.cell (p:=⟨pb,po+iO*14,none⟩) Be).trans ca;have s2:=(HB3.o.cell (p:=⟨gb,gF+1,none⟩) RN).trans db;have s3:=(HB3.o.cell (p:=⟨pb,po+o5*14,none⟩) Be).trans cb;clear da ca db cb hb3 k0 k1 k2 k3 k4 k5 k6 k7 k8 k9 k10 k11 k12 k13;obtain⟨x0,x1,x2,x3,x4,x5,x6,x7,av,aI,aF,aG,aH,aC⟩:=aM.cells;have hb3:=aM.lt;have aM:=ae aM;have LC:=HK.o;have e1:(n.kind == 1)=false:=aA.2 (by omega);have e2:(n.kind == 2)=false:=aA.2 (by omega);have e3:(n.kind == 3)=false:=aA.2 (by omega);have e4:(n.kind == 4)=false:=aA.2 (by omega);have e5:(n.kind == 5)=false:=aA.2 (by omega);have e6:(n.kind == 6)=false:=aA.2 (by omega);have e7:(n.kind == 7)=false:=aA.2 (by omega);have e8:(n.kind == 8)=false:=aA.2 (by omega);clear LC;have GX:pb<w3.heap.size:=eB Be HB3.o.size;have tV:=ae (HB.o.trans (HB3.o.mono HB.o.size));have hzi:=(CK (decide (vI<N)) (bJ ns (iO:Int))).2;have hzj:=(CK (decide (Eh≤N)) (bJ ns (o5:Int))).2;have JL:=ae (fun w=>Nj (bJ ns (iO:Int)) (decide (vI<N)) w (by omega));have JM:=ae (fun w=>Nj (bJ ns (o5:Int)) (decide (Eh≤N)) w (by omega));obtain⟨T,hT⟩:∃T,jm (decide (vI<N)) (bJ ns (iO:Int))=T:=⟨_,rfl⟩;obtain⟨U,hU⟩:∃T,jm (decide (Eh≤N)) (bJ ns (o5:Int))=T:=⟨_,rfl⟩;rw[hT]at JL hzi;rw[hU]at JM hzj;rw[hT,hU]at HT;have HRR:=ae (show(strOfNums T++strOfNums (rQ o))++strOfNums U=strOfNums (bJ ns (i:Int))by rw[HT.o,nz,nz,bQ]);have hs1:(strOfNums T).size=T.length:=strOfNums_size T;have hs2:(strOfNums U).size=U.length:=strOfNums_size U;have hs3:(strOfNums (rQ o)).size=(rQ o).length:=strOfNums_size _;obtain⟨t,ht⟩:∃t,strOfNums T=t:=⟨_,rfl⟩;obtain⟨u,hu⟩:∃t,strOfNums U=t:=⟨_,rfl⟩;obtain⟨s,hs⟩:∃t,strOfNums (rQ o)=t:=⟨_,rfl⟩;rw[ht]at JL HRR hs1;rw[hu]at JM HRR hs2;rw[hs]at O7 HRR hs3;have q1:¬ 9223372036854775807<t.size+s.size:=by omega
 have q2:(t++s).size=t.size+s.size:=ByteArray.size_append;have q3:¬ 9223372036854775807<t.size+s.size+u.size:=by omega
 have q4:t.size≤1000000002:=by omega
 have q5:u.size≤1000000002:=by omega
 have q6:s.size≤2:=by omega
 clear ht hu hs hT hU hs1 hs2 hs3 hzi hzj hol yo hbb;go_upto_region 28 with (fail)
 go_quiet (fail)
 go_upto_region 29 with (fail)
 have hb4:b3<(w3.drewN nq).heap.size:=hb3;have Bf:pb<(w3.drewN nq).heap.size:=GX;have cu:=ae (oq HB3.o nq);have DC:=ae (oq tV.o nq);have t0:(w3.drewN nq).cell? ⟨b3,0,none⟩=some (.int .i64 n.kind):=x0;have t1:(w3.drewN nq).cell? ⟨pb,po+iO*14,none⟩=some (.int .i64 q.kind):=s1;have t2:(w3.drewN nq).cell? ⟨pb,po+o5*14,none⟩=some (.int .i64 r.kind):=s3;clear x0 x1 x2 x3 x4 x5 x6 x7 av aI aF aG aH aC s0 s1 s2 s3 HB3 tV aM hb3 GX;generalize w3.drewN nq=w4 at hb4 Bf cu DC t0 t1 t2 ⊢;have H4:=ae ((ak w4.heap.size w4).drew)
 go_region_held3 (fun w'=>w'.cell? ⟨b3,0,none⟩=some (.int .i64 n.kind)∧w'.cell? ⟨pb,po+iO*14,none⟩=some (.int .i64 q.kind)∧w'.cell? ⟨pb,po+o5*14,none⟩=some (.int .i64 r.kind)) (go_keep) (first
  | (go_at_call 18;((with_reducible refine(JK.o _ (DC.o.trans (H4.o.mono DC.o.size))).mono ?_);rintro e w5 ⟨rfl,h1⟩;have gB:=ae (H4.o.trans (h1.mono H4.o.size));clear h1;have y0:=(gB.o.cell (p:=⟨b3,0,none⟩) hb4).trans t0;have y1:=(gB.o.cell (p:=⟨pb,po+iO*14,none⟩) Bf).trans t1;have y2:=(gB.o.cell (p:=⟨pb,po+o5*14,none⟩) Bf).trans t2))
  | (go_at_call 33;((with_reducible refine(Kc.o _).mono ?_);rintro e wn ⟨rfl,rfl⟩))
  | (go_at_call 33;((with_reducible refine(Ym.o _).mono ?_);rintro e wn ⟨rfl,rfl⟩))
  | (go_at_call 33;((with_reducible refine(Yo.o _).mono ?_);rintro e wn ⟨rfl,rfl⟩))
  | (go_at_call 32;((with_reducible refine(JL.o _).mono ?_);rintro e wn ⟨rfl,rfl⟩))
  | (go_at_call 34;((with_reducible refine(O7.o _).mono ?_);rintro e w6 ⟨rfl,h1⟩;have l9:=ae (gB.o.trans (h1.mono gB.o.size));clear h1;have z0:=(l9.o.cell (p:=⟨b3,0,none⟩) hb4).trans t0;have z1:=(l9.o.cell (p:=⟨pb,po+iO*14,none⟩) Bf).trans t1;have z2:=(l9.o.cell (p:=⟨pb,po+o5*14,none⟩) Bf).trans t2))
  | (go_at_call 18;((with_reducible refine(XP.o _ (DC.o.trans (l9.o.mono DC.o.size))).mono ?_);rintro e w7 ⟨rfl,h1⟩;have wJ:=ae (l9.o.trans (h1.mono l9.o.size));clear h1;have v0:=(wJ.o.cell (p:=⟨b3,0,none⟩) hb4).trans t0;have v1:=(wJ.o.cell (p:=⟨pb,po+iO*14,none⟩) Bf).trans t1;have v2:=(wJ.o.cell (p:=⟨pb,po+o5*14,none⟩) Bf).trans t2))
  | (go_at_call 32;((with_reducible refine(JM.o _).mono ?_);rintro e wn ⟨rfl,rfl⟩)))
 all_goals go_wp2_with fail
 all_goals go_ret
 all_goals exact⟨nu HRR.o,cu.o.trans (wJ.o.mono cu.o.size)⟩
theorem Mk:∀(xs:List (List Int))(j:Nat),∃r,iZ xs=iZ (xs.take j)++r
 | [],j=>⟨[],by simp[iZ]⟩
 | a :: l,0=>⟨iZ (a :: l),rfl⟩
 | [a],j+1=>⟨[],by simp[iZ]⟩
 | a :: b :: l,1=>⟨44 :: iZ (b :: l),rfl⟩
 | a :: b :: l,j+2=>by
   obtain⟨r,h⟩:=Mk (b :: l) (j+1);refine⟨r, ?_⟩;show a++44 :: iZ (b :: l)=(a++44 :: iZ (b :: l.take j))++r;rw[h,List.take_succ_cons];simp
theorem Tg (xs:List (List Int))(j:Nat)(y:List Int)(h:xs[j]? = some y):iZ (xs.take (j+1))=if j=0 then y else iZ (xs.take j)++44 :: y:=by
 rw[List.take_add_one,h];show iZ (xs.take j++[y])=_;have hl:=(eQ.1 h).1;by_cases hj:j=0
 · subst hj;rfl
 · rw[af hj,Mj y _ (fun e=>by have h2:(xs.take j).length=0:=(by rw[e];rfl);rw[gW]at h2;omega)]
theorem Tf (xs:List (List Int))(j:Nat)(y:List Int)(h:xs[j]? = some y):y.length≤(iZ xs).length:=by
 obtain⟨r,hr⟩:=Mk xs (j+1);rw[Tg xs j y h]at hr;rw[hr,ax];split
 · omega
 · simp;omega
theorem acZ (xs:List (List Int))(j:Nat):(iZ (xs.take j)).length≤(iZ xs).length:=by
 obtain⟨r,hr⟩:=Mk xs j;rw[hr,ax];omega
def lG(n:Nd)(ns:List Nd)(j:Nat):List Int:=sb n.text++40 :: iZ ((n.kids.map (bJ ns)).take j)
theorem ZH (n:Nd)(ns:List Nd):n.text++⟨#[40]⟩=strOfNums (lG n ns 0):=by
 have h:lG n ns 0=sb n.text++[40]:=by unfold lG;rw[List.take_zero];rfl
 rw[h, ← nz,nA];rfl
theorem ZF (n:Nd)(ns:List Nd)(j:Nat):(lG n ns j).length≤(iZ (n.kids.map (bJ ns))).length+n.text.size+1:=by
 have:=acZ (n.kids.map (bJ ns)) j;unfold lG;simp only[ax,bf,bC];omega
theorem ZG (n:Nd)(ns:List Nd)(j:Nat)(x:Int)(h:n.kids[j]? = some x):lG n ns (j+1)=if j=0 then lG n ns j++bJ ns x else (lG n ns j++[44])++bJ ns x:=by
 unfold lG;rw[Tg _ j (bJ ns x) (by rw[gY,h];rfl)];by_cases hj:j=0
 · subst hj;rw[ag rfl,ag rfl];simp[iZ]
 · rw[af hj,af hj];simp
theorem ZE (n:Nd)(ns:List Nd)(j:Nat)(h:n.kids.length≤j):lG n ns j=sb n.text++40 :: iZ (n.kids.map (bJ ns)):=by
 unfold lG;rw[mP (by rw[eF];exact h)]
theorem ait (C:oV w v l ns)(i:Nat)(n:Nd)(k:Value)(hi:l[i]? = some (n,k))(hk:n.kind=7)(hlen:(bJ ns (i:Int)).length≤1000000000)(IH:Gl w v ns i)(w1:World)(hb:Below w.heap.size w w1) :
 Calls Tryz.prog 18 #[v,.int .i64 (i:Int)] w1 (ShR ns i w1):=by
 obtain⟨iE,hil⟩:=C.node hi;have hlf:=C.leaf hi;have bW:=fe hi;have hll:i<l.length:=(eQ.1 hi).1;obtain⟨hz1,hz2,hz3⟩:=(show n.text.size≤1000000∧n.ref.sh.size≤1000000∧n.ai.sh.size≤1000000 from C.sizes _ bW);have bP:n.num≤9223372036854775807:=C.yG _ bW;have kW:=C.few;have HC:=ae C;obtain⟨A,cap,rfl⟩:=C.sn.rO;obtain⟨hsk,pb,po,rfl,hpb,hcell⟩:=C.sn.cellAt hi;obtain⟨bD,ck,hkk,hkc,dL,jk⟩:=id hsk;obtain⟨m,hm⟩:∃m,n.kids.length=m:=⟨_,rfl⟩;rw[hm]at hkk hkc;subst hkk;obtain⟨nl,hnl⟩:∃nl,l.length=nl:=⟨_,rfl⟩;rw[hnl]at hll kW ⊢;have hii:(i:Int)<(nl:Int):=by omega
 have hi0:(0:Int)≤(i:Int):=by omega
 have hmx:m≤9223372036854775807:=by unfold maxLen at dL;omega
 have HM:=ae hm;have jI:=ae hnl;have sF:=ae jk;have fC:=ae iE;have tY:=ae hlf;have wL:=ae hkc;have HB:=ae hb;have kR:=ae (wE C.tree (i:=(i:Int)) (by omega) (by omega) n iE);obtain⟨k0,k1,k2,k3,k4,k5,k6,k7,k8,k9,k10,k11,k12,k13⟩:=qB hb hpb hcell;have HK:=ae hk;have HT:=ae (show bJ ns (i:Int)=sb n.text++40 :: (iZ (n.kids.map (bJ ns))++[41])by rw[kR.o,af (by omega),af (by omega),af (by omega),af (by omega),af (by omega),af (by omega),ag hk]);have hjl:(iZ (n.kids.map (bJ ns))).length+n.text.size+2≤1000000000:=by rw[HT.o]at hlen;simp only[ax,bf,dX,bC]at hlen;omega
 have Ak:=ae (show ∀(j:Nat)(x:Int),n.kids[j]? = some x→∃y:Nat,x=(y:Int)∧∀w2,Below w.heap.size w w2→Calls Tryz.prog 18 #[.slice (some ⟨pb,po,none⟩) nl cap,.int .i64 (y:Int)] w2 (ShR ns y w2)from fun j x hx=>by
  obtain⟨y,e,hy, -⟩:=C.kid hi (fe hx);refine⟨y,e, ?_⟩;have hl:=Tf (n.kids.map (bJ ns)) j (bJ ns (y:Int)) (by rw[gY,hx,e];rfl);have:=IH y hy (by omega);rw[hnl]at this;exact this)
 clear IH;clear hk hlen;have hB3:Below w1.heap.size w1 (w1.alloc (.cells (aB n (.slice bD m ck)) 44)):=(ak _ _).alloc (aj _) _;have aM:az (w1.alloc (.cells (aB n (.slice bD m ck)) 44)) w1.heap.size n (.slice bD m ck):=az.new w1 n _;have HB3:=ae hB3;clear hB3 C hi bW hcell jk hkc dL hm hnl iE hlf hsk hb;go_enter Tryz.func18,Tryz.ntmps18;go_upto_region 2 with (fail)
 generalize hb3:w1.heap.size=b3 at aM ⊢;generalize w1.alloc (.cells (aB n (.slice bD m ck)) 44)=w3 at aM HB3 ⊢;clear hb3 k0 k1 k2 k3 k4 k5 k6 k7 k8 k9 k10 k11 k12 k13;obtain⟨x0,x1,x2,x3,x4,x5,x6,x7,av,aI,aF,aG,aH,aC⟩:=aM.cells;have hb3:=aM.lt;have aM:=ae aM;have hk:=HK.o;have e1:(n.kind == 1)=false:=by rw[hk];rfl
 have e2:(n.kind == 2)=false:=by rw[hk];rfl
 have e3:(n.kind == 3)=false:=by rw[hk];rfl
 have e4:(n.kind == 4)=false:=by rw[hk];rfl
 have e5:(n.kind == 5)=false:=by rw[hk];rfl
 have e6:(n.kind == 6)=false:=by rw[hk];rfl
 have e7:(n.kind == 7)=true:=by rw[hk];rfl
 clear hk;have tV:=ae (HB.o.trans (HB3.o.mono HB.o.size));have hzt:=hz1;have q0:¬ 9223372036854775807<n.text.size+(⟨#[40]⟩:ByteArray).size:=by show ¬ _<n.text.size+1;omega
 have q00:¬ 9223372036854775807<n.text.size+1:=by omega
 go_upto_region 20 with (fail)
 go_loopw [6,7] (fun tv iv wr=>∃(j:Nat),j≤m∧iv = .int .i64 (j:Int)∧tv = .string (strOfNums (lG n ns j))∧Hid (Below w3.heap.size w3 wr))
  (fun _ iv _=>m - (intOf iv).toNat)
 case atStart=>exact⟨0,ek _,rfl,congrArg Value.string (ZH n ns),ae (ak _ _)⟩
 case round =>
  obtain⟨j,hj,rfl,rfl,HW⟩:=hrel;have hcl:=ZF n ns j;have y13:=(HW.o.cell (p:=⟨b3,13,none⟩) hb3).trans aC;by_cases hlt:j<m
  · have hji:(j:Int)<(m:Int):=by omega
    have hj0:(0:Int)≤(j:Int):=by omega
    obtain⟨x,hx⟩:∃x,n.kids[j]? = some x:=⟨_,cZ (by rw[HM.o];exact hlt)⟩;have CB:=ZG n ns j x hx;obtain⟨y,rfl,wZ⟩:=Ak.o j x hx;have hsl:=Tf (n.kids.map (bJ ns)) j (bJ ns (y:Int)) (by rw[gY,hx];rfl);rcases sF.o with e|⟨kb,gF,rfl,hkb,xc⟩
    · exfalso;rw[e]at hx;simp at hx
    have RO:kb<w1.heap.size:=eB hkb HB.o.size;have d0:wr.cell? ⟨kb,gF+j,none⟩=some (.int .i64 (y:Int)):=(HW.o.cell (p:=⟨kb,gF+j,none⟩) (eB RO HB3.o.size)).trans ((HB3.o.cell (p:=⟨kb,gF+j,none⟩) RO).trans ((HB.o.cell (p:=⟨kb,gF+j,none⟩) hkb).trans (xc j _ hx)));have yR:=ae (wZ wr (tV.o.trans (HW.o.mono tV.o.size)));have hs1:(strOfNums (lG n ns j)).size=(lG n ns j).length:=strOfNums_size _;have hs2:(strOfNums (bJ ns (y:Int))).size=(bJ ns (y:Int)).length:=strOfNums_size _;by_cases h0:j=0
    · have hg:¬ (0:Int)<(j:Int):=by omega
      rw[ag h0]at CB;have eu:=ae (show strOfNums (lG n ns j)++strOfNums (bJ ns (y:Int))=strOfNums (lG n ns (j+1))by rw[CB,nz]);obtain⟨t,ht⟩:∃t,strOfNums (lG n ns j)=t:=⟨_,rfl⟩;rw[ht]at eu hs1 ⊢;have q1:¬ 9223372036854775807<t.size+(strOfNums (bJ ns (y:Int))).size:=by omega
      clear h0 CB wZ hx xc hs1 hs2 hsl hcl ht;go_wp2_with (go_at_call 18;((with_reducible refine yR.o.mono ?_);rintro e w4 ⟨rfl,h1⟩;have xW:=ae (HW.o.trans (h1.mono HW.o.size));clear h1))
      go_roundw
      case rel=>exact⟨j+1,by omega,by go_num,congrArg Value.string eu.o,xW⟩
      case measure=>simp[intOf];omega
    · have hg:(0:Int)<(j:Int):=by omega
      rw[af h0]at CB;have eu:=ae (show(strOfNums (lG n ns j)++⟨#[44]⟩)++strOfNums (bJ ns (y:Int))=strOfNums (lG n ns (j+1))by rw[CB,show(⟨#[44]⟩:ByteArray)=strOfNums [44]by decide,nz,nz]);obtain⟨t,ht⟩:∃t,strOfNums (lG n ns j)=t:=⟨_,rfl⟩;rw[ht]at eu hs1 ⊢;have q1:¬ 9223372036854775807<t.size+(⟨#[44]⟩:ByteArray).size:=by show ¬ _<t.size+1;omega
      have q2:(t++(⟨#[44]⟩:ByteArray)).size=t.size+1:=by rw[ByteArray.size_append];rfl
      have q3:¬ 9223372036854775807<t.size+1+(strOfNums (bJ ns (y:Int))).size:=by omega
      have q4:¬ 9223372036854775807<t.size+1:=by omega
      clear h0 CB wZ hx xc hs1 hs2 hsl hcl ht;go_wp2_with (go_at_call 18;((with_reducible refine yR.o.mono ?_);rintro e w4 ⟨rfl,h1⟩;have xW:=ae (HW.o.trans (h1.mono HW.o.size));clear h1))
      go_roundw
      case rel=>exact⟨j+1,by omega,by go_num,congrArg Value.string eu.o,xW⟩
      case measure=>simp[intOf];omega
  · have hji:¬ (j:Int)<(m:Int):=by omega
    have HE:=ae (show strOfNums (lG n ns j)++⟨#[41]⟩=strOfNums (bJ ns (i:Int))by
     rw[WE,nz,HT.o,ZE n ns j (by rw[HM.o];omega)];simp)
    have hs1:(strOfNums (lG n ns j)).size=(lG n ns j).length:=strOfNums_size _;obtain⟨t,ht⟩:∃t,strOfNums (lG n ns j)=t:=⟨_,rfl⟩;rw[ht]at HE hs1 ⊢;have q1:¬ 9223372036854775807<t.size+(⟨#[41]⟩:ByteArray).size:=by show ¬ _<t.size+1;omega
    have q4:¬ 9223372036854775807<t.size+1:=by omega
    clear hs1 hcl ht;go_wp2_with fail
    go_ret;exact⟨nu HE.o,HB3.o.trans (HW.o.mono HB3.o.size)⟩
theorem V6 (C:oV w v l ns):∀(m i:Nat),i<m→i<l.length→(bJ ns (i:Int)).length≤1000000000→∀w1,Below w.heap.size w w1→Calls Tryz.prog 18 #[v,.int .i64 (i:Int)] w1 (ShR ns i w1)
 | 0,_,h,_,_,_,_=>absurd h (by omega)
 | m+1,i,him,hil,hlen,w1,hb=>by
   have IH:Gl w v ns i:=fun j hj hl w2 hb2=>V6 C m j (by omega) (by omega) hl w2 hb2
   obtain⟨⟨n,k⟩,hi⟩:∃q,l[i]? = some q:=⟨_,cZ hil⟩;obtain⟨-, -, -,k1,k19, -⟩:=rz (C.leaf hi);have hk:n.kind=1∨n.kind=2∨n.kind=3∨n.kind=4∨n.kind=5∨n.kind=6∨n.kind=7∨n.kind=8∨9≤n.kind:=by omega
   rcases hk with h|h|h|h|h|h|h|h|h
   · exact ain C i n k hi h w1 hb
   · exact aio C i n k hi h w1 hb
   · exact aip C i n k hi h w1 hb
   · exact aiq C i n k hi h w1 hb
   · exact air C i n k hi h w1 hb
   · exact ais C i n k hi h w1 hb
   · exact ait C i n k hi h hlen IH w1 hb
   · exact aiu C i n k hi h hlen IH w1 hb
   · exact aiv C i n k hi h hlen IH w1 hb
theorem ajw (h:dA ns=true):0<ns.length:=by
 cases ns with
 | nil=>exact absurd h (by decide)
 | cons a l=>simp
theorem dN.pW (h:dN w b v vs)(hf:bI w w' b)(hw:b<w.heap.size):dN w' b v vs:=by
 obtain⟨⟨A,cap,h1,h2⟩,h3⟩:=h;refine⟨⟨A,cap,h1,h2.imp id ?_⟩,fun p hp=>(h3 p hp).pW hf (aj _) hw⟩;rintro⟨pb,po,e1,e2,e3⟩;exact⟨pb,po,e1,e2,fun i n k hi j hj=>(gK (a:=⟨pb,po+i*14+j,none⟩) (hf.block pb (by omega) (by omega) (.inl e2))).trans (e3 i n k hi j hj)⟩
theorem dN.lift {C:Nat}(h:dN w B v vs)(hb:Below B w w')(hC:B≤C):dN w' C v vs:=by
 obtain⟨⟨A,cap,h1,h2⟩,h3⟩:=h;refine⟨⟨A,cap,h1,h2.imp id ?_⟩,fun p hp => ?_⟩
 · rintro⟨pb,po,e1,e2,e3⟩
   exact⟨pb,po,e1,by omega,fun i n k hi j hj=>(hb.cell (p:=⟨pb,po+i*14+j,none⟩) e2).trans (e3 i n k hi j hj)⟩
 · obtain⟨A2,c2,g1,g2,g3,g4⟩:=h3 p hp
   refine⟨A2,c2,g1,g2,g3,g4.imp id ?_⟩;rintro⟨pb,po,e1,e2,e3⟩;exact⟨pb,po,e1,by omega,fun j x hj=>(hb.cell (p:=⟨pb,po+j,none⟩) e2).trans (e3 j x hj)⟩
def NQ(o:Option Value):Nat:=match o with|some (.slice _ n _)=>n|_=>0
theorem Wp {size:Nat}{E:Enc α size}{e:TypeId}{xs:List α}(h:Own E e w base v xs):NQ (some v)=xs.length:=by
 rcases h.shape with ⟨rfl,rfl⟩|⟨g,cap,rfl, -⟩
 · rfl
 · rfl
def oK(b L:Nat)(w:World):Nat:=2*(L - NQ (w.cell? ⟨b,3,none⟩)) - NQ (w.cell? ⟨b,1,none⟩)
theorem dW.oK {nv:Value}{st:List aD}{txt:List Int}(h:dW w b nv st txt)(L:Nat):oK b L w=2*(L - txt.length) - st.length:=by
 obtain⟨wv,⟨ad,bv,h1,_,h3,_⟩,h4⟩:=h;obtain⟨-,c1, -,c3⟩:=h1.facts;unfold Go.Proofs.YtbplbjmmfgjdjaaGreatDoor.oK;rw[c1,c3,Wp h4,Wp h3]
theorem dW.wait {nv:Value}{st:List aD}{txt:List Int}(h:dW w b nv st txt):∃A c,w.cell? ⟨b,1,none⟩=some (.slice A st.length c):=by
 obtain⟨wv,⟨ad,bv,h1, -⟩,h4⟩:=h;have c1:=h1.facts.2.1;rcases h4.shape with ⟨rfl,rfl⟩|⟨g,cap,rfl, -⟩
 · exact⟨_,_,c1⟩
 · exact⟨_,_,c1⟩
theorem agf (w:World)(v:Value)(vs:List (Nd × Value))(hv:Vars w)(nL:lU w)(GQ:q9 w)(hsh:rf w)(h:dN w w.heap.size v vs)(hz:SZ vs)(bP:∀q∈vs,q.1.num≤9223372036854775807)(hlen:(di (vs.map (·.1))).length≤1000000000)(ht:dA (vs.map (·.1))=true) :
 Calls Tryz.prog 26 #[v] w fun e w'=>e = .returned (.string (strOfNums (di (vs.map (·.1)))))∧Below w.heap.size w w':=by
 have hT:=U1 w v vs hv h hz ht;have HT:=ae hT;obtain⟨l,hl⟩:∃l,vs.map (·.1)=l:=⟨_,rfl⟩
 have mJ:0<vs.length:=by
  rcases Nat.eq_zero_or_pos vs.length with e|e
  · rw[List.length_eq_zero_iff.1 e]at ht;exact absurd ht (by decide)
  · exact e
 have hlv:l.length=vs.length:=by rw[← hl,eF]
 obtain⟨L,hL⟩:∃L,(di l).length=L:=⟨_,rfl⟩;rw[hl,hL]at hlen;have hpl:di l=bJ l ((l.length:Int) - 1):=by unfold di bJ;rw[ag (hl ▸ ht)]
 have hp0:kX l (aD.op ((l.length:Int) - 1) 1)=di l:=by rw[CY,Mg,hpl]
 have GV:kr l (aD.op ((l.length:Int) - 1) 1):=kr.op (by omega) (by omega) 1;rw[hlv]at hp0 GV;obtain⟨N,hN⟩:∃N,vs.length=N:=⟨_,rfl⟩;have hN9:N≤1000:=by rw[← hN];exact hz.1
 rw[hN]at hp0 GV mJ;have hw1:wrap64 ((N:Int) - 1)=(N:Int) - 1:=by unfold wrap64;omega
 obtain⟨A,cap,hva⟩:=h.rO;rw[hN]at hva;subst hva;have Yw:=ae h;have eY:=ae hz;have O4:=ae bP;have Po:=ae ht;have HL:=ae hl;have xM:=ae hL;have X9:=ae hp0;have X4:=ae GV;have XL:=ae (show lU w∧q9 w∧rf w from⟨nL,GQ,hsh⟩);rw[hl];clear hT hv nL GQ hsh h hz bP ht hl hL hpl hp0 GV hlv hN;go_enter Tryz.func26,Tryz.ntmps26;go_upto_region 3 with (go_at_call 20;((with_reducible refine HT.o.mono ?_);rintro e w1 ⟨rfl,h1⟩;have H1:=ae h1;clear h1))
 go_upto_region 4 with (fail)
 have hwr:il (w1.alloc (.cells #[.slice A N cap,.slice none 0 0,.pointer none,.slice none 0 0] 87)) w1.heap.size (.slice A N cap) (.slice none 0 0) (.pointer none) (.slice none 0 0):=(lu w1 _).1;have hB2:Below w1.heap.size w1 (w1.alloc (.cells #[.slice A N cap,.slice none 0 0,.pointer none,.slice none 0 0] 87)):=(ak _ _).alloc (aj _) _;obtain⟨b,hb⟩:∃b,w1.heap.size=b:=⟨_,rfl⟩;obtain⟨w2,hw2⟩:∃w2,w1.alloc (.cells #[.slice A N cap,.slice none 0 0,.pointer none,.slice none 0 0] 87)=w2:=⟨_,rfl⟩;have hwb:w.heap.size≤b:=by rw[← hb];exact H1.o.size
 have Ju:=ae (H1.o.trans (hB2.mono H1.o.size));rw[hw2]at hwr Ju ⊢;rw[hb]at hwr ⊢;have hbl:b<w2.heap.size:=hwr.lt;have mF:=ae (show dW w2 b (.slice A N cap) [] []from⟨_,⟨_,_,hwr,.inl rfl,Own.nil _ _ _ _,fun x hx=>absurd hx (by simp)⟩,Own.nil _ _ _ _⟩);have HG2:=ae (show nS w w2 b from⟨hwb,Ju.o,XL.o⟩);have Yx:=ae (Yw.o.lift Ju.o hwb);have qZ:=ae (fun (wr:World)(hr:Below w2.heap.size w2 wr)=>BD wr b (.slice A N cap) [] [aD.op ((N:Int) - 1) 1] [] #[.string ⟨#[]⟩,.int .i64 ((N:Int) - 1),.int .i64 1] 1 rfl rfl (mF.o.below hr) (by show 1≤1000000;decide) (ek _));clear hw2 hb hwr hB2 HT
 go_upto_region 5 with (first
  | (go_at_call 47;((with_reducible refine(EY _ _ _).mono ?_);rintro e w3 ⟨rfl,h3⟩;have HB3:=ae h3;clear h3))
  | (go_at_call 46;((with_reducible refine(qZ.o _ HB3.o).mono ?_);rintro e w4 ⟨rfl,h3,h4⟩;have Yf:=ae h3;have eD:=ae ((bI.iP HB3.o).trans h4);clear h3 h4)))
 go_loopw [] (fun wr=>∃(st:List aD)(txt:List Int),Hid (dW wr b (.slice A N cap) st txt)∧Hid (bI w2 wr b)∧Hid (∀p∈st,kr l p)∧Hid (txt++st.reverse.flatMap (kX l)=di l))
  (fun wr=>oK b L wr)
 case atStart=>exact⟨[aD.op ((N:Int) - 1) 1],[],Yf,eD,ae (fun p hp=>by rw[gM.1 hp];exact X4.o),ae (by show kX l (aD.op ((N:Int) - 1) 1)++[]=_;rw[gL];exact X9.o)⟩
 case round =>
  obtain⟨st,txt,HQ,HF,kF,HE⟩:=hrel;rcases List.eq_nil_or_concat st with rfl|⟨st',p,rfl⟩
  · obtain⟨Xu,cw,c1⟩:=HQ.o.wait
    rw[dX]at c1;have pG:=ae (show txt=di l from by have h:=HE.o;rw[List.reverse_nil,List.flatMap_nil,gL]at h;exact h);obtain⟨wv,hws, -⟩:=HQ.o;have YA:=ae (aiV wr b (.slice A N cap) wv txt hws (by rw[pG.o];exact HL.o ▸ Oh Po.o (fun n hn=>by obtain⟨q,hq,rfl⟩:=List.mem_map.1 hn;exact O4.o q hq)));clear hws;go_wp2_with (go_at_call 50;((with_reducible refine YA.o.mono ?_);rintro e w5 ⟨rfl,h3⟩;have gB:=ae h3;clear h3))
    go_ret;refine⟨by rw[pG.o] <;> rfl, ?_⟩;have hg:=((HG2.o.pW HF.o)).2.1;exact hg.trans ((gB.o.mono (by omega)))
  · rw [List.concat_eq_append]at HQ kF HE
    obtain⟨Xu,cw,c1⟩:=HQ.o.wait;rw[ax,fo]at c1;obtain⟨M,hM⟩:∃M:Nat,st'.length+1=M:=⟨_,rfl⟩;have hM0:(0:Int)<(M:Int):=by omega
    rw[hM]at c1;have htr:dA l=true:=by rw[← HL.o];exact Po.o
    have hpk:kr l p:=kF.o p (by simp);have hE:=HE.o;rw[List.reverse_append,List.reverse_singleton,qj,qm]at hE;have hE2:=congrArg List.length hE;rw[ax,ax,xM.o]at hE2;have hfl:=GH htr st'.reverse (fun q hq=>kF.o q (List.mem_append_left _ (List.mem_reverse.1 hq)));rw[List.length_reverse]at hfl;have Lm:=WB htr p hpk;have Rp:=congrArg List.length Lm;rw[ax]at Rp;have hSF:=GH htr _ (NT htr p hpk);have hSM:=aiQ htr p hpk;have Ya:=ae (af9 wr b (.slice A N cap) st' p txt HQ.o (by omega));have Ps:=ae (fun (w5:World)(h5:dW w5 b (.slice A N cap) st' txt)(hf:iM wr w5 b)=>aj6 w w5 b (.slice A N cap) vs st' txt p (HG2.o.pW (HF.o.trans (bI.uO hf))) h5 (Yx.o.pW (HF.o.trans (bI.uO hf)) hbl) eY.o (by rw[HL.o];exact htr) O4.o (by rw[HL.o];exact hpk) (by rw[HL.o];omega) (by rw[HL.o];omega));rw[HL.o]at Ps
    have Yh:=ae (fun (w6:World)(hq:dW w6 b (.slice A N cap) (st'++(ny l p).2.reverse) (txt++(ny l p).1))=>show oK b L w6<oK b L wr from by
     rw[hq.oK,HQ.o.oK,ax,ax,ax,List.length_reverse,fo];omega)
    have JC:=ae (show(txt++(ny l p).1)++(st'++(ny l p).2.reverse).reverse.flatMap (kX l)=di l from by
     rw[List.reverse_append,List.reverse_reverse,List.flatMap_append,bQ txt, ← bQ (ny l p).1, ← Lm];exact hE)
    have X6:=ae (show ∀q∈st'++(ny l p).2.reverse,kr l q from fun q hq=>by
     rcases dQ.1 hq with hq|hq
     · exact kF.o q (List.mem_append_left _ hq)
     · exact NT htr p hpk q (List.mem_reverse.1 hq))
    clear hE hE2 hfl Lm Rp hSF hSM hM
    go_wp2_with (first
     | (go_at_call 49;((with_reducible refine Ya.o.mono ?_);rintro e w5 ⟨rfl,h3,h4⟩;have sK:=ae h3;have bq:=ae h4;clear h3 h4))
     | (go_at_call 48;((with_reducible refine(Ps.o _ sK.o bq.o).mono ?_);rintro e w6 ⟨rfl,h3,h4⟩;have xR:=ae h3;have eG:=ae h4;clear h3 h4)))
    go_roundw
    case rel=>exact⟨_,_,xR,ae (HF.o.trans ((bI.uO bq.o).trans eG.o)),X6,JC⟩
    case measure=>exact Yh.o _ xR.o
theorem afm (h:dD n=true)(h1:n.ref.sh.size≤1000000)(h2:n.ai.sh.size≤1000000):zi n:=by
 have hz:∀f:bL,fQ f=true→f.r≤1000000∧f.c≤1000000:=fun f hf=>by rw[Ur hf];exact⟨by decide,by decide⟩
 have hm:∀f:bL,bX f=true→f.r≤1000000∧f.c≤1000000:=fun f hf=>by have:=TW hf;omega
 by_cases k5:n.kind=5
 · have hf:=Vq h k5
   exact⟨(hm _ hf.may).1,(hm _ hf.may).2,(hz _ hf.ai).1,(hz _ hf.ai).2,h1,h2⟩
 by_cases k6:n.kind=6
 · have hf:=Nf h k6
   exact⟨(hm _ hf.may).1,(hm _ hf.may).2,(hm _ hf.TV).1,(hm _ hf.TV).2,h1,h2⟩
 have hl:=MQ h;unfold aO at hl;split at hl
 · cases hl
 rename_i c
 have hr:fQ n.ref=true:=by
  cases e:fQ n.ref with
  | true=>rfl
  | false=>exact absurd (.inr (.inr (.inl ⟨k5,k6,e⟩))) c
 have ht:fQ n.ai=true:=by
  cases e:fQ n.ai with
  | true=>rfl
  | false=>exact absurd (.inr (.inr (.inr ⟨k6,e⟩))) c
 exact⟨(hz _ hr).1,(hz _ hr).2,(hz _ ht).1,(hz _ ht).2,h1,h2⟩
theorem WX:∀(l:List Nd)(st:List Int)(i:Nat),nQ st i l=true→st.length≤i→∀n∈l,n.kids.length≤i+l.length
 | [],_,_,_,_,n,hn=>by cases hn
 | m :: l,st,i,h,hi,n,hn=>by
   rw[nR,j6,j6,j6]at h;have h2:m.kids.length≤st.length:=of_decide_eq_true h.2.1;rcases ik.1 hn with rfl|hn
   · rw[bf];omega
   · have:=WX l _ _ h.2.2.2 (by rw[ax,gW];show _+1≤_;omega) n hn
     rw[bf];omega
theorem Un (ht:dA (l.map (·.1))=true)(hz:SZ l):PH l :=
 ⟨hz.1,fun p hp=>afm (Oi _ [] 0 ht p.1 (r9 hp)) (hz.2 p hp).2.1 (hz.2 p hp).2.2,fun p hp=>by
  have:=WX _ [] 0 ht (aj _) p.1 (r9 hp);have:=hz.1;rw[eF]at *;omega⟩
def Gd (w:World)(own:ByteArray)(ss:List Sf)(ns:List Nd)(e:Ending)(w':World):Prop :=
 ∃T done,e = .returned (.slice (some ⟨T,0,none⟩) ns.length ns.length)∧dN w' w'.heap.size (.slice (some ⟨T,0,none⟩) ns.length ns.length) done∧done.map (·.1)=jo own ss ns∧Below w.heap.size w w'∧w.heap.size≤T
theorem Uh (w:World)(own:ByteArray)(xs:List aP)(A B:Option Addr)(n cap m c:Nat)(l:List (Nd × Value))(hv:Vars w)(hS:mW w w.heap.size (.slice B m c) xs)(hm:m≤1000000)(hO:∀x∈xs,mV x.s)(ho:own.size≤maxLen)(hs:dN w w.heap.size (.slice A n cap) l)(hz:SZ l)(ht:dA (l.map (·.1))=true) :
 Calls Tryz.prog 9 #[.slice A n cap,.string own,.slice B m c] w (Gd w own (eH xs) (l.map (·.1))):=by
 have hl:l.length=n:=by obtain⟨⟨A',c',e,_⟩,_⟩:=hs;injection e with _ e _;exact e.symm
 have HT:=ae (U1 w _ l hv hs hz ht);have DX:=ae (fun (wq:World)(hq:Below w.heap.size w wq)=>aeM wq own B m c xs (hS.lift hq) hm);have XF:=ae (fun (wq:World)(hq:Below w.heap.size w wq)(mb:Nat)(hM:jy wq mb (rP xs))=>aew wq own mb xs A n cap l hM (fun x hx=>(hS.2 x hx).lift hq) hO ho ((hs.lift hq hq.size)) hl (Un ht hz));unfold Gd;rw[eF,hl];clear hv hS hm hO ho hs hz ht hl;go_enter Tryz.func9,Tryz.ntmps9
 go_wp2_with (first
  | (go_at_call 20;((with_reducible refine HT.o.mono ?_);rintro e w2 ⟨rfl,hq⟩;have H2:=ae hq;clear hq))
  | (go_at_call 22;((with_reducible refine(DX.o _ H2.o).mono ?_);rintro e w3 ⟨mb,rfl,h1,h2,hq⟩;have H3:=ae (H2.o.trans (hq.mono H2.o.size));have uf:=ae h2;clear hq h1 h2))
  | (go_at_call 21;((with_reducible refine(XF.o _ H3.o mb uf.o).mono ?_);rintro e w4 ⟨done,rfl,h1,h2,hq⟩;have H4:=ae (H3.o.trans (hq.mono H3.o.size));have HD1:=ae h1;have HD2:=ae h2;clear hq h1 h2)))
 go_ret;exact⟨_,done,rfl,HD1.o,HD2.o,H4.o,H3.o.size⟩
def kdL:List Int→Int
 | []=>0
 | c :: _=>if c=39 then 1 else if c=61 then 2 else if c=45∨isNum c=true then 3 else 4
def kd(s:ByteArray):Int:=kdL (sb s)
structure Sx (w:World):Prop where
 vars:Vars w
 ops:nY w
 tab:lU w
 max:q9 w
 sh:rf w
theorem Sx.below(h:Sx w)(hb:Below w.heap.size w w'):Sx w':=⟨h.vars.below hb,h.ops.below hb,h.tab.below hb,h.max.below hb,h.sh.below hb⟩
theorem Sx.UX (h:Sx w)(v:Value)(vs:List (Nd × Value))(hs:dN w w.heap.size v vs)(hz:SZ vs)(bP:∀q∈vs,q.1.num≤9223372036854775807)(hlen:(di (vs.map (·.1))).length≤1000000000)(ht:dA (vs.map (·.1))=true) :
 Calls Tryz.prog 26 #[v] w fun e w'=>e = .returned (.string (strOfNums (di (vs.map (·.1)))))∧Below w.heap.size w w':=agf w v vs h.vars h.tab h.max h.sh hs hz bP hlen ht
def Gn(M:Nat)(t:ah):Prop:=t.text.size≤M∧t.sh.size≤M
def vE(M:Nat)(n:Nd):Prop:=n.text.size≤M∧n.ref.sh.size≤M∧n.ai.sh.size≤M
def nK(M:Nat)(ts:List ah):Prop:=∀t∈ts,Gn M t
def mo(M:Nat)(ns:List Nd):Prop:=∀n∈ns,vE M n
theorem nK.tail(h:nK M ts):nK M ts.tail:=fun t ht=>h t (List.mem_of_mem_tail ht)
theorem mo.app{a b:List Nd}(h:mo M a)(k:mo M b):mo M (a++b):=fun n hn=>(dQ.1 hn).elim (h n) (k n)
theorem mo.one(h:vE M n):mo M [n]:=fun m hm=>by rw[gM]at hm;subst hm;exact h
theorem vE.plain(M:Nat)(k n:Int)(ks:List Int):vE M { Nd.zero with kind:=k,num:=n,kids:=ks }:=⟨ek _,ek _,ek _⟩
theorem agM {a:Nat}{r:List ah}(ht:Gn M t)(hs:nK M ts)(h:jM base t ts = .ok (ns,a,r)):mo M ns∧nK M r:=by
 unfold jM at h;split at h
 · split at h
   · rename_i u us hu
     split at h
     · injection h with h;injection h with h1 h2;injection h2 with h2 h3
       subst h1;subst h3;have Sy:nK M (u :: us):=by rw[← hu];exact hs.tail
       exact⟨mo.one ⟨ek _,ht.2,(Sy u (by simp)).2⟩,fun x hx=>Sy x (by simp[hx])⟩
     · cases h
   · cases h
 · injection h with h;injection h with h1 h2;injection h2 with h2 h3
   subst h1;subst h3;exact⟨mo.one ⟨ek _,ht.2,ek _⟩,hs⟩
theorem Wl (M:Nat):∀f:Nat,(∀n deep base ts ns a r,eZ f n deep base ts=some (.ok (ns,a,r))→nK M ts→mo M ns∧nK M r) ∧
 (∀n deep base ns a ts ns' a' r,iK f n deep base ns a ts=some (.ok (ns',a',r))→nK M ts→mo M ns→mo M ns'∧nK M r) ∧
 (∀deep base ts ns a r,jF f deep base ts=some (.ok (ns,a,r))→nK M ts→mo M ns∧nK M r) ∧
 (∀deep base ns ks ts ns' ks' r,iq f deep base ns ks ts=some (.ok (ns',ks',r))→nK M ts→mo M ns→mo M ns'∧nK M r)
 | 0=>by
   refine⟨?_, ?_, ?_, ?_⟩
   · intro n deep base ts ns a r h;unfold eZ at h;cases h
   · intro n deep base ns a ts ns' a' r h;unfold iK at h;cases h
   · intro deep base ts ns a r h;unfold jF at h;cases h
   · intro deep base ns ks ts ns' ks' r h;unfold iq at h;cases h
 | f + 1 => by
   obtain⟨i1,i2,i3,i4⟩:=Wl M f;refine⟨?_, ?_, ?_, ?_⟩
   · intro n deep base ts ns a r h ht
     rw[lW]at h;by_cases c:n≤3
     · rw [ag c]at h
       rcases eO h with ⟨e,_,h2⟩|⟨ms,b,s,h1,h2⟩
       · cases h2
       · obtain⟨k1,k2⟩:=i1 _ _ _ _ _ _ _ h1 ht
         exact i2 _ _ _ _ _ _ _ _ _ h2 k2 k1
     · rw [af c]at h
       by_cases d:ay ⟨#[45]⟩ ts=true
       · rw [ag d]at h
         by_cases d2:12≤deep
         · rw[ag d2]at h;cases h
         · rw [af d2]at h
           rcases eO h with ⟨e,_,h2⟩|⟨ms,b,s,h1,h2⟩
           · cases h2
           · obtain⟨k1,k2⟩:=i1 _ _ _ _ _ _ _ h1 ht.tail
             injection h2 with h2;injection h2 with h2;injection h2 with h3 h4;injection h4 with h4 h5;subst h3;subst h4;subst h5;exact⟨k1.app (mo.one (vE.plain _ _ _ _)),k2⟩
       · rw[af d]at h;exact i3 _ _ _ _ _ _ h ht
   · intro n deep base ns a ts ns' a' r h ht hn
     rw[qL]at h;by_cases c:fH n ts=0
     · rw[ag c]at h
       injection h with h;injection h with h;injection h with h1 h2;injection h2 with h2 h3;subst h1;subst h2;subst h3;exact⟨hn,ht⟩
     · rw [af c]at h
       rcases eO h with ⟨e,_,h2⟩|⟨ms,b,s,h1,h2⟩
       · cases h2
       · obtain⟨k1,k2⟩:=i1 _ _ _ _ _ _ _ h1 ht.tail
         exact i2 _ _ _ _ _ _ _ _ _ h2 k2 (hn.app (k1.app (mo.one (vE.plain _ _ _ _))))
   · intro deep base ts ns a r h ht
     cases ts with
     | nil=>rw[zN]at h;cases h
     | cons t ts =>
       have h0:Gn M t:=ht t (by simp);have hts:nK M ts:=fun x hx=>ht x (by simp[hx])
       have leaf:∀(x:Nd),vE M x→(some (.ok ([x],base,ts)):Option eT)=some (.ok (ns,a,r))→mo M ns∧nK M r:=by
        intro x hk h;injection h with h;injection h with h;injection h with h1 h2;injection h2 with h2 h3;subst h1;subst h2;subst h3;exact⟨mo.one hk,hts⟩
       rw[l7]at h;by_cases c1:ay ⟨#[40]⟩ (t :: ts)=true
       · rw [ag c1]at h
         by_cases d2:12≤deep
         · rw[ag d2]at h;cases h
         · rw [af d2]at h
           rcases eO h with ⟨e,_,h2⟩|⟨ms,b,s,h1,h2⟩
           · cases h2
           · obtain ⟨k1,k2⟩:=i1 _ _ _ _ _ _ _ h1 hts
             split at h2
             · injection h2 with h2;injection h2 with h2;injection h2 with h3 h4;injection h4 with h4 h5
               subst h3;subst h4;subst h5;exact⟨k1,k2.tail⟩
             · cases h2
       rw[af c1]at h;by_cases c2:t.kind=1
       · rw[ag c2]at h;exact leaf _ (vE.plain _ _ _ _) h
       rw[af c2]at h;by_cases c3:t.kind=2
       · rw[ag c3]at h;exact leaf _ ⟨h0.1,ek _,ek _⟩ h
       rw[af c3]at h;by_cases c4:t.kind=6
       · rw[ag c4]at h;exact leaf _ (vE.plain _ _ _ _) h
       rw[af c4]at h;by_cases c5:t.kind=4
       · rw[ag c5]at h;injection h with h;exact agM h0 hts h
       rw[af c5]at h;by_cases c6:t.kind=3
       · rw [ag c6]at h
         by_cases e1:t.text=⟨#[84,82,85,69]⟩
         · rw[ag e1]at h;exact leaf _ (vE.plain _ _ _ _) h
         rw[af e1]at h;by_cases e2:t.text=⟨#[70,65,76,83,69]⟩
         · rw[ag e2]at h;exact leaf _ (vE.plain _ _ _ _) h
         rw[af e2]at h;by_cases e3:ay ⟨#[40]⟩ ts=true
         · rw [ag e3]at h
           by_cases d2:12≤deep
           · rw[ag d2]at h;cases h
           · rw [af d2]at h
             rcases eO h with ⟨e,_,h2⟩|⟨ms,ks,s,h1,h2⟩
             · cases h2
             · have hk:mo M ms∧nK M s:=by
                split at h1
                · injection h1 with h1;injection h1 with h1;injection h1 with h3 h4;injection h4 with h4 h5
                  subst h3;subst h5;exact⟨fun _ h=>absurd h (by simp),hts.tail⟩
                · exact i4 _ _ _ _ _ _ _ _ h1 hts.tail (fun _ h=>absurd h (by simp))
               split at h2
               · injection h2 with h2;injection h2 with h2;injection h2 with h3 h4;injection h4 with h4 h5
                 subst h3;subst h4;subst h5;exact⟨hk.1.app (mo.one ⟨h0.1,ek _,ek _⟩),hk.2.tail⟩
               · cases h2
         · rw[af e3]at h;cases h
       · rw[af c6]at h;cases h
   · intro deep base ns ks ts ns' ks' r h ht hn
     rw[pO]at h;rcases eO h with ⟨e,_,h2⟩|⟨ms,b,s,h1,h2⟩
     · cases h2
     · obtain ⟨k1,k2⟩:=i1 _ _ _ _ _ _ _ h1 ht
       split at h2
       · exact i4 _ _ _ _ _ _ _ _ h2 k2.tail (hn.app k1)
       · injection h2 with h2;injection h2 with h2;injection h2 with h3 h4;injection h4 with h4 h5
         subst h3;subst h4;subst h5;exact⟨hn.app k1,k2⟩
theorem UL (h:j4 f ts=some (.ok ns))(ht:nK M ts):mo M ns:=by
 unfold j4 at h;rcases eO h with ⟨e,_,h2⟩|⟨ms,b,s,h1,h2⟩
 · cases h2
 · split at h2
   · injection h2 with h2;injection h2 with h2;subst h2
     exact((Wl M f).1 _ _ _ _ _ _ _ h1 ht).1
   · cases h2
theorem NW{l:List Int}(h:Bytes l):(strOfNums l).size=l.length:=by rw[← bC,jN _ h]
theorem Nc:∀(n:Nat)(l:List Int)(t:List Int)(k:Nat),l.length≤n→eU l=some (t,k)→t.length≤l.length
 | _,[],_,_,_,h=>by simp[eU]at h
 | 0,_ :: _,_,_,hn,_=>by simp at hn
 | n + 1, x :: l,t,k,hn,h=>by
   rw[uR]at h;by_cases h1:x<32
   · rw[ag h1]at h;cases h
   · rw [af h1]at h
     by_cases h2:x≠34
     · rw [ag h2]at h
       cases hq:eU l with
       | none=>rw[hq]at h;cases h
       | some q =>
         rw[hq]at h;simp only[jq,aZ,bH]at h;have:=Nc n l q.1 q.2 (by simp at hn;omega) hq;rw[← h.1];simp only[bf];omega
     · rw [af h2]at h
       cases l with
       | nil=>simp only[aZ,bH]at h;rw[← h.1];simp
       | cons y m =>
         simp only at h;by_cases h3:y=34
         · rw [ag h3]at h
           cases hq:eU m with
           | none=>rw[hq]at h;cases h
           | some q =>
             rw[hq]at h;simp only[jq,aZ,bH]at h;have:=Nc n m q.1 q.2 (by simp at hn;omega) hq;rw[← h.1];simp only[bf];omega
         · rw[af h3]at h
           simp only[aZ,bH]at h;rw[← h.1];simp
theorem ai7 (sh:List Int)(c r:Int)(ac ar:Bool)(hm:dO sh c r=true):sh.length≤(bE sh c r ac ar).length:=by
 unfold bE;rw[ag hm];by_cases h:sh=[]
 · rw[h];exact ek _
 · rw[af h];simp only[ax];omega
theorem ajl (l:List Int)(t:ah)(n p M:Nat)(hb:Bytes l)(hM:l.length≤M)(h:fJ l=some (t,n)):Gn M (t.goto p):=by
 have z:(⟨#[]⟩:ByteArray).size≤M:=ek _;cases l with
 | nil=>simp[fJ]at h
 | cons x l =>
   have uJ:∀q:Int→Bool,((x :: l).takeWhile q).length≤M:=fun q=>bN (BM q _) hM
   rw[rX]at h;by_cases h1:isNum x=true
   · rw [ag h1]at h
     unfold lJ at h;split at h
     · cases h
     · simp only[aZ,bH]at h
       rw[← h.1];exact⟨z,z⟩
   · rw [af h1]at h
     by_cases h2:x=34
     · rw [ag h2]at h
       unfold lK at h;cases hq:eU l with
       | none=>rw[hq]at h;cases h
       | some q =>
         rw[hq]at h;simp only[jq,aZ,bH]at h;obtain⟨g1,g2⟩:=C9 _ l q.1 q.2 (aj _) (fun y hy=>hb y (by simp[hy])) hq;rw[← h.1];refine⟨?_,z⟩;show(strOfNums q.1).size≤M;rw[NW g1];have:=Nc _ l q.1 q.2 (aj _) hq;simp only[bf]at hM;omega
     · rw [af h2]at h
       by_cases h3:x=35
       · rw [ag h3]at h
         unfold qC at h;split at h
         · simp only[aZ,bH]at h
           rw[← h.1];exact⟨z,z⟩
         · cases h
       · rw [af h3]at h
         by_cases h4:isLet x=true∨x=36
         · rw [ag h4]at h
           unfold nD at h;cases hq:iA (strOfNums ((x :: l).takeWhile isWord))with
           | some d =>
             rw[hq]at h;simp only[aZ,bH]at h;rw[← h.1];refine⟨z, ?_⟩;show d.sh.size≤M;have e:=(yH _ d hq).2.2;rw[jN _ (hb.span isWord)]at e;have k1:=ai7 (sb d.sh) d.c d.r d.ac d.ar (yH _ d hq).2.1;rw[e,bC]at k1;exact bN k1 (uJ isWord)
           | none =>
             rw[hq]at h;simp only at h;by_cases hc:jL ((x :: l).takeWhile isWord)=true
             · rw[ag hc]at h
               simp only[aZ,bH]at h;rw[← h.1];refine⟨?_,z⟩;show(strOfNums ((x :: l).takeWhile isWord)).size≤M;rw[NW (hb.span isWord)];exact uJ isWord
             · rw[af hc]at h;cases h
         · rw [af h4]at h
           unfold o9 at h;split at h
           · cases h
           · simp only[aZ,bH]at h
             rw[← h.1];refine⟨?_,z⟩;show(strOfNums ((x :: l).take (lM (x :: l)))).size≤M;rw[NW (fun y hy=>hb y (List.mem_of_mem_take hy)),gW];omega
theorem Hw (M:Nat):∀(f p:Nat)(l:List Int)(ts:List ah),Bytes l→l.length≤M→fE f p l=some ts→nK M ts
 | f,p,[],ts,_,_,h=>by
   have h0:fE f p []=some [ah.zero.goto p]:=by unfold fE;rfl
   rw[h0]at h;injection h with h;subst h;intro t ht;rw[gM]at ht;subst ht;exact⟨ek _,ek _⟩
 | 0,_,_ :: _,_,_,_,h=>by unfold fE at h;cases h
 | f + 1,p,x :: l,ts,hb,hM,h=>by
   have hbl:Bytes l:=fun y hy=>hb y (by simp[hy])
   rw[tq]at h;by_cases hx:x=32
   · rw[ag hx]at h
     exact Hw M f (p+1) l ts hbl (by simp only[bf]at hM;omega) h
   · rw [af hx]at h
     cases hq:fJ (x :: l)with
     | none=>rw[hq]at h;cases h
     | some q =>
       obtain⟨t0,n⟩:=q;rw[hq]at h;simp only[Option.map_eq_some_iff]at h;obtain⟨us,h1,rfl⟩:=h;have k1:=Hw M f (p+n) _ us (fun y hy=>hb y (List.mem_of_mem_drop hy)) (by rw[lq];omega) h1;intro t ht;rcases ik.1 ht with rfl|ht
       · exact ajl (x :: l) t0 n p M hb hM hq
       · exact k1 t ht
theorem ajk (l:List Int)(t:ah)(n:Nat)(h:fJ l=some (t,n)):t.num≤9223372036854775807:=by
 cases l with
 | nil=>simp[fJ]at h
 | cons x l =>
   rw[rX]at h;split at h
   · unfold lJ at h
     split at h
     · cases h
     · simp only[aZ,bH]at h
       rw[← h.1];show dG _≤_;omega
   split at h
   · unfold lK at h
     cases hq:eU l with
     | none=>rw[hq]at h;cases h
     | some q =>
       rw[hq]at h;simp only[jq,aZ,bH]at h;rw[← h.1];show(0:Int)≤_;omega
   split at h
   · unfold qC at h
     split at h
     · simp only[aZ,bH]at h
       rw[← h.1];show(0:Int)≤_;omega
     · cases h
   split at h
   · unfold nD at h
     split at h
     · simp only[aZ,bH]at h
       rw[← h.1];show(0:Int)≤_;omega
     · split at h
       · simp only[aZ,bH]at h
         rw[← h.1];show(0:Int)≤_;omega
       · cases h
   · unfold o9 at h
     split at h
     · cases h
     · simp only[aZ,bH]at h
       rw[← h.1];show(0:Int)≤_;omega
theorem Tok.num (h:Tok t):t.num≤9223372036854775807:=by
 have:=ajk _ _ _ h.2.1;exact this
theorem Tok.pos(h:Tok t):1≤(dU t).length:=(rY _ _ _ h.2.1).1
theorem Ox {n rk d:Nat}{d':Nat}{ts':List ah}(h:Wr n rk d ts d' ts'):ts.length≤ts'.length∧∀t∈ts,t∈ts':=by
 rcases h with ⟨_,rfl,_⟩|⟨_,_,l,r,_,_,rfl⟩
 · exact⟨aj _,fun _ h=>h⟩
 · exact⟨by simp;omega,fun t ht=>by simp[ht]⟩
theorem ah9 {m:Bool}{rk d:Nat}(h:Sh m base ns ks ts rk d):(∀t∈ts,t.num≤9223372036854775807)→ns.length≤ts.length∧∀n∈ns,n.num≤9223372036854775807:=by
 induction h with
 | leaf base ts nd h =>
   intro ht;refine⟨by cases h <;> simp,fun n hn => ?_⟩;rw[gM.1 hn];cases h with
   | num t h=>exact ht t (by simp)
   | yes t h g=>show(1:Int)≤_;omega
   | _=>show(0:Int)≤_;omega
 | neg base ns a ts rk d h m hm d' ts' hw ih =>
   intro ht;obtain⟨w1,w2⟩:=Ox hw;obtain⟨g1,g2⟩:=ih fun t h=>ht t (List.mem_cons_of_mem _ (w2 t h))
   refine⟨by simp only[ax,bf,dX];omega,fun n hn => ?_⟩;rcases dQ.1 hn with hn|hn
   · exact g2 n hn
   · rw[gM.1 hn];show(0:Int)≤_;omega
 | op base o ho ns ms a b ts us qd mO d1 d2 h g s hs e1 e2 ts' lg hw gw ih ky =>
   intro ht;obtain⟨w1,w2⟩:=Ox hw;obtain⟨x1,x2⟩:=Ox gw;obtain⟨g1,g2⟩:=ih fun t h=>ht t (List.mem_append_left _ (w2 t h))
   obtain⟨y1,y2⟩:=ky fun t h=>ht t (List.mem_append_right _ (List.mem_cons_of_mem _ (x2 t h)))
   refine⟨by simp only[ax,bf,dX];omega,fun n hn => ?_⟩;rcases dQ.1 hn with hn|hn
   · exact g2 n hn
   rcases dQ.1 hn with hn|hn
   · exact y2 n hn
   · rw[gM.1 hn];show(0:Int)≤_;omega
 | call base ns ks ts d h t l r =>
   rename_i ih
   intro ht;obtain⟨g1,g2⟩:=ih fun t h=>ht t (by simp[h])
   refine⟨by simp only[ax,bf,dX];omega,fun n hn => ?_⟩;rcases dQ.1 hn with hn|hn
   · exact g2 n hn
   · rw[gM.1 hn];show(0:Int)≤_;omega
 | none base=>intro _;exact⟨aj _,fun n hn=>by cases hn⟩
 | one base ns a ts rk d h ih=>exact ih
 | and base ns ms ks b ts us rk d1 d2 h hk c hc g ih ky =>
   intro ht;obtain⟨g1,g2⟩:=ih fun t h=>ht t (List.mem_append_left _ h)
   obtain⟨y1,y2⟩:=ky fun t h=>ht t (List.mem_append_right _ (List.mem_cons_of_mem _ h))
   refine⟨by simp only[ax,bf];omega,fun n hn => ?_⟩;rcases dQ.1 hn with hn|hn
   · exact g2 n hn
   · exact y2 n hn
theorem Xe:∀ts:List ah,(∀t∈ts,Tok t)→ts.length≤(iF ts).length
 | [],_=>ek _
 | t :: ts,h=>by
   have ih:=Xe ts fun u hu=>h u (List.mem_cons_of_mem _ hu)
   have h1:=(h t (by simp)).pos;rw[lN,ax,bf];omega
theorem Ol:∀ts:List ah,(∀t∈ts,Tok t)→Bytes (iF ts)
 | [],_=>fun x hx=>by cases hx
 | t :: ts,h=>fun x hx=>by
   rw[lN]at hx;rcases dQ.1 hx with hx|hx
   · exact(h t (by simp)).2.2 x hx
   · exact Ol ts (fun u hu=>h u (List.mem_cons_of_mem _ hu)) x hx
theorem Ef (s:ByteArray)(ns:List Nd)(h:gZ s (.ok ns)):(ns.length≤300∧0<ns.length∧dA ns=true)∧(∀n∈ns,n.num≤9223372036854775807)∧(di ns).length≤s.size∧s.size≤300∧gZ (strOfNums (di ns)) (.ok ns):=by
 rcases h with ⟨_,h⟩|⟨_,_,h⟩|⟨h0,ts,f,h1,h2⟩
 · cases h
 · cases h
 · have hb:Bytes (sb s):=fun x hx=>uS s x hx
   have ht:=UO h2 (Hy s ts h1).1;obtain⟨us,qM,d,a,g1,g2,g3,g4,g5⟩:=WV hb h1 h2;rw[bC]at g4;obtain⟨k1,k2⟩:=ah9 g1 fun t h=>(g3 t h).num
   have k3:=Xe us g3;obtain⟨p1,vs,g,p2,p3⟩:=age hb h1 h2 ht;rw[bC]at p1
   have mJ:0<ns.length:=by
    cases ns with
    | nil=>exact absurd ht (by decide)
    | cons n ns=>simp
   have hby:Bytes (di ns):=by
    rw[Dl g1 ht];exact Ol us g3
   refine⟨⟨by omega,mJ,ht⟩,k2,p1,h0,.inr (.inr ⟨by rw[strOfNums_size];omega,vs,g,by rw[jN _ hby];exact p2,p3⟩)⟩
theorem PL (s:ByteArray)(ns:List Nd)(h:gZ s (.ok ns)):∀n∈ns,n.text.size≤1000000∧n.ref.sh.size≤1000000∧n.ai.sh.size≤1000000:=by
 rcases h with ⟨_,h⟩|⟨_,_,h⟩|⟨h0,ts,f,h1,h2⟩
 · cases h
 · cases h
 · exact UL h2 (Hw 1000000 _ _ _ _ (fun x hx=>uS s x hx) (by rw[bC];omega) h1)
theorem UN (s:ByteArray)(w:World)(hx:Sx w)(ns:List Nd)(hp:gZ s (.ok ns)) :
 Calls Tryz.prog 45 #[.string s] w fun e w'=>Below w.heap.size w w'∧∃g cap vs,e = .returned (.tuple #[.slice (some ⟨g,0,none⟩) ns.length cap,.int .i64 0])∧vs.map Prod.fst=ns∧dN w' w'.heap.size (.slice (some ⟨g,0,none⟩) ns.length cap) vs:=by
 refine(afZ s w hx.vars hx.ops ns hp (Ef s ns hp).1.2.1).mono ?_;rintro e w' ⟨hb,g,cap,vs,he,h1,h2,h3, -⟩;exact⟨hb,g,cap,_,he,(NR vs).trans h1,h3.sn h2⟩
def dZ{α : Type}(x:Option (Except Int α)):Prop:=∀c,x=some (.error c)→c=5∨c=6
theorem dZ.non:dZ (none:Option (Except Int α)):=fun c h=>by cases h
theorem dZ.ok(v : α):dZ (some (.ok v):Option (Except Int α)):=fun c h=>by injection h with h;cases h
theorem dZ.e5:dZ (some (.error 5):Option (Except Int α)):=fun c h=>by injection h with h;injection h with h;exact .inl h.symm
theorem dZ.e6:dZ (some (.error 6):Option (Except Int α)):=fun c h=>by injection h with h;injection h with h;exact .inr h.symm
theorem dZ.ite{p:Prop} [Decidable p] {x y:Option (Except Int α)} (h:dZ x) (g:dZ y):dZ (if p then x else y):=by split;exact h;exact g
theorem dZ.bind {β γ δ: Type}{x:Option (Except Int (α × β × γ))}{k : α → β → γ → Option (Except Int δ)}(h:dZ x)(g:∀a b c,dZ (k a b c)):dZ (iX x k):=fun c hc=>by
 rcases eO hc with ⟨e,h1,h2⟩|⟨a,b,d,_,h2⟩
 · injection h2 with h2;subst h2;exact h c h1
 · exact g a b d c h2
theorem agL (base:Nat)(t:ah)(ts:List ah):dZ (some (jM base t ts)):=by
 unfold jM;split
 · split
   · split
     · exact dZ.ok _
     · exact dZ.e5
   · exact dZ.e5
 · exact dZ.ok _
theorem QN:∀f:Nat,(∀n deep base ts,dZ (eZ f n deep base ts))∧(∀n deep base ns a ts,dZ (iK f n deep base ns a ts))∧(∀deep base ts,dZ (jF f deep base ts))∧(∀deep base ns ks ts,dZ (iq f deep base ns ks ts))
 | 0=>⟨fun _ _ _ _=>by unfold eZ;exact dZ.non,fun _ _ _ _ _ _=>by unfold iK;exact dZ.non,fun _ _ _=>by unfold jF;exact dZ.non,fun _ _ _ _ _=>by unfold iq;exact dZ.non⟩
 | f + 1 => by
   obtain⟨i1,i2,i3,i4⟩:=QN f;refine⟨fun n deep base ts => ?_,fun n deep base ns a ts => ?_,fun deep base ts => ?_,fun deep base ns ks ts => ?_⟩
   · rw[lW]
     exact dZ.ite (dZ.bind (i1 _ _ _ _) fun _ _ _=>i2 _ _ _ _ _ _) (dZ.ite (dZ.ite dZ.e6 (dZ.bind (i1 _ _ _ _) fun _ _ _=>dZ.ok _)) (i3 _ _ _))
   · rw[qL]
     exact dZ.ite (dZ.ok _) (dZ.bind (i1 _ _ _ _) fun _ _ _=>i2 _ _ _ _ _ _)
   · cases ts with
     | nil=>rw[zN];exact dZ.e5
     | cons t ts =>
       rw[l7]
       repeat' first
        | exact dZ.ok _
        | exact dZ.e5
        | exact dZ.e6
        | exact agL _ _ _
        | exact i1 _ _ _ _
        | exact i4 _ _ _ _ _
        | (apply dZ.bind)
        | (apply dZ.ite)
        | intro
   · rw[pO]
     exact dZ.bind (i1 _ _ _ _) fun _ _ _=>dZ.ite (i4 _ _ _ _ _) (dZ.ok _)
theorem PK (s:ByteArray)(c:Int)(h:gZ s (.error c)):c≠0:=by
 rcases h with ⟨_,h⟩|⟨_,_,h⟩|⟨_,ts,f,_,h⟩
 · injection h with h;omega
 · injection h with h;omega
 · unfold j4 at h
   have:=dZ.bind ((QN f).1 0 0 0 ts) (k:=fun ns _ r=>if uN r=0 then some (.ok ns)else some (.error 5)) (fun _ _ _=>dZ.ite (dZ.ok _) dZ.e5) c h;omega
theorem aiH(w:World):dN w w.heap.size (.slice none 0 0) []:=⟨⟨none,0,rfl,.inl rfl⟩,fun p hp=>absurd hp (by simp)⟩
end Go.Proofs.YtbplbjmmfgjdjaaGreatDoor
