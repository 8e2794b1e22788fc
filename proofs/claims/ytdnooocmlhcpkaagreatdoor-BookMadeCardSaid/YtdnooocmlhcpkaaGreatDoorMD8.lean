import Derived.Test.YtdnooocmlhcpkaaGreatDoorMD7
set_option maxRecDepth 100000
set_option maxHeartbeats 64000000
namespace Go.Proofs.YtdnooocmlhcpkaaGreatDoor
open Go.RowKit
theorem MV (s:ByteArray)(a m:Nat):sb (s.extract a (a+m))=((sb s).drop a).take m:=by
 unfold sb;rw[← List.map_drop, ← List.map_take];congr 1;rw[ByteArray.data_extract,Array.toList_extract];rw[List.extract_eq_take_drop];congr 1;omega
theorem aa5 (d:Rd)(m:Nat)(h:d.k+m<d.s.size):d.rest[m]? = some ((d.s[d.k+m].toNat:Nat):Int):=by
 unfold Rd.rest;rw[List.getElem?_drop,oM d.s _ h]
theorem Kb (d:Rd)(s:ByteArray)(m p:Nat)(a:Int)(hs:d.s=s)(hp:d.k+m=p)(h:p<s.size)(ha:((s[p].toNat:Nat):Int)=a):d.rest.take (m+1)=d.rest.take m++[a]∧d.rest[m]? = some a:=by
 subst hs;subst hp;subst ha;exact⟨Ka d m h,aa5 d m h⟩
theorem Kq (l:List Int)(h:∀x∈l,isNum x=true)(hl:l.length≤4):0≤bH l∧bH l≤9999:=by
 match l,hl,h with
 | [],_,_=>exact⟨by decide,by decide⟩
 | [a],_,h =>
   have h1:=iL (h a (by simp));unfold bH;simp only[List.foldl_cons,List.foldl_nil];omega
 | [a,b],_,h =>
   have h1:=iL (h a (by simp));have h2:=iL (h b (by simp));unfold bH;simp only[List.foldl_cons,List.foldl_nil];omega
 | [a,b,c],_,h =>
   have h1:=iL (h a (by simp));have h2:=iL (h b (by simp));have h3:=iL (h c (by simp));unfold bH;simp only[List.foldl_cons,List.foldl_nil];omega
 | [a,b,c,d],_,h =>
   have h1:=iL (h a (by simp));have h2:=iL (h b (by simp));have h3:=iL (h c (by simp));have h4:=iL (h d (by simp));unfold bH;simp only[List.foldl_cons,List.foldl_nil];omega
theorem ado (p:Int→Bool)(d:Rd):((sb d.s).drop d.k).take (d.rest.takeWhile p).length=d.rest.takeWhile p:=by
 have e:=take_split p d.rest;have h:(d.rest.takeWhile p++d.rest.drop (d.rest.takeWhile p).length).take (d.rest.takeWhile p).length=d.rest.takeWhile p:=List.take_left;rw[e]at h;exact h
theorem Qn:(Tryz.prog.info? 45).map (·.size)=some 5:=by kernel_rfl
theorem AQ {ops:Array Oper}{rest:List Oper}{op:Oper}{a:Act}{w:World}{Q:Exit→Act→World→Prop}(hgd:op.guard=none)(x y:Operand)(ho:op.op = .store 45 x y)
 (g:Nat) (s0:ByteArray) (c0 r0:Int) (Ub Un:Bool) (s:ByteArray) (c r:Int) (ac ar:Bool) (hx:a.eval x = .pointer (some ⟨g,0,none⟩)) (hy:a.eval y = .agg #[.string s,.int .i64 c,.int .i64 r,.bool ac,.bool ar]) (hr:bV w g s0 c0 r0 Ub Un)
 (h:∀w',bV w' g s c r ac ar→w.grownBy w' (some g)→wpList Tryz.prog ops Q rest (a.put op.dst undef) w'):wpList Tryz.prog ops Q (op :: rest) a w:=by
 refine wpList_store_row hgd 45 x y ho g 45 _ _ hx hy hr rfl Qn ?_ (h _ (setRow_heap w g _ _ _ _ hr) (grownBy.setRow' (grownBy.refl' w _) _));intro v hv;simp only[List.mem_cons,List.not_mem_nil,or_false]at hv;rcases hv with rfl|rfl|rfl|rfl|rfl <;> rfl
theorem bV.load {w:World}{b:Nat}{s:ByteArray}{c r:Int}{ac ar:Bool}(h:bV w b s c r ac ar):(loadVar 45 ⟨b,0,none⟩).run Tryz.prog w = .ok (.agg #[.string s,.int .i64 c,.int .i64 r,.bool ac,.bool ar]) w :=
 run_loadVar_row w b 45 45 _ _ _ h Tryz.underlying45 rfl Qn
theorem Al {w:World}{b:Nat}{s:ByteArray}{c r:Int}{ac ar:Bool}(h:bV w b s c r ac ar)(fn:Func)(tmps:Array Value)(ok:Bool)(p u:Tmp)(hf:fn.results=#[.cell p 45,.tmp u])(hp:tmps.getD p undef = .pointer (some ⟨b,0,none⟩))(hu:tmps.getD u undef = .bool ok) :
 (results fn tmps).run Tryz.prog w = .ok (.tuple #[.agg #[.string s,.int .i64 c,.int .i64 r,.bool ac,.bool ar],.bool ok]) w:=by
 rw[results_cell_tmp hf,hp,hu];simp[asAddr,h.load,Result.andThen]
theorem Au:Tryz.f122.results=#[.cell 2 45,.tmp 3]:=by kernel_rfl
theorem aa6 (d:Rd)(m:Nat)(h:d.s.size≤d.k+m):d.rest[m]? = none:=by
 rw[List.getElem?_eq_none_iff,pQ];omega
theorem Zi (d:Rd)(h:d.k<d.s.size)(h2:((d.s[d.k].toNat:Nat):Int)=36):d.mark=true:=by
 unfold Rd.mark;rw[JO d h,h2];rfl
theorem Zh (d:Rd)(h:d.k<d.s.size)(h2:¬ ((d.s[d.k].toNat:Nat):Int)=36):d.mark=false:=by
 unfold Rd.mark;rw[JO d h,decide_eq_false_iff_not];intro h3;injection h3 with h3;exact h2 h3
theorem Pm(d:Rd)(s:ByteArray)(hs:d.s=s)(h:d.k<s.size)(h2:((s[d.k].toNat:Nat):Int)=36):d.mark=true:=by subst hs;exact Zi d h h2
theorem Pj(d:Rd)(s:ByteArray)(hs:d.s=s)(h:d.k<s.size)(h2:¬ ((s[d.k].toNat:Nat):Int)=36):d.mark=false:=by subst hs;exact Zh d h h2
theorem G6(d:Rd):d.q8.k=d.k+(eD d.mark).length:=rfl
theorem G7(d:Rd):d.zP.k=d.k+(eD d.mark).length:=rfl
theorem Zg(d:Rd)(h:d.s.size≤d.k):d.mark=false:=by unfold Rd.mark;rw[rest_end d h];rfl
theorem Ph(d:Rd)(s:ByteArray)(hs:d.s=s)(h:s.size≤d.k):d.mark=false:=by subst hs;exact Zg d h
theorem Ql (s:ByteArray)(w:World)(_hs:s.size≤1000000)(d1:Rd)(hs1:d1.s=s)(hk1:d1.k≤s.size)(N9:∀e,(Rd.start s).kL=some e→e=d1)(m:Nat)
 (hd1:(m=s.size∧d1.k=0∧d1.sh=⟨#[]⟩)∨(m<s.size∧0<m∧d1.k=m+1∧d1.sh=s.extract 0 m∧∀h:m<s.size,((s[m].toNat:Nat):Int)=33)) (hbytes:∀(k:Nat)(h:k<s.size),k<m→¬ ((s[k].toNat:Nat):Int)=33) :
 Calls Tryz.prog 122 #[.string s] w fun e w'=>Says (sb s) e∧Below w.heap.size w w':=by
 have hst:ig w ((w.alloc (.cells #[.string ⟨#[]⟩,.int .i64 0,.int .i64 0,.bool false,.bool false] 45)).alloc (.cells #[.string ⟨#[]⟩,.int .i64 0,.int .i64 0,.bool false,.bool false] 45)) ⟨#[]⟩ 0 0 false false:=by
  have h0:=bV.new w ⟨#[]⟩ 0 0 false false;have hsz:(w.alloc (.cells #[.string ⟨#[]⟩,.int .i64 0,.int .i64 0,.bool false,.bool false] 45)).heap.size=w.heap.size+1:=by simp
  have h1:=bV.new (w.alloc (.cells #[.string ⟨#[]⟩,.int .i64 0,.int .i64 0,.bool false,.bool false] 45)) ⟨#[]⟩ 0 0 false false;rw[hsz]at h1;exact⟨h0.below ((ai _ _).alloc (ag _) _) h0.lt,h1,((ai _ _).alloc (ag _) _).alloc (by rw[hsz];omega) _⟩
 have HST:=aa hst;clear hst;have dG:=aa hs1;clear hs1;have Tq:=aa N9;clear N9
 have afR:d1.sh.size≤1000000:=by
  rcases hd1 with ⟨_,_,h⟩|⟨_,_,_,h,_⟩
  · rw[h];exact cu _
  · rw[h,ByteArray.size_extract];omega
 have HD1:=aa hd1;clear hd1;have vk:=aa hbytes;clear hbytes;go_enter Tryz.func122,Tryz.ntmps122;go_upto_block 0 with (fail)
 go_cut [5] (fun at_ wx=>at_ = .int .i64 (d1.k:Int)∧ig w wx d1.sh 0 0 false false)
 case first =>
  go_wp2_with fail
  go_loopw [5,6] (fun at_ i wr=>∃k:Nat,k≤s.size∧k≤m∧at_ = .int .i64 0∧i = .int .i64 k∧Hid (ig w wr ⟨#[]⟩ 0 0 false false))
   (fun _ i _=>s.size - (intOf i).toNat)
  case atStart=>exact⟨0,by omega,by omega,rfl,rfl,HST⟩
  case round =>
   clear HST;obtain⟨k,hk,dh,rfl,rfl,HST⟩:=hrel;by_cases hlt:k<s.size
   · have hki:(k:Int)<(s.size:Int):=by omega
     obtain⟨a,ha⟩:∃a:Int,(s[k].toNat:Int)=a:=⟨_,rfl⟩;by_cases hm:k<m
     · have WJ:(a == 33)=false:=beq_eq_false_iff_ne.2 (by rw[← ha];exact vk.o k hlt hm)
       go_wp2_with fail
       go_roundw
       case rel=>exact⟨k+1,by omega,by omega,rfl,by go_num,HST⟩
       case measure=>simp[intOf];omega
     · obtain rfl:k=m:=by omega
       have hd:=HD1.o.resolve_left (by omega);have WJ:(a == 33)=true:=beq_iff_eq.2 (by rw[← ha];exact hd.2.2.2.2 hlt);have hk0:((k:Int) == 0)=false:=beq_eq_false_iff_ne.2 (by have:=hd.2.1;omega);have afF:(0:Int)≤(k:Int):=by omega
       have Bd:=aa hd;clear hd;obtain⟨x0,x1,x2,x3,x4⟩:=HST.o.ref.facts;clear x1 x2 x3 x4;have z0:=(HST.o.ref.frozen 0);go_wp2_with fail
       go_meet
       case rel=>exact⟨by rw[Bd.o.2.2.1];rfl,by rw[Bd.o.2.2.2.1];exact ig.set 0 HST.o (.string (s.extract 0 k)) _ 0 0 false false rfl⟩
   · have hki:¬ (k:Int)<(s.size:Int):=by omega
     have hd:=HD1.o.resolve_right (by omega);have Bd:=aa hd;clear hd;go_wp2_with fail
     go_meet
     case rel=>exact⟨by rw[Bd.o.2.1];rfl,by rw[Bd.o.2.2];exact HST.o⟩
 case rest =>
  obtain⟨rfl,ko⟩:=hcut;clear HST;have HST:=aa ko;clear ko;go_upto_region 11 with (fail)
  go_cut [40] (fun t wx=>t = .bool d1.mark∧ig w wx d1.sh 0 0 false false)
  case first =>
   by_cases hlt:d1.k<s.size
   · have hki:(d1.k:Int)<(s.size:Int):=by omega
     obtain⟨a,ha⟩:∃a:Int,(s[d1.k].toNat:Int)=a:=⟨_,rfl⟩;by_cases fM:a=36
     · have hj:(a == 36)=true:=beq_iff_eq.2 fM
       have hmk:d1.mark=true:=Pm d1 s dG.o hlt (by rw[ha,fM]);have jW:=aa hmk;clear hmk fM;go_wp2_with fail
       go_meet
       case rel=>exact⟨by rw[jW.o],HST.o⟩
     · have hj:(a == 36)=false:=beq_eq_false_iff_ne.2 fM
       have hmk:d1.mark=false:=Pj d1 s dG.o hlt (by rw[ha];exact fM);have jW:=aa hmk;clear hmk fM;go_wp2_with fail
       go_meet
       case rel=>exact⟨by rw[jW.o],HST.o⟩
   · have hki:¬ (d1.k:Int)<(s.size:Int):=by omega
     have hmk:d1.mark=false:=Ph d1 s dG.o (by omega);have jW:=aa hmk;clear hmk;go_wp2_with fail
     go_meet
     case rel=>exact⟨by rw[jW.o],HST.o⟩
  case rest =>
   obtain⟨rfl,ko⟩:=hcut;clear HST;have HST:=aa ko;clear ko;go_upto_if 40 with (fail)
   go_cut [5] (fun k wx=>k = .int .i64 (d1.q8.k:Int)∧ig w wx d1.sh 0 0 d1.mark false)
   case first =>
    obtain⟨x0,x1,x2,x3,x4⟩:=HST.o.ref.facts;have z0:=(HST.o.ref.frozen 0);have z1:=(HST.o.ref.frozen 1);have z2:=(HST.o.ref.frozen 2);have z3:=(HST.o.ref.frozen 3);have z4:=(HST.o.ref.frozen 4);cases hm:d1.mark with
    | true =>
      have jW:=aa hm;clear hm;go_wp2_with fail
      go_meet
      case rel=>exact⟨by rw[show d1.q8.k=d1.k+1 from by rw[G6,jW.o];rfl];rfl,(by first|(rw[jW.o];exact ig.set 3 HST.o (.bool true) d1.sh 0 0 true false rfl)|exact ig.set 3 HST.o (.bool true) d1.sh 0 0 true false rfl)⟩
    | false =>
      have jW:=aa hm;clear hm;go_wp2_with fail
      go_meet
      case rel=>exact⟨by rw[show d1.q8.k=d1.k from by rw[G6,jW.o];rfl],(by first|(rw[jW.o];exact HST.o)|exact HST.o)⟩
   case rest =>
    obtain⟨rfl,ko⟩:=hcut;clear HST;have HST:=aa ko;clear ko;obtain⟨d2,hd2⟩:∃d:Rd,d1.q8=d:=⟨_,rfl⟩;rw[hd2];have hs2:d2.s=s:=by rw[← hd2];exact dG.o
    have hk2:d2.k≤s.size:=by rw[← hd2,G6, ← dG.o];exact EB d1 (by rw[dG.o];exact hk1)
    obtain⟨d3,hd3⟩:∃d:Rd,d2.BK=d:=⟨_,rfl⟩;have hk3:d3.k=d2.k+(d2.rest.takeWhile aG).length:=by rw[← hd3];rfl
    have hle3:d3.k≤s.size:=by rw[hk3, ← hs2];exact J3 aG d2 (by rw[hs2];exact hk2)
    have hs3:d3.s=s:=by rw[← hd3];exact hs2
    have hc3:ky (d2.rest.takeWhile aG)=d3.c:=by rw[← hd3];rfl
    obtain⟨EI,NS⟩:∃b:Bool,iK (d2.rest.takeWhile aG)=b:=⟨_,rfl⟩
    have Cg:sb (s.extract d2.k d3.k)=d2.rest.takeWhile aG:=by
     rw[hk3,MV, ← hs2];exact ado aG d2
    have Xa:(s.extract d2.k d3.k).size≤1000000:=by rw[ByteArray.size_extract];omega
    have hkp:(d2.k:Int)≤(d3.k:Int):=by omega
    have hps:(d3.k:Int)≤(s.size:Int):=by omega
    have HD2:=aa hd2;clear hd2;have HS2:=aa hs2;clear hs2;have HD3:=aa hd3;clear hd3;have qw:=aa hs3;clear hs3;have R7:=aa hc3;clear hc3;have kV:=aa hk3;clear hk3;have K9:=aa NS;clear NS;have Tx:=aa Cg;clear Cg;go_upto_block 2 with (fail)
    go_cut [7] (fun t wx=>t = .int .i64 (d3.k:Int)∧ig w wx d1.sh 0 0 d1.mark false)
    case first =>
     go_wp2_with fail
     go_loopw [7] (fun t wr=>∃m:Nat,d2.k+m≤s.size∧t = .int .i64 ((d2.k+m:Nat):Int)∧Hid (∀x∈d2.rest.take m,aG x=true)∧Hid (ig w wr d1.sh 0 0 d1.mark false))
      (fun t _=>s.size - (intOf t).toNat)
     case atStart=>exact⟨0,by omega,rfl,aa (by simp),HST⟩
     case round =>
      clear HST;obtain⟨m,hm,rfl,jI,HST⟩:=hrel;obtain⟨p,hp⟩:∃p:Nat,d2.k+m=p:=⟨_,rfl⟩;rw[hp];have HP:=aa hp;have hp2:p≤s.size:=by omega
      clear hp;by_cases hlt:p<s.size
      · have hki:(p:Int)<(s.size:Int):=by omega
        obtain⟨a,ha⟩:∃a:Int,(s[p].toNat:Int)=a:=⟨_,rfl⟩;have ha1:0≤a∧a≤255:=by have:=s[p].toNat_lt;omega
        have hnx:=Kb d2 s m p a HS2.o HP.o hlt ha;have dB:=aa hnx;clear hnx;by_cases hc:aG a=true
        · go_wp2_with (go_at_call 149;((with_reducible refine(tZ _ ?_ ?_ _).mono ?_);(first|omega|skip);(first|omega|skip);rintro e w' ⟨rfl,rfl⟩))
          go_roundw
          case rel=>exact⟨m+1,by have:=HP.o;omega,by rw[show d2.k+(m+1)=p+1 from by have:=HP.o;omega];rfl,aa (by rw[dB.o.1];exact pq jI.o hc),HST⟩
          case measure=>simp[intOf];omega
        · have hc':aG a=false:=by simpa using hc
          clear hc;have hsp:=zi aG d2.rest m jI.o (fun x hx=>by rw[dB.o.2]at hx;injection hx with hx;rw[← hx];exact hc');have hpk:p=d3.k:=by rw[kV.o,hsp,gD,pQ,HS2.o];have:=HP.o;omega
          have qX:=aa hpk;clear hpk hsp;go_wp2_with (go_at_call 149;((with_reducible refine(tZ _ ?_ ?_ _).mono ?_);(first|omega|skip);(first|omega|skip);rintro e w' ⟨rfl,rfl⟩))
          go_meet
          case rel=>exact⟨by rw[qX.o],HST.o⟩
      · have hki:¬ (p:Int)<(s.size:Int):=by omega
        have hsp:=zi aG d2.rest m jI.o (fun x hx=>by rw[aa6 d2 m (by rw[HS2.o];have:=HP.o;omega)]at hx;cases hx);have hpk:p=d3.k:=by rw[kV.o,hsp,gD,pQ,HS2.o];have:=HP.o;omega
        have qX:=aa hpk;clear hpk hsp;go_wp2_with fail
        go_meet
        case rel=>exact⟨by rw[qX.o],HST.o⟩
    case rest =>
     obtain⟨rfl,ko⟩:=hcut;clear HST;have HST:=aa ko;clear ko;go_upto_region 18 with (first|(go_at_call 150;((with_reducible refine(abv _ _ ?_).mono ?_);(first|omega|skip);rintro e w1 ⟨rfl,n,rfl⟩;rw[Tx.o,R7.o,K9.o];have HST:=aa (HST.o.drewN n))))
     clear hkp hps Xa;go_upto_region 18 with (fail)
     go_cut [74] (fun t wx=>t = .bool d3.mark∧ig w wx d1.sh 0 0 d1.mark false)
     case first =>
      by_cases hlt:d3.k<s.size
      · have hki:(d3.k:Int)<(s.size:Int):=by omega
        obtain⟨a,ha⟩:∃a:Int,(s[d3.k].toNat:Int)=a:=⟨_,rfl⟩;by_cases fM:a=36
        · have hj:(a == 36)=true:=beq_iff_eq.2 fM
          have hmk:d3.mark=true:=Pm d3 s qw.o hlt (by rw[ha,fM]);have jW:=aa hmk;clear hmk fM;go_wp2_with fail
          go_meet
          case rel=>exact⟨by rw[jW.o],HST.o⟩
        · have hj:(a == 36)=false:=beq_eq_false_iff_ne.2 fM
          have hmk:d3.mark=false:=Pj d3 s qw.o hlt (by rw[ha];exact fM);have jW:=aa hmk;clear hmk fM;go_wp2_with fail
          go_meet
          case rel=>exact⟨by rw[jW.o],HST.o⟩
      · have hki:¬ (d3.k:Int)<(s.size:Int):=by omega
        have hmk:d3.mark=false:=Ph d3 s qw.o (by omega);have jW:=aa hmk;clear hmk;go_wp2_with fail
        go_meet
        case rel=>exact⟨by rw[jW.o],HST.o⟩
     case rest =>
      obtain⟨rfl,ko⟩:=hcut;clear HST;have HST:=aa ko;clear ko;go_upto_if 74 with (fail)
      go_cut [7] (fun k wx=>k = .int .i64 (d3.zP.k:Int)∧ig w wx d1.sh 0 0 d1.mark d3.mark)
      case first =>
       obtain⟨x0,x1,x2,x3,x4⟩:=HST.o.ref.facts;have z0:=(HST.o.ref.frozen 0);have z1:=(HST.o.ref.frozen 1);have z2:=(HST.o.ref.frozen 2);have z3:=(HST.o.ref.frozen 3);have z4:=(HST.o.ref.frozen 4);cases hm:d3.mark with
       | true =>
         have jW:=aa hm;clear hm;go_wp2_with fail
         go_meet
         case rel=>exact⟨by rw[show d3.zP.k=d3.k+1 from by rw[G7,jW.o];rfl];rfl,(by first|(rw[jW.o];exact ig.set 4 HST.o (.bool true) d1.sh 0 0 d1.mark true rfl)|exact ig.set 4 HST.o (.bool true) d1.sh 0 0 d1.mark true rfl)⟩
       | false =>
         have jW:=aa hm;clear hm;go_wp2_with fail
         go_meet
         case rel=>exact⟨by rw[show d3.zP.k=d3.k from by rw[G7,jW.o];rfl],(by first|(rw[jW.o];exact HST.o)|exact HST.o)⟩
      case rest =>
       obtain⟨rfl,ko⟩:=hcut;clear HST;have HST:=aa ko;clear ko;obtain⟨d4,hd4⟩:∃d:Rd,d3.zP=d:=⟨_,rfl⟩;rw[hd4];have hs4:d4.s=s:=by rw[← hd4];exact qw.o
       have hk4:d4.k≤s.size:=by rw[← hd4,G7, ← qw.o];exact EB d3 (by rw[qw.o];exact hle3)
       have Nv:d1.at4=d4:=by unfold Rd.at4;rw[HD2.o,HD3.o,hd4]
       have Ny:∀d,fO s=some d→EI=true∧(∀x∈d4.rest,isNum x=true)∧d4.rest.length≤3∧d.sh=d1.sh∧d.c=d3.c∧d.ac=d1.mark∧d.ar=d3.mark∧d.r=bH d4.rest - 1:=by
        intro d hd;obtain⟨g1,g2,g3,g4,g5,g6,g7,g8⟩:=Va s d1 d Tq.o dG.o hd;rw[Nv]at g2 g3 g8;rw[HD2.o,K9.o]at g1;have M3:d.c=d1.q8.BK.c:=g5;have M4:d.ar=d1.q8.BK.mark:=g7;rw[HD2.o,HD3.o]at M3 M4;exact⟨g1,g2,g3,g4,M3,g6,M4,g8⟩
       have xX:=aa hs4;clear hs4;have KN:=aa Ny;clear Ny Nv hd4;obtain⟨v4,hv4⟩:∃v,bH (d4.rest.take 4)=v:=⟨_,rfl⟩;by_cases hall:∀x∈d4.rest.take 4,isNum x=true
       · have hvb:=Kq (d4.rest.take 4) hall (by rw[gD];omega)
         rw[hv4]at hvb;have jI:=aa hall;clear hall;have GJ:=aa hv4;clear hv4;go_upto_block 4 with (fail)
         go_cut [10] (fun rr wx=>rr = .int .i64 v4∧ig w wx d1.sh 0 0 d1.mark d3.mark)
         case first =>
          go_wp2_with fail
          go_loopw [10,11] (fun rr t wr=>∃(j:Nat)(v:Int),j≤4∧d4.k+j≤s.size∧rr = .int .i64 v∧t = .int .i64 ((d4.k+j:Nat):Int)∧Hid (bH (d4.rest.take j)=v)∧Hid (ig w wr d1.sh 0 0 d1.mark d3.mark))
           (fun _ t _=>s.size - (intOf t).toNat)
          case atStart=>exact⟨0,0,by omega,by omega,rfl,rfl,aa rfl,HST⟩
          case round =>
           clear HST;obtain⟨j,v,Xi,hjk,rfl,rfl,j3,HST⟩:=hrel;obtain⟨p,hp⟩:∃p:Nat,d4.k+j=p:=⟨_,rfl⟩;rw[hp];have hp2:p≤s.size:=by omega
           by_cases hlt:p<s.size∧j<4
           · obtain ⟨hlt,hj⟩:=hlt
             have hki:(p:Int)<(s.size:Int):=by omega
             have hji:(p:Int)<(d4.k:Int)+4:=by omega
             obtain⟨a,ha⟩:∃a:Int,(s[p].toNat:Int)=a:=⟨_,rfl⟩;have ha1:0≤a∧a≤255:=by have:=s[p].toNat_lt;omega
             have hnx:=Kb d4 s j p a xX.o hp hlt ha
             have hc:isNum a=true:=jI.o a (by
              have h1:a∈d4.rest.take (j+1):=by rw[hnx.1];simp
              exact List.mem_of_mem_take (i:=j+1) (by rw[List.take_take];rw[Nat.min_eq_left (by omega)];exact h1))
             have hab:=iL hc;have XL:=Kq (d4.rest.take j) (fun x hx=>jI.o x (List.mem_of_mem_take (i:=j) (by rw[List.take_take,Nat.min_eq_left (by omega)];exact hx))) (by rw[gD];omega);rw[j3.o]at XL;have dB:=aa hnx;clear hnx;have HP:=aa hp;clear hp;go_wp2_with (go_at_call 141;((with_reducible refine(iM _ ?_ ?_ _).mono ?_);(first|omega|skip);(first|omega|skip);rintro e w' ⟨rfl,rfl⟩))
             go_roundw
             case rel=>exact⟨j+1,10*v+(a - 48),by omega,by have:=HP.o;omega,rfl,by rw[show d4.k+(j+1)=p+1 from by have:=HP.o;omega];rfl,aa (by rw[dB.o.1,xK,j3.o]),HST⟩
             case measure=>simp[intOf];omega
           · have Oe:v4=v:=by
              rw[← j3.o, ← GJ.o];by_cases hj:j=4
              · rw[hj]
              · have hl:d4.rest.length≤j:=by rw[pQ,xX.o];omega
                rw[mK hl,mK (by omega)]
             have Lu:=aa Oe;clear Oe;by_cases hps:p<s.size
             · have hki:(p:Int)<(s.size:Int):=by omega
               have hji:¬ (p:Int)<(d4.k:Int)+4:=by omega
               have HP:=aa hp;clear hp hlt;go_wp2_with fail
               go_meet
               case rel=>exact⟨by rw[Lu.o],HST.o⟩
             · have hki:¬ (p:Int)<(s.size:Int):=by omega
               have HP:=aa hp;clear hp hlt;go_wp2_with fail
               go_meet
               case rel=>exact⟨by rw[Lu.o],HST.o⟩
         case rest =>
          obtain⟨rfl,ko⟩:=hcut;clear HST;have HST:=aa ko;clear ko
          have bU:EI=true→dn (sb d1.sh) d3.c (v4 - 1)=true→strOfNums (aO (sb d1.sh) d3.c (v4 - 1) d1.mark d3.mark)=s→Says (sb s) (.returned (.tuple #[.agg #[.string d1.sh,.int .i64 d3.c,.int .i64 (v4 - 1),.bool d1.mark,.bool d3.mark],.bool true])):=by
           intro _ h2 h3;refine .inl ⟨d1.sh,d3.c,v4 - 1,d1.mark,d3.mark, ?_,h2, ?_,rfl⟩
           · rcases Ah h2 with h|h
             · rw[← bC,h];exact cu _
             · rw[← bC];exact(PE h).2
           · rw[← gK _ (ym d1.sh d3.c (v4 - 1) d1.mark d3.mark),h3]
          have hno:¬ (EI=true∧dn (sb d1.sh) d3.c (v4 - 1)=true∧strOfNums (aO (sb d1.sh) d3.c (v4 - 1) d1.mark d3.mark)=s)→DI (sb s):=by
           intro h;apply Aq;cases hq:fO s with
           | none=>rfl
           | some d =>
             exfalso;obtain⟨g1,g2,g3,g4,g5,g6,g7,g8⟩:=KN.o d hq;obtain⟨r1,r2,r3⟩:=vX s d hq;rw[mK (by omega)]at GJ;rw[GJ.o]at g8;rw[g4,g5,g8]at r2;rw[g4,g5,g6,g7,g8]at r3;exact h ⟨g1,r2,by rw[r3,jU]⟩
          have bX:=aa bU;clear bU;have ek:=aa hno;clear hno;obtain⟨tt,xe⟩:∃t:ByteArray,strOfNums (aO (sb d1.sh) d3.c (v4 - 1) d1.mark d3.mark)=t:=⟨_,rfl⟩;obtain⟨my,Im⟩:∃b:Bool,dn (sb d1.sh) d3.c (v4 - 1)=b:=⟨_,rfl⟩;rw[xe,Im]at bX ek;have BB:=aa xe;clear xe;have Gb:=aa Im;clear Im;go_upto_region 28 with (fail)
          obtain⟨x0,x1,x2,x3,x4⟩:=HST.o.ref.facts;have z0:=(HST.o.ref.frozen 0);have z1:=(HST.o.ref.frozen 1);have z2:=(HST.o.ref.frozen 2);have z3:=(HST.o.ref.frozen 3);have z4:=(HST.o.ref.frozen 4);go_upto_region 30 with (fail)
          clear x0 x1 x2 x3 x4 z0 z1 z2 z3 z4;have Iz:=ig.set 2 (ig.set 1 HST.o (.int .i64 d3.c) d1.sh d3.c 0 d1.mark d3.mark rfl) (.int .i64 (v4 - 1)) d1.sh d3.c (v4 - 1) d1.mark d3.mark rfl;clear HST;generalize (wc.setCell ⟨w.heap.size+1,1,none⟩ (.int .i64 d3.c)).setCell ⟨w.heap.size+1,2,none⟩ (.int .i64 (v4 - 1))=w3 at Iz ⊢;have HST:=aa Iz;clear Iz;obtain⟨x0,x1,x2,x3,x4⟩:=HST.o.ref.facts;have z0:=(HST.o.ref.frozen 0);have z1:=(HST.o.ref.frozen 1);have z2:=(HST.o.ref.frozen 2);have z3:=(HST.o.ref.frozen 3);have z4:=(HST.o.ref.frozen 4);cases EI with
          | false =>
            have hnr:=ek.o (by rintro⟨h,_⟩;cases h);have vv:=aa hnr;clear hnr;go_upto_region 31 with (fail)
            repeat (first|go_says ((with_reducible refine AQ (op:=⟨none,.store 45 (.tmp 2) (.tmp 123),_,_,_,_⟩) rfl (.tmp 2) (.tmp 123) rfl w.heap.size _ _ _ _ _ ⟨#[]⟩ 0 0 false false ?_ ?_ HST.o.res ?_);rfl;rfl;intro gL h9 g9;have om:=aa h9;clear h9;have rV:=aa g9;clear g9)|go_values|go_skip|go_guarded|go_step|go_upon)
            (try simp only[Exit.inBlock,Exit.then])
            refine bodyPost_ret (Al om.o _ _ false 2 3 Au rfl rfl) rfl ⟨.inr ⟨vv.o,rfl⟩,sM HST.o.below rV.o HST.o.below.size (ag _)⟩
          | true =>
            cases my with
            | false =>
              have hnr:=ek.o (by rintro⟨_,h,_⟩;cases h);have vv:=aa hnr;clear hnr;go_upto_region 31 with (first|(go_at_call 85;((with_reducible refine(oL _ _ _ _ _ _ ?_).mono ?_);(first|omega|skip);rintro e w1 ⟨rfl,h1⟩;rw[Gb.o];have HST:=aa (HST.o.next h1);clear h1;clear x0 x1 x2 x3 x4 z0 z1 z2 z3 z4;obtain⟨x0,x1,x2,x3,x4⟩:=HST.o.ref.facts;have z0:=(HST.o.ref.frozen 0);have z1:=(HST.o.ref.frozen 1);have z2:=(HST.o.ref.frozen 2);have z3:=(HST.o.ref.frozen 3);have z4:=(HST.o.ref.frozen 4))))
              repeat (first|go_says ((with_reducible refine AQ (op:=⟨none,.store 45 (.tmp 2) (.tmp 123),_,_,_,_⟩) rfl (.tmp 2) (.tmp 123) rfl w.heap.size _ _ _ _ _ ⟨#[]⟩ 0 0 false false ?_ ?_ HST.o.res ?_);rfl;rfl;intro gL h9 g9;have om:=aa h9;clear h9;have rV:=aa g9;clear g9)|go_values|go_skip|go_guarded|go_step|go_upon)
              (try simp only[Exit.inBlock,Exit.then])
              refine bodyPost_ret (Al om.o _ _ false 2 3 Au rfl rfl) rfl ⟨.inr ⟨vv.o,rfl⟩,sM HST.o.below rV.o HST.o.below.size (ag _)⟩
            | true =>
              by_cases hts:tt=s
              · have hys:=bX.o rfl rfl hts
                have TM:=aa hys;clear hys;have htb:(s.toList == s.toList)=true:=beq_self_eq_true _;have Np:=aa hts;clear hts;go_upto_region 32 with (first|(go_at_call 85;((with_reducible refine(oL _ _ _ _ _ _ ?_).mono ?_);(first|omega|skip);rintro e w1 ⟨rfl,h1⟩;rw[Gb.o];have HST:=aa (HST.o.next h1);clear h1;clear x0 x1 x2 x3 x4 z0 z1 z2 z3 z4;obtain⟨x0,x1,x2,x3,x4⟩:=HST.o.ref.facts;have z0:=(HST.o.ref.frozen 0);have z1:=(HST.o.ref.frozen 1);have z2:=(HST.o.ref.frozen 2);have z3:=(HST.o.ref.frozen 3);have z4:=(HST.o.ref.frozen 4)))|(go_at_call 94;((with_reducible refine(Cz _ _ _ _ _ _ ?_).mono ?_);(first|omega|skip);rintro e w1 ⟨rfl,h1⟩;rw[BB.o];(try rw[Np.o]);have HST:=aa (HST.o.next h1);clear h1;clear x0 x1 x2 x3 x4 z0 z1 z2 z3 z4;obtain⟨x0,x1,x2,x3,x4⟩:=HST.o.ref.facts;have z0:=(HST.o.ref.frozen 0);have z1:=(HST.o.ref.frozen 1);have z2:=(HST.o.ref.frozen 2);have z3:=(HST.o.ref.frozen 3);have z4:=(HST.o.ref.frozen 4))))
                repeat (first|go_says ((with_reducible refine AQ (op:=⟨none,.store 45 (.tmp 2) (.tmp 124),_,_,_,_⟩) rfl (.tmp 2) (.tmp 124) rfl w.heap.size _ _ _ _ _ d1.sh d3.c (v4 - 1) d1.mark d3.mark ?_ ?_ HST.o.res ?_);rfl;rfl;intro gL h9 g9;have om:=aa h9;clear h9;have rV:=aa g9;clear g9)|go_values|go_skip|go_guarded|go_step|go_upon)
                (try simp only[Exit.inBlock,Exit.then])
                exact bodyPost_ret (Al om.o _ _ true 2 3 Au rfl rfl) rfl ⟨TM.o,sM HST.o.below rV.o HST.o.below.size (ag _)⟩
              · have hnr:=ek.o (by rintro⟨_,_,h⟩;exact hts h)
                have vv:=aa hnr;clear hnr;have htn:=nX tt s hts;have htb:(tt.toList == s.toList)=false:=beq_eq_false_iff_ne.2 htn;clear hts;go_upto_region 31 with (first|(go_at_call 85;((with_reducible refine(oL _ _ _ _ _ _ ?_).mono ?_);(first|omega|skip);rintro e w1 ⟨rfl,h1⟩;rw[Gb.o];have HST:=aa (HST.o.next h1);clear h1;clear x0 x1 x2 x3 x4 z0 z1 z2 z3 z4;obtain⟨x0,x1,x2,x3,x4⟩:=HST.o.ref.facts;have z0:=(HST.o.ref.frozen 0);have z1:=(HST.o.ref.frozen 1);have z2:=(HST.o.ref.frozen 2);have z3:=(HST.o.ref.frozen 3);have z4:=(HST.o.ref.frozen 4)))|(go_at_call 94;((with_reducible refine(Cz _ _ _ _ _ _ ?_).mono ?_);(first|omega|skip);rintro e w1 ⟨rfl,h1⟩;rw[BB.o];(try rw[Np.o]);have HST:=aa (HST.o.next h1);clear h1;clear x0 x1 x2 x3 x4 z0 z1 z2 z3 z4;obtain⟨x0,x1,x2,x3,x4⟩:=HST.o.ref.facts;have z0:=(HST.o.ref.frozen 0);have z1:=(HST.o.ref.frozen 1);have z2:=(HST.o.ref.frozen 2);have z3:=(HST.o.ref.frozen 3);have z4:=(HST.o.ref.frozen 4))))
                repeat (first|go_says ((with_reducible refine AQ (op:=⟨none,.store 45 (.tmp 2) (.tmp 123),_,_,_,_⟩) rfl (.tmp 2) (.tmp 123) rfl w.heap.size _ _ _ _ _ ⟨#[]⟩ 0 0 false false ?_ ?_ HST.o.res ?_);rfl;rfl;intro gL h9 g9;have om:=aa h9;clear h9;have rV:=aa g9;clear g9)|go_values|go_skip|go_guarded|go_step|go_upon)
                (try simp only[Exit.inBlock,Exit.then])
                refine bodyPost_ret (Al om.o _ _ false 2 3 Au rfl rfl) rfl ⟨.inr ⟨vv.o,rfl⟩,sM HST.o.below rV.o HST.o.below.size (ag _)⟩
       · have Nq:=hall
         clear hall;have jI:=aa Nq;clear Nq;go_wp2_with fail
         go_loopw [10,11] (fun rr t wr=>∃(j:Nat)(v:Int),j≤4∧d4.k+j≤s.size∧rr = .int .i64 v∧t = .int .i64 ((d4.k+j:Nat):Int)∧Hid (bH (d4.rest.take j)=v∧(∀x∈d4.rest.take j,isNum x=true))∧Hid (ig w wr d1.sh 0 0 d1.mark d3.mark))
          (fun _ t _=>s.size - (intOf t).toNat)
         case atStart=>exact⟨0,0,by omega,by omega,rfl,rfl,aa ⟨rfl,by simp⟩,HST⟩
         case round =>
          clear HST;obtain⟨j,v,Xi,hjk,rfl,rfl,j3,HST⟩:=hrel;obtain⟨p,hp⟩:∃p:Nat,d4.k+j=p:=⟨_,rfl⟩;rw[hp];have hp2:p≤s.size:=by omega
          have hj:j<4∧p<s.size:=by
           refine Decidable.byContradiction fun hn=>jI.o ?_
           have he:d4.rest.take 4=d4.rest.take j:=by
            by_cases hj:j=4
            · rw[hj]
            · have hl:d4.rest.length≤j:=by rw[pQ,xX.o];omega
              rw[mK hl,mK (by omega)]
           rw[he];exact j3.o.2
          obtain⟨hj,hlt⟩:=hj;have hvb:=Kq (d4.rest.take j) j3.o.2 (by rw[gD];omega);rw[j3.o.1]at hvb;have hki:(p:Int)<(s.size:Int):=by omega
          have hji:(p:Int)<(d4.k:Int)+4:=by omega
          obtain⟨a,ha⟩:∃a:Int,(s[p].toNat:Int)=a:=⟨_,rfl⟩;have ha1:0≤a∧a≤255:=by have:=s[p].toNat_lt;omega
          have hnx:=Kb d4 s j p a xX.o hp hlt ha;have dB:=aa hnx;clear hnx;have HP:=aa hp;clear hp;by_cases hc:isNum a=true
          · have hab:=iL hc
            go_wp2_with (go_at_call 141;((with_reducible refine(iM _ ?_ ?_ _).mono ?_);(first|omega|skip);(first|omega|skip);rintro e w' ⟨rfl,rfl⟩))
            go_roundw
            case rel=>exact⟨j+1,10*v+(a - 48),by omega,by have:=HP.o;omega,rfl,by rw[show d4.k+(j+1)=p+1 from by have:=HP.o;omega];rfl,aa ⟨by rw[dB.o.1,xK,j3.o.1],by rw[dB.o.1];exact pq j3.o.2 hc⟩,HST⟩
            case measure=>simp[intOf];omega
          · have hc':isNum a=false:=by simpa using hc
            clear hc
            have hno:fO s=none:=by
             cases hq:fO s with
             | none=>rfl
             | some d =>
               have h1:=(KN.o d hq).2.1 a (dz dB.o.2);rw[hc']at h1;cases h1
            have hnr:=Aq s hno;have vv:=aa hnr;clear hnr hno;go_upto_region 26 with (first|(go_at_call 141;((with_reducible refine(iM _ ?_ ?_ _).mono ?_);(first|omega|skip);(first|omega|skip);rintro e w' ⟨rfl,rfl⟩)))
            repeat (first|go_says ((with_reducible refine AQ (op:=⟨none,.store 45 (.tmp 2) (.tmp 96),_,_,_,_⟩) rfl (.tmp 2) (.tmp 96) rfl w.heap.size _ _ _ _ _ ⟨#[]⟩ 0 0 false false ?_ ?_ HST.o.res ?_);rfl;rfl;intro gL h9 g9;have om:=aa h9;clear h9;have rV:=aa g9;clear g9)|go_values|go_skip|go_guarded|go_step|go_upon)
            (try simp only[Exit.inBlock,Exit.then])
            refine bodyPost_ret (Al om.o _ _ false 2 3 Au rfl rfl) rfl ⟨.inr ⟨vv.o,rfl⟩,sM HST.o.below rV.o HST.o.below.size (ag _)⟩
theorem QQ (s:ByteArray)(k:Nat)(h:k<s.size)(hk:k<(Rd.start s).bL.length):¬ ((s[k].toNat:Nat):Int)=33:=by
 intro vI
 have h1:=rP iX (sb s) 33 (by
  have h2:=take_split iX (sb s)
  have h3:((sb s).takeWhile iX)[k]? = (sb s)[k]? := by
   conv=>rhs;rw[← h2]
   rw[List.getElem?_append_left (show k<((sb s).takeWhile iX).length from hk)]
  rw[oM s k h,vI]at h3;exact dz h3)
 exact absurd h1 (by decide)
theorem QR (s:ByteArray)(m:Nat)(hm:(Rd.start s).bL.length=m)(h:m<s.size):((s[m].toNat:Nat):Int)=33:=by
 have h1:=CR iX (sb s) ((s[m].toNat:Nat):Int) (by
  have h2:((sb s).takeWhile iX).length=m:=hm;rw[h2,List.head?_drop,oM s m h])
 unfold iX at h1
 simpa using h1
theorem acW (s:ByteArray):s.extract 0 (Rd.start s).bL.length=strOfNums (Rd.start s).bL:=by
 have h:=JW (Rd.start s);have h2:(sb s).take (Rd.start s).bL.length=(Rd.start s).bL:=h;rw[← jU (s.extract 0 (Rd.start s).bL.length)];congr 1;have e:=MV s 0 (Rd.start s).bL.length;rw[Nat.zero_add,List.drop_zero,h2]at e;exact e
theorem abw (s:ByteArray)(w:World)(_hs:s.size≤1000000)(hp:0<s.size)(h0:(Rd.start s).bL.length=0) :
 Calls Tryz.prog 122 #[.string s] w fun e w'=>Says (sb s) e∧Below w.heap.size w w':=by
 have hst:ig w ((w.alloc (.cells #[.string ⟨#[]⟩,.int .i64 0,.int .i64 0,.bool false,.bool false] 45)).alloc (.cells #[.string ⟨#[]⟩,.int .i64 0,.int .i64 0,.bool false,.bool false] 45)) ⟨#[]⟩ 0 0 false false:=by
  have h0:=bV.new w ⟨#[]⟩ 0 0 false false;have hsz:(w.alloc (.cells #[.string ⟨#[]⟩,.int .i64 0,.int .i64 0,.bool false,.bool false] 45)).heap.size=w.heap.size+1:=by simp
  have h1:=bV.new (w.alloc (.cells #[.string ⟨#[]⟩,.int .i64 0,.int .i64 0,.bool false,.bool false] 45)) ⟨#[]⟩ 0 0 false false;rw[hsz]at h1;exact⟨h0.below ((ai _ _).alloc (ag _) _) h0.lt,h1,((ai _ _).alloc (ag _) _).alloc (by rw[hsz];omega) _⟩
 have hnr:DI (sb s):=by
  apply Aq
  have hsh:(Rd.start s).kL=none:=by
   unfold Rd.kL;rw[if_neg (show ¬ (Rd.start s).bL.length=(Rd.start s).s.size by rw[h0];show ¬ 0=s.size;omega)];rw[l5 h0];rfl
  unfold fO;rw[hsh];rfl
 have hb:=QR s 0 h0 hp;obtain⟨a,ha⟩:∃a:Int,(s[0].toNat:Int)=a:=⟨_,rfl⟩;have hb2:(a == 33)=true:=beq_iff_eq.2 (by rw[← ha];exact hb);have hpi:(0:Int)<(s.size:Int):=by omega
 have HST:=aa hst;clear hst;have vv:=aa hnr;clear hnr hb h0;go_enter Tryz.func122,Tryz.ntmps122;go_wp2_with fail
 go_loopw [3,5,6] (fun rk at_ i wr=>rk = .bool false∧at_ = .int .i64 0∧i = .int .i64 0∧Hid (ig w wr ⟨#[]⟩ 0 0 false false))
  (fun _ _ i _=>s.size - (intOf i).toNat)
 case atStart=>exact⟨rfl,rfl,rfl,HST⟩
 case round =>
  clear HST;obtain⟨rfl,rfl,rfl,HST⟩:=hrel;obtain⟨x0,x1,x2,x3,x4⟩:=HST.o.ref.facts;clear x1 x2 x3 x4;have z0:=(HST.o.ref.frozen 0);have ko:=ig.set 0 HST.o (.string ByteArray.empty) ByteArray.empty 0 0 false false rfl;have GH:=aa ko;clear ko;go_wp2_with ((with_reducible refine AQ (op:=⟨none,.store 45 (.tmp 2) (.tmp 30),_,_,_,_⟩) rfl (.tmp 2) (.tmp 30) rfl w.heap.size _ _ _ _ _ ⟨#[]⟩ 0 0 false false ?_ ?_ GH.o.res ?_);rfl;rfl;intro gL h9 g9;have om:=aa h9;clear h9;have rV:=aa g9;clear g9)
  (try simp only[Exit.inBlock,Exit.then])
  exact bodyPost_ret (Al om.o _ _ false 2 3 Au rfl rfl) rfl ⟨.inr ⟨vv.o,rfl⟩,sM GH.o.below rV.o GH.o.below.size (ag _)⟩
theorem Ar (s:ByteArray)(w:World)(hs:s.size≤1000000) :
 Calls Tryz.prog 122 #[.string s] w fun e w'=>Says (sb s) e∧Below w.heap.size w w':=by
 by_cases hno:(Rd.start s).bL.length=s.size
 · refine Ql s w hs (Rd.start s) rfl (cu _) ?_ s.size (.inl ⟨rfl,rfl,rfl⟩) ?_
   · intro e he
     unfold Rd.kL at he;rw[if_pos (show(Rd.start s).bL.length=(Rd.start s).s.size from hno)]at he;injection he with he;exact he.symm
   · intro k h hk;exact QQ s k h (by rw[hno];exact hk)
 · have hlt:(Rd.start s).bL.length<s.size:=JV (Rd.start s) hno
   by_cases h0:(Rd.start s).bL.length=0
   · exact abw s w hs (by omega) h0
   · refine Ql s w hs { Rd.start s with sh:=s.extract 0 (Rd.start s).bL.length,k:=(Rd.start s).bL.length+1 } rfl hlt ?_ (Rd.start s).bL.length (.inr ⟨hlt,by omega,rfl,rfl,fun h=>QR s _ rfl h⟩) (fun k h hk=>QQ s k h hk)
     intro e he;unfold Rd.kL at he;rw[if_neg (show ¬ (Rd.start s).bL.length=(Rd.start s).s.size from hno)]at he;by_cases hn:fF (Rd.start s).bL=true
     · rw[if_pos hn]at he;injection he with he;rw[← he,acW]
     · rw[if_neg hn]at he;cases he
theorem U6 (s:ByteArray)(k:Nat)(h:k<s.size)(hx:(aG ((sb s).getD k 0)||isNum ((sb s).getD k 0))=false):iO (sb s)=false:=by
 unfold iO;rw[Bool.and_eq_false_iff];left;rw[decide_eq_false_iff_not];intro hall;have:=hall ((sb s).getD k 0) (by rw[oN s k h];exact dz (oM s k h));rw[hx]at this;cases this
theorem U5 (s:ByteArray)(h:∀j,j<s.size→(aG ((sb s).getD j 0)||isNum ((sb s).getD j 0))=true):iO (sb s)=(decide (1≤s.size∧s.size≤12)&&aG ((sb s).getD 0 0)):=by
 unfold iO;rw[decide_eq_true (show ∀x∈sb s,(aG x||isNum x)=true from ?_),Bool.true_and,bC];intro x hx;obtain⟨j,hj,rfl⟩:=List.mem_iff_getElem.1 hx;have:=h j (by rw[bC]at hj;exact hj);rw[iC,bn hj]at this;exact this
theorem JD (s:ByteArray)(w:World)(_hs:s.size≤1000000) :
 Calls Tryz.prog 123 #[.string s] w fun e w'=>e = .returned (.bool (iO (sb s)))∧w=w':=by
 go_enter Tryz.func123,Tryz.ntmps123;go_wp2_with fail
 go_loopw [3] (fun i wr=>∃k:Nat,k≤s.size∧i = .int .i64 k∧Hid (∀j,j<k→(aG ((sb s).getD j 0)||isNum ((sb s).getD j 0))=true)∧w=wr)
  (fun i _=>s.size - (intOf i).toNat)
 case atStart=>exact⟨0,by omega,rfl,aa (by intro j hj;omega),rfl⟩
 case round =>
  obtain⟨k,hk,rfl,HG,rfl⟩:=hrel;by_cases hlt:k<s.size
  · have hki:(k:Int)<(s.size:Int):=by omega
    obtain⟨a,ha⟩:∃a:Int,(s[k].toNat:Int)=a:=⟨_,rfl⟩;have ha1:0≤a∧a≤255:=by have:=s[k].toNat_lt;omega
    have vo:=aa (show(sb s).getD k 0=a by rw[oN s k hlt,ha])
    have hnext:(aG a||isNum a)=true→∀j,j<k+1→(aG ((sb s).getD j 0)||isNum ((sb s).getD j 0))=true:=by
     intro h j hj;by_cases h1:j<k
     · exact HG.o j h1
     · rw[show j=k from by omega,vo.o];exact h
    have Bt:=aa hnext;clear hnext;cases hc:aG a
    · cases hn:isNum a
      · have ek:=aa (U6 s k hlt (by rw[vo.o,hc,hn];rfl))
        go_wp2_with (first
         | (go_at_call 149;((with_reducible refine(tZ _ ?_ ?_ _).mono ?_);(first|omega|skip);(first|omega|skip);rintro e w' ⟨rfl,rfl⟩;rw[hc]))
         | (go_at_call 141;((with_reducible refine(iM _ ?_ ?_ _).mono ?_);(first|omega|skip);(first|omega|skip);rintro e w' ⟨rfl,rfl⟩;rw[hn])))
        go_ret;exact⟨dD ek.o.symm,rfl⟩
      · go_wp2_with (first
         | (go_at_call 149;((with_reducible refine(tZ _ ?_ ?_ _).mono ?_);(first|omega|skip);(first|omega|skip);rintro e w' ⟨rfl,rfl⟩;rw[hc]))
         | (go_at_call 141;((with_reducible refine(iM _ ?_ ?_ _).mono ?_);(first|omega|skip);(first|omega|skip);rintro e w' ⟨rfl,rfl⟩;rw[hn])))
        go_roundw
        case rel=>exact⟨k+1,by omega,by go_num,aa (Bt.o (by rw[hc,hn];rfl)),by trivial⟩
        case measure=>simp[intOf];omega
    · go_wp2_with (first
       | (go_at_call 149;((with_reducible refine(tZ _ ?_ ?_ _).mono ?_);(first|omega|skip);(first|omega|skip);rintro e w' ⟨rfl,rfl⟩;rw[hc])))
      go_roundw
      case rel=>exact⟨k+1,by omega,by go_num,aa (Bt.o (by rw[hc];rfl)),by trivial⟩
      case measure=>simp[intOf];omega
  · have hki:¬ (k:Int)<(s.size:Int):=by omega
    have HA:=aa (U5 s (fun j hj=>HG.o j (by omega)));by_cases h1:1≤s.size∧s.size≤12
    · have hi1:(1:Int)≤(s.size:Int):=by omega
      have hi2:(s.size:Int)≤12:=by omega
      have hp0:0<s.size:=by omega
      obtain⟨a,ha⟩:∃a:Int,(s[0].toNat:Int)=a:=⟨_,rfl⟩;have ha1:0≤a∧a≤255:=by have:=s[0].toNat_lt;omega
      rw[decide_eq_true h1,Bool.true_and,oN s 0 hp0,ha]at HA
      go_wp2_with (first
       | (go_at_call 149;((with_reducible refine(tZ _ ?_ ?_ _).mono ?_);(first|omega|skip);(first|omega|skip);rintro e w' ⟨rfl,rfl⟩)))
      go_ret;exact⟨dD HA.o.symm,rfl⟩
    · rw [decide_eq_false h1,Bool.false_and]at HA
      by_cases h0:1≤s.size
      · have hi1:(1:Int)≤(s.size:Int):=by omega
        have hi2:¬ (s.size:Int)≤12:=by omega
        go_wp2_with fail
        go_ret;exact⟨dD HA.o.symm,rfl⟩
      · have hi1:¬ (1:Int)≤(s.size:Int):=by omega
        go_wp2_with fail
        go_ret;exact⟨dD HA.o.symm,rfl⟩
theorem aa9 (k:Int)(w:World):Calls Tryz.prog 83 #[.int .i64 k] w fun e w'=>e = .returned (.int .i64 (jm k))∧w=w':=by
 have fin:∀r:Int,jm k=r→(Calls Tryz.prog 83 #[.int .i64 k] w fun e w'=>e = .returned (.int .i64 r)∧w=w')→Calls Tryz.prog 83 #[.int .i64 k] w fun e w'=>e = .returned (.int .i64 (jm k))∧w=w':=fun r h g=>by rw[h];exact g
 by_cases h1:1≤k
 · by_cases h6:k≤6
   · refine fin 0 (by unfold jm;rw[if_pos ⟨h1,h6⟩]) ?_
     go_enter Tryz.func83,Tryz.ntmps83;go_wp2_with fail
     go_ret;exact⟨rfl,rfl⟩
   · by_cases h7:k=7
     · have e7:(k == 7)=true:=beq_iff_eq.2 h7
       refine fin (-1) (by unfold jm;rw[if_neg (by omega),if_pos h7]) ?_;clear h7;go_enter Tryz.func83,Tryz.ntmps83;go_wp2_with fail
       go_ret;exact⟨rfl,rfl⟩
     · have e7:(k == 7)=false:=beq_eq_false_iff_ne.2 h7
       by_cases h8:k=8
       · have e8:(k == 8)=true:=beq_iff_eq.2 h8
         refine fin 1 (by unfold jm;rw[if_neg (by omega),if_neg h7,if_pos h8]) ?_;clear h7 h8;go_enter Tryz.func83,Tryz.ntmps83;go_wp2_with fail
         go_ret;exact⟨rfl,rfl⟩
       · have e8:(k == 8)=false:=beq_eq_false_iff_ne.2 h8
         have h9:9≤k:=by omega
         by_cases h19:k≤19
         · refine fin 2 (by unfold jm;rw[if_neg (by omega),if_neg h7,if_neg h8,if_pos ⟨h9,h19⟩]) ?_
           clear h7 h8;go_enter Tryz.func83,Tryz.ntmps83;go_wp2_with fail
           go_ret;exact⟨rfl,rfl⟩
         · refine fin (-2) (by unfold jm;rw[if_neg (by omega),if_neg h7,if_neg h8,if_neg (by omega)]) ?_
           clear h7 h8;go_enter Tryz.func83,Tryz.ntmps83;go_wp2_with fail
           go_ret;exact⟨rfl,rfl⟩
 · have e7:(k == 7)=false:=beq_eq_false_iff_ne.2 (by omega)
   have e8:(k == 8)=false:=beq_eq_false_iff_ne.2 (by omega);have h9:¬ 9≤k:=by omega
   refine fin (-2) (by unfold jm;rw[if_neg (by omega),if_neg (by omega),if_neg (by omega),if_neg (by omega)]) ?_;go_enter Tryz.func83,Tryz.ntmps83;go_wp2_with fail
   go_ret;exact⟨rfl,rfl⟩
theorem pW (f:cO)(w:World):Calls Tryz.prog 120 #[.agg #[.string f.sh,.int .i64 f.c,.int .i64 f.r,.bool f.ac,.bool f.ar]] w fun e w'=>e = .returned (.bool (gX f))∧Below w.heap.size w w':=by
 have HN:=aa (Ji f);have hx:=bV.new w f.sh f.c f.r f.ac f.ar;have HB:=aa ((ai w.heap.size w).alloc (ag _) (.cells #[.string f.sh,.int .i64 f.c,.int .i64 f.r,.bool f.ac,.bool f.ar] 45));go_enter Tryz.func120,Tryz.ntmps120;go_upto_region 1 with (fail)
 generalize w.alloc (.cells #[.string f.sh,.int .i64 f.c,.int .i64 f.r,.bool f.ac,.bool f.ar] 45)=w1 at hx HB ⊢;obtain⟨x0,x1,x2,x3,x4⟩:=hx.facts;clear hx;have kT:=aa (fun (h1:f.sh.toList=[])(h2:f.c=0)(h3:f.r=0)(h4:f.ac=false)(h5:f.ar=false)=>(VW (a:=f) (b:=cO.zero) (h1.trans nL.symm) h2 h3 h4 h5));go_wp2_with fail
 all_goals go_ret
 all_goals first
  | (have hv:fK f cO.zero=true:=kT.o ‹f.sh.toList=[]› ‹f.c=0› ‹f.r=0› (by simpa using ‹¬ f.ac=true›) (by simpa using ‹¬ f.ar=true›)
     exact⟨by rw[HN.o,hv];rfl,HB.o⟩)
  | (have hv:fK f cO.zero=false:=by
      cases hq:fK f cO.zero
      · rfl
      · exfalso
        have hz:=(BL f cO.zero).1 hq;clear x0 x1 x2 x3 x4 kT HN hq;subst hz
        first
         | exact absurd (show cO.zero.sh.toList=[]from nL) ‹¬ cO.zero.sh.toList=[]›
         | exact absurd (show cO.zero.c=0 from rfl) ‹¬ cO.zero.c=0›
         | exact absurd (show cO.zero.r=0 from rfl) ‹¬ cO.zero.r=0›
         | exact absurd ‹cO.zero.ac=true› (by decide)
         | exact absurd ‹cO.zero.ar=true› (by decide)
     exact⟨by rw[HN.o,hv];rfl,HB.o⟩)
theorem abt (s:ByteArray)(w:World)(_hs:s.size≤1000000):Calls Tryz.prog 121 #[.string s] w fun e w'=>e = .returned (.bool (lq (sb s)))∧w=w':=by
 go_enter Tryz.func121,Tryz.ntmps121;go_wp2_with fail
 go_loopw [3] (fun i wr=>∃k:Nat,k≤s.size∧i = .int .i64 k∧Hid (∀(j:Nat)(hj:j<s.size),j<k→¬ ((s[j].toNat:Nat):Int)<32)∧w=wr)
  (fun i _=>s.size - (intOf i).toNat)
 case atStart=>exact⟨0,by omega,rfl,aa (by intro j _ hj;omega),rfl⟩
 case round =>
  obtain⟨k,hk,rfl,HG,rfl⟩:=hrel;by_cases hlt:k<s.size
  · have hki:(k:Int)<(s.size:Int):=by omega
    obtain⟨a,ha⟩:∃a:Int,(s[k].toNat:Int)=a:=⟨_,rfl⟩;have ha1:0≤a∧a≤255:=by have:=s[k].toNat_lt;omega
    have HA:=aa ha;by_cases h32:a<32
    · have HB:=aa (P8 s k hlt (by rw[ha];exact h32))
      go_wp2_with fail
      go_ret;exact⟨by rw[HB.o] <;> rfl,rfl⟩
    · go_wp2_with fail
      go_roundw
      case rel =>
       refine⟨k+1,by omega,by go_num,aa ?_,by first|rfl|trivial⟩;intro j hj hjk;by_cases e:j=k
       · subst e;rw[HA.o];exact h32
       · exact HG.o j hj (by omega)
      case measure=>simp[intOf];omega
  · have hki:¬ (k:Int)<(s.size:Int):=by omega
    have HB:=aa (P7 s (fun j hj=>HG.o j hj (by omega)));go_wp2_with fail
    go_ret;exact⟨by rw[HB.o] <;> rfl,rfl⟩
theorem Qm (s1 s2:ByteArray)(c1 r1 c2 r2:Int)(a1 b1 a2 b2:Bool)(w:World) :
 Calls Tryz.prog 124 #[.agg #[.string s1,.int .i64 c1,.int .i64 r1,.bool a1,.bool b1],.agg #[.string s2,.int .i64 c2,.int .i64 r2,.bool a2,.bool b2]] w fun e w'=>e = .returned (.bool (fP ⟨s1,c1,r1,a1,b1⟩ ⟨s2,c2,r2,a2,b2⟩))∧Below w.heap.size w w':=by
 have hsz:(w.alloc (.cells #[.string s1,.int .i64 c1,.int .i64 r1,.bool a1,.bool b1] 45)).heap.size=w.heap.size+1:=by simp
 have h1:=bV.new w s1 c1 r1 a1 b1;have h2:=bV.new (w.alloc (.cells #[.string s1,.int .i64 c1,.int .i64 r1,.bool a1,.bool b1] 45)) s2 c2 r2 a2 b2;have h3:=h1.below ((ai _ _).alloc (ag _) (.cells #[.string s2,.int .i64 c2,.int .i64 r2,.bool a2,.bool b2] 45)) h1.lt;rw[hsz]at h2;have HB:=aa (((ai w.heap.size w).alloc (ag _) (.cells #[.string s1,.int .i64 c1,.int .i64 r1,.bool a1,.bool b1] 45)).alloc (by simp) (.cells #[.string s2,.int .i64 c2,.int .i64 r2,.bool a2,.bool b2] 45));have HS:=aa (show fP ⟨s1,c1,r1,a1,b1⟩ ⟨s2,c2,r2,a2,b2⟩=(decide (s2=⟨#[]⟩)&&(decide (c1≤c2)&&decide (r1≤r2)))from rfl);clear h1;go_enter Tryz.func124,Tryz.ntmps124;go_upto_region 1 with (fail)
 generalize (w.alloc (.cells #[.string s1,.int .i64 c1,.int .i64 r1,.bool a1,.bool b1] 45)).alloc (.cells #[.string s2,.int .i64 c2,.int .i64 r2,.bool a2,.bool b2] 45)=w1 at h2 h3 HB ⊢;obtain⟨x0,x1,x2,x3,x4⟩:=h2.facts;obtain⟨y0,y1,y2,y3,y4⟩:=h3.facts;clear h2 h3;by_cases hs:s2=⟨#[]⟩
 · subst hs
   have e0:=nL;by_cases hc:c1≤c2
   · by_cases hr:r1≤r2
     · have HT:=aa (show fP ⟨s1,c1,r1,a1,b1⟩ ⟨⟨#[]⟩,c2,r2,a2,b2⟩=true by rw[HS.o,decide_eq_true hc,decide_eq_true hr];rfl)
       go_wp2_with fail
       go_ret;exact⟨by rw[HT.o];rfl,HB.o⟩
     · have HT:=aa (show fP ⟨s1,c1,r1,a1,b1⟩ ⟨⟨#[]⟩,c2,r2,a2,b2⟩=false by rw[HS.o,decide_eq_true hc,decide_eq_false hr];rfl)
       go_wp2_with fail
       go_ret;exact⟨by rw[HT.o];rfl,HB.o⟩
   · have HT:=aa (show fP ⟨s1,c1,r1,a1,b1⟩ ⟨⟨#[]⟩,c2,r2,a2,b2⟩=false by rw[HS.o,decide_eq_false hc];rfl)
     go_wp2_with fail
     go_ret;exact⟨by rw[HT.o];rfl,HB.o⟩
 · have HT:=aa (show fP ⟨s1,c1,r1,a1,b1⟩ ⟨s2,c2,r2,a2,b2⟩=false by rw[HS.o,decide_eq_false hs];rfl)
   have e0:¬ s2.toList=[]:=by rw[← nL];exact nX _ _ hs
   have e1:s2.toList.isEmpty=false:=by simpa using e0
   clear hs;go_wp2_with fail
   go_ret;exact⟨by rw[HT.o];rfl,HB.o⟩
theorem RL {P:Program}{α : Type}{size t e bytes:Nat}{w:World}{ops:Array Oper}{rest:List Oper}{o:Oper}{a:Act}{Q:Exit→Act→World→Prop}(dA:Elem P t e size bytes)(E:Enc α size)
 (hgd:o.guard=none) (s x:Operand) (ho:o.op = .call { callee := .builtin .append,args:=#[s,x],argTypes:=#[t,t] }) (ao:Option Addr) (n cap:Nat) (xs:List α)
 (hs:a.eval s = .slice ao n cap) (hnone:ao=none→n=0∧cap=0) (hxl:xs.length=n) (hxs:∀b,ao=some b→∀(j:Nat)(u:Value),(E.all xs)[j]? = some u→w.cell? (b.add j)=some u)
 (ad:Addr) (m c:Nat) (ys:List α) (hx:a.eval x = .slice (some ad) m c) (hl:ys.length=m)
 (hc:∀(j:Nat)(u:Value),(E.all ys)[j]? = some u→w.cell? (ad.add j)=some u) (hfull:cap<n+m) (hb:(n+m)*bytes≤140737488355328) (hb2:n+m≤maxLen)
 (h:∀(v':Value)(w':World),Own E e w' w.heap.size v' (xs++ys)→Below w.heap.size w w'→wpList P ops Q rest (a.put o.dst v') w'):wpList P ops Q (o :: rest) a w:=by
 obtain⟨z,hi,hz⟩:=dA.inf;obtain⟨i,hi1,hi2,hi3,hi4⟩:=info_parts hi;refine wpList_append_grows w hgd s x t ho e i z size bytes dA.und hi1 hi2 hi3 hi4 hz dA.pos ao n cap (E.all xs) hs hnone (by rw[E.ku,hxl]) hxs ad m c (E.all ys) hx (by rw[E.ku,hl]) hc (E.yY ys) hfull hb2 hb ?_;intro v' w' h1 h2;refine h v' w' ?_ ?_
 · unfold Own;rw[E.all_append,aj,hxl,hl];exact h1
 · exact Below.grown (ai _ _) h2 (ag _) (fun k hk=>by cases hk)
theorem ZL{n:Nd}:fo n=(aD n&&(decide (jm n.kind = -1)||decide (jm n.kind=n.kids.length))):=rfl
theorem VK {st ks:List Int}{f j:Nat}{x:Int}(h:(st.drop f).take j=ks.take j)(hx:st[f+j]? = some x)(hy:ks[j]? = some x):(st.drop f).take (j+1)=ks.take (j+1) :=
 Rk h (by rw[List.getElem?_drop];exact hx) hy
theorem VJ {st ks:List Int}{f j:Nat}{x y:Int}(hx:st[f+j]? = some x)(hy:ks[j]? = some y)(h:¬ x=y):¬ st.drop f=ks:=by
 intro e;have h1:(st.drop f)[j]? = some x:=by rw[List.getElem?_drop];exact hx
 rw[e,hy]at h1;exact h (dX h1).symm
theorem EW (k:Int)(w:World):Calls Tryz.prog 96 #[.int .i64 k] w fun e w'=>e = .returned (.int .i64 ((bz k:Nat)+1:Int))∧w=w':=by
 have fin:∀r:Nat,bz k=r→(Calls Tryz.prog 96 #[.int .i64 k] w fun e w'=>e = .returned (.int .i64 ((r:Int)+1))∧w=w')→Calls Tryz.prog 96 #[.int .i64 k] w fun e w'=>e = .returned (.int .i64 ((bz k:Nat)+1:Int))∧w=w':=fun r h1 h2=>by rw[h1];exact h2
 by_cases h:9≤k∧k≤14
 · obtain⟨h1,h2⟩:=h
   refine fin 0 (by unfold bz;rw[if_pos ⟨h1,h2⟩]) ?_;clear fin;go_enter Tryz.func96,Tryz.ntmps96;go_wp2_with fail
   go_ret;exact⟨rfl,rfl⟩
 by_cases sU:k=15
 · refine fin 1 (by subst sU;rfl) ?_
   clear fin;subst sU;go_enter Tryz.func96,Tryz.ntmps96;go_wp2_with fail
   go_ret;exact⟨rfl,rfl⟩
 by_cases h16:k=16
 · refine fin 2 (by subst h16;rfl) ?_
   clear fin;subst h16;go_enter Tryz.func96,Tryz.ntmps96;go_wp2_with fail
   go_ret;exact⟨rfl,rfl⟩
 by_cases vH:k=17
 · refine fin 2 (by subst vH;rfl) ?_
   clear fin;subst vH;go_enter Tryz.func96,Tryz.ntmps96;go_wp2_with fail
   go_ret;exact⟨rfl,rfl⟩
 by_cases h18:k=18
 · refine fin 3 (by subst h18;rfl) ?_
   clear fin;subst h18;go_enter Tryz.func96,Tryz.ntmps96;go_wp2_with fail
   go_ret;exact⟨rfl,rfl⟩
 by_cases h19:k=19
 · refine fin 3 (by subst h19;rfl) ?_
   clear fin;subst h19;go_enter Tryz.func96,Tryz.ntmps96;go_wp2_with fail
   go_ret;exact⟨rfl,rfl⟩
 by_cases h8:k=8
 · refine fin 4 (by subst h8;rfl) ?_
   clear fin;subst h8;go_enter Tryz.func96,Tryz.ntmps96;go_wp2_with fail
   go_ret;exact⟨rfl,rfl⟩
 refine fin 5 (by unfold bz;rw[if_neg h,if_neg sU,if_neg (by omega),if_neg (by omega),if_neg h8]) ?_;have e15:(k == 15)=false:=beq_eq_false_iff_ne.2 sU;have e16:(k == 16)=false:=beq_eq_false_iff_ne.2 h16;have e17:(k == 17)=false:=beq_eq_false_iff_ne.2 vH;have e18:(k == 18)=false:=beq_eq_false_iff_ne.2 h18;have e19:(k == 19)=false:=beq_eq_false_iff_ne.2 h19;have e8:(k == 8)=false:=beq_eq_false_iff_ne.2 h8;clear fin sU h16 vH h18 h19 h8;by_cases h9:9≤k
 · have BM:¬ k≤14:=by omega
   clear h;go_enter Tryz.func96,Tryz.ntmps96;go_wp2_with fail
   go_ret;exact⟨rfl,rfl⟩
 · clear h
   go_enter Tryz.func96,Tryz.ntmps96;go_wp2_with fail
   go_ret;exact⟨rfl,rfl⟩
theorem abn (o:Nat)(ho:o<11)(w:World):Calls Tryz.prog 97 #[.int .i64 (9+(o:Int))] w fun e w'=>e = .returned (.string (jv.getD o ⟨#[]⟩))∧Below w.heap.size w w':=by
 have h:o=0∨o=1∨o=2∨o=3∨o=4∨o=5∨o=6∨o=7∨o=8∨o=9∨o=10:=by omega
 rcases h with rfl|rfl|rfl|rfl|rfl|rfl|rfl|rfl|rfl|rfl|rfl
 all_goals
  go_enter Tryz.func97,Tryz.ntmps97;go_wp2_with fail
  go_ret;exact⟨rfl,(ai _ _).alloc (ag _) _⟩
theorem aao (w:World)(base:Nat)(x:Int)(hb:base≤w.heap.size):Own (bT .u8) 5 (w.alloc (.cells #[.int .u8 x] 5)) base (.slice (some ⟨w.heap.size,0,none⟩) 1 1) [x] :=
 ⟨rfl,.inr ⟨w.heap.size,1,_,rfl,hb,(jw w _).1,ag _,by decide,rfl,rfl⟩⟩
theorem VA(x:Int)(l:List Int):eu (x :: l)=(if x=34 then [34,34]else [x])++eu l:=rfl
theorem abu (s:ByteArray)(w:World)(hs:s.size≤1000000000):Calls Tryz.prog 93 #[.string s] w fun e w'=>e = .returned (.string (strOfNums (34 :: (eu (sb s)++[34]))))∧Below w.heap.size w w':=by
 go_enter Tryz.func93,Tryz.ntmps93;go_upto_region 3 with (fail)
 go_loopw [3,4] (fun ov iv wr=>∃(i:Nat)(xs:List Int),i≤s.size∧xs.length≤1+2*i∧iv = .int .i64 (i:Int)∧Hid (xs++eu (ax s i)=34 :: eu (sb s))∧Hid (oz wr w.heap.size ov xs)∧Hid (Below w.heap.size w wr))
  (fun _ iv _=>s.size - (intOf iv).toNat)
 case atStart=>exact⟨0,[34],cu _,by simp,rfl,aa rfl,aa (aao w _ 34 (ag _)),aa ((ai _ _).alloc (ag _) _)⟩
 case round =>
  obtain⟨i,xs,hi,hxl,rfl,HD,HO,HB⟩:=hrel;by_cases hlt:i<s.size
  · have hii:(i:Int)<(s.size:Int):=by omega
    obtain⟨a,ha⟩:∃a:Int,(s[i].toNat:Int)=a:=⟨_,rfl⟩;have ha1:0≤a∧a≤255:=by have:=s[i].toNat_lt;omega
    have HR:=aa (show eu (ax s i)=(if a=34 then [34,34]else [a])++eu (ax s (i+1))by rw[lX s i hlt,VA,ha]);by_cases cZ:a=34
    · have yE:(a == 34)=true:=beq_iff_eq.2 cZ
      have HX:=aa (show((xs++[34])++[a])++eu (ax s (i+1))=34 :: eu (sb s)by rw[← HD.o,HR.o,if_pos cZ,cZ];simp);clear cZ HD HR
      go_wp2_with (first
       | (at_builtin;refine mH Elem.u8 (bT .u8) rfl (.tmp 16) (.tmp 17) rfl w.heap.size _ _ rfl (HO.o.alloc _) ⟨_,0,none⟩ 1 1 [34] rfl rfl ?_ ?_ ?_ ?_ ?_;exact fZ _ _ _ rfl;(first|omega|(simp only[aj,aK,dY];omega));(unfold maxLen;first|omega|(simp only[aj,aK,dY];omega));(have:=HB.o.size;simp <;> omega);intro v1 w1 h1 h2;have eX:=aa h1;have HB1:=aa ((HB.o.alloc HB.o.size _).trans h2);clear h1 h2)
       | (at_builtin;refine mH Elem.u8 (bT .u8) rfl (.tmp 19) (.tmp 23) rfl w.heap.size _ _ rfl (eX.o.alloc _) ⟨_,0,none⟩ 1 1 [a] rfl rfl ?_ ?_ ?_ ?_ ?_;exact fZ _ _ _ rfl;(first|omega|(simp only[aj,aK,dY];omega));(unfold maxLen;first|omega|(simp only[aj,aK,dY];omega));(have:=HB1.o.size;simp <;> omega);intro v2 w2 h1 h2;have jX:=aa h1;have HB2:=aa ((HB1.o.alloc HB1.o.size _).trans h2);clear h1 h2))
      go_roundw
      case rel=>exact⟨i+1,_,by omega,by simp;omega,by go_num,HX,jX,HB2⟩
      case measure=>simp[intOf];omega
    · have yE:(a == 34)=false:=beq_eq_false_iff_ne.2 cZ
      have HX:=aa (show(xs++[a])++eu (ax s (i+1))=34 :: eu (sb s)by rw[← HD.o,HR.o,if_neg cZ];simp);clear cZ HD HR;go_wp2_with ((at_builtin;refine mH Elem.u8 (bT .u8) rfl (.tmp 19) (.tmp 23) rfl w.heap.size _ _ rfl (HO.o.alloc _) ⟨_,0,none⟩ 1 1 [a] rfl rfl ?_ ?_ ?_ ?_ ?_;exact fZ _ _ _ rfl;(first|omega|(simp only[aj,aK,dY];omega));(unfold maxLen;first|omega|(simp only[aj,aK,dY];omega));(have:=HB.o.size;simp <;> omega);intro v1 w1 h1 h2;have eX:=aa h1;have HB1:=aa ((HB.o.alloc HB.o.size _).trans h2);clear h1 h2))
      go_roundw
      case rel=>exact⟨i+1,_,by omega,by simp;omega,by go_num,HX,eX,HB1⟩
      case measure=>simp[intOf];omega
  · have hii:¬ (i:Int)<(s.size:Int):=by omega
    have HX:=aa (show xs++[34]=34 :: (eu (sb s)++[34])by
     have:=HD.o;rw[CE s i (by omega)]at this;rw[show xs=34 :: eu (sb s)from(fu xs).symm.trans this];rfl)
    clear HD;go_wp2_with (at_builtin;refine mH Elem.u8 (bT .u8) rfl (.tmp 25) (.tmp 26) rfl w.heap.size _ _ rfl (HO.o.alloc _) ⟨_,0,none⟩ 1 1 [34] rfl rfl ?_ ?_ ?_ ?_ ?_;exact fZ _ _ _ rfl;(first|omega|(simp only[aj,aK,dY];omega));(unfold maxLen;first|omega|(simp only[aj,aK,dY];omega));(have:=HB.o.size;simp <;> omega);intro v1 w1 h1 h2;have eX:=aa h1;have HB1:=aa ((HB.o.alloc HB.o.size _).trans h2);clear h1 h2;have hcv:=Aw eX.o)
    go_ret;exact⟨iQ (congrArg strOfNums HX.o),HB1.o⟩
theorem Own.ac9 {w:World}{lo:Nat}{v:Value}{xs:List Int}(h:Own (bT .i64) 3 w lo v xs):je w w.heap.size v xs:=by
 rcases h.shape with ⟨rfl,rfl⟩|⟨g,cap,rfl,h1,h2,h3,h4⟩
 · exact⟨none,0,rfl,ag _,by unfold maxLen;omega,.inl rfl⟩
 · refine⟨_,cap,rfl,h3,h4,.inr ⟨g,0,rfl,h2,fun j x hj => ?_⟩⟩
   rw[Nat.zero_add];have:=(bT .i64).at xs j 0 x hj (by omega);rw[Nat.mul_one,Nat.add_zero]at this;exact Own.cells h j _ (by rw[this];rfl)
theorem jL.sn {w:World}{lo g n cap:Nat}{vs:List aB}(h:jL w lo (.slice (some ⟨g,0,none⟩) n cap) vs)(hn:vs.length=n):jl w w.heap.size (.slice (some ⟨g,0,none⟩) n cap) (vs.map fun v=>(v.n,v.bf)):=by
 refine⟨⟨_,cap,by rw[dN,hn],.inr ⟨g,0,rfl,(Own.jB h.1 g rfl).2.1,fun i nd k hi j hj => ?_⟩⟩, ?_⟩
 · rw[iD]at hi
   obtain⟨v,hv,e⟩:=Option.map_eq_some_iff.1 hi;injection e with e1 e2;subst e1;subst e2;rw[Nat.zero_add];exact h.cell i v hv j hj
 · intro p hp
   obtain⟨v,hv,rfl⟩:=List.mem_map.1 hp;exact(h.2 v hv).ac9
theorem Q7(vs:List aB):(vs.map fun v=>(v.n,v.bf)).map (·.1)=vs.map aB.n:=by rw[List.map_map];rfl
theorem jl.tQ {w:World}{B:Nat}{v:Value}{vs:List (Nd × Value)}(h:jl w B v vs):∃A cap,v = .slice A vs.length cap:=by
 obtain⟨⟨A,cap,h,_⟩,_⟩:=h;exact⟨A,cap,h⟩
theorem jl.cellAt {w:World}{B:Nat}{A:Option Addr}{L cap:Nat}{vs:List (Nd × Value)}(h:jl w B (.slice A L cap) vs){i:Nat}{n:Nd}{k:Value}(hi:vs[i]? = some (n,k)):je w B k n.kids∧∃pb po,A=some ⟨pb,po,none⟩∧pb<B∧∀j,j<14→w.cell? ⟨pb,po+i*14+j,none⟩=(fH n k).toList[j]? := by
 obtain⟨⟨A',cap',h1,h2⟩,h3⟩:=h;injection h1 with e1 e2 e3;subst e1;refine⟨h3 _ (dz hi), ?_⟩;rcases h2 with rfl|⟨pb,po,e1,e2,e3⟩
 · simp at hi
 · exact⟨pb,po,e1,e2,e3 i n k hi⟩
structure mW (w:World)(v:Value)(l:List (Nd × Value))(ns:List Nd):Prop where
 sn:jl w w.heap.size v l
 map:l.map (·.1)=ns
 tree:dM ns=true
 few:l.length≤1000
 sizes:∀q∈l,q.1.text.size≤1000000∧q.1.ref.sh.size≤1000000∧q.1.ae.sh.size≤1000000
 nums:∀q∈l,q.1.num≤9223372036854775807
theorem mW.node {w:World}{v:Value}{l:List (Nd × Value)}{ns:List Nd}(h:mW w v l ns){i:Nat}{n:Nd}{k:Value}(hi:l[i]? = some (n,k)):nodeAt ns (i:Int)=n∧i<ns.length:=by
 rw[← h.map];have hl:=(dm.1 hi).1;refine⟨?_,by rw[dN];exact hl⟩;unfold nodeAt;rw[show((i:Int)).toNat=i by omega,iC,iD,hi];rfl
theorem mW.leaf {w:World}{v:Value}{l:List (Nd × Value)}{ns:List Nd}(h:mW w v l ns){i:Nat}{n:Nd}{k:Value}(hi:l[i]? = some (n,k)):fo n=true:=by
 obtain⟨h1,h2⟩:=h.node hi;have:=(xD h.tree (i:=(i:Int)) (by omega) (by omega)).1;rw[h1]at this;exact this
def ShR(ns:List Nd)(i:Nat)(w1:World)(e:Ending)(w':World):Prop:=e = .returned (.string (strOfNums (bg ns (i:Int))))∧Below w1.heap.size w1 w'
theorem ac0 {w:World}{v:Value}{l:List (Nd × Value)}{ns:List Nd}(C:mW w v l ns)(i:Nat)(n:Nd)(k:Value)(hi:l[i]? = some (n,k))(hk:n.kind=1)(w1:World)(hb:Below w.heap.size w w1) :
 Calls Tryz.prog 61 #[v,.int .i64 (i:Int)] w1 (ShR ns i w1):=by
 obtain⟨gm,hil⟩:=C.node hi;have hlf:=C.leaf hi;have hmem:=dz hi;have hll:i<l.length:=(dm.1 hi).1;obtain⟨hz1,hz2,hz3⟩:=(show n.text.size≤1000000∧n.ref.sh.size≤1000000∧n.ae.sh.size≤1000000 from C.sizes _ hmem);have bE:n.num≤9223372036854775807:=C.nums _ hmem;have jD:=C.few;have HC:=aa C;obtain⟨A,cap,rfl⟩:=C.sn.tQ;obtain⟨hsk,pb,po,rfl,hpb,hcell⟩:=C.sn.cellAt hi;obtain⟨aJ,ck,hkk,hkc,dh,iw⟩:=id hsk;obtain⟨m,hm⟩:∃m,n.kids.length=m:=⟨_,rfl⟩;rw[hm]at hkk hkc;subst hkk;obtain⟨nl,hnl⟩:∃nl,l.length=nl:=⟨_,rfl⟩;rw[hnl]at hll jD ⊢;have hii:(i:Int)<(nl:Int):=by omega
 have hi0:(0:Int)≤(i:Int):=by omega
 have hmx:m≤9223372036854775807:=by unfold maxLen at dh;omega
 have HM:=aa hm;have nA:=aa hnl;have qj:=aa iw;have uE:=aa gm;have wI:=aa hlf;have uD:=aa hkc;have HB:=aa hb;have kI:=aa (ui C.tree (i:=(i:Int)) (by omega) (by omega) n gm);have k0:w1.cell? ⟨pb,po+i*14,none⟩=some (.int .i64 n.kind):=(hb.cell (p:=⟨pb,po+i*14,none⟩) hpb).trans (hcell 0 (by omega));have k1:w1.cell? ⟨pb,po+i*14+1,none⟩=some (.int .i64 n.num):=(hb.cell (p:=⟨pb,po+i*14+1,none⟩) hpb).trans (hcell 1 (by omega));have k2:w1.cell? ⟨pb,po+i*14+2,none⟩=some (.string n.text):=(hb.cell (p:=⟨pb,po+i*14+2,none⟩) hpb).trans (hcell 2 (by omega));have k3:w1.cell? ⟨pb,po+i*14+3,none⟩=some (.string n.ref.sh):=(hb.cell (p:=⟨pb,po+i*14+3,none⟩) hpb).trans (hcell 3 (by omega));have k4:w1.cell? ⟨pb,po+i*14+4,none⟩=some (.int .i64 n.ref.c):=(hb.cell (p:=⟨pb,po+i*14+4,none⟩) hpb).trans (hcell 4 (by omega));have k5:w1.cell? ⟨pb,po+i*14+5,none⟩=some (.int .i64 n.ref.r):=(hb.cell (p:=⟨pb,po+i*14+5,none⟩) hpb).trans (hcell 5 (by omega));have k6:w1.cell? ⟨pb,po+i*14+6,none⟩=some (.bool n.ref.ac):=(hb.cell (p:=⟨pb,po+i*14+6,none⟩) hpb).trans (hcell 6 (by omega));have k7:w1.cell? ⟨pb,po+i*14+7,none⟩=some (.bool n.ref.ar):=(hb.cell (p:=⟨pb,po+i*14+7,none⟩) hpb).trans (hcell 7 (by omega));have k8:w1.cell? ⟨pb,po+i*14+8,none⟩=some (.string n.ae.sh):=(hb.cell (p:=⟨pb,po+i*14+8,none⟩) hpb).trans (hcell 8 (by omega));have k9:w1.cell? ⟨pb,po+i*14+9,none⟩=some (.int .i64 n.ae.c):=(hb.cell (p:=⟨pb,po+i*14+9,none⟩) hpb).trans (hcell 9 (by omega));have k10:w1.cell? ⟨pb,po+i*14+10,none⟩=some (.int .i64 n.ae.r):=(hb.cell (p:=⟨pb,po+i*14+10,none⟩) hpb).trans (hcell 10 (by omega));have k11:w1.cell? ⟨pb,po+i*14+11,none⟩=some (.bool n.ae.ac):=(hb.cell (p:=⟨pb,po+i*14+11,none⟩) hpb).trans (hcell 11 (by omega));have k12:w1.cell? ⟨pb,po+i*14+12,none⟩=some (.bool n.ae.ar):=(hb.cell (p:=⟨pb,po+i*14+12,none⟩) hpb).trans (hcell 12 (by omega));have k13:w1.cell? ⟨pb,po+i*14+13,none⟩=some (.slice aJ m ck):=(hb.cell (p:=⟨pb,po+i*14+13,none⟩) hpb).trans (hcell 13 (by omega));have HK:=aa hk;obtain⟨u,hu⟩:∃u:Nat,n.num=(u:Int):=⟨n.num.toNat,by have:=YI (pE hlf).2.2.2.2.2 hk;omega⟩;have HT:=aa (show bg ns (i:Int)=aF u by rw[kI.o,if_pos hk,hu];rfl);have HU:=aa hu;have IB:u≤9223372036854775807:=by omega
 clear hu;clear hk;have hB3:Below w1.heap.size w1 (w1.alloc (.cells #[.int .i64 n.kind,.int .i64 n.num,.string n.text,.string n.ref.sh,.int .i64 n.ref.c,.int .i64 n.ref.r,.bool n.ref.ac,.bool n.ref.ar,.string n.ae.sh,.int .i64 n.ae.c,.int .i64 n.ae.r,.bool n.ae.ac,.bool n.ae.ar,.slice aJ m ck] 48)):=(ai _ _).alloc (ag _) _;have aA:aH (w1.alloc (.cells #[.int .i64 n.kind,.int .i64 n.num,.string n.text,.string n.ref.sh,.int .i64 n.ref.c,.int .i64 n.ref.r,.bool n.ref.ac,.bool n.ref.ar,.string n.ae.sh,.int .i64 n.ae.c,.int .i64 n.ae.r,.bool n.ae.ac,.bool n.ae.ar,.slice aJ m ck] 48)) w1.heap.size n (.slice aJ m ck):=aH.new w1 n _;have HB3:=aa hB3;clear hB3 C hi hmem hcell iw hkc dh hm hnl gm hlf hsk hb;go_enter Tryz.func61,Tryz.ntmps61;go_upto_region 2 with (fail)
 generalize hb3:w1.heap.size=b3 at aA ⊢;generalize w1.alloc (.cells #[.int .i64 n.kind,.int .i64 n.num,.string n.text,.string n.ref.sh,.int .i64 n.ref.c,.int .i64 n.ref.r,.bool n.ref.ac,.bool n.ref.ar,.string n.ae.sh,.int .i64 n.ae.c,.int .i64 n.ae.r,.bool n.ae.ac,.bool n.ae.ar,.slice aJ m ck] 48)=w3 at aA HB3 ⊢;clear hb3 k0 k1 k2 k3 k4 k5 k6 k7 k8 k9 k10 k11 k12 k13;obtain⟨x0,x1,x2,x3,x4,x5,x6,x7,az,aW,aT,aU,aV,aP⟩:=aA.cells;have hb3:=aA.lt;have aA:=aa aA;have hk:=HK.o;have e1:(n.kind == 1)=true:=by rw[hk];rfl
 clear hk;rw[HU.o]at x1;have HD:=aa (fun w=>uf u IB w);go_wp2_with (go_at_call 40;((with_reducible refine(HD.o _).mono ?_);rintro e w4 ⟨rfl,h1⟩;have bG:=aa (HB3.o.trans (h1.mono HB3.o.size));clear h1))
 go_ret;exact⟨by rw[HT.o] <;> rfl,bG.o⟩
theorem ac1 {w:World}{v:Value}{l:List (Nd × Value)}{ns:List Nd}(C:mW w v l ns)(i:Nat)(n:Nd)(k:Value)(hi:l[i]? = some (n,k))(hk:n.kind=2)(w1:World)(hb:Below w.heap.size w w1) :
 Calls Tryz.prog 61 #[v,.int .i64 (i:Int)] w1 (ShR ns i w1):=by
 obtain⟨gm,hil⟩:=C.node hi;have hlf:=C.leaf hi;have hmem:=dz hi;have hll:i<l.length:=(dm.1 hi).1;obtain⟨hz1,hz2,hz3⟩:=(show n.text.size≤1000000∧n.ref.sh.size≤1000000∧n.ae.sh.size≤1000000 from C.sizes _ hmem);have bE:n.num≤9223372036854775807:=C.nums _ hmem;have jD:=C.few;have HC:=aa C;obtain⟨A,cap,rfl⟩:=C.sn.tQ;obtain⟨hsk,pb,po,rfl,hpb,hcell⟩:=C.sn.cellAt hi;obtain⟨aJ,ck,hkk,hkc,dh,iw⟩:=id hsk;obtain⟨m,hm⟩:∃m,n.kids.length=m:=⟨_,rfl⟩;rw[hm]at hkk hkc;subst hkk;obtain⟨nl,hnl⟩:∃nl,l.length=nl:=⟨_,rfl⟩;rw[hnl]at hll jD ⊢;have hii:(i:Int)<(nl:Int):=by omega
 have hi0:(0:Int)≤(i:Int):=by omega
 have hmx:m≤9223372036854775807:=by unfold maxLen at dh;omega
 have HM:=aa hm;have nA:=aa hnl;have qj:=aa iw;have uE:=aa gm;have wI:=aa hlf;have uD:=aa hkc;have HB:=aa hb;have kI:=aa (ui C.tree (i:=(i:Int)) (by omega) (by omega) n gm);have k0:w1.cell? ⟨pb,po+i*14,none⟩=some (.int .i64 n.kind):=(hb.cell (p:=⟨pb,po+i*14,none⟩) hpb).trans (hcell 0 (by omega));have k1:w1.cell? ⟨pb,po+i*14+1,none⟩=some (.int .i64 n.num):=(hb.cell (p:=⟨pb,po+i*14+1,none⟩) hpb).trans (hcell 1 (by omega));have k2:w1.cell? ⟨pb,po+i*14+2,none⟩=some (.string n.text):=(hb.cell (p:=⟨pb,po+i*14+2,none⟩) hpb).trans (hcell 2 (by omega));have k3:w1.cell? ⟨pb,po+i*14+3,none⟩=some (.string n.ref.sh):=(hb.cell (p:=⟨pb,po+i*14+3,none⟩) hpb).trans (hcell 3 (by omega));have k4:w1.cell? ⟨pb,po+i*14+4,none⟩=some (.int .i64 n.ref.c):=(hb.cell (p:=⟨pb,po+i*14+4,none⟩) hpb).trans (hcell 4 (by omega));have k5:w1.cell? ⟨pb,po+i*14+5,none⟩=some (.int .i64 n.ref.r):=(hb.cell (p:=⟨pb,po+i*14+5,none⟩) hpb).trans (hcell 5 (by omega));have k6:w1.cell? ⟨pb,po+i*14+6,none⟩=some (.bool n.ref.ac):=(hb.cell (p:=⟨pb,po+i*14+6,none⟩) hpb).trans (hcell 6 (by omega));have k7:w1.cell? ⟨pb,po+i*14+7,none⟩=some (.bool n.ref.ar):=(hb.cell (p:=⟨pb,po+i*14+7,none⟩) hpb).trans (hcell 7 (by omega));have k8:w1.cell? ⟨pb,po+i*14+8,none⟩=some (.string n.ae.sh):=(hb.cell (p:=⟨pb,po+i*14+8,none⟩) hpb).trans (hcell 8 (by omega));have k9:w1.cell? ⟨pb,po+i*14+9,none⟩=some (.int .i64 n.ae.c):=(hb.cell (p:=⟨pb,po+i*14+9,none⟩) hpb).trans (hcell 9 (by omega));have k10:w1.cell? ⟨pb,po+i*14+10,none⟩=some (.int .i64 n.ae.r):=(hb.cell (p:=⟨pb,po+i*14+10,none⟩) hpb).trans (hcell 10 (by omega));have k11:w1.cell? ⟨pb,po+i*14+11,none⟩=some (.bool n.ae.ac):=(hb.cell (p:=⟨pb,po+i*14+11,none⟩) hpb).trans (hcell 11 (by omega));have k12:w1.cell? ⟨pb,po+i*14+12,none⟩=some (.bool n.ae.ar):=(hb.cell (p:=⟨pb,po+i*14+12,none⟩) hpb).trans (hcell 12 (by omega));have k13:w1.cell? ⟨pb,po+i*14+13,none⟩=some (.slice aJ m ck):=(hb.cell (p:=⟨pb,po+i*14+13,none⟩) hpb).trans (hcell 13 (by omega));have HK:=aa hk;have HT:=aa (show bg ns (i:Int)=34 :: (eu (sb n.text)++[34])by rw[kI.o,if_neg (by omega),if_pos hk]);clear hk;have hB3:Below w1.heap.size w1 (w1.alloc (.cells #[.int .i64 n.kind,.int .i64 n.num,.string n.text,.string n.ref.sh,.int .i64 n.ref.c,.int .i64 n.ref.r,.bool n.ref.ac,.bool n.ref.ar,.string n.ae.sh,.int .i64 n.ae.c,.int .i64 n.ae.r,.bool n.ae.ac,.bool n.ae.ar,.slice aJ m ck] 48)):=(ai _ _).alloc (ag _) _;have aA:aH (w1.alloc (.cells #[.int .i64 n.kind,.int .i64 n.num,.string n.text,.string n.ref.sh,.int .i64 n.ref.c,.int .i64 n.ref.r,.bool n.ref.ac,.bool n.ref.ar,.string n.ae.sh,.int .i64 n.ae.c,.int .i64 n.ae.r,.bool n.ae.ac,.bool n.ae.ar,.slice aJ m ck] 48)) w1.heap.size n (.slice aJ m ck):=aH.new w1 n _;have HB3:=aa hB3;clear hB3 C hi hmem hcell iw hkc dh hm hnl gm hlf hsk hb;go_enter Tryz.func61,Tryz.ntmps61;go_upto_region 2 with (fail)
 generalize hb3:w1.heap.size=b3 at aA ⊢;generalize w1.alloc (.cells #[.int .i64 n.kind,.int .i64 n.num,.string n.text,.string n.ref.sh,.int .i64 n.ref.c,.int .i64 n.ref.r,.bool n.ref.ac,.bool n.ref.ar,.string n.ae.sh,.int .i64 n.ae.c,.int .i64 n.ae.r,.bool n.ae.ac,.bool n.ae.ar,.slice aJ m ck] 48)=w3 at aA HB3 ⊢;clear hb3 k0 k1 k2 k3 k4 k5 k6 k7 k8 k9 k10 k11 k12 k13;obtain⟨x0,x1,x2,x3,x4,x5,x6,x7,az,aW,aT,aU,aV,aP⟩:=aA.cells;have hb3:=aA.lt;have aA:=aa aA;have hk:=HK.o;have e1:(n.kind == 1)=false:=by rw[hk];rfl
 have e2:(n.kind == 2)=true:=by rw[hk];rfl
 clear hk;have HD:=aa (fun w=>abu n.text w (by omega));go_wp2_with (go_at_call 93;((with_reducible refine(HD.o _).mono ?_);rintro e w4 ⟨rfl,h1⟩;have bG:=aa (HB3.o.trans (h1.mono HB3.o.size));clear h1))
 go_ret;exact⟨by rw[HT.o] <;> rfl,bG.o⟩
theorem ac2 {w:World}{v:Value}{l:List (Nd × Value)}{ns:List Nd}(C:mW w v l ns)(i:Nat)(n:Nd)(k:Value)(hi:l[i]? = some (n,k))(hk:n.kind=3)(w1:World)(hb:Below w.heap.size w w1) :
 Calls Tryz.prog 61 #[v,.int .i64 (i:Int)] w1 (ShR ns i w1):=by
 obtain⟨gm,hil⟩:=C.node hi;have hlf:=C.leaf hi;have hmem:=dz hi;have hll:i<l.length:=(dm.1 hi).1;obtain⟨hz1,hz2,hz3⟩:=(show n.text.size≤1000000∧n.ref.sh.size≤1000000∧n.ae.sh.size≤1000000 from C.sizes _ hmem);have bE:n.num≤9223372036854775807:=C.nums _ hmem;have jD:=C.few;have HC:=aa C;obtain⟨A,cap,rfl⟩:=C.sn.tQ;obtain⟨hsk,pb,po,rfl,hpb,hcell⟩:=C.sn.cellAt hi;obtain⟨aJ,ck,hkk,hkc,dh,iw⟩:=id hsk;obtain⟨m,hm⟩:∃m,n.kids.length=m:=⟨_,rfl⟩;rw[hm]at hkk hkc;subst hkk;obtain⟨nl,hnl⟩:∃nl,l.length=nl:=⟨_,rfl⟩;rw[hnl]at hll jD ⊢;have hii:(i:Int)<(nl:Int):=by omega
 have hi0:(0:Int)≤(i:Int):=by omega
 have hmx:m≤9223372036854775807:=by unfold maxLen at dh;omega
 have HM:=aa hm;have nA:=aa hnl;have qj:=aa iw;have uE:=aa gm;have wI:=aa hlf;have uD:=aa hkc;have HB:=aa hb;have kI:=aa (ui C.tree (i:=(i:Int)) (by omega) (by omega) n gm);have k0:w1.cell? ⟨pb,po+i*14,none⟩=some (.int .i64 n.kind):=(hb.cell (p:=⟨pb,po+i*14,none⟩) hpb).trans (hcell 0 (by omega));have k1:w1.cell? ⟨pb,po+i*14+1,none⟩=some (.int .i64 n.num):=(hb.cell (p:=⟨pb,po+i*14+1,none⟩) hpb).trans (hcell 1 (by omega));have k2:w1.cell? ⟨pb,po+i*14+2,none⟩=some (.string n.text):=(hb.cell (p:=⟨pb,po+i*14+2,none⟩) hpb).trans (hcell 2 (by omega));have k3:w1.cell? ⟨pb,po+i*14+3,none⟩=some (.string n.ref.sh):=(hb.cell (p:=⟨pb,po+i*14+3,none⟩) hpb).trans (hcell 3 (by omega));have k4:w1.cell? ⟨pb,po+i*14+4,none⟩=some (.int .i64 n.ref.c):=(hb.cell (p:=⟨pb,po+i*14+4,none⟩) hpb).trans (hcell 4 (by omega));have k5:w1.cell? ⟨pb,po+i*14+5,none⟩=some (.int .i64 n.ref.r):=(hb.cell (p:=⟨pb,po+i*14+5,none⟩) hpb).trans (hcell 5 (by omega));have k6:w1.cell? ⟨pb,po+i*14+6,none⟩=some (.bool n.ref.ac):=(hb.cell (p:=⟨pb,po+i*14+6,none⟩) hpb).trans (hcell 6 (by omega));have k7:w1.cell? ⟨pb,po+i*14+7,none⟩=some (.bool n.ref.ar):=(hb.cell (p:=⟨pb,po+i*14+7,none⟩) hpb).trans (hcell 7 (by omega));have k8:w1.cell? ⟨pb,po+i*14+8,none⟩=some (.string n.ae.sh):=(hb.cell (p:=⟨pb,po+i*14+8,none⟩) hpb).trans (hcell 8 (by omega));have k9:w1.cell? ⟨pb,po+i*14+9,none⟩=some (.int .i64 n.ae.c):=(hb.cell (p:=⟨pb,po+i*14+9,none⟩) hpb).trans (hcell 9 (by omega));have k10:w1.cell? ⟨pb,po+i*14+10,none⟩=some (.int .i64 n.ae.r):=(hb.cell (p:=⟨pb,po+i*14+10,none⟩) hpb).trans (hcell 10 (by omega));have k11:w1.cell? ⟨pb,po+i*14+11,none⟩=some (.bool n.ae.ac):=(hb.cell (p:=⟨pb,po+i*14+11,none⟩) hpb).trans (hcell 11 (by omega));have k12:w1.cell? ⟨pb,po+i*14+12,none⟩=some (.bool n.ae.ar):=(hb.cell (p:=⟨pb,po+i*14+12,none⟩) hpb).trans (hcell 12 (by omega));have k13:w1.cell? ⟨pb,po+i*14+13,none⟩=some (.slice aJ m ck):=(hb.cell (p:=⟨pb,po+i*14+13,none⟩) hpb).trans (hcell 13 (by omega));have HK:=aa hk;have HT:=aa (show bg ns (i:Int)=(if n.num=1 then [84,82,85,69]else [70,65,76,83,69])by rw[kI.o,if_neg (by omega),if_neg (by omega),if_pos hk]);clear hk;have hB3:Below w1.heap.size w1 (w1.alloc (.cells #[.int .i64 n.kind,.int .i64 n.num,.string n.text,.string n.ref.sh,.int .i64 n.ref.c,.int .i64 n.ref.r,.bool n.ref.ac,.bool n.ref.ar,.string n.ae.sh,.int .i64 n.ae.c,.int .i64 n.ae.r,.bool n.ae.ac,.bool n.ae.ar,.slice aJ m ck] 48)):=(ai _ _).alloc (ag _) _;have aA:aH (w1.alloc (.cells #[.int .i64 n.kind,.int .i64 n.num,.string n.text,.string n.ref.sh,.int .i64 n.ref.c,.int .i64 n.ref.r,.bool n.ref.ac,.bool n.ref.ar,.string n.ae.sh,.int .i64 n.ae.c,.int .i64 n.ae.r,.bool n.ae.ac,.bool n.ae.ar,.slice aJ m ck] 48)) w1.heap.size n (.slice aJ m ck):=aH.new w1 n _;have HB3:=aa hB3;clear hB3 C hi hmem hcell iw hkc dh hm hnl gm hlf hsk hb;go_enter Tryz.func61,Tryz.ntmps61;go_upto_region 2 with (fail)
 generalize hb3:w1.heap.size=b3 at aA ⊢;generalize w1.alloc (.cells #[.int .i64 n.kind,.int .i64 n.num,.string n.text,.string n.ref.sh,.int .i64 n.ref.c,.int .i64 n.ref.r,.bool n.ref.ac,.bool n.ref.ar,.string n.ae.sh,.int .i64 n.ae.c,.int .i64 n.ae.r,.bool n.ae.ac,.bool n.ae.ar,.slice aJ m ck] 48)=w3 at aA HB3 ⊢;clear hb3 k0 k1 k2 k3 k4 k5 k6 k7 k8 k9 k10 k11 k12 k13;obtain⟨x0,x1,x2,x3,x4,x5,x6,x7,az,aW,aT,aU,aV,aP⟩:=aA.cells;have hb3:=aA.lt;have aA:=aa aA;have hk:=HK.o;have e1:(n.kind == 1)=false:=by rw[hk];rfl
 have e2:(n.kind == 2)=false:=by rw[hk];rfl
 have e3:(n.kind == 3)=true:=by rw[hk];rfl
 clear hk;by_cases h1:n.num=1
 · have g1:(n.num == 1)=true:=beq_iff_eq.2 h1
   have HT2:=aa (show(⟨#[84,82,85,69]⟩:ByteArray)=strOfNums (bg ns (i:Int))by rw[HT.o,if_pos h1];decide);clear h1;go_wp2_with fail
   go_ret;exact⟨iQ HT2.o,HB3.o⟩
 · have g1:(n.num == 1)=false:=beq_eq_false_iff_ne.2 h1
   have HT2:=aa (show(⟨#[70,65,76,83,69]⟩:ByteArray)=strOfNums (bg ns (i:Int))by rw[HT.o,if_neg h1];decide);clear h1;go_wp2_with fail
   go_ret;exact⟨iQ HT2.o,HB3.o⟩
theorem ac3 {w:World}{v:Value}{l:List (Nd × Value)}{ns:List Nd}(C:mW w v l ns)(i:Nat)(n:Nd)(k:Value)(hi:l[i]? = some (n,k))(hk:n.kind=4)(w1:World)(hb:Below w.heap.size w w1) :
 Calls Tryz.prog 61 #[v,.int .i64 (i:Int)] w1 (ShR ns i w1):=by
 obtain⟨gm,hil⟩:=C.node hi;have hlf:=C.leaf hi;have hmem:=dz hi;have hll:i<l.length:=(dm.1 hi).1;obtain⟨hz1,hz2,hz3⟩:=(show n.text.size≤1000000∧n.ref.sh.size≤1000000∧n.ae.sh.size≤1000000 from C.sizes _ hmem);have bE:n.num≤9223372036854775807:=C.nums _ hmem;have jD:=C.few;have HC:=aa C;obtain⟨A,cap,rfl⟩:=C.sn.tQ;obtain⟨hsk,pb,po,rfl,hpb,hcell⟩:=C.sn.cellAt hi;obtain⟨aJ,ck,hkk,hkc,dh,iw⟩:=id hsk;obtain⟨m,hm⟩:∃m,n.kids.length=m:=⟨_,rfl⟩;rw[hm]at hkk hkc;subst hkk;obtain⟨nl,hnl⟩:∃nl,l.length=nl:=⟨_,rfl⟩;rw[hnl]at hll jD ⊢;have hii:(i:Int)<(nl:Int):=by omega
 have hi0:(0:Int)≤(i:Int):=by omega
 have hmx:m≤9223372036854775807:=by unfold maxLen at dh;omega
 have HM:=aa hm;have nA:=aa hnl;have qj:=aa iw;have uE:=aa gm;have wI:=aa hlf;have uD:=aa hkc;have HB:=aa hb;have kI:=aa (ui C.tree (i:=(i:Int)) (by omega) (by omega) n gm);have k0:w1.cell? ⟨pb,po+i*14,none⟩=some (.int .i64 n.kind):=(hb.cell (p:=⟨pb,po+i*14,none⟩) hpb).trans (hcell 0 (by omega));have k1:w1.cell? ⟨pb,po+i*14+1,none⟩=some (.int .i64 n.num):=(hb.cell (p:=⟨pb,po+i*14+1,none⟩) hpb).trans (hcell 1 (by omega));have k2:w1.cell? ⟨pb,po+i*14+2,none⟩=some (.string n.text):=(hb.cell (p:=⟨pb,po+i*14+2,none⟩) hpb).trans (hcell 2 (by omega));have k3:w1.cell? ⟨pb,po+i*14+3,none⟩=some (.string n.ref.sh):=(hb.cell (p:=⟨pb,po+i*14+3,none⟩) hpb).trans (hcell 3 (by omega));have k4:w1.cell? ⟨pb,po+i*14+4,none⟩=some (.int .i64 n.ref.c):=(hb.cell (p:=⟨pb,po+i*14+4,none⟩) hpb).trans (hcell 4 (by omega));have k5:w1.cell? ⟨pb,po+i*14+5,none⟩=some (.int .i64 n.ref.r):=(hb.cell (p:=⟨pb,po+i*14+5,none⟩) hpb).trans (hcell 5 (by omega));have k6:w1.cell? ⟨pb,po+i*14+6,none⟩=some (.bool n.ref.ac):=(hb.cell (p:=⟨pb,po+i*14+6,none⟩) hpb).trans (hcell 6 (by omega));have k7:w1.cell? ⟨pb,po+i*14+7,none⟩=some (.bool n.ref.ar):=(hb.cell (p:=⟨pb,po+i*14+7,none⟩) hpb).trans (hcell 7 (by omega));have k8:w1.cell? ⟨pb,po+i*14+8,none⟩=some (.string n.ae.sh):=(hb.cell (p:=⟨pb,po+i*14+8,none⟩) hpb).trans (hcell 8 (by omega));have k9:w1.cell? ⟨pb,po+i*14+9,none⟩=some (.int .i64 n.ae.c):=(hb.cell (p:=⟨pb,po+i*14+9,none⟩) hpb).trans (hcell 9 (by omega));have k10:w1.cell? ⟨pb,po+i*14+10,none⟩=some (.int .i64 n.ae.r):=(hb.cell (p:=⟨pb,po+i*14+10,none⟩) hpb).trans (hcell 10 (by omega));have k11:w1.cell? ⟨pb,po+i*14+11,none⟩=some (.bool n.ae.ac):=(hb.cell (p:=⟨pb,po+i*14+11,none⟩) hpb).trans (hcell 11 (by omega));have k12:w1.cell? ⟨pb,po+i*14+12,none⟩=some (.bool n.ae.ar):=(hb.cell (p:=⟨pb,po+i*14+12,none⟩) hpb).trans (hcell 12 (by omega));have k13:w1.cell? ⟨pb,po+i*14+13,none⟩=some (.slice aJ m ck):=(hb.cell (p:=⟨pb,po+i*14+13,none⟩) hpb).trans (hcell 13 (by omega));have HK:=aa hk;have HT:=aa (show(⟨#[35,82,69,70,33]⟩:ByteArray)=strOfNums (bg ns (i:Int))by rw[kI.o,if_neg (by omega),if_neg (by omega),if_neg (by omega),if_pos hk];decide);clear hk;have hB3:Below w1.heap.size w1 (w1.alloc (.cells #[.int .i64 n.kind,.int .i64 n.num,.string n.text,.string n.ref.sh,.int .i64 n.ref.c,.int .i64 n.ref.r,.bool n.ref.ac,.bool n.ref.ar,.string n.ae.sh,.int .i64 n.ae.c,.int .i64 n.ae.r,.bool n.ae.ac,.bool n.ae.ar,.slice aJ m ck] 48)):=(ai _ _).alloc (ag _) _;have aA:aH (w1.alloc (.cells #[.int .i64 n.kind,.int .i64 n.num,.string n.text,.string n.ref.sh,.int .i64 n.ref.c,.int .i64 n.ref.r,.bool n.ref.ac,.bool n.ref.ar,.string n.ae.sh,.int .i64 n.ae.c,.int .i64 n.ae.r,.bool n.ae.ac,.bool n.ae.ar,.slice aJ m ck] 48)) w1.heap.size n (.slice aJ m ck):=aH.new w1 n _;have HB3:=aa hB3;clear hB3 C hi hmem hcell iw hkc dh hm hnl gm hlf hsk hb;go_enter Tryz.func61,Tryz.ntmps61;go_upto_region 2 with (fail)
 generalize hb3:w1.heap.size=b3 at aA ⊢;generalize w1.alloc (.cells #[.int .i64 n.kind,.int .i64 n.num,.string n.text,.string n.ref.sh,.int .i64 n.ref.c,.int .i64 n.ref.r,.bool n.ref.ac,.bool n.ref.ar,.string n.ae.sh,.int .i64 n.ae.c,.int .i64 n.ae.r,.bool n.ae.ac,.bool n.ae.ar,.slice aJ m ck] 48)=w3 at aA HB3 ⊢;clear hb3 k0 k1 k2 k3 k4 k5 k6 k7 k8 k9 k10 k11 k12 k13;obtain⟨x0,x1,x2,x3,x4,x5,x6,x7,az,aW,aT,aU,aV,aP⟩:=aA.cells;have hb3:=aA.lt;have aA:=aa aA;have hk:=HK.o;have e1:(n.kind == 1)=false:=by rw[hk];rfl
 have e2:(n.kind == 2)=false:=by rw[hk];rfl
 have e3:(n.kind == 3)=false:=by rw[hk];rfl
 have e4:(n.kind == 4)=true:=by rw[hk];rfl
 clear hk;go_wp2_with fail
 go_ret;exact⟨iQ HT.o,HB3.o⟩
theorem ac4 {w:World}{v:Value}{l:List (Nd × Value)}{ns:List Nd}(C:mW w v l ns)(i:Nat)(n:Nd)(k:Value)(hi:l[i]? = some (n,k))(hk:n.kind=5)(w1:World)(hb:Below w.heap.size w w1) :
 Calls Tryz.prog 61 #[v,.int .i64 (i:Int)] w1 (ShR ns i w1):=by
 obtain⟨gm,hil⟩:=C.node hi;have hlf:=C.leaf hi;have hmem:=dz hi;have hll:i<l.length:=(dm.1 hi).1;obtain⟨hz1,hz2,hz3⟩:=(show n.text.size≤1000000∧n.ref.sh.size≤1000000∧n.ae.sh.size≤1000000 from C.sizes _ hmem);have bE:n.num≤9223372036854775807:=C.nums _ hmem;have jD:=C.few;have HC:=aa C;obtain⟨A,cap,rfl⟩:=C.sn.tQ;obtain⟨hsk,pb,po,rfl,hpb,hcell⟩:=C.sn.cellAt hi;obtain⟨aJ,ck,hkk,hkc,dh,iw⟩:=id hsk;obtain⟨m,hm⟩:∃m,n.kids.length=m:=⟨_,rfl⟩;rw[hm]at hkk hkc;subst hkk;obtain⟨nl,hnl⟩:∃nl,l.length=nl:=⟨_,rfl⟩;rw[hnl]at hll jD ⊢;have hii:(i:Int)<(nl:Int):=by omega
 have hi0:(0:Int)≤(i:Int):=by omega
 have hmx:m≤9223372036854775807:=by unfold maxLen at dh;omega
 have HM:=aa hm;have nA:=aa hnl;have qj:=aa iw;have uE:=aa gm;have wI:=aa hlf;have uD:=aa hkc;have HB:=aa hb;have kI:=aa (ui C.tree (i:=(i:Int)) (by omega) (by omega) n gm);have k0:w1.cell? ⟨pb,po+i*14,none⟩=some (.int .i64 n.kind):=(hb.cell (p:=⟨pb,po+i*14,none⟩) hpb).trans (hcell 0 (by omega));have k1:w1.cell? ⟨pb,po+i*14+1,none⟩=some (.int .i64 n.num):=(hb.cell (p:=⟨pb,po+i*14+1,none⟩) hpb).trans (hcell 1 (by omega));have k2:w1.cell? ⟨pb,po+i*14+2,none⟩=some (.string n.text):=(hb.cell (p:=⟨pb,po+i*14+2,none⟩) hpb).trans (hcell 2 (by omega));have k3:w1.cell? ⟨pb,po+i*14+3,none⟩=some (.string n.ref.sh):=(hb.cell (p:=⟨pb,po+i*14+3,none⟩) hpb).trans (hcell 3 (by omega));have k4:w1.cell? ⟨pb,po+i*14+4,none⟩=some (.int .i64 n.ref.c):=(hb.cell (p:=⟨pb,po+i*14+4,none⟩) hpb).trans (hcell 4 (by omega));have k5:w1.cell? ⟨pb,po+i*14+5,none⟩=some (.int .i64 n.ref.r):=(hb.cell (p:=⟨pb,po+i*14+5,none⟩) hpb).trans (hcell 5 (by omega));have k6:w1.cell? ⟨pb,po+i*14+6,none⟩=some (.bool n.ref.ac):=(hb.cell (p:=⟨pb,po+i*14+6,none⟩) hpb).trans (hcell 6 (by omega));have k7:w1.cell? ⟨pb,po+i*14+7,none⟩=some (.bool n.ref.ar):=(hb.cell (p:=⟨pb,po+i*14+7,none⟩) hpb).trans (hcell 7 (by omega));have k8:w1.cell? ⟨pb,po+i*14+8,none⟩=some (.string n.ae.sh):=(hb.cell (p:=⟨pb,po+i*14+8,none⟩) hpb).trans (hcell 8 (by omega));have k9:w1.cell? ⟨pb,po+i*14+9,none⟩=some (.int .i64 n.ae.c):=(hb.cell (p:=⟨pb,po+i*14+9,none⟩) hpb).trans (hcell 9 (by omega));have k10:w1.cell? ⟨pb,po+i*14+10,none⟩=some (.int .i64 n.ae.r):=(hb.cell (p:=⟨pb,po+i*14+10,none⟩) hpb).trans (hcell 10 (by omega));have k11:w1.cell? ⟨pb,po+i*14+11,none⟩=some (.bool n.ae.ac):=(hb.cell (p:=⟨pb,po+i*14+11,none⟩) hpb).trans (hcell 11 (by omega));have k12:w1.cell? ⟨pb,po+i*14+12,none⟩=some (.bool n.ae.ar):=(hb.cell (p:=⟨pb,po+i*14+12,none⟩) hpb).trans (hcell 12 (by omega));have k13:w1.cell? ⟨pb,po+i*14+13,none⟩=some (.slice aJ m ck):=(hb.cell (p:=⟨pb,po+i*14+13,none⟩) hpb).trans (hcell 13 (by omega));have HK:=aa hk;have HT:=aa (show bg ns (i:Int)=aO (sb n.ref.sh) n.ref.c n.ref.r n.ref.ac n.ref.ar by rw[kI.o,if_neg (by omega),if_neg (by omega),if_neg (by omega),if_neg (by omega),if_pos hk]);clear hk;have hB3:Below w1.heap.size w1 (w1.alloc (.cells #[.int .i64 n.kind,.int .i64 n.num,.string n.text,.string n.ref.sh,.int .i64 n.ref.c,.int .i64 n.ref.r,.bool n.ref.ac,.bool n.ref.ar,.string n.ae.sh,.int .i64 n.ae.c,.int .i64 n.ae.r,.bool n.ae.ac,.bool n.ae.ar,.slice aJ m ck] 48)):=(ai _ _).alloc (ag _) _;have aA:aH (w1.alloc (.cells #[.int .i64 n.kind,.int .i64 n.num,.string n.text,.string n.ref.sh,.int .i64 n.ref.c,.int .i64 n.ref.r,.bool n.ref.ac,.bool n.ref.ar,.string n.ae.sh,.int .i64 n.ae.c,.int .i64 n.ae.r,.bool n.ae.ac,.bool n.ae.ar,.slice aJ m ck] 48)) w1.heap.size n (.slice aJ m ck):=aH.new w1 n _;have HB3:=aa hB3;clear hB3 C hi hmem hcell iw hkc dh hm hnl gm hlf hsk hb;go_enter Tryz.func61,Tryz.ntmps61;go_upto_region 2 with (fail)
 generalize hb3:w1.heap.size=b3 at aA ⊢;generalize w1.alloc (.cells #[.int .i64 n.kind,.int .i64 n.num,.string n.text,.string n.ref.sh,.int .i64 n.ref.c,.int .i64 n.ref.r,.bool n.ref.ac,.bool n.ref.ar,.string n.ae.sh,.int .i64 n.ae.c,.int .i64 n.ae.r,.bool n.ae.ac,.bool n.ae.ar,.slice aJ m ck] 48)=w3 at aA HB3 ⊢;clear hb3 k0 k1 k2 k3 k4 k5 k6 k7 k8 k9 k10 k11 k12 k13;obtain⟨x0,x1,x2,x3,x4,x5,x6,x7,az,aW,aT,aU,aV,aP⟩:=aA.cells;have hb3:=aA.lt;have aA:=aa aA;have hk:=HK.o;have e1:(n.kind == 1)=false:=by rw[hk];rfl
 have e2:(n.kind == 2)=false:=by rw[hk];rfl
 have e3:(n.kind == 3)=false:=by rw[hk];rfl
 have e4:(n.kind == 4)=false:=by rw[hk];rfl
 have e5:(n.kind == 5)=true:=by rw[hk];rfl
 clear hk;have HD:=aa (fun w=>Cz n.ref.sh n.ref.c n.ref.r n.ref.ac n.ref.ar w hz2);go_wp2_with (go_at_call 94;((with_reducible refine(HD.o _).mono ?_);rintro e w4 ⟨rfl,h1⟩;have bG:=aa (HB3.o.trans (h1.mono HB3.o.size));clear h1))
 go_ret;exact⟨by rw[HT.o] <;> rfl,bG.o⟩
theorem zZ (b:Bool)(t:List Int):t.length≤(iJ b t).length∧(iJ b t).length≤t.length+2:=by
 unfold iJ;cases b <;> simp <;> omega
theorem adz:(⟨#[40]⟩:ByteArray)=strOfNums [40]:=by decide
theorem Rc:(⟨#[41]⟩:ByteArray)=strOfNums [41]:=by decide
theorem JE (t:List Int)(b:Bool)(w:World)(hs:t.length≤10000000000):Calls Tryz.prog 95 #[.string (strOfNums t),.bool b] w fun e w'=>e = .returned (.string (strOfNums (iJ b t)))∧w=w':=by
 have hz:(strOfNums t).size=t.length:=strOfNums_size t;cases b
 · go_enter Tryz.func95,Tryz.ntmps95
   go_wp2_with fail
   go_ret;exact⟨rfl,rfl⟩
 · have HS:=aa (show((⟨#[40]⟩:ByteArray)++strOfNums t)++⟨#[41]⟩=strOfNums (iJ true t)by rw[adz,Rc,gq,gq];rfl)
   obtain⟨s,hs2⟩:∃s,strOfNums t=s:=⟨_,rfl⟩;rw[hs2]at HS hz ⊢;have hz2:s.size≤10000000000:=by omega
   have h1:¬ 9223372036854775807<(⟨#[40]⟩:ByteArray).size+s.size:=by show ¬ _<1+s.size;omega
   have h2:((⟨#[40]⟩:ByteArray)++s).size=1+s.size:=by rw[ByteArray.size_append];rfl
   clear hs2 hz;go_enter Tryz.func95,Tryz.ntmps95;go_wp2_with fail
   go_ret;exact⟨iQ HS.o,rfl⟩
theorem mW.kid {w:World}{v:Value}{l:List (Nd × Value)}{ns:List Nd}(h:mW w v l ns){i:Nat}{n:Nd}{k:Value}(hi:l[i]? = some (n,k)){x:Int}(hx:x∈n.kids):∃j:Nat,x=(j:Int)∧j<i∧j<l.length∧∃q kq,l[j]? = some (q,kq)∧nodeAt ns (j:Int)=q:=by
 obtain⟨h1,h2⟩:=h.node hi;have hk:=(xD h.tree (i:=(i:Int)) (by omega) (by omega)).2;rw[h1]at hk;obtain⟨h3,h4⟩:=hk x hx;have hl:=(dm.1 hi).1;have hjl:x.toNat<l.length:=by omega
 have he:l[x.toNat]? = some (l[x.toNat].1,l[x.toNat].2):=bn hjl;exact⟨x.toNat,by omega,by omega,hjl,_,_,he,(h.node he).1⟩
def DN(w:World)(v:Value)(ns:List Nd)(i:Nat):Prop:=∀j:Nat,j<i→(bg ns (j:Int)).length≤1000000000→∀w1,Below w.heap.size w w1→Calls Tryz.prog 61 #[v,.int .i64 (j:Int)] w1 (ShR ns j w1)
theorem ac5 {w:World}{v:Value}{l:List (Nd × Value)}{ns:List Nd}(C:mW w v l ns)(i:Nat)(n:Nd)(k:Value)(hi:l[i]? = some (n,k))(hk:n.kind=6)(w1:World)(hb:Below w.heap.size w w1) :
 Calls Tryz.prog 61 #[v,.int .i64 (i:Int)] w1 (ShR ns i w1):=by
 obtain⟨gm,hil⟩:=C.node hi;have hlf:=C.leaf hi;have hmem:=dz hi;have hll:i<l.length:=(dm.1 hi).1;obtain⟨hz1,hz2,hz3⟩:=(show n.text.size≤1000000∧n.ref.sh.size≤1000000∧n.ae.sh.size≤1000000 from C.sizes _ hmem);have bE:n.num≤9223372036854775807:=C.nums _ hmem;have jD:=C.few;have HC:=aa C;obtain⟨A,cap,rfl⟩:=C.sn.tQ;obtain⟨hsk,pb,po,rfl,hpb,hcell⟩:=C.sn.cellAt hi;obtain⟨aJ,ck,hkk,hkc,dh,iw⟩:=id hsk;obtain⟨m,hm⟩:∃m,n.kids.length=m:=⟨_,rfl⟩;rw[hm]at hkk hkc;subst hkk;obtain⟨nl,hnl⟩:∃nl,l.length=nl:=⟨_,rfl⟩;rw[hnl]at hll jD ⊢;have hii:(i:Int)<(nl:Int):=by omega
 have hi0:(0:Int)≤(i:Int):=by omega
 have hmx:m≤9223372036854775807:=by unfold maxLen at dh;omega
 have HM:=aa hm;have nA:=aa hnl;have qj:=aa iw;have uE:=aa gm;have wI:=aa hlf;have uD:=aa hkc;have HB:=aa hb;have kI:=aa (ui C.tree (i:=(i:Int)) (by omega) (by omega) n gm);have k0:w1.cell? ⟨pb,po+i*14,none⟩=some (.int .i64 n.kind):=(hb.cell (p:=⟨pb,po+i*14,none⟩) hpb).trans (hcell 0 (by omega));have k1:w1.cell? ⟨pb,po+i*14+1,none⟩=some (.int .i64 n.num):=(hb.cell (p:=⟨pb,po+i*14+1,none⟩) hpb).trans (hcell 1 (by omega));have k2:w1.cell? ⟨pb,po+i*14+2,none⟩=some (.string n.text):=(hb.cell (p:=⟨pb,po+i*14+2,none⟩) hpb).trans (hcell 2 (by omega));have k3:w1.cell? ⟨pb,po+i*14+3,none⟩=some (.string n.ref.sh):=(hb.cell (p:=⟨pb,po+i*14+3,none⟩) hpb).trans (hcell 3 (by omega));have k4:w1.cell? ⟨pb,po+i*14+4,none⟩=some (.int .i64 n.ref.c):=(hb.cell (p:=⟨pb,po+i*14+4,none⟩) hpb).trans (hcell 4 (by omega));have k5:w1.cell? ⟨pb,po+i*14+5,none⟩=some (.int .i64 n.ref.r):=(hb.cell (p:=⟨pb,po+i*14+5,none⟩) hpb).trans (hcell 5 (by omega));have k6:w1.cell? ⟨pb,po+i*14+6,none⟩=some (.bool n.ref.ac):=(hb.cell (p:=⟨pb,po+i*14+6,none⟩) hpb).trans (hcell 6 (by omega));have k7:w1.cell? ⟨pb,po+i*14+7,none⟩=some (.bool n.ref.ar):=(hb.cell (p:=⟨pb,po+i*14+7,none⟩) hpb).trans (hcell 7 (by omega));have k8:w1.cell? ⟨pb,po+i*14+8,none⟩=some (.string n.ae.sh):=(hb.cell (p:=⟨pb,po+i*14+8,none⟩) hpb).trans (hcell 8 (by omega));have k9:w1.cell? ⟨pb,po+i*14+9,none⟩=some (.int .i64 n.ae.c):=(hb.cell (p:=⟨pb,po+i*14+9,none⟩) hpb).trans (hcell 9 (by omega));have k10:w1.cell? ⟨pb,po+i*14+10,none⟩=some (.int .i64 n.ae.r):=(hb.cell (p:=⟨pb,po+i*14+10,none⟩) hpb).trans (hcell 10 (by omega));have k11:w1.cell? ⟨pb,po+i*14+11,none⟩=some (.bool n.ae.ac):=(hb.cell (p:=⟨pb,po+i*14+11,none⟩) hpb).trans (hcell 11 (by omega));have k12:w1.cell? ⟨pb,po+i*14+12,none⟩=some (.bool n.ae.ar):=(hb.cell (p:=⟨pb,po+i*14+12,none⟩) hpb).trans (hcell 12 (by omega));have k13:w1.cell? ⟨pb,po+i*14+13,none⟩=some (.slice aJ m ck):=(hb.cell (p:=⟨pb,po+i*14+13,none⟩) hpb).trans (hcell 13 (by omega));have HK:=aa hk;have HT:=aa (show bg ns (i:Int)=aO (sb n.ref.sh) n.ref.c n.ref.r n.ref.ac n.ref.ar++58 :: aO (sb n.ae.sh) n.ae.c n.ae.r n.ae.ac n.ae.ar by rw[kI.o,if_neg (by omega),if_neg (by omega),if_neg (by omega),if_neg (by omega),if_neg (by omega),if_pos hk]);clear hk;have hB3:Below w1.heap.size w1 (w1.alloc (.cells #[.int .i64 n.kind,.int .i64 n.num,.string n.text,.string n.ref.sh,.int .i64 n.ref.c,.int .i64 n.ref.r,.bool n.ref.ac,.bool n.ref.ar,.string n.ae.sh,.int .i64 n.ae.c,.int .i64 n.ae.r,.bool n.ae.ac,.bool n.ae.ar,.slice aJ m ck] 48)):=(ai _ _).alloc (ag _) _;have aA:aH (w1.alloc (.cells #[.int .i64 n.kind,.int .i64 n.num,.string n.text,.string n.ref.sh,.int .i64 n.ref.c,.int .i64 n.ref.r,.bool n.ref.ac,.bool n.ref.ar,.string n.ae.sh,.int .i64 n.ae.c,.int .i64 n.ae.r,.bool n.ae.ac,.bool n.ae.ar,.slice aJ m ck] 48)) w1.heap.size n (.slice aJ m ck):=aH.new w1 n _;have HB3:=aa hB3;clear hB3 C hi hmem hcell iw hkc dh hm hnl gm hlf hsk hb;go_enter Tryz.func61,Tryz.ntmps61;go_upto_region 2 with (fail)
 generalize hb3:w1.heap.size=b3 at aA ⊢;generalize w1.alloc (.cells #[.int .i64 n.kind,.int .i64 n.num,.string n.text,.string n.ref.sh,.int .i64 n.ref.c,.int .i64 n.ref.r,.bool n.ref.ac,.bool n.ref.ar,.string n.ae.sh,.int .i64 n.ae.c,.int .i64 n.ae.r,.bool n.ae.ac,.bool n.ae.ar,.slice aJ m ck] 48)=w3 at aA HB3 ⊢;clear hb3 k0 k1 k2 k3 k4 k5 k6 k7 k8 k9 k10 k11 k12 k13;obtain⟨x0,x1,x2,x3,x4,x5,x6,x7,az,aW,aT,aU,aV,aP⟩:=aA.cells;have hb3:=aA.lt;have aA:=aa aA;have hk:=HK.o;have e1:(n.kind == 1)=false:=by rw[hk];rfl
 have e2:(n.kind == 2)=false:=by rw[hk];rfl
 have e3:(n.kind == 3)=false:=by rw[hk];rfl
 have e4:(n.kind == 4)=false:=by rw[hk];rfl
 have e5:(n.kind == 5)=false:=by rw[hk];rfl
 have e6:(n.kind == 6)=true:=by rw[hk];rfl
 clear hk;have HD:=aa (fun w=>Cz n.ref.sh n.ref.c n.ref.r n.ref.ac n.ref.ar w hz2);have HE:=aa (fun w=>Cz n.ae.sh n.ae.c n.ae.r n.ae.ac n.ae.ar w hz3);have l1:=CU (sb n.ref.sh) n.ref.c n.ref.r n.ref.ac n.ref.ar;have l2:=CU (sb n.ae.sh) n.ae.c n.ae.r n.ae.ac n.ae.ar;rw[bC]at l1 l2;obtain⟨T1,hT1⟩:∃T,aO (sb n.ref.sh) n.ref.c n.ref.r n.ref.ac n.ref.ar=T:=⟨_,rfl⟩;obtain⟨T2,Nn⟩:∃T,aO (sb n.ae.sh) n.ae.c n.ae.r n.ae.ac n.ae.ar=T:=⟨_,rfl⟩;rw[hT1]at HD HT l1;rw[Nn]at HE HT l2;clear hT1 Nn;have HR:=aa (show(strOfNums T1++⟨#[58]⟩)++strOfNums T2=strOfNums (bg ns (i:Int))by rw[HT.o,show(⟨#[58]⟩:ByteArray)=strOfNums [58]by decide,gq,gq];simp);have hs1:(strOfNums T1).size=T1.length:=strOfNums_size T1;have hs2:(strOfNums T2).size=T2.length:=strOfNums_size T2;obtain⟨t1,ht1⟩:∃t,strOfNums T1=t:=⟨_,rfl⟩;obtain⟨t2,ht2⟩:∃t,strOfNums T2=t:=⟨_,rfl⟩;rw[ht1]at HD HR hs1;rw[ht2]at HE HR hs2;clear ht1 ht2;have q1:¬ 9223372036854775807<t1.size+(⟨#[58]⟩:ByteArray).size:=by show ¬ _<t1.size+1;omega
 have q2:(t1++(⟨#[58]⟩:ByteArray)).size=t1.size+1:=by rw[ByteArray.size_append];rfl
 have q3:¬ 9223372036854775807<t1.size+1+t2.size:=by omega
 have q4:¬ 9223372036854775807<t1.size+1:=by omega
 have b1:t1.size≤1000008:=by omega
 have b2:t2.size≤1000008:=by omega
 have H3:=aa ((ai w3.heap.size w3).drew);clear hs1 hs2 l1 l2;go_upto_region 16 with (fail)
 go_region_held3 (fun w'=>w'.cell? ⟨b3,3,none⟩=some (.string n.ref.sh)∧w'.cell? ⟨b3,4,none⟩=some (.int .i64 n.ref.c)∧w'.cell? ⟨b3,5,none⟩=some (.int .i64 n.ref.r)∧w'.cell? ⟨b3,6,none⟩=some (.bool n.ref.ac)∧w'.cell? ⟨b3,7,none⟩=some (.bool n.ref.ar)∧w'.cell? ⟨b3,8,none⟩=some (.string n.ae.sh)∧w'.cell? ⟨b3,9,none⟩=some (.int .i64 n.ae.c)∧w'.cell? ⟨b3,10,none⟩=some (.int .i64 n.ae.r)∧w'.cell? ⟨b3,11,none⟩=some (.bool n.ae.ac)∧w'.cell? ⟨b3,12,none⟩=some (.bool n.ae.ar)) (go_keep) (first
  | (go_at_call 94;((with_reducible refine(HD.o _).mono ?_);rintro e w4 ⟨rfl,h1⟩;have H4:=aa (H3.o.trans (h1.mono H3.o.size));clear h1;have y3:=(H4.o.cell (p:=⟨b3,3,none⟩) hb3).trans x3;have y4:=(H4.o.cell (p:=⟨b3,4,none⟩) hb3).trans x4;have kQ:=(H4.o.cell (p:=⟨b3,5,none⟩) hb3).trans x5;have y6:=(H4.o.cell (p:=⟨b3,6,none⟩) hb3).trans x6;have lF:=(H4.o.cell (p:=⟨b3,7,none⟩) hb3).trans x7;have mJ:=(H4.o.cell (p:=⟨b3,8,none⟩) hb3).trans az;have uu:=(H4.o.cell (p:=⟨b3,9,none⟩) hb3).trans aW;have um:=(H4.o.cell (p:=⟨b3,10,none⟩) hb3).trans aT;have uo:=(H4.o.cell (p:=⟨b3,11,none⟩) hb3).trans aU;have uq:=(H4.o.cell (p:=⟨b3,12,none⟩) hb3).trans aV))
  | (go_at_call 94;((with_reducible refine(HE.o _).mono ?_);rintro e w5 ⟨rfl,h1⟩;have aQ:=aa (H4.o.trans (h1.mono H4.o.size));clear h1;have z3:=(aQ.o.cell (p:=⟨b3,3,none⟩) hb3).trans x3;have z4:=(aQ.o.cell (p:=⟨b3,4,none⟩) hb3).trans x4;have z5:=(aQ.o.cell (p:=⟨b3,5,none⟩) hb3).trans x5;have z6:=(aQ.o.cell (p:=⟨b3,6,none⟩) hb3).trans x6;have z7:=(aQ.o.cell (p:=⟨b3,7,none⟩) hb3).trans x7;have AV:=(aQ.o.cell (p:=⟨b3,8,none⟩) hb3).trans az;have z9:=(aQ.o.cell (p:=⟨b3,9,none⟩) hb3).trans aW;have AR:=(aQ.o.cell (p:=⟨b3,10,none⟩) hb3).trans aT;have AU:=(aQ.o.cell (p:=⟨b3,11,none⟩) hb3).trans aU;have z12:=(aQ.o.cell (p:=⟨b3,12,none⟩) hb3).trans aV)))
 all_goals go_wp2_with fail
 all_goals go_ret
 all_goals exact⟨iQ HR.o,HB3.o.trans (aQ.o.mono HB3.o.size)⟩
theorem ac7 {w:World}{v:Value}{l:List (Nd × Value)}{ns:List Nd}(C:mW w v l ns)(i:Nat)(n:Nd)(k:Value)(hi:l[i]? = some (n,k))(hk:n.kind=8)(hlen:(bg ns (i:Int)).length≤1000000000)(IH:DN w v ns i)(w1:World)(hb:Below w.heap.size w w1) :
 Calls Tryz.prog 61 #[v,.int .i64 (i:Int)] w1 (ShR ns i w1):=by
 obtain⟨gm,hil⟩:=C.node hi;have hlf:=C.leaf hi;have hmem:=dz hi;have hll:i<l.length:=(dm.1 hi).1;obtain⟨hz1,hz2,hz3⟩:=(show n.text.size≤1000000∧n.ref.sh.size≤1000000∧n.ae.sh.size≤1000000 from C.sizes _ hmem);have bE:n.num≤9223372036854775807:=C.nums _ hmem;have jD:=C.few;have HC:=aa C;obtain⟨A,cap,rfl⟩:=C.sn.tQ;obtain⟨hsk,pb,po,rfl,hpb,hcell⟩:=C.sn.cellAt hi;obtain⟨aJ,ck,hkk,hkc,dh,iw⟩:=id hsk;obtain⟨m,hm⟩:∃m,n.kids.length=m:=⟨_,rfl⟩;rw[hm]at hkk hkc;subst hkk;obtain⟨nl,hnl⟩:∃nl,l.length=nl:=⟨_,rfl⟩;rw[hnl]at hll jD ⊢;have hii:(i:Int)<(nl:Int):=by omega
 have hi0:(0:Int)≤(i:Int):=by omega
 have hmx:m≤9223372036854775807:=by unfold maxLen at dh;omega
 have HM:=aa hm;have nA:=aa hnl;have qj:=aa iw;have uE:=aa gm;have wI:=aa hlf;have uD:=aa hkc;have HB:=aa hb;have kI:=aa (ui C.tree (i:=(i:Int)) (by omega) (by omega) n gm);have hk1:n.kids.length=1:=(pE hlf).1 hk;have hm1:m=1:=by rw[← hm];exact hk1
 subst hm1;have hkne:n.kids≠[]:=by intro e;rw[e]at hm;simp at hm
 obtain⟨kb,eT,rfl,hkb,uO⟩:=iw.resolve_left hkne;obtain⟨a,hka⟩:∃x,n.kids[0]? = some x:=⟨_,bn (by omega)⟩;have hga:n.kids.getD 0 0=a:=by rw[iC,hka];rfl
 obtain⟨gI,rfl,hja,Xj,q,Yv,hla,hna⟩:=C.kid hi (dz hka);obtain⟨-,pba,poa,yH, -,vN⟩:=C.sn.cellAt hla;injection yH with yH;injection yH with hp1 hp2;subst hp1;subst hp2;have ca:w1.cell? ⟨pb,po+gI*14,none⟩=some (.int .i64 q.kind):=(hb.cell (p:=⟨pb,po+gI*14,none⟩) hpb).trans (vN 0 (by omega));have da:w1.cell? ⟨kb,eT,none⟩=some (.int .i64 (gI:Int)):=(hb.cell (p:=⟨kb,eT,none⟩) hkb).trans (uO 0 _ hka);obtain⟨sG,BQ⟩:∃R:Int,((bz q.kind:Nat):Int)+1=R:=⟨_,rfl⟩;have Gx:=aa (show ∀w,Calls Tryz.prog 96 #[.int .i64 q.kind] w (fun e w'=>e = .returned (.int .i64 sG)∧w=w')from fun w=>by rw[← BQ];exact EW q.kind w);have hia:(gI:Int)<(l.length:Int):=by omega
 have HT:=aa (show bg ns (i:Int)=45 :: iJ (decide (bz q.kind<4)) (bg ns (gI:Int))by rw[kI.o,if_neg (by omega),if_neg (by omega),if_neg (by omega),if_neg (by omega),if_neg (by omega),if_neg (by omega),if_neg (by omega),if_pos hk,hga,hna]);have vM:(bg ns (gI:Int)).length≤1000000000:=by rw[HT.o]at hlen;have:=(zZ (decide (bz q.kind<4)) (bg ns (gI:Int))).1;simp only[aK]at hlen;omega
 have yB:=IH gI hja vM;rw[hnl]at yB;have FY:=aa yB;have BR:decide (bz q.kind<4)=decide (sG<5):=by rw[decide_eq_decide];omega
 rw[BR]at HT;have qU:=aa (show Below w1.heap.size w1 w1→True from fun _=>trivial);clear yB qU BR BQ hga hka hla hna vN hkne uO IH;rw[hnl]at hia;have k0:w1.cell? ⟨pb,po+i*14,none⟩=some (.int .i64 n.kind):=(hb.cell (p:=⟨pb,po+i*14,none⟩) hpb).trans (hcell 0 (by omega));have k1:w1.cell? ⟨pb,po+i*14+1,none⟩=some (.int .i64 n.num):=(hb.cell (p:=⟨pb,po+i*14+1,none⟩) hpb).trans (hcell 1 (by omega));have k2:w1.cell? ⟨pb,po+i*14+2,none⟩=some (.string n.text):=(hb.cell (p:=⟨pb,po+i*14+2,none⟩) hpb).trans (hcell 2 (by omega));have k3:w1.cell? ⟨pb,po+i*14+3,none⟩=some (.string n.ref.sh):=(hb.cell (p:=⟨pb,po+i*14+3,none⟩) hpb).trans (hcell 3 (by omega));have k4:w1.cell? ⟨pb,po+i*14+4,none⟩=some (.int .i64 n.ref.c):=(hb.cell (p:=⟨pb,po+i*14+4,none⟩) hpb).trans (hcell 4 (by omega));have k5:w1.cell? ⟨pb,po+i*14+5,none⟩=some (.int .i64 n.ref.r):=(hb.cell (p:=⟨pb,po+i*14+5,none⟩) hpb).trans (hcell 5 (by omega));have k6:w1.cell? ⟨pb,po+i*14+6,none⟩=some (.bool n.ref.ac):=(hb.cell (p:=⟨pb,po+i*14+6,none⟩) hpb).trans (hcell 6 (by omega));have k7:w1.cell? ⟨pb,po+i*14+7,none⟩=some (.bool n.ref.ar):=(hb.cell (p:=⟨pb,po+i*14+7,none⟩) hpb).trans (hcell 7 (by omega));have k8:w1.cell? ⟨pb,po+i*14+8,none⟩=some (.string n.ae.sh):=(hb.cell (p:=⟨pb,po+i*14+8,none⟩) hpb).trans (hcell 8 (by omega));have k9:w1.cell? ⟨pb,po+i*14+9,none⟩=some (.int .i64 n.ae.c):=(hb.cell (p:=⟨pb,po+i*14+9,none⟩) hpb).trans (hcell 9 (by omega));have k10:w1.cell? ⟨pb,po+i*14+10,none⟩=some (.int .i64 n.ae.r):=(hb.cell (p:=⟨pb,po+i*14+10,none⟩) hpb).trans (hcell 10 (by omega));have k11:w1.cell? ⟨pb,po+i*14+11,none⟩=some (.bool n.ae.ac):=(hb.cell (p:=⟨pb,po+i*14+11,none⟩) hpb).trans (hcell 11 (by omega));have k12:w1.cell? ⟨pb,po+i*14+12,none⟩=some (.bool n.ae.ar):=(hb.cell (p:=⟨pb,po+i*14+12,none⟩) hpb).trans (hcell 12 (by omega));have k13:w1.cell? ⟨pb,po+i*14+13,none⟩=some (.slice (some ⟨kb,eT,none⟩) 1 ck):=(hb.cell (p:=⟨pb,po+i*14+13,none⟩) hpb).trans (hcell 13 (by omega));have HK:=aa hk;clear hk hlen;have hB3:Below w1.heap.size w1 (w1.alloc (.cells #[.int .i64 n.kind,.int .i64 n.num,.string n.text,.string n.ref.sh,.int .i64 n.ref.c,.int .i64 n.ref.r,.bool n.ref.ac,.bool n.ref.ar,.string n.ae.sh,.int .i64 n.ae.c,.int .i64 n.ae.r,.bool n.ae.ac,.bool n.ae.ar,.slice (some ⟨kb,eT,none⟩) 1 ck] 48)):=(ai _ _).alloc (ag _) _;have aA:aH (w1.alloc (.cells #[.int .i64 n.kind,.int .i64 n.num,.string n.text,.string n.ref.sh,.int .i64 n.ref.c,.int .i64 n.ref.r,.bool n.ref.ac,.bool n.ref.ar,.string n.ae.sh,.int .i64 n.ae.c,.int .i64 n.ae.r,.bool n.ae.ac,.bool n.ae.ar,.slice (some ⟨kb,eT,none⟩) 1 ck] 48)) w1.heap.size n (.slice (some ⟨kb,eT,none⟩) 1 ck):=aH.new w1 n _;have HB3:=aa hB3;clear hB3 C hi hmem hcell iw hkc dh hm hnl gm hlf hsk hb;go_enter Tryz.func61,Tryz.ntmps61;go_upto_region 2 with (fail)
 generalize hb3:w1.heap.size=b3 at aA ⊢;generalize w1.alloc (.cells #[.int .i64 n.kind,.int .i64 n.num,.string n.text,.string n.ref.sh,.int .i64 n.ref.c,.int .i64 n.ref.r,.bool n.ref.ac,.bool n.ref.ar,.string n.ae.sh,.int .i64 n.ae.c,.int .i64 n.ae.r,.bool n.ae.ac,.bool n.ae.ar,.slice (some ⟨kb,eT,none⟩) 1 ck] 48)=w3 at aA HB3 ⊢;have s0:=(HB3.o.cell (p:=⟨kb,eT,none⟩) (eU hkb HB.o.size)).trans da;have s1:=(HB3.o.cell (p:=⟨pb,po+gI*14,none⟩) (eU hpb HB.o.size)).trans ca;clear da ca hb3 k0 k1 k2 k3 k4 k5 k6 k7 k8 k9 k10 k11 k12 k13;obtain⟨x0,x1,x2,x3,x4,x5,x6,x7,az,aW,aT,aU,aV,aP⟩:=aA.cells;have hb3:=aA.lt;have aA:=aa aA;have hk:=HK.o;have e1:(n.kind == 1)=false:=by rw[hk];rfl
 have e2:(n.kind == 2)=false:=by rw[hk];rfl
 have e3:(n.kind == 3)=false:=by rw[hk];rfl
 have e4:(n.kind == 4)=false:=by rw[hk];rfl
 have e5:(n.kind == 5)=false:=by rw[hk];rfl
 have e6:(n.kind == 6)=false:=by rw[hk];rfl
 have e7:(n.kind == 7)=false:=by rw[hk];rfl
 have e8:(n.kind == 8)=true:=by rw[hk];rfl
 clear hk;have Xk:kb<w1.heap.size:=eU hkb HB.o.size;have yI:pb<w1.heap.size:=eU hpb HB.o.size;have Xl:kb<w3.heap.size:=eU Xk HB3.o.size;have Ei:pb<w3.heap.size:=eU yI HB3.o.size;have qR:=aa (HB.o.trans (HB3.o.mono HB.o.size));have H3:=aa ((ai w3.heap.size w3).drew);have hzi:=(zZ (decide (sG<5)) (bg ns (gI:Int))).2;have qi:=aa (fun w=>JE (bg ns (gI:Int)) (decide (sG<5)) w (by omega));obtain⟨T,hT⟩:∃T,iJ (decide (sG<5)) (bg ns (gI:Int))=T:=⟨_,rfl⟩;rw[hT]at HT qi hzi;have HRR:=aa (show(⟨#[45]⟩:ByteArray)++strOfNums T=strOfNums (bg ns (i:Int))by rw[HT.o,show(⟨#[45]⟩:ByteArray)=strOfNums [45]by decide,gq];rfl);have hs1:(strOfNums T).size=T.length:=strOfNums_size T;obtain⟨t,ht⟩:∃t,strOfNums T=t:=⟨_,rfl⟩;rw[ht]at qi HRR hs1;have q1:¬ 9223372036854775807<(⟨#[45]⟩:ByteArray).size+t.size:=by show ¬ _<1+t.size;omega
 have q2:¬ 9223372036854775807<1+t.size:=by omega
 clear ht hT hs1 hzi;go_upto_region 27 with (fail)
 go_region_held3 (fun w'=>w'.cell? ⟨b3,13,none⟩=some (.slice (some ⟨kb,eT,none⟩) 1 ck)∧w'.cell? ⟨kb,eT,none⟩=some (.int .i64 (gI:Int))∧w'.cell? ⟨pb,po+gI*14,none⟩=some (.int .i64 q.kind)) (go_keep) (first
  | (go_at_call 61;((with_reducible refine(FY.o _ (qR.o.trans (H3.o.mono qR.o.size))).mono ?_);rintro e w4 ⟨rfl,h1⟩;have H4:=aa (H3.o.trans (h1.mono H3.o.size));clear h1;have y0:=(H4.o.cell (p:=⟨b3,13,none⟩) hb3).trans aP;have y1:=(H4.o.cell (p:=⟨kb,eT,none⟩) Xl).trans s0;have y2:=(H4.o.cell (p:=⟨pb,po+gI*14,none⟩) Ei).trans s1))
  | (go_at_call 96;((with_reducible refine(Gx.o _).mono ?_);rintro e wn ⟨rfl,rfl⟩))
  | (go_at_call 95;((with_reducible refine(qi.o _).mono ?_);rintro e wn ⟨rfl,rfl⟩)))
 all_goals go_wp2_with fail
 all_goals go_ret
 all_goals exact⟨iQ HRR.o,HB3.o.trans (H4.o.mono HB3.o.size)⟩
theorem ac8 {w:World}{v:Value}{l:List (Nd × Value)}{ns:List Nd}(C:mW w v l ns)(i:Nat)(n:Nd)(k:Value)(hi:l[i]? = some (n,k))(hk:9≤n.kind)(hlen:(bg ns (i:Int)).length≤1000000000)(IH:DN w v ns i)(w1:World)(hb:Below w.heap.size w w1) :
 Calls Tryz.prog 61 #[v,.int .i64 (i:Int)] w1 (ShR ns i w1):=by
 obtain⟨gm,hil⟩:=C.node hi;have hlf:=C.leaf hi;have hmem:=dz hi;have hll:i<l.length:=(dm.1 hi).1;obtain⟨hz1,hz2,hz3⟩:=(show n.text.size≤1000000∧n.ref.sh.size≤1000000∧n.ae.sh.size≤1000000 from C.sizes _ hmem);have bE:n.num≤9223372036854775807:=C.nums _ hmem;have jD:=C.few;have HC:=aa C;obtain⟨A,cap,rfl⟩:=C.sn.tQ;obtain⟨hsk,pb,po,rfl,hpb,hcell⟩:=C.sn.cellAt hi;obtain⟨aJ,ck,hkk,hkc,dh,iw⟩:=id hsk;obtain⟨m,hm⟩:∃m,n.kids.length=m:=⟨_,rfl⟩;rw[hm]at hkk hkc;subst hkk;obtain⟨nl,hnl⟩:∃nl,l.length=nl:=⟨_,rfl⟩;rw[hnl]at hll jD ⊢;have hii:(i:Int)<(nl:Int):=by omega
 have hi0:(0:Int)≤(i:Int):=by omega
 have hmx:m≤9223372036854775807:=by unfold maxLen at dh;omega
 have HM:=aa hm;have nA:=aa hnl;have qj:=aa iw;have uE:=aa gm;have wI:=aa hlf;have uD:=aa hkc;have HB:=aa hb;have kI:=aa (ui C.tree (i:=(i:Int)) (by omega) (by omega) n gm);have hk1:n.kids.length=2:=(pE hlf).2.1 hk;have afG:n.kind≤19:=(pE hlf).2.2.2.2.1;have hm1:m=2:=by rw[← hm];exact hk1
 subst hm1;have hkne:n.kids≠[]:=by intro e;rw[e]at hm;simp at hm
 obtain⟨gb,eT,rfl,zW,uO⟩:=iw.resolve_left hkne;obtain⟨a,hka⟩:∃x,n.kids[0]? = some x:=⟨_,bn (by omega)⟩;have hga:n.kids.getD 0 0=a:=by rw[iC,hka];rfl
 obtain⟨gI,rfl,hja,Xj,q,Yv,hla,hna⟩:=C.kid hi (dz hka);obtain⟨-,pba,poa,yH, -,vN⟩:=C.sn.cellAt hla;injection yH with yH;injection yH with hp1 hp2;subst hp1;subst hp2;have ca:w1.cell? ⟨pb,po+gI*14,none⟩=some (.int .i64 q.kind):=(hb.cell (p:=⟨pb,po+gI*14,none⟩) hpb).trans (vN 0 (by omega));have da:w1.cell? ⟨gb,eT,none⟩=some (.int .i64 (gI:Int)):=(hb.cell (p:=⟨gb,eT,none⟩) zW).trans (uO 0 _ hka);obtain⟨sG,BQ⟩:∃R:Int,((bz q.kind:Nat):Int)+1=R:=⟨_,rfl⟩;have Gx:=aa (show ∀w,Calls Tryz.prog 96 #[.int .i64 q.kind] w (fun e w'=>e = .returned (.int .i64 sG)∧w=w')from fun w=>by rw[← BQ];exact EW q.kind w);have hia:(gI:Int)<(l.length:Int):=by omega
 obtain⟨b,hkb⟩:∃x,n.kids[1]? = some x:=⟨_,bn (by omega)⟩;have hgb:n.kids.getD 1 0=b:=by rw[iC,hkb];rfl
 obtain⟨mZ,rfl,hjb,afD,r,kvb,hlb,hnb⟩:=C.kid hi (dz hkb);obtain⟨-,pbb,pob,hpb, -,hcb⟩:=C.sn.cellAt hlb;injection hpb with hpb;injection hpb with hp1 hp2;subst hp1;subst hp2;have cb:w1.cell? ⟨pb,po+mZ*14,none⟩=some (.int .i64 r.kind):=(hb.cell (p:=⟨pb,po+mZ*14,none⟩) hpb).trans (hcb 0 (by omega));have db:w1.cell? ⟨gb,eT+1,none⟩=some (.int .i64 (mZ:Int)):=(hb.cell (p:=⟨gb,eT+1,none⟩) zW).trans (uO 1 _ hkb);obtain⟨BF,hRb⟩:∃R:Int,((bz r.kind:Nat):Int)+1=R:=⟨_,rfl⟩;have Tk:=aa (show ∀w,Calls Tryz.prog 96 #[.int .i64 r.kind] w (fun e w'=>e = .returned (.int .i64 BF)∧w=w')from fun w=>by rw[← hRb];exact EW r.kind w);have hib:(mZ:Int)<(l.length:Int):=by omega
 obtain⟨o,ho,Io⟩:∃o:Nat,n.kind=9+(o:Int)∧o<11:=⟨(n.kind - 9).toNat,by omega,by omega⟩;have NT:(n.kind - 9).toNat=o:=by omega
 obtain⟨N,hN⟩:∃R:Int,((bz n.kind:Nat):Int)+1=R:=⟨_,rfl⟩;have Td:=aa (show ∀w,Calls Tryz.prog 96 #[.int .i64 n.kind] w (fun e w'=>e = .returned (.int .i64 N)∧w=w')from fun w=>by rw[← hN];exact EW n.kind w)
 have La:=aa (show ∀w,Calls Tryz.prog 97 #[.int .i64 n.kind] w (fun e w'=>e = .returned (.string (strOfNums (pR o)))∧Below w.heap.size w w')from fun w=>by
  rw[ho, ← (Jl o Io).2,jU];exact abn o Io w)
 have hol:(pR o).length≤2:=(show ∀o:Nat,o<11→(pR o).length≤2 by decide) o Io;have HT:=aa (show bg ns (i:Int)=iJ (decide (bz q.kind<bz n.kind)) (bg ns (gI:Int))++(pR o++iJ (decide (bz r.kind≤bz n.kind)) (bg ns (mZ:Int)))by rw[kI.o,if_neg (by omega),if_neg (by omega),if_neg (by omega),if_neg (by omega),if_neg (by omega),if_neg (by omega),if_neg (by omega),if_neg (by omega),hga,hgb,hna,hnb,NT]);have vM:(bg ns (gI:Int)).length≤1000000000:=by rw[HT.o]at hlen;have:=(zZ (decide (bz q.kind<bz n.kind)) (bg ns (gI:Int))).1;simp only[aj]at hlen;omega
 have hbb:(bg ns (mZ:Int)).length≤1000000000:=by rw[HT.o]at hlen;have:=(zZ (decide (bz r.kind≤bz n.kind)) (bg ns (mZ:Int))).1;simp only[aj]at hlen;omega
 have yB:=IH gI hja vM;have hIB:=IH mZ hjb hbb;rw[hnl]at yB hIB;have FY:=aa yB;have Sm:=aa hIB;have BR:decide (bz q.kind<bz n.kind)=decide (sG<N):=by rw[decide_eq_decide];omega
 have hRe:decide (bz r.kind≤bz n.kind)=decide (BF≤N):=by rw[decide_eq_decide];omega
 rw[BR,hRe]at HT;clear yB hIB BR hRe BQ hRb hga hgb hka hkb hla hlb hna hnb vN hcb hkne uO IH hN NT ho;rw[hnl]at hia hib;have k0:w1.cell? ⟨pb,po+i*14,none⟩=some (.int .i64 n.kind):=(hb.cell (p:=⟨pb,po+i*14,none⟩) hpb).trans (hcell 0 (by omega));have k1:w1.cell? ⟨pb,po+i*14+1,none⟩=some (.int .i64 n.num):=(hb.cell (p:=⟨pb,po+i*14+1,none⟩) hpb).trans (hcell 1 (by omega));have k2:w1.cell? ⟨pb,po+i*14+2,none⟩=some (.string n.text):=(hb.cell (p:=⟨pb,po+i*14+2,none⟩) hpb).trans (hcell 2 (by omega));have k3:w1.cell? ⟨pb,po+i*14+3,none⟩=some (.string n.ref.sh):=(hb.cell (p:=⟨pb,po+i*14+3,none⟩) hpb).trans (hcell 3 (by omega));have k4:w1.cell? ⟨pb,po+i*14+4,none⟩=some (.int .i64 n.ref.c):=(hb.cell (p:=⟨pb,po+i*14+4,none⟩) hpb).trans (hcell 4 (by omega));have k5:w1.cell? ⟨pb,po+i*14+5,none⟩=some (.int .i64 n.ref.r):=(hb.cell (p:=⟨pb,po+i*14+5,none⟩) hpb).trans (hcell 5 (by omega));have k6:w1.cell? ⟨pb,po+i*14+6,none⟩=some (.bool n.ref.ac):=(hb.cell (p:=⟨pb,po+i*14+6,none⟩) hpb).trans (hcell 6 (by omega));have k7:w1.cell? ⟨pb,po+i*14+7,none⟩=some (.bool n.ref.ar):=(hb.cell (p:=⟨pb,po+i*14+7,none⟩) hpb).trans (hcell 7 (by omega));have k8:w1.cell? ⟨pb,po+i*14+8,none⟩=some (.string n.ae.sh):=(hb.cell (p:=⟨pb,po+i*14+8,none⟩) hpb).trans (hcell 8 (by omega));have k9:w1.cell? ⟨pb,po+i*14+9,none⟩=some (.int .i64 n.ae.c):=(hb.cell (p:=⟨pb,po+i*14+9,none⟩) hpb).trans (hcell 9 (by omega));have k10:w1.cell? ⟨pb,po+i*14+10,none⟩=some (.int .i64 n.ae.r):=(hb.cell (p:=⟨pb,po+i*14+10,none⟩) hpb).trans (hcell 10 (by omega));have k11:w1.cell? ⟨pb,po+i*14+11,none⟩=some (.bool n.ae.ac):=(hb.cell (p:=⟨pb,po+i*14+11,none⟩) hpb).trans (hcell 11 (by omega));have k12:w1.cell? ⟨pb,po+i*14+12,none⟩=some (.bool n.ae.ar):=(hb.cell (p:=⟨pb,po+i*14+12,none⟩) hpb).trans (hcell 12 (by omega));have k13:w1.cell? ⟨pb,po+i*14+13,none⟩=some (.slice (some ⟨gb,eT,none⟩) 2 ck):=(hb.cell (p:=⟨pb,po+i*14+13,none⟩) hpb).trans (hcell 13 (by omega));have HK:=aa (show 9≤n.kind from hk);clear hk hlen;have hB3:Below w1.heap.size w1 (w1.alloc (.cells #[.int .i64 n.kind,.int .i64 n.num,.string n.text,.string n.ref.sh,.int .i64 n.ref.c,.int .i64 n.ref.r,.bool n.ref.ac,.bool n.ref.ar,.string n.ae.sh,.int .i64 n.ae.c,.int .i64 n.ae.r,.bool n.ae.ac,.bool n.ae.ar,.slice (some ⟨gb,eT,none⟩) 2 ck] 48)):=(ai _ _).alloc (ag _) _;have aA:aH (w1.alloc (.cells #[.int .i64 n.kind,.int .i64 n.num,.string n.text,.string n.ref.sh,.int .i64 n.ref.c,.int .i64 n.ref.r,.bool n.ref.ac,.bool n.ref.ar,.string n.ae.sh,.int .i64 n.ae.c,.int .i64 n.ae.r,.bool n.ae.ac,.bool n.ae.ar,.slice (some ⟨gb,eT,none⟩) 2 ck] 48)) w1.heap.size n (.slice (some ⟨gb,eT,none⟩) 2 ck):=aH.new w1 n _;have HB3:=aa hB3;clear hB3 C hi hmem hcell iw hkc dh hm hnl gm hlf hsk hb;go_enter Tryz.func61,Tryz.ntmps61;go_upto_region 2 with (fail)
 generalize hb3:w1.heap.size=b3 at aA ⊢;generalize w1.alloc (.cells #[.int .i64 n.kind,.int .i64 n.num,.string n.text,.string n.ref.sh,.int .i64 n.ref.c,.int .i64 n.ref.r,.bool n.ref.ac,.bool n.ref.ar,.string n.ae.sh,.int .i64 n.ae.c,.int .i64 n.ae.r,.bool n.ae.ac,.bool n.ae.ar,.slice (some ⟨gb,eT,none⟩) 2 ck] 48)=w3 at aA HB3 ⊢;have NG:gb<w1.heap.size:=eU zW HB.o.size;have yI:pb<w1.heap.size:=eU hpb HB.o.size;have s0:=(HB3.o.cell (p:=⟨gb,eT,none⟩) NG).trans da;have s1:=(HB3.o.cell (p:=⟨pb,po+gI*14,none⟩) yI).trans ca;have s2:=(HB3.o.cell (p:=⟨gb,eT+1,none⟩) NG).trans db;have s3:=(HB3.o.cell (p:=⟨pb,po+mZ*14,none⟩) yI).trans cb;clear da ca db cb hb3 k0 k1 k2 k3 k4 k5 k6 k7 k8 k9 k10 k11 k12 k13;obtain⟨x0,x1,x2,x3,x4,x5,x6,x7,az,aW,aT,aU,aV,aP⟩:=aA.cells;have hb3:=aA.lt;have aA:=aa aA;have Ij:=HK.o;have e1:(n.kind == 1)=false:=beq_eq_false_iff_ne.2 (by omega);have e2:(n.kind == 2)=false:=beq_eq_false_iff_ne.2 (by omega);have e3:(n.kind == 3)=false:=beq_eq_false_iff_ne.2 (by omega);have e4:(n.kind == 4)=false:=beq_eq_false_iff_ne.2 (by omega);have e5:(n.kind == 5)=false:=beq_eq_false_iff_ne.2 (by omega);have e6:(n.kind == 6)=false:=beq_eq_false_iff_ne.2 (by omega);have e7:(n.kind == 7)=false:=beq_eq_false_iff_ne.2 (by omega);have e8:(n.kind == 8)=false:=beq_eq_false_iff_ne.2 (by omega);clear Ij;have Ei:pb<w3.heap.size:=eU yI HB3.o.size;have qR:=aa (HB.o.trans (HB3.o.mono HB.o.size));have hzi:=(zZ (decide (sG<N)) (bg ns (gI:Int))).2;have hzj:=(zZ (decide (BF≤N)) (bg ns (mZ:Int))).2;have FZ:=aa (fun w=>JE (bg ns (gI:Int)) (decide (sG<N)) w (by omega));have F3:=aa (fun w=>JE (bg ns (mZ:Int)) (decide (BF≤N)) w (by omega));obtain⟨T,hT⟩:∃T,iJ (decide (sG<N)) (bg ns (gI:Int))=T:=⟨_,rfl⟩;obtain⟨U,hU⟩:∃T,iJ (decide (BF≤N)) (bg ns (mZ:Int))=T:=⟨_,rfl⟩;rw[hT]at FZ hzi;rw[hU]at F3 hzj;rw[hT,hU]at HT;have HRR:=aa (show(strOfNums T++strOfNums (pR o))++strOfNums U=strOfNums (bg ns (i:Int))by rw[HT.o,gq,gq,bO]);have hs1:(strOfNums T).size=T.length:=strOfNums_size T;have hs2:(strOfNums U).size=U.length:=strOfNums_size U;have hs3:(strOfNums (pR o)).size=(pR o).length:=strOfNums_size _;obtain⟨t,ht⟩:∃t,strOfNums T=t:=⟨_,rfl⟩;obtain⟨u,hu⟩:∃t,strOfNums U=t:=⟨_,rfl⟩;obtain⟨s,hs⟩:∃t,strOfNums (pR o)=t:=⟨_,rfl⟩;rw[ht]at FZ HRR hs1;rw[hu]at F3 HRR hs2;rw[hs]at La HRR hs3;have q1:¬ 9223372036854775807<t.size+s.size:=by omega
 have q2:(t++s).size=t.size+s.size:=ByteArray.size_append;have q3:¬ 9223372036854775807<t.size+s.size+u.size:=by omega
 have q4:t.size≤1000000002:=by omega
 have q5:u.size≤1000000002:=by omega
 have q6:s.size≤2:=by omega
 clear ht hu hs hT hU hs1 hs2 hs3 hzi hzj hol vM hbb;go_upto_region 28 with (fail)
 go_quiet (fail)
 go_upto_region 29 with (fail)
 have hb4:b3<(w3.drewN nq).heap.size:=hb3;have yJ:pb<(w3.drewN nq).heap.size:=Ei;have bG:=aa (oF HB3.o nq);have A9:=aa (oF qR.o nq);have t0:(w3.drewN nq).cell? ⟨b3,0,none⟩=some (.int .i64 n.kind):=x0;have t1:(w3.drewN nq).cell? ⟨pb,po+gI*14,none⟩=some (.int .i64 q.kind):=s1;have t2:(w3.drewN nq).cell? ⟨pb,po+mZ*14,none⟩=some (.int .i64 r.kind):=s3;clear x0 x1 x2 x3 x4 x5 x6 x7 az aW aT aU aV aP s0 s1 s2 s3 HB3 qR aA hb3 Ei;generalize w3.drewN nq=w4 at hb4 yJ bG A9 t0 t1 t2 ⊢;have H4:=aa ((ai w4.heap.size w4).drew)
 go_region_held3 (fun w'=>w'.cell? ⟨b3,0,none⟩=some (.int .i64 n.kind)∧w'.cell? ⟨pb,po+gI*14,none⟩=some (.int .i64 q.kind)∧w'.cell? ⟨pb,po+mZ*14,none⟩=some (.int .i64 r.kind)) (go_keep) (first
  | (go_at_call 61;((with_reducible refine(FY.o _ (A9.o.trans (H4.o.mono A9.o.size))).mono ?_);rintro e w5 ⟨rfl,h1⟩;have aQ:=aa (H4.o.trans (h1.mono H4.o.size));clear h1;have y0:=(aQ.o.cell (p:=⟨b3,0,none⟩) hb4).trans t0;have y1:=(aQ.o.cell (p:=⟨pb,po+gI*14,none⟩) yJ).trans t1;have y2:=(aQ.o.cell (p:=⟨pb,po+mZ*14,none⟩) yJ).trans t2))
  | (go_at_call 96;((with_reducible refine(Gx.o _).mono ?_);rintro e wn ⟨rfl,rfl⟩))
  | (go_at_call 96;((with_reducible refine(Td.o _).mono ?_);rintro e wn ⟨rfl,rfl⟩))
  | (go_at_call 96;((with_reducible refine(Tk.o _).mono ?_);rintro e wn ⟨rfl,rfl⟩))
  | (go_at_call 95;((with_reducible refine(FZ.o _).mono ?_);rintro e wn ⟨rfl,rfl⟩))
  | (go_at_call 97;((with_reducible refine(La.o _).mono ?_);rintro e w6 ⟨rfl,h1⟩;have eO:=aa (aQ.o.trans (h1.mono aQ.o.size));clear h1;have z0:=(eO.o.cell (p:=⟨b3,0,none⟩) hb4).trans t0;have z1:=(eO.o.cell (p:=⟨pb,po+gI*14,none⟩) yJ).trans t1;have z2:=(eO.o.cell (p:=⟨pb,po+mZ*14,none⟩) yJ).trans t2))
  | (go_at_call 61;((with_reducible refine(Sm.o _ (A9.o.trans (eO.o.mono A9.o.size))).mono ?_);rintro e w7 ⟨rfl,h1⟩;have Dj:=aa (eO.o.trans (h1.mono eO.o.size));clear h1;have v0:=(Dj.o.cell (p:=⟨b3,0,none⟩) hb4).trans t0;have v1:=(Dj.o.cell (p:=⟨pb,po+gI*14,none⟩) yJ).trans t1;have v2:=(Dj.o.cell (p:=⟨pb,po+mZ*14,none⟩) yJ).trans t2))
  | (go_at_call 95;((with_reducible refine(F3.o _).mono ?_);rintro e wn ⟨rfl,rfl⟩)))
 all_goals go_wp2_with fail
 all_goals go_ret
 all_goals exact⟨iQ HRR.o,bG.o.trans (Dj.o.mono bG.o.size)⟩
theorem IM:∀(xs:List (List Int))(j:Nat),∃r,gV xs=gV (xs.take j)++r
 | [],j=>⟨[],by simp[gV]⟩
 | a :: l,0=>⟨gV (a :: l),rfl⟩
 | [a],j+1=>⟨[],by simp[gV]⟩
 | a :: b :: l,1=>⟨44 :: gV (b :: l),rfl⟩
 | a :: b :: l,j+2=>by
   obtain⟨r,h⟩:=IM (b :: l) (j+1);refine⟨r, ?_⟩;show a++44 :: gV (b :: l)=(a++44 :: gV (b :: l.take j))++r;rw[h,List.take_succ_cons];simp
theorem OJ (xs:List (List Int))(j:Nat)(y:List Int)(h:xs[j]? = some y):gV (xs.take (j+1))=if j=0 then y else gV (xs.take j)++44 :: y:=by
 rw[List.take_add_one,h];show gV (xs.take j++[y])=_;have hl:=(dm.1 h).1;by_cases hj:j=0
 · subst hj;rfl
 · rw[if_neg hj,IL y _ (fun e=>by have h2:(xs.take j).length=0:=(by rw[e];rfl);rw[gD]at h2;omega)]
theorem OI (xs:List (List Int))(j:Nat)(y:List Int)(h:xs[j]? = some y):y.length≤(gV xs).length:=by
 obtain⟨r,hr⟩:=IM xs (j+1);rw[OJ xs j y h]at hr;rw[hr,aj];split
 · omega
 · simp;omega
theorem Yb (xs:List (List Int))(j:Nat):(gV (xs.take j)).length≤(gV xs).length:=by
 obtain⟨r,hr⟩:=IM xs j;rw[hr,aj];omega
def jP(n:Nd)(ns:List Nd)(j:Nat):List Int:=sb n.text++40 :: gV ((n.kids.map (bg ns)).take j)
theorem U1 (n:Nd)(ns:List Nd):n.text++⟨#[40]⟩=strOfNums (jP n ns 0):=by
 have h:jP n ns 0=sb n.text++[40]:=by unfold jP;rw[List.take_zero];rfl
 rw[h, ← gq,jU];rfl
theorem UZ (n:Nd)(ns:List Nd)(j:Nat):(jP n ns j).length≤(gV (n.kids.map (bg ns))).length+n.text.size+1:=by
 have:=Yb (n.kids.map (bg ns)) j;unfold jP;simp only[aj,aK,bC];omega
theorem U0 (n:Nd)(ns:List Nd)(j:Nat)(x:Int)(h:n.kids[j]? = some x):jP n ns (j+1)=if j=0 then jP n ns j++bg ns x else (jP n ns j++[44])++bg ns x:=by
 unfold jP;rw[OJ _ j (bg ns x) (by rw[iD,h];rfl)];by_cases hj:j=0
 · subst hj;rw[if_pos rfl,if_pos rfl];simp[gV]
 · rw[if_neg hj,if_neg hj];simp
theorem UY (n:Nd)(ns:List Nd)(j:Nat)(h:n.kids.length≤j):jP n ns j=sb n.text++40 :: gV (n.kids.map (bg ns)):=by
 unfold jP;rw[mK (by rw[dN];exact h)]
theorem ac6 {w:World}{v:Value}{l:List (Nd × Value)}{ns:List Nd}(C:mW w v l ns)(i:Nat)(n:Nd)(k:Value)(hi:l[i]? = some (n,k))(hk:n.kind=7)(hlen:(bg ns (i:Int)).length≤1000000000)(IH:DN w v ns i)(w1:World)(hb:Below w.heap.size w w1) :
 Calls Tryz.prog 61 #[v,.int .i64 (i:Int)] w1 (ShR ns i w1):=by
 obtain⟨gm,hil⟩:=C.node hi;have hlf:=C.leaf hi;have hmem:=dz hi;have hll:i<l.length:=(dm.1 hi).1;obtain⟨hz1,hz2,hz3⟩:=(show n.text.size≤1000000∧n.ref.sh.size≤1000000∧n.ae.sh.size≤1000000 from C.sizes _ hmem);have bE:n.num≤9223372036854775807:=C.nums _ hmem;have jD:=C.few;have HC:=aa C;obtain⟨A,cap,rfl⟩:=C.sn.tQ;obtain⟨hsk,pb,po,rfl,hpb,hcell⟩:=C.sn.cellAt hi;obtain⟨aJ,ck,hkk,hkc,dh,iw⟩:=id hsk;obtain⟨m,hm⟩:∃m,n.kids.length=m:=⟨_,rfl⟩;rw[hm]at hkk hkc;subst hkk;obtain⟨nl,hnl⟩:∃nl,l.length=nl:=⟨_,rfl⟩;rw[hnl]at hll jD ⊢;have hii:(i:Int)<(nl:Int):=by omega
 have hi0:(0:Int)≤(i:Int):=by omega
 have hmx:m≤9223372036854775807:=by unfold maxLen at dh;omega
 have HM:=aa hm;have nA:=aa hnl;have qj:=aa iw;have uE:=aa gm;have wI:=aa hlf;have uD:=aa hkc;have HB:=aa hb;have kI:=aa (ui C.tree (i:=(i:Int)) (by omega) (by omega) n gm);have k0:w1.cell? ⟨pb,po+i*14,none⟩=some (.int .i64 n.kind):=(hb.cell (p:=⟨pb,po+i*14,none⟩) hpb).trans (hcell 0 (by omega));have k1:w1.cell? ⟨pb,po+i*14+1,none⟩=some (.int .i64 n.num):=(hb.cell (p:=⟨pb,po+i*14+1,none⟩) hpb).trans (hcell 1 (by omega));have k2:w1.cell? ⟨pb,po+i*14+2,none⟩=some (.string n.text):=(hb.cell (p:=⟨pb,po+i*14+2,none⟩) hpb).trans (hcell 2 (by omega));have k3:w1.cell? ⟨pb,po+i*14+3,none⟩=some (.string n.ref.sh):=(hb.cell (p:=⟨pb,po+i*14+3,none⟩) hpb).trans (hcell 3 (by omega));have k4:w1.cell? ⟨pb,po+i*14+4,none⟩=some (.int .i64 n.ref.c):=(hb.cell (p:=⟨pb,po+i*14+4,none⟩) hpb).trans (hcell 4 (by omega));have k5:w1.cell? ⟨pb,po+i*14+5,none⟩=some (.int .i64 n.ref.r):=(hb.cell (p:=⟨pb,po+i*14+5,none⟩) hpb).trans (hcell 5 (by omega));have k6:w1.cell? ⟨pb,po+i*14+6,none⟩=some (.bool n.ref.ac):=(hb.cell (p:=⟨pb,po+i*14+6,none⟩) hpb).trans (hcell 6 (by omega));have k7:w1.cell? ⟨pb,po+i*14+7,none⟩=some (.bool n.ref.ar):=(hb.cell (p:=⟨pb,po+i*14+7,none⟩) hpb).trans (hcell 7 (by omega));have k8:w1.cell? ⟨pb,po+i*14+8,none⟩=some (.string n.ae.sh):=(hb.cell (p:=⟨pb,po+i*14+8,none⟩) hpb).trans (hcell 8 (by omega));have k9:w1.cell? ⟨pb,po+i*14+9,none⟩=some (.int .i64 n.ae.c):=(hb.cell (p:=⟨pb,po+i*14+9,none⟩) hpb).trans (hcell 9 (by omega));have k10:w1.cell? ⟨pb,po+i*14+10,none⟩=some (.int .i64 n.ae.r):=(hb.cell (p:=⟨pb,po+i*14+10,none⟩) hpb).trans (hcell 10 (by omega));have k11:w1.cell? ⟨pb,po+i*14+11,none⟩=some (.bool n.ae.ac):=(hb.cell (p:=⟨pb,po+i*14+11,none⟩) hpb).trans (hcell 11 (by omega));have k12:w1.cell? ⟨pb,po+i*14+12,none⟩=some (.bool n.ae.ar):=(hb.cell (p:=⟨pb,po+i*14+12,none⟩) hpb).trans (hcell 12 (by omega));have k13:w1.cell? ⟨pb,po+i*14+13,none⟩=some (.slice aJ m ck):=(hb.cell (p:=⟨pb,po+i*14+13,none⟩) hpb).trans (hcell 13 (by omega));have HK:=aa hk;have HT:=aa (show bg ns (i:Int)=sb n.text++40 :: (gV (n.kids.map (bg ns))++[41])by rw[kI.o,if_neg (by omega),if_neg (by omega),if_neg (by omega),if_neg (by omega),if_neg (by omega),if_neg (by omega),if_pos hk]);have hjl:(gV (n.kids.map (bg ns))).length+n.text.size+2≤1000000000:=by rw[HT.o]at hlen;simp only[aj,aK,dY,bC]at hlen;omega
 have Bl:=aa (show ∀(j:Nat)(x:Int),n.kids[j]? = some x→∃y:Nat,x=(y:Int)∧∀w2,Below w.heap.size w w2→Calls Tryz.prog 61 #[.slice (some ⟨pb,po,none⟩) nl cap,.int .i64 (y:Int)] w2 (ShR ns y w2)from fun j x hx=>by
  obtain⟨y,e,hy, -⟩:=C.kid hi (dz hx);refine⟨y,e, ?_⟩;have hl:=OI (n.kids.map (bg ns)) j (bg ns (y:Int)) (by rw[iD,hx,e];rfl);have:=IH y hy (by omega);rw[hnl]at this;exact this)
 clear IH;clear hk hlen;have hB3:Below w1.heap.size w1 (w1.alloc (.cells #[.int .i64 n.kind,.int .i64 n.num,.string n.text,.string n.ref.sh,.int .i64 n.ref.c,.int .i64 n.ref.r,.bool n.ref.ac,.bool n.ref.ar,.string n.ae.sh,.int .i64 n.ae.c,.int .i64 n.ae.r,.bool n.ae.ac,.bool n.ae.ar,.slice aJ m ck] 48)):=(ai _ _).alloc (ag _) _;have aA:aH (w1.alloc (.cells #[.int .i64 n.kind,.int .i64 n.num,.string n.text,.string n.ref.sh,.int .i64 n.ref.c,.int .i64 n.ref.r,.bool n.ref.ac,.bool n.ref.ar,.string n.ae.sh,.int .i64 n.ae.c,.int .i64 n.ae.r,.bool n.ae.ac,.bool n.ae.ar,.slice aJ m ck] 48)) w1.heap.size n (.slice aJ m ck):=aH.new w1 n _;have HB3:=aa hB3;clear hB3 C hi hmem hcell iw hkc dh hm hnl gm hlf hsk hb;go_enter Tryz.func61,Tryz.ntmps61;go_upto_region 2 with (fail)
 generalize hb3:w1.heap.size=b3 at aA ⊢;generalize w1.alloc (.cells #[.int .i64 n.kind,.int .i64 n.num,.string n.text,.string n.ref.sh,.int .i64 n.ref.c,.int .i64 n.ref.r,.bool n.ref.ac,.bool n.ref.ar,.string n.ae.sh,.int .i64 n.ae.c,.int .i64 n.ae.r,.bool n.ae.ac,.bool n.ae.ar,.slice aJ m ck] 48)=w3 at aA HB3 ⊢;clear hb3 k0 k1 k2 k3 k4 k5 k6 k7 k8 k9 k10 k11 k12 k13;obtain⟨x0,x1,x2,x3,x4,x5,x6,x7,az,aW,aT,aU,aV,aP⟩:=aA.cells;have hb3:=aA.lt;have aA:=aa aA;have hk:=HK.o;have e1:(n.kind == 1)=false:=by rw[hk];rfl
 have e2:(n.kind == 2)=false:=by rw[hk];rfl
 have e3:(n.kind == 3)=false:=by rw[hk];rfl
 have e4:(n.kind == 4)=false:=by rw[hk];rfl
 have e5:(n.kind == 5)=false:=by rw[hk];rfl
 have e6:(n.kind == 6)=false:=by rw[hk];rfl
 have e7:(n.kind == 7)=true:=by rw[hk];rfl
 clear hk;have qR:=aa (HB.o.trans (HB3.o.mono HB.o.size));have XV:=hz1;have q0:¬ 9223372036854775807<n.text.size+(⟨#[40]⟩:ByteArray).size:=by show ¬ _<n.text.size+1;omega
 have q00:¬ 9223372036854775807<n.text.size+1:=by omega
 go_upto_region 20 with (fail)
 go_loopw [6,7] (fun tv iv wr=>∃(j:Nat),j≤m∧iv = .int .i64 (j:Int)∧tv = .string (strOfNums (jP n ns j))∧Hid (Below w3.heap.size w3 wr))
  (fun _ iv _=>m - (intOf iv).toNat)
 case atStart=>exact⟨0,cu _,rfl,congrArg Value.string (U1 n ns),aa (ai _ _)⟩
 case round =>
  obtain⟨j,hj,rfl,rfl,HW⟩:=hrel;have hcl:=UZ n ns j;have y13:=(HW.o.cell (p:=⟨b3,13,none⟩) hb3).trans aP;by_cases hlt:j<m
  · have hji:(j:Int)<(m:Int):=by omega
    have hj0:(0:Int)≤(j:Int):=by omega
    obtain⟨x,hx⟩:∃x,n.kids[j]? = some x:=⟨_,bn (by rw[HM.o];exact hlt)⟩;have hmore:=U0 n ns j x hx;obtain⟨y,rfl,hcall⟩:=Bl.o j x hx;have hsl:=OI (n.kids.map (bg ns)) j (bg ns (y:Int)) (by rw[iD,hx];rfl);rcases qj.o with e|⟨kb,eT,rfl,hkb,uO⟩
    · exfalso;rw[e]at hx;simp at hx
    have NH:kb<w1.heap.size:=eU hkb HB.o.size;have d0:wr.cell? ⟨kb,eT+j,none⟩=some (.int .i64 (y:Int)):=(HW.o.cell (p:=⟨kb,eT+j,none⟩) (eU NH HB3.o.size)).trans ((HB3.o.cell (p:=⟨kb,eT+j,none⟩) NH).trans ((HB.o.cell (p:=⟨kb,eT+j,none⟩) hkb).trans (uO j _ hx)));have wD:=aa (hcall wr (qR.o.trans (HW.o.mono qR.o.size)));have hs1:(strOfNums (jP n ns j)).size=(jP n ns j).length:=strOfNums_size _;have hs2:(strOfNums (bg ns (y:Int))).size=(bg ns (y:Int)).length:=strOfNums_size _;by_cases h0:j=0
    · have hg:¬ (0:Int)<(j:Int):=by omega
      rw[if_pos h0]at hmore;have dB:=aa (show strOfNums (jP n ns j)++strOfNums (bg ns (y:Int))=strOfNums (jP n ns (j+1))by rw[hmore,gq]);obtain⟨t,ht⟩:∃t,strOfNums (jP n ns j)=t:=⟨_,rfl⟩;rw[ht]at dB hs1 ⊢;have q1:¬ 9223372036854775807<t.size+(strOfNums (bg ns (y:Int))).size:=by omega
      clear h0 hmore hcall hx uO hs1 hs2 hsl hcl ht;go_wp2_with (go_at_call 61;((with_reducible refine wD.o.mono ?_);rintro e w4 ⟨rfl,h1⟩;have uI:=aa (HW.o.trans (h1.mono HW.o.size));clear h1))
      go_roundw
      case rel=>exact⟨j+1,by omega,by go_num,congrArg Value.string dB.o,uI⟩
      case measure=>simp[intOf];omega
    · have hg:(0:Int)<(j:Int):=by omega
      rw[if_neg h0]at hmore;have dB:=aa (show(strOfNums (jP n ns j)++⟨#[44]⟩)++strOfNums (bg ns (y:Int))=strOfNums (jP n ns (j+1))by rw[hmore,show(⟨#[44]⟩:ByteArray)=strOfNums [44]by decide,gq,gq]);obtain⟨t,ht⟩:∃t,strOfNums (jP n ns j)=t:=⟨_,rfl⟩;rw[ht]at dB hs1 ⊢;have q1:¬ 9223372036854775807<t.size+(⟨#[44]⟩:ByteArray).size:=by show ¬ _<t.size+1;omega
      have q2:(t++(⟨#[44]⟩:ByteArray)).size=t.size+1:=by rw[ByteArray.size_append];rfl
      have q3:¬ 9223372036854775807<t.size+1+(strOfNums (bg ns (y:Int))).size:=by omega
      have q4:¬ 9223372036854775807<t.size+1:=by omega
      clear h0 hmore hcall hx uO hs1 hs2 hsl hcl ht;go_wp2_with (go_at_call 61;((with_reducible refine wD.o.mono ?_);rintro e w4 ⟨rfl,h1⟩;have uI:=aa (HW.o.trans (h1.mono HW.o.size));clear h1))
      go_roundw
      case rel=>exact⟨j+1,by omega,by go_num,congrArg Value.string dB.o,uI⟩
      case measure=>simp[intOf];omega
  · have hji:¬ (j:Int)<(m:Int):=by omega
    have HE:=aa (show strOfNums (jP n ns j)++⟨#[41]⟩=strOfNums (bg ns (i:Int))by
     rw[Rc,gq,HT.o,UY n ns j (by rw[HM.o];omega)];simp)
    have hs1:(strOfNums (jP n ns j)).size=(jP n ns j).length:=strOfNums_size _;obtain⟨t,ht⟩:∃t,strOfNums (jP n ns j)=t:=⟨_,rfl⟩;rw[ht]at HE hs1 ⊢;have q1:¬ 9223372036854775807<t.size+(⟨#[41]⟩:ByteArray).size:=by show ¬ _<t.size+1;omega
    have q4:¬ 9223372036854775807<t.size+1:=by omega
    clear hs1 hcl ht;go_wp2_with fail
    go_ret;exact⟨iQ HE.o,HB3.o.trans (HW.o.mono HB3.o.size)⟩
theorem QT {w:World}{v:Value}{l:List (Nd × Value)}{ns:List Nd}(C:mW w v l ns):∀(m i:Nat),i<m→i<l.length→(bg ns (i:Int)).length≤1000000000→∀w1,Below w.heap.size w w1→Calls Tryz.prog 61 #[v,.int .i64 (i:Int)] w1 (ShR ns i w1)
 | 0,_,h,_,_,_,_=>absurd h (by omega)
 | m+1,i,him,hil,hlen,w1,hb=>by
   have IH:DN w v ns i:=fun j hj hl w2 hb2=>QT C m j (by omega) (by omega) hl w2 hb2
   obtain⟨⟨n,k⟩,hi⟩:∃q,l[i]? = some q:=⟨_,bn hil⟩;obtain⟨-, -, -,k1,k19, -⟩:=pE (C.leaf hi);have hk:n.kind=1∨n.kind=2∨n.kind=3∨n.kind=4∨n.kind=5∨n.kind=6∨n.kind=7∨n.kind=8∨9≤n.kind:=by omega
   rcases hk with h|h|h|h|h|h|h|h|h
   · exact ac0 C i n k hi h w1 hb
   · exact ac1 C i n k hi h w1 hb
   · exact ac2 C i n k hi h w1 hb
   · exact ac3 C i n k hi h w1 hb
   · exact ac4 C i n k hi h w1 hb
   · exact ac5 C i n k hi h w1 hb
   · exact ac6 C i n k hi h hlen IH w1 hb
   · exact ac7 C i n k hi h hlen IH w1 hb
   · exact ac8 C i n k hi h hlen IH w1 hb
theorem aeo {ns:List Nd}(h:dM ns=true):0<ns.length:=by
 cases ns with
 | nil=>exact absurd h (by decide)
 | cons a l=>simp
theorem jl.nP {w w':World}{b:Nat}{v:Value}{vs:List (Nd × Value)}(h:jl w b v vs)(hf:aZ w w' b)(hw:b<w.heap.size):jl w' b v vs:=by
 obtain⟨⟨A,cap,h1,h2⟩,h3⟩:=h;refine⟨⟨A,cap,h1,h2.imp id ?_⟩,fun p hp=>(h3 p hp).nP hf (ag _) hw⟩;rintro⟨pb,po,e1,e2,e3⟩;exact⟨pb,po,e1,e2,fun i n k hi j hj=>(fI (a:=⟨pb,po+i*14+j,none⟩) (hf.block pb (by omega) (by omega) (.inl e2))).trans (e3 i n k hi j hj)⟩
theorem jl.lift {w w':World}{B C:Nat}{v:Value}{vs:List (Nd × Value)}(h:jl w B v vs)(hb:Below B w w')(hC:B≤C):jl w' C v vs:=by
 obtain⟨⟨A,cap,h1,h2⟩,h3⟩:=h;refine⟨⟨A,cap,h1,h2.imp id ?_⟩,fun p hp => ?_⟩
 · rintro⟨pb,po,e1,e2,e3⟩
   exact⟨pb,po,e1,by omega,fun i n k hi j hj=>(hb.cell (p:=⟨pb,po+i*14+j,none⟩) e2).trans (e3 i n k hi j hj)⟩
 · obtain⟨A2,c2,g1,g2,g3,g4⟩:=h3 p hp
   refine⟨A2,c2,g1,g2,g3,g4.imp id ?_⟩;rintro⟨pb,po,e1,e2,e3⟩;exact⟨pb,po,e1,by omega,fun j x hj=>(hb.cell (p:=⟨pb,po+j,none⟩) e2).trans (e3 j x hj)⟩
def J2(o:Option Value):Nat:=match o with|some (.slice _ n _)=>n|_=>0
theorem Q6 {α : Type}{size:Nat}{E:Enc α size}{e:TypeId}{w:World}{base:Nat}{v:Value}{xs:List α}(h:Own E e w base v xs):J2 (some v)=xs.length:=by
 rcases h.shape with ⟨rfl,rfl⟩|⟨g,cap,rfl, -⟩
 · rfl
 · rfl
def kP(b L:Nat)(w:World):Nat:=2*(L - J2 (w.cell? ⟨b,3,none⟩)) - J2 (w.cell? ⟨b,1,none⟩)
theorem dC.kP {w:World}{b:Nat}{nv:Value}{st:List av}{txt:List Int}(h:dC w b nv st txt)(L:Nat):kP b L w=2*(L - txt.length) - st.length:=by
 obtain⟨wv,⟨ad,bv,h1,_,h3,_⟩,h4⟩:=h;obtain⟨-,c1, -,c3⟩:=h1.facts;unfold Go.Proofs.YtdnooocmlhcpkaaGreatDoor.kP;rw[c1,c3,Q6 h4,Q6 h3]
theorem dC.wait {w:World}{b:Nat}{nv:Value}{st:List av}{txt:List Int}(h:dC w b nv st txt):∃A c,w.cell? ⟨b,1,none⟩=some (.slice A st.length c):=by
 obtain⟨wv,⟨ad,bv,h1, -⟩,h4⟩:=h;have c1:=h1.facts.2.1;rcases h4.shape with ⟨rfl,rfl⟩|⟨g,cap,rfl, -⟩
 · exact⟨_,_,c1⟩
 · exact⟨_,_,c1⟩
theorem aaM (w:World)(v:Value)(vs:List (Nd × Value))(hv:Vars w)(htab:jN w)(hmax:o9 w)(hsh:pg w)(h:jl w w.heap.size v vs)(hz:SZ vs)(bE:∀q∈vs,q.1.num≤9223372036854775807)(hlen:(gY (vs.map (·.1))).length≤1000000000)(ht:dM (vs.map (·.1))=true) :
 Calls Tryz.prog 59 #[v] w fun e w'=>e = .returned (.string (strOfNums (gY (vs.map (·.1)))))∧Below w.heap.size w w':=by
 have hT:=aaP w v vs hv h hz ht;have HT:=aa hT;obtain⟨l,hl⟩:∃l,vs.map (·.1)=l:=⟨_,rfl⟩
 have hpos:0<vs.length:=by
  rcases Nat.eq_zero_or_pos vs.length with e|e
  · rw[List.length_eq_zero_iff.1 e]at ht;exact absurd ht (by decide)
  · exact e
 have hlv:l.length=vs.length:=by rw[← hl,dN]
 obtain⟨L,hL⟩:∃L,(gY l).length=L:=⟨_,rfl⟩;rw[hl,hL]at hlen;have hpl:gY l=bg l ((l.length:Int) - 1):=by unfold gY bg;rw[if_pos (hl ▸ ht)]
 have hp0:jE l (av.op ((l.length:Int) - 1) 1)=gY l:=by rw[Ao,IG,hpl]
 have hok0:jd l (av.op ((l.length:Int) - 1) 1):=jd.op (by omega) (by omega) 1;rw[hlv]at hp0 hok0;obtain⟨N,hN⟩:∃N,vs.length=N:=⟨_,rfl⟩;have hN9:N≤1000:=by rw[← hN];exact hz.1
 rw[hN]at hp0 hok0 hpos;have hw1:wrap64 ((N:Int) - 1)=(N:Int) - 1:=by unfold wrap64;omega
 obtain⟨A,cap,hva⟩:=h.tQ;rw[hN]at hva;subst hva;have Tu:=aa h;have j4:=aa hz;have K8:=aa bE;have Lr:=aa ht;have HL:=aa hl;have zC:=aa hL;have Gj:=aa hp0;have SF:=aa hok0;have Bi:=aa (show jN w∧o9 w∧pg w from⟨htab,hmax,hsh⟩);rw[hl];clear hT hv htab hmax hsh h hz bE ht hl hL hpl hp0 hok0 hlv hN;go_enter Tryz.func59,Tryz.ntmps59;go_upto_region 3 with (go_at_call 52;((with_reducible refine HT.o.mono ?_);rintro e w1 ⟨rfl,h1⟩;have H1:=aa h1;clear h1))
 go_upto_region 4 with (fail)
 have hwr:fJ (w1.alloc (.cells #[.slice A N cap,.slice none 0 0,.pointer none,.slice none 0 0] 136)) w1.heap.size (.slice A N cap) (.slice none 0 0) (.pointer none) (.slice none 0 0):=(jw w1 _).1;have hB2:Below w1.heap.size w1 (w1.alloc (.cells #[.slice A N cap,.slice none 0 0,.pointer none,.slice none 0 0] 136)):=(ai _ _).alloc (ag _) _;obtain⟨b,hb⟩:∃b,w1.heap.size=b:=⟨_,rfl⟩;obtain⟨w2,hw2⟩:∃w2,w1.alloc (.cells #[.slice A N cap,.slice none 0 0,.pointer none,.slice none 0 0] 136)=w2:=⟨_,rfl⟩;have hwb:w.heap.size≤b:=by rw[← hb];exact H1.o.size
 have FK:=aa (H1.o.trans (hB2.mono H1.o.size));rw[hw2]at hwr FK ⊢;rw[hb]at hwr ⊢;have hbl:b<w2.heap.size:=hwr.lt;have ma:=aa (show dC w2 b (.slice A N cap) [] []from⟨_,⟨_,_,hwr,.inl rfl,Own.nil _ _ _ _,fun x hx=>absurd hx (by simp)⟩,Own.nil _ _ _ _⟩);have HG2:=aa (show l6 w w2 b from⟨hwb,FK.o,Bi.o⟩);have Tv:=aa (Tu.o.lift FK.o hwb);have xU:=aa (fun (wr:World)(hr:Below w2.heap.size w2 wr)=>y7 wr b (.slice A N cap) [] [av.op ((N:Int) - 1) 1] [] #[.string ⟨#[]⟩,.int .i64 ((N:Int) - 1),.int .i64 1] 1 rfl rfl (ma.o.below hr) (by show 1≤1000000;decide) (cu _));clear hw2 hb hwr hB2 HT
 go_upto_region 5 with (first
  | (go_at_call 89;((with_reducible refine(Cw _ _ _).mono ?_);rintro e w3 ⟨rfl,h3⟩;have HB3:=aa h3;clear h3))
  | (go_at_call 88;((with_reducible refine(xU.o _ HB3.o).mono ?_);rintro e w4 ⟨rfl,h3,h4⟩;have SV:=aa h3;have dL:=aa ((aZ.gJ HB3.o).trans h4);clear h3 h4)))
 go_loopw [] (fun wr=>∃(st:List av)(txt:List Int),Hid (dC wr b (.slice A N cap) st txt)∧Hid (aZ w2 wr b)∧Hid (∀p∈st,jd l p)∧Hid (txt++st.reverse.flatMap (jE l)=gY l))
  (fun wr=>kP b L wr)
 case atStart=>exact⟨[av.op ((N:Int) - 1) 1],[],SV,dL,aa (fun p hp=>by rw[List.mem_singleton.1 hp];exact SF.o),aa (by show jE l (av.op ((N:Int) - 1) 1)++[]=_;rw[fu];exact Gj.o)⟩
 case round =>
  obtain⟨st,txt,HQ,HF,kH,HE⟩:=hrel;rcases List.eq_nil_or_concat st with rfl|⟨st',p,rfl⟩
  · obtain⟨RY,cw,c1⟩:=HQ.o.wait
    rw[dY]at c1;have mQ:=aa (show txt=gY l from by have h:=HE.o;rw[List.reverse_nil,List.flatMap_nil,fu]at h;exact h);obtain⟨wv,hws, -⟩:=HQ.o;have Ty:=aa (adB wr b (.slice A N cap) wv txt hws (by rw[mQ.o];exact HL.o ▸ aen Lr.o (fun n hn=>by obtain⟨q,hq,rfl⟩:=List.mem_map.1 hn;exact K8.o q hq)));clear hws;go_wp2_with (go_at_call 92;((with_reducible refine Ty.o.mono ?_);rintro e w5 ⟨rfl,h3⟩;have aQ:=aa h3;clear h3))
    go_ret;refine⟨by rw[mQ.o] <;> rfl, ?_⟩;have hg:=((HG2.o.nP HF.o)).2.1;exact hg.trans ((aQ.o.mono (by omega)))
  · rw [List.concat_eq_append]at HQ kH HE
    obtain⟨RY,cw,c1⟩:=HQ.o.wait;rw[aj,fq]at c1;obtain⟨M,hM⟩:∃M:Nat,st'.length+1=M:=⟨_,rfl⟩;have hM0:(0:Int)<(M:Int):=by omega
    rw[hM]at c1;have htr:dM l=true:=by rw[← HL.o];exact Lr.o
    have hpk:jd l p:=kH.o p (by simp);have hE:=HE.o;rw[List.reverse_append,List.reverse_singleton,List.singleton_append,jV]at hE;have hE2:=congrArg List.length hE;rw[aj,aj,zC.o]at hE2;have hfl:=Ec htr st'.reverse (fun q hq=>kH.o q (List.mem_append_left _ (List.mem_reverse.1 hq)));rw[List.length_reverse]at hfl;have H8:=Rb htr p hpk;have Nk:=congrArg List.length H8;rw[aj]at Nk;have WG:=Ec htr _ (J5 htr p hpk);have hSM:=adu htr p hpk;have SN:=aa (aaH wr b (.slice A N cap) st' p txt HQ.o (by omega));have Lv:=aa (fun (w5:World)(h5:dC w5 b (.slice A N cap) st' txt)(hf:gF wr w5 b)=>ae5 w w5 b (.slice A N cap) vs st' txt p (HG2.o.nP (HF.o.trans (aZ.rD hf))) h5 (Tv.o.nP (HF.o.trans (aZ.rD hf)) hbl) j4.o (by rw[HL.o];exact htr) K8.o (by rw[HL.o];exact hpk) (by rw[HL.o];omega) (by rw[HL.o];omega));rw[HL.o]at Lv
    have S9:=aa (fun (w6:World)(hq:dC w6 b (.slice A N cap) (st'++(lv l p).2.reverse) (txt++(lv l p).1))=>show kP b L w6<kP b L wr from by
     rw[hq.kP,HQ.o.kP,aj,aj,aj,List.length_reverse,fq];omega)
    have FU:=aa (show(txt++(lv l p).1)++(st'++(lv l p).2.reverse).reverse.flatMap (jE l)=gY l from by
     rw[List.reverse_append,List.reverse_reverse,List.flatMap_append,bO txt, ← bO (lv l p).1, ← H8];exact hE)
    have SH:=aa (show ∀q∈st'++(lv l p).2.reverse,jd l q from fun q hq=>by
     rcases List.mem_append.1 hq with hq|hq
     · exact kH.o q (List.mem_append_left _ hq)
     · exact J5 htr p hpk q (List.mem_reverse.1 hq))
    clear hE hE2 hfl H8 Nk WG hSM hM
    go_wp2_with (first
     | (go_at_call 91;((with_reducible refine SN.o.mono ?_);rintro e w5 ⟨rfl,h3,h4⟩;have vz:=aa h3;have aL:=aa h4;clear h3 h4))
     | (go_at_call 90;((with_reducible refine(Lv.o _ vz.o aL.o).mono ?_);rintro e w6 ⟨rfl,h3,h4⟩;have zG:=aa h3;have cK:=aa h4;clear h3 h4)))
    go_roundw
    case rel=>exact⟨_,_,zG,aa (HF.o.trans ((aZ.rD aL.o).trans cK.o)),SH,FU⟩
    case measure=>exact S9.o _ zG.o
structure Sx (w:World):Prop where
 vars:Vars w
 ops:mV w
 tab:jN w
 max:o9 w
 sh:pg w
theorem Sx.below{w w':World}(h:Sx w)(hb:Below w.heap.size w w'):Sx w':=⟨h.vars.below hb,h.ops.below hb,h.tab.below hb,h.max.below hb,h.sh.below hb⟩
theorem Sx.aaJ {w:World}(h:Sx w)(v:Value)(vs:List (Nd × Value))(hs:jl w w.heap.size v vs)(hz:SZ vs)(bE:∀q∈vs,q.1.num≤9223372036854775807)(hlen:(gY (vs.map (·.1))).length≤1000000000)(ht:dM (vs.map (·.1))=true) :
 Calls Tryz.prog 59 #[v] w fun e w'=>e = .returned (.string (strOfNums (gY (vs.map (·.1)))))∧Below w.heap.size w w':=aaM w v vs h.vars h.tab h.max h.sh hs hz bE hlen ht
def DT(M:Nat)(t:af):Prop:=t.text.size≤M∧t.sh.size≤M
def sw(M:Nat)(n:Nd):Prop:=n.text.size≤M∧n.ref.sh.size≤M∧n.ae.sh.size≤M
def lU(M:Nat)(ts:List af):Prop:=∀t∈ts,DT M t
def kF(M:Nat)(ns:List Nd):Prop:=∀n∈ns,sw M n
theorem lU.tail{M:Nat}{ts:List af}(h:lU M ts):lU M ts.tail:=fun t ht=>h t (List.mem_of_mem_tail ht)
theorem kF.app{M:Nat}{a b:List Nd}(h:kF M a)(k:kF M b):kF M (a++b):=fun n hn=>(List.mem_append.1 hn).elim (h n) (k n)
theorem kF.one{M:Nat}{n:Nd}(h:sw M n):kF M [n]:=fun m hm=>by rw[List.mem_singleton]at hm;subst hm;exact h
theorem sw.plain(M:Nat)(k n:Int)(ks:List Int):sw M { Nd.zero with kind:=k,num:=n,kids:=ks }:=⟨cu _,cu _,cu _⟩
theorem abp {M base:Nat}{t:af}{ts:List af}{ns:List Nd}{a:Nat}{r:List af}(ht:DT M t)(hs:lU M ts)(h:iP base t ts = .ok (ns,a,r)):kF M ns∧lU M r:=by
 unfold iP at h;split at h
 · split at h
   · rename_i u us hu
     split at h
     · injection h with h;injection h with h1 h2;injection h2 with h2 h3
       subst h1;subst h3;have Oc:lU M (u :: us):=by rw[← hu];exact hs.tail
       exact⟨kF.one ⟨cu _,ht.2,(Oc u (by simp)).2⟩,fun x hx=>Oc x (by simp[hx])⟩
     · cases h
   · cases h
 · injection h with h;injection h with h1 h2;injection h2 with h2 h3
   subst h1;subst h3;exact⟨kF.one ⟨cu _,ht.2,cu _⟩,hs⟩
theorem Q0 (M:Nat):∀f:Nat,(∀n deep base ts ns a r,eF f n deep base ts=some (.ok (ns,a,r))→lU M ts→kF M ns∧lU M r) ∧
 (∀n deep base ns a ts ns' a' r,rowP f n deep base ns a ts=some (.ok (ns',a',r))→lU M ts→kF M ns→kF M ns'∧lU M r) ∧
 (∀deep base ts ns a r,iY f deep base ts=some (.ok (ns,a,r))→lU M ts→kF M ns∧lU M r) ∧
 (∀deep base ns ks ts ns' ks' r,gy f deep base ns ks ts=some (.ok (ns',ks',r))→lU M ts→kF M ns→kF M ns'∧lU M r)
 | 0=>by
   refine⟨?_, ?_, ?_, ?_⟩
   · intro n deep base ts ns a r h;unfold eF at h;cases h
   · intro n deep base ns a ts ns' a' r h;unfold rowP at h;cases h
   · intro deep base ts ns a r h;unfold iY at h;cases h
   · intro deep base ns ks ts ns' ks' r h;unfold gy at h;cases h
 | f + 1 => by
   obtain⟨i1,i2,i3,i4⟩:=Q0 M f;refine⟨?_, ?_, ?_, ?_⟩
   · intro n deep base ts ns a r h ht
     rw[pG]at h;by_cases c:n≤3
     · rw [if_pos c]at h
       rcases dQ h with ⟨e,_,h2⟩|⟨ms,b,s,h1,h2⟩
       · cases h2
       · obtain⟨k1,k2⟩:=i1 _ _ _ _ _ _ _ h1 ht
         exact i2 _ _ _ _ _ _ _ _ _ h2 k2 k1
     · rw [if_neg c]at h
       by_cases d:au ⟨#[45]⟩ ts=true
       · rw [if_pos d]at h
         by_cases d2:12≤deep
         · rw[if_pos d2]at h;cases h
         · rw [if_neg d2]at h
           rcases dQ h with ⟨e,_,h2⟩|⟨ms,b,s,h1,h2⟩
           · cases h2
           · obtain⟨k1,k2⟩:=i1 _ _ _ _ _ _ _ h1 ht.tail
             injection h2 with h2;injection h2 with h2;injection h2 with h3 h4;injection h4 with h4 h5;subst h3;subst h4;subst h5;exact⟨k1.app (kF.one (sw.plain _ _ _ _)),k2⟩
       · rw[if_neg d]at h;exact i3 _ _ _ _ _ _ h ht
   · intro n deep base ns a ts ns' a' r h ht hn
     rw[ug]at h;by_cases c:fD n ts=0
     · rw[if_pos c]at h
       injection h with h;injection h with h;injection h with h1 h2;injection h2 with h2 h3;subst h1;subst h2;subst h3;exact⟨hn,ht⟩
     · rw [if_neg c]at h
       rcases dQ h with ⟨e,_,h2⟩|⟨ms,b,s,h1,h2⟩
       · cases h2
       · obtain⟨k1,k2⟩:=i1 _ _ _ _ _ _ _ h1 ht.tail
         exact i2 _ _ _ _ _ _ _ _ _ h2 k2 (hn.app (k1.app (kF.one (sw.plain _ _ _ _))))
   · intro deep base ts ns a r h ht
     cases ts with
     | nil=>rw[y5]at h;cases h
     | cons t ts =>
       have h0:DT M t:=ht t (by simp);have hts:lU M ts:=fun x hx=>ht x (by simp[hx])
       have leaf:∀(x:Nd),sw M x→(some (.ok ([x],base,ts)):Option dW)=some (.ok (ns,a,r))→kF M ns∧lU M r:=by
        intro x hk h;injection h with h;injection h with h;injection h with h1 h2;injection h2 with h2 h3;subst h1;subst h2;subst h3;exact⟨kF.one hk,hts⟩
       rw[mG]at h;by_cases c1:au ⟨#[40]⟩ (t :: ts)=true
       · rw [if_pos c1]at h
         by_cases d2:12≤deep
         · rw[if_pos d2]at h;cases h
         · rw [if_neg d2]at h
           rcases dQ h with ⟨e,_,h2⟩|⟨ms,b,s,h1,h2⟩
           · cases h2
           · obtain ⟨k1,k2⟩:=i1 _ _ _ _ _ _ _ h1 hts
             split at h2
             · injection h2 with h2;injection h2 with h2;injection h2 with h3 h4;injection h4 with h4 h5
               subst h3;subst h4;subst h5;exact⟨k1,k2.tail⟩
             · cases h2
       rw[if_neg c1]at h;by_cases c2:t.kind=1
       · rw[if_pos c2]at h;exact leaf _ (sw.plain _ _ _ _) h
       rw[if_neg c2]at h;by_cases c3:t.kind=2
       · rw[if_pos c3]at h;exact leaf _ ⟨h0.1,cu _,cu _⟩ h
       rw[if_neg c3]at h;by_cases c4:t.kind=6
       · rw[if_pos c4]at h;exact leaf _ (sw.plain _ _ _ _) h
       rw[if_neg c4]at h;by_cases c5:t.kind=4
       · rw[if_pos c5]at h;injection h with h;exact abp h0 hts h
       rw[if_neg c5]at h;by_cases c6:t.kind=3
       · rw [if_pos c6]at h
         by_cases e1:t.text=⟨#[84,82,85,69]⟩
         · rw[if_pos e1]at h;exact leaf _ (sw.plain _ _ _ _) h
         rw[if_neg e1]at h;by_cases e2:t.text=⟨#[70,65,76,83,69]⟩
         · rw[if_pos e2]at h;exact leaf _ (sw.plain _ _ _ _) h
         rw[if_neg e2]at h;by_cases e3:au ⟨#[40]⟩ ts=true
         · rw [if_pos e3]at h
           by_cases d2:12≤deep
           · rw[if_pos d2]at h;cases h
           · rw [if_neg d2]at h
             rcases dQ h with ⟨e,_,h2⟩|⟨ms,ks,s,h1,h2⟩
             · cases h2
             · have hk:kF M ms∧lU M s:=by
                split at h1
                · injection h1 with h1;injection h1 with h1;injection h1 with h3 h4;injection h4 with h4 h5
                  subst h3;subst h5;exact⟨fun _ h=>absurd h (by simp),hts.tail⟩
                · exact i4 _ _ _ _ _ _ _ _ h1 hts.tail (fun _ h=>absurd h (by simp))
               split at h2
               · injection h2 with h2;injection h2 with h2;injection h2 with h3 h4;injection h4 with h4 h5
                 subst h3;subst h4;subst h5;exact⟨hk.1.app (kF.one ⟨h0.1,cu _,cu _⟩),hk.2.tail⟩
               · cases h2
         · rw[if_neg e3]at h;cases h
       · rw[if_neg c6]at h;cases h
   · intro deep base ns ks ts ns' ks' r h ht hn
     rw[sJ]at h;rcases dQ h with ⟨e,_,h2⟩|⟨ms,b,s,h1,h2⟩
     · cases h2
     · obtain ⟨k1,k2⟩:=i1 _ _ _ _ _ _ _ h1 ht
       split at h2
       · exact i4 _ _ _ _ _ _ _ _ h2 k2.tail (hn.app k1)
       · injection h2 with h2;injection h2 with h2;injection h2 with h3 h4;injection h4 with h4 h5
         subst h3;subst h4;subst h5;exact⟨hn.app k1,k2⟩
theorem aat {M f:Nat}{ts:List af}{ns:List Nd}(h:mF f ts=some (.ok ns))(ht:lU M ts):kF M ns:=by
 unfold mF at h;rcases dQ h with ⟨e,_,h2⟩|⟨ms,b,s,h1,h2⟩
 · cases h2
 · split at h2
   · injection h2 with h2;injection h2 with h2;subst h2
     exact((Q0 M f).1 _ _ _ _ _ _ _ h1 ht).1
   · cases h2
theorem J7{l:List Int}(h:Bytes l):(strOfNums l).size=l.length:=by rw[← bC,gK _ h]
theorem JA:∀(n:Nat)(l:List Int)(t:List Int)(k:Nat),l.length≤n→dS l=some (t,k)→t.length≤l.length
 | _,[],_,_,_,h=>by simp[dS]at h
 | 0,_ :: _,_,_,hn,_=>by simp at hn
 | n + 1, x :: l,t,k,hn,h=>by
   rw[rF]at h;by_cases h1:x<32
   · rw[if_pos h1]at h;cases h
   · rw [if_neg h1]at h
     by_cases h2:x≠34
     · rw [if_pos h2]at h
       cases hq:dS l with
       | none=>rw[hq]at h;cases h
       | some q =>
         rw[hq]at h;simp only[Option.map_some,bA,bD]at h;have:=JA n l q.1 q.2 (by simp at hn;omega) hq;rw[← h.1];simp only[aK];omega
     · rw [if_neg h2]at h
       cases l with
       | nil=>simp only[bA,bD]at h;rw[← h.1];simp
       | cons y m =>
         simp only at h;by_cases h3:y=34
         · rw [if_pos h3]at h
           cases hq:dS m with
           | none=>rw[hq]at h;cases h
           | some q =>
             rw[hq]at h;simp only[Option.map_some,bA,bD]at h;have:=JA n m q.1 q.2 (by simp at hn;omega) hq;rw[← h.1];simp only[aK];omega
         · rw[if_neg h3]at h
           simp only[bA,bD]at h;rw[← h.1];simp
theorem adM (sh:List Int)(c r:Int)(ac ar:Bool)(hm:dn sh c r=true):sh.length≤(aO sh c r ac ar).length:=by
 unfold aO;rw[if_pos hm];by_cases h:sh=[]
 · rw[h];exact cu _
 · rw[if_neg h];simp only[aj];omega
theorem aec (l:List Int)(t:af)(n p M:Nat)(hb:Bytes l)(hM:l.length≤M)(h:eP l=some (t,n)):DT M (t.goto p):=by
 have z:(⟨#[]⟩:ByteArray).size≤M:=cu _;cases l with
 | nil=>simp[eP]at h
 | cons x l =>
   have Cg:∀q:Int→Bool,((x :: l).takeWhile q).length≤M:=fun q=>bZ (zk q _) hM
   rw[p9]at h;by_cases h1:isNum x=true
   · rw [if_pos h1]at h
     unfold jQ at h;split at h
     · cases h
     · simp only[bA,bD]at h
       rw[← h.1];exact⟨z,z⟩
   · rw [if_neg h1]at h
     by_cases h2:x=34
     · rw [if_pos h2]at h
       unfold jR at h;cases hq:dS l with
       | none=>rw[hq]at h;cases h
       | some q =>
         rw[hq]at h;simp only[Option.map_some,bA,bD]at h;obtain⟨g1,g2⟩:=Ap _ l q.1 q.2 (ag _) (fun y hy=>hb y (by simp[hy])) hq;rw[← h.1];refine⟨?_,z⟩;show(strOfNums q.1).size≤M;rw[J7 g1];have:=JA _ l q.1 q.2 (ag _) hq;simp only[aK]at hM;omega
     · rw [if_neg h2]at h
       by_cases h3:x=35
       · rw [if_pos h3]at h
         unfold oD at h;split at h
         · simp only[bA,bD]at h
           rw[← h.1];exact⟨z,z⟩
         · cases h
       · rw [if_neg h3]at h
         by_cases h4:isLet x=true∨x=36
         · rw [if_pos h4]at h
           unfold lD at h;cases hq:fO (strOfNums ((x :: l).takeWhile isWord))with
           | some d =>
             rw[hq]at h;simp only[bA,bD]at h;rw[← h.1];refine⟨z, ?_⟩;show d.sh.size≤M;have e:=(vX _ d hq).2.2;rw[gK _ (hb.span isWord)]at e;have k1:=adM (sb d.sh) d.c d.r d.ac d.ar (vX _ d hq).2.1;rw[e,bC]at k1;exact bZ k1 (Cg isWord)
           | none =>
             rw[hq]at h;simp only at h;by_cases hc:iO ((x :: l).takeWhile isWord)=true
             · rw[if_pos hc]at h
               simp only[bA,bD]at h;rw[← h.1];refine⟨?_,z⟩;show(strOfNums ((x :: l).takeWhile isWord)).size≤M;rw[J7 (hb.span isWord)];exact Cg isWord
             · rw[if_neg hc]at h;cases h
         · rw [if_neg h4]at h
           unfold ny at h;split at h
           · cases h
           · simp only[bA,bD]at h
             rw[← h.1];refine⟨?_,z⟩;show(strOfNums ((x :: l).take (jT (x :: l)))).size≤M;rw[J7 (fun y hy=>hb y (List.mem_of_mem_take hy)),gD];omega
theorem I1 (M:Nat):∀(f p:Nat)(l:List Int)(ts:List af),Bytes l→l.length≤M→eG f p l=some ts→lU M ts
 | f,p,[],ts,_,_,h=>by
   have h0:eG f p []=some [af.zero.goto p]:=by unfold eG;rfl
   rw[h0]at h;injection h with h;subst h;intro t ht;rw[List.mem_singleton]at ht;subst ht;exact⟨cu _,cu _⟩
 | 0,_,_ :: _,_,_,_,h=>by unfold eG at h;cases h
 | f + 1,p,x :: l,ts,hb,hM,h=>by
   have hbl:Bytes l:=fun y hy=>hb y (by simp[hy])
   rw[qG]at h;by_cases hx:x=32
   · rw[if_pos hx]at h
     exact I1 M f (p+1) l ts hbl (by simp only[aK]at hM;omega) h
   · rw [if_neg hx]at h
     cases hq:eP (x :: l)with
     | none=>rw[hq]at h;cases h
     | some q =>
       obtain⟨t0,n⟩:=q;rw[hq]at h;simp only[Option.map_eq_some_iff]at h;obtain⟨us,h1,rfl⟩:=h;have k1:=I1 M f (p+n) _ us (fun y hy=>hb y (List.mem_of_mem_drop hy)) (by rw[List.length_drop];omega) h1;intro t ht;rcases List.mem_cons.1 ht with rfl|ht
       · exact aec (x :: l) t0 n p M hb hM hq
       · exact k1 t ht
end Go.Proofs.YtdnooocmlhcpkaaGreatDoor
