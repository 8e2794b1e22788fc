import Derived.Test.YtdnooocmlhcpkaaGreatDoorMD9
set_option maxRecDepth 100000
set_option maxHeartbeats 64000000
namespace Go.Proofs.YtdnooocmlhcpkaaGreatDoor
open Go.RowKit
theorem Qo (s:ByteArray)(k m p:Nat)(hp:k+m=p)(dh:k+m≤s.size)(hall:∀x∈(ax s k).take m,isWord x=true)(hstop:∀x,(ax s k)[m]? = some x→isWord x=false) :
 lD (ax s k)=match fO (s.extract k p)with
  | some d=>some ({ af.zero with kind:=4,sh:=d.sh,c:=d.c,r:=d.r,ac:=d.ac,ar:=d.ar },m)
  | none=>if iO (sb (s.extract k p))=true then some ({ af.zero with kind:=3,text:=s.extract k p },m)else none:=by
 subst hp;have hsp:=zi isWord (ax s k) m hall hstop;have hlen:((ax s k).take m).length=m:=by rw[gD,mE];omega
 have hc:=CB s k m;have hb:sb (s.extract k (k+m))=(ax s k).take m:=by rw[hc];exact gK _ (fun x hx=>JM s k x (List.mem_of_mem_take hx))
 rw[RJ _ _ hsp,hlen, ← hc,hb];rfl
theorem Av:Tryz.f172.results=#[.cell 4 154,.tmp 5]:=by kernel_rfl
theorem aeY{a:Int}(hl:isLet a=false)(hn:isNum a=false)(fM:¬ a=36)(vI:¬ a=33):isWord a=false:=by unfold isWord;rw[hl,hn,decide_eq_false (by omega)];rfl
theorem aeU{a:Int}(hl:isLet a=true):isWord a=true:=by unfold isWord;rw[hl];rfl
theorem aeV{a:Int}(hn:isNum a=true):isWord a=true:=by unfold isWord;rw[hn];simp
theorem RI{a:Int}(h:a=36∨a=33):isWord a=true:=by unfold isWord;rw[decide_eq_true h];simp
theorem EX (s:ByteArray)(k:Nat)(w:World)(_hs:s.size≤1000000)(_hk:k≤s.size) :
 Calls Tryz.prog 172 #[.string s,.int .i64 (k:Int)] w (mg (lD (ax s k)) k w):=by
 have bu:=aa (aC.zero w);have aR:=aa (show Below w.heap.size w (w.alloc (.cells jk 154))from(ai _ _).alloc (ag _) _);have hz0:(0:Int)≤(k:Int):=by omega
 go_enter Tryz.func172,Tryz.ntmps172;go_wp2_with fail
 go_loopw [6] (fun i wr=>∃(m:Nat),i = .int .i64 ((k+m:Nat):Int)∧k+m≤s.size∧Hid (∀x∈(ax s k).take m,isWord x=true)∧w.alloc (.cells jk 154)=wr)
  (fun i _=>s.size - (intOf i).toNat)
 case atStart=>exact⟨0,rfl,by omega,aa (by simp),rfl⟩
 case round =>
  obtain⟨m,rfl,dh,HM,rfl⟩:=hrel;obtain⟨p,hp⟩:∃p:Nat,k+m=p:=⟨_,rfl⟩;rw[hp];have hz1:(k:Int)≤(p:Int):=by omega
  have hz2:(p:Int)≤(s.size:Int):=by omega
  by_cases hlt:p<s.size
  · have hlt2 : (p:Int)<(s.size:Int):=by omega
    obtain⟨a,ha⟩:∃a:Int,(s[p].toNat:Int)=a:=⟨_,rfl⟩;have ha1:0≤a∧a≤255:=by have:=s[p].toNat_lt;omega
    have hat:(ax s k)[m]? = some a:=by subst hp;rw[xu s k m hlt,ha]
    have BA:=aa (CS hat);have HAT:=aa hat;clear hat;cases hl:isLet a
    · cases hn : isNum a
      · by_cases fM:a=36
        · have Ib:(a == 36)=true:=beq_iff_eq.2 fM
          have dB:=aa (show ∀x∈(ax s k).take (m+1),isWord x=true by rw[BA.o];exact pq HM.o (RI (.inl fM)));clear fM
          go_wp2_with (first
           | (go_at_call 140;((with_reducible refine(nU _ ?_ ?_ _).mono ?_);(first|omega|skip);(first|omega|skip);rintro e w' ⟨rfl,rfl⟩;rw[hl]))
           | (go_at_call 141;((with_reducible refine(iM _ ?_ ?_ _).mono ?_);(first|omega|skip);(first|omega|skip);rintro e w' ⟨rfl,rfl⟩;rw[hn])))
          go_roundw
          case rel=>exact⟨m+1,by rw[show((p:Int)+1)=((k+(m+1):Nat):Int)by omega],by omega,dB,by trivial⟩
          case measure=>simp[intOf];omega
        · have Ib:(a == 36)=false:=beq_eq_false_iff_ne.2 fM
          by_cases vI:a=33
          · have WN:(a == 33)=true:=beq_iff_eq.2 vI
            have dB:=aa (show ∀x∈(ax s k).take (m+1),isWord x=true by rw[BA.o];exact pq HM.o (RI (.inr vI)));clear vI
            go_wp2_with (first
             | (go_at_call 140;((with_reducible refine(nU _ ?_ ?_ _).mono ?_);(first|omega|skip);(first|omega|skip);rintro e w' ⟨rfl,rfl⟩;rw[hl]))
             | (go_at_call 141;((with_reducible refine(iM _ ?_ ?_ _).mono ?_);(first|omega|skip);(first|omega|skip);rintro e w' ⟨rfl,rfl⟩;rw[hn])))
            go_roundw
            case rel=>exact⟨m+1,by rw[show((p:Int)+1)=((k+(m+1):Nat):Int)by omega],by omega,dB,by trivial⟩
            case measure=>simp[intOf];omega
          · have WN:(a == 33)=false:=beq_eq_false_iff_ne.2 vI
            have GI:=aa (show ∀x,(ax s k)[m]? = some x→isWord x=false from fun x hx=>by rw[HAT.o]at hx;injection hx with hx;rw[← hx];exact aeY hl hn fM vI);clear fM vI BA;have hval:=Qo s k m p hp dh HM.o GI.o;obtain⟨D,hD⟩:∃D,s.extract k p=D:=⟨_,rfl⟩;rw[hD]at hval;have WE:D.size≤1000000:=by rw[← hD,ByteArray.size_extract];omega
            cases hq:fO D with
            | some d =>
              rw[hq]at hval;have HN:=aa hval;clear hval;have oq:=aa (fun (e:Ending)(he:Says (sb D) e)=>Fe hq he);clear hq
              go_upto_region 6 with (first
               | (go_at_call 140;((with_reducible refine(nU _ ?_ ?_ _).mono ?_);(first|omega|skip);(first|omega|skip);rintro e w' ⟨rfl,rfl⟩;rw[hl]))|(go_at_call 141;((with_reducible refine(iM _ ?_ ?_ _).mono ?_);(first|omega|skip);(first|omega|skip);rintro e w' ⟨rfl,rfl⟩;rw[hn]))
               | (go_at_call 122;((with_reducible refine(Ar D _ ?_).mono ?_);(first|omega|skip);rintro e w2 ⟨h1,h2⟩;obtain rfl:=oq.o e h1;clear h1;have H3:=aa h2;clear h2;have HT2:=aa (bu.o.below H3.o bu.o.lt))))
              have sW:=bV.new w2 d.sh d.c d.r d.ac d.ar;have hB3:Below w2.heap.size w2 (w2.alloc (.cells #[.string d.sh,.int .i64 d.c,.int .i64 d.r,.bool d.ac,.bool d.ar] 45)):=(ai _ _).alloc (ag _) _;have HT3:=aa (HT2.o.below hB3 HT2.o.lt);have eQ:=aa (aR.o.trans ((Below.of _ _ _ H3.o hB3).mono aR.o.size));clear hB3;generalize w2.alloc (.cells #[.string d.sh,.int .i64 d.c,.int .i64 d.r,.bool d.ac,.bool d.ar] 45)=w3 at sW HT3 eQ ⊢;obtain⟨x0,x1,x2,x3,x4,x5,x6,x7,az⟩:=HT3.o.cells;obtain⟨f0,f1,f2,f3,f4,f5,f6,f7,f8⟩:=HT3.o.bK;obtain⟨y0,y1,y2,y3,y4⟩:=sW.facts;clear sW;go_wp2_with fail
              exact bodyPost_ret (ji (HT3.o.gB (({ af.zero with kind:=4,sh:=d.sh,c:=d.c,r:=d.r,ac:=d.ac,ar:=d.ar }:af).goto k)) _ _ ((p:Int) - (k:Int)) 4 5 Av rfl rfl) rfl ⟨mi eQ.o (ag _) _ _ _ _ _ _ _ _ _,.inl ⟨_,m,HN.o,by rw[show((p:Int) - (k:Int))=(m:Int)by omega]⟩⟩
            | none =>
              rw[hq]at hval;have oq:=aa (fun (e:Ending)(he:Says (sb D) e)=>Fb hq he);clear hq;cases hnm:iO (sb D)
              all_goals
               rw[hnm]at hval;have HN:=aa hval;clear hval;have qW:=aa hnm;clear hnm
               go_upto_region 7 with (first
                | (go_at_call 140;((with_reducible refine(nU _ ?_ ?_ _).mono ?_);(first|omega|skip);(first|omega|skip);rintro e w' ⟨rfl,rfl⟩;rw[hl]))|(go_at_call 141;((with_reducible refine(iM _ ?_ ?_ _).mono ?_);(first|omega|skip);(first|omega|skip);rintro e w' ⟨rfl,rfl⟩;rw[hn]))
                | (go_at_call 122;((with_reducible refine(Ar D _ ?_).mono ?_);(first|omega|skip);rintro e w2 ⟨h1,h2⟩;obtain rfl:=oq.o e h1;clear h1;have H3:=aa h2;clear h2;have HT2:=aa (bu.o.below H3.o bu.o.lt))))
               have hB3:Below w2.heap.size w2 (w2.alloc (.cells #[.string ⟨#[]⟩,.int .i64 0,.int .i64 0,.bool false,.bool false] 45)):=(ai _ _).alloc (ag _) _;have HT3:=aa (HT2.o.below hB3 HT2.o.lt);have eQ:=aa (aR.o.trans ((Below.of _ _ _ H3.o hB3).mono aR.o.size));clear hB3;generalize w2.alloc (.cells #[.string ⟨#[]⟩,.int .i64 0,.int .i64 0,.bool false,.bool false] 45)=w3 at HT3 eQ ⊢;obtain⟨x0,x1,x2,x3,x4,x5,x6,x7,az⟩:=HT3.o.cells;obtain⟨f0,f1,f2,f3,f4,f5,f6,f7,f8⟩:=HT3.o.bK;go_wp2_with (go_at_call 123;((with_reducible refine(JD D _ ?_).mono ?_);(first|omega|skip);rintro e w4 ⟨rfl,rfl⟩;rw[qW.o]))
              · exact bodyPost_ret (ji (HT3.o.gB af.zero) _ _ 0 4 5 Av rfl rfl) rfl ⟨mi eQ.o (ag _) _ _ _ _ _ _ _ _ _,.inr ⟨HN.o,af.zero,rfl⟩⟩
              · exact bodyPost_ret (ji (HT3.o.gB (({ af.zero with kind:=3,text:=D }:af).goto k)) _ _ ((p:Int) - (k:Int)) 4 5 Av rfl rfl) rfl ⟨mi eQ.o (ag _) _ _ _ _ _ _ _ _ _,.inl ⟨_,m,HN.o,by rw[show((p:Int) - (k:Int))=(m:Int)by omega]⟩⟩
      · skip
        have dB:=aa (show ∀x∈(ax s k).take (m+1),isWord x=true by rw[BA.o];exact pq HM.o (aeV hn))
        skip
        go_wp2_with (first
         | (go_at_call 140;((with_reducible refine(nU _ ?_ ?_ _).mono ?_);(first|omega|skip);(first|omega|skip);rintro e w' ⟨rfl,rfl⟩;rw[hl]))
         | (go_at_call 141;((with_reducible refine(iM _ ?_ ?_ _).mono ?_);(first|omega|skip);(first|omega|skip);rintro e w' ⟨rfl,rfl⟩;rw[hn])))
        go_roundw
        case rel=>exact⟨m+1,by rw[show((p:Int)+1)=((k+(m+1):Nat):Int)by omega],by omega,dB,by trivial⟩
        case measure=>simp[intOf];omega
    · skip
      have dB:=aa (show ∀x∈(ax s k).take (m+1),isWord x=true by rw[BA.o];exact pq HM.o (aeU hl))
      skip
      go_wp2_with (first
       | (go_at_call 140;((with_reducible refine(nU _ ?_ ?_ _).mono ?_);(first|omega|skip);(first|omega|skip);rintro e w' ⟨rfl,rfl⟩;rw[hl])))
      go_roundw
      case rel=>exact⟨m+1,by rw[show((p:Int)+1)=((k+(m+1):Nat):Int)by omega],by omega,dB,by trivial⟩
      case measure=>simp[intOf];omega
  · have hlt2:¬ (p:Int)<(s.size:Int):=by omega
    have GI:=aa (show ∀x,(ax s k)[m]? = some x→isWord x=false from fun x hx=>by have h1:=(dm.1 hx).1;rw[mE]at h1;omega);have hval:=Qo s k m p hp dh HM.o GI.o;obtain⟨D,hD⟩:∃D,s.extract k p=D:=⟨_,rfl⟩;rw[hD]at hval;have WE:D.size≤1000000:=by rw[← hD,ByteArray.size_extract];omega
    cases hq:fO D with
    | some d =>
      rw[hq]at hval;have HN:=aa hval;clear hval;have oq:=aa (fun (e:Ending)(he:Says (sb D) e)=>Fe hq he);clear hq
      go_upto_region 6 with (first
       | (go_at_call 122;((with_reducible refine(Ar D _ ?_).mono ?_);(first|omega|skip);rintro e w2 ⟨h1,h2⟩;obtain rfl:=oq.o e h1;clear h1;have H3:=aa h2;clear h2;have HT2:=aa (bu.o.below H3.o bu.o.lt))))
      have sW:=bV.new w2 d.sh d.c d.r d.ac d.ar;have hB3:Below w2.heap.size w2 (w2.alloc (.cells #[.string d.sh,.int .i64 d.c,.int .i64 d.r,.bool d.ac,.bool d.ar] 45)):=(ai _ _).alloc (ag _) _;have HT3:=aa (HT2.o.below hB3 HT2.o.lt);have eQ:=aa (aR.o.trans ((Below.of _ _ _ H3.o hB3).mono aR.o.size));clear hB3;generalize w2.alloc (.cells #[.string d.sh,.int .i64 d.c,.int .i64 d.r,.bool d.ac,.bool d.ar] 45)=w3 at sW HT3 eQ ⊢;obtain⟨x0,x1,x2,x3,x4,x5,x6,x7,az⟩:=HT3.o.cells;obtain⟨f0,f1,f2,f3,f4,f5,f6,f7,f8⟩:=HT3.o.bK;obtain⟨y0,y1,y2,y3,y4⟩:=sW.facts;clear sW;go_wp2_with fail
      exact bodyPost_ret (ji (HT3.o.gB (({ af.zero with kind:=4,sh:=d.sh,c:=d.c,r:=d.r,ac:=d.ac,ar:=d.ar }:af).goto k)) _ _ ((p:Int) - (k:Int)) 4 5 Av rfl rfl) rfl ⟨mi eQ.o (ag _) _ _ _ _ _ _ _ _ _,.inl ⟨_,m,HN.o,by rw[show((p:Int) - (k:Int))=(m:Int)by omega]⟩⟩
    | none =>
      rw[hq]at hval;have oq:=aa (fun (e:Ending)(he:Says (sb D) e)=>Fb hq he);clear hq;cases hnm:iO (sb D)
      all_goals
       rw[hnm]at hval;have HN:=aa hval;clear hval;have qW:=aa hnm;clear hnm
       go_upto_region 7 with (first
        | (go_at_call 122;((with_reducible refine(Ar D _ ?_).mono ?_);(first|omega|skip);rintro e w2 ⟨h1,h2⟩;obtain rfl:=oq.o e h1;clear h1;have H3:=aa h2;clear h2;have HT2:=aa (bu.o.below H3.o bu.o.lt))))
       have hB3:Below w2.heap.size w2 (w2.alloc (.cells #[.string ⟨#[]⟩,.int .i64 0,.int .i64 0,.bool false,.bool false] 45)):=(ai _ _).alloc (ag _) _;have HT3:=aa (HT2.o.below hB3 HT2.o.lt);have eQ:=aa (aR.o.trans ((Below.of _ _ _ H3.o hB3).mono aR.o.size));clear hB3;generalize w2.alloc (.cells #[.string ⟨#[]⟩,.int .i64 0,.int .i64 0,.bool false,.bool false] 45)=w3 at HT3 eQ ⊢;obtain⟨x0,x1,x2,x3,x4,x5,x6,x7,az⟩:=HT3.o.cells;obtain⟨f0,f1,f2,f3,f4,f5,f6,f7,f8⟩:=HT3.o.bK;go_wp2_with (go_at_call 123;((with_reducible refine(JD D _ ?_).mono ?_);(first|omega|skip);rintro e w4 ⟨rfl,rfl⟩;rw[qW.o]))
      · exact bodyPost_ret (ji (HT3.o.gB af.zero) _ _ 0 4 5 Av rfl rfl) rfl ⟨mi eQ.o (ag _) _ _ _ _ _ _ _ _ _,.inr ⟨HN.o,af.zero,rfl⟩⟩
      · exact bodyPost_ret (ji (HT3.o.gB (({ af.zero with kind:=3,text:=D }:af).goto k)) _ _ ((p:Int) - (k:Int)) 4 5 Av rfl rfl) rfl ⟨mi eQ.o (ag _) _ _ _ _ _ _ _ _ _,.inl ⟨_,m,HN.o,by rw[show((p:Int) - (k:Int))=(m:Int)by omega]⟩⟩
def nu(s:ByteArray)(k:Nat):ByteArray:=strOfNums ((ax s k).take (jT (ax s k)))
theorem Eb(s E:ByteArray)(k m:Nat)(h:(ax s k).take m=sb E):s.extract k (k+m)=E:=by rw[CB,h,jU]
theorem Qv (s:ByteArray)(k:Nat)(h:k+1<s.size):(ax s k).take 2=[((s[k].toNat:Nat):Int),((s[k+1].toNat:Nat):Int)]:=by
 rw[lX s k (by omega),lX s (k+1) h];rfl
abbrev zm(x y:Int):Prop:=(x=60∧(y=62∨y=61))∨(x=62∧y=61)
abbrev yX(x:Int):Prop:=x=43∨x=45∨x=42∨x=47∨x=38∨x=61∨x=60∨x=62∨x=40∨x=41∨x=44∨x=58
theorem Qu(s:ByteArray)(k:Nat)(h:k+1<s.size):(ax s (k+1)).head? = some ((s[k+1].toNat:Nat):Int):=by rw[lX s (k+1) h];rfl
theorem adk {s:ByteArray}{k:Nat}{x y:Int}(h:k+1<s.size)(hx:((s[k].toNat:Nat):Int)=x)(hy:((s[k+1].toNat:Nat):Int)=y)(h2:zm x y):nu s k=s.extract k (k+2):=by
 unfold nu
 have hn:jT (ax s k)=2:=by
  rw[lX s k (by omega),qK,Qu s k h,hx,hy,if_pos];rcases h2 with ⟨h1,h2|h2⟩|⟨h1,h2⟩
  · exact .inl ⟨h1,.inl (by rw[h2])⟩
  · exact .inl ⟨h1,.inr (by rw[h2])⟩
  · exact .inr ⟨h1,by rw[h2]⟩
 rw[hn, ← CB]
theorem QY {s:ByteArray}{k:Nat}{x:Int}(hk:k<s.size)(hx:((s[k].toNat:Nat):Int)=x)(h2:∀h:k+1<s.size,¬ zm x ((s[k+1].toNat:Nat):Int)) :
 jT (ax s k)=if yX x then 1 else 0:=by
 rw[lX s k hk,qK,hx,if_neg];intro h;by_cases h1:k+1<s.size
 · rw[Qu s k h1]at h
   simp only[bA]at h;exact h2 h1 h
 · rw[CE s (k+1) (by omega)]at h;simp at h
theorem sign_one {s:ByteArray}{k:Nat}{x:Int}(hk:k<s.size)(hx:((s[k].toNat:Nat):Int)=x)(h2:∀h:k+1<s.size,¬ zm x ((s[k+1].toNat:Nat):Int))(h1:yX x):nu s k=s.extract k (k+1):=by
 unfold nu;rw[QY hk hx h2,if_pos h1, ← CB]
theorem sign_zero {s:ByteArray}{k:Nat}{x:Int}(hk:k<s.size)(hx:((s[k].toNat:Nat):Int)=x)(h2:∀h:k+1<s.size,¬ zm x ((s[k+1].toNat:Nat):Int))(h1:¬ yX x):nu s k=⟨#[]⟩:=by
 unfold nu;rw[QY hk hx h2,if_neg h1,List.take_zero];rfl
theorem CF{a b:ByteArray}(h:a=b):Ending.returned (.string a) = .returned (.string b):=by rw[h]
theorem abC (s:ByteArray)(k:Nat)(w:World)(_hs:s.size≤1000000)(_hk:k<s.size)(hl:s.size≤k+1) :
 Calls Tryz.prog 173 #[.string s,.int .i64 (k:Int)] w fun e w'=>e = .returned (.string (nu s k))∧w=w':=by
 obtain⟨x,hx⟩:∃x:Int,(s[k].toNat:Int)=x:=⟨_,rfl⟩;have hx1:0≤x∧x≤255:=by have:=s[k].toNat_lt;omega
 have H1:=aa (fun h1=>sign_one _hk hx (fun h=>by omega) h1);have H0:=aa (fun h1=>sign_zero _hk hx (fun h=>by omega) h1);have hi1:¬ (k:Int)+1<(s.size:Int):=by omega
 have hi2:(k:Int)<(s.size:Int):=by omega
 have hi3:(k:Int)+1≤(s.size:Int):=by omega
 go_enter Tryz.func173,Tryz.ntmps173;go_wp2_with fail
 all_goals go_ret
 all_goals first
  | exact⟨CF (H1.o (by simp only[beq_iff_eq,beq_eq_false_iff_ne,ne_eq]at *;unfold yX;omega)).symm,rfl⟩
  | exact⟨CF (H0.o (by simp only[beq_eq_false_iff_ne,ne_eq]at *;unfold yX;omega)).symm,rfl⟩
theorem abD (s:ByteArray)(k:Nat)(w:World)(_hs:s.size≤1000000)(_hk:k<s.size)(hl:k+1<s.size)(h2:∀h:k+1<s.size,¬ zm ((s[k].toNat:Nat):Int) ((s[k+1].toNat:Nat):Int)) :
 Calls Tryz.prog 173 #[.string s,.int .i64 (k:Int)] w fun e w'=>e = .returned (.string (nu s k))∧w=w':=by
 obtain⟨x,hx⟩:∃x:Int,(s[k].toNat:Int)=x:=⟨_,rfl⟩;have hx1:0≤x∧x≤255:=by have:=s[k].toNat_lt;omega
 have h2':∀h:k+1<s.size,¬ zm x ((s[k+1].toNat:Nat):Int):=by rw[← hx];exact h2
 have H1:=aa (fun h1=>sign_one _hk hx h2' h1);have H0:=aa (fun h1=>sign_zero _hk hx h2' h1);have hE:=Qv s k hl
 have n1:¬ (s.extract k (k+2)).toList=[60,62]:=fun h=>by
  have e:s.extract k (k+2)=⟨#[60,62]⟩:=by rw[oI]at h;exact congrArg ByteArray.mk (Array.toList_inj.1 h)
  have e2:=zU s k 2;rw[e]at e2;rw[show(sb s).drop k=ax s k from rfl,hE]at e2;exact h2 hl (.inl ⟨by simpa [sb]using (congrArg (·.head?) e2).symm,.inl (by simpa [sb]using (congrArg (·.tail.head?) e2).symm)⟩)
 have n2:¬ (s.extract k (k+2)).toList=[60,61]:=fun h=>by
  have e:s.extract k (k+2)=⟨#[60,61]⟩:=by rw[oI]at h;exact congrArg ByteArray.mk (Array.toList_inj.1 h)
  have e2:=zU s k 2;rw[e]at e2;rw[show(sb s).drop k=ax s k from rfl,hE]at e2;exact h2 hl (.inl ⟨by simpa [sb]using (congrArg (·.head?) e2).symm,.inr (by simpa [sb]using (congrArg (·.tail.head?) e2).symm)⟩)
 have n3:¬ (s.extract k (k+2)).toList=[62,61]:=fun h=>by
  have e:s.extract k (k+2)=⟨#[62,61]⟩:=by rw[oI]at h;exact congrArg ByteArray.mk (Array.toList_inj.1 h)
  have e2:=zU s k 2;rw[e]at e2;rw[show(sb s).drop k=ax s k from rfl,hE]at e2;exact h2 hl (.inr ⟨by simpa [sb]using (congrArg (·.head?) e2).symm,by simpa [sb]using (congrArg (·.tail.head?) e2).symm⟩)
 have hi1:(k:Int)+1<(s.size:Int):=by omega
 have hi2:(k:Int)<(s.size:Int):=by omega
 have hi3:(k:Int)+1≤(s.size:Int):=by omega
 have hi4:(k:Int)+2≤(s.size:Int):=by omega
 have b1:=beq_eq_false_iff_ne.2 n1;have b2:=beq_eq_false_iff_ne.2 n2;have b3:=beq_eq_false_iff_ne.2 n3;clear hE h2 h2' n1 n2 n3;go_enter Tryz.func173,Tryz.ntmps173;go_wp2_with fail
 all_goals go_ret
 all_goals first
  | exact⟨CF (H1.o (by simp only[beq_iff_eq,beq_eq_false_iff_ne,ne_eq]at *;unfold yX;omega)).symm,rfl⟩
  | exact⟨CF (H0.o (by simp only[beq_eq_false_iff_ne,ne_eq]at *;unfold yX;omega)).symm,rfl⟩
theorem abB (s E:ByteArray)(k:Nat)(w:World)(_hs:s.size≤1000000)(hl:k+1<s.size)(hE:s.extract k (k+2)=E)(hq:nu s k=E)(h:E=⟨#[60,62]⟩∨E=⟨#[60,61]⟩∨E=⟨#[62,61]⟩) :
 Calls Tryz.prog 173 #[.string s,.int .i64 (k:Int)] w fun e w'=>e = .returned (.string (nu s k))∧w=w':=by
 have HQ:=aa hq;have hi1:(k:Int)+1<(s.size:Int):=by omega
 have hi2:(k:Int)<(s.size:Int):=by omega
 have hi4:(k:Int)+2≤(s.size:Int):=by omega
 clear hq;rcases h with rfl|rfl|rfl
 all_goals
  go_enter Tryz.func173,Tryz.ntmps173;go_wp2_with fail
  go_ret;exact⟨CF (by rw[hE];exact HQ.o.symm),rfl⟩
theorem abA (s:ByteArray)(k:Nat)(w:World)(_hs:s.size≤1000000)(_hk:k<s.size) :
 Calls Tryz.prog 173 #[.string s,.int .i64 (k:Int)] w fun e w'=>e = .returned (.string (nu s k))∧w=w':=by
 by_cases hl:k+1<s.size
 · by_cases h2:zm ((s[k].toNat:Nat):Int) ((s[k+1].toNat:Nat):Int)
   · have hq:=adk hl rfl rfl h2
     refine abB s _ k w _hs hl rfl hq ?_;have hE:=Qv s k hl;rcases h2 with ⟨h1,h2|h2⟩|⟨h1,h2⟩
     · exact .inl (Eb s ⟨#[60,62]⟩ k 2 (by rw[hE,h1,h2];decide))
     · exact .inr (.inl (Eb s ⟨#[60,61]⟩ k 2 (by rw[hE,h1,h2];decide)))
     · exact .inr (.inr (Eb s ⟨#[62,61]⟩ k 2 (by rw[hE,h1,h2];decide)))
   · exact abD s k w _hs _hk hl (fun _=>h2)
 · exact abC s k w _hs _hk (by omega)
theorem mg.no {k:Nat}{w w':World}{e:Ending}(h:mg none k w e w'):Below w.heap.size w w'∧∃t:af,e = .returned (.tuple #[.agg #[.int .i64 t.kind,.string t.text,.int .i64 t.num,.string t.sh,.int .i64 t.c,.int .i64 t.r,.bool t.ac,.bool t.ar,.int .i64 t.pos],.int .i64 0]):=by
 rcases h with ⟨h1,⟨t,n,h2,_⟩|⟨_,h2⟩⟩
 · cases h2
 · exact⟨h1,h2⟩
theorem mg.yes {k n:Nat}{t:af}{w w':World}{e:Ending}(h:mg (some (t,n)) k w e w'):Below w.heap.size w w'∧e = .returned (.tuple #[.agg #[.int .i64 t.kind,.string t.text,.int .i64 t.num,.string t.sh,.int .i64 t.c,.int .i64 t.r,.bool t.ac,.bool t.ar,.int .i64 (k:Int)],.int .i64 (n:Int)]):=by
 rcases h with ⟨h1,⟨t',n',h2,h3⟩|⟨h2,_⟩⟩
 · injection h2 with h2;injection h2 with h2 h5;subst h2;subst h5;exact⟨h1,h3⟩
 · cases h2
theorem qJ:Tryz.f133.results=#[.cell 4 154,.tmp 5]:=by kernel_rfl
theorem adi (s:ByteArray)(k:Nat):ny (ax s k)=if (nu s k).size=0 then none else some ({ af.zero with kind:=5,text:=nu s k },(nu s k).size):=by
 have h:(nu s k).size=jT (ax s k):=by
  unfold nu;rw[strOfNums_size,gD];have:=QX (ax s k);omega
 unfold ny;rw[h];rfl
theorem VB (s:ByteArray)(k:Nat):oD (ax s k)=if k+5≤s.size∧s.extract k (k+5)=⟨#[35,82,69,70,33]⟩then some ({ af.zero with kind:=6 },5)else none:=by
 unfold oD;by_cases h:(ax s k).take 5=[35,82,69,70,33]
 · have hlen:k+5≤s.size:=by
    have:=congrArg List.length h;rw[gD,mE]at this;simp at this;omega
   rw[if_pos h,if_pos ⟨hlen,Eb s _ k 5 (by rw[h];decide)⟩]
 · rw[if_neg h,if_neg]
   rintro⟨_,h2⟩;apply h;have:=zU s k 5;rw[h2]at this;exact this.symm
theorem abF (s:ByteArray)(k:Nat)(w:World)(_hs:s.size≤1000000)(_hk:k<s.size) :
 Calls Tryz.prog 133 #[.string s,.int .i64 (k:Int)] w (mg (eP (ax s k)) k w):=by
 have bu:=aa (aC.zero w);have aR:=aa (show Below w.heap.size w (w.alloc (.cells jk 154))from(ai _ _).alloc (ag _) _);have hz0:(0:Int)≤(k:Int):=by omega
 have hz1:(k:Int)<(s.size:Int):=by omega
 obtain⟨a,ha⟩:∃a:Int,(s[k].toNat:Int)=a:=⟨_,rfl⟩;have ha1:0≤a∧a≤255:=by have:=s[k].toNat_lt;omega
 have hcs:=lX s k _hk;rw[ha]at hcs;have htk:=p9 a (ax s (k+1));rw[← hcs]at htk;clear hcs;cases hn:isNum a
 · rw [hn, if_neg (by simp)]at htk
   by_cases cZ:a=34
   · rw [if_pos cZ]at htk
     have yE:(a == 34)=true:=beq_iff_eq.2 cZ;cases hq:jR (ax s (k+1))with
     | none =>
       rw[hq]at htk;have gH:=aa htk;clear htk;have hc:=Qk s k (w.alloc (.cells jk 154)) _hs _hk;rw[hq]at hc;have HC:=aa hc;clear hc hq cZ;go_enter Tryz.func133,Tryz.ntmps133
       go_wp2_with (first
        | (go_at_call 141;((with_reducible refine(iM _ ?_ ?_ _).mono ?_);(first|omega|skip);(first|omega|skip);rintro e w' ⟨rfl,rfl⟩;rw[hn]))
        | (go_at_call 171;((with_reducible refine HC.o.mono ?_);intro e w1 he;obtain⟨h1,t,rfl⟩:=mg.no he;have HB1:=aa (aR.o.trans (h1.mono aR.o.size));have HT1:=aa (bu.o.below h1 bu.o.lt);clear h1 he;obtain⟨x0,x1,x2,x3,x4,x5,x6,x7,az⟩:=HT1.o.cells;obtain⟨f0,f1,f2,f3,f4,f5,f6,f7,f8⟩:=HT1.o.bK)))
       exact bodyPost_ret (ji (HT1.o.gB t) _ _ 0 4 5 qJ rfl rfl) rfl ⟨mi HB1.o (ag _) _ _ _ _ _ _ _ _ _,.inr ⟨gH.o,t,rfl⟩⟩
     | some q =>
       obtain⟨t,n⟩:=q;rw[hq]at htk;have gH:=aa htk;clear htk;have hc:=Qk s k (w.alloc (.cells jk 154)) _hs _hk;rw[hq]at hc;have HC:=aa hc;clear hc hq cZ;go_enter Tryz.func133,Tryz.ntmps133
       go_wp2_with (first
        | (go_at_call 141;((with_reducible refine(iM _ ?_ ?_ _).mono ?_);(first|omega|skip);(first|omega|skip);rintro e w' ⟨rfl,rfl⟩;rw[hn]))
        | (go_at_call 171;((with_reducible refine HC.o.mono ?_);intro e w1 he;obtain⟨h1,rfl⟩:=mg.yes he;have HB1:=aa (aR.o.trans (h1.mono aR.o.size));have HT1:=aa (bu.o.below h1 bu.o.lt);clear h1 he;obtain⟨x0,x1,x2,x3,x4,x5,x6,x7,az⟩:=HT1.o.cells;obtain⟨f0,f1,f2,f3,f4,f5,f6,f7,f8⟩:=HT1.o.bK)))
       exact bodyPost_ret (ji (HT1.o.gB (t.goto k)) _ _ (n:Int) 4 5 qJ rfl rfl) rfl ⟨mi HB1.o (ag _) _ _ _ _ _ _ _ _ _,.inl ⟨t,n,gH.o,rfl⟩⟩
   · rw [if_neg cZ]at htk
     have yE:(a == 34)=false:=beq_eq_false_iff_ne.2 cZ;by_cases jg:a=35
     · rw [if_pos jg,VB]at htk
       have WO:(a == 35)=true:=beq_iff_eq.2 jg;by_cases h5:k+5≤s.size
       · have hi5:(k:Int)+5≤(s.size:Int):=by omega
         by_cases hE:s.extract k (k+5)=⟨#[35,82,69,70,33]⟩
         · rw [if_pos ⟨h5,hE⟩]at htk
           have gH:=aa htk;clear htk cZ jg;go_enter Tryz.func133,Tryz.ntmps133
           go_wp2_with (first
            | (go_at_call 141;((with_reducible refine(iM _ ?_ ?_ _).mono ?_);(first|omega|skip);(first|omega|skip);rintro e w' ⟨rfl,rfl⟩;rw[hn])))
           exact bodyPost_ret (ji (aC.new w (({ af.zero with kind:=6 }:af).goto k)) _ _ 5 4 5 qJ rfl rfl) rfl ⟨(ai _ _).alloc (ag _) _,.inl ⟨_,5,gH.o,rfl⟩⟩
         · rw [if_neg (fun h=>hE h.2)]at htk
           have gH:=aa htk;have hEb:((s.extract k (k+5)).toList == [35,82,69,70,33])=false:=beq_eq_false_iff_ne.2 (fun h=>hE (by rw[oI]at h;exact congrArg ByteArray.mk (Array.toList_inj.1 h)));clear htk cZ jg hE;go_enter Tryz.func133,Tryz.ntmps133
           go_wp2_with (first
            | (go_at_call 141;((with_reducible refine(iM _ ?_ ?_ _).mono ?_);(first|omega|skip);(first|omega|skip);rintro e w' ⟨rfl,rfl⟩;rw[hn])))
           exact bodyPost_ret (ji (aC.zero w) _ _ 0 4 5 qJ rfl rfl) rfl ⟨(ai _ _).alloc (ag _) _,.inr ⟨gH.o,_,rfl⟩⟩
       · have hi5:¬ (k:Int)+5≤(s.size:Int):=by omega
         rw[if_neg (fun h=>h5 h.1)]at htk;have gH:=aa htk;clear htk cZ jg;go_enter Tryz.func133,Tryz.ntmps133
         go_wp2_with (first
          | (go_at_call 141;((with_reducible refine(iM _ ?_ ?_ _).mono ?_);(first|omega|skip);(first|omega|skip);rintro e w' ⟨rfl,rfl⟩;rw[hn])))
         exact bodyPost_ret (ji (aC.zero w) _ _ 0 4 5 qJ rfl rfl) rfl ⟨(ai _ _).alloc (ag _) _,.inr ⟨gH.o,_,rfl⟩⟩
     · rw [if_neg jg]at htk
       have WO:(a == 35)=false:=beq_eq_false_iff_ne.2 jg;cases hl:isLet a
       · by_cases fM:a=36
         · rw [if_pos (.inr fM)]at htk
           have Ib:(a == 36)=true:=beq_iff_eq.2 fM;cases hq:lD (ax s k)with
           | none =>
             rw[hq]at htk;have gH:=aa htk;clear htk;have hc:=EX s k (w.alloc (.cells jk 154)) _hs (Nat.le_of_lt _hk);rw[hq]at hc;have HC:=aa hc;clear hc hq cZ jg fM;go_enter Tryz.func133,Tryz.ntmps133
             go_wp2_with (first
              | (go_at_call 141;((with_reducible refine(iM _ ?_ ?_ _).mono ?_);(first|omega|skip);(first|omega|skip);rintro e w' ⟨rfl,rfl⟩;rw[hn]))|(go_at_call 140;((with_reducible refine(nU _ ?_ ?_ _).mono ?_);(first|omega|skip);(first|omega|skip);rintro e w' ⟨rfl,rfl⟩;rw[hl]))
              | (go_at_call 172;((with_reducible refine HC.o.mono ?_);intro e w1 he;obtain⟨h1,t,rfl⟩:=mg.no he;have HB1:=aa (aR.o.trans (h1.mono aR.o.size));have HT1:=aa (bu.o.below h1 bu.o.lt);clear h1 he;obtain⟨x0,x1,x2,x3,x4,x5,x6,x7,az⟩:=HT1.o.cells;obtain⟨f0,f1,f2,f3,f4,f5,f6,f7,f8⟩:=HT1.o.bK)))
             exact bodyPost_ret (ji (HT1.o.gB t) _ _ 0 4 5 qJ rfl rfl) rfl ⟨mi HB1.o (ag _) _ _ _ _ _ _ _ _ _,.inr ⟨gH.o,t,rfl⟩⟩
           | some q =>
             obtain⟨t,n⟩:=q;rw[hq]at htk;have gH:=aa htk;clear htk;have hc:=EX s k (w.alloc (.cells jk 154)) _hs (Nat.le_of_lt _hk);rw[hq]at hc;have HC:=aa hc;clear hc hq cZ jg fM;go_enter Tryz.func133,Tryz.ntmps133
             go_wp2_with (first
              | (go_at_call 141;((with_reducible refine(iM _ ?_ ?_ _).mono ?_);(first|omega|skip);(first|omega|skip);rintro e w' ⟨rfl,rfl⟩;rw[hn]))|(go_at_call 140;((with_reducible refine(nU _ ?_ ?_ _).mono ?_);(first|omega|skip);(first|omega|skip);rintro e w' ⟨rfl,rfl⟩;rw[hl]))
              | (go_at_call 172;((with_reducible refine HC.o.mono ?_);intro e w1 he;obtain⟨h1,rfl⟩:=mg.yes he;have HB1:=aa (aR.o.trans (h1.mono aR.o.size));have HT1:=aa (bu.o.below h1 bu.o.lt);clear h1 he;obtain⟨x0,x1,x2,x3,x4,x5,x6,x7,az⟩:=HT1.o.cells;obtain⟨f0,f1,f2,f3,f4,f5,f6,f7,f8⟩:=HT1.o.bK)))
             exact bodyPost_ret (ji (HT1.o.gB (t.goto k)) _ _ (n:Int) 4 5 qJ rfl rfl) rfl ⟨mi HB1.o (ag _) _ _ _ _ _ _ _ _ _,.inl ⟨t,n,gH.o,rfl⟩⟩
         · rw [if_neg (by rw[hl];simp;exact fM),adi]at htk
           have Ib:(a == 36)=false:=beq_eq_false_iff_ne.2 fM;have HC:=aa (abA s k (w.alloc (.cells jk 154)) _hs _hk);obtain⟨E,hE⟩:∃E,nu s k=E:=⟨_,rfl⟩;rw[hE]at HC htk;clear cZ jg fM hE;by_cases h0:E.size=0
           · rw [if_pos h0]at htk
             have gH:=aa htk;clear htk;have hei:(E.size:Int)=0:=by omega
             go_enter Tryz.func133,Tryz.ntmps133
             go_wp2_with (first
              | (go_at_call 141;((with_reducible refine(iM _ ?_ ?_ _).mono ?_);(first|omega|skip);(first|omega|skip);rintro e w' ⟨rfl,rfl⟩;rw[hn]))
              | (go_at_call 140;((with_reducible refine(nU _ ?_ ?_ _).mono ?_);(first|omega|skip);(first|omega|skip);rintro e w' ⟨rfl,rfl⟩;rw[hl]))
              | (go_at_call 173;((with_reducible refine HC.o.mono ?_);rintro e w' ⟨rfl,rfl⟩)))
             exact bodyPost_ret (ji (aC.new w (({ af.zero with kind:=5,text:=E }:af).goto k)) _ _ 0 4 5 qJ rfl rfl) rfl ⟨(ai _ _).alloc (ag _) _,.inr ⟨gH.o,(({ af.zero with kind:=5,text:=E }:af).goto k),rfl⟩⟩
           · rw [if_neg h0]at htk
             have gH:=aa htk;clear htk;go_enter Tryz.func133,Tryz.ntmps133
             go_wp2_with (first
              | (go_at_call 141;((with_reducible refine(iM _ ?_ ?_ _).mono ?_);(first|omega|skip);(first|omega|skip);rintro e w' ⟨rfl,rfl⟩;rw[hn]))
              | (go_at_call 140;((with_reducible refine(nU _ ?_ ?_ _).mono ?_);(first|omega|skip);(first|omega|skip);rintro e w' ⟨rfl,rfl⟩;rw[hl]))
              | (go_at_call 173;((with_reducible refine HC.o.mono ?_);rintro e w' ⟨rfl,rfl⟩)))
             exact bodyPost_ret (ji (aC.new w (({ af.zero with kind:=5,text:=E }:af).goto k)) _ _ (E.size:Int) 4 5 qJ rfl rfl) rfl ⟨(ai _ _).alloc (ag _) _,.inl ⟨_,E.size,gH.o,rfl⟩⟩
       · rw [if_pos (.inl hl)]at htk
         cases hq:lD (ax s k)with
         | none =>
           rw[hq]at htk;have gH:=aa htk;clear htk;have hc:=EX s k (w.alloc (.cells jk 154)) _hs (Nat.le_of_lt _hk);rw[hq]at hc;have HC:=aa hc;clear hc hq cZ jg;go_enter Tryz.func133,Tryz.ntmps133
           go_wp2_with (first
            | (go_at_call 141;((with_reducible refine(iM _ ?_ ?_ _).mono ?_);(first|omega|skip);(first|omega|skip);rintro e w' ⟨rfl,rfl⟩;rw[hn]))|(go_at_call 140;((with_reducible refine(nU _ ?_ ?_ _).mono ?_);(first|omega|skip);(first|omega|skip);rintro e w' ⟨rfl,rfl⟩;rw[hl]))
            | (go_at_call 172;((with_reducible refine HC.o.mono ?_);intro e w1 he;obtain⟨h1,t,rfl⟩:=mg.no he;have HB1:=aa (aR.o.trans (h1.mono aR.o.size));have HT1:=aa (bu.o.below h1 bu.o.lt);clear h1 he;obtain⟨x0,x1,x2,x3,x4,x5,x6,x7,az⟩:=HT1.o.cells;obtain⟨f0,f1,f2,f3,f4,f5,f6,f7,f8⟩:=HT1.o.bK)))
           exact bodyPost_ret (ji (HT1.o.gB t) _ _ 0 4 5 qJ rfl rfl) rfl ⟨mi HB1.o (ag _) _ _ _ _ _ _ _ _ _,.inr ⟨gH.o,t,rfl⟩⟩
         | some q =>
           obtain⟨t,n⟩:=q;rw[hq]at htk;have gH:=aa htk;clear htk;have hc:=EX s k (w.alloc (.cells jk 154)) _hs (Nat.le_of_lt _hk);rw[hq]at hc;have HC:=aa hc;clear hc hq cZ jg;go_enter Tryz.func133,Tryz.ntmps133
           go_wp2_with (first
            | (go_at_call 141;((with_reducible refine(iM _ ?_ ?_ _).mono ?_);(first|omega|skip);(first|omega|skip);rintro e w' ⟨rfl,rfl⟩;rw[hn]))|(go_at_call 140;((with_reducible refine(nU _ ?_ ?_ _).mono ?_);(first|omega|skip);(first|omega|skip);rintro e w' ⟨rfl,rfl⟩;rw[hl]))
            | (go_at_call 172;((with_reducible refine HC.o.mono ?_);intro e w1 he;obtain⟨h1,rfl⟩:=mg.yes he;have HB1:=aa (aR.o.trans (h1.mono aR.o.size));have HT1:=aa (bu.o.below h1 bu.o.lt);clear h1 he;obtain⟨x0,x1,x2,x3,x4,x5,x6,x7,az⟩:=HT1.o.cells;obtain⟨f0,f1,f2,f3,f4,f5,f6,f7,f8⟩:=HT1.o.bK)))
           exact bodyPost_ret (ji (HT1.o.gB (t.goto k)) _ _ (n:Int) 4 5 qJ rfl rfl) rfl ⟨mi HB1.o (ag _) _ _ _ _ _ _ _ _ _,.inl ⟨t,n,gH.o,rfl⟩⟩
 · rw [hn,if_pos rfl]at htk
   cases hq:jQ (ax s k)with
   | none =>
     rw[hq]at htk;have gH:=aa htk;clear htk;have hc:=Qi s k (w.alloc (.cells jk 154)) _hs (Nat.le_of_lt _hk);rw[hq]at hc;have HC:=aa hc;clear hc hq;go_enter Tryz.func133,Tryz.ntmps133
     go_wp2_with (first
      | (go_at_call 141;((with_reducible refine(iM _ ?_ ?_ _).mono ?_);(first|omega|skip);(first|omega|skip);rintro e w' ⟨rfl,rfl⟩;rw[hn]))
      | (go_at_call 170;((with_reducible refine HC.o.mono ?_);intro e w1 he;obtain⟨h1,t,rfl⟩:=mg.no he;have HB1:=aa (aR.o.trans (h1.mono aR.o.size));have HT1:=aa (bu.o.below h1 bu.o.lt);clear h1 he;obtain⟨x0,x1,x2,x3,x4,x5,x6,x7,az⟩:=HT1.o.cells;obtain⟨f0,f1,f2,f3,f4,f5,f6,f7,f8⟩:=HT1.o.bK)))
     exact bodyPost_ret (ji (HT1.o.gB t) _ _ 0 4 5 qJ rfl rfl) rfl ⟨mi HB1.o (ag _) _ _ _ _ _ _ _ _ _,.inr ⟨gH.o,t,rfl⟩⟩
   | some q =>
     obtain⟨t,n⟩:=q;rw[hq]at htk;have gH:=aa htk;clear htk;have hc:=Qi s k (w.alloc (.cells jk 154)) _hs (Nat.le_of_lt _hk);rw[hq]at hc;have HC:=aa hc;clear hc hq;go_enter Tryz.func133,Tryz.ntmps133
     go_wp2_with (first
      | (go_at_call 141;((with_reducible refine(iM _ ?_ ?_ _).mono ?_);(first|omega|skip);(first|omega|skip);rintro e w' ⟨rfl,rfl⟩;rw[hn]))
      | (go_at_call 170;((with_reducible refine HC.o.mono ?_);intro e w1 he;obtain⟨h1,rfl⟩:=mg.yes he;have HB1:=aa (aR.o.trans (h1.mono aR.o.size));have HT1:=aa (bu.o.below h1 bu.o.lt);clear h1 he;obtain⟨x0,x1,x2,x3,x4,x5,x6,x7,az⟩:=HT1.o.cells;obtain⟨f0,f1,f2,f3,f4,f5,f6,f7,f8⟩:=HT1.o.bK)))
     exact bodyPost_ret (ji (HT1.o.gB (t.goto k)) _ _ (n:Int) 4 5 qJ rfl rfl) rfl ⟨mi HB1.o (ag _) _ _ _ _ _ _ _ _ _,.inl ⟨t,n,gH.o,rfl⟩⟩
def kE(w:World)(b:Nat)(v:Value)(e:Int):Prop:=w.heap[b]? = some (.cells #[v,.int .i64 e] 148)
theorem kE.lt{w:World}{b:Nat}{v:Value}{e:Int}(h:kE w b v e):b<w.heap.size:=(dZ.1 h).1
theorem kE.below{w w':World}{B b:Nat}{v:Value}{e:Int}(h:kE w b v e)(hb:Below B w w')(hB:b<B):kE w' b v e:=by unfold kE;rw[hb.block b hB];exact h
theorem kE.facts {w:World}{b:Nat}{v:Value}{e:Int}(h:kE w b v e):w.cell? ⟨b,0,none⟩=some v∧w.cell? ⟨b,1,none⟩=some (.int .i64 e) :=
 ⟨by rw[cell_of_row w b 0 _ _ _ h];rfl,by rw[cell_of_row w b 1 _ _ _ h];rfl⟩
theorem kE.bK{w:World}{b:Nat}{v:Value}{e:Int}(h:kE w b v e):w.frozen? ⟨b,0,none⟩=false∧w.frozen? ⟨b,1,none⟩=false:=⟨frozen_of_row w b 0 _ _ h,frozen_of_row w b 1 _ _ h⟩
theorem kE.qH {w:World}{b:Nat}{v0:Value}{e0:Int}(h:kE w b v0 e0)(v:Value)(e:Int):kE ((w.setCell ⟨b,0,none⟩ v).setCell ⟨b,1,none⟩ (.int .i64 e)) b v e:=by
 have h1:(w.setCell ⟨b,0,none⟩ v).heap[b]? = some (.cells #[v,.int .i64 e0] 148):=by rw[heap_setCell_same w b 0 _ _ _ h];rfl
 unfold kE;rw[heap_setCell_same _ b 1 _ _ _ h1];rfl
theorem kE.new(w:World)(v:Value)(e:Int):kE (w.alloc (.cells #[v,.int .i64 e] 148)) w.heap.size v e:=(jw w _).1
theorem Y1:(Tryz.prog.info? 148).map (·.size)=some 2:=by kernel_rfl
theorem Jn {w:World}{b:Nat}{v:Value}{e:Int}(h:kE w b v e)(fn:Func)(tmps:Array Value)(p:Tmp)(hf:fn.results=#[.cell p 148])(hp:tmps.getD p undef = .pointer (some ⟨b,0,none⟩)) :
 (results fn tmps).run Tryz.prog w = .ok (.agg #[v,.int .i64 e]) w :=
 results_cell_row hf tmps w b _ _ _ _ hp h Tryz.underlying148 rfl Y1
theorem JJ:Tryz.f98.results=#[.cell 2 148]:=by kernel_rfl
def DL (s:ByteArray)(w:World)(e:Ending)(w':World):Prop :=
 Below w.heap.size w w'∧((300<s.size∧e = .returned (.agg #[.slice none 0 0,.int .i64 4]))∨(s.size≤300∧fG (sb s)=none∧e = .returned (.agg #[.slice none 0 0,.int .i64 5])) ∨
  (s.size≤300∧∃ts v,fG (sb s)=some ts∧e = .returned (.agg #[v,.int .i64 0])∧qy w' w.heap.size v ts))
theorem Own.set2 {α : Type}{size:Nat}{E:Enc α size}{e:TypeId}{w:World}{base r:Nat}{v:Value}{xs:List α}(h:Own E e w base v xs)(hr:r<base)(a b:Value):Own E e ((w.setCell ⟨r,0,none⟩ a).setCell ⟨r,1,none⟩ b) base v xs :=
 Own.other h (grownBy.setCell' (grownBy.setCell' (grownBy.refl' _ _) _ _) _ _) hr
theorem Qh (s:ByteArray)(w:World):Calls Tryz.prog 98 #[.string s] w (DL s w):=by
 by_cases hbig:300<s.size
 · have hi:(300:Int)<(s.size:Int):=by omega
   go_enter Tryz.func98,Tryz.ntmps98;go_wp2_with fail
   exact bodyPost_ret (Jn (kE.new w (.slice none 0 0) 4) _ _ 2 JJ rfl) rfl ⟨(ai _ _).alloc (ag _) _,.inl ⟨hbig,rfl⟩⟩
 have hi:¬ (300:Int)<(s.size:Int):=by omega
 have hs0:s.size≤1000000:=by omega
 obtain⟨eb,lh,dA⟩:=Elem.tok;have kS:=aa dA;clear dA;have K3:=aa (kE.new w (.slice none 0 0) 0);have aR:=aa (show Below w.heap.size w (w.alloc (.cells #[.slice none 0 0,.int .i64 0] 148))from(ai _ _).alloc (ag _) _);have Bo:=aa (show fG (sb s)=(kv s 0).map (([]:List af) ++ ·)by rw[OY];cases kv s 0 <;> rfl);go_enter Tryz.func98,Tryz.ntmps98;go_wp2_with fail
 go_loopw [3,4] (fun v i wr=>∃(p:Nat)(acc:List af),i = .int .i64 (p:Int)∧p≤s.size∧acc.length≤p∧Hid (fG (sb s)=(kv s p).map (acc ++ ·))∧Hid (qy wr (w.heap.size+1) v acc)∧Hid (kE wr w.heap.size (.slice none 0 0) 0)∧Hid (Below w.heap.size w wr))
  (fun _ i _=>s.size - (intOf i).toNat)
 case atStart=>exact⟨0,[],rfl,by omega,by simp,Bo,aa (Own.nil _ _ _ _),K3,aR⟩
 case round =>
  clear Bo K3 aR;obtain⟨p,acc,rfl,hps,hal,HL,HO,HK,HB⟩:=hrel;by_cases hlt:p<s.size
  · have hlt2:(p:Int)<(s.size:Int):=by omega
    obtain⟨a,ha⟩:∃a:Int,(s[p].toNat:Int)=a:=⟨_,rfl⟩;by_cases h32:a=32
    · have WM:(a == 32)=true:=beq_iff_eq.2 h32
      have HL2:=aa (show fG (sb s)=(kv s (p+1)).map (acc ++ ·)by rw[HL.o,O0 s p hlt (by rw[ha];exact h32)]);clear h32;go_wp2_with fail
      go_roundw
      case rel=>exact⟨p+1,acc,by go_num,by omega,by omega,HL2,HO,HK,HB⟩
      case measure=>simp[intOf];omega
    · have WM:(a == 32)=false:=beq_eq_false_iff_ne.2 h32
      have Ed:¬ ((s[p].toNat:Nat):Int)=32:=by rw[ha];exact h32
      have hT:=abF s p wr hs0 hlt;cases hq:eP (ax s p)with
      | none =>
        rw[hq]at hT;have HT:=aa hT;clear hT;have HN:=aa (show fG (sb s)=none by rw[HL.o,O3 s p hlt Ed hq];rfl);clear hq h32 Ed;go_upto_region 10 with (go_at_call 133;((with_reducible refine HT.o.mono ?_);intro e w1 he;obtain⟨h1,t,rfl⟩:=mg.no he;have HB1:=aa (HB.o.trans (h1.mono HB.o.size));have l7:=aa (HK.o.below h1 HK.o.lt);clear h1 he))
        have hB3:Below w1.heap.size w1 (w1.alloc (.cells #[.int .i64 t.kind,.string t.text,.int .i64 t.num,.string t.sh,.int .i64 t.c,.int .i64 t.r,.bool t.ac,.bool t.ar,.int .i64 t.pos] 154)):=(ai _ _).alloc (ag _) _;have HB3:=aa (HB1.o.trans (hB3.mono HB1.o.size));have kV:=aa (l7.o.below hB3 l7.o.lt);clear hB3;generalize w1.alloc (.cells #[.int .i64 t.kind,.string t.text,.int .i64 t.num,.string t.sh,.int .i64 t.c,.int .i64 t.r,.bool t.ac,.bool t.ar,.int .i64 t.pos] 154)=w3 at HB3 kV ⊢;obtain⟨c0,c1⟩:=kV.o.facts;obtain⟨f0,f1⟩:=kV.o.bK;go_wp2_with fail
        exact bodyPost_ret (Jn (kV.o.qH (.slice none 0 0) 5) _ _ 2 JJ rfl) rfl ⟨(HB3.o.setCell (ag _) _).setCell (ag _) _,.inr (.inl ⟨by omega,HN.o,rfl⟩)⟩
      | some q =>
        obtain⟨t0,n0⟩:=q;rw[hq]at hT;obtain⟨t1,ht1⟩:∃t1,t0.goto p=t1:=⟨_,rfl⟩;have HT:=aa hT;clear hT;have hn0:=qa _ _ _ hq;rw[mE]at hn0
        have rY:=aa (show fG (sb s)=(kv s (p+n0)).map ((acc++[t0.goto p]) ++ ·)by
         rw[HL.o,O4 s p hlt Ed t0 n0 hq,Option.map_map];congr 1;funext l;simp)
        have hn1:((n0:Int) == 0)=false:=beq_eq_false_iff_ne.2 (by omega);clear hq HL h32 Ed ht1;go_upto_region 11 with (go_at_call 133;((with_reducible refine HT.o.mono ?_);intro e w1 he;obtain⟨h1,rfl⟩:=mg.yes he;have HB1:=aa (HB.o.trans (h1.mono HB.o.size));have l7:=aa (HK.o.below h1 HK.o.lt);have eX:=aa (Own.below HO.o h1 (ag _));clear h1 he))
        have hB3:Below w1.heap.size w1 (w1.alloc (.cells #[.int .i64 t0.kind,.string t0.text,.int .i64 t0.num,.string t0.sh,.int .i64 t0.c,.int .i64 t0.r,.bool t0.ac,.bool t0.ar,.int .i64 (p:Int)] 154)):=(ai _ _).alloc (ag _) _;have aA:aC (w1.alloc (.cells #[.int .i64 t0.kind,.string t0.text,.int .i64 t0.num,.string t0.sh,.int .i64 t0.c,.int .i64 t0.r,.bool t0.ac,.bool t0.ar,.int .i64 (p:Int)] 154)) w1.heap.size (t0.goto p):=aC.new w1 (t0.goto p);have HB3:=aa (HB1.o.trans (hB3.mono HB1.o.size));have kV:=aa (l7.o.below hB3 l7.o.lt);have fA:=aa (Own.below eX.o hB3 (ag _));clear hB3 HT HB1 l7 eX HB HK HO;generalize w1.alloc (.cells #[.int .i64 t0.kind,.string t0.text,.int .i64 t0.num,.string t0.sh,.int .i64 t0.c,.int .i64 t0.r,.bool t0.ac,.bool t0.ar,.int .i64 (p:Int)] 154)=w3 at HB3 kV fA aA ⊢;obtain⟨y0,y1,y2,y3,y4,kQ,y6,lF,mJ⟩:=aA.cells;clear aA;simp only[af.goto]at y0 y1 y2 y3 y4 kQ y6 lF mJ;go_wp2_with (at_builtin;refine mH kS.o yu rfl (.tmp 30) (.tmp 32) rfl (w.heap.size+1) _ _ rfl (fA.o.alloc _) ⟨_,0,none⟩ 1 1 [t0.goto p] rfl rfl ?_ ?_ ?_ ?_ ?_;exact fZ _ _ _ rfl;exact bZ (Nat.mul_le_mul_left _ lh) (by omega);(unfold maxLen;omega);(have:=kV.o.lt;simp <;> omega);intro v' mI h1 h2;have og:=aa h1;have jJ:=aa (((ai (w.heap.size+1) _).alloc (by have:=kV.o.lt;omega) _).trans h2);clear h1 h2)
        go_roundw
        case rel=>exact⟨p+n0,acc++[t0.goto p],by go_num,by omega,by simp;omega,rY,og,aa (kV.o.below jJ.o (Nat.lt_succ_self _)),aa (HB3.o.trans (jJ.o.mono (Nat.le_succ _)))⟩
        case measure=>simp[intOf];omega
  · have hlt2:¬ (p:Int)<(s.size:Int):=by omega
    have hpz:p=s.size:=by omega
    have HN:=aa (show fG (sb s)=some (acc++[af.zero.goto p])by rw[HL.o,O1 s p (by omega)];rfl);clear HL;obtain⟨c0,c1⟩:=HK.o.facts;obtain⟨f0,f1⟩:=HK.o.bK;go_wp2_with (at_builtin;refine mH kS.o yu rfl (.tmp 37) (.tmp 41) rfl (w.heap.size+1) _ _ rfl (HO.o.alloc _) ⟨_,0,none⟩ 1 1 [af.zero.goto s.size] rfl rfl ?_ ?_ ?_ ?_ ?_;exact fZ _ _ _ rfl;exact bZ (Nat.mul_le_mul_left _ lh) (by omega);(unfold maxLen;omega);(have:=HK.o.lt;simp <;> omega);intro v' mI h1 h2;obtain⟨Wy,Vb,rfl,_,_,_,_⟩:=Own.some h1 (by simp);have og:=aa h1;have jJ:=aa (((ai (w.heap.size+1) _).alloc (by have:=HK.o.lt;omega) _).trans h2);clear h1 h2;have F4:=aa (HK.o.below jJ.o (Nat.lt_succ_self _));clear c0 c1 f0 f1;obtain⟨c0,c1⟩:=F4.o.facts;obtain⟨f0,f1⟩:=F4.o.bK)
    exact bodyPost_ret (Jn (F4.o.qH _ 0) _ _ 2 JJ rfl) rfl ⟨((HB.o.trans (jJ.o.mono (Nat.le_succ _))).setCell (ag _) _).setCell (ag _) _,.inr (.inr ⟨by omega,_,_,HN.o,rfl,by have h9:=(Own.set2 og.o (Nat.lt_succ_self _) (.slice (some ⟨Wy,0,none⟩) (acc.length+1) Vb) (.int .i64 0)).mono (Nat.le_succ _);rw[show(acc++[af.zero.goto s.size]).length=acc.length+1 by simp]at h9;rw[hpz];exact h9⟩)⟩
structure aX (w:World)(b:Nat)(tv:Value)(ts:List af)(p:Nat)(d er:Int)(nv:Value)(vs:List aB):Prop where
 cell:w.heap[b]? = some (.cells #[tv,.int .i64 (p:Int),.int .i64 d,.int .i64 er,nv] 152)
 toks:yh w b tv ts
 nodes:jL w (b+1) nv vs
 lt:p<ts.length
 fit:Fit ts
 few:ts.length≤1000
 cnt:vs.length≤ts.length+100
section
variable {w:World} {b:Nat} {tv:Value} {ts:List af} {p:Nat} {d er:Int} {nv:Value} {vs:List aB}
theorem aX.blt(h:aX w b tv ts p d er nv vs):b<w.heap.size:=(dZ.1 h.cell).1
theorem aX.below {w':World}(h:aX w b tv ts p d er nv vs)(hb:Below w.heap.size w w'):aX w' b tv ts p d er nv vs:=by
 have hl:=h.blt;refine⟨by rw[hb.block b hl];exact h.cell, ?_,h.nodes.keep fun g _ hg=>hb.block g hg,h.lt,h.fit,h.few,h.cnt⟩;obtain⟨g,cap,h1,h2,h3⟩:=h.toks;exact⟨g,cap,h1,h2,h3.keep fun g _ hg _=>hb.block g hg⟩
theorem aX.facts (h:aX w b tv ts p d er nv vs):w.cell? ⟨b,0,none⟩=some tv∧w.cell? ⟨b,1,none⟩=some (.int .i64 (p:Int))∧w.cell? ⟨b,2,none⟩=some (.int .i64 d)∧w.cell? ⟨b,3,none⟩=some (.int .i64 er)∧w.cell? ⟨b,4,none⟩=some nv :=
 ⟨by rw[cell_of_row w b 0 _ _ _ h.cell];rfl,by rw[cell_of_row w b 1 _ _ _ h.cell];rfl,by rw[cell_of_row w b 2 _ _ _ h.cell];rfl,by rw[cell_of_row w b 3 _ _ _ h.cell];rfl,by rw[cell_of_row w b 4 _ _ _ h.cell];rfl⟩
theorem aX.frozen(h:aX w b tv ts p d er nv vs)(j:Nat):w.frozen? ⟨b,j,none⟩=false:=frozen_of_row w b j _ _ h.cell
theorem aX.wo (h:aX w b tv ts p d er nv vs)(m:Nat)(hm:m<ts.length):aX (w.setCell ⟨b,1,none⟩ (.int .i64 (m:Int))) b tv ts m d er nv vs :=
 ⟨by rw[heap_setCell_same w b 1 _ _ _ h.cell];rfl,h.toks.set _ _,h.nodes.set (by omega) _ _,hm,h.fit,h.few,h.cnt⟩
theorem aX.next(h:aX w b tv ts p d er nv vs)(hm:p+1<ts.length):aX (w.setCell ⟨b,1,none⟩ (.int .i64 ((p:Int)+1))) b tv ts (p+1) d er nv vs:=h.wo (p+1) hm
theorem aX.oO (h:aX w b tv ts p d er nv vs)(m:Int):aX (w.setCell ⟨b,2,none⟩ (.int .i64 m)) b tv ts p m er nv vs :=
 ⟨by rw[heap_setCell_same w b 2 _ _ _ h.cell];rfl,h.toks.set _ _,h.nodes.set (by omega) _ _,h.lt,h.fit,h.few,h.cnt⟩
theorem aX.acH (h:aX w b tv ts p d er nv vs)(m:Int):aX (w.setCell ⟨b,3,none⟩ (.int .i64 m)) b tv ts p d m nv vs :=
 ⟨by rw[heap_setCell_same w b 3 _ _ _ h.cell];rfl,h.toks.set _ _,h.nodes.set (by omega) _ _,h.lt,h.fit,h.few,h.cnt⟩
theorem aX.tok (h:aX w b tv ts p d er nv vs):∃g cap t,tv = .slice (some ⟨g,0,none⟩) ts.length cap∧ts[p]? = some t∧ts.drop p=t :: ts.drop (p+1)∧g<b∧w.cell? ⟨g,p*9,none⟩=some (.int .i64 t.kind)∧w.cell? ⟨g,p*9+1,none⟩=some (.string t.text)∧w.cell? ⟨g,p*9+2,none⟩=some (.int .i64 t.num)∧w.cell? ⟨g,p*9+3,none⟩=some (.string t.sh)∧w.cell? ⟨g,p*9+4,none⟩=some (.int .i64 t.c)∧w.cell? ⟨g,p*9+5,none⟩=some (.int .i64 t.r)∧w.cell? ⟨g,p*9+6,none⟩=some (.bool t.ac)∧w.cell? ⟨g,p*9+7,none⟩=some (.bool t.ar)∧w.cell? ⟨g,p*9+8,none⟩=some (.int .i64 t.pos):=by
 obtain⟨g,cap,h1,h2,h3⟩:=h.toks;have hl:=h.lt;rw[h1]at h3;have hc:=fun j hj=>qy.cell h3 p _ (bn hl) j hj
 exact⟨g,cap,ts[p],h1,bn hl,List.drop_eq_getElem_cons hl,h2,hc 0 (by omega),hc 1 (by omega),hc 2 (by omega),hc 3 (by omega),hc 4 (by omega),hc 5 (by omega),hc 6 (by omega),hc 7 (by omega),hc 8 (by omega)⟩
theorem aX.row (h:aX w b tv ts p d er nv vs):∀g,nv.ownBlock=some g→b<g∧zL w g:=by
 intro g e;rcases h.nodes.1.2 with ⟨h1,_⟩|⟨g',cap,cur,h1,h2,h3,_⟩
 · rw[h1]at e;cases e
 · rw[h1]at e;injection e with e
   have e:g'=g:=e;subst e;exact⟨by omega,cur,_,h3⟩
theorem aX.Ww {w':World}(h:aX w b tv ts p d er nv vs)(hg:w.grownBy w' nv.ownBlock):w'.cell? ⟨b,4,none⟩=some nv∧w'.frozen? ⟨b,4,none⟩=false:=by
 have hbb:w'.heap[b]? = w.heap[b]? := hg.block b h.blt (by intro e;have:=(h.row b e.symm).1;omega);have hc:=hbb.trans h.cell;exact⟨by rw[cell_of_row w' b 4 _ _ _ hc];rfl,frozen_of_row w' b 4 _ _ hc⟩
theorem aX.grow {w':World}{aM:Value}{v:aB}(h:aX w b tv ts p d er nv vs)(hg:w.grownBy w' nv.ownBlock)(ho:Own yt 48 w' (b+1) aM (vs++[v]))
 (hk:Own (bT .i64) 3 w (b+1) v.bf v.n.kids) (hc:vs.length+1≤ts.length+100):aX (w'.setCell ⟨b,4,none⟩ aM) b tv ts p d er aM (vs++[v])∧Fr w (w'.setCell ⟨b,4,none⟩ aM) b:=by
 have yG:=h.row;have hfr:Fr w w' b:=(Fr.refl w b).row hg (fun g e=>⟨(yG g e).1,.inr (yG g e).2⟩);have hbb:w'.heap[b]? = w.heap[b]? := hg.block b h.blt (by intro e;have:=(yG b e.symm).1;omega);refine⟨⟨?_, ?_,⟨ho.keep fun j hj _ _=>gZ _ _ _ _ (by show j≠b;omega), ?_⟩,h.lt,h.fit,h.few,by rw[aj,fq];exact hc⟩,hfr.setCell _ _⟩
 · rw[heap_setCell_same w' b 4 _ _ _ (hbb.trans h.cell)];rfl
 · have h1:yh w' b tv ts:=by
    obtain⟨g,cap,h1,h2,h3⟩:=h.toks;exact⟨g,cap,h1,h2,h3.keep fun j _ hj e=>hfr.block j hj (by rw[h1]at e;injection e with e;have:g=j:=e;omega) (.inl (by rw[h1]at e;injection e with e;have:g=j:=e;omega))⟩
   exact h1.set _ _
 · intro u hu
   have h1:Own (bT .i64) 3 w (b+1) u.bf u.n.kids:=by
    rcases List.mem_append.1 hu with hu|hu
    · exact h.nodes.2 u hu
    · rw[List.mem_singleton.1 hu];exact hk
   exact(h1.fr hfr (by omega) (by decide)).keep fun j hj _ _=>gZ _ _ _ _ (by show j≠b;omega)
theorem aX.kids {w':World}(h:aX w b tv ts p d er nv vs){r:Option Nat}(hg:w.grownBy w' r)(hr:∀g,r=some g→b<g∧¬ zL w g∧∀v∈vs,v.bf.ownBlock≠some g):aX w' b tv ts p d er nv vs:=by
 refine⟨?_, ?_,⟨h.nodes.1.keep ?_,fun v hv=>(h.nodes.2 v hv).keep ?_⟩,h.lt,h.fit,h.few,h.cnt⟩
 · rw[hg.block b h.blt (by intro e;have:=(hr b e.symm).1;omega)];exact h.cell
 · obtain ⟨g,cap,h1,h2,h3⟩:=h.toks
   exact ⟨g,cap,h1,h2,h3.keep fun j _ hj e=>hg.block j hj (by
    intro e2;have:=(hr j e2.symm).1;rw[h1]at e;injection e with e;have:g=j:=e;omega)⟩
 · intro g h1 h2 h3
   exact hg.block g h2 (fun e=>(hr g e.symm).2.1 (h.row g h3).2)
 · intro g h1 h2 h3
   exact hg.block g h2 (fun e=>(hr g e.symm).2.2 v hv h3)
end
def uZ (b n:Nat)(w:World):Nat:=match w.cell? ⟨b,3,none⟩with
 | some (.int _ e)=>if e=0 then n+1 - (match w.cell? ⟨b,1,none⟩with|some (.int _ m)=>m.toNat|_=>0)else 0
 | _=>0
theorem aX.uZ {w:World}{b:Nat}{tv:Value}{ts:List af}{p:Nat}{d er:Int}{nv:Value}{vs:List aB}(h:aX w b tv ts p d er nv vs)(n:Nat):uZ b n w=if er=0 then n+1 - p else 0:=by
 unfold Go.Proofs.YtdnooocmlhcpkaaGreatDoor.uZ;rw[h.facts.2.2.2.1,h.facts.2.1];rfl
theorem xw {w:World}{b:Nat}{tv:Value}{ts:List af}{p:Nat}{d er:Int}{nv:Value}{vs:List aB}(h:aX w b tv ts p d er nv vs){s:ByteArray}(hs:au s (ts.drop p)=true):p+1<ts.length:=by
 obtain⟨g,cap,t, -,ht,hd, -⟩:=h.tok;rw[Fh hd,dE,decide_eq_true_iff]at hs;exact h.fit.next ht (by omega)
theorem vZ {w:World}{b:Nat}{tv:Value}{ts:List af}{p:Nat}{d er:Int}{nv:Value}{vs:List aB}(h:aX w b tv ts p d er nv vs)(s:ByteArray) :
 Calls Tryz.prog 136 #[.pointer (some ⟨b,0,none⟩),.string s] w fun e w'=>e = .returned (.bool (decide (er=0)&&au s (ts.drop p)))∧Below w.heap.size w w':=by
 obtain⟨c0,c1,c2,c3,c4⟩:=h.facts;obtain⟨g,cap,t,rfl,ht,hd, -,k0,k1, -⟩:=h.tok;have hlt:=h.lt;have HS:=aa (Fh (s:=s) hd);have hi1:(0:Int)≤(p:Int):=by omega
 have hi2:(p:Int)<(ts.length:Int):=by omega
 obtain⟨n,hn⟩:∃n,ts.length=n:=⟨_,rfl⟩;rw[hn]at hi2 hlt c0;clear h ht hd hn c2 c4;by_cases he:er=0
 · have ee:(er == 0)=true:=beq_iff_eq.2 he
   have HE:=aa (decide_eq_true he);clear he;by_cases h5:t.kind=5
   · have e5:(t.kind == 5)=true:=beq_iff_eq.2 h5
     by_cases hs:t.text=s
     · have hs1:(t.text.toList == s.toList)=true:=by rw[hs];simp
       have hs2:t.text.toList=s.toList:=by rw[hs]
       have HR:=aa (show(decide (er=0)&&au s (ts.drop p))=true by rw[HE.o,HS.o,decide_eq_true h5,decide_eq_true hs];rfl);clear h5 hs;go_enter Tryz.func136,Tryz.ntmps136;go_wp2_with fail
       go_quiet (fail)
       go_wp2_with fail
       go_ret;exact⟨by rw[HR.o] <;> rfl,oF (ai _ _) nq⟩
     · have hs1:(t.text.toList == s.toList)=false:=beq_eq_false_iff_ne.2 (nX _ _ hs)
       have hs2:¬ t.text.toList=s.toList:=nX _ _ hs;have HR:=aa (show(decide (er=0)&&au s (ts.drop p))=false by rw[HE.o,HS.o,decide_eq_true h5,decide_eq_false hs];rfl);clear h5 hs;go_enter Tryz.func136,Tryz.ntmps136;go_wp2_with fail
       go_quiet (fail)
       go_wp2_with fail
       go_ret;exact⟨by rw[HR.o] <;> rfl,oF (ai _ _) nq⟩
   · have e5:(t.kind == 5)=false:=beq_eq_false_iff_ne.2 h5
     have HR:=aa (show(decide (er=0)&&au s (ts.drop p))=false by rw[HE.o,HS.o,decide_eq_false h5];rfl);clear h5;go_enter Tryz.func136,Tryz.ntmps136;go_wp2_with fail
     go_quiet (fail)
     go_wp2_with fail
     go_ret;exact⟨by rw[HR.o] <;> rfl,oF (ai _ _) nq⟩
 · have ee:(er == 0)=false:=beq_eq_false_iff_ne.2 he
   have HR:=aa (show(decide (er=0)&&au s (ts.drop p))=false by rw[decide_eq_false he];rfl);clear he;go_enter Tryz.func136,Tryz.ntmps136;go_wp2_with fail
   go_quiet (fail)
   go_wp2_with fail
   go_ret;exact⟨by rw[HR.o] <;> rfl,oF (ai _ _) nq⟩
def sF(b:Nat)(tv:Value)(ts:List af)(p:Nat)(d er:Int)(nv:Value)(vs:List aB)(c:Int)(w':World):Prop:=aX w' b tv ts p d (if er=0 then c else er) nv vs
theorem zb {w:World}{b:Nat}{tv:Value}{ts:List af}{p:Nat}{d er:Int}{nv:Value}{vs:List aB}(h:aX w b tv ts p d er nv vs)(c:Int) :
 Calls Tryz.prog 100 #[.pointer (some ⟨b,0,none⟩),.int .i64 c] w fun e w'=>e = .returned (.tuple #[])∧Fr w w' b∧sF b tv ts p d er nv vs c w':=by
 obtain⟨c0,c1,c2,c3,c4⟩:=h.facts;have f3:=h.frozen 3;have HP:=aa h;clear h c0 c1 c2 c4;by_cases he:er=0
 · have ee:(er == 0)=true:=beq_iff_eq.2 he
   have HE:=aa he;clear he;go_enter Tryz.func100,Tryz.ntmps100;go_wp2_with fail
   have hq:sF b tv ts p d er nv vs c (w.setCell ⟨b,3,none⟩ (.int .i64 c)):=by unfold sF;rw[if_pos HE.o];exact HP.o.acH c
   first
    | exact bodyPost_ret (results_none rfl _ _ _) rfl ⟨rfl,(Fr.refl _ _).setCell _ _,hq⟩
    | (go_end0;exact⟨rfl,(Fr.refl _ _).setCell _ _,hq⟩)
 · have ee:(er == 0)=false:=beq_eq_false_iff_ne.2 he
   have HE:=aa he;clear he;go_enter Tryz.func100,Tryz.ntmps100;go_wp2_with fail
   have hq:sF b tv ts p d er nv vs c w:=by unfold sF;rw[if_neg HE.o];exact HP.o
   first
    | exact bodyPost_ret (results_none rfl _ _ _) rfl ⟨rfl,Fr.refl _ _,hq⟩
    | (go_end0;exact⟨rfl,Fr.refl _ _,hq⟩)
def GY (b:Nat)(tv:Value)(ts:List af)(p:Nat)(d er:Int)(nv:Value)(vs:List aB)(s:ByteArray)(w':World):Prop :=
 (er≠0∧aX w' b tv ts p d er nv vs)∨(er=0∧au s (ts.drop p)=true∧aX w' b tv ts (p+1) d 0 nv vs)∨(er=0∧au s (ts.drop p)=false∧aX w' b tv ts p d 5 nv vs)
theorem Ay {w:World}{b:Nat}{tv:Value}{ts:List af}{p:Nat}{d er:Int}{nv:Value}{vs:List aB}(h:aX w b tv ts p d er nv vs)(s:ByteArray) :
 Calls Tryz.prog 197 #[.pointer (some ⟨b,0,none⟩),.string s] w fun e w'=>e = .returned (.tuple #[])∧Fr w w' b∧GY b tv ts p d er nv vs s w':=by
 have HS:=aa (vZ h s);have HP:=aa h;have jD:=h.few;have hlt:=h.lt;obtain⟨q,hq⟩:∃q,(decide (er=0)&&au s (ts.drop p))=q:=⟨_,rfl⟩;rw[hq]at HS;cases q
 · have HF:=aa (fun w1 (h1:Below w.heap.size w w1)=>zb (HP.o.below h1) 5)
   have HQ:=aa hq;clear h hq;go_enter Tryz.func197,Tryz.ntmps197
   go_wp2_with (first
    | (go_at_call 136;((with_reducible refine HS.o.mono ?_);rintro e w1 ⟨rfl,h1⟩;have HB:=aa h1;clear h1))
    | (go_at_call 100;((with_reducible refine(HF.o _ HB.o).mono ?_);rintro e w2 ⟨rfl,h1,h2⟩;have bI:=aa h1;have eY:=aa h2;clear h1 h2)))
   have fin:GY b tv ts p d er nv vs s w2:=by
    have hP:=eY.o;unfold sF at hP;by_cases he:er=0
    · rw[if_pos he]at hP
      have:=HQ.o;rw[decide_eq_true he,Bool.true_and]at this;exact .inr (.inr ⟨he,this,hP⟩)
    · rw[if_neg he]at hP
      exact .inl ⟨he,hP⟩
   first
    | exact bodyPost_ret (results_none rfl _ _ _) rfl ⟨rfl,(Fr.of b HB.o).trans bI.o,fin⟩
    | (go_end0;exact⟨rfl,(Fr.of b HB.o).trans bI.o,fin⟩)
 · rw [dE,decide_eq_true_iff]at hq
   have hnx:=xw h hq.2;have HQ:=aa hq;clear h hq;go_enter Tryz.func197,Tryz.ntmps197;go_upto_region 2 with (go_at_call 136;((with_reducible refine HS.o.mono ?_);rintro e w1 ⟨rfl,h1⟩;have HB:=aa h1;have bJ:=aa (HP.o.below h1);clear h1))
   obtain⟨c0,c1,c2,c3,c4⟩:=bJ.o.facts;have f1:=bJ.o.frozen 1;clear c0 c2 c3 c4;go_wp2_with fail
   have fin:GY b tv ts p d er nv vs s (w1.setCell ⟨b,1,none⟩ (.int .i64 ((p:Int)+1))):=by
    have hP:=bJ.o.next hnx;rw[HQ.o.1]at hP;exact .inr (.inl ⟨HQ.o.1,HQ.o.2,hP⟩)
   first
    | exact bodyPost_ret (results_none rfl _ _ _) rfl ⟨rfl,(Fr.of b HB.o).setCell _ _,fin⟩
    | (go_end0;exact⟨rfl,(Fr.of b HB.o).setCell _ _,fin⟩)
def GV(b:Nat)(tv:Value)(ts:List af)(p deep:Nat)(nv:Value)(vs:List aB)(w':World):Prop:=(12≤deep∧aX w' b tv ts p (deep:Int) 6 nv vs)∨(¬ 12≤deep∧aX w' b tv ts (p+1) ((deep+1:Nat):Int) 0 nv vs)
theorem ze {w:World}{b:Nat}{tv:Value}{ts:List af}{p deep:Nat}{nv:Value}{vs:List aB}(h:aX w b tv ts p (deep:Int) 0 nv vs)(hn:deep≤12)(hnx:p+1<ts.length) :
 Calls Tryz.prog 175 #[.pointer (some ⟨b,0,none⟩)] w fun e w'=>e = .returned (.tuple #[])∧Fr w w' b∧GV b tv ts p deep nv vs w':=by
 obtain⟨c0,c1,c2,c3,c4⟩:=h.facts;have f1:=h.frozen 1;have f2:=h.frozen 2;have hf:=h.few;have HP:=aa h;have HF:=aa (zb h 6);clear h c0 c3 c4;by_cases hd:12≤deep
 · have e12:(12:Int)≤(deep:Int):=by omega
   go_enter Tryz.func175,Tryz.ntmps175;go_wp2_with (go_at_call 100;((with_reducible refine HF.o.mono ?_);rintro e w2 ⟨rfl,h1,h2⟩;have bI:=aa h1;have eY:=aa h2;clear h1 h2))
   have fin:GV b tv ts p deep nv vs w2:=by have:=eY.o;unfold sF at this;rw[if_pos rfl]at this;exact .inl ⟨hd,this⟩
   first
    | exact bodyPost_ret (results_none rfl _ _ _) rfl ⟨rfl,bI.o,fin⟩
    | (go_end0;exact⟨rfl,bI.o,fin⟩)
 · have e12:¬ (12:Int)≤(deep:Int):=by omega
   have HD:=aa hd;go_enter Tryz.func175,Tryz.ntmps175;go_wp2_with fail
   have fin:GV b tv ts p deep nv vs ((w.setCell ⟨b,2,none⟩ (.int .i64 ((deep:Int)+1))).setCell ⟨b,1,none⟩ (.int .i64 ((p:Int)+1))) := .inr ⟨HD.o,(HP.o.oO ((deep+1:Nat):Int)).next hnx⟩
   first
    | exact bodyPost_ret (results_none rfl _ _ _) rfl ⟨rfl,((Fr.refl _ _).setCell _ _).setCell _ _,fin⟩
    | (go_end0;exact⟨rfl,((Fr.refl _ _).setCell _ _).setCell _ _,fin⟩)
theorem nW {w:World}{b:Nat}{tv:Value}{ts:List af}{p:Nat}{d er:Int}{nv:Value}{vs:List aB}(h:aX w b tv ts p d er nv vs)(v:aB)(hk:Own (bT .i64) 3 w (b+1) v.bf v.n.kids)(hc:vs.length+1≤ts.length+100)(k:Value)(tu:v.bf=k)(n:Nd)(hn:v.n=n) :
 Calls Tryz.prog 137 #[.pointer (some ⟨b,0,none⟩),.agg #[.int .i64 n.kind,.int .i64 n.num,.string n.text,.string n.ref.sh,.int .i64 n.ref.c,.int .i64 n.ref.r,.bool n.ref.ac,.bool n.ref.ar,.string n.ae.sh,.int .i64 n.ae.c,.int .i64 n.ae.r,.bool n.ae.ac,.bool n.ae.ar,k]] w fun e w'=>Fr w w' b∧e = .returned (.int .i64 (vs.length:Int))∧∃aM,aX w' b tv ts p d er aM (vs++[v]):=by
 obtain⟨eb,lh,dA⟩:=Elem.PH;have hal:Below w.heap.size w (w.alloc (.cells #[.int .i64 n.kind,.int .i64 n.num,.string n.text,.string n.ref.sh,.int .i64 n.ref.c,.int .i64 n.ref.r,.bool n.ref.ac,.bool n.ref.ar,.string n.ae.sh,.int .i64 n.ae.c,.int .i64 n.ae.r,.bool n.ae.ac,.bool n.ae.ar,k] 48)):=(ai _ _).alloc (ag _) _;have bJ:=aa (h.below hal);have l7:=aa (hk.alloc (.cells #[.int .i64 n.kind,.int .i64 n.num,.string n.text,.string n.ref.sh,.int .i64 n.ref.c,.int .i64 n.ref.r,.bool n.ref.ac,.bool n.ref.ar,.string n.ae.sh,.int .i64 n.ae.c,.int .i64 n.ae.r,.bool n.ae.ac,.bool n.ae.ar,k] 48));have hx:aH (w.alloc (.cells #[.int .i64 n.kind,.int .i64 n.num,.string n.text,.string n.ref.sh,.int .i64 n.ref.c,.int .i64 n.ref.r,.bool n.ref.ac,.bool n.ref.ar,.string n.ae.sh,.int .i64 n.ae.c,.int .i64 n.ae.r,.bool n.ae.ac,.bool n.ae.ar,k] 48)) w.heap.size n k:=aH.new w n k;have h2:=h.few;have h3:=h.lt;have hbl:=h.blt;have hsz:(w.alloc (.cells #[.int .i64 n.kind,.int .i64 n.num,.string n.text,.string n.ref.sh,.int .i64 n.ref.c,.int .i64 n.ref.r,.bool n.ref.ac,.bool n.ref.ar,.string n.ae.sh,.int .i64 n.ae.c,.int .i64 n.ae.r,.bool n.ae.ac,.bool n.ae.ar,k] 48)).heap.size=w.heap.size+1:=by simp
 have kS:=aa dA;have aR:=aa hal;clear h hk dA hal;go_enter Tryz.func137,Tryz.ntmps137;go_upto_region 1 with (fail)
 generalize w.alloc (.cells #[.int .i64 n.kind,.int .i64 n.num,.string n.text,.string n.ref.sh,.int .i64 n.ref.c,.int .i64 n.ref.r,.bool n.ref.ac,.bool n.ref.ar,.string n.ae.sh,.int .i64 n.ae.c,.int .i64 n.ae.r,.bool n.ae.ac,.bool n.ae.ar,k] 48)=w1 at bJ l7 aR hx hsz ⊢;obtain⟨x0,x1,x2,x3,x4,x5,x6,x7,az,aW,aT,aU,aV,aP⟩:=hx.cells;obtain⟨c0,c1,c2,c3,c4⟩:=bJ.o.facts;have f4:=bJ.o.frozen 4;clear hx c0 c1 c2 c3;have Bu:=aa (bJ.o.below (((ai _ _).drew).alloc (ag _) (.cells #[.int .i64 n.kind,.int .i64 n.num,.string n.text,.string n.ref.sh,.int .i64 n.ref.c,.int .i64 n.ref.r,.bool n.ref.ac,.bool n.ref.ar,.string n.ae.sh,.int .i64 n.ae.c,.int .i64 n.ae.r,.bool n.ae.ac,.bool n.ae.ar,k] 48)));have hw1 : -9223372036854775808≤(vs.length:Int)+1 - 1:=by omega
 have hw2:(vs.length:Int)+1 - 1≤9223372036854775807:=by omega
 go_region_law (refine CQ kS.o yt rfl (.tmp 9) (.tmp 11) rfl (b+1) nv vs ?_ (bJ.o.nodes.1.drew.alloc _) ⟨w1.heap.size,0,none⟩ 1 1 [v] ?_ rfl ?_ ?_ ?_ ?_ ?_;go_simp;go_simp;(subst tu;subst hn;exact fZ (w:=w1.drew) _ _ _ rfl);exact bZ (Nat.mul_le_mul_left _ lh) (by omega);(unfold maxLen;omega);(simp <;> omega);intro v' mI h1 h2 h4;obtain⟨g1,fe,rfl,hg0,hg1,hg2,hg3⟩:=Own.some h1 (by simp);obtain⟨d1,d2⟩:=Bu.o.Ww h2;have HO:=aa h1;have HG:=aa h2;clear h1 h2 h4)
 all_goals
  obtain⟨q1,q2⟩:=Bu.o.grow HG.o HO.o (l7.o.drew.alloc _) hc;rw[aj,fq]at q1 q2;obtain⟨c0,c1,c2,c3,c4⟩:=q1.facts;have vw:=aa q1;have ma:=aa q2;clear q1 q2 c0 c1 c2 c3;go_wp2_with fail
  have hF:=(((Fr.of b aR.o).drew).below ((ai _ _).alloc (ag _) (.cells #[.int .i64 n.kind,.int .i64 n.num,.string n.text,.string n.ref.sh,.int .i64 n.ref.c,.int .i64 n.ref.r,.bool n.ref.ac,.bool n.ref.ar,.string n.ae.sh,.int .i64 n.ae.c,.int .i64 n.ae.r,.bool n.ae.ac,.bool n.ae.ar,k] 48))).trans ma.o;go_ret;exact⟨hF,za (by first|rfl|omega),_,vw.o⟩
def uK(w:World)(gs gk:Nat)(L:List (ByteArray × Int)):Prop:=w.heap[gs]? = some (.cells (L.map fun q=>Value.string q.1).toArray 9)∧w.heap[gk]? = some (.cells (L.map fun q=>Value.int .i64 q.2).toArray 3)
theorem uK.below {w w':World}{gs gk:Nat}{L:List (ByteArray × Int)}(h:uK w gs gk L)(hb:Below w.heap.size w w'):uK w' gs gk L :=
 ⟨by rw[hb.block gs (dZ.1 h.1).1];exact h.1,by rw[hb.block gk (dZ.1 h.2).1];exact h.2⟩
theorem uK.fr {w w':World}{b gs gk:Nat}{L:List (ByteArray × Int)}(h:uK w gs gk L)(hf:Fr w w' b)(h1:b<gs)(h2:b<gk):uK w' gs gk L:=by
 refine⟨?_, ?_⟩
 · rw[hf.block gs (dZ.1 h.1).1 (by omega) (.inr (by rintro⟨cur,fr,e⟩;rw[h.1]at e;injection e with e;injection e with _ e;exact absurd e (by decide)))];exact h.1
 · rw[hf.block gk (dZ.1 h.2).1 (by omega) (.inr (by rintro⟨cur,fr,e⟩;rw[h.2]at e;injection e with e;injection e with _ e;exact absurd e (by decide)))];exact h.2
theorem uK.cells {w:World}{gs gk:Nat}{L:List (ByteArray × Int)}(h:uK w gs gk L)(j:Nat)(q:ByteArray × Int)(hj:L[j]? = some q):w.cell? ⟨gs,j,none⟩=some (.string q.1)∧w.cell? ⟨gk,j,none⟩=some (.int .i64 q.2):=by
 refine⟨?_, ?_⟩
 · rw[cell_of_row w gs j _ _ _ h.1];simp[hj]
 · rw[cell_of_row w gk j _ _ _ h.2];simp[hj]
def LM (n:Nat)(w:World)(e:Ending)(w':World):Prop :=
 Below w.heap.size w w'∧∃gs gk,e = .returned (.tuple #[.slice (some ⟨gs,0,none⟩) (fC n).length (fC n).length,.slice (some ⟨gk,0,none⟩) (fC n).length (fC n).length])∧w.heap.size≤gs∧w.heap.size≤gk∧uK w' gs gk (fC n)
theorem YR (n:Nat)(w:World)(A B:Array Value)(h1:A=((fC n).map fun q=>Value.string q.1).toArray)(h2:B=((fC n).map fun q=>Value.int .i64 q.2).toArray) :
 LM n w (.returned (.tuple #[.slice (some ⟨w.heap.size,0,none⟩) (fC n).length (fC n).length,.slice (some ⟨w.heap.size+1,0,none⟩) (fC n).length (fC n).length])) ((w.alloc (.cells A 9)).alloc (.cells B 3)):=by
 subst h1;subst h2;refine⟨((ai _ _).alloc (ag _) _).alloc (by simp) _,w.heap.size,w.heap.size+1,rfl,ag _,by omega, ?_, ?_⟩
 · rw[Below.heap_alloc _ _ _ (by simp)];exact(jw w _).1
 · have:=(jw (w.alloc (.cells ((fC n).map fun q=>Value.string q.1).toArray 9)) (.cells ((fC n).map fun q=>Value.int .i64 q.2).toArray 3)).1
   rwa[show(w.alloc (.cells ((fC n).map fun q=>Value.string q.1).toArray 9)).heap.size=w.heap.size+1 by simp]at this
theorem abW (n:Nat)(hn:n≤3)(w:World):Calls Tryz.prog 135 #[.int .i64 (n:Int)] w (LM n w):=by
 rcases(show n=0∨n=1∨n=2∨n=3 by omega)with rfl|rfl|rfl|rfl
 all_goals
  go_enter Tryz.func135,Tryz.ntmps135;go_wp2_with fail
  go_ret2
  exact YR _ _ _ _ rfl rfl
theorem aX.Jk{w':World}{b:Nat}{tv:Value}{ts:List af}{p:Nat}{d:Int}{nv:Value}{vs:List aB}{c:Int}(h:sF b tv ts p d 0 nv vs c w'):aX w' b tv ts p d c nv vs:=by unfold sF at h;rw[if_pos rfl]at h;exact h
def cB (sl:Nat)(res:dW)(w:World)(b:Nat)(tv:Value)(ts:List af)(deep:Nat)(vs:List aB)(e:Ending)(w':World):Prop :=
 Fr w w' b∧((∃c,res = .error c∧(c=5∨c=6)∧(∃x:Int,e = .returned (.int .i64 x))∧∃p' d aM us,(∀u∈us,∀g,u.bf.ownBlock=some g→w.heap.size≤g)∧aX w' b tv ts p' d c aM (vs++us)∧(vs++us).length+sl≤ts.length+100∧(sl:Int)≤d+100∧d≤100) ∨
  (∃ms a r,res = .ok (ms,a,r)∧e = .returned (.int .i64 ((a:Nat):Int))∧∃p' aM us,ts.drop p'=r∧us.map aB.n=ms∧(∀u∈us,∀g,u.bf.ownBlock=some g→w.heap.size≤g)∧aX w' b tv ts p' (deep:Int) 0 aM (vs++us)∧(vs++us).length≤p'))
theorem cB.ret {sl:Nat}{res:dW}{w w':World}{b:Nat}{tv:Value}{ts:List af}{deep:Nat}{vs:List aB}{e:Ending}(h:cB sl res w b tv ts deep vs e w'):∃c:Int,e = .returned (.int .i64 c):=by
 rcases h.2 with ⟨c,_,_,h,_⟩|⟨_,a,_,_,h,_⟩
 · exact h
 · exact⟨a,h⟩
theorem cB.from {sl:Nat}{res:dW}{w w2 w3:World}{b:Nat}{tv:Value}{ts:List af}{deep:Nat}{vs:List aB}{e:Ending}(hf:Fr w w2 b)(h:cB sl res w2 b tv ts deep vs e w3):cB sl res w b tv ts deep vs e w3:=by
 refine⟨hf.trans h.1,h.2.imp ?_ ?_⟩
 · rintro⟨c,g1,g2,g3,p',d,aM,us,g4,g5,g6⟩
   exact⟨c,g1,g2,g3,p',d,aM,us,fun u hu j hj=>bZ hf.size (g4 u hu j hj),g5,g6⟩
 · rintro⟨ms,a,r,g1,g2,p',aM,us,g3,g4,g5,g6⟩
   exact⟨ms,a,r,g1,g2,p',aM,us,g3,g4,fun u hu j hj=>bZ hf.size (g5 u hu j hj),g6⟩
theorem cB.leaf {sl:Nat}{res:dW}{w w':World}{b:Nat}{tv:Value}{ts:List af}{deep p':Nat}{vs:List aB}{aM:Value}{n:Nd}{a:Nat}{r:List af}(hr:res = .ok ([n],a,r))(hf:Fr w w' b)(hp:ts.drop p'=r)(h:aX w' b tv ts p' (deep:Int) 0 aM (vs++[aB.leaf n]))(hc:vs.length+1≤p'):cB sl res w b tv ts deep vs (.returned (.int .i64 (a:Int))) w' :=
 ⟨hf,.inr ⟨[n],a,r,hr,rfl,p',aM,[aB.leaf n],hp,rfl,(by intro u hu g hg;rw[List.mem_singleton.1 hu]at hg;cases hg),h,by rw[aj];exact hc⟩⟩
theorem cB.err {sl:Nat}{res:dW}{w w':World}{b:Nat}{tv:Value}{ts:List af}{deep p':Nat}{d:Int}{vs:List aB}{aM:Value}{c x:Int}(hr:res = .error c)(hc:c=5∨c=6)(hf:Fr w w' b)(h:aX w' b tv ts p' d c aM vs)(hs:vs.length+sl≤ts.length+100)(hd:(sl:Int)≤d+100∧d≤100):cB sl res w b tv ts deep vs (.returned (.int .i64 x)) w' :=
 ⟨hf,.inl ⟨c,hr,hc,⟨x,rfl⟩,p',d,aM,[],(fun u hu=>absurd hu (by simp)),by rw[fu];exact h,by rw[fu];exact hs,hd⟩⟩
theorem cB.bad {sl:Nat}{res:dW}{w w':World}{b:Nat}{tv:Value}{ts:List af}{deep:Nat}{vs:List aB}{e:Ending}{c:Int}(h:cB sl res w b tv ts deep vs e w')(hr:res = .error c) :
 Fr w w' b∧(c=5∨c=6)∧∃x:Int,e = .returned (.int .i64 x)∧∃p' d aM us,(∀u∈us,∀g,u.bf.ownBlock=some g→w.heap.size≤g)∧aX w' b tv ts p' d c aM (vs++us)∧(vs++us).length+sl≤ts.length+100∧(sl:Int)≤d+100∧d≤100:=by
 rcases h.2 with ⟨c',h1,h2,⟨x,h3⟩,h4⟩|⟨ms,a,r,h1,_⟩
 · rw[hr]at h1;injection h1 with h1;subst h1;exact⟨h.1,h2,x,h3,h4⟩
 · rw[hr]at h1;cases h1
theorem cB.good {sl:Nat}{res:dW}{w w':World}{b:Nat}{tv:Value}{ts:List af}{deep:Nat}{vs:List aB}{e:Ending}{ms:List Nd}{a:Nat}{r:List af}(h:cB sl res w b tv ts deep vs e w')(hr:res = .ok (ms,a,r)) :
 Fr w w' b∧e = .returned (.int .i64 ((a:Nat):Int))∧∃p' aM us,ts.drop p'=r∧us.map aB.n=ms∧(∀u∈us,∀g,u.bf.ownBlock=some g→w.heap.size≤g)∧aX w' b tv ts p' (deep:Int) 0 aM (vs++us)∧(vs++us).length≤p':=by
 rcases h.2 with ⟨c',h1,h2,h3⟩|⟨ms',a',r',h1,h2,h3⟩
 · rw[hr]at h1;cases h1
 · rw[hr]at h1;injection h1 with h1;injection h1 with e1 e2;injection e2 with e2 e3;subst e1;subst e2;subst e3;exact⟨h.1,h2,h3⟩
def BD (f:Nat):Prop:=∀(n deep:Nat)(res:dW)(w:World)(b:Nat)(tv:Value)(ts:List af)(p:Nat)(nv:Value)(vs:List aB),n≤4→deep≤12→aX w b tv ts p (deep:Int) 0 nv vs→vs.length≤p→eF f n deep vs.length (ts.drop p)=some res →
 Calls Tryz.prog 99 #[.pointer (some ⟨b,0,none⟩),.int .i64 (n:Int)] w (cB (n+6*deep) res w b tv ts deep vs)
theorem ace {w:World}{b:Nat}{tv:Value}{ts:List af}{p deep:Nat}{nv:Value}{vs:List aB}(h:aX w b tv ts p (deep:Int) 0 nv vs)(hcnt:vs.length≤p)(mo:deep≤12)(t:af)(hnx:p+1<ts.length) :
 Calls Tryz.prog 198 #[.pointer (some ⟨b,0,none⟩),.agg #[.string t.sh,.int .i64 t.c,.int .i64 t.r,.bool t.ac,.bool t.ar]] w (cB (5+6*deep) (iP vs.length t (ts.drop (p+1))) w b tv ts deep vs):=by
 have hal:Below w.heap.size w (w.alloc (.cells #[.string t.sh,.int .i64 t.c,.int .i64 t.r,.bool t.ac,.bool t.ar] 45)):=(ai _ _).alloc (ag _) _;have bJ:=aa (h.below hal);have hx:=bV.new w t.sh t.c t.r t.ac t.ar;have h2:=h.few;have hlt:=h.lt;have hbl:=h.blt;have aR:=aa hal;clear h hal;go_enter Tryz.func198,Tryz.ntmps198;go_upto_region 1 with (fail)
 generalize w.alloc (.cells #[.string t.sh,.int .i64 t.c,.int .i64 t.r,.bool t.ac,.bool t.ar] 45)=w1 at bJ aR hx ⊢;obtain⟨c0,c1,c2,c3,c4⟩:=bJ.o.facts;have f1:=bJ.o.frozen 1;clear c0 c2 c3 c4;go_upto_region 2 with (fail)
 have eY:=aa (bJ.o.next hnx);have cz:=aa (hx.set (show w.heap.size≠b by omega) 1 (.int .i64 ((p:Int)+1)));have bI:=aa ((Fr.of b aR.o).setCell 1 (.int .i64 ((p:Int)+1)));clear c1 f1 hx bJ aR;generalize w1.setCell ⟨b,1,none⟩ (.int .i64 ((p:Int)+1))=w2 at eY cz bI ⊢;have HT:=aa (vZ eY.o ⟨#[58]⟩);rw[decide_eq_true rfl,Bool.true_and]at HT;have hw0:w.heap.size≠b:=by omega
 cases hq:au ⟨#[58]⟩ (ts.drop (p+1))
 · rw[hq]at HT
   have HR:=aa (show iP vs.length t (ts.drop (p+1)) = .ok ([{ Nd.zero with kind:=5,ref:=t.dw }],vs.length,ts.drop (p+1))by unfold iP;rw[hq,if_neg (by decide)]);clear hq;go_upto_region 3 with (go_at_call 136;((with_reducible refine HT.o.mono ?_);rintro e w3 ⟨rfl,h1⟩;have dF:=aa (bI.o.below h1);have dV:=aa (cz.o.below h1 cz.o.lt);have bW:=aa (eY.o.below h1);clear h1))
   obtain⟨x0,x1,x2,x3,x4⟩:=dV.o.facts;have HA:=aa (show Calls Tryz.prog 137 #[.pointer (some ⟨b,0,none⟩),.agg #[.int .i64 5,.int .i64 0,.string ⟨#[]⟩,.string t.sh,.int .i64 t.c,.int .i64 t.r,.bool t.ac,.bool t.ar,.string ⟨#[]⟩,.int .i64 0,.int .i64 0,.bool false,.bool false,.slice none 0 0]] w3 _ from nW bW.o (aB.leaf { Nd.zero with kind:=5,ref:=t.dw }) (vQ _ _ _ rfl) (by omega) (.slice none 0 0) rfl { Nd.zero with kind:=5,ref:=t.dw } rfl);go_wp2_with (go_at_call 137;((with_reducible refine HA.o.mono ?_);rintro e w4 ⟨h1,rfl,aM,h3⟩;have dL:=aa (dF.o.trans h1);have dP:=aa h3;clear h1 h3))
   go_ret;exact cB.leaf HR.o dL.o rfl dP.o (by omega)
 · have hnx2:=xw eY.o hq
   obtain⟨u,hu⟩:∃u,ts[p+2]? = some u:=⟨_,bn hnx2⟩
   have hd:(ts.drop (p+1)).tail=u :: ts.drop (p+3):=by
    rw[List.tail_drop,List.drop_eq_getElem_cons hnx2];rw[bn hnx2]at hu;rw[dX hu]
   have hR:iP vs.length t (ts.drop (p+1))=if u.kind=4∧fP t.dw u.dw=true then .ok ([(⟨6,0,⟨#[]⟩,t.dw,u.dw,[]⟩:Nd)],vs.length,ts.drop (p+3))else .error 5:=by
    unfold iP;rw[hq,if_pos rfl,hd] <;> rfl
   rw[hq]at HT;clear hq hd;go_upto_region 4 with (go_at_call 136;((with_reducible refine HT.o.mono ?_);rintro e w3 ⟨rfl,h1⟩;have dF:=aa (bI.o.below h1);have dV:=aa (cz.o.below h1 cz.o.lt);have bW:=aa (eY.o.below h1);clear h1))
   obtain⟨c0,c1,c2,c3,c4⟩:=bW.o.facts;have f1:=bW.o.frozen 1;clear c0 c2 c3 c4;go_upto_region 5 with (fail)
   have dP:=aa (bW.o.next hnx2);have mR:=aa (dV.o.set hw0 1 (.int .i64 (((p+1:Nat):Int)+1)));have dL:=aa (dF.o.setCell 1 (.int .i64 (((p+1:Nat):Int)+1)));clear c1 f1 bW dV dF HT bI cz eY;rw[show((p+1:Nat):Int)=(p:Int)+1 from rfl]at dP mR dL;generalize w3.setCell ⟨b,1,none⟩ (.int .i64 ((p:Int)+1+1))=w4 at dP mR dL ⊢;obtain⟨c0,c1,c2,c3,c4⟩:=dP.o.facts;obtain⟨g,cap,u',rfl,hu', -,hg,k0,k1,k2,k3,k4,k5,k6,k7,k8⟩:=dP.o.tok;have hu':ts[p+2]? = some u':=hu';rw[hu]at hu';injection hu' with hu';subst hu';have j6:Below w4.heap.size w4 (w4.alloc (.cells jk 154)):=(ai _ _).alloc (ag _) _;obtain⟨a0,a1, -, -, -⟩:=(dP.o.below j6).facts;have hgb:g<w4.heap.size:=by have:=dP.o.blt;omega
   have j0:=(j6.cell (p:=⟨g,(p+1+1)*9,none⟩) hgb).trans k0;have j1:=(j6.cell (p:=⟨g,(p+1+1)*9+1,none⟩) hgb).trans k1;have j2:=(j6.cell (p:=⟨g,(p+1+1)*9+2,none⟩) hgb).trans k2;have tO:=(j6.cell (p:=⟨g,(p+1+1)*9+3,none⟩) hgb).trans k3;have Aa:=(j6.cell (p:=⟨g,(p+1+1)*9+4,none⟩) hgb).trans k4;have Ab:=(j6.cell (p:=⟨g,(p+1+1)*9+5,none⟩) hgb).trans k5;have Ac:=(j6.cell (p:=⟨g,(p+1+1)*9+6,none⟩) hgb).trans k6;have j7:=(j6.cell (p:=⟨g,(p+1+1)*9+7,none⟩) hgb).trans k7;have j8:=(j6.cell (p:=⟨g,(p+1+1)*9+8,none⟩) hgb).trans k8;have bu:=aC.zero w4;obtain⟨x0,x1,x2,x3,x4,x5,x6,x7,az⟩:=bu.cells;obtain⟨f0,f1,f2,f3,f4,f5,f6,f7,f8⟩:=bu.bK;clear bu j6;obtain⟨q,hq⟩:∃q,p+1+1=q:=⟨_,rfl⟩;rw[hq]at c1 k0 k1 k2 k3 k4 k5 k6 k7 k8 a1 j0 j1 j2 tO Aa Ab Ac j7 j8;have hi1:(0:Int)≤(q:Int):=by omega
   have hi2:(q:Int)<(ts.length:Int):=by omega
   clear c2 c3 c4 hq
   go_region
   have hB:Below w4.heap.size w4 (w4.alloc (.cells #[.int .i64 u.kind,.string u.text,.int .i64 u.num,.string u.sh,.int .i64 u.c,.int .i64 u.r,.bool u.ac,.bool u.ar,.int .i64 u.pos] 154)).drew:=((ai _ _).alloc (ag _) _).drew;have gu:aC (w4.alloc (.cells #[.int .i64 u.kind,.string u.text,.int .i64 u.num,.string u.sh,.int .i64 u.c,.int .i64 u.r,.bool u.ac,.bool u.ar,.int .i64 u.pos] 154)).drew w4.heap.size u:=(aC.new w4 u).drew;have aL:=aa (dL.o.below hB);have lN:=aa (mR.o.below hB mR.o.lt);have bq:=aa (dP.o.below hB);clear hB mR dP dL c0 c1 a0 a1 j0 j1 j2 tO Aa Ab Ac j7 j8 k0 k1 k2 k3 k4 k5 k6 k7 k8 x0 x1 x2 x3 x4 x5 x6 x7 az f0 f1 f2 f3 f4 f5 f6 f7 f8 hgb;generalize hb4:w4.heap.size=b4 at gu ⊢;generalize (w4.alloc (.cells #[.int .i64 u.kind,.string u.text,.int .i64 u.num,.string u.sh,.int .i64 u.c,.int .i64 u.r,.bool u.ac,.bool u.ar,.int .i64 u.pos] 154)).drew=w5 at gu aL lN bq ⊢;clear hb4;obtain⟨x0,x1,x2,x3,x4,x5,x6,x7,az⟩:=gu.cells;obtain⟨y0,y1,y2,y3,y4⟩:=lN.o.facts;have hcs:vs.length+(5+6*deep)≤ts.length+100:=by omega
   by_cases h4:u.kind=4
   · have e4:(u.kind != 4)=false:=by rw[h4];rfl
     have e5:(u.kind == 4)=true:=beq_iff_eq.2 h4;have HI:=aa (Qm t.sh u.sh t.c t.r u.c u.r t.ac t.ar u.ac u.ar w5);cases hs:fP t.dw u.dw
     · have HR:=aa (show iP vs.length t (ts.drop (p+1)) = .error 5 by rw[hR,hs,if_neg (by simp)])
       have HS:=aa (show fP ⟨t.sh,t.c,t.r,t.ac,t.ar⟩ ⟨u.sh,u.c,u.r,u.ac,u.ar⟩=false from hs);rw[HS.o]at HI;clear hR hs h4
       go_wp2_with (first
        | (go_at_call 124;((with_reducible refine HI.o.mono ?_);rintro e w6 ⟨rfl,h1⟩;have cK:=aa (aL.o.below h1);have qV:=aa (zb (bq.o.below h1) 5);clear h1))
        | (go_at_call 100;((with_reducible refine qV.o.mono ?_);rintro e w7 ⟨rfl,h1,h2⟩;have bP:=aa (cK.o.trans h1);have bB:=aa h2;clear h1 h2)))
       go_ret;exact cB.err HR.o (.inl rfl) bP.o (by have:=bB.o;unfold sF at this;rw[if_pos rfl]at this;exact this) hcs (by omega)
     · have HR:=aa (show iP vs.length t (ts.drop (p+1)) = .ok ([(⟨6,0,⟨#[]⟩,t.dw,u.dw,[]⟩:Nd)],vs.length,ts.drop (p+3))by rw[hR,hs,if_pos ⟨h4,rfl⟩])
       have HS:=aa (show fP ⟨t.sh,t.c,t.r,t.ac,t.ar⟩ ⟨u.sh,u.c,u.r,u.ac,u.ar⟩=true from hs);rw[HS.o]at HI;have dB:=aa (show p+1+1+1<ts.length from bq.o.fit.next hu (by omega));have gu:=aa gu;clear hR hs h4;go_upto_region 9 with (go_at_call 124;((with_reducible refine HI.o.mono ?_);rintro e w6 ⟨rfl,h1⟩;have cK:=aa (aL.o.below h1);have bM:=aa (bq.o.below h1);have Dz:=aa (lN.o.below h1 lN.o.lt);have Br:=aa (gu.o.below h1 gu.o.lt);clear h1))
       clear x0 x1 x2 x3 x4 x5 x6 x7 az y0 y1 y2 y3 y4 bq lN gu aL;obtain⟨c0,c1,c2,c3,c4⟩:=bM.o.facts;have f1:=bM.o.frozen 1;clear c0 c2 c3 c4;rw[show((p+1+1:Nat):Int)=(p:Int)+1+1 from rfl]at c1;go_upto_region 10 with (fail)
       have ql:=aa (show b4≠b from by
        intro e;have h1:=Br.o;unfold aC at h1;rw[e,bM.o.cell]at h1;injection h1 with h1;injection h1 with _ h1;exact absurd h1 (by decide))
       have bB:=aa (bM.o.next dB.o);have GR:=aa (Dz.o.set hw0 1 (.int .i64 (((p+1+1:Nat):Int)+1)));have Gc:=aa (show aC (w6.setCell ⟨b,1,none⟩ (.int .i64 (((p+1+1:Nat):Int)+1))) b4 u from by unfold aC;rw[gZ _ _ _ _ (by exact ql.o)];exact Br.o);have bP:=aa (cK.o.setCell 1 (.int .i64 (((p+1+1:Nat):Int)+1)));clear c1 f1 bM Dz Br cK;rw[show((p+1+1:Nat):Int)=(p:Int)+1+1 from rfl]at bB GR Gc bP;generalize w6.setCell ⟨b,1,none⟩ (.int .i64 ((p:Int)+1+1+1))=w7 at bB GR Gc bP ⊢;obtain⟨x0,x1,x2,x3,x4,x5,x6,x7,az⟩:=Gc.o.cells;obtain⟨y0,y1,y2,y3,y4⟩:=GR.o.facts;have HA:=aa (show Calls Tryz.prog 137 #[.pointer (some ⟨b,0,none⟩),.agg #[.int .i64 6,.int .i64 0,.string ⟨#[]⟩,.string t.sh,.int .i64 t.c,.int .i64 t.r,.bool t.ac,.bool t.ar,.string u.sh,.int .i64 u.c,.int .i64 u.r,.bool u.ac,.bool u.ar,.slice none 0 0]] w7 _ from nW bB.o (aB.leaf (⟨6,0,⟨#[]⟩,t.dw,u.dw,[]⟩:Nd)) (vQ _ _ _ rfl) (by omega) (.slice none 0 0) rfl (⟨6,0,⟨#[]⟩,t.dw,u.dw,[]⟩:Nd) rfl);go_wp2_with (go_at_call 137;((with_reducible refine HA.o.mono ?_);rintro e w8 ⟨h1,rfl,aM,h3⟩;have lJ:=aa (bP.o.trans h1);have kW:=aa h3;clear h1 h3))
       go_ret;exact cB.leaf HR.o lJ.o rfl kW.o (by omega)
   · have e4:(u.kind != 4)=true:=by rw[bne_iff_ne];exact h4
     have e5:(u.kind == 4)=false:=beq_eq_false_iff_ne.2 h4;have HR:=aa (show iP vs.length t (ts.drop (p+1)) = .error 5 by rw[hR,if_neg (fun h=>h4 h.1)]);have qV:=aa (zb bq.o 5);clear hR h4;go_wp2_with (go_at_call 100;((with_reducible refine qV.o.mono ?_);rintro e w7 ⟨rfl,h1,h2⟩;have bP:=aa (aL.o.trans h1);have bB:=aa h2;clear h1 h2))
     go_ret;exact cB.err HR.o (.inl rfl) bP.o (by have:=bB.o;unfold sF at this;rw[if_pos rfl]at this;exact this) hcs (by omega)
theorem cB.errs {sl:Nat}{res:dW}{w w':World}{b:Nat}{tv:Value}{ts:List af}{deep p':Nat}{d:Int}{vs us:List aB}{aM:Value}{c x:Int}(hr:res = .error c)(hc:c=5∨c=6)(hf:Fr w w' b)
 (hu:∀u∈us,∀g,u.bf.ownBlock=some g→w.heap.size≤g) (h:aX w' b tv ts p' d c aM (vs++us)) (hs:(vs++us).length+sl≤ts.length+100) (hd:(sl:Int)≤d+100∧d≤100):cB sl res w b tv ts deep vs (.returned (.int .i64 x)) w' :=
 ⟨hf,.inl ⟨c,hr,hc,⟨x,rfl⟩,p',d,aM,us,hu,h,hs,hd⟩⟩
theorem ab3 (f:Nat)(IH:∀g,g≤f→BD g)(name:ByteArray){w:World}{b:Nat}{tv:Value}{ts:List af}{p deep:Nat}{nv:Value}{vs:List aB}(h:aX w b tv ts p (deep:Int) 0 nv vs)(hcnt:vs.length≤p)(mo:deep≤12)(hnx:p+1<ts.length)(res:dW)(hres:FD f deep vs.length name (ts.drop (p+1))=some res) :
 Calls Tryz.prog 199 #[.pointer (some ⟨b,0,none⟩),.string name] w (cB (5+6*deep) res w b tv ts deep vs):=by
 unfold FD at hres;have q1:=xN name ⟨#[84,82,85,69]⟩;have q2:=xN name ⟨#[70,65,76,83,69]⟩;rw[EA]at q1;rw[Ez]at q2;have jD:=h.few;have hlt:=h.lt;have hbl:=h.blt;obtain⟨c0,c1,c2,c3,c4⟩:=h.facts;have f1:=h.frozen 1;have bJ:=aa (h.next hnx);have jy:=aa ((Fr.refl w b).setCell 1 (.int .i64 ((p:Int)+1)));have hcs:vs.length+(5+6*deep)≤ts.length+100:=by omega
 clear c0 c2 c3 c4 h;go_enter Tryz.func199,Tryz.ntmps199;go_upto_region 2 with (fail)
 generalize w.setCell ⟨b,1,none⟩ (.int .i64 ((p:Int)+1))=w1 at bJ jy ⊢;clear c1 f1;by_cases h1:name=⟨#[84,82,85,69]⟩
 · rw[decide_eq_true h1]at q1
   rw[if_pos h1]at hres;injection hres with hres;have HR:=aa hres.symm;have HA:=aa (show Calls Tryz.prog 137 #[.pointer (some ⟨b,0,none⟩),.agg #[.int .i64 3,.int .i64 1,.string ⟨#[]⟩,.string ⟨#[]⟩,.int .i64 0,.int .i64 0,.bool false,.bool false,.string ⟨#[]⟩,.int .i64 0,.int .i64 0,.bool false,.bool false,.slice none 0 0]] w1 _ from nW bJ.o (aB.leaf { Nd.zero with kind:=3,num:=1 }) (vQ _ _ _ rfl) (by omega) (.slice none 0 0) rfl { Nd.zero with kind:=3,num:=1 } rfl);clear hres h1 q2;go_wp2_with (go_at_call 137;((with_reducible refine HA.o.mono ?_);rintro e w7 ⟨h1,rfl,aM,h3⟩;have bP:=aa (jy.o.trans h1);have bB:=aa h3;clear h1 h3))
   go_ret;exact cB.leaf HR.o bP.o rfl bB.o (by omega)
 rw[decide_eq_false h1]at q1;rw[if_neg h1]at hres;by_cases h2:name=⟨#[70,65,76,83,69]⟩
 · rw[decide_eq_true h2]at q2
   rw[if_pos h2]at hres;injection hres with hres;have HR:=aa hres.symm;have HA:=aa (show Calls Tryz.prog 137 #[.pointer (some ⟨b,0,none⟩),.agg #[.int .i64 3,.int .i64 0,.string ⟨#[]⟩,.string ⟨#[]⟩,.int .i64 0,.int .i64 0,.bool false,.bool false,.string ⟨#[]⟩,.int .i64 0,.int .i64 0,.bool false,.bool false,.slice none 0 0]] w1 _ from nW bJ.o (aB.leaf { Nd.zero with kind:=3 }) (vQ _ _ _ rfl) (by omega) (.slice none 0 0) rfl { Nd.zero with kind:=3 } rfl);clear hres h1 h2;go_wp2_with (go_at_call 137;((with_reducible refine HA.o.mono ?_);rintro e w7 ⟨h1,rfl,aM,h3⟩;have bP:=aa (jy.o.trans h1);have bB:=aa h3;clear h1 h3))
   go_ret;exact cB.leaf HR.o bP.o rfl bB.o (by omega)
 rw[decide_eq_false h2]at q2;rw[if_neg h2]at hres;clear h1 h2;have HS:=aa (vZ bJ.o ⟨#[40]⟩);rw[decide_eq_true rfl,Bool.true_and]at HS;cases hs:au ⟨#[40]⟩ (ts.drop (p+1))
 · rw [hs,if_neg (by decide)]at hres
   injection hres with hres;have HR:=aa hres.symm;rw[hs]at HS;clear hres hs
   go_wp2_with (first
    | (go_at_call 136;((with_reducible refine HS.o.mono ?_);rintro e w2 ⟨rfl,h1⟩;have bI:=aa (jy.o.below h1);have qV:=aa (zb (bJ.o.below h1) 5);clear h1))
    | (go_at_call 100;((with_reducible refine qV.o.mono ?_);rintro e w7 ⟨rfl,h1,h2⟩;have bP:=aa (bI.o.trans h1);have bB:=aa h2;clear h1 h2)))
   go_ret;exact cB.err HR.o (.inl rfl) bP.o (aX.Jk bB.o) hcs (by omega)
 have hnx1:=xw bJ.o hs;rw[hs,if_pos rfl]at hres;rw[hs]at HS;clear hs;go_upto_region 9 with (go_at_call 136;((with_reducible refine HS.o.mono ?_);rintro e w2 ⟨rfl,h1⟩;have bI:=aa (jy.o.below h1);have eY:=aa (bJ.o.below h1);clear h1))
 have HO:=aa (ze eY.o mo hnx1);unfold zS at hres;have hz2:=bI.o.size;have afv:=eY.o.blt;have HOW:=aa (show Own (bT .i64) 3 w2 (b+1) (.slice none 0 0) []from Own.nil _ _ _ _);by_cases hd:12≤deep
 · rw [if_pos hd]at hres
   injection hres with hres;have HR:=aa hres.symm;clear hres
   go_upto_region 17 with (first
    | (go_at_call 175;((with_reducible refine HO.o.mono ?_);rintro e w3 ⟨rfl,h1,h2⟩;rcases h2 with ⟨-,h2⟩|⟨h2, -⟩;rotate_left;exact absurd hd h2;have dF:=aa (bI.o.trans h1);have bW:=aa h2;have x9:=aa (Ay h2 ⟨#[41]⟩);obtain⟨c0,c1,c2,c3,c4⟩:=h2.facts;clear c0 c1 c2 c4 h1 h2))
    | (go_at_call 197;((with_reducible refine x9.o.mono ?_);rintro e w4 ⟨rfl,h1,h2⟩;have dL:=aa (dF.o.trans h1);have dP:=aa (show aX w4 b tv ts (p+1) (deep:Int) 6 nv vs from(by rcases h2 with ⟨_,h2⟩|⟨h2,_⟩|⟨h2,_⟩;exact h2;exact absurd h2 (by decide);exact absurd h2 (by decide)));clear h1 h2)))
   have jA:=aa (show(⟨{ Nd.zero with kind:=7,text:=name,kids:=[] },none⟩:aB).n={ Nd.zero with kind:=7,text:=name,kids:=[] }from rfl);have lM:=aa (show(⟨{ Nd.zero with kind:=7,text:=name,kids:=[] },none⟩:aB).bf = .slice none 0 0 from rfl);obtain⟨c0,c1,c2,c3,c4⟩:=dP.o.facts;have f2:=dP.o.frozen 2;clear c0 c1 c3 c4;have hd1 : -9223372036854775808≤(deep:Int) - 1:=by omega
   have hd2:(deep:Int) - 1≤9223372036854775807:=by omega
   go_upto_region 18 with (fail)
   have o5:=aa (dP.o.oO ((deep:Int) - 1));have oV:=aa (dL.o.setCell 2 (.int .i64 ((deep:Int) - 1)));have oW:=aa (show Own (bT .i64) 3 (w4.setCell ⟨b,2,none⟩ (.int .i64 ((deep:Int) - 1))) (b+1) (.slice none 0 0) []from(show Own (bT .i64) 3 w4 (b+1) (.slice none 0 0) []from Own.nil _ _ _ _).keep fun j hj _ _=>gZ _ _ _ _ (by show j≠b;omega));generalize w4.setCell ⟨b,2,none⟩ (.int .i64 ((deep:Int) - 1))=kP at o5 oV oW ⊢;clear c2 f2;have HA:=aa (show Calls Tryz.prog 137 #[.pointer (some ⟨b,0,none⟩),.agg #[.int .i64 7,.int .i64 0,.string name,.string ⟨#[]⟩,.int .i64 0,.int .i64 0,.bool false,.bool false,.string ⟨#[]⟩,.int .i64 0,.int .i64 0,.bool false,.bool false,(.slice none 0 0)]] kP _ from nW o5.o ⟨{ Nd.zero with kind:=7,text:=name,kids:=[] },none⟩ (by rw[lM.o,jA.o];exact oW.o) (by omega) _ lM.o { Nd.zero with kind:=7,text:=name,kids:=[] } jA.o);go_wp2_with (go_at_call 137;((with_reducible refine HA.o.mono ?_);rintro e w8 ⟨h1,rfl,xn,h3⟩;have lJ:=aa (oV.o.trans h1);have kW:=aa h3;clear h1 h3))
   go_ret;refine cB.errs (us:=[⟨{ Nd.zero with kind:=7,text:=name,kids:=[] },none⟩]) HR.o (.inr rfl) lJ.o ?_ kW.o (by simp;omega) (by omega);intro u hu g hg;rw[List.mem_singleton.1 hu]at hg;cases hg
 · rw [if_neg hd,List.tail_drop]at hres
   have si:=aa hres;have qh:=aa IH;obtain⟨eb,lh,dA⟩:=Elem.kid;have kS:=aa dA;have hdp:deep+1≤12:=by omega
   clear hres IH dA;go_upto_region 10 with (go_at_call 175;((with_reducible refine HO.o.mono ?_);rintro e w3 ⟨rfl,h1,h2⟩;rcases h2 with ⟨h2, -⟩|⟨-,h2⟩;exact absurd h2 hd;have dF:=aa (bI.o.trans h1);have bW:=aa h2;clear h1 h2))
   have HIS:=aa (vZ bW.o ⟨#[41]⟩);rw[decide_eq_true rfl,Bool.true_and]at HIS;obtain⟨c0,c1,c2,c3,c4⟩:=bW.o.facts;clear c0 c1 c2 c4 HO eY HOW HS;have hz3:=dF.o.size;have afw:=bW.o.blt;cases hs:au ⟨#[41]⟩ (ts.drop (p+1+1))
   rotate_left
   · have hr:=si.o
     rw[hs,if_pos rfl]at hr;have hr:rf vs.length name [] [] (ts.drop (p+1+1))=some res:=hr;unfold rf at hr;rw[hs,if_pos rfl,List.tail_drop]at hr;injection hr with hr;have HR:=aa hr.symm;have hnx2:=xw bW.o hs;rw[hs]at HIS;have Tp:=aa hs;clear hr hs
     go_upto_region 17 with (first
      | (go_at_call 136;((with_reducible refine HIS.o.mono ?_);rintro e w4 ⟨rfl,h1⟩;have dL:=aa (dF.o.below h1);have x9:=aa (Ay (bW.o.below h1) ⟨#[41]⟩);clear h1))
      | (go_at_call 197;((with_reducible refine x9.o.mono ?_);rintro e w5 ⟨rfl,h1,h2⟩;have aL:=aa (dL.o.trans h1);have bq:=aa (show aX w5 b tv ts (p+1+1+1) ((deep+1:Nat):Int) 0 nv vs from(by rcases h2 with ⟨h2,_⟩|⟨_,_,h2⟩|⟨_,h2,_⟩;exact absurd rfl h2;exact h2;rw[Tp.o]at h2;cases h2));clear h1 h2)))
     rw[show((deep+1:Nat):Int)=(deep:Int)+1 from rfl]at bq;have jA:=aa (show(⟨{ Nd.zero with kind:=7,text:=name,kids:=[] },none⟩:aB).n={ Nd.zero with kind:=7,text:=name,kids:=[] }from rfl);have lM:=aa (show(⟨{ Nd.zero with kind:=7,text:=name,kids:=[] },none⟩:aB).bf = .slice none 0 0 from rfl);obtain⟨c0,c1,c2,c3,c4⟩:=bq.o.facts;have f2:=bq.o.frozen 2;clear c0 c1 c3 c4;have hd1 : -9223372036854775808≤(deep:Int)+1 - 1:=by omega
     have hd2:(deep:Int)+1 - 1≤9223372036854775807:=by omega
     go_upto_region 18 with (fail)
     have o5:=aa (bq.o.oO ((deep:Int)));have oV:=aa (aL.o.setCell 2 (.int .i64 ((deep:Int))));have oW:=aa (show Own (bT .i64) 3 (w5.setCell ⟨b,2,none⟩ (.int .i64 ((deep:Int)))) (b+1) (.slice none 0 0) []from(show Own (bT .i64) 3 w5 (b+1) (.slice none 0 0) []from Own.nil _ _ _ _).keep fun j hj _ _=>gZ _ _ _ _ (by show j≠b;omega));generalize w5.setCell ⟨b,2,none⟩ (.int .i64 ((deep:Int)))=kP at o5 oV oW ⊢;clear c2 f2;have HA:=aa (show Calls Tryz.prog 137 #[.pointer (some ⟨b,0,none⟩),.agg #[.int .i64 7,.int .i64 0,.string name,.string ⟨#[]⟩,.int .i64 0,.int .i64 0,.bool false,.bool false,.string ⟨#[]⟩,.int .i64 0,.int .i64 0,.bool false,.bool false,(.slice none 0 0)]] kP _ from nW o5.o ⟨{ Nd.zero with kind:=7,text:=name,kids:=[] },none⟩ (by rw[lM.o,jA.o];exact oW.o) (by omega) _ lM.o { Nd.zero with kind:=7,text:=name,kids:=[] } jA.o);go_wp2_with (go_at_call 137;((with_reducible refine HA.o.mono ?_);rintro e w8 ⟨h1,rfl,xn,h3⟩;have lJ:=aa (oV.o.trans h1);have kW:=aa h3;clear h1 h3))
     go_ret;refine⟨lJ.o,.inr ⟨_,_,_,HR.o,rfl,p+1+1+1,xn,[⟨{ Nd.zero with kind:=7,text:=name,kids:=[] },none⟩],rfl,rfl, ?_,kW.o,by simp;omega⟩⟩;intro u hu g hg;rw[List.mem_singleton.1 hu]at hg;cases hg
   have hr:=si.o;rw[hs,if_neg (by decide)]at hr;have gG:=aa hr;rw[hs]at HIS;clear hr hs si;go_upto_region 12 with (go_at_call 136;((with_reducible refine HIS.o.mono ?_);rintro e w4 ⟨rfl,h1⟩;have dL:=aa (dF.o.below h1);have dP:=aa (bW.o.below h1);clear h1))
   clear c3
   go_loopw [5] (fun IW wr=>∃(bf:Value)(g:Nat)(ns:List Nd)(ks:List Int)(p':Nat)(aM:Value)(us:List aB),bf=IW∧g≤f∧ks.length≤us.length∧us.length=ns.length∧vs.length+us.length≤p' ∧
    Hid (il (gy g (deep+1) vs.length ns ks (ts.drop p')) (rf vs.length name)=some res) ∧
    Hid (us.map aB.n=ns)∧Hid (∀u∈us,∀j,u.bf.ownBlock=some j→w.heap.size≤j)∧Hid (∀u∈vs++us,∀j,u.bf.ownBlock=some j→bf.ownBlock≠some j) ∧
    Hid (Own (bT .i64) 3 wr w.heap.size bf ks)∧Hid (aX wr b tv ts p' ((deep+1:Nat):Int) 0 aM (vs++us))∧Hid (Fr w wr b))
    (fun _ wr=>uZ b ts.length wr)
   case atStart =>
    exact⟨.slice none 0 0,f,[],[],p+1+1,nv,[],rfl,ag _,ag _,rfl,by simp;omega,gG,aa rfl,aa (by simp),aa (by intro u _ j _ e;cases e),aa (Own.nil _ _ _ _),by rw[fu];exact dP,dL⟩
   case round =>
    clear HIS gG dF bW dL dP bI;obtain⟨bf,g,ns,ks,p',aM,us,rfl,hg,hkl,yL,hcn,HM,HU,HK,HJ,kH,gP,HF⟩:=hrel;have Xu:=gP.o.lt;have hlen:(vs++us).length=vs.length+us.length:=aj;have Dv:=aa (gP.o.uZ ts.length);have LD:=aa HF.o.size;obtain⟨c0,c1,c2,c3,c4⟩:=gP.o.facts;clear c0 c1 c2 c4;have hA:=HM.o
    match g,hg,hA with
    | 0,_,hA=>unfold gy il at hA;cases hA
    | g+1,hg,hA =>
    rw[sJ,Mi]at hA;have hbase:vs.length+ns.length=(vs++us).length:=by rw[hlen,yL]
    rw[hbase]at hA;rcases dQ hA with ⟨c,h1,rfl⟩|⟨ms,a,r,h1,h2⟩
    · have HL:=aa (show Calls Tryz.prog 99 #[.pointer (some ⟨b,0,none⟩),.int .i64 0] wr (cB (0+6*(deep+1)) (.error c) wr b tv ts (deep+1) (vs++us))from qh.o g (by omega) 0 (deep+1) _ wr b tv ts p' aM (vs++us) (by omega) (by omega) gP.o (by omega) h1)
      clear h1 hA HM
      go_upto_region 14 with (first
       | (go_at_call 99;((with_reducible refine HL.o.mono ?_);intro e w5 ho;obtain⟨hf,hc,x,rfl,p5,d5,ni,dx,hk5,gU,zX,hd5,NA⟩:=ho.bad rfl;have aL:=aa (HF.o.trans hf);have r9:=aa (kH.o.fr hf hbl (by decide));have HC:=aa hc;have bq:=aa gU;have l8:=aa hk5;have o7:=aa hf.size;clear hf hc ho gU hk5))
       | (at_builtin;refine AP kS.o (bT .i64) rfl (.tmp 45) (.tmp 48) rfl w.heap.size bf ks rfl (r9.o.alloc _) ⟨w5.heap.size,0,none⟩ 1 1 [x] rfl rfl ?_ ?_ ?_ ?_ ?_;exact fZ _ _ _ rfl;exact bZ (Nat.mul_le_mul_left _ lh) (by omega);(unfold maxLen;omega);(have:=aL.o.size;simp;omega);intro pO w6 h1 h2 h3;have rZ:=aa h1;have rU:=aa h2;have HAT:=aa h3;clear h1 h2 h3))
      have gT:Below w5.heap.size w5 (w5.alloc (.cells #[.int .i64 x] 3)):=(ai _ _).alloc (ag _) _;have sV:=r9.o.alloc (.cells #[.int .i64 x] 3);have hsz5:=aL.o.size
      have uC:=aa (show ∀u∈(vs++us)++dx,∀j,u.bf.ownBlock=some j→bf.ownBlock≠some j from by
       intro u hu j hj;rcases List.mem_append.1 hu with hu|hu
       · exact HJ.o u hu j hj
       · intro e
         have h3:=l8.o u hu j hj;have h4:=(kH.o.jB j e).2.1;omega)
      have bM:=aa ((bq.o.below gT).kids rU.o (by
       intro j e;obtain⟨q1,q2,cur,q3⟩:=sV.jB j e;refine⟨by omega, ?_,fun u hu e2=>uC.o u hu j e2 e⟩;rintro⟨cur',fr,e2⟩;rw[q3]at e2;injection e2 with e2;injection e2 with _ e2;exact absurd e2 (by decide)))
      have cK:=aa ((aL.o.below gT).row rU.o (by
       intro j e;obtain⟨q1,q2,cur,q3⟩:=sV.jB j e;exact⟨by omega,.inl q1⟩))
      have qx:=aa (vZ bM.o ⟨#[44]⟩);rw[decide_eq_false (show ¬ c=0 by rcases HC.o with h|h <;> omega),Bool.false_and]at qx;have GM:=aa (fun w7 (h1:Below w6.heap.size w6 w7)=>Ay (bM.o.below h1) ⟨#[41]⟩);clear gT sV rU HAT uC r9 HF gP HL
      go_upto_region 17 with (first
       | (go_at_call 136;((with_reducible refine qx.o.mono ?_);rintro e w7 ⟨rfl,h1⟩;have bP:=aa (cK.o.below h1);have HW:=aa (GM.o _ h1);have qm:=aa (rZ.o.below h1 (ag _));clear h1))
       | (go_at_call 197;((with_reducible refine HW.o.mono ?_);rintro e gL ⟨rfl,h1,h2⟩;have wE:=aa (bP.o.trans h1);have uF:=aa (qm.o.fr h1 hbl (by decide));have oh:=aa (show aX gL b tv ts p5 d5 c ni ((vs++us)++dx)from(by rcases h2 with ⟨_,h2⟩|⟨h2,_⟩|⟨h2,_⟩;exact h2;(exfalso;rcases HC.o with h|h <;> omega);(exfalso;rcases HC.o with h|h <;> omega)));clear h1 h2)))
      obtain ⟨v,pM,hvk⟩:∃v:aB,v.n={ Nd.zero with kind:=7,text:=name,kids:=ks++[x] }∧v.bf=pO:=by
       rcases uF.o.shape with ⟨rfl,h0⟩|⟨g1,cap,rfl,_⟩
       · exact absurd h0 (by simp)
       · exact⟨⟨_,some (g1,cap)⟩,rfl,rfl⟩
      have jA:=aa pM;have lM:=aa hvk;clear pM hvk;obtain⟨g1,fe,tu, -, -, -, -⟩:=Own.some uF.o (by simp);obtain⟨n1,hn1⟩:∃n1,(ks++[x]).length=n1:=⟨_,rfl⟩;rw[hn1]at tu;subst tu
      have hnew:∀u∈us++(dx++[v]),∀j,u.bf.ownBlock=some j→w.heap.size≤j:=by
       intro u hu j hj;rcases List.mem_append.1 hu with hu|hu
       · exact HK.o u hu j hj
       · rcases List.mem_append.1 hu with hu|hu
         · exact bZ LD.o (l8.o u hu j hj)
         · rw[List.mem_singleton.1 hu,lM.o]at hj
           exact(uF.o.jB j hj).1
      have Du:=aa hnew;clear hnew hn1;obtain⟨c0,c1,c2,c3,c4⟩:=oh.o.facts;have f2:=oh.o.frozen 2;clear c0 c1 c3 c4;have hd1 : -9223372036854775808≤d5 - 1:=by omega
      have hd2:d5 - 1≤9223372036854775807:=by omega
      go_upto_region 18 with (fail)
      have o5:=aa (oh.o.oO (d5 - 1));have oV:=aa (wE.o.setCell 2 (.int .i64 (d5 - 1)));have oW:=aa (show Own (bT .i64) 3 (gL.setCell ⟨b,2,none⟩ (.int .i64 (d5 - 1))) (b+1) (.slice (some ⟨g1,0,none⟩) n1 fe) (ks++[x])from(uF.o.mono (show b+1≤w.heap.size by omega)).keep fun j hj _ _=>gZ _ _ _ _ (by show j≠b;omega));generalize gL.setCell ⟨b,2,none⟩ (.int .i64 (d5 - 1))=kP at o5 oV oW ⊢;clear c2 f2;have HA:=aa (show Calls Tryz.prog 137 #[.pointer (some ⟨b,0,none⟩),.agg #[.int .i64 7,.int .i64 0,.string name,.string ⟨#[]⟩,.int .i64 0,.int .i64 0,.bool false,.bool false,.string ⟨#[]⟩,.int .i64 0,.int .i64 0,.bool false,.bool false,(.slice (some ⟨g1,0,none⟩) n1 fe)]] kP _ from nW o5.o v (by rw[lM.o,jA.o];exact oW.o) (by omega) _ lM.o { Nd.zero with kind:=7,text:=name,kids:=(ks++[x]) } jA.o);go_wp2_with (go_at_call 137;((with_reducible refine HA.o.mono ?_);rintro e w8 ⟨h1,rfl,xn,h3⟩;have lJ:=aa (oV.o.trans h1);have kW:=aa h3;clear h1 h3))
      go_ret;refine cB.errs (us:=us++(dx++[v])) rfl HC.o lJ.o Du.o (by rw[← bO, ← bO];exact kW.o) (by simp only[aj,fq]at zX ⊢;omega) (by omega)
    · have HL:=aa (show Calls Tryz.prog 99 #[.pointer (some ⟨b,0,none⟩),.int .i64 0] wr (cB (0+6*(deep+1)) (.ok (ms,a,r)) wr b tv ts (deep+1) (vs++us))from qh.o g (by omega) 0 (deep+1) _ wr b tv ts p' aM (vs++us) (by omega) (by omega) gP.o (by omega) h1)
      have H1:=aa h1;have H2:=aa h2;clear h1 h2 hA HM
      go_upto_region 14 with (first
       | (go_at_call 99;((with_reducible refine HL.o.mono ?_);intro e w5 ho;obtain⟨hf,rfl,p5,ni,dx,kg,kr,hk5,gU,zX⟩:=ho.good rfl;have aL:=aa (HF.o.trans hf);have r9:=aa (kH.o.fr hf hbl (by decide));have bq:=aa gU;have HD5:=aa kg;have jK:=aa kr;have l8:=aa hk5;clear hf ho gU hk5 kg kr))
       | (at_builtin;refine AP kS.o (bT .i64) rfl (.tmp 45) (.tmp 48) rfl w.heap.size bf ks rfl (r9.o.alloc _) ⟨w5.heap.size,0,none⟩ 1 1 [((a:Nat):Int)] rfl rfl ?_ ?_ ?_ ?_ ?_;exact fZ _ _ _ rfl;exact bZ (Nat.mul_le_mul_left _ lh) (by omega);(unfold maxLen;omega);(have:=aL.o.size;simp;omega);intro pO w6 h1 h2 h3;have rZ:=aa h1;have rU:=aa h2;have HAT:=aa h3;clear h1 h2 h3))
      have gT:Below w5.heap.size w5 (w5.alloc (.cells #[.int .i64 ((a:Nat):Int)] 3)):=(ai _ _).alloc (ag _) _;have sV:=r9.o.alloc (.cells #[.int .i64 ((a:Nat):Int)] 3);have hsz5:=aL.o.size;have El:dx.length=ms.length:=by rw[← jK.o,dN]
      obtain⟨hc1,hc2,hc3⟩:=wZ H1.o HD5.o bq.o.lt;have Ef:((vs++us)++dx).length=vs.length+us.length+dx.length:=by rw[aj,aj]
      have uC:=aa (show ∀u∈(vs++us)++dx,∀j,u.bf.ownBlock=some j→bf.ownBlock≠some j from by
       intro u hu j hj;rcases List.mem_append.1 hu with hu|hu
       · exact HJ.o u hu j hj
       · intro e
         have h3:=l8.o u hu j hj;have h4:=(kH.o.jB j e).2.1;omega)
      have bM:=aa ((bq.o.below gT).kids rU.o (by
       intro j e;obtain⟨q1,q2,cur,q3⟩:=sV.jB j e;refine⟨by omega, ?_,fun u hu e2=>uC.o u hu j e2 e⟩;rintro⟨cur',fr,e2⟩;rw[q3]at e2;injection e2 with e2;injection e2 with _ e2;exact absurd e2 (by decide)))
      have cK:=aa ((aL.o.below gT).row rU.o (by
       intro j e;obtain⟨q1,q2,cur,q3⟩:=sV.jB j e;exact⟨by omega,.inl q1⟩))
      have Dr:=aa (show ∀u∈(vs++us)++dx,∀j,u.bf.ownBlock=some j→pO.ownBlock≠some j from by
       intro u hu j hj;rcases HAT.o with e|e
       · rw[e];exact uC.o u hu j hj
       · rw[e]
         have h4:=((bq.o.nodes.2 u hu).jB j hj).2.1;intro e2;injection e2 with e2;simp at e2;omega)
      have BP:∀u∈us++dx,∀j,u.bf.ownBlock=some j→w.heap.size≤j:=by
       intro u hu j hj;rcases List.mem_append.1 hu with hu|hu
       · exact HK.o u hu j hj
       · exact bZ LD.o (l8.o u hu j hj)
      have Bn:=aa BP;have qx:=aa (vZ bM.o ⟨#[44]⟩);rw[decide_eq_true rfl,Bool.true_and]at qx;have h2:=H2.o;rw[← HD5.o]at h2;clear gT sV rU HAT uC r9 HF gP H2 HL BP;cases hs:au ⟨#[44]⟩ (ts.drop p5)
      rotate_left
      · rw [hs,if_pos rfl,List.tail_drop]at h2
        have HN:=aa h2;have NQ:=xw bM.o hs;rw[hs]at qx;clear h2 hs;go_upto_region 15 with (go_at_call 136;((with_reducible refine qx.o.mono ?_);rintro e w7 ⟨rfl,h1⟩;have bP:=aa (cK.o.below h1);have qm:=aa (rZ.o.below h1 (ag _));have bB:=aa (bM.o.below h1);clear h1))
        obtain⟨c0,c1,c2,c3,c4⟩:=bB.o.facts;have f1:=bB.o.frozen 1;clear c0 c2 c3 c4;go_wp2_with fail
        have kW:=aa (bB.o.next NQ);have SE:=aa (show Own (bT .i64) 3 (w7.setCell ⟨b,1,none⟩ (.int .i64 ((p5:Int)+1))) w.heap.size pO (ks++[((a:Nat):Int)])from qm.o.keep fun j hj _ _=>gZ _ _ _ _ (by show j≠b;omega));have lJ:=aa (bP.o.setCell 1 (.int .i64 ((p5:Int)+1)))
        go_roundw
        case rel =>
         refine⟨pO,g,ns++ms,ks++[((a:Nat):Int)],p5+1,ni,us++dx,rfl,by omega,by rw[aj,aj,fq];omega,by rw[aj,aj];omega,by rw[aj];omega,HN,aa (by rw[iE,HU.o,jK.o]),Bn, ?_,SE, ?_,lJ⟩
         · rw[← bO];exact Dr
         · rw[← bO];exact kW
        case measure =>
         have h1:=kW.o.uZ ts.length;rw[Dv.o,h1];simp only[if_true];omega
      rw[hs,if_neg (by decide)]at h2;have HN:=aa (show rf vs.length name (ns++ms) (ks++[((a:Nat):Int)]) (ts.drop p5)=some res from h2);rw[hs]at qx;clear h2 hs;have GM:=aa (fun w7 (h1:Below w6.heap.size w6 w7)=>Ay (bM.o.below h1) ⟨#[41]⟩)
      go_upto_region 17 with (first
       | (go_at_call 136;((with_reducible refine qx.o.mono ?_);rintro e w7 ⟨rfl,h1⟩;have bP:=aa (cK.o.below h1);have HW:=aa (GM.o _ h1);have qm:=aa (rZ.o.below h1 (ag _));clear h1))
       | (go_at_call 197;((with_reducible refine HW.o.mono ?_);rintro e gL ⟨rfl,h1,h2⟩;have wE:=aa (bP.o.trans h1);have uF:=aa (qm.o.fr h1 hbl (by decide));have vC:=aa h2;clear h1 h2)))
      obtain ⟨v,pM,hvk⟩:∃v:aB,v.n={ Nd.zero with kind:=7,text:=name,kids:=ks++[((a:Nat):Int)] }∧v.bf=pO:=by
       rcases uF.o.shape with ⟨rfl,h0⟩|⟨g1,cap,rfl,_⟩
       · exact absurd h0 (by simp)
       · exact⟨⟨_,some (g1,cap)⟩,rfl,rfl⟩
      have jA:=aa pM;have lM:=aa hvk;clear pM hvk;obtain⟨g1,fe,tu, -, -, -, -⟩:=Own.some uF.o (by simp);obtain⟨n1,hn1⟩:∃n1,(ks++[((a:Nat):Int)]).length=n1:=⟨_,rfl⟩;rw[hn1]at tu;subst tu
      have Du:=aa (show ∀u∈us++(dx++[v]),∀j,u.bf.ownBlock=some j→w.heap.size≤j from by
       intro u hu j hj;rw[← bO]at hu;rcases List.mem_append.1 hu with hu|hu
       · exact Bn.o u hu j hj
       · rw[List.mem_singleton.1 hu,lM.o]at hj
         exact(uF.o.jB j hj).1)
      clear hn1;have hN:=HN.o;unfold rf at hN;have XC:=bq.o.lt;rw[show((deep+1:Nat):Int)=(deep:Int)+1 from rfl]at vC;cases hs:au ⟨#[41]⟩ (ts.drop p5)
      · rw[hs,if_neg (by decide)]at hN
        injection hN with hN;have HR:=aa hN.symm;have oh:=aa (show aX gL b tv ts p5 ((deep:Int)+1) 5 ni ((vs++us)++dx)from(by rcases vC.o with ⟨h2,_⟩|⟨_,h2,_⟩|⟨_,_,h2⟩;exact absurd rfl h2;(rw[hs]at h2;cases h2);exact h2));clear hN hs;obtain⟨c0,c1,c2,c3,c4⟩:=oh.o.facts;have f2:=oh.o.frozen 2;clear c0 c1 c3 c4;have hd1 : -9223372036854775808≤(deep:Int)+1 - 1:=by omega
        have hd2:(deep:Int)+1 - 1≤9223372036854775807:=by omega
        go_upto_region 18 with (fail)
        have o5:=aa (oh.o.oO ((deep:Int)));have oV:=aa (wE.o.setCell 2 (.int .i64 ((deep:Int))));have oW:=aa (show Own (bT .i64) 3 (gL.setCell ⟨b,2,none⟩ (.int .i64 ((deep:Int)))) (b+1) (.slice (some ⟨g1,0,none⟩) n1 fe) (ks++[((a:Nat):Int)])from(uF.o.mono (show b+1≤w.heap.size by omega)).keep fun j hj _ _=>gZ _ _ _ _ (by show j≠b;omega));generalize gL.setCell ⟨b,2,none⟩ (.int .i64 ((deep:Int)))=kP at o5 oV oW ⊢;clear c2 f2;have HA:=aa (show Calls Tryz.prog 137 #[.pointer (some ⟨b,0,none⟩),.agg #[.int .i64 7,.int .i64 0,.string name,.string ⟨#[]⟩,.int .i64 0,.int .i64 0,.bool false,.bool false,.string ⟨#[]⟩,.int .i64 0,.int .i64 0,.bool false,.bool false,(.slice (some ⟨g1,0,none⟩) n1 fe)]] kP _ from nW o5.o v (by rw[lM.o,jA.o];exact oW.o) (by omega) _ lM.o { Nd.zero with kind:=7,text:=name,kids:=(ks++[((a:Nat):Int)]) } jA.o);go_wp2_with (go_at_call 137;((with_reducible refine HA.o.mono ?_);rintro e w8 ⟨h1,rfl,xn,h3⟩;have lJ:=aa (oV.o.trans h1);have kW:=aa h3;clear h1 h3))
        go_ret;exact cB.errs (us:=us++(dx++[v])) HR.o (.inl rfl) lJ.o Du.o (by rw[← bO, ← bO];exact kW.o) (by simp only[aj,fq];omega) (by omega)
      rw[hs,if_pos rfl,List.tail_drop]at hN;injection hN with hN;have HR:=aa hN.symm;have oh:=aa (show aX gL b tv ts (p5+1) ((deep:Int)+1) 0 ni ((vs++us)++dx)from(by rcases vC.o with ⟨h2,_⟩|⟨_,_,h2⟩|⟨_,h2,_⟩;exact absurd rfl h2;exact h2;(rw[hs]at h2;cases h2)));clear hN hs;obtain⟨c0,c1,c2,c3,c4⟩:=oh.o.facts;have f2:=oh.o.frozen 2;clear c0 c1 c3 c4;have hd1 : -9223372036854775808≤(deep:Int)+1 - 1:=by omega
      have hd2:(deep:Int)+1 - 1≤9223372036854775807:=by omega
      go_upto_region 18 with (fail)
      have o5:=aa (oh.o.oO ((deep:Int)));have oV:=aa (wE.o.setCell 2 (.int .i64 ((deep:Int))));have oW:=aa (show Own (bT .i64) 3 (gL.setCell ⟨b,2,none⟩ (.int .i64 ((deep:Int)))) (b+1) (.slice (some ⟨g1,0,none⟩) n1 fe) (ks++[((a:Nat):Int)])from(uF.o.mono (show b+1≤w.heap.size by omega)).keep fun j hj _ _=>gZ _ _ _ _ (by show j≠b;omega));generalize gL.setCell ⟨b,2,none⟩ (.int .i64 ((deep:Int)))=kP at o5 oV oW ⊢;clear c2 f2;have HA:=aa (show Calls Tryz.prog 137 #[.pointer (some ⟨b,0,none⟩),.agg #[.int .i64 7,.int .i64 0,.string name,.string ⟨#[]⟩,.int .i64 0,.int .i64 0,.bool false,.bool false,.string ⟨#[]⟩,.int .i64 0,.int .i64 0,.bool false,.bool false,(.slice (some ⟨g1,0,none⟩) n1 fe)]] kP _ from nW o5.o v (by rw[lM.o,jA.o];exact oW.o) (by omega) _ lM.o { Nd.zero with kind:=7,text:=name,kids:=(ks++[((a:Nat):Int)]) } jA.o);go_wp2_with (go_at_call 137;((with_reducible refine HA.o.mono ?_);rintro e w8 ⟨h1,rfl,xn,h3⟩;have lJ:=aa (oV.o.trans h1);have kW:=aa h3;clear h1 h3))
      go_ret;refine⟨lJ.o,.inr ⟨_,_,_,HR.o,za (by simp only[aj];omega),p5+1,xn,us++(dx++[v]),rfl, ?_,Du.o,by rw[← bO, ← bO];exact kW.o,by simp only[aj,fq];omega⟩⟩;rw[iE,iE,HU.o,jK.o,jb,List.map_nil,jA.o,bO]
theorem acd (f:Nat)(IH:∀g,g≤f→BD g){w:World}{b:Nat}{tv:Value}{ts:List af}{p deep:Nat}{nv:Value}{vs:List aB}(h:aX w b tv ts p (deep:Int) 0 nv vs)(hcnt:vs.length≤p)(mo:deep≤12)(res:dW)(hres:iY (f+1) deep vs.length (ts.drop p)=some res) :
 Calls Tryz.prog 174 #[.pointer (some ⟨b,0,none⟩)] w (cB (5+6*deep) res w b tv ts deep vs):=by
 have jD:=h.few;have hlt:=h.lt;have hbl:=h.blt;have hcs:vs.length+(5+6*deep)≤ts.length+100:=by omega
 have HP:=aa h;obtain⟨c0,c1,c2,c3,c4⟩:=h.facts;obtain⟨g,cap,t,rfl,ht,hd,hg,k0,k1,k2,k3,k4,k5,k6,k7,k8⟩:=h.tok;rw[hd,mG]at hres;have HD:=aa hd;have NR:t.kind≠0→p+1<ts.length:=fun hk=>h.fit.next ht hk
 have j6:Below w.heap.size w (w.alloc (.cells jk 154)):=(ai _ _).alloc (ag _) _;obtain⟨a0,a1, -, -, -⟩:=(h.below j6).facts;have hgb:g<w.heap.size:=by omega
 have j0:=(j6.cell (p:=⟨g,p*9,none⟩) hgb).trans k0;have j1:=(j6.cell (p:=⟨g,p*9+1,none⟩) hgb).trans k1;have j2:=(j6.cell (p:=⟨g,p*9+2,none⟩) hgb).trans k2;have tO:=(j6.cell (p:=⟨g,p*9+3,none⟩) hgb).trans k3;have Aa:=(j6.cell (p:=⟨g,p*9+4,none⟩) hgb).trans k4;have Ab:=(j6.cell (p:=⟨g,p*9+5,none⟩) hgb).trans k5;have Ac:=(j6.cell (p:=⟨g,p*9+6,none⟩) hgb).trans k6;have j7:=(j6.cell (p:=⟨g,p*9+7,none⟩) hgb).trans k7;have j8:=(j6.cell (p:=⟨g,p*9+8,none⟩) hgb).trans k8;have bu:=aC.zero w;obtain⟨x0,x1,x2,x3,x4,x5,x6,x7,az⟩:=bu.cells;obtain⟨f0,f1,f2,f3,f4,f5,f6,f7,f8⟩:=bu.bK;have hi1:(0:Int)≤(p:Int):=by omega
 have hi2:(p:Int)<(ts.length:Int):=by omega
 have si:=aa hres;have dB:=aa NR;clear bu j6 c2 c4 hres NR hd ht h;go_enter Tryz.func174,Tryz.ntmps174;go_upto_region 3 with (fail)
 go_region
 have hB:Below w.heap.size w (w.alloc (.cells #[.int .i64 t.kind,.string t.text,.int .i64 t.num,.string t.sh,.int .i64 t.c,.int .i64 t.r,.bool t.ac,.bool t.ar,.int .i64 t.pos] 154)).drew:=((ai _ _).alloc (ag _) _).drew;have aA:=aa (show aC (w.alloc (.cells #[.int .i64 t.kind,.string t.text,.int .i64 t.num,.string t.sh,.int .i64 t.c,.int .i64 t.r,.bool t.ac,.bool t.ar,.int .i64 t.pos] 154)).drew w.heap.size t from(aC.new w t).drew);have dF:=aa (Fr.of b hB);have bW:=aa (HP.o.below hB);clear hB c0 c1 c3 a0 a1 j0 j1 j2 tO Aa Ab Ac j7 j8 k0 k1 k2 k3 k4 k5 k6 k7 k8 x0 x1 x2 x3 x4 x5 x6 x7 az f0 f1 f2 f3 f4 f5 f6 f7 f8 hgb hg HP;generalize hb3:w.heap.size=b3 at aA ⊢;generalize (w.alloc (.cells #[.int .i64 t.kind,.string t.text,.int .i64 t.num,.string t.sh,.int .i64 t.c,.int .i64 t.r,.bool t.ac,.bool t.ar,.int .i64 t.pos] 154)).drew=w3 at aA dF bW ⊢;clear hb3;have HS:=aa (vZ bW.o ⟨#[40]⟩);rw[decide_eq_true rfl,Bool.true_and]at HS;have hres:=si.o;clear si;cases hs:au ⟨#[40]⟩ (ts.drop p)
 rotate_left
 · have hnx:=xw bW.o hs
   have hs2:au ⟨#[40]⟩ (t :: ts.drop (p+1))=true:=by rw[← HD.o];exact hs
   rw[if_pos hs2]at hres;rw[hs]at HS;clear hs hs2;by_cases hdp:12≤deep
   · rw [if_pos hdp]at hres
     injection hres with hres;have HR:=aa hres.symm;clear hres
     go_wp2_with (first
      | (go_at_call 136;((with_reducible refine HS.o.mono ?_);rintro e w4 ⟨rfl,h1⟩;have dL:=aa (dF.o.below h1);have HO:=aa (ze (bW.o.below h1) mo hnx);clear h1))
      | (go_at_call 175;((with_reducible refine HO.o.mono ?_);rintro e w5 ⟨rfl,h1,h2⟩;rcases h2 with ⟨-,h2⟩|⟨h2, -⟩;rotate_left;exact absurd hdp h2;have aL:=aa (dL.o.trans h1);have bq:=aa h2;obtain⟨c0,c1,c2,c3,c4⟩:=h2.facts;clear c0 c1 c2 c4 h1 h2)))
     go_ret;exact cB.err HR.o (.inr rfl) aL.o bq.o hcs (by omega)
   · rw [if_neg hdp]at hres
     have BV:deep+1≤12:=by omega
     rcases dQ hres with ⟨c,h1,rfl⟩|⟨ns,a,r,h1,h2⟩
     · have HI:=aa (fun w2 hps=>IH f (ag _) 0 (deep+1) _ w2 b (.slice (some ⟨g,0,none⟩) ts.length cap) ts (p+1) nv vs (by omega) BV hps (by omega) h1)
       clear hres IH h1
       go_upto_region 10 with (first
        | (go_at_call 136;((with_reducible refine HS.o.mono ?_);rintro e w4 ⟨rfl,h1⟩;have dL:=aa (dF.o.below h1);have HO:=aa (ze (bW.o.below h1) mo hnx);clear h1))
        | (go_at_call 175;((with_reducible refine HO.o.mono ?_);rintro e w5 ⟨rfl,h1,h2⟩;rcases h2 with ⟨h2, -⟩|⟨-,h2⟩;exact absurd h2 hdp;have aL:=aa (dL.o.trans h1);have bq:=aa h2;obtain⟨c0,c1,c2,c3,c4⟩:=h2.facts;have HL:=aa (show Calls Tryz.prog 99 #[.pointer (some ⟨b,0,none⟩),.int .i64 0] w5 (cB (0+6*(deep+1)) (.error c) w5 b (.slice (some ⟨g,0,none⟩) ts.length cap) ts (deep+1) vs)from HI.o w5 h2);clear c0 c1 c2 c4 h1 h2))
        | (go_at_call 99;((with_reducible refine HL.o.mono ?_);intro e w6 ho;obtain⟨hf,hc,x,rfl,p6,d6,yU,rR,sZ,qE,tH,hd6,WW⟩:=ho.bad rfl;have cK:=aa (aL.o.trans hf);have HC:=aa hc;have bM:=aa qE;have o7:=aa aL.o.size;have wG:=aa sZ;have x9:=aa (Ay qE ⟨#[41]⟩);clear hf hc ho qE sZ))
        | (go_at_call 197;((with_reducible refine x9.o.mono ?_);rintro e w7 ⟨rfl,h1,h2⟩;have bP:=aa (cK.o.trans h1);have bB:=aa (show aX w7 b (.slice (some ⟨g,0,none⟩) ts.length cap) ts p6 d6 c yU (vs++rR)from(by rcases h2 with ⟨_,h2⟩|⟨h2,_⟩|⟨h2,_⟩;exact h2;(exfalso;rcases HC.o with h|h <;> omega);(exfalso;rcases HC.o with h|h <;> omega)));clear h1 h2)))
       clear c3;obtain⟨c0,c1,c2,c3,c4⟩:=bB.o.facts;have f2:=bB.o.frozen 2;clear c0 c1 c3 c4;have hd1 : -9223372036854775808≤d6 - 1:=by omega
       have hd2:d6 - 1≤9223372036854775807:=by omega
       go_wp2_with fail
       go_ret;exact cB.errs (us:=rR) rfl HC.o (bP.o.setCell _ _) (fun u hu j hj=>bZ o7.o (wG.o u hu j hj)) (bB.o.oO (d6 - 1)) (by omega) (by omega)
     · have HI:=aa (fun w2 hps=>IH f (ag _) 0 (deep+1) _ w2 b (.slice (some ⟨g,0,none⟩) ts.length cap) ts (p+1) nv vs (by omega) BV hps (by omega) h1)
       have H2:=aa h2;clear hres IH h1 h2
       go_upto_region 10 with (first
        | (go_at_call 136;((with_reducible refine HS.o.mono ?_);rintro e w4 ⟨rfl,h1⟩;have dL:=aa (dF.o.below h1);have HO:=aa (ze (bW.o.below h1) mo hnx);clear h1))
        | (go_at_call 175;((with_reducible refine HO.o.mono ?_);rintro e w5 ⟨rfl,h1,h2⟩;rcases h2 with ⟨h2, -⟩|⟨-,h2⟩;exact absurd h2 hdp;have aL:=aa (dL.o.trans h1);have bq:=aa h2;obtain⟨c0,c1,c2,c3,c4⟩:=h2.facts;have HL:=aa (show Calls Tryz.prog 99 #[.pointer (some ⟨b,0,none⟩),.int .i64 0] w5 (cB (0+6*(deep+1)) (.ok (ns,a,r)) w5 b (.slice (some ⟨g,0,none⟩) ts.length cap) ts (deep+1) vs)from HI.o w5 h2);clear c0 c1 c2 c4 h1 h2))
        | (go_at_call 99;((with_reducible refine HL.o.mono ?_);intro e w6 ho;obtain⟨hf,rfl,p6,yU,rR,Cb,Ch,sZ,qE,tH⟩:=ho.good rfl;have cK:=aa (aL.o.trans hf);have bM:=aa qE;have o7:=aa aL.o.size;have HD6:=aa Cb;have Dy:=aa Ch;have wG:=aa sZ;have x9:=aa (Ay qE ⟨#[41]⟩);clear hf ho qE sZ Cb Ch))
        | (go_at_call 197;((with_reducible refine x9.o.mono ?_);rintro e w7 ⟨rfl,h1,h2⟩;have bP:=aa (cK.o.trans h1);have GK:=aa h2;clear h1 h2)))
       clear c3;have h2:=H2.o;rw[← HD6.o]at h2;have NV:=bM.o.lt;rw[show((deep+1:Nat):Int)=(deep:Int)+1 from rfl]at GK;cases hs:au ⟨#[41]⟩ (ts.drop p6)
       · rw[hs,if_neg (by decide)]at h2
         injection h2 with h2;have HR:=aa h2.symm;have bB:=aa (show aX w7 b (.slice (some ⟨g,0,none⟩) ts.length cap) ts p6 ((deep:Int)+1) 5 yU (vs++rR)from(by rcases GK.o with ⟨h2,_⟩|⟨_,h2,_⟩|⟨_,_,h2⟩;exact absurd rfl h2;(rw[hs]at h2;cases h2);exact h2));clear h2 hs;obtain⟨c0,c1,c2,c3,c4⟩:=bB.o.facts;have f2:=bB.o.frozen 2;clear c0 c1 c3 c4;go_wp2_with fail
         go_ret;exact cB.errs (us:=rR) HR.o (.inl rfl) (bP.o.setCell _ _) (fun u hu j hj=>bZ o7.o (wG.o u hu j hj)) (bB.o.oO (deep:Int)) (by omega) (by omega)
       · rw[hs,if_pos rfl,List.tail_drop]at h2
         injection h2 with h2;have HR:=aa h2.symm;have bB:=aa (show aX w7 b (.slice (some ⟨g,0,none⟩) ts.length cap) ts (p6+1) ((deep:Int)+1) 0 yU (vs++rR)from(by rcases GK.o with ⟨h2,_⟩|⟨_,_,h2⟩|⟨_,h2,_⟩;exact absurd rfl h2;exact h2;(rw[hs]at h2;cases h2)));clear h2 hs;obtain⟨c0,c1,c2,c3,c4⟩:=bB.o.facts;have f2:=bB.o.frozen 2;clear c0 c1 c3 c4;go_wp2_with fail
         go_ret;exact⟨bP.o.setCell _ _,.inr ⟨_,_,_,HR.o,rfl,p6+1,yU,rR,rfl,Dy.o,fun u hu j hj=>bZ o7.o (wG.o u hu j hj),bB.o.oO (deep:Int),by omega⟩⟩
 have hs2:¬ au ⟨#[40]⟩ (t :: ts.drop (p+1))=true:=by rw[← HD.o,hs];decide
 rw[if_neg hs2]at hres;rw[hs]at HS;clear hs hs2;go_upto_region 12 with (go_at_call 136;((with_reducible refine HS.o.mono ?_);rintro e w4 ⟨rfl,h1⟩;have dL:=aa (dF.o.below h1);have dP:=aa (bW.o.below h1);have wL:=aa (aA.o.below h1 aA.o.lt);clear h1))
 clear HS dF bW aA;obtain⟨x0,x1,x2,x3,x4,x5,x6,x7,az⟩:=wL.o.cells
 have ql:=aa (show b3≠b from by
  intro e;have h1:=wL.o;unfold aC at h1;rw[e,dP.o.cell]at h1;injection h1 with h1;injection h1 with _ h1;exact absurd h1 (by decide))
 obtain⟨kd,hkd⟩:∃kd,t.kind=kd:=⟨_,rfl⟩;rw[hkd]at x0;by_cases k1:t.kind=1
 · have hnx:=dB.o (by omega)
   rw[if_pos k1]at hres;injection hres with hres;have HR:=aa hres.symm;have e1:(kd == 1)=true:=beq_iff_eq.2 (by omega);obtain⟨c0,c1,c2,c3,c4⟩:=dP.o.facts;have f1:=dP.o.frozen 1;clear hres k1 hkd IH c0 c2 c3 c4;go_upto_region 14 with (fail)
   have bq:=aa (dP.o.next hnx);have gu:=aa (show aC (w4.setCell ⟨b,1,none⟩ (.int .i64 ((p:Int)+1))) b3 t from by unfold aC;rw[gZ _ _ _ _ (by exact ql.o)];exact wL.o);have aL:=aa (dL.o.setCell 1 (.int .i64 ((p:Int)+1)));clear c1 f1 x0 x1 x2 x3 x4 x5 x6 x7 az;generalize w4.setCell ⟨b,1,none⟩ (.int .i64 ((p:Int)+1))=w5 at bq gu aL ⊢;obtain⟨x0,x1,x2,x3,x4,x5,x6,x7,az⟩:=gu.o.cells;have HA:=aa (show Calls Tryz.prog 137 #[.pointer (some ⟨b,0,none⟩),.agg #[.int .i64 1,.int .i64 t.num,.string ⟨#[]⟩,.string ⟨#[]⟩,.int .i64 0,.int .i64 0,.bool false,.bool false,.string ⟨#[]⟩,.int .i64 0,.int .i64 0,.bool false,.bool false,.slice none 0 0]] w5 _ from nW bq.o (aB.leaf { Nd.zero with kind:=1,num:=t.num }) (vQ _ _ _ rfl) (by omega) (.slice none 0 0) rfl { Nd.zero with kind:=1,num:=t.num } rfl);go_wp2_with (go_at_call 137;((with_reducible refine HA.o.mono ?_);rintro e w7 ⟨h1,rfl,aM,h3⟩;have bP:=aa (aL.o.trans h1);have bB:=aa h3;clear h1 h3))
   go_ret;exact cB.leaf HR.o bP.o rfl bB.o (by omega)
 have e1:(kd == 1)=false:=beq_eq_false_iff_ne.2 (by omega);by_cases k2:t.kind=2
 · have hnx:=dB.o (by omega)
   rw[if_neg k1,if_pos k2]at hres;injection hres with hres;have HR:=aa hres.symm;have e2:(kd == 2)=true:=beq_iff_eq.2 (by omega);obtain⟨c0,c1,c2,c3,c4⟩:=dP.o.facts;have f1:=dP.o.frozen 1;clear hres k1 k2 hkd IH c0 c2 c3 c4;go_upto_region 17 with (fail)
   have bq:=aa (dP.o.next hnx);have gu:=aa (show aC (w4.setCell ⟨b,1,none⟩ (.int .i64 ((p:Int)+1))) b3 t from by unfold aC;rw[gZ _ _ _ _ (by exact ql.o)];exact wL.o);have aL:=aa (dL.o.setCell 1 (.int .i64 ((p:Int)+1)));clear c1 f1 x0 x1 x2 x3 x4 x5 x6 x7 az;generalize w4.setCell ⟨b,1,none⟩ (.int .i64 ((p:Int)+1))=w5 at bq gu aL ⊢;obtain⟨x0,x1,x2,x3,x4,x5,x6,x7,az⟩:=gu.o.cells;have HA:=aa (show Calls Tryz.prog 137 #[.pointer (some ⟨b,0,none⟩),.agg #[.int .i64 2,.int .i64 0,.string t.text,.string ⟨#[]⟩,.int .i64 0,.int .i64 0,.bool false,.bool false,.string ⟨#[]⟩,.int .i64 0,.int .i64 0,.bool false,.bool false,.slice none 0 0]] w5 _ from nW bq.o (aB.leaf { Nd.zero with kind:=2,text:=t.text }) (vQ _ _ _ rfl) (by omega) (.slice none 0 0) rfl { Nd.zero with kind:=2,text:=t.text } rfl);go_wp2_with (go_at_call 137;((with_reducible refine HA.o.mono ?_);rintro e w7 ⟨h1,rfl,aM,h3⟩;have bP:=aa (aL.o.trans h1);have bB:=aa h3;clear h1 h3))
   go_ret;exact cB.leaf HR.o bP.o rfl bB.o (by omega)
 have e2:(kd == 2)=false:=beq_eq_false_iff_ne.2 (by omega);by_cases k6:t.kind=6
 · have hnx:=dB.o (by omega)
   rw[if_neg k1,if_neg k2,if_pos k6]at hres;injection hres with hres;have HR:=aa hres.symm;have e6:(kd == 6)=true:=beq_iff_eq.2 (by omega);obtain⟨c0,c1,c2,c3,c4⟩:=dP.o.facts;have f1:=dP.o.frozen 1;clear hres k1 k2 k6 hkd IH c0 c2 c3 c4;go_upto_region 20 with (fail)
   have bq:=aa (dP.o.next hnx);have gu:=aa (show aC (w4.setCell ⟨b,1,none⟩ (.int .i64 ((p:Int)+1))) b3 t from by unfold aC;rw[gZ _ _ _ _ (by exact ql.o)];exact wL.o);have aL:=aa (dL.o.setCell 1 (.int .i64 ((p:Int)+1)));clear c1 f1 x0 x1 x2 x3 x4 x5 x6 x7 az;generalize w4.setCell ⟨b,1,none⟩ (.int .i64 ((p:Int)+1))=w5 at bq gu aL ⊢;obtain⟨x0,x1,x2,x3,x4,x5,x6,x7,az⟩:=gu.o.cells;have HA:=aa (show Calls Tryz.prog 137 #[.pointer (some ⟨b,0,none⟩),.agg #[.int .i64 4,.int .i64 0,.string ⟨#[]⟩,.string ⟨#[]⟩,.int .i64 0,.int .i64 0,.bool false,.bool false,.string ⟨#[]⟩,.int .i64 0,.int .i64 0,.bool false,.bool false,.slice none 0 0]] w5 _ from nW bq.o (aB.leaf { Nd.zero with kind:=4 }) (vQ _ _ _ rfl) (by omega) (.slice none 0 0) rfl { Nd.zero with kind:=4 } rfl);go_wp2_with (go_at_call 137;((with_reducible refine HA.o.mono ?_);rintro e w7 ⟨h1,rfl,aM,h3⟩;have bP:=aa (aL.o.trans h1);have bB:=aa h3;clear h1 h3))
   go_ret;exact cB.leaf HR.o bP.o rfl bB.o (by omega)
 have e6:(kd == 6)=false:=beq_eq_false_iff_ne.2 (by omega);by_cases k4:t.kind=4
 · have hnx:=dB.o (by omega)
   rw[if_neg k1,if_neg k2,if_neg k6,if_pos k4]at hres;injection hres with hres;have HA:=aa (ace dP.o hcnt mo t hnx);rw[hres]at HA;have e4:(kd == 4)=true:=beq_iff_eq.2 (by omega);clear hres k1 k2 k6 k4 hkd;go_wp2_with (go_at_call 198;((with_reducible refine HA.o.mono ?_);intro e w7 ho;have mP:=aa (cB.from dL.o ho);obtain⟨c,rfl⟩:=ho.ret;clear ho))
   go_ret;exact mP.o
 have e4:(kd == 4)=false:=beq_eq_false_iff_ne.2 (by omega);by_cases k3:t.kind=3
 · have hnx:=dB.o (by omega)
   rw[if_neg k1,if_neg k2,if_neg k6,if_neg k4,if_pos k3]at hres;have HA:=aa (ab3 f IH t.text dP.o hcnt mo hnx res hres);have e3:(kd == 3)=true:=beq_iff_eq.2 (by omega);clear hres k1 k2 k6 k4 k3 hkd IH;go_wp2_with (go_at_call 199;((with_reducible refine HA.o.mono ?_);intro e w7 ho;have mP:=aa (cB.from dL.o ho);obtain⟨c,rfl⟩:=ho.ret;clear ho))
   go_ret;exact mP.o
 have e3:(kd == 3)=false:=beq_eq_false_iff_ne.2 (by omega);rw[if_neg k1,if_neg k2,if_neg k6,if_neg k4,if_neg k3]at hres;injection hres with hres;have HR:=aa hres.symm;have qV:=aa (zb dP.o 5);clear hres k1 k2 k6 k4 k3 hkd IH;go_wp2_with (go_at_call 100;((with_reducible refine qV.o.mono ?_);rintro e w7 ⟨rfl,h1,h2⟩;have bP:=aa (dL.o.trans h1);have bB:=aa h2;clear h1 h2))
 go_ret;exact cB.err HR.o (.inl rfl) bP.o (aX.Jk bB.o) hcs (by omega)
theorem cB.less {sl sl':Nat}{res:dW}{w w':World}{b:Nat}{tv:Value}{ts:List af}{deep:Nat}{vs:List aB}{e:Ending}(h:cB sl res w b tv ts deep vs e w')(hs:sl'≤sl):cB sl' res w b tv ts deep vs e w':=by
 refine⟨h.1,h.2.imp ?_ id⟩;rintro⟨c,g1,g2,g3,p',d,aM,us,g4,g5,g6,g7,g8⟩;exact⟨c,g1,g2,g3,p',d,aM,us,g4,g5,by omega,by omega,g8⟩
def GX (f:Nat):Prop:=∀(deep:Nat)(res:dW)(w:World)(b:Nat)(tv:Value)(ts:List af)(p:Nat)(nv:Value)(vs:List aB),deep≤12→aX w b tv ts p (deep:Int) 0 nv vs→vs.length≤p→eF f 4 deep vs.length (ts.drop p)=some res →
 Calls Tryz.prog 134 #[.pointer (some ⟨b,0,none⟩)] w (cB (4+6*deep) res w b tv ts deep vs)
theorem acs (f:Nat)(IH:∀g,g≤f→BD g)(zJ:∀g,g≤f→GX g){w:World}{b:Nat}{tv:Value}{ts:List af}{p deep:Nat}{nv:Value}{vs:List aB}(h:aX w b tv ts p (deep:Int) 0 nv vs)(hcnt:vs.length≤p)(mo:deep≤12)(res:dW)(hres:eF (f+1) 4 deep vs.length (ts.drop p)=some res) :
 Calls Tryz.prog 134 #[.pointer (some ⟨b,0,none⟩)] w (cB (4+6*deep) res w b tv ts deep vs):=by
 have HS:=aa (vZ h ⟨#[45]⟩);rw[decide_eq_true rfl,Bool.true_and]at HS;rw[pG,if_neg (by omega)]at hres;have jD:=h.few;have hlt:=h.lt;have hbl:=h.blt;have hcs:vs.length+(4+6*deep)≤ts.length+100:=by omega
 have HP:=aa h;cases hq:au ⟨#[45]⟩ (ts.drop p)
 · rw [hq,if_neg (by decide)]at hres
   rw[hq]at HS
   match f,IH,hres with
   | 0,_,hres=>unfold iY at hres;cases hres
   | f+1,IH,hres =>
   have HL:=aa (fun w1 (hb:Below w.heap.size w w1)=>(acd f (fun g hg=>IH g (by omega)) (HP.o.below hb) hcnt mo res hres).mono fun e w3 ho=>(cB.from (Fr.of b hb) ho).less (show 4+6*deep≤5+6*deep by omega));clear hq hres h IH zJ;go_enter Tryz.func134,Tryz.ntmps134
   go_wp2_with (first
    | (go_at_call 136;((with_reducible refine HS.o.mono ?_);rintro e w1 ⟨rfl,h1⟩;have rY:=aa (HL.o w1 h1);clear h1))
    | (go_at_call 174;((with_reducible refine rY.o.mono ?_);intro e w7 ho;have mP:=aa ho;obtain⟨c,rfl⟩:=ho.ret;clear ho)))
   go_ret;exact mP.o
 · have hnx:=xw h hq
   rw[hq,if_pos rfl]at hres;rw[hq]at HS;by_cases hd:12≤deep
   · rw [if_pos hd]at hres
     injection hres with hres;have HR:=aa hres.symm;clear hq hres h IH zJ;go_enter Tryz.func134,Tryz.ntmps134
     go_wp2_with (first
      | (go_at_call 136;((with_reducible refine HS.o.mono ?_);rintro e w4 ⟨rfl,h1⟩;have dL:=aa (Fr.of b h1);have HO:=aa (ze (HP.o.below h1) mo hnx);clear h1))
      | (go_at_call 175;((with_reducible refine HO.o.mono ?_);rintro e w5 ⟨rfl,h1,h2⟩;rcases h2 with ⟨-,h2⟩|⟨h2, -⟩;rotate_left;exact absurd hd h2;have aL:=aa (dL.o.trans h1);have bq:=aa h2;obtain⟨c0,c1,c2,c3,c4⟩:=h2.facts;clear c0 c1 c2 c4 h1 h2)))
     go_ret;exact cB.err HR.o (.inr rfl) aL.o bq.o hcs (by omega)
   · rw [if_neg hd,List.tail_drop]at hres
     have BV:deep+1≤12:=by omega
     rcases dQ hres with ⟨c,h1,rfl⟩|⟨ns,a,r,h1,h2⟩
     · have HI:=aa (fun w2 hps=>zJ f (ag _) (deep+1) _ w2 b tv ts (p+1) nv vs BV hps (by omega) h1)
       clear hq hres h IH zJ h1;go_enter Tryz.func134,Tryz.ntmps134
       go_upto_region 7 with (first
        | (go_at_call 136;((with_reducible refine HS.o.mono ?_);rintro e w4 ⟨rfl,h1⟩;have dL:=aa (Fr.of b h1);have HO:=aa (ze (HP.o.below h1) mo hnx);clear h1))
        | (go_at_call 175;((with_reducible refine HO.o.mono ?_);rintro e w5 ⟨rfl,h1,h2⟩;rcases h2 with ⟨h2, -⟩|⟨-,h2⟩;exact absurd h2 hd;have aL:=aa (dL.o.trans h1);have bq:=aa h2;obtain⟨c0,c1,c2,c3,c4⟩:=h2.facts;have HL:=aa (HI.o w5 h2);clear c0 c1 c2 c4 h1 h2))
        | (go_at_call 134;((with_reducible refine HL.o.mono ?_);intro e w6 ho;obtain⟨hf,hc,x,rfl,p6,d6,yU,rR,sZ,qE,tH,hd6,WW⟩:=ho.bad rfl;have cK:=aa (aL.o.trans hf);have HC:=aa hc;have bM:=aa qE;have o7:=aa aL.o.size;have wG:=aa sZ;clear hf hc ho qE sZ)))
       clear c3;obtain⟨c0,c1,c2,c3,c4⟩:=bM.o.facts;have f2:=bM.o.frozen 2;clear c0 c1 c3 c4;have hd1 : -9223372036854775808≤d6 - 1:=by omega
       have hd2:d6 - 1≤9223372036854775807:=by omega
       go_upto_region 8 with (fail)
       have bB:=aa (bM.o.oO (d6 - 1));have bP:=aa (cK.o.setCell 2 (.int .i64 (d6 - 1)));clear c2 f2;generalize w6.setCell ⟨b,2,none⟩ (.int .i64 (d6 - 1))=w7 at bB bP ⊢;have WQ:=bB.o.blt;have yA:Below w7.heap.size w7 (w7.alloc (.cells #[.int .i64 x] 3)):=(ai _ _).alloc (ag _) _;have kW:=aa (bB.o.below yA);have lJ:=aa (bP.o.below yA);have uJ:=aa bP.o.size;have HA:=aa (show Calls Tryz.prog 137 #[.pointer (some ⟨b,0,none⟩),.agg #[.int .i64 8,.int .i64 0,.string ⟨#[]⟩,.string ⟨#[]⟩,.int .i64 0,.int .i64 0,.bool false,.bool false,.string ⟨#[]⟩,.int .i64 0,.int .i64 0,.bool false,.bool false,.slice (some ⟨w7.heap.size,0,none⟩) 1 1]] (w7.alloc (.cells #[.int .i64 x] 3)) _ from nW kW.o ⟨{ Nd.zero with kind:=8,kids:=[x] },some (w7.heap.size,1)⟩ (Jp w7 (b+1) x (by omega)) (by omega) (.slice (some ⟨w7.heap.size,0,none⟩) 1 1) rfl { Nd.zero with kind:=8,kids:=[x] } rfl);clear yA;go_wp2_with (go_at_call 137;((with_reducible refine HA.o.mono ?_);rintro e gL ⟨h1,rfl,PQ,h3⟩;have wE:=aa (lJ.o.trans h1);have oh:=aa h3;clear h1 h3))
       go_ret;refine cB.errs (us:=rR++[⟨{ Nd.zero with kind:=8,kids:=[x] },some (w7.heap.size,1)⟩]) rfl HC.o wE.o ?_ (by rw[← bO];exact oh.o) (by simp only[aj,fq]at tH ⊢;omega) (by omega);intro u hu j hj;rcases List.mem_append.1 hu with hu|hu
       · exact bZ o7.o (wG.o u hu j hj)
       · rw[List.mem_singleton.1 hu]at hj
         have hj:some w7.heap.size=some j:=hj;injection hj with hj;have:=uJ.o;omega
     · have HI:=aa (fun w2 hps=>zJ f (ag _) (deep+1) _ w2 b tv ts (p+1) nv vs BV hps (by omega) h1)
       have H1:=aa h1;injection h2 with h2;have HR:=aa h2.symm;clear hq hres h IH zJ h1 h2;go_enter Tryz.func134,Tryz.ntmps134
       go_upto_region 7 with (first
        | (go_at_call 136;((with_reducible refine HS.o.mono ?_);rintro e w4 ⟨rfl,h1⟩;have dL:=aa (Fr.of b h1);have HO:=aa (ze (HP.o.below h1) mo hnx);clear h1))
        | (go_at_call 175;((with_reducible refine HO.o.mono ?_);rintro e w5 ⟨rfl,h1,h2⟩;rcases h2 with ⟨h2, -⟩|⟨-,h2⟩;exact absurd h2 hd;have aL:=aa (dL.o.trans h1);have bq:=aa h2;obtain⟨c0,c1,c2,c3,c4⟩:=h2.facts;have HL:=aa (HI.o w5 h2);clear c0 c1 c2 c4 h1 h2))
        | (go_at_call 134;((with_reducible refine HL.o.mono ?_);intro e w6 ho;obtain⟨hf,rfl,p6,yU,rR,Cb,Ch,sZ,qE,tH⟩:=ho.good rfl;have cK:=aa (aL.o.trans hf);have bM:=aa qE;have o7:=aa aL.o.size;have HD6:=aa Cb;have Dy:=aa Ch;have wG:=aa sZ;clear hf ho qE sZ Cb Ch)))
       clear c3;rw[show((deep+1:Nat):Int)=(deep:Int)+1 from rfl]at bM;obtain⟨c0,c1,c2,c3,c4⟩:=bM.o.facts;have f2:=bM.o.frozen 2;have NV:=bM.o.lt;have afT:rR.length=ns.length:=by rw[← Dy.o,dN]
       clear c0 c1 c3 c4;go_upto_region 8 with (fail)
       have bB:=aa (bM.o.oO (deep:Int));have bP:=aa (cK.o.setCell 2 (.int .i64 (deep:Int)));clear c2 f2;generalize w6.setCell ⟨b,2,none⟩ (.int .i64 (deep:Int))=w7 at bB bP ⊢;have WQ:=bB.o.blt;have yA:Below w7.heap.size w7 (w7.alloc (.cells #[.int .i64 ((a:Nat):Int)] 3)):=(ai _ _).alloc (ag _) _;have kW:=aa (bB.o.below yA);have lJ:=aa (bP.o.below yA);have uJ:=aa bP.o.size;have HA:=aa (show Calls Tryz.prog 137 #[.pointer (some ⟨b,0,none⟩),.agg #[.int .i64 8,.int .i64 0,.string ⟨#[]⟩,.string ⟨#[]⟩,.int .i64 0,.int .i64 0,.bool false,.bool false,.string ⟨#[]⟩,.int .i64 0,.int .i64 0,.bool false,.bool false,.slice (some ⟨w7.heap.size,0,none⟩) 1 1]] (w7.alloc (.cells #[.int .i64 ((a:Nat):Int)] 3)) _ from nW kW.o ⟨{ Nd.zero with kind:=8,kids:=[((a:Nat):Int)] },some (w7.heap.size,1)⟩ (Jp w7 (b+1) ((a:Nat):Int) (by omega)) (by omega) (.slice (some ⟨w7.heap.size,0,none⟩) 1 1) rfl { Nd.zero with kind:=8,kids:=[((a:Nat):Int)] } rfl);clear yA;go_wp2_with (go_at_call 137;((with_reducible refine HA.o.mono ?_);rintro e gL ⟨h1,rfl,PQ,h3⟩;have wE:=aa (lJ.o.trans h1);have oh:=aa h3;clear h1 h3))
       go_ret;obtain⟨hc1,hc2,hc3⟩:=wZ H1.o HD6.o NV;refine⟨wE.o,.inr ⟨_,_,_,HR.o,za (by first|omega|(simp only[aj];omega)),p6,PQ,rR++[⟨{ Nd.zero with kind:=8,kids:=[((a:Nat):Int)] },some (w7.heap.size,1)⟩],HD6.o,by rw[iE,Dy.o];rfl, ?_,by rw[← bO];exact oh.o,by simp only[aj,fq]at tH ⊢;omega⟩⟩;intro u hu j hj;rcases List.mem_append.1 hu with hu|hu
       · exact bZ o7.o (wG.o u hu j hj)
       · rw[List.mem_singleton.1 hu]at hj
         have hj:some w7.heap.size=some j:=hj;injection hj with hj;have:=uJ.o;omega
theorem YS:∀n:Nat,n≤3→∀q∈fC n,9≤q.2∧q.2≤19
 | 0,_=>by decide
 | 1,_=>by decide
 | 2,_=>by decide
 | 3,_=>by decide
 | n+4,h=>by omega
theorem YT:∀n:Nat,n≤3→1≤(fC n).length∧(fC n).length≤6
 | 0,_=>by decide
 | 1,_=>by decide
 | 2,_=>by decide
 | 3,_=>by decide
 | n+4,h=>by omega
def wR(n:Nat)(ts:List af)(j:Nat):Prop:=∀(q:Nat)(y:ByteArray × Int),q<j→(fC n)[q]? = some y→au y.1 ts=false
theorem wR.none {n:Nat}{ts:List af}{j:Nat}(h:wR n ts j)(hj:(fC n).length≤j):fD n ts=0:=by
 unfold fD;rw[HV (fun p=>au p.1 ts) (fC n) (fun q y hy=>h q y (by have:=(dm.1 hy).1;omega) hy)]
theorem wR.at {n:Nat}{ts:List af}{j:Nat}{y:ByteArray × Int}(h:wR n ts j)(hy:(fC n)[j]? = some y)(hs:au y.1 ts=true):fD n ts=y.2:=by
 unfold fD;rw[Hz (fun p=>au p.1 ts) (fC n) j y hy hs (fun q z hq hz=>h q z hq hz)]
theorem wR.succ {n:Nat}{ts:List af}{j:Nat}{y:ByteArray × Int}(h:wR n ts j)(hy:(fC n)[j]? = some y)(hs:au y.1 ts=false):wR n ts (j+1):=by
 intro q z hq hz;by_cases e:q<j
 · exact h q z e hz
 · rw[show q=j by omega,hy]at hz;injection hz with hz;subst hz;exact hs
def TY (f n:Nat)(res:dW)(w:World)(b:Nat)(tv:Value)(ts:List af)(deep:Nat)(vs:List aB)(gs gk:Nat)(pF:Value)(wr:World):Prop :=
 ∃ (g:Nat)(ns':List Nd)(a' p':Nat)(aM:Value)(us:List aB),pF = .int .i64 ((a':Nat):Int)∧g≤f∧a'+1=vs.length+ns'.length∧us.length=ns'.length∧vs.length+us.length≤p' ∧
   rowP g n deep vs.length ns' a' (ts.drop p')=some res∧us.map aB.n=ns'∧(∀u∈us,∀j,u.bf.ownBlock=some j→w.heap.size≤j)∧aX wr b tv ts p' (deep:Int) 0 aM (vs++us)∧Fr w wr b∧uK wr gs gk (fC n)
def TW (n:Nat)(res:dW)(w:World)(b:Nat)(tv:Value)(ts:List af)(deep:Nat)(vs:List aB)(pF:Value)(wr:World):Prop :=
 ∃(c x d:Int)(p':Nat)(aM:Value)(us:List aB),pF = .int .i64 x∧res = .error c∧(c=5∨c=6)∧(∀u∈us,∀j,u.bf.ownBlock=some j→w.heap.size≤j)∧aX wr b tv ts p' d c aM (vs++us)∧Fr w wr b∧(vs++us).length+(n+6*deep)≤ts.length+100∧((n+6*deep:Nat):Int)≤d+100∧d≤100
theorem acf (f:Nat)(IH:∀g,g≤f→BD g)(n:Nat)(hn:n≤3){w:World}{b:Nat}{tv:Value}{ts:List af}{p deep:Nat}{nv:Value}{vs:List aB}(h:aX w b tv ts p (deep:Int) 0 nv vs)(hcnt:vs.length≤p)(mo:deep≤12)(res:dW)
 (hres:il (eF f (n+1) deep vs.length (ts.drop p)) (fun ns a r=>rowP f n deep vs.length ns a r)=some res) :
 Calls Tryz.prog 99 #[.pointer (some ⟨b,0,none⟩),.int .i64 (n:Int)] w (cB (n+6*deep) res w b tv ts deep vs):=by
 have hw1 : -9223372036854775808≤(n:Int)+1:=by omega
 have hw2:(n:Int)+1≤9223372036854775807:=by omega
 have NN:¬ (3:Int)<(n:Int):=by omega
 have tF:n+1≤4:=by omega
 have jD:=h.few;have hbl:=h.blt;have K4:=aa (fun w=>abW n hn w);obtain⟨hl1,Xo⟩:=YT n hn;obtain⟨LL,vL⟩:∃LL,(fC n).length=LL:=⟨_,rfl⟩;have zC:=aa vL;rw[vL]at hl1 Xo;clear vL;rcases dQ hres with ⟨c,h1,rfl⟩|⟨ns,a,r,h1,h2⟩
 · have HL:=aa (show Calls Tryz.prog 99 #[.pointer (some ⟨b,0,none⟩),.int .i64 ((n:Int)+1)] w (cB (n+1+6*deep) (.error c) w b tv ts deep vs)from IH f (ag _) (n+1) deep _ w b tv ts p nv vs tF mo h hcnt h1)
   clear hres h1 IH h;go_enter Tryz.func99,Tryz.ntmps99
   go_upto_region 5 with (first
    | (go_at_call 99;((with_reducible refine HL.o.mono ?_);intro e w2 ho;obtain⟨hf,hc,x,rfl,p2,d2,PO,zq,hk2,Ce,hn2,hd2,afy⟩:=ho.bad rfl;have bI:=aa hf;have HC:=aa hc;have eY:=aa Ce;have rW:=aa hk2;clear hf hc ho Ce hk2))
    | (go_at_call 135;((with_reducible refine(K4.o _).mono ?_);rintro e w3 ⟨h1,gs,gk,rfl,h2,h3,h4⟩;rw[zC.o];have dF:=aa (bI.o.below h1);have bW:=aa (eY.o.below h1);clear h1 h2 h3 h4)))
   obtain⟨c0,c1,c2,c3,c4⟩:=bW.o.facts;clear c0 c1 c2 c4;have hc0:(c == 0)=false:=by rw[beq_eq_false_iff_ne];rcases HC.o with h|h <;> omega
   go_loopw [5] (fun pF wr=>pF = .int .i64 x∧w3=wr) (fun _ _=>0)
   case atStart=>exact⟨rfl,rfl⟩
   case round =>
    obtain⟨rfl,rfl⟩:=hrel;go_wp2_with fail
    go_ret;exact cB.errs rfl HC.o dF.o rW.o bW.o (by omega) (by omega)
 · have HL := aa (show Calls Tryz.prog 99 #[.pointer (some ⟨b,0,none⟩),.int .i64 ((n:Int)+1)] w (cB (n+1+6*deep) (.ok (ns,a,r)) w b tv ts deep vs)from IH f (ag _) (n+1) deep _ w b tv ts p nv vs tF mo h hcnt h1)
   have qh:=aa IH;have H1:=aa h1;have H2:=aa h2;clear hres h1 h2 IH h;go_enter Tryz.func99,Tryz.ntmps99
   go_upto_region 5 with (first
    | (go_at_call 99;((with_reducible refine HL.o.mono ?_);intro e w2 ho;obtain⟨hf,rfl,p2,PO,zq,hp2,hu2,hk2,Ce,hn2⟩:=ho.good rfl;have bI:=aa hf;have eY:=aa Ce;have HD2:=aa hp2;have zI:=aa hu2;have rW:=aa hk2;clear hf ho Ce hk2 hp2 hu2))
    | (go_at_call 135;((with_reducible refine(K4.o _).mono ?_);rintro e w3 ⟨h1,gs,gk,rfl,h2,h3,h4⟩;rw[zC.o];have dF:=aa (bI.o.below h1);have bW:=aa (eY.o.below h1);have Ls:=aa h4;have hgs:=eY.o.blt;have Xe:=bI.o.size;clear h1 h4)))
   have hbs:b<gs:=by omega
   have hbk:b<gk:=by omega
   have Od:zq.length=ns.length:=by rw[← zI.o,dN]
   have Xq:(vs++zq).length=vs.length+zq.length:=aj;have h3:=wZ H1.o HD2.o bW.o.lt
   go_loopw [5] (fun pF wr=>Hid (TY f n res w b tv ts deep vs gs gk pF wr)∨Hid (TW n res w b tv ts deep vs pF wr)) (fun _ wr=>uZ b ts.length wr)
   case atStart =>
    refine .inl (aa ⟨f,ns,a,p2,PO,zq,rfl,ag _,h3.2.1,Od,by omega, ?_,zI.o,rW.o,bW.o,dF.o,Ls.o⟩);rw[HD2.o];exact H2.o
   case round =>
    clear HL H1 H2 bI eY HD2 zI rW dF bW Ls h3 Od Xq hn2 hgs Xe h2;rcases hrel with hrel|hrel
    rotate_left
    · obtain⟨c,x,d,p',aM,us,rfl,hrc,hc,hk,hps,hf,hct,hd1,hd2⟩:=hrel.o
      have HP:=aa hps;have HF:=aa hf;have HK:=aa hk;have HC:=aa hc;have qY:=aa hrc;have hc0:(c == 0)=false:=by rw[beq_eq_false_iff_ne];rcases hc with h|h <;> omega
      obtain⟨c0,c1,c2,c3,c4⟩:=hps.facts;clear hps hf hk hc hrc c0 c1 c2 c4 hrel;go_wp2_with fail
      go_ret;exact cB.errs qY.o HC.o HF.o HK.o HP.o hct (by omega)
    obtain⟨g,ns',a',p',aM,us,rfl,hg,ha,yL,hcn,hR,hU,hK,Nj,hF,hV⟩:=hrel.o;have HU:=aa hU;have HK:=aa hK;have gP:=aa Nj;have HF:=aa hF;have j3:=aa hV;have HR:=aa hR;clear hU hK Nj hF hV hR hrel;have Xu:=gP.o.lt;have HM:=aa (gP.o.uZ ts.length);obtain⟨c0,c1,c2,c3,c4⟩:=gP.o.facts;clear c0 c1 c2 c4;go_upto_region 8 with (fail)
    match g,hg,HR with
    | 0,_,HR=>have:=HR.o;unfold rowP at this;cases this
    | g+1,hg,HR =>
    have hr:=HR.o;rw[ug]at hr;have HRR:=aa hr;clear hr HR
    go_loopw [8,9] (fun bf vP wq=>∃(j:Nat),j≤LL∧vP = .int .i64 (j:Int)∧((bf = .int .i64 0∧Hid (wR n (ts.drop p') j)∧Hid (Below wr.heap.size wr wq)) ∨
     (∃kd:Int,bf = .int .i64 kd∧Hid (fD n (ts.drop p')=kd)∧9≤kd∧Hid (aX wq b tv ts (p'+1) (deep:Int) 0 aM (vs++us))∧Hid (Fr wr wq b))))
     (fun _ vP _=>LL - (intOf vP).toNat)
    case atStart=>exact⟨0,cu _,rfl,.inl ⟨rfl,aa (by intro q y hq;omega),aa (ai _ _)⟩⟩
    case round =>
     obtain⟨j,hj,rfl,hk⟩:=hrel;rcases hk with ⟨rfl,HN,HB⟩|⟨kd,rfl,l7,Ij,xV,FW⟩
     · by_cases hjl:j<LL
       · have hji:(j:Int)<(LL:Int):=by omega
         obtain⟨q,hq⟩:∃q,(fC n)[j]? = some q:=⟨_,bn (by rw[zC.o];exact hjl)⟩;obtain⟨d0,d1⟩:=(j3.o.below HB.o).cells j q hq;have xV:=aa (gP.o.below HB.o);have HS:=aa (vZ xV.o q.1);rw[decide_eq_true rfl,Bool.true_and]at HS;have HQ:=aa hq;cases hs:au q.1 (ts.drop p')
         · rw[hs]at HS
           have ed:=aa (HN.o.succ hq hs);clear hs hq;go_wp2_with (go_at_call 136;((with_reducible refine HS.o.mono ?_);rintro e w4 ⟨rfl,h1⟩;have bG:=aa (HB.o.trans (h1.mono HB.o.size));clear h1))
           go_roundw
           case rel=>exact⟨j+1,by omega,by go_num,.inl ⟨rfl,ed,bG⟩⟩
           case measure=>simp[intOf];omega
         · have hnx:=xw xV.o hs
           rw[hs]at HS;have kH:=aa (HN.o.at hq hs);have hkr:=(YS n hn q (dz hq)).1;clear hs hq;go_upto_region 12 with (go_at_call 136;((with_reducible refine HS.o.mono ?_);rintro e w4 ⟨rfl,h1⟩;have bG:=aa (HB.o.trans (h1.mono HB.o.size));have dP:=aa (xV.o.below h1);obtain⟨z0,z1⟩:=(j3.o.below bG.o).cells j q HQ.o;clear h1))
           clear z0 z1 d0 d1 c3;obtain⟨c0,c1,c2,c3,c4⟩:=dP.o.facts;have f1:=dP.o.frozen 1;clear c0 c2 c3 c4;go_wp2_with fail
           go_roundw
           case rel=>exact⟨j+1,by omega,by go_num,.inr ⟨q.2,rfl,kH,hkr,aa (dP.o.next hnx),aa ((Fr.of b bG.o).setCell _ _)⟩⟩
           case measure=>simp[intOf];omega
       · have hji:¬ (j:Int)<(LL:Int):=by omega
         have h0:=HN.o.none (by rw[zC.o];omega);have hr:=HRR.o;rw[if_pos h0]at hr;injection hr with hr;have Bw:=aa hr.symm;have dP:=aa (gP.o.below HB.o);have dL:=aa (HF.o.below HB.o);have hlen:(vs++us).length=vs.length+us.length:=aj;clear hr h0;go_wp2_with fail
         go_ret;exact⟨dL.o,.inr ⟨_,_,_,Bw.o,rfl,p',aM,us,rfl,HU.o,HK.o,dP.o,by omega⟩⟩
     · have hk0:(kd == 0)=false:=by rw[beq_eq_false_iff_ne];omega
       have hr:=HRR.o;rw[if_neg (by rw[l7.o];omega),l7.o,List.tail_drop]at hr;have hlen:(vs++us).length=vs.length+us.length:=aj;have hbase:vs.length+ns'.length=(vs++us).length:=by rw[hlen,yL]
       rw[hbase]at hr;have hpq:=xV.o.lt;have LC:=aa (bZ HF.o.size FW.o.size);have KU:=aa (HF.o.trans FW.o);have TE:=aa (j3.o.fr FW.o hbs hbk);clear c3;have hjc:(j:Int)<(LL:Int)∨¬ (j:Int)<(LL:Int):=by omega
       rcases dQ hr with ⟨c,h1,h2⟩|⟨ms,b2,r2,h1,h2⟩
       · have qY:=aa h2
         have HL:=aa (show Calls Tryz.prog 99 #[.pointer (some ⟨b,0,none⟩),.int .i64 ((n:Int)+1)] wr (cB (n+1+6*deep) (.error c) wr b tv ts deep (vs++us))from qh.o g (by omega) (n+1) deep _ wr b tv ts (p'+1) aM (vs++us) tF mo xV.o (by omega) h1);clear h1 h2 hr HRR;rcases hjc with hji|hji
         all_goals
         go_upto_region 15 with (go_at_call 99;((with_reducible refine HL.o.mono ?_);intro e w5 ho;obtain⟨hf,hc,x,rfl,p5,d5,ni,dx,hk5,gU,zX,hd5,NA⟩:=ho.bad rfl;have aL:=aa (KU.o.trans hf);have bq:=aa gU;have l8:=aa hk5;have HC:=aa hc;clear hf hc ho gU hk5))
         have hbl:=bq.o.blt;have gT:Below w5.heap.size w5 (w5.alloc (.cells #[.int .i64 ((a':Nat):Int),.int .i64 x] 3)):=(ai _ _).alloc (ag _) _;have bM:=aa (bq.o.below gT);have cK:=aa (aL.o.below gT);have HA:=aa (show Calls Tryz.prog 137 #[.pointer (some ⟨b,0,none⟩),.agg #[.int .i64 kd,.int .i64 0,.string ⟨#[]⟩,.string ⟨#[]⟩,.int .i64 0,.int .i64 0,.bool false,.bool false,.string ⟨#[]⟩,.int .i64 0,.int .i64 0,.bool false,.bool false,.slice (some ⟨w5.heap.size,0,none⟩) 2 2]] (w5.alloc (.cells #[.int .i64 ((a':Nat):Int),.int .i64 x] 3)) _ from nW bM.o ⟨{ Nd.zero with kind:=kd,kids:=[((a':Nat):Int),x] },some (w5.heap.size,2)⟩ (Jq w5 (b+1) ((a':Nat):Int) (x) (by omega)) (by omega) (.slice (some ⟨w5.heap.size,0,none⟩) 2 2) rfl { Nd.zero with kind:=kd,kids:=[((a':Nat):Int),x] } rfl);clear gT;go_wp2_with (go_at_call 137;((with_reducible refine HA.o.mono ?_);rintro e w7 ⟨h1,rfl,yV,h3⟩;have bP:=aa (cK.o.trans h1);have bB:=aa h3;clear h1 h3))
         have Gg:=aa (show ∀u∈us++(dx++[⟨{ Nd.zero with kind:=kd,kids:=[((a':Nat):Int),x] },some (w5.heap.size,2)⟩]),∀j,u.bf.ownBlock=some j→w.heap.size≤j from by
          intro u hu j hj;rcases List.mem_append.1 hu with hu|hu
          · exact HK.o u hu j hj
          · rcases List.mem_append.1 hu with hu|hu
            · exact bZ LC.o (l8.o u hu j hj)
            · rw[List.mem_singleton.1 hu]at hj
              have hj:some w5.heap.size=some j:=hj;injection hj with hj;have:=aL.o.size;omega)
         go_roundw
         case rel =>
          refine .inr (aa ⟨c,_,d5,p5,yV,us++(dx++[⟨{ Nd.zero with kind:=kd,kids:=[((a':Nat):Int),x] },some (w5.heap.size,2)⟩]),rfl,qY.o,HC.o,Gg.o,by rw[← bO, ← bO];exact bB.o,bP.o, ?_,by omega,NA⟩);simp only[aj,fq]at zX ⊢;omega
         case measure =>
          have h1:=bB.o.uZ ts.length;rw[HM.o,h1,if_neg (show ¬ c=0 by rcases HC.o with h|h <;> omega)];simp only[if_true];omega
       · have HL:=aa (show Calls Tryz.prog 99 #[.pointer (some ⟨b,0,none⟩),.int .i64 ((n:Int)+1)] wr (cB (n+1+6*deep) (.ok (ms,b2,r2)) wr b tv ts deep (vs++us))from qh.o g (by omega) (n+1) deep _ wr b tv ts (p'+1) aM (vs++us) tF mo xV.o (by omega) h1)
         have H1:=aa h1;have H2:=aa h2;clear h1 h2 hr HRR;rcases hjc with hji|hji
         all_goals
         go_upto_region 15 with (go_at_call 99;((with_reducible refine HL.o.mono ?_);intro e w5 ho;obtain⟨hf,rfl,p5,ni,dx,kg,kr,hk5,gU,zX⟩:=ho.good rfl;have aL:=aa (KU.o.trans hf);have bq:=aa gU;have HD5:=aa kg;have jK:=aa kr;have l8:=aa hk5;have HV5:=aa (TE.o.fr hf hbs hbk);clear hf ho gU hk5 kg kr))
         obtain⟨hc1,hc2,hc3⟩:=wZ H1.o HD5.o bq.o.lt;have El:dx.length=ms.length:=by rw[← jK.o,dN]
         have Ef:((vs++us)++dx).length=vs.length+us.length+dx.length:=by rw[aj,aj]
         have XC:=bq.o.lt;have hbl:=bq.o.blt;have gT:Below w5.heap.size w5 (w5.alloc (.cells #[.int .i64 ((a':Nat):Int),.int .i64 ((b2:Nat):Int)] 3)):=(ai _ _).alloc (ag _) _;have bM:=aa (bq.o.below gT);have cK:=aa (aL.o.below gT);have HA:=aa (show Calls Tryz.prog 137 #[.pointer (some ⟨b,0,none⟩),.agg #[.int .i64 kd,.int .i64 0,.string ⟨#[]⟩,.string ⟨#[]⟩,.int .i64 0,.int .i64 0,.bool false,.bool false,.string ⟨#[]⟩,.int .i64 0,.int .i64 0,.bool false,.bool false,.slice (some ⟨w5.heap.size,0,none⟩) 2 2]] (w5.alloc (.cells #[.int .i64 ((a':Nat):Int),.int .i64 ((b2:Nat):Int)] 3)) _ from nW bM.o ⟨{ Nd.zero with kind:=kd,kids:=[((a':Nat):Int),((b2:Nat):Int)] },some (w5.heap.size,2)⟩ (Jq w5 (b+1) ((a':Nat):Int) (((b2:Nat):Int)) (by omega)) (by omega) (.slice (some ⟨w5.heap.size,0,none⟩) 2 2) rfl { Nd.zero with kind:=kd,kids:=[((a':Nat):Int),((b2:Nat):Int)] } rfl);have iF:=aa gT;clear gT;go_wp2_with (go_at_call 137;((with_reducible refine HA.o.mono ?_);rintro e w7 ⟨h1,rfl,yV,h3⟩;have qV:=aa h1;have bP:=aa (cK.o.trans h1);have bB:=aa h3;clear h1 h3))
         have Gg:=aa (show ∀u∈us++(dx++[⟨{ Nd.zero with kind:=kd,kids:=[((a':Nat):Int),((b2:Nat):Int)] },some (w5.heap.size,2)⟩]),∀j,u.bf.ownBlock=some j→w.heap.size≤j from by
          intro u hu j hj;rcases List.mem_append.1 hu with hu|hu
          · exact HK.o u hu j hj
          · rcases List.mem_append.1 hu with hu|hu
            · exact bZ LC.o (l8.o u hu j hj)
            · rw[List.mem_singleton.1 hu]at hj
              have hj:some w5.heap.size=some j:=hj;injection hj with hj;have:=aL.o.size;omega)
         have BC:=aa (HV5.o.fr ((Fr.of b iF.o).trans qV.o) hbs hbk)
         go_roundw
         case rel =>
          refine .inl (aa ⟨g,ns'++(ms++[{ Nd.zero with kind:=kd,kids:=[((a':Nat):Int),((b2:Nat):Int)] }]),vs.length+(ns'.length+ms.length),p5,yV,us++(dx++[⟨{ Nd.zero with kind:=kd,kids:=[((a':Nat):Int),((b2:Nat):Int)] },some (w5.heap.size,2)⟩]), ?_,by omega, ?_, ?_, ?_, ?_, ?_,Gg.o,by rw[← bO, ← bO];exact bB.o,bP.o,BC.o⟩)
          · congr 1
          · rw[aj,aj,fq];omega
          · rw[aj,aj,aj,aj,fq,fq];omega
          · rw[aj,aj,fq];omega
          · rw[HD5.o];exact H2.o
          · rw[iE,iE,HU.o,jK.o];rfl
         case measure =>
          have h1:=bB.o.uZ ts.length;rw[HM.o,h1];simp only[if_true];omega
theorem Qw:∀F:Nat,BD F∧GX F:=by
 intro F
 induction F using Nat.strongRecOn with
 | _ F ih =>
   have main:GX F:=by
    intro deep res w b tv ts p nv vs hd h hc hres
    match F,ih,hres with
    | 0,_,hres=>unfold eF at hres;cases hres
    | f+1,ih,hres=>exact acs f (fun g hg=>(ih g (by omega)).1) (fun g hg=>(ih g (by omega)).2) h hc hd res hres
   refine⟨?_,main⟩;intro n deep res w b tv ts p nv vs hn hd h hc hres;by_cases h3:n≤3
   · match F,ih,hres with
     | 0,_,hres=>unfold eF at hres;cases hres
     | f+1,ih,hres =>
     rw[pG,if_pos h3]at hres;exact acf f (fun g hg=>(ih g (by omega)).1) n h3 h hc hd res hres
   · have e4:n=4:=by omega
     subst e4;have HM:=aa (main deep res w b tv ts p nv vs hd h hc hres);clear hres h main ih hc hn h3;go_enter Tryz.func99,Tryz.ntmps99;go_wp2_with (go_at_call 134;((with_reducible refine HM.o.mono ?_);intro e w7 ho;have mP:=aa ho;obtain⟨c,rfl⟩:=ho.ret;clear ho))
     go_ret;exact mP.o
end Go.Proofs.YtdnooocmlhcpkaaGreatDoor
