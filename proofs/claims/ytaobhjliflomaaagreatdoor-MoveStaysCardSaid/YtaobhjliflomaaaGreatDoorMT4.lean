import Derived.Test.YtaobhjliflomaaaGreatDoorMT3
import Derived.Deep.RegionWith
import Derived.Deep.CutBlock
set_option maxRecDepth 100000
set_option maxHeartbeats 64000000
namespace Go.Proofs.YtaobhjliflomaaaGreatDoor
open Go.RowKit
def A7:Nat→Nat→List ag→Prop
 | p,q,[]=>p≤q
 | p,q,t :: ts=>∃m:Nat,t.pos=(m:Int)∧p≤m∧m≤q∧A7 m q ts
theorem A7.less {p p' q:Nat}(h:p'≤p):∀ {ts:List ag},A7 p q ts→A7 p' q ts
 | [],k=>bF h k
 | _ :: _,⟨m,h1,h2,h3,h4⟩=>⟨m,h1,bF h h2,h3,h4⟩
theorem Re:∀(f p:Nat)(l:List Int)(ts:List ag),eB f p l=some ts→A7 p (p+l.length) ts
 | f,p,[],ts,h=>by
   have h0:eB f p []=some [ag.zero.goto p]:=by unfold eB;rfl
   rw[h0]at h;injection h with h;subst h;exact⟨p,rfl,ah _,by simp,by simp[A7]⟩
 | 0,_,_ :: _,_,h=>by unfold eB at h;cases h
 | f + 1,p,x :: l,ts,h=>by
   rw[rC]at h;by_cases hx:x=32
   · rw[if_pos hx]at h
     have:=Re f (p+1) l ts h;rw[show p+1+l.length=p+(x :: l).length by simp only[aO];omega]at this;exact this.less (Nat.le_succ _)
   · rw [if_neg hx]at h
     cases hq:eO (x :: l)with
     | none=>rw[hq]at h;cases h
     | some q =>
       obtain⟨t0,n⟩:=q;have hn:=qK _ _ _ hq;rw[hq]at h;simp only[Option.map_eq_some_iff]at h;obtain⟨us,h1,rfl⟩:=h;have:=Re f (p+n) ((x :: l).drop n) us h1;rw[show p+n+((x :: l).drop n).length=p+(x :: l).length by rw[List.length_drop];omega]at this;exact⟨p,rfl,ah _,by omega,this.less (by omega)⟩
theorem KI (s:ByteArray)(ts:List ag)(h:fT (sb s)=some ts):ts≠[]:=by
 have key : ∀ (f p:Nat)(l:List Int)(ts:List ag),eB f p l=some ts→ts≠[]:=by
  intro f
  induction f with
  | zero =>
    intro p l ts h;cases l with
    | nil => have h0:eB 0 p []=some [ag.zero.goto p]:=by unfold eB;rfl
             rw[h0]at h;injection h with h;subst h;simp
    | cons x l=>unfold eB at h;cases h
  | succ f ih =>
    intro p l ts h;cases l with
    | nil => have h0:eB (f+1) p []=some [ag.zero.goto p]:=by unfold eB;rfl
             rw[h0]at h;injection h with h;subst h;simp
    | cons x l =>
      rw[rC]at h;by_cases hx:x=32
      · rw[if_pos hx]at h;exact ih _ _ _ h
      · rw [if_neg hx]at h
        split at h
        · cases h
        · simp only[Option.map_eq_some_iff]at h
          obtain⟨us,_,rfl⟩:=h;simp
 exact key _ _ _ _ h
theorem Rh (s:ByteArray)(ts:List ag)(h:fT (sb s)=some ts):ts.length≤s.size+1:=by
 have key : ∀ (f p:Nat)(l:List Int)(ts:List ag),eB f p l=some ts→ts.length≤l.length+1:=by
  intro f
  induction f with
  | zero =>
    intro p l ts h;cases l with
    | nil => have h0:eB 0 p []=some [ag.zero.goto p]:=by unfold eB;rfl
             rw[h0]at h;injection h with h;subst h;simp
    | cons x l=>unfold eB at h;cases h
  | succ f ih =>
    intro p l ts h;cases l with
    | nil => have h0:eB (f+1) p []=some [ag.zero.goto p]:=by unfold eB;rfl
             rw[h0]at h;injection h with h;subst h;simp
    | cons x l =>
      rw[rC]at h;by_cases hx:x=32
      · rw[if_pos hx]at h;have:=ih _ _ _ h;simp only[aO];omega
      · rw [if_neg hx]at h
        cases hq:eO (x :: l)with
        | none=>rw[hq]at h;cases h
        | some q =>
          obtain⟨t0,n⟩:=q;have hn:=qK _ _ _ hq;rw[hq]at h;simp only[Option.map_eq_some_iff]at h;obtain⟨us,h1,rfl⟩:=h;have:=ih _ _ _ h1;rw[List.length_drop]at this;simp only[aO]at this hn ⊢;omega
 have:=key _ _ _ _ h;rw[aV]at this;exact this
theorem o7{w w':World}(h:Below w.heap.size w w')(n:Nat):Below w.heap.size w (w'.drewN n):=⟨h.os,h.tape,h.output,h.size,h.block⟩
theorem Ro (s:ByteArray)(w:World)(hv:Vars w)(hs:300<s.size) :
 Calls Tryz.prog 59 #[.string s] w fun e w'=>Below w.heap.size w w'∧e = .returned (.tuple #[.slice none 0 0,.int .i64 4]):=by
 refine(KL s w hv).mono ?_;rintro e w' ⟨hb,⟨_,rfl⟩|⟨h,_⟩|⟨h,_⟩⟩
 · exact⟨hb,rfl⟩
 · omega
 · omega
theorem TP (kd:Int)(l:Array Value)(hl:l[0]? = some (.int .i64 kd))(w:World):Sem.run Tryz.prog (Instr.field 71 (.agg l) 0) w = .ok (.int .i64 kd) w:=by
 simp[Instr.field,run_underlying Tryz.underlying71,part,isAgg,run_underlying Tryz.underlying3,asAgg,hl,go_sem]
def iB (s:ByteArray)(res:Except Int (List Nd)):Prop :=
 (300<s.size∧res = .error 4)∨(s.size≤300∧fT (sb s)=none∧res = .error 5)∨(s.size≤300∧∃ts f,fT (sb s)=some ts∧kY f ts=some res)
theorem iB.all (s:ByteArray):∃res,iB s res:=by
 by_cases h:300<s.size
 · exact⟨_,.inl ⟨h,rfl⟩⟩
 · cases hl:fT (sb s)with
   | none=>exact⟨_,.inr (.inl ⟨by omega,hl,rfl⟩)⟩
   | some ts =>
     obtain⟨f,y,hy⟩:=adC ts;exact⟨y,.inr (.inr ⟨by omega,ts,f,hl,hy⟩)⟩
def WR (res:Except Int (List Nd))(w:World)(e:Ending)(w':World):Prop :=
 Below w.heap.size w w'∧((∃c,res = .error c∧e = .returned (.tuple #[.slice none 0 0,.int .i64 c])) ∨
  (∃ns nv vs,res = .ok ns∧vs.map az.n=ns∧e = .returned (.tuple #[nv,.int .i64 0])∧jI w' w.heap.size nv vs∧bR ns=true))
theorem jI.mono{w:World}{lo lo':Nat}{nv:Value}{vs:List az}(h:jI w lo nv vs)(hl:lo'≤lo):jI w lo' nv vs:=⟨h.1.mono hl,fun v hv=>(h.2 v hv).mono hl⟩
theorem SA (s:ByteArray)(w:World)(hv:Vars w)(ho:mQ w)(res:Except Int (List Nd))(hp:iB s res) :
 Calls Tryz.prog 36 #[.string s] w (WR res w):=by
 rcases hp with ⟨h1,rfl⟩|⟨h1,h2,rfl⟩|⟨h1,ts,f,h2,h3⟩
 · have HL:=ae (Ro s w hv h1)
   clear hv ho h1;go_enter Tryz.func36,Tryz.ntmps36;go_wp2_with (go_at_call 59;((with_reducible refine HL.o.mono ?_);rintro e w1 ⟨hb,rfl⟩;have HB:=ae hb;clear hb))
   go_ret2
   exact⟨HB.o,.inl ⟨4,rfl,rfl⟩⟩
 · have HL:=ae (Rn s w hv h1 h2)
   clear hv ho h1 h2;go_enter Tryz.func36,Tryz.ntmps36;go_wp2_with (go_at_call 59;((with_reducible refine HL.o.mono ?_);rintro e w1 ⟨hb,rfl⟩;have HB:=ae hb;clear hb))
   go_ret2
   exact⟨HB.o,.inl ⟨5,rfl,rfl⟩⟩
 · obtain ⟨wT,zC⟩:=F3 s ts h2
   have hlen:=Rh s ts h2;have hne:=List.length_pos_iff.2 (KI s ts h2);have HL:=ae (Rm s w hv h1 ts h2 hne);have hvl:=hv.lt;have hol:=ho.lt;have ND:=ae ho;have Cj:=ae zC;have Wx:=ae (fun ns (h:res = .ok ns)=>SC (by rw[← h];exact h3) wT);unfold kY at h3;have H3:=ae h3;obtain⟨nt,hnt⟩:∃nt,ts.length=nt:=⟨_,rfl⟩;have lF:=ae hnt;rw[hnt]at HL hlen hne;clear hv ho h2 h3 wT zC hnt;go_enter Tryz.func36,Tryz.ntmps36;go_upto_region 5 with (go_at_call 59;((with_reducible refine HL.o.mono ?_);rintro e w1 ⟨hb,g1,eU,rfl,hg0,hg1,ho⟩;have fB:=ae ho;have HB:=ae hb;clear hb ho))
   have hB2:Below w1.heap.size w1 (w1.alloc (.cells #[.slice (some ⟨g1,0,none⟩) nt eU,.int .i64 0,.int .i64 0,.slice none 0 0] 113)):=(ai _ _).alloc (ah _) _;have hC2:(w1.alloc (.cells #[.slice (some ⟨g1,0,none⟩) nt eU,.int .i64 0,.int .i64 0,.slice none 0 0] 113)).heap[w1.heap.size]? = some (.cells #[.slice (some ⟨g1,0,none⟩) nt eU,.int .i64 0,.int .i64 0,.slice none 0 0] 113):=(ko w1 _).1;have mO:=ae (fB.o.below hB2 (ah _));have IE:=ae (ND.o.below (HB.o.trans (hB2.mono HB.o.size)));have HZ1:=ae HB.o.size;have HB2:=ae (HB.o.trans (hB2.mono HB.o.size));clear hB2 HB HL fB ND;generalize w1.alloc (.cells #[.slice (some ⟨g1,0,none⟩) nt eU,.int .i64 0,.int .i64 0,.slice none 0 0] 113)=w2 at hC2 mO IE HB2 ⊢;obtain⟨b,hb⟩:∃b,w1.heap.size=b:=⟨_,rfl⟩;rw[hb]at hC2 hg1 HZ1 ⊢;have hz1:=HZ1.o
   have HP:=ae (show bN w2 b (.slice (some ⟨g1,0,none⟩) nt eU) ts 0 0 (.slice none 0 0) []from
    ⟨hC2,⟨g1,eU,by rw[lF.o],hg1,mO.o.mono (dV _)⟩,jI.nil _ _,IE.o,by rw[lF.o];exact hne,by omega,Cj.o,by rw[lF.o];omega,dV _,by omega⟩)
   clear hb hC2 mO IE Cj w1;rcases dP H3.o with ⟨c,g2,rfl⟩|⟨ns,a,r,g2,g3⟩
   · have HX:=ae (show Calls Tryz.prog 60 #[.pointer (some ⟨b,0,none⟩),.int .i64 0] w2 (Out (.error c) w2 b (.slice (some ⟨g1,0,none⟩) nt eU) ts 0 [])from Ph f 0 0 _ w2 b _ ts 0 _ [] (by omega) HP.o g2)
     clear g2 H3;go_wp2_with (go_at_call 60;((with_reducible refine HX.o.mono ?_);intro e w5 ho;obtain⟨hf,hc,rfl⟩:=ho.bad rfl;have eP:=ae (HB2.o.trans (hf.toBelow hz1 HB2.o.size));have hc0:(c != 0)=true:=(by rw[bne_iff_ne];rcases hc with h|h <;> omega);clear hf hc ho))
     go_ret2
     exact⟨eP.o,.inl ⟨c,rfl,rfl⟩⟩
   · have HX:=ae (show Calls Tryz.prog 60 #[.pointer (some ⟨b,0,none⟩),.int .i64 0] w2 (Out (.ok (ns,a,r)) w2 b (.slice (some ⟨g1,0,none⟩) nt eU) ts 0 [])from Ph f 0 0 _ w2 b _ ts 0 _ [] (by omega) HP.o g2)
     have hns:=((uU f).1 _ _ _ _ _ _ _ g2).2.2;have H4:=ae g3;clear g2 g3 H3;go_upto_region 8 with (go_at_call 60;((with_reducible refine HX.o.mono ?_);intro e w5 ho;obtain⟨hf,rfl,p5,nP,dz,kU,kW,hk5,iD⟩:=ho.ry rfl;have eP:=ae (HB2.o.trans (hf.toBelow hz1 HB2.o.size));have aP:=ae iD;have HD5:=ae kU;have ky:=ae kW;clear hf ho kU kW hk5 iD))
     obtain⟨gt,ct,t, -,ht,hd, -⟩:=aP.o.tok;have h4:=H4.o;rw[← HD5.o,hd]at h4;have aM:=ae (Gu aP.o t ht);obtain⟨g5,OQ,rfl, -⟩:=Own.some aP.o.nodes.1 (show 0<([]++dz).length by rw[gL, ← fw (f:=az.n),ky.o];omega);obtain⟨kd,hkd⟩:∃kd,t.kind=kd:=⟨_,rfl⟩;rw[hkd]at aM;clear HX ht hd H4;by_cases h0:t.kind=0
     · rw[show sN (t :: ts.drop (p5+1))=t.kind from rfl,if_pos h0]at h4
       injection h4 with h4;have HR:=ae h4.symm;have e0:(kd != 0)=false:=by rw[← hkd,h0];rfl
       clear h4 h0 hkd;go_wp2_with (go_at_call 61;((with_reducible refine aM.o.mono ?_);rintro e w6 ⟨rfl,h1⟩;have nU:=ae (eP.o.trans (h1.mono eP.o.size));have dE:=ae (aP.o.below h1);obtain⟨c0,c1,c2,c3⟩:=dE.o.facts;have ZG:=TP kd #[.int .i64 kd,.string t.text,.int .i64 t.num,.string t.sh,.int .i64 t.c,.int .i64 t.r,.bool t.ac,.bool t.ar,.int .i64 t.pos] rfl w6;clear h1))
       go_ret2
       exact⟨nU.o,.inr ⟨ns,_,[]++dz,HR.o,by rw[gL];exact ky.o,rfl,dE.o.nodes.mono (by omega),Wx.o ns HR.o⟩⟩
     · rw[show sN (t :: ts.drop (p5+1))=t.kind from rfl,if_neg h0]at h4
       injection h4 with h4;have HR:=ae h4.symm;have e0:(kd != 0)=true:=by rw[bne_iff_ne, ← hkd];exact h0
       clear h4 h0 hkd;go_wp2_with (go_at_call 61;((with_reducible refine aM.o.mono ?_);rintro e w6 ⟨rfl,h1⟩;have nU:=ae (eP.o.trans (h1.mono eP.o.size));have ZG:=TP kd #[.int .i64 kd,.string t.text,.int .i64 t.num,.string t.sh,.int .i64 t.c,.int .i64 t.r,.bool t.ac,.bool t.ar,.int .i64 t.pos] rfl w6;clear h1))
       go_ret2
       exact⟨nU.o,.inl ⟨5,HR.o,rfl⟩⟩
theorem adE (s:ByteArray)(w:World)(hv:Vars w)(ho:mQ w)(ns:List Nd)(hp:iB s (.ok ns))(hne:0<ns.length) :
 Calls Tryz.prog 36 #[.string s] w fun e w'=>Below w.heap.size w w'∧∃g cap vs,e = .returned (.tuple #[.slice (some ⟨g,0,none⟩) ns.length cap,.int .i64 0])∧vs.map az.n=ns∧vs.length=ns.length∧jI w' w.heap.size (.slice (some ⟨g,0,none⟩) ns.length cap) vs∧bR ns=true:=by
 refine(SA s w hv ho _ hp).mono ?_;rintro e w' ⟨hb,⟨c',h1,h2⟩|⟨ns',nv,vs,h1,h2,h3,h4,h5⟩⟩
 · cases h1
 · injection h1 with h1;subst h1
   have hl:vs.length=ns.length:=by rw[← h2,fw]
   obtain⟨g,cap,rfl, -⟩:=Own.some h4.1 (by omega);rw[hl]at h3 h4;exact⟨hb,g,cap,vs,h3,h2,hl,h4,h5⟩
theorem jI.cell {w:World}{lo g n cap:Nat}{vs:List az}(h:jI w lo (.slice (some ⟨g,0,none⟩) n cap) vs)(i:Nat)(v:az)(hi:vs[i]? = some v)(j:Nat)(hj:j<14):w.cell? ⟨g,i*14+j,none⟩=(bJ v.n v.aS).toList[j]? := by
 have hl:(bJ v.n v.aS).toList.length=14:=rfl;have hu:(o8.f v)[j]? = some ((bJ v.n v.aS).toList[j]'(by omega)):=dm _;have:=Own.cells h.1 (i*14+j) _ (by rw[o8.at vs i j v hi hj];exact hu);rw[this];exact hu.symm
theorem afm:∀(n u:Nat),u<n→sb ⟨(Lib.decDigits u).toArray⟩=aQ u:=by
 have TS:∀l:List UInt8,sb ⟨l.toArray⟩=l.map (fun b=>(b.toNat:Int)):=fun l=>rfl
 intro n
 induction n with
 | zero=>intro u h;omega
 | succ n ih =>
   intro u hu;rw[TS,Lib.decDigits];by_cases h:u<10
   · rw[dif_pos h,ou u h]
     simp only[jr,List.map_nil];rw[UInt8.toNat_ofNat_of_lt' (by show 48+u<256;omega)];congr 1
   · rw[dif_neg h,sF u h,iy, ← TS,ih (u / 10) (by omega)]
     simp only[jr,List.map_nil];rw[UInt8.toNat_ofNat_of_lt' (by show 48+u % 10<256;omega)];congr 1
theorem Yp (u:Nat):(⟨(Lib.decDigits u).toArray⟩:ByteArray)=strOfNums (aQ u):=by
 rw[← l5 ⟨(Lib.decDigits u).toArray⟩,afm (u+1) u (by omega)]
def kP (w : World) : Prop := Lib.TabIs Tryz.prog w "internal/strconv.uint64pow10" .u64 Lib.pow10Tab
theorem Py : Tryz.prog.globalNamed "internal/strconv.uint64pow10" = some 3 := by kernel_rfl
theorem kP.below {w w':World}(h:kP w)(hb:Below w.heap.size w w'):kP w':=by
 unfold kP Lib.TabIs World.var? at h ⊢;rw[Py]at h ⊢;simp only[Option.bind_some]at h ⊢;rw[hb.block _ ?_]
 · exact h
 · rcases Nat.lt_or_ge 3 w.heap.size with h'|h'
   · exact h'
   · rw[Array.getElem?_eq_none h']at h;cases h
theorem Xw (w:World)(k:Nat)(os:Array Obj):Below w.heap.size w (Sort.grow (w.drewN k) os):=by
 refine⟨rfl,rfl,rfl, ?_, ?_⟩
 · show w.heap.size≤(w.heap++os).size
   simp
 · intro j hj
   show(w.heap++os)[j]? = w.heap[j]?;rw[Array.getElem?_append_left hj]
theorem QW (n:Nat)(_h1:n≤9223372036854775807)(w:World)(ht:kP w) :
 Calls Tryz.prog 129 #[.int .i64 (n:Int)] w fun e w'=>e = .returned (.string (strOfNums (aQ n)))∧Below w.heap.size w w':=by
 refine(Tryz.strconv_Itoa (n:Int) (by omega) (by omega) w ht).mono ?_;rintro e w' ⟨rfl,k,os,rfl⟩;refine⟨?_,Xw w k os⟩;have:Lib.itoa (n:Int)=Lib.decDigits n:=by unfold Lib.itoa;rw[if_neg (by omega)];rfl
 rw[this,Yp]
theorem zV (s:ByteArray)(c r:Int)(ac ar:Bool)(w:World)(_hs:s.size≤1000000) :
 Calls Tryz.prog 108 #[.agg #[.string s,.int .i64 c,.int .i64 r,.bool ac,.bool ar]] w fun e w'=>e = .returned (.bool (di (sb s) c r))∧Below w.heap.size w w':=by
 by_cases h0:s.size=0
 · have:=uR s h0
   subst this;have hm:di (sb ⟨#[]⟩) c r=decide (0≤c∧c≤701∧0≤r∧r≤998):=by unfold di;rw[show decide (sb ⟨#[]⟩=[])=true from by decide,Bool.true_or,Bool.true_and]
   have HM:=ae hm;clear hm;go_enter Tryz.func108,Tryz.ntmps108
   go_wp2
   all_goals go_ret
   all_goals exact⟨fD (by rw[HM.o];first|(symm;rw[decide_eq_true_iff];omega)|(symm;rw[decide_eq_false_iff_not];omega)|(rw[decide_eq_decide];omega)),(ai _ _).alloc (ah _) _⟩
 · have hne:=rG s h0
   have vN:s.toList.isEmpty=false:=by cases hq:s.toList with|nil=>exact absurd hq hne|cons a l=>rfl
   have hm:di (sb s) c r=(gX (sb s)&&decide (0≤c∧c≤701∧0≤r∧r≤998)):=by
    unfold di;rw[decide_eq_false (by intro h;have:=aV s;rw[h]at this;exact h0 this.symm),Bool.false_or]
   have HM:=ae hm;clear hm h0;by_cases hn:gX (sb s)=true
   · go_enter Tryz.func108,Tryz.ntmps108
     go_wp2_with (first
      | (go_at_call 135;((with_reducible refine(Gc _ _ ?_).mono ?_);(first|omega|skip);rintro e w' ⟨rfl,rfl⟩)))
     all_goals go_ret
     all_goals exact⟨fD (by rw[HM.o,hn,Bool.true_and];first|(symm;rw[decide_eq_true_iff];omega)|(symm;rw[decide_eq_false_iff_not];omega)|(rw[decide_eq_decide];omega)),(ai _ _).alloc (ah _) _⟩
   · have hn':gX (sb s)=false:=by simpa using hn
     clear hn;go_enter Tryz.func108,Tryz.ntmps108
     go_wp2_with (first
      | (go_at_call 135;((with_reducible refine(Gc _ _ ?_).mono ?_);(first|omega|skip);rintro e w' ⟨rfl,rfl⟩)))
     all_goals go_ret
     all_goals exact⟨fD (by rw[HM.o,hn',Bool.false_and]),(ai _ _).alloc (ah _) _⟩
theorem acH (s:ByteArray)(h:jb (sb s)=true)(hr:gH s=none):∃t ts,fT (sb s)=some (t :: ts)∧t.kind=3∧t.text=s:=by
 have hc:=h;unfold jb at hc;rw[dA,dA,decide_eq_true_iff,decide_eq_true_iff]at hc;obtain⟨c1,c2,c3⟩:=hc;have hs:=l5 s;cases hq:sb s with
 | nil=>rw[hq]at c2;simp at c2
 | cons x l =>
   rw[hq]at c1 c3 hs h
   have aX:∀y∈x :: l,isWord y=true:=by
    intro y hy;have:=c1 y hy;rw[Bool.or_eq_true]at this;rcases this with g|g
    · rw[FP,QM g];rfl
    · rw[FP,g];simp
   have hx:aL x=true:=by simpa using c3
   have hxr:65≤x∧x≤90:=by unfold aL at hx;rw[decide_eq_true_iff]at hx;omega
   have h1:¬ isNum x=true:=by unfold isNum;rw[decide_eq_true_iff];omega
   have hl:isLet x=true:=by unfold isLet;rw[decide_eq_true_iff];omega
   have ht:(x :: l).takeWhile isWord=x :: l:=by
    have:=uT isWord (x :: l) [] aX (fun y hy=>by simp at hy);rw[fM]at this;exact this
   have FE:eO (x :: l)=some ({ ag.zero with kind:=3,text:=s },(x :: l).length):=by
    rw[qJ,if_neg h1,if_neg (by omega),if_neg (by omega),if_pos (.inl hl)];unfold l7;rw[ht,hs,hr];simp only;rw[if_pos h]
   refine⟨({ ag.zero with kind:=3,text:=s }:ag).goto 0,[ag.zero.goto (0+(x :: l).length)], ?_,rfl,rfl⟩;unfold fT;rw[aO,rC,if_neg (by omega),FE];simp only;rw[List.drop_length];have:eB l.length (0+(x :: l).length) []=some [ag.zero.goto (0+(x :: l).length)]:=by unfold eB;rfl
   rw[this];rfl
theorem JA(s:ByteArray):jy s=((jb (sb s)&&(gH s).isNone)&&(decide (¬ s=⟨#[84,82,85,69]⟩)&&decide (¬ s=⟨#[70,65,76,83,69]⟩))):=by unfold jy;rw[Bool.and_assoc]
theorem OL (s:ByteArray)(h:∀t ts,fT (sb s)=some (t :: ts)→¬ (t.kind=3∧t.text=s)):jy s=false:=by
 rw[JA];cases hc:jb (sb s)
 · rfl
 · cases hr:gH s with
   | some d=>rfl
   | none =>
     obtain⟨t,ts,h1,h2,h3⟩:=acH s hc hr;exact absurd ⟨h2,h3⟩ (h t ts h1)
theorem XD (s:ByteArray)(h:12<s.size):jy s=false:=by
 rw[JA]
 have:jb (sb s)=false:=by
  unfold jb;rw[decide_eq_false (show ¬ (1≤(sb s).length∧(sb s).length≤12)by rw[aV];omega),Bool.false_and,Bool.and_false]
 rw[this];rfl
theorem aaL (s:ByteArray)(w:World)(hv:Vars w):Calls Tryz.prog 126 #[.string s] w fun e w'=>e = .returned (.bool (jy s))∧Below w.heap.size w w':=by
 have bad:∀c:Int,(c != 0)=true→jy s=false→(Calls Tryz.prog 59 #[.string s] w fun e w'=>Below w.heap.size w w'∧e = .returned (.tuple #[.slice none 0 0,.int .i64 c])) →
  Calls Tryz.prog 126 #[.string s] w fun e w'=>e = .returned (.bool (jy s))∧Below w.heap.size w w':=by
  intro c hc hb hl;have HL:=ae hl;have HB0:=ae hb;have hc2:(c == 0)=false:=by rw[beq_eq_false_iff_ne];exact bne_iff_ne.1 hc
  clear hl hb;go_enter Tryz.func126,Tryz.ntmps126;go_wp2_with (go_at_call 59;((with_reducible refine HL.o.mono ?_);rintro e w1 ⟨hb,rfl⟩;have HB:=ae hb;clear hb))
  go_ret;exact⟨by rw[HB0.o] <;> rfl,HB.o⟩
 by_cases qj:300<s.size
 · exact bad 4 rfl (XD s (by omega)) (Ro s w hv qj)
 · cases hl : fT (sb s)with
   | none=>exact bad 5 rfl (OL s (fun t ts h=>by rw[hl]at h;cases h)) (Rn s w hv (by omega) hl)
   | some ts =>
     have hne:=KI s ts hl;obtain⟨wT,_⟩:=F3 s ts hl
     match ts,hne,hl,wT with
     | t :: tl,_,hl,wT =>
     have HX:=ae (Rm s w hv (by omega) (t :: tl) hl (by simp));have hg:=wT t (by simp);obtain⟨kd,hkd⟩:∃kd,t.kind=kd:=⟨_,rfl⟩;obtain⟨tx,htx⟩:∃tx,t.text=tx:=⟨_,rfl⟩;have HC:=ae (fun h=>OL s (fun t' ts' h'=>by rw[hl]at h';injection h' with h';injection h' with h1 h2;subst h1;exact h))
     have HG:=ae (show kd=3→tx=s→jy s=(decide (¬ s=⟨#[84,82,85,69]⟩)&&decide (¬ s=⟨#[70,65,76,83,69]⟩))from by
      intro h1 h2;obtain⟨g1,g2⟩:=hg.name (by rw[hkd,h1]);rw[htx,h2]at g1 g2;rw[JA,g1,g2];rfl)
     have HK:=ae hkd;have HT:=ae htx;obtain⟨n,hn⟩:∃n,(t :: tl).length=n:=⟨_,rfl⟩;have hn1:0<n:=by rw[← hn];simp
     rw[hn]at HX;have q1:=yP s ⟨#[84,82,85,69]⟩;have q2:=yP s ⟨#[70,65,76,83,69]⟩;rw[F5]at q1;rw[F4]at q2;clear hl wT hg hkd htx hn hne bad;go_enter Tryz.func126,Tryz.ntmps126;go_upto_region 2 with (go_at_call 59;((with_reducible refine HX.o.mono ?_);rintro e w1 ⟨hb,g,cap,rfl,hg0,hg1,ho⟩;have HB:=ae hb;have k0:w1.cell? ⟨g,0,none⟩=some (.int .i64 kd):=((rq.cell ho 0 t rfl 0 (by omega)).trans (by show some (Value.int .i64 t.kind)=_;rw[HK.o]));have k1:w1.cell? ⟨g,1,none⟩=some (.string tx):=((rq.cell ho 0 t rfl 1 (by omega)).trans (by show some (Value.string t.text)=_;rw[HT.o]));clear hb ho))
     have hni:(0:Int)<(n:Int):=by omega
     by_cases h3:kd=3
     · have e3:(kd == 3)=true:=beq_iff_eq.2 h3
       by_cases hs:tx=s
       · have HR:=ae (HG.o h3 hs)
         have q3:(tx.toList == s.toList)=true:=by rw[hs];simp
         clear h3 hs HC HG HK HT HX;by_cases h1:s=⟨#[84,82,85,69]⟩
         · rw[decide_eq_true h1]at q1
           rw[decide_eq_false (show ¬ ¬ s=⟨#[84,82,85,69]⟩from fun h=>h h1),Bool.false_and]at HR;have Li:(s.toList != [84,82,85,69])=false:=by rw[bne,q1];rfl
           clear h1;go_wp2_with fail
           go_ret;exact⟨by rw[HR.o] <;> rfl,HB.o⟩
         · rw [decide_eq_false h1]at q1
           rw[decide_eq_true h1,Bool.true_and]at HR;have Li:(s.toList != [84,82,85,69])=true:=by rw[bne,q1];rfl
           clear h1;by_cases h2:s=⟨#[70,65,76,83,69]⟩
           · rw[decide_eq_true h2]at q2
             rw[decide_eq_false (show ¬ ¬ s=⟨#[70,65,76,83,69]⟩from fun h=>h h2)]at HR;have Lj:(s.toList != [70,65,76,83,69])=false:=by rw[bne,q2];rfl
             clear h2;go_wp2_with fail
             go_ret;exact⟨by rw[HR.o] <;> rfl,HB.o⟩
           · rw[decide_eq_false h2]at q2
             rw[decide_eq_true h2]at HR;have Lj:(s.toList != [70,65,76,83,69])=true:=by rw[bne,q2];rfl
             clear h2;go_wp2_with fail
             go_ret;exact⟨by rw[HR.o] <;> rfl,HB.o⟩
       · have HR:=ae (HC.o (fun h=>hs (by rw[← HT.o];exact h.2)))
         have q3:(tx.toList == s.toList)=false:=beq_eq_false_iff_ne.2 (pR _ _ hs);clear h3 hs HC HG HK HT HX;go_wp2_with fail
         go_ret;exact⟨by rw[HR.o] <;> rfl,HB.o⟩
     · have HR:=ae (HC.o (fun h=>h3 (by rw[← HK.o];exact h.1)))
       have e3:(kd == 3)=false:=beq_eq_false_iff_ne.2 h3;clear h3 HC HG HK HT HX;go_wp2_with fail
       go_ret;exact⟨by rw[HR.o] <;> rfl,HB.o⟩
theorem SK (s:ByteArray)(k:Nat)(h:k<s.size)(hx:((s[k].toNat:Nat):Int)<32):lI (sb s)=false:=by
 unfold lI;rw[decide_eq_false_iff_not];intro aX;exact aX _ (fu (pJ s k h)) hx
theorem SI (s:ByteArray)(h:∀(j:Nat)(hj:j<s.size),¬ ((s[j].toNat:Nat):Int)<32):lI (sb s)=true:=by
 unfold lI;rw[decide_eq_true_iff];intro x hx;obtain⟨j,hj,rfl⟩:=List.mem_iff_getElem.1 hx;rw[aV]at hj;have:=pJ s j hj;rw[dm (by rw[aV];exact hj)]at this;rw[dU this];exact h j hj
theorem aaP (s:ByteArray)(w:World)(_hs:s.size≤1000000):Calls Tryz.prog 124 #[.string s] w fun e w'=>e = .returned (.bool (lI (sb s)))∧w=w':=by
 go_enter Tryz.func124,Tryz.ntmps124;go_wp2_with fail
 go_loopw [6] (fun i wr=>∃k:Nat,k≤s.size∧i = .int .i64 k∧Hid (∀(j:Nat)(hj:j<s.size),j<k→¬ ((s[j].toNat:Nat):Int)<32)∧w=wr)
  (fun i _=>s.size - (intOf i).toNat)
 case atStart=>exact⟨0,by omega,rfl,ae (by intro j _ hj;omega),rfl⟩
 case round =>
  obtain⟨k,hk,rfl,HG,rfl⟩:=hrel;by_cases hlt:k<s.size
  · have hki:(k:Int)<(s.size:Int):=by omega
    obtain⟨a,ha⟩:∃a:Int,(s[k].toNat:Int)=a:=⟨_,rfl⟩;have ha1:0≤a∧a≤255:=by have:=s[k].toNat_lt;omega
    have HA:=ae ha;by_cases h32:a<32
    · have HB:=ae (SK s k hlt (by rw[ha];exact h32))
      go_wp2_with fail
      go_ret;exact⟨by rw[HB.o] <;> rfl,rfl⟩
    · go_wp2_with fail
      go_roundw
      case rel =>
       refine⟨k+1,by omega,by go_num,ae ?_,by first|rfl|trivial⟩;intro j hj hjk;by_cases e:j=k
       · subst e;rw[HA.o];exact h32
       · exact HG.o j hj (by omega)
      case measure=>simp[intOf];omega
  · have hki:¬ (k:Int)<(s.size:Int):=by omega
    have HB:=ae (SI s (fun j hj=>HG.o j hj (by omega)));go_wp2_with fail
    go_ret;exact⟨by rw[HB.o] <;> rfl,rfl⟩
def vZ(k:Int):Bool:=decide (9≤k∧k≤19)
theorem Dt (k:Int)(w:World):Calls Tryz.prog 127 #[.int .i64 k] w fun e w'=>e = .returned (.bool (vZ k))∧w=w':=by
 go_enter Tryz.func127,Tryz.ntmps127;by_cases h1:9≤k
 · by_cases h2:k≤19
   · go_wp2
     go_ret;exact⟨fD (by unfold vZ;symm;rw[decide_eq_true_iff];exact⟨h1,h2⟩),rfl⟩
   · go_wp2
     go_ret;exact⟨fD (by unfold vZ;symm;rw[decide_eq_false_iff_not];omega),rfl⟩
 · go_wp2
   go_ret;exact⟨fD (by unfold vZ;symm;rw[decide_eq_false_iff_not];omega),rfl⟩
def hkB(kind:Int)(m:Nat):Bool:=if kind=7 then true else if kind=8 then decide (m=1)else if vZ kind=true then decide (m=2)else decide (m=0)
theorem Zp (n:Nd)(A:Option Addr)(m c:Nat)(hm:m≤maxLen)(w:World):Calls Tryz.prog 93 #[.agg #[.int .i64 n.kind,.int .i64 n.num,.string n.text,.string n.ref.sh,.int .i64 n.ref.c,.int .i64 n.ref.r,.bool n.ref.ac,.bool n.ref.ar,.string n.af.sh,.int .i64 n.af.c,.int .i64 n.af.r,.bool n.af.ac,.bool n.af.ar,.slice A m c]] w fun e w'=>e = .returned (.bool (hkB n.kind m))∧Below w.heap.size w w':=by
 have hx:ax (w.alloc (.cells #[.int .i64 n.kind,.int .i64 n.num,.string n.text,.string n.ref.sh,.int .i64 n.ref.c,.int .i64 n.ref.r,.bool n.ref.ac,.bool n.ref.ar,.string n.af.sh,.int .i64 n.af.c,.int .i64 n.af.r,.bool n.af.ac,.bool n.af.ar,.slice A m c] 45)) w.heap.size n (.slice A m c):=ax.new w n _;have HB:=ae ((ai w.heap.size w).alloc (ah _) (.cells #[.int .i64 n.kind,.int .i64 n.num,.string n.text,.string n.ref.sh,.int .i64 n.ref.c,.int .i64 n.ref.r,.bool n.ref.ac,.bool n.ref.ar,.string n.af.sh,.int .i64 n.af.c,.int .i64 n.af.r,.bool n.af.ac,.bool n.af.ar,.slice A m c] 45));go_enter Tryz.func93,Tryz.ntmps93;go_upto_region 1 with (fail)
 generalize w.alloc (.cells #[.int .i64 n.kind,.int .i64 n.num,.string n.text,.string n.ref.sh,.int .i64 n.ref.c,.int .i64 n.ref.r,.bool n.ref.ac,.bool n.ref.ar,.string n.af.sh,.int .i64 n.af.c,.int .i64 n.af.r,.bool n.af.ac,.bool n.af.ar,.slice A m c] 45)=w1 at hx HB ⊢;obtain⟨x0,x1,x2,x3,x4,x5,x6,x7,av,aJ,aG,aH,aI,aF⟩:=hx.cells;clear hx;obtain⟨kd,hkd⟩:∃kd,n.kind=kd:=⟨_,rfl⟩;rw[hkd]at x0;have ma:=ae hkd;clear hkd;by_cases h7:kd=7
 · have e7:(kd == 7)=true:=beq_iff_eq.2 h7
   have HR:=ae (show hkB kd m=true by unfold hkB;rw[if_pos h7]);clear h7;go_wp2_with fail
   go_ret;exact⟨by rw[ma.o,HR.o] <;> rfl,HB.o⟩
 have e7:(kd == 7)=false:=beq_eq_false_iff_ne.2 h7;by_cases h8:kd=8
 · have e8:(kd == 8)=true:=beq_iff_eq.2 h8
   have HR:=ae (show hkB kd m=decide (m=1)by unfold hkB;rw[if_neg h7,if_pos h8]);clear h7 h8;by_cases hm1:m=1
   · subst hm1
     go_wp2_with fail
     go_ret;exact⟨by rw[ma.o,HR.o] <;> rfl,HB.o⟩
   · have em:((m:Int) == 1)=false:=by rw[beq_eq_false_iff_ne];omega
     rw[decide_eq_false hm1]at HR;go_wp2_with fail
     go_ret;exact⟨by rw[ma.o,HR.o];first|rfl|(simp;omega),HB.o⟩
 have e8:(kd == 8)=false:=beq_eq_false_iff_ne.2 h8;cases ht:vZ kd
 · have HR:=ae (show hkB kd m=decide (m=0)by unfold hkB;rw[if_neg h7,if_neg h8,ht,if_neg (by decide)])
   have HT:=Dt kd;rw[ht]at HT;have HT:=ae HT;clear h7 h8 ht;by_cases hm1:m=0
   · subst hm1
     go_wp2_with (go_at_call 127;((with_reducible refine(HT.o _).mono ?_);rintro e w2 ⟨rfl,rfl⟩))
     go_ret;exact⟨by rw[ma.o,HR.o] <;> rfl,HB.o⟩
   · have em:((m:Int) == 0)=false:=by rw[beq_eq_false_iff_ne];omega
     rw[decide_eq_false hm1]at HR;go_wp2_with (go_at_call 127;((with_reducible refine(HT.o _).mono ?_);rintro e w2 ⟨rfl,rfl⟩))
     go_ret;exact⟨by rw[ma.o,HR.o];first|rfl|(simp;omega),HB.o⟩
 · have HR:=ae (show hkB kd m=decide (m=2)by unfold hkB;rw[if_neg h7,if_neg h8,ht,if_pos rfl])
   have HT:=Dt kd;rw[ht]at HT;have HT:=ae HT;clear h7 h8 ht;by_cases hm1:m=2
   · subst hm1
     go_wp2_with (go_at_call 127;((with_reducible refine(HT.o _).mono ?_);rintro e w2 ⟨rfl,rfl⟩))
     go_ret;exact⟨by rw[ma.o,HR.o] <;> rfl,HB.o⟩
   · have em:((m:Int) == 2)=false:=by rw[beq_eq_false_iff_ne];omega
     rw[decide_eq_false hm1]at HR;go_wp2_with (go_at_call 127;((with_reducible refine(HT.o _).mono ?_);rintro e w2 ⟨rfl,rfl⟩))
     go_ret;exact⟨by rw[ma.o,HR.o];first|rfl|(simp;omega),HB.o⟩
def iF (n:Nd):Nd :=
 if n.kind=1 then { Nd.zero with num:=n.num }else if n.kind=2 then { Nd.zero with text:=n.text }else if n.kind=3 then { Nd.zero with num:=n.num }
 else if n.kind=5 then { Nd.zero with ref:=n.ref }else if n.kind=6 then ⟨0,0,⟨#[]⟩,n.ref,n.af,[]⟩else if n.kind=7 then { Nd.zero with text:=n.text }else Nd.zero
def okF (n:Nd):Bool :=
 if n.kind=1 then decide (0≤n.num)else if n.kind=2 then lI (sb n.text)else if n.kind=3 then decide (n.num=0∨n.num=1)
 else if n.kind=5 then bO n.ref else if n.kind=6 then bO n.ref&&(bO n.af&&eD n.ref n.af)else if n.kind=7 then jy n.text else decide (n.kind=4∨n.kind=8)||vZ n.kind
theorem vV:Tryz.f92.results=#[.cell 2 45,.tmp 3]:=by kernel_rfl
theorem ax.load {w:World}{b:Nat}{n:Nd}{k:Value}(h:ax w b n k):(loadVar 45 ⟨b,0,none⟩).run Tryz.prog w = .ok (.agg (bJ n k)) w :=
 run_loadVar_row w b 45 45 _ _ _ h Tryz.underlying45 rfl zX
theorem qF {w:World}{b:Nat}{n:Nd}{k:Value}(h:ax w b n k)(fn:Func)(tmps:Array Value)(ok:Bool)(p u:Tmp)(hf:fn.results=#[.cell p 45,.tmp u])(hp:tmps.getD p undef = .pointer (some ⟨b,0,none⟩))(hu:tmps.getD u undef = .bool ok) :
 (results fn tmps).run Tryz.prog w = .ok (.tuple #[.agg (bJ n k),.bool ok]) w:=by
 rw[results_cell_tmp hf,hp,hu];simp[asAddr,h.load,Result.andThen]
abbrev oO:Array Value:=#[.int .i64 0,.int .i64 0,.string ⟨#[]⟩,.string ⟨#[]⟩,.int .i64 0,.int .i64 0,.bool false,.bool false,.string ⟨#[]⟩,.int .i64 0,.int .i64 0,.bool false,.bool false,.slice none 0 0]
theorem ax.drew{w:World}{b:Nat}{n:Nd}{k:Value}(h:ax w b n k):ax w.drew b n k:=h
theorem ax.frozen{w:World}{b:Nat}{n:Nd}{k:Value}(h:ax w b n k)(j:Nat):w.frozen? ⟨b,j,none⟩=false:=frozen_of_row w b j _ _ h
theorem ae2 (w:World)(b:Nat)(t:TypeId)(u0 u1 u2 u3 u4 u5 u6 yL u8 u9 uV tF rH qM v0 v1 v2 v3 v4 v5 v6 v7 v8 v9 v10 v11 v12 v13:Value)(h:w.heap[b]? = some (.cells #[u0,u1,u2,u3,u4,u5,u6,yL,u8,u9,uV,tF,rH,qM] t)) :
 ((((((((((((((w.setCell ⟨b,0,none⟩ v0).setCell ⟨b,1,none⟩ v1).setCell ⟨b,2,none⟩ v2).setCell ⟨b,3,none⟩ v3).setCell ⟨b,4,none⟩ v4).setCell ⟨b,5,none⟩ v5).setCell ⟨b,6,none⟩ v6).setCell ⟨b,7,none⟩ v7).setCell ⟨b,8,none⟩ v8).setCell ⟨b,9,none⟩ v9).setCell ⟨b,10,none⟩ v10).setCell ⟨b,11,none⟩ v11).setCell ⟨b,12,none⟩ v12).setCell ⟨b,13,none⟩ v13).heap[b]? = some (.cells #[v0,v1,v2,v3,v4,v5,v6,v7,v8,v9,v10,v11,v12,v13] t):=by
 have h0:(w.setCell ⟨b,0,none⟩ v0).heap[b]? = some (.cells #[v0,u1,u2,u3,u4,u5,u6,yL,u8,u9,uV,tF,rH,qM] t):=by rw[heap_setCell_same _ b 0 _ _ _ h];rfl
 have h1:((w.setCell ⟨b,0,none⟩ v0).setCell ⟨b,1,none⟩ v1).heap[b]? = some (.cells #[v0,v1,u2,u3,u4,u5,u6,yL,u8,u9,uV,tF,rH,qM] t):=by rw[heap_setCell_same _ b 1 _ _ _ h0];rfl
 have h2:(((w.setCell ⟨b,0,none⟩ v0).setCell ⟨b,1,none⟩ v1).setCell ⟨b,2,none⟩ v2).heap[b]? = some (.cells #[v0,v1,v2,u3,u4,u5,u6,yL,u8,u9,uV,tF,rH,qM] t):=by rw[heap_setCell_same _ b 2 _ _ _ h1];rfl
 have h3:((((w.setCell ⟨b,0,none⟩ v0).setCell ⟨b,1,none⟩ v1).setCell ⟨b,2,none⟩ v2).setCell ⟨b,3,none⟩ v3).heap[b]? = some (.cells #[v0,v1,v2,v3,u4,u5,u6,yL,u8,u9,uV,tF,rH,qM] t):=by rw[heap_setCell_same _ b 3 _ _ _ h2];rfl
 have h4:(((((w.setCell ⟨b,0,none⟩ v0).setCell ⟨b,1,none⟩ v1).setCell ⟨b,2,none⟩ v2).setCell ⟨b,3,none⟩ v3).setCell ⟨b,4,none⟩ v4).heap[b]? = some (.cells #[v0,v1,v2,v3,v4,u5,u6,yL,u8,u9,uV,tF,rH,qM] t):=by rw[heap_setCell_same _ b 4 _ _ _ h3];rfl
 have h5:((((((w.setCell ⟨b,0,none⟩ v0).setCell ⟨b,1,none⟩ v1).setCell ⟨b,2,none⟩ v2).setCell ⟨b,3,none⟩ v3).setCell ⟨b,4,none⟩ v4).setCell ⟨b,5,none⟩ v5).heap[b]? = some (.cells #[v0,v1,v2,v3,v4,v5,u6,yL,u8,u9,uV,tF,rH,qM] t):=by rw[heap_setCell_same _ b 5 _ _ _ h4];rfl
 have h6:(((((((w.setCell ⟨b,0,none⟩ v0).setCell ⟨b,1,none⟩ v1).setCell ⟨b,2,none⟩ v2).setCell ⟨b,3,none⟩ v3).setCell ⟨b,4,none⟩ v4).setCell ⟨b,5,none⟩ v5).setCell ⟨b,6,none⟩ v6).heap[b]? = some (.cells #[v0,v1,v2,v3,v4,v5,v6,yL,u8,u9,uV,tF,rH,qM] t):=by rw[heap_setCell_same _ b 6 _ _ _ h5];rfl
 have h7:((((((((w.setCell ⟨b,0,none⟩ v0).setCell ⟨b,1,none⟩ v1).setCell ⟨b,2,none⟩ v2).setCell ⟨b,3,none⟩ v3).setCell ⟨b,4,none⟩ v4).setCell ⟨b,5,none⟩ v5).setCell ⟨b,6,none⟩ v6).setCell ⟨b,7,none⟩ v7).heap[b]? = some (.cells #[v0,v1,v2,v3,v4,v5,v6,v7,u8,u9,uV,tF,rH,qM] t):=by rw[heap_setCell_same _ b 7 _ _ _ h6];rfl
 have h8:(((((((((w.setCell ⟨b,0,none⟩ v0).setCell ⟨b,1,none⟩ v1).setCell ⟨b,2,none⟩ v2).setCell ⟨b,3,none⟩ v3).setCell ⟨b,4,none⟩ v4).setCell ⟨b,5,none⟩ v5).setCell ⟨b,6,none⟩ v6).setCell ⟨b,7,none⟩ v7).setCell ⟨b,8,none⟩ v8).heap[b]? = some (.cells #[v0,v1,v2,v3,v4,v5,v6,v7,v8,u9,uV,tF,rH,qM] t):=by rw[heap_setCell_same _ b 8 _ _ _ h7];rfl
 have h9:((((((((((w.setCell ⟨b,0,none⟩ v0).setCell ⟨b,1,none⟩ v1).setCell ⟨b,2,none⟩ v2).setCell ⟨b,3,none⟩ v3).setCell ⟨b,4,none⟩ v4).setCell ⟨b,5,none⟩ v5).setCell ⟨b,6,none⟩ v6).setCell ⟨b,7,none⟩ v7).setCell ⟨b,8,none⟩ v8).setCell ⟨b,9,none⟩ v9).heap[b]? = some (.cells #[v0,v1,v2,v3,v4,v5,v6,v7,v8,v9,uV,tF,rH,qM] t):=by rw[heap_setCell_same _ b 9 _ _ _ h8];rfl
 have h10:(((((((((((w.setCell ⟨b,0,none⟩ v0).setCell ⟨b,1,none⟩ v1).setCell ⟨b,2,none⟩ v2).setCell ⟨b,3,none⟩ v3).setCell ⟨b,4,none⟩ v4).setCell ⟨b,5,none⟩ v5).setCell ⟨b,6,none⟩ v6).setCell ⟨b,7,none⟩ v7).setCell ⟨b,8,none⟩ v8).setCell ⟨b,9,none⟩ v9).setCell ⟨b,10,none⟩ v10).heap[b]? = some (.cells #[v0,v1,v2,v3,v4,v5,v6,v7,v8,v9,v10,tF,rH,qM] t):=by rw[heap_setCell_same _ b 10 _ _ _ h9];rfl
 have h11:((((((((((((w.setCell ⟨b,0,none⟩ v0).setCell ⟨b,1,none⟩ v1).setCell ⟨b,2,none⟩ v2).setCell ⟨b,3,none⟩ v3).setCell ⟨b,4,none⟩ v4).setCell ⟨b,5,none⟩ v5).setCell ⟨b,6,none⟩ v6).setCell ⟨b,7,none⟩ v7).setCell ⟨b,8,none⟩ v8).setCell ⟨b,9,none⟩ v9).setCell ⟨b,10,none⟩ v10).setCell ⟨b,11,none⟩ v11).heap[b]? = some (.cells #[v0,v1,v2,v3,v4,v5,v6,v7,v8,v9,v10,v11,rH,qM] t):=by rw[heap_setCell_same _ b 11 _ _ _ h10];rfl
 have h12:(((((((((((((w.setCell ⟨b,0,none⟩ v0).setCell ⟨b,1,none⟩ v1).setCell ⟨b,2,none⟩ v2).setCell ⟨b,3,none⟩ v3).setCell ⟨b,4,none⟩ v4).setCell ⟨b,5,none⟩ v5).setCell ⟨b,6,none⟩ v6).setCell ⟨b,7,none⟩ v7).setCell ⟨b,8,none⟩ v8).setCell ⟨b,9,none⟩ v9).setCell ⟨b,10,none⟩ v10).setCell ⟨b,11,none⟩ v11).setCell ⟨b,12,none⟩ v12).heap[b]? = some (.cells #[v0,v1,v2,v3,v4,v5,v6,v7,v8,v9,v10,v11,v12,qM] t):=by rw[heap_setCell_same _ b 12 _ _ _ h11];rfl
 have Be:((((((((((((((w.setCell ⟨b,0,none⟩ v0).setCell ⟨b,1,none⟩ v1).setCell ⟨b,2,none⟩ v2).setCell ⟨b,3,none⟩ v3).setCell ⟨b,4,none⟩ v4).setCell ⟨b,5,none⟩ v5).setCell ⟨b,6,none⟩ v6).setCell ⟨b,7,none⟩ v7).setCell ⟨b,8,none⟩ v8).setCell ⟨b,9,none⟩ v9).setCell ⟨b,10,none⟩ v10).setCell ⟨b,11,none⟩ v11).setCell ⟨b,12,none⟩ v12).setCell ⟨b,13,none⟩ v13).heap[b]? = some (.cells #[v0,v1,v2,v3,v4,v5,v6,v7,v8,v9,v10,v11,v12,v13] t):=by rw[heap_setCell_same _ b 13 _ _ _ h12];rfl
 exact Be
theorem ax.vS{w:World}{b:Nat}{n0:Nd}{k0:Value}(h:ax w b n0 k0)(n:Nd)(k:Value):ax ((((((((((((((w.setCell ⟨b,0,none⟩ (.int .i64 n.kind)).setCell ⟨b,1,none⟩ (.int .i64 n.num)).setCell ⟨b,2,none⟩ (.string n.text)).setCell ⟨b,3,none⟩ (.string n.ref.sh)).setCell ⟨b,4,none⟩ (.int .i64 n.ref.c)).setCell ⟨b,5,none⟩ (.int .i64 n.ref.r)).setCell ⟨b,6,none⟩ (.bool n.ref.ac)).setCell ⟨b,7,none⟩ (.bool n.ref.ar)).setCell ⟨b,8,none⟩ (.string n.af.sh)).setCell ⟨b,9,none⟩ (.int .i64 n.af.c)).setCell ⟨b,10,none⟩ (.int .i64 n.af.r)).setCell ⟨b,11,none⟩ (.bool n.af.ac)).setCell ⟨b,12,none⟩ (.bool n.af.ar)).setCell ⟨b,13,none⟩ (k)) b n k:=ae2 w b _ _ _ _ _ _ _ _ _ _ _ _ _ _ _ _ _ _ _ _ _ _ _ _ _ _ _ _ _ h
theorem vF {B:Nat}{a w:World}{b:Nat}(h:Below B a w)(hb:B≤b)(v0 v1 v2 v3 v4 v5 v6 v7 v8 v9 v10 v11 v12 v13:Value):Below B a ((((((((((((((w.setCell ⟨b,0,none⟩ v0).setCell ⟨b,1,none⟩ v1).setCell ⟨b,2,none⟩ v2).setCell ⟨b,3,none⟩ v3).setCell ⟨b,4,none⟩ v4).setCell ⟨b,5,none⟩ v5).setCell ⟨b,6,none⟩ v6).setCell ⟨b,7,none⟩ v7).setCell ⟨b,8,none⟩ v8).setCell ⟨b,9,none⟩ v9).setCell ⟨b,10,none⟩ v10).setCell ⟨b,11,none⟩ v11).setCell ⟨b,12,none⟩ v12).setCell ⟨b,13,none⟩ v13) :=
 ((((((((((((((h.setCell hb _).setCell hb _).setCell hb _).setCell hb _).setCell hb _).setCell hb _).setCell hb _).setCell hb _).setCell hb _).setCell hb _).setCell hb _).setCell hb _).setCell hb _).setCell hb _)
theorem YP (n:Nd)(h1:n.kind=1)(A:Option Addr)(m c:Nat)(w:World):Calls Tryz.prog 92 #[.agg #[.int .i64 n.kind,.int .i64 n.num,.string n.text,.string n.ref.sh,.int .i64 n.ref.c,.int .i64 n.ref.r,.bool n.ref.ac,.bool n.ref.ar,.string n.af.sh,.int .i64 n.af.c,.int .i64 n.af.r,.bool n.af.ac,.bool n.af.ar,.slice A m c]] w fun e w'=>e = .returned (.tuple #[.agg (bJ { Nd.zero with num:=n.num } (.slice none 0 0)),.bool (decide (0≤n.num))])∧Below w.heap.size w w':=by
 have hsz:(w.alloc (.cells #[.int .i64 n.kind,.int .i64 n.num,.string n.text,.string n.ref.sh,.int .i64 n.ref.c,.int .i64 n.ref.r,.bool n.ref.ac,.bool n.ref.ar,.string n.af.sh,.int .i64 n.af.c,.int .i64 n.af.r,.bool n.af.ac,.bool n.af.ar,.slice A m c] 45)).heap.size=w.heap.size+1:=by simp
 have hx:ax (w.alloc (.cells #[.int .i64 n.kind,.int .i64 n.num,.string n.text,.string n.ref.sh,.int .i64 n.ref.c,.int .i64 n.ref.r,.bool n.ref.ac,.bool n.ref.ar,.string n.af.sh,.int .i64 n.af.c,.int .i64 n.af.r,.bool n.af.ac,.bool n.af.ar,.slice A m c] 45)) w.heap.size n (.slice A m c):=ax.new w n _;have hy:ax ((w.alloc (.cells #[.int .i64 n.kind,.int .i64 n.num,.string n.text,.string n.ref.sh,.int .i64 n.ref.c,.int .i64 n.ref.r,.bool n.ref.ac,.bool n.ref.ar,.string n.af.sh,.int .i64 n.af.c,.int .i64 n.af.r,.bool n.af.ac,.bool n.af.ar,.slice A m c] 45)).alloc (.cells oO 45)) (w.heap.size+1) Nd.zero (.slice none 0 0):=by rw[← hsz];exact ax.new _ Nd.zero _
 have hx2:=hx.below ((ai _ _).alloc (ah _) (.cells oO 45)) hx.lt;have HB:=ae (((ai w.heap.size w).alloc (ah _) (.cells #[.int .i64 n.kind,.int .i64 n.num,.string n.text,.string n.ref.sh,.int .i64 n.ref.c,.int .i64 n.ref.r,.bool n.ref.ac,.bool n.ref.ar,.string n.af.sh,.int .i64 n.af.c,.int .i64 n.af.r,.bool n.af.ac,.bool n.af.ar,.slice A m c] 45)).alloc (by simp) (.cells oO 45));have e1:(n.kind == 1)=true:=beq_iff_eq.2 h1;clear h1;go_enter Tryz.func92,Tryz.ntmps92;go_upto_region 3 with (fail)
 generalize (w.alloc (.cells #[.int .i64 n.kind,.int .i64 n.num,.string n.text,.string n.ref.sh,.int .i64 n.ref.c,.int .i64 n.ref.r,.bool n.ref.ac,.bool n.ref.ar,.string n.af.sh,.int .i64 n.af.c,.int .i64 n.af.r,.bool n.af.ac,.bool n.af.ar,.slice A m c] 45)).alloc (.cells oO 45)=w1 at hx2 hy HB ⊢;obtain⟨x0,x1,x2,x3,x4,x5,x6,x7,av,aJ,aG,aH,aI,aF⟩:=hx2.cells;obtain⟨y0,y1,y2,y3,y4,fq,y6,lL,nE,uZ,uW,uX,uY,y13⟩:=hy.cells;have f0:=hy.frozen 0;have f1:=hy.frozen 1;have f2:=hy.frozen 2;have f3:=hy.frozen 3;have f4:=hy.frozen 4;have f5:=hy.frozen 5;have f6:=hy.frozen 6;have f7:=hy.frozen 7;have f8:=hy.frozen 8;have f9:=hy.frozen 9;have f10:=hy.frozen 10;have f11:=hy.frozen 11;have f12:=hy.frozen 12;have f13:=hy.frozen 13;have iY:=ae hy;clear hx hx2 hy
 go_region
 all_goals go_wp2_with fail
 all_goals exact bodyPost_ret (qF (iY.o.vS { Nd.zero with num:=n.num } (.slice none 0 0)).drew _ _ _ 2 3 vV rfl rfl) rfl ⟨rfl,(vF HB.o (by omega) _ _ _ _ _ _ _ _ _ _ _ _ _ _).drew⟩
theorem ax.bH {w:World}{b:Nat}{n:Nd}{k:Value}(h:ax w b n k):w.frozen? ⟨b,0,none⟩=false∧w.frozen? ⟨b,1,none⟩=false∧w.frozen? ⟨b,2,none⟩=false∧w.frozen? ⟨b,3,none⟩=false∧w.frozen? ⟨b,4,none⟩=false∧w.frozen? ⟨b,5,none⟩=false∧w.frozen? ⟨b,6,none⟩=false∧w.frozen? ⟨b,7,none⟩=false∧w.frozen? ⟨b,8,none⟩=false∧w.frozen? ⟨b,9,none⟩=false∧w.frozen? ⟨b,10,none⟩=false∧w.frozen? ⟨b,11,none⟩=false∧w.frozen? ⟨b,12,none⟩=false∧w.frozen? ⟨b,13,none⟩=false :=
 ⟨h.frozen 0,h.frozen 1,h.frozen 2,h.frozen 3,h.frozen 4,h.frozen 5,h.frozen 6,h.frozen 7,h.frozen 8,h.frozen 9,h.frozen 10,h.frozen 11,h.frozen 12,h.frozen 13⟩
theorem xc (w:World)(n:Nd)(A:Option Addr)(m c:Nat):∃w1,(w.alloc (.cells #[.int .i64 n.kind,.int .i64 n.num,.string n.text,.string n.ref.sh,.int .i64 n.ref.c,.int .i64 n.ref.r,.bool n.ref.ac,.bool n.ref.ar,.string n.af.sh,.int .i64 n.af.c,.int .i64 n.af.r,.bool n.af.ac,.bool n.af.ar,.slice A m c] 45)).alloc (.cells oO 45)=w1∧ax w1 w.heap.size n (.slice A m c)∧ax w1 (w.heap.size+1) Nd.zero (.slice none 0 0)∧Below w.heap.size w w1∧w.heap.size+1<w1.heap.size:=by
 have hx:=ax.new w n (.slice A m c);obtain⟨wa,FJ⟩:∃wa,w.alloc (.cells #[.int .i64 n.kind,.int .i64 n.num,.string n.text,.string n.ref.sh,.int .i64 n.ref.c,.int .i64 n.ref.r,.bool n.ref.ac,.bool n.ref.ar,.string n.af.sh,.int .i64 n.af.c,.int .i64 n.af.r,.bool n.af.ac,.bool n.af.ar,.slice A m c] 45)=wa:=⟨_,rfl⟩;have wR:Below w.heap.size w wa:=by rw[← FJ];exact(ai _ _).alloc (ah _) _
 have hz:wa.heap.size=w.heap.size+1:=by rw[← FJ,kK]
 have hx1:ax wa w.heap.size n (.slice A m c):=by rw[← FJ];exact hx
 have hb:Below wa.heap.size wa (wa.alloc (.cells oO 45)):=(ai _ _).alloc (ah _) _;have hy:=ax.new wa Nd.zero (.slice none 0 0);rw[hz]at hy;refine⟨wa.alloc (.cells oO 45),by rw[FJ],hx1.below hb hx1.lt,hy,wR.trans (hb.mono wR.size),by rw[kK,hz];exact Nat.lt_succ_self _⟩
theorem YQ (w:World)(n:Nd)(h2:n.kind=2)(hs:n.text.size≤1000000)(A:Option Addr)(m c:Nat):Calls Tryz.prog 92 #[.agg #[.int .i64 n.kind,.int .i64 n.num,.string n.text,.string n.ref.sh,.int .i64 n.ref.c,.int .i64 n.ref.r,.bool n.ref.ac,.bool n.ref.ar,.string n.af.sh,.int .i64 n.af.c,.int .i64 n.af.r,.bool n.af.ac,.bool n.af.ar,.slice A m c]] w fun e w'=>e = .returned (.tuple #[.agg (bJ { Nd.zero with text:=n.text } (.slice none 0 0)),.bool (lI (sb n.text))])∧Below w.heap.size w w':=by
 obtain⟨w1,hw1,hx2,hy,hb,hb2⟩:=xc w n A m c;have HB:=ae hb;obtain⟨x0,x1,x2,x3,x4,x5,x6,x7,av,aJ,aG,aH,aI,aF⟩:=hx2.cells;have e1:(n.kind == 1)=false:=by rw[h2];rfl
 have e2:(n.kind == 2)=true:=beq_iff_eq.2 h2;clear h2;go_enter Tryz.func92,Tryz.ntmps92;go_upto_region 5 with (fail)
 clear hw1 hb;obtain⟨y0,y1,y2,y3,y4,fq,y6,lL,nE,uZ,uW,uX,uY,y13⟩:=hy.cells;obtain⟨f0,f1,f2,f3,f4,f5,f6,f7,f8,f9,f10,f11,f12,f13⟩:=hy.bH;have iY:=ae hy;have HX:=ae hx2;clear hx2 hy;have HT:=ae (fun w=>aaP n.text w hs)
 go_region_with (go_at_call 124;((with_reducible refine(HT.o _).mono ?_);rintro e w2 ⟨rfl,rfl⟩))
 all_goals go_wp2_with fail
 all_goals exact bodyPost_ret (qF (iY.o.vS { Nd.zero with text:=n.text } (.slice none 0 0)).drew _ _ _ 2 3 vV rfl rfl) rfl ⟨rfl,(vF HB.o (by have:=HB.o.size;omega) _ _ _ _ _ _ _ _ _ _ _ _ _ _).drew⟩
theorem YR (w:World)(n:Nd)(h3:n.kind=3)(h0:n.num=0)(A:Option Addr)(m c:Nat):Calls Tryz.prog 92 #[.agg #[.int .i64 n.kind,.int .i64 n.num,.string n.text,.string n.ref.sh,.int .i64 n.ref.c,.int .i64 n.ref.r,.bool n.ref.ac,.bool n.ref.ar,.string n.af.sh,.int .i64 n.af.c,.int .i64 n.af.r,.bool n.af.ac,.bool n.af.ar,.slice A m c]] w fun e w'=>e = .returned (.tuple #[.agg (bJ { Nd.zero with num:=n.num } (.slice none 0 0)),.bool true])∧Below w.heap.size w w':=by
 obtain⟨w1,hw1,hx2,hy,hb,hb2⟩:=xc w n A m c;have HB:=ae hb;obtain⟨x0,x1,x2,x3,x4,x5,x6,x7,av,aJ,aG,aH,aI,aF⟩:=hx2.cells;have e1:(n.kind == 1)=false:=by rw[h3];rfl
 have e2:(n.kind == 2)=false:=by rw[h3];rfl
 have e3:(n.kind == 3)=true:=beq_iff_eq.2 h3;clear h3;have q0:(n.num == 0)=true:=beq_iff_eq.2 h0;clear h0;go_enter Tryz.func92,Tryz.ntmps92;go_upto_region 7 with (fail)
 clear hw1 hb;obtain⟨y0,y1,y2,y3,y4,fq,y6,lL,nE,uZ,uW,uX,uY,y13⟩:=hy.cells;obtain⟨f0,f1,f2,f3,f4,f5,f6,f7,f8,f9,f10,f11,f12,f13⟩:=hy.bH;have iY:=ae hy;have HX:=ae hx2;clear hx2 hy
 go_region
 all_goals go_wp2_with fail
 all_goals exact bodyPost_ret (qF (iY.o.vS { Nd.zero with num:=n.num } (.slice none 0 0)).drew _ _ _ 2 3 vV rfl rfl) rfl ⟨rfl,(vF HB.o (by have:=HB.o.size;omega) _ _ _ _ _ _ _ _ _ _ _ _ _ _).drew⟩
theorem YS (w:World)(n:Nd)(h3:n.kind=3)(h0:n.num=1)(A:Option Addr)(m c:Nat):Calls Tryz.prog 92 #[.agg #[.int .i64 n.kind,.int .i64 n.num,.string n.text,.string n.ref.sh,.int .i64 n.ref.c,.int .i64 n.ref.r,.bool n.ref.ac,.bool n.ref.ar,.string n.af.sh,.int .i64 n.af.c,.int .i64 n.af.r,.bool n.af.ac,.bool n.af.ar,.slice A m c]] w fun e w'=>e = .returned (.tuple #[.agg (bJ { Nd.zero with num:=n.num } (.slice none 0 0)),.bool true])∧Below w.heap.size w w':=by
 obtain⟨w1,hw1,hx2,hy,hb,hb2⟩:=xc w n A m c;have HB:=ae hb;obtain⟨x0,x1,x2,x3,x4,x5,x6,x7,av,aJ,aG,aH,aI,aF⟩:=hx2.cells;have e1:(n.kind == 1)=false:=by rw[h3];rfl
 have e2:(n.kind == 2)=false:=by rw[h3];rfl
 have e3:(n.kind == 3)=true:=beq_iff_eq.2 h3;clear h3;have q0:(n.num == 0)=false:=by rw[h0];rfl
 have q1:(n.num == 1)=true:=beq_iff_eq.2 h0;clear h0;go_enter Tryz.func92,Tryz.ntmps92;go_upto_region 7 with (fail)
 clear hw1 hb;obtain⟨y0,y1,y2,y3,y4,fq,y6,lL,nE,uZ,uW,uX,uY,y13⟩:=hy.cells;obtain⟨f0,f1,f2,f3,f4,f5,f6,f7,f8,f9,f10,f11,f12,f13⟩:=hy.bH;have iY:=ae hy;have HX:=ae hx2;clear hx2 hy
 go_region
 all_goals go_wp2_with fail
 all_goals exact bodyPost_ret (qF (iY.o.vS { Nd.zero with num:=n.num } (.slice none 0 0)).drew _ _ _ 2 3 vV rfl rfl) rfl ⟨rfl,(vF HB.o (by have:=HB.o.size;omega) _ _ _ _ _ _ _ _ _ _ _ _ _ _).drew⟩
theorem YT (w:World)(n:Nd)(h5:n.kind=5)(hs:n.ref.sh.size≤1000000)(A:Option Addr)(m c:Nat):Calls Tryz.prog 92 #[.agg #[.int .i64 n.kind,.int .i64 n.num,.string n.text,.string n.ref.sh,.int .i64 n.ref.c,.int .i64 n.ref.r,.bool n.ref.ac,.bool n.ref.ar,.string n.af.sh,.int .i64 n.af.c,.int .i64 n.af.r,.bool n.af.ac,.bool n.af.ar,.slice A m c]] w fun e w'=>e = .returned (.tuple #[.agg (bJ { Nd.zero with ref:=n.ref } (.slice none 0 0)),.bool (bO n.ref)])∧Below w.heap.size w w':=by
 obtain⟨w1,hw1,hx2,hy,hb,hb2⟩:=xc w n A m c;have HB:=ae hb;obtain⟨x0,x1,x2,x3,x4,x5,x6,x7,av,aJ,aG,aH,aI,aF⟩:=hx2.cells;have e1:(n.kind == 1)=false:=by rw[h5];rfl
 have e2:(n.kind == 2)=false:=by rw[h5];rfl
 have e3:(n.kind == 3)=false:=by rw[h5];rfl
 have e5:(n.kind == 5)=true:=beq_iff_eq.2 h5;clear h5;go_enter Tryz.func92,Tryz.ntmps92;go_upto_region 9 with (fail)
 clear hw1 hb;obtain⟨y0,y1,y2,y3,y4,fq,y6,lL,nE,uZ,uW,uX,uY,y13⟩:=hy.cells;obtain⟨f0,f1,f2,f3,f4,f5,f6,f7,f8,f9,f10,f11,f12,f13⟩:=hy.bH;have iY:=ae hy;have HX:=ae hx2;clear hx2 hy;have HT:=ae (fun w=>zV n.ref.sh n.ref.c n.ref.r n.ref.ac n.ref.ar w hs);go_region_held3 (fun w'=>w'.cell? ⟨w.heap.size,3,none⟩=some (.string n.ref.sh)∧w'.cell? ⟨w.heap.size,4,none⟩=some (.int .i64 n.ref.c)∧w'.cell? ⟨w.heap.size,5,none⟩=some (.int .i64 n.ref.r)∧w'.cell? ⟨w.heap.size,6,none⟩=some (.bool n.ref.ac)∧w'.cell? ⟨w.heap.size,7,none⟩=some (.bool n.ref.ar)) (go_keep) (first|(go_at_call 108;((with_reducible refine(HT.o _).mono ?_);rintro e w2 ⟨rfl,h1⟩;have rU:=ae (iY.o.drew.below h1 iY.o.lt);have bT:=ae (HX.o.drew.below h1 HX.o.lt);have HB2:=ae (HB.o.drew.trans (h1.mono HB.o.size));obtain⟨z0,z1,z2,z3,z4,z5,z6,z7,Ca,z9,BX,BZ,z12,Ec⟩:=rU.o.cells;obtain⟨g0,g1,g2,g3,g4,g5,g6,g7,g8,g9,g10,g11,g12,g13⟩:=rU.o.bH;obtain⟨t0,t1,t2,t3,t4,t5,t6,t7,t8,t9,t10,t11,t12,t13⟩:=bT.o.cells;clear h1)))
 all_goals go_wp2_with fail
 all_goals exact bodyPost_ret (qF (rU.o.vS { Nd.zero with ref:=n.ref } (.slice none 0 0)) _ _ _ 2 3 vV rfl rfl) rfl ⟨rfl,vF HB2.o (by have:=HB.o.size;omega) _ _ _ _ _ _ _ _ _ _ _ _ _ _⟩
theorem YV (w:World)(n:Nd)(h7:n.kind=7)(hv:Vars w)(A:Option Addr)(m c:Nat):Calls Tryz.prog 92 #[.agg #[.int .i64 n.kind,.int .i64 n.num,.string n.text,.string n.ref.sh,.int .i64 n.ref.c,.int .i64 n.ref.r,.bool n.ref.ac,.bool n.ref.ar,.string n.af.sh,.int .i64 n.af.c,.int .i64 n.af.r,.bool n.af.ac,.bool n.af.ar,.slice A m c]] w fun e w'=>e = .returned (.tuple #[.agg (bJ { Nd.zero with text:=n.text } (.slice none 0 0)),.bool (jy n.text)])∧Below w.heap.size w w':=by
 obtain⟨w1,hw1,hx2,hy,hb,hb2⟩:=xc w n A m c;have HB:=ae hb;obtain⟨x0,x1,x2,x3,x4,x5,x6,x7,av,aJ,aG,aH,aI,aF⟩:=hx2.cells;have e1:(n.kind == 1)=false:=by rw[h7];rfl
 have e2:(n.kind == 2)=false:=by rw[h7];rfl
 have e3:(n.kind == 3)=false:=by rw[h7];rfl
 have e5:(n.kind == 5)=false:=by rw[h7];rfl
 have e6:(n.kind == 6)=false:=by rw[h7];rfl
 have e7:(n.kind == 7)=true:=beq_iff_eq.2 h7;clear h7;have WB:=ae hv;clear hv;go_enter Tryz.func92,Tryz.ntmps92;go_upto_region 13 with (fail)
 clear hw1 hb;obtain⟨y0,y1,y2,y3,y4,fq,y6,lL,nE,uZ,uW,uX,uY,y13⟩:=hy.cells;obtain⟨f0,f1,f2,f3,f4,f5,f6,f7,f8,f9,f10,f11,f12,f13⟩:=hy.bH;have iY:=ae hy;have HX:=ae hx2;clear hx2 hy;have HT:=ae (fun wr (hb:Below w.heap.size w wr)=>aaL n.text wr (WB.o.below hb));go_region_held3 (fun w'=>w'.cell? ⟨w.heap.size,2,none⟩=some (.string n.text)) (go_keep) (first|(go_at_call 126;((with_reducible refine(HT.o _ HB.o.drew).mono ?_);rintro e w2 ⟨rfl,h1⟩;have rU:=ae (iY.o.drew.below h1 iY.o.lt);have bT:=ae (HX.o.drew.below h1 HX.o.lt);have HB2:=ae (HB.o.drew.trans (h1.mono HB.o.size));clear h1;obtain⟨z0,z1,z2,z3,z4,z5,z6,z7,Ca,z9,BX,BZ,z12,Ec⟩:=rU.o.cells;obtain⟨g0,g1,g2,g3,g4,g5,g6,g7,g8,g9,g10,g11,g12,g13⟩:=rU.o.bH;obtain⟨t0,t1,t2,t3,t4,t5,t6,t7,t8,t9,t10,t11,t12,t13⟩:=bT.o.cells)))
 all_goals go_wp2_with fail
 all_goals exact bodyPost_ret (qF (rU.o.vS { Nd.zero with text:=n.text } (.slice none 0 0)) _ _ _ 2 3 vV rfl rfl) rfl ⟨rfl,vF HB2.o (by have:=HB.o.size;omega) _ _ _ _ _ _ _ _ _ _ _ _ _ _⟩
theorem YU (w:World)(n:Nd)(h6:n.kind=6)(hs:n.ref.sh.size≤1000000)(ht:n.af.sh.size≤1000000)(q1:bO n.ref=true)(q2:bO n.af=true)(A:Option Addr)(m c:Nat):Calls Tryz.prog 92 #[.agg #[.int .i64 n.kind,.int .i64 n.num,.string n.text,.string n.ref.sh,.int .i64 n.ref.c,.int .i64 n.ref.r,.bool n.ref.ac,.bool n.ref.ar,.string n.af.sh,.int .i64 n.af.c,.int .i64 n.af.r,.bool n.af.ac,.bool n.af.ar,.slice A m c]] w fun e w'=>e = .returned (.tuple #[.agg (bJ ⟨0,0,⟨#[]⟩,n.ref,n.af,[]⟩ (.slice none 0 0)),.bool (eD n.ref n.af)])∧Below w.heap.size w w':=by
 obtain⟨w1,hw1,hx2,hy,hb,hb2⟩:=xc w n A m c;have HB:=ae hb;obtain⟨x0,x1,x2,x3,x4,x5,x6,x7,av,aJ,aG,aH,aI,aF⟩:=hx2.cells;have e1:(n.kind == 1)=false:=by rw[h6];rfl
 have e2:(n.kind == 2)=false:=by rw[h6];rfl
 have e3:(n.kind == 3)=false:=by rw[h6];rfl
 have e5:(n.kind == 5)=false:=by rw[h6];rfl
 have e6:(n.kind == 6)=true:=beq_iff_eq.2 h6;clear h6;go_enter Tryz.func92,Tryz.ntmps92;go_upto_region 11 with (fail)
 clear hw1 hb;obtain⟨y0,y1,y2,y3,y4,fq,y6,lL,nE,uZ,uW,uX,uY,y13⟩:=hy.cells;obtain⟨f0,f1,f2,f3,f4,f5,f6,f7,f8,f9,f10,f11,f12,f13⟩:=hy.bH;have iY:=ae hy;have HX:=ae hx2;clear hx2 hy;have HT1:=ae (show ∀w,Calls Tryz.prog 108 #[.agg #[.string n.ref.sh,.int .i64 n.ref.c,.int .i64 n.ref.r,.bool n.ref.ac,.bool n.ref.ar]] w fun e w'=>e = .returned (.bool true)∧Below w.heap.size w w' from fun w=>by rw[← q1];exact zV n.ref.sh n.ref.c n.ref.r n.ref.ac n.ref.ar w hs);have HT2:=ae (show ∀w,Calls Tryz.prog 108 #[.agg #[.string n.af.sh,.int .i64 n.af.c,.int .i64 n.af.r,.bool n.af.ac,.bool n.af.ar]] w fun e w'=>e = .returned (.bool true)∧Below w.heap.size w w' from fun w=>by rw[← q2];exact zV n.af.sh n.af.c n.af.r n.af.ac n.af.ar w ht);have HT3:=ae (fun w=>QU n.ref.sh n.af.sh n.ref.c n.ref.r n.af.c n.af.r n.ref.ac n.ref.ar n.af.ac n.af.ar w)
 first
  | go_region_held3 (fun w'=>w'.cell? ⟨w.heap.size,3,none⟩=some (.string n.ref.sh)∧w'.cell? ⟨w.heap.size,4,none⟩=some (.int .i64 n.ref.c)∧w'.cell? ⟨w.heap.size,5,none⟩=some (.int .i64 n.ref.r)∧w'.cell? ⟨w.heap.size,6,none⟩=some (.bool n.ref.ac)∧w'.cell? ⟨w.heap.size,7,none⟩=some (.bool n.ref.ar)∧w'.cell? ⟨w.heap.size,8,none⟩=some (.string n.af.sh)∧w'.cell? ⟨w.heap.size,9,none⟩=some (.int .i64 n.af.c)∧w'.cell? ⟨w.heap.size,10,none⟩=some (.int .i64 n.af.r)∧w'.cell? ⟨w.heap.size,11,none⟩=some (.bool n.af.ac)∧w'.cell? ⟨w.heap.size,12,none⟩=some (.bool n.af.ar)) (go_keep) (first|(go_at_call 108;((with_reducible refine(HT1.o _).mono ?_);rintro e w2 ⟨rfl,h1⟩;have rU:=ae (iY.o.drew.below h1 iY.o.lt);have bT:=ae (HX.o.drew.below h1 HX.o.lt);have HB2:=ae (HB.o.drew.trans (h1.mono HB.o.size));clear h1;obtain⟨z0,z1,z2,z3,z4,z5,z6,z7,Ca,z9,BX,BZ,z12,Ec⟩:=rU.o.cells;obtain⟨g0,g1,g2,g3,g4,g5,g6,g7,g8,g9,g10,g11,g12,g13⟩:=rU.o.bH;obtain⟨t0,t1,t2,t3,t4,t5,t6,t7,t8,t9,t10,t11,t12,t13⟩:=bT.o.cells))|(go_at_call 108;((with_reducible refine(HT2.o _).mono ?_);rintro e w3 ⟨rfl,h1⟩;have ze:=ae (rU.o.below h1 rU.o.lt);have dZ:=ae (bT.o.below h1 bT.o.lt);have HB3:=ae (HB2.o.trans (h1.mono HB2.o.size));clear h1;obtain⟨z0,z1,z2,z3,z4,z5,z6,z7,Ca,z9,BX,BZ,z12,Ec⟩:=ze.o.cells;obtain⟨g0,g1,g2,g3,g4,g5,g6,g7,g8,g9,g10,g11,g12,g13⟩:=ze.o.bH;obtain⟨t0,t1,t2,t3,t4,t5,t6,t7,t8,t9,t10,t11,t12,t13⟩:=dZ.o.cells))|(go_at_call 125;((with_reducible refine(HT3.o _).mono ?_);rintro e w4 ⟨rfl,h1⟩;have Jh:=ae (ze.o.below h1 ze.o.lt);have nJ:=ae (dZ.o.below h1 dZ.o.lt);have dJ:=ae (HB3.o.trans (h1.mono HB3.o.size));clear h1;obtain⟨z0,z1,z2,z3,z4,z5,z6,z7,Ca,z9,BX,BZ,z12,Ec⟩:=Jh.o.cells;obtain⟨g0,g1,g2,g3,g4,g5,g6,g7,g8,g9,g10,g11,g12,g13⟩:=Jh.o.bH;obtain⟨t0,t1,t2,t3,t4,t5,t6,t7,t8,t9,t10,t11,t12,t13⟩:=nJ.o.cells)))
  | fail
 all_goals go_wp2_with fail
 all_goals exact bodyPost_ret (qF (Jh.o.vS ⟨0,0,⟨#[]⟩,n.ref,n.af,[]⟩ (.slice none 0 0)) _ _ _ 2 3 vV rfl rfl) rfl ⟨rfl,vF dJ.o (by have:=HB.o.size;omega) _ _ _ _ _ _ _ _ _ _ _ _ _ _⟩
theorem YM (w:World)(n:Nd)(h1:¬ n.kind=1)(h2:¬ n.kind=2)(h3:¬ n.kind=3)(h5:¬ n.kind=5)(h6:¬ n.kind=6)(h7:¬ n.kind=7)(h4:n.kind=4)(A:Option Addr)(m c:Nat):Calls Tryz.prog 92 #[.agg #[.int .i64 n.kind,.int .i64 n.num,.string n.text,.string n.ref.sh,.int .i64 n.ref.c,.int .i64 n.ref.r,.bool n.ref.ac,.bool n.ref.ar,.string n.af.sh,.int .i64 n.af.c,.int .i64 n.af.r,.bool n.af.ac,.bool n.af.ar,.slice A m c]] w fun e w'=>e = .returned (.tuple #[.agg (bJ Nd.zero (.slice none 0 0)),.bool true])∧Below w.heap.size w w':=by
 obtain⟨w1,hw1,hx2,hy,hb,hb2⟩:=xc w n A m c;have HB:=ae hb;obtain⟨x0,x1,x2,x3,x4,x5,x6,x7,av,aJ,aG,aH,aI,aF⟩:=hx2.cells;have e1:(n.kind == 1)=false:=beq_eq_false_iff_ne.2 h1;have e2:(n.kind == 2)=false:=beq_eq_false_iff_ne.2 h2;have e3:(n.kind == 3)=false:=beq_eq_false_iff_ne.2 h3;have e5:(n.kind == 5)=false:=beq_eq_false_iff_ne.2 h5;have e6:(n.kind == 6)=false:=beq_eq_false_iff_ne.2 h6;have e7:(n.kind == 7)=false:=beq_eq_false_iff_ne.2 h7;clear h1 h2 h3 h5 h6 h7;have e4:(n.kind == 4)=true:=beq_iff_eq.2 h4;clear h4;go_enter Tryz.func92,Tryz.ntmps92;go_upto_region 14 with (fail)
 clear hw1 hb;obtain⟨y0,y1,y2,y3,y4,fq,y6,lL,nE,uZ,uW,uX,uY,y13⟩:=hy.cells;obtain⟨f0,f1,f2,f3,f4,f5,f6,f7,f8,f9,f10,f11,f12,f13⟩:=hy.bH;have iY:=ae hy;have HX:=ae hx2;clear hx2 hy;go_wp2_with (go_at_call 127;((with_reducible refine(Dt _ _).mono ?_);rintro e w2 ⟨rfl,rfl⟩))
 all_goals exact bodyPost_ret (qF (iY.o.vS Nd.zero (.slice none 0 0)) _ _ _ 2 3 vV rfl rfl) rfl ⟨rfl,vF HB.o (by have:=HB.o.size;omega) _ _ _ _ _ _ _ _ _ _ _ _ _ _⟩
theorem YN (w:World)(n:Nd)(h1:¬ n.kind=1)(h2:¬ n.kind=2)(h3:¬ n.kind=3)(h5:¬ n.kind=5)(h6:¬ n.kind=6)(h7:¬ n.kind=7)(h4:n.kind=8)(A:Option Addr)(m c:Nat):Calls Tryz.prog 92 #[.agg #[.int .i64 n.kind,.int .i64 n.num,.string n.text,.string n.ref.sh,.int .i64 n.ref.c,.int .i64 n.ref.r,.bool n.ref.ac,.bool n.ref.ar,.string n.af.sh,.int .i64 n.af.c,.int .i64 n.af.r,.bool n.af.ac,.bool n.af.ar,.slice A m c]] w fun e w'=>e = .returned (.tuple #[.agg (bJ Nd.zero (.slice none 0 0)),.bool true])∧Below w.heap.size w w':=by
 obtain⟨w1,hw1,hx2,hy,hb,hb2⟩:=xc w n A m c;have HB:=ae hb;obtain⟨x0,x1,x2,x3,x4,x5,x6,x7,av,aJ,aG,aH,aI,aF⟩:=hx2.cells;have e1:(n.kind == 1)=false:=beq_eq_false_iff_ne.2 h1;have e2:(n.kind == 2)=false:=beq_eq_false_iff_ne.2 h2;have e3:(n.kind == 3)=false:=beq_eq_false_iff_ne.2 h3;have e5:(n.kind == 5)=false:=beq_eq_false_iff_ne.2 h5;have e6:(n.kind == 6)=false:=beq_eq_false_iff_ne.2 h6;have e7:(n.kind == 7)=false:=beq_eq_false_iff_ne.2 h7;clear h1 h2 h3 h5 h6 h7;have e4:(n.kind == 4)=false:=by rw[h4];rfl
 have e8:(n.kind == 8)=true:=beq_iff_eq.2 h4;clear h4;go_enter Tryz.func92,Tryz.ntmps92;go_upto_region 14 with (fail)
 clear hw1 hb;obtain⟨y0,y1,y2,y3,y4,fq,y6,lL,nE,uZ,uW,uX,uY,y13⟩:=hy.cells;obtain⟨f0,f1,f2,f3,f4,f5,f6,f7,f8,f9,f10,f11,f12,f13⟩:=hy.bH;have iY:=ae hy;have HX:=ae hx2;clear hx2 hy;go_wp2_with (go_at_call 127;((with_reducible refine(Dt _ _).mono ?_);rintro e w2 ⟨rfl,rfl⟩))
 all_goals exact bodyPost_ret (qF (iY.o.vS Nd.zero (.slice none 0 0)) _ _ _ 2 3 vV rfl rfl) rfl ⟨rfl,vF HB.o (by have:=HB.o.size;omega) _ _ _ _ _ _ _ _ _ _ _ _ _ _⟩
theorem YO (w:World)(n:Nd)(h1:¬ n.kind=1)(h2:¬ n.kind=2)(h3:¬ n.kind=3)(h5:¬ n.kind=5)(h6:¬ n.kind=6)(h7:¬ n.kind=7)(h4:¬ n.kind=4)(h8:¬ n.kind=8)(A:Option Addr)(m c:Nat):Calls Tryz.prog 92 #[.agg #[.int .i64 n.kind,.int .i64 n.num,.string n.text,.string n.ref.sh,.int .i64 n.ref.c,.int .i64 n.ref.r,.bool n.ref.ac,.bool n.ref.ar,.string n.af.sh,.int .i64 n.af.c,.int .i64 n.af.r,.bool n.af.ac,.bool n.af.ar,.slice A m c]] w fun e w'=>e = .returned (.tuple #[.agg (bJ Nd.zero (.slice none 0 0)),.bool (vZ n.kind)])∧Below w.heap.size w w':=by
 obtain⟨w1,hw1,hx2,hy,hb,hb2⟩:=xc w n A m c;have HB:=ae hb;obtain⟨x0,x1,x2,x3,x4,x5,x6,x7,av,aJ,aG,aH,aI,aF⟩:=hx2.cells;have e1:(n.kind == 1)=false:=beq_eq_false_iff_ne.2 h1;have e2:(n.kind == 2)=false:=beq_eq_false_iff_ne.2 h2;have e3:(n.kind == 3)=false:=beq_eq_false_iff_ne.2 h3;have e5:(n.kind == 5)=false:=beq_eq_false_iff_ne.2 h5;have e6:(n.kind == 6)=false:=beq_eq_false_iff_ne.2 h6;have e7:(n.kind == 7)=false:=beq_eq_false_iff_ne.2 h7;clear h1 h2 h3 h5 h6 h7;have e4:(n.kind == 4)=false:=beq_eq_false_iff_ne.2 h4;have e8:(n.kind == 8)=false:=beq_eq_false_iff_ne.2 h8;clear h4 h8;go_enter Tryz.func92,Tryz.ntmps92;go_upto_region 14 with (fail)
 clear hw1 hb;obtain⟨y0,y1,y2,y3,y4,fq,y6,lL,nE,uZ,uW,uX,uY,y13⟩:=hy.cells;obtain⟨f0,f1,f2,f3,f4,f5,f6,f7,f8,f9,f10,f11,f12,f13⟩:=hy.bH;have iY:=ae hy;have HX:=ae hx2;clear hx2 hy;go_wp2_with (go_at_call 127;((with_reducible refine(Dt _ _).mono ?_);rintro e w2 ⟨rfl,rfl⟩))
 all_goals exact bodyPost_ret (qF (iY.o.vS Nd.zero (.slice none 0 0)) _ _ _ 2 3 vV rfl rfl) rfl ⟨rfl,vF HB.o (by have:=HB.o.size;omega) _ _ _ _ _ _ _ _ _ _ _ _ _ _⟩
def gD(a b:bC):Bool:=decide (a.sh=b.sh)&&(decide (a.c=b.c)&&(decide (a.r=b.r)&&((a.ac == b.ac)&&(a.ar == b.ar))))
theorem CR (a b:bC):gD a b=true↔a=b:=by
 unfold gD;simp only[dA,decide_eq_true_iff,beq_iff_eq];cases a;cases b
 simp
theorem YI {a b:bC}(h1:a.sh.toList=b.sh.toList)(h2:a.c=b.c)(h3:a.r=b.r)(h4:a.ac=b.ac)(h5:a.ar=b.ar):gD a b=true:=by
 have hs:a.sh=b.sh:=by
  by_cases h:a.sh=b.sh
  · exact h
  · exact absurd h1 (pR _ _ h)
 rw[CR];cases a;cases b
 simp only at hs h2 h3 h4 h5;rw[hs,h2,h3,h4,h5]
def uK(n:Nd)(m:Nat):Bool:=okF n&&(hkB n.kind m&&(decide (n.num=(iF n).num)&&(decide (n.text=(iF n).text)&&(gD n.ref (iF n).ref&&gD n.af (iF n).af))))
theorem JI(a:bC):gD a a=true:=(CR a a).2 rfl
theorem KZ (r:bC):fe r=gD r bC.zero:=by
 obtain⟨sh,c,r,ac,ar⟩:=r;unfold fe gD bC.zero;simp only;rw[Bool.eq_iff_iff];simp only[dA,decide_eq_true_iff,beq_iff_eq,Bool.not_eq_true'];constructor
 · rintro⟨⟨h1,h2,h3⟩,h4,h5⟩;exact⟨h1,h2,h3,h4,h5⟩
 · rintro⟨h1,h2,h3,h4,h5⟩;exact⟨⟨h1,h2,h3⟩,h4,h5⟩
def Bv (n:Nd):Bool :=
 if n.kind=1 then decide (0≤n.num)else if n.kind=2 then lI (sb n.text)else if n.kind=3 then decide (n.num=0∨n.num=1)
 else if n.kind=5 then bO n.ref else if n.kind=6 then bO n.ref&&(bO n.af&&eD n.ref n.af)else if n.kind=7 then jy n.text else true
def uu(n:Nd):Bool:=decide (n.kind=1∨n.kind=3∨n.num=0)
def uy(n:Nd):Bool:=decide (n.kind=2∨n.kind=7∨n.text=⟨#[]⟩)
def uw(n:Nd):Bool:=decide (n.kind=5∨n.kind=6)||gD n.ref bC.zero
def uz(n:Nd):Bool:=decide (n.kind=6)||gD n.af bC.zero
theorem Gd (n:Nd):(n.kind=1∧iF n={ Nd.zero with num:=n.num })∨(n.kind=2∧iF n={ Nd.zero with text:=n.text })∨(n.kind=3∧iF n={ Nd.zero with num:=n.num })∨(n.kind=5∧iF n={ Nd.zero with ref:=n.ref })∨(n.kind=6∧iF n=⟨0,0,⟨#[]⟩,n.ref,n.af,[]⟩)∨(n.kind=7∧iF n={ Nd.zero with text:=n.text })∨(¬ n.kind=1∧¬ n.kind=2∧¬ n.kind=3∧¬ n.kind=5∧¬ n.kind=6∧¬ n.kind=7∧iF n=Nd.zero):=by
 unfold iF;by_cases h1:n.kind=1
 · exact Or.inl ⟨h1,by rw[if_pos h1]⟩
 by_cases h2:n.kind=2
 · exact Or.inr <| Or.inl ⟨h2,by rw[if_neg h1,if_pos h2]⟩
 by_cases h3:n.kind=3
 · exact Or.inr <| Or.inr <| Or.inl ⟨h3,by rw[if_neg h1,if_neg h2,if_pos h3]⟩
 by_cases h5:n.kind=5
 · exact Or.inr <| Or.inr <| Or.inr <| Or.inl ⟨h5,by rw[if_neg h1,if_neg h2,if_neg h3,if_pos h5]⟩
 by_cases h6:n.kind=6
 · exact Or.inr <| Or.inr <| Or.inr <| Or.inr <| Or.inl ⟨h6,by rw[if_neg h1,if_neg h2,if_neg h3,if_neg h5,if_pos h6]⟩
 by_cases h7:n.kind=7
 · exact Or.inr <| Or.inr <| Or.inr <| Or.inr <| Or.inr <| Or.inl ⟨h7,by rw[if_neg h1,if_neg h2,if_neg h3,if_neg h5,if_neg h6,if_pos h7]⟩
 exact Or.inr <| Or.inr <| Or.inr <| Or.inr <| Or.inr <| Or.inr <| ⟨h1,h2,h3,h5,h6,h7,by rw[if_neg h1,if_neg h2,if_neg h3,if_neg h5,if_neg h6,if_neg h7]⟩
theorem acI (n:Nd):decide (n.num=(iF n).num)=uu n:=by
 rcases Gd n with ⟨h,e⟩|⟨h,e⟩|⟨h,e⟩|⟨h,e⟩|⟨h,e⟩|⟨h,e⟩|⟨h1,h2,h3,h5,h6,h7,e⟩
 · rw[e];unfold uu;rw[show decide (n.num=n.num)=true from decide_eq_true rfl];symm;rw[decide_eq_true_iff];first|exact .inl h|exact .inr (.inl h)
 · rw [e];unfold uu;show decide (n.num=0)=_;rw[decide_eq_decide];constructor
   · intro g;exact .inr (.inr g)
   · rintro(g|g|g)
     · omega
     · omega
     · exact g
 · rw[e];unfold uu;rw[show decide (n.num=n.num)=true from decide_eq_true rfl];symm;rw[decide_eq_true_iff];first|exact .inl h|exact .inr (.inl h)
 · rw [e];unfold uu;show decide (n.num=0)=_;rw[decide_eq_decide];constructor
   · intro g;exact .inr (.inr g)
   · rintro(g|g|g)
     · omega
     · omega
     · exact g
 · rw [e];unfold uu;show decide (n.num=0)=_;rw[decide_eq_decide];constructor
   · intro g;exact .inr (.inr g)
   · rintro(g|g|g)
     · omega
     · omega
     · exact g
 · rw [e];unfold uu;show decide (n.num=0)=_;rw[decide_eq_decide];constructor
   · intro g;exact .inr (.inr g)
   · rintro(g|g|g)
     · omega
     · omega
     · exact g
 · rw [e];unfold uu;show decide (n.num=0)=_;rw[decide_eq_decide];constructor
   · intro g;exact .inr (.inr g)
   · rintro(g|g|g)
     · omega
     · omega
     · exact g
theorem acK (n:Nd):decide (n.text=(iF n).text)=uy n:=by
 rcases Gd n with ⟨h,e⟩|⟨h,e⟩|⟨h,e⟩|⟨h,e⟩|⟨h,e⟩|⟨h,e⟩|⟨h1,h2,h3,h5,h6,h7,e⟩
 · rw [e];unfold uy;show decide (n.text=⟨#[]⟩)=_;rw[decide_eq_decide];constructor
   · intro g;exact .inr (.inr g)
   · rintro(g|g|g)
     · omega
     · omega
     · exact g
 · rw[e];unfold uy;rw[show decide (n.text=n.text)=true from decide_eq_true rfl];symm;rw[decide_eq_true_iff];first|exact .inl h|exact .inr (.inl h)
 · rw [e];unfold uy;show decide (n.text=⟨#[]⟩)=_;rw[decide_eq_decide];constructor
   · intro g;exact .inr (.inr g)
   · rintro(g|g|g)
     · omega
     · omega
     · exact g
 · rw [e];unfold uy;show decide (n.text=⟨#[]⟩)=_;rw[decide_eq_decide];constructor
   · intro g;exact .inr (.inr g)
   · rintro(g|g|g)
     · omega
     · omega
     · exact g
 · rw [e];unfold uy;show decide (n.text=⟨#[]⟩)=_;rw[decide_eq_decide];constructor
   · intro g;exact .inr (.inr g)
   · rintro(g|g|g)
     · omega
     · omega
     · exact g
 · rw[e];unfold uy;rw[show decide (n.text=n.text)=true from decide_eq_true rfl];symm;rw[decide_eq_true_iff];first|exact .inl h|exact .inr (.inl h)
 · rw [e];unfold uy;show decide (n.text=⟨#[]⟩)=_;rw[decide_eq_decide];constructor
   · intro g;exact .inr (.inr g)
   · rintro(g|g|g)
     · omega
     · omega
     · exact g
theorem acJ (n:Nd):gD n.ref (iF n).ref=uw n:=by
 rcases Gd n with ⟨h,e⟩|⟨h,e⟩|⟨h,e⟩|⟨h,e⟩|⟨h,e⟩|⟨h,e⟩|⟨h1,h2,h3,h5,h6,h7,e⟩
 · rw[e];unfold uw;show gD n.ref bC.zero=_;rw[decide_eq_false (by omega)];rfl
 · rw[e];unfold uw;show gD n.ref bC.zero=_;rw[decide_eq_false (by omega)];rfl
 · rw[e];unfold uw;show gD n.ref bC.zero=_;rw[decide_eq_false (by omega)];rfl
 · rw[e];unfold uw;rw[show gD n.ref n.ref=true from JI _,decide_eq_true (by omega)];rfl
 · rw[e];unfold uw;rw[show gD n.ref n.ref=true from JI _,decide_eq_true (by omega)];rfl
 · rw[e];unfold uw;show gD n.ref bC.zero=_;rw[decide_eq_false (by omega)];rfl
 · rw[e];unfold uw;show gD n.ref bC.zero=_;rw[decide_eq_false (by omega)];rfl
theorem acL (n:Nd):gD n.af (iF n).af=uz n:=by
 rcases Gd n with ⟨h,e⟩|⟨h,e⟩|⟨h,e⟩|⟨h,e⟩|⟨h,e⟩|⟨h,e⟩|⟨h1,h2,h3,h5,h6,h7,e⟩
 · rw[e];unfold uz;show gD n.af bC.zero=_;rw[decide_eq_false (by omega)];rfl
 · rw[e];unfold uz;show gD n.af bC.zero=_;rw[decide_eq_false (by omega)];rfl
 · rw[e];unfold uz;show gD n.af bC.zero=_;rw[decide_eq_false (by omega)];rfl
 · rw[e];unfold uz;show gD n.af bC.zero=_;rw[decide_eq_false (by omega)];rfl
 · rw[e];unfold uz;rw[show gD n.af n.af=true from JI _,decide_eq_true (by omega)];rfl
 · rw[e];unfold uz;show gD n.af bC.zero=_;rw[decide_eq_false (by omega)];rfl
 · rw[e];unfold uz;show gD n.af bC.zero=_;rw[decide_eq_false (by omega)];rfl
theorem abx (n:Nd):aD n=((uu n&&(uy n&&(uw n&&uz n)))&&Bv n):=by
 unfold aD uu uy uw uz;rw[KZ,KZ]
 have hk:(if n.kind=1 then decide (0≤n.num)else if n.kind=3 then decide (n.num=0∨n.num=1)else if n.kind=2 then lI (sb n.text)else if n.kind=7 then jy n.text else if n.kind=5 then bO n.ref else if n.kind=6 then bO n.ref&&(bO n.af&&eD n.ref n.af)else true)=Bv n:=by
  unfold Bv;by_cases h1:n.kind=1
  · rw[if_pos h1,if_pos h1]
  by_cases h2:n.kind=2
  · rw[if_neg h1,if_neg (by omega),if_pos h2,if_neg h1,if_pos h2]
  by_cases h3:n.kind=3
  · rw[if_neg h1,if_pos h3,if_neg h1,if_neg h2,if_pos h3]
  by_cases h5:n.kind=5
  · rw[if_neg h1,if_neg h3,if_neg h2,if_neg (by omega),if_pos h5,if_neg h1,if_neg h2,if_neg h3,if_pos h5]
  by_cases h6:n.kind=6
  · rw[if_neg h1,if_neg h3,if_neg h2,if_neg (by omega),if_neg h5,if_pos h6,if_neg h1,if_neg h2,if_neg h3,if_neg h5,if_pos h6]
  by_cases h7:n.kind=7
  · rw[if_neg h1,if_neg h3,if_neg h2,if_pos h7,if_neg h1,if_neg h2,if_neg h3,if_neg h5,if_neg h6,if_pos h7]
  rw[if_neg h1,if_neg h3,if_neg h2,if_neg h7,if_neg h5,if_neg h6,if_neg h1,if_neg h2,if_neg h3,if_neg h5,if_neg h6,if_neg h7]
 rw[hk];by_cases q1:n.kind=1∨n.kind=3∨n.num=0
 · by_cases q2 : n.kind=2∨n.kind=7∨n.text=⟨#[]⟩
   · by_cases q3:n.kind=5∨n.kind=6
     · by_cases q4:n.kind=6
       · rw [decide_eq_true q1,decide_eq_true q2,decide_eq_true q3,decide_eq_true q4,if_neg]
         · rfl
         · rintro (g|g|g|g)
           · omega
           · rcases q2 with q|q|q
             · exact g.1 q
             · exact g.2.1 q
             · exact g.2.2 q
           · omega
           · omega
       · cases q5:gD n.af bC.zero
         · rw[if_pos (.inr (.inr (.inr ⟨q4,rfl⟩))),decide_eq_false q4,Bool.or_false,Bool.and_false,Bool.and_false,Bool.and_false];rfl
         · rw [decide_eq_true q1,decide_eq_true q2,decide_eq_true q3,decide_eq_false q4,if_neg]
           · rfl
           · rintro (g|g|g|g)
             · omega
             · rcases q2 with q|q|q
               · exact g.1 q
               · exact g.2.1 q
               · exact g.2.2 q
             · omega
             · cases g.2
     · cases q5 : gD n.ref bC.zero
       · rw[if_pos (.inr (.inr (.inl ⟨by omega,by omega,rfl⟩))),decide_eq_false q3,Bool.or_false,Bool.false_and,Bool.and_false,Bool.and_false];rfl
       · cases q6:gD n.af bC.zero
         · rw[if_pos (.inr (.inr (.inr ⟨by omega,rfl⟩))),decide_eq_false (show ¬ n.kind=6 by omega),Bool.or_false,Bool.and_false,Bool.and_false,Bool.and_false];rfl
         · rw [decide_eq_true q1,decide_eq_true q2,decide_eq_false q3,if_neg]
           · cases decide (n.kind=6) <;> rfl
           · rintro (g|g|g|g)
             · omega
             · rcases q2 with q|q|q
               · exact g.1 q
               · exact g.2.1 q
               · exact g.2.2 q
             · cases g.2.2
             · cases g.2
   · rw[if_pos (.inr (.inl ⟨fun h=>q2 (.inl h),fun h=>q2 (.inr (.inl h)),fun h=>q2 (.inr (.inr h))⟩)),decide_eq_false q2,Bool.false_and,Bool.and_false];rfl
 · rw[if_pos (.inl ⟨fun h=>q1 (.inl h),fun h=>q1 (.inr (.inl h)),fun h=>q1 (.inr (.inr h))⟩),decide_eq_false q1];rfl
theorem aa' (n:Nd)(m:Nat):(okF n&&hkB n.kind m)=(Bv n&&(decide (jh n.kind = -1)||decide (jh n.kind=m))):=by
 have c0:decide ((0:Int)=(m:Int))=decide (m=0):=by rw[decide_eq_decide];omega
 have c1:decide ((1:Int)=(m:Int))=decide (m=1):=by rw[decide_eq_decide];omega
 have c2:decide ((2:Int)=(m:Int))=decide (m=2):=by rw[decide_eq_decide];omega
 have c3:decide ((-2:Int)=(m:Int))=false:=by rw[decide_eq_false_iff_not];omega
 unfold okF Bv hkB jh vZ;by_cases h1:n.kind=1
 · rw[if_pos h1,if_pos h1,if_neg (show ¬ n.kind=7 by omega),if_neg (show ¬ n.kind=8 by omega),decide_eq_false (show ¬ (9≤n.kind∧n.kind≤19)by omega),if_pos (show 1≤n.kind∧n.kind≤6 by omega),c0];rfl
 by_cases h2:n.kind=2
 · rw[if_neg h1,if_pos h2,if_neg h1,if_pos h2,if_neg (show ¬ n.kind=7 by omega),if_neg (show ¬ n.kind=8 by omega),decide_eq_false (show ¬ (9≤n.kind∧n.kind≤19)by omega),if_pos (show 1≤n.kind∧n.kind≤6 by omega),c0];rfl
 by_cases h3:n.kind=3
 · rw[if_neg h1,if_neg h2,if_pos h3,if_neg h1,if_neg h2,if_pos h3,if_neg (show ¬ n.kind=7 by omega),if_neg (show ¬ n.kind=8 by omega),decide_eq_false (show ¬ (9≤n.kind∧n.kind≤19)by omega),if_pos (show 1≤n.kind∧n.kind≤6 by omega),c0];rfl
 by_cases h5:n.kind=5
 · rw[if_neg h1,if_neg h2,if_neg h3,if_pos h5,if_neg h1,if_neg h2,if_neg h3,if_pos h5,if_neg (show ¬ n.kind=7 by omega),if_neg (show ¬ n.kind=8 by omega),decide_eq_false (show ¬ (9≤n.kind∧n.kind≤19)by omega),if_pos (show 1≤n.kind∧n.kind≤6 by omega),c0];rfl
 by_cases h6:n.kind=6
 · rw[if_neg h1,if_neg h2,if_neg h3,if_neg h5,if_pos h6,if_neg h1,if_neg h2,if_neg h3,if_neg h5,if_pos h6,if_neg (show ¬ n.kind=7 by omega),if_neg (show ¬ n.kind=8 by omega),decide_eq_false (show ¬ (9≤n.kind∧n.kind≤19)by omega),if_pos (show 1≤n.kind∧n.kind≤6 by omega),c0];rfl
 by_cases h7:n.kind=7
 · rw[if_neg h1,if_neg h2,if_neg h3,if_neg h5,if_neg h6,if_pos h7,if_neg h1,if_neg h2,if_neg h3,if_neg h5,if_neg h6,if_pos h7,if_pos h7,if_neg (show ¬ (1≤n.kind∧n.kind≤6)by omega),if_pos h7];rfl
 rw[if_neg h1,if_neg h2,if_neg h3,if_neg h5,if_neg h6,if_neg h7,if_neg h1,if_neg h2,if_neg h3,if_neg h5,if_neg h6,if_neg h7,if_neg h7,Bool.true_and];by_cases h8:n.kind=8
 · rw[if_pos h8,if_neg (show ¬ (1≤n.kind∧n.kind≤6)by omega),if_neg h7,if_pos h8,c1,decide_eq_true (show n.kind=4∨n.kind=8 by omega)];rfl
 by_cases h9:9≤n.kind∧n.kind≤19
 · rw[if_neg h8,if_neg (show ¬ (1≤n.kind∧n.kind≤6)by omega),if_neg h7,if_neg h8,if_pos h9,c2,decide_eq_true h9,if_pos rfl,Bool.or_true];rfl
 by_cases h4:n.kind=4
 · rw[if_neg h8,if_pos (show 1≤n.kind∧n.kind≤6 by omega),c0,decide_eq_true (show n.kind=4∨n.kind=8 by omega),decide_eq_false h9];rfl
 rw[if_neg h8,if_neg (show ¬ (1≤n.kind∧n.kind≤6)by omega),if_neg h7,if_neg h8,if_neg h9,c3,decide_eq_false (show ¬ (n.kind=4∨n.kind=8)by omega),decide_eq_false h9];rfl
theorem QR (n:Nd):uK n n.kids.length=bX n:=by
 unfold uK bX;rw[acI,acK,acJ,acL,abx];have h:=aa' n n.kids.length;revert h;generalize (decide (jh n.kind = -1)||decide (jh n.kind=n.kids.length))=d;generalize hkB n.kind n.kids.length=c;cases okF n <;> cases Bv n <;> cases c <;> cases d <;> cases uu n <;> cases uy n <;> cases uw n <;> cases uz n <;> simp
def ig (w:World)(B:Nat)(v:Value)(xs:List Int):Prop :=
 ∃A cap,v = .slice A xs.length cap∧xs.length≤cap∧cap≤maxLen∧(xs=[]∨∃pb po,A=some ⟨pb,po,none⟩∧pb<B∧∀(j:Nat)(x:Int),xs[j]? = some x→w.cell? ⟨pb,po+j,none⟩=some (.int .i64 x))
theorem ig.below {w w':World}{B C:Nat}{v:Value}{xs:List Int}(h:ig w B v xs)(hb:Below C w w')(hC:B≤C):ig w' B v xs:=by
 obtain⟨A,cap,h1,h2,h3,h4⟩:=h;refine⟨A,cap,h1,h2,h3,h4.imp id ?_⟩;rintro⟨pb,po,e1,e2,e3⟩;exact⟨pb,po,e1,e2,fun j x hj=>(hb.cell (p:=⟨pb,po+j,none⟩) (by show pb<C;omega)).trans (e3 j x hj)⟩
theorem ig.mono {w:World}{B C:Nat}{v:Value}{xs:List Int}(h:ig w B v xs)(hC:B≤C):ig w C v xs:=by
 obtain⟨A,cap,h1,h2,h3,h4⟩:=h;refine⟨A,cap,h1,h2,h3,h4.imp id ?_⟩;rintro⟨pb,po,e1,e2,e3⟩;exact⟨pb,po,e1,by omega,e3⟩
theorem Sv {w:World}{base g n cap:Nat}{st:List Int}(h:Own (aK .i64) 3 w base (.slice (some ⟨g,0,none⟩) n cap) st)(j:Nat)(x:Int)(hj:st[j]? = some x):w.cell? ⟨g,j,none⟩=some (.int .i64 x):=by
 have hl:=(dW.1 hj).1;have h1:=Own.vQ h j hl;rw[jG,hj]at h1;exact h1
theorem ig.tail {w:World}{base g cap:Nat}{st:List Int}(h:Own (aK .i64) 3 w base (.slice (some ⟨g,0,none⟩) st.length cap) st)(f:Nat)(hf:f≤st.length)(hc:st.length≤cap)(hm:cap≤maxLen)(hg:g<w.heap.size):ig w w.heap.size (.slice (if cap=f then some ⟨g,0,none⟩else some ⟨g,f,none⟩) (st.length - f) (cap - f)) (st.drop f):=by
 refine⟨_,_,by rw[List.length_drop],by rw[List.length_drop];omega,by omega, ?_⟩;by_cases h0:st.drop f=[]
 · exact .inl h0
 · have hne:¬ cap=f:=fun e=>h0 (List.drop_of_length_le (by omega))
   refine .inr ⟨g,f,by rw[if_neg hne],hg,fun j x hj => ?_⟩;rw[List.getElem?_drop]at hj;exact Sv h (f+j) x hj
theorem Sy {w:World}{base g cap:Nat}{st:List Int}(h:Own (aK .i64) 3 w base (.slice (some ⟨g,0,none⟩) st.length cap) st)(k:Nat)(hk:k≤st.length):Own (aK .i64) 3 w base (.slice (some ⟨g,0,none⟩) k cap) (st.take k):=by
 have hl:(st.take k).length=k:=by rw[gK];omega
 rcases h.2 with ⟨h1,_⟩|⟨g',oZ,cur,h1,h2,h3,h4,h5,h6,h7⟩
 · cases h1
 · injection h1 with e1 e2 e3
   injection e1 with e1;injection e1 with e1;subst e1;subst e3;refine⟨by rw[Enc.lU],.inr ⟨g,cap,cur,by rw[hl],h2,h3,by omega,h5,h6, ?_⟩⟩;rw[hl,vE,List.map_take, ← vE, ← h7,List.take_take,Nat.mul_one,Nat.mul_one];congr 1;omega
theorem UG {xs ys:List Int}{k:Nat}{x:Int}(h:xs.take k=ys.take k)(hx:xs[k]? = some x)(hy:ys[k]? = some x):xs.take (k+1)=ys.take (k+1):=by
 rw[List.take_add_one,List.take_add_one,h,hx,hy]
theorem Pf (w:World)(B:Nat)(v1 v2:Value)(xs ys:List Int)(h1:ig w B v1 xs)(h2:ig w B v2 ys):Calls Tryz.prog 62 #[v1,v2] w fun e w'=>e = .returned (.bool (decide (xs=ys)))∧Below w.heap.size w w':=by
 obtain⟨A1,eU,rfl,hc1,hm1,a1⟩:=h1;obtain⟨A2,o5,rfl,hc2,hm2,a2⟩:=h2;unfold maxLen at hm1 hm2;obtain⟨n1,hn1⟩:∃n1,xs.length=n1:=⟨_,rfl⟩;obtain⟨n2,hn2⟩:∃n2,ys.length=n2:=⟨_,rfl⟩;rw[hn1]at hc1 ⊢;rw[hn2]at hc2 ⊢;by_cases hl:n1=n2
 · subst hl
   have HA1:=ae a1;have HA2:=ae a2;have dK:=ae hn1;have bS:=ae hn2;clear a1 a2 hn1 hn2;go_enter Tryz.func62,Tryz.ntmps62;go_upto_region 4 with (fail)
   go_loopw [13] (fun i wr=>∃(k m:Nat),k≤n1∧i = .int .i64 (k:Int)∧Hid (xs.take k=ys.take k)∧w.drewN m=wr)
    (fun i _=>n1 - (intOf i).toNat)
   case atStart=>exact⟨0,0,dV _,rfl,ae rfl,rfl⟩
   case round =>
    obtain⟨k,m,hk,rfl,HT,rfl⟩:=hrel;by_cases hlt:k<n1
    · have hki:(k:Int)<(n1:Int):=by omega
      obtain⟨x,hx⟩:∃x,xs[k]? = some x:=⟨_,dm (by rw[dK.o];exact hlt)⟩;obtain⟨y,hy⟩:∃y,ys[k]? = some y:=⟨_,dm (by rw[bS.o];exact hlt)⟩;rcases HA1.o with e|⟨p1,o1,rfl, -,c1⟩
      · exfalso;rw[e]at hx;simp at hx
      rcases HA2.o with e|⟨p2,o2,rfl, -,c2⟩
      · exfalso;rw[e]at hy;simp at hy
      have k1:=c1 k x hx;have k2:=c2 k y hy;have HX:=ae hx;have iY:=ae hy;clear c1 c2 hx hy;by_cases hxy:x=y
      · have ex:(x != y)=false:=by rw[hxy];simp
        have HT2:=ae (UG HT.o HX.o (by rw[hxy];exact iY.o));clear hxy;go_wp2_with fail
        go_quiet (fail)
        go_wp2_with fail
        go_roundw
        case rel=>exact⟨k+1,_,by omega,by go_num,HT2,by first|rfl|trivial⟩
        case measure=>simp[intOf];omega
      · have ex:(x != y)=true:=by rw[bne_iff_ne];exact hxy
        have HR:=ae (show ¬ xs=ys from fun e=>hxy (by have h1:=HX.o;rw[e,iY.o]at h1;exact(dU h1).symm));clear hxy;go_wp2_with fail
        go_quiet (fail)
        go_wp2_with fail
        go_ret;exact⟨by rw[decide_eq_false HR.o] <;> rfl,o7 (o7 (ai _ _) m) nq⟩
    · have hki:¬ (k:Int)<(n1:Int):=by omega
      have HR:=ae (show xs=ys by
       have h1:=HT.o;rw[pW (by rw[dK.o];omega),pW (by rw[bS.o];omega)]at h1;exact h1)
      go_wp2_with fail
      go_ret;exact⟨by rw[decide_eq_true HR.o] <;> rfl,o7 (ai _ _) m⟩
 · have hne:((n1:Int) != (n2:Int))=true:=by rw[bne_iff_ne];omega
   have HR:=ae (show ¬ xs=ys from fun e=>hl (by rw[← hn1, ← hn2,e]));clear a1 a2 hn1 hn2;go_enter Tryz.func62,Tryz.ntmps62;go_wp2_with fail
   go_ret;exact⟨by rw[decide_eq_false HR.o] <;> rfl,ai _ _⟩
def eF (w:World)(B:Nat)(v:Value)(vs:List (Nd × Value)):Prop :=
 (∃A cap,v = .slice A vs.length cap∧(vs=[]∨∃pb po,A=some ⟨pb,po,none⟩∧pb<B∧∀(i:Nat)(n:Nd)(k:Value),vs[i]? = some (n,k)→∀j,j<14→w.cell? ⟨pb,po+i*14+j,none⟩=(bJ n k).toList[j]?))∧∀p∈vs,ig w B p.2 p.1.kids
def SZ(vs:List (Nd × Value)):Prop:=vs.length≤1000∧∀p∈vs,p.1.text.size≤1000000∧p.1.ref.sh.size≤1000000∧p.1.af.sh.size≤1000000
theorem ig.se {w:World}{B:Nat}{v:Value}{xs:List Int}(h:ig w B v xs):fQ (aK .i64) w B v xs:=by
 obtain⟨A,cap,h1,h2,h3,h4⟩:=h;refine⟨A,cap,h1,h2,h3,h4.imp id ?_⟩;rintro⟨pb,po,e1,e2,e3⟩;refine⟨pb,po,e1,e2,fun j u hu => ?_⟩;rw[vE,iw]at hu;cases hx:xs[j]? with
 | none=>rw[hx]at hu;cases hu
 | some x=>rw[hx]at hu;rw[← dU hu];exact e3 j x hx
theorem fQ.Md {w:World}{B:Nat}{v:Value}{xs:List Int}(h:fQ (aK .i64) w B v xs):ig w B v xs:=by
 obtain⟨A,cap,h1,h2,h3,h4⟩:=h;refine⟨A,cap,h1,h2,h3,h4.imp id ?_⟩;rintro⟨pb,po,e1,e2,e3⟩;exact⟨pb,po,e1,e2,fun j x hx=>e3 j _ (by rw[vE,iw,hx];rfl)⟩
theorem Own.siI{w:World}{lo:Nat}{v:Value}{xs:List Int}(h:Own (aK .i64) 3 w lo v xs):ig w w.heap.size v xs:=h.se.Md
theorem ady (w:World):Own (aK .i64) 3 (w.alloc (.cells #[] 3)) w.heap.size (.slice (some ⟨w.heap.size,0,none⟩) 0 0) ([]:List Int) :=
 Own.made (aK .i64) 3 _ _ _ 0 #[] rfl (ah _) (by unfold maxLen;omega) rfl
theorem TN(A:Option Addr)(n cap:Nat)(w:World):Sem.run Tryz.prog (binOp BinOp.eql 28 (.slice A n cap) (.slice none 0 0)) w = .ok (.bool A.isNone) w:=Lib.run_eql_slice_nil w 28 3 A n cap 0 0 Tryz.underlying28
theorem Xk {s:ByteArray}(h:s.size=0):s=⟨#[]⟩:=by
 obtain⟨d⟩:=s;rw[Array.eq_empty_of_size_eq_zero (xs:=d) h]
def Ve(w:World)(xs:List Int)(e:Ending)(w':World):Prop:=Below w.heap.size w w'∧∃A' c',e = .returned (.slice A' xs.length c')∧Own (aK .i64) 3 w' w.heap.size (.slice A' xs.length c') xs
theorem X9 (w:World)(A:Option Addr)(n cap:Nat)(xs:List Int)(h:ig w w.heap.size (.slice A n cap) xs)(hn:n≤1000000) :
 Calls Tryz.prog 70 #[.slice A n cap] w (Ve w xs):=by
 have h:=h.se;cases A with
 | none =>
   obtain rfl:xs=[]:=by
    cases xs with
    | nil=>rfl
    | cons x t=>obtain⟨pb,po,h1,_⟩:=fQ.at h (i:=0) rfl;cases h1
   obtain rfl:n=0:=h.len.1.symm;clear h;have aac:=fun w=>TN none 0 cap w
   go_enter Tryz.func70,Tryz.ntmps70;go_wp2_with fail
   go_ret;exact⟨ai _ _,none,0,rfl,Own.nil _ _ _ _⟩
 | some ad =>
   have HX:=ae h;have HL:=ae h.len.1;clear h;have HO:=ae (ady w);have xy:=ae ((ai w.heap.size w).alloc (ah _) (.cells #[] 3))
   have Vn:=ae (fun (j:Nat)(u:Value)(hj:((aK .i64).all xs)[j]? = some u)=>(show(w.alloc (.cells #[] 3)).cell? (ad.add j)=some u from by
    obtain⟨A',oZ,h1,_,_,h3⟩:=(HX.o.lift xy.o);injection h1 with h1 _ _;rcases h3 with rfl|⟨pb,po,h4,_,h5⟩
    · simp[Enc.all]at hj
    · rw[h4]at h1
      injection h1 with h1;subst h1;rw[Addr.add_mid];exact h5 j u hj))
   have aac:=fun w=>TN (some ad) n cap w
   go_enter Tryz.func70,Tryz.ntmps70;go_wp2_with (at_builtin;refine nC Elem.pl (aK .i64) rfl (.tmp 5) (.tmp 6) rfl w.heap.size _ [] rfl HO.o ad n cap xs rfl HL.o Vn.o ?_ ?_ ?_ ?_;(rw[dI];omega);(rw[dI];unfold maxLen;omega);exact xy.o.size;intro v3 w3 h1 h2;have H3:=ae h1;clear h1;have H4:=ae h2;clear h2)
   go_ret;have ho:Own (aK .i64) 3 w3 w.heap.size v3 xs:=by have:=H3.o;rwa[gL]at this
   have hb:Below w.heap.size w w3:=xy.o.trans H4.o;refine⟨hb, ?_⟩;obtain⟨A',c',rfl⟩:=Ac ho;exact⟨A',c',rfl,ho⟩
theorem acB (w:World)(own:ByteArray)(mb:Nat)(n:Nd) :
 Calls Tryz.prog 71 #[.agg #[.string own,.map (some mb)],.agg #[.string n.ref.sh,.int .i64 n.ref.c,.int .i64 n.ref.r,.bool n.ref.ac,.bool n.ref.ar]] w fun e w'=>e = .returned (.string (oH own n))∧Below w.heap.size w w':=by
 by_cases c:n.ref.sh=⟨#[]⟩
 · have e1:oH own n=own:=by unfold oH;rw[if_pos c]
   rw[e1];have e2:n.ref.sh.toList=[]:=by rw[c,qB]
   have e3:n.ref.sh.toList.isEmpty=true:=by rw[e2];rfl
   have HB:=ae (((ai w.heap.size w).alloc (ah _) (.cells #[.string own,.map (some mb)] 96)).alloc (by simp) (.cells #[.string n.ref.sh,.int .i64 n.ref.c,.int .i64 n.ref.r,.bool n.ref.ac,.bool n.ref.ar] 43));clear e1 c;go_enter Tryz.func71,Tryz.ntmps71;go_wp2_with fail
   go_ret;exact⟨rfl,HB.o⟩
 · have e1:oH own n=n.ref.sh:=by unfold oH;rw[if_neg c]
   rw[e1];have e2:¬ n.ref.sh.toList=[]:=rG _ fun e=>c (Xk e)
   have e3:n.ref.sh.toList.isEmpty=false:=by cases h:n.ref.sh.toList with|nil=>exact absurd h e2|cons a l=>rfl
   have HB:=ae (((ai w.heap.size w).alloc (ah _) (.cells #[.string own,.map (some mb)] 96)).alloc (by simp) (.cells #[.string n.ref.sh,.int .i64 n.ref.c,.int .i64 n.ref.r,.bool n.ref.ac,.bool n.ref.ar] 43));clear e1 c;go_enter Tryz.func71,Tryz.ntmps71;go_wp2_with fail
   go_ret;exact⟨rfl,HB.o⟩
theorem oN {ops:Array Oper}{rest:List Oper}{op:Oper}{a:Act}{w:World}{Q:Exit→Act→World→Prop}(hgd:op.guard=none)(x y:Operand)(ho:op.op = .store 45 x y)
 (g:Nat) (n0 n:Nd) (k0 k:Value) (hx:a.eval x = .pointer (some ⟨g,0,none⟩)) (hy:a.eval y = .agg (bJ n k)) (hr:ax w g n0 k0) (hk:k.oneCell'=true)
 (h:∀w',ax w' g n k→w.grownBy w' (some g)→wpList Tryz.prog ops Q rest (a.put op.dst undef) w'):wpList Tryz.prog ops Q (op :: rest) a w :=
 wpList_store_row hgd 45 x y ho g 45 _ _ hx hy hr rfl zX (Gh n k hk) (h _ (setRow_heap w g _ _ _ _ hr) (grownBy.GU (grownBy.fo w _) _))
theorem MS {o:Oper}{a:Act}{w:World}{K:Act→World→Prop}{Q:Exit→Act→World→Prop}(x y:Operand)(ho:o.op = .store 45 x y)
 (g:Nat) (n0 n:Nd) (k0 k:Value) (hx:a.eval x = .pointer (some ⟨g,0,none⟩)) (hy:a.eval y = .agg (bJ n k)) (hr:ax w g n0 k0) (hk:k.oneCell'=true)
 (h:∀w',ax w' g n k→w.grownBy w' (some g)→K (a.put o.dst undef) w'):Oper.wp Tryz.prog o a w K Q :=
 wp_store_row 45 x y ho g 45 _ _ hx hy hr rfl zX (Gh n k hk) (h _ (setRow_heap w g _ _ _ _ hr) (grownBy.GU (grownBy.fo w _) _))
theorem ax.Fe{w:World}{z:Nat}{n:Nd}{k:Value}(h:ax w z n k):ax w.drew z n k:=h
theorem QO (w:World)(A:Option Addr)(n cap:Nat)(xs:List Int)(nw:Int)(k:Nat)(h:IR w w.heap.size A n cap xs) :
 Calls Tryz.prog 166 #[.agg #[.slice A n cap,.int .i64 nw],.int .i64 (k:Int)] w fun e w'=>e = .returned (.bool (kD xs k))∧Below w.heap.size w w':=by
 have HB:=ae (rY 165 w (.slice A n cap) nw);have HP:=ae (dh.new 165 w (.slice A n cap) nw);have HX:=ae h;have HL:=ae h.len.1;clear h;by_cases hin:k<n
 · have hii:(k:Int)<(n:Int):=by omega
   have hi0:(0:Int)≤(k:Int):=by omega
   obtain⟨pb,po,rfl,hpb,e0⟩:=QL HX.o hin
   have hg:kD xs k=decide (xs.getD k 0 = -1):=by
    unfold kD;rw[getD_some xs k (by rw[HL.o];exact hin)];by_cases hx:xs.getD k 0 = -1
    · rw[hx];rfl
    · rw[decide_eq_false hx,decide_eq_false (fun e=>hx (dU e))]
   obtain⟨x,hx⟩:∃x,xs.getD k 0=x:=⟨_,rfl⟩;rw[hx]at e0 hg;have HE:=ae e0;have IG:=ae hpb;have HG:=ae hg;clear e0 hx hpb hg;go_enter Tryz.func166,Tryz.ntmps166;go_upto_region 1 with (fail)
   obtain⟨w1,hw1⟩:∃w1,w.alloc (.cells #[.slice (some ⟨pb,po,none⟩) n cap,.int .i64 nw] 165)=w1:=⟨_,rfl⟩;rw[hw1]at HB HP ⊢;clear hw1;obtain⟨x0,x1⟩:=HP.o.cells;have x2:w1.cell? ⟨pb,po+k,none⟩=some (.int .i64 x):=(HB.o.cell (p:=⟨pb,po+k,none⟩) IG.o).trans HE.o;by_cases hx:x = -1
   · have hxb:(x == -1)=true:=by rw[hx];rfl
     have zb:=ae hx;clear hx;go_wp2_with fail
     go_ret;exact⟨by rw[HG.o,decide_eq_true zb.o];rfl,HB.o⟩
   · have hxb:(x == -1)=false:=by rw[beq_eq_false_iff_ne];exact hx
     have zb:=ae hx;clear hx;go_wp2_with fail
     go_ret;exact⟨by rw[HG.o,decide_eq_false zb.o];rfl,HB.o⟩
 · have hii:¬ (k:Int)<(n:Int):=by omega
   have HG:=ae (show kD xs k=false from by
    unfold kD;rw[List.getElem?_eq_none (by rw[HL.o];omega)];rfl)
   go_enter Tryz.func166,Tryz.ntmps166;go_upto_region 1 with (fail)
   obtain⟨w1,hw1⟩:∃w1,w.alloc (.cells #[.slice A n cap,.int .i64 nw] 165)=w1:=⟨_,rfl⟩;rw[hw1]at HB HP ⊢;clear hw1;obtain⟨x0,x1⟩:=HP.o.cells;go_wp2_with fail
   go_ret;exact⟨by rw[HG.o];rfl,HB.o⟩
theorem Zd {xs:List Int}{k:Nat}(h:kD xs k=true):k<xs.length:=by
 unfold kD at h;rw[decide_eq_true_eq]at h;exact(dW.1 h).1
theorem YZ (w:World)(A:Option Addr)(n cap:Nat)(xs:List Int)(nw hi:Int)(lo:Nat)(h:IR w w.heap.size A n cap xs)(hh:hi≤4398046511104) :
 Calls Tryz.prog 151 #[.agg #[.slice A n cap,.int .i64 nw],.int .i64 (lo:Int),.int .i64 hi] w fun e w'=>e = .returned (.int .i64 (jJ xs (hi+1 - lo).toNat lo:Nat))∧Below w.heap.size w w':=by
 have HB:=ae (rY 165 w (.slice A n cap) nw);have HP:=ae (dh.new 165 w (.slice A n cap) nw);have HX:=ae h;have HL:=ae h.len.1;clear h;obtain⟨F,hF⟩:∃F,jJ xs (hi+1 - lo).toNat lo=F:=⟨_,rfl⟩;rw[hF];have HF:=ae hF;clear hF;go_enter Tryz.func151,Tryz.ntmps151;go_upto_region 1 with (fail)
 obtain⟨w1,hw1⟩:∃w1,w.alloc (.cells #[.slice A n cap,.int .i64 nw] 165)=w1:=⟨_,rfl⟩;rw[hw1]at HB HP ⊢;clear hw1;have zb:=ae (HX.o.lift HB.o)
 go_loopw [1] (fun iv wr=>∃k:Nat,iv = .int .i64 (k:Int)∧Hid (jJ xs (hi+1 - k).toNat k=F)∧Hid (Below w1.heap.size w1 wr))
  (fun iv _=>n - (intOf iv).toNat)
 case atStart=>exact⟨lo,rfl,HF,ae (ai _ _)⟩
 case round =>
  obtain⟨k,rfl,HK,HR⟩:=hrel;obtain⟨x0,x1⟩:=(HP.o.over HR.o).cells;by_cases hle:(k:Int)≤hi
  · have HM:=ae (show(hi+1 - (k:Int)).toNat=(hi+1 - ((k+1:Nat):Int)).toNat+1 by omega)
    have hc:=QO wr A n cap xs nw k (zb.o.lift HR.o);cases hg:kD xs k with
    | true =>
      have hkn:=Zd hg;rw[HL.o]at hkn;rw[hg]at hc;have HC:=ae hc
      have HN:=ae (show jJ xs (hi+1 - ((k+1:Nat):Int)).toNat (k+1)=F from by
       have h1:=HK.o;rw[HM.o]at h1;unfold jJ at h1;rwa[if_pos hg]at h1)
      clear hc hg;go_wp2_with (go_at_call 166;((with_reducible refine HC.o.mono ?_);rintro e w2 ⟨rfl,h1⟩;have H2:=ae (HR.o.trans (h1.mono HR.o.size));clear h1))
      go_roundw
      case rel=>exact⟨k+1,by go_num,HN,H2⟩
      case measure=>simp[intOf];omega
    | false =>
      rw[hg]at hc;have HC:=ae hc
      have HN:=ae (show k=F from by
       have h1:=HK.o;rw[HM.o]at h1;unfold jJ at h1;rwa[if_neg (by rw[hg];decide)]at h1)
      clear hc hg;go_wp2_with (go_at_call 166;((with_reducible refine HC.o.mono ?_);rintro e w2 ⟨rfl,h1⟩;have H2:=ae (HR.o.trans (h1.mono HR.o.size));clear h1))
      go_ret;exact⟨by rw[← HN.o];rfl,HB.o.trans (H2.o.mono HB.o.size)⟩
  · have HN:=ae (show k=F from by
     have h1:=HK.o;rw[show(hi+1 - (k:Int)).toNat=0 by omega]at h1;exact h1)
    go_wp2_with fail
    go_ret;exact⟨by rw[← HN.o];rfl,HB.o.trans (HR.o.mono HB.o.size)⟩
theorem abm (w:World)(A:Option Addr)(n cap:Nat)(xs:List Int)(nw:Int)(lo hi:Nat)(h:IR w w.heap.size A n cap xs)(hlh:lo≤hi)(hh:(hi:Int)≤4398046511104) :
 Calls Tryz.prog 152 #[.agg #[.slice A n cap,.int .i64 nw],.int .i64 (lo:Int),.int .i64 (hi:Int)] w fun e w'=>e = .returned (.int .i64 (nu xs (hi - lo) hi:Nat))∧Below w.heap.size w w':=by
 have HB:=ae (rY 165 w (.slice A n cap) nw);have HP:=ae (dh.new 165 w (.slice A n cap) nw);have HX:=ae h;have HL:=ae h.len.1;clear h;obtain⟨F,hF⟩:∃F,nu xs (hi - lo) hi=F:=⟨_,rfl⟩;rw[hF];have HF:=ae hF;clear hF;go_enter Tryz.func152,Tryz.ntmps152;go_upto_region 1 with (fail)
 obtain⟨w1,hw1⟩:∃w1,w.alloc (.cells #[.slice A n cap,.int .i64 nw] 165)=w1:=⟨_,rfl⟩;rw[hw1]at HB HP ⊢;clear hw1;have zb:=ae (HX.o.lift HB.o)
 go_loopw [2] (fun iv wr=>∃k:Nat,iv = .int .i64 (k:Int)∧lo≤k∧(k:Int)≤4398046511104∧Hid (nu xs (k - lo) k=F)∧Hid (Below w1.heap.size w1 wr))
  (fun iv _=>(intOf iv).toNat)
 case atStart=>exact⟨hi,rfl,hlh,hh,HF,ae (ai _ _)⟩
 case round =>
  obtain⟨k,rfl,hlk,hkb,HK,HR⟩:=hrel;obtain⟨x0,x1⟩:=(HP.o.over HR.o).cells;by_cases hle:(lo:Int)<(k:Int)
  · have HM:=ae (show k - lo=(k - 1 - lo)+1 by omega)
    have hc:=QO wr A n cap xs nw k (zb.o.lift HR.o);cases hg:kD xs k with
    | true =>
      rw[hg]at hc;have HC:=ae hc
      have HN:=ae (show nu xs (k - 1 - lo) (k - 1)=F from by
       have h1:=HK.o;rw[HM.o]at h1;unfold nu at h1;rwa[if_pos hg]at h1)
      clear hc hg;go_wp2_with (go_at_call 166;((with_reducible refine HC.o.mono ?_);rintro e w2 ⟨rfl,h1⟩;have H2:=ae (HR.o.trans (h1.mono HR.o.size));clear h1))
      go_roundw
      case rel=>exact⟨k - 1,by go_num,by omega,by omega,HN,H2⟩
      case measure=>simp[intOf];omega
    | false =>
      rw[hg]at hc;have HC:=ae hc
      have HN:=ae (show k=F from by
       have h1:=HK.o;rw[HM.o]at h1;unfold nu at h1;rwa[if_neg (by rw[hg];decide)]at h1)
      clear hc hg;go_wp2_with (go_at_call 166;((with_reducible refine HC.o.mono ?_);rintro e w2 ⟨rfl,h1⟩;have H2:=ae (HR.o.trans (h1.mono HR.o.size));clear h1))
      go_ret;exact⟨by rw[← HN.o];rfl,HB.o.trans (H2.o.mono HB.o.size)⟩
  · have HN:=ae (show k=F from by
     have h1:=HK.o;rw[show k - lo=0 by omega]at h1;exact h1)
    go_wp2_with fail
    go_ret;exact⟨by rw[← HN.o];rfl,HB.o.trans (HR.o.mono HB.o.size)⟩
def s3(p:Int × Int × Bool):Value := .tuple #[.int .i64 p.1,.int .i64 p.2.1,.bool p.2.2]
theorem agh(xs:List Int)(nw lo hi:Int)(h:lo<0):j5 xs nw lo hi=(0,0,false):=by unfold j5;rw[if_pos (.inl h)]
theorem agi (xs:List Int)(nw hi:Int)(k:Nat)(h:hi<(jJ xs (hi+1 - k).toNat k:Int)):j5 xs nw k hi=(0,0,false):=by
 unfold j5;split
 · rfl
 · rw[Int.toNat_natCast,if_pos h]
theorem agj (xs:List Int)(nw:Int)(k j:Nat)(h:¬ (j:Int)<(jJ xs ((j:Int)+1 - k).toNat k:Int)) :
 j5 xs nw k j=(lC xs nw (jJ xs ((j:Int)+1 - k).toNat k:Nat),lC xs nw (nu xs (j - jJ xs ((j:Int)+1 - k).toNat k) j:Nat),true):=by
 have hl:=(JM xs ((j:Int)+1 - k).toNat k).1;unfold j5;rw[Int.toNat_natCast,Int.toNat_natCast,if_neg (by omega),if_neg h]
theorem agk (w:World)(A:Option Addr)(n cap:Nat)(xs:List Int)(nw lo hi:Int)(h:IR w w.heap.size A n cap xs)(hn:n≤2000000)(h0:0≤nw)(h1:nw≤2000000)(hh:hi≤4398046511104) :
 Calls Tryz.prog 133 #[.agg #[.slice A n cap,.int .i64 nw],.int .i64 lo,.int .i64 hi] w fun e w'=>e = .returned (s3 (j5 xs nw lo hi))∧Below w.heap.size w w':=by
 have HB:=ae (rY 30 w (.slice A n cap) nw);have HP:=ae (dh.new 30 w (.slice A n cap) nw);have HX:=ae h;clear h;by_cases zG:lo<0
 · have dH:=ae (agh xs nw lo hi zG)
   go_enter Tryz.func133,Tryz.ntmps133;go_wp2_with fail
   go_ret3
   exact⟨by rw[dH.o];rfl,HB.o⟩
 · obtain ⟨k,rfl⟩:∃k:Nat,lo=(k:Int):=⟨lo.toNat,by omega⟩
   go_enter Tryz.func133,Tryz.ntmps133;go_upto_region 1 with (fail)
   obtain⟨w1,hw1⟩:∃w1,w.alloc (.cells #[.slice A n cap,.int .i64 nw] 30)=w1:=⟨_,rfl⟩;rw[hw1]at HB HP ⊢;clear hw1;obtain⟨x0,x1⟩:=HP.o.cells;go_upto_region 4 with (fail)
   clear x0 x1;have HB1:=ae (rY 165 w1 (.slice A n cap) nw);have HW:=ae (dh.new 165 w1 (.slice A n cap) nw);obtain⟨w2,hw2⟩:∃w2,w1.alloc (.cells #[.slice A n cap,.int .i64 nw] 165)=w2:=⟨_,rfl⟩;rw[hw2]at HB1 HW ⊢;clear hw2;have HB2:=ae (HB.o.trans (HB1.o.mono HB.o.size));have bT:=ae (HX.o.lift HB2.o);obtain⟨F,hF⟩:∃F,jJ xs (hi+1 - k).toNat k=F:=⟨_,rfl⟩;have hf:=YZ w2 A n cap xs nw hi k bT.o hh;rw[hF]at hf;have Vu:=ae hf;have Ie:=ae hF;clear hf hF;obtain⟨x0,x1⟩:=HW.o.cells;go_upto_region 5 with (go_at_call 151;((with_reducible refine Vu.o.mono ?_);rintro e w3 ⟨rfl,h3⟩;have H3:=ae h3;clear h3))
   clear x0 x1;have HB3:=ae (HB2.o.trans (H3.o.mono HB2.o.size));by_cases hlt:hi<(F:Int)
   · have dH:=ae (agi xs nw hi k (by rw[Ie.o];exact hlt))
     go_wp2_with fail
     go_ret3
     exact⟨by rw[dH.o];rfl,HB3.o⟩
   · obtain ⟨j,rfl⟩:∃j:Nat,hi=(j:Int):=⟨hi.toNat,by omega⟩
     have hv:=agj xs nw k j (by rw[Ie.o];exact hlt);rw[Ie.o]at hv;have hll:=Q5 xs (j - F) j;have dZ:=ae (bT.o.lift H3.o);have Nn:=ae (fun (wq:World)(hb:Below w3.heap.size w3 wq)=>abm wq A n cap xs nw F j (dZ.o.lift hb) (by omega) hh);obtain⟨L,hL⟩:∃L,nu xs (j - F) j=L:=⟨_,rfl⟩;rw[hL]at hv Nn hll;have dH:=ae hv;have HI1:=ae (fun (wq:World)(hb:Below w3.heap.size w3 wq)=>MP wq A n cap xs nw (F:Int) (dZ.o.lift hb) hn h0 h1 (by omega));have HI3:=ae (fun (wq:World)(hb:Below w3.heap.size w3 wq)=>MP wq A n cap xs nw (L:Int) (dZ.o.lift hb) hn h0 h1 (by omega));have HW3:=ae (HW.o.over H3.o);have Eo:=ae (fun (wq:World)(hb:Below w3.heap.size w3 wq)=>(HW3.o.over hb).cells);have l8:=ae (Below.drew (ai w3.heap.size w3));clear hL hv hll;obtain⟨x0,x1⟩:=HW3.o.cells;go_upto_region 7 with (fail)
     clear x0 x1;obtain⟨x0,x1⟩:=Eo.o _ l8.o
     go_region_held3 (fun w'=>w'.cell? ⟨w1.heap.size,0,none⟩=some (.slice A n cap)∧w'.cell? ⟨w1.heap.size,1,none⟩=some (.int .i64 nw)) (first|exact⟨x0,x1⟩|exact Eo.o _ jS.o|exact Eo.o _ fE.o|exact Eo.o _ H4.o) (first
      | (go_at_call 134;((with_reducible refine(HI1.o _ l8.o).mono ?_);rintro e w4 ⟨rfl,h1⟩;have H4:=ae (l8.o.trans (h1.mono l8.o.size));clear h1))
      | (go_at_call 152;((with_reducible refine(Nn.o _ H4.o).mono ?_);rintro e w5 ⟨rfl,h1⟩;have fE:=ae (H4.o.trans (h1.mono H4.o.size));clear h1))
      | (go_at_call 134;((with_reducible refine(HI3.o _ fE.o).mono ?_);rintro e w6 ⟨rfl,h1⟩;have jS:=ae (fE.o.trans (h1.mono fE.o.size));clear h1)))
     all_goals go_wp2_with fail
     all_goals go_ret3
     all_goals exact⟨by rw[dH.o];rfl,HB3.o.trans (jS.o.mono HB3.o.size)⟩
theorem ax.set {w:World}{b:Nat}{n n':Nd}{k k':Value}(h:ax w b n k)(o:Nat)(v:Value)(he:(bJ n k).setIfInBounds o v=bJ n' k'):ax (w.setCell ⟨b,o,none⟩ v) b n' k':=by
 unfold ax;rw[heap_setCell_same w b o _ _ v h,he]
theorem ax.Gj {w:World}{b:Nat}{n:Nd}{k:Value}(h:ax w b n k)(a:Addr)(v:Value)(hne:b≠a.block):ax (w.setCell a v) b n k:=by
 unfold ax;rw[fO _ _ _ _ hne];exact h
theorem jW.Gj{w:World}{b:Nat}{x:bu}(h:jW w b x)(a:Addr)(v:Value)(hne:b≠a.block):jW (w.setCell a v) b x:=h.keep (fO _ _ _ _ hne)
theorem jW.over{w w':World}{b:Nat}{x:bu}(h:jW w b x)(hb:Below w.heap.size w w'):jW w' b x:=h.keep (hb.block b h.lt)
theorem ax.yt{w w':World}{b:Nat}{n:Nd}{k:Value}(h:ax w b n k)(hb:Below w.heap.size w w'):ax w' b n k:=h.below hb h.lt
theorem ax.uN{w:World}{b:Nat}{n:Nd}{k:Value}(h:ax w b n k)(o:Nat):w.frozen? ⟨b,o,none⟩=false:=frozen_of_row w b o _ _ h
structure wI (w w1:World)(n:Nd)(k:Value)(x:bu)(z:Nat):Prop where
 below:Below w.heap.size w w1
 il:ax w1 z n k
 sh:jW w1 (z+1) x
 res:ax w1 (z+2) Nd.zero (.slice none 0 0)
 size:z+3≤w1.heap.size
 low:w.heap.size≤z
theorem SG (w:World)(n:Nd)(A:Option Addr)(m c:Nat)(x:bu):∃w1,((w.alloc (.cells #[.int .i64 n.kind,.int .i64 n.num,.string n.text,.string n.ref.sh,.int .i64 n.ref.c,.int .i64 n.ref.r,.bool n.ref.ac,.bool n.ref.ar,.string n.af.sh,.int .i64 n.af.c,.int .i64 n.af.r,.bool n.af.ac,.bool n.af.ar,.slice A m c] 45)).alloc (.cells #[.string x.s.sh,.slice x.ra x.s.rx.length x.rc,.int .i64 x.s.rn,.slice x.ca x.s.cx.length x.cc,.int .i64 x.s.cn,.bool x.s.gone] 33)).alloc (.cells oO 45)=w1∧wI w w1 n (.slice A m c) x w.heap.size:=by
 refine⟨_,rfl,(((ai _ w).alloc (ah _) _).alloc (by simp) _).alloc (by simp;omega) _, ?_, ?_, ?_,by simp,ah _⟩
 · exact(Below.heap_alloc _ _ _ (by simp;omega)).trans ((Below.heap_alloc _ _ _ (by simp)).trans (ax.new w n (.slice A m c)))
 · have h:=jW.new (w.alloc (.cells (bJ n (.slice A m c)) 45)) x
   rw[kK]at h;exact(Below.heap_alloc _ _ _ (by simp)).trans h
 · have h:=ax.new ((w.alloc (.cells (bJ n (.slice A m c)) 45)).alloc (.cells (gI x) 33)) Nd.zero (.slice none 0 0)
   rw[kK,kK]at h;exact h
theorem wI.call {w w1 w2:World}{n:Nd}{k:Value}{x:bu}{z:Nat}(h:wI w w1 n k x z)(hb:Below w1.heap.size w1 w2):wI w w2 n k x z :=
 ⟨h.below.trans (hb.mono h.below.size),h.il.yt hb,h.sh.over hb,h.res.yt hb,bF h.size hb.size,h.low⟩
theorem wI.put {w w1:World}{n n':Nd}{k k':Value}{x:bu}{z:Nat}(h:wI w w1 n k x z)(o:Nat)(v:Value)(he:(bJ n k).setIfInBounds o v=bJ n' k'):wI w (w1.setCell ⟨z,o,none⟩ v) n' k' x z :=
 ⟨h.below.setCell h.low _,h.il.set o v he,h.sh.Gj _ _ (by show z+1≠z;omega),h.res.Gj _ _ (by show z+2≠z;omega),by simpa using h.size,h.low⟩
theorem Us (w:World)(A:Option Addr)(n cap:Nat)(xs:List Int)(nw lo hi:Int)(h:IR w w.heap.size A n cap xs)(hn:n≤2000000)(h0:0≤nw)(h1:nw≤2000000)(hh:hi≤4398046511104){a b:Int}{o:Bool}(hp:j5 xs nw lo hi=(a,b,o)) :
 Calls Tryz.prog 133 #[.agg #[.slice A n cap,.int .i64 nw],.int .i64 lo,.int .i64 hi] w fun e w'=>e = .returned (.tuple #[.int .i64 a,.int .i64 b,.bool o])∧Below w.heap.size w w':=by
 have h:=agk w A n cap xs nw lo hi h hn h0 h1 hh;rw[hp]at h;exact h
theorem aeQ:Tryz.f106.results=#[.cell 4 45,.tmp 5]:=by kernel_rfl
structure CL (n:Nd):Prop where
 r:n.ref.r≤1000000
 c:n.ref.c≤1000000
 tr:n.af.r≤1000000
 tc:n.af.c≤1000000
 sh:n.ref.sh.size≤1000000
 tsh:n.af.sh.size≤1000000
theorem agf (w:World)(n:Nd)(A:Option Addr)(m c:Nat)(x:bu)(hx:mq w w.heap.size x)(ho:og x.s)(hn:CL n) :
 Calls Tryz.prog 106 #[.agg (bJ n (.slice A m c)),.agg (gI x)] w fun e w'=>e = .returned (.tuple #[.agg (bJ (jQ n x.s) (.slice A m c)),.bool (tu n x.s&&bO (jQ n x.s).af)])∧Below w.heap.size w w':=by
 obtain⟨w1,hw1,hp⟩:=SG w n A m c x;have HP:=ae hp;have HX:=ae hx;have h1:=ho.rows.len;have h2:=ho.rows.low;have h3:=ho.rows.top;have h4:=ho.su.len;have h5:=ho.su.low;have h6:=ho.su.top;have g1:=hn.r;have g2:=hn.c;have g3:=hn.tr;have g4:=hn.tc;have Wy:=ae hn.tsh;obtain⟨⟨a1,a2,ao⟩,ha⟩:∃p,j5 x.s.rx x.s.rn n.ref.r n.af.r=p:=⟨_,rfl⟩;obtain⟨⟨b1,b2,bo⟩,hb⟩:∃p,j5 x.s.cx x.s.cn n.ref.c n.af.c=p:=⟨_,rfl⟩;have yh:jQ n x.s=n.qh a1 b1 a2 b2:=by unfold jQ;rw[ha,hb]
 have hok:tu n x.s=(ao&&bo):=by unfold tu;rw[ha,hb]
 have gu:=ae (fun (wq:World)(hq:Below w1.heap.size w1 wq)=>Us wq x.ra x.s.rx.length x.rc x.s.rx x.s.rn n.ref.r n.af.r ((hx.lift HP.o.below).lift hq).rows (by omega) h2 (by omega) (by omega) ha);have HS2:=ae (fun (wa:World)(ha:Below w.heap.size w wa){wq:World}(hq:Below wa.heap.size wa wq)=>Us wq x.ca x.s.cx.length x.cc x.s.cx x.s.cn n.ref.c n.af.c ((hx.lift ha).lift hq).su (by omega) h5 (by omega) (by omega) hb);rw[yh,hok];obtain⟨z,hz⟩:∃z,w.heap.size=z:=⟨_,rfl⟩;have gN:=ae hz;rw[hz]at HP;clear hx ho hn ha hb yh hok hp hz;have x0:=HP.o.il.cells;have y0:=HP.o.sh.cells;dsimp only[bu.rv,bu.cv]at y0;show Calls Tryz.prog 106 #[.agg #[.int .i64 n.kind,.int .i64 n.num,.string n.text,.string n.ref.sh,.int .i64 n.ref.c,.int .i64 n.ref.r,.bool n.ref.ac,.bool n.ref.ar,.string n.af.sh,.int .i64 n.af.c,.int .i64 n.af.r,.bool n.af.ac,.bool n.af.ar,.slice A m c],.agg #[.string x.s.sh,.slice x.ra x.s.rx.length x.rc,.int .i64 x.s.rn,.slice x.ca x.s.cx.length x.cc,.int .i64 x.s.cn,.bool x.s.gone]] w _;go_enter Tryz.func106,Tryz.ntmps106;go_upto_region 2 with (fail)
 rw[gN.o];obtain⟨x0,x1,x2,x3,x4,x5,x6,x7,av,aJ,aG,aH,aI,aF⟩:=x0;obtain⟨y0,y1,y2,y3,y4,fq⟩:=y0;rw[show z+1+1=z+2 from rfl];go_upto_region 3 with (go_at_call 133;((with_reducible refine(gu.o _ (ai _ _)).mono ?_);rintro e w2 ⟨rfl,hq⟩;have dB:=ae (HP.o.call hq);have f5:=dB.o.il.uN 5;have f10:=dB.o.il.uN 10;clear x0 x1 x2 x3 x4 x5 x6 x7 av aJ aG aH aI aF y0 y1 y2 y3 y4 fq hq;obtain⟨x0,x1,x2,x3,x4,x5,x6,x7,av,aJ,aG,aH,aI,aF⟩:=dB.o.il.cells;obtain⟨y0,y1,y2,y3,y4,fq⟩:=dB.o.sh.cells))
 have aW:=ae ((dB.o.put 5 (.int .i64 a1) (n':=n.qh a1 n.ref.c n.af.r n.af.c) rfl).put 10 (.int .i64 a2) (n':=n.qh a1 n.ref.c a2 n.af.c) rfl);clear x0 x1 x2 x3 x4 x5 x6 x7 av aJ aG aH aI aF y0 y1 y2 y3 y4 fq f5 f10;obtain⟨w3,hw3⟩:∃w3,(w2.setCell ⟨z,5,none⟩ (.int .i64 a1)).setCell ⟨z,10,none⟩ (.int .i64 a2)=w3:=⟨_,rfl⟩;rw[hw3]at aW ⊢;clear hw3;have Cg:=ae (HS2.o _ aW.o.below (ai _ w3));obtain⟨x0,x1,x2,x3,x4,x5,x6,x7,av,aJ,aG,aH,aI,aF⟩:=aW.o.il.cells;obtain⟨y0,y1,y2,y3,y4,fq⟩:=aW.o.sh.cells;dsimp only[bu.rv,bu.cv]at y1 y3;dsimp only[Nd.qh,bC.goto]at x0 x1 x2 x3 x4 x5 x6 x7 av aJ aG aH aI aF;go_upto_region 4 with (go_at_call 133;((with_reducible refine Cg.o.mono ?_);rintro e w4 ⟨rfl,hq⟩;have cO:=ae (aW.o.call hq);have f4:=cO.o.il.uN 4;have f9:=cO.o.il.uN 9;clear x0 x1 x2 x3 x4 x5 x6 x7 av aJ aG aH aI aF y0 y1 y2 y3 y4 fq hq;obtain⟨x0,x1,x2,x3,x4,x5,x6,x7,av,aJ,aG,aH,aI,aF⟩:=cO.o.il.cells;obtain⟨y0,y1,y2,y3,y4,fq⟩:=cO.o.sh.cells;dsimp only[Nd.qh,bC.goto]at x0 x1 x2 x3 x4 x5 x6 x7 av aJ aG aH aI aF))
 have aP:=ae ((cO.o.put 4 (.int .i64 b1) (n':=n.qh a1 b1 a2 n.af.c) rfl).put 9 (.int .i64 b2) (n':=n.qh a1 b1 a2 b2) rfl);clear x0 x1 x2 x3 x4 x5 x6 x7 av aJ aG aH aI aF y0 y1 y2 y3 y4 fq f4 f9;obtain⟨w5,Dn⟩:∃w5,(w4.setCell ⟨z,4,none⟩ (.int .i64 b1)).setCell ⟨z,9,none⟩ (.int .i64 b2)=w5:=⟨_,rfl⟩;rw[Dn]at aP ⊢;clear Dn;obtain⟨N,hN⟩:∃N,n.qh a1 b1 a2 b2=N:=⟨_,rfl⟩;have hNs:N.af.sh=n.af.sh:=by rw[← hN];rfl
 rw[hN]at aP;have Et:=ae hN;have yX:=ae (fun wq=>zV N.af.sh N.af.c N.af.r N.af.ac N.af.ar wq (by rw[hNs];exact Wy.o));have l8:=ae (Below.drew (ai w5.heap.size w5));have kN:=ae (fun (wq:World)(hq:Below w5.heap.size w5 wq)=>aP.o.il.yt hq);have iX:(fun wq=>ax wq z N (.slice A m c)) w5.drew:=kN.o _ l8.o;clear hN hNs;refine wp_region_held_drew (S:=(fun wq=>ax wq z N (.slice A m c))) (by kernel_rfl) iX (fun _ => ?_);show wpAnyH _ _ _ _ _ 12 #[false,false,false,false,false,false,false,false,false,false,false,false] _ _;refine hT 0 iX ?_ (hy:=by(intro gJ hSw;have hz:=ax.cells hSw;go_simp;try(with_reducible rfl)));refine hT 1 iX ?_;refine hT 2 iX ?_;by_cases hab:(ao&&bo)=true
 case' pos =>
  obtain⟨rfl,rfl⟩:=Bool.and_eq_true_iff.1 hab;refine hT 3 iX ?_;refine hT 4 iX ?_;refine hT 5 iX ?_;refine hT 6 iX ?_;refine hT 7 iX ?_ (hy:=by(intro gJ hSw;have hz:=ax.cells hSw;go_simp;try(with_reducible rfl)));refine hO 8 (fun K hK => ?_);go_simp;go_at_call 108;(with_reducible refine(yX.o _).mono ?_);rintro e w6 ⟨rfl,h1⟩;have jS:=ae (l8.o.trans (h1.mono l8.o.size));clear h1;dsimp only;refine hK.o _ _ (kN.o _ jS.o) ?_;clear hK K;simp only[Act.put,sT,fG,fF]
 case' neg =>
  obtain⟨w6,oF⟩:∃w6,w5.drew=w6:=⟨_,rfl⟩;rw[oF]at l8 iX ⊢;have jS:=ae l8.o;have h45:(ao=false)∨(ao=true∧bo=false):=by cases ao <;> cases bo <;> simp at hab ⊢
  rcases h45 with rfl|⟨rfl,rfl⟩
  all_goals first|refine hN 3 iX ?_|refine hT 3 iX ?_
  all_goals refine hT 4 iX ?_
  all_goals refine hT 5 iX ?_
  all_goals refine hN 6 iX ?_
  all_goals refine hN 7 iX ?_
  all_goals refine hN 8 iX ?_
 all_goals
  have Ex:=kN.o _ jS.o;refine hT 9 Ex ?_;refine hO 10 (fun K hK => ?_);refine MS (.tmp 4) (.tmp 42) rfl (z+2) Nd.zero N (.slice none 0 0) (.slice A m c) rfl rfl (aP.o.res.yt jS.o) rfl ?_;intro w7 h1 h2;have hlt:=aP.o.size;have hs6:=jS.o.size;have tV:(fun wq=>ax wq z N (.slice A m c)) w7:=(show ax w7 z N (.slice A m c)from by unfold ax;rw[h2.block z (by omega) (by intro e;injection e with e;omega)];exact Ex);refine hK.o _ _ tV ?_;clear hK K;simp only[Act.put];refine hT 11 tV ?_;refine wpAnyH_done (by kernel_rfl) ?_ _;go_wp2_with fail
  refine bodyPost_ret (qF h1 _ _ _ 4 5 aeQ rfl rfl) rfl ⟨?_, ?_⟩
  · first|(rw[Et.o];done)|(rw[Et.o];rfl)
  · have hb5:=aP.o.below
    have wU:=aP.o.low;have hb6:=hb5.trans (jS.o.mono hb5.size);exact⟨h2.os.trans hb6.os,h2.tape.trans hb6.tape,h2.output.trans hb6.output,bF hb6.size h2.size,fun k hk=>(h2.block k (dY hk hb6.size) (by intro e;injection e with e;omega)).trans (hb6.block k hk)⟩
theorem LA:Tryz.f72.results=#[.cell 4 45,.tmp 5]:=by kernel_rfl
theorem wI.yB {w w1 w2:World}{n:Nd}{k:Value}{x:bu}{z:Nat}(h:wI w w1 n k x z)(hg:w1.grownBy w2 (some (z+2))):Below w.heap.size w w2:=by
 have hb:=h.below;have hl:=h.low;exact⟨hg.os.trans hb.os,hg.tape.trans hb.tape,hg.output.trans hb.output,bF hb.size hg.size,fun k hk=>(hg.block k (dY hk hb.size) (by intro e;injection e with e;omega)).trans (hb.block k hk)⟩
def Aw (w:World)(n:Nd)(s:Sf)(aS:Value)(e:Ending)(w':World):Prop :=
 ∃M K,e = .returned (.tuple #[.agg (bJ M K),.bool (ja n s).2])∧((ja n s).2=true→M=(ja n s).1∧K=aS)∧K.oneCell'=true∧Below w.heap.size w w'
theorem Xd (w:World)(n:Nd)(A:Option Addr)(m c:Nat)(x:bu)(hx:mq w w.heap.size x)(ho:og x.s)(hn:CL n) :
 Calls Tryz.prog 72 #[.agg (bJ n (.slice A m c)),.agg (gI x)] w (Aw w n x.s (.slice A m c)):=by
 obtain⟨w1,hw1,hp⟩:=SG w n A m c x;have HP:=ae hp;have HX:=ae hx;have HO:=ae ho;have HN:=ae hn;have h1:=ho.rows.len;have h2:=ho.rows.low;have h3:=ho.rows.top;have h4:=ho.su.len;have h5:=ho.su.low;have h6:=ho.su.top;have g1:=hn.r;have g2:=hn.c;obtain⟨z,hz⟩:∃z,w.heap.size=z:=⟨_,rfl⟩;have gN:=ae hz;rw[hz]at HP;clear hx ho hn hp hz;have x0:=HP.o.il.cells;have y0:=HP.o.sh.cells;dsimp only[bu.rv,bu.cv]at y0;show Calls Tryz.prog 72 #[.agg #[.int .i64 n.kind,.int .i64 n.num,.string n.text,.string n.ref.sh,.int .i64 n.ref.c,.int .i64 n.ref.r,.bool n.ref.ac,.bool n.ref.ar,.string n.af.sh,.int .i64 n.af.c,.int .i64 n.af.r,.bool n.af.ac,.bool n.af.ar,.slice A m c],.agg #[.string x.s.sh,.slice x.ra x.s.rx.length x.rc,.int .i64 x.s.rn,.slice x.ca x.s.cx.length x.cc,.int .i64 x.s.cn,.bool x.s.gone]] w _;by_cases hg:x.s.gone=true
 · have hv:(ja n x.s).2=false:=by unfold ja;rw[if_pos hg]
   unfold Aw;rw[hv];have HG:=ae hg;clear hg hv;go_enter Tryz.func72,Tryz.ntmps72;go_upto_region 1 with (fail)
   rw[gN.o,show z+1+1=z+2 from rfl];obtain⟨y0,y1,y2,y3,y4,fq⟩:=y0;have hg:=HG.o;go_wp2_with (refine oN rfl (.tmp 4) (.tmp 9) rfl (z+2) Nd.zero Nd.zero (.slice none 0 0) (.slice none 0 0) rfl rfl HP.o.res rfl ?_;intro w7 k1 k2)
   exact bodyPost_ret (qF k1 _ _ false 4 5 LA rfl rfl) rfl ⟨Nd.zero,_,rfl,fun e=>(by cases e),rfl,HP.o.yB k2⟩
 have hgf:x.s.gone=false:=by cases h:x.s.gone with|true=>exact absurd h hg|false=>rfl
 by_cases hk:n.kind=6
 · have hv:ja n x.s=(jQ n x.s,tu n x.s&&bO (jQ n x.s).af):=by unfold ja;rw[if_neg hg,if_pos hk]
   unfold Aw;rw[hv]
   have NP:=ae (show Calls Tryz.prog 106 #[.agg #[.int .i64 n.kind,.int .i64 n.num,.string n.text,.string n.ref.sh,.int .i64 n.ref.c,.int .i64 n.ref.r,.bool n.ref.ac,.bool n.ref.ar,.string n.af.sh,.int .i64 n.af.c,.int .i64 n.af.r,.bool n.af.ac,.bool n.af.ar,.slice A m c],.agg #[.string x.s.sh,.slice x.ra x.s.rx.length x.rc,.int .i64 x.s.rn,.slice x.ca x.s.cx.length x.cc,.int .i64 x.s.cn,.bool false]] w1 (fun e w'=>e = .returned (.tuple #[.agg (bJ (jQ n x.s) (.slice A m c)),.bool (tu n x.s&&bO (jQ n x.s).af)])∧Below w1.heap.size w1 w')from by
    have h:=agf w1 n A m c x (HX.o.lift HP.o.below) HO.o HN.o;unfold gI at h;rw[hgf]at h;exact h)
   obtain⟨N,hN⟩:∃N,jQ n x.s=N:=⟨_,rfl⟩;obtain⟨b,hb⟩:∃b,(tu n x.s&&bO (jQ n x.s).af)=b:=⟨_,rfl⟩;rw[hb,hN]at NP;have dH:=ae (show(jQ n x.s,tu n x.s&&bO (jQ n x.s).af)=(N,b)from by rw[hb,hN]);rw[dH.o];clear hv hN hb;have rP:=ae (show(n.kind == (6:Int))=true from beq_iff_eq.2 hk);have Ij:=ae hgf;clear hk hg hgf;go_enter Tryz.func72,Tryz.ntmps72;go_upto_region 1 with (fail)
   rw[gN.o,show z+1+1=z+2 from rfl];obtain⟨x0,x1,x2,x3,x4,x5,x6,x7,av,aJ,aG,aH,aI,aF⟩:=x0;obtain⟨y0,y1,y2,y3,y4,fq⟩:=y0;have hgf:=Ij.o;have oD:=rP.o
   go_wp2_with (first
    | (go_at_call 106;((with_reducible refine NP.o.mono ?_);rintro e w2 ⟨rfl,hq⟩;have dB:=ae (HP.o.call hq);clear hq))
    | (refine oN rfl (.tmp 4) (.tmp 17) rfl (z+2) Nd.zero N (.slice none 0 0) (.slice A m c) rfl rfl dB.o.res rfl ?_;intro w7 k1 k2))
   exact bodyPost_ret (qF k1 _ _ b 4 5 LA rfl rfl) rfl ⟨N,_,rfl,fun _=>⟨rfl,rfl⟩,rfl,dB.o.yB k2⟩
 · have hv:ja n x.s=(pF n x.s,bO (pF n x.s).ref):=by unfold ja;rw[if_neg hg,if_neg hk]
   unfold Aw;rw[hv];have HI1:=ae (fun (wa:World)(ha:Below w.heap.size w wa)=>QK wa x.ra x.s.rx.length x.rc x.s.rx x.s.rn n.ref.r (HX.o.lift ha).rows (by omega) h2 (by omega) (by omega));have HI2:=ae (fun (wa:World)(ha:Below w.heap.size w wa)=>QK wa x.ca x.s.cx.length x.cc x.s.cx x.s.cn n.ref.c (HX.o.lift ha).su (by omega) h5 (by omega) (by omega));obtain⟨a1,ha1⟩:∃a,lC x.s.rx x.s.rn n.ref.r=a:=⟨_,rfl⟩;obtain⟨b1,hb1⟩:∃a,lC x.s.cx x.s.cn n.ref.c=a:=⟨_,rfl⟩;rw[ha1]at HI1;rw[hb1]at HI2;obtain⟨N,hN⟩:∃N,n.qh a1 b1 n.af.r n.af.c=N:=⟨_,rfl⟩;have hNs:N.ref.sh=n.ref.sh:=by rw[← hN];rfl
   have Et:=ae hN
   have dH:=ae (show(pF n x.s,bO (pF n x.s).ref)=(N,bO N.ref)from by
    have:pF n x.s=N:=by rw[← hN];unfold pF;rw[ha1,hb1];rfl
    rw[this])
   rw[dH.o];have yX:=ae (fun wq=>zV N.ref.sh N.ref.c N.ref.r N.ref.ac N.ref.ar wq (by rw[hNs];exact HN.o.sh));clear hv hN ha1 hb1 hNs;have rP:=ae (show(n.kind == (6:Int))=false from beq_eq_false_iff_ne.2 hk);have Ij:=ae hgf;clear hk hg hgf;go_enter Tryz.func72,Tryz.ntmps72;go_upto_region 1 with (fail)
   rw[gN.o,show z+1+1=z+2 from rfl];obtain⟨x0,x1,x2,x3,x4,x5,x6,x7,av,aJ,aG,aH,aI,aF⟩:=x0;obtain⟨y0,y1,y2,y3,y4,fq⟩:=y0;have hgf:=Ij.o;have oD:=rP.o;go_upto_region 6 with (go_at_call 107;((with_reducible refine(HI1.o _ HP.o.below).mono ?_);rintro e w2 ⟨rfl,hq⟩;have dB:=ae (HP.o.call hq);have f5:=dB.o.il.uN 5;clear x0 x1 x2 x3 x4 x5 x6 x7 av aJ aG aH aI aF y0 y1 y2 y3 y4 fq hq;obtain⟨x0,x1,x2,x3,x4,x5,x6,x7,av,aJ,aG,aH,aI,aF⟩:=dB.o.il.cells;obtain⟨y0,y1,y2,y3,y4,fq⟩:=dB.o.sh.cells))
   have aW:=ae (dB.o.put 5 (.int .i64 a1) (n':=n.qh a1 n.ref.c n.af.r n.af.c) rfl);clear x0 x1 x2 x3 x4 x5 x6 x7 av aJ aG aH aI aF y0 y1 y2 y3 y4 fq f5;obtain⟨w3,hw3⟩:∃w3,w2.setCell ⟨z,5,none⟩ (.int .i64 a1)=w3:=⟨_,rfl⟩;rw[hw3]at aW ⊢;clear hw3;obtain⟨x0,x1,x2,x3,x4,x5,x6,x7,av,aJ,aG,aH,aI,aF⟩:=aW.o.il.cells;obtain⟨y0,y1,y2,y3,y4,fq⟩:=aW.o.sh.cells;dsimp only[bu.rv,bu.cv]at y1 y3;dsimp only[Nd.qh,bC.goto]at x0 x1 x2 x3 x4 x5 x6 x7 av aJ aG aH aI aF;go_upto_region 7 with (go_at_call 107;((with_reducible refine(HI2.o _ aW.o.below).mono ?_);rintro e w4 ⟨rfl,hq⟩;have cO:=ae (aW.o.call hq);have f4:=cO.o.il.uN 4;clear x0 x1 x2 x3 x4 x5 x6 x7 av aJ aG aH aI aF y0 y1 y2 y3 y4 fq hq;obtain⟨x0,x1,x2,x3,x4,x5,x6,x7,av,aJ,aG,aH,aI,aF⟩:=cO.o.il.cells;obtain⟨y0,y1,y2,y3,y4,fq⟩:=cO.o.sh.cells;dsimp only[Nd.qh,bC.goto]at x0 x1 x2 x3 x4 x5 x6 x7 av aJ aG aH aI aF))
   have aP:=ae (cO.o.put 4 (.int .i64 b1) (n':=n.qh a1 b1 n.af.r n.af.c) rfl);clear x0 x1 x2 x3 x4 x5 x6 x7 av aJ aG aH aI aF y0 y1 y2 y3 y4 fq f4;obtain⟨w5,Dn⟩:∃w5,w4.setCell ⟨z,4,none⟩ (.int .i64 b1)=w5:=⟨_,rfl⟩;rw[Dn]at aP ⊢;clear Dn;rw[Et.o]at aP;have l8:=ae (Below.drew (ai w5.heap.size w5));have kN:=ae (fun (wq:World)(hq:Below w5.heap.size w5 wq)=>aP.o.il.yt hq);have iX:(fun wq=>ax wq z N (.slice A m c)) w5.drew:=kN.o _ l8.o;refine wp_region_held_drew (S:=(fun wq=>ax wq z N (.slice A m c))) (by kernel_rfl) iX (fun _ => ?_);show wpAnyH _ _ _ _ _ 6 #[false,false,false,false,false,false] _ _;refine hT 0 iX ?_ (hy:=by(intro gJ hSw;have hz:=ax.cells hSw;go_simp;try(with_reducible rfl)));refine hT 1 iX ?_;refine hT 2 iX ?_ (hy:=by(intro gJ hSw;have hz:=ax.cells hSw;go_simp;try(with_reducible rfl)));refine hO 3 (fun K hK => ?_);go_simp;go_at_call 108;(with_reducible refine(yX.o _).mono ?_);rintro e w6 ⟨rfl,h1⟩;have jS:=ae (l8.o.trans (h1.mono l8.o.size));clear h1;dsimp only;refine hK.o _ _ (kN.o _ jS.o) ?_;clear hK K;simp only[Act.put,sT,fG,fF];have Ex:=kN.o _ jS.o;refine hO 4 (fun K hK => ?_);refine MS (.tmp 4) (.tmp 35) rfl (z+2) Nd.zero N (.slice none 0 0) (.slice A m c) rfl rfl (aP.o.res.yt jS.o) rfl ?_;intro w7 k1 k2;have hlt:=aP.o.size;have hs6:=jS.o.size;have tV:(fun wq=>ax wq z N (.slice A m c)) w7:=(show ax w7 z N (.slice A m c)from by unfold ax;rw[k2.block z (by omega) (by intro e;injection e with e;omega)];exact Ex);refine hK.o _ _ tV ?_;clear hK K;simp only[Act.put];refine hT 5 tV ?_;refine wpAnyH_done (by kernel_rfl) ?_ _;go_wp2_with fail
   exact bodyPost_ret (qF k1 _ _ (bO N.ref) 4 5 LA rfl rfl) rfl ⟨N,_,rfl,fun _=>⟨rfl,rfl⟩,rfl,(aP.o.call jS.o).yB k2⟩
theorem hP {P:Program}{md:Region.Mode}{ops:Array Oper}{Q:Exit→Act→World→Prop}{S:World→Prop}(i j:Nat){oi oj:Oper}{d e:Option Tmp}{fuel:Nat}{listed l1 l2:Array Bool}{a:Act}{w:World}
 (h:∀K:Act→World→Prop,Shut (∀v w,S w→wpAnyH P md ops Q S fuel l1 (a.put d v) w→K (a.put d v) w)→Oper.wp P oi a w K Q) (h':∀K:Act→World→Prop,Shut (∀v w,S w→wpAnyH P md ops Q S fuel l2 (a.put e v) w→K (a.put e v) w)→Oper.wp P oj a w K Q)
 (hi:ops[i]? = some oi:=by(first|(simp only[gA,gS,mY];done)|(simp only[gA,gS,mY];rfl))) (hj:ops[j]? = some oj:=by(first|(simp only[gA,gS,mY];done)|(simp only[gA,gS,mY];rfl)))
 (hd:oi.dst=d:=by(first|(dsimp only;done)|(dsimp only;rfl)|rfl)) (he:oj.dst=e:=by(first|(dsimp only;done)|(dsimp only;rfl)|rfl)) (hr:Region.ready md ops listed=[i,j]:=by kernel_rfl)
 (hl:listed.setIfInBounds i true=l1:=by(simp only[sT,fG,fF];rfl)) (hl':listed.setIfInBounds j true=l2:=by(simp only[sT,fG,fF];rfl)) (hw:Region.wanted oi (yielded ops a.tmps)=true:=by rfl) (hw':Region.wanted oj (yielded ops a.tmps)=true:=by rfl):wpAnyH P md ops Q S (fuel+1) listed a w:=by
 subst hd;subst he;subst hl;subst hl';refine wpAnyH_ready hr (by simp) (AllReadyH.cons hi (fun K hK => ?_) (AllReadyH.cons hj (fun K hK => ?_) AllReadyH.nil))
 · rw[if_pos hw]
   exact h K (fun v w hS hW=>hK _ _ hS (fun _=>hW))
 · rw[if_pos hw']
   exact h' K (fun v w hS hW=>hK _ _ hS (fun _=>hW))
end Go.Proofs.YtaobhjliflomaaaGreatDoor
