import Derived.Test.YtaobhjliflomaaaGreatDoorMW3
import Derived.Deep.RegionWith
import Derived.Deep.CutBlock
set_option maxRecDepth 100000
set_option maxHeartbeats 64000000
namespace Go.Proofs.YtaobhjliflomaaaGreatDoor
open Go.RowKit
variable {a:Act}{Q:Exit→Act→World→Prop}{st xs:List Int}{B b base cap g z:Nat}{n:Nd}{k v:Value}{w w' w1:World}{x:bK}
def Ca:Nat→Nat→List ai→Prop
 | p,q,[]=>p≤q
 | p,q,t :: ts=>∃m:Nat,t.pos=(m:Int)∧p≤m∧m≤q∧Ca m q ts
theorem Ca.less {p p' q:Nat}(h:p'≤p):∀ {ts:List ai},Ca p q ts→Ca p' q ts
 | [],k=>bO h k
 | _ :: _,⟨m,h1,h2,h3,h4⟩=>⟨m,h1,bO h h2,h3,h4⟩
theorem SF:∀(f p:Nat)(l:List Int)(ts:List ai),fq f p l=some ts→Ca p (p+l.length) ts
 | f,p,[],ts,h=>by
   have h0:fq f p []=some [ai.zero.goto p]:=by unfold fq;rfl
   rw[h0]at h;injection h with h;subst h;exact⟨p,rfl,aj _,by simp,by simp[Ca]⟩
 | 0,_,_ :: _,_,h=>by unfold fq at h;cases h
 | f + 1,p,x :: l,ts,h=>by
   rw[sK]at h;by_cases hx:x=32
   · rw[ah hx]at h
     have:=SF f (p+1) l ts h;rw[show p+1+l.length=p+(x :: l).length by simp only[aX];omega]at this;exact this.less (Nat.le_succ _)
   · rw [ag hx]at h
     cases hq:fD (x :: l)with
     | none=>rw[hq]at h;cases h
     | some q =>
       obtain⟨t0,n⟩:=q;have hn:=rP _ _ _ hq;rw[hq]at h;simp only[Option.map_eq_some_iff]at h;obtain⟨us,h1,rfl⟩:=h;have:=SF f (p+n) ((x :: l).drop n) us h1;rw[show p+n+((x :: l).drop n).length=p+(x :: l).length by rw[lG];omega]at this;exact⟨p,rfl,aj _,by omega,this.less (by omega)⟩
theorem LV (s:ByteArray)(ts:List ai)(h:gJ (sb s)=some ts):ts≠[]:=by
 have key : ∀ (f p:Nat)(l:List Int)(ts:List ai),fq f p l=some ts→ts≠[]:=by
  intro f
  induction f with
  | zero =>
    intro p l ts h;cases l with
    | nil => have h0:fq 0 p []=some [ai.zero.goto p]:=by unfold fq;rfl
             rw[h0]at h;injection h with h;subst h;simp
    | cons x l=>unfold fq at h;cases h
  | succ f ih =>
    intro p l ts h;cases l with
    | nil => have h0:fq (f+1) p []=some [ai.zero.goto p]:=by unfold fq;rfl
             rw[h0]at h;injection h with h;subst h;simp
    | cons x l =>
      rw[sK]at h;by_cases hx:x=32
      · rw[ah hx]at h;exact ih _ _ _ h
      · rw [ag hx]at h
        split at h
        · cases h
        · simp only[Option.map_eq_some_iff]at h
          obtain⟨us,_,rfl⟩:=h;simp
 exact key _ _ _ _ h
theorem SH (s:ByteArray)(ts:List ai)(h:gJ (sb s)=some ts):ts.length≤s.size+1:=by
 have key : ∀ (f p:Nat)(l:List Int)(ts:List ai),fq f p l=some ts→ts.length≤l.length+1:=by
  intro f
  induction f with
  | zero =>
    intro p l ts h;cases l with
    | nil => have h0:fq 0 p []=some [ai.zero.goto p]:=by unfold fq;rfl
             rw[h0]at h;injection h with h;subst h;simp
    | cons x l=>unfold fq at h;cases h
  | succ f ih =>
    intro p l ts h;cases l with
    | nil => have h0:fq (f+1) p []=some [ai.zero.goto p]:=by unfold fq;rfl
             rw[h0]at h;injection h with h;subst h;simp
    | cons x l =>
      rw[sK]at h;by_cases hx:x=32
      · rw[ah hx]at h;have:=ih _ _ _ h;simp only[aX];omega
      · rw [ag hx]at h
        cases hq:fD (x :: l)with
        | none=>rw[hq]at h;cases h
        | some q =>
          obtain⟨t0,n⟩:=q;have hn:=rP _ _ _ hq;rw[hq]at h;simp only[Option.map_eq_some_iff]at h;obtain⟨us,h1,rfl⟩:=h;have:=ih _ _ _ h1;rw[lG]at this;simp only[aX]at this hn ⊢;omega
 have:=key _ _ _ _ h;rw[bz]at this;exact this
theorem qj(h:Below w.heap.size w w')(n:Nat):Below w.heap.size w (w'.drewN n):=⟨h.os,h.tape,h.output,h.size,h.block⟩
theorem SV (s:ByteArray)(w:World)(hv:Vars w)(hs:300<s.size) :
 Calls Tryz.prog 59 #[.string s] w fun e w'=>Below w.heap.size w w'∧e = .returned (.tuple #[.slice none 0 0,.int .i64 4]):=by
 refine(LX s w hv).mono ?_;rintro e w' ⟨hb,⟨_,rfl⟩|⟨h,_⟩|⟨h,_⟩⟩
 · exact⟨hb,rfl⟩
 · omega
 · omega
theorem U5 (kd:Int)(l:Array Value)(hl:l[0]? = some (.int .i64 kd))(w:World):Sem.run Tryz.prog (Instr.field 71 (.agg l) 0) w = .ok (.int .i64 kd) w:=by
 simp[Instr.field,run_underlying Tryz.underlying71,part,isAgg,run_underlying Tryz.underlying3,asAgg,hl,go_sem]
def jc (s:ByteArray)(res:Except Int (List Nd)):Prop :=
 (300<s.size∧res = .error 4)∨(s.size≤300∧gJ (sb s)=none∧res = .error 5)∨(s.size≤300∧∃ts f,gJ (sb s)=some ts∧lW f ts=some res)
theorem jc.all (s:ByteArray):∃res,jc s res:=by
 by_cases h:300<s.size
 · exact⟨_,.inl ⟨h,rfl⟩⟩
 · cases hl:gJ (sb s)with
   | none=>exact⟨_,.inr (.inl ⟨by omega,hl,rfl⟩)⟩
   | some ts =>
     obtain⟨f,y,hy⟩:=aeB ts;exact⟨y,.inr (.inr ⟨by omega,ts,f,hl,hy⟩)⟩
def X9 (res:Except Int (List Nd))(w:World)(e:Ending)(w':World):Prop :=
 Below w.heap.size w w'∧((∃c,res = .error c∧e = .returned (.tuple #[.slice none 0 0,.int .i64 c])) ∨
  (∃ns nv vs,res = .ok ns∧vs.map aC.n=ns∧e = .returned (.tuple #[nv,.int .i64 0])∧ky w' w.heap.size nv vs∧cO ns=true))
theorem ky.mono{lo lo':Nat}{nv:Value}{vs:List aC}(h:ky w lo nv vs)(hl:lo'≤lo):ky w lo' nv vs:=⟨h.1.mono hl,fun v hv=>(h.2 v hv).mono hl⟩
theorem aez (s:ByteArray)(w:World)(hv:Vars w)(ho:oH w)(res:Except Int (List Nd))(hp:jc s res) :
 Calls Tryz.prog 36 #[.string s] w (X9 res w):=by
 rcases hp with ⟨h1,rfl⟩|⟨h1,h2,rfl⟩|⟨h1,ts,f,h2,h3⟩
 · have HL:=ae (SV s w hv h1)
   clear hv ho h1;go_enter Tryz.func36,Tryz.ntmps36;go_wp2_with (go_at_call 59;((with_reducible refine HL.o.mono ?_);rintro e w1 ⟨hb,rfl⟩;have HB:=ae hb;clear hb))
   go_ret2
   exact⟨HB.o,.inl ⟨4,rfl,rfl⟩⟩
 · have HL:=ae (SS s w hv h1 h2)
   clear hv ho h1 h2;go_enter Tryz.func36,Tryz.ntmps36;go_wp2_with (go_at_call 59;((with_reducible refine HL.o.mono ?_);rintro e w1 ⟨hb,rfl⟩;have HB:=ae hb;clear hb))
   go_ret2
   exact⟨HB.o,.inl ⟨5,rfl,rfl⟩⟩
 · obtain ⟨xS,AB⟩:=G6 s ts h2
   have hlen:=SH s ts h2;have hne:=List.length_pos_iff.2 (LV s ts h2);have HL:=ae (SQ s w hv h1 ts h2 hne);have hvl:=hv.lt;have hol:=ho.lt;have OP:=ae ho;have Dq:=ae AB;have XO:=ae (fun ns (h:res = .ok ns)=>Uf (by rw[← h];exact h3) xS);unfold lW at h3;have H3:=ae h3;obtain⟨nt,hnt⟩:∃nt,ts.length=nt:=⟨_,rfl⟩;have mq:=ae hnt;rw[hnt]at HL hlen hne;clear hv ho h2 h3 xS AB hnt;go_enter Tryz.func36,Tryz.ntmps36;go_upto_region 5 with (go_at_call 59;((with_reducible refine HL.o.mono ?_);rintro e w1 ⟨hb,g1,gm,rfl,hg0,hg1,ho⟩;have fZ:=ae ho;have HB:=ae hb;clear hb ho))
   have hB2:Below w1.heap.size w1 (w1.alloc (.cells #[.slice (some ⟨g1,0,none⟩) nt gm,.int .i64 0,.int .i64 0,.slice none 0 0] 113)):=(ak _ _).alloc (aj _) _;have hC2:(w1.alloc (.cells #[.slice (some ⟨g1,0,none⟩) nt gm,.int .i64 0,.int .i64 0,.slice none 0 0] 113)).heap[w1.heap.size]? = some (.cells #[.slice (some ⟨g1,0,none⟩) nt gm,.int .i64 0,.int .i64 0,.slice none 0 0] 113):=(kW w1 _).1;have nP:=ae (fZ.o.below hB2 (aj _));have JK:=ae (OP.o.below (HB.o.trans (hB2.mono HB.o.size)));have HZ1:=ae HB.o.size;have HB2:=ae (HB.o.trans (hB2.mono HB.o.size));clear hB2 HB HL fZ OP;generalize w1.alloc (.cells #[.slice (some ⟨g1,0,none⟩) nt gm,.int .i64 0,.int .i64 0,.slice none 0 0] 113)=w2 at hC2 nP JK HB2 ⊢;obtain⟨b,hb⟩:∃b,w1.heap.size=b:=⟨_,rfl⟩;rw[hb]at hC2 hg1 HZ1 ⊢;have hz1:=HZ1.o
   have HP:=ae (show bY w2 b (.slice (some ⟨g1,0,none⟩) nt gm) ts 0 0 (.slice none 0 0) []from
    ⟨hC2,⟨g1,gm,by rw[mq.o],hg1,nP.o.mono (eP _)⟩,ky.nil _ _,JK.o,by rw[mq.o];exact hne,by omega,Dq.o,by rw[mq.o];omega,eP _,by omega⟩)
   clear hb hC2 nP JK Dq w1;rcases eG H3.o with ⟨c,g2,rfl⟩|⟨ns,a,r,g2,g3⟩
   · have HX:=ae (show Calls Tryz.prog 60 #[.pointer (some ⟨b,0,none⟩),.int .i64 0] w2 (Out (.error c) w2 b (.slice (some ⟨g1,0,none⟩) nt gm) ts 0 [])from Qs f 0 0 _ w2 b _ ts 0 _ [] (by omega) HP.o g2)
     clear g2 H3;go_wp2_with (go_at_call 60;((with_reducible refine HX.o.mono ?_);intro e w5 ho;obtain⟨hf,hc,rfl⟩:=ho.bad rfl;have eD:=ae (HB2.o.trans (hf.toBelow hz1 HB2.o.size));have hc0:(c != 0)=true:=(by rw[bne_iff_ne];rcases hc with h|h <;> omega);clear hf hc ho))
     go_ret2
     exact⟨eD.o,.inl ⟨c,rfl,rfl⟩⟩
   · have HX:=ae (show Calls Tryz.prog 60 #[.pointer (some ⟨b,0,none⟩),.int .i64 0] w2 (Out (.ok (ns,a,r)) w2 b (.slice (some ⟨g1,0,none⟩) nt gm) ts 0 [])from Qs f 0 0 _ w2 b _ ts 0 _ [] (by omega) HP.o g2)
     have hns:=((vQ f).1 _ _ _ _ _ _ _ g2).2.2;have H4:=ae g3;clear g2 g3 H3;go_upto_region 8 with (go_at_call 60;((with_reducible refine HX.o.mono ?_);intro e w5 ho;obtain⟨hf,rfl,p5,oM,dN,lT,j6,hk5,iX⟩:=ho.sH rfl;have eD:=ae (HB2.o.trans (hf.toBelow hz1 HB2.o.size));have aU:=ae iX;have HD5:=ae lT;have lh:=ae j6;clear hf ho lT j6 hk5 iX))
     obtain⟨gt,ct,t, -,ht,hd, -⟩:=aU.o.tok;have h4:=H4.o;rw[← HD5.o,hd]at h4;have aR:=ae (H8 aU.o t ht);obtain⟨g5,P5,rfl, -⟩:=Own.some aU.o.nodes.1 (show 0<([]++dN).length by rw[iy, ← eB (f:=aC.n),lh.o];omega);obtain⟨kd,hkd⟩:∃kd,t.kind=kd:=⟨_,rfl⟩;rw[hkd]at aR;clear HX ht hd H4;by_cases h0:t.kind=0
     · rw[show uo (t :: ts.drop (p5+1))=t.kind from rfl,ah h0]at h4
       injection h4 with h4;have HR:=ae h4.symm;have e0:(kd != 0)=false:=by rw[← hkd,h0];rfl
       clear h4 h0 hkd;go_wp2_with (go_at_call 61;((with_reducible refine aR.o.mono ?_);rintro e w6 ⟨rfl,h1⟩;have oU:=ae (eD.o.trans (h1.mono eD.o.size));have dJ:=ae (aU.o.below h1);obtain⟨c0,c1,c2,c3⟩:=dJ.o.facts;have hfd:=U5 kd #[.int .i64 kd,.string t.text,.int .i64 t.num,.string t.sh,.int .i64 t.c,.int .i64 t.r,.bool t.ac,.bool t.ar,.int .i64 t.pos] rfl w6;clear h1))
       go_ret2
       exact⟨oU.o,.inr ⟨ns,_,[]++dN,HR.o,by rw[iy];exact lh.o,rfl,dJ.o.nodes.mono (by omega),XO.o ns HR.o⟩⟩
     · rw[show uo (t :: ts.drop (p5+1))=t.kind from rfl,ag h0]at h4
       injection h4 with h4;have HR:=ae h4.symm;have e0:(kd != 0)=true:=by rw[bne_iff_ne, ← hkd];exact h0
       clear h4 h0 hkd;go_wp2_with (go_at_call 61;((with_reducible refine aR.o.mono ?_);rintro e w6 ⟨rfl,h1⟩;have oU:=ae (eD.o.trans (h1.mono eD.o.size));have hfd:=U5 kd #[.int .i64 kd,.string t.text,.int .i64 t.num,.string t.sh,.int .i64 t.c,.int .i64 t.r,.bool t.ac,.bool t.ar,.int .i64 t.pos] rfl w6;clear h1))
       go_ret2
       exact⟨oU.o,.inl ⟨5,HR.o,rfl⟩⟩
theorem aeC (s:ByteArray)(w:World)(hv:Vars w)(ho:oH w)(ns:List Nd)(hp:jc s (.ok ns))(hne:0<ns.length) :
 Calls Tryz.prog 36 #[.string s] w fun e w'=>Below w.heap.size w w'∧∃g cap vs,e = .returned (.tuple #[.slice (some ⟨g,0,none⟩) ns.length cap,.int .i64 0])∧vs.map aC.n=ns∧vs.length=ns.length∧ky w' w.heap.size (.slice (some ⟨g,0,none⟩) ns.length cap) vs∧cO ns=true:=by
 refine(aez s w hv ho _ hp).mono ?_;rintro e w' ⟨hb,⟨c',h1,h2⟩|⟨ns',nv,vs,h1,h2,h3,h4,h5⟩⟩
 · cases h1
 · injection h1 with h1;subst h1
   have hl:vs.length=ns.length:=by rw[← h2,eB]
   obtain⟨g,cap,rfl, -⟩:=Own.some h4.1 (by omega);rw[hl]at h3 h4;exact⟨hb,g,cap,vs,h3,h2,hl,h4,h5⟩
theorem ky.cell {w:World}{lo g n cap:Nat}{vs:List aC}(h:ky w lo (.slice (some ⟨g,0,none⟩) n cap) vs)(i:Nat)(v:aC)(hi:vs[i]? = some v)(j:Nat)(hj:j<14):w.cell? ⟨g,i*14+j,none⟩=(bU v.n v.bn).toList[j]? := by
 have hl:(bU v.n v.bn).toList.length=14:=rfl;have hu:(ql.f v)[j]? = some ((bU v.n v.bn).toList[j]'(by omega)):=dL _;have:=Own.cells h.1 (i*14+j) _ (by rw[ql.at vs i j v hi hj];exact hu);rw[this];exact hu.symm
theorem agr:∀(n u:Nat),u<n→sb ⟨(Lib.decDigits u).toArray⟩=aV u:=by
 have U8:∀l:List UInt8,sb ⟨l.toArray⟩=l.map (fun b=>(b.toNat:Int)):=fun l=>rfl
 intro n
 induction n with
 | zero=>intro u h;omega
 | succ n ih =>
   intro u hu;rw[U8,Lib.decDigits];by_cases h:u<10
   · rw[dif_pos h,mr u h]
     simp only[jM,List.map_nil];rw[UInt8.toNat_ofNat_of_lt' (by show 48+u<256;omega)];congr 1
   · rw[dif_neg h,qi u h,gP, ← U8,ih (u / 10) (by omega)]
     simp only[jM,List.map_nil];rw[UInt8.toNat_ofNat_of_lt' (by show 48+u % 10<256;omega)];congr 1
theorem Zw (u:Nat):(⟨(Lib.decDigits u).toArray⟩:ByteArray)=strOfNums (aV u):=by
 rw[← mX ⟨(Lib.decDigits u).toArray⟩,agr (u+1) u (by omega)]
def lM (w : World) : Prop := Lib.TabIs Tryz.prog w "internal/strconv.uint64pow10" .u64 Lib.pow10Tab
theorem QH : Tryz.prog.globalNamed "internal/strconv.uint64pow10" = some 3 := by kernel_rfl
theorem lM.below (h:lM w)(hb:Below w.heap.size w w'):lM w':=by
 unfold lM Lib.TabIs World.var? at h ⊢;rw[QH]at h ⊢;simp only[Option.bind_some]at h ⊢;rw[hb.block _ ?_]
 · exact h
 · rcases Nat.lt_or_ge 3 w.heap.size with h'|h'
   · exact h'
   · rw[Array.getElem?_eq_none h']at h;cases h
theorem YF (w:World)(k:Nat)(os:Array Obj):Below w.heap.size w (Sort.grow (w.drewN k) os):=by
 refine⟨rfl,rfl,rfl, ?_, ?_⟩
 · show w.heap.size≤(w.heap++os).size
   simp
 · intro j hj
   show(w.heap++os)[j]? = w.heap[j]?;rw[Array.getElem?_append_left hj]
theorem Sk (n:Nat)(_h1:n≤9223372036854775807)(w:World)(ht:lM w) :
 Calls Tryz.prog 129 #[.int .i64 (n:Int)] w fun e w'=>e = .returned (.string (strOfNums (aV n)))∧Below w.heap.size w w':=by
 refine(Tryz.strconv_Itoa (n:Int) (by omega) (by omega) w ht).mono ?_;rintro e w' ⟨rfl,k,os,rfl⟩;refine⟨?_,YF w k os⟩;have:Lib.itoa (n:Int)=Lib.decDigits n:=by unfold Lib.itoa;rw[ag (by omega)];rfl
 rw[this,Zw]
theorem Bd (s:ByteArray)(c r:Int)(ac ar:Bool)(w:World)(_hs:s.size≤1000000) :
 Calls Tryz.prog 108 #[.agg #[.string s,.int .i64 c,.int .i64 r,.bool ac,.bool ar]] w fun e w'=>e = .returned (.bool (cK (sb s) c r))∧Below w.heap.size w w':=by
 by_cases h0:s.size=0
 · have:=vM s h0
   subst this;have hm:cK (sb ⟨#[]⟩) c r=decide (0≤c∧c≤701∧0≤r∧r≤998):=by unfold cK;rw[show decide (sb ⟨#[]⟩=[])=true from by decide,Bool.true_or,gL]
   have HM:=ae hm;clear hm;go_enter Tryz.func108,Tryz.ntmps108
   go_wp2
   all_goals go_ret
   all_goals exact⟨gq (by rw[HM.o];first|(symm;rw[aK];omega)|(symm;rw[jq];omega)|(rw[decide_eq_decide];omega)),(ak _ _).alloc (aj _) _⟩
 · have hne:=sQ s h0
   have xW:s.toList.isEmpty=false:=by cases hq:s.toList with|nil=>exact absurd hq hne|cons a l=>rfl
   have hm:cK (sb s) c r=(iH (sb s)&&decide (0≤c∧c≤701∧0≤r∧r≤998)):=by
    unfold cK;rw[aS (by intro h;have:=bz s;rw[h]at this;exact h0 this.symm),Bool.false_or]
   have HM:=ae hm;clear hm h0;by_cases hn:iH (sb s)=true
   · go_enter Tryz.func108,Tryz.ntmps108
     go_wp2_with (first
      | (go_at_call 135;((with_reducible refine(Hg _ _ ?_).mono ?_);(first|omega|skip);rintro e w' ⟨rfl,rfl⟩)))
     all_goals go_ret
     all_goals exact⟨gq (by rw[HM.o,hn,gL];first|(symm;rw[aK];omega)|(symm;rw[jq];omega)|(rw[decide_eq_decide];omega)),(ak _ _).alloc (aj _) _⟩
   · have hn':iH (sb s)=false:=by simpa using hn
     clear hn;go_enter Tryz.func108,Tryz.ntmps108
     go_wp2_with (first
      | (go_at_call 135;((with_reducible refine(Hg _ _ ?_).mono ?_);(first|omega|skip);rintro e w' ⟨rfl,rfl⟩)))
     all_goals go_ret
     all_goals exact⟨gq (by rw[HM.o,hn',Bool.false_and]),(ak _ _).alloc (aj _) _⟩
theorem adL (s:ByteArray)(h:jI (sb s)=true)(hr:iw s=none):∃t ts,gJ (sb s)=some (t :: ts)∧t.kind=3∧t.text=s:=by
 have hc:=h;unfold jI at hc;rw[dH,dH,aK,aK]at hc;obtain⟨c1,c2,c3⟩:=hc;have hs:=mX s;cases hq:sb s with
 | nil=>rw[hq]at c2;simp at c2
 | cons x l =>
   rw[hq]at c1 c3 hs h
   have aT:∀y∈x :: l,isWord y=true:=by
    intro y hy;have:=c1 y hy;rw[Bool.or_eq_true]at this;rcases this with g|g
    · rw[GN,R6 g];rfl
    · rw[GN,g];simp
   have hx:aP x=true:=by simpa using c3
   have hxr:65≤x∧x≤90:=by unfold aP at hx;rw[aK]at hx;omega
   have h1:¬ isNum x=true:=by unfold isNum;rw[aK];omega
   have hl:isLet x=true:=by unfold isLet;rw[aK];omega
   have ht:(x :: l).takeWhile isWord=x :: l:=by
    have:=vP isWord (x :: l) [] aT (fun y hy=>by simp at hy);rw[fF]at this;exact this
   have GG:fD (x :: l)=some ({ ai.zero with kind:=3,text:=s },(x :: l).length):=by
    rw[rO,ag h1,ag (by omega),ag (by omega),ah (.inl hl)];unfold mZ;rw[ht,hs,hr];simp only;rw[ah h]
   refine⟨({ ai.zero with kind:=3,text:=s }:ai).goto 0,[ai.zero.goto (0+(x :: l).length)], ?_,rfl,rfl⟩;unfold gJ;rw[aX,sK,ag (by omega),GG];simp only;rw[List.drop_length];have:fq l.length (0+(x :: l).length) []=some [ai.zero.goto (0+(x :: l).length)]:=by unfold fq;rfl
   rw[this];rfl
theorem Kv(s:ByteArray):j4 s=((jI (sb s)&&(iw s).isNone)&&(decide (¬ s=⟨#[84,82,85,69]⟩)&&decide (¬ s=⟨#[70,65,76,83,69]⟩))):=by unfold j4;rw[Bool.and_assoc]
theorem PW (s:ByteArray)(h:∀t ts,gJ (sb s)=some (t :: ts)→¬ (t.kind=3∧t.text=s)):j4 s=false:=by
 rw[Kv];cases hc:jI (sb s)
 · rfl
 · cases hr:iw s with
   | some d=>rfl
   | none =>
     obtain⟨t,ts,h1,h2,h3⟩:=adL s hc hr;exact absurd ⟨h2,h3⟩ (h t ts h1)
theorem YM (s:ByteArray)(h:12<s.size):j4 s=false:=by
 rw[Kv]
 have:jI (sb s)=false:=by
  unfold jI;rw[aS (show ¬ (1≤(sb s).length∧(sb s).length≤12)by rw[bz];omega),Bool.false_and,Bool.and_false]
 rw[this];rfl
theorem abR (s:ByteArray)(w:World)(hv:Vars w):Calls Tryz.prog 126 #[.string s] w fun e w'=>e = .returned (.bool (j4 s))∧Below w.heap.size w w':=by
 have bad:∀c:Int,(c != 0)=true→j4 s=false→(Calls Tryz.prog 59 #[.string s] w fun e w'=>Below w.heap.size w w'∧e = .returned (.tuple #[.slice none 0 0,.int .i64 c])) →
  Calls Tryz.prog 126 #[.string s] w fun e w'=>e = .returned (.bool (j4 s))∧Below w.heap.size w w':=by
  intro c hc hb hl;have HL:=ae hl;have HB0:=ae hb;have hc2:(c == 0)=false:=by rw[aA];exact bne_iff_ne.1 hc
  clear hl hb;go_enter Tryz.func126,Tryz.ntmps126;go_wp2_with (go_at_call 59;((with_reducible refine HL.o.mono ?_);rintro e w1 ⟨hb,rfl⟩;have HB:=ae hb;clear hb))
  go_ret;exact⟨by rw[HB0.o] <;> rfl,HB.o⟩
 by_cases qZ:300<s.size
 · exact bad 4 rfl (YM s (by omega)) (SV s w hv qZ)
 · cases hl : gJ (sb s)with
   | none=>exact bad 5 rfl (PW s (fun t ts h=>by rw[hl]at h;cases h)) (SS s w hv (by omega) hl)
   | some ts =>
     have hne:=LV s ts hl;obtain⟨xS,_⟩:=G6 s ts hl
     match ts,hne,hl,xS with
     | t :: tl,_,hl,xS =>
     have HX:=ae (SQ s w hv (by omega) (t :: tl) hl (by simp));have hg:=xS t (by simp);obtain⟨kd,hkd⟩:∃kd,t.kind=kd:=⟨_,rfl⟩;obtain⟨tx,htx⟩:∃tx,t.text=tx:=⟨_,rfl⟩;have HC:=ae (fun h=>PW s (fun t' ts' h'=>by rw[hl]at h';injection h' with h';injection h' with h1 h2;subst h1;exact h))
     have HG:=ae (show kd=3→tx=s→j4 s=(decide (¬ s=⟨#[84,82,85,69]⟩)&&decide (¬ s=⟨#[70,65,76,83,69]⟩))from by
      intro h1 h2;obtain⟨g1,g2⟩:=hg.name (by rw[hkd,h1]);rw[htx,h2]at g1 g2;rw[Kv,g1,g2];rfl)
     have HK:=ae hkd;have HT:=ae htx;obtain⟨n,hn⟩:∃n,(t :: tl).length=n:=⟨_,rfl⟩;have hn1:0<n:=by rw[← hn];simp
     rw[hn]at HX;have q1:=zR s ⟨#[84,82,85,69]⟩;have q2:=zR s ⟨#[70,65,76,83,69]⟩;rw[G8]at q1;rw[G7]at q2;clear hl xS hg hkd htx hn hne bad;go_enter Tryz.func126,Tryz.ntmps126;go_upto_region 2 with (go_at_call 59;((with_reducible refine HX.o.mono ?_);rintro e w1 ⟨hb,g,cap,rfl,hg0,hg1,ho⟩;have HB:=ae hb;have k0:w1.cell? ⟨g,0,none⟩=some (.int .i64 kd):=((sF.cell ho 0 t rfl 0 (by omega)).trans (by show some (Value.int .i64 t.kind)=_;rw[HK.o]));have k1:w1.cell? ⟨g,1,none⟩=some (.string tx):=((sF.cell ho 0 t rfl 1 (by omega)).trans (by show some (Value.string t.text)=_;rw[HT.o]));clear hb ho))
     have hni:(0:Int)<(n:Int):=by omega
     by_cases h3:kd=3
     · have e3:(kd == 3)=true:=bA.2 h3
       by_cases hs:tx=s
       · have HR:=ae (HG.o h3 hs)
         have q3:(tx.toList == s.toList)=true:=by rw[hs];simp
         clear h3 hs HC HG HK HT HX;by_cases h1:s=⟨#[84,82,85,69]⟩
         · rw[aQ h1]at q1
           rw[aS (show ¬ ¬ s=⟨#[84,82,85,69]⟩from fun h=>h h1),Bool.false_and]at HR;have MH:(s.toList != [84,82,85,69])=false:=by rw[bne,q1];rfl
           clear h1;go_wp2_with fail
           go_ret;exact⟨by rw[HR.o] <;> rfl,HB.o⟩
         · rw [aS h1]at q1
           rw[aQ h1,gL]at HR;have MH:(s.toList != [84,82,85,69])=true:=by rw[bne,q1];rfl
           clear h1;by_cases h2:s=⟨#[70,65,76,83,69]⟩
           · rw[aQ h2]at q2
             rw[aS (show ¬ ¬ s=⟨#[70,65,76,83,69]⟩from fun h=>h h2)]at HR;have MI:(s.toList != [70,65,76,83,69])=false:=by rw[bne,q2];rfl
             clear h2;go_wp2_with fail
             go_ret;exact⟨by rw[HR.o] <;> rfl,HB.o⟩
           · rw[aS h2]at q2
             rw[aQ h2]at HR;have MI:(s.toList != [70,65,76,83,69])=true:=by rw[bne,q2];rfl
             clear h2;go_wp2_with fail
             go_ret;exact⟨by rw[HR.o] <;> rfl,HB.o⟩
       · have HR:=ae (HC.o (fun h=>hs (by rw[← HT.o];exact h.2)))
         have q3:(tx.toList == s.toList)=false:=aA.2 (rM _ _ hs);clear h3 hs HC HG HK HT HX;go_wp2_with fail
         go_ret;exact⟨by rw[HR.o] <;> rfl,HB.o⟩
     · have HR:=ae (HC.o (fun h=>h3 (by rw[← HK.o];exact h.1)))
       have e3:(kd == 3)=false:=aA.2 h3;clear h3 HC HG HK HT HX;go_wp2_with fail
       go_ret;exact⟨by rw[HR.o] <;> rfl,HB.o⟩
theorem Ul (s:ByteArray)(k:Nat)(h:k<s.size)(hx:((s[k].toNat:Nat):Int)<32):mF (sb s)=false:=by
 unfold mF;rw[jq];intro aT;exact aT _ (fT (qC s k h)) hx
theorem Uk (s:ByteArray)(h:∀(j:Nat)(hj:j<s.size),¬ ((s[j].toNat:Nat):Int)<32):mF (sb s)=true:=by
 unfold mF;rw[aK];intro x hx;obtain⟨j,hj,rfl⟩:=List.mem_iff_getElem.1 hx;rw[bz]at hj;have:=qC s j hj;rw[dL (by rw[bz];exact hj)]at this;rw[dU this];exact h j hj
theorem abV (s:ByteArray)(w:World)(_hs:s.size≤1000000):Calls Tryz.prog 124 #[.string s] w fun e w'=>e = .returned (.bool (mF (sb s)))∧w=w':=by
 go_enter Tryz.func124,Tryz.ntmps124;go_wp2_with fail
 go_loopw [6] (fun i wr=>∃k:Nat,k≤s.size∧i = .int .i64 k∧Hid (∀(j:Nat)(hj:j<s.size),j<k→¬ ((s[j].toNat:Nat):Int)<32)∧w=wr)
  (fun i _=>s.size - (intOf i).toNat)
 case atStart=>exact⟨0,by omega,rfl,ae (by intro j _ hj;omega),rfl⟩
 case round =>
  obtain⟨k,hk,rfl,HG,rfl⟩:=hrel;by_cases hlt:k<s.size
  · have hki:(k:Int)<(s.size:Int):=by omega
    obtain⟨a,ha⟩:∃a:Int,(s[k].toNat:Int)=a:=⟨_,rfl⟩;have ha1:0≤a∧a≤255:=by have:=s[k].toNat_lt;omega
    have HA:=ae ha;by_cases h32:a<32
    · have HB:=ae (Ul s k hlt (by rw[ha];exact h32))
      go_wp2_with fail
      go_ret;exact⟨by rw[HB.o] <;> rfl,rfl⟩
    · go_wp2_with fail
      go_roundw
      case rel =>
       refine⟨k+1,by omega,by go_num,ae ?_,by first|rfl|trivial⟩;intro j hj hjk;by_cases e:j=k
       · subst e;rw[HA.o];exact h32
       · exact HG.o j hj (by omega)
      case measure=>simp[intOf];omega
  · have hki:¬ (k:Int)<(s.size:Int):=by omega
    have HB:=ae (Uk s (fun j hj=>HG.o j hj (by omega)));go_wp2_with fail
    go_ret;exact⟨by rw[HB.o] <;> rfl,rfl⟩
def wY(k:Int):Bool:=decide (9≤k∧k≤19)
theorem EC (k:Int)(w:World):Calls Tryz.prog 127 #[.int .i64 k] w fun e w'=>e = .returned (.bool (wY k))∧w=w':=by
 go_enter Tryz.func127,Tryz.ntmps127;by_cases h1:9≤k
 · by_cases h2:k≤19
   · go_wp2
     go_ret;exact⟨gq (by unfold wY;symm;rw[aK];exact⟨h1,h2⟩),rfl⟩
   · go_wp2
     go_ret;exact⟨gq (by unfold wY;symm;rw[jq];omega),rfl⟩
 · go_wp2
   go_ret;exact⟨gq (by unfold wY;symm;rw[jq];omega),rfl⟩
def hkB(kind:Int)(m:Nat):Bool:=if kind=7 then true else if kind=8 then decide (m=1)else if wY kind=true then decide (m=2)else decide (m=0)
theorem aax (n:Nd)(A:Option Addr)(m c:Nat)(hm:m≤maxLen)(w:World):Calls Tryz.prog 93 #[.agg #[.int .i64 n.kind,.int .i64 n.num,.string n.text,.string n.ref.sh,.int .i64 n.ref.c,.int .i64 n.ref.r,.bool n.ref.ac,.bool n.ref.ar,.string n.af.sh,.int .i64 n.af.c,.int .i64 n.af.r,.bool n.af.ac,.bool n.af.ar,.slice A m c]] w fun e w'=>e = .returned (.bool (hkB n.kind m))∧Below w.heap.size w w':=by
 have hx:az (w.alloc (.cells #[.int .i64 n.kind,.int .i64 n.num,.string n.text,.string n.ref.sh,.int .i64 n.ref.c,.int .i64 n.ref.r,.bool n.ref.ac,.bool n.ref.ar,.string n.af.sh,.int .i64 n.af.c,.int .i64 n.af.r,.bool n.af.ac,.bool n.af.ar,.slice A m c] 45)) w.heap.size n (.slice A m c):=az.new w n _;have HB:=ae ((ak w.heap.size w).alloc (aj _) (.cells #[.int .i64 n.kind,.int .i64 n.num,.string n.text,.string n.ref.sh,.int .i64 n.ref.c,.int .i64 n.ref.r,.bool n.ref.ac,.bool n.ref.ar,.string n.af.sh,.int .i64 n.af.c,.int .i64 n.af.r,.bool n.af.ac,.bool n.af.ar,.slice A m c] 45));go_enter Tryz.func93,Tryz.ntmps93;go_upto_region 1 with (fail)
 generalize w.alloc (.cells #[.int .i64 n.kind,.int .i64 n.num,.string n.text,.string n.ref.sh,.int .i64 n.ref.c,.int .i64 n.ref.r,.bool n.ref.ac,.bool n.ref.ar,.string n.af.sh,.int .i64 n.af.c,.int .i64 n.af.r,.bool n.af.ac,.bool n.af.ar,.slice A m c] 45)=w1 at hx HB ⊢;obtain⟨x0,x1,x2,x3,x4,x5,x6,x7,ay,aO,aL,aM,aN,aJ⟩:=hx.cells;clear hx;obtain⟨kd,hkd⟩:∃kd,n.kind=kd:=⟨_,rfl⟩;rw[hkd]at x0;have ni:=ae hkd;clear hkd;by_cases h7:kd=7
 · have e7:(kd == 7)=true:=bA.2 h7
   have HR:=ae (show hkB kd m=true by unfold hkB;rw[ah h7]);clear h7;go_wp2_with fail
   go_ret;exact⟨by rw[ni.o,HR.o] <;> rfl,HB.o⟩
 have e7:(kd == 7)=false:=aA.2 h7;by_cases h8:kd=8
 · have e8:(kd == 8)=true:=bA.2 h8
   have HR:=ae (show hkB kd m=decide (m=1)by unfold hkB;rw[ag h7,ah h8]);clear h7 h8;by_cases hm1:m=1
   · subst hm1
     go_wp2_with fail
     go_ret;exact⟨by rw[ni.o,HR.o] <;> rfl,HB.o⟩
   · have em:((m:Int) == 1)=false:=by rw[aA];omega
     rw[aS hm1]at HR;go_wp2_with fail
     go_ret;exact⟨by rw[ni.o,HR.o];first|rfl|(simp;omega),HB.o⟩
 have e8:(kd == 8)=false:=aA.2 h8;cases ht:wY kd
 · have HR:=ae (show hkB kd m=decide (m=0)by unfold hkB;rw[ag h7,ag h8,ht,ag (by decide)])
   have HT:=EC kd;rw[ht]at HT;have HT:=ae HT;clear h7 h8 ht;by_cases hm1:m=0
   · subst hm1
     go_wp2_with (go_at_call 127;((with_reducible refine(HT.o _).mono ?_);rintro e w2 ⟨rfl,rfl⟩))
     go_ret;exact⟨by rw[ni.o,HR.o] <;> rfl,HB.o⟩
   · have em:((m:Int) == 0)=false:=by rw[aA];omega
     rw[aS hm1]at HR;go_wp2_with (go_at_call 127;((with_reducible refine(HT.o _).mono ?_);rintro e w2 ⟨rfl,rfl⟩))
     go_ret;exact⟨by rw[ni.o,HR.o];first|rfl|(simp;omega),HB.o⟩
 · have HR:=ae (show hkB kd m=decide (m=2)by unfold hkB;rw[ag h7,ag h8,ht,ah rfl])
   have HT:=EC kd;rw[ht]at HT;have HT:=ae HT;clear h7 h8 ht;by_cases hm1:m=2
   · subst hm1
     go_wp2_with (go_at_call 127;((with_reducible refine(HT.o _).mono ?_);rintro e w2 ⟨rfl,rfl⟩))
     go_ret;exact⟨by rw[ni.o,HR.o] <;> rfl,HB.o⟩
   · have em:((m:Int) == 2)=false:=by rw[aA];omega
     rw[aS hm1]at HR;go_wp2_with (go_at_call 127;((with_reducible refine(HT.o _).mono ?_);rintro e w2 ⟨rfl,rfl⟩))
     go_ret;exact⟨by rw[ni.o,HR.o];first|rfl|(simp;omega),HB.o⟩
def iZ (n:Nd):Nd :=
 if n.kind=1 then { Nd.zero with num:=n.num }else if n.kind=2 then { Nd.zero with text:=n.text }else if n.kind=3 then { Nd.zero with num:=n.num }
 else if n.kind=5 then { Nd.zero with ref:=n.ref }else if n.kind=6 then ⟨0,0,⟨#[]⟩,n.ref,n.af,[]⟩else if n.kind=7 then { Nd.zero with text:=n.text }else Nd.zero
def okF (n:Nd):Bool :=
 if n.kind=1 then decide (0≤n.num)else if n.kind=2 then mF (sb n.text)else if n.kind=3 then decide (n.num=0∨n.num=1)
 else if n.kind=5 then bQ n.ref else if n.kind=6 then bQ n.ref&&(bQ n.af&&fu n.ref n.af)else if n.kind=7 then j4 n.text else decide (n.kind=4∨n.kind=8)||wY n.kind
theorem wU:Tryz.f92.results=#[.cell 2 45,.tmp 3]:=by kernel_rfl
theorem az.load (h:az w b n k):(loadVar 45 ⟨b,0,none⟩).run Tryz.prog w = .ok (.agg (bU n k)) w :=
 run_loadVar_row w b 45 45 _ _ _ h Tryz.underlying45 rfl Bf
theorem rF (h:az w b n k)(fn:Func)(tmps:Array Value)(ok:Bool)(p u:Tmp)(hf:fn.results=#[.cell p 45,.tmp u])(hp:tmps.getD p undef = .pointer (some ⟨b,0,none⟩))(hu:tmps.getD u undef = .bool ok) :
 (results fn tmps).run Tryz.prog w = .ok (.tuple #[.agg (bU n k),.bool ok]) w:=by
 rw[results_cell_tmp hf,hp,hu];simp[asAddr,h.load,Result.andThen]
abbrev pR:Array Value:=#[.int .i64 0,.int .i64 0,.string ⟨#[]⟩,.string ⟨#[]⟩,.int .i64 0,.int .i64 0,.bool false,.bool false,.string ⟨#[]⟩,.int .i64 0,.int .i64 0,.bool false,.bool false,.slice none 0 0]
theorem az.drew(h:az w b n k):az w.drew b n k:=h
theorem az.frozen(h:az w b n k)(j:Nat):w.frozen? ⟨b,j,none⟩=false:=frozen_of_row w b j _ _ h
theorem af3 (w:World)(b:Nat)(t:TypeId)(u0 u1 u2 u3 u4 u5 BA zN u8 u9 vR uE sS rR v0 v1 v2 v3 v4 v5 v6 v7 v8 v9 v10 v11 v12 v13:Value)(h:w.heap[b]? = some (.cells #[u0,u1,u2,u3,u4,u5,BA,zN,u8,u9,vR,uE,sS,rR] t)) :
 ((((((((((((((w.setCell ⟨b,0,none⟩ v0).setCell ⟨b,1,none⟩ v1).setCell ⟨b,2,none⟩ v2).setCell ⟨b,3,none⟩ v3).setCell ⟨b,4,none⟩ v4).setCell ⟨b,5,none⟩ v5).setCell ⟨b,6,none⟩ v6).setCell ⟨b,7,none⟩ v7).setCell ⟨b,8,none⟩ v8).setCell ⟨b,9,none⟩ v9).setCell ⟨b,10,none⟩ v10).setCell ⟨b,11,none⟩ v11).setCell ⟨b,12,none⟩ v12).setCell ⟨b,13,none⟩ v13).heap[b]? = some (.cells #[v0,v1,v2,v3,v4,v5,v6,v7,v8,v9,v10,v11,v12,v13] t):=by
 have h0:(w.setCell ⟨b,0,none⟩ v0).heap[b]? = some (.cells #[v0,u1,u2,u3,u4,u5,BA,zN,u8,u9,vR,uE,sS,rR] t):=by rw[heap_setCell_same _ b 0 _ _ _ h];rfl
 have h1:((w.setCell ⟨b,0,none⟩ v0).setCell ⟨b,1,none⟩ v1).heap[b]? = some (.cells #[v0,v1,u2,u3,u4,u5,BA,zN,u8,u9,vR,uE,sS,rR] t):=by rw[heap_setCell_same _ b 1 _ _ _ h0];rfl
 have h2:(((w.setCell ⟨b,0,none⟩ v0).setCell ⟨b,1,none⟩ v1).setCell ⟨b,2,none⟩ v2).heap[b]? = some (.cells #[v0,v1,v2,u3,u4,u5,BA,zN,u8,u9,vR,uE,sS,rR] t):=by rw[heap_setCell_same _ b 2 _ _ _ h1];rfl
 have h3:((((w.setCell ⟨b,0,none⟩ v0).setCell ⟨b,1,none⟩ v1).setCell ⟨b,2,none⟩ v2).setCell ⟨b,3,none⟩ v3).heap[b]? = some (.cells #[v0,v1,v2,v3,u4,u5,BA,zN,u8,u9,vR,uE,sS,rR] t):=by rw[heap_setCell_same _ b 3 _ _ _ h2];rfl
 have h4:(((((w.setCell ⟨b,0,none⟩ v0).setCell ⟨b,1,none⟩ v1).setCell ⟨b,2,none⟩ v2).setCell ⟨b,3,none⟩ v3).setCell ⟨b,4,none⟩ v4).heap[b]? = some (.cells #[v0,v1,v2,v3,v4,u5,BA,zN,u8,u9,vR,uE,sS,rR] t):=by rw[heap_setCell_same _ b 4 _ _ _ h3];rfl
 have h5:((((((w.setCell ⟨b,0,none⟩ v0).setCell ⟨b,1,none⟩ v1).setCell ⟨b,2,none⟩ v2).setCell ⟨b,3,none⟩ v3).setCell ⟨b,4,none⟩ v4).setCell ⟨b,5,none⟩ v5).heap[b]? = some (.cells #[v0,v1,v2,v3,v4,v5,BA,zN,u8,u9,vR,uE,sS,rR] t):=by rw[heap_setCell_same _ b 5 _ _ _ h4];rfl
 have h6:(((((((w.setCell ⟨b,0,none⟩ v0).setCell ⟨b,1,none⟩ v1).setCell ⟨b,2,none⟩ v2).setCell ⟨b,3,none⟩ v3).setCell ⟨b,4,none⟩ v4).setCell ⟨b,5,none⟩ v5).setCell ⟨b,6,none⟩ v6).heap[b]? = some (.cells #[v0,v1,v2,v3,v4,v5,v6,zN,u8,u9,vR,uE,sS,rR] t):=by rw[heap_setCell_same _ b 6 _ _ _ h5];rfl
 have h7:((((((((w.setCell ⟨b,0,none⟩ v0).setCell ⟨b,1,none⟩ v1).setCell ⟨b,2,none⟩ v2).setCell ⟨b,3,none⟩ v3).setCell ⟨b,4,none⟩ v4).setCell ⟨b,5,none⟩ v5).setCell ⟨b,6,none⟩ v6).setCell ⟨b,7,none⟩ v7).heap[b]? = some (.cells #[v0,v1,v2,v3,v4,v5,v6,v7,u8,u9,vR,uE,sS,rR] t):=by rw[heap_setCell_same _ b 7 _ _ _ h6];rfl
 have h8:(((((((((w.setCell ⟨b,0,none⟩ v0).setCell ⟨b,1,none⟩ v1).setCell ⟨b,2,none⟩ v2).setCell ⟨b,3,none⟩ v3).setCell ⟨b,4,none⟩ v4).setCell ⟨b,5,none⟩ v5).setCell ⟨b,6,none⟩ v6).setCell ⟨b,7,none⟩ v7).setCell ⟨b,8,none⟩ v8).heap[b]? = some (.cells #[v0,v1,v2,v3,v4,v5,v6,v7,v8,u9,vR,uE,sS,rR] t):=by rw[heap_setCell_same _ b 8 _ _ _ h7];rfl
 have h9:((((((((((w.setCell ⟨b,0,none⟩ v0).setCell ⟨b,1,none⟩ v1).setCell ⟨b,2,none⟩ v2).setCell ⟨b,3,none⟩ v3).setCell ⟨b,4,none⟩ v4).setCell ⟨b,5,none⟩ v5).setCell ⟨b,6,none⟩ v6).setCell ⟨b,7,none⟩ v7).setCell ⟨b,8,none⟩ v8).setCell ⟨b,9,none⟩ v9).heap[b]? = some (.cells #[v0,v1,v2,v3,v4,v5,v6,v7,v8,v9,vR,uE,sS,rR] t):=by rw[heap_setCell_same _ b 9 _ _ _ h8];rfl
 have h10:(((((((((((w.setCell ⟨b,0,none⟩ v0).setCell ⟨b,1,none⟩ v1).setCell ⟨b,2,none⟩ v2).setCell ⟨b,3,none⟩ v3).setCell ⟨b,4,none⟩ v4).setCell ⟨b,5,none⟩ v5).setCell ⟨b,6,none⟩ v6).setCell ⟨b,7,none⟩ v7).setCell ⟨b,8,none⟩ v8).setCell ⟨b,9,none⟩ v9).setCell ⟨b,10,none⟩ v10).heap[b]? = some (.cells #[v0,v1,v2,v3,v4,v5,v6,v7,v8,v9,v10,uE,sS,rR] t):=by rw[heap_setCell_same _ b 10 _ _ _ h9];rfl
 have h11:((((((((((((w.setCell ⟨b,0,none⟩ v0).setCell ⟨b,1,none⟩ v1).setCell ⟨b,2,none⟩ v2).setCell ⟨b,3,none⟩ v3).setCell ⟨b,4,none⟩ v4).setCell ⟨b,5,none⟩ v5).setCell ⟨b,6,none⟩ v6).setCell ⟨b,7,none⟩ v7).setCell ⟨b,8,none⟩ v8).setCell ⟨b,9,none⟩ v9).setCell ⟨b,10,none⟩ v10).setCell ⟨b,11,none⟩ v11).heap[b]? = some (.cells #[v0,v1,v2,v3,v4,v5,v6,v7,v8,v9,v10,v11,sS,rR] t):=by rw[heap_setCell_same _ b 11 _ _ _ h10];rfl
 have h12:(((((((((((((w.setCell ⟨b,0,none⟩ v0).setCell ⟨b,1,none⟩ v1).setCell ⟨b,2,none⟩ v2).setCell ⟨b,3,none⟩ v3).setCell ⟨b,4,none⟩ v4).setCell ⟨b,5,none⟩ v5).setCell ⟨b,6,none⟩ v6).setCell ⟨b,7,none⟩ v7).setCell ⟨b,8,none⟩ v8).setCell ⟨b,9,none⟩ v9).setCell ⟨b,10,none⟩ v10).setCell ⟨b,11,none⟩ v11).setCell ⟨b,12,none⟩ v12).heap[b]? = some (.cells #[v0,v1,v2,v3,v4,v5,v6,v7,v8,v9,v10,v11,v12,rR] t):=by rw[heap_setCell_same _ b 12 _ _ _ h11];rfl
 have Ci:((((((((((((((w.setCell ⟨b,0,none⟩ v0).setCell ⟨b,1,none⟩ v1).setCell ⟨b,2,none⟩ v2).setCell ⟨b,3,none⟩ v3).setCell ⟨b,4,none⟩ v4).setCell ⟨b,5,none⟩ v5).setCell ⟨b,6,none⟩ v6).setCell ⟨b,7,none⟩ v7).setCell ⟨b,8,none⟩ v8).setCell ⟨b,9,none⟩ v9).setCell ⟨b,10,none⟩ v10).setCell ⟨b,11,none⟩ v11).setCell ⟨b,12,none⟩ v12).setCell ⟨b,13,none⟩ v13).heap[b]? = some (.cells #[v0,v1,v2,v3,v4,v5,v6,v7,v8,v9,v10,v11,v12,v13] t):=by rw[heap_setCell_same _ b 13 _ _ _ h12];rfl
 exact Ci
theorem az.wR{n0:Nd}{k0:Value}(h:az w b n0 k0)(n:Nd)(k:Value):az ((((((((((((((w.setCell ⟨b,0,none⟩ (.int .i64 n.kind)).setCell ⟨b,1,none⟩ (.int .i64 n.num)).setCell ⟨b,2,none⟩ (.string n.text)).setCell ⟨b,3,none⟩ (.string n.ref.sh)).setCell ⟨b,4,none⟩ (.int .i64 n.ref.c)).setCell ⟨b,5,none⟩ (.int .i64 n.ref.r)).setCell ⟨b,6,none⟩ (.bool n.ref.ac)).setCell ⟨b,7,none⟩ (.bool n.ref.ar)).setCell ⟨b,8,none⟩ (.string n.af.sh)).setCell ⟨b,9,none⟩ (.int .i64 n.af.c)).setCell ⟨b,10,none⟩ (.int .i64 n.af.r)).setCell ⟨b,11,none⟩ (.bool n.af.ac)).setCell ⟨b,12,none⟩ (.bool n.af.ar)).setCell ⟨b,13,none⟩ (k)) b n k:=af3 w b _ _ _ _ _ _ _ _ _ _ _ _ _ _ _ _ _ _ _ _ _ _ _ _ _ _ _ _ _ h
theorem wF {a:World}(h:Below B a w)(hb:B≤b)(v0 v1 v2 v3 v4 v5 v6 v7 v8 v9 v10 v11 v12 v13:Value):Below B a ((((((((((((((w.setCell ⟨b,0,none⟩ v0).setCell ⟨b,1,none⟩ v1).setCell ⟨b,2,none⟩ v2).setCell ⟨b,3,none⟩ v3).setCell ⟨b,4,none⟩ v4).setCell ⟨b,5,none⟩ v5).setCell ⟨b,6,none⟩ v6).setCell ⟨b,7,none⟩ v7).setCell ⟨b,8,none⟩ v8).setCell ⟨b,9,none⟩ v9).setCell ⟨b,10,none⟩ v10).setCell ⟨b,11,none⟩ v11).setCell ⟨b,12,none⟩ v12).setCell ⟨b,13,none⟩ v13) :=
 ((((((((((((((h.setCell hb _).setCell hb _).setCell hb _).setCell hb _).setCell hb _).setCell hb _).setCell hb _).setCell hb _).setCell hb _).setCell hb _).setCell hb _).setCell hb _).setCell hb _).setCell hb _)
theorem ZU (n:Nd)(h1:n.kind=1)(A:Option Addr)(m c:Nat)(w:World):Calls Tryz.prog 92 #[.agg #[.int .i64 n.kind,.int .i64 n.num,.string n.text,.string n.ref.sh,.int .i64 n.ref.c,.int .i64 n.ref.r,.bool n.ref.ac,.bool n.ref.ar,.string n.af.sh,.int .i64 n.af.c,.int .i64 n.af.r,.bool n.af.ac,.bool n.af.ar,.slice A m c]] w fun e w'=>e = .returned (.tuple #[.agg (bU { Nd.zero with num:=n.num } (.slice none 0 0)),.bool (decide (0≤n.num))])∧Below w.heap.size w w':=by
 have hsz:(w.alloc (.cells #[.int .i64 n.kind,.int .i64 n.num,.string n.text,.string n.ref.sh,.int .i64 n.ref.c,.int .i64 n.ref.r,.bool n.ref.ac,.bool n.ref.ar,.string n.af.sh,.int .i64 n.af.c,.int .i64 n.af.r,.bool n.af.ac,.bool n.af.ar,.slice A m c] 45)).heap.size=w.heap.size+1:=by simp
 have hx:az (w.alloc (.cells #[.int .i64 n.kind,.int .i64 n.num,.string n.text,.string n.ref.sh,.int .i64 n.ref.c,.int .i64 n.ref.r,.bool n.ref.ac,.bool n.ref.ar,.string n.af.sh,.int .i64 n.af.c,.int .i64 n.af.r,.bool n.af.ac,.bool n.af.ar,.slice A m c] 45)) w.heap.size n (.slice A m c):=az.new w n _;have hy:az ((w.alloc (.cells #[.int .i64 n.kind,.int .i64 n.num,.string n.text,.string n.ref.sh,.int .i64 n.ref.c,.int .i64 n.ref.r,.bool n.ref.ac,.bool n.ref.ar,.string n.af.sh,.int .i64 n.af.c,.int .i64 n.af.r,.bool n.af.ac,.bool n.af.ar,.slice A m c] 45)).alloc (.cells pR 45)) (w.heap.size+1) Nd.zero (.slice none 0 0):=by rw[← hsz];exact az.new _ Nd.zero _
 have hx2:=hx.below ((ak _ _).alloc (aj _) (.cells pR 45)) hx.lt;have HB:=ae (((ak w.heap.size w).alloc (aj _) (.cells #[.int .i64 n.kind,.int .i64 n.num,.string n.text,.string n.ref.sh,.int .i64 n.ref.c,.int .i64 n.ref.r,.bool n.ref.ac,.bool n.ref.ar,.string n.af.sh,.int .i64 n.af.c,.int .i64 n.af.r,.bool n.af.ac,.bool n.af.ar,.slice A m c] 45)).alloc (by simp) (.cells pR 45));have e1:(n.kind == 1)=true:=bA.2 h1;clear h1;go_enter Tryz.func92,Tryz.ntmps92;go_upto_region 3 with (fail)
 generalize (w.alloc (.cells #[.int .i64 n.kind,.int .i64 n.num,.string n.text,.string n.ref.sh,.int .i64 n.ref.c,.int .i64 n.ref.r,.bool n.ref.ac,.bool n.ref.ar,.string n.af.sh,.int .i64 n.af.c,.int .i64 n.af.r,.bool n.af.ac,.bool n.af.ar,.slice A m c] 45)).alloc (.cells pR 45)=w1 at hx2 hy HB ⊢;obtain⟨x0,x1,x2,x3,x4,x5,x6,x7,ay,aO,aL,aM,aN,aJ⟩:=hx2.cells;obtain⟨y0,y1,y2,y3,y4,fQ,y6,mG,oC,vV,vS,vT,vU,y13⟩:=hy.cells;have f0:=hy.frozen 0;have f1:=hy.frozen 1;have f2:=hy.frozen 2;have f3:=hy.frozen 3;have f4:=hy.frozen 4;have f5:=hy.frozen 5;have f6:=hy.frozen 6;have f7:=hy.frozen 7;have f8:=hy.frozen 8;have f9:=hy.frozen 9;have f10:=hy.frozen 10;have f11:=hy.frozen 11;have f12:=hy.frozen 12;have f13:=hy.frozen 13;have jb:=ae hy;clear hx hx2 hy
 go_region
 all_goals go_wp2_with fail
 all_goals exact bodyPost_ret (rF (jb.o.wR { Nd.zero with num:=n.num } (.slice none 0 0)).drew _ _ _ 2 3 wU rfl rfl) rfl ⟨rfl,(wF HB.o (by omega) _ _ _ _ _ _ _ _ _ _ _ _ _ _).drew⟩
theorem az.bS (h:az w b n k):w.frozen? ⟨b,0,none⟩=false∧w.frozen? ⟨b,1,none⟩=false∧w.frozen? ⟨b,2,none⟩=false∧w.frozen? ⟨b,3,none⟩=false∧w.frozen? ⟨b,4,none⟩=false∧w.frozen? ⟨b,5,none⟩=false∧w.frozen? ⟨b,6,none⟩=false∧w.frozen? ⟨b,7,none⟩=false∧w.frozen? ⟨b,8,none⟩=false∧w.frozen? ⟨b,9,none⟩=false∧w.frozen? ⟨b,10,none⟩=false∧w.frozen? ⟨b,11,none⟩=false∧w.frozen? ⟨b,12,none⟩=false∧w.frozen? ⟨b,13,none⟩=false :=
 ⟨h.frozen 0,h.frozen 1,h.frozen 2,h.frozen 3,h.frozen 4,h.frozen 5,h.frozen 6,h.frozen 7,h.frozen 8,h.frozen 9,h.frozen 10,h.frozen 11,h.frozen 12,h.frozen 13⟩
theorem yj (w:World)(n:Nd)(A:Option Addr)(m c:Nat):∃w1,(w.alloc (.cells #[.int .i64 n.kind,.int .i64 n.num,.string n.text,.string n.ref.sh,.int .i64 n.ref.c,.int .i64 n.ref.r,.bool n.ref.ac,.bool n.ref.ar,.string n.af.sh,.int .i64 n.af.c,.int .i64 n.af.r,.bool n.af.ac,.bool n.af.ar,.slice A m c] 45)).alloc (.cells pR 45)=w1∧az w1 w.heap.size n (.slice A m c)∧az w1 (w.heap.size+1) Nd.zero (.slice none 0 0)∧Below w.heap.size w w1∧w.heap.size+1<w1.heap.size:=by
 have hx:=az.new w n (.slice A m c);obtain⟨wa,GI⟩:∃wa,w.alloc (.cells #[.int .i64 n.kind,.int .i64 n.num,.string n.text,.string n.ref.sh,.int .i64 n.ref.c,.int .i64 n.ref.r,.bool n.ref.ac,.bool n.ref.ar,.string n.af.sh,.int .i64 n.af.c,.int .i64 n.af.r,.bool n.af.ac,.bool n.af.ar,.slice A m c] 45)=wa:=⟨_,rfl⟩;have xQ:Below w.heap.size w wa:=by rw[← GI];exact(ak _ _).alloc (aj _) _
 have hz:wa.heap.size=w.heap.size+1:=by rw[← GI,jE]
 have hx1:az wa w.heap.size n (.slice A m c):=by rw[← GI];exact hx
 have hb:Below wa.heap.size wa (wa.alloc (.cells pR 45)):=(ak _ _).alloc (aj _) _;have hy:=az.new wa Nd.zero (.slice none 0 0);rw[hz]at hy;refine⟨wa.alloc (.cells pR 45),by rw[GI],hx1.below hb hx1.lt,hy,xQ.trans (hb.mono xQ.size),by rw[jE,hz];exact Nat.lt_succ_self _⟩
theorem ZV (w:World)(n:Nd)(h2:n.kind=2)(hs:n.text.size≤1000000)(A:Option Addr)(m c:Nat):Calls Tryz.prog 92 #[.agg #[.int .i64 n.kind,.int .i64 n.num,.string n.text,.string n.ref.sh,.int .i64 n.ref.c,.int .i64 n.ref.r,.bool n.ref.ac,.bool n.ref.ar,.string n.af.sh,.int .i64 n.af.c,.int .i64 n.af.r,.bool n.af.ac,.bool n.af.ar,.slice A m c]] w fun e w'=>e = .returned (.tuple #[.agg (bU { Nd.zero with text:=n.text } (.slice none 0 0)),.bool (mF (sb n.text))])∧Below w.heap.size w w':=by
 obtain⟨w1,hw1,hx2,hy,hb,hb2⟩:=yj w n A m c;have HB:=ae hb;obtain⟨x0,x1,x2,x3,x4,x5,x6,x7,ay,aO,aL,aM,aN,aJ⟩:=hx2.cells;have e1:(n.kind == 1)=false:=by rw[h2];rfl
 have e2:(n.kind == 2)=true:=bA.2 h2;clear h2;go_enter Tryz.func92,Tryz.ntmps92;go_upto_region 5 with (fail)
 clear hw1 hb;obtain⟨y0,y1,y2,y3,y4,fQ,y6,mG,oC,vV,vS,vT,vU,y13⟩:=hy.cells;obtain⟨f0,f1,f2,f3,f4,f5,f6,f7,f8,f9,f10,f11,f12,f13⟩:=hy.bS;have jb:=ae hy;have HX:=ae hx2;clear hx2 hy;have HT:=ae (fun w=>abV n.text w hs)
 go_region_with (go_at_call 124;((with_reducible refine(HT.o _).mono ?_);rintro e w2 ⟨rfl,rfl⟩))
 all_goals go_wp2_with fail
 all_goals exact bodyPost_ret (rF (jb.o.wR { Nd.zero with text:=n.text } (.slice none 0 0)).drew _ _ _ 2 3 wU rfl rfl) rfl ⟨rfl,(wF HB.o (by have:=HB.o.size;omega) _ _ _ _ _ _ _ _ _ _ _ _ _ _).drew⟩
theorem ZW (w:World)(n:Nd)(h3:n.kind=3)(h0:n.num=0)(A:Option Addr)(m c:Nat):Calls Tryz.prog 92 #[.agg #[.int .i64 n.kind,.int .i64 n.num,.string n.text,.string n.ref.sh,.int .i64 n.ref.c,.int .i64 n.ref.r,.bool n.ref.ac,.bool n.ref.ar,.string n.af.sh,.int .i64 n.af.c,.int .i64 n.af.r,.bool n.af.ac,.bool n.af.ar,.slice A m c]] w fun e w'=>e = .returned (.tuple #[.agg (bU { Nd.zero with num:=n.num } (.slice none 0 0)),.bool true])∧Below w.heap.size w w':=by
 obtain⟨w1,hw1,hx2,hy,hb,hb2⟩:=yj w n A m c;have HB:=ae hb;obtain⟨x0,x1,x2,x3,x4,x5,x6,x7,ay,aO,aL,aM,aN,aJ⟩:=hx2.cells;have e1:(n.kind == 1)=false:=by rw[h3];rfl
 have e2:(n.kind == 2)=false:=by rw[h3];rfl
 have e3:(n.kind == 3)=true:=bA.2 h3;clear h3;have q0:(n.num == 0)=true:=bA.2 h0;clear h0;go_enter Tryz.func92,Tryz.ntmps92;go_upto_region 7 with (fail)
 clear hw1 hb;obtain⟨y0,y1,y2,y3,y4,fQ,y6,mG,oC,vV,vS,vT,vU,y13⟩:=hy.cells;obtain⟨f0,f1,f2,f3,f4,f5,f6,f7,f8,f9,f10,f11,f12,f13⟩:=hy.bS;have jb:=ae hy;have HX:=ae hx2;clear hx2 hy
 go_region
 all_goals go_wp2_with fail
 all_goals exact bodyPost_ret (rF (jb.o.wR { Nd.zero with num:=n.num } (.slice none 0 0)).drew _ _ _ 2 3 wU rfl rfl) rfl ⟨rfl,(wF HB.o (by have:=HB.o.size;omega) _ _ _ _ _ _ _ _ _ _ _ _ _ _).drew⟩
theorem ZX (w:World)(n:Nd)(h3:n.kind=3)(h0:n.num=1)(A:Option Addr)(m c:Nat):Calls Tryz.prog 92 #[.agg #[.int .i64 n.kind,.int .i64 n.num,.string n.text,.string n.ref.sh,.int .i64 n.ref.c,.int .i64 n.ref.r,.bool n.ref.ac,.bool n.ref.ar,.string n.af.sh,.int .i64 n.af.c,.int .i64 n.af.r,.bool n.af.ac,.bool n.af.ar,.slice A m c]] w fun e w'=>e = .returned (.tuple #[.agg (bU { Nd.zero with num:=n.num } (.slice none 0 0)),.bool true])∧Below w.heap.size w w':=by
 obtain⟨w1,hw1,hx2,hy,hb,hb2⟩:=yj w n A m c;have HB:=ae hb;obtain⟨x0,x1,x2,x3,x4,x5,x6,x7,ay,aO,aL,aM,aN,aJ⟩:=hx2.cells;have e1:(n.kind == 1)=false:=by rw[h3];rfl
 have e2:(n.kind == 2)=false:=by rw[h3];rfl
 have e3:(n.kind == 3)=true:=bA.2 h3;clear h3;have q0:(n.num == 0)=false:=by rw[h0];rfl
 have q1:(n.num == 1)=true:=bA.2 h0;clear h0;go_enter Tryz.func92,Tryz.ntmps92;go_upto_region 7 with (fail)
 clear hw1 hb;obtain⟨y0,y1,y2,y3,y4,fQ,y6,mG,oC,vV,vS,vT,vU,y13⟩:=hy.cells;obtain⟨f0,f1,f2,f3,f4,f5,f6,f7,f8,f9,f10,f11,f12,f13⟩:=hy.bS;have jb:=ae hy;have HX:=ae hx2;clear hx2 hy
 go_region
 all_goals go_wp2_with fail
 all_goals exact bodyPost_ret (rF (jb.o.wR { Nd.zero with num:=n.num } (.slice none 0 0)).drew _ _ _ 2 3 wU rfl rfl) rfl ⟨rfl,(wF HB.o (by have:=HB.o.size;omega) _ _ _ _ _ _ _ _ _ _ _ _ _ _).drew⟩
theorem ZY (w:World)(n:Nd)(h5:n.kind=5)(hs:n.ref.sh.size≤1000000)(A:Option Addr)(m c:Nat):Calls Tryz.prog 92 #[.agg #[.int .i64 n.kind,.int .i64 n.num,.string n.text,.string n.ref.sh,.int .i64 n.ref.c,.int .i64 n.ref.r,.bool n.ref.ac,.bool n.ref.ar,.string n.af.sh,.int .i64 n.af.c,.int .i64 n.af.r,.bool n.af.ac,.bool n.af.ar,.slice A m c]] w fun e w'=>e = .returned (.tuple #[.agg (bU { Nd.zero with ref:=n.ref } (.slice none 0 0)),.bool (bQ n.ref)])∧Below w.heap.size w w':=by
 obtain⟨w1,hw1,hx2,hy,hb,hb2⟩:=yj w n A m c;have HB:=ae hb;obtain⟨x0,x1,x2,x3,x4,x5,x6,x7,ay,aO,aL,aM,aN,aJ⟩:=hx2.cells;have e1:(n.kind == 1)=false:=by rw[h5];rfl
 have e2:(n.kind == 2)=false:=by rw[h5];rfl
 have e3:(n.kind == 3)=false:=by rw[h5];rfl
 have e5:(n.kind == 5)=true:=bA.2 h5;clear h5;go_enter Tryz.func92,Tryz.ntmps92;go_upto_region 9 with (fail)
 clear hw1 hb;obtain⟨y0,y1,y2,y3,y4,fQ,y6,mG,oC,vV,vS,vT,vU,y13⟩:=hy.cells;obtain⟨f0,f1,f2,f3,f4,f5,f6,f7,f8,f9,f10,f11,f12,f13⟩:=hy.bS;have jb:=ae hy;have HX:=ae hx2;clear hx2 hy;have HT:=ae (fun w=>Bd n.ref.sh n.ref.c n.ref.r n.ref.ac n.ref.ar w hs);go_region_held3 (fun w'=>w'.cell? ⟨w.heap.size,3,none⟩=some (.string n.ref.sh)∧w'.cell? ⟨w.heap.size,4,none⟩=some (.int .i64 n.ref.c)∧w'.cell? ⟨w.heap.size,5,none⟩=some (.int .i64 n.ref.r)∧w'.cell? ⟨w.heap.size,6,none⟩=some (.bool n.ref.ac)∧w'.cell? ⟨w.heap.size,7,none⟩=some (.bool n.ref.ar)) (go_keep) (first|(go_at_call 108;((with_reducible refine(HT.o _).mono ?_);rintro e w2 ⟨rfl,h1⟩;have tC:=ae (jb.o.drew.below h1 jb.o.lt);have bZ:=ae (HX.o.drew.below h1 HX.o.lt);have HB2:=ae (HB.o.drew.trans (h1.mono HB.o.size));obtain⟨z0,z1,z2,z3,z4,z5,z6,z7,Df,z9,Dc,De,z12,Fg⟩:=tC.o.cells;obtain⟨g0,g1,g2,g3,g4,g5,g6,g7,g8,g9,g10,g11,g12,g13⟩:=tC.o.bS;obtain⟨t0,t1,t2,t3,t4,t5,t6,t7,t8,t9,t10,t11,t12,t13⟩:=bZ.o.cells;clear h1)))
 all_goals go_wp2_with fail
 all_goals exact bodyPost_ret (rF (tC.o.wR { Nd.zero with ref:=n.ref } (.slice none 0 0)) _ _ _ 2 3 wU rfl rfl) rfl ⟨rfl,wF HB2.o (by have:=HB.o.size;omega) _ _ _ _ _ _ _ _ _ _ _ _ _ _⟩
theorem Z0 (w:World)(n:Nd)(h7:n.kind=7)(hv:Vars w)(A:Option Addr)(m c:Nat):Calls Tryz.prog 92 #[.agg #[.int .i64 n.kind,.int .i64 n.num,.string n.text,.string n.ref.sh,.int .i64 n.ref.c,.int .i64 n.ref.r,.bool n.ref.ac,.bool n.ref.ar,.string n.af.sh,.int .i64 n.af.c,.int .i64 n.af.r,.bool n.af.ac,.bool n.af.ar,.slice A m c]] w fun e w'=>e = .returned (.tuple #[.agg (bU { Nd.zero with text:=n.text } (.slice none 0 0)),.bool (j4 n.text)])∧Below w.heap.size w w':=by
 obtain⟨w1,hw1,hx2,hy,hb,hb2⟩:=yj w n A m c;have HB:=ae hb;obtain⟨x0,x1,x2,x3,x4,x5,x6,x7,ay,aO,aL,aM,aN,aJ⟩:=hx2.cells;have e1:(n.kind == 1)=false:=by rw[h7];rfl
 have e2:(n.kind == 2)=false:=by rw[h7];rfl
 have e3:(n.kind == 3)=false:=by rw[h7];rfl
 have e5:(n.kind == 5)=false:=by rw[h7];rfl
 have e6:(n.kind == 6)=false:=by rw[h7];rfl
 have e7:(n.kind == 7)=true:=bA.2 h7;clear h7;have XT:=ae hv;clear hv;go_enter Tryz.func92,Tryz.ntmps92;go_upto_region 13 with (fail)
 clear hw1 hb;obtain⟨y0,y1,y2,y3,y4,fQ,y6,mG,oC,vV,vS,vT,vU,y13⟩:=hy.cells;obtain⟨f0,f1,f2,f3,f4,f5,f6,f7,f8,f9,f10,f11,f12,f13⟩:=hy.bS;have jb:=ae hy;have HX:=ae hx2;clear hx2 hy;have HT:=ae (fun wr (hb:Below w.heap.size w wr)=>abR n.text wr (XT.o.below hb));go_region_held3 (fun w'=>w'.cell? ⟨w.heap.size,2,none⟩=some (.string n.text)) (go_keep) (first|(go_at_call 126;((with_reducible refine(HT.o _ HB.o.drew).mono ?_);rintro e w2 ⟨rfl,h1⟩;have tC:=ae (jb.o.drew.below h1 jb.o.lt);have bZ:=ae (HX.o.drew.below h1 HX.o.lt);have HB2:=ae (HB.o.drew.trans (h1.mono HB.o.size));clear h1;obtain⟨z0,z1,z2,z3,z4,z5,z6,z7,Df,z9,Dc,De,z12,Fg⟩:=tC.o.cells;obtain⟨g0,g1,g2,g3,g4,g5,g6,g7,g8,g9,g10,g11,g12,g13⟩:=tC.o.bS;obtain⟨t0,t1,t2,t3,t4,t5,t6,t7,t8,t9,t10,t11,t12,t13⟩:=bZ.o.cells)))
 all_goals go_wp2_with fail
 all_goals exact bodyPost_ret (rF (tC.o.wR { Nd.zero with text:=n.text } (.slice none 0 0)) _ _ _ 2 3 wU rfl rfl) rfl ⟨rfl,wF HB2.o (by have:=HB.o.size;omega) _ _ _ _ _ _ _ _ _ _ _ _ _ _⟩
theorem ZZ (w:World)(n:Nd)(h6:n.kind=6)(hs:n.ref.sh.size≤1000000)(ht:n.af.sh.size≤1000000)(q1:bQ n.ref=true)(q2:bQ n.af=true)(A:Option Addr)(m c:Nat):Calls Tryz.prog 92 #[.agg #[.int .i64 n.kind,.int .i64 n.num,.string n.text,.string n.ref.sh,.int .i64 n.ref.c,.int .i64 n.ref.r,.bool n.ref.ac,.bool n.ref.ar,.string n.af.sh,.int .i64 n.af.c,.int .i64 n.af.r,.bool n.af.ac,.bool n.af.ar,.slice A m c]] w fun e w'=>e = .returned (.tuple #[.agg (bU ⟨0,0,⟨#[]⟩,n.ref,n.af,[]⟩ (.slice none 0 0)),.bool (fu n.ref n.af)])∧Below w.heap.size w w':=by
 obtain⟨w1,hw1,hx2,hy,hb,hb2⟩:=yj w n A m c;have HB:=ae hb;obtain⟨x0,x1,x2,x3,x4,x5,x6,x7,ay,aO,aL,aM,aN,aJ⟩:=hx2.cells;have e1:(n.kind == 1)=false:=by rw[h6];rfl
 have e2:(n.kind == 2)=false:=by rw[h6];rfl
 have e3:(n.kind == 3)=false:=by rw[h6];rfl
 have e5:(n.kind == 5)=false:=by rw[h6];rfl
 have e6:(n.kind == 6)=true:=bA.2 h6;clear h6;go_enter Tryz.func92,Tryz.ntmps92;go_upto_region 11 with (fail)
 clear hw1 hb;obtain⟨y0,y1,y2,y3,y4,fQ,y6,mG,oC,vV,vS,vT,vU,y13⟩:=hy.cells;obtain⟨f0,f1,f2,f3,f4,f5,f6,f7,f8,f9,f10,f11,f12,f13⟩:=hy.bS;have jb:=ae hy;have HX:=ae hx2;clear hx2 hy;have HT1:=ae (show ∀w,Calls Tryz.prog 108 #[.agg #[.string n.ref.sh,.int .i64 n.ref.c,.int .i64 n.ref.r,.bool n.ref.ac,.bool n.ref.ar]] w fun e w'=>e = .returned (.bool true)∧Below w.heap.size w w' from fun w=>by rw[← q1];exact Bd n.ref.sh n.ref.c n.ref.r n.ref.ac n.ref.ar w hs);have HT2:=ae (show ∀w,Calls Tryz.prog 108 #[.agg #[.string n.af.sh,.int .i64 n.af.c,.int .i64 n.af.r,.bool n.af.ac,.bool n.af.ar]] w fun e w'=>e = .returned (.bool true)∧Below w.heap.size w w' from fun w=>by rw[← q2];exact Bd n.af.sh n.af.c n.af.r n.af.ac n.af.ar w ht);have HT3:=ae (fun w=>Si n.ref.sh n.af.sh n.ref.c n.ref.r n.af.c n.af.r n.ref.ac n.ref.ar n.af.ac n.af.ar w)
 first
  | go_region_held3 (fun w'=>w'.cell? ⟨w.heap.size,3,none⟩=some (.string n.ref.sh)∧w'.cell? ⟨w.heap.size,4,none⟩=some (.int .i64 n.ref.c)∧w'.cell? ⟨w.heap.size,5,none⟩=some (.int .i64 n.ref.r)∧w'.cell? ⟨w.heap.size,6,none⟩=some (.bool n.ref.ac)∧w'.cell? ⟨w.heap.size,7,none⟩=some (.bool n.ref.ar)∧w'.cell? ⟨w.heap.size,8,none⟩=some (.string n.af.sh)∧w'.cell? ⟨w.heap.size,9,none⟩=some (.int .i64 n.af.c)∧w'.cell? ⟨w.heap.size,10,none⟩=some (.int .i64 n.af.r)∧w'.cell? ⟨w.heap.size,11,none⟩=some (.bool n.af.ac)∧w'.cell? ⟨w.heap.size,12,none⟩=some (.bool n.af.ar)) (go_keep) (first|(go_at_call 108;((with_reducible refine(HT1.o _).mono ?_);rintro e w2 ⟨rfl,h1⟩;have tC:=ae (jb.o.drew.below h1 jb.o.lt);have bZ:=ae (HX.o.drew.below h1 HX.o.lt);have HB2:=ae (HB.o.drew.trans (h1.mono HB.o.size));clear h1;obtain⟨z0,z1,z2,z3,z4,z5,z6,z7,Df,z9,Dc,De,z12,Fg⟩:=tC.o.cells;obtain⟨g0,g1,g2,g3,g4,g5,g6,g7,g8,g9,g10,g11,g12,g13⟩:=tC.o.bS;obtain⟨t0,t1,t2,t3,t4,t5,t6,t7,t8,t9,t10,t11,t12,t13⟩:=bZ.o.cells))|(go_at_call 108;((with_reducible refine(HT2.o _).mono ?_);rintro e w3 ⟨rfl,h1⟩;have Af:=ae (tC.o.below h1 tC.o.lt);have eF:=ae (bZ.o.below h1 bZ.o.lt);have HB3:=ae (HB2.o.trans (h1.mono HB2.o.size));clear h1;obtain⟨z0,z1,z2,z3,z4,z5,z6,z7,Df,z9,Dc,De,z12,Fg⟩:=Af.o.cells;obtain⟨g0,g1,g2,g3,g4,g5,g6,g7,g8,g9,g10,g11,g12,g13⟩:=Af.o.bS;obtain⟨t0,t1,t2,t3,t4,t5,t6,t7,t8,t9,t10,t11,t12,t13⟩:=eF.o.cells))|(go_at_call 125;((with_reducible refine(HT3.o _).mono ?_);rintro e w4 ⟨rfl,h1⟩;have DN:=ae (Af.o.below h1 Af.o.lt);have nA:=ae (eF.o.below h1 eF.o.lt);have dC:=ae (HB3.o.trans (h1.mono HB3.o.size));clear h1;obtain⟨z0,z1,z2,z3,z4,z5,z6,z7,Df,z9,Dc,De,z12,Fg⟩:=DN.o.cells;obtain⟨g0,g1,g2,g3,g4,g5,g6,g7,g8,g9,g10,g11,g12,g13⟩:=DN.o.bS;obtain⟨t0,t1,t2,t3,t4,t5,t6,t7,t8,t9,t10,t11,t12,t13⟩:=nA.o.cells)))
  | fail
 all_goals go_wp2_with fail
 all_goals exact bodyPost_ret (rF (DN.o.wR ⟨0,0,⟨#[]⟩,n.ref,n.af,[]⟩ (.slice none 0 0)) _ _ _ 2 3 wU rfl rfl) rfl ⟨rfl,wF dC.o (by have:=HB.o.size;omega) _ _ _ _ _ _ _ _ _ _ _ _ _ _⟩
theorem ZQ (w:World)(n:Nd)(h1:¬ n.kind=1)(h2:¬ n.kind=2)(h3:¬ n.kind=3)(h5:¬ n.kind=5)(h6:¬ n.kind=6)(h7:¬ n.kind=7)(h4:n.kind=4)(A:Option Addr)(m c:Nat):Calls Tryz.prog 92 #[.agg #[.int .i64 n.kind,.int .i64 n.num,.string n.text,.string n.ref.sh,.int .i64 n.ref.c,.int .i64 n.ref.r,.bool n.ref.ac,.bool n.ref.ar,.string n.af.sh,.int .i64 n.af.c,.int .i64 n.af.r,.bool n.af.ac,.bool n.af.ar,.slice A m c]] w fun e w'=>e = .returned (.tuple #[.agg (bU Nd.zero (.slice none 0 0)),.bool true])∧Below w.heap.size w w':=by
 obtain⟨w1,hw1,hx2,hy,hb,hb2⟩:=yj w n A m c;have HB:=ae hb;obtain⟨x0,x1,x2,x3,x4,x5,x6,x7,ay,aO,aL,aM,aN,aJ⟩:=hx2.cells;have e1:(n.kind == 1)=false:=aA.2 h1;have e2:(n.kind == 2)=false:=aA.2 h2;have e3:(n.kind == 3)=false:=aA.2 h3;have e5:(n.kind == 5)=false:=aA.2 h5;have e6:(n.kind == 6)=false:=aA.2 h6;have e7:(n.kind == 7)=false:=aA.2 h7;clear h1 h2 h3 h5 h6 h7;have e4:(n.kind == 4)=true:=bA.2 h4;clear h4;go_enter Tryz.func92,Tryz.ntmps92;go_upto_region 14 with (fail)
 clear hw1 hb;obtain⟨y0,y1,y2,y3,y4,fQ,y6,mG,oC,vV,vS,vT,vU,y13⟩:=hy.cells;obtain⟨f0,f1,f2,f3,f4,f5,f6,f7,f8,f9,f10,f11,f12,f13⟩:=hy.bS;have jb:=ae hy;have HX:=ae hx2;clear hx2 hy;go_wp2_with (go_at_call 127;((with_reducible refine(EC _ _).mono ?_);rintro e w2 ⟨rfl,rfl⟩))
 all_goals exact bodyPost_ret (rF (jb.o.wR Nd.zero (.slice none 0 0)) _ _ _ 2 3 wU rfl rfl) rfl ⟨rfl,wF HB.o (by have:=HB.o.size;omega) _ _ _ _ _ _ _ _ _ _ _ _ _ _⟩
theorem ZR (w:World)(n:Nd)(h1:¬ n.kind=1)(h2:¬ n.kind=2)(h3:¬ n.kind=3)(h5:¬ n.kind=5)(h6:¬ n.kind=6)(h7:¬ n.kind=7)(h4:n.kind=8)(A:Option Addr)(m c:Nat):Calls Tryz.prog 92 #[.agg #[.int .i64 n.kind,.int .i64 n.num,.string n.text,.string n.ref.sh,.int .i64 n.ref.c,.int .i64 n.ref.r,.bool n.ref.ac,.bool n.ref.ar,.string n.af.sh,.int .i64 n.af.c,.int .i64 n.af.r,.bool n.af.ac,.bool n.af.ar,.slice A m c]] w fun e w'=>e = .returned (.tuple #[.agg (bU Nd.zero (.slice none 0 0)),.bool true])∧Below w.heap.size w w':=by
 obtain⟨w1,hw1,hx2,hy,hb,hb2⟩:=yj w n A m c;have HB:=ae hb;obtain⟨x0,x1,x2,x3,x4,x5,x6,x7,ay,aO,aL,aM,aN,aJ⟩:=hx2.cells;have e1:(n.kind == 1)=false:=aA.2 h1;have e2:(n.kind == 2)=false:=aA.2 h2;have e3:(n.kind == 3)=false:=aA.2 h3;have e5:(n.kind == 5)=false:=aA.2 h5;have e6:(n.kind == 6)=false:=aA.2 h6;have e7:(n.kind == 7)=false:=aA.2 h7;clear h1 h2 h3 h5 h6 h7;have e4:(n.kind == 4)=false:=by rw[h4];rfl
 have e8:(n.kind == 8)=true:=bA.2 h4;clear h4;go_enter Tryz.func92,Tryz.ntmps92;go_upto_region 14 with (fail)
 clear hw1 hb;obtain⟨y0,y1,y2,y3,y4,fQ,y6,mG,oC,vV,vS,vT,vU,y13⟩:=hy.cells;obtain⟨f0,f1,f2,f3,f4,f5,f6,f7,f8,f9,f10,f11,f12,f13⟩:=hy.bS;have jb:=ae hy;have HX:=ae hx2;clear hx2 hy;go_wp2_with (go_at_call 127;((with_reducible refine(EC _ _).mono ?_);rintro e w2 ⟨rfl,rfl⟩))
 all_goals exact bodyPost_ret (rF (jb.o.wR Nd.zero (.slice none 0 0)) _ _ _ 2 3 wU rfl rfl) rfl ⟨rfl,wF HB.o (by have:=HB.o.size;omega) _ _ _ _ _ _ _ _ _ _ _ _ _ _⟩
theorem ZT (w:World)(n:Nd)(h1:¬ n.kind=1)(h2:¬ n.kind=2)(h3:¬ n.kind=3)(h5:¬ n.kind=5)(h6:¬ n.kind=6)(h7:¬ n.kind=7)(h4:¬ n.kind=4)(h8:¬ n.kind=8)(A:Option Addr)(m c:Nat):Calls Tryz.prog 92 #[.agg #[.int .i64 n.kind,.int .i64 n.num,.string n.text,.string n.ref.sh,.int .i64 n.ref.c,.int .i64 n.ref.r,.bool n.ref.ac,.bool n.ref.ar,.string n.af.sh,.int .i64 n.af.c,.int .i64 n.af.r,.bool n.af.ac,.bool n.af.ar,.slice A m c]] w fun e w'=>e = .returned (.tuple #[.agg (bU Nd.zero (.slice none 0 0)),.bool (wY n.kind)])∧Below w.heap.size w w':=by
 obtain⟨w1,hw1,hx2,hy,hb,hb2⟩:=yj w n A m c;have HB:=ae hb;obtain⟨x0,x1,x2,x3,x4,x5,x6,x7,ay,aO,aL,aM,aN,aJ⟩:=hx2.cells;have e1:(n.kind == 1)=false:=aA.2 h1;have e2:(n.kind == 2)=false:=aA.2 h2;have e3:(n.kind == 3)=false:=aA.2 h3;have e5:(n.kind == 5)=false:=aA.2 h5;have e6:(n.kind == 6)=false:=aA.2 h6;have e7:(n.kind == 7)=false:=aA.2 h7;clear h1 h2 h3 h5 h6 h7;have e4:(n.kind == 4)=false:=aA.2 h4;have e8:(n.kind == 8)=false:=aA.2 h8;clear h4 h8;go_enter Tryz.func92,Tryz.ntmps92;go_upto_region 14 with (fail)
 clear hw1 hb;obtain⟨y0,y1,y2,y3,y4,fQ,y6,mG,oC,vV,vS,vT,vU,y13⟩:=hy.cells;obtain⟨f0,f1,f2,f3,f4,f5,f6,f7,f8,f9,f10,f11,f12,f13⟩:=hy.bS;have jb:=ae hy;have HX:=ae hx2;clear hx2 hy;go_wp2_with (go_at_call 127;((with_reducible refine(EC _ _).mono ?_);rintro e w2 ⟨rfl,rfl⟩))
 all_goals exact bodyPost_ret (rF (jb.o.wR Nd.zero (.slice none 0 0)) _ _ _ 2 3 wU rfl rfl) rfl ⟨rfl,wF HB.o (by have:=HB.o.size;omega) _ _ _ _ _ _ _ _ _ _ _ _ _ _⟩
def ig(a b:bL):Bool:=decide (a.sh=b.sh)&&(decide (a.c=b.c)&&(decide (a.r=b.r)&&((a.ac == b.ac)&&(a.ar == b.ar))))
theorem D8 (a b:bL):ig a b=true↔a=b:=by
 unfold ig;simp only[dH,aK,bA];cases a;cases b
 simp
theorem ZM {a b:bL}(h1:a.sh.toList=b.sh.toList)(h2:a.c=b.c)(h3:a.r=b.r)(h4:a.ac=b.ac)(h5:a.ar=b.ar):ig a b=true:=by
 have hs:a.sh=b.sh:=by
  by_cases h:a.sh=b.sh
  · exact h
  · exact absurd h1 (rM _ _ h)
 rw[D8];cases a;cases b
 simp only at hs h2 h3 h4 h5;rw[hs,h2,h3,h4,h5]
def vF(n:Nd)(m:Nat):Bool:=okF n&&(hkB n.kind m&&(decide (n.num=(iZ n).num)&&(decide (n.text=(iZ n).text)&&(ig n.ref (iZ n).ref&&ig n.af (iZ n).af))))
theorem KH(a:bL):ig a a=true:=(D8 a a).2 rfl
theorem Mk (r:bL):fO r=ig r bL.zero:=by
 obtain⟨sh,c,r,ac,ar⟩:=r;unfold fO ig bL.zero;simp only;rw[Bool.eq_iff_iff];simp only[dH,aK,bA,Bool.not_eq_true'];constructor
 · rintro⟨⟨h1,h2,h3⟩,h4,h5⟩;exact⟨h1,h2,h3,h4,h5⟩
 · rintro⟨h1,h2,h3,h4,h5⟩;exact⟨⟨h1,h2,h3⟩,h4,h5⟩
def Cz (n:Nd):Bool :=
 if n.kind=1 then decide (0≤n.num)else if n.kind=2 then mF (sb n.text)else if n.kind=3 then decide (n.num=0∨n.num=1)
 else if n.kind=5 then bQ n.ref else if n.kind=6 then bQ n.ref&&(bQ n.af&&fu n.ref n.af)else if n.kind=7 then j4 n.text else true
def u6(n:Nd):Bool:=decide (n.kind=1∨n.kind=3∨n.num=0)
def ve(n:Nd):Bool:=decide (n.kind=2∨n.kind=7∨n.text=⟨#[]⟩)
def u7(n:Nd):Bool:=decide (n.kind=5∨n.kind=6)||ig n.ref bL.zero
def vg(n:Nd):Bool:=decide (n.kind=6)||ig n.af bL.zero
theorem Hl (n:Nd):(n.kind=1∧iZ n={ Nd.zero with num:=n.num })∨(n.kind=2∧iZ n={ Nd.zero with text:=n.text })∨(n.kind=3∧iZ n={ Nd.zero with num:=n.num })∨(n.kind=5∧iZ n={ Nd.zero with ref:=n.ref })∨(n.kind=6∧iZ n=⟨0,0,⟨#[]⟩,n.ref,n.af,[]⟩)∨(n.kind=7∧iZ n={ Nd.zero with text:=n.text })∨(¬ n.kind=1∧¬ n.kind=2∧¬ n.kind=3∧¬ n.kind=5∧¬ n.kind=6∧¬ n.kind=7∧iZ n=Nd.zero):=by
 unfold iZ;by_cases h1:n.kind=1
 · exact Or.inl ⟨h1,by rw[ah h1]⟩
 by_cases h2:n.kind=2
 · exact Or.inr <| Or.inl ⟨h2,by rw[ag h1,ah h2]⟩
 by_cases h3:n.kind=3
 · exact Or.inr <| Or.inr <| Or.inl ⟨h3,by rw[ag h1,ag h2,ah h3]⟩
 by_cases h5:n.kind=5
 · exact Or.inr <| Or.inr <| Or.inr <| Or.inl ⟨h5,by rw[ag h1,ag h2,ag h3,ah h5]⟩
 by_cases h6:n.kind=6
 · exact Or.inr <| Or.inr <| Or.inr <| Or.inr <| Or.inl ⟨h6,by rw[ag h1,ag h2,ag h3,ag h5,ah h6]⟩
 by_cases h7:n.kind=7
 · exact Or.inr <| Or.inr <| Or.inr <| Or.inr <| Or.inr <| Or.inl ⟨h7,by rw[ag h1,ag h2,ag h3,ag h5,ag h6,ah h7]⟩
 exact Or.inr <| Or.inr <| Or.inr <| Or.inr <| Or.inr <| Or.inr <| ⟨h1,h2,h3,h5,h6,h7,by rw[ag h1,ag h2,ag h3,ag h5,ag h6,ag h7]⟩
theorem adM (n:Nd):decide (n.num=(iZ n).num)=u6 n:=by
 rcases Hl n with ⟨h,e⟩|⟨h,e⟩|⟨h,e⟩|⟨h,e⟩|⟨h,e⟩|⟨h,e⟩|⟨h1,h2,h3,h5,h6,h7,e⟩
 · rw[e];unfold u6;rw[show decide (n.num=n.num)=true from aQ rfl];symm;rw[aK];first|exact .inl h|exact .inr (.inl h)
 · rw [e];unfold u6;show decide (n.num=0)=_;rw[decide_eq_decide];constructor
   · intro g;exact .inr (.inr g)
   · rintro(g|g|g)
     · omega
     · omega
     · exact g
 · rw[e];unfold u6;rw[show decide (n.num=n.num)=true from aQ rfl];symm;rw[aK];first|exact .inl h|exact .inr (.inl h)
 · rw [e];unfold u6;show decide (n.num=0)=_;rw[decide_eq_decide];constructor
   · intro g;exact .inr (.inr g)
   · rintro(g|g|g)
     · omega
     · omega
     · exact g
 · rw [e];unfold u6;show decide (n.num=0)=_;rw[decide_eq_decide];constructor
   · intro g;exact .inr (.inr g)
   · rintro(g|g|g)
     · omega
     · omega
     · exact g
 · rw [e];unfold u6;show decide (n.num=0)=_;rw[decide_eq_decide];constructor
   · intro g;exact .inr (.inr g)
   · rintro(g|g|g)
     · omega
     · omega
     · exact g
 · rw [e];unfold u6;show decide (n.num=0)=_;rw[decide_eq_decide];constructor
   · intro g;exact .inr (.inr g)
   · rintro(g|g|g)
     · omega
     · omega
     · exact g
theorem adO (n:Nd):decide (n.text=(iZ n).text)=ve n:=by
 rcases Hl n with ⟨h,e⟩|⟨h,e⟩|⟨h,e⟩|⟨h,e⟩|⟨h,e⟩|⟨h,e⟩|⟨h1,h2,h3,h5,h6,h7,e⟩
 · rw [e];unfold ve;show decide (n.text=⟨#[]⟩)=_;rw[decide_eq_decide];constructor
   · intro g;exact .inr (.inr g)
   · rintro(g|g|g)
     · omega
     · omega
     · exact g
 · rw[e];unfold ve;rw[show decide (n.text=n.text)=true from aQ rfl];symm;rw[aK];first|exact .inl h|exact .inr (.inl h)
 · rw [e];unfold ve;show decide (n.text=⟨#[]⟩)=_;rw[decide_eq_decide];constructor
   · intro g;exact .inr (.inr g)
   · rintro(g|g|g)
     · omega
     · omega
     · exact g
 · rw [e];unfold ve;show decide (n.text=⟨#[]⟩)=_;rw[decide_eq_decide];constructor
   · intro g;exact .inr (.inr g)
   · rintro(g|g|g)
     · omega
     · omega
     · exact g
 · rw [e];unfold ve;show decide (n.text=⟨#[]⟩)=_;rw[decide_eq_decide];constructor
   · intro g;exact .inr (.inr g)
   · rintro(g|g|g)
     · omega
     · omega
     · exact g
 · rw[e];unfold ve;rw[show decide (n.text=n.text)=true from aQ rfl];symm;rw[aK];first|exact .inl h|exact .inr (.inl h)
 · rw [e];unfold ve;show decide (n.text=⟨#[]⟩)=_;rw[decide_eq_decide];constructor
   · intro g;exact .inr (.inr g)
   · rintro(g|g|g)
     · omega
     · omega
     · exact g
theorem adN (n:Nd):ig n.ref (iZ n).ref=u7 n:=by
 rcases Hl n with ⟨h,e⟩|⟨h,e⟩|⟨h,e⟩|⟨h,e⟩|⟨h,e⟩|⟨h,e⟩|⟨h1,h2,h3,h5,h6,h7,e⟩
 · rw[e];unfold u7;show ig n.ref bL.zero=_;rw[aS (by omega)];rfl
 · rw[e];unfold u7;show ig n.ref bL.zero=_;rw[aS (by omega)];rfl
 · rw[e];unfold u7;show ig n.ref bL.zero=_;rw[aS (by omega)];rfl
 · rw[e];unfold u7;rw[show ig n.ref n.ref=true from KH _,aQ (by omega)];rfl
 · rw[e];unfold u7;rw[show ig n.ref n.ref=true from KH _,aQ (by omega)];rfl
 · rw[e];unfold u7;show ig n.ref bL.zero=_;rw[aS (by omega)];rfl
 · rw[e];unfold u7;show ig n.ref bL.zero=_;rw[aS (by omega)];rfl
theorem adP (n:Nd):ig n.af (iZ n).af=vg n:=by
 rcases Hl n with ⟨h,e⟩|⟨h,e⟩|⟨h,e⟩|⟨h,e⟩|⟨h,e⟩|⟨h,e⟩|⟨h1,h2,h3,h5,h6,h7,e⟩
 · rw[e];unfold vg;show ig n.af bL.zero=_;rw[aS (by omega)];rfl
 · rw[e];unfold vg;show ig n.af bL.zero=_;rw[aS (by omega)];rfl
 · rw[e];unfold vg;show ig n.af bL.zero=_;rw[aS (by omega)];rfl
 · rw[e];unfold vg;show ig n.af bL.zero=_;rw[aS (by omega)];rfl
 · rw[e];unfold vg;rw[show ig n.af n.af=true from KH _,aQ (by omega)];rfl
 · rw[e];unfold vg;show ig n.af bL.zero=_;rw[aS (by omega)];rfl
 · rw[e];unfold vg;show ig n.af bL.zero=_;rw[aS (by omega)];rfl
theorem acE (n:Nd):aH n=((u6 n&&(ve n&&(u7 n&&vg n)))&&Cz n):=by
 unfold aH u6 ve u7 vg;rw[Mk,Mk]
 have hk:(if n.kind=1 then decide (0≤n.num)else if n.kind=3 then decide (n.num=0∨n.num=1)else if n.kind=2 then mF (sb n.text)else if n.kind=7 then j4 n.text else if n.kind=5 then bQ n.ref else if n.kind=6 then bQ n.ref&&(bQ n.af&&fu n.ref n.af)else true)=Cz n:=by
  unfold Cz;by_cases h1:n.kind=1
  · rw[ah h1,ah h1]
  by_cases h2:n.kind=2
  · rw[ag h1,ag (by omega),ah h2,ag h1,ah h2]
  by_cases h3:n.kind=3
  · rw[ag h1,ah h3,ag h1,ag h2,ah h3]
  by_cases h5:n.kind=5
  · rw[ag h1,ag h3,ag h2,ag (by omega),ah h5,ag h1,ag h2,ag h3,ah h5]
  by_cases h6:n.kind=6
  · rw[ag h1,ag h3,ag h2,ag (by omega),ag h5,ah h6,ag h1,ag h2,ag h3,ag h5,ah h6]
  by_cases h7:n.kind=7
  · rw[ag h1,ag h3,ag h2,ah h7,ag h1,ag h2,ag h3,ag h5,ag h6,ah h7]
  rw[ag h1,ag h3,ag h2,ag h7,ag h5,ag h6,ag h1,ag h2,ag h3,ag h5,ag h6,ag h7]
 rw[hk];by_cases q1:n.kind=1∨n.kind=3∨n.num=0
 · by_cases q2 : n.kind=2∨n.kind=7∨n.text=⟨#[]⟩
   · by_cases q3:n.kind=5∨n.kind=6
     · by_cases q4:n.kind=6
       · rw [aQ q1,aQ q2,aQ q3,aQ q4,ag]
         · rfl
         · rintro (g|g|g|g)
           · omega
           · rcases q2 with q|q|q
             · exact g.1 q
             · exact g.2.1 q
             · exact g.2.2 q
           · omega
           · omega
       · cases q5:ig n.af bL.zero
         · rw[ah (.inr (.inr (.inr ⟨q4,rfl⟩))),aS q4,Bool.or_false,Bool.and_false,Bool.and_false,Bool.and_false];rfl
         · rw [aQ q1,aQ q2,aQ q3,aS q4,ag]
           · rfl
           · rintro (g|g|g|g)
             · omega
             · rcases q2 with q|q|q
               · exact g.1 q
               · exact g.2.1 q
               · exact g.2.2 q
             · omega
             · cases g.2
     · cases q5 : ig n.ref bL.zero
       · rw[ah (.inr (.inr (.inl ⟨by omega,by omega,rfl⟩))),aS q3,Bool.or_false,Bool.false_and,Bool.and_false,Bool.and_false];rfl
       · cases q6:ig n.af bL.zero
         · rw[ah (.inr (.inr (.inr ⟨by omega,rfl⟩))),aS (show ¬ n.kind=6 by omega),Bool.or_false,Bool.and_false,Bool.and_false,Bool.and_false];rfl
         · rw [aQ q1,aQ q2,aS q3,ag]
           · cases decide (n.kind=6) <;> rfl
           · rintro (g|g|g|g)
             · omega
             · rcases q2 with q|q|q
               · exact g.1 q
               · exact g.2.1 q
               · exact g.2.2 q
             · cases g.2.2
             · cases g.2
   · rw[ah (.inr (.inl ⟨fun h=>q2 (.inl h),fun h=>q2 (.inr (.inl h)),fun h=>q2 (.inr (.inr h))⟩)),aS q2,Bool.false_and,Bool.and_false];rfl
 · rw[ah (.inl ⟨fun h=>q1 (.inl h),fun h=>q1 (.inr (.inl h)),fun h=>q1 (.inr (.inr h))⟩),aS q1];rfl
theorem acf (n:Nd)(m:Nat):(okF n&&hkB n.kind m)=(Cz n&&(decide (jQ n.kind = -1)||decide (jQ n.kind=m))):=by
 have c0:decide ((0:Int)=(m:Int))=decide (m=0):=by rw[decide_eq_decide];omega
 have c1:decide ((1:Int)=(m:Int))=decide (m=1):=by rw[decide_eq_decide];omega
 have c2:decide ((2:Int)=(m:Int))=decide (m=2):=by rw[decide_eq_decide];omega
 have c3:decide ((-2:Int)=(m:Int))=false:=by rw[jq];omega
 unfold okF Cz hkB jQ wY;by_cases h1:n.kind=1
 · rw[ah h1,ah h1,ag (show ¬ n.kind=7 by omega),ag (show ¬ n.kind=8 by omega),aS (show ¬ (9≤n.kind∧n.kind≤19)by omega),ah (show 1≤n.kind∧n.kind≤6 by omega),c0];rfl
 by_cases h2:n.kind=2
 · rw[ag h1,ah h2,ag h1,ah h2,ag (show ¬ n.kind=7 by omega),ag (show ¬ n.kind=8 by omega),aS (show ¬ (9≤n.kind∧n.kind≤19)by omega),ah (show 1≤n.kind∧n.kind≤6 by omega),c0];rfl
 by_cases h3:n.kind=3
 · rw[ag h1,ag h2,ah h3,ag h1,ag h2,ah h3,ag (show ¬ n.kind=7 by omega),ag (show ¬ n.kind=8 by omega),aS (show ¬ (9≤n.kind∧n.kind≤19)by omega),ah (show 1≤n.kind∧n.kind≤6 by omega),c0];rfl
 by_cases h5:n.kind=5
 · rw[ag h1,ag h2,ag h3,ah h5,ag h1,ag h2,ag h3,ah h5,ag (show ¬ n.kind=7 by omega),ag (show ¬ n.kind=8 by omega),aS (show ¬ (9≤n.kind∧n.kind≤19)by omega),ah (show 1≤n.kind∧n.kind≤6 by omega),c0];rfl
 by_cases h6:n.kind=6
 · rw[ag h1,ag h2,ag h3,ag h5,ah h6,ag h1,ag h2,ag h3,ag h5,ah h6,ag (show ¬ n.kind=7 by omega),ag (show ¬ n.kind=8 by omega),aS (show ¬ (9≤n.kind∧n.kind≤19)by omega),ah (show 1≤n.kind∧n.kind≤6 by omega),c0];rfl
 by_cases h7:n.kind=7
 · rw[ag h1,ag h2,ag h3,ag h5,ag h6,ah h7,ag h1,ag h2,ag h3,ag h5,ag h6,ah h7,ah h7,ag (show ¬ (1≤n.kind∧n.kind≤6)by omega),ah h7];rfl
 rw[ag h1,ag h2,ag h3,ag h5,ag h6,ag h7,ag h1,ag h2,ag h3,ag h5,ag h6,ag h7,ag h7,gL];by_cases h8:n.kind=8
 · rw[ah h8,ag (show ¬ (1≤n.kind∧n.kind≤6)by omega),ag h7,ah h8,c1,aQ (show n.kind=4∨n.kind=8 by omega)];rfl
 by_cases h9:9≤n.kind∧n.kind≤19
 · rw[ag h8,ag (show ¬ (1≤n.kind∧n.kind≤6)by omega),ag h7,ag h8,ah h9,c2,aQ h9,ah rfl,Bool.or_true];rfl
 by_cases h4:n.kind=4
 · rw[ag h8,ah (show 1≤n.kind∧n.kind≤6 by omega),c0,aQ (show n.kind=4∨n.kind=8 by omega),aS h9];rfl
 rw[ag h8,ag (show ¬ (1≤n.kind∧n.kind≤6)by omega),ag h7,ag h8,ag h9,c3,aS (show ¬ (n.kind=4∨n.kind=8)by omega),aS h9];rfl
theorem Sc (n:Nd):vF n n.kids.length=dm n:=by
 unfold vF dm;rw[adM,adO,adN,adP,acE];have h:=acf n n.kids.length;revert h;generalize (decide (jQ n.kind = -1)||decide (jQ n.kind=n.kids.length))=d;generalize hkB n.kind n.kids.length=c;cases okF n <;> cases Cz n <;> cases c <;> cases d <;> cases u6 n <;> cases ve n <;> cases u7 n <;> cases vg n <;> simp
def iM (w:World)(B:Nat)(v:Value)(xs:List Int):Prop :=
 ∃A cap,v = .slice A xs.length cap∧xs.length≤cap∧cap≤maxLen∧(xs=[]∨∃pb po,A=some ⟨pb,po,none⟩∧pb<B∧∀(j:Nat)(x:Int),xs[j]? = some x→w.cell? ⟨pb,po+j,none⟩=some (.int .i64 x))
theorem iM.below {C:Nat}(h:iM w B v xs)(hb:Below C w w')(hC:B≤C):iM w' B v xs:=by
 obtain⟨A,cap,h1,h2,h3,h4⟩:=h;refine⟨A,cap,h1,h2,h3,h4.imp id ?_⟩;rintro⟨pb,po,e1,e2,e3⟩;exact⟨pb,po,e1,e2,fun j x hj=>(hb.cell (p:=⟨pb,po+j,none⟩) (by show pb<C;omega)).trans (e3 j x hj)⟩
theorem iM.mono {C:Nat}(h:iM w B v xs)(hC:B≤C):iM w C v xs:=by
 obtain⟨A,cap,h1,h2,h3,h4⟩:=h;refine⟨A,cap,h1,h2,h3,h4.imp id ?_⟩;rintro⟨pb,po,e1,e2,e3⟩;exact⟨pb,po,e1,by omega,e3⟩
theorem T9 {n:Nat}(h:Own (aI .i64) 3 w base (.slice (some ⟨g,0,none⟩) n cap) st)(j:Nat)(x:Int)(hj:st[j]? = some x):w.cell? ⟨g,j,none⟩=some (.int .i64 x):=by
 have hl:=(dS.1 hj).1;have h1:=Own.zi h j hl;rw[jL,hj]at h1;exact h1
theorem iM.tail (h:Own (aI .i64) 3 w base (.slice (some ⟨g,0,none⟩) st.length cap) st)(f:Nat)(hf:f≤st.length)(hc:st.length≤cap)(hm:cap≤maxLen)(hg:g<w.heap.size):iM w w.heap.size (.slice (if cap=f then some ⟨g,0,none⟩else some ⟨g,f,none⟩) (st.length - f) (cap - f)) (st.drop f):=by
 refine⟨_,_,by rw[lG],by rw[lG];omega,by omega, ?_⟩;by_cases h0:st.drop f=[]
 · exact .inl h0
 · have hne:¬ cap=f:=fun e=>h0 (List.drop_of_length_le (by omega))
   refine .inr ⟨g,f,by rw[ag hne],hg,fun j x hj => ?_⟩;rw[List.getElem?_drop]at hj;exact T9 h (f+j) x hj
theorem Ub (h:Own (aI .i64) 3 w base (.slice (some ⟨g,0,none⟩) st.length cap) st)(k:Nat)(hk:k≤st.length):Own (aI .i64) 3 w base (.slice (some ⟨g,0,none⟩) k cap) (st.take k):=by
 have hl:(st.take k).length=k:=by rw[gX];omega
 rcases h.2 with ⟨h1,_⟩|⟨g',qf,cur,h1,h2,h3,h4,h5,h6,h7⟩
 · cases h1
 · injection h1 with e1 e2 e3
   injection e1 with e1;injection e1 with e1;subst e1;subst e3;refine⟨by rw[Enc.mP],.inr ⟨g,cap,cur,by rw[hl],h2,h3,by omega,h5,h6, ?_⟩⟩;rw[hl,wD,List.map_take, ← wD, ← h7,List.take_take,Nat.mul_one,Nat.mul_one];congr 1;omega
theorem VN {ys:List Int}{k:Nat}{x:Int}(h:xs.take k=ys.take k)(hx:xs[k]? = some x)(hy:ys[k]? = some x):xs.take (k+1)=ys.take (k+1):=by
 rw[List.take_add_one,List.take_add_one,h,hx,hy]
theorem Qq (w:World)(B:Nat)(v1 v2:Value)(xs ys:List Int)(h1:iM w B v1 xs)(h2:iM w B v2 ys):Calls Tryz.prog 62 #[v1,v2] w fun e w'=>e = .returned (.bool (decide (xs=ys)))∧Below w.heap.size w w':=by
 obtain⟨A1,gm,rfl,hc1,hm1,a1⟩:=h1;obtain⟨A2,qg,rfl,hc2,hm2,a2⟩:=h2;unfold maxLen at hm1 hm2;obtain⟨n1,hn1⟩:∃n1,xs.length=n1:=⟨_,rfl⟩;obtain⟨n2,hn2⟩:∃n2,ys.length=n2:=⟨_,rfl⟩;rw[hn1]at hc1 ⊢;rw[hn2]at hc2 ⊢;by_cases hl:n1=n2
 · subst hl
   have HA1:=ae a1;have HA2:=ae a2;have dW:=ae hn1;have cZ:=ae hn2;clear a1 a2 hn1 hn2;go_enter Tryz.func62,Tryz.ntmps62;go_upto_region 4 with (fail)
   go_loopw [13] (fun i wr=>∃(k m:Nat),k≤n1∧i = .int .i64 (k:Int)∧Hid (xs.take k=ys.take k)∧w.drewN m=wr)
    (fun i _=>n1 - (intOf i).toNat)
   case atStart=>exact⟨0,0,eP _,rfl,ae rfl,rfl⟩
   case round =>
    obtain⟨k,m,hk,rfl,HT,rfl⟩:=hrel;by_cases hlt:k<n1
    · have hki:(k:Int)<(n1:Int):=by omega
      obtain⟨x,hx⟩:∃x,xs[k]? = some x:=⟨_,dL (by rw[dW.o];exact hlt)⟩;obtain⟨y,hy⟩:∃y,ys[k]? = some y:=⟨_,dL (by rw[cZ.o];exact hlt)⟩;rcases HA1.o with e|⟨p1,o1,rfl, -,c1⟩
      · exfalso;rw[e]at hx;simp at hx
      rcases HA2.o with e|⟨p2,o2,rfl, -,c2⟩
      · exfalso;rw[e]at hy;simp at hy
      have k1:=c1 k x hx;have k2:=c2 k y hy;have HX:=ae hx;have jb:=ae hy;clear c1 c2 hx hy;by_cases hxy:x=y
      · have ex:(x != y)=false:=by rw[hxy];simp
        have HT2:=ae (VN HT.o HX.o (by rw[hxy];exact jb.o));clear hxy;go_wp2_with fail
        go_quiet (fail)
        go_wp2_with fail
        go_roundw
        case rel=>exact⟨k+1,_,by omega,by go_num,HT2,by first|rfl|trivial⟩
        case measure=>simp[intOf];omega
      · have ex:(x != y)=true:=by rw[bne_iff_ne];exact hxy
        have HR:=ae (show ¬ xs=ys from fun e=>hxy (by have h1:=HX.o;rw[e,jb.o]at h1;exact(dU h1).symm));clear hxy;go_wp2_with fail
        go_quiet (fail)
        go_wp2_with fail
        go_ret;exact⟨by rw[aS HR.o] <;> rfl,qj (qj (ak _ _) m) nq⟩
    · have hki:¬ (k:Int)<(n1:Int):=by omega
      have HR:=ae (show xs=ys by
       have h1:=HT.o;rw[pW (by rw[dW.o];omega),pW (by rw[cZ.o];omega)]at h1;exact h1)
      go_wp2_with fail
      go_ret;exact⟨by rw[aQ HR.o] <;> rfl,qj (ak _ _) m⟩
 · have hne:((n1:Int) != (n2:Int))=true:=by rw[bne_iff_ne];omega
   have HR:=ae (show ¬ xs=ys from fun e=>hl (by rw[← hn1, ← hn2,e]));clear a1 a2 hn1 hn2;go_enter Tryz.func62,Tryz.ntmps62;go_wp2_with fail
   go_ret;exact⟨by rw[aS HR.o] <;> rfl,ak _ _⟩
def fI (w:World)(B:Nat)(v:Value)(vs:List (Nd × Value)):Prop :=
 (∃A cap,v = .slice A vs.length cap∧(vs=[]∨∃pb po,A=some ⟨pb,po,none⟩∧pb<B∧∀(i:Nat)(n:Nd)(k:Value),vs[i]? = some (n,k)→∀j,j<14→w.cell? ⟨pb,po+i*14+j,none⟩=(bU n k).toList[j]?))∧∀p∈vs,iM w B p.2 p.1.kids
def SZ(vs:List (Nd × Value)):Prop:=vs.length≤1000∧∀p∈vs,p.1.text.size≤1000000∧p.1.ref.sh.size≤1000000∧p.1.af.sh.size≤1000000
theorem iM.se (h:iM w B v xs):iF (aI .i64) w B v xs:=by
 obtain⟨A,cap,h1,h2,h3,h4⟩:=h;refine⟨A,cap,h1,h2,h3,h4.imp id ?_⟩;rintro⟨pb,po,e1,e2,e3⟩;refine⟨pb,po,e1,e2,fun j u hu => ?_⟩;rw[wD,gN]at hu;cases hx:xs[j]? with
 | none=>rw[hx]at hu;cases hu
 | some x=>rw[hx]at hu;rw[← dU hu];exact e3 j x hx
theorem iF.Nl (h:iF (aI .i64) w B v xs):iM w B v xs:=by
 obtain⟨A,cap,h1,h2,h3,h4⟩:=h;refine⟨A,cap,h1,h2,h3,h4.imp id ?_⟩;rintro⟨pb,po,e1,e2,e3⟩;exact⟨pb,po,e1,e2,fun j x hx=>e3 j _ (by rw[wD,gN,hx];rfl)⟩
theorem Own.siI{lo:Nat}(h:Own (aI .i64) 3 w lo v xs):iM w w.heap.size v xs:=h.se.Nl
theorem aew (w:World):Own (aI .i64) 3 (w.alloc (.cells #[] 3)) w.heap.size (.slice (some ⟨w.heap.size,0,none⟩) 0 0) ([]:List Int) :=
 Own.made (aI .i64) 3 _ _ _ 0 #[] rfl (aj _) (by unfold maxLen;omega) rfl
theorem U4(A:Option Addr)(n cap:Nat)(w:World):Sem.run Tryz.prog (binOp BinOp.eql 28 (.slice A n cap) (.slice none 0 0)) w = .ok (.bool A.isNone) w:=Lib.run_eql_slice_nil w 28 3 A n cap 0 0 Tryz.underlying28
theorem Yu {s:ByteArray}(h:s.size=0):s=⟨#[]⟩:=by
 obtain⟨d⟩:=s;rw[Array.eq_empty_of_size_eq_zero (xs:=d) h]
def Wv(w:World)(xs:List Int)(e:Ending)(w':World):Prop:=Below w.heap.size w w'∧∃A' c',e = .returned (.slice A' xs.length c')∧Own (aI .i64) 3 w' w.heap.size (.slice A' xs.length c') xs
theorem Ze (w:World)(A:Option Addr)(n cap:Nat)(xs:List Int)(h:iM w w.heap.size (.slice A n cap) xs)(hn:n≤1000000) :
 Calls Tryz.prog 70 #[.slice A n cap] w (Wv w xs):=by
 have h:=h.se;cases A with
 | none =>
   obtain rfl:xs=[]:=by
    cases xs with
    | nil=>rfl
    | cons x t=>obtain⟨pb,po,h1,_⟩:=iF.at h (i:=0) rfl;cases h1
   obtain rfl:n=0:=h.len.1.symm;clear h;have abf:=fun w=>U4 none 0 cap w
   go_enter Tryz.func70,Tryz.ntmps70;go_wp2_with fail
   go_ret;exact⟨ak _ _,none,0,rfl,Own.nil _ _ _ _⟩
 | some ad =>
   have HX:=ae h;have HL:=ae h.len.1;clear h;have HO:=ae (aew w);have yC:=ae ((ak w.heap.size w).alloc (aj _) (.cells #[] 3))
   have WG:=ae (fun (j:Nat)(u:Value)(hj:((aI .i64).all xs)[j]? = some u)=>(show(w.alloc (.cells #[] 3)).cell? (ad.add j)=some u from by
    obtain⟨A',qf,h1,_,_,h3⟩:=(HX.o.lift yC.o);injection h1 with h1 _ _;rcases h3 with rfl|⟨pb,po,h4,_,h5⟩
    · simp[Enc.all]at hj
    · rw[h4]at h1
      injection h1 with h1;subst h1;rw[Addr.add_mid];exact h5 j u hj))
   have abf:=fun w=>U4 (some ad) n cap w
   go_enter Tryz.func70,Tryz.ntmps70;go_wp2_with (at_builtin;refine ow Elem.pl (aI .i64) rfl (.tmp 5) (.tmp 6) rfl w.heap.size _ [] rfl HO.o ad n cap xs rfl HL.o WG.o ?_ ?_ ?_ ?_;(rw[dV];omega);(rw[dV];unfold maxLen;omega);exact yC.o.size;intro v3 w3 h1 h2;have H3:=ae h1;clear h1;have H4:=ae h2;clear h2)
   go_ret;have ho:Own (aI .i64) 3 w3 w.heap.size v3 xs:=by have:=H3.o;rwa[iy]at this
   have hb:Below w.heap.size w w3:=yC.o.trans H4.o;refine⟨hb, ?_⟩;obtain⟨A',c',rfl⟩:=zx ho;exact⟨A',c',rfl,ho⟩
theorem adF (w:World)(own:ByteArray)(mb:Nat)(n:Nd) :
 Calls Tryz.prog 71 #[.agg #[.string own,.map (some mb)],.agg #[.string n.ref.sh,.int .i64 n.ref.c,.int .i64 n.ref.r,.bool n.ref.ac,.bool n.ref.ar]] w fun e w'=>e = .returned (.string (qx own n))∧Below w.heap.size w w':=by
 by_cases c:n.ref.sh=⟨#[]⟩
 · have e1:qx own n=own:=by unfold qx;rw[ah c]
   rw[e1];have e2:n.ref.sh.toList=[]:=by rw[c,rz]
   have e3:n.ref.sh.toList.isEmpty=true:=by rw[e2];rfl
   have HB:=ae (((ak w.heap.size w).alloc (aj _) (.cells #[.string own,.map (some mb)] 96)).alloc (by simp) (.cells #[.string n.ref.sh,.int .i64 n.ref.c,.int .i64 n.ref.r,.bool n.ref.ac,.bool n.ref.ar] 43));clear e1 c;go_enter Tryz.func71,Tryz.ntmps71;go_wp2_with fail
   go_ret;exact⟨rfl,HB.o⟩
 · have e1:qx own n=n.ref.sh:=by unfold qx;rw[ag c]
   rw[e1];have e2:¬ n.ref.sh.toList=[]:=sQ _ fun e=>c (Yu e)
   have e3:n.ref.sh.toList.isEmpty=false:=by cases h:n.ref.sh.toList with|nil=>exact absurd h e2|cons a l=>rfl
   have HB:=ae (((ak w.heap.size w).alloc (aj _) (.cells #[.string own,.map (some mb)] 96)).alloc (by simp) (.cells #[.string n.ref.sh,.int .i64 n.ref.c,.int .i64 n.ref.r,.bool n.ref.ac,.bool n.ref.ar] 43));clear e1 c;go_enter Tryz.func71,Tryz.ntmps71;go_wp2_with fail
   go_ret;exact⟨rfl,HB.o⟩
theorem pQ {ops:Array Oper}{rest:List Oper}{op:Oper}(hgd:op.guard=none)(x y:Operand)(ho:op.op = .store 45 x y)
 (g:Nat) (n0 n:Nd) (k0 k:Value) (hx:a.eval x = .pointer (some ⟨g,0,none⟩)) (hy:a.eval y = .agg (bU n k)) (hr:az w g n0 k0) (hk:k.oneCell'=true)
 (h:∀w',az w' g n k→w.grownBy w' (some g)→wpList Tryz.prog ops Q rest (a.put op.dst undef) w'):wpList Tryz.prog ops Q (op :: rest) a w :=
 wpList_store_row hgd 45 x y ho g 45 _ _ hx hy hr rfl Bf (Hq n k hk) (h _ (setRow_heap w g _ _ _ _ hr) (grownBy.Iz (grownBy.fP w _) _))
theorem N7 {o:Oper}{K:Act→World→Prop}(x y:Operand)(ho:o.op = .store 45 x y)
 (g:Nat) (n0 n:Nd) (k0 k:Value) (hx:a.eval x = .pointer (some ⟨g,0,none⟩)) (hy:a.eval y = .agg (bU n k)) (hr:az w g n0 k0) (hk:k.oneCell'=true)
 (h:∀w',az w' g n k→w.grownBy w' (some g)→K (a.put o.dst undef) w'):Oper.wp Tryz.prog o a w K Q :=
 wp_store_row 45 x y ho g 45 _ _ hx hy hr rfl Bf (Hq n k hk) (h _ (setRow_heap w g _ _ _ _ hr) (grownBy.Iz (grownBy.fP w _) _))
theorem az.Gi(h:az w z n k):az w.drew z n k:=h
theorem R8 (w:World)(A:Option Addr)(n cap:Nat)(xs:List Int)(nw:Int)(k:Nat)(h:IR w w.heap.size A n cap xs) :
 Calls Tryz.prog 166 #[.agg #[.slice A n cap,.int .i64 nw],.int .i64 (k:Int)] w fun e w'=>e = .returned (.bool (jw xs k))∧Below w.heap.size w w':=by
 have HB:=ae (o9 165 w (.slice A n cap) nw);have HP:=ae (bP.new 165 w (.slice A n cap) nw);have HX:=ae h;have HL:=ae h.len.1;clear h;by_cases hin:k<n
 · have hii:(k:Int)<(n:Int):=by omega
   have hi0:(0:Int)≤(k:Int):=by omega
   obtain⟨pb,po,rfl,hpb,e0⟩:=GM HX.o hin
   have hg:jw xs k=decide (xs.getD k 0 = -1):=by
    unfold jw;rw[getD_some xs k (by rw[HL.o];exact hin)];by_cases hx:xs.getD k 0 = -1
    · rw[hx];rfl
    · rw[aS hx,aS (fun e=>hx (dU e))]
   obtain⟨x,hx⟩:∃x,xs.getD k 0=x:=⟨_,rfl⟩;rw[hx]at e0 hg;have HE:=ae e0;have DI:=ae hpb;have HG:=ae hg;clear e0 hx hpb hg;go_enter Tryz.func166,Tryz.ntmps166;go_upto_region 1 with (fail)
   obtain⟨w1,hw1⟩:∃w1,w.alloc (.cells #[.slice (some ⟨pb,po,none⟩) n cap,.int .i64 nw] 165)=w1:=⟨_,rfl⟩;rw[hw1]at HB HP ⊢;clear hw1;obtain⟨x0,x1⟩:=HP.o.cells;have x2:w1.cell? ⟨pb,po+k,none⟩=some (.int .i64 x):=(HB.o.cell (p:=⟨pb,po+k,none⟩) DI.o).trans HE.o;by_cases hx:x = -1
   · have hxb:(x == -1)=true:=by rw[hx];rfl
     have wy:=ae hx;clear hx;go_wp2_with fail
     go_ret;exact⟨by rw[HG.o,aQ wy.o];rfl,HB.o⟩
   · have hxb:(x == -1)=false:=by rw[aA];exact hx
     have wy:=ae hx;clear hx;go_wp2_with fail
     go_ret;exact⟨by rw[HG.o,aS wy.o];rfl,HB.o⟩
 · have hii:¬ (k:Int)<(n:Int):=by omega
   have HG:=ae (show jw xs k=false from by
    unfold jw;rw[List.getElem?_eq_none (by rw[HL.o];omega)];rfl)
   go_enter Tryz.func166,Tryz.ntmps166;go_upto_region 1 with (fail)
   obtain⟨w1,hw1⟩:∃w1,w.alloc (.cells #[.slice A n cap,.int .i64 nw] 165)=w1:=⟨_,rfl⟩;rw[hw1]at HB HP ⊢;clear hw1;obtain⟨x0,x1⟩:=HP.o.cells;go_wp2_with fail
   go_ret;exact⟨by rw[HG.o];rfl,HB.o⟩
theorem aak {k:Nat}(h:jw xs k=true):k<xs.length:=by
 unfold jw at h;rw[decide_eq_true_eq]at h;exact(dS.1 h).1
theorem Z9 (w:World)(A:Option Addr)(n cap:Nat)(xs:List Int)(nw hi:Int)(lo:Nat)(h:IR w w.heap.size A n cap xs)(hh:hi≤4398046511104) :
 Calls Tryz.prog 151 #[.agg #[.slice A n cap,.int .i64 nw],.int .i64 (lo:Int),.int .i64 hi] w fun e w'=>e = .returned (.int .i64 (jS xs (hi+1 - lo).toNat lo:Nat))∧Below w.heap.size w w':=by
 have HB:=ae (o9 165 w (.slice A n cap) nw);have HP:=ae (bP.new 165 w (.slice A n cap) nw);have HX:=ae h;have HL:=ae h.len.1;clear h;obtain⟨F,hF⟩:∃F,jS xs (hi+1 - lo).toNat lo=F:=⟨_,rfl⟩;rw[hF];have HF:=ae hF;clear hF;go_enter Tryz.func151,Tryz.ntmps151;go_upto_region 1 with (fail)
 obtain⟨w1,hw1⟩:∃w1,w.alloc (.cells #[.slice A n cap,.int .i64 nw] 165)=w1:=⟨_,rfl⟩;rw[hw1]at HB HP ⊢;clear hw1;have wy:=ae (HX.o.lift HB.o)
 go_loopw [1] (fun iv wr=>∃k:Nat,iv = .int .i64 (k:Int)∧Hid (jS xs (hi+1 - k).toNat k=F)∧Hid (Below w1.heap.size w1 wr))
  (fun iv _=>n - (intOf iv).toNat)
 case atStart=>exact⟨lo,rfl,HF,ae (ak _ _)⟩
 case round =>
  obtain⟨k,rfl,HK,HR⟩:=hrel;obtain⟨x0,x1⟩:=(HP.o.over HR.o).cells;by_cases hle:(k:Int)≤hi
  · have HM:=ae (show(hi+1 - (k:Int)).toNat=(hi+1 - ((k+1:Nat):Int)).toNat+1 by omega)
    have hc:=R8 wr A n cap xs nw k (wy.o.lift HR.o);cases hg:jw xs k with
    | true =>
      have hkn:=aak hg;rw[HL.o]at hkn;rw[hg]at hc;have HC:=ae hc
      have HN:=ae (show jS xs (hi+1 - ((k+1:Nat):Int)).toNat (k+1)=F from by
       have h1:=HK.o;rw[HM.o]at h1;unfold jS at h1;rwa[ah hg]at h1)
      clear hc hg;go_wp2_with (go_at_call 166;((with_reducible refine HC.o.mono ?_);rintro e w2 ⟨rfl,h1⟩;have H2:=ae (HR.o.trans (h1.mono HR.o.size));clear h1))
      go_roundw
      case rel=>exact⟨k+1,by go_num,HN,H2⟩
      case measure=>simp[intOf];omega
    | false =>
      rw[hg]at hc;have HC:=ae hc
      have HN:=ae (show k=F from by
       have h1:=HK.o;rw[HM.o]at h1;unfold jS at h1;rwa[ag (by rw[hg];decide)]at h1)
      clear hc hg;go_wp2_with (go_at_call 166;((with_reducible refine HC.o.mono ?_);rintro e w2 ⟨rfl,h1⟩;have H2:=ae (HR.o.trans (h1.mono HR.o.size));clear h1))
      go_ret;exact⟨by rw[← HN.o];rfl,HB.o.trans (H2.o.mono HB.o.size)⟩
  · have HN:=ae (show k=F from by
     have h1:=HK.o;rw[show(hi+1 - (k:Int)).toNat=0 by omega]at h1;exact h1)
    go_wp2_with fail
    go_ret;exact⟨by rw[← HN.o];rfl,HB.o.trans (HR.o.mono HB.o.size)⟩
theorem acu (w:World)(A:Option Addr)(n cap:Nat)(xs:List Int)(nw:Int)(lo hi:Nat)(h:IR w w.heap.size A n cap xs)(hlh:lo≤hi)(hh:(hi:Int)≤4398046511104) :
 Calls Tryz.prog 152 #[.agg #[.slice A n cap,.int .i64 nw],.int .i64 (lo:Int),.int .i64 (hi:Int)] w fun e w'=>e = .returned (.int .i64 (mO xs (hi - lo) hi:Nat))∧Below w.heap.size w w':=by
 have HB:=ae (o9 165 w (.slice A n cap) nw);have HP:=ae (bP.new 165 w (.slice A n cap) nw);have HX:=ae h;have HL:=ae h.len.1;clear h;obtain⟨F,hF⟩:∃F,mO xs (hi - lo) hi=F:=⟨_,rfl⟩;rw[hF];have HF:=ae hF;clear hF;go_enter Tryz.func152,Tryz.ntmps152;go_upto_region 1 with (fail)
 obtain⟨w1,hw1⟩:∃w1,w.alloc (.cells #[.slice A n cap,.int .i64 nw] 165)=w1:=⟨_,rfl⟩;rw[hw1]at HB HP ⊢;clear hw1;have wy:=ae (HX.o.lift HB.o)
 go_loopw [2] (fun iv wr=>∃k:Nat,iv = .int .i64 (k:Int)∧lo≤k∧(k:Int)≤4398046511104∧Hid (mO xs (k - lo) k=F)∧Hid (Below w1.heap.size w1 wr))
  (fun iv _=>(intOf iv).toNat)
 case atStart=>exact⟨hi,rfl,hlh,hh,HF,ae (ak _ _)⟩
 case round =>
  obtain⟨k,rfl,hlk,hkb,HK,HR⟩:=hrel;obtain⟨x0,x1⟩:=(HP.o.over HR.o).cells;by_cases hle:(lo:Int)<(k:Int)
  · have HM:=ae (show k - lo=(k - 1 - lo)+1 by omega)
    have hc:=R8 wr A n cap xs nw k (wy.o.lift HR.o);cases hg:jw xs k with
    | true =>
      rw[hg]at hc;have HC:=ae hc
      have HN:=ae (show mO xs (k - 1 - lo) (k - 1)=F from by
       have h1:=HK.o;rw[HM.o]at h1;unfold mO at h1;rwa[ah hg]at h1)
      clear hc hg;go_wp2_with (go_at_call 166;((with_reducible refine HC.o.mono ?_);rintro e w2 ⟨rfl,h1⟩;have H2:=ae (HR.o.trans (h1.mono HR.o.size));clear h1))
      go_roundw
      case rel=>exact⟨k - 1,by go_num,by omega,by omega,HN,H2⟩
      case measure=>simp[intOf];omega
    | false =>
      rw[hg]at hc;have HC:=ae hc
      have HN:=ae (show k=F from by
       have h1:=HK.o;rw[HM.o]at h1;unfold mO at h1;rwa[ag (by rw[hg];decide)]at h1)
      clear hc hg;go_wp2_with (go_at_call 166;((with_reducible refine HC.o.mono ?_);rintro e w2 ⟨rfl,h1⟩;have H2:=ae (HR.o.trans (h1.mono HR.o.size));clear h1))
      go_ret;exact⟨by rw[← HN.o];rfl,HB.o.trans (H2.o.mono HB.o.size)⟩
  · have HN:=ae (show k=F from by
     have h1:=HK.o;rw[show k - lo=0 by omega]at h1;exact h1)
    go_wp2_with fail
    go_ret;exact⟨by rw[← HN.o];rfl,HB.o.trans (HR.o.mono HB.o.size)⟩
def s3(p:Int × Int × Bool):Value := .tuple #[.int .i64 p.1,.int .i64 p.2.1,.bool p.2.2]
theorem ahm(xs:List Int)(nw lo hi:Int)(h:lo<0):iR xs nw lo hi=(0,0,false):=by unfold iR;rw[ah (.inl h)]
theorem ahn (xs:List Int)(nw hi:Int)(k:Nat)(h:hi<(jS xs (hi+1 - k).toNat k:Int)):iR xs nw k hi=(0,0,false):=by
 unfold iR;split
 · rfl
 · rw[Int.toNat_natCast,ah h]
theorem aho (xs:List Int)(nw:Int)(k j:Nat)(h:¬ (j:Int)<(jS xs ((j:Int)+1 - k).toNat k:Int)) :
 iR xs nw k j=(bH xs nw (jS xs ((j:Int)+1 - k).toNat k:Nat),bH xs nw (mO xs (j - jS xs ((j:Int)+1 - k).toNat k) j:Nat),true):=by
 have hl:=(KN xs ((j:Int)+1 - k).toNat k).1;unfold iR;rw[Int.toNat_natCast,Int.toNat_natCast,ag (by omega),ag h]
theorem ahp (w:World)(A:Option Addr)(n cap:Nat)(xs:List Int)(nw lo hi:Int)(h:IR w w.heap.size A n cap xs)(hn:n≤2000000)(h0:0≤nw)(h1:nw≤2000000)(hh:hi≤4398046511104) :
 Calls Tryz.prog 133 #[.agg #[.slice A n cap,.int .i64 nw],.int .i64 lo,.int .i64 hi] w fun e w'=>e = .returned (s3 (iR xs nw lo hi))∧Below w.heap.size w w':=by
 have HB:=ae (o9 30 w (.slice A n cap) nw);have HP:=ae (bP.new 30 w (.slice A n cap) nw);have HX:=ae h;clear h;by_cases xX:lo<0
 · have dF:=ae (ahm xs nw lo hi xX)
   go_enter Tryz.func133,Tryz.ntmps133;go_wp2_with fail
   go_ret3
   exact⟨by rw[dF.o];rfl,HB.o⟩
 · obtain ⟨k,rfl⟩:∃k:Nat,lo=(k:Int):=⟨lo.toNat,by omega⟩
   go_enter Tryz.func133,Tryz.ntmps133;go_upto_region 1 with (fail)
   obtain⟨w1,hw1⟩:∃w1,w.alloc (.cells #[.slice A n cap,.int .i64 nw] 30)=w1:=⟨_,rfl⟩;rw[hw1]at HB HP ⊢;clear hw1;obtain⟨x0,x1⟩:=HP.o.cells;go_upto_region 4 with (fail)
   clear x0 x1;have HB1:=ae (o9 165 w1 (.slice A n cap) nw);have HW:=ae (bP.new 165 w1 (.slice A n cap) nw);obtain⟨w2,hw2⟩:∃w2,w1.alloc (.cells #[.slice A n cap,.int .i64 nw] 165)=w2:=⟨_,rfl⟩;rw[hw2]at HB1 HW ⊢;clear hw2;have HB2:=ae (HB.o.trans (HB1.o.mono HB.o.size));have bZ:=ae (HX.o.lift HB2.o);obtain⟨F,hF⟩:∃F,jS xs (hi+1 - k).toNat k=F:=⟨_,rfl⟩;have hf:=Z9 w2 A n cap xs nw hi k bZ.o hh;rw[hF]at hf;have WM:=ae hf;have Jp:=ae hF;clear hf hF;obtain⟨x0,x1⟩:=HW.o.cells;go_upto_region 5 with (go_at_call 151;((with_reducible refine WM.o.mono ?_);rintro e w3 ⟨rfl,h3⟩;have H3:=ae h3;clear h3))
   clear x0 x1;have HB3:=ae (HB2.o.trans (H3.o.mono HB2.o.size));by_cases hlt:hi<(F:Int)
   · have dF:=ae (ahn xs nw hi k (by rw[Jp.o];exact hlt))
     go_wp2_with fail
     go_ret3
     exact⟨by rw[dF.o];rfl,HB3.o⟩
   · obtain ⟨j,rfl⟩:∃j:Nat,hi=(j:Int):=⟨hi.toNat,by omega⟩
     have hv:=aho xs nw k j (by rw[Jp.o];exact hlt);rw[Jp.o]at hv;have hll:=Sr xs (j - F) j;have eF:=ae (bZ.o.lift H3.o);have Ox:=ae (fun (wq:World)(hb:Below w3.heap.size w3 wq)=>acu wq A n cap xs nw F j (eF.o.lift hb) (by omega) hh);obtain⟨L,hL⟩:∃L,mO xs (j - F) j=L:=⟨_,rfl⟩;rw[hL]at hv Ox hll;have dF:=ae hv;have HI1:=ae (fun (wq:World)(hb:Below w3.heap.size w3 wq)=>NW wq A n cap xs nw (F:Int) (eF.o.lift hb) hn h0 h1 (by omega));have HI3:=ae (fun (wq:World)(hb:Below w3.heap.size w3 wq)=>NW wq A n cap xs nw (L:Int) (eF.o.lift hb) hn h0 h1 (by omega));have HW3:=ae (HW.o.over H3.o);have xh:=ae (fun (wq:World)(hb:Below w3.heap.size w3 wq)=>(HW3.o.over hb).cells);have lI:=ae (Below.drew (ak w3.heap.size w3));clear hL hv hll;obtain⟨x0,x1⟩:=HW3.o.cells;go_upto_region 7 with (fail)
     clear x0 x1;obtain⟨x0,x1⟩:=xh.o _ lI.o
     go_region_held3 (fun w'=>w'.cell? ⟨w1.heap.size,0,none⟩=some (.slice A n cap)∧w'.cell? ⟨w1.heap.size,1,none⟩=some (.int .i64 nw)) (first|exact⟨x0,x1⟩|exact xh.o _ kJ.o|exact xh.o _ dZ.o|exact xh.o _ H4.o) (first
      | (go_at_call 134;((with_reducible refine(HI1.o _ lI.o).mono ?_);rintro e w4 ⟨rfl,h1⟩;have H4:=ae (lI.o.trans (h1.mono lI.o.size));clear h1))
      | (go_at_call 152;((with_reducible refine(Ox.o _ H4.o).mono ?_);rintro e w5 ⟨rfl,h1⟩;have dZ:=ae (H4.o.trans (h1.mono H4.o.size));clear h1))
      | (go_at_call 134;((with_reducible refine(HI3.o _ dZ.o).mono ?_);rintro e w6 ⟨rfl,h1⟩;have kJ:=ae (dZ.o.trans (h1.mono dZ.o.size));clear h1)))
     all_goals go_wp2_with fail
     all_goals go_ret3
     all_goals exact⟨by rw[dF.o];rfl,HB3.o.trans (kJ.o.mono HB3.o.size)⟩
theorem az.set {n':Nd}{k':Value}(h:az w b n k)(o:Nat)(v:Value)(he:(bU n k).setIfInBounds o v=bU n' k'):az (w.setCell ⟨b,o,none⟩ v) b n' k':=by
 unfold az;rw[heap_setCell_same w b o _ _ v h,he]
theorem az.Hu (h:az w b n k)(a:Addr)(v:Value)(hne:b≠a.block):az (w.setCell a v) b n k:=by
 unfold az;rw[fw _ _ _ _ hne];exact h
theorem kN.Hu(h:kN w b x)(a:Addr)(v:Value)(hne:b≠a.block):kN (w.setCell a v) b x:=h.keep (fw _ _ _ _ hne)
theorem kN.over(h:kN w b x)(hb:Below w.heap.size w w'):kN w' b x:=h.keep (hb.block b h.lt)
theorem az.zu(h:az w b n k)(hb:Below w.heap.size w w'):az w' b n k:=h.below hb h.lt
theorem az.yf(h:az w b n k)(o:Nat):w.frozen? ⟨b,o,none⟩=false:=frozen_of_row w b o _ _ h
structure xE (w w1:World)(n:Nd)(k:Value)(x:bK)(z:Nat):Prop where
 below:Below w.heap.size w w1
 iP:az w1 z n k
 sh:kN w1 (z+1) x
 res:az w1 (z+2) Nd.zero (.slice none 0 0)
 size:z+3≤w1.heap.size
 low:w.heap.size≤z
theorem Ui (w:World)(n:Nd)(A:Option Addr)(m c:Nat)(x:bK):∃w1,((w.alloc (.cells #[.int .i64 n.kind,.int .i64 n.num,.string n.text,.string n.ref.sh,.int .i64 n.ref.c,.int .i64 n.ref.r,.bool n.ref.ac,.bool n.ref.ar,.string n.af.sh,.int .i64 n.af.c,.int .i64 n.af.r,.bool n.af.ac,.bool n.af.ar,.slice A m c] 45)).alloc (.cells #[.string x.s.sh,.slice x.ra x.s.rx.length x.rc,.int .i64 x.s.rn,.slice x.ca x.s.cx.length x.cc,.int .i64 x.s.cn,.bool x.s.gone] 33)).alloc (.cells pR 45)=w1∧xE w w1 n (.slice A m c) x w.heap.size:=by
 refine⟨_,rfl,(((ak _ w).alloc (aj _) _).alloc (by simp) _).alloc (by simp;omega) _, ?_, ?_, ?_,by simp,aj _⟩
 · exact(Below.heap_alloc _ _ _ (by simp;omega)).trans ((Below.heap_alloc _ _ _ (by simp)).trans (az.new w n (.slice A m c)))
 · have h:=kN.new (w.alloc (.cells (bU n (.slice A m c)) 45)) x
   rw[jE]at h;exact(Below.heap_alloc _ _ _ (by simp)).trans h
 · have h:=az.new ((w.alloc (.cells (bU n (.slice A m c)) 45)).alloc (.cells (jY x) 33)) Nd.zero (.slice none 0 0)
   rw[jE,jE]at h;exact h
theorem xE.call {w2:World}(h:xE w w1 n k x z)(hb:Below w1.heap.size w1 w2):xE w w2 n k x z :=
 ⟨h.below.trans (hb.mono h.below.size),h.iP.zu hb,h.sh.over hb,h.res.zu hb,bO h.size hb.size,h.low⟩
theorem xE.put {n':Nd}{k':Value}(h:xE w w1 n k x z)(o:Nat)(v:Value)(he:(bU n k).setIfInBounds o v=bU n' k'):xE w (w1.setCell ⟨z,o,none⟩ v) n' k' x z :=
 ⟨h.below.setCell h.low _,h.iP.set o v he,h.sh.Hu _ _ (by show z+1≠z;omega),h.res.Hu _ _ (by show z+2≠z;omega),by simpa using h.size,h.low⟩
theorem Vy (w:World)(A:Option Addr)(n cap:Nat)(xs:List Int)(nw lo hi:Int)(h:IR w w.heap.size A n cap xs)(hn:n≤2000000)(h0:0≤nw)(h1:nw≤2000000)(hh:hi≤4398046511104){a b:Int}{o:Bool}(hp:iR xs nw lo hi=(a,b,o)) :
 Calls Tryz.prog 133 #[.agg #[.slice A n cap,.int .i64 nw],.int .i64 lo,.int .i64 hi] w fun e w'=>e = .returned (.tuple #[.int .i64 a,.int .i64 b,.bool o])∧Below w.heap.size w w':=by
 have h:=ahp w A n cap xs nw lo hi h hn h0 h1 hh;rw[hp]at h;exact h
theorem afR:Tryz.f106.results=#[.cell 4 45,.tmp 5]:=by kernel_rfl
structure DX (n:Nd):Prop where
 r:n.ref.r≤1000000
 c:n.ref.c≤1000000
 tr:n.af.r≤1000000
 tc:n.af.c≤1000000
 sh:n.ref.sh.size≤1000000
 tsh:n.af.sh.size≤1000000
theorem ahl (w:World)(n:Nd)(A:Option Addr)(m c:Nat)(x:bK)(hx:qd w w.heap.size x)(ho:qR x.s)(hn:DX n) :
 Calls Tryz.prog 106 #[.agg (bU n (.slice A m c)),.agg (jY x)] w fun e w'=>e = .returned (.tuple #[.agg (bU (kG n x.s) (.slice A m c)),.bool (vO n x.s&&bQ (kG n x.s).af)])∧Below w.heap.size w w':=by
 obtain⟨w1,hw1,hp⟩:=Ui w n A m c x;have HP:=ae hp;have HX:=ae hx;have h1:=ho.rows.len;have h2:=ho.rows.low;have h3:=ho.rows.top;have h4:=ho.tV.len;have h5:=ho.tV.low;have h6:=ho.tV.top;have g1:=hn.r;have g2:=hn.c;have g3:=hn.tr;have g4:=hn.tc;have XP:=ae hn.tsh;obtain⟨⟨a1,a2,ao⟩,ha⟩:∃p,iR x.s.rx x.s.rn n.ref.r n.af.r=p:=⟨_,rfl⟩;obtain⟨⟨b1,b2,bo⟩,hb⟩:∃p,iR x.s.cx x.s.cn n.ref.c n.af.c=p:=⟨_,rfl⟩;have zf:kG n x.s=n.nD a1 b1 a2 b2:=by unfold kG;rw[ha,hb]
 have hok:vO n x.s=(ao&&bo):=by unfold vO;rw[ha,hb]
 have gy:=ae (fun (wq:World)(hq:Below w1.heap.size w1 wq)=>Vy wq x.ra x.s.rx.length x.rc x.s.rx x.s.rn n.ref.r n.af.r ((hx.lift HP.o.below).lift hq).rows (by omega) h2 (by omega) (by omega) ha);have HS2:=ae (fun (wa:World)(ha:Below w.heap.size w wa){wq:World}(hq:Below wa.heap.size wa wq)=>Vy wq x.ca x.s.cx.length x.cc x.s.cx x.s.cn n.ref.c n.af.c ((hx.lift ha).lift hq).tV (by omega) h5 (by omega) (by omega) hb);rw[zf,hok];obtain⟨z,hz⟩:∃z,w.heap.size=z:=⟨_,rfl⟩;have iB:=ae hz;rw[hz]at HP;clear hx ho hn ha hb zf hok hp hz;have x0:=HP.o.iP.cells;have y0:=HP.o.sh.cells;dsimp only[bK.rv,bK.cv]at y0;show Calls Tryz.prog 106 #[.agg #[.int .i64 n.kind,.int .i64 n.num,.string n.text,.string n.ref.sh,.int .i64 n.ref.c,.int .i64 n.ref.r,.bool n.ref.ac,.bool n.ref.ar,.string n.af.sh,.int .i64 n.af.c,.int .i64 n.af.r,.bool n.af.ac,.bool n.af.ar,.slice A m c],.agg #[.string x.s.sh,.slice x.ra x.s.rx.length x.rc,.int .i64 x.s.rn,.slice x.ca x.s.cx.length x.cc,.int .i64 x.s.cn,.bool x.s.gone]] w _;go_enter Tryz.func106,Tryz.ntmps106;go_upto_region 2 with (fail)
 rw[iB.o];obtain⟨x0,x1,x2,x3,x4,x5,x6,x7,ay,aO,aL,aM,aN,aJ⟩:=x0;obtain⟨y0,y1,y2,y3,y4,fQ⟩:=y0;rw[show z+1+1=z+2 from rfl];go_upto_region 3 with (go_at_call 133;((with_reducible refine(gy.o _ (ak _ _)).mono ?_);rintro e w2 ⟨rfl,hq⟩;have dI:=ae (HP.o.call hq);have f5:=dI.o.iP.yf 5;have f10:=dI.o.iP.yf 10;clear x0 x1 x2 x3 x4 x5 x6 x7 ay aO aL aM aN aJ y0 y1 y2 y3 y4 fQ hq;obtain⟨x0,x1,x2,x3,x4,x5,x6,x7,ay,aO,aL,aM,aN,aJ⟩:=dI.o.iP.cells;obtain⟨y0,y1,y2,y3,y4,fQ⟩:=dI.o.sh.cells))
 have aY:=ae ((dI.o.put 5 (.int .i64 a1) (n':=n.nD a1 n.ref.c n.af.r n.af.c) rfl).put 10 (.int .i64 a2) (n':=n.nD a1 n.ref.c a2 n.af.c) rfl);clear x0 x1 x2 x3 x4 x5 x6 x7 ay aO aL aM aN aJ y0 y1 y2 y3 y4 fQ f5 f10;obtain⟨w3,hw3⟩:∃w3,(w2.setCell ⟨z,5,none⟩ (.int .i64 a1)).setCell ⟨z,10,none⟩ (.int .i64 a2)=w3:=⟨_,rfl⟩;rw[hw3]at aY ⊢;clear hw3;have Dm:=ae (HS2.o _ aY.o.below (ak _ w3));obtain⟨x0,x1,x2,x3,x4,x5,x6,x7,ay,aO,aL,aM,aN,aJ⟩:=aY.o.iP.cells;obtain⟨y0,y1,y2,y3,y4,fQ⟩:=aY.o.sh.cells;dsimp only[bK.rv,bK.cv]at y1 y3;dsimp only[Nd.nD,bL.goto]at x0 x1 x2 x3 x4 x5 x6 x7 ay aO aL aM aN aJ;go_upto_region 4 with (go_at_call 133;((with_reducible refine Dm.o.mono ?_);rintro e w4 ⟨rfl,hq⟩;have dD:=ae (aY.o.call hq);have f4:=dD.o.iP.yf 4;have f9:=dD.o.iP.yf 9;clear x0 x1 x2 x3 x4 x5 x6 x7 ay aO aL aM aN aJ y0 y1 y2 y3 y4 fQ hq;obtain⟨x0,x1,x2,x3,x4,x5,x6,x7,ay,aO,aL,aM,aN,aJ⟩:=dD.o.iP.cells;obtain⟨y0,y1,y2,y3,y4,fQ⟩:=dD.o.sh.cells;dsimp only[Nd.nD,bL.goto]at x0 x1 x2 x3 x4 x5 x6 x7 ay aO aL aM aN aJ))
 have aU:=ae ((dD.o.put 4 (.int .i64 b1) (n':=n.nD a1 b1 a2 n.af.c) rfl).put 9 (.int .i64 b2) (n':=n.nD a1 b1 a2 b2) rfl);clear x0 x1 x2 x3 x4 x5 x6 x7 ay aO aL aM aN aJ y0 y1 y2 y3 y4 fQ f4 f9;obtain⟨w5,zg⟩:∃w5,(w4.setCell ⟨z,4,none⟩ (.int .i64 b1)).setCell ⟨z,9,none⟩ (.int .i64 b2)=w5:=⟨_,rfl⟩;rw[zg]at aU ⊢;clear zg;obtain⟨N,hN⟩:∃N,n.nD a1 b1 a2 b2=N:=⟨_,rfl⟩;have hNs:N.af.sh=n.af.sh:=by rw[← hN];rfl
 rw[hN]at aU;have FE:=ae hN;have z8:=ae (fun wq=>Bd N.af.sh N.af.c N.af.r N.af.ac N.af.ar wq (by rw[hNs];exact XP.o));have lI:=ae (Below.drew (ak w5.heap.size w5));have lL:=ae (fun (wq:World)(hq:Below w5.heap.size w5 wq)=>aU.o.iP.zu hq);have jG:(fun wq=>az wq z N (.slice A m c)) w5.drew:=lL.o _ lI.o;clear hN hNs;refine wp_region_held_drew (S:=(fun wq=>az wq z N (.slice A m c))) (by kernel_rfl) jG (fun _ => ?_);show wpAnyH _ _ _ _ _ 12 #[false,false,false,false,false,false,false,false,false,false,false,false] _ _;refine hT 0 jG ?_ (hy:=by(intro iE hSw;have hz:=az.cells hSw;go_simp;try(with_reducible rfl)));refine hT 1 jG ?_;refine hT 2 jG ?_;by_cases hab:(ao&&bo)=true
 case' pos =>
  obtain⟨rfl,rfl⟩:=iU.1 hab;refine hT 3 jG ?_;refine hT 4 jG ?_;refine hT 5 jG ?_;refine hT 6 jG ?_;refine hT 7 jG ?_ (hy:=by(intro iE hSw;have hz:=az.cells hSw;go_simp;try(with_reducible rfl)));refine hO 8 (fun K hK => ?_);go_simp;go_at_call 108;(with_reducible refine(z8.o _).mono ?_);rintro e w6 ⟨rfl,h1⟩;have kJ:=ae (lI.o.trans (h1.mono lI.o.size));clear h1;dsimp only;refine hK.o _ _ (lL.o _ kJ.o) ?_;clear hK K;simp only[Act.put,sT,gD,gB]
 case' neg =>
  obtain⟨w6,nH⟩:∃w6,w5.drew=w6:=⟨_,rfl⟩;rw[nH]at lI jG ⊢;have kJ:=ae lI.o;have h45:(ao=false)∨(ao=true∧bo=false):=by cases ao <;> cases bo <;> simp at hab ⊢
  rcases h45 with rfl|⟨rfl,rfl⟩
  all_goals first|refine hN 3 jG ?_|refine hT 3 jG ?_
  all_goals refine hT 4 jG ?_
  all_goals refine hT 5 jG ?_
  all_goals refine hN 6 jG ?_
  all_goals refine hN 7 jG ?_
  all_goals refine hN 8 jG ?_
 all_goals
  have FJ:=lL.o _ kJ.o;refine hT 9 FJ ?_;refine hO 10 (fun K hK => ?_);refine N7 (.tmp 4) (.tmp 42) rfl (z+2) Nd.zero N (.slice none 0 0) (.slice A m c) rfl rfl (aU.o.res.zu kJ.o) rfl ?_;intro w7 h1 h2;have hlt:=aU.o.size;have hs6:=kJ.o.size;have uN:(fun wq=>az wq z N (.slice A m c)) w7:=(show az w7 z N (.slice A m c)from by unfold az;rw[h2.block z (by omega) (by intro e;injection e with e;omega)];exact FJ);refine hK.o _ _ uN ?_;clear hK K;simp only[Act.put];refine hT 11 uN ?_;refine wpAnyH_done (by kernel_rfl) ?_ _;go_wp2_with fail
  refine bodyPost_ret (rF h1 _ _ _ 4 5 afR rfl rfl) rfl ⟨?_, ?_⟩
  · first|(rw[FE.o];done)|(rw[FE.o];rfl)
  · have hb5:=aU.o.below
    have xU:=aU.o.low;have hb6:=hb5.trans (kJ.o.mono hb5.size);exact⟨h2.os.trans hb6.os,h2.tape.trans hb6.tape,h2.output.trans hb6.output,bO hb6.size h2.size,fun k hk=>(h2.block k (eZ hk hb6.size) (by intro e;injection e with e;omega)).trans (hb6.block k hk)⟩
theorem MU:Tryz.f72.results=#[.cell 4 45,.tmp 5]:=by kernel_rfl
theorem xE.zC {w2:World}(h:xE w w1 n k x z)(hg:w1.grownBy w2 (some (z+2))):Below w.heap.size w w2:=by
 have hb:=h.below;have hl:=h.low;exact⟨hg.os.trans hb.os,hg.tape.trans hb.tape,hg.output.trans hb.output,bO hb.size hg.size,fun k hk=>(hg.block k (eZ hk hb.size) (by intro e;injection e with e;omega)).trans (hb.block k hk)⟩
def BG (w:World)(n:Nd)(s:Sf)(bn:Value)(e:Ending)(w':World):Prop :=
 ∃M K,e = .returned (.tuple #[.agg (bU M K),.bool (jP n s).2])∧((jP n s).2=true→M=(jP n s).1∧K=bn)∧K.oneCell'=true∧Below w.heap.size w w'
theorem Ym (w:World)(n:Nd)(A:Option Addr)(m c:Nat)(x:bK)(hx:qd w w.heap.size x)(ho:qR x.s)(hn:DX n) :
 Calls Tryz.prog 72 #[.agg (bU n (.slice A m c)),.agg (jY x)] w (BG w n x.s (.slice A m c)):=by
 obtain⟨w1,hw1,hp⟩:=Ui w n A m c x;have HP:=ae hp;have HX:=ae hx;have HO:=ae ho;have HN:=ae hn;have h1:=ho.rows.len;have h2:=ho.rows.low;have h3:=ho.rows.top;have h4:=ho.tV.len;have h5:=ho.tV.low;have h6:=ho.tV.top;have g1:=hn.r;have g2:=hn.c;obtain⟨z,hz⟩:∃z,w.heap.size=z:=⟨_,rfl⟩;have iB:=ae hz;rw[hz]at HP;clear hx ho hn hp hz;have x0:=HP.o.iP.cells;have y0:=HP.o.sh.cells;dsimp only[bK.rv,bK.cv]at y0;show Calls Tryz.prog 72 #[.agg #[.int .i64 n.kind,.int .i64 n.num,.string n.text,.string n.ref.sh,.int .i64 n.ref.c,.int .i64 n.ref.r,.bool n.ref.ac,.bool n.ref.ar,.string n.af.sh,.int .i64 n.af.c,.int .i64 n.af.r,.bool n.af.ac,.bool n.af.ar,.slice A m c],.agg #[.string x.s.sh,.slice x.ra x.s.rx.length x.rc,.int .i64 x.s.rn,.slice x.ca x.s.cx.length x.cc,.int .i64 x.s.cn,.bool x.s.gone]] w _;by_cases hg:x.s.gone=true
 · have hv:(jP n x.s).2=false:=by unfold jP;rw[ah hg]
   unfold BG;rw[hv];have HG:=ae hg;clear hg hv;go_enter Tryz.func72,Tryz.ntmps72;go_upto_region 1 with (fail)
   rw[iB.o,show z+1+1=z+2 from rfl];obtain⟨y0,y1,y2,y3,y4,fQ⟩:=y0;have hg:=HG.o;go_wp2_with (refine pQ rfl (.tmp 4) (.tmp 9) rfl (z+2) Nd.zero Nd.zero (.slice none 0 0) (.slice none 0 0) rfl rfl HP.o.res rfl ?_;intro w7 k1 k2)
   exact bodyPost_ret (rF k1 _ _ false 4 5 MU rfl rfl) rfl ⟨Nd.zero,_,rfl,fun e=>(by cases e),rfl,HP.o.zC k2⟩
 have hgf:x.s.gone=false:=by cases h:x.s.gone with|true=>exact absurd h hg|false=>rfl
 by_cases hk:n.kind=6
 · have hv:jP n x.s=(kG n x.s,vO n x.s&&bQ (kG n x.s).af):=by unfold jP;rw[ag hg,ah hk]
   unfold BG;rw[hv]
   have O1:=ae (show Calls Tryz.prog 106 #[.agg #[.int .i64 n.kind,.int .i64 n.num,.string n.text,.string n.ref.sh,.int .i64 n.ref.c,.int .i64 n.ref.r,.bool n.ref.ac,.bool n.ref.ar,.string n.af.sh,.int .i64 n.af.c,.int .i64 n.af.r,.bool n.af.ac,.bool n.af.ar,.slice A m c],.agg #[.string x.s.sh,.slice x.ra x.s.rx.length x.rc,.int .i64 x.s.rn,.slice x.ca x.s.cx.length x.cc,.int .i64 x.s.cn,.bool false]] w1 (fun e w'=>e = .returned (.tuple #[.agg (bU (kG n x.s) (.slice A m c)),.bool (vO n x.s&&bQ (kG n x.s).af)])∧Below w1.heap.size w1 w')from by
    have h:=ahl w1 n A m c x (HX.o.lift HP.o.below) HO.o HN.o;unfold jY at h;rw[hgf]at h;exact h)
   obtain⟨N,hN⟩:∃N,kG n x.s=N:=⟨_,rfl⟩;obtain⟨b,hb⟩:∃b,(vO n x.s&&bQ (kG n x.s).af)=b:=⟨_,rfl⟩;rw[hb,hN]at O1;have dF:=ae (show(kG n x.s,vO n x.s&&bQ (kG n x.s).af)=(N,b)from by rw[hb,hN]);rw[dF.o];clear hv hN hb;have sW:=ae (show(n.kind == (6:Int))=true from bA.2 hk);have Jt:=ae hgf;clear hk hg hgf;go_enter Tryz.func72,Tryz.ntmps72;go_upto_region 1 with (fail)
   rw[iB.o,show z+1+1=z+2 from rfl];obtain⟨x0,x1,x2,x3,x4,x5,x6,x7,ay,aO,aL,aM,aN,aJ⟩:=x0;obtain⟨y0,y1,y2,y3,y4,fQ⟩:=y0;have hgf:=Jt.o;have pF:=sW.o
   go_wp2_with (first
    | (go_at_call 106;((with_reducible refine O1.o.mono ?_);rintro e w2 ⟨rfl,hq⟩;have dI:=ae (HP.o.call hq);clear hq))
    | (refine pQ rfl (.tmp 4) (.tmp 17) rfl (z+2) Nd.zero N (.slice none 0 0) (.slice A m c) rfl rfl dI.o.res rfl ?_;intro w7 k1 k2))
   exact bodyPost_ret (rF k1 _ _ b 4 5 MU rfl rfl) rfl ⟨N,_,rfl,fun _=>⟨rfl,rfl⟩,rfl,dI.o.zC k2⟩
 · have hv:jP n x.s=(qA n x.s,bQ (qA n x.s).ref):=by unfold jP;rw[ag hg,ag hk]
   unfold BG;rw[hv];have HI1:=ae (fun (wa:World)(ha:Below w.heap.size w wa)=>R3 wa x.ra x.s.rx.length x.rc x.s.rx x.s.rn n.ref.r (HX.o.lift ha).rows (by omega) h2 (by omega) (by omega));have HI2:=ae (fun (wa:World)(ha:Below w.heap.size w wa)=>R3 wa x.ca x.s.cx.length x.cc x.s.cx x.s.cn n.ref.c (HX.o.lift ha).tV (by omega) h5 (by omega) (by omega));obtain⟨a1,ha1⟩:∃a,bH x.s.rx x.s.rn n.ref.r=a:=⟨_,rfl⟩;obtain⟨b1,hb1⟩:∃a,bH x.s.cx x.s.cn n.ref.c=a:=⟨_,rfl⟩;rw[ha1]at HI1;rw[hb1]at HI2;obtain⟨N,hN⟩:∃N,n.nD a1 b1 n.af.r n.af.c=N:=⟨_,rfl⟩;have hNs:N.ref.sh=n.ref.sh:=by rw[← hN];rfl
   have FE:=ae hN
   have dF:=ae (show(qA n x.s,bQ (qA n x.s).ref)=(N,bQ N.ref)from by
    have:qA n x.s=N:=by rw[← hN];unfold qA;rw[ha1,hb1];rfl
    rw[this])
   rw[dF.o];have z8:=ae (fun wq=>Bd N.ref.sh N.ref.c N.ref.r N.ref.ac N.ref.ar wq (by rw[hNs];exact HN.o.sh));clear hv hN ha1 hb1 hNs;have sW:=ae (show(n.kind == (6:Int))=false from aA.2 hk);have Jt:=ae hgf;clear hk hg hgf;go_enter Tryz.func72,Tryz.ntmps72;go_upto_region 1 with (fail)
   rw[iB.o,show z+1+1=z+2 from rfl];obtain⟨x0,x1,x2,x3,x4,x5,x6,x7,ay,aO,aL,aM,aN,aJ⟩:=x0;obtain⟨y0,y1,y2,y3,y4,fQ⟩:=y0;have hgf:=Jt.o;have pF:=sW.o;go_upto_region 6 with (go_at_call 107;((with_reducible refine(HI1.o _ HP.o.below).mono ?_);rintro e w2 ⟨rfl,hq⟩;have dI:=ae (HP.o.call hq);have f5:=dI.o.iP.yf 5;clear x0 x1 x2 x3 x4 x5 x6 x7 ay aO aL aM aN aJ y0 y1 y2 y3 y4 fQ hq;obtain⟨x0,x1,x2,x3,x4,x5,x6,x7,ay,aO,aL,aM,aN,aJ⟩:=dI.o.iP.cells;obtain⟨y0,y1,y2,y3,y4,fQ⟩:=dI.o.sh.cells))
   have aY:=ae (dI.o.put 5 (.int .i64 a1) (n':=n.nD a1 n.ref.c n.af.r n.af.c) rfl);clear x0 x1 x2 x3 x4 x5 x6 x7 ay aO aL aM aN aJ y0 y1 y2 y3 y4 fQ f5;obtain⟨w3,hw3⟩:∃w3,w2.setCell ⟨z,5,none⟩ (.int .i64 a1)=w3:=⟨_,rfl⟩;rw[hw3]at aY ⊢;clear hw3;obtain⟨x0,x1,x2,x3,x4,x5,x6,x7,ay,aO,aL,aM,aN,aJ⟩:=aY.o.iP.cells;obtain⟨y0,y1,y2,y3,y4,fQ⟩:=aY.o.sh.cells;dsimp only[bK.rv,bK.cv]at y1 y3;dsimp only[Nd.nD,bL.goto]at x0 x1 x2 x3 x4 x5 x6 x7 ay aO aL aM aN aJ;go_upto_region 7 with (go_at_call 107;((with_reducible refine(HI2.o _ aY.o.below).mono ?_);rintro e w4 ⟨rfl,hq⟩;have dD:=ae (aY.o.call hq);have f4:=dD.o.iP.yf 4;clear x0 x1 x2 x3 x4 x5 x6 x7 ay aO aL aM aN aJ y0 y1 y2 y3 y4 fQ hq;obtain⟨x0,x1,x2,x3,x4,x5,x6,x7,ay,aO,aL,aM,aN,aJ⟩:=dD.o.iP.cells;obtain⟨y0,y1,y2,y3,y4,fQ⟩:=dD.o.sh.cells;dsimp only[Nd.nD,bL.goto]at x0 x1 x2 x3 x4 x5 x6 x7 ay aO aL aM aN aJ))
   have aU:=ae (dD.o.put 4 (.int .i64 b1) (n':=n.nD a1 b1 n.af.r n.af.c) rfl);clear x0 x1 x2 x3 x4 x5 x6 x7 ay aO aL aM aN aJ y0 y1 y2 y3 y4 fQ f4;obtain⟨w5,zg⟩:∃w5,w4.setCell ⟨z,4,none⟩ (.int .i64 b1)=w5:=⟨_,rfl⟩;rw[zg]at aU ⊢;clear zg;rw[FE.o]at aU;have lI:=ae (Below.drew (ak w5.heap.size w5));have lL:=ae (fun (wq:World)(hq:Below w5.heap.size w5 wq)=>aU.o.iP.zu hq);have jG:(fun wq=>az wq z N (.slice A m c)) w5.drew:=lL.o _ lI.o;refine wp_region_held_drew (S:=(fun wq=>az wq z N (.slice A m c))) (by kernel_rfl) jG (fun _ => ?_);show wpAnyH _ _ _ _ _ 6 #[false,false,false,false,false,false] _ _;refine hT 0 jG ?_ (hy:=by(intro iE hSw;have hz:=az.cells hSw;go_simp;try(with_reducible rfl)));refine hT 1 jG ?_;refine hT 2 jG ?_ (hy:=by(intro iE hSw;have hz:=az.cells hSw;go_simp;try(with_reducible rfl)));refine hO 3 (fun K hK => ?_);go_simp;go_at_call 108;(with_reducible refine(z8.o _).mono ?_);rintro e w6 ⟨rfl,h1⟩;have kJ:=ae (lI.o.trans (h1.mono lI.o.size));clear h1;dsimp only;refine hK.o _ _ (lL.o _ kJ.o) ?_;clear hK K;simp only[Act.put,sT,gD,gB];have FJ:=lL.o _ kJ.o;refine hO 4 (fun K hK => ?_);refine N7 (.tmp 4) (.tmp 35) rfl (z+2) Nd.zero N (.slice none 0 0) (.slice A m c) rfl rfl (aU.o.res.zu kJ.o) rfl ?_;intro w7 k1 k2;have hlt:=aU.o.size;have hs6:=kJ.o.size;have uN:(fun wq=>az wq z N (.slice A m c)) w7:=(show az w7 z N (.slice A m c)from by unfold az;rw[k2.block z (by omega) (by intro e;injection e with e;omega)];exact FJ);refine hK.o _ _ uN ?_;clear hK K;simp only[Act.put];refine hT 5 uN ?_;refine wpAnyH_done (by kernel_rfl) ?_ _;go_wp2_with fail
   exact bodyPost_ret (rF k1 _ _ (bQ N.ref) 4 5 MU rfl rfl) rfl ⟨N,_,rfl,fun _=>⟨rfl,rfl⟩,rfl,(aU.o.call kJ.o).zC k2⟩
theorem hP {P:Program}{md:Region.Mode}{ops:Array Oper}{S:World→Prop}(i j:Nat){oi oj:Oper}{d e:Option Tmp}{fuel:Nat}{listed l1 l2:Array Bool}
 (h:∀K:Act→World→Prop,Shut (∀v w,S w→wpAnyH P md ops Q S fuel l1 (a.put d v) w→K (a.put d v) w)→Oper.wp P oi a w K Q) (h':∀K:Act→World→Prop,Shut (∀v w,S w→wpAnyH P md ops Q S fuel l2 (a.put e v) w→K (a.put e v) w)→Oper.wp P oj a w K Q)
 (hi:ops[i]? = some oi:=by(first|(simp only[gA,gS,nV];done)|(simp only[gA,gS,nV];rfl))) (hj:ops[j]? = some oj:=by(first|(simp only[gA,gS,nV];done)|(simp only[gA,gS,nV];rfl)))
 (hd:oi.dst=d:=by(first|(dsimp only;done)|(dsimp only;rfl)|rfl)) (he:oj.dst=e:=by(first|(dsimp only;done)|(dsimp only;rfl)|rfl)) (hr:Region.ready md ops listed=[i,j]:=by kernel_rfl)
 (hl:listed.setIfInBounds i true=l1:=by(simp only[sT,gD,gB];rfl)) (hl':listed.setIfInBounds j true=l2:=by(simp only[sT,gD,gB];rfl)) (hw:Region.wanted oi (yielded ops a.tmps)=true:=by rfl) (hw':Region.wanted oj (yielded ops a.tmps)=true:=by rfl):wpAnyH P md ops Q S (fuel+1) listed a w:=by
 subst hd;subst he;subst hl;subst hl';refine wpAnyH_ready hr (by simp) (AllReadyH.cons hi (fun K hK => ?_) (AllReadyH.cons hj (fun K hK => ?_) AllReadyH.nil))
 · rw[ah hw]
   exact h K (fun v w hS hW=>hK _ _ hS (fun _=>hW))
 · rw[ah hw']
   exact h' K (fun v w hS hW=>hK _ _ hS (fun _=>hW))
end Go.Proofs.YtaobhjliflomaaaGreatDoor
