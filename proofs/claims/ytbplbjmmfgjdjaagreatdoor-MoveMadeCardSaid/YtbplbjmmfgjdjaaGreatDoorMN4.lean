import Derived.Test.YtbplbjmmfgjdjaaGreatDoorMN3
import Derived.Deep.RegionWith
import Derived.Deep.CutBlock
set_option maxRecDepth 100000
set_option maxHeartbeats 64000000
namespace Go.Proofs.YtbplbjmmfgjdjaaGreatDoor
open Go.RowKit
variable {a:Act}{Q:Exit→Act→World→Prop}{st xs:List Int}{B b base cap g z:Nat}{n:Nd}{k v:Value}{w w' w1:World}{x:aP}
theorem ajF (f:Nat)(IH:∀g,g≤f→yP g){tv:Value}{ts:List ah}{p deep:Nat}{nv:Value}{vs:List aK}(h:cB w b tv ts p deep nv vs)(res:eT)(au:eZ (f+1) 4 deep vs.length (ts.drop p)=some res) :
 Calls Tryz.prog 96 #[.pointer (some ⟨b,0,none⟩)] w (Out res w b tv ts deep vs):=by
 have HS:=ae (Bn h ⟨#[45]⟩);rw[lW,af (by omega)]at au;have HP:=ae h;cases hq:ay ⟨#[45]⟩ (ts.drop p)
 · rw [hq,af (by decide)]at au
   rw[hq]at HS
   match f,IH,au with
   | 0,_,au=>unfold jF at au;cases au
   | f+1,IH,au =>
   have HL:=ae (fun w1 (hb:Below w.heap.size w w1)=>Mr b 5 (by omega) w1 (Out res w b tv ts deep vs) (fun e w' ho=>ho.ret) (fun w2 hb2=>by
    rw[lv5];exact(agb f (fun g hg=>IH g (by omega)) (HP.o.below (hb.trans (hb2.mono hb.size))) res au).mono fun e w3 ho=>Out.from (Fr.of b (hb.trans (hb2.mono hb.size))) ho))
   clear hq au h IH;go_enter Tryz.func96,Tryz.ntmps96
   go_wp2_with (first
    | (go_at_call 124;((with_reducible refine HS.o.mono ?_);rintro e w1 ⟨rfl,h1⟩;have yY:=ae (show Calls Tryz.prog 68 #[.pointer (some ⟨b,0,none⟩),.int .i64 5] w1 (Out res w b tv ts deep vs)from HL.o w1 h1);clear h1))
    | (go_at_call 68;((with_reducible refine yY.o.mono ?_);intro e w2 ho;have oP:=ae ho;obtain⟨c,rfl⟩:=ho.ret;clear ho)))
   go_ret;exact oP.o
 · have hnx := BJ h hq
   rw[hq,ag rfl]at au;rw[hq]at HS;by_cases hd:12≤deep
   · rw [ag hd]at au
     injection au with au;have HR:=ae au.symm;clear hq au h IH;go_enter Tryz.func96,Tryz.ntmps96
     go_wp2_with (first
      | (go_at_call 124;((with_reducible refine HS.o.mono ?_);rintro e w1 ⟨rfl,h1⟩;have kQ:=ae (Fr.of b h1);have fZ:=ae (zM (HP.o.below h1) hnx);clear h1))
      | (go_at_call 125;((with_reducible refine fZ.o.mono ?_);rintro e w2 ⟨h1,⟨-,rfl⟩|⟨h2, -⟩⟩;rotate_left;exact absurd hd h2;have bT:=ae (kQ.o.trans h1);clear h1)))
     go_ret;exact Out.err HR.o (.inr rfl) bT.o
   · rw [af hd,List.tail_drop]at au
     rcases eO au with ⟨c,h1,rfl⟩|⟨ns,a,r,h1,h2⟩
     · have HI:=ae (fun w2 hps=>IH f (aj _) 4 (deep+1) _ w2 b tv ts (p+1) nv vs (by omega) hps h1)
       clear hq au h IH h1;go_enter Tryz.func96,Tryz.ntmps96
       go_wp2_with (first
        | (go_at_call 124;((with_reducible refine HS.o.mono ?_);rintro e w1 ⟨rfl,h1⟩;have kQ:=ae (Fr.of b h1);have fZ:=ae (zM (HP.o.below h1) hnx);clear h1))
        | (go_at_call 125;((with_reducible refine fZ.o.mono ?_);rintro e w2 ⟨h1,⟨h2, -⟩|⟨-,rfl,h3⟩⟩;exact absurd h2 hd;have bT:=ae (kQ.o.trans h1);have HL:=ae (show Calls Tryz.prog 68 #[.pointer (some ⟨b,0,none⟩),.int .i64 4] w2 (Out (.error c) w2 b tv ts (deep+1) vs)from HI.o w2 h3);clear h1 h3))
        | (go_at_call 68;((with_reducible refine HL.o.mono ?_);intro e w5 ho;obtain⟨hf,hc,rfl⟩:=ho.bad rfl;have bq:=ae (bT.o.trans hf);have HC:=ae hc;have hc0:(c != 0)=true:=(by rw[bne_iff_ne];rcases hc with h|h <;> omega);clear hf hc ho)))
       go_ret;exact Out.err rfl HC.o bq.o
     · have HI:=ae (fun w2 hps=>IH f (aj _) 4 (deep+1) _ w2 b tv ts (p+1) nv vs (by omega) hps h1)
       have H1:=ae h1;injection h2 with h2;have HR:=ae h2.symm;have hcn:=h.cnt;have aca:deep≤12:=by omega
       clear hq au h IH h1 h2;go_enter Tryz.func96,Tryz.ntmps96
       go_upto_region 9 with (first
        | (go_at_call 124;((with_reducible refine HS.o.mono ?_);rintro e w1 ⟨rfl,h1⟩;have kQ:=ae (Fr.of b h1);have fZ:=ae (zM (HP.o.below h1) hnx);clear h1))
        | (go_at_call 125;((with_reducible refine fZ.o.mono ?_);rintro e w2 ⟨h1,⟨h2, -⟩|⟨-,rfl,h3⟩⟩;exact absurd h2 hd;have bT:=ae (kQ.o.trans h1);have HL:=ae (show Calls Tryz.prog 68 #[.pointer (some ⟨b,0,none⟩),.int .i64 4] w2 (Out (.ok (ns,a,r)) w2 b tv ts (deep+1) vs)from HI.o w2 h3);clear h1 h3))
        | (go_at_call 68;((with_reducible refine HL.o.mono ?_);intro e w5 ho;obtain⟨hf,rfl,p5,o6,dV,lY,l5,hk5,iY⟩:=ho.sU rfl;have bq:=ae (bT.o.trans hf);have aS:=ae iY;have HD5:=ae lY;have lD:=ae l5;have jQ:=ae hk5;clear hf ho lY l5 hk5 iY)))
       have hz:=bT.o.size;obtain⟨c0,c1,c2,c3⟩:=aS.o.facts;have f2:=aS.o.frozen 2;rw[show((deep+1:Nat):Int)=(deep:Int)+1 from rfl]at c2;clear c0 c1 c3;go_upto_region 10 with (fail)
       have bU:=ae (aS.o.qO deep aca);have eG:=ae (bq.o.setCell 2 (.int .i64 (deep:Int)));have mU:=ae (show(w5.setCell ⟨b,2,none⟩ (.int .i64 (deep:Int))).heap.size=w5.heap.size by simp);obtain⟨hc1,hc2,hc3⟩:=zu H1.o HD5.o aS.o.lt;have akD:=bq.o.size;clear c2 f2 aS bq HL;generalize w5.setCell ⟨b,2,none⟩ (.int .i64 (deep:Int))=w6 at bU eG mU ⊢;have G7:dV.length=ns.length:=by rw[← lD.o,eF]
       have GN:(vs++dV).length=vs.length+dV.length:=ax;have Yn:=ae (IV bU.o a (by omega));have hbl:=bU.o.blt;have Li:Below w6.heap.size w6 (w6.alloc (.cells #[.int .i64 (a:Int)] 3)):=(ak _ _).alloc (aj _) _;have bO:=ae (bU.o.below Li);have cz:=ae (eG.o.below Li);have HA:=ae (show Calls Tryz.prog 126 #[.pointer (some ⟨b,0,none⟩),.agg (nB 8 0 ⟨#[]⟩ (.slice (some ⟨w6.heap.size,0,none⟩) 1 1))] (w6.alloc (.cells #[.int .i64 (a:Int)] 3)) _ from Ej bO.o ⟨{ Nd.zero with kind:=8,kids:=[(a:Int)] },some (w6.heap.size,1)⟩ (Io w6 (b+1) (a:Int) (by omega)) (by omega) (.slice (some ⟨w6.heap.size,0,none⟩) 1 1) rfl { Nd.zero with kind:=8,kids:=[(a:Int)] } rfl);clear Li
       go_wp2_with (first
        | (go_at_call 127;((with_reducible refine Yn.o.mono ?_);rintro e wn ⟨rfl,rfl⟩))
        | (go_at_call 126;((with_reducible refine HA.o.mono ?_);rintro e w8 ⟨h1,rfl,zK,h3⟩;have nG:=ae (cz.o.trans h1);have gP:=ae h3;clear h1 h3)))
       go_ret;refine⟨nG.o,.inr ⟨_,_,_,HR.o,rfl,p5,zK,dV++[⟨{ Nd.zero with kind:=8,kids:=[(a:Int)] },some (w6.heap.size,1)⟩],HD5.o, ?_, ?_,by rw[← bQ];exact gP.o⟩⟩
       · rw[iL,lD.o];rfl
       · intro u hu j hj
         rcases dQ.1 hu with hu|hu
         · exact bN hz (jQ.o u hu j hj)
         · rw[gM.1 hu]at hj
           have hj:some w6.heap.size=some j:=hj;injection hj with hj;have:=mU.o;omega
theorem QO:∀F:Nat,yP F:=by
 intro F
 induction F using Nat.strongRecOn with
 | _ F ih =>
   intro n deep res w b tv ts p nv vs hn h au
   match F,ih,au with
   | 0,_,au=>unfold eZ at au;cases au
   | f+1,ih,au =>
   have IH:∀g,g≤f→yP g:=fun g hg=>ih g (by omega)
   by_cases h3:n≤3
   · rw[lW,ag h3]at au
     exact adR b w _ (fun e w' ho=>ho.ret) n h3 fun w' hb=>(ahq f IH n h3 (h.below hb) res au).mono fun e w'' ho=>Out.from (Fr.of b hb) ho
   · have e4:n=4:=by omega
     subst e4;refine Mr b 4 (by omega) w _ (fun e w' ho=>ho.ret) fun w' hb => ?_
     rw[lv4];exact(ajF f IH (h.below hb) res au).mono fun e w'' ho=>Out.from (Fr.of b hb) ho
def Co:Nat→Nat→List ah→Prop
 | p,q,[]=>p≤q
 | p,q,t :: ts=>∃m:Nat,t.pos=(m:Int)∧p≤m∧m≤q∧Co m q ts
theorem Co.less {p p' q:Nat}(h:p'≤p):∀ {ts:List ah},Co p q ts→Co p' q ts
 | [],k=>bN h k
 | _ :: _,⟨m,h1,h2,h3,h4⟩=>⟨m,h1,bN h h2,h3,h4⟩
theorem Tw:∀(f p:Nat)(l:List Int)(ts:List ah),fE f p l=some ts→Co p (p+l.length) ts
 | f,p,[],ts,h=>by
   have h0:fE f p []=some [ah.zero.goto p]:=by unfold fE;rfl
   rw[h0]at h;injection h with h;subst h;exact⟨p,rfl,aj _,by simp,by simp[Co]⟩
 | 0,_,_ :: _,_,h=>by unfold fE at h;cases h
 | f + 1,p,x :: l,ts,h=>by
   rw[tq]at h;by_cases hx:x=32
   · rw[ag hx]at h
     have:=Tw f (p+1) l ts h;rw[show p+1+l.length=p+(x :: l).length by simp only[bf];omega]at this;exact this.less (Nat.le_succ _)
   · rw [af hx]at h
     cases hq:fJ (x :: l)with
     | none=>rw[hq]at h;cases h
     | some q =>
       obtain⟨t0,n⟩:=q;have hn:=rY _ _ _ hq;rw[hq]at h;simp only[Option.map_eq_some_iff]at h;obtain⟨us,h1,rfl⟩:=h;have:=Tw f (p+n) ((x :: l).drop n) us h1;rw[show p+n+((x :: l).drop n).length=p+(x :: l).length by rw[lq];omega]at this;exact⟨p,rfl,aj _,by omega,this.less (by omega)⟩
theorem Mv (s:ByteArray)(ts:List ah)(h:gT (sb s)=some ts):ts≠[]:=by
 have key : ∀ (f p:Nat)(l:List Int)(ts:List ah),fE f p l=some ts→ts≠[]:=by
  intro f
  induction f with
  | zero =>
    intro p l ts h;cases l with
    | nil => have h0:fE 0 p []=some [ah.zero.goto p]:=by unfold fE;rfl
             rw[h0]at h;injection h with h;subst h;simp
    | cons x l=>unfold fE at h;cases h
  | succ f ih =>
    intro p l ts h;cases l with
    | nil => have h0:fE (f+1) p []=some [ah.zero.goto p]:=by unfold fE;rfl
             rw[h0]at h;injection h with h;subst h;simp
    | cons x l =>
      rw[tq]at h;by_cases hx:x=32
      · rw[ag hx]at h;exact ih _ _ _ h
      · rw [af hx]at h
        split at h
        · cases h
        · simp only[Option.map_eq_some_iff]at h
          obtain⟨us,_,rfl⟩:=h;simp
 exact key _ _ _ _ h
theorem Tz (s:ByteArray)(ts:List ah)(h:gT (sb s)=some ts):ts.length≤s.size+1:=by
 have key : ∀ (f p:Nat)(l:List Int)(ts:List ah),fE f p l=some ts→ts.length≤l.length+1:=by
  intro f
  induction f with
  | zero =>
    intro p l ts h;cases l with
    | nil => have h0:fE 0 p []=some [ah.zero.goto p]:=by unfold fE;rfl
             rw[h0]at h;injection h with h;subst h;simp
    | cons x l=>unfold fE at h;cases h
  | succ f ih =>
    intro p l ts h;cases l with
    | nil => have h0:fE (f+1) p []=some [ah.zero.goto p]:=by unfold fE;rfl
             rw[h0]at h;injection h with h;subst h;simp
    | cons x l =>
      rw[tq]at h;by_cases hx:x=32
      · rw[ag hx]at h;have:=ih _ _ _ h;simp only[bf];omega
      · rw [af hx]at h
        cases hq:fJ (x :: l)with
        | none=>rw[hq]at h;cases h
        | some q =>
          obtain⟨t0,n⟩:=q;have hn:=rY _ _ _ hq;rw[hq]at h;simp only[Option.map_eq_some_iff]at h;obtain⟨us,h1,rfl⟩:=h;have:=ih _ _ _ h1;rw[lq]at this;simp only[bf]at this hn ⊢;omega
 have:=key _ _ _ _ h;rw[bC]at this;exact this
theorem oq(h:Below w.heap.size w w')(n:Nat):Below w.heap.size w (w'.drewN n):=⟨h.os,h.tape,h.output,h.size,h.block⟩
theorem TG (s:ByteArray)(w:World)(hv:Vars w)(hs:300<s.size) :
 Calls Tryz.prog 67 #[.string s] w fun e w'=>Below w.heap.size w w'∧e = .returned (.tuple #[.slice none 0 0,.int .i64 4]):=by
 refine(Mx s w hv).mono ?_;rintro e w' ⟨hb,⟨_,rfl⟩|⟨h,_⟩|⟨h,_⟩⟩
 · exact⟨hb,rfl⟩
 · omega
 · omega
theorem VN (kd:Int)(l:Array Value)(hl:l[0]? = some (.int .i64 kd))(w:World):Sem.run Tryz.prog (Instr.field 113 (.agg l) 0) w = .ok (.int .i64 kd) w:=by
 simp[Instr.field,run_underlying Tryz.underlying113,part,isAgg,run_underlying Tryz.underlying3,asAgg,hl,go_sem]
def gZ (s:ByteArray)(res:Except Int (List Nd)):Prop :=
 (300<s.size∧res = .error 4)∨(s.size≤300∧gT (sb s)=none∧res = .error 5)∨(s.size≤300∧∃ts f,gT (sb s)=some ts∧j4 f ts=some res)
theorem gZ.all (s:ByteArray):∃res,gZ s res:=by
 by_cases h:300<s.size
 · exact⟨_,.inl ⟨h,rfl⟩⟩
 · cases hl:gT (sb s)with
   | none=>exact⟨_,.inr (.inl ⟨by omega,hl,rfl⟩)⟩
   | some ts =>
     obtain⟨f,y,hy⟩:=afX ts;exact⟨y,.inr (.inr ⟨by omega,ts,f,hl,hy⟩)⟩
def Y0 (res:Except Int (List Nd))(w:World)(e:Ending)(w':World):Prop :=
 Below w.heap.size w w'∧((∃c,res = .error c∧e = .returned (.tuple #[.slice none 0 0,.int .i64 c])) ∨
  (∃ns nv vs,res = .ok ns∧vs.map aK.n=ns∧e = .returned (.tuple #[nv,.int .i64 0])∧kG w' w.heap.size nv vs∧dA ns=true))
theorem kG.mono{lo lo':Nat}{nv:Value}{vs:List aK}(h:kG w lo nv vs)(hl:lo'≤lo):kG w lo' nv vs:=⟨h.1.mono hl,fun v hv=>(h.2 v hv).mono hl⟩
theorem UM (s:ByteArray)(w:World)(hv:Vars w)(ho:nY w)(res:Except Int (List Nd))(hp:gZ s res) :
 Calls Tryz.prog 45 #[.string s] w (Y0 res w):=by
 rcases hp with ⟨h1,rfl⟩|⟨h1,h2,rfl⟩|⟨h1,ts,f,h2,h3⟩
 · have HL:=ae (TG s w hv h1)
   clear hv ho h1;go_enter Tryz.func45,Tryz.ntmps45;go_wp2_with (go_at_call 67;((with_reducible refine HL.o.mono ?_);rintro e w1 ⟨hb,rfl⟩;have HB:=ae hb;clear hb))
   go_ret2
   exact⟨HB.o,.inl ⟨4,rfl,rfl⟩⟩
 · have HL:=ae (TF s w hv h1 h2)
   clear hv ho h1 h2;go_enter Tryz.func45,Tryz.ntmps45;go_wp2_with (go_at_call 67;((with_reducible refine HL.o.mono ?_);rintro e w1 ⟨hb,rfl⟩;have HB:=ae hb;clear hb))
   go_ret2
   exact⟨HB.o,.inl ⟨5,rfl,rfl⟩⟩
 · obtain ⟨yu,A9⟩:=Hy s ts h2
   have hlen:=Tz s ts h2;have hne:=List.length_pos_iff.2 (Mv s ts h2);have HL:=ae (TE s w hv h1 ts h2 hne);have hvl:=hv.lt;have hol:=ho.lt;have O9:=ae ho;have DK:=ae A9;have YH:=ae (fun ns (h:res = .ok ns)=>UO (by rw[← h];exact h3) yu);unfold j4 at h3;have H3:=ae h3;obtain⟨nt,hnt⟩:∃nt,ts.length=nt:=⟨_,rfl⟩;have mE:=ae hnt;rw[hnt]at HL hlen hne;clear hv ho h2 h3 yu A9 hnt;go_enter Tryz.func45,Tryz.ntmps45;go_upto_region 5 with (go_at_call 67;((with_reducible refine HL.o.mono ?_);rintro e w1 ⟨hb,g1,fu,rfl,hg0,hg1,ho⟩;have fZ:=ae ho;have HB:=ae hb;clear hb ho))
   have hB2:Below w1.heap.size w1 (w1.alloc (.cells #[.slice (some ⟨g1,0,none⟩) nt fu,.int .i64 0,.int .i64 0,.slice none 0 0] 110)):=(ak _ _).alloc (aj _) _;have hC2:(w1.alloc (.cells #[.slice (some ⟨g1,0,none⟩) nt fu,.int .i64 0,.int .i64 0,.slice none 0 0] 110)).heap[w1.heap.size]? = some (.cells #[.slice (some ⟨g1,0,none⟩) nt fu,.int .i64 0,.int .i64 0,.slice none 0 0] 110):=(lu w1 _).1;have nW:=ae (fZ.o.below hB2 (aj _));have JY:=ae (O9.o.below (HB.o.trans (hB2.mono HB.o.size)));have HZ1:=ae HB.o.size;have HB2:=ae (HB.o.trans (hB2.mono HB.o.size));clear hB2 HB HL fZ O9;generalize w1.alloc (.cells #[.slice (some ⟨g1,0,none⟩) nt fu,.int .i64 0,.int .i64 0,.slice none 0 0] 110)=w2 at hC2 nW JY HB2 ⊢;obtain⟨b,hb⟩:∃b,w1.heap.size=b:=⟨_,rfl⟩;rw[hb]at hC2 hg1 HZ1 ⊢;have hz1:=HZ1.o
   have HP:=ae (show cB w2 b (.slice (some ⟨g1,0,none⟩) nt fu) ts 0 0 (.slice none 0 0) []from
    ⟨hC2,⟨g1,fu,by rw[mE.o],hg1,nW.o.mono (ek _)⟩,kG.nil _ _,JY.o,by rw[mE.o];exact hne,by omega,DK.o,by rw[mE.o];omega,ek _,by omega⟩)
   clear hb hC2 nW JY DK w1;rcases eO H3.o with ⟨c,g2,rfl⟩|⟨ns,a,r,g2,g3⟩
   · have HX:=ae (show Calls Tryz.prog 68 #[.pointer (some ⟨b,0,none⟩),.int .i64 0] w2 (Out (.error c) w2 b (.slice (some ⟨g1,0,none⟩) nt fu) ts 0 [])from QO f 0 0 _ w2 b _ ts 0 _ [] (by omega) HP.o g2)
     clear g2 H3;go_wp2_with (go_at_call 68;((with_reducible refine HX.o.mono ?_);intro e w5 ho;obtain⟨hf,hc,rfl⟩:=ho.bad rfl;have eX:=ae (HB2.o.trans (hf.toBelow hz1 HB2.o.size));have hc0:(c != 0)=true:=(by rw[bne_iff_ne];rcases hc with h|h <;> omega);clear hf hc ho))
     go_ret2
     exact⟨eX.o,.inl ⟨c,rfl,rfl⟩⟩
   · have HX:=ae (show Calls Tryz.prog 68 #[.pointer (some ⟨b,0,none⟩),.int .i64 0] w2 (Out (.ok (ns,a,r)) w2 b (.slice (some ⟨g1,0,none⟩) nt fu) ts 0 [])from QO f 0 0 _ w2 b _ ts 0 _ [] (by omega) HP.o g2)
     have hns:=((wG f).1 _ _ _ _ _ _ _ g2).2.2;have H4:=ae g3;clear g2 g3 H3;go_upto_region 8 with (go_at_call 68;((with_reducible refine HX.o.mono ?_);intro e w5 ho;obtain⟨hf,rfl,p5,o6,dV,lY,l5,hk5,iY⟩:=ho.sU rfl;have eX:=ae (HB2.o.trans (hf.toBelow hz1 HB2.o.size));have aS:=ae iY;have HD5:=ae lY;have lD:=ae l5;clear hf ho lY l5 hk5 iY))
     obtain⟨gt,ct,t, -,ht,hd, -⟩:=aS.o.tok;have h4:=H4.o;rw[← HD5.o,hd]at h4;have aT:=ae (Iy aS.o t ht);obtain⟨g5,Qs,rfl, -⟩:=Own.some aS.o.nodes.1 (show 0<([]++dV).length by rw[gX, ← eF (f:=aK.n),lD.o];omega);obtain⟨kd,hkd⟩:∃kd,t.kind=kd:=⟨_,rfl⟩;rw[hkd]at aT;clear HX ht hd H4;by_cases h0:t.kind=0
     · rw[show uN (t :: ts.drop (p5+1))=t.kind from rfl,ag h0]at h4
       injection h4 with h4;have HR:=ae h4.symm;have e0:(kd != 0)=false:=by rw[← hkd,h0];rfl
       clear h4 h0 hkd;go_wp2_with (go_at_call 69;((with_reducible refine aT.o.mono ?_);rintro e w6 ⟨rfl,h1⟩;have iR:=ae (eX.o.trans (h1.mono eX.o.size));have bU:=ae (aS.o.below h1);obtain⟨c0,c1,c2,c3⟩:=bU.o.facts;have RJ:=VN kd #[.int .i64 kd,.string t.text,.int .i64 t.num,.string t.sh,.int .i64 t.c,.int .i64 t.r,.bool t.ac,.bool t.ar,.int .i64 t.pos] rfl w6;clear h1))
       go_ret2
       exact⟨iR.o,.inr ⟨ns,_,[]++dV,HR.o,by rw[gX];exact lD.o,rfl,bU.o.nodes.mono (by omega),YH.o ns HR.o⟩⟩
     · rw[show uN (t :: ts.drop (p5+1))=t.kind from rfl,af h0]at h4
       injection h4 with h4;have HR:=ae h4.symm;have e0:(kd != 0)=true:=by rw[bne_iff_ne, ← hkd];exact h0
       clear h4 h0 hkd;go_wp2_with (go_at_call 69;((with_reducible refine aT.o.mono ?_);rintro e w6 ⟨rfl,h1⟩;have iR:=ae (eX.o.trans (h1.mono eX.o.size));have RJ:=VN kd #[.int .i64 kd,.string t.text,.int .i64 t.num,.string t.sh,.int .i64 t.c,.int .i64 t.r,.bool t.ac,.bool t.ar,.int .i64 t.pos] rfl w6;clear h1))
       go_ret2
       exact⟨iR.o,.inl ⟨5,HR.o,rfl⟩⟩
theorem afY (s:ByteArray)(w:World)(hv:Vars w)(ho:nY w)(c:Int)(hp:gZ s (.error c)) :
 Calls Tryz.prog 45 #[.string s] w fun e w'=>Below w.heap.size w w'∧e = .returned (.tuple #[.slice none 0 0,.int .i64 c]):=by
 refine(UM s w hv ho _ hp).mono ?_;rintro e w' ⟨hb,⟨c',h1,h2⟩|⟨ns,nv,vs,h1,_⟩⟩
 · injection h1 with h1;subst h1;exact⟨hb,h2⟩
 · cases h1
theorem afZ (s:ByteArray)(w:World)(hv:Vars w)(ho:nY w)(ns:List Nd)(hp:gZ s (.ok ns))(hne:0<ns.length) :
 Calls Tryz.prog 45 #[.string s] w fun e w'=>Below w.heap.size w w'∧∃g cap vs,e = .returned (.tuple #[.slice (some ⟨g,0,none⟩) ns.length cap,.int .i64 0])∧vs.map aK.n=ns∧vs.length=ns.length∧kG w' w.heap.size (.slice (some ⟨g,0,none⟩) ns.length cap) vs∧dA ns=true:=by
 refine(UM s w hv ho _ hp).mono ?_;rintro e w' ⟨hb,⟨c',h1,h2⟩|⟨ns',nv,vs,h1,h2,h3,h4,h5⟩⟩
 · cases h1
 · injection h1 with h1;subst h1
   have hl:vs.length=ns.length:=by rw[← h2,eF]
   obtain⟨g,cap,rfl, -⟩:=Own.some h4.1 (by omega);rw[hl]at h3 h4;exact⟨hb,g,cap,vs,h3,h2,hl,h4,h5⟩
theorem kG.cell {w:World}{lo g n cap:Nat}{vs:List aK}(h:kG w lo (.slice (some ⟨g,0,none⟩) n cap) vs)(i:Nat)(v:aK)(hi:vs[i]? = some v)(j:Nat)(hj:j<14):w.cell? ⟨g,i*14+j,none⟩=(bA v.n v.aY).toList[j]? := by
 have hl:(bA v.n v.aY).toList.length=14:=rfl;have hu:(qD.f v)[j]? = some ((bA v.n v.aY).toList[j]'(by omega)):=cZ _;have:=Own.cells h.1 (i*14+j) _ (by rw[qD.at vs i j v hi hj];exact hu);rw[this];exact hu.symm
theorem ahN:∀(n u:Nat),u<n→sb ⟨(Lib.decDigits u).toArray⟩=bn u:=by
 have VQ:∀l:List UInt8,sb ⟨l.toArray⟩=l.map (fun b=>(b.toNat:Int)):=fun l=>rfl
 intro n
 induction n with
 | zero=>intro u h;omega
 | succ n ih =>
   intro u hu;rw[VQ,Lib.decDigits];by_cases h:u<10
   · rw[dif_pos h,pR u h]
     simp only[jr,List.map_nil];rw[UInt8.toNat_ofNat_of_lt' (by show 48+u<256;omega)];congr 1
   · rw[dif_neg h,uC u h,iL, ← VQ,ih (u / 10) (by omega)]
     simp only[jr,List.map_nil];rw[UInt8.toNat_ofNat_of_lt' (by show 48+u % 10<256;omega)];congr 1
theorem aar (u:Nat):(⟨(Lib.decDigits u).toArray⟩:ByteArray)=strOfNums (bn u):=by
 rw[← nA ⟨(Lib.decDigits u).toArray⟩,ahN (u+1) u (by omega)]
def lU (w : World) : Prop := Lib.TabIs Tryz.prog w "internal/strconv.uint64pow10" .u64 Lib.pow10Tab
theorem Rf : Tryz.prog.globalNamed "internal/strconv.uint64pow10" = some 3 := by kernel_rfl
theorem lU.below (h:lU w)(hb:Below w.heap.size w w'):lU w':=by
 unfold lU Lib.TabIs World.var? at h ⊢;rw[Rf]at h ⊢;simp only[Option.bind_some]at h ⊢;rw[hb.block _ ?_]
 · exact h
 · rcases Nat.lt_or_ge 3 w.heap.size with h'|h'
   · exact h'
   · rw[Array.getElem?_eq_none h']at h;cases h
theorem Zu (w:World)(k:Nat)(os:Array Obj):Below w.heap.size w (Sort.grow (w.drewN k) os):=by
 refine⟨rfl,rfl,rfl, ?_, ?_⟩
 · show w.heap.size≤(w.heap++os).size
   simp
 · intro j hj
   show(w.heap++os)[j]? = w.heap[j]?;rw[Array.getElem?_append_left hj]
theorem Td (n:Nat)(_h1:n≤9223372036854775807)(w:World)(ht:lU w) :
 Calls Tryz.prog 133 #[.int .i64 (n:Int)] w fun e w'=>e = .returned (.string (strOfNums (bn n)))∧Below w.heap.size w w':=by
 refine(Tryz.strconv_Itoa (n:Int) (by omega) (by omega) w ht).mono ?_;rintro e w' ⟨rfl,k,os,rfl⟩;refine⟨?_,Zu w k os⟩;have:Lib.itoa (n:Int)=Lib.decDigits n:=by unfold Lib.itoa;rw[af (by omega)];rfl
 rw[this,aar]
theorem Bu (s:ByteArray)(c r:Int)(ac ar:Bool)(w:World)(_hs:s.size≤1000000) :
 Calls Tryz.prog 64 #[.agg #[.string s,.int .i64 c,.int .i64 r,.bool ac,.bool ar]] w fun e w'=>e = .returned (.bool (dO (sb s) c r))∧Below w.heap.size w w':=by
 by_cases h0:s.size=0
 · have:=wD s h0
   subst this;have hm:dO (sb ⟨#[]⟩) c r=decide (0≤c∧c≤701∧0≤r∧r≤998):=by unfold dO;rw[show decide (sb ⟨#[]⟩=[])=true from by decide,Bool.true_or,gV]
   have HM:=ae hm;clear hm;go_enter Tryz.func64,Tryz.ntmps64
   go_wp2
   all_goals go_ret
   all_goals exact⟨gu (by rw[HM.o];first|(symm;rw[aQ];omega)|(symm;rw[jv];omega)|(rw[decide_eq_decide];omega)),(ak _ _).alloc (aj _) _⟩
 · have hne:=qg s h0
   have uG:s.toList.isEmpty=false:=by cases hq:s.toList with|nil=>exact absurd hq hne|cons a l=>rfl
   have hm:dO (sb s) c r=(iI (sb s)&&decide (0≤c∧c≤701∧0≤r∧r≤998)):=by
    unfold dO;rw[aV (by intro h;have:=bC s;rw[h]at this;exact h0 this.symm),Bool.false_or]
   have HM:=ae hm;clear hm h0;by_cases hn:iI (sb s)=true
   · go_enter Tryz.func64,Tryz.ntmps64
     go_wp2_with (first
      | (go_at_call 88;((with_reducible refine(H9 _ _ ?_).mono ?_);(try omega);rintro e w' ⟨rfl,rfl⟩)))
     all_goals go_ret
     all_goals exact⟨gu (by rw[HM.o,hn,gV];first|(symm;rw[aQ];omega)|(symm;rw[jv];omega)|(rw[decide_eq_decide];omega)),(ak _ _).alloc (aj _) _⟩
   · have hn':iI (sb s)=false:=by simpa using hn
     clear hn;go_enter Tryz.func64,Tryz.ntmps64
     go_wp2_with (first
      | (go_at_call 88;((with_reducible refine(H9 _ _ ?_).mono ?_);(try omega);rintro e w' ⟨rfl,rfl⟩)))
     all_goals go_ret
     all_goals exact⟨gu (by rw[HM.o,hn',Bool.false_and]),(ak _ _).alloc (aj _) _⟩
theorem aeY (s:ByteArray)(h:jL (sb s)=true)(hr:iA s=none):∃t ts,gT (sb s)=some (t :: ts)∧t.kind=3∧t.text=s:=by
 have hc:=h;unfold jL at hc;rw[dJ,dJ,aQ,aQ]at hc;obtain⟨c1,c2,c3⟩:=hc;have hs:=nA s;cases hq:sb s with
 | nil=>rw[hq]at c2;simp at c2
 | cons x l =>
   rw[hq]at c1 c3 hs h
   have aX:∀y∈x :: l,isWord y=true:=by
    intro y hy;have:=c1 y hy;rw[Bool.or_eq_true]at this;rcases this with g|g
    · rw[Hf,SL g];rfl
    · rw[Hf,g];simp
   have hx:aU x=true:=by simpa using c3
   have hxr:65≤x∧x≤90:=by unfold aU at hx;rw[aQ]at hx;omega
   have h1:¬ isNum x=true:=by unfold isNum;rw[aQ];omega
   have hl:isLet x=true:=by unfold isLet;rw[aQ];omega
   have ht:(x :: l).takeWhile isWord=x :: l:=by
    have:=wF isWord (x :: l) [] aX (fun y hy=>by simp at hy);rw[gL]at this;exact this
   have G6:fJ (x :: l)=some ({ ah.zero with kind:=3,text:=s },(x :: l).length):=by
    rw[rX,af h1,af (by omega),af (by omega),ag (.inl hl)];unfold nD;rw[ht,hs,hr];simp only;rw[ag h]
   refine⟨({ ah.zero with kind:=3,text:=s }:ah).goto 0,[ah.zero.goto (0+(x :: l).length)], ?_,rfl,rfl⟩;unfold gT;rw[bf,tq,af (by omega),G6];simp only;rw[List.drop_length];have:fE l.length (0+(x :: l).length) []=some [ah.zero.goto (0+(x :: l).length)]:=by unfold fE;rfl
   rw[this];rfl
theorem KQ(s:ByteArray):kv s=((jL (sb s)&&(iA s).isNone)&&(decide (¬ s=⟨#[84,82,85,69]⟩)&&decide (¬ s=⟨#[70,65,76,83,69]⟩))):=by unfold kv;rw[Bool.and_assoc]
theorem Qo (s:ByteArray)(h:∀t ts,gT (sb s)=some (t :: ts)→¬ (t.kind=3∧t.text=s)):kv s=false:=by
 rw[KQ];cases hc:jL (sb s)
 · rfl
 · cases hr:iA s with
   | some d=>rfl
   | none =>
     obtain⟨t,ts,h1,h2,h3⟩:=aeY s hc hr;exact absurd ⟨h2,h3⟩ (h t ts h1)
theorem ZB (s:ByteArray)(h:12<s.size):kv s=false:=by
 rw[KQ]
 have:jL (sb s)=false:=by
  unfold jL;rw[aV (show ¬ (1≤(sb s).length∧(sb s).length≤12)by rw[bC];omega),Bool.false_and,Bool.and_false]
 rw[this];rfl
theorem acT (s:ByteArray)(w:World)(hv:Vars w):Calls Tryz.prog 84 #[.string s] w fun e w'=>e = .returned (.bool (kv s))∧Below w.heap.size w w':=by
 have bad:∀c:Int,(c != 0)=true→kv s=false→(Calls Tryz.prog 67 #[.string s] w fun e w'=>Below w.heap.size w w'∧e = .returned (.tuple #[.slice none 0 0,.int .i64 c])) →
  Calls Tryz.prog 84 #[.string s] w fun e w'=>e = .returned (.bool (kv s))∧Below w.heap.size w w':=by
  intro c hc hb hl;have HL:=ae hl;have HB0:=ae hb;have hc2:(c == 0)=false:=by rw[aA];exact bne_iff_ne.1 hc
  clear hl hb;go_enter Tryz.func84,Tryz.ntmps84;go_wp2_with (go_at_call 67;((with_reducible refine HL.o.mono ?_);rintro e w1 ⟨hb,rfl⟩;have HB:=ae hb;clear hb))
  go_ret;exact⟨by rw[HB0.o] <;> rfl,HB.o⟩
 by_cases rC:300<s.size
 · exact bad 4 rfl (ZB s (by omega)) (TG s w hv rC)
 · cases hl : gT (sb s)with
   | none=>exact bad 5 rfl (Qo s (fun t ts h=>by rw[hl]at h;cases h)) (TF s w hv (by omega) hl)
   | some ts =>
     have hne:=Mv s ts hl;obtain⟨yu,_⟩:=Hy s ts hl
     match ts,hne,hl,yu with
     | t :: tl,_,hl,yu =>
     have HX:=ae (TE s w hv (by omega) (t :: tl) hl (by simp));have hg:=yu t (by simp);obtain⟨kd,hkd⟩:∃kd,t.kind=kd:=⟨_,rfl⟩;obtain⟨tx,htx⟩:∃tx,t.text=tx:=⟨_,rfl⟩;have HC:=ae (fun h=>Qo s (fun t' ts' h'=>by rw[hl]at h';injection h' with h';injection h' with h1 h2;subst h1;exact h))
     have HG:=ae (show kd=3→tx=s→kv s=(decide (¬ s=⟨#[84,82,85,69]⟩)&&decide (¬ s=⟨#[70,65,76,83,69]⟩))from by
      intro h1 h2;obtain⟨g1,g2⟩:=hg.name (by rw[hkd,h1]);rw[htx,h2]at g1 g2;rw[KQ,g1,g2];rfl)
     have HK:=ae hkd;have HT:=ae htx;obtain⟨n,hn⟩:∃n,(t :: tl).length=n:=⟨_,rfl⟩;have hn1:0<n:=by rw[← hn];simp
     rw[hn]at HX;have q1:=Ac s ⟨#[84,82,85,69]⟩;have q2:=Ac s ⟨#[70,65,76,83,69]⟩;rw[HV]at q1;rw[Hz]at q2;clear hl yu hg hkd htx hn hne bad;go_enter Tryz.func84,Tryz.ntmps84;go_upto_region 2 with (go_at_call 67;((with_reducible refine HX.o.mono ?_);rintro e w1 ⟨hb,g,cap,rfl,hg0,hg1,ho⟩;have HB:=ae hb;have k0:w1.cell? ⟨g,0,none⟩=some (.int .i64 kd):=((sO.cell ho 0 t rfl 0 (by omega)).trans (by show some (Value.int .i64 t.kind)=_;rw[HK.o]));have k1:w1.cell? ⟨g,1,none⟩=some (.string tx):=((sO.cell ho 0 t rfl 1 (by omega)).trans (by show some (Value.string t.text)=_;rw[HT.o]));clear hb ho))
     have hni:(0:Int)<(n:Int):=by omega
     by_cases h3:kd=3
     · have e3:(kd == 3)=true:=bB.2 h3
       by_cases hs:tx=s
       · have HR:=ae (HG.o h3 hs)
         have q3:(tx.toList == s.toList)=true:=by rw[hs];simp
         clear h3 hs HC HG HK HT HX;by_cases h1:s=⟨#[84,82,85,69]⟩
         · rw[aR h1]at q1
           rw[aV (show ¬ ¬ s=⟨#[84,82,85,69]⟩from fun h=>h h1),Bool.false_and]at HR;have M8:(s.toList != [84,82,85,69])=false:=by rw[bne,q1];rfl
           clear h1;go_wp2_with fail
           go_ret;exact⟨by rw[HR.o] <;> rfl,HB.o⟩
         · rw [aV h1]at q1
           rw[aR h1,gV]at HR;have M8:(s.toList != [84,82,85,69])=true:=by rw[bne,q1];rfl
           clear h1;by_cases h2:s=⟨#[70,65,76,83,69]⟩
           · rw[aR h2]at q2
             rw[aV (show ¬ ¬ s=⟨#[70,65,76,83,69]⟩from fun h=>h h2)]at HR;have M9:(s.toList != [70,65,76,83,69])=false:=by rw[bne,q2];rfl
             clear h2;go_wp2_with fail
             go_ret;exact⟨by rw[HR.o] <;> rfl,HB.o⟩
           · rw[aV h2]at q2
             rw[aR h2]at HR;have M9:(s.toList != [70,65,76,83,69])=true:=by rw[bne,q2];rfl
             clear h2;go_wp2_with fail
             go_ret;exact⟨by rw[HR.o] <;> rfl,HB.o⟩
       · have HR:=ae (HC.o (fun h=>hs (by rw[← HT.o];exact h.2)))
         have q3:(tx.toList == s.toList)=false:=aA.2 (pg _ _ hs);clear h3 hs HC HG HK HT HX;go_wp2_with fail
         go_ret;exact⟨by rw[HR.o] <;> rfl,HB.o⟩
     · have HR:=ae (HC.o (fun h=>h3 (by rw[← HK.o];exact h.1)))
       have e3:(kd == 3)=false:=aA.2 h3;clear h3 HC HG HK HT HX;go_wp2_with fail
       go_ret;exact⟨by rw[HR.o] <;> rfl,HB.o⟩
theorem UW (s:ByteArray)(k:Nat)(h:k<s.size)(hx:((s[k].toNat:Nat):Int)<32):mM (sb s)=false:=by
 unfold mM;rw[jv];intro aX;exact aX _ (fe (qN s k h)) hx
theorem UU (s:ByteArray)(h:∀(j:Nat)(hj:j<s.size),¬ ((s[j].toNat:Nat):Int)<32):mM (sb s)=true:=by
 unfold mM;rw[aQ];intro x hx;obtain⟨j,hj,rfl⟩:=List.mem_iff_getElem.1 hx;rw[bC]at hj;have:=qN s j hj;rw[cZ (by rw[bC];exact hj)]at this;rw[dM this];exact h j hj
theorem acX (s:ByteArray)(w:World)(_hs:s.size≤1000000):Calls Tryz.prog 82 #[.string s] w fun e w'=>e = .returned (.bool (mM (sb s)))∧w=w':=by
 go_enter Tryz.func82,Tryz.ntmps82;go_wp2_with fail
 go_loopw [6] (fun i wr=>∃k:Nat,k≤s.size∧i = .int .i64 k∧Hid (∀(j:Nat)(hj:j<s.size),j<k→¬ ((s[j].toNat:Nat):Int)<32)∧w=wr)
  (fun i _=>s.size - (intOf i).toNat)
 case atStart=>exact⟨0,by omega,rfl,ae (by intro j _ hj;omega),rfl⟩
 case round =>
  obtain⟨k,hk,rfl,HG,rfl⟩:=hrel;by_cases hlt:k<s.size
  · have hki:(k:Int)<(s.size:Int):=by omega
    obtain⟨a,ha⟩:∃a:Int,(s[k].toNat:Int)=a:=⟨_,rfl⟩;have ha1:0≤a∧a≤255:=by have:=s[k].toNat_lt;omega
    have HA:=ae ha;by_cases h32:a<32
    · have HB:=ae (UW s k hlt (by rw[ha];exact h32))
      go_wp2_with fail
      go_ret;exact⟨by rw[HB.o] <;> rfl,rfl⟩
    · go_wp2_with fail
      go_roundw
      case rel =>
       refine⟨k+1,by omega,by go_num,ae ?_,by first|rfl|trivial⟩;intro j hj hjk;by_cases e:j=k
       · subst e;rw[HA.o];exact h32
       · exact HG.o j hj (by omega)
      case measure=>simp[intOf];omega
  · have hki:¬ (k:Int)<(s.size:Int):=by omega
    have HB:=ae (UU s (fun j hj=>HG.o j hj (by omega)));go_wp2_with fail
    go_ret;exact⟨by rw[HB.o] <;> rfl,rfl⟩
def xC(k:Int):Bool:=decide (9≤k∧k≤19)
theorem EO (k:Int)(w:World):Calls Tryz.prog 85 #[.int .i64 k] w fun e w'=>e = .returned (.bool (xC k))∧w=w':=by
 go_enter Tryz.func85,Tryz.ntmps85;by_cases h1:9≤k
 · by_cases h2:k≤19
   · go_wp2
     go_ret;exact⟨gu (by unfold xC;symm;rw[aQ];exact⟨h1,h2⟩),rfl⟩
   · go_wp2
     go_ret;exact⟨gu (by unfold xC;symm;rw[jv];omega),rfl⟩
 · go_wp2
   go_ret;exact⟨gu (by unfold xC;symm;rw[jv];omega),rfl⟩
def hkB(kind:Int)(m:Nat):Bool:=if kind=7 then true else if kind=8 then decide (m=1)else if xC kind=true then decide (m=2)else decide (m=0)
theorem abo (n:Nd)(A:Option Addr)(m c:Nat)(hm:m≤maxLen)(w:World):Calls Tryz.prog 60 #[.agg (aB n (.slice A m c))] w fun e w'=>e = .returned (.bool (hkB n.kind m))∧Below w.heap.size w w':=by
 (try unfold aB)
 have hx:az (w.alloc (.cells (aB n (.slice A m c)) 44)) w.heap.size n (.slice A m c):=az.new w n _;have HB:=ae ((ak w.heap.size w).alloc (aj _) (.cells (aB n (.slice A m c)) 44));go_enter Tryz.func60,Tryz.ntmps60;go_upto_region 1 with (fail)
 generalize w.alloc (.cells (aB n (.slice A m c)) 44)=w1 at hx HB ⊢;obtain⟨x0,x1,x2,x3,x4,x5,x6,x7,av,aI,aF,aG,aH,aC⟩:=hx.cells;clear hx;obtain⟨kd,hkd⟩:∃kd,n.kind=kd:=⟨_,rfl⟩;rw[hkd]at x0;have mf:=ae hkd;clear hkd;by_cases h7:kd=7
 · have e7:(kd == 7)=true:=bB.2 h7
   have HR:=ae (show hkB kd m=true by unfold hkB;rw[ag h7]);clear h7;go_wp2_with fail
   go_ret;exact⟨by rw[mf.o,HR.o] <;> rfl,HB.o⟩
 have e7:(kd == 7)=false:=aA.2 h7;by_cases h8:kd=8
 · have e8:(kd == 8)=true:=bB.2 h8
   have HR:=ae (show hkB kd m=decide (m=1)by unfold hkB;rw[af h7,ag h8]);clear h7 h8;by_cases hm1:m=1
   · subst hm1
     go_wp2_with fail
     go_ret;exact⟨by rw[mf.o,HR.o] <;> rfl,HB.o⟩
   · have em:((m:Int) == 1)=false:=by rw[aA];omega
     rw[aV hm1]at HR;go_wp2_with fail
     go_ret;exact⟨by rw[mf.o,HR.o];first|rfl|(simp;omega),HB.o⟩
 have e8:(kd == 8)=false:=aA.2 h8;cases ht:xC kd
 · have HR:=ae (show hkB kd m=decide (m=0)by unfold hkB;rw[af h7,af h8,ht,af (by decide)])
   have HT:=EO kd;rw[ht]at HT;have HT:=ae HT;clear h7 h8 ht;by_cases hm1:m=0
   · subst hm1
     go_wp2_with (go_at_call 85;((with_reducible refine(HT.o _).mono ?_);rintro e w2 ⟨rfl,rfl⟩))
     go_ret;exact⟨by rw[mf.o,HR.o] <;> rfl,HB.o⟩
   · have em:((m:Int) == 0)=false:=by rw[aA];omega
     rw[aV hm1]at HR;go_wp2_with (go_at_call 85;((with_reducible refine(HT.o _).mono ?_);rintro e w2 ⟨rfl,rfl⟩))
     go_ret;exact⟨by rw[mf.o,HR.o];first|rfl|(simp;omega),HB.o⟩
 · have HR:=ae (show hkB kd m=decide (m=2)by unfold hkB;rw[af h7,af h8,ht,ag rfl])
   have HT:=EO kd;rw[ht]at HT;have HT:=ae HT;clear h7 h8 ht;by_cases hm1:m=2
   · subst hm1
     go_wp2_with (go_at_call 85;((with_reducible refine(HT.o _).mono ?_);rintro e w2 ⟨rfl,rfl⟩))
     go_ret;exact⟨by rw[mf.o,HR.o] <;> rfl,HB.o⟩
   · have em:((m:Int) == 2)=false:=by rw[aA];omega
     rw[aV hm1]at HR;go_wp2_with (go_at_call 85;((with_reducible refine(HT.o _).mono ?_);rintro e w2 ⟨rfl,rfl⟩))
     go_ret;exact⟨by rw[mf.o,HR.o];first|rfl|(simp;omega),HB.o⟩
def ja (n:Nd):Nd :=
 if n.kind=1 then { Nd.zero with num:=n.num }else if n.kind=2 then { Nd.zero with text:=n.text }else if n.kind=3 then { Nd.zero with num:=n.num }
 else if n.kind=5 then { Nd.zero with ref:=n.ref }else if n.kind=6 then ⟨0,0,⟨#[]⟩,n.ref,n.ai,[]⟩else if n.kind=7 then { Nd.zero with text:=n.text }else Nd.zero
def okF (n:Nd):Bool :=
 if n.kind=1 then decide (0≤n.num)else if n.kind=2 then mM (sb n.text)else if n.kind=3 then decide (n.num=0∨n.num=1)
 else if n.kind=5 then bX n.ref else if n.kind=6 then bX n.ref&&(bX n.ai&&fI n.ref n.ai)else if n.kind=7 then kv n.text else decide (n.kind=4∨n.kind=8)||xC n.kind
theorem xx:Tryz.f59.results=#[.cell 2 44,.tmp 3]:=by kernel_rfl
theorem az.load (h:az w b n k):(loadVar 44 ⟨b,0,none⟩).run Tryz.prog w = .ok (.agg (bA n k)) w :=
 run_loadVar_row w b 44 44 _ _ _ h Tryz.underlying44 rfl zJ
theorem rT (h:az w b n k)(fn:Func)(tmps:Array Value)(ok:Bool)(p u:Tmp)(hf:fn.results=#[.cell p 44,.tmp u])(hp:tmps.getD p undef = .pointer (some ⟨b,0,none⟩))(hu:tmps.getD u undef = .bool ok) :
 (results fn tmps).run Tryz.prog w = .ok (.tuple #[.agg (bA n k),.bool ok]) w:=by
 rw[results_cell_tmp hf,hp,hu];simp[asAddr,h.load,Result.andThen]
abbrev qi:Array Value:=(nB 0 0 ⟨#[]⟩ (.slice none 0 0))
theorem az.drew(h:az w b n k):az w.drew b n k:=h
theorem az.frozen(h:az w b n k)(j:Nat):w.frozen? ⟨b,j,none⟩=false:=frozen_of_row w b j _ _ h
theorem aho (w:World)(b:Nat)(t:TypeId)(u0 u1 u2 u3 u4 u5 u6 u7 u8 u9 u10 u11 u12 u13 v0 v1 v2 v3 v4 v5 v6 v7 v8 v9 v10 v11 v12 v13:Value)(h:w.heap[b]? = some (.cells #[u0,u1,u2,u3,u4,u5,u6,u7,u8,u9,u10,u11,u12,u13] t)) :
 ((((((((((((((w.setCell ⟨b,0,none⟩ v0).setCell ⟨b,1,none⟩ v1).setCell ⟨b,2,none⟩ v2).setCell ⟨b,3,none⟩ v3).setCell ⟨b,4,none⟩ v4).setCell ⟨b,5,none⟩ v5).setCell ⟨b,6,none⟩ v6).setCell ⟨b,7,none⟩ v7).setCell ⟨b,8,none⟩ v8).setCell ⟨b,9,none⟩ v9).setCell ⟨b,10,none⟩ v10).setCell ⟨b,11,none⟩ v11).setCell ⟨b,12,none⟩ v12).setCell ⟨b,13,none⟩ v13).heap[b]? = some (.cells #[v0,v1,v2,v3,v4,v5,v6,v7,v8,v9,v10,v11,v12,v13] t):=by
 have h0:(w.setCell ⟨b,0,none⟩ v0).heap[b]? = some (.cells #[v0,u1,u2,u3,u4,u5,u6,u7,u8,u9,u10,u11,u12,u13] t):=by rw[heap_setCell_same _ b 0 _ _ _ h];rfl
 have h1:((w.setCell ⟨b,0,none⟩ v0).setCell ⟨b,1,none⟩ v1).heap[b]? = some (.cells #[v0,v1,u2,u3,u4,u5,u6,u7,u8,u9,u10,u11,u12,u13] t):=by rw[heap_setCell_same _ b 1 _ _ _ h0];rfl
 have h2:(((w.setCell ⟨b,0,none⟩ v0).setCell ⟨b,1,none⟩ v1).setCell ⟨b,2,none⟩ v2).heap[b]? = some (.cells #[v0,v1,v2,u3,u4,u5,u6,u7,u8,u9,u10,u11,u12,u13] t):=by rw[heap_setCell_same _ b 2 _ _ _ h1];rfl
 have h3:((((w.setCell ⟨b,0,none⟩ v0).setCell ⟨b,1,none⟩ v1).setCell ⟨b,2,none⟩ v2).setCell ⟨b,3,none⟩ v3).heap[b]? = some (.cells #[v0,v1,v2,v3,u4,u5,u6,u7,u8,u9,u10,u11,u12,u13] t):=by rw[heap_setCell_same _ b 3 _ _ _ h2];rfl
 have h4:(((((w.setCell ⟨b,0,none⟩ v0).setCell ⟨b,1,none⟩ v1).setCell ⟨b,2,none⟩ v2).setCell ⟨b,3,none⟩ v3).setCell ⟨b,4,none⟩ v4).heap[b]? = some (.cells #[v0,v1,v2,v3,v4,u5,u6,u7,u8,u9,u10,u11,u12,u13] t):=by rw[heap_setCell_same _ b 4 _ _ _ h3];rfl
 have h5:((((((w.setCell ⟨b,0,none⟩ v0).setCell ⟨b,1,none⟩ v1).setCell ⟨b,2,none⟩ v2).setCell ⟨b,3,none⟩ v3).setCell ⟨b,4,none⟩ v4).setCell ⟨b,5,none⟩ v5).heap[b]? = some (.cells #[v0,v1,v2,v3,v4,v5,u6,u7,u8,u9,u10,u11,u12,u13] t):=by rw[heap_setCell_same _ b 5 _ _ _ h4];rfl
 have h6:(((((((w.setCell ⟨b,0,none⟩ v0).setCell ⟨b,1,none⟩ v1).setCell ⟨b,2,none⟩ v2).setCell ⟨b,3,none⟩ v3).setCell ⟨b,4,none⟩ v4).setCell ⟨b,5,none⟩ v5).setCell ⟨b,6,none⟩ v6).heap[b]? = some (.cells #[v0,v1,v2,v3,v4,v5,v6,u7,u8,u9,u10,u11,u12,u13] t):=by rw[heap_setCell_same _ b 6 _ _ _ h5];rfl
 have h7:((((((((w.setCell ⟨b,0,none⟩ v0).setCell ⟨b,1,none⟩ v1).setCell ⟨b,2,none⟩ v2).setCell ⟨b,3,none⟩ v3).setCell ⟨b,4,none⟩ v4).setCell ⟨b,5,none⟩ v5).setCell ⟨b,6,none⟩ v6).setCell ⟨b,7,none⟩ v7).heap[b]? = some (.cells #[v0,v1,v2,v3,v4,v5,v6,v7,u8,u9,u10,u11,u12,u13] t):=by rw[heap_setCell_same _ b 7 _ _ _ h6];rfl
 have h8:(((((((((w.setCell ⟨b,0,none⟩ v0).setCell ⟨b,1,none⟩ v1).setCell ⟨b,2,none⟩ v2).setCell ⟨b,3,none⟩ v3).setCell ⟨b,4,none⟩ v4).setCell ⟨b,5,none⟩ v5).setCell ⟨b,6,none⟩ v6).setCell ⟨b,7,none⟩ v7).setCell ⟨b,8,none⟩ v8).heap[b]? = some (.cells #[v0,v1,v2,v3,v4,v5,v6,v7,v8,u9,u10,u11,u12,u13] t):=by rw[heap_setCell_same _ b 8 _ _ _ h7];rfl
 have h9:((((((((((w.setCell ⟨b,0,none⟩ v0).setCell ⟨b,1,none⟩ v1).setCell ⟨b,2,none⟩ v2).setCell ⟨b,3,none⟩ v3).setCell ⟨b,4,none⟩ v4).setCell ⟨b,5,none⟩ v5).setCell ⟨b,6,none⟩ v6).setCell ⟨b,7,none⟩ v7).setCell ⟨b,8,none⟩ v8).setCell ⟨b,9,none⟩ v9).heap[b]? = some (.cells #[v0,v1,v2,v3,v4,v5,v6,v7,v8,v9,u10,u11,u12,u13] t):=by rw[heap_setCell_same _ b 9 _ _ _ h8];rfl
 have h10:(((((((((((w.setCell ⟨b,0,none⟩ v0).setCell ⟨b,1,none⟩ v1).setCell ⟨b,2,none⟩ v2).setCell ⟨b,3,none⟩ v3).setCell ⟨b,4,none⟩ v4).setCell ⟨b,5,none⟩ v5).setCell ⟨b,6,none⟩ v6).setCell ⟨b,7,none⟩ v7).setCell ⟨b,8,none⟩ v8).setCell ⟨b,9,none⟩ v9).setCell ⟨b,10,none⟩ v10).heap[b]? = some (.cells #[v0,v1,v2,v3,v4,v5,v6,v7,v8,v9,v10,u11,u12,u13] t):=by rw[heap_setCell_same _ b 10 _ _ _ h9];rfl
 have h11:((((((((((((w.setCell ⟨b,0,none⟩ v0).setCell ⟨b,1,none⟩ v1).setCell ⟨b,2,none⟩ v2).setCell ⟨b,3,none⟩ v3).setCell ⟨b,4,none⟩ v4).setCell ⟨b,5,none⟩ v5).setCell ⟨b,6,none⟩ v6).setCell ⟨b,7,none⟩ v7).setCell ⟨b,8,none⟩ v8).setCell ⟨b,9,none⟩ v9).setCell ⟨b,10,none⟩ v10).setCell ⟨b,11,none⟩ v11).heap[b]? = some (.cells #[v0,v1,v2,v3,v4,v5,v6,v7,v8,v9,v10,v11,u12,u13] t):=by rw[heap_setCell_same _ b 11 _ _ _ h10];rfl
 have h12:(((((((((((((w.setCell ⟨b,0,none⟩ v0).setCell ⟨b,1,none⟩ v1).setCell ⟨b,2,none⟩ v2).setCell ⟨b,3,none⟩ v3).setCell ⟨b,4,none⟩ v4).setCell ⟨b,5,none⟩ v5).setCell ⟨b,6,none⟩ v6).setCell ⟨b,7,none⟩ v7).setCell ⟨b,8,none⟩ v8).setCell ⟨b,9,none⟩ v9).setCell ⟨b,10,none⟩ v10).setCell ⟨b,11,none⟩ v11).setCell ⟨b,12,none⟩ v12).heap[b]? = some (.cells #[v0,v1,v2,v3,v4,v5,v6,v7,v8,v9,v10,v11,v12,u13] t):=by rw[heap_setCell_same _ b 12 _ _ _ h11];rfl
 have h13:((((((((((((((w.setCell ⟨b,0,none⟩ v0).setCell ⟨b,1,none⟩ v1).setCell ⟨b,2,none⟩ v2).setCell ⟨b,3,none⟩ v3).setCell ⟨b,4,none⟩ v4).setCell ⟨b,5,none⟩ v5).setCell ⟨b,6,none⟩ v6).setCell ⟨b,7,none⟩ v7).setCell ⟨b,8,none⟩ v8).setCell ⟨b,9,none⟩ v9).setCell ⟨b,10,none⟩ v10).setCell ⟨b,11,none⟩ v11).setCell ⟨b,12,none⟩ v12).setCell ⟨b,13,none⟩ v13).heap[b]? = some (.cells #[v0,v1,v2,v3,v4,v5,v6,v7,v8,v9,v10,v11,v12,v13] t):=by rw[heap_setCell_same _ b 13 _ _ _ h12];rfl
 exact h13
theorem az.xq{n0:Nd}{k0:Value}(h:az w b n0 k0)(n:Nd)(k:Value):az ((((((((((((((w.setCell ⟨b,0,none⟩ (.int .i64 n.kind)).setCell ⟨b,1,none⟩ (.int .i64 n.num)).setCell ⟨b,2,none⟩ (.string n.text)).setCell ⟨b,3,none⟩ (.string n.ref.sh)).setCell ⟨b,4,none⟩ (.int .i64 n.ref.c)).setCell ⟨b,5,none⟩ (.int .i64 n.ref.r)).setCell ⟨b,6,none⟩ (.bool n.ref.ac)).setCell ⟨b,7,none⟩ (.bool n.ref.ar)).setCell ⟨b,8,none⟩ (.string n.ai.sh)).setCell ⟨b,9,none⟩ (.int .i64 n.ai.c)).setCell ⟨b,10,none⟩ (.int .i64 n.ai.r)).setCell ⟨b,11,none⟩ (.bool n.ai.ac)).setCell ⟨b,12,none⟩ (.bool n.ai.ar)).setCell ⟨b,13,none⟩ (k)) b n k:=aho w b _ _ _ _ _ _ _ _ _ _ _ _ _ _ _ _ _ _ _ _ _ _ _ _ _ _ _ _ _ h
theorem wV {a:World}(h:Below B a w)(hb:B≤b)(v0 v1 v2 v3 v4 v5 v6 v7 v8 v9 v10 v11 v12 v13:Value):Below B a ((((((((((((((w.setCell ⟨b,0,none⟩ v0).setCell ⟨b,1,none⟩ v1).setCell ⟨b,2,none⟩ v2).setCell ⟨b,3,none⟩ v3).setCell ⟨b,4,none⟩ v4).setCell ⟨b,5,none⟩ v5).setCell ⟨b,6,none⟩ v6).setCell ⟨b,7,none⟩ v7).setCell ⟨b,8,none⟩ v8).setCell ⟨b,9,none⟩ v9).setCell ⟨b,10,none⟩ v10).setCell ⟨b,11,none⟩ v11).setCell ⟨b,12,none⟩ v12).setCell ⟨b,13,none⟩ v13) :=
 ((((((((((((((h.setCell hb _).setCell hb _).setCell hb _).setCell hb _).setCell hb _).setCell hb _).setCell hb _).setCell hb _).setCell hb _).setCell hb _).setCell hb _).setCell hb _).setCell hb _).setCell hb _)
theorem aaO (n:Nd)(h1:n.kind=1)(A:Option Addr)(m c:Nat)(w:World):Calls Tryz.prog 59 #[.agg (aB n (.slice A m c))] w fun e w'=>e = .returned (.tuple #[.agg (bA { Nd.zero with num:=n.num } (.slice none 0 0)),.bool (decide (0≤n.num))])∧Below w.heap.size w w':=by
 (try unfold aB)
 have hsz:(w.alloc (.cells (aB n (.slice A m c)) 44)).heap.size=w.heap.size+1:=by simp
 have hx:az (w.alloc (.cells (aB n (.slice A m c)) 44)) w.heap.size n (.slice A m c):=az.new w n _;have hy:az ((w.alloc (.cells (aB n (.slice A m c)) 44)).alloc (.cells qi 44)) (w.heap.size+1) Nd.zero (.slice none 0 0):=by rw[← hsz];exact az.new _ Nd.zero _
 have hx2:=hx.below ((ak _ _).alloc (aj _) (.cells qi 44)) hx.lt;have HB:=ae (((ak w.heap.size w).alloc (aj _) (.cells (aB n (.slice A m c)) 44)).alloc (by simp) (.cells qi 44));have e1:(n.kind == 1)=true:=bB.2 h1;clear h1;go_enter Tryz.func59,Tryz.ntmps59;go_upto_region 3 with (fail)
 generalize (w.alloc (.cells (aB n (.slice A m c)) 44)).alloc (.cells qi 44)=w1 at hx2 hy HB ⊢;obtain⟨x0,x1,x2,x3,x4,x5,x6,x7,av,aI,aF,aG,aH,aC⟩:=hx2.cells;obtain⟨y0,y1,y2,y3,y4,dH,y6,ll,nE,tT,tN,tO,tQ,y13⟩:=hy.cells;have f0:=hy.frozen 0;have f1:=hy.frozen 1;have f2:=hy.frozen 2;have f3:=hy.frozen 3;have f4:=hy.frozen 4;have f5:=hy.frozen 5;have f6:=hy.frozen 6;have f7:=hy.frozen 7;have f8:=hy.frozen 8;have f9:=hy.frozen 9;have f10:=hy.frozen 10;have f11:=hy.frozen 11;have f12:=hy.frozen 12;have f13:=hy.frozen 13;have iH:=ae hy;clear hx hx2 hy
 go_region
 all_goals go_wp2_with fail
 all_goals exact bodyPost_ret (rT (iH.o.xq { Nd.zero with num:=n.num } (.slice none 0 0)).drew _ _ _ 2 3 xx rfl rfl) rfl ⟨rfl,(wV HB.o (by omega) _ _ _ _ _ _ _ _ _ _ _ _ _ _).drew⟩
theorem az.bR (h:az w b n k):w.frozen? ⟨b,0,none⟩=false∧w.frozen? ⟨b,1,none⟩=false∧w.frozen? ⟨b,2,none⟩=false∧w.frozen? ⟨b,3,none⟩=false∧w.frozen? ⟨b,4,none⟩=false∧w.frozen? ⟨b,5,none⟩=false∧w.frozen? ⟨b,6,none⟩=false∧w.frozen? ⟨b,7,none⟩=false∧w.frozen? ⟨b,8,none⟩=false∧w.frozen? ⟨b,9,none⟩=false∧w.frozen? ⟨b,10,none⟩=false∧w.frozen? ⟨b,11,none⟩=false∧w.frozen? ⟨b,12,none⟩=false∧w.frozen? ⟨b,13,none⟩=false :=
 ⟨h.frozen 0,h.frozen 1,h.frozen 2,h.frozen 3,h.frozen 4,h.frozen 5,h.frozen 6,h.frozen 7,h.frozen 8,h.frozen 9,h.frozen 10,h.frozen 11,h.frozen 12,h.frozen 13⟩
theorem yF (w:World)(n:Nd)(A:Option Addr)(m c:Nat):∃w1,(w.alloc (.cells (aB n (.slice A m c)) 44)).alloc (.cells qi 44)=w1∧az w1 w.heap.size n (.slice A m c)∧az w1 (w.heap.size+1) Nd.zero (.slice none 0 0)∧Below w.heap.size w w1∧w.heap.size+1<w1.heap.size:=by
 have hx:=az.new w n (.slice A m c);obtain⟨wa,G8⟩:∃wa,w.alloc (.cells (aB n (.slice A m c)) 44)=wa:=⟨_,rfl⟩;have yo:Below w.heap.size w wa:=by rw[← G8];exact(ak _ _).alloc (aj _) _
 have hz:wa.heap.size=w.heap.size+1:=by rw[← G8,lQ]
 have hx1:az wa w.heap.size n (.slice A m c):=by rw[← G8];exact hx
 have hb:Below wa.heap.size wa (wa.alloc (.cells qi 44)):=(ak _ _).alloc (aj _) _;have hy:=az.new wa Nd.zero (.slice none 0 0);rw[hz]at hy;refine⟨wa.alloc (.cells qi 44),by rw[G8],hx1.below hb hx1.lt,hy,yo.trans (hb.mono yo.size),by rw[lQ,hz];exact Nat.lt_succ_self _⟩
theorem aaP (w:World)(n:Nd)(h2:n.kind=2)(hs:n.text.size≤1000000)(A:Option Addr)(m c:Nat):Calls Tryz.prog 59 #[.agg (aB n (.slice A m c))] w fun e w'=>e = .returned (.tuple #[.agg (bA { Nd.zero with text:=n.text } (.slice none 0 0)),.bool (mM (sb n.text))])∧Below w.heap.size w w':=by
 (try unfold aB)
 obtain⟨w1,hw1,hx2,hy,hb,hb2⟩:=yF w n A m c;have HB:=ae hb;obtain⟨x0,x1,x2,x3,x4,x5,x6,x7,av,aI,aF,aG,aH,aC⟩:=hx2.cells;have e1:(n.kind == 1)=false:=by rw[h2];rfl
 have e2:(n.kind == 2)=true:=bB.2 h2;clear h2;go_enter Tryz.func59,Tryz.ntmps59;go_upto_region 5 with (fail)
 clear hw1 hb;obtain⟨y0,y1,y2,y3,y4,dH,y6,ll,nE,tT,tN,tO,tQ,y13⟩:=hy.cells;obtain⟨f0,f1,f2,f3,f4,f5,f6,f7,f8,f9,f10,f11,f12,f13⟩:=hy.bR;have iH:=ae hy;have HX:=ae hx2;clear hx2 hy;have HT:=ae (fun w=>acX n.text w hs)
 go_region_with (go_at_call 82;((with_reducible refine(HT.o _).mono ?_);rintro e w2 ⟨rfl,rfl⟩))
 all_goals go_wp2_with fail
 all_goals exact bodyPost_ret (rT (iH.o.xq { Nd.zero with text:=n.text } (.slice none 0 0)).drew _ _ _ 2 3 xx rfl rfl) rfl ⟨rfl,(wV HB.o (by have:=HB.o.size;omega) _ _ _ _ _ _ _ _ _ _ _ _ _ _).drew⟩
theorem aaQ (w:World)(n:Nd)(h3:n.kind=3)(h0:n.num=0)(A:Option Addr)(m c:Nat):Calls Tryz.prog 59 #[.agg (aB n (.slice A m c))] w fun e w'=>e = .returned (.tuple #[.agg (bA { Nd.zero with num:=n.num } (.slice none 0 0)),.bool true])∧Below w.heap.size w w':=by
 (try unfold aB)
 obtain⟨w1,hw1,hx2,hy,hb,hb2⟩:=yF w n A m c;have HB:=ae hb;obtain⟨x0,x1,x2,x3,x4,x5,x6,x7,av,aI,aF,aG,aH,aC⟩:=hx2.cells;have e1:(n.kind == 1)=false:=by rw[h3];rfl
 have e2:(n.kind == 2)=false:=by rw[h3];rfl
 have e3:(n.kind == 3)=true:=bB.2 h3;clear h3;have q0:(n.num == 0)=true:=bB.2 h0;clear h0;go_enter Tryz.func59,Tryz.ntmps59;go_upto_region 7 with (fail)
 clear hw1 hb;obtain⟨y0,y1,y2,y3,y4,dH,y6,ll,nE,tT,tN,tO,tQ,y13⟩:=hy.cells;obtain⟨f0,f1,f2,f3,f4,f5,f6,f7,f8,f9,f10,f11,f12,f13⟩:=hy.bR;have iH:=ae hy;have HX:=ae hx2;clear hx2 hy
 go_region
 all_goals go_wp2_with fail
 all_goals exact bodyPost_ret (rT (iH.o.xq { Nd.zero with num:=n.num } (.slice none 0 0)).drew _ _ _ 2 3 xx rfl rfl) rfl ⟨rfl,(wV HB.o (by have:=HB.o.size;omega) _ _ _ _ _ _ _ _ _ _ _ _ _ _).drew⟩
theorem aaR (w:World)(n:Nd)(h3:n.kind=3)(h0:n.num=1)(A:Option Addr)(m c:Nat):Calls Tryz.prog 59 #[.agg (aB n (.slice A m c))] w fun e w'=>e = .returned (.tuple #[.agg (bA { Nd.zero with num:=n.num } (.slice none 0 0)),.bool true])∧Below w.heap.size w w':=by
 (try unfold aB)
 obtain⟨w1,hw1,hx2,hy,hb,hb2⟩:=yF w n A m c;have HB:=ae hb;obtain⟨x0,x1,x2,x3,x4,x5,x6,x7,av,aI,aF,aG,aH,aC⟩:=hx2.cells;have e1:(n.kind == 1)=false:=by rw[h3];rfl
 have e2:(n.kind == 2)=false:=by rw[h3];rfl
 have e3:(n.kind == 3)=true:=bB.2 h3;clear h3;have q0:(n.num == 0)=false:=by rw[h0];rfl
 have q1:(n.num == 1)=true:=bB.2 h0;clear h0;go_enter Tryz.func59,Tryz.ntmps59;go_upto_region 7 with (fail)
 clear hw1 hb;obtain⟨y0,y1,y2,y3,y4,dH,y6,ll,nE,tT,tN,tO,tQ,y13⟩:=hy.cells;obtain⟨f0,f1,f2,f3,f4,f5,f6,f7,f8,f9,f10,f11,f12,f13⟩:=hy.bR;have iH:=ae hy;have HX:=ae hx2;clear hx2 hy
 go_region
 all_goals go_wp2_with fail
 all_goals exact bodyPost_ret (rT (iH.o.xq { Nd.zero with num:=n.num } (.slice none 0 0)).drew _ _ _ 2 3 xx rfl rfl) rfl ⟨rfl,(wV HB.o (by have:=HB.o.size;omega) _ _ _ _ _ _ _ _ _ _ _ _ _ _).drew⟩
theorem aaS (w:World)(n:Nd)(h5:n.kind=5)(hs:n.ref.sh.size≤1000000)(A:Option Addr)(m c:Nat):Calls Tryz.prog 59 #[.agg (aB n (.slice A m c))] w fun e w'=>e = .returned (.tuple #[.agg (bA { Nd.zero with ref:=n.ref } (.slice none 0 0)),.bool (bX n.ref)])∧Below w.heap.size w w':=by
 (try unfold aB)
 obtain⟨w1,hw1,hx2,hy,hb,hb2⟩:=yF w n A m c;have HB:=ae hb;obtain⟨x0,x1,x2,x3,x4,x5,x6,x7,av,aI,aF,aG,aH,aC⟩:=hx2.cells;have e1:(n.kind == 1)=false:=by rw[h5];rfl
 have e2:(n.kind == 2)=false:=by rw[h5];rfl
 have e3:(n.kind == 3)=false:=by rw[h5];rfl
 have e5:(n.kind == 5)=true:=bB.2 h5;clear h5;go_enter Tryz.func59,Tryz.ntmps59;go_upto_region 9 with (fail)
 clear hw1 hb;obtain⟨y0,y1,y2,y3,y4,dH,y6,ll,nE,tT,tN,tO,tQ,y13⟩:=hy.cells;obtain⟨f0,f1,f2,f3,f4,f5,f6,f7,f8,f9,f10,f11,f12,f13⟩:=hy.bR;have iH:=ae hy;have HX:=ae hx2;clear hx2 hy;have HT:=ae (fun w=>Bu n.ref.sh n.ref.c n.ref.r n.ref.ac n.ref.ar w hs);go_region_held3 (fun w'=>w'.cell? ⟨w.heap.size,3,none⟩=some (.string n.ref.sh)∧w'.cell? ⟨w.heap.size,4,none⟩=some (.int .i64 n.ref.c)∧w'.cell? ⟨w.heap.size,5,none⟩=some (.int .i64 n.ref.r)∧w'.cell? ⟨w.heap.size,6,none⟩=some (.bool n.ref.ac)∧w'.cell? ⟨w.heap.size,7,none⟩=some (.bool n.ref.ar)) (go_keep) (first|(go_at_call 64;((with_reducible refine(HT.o _).mono ?_);rintro e w2 ⟨rfl,h1⟩;have uj:=ae (iH.o.drew.below h1 iH.o.lt);have dw:=ae (HX.o.drew.below h1 HX.o.lt);have HB2:=ae (HB.o.drew.trans (h1.mono HB.o.size));obtain⟨z0,z1,z2,z3,z4,z5,z6,z7,Dx,z9,Dv,Dw,z12,FE⟩:=uj.o.cells;obtain⟨g0,g1,g2,g3,g4,g5,g6,g7,g8,g9,g10,g11,g12,g13⟩:=uj.o.bR;obtain⟨t0,t1,t2,t3,t4,t5,t6,t7,t8,t9,t10,t11,t12,t13⟩:=dw.o.cells;clear h1)))
 all_goals go_wp2_with fail
 all_goals exact bodyPost_ret (rT (uj.o.xq { Nd.zero with ref:=n.ref } (.slice none 0 0)) _ _ _ 2 3 xx rfl rfl) rfl ⟨rfl,wV HB2.o (by have:=HB.o.size;omega) _ _ _ _ _ _ _ _ _ _ _ _ _ _⟩
theorem aaU (w:World)(n:Nd)(h7:n.kind=7)(hv:Vars w)(A:Option Addr)(m c:Nat):Calls Tryz.prog 59 #[.agg (aB n (.slice A m c))] w fun e w'=>e = .returned (.tuple #[.agg (bA { Nd.zero with text:=n.text } (.slice none 0 0)),.bool (kv n.text)])∧Below w.heap.size w w':=by
 (try unfold aB)
 obtain⟨w1,hw1,hx2,hy,hb,hb2⟩:=yF w n A m c;have HB:=ae hb;obtain⟨x0,x1,x2,x3,x4,x5,x6,x7,av,aI,aF,aG,aH,aC⟩:=hx2.cells;have e1:(n.kind == 1)=false:=by rw[h7];rfl
 have e2:(n.kind == 2)=false:=by rw[h7];rfl
 have e3:(n.kind == 3)=false:=by rw[h7];rfl
 have e5:(n.kind == 5)=false:=by rw[h7];rfl
 have e6:(n.kind == 6)=false:=by rw[h7];rfl
 have e7:(n.kind == 7)=true:=bB.2 h7;clear h7;have YM:=ae hv;clear hv;go_enter Tryz.func59,Tryz.ntmps59;go_upto_region 13 with (fail)
 clear hw1 hb;obtain⟨y0,y1,y2,y3,y4,dH,y6,ll,nE,tT,tN,tO,tQ,y13⟩:=hy.cells;obtain⟨f0,f1,f2,f3,f4,f5,f6,f7,f8,f9,f10,f11,f12,f13⟩:=hy.bR;have iH:=ae hy;have HX:=ae hx2;clear hx2 hy;have HT:=ae (fun wr (hb:Below w.heap.size w wr)=>acT n.text wr (YM.o.below hb));go_region_held3 (fun w'=>w'.cell? ⟨w.heap.size,2,none⟩=some (.string n.text)) (go_keep) (first|(go_at_call 84;((with_reducible refine(HT.o _ HB.o.drew).mono ?_);rintro e w2 ⟨rfl,h1⟩;have uj:=ae (iH.o.drew.below h1 iH.o.lt);have dw:=ae (HX.o.drew.below h1 HX.o.lt);have HB2:=ae (HB.o.drew.trans (h1.mono HB.o.size));clear h1;obtain⟨z0,z1,z2,z3,z4,z5,z6,z7,Dx,z9,Dv,Dw,z12,FE⟩:=uj.o.cells;obtain⟨g0,g1,g2,g3,g4,g5,g6,g7,g8,g9,g10,g11,g12,g13⟩:=uj.o.bR;obtain⟨t0,t1,t2,t3,t4,t5,t6,t7,t8,t9,t10,t11,t12,t13⟩:=dw.o.cells)))
 all_goals go_wp2_with fail
 all_goals exact bodyPost_ret (rT (uj.o.xq { Nd.zero with text:=n.text } (.slice none 0 0)) _ _ _ 2 3 xx rfl rfl) rfl ⟨rfl,wV HB2.o (by have:=HB.o.size;omega) _ _ _ _ _ _ _ _ _ _ _ _ _ _⟩
theorem aaT (w:World)(n:Nd)(h6:n.kind=6)(hs:n.ref.sh.size≤1000000)(ht:n.ai.sh.size≤1000000)(q1:bX n.ref=true)(q2:bX n.ai=true)(A:Option Addr)(m c:Nat):Calls Tryz.prog 59 #[.agg (aB n (.slice A m c))] w fun e w'=>e = .returned (.tuple #[.agg (bA ⟨0,0,⟨#[]⟩,n.ref,n.ai,[]⟩ (.slice none 0 0)),.bool (fI n.ref n.ai)])∧Below w.heap.size w w':=by
 (try unfold aB)
 obtain⟨w1,hw1,hx2,hy,hb,hb2⟩:=yF w n A m c;have HB:=ae hb;obtain⟨x0,x1,x2,x3,x4,x5,x6,x7,av,aI,aF,aG,aH,aC⟩:=hx2.cells;have e1:(n.kind == 1)=false:=by rw[h6];rfl
 have e2:(n.kind == 2)=false:=by rw[h6];rfl
 have e3:(n.kind == 3)=false:=by rw[h6];rfl
 have e5:(n.kind == 5)=false:=by rw[h6];rfl
 have e6:(n.kind == 6)=true:=bB.2 h6;clear h6;go_enter Tryz.func59,Tryz.ntmps59;go_upto_region 11 with (fail)
 clear hw1 hb;obtain⟨y0,y1,y2,y3,y4,dH,y6,ll,nE,tT,tN,tO,tQ,y13⟩:=hy.cells;obtain⟨f0,f1,f2,f3,f4,f5,f6,f7,f8,f9,f10,f11,f12,f13⟩:=hy.bR;have iH:=ae hy;have HX:=ae hx2;clear hx2 hy;have HT1:=ae (show ∀w,Calls Tryz.prog 64 #[.agg #[.string n.ref.sh,.int .i64 n.ref.c,.int .i64 n.ref.r,.bool n.ref.ac,.bool n.ref.ar]] w fun e w'=>e = .returned (.bool true)∧Below w.heap.size w w' from fun w=>by rw[← q1];exact Bu n.ref.sh n.ref.c n.ref.r n.ref.ac n.ref.ar w hs);have HT2:=ae (show ∀w,Calls Tryz.prog 64 #[.agg #[.string n.ai.sh,.int .i64 n.ai.c,.int .i64 n.ai.r,.bool n.ai.ac,.bool n.ai.ar]] w fun e w'=>e = .returned (.bool true)∧Below w.heap.size w w' from fun w=>by rw[← q2];exact Bu n.ai.sh n.ai.c n.ai.r n.ai.ac n.ai.ar w ht);have HT3:=ae (fun w=>Ta n.ref.sh n.ai.sh n.ref.c n.ref.r n.ai.c n.ai.r n.ref.ac n.ref.ar n.ai.ac n.ai.ar w)
 first
  | go_region_held3 (fun w'=>w'.cell? ⟨w.heap.size,3,none⟩=some (.string n.ref.sh)∧w'.cell? ⟨w.heap.size,4,none⟩=some (.int .i64 n.ref.c)∧w'.cell? ⟨w.heap.size,5,none⟩=some (.int .i64 n.ref.r)∧w'.cell? ⟨w.heap.size,6,none⟩=some (.bool n.ref.ac)∧w'.cell? ⟨w.heap.size,7,none⟩=some (.bool n.ref.ar)∧w'.cell? ⟨w.heap.size,8,none⟩=some (.string n.ai.sh)∧w'.cell? ⟨w.heap.size,9,none⟩=some (.int .i64 n.ai.c)∧w'.cell? ⟨w.heap.size,10,none⟩=some (.int .i64 n.ai.r)∧w'.cell? ⟨w.heap.size,11,none⟩=some (.bool n.ai.ac)∧w'.cell? ⟨w.heap.size,12,none⟩=some (.bool n.ai.ar)) (go_keep) (first|(go_at_call 64;((with_reducible refine(HT1.o _).mono ?_);rintro e w2 ⟨rfl,h1⟩;have uj:=ae (iH.o.drew.below h1 iH.o.lt);have dw:=ae (HX.o.drew.below h1 HX.o.lt);have HB2:=ae (HB.o.drew.trans (h1.mono HB.o.size));clear h1;obtain⟨z0,z1,z2,z3,z4,z5,z6,z7,Dx,z9,Dv,Dw,z12,FE⟩:=uj.o.cells;obtain⟨g0,g1,g2,g3,g4,g5,g6,g7,g8,g9,g10,g11,g12,g13⟩:=uj.o.bR;obtain⟨t0,t1,t2,t3,t4,t5,t6,t7,t8,t9,t10,t11,t12,t13⟩:=dw.o.cells))|(go_at_call 64;((with_reducible refine(HT2.o _).mono ?_);rintro e w3 ⟨rfl,h1⟩;have Av:=ae (uj.o.below h1 uj.o.lt);have fq:=ae (dw.o.below h1 dw.o.lt);have HB3:=ae (HB2.o.trans (h1.mono HB2.o.size));clear h1;obtain⟨z0,z1,z2,z3,z4,z5,z6,z7,Dx,z9,Dv,Dw,z12,FE⟩:=Av.o.cells;obtain⟨g0,g1,g2,g3,g4,g5,g6,g7,g8,g9,g10,g11,g12,g13⟩:=Av.o.bR;obtain⟨t0,t1,t2,t3,t4,t5,t6,t7,t8,t9,t10,t11,t12,t13⟩:=fq.o.cells))|(go_at_call 83;((with_reducible refine(HT3.o _).mono ?_);rintro e w4 ⟨rfl,h1⟩;have Ky:=ae (Av.o.below h1 Av.o.lt);have oQ:=ae (fq.o.below h1 fq.o.lt);have cu:=ae (HB3.o.trans (h1.mono HB3.o.size));clear h1;obtain⟨z0,z1,z2,z3,z4,z5,z6,z7,Dx,z9,Dv,Dw,z12,FE⟩:=Ky.o.cells;obtain⟨g0,g1,g2,g3,g4,g5,g6,g7,g8,g9,g10,g11,g12,g13⟩:=Ky.o.bR;obtain⟨t0,t1,t2,t3,t4,t5,t6,t7,t8,t9,t10,t11,t12,t13⟩:=oQ.o.cells)))
  | fail
 all_goals go_wp2_with fail
 all_goals exact bodyPost_ret (rT (Ky.o.xq ⟨0,0,⟨#[]⟩,n.ref,n.ai,[]⟩ (.slice none 0 0)) _ _ _ 2 3 xx rfl rfl) rfl ⟨rfl,wV cu.o (by have:=HB.o.size;omega) _ _ _ _ _ _ _ _ _ _ _ _ _ _⟩
theorem aaL (w:World)(n:Nd)(h1:¬ n.kind=1)(h2:¬ n.kind=2)(h3:¬ n.kind=3)(h5:¬ n.kind=5)(h6:¬ n.kind=6)(h7:¬ n.kind=7)(h4:n.kind=4)(A:Option Addr)(m c:Nat):Calls Tryz.prog 59 #[.agg (aB n (.slice A m c))] w fun e w'=>e = .returned (.tuple #[.agg (bA Nd.zero (.slice none 0 0)),.bool true])∧Below w.heap.size w w':=by
 (try unfold aB)
 obtain⟨w1,hw1,hx2,hy,hb,hb2⟩:=yF w n A m c;have HB:=ae hb;obtain⟨x0,x1,x2,x3,x4,x5,x6,x7,av,aI,aF,aG,aH,aC⟩:=hx2.cells;have e1:(n.kind == 1)=false:=aA.2 h1;have e2:(n.kind == 2)=false:=aA.2 h2;have e3:(n.kind == 3)=false:=aA.2 h3;have e5:(n.kind == 5)=false:=aA.2 h5;have e6:(n.kind == 6)=false:=aA.2 h6;have e7:(n.kind == 7)=false:=aA.2 h7;clear h1 h2 h3 h5 h6 h7;have e4:(n.kind == 4)=true:=bB.2 h4;clear h4;go_enter Tryz.func59,Tryz.ntmps59;go_upto_region 14 with (fail)
 clear hw1 hb;obtain⟨y0,y1,y2,y3,y4,dH,y6,ll,nE,tT,tN,tO,tQ,y13⟩:=hy.cells;obtain⟨f0,f1,f2,f3,f4,f5,f6,f7,f8,f9,f10,f11,f12,f13⟩:=hy.bR;have iH:=ae hy;have HX:=ae hx2;clear hx2 hy;go_wp2_with (go_at_call 85;((with_reducible refine(EO _ _).mono ?_);rintro e w2 ⟨rfl,rfl⟩))
 all_goals exact bodyPost_ret (rT (iH.o.xq Nd.zero (.slice none 0 0)) _ _ _ 2 3 xx rfl rfl) rfl ⟨rfl,wV HB.o (by have:=HB.o.size;omega) _ _ _ _ _ _ _ _ _ _ _ _ _ _⟩
theorem aaM (w:World)(n:Nd)(h1:¬ n.kind=1)(h2:¬ n.kind=2)(h3:¬ n.kind=3)(h5:¬ n.kind=5)(h6:¬ n.kind=6)(h7:¬ n.kind=7)(h4:n.kind=8)(A:Option Addr)(m c:Nat):Calls Tryz.prog 59 #[.agg (aB n (.slice A m c))] w fun e w'=>e = .returned (.tuple #[.agg (bA Nd.zero (.slice none 0 0)),.bool true])∧Below w.heap.size w w':=by
 (try unfold aB)
 obtain⟨w1,hw1,hx2,hy,hb,hb2⟩:=yF w n A m c;have HB:=ae hb;obtain⟨x0,x1,x2,x3,x4,x5,x6,x7,av,aI,aF,aG,aH,aC⟩:=hx2.cells;have e1:(n.kind == 1)=false:=aA.2 h1;have e2:(n.kind == 2)=false:=aA.2 h2;have e3:(n.kind == 3)=false:=aA.2 h3;have e5:(n.kind == 5)=false:=aA.2 h5;have e6:(n.kind == 6)=false:=aA.2 h6;have e7:(n.kind == 7)=false:=aA.2 h7;clear h1 h2 h3 h5 h6 h7;have e4:(n.kind == 4)=false:=by rw[h4];rfl
 have e8:(n.kind == 8)=true:=bB.2 h4;clear h4;go_enter Tryz.func59,Tryz.ntmps59;go_upto_region 14 with (fail)
 clear hw1 hb;obtain⟨y0,y1,y2,y3,y4,dH,y6,ll,nE,tT,tN,tO,tQ,y13⟩:=hy.cells;obtain⟨f0,f1,f2,f3,f4,f5,f6,f7,f8,f9,f10,f11,f12,f13⟩:=hy.bR;have iH:=ae hy;have HX:=ae hx2;clear hx2 hy;go_wp2_with (go_at_call 85;((with_reducible refine(EO _ _).mono ?_);rintro e w2 ⟨rfl,rfl⟩))
 all_goals exact bodyPost_ret (rT (iH.o.xq Nd.zero (.slice none 0 0)) _ _ _ 2 3 xx rfl rfl) rfl ⟨rfl,wV HB.o (by have:=HB.o.size;omega) _ _ _ _ _ _ _ _ _ _ _ _ _ _⟩
theorem aaN (w:World)(n:Nd)(h1:¬ n.kind=1)(h2:¬ n.kind=2)(h3:¬ n.kind=3)(h5:¬ n.kind=5)(h6:¬ n.kind=6)(h7:¬ n.kind=7)(h4:¬ n.kind=4)(h8:¬ n.kind=8)(A:Option Addr)(m c:Nat):Calls Tryz.prog 59 #[.agg (aB n (.slice A m c))] w fun e w'=>e = .returned (.tuple #[.agg (bA Nd.zero (.slice none 0 0)),.bool (xC n.kind)])∧Below w.heap.size w w':=by
 (try unfold aB)
 obtain⟨w1,hw1,hx2,hy,hb,hb2⟩:=yF w n A m c;have HB:=ae hb;obtain⟨x0,x1,x2,x3,x4,x5,x6,x7,av,aI,aF,aG,aH,aC⟩:=hx2.cells;have e1:(n.kind == 1)=false:=aA.2 h1;have e2:(n.kind == 2)=false:=aA.2 h2;have e3:(n.kind == 3)=false:=aA.2 h3;have e5:(n.kind == 5)=false:=aA.2 h5;have e6:(n.kind == 6)=false:=aA.2 h6;have e7:(n.kind == 7)=false:=aA.2 h7;clear h1 h2 h3 h5 h6 h7;have e4:(n.kind == 4)=false:=aA.2 h4;have e8:(n.kind == 8)=false:=aA.2 h8;clear h4 h8;go_enter Tryz.func59,Tryz.ntmps59;go_upto_region 14 with (fail)
 clear hw1 hb;obtain⟨y0,y1,y2,y3,y4,dH,y6,ll,nE,tT,tN,tO,tQ,y13⟩:=hy.cells;obtain⟨f0,f1,f2,f3,f4,f5,f6,f7,f8,f9,f10,f11,f12,f13⟩:=hy.bR;have iH:=ae hy;have HX:=ae hx2;clear hx2 hy;go_wp2_with (go_at_call 85;((with_reducible refine(EO _ _).mono ?_);rintro e w2 ⟨rfl,rfl⟩))
 all_goals exact bodyPost_ret (rT (iH.o.xq Nd.zero (.slice none 0 0)) _ _ _ 2 3 xx rfl rfl) rfl ⟨rfl,wV HB.o (by have:=HB.o.size;omega) _ _ _ _ _ _ _ _ _ _ _ _ _ _⟩
def iw(a b:bL):Bool:=decide (a.sh=b.sh)&&(decide (a.c=b.c)&&(decide (a.r=b.r)&&((a.ac == b.ac)&&(a.ar == b.ar))))
theorem En (a b:bL):iw a b=true↔a=b:=by
 unfold iw;simp only[dJ,aQ,bB];cases a;cases b
 simp
theorem aaG {a b:bL}(h1:a.sh.toList=b.sh.toList)(h2:a.c=b.c)(h3:a.r=b.r)(h4:a.ac=b.ac)(h5:a.ar=b.ar):iw a b=true:=by
 have hs:a.sh=b.sh:=by
  by_cases h:a.sh=b.sh
  · exact h
  · exact absurd h1 (pg _ _ h)
 rw[En];cases a;cases b
 simp only at hs h2 h3 h4 h5;rw[hs,h2,h3,h4,h5]
def wo(n:Nd)(m:Nat):Bool:=okF n&&(hkB n.kind m&&(decide (n.num=(ja n).num)&&(decide (n.text=(ja n).text)&&(iw n.ref (ja n).ref&&iw n.ai (ja n).ai))))
theorem KZ(a:bL):iw a a=true:=(En a a).2 rfl
theorem MP (r:bL):fQ r=iw r bL.zero:=by
 obtain⟨sh,c,r,ac,ar⟩:=r;unfold fQ iw bL.zero;simp only;rw[Bool.eq_iff_iff];simp only[dJ,aQ,bB,Bool.not_eq_true'];constructor
 · rintro⟨⟨h1,h2,h3⟩,h4,h5⟩;exact⟨h1,h2,h3,h4,h5⟩
 · rintro⟨h1,h2,h3,h4,h5⟩;exact⟨⟨h1,h2,h3⟩,h4,h5⟩
def CV (n:Nd):Bool :=
 if n.kind=1 then decide (0≤n.num)else if n.kind=2 then mM (sb n.text)else if n.kind=3 then decide (n.num=0∨n.num=1)
 else if n.kind=5 then bX n.ref else if n.kind=6 then bX n.ref&&(bX n.ai&&fI n.ref n.ai)else if n.kind=7 then kv n.text else true
def vN(n:Nd):Bool:=decide (n.kind=1∨n.kind=3∨n.num=0)
def vP(n:Nd):Bool:=decide (n.kind=2∨n.kind=7∨n.text=⟨#[]⟩)
def vO(n:Nd):Bool:=decide (n.kind=5∨n.kind=6)||iw n.ref bL.zero
def vQ(n:Nd):Bool:=decide (n.kind=6)||iw n.ai bL.zero
theorem Ia (n:Nd):(n.kind=1∧ja n={ Nd.zero with num:=n.num })∨(n.kind=2∧ja n={ Nd.zero with text:=n.text })∨(n.kind=3∧ja n={ Nd.zero with num:=n.num })∨(n.kind=5∧ja n={ Nd.zero with ref:=n.ref })∨(n.kind=6∧ja n=⟨0,0,⟨#[]⟩,n.ref,n.ai,[]⟩)∨(n.kind=7∧ja n={ Nd.zero with text:=n.text })∨(¬ n.kind=1∧¬ n.kind=2∧¬ n.kind=3∧¬ n.kind=5∧¬ n.kind=6∧¬ n.kind=7∧ja n=Nd.zero):=by
 unfold ja;by_cases h1:n.kind=1
 · exact Or.inl ⟨h1,by rw[ag h1]⟩
 by_cases h2:n.kind=2
 · exact Or.inr <| Or.inl ⟨h2,by rw[af h1,ag h2]⟩
 by_cases h3:n.kind=3
 · exact Or.inr <| Or.inr <| Or.inl ⟨h3,by rw[af h1,af h2,ag h3]⟩
 by_cases h5:n.kind=5
 · exact Or.inr <| Or.inr <| Or.inr <| Or.inl ⟨h5,by rw[af h1,af h2,af h3,ag h5]⟩
 by_cases h6:n.kind=6
 · exact Or.inr <| Or.inr <| Or.inr <| Or.inr <| Or.inl ⟨h6,by rw[af h1,af h2,af h3,af h5,ag h6]⟩
 by_cases h7:n.kind=7
 · exact Or.inr <| Or.inr <| Or.inr <| Or.inr <| Or.inr <| Or.inl ⟨h7,by rw[af h1,af h2,af h3,af h5,af h6,ag h7]⟩
 exact Or.inr <| Or.inr <| Or.inr <| Or.inr <| Or.inr <| Or.inr <| ⟨h1,h2,h3,h5,h6,h7,by rw[af h1,af h2,af h3,af h5,af h6,af h7]⟩
theorem aeZ (n:Nd):decide (n.num=(ja n).num)=vN n:=by
 rcases Ia n with ⟨h,e⟩|⟨h,e⟩|⟨h,e⟩|⟨h,e⟩|⟨h,e⟩|⟨h,e⟩|⟨h1,h2,h3,h5,h6,h7,e⟩
 · rw[e];unfold vN;rw[show decide (n.num=n.num)=true from aR rfl];symm;rw[aQ];first|exact .inl h|exact .inr (.inl h)
 · rw [e];unfold vN;show decide (n.num=0)=_;rw[decide_eq_decide];constructor
   · intro g;exact .inr (.inr g)
   · rintro(g|g|g)
     · omega
     · omega
     · exact g
 · rw[e];unfold vN;rw[show decide (n.num=n.num)=true from aR rfl];symm;rw[aQ];first|exact .inl h|exact .inr (.inl h)
 · rw [e];unfold vN;show decide (n.num=0)=_;rw[decide_eq_decide];constructor
   · intro g;exact .inr (.inr g)
   · rintro(g|g|g)
     · omega
     · omega
     · exact g
 · rw [e];unfold vN;show decide (n.num=0)=_;rw[decide_eq_decide];constructor
   · intro g;exact .inr (.inr g)
   · rintro(g|g|g)
     · omega
     · omega
     · exact g
 · rw [e];unfold vN;show decide (n.num=0)=_;rw[decide_eq_decide];constructor
   · intro g;exact .inr (.inr g)
   · rintro(g|g|g)
     · omega
     · omega
     · exact g
 · rw [e];unfold vN;show decide (n.num=0)=_;rw[decide_eq_decide];constructor
   · intro g;exact .inr (.inr g)
   · rintro(g|g|g)
     · omega
     · omega
     · exact g
theorem ae1 (n:Nd):decide (n.text=(ja n).text)=vP n:=by
 rcases Ia n with ⟨h,e⟩|⟨h,e⟩|⟨h,e⟩|⟨h,e⟩|⟨h,e⟩|⟨h,e⟩|⟨h1,h2,h3,h5,h6,h7,e⟩
 · rw [e];unfold vP;show decide (n.text=⟨#[]⟩)=_;rw[decide_eq_decide];constructor
   · intro g;exact .inr (.inr g)
   · rintro(g|g|g)
     · omega
     · omega
     · exact g
 · rw[e];unfold vP;rw[show decide (n.text=n.text)=true from aR rfl];symm;rw[aQ];first|exact .inl h|exact .inr (.inl h)
 · rw [e];unfold vP;show decide (n.text=⟨#[]⟩)=_;rw[decide_eq_decide];constructor
   · intro g;exact .inr (.inr g)
   · rintro(g|g|g)
     · omega
     · omega
     · exact g
 · rw [e];unfold vP;show decide (n.text=⟨#[]⟩)=_;rw[decide_eq_decide];constructor
   · intro g;exact .inr (.inr g)
   · rintro(g|g|g)
     · omega
     · omega
     · exact g
 · rw [e];unfold vP;show decide (n.text=⟨#[]⟩)=_;rw[decide_eq_decide];constructor
   · intro g;exact .inr (.inr g)
   · rintro(g|g|g)
     · omega
     · omega
     · exact g
 · rw[e];unfold vP;rw[show decide (n.text=n.text)=true from aR rfl];symm;rw[aQ];first|exact .inl h|exact .inr (.inl h)
 · rw [e];unfold vP;show decide (n.text=⟨#[]⟩)=_;rw[decide_eq_decide];constructor
   · intro g;exact .inr (.inr g)
   · rintro(g|g|g)
     · omega
     · omega
     · exact g
theorem ae0 (n:Nd):iw n.ref (ja n).ref=vO n:=by
 rcases Ia n with ⟨h,e⟩|⟨h,e⟩|⟨h,e⟩|⟨h,e⟩|⟨h,e⟩|⟨h,e⟩|⟨h1,h2,h3,h5,h6,h7,e⟩
 · rw[e];unfold vO;show iw n.ref bL.zero=_;rw[aV (by omega)];rfl
 · rw[e];unfold vO;show iw n.ref bL.zero=_;rw[aV (by omega)];rfl
 · rw[e];unfold vO;show iw n.ref bL.zero=_;rw[aV (by omega)];rfl
 · rw[e];unfold vO;rw[show iw n.ref n.ref=true from KZ _,aR (by omega)];rfl
 · rw[e];unfold vO;rw[show iw n.ref n.ref=true from KZ _,aR (by omega)];rfl
 · rw[e];unfold vO;show iw n.ref bL.zero=_;rw[aV (by omega)];rfl
 · rw[e];unfold vO;show iw n.ref bL.zero=_;rw[aV (by omega)];rfl
theorem ae2 (n:Nd):iw n.ai (ja n).ai=vQ n:=by
 rcases Ia n with ⟨h,e⟩|⟨h,e⟩|⟨h,e⟩|⟨h,e⟩|⟨h,e⟩|⟨h,e⟩|⟨h1,h2,h3,h5,h6,h7,e⟩
 · rw[e];unfold vQ;show iw n.ai bL.zero=_;rw[aV (by omega)];rfl
 · rw[e];unfold vQ;show iw n.ai bL.zero=_;rw[aV (by omega)];rfl
 · rw[e];unfold vQ;show iw n.ai bL.zero=_;rw[aV (by omega)];rfl
 · rw[e];unfold vQ;show iw n.ai bL.zero=_;rw[aV (by omega)];rfl
 · rw[e];unfold vQ;rw[show iw n.ai n.ai=true from KZ _,aR (by omega)];rfl
 · rw[e];unfold vQ;show iw n.ai bL.zero=_;rw[aV (by omega)];rfl
 · rw[e];unfold vQ;show iw n.ai bL.zero=_;rw[aV (by omega)];rfl
theorem adC (n:Nd):aO n=((vN n&&(vP n&&(vO n&&vQ n)))&&CV n):=by
 unfold aO vN vP vO vQ;rw[MP,MP]
 have hk:(if n.kind=1 then decide (0≤n.num)else if n.kind=3 then decide (n.num=0∨n.num=1)else if n.kind=2 then mM (sb n.text)else if n.kind=7 then kv n.text else if n.kind=5 then bX n.ref else if n.kind=6 then bX n.ref&&(bX n.ai&&fI n.ref n.ai)else true)=CV n:=by
  unfold CV;by_cases h1:n.kind=1
  · rw[ag h1,ag h1]
  by_cases h2:n.kind=2
  · rw[af h1,af (by omega),ag h2,af h1,ag h2]
  by_cases h3:n.kind=3
  · rw[af h1,ag h3,af h1,af h2,ag h3]
  by_cases h5:n.kind=5
  · rw[af h1,af h3,af h2,af (by omega),ag h5,af h1,af h2,af h3,ag h5]
  by_cases h6:n.kind=6
  · rw[af h1,af h3,af h2,af (by omega),af h5,ag h6,af h1,af h2,af h3,af h5,ag h6]
  by_cases h7:n.kind=7
  · rw[af h1,af h3,af h2,ag h7,af h1,af h2,af h3,af h5,af h6,ag h7]
  rw[af h1,af h3,af h2,af h7,af h5,af h6,af h1,af h2,af h3,af h5,af h6,af h7]
 rw[hk];by_cases q1:n.kind=1∨n.kind=3∨n.num=0
 · by_cases q2 : n.kind=2∨n.kind=7∨n.text=⟨#[]⟩
   · by_cases q3:n.kind=5∨n.kind=6
     · by_cases q4:n.kind=6
       · rw [aR q1,aR q2,aR q3,aR q4,af]
         · rfl
         · rintro (g|g|g|g)
           · omega
           · rcases q2 with q|q|q
             · exact g.1 q
             · exact g.2.1 q
             · exact g.2.2 q
           · omega
           · omega
       · cases q5:iw n.ai bL.zero
         · rw[ag (.inr (.inr (.inr ⟨q4,rfl⟩))),aV q4,Bool.or_false,Bool.and_false,Bool.and_false,Bool.and_false];rfl
         · rw [aR q1,aR q2,aR q3,aV q4,af]
           · rfl
           · rintro (g|g|g|g)
             · omega
             · rcases q2 with q|q|q
               · exact g.1 q
               · exact g.2.1 q
               · exact g.2.2 q
             · omega
             · cases g.2
     · cases q5 : iw n.ref bL.zero
       · rw[ag (.inr (.inr (.inl ⟨by omega,by omega,rfl⟩))),aV q3,Bool.or_false,Bool.false_and,Bool.and_false,Bool.and_false];rfl
       · cases q6:iw n.ai bL.zero
         · rw[ag (.inr (.inr (.inr ⟨by omega,rfl⟩))),aV (show ¬ n.kind=6 by omega),Bool.or_false,Bool.and_false,Bool.and_false,Bool.and_false];rfl
         · rw [aR q1,aR q2,aV q3,af]
           · cases decide (n.kind=6) <;> rfl
           · rintro (g|g|g|g)
             · omega
             · rcases q2 with q|q|q
               · exact g.1 q
               · exact g.2.1 q
               · exact g.2.2 q
             · cases g.2.2
             · cases g.2
   · rw[ag (.inr (.inl ⟨fun h=>q2 (.inl h),fun h=>q2 (.inr (.inl h)),fun h=>q2 (.inr (.inr h))⟩)),aV q2,Bool.false_and,Bool.and_false];rfl
 · rw[ag (.inl ⟨fun h=>q1 (.inl h),fun h=>q1 (.inr (.inl h)),fun h=>q1 (.inr (.inr h))⟩),aV q1];rfl
theorem adi (n:Nd)(m:Nat):(okF n&&hkB n.kind m)=(CV n&&(decide (jT n.kind = -1)||decide (jT n.kind=m))):=by
 have c0:decide ((0:Int)=(m:Int))=decide (m=0):=by rw[decide_eq_decide];omega
 have c1:decide ((1:Int)=(m:Int))=decide (m=1):=by rw[decide_eq_decide];omega
 have c2:decide ((2:Int)=(m:Int))=decide (m=2):=by rw[decide_eq_decide];omega
 have c3:decide ((-2:Int)=(m:Int))=false:=by rw[jv];omega
 unfold okF CV hkB jT xC;by_cases h1:n.kind=1
 · rw[ag h1,ag h1,af (show ¬ n.kind=7 by omega),af (show ¬ n.kind=8 by omega),aV (show ¬ (9≤n.kind∧n.kind≤19)by omega),ag (show 1≤n.kind∧n.kind≤6 by omega),c0];rfl
 by_cases h2:n.kind=2
 · rw[af h1,ag h2,af h1,ag h2,af (show ¬ n.kind=7 by omega),af (show ¬ n.kind=8 by omega),aV (show ¬ (9≤n.kind∧n.kind≤19)by omega),ag (show 1≤n.kind∧n.kind≤6 by omega),c0];rfl
 by_cases h3:n.kind=3
 · rw[af h1,af h2,ag h3,af h1,af h2,ag h3,af (show ¬ n.kind=7 by omega),af (show ¬ n.kind=8 by omega),aV (show ¬ (9≤n.kind∧n.kind≤19)by omega),ag (show 1≤n.kind∧n.kind≤6 by omega),c0];rfl
 by_cases h5:n.kind=5
 · rw[af h1,af h2,af h3,ag h5,af h1,af h2,af h3,ag h5,af (show ¬ n.kind=7 by omega),af (show ¬ n.kind=8 by omega),aV (show ¬ (9≤n.kind∧n.kind≤19)by omega),ag (show 1≤n.kind∧n.kind≤6 by omega),c0];rfl
 by_cases h6:n.kind=6
 · rw[af h1,af h2,af h3,af h5,ag h6,af h1,af h2,af h3,af h5,ag h6,af (show ¬ n.kind=7 by omega),af (show ¬ n.kind=8 by omega),aV (show ¬ (9≤n.kind∧n.kind≤19)by omega),ag (show 1≤n.kind∧n.kind≤6 by omega),c0];rfl
 by_cases h7:n.kind=7
 · rw[af h1,af h2,af h3,af h5,af h6,ag h7,af h1,af h2,af h3,af h5,af h6,ag h7,ag h7,af (show ¬ (1≤n.kind∧n.kind≤6)by omega),ag h7];rfl
 rw[af h1,af h2,af h3,af h5,af h6,af h7,af h1,af h2,af h3,af h5,af h6,af h7,af h7,gV];by_cases h8:n.kind=8
 · rw[ag h8,af (show ¬ (1≤n.kind∧n.kind≤6)by omega),af h7,ag h8,c1,aR (show n.kind=4∨n.kind=8 by omega)];rfl
 by_cases h9:9≤n.kind∧n.kind≤19
 · rw[af h8,af (show ¬ (1≤n.kind∧n.kind≤6)by omega),af h7,af h8,ag h9,c2,aR h9,ag rfl,Bool.or_true];rfl
 by_cases h4:n.kind=4
 · rw[af h8,ag (show 1≤n.kind∧n.kind≤6 by omega),c0,aR (show n.kind=4∨n.kind=8 by omega),aV h9];rfl
 rw[af h8,af (show ¬ (1≤n.kind∧n.kind≤6)by omega),af h7,af h8,af h9,c3,aV (show ¬ (n.kind=4∨n.kind=8)by omega),aV h9];rfl
theorem SX (n:Nd):wo n n.kids.length=dD n:=by
 unfold wo dD;rw[aeZ,ae1,ae0,ae2,adC];have h:=adi n n.kids.length;revert h;generalize (decide (jT n.kind = -1)||decide (jT n.kind=n.kids.length))=d;generalize hkB n.kind n.kids.length=c;cases okF n <;> cases CV n <;> cases c <;> cases d <;> cases vN n <;> cases vP n <;> cases vO n <;> cases vQ n <;> simp
def ic (w:World)(B:Nat)(v:Value)(xs:List Int):Prop :=
 ∃A cap,v = .slice A xs.length cap∧xs.length≤cap∧cap≤maxLen∧(xs=[]∨∃pb po,A=some ⟨pb,po,none⟩∧pb<B∧∀(j:Nat)(x:Int),xs[j]? = some x→w.cell? ⟨pb,po+j,none⟩=some (.int .i64 x))
theorem ic.below {C:Nat}(h:ic w B v xs)(hb:Below C w w')(hC:B≤C):ic w' B v xs:=by
 obtain⟨A,cap,h1,h2,h3,h4⟩:=h;refine⟨A,cap,h1,h2,h3,h4.imp id ?_⟩;rintro⟨pb,po,e1,e2,e3⟩;exact⟨pb,po,e1,e2,fun j x hj=>(hb.cell (p:=⟨pb,po+j,none⟩) (by show pb<C;omega)).trans (e3 j x hj)⟩
theorem ic.mono {C:Nat}(h:ic w B v xs)(hC:B≤C):ic w C v xs:=by
 obtain⟨A,cap,h1,h2,h3,h4⟩:=h;refine⟨A,cap,h1,h2,h3,h4.imp id ?_⟩;rintro⟨pb,po,e1,e2,e3⟩;exact⟨pb,po,e1,by omega,e3⟩
theorem UG {n:Nat}(h:Own (aJ .i64) 3 w base (.slice (some ⟨g,0,none⟩) n cap) st)(j:Nat)(x:Int)(hj:st[j]? = some x):w.cell? ⟨g,j,none⟩=some (.int .i64 x):=by
 have hl:=(eQ.1 hj).1;have h1:=Own.zC h j hl;rw[kg,hj]at h1;exact h1
theorem ic.tail (h:Own (aJ .i64) 3 w base (.slice (some ⟨g,0,none⟩) st.length cap) st)(f:Nat)(hf:f≤st.length)(hc:st.length≤cap)(hm:cap≤maxLen)(hg:g<w.heap.size):ic w w.heap.size (.slice (if cap=f then some ⟨g,0,none⟩else some ⟨g,f,none⟩) (st.length - f) (cap - f)) (st.drop f):=by
 refine⟨_,_,by rw[lq],by rw[lq];omega,by omega, ?_⟩;by_cases h0:st.drop f=[]
 · exact .inl h0
 · have hne:¬ cap=f:=fun e=>h0 (List.drop_of_length_le (by omega))
   refine .inr ⟨g,f,by rw[af hne],hg,fun j x hj => ?_⟩;rw[List.getElem?_drop]at hj;exact UG h (f+j) x hj
theorem UJ (h:Own (aJ .i64) 3 w base (.slice (some ⟨g,0,none⟩) st.length cap) st)(k:Nat)(hk:k≤st.length):Own (aJ .i64) 3 w base (.slice (some ⟨g,0,none⟩) k cap) (st.take k):=by
 have hl:(st.take k).length=k:=by rw[gW];omega
 rcases h.2 with ⟨h1,_⟩|⟨g',qA,cur,h1,h2,h3,h4,h5,h6,h7⟩
 · cases h1
 · injection h1 with e1 e2 e3
   injection e1 with e1;injection e1 with e1;subst e1;subst e3;refine⟨by rw[Enc.mK],.inr ⟨g,cap,cur,by rw[hl],h2,h3,by omega,h5,h6, ?_⟩⟩;rw[hl,wS,List.map_take, ← wS, ← h7,List.take_take,Nat.mul_one,Nat.mul_one];congr 1;omega
theorem N9 {ys:List Int}{k:Nat}{x:Int}(h:xs.take k=ys.take k)(hx:xs[k]? = some x)(hy:ys[k]? = some x):xs.take (k+1)=ys.take (k+1):=by
 rw[List.take_add_one,List.take_add_one,h,hx,hy]
theorem QM (w:World)(B:Nat)(v1 v2:Value)(xs ys:List Int)(h1:ic w B v1 xs)(h2:ic w B v2 ys):Calls Tryz.prog 35 #[v1,v2] w fun e w'=>e = .returned (.bool (decide (xs=ys)))∧Below w.heap.size w w':=by
 obtain⟨A1,fu,rfl,hc1,hm1,a1⟩:=h1;obtain⟨A2,jU,rfl,hc2,hm2,a2⟩:=h2;unfold maxLen at hm1 hm2;obtain⟨n1,hn1⟩:∃n1,xs.length=n1:=⟨_,rfl⟩;obtain⟨n2,hn2⟩:∃n2,ys.length=n2:=⟨_,rfl⟩;rw[hn1]at hc1 ⊢;rw[hn2]at hc2 ⊢;by_cases hl:n1=n2
 · subst hl
   have HA1:=ae a1;have HA2:=ae a2;have dK:=ae hn1;have bV:=ae hn2;clear a1 a2 hn1 hn2;go_enter Tryz.func35,Tryz.ntmps35;go_upto_region 4 with (fail)
   go_loopw [13] (fun i wr=>∃(k m:Nat),k≤n1∧i = .int .i64 (k:Int)∧Hid (xs.take k=ys.take k)∧w.drewN m=wr)
    (fun i _=>n1 - (intOf i).toNat)
   case atStart=>exact⟨0,0,ek _,rfl,ae rfl,rfl⟩
   case round =>
    obtain⟨k,m,hk,rfl,HT,rfl⟩:=hrel;by_cases hlt:k<n1
    · have hki:(k:Int)<(n1:Int):=by omega
      obtain⟨x,hx⟩:∃x,xs[k]? = some x:=⟨_,cZ (by rw[dK.o];exact hlt)⟩;obtain⟨y,hy⟩:∃y,ys[k]? = some y:=⟨_,cZ (by rw[bV.o];exact hlt)⟩;rcases HA1.o with e|⟨p1,o1,rfl, -,c1⟩
      · exfalso;rw[e]at hx;simp at hx
      rcases HA2.o with e|⟨p2,o2,rfl, -,c2⟩
      · exfalso;rw[e]at hy;simp at hy
      have k1:=c1 k x hx;have k2:=c2 k y hy;have HX:=ae hx;have iH:=ae hy;clear c1 c2 hx hy;by_cases hxy:x=y
      · have ex:(x != y)=false:=by rw[hxy];simp
        have HT2:=ae (N9 HT.o HX.o (by rw[hxy];exact iH.o));clear hxy;go_wp2_with fail
        go_quiet (fail)
        go_wp2_with fail
        go_roundw
        case rel=>exact⟨k+1,_,by omega,by go_num,HT2,by first|rfl|trivial⟩
        case measure=>simp[intOf];omega
      · have ex:(x != y)=true:=by rw[bne_iff_ne];exact hxy
        have HR:=ae (show ¬ xs=ys from fun e=>hxy (by have h1:=HX.o;rw[e,iH.o]at h1;exact(dM h1).symm));clear hxy;go_wp2_with fail
        go_quiet (fail)
        go_wp2_with fail
        go_ret;exact⟨by rw[aV HR.o] <;> rfl,oq (oq (ak _ _) m) nq⟩
    · have hki:¬ (k:Int)<(n1:Int):=by omega
      have HR:=ae (show xs=ys by
       have h1:=HT.o;rw[mP (by rw[dK.o];omega),mP (by rw[bV.o];omega)]at h1;exact h1)
      go_wp2_with fail
      go_ret;exact⟨by rw[aR HR.o] <;> rfl,oq (ak _ _) m⟩
 · have hne:((n1:Int) != (n2:Int))=true:=by rw[bne_iff_ne];omega
   have HR:=ae (show ¬ xs=ys from fun e=>hl (by rw[← hn1, ← hn2,e]));clear a1 a2 hn1 hn2;go_enter Tryz.func35,Tryz.ntmps35;go_wp2_with fail
   go_ret;exact⟨by rw[aV HR.o] <;> rfl,ak _ _⟩
def dN (w:World)(B:Nat)(v:Value)(vs:List (Nd × Value)):Prop :=
 (∃A cap,v = .slice A vs.length cap∧(vs=[]∨∃pb po,A=some ⟨pb,po,none⟩∧pb<B∧∀(i:Nat)(n:Nd)(k:Value),vs[i]? = some (n,k)→∀j,j<14→w.cell? ⟨pb,po+i*14+j,none⟩=(bA n k).toList[j]?))∧∀p∈vs,ic w B p.2 p.1.kids
def SZ(vs:List (Nd × Value)):Prop:=vs.length≤1000∧∀p∈vs,p.1.text.size≤1000000∧p.1.ref.sh.size≤1000000∧p.1.ai.sh.size≤1000000
theorem ic.se (h:ic w B v xs):ku (aJ .i64) w B v xs:=by
 obtain⟨A,cap,h1,h2,h3,h4⟩:=h;refine⟨A,cap,h1,h2,h3,h4.imp id ?_⟩;rintro⟨pb,po,e1,e2,e3⟩;refine⟨pb,po,e1,e2,fun j u hu => ?_⟩;rw[wS,gY]at hu;cases hx:xs[j]? with
 | none=>rw[hx]at hu;cases hu
 | some x=>rw[hx]at hu;rw[← dM hu];exact e3 j x hx
theorem ku.si (h:ku (aJ .i64) w B v xs):ic w B v xs:=by
 obtain⟨A,cap,h1,h2,h3,h4⟩:=h;refine⟨A,cap,h1,h2,h3,h4.imp id ?_⟩;rintro⟨pb,po,e1,e2,e3⟩;exact⟨pb,po,e1,e2,fun j x hx=>e3 j _ (by rw[wS,gY,hx];rfl)⟩
theorem Own.V8{lo:Nat}(h:Own (aJ .i64) 3 w lo v xs):ic w w.heap.size v xs:=h.se.si
theorem UH (w:World):Own (aJ .i64) 3 (w.alloc (.cells #[] 3)) w.heap.size (.slice (some ⟨w.heap.size,0,none⟩) 0 0) ([]:List Int) :=
 Own.made (aJ .i64) 3 _ _ _ 0 #[] rfl (aj _) (by unfold maxLen;omega) rfl
theorem VM(A:Option Addr)(n cap:Nat)(w:World):Sem.run Tryz.prog (binOp BinOp.eql 34 (.slice A n cap) (.slice none 0 0)) w = .ok (.bool A.isNone) w:=Lib.run_eql_slice_nil w 34 3 A n cap 0 0 Tryz.underlying34
theorem P7 {s:ByteArray}(h:s.size=0):s=⟨#[]⟩:=by
 obtain⟨d⟩:=s;rw[Array.eq_empty_of_size_eq_zero (xs:=d) h]
def Xt(w:World)(xs:List Int)(e:Ending)(w':World):Prop:=Below w.heap.size w w'∧∃A' c',e = .returned (.slice A' xs.length c')∧Own (aJ .i64) 3 w' w.heap.size (.slice A' xs.length c') xs
theorem Z8 (w:World)(A:Option Addr)(n cap:Nat)(xs:List Int)(h:ic w w.heap.size (.slice A n cap) xs)(hn:n≤1000000) :
 Calls Tryz.prog 38 #[.slice A n cap] w (Xt w xs):=by
 have h:=h.se;cases A with
 | none =>
   obtain rfl:xs=[]:=by
    cases xs with
    | nil=>rfl
    | cons x t=>obtain⟨pb,po,h1,_⟩:=ku.at h (i:=0) rfl;cases h1
   obtain rfl:n=0:=h.len.1.symm;clear h;have acb:=fun w=>VM none 0 cap w
   go_enter Tryz.func38,Tryz.ntmps38;go_wp2_with fail
   go_ret;exact⟨ak _ _,none,0,rfl,Own.nil _ _ _ _⟩
 | some ad =>
   have HX:=ae h;have HL:=ae h.len.1;clear h;have HO:=ae (UH w);have ma:=ae ((ak w.heap.size w).alloc (aj _) (.cells #[] 3))
   have XD:=ae (fun (j:Nat)(u:Value)(hj:((aJ .i64).all xs)[j]? = some u)=>(show(w.alloc (.cells #[] 3)).cell? (ad.add j)=some u from by
    obtain⟨A',qA,h1,_,_,h3⟩:=(HX.o.lift ma.o);injection h1 with h1 _ _;rcases h3 with rfl|⟨pb,po,h4,_,h5⟩
    · simp[Enc.all]at hj
    · rw[h4]at h1
      injection h1 with h1;subst h1;rw[Addr.add_mid];exact h5 j u hj))
   have acb:=fun w=>VM (some ad) n cap w
   go_enter Tryz.func38,Tryz.ntmps38;go_wp2_with (at_builtin;refine oL Elem.pl (aJ .i64) rfl (.tmp 5) (.tmp 6) rfl w.heap.size _ [] rfl HO.o ad n cap xs rfl HL.o XD.o ?_ ?_ ?_ ?_;(rw[dX];omega);(rw[dX];unfold maxLen;omega);exact ma.o.size;intro v3 w3 h1 h2;have H3:=ae h1;clear h1;have H4:=ae h2;clear h2)
   go_ret;have ho:Own (aJ .i64) 3 w3 w.heap.size v3 xs:=by have:=H3.o;rwa[gX]at this
   have hb:Below w.heap.size w w3:=ma.o.trans H4.o;refine⟨hb, ?_⟩;obtain⟨A',c',rfl⟩:=tC ho;exact⟨A',c',rfl,ho⟩
theorem aeS (w:World)(own:ByteArray)(mb:Nat)(n:Nd) :
 Calls Tryz.prog 39 #[.agg #[.string own,.map (some mb)],.agg #[.string n.ref.sh,.int .i64 n.ref.c,.int .i64 n.ref.r,.bool n.ref.ac,.bool n.ref.ar]] w fun e w'=>e = .returned (.string (oH own n))∧Below w.heap.size w w':=by
 by_cases c:n.ref.sh=⟨#[]⟩
 · have e1:oH own n=own:=by unfold oH;rw[ag c]
   rw[e1];have e2:n.ref.sh.toList=[]:=by rw[c,qH]
   have e3:n.ref.sh.toList.isEmpty=true:=by rw[e2];rfl
   have HB:=ae (((ak w.heap.size w).alloc (aj _) (.cells #[.string own,.map (some mb)] 55)).alloc (by simp) (.cells #[.string n.ref.sh,.int .i64 n.ref.c,.int .i64 n.ref.r,.bool n.ref.ac,.bool n.ref.ar] 42));clear e1 c;go_enter Tryz.func39,Tryz.ntmps39;go_wp2_with fail
   go_ret;exact⟨rfl,HB.o⟩
 · have e1:oH own n=n.ref.sh:=by unfold oH;rw[af c]
   rw[e1];have e2:¬ n.ref.sh.toList=[]:=qg _ fun e=>c (P7 e)
   have e3:n.ref.sh.toList.isEmpty=false:=by cases h:n.ref.sh.toList with|nil=>exact absurd h e2|cons a l=>rfl
   have HB:=ae (((ak w.heap.size w).alloc (aj _) (.cells #[.string own,.map (some mb)] 55)).alloc (by simp) (.cells #[.string n.ref.sh,.int .i64 n.ref.c,.int .i64 n.ref.r,.bool n.ref.ac,.bool n.ref.ar] 42));clear e1 c;go_enter Tryz.func39,Tryz.ntmps39;go_wp2_with fail
   go_ret;exact⟨rfl,HB.o⟩
theorem lh {ops:Array Oper}{rest:List Oper}{op:Oper}(hgd:op.guard=none)(x y:Operand)(ho:op.op = .store 44 x y)
 (g:Nat) (n0 n:Nd) (k0 k:Value) (hx:a.eval x = .pointer (some ⟨g,0,none⟩)) (hy:a.eval y = .agg (bA n k)) (hr:az w g n0 k0) (hk:k.oneCell'=true)
 (h:∀w',az w' g n k→w.grownBy w' (some g)→wpList Tryz.prog ops Q rest (a.put op.dst undef) w'):wpList Tryz.prog ops Q (op :: rest) a w :=
 wpList_store_row hgd 44 x y ho g 44 _ _ hx hy hr rfl zJ (EW n k hk) (h _ (setRow_heap w g _ _ _ _ hr) (grownBy.I1 (grownBy.fT w _) _))
theorem Jl {o:Oper}{K:Act→World→Prop}(x y:Operand)(ho:o.op = .store 44 x y)
 (g:Nat) (n0 n:Nd) (k0 k:Value) (hx:a.eval x = .pointer (some ⟨g,0,none⟩)) (hy:a.eval y = .agg (bA n k)) (hr:az w g n0 k0) (hk:k.oneCell'=true)
 (h:∀w',az w' g n k→w.grownBy w' (some g)→K (a.put o.dst undef) w'):Oper.wp Tryz.prog o a w K Q :=
 wp_store_row 44 x y ho g 44 _ _ hx hy hr rfl zJ (EW n k hk) (h _ (setRow_heap w g _ _ _ _ hr) (grownBy.I1 (grownBy.fT w _) _))
theorem az.Gz(h:az w z n k):az w.drew z n k:=h
theorem SQ (w:World)(A:Option Addr)(n cap:Nat)(xs:List Int)(nw:Int)(k:Nat)(h:IR w w.heap.size A n cap xs) :
 Calls Tryz.prog 143 #[.agg #[.slice A n cap,.int .i64 nw],.int .i64 (k:Int)] w fun e w'=>e = .returned (.bool (jh xs k))∧Below w.heap.size w w':=by
 have HB:=ae (sQ 136 w (.slice A n cap) nw);have HP:=ae (dI.new 136 w (.slice A n cap) nw);have HX:=ae h;have HL:=ae h.len.1;clear h;by_cases hin:k<n
 · have hii:(k:Int)<(n:Int):=by omega
   have hi0:(0:Int)≤(k:Int):=by omega
   obtain⟨pb,po,rfl,hpb,e0⟩:=He HX.o hin
   have hg:jh xs k=decide (xs.getD k 0 = -1):=by
    unfold jh;rw[getD_some xs k (by rw[HL.o];exact hin)];by_cases hx:xs.getD k 0 = -1
    · rw[hx];rfl
    · rw[aV hx,aV (fun e=>hx (dM e))]
   obtain⟨x,hx⟩:∃x,xs.getD k 0=x:=⟨_,rfl⟩;rw[hx]at e0 hg;have HE:=ae e0;have D6:=ae hpb;have HG:=ae hg;clear e0 hx hpb hg;go_enter Tryz.func143,Tryz.ntmps143;go_upto_region 1 with (fail)
   obtain⟨w1,hw1⟩:∃w1,w.alloc (.cells #[.slice (some ⟨pb,po,none⟩) n cap,.int .i64 nw] 136)=w1:=⟨_,rfl⟩;rw[hw1]at HB HP ⊢;clear hw1;obtain⟨x0,x1⟩:=HP.o.cells;have x2:w1.cell? ⟨pb,po+k,none⟩=some (.int .i64 x):=(HB.o.cell (p:=⟨pb,po+k,none⟩) D6.o).trans HE.o;by_cases hx:x = -1
   · have hxb:(x == -1)=true:=by rw[hx];rfl
     have vD:=ae hx;clear hx;go_wp2_with fail
     go_ret;exact⟨by rw[HG.o,aR vD.o];rfl,HB.o⟩
   · have hxb:(x == -1)=false:=by rw[aA];exact hx
     have vD:=ae hx;clear hx;go_wp2_with fail
     go_ret;exact⟨by rw[HG.o,aV vD.o];rfl,HB.o⟩
 · have hii:¬ (k:Int)<(n:Int):=by omega
   have HG:=ae (show jh xs k=false from by
    unfold jh;rw[List.getElem?_eq_none (by rw[HL.o];omega)];rfl)
   go_enter Tryz.func143,Tryz.ntmps143;go_upto_region 1 with (fail)
   obtain⟨w1,hw1⟩:∃w1,w.alloc (.cells #[.slice A n cap,.int .i64 nw] 136)=w1:=⟨_,rfl⟩;rw[hw1]at HB HP ⊢;clear hw1;obtain⟨x0,x1⟩:=HP.o.cells;go_wp2_with fail
   go_ret;exact⟨by rw[HG.o];rfl,HB.o⟩
theorem Lf {k:Nat}(h:jh xs k=true):k<xs.length:=by
 unfold jh at h;rw[decide_eq_true_eq]at h;exact(eQ.1 h).1
theorem aaX (w:World)(A:Option Addr)(n cap:Nat)(xs:List Int)(nw hi:Int)(lo:Nat)(h:IR w w.heap.size A n cap xs)(hh:hi≤4398046511104) :
 Calls Tryz.prog 116 #[.agg #[.slice A n cap,.int .i64 nw],.int .i64 (lo:Int),.int .i64 hi] w fun e w'=>e = .returned (.int .i64 (iD xs (hi+1 - lo).toNat lo:Nat))∧Below w.heap.size w w':=by
 have HB:=ae (sQ 136 w (.slice A n cap) nw);have HP:=ae (dI.new 136 w (.slice A n cap) nw);have HX:=ae h;have HL:=ae h.len.1;clear h;obtain⟨F,hF⟩:∃F,iD xs (hi+1 - lo).toNat lo=F:=⟨_,rfl⟩;rw[hF];have HF:=ae hF;clear hF;go_enter Tryz.func116,Tryz.ntmps116;go_upto_region 1 with (fail)
 obtain⟨w1,hw1⟩:∃w1,w.alloc (.cells #[.slice A n cap,.int .i64 nw] 136)=w1:=⟨_,rfl⟩;rw[hw1]at HB HP ⊢;clear hw1;have vD:=ae (HX.o.lift HB.o)
 go_loopw [1] (fun iv wr=>∃k:Nat,iv = .int .i64 (k:Int)∧Hid (iD xs (hi+1 - k).toNat k=F)∧Hid (Below w1.heap.size w1 wr))
  (fun iv _=>n - (intOf iv).toNat)
 case atStart=>exact⟨lo,rfl,HF,ae (ak _ _)⟩
 case round =>
  obtain⟨k,rfl,HK,HR⟩:=hrel;obtain⟨x0,x1⟩:=(HP.o.over HR.o).cells;by_cases hle:(k:Int)≤hi
  · have HM:=ae (show(hi+1 - (k:Int)).toNat=(hi+1 - ((k+1:Nat):Int)).toNat+1 by omega)
    have hc:=SQ wr A n cap xs nw k (vD.o.lift HR.o);cases hg:jh xs k with
    | true =>
      have hkn:=Lf hg;rw[HL.o]at hkn;rw[hg]at hc;have HC:=ae hc
      have HN:=ae (show iD xs (hi+1 - ((k+1:Nat):Int)).toNat (k+1)=F from by
       have h1:=HK.o;rw[HM.o]at h1;unfold iD at h1;rwa[ag hg]at h1)
      clear hc hg;go_wp2_with (go_at_call 143;((with_reducible refine HC.o.mono ?_);rintro e w2 ⟨rfl,h1⟩;have H2:=ae (HR.o.trans (h1.mono HR.o.size));clear h1))
      go_roundw
      case rel=>exact⟨k+1,by go_num,HN,H2⟩
      case measure=>simp[intOf];omega
    | false =>
      rw[hg]at hc;have HC:=ae hc
      have HN:=ae (show k=F from by
       have h1:=HK.o;rw[HM.o]at h1;unfold iD at h1;rwa[af (by rw[hg];decide)]at h1)
      clear hc hg;go_wp2_with (go_at_call 143;((with_reducible refine HC.o.mono ?_);rintro e w2 ⟨rfl,h1⟩;have H2:=ae (HR.o.trans (h1.mono HR.o.size));clear h1))
      go_ret;exact⟨by rw[← HN.o];rfl,HB.o.trans (H2.o.mono HB.o.size)⟩
  · have HN:=ae (show k=F from by
     have h1:=HK.o;rw[show(hi+1 - (k:Int)).toNat=0 by omega]at h1;exact h1)
    go_wp2_with fail
    go_ret;exact⟨by rw[← HN.o];rfl,HB.o.trans (HR.o.mono HB.o.size)⟩
theorem ads (w:World)(A:Option Addr)(n cap:Nat)(xs:List Int)(nw:Int)(lo hi:Nat)(h:IR w w.heap.size A n cap xs)(hlh:lo≤hi)(hh:(hi:Int)≤4398046511104) :
 Calls Tryz.prog 117 #[.agg #[.slice A n cap,.int .i64 nw],.int .i64 (lo:Int),.int .i64 (hi:Int)] w fun e w'=>e = .returned (.int .i64 (mq xs (hi - lo) hi:Nat))∧Below w.heap.size w w':=by
 have HB:=ae (sQ 136 w (.slice A n cap) nw);have HP:=ae (dI.new 136 w (.slice A n cap) nw);have HX:=ae h;have HL:=ae h.len.1;clear h;obtain⟨F,hF⟩:∃F,mq xs (hi - lo) hi=F:=⟨_,rfl⟩;rw[hF];have HF:=ae hF;clear hF;go_enter Tryz.func117,Tryz.ntmps117;go_upto_region 1 with (fail)
 obtain⟨w1,hw1⟩:∃w1,w.alloc (.cells #[.slice A n cap,.int .i64 nw] 136)=w1:=⟨_,rfl⟩;rw[hw1]at HB HP ⊢;clear hw1;have vD:=ae (HX.o.lift HB.o)
 go_loopw [2] (fun iv wr=>∃k:Nat,iv = .int .i64 (k:Int)∧lo≤k∧(k:Int)≤4398046511104∧Hid (mq xs (k - lo) k=F)∧Hid (Below w1.heap.size w1 wr))
  (fun iv _=>(intOf iv).toNat)
 case atStart=>exact⟨hi,rfl,hlh,hh,HF,ae (ak _ _)⟩
 case round =>
  obtain⟨k,rfl,hlk,hkb,HK,HR⟩:=hrel;obtain⟨x0,x1⟩:=(HP.o.over HR.o).cells;by_cases hle:(lo:Int)<(k:Int)
  · have HM:=ae (show k - lo=(k - 1 - lo)+1 by omega)
    have hc:=SQ wr A n cap xs nw k (vD.o.lift HR.o);cases hg:jh xs k with
    | true =>
      rw[hg]at hc;have HC:=ae hc
      have HN:=ae (show mq xs (k - 1 - lo) (k - 1)=F from by
       have h1:=HK.o;rw[HM.o]at h1;unfold mq at h1;rwa[ag hg]at h1)
      clear hc hg;go_wp2_with (go_at_call 143;((with_reducible refine HC.o.mono ?_);rintro e w2 ⟨rfl,h1⟩;have H2:=ae (HR.o.trans (h1.mono HR.o.size));clear h1))
      go_roundw
      case rel=>exact⟨k - 1,by go_num,by omega,by omega,HN,H2⟩
      case measure=>simp[intOf];omega
    | false =>
      rw[hg]at hc;have HC:=ae hc
      have HN:=ae (show k=F from by
       have h1:=HK.o;rw[HM.o]at h1;unfold mq at h1;rwa[af (by rw[hg];decide)]at h1)
      clear hc hg;go_wp2_with (go_at_call 143;((with_reducible refine HC.o.mono ?_);rintro e w2 ⟨rfl,h1⟩;have H2:=ae (HR.o.trans (h1.mono HR.o.size));clear h1))
      go_ret;exact⟨by rw[← HN.o];rfl,HB.o.trans (H2.o.mono HB.o.size)⟩
  · have HN:=ae (show k=F from by
     have h1:=HK.o;rw[show k - lo=0 by omega]at h1;exact h1)
    go_wp2_with fail
    go_ret;exact⟨by rw[← HN.o];rfl,HB.o.trans (HR.o.mono HB.o.size)⟩
def s3(p:Int × Int × Bool):Value := .tuple #[.int .i64 p.1,.int .i64 p.2.1,.bool p.2.2]
theorem QT (xs:List Int):∀n lo,iD xs n lo<lo+n→¬ jh xs (iD xs n lo)=true
 | 0,lo,h=>absurd h (by show ¬ lo<lo+0;omega)
 | n + 1,lo,h=>by
   by_cases hg:jh xs lo=true
   · have e:iD xs (n+1) lo=iD xs n (lo+1):=by show(if jh xs lo=true then _ else _)=_;rw[ag hg]
     rw[e]at h ⊢;exact QT xs n (lo+1) (by omega)
   · have e:iD xs (n+1) lo=lo:=by show(if jh xs lo=true then _ else _)=_;rw[af hg]
     rw[e];exact hg
theorem Wt(xs:List Int)(nw lo hi:Int)(h:lo<0):jO xs nw lo hi=(0,0,false):=by unfold jO;rw[ag (.inl h)]
theorem Wu (xs:List Int)(nw hi:Int)(k:Nat)(h:hi<(iD xs (hi+1 - k).toNat k:Int)):jO xs nw k hi=(0,0,false):=by
 unfold jO;split
 · rfl
 · rw[Int.toNat_natCast,ag h]
theorem Wv (xs:List Int)(nw:Int)(k j:Nat)(h:¬ (j:Int)<(iD xs ((j:Int)+1 - k).toNat k:Int)) :
 jO xs nw k j=(lI xs nw (iD xs ((j:Int)+1 - k).toNat k:Nat),lI xs nw (mq xs (j - iD xs ((j:Int)+1 - k).toNat k) j:Nat),true):=by
 have hl:=(GG xs ((j:Int)+1 - k).toNat k).1;unfold jO;rw[Int.toNat_natCast,Int.toNat_natCast,af (by omega),af h]
theorem aiJ (w:World)(A:Option Addr)(n cap:Nat)(xs:List Int)(nw lo hi:Int)(h:IR w w.heap.size A n cap xs)(hn:n≤2000000)(h0:0≤nw)(h1:nw≤2000000)(hh:hi≤4398046511104) :
 Calls Tryz.prog 86 #[.agg #[.slice A n cap,.int .i64 nw],.int .i64 lo,.int .i64 hi] w fun e w'=>e = .returned (s3 (jO xs nw lo hi))∧Below w.heap.size w w':=by
 have HB:=ae (sQ 36 w (.slice A n cap) nw);have HP:=ae (dI.new 36 w (.slice A n cap) nw);have HX:=ae h;clear h;by_cases vX:lo<0
 · have aW:=ae (Wt xs nw lo hi vX)
   go_enter Tryz.func86,Tryz.ntmps86;go_wp2_with fail
   go_ret3
   exact⟨by rw[aW.o];rfl,HB.o⟩
 · obtain ⟨k,rfl⟩:∃k:Nat,lo=(k:Int):=⟨lo.toNat,by omega⟩
   go_enter Tryz.func86,Tryz.ntmps86;go_upto_region 1 with (fail)
   obtain⟨w1,hw1⟩:∃w1,w.alloc (.cells #[.slice A n cap,.int .i64 nw] 36)=w1:=⟨_,rfl⟩;rw[hw1]at HB HP ⊢;clear hw1;obtain⟨x0,x1⟩:=HP.o.cells;go_upto_region 4 with (fail)
   clear x0 x1;have HB1:=ae (sQ 136 w1 (.slice A n cap) nw);have HW:=ae (dI.new 136 w1 (.slice A n cap) nw);obtain⟨w2,hw2⟩:∃w2,w1.alloc (.cells #[.slice A n cap,.int .i64 nw] 136)=w2:=⟨_,rfl⟩;rw[hw2]at HB1 HW ⊢;clear hw2;have HB2:=ae (HB.o.trans (HB1.o.mono HB.o.size));have dw:=ae (HX.o.lift HB2.o);obtain⟨F,hF⟩:∃F,iD xs (hi+1 - k).toNat k=F:=⟨_,rfl⟩;have hf:=aaX w2 A n cap xs nw hi k dw.o hh;rw[hF]at hf;have XJ:=ae hf;have JF:=ae hF;clear hf hF;obtain⟨x0,x1⟩:=HW.o.cells;go_upto_region 5 with (go_at_call 116;((with_reducible refine XJ.o.mono ?_);rintro e w3 ⟨rfl,h3⟩;have H3:=ae h3;clear h3))
   clear x0 x1;have HB3:=ae (HB2.o.trans (H3.o.mono HB2.o.size));by_cases hlt:hi<(F:Int)
   · have aW:=ae (Wu xs nw hi k (by rw[JF.o];exact hlt))
     go_wp2_with fail
     go_ret3
     exact⟨by rw[aW.o];rfl,HB3.o⟩
   · obtain ⟨j,rfl⟩:∃j:Nat,hi=(j:Int):=⟨hi.toNat,by omega⟩
     have hv:=Wv xs nw k j (by rw[JF.o];exact hlt);rw[JF.o]at hv;have hll:=Mm xs (j - F) j;have fq:=ae (dw.o.lift H3.o);have OT:=ae (fun (wq:World)(hb:Below w3.heap.size w3 wq)=>ads wq A n cap xs nw F j (fq.o.lift hb) (by omega) hh);obtain⟨L,hL⟩:∃L,mq xs (j - F) j=L:=⟨_,rfl⟩;rw[hL]at hv OT hll;have aW:=ae hv;have HI1:=ae (fun (wq:World)(hb:Below w3.heap.size w3 wq)=>Ou wq A n cap xs nw (F:Int) (fq.o.lift hb) hn h0 h1 (by omega));have HI3:=ae (fun (wq:World)(hb:Below w3.heap.size w3 wq)=>Ou wq A n cap xs nw (L:Int) (fq.o.lift hb) hn h0 h1 (by omega));have HW3:=ae (HW.o.over H3.o);have yX:=ae (fun (wq:World)(hb:Below w3.heap.size w3 wq)=>(HW3.o.over hb).cells);have iT:=ae (Below.drew (ak w3.heap.size w3));clear hL hv hll;obtain⟨x0,x1⟩:=HW3.o.cells;go_upto_region 7 with (fail)
     clear x0 x1;obtain⟨x0,x1⟩:=yX.o _ iT.o
     go_region_held3 (fun w'=>w'.cell? ⟨w1.heap.size,0,none⟩=some (.slice A n cap)∧w'.cell? ⟨w1.heap.size,1,none⟩=some (.int .i64 nw)) (first|exact⟨x0,x1⟩|exact yX.o _ l9.o|exact yX.o _ gB.o|exact yX.o _ H4.o) (first
      | (go_at_call 87;((with_reducible refine(HI1.o _ iT.o).mono ?_);rintro e w4 ⟨rfl,h1⟩;have H4:=ae (iT.o.trans (h1.mono iT.o.size));clear h1))
      | (go_at_call 117;((with_reducible refine(OT.o _ H4.o).mono ?_);rintro e w5 ⟨rfl,h1⟩;have gB:=ae (H4.o.trans (h1.mono H4.o.size));clear h1))
      | (go_at_call 87;((with_reducible refine(HI3.o _ gB.o).mono ?_);rintro e w6 ⟨rfl,h1⟩;have l9:=ae (gB.o.trans (h1.mono gB.o.size));clear h1)))
     all_goals go_wp2_with fail
     all_goals go_ret3
     all_goals exact⟨by rw[aW.o];rfl,HB3.o.trans (l9.o.mono HB3.o.size)⟩
theorem agJ (w:World)(A:Option Addr)(n cap:Nat)(xs:List Int)(nw lo hi:Int)(h:IR w w.heap.size A n cap xs)(hn:n≤2000000)(h0:0≤nw)(h1:nw≤2000000)(hh:hi≤4398046511104)(hr:zg (-1) nw xs) :
 Calls Tryz.prog 43 #[.agg #[.slice A n cap,.int .i64 nw],.int .i64 lo,.int .i64 hi] w fun e w'=>e = .returned (s3 (jO xs nw lo hi))∧Below w.heap.size w w':=by
 have HB:=ae (sQ 36 w (.slice A n cap) nw);have HP:=ae (dI.new 36 w (.slice A n cap) nw);have HX:=ae h;have HL:=ae h.len.1;have HR:=ae hr;clear h hr;by_cases vX:lo<0
 · have aW:=ae (Wt xs nw lo hi vX)
   go_enter Tryz.func43,Tryz.ntmps43;go_wp2_with fail
   go_ret3
   exact⟨by rw[aW.o];rfl,HB.o⟩
 · obtain ⟨k0, rfl⟩:∃k:Nat,lo=(k:Int):=⟨lo.toNat,by omega⟩
   by_cases hhl:hi<(k0:Int)
   · have aW:=ae (show jO xs nw k0 hi=(0,0,false)from by unfold jO;rw[ag (.inr hhl)])
     go_enter Tryz.func43,Tryz.ntmps43;go_wp2_with fail
     go_ret3
     exact⟨by rw[aW.o];rfl,HB.o⟩
   · obtain ⟨j, rfl⟩:∃j:Nat,hi=(j:Int):=⟨hi.toNat,by omega⟩
     obtain⟨F,hF⟩:∃F,iD xs ((j:Int)+1 - k0).toNat k0=F:=⟨_,rfl⟩;have HF:=ae hF;clear hF;go_enter Tryz.func43,Tryz.ntmps43;go_upto_region 1 with (fail)
     obtain⟨w1,hw1⟩:∃w1,w.alloc (.cells #[.slice A n cap,.int .i64 nw] 36)=w1:=⟨_,rfl⟩;rw[hw1]at HB HP ⊢;clear hw1;have vD:=ae (HX.o.lift HB.o);obtain⟨x0,x1⟩:=HP.o.cells;have Pt:=ae (fun (k:Nat)(hk:k<n)=>He vD.o hk);go_upto_block 0 with (fail)
     go_cut [9]from 19 to 38 (fun wU wx=>∃(k:Nat)(dn:World),wU = .int .i64 (k:Int)∧k=F∧dn=wx∧dn=w1)
     case first =>
      go_wp2_with fail
      go_loopw [9] (fun iv wr=>∃k:Nat,iv = .int .i64 (k:Int)∧(k:Int)≤4398046511105∧Hid (iD xs ((j:Int)+1 - k).toNat k=F)∧wr=w1)
       (fun iv _=>n - (intOf iv).toNat)
      case atStart=>exact⟨k0,rfl,by omega,HF,rfl⟩
      case round =>
       obtain⟨k,rfl,hkb,HK,hwr⟩:=hrel;subst hwr;have hk0:(0:Int)≤(k:Int):=by omega
       by_cases hle:(k:Int)≤(j:Int)
       · have HM:=ae (show((j:Int)+1 - (k:Int)).toNat=((j:Int)+1 - ((k+1:Nat):Int)).toNat+1 by omega)
         by_cases hkn:k<n
         · have abX:(k:Int)<(n:Int):=by omega
           obtain⟨pb,po,hA,hpb,e0⟩:=Pt.o k hkn
           have yU:=ae (show(jh xs k=true↔xs.getD k 0<0)from by
            unfold jh;rw[decide_eq_true_eq,getD_some xs k (by rw[HL.o];exact hkn)];have h2:=NA HR.o k (by rw[HL.o];exact hkn);constructor
            · intro e;have:=dM e;omega
            · intro e;have h3:xs.getD k 0 = -1:=by omega
              rw[h3])
           obtain⟨x,hx⟩:∃x,xs.getD k 0=x:=⟨_,rfl⟩;rw[hx]at e0 yU;rw[hA]at x0;clear hx hA;by_cases CG:x<0
           · have HN:=ae (show iD xs ((j:Int)+1 - ((k+1:Nat):Int)).toNat (k+1)=F from by
              have h1:=HK.o;rw[HM.o]at h1;unfold iD at h1;rwa[ag (yU.o.2 CG)]at h1)
             go_wp2_with fail
             go_roundw
             case rel=>exact⟨k+1,by go_num,by omega,HN,by first|rfl|trivial⟩
             case measure=>simp[intOf];omega
           · have HN:=ae (show k=F from by
              have h1:=HK.o;rw[HM.o]at h1;unfold iD at h1;rwa[af (fun e=>CG (yU.o.1 e))]at h1)
             go_wp2_with fail
             go_meet
             case rel=>exact⟨k,_,by first|rfl|trivial,HN.o,rfl,rfl⟩
         · have abX:¬ (k:Int)<(n:Int):=by omega
           have HN:=ae (show k=F from by
            have h1:=HK.o;rw[HM.o]at h1;unfold iD at h1;rwa[af (fun e=>by have:=Lf e;rw[HL.o]at this;omega)]at h1)
           go_wp2_with fail
           go_meet
           case rel=>exact⟨k,_,by first|rfl|trivial,HN.o,rfl,rfl⟩
       · have HN:=ae (show k=F from by
          have h1:=HK.o;rw[show((j:Int)+1 - (k:Int)).toNat=0 by omega]at h1;exact h1)
         go_wp2_with fail
         go_meet
         case rel=>exact⟨k,_,by first|rfl|trivial,HN.o,rfl,rfl⟩
     case rest =>
      obtain⟨k,dn,rfl,LD,rfl,hwx⟩:=hcut;have hwx:=hwx.symm;subst hwx;subst LD;have hkb:=(GG xs ((j:Int)+1 - k0).toNat k0);rw[HF.o]at hkb;by_cases hgt:(j:Int)<(k:Int)
      · have aW:=ae (Wu xs nw j k0 (by rw[HF.o];exact hgt))
        have akQ:¬ (k:Int)≤(j:Int):=by omega
        go_wp2_with fail
        go_loopw [10] (fun iv wr=>iv = .int .i64 (j:Int)∧wr=w1)
         (fun iv _=>0)
        case atStart=>exact⟨rfl,rfl⟩
        case round =>
         obtain⟨rfl,hwr⟩:=hrel;subst hwr;go_wp2_with fail
         go_ret3
         exact⟨by rw[aW.o];rfl,HB.o⟩
      · have akM : (k:Int)≤(j:Int):=by omega
        have hv:=Wv xs nw k0 j (by rw[HF.o];omega);rw[HF.o]at hv
        have XT:=ae (show ¬ jh xs k=true from by
         have h2:=QT xs ((j:Int)+1 - k0).toNat k0;rw[HF.o]at h2;exact h2 (by omega))
        have hll:=Mm xs (j - k) j;obtain⟨L,hL⟩:∃L,mq xs (j - k) j=L:=⟨_,rfl⟩;rw[hL]at hv hll;have aW:=ae hv;have DU:=ae hL;have xM:=ae hll;clear hv hL hll;go_upto_block 2 with (fail)
        go_cut [10]from 40 to 59 (fun bv wx=>∃(i:Nat)(dn:World),bv = .int .i64 (i:Int)∧i=L∧k≤i∧dn=wx∧dn=w1)
        case first =>
         go_wp2_with fail
         go_loopw [10] (fun iv wr=>∃i:Nat,iv = .int .i64 (i:Int)∧k≤i∧(i:Int)≤4398046511104∧Hid (mq xs (i - k) i=L)∧wr=w1)
          (fun iv _=>(intOf iv).toNat)
         case atStart=>exact⟨j,rfl,by omega,hh,DU,rfl⟩
         case round =>
          obtain⟨i,rfl,hki,hib,HK,hwr⟩:=hrel;subst hwr;have hi0:(0:Int)≤(i:Int):=by omega
          have abP:(k:Int)≤(i:Int):=by omega
          by_cases hin:i<n
          · have abR:(i:Int)<(n:Int):=by omega
            obtain⟨pb,po,hA,hpb,e0⟩:=Pt.o i hin
            have yU:=ae (show(jh xs i=true↔xs.getD i 0<0)from by
             unfold jh;rw[decide_eq_true_eq,getD_some xs i (by rw[HL.o];exact hin)];have h2:=NA HR.o i (by rw[HL.o];exact hin);constructor
             · intro e;have:=dM e;omega
             · intro e;have h3:xs.getD i 0 = -1:=by omega
               rw[h3])
            obtain⟨x,hx⟩:∃x,xs.getD i 0=x:=⟨_,rfl⟩;rw[hx]at e0 yU;rw[hA]at x0;clear hx hA;by_cases CG:x<0
            · have hik:k<i:=by
               rcases Nat.lt_or_ge k i with h|h
               · exact h
               · exfalso;have e:i=k:=by omega
                 subst e;exact XT.o (yU.o.2 CG)
              have HN:=ae (show mq xs (i - 1 - k) (i - 1)=L from by
               have h1:=HK.o;rw[show i - k=(i - 1 - k)+1 by omega]at h1;unfold mq at h1;rwa[ag (yU.o.2 CG)]at h1)
              go_wp2_with fail
              go_roundw
              case rel=>exact⟨i - 1,by go_num,by omega,by omega,HN,by first|rfl|trivial⟩
              case measure=>simp[intOf];omega
            · have HN:=ae (show i=L from by
               have h1:=HK.o;cases hd:i - k with
               | zero=>rw[hd]at h1;exact h1
               | succ d =>
                 rw[hd]at h1;unfold mq at h1;rwa[af (fun e=>CG (yU.o.1 e))]at h1)
              go_wp2_with fail
              go_meet
              case rel=>exact⟨i,_,by first|rfl|trivial,HN.o,hki,rfl,rfl⟩
          · have abR:¬ (i:Int)<(n:Int):=by omega
            have HN:=ae (show i=L from by
             have h1:=HK.o;cases hd:i - k with
             | zero=>rw[hd]at h1;exact h1
             | succ d =>
               rw[hd]at h1;unfold mq at h1;rwa[af (fun e=>by have:=Lf e;rw[HL.o]at this;omega)]at h1)
            go_wp2_with fail
            go_meet
            case rel=>exact⟨i,_,by first|rfl|trivial,HN.o,hki,rfl,rfl⟩
        case rest =>
         obtain⟨i,dn,rfl,hiL,hki,rfl,hwx⟩:=hcut;have hwx:=hwx.symm;subst hwx;subst hiL;have akR:¬ (i:Int)<(k:Int):=by omega
         have HI1:=ae (fun (wq:World)(hb:Below w1.heap.size w1 wq)=>IG wq A n cap xs nw (k:Int) (vD.o.lift hb) hn h0 h1 (by omega));have HI2:=ae (fun (wq:World)(hb:Below w1.heap.size w1 wq)=>IG wq A n cap xs nw (i:Int) (vD.o.lift hb) hn h0 h1 (by have:=xM.o;omega));have yX:=ae (fun (wq:World)(hb:Below w1.heap.size w1 wq)=>(HP.o.over hb).cells);have iT:=ae (Below.drew (ak w1.heap.size w1));go_upto_region 11 with (fail)
         clear x0 x1;obtain⟨x0,x1⟩:=yX.o _ iT.o
         go_region_held3 (fun w'=>w'.cell? ⟨w.heap.size,0,none⟩=some (.slice A n cap)∧w'.cell? ⟨w.heap.size,1,none⟩=some (.int .i64 nw)) (first|exact⟨x0,x1⟩|exact yX.o _ gB.o|exact yX.o _ H4.o) (first
          | (go_at_call 41;((with_reducible refine(HI1.o _ iT.o).mono ?_);rintro e w4 ⟨rfl,h1⟩;have H4:=ae (iT.o.trans (h1.mono iT.o.size));clear h1))
          | (go_at_call 41;((with_reducible refine(HI2.o _ H4.o).mono ?_);rintro e w5 ⟨rfl,h1⟩;have gB:=ae (H4.o.trans (h1.mono H4.o.size));clear h1)))
         all_goals go_wp2_with fail
         all_goals go_ret3
         all_goals exact⟨by rw[aW.o];rfl,HB.o.trans (gB.o.mono HB.o.size)⟩
theorem az.set {n':Nd}{k':Value}(h:az w b n k)(o:Nat)(v:Value)(he:(bA n k).setIfInBounds o v=bA n' k'):az (w.setCell ⟨b,o,none⟩ v) b n' k':=by
 unfold az;rw[heap_setCell_same w b o _ _ v h,he]
theorem az.Ij (h:az w b n k)(a:Addr)(v:Value)(hne:b≠a.block):az (w.setCell a v) b n k:=by
 unfold az;rw[gy _ _ _ _ hne];exact h
theorem jA.Ij(h:jA w b x)(a:Addr)(v:Value)(hne:b≠a.block):jA (w.setCell a v) b x:=h.keep (gy _ _ _ _ hne)
theorem jA.over(h:jA w b x)(hb:Below w.heap.size w w'):jA w' b x:=h.keep (hb.block b h.lt)
theorem az.tu(h:az w b n k)(hb:Below w.heap.size w w'):az w' b n k:=h.below hb h.lt
theorem az.p8(h:az w b n k)(o:Nat):w.frozen? ⟨b,o,none⟩=false:=frozen_of_row w b o _ _ h
structure x9 (w w1:World)(n:Nd)(k:Value)(x:aP)(z:Nat):Prop where
 below:Below w.heap.size w w1
 dP:az w1 z n k
 sh:jA w1 (z+1) x
 res:az w1 (z+2) Nd.zero (.slice none 0 0)
 size:z+3≤w1.heap.size
 low:w.heap.size≤z
theorem E8 (w:World)(n:Nd)(A:Option Addr)(m c:Nat)(x:aP):∃w1,((w.alloc (.cells (aB n (.slice A m c)) 44)).alloc (.cells #[.string x.s.sh,.slice x.ra x.s.rx.length x.rc,.int .i64 x.s.rn,.slice x.ca x.s.cx.length x.cc,.int .i64 x.s.cn,.bool x.s.gone] 40)).alloc (.cells qi 44)=w1∧x9 w w1 n (.slice A m c) x w.heap.size:=by
 refine⟨_,rfl,(((ak _ w).alloc (aj _) _).alloc (by simp) _).alloc (by simp;omega) _, ?_, ?_, ?_,by simp,aj _⟩
 · exact(Below.heap_alloc _ _ _ (by simp;omega)).trans ((Below.heap_alloc _ _ _ (by simp)).trans (az.new w n (.slice A m c)))
 · have h:=jA.new (w.alloc (.cells (bA n (.slice A m c)) 44)) x
   rw[lQ]at h;exact(Below.heap_alloc _ _ _ (by simp)).trans h
 · have h:=az.new ((w.alloc (.cells (bA n (.slice A m c)) 44)).alloc (.cells (iQ x) 40)) Nd.zero (.slice none 0 0)
   rw[lQ,lQ]at h;exact h
theorem x9.call {w2:World}(h:x9 w w1 n k x z)(hb:Below w1.heap.size w1 w2):x9 w w2 n k x z :=
 ⟨h.below.trans (hb.mono h.below.size),h.dP.tu hb,h.sh.over hb,h.res.tu hb,bN h.size hb.size,h.low⟩
theorem x9.put {n':Nd}{k':Value}(h:x9 w w1 n k x z)(o:Nat)(v:Value)(he:(bA n k).setIfInBounds o v=bA n' k'):x9 w (w1.setCell ⟨z,o,none⟩ v) n' k' x z :=
 ⟨h.below.setCell h.low _,h.dP.set o v he,h.sh.Ij _ _ (by show z+1≠z;omega),h.res.Ij _ _ (by show z+2≠z;omega),by simpa using h.size,h.low⟩
theorem Ww (w:World)(A:Option Addr)(n cap:Nat)(xs:List Int)(nw lo hi:Int)(h:IR w w.heap.size A n cap xs)(hn:n≤2000000)(h0:0≤nw)(h1:nw≤2000000)(hh:hi≤4398046511104){a b:Int}{o:Bool}(hp:jO xs nw lo hi=(a,b,o)) :
 Calls Tryz.prog 86 #[.agg #[.slice A n cap,.int .i64 nw],.int .i64 lo,.int .i64 hi] w fun e w'=>e = .returned (.tuple #[.int .i64 a,.int .i64 b,.bool o])∧Below w.heap.size w w':=by
 have h:=aiJ w A n cap xs nw lo hi h hn h0 h1 hh;rw[hp]at h;exact h
theorem ag':Tryz.f62.results=#[.cell 4 44,.tmp 5]:=by kernel_rfl
structure zi (n:Nd):Prop where
 r:n.ref.r≤1000000
 c:n.ref.c≤1000000
 tr:n.ai.r≤1000000
 tc:n.ai.c≤1000000
 sh:n.ref.sh.size≤1000000
 Xc:n.ai.sh.size≤1000000
theorem aiI (w:World)(n:Nd)(A:Option Addr)(m c:Nat)(x:aP)(hx:nJ w w.heap.size x)(ho:mV x.s)(hn:zi n) :
 Calls Tryz.prog 62 #[.agg (bA n (.slice A m c)),.agg (iQ x)] w fun e w'=>e = .returned (.tuple #[.agg (bA (j5 n x.s) (.slice A m c)),.bool (tK n x.s&&bX (j5 n x.s).ai)])∧Below w.heap.size w w':=by
 obtain⟨w1,hw1,hp⟩:=E8 w n A m c x;have HP:=ae hp;have HX:=ae hx;have h1:=ho.rows.len;have h2:=ho.rows.low;have h3:=ho.rows.top;have h4:=ho.mH.len;have h5:=ho.mH.low;have h6:=ho.mH.top;have g1:=hn.r;have g2:=hn.c;have g3:=hn.tr;have g4:=hn.tc;have YI:=ae hn.Xc;obtain⟨⟨a1,a2,ao⟩,ha⟩:∃p,jO x.s.rx x.s.rn n.ref.r n.ai.r=p:=⟨_,rfl⟩;obtain⟨⟨b1,b2,bo⟩,hb⟩:∃p,jO x.s.cx x.s.cn n.ref.c n.ai.c=p:=⟨_,rfl⟩;have uJ:j5 n x.s=n.kU a1 b1 a2 b2:=by unfold j5;rw[ha,hb]
 have hok:tK n x.s=(ao&&bo):=by unfold tK;rw[ha,hb]
 have fF:=ae (fun (wq:World)(hq:Below w1.heap.size w1 wq)=>Ww wq x.ra x.s.rx.length x.rc x.s.rx x.s.rn n.ref.r n.ai.r ((hx.lift HP.o.below).lift hq).rows (by omega) h2 (by omega) (by omega) ha);have HS2:=ae (fun (wa:World)(ha:Below w.heap.size w wa){wq:World}(hq:Below wa.heap.size wa wq)=>Ww wq x.ca x.s.cx.length x.cc x.s.cx x.s.cn n.ref.c n.ai.c ((hx.lift ha).lift hq).mH (by omega) h5 (by omega) (by omega) hb);rw[uJ,hok];obtain⟨z,hz⟩:∃z,w.heap.size=z:=⟨_,rfl⟩;have eY:=ae hz;rw[hz]at HP;clear hx ho hn ha hb uJ hok hp hz;have x0:=HP.o.dP.cells;have y0:=HP.o.sh.cells;dsimp only[aP.rv,aP.cv]at y0;show Calls Tryz.prog 62 #[.agg (aB n (.slice A m c)),.agg #[.string x.s.sh,.slice x.ra x.s.rx.length x.rc,.int .i64 x.s.rn,.slice x.ca x.s.cx.length x.cc,.int .i64 x.s.cn,.bool x.s.gone]] w _;go_enter Tryz.func62,Tryz.ntmps62;go_upto_region 2 with (fail)
 rw[eY.o];obtain⟨x0,x1,x2,x3,x4,x5,x6,x7,av,aI,aF,aG,aH,aC⟩:=x0;obtain⟨y0,y1,y2,y3,y4,dH⟩:=y0;rw[show z+1+1=z+2 from rfl];go_upto_region 3 with (go_at_call 86;((with_reducible refine(fF.o _ (ak _ _)).mono ?_);rintro e w2 ⟨rfl,hq⟩;have dm:=ae (HP.o.call hq);have f5:=dm.o.dP.p8 5;have f10:=dm.o.dP.p8 10;clear x0 x1 x2 x3 x4 x5 x6 x7 av aI aF aG aH aC y0 y1 y2 y3 y4 dH hq;obtain⟨x0,x1,x2,x3,x4,x5,x6,x7,av,aI,aF,aG,aH,aC⟩:=dm.o.dP.cells;obtain⟨y0,y1,y2,y3,y4,dH⟩:=dm.o.sh.cells))
 have bg:=ae ((dm.o.put 5 (.int .i64 a1) (n':=n.kU a1 n.ref.c n.ai.r n.ai.c) rfl).put 10 (.int .i64 a2) (n':=n.kU a1 n.ref.c a2 n.ai.c) rfl);clear x0 x1 x2 x3 x4 x5 x6 x7 av aI aF aG aH aC y0 y1 y2 y3 y4 dH f5 f10;obtain⟨w3,hw3⟩:∃w3,(w2.setCell ⟨z,5,none⟩ (.int .i64 a1)).setCell ⟨z,10,none⟩ (.int .i64 a2)=w3:=⟨_,rfl⟩;rw[hw3]at bg ⊢;clear hw3;have DF:=ae (HS2.o _ bg.o.below (ak _ w3));obtain⟨x0,x1,x2,x3,x4,x5,x6,x7,av,aI,aF,aG,aH,aC⟩:=bg.o.dP.cells;obtain⟨y0,y1,y2,y3,y4,dH⟩:=bg.o.sh.cells;dsimp only[aP.rv,aP.cv]at y1 y3;dsimp only[Nd.kU,bL.goto]at x0 x1 x2 x3 x4 x5 x6 x7 av aI aF aG aH aC;go_upto_region 4 with (go_at_call 86;((with_reducible refine DF.o.mono ?_);rintro e w4 ⟨rfl,hq⟩;have bS:=ae (bg.o.call hq);have f4:=bS.o.dP.p8 4;have f9:=bS.o.dP.p8 9;clear x0 x1 x2 x3 x4 x5 x6 x7 av aI aF aG aH aC y0 y1 y2 y3 y4 dH hq;obtain⟨x0,x1,x2,x3,x4,x5,x6,x7,av,aI,aF,aG,aH,aC⟩:=bS.o.dP.cells;obtain⟨y0,y1,y2,y3,y4,dH⟩:=bS.o.sh.cells;dsimp only[Nd.kU,bL.goto]at x0 x1 x2 x3 x4 x5 x6 x7 av aI aF aG aH aC))
 have aS:=ae ((bS.o.put 4 (.int .i64 b1) (n':=n.kU a1 b1 a2 n.ai.c) rfl).put 9 (.int .i64 b2) (n':=n.kU a1 b1 a2 b2) rfl);clear x0 x1 x2 x3 x4 x5 x6 x7 av aI aF aG aH aC y0 y1 y2 y3 y4 dH f4 f9;obtain⟨w5,wh⟩:∃w5,(w4.setCell ⟨z,4,none⟩ (.int .i64 b1)).setCell ⟨z,9,none⟩ (.int .i64 b2)=w5:=⟨_,rfl⟩;rw[wh]at aS ⊢;clear wh;obtain⟨N,hN⟩:∃N,n.kU a1 b1 a2 b2=N:=⟨_,rfl⟩;have hNs:N.ai.sh=n.ai.sh:=by rw[← hN];rfl
 rw[hN]at aS;have y8:=ae hN;have vg:=ae (fun wq=>Bu N.ai.sh N.ai.c N.ai.r N.ai.ac N.ai.ar wq (by rw[hNs];exact YI.o));have iT:=ae (Below.drew (ak w5.heap.size w5));have lT:=ae (fun (wq:World)(hq:Below w5.heap.size w5 wq)=>aS.o.dP.tu hq);have jJ:(fun wq=>az wq z N (.slice A m c)) w5.drew:=lT.o _ iT.o;clear hN hNs;refine wp_region_held_drew (S:=(fun wq=>az wq z N (.slice A m c))) (by kernel_rfl) jJ (fun _ => ?_);show wpAnyH _ _ _ _ _ 12 #[false,false,false,false,false,false,false,false,false,false,false,false] _ _;refine hT 0 jJ ?_ (hy:=by(intro ig hSw;have hz:=az.cells hSw;go_simp;try(with_reducible rfl)));refine hT 1 jJ ?_;refine hT 2 jJ ?_;by_cases hab:(ao&&bo)=true
 case' pos =>
  obtain⟨rfl,rfl⟩:=j6.1 hab;refine hT 3 jJ ?_;refine hT 4 jJ ?_;refine hT 5 jJ ?_;refine hT 6 jJ ?_;refine hT 7 jJ ?_ (hy:=by(intro ig hSw;have hz:=az.cells hSw;go_simp;try(with_reducible rfl)));refine hO 8 (fun K hK => ?_);go_simp;go_at_call 64;(with_reducible refine(vg.o _).mono ?_);rintro e w6 ⟨rfl,h1⟩;have l9:=ae (iT.o.trans (h1.mono iT.o.size));clear h1;dsimp only;refine hK.o _ _ (lT.o _ l9.o) ?_;clear hK K;simp only[Act.put,sT,fV,fU]
 case' neg =>
  obtain⟨w6,nM⟩:∃w6,w5.drew=w6:=⟨_,rfl⟩;rw[nM]at iT jJ ⊢;have l9:=ae iT.o;have h45:(ao=false)∨(ao=true∧bo=false):=by cases ao <;> cases bo <;> simp at hab ⊢
  rcases h45 with rfl|⟨rfl,rfl⟩
  all_goals first|refine hN 3 jJ ?_|refine hT 3 jJ ?_
  all_goals refine hT 4 jJ ?_
  all_goals refine hT 5 jJ ?_
  all_goals refine hN 6 jJ ?_
  all_goals refine hN 7 jJ ?_
  all_goals refine hN 8 jJ ?_
 all_goals
  have F4:=lT.o _ l9.o;refine hT 9 F4 ?_;refine hO 10 (fun K hK => ?_);refine Jl (.tmp 4) (.tmp 42) rfl (z+2) Nd.zero N (.slice none 0 0) (.slice A m c) rfl rfl (aS.o.res.tu l9.o) rfl ?_;intro w7 h1 h2;have hlt:=aS.o.size;have hs6:=l9.o.size;have vz:(fun wq=>az wq z N (.slice A m c)) w7:=(show az w7 z N (.slice A m c)from by unfold az;rw[h2.block z (by omega) (by intro e;injection e with e;omega)];exact F4);refine hK.o _ _ vz ?_;clear hK K;simp only[Act.put];refine hT 11 vz ?_;refine wpAnyH_done (by kernel_rfl) ?_ _;go_wp2_with fail
  refine bodyPost_ret (rT h1 _ _ _ 4 5 ag' rfl rfl) rfl ⟨?_, ?_⟩
  · first|(rw[y8.o];done)|(rw[y8.o];rfl)
  · have hb5:=aS.o.below
    have yw:=aS.o.low;have hb6:=hb5.trans (l9.o.mono hb5.size);exact⟨h2.os.trans hb6.os,h2.tape.trans hb6.tape,h2.output.trans hb6.output,bN hb6.size h2.size,fun k hk=>(h2.block k (eB hk hb6.size) (by intro e;injection e with e;omega)).trans (hb6.block k hk)⟩
theorem Np:Tryz.f40.results=#[.cell 4 44,.tmp 5]:=by kernel_rfl
theorem x9.qc {w2:World}(h:x9 w w1 n k x z)(hg:w1.grownBy w2 (some (z+2))):Below w.heap.size w w2:=by
 have hb:=h.below;have hl:=h.low;exact⟨hg.os.trans hb.os,hg.tape.trans hb.tape,hg.output.trans hb.output,bN hb.size hg.size,fun k hk=>(hg.block k (eB hk hb.size) (by intro e;injection e with e;omega)).trans (hb.block k hk)⟩
def BU (w:World)(n:Nd)(s:Sf)(aY:Value)(e:Ending)(w':World):Prop :=
 ∃M K,e = .returned (.tuple #[.agg (bA M K),.bool (iW n s).2])∧((iW n s).2=true→M=(iW n s).1∧K=aY)∧K.oneCell'=true∧Below w.heap.size w w'
theorem Zd (w:World)(n:Nd)(A:Option Addr)(m c:Nat)(x:aP)(hx:nJ w w.heap.size x)(ho:mV x.s)(hn:zi n) :
 Calls Tryz.prog 40 #[.agg (bA n (.slice A m c)),.agg (iQ x)] w (BU w n x.s (.slice A m c)):=by
 obtain⟨w1,hw1,hp⟩:=E8 w n A m c x;have HP:=ae hp;have HX:=ae hx;have HO:=ae ho;have HN:=ae hn;have h1:=ho.rows.len;have h2:=ho.rows.low;have h3:=ho.rows.top;have h4:=ho.mH.len;have h5:=ho.mH.low;have h6:=ho.mH.top;have g1:=hn.r;have g2:=hn.c;obtain⟨z,hz⟩:∃z,w.heap.size=z:=⟨_,rfl⟩;have eY:=ae hz;rw[hz]at HP;clear hx ho hn hp hz;have x0:=HP.o.dP.cells;have y0:=HP.o.sh.cells;dsimp only[aP.rv,aP.cv]at y0;show Calls Tryz.prog 40 #[.agg (aB n (.slice A m c)),.agg #[.string x.s.sh,.slice x.ra x.s.rx.length x.rc,.int .i64 x.s.rn,.slice x.ca x.s.cx.length x.cc,.int .i64 x.s.cn,.bool x.s.gone]] w _;by_cases hg:x.s.gone=true
 · have hv:(iW n x.s).2=false:=by unfold iW;rw[ag hg]
   unfold BU;rw[hv];have HG:=ae hg;clear hg hv;go_enter Tryz.func40,Tryz.ntmps40;go_upto_region 1 with (fail)
   rw[eY.o,show z+1+1=z+2 from rfl];obtain⟨y0,y1,y2,y3,y4,dH⟩:=y0;have hg:=HG.o;go_wp2_with (refine lh rfl (.tmp 4) (.tmp 9) rfl (z+2) Nd.zero Nd.zero (.slice none 0 0) (.slice none 0 0) rfl rfl HP.o.res rfl ?_;intro w7 k1 k2)
   exact bodyPost_ret (rT k1 _ _ false 4 5 Np rfl rfl) rfl ⟨Nd.zero,_,rfl,fun e=>(by cases e),rfl,HP.o.qc k2⟩
 have hgf:x.s.gone=false:=by cases h:x.s.gone with|true=>exact absurd h hg|false=>rfl
 by_cases hk:n.kind=6
 · have hv:iW n x.s=(j5 n x.s,tK n x.s&&bX (j5 n x.s).ai):=by unfold iW;rw[af hg,ag hk]
   unfold BU;rw[hv]
   have Pn:=ae (show Calls Tryz.prog 62 #[.agg (aB n (.slice A m c)),.agg #[.string x.s.sh,.slice x.ra x.s.rx.length x.rc,.int .i64 x.s.rn,.slice x.ca x.s.cx.length x.cc,.int .i64 x.s.cn,.bool false]] w1 (fun e w'=>e = .returned (.tuple #[.agg (bA (j5 n x.s) (.slice A m c)),.bool (tK n x.s&&bX (j5 n x.s).ai)])∧Below w1.heap.size w1 w')from by
    have h:=aiI w1 n A m c x (HX.o.lift HP.o.below) HO.o HN.o;unfold iQ at h;rw[hgf]at h;exact h)
   obtain⟨N,hN⟩:∃N,j5 n x.s=N:=⟨_,rfl⟩;obtain⟨b,hb⟩:∃b,(tK n x.s&&bX (j5 n x.s).ai)=b:=⟨_,rfl⟩;rw[hb,hN]at Pn;have aW:=ae (show(j5 n x.s,tK n x.s&&bX (j5 n x.s).ai)=(N,b)from by rw[hb,hN]);rw[aW.o];clear hv hN hb;have nU:=ae (show(n.kind == (6:Int))=true from bB.2 hk);have Ai:=ae hgf;clear hk hg hgf;go_enter Tryz.func40,Tryz.ntmps40;go_upto_region 1 with (fail)
   rw[eY.o,show z+1+1=z+2 from rfl];obtain⟨x0,x1,x2,x3,x4,x5,x6,x7,av,aI,aF,aG,aH,aC⟩:=x0;obtain⟨y0,y1,y2,y3,y4,dH⟩:=y0;have hgf:=Ai.o;have pX:=nU.o
   go_wp2_with (first
    | (go_at_call 62;((with_reducible refine Pn.o.mono ?_);rintro e w2 ⟨rfl,hq⟩;have dm:=ae (HP.o.call hq);clear hq))
    | (refine lh rfl (.tmp 4) (.tmp 17) rfl (z+2) Nd.zero N (.slice none 0 0) (.slice A m c) rfl rfl dm.o.res rfl ?_;intro w7 k1 k2))
   exact bodyPost_ret (rT k1 _ _ b 4 5 Np rfl rfl) rfl ⟨N,_,rfl,fun _=>⟨rfl,rfl⟩,rfl,dm.o.qc k2⟩
 · have hv:iW n x.s=(o7 n x.s,bX (o7 n x.s).ref):=by unfold iW;rw[af hg,af hk]
   unfold BU;rw[hv];have HI1:=ae (fun (wa:World)(ha:Below w.heap.size w wa)=>SI wa x.ra x.s.rx.length x.rc x.s.rx x.s.rn n.ref.r (HX.o.lift ha).rows (by omega) h2 (by omega) (by omega));have HI2:=ae (fun (wa:World)(ha:Below w.heap.size w wa)=>SI wa x.ca x.s.cx.length x.cc x.s.cx x.s.cn n.ref.c (HX.o.lift ha).mH (by omega) h5 (by omega) (by omega));obtain⟨a1,ha1⟩:∃a,lI x.s.rx x.s.rn n.ref.r=a:=⟨_,rfl⟩;obtain⟨b1,hb1⟩:∃a,lI x.s.cx x.s.cn n.ref.c=a:=⟨_,rfl⟩;rw[ha1]at HI1;rw[hb1]at HI2;obtain⟨N,hN⟩:∃N,n.kU a1 b1 n.ai.r n.ai.c=N:=⟨_,rfl⟩;have hNs:N.ref.sh=n.ref.sh:=by rw[← hN];rfl
   have y8:=ae hN
   have aW:=ae (show(o7 n x.s,bX (o7 n x.s).ref)=(N,bX N.ref)from by
    have:o7 n x.s=N:=by rw[← hN];unfold o7;rw[ha1,hb1];rfl
    rw[this])
   rw[aW.o];have vg:=ae (fun wq=>Bu N.ref.sh N.ref.c N.ref.r N.ref.ac N.ref.ar wq (by rw[hNs];exact HN.o.sh));clear hv hN ha1 hb1 hNs;have nU:=ae (show(n.kind == (6:Int))=false from aA.2 hk);have Ai:=ae hgf;clear hk hg hgf;go_enter Tryz.func40,Tryz.ntmps40;go_upto_region 1 with (fail)
   rw[eY.o,show z+1+1=z+2 from rfl];obtain⟨x0,x1,x2,x3,x4,x5,x6,x7,av,aI,aF,aG,aH,aC⟩:=x0;obtain⟨y0,y1,y2,y3,y4,dH⟩:=y0;have hgf:=Ai.o;have pX:=nU.o;go_upto_region 6 with (go_at_call 63;((with_reducible refine(HI1.o _ HP.o.below).mono ?_);rintro e w2 ⟨rfl,hq⟩;have dm:=ae (HP.o.call hq);have f5:=dm.o.dP.p8 5;clear x0 x1 x2 x3 x4 x5 x6 x7 av aI aF aG aH aC y0 y1 y2 y3 y4 dH hq;obtain⟨x0,x1,x2,x3,x4,x5,x6,x7,av,aI,aF,aG,aH,aC⟩:=dm.o.dP.cells;obtain⟨y0,y1,y2,y3,y4,dH⟩:=dm.o.sh.cells))
   have bg:=ae (dm.o.put 5 (.int .i64 a1) (n':=n.kU a1 n.ref.c n.ai.r n.ai.c) rfl);clear x0 x1 x2 x3 x4 x5 x6 x7 av aI aF aG aH aC y0 y1 y2 y3 y4 dH f5;obtain⟨w3,hw3⟩:∃w3,w2.setCell ⟨z,5,none⟩ (.int .i64 a1)=w3:=⟨_,rfl⟩;rw[hw3]at bg ⊢;clear hw3;obtain⟨x0,x1,x2,x3,x4,x5,x6,x7,av,aI,aF,aG,aH,aC⟩:=bg.o.dP.cells;obtain⟨y0,y1,y2,y3,y4,dH⟩:=bg.o.sh.cells;dsimp only[aP.rv,aP.cv]at y1 y3;dsimp only[Nd.kU,bL.goto]at x0 x1 x2 x3 x4 x5 x6 x7 av aI aF aG aH aC;go_upto_region 7 with (go_at_call 63;((with_reducible refine(HI2.o _ bg.o.below).mono ?_);rintro e w4 ⟨rfl,hq⟩;have bS:=ae (bg.o.call hq);have f4:=bS.o.dP.p8 4;clear x0 x1 x2 x3 x4 x5 x6 x7 av aI aF aG aH aC y0 y1 y2 y3 y4 dH hq;obtain⟨x0,x1,x2,x3,x4,x5,x6,x7,av,aI,aF,aG,aH,aC⟩:=bS.o.dP.cells;obtain⟨y0,y1,y2,y3,y4,dH⟩:=bS.o.sh.cells;dsimp only[Nd.kU,bL.goto]at x0 x1 x2 x3 x4 x5 x6 x7 av aI aF aG aH aC))
   have aS:=ae (bS.o.put 4 (.int .i64 b1) (n':=n.kU a1 b1 n.ai.r n.ai.c) rfl);clear x0 x1 x2 x3 x4 x5 x6 x7 av aI aF aG aH aC y0 y1 y2 y3 y4 dH f4;obtain⟨w5,wh⟩:∃w5,w4.setCell ⟨z,4,none⟩ (.int .i64 b1)=w5:=⟨_,rfl⟩;rw[wh]at aS ⊢;clear wh;rw[y8.o]at aS;have iT:=ae (Below.drew (ak w5.heap.size w5));have lT:=ae (fun (wq:World)(hq:Below w5.heap.size w5 wq)=>aS.o.dP.tu hq);have jJ:(fun wq=>az wq z N (.slice A m c)) w5.drew:=lT.o _ iT.o;refine wp_region_held_drew (S:=(fun wq=>az wq z N (.slice A m c))) (by kernel_rfl) jJ (fun _ => ?_);show wpAnyH _ _ _ _ _ 6 #[false,false,false,false,false,false] _ _;refine hT 0 jJ ?_ (hy:=by(intro ig hSw;have hz:=az.cells hSw;go_simp;try(with_reducible rfl)));refine hT 1 jJ ?_;refine hT 2 jJ ?_ (hy:=by(intro ig hSw;have hz:=az.cells hSw;go_simp;try(with_reducible rfl)));refine hO 3 (fun K hK => ?_);go_simp;go_at_call 64;(with_reducible refine(vg.o _).mono ?_);rintro e w6 ⟨rfl,h1⟩;have l9:=ae (iT.o.trans (h1.mono iT.o.size));clear h1;dsimp only;refine hK.o _ _ (lT.o _ l9.o) ?_;clear hK K;simp only[Act.put,sT,fV,fU];have F4:=lT.o _ l9.o;refine hO 4 (fun K hK => ?_);refine Jl (.tmp 4) (.tmp 35) rfl (z+2) Nd.zero N (.slice none 0 0) (.slice A m c) rfl rfl (aS.o.res.tu l9.o) rfl ?_;intro w7 k1 k2;have hlt:=aS.o.size;have hs6:=l9.o.size;have vz:(fun wq=>az wq z N (.slice A m c)) w7:=(show az w7 z N (.slice A m c)from by unfold az;rw[k2.block z (by omega) (by intro e;injection e with e;omega)];exact F4);refine hK.o _ _ vz ?_;clear hK K;simp only[Act.put];refine hT 5 vz ?_;refine wpAnyH_done (by kernel_rfl) ?_ _;go_wp2_with fail
   exact bodyPost_ret (rT k1 _ _ (bX N.ref) 4 5 Np rfl rfl) rfl ⟨N,_,rfl,fun _=>⟨rfl,rfl⟩,rfl,(aS.o.call l9.o).qc k2⟩
theorem hP {P:Program}{md:Region.Mode}{ops:Array Oper}{S:World→Prop}(i j:Nat){oi oj:Oper}{d e:Option Tmp}{fuel:Nat}{listed l1 l2:Array Bool}
 (h:∀K:Act→World→Prop,Shut (∀v w,S w→wpAnyH P md ops Q S fuel l1 (a.put d v) w→K (a.put d v) w)→Oper.wp P oi a w K Q) (h':∀K:Act→World→Prop,Shut (∀v w,S w→wpAnyH P md ops Q S fuel l2 (a.put e v) w→K (a.put e v) w)→Oper.wp P oj a w K Q)
 (hi:ops[i]? = some oi:=by(first|(simp only[gA,gS,ou];done)|(simp only[gA,gS,ou];rfl))) (hj:ops[j]? = some oj:=by(first|(simp only[gA,gS,ou];done)|(simp only[gA,gS,ou];rfl)))
 (hd:oi.dst=d:=by(first|(dsimp only;done)|(dsimp only;rfl)|rfl)) (he:oj.dst=e:=by(first|(dsimp only;done)|(dsimp only;rfl)|rfl)) (hr:Region.ready md ops listed=[i,j]:=by kernel_rfl)
 (hl:listed.setIfInBounds i true=l1:=by(simp only[sT,fV,fU];rfl)) (hl':listed.setIfInBounds j true=l2:=by(simp only[sT,fV,fU];rfl)) (hw:Region.wanted oi (yielded ops a.tmps)=true:=by rfl) (hw':Region.wanted oj (yielded ops a.tmps)=true:=by rfl):wpAnyH P md ops Q S (fuel+1) listed a w:=by
 subst hd;subst he;subst hl;subst hl';refine wpAnyH_ready hr (by simp) (AllReadyH.cons hi (fun K hK => ?_) (AllReadyH.cons hj (fun K hK => ?_) AllReadyH.nil))
 · rw[ag hw]
   exact h K (fun v w hS hW=>hK _ _ hS (fun _=>hW))
 · rw[ag hw']
   exact h' K (fun v w hS hW=>hK _ _ hS (fun _=>hW))
end Go.Proofs.YtbplbjmmfgjdjaaGreatDoor
