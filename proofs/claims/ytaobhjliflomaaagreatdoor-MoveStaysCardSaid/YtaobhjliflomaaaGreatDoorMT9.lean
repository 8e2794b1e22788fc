import Derived.Test.YtaobhjliflomaaaGreatDoorMT8
set_option maxRecDepth 100000
set_option maxHeartbeats 64000000
namespace Go.Proofs.YtaobhjliflomaaaGreatDoor
open Go.RowKit
theorem Mq{l:List Int}(h:Bytes l):(strOfNums l).size=l.length:=by rw[← aV,jd _ h]
theorem Lp:∀(n:Nat)(l:List Int)(t:List Int)(k:Nat),l.length≤n→dS l=some (t,k)→t.length≤l.length
 | _,[],_,_,_,h=>by simp[dS]at h
 | 0,_ :: _,_,_,hn,_=>by simp at hn
 | n + 1, x :: l,t,k,hn,h=>by
   rw[sU]at h;by_cases h1:x<32
   · rw[if_pos h1]at h;cases h
   · rw [if_neg h1]at h
     by_cases h2:x≠34
     · rw [if_pos h2]at h
       cases hq:dS l with
       | none=>rw[hq]at h;cases h
       | some q =>
         rw[hq]at h;simp only[Option.map_some,bA,bg]at h;have:=Lp n l q.1 q.2 (by simp at hn;omega) hq;rw[← h.1];simp only[aO];omega
     · rw [if_neg h2]at h
       cases l with
       | nil=>simp only[bA,bg]at h;rw[← h.1];simp
       | cons y m =>
         simp only at h;by_cases h3:y=34
         · rw [if_pos h3]at h
           cases hq:dS m with
           | none=>rw[hq]at h;cases h
           | some q =>
             rw[hq]at h;simp only[Option.map_some,bA,bg]at h;have:=Lp n m q.1 q.2 (by simp at hn;omega) hq;rw[← h.1];simp only[aO];omega
         · rw[if_neg h3]at h
           simp only[bA,bg]at h;rw[← h.1];simp
theorem agM (sh:List Int)(c r:Int)(ac ar:Bool)(hm:di sh c r=true):sh.length≤(aY sh c r ac ar).length:=by
 unfold aY;rw[if_pos hm];by_cases h:sh=[]
 · rw[h];exact dV _
 · rw[if_neg h];simp only[ak];omega
theorem ag2 (l:List Int)(t:ag)(n p M:Nat)(hb:Bytes l)(hM:l.length≤M)(h:eO l=some (t,n)):EO M (t.goto p):=by
 have z:(⟨#[]⟩:ByteArray).size≤M:=dV _;cases l with
 | nil=>simp[eO]at h
 | cons x l =>
   have yh:∀q:Int→Bool,((x :: l).takeWhile q).length≤M:=fun q=>bF (Al q _) hM
   rw[qJ]at h;by_cases h1:isNum x=true
   · rw [if_pos h1]at h
     unfold kF at h;split at h
     · cases h
     · simp only[bA,bg]at h
       rw[← h.1];exact⟨z,z⟩
   · rw [if_neg h1]at h
     by_cases h2:x=34
     · rw [if_pos h2]at h
       unfold kG at h;cases hq:dS l with
       | none=>rw[hq]at h;cases h
       | some q =>
         rw[hq]at h;simp only[Option.map_some,bA,bg]at h;obtain⟨g1,g2⟩:=BD _ l q.1 q.2 (ah _) (fun y hy=>hb y (by simp[hy])) hq;rw[← h.1];refine⟨?_,z⟩;show(strOfNums q.1).size≤M;rw[Mq g1];have:=Lp _ l q.1 q.2 (ah _) hq;simp only[aO]at hM;omega
     · rw [if_neg h2]at h
       by_cases h3:x=35
       · rw [if_pos h3]at h
         unfold o6 at h;split at h
         · simp only[bA,bg]at h
           rw[← h.1];exact⟨z,z⟩
         · cases h
       · rw [if_neg h3]at h
         by_cases h4:isLet x=true∨x=36
         · rw [if_pos h4]at h
           unfold l7 at h;cases hq:gH (strOfNums ((x :: l).takeWhile isWord))with
           | some d =>
             rw[hq]at h;simp only[bA,bg]at h;rw[← h.1];refine⟨z, ?_⟩;show d.sh.size≤M;have e:=(xh _ d hq).2.2;rw[jd _ (hb.span isWord)]at e;have k1:=agM (sb d.sh) d.c d.r d.ac d.ar (xh _ d hq).2.1;rw[e,aV]at k1;exact bF k1 (yh isWord)
           | none =>
             rw[hq]at h;simp only at h;by_cases hc:jb ((x :: l).takeWhile isWord)=true
             · rw[if_pos hc]at h
               simp only[bA,bg]at h;rw[← h.1];refine⟨?_,z⟩;show(strOfNums ((x :: l).takeWhile isWord)).size≤M;rw[Mq (hb.span isWord)];exact yh isWord
             · rw[if_neg hc]at h;cases h
         · rw [if_neg h4]at h
           unfold nS at h;split at h
           · cases h
           · simp only[bA,bg]at h
             rw[← h.1];refine⟨?_,z⟩;show(strOfNums ((x :: l).take (kI (x :: l)))).size≤M;rw[Mq (fun y hy=>hb y (List.mem_of_mem_take hy)),gK];omega
theorem FZ (M:Nat):∀(f p:Nat)(l:List Int)(ts:List ag),Bytes l→l.length≤M→eB f p l=some ts→mr M ts
 | f,p,[],ts,_,_,h=>by
   have h0:eB f p []=some [ag.zero.goto p]:=by unfold eB;rfl
   rw[h0]at h;injection h with h;subst h;intro t ht;rw[List.mem_singleton]at ht;subst ht;exact⟨dV _,dV _⟩
 | 0,_,_ :: _,_,_,_,h=>by unfold eB at h;cases h
 | f + 1,p,x :: l,ts,hb,hM,h=>by
   have hbl:Bytes l:=fun y hy=>hb y (by simp[hy])
   rw[rC]at h;by_cases hx:x=32
   · rw[if_pos hx]at h
     exact FZ M f (p+1) l ts hbl (by simp only[aO]at hM;omega) h
   · rw [if_neg hx]at h
     cases hq:eO (x :: l)with
     | none=>rw[hq]at h;cases h
     | some q =>
       obtain⟨t0,n⟩:=q;rw[hq]at h;simp only[Option.map_eq_some_iff]at h;obtain⟨us,h1,rfl⟩:=h;have k1:=FZ M f (p+n) _ us (fun y hy=>hb y (List.mem_of_mem_drop hy)) (by rw[List.length_drop];omega) h1;intro t ht;rcases List.mem_cons.1 ht with rfl|ht
       · exact ag2 (x :: l) t0 n p M hb hM hq
       · exact k1 t ht
theorem ag1 (l:List Int)(t:ag)(n:Nat)(h:eO l=some (t,n)):t.num≤9223372036854775807:=by
 cases l with
 | nil=>simp[eO]at h
 | cons x l =>
   rw[qJ]at h;split at h
   · unfold kF at h
     split at h
     · cases h
     · simp only[bA,bg]at h
       rw[← h.1];show cK _≤_;omega
   split at h
   · unfold kG at h
     cases hq:dS l with
     | none=>rw[hq]at h;cases h
     | some q =>
       rw[hq]at h;simp only[Option.map_some,bA,bg]at h;rw[← h.1];show(0:Int)≤_;omega
   split at h
   · unfold o6 at h
     split at h
     · simp only[bA,bg]at h
       rw[← h.1];show(0:Int)≤_;omega
     · cases h
   split at h
   · unfold l7 at h
     split at h
     · simp only[bA,bg]at h
       rw[← h.1];show(0:Int)≤_;omega
     · split at h
       · simp only[bA,bg]at h
         rw[← h.1];show(0:Int)≤_;omega
       · cases h
   · unfold nS at h
     split at h
     · cases h
     · simp only[bA,bg]at h
       rw[← h.1];show(0:Int)≤_;omega
theorem Tok.num {t:ag}(h:Tok t):t.num≤9223372036854775807:=by
 have:=ag1 _ _ _ h.2.1;exact this
theorem Tok.pos{t:ag}(h:Tok t):1≤(dx t).length:=(qK _ _ _ h.2.1).1
theorem MV {n rk d:Nat}{ts:List ag}{d':Nat}{ts':List ag}(h:Wr n rk d ts d' ts'):ts.length≤ts'.length∧∀t∈ts,t∈ts':=by
 rcases h with ⟨_,rfl,_⟩|⟨_,_,l,r,_,_,rfl⟩
 · exact⟨ah _,fun _ h=>h⟩
 · exact⟨by simp;omega,fun t ht=>by simp[ht]⟩
theorem afH {m:Bool}{base:Nat}{ns:List Nd}{ks:List Int}{ts:List ag}{rk d:Nat}(h:Sh m base ns ks ts rk d):(∀t∈ts,t.num≤9223372036854775807)→ns.length≤ts.length∧∀n∈ns,n.num≤9223372036854775807:=by
 induction h with
 | leaf base ts nd h =>
   intro ht;refine⟨by cases h <;> simp,fun n hn => ?_⟩;rw[List.mem_singleton.1 hn];cases h with
   | num t h=>exact ht t (by simp)
   | yes t h g=>show(1:Int)≤_;omega
   | _=>show(0:Int)≤_;omega
 | neg base ns a ts rk d h m hm d' ts' hw ih =>
   intro ht;obtain⟨w1,w2⟩:=MV hw;obtain⟨g1,g2⟩:=ih fun t h=>ht t (List.mem_cons_of_mem _ (w2 t h))
   refine⟨by simp only[ak,aO,dI];omega,fun n hn => ?_⟩;rcases List.mem_append.1 hn with hn|hn
   · exact g2 n hn
   · rw[List.mem_singleton.1 hn];show(0:Int)≤_;omega
 | op base o ho ns ms a b ts us oK lJ d1 d2 h g s hs e1 e2 ts' j6 hw gw ih jB =>
   intro ht;obtain⟨w1,w2⟩:=MV hw;obtain⟨x1,x2⟩:=MV gw;obtain⟨g1,g2⟩:=ih fun t h=>ht t (List.mem_append_left _ (w2 t h))
   obtain⟨y1,y2⟩:=jB fun t h=>ht t (List.mem_append_right _ (List.mem_cons_of_mem _ (x2 t h)))
   refine⟨by simp only[ak,aO,dI];omega,fun n hn => ?_⟩;rcases List.mem_append.1 hn with hn|hn
   · exact g2 n hn
   rcases List.mem_append.1 hn with hn|hn
   · exact y2 n hn
   · rw[List.mem_singleton.1 hn];show(0:Int)≤_;omega
 | call base ns ks ts d h t l r =>
   rename_i ih
   intro ht;obtain⟨g1,g2⟩:=ih fun t h=>ht t (by simp[h])
   refine⟨by simp only[ak,aO,dI];omega,fun n hn => ?_⟩;rcases List.mem_append.1 hn with hn|hn
   · exact g2 n hn
   · rw[List.mem_singleton.1 hn];show(0:Int)≤_;omega
 | none base=>intro _;exact⟨ah _,fun n hn=>by cases hn⟩
 | one base ns a ts rk d h ih=>exact ih
 | and base ns ms ks b ts us rk d1 d2 h hk c hc g ih jB =>
   intro ht;obtain⟨g1,g2⟩:=ih fun t h=>ht t (List.mem_append_left _ h)
   obtain⟨y1,y2⟩:=jB fun t h=>ht t (List.mem_append_right _ (List.mem_cons_of_mem _ h))
   refine⟨by simp only[ak,aO];omega,fun n hn => ?_⟩;rcases List.mem_append.1 hn with hn|hn
   · exact g2 n hn
   · exact y2 n hn
theorem UZ:∀ts:List ag,(∀t∈ts,Tok t)→ts.length≤(gU ts).length
 | [],_=>dV _
 | t :: ts,h=>by
   have ih:=UZ ts fun u hu=>h u (List.mem_cons_of_mem _ hu)
   have h1:=(h t (by simp)).pos;rw[kJ,ak,aO];omega
theorem MI:∀ts:List ag,(∀t∈ts,Tok t)→Bytes (gU ts)
 | [],_=>fun x hx=>by cases hx
 | t :: ts,h=>fun x hx=>by
   rw[kJ]at hx;rcases List.mem_append.1 hx with hx|hx
   · exact(h t (by simp)).2.2 x hx
   · exact MI ts (fun u hu=>h u (List.mem_cons_of_mem _ hu)) x hx
theorem AY (s:ByteArray)(ns:List Nd)(h:iB s (.ok ns)):(ns.length≤300∧0<ns.length∧bR ns=true)∧(∀n∈ns,n.num≤9223372036854775807)∧(cB ns).length≤s.size∧s.size≤300∧iB (strOfNums (cB ns)) (.ok ns):=by
 rcases h with ⟨_,h⟩|⟨_,_,h⟩|⟨h0,ts,f,h1,h2⟩
 · cases h
 · cases h
 · have hb:Bytes (sb s):=fun x hx=>sV s x hx
   have ht:=SC h2 (F3 s ts h1).1;obtain⟨us,pI,d,a,g1,g2,g3,g4,g5⟩:=UN hb h1 h2;rw[aV]at g4;obtain⟨k1,k2⟩:=afH g1 fun t h=>(g3 t h).num
   have k3:=UZ us g3;obtain⟨p1,vs,g,p2,p3⟩:=adS hb h1 h2 ht;rw[aV]at p1
   have lH:0<ns.length:=by
    cases ns with
    | nil=>exact absurd ht (by decide)
    | cons n ns=>simp
   have hby:Bytes (cB ns):=by
    rw[BM g1 ht];exact MI us g3
   refine⟨⟨by omega,lH,ht⟩,k2,p1,h0,.inr (.inr ⟨by rw[strOfNums_size];omega,vs,g,by rw[jd _ hby];exact p2,p3⟩)⟩
theorem Ob (s:ByteArray)(ns:List Nd)(h:iB s (.ok ns)):∀n∈ns,n.text.size≤1000000∧n.ref.sh.size≤1000000∧n.af.sh.size≤1000000:=by
 rcases h with ⟨_,h⟩|⟨_,_,h⟩|⟨h0,ts,f,h1,h2⟩
 · cases h
 · cases h
 · exact Sz h2 (FZ 1000000 _ _ _ _ (fun x hx=>sV s x hx) (by rw[aV];omega) h1)
theorem SB (s:ByteArray)(w:World)(hx:Sx w)(ns:List Nd)(hp:iB s (.ok ns)) :
 Calls Tryz.prog 36 #[.string s] w fun e w'=>Below w.heap.size w w'∧∃g cap vs,e = .returned (.tuple #[.slice (some ⟨g,0,none⟩) ns.length cap,.int .i64 0])∧vs.map Prod.fst=ns∧eF w' w'.heap.size (.slice (some ⟨g,0,none⟩) ns.length cap) vs:=by
 refine(adE s w hx.vars hx.ops ns hp (AY s ns hp).1.2.1).mono ?_;rintro e w' ⟨hb,g,cap,vs,he,h1,h2,h3, -⟩;exact⟨hb,g,cap,_,he,(Mi vs).trans h1,h3.sn h2⟩
def dF{α : Type}(x:Option (Except Int α)):Prop:=∀c,x=some (.error c)→c=5∨c=6
theorem dF.non{α : Type}:dF (none:Option (Except Int α)):=fun c h=>by cases h
theorem dF.ok{α : Type}(v : α):dF (some (.ok v):Option (Except Int α)):=fun c h=>by injection h with h;cases h
theorem dF.e5{α : Type}:dF (some (.error 5):Option (Except Int α)):=fun c h=>by injection h with h;injection h with h;exact .inl h.symm
theorem dF.e6{α : Type}:dF (some (.error 6):Option (Except Int α)):=fun c h=>by injection h with h;injection h with h;exact .inr h.symm
theorem dF.ite{α : Type}{p:Prop} [Decidable p] {x y:Option (Except Int α)} (h:dF x) (g:dF y):dF (if p then x else y):=by split;exact h;exact g
theorem dF.bind {α β γ δ : Type}{x:Option (Except Int (α × β × γ))}{k : α → β → γ → Option (Except Int δ)}(h:dF x)(g:∀a b c,dF (k a b c)):dF (iC x k):=fun c hc=>by
 rcases dP hc with ⟨e,h1,h2⟩|⟨a,b,d,_,h2⟩
 · injection h2 with h2;subst h2;exact h c h1
 · exact g a b d c h2
theorem aep (base:Nat)(t:ag)(ts:List ag):dF (some (jc base t ts)):=by
 unfold jc;split
 · split
   · split
     · exact dF.ok _
     · exact dF.e5
   · exact dF.e5
 · exact dF.ok _
theorem Pg:∀f:Nat,(∀n deep base ts,dF (dX f n deep base ts))∧(∀n deep base ns a ts,dF (gZ f n deep base ns a ts))∧(∀deep base ts,dF (iU f deep base ts))∧(∀deep base ns ks ts,dF (gB f deep base ns ks ts))
 | 0=>⟨fun _ _ _ _=>by unfold dX;exact dF.non,fun _ _ _ _ _ _=>by unfold gZ;exact dF.non,fun _ _ _=>by unfold iU;exact dF.non,fun _ _ _ _ _=>by unfold gB;exact dF.non⟩
 | f + 1 => by
   obtain⟨i1,i2,i3,i4⟩:=Pg f;refine⟨fun n deep base ts => ?_,fun n deep base ns a ts => ?_,fun deep base ts => ?_,fun deep base ns ks ts => ?_⟩
   · rw[kR]
     exact dF.ite (dF.bind (i1 _ _ _ _) fun _ _ _=>i2 _ _ _ _ _ _) (dF.ite (dF.ite dF.e6 (dF.bind (i1 _ _ _ _) fun _ _ _=>dF.ok _)) (i3 _ _ _))
   · rw[pG]
     exact dF.ite (dF.ok _) (dF.bind (i1 _ _ _ _) fun _ _ _=>i2 _ _ _ _ _ _)
   · cases ts with
     | nil=>rw[yx];exact dF.e5
     | cons t ts =>
       rw[kZ]
       repeat' first
        | exact dF.ok _
        | exact dF.e5
        | exact dF.e6
        | exact aep _ _ _
        | exact i1 _ _ _ _
        | exact i4 _ _ _ _ _
        | (apply dF.bind)
        | (apply dF.ite)
        | intro
   · rw[oo]
     exact dF.bind (i1 _ _ _ _) fun _ _ _=>dF.ite (i4 _ _ _ _ _) (dF.ok _)
theorem Oa (s:ByteArray)(c:Int)(h:iB s (.error c)):c≠0:=by
 rcases h with ⟨_,h⟩|⟨_,_,h⟩|⟨_,ts,f,_,h⟩
 · injection h with h;omega
 · injection h with h;omega
 · unfold kY at h
   have:=dF.bind ((Pg f).1 0 0 0 ts) (k:=fun ns _ r=>if sN r=0 then some (.ok ns)else some (.error 5)) (fun _ _ _=>dF.ite (dF.ok _) dF.e5) c h;omega
theorem age(w:World):eF w w.heap.size (.slice none 0 0) []:=⟨⟨none,0,rfl,.inl rfl⟩,fun p hp=>absurd hp (by simp)⟩
def Cb(w:World):Prop:=∃ev,w.cell? ⟨7,0,none⟩=some ev∧(ev = .nilIface∨∃te pe,ev = .iface te pe)
theorem Cb.below {w w':World}(h:Cb w)(hb:Below w.heap.size w w'):Cb w':=by
 obtain⟨ev,h1,h2⟩:=h;exact⟨ev,(hb.cell (show(⟨7,0,none⟩:Addr).block<w.heap.size from Lib.lt_of_cell h1)).trans h1,h2⟩
structure nG (w:World):Prop where
 sx:Sx w
 syn:Cb w
theorem nG.below{w w':World}(h:nG w)(hb:Below w.heap.size w w'):nG w':=⟨h.sx.below hb,h.syn.below hb⟩
theorem OT (c:Int)(_h0:0≤c)(_h1:c≤255)(w:World) :
 Calls Tryz.prog 58 #[.int .u8 c] w fun e w'=>e = .returned (.bool (isNum c))∧w=w':=by
 go_enter Tryz.func58,Tryz.ntmps58
 go_wp2
 all_goals go_ret
 all_goals exact⟨fD (by unfold isNum;first|rfl|(symm;rw[decide_eq_true_iff];omega)|(symm;rw[decide_eq_false_iff_not];omega)|(rw[decide_eq_decide];omega)),rfl⟩
theorem aaU(s:ByteArray)(h:s.size=0):kd s=0:=by unfold kd;rw[uR s h];rfl
theorem aaV (s:ByteArray)(hp0:0<s.size)(a:Int)(ha:(s[0].toNat:Int)=a):kd s=if a=39 then 1 else if a=61 then 2 else if a=45∨isNum a=true then 3 else 4:=by
 have hga:(sb s).getD 0 0=a:=by rw[sW s 0 hp0,ha]
 have hl:(sb s).length=s.size:=aV s;unfold kd;cases h:sb s with
 | nil=>rw[h]at hl;simp at hl;omega
 | cons c l =>
   rw[h]at hga;have:c=a:=by simpa using hga
   subst this;rfl
theorem abe (s:ByteArray)(_hs:s.size≤1000000)(w:World):Calls Tryz.prog 35 #[.string s] w fun e w'=>e = .returned (.int .i64 (kd s))∧w=w':=by
 by_cases h0:s.size=0
 · have hk:=aaU s h0
   have hz:=uR s h0;have HK:=ae hk;clear hk;obtain rfl:s=⟨#[]⟩:=by first|exact hz|(rw[← l5 s,hz];rfl)
   clear h0 hz _hs;go_enter Tryz.func35,Tryz.ntmps35;go_wp2_with fail
   all_goals go_ret
   all_goals exact⟨by rw[HK.o];first|done|rfl,rfl⟩
 · have hne:=rG s h0
   have vN:s.toList.isEmpty=false:=by cases hq:s.toList with|nil=>exact absurd hq hne|cons a l=>rfl
   have hp0:0<s.size:=by omega
   obtain⟨a,ha⟩:∃a:Int,(s[0].toNat:Int)=a:=⟨_,rfl⟩;have ha1:0≤a∧a≤255:=by have:=s[0].toNat_lt;omega
   have hk:=aaV s hp0 a ha;by_cases c1:a=39
   · rw[if_pos c1]at hk
     have HK:=ae hk;have e1:(a == 39)=true:=beq_iff_eq.2 c1;clear hk c1 h0;go_enter Tryz.func35,Tryz.ntmps35;go_wp2_with fail
     all_goals go_ret
     all_goals exact⟨by rw[HK.o];first|done|rfl,rfl⟩
   rw[if_neg c1]at hk;have e1:(a == 39)=false:=beq_eq_false_iff_ne.2 c1;by_cases c2:a=61
   · rw[if_pos c2]at hk
     have HK:=ae hk;have e2:(a == 61)=true:=beq_iff_eq.2 c2;clear hk c1 c2 h0;go_enter Tryz.func35,Tryz.ntmps35;go_wp2_with fail
     all_goals go_ret
     all_goals exact⟨by rw[HK.o];first|done|rfl,rfl⟩
   rw[if_neg c2]at hk;have e2:(a == 61)=false:=beq_eq_false_iff_ne.2 c2;by_cases c3:a=45
   · rw[if_pos (Or.inl c3)]at hk
     have HK:=ae hk;have e3:(a == 45)=true:=beq_iff_eq.2 c3;clear hk c1 c2 c3 h0;go_enter Tryz.func35,Tryz.ntmps35;go_wp2_with fail
     all_goals go_ret
     all_goals exact⟨by rw[HK.o];first|done|rfl,rfl⟩
   have e3:(a == 45)=false:=beq_eq_false_iff_ne.2 c3;cases c4:isNum a with
   | true =>
     rw[if_pos (Or.inr c4)]at hk;have HK:=ae hk;clear hk c1 c2 c3 h0;go_enter Tryz.func35,Tryz.ntmps35;go_wp2_with (go_at_call 58;((with_reducible refine(OT _ ?_ ?_ _).mono ?_);(first|omega|skip);(first|omega|skip);rintro e w' ⟨rfl,rfl⟩))
     all_goals go_ret
     all_goals exact⟨by rw[HK.o];first|done|rfl,rfl⟩
   | false =>
     rw[if_neg (by rw[c4];simp;exact c3)]at hk;have HK:=ae hk;clear hk c1 c2 c3 h0;go_enter Tryz.func35,Tryz.ntmps35;go_wp2_with (go_at_call 58;((with_reducible refine(OT _ ?_ ?_ _).mono ?_);(first|omega|skip);(first|omega|skip);rintro e w' ⟨rfl,rfl⟩))
     all_goals go_ret
     all_goals exact⟨by rw[HK.o];first|done|rfl,rfl⟩
theorem FV(s:ByteArray)(_hs:s.size≤1000000)(k:Int)(hk:kd s=k)(w:World):Calls Tryz.prog 35 #[.string s] w fun e w'=>e = .returned (.int .i64 k)∧w=w':=hk ▸ abe s _hs w
theorem xW{B:Nat}{w w':World}(h:Below B w w'):Below B w w'.drew:=⟨h.os,h.tape,h.output,h.size,h.block⟩
theorem SQ (s:ByteArray)(ns:List Nd)(hp:iB s (.ok ns))(w1 wr:World)(hx:Sx wr)(v:Value)(l:List (Nd × Value))(hm:l.map Prod.fst=ns)(hs:eF w1 w1.heap.size v l)(hr:Below w1.heap.size w1 wr) :
 Calls Tryz.prog 20 #[v] wr fun e w'=>e = .returned (.string (strOfNums (cB ns)))∧Below wr.heap.size wr w':=by
 obtain⟨⟨ZT,lH,Kr⟩,bE,hpl,aan,hp2⟩:=AY s ns hp;have hsz:=Ob s ns hp;have hl:l.length=ns.length:=by rw[← hm,fw]
 have:=hx.SL v l (hs.lift hr hr.size) ⟨by omega,fun p hp=>hsz p.1 (by rw[← hm];exact List.mem_map_of_mem hp)⟩ (fun p hp=>bE p.1 (by rw[← hm];exact List.mem_map_of_mem hp)) (by rw[show l.map (·.1)=ns from hm];omega) (by rw[show l.map (·.1)=ns from hm];exact Kr);rwa[show l.map (·.1)=ns from hm]at this
def jC:ByteArray:=⟨#[61]⟩
theorem RS (c:Int)(mk s:ByteArray)(h:sb mk=[c]):sb (mk++s)=c :: sb s:=by
 have:sb (mk++s)=sb mk++sb s:=by unfold sb;rw[ByteArray.data_append,Array.toList_append,iy]
 rw[this,h];rfl
theorem aaW(s:ByteArray):kd (jC++s)=2:=by unfold kd;rw[RS 61 jC s (by decide)];rfl
theorem RQ (mk s t:ByteArray)(hm:mk.size=1)(ht:mk++s=t):t.extract 1 t.size=s:=by
 subst ht;rw[ByteArray.extract_append,hm,ByteArray.size_append,hm];rw[show mk.extract 1 (1+s.size)=ByteArray.empty from ByteArray.extract_eq_empty_iff.2 (by omega)];rw[ByteArray.empty_append,show 1+s.size - 1=s.size by omega];exact ByteArray.extract_zero_size
theorem WQ (s:ByteArray)(ns:List Nd)(h:iB s (.ok ns)):∀n∈ns,n.text.size≤300∧n.ref.sh.size≤300∧n.af.sh.size≤300:=by
 rcases h with ⟨_,h⟩|⟨_,_,h⟩|⟨h0,ts,f,h1,h2⟩
 · cases h
 · cases h
 · exact Sz h2 (FZ 300 _ _ _ _ (fun x hx=>sV s x hx) (by rw[aV];omega) h1)
theorem UB (c:Nat):∀ns:List Nd,(∀n∈ns,l6 n≤c)→pO ns≤ns.length*c
 | [],_=>by unfold pO;simp
 | n :: ns,h=>by
   have h1:=UB c ns fun m hm=>h m (by simp[hm])
   have h2:=h n (by simp);have h3:pO (n :: ns)=l6 n+pO ns:=by unfold pO;simp
   rw[h3,aO,Nat.add_mul];omega
structure rV (ns:List Nd):Prop where
 tree:bR ns=true
 len:ns.length≤300
 num:∀n∈ns,n.num≤9223372036854775807
 sz:∀n∈ns,n.text.size≤300∧n.ref.sh.size≤300∧n.af.sh.size≤300
theorem rV.long {ns:List Nd}(h:rV ns):(cB ns).length≤1000000:=by
 have h1:=SN h.tree h.num;have h2:=UB 1260 ns fun n hn=>by have:=h.sz n hn;unfold l6;omega
 have h3:=h.len;have h4:ns.length*1260≤300*1260:=Nat.mul_le_mul_right _ h3;omega
theorem rV.of {s:ByteArray}{ns:List Nd}(h:iB s (.ok ns)):rV ns:=by
 obtain⟨⟨hl,_,ht⟩,bE,_⟩:=AY s ns h;exact⟨ht,hl,bE,WQ s ns h⟩
theorem rV.move {ns:List Nd}(h:rV ns)(own:ByteArray){ss:List Sf}(hs:EL ss):rV (mF own ss ns):=by
 refine⟨acv h.tree hs,by rw[RU];exact h.len,fun n hn => ?_,fun n hn => ?_⟩
 · obtain⟨m,hm,rfl⟩:=List.mem_map.1 hn
   have h1:=(RX own ss m).num;have h2:=h.num m hm;omega
 · obtain⟨m,hm,rfl⟩:=List.mem_map.1 hn
   have h1:=RX own ss m;have h2:=h.sz m hm;exact⟨bF h1.text h2.1,bF h1.ref h2.2.1,bF h1.af h2.2.2⟩
theorem rV.G7 {l:List (Nd × Value)}(h:rV (l.map (·.1))):SZ l :=
 ⟨by have:=h.len;rw[fw]at this;omega,fun p hp=>by have:=h.sz p.1 (List.mem_map_of_mem hp);omega⟩
theorem adR (w:World)(hx:Sx w)(v:Value)(l:List (Nd × Value))(hs:eF w w.heap.size v l)(h:rV (l.map (·.1))) :
 Calls Tryz.prog 20 #[v] w fun e w'=>e = .returned (.string (strOfNums (cB (l.map (·.1)))))∧Below w.heap.size w w' :=
 hx.SL v l hs h.G7 (fun p hp=>h.num p.1 (List.mem_map_of_mem hp)) (by have:=h.long;omega) h.tree
theorem Y4 (t p:ByteArray)(hs:t.size≤300)(h1:1≤t.size)(hk:kd t=2)(hr:t.extract 1 t.size=p)(ns:List Nd)(hp:iB p (.ok ns))(qm:strOfNums (cB ns)=p)(w:World)(hx:nG w) :
 Calls Tryz.prog 19 #[.string t] w fun e w'=>∃g cap l,e = .returned (.tuple #[.slice (some ⟨g,0,none⟩) ns.length cap,.bool true])∧eF w' w'.heap.size (.slice (some ⟨g,0,none⟩) ns.length cap) l∧l.map Prod.fst=ns∧Below w.heap.size w w':=by
 have HA:=ae (SB p w hx.sx ns hp);have tN:=ae (fun (w1:World)(h1:Below w.heap.size w w1)(v:Value)(l:List (Nd × Value))(hm:l.map Prod.fst=ns)(hs:eF w1 w1.heap.size v l)=>(show Calls Tryz.prog 20 #[v] w1.drew fun e w'=>e = .returned (.string p)∧Below w1.drew.heap.size w1.drew w' from qm ▸ SQ p ns hp w1 w1.drew (hx.sx.below (xW h1)) v l hm hs (xW (ai _ _))));have HK:=ae (FV t (by omega) _ hk w);have hi1:(1:Int)≤(t.size:Int):=by omega
 have hi:¬ (300:Int)<(t.size:Int):=by omega
 obtain⟨L,hL⟩:∃L,ns.length=L:=⟨_,rfl⟩;rw[hL]at HA ⊢;clear hp qm hL hx hs hk;go_enter Tryz.func19,Tryz.ntmps19
 go_wp2_with (first
  | (go_at_call 35;((with_reducible refine HK.o.mono ?_);rintro e w1 ⟨rfl,rfl⟩))
  | (go_at_call 36;((with_reducible refine HA.o.mono ?_);rintro e w1 ⟨hb,g1,eU,l1,rfl,hm1,hs1⟩;have HB1:=ae hb;have bD:=ae (tN.o w1 hb _ l1 hm1 hs1);have Ir:=ae hm1;have gu:=ae hs1;clear hb hm1 hs1)))
 go_region_held3 (fun _=>True) (trivial) (first
  | (go_at_call 20;((with_reducible refine bD.o.mono ?_);rintro e w2 ⟨rfl,h1⟩;have HB2:=ae ((xW HB1.o).trans (h1.mono HB1.o.size));have M9:=ae ((xW (ai _ w1)).trans h1);clear h1)))
 all_goals go_wp2_with fail
 all_goals go_ret2
 all_goals exact⟨_,_,l1,rfl,gu.o.lift M9.o M9.o.size,Ir.o,HB2.o⟩
def BP(own:ByteArray)(ss:List Sf)(ns:List Nd):ByteArray:=if (jC++strOfNums (cB (mF own ss ns))).size≤300 then jC++strOfNums (cB (mF own ss ns))else ⟨#[61,35,82,69,70,33]⟩
theorem RV (w:World)(t p own:ByteArray)(xs:List bu)(B:Option Addr)(m c:Nat)(hx:nG w)(hS:mW w w.heap.size (.slice B m c) xs)(hm:m≤1000000)(hO:∀x∈xs,og x.s)(ho:own.size≤maxLen)(hs:t.size≤300)(h1:1≤t.size)(hk:kd t=2)(hr:t.extract 1 t.size=p)(ns:List Nd)(hp:iB p (.ok ns))(qm:strOfNums (cB ns)=p) :
 Calls Tryz.prog 12 #[.string t,.string own,.slice B m c] w fun e w'=>e = .returned (.string (BP own (jq xs) ns))∧Below w.heap.size w w':=by
 have HF:=ae (Y4 t p hs h1 hk hr ns hp qm w hx);have hok:=rV.of hp;have hsO:EL (jq xs):=fun s hs=>by obtain⟨x,hx,rfl⟩:=List.mem_map.1 hs;exact hO x hx
 have hmv:=hok.move own hsO;have dN:=ae (fun (wq:World)(hq:Below w.heap.size w wq)(A:Option Addr)(n cap:Nat)(l:List (Nd × Value))(hl:eF wq wq.heap.size (.slice A n cap) l)(hm2:l.map Prod.fst=ns)=>(show Calls Tryz.prog 21 #[.slice A n cap,.string own,.slice B m c] wq (EE wq own (jq xs) ns)from hm2 ▸ acm wq own xs A B n cap m c l (hx.sx.below hq).vars (hS.lift hq) hm hO ho hl (rV.G7 (hm2.symm ▸ hok)) (hm2.symm ▸ hok.tree)));have tN:=ae (fun (wq:World)(hq:Below w.heap.size w wq)(v:Value)(l:List (Nd × Value))(hl:eF wq wq.heap.size v l)(hm2:l.map (·.1)=mF own (jq xs) ns)=>(show Calls Tryz.prog 20 #[v] wq fun e w'=>e = .returned (.string (strOfNums (cB (mF own (jq xs) ns))))∧Below wq.heap.size wq w' from hm2 ▸ adR wq (hx.sx.below hq) v l hl (hm2.symm ▸ hmv)));obtain⟨q,hq⟩:∃q,strOfNums (cB (mF own (jq xs) ns))=q:=⟨_,rfl⟩;have hql:q.size≤1000000:=by rw[← hq,strOfNums_size];exact hmv.long
 rw[hq]at tN;obtain⟨L,hL⟩:∃L,ns.length=L:=⟨_,rfl⟩;unfold EE at dN;rw[hL]at HF dN;have vK:¬ 9223372036854775807<(⟨#[61]⟩:ByteArray).size+q.size:=by show ¬ _<1+q.size;omega
 have aih:¬ 9223372036854775807<1+q.size:=by omega
 have hsz:(jC++q).size=1+q.size:=by rw[ByteArray.size_append];rfl
 have dH:=ae (show BP own (jq xs) ns=if (jC++q).size≤300 then jC++q else ⟨#[61,35,82,69,70,33]⟩from by unfold BP;rw[hq]);have q9:=ae hsz;clear hok hsO hmv hx hS hm hO ho hs h1 hk hr hp qm hq hL hsz;go_enter Tryz.func12,Tryz.ntmps12
 go_upto_region 5 with (first
  | (go_at_call 19;((with_reducible refine HF.o.mono ?_);rintro e w2 ⟨g,cap,l,rfl,hs1,hm1,hq1⟩;have H2:=ae hq1;have HS2:=ae hs1;have qV:=ae hm1;clear hs1 hm1 hq1))
  | (go_at_call 21;((with_reducible refine(dN.o _ H2.o _ _ _ l HS2.o qV.o).mono ?_);rintro e w3 ⟨T,done,rfl,hs1,hm1,hq1,_⟩;have H3:=ae (H2.o.trans (hq1.mono H2.o.size));have mh:=ae hs1;have vk:=ae hm1;clear hs1 hm1 hq1))
  | (go_at_call 20;((with_reducible refine(tN.o _ H3.o _ done mh.o vk.o).mono ?_);rintro e w4 ⟨rfl,hq1⟩;have H4:=ae (H3.o.trans (hq1.mono H3.o.size));clear hq1)))
 by_cases hc:(jC++q).size≤300
 · have hc1:¬ (300:Int)<1+(q.size:Int):=by rw[q9.o]at hc;omega
   have HC:=ae hc;clear hc;go_wp2_with fail
   go_ret;exact⟨by rw[dH.o,if_pos HC.o];rfl,H4.o⟩
 · have hc1:(300:Int)<1+(q.size:Int):=by rw[q9.o]at hc;omega
   have HC:=ae hc;clear hc;go_wp2_with fail
   go_ret;exact⟨by rw[dH.o,if_neg HC.o];rfl,H4.o⟩
def cZ(n:Int):Nat:=(min (max n 0) 1048576).toNat
theorem E8(n:Int):cZ n≤1048576:=by unfold cZ;omega
theorem Ya(n:Int):(cZ n:Int)=min (max n 0) 1048576:=by unfold cZ;omega
theorem acA:(Tryz.prog.info? 30).map (·.size)=some 2:=by kernel_rfl
theorem Ab {w:World}{b:Nat}{A:Option Addr}{n cap:Nat}{nw:Int}(h:dh 30 w b (.slice A n cap) nw)(fn:Func)(tmps:Array Value)(s:Tmp)(hf:fn.results=#[.cell s 30])(hp:tmps.getD s undef = .pointer (some ⟨b,0,none⟩)) :
 (results fn tmps).run Tryz.prog w = .ok (.agg #[.slice A n cap,.int .i64 nw]) w :=
 results_cell_row hf tmps w b _ _ _ _ hp h Tryz.underlying30 rfl acA
theorem dh.nQ{t:TypeId}{w:World}{b:Nat}{v:Value}{nw:Int}(h:dh t w b v nw)(u:Value)(m:Int):dh t ((w.setCell ⟨b,0,none⟩ u).setCell ⟨b,1,none⟩ (.int .i64 m)) b u m:=(h.SX u).Dz m
theorem zh {w0 w:World}{b B:Nat}(h:Below B w0 w)(hB:B≤b)(u v:Value):Below B w0 ((w.setCell ⟨b,0,none⟩ u).setCell ⟨b,1,none⟩ v):=by
 have h1:Below B w0 (w.setCell ⟨b,0,none⟩ u):=h.setCell hB u;exact h1.setCell hB v
theorem zB (w:World)(b g:Nat)(u v:Value)(hne:g≠b):((w.setCell ⟨b,0,none⟩ u).setCell ⟨b,1,none⟩ v).heap[g]? = w.heap[g]? :=
 (heap_setCell_other _ ⟨b,1,none⟩ g v hne).trans (heap_setCell_other w ⟨b,0,none⟩ g u hne)
def qx(n at_:Int):List Int × Int:=if at_<0∨(cZ n:Int)<at_ then (fH (cZ n),(cZ n:Int))else (FO (cZ n) at_,(cZ n:Int)+1)
structure lM (w1 w:World)(b:Nat)(tv:Value)(k:Int)(xs:List Int):Prop where
 cur:dh 30 w b tv k
 own:Own (aK .i64) 3 w w1.heap.size tv xs
 gr:w1.grownBy w (some b)
 blt:b<w1.heap.size
theorem lM.nil{w:World}{b:Nat}{k:Int}(h:dh 30 w b (.slice none 0 0) k):lM w w b (.slice none 0 0) k []:=⟨h,Own.nil _ _ _ _,grownBy.fo _ _,h.lt⟩
theorem lM.next{w1 w w':World}{b:Nat}{tv:Value}{k:Int}{xs:List Int}(h:lM w1 w b tv k xs)(hb:Below w.heap.size w w'):lM w1 w' b tv k xs:=⟨h.cur.over hb,h.own.below hb (ah _),grownBy.below' h.gr hb,h.blt⟩
theorem lM.ne {w1 w:World}{b:Nat}{tv:Value}{k:Int}{xs:List Int}(h:lM w1 w b tv k xs):Option.some b≠tv.ownBlock:=by
 intro hv;have:=(h.own.lies hv.symm).1;have:=h.blt;omega
theorem lM.Jv{w1 wa wb:World}{b:Nat}{tv:Value}{k:Int}{xs:List Int}(h:lM w1 wa b tv k xs)(hg:wa.grownBy wb tv.ownBlock):dh 30 wb b tv k:=h.cur.keep (hg.block b h.cur.lt h.ne)
theorem lM.grow {w1 wa wb:World}{b:Nat}{tv:Value}{k:Int}{xs:List Int}(h:lM w1 wa b tv k xs)(hg:wa.grownBy wb tv.ownBlock):w1.grownBy wb (some b) :=
 ⟨hg.os.trans h.gr.os,hg.tape.trans h.gr.tape,hg.output.trans h.gr.output,bF h.gr.size hg.size,fun j hj hr=>by
  rw[hg.block j (dY hj h.gr.size) (fun e=>by have:=(h.own.lies e.symm).1;omega)];exact h.gr.block j hj hr⟩
theorem lM.push {w1 wa wb:World}{b:Nat}{tv v':Value}{k:Int}{xs ys:List Int}(h:lM w1 wa b tv k xs)(ho:Own (aK .i64) 3 wb w1.heap.size v' ys)(hg:wa.grownBy wb tv.ownBlock):lM w1 (wb.setCell ⟨b,0,none⟩ v') b v' k ys :=
 ⟨(h.Jv hg).SX v',ho.keep (fun g h1 _ _=>heap_setCell_other wb _ g _ (by show g≠b;have:=h.blt;omega)),grownBy.gp (h.grow hg) 0 v',h.blt⟩
theorem lM.other {w1 w:World}{b c:Nat}{tv:Value}{k:Int}{xs:List Int}(h:lM w1 w b tv k xs){t:TypeId}{v:Value}{m:Int}(hp:dh t w1 c v m)(hne:c≠b):dh t w c v m :=
 hp.keep (h.gr.block c hp.lt (fun e=>hne (dU e)))
theorem lM.iQ {w0 w1 w:World}{B b:Nat}{tv:Value}{k:Int}{xs:List Int}(h:lM w1 w b tv k xs)(hb:Below B w0 w1)(hB:B≤b)(hw:B≤w1.heap.size):Below B w0 w :=
 hb.grown h.gr hw (fun g e=>by have:=dU e;omega)
theorem ahj (t:TypeId)(w:World)(u v:Value)(m n:Int):∃w3,(w.alloc (.cells #[u,.int .i64 m] t)).alloc (.cells #[v,.int .i64 n] t)=w3∧Below w.heap.size w w3∧dh t w3 w.heap.size u m∧dh t w3 (w.heap.size+1) v n∧w3.heap.size=w.heap.size+2:=by
 have s1:=kK w (.cells #[u,.int .i64 m] t);have s2:=kK (w.alloc (.cells #[u,.int .i64 m] t)) (.cells #[v,.int .i64 n] t);have b1:=rY t w u m;have b2:=rY t (w.alloc (.cells #[u,.int .i64 m] t)) v n;have p1:=dh.new t w u m;have p2:=dh.new t (w.alloc (.cells #[u,.int .i64 m] t)) v n;rw[s1]at p2;exact⟨_,rfl,b1.trans (b2.mono b1.size),p1.over b2,p2,by omega⟩
theorem afi (n i:Nat)(h:i<n):(fH n).take i++[(i:Int)]=(fH n).take (i+1):=by
 unfold fH;rw[List.take_add_one,iw,List.getElem?_range h];rfl
theorem aeP:Tryz.f9.results=#[.cell 2 30]:=by kernel_rfl
def EJ(w w':World)(xs:List Int)(nw:Int)(e:Ending):Prop:=∃v,e = .returned (.agg #[v,.int .i64 nw])∧Own (aK .i64) 3 w' w.heap.size v xs∧Below w.heap.size w w'
theorem GN (w:World)(n:Int):Calls Tryz.prog 9 #[.int .i64 n] w fun e w'=>EJ w w' (fH (cZ n)) (cZ n:Int) e:=by
 have hle:=E8 n;have hci:=Ya n;obtain⟨N,hN⟩:∃N,cZ n=N:=⟨_,rfl⟩;rw[hN]at hle hci ⊢;obtain⟨w2,hw2,hb,hp1,hp2,hsz⟩:=ahj 30 w (.slice none 0 0) (.slice none 0 0) 0 (N:Int);have HB:=ae hb;have bD:=ae hp1;have q9:=ae hsz;have HI:=ae (lM.nil hp2);have H7:=ae hci;clear hb hp1 hp2 hsz hN hci;go_enter Tryz.func9,Tryz.ntmps9;go_upto_region 1 with (fail)
 obtain⟨w0,hw0⟩:∃w0,w.alloc (.cells #[.slice none 0 0,.int .i64 0] 30)=w0:=⟨_,rfl⟩;have hz0:w0.heap.size=w.heap.size+1:=by rw[← hw0];exact kK _ _
 have HZ0:=ae hz0;clear hz0;rw[hw0]at hw2 ⊢
 go_cut [3]from 6 to 8 (fun v wx=>∃(fJ:World),v = .int .i64 (N:Int)∧fJ=wx∧fJ=w0)
 case first =>
  by_cases h1:n<0
  · have h2:¬ (1048576:Int)<n:=by omega
    go_wp2_with fail
    go_meet
    case rel=>exact⟨_,(show Value.int .i64 _=Value.int .i64 _ from congrArg _ (by have:=H7.o;omega)),rfl,rfl⟩
  · by_cases h2:(1048576:Int)<n
    · go_wp2_with fail
      go_meet
      case rel=>exact⟨_,(show Value.int .i64 _=Value.int .i64 _ from congrArg _ (by have:=H7.o;omega)),rfl,rfl⟩
    · go_wp2_with fail
      all_goals go_meet
      all_goals exact⟨_,(show Value.int .i64 _=Value.int .i64 _ from congrArg _ (by have:=H7.o;omega)),rfl,rfl⟩
 case rest =>
  obtain⟨fJ,rfl,rfl,hw⟩:=hcut;have hw:=hw.symm;subst hw;clear hw0;go_upto_region 4 with (fail)
  clear hw2;rw[HZ0.o]
  go_loopw [5] (fun iv wr=>∃(i:Nat)(A1:Option Addr)(c1:Nat),i≤N∧iv = .int .i64 (i:Int)∧Hid (lM w2 wr (w.heap.size+1) (.slice A1 i c1) (N:Int) ((fH N).take i)))
   (fun iv _=>N - (intOf iv).toNat)
  case atStart=>exact⟨0,none,0,dV _,rfl,HI⟩
  case round =>
   obtain⟨i,A1,c1,hi,rfl,HA⟩:=hrel;have y7:=ae (show((fH N).take i).length=i from by rw[gK,sO];omega);obtain⟨x0,x1⟩:=HA.o.cur.cells;by_cases hlt:i<N
   · have hii:(i:Int)<(N:Int):=by omega
     have HN:=ae (afi N i hlt);have hln:w.heap.size+1<wr.heap.size:=HA.o.cur.lt;have xy:=ae ((ai wr.heap.size wr).alloc (ah _) (.cells #[.int .i64 (i:Int)] 3));have Eg:=ae (HA.o.next xy.o);go_wp2_with (at_builtin;refine BU Elem.pl (aK .i64) rfl (.tmp 17) (.tmp 19) rfl w2.heap.size _ ((fH N).take i) rfl Eg.o.own ⟨_,0,none⟩ 1 1 [(i:Int)] rfl rfl ?_ ?_ ?_ ?_ ?_;exact gQ _ _ _ rfl;(rw[y7.o];omega);(rw[y7.o];unfold maxLen;omega);(have h1:=xy.o.size;have h2:=HA.o.gr.size;omega);intro v5 w5 h1 h2 _;obtain⟨A5,c5,hv5⟩:=Ac h1;simp only[ak,fK,y7.o]at hv5;subst hv5;have vo:=ae h1;have Vx:=ae h2;obtain⟨m0,m1⟩:=(Eg.o.Jv h2).bH;obtain⟨z0,z1⟩:=(Eg.o.Jv h2).cells;clear h1 h2)
     clear m0 m1 z0 z1 x0 x1
     go_roundw
     case rel=>exact⟨i+1,A5,c5,by omega,by go_num,ae (by have h1:=vo.o;rw[HN.o]at h1;exact Eg.o.push h1 Vx.o)⟩
     case measure=>simp[intOf];omega
   · have hii:¬ (i:Int)<(N:Int):=by omega
     have hin:i=N:=by omega
     subst hin;have HP:=ae (HA.o.other bD.o (by omega));obtain⟨y0,y1⟩:=HP.o.cells;obtain⟨m0,m1⟩:=HP.o.bH;go_wp2_with fail
     have J5:(fH i).take i=fH i:=pW (by rw[sO];exact ah _);have ho:=HA.o.own;rw[J5,q9.o]at ho;refine bodyPost_ret (Ab (HP.o.nQ (.slice A1 i c1) (i:Int)) _ _ 2 aeP rfl) rfl ⟨_,rfl, ?_,zh (HA.o.iQ HB.o (by omega) (by have:=q9.o;omega)) (ah _) _ _⟩;exact(ho.keep (fun g h1 _ _=>zB _ _ _ _ _ (by omega))).mono (by omega)
theorem DC {w w':World}{xs:List Int}{n:Nat}{nw:Int}{e:Ending}(h:EJ w w' xs nw e)(hl:xs.length=n):∃D d,e = .returned (.agg #[.slice D n d,.int .i64 nw])∧IR w' w'.heap.size D n d xs∧Below w.heap.size w w':=by
 obtain⟨v,he,h1,h2⟩:=h;obtain⟨D,d,hv⟩:=Ac h1;have hi:=h1.se;rw[hl]at hv;subst hv;exact⟨D,d,he,hi,h2⟩
theorem Own.LZ {α : Type}{E:Enc α 1}{e:TypeId}{w:World}{lo g n cap:Nat}{xs:List α}(h:Own E e w lo (.slice (Option.some ⟨g,0,none⟩) n cap) xs)(i:Nat)(x : α)(u:Value)(hu:E.f x=[u]):Own E e (w.setCell ⟨g,i,none⟩ u) lo (.slice (Option.some ⟨g,0,none⟩) n cap) (xs.set i x):=by
 obtain⟨h1,h2⟩:=h;refine⟨by rw[E.lU], ?_⟩;rcases h2 with ⟨h3,_⟩|⟨g',oZ,cur,h3,h4,h5,h6,h7,h8,h9⟩
 · cases h3
 · injection h3 with h3 h3' Zh
   injection h3 with h3;injection h3 with h3;subst h3;refine .inr ⟨g,oZ,_, ?_,h4,heap_setCell_same w g i cur e u h5, ?_,h7,by rw[Array.size_setIfInBounds];exact h8, ?_⟩
   · rw[List.length_set, ← h3', ← Zh]
   · rw[List.length_set];exact h6
   · rw[List.length_set,Xc E xs i x u hu, ← h9,Array.toList_setIfInBounds,List.take_set]
theorem KN (f:Nat→Int)(n i:Nat)(x:Int):((List.range n).map f).set i x=(List.range n).map fun j=>if j=i then x else f j:=by
 apply List.ext_getElem?;intro j;rw[List.getElem?_set,iw,fw,List.length_range,iw];by_cases hj:j<n
 · rw[List.getElem?_range hj]
   by_cases hij:i=j
   · subst hij;rw[if_pos rfl,if_pos hj,Option.map_some,if_pos rfl]
   · rw[if_neg hij,Option.map_some,Option.map_some,if_neg (fun e=>hij e.symm)]
 · rw[List.getElem?_eq_none (by simp;omega)]
   by_cases hij:i=j
   · subst hij;rw[if_pos rfl,if_neg hj];rfl
   · rw[if_neg hij];rfl
theorem Rv (f:Nat→Int)(n i:Nat)(h:i<n):((List.range n).map f).getD i 0=f i:=by
 rw[jG,iw,List.getElem?_range h];rfl
theorem Br{f g:Nat→Int}{n:Nat}(h:∀j,j<n→f j=g j):(List.range n).map f=(List.range n).map g:=List.map_congr_left fun j hj=>h j (List.mem_range.1 hj)
def sK(a i j:Nat):Int:=if j<a then (j:Int)else if j<i then (j:Int)+1 else (j:Int)
theorem aaI (a n:Nat):fH n=(List.range n).map (sK a a):=by
 unfold fH;apply Br;intro j _;unfold sK;split
 · rfl
 · rfl
theorem aaH (a i n:Nat)(h:a≤i):((List.range n).map (sK a i)).set i ((i:Int)+1)=(List.range n).map (sK a (i+1)):=by
 rw[KN];apply Br;intro j _;unfold sK;by_cases hj:j=i
 · subst hj;rw[if_pos rfl,if_neg (by omega),if_pos (by omega)]
 · rw [if_neg hj]
   by_cases h1:j<a
   · rw[if_pos h1,if_pos h1]
   · rw[if_neg h1,if_neg h1]
     by_cases h2:j<i
     · rw[if_pos h2,if_pos (by omega)]
     · rw[if_neg h2,if_neg (by omega)]
theorem aaG (a n:Nat):(List.range n).map (sK a n)=FO n a:=by
 unfold FO;apply Br;intro j hj;unfold sK;by_cases h1:j<a
 · rw[if_pos h1,if_pos (by omega)]
 · rw[if_neg h1,if_pos hj,if_neg (by omega)]
structure om (w0 w:World)(q p:Nat)(A:Option Addr)(N c:Nat)(k:Int)(xs:List Int):Prop where
 o:dh 30 w q (.slice none 0 0) 0
 cur:dh 30 w p (.slice A N c) k
 own:Own (aK .i64) 3 w (q+1) (.slice A N c) xs
 row:∀g,A=Option.some ⟨g,0,none⟩→g<p
 iQ:Below q w0 w
 Gw:q<p
theorem om.set {w0 w:World}{q p g:Nat}{N c:Nat}{k:Int}{xs:List Int}(h:om w0 w q p (Option.some ⟨g,0,none⟩) N c k xs)(i:Nat)(x:Int):om w0 (w.setCell ⟨g,i,none⟩ (.int .i64 x)) q p (Option.some ⟨g,0,none⟩) N c k (xs.set i x):=by
 have hg:=h.row g rfl;have hl:=(h.own.lies (g:=g) rfl).1;exact⟨h.o.other _ _ (by show q≠g;omega),h.cur.other _ _ (by show p≠g;omega),h.own.LZ i x _ rfl,h.row,h.iQ.setCell (by show q≤g;omega) _,h.Gw⟩
theorem om.TU {w0 w:World}{q p:Nat}{A:Option Addr}{N c:Nat}{k:Int}{xs:List Int}(h:om w0 w q p A N c k xs)(m:Int):om w0 (w.setCell ⟨p,1,none⟩ (.int .i64 m)) q p A N c m xs :=
 ⟨h.o.other _ _ (by show q≠p;have:=h.Gw;omega),h.cur.Dz m,h.own.keep (fun g h1 h2 h3=>heap_setCell_other w _ g _ (by
  show g≠p;rcases h.own.shape with ⟨h4,_⟩|⟨g',c',h4,_⟩
  · rw[h4]at h3;cases h3
  · injection h4 with h4
    have:=h.row g' h4;rw[h4]at h3;have:g'=g:=dU h3;omega)),h.row,h.iQ.setCell (by show q≤p;have:=h.Gw;omega) _,h.Gw⟩
theorem LD:Tryz.f11.results=#[.cell 4 30]:=by kernel_rfl
theorem om.start {w w1 w2:World}{A:Option Addr}{N c:Nat}{k:Int}{xs:List Int}(hb:Below w.heap.size w w1)(hp:dh 30 w1 w.heap.size (.slice none 0 0) 0)(ho:Own (aK .i64) 3 w2 w1.heap.size (.slice A N c) xs)(hb2:Below w1.heap.size w1 w2) :
 om w (w2.alloc (.cells #[.slice A N c,.int .i64 k] 30)) w.heap.size w2.heap.size A N c k xs:=by
 have h1:=hp.lt;have h2:=hb2.size;have hn:=rY 30 w2 (.slice A N c) k;refine⟨(hp.over hb2).over hn,dh.new _ _ _ _,(ho.below hn (ah _)).mono (by omega),fun g hg => ?_,(hb.trans (hb2.mono hb.size)).trans (hn.mono (by omega)),by omega⟩;subst hg;exact ho.less rfl
theorem TG (w:World)(n a:Int):Calls Tryz.prog 11 #[.int .i64 n,.int .i64 a] w fun e w'=>EJ w w' (qx n a).1 (qx n a).2 e:=by
 have HB:=ae (rY 30 w (.slice none 0 0) 0);have HP:=ae (dh.new 30 w (.slice none 0 0) 0);have hle:=E8 n;have hs:=fun w=>GN w n
 have hO:qx n a=if a<0∨(cZ n:Int)<a then (fH (cZ n),(cZ n:Int))else (FO (cZ n) a,(cZ n:Int)+1):=rfl
 obtain⟨N,hN⟩:∃N,cZ n=N:=⟨_,rfl⟩;simp only[hN]at hs hO hle;have HS:=ae hs;clear hN hs;by_cases kT:a<0∨(N:Int)<a
 · rw [if_pos kT]at hO
   rw[hO];clear hO;go_enter Tryz.func11,Tryz.ntmps11;go_upto_region 1 with (fail)
   obtain⟨w1,hw1⟩:∃w1,w.alloc (.cells #[.slice none 0 0,.int .i64 0] 30)=w1:=⟨_,rfl⟩;rw[hw1]at HB HP ⊢;clear hw1;go_upto_region 2 with (go_at_call 9;((with_reducible refine(HS.o _).mono ?_);rintro e w2 ⟨v,rfl,h1,h2⟩;have H1:=ae h1;have H2:=ae h2;obtain⟨A,c,hv⟩:=Ac h1;rw[sO]at hv;subst hv;clear h1 h2))
   have HW:=ae (om.start (k:=(N:Int)) HB.o HP.o H1.o H2.o);obtain⟨p,hp⟩:∃p,w2.heap.size=p:=⟨_,rfl⟩;rw[hp]at HW ⊢;obtain⟨w3,hw3⟩:∃w3,w2.alloc (.cells #[.slice A N c,.int .i64 (N:Int)] 30)=w3:=⟨_,rfl⟩;rw[hw3]at HW ⊢;clear hw3 hp;obtain⟨x0,x1⟩:=HW.o.cur.cells;obtain⟨y0,y1⟩:=HW.o.o.cells;obtain⟨m0,m1⟩:=HW.o.o.bH;by_cases h0:a<0
   · go_wp2_with fail
     refine bodyPost_ret (Ab (HW.o.o.nQ (.slice A N c) (N:Int)) _ _ 4 LD rfl) rfl ⟨_,rfl, ?_,zh HW.o.iQ (ah _) _ _⟩;exact(HW.o.own.keep (fun g h1 _ _=>zB _ _ _ _ _ (by omega))).mono (by omega)
   · have h9:(N:Int)<a:=kT.resolve_left h0
     clear kT;go_wp2_with fail
     refine bodyPost_ret (Ab (HW.o.o.nQ (.slice A N c) (N:Int)) _ _ 4 LD rfl) rfl ⟨_,rfl, ?_,zh HW.o.iQ (ah _) _ _⟩;exact(HW.o.own.keep (fun g h1 _ _=>zB _ _ _ _ _ (by omega))).mono (by omega)
 · rw [if_neg kT]at hO
   rw[hO];obtain⟨a0,rfl⟩:∃a0:Nat,a=(a0:Int):=⟨a.toNat,by omega⟩;have h0:¬ (a0:Int)<0:=fun e=>kT (.inl e)
   have h9:¬ (N:Int)<(a0:Int):=fun e=>kT (.inr e)
   clear hO kT;go_enter Tryz.func11,Tryz.ntmps11;go_upto_region 1 with (fail)
   obtain⟨w1,hw1⟩:∃w1,w.alloc (.cells #[.slice none 0 0,.int .i64 0] 30)=w1:=⟨_,rfl⟩;rw[hw1]at HB HP ⊢;clear hw1;go_upto_region 2 with (go_at_call 9;((with_reducible refine(HS.o _).mono ?_);rintro e w2 ⟨v,rfl,h1,h2⟩;have H1:=ae h1;have H2:=ae h2;obtain⟨A,c,hv⟩:=Ac h1;rw[sO]at hv;subst hv;clear h1 h2))
   have HW:=ae (om.start (k:=(N:Int)) HB.o HP.o H1.o H2.o);obtain⟨p,hp⟩:∃p,w2.heap.size=p:=⟨_,rfl⟩;rw[hp]at HW ⊢;obtain⟨w3,hw3⟩:∃w3,w2.alloc (.cells #[.slice A N c,.int .i64 (N:Int)] 30)=w3:=⟨_,rfl⟩;rw[hw3]at HW ⊢;clear hw3 hp;obtain⟨x0,x1⟩:=HW.o.cur.cells;obtain⟨m0,m1⟩:=HW.o.cur.bH;go_upto_region 5 with (fail)
   clear x0 x1 m0 m1;have HW2:=ae (HW.o.TU ((N:Int)+1));obtain⟨w4,hw4⟩:∃w4,w3.setCell ⟨p,1,none⟩ (.int .i64 ((N:Int)+1))=w4:=⟨_,rfl⟩;rw[hw4]at HW2 ⊢;clear hw4;have bY:=ae (show om w w4 w.heap.size p A N c ((N:Int)+1) ((List.range N).map (sK a0 a0))from by rw[← aaI];exact HW2.o);go_wp2_with fail
   go_loopw [6] (fun iv wr=>∃i:Nat,a0≤i∧i≤N∧iv = .int .i64 (i:Int)∧Hid (om w wr w.heap.size p A N c ((N:Int)+1) ((List.range N).map (sK a0 i))))
    (fun iv _=>N - (intOf iv).toNat)
   case atStart=>exact⟨_,ah _,by omega,by first|rfl|trivial|go_num,bY⟩
   case round =>
    obtain⟨i,hai,hi,rfl,HR⟩:=hrel;obtain⟨x0,x1⟩:=HR.o.cur.cells;by_cases hlt:i<N
    · have hii:(i:Int)<(N:Int):=by omega
      have hi0:(0:Int)≤(i:Int):=by omega
      have Ep:=ae (show((List.range N).map (sK a0 i)).length=N from by simp);obtain⟨g,c',hA,_⟩:=HR.o.own.some (by rw[Ep.o];omega);injection hA with hA h2 h3;subst hA;clear h2 h3;have e0:=HR.o.own.vQ i (by rw[Ep.o];exact hlt);rw[Rv _ _ _ hlt]at e0;have hf:sK a0 i i=(i:Int):=by unfold sK;(repeat' split) <;> omega
      rw[hf]at e0;have f0:=HR.o.own.LW.uN i;have HN:=ae (aaH a0 i N hai);clear hf;go_wp2_with fail
      clear e0 f0 x0 x1
      go_roundw
      case rel=>exact⟨i+1,by omega,by omega,by go_num,ae (by rw[← HN.o];exact HR.o.set i ((i:Int)+1))⟩
      case measure=>simp[intOf];omega
    · have hii:¬ (i:Int)<(N:Int):=by omega
      have hin:i=N:=by omega
      subst hin;have HE:=ae (aaG a0 i);obtain⟨y0,y1⟩:=HR.o.o.cells;obtain⟨m0,m1⟩:=HR.o.o.bH;go_wp2_with fail
      have ho:=HR.o.own;rw[HE.o]at ho;refine bodyPost_ret (Ab (HR.o.o.nQ (.slice A i c) ((i:Int)+1)) _ _ 4 LD rfl) rfl ⟨_,rfl, ?_,zh HR.o.iQ (ah _) _ _⟩;exact(ho.keep (fun g h1 _ _=>zB _ _ _ _ _ (by omega))).mono (by omega)
def x8:Sf:=⟨⟨#[65]⟩,false,(qx 3 1).1,(qx 3 1).2,fH (cZ 3),(cZ 3:Int)⟩
theorem YJ:og x8:=⟨⟨by decide +kernel,by decide +kernel,by decide +kernel,Ag _ _ _ (by decide +kernel)⟩,⟨by decide +kernel,by decide +kernel,by decide +kernel,Ag _ _ _ (by decide +kernel)⟩⟩
theorem afz (w:World)(x:bu)(h:mq w w.heap.size x):mW (w.alloc (.cells (gI x) 33)) (w.heap.size+1) (.slice (some ⟨w.heap.size,0,none⟩) 1 1) [x]:=by
 have hb:Below w.heap.size w (w.alloc (.cells (gI x) 33)):=Below.alloc (ai _ _) (ah _) _;refine⟨⟨_,1,rfl,ah 1,by decide,.inr ⟨w.heap.size,0,rfl,by omega,fun j u hj => ?_⟩⟩,fun y hy => ?_⟩
 · have e:CQ.all [x]=(gI x).toList:=by simp[Enc.all,CQ]
   rw[e]at hj;rw[Nat.zero_add];rw[World.cell?_alloc_new];simpa using hj
 · rw[List.mem_singleton.1 hy]
   exact(h.below hb (ah _)).mono (by omega)
def KT (l out own:List Int)(ss:List Sf):Bool:=match fT l with
 | none=>false
 | some ts=>match kY 200 ts with
   | some (.ok ns)=>decide (cB ns=l)&&decide (cB (mF (strOfNums own) ss ns)=out)
   | _=>false
theorem acD:KT [65,50] [65,51] [65] [x8]=true:=by decide +kernel
theorem acC (s own:ByteArray)(h:s.size≤300){l out o:List Int}{ss:List Sf}(hl:sb s=l)(ho:strOfNums o=own)(hs:KT l out o ss=true):∃ns,iB s (.ok ns)∧cB ns=l∧cB (mF own ss ns)=out:=by
 subst hl;subst ho;unfold KT at hs;split at hs
 · cases hs
 · rename_i ts hl
   split at hs
   · rename_i ns hp
     rw[dA,decide_eq_true_iff,decide_eq_true_iff]at hs;exact⟨ns,.inr (.inr ⟨h,ts,200,hl,hp⟩),hs.1,hs.2⟩
   · cases hs
theorem YK:∃ns,iB ⟨#[65,50]⟩ (.ok ns)∧strOfNums (cB ns)=⟨#[65,50]⟩∧BP ⟨#[65]⟩ [x8] ns=⟨#[61,65,51]⟩:=by
 obtain⟨ns,h1,h2,h3⟩:=acC ⟨#[65,50]⟩ ⟨#[65]⟩ (by decide) (by decide:sb ⟨#[65,50]⟩=[65,50]) (by decide +kernel:strOfNums [65]=⟨#[65]⟩) acD;refine⟨ns,h1,by rw[h2];decide +kernel, ?_⟩;unfold BP;rw[h3];decide +kernel
theorem agS (w:World)(hx:nG w)(x:bu)(A:Option Addr)(c:Nat)(hv:mW w w.heap.size (.slice A 1 c) [x])(hs:x.s=x8) :
 Calls Tryz.prog 12 #[.string ⟨#[61,65,50]⟩,.string ⟨#[65]⟩,.slice A 1 c] w fun e w'=>e = .returned (.string ⟨#[61,65,51]⟩)∧Below w.heap.size w w':=by
 obtain⟨ns,h1,h2,h3⟩:=YK;have:=RV w ⟨#[61,65,50]⟩ ⟨#[65,50]⟩ ⟨#[65]⟩ [x] A 1 c hx hv (by decide) (fun y hy=>by rw[List.mem_singleton.1 hy,hs];exact YJ) (by decide) (by decide) (by decide) (by decide +kernel) (by decide +kernel) ns h1 h2;rwa[show jq [x]=[x8]by unfold jq;rw[jr,hs];rfl,h3]at this
theorem agT (w:World)(hx:nG w)(D D2:Option Addr)(d d2:Nat)(h1:IR w w.heap.size D 3 d (qx 3 1).1)(h2:IR w w.heap.size D2 3 d2 (fH (cZ 3))) :
 Calls Tryz.prog 12 #[.string ⟨#[61,65,50]⟩,.string ⟨#[65]⟩,.slice (some ⟨w.heap.size,0,none⟩) 1 1] (w.alloc (.cells #[.string ⟨#[65]⟩,.slice D 3 d,.int .i64 (qx 3 1).2,.slice D2 3 d2,.int .i64 (cZ 3:Int),.bool false] 33)) fun e w'=>e = .returned (.string ⟨#[61,65,51]⟩)∧Below w.heap.size w w':=by
 have hs:=afz w ⟨x8,D,d,D2,d2,by decide⟩ ⟨h1,h2⟩;have hb:Below w.heap.size w (w.alloc (.cells (gI ⟨x8,D,d,D2,d2,by decide⟩) 33)):=Below.alloc (ai _ _) (ah _) _;have:=agS _ (hx.below hb) ⟨x8,D,d,D2,d2,by decide⟩ _ _ (hs.mono (by rw[kK];exact ah _)) rfl;exact this.mono fun e w' h=>⟨h.1,hb.trans (h.2.mono hb.size)⟩
theorem Oo (w:World)(hx:nG w) :
 Calls Tryz.prog 5 #[] w fun e w'=>e = .returned (.bool true)∧Below w.heap.size w w':=by
 have HI:=ae ((TG w 3 1).mono fun e w1 h=>DC (n:=3) h rfl);have Wt:=ae (fun (w1:World)=>(GN w1 3).mono fun e w2 h=>DC (n:=3) h rfl);have HT:=ae (fun (wq:World)(hq:Below w.heap.size w wq)=>agT wq (hx.below hq));clear hx;go_enter Tryz.func5,Tryz.ntmps5
 go_wp2_with (first
  | (go_at_call 11;((with_reducible refine HI.o.mono ?_);rintro e w1 ⟨D,d,rfl,hr,hq⟩;have H1:=ae hq;have HR1:=ae hr;clear hq hr))
  | (go_at_call 9;((with_reducible refine(Wt.o _).mono ?_);rintro e w2 ⟨D2,d2,rfl,hr,hq⟩;have H2:=ae hq;have HR2:=ae hr;clear hq hr))
  | (go_at_call 12;((with_reducible refine(HT.o _ (H1.o.trans (H2.o.mono H1.o.size)) _ _ _ _ ((HR1.o.below H2.o (ah _)).mono H2.o.size) HR2.o).mono ?_);rintro e w4 ⟨rfl,hq⟩;have H4:=ae ((H1.o.trans (H2.o.mono H1.o.size)).trans (hq.mono (H1.o.trans (H2.o.mono H1.o.size)).size));clear hq)))
 go_ret;exact⟨rfl,H4.o⟩
def tZ(xs:List Int)(nw:Int):Prop:=∃n:Nat,xs=fH n∧nw=(n:Int)
theorem tZ.img {xs:List Int}{nw:Int}(h:tZ xs nw)(i:Int)(h0:0≤i):lC xs nw i=i:=by
 obtain⟨n,rfl,rfl⟩:=h;obtain⟨k,rfl⟩:∃k:Nat,i=(k:Int):=⟨i.toNat,by omega⟩;by_cases hk:k<n
 · rw[Bl _ _ _ (by rw[sO];exact hk),afh n k hk]
 · rw[Dp _ _ _ h0 (by rw[sO];omega),sO];omega
theorem tZ.gone {xs:List Int}{nw:Int}(h:tZ xs nw)(i:Nat):kD xs i=false:=by
 obtain⟨n,rfl,rfl⟩:=h;unfold kD fH;rw[decide_eq_false];intro e;rw[iw]at e;cases hq:(List.range n)[i]? with
 | none=>rw[hq]at e;cases e
 | some q =>
   rw[hq]at e;injection e with e;have e:(q:Int) = -1:=e;omega
theorem YY {xs:List Int}{nw:Int}(h:tZ xs nw)(n lo:Nat):jJ xs n lo=lo:=by
 cases n with
 | zero=>rfl
 | succ n=>unfold jJ;rw[h.gone];rfl
theorem abl {xs:List Int}{nw:Int}(h:tZ xs nw)(n hi:Nat):nu xs n hi=hi:=by
 cases n with
 | zero=>rfl
 | succ n=>unfold nu;rw[h.gone];rfl
theorem tZ.span {xs:List Int}{nw:Int}(h:tZ xs nw)(lo hi:Int)(h0:0≤lo)(h1:lo≤hi):j5 xs nw lo hi=(lo,hi,true):=by
 obtain⟨a,rfl⟩:∃a:Nat,lo=(a:Int):=⟨lo.toNat,by omega⟩;obtain⟨b,rfl⟩:∃b:Nat,hi=(b:Int):=⟨hi.toNat,by omega⟩;unfold j5;rw[if_neg (by omega),YY h,if_neg (by omega),abl h];rw[h.img _ (by omega),h.img _ (by omega)];simp
structure Od (n:Nd):Prop where
 one:n.kind=5→bO n.ref=true
 two:n.kind=6→bO n.ref=true∧bO n.af=true∧n.ref.c≤n.af.c∧n.ref.r≤n.af.r
theorem RY (own:ByteArray)(ss:List Sf)(n:Nd)(h:∀s∈ss,s.sh≠oH own n):jN own ss n=n:=by
 unfold jN;by_cases hk:¬ n.kind=5∧¬ n.kind=6
 · rw[if_pos hk]
 · rw[if_neg hk]
   cases hf:zn ss (oH own n)with
   | none=>rfl
   | some s=>exact absurd (Fg hf).2 (h s (Fg hf).1)
theorem Ga (n:Int):xM (fH (cZ n)) (cZ n:Int):=by
 have h:=E8 n;refine⟨by rw[sO];omega,by omega,by omega, ?_⟩;refine⟨fun i x hx _ => ?_,fun i j x y hij hx hy _ _ => ?_⟩
 · obtain ⟨k,hk,rfl⟩:∃k:Nat,k<cZ n∧x=(k:Int):=by
    unfold fH at hx;rw[iw]at hx;cases hq:(List.range (cZ n))[i]? with
    | none=>rw[hq]at hx;cases hx
    | some q=>rw[hq]at hx;injection hx with hx;exact⟨q,by have:=fu hq;rwa[List.mem_range]at this,hx.symm⟩
   omega
 · have hn:∀(i:Nat)(x:Int),(fH (cZ n))[i]? = some x→x=(i:Int):=by
    intro i x hx;unfold fH at hx;rw[iw]at hx;cases hq:(List.range (cZ n))[i]? with
    | none=>rw[hq]at hx;cases hx
    | some q =>
      rw[hq]at hx;injection hx with hx;have h1:=(dW.1 hq);obtain⟨h2,h3⟩:=h1;rw[List.getElem_range]at h3;rw[← hx, ← h3]
   rw[hn i x hx,hn j y hy];omega
theorem gm.push {l:List Nd}{st ks:List Int}{n:Nd}(h:gm 0 l (st++ks))(hn:bX n=true)(hk:n.kids=ks):gm 0 (l++[n]) (st++[(l.length:Int)]):=by
 intro s rest;subst hk;rw[bG,h];show mI (s++(st++n.kids)) (0+l.length) (n :: rest)=_;rw[mJ, ← bG];have e1:((s++st)++n.kids).length - n.kids.length=(s++st).length:=by rw[ak];omega
 rw[hn,e1,List.drop_left,List.take_left,decide_eq_true (show n.kids.length≤((s++st)++n.kids).length by rw[ak];omega),decide_eq_true rfl,Bool.true_and,Bool.true_and,Bool.true_and,ak,Nat.zero_add,Nat.zero_add,bG];rfl
def yE(m:Nat):ByteArray:=if m / 8 % 3=2 then ⟨#[84]⟩else ⟨#[]⟩
def BJ(m:Nat):bC:=⟨yE m,((m / 16 % 5:Nat):Int),((m / 8 % 7:Nat):Int),decide (128<m),false⟩
def DL(m:Nat):bC:=⟨⟨#[]⟩,((m / 16 % 3:Nat):Int),((m / 8 % 4:Nat):Int),false,false⟩
def DN(m:Nat):bC:=⟨⟨#[]⟩,((1+m / 16:Nat):Int),((2+m / 8:Nat):Int),false,false⟩
def wh(m:Nat):ByteArray:=strOfNums (97 :: 34 :: aQ m)
def fI (m k:Nat):Nat :=
 if m % 3=0∧2≤k then 2 else if m % 16=1∧1≤k then 1 else if m % 16=2 then min k (m / 16 % 4)else 0
def jD (m k:Nat)(ks:List Int):Nd :=
 if m % 3=0∧2≤k then { Nd.zero with kind:=9+((m / 3 % 11:Nat):Int),kids:=ks }
 else if m % 16=1∧1≤k then { Nd.zero with kind:=8,kids:=ks }
 else if m % 16=2 then { Nd.zero with kind:=7,text:=⟨#[83,85,77]⟩,kids:=ks }
 else if m % 8=4 then { Nd.zero with kind:=5,ref:=BJ m }
 else if m % 8=5 then { Nd.zero with kind:=6,ref:=DL m,af:=DN m }
 else if m % 32=7 then { Nd.zero with kind:=2,text:=wh m }
 else if m % 32=10 then { Nd.zero with kind:=3,num:=((m / 32 % 2:Nat):Int) }
 else if m % 32=11 then { Nd.zero with kind:=4 }
 else { Nd.zero with kind:=1,num:=(m:Int) }
theorem aeS:∀m<256,bO (BJ m)=true:=by decide +kernel
theorem aeT:∀m<256,bO (DL m)=true∧bO (DN m)=true∧eD (DL m) (DN m)=true:=by decide +kernel
theorem agB:jy ⟨#[83,85,77]⟩=true:=by decide +kernel
theorem U0 (m:Nat):Bytes (97 :: 34 :: aQ m):=by
 intro x hx;rcases List.mem_cons.1 hx with rfl|hx
 · omega
 · rcases List.mem_cons.1 hx with rfl|hx
   · omega
   · have:=iT (qy m x hx);omega
theorem ahm (m:Nat):lI (sb (wh m))=true:=by
 unfold wh;rw[jd _ (U0 m)];refine decide_eq_true ?_;intro x hx;rcases List.mem_cons.1 hx with rfl|hx
 · omega
 · rcases List.mem_cons.1 hx with rfl|hx
   · omega
   · have:=iT (qy m x hx);omega
theorem acX (k:Nat):bX { Nd.zero with kind:=3,num:=((k % 2:Nat):Int) }=true:=by
 rcases Nat.mod_two_eq_zero_or_one k with h|h <;> rw[h] <;> decide
theorem acY:bX { Nd.zero with kind:=4 }=true:=by decide
theorem R9 (m k:Nat)(ks:List Int)(hm:m<256)(hk:ks.length=fI m k):bX (jD m k ks)=true∧(jD m k ks).kids=ks:=by
 unfold jD;unfold fI at hk;by_cases c1:m % 3=0∧2≤k
 · rw[if_pos c1]at hk ⊢
   match ks,hk with
   | [a,b],_=>exact⟨K5 (by omega),rfl⟩
 rw[if_neg c1]at hk ⊢;by_cases c2:m % 16=1∧1≤k
 · rw[if_pos c2]at hk ⊢
   match ks,hk with
   | [a],_=>exact⟨Sd a,rfl⟩
 rw[if_neg c2]at hk ⊢;by_cases c3:m % 16=2
 · rw[if_pos c3];exact⟨Sc agB,rfl⟩
 rw[if_neg c3]at hk ⊢;obtain rfl:=kg hk;by_cases c4:m % 8=4
 · rw[if_pos c4];exact⟨K7 (aeS m hm),rfl⟩
 rw[if_neg c4];by_cases c5:m % 8=5
 · rw[if_pos c5];obtain⟨h1,h2,h3⟩:=aeT m hm;exact⟨K6 h1 h2 h3,rfl⟩
 rw[if_neg c5];by_cases c6:m % 32=7
 · rw[if_pos c6];exact⟨Si (ahm m),rfl⟩
 rw[if_neg c6];by_cases c7:m % 32=10
 · rw[if_pos c7];exact⟨acX _,rfl⟩
 rw[if_neg c7];by_cases c8:m % 32=11
 · rw[if_pos c8];exact⟨acY,rfl⟩
 rw[if_neg c8];exact⟨Sg (by omega),rfl⟩
def Dw(m:Nat):Nd:={ Nd.zero with kind:=6,ref:=DL m,af:=DN m }
def KV(u v x y:Int):Nd:={ Nd.zero with kind:=6,ref:=⟨⟨#[]⟩,u,v,false,false⟩,af:=⟨⟨#[]⟩,x,y,false,false⟩ }
def wX (m:Nat):Nd :=
 if m % 8=4 then { Nd.zero with kind:=5,ref:=BJ m }
 else if m % 8=5 then Dw m
 else if m % 32=7 then { Nd.zero with kind:=2,text:=wh m }
 else if m % 32=10 then { Nd.zero with kind:=3,num:=((m / 32 % 2:Nat):Int) }
 else if m % 32=11 then { Nd.zero with kind:=4 }
 else { Nd.zero with kind:=1,num:=(m:Int) }
theorem ac0 {m k:Nat}(h3:¬ (m % 3=0∧2≤k))(h1:¬ (m % 16=1∧1≤k))(h2:¬ m % 16=2)(ks:List Int):jD m k ks=wX m:=by
 unfold jD wX Dw;rw[if_neg h3,if_neg h1,if_neg h2]
def EP(n:Nd):Prop:=n.num≤255∧n.text.size≤300∧n.ref.sh.size≤1∧n.af.sh.size≤1
theorem afO(m:Nat):(yE m).size≤1:=by unfold yE;split <;> decide
theorem U1 (m:Nat)(h:m<256):(wh m).size≤300:=by
 unfold wh;rw[strOfNums_size,aO,aO];have:=KE m;omega
theorem ac2 (m k:Nat)(ks:List Int)(hm:m<256):EP (jD m k ks):=by
 have e0:(⟨#[]⟩:ByteArray).size=0:=rfl;have e3:(⟨#[83,85,77]⟩:ByteArray).size=3:=rfl;have h1:=afO m;have h2:=U1 m hm;unfold jD
 repeat' split
 all_goals (refine⟨?_, ?_, ?_, ?_⟩ <;> (first|(show(0:Int)≤255;decide)|(show((m / 32 % 2:Nat):Int)≤255;omega)|(show(m:Int)≤255;omega)|exact h2|exact h1|(show(⟨#[]⟩:ByteArray).size≤_;rw[e0];omega)|(show(⟨#[83,85,77]⟩:ByteArray).size≤_;rw[e3];omega)))
def Cc(n:Nd):Prop:=∀x∈sb n.text,x≠40∧x≠41
theorem Pn:Cc Nd.zero:=by
 intro x hx;rw[show sb Nd.zero.text=[]from by decide]at hx;cases hx
theorem acZ (m k:Nat)(ks:List Int):Cc (jD m k ks):=by
 have h0:∀x∈sb (⟨#[]⟩:ByteArray),x≠40∧x≠41:=Pn;have h1:∀x∈sb (⟨#[83,85,77]⟩:ByteArray),x≠40∧x≠41:=by decide
 have h2:∀x∈sb (wh m),x≠40∧x≠41:=by
  unfold wh;rw[jd _ (U0 m)];intro x hx;rcases List.mem_cons.1 hx with rfl|hx
  · omega
  · rcases List.mem_cons.1 hx with rfl|hx
    · omega
    · have:=iT (qy m x hx);omega
 unfold jD
 repeat' split
 all_goals (first|exact h0|exact h1|exact h2)
def EN(n:Nd):Prop:=(n.ref.sh=⟨#[]⟩∨n.ref.sh=⟨#[84]⟩)∧n.ref.r≤40∧n.af.r≤40
theorem ac1 (m k:Nat)(ks:List Int)(hm:m<256):EN (jD m k ks):=by
 have h1:yE m=⟨#[]⟩∨yE m=⟨#[84]⟩:=by unfold yE;split <;> simp
 have h0:(0:Int)≤40:=by decide
 have h2:((m / 8 % 7:Nat):Int)≤40:=by omega
 have h3:((m / 8 % 4:Nat):Int)≤40:=by omega
 have h4:((2+m / 8:Nat):Int)≤40:=by omega
 unfold jD
 repeat' split
 all_goals (first|exact⟨.inl rfl,h0,h0⟩|exact⟨h1,h2,h0⟩|exact⟨.inl rfl,h3,h4⟩)
structure kz (l:List Nd)(st:List Int):Prop where
 SF:gm 0 l st
 tiny:∀n∈l,EP n
 few:st.length≤l.length
 some:l≠[]→st≠[]
 free:∀n∈l,Cc n
 jP:∀n∈l,EN n
theorem kz.nil:kz [] []:=⟨gm.nil 0,by simp,ah _,by simp,by simp,by simp⟩
theorem kz.push {l:List Nd}{st ks:List Int}{n:Nd}(h:kz l (st++ks))(hn:bX n=true)(hk:n.kids=ks)(ht:EP n)(hf:Cc n)(hsh:EN n):kz (l++[n]) (st++[(l.length:Int)]):=by
 refine⟨h.SF.push hn hk, ?_, ?_,by simp, ?_, ?_⟩
 · intro x hx
   rcases List.mem_append.1 hx with hx|hx
   · exact h.tiny x hx
   · rw[List.mem_singleton.1 hx];exact ht
 · have:=h.few
   rw[ak]at this;rw[ak,ak,fK,fK];omega
 · intro x hx
   rcases List.mem_append.1 hx with hx|hx
   · exact h.free x hx
   · rw[List.mem_singleton.1 hx];exact hf
 · intro x hx
   rcases List.mem_append.1 hx with hx|hx
   · exact h.jP x hx
   · rw[List.mem_singleton.1 hx];exact hsh
theorem UD (m k:Nat):fI m k≤k:=by
 unfold fI;split
 · omega
 split
 · omega
 split
 · exact Nat.min_le_left _ _
 · omega
theorem kz.round {l:List Nd}{st:List Int}(m:Nat)(hm:m<256)(h:kz l st) :
 kz (l++[jD m st.length (st.drop (st.length - fI m st.length))]) (st.take (st.length - fI m st.length)++[(l.length:Int)]):=by
 have ht:=UD m st.length;have hl:(st.drop (st.length - fI m st.length)).length=fI m st.length:=by rw[List.length_drop];omega
 obtain⟨h1,h2⟩:=R9 m st.length _ hm hl;have h0:kz l (st.take (st.length - fI m st.length)++st.drop (st.length - fI m st.length)):=by rw[List.take_append_drop];exact h
 exact h0.push h1 h2 (ac2 m _ _ hm) (acZ m _ _) (ac1 m _ _ hm)
def JC(a b:Int):Nd:={ Nd.zero with kind:=15,kids:=[a,b] }
theorem kz.cat {l:List Nd}{st:List Int}{a b:Int}(h:kz l (st++[a,b])):kz (l++[JC a b]) (st++[(l.length:Int)]) :=
 h.push (K5 (by omega)) rfl ⟨show(0:Int)≤255 by decide,show(⟨#[]⟩:ByteArray).size≤300 by decide,show(⟨#[]⟩:ByteArray).size≤1 by decide,show(⟨#[]⟩:ByteArray).size≤1 by decide⟩ Pn ⟨.inl rfl,show(0:Int)≤40 by decide,show(0:Int)≤40 by decide⟩
theorem kz.tree {l:List Nd}{a:Int}(h:kz l [a]):bR l=true:=by
 have:=h.SF [] [];rw[fM]at this;unfold bR;rw[this];rfl
structure ic (w:World)(lo:Nat)(sv k:Value)(ks:List Int):Prop where
 own:Own (aK .i64) 3 w lo k ks
 apart:∀g,k.ownBlock=Option.some g→sv.ownBlock≠Option.some g
theorem ic.nil(w:World)(lo:Nat)(sv:Value):ic w lo sv (.slice none 0 0) []:=⟨Own.nil _ _ _ _,fun _ h=>nomatch h⟩
theorem ic.next{w w':World}{lo:Nat}{sv k:Value}{ks:List Int}(h:ic w lo sv k ks)(hb:Below w.heap.size w w'):ic w' lo sv k ks:=⟨h.own.below hb (ah _),h.apart⟩
theorem ic.grow {w w':World}{lo:Nat}{sv qI k:Value}{ks:List Int}(h:ic w lo sv k ks)(hg:w.grownBy w' sv.ownBlock)(hor:qI.ownBlock=sv.ownBlock∨qI.ownBlock=Option.some w.heap.size):ic w' lo qI k ks:=by
 refine⟨h.own.keep fun g _ hl e=>hg.block g hl (fun e2=>h.apart g e e2.symm),fun g e => ?_⟩;rcases hor with e2|e2
 · rw[e2];exact h.apart g e
 · rw[e2];intro e3;injection e3 with e3;have:=h.own.less e;omega
theorem ic.fresh {w w':World}{lo:Nat}{sv qI k:Value}{ks st':List Int}(h:ic w lo sv k ks)(ho:Own (aK .i64) 3 w' w.heap.size qI st')(hb:Below w.heap.size w w'):ic w' lo qI k ks:=by
 refine⟨h.own.below hb (ah _),fun g e e2 => ?_⟩;have h1:=h.own.less e;have h2:=(ho.lies e2).1;omega
theorem ic.row {w w':World}{lo lo2:Nat}{sv fU k:Value}{ks:List Int}{vs:List az}(h:ic w lo sv k ks)(hn:Own o8 45 w lo2 fU vs)(hg:w.grownBy w' fU.ownBlock):ic w' lo sv k ks :=
 ⟨h.own.keep fun g _ hl e=>hg.block g hl (h.own.EW hn (by decide) e),h.apart⟩
theorem ic.nv {w:World}{lo:Nat}{sv k:Value}{ks:List Int}(h:ic w lo sv k ks)(n:Nd)(hn:n.kids=ks):∃v:az,v.n=n∧v.aS=k:=by
 subst hn;rcases h.own.shape with ⟨h1,_⟩|⟨g,c,h1,_⟩
 · exact⟨⟨n,none⟩,rfl,h1.symm⟩
 · exact⟨⟨n,Option.some (g,c)⟩,rfl,h1.symm⟩
structure iZ (w0 w:World)(fU sv:Value)(vs:List az)(st:List Int):Prop where
 nodes:Own o8 45 w w0.heap.size fU vs
 kids:∀v∈vs,ic w w0.heap.size sv v.aS v.n.kids
 je:Own (aK .i64) 3 w w0.heap.size sv st
 iQ:Below w0.heap.size w0 w
theorem iZ.nil(w:World):iZ w w (.slice none 0 0) (.slice none 0 0) [] []:=⟨Own.nil _ _ _ _,fun v hv=>absurd hv (by simp),Own.nil _ _ _ _,ai _ _⟩
theorem iZ.acV{w0 w:World}{fU sv:Value}{vs:List az}{st:List Int}(h:iZ w0 w fU sv vs st):jI w w0.heap.size fU vs:=⟨h.nodes,fun v hv=>(h.kids v hv).own⟩
theorem iZ.next {w0 w w':World}{fU sv:Value}{vs:List az}{st:List Int}(h:iZ w0 w fU sv vs st)(hb:Below w.heap.size w w'):iZ w0 w' fU sv vs st :=
 ⟨h.nodes.below hb (ah _),fun v hv=>(h.kids v hv).next hb,h.je.below hb (ah _),h.iQ.trans (hb.mono h.iQ.size)⟩
theorem iZ.drew{w0 w:World}{fU sv:Value}{vs:List az}{st:List Int}(h:iZ w0 w fU sv vs st):iZ w0 w.drew fU sv vs st:=h.next (Below.drew (ai _ _))
theorem KS {w0 w w':World}{r:Option Nat}(h:Below w0.heap.size w0 w)(hg:w.grownBy w' r)(hr:∀g,r=Option.some g→w0.heap.size≤g):Below w0.heap.size w0 w' :=
 h.grown hg h.size hr
theorem iZ.push {w0 w w':World}{fU sv qI:Value}{vs:List az}{st st':List Int}(h:iZ w0 w fU sv vs st)(ho:Own (aK .i64) 3 w' w0.heap.size qI st')(hg:w.grownBy w' sv.ownBlock)(hor:qI.ownBlock=sv.ownBlock∨qI.ownBlock=Option.some w.heap.size):iZ w0 w' fU qI vs st' :=
 ⟨h.nodes.keep fun g _ hl e=>hg.block g hl (h.nodes.EW h.je (by decide) e),fun v hv=>(h.kids v hv).grow hg hor,ho,KS h.iQ hg (fun g e=>(h.je.lies e).1)⟩
theorem iZ.fresh {w0 w w':World}{fU sv qI:Value}{vs:List az}{st st':List Int}(h:iZ w0 w fU sv vs st)(ho:Own (aK .i64) 3 w' w.heap.size qI st')(hb:Below w.heap.size w w'):iZ w0 w' fU qI vs st' :=
 ⟨h.nodes.below hb (ah _),fun v hv=>(h.kids v hv).fresh ho hb,ho.mono h.iQ.size,h.iQ.trans (hb.mono h.iQ.size)⟩
theorem iZ.node {w0 w w':World}{fU Rs sv:Value}{vs:List az}{st:List Int}(h:iZ w0 w fU sv vs st)(v:az)(hk:ic w w0.heap.size sv v.aS v.n.kids)(ho:Own o8 45 w' w0.heap.size Rs (vs++[v]))(hg:w.grownBy w' fU.ownBlock):iZ w0 w' Rs sv (vs++[v]) st:=by
 refine⟨ho,fun u hu => ?_,h.je.keep fun g _ hl e=>hg.block g hl (h.je.EW h.nodes (by decide) e),KS h.iQ hg (fun g e=>(h.nodes.lies e).1)⟩;rcases List.mem_append.1 hu with hu|hu
 · exact(h.kids u hu).row h.nodes hg
 · rw[List.mem_singleton.1 hu];exact hk.row h.nodes hg
theorem ax.grow {w w':World}{z lo:Nat}{n:Nd}{k sv:Value}{st:List Int}(h:ax w z n k)(ho:Own (aK .i64) 3 w lo sv st)(hg:w.grownBy w' sv.ownBlock):ax w' z n k:=by
 unfold ax
 rw [hg.block z h.lt (fun e=>by
  obtain⟨_,cur,h2⟩:=ho.lies e.symm;rw[show w.heap[z]? = _ from h]at h2;injection h2 with h2;injection h2 with _ h2;exact absurd h2 (by decide))]
 exact h
theorem Own.RP {w:World}{t:TypeId}{base n c:Nat}{A:Option Addr}{st:List Int}(h:Own (aK .i64) t w base (.slice A n c) st)(f:Nat):(A=none→n=0)∧∀b,A=Option.some b→∀(j:Nat)(u:Value),((aK .i64).all (st.take f))[j]? = Option.some u→w.cell? (b.add j)=Option.some u:=by
 rcases h.shape with ⟨h1,_⟩|⟨g,cap,h1,_⟩
 · injection h1 with h1 h2
   exact⟨fun _=>h2,fun b hb=>by rw[h1]at hb;cases hb⟩
 · injection h1 with h1 h2
   subst h1;refine⟨(fun e=>nomatch e),fun b hb j u hu => ?_⟩;injection hb with hb;subst hb;rw[Addr.add_mid,Nat.zero_add];refine h.cells j u ?_;rw[vE,iw]at hu ⊢;rw[List.getElem?_take]at hu;split at hu
   · exact hu
   · cases hu
structure WO (w0 w:World)(fU sv:Value)(vs:List az)(st:List Int)(z m:Nat)(sk:Value):Prop where
 held:iZ w0 w fU sv vs st
 node:∃aS,ax w z (jD m st.length (st.drop (st.length - fI m st.length))) aS∧ic w w0.heap.size sv aS (st.drop (st.length - fI m st.length))
 view:(sk=sv∧fI m st.length=0)∨∃A c,sv = .slice A st.length c∧sk = .slice A (st.length - fI m st.length) (st.length - fI m st.length)
theorem abd(m k:Nat)(ks:List Int)(hm:m<256)(hk:ks.length=fI m k):(jD m k ks).kids=ks:=(R9 m k ks hm hk).2
theorem KW {w:World}{z:Nat}{n:Nd}{k:Value}(hn:ax w z n k){lo:Nat}{v:Value}{xs:List Int}(h:Own (aK .i64) 3 w lo v xs){g:Nat}(e:v.ownBlock=Option.some g):Option.some g≠Option.some z:=by
 intro e2;injection e2 with e2;subst e2;obtain⟨_,cur,h3⟩:=h.lies e;rw[show w.heap[g]? = _ from hn]at h3;injection h3 with h3;injection h3 with _ h3;exact absurd h3 (by decide)
theorem ic.over {w w':World}{z lo:Nat}{n:Nd}{k sv aS:Value}{ks:List Int}(h:ic w lo sv aS ks)(hn:ax w z n k)(hg:w.grownBy w' (Option.some z)):ic w' lo sv aS ks :=
 ⟨h.own.keep fun _ _ hl e=>hg.block _ hl (KW hn h.own e),h.apart⟩
theorem iZ.over {w0 w w':World}{z:Nat}{n:Nd}{k fU sv:Value}{vs:List az}{st:List Int}(h:iZ w0 w fU sv vs st)(hn:ax w z n k)(hz:fU.ownBlock≠Option.some z)(hlo:w0.heap.size≤z)(hg:w.grownBy w' (Option.some z)):iZ w0 w' fU sv vs st :=
 ⟨h.nodes.keep fun g _ hl e=>hg.block g hl (fun e2=>hz (e.trans e2)),fun v hv=>(h.kids v hv).over hn hg,h.je.keep fun _ _ hl e=>hg.block _ hl (KW hn h.je e),KS h.iQ hg (fun g e=>by injection e with e;omega)⟩
theorem O8 {st:List Int}{k:Nat}(hk:st.length=k)(h2:2≤k):st.drop (k - 2)=[st.getD (k - 2) 0,st.getD (k - 1) 0]:=by
 have e1:k - 2<st.length:=by omega
 have e2:k - 2+1<st.length:=by omega
 rw[List.drop_eq_getElem_cons e1,List.drop_eq_getElem_cons e2,List.drop_of_length_le (by omega)];rw[jG,jG,dm e1,show k - 1=k - 2+1 by omega,dm e2];rfl
theorem drop_one {st:List Int}{k:Nat}(hk:st.length=k)(h1:1≤k):st.drop (k - 1)=[st.getD (k - 1) 0]:=by
 have e1:k - 1<st.length:=by omega
 rw[List.drop_eq_getElem_cons e1,List.drop_of_length_le (by omega)];rw[jG,dm e1];rfl
theorem ic.TI {w:World}{lo:Nat}{sv:Value}{st:List Int}(hlo:lo≤w.heap.size)(hs:Own (aK .i64) 3 w lo sv st)(x y:Int):ic (w.alloc (.cells #[.int .i64 x,.int .i64 y] 3)) lo sv (.slice (some ⟨w.heap.size,0,none⟩) 2 2) [x,y] :=
 ⟨Gq w lo x y hlo,fun g e e2=>by have h1:=hs.less e2;injection e with e;have e:w.heap.size=g:=e;omega⟩
theorem ic.ae1 {w:World}{lo:Nat}{sv:Value}{st:List Int}(hlo:lo≤w.heap.size)(hs:Own (aK .i64) 3 w lo sv st)(x:Int):ic (w.alloc (.cells #[.int .i64 x] 3)) lo sv (.slice (some ⟨w.heap.size,0,none⟩) 1 1) [x] :=
 ⟨Gp w lo x hlo,fun g e e2=>by have h1:=hs.less e2;injection e with e;have e:w.heap.size=g:=e;omega⟩
theorem Sw (w:World)(B:Nat)(hB:B≤w.heap.size):Own (aK .i64) 3 (w.alloc (.cells #[] 3)) B (.slice (some ⟨w.heap.size,0,none⟩) 0 0) ([]:List Int) :=
 Own.made (aK .i64) 3 w B w.heap.size 0 #[] rfl hB (by unfold maxLen;omega) rfl
theorem agp {w:World}{base g cap k f:Nat}{st:List Int}(h:Own (aK .i64) 3 w base (.slice (some ⟨g,0,none⟩) k cap) st)(hk:st.length=k)(hf:f≤k)(hc:k≤cap):Src Tryz.prog 1 28 (.slice (if cap=f then some ⟨g,0,none⟩else some ⟨g,f,none⟩) (k - f) (cap - f)) (k - f) ((aK .i64).all (st.drop f)) w:=by
 have hl:(st.drop f).length=k - f:=by rw[List.length_drop,hk]
 by_cases h0:cap=f
 · have e:k - f=0:=by omega
   have e2:st.drop f=[]:=kg (by omega);rw[if_pos h0,e2,e];exact Src.ofSlice w Tryz.underlying28 _ _ _ _ rfl (fun j u hu=>by simp[Enc.all]at hu) ((aK .i64).xg [])
 · rw[if_neg h0]
   refine Src.ofSlice w Tryz.underlying28 _ _ _ _ (by rw[Enc.lU,hl]) (fun j u hu => ?_) ((aK .i64).xg _);rw[Addr.add_mid];refine Own.cells h (f+j) u ?_;rw[vE,List.map_drop,List.getElem?_drop]at hu;rw[vE];exact hu
theorem ahJ {P:Program}{α : Type}{size t e bytes:Nat}{w:World}{o:Oper}{a:Act}{K:Act→World→Prop}{Q:Exit→Act→World→Prop}(bV:Elem P t e size bytes)(E:Enc α size)
 (hgd:o.guard=none) (s x:Operand) (ho:o.op = .call { callee := .builtin .append,args:=#[s,x],argTypes:=#[t,t] }) (base:Nat) (v:Value) (xs:List α)
 (hs:a.eval s=v) (gW:Own E e w base v xs) (ad:Addr) (m c:Nat) (ys:List α) (hx:a.eval x = .slice (some ad) m c) (hl:ys.length=m)
 (hc:∀(j:Nat)(u:Value),(E.all ys)[j]? = some u→w.cell? (ad.add j)=some u) (hb:(xs.length+m)*bytes≤140737488355328) (hb2:xs.length+m≤maxLen) (jk:base≤w.heap.size)
 (h:∀(v':Value)(w':World),Own E e w' base v' (xs++ys)→w.grownBy w' v.ownBlock→(v'.ownBlock=v.ownBlock∨v'.ownBlock=some w.heap.size)→K (a.put o.dst v') w'):Oper.wp P o a w K Q:=by
 have h1:=Ml (ops:=#[]) (F:=False) (Q:=Q) bV E hgd s x ho base v xs hs gW ad m c ys hx hl hc hb hb2 jk h;have hw:Region.wanted o (yielded #[] a.tmps)=true:=by simp[Region.wanted,hgd]
 rw[if_pos hw]at h1;exact h1
theorem UA (c:Nat):∀ns:List Nd,(∀n∈ns,l6 n≤c)→pO ns≤ns.length*c
 | [],_=>dV _
 | n :: ns,h=>by
   have ih:=UA c ns fun m hm=>h m (List.mem_cons_of_mem _ hm)
   have h1:=h n (by simp);show l6 n+pO ns≤(ns.length+1)*c;rw[Nat.succ_mul];omega
def ED(w:World)(e:Ending)(w':World):Prop:=∃fU sv vs st,e = .returned fU∧iZ w w' fU sv vs st∧kz (vs.map (·.n)) st∧st.length≤1∧vs.length≤80
structure qa (ns:List Nd):Prop where
 few:ns.length≤80
 tiny:∀n∈ns,EP n
 tree:ns≠[]→bR ns=true
 free:∀n∈ns,Cc n
 jP:∀n∈ns,EN n
theorem qa.num{ns:List Nd}(h:qa ns):∀n∈ns,n.num≤9223372036854775807:=fun n hn=>by have:=(h.tiny n hn).1;omega
theorem qa.G7{ns:List Nd}(h:qa ns):∀n∈ns,n.text.size≤1000000∧n.ref.sh.size≤1000000∧n.af.sh.size≤1000000:=fun n hn=>by obtain⟨_,h2,h3,h4⟩:=h.tiny n hn;omega
theorem qa.len {ns:List Nd}(h:qa ns):(cB ns).length≤100000:=by
 by_cases h0:ns=[]
 · subst h0;decide
 · have h1:=SN (h.tree h0) h.num
   have h2:=UA 1000 ns (fun n hn=>by obtain⟨_,h2,h3,h4⟩:=h.tiny n hn;unfold l6;omega);have h3:=h.few;have:ns.length*1000≤80*1000:=Nat.mul_le_mul_right _ h3;omega
theorem ED.made {w w':World}{e:Ending}(h:ED w e w'):Below w.heap.size w w'∧∃A c l,e = .returned (.slice A l.length c)∧eF w' w'.heap.size (.slice A l.length c) l∧qa (l.map (·.1)):=by
 obtain⟨fU,sv,vs,st,he,hm,hi,h1,h80⟩:=h
 have hN:qa (vs.map (·.n)):=⟨by rw[fw];exact h80,hi.tiny,fun hne=>by
  have h2:=hi.some hne
  match st,h2,h1,hi with
  | [],h2,_,_=>exact absurd rfl h2
  | [a],_,_,hi=>exact hi.tree
  | _ :: _ :: _,_,h1,_=>simp at h1,hi.free,hi.jP⟩
 refine⟨hm.iQ, ?_⟩;rcases hm.nodes.shape with ⟨e1,e2⟩|⟨g,cap,e1,_⟩
 · subst e2
   exact⟨none,0,[],by rw[he,e1];rfl,age w',hN⟩
 · have hsn:eF w' w'.heap.size (.slice (some ⟨g,0,none⟩) vs.length cap) (vs.map fun v=>(v.n,v.aS)):=jI.sn (lo:=w.heap.size) (by have:=hm.acV;rwa[e1]at this) rfl
   exact⟨some ⟨g,0,none⟩,cap,vs.map (fun v=>(v.n,v.aS)),by rw[he,e1,fw],by rw[fw];exact hsn,by rw[Mi];exact hN⟩
theorem adQ {ns:List Nd}(ht:bR ns=true)(hm:∀n∈ns,n.num≤9223372036854775807):Bytes (cB ns):=by
 obtain⟨a,ts,rk,d,h1,h2⟩:=He ht hm;rw[BM h1 ht];exact MI ts h2
theorem qa.told {ns:List Nd}(h:qa ns)(hne:ns≠[]):strOfNums (cB ns)≠⟨#[]⟩∧(iB (strOfNums (cB ns)) (.ok ns)∨∃c,iB (strOfNums (cB ns)) (.error c)∧c≠0∧(300<(strOfNums (cB ns)).size∨c=6)):=by
 have ht:=h.tree hne;have hb:=adQ ht h.num;refine⟨fun e => ?_, ?_⟩
 · have h1:=congrArg ByteArray.size e
   rw[strOfNums_size]at h1;exact MF ht h.num (kg h1)
 · by_cases h3:300<(strOfNums (cB ns)).size
   · exact .inr ⟨4,.inl ⟨h3,rfl⟩,by omega,.inl h3⟩
   · obtain⟨vs,g,h1,h2⟩:=ahd ht h.num
     rcases h2 with h2|h2
     · exact .inl (.inr (.inr ⟨by omega,vs,g,by rw[jd _ hb];exact h1,h2⟩))
     · exact .inr ⟨6,.inr (.inr ⟨by omega,vs,g,by rw[jd _ hb];exact h1,h2⟩),by omega,.inr rfl⟩
theorem adB:∃c,iB ⟨#[]⟩ (.error c)∧c≠0:=by
 obtain⟨res,hp⟩:=iB.all ⟨#[]⟩;cases res with
 | error c=>exact⟨c,hp,Oa _ c hp⟩
 | ok ns =>
   obtain⟨⟨_,_,ht⟩,hn,hl,_⟩:=AY _ ns hp;exact absurd (kg (Nat.le_zero.1 hl)) (MF ht hn)
theorem aeF {ns:List Nd}(h:bR ns=true):∀n∈ns,Od n:=by
 intro n hn;have h1:=MG _ [] 0 h n hn;unfold bX at h1;have h2:=(Bool.and_eq_true_iff.1 h1).1;unfold aD at h2;split at h2
 · cases h2
 · refine ⟨fun h5 => ?_,fun h6 => ?_⟩
   · rw[if_neg (by omega),if_neg (by omega),if_neg (by omega),if_neg (by omega),if_pos h5]at h2;exact h2
   · rw[if_neg (by omega),if_neg (by omega),if_neg (by omega),if_neg (by omega),if_neg (by omega),if_pos h6,Bool.and_eq_true_iff,Bool.and_eq_true_iff]at h2
     obtain⟨a1,a2,a3⟩:=h2;unfold eD at a3;rw[Bool.and_eq_true_iff,Bool.and_eq_true_iff,decide_eq_true_iff,decide_eq_true_iff,decide_eq_true_iff]at a3;exact⟨a1,a2,a3.2.1,a3.2.2⟩
def mU (o:Option (ag × Nat))(k:Nat)(w:World)(e:Ending)(w':World):Prop :=
 Below w.heap.size w w'∧((∃t n,o=some (t,n)∧e = .returned (.tuple #[.agg (oM (t.goto k)),.int .i64 (n:Int)]))∨(o=none∧∃t,e = .returned (.tuple #[.agg (oM t),.int .i64 0])))
theorem mX {w w1:World}{g:Nat}(h:Below w.heap.size w w1)(hg:w.heap.size≤g)(v0 v1 v2 v3 v4 v5 v6 v7 v8:Value) :
 Below w.heap.size w (((((((((w1.setCell ⟨g,0,none⟩ v0).setCell ⟨g,1,none⟩ v1).setCell ⟨g,2,none⟩ v2).setCell ⟨g,3,none⟩ v3).setCell ⟨g,4,none⟩ v4).setCell ⟨g,5,none⟩ v5).setCell ⟨g,6,none⟩ v6).setCell ⟨g,7,none⟩ v7).setCell ⟨g,8,none⟩ v8) :=
 ((((((((h.setCell hg _).setCell hg _).setCell hg _).setCell hg _).setCell hg _).setCell hg _).setCell hg _).setCell hg _).setCell hg _
theorem jE {w:World}{b:Nat}{t:ag}(h:aC w b t)(fn:Func)(tmps:Array Value)(n:Int)(p u:Tmp)(hf:fn.results=#[.cell p 71,.tmp u])(hp:tmps.getD p undef = .pointer (some ⟨b,0,none⟩))(hu:tmps.getD u undef = .int .i64 n) :
 (results fn tmps).run Tryz.prog w = .ok (.tuple #[.agg (oM t),.int .i64 n]) w:=by
 rw[results_cell_tmp hf,hp,hu];simp[asAddr,h.load,Result.andThen]
theorem GI:Tryz.f77.results=#[.cell 4 71,.tmp 5]:=by kernel_rfl
structure xP (l:List Int)(m:Nat)(v:Int):Prop where
 val:cK (l.take m)=v
 Bc:∀x∈l.take m,isNum x=true
 pos:0≤v
 max:v≤9223372036854775807
 len:m≤l.length
 head:1<m→l.head? ≠ some 48
theorem ac8(l:List Int):xP l 0 0:=⟨rfl,by simp,by omega,by omega,by omega,by omega⟩
theorem MJ(x:Int):cK [x]=x - 48:=by unfold cK;simp
theorem DZ{l:List Int}{m:Nat}{a:Int}(ha:l[m]? = some a):l.take (m+1)=l.take m++[a]:=by rw[List.take_add_one,ha];rfl
theorem K8{l:List Int}{m:Nat}{v a:Int}(h:xP l m v)(ha:l[m]? = some a):cK (l.take (m+1))=10*v+(a - 48):=by rw[DZ ha,yM,h.val]
theorem ac6 {l:List Int}{m:Nat}{v a:Int}(h:xP l m v)(ha:l[m]? = some a)(hn:isNum a=true)(hb:9223372036854775807<10*v+(a - 48)):kF l=none:=by
 have aX:=qd h.Bc hn;rw[← DZ ha]at aX;have h1:=GX isNum l (m+1) aX;have h2:=Au ((l.drop (m+1)).takeWhile isNum) (l.take (m+1)) (tC isNum _) (by rw[K8 h ha];omega);rw[← h1,K8 h ha]at h2;unfold kF;rw[if_pos (.inr (by omega))]
theorem ac7 {l:List Int}{m:Nat}{a:Int}(h:xP l m 0)(hm:0<m)(ha:l[m]? = some a)(hn:isNum a=true):kF l=none:=by
 have aX:=qd h.Bc hn;rw[← DZ ha]at aX;have h1:=GX isNum l (m+1) aX
 have hlen:1<(l.takeWhile isNum).length:=by
  rw[h1,ak,gK];have:=(dW.1 ha).1;omega
 cases l with
 | nil=>simp at ha
 | cons x r =>
   have hx:=h.Bc x (by rw[show m=(m - 1)+1 by omega,List.take_succ_cons];simp);have hb:=iT hx;have h2:=Au ((x :: r).take m).tail [x] (fun y hy=>h.Bc y (List.mem_of_mem_tail hy)) (by rw[MJ];omega);have e:[x]++((x :: r).take m).tail=(x :: r).take m:=by rw[show m=(m - 1)+1 by omega,List.take_succ_cons];rfl
   rw[e,h.val,MJ]at h2;unfold kF;rw[if_pos (.inl ⟨hlen,by simp;omega⟩)]
theorem Sk {l:List Int}{m:Nat}{v a:Int}(h:xP l m v)(ha:l[m]? = some a)(hn:isNum a=true)(hb:10*v+(a - 48)≤9223372036854775807)(h0:0<m→v≠0):xP l (m+1) (10*v+(a - 48)):=by
 have hbd:=iT hn;have hp:=h.pos;refine⟨K8 h ha, ?_,by omega,hb, ?_, ?_⟩
 · rw[DZ ha];exact qd h.Bc hn
 · have:=(dW.1 ha).1;omega
 · intro hm hh
   by_cases h1:1<m
   · exact h.head h1 hh
   · have hm1:m=1:=by omega
     subst hm1;cases l with
     | nil=>simp at hh
     | cons x r =>
       simp at hh;have:=h.val;rw[List.take_succ_cons,List.take_zero,MJ]at this;exact h0 (by omega) (by omega)
theorem Sj {l:List Int}{m:Nat}{v:Int}(h:xP l m v)(hs:∀x,l[m]? = some x→isNum x=false):kF l=some ({ ag.zero with kind:=1,num:=v },m):=by
 have hsp:=Ak isNum l m h.Bc hs;have hlen:(l.take m).length=m:=by rw[gK];have:=h.len;omega
 unfold kF;rw[hsp,hlen,h.val,if_neg];rintro(⟨h1,h2⟩|h1)
 · exact h.head h1 h2
 · have:=h.max;omega
theorem Tj (s:ByteArray)(k:Nat)(w:World)(_hs:s.size≤1000000)(_hk:k≤s.size) :
 Calls Tryz.prog 77 #[.string s,.int .i64 (k:Int)] w (mU (kF (aA s k)) k w):=by
 have aM:=ae (aC.zero w);go_enter Tryz.func77,Tryz.ntmps77;go_wp2_with fail
 go_loopw [6,7] (fun n p wr=>∃(m:Nat)(v:Int),n = .int .i64 v∧p = .int .i64 ((k+m:Nat):Int)∧k+m≤s.size∧Hid (xP (aA s k) m v)∧w.alloc (.cells jF 71)=wr)
  (fun _ p _=>s.size - (intOf p).toNat)
 case atStart=>exact⟨0,0,rfl,rfl,by omega,ae (ac8 _),rfl⟩
 case round =>
  obtain⟨m,v,rfl,rfl,dn,HN,rfl⟩:=hrel;obtain⟨p,hp⟩:∃p:Nat,k+m=p:=⟨_,rfl⟩;rw[hp];by_cases hlt:p<s.size
  · have kE : (p:Int)<(s.size:Int):=by omega
    obtain⟨a,ha⟩:∃a:Int,(s[p].toNat:Int)=a:=⟨_,rfl⟩;have ha1:0≤a∧a≤255:=by have:=s[p].toNat_lt;omega
    have hat:(aA s k)[m]? = some a:=by subst hp;rw[yC s k m hlt,ha]
    have hv0:=HN.o.pos;have hv1:=HN.o.max;cases hn:isNum a
    · have hN:=Sj HN.o (fun x hx=>by rw[hat]at hx;injection hx with hx;rw[← hx];exact hn)
      clear hat;have lF:=ae hN;clear hN
      go_wp2_with (first
       | (go_at_call 75;((with_reducible refine(iV _ ?_ ?_ _).mono ?_);(first|omega|skip);(first|omega|skip);rintro e w' ⟨rfl,rfl⟩;rw[hn])))
      exact bodyPost_ret (jE (aC.new w (({ ag.zero with kind:=1,num:=v }:ag).goto k)) _ _ ((p:Int) - (k:Int)) 4 5 GI rfl rfl) rfl ⟨(ai _ _).alloc (ah _) _,.inl ⟨_,m,lF.o,by rw[show((p:Int) - (k:Int))=(m:Int)by omega]⟩⟩
    · have hnb:=iT hn
      by_cases qj:(9223372036854775807 - (a - 48)) / 10<v
      · have lF:=ae (ac6 HN.o hat hn (by omega))
        clear hat
        go_wp2_with (first
         | (go_at_call 75;((with_reducible refine(iV _ ?_ ?_ _).mono ?_);(first|omega|skip);(first|omega|skip);rintro e w' ⟨rfl,rfl⟩;rw[hn])))
        exact bodyPost_ret (jE (aC.zero w) _ _ 0 4 5 GI rfl rfl) rfl ⟨(ai _ _).alloc (ah _) _,.inr ⟨lF.o,_,rfl⟩⟩
      · have hsm:10*v+(a - 48)≤9223372036854775807:=by omega
        by_cases hm:0<m
        · have hpk:(k:Int)<(p:Int):=by omega
          by_cases hv:v=0
          · subst hv
            have lF:=ae (ac7 HN.o hm hat hn);clear hat
            go_wp2_with (first
             | (go_at_call 75;((with_reducible refine(iV _ ?_ ?_ _).mono ?_);(first|omega|skip);(first|omega|skip);rintro e w' ⟨rfl,rfl⟩;rw[hn])))
            exact bodyPost_ret (jE (aC.zero w) _ _ 0 4 5 GI rfl rfl) rfl ⟨(ai _ _).alloc (ah _) _,.inr ⟨lF.o,_,rfl⟩⟩
          · have hvb:(v == 0)=false:=beq_eq_false_iff_ne.2 hv
            have dG:=ae (Sk HN.o hat hn hsm (fun _=>hv));clear hat
            go_wp2_with (first
             | (go_at_call 75;((with_reducible refine(iV _ ?_ ?_ _).mono ?_);(first|omega|skip);(first|omega|skip);rintro e w' ⟨rfl,rfl⟩;rw[hn])))
            go_roundw
            case rel=>exact⟨m+1,10*v+(a - 48),rfl,by rw[show((p:Int)+1)=((k+(m+1):Nat):Int)by omega],by omega,dG,by trivial⟩
            case measure=>simp[intOf];omega
        · have hpk:¬ (k:Int)<(p:Int):=by omega
          have dG:=ae (Sk HN.o hat hn hsm (fun h=>absurd h hm));clear hat
          go_wp2_with (first
           | (go_at_call 75;((with_reducible refine(iV _ ?_ ?_ _).mono ?_);(first|omega|skip);(first|omega|skip);rintro e w' ⟨rfl,rfl⟩;rw[hn])))
          go_roundw
          case rel=>exact⟨m+1,10*v+(a - 48),rfl,by rw[show((p:Int)+1)=((k+(m+1):Nat):Int)by omega],by omega,dG,by trivial⟩
          case measure=>simp[intOf];omega
  · have kE:¬ (p:Int)<(s.size:Int):=by omega
    have lF:=ae (Sj HN.o (fun x hx=>by have h1:=(dW.1 hx).1;rw[ny]at h1;omega));go_wp2_with fail
    exact bodyPost_ret (jE (aC.new w (({ ag.zero with kind:=1,num:=v }:ag).goto k)) _ _ ((p:Int) - (k:Int)) 4 5 GI rfl rfl) rfl ⟨(ai _ _).alloc (ah _) _,.inl ⟨_,m,lF.o,by rw[show((p:Int) - (k:Int))=(m:Int)by omega]⟩⟩
theorem GK:Tryz.f78.results=#[.cell 4 71,.tmp 5]:=by kernel_rfl
theorem Tn (s:ByteArray)(k:Nat)(w:World)(_hs:s.size≤1000000)(_hk:k<s.size) :
 Calls Tryz.prog 78 #[.string s,.int .i64 (k:Int)] w (mU (kG (aA s (k+1))) k w):=by
 have aM:=ae (aC.zero w);have aU:=ae (show Below w.heap.size w (w.alloc (.cells jF 71))from(ai _ _).alloc (ah _) _);go_enter Tryz.func78,Tryz.ntmps78;go_wp2_with fail
 go_loopw [6,7] (fun v i wr=>∃(p:Nat)(xs:List Int),i = .int .i64 (p:Int)∧k+1≤p∧p≤s.size∧xs.length≤p∧Hid (mR s k p xs)∧Hid (oW wr (w.heap.size+1) v xs)∧Hid (aC wr w.heap.size ag.zero)∧Hid (Below w.heap.size w wr))
  (fun _ i _=>s.size - (intOf i).toNat)
 case atStart =>
  refine⟨k+1,[],by go_num,by omega,by omega,by simp,ae ?_,ae (Own.nil _ _ _ _),aM,aU⟩;unfold mR;cases dS (aA s (k+1))with
  | none=>rfl
  | some q=>simp
 case round =>
  clear aM aU;obtain⟨p,xs,rfl,hkp,hps,hxl,HQ,HO,HT,HB⟩:=hrel;by_cases hlt:p<s.size
  · have kE:(p:Int)<(s.size:Int):=by omega
    obtain⟨a,ha⟩:∃a:Int,(s[p].toNat:Int)=a:=⟨_,rfl⟩;have ha1:0≤a∧a≤255:=by have:=s[p].toNat_lt;omega
    by_cases wU:a<32
    · have HN:=ae (Ta HQ.o hlt (by rw[ha];exact wU))
      obtain⟨x0,x1,x2,x3,x4,x5,x6,x7,av⟩:=HT.o.cells;obtain⟨g0,g1,g2,g3,g4,g5,g6,g7,g8⟩:=HT.o.bH;go_wp2_with fail
      exact bodyPost_ret (jE (HT.o.gY ag.zero) _ _ 0 4 5 GK rfl rfl) rfl ⟨mX HB.o (ah _) _ _ _ _ _ _ _ _ _,.inr ⟨HN.o,ag.zero,rfl⟩⟩
    · by_cases df:a=34
      · have zx:(a == 34)=true:=beq_iff_eq.2 df
        obtain⟨q,hq⟩:∃q:Nat,p+1=q:=⟨_,rfl⟩;have hqi:(p:Int)+1=(q:Int):=by omega
        by_cases Bg:q<s.size
        · have yg:¬ (s.size:Int)≤(q:Int):=by omega
          have zD:(q:Int)<(s.size:Int):=by omega
          obtain⟨a2,ha2⟩:∃a2:Int,(s[q].toNat:Int)=a2:=⟨_,rfl⟩;have Zm:0≤a2∧a2≤255:=by have:=s[q].toNat_lt;omega
          by_cases wP:a2=34
          · have JY:(a2 == 34)=true:=beq_iff_eq.2 wP
            have lG:=ae (show mR s k (q+1) (xs++[34])by subst hq;exact Td HQ.o hkp hlt (by rw[ha,df]) Bg (by rw[ha2,wP]));clear HQ;go_wp2_with (at_builtin;refine nC Elem.u8 (aK .u8) rfl (.tmp 51) (.tmp 52) rfl (w.heap.size+1) _ _ rfl (HO.o.alloc _) ⟨_,0,none⟩ 1 1 [34] rfl rfl ?_ ?_ ?_ ?_ ?_;exact gQ _ _ _ rfl;omega;(unfold maxLen;omega);(have:=HT.o.lt;simp <;> omega);intro v' nD h1 h2;have oQ:=ae h1;have ku:=ae (((ai (w.heap.size+1) _).alloc (by have:=HT.o.lt;omega) _).trans h2);clear h1 h2;have y8:=ae (HT.o.below ku.o (Nat.lt_succ_self _));have H5:=ae (HB.o.trans (ku.o.mono (Nat.le_succ _))))
            go_roundw
            case rel=>exact⟨q+1,xs++[34],by go_num,by omega,by omega,by simp;omega,lG,oQ,y8,H5⟩
            case measure=>simp[intOf];omega
          · have JY:(a2 == 34)=false:=beq_eq_false_iff_ne.2 wP
            have HN:=ae (show kG (aA s (k+1))=some ({ ag.zero with kind:=2,text:=strOfNums xs },q - k)by subst hq;exact Gz HQ.o hkp hlt (by rw[ha,df]) (fun h=>by rw[ha2];exact wP));clear HQ;have J3:=BK HO.o;obtain⟨x0,x1,x2,x3,x4,x5,x6,x7,av⟩:=HT.o.cells;obtain⟨g0,g1,g2,g3,g4,g5,g6,g7,g8⟩:=HT.o.bH;go_wp2_with fail
            exact bodyPost_ret (jE (HT.o.gY (({ ag.zero with kind:=2,text:=strOfNums xs }:ag).goto k)) _ _ ((q:Int) - (k:Int)) 4 5 GK rfl rfl) rfl ⟨mX HB.o (ah _) _ _ _ _ _ _ _ _ _,.inl ⟨_,q - k,HN.o,by rw[show((q:Int) - (k:Int))=((q - k:Nat):Int)by omega]⟩⟩
        · have yg:(s.size:Int)≤(q:Int):=by omega
          have HN:=ae (show kG (aA s (k+1))=some ({ ag.zero with kind:=2,text:=strOfNums xs },q - k)by subst hq;exact Gz HQ.o hkp hlt (by rw[ha,df]) (fun h=>absurd h Bg));clear HQ;have J3:=BK HO.o;obtain⟨x0,x1,x2,x3,x4,x5,x6,x7,av⟩:=HT.o.cells;obtain⟨g0,g1,g2,g3,g4,g5,g6,g7,g8⟩:=HT.o.bH;go_wp2_with fail
          exact bodyPost_ret (jE (HT.o.gY (({ ag.zero with kind:=2,text:=strOfNums xs }:ag).goto k)) _ _ ((q:Int) - (k:Int)) 4 5 GK rfl rfl) rfl ⟨mX HB.o (ah _) _ _ _ _ _ _ _ _ _,.inl ⟨_,q - k,HN.o,by rw[show((q:Int) - (k:Int))=((q - k:Nat):Int)by omega]⟩⟩
      · have zx:(a == 34)=false:=beq_eq_false_iff_ne.2 df
        have lG:=ae (Tc HQ.o hkp hlt ha wU df);clear HQ;go_wp2_with (at_builtin;refine nC Elem.u8 (aK .u8) rfl (.tmp 25) (.tmp 29) rfl (w.heap.size+1) _ _ rfl (HO.o.alloc _) ⟨_,0,none⟩ 1 1 [a] rfl rfl ?_ ?_ ?_ ?_ ?_;exact gQ _ _ _ rfl;omega;(unfold maxLen;omega);(have:=HT.o.lt;simp <;> omega);intro v' nD h1 h2;have oQ:=ae h1;have ku:=ae (((ai (w.heap.size+1) _).alloc (by have:=HT.o.lt;omega) _).trans h2);clear h1 h2;have y8:=ae (HT.o.below ku.o (Nat.lt_succ_self _));have H5:=ae (HB.o.trans (ku.o.mono (Nat.le_succ _))))
        go_roundw
        case rel=>exact⟨p+1,xs++[a],by go_num,by omega,by omega,by simp;omega,lG,oQ,y8,H5⟩
        case measure=>simp[intOf];omega
  · have kE:¬ (p:Int)<(s.size:Int):=by omega
    have HN:=ae (S9 HQ.o (by omega));obtain⟨x0,x1,x2,x3,x4,x5,x6,x7,av⟩:=HT.o.cells;obtain⟨g0,g1,g2,g3,g4,g5,g6,g7,g8⟩:=HT.o.bH;go_wp2_with fail
    exact bodyPost_ret (jE (HT.o.gY ag.zero) _ _ 0 4 5 GK rfl rfl) rfl ⟨mX HB.o (ah _) _ _ _ _ _ _ _ _ _,.inr ⟨HN.o,ag.zero,rfl⟩⟩
theorem Tw (s:ByteArray)(k m p:Nat)(hp:k+m=p)(dn:k+m≤s.size)(aX:∀x∈(aA s k).take m,isWord x=true)(zM:∀x,(aA s k)[m]? = some x→isWord x=false) :
 l7 (aA s k)=match gH (s.extract k p)with
  | some d=>some ({ ag.zero with kind:=4,sh:=d.sh,c:=d.c,r:=d.r,ac:=d.ac,ar:=d.ar },m)
  | none=>if jb (sb (s.extract k p))=true then some ({ ag.zero with kind:=3,text:=s.extract k p },m)else none:=by
 subst hp;have hsp:=Ak isWord (aA s k) m aX zM;have hlen:((aA s k).take m).length=m:=by rw[gK,ny];omega
 have hc:=DI s k m;have hb:sb (s.extract k (k+m))=(aA s k).take m:=by rw[hc];exact jd _ (fun x hx=>LH s k x (List.mem_of_mem_take hx))
 rw[U5 _ _ hsp,hlen, ← hc,hb];rfl
theorem BI:Tryz.f80.results=#[.cell 4 71,.tmp 5]:=by kernel_rfl
theorem ahD{a:Int}(hl:isLet a=false)(hn:isNum a=false)(gF:¬ a=36)(wO:¬ a=33):isWord a=false:=by unfold isWord;rw[hl,hn,decide_eq_false (by omega)];rfl
theorem ahz{a:Int}(hl:isLet a=true):isWord a=true:=by unfold isWord;rw[hl];rfl
theorem ahA{a:Int}(hn:isNum a=true):isWord a=true:=by unfold isWord;rw[hn];simp
theorem U4{a:Int}(h:a=36∨a=33):isWord a=true:=by unfold isWord;rw[decide_eq_true h];simp
theorem GD (s:ByteArray)(k:Nat)(w:World)(_hs:s.size≤1000000)(_hk:k≤s.size) :
 Calls Tryz.prog 80 #[.string s,.int .i64 (k:Int)] w (mU (l7 (aA s k)) k w):=by
 have aM:=ae (aC.zero w);have aU:=ae (show Below w.heap.size w (w.alloc (.cells jF 71))from(ai _ _).alloc (ah _) _);have hz0:(0:Int)≤(k:Int):=by omega
 go_enter Tryz.func80,Tryz.ntmps80;go_wp2_with fail
 go_loopw [6] (fun i wr=>∃(m:Nat),i = .int .i64 ((k+m:Nat):Int)∧k+m≤s.size∧Hid (∀x∈(aA s k).take m,isWord x=true)∧w.alloc (.cells jF 71)=wr)
  (fun i _=>s.size - (intOf i).toNat)
 case atStart=>exact⟨0,rfl,by omega,ae (by simp),rfl⟩
 case round =>
  obtain⟨m,rfl,dn,HM,rfl⟩:=hrel;obtain⟨p,hp⟩:∃p:Nat,k+m=p:=⟨_,rfl⟩;rw[hp];have hz1:(k:Int)≤(p:Int):=by omega
  have hz2:(p:Int)≤(s.size:Int):=by omega
  by_cases hlt:p<s.size
  · have kE : (p:Int)<(s.size:Int):=by omega
    obtain⟨a,ha⟩:∃a:Int,(s[p].toNat:Int)=a:=⟨_,rfl⟩;have ha1:0≤a∧a≤255:=by have:=s[p].toNat_lt;omega
    have hat:(aA s k)[m]? = some a:=by subst hp;rw[yC s k m hlt,ha]
    have Cz:=ae (DZ hat);have HAT:=ae hat;clear hat;cases hl:isLet a
    · cases hn : isNum a
      · by_cases gF:a=36
        · have JZ:(a == 36)=true:=beq_iff_eq.2 gF
          have dG:=ae (show ∀x∈(aA s k).take (m+1),isWord x=true by rw[Cz.o];exact qd HM.o (U4 (.inl gF)));clear gF
          go_wp2_with (first
           | (go_at_call 79;((with_reducible refine(oJ _ ?_ ?_ _).mono ?_);(first|omega|skip);(first|omega|skip);rintro e w' ⟨rfl,rfl⟩;rw[hl]))
           | (go_at_call 75;((with_reducible refine(iV _ ?_ ?_ _).mono ?_);(first|omega|skip);(first|omega|skip);rintro e w' ⟨rfl,rfl⟩;rw[hn])))
          go_roundw
          case rel=>exact⟨m+1,by rw[show((p:Int)+1)=((k+(m+1):Nat):Int)by omega],by omega,dG,by trivial⟩
          case measure=>simp[intOf];omega
        · have JZ:(a == 36)=false:=beq_eq_false_iff_ne.2 gF
          by_cases wO:a=33
          · have Zr:(a == 33)=true:=beq_iff_eq.2 wO
            have dG:=ae (show ∀x∈(aA s k).take (m+1),isWord x=true by rw[Cz.o];exact qd HM.o (U4 (.inr wO)));clear wO
            go_wp2_with (first
             | (go_at_call 79;((with_reducible refine(oJ _ ?_ ?_ _).mono ?_);(first|omega|skip);(first|omega|skip);rintro e w' ⟨rfl,rfl⟩;rw[hl]))
             | (go_at_call 75;((with_reducible refine(iV _ ?_ ?_ _).mono ?_);(first|omega|skip);(first|omega|skip);rintro e w' ⟨rfl,rfl⟩;rw[hn])))
            go_roundw
            case rel=>exact⟨m+1,by rw[show((p:Int)+1)=((k+(m+1):Nat):Int)by omega],by omega,dG,by trivial⟩
            case measure=>simp[intOf];omega
          · have Zr:(a == 33)=false:=beq_eq_false_iff_ne.2 wO
            have I7:=ae (show ∀x,(aA s k)[m]? = some x→isWord x=false from fun x hx=>by rw[HAT.o]at hx;injection hx with hx;rw[← hx];exact ahD hl hn gF wO);clear gF wO Cz;have hval:=Tw s k m p hp dn HM.o I7.o;obtain⟨D,hD⟩:∃D,s.extract k p=D:=⟨_,rfl⟩;rw[hD]at hval;have Zj:D.size≤1000000:=by rw[← hD,ByteArray.size_extract];omega
            cases hq:gH D with
            | some d =>
              rw[hq]at hval;have HN:=ae hval;clear hval;have oU:=ae (fun (e:Ending)(he:mV (sb D) e)=>GR hq he);clear hq
              go_upto_region 6 with (first
               | (go_at_call 79;((with_reducible refine(oJ _ ?_ ?_ _).mono ?_);(first|omega|skip);(first|omega|skip);rintro e w' ⟨rfl,rfl⟩;rw[hl]))|(go_at_call 75;((with_reducible refine(iV _ ?_ ?_ _).mono ?_);(first|omega|skip);(first|omega|skip);rintro e w' ⟨rfl,rfl⟩;rw[hn]))
               | (go_at_call 48;((with_reducible refine(BG D _ ?_).mono ?_);(first|omega|skip);rintro e w2 ⟨h1,h2⟩;obtain rfl:=oU.o e h1;clear h1;have H3:=ae h2;clear h2;have HT2:=ae (aM.o.below H3.o aM.o.lt))))
              have uD:=bU.new w2 d.sh d.c d.r d.ac d.ar;have hB3:Below w2.heap.size w2 (w2.alloc (.cells #[.string d.sh,.int .i64 d.c,.int .i64 d.r,.bool d.ac,.bool d.ar] 43)):=(ai _ _).alloc (ah _) _;have HT3:=ae (HT2.o.below hB3 HT2.o.lt);have eQ:=ae (aU.o.trans ((Below.of _ _ _ H3.o hB3).mono aU.o.size));clear hB3;generalize w2.alloc (.cells #[.string d.sh,.int .i64 d.c,.int .i64 d.r,.bool d.ac,.bool d.ar] 43)=w3 at uD HT3 eQ ⊢;obtain⟨x0,x1,x2,x3,x4,x5,x6,x7,av⟩:=HT3.o.cells;obtain⟨f0,f1,f2,f3,f4,f5,f6,f7,f8⟩:=HT3.o.bH;obtain⟨y0,y1,y2,y3,y4⟩:=uD.facts;clear uD;go_wp2_with fail
              exact bodyPost_ret (jE (HT3.o.gY (({ ag.zero with kind:=4,sh:=d.sh,c:=d.c,r:=d.r,ac:=d.ac,ar:=d.ar }:ag).goto k)) _ _ ((p:Int) - (k:Int)) 4 5 BI rfl rfl) rfl ⟨mX eQ.o (ah _) _ _ _ _ _ _ _ _ _,.inl ⟨_,m,HN.o,by rw[show((p:Int) - (k:Int))=(m:Int)by omega]⟩⟩
            | none =>
              rw[hq]at hval;have oU:=ae (fun (e:Ending)(he:mV (sb D) e)=>GQ hq he);clear hq;cases hnm:jb (sb D)
              all_goals
               rw[hnm]at hval;have HN:=ae hval;clear hval;have Cv:=ae hnm;clear hnm
               go_upto_region 7 with (first
                | (go_at_call 79;((with_reducible refine(oJ _ ?_ ?_ _).mono ?_);(first|omega|skip);(first|omega|skip);rintro e w' ⟨rfl,rfl⟩;rw[hl]))|(go_at_call 75;((with_reducible refine(iV _ ?_ ?_ _).mono ?_);(first|omega|skip);(first|omega|skip);rintro e w' ⟨rfl,rfl⟩;rw[hn]))
                | (go_at_call 48;((with_reducible refine(BG D _ ?_).mono ?_);(first|omega|skip);rintro e w2 ⟨h1,h2⟩;obtain rfl:=oU.o e h1;clear h1;have H3:=ae h2;clear h2;have HT2:=ae (aM.o.below H3.o aM.o.lt))))
               have hB3:Below w2.heap.size w2 (w2.alloc (.cells #[.string ⟨#[]⟩,.int .i64 0,.int .i64 0,.bool false,.bool false] 43)):=(ai _ _).alloc (ah _) _;have HT3:=ae (HT2.o.below hB3 HT2.o.lt);have eQ:=ae (aU.o.trans ((Below.of _ _ _ H3.o hB3).mono aU.o.size));clear hB3;generalize w2.alloc (.cells #[.string ⟨#[]⟩,.int .i64 0,.int .i64 0,.bool false,.bool false] 43)=w3 at HT3 eQ ⊢;obtain⟨x0,x1,x2,x3,x4,x5,x6,x7,av⟩:=HT3.o.cells;obtain⟨f0,f1,f2,f3,f4,f5,f6,f7,f8⟩:=HT3.o.bH;go_wp2_with (go_at_call 49;((with_reducible refine(Lt D _ ?_).mono ?_);(first|omega|skip);rintro e w4 ⟨rfl,rfl⟩;rw[Cv.o]))
              · exact bodyPost_ret (jE (HT3.o.gY ag.zero) _ _ 0 4 5 BI rfl rfl) rfl ⟨mX eQ.o (ah _) _ _ _ _ _ _ _ _ _,.inr ⟨HN.o,ag.zero,rfl⟩⟩
              · exact bodyPost_ret (jE (HT3.o.gY (({ ag.zero with kind:=3,text:=D }:ag).goto k)) _ _ ((p:Int) - (k:Int)) 4 5 BI rfl rfl) rfl ⟨mX eQ.o (ah _) _ _ _ _ _ _ _ _ _,.inl ⟨_,m,HN.o,by rw[show((p:Int) - (k:Int))=(m:Int)by omega]⟩⟩
      · skip
        have dG:=ae (show ∀x∈(aA s k).take (m+1),isWord x=true by rw[Cz.o];exact qd HM.o (ahA hn))
        skip
        go_wp2_with (first
         | (go_at_call 79;((with_reducible refine(oJ _ ?_ ?_ _).mono ?_);(first|omega|skip);(first|omega|skip);rintro e w' ⟨rfl,rfl⟩;rw[hl]))
         | (go_at_call 75;((with_reducible refine(iV _ ?_ ?_ _).mono ?_);(first|omega|skip);(first|omega|skip);rintro e w' ⟨rfl,rfl⟩;rw[hn])))
        go_roundw
        case rel=>exact⟨m+1,by rw[show((p:Int)+1)=((k+(m+1):Nat):Int)by omega],by omega,dG,by trivial⟩
        case measure=>simp[intOf];omega
    · skip
      have dG:=ae (show ∀x∈(aA s k).take (m+1),isWord x=true by rw[Cz.o];exact qd HM.o (ahz hl))
      skip
      go_wp2_with (first
       | (go_at_call 79;((with_reducible refine(oJ _ ?_ ?_ _).mono ?_);(first|omega|skip);(first|omega|skip);rintro e w' ⟨rfl,rfl⟩;rw[hl])))
      go_roundw
      case rel=>exact⟨m+1,by rw[show((p:Int)+1)=((k+(m+1):Nat):Int)by omega],by omega,dG,by trivial⟩
      case measure=>simp[intOf];omega
  · have kE:¬ (p:Int)<(s.size:Int):=by omega
    have I7:=ae (show ∀x,(aA s k)[m]? = some x→isWord x=false from fun x hx=>by have h1:=(dW.1 hx).1;rw[ny]at h1;omega);have hval:=Tw s k m p hp dn HM.o I7.o;obtain⟨D,hD⟩:∃D,s.extract k p=D:=⟨_,rfl⟩;rw[hD]at hval;have Zj:D.size≤1000000:=by rw[← hD,ByteArray.size_extract];omega
    cases hq:gH D with
    | some d =>
      rw[hq]at hval;have HN:=ae hval;clear hval;have oU:=ae (fun (e:Ending)(he:mV (sb D) e)=>GR hq he);clear hq
      go_upto_region 6 with (first
       | (go_at_call 48;((with_reducible refine(BG D _ ?_).mono ?_);(first|omega|skip);rintro e w2 ⟨h1,h2⟩;obtain rfl:=oU.o e h1;clear h1;have H3:=ae h2;clear h2;have HT2:=ae (aM.o.below H3.o aM.o.lt))))
      have uD:=bU.new w2 d.sh d.c d.r d.ac d.ar;have hB3:Below w2.heap.size w2 (w2.alloc (.cells #[.string d.sh,.int .i64 d.c,.int .i64 d.r,.bool d.ac,.bool d.ar] 43)):=(ai _ _).alloc (ah _) _;have HT3:=ae (HT2.o.below hB3 HT2.o.lt);have eQ:=ae (aU.o.trans ((Below.of _ _ _ H3.o hB3).mono aU.o.size));clear hB3;generalize w2.alloc (.cells #[.string d.sh,.int .i64 d.c,.int .i64 d.r,.bool d.ac,.bool d.ar] 43)=w3 at uD HT3 eQ ⊢;obtain⟨x0,x1,x2,x3,x4,x5,x6,x7,av⟩:=HT3.o.cells;obtain⟨f0,f1,f2,f3,f4,f5,f6,f7,f8⟩:=HT3.o.bH;obtain⟨y0,y1,y2,y3,y4⟩:=uD.facts;clear uD;go_wp2_with fail
      exact bodyPost_ret (jE (HT3.o.gY (({ ag.zero with kind:=4,sh:=d.sh,c:=d.c,r:=d.r,ac:=d.ac,ar:=d.ar }:ag).goto k)) _ _ ((p:Int) - (k:Int)) 4 5 BI rfl rfl) rfl ⟨mX eQ.o (ah _) _ _ _ _ _ _ _ _ _,.inl ⟨_,m,HN.o,by rw[show((p:Int) - (k:Int))=(m:Int)by omega]⟩⟩
    | none =>
      rw[hq]at hval;have oU:=ae (fun (e:Ending)(he:mV (sb D) e)=>GQ hq he);clear hq;cases hnm:jb (sb D)
      all_goals
       rw[hnm]at hval;have HN:=ae hval;clear hval;have Cv:=ae hnm;clear hnm
       go_upto_region 7 with (first
        | (go_at_call 48;((with_reducible refine(BG D _ ?_).mono ?_);(first|omega|skip);rintro e w2 ⟨h1,h2⟩;obtain rfl:=oU.o e h1;clear h1;have H3:=ae h2;clear h2;have HT2:=ae (aM.o.below H3.o aM.o.lt))))
       have hB3:Below w2.heap.size w2 (w2.alloc (.cells #[.string ⟨#[]⟩,.int .i64 0,.int .i64 0,.bool false,.bool false] 43)):=(ai _ _).alloc (ah _) _;have HT3:=ae (HT2.o.below hB3 HT2.o.lt);have eQ:=ae (aU.o.trans ((Below.of _ _ _ H3.o hB3).mono aU.o.size));clear hB3;generalize w2.alloc (.cells #[.string ⟨#[]⟩,.int .i64 0,.int .i64 0,.bool false,.bool false] 43)=w3 at HT3 eQ ⊢;obtain⟨x0,x1,x2,x3,x4,x5,x6,x7,av⟩:=HT3.o.cells;obtain⟨f0,f1,f2,f3,f4,f5,f6,f7,f8⟩:=HT3.o.bH;go_wp2_with (go_at_call 49;((with_reducible refine(Lt D _ ?_).mono ?_);(first|omega|skip);rintro e w4 ⟨rfl,rfl⟩;rw[Cv.o]))
      · exact bodyPost_ret (jE (HT3.o.gY ag.zero) _ _ 0 4 5 BI rfl rfl) rfl ⟨mX eQ.o (ah _) _ _ _ _ _ _ _ _ _,.inr ⟨HN.o,ag.zero,rfl⟩⟩
      · exact bodyPost_ret (jE (HT3.o.gY (({ ag.zero with kind:=3,text:=D }:ag).goto k)) _ _ ((p:Int) - (k:Int)) 4 5 BI rfl rfl) rfl ⟨mX eQ.o (ah _) _ _ _ _ _ _ _ _ _,.inl ⟨_,m,HN.o,by rw[show((p:Int) - (k:Int))=(m:Int)by omega]⟩⟩
def nR(s:ByteArray)(k:Nat):ByteArray:=strOfNums ((aA s k).take (kI (aA s k)))
theorem Ff(s E:ByteArray)(k m:Nat)(h:(aA s k).take m=sb E):s.extract k (k+m)=E:=by rw[DI,h,l5]
theorem TE (s:ByteArray)(k:Nat)(h:k+1<s.size):(aA s k).take 2=[((s[k].toNat:Nat):Int),((s[k+1].toNat:Nat):Int)]:=by
 rw[mG s k (by omega),mG s (k+1) h];rfl
abbrev Ao(x y:Int):Prop:=(x=60∧(y=62∨y=61))∨(x=62∧y=61)
abbrev z8(x:Int):Prop:=x=43∨x=45∨x=42∨x=47∨x=38∨x=61∨x=60∨x=62∨x=40∨x=41∨x=44∨x=58
theorem TD(s:ByteArray)(k:Nat)(h:k+1<s.size):(aA s (k+1)).head? = some ((s[k+1].toNat:Nat):Int):=by rw[mG s (k+1) h];rfl
theorem agc {s:ByteArray}{k:Nat}{x y:Int}(h:k+1<s.size)(hx:((s[k].toNat:Nat):Int)=x)(hy:((s[k+1].toNat:Nat):Int)=y)(h2:Ao x y):nR s k=s.extract k (k+2):=by
 unfold nR
 have hn:kI (aA s k)=2:=by
  rw[mG s k (by omega),rF,TD s k h,hx,hy,if_pos];rcases h2 with ⟨h1,h2|h2⟩|⟨h1,h2⟩
  · exact .inl ⟨h1,.inl (by rw[h2])⟩
  · exact .inl ⟨h1,.inr (by rw[h2])⟩
  · exact .inr ⟨h1,by rw[h2]⟩
 rw[hn, ← DI]
theorem Uj {s:ByteArray}{k:Nat}{x:Int}(hk:k<s.size)(hx:((s[k].toNat:Nat):Int)=x)(h2:∀h:k+1<s.size,¬ Ao x ((s[k+1].toNat:Nat):Int)) :
 kI (aA s k)=if z8 x then 1 else 0:=by
 rw[mG s k hk,rF,hx,if_neg];intro h;by_cases h1:k+1<s.size
 · rw[TD s k h1]at h
   simp only[bA]at h;exact h2 h1 h
 · rw[DJ s (k+1) (by omega)]at h;simp at h
theorem sign_one {s:ByteArray}{k:Nat}{x:Int}(hk:k<s.size)(hx:((s[k].toNat:Nat):Int)=x)(h2:∀h:k+1<s.size,¬ Ao x ((s[k+1].toNat:Nat):Int))(h1:z8 x):nR s k=s.extract k (k+1):=by
 unfold nR;rw[Uj hk hx h2,if_pos h1, ← DI]
theorem sign_zero {s:ByteArray}{k:Nat}{x:Int}(hk:k<s.size)(hx:((s[k].toNat:Nat):Int)=x)(h2:∀h:k+1<s.size,¬ Ao x ((s[k+1].toNat:Nat):Int))(h1:¬ z8 x):nR s k=⟨#[]⟩:=by
 unfold nR;rw[Uj hk hx h2,if_neg h1,List.take_zero];rfl
theorem DK{a b:ByteArray}(h:a=b):Ending.returned (.string a) = .returned (.string b):=by rw[h]
theorem aeA (s:ByteArray)(k:Nat)(w:World)(_hs:s.size≤1000000)(_hk:k<s.size)(hl:s.size≤k+1) :
 Calls Tryz.prog 81 #[.string s,.int .i64 (k:Int)] w fun e w'=>e = .returned (.string (nR s k))∧w=w':=by
 obtain⟨x,hx⟩:∃x:Int,(s[k].toNat:Int)=x:=⟨_,rfl⟩;have hx1:0≤x∧x≤255:=by have:=s[k].toNat_lt;omega
 have H1:=ae (fun h1=>sign_one _hk hx (fun h=>by omega) h1);have H0:=ae (fun h1=>sign_zero _hk hx (fun h=>by omega) h1);have hi1:¬ (k:Int)+1<(s.size:Int):=by omega
 have hi2:(k:Int)<(s.size:Int):=by omega
 have hi3:(k:Int)+1≤(s.size:Int):=by omega
 go_enter Tryz.func81,Tryz.ntmps81;go_wp2_with fail
 all_goals go_ret
 all_goals first
  | exact⟨DK (H1.o (by simp only[beq_iff_eq,beq_eq_false_iff_ne,ne_eq]at *;unfold z8;omega)).symm,rfl⟩
  | exact⟨DK (H0.o (by simp only[beq_eq_false_iff_ne,ne_eq]at *;unfold z8;omega)).symm,rfl⟩
theorem aeB (s:ByteArray)(k:Nat)(w:World)(_hs:s.size≤1000000)(_hk:k<s.size)(hl:k+1<s.size)(h2:∀h:k+1<s.size,¬ Ao ((s[k].toNat:Nat):Int) ((s[k+1].toNat:Nat):Int)) :
 Calls Tryz.prog 81 #[.string s,.int .i64 (k:Int)] w fun e w'=>e = .returned (.string (nR s k))∧w=w':=by
 obtain⟨x,hx⟩:∃x:Int,(s[k].toNat:Int)=x:=⟨_,rfl⟩;have hx1:0≤x∧x≤255:=by have:=s[k].toNat_lt;omega
 have h2':∀h:k+1<s.size,¬ Ao x ((s[k+1].toNat:Nat):Int):=by rw[← hx];exact h2
 have H1:=ae (fun h1=>sign_one _hk hx h2' h1);have H0:=ae (fun h1=>sign_zero _hk hx h2' h1);have hE:=TE s k hl
 have n1:¬ (s.extract k (k+2)).toList=[60,62]:=fun h=>by
  have e:s.extract k (k+2)=⟨#[60,62]⟩:=by rw[qB]at h;exact congrArg ByteArray.mk (Array.toList_inj.1 h)
  have e2:=Bd s k 2;rw[e]at e2;rw[show(sb s).drop k=aA s k from rfl,hE]at e2;exact h2 hl (.inl ⟨by simpa [sb]using (congrArg (·.head?) e2).symm,.inl (by simpa [sb]using (congrArg (·.tail.head?) e2).symm)⟩)
 have n2:¬ (s.extract k (k+2)).toList=[60,61]:=fun h=>by
  have e:s.extract k (k+2)=⟨#[60,61]⟩:=by rw[qB]at h;exact congrArg ByteArray.mk (Array.toList_inj.1 h)
  have e2:=Bd s k 2;rw[e]at e2;rw[show(sb s).drop k=aA s k from rfl,hE]at e2;exact h2 hl (.inl ⟨by simpa [sb]using (congrArg (·.head?) e2).symm,.inr (by simpa [sb]using (congrArg (·.tail.head?) e2).symm)⟩)
 have n3:¬ (s.extract k (k+2)).toList=[62,61]:=fun h=>by
  have e:s.extract k (k+2)=⟨#[62,61]⟩:=by rw[qB]at h;exact congrArg ByteArray.mk (Array.toList_inj.1 h)
  have e2:=Bd s k 2;rw[e]at e2;rw[show(sb s).drop k=aA s k from rfl,hE]at e2;exact h2 hl (.inr ⟨by simpa [sb]using (congrArg (·.head?) e2).symm,by simpa [sb]using (congrArg (·.tail.head?) e2).symm⟩)
 have hi1:(k:Int)+1<(s.size:Int):=by omega
 have hi2:(k:Int)<(s.size:Int):=by omega
 have hi3:(k:Int)+1≤(s.size:Int):=by omega
 have hi4:(k:Int)+2≤(s.size:Int):=by omega
 have b1:=beq_eq_false_iff_ne.2 n1;have b2:=beq_eq_false_iff_ne.2 n2;have b3:=beq_eq_false_iff_ne.2 n3;clear hE h2 h2' n1 n2 n3;go_enter Tryz.func81,Tryz.ntmps81;go_wp2_with fail
 all_goals go_ret
 all_goals first
  | exact⟨DK (H1.o (by simp only[beq_iff_eq,beq_eq_false_iff_ne,ne_eq]at *;unfold z8;omega)).symm,rfl⟩
  | exact⟨DK (H0.o (by simp only[beq_eq_false_iff_ne,ne_eq]at *;unfold z8;omega)).symm,rfl⟩
theorem aez (s E:ByteArray)(k:Nat)(w:World)(_hs:s.size≤1000000)(hl:k+1<s.size)(hE:s.extract k (k+2)=E)(hq:nR s k=E)(h:E=⟨#[60,62]⟩∨E=⟨#[60,61]⟩∨E=⟨#[62,61]⟩) :
 Calls Tryz.prog 81 #[.string s,.int .i64 (k:Int)] w fun e w'=>e = .returned (.string (nR s k))∧w=w':=by
 have HQ:=ae hq;have hi1:(k:Int)+1<(s.size:Int):=by omega
 have hi2:(k:Int)<(s.size:Int):=by omega
 have hi4:(k:Int)+2≤(s.size:Int):=by omega
 clear hq;rcases h with rfl|rfl|rfl
 all_goals
  go_enter Tryz.func81,Tryz.ntmps81;go_wp2_with fail
  go_ret;exact⟨DK (by rw[hE];exact HQ.o.symm),rfl⟩
theorem aey (s:ByteArray)(k:Nat)(w:World)(_hs:s.size≤1000000)(_hk:k<s.size) :
 Calls Tryz.prog 81 #[.string s,.int .i64 (k:Int)] w fun e w'=>e = .returned (.string (nR s k))∧w=w':=by
 by_cases hl:k+1<s.size
 · by_cases h2:Ao ((s[k].toNat:Nat):Int) ((s[k+1].toNat:Nat):Int)
   · have hq:=agc hl rfl rfl h2
     refine aez s _ k w _hs hl rfl hq ?_;have hE:=TE s k hl;rcases h2 with ⟨h1,h2|h2⟩|⟨h1,h2⟩
     · exact .inl (Ff s ⟨#[60,62]⟩ k 2 (by rw[hE,h1,h2];decide))
     · exact .inr (.inl (Ff s ⟨#[60,61]⟩ k 2 (by rw[hE,h1,h2];decide)))
     · exact .inr (.inr (Ff s ⟨#[62,61]⟩ k 2 (by rw[hE,h1,h2];decide)))
   · exact aeB s k w _hs _hk hl (fun _=>h2)
 · exact aeA s k w _hs _hk (by omega)
theorem mU.no {k:Nat}{w w':World}{e:Ending}(h:mU none k w e w'):Below w.heap.size w w'∧∃t:ag,e = .returned (.tuple #[.agg #[.int .i64 t.kind,.string t.text,.int .i64 t.num,.string t.sh,.int .i64 t.c,.int .i64 t.r,.bool t.ac,.bool t.ar,.int .i64 t.pos],.int .i64 0]):=by
 rcases h with ⟨h1,⟨t,n,h2,_⟩|⟨_,h2⟩⟩
 · cases h2
 · exact⟨h1,h2⟩
theorem mU.yes {k n:Nat}{t:ag}{w w':World}{e:Ending}(h:mU (some (t,n)) k w e w'):Below w.heap.size w w'∧e = .returned (.tuple #[.agg #[.int .i64 t.kind,.string t.text,.int .i64 t.num,.string t.sh,.int .i64 t.c,.int .i64 t.r,.bool t.ac,.bool t.ar,.int .i64 (k:Int)],.int .i64 (n:Int)]):=by
 rcases h with ⟨h1,⟨t',n',h2,h3⟩|⟨h2,_⟩⟩
 · injection h2 with h2;injection h2 with h2 h5;subst h2;subst h5;exact⟨h1,h3⟩
 · cases h2
theorem rE:Tryz.f53.results=#[.cell 4 71,.tmp 5]:=by kernel_rfl
theorem aga (s:ByteArray)(k:Nat):nS (aA s k)=if (nR s k).size=0 then none else some ({ ag.zero with kind:=5,text:=nR s k },(nR s k).size):=by
 have h:(nR s k).size=kI (aA s k):=by
  unfold nR;rw[strOfNums_size,gK];have:=Ui (aA s k);omega
 unfold nS;rw[h];rfl
theorem Yl (s:ByteArray)(k:Nat):o6 (aA s k)=if k+5≤s.size∧s.extract k (k+5)=⟨#[35,82,69,70,33]⟩then some ({ ag.zero with kind:=6 },5)else none:=by
 unfold o6;by_cases h:(aA s k).take 5=[35,82,69,70,33]
 · have hlen:k+5≤s.size:=by
    have:=congrArg List.length h;rw[gK,ny]at this;simp at this;omega
   rw[if_pos h,if_pos ⟨hlen,Ff s _ k 5 (by rw[h];decide)⟩]
 · rw[if_neg h,if_neg]
   rintro⟨_,h2⟩;apply h;have:=Bd s k 5;rw[h2]at this;exact this.symm
theorem aeC (s:ByteArray)(k:Nat)(w:World)(_hs:s.size≤1000000)(_hk:k<s.size) :
 Calls Tryz.prog 53 #[.string s,.int .i64 (k:Int)] w (mU (eO (aA s k)) k w):=by
 have aM:=ae (aC.zero w);have aU:=ae (show Below w.heap.size w (w.alloc (.cells jF 71))from(ai _ _).alloc (ah _) _);have hz0:(0:Int)≤(k:Int):=by omega
 have hz1:(k:Int)<(s.size:Int):=by omega
 obtain⟨a,ha⟩:∃a:Int,(s[k].toNat:Int)=a:=⟨_,rfl⟩;have ha1:0≤a∧a≤255:=by have:=s[k].toNat_lt;omega
 have hcs:=mG s k _hk;rw[ha]at hcs;have htk:=qJ a (aA s (k+1));rw[← hcs]at htk;clear hcs;cases hn:isNum a
 · rw [hn, if_neg (by simp)]at htk
   by_cases df:a=34
   · rw [if_pos df]at htk
     have zx:(a == 34)=true:=beq_iff_eq.2 df;cases hq:kG (aA s (k+1))with
     | none =>
       rw[hq]at htk;have jf:=ae htk;clear htk;have hc:=Tn s k (w.alloc (.cells jF 71)) _hs _hk;rw[hq]at hc;have HC:=ae hc;clear hc hq df;go_enter Tryz.func53,Tryz.ntmps53
       go_wp2_with (first
        | (go_at_call 75;((with_reducible refine(iV _ ?_ ?_ _).mono ?_);(first|omega|skip);(first|omega|skip);rintro e w' ⟨rfl,rfl⟩;rw[hn]))
        | (go_at_call 78;((with_reducible refine HC.o.mono ?_);intro e w1 he;obtain⟨h1,t,rfl⟩:=mU.no he;have HB1:=ae (aU.o.trans (h1.mono aU.o.size));have HT1:=ae (aM.o.below h1 aM.o.lt);clear h1 he;obtain⟨x0,x1,x2,x3,x4,x5,x6,x7,av⟩:=HT1.o.cells;obtain⟨f0,f1,f2,f3,f4,f5,f6,f7,f8⟩:=HT1.o.bH)))
       exact bodyPost_ret (jE (HT1.o.gY t) _ _ 0 4 5 rE rfl rfl) rfl ⟨mX HB1.o (ah _) _ _ _ _ _ _ _ _ _,.inr ⟨jf.o,t,rfl⟩⟩
     | some q =>
       obtain⟨t,n⟩:=q;rw[hq]at htk;have jf:=ae htk;clear htk;have hc:=Tn s k (w.alloc (.cells jF 71)) _hs _hk;rw[hq]at hc;have HC:=ae hc;clear hc hq df;go_enter Tryz.func53,Tryz.ntmps53
       go_wp2_with (first
        | (go_at_call 75;((with_reducible refine(iV _ ?_ ?_ _).mono ?_);(first|omega|skip);(first|omega|skip);rintro e w' ⟨rfl,rfl⟩;rw[hn]))
        | (go_at_call 78;((with_reducible refine HC.o.mono ?_);intro e w1 he;obtain⟨h1,rfl⟩:=mU.yes he;have HB1:=ae (aU.o.trans (h1.mono aU.o.size));have HT1:=ae (aM.o.below h1 aM.o.lt);clear h1 he;obtain⟨x0,x1,x2,x3,x4,x5,x6,x7,av⟩:=HT1.o.cells;obtain⟨f0,f1,f2,f3,f4,f5,f6,f7,f8⟩:=HT1.o.bH)))
       exact bodyPost_ret (jE (HT1.o.gY (t.goto k)) _ _ (n:Int) 4 5 rE rfl rfl) rfl ⟨mX HB1.o (ah _) _ _ _ _ _ _ _ _ _,.inl ⟨t,n,jf.o,rfl⟩⟩
   · rw [if_neg df]at htk
     have zx:(a == 34)=false:=beq_eq_false_iff_ne.2 df;by_cases jA:a=35
     · rw [if_pos jA,Yl]at htk
       have Zt:(a == 35)=true:=beq_iff_eq.2 jA;by_cases h5:k+5≤s.size
       · have hi5:(k:Int)+5≤(s.size:Int):=by omega
         by_cases hE:s.extract k (k+5)=⟨#[35,82,69,70,33]⟩
         · rw [if_pos ⟨h5,hE⟩]at htk
           have jf:=ae htk;clear htk df jA;go_enter Tryz.func53,Tryz.ntmps53
           go_wp2_with (first
            | (go_at_call 75;((with_reducible refine(iV _ ?_ ?_ _).mono ?_);(first|omega|skip);(first|omega|skip);rintro e w' ⟨rfl,rfl⟩;rw[hn])))
           exact bodyPost_ret (jE (aC.new w (({ ag.zero with kind:=6 }:ag).goto k)) _ _ 5 4 5 rE rfl rfl) rfl ⟨(ai _ _).alloc (ah _) _,.inl ⟨_,5,jf.o,rfl⟩⟩
         · rw [if_neg (fun h=>hE h.2)]at htk
           have jf:=ae htk;have hEb:((s.extract k (k+5)).toList == [35,82,69,70,33])=false:=beq_eq_false_iff_ne.2 (fun h=>hE (by rw[qB]at h;exact congrArg ByteArray.mk (Array.toList_inj.1 h)));clear htk df jA hE;go_enter Tryz.func53,Tryz.ntmps53
           go_wp2_with (first
            | (go_at_call 75;((with_reducible refine(iV _ ?_ ?_ _).mono ?_);(first|omega|skip);(first|omega|skip);rintro e w' ⟨rfl,rfl⟩;rw[hn])))
           exact bodyPost_ret (jE (aC.zero w) _ _ 0 4 5 rE rfl rfl) rfl ⟨(ai _ _).alloc (ah _) _,.inr ⟨jf.o,_,rfl⟩⟩
       · have hi5:¬ (k:Int)+5≤(s.size:Int):=by omega
         rw[if_neg (fun h=>h5 h.1)]at htk;have jf:=ae htk;clear htk df jA;go_enter Tryz.func53,Tryz.ntmps53
         go_wp2_with (first
          | (go_at_call 75;((with_reducible refine(iV _ ?_ ?_ _).mono ?_);(first|omega|skip);(first|omega|skip);rintro e w' ⟨rfl,rfl⟩;rw[hn])))
         exact bodyPost_ret (jE (aC.zero w) _ _ 0 4 5 rE rfl rfl) rfl ⟨(ai _ _).alloc (ah _) _,.inr ⟨jf.o,_,rfl⟩⟩
     · rw [if_neg jA]at htk
       have Zt:(a == 35)=false:=beq_eq_false_iff_ne.2 jA;cases hl:isLet a
       · by_cases gF:a=36
         · rw [if_pos (.inr gF)]at htk
           have JZ:(a == 36)=true:=beq_iff_eq.2 gF;cases hq:l7 (aA s k)with
           | none =>
             rw[hq]at htk;have jf:=ae htk;clear htk;have hc:=GD s k (w.alloc (.cells jF 71)) _hs (Nat.le_of_lt _hk);rw[hq]at hc;have HC:=ae hc;clear hc hq df jA gF;go_enter Tryz.func53,Tryz.ntmps53
             go_wp2_with (first
              | (go_at_call 75;((with_reducible refine(iV _ ?_ ?_ _).mono ?_);(first|omega|skip);(first|omega|skip);rintro e w' ⟨rfl,rfl⟩;rw[hn]))|(go_at_call 79;((with_reducible refine(oJ _ ?_ ?_ _).mono ?_);(first|omega|skip);(first|omega|skip);rintro e w' ⟨rfl,rfl⟩;rw[hl]))
              | (go_at_call 80;((with_reducible refine HC.o.mono ?_);intro e w1 he;obtain⟨h1,t,rfl⟩:=mU.no he;have HB1:=ae (aU.o.trans (h1.mono aU.o.size));have HT1:=ae (aM.o.below h1 aM.o.lt);clear h1 he;obtain⟨x0,x1,x2,x3,x4,x5,x6,x7,av⟩:=HT1.o.cells;obtain⟨f0,f1,f2,f3,f4,f5,f6,f7,f8⟩:=HT1.o.bH)))
             exact bodyPost_ret (jE (HT1.o.gY t) _ _ 0 4 5 rE rfl rfl) rfl ⟨mX HB1.o (ah _) _ _ _ _ _ _ _ _ _,.inr ⟨jf.o,t,rfl⟩⟩
           | some q =>
             obtain⟨t,n⟩:=q;rw[hq]at htk;have jf:=ae htk;clear htk;have hc:=GD s k (w.alloc (.cells jF 71)) _hs (Nat.le_of_lt _hk);rw[hq]at hc;have HC:=ae hc;clear hc hq df jA gF;go_enter Tryz.func53,Tryz.ntmps53
             go_wp2_with (first
              | (go_at_call 75;((with_reducible refine(iV _ ?_ ?_ _).mono ?_);(first|omega|skip);(first|omega|skip);rintro e w' ⟨rfl,rfl⟩;rw[hn]))|(go_at_call 79;((with_reducible refine(oJ _ ?_ ?_ _).mono ?_);(first|omega|skip);(first|omega|skip);rintro e w' ⟨rfl,rfl⟩;rw[hl]))
              | (go_at_call 80;((with_reducible refine HC.o.mono ?_);intro e w1 he;obtain⟨h1,rfl⟩:=mU.yes he;have HB1:=ae (aU.o.trans (h1.mono aU.o.size));have HT1:=ae (aM.o.below h1 aM.o.lt);clear h1 he;obtain⟨x0,x1,x2,x3,x4,x5,x6,x7,av⟩:=HT1.o.cells;obtain⟨f0,f1,f2,f3,f4,f5,f6,f7,f8⟩:=HT1.o.bH)))
             exact bodyPost_ret (jE (HT1.o.gY (t.goto k)) _ _ (n:Int) 4 5 rE rfl rfl) rfl ⟨mX HB1.o (ah _) _ _ _ _ _ _ _ _ _,.inl ⟨t,n,jf.o,rfl⟩⟩
         · rw [if_neg (by rw[hl];simp;exact gF),aga]at htk
           have JZ:(a == 36)=false:=beq_eq_false_iff_ne.2 gF;have HC:=ae (aey s k (w.alloc (.cells jF 71)) _hs _hk);obtain⟨E,hE⟩:∃E,nR s k=E:=⟨_,rfl⟩;rw[hE]at HC htk;clear df jA gF hE;by_cases h0:E.size=0
           · rw [if_pos h0]at htk
             have jf:=ae htk;clear htk;have hei:(E.size:Int)=0:=by omega
             go_enter Tryz.func53,Tryz.ntmps53
             go_wp2_with (first
              | (go_at_call 75;((with_reducible refine(iV _ ?_ ?_ _).mono ?_);(first|omega|skip);(first|omega|skip);rintro e w' ⟨rfl,rfl⟩;rw[hn]))
              | (go_at_call 79;((with_reducible refine(oJ _ ?_ ?_ _).mono ?_);(first|omega|skip);(first|omega|skip);rintro e w' ⟨rfl,rfl⟩;rw[hl]))
              | (go_at_call 81;((with_reducible refine HC.o.mono ?_);rintro e w' ⟨rfl,rfl⟩)))
             exact bodyPost_ret (jE (aC.new w (({ ag.zero with kind:=5,text:=E }:ag).goto k)) _ _ 0 4 5 rE rfl rfl) rfl ⟨(ai _ _).alloc (ah _) _,.inr ⟨jf.o,(({ ag.zero with kind:=5,text:=E }:ag).goto k),rfl⟩⟩
           · rw [if_neg h0]at htk
             have jf:=ae htk;clear htk;go_enter Tryz.func53,Tryz.ntmps53
             go_wp2_with (first
              | (go_at_call 75;((with_reducible refine(iV _ ?_ ?_ _).mono ?_);(first|omega|skip);(first|omega|skip);rintro e w' ⟨rfl,rfl⟩;rw[hn]))
              | (go_at_call 79;((with_reducible refine(oJ _ ?_ ?_ _).mono ?_);(first|omega|skip);(first|omega|skip);rintro e w' ⟨rfl,rfl⟩;rw[hl]))
              | (go_at_call 81;((with_reducible refine HC.o.mono ?_);rintro e w' ⟨rfl,rfl⟩)))
             exact bodyPost_ret (jE (aC.new w (({ ag.zero with kind:=5,text:=E }:ag).goto k)) _ _ (E.size:Int) 4 5 rE rfl rfl) rfl ⟨(ai _ _).alloc (ah _) _,.inl ⟨_,E.size,jf.o,rfl⟩⟩
       · rw [if_pos (.inl hl)]at htk
         cases hq:l7 (aA s k)with
         | none =>
           rw[hq]at htk;have jf:=ae htk;clear htk;have hc:=GD s k (w.alloc (.cells jF 71)) _hs (Nat.le_of_lt _hk);rw[hq]at hc;have HC:=ae hc;clear hc hq df jA;go_enter Tryz.func53,Tryz.ntmps53
           go_wp2_with (first
            | (go_at_call 75;((with_reducible refine(iV _ ?_ ?_ _).mono ?_);(first|omega|skip);(first|omega|skip);rintro e w' ⟨rfl,rfl⟩;rw[hn]))|(go_at_call 79;((with_reducible refine(oJ _ ?_ ?_ _).mono ?_);(first|omega|skip);(first|omega|skip);rintro e w' ⟨rfl,rfl⟩;rw[hl]))
            | (go_at_call 80;((with_reducible refine HC.o.mono ?_);intro e w1 he;obtain⟨h1,t,rfl⟩:=mU.no he;have HB1:=ae (aU.o.trans (h1.mono aU.o.size));have HT1:=ae (aM.o.below h1 aM.o.lt);clear h1 he;obtain⟨x0,x1,x2,x3,x4,x5,x6,x7,av⟩:=HT1.o.cells;obtain⟨f0,f1,f2,f3,f4,f5,f6,f7,f8⟩:=HT1.o.bH)))
           exact bodyPost_ret (jE (HT1.o.gY t) _ _ 0 4 5 rE rfl rfl) rfl ⟨mX HB1.o (ah _) _ _ _ _ _ _ _ _ _,.inr ⟨jf.o,t,rfl⟩⟩
         | some q =>
           obtain⟨t,n⟩:=q;rw[hq]at htk;have jf:=ae htk;clear htk;have hc:=GD s k (w.alloc (.cells jF 71)) _hs (Nat.le_of_lt _hk);rw[hq]at hc;have HC:=ae hc;clear hc hq df jA;go_enter Tryz.func53,Tryz.ntmps53
           go_wp2_with (first
            | (go_at_call 75;((with_reducible refine(iV _ ?_ ?_ _).mono ?_);(first|omega|skip);(first|omega|skip);rintro e w' ⟨rfl,rfl⟩;rw[hn]))|(go_at_call 79;((with_reducible refine(oJ _ ?_ ?_ _).mono ?_);(first|omega|skip);(first|omega|skip);rintro e w' ⟨rfl,rfl⟩;rw[hl]))
            | (go_at_call 80;((with_reducible refine HC.o.mono ?_);intro e w1 he;obtain⟨h1,rfl⟩:=mU.yes he;have HB1:=ae (aU.o.trans (h1.mono aU.o.size));have HT1:=ae (aM.o.below h1 aM.o.lt);clear h1 he;obtain⟨x0,x1,x2,x3,x4,x5,x6,x7,av⟩:=HT1.o.cells;obtain⟨f0,f1,f2,f3,f4,f5,f6,f7,f8⟩:=HT1.o.bH)))
           exact bodyPost_ret (jE (HT1.o.gY (t.goto k)) _ _ (n:Int) 4 5 rE rfl rfl) rfl ⟨mX HB1.o (ah _) _ _ _ _ _ _ _ _ _,.inl ⟨t,n,jf.o,rfl⟩⟩
 · rw [hn,if_pos rfl]at htk
   cases hq:kF (aA s k)with
   | none =>
     rw[hq]at htk;have jf:=ae htk;clear htk;have hc:=Tj s k (w.alloc (.cells jF 71)) _hs (Nat.le_of_lt _hk);rw[hq]at hc;have HC:=ae hc;clear hc hq;go_enter Tryz.func53,Tryz.ntmps53
     go_wp2_with (first
      | (go_at_call 75;((with_reducible refine(iV _ ?_ ?_ _).mono ?_);(first|omega|skip);(first|omega|skip);rintro e w' ⟨rfl,rfl⟩;rw[hn]))
      | (go_at_call 77;((with_reducible refine HC.o.mono ?_);intro e w1 he;obtain⟨h1,t,rfl⟩:=mU.no he;have HB1:=ae (aU.o.trans (h1.mono aU.o.size));have HT1:=ae (aM.o.below h1 aM.o.lt);clear h1 he;obtain⟨x0,x1,x2,x3,x4,x5,x6,x7,av⟩:=HT1.o.cells;obtain⟨f0,f1,f2,f3,f4,f5,f6,f7,f8⟩:=HT1.o.bH)))
     exact bodyPost_ret (jE (HT1.o.gY t) _ _ 0 4 5 rE rfl rfl) rfl ⟨mX HB1.o (ah _) _ _ _ _ _ _ _ _ _,.inr ⟨jf.o,t,rfl⟩⟩
   | some q =>
     obtain⟨t,n⟩:=q;rw[hq]at htk;have jf:=ae htk;clear htk;have hc:=Tj s k (w.alloc (.cells jF 71)) _hs (Nat.le_of_lt _hk);rw[hq]at hc;have HC:=ae hc;clear hc hq;go_enter Tryz.func53,Tryz.ntmps53
     go_wp2_with (first
      | (go_at_call 75;((with_reducible refine(iV _ ?_ ?_ _).mono ?_);(first|omega|skip);(first|omega|skip);rintro e w' ⟨rfl,rfl⟩;rw[hn]))
      | (go_at_call 77;((with_reducible refine HC.o.mono ?_);intro e w1 he;obtain⟨h1,rfl⟩:=mU.yes he;have HB1:=ae (aU.o.trans (h1.mono aU.o.size));have HT1:=ae (aM.o.below h1 aM.o.lt);clear h1 he;obtain⟨x0,x1,x2,x3,x4,x5,x6,x7,av⟩:=HT1.o.cells;obtain⟨f0,f1,f2,f3,f4,f5,f6,f7,f8⟩:=HT1.o.bH)))
     exact bodyPost_ret (jE (HT1.o.gY (t.goto k)) _ _ (n:Int) 4 5 rE rfl rfl) rfl ⟨mX HB1.o (ah _) _ _ _ _ _ _ _ _ _,.inl ⟨t,n,jf.o,rfl⟩⟩
def lq(w:World)(b:Nat)(v:Value)(e:Int):Prop:=w.heap[b]? = some (.cells #[v,.int .i64 e] 65)
theorem lq.lt{w:World}{b:Nat}{v:Value}{e:Int}(h:lq w b v e):b<w.heap.size:=(dO.1 h).1
theorem lq.below{w w':World}{B b:Nat}{v:Value}{e:Int}(h:lq w b v e)(hb:Below B w w')(hB:b<B):lq w' b v e:=by unfold lq;rw[hb.block b hB];exact h
theorem lq.facts {w:World}{b:Nat}{v:Value}{e:Int}(h:lq w b v e):w.cell? ⟨b,0,none⟩=some v∧w.cell? ⟨b,1,none⟩=some (.int .i64 e) :=
 ⟨by rw[cell_of_row w b 0 _ _ _ h];rfl,by rw[cell_of_row w b 1 _ _ _ h];rfl⟩
theorem lq.bH{w:World}{b:Nat}{v:Value}{e:Int}(h:lq w b v e):w.frozen? ⟨b,0,none⟩=false∧w.frozen? ⟨b,1,none⟩=false:=⟨frozen_of_row w b 0 _ _ h,frozen_of_row w b 1 _ _ h⟩
theorem lq.nQ {w:World}{b:Nat}{v0:Value}{e0:Int}(h:lq w b v0 e0)(v:Value)(e:Int):lq ((w.setCell ⟨b,0,none⟩ v).setCell ⟨b,1,none⟩ (.int .i64 e)) b v e:=by
 have h1:(w.setCell ⟨b,0,none⟩ v).heap[b]? = some (.cells #[v,.int .i64 e0] 65):=by rw[heap_setCell_same w b 0 _ _ _ h];rfl
 unfold lq;rw[heap_setCell_same _ b 1 _ _ _ h1];rfl
theorem lq.new(w:World)(v:Value)(e:Int):lq (w.alloc (.cells #[v,.int .i64 e] 65)) w.heap.size v e:=(ko w _).1
theorem abQ:(Tryz.prog.info? 65).map (·.size)=some 2:=by kernel_rfl
theorem Le {w:World}{b:Nat}{v:Value}{e:Int}(h:lq w b v e)(fn:Func)(tmps:Array Value)(p:Tmp)(hf:fn.results=#[.cell p 65])(hp:tmps.getD p undef = .pointer (some ⟨b,0,none⟩)) :
 (results fn tmps).run Tryz.prog w = .ok (.agg #[v,.int .i64 e]) w :=
 results_cell_row hf tmps w b _ _ _ _ hp h Tryz.underlying65 rfl abQ
theorem LF:Tryz.f30.results=#[.cell 2 65]:=by kernel_rfl
def EI (s:ByteArray)(w:World)(e:Ending)(w':World):Prop :=
 Below w.heap.size w w'∧((300<s.size∧e = .returned (.agg #[.slice none 0 0,.int .i64 4]))∨(s.size≤300∧fT (sb s)=none∧e = .returned (.agg #[.slice none 0 0,.int .i64 5])) ∨
  (s.size≤300∧∃ts v,fT (sb s)=some ts∧e = .returned (.agg #[v,.int .i64 0])∧rq w' w.heap.size v ts))
theorem Own.L6 {α : Type}{size:Nat}{E:Enc α size}{e:TypeId}{w:World}{base r:Nat}{v:Value}{xs:List α}(h:Own E e w base v xs)(hr:r<base)(a b:Value):Own E e ((w.setCell ⟨r,0,none⟩ a).setCell ⟨r,1,none⟩ b) base v xs :=
 Own.other h (grownBy.gp (grownBy.gp (grownBy.fo _ _) _ _) _ _) hr
theorem Tg (s:ByteArray)(w:World):Calls Tryz.prog 30 #[.string s] w (EI s w):=by
 by_cases qj:300<s.size
 · have hi:(300:Int)<(s.size:Int):=by omega
   go_enter Tryz.func30,Tryz.ntmps30;go_wp2_with fail
   exact bodyPost_ret (Le (lq.new w (.slice none 0 0) 4) _ _ 2 LF rfl) rfl ⟨(ai _ _).alloc (ah _) _,.inl ⟨qj,rfl⟩⟩
 have hi:¬ (300:Int)<(s.size:Int):=by omega
 have hs0:s.size≤1000000:=by omega
 obtain⟨eb,jK,bV⟩:=Elem.tok;have jH:=ae bV;clear bV;have Cq:=ae (lq.new w (.slice none 0 0) 0);have aU:=ae (show Below w.heap.size w (w.alloc (.cells #[.slice none 0 0,.int .i64 0] 65))from(ai _ _).alloc (ah _) _);have Co:=ae (show fT (sb s)=(kX s 0).map (([]:List ag) ++ ·)by rw[Rf];cases kX s 0 <;> rfl);go_enter Tryz.func30,Tryz.ntmps30;go_wp2_with fail
 go_loopw [3,4] (fun v i wr=>∃(p:Nat)(acc:List ag),i = .int .i64 (p:Int)∧p≤s.size∧acc.length≤p∧Hid (fT (sb s)=(kX s p).map (acc ++ ·))∧Hid (rq wr (w.heap.size+1) v acc)∧Hid (lq wr w.heap.size (.slice none 0 0) 0)∧Hid (Below w.heap.size w wr))
  (fun _ i _=>s.size - (intOf i).toNat)
 case atStart=>exact⟨0,[],rfl,by omega,by simp,Co,ae (Own.nil _ _ _ _),Cq,aU⟩
 case round =>
  clear Co Cq aU;obtain⟨p,acc,rfl,hps,hal,HL,HO,HK,HB⟩:=hrel;by_cases hlt:p<s.size
  · have kE:(p:Int)<(s.size:Int):=by omega
    obtain⟨a,ha⟩:∃a:Int,(s[p].toNat:Int)=a:=⟨_,rfl⟩;by_cases h32:a=32
    · have Zq:(a == 32)=true:=beq_iff_eq.2 h32
      have HL2:=ae (show fT (sb s)=(kX s (p+1)).map (acc ++ ·)by rw[HL.o,Ri s p hlt (by rw[ha];exact h32)]);clear h32;go_wp2_with fail
      go_roundw
      case rel=>exact⟨p+1,acc,by go_num,by omega,by omega,HL2,HO,HK,HB⟩
      case measure=>simp[intOf];omega
    · have Zq:(a == 32)=false:=beq_eq_false_iff_ne.2 h32
      have Fp:¬ ((s[p].toNat:Nat):Int)=32:=by rw[ha];exact h32
      have hT:=aeC s p wr hs0 hlt;cases hq:eO (aA s p)with
      | none =>
        rw[hq]at hT;have HT:=ae hT;clear hT;have HN:=ae (show fT (sb s)=none by rw[HL.o,Rk s p hlt Fp hq];rfl);clear hq h32 Fp;go_upto_region 10 with (go_at_call 53;((with_reducible refine HT.o.mono ?_);intro e w1 he;obtain⟨h1,t,rfl⟩:=mU.no he;have HB1:=ae (HB.o.trans (h1.mono HB.o.size));have lN:=ae (HK.o.below h1 HK.o.lt);clear h1 he))
        have hB3:Below w1.heap.size w1 (w1.alloc (.cells #[.int .i64 t.kind,.string t.text,.int .i64 t.num,.string t.sh,.int .i64 t.c,.int .i64 t.r,.bool t.ac,.bool t.ar,.int .i64 t.pos] 71)):=(ai _ _).alloc (ah _) _;have HB3:=ae (HB1.o.trans (hB3.mono HB1.o.size));have nW:=ae (lN.o.below hB3 lN.o.lt);clear hB3;generalize w1.alloc (.cells #[.int .i64 t.kind,.string t.text,.int .i64 t.num,.string t.sh,.int .i64 t.c,.int .i64 t.r,.bool t.ac,.bool t.ar,.int .i64 t.pos] 71)=w3 at HB3 nW ⊢;obtain⟨c0,c1⟩:=nW.o.facts;obtain⟨f0,f1⟩:=nW.o.bH;go_wp2_with fail
        exact bodyPost_ret (Le (nW.o.nQ (.slice none 0 0) 5) _ _ 2 LF rfl) rfl ⟨(HB3.o.setCell (ah _) _).setCell (ah _) _,.inr (.inl ⟨by omega,HN.o,rfl⟩)⟩
      | some q =>
        obtain⟨t0,n0⟩:=q;rw[hq]at hT;obtain⟨t1,ht1⟩:∃t1,t0.goto p=t1:=⟨_,rfl⟩;have HT:=ae hT;clear hT;have hn0:=qK _ _ _ hq;rw[ny]at hn0
        have xG:=ae (show fT (sb s)=(kX s (p+n0)).map ((acc++[t0.goto p]) ++ ·)by
         rw[HL.o,Rl s p hlt Fp t0 n0 hq,Option.map_map];congr 1;funext l;simp)
        have hn1:((n0:Int) == 0)=false:=beq_eq_false_iff_ne.2 (by omega);clear hq HL h32 Fp ht1;go_upto_region 11 with (go_at_call 53;((with_reducible refine HT.o.mono ?_);intro e w1 he;obtain⟨h1,rfl⟩:=mU.yes he;have HB1:=ae (HB.o.trans (h1.mono HB.o.size));have lN:=ae (HK.o.below h1 HK.o.lt);have fB:=ae (Own.below HO.o h1 (ah _));clear h1 he))
        have hB3:Below w1.heap.size w1 (w1.alloc (.cells #[.int .i64 t0.kind,.string t0.text,.int .i64 t0.num,.string t0.sh,.int .i64 t0.c,.int .i64 t0.r,.bool t0.ac,.bool t0.ar,.int .i64 (p:Int)] 71)):=(ai _ _).alloc (ah _) _;have aB:aC (w1.alloc (.cells #[.int .i64 t0.kind,.string t0.text,.int .i64 t0.num,.string t0.sh,.int .i64 t0.c,.int .i64 t0.r,.bool t0.ac,.bool t0.ar,.int .i64 (p:Int)] 71)) w1.heap.size (t0.goto p):=aC.new w1 (t0.goto p);have HB3:=ae (HB1.o.trans (hB3.mono HB1.o.size));have nW:=ae (lN.o.below hB3 lN.o.lt);have fZ:=ae (Own.below fB.o hB3 (ah _));clear hB3 HT HB1 lN fB HB HK HO;generalize w1.alloc (.cells #[.int .i64 t0.kind,.string t0.text,.int .i64 t0.num,.string t0.sh,.int .i64 t0.c,.int .i64 t0.r,.bool t0.ac,.bool t0.ar,.int .i64 (p:Int)] 71)=w3 at HB3 nW fZ aB ⊢;obtain⟨y0,y1,y2,y3,y4,fq,y6,lL,nE⟩:=aB.cells;clear aB;simp only[ag.goto]at y0 y1 y2 y3 y4 fq y6 lL nE;go_wp2_with (at_builtin;refine nC jH.o zm rfl (.tmp 30) (.tmp 32) rfl (w.heap.size+1) _ _ rfl (fZ.o.alloc _) ⟨_,0,none⟩ 1 1 [t0.goto p] rfl rfl ?_ ?_ ?_ ?_ ?_;exact gQ _ _ _ rfl;exact bF (Nat.mul_le_mul_left _ jK) (by omega);(unfold maxLen;omega);(have:=nW.o.lt;simp <;> omega);intro v' nD h1 h2;have oQ:=ae h1;have ku:=ae (((ai (w.heap.size+1) _).alloc (by have:=nW.o.lt;omega) _).trans h2);clear h1 h2)
        go_roundw
        case rel=>exact⟨p+n0,acc++[t0.goto p],by go_num,by omega,by simp;omega,xG,oQ,ae (nW.o.below ku.o (Nat.lt_succ_self _)),ae (HB3.o.trans (ku.o.mono (Nat.le_succ _)))⟩
        case measure=>simp[intOf];omega
  · have kE:¬ (p:Int)<(s.size:Int):=by omega
    have hpz:p=s.size:=by omega
    have HN:=ae (show fT (sb s)=some (acc++[ag.zero.goto p])by rw[HL.o,Rj s p (by omega)];rfl);clear HL;obtain⟨c0,c1⟩:=HK.o.facts;obtain⟨f0,f1⟩:=HK.o.bH;go_wp2_with (at_builtin;refine nC jH.o zm rfl (.tmp 37) (.tmp 41) rfl (w.heap.size+1) _ _ rfl (HO.o.alloc _) ⟨_,0,none⟩ 1 1 [ag.zero.goto s.size] rfl rfl ?_ ?_ ?_ ?_ ?_;exact gQ _ _ _ rfl;exact bF (Nat.mul_le_mul_left _ jK) (by omega);(unfold maxLen;omega);(have:=HK.o.lt;simp <;> omega);intro v' nD h1 h2;obtain⟨gz,XY,rfl,_,_,_,_⟩:=Own.some h1 (by simp);have oQ:=ae h1;have ku:=ae (((ai (w.heap.size+1) _).alloc (by have:=HK.o.lt;omega) _).trans h2);clear h1 h2;have Ip:=ae (HK.o.below ku.o (Nat.lt_succ_self _));clear c0 c1 f0 f1;obtain⟨c0,c1⟩:=Ip.o.facts;obtain⟨f0,f1⟩:=Ip.o.bH)
    exact bodyPost_ret (Le (Ip.o.nQ _ 0) _ _ 2 LF rfl) rfl ⟨((HB.o.trans (ku.o.mono (Nat.le_succ _))).setCell (ah _) _).setCell (ah _) _,.inr (.inr ⟨by omega,_,_,HN.o,rfl,by have h9:=(Own.L6 oQ.o (Nat.lt_succ_self _) (.slice (some ⟨gz,0,none⟩) (acc.length+1) XY) (.int .i64 0)).mono (Nat.le_succ _);rw[show(acc++[ag.zero.goto s.size]).length=acc.length+1 by simp]at h9;rw[hpz];exact h9⟩)⟩
structure aZ (w:World)(b:Nat)(tv:Value)(ts:List ag)(p:Nat)(d er:Int)(nv:Value)(vs:List az):Prop where
 cell:w.heap[b]? = some (.cells #[tv,.int .i64 (p:Int),.int .i64 d,.int .i64 er,nv] 69)
 pU:zf w b tv ts
 nodes:jI w (b+1) nv vs
 lt:p<ts.length
 fit:Fit ts
 few:ts.length≤1000
 cnt:vs.length≤ts.length+100
section
variable {w:World} {b:Nat} {tv:Value} {ts:List ag} {p:Nat} {d er:Int} {nv:Value} {vs:List az}
theorem aZ.blt(h:aZ w b tv ts p d er nv vs):b<w.heap.size:=(dO.1 h.cell).1
theorem aZ.below {w':World}(h:aZ w b tv ts p d er nv vs)(hb:Below w.heap.size w w'):aZ w' b tv ts p d er nv vs:=by
 have hl:=h.blt;refine⟨by rw[hb.block b hl];exact h.cell, ?_,h.nodes.keep fun g _ hg=>hb.block g hg,h.lt,h.fit,h.few,h.cnt⟩;obtain⟨g,cap,h1,h2,h3⟩:=h.pU;exact⟨g,cap,h1,h2,h3.keep fun g _ hg _=>hb.block g hg⟩
theorem aZ.facts (h:aZ w b tv ts p d er nv vs):w.cell? ⟨b,0,none⟩=some tv∧w.cell? ⟨b,1,none⟩=some (.int .i64 (p:Int))∧w.cell? ⟨b,2,none⟩=some (.int .i64 d)∧w.cell? ⟨b,3,none⟩=some (.int .i64 er)∧w.cell? ⟨b,4,none⟩=some nv :=
 ⟨by rw[cell_of_row w b 0 _ _ _ h.cell];rfl,by rw[cell_of_row w b 1 _ _ _ h.cell];rfl,by rw[cell_of_row w b 2 _ _ _ h.cell];rfl,by rw[cell_of_row w b 3 _ _ _ h.cell];rfl,by rw[cell_of_row w b 4 _ _ _ h.cell];rfl⟩
theorem aZ.frozen(h:aZ w b tv ts p d er nv vs)(j:Nat):w.frozen? ⟨b,j,none⟩=false:=frozen_of_row w b j _ _ h.cell
theorem aZ.L8 (h:aZ w b tv ts p d er nv vs)(m:Nat)(hm:m<ts.length):aZ (w.setCell ⟨b,1,none⟩ (.int .i64 (m:Int))) b tv ts m d er nv vs :=
 ⟨by rw[heap_setCell_same w b 1 _ _ _ h.cell];rfl,h.pU.set _ _,h.nodes.set (by omega) _ _,hm,h.fit,h.few,h.cnt⟩
theorem aZ.next(h:aZ w b tv ts p d er nv vs)(hm:p+1<ts.length):aZ (w.setCell ⟨b,1,none⟩ (.int .i64 ((p:Int)+1))) b tv ts (p+1) d er nv vs:=h.L8 (p+1) hm
theorem aZ.pK (h:aZ w b tv ts p d er nv vs)(m:Int):aZ (w.setCell ⟨b,2,none⟩ (.int .i64 m)) b tv ts p m er nv vs :=
 ⟨by rw[heap_setCell_same w b 2 _ _ _ h.cell];rfl,h.pU.set _ _,h.nodes.set (by omega) _ _,h.lt,h.fit,h.few,h.cnt⟩
theorem aZ.afx (h:aZ w b tv ts p d er nv vs)(m:Int):aZ (w.setCell ⟨b,3,none⟩ (.int .i64 m)) b tv ts p d m nv vs :=
 ⟨by rw[heap_setCell_same w b 3 _ _ _ h.cell];rfl,h.pU.set _ _,h.nodes.set (by omega) _ _,h.lt,h.fit,h.few,h.cnt⟩
theorem aZ.tok (h:aZ w b tv ts p d er nv vs):∃g cap t,tv = .slice (some ⟨g,0,none⟩) ts.length cap∧ts[p]? = some t∧ts.drop p=t :: ts.drop (p+1)∧g<b∧w.cell? ⟨g,p*9,none⟩=some (.int .i64 t.kind)∧w.cell? ⟨g,p*9+1,none⟩=some (.string t.text)∧w.cell? ⟨g,p*9+2,none⟩=some (.int .i64 t.num)∧w.cell? ⟨g,p*9+3,none⟩=some (.string t.sh)∧w.cell? ⟨g,p*9+4,none⟩=some (.int .i64 t.c)∧w.cell? ⟨g,p*9+5,none⟩=some (.int .i64 t.r)∧w.cell? ⟨g,p*9+6,none⟩=some (.bool t.ac)∧w.cell? ⟨g,p*9+7,none⟩=some (.bool t.ar)∧w.cell? ⟨g,p*9+8,none⟩=some (.int .i64 t.pos):=by
 obtain⟨g,cap,h1,h2,h3⟩:=h.pU;have hl:=h.lt;rw[h1]at h3;have hc:=fun j hj=>rq.cell h3 p _ (dm hl) j hj
 exact⟨g,cap,ts[p],h1,dm hl,List.drop_eq_getElem_cons hl,h2,hc 0 (by omega),hc 1 (by omega),hc 2 (by omega),hc 3 (by omega),hc 4 (by omega),hc 5 (by omega),hc 6 (by omega),hc 7 (by omega),hc 8 (by omega)⟩
theorem aZ.row (h:aZ w b tv ts p d er nv vs):∀g,nv.ownBlock=some g→b<g∧AX w g:=by
 intro g e;rcases h.nodes.1.2 with ⟨h1,_⟩|⟨g',cap,cur,h1,h2,h3,_⟩
 · rw[h1]at e;cases e
 · rw[h1]at e;injection e with e
   have e:g'=g:=e;subst e;exact⟨by omega,cur,_,h3⟩
theorem aZ.Ze {w':World}(h:aZ w b tv ts p d er nv vs)(hg:w.grownBy w' nv.ownBlock):w'.cell? ⟨b,4,none⟩=some nv∧w'.frozen? ⟨b,4,none⟩=false:=by
 have hbb:w'.heap[b]? = w.heap[b]? := hg.block b h.blt (by intro e;have:=(h.row b e.symm).1;omega);have hc:=hbb.trans h.cell;exact⟨by rw[cell_of_row w' b 4 _ _ _ hc];rfl,frozen_of_row w' b 4 _ _ hc⟩
theorem aZ.grow {w':World}{aT:Value}{v:az}(h:aZ w b tv ts p d er nv vs)(hg:w.grownBy w' nv.ownBlock)(ho:Own o8 45 w' (b+1) aT (vs++[v]))
 (hk:Own (aK .i64) 3 w (b+1) v.aS v.n.kids) (hc:vs.length+1≤ts.length+100):aZ (w'.setCell ⟨b,4,none⟩ aT) b tv ts p d er aT (vs++[v])∧Fr w (w'.setCell ⟨b,4,none⟩ aT) b:=by
 have zH:=h.row;have hfr:Fr w w' b:=(Fr.refl w b).row hg (fun g e=>⟨(zH g e).1,.inr (zH g e).2⟩);have hbb:w'.heap[b]? = w.heap[b]? := hg.block b h.blt (by intro e;have:=(zH b e.symm).1;omega);refine⟨⟨?_, ?_,⟨ho.keep fun j hj _ _=>fO _ _ _ _ (by show j≠b;omega), ?_⟩,h.lt,h.fit,h.few,by rw[ak,fK];exact hc⟩,hfr.setCell _ _⟩
 · rw[heap_setCell_same w' b 4 _ _ _ (hbb.trans h.cell)];rfl
 · have h1:zf w' b tv ts:=by
    obtain⟨g,cap,h1,h2,h3⟩:=h.pU;exact⟨g,cap,h1,h2,h3.keep fun j _ hj e=>hfr.block j hj (by rw[h1]at e;injection e with e;have:g=j:=e;omega) (.inl (by rw[h1]at e;injection e with e;have:g=j:=e;omega))⟩
   exact h1.set _ _
 · intro u hu
   have h1:Own (aK .i64) 3 w (b+1) u.aS u.n.kids:=by
    rcases List.mem_append.1 hu with hu|hu
    · exact h.nodes.2 u hu
    · rw[List.mem_singleton.1 hu];exact hk
   exact(h1.fr hfr (by omega) (by decide)).keep fun j hj _ _=>fO _ _ _ _ (by show j≠b;omega)
theorem aZ.kids {w':World}(h:aZ w b tv ts p d er nv vs){r:Option Nat}(hg:w.grownBy w' r)(hr:∀g,r=some g→b<g∧¬ AX w g∧∀v∈vs,v.aS.ownBlock≠some g):aZ w' b tv ts p d er nv vs:=by
 refine⟨?_, ?_,⟨h.nodes.1.keep ?_,fun v hv=>(h.nodes.2 v hv).keep ?_⟩,h.lt,h.fit,h.few,h.cnt⟩
 · rw[hg.block b h.blt (by intro e;have:=(hr b e.symm).1;omega)];exact h.cell
 · obtain ⟨g,cap,h1,h2,h3⟩:=h.pU
   exact ⟨g,cap,h1,h2,h3.keep fun j _ hj e=>hg.block j hj (by
    intro e2;have:=(hr j e2.symm).1;rw[h1]at e;injection e with e;have:g=j:=e;omega)⟩
 · intro g h1 h2 h3
   exact hg.block g h2 (fun e=>(hr g e.symm).2.1 (h.row g h3).2)
 · intro g h1 h2 h3
   exact hg.block g h2 (fun e=>(hr g e.symm).2.2 v hv h3)
end
def vW (b n:Nat)(w:World):Nat:=match w.cell? ⟨b,3,none⟩with
 | some (.int _ e)=>if e=0 then n+1 - (match w.cell? ⟨b,1,none⟩with|some (.int _ m)=>m.toNat|_=>0)else 0
 | _=>0
theorem aZ.vW {w:World}{b:Nat}{tv:Value}{ts:List ag}{p:Nat}{d er:Int}{nv:Value}{vs:List az}(h:aZ w b tv ts p d er nv vs)(n:Nat):vW b n w=if er=0 then n+1 - p else 0:=by
 unfold Go.Proofs.YtaobhjliflomaaaGreatDoor.vW;rw[h.facts.2.2.2.1,h.facts.2.1];rfl
theorem yD {w:World}{b:Nat}{tv:Value}{ts:List ag}{p:Nat}{d er:Int}{nv:Value}{vs:List az}(h:aZ w b tv ts p d er nv vs){s:ByteArray}(hs:au s (ts.drop p)=true):p+1<ts.length:=by
 obtain⟨g,cap,t, -,ht,hd, -⟩:=h.tok;rw[GV hd,dA,decide_eq_true_iff]at hs;exact h.fit.next ht (by omega)
theorem xk {w:World}{b:Nat}{tv:Value}{ts:List ag}{p:Nat}{d er:Int}{nv:Value}{vs:List az}(h:aZ w b tv ts p d er nv vs)(s:ByteArray) :
 Calls Tryz.prog 56 #[.pointer (some ⟨b,0,none⟩),.string s] w fun e w'=>e = .returned (.bool (decide (er=0)&&au s (ts.drop p)))∧Below w.heap.size w w':=by
 obtain⟨c0,c1,c2,c3,c4⟩:=h.facts;obtain⟨g,cap,t,rfl,ht,hd, -,k0,k1, -⟩:=h.tok;have hlt:=h.lt;have HS:=ae (GV (s:=s) hd);have hi1:(0:Int)≤(p:Int):=by omega
 have hi2:(p:Int)<(ts.length:Int):=by omega
 obtain⟨n,hn⟩:∃n,ts.length=n:=⟨_,rfl⟩;rw[hn]at hi2 hlt c0;clear h ht hd hn c2 c4;by_cases he:er=0
 · have ee:(er == 0)=true:=beq_iff_eq.2 he
   have HE:=ae (decide_eq_true he);clear he;by_cases h5:t.kind=5
   · have e5:(t.kind == 5)=true:=beq_iff_eq.2 h5
     by_cases hs:t.text=s
     · have hs1:(t.text.toList == s.toList)=true:=by rw[hs];simp
       have hs2:t.text.toList=s.toList:=by rw[hs]
       have HR:=ae (show(decide (er=0)&&au s (ts.drop p))=true by rw[HE.o,HS.o,decide_eq_true h5,decide_eq_true hs];rfl);clear h5 hs;go_enter Tryz.func56,Tryz.ntmps56;go_wp2_with fail
       go_quiet (fail)
       go_wp2_with fail
       go_ret;exact⟨by rw[HR.o] <;> rfl,o7 (ai _ _) nq⟩
     · have hs1:(t.text.toList == s.toList)=false:=beq_eq_false_iff_ne.2 (pR _ _ hs)
       have hs2:¬ t.text.toList=s.toList:=pR _ _ hs;have HR:=ae (show(decide (er=0)&&au s (ts.drop p))=false by rw[HE.o,HS.o,decide_eq_true h5,decide_eq_false hs];rfl);clear h5 hs;go_enter Tryz.func56,Tryz.ntmps56;go_wp2_with fail
       go_quiet (fail)
       go_wp2_with fail
       go_ret;exact⟨by rw[HR.o] <;> rfl,o7 (ai _ _) nq⟩
   · have e5:(t.kind == 5)=false:=beq_eq_false_iff_ne.2 h5
     have HR:=ae (show(decide (er=0)&&au s (ts.drop p))=false by rw[HE.o,HS.o,decide_eq_false h5];rfl);clear h5;go_enter Tryz.func56,Tryz.ntmps56;go_wp2_with fail
     go_quiet (fail)
     go_wp2_with fail
     go_ret;exact⟨by rw[HR.o] <;> rfl,o7 (ai _ _) nq⟩
 · have ee:(er == 0)=false:=beq_eq_false_iff_ne.2 he
   have HR:=ae (show(decide (er=0)&&au s (ts.drop p))=false by rw[decide_eq_false he];rfl);clear he;go_enter Tryz.func56,Tryz.ntmps56;go_wp2_with fail
   go_quiet (fail)
   go_wp2_with fail
   go_ret;exact⟨by rw[HR.o] <;> rfl,o7 (ai _ _) nq⟩
def ui(b:Nat)(tv:Value)(ts:List ag)(p:Nat)(d er:Int)(nv:Value)(vs:List az)(c:Int)(w':World):Prop:=aZ w' b tv ts p d (if er=0 then c else er) nv vs
theorem Af {w:World}{b:Nat}{tv:Value}{ts:List ag}{p:Nat}{d er:Int}{nv:Value}{vs:List az}(h:aZ w b tv ts p d er nv vs)(c:Int) :
 Calls Tryz.prog 32 #[.pointer (some ⟨b,0,none⟩),.int .i64 c] w fun e w'=>e = .returned (.tuple #[])∧Fr w w' b∧ui b tv ts p d er nv vs c w':=by
 obtain⟨c0,c1,c2,c3,c4⟩:=h.facts;have f3:=h.frozen 3;have HP:=ae h;clear h c0 c1 c2 c4;by_cases he:er=0
 · have ee:(er == 0)=true:=beq_iff_eq.2 he
   have HE:=ae he;clear he;go_enter Tryz.func32,Tryz.ntmps32;go_wp2_with fail
   have hq:ui b tv ts p d er nv vs c (w.setCell ⟨b,3,none⟩ (.int .i64 c)):=by unfold ui;rw[if_pos HE.o];exact HP.o.afx c
   first
    | exact bodyPost_ret (results_none rfl _ _ _) rfl ⟨rfl,(Fr.refl _ _).setCell _ _,hq⟩
    | (go_end0;exact⟨rfl,(Fr.refl _ _).setCell _ _,hq⟩)
 · have ee:(er == 0)=false:=beq_eq_false_iff_ne.2 he
   have HE:=ae he;clear he;go_enter Tryz.func32,Tryz.ntmps32;go_wp2_with fail
   have hq:ui b tv ts p d er nv vs c w:=by unfold ui;rw[if_neg HE.o];exact HP.o
   first
    | exact bodyPost_ret (results_none rfl _ _ _) rfl ⟨rfl,Fr.refl _ _,hq⟩
    | (go_end0;exact⟨rfl,Fr.refl _ _,hq⟩)
def Jq (b:Nat)(tv:Value)(ts:List ag)(p:Nat)(d er:Int)(nv:Value)(vs:List az)(s:ByteArray)(w':World):Prop :=
 (er≠0∧aZ w' b tv ts p d er nv vs)∨(er=0∧au s (ts.drop p)=true∧aZ w' b tv ts (p+1) d 0 nv vs)∨(er=0∧au s (ts.drop p)=false∧aZ w' b tv ts p d 5 nv vs)
theorem BL {w:World}{b:Nat}{tv:Value}{ts:List ag}{p:Nat}{d er:Int}{nv:Value}{vs:List az}(h:aZ w b tv ts p d er nv vs)(s:ByteArray) :
 Calls Tryz.prog 109 #[.pointer (some ⟨b,0,none⟩),.string s] w fun e w'=>e = .returned (.tuple #[])∧Fr w w' b∧Jq b tv ts p d er nv vs s w':=by
 have HS:=ae (xk h s);have HP:=ae h;have jZ:=h.few;have hlt:=h.lt;obtain⟨q,hq⟩:∃q,(decide (er=0)&&au s (ts.drop p))=q:=⟨_,rfl⟩;rw[hq]at HS;cases q
 · have HF:=ae (fun w1 (h1:Below w.heap.size w w1)=>Af (HP.o.below h1) 5)
   have HQ:=ae hq;clear h hq;go_enter Tryz.func109,Tryz.ntmps109
   go_wp2_with (first
    | (go_at_call 56;((with_reducible refine HS.o.mono ?_);rintro e w1 ⟨rfl,h1⟩;have HB:=ae h1;clear h1))
    | (go_at_call 32;((with_reducible refine(HF.o _ HB.o).mono ?_);rintro e w2 ⟨rfl,h1,h2⟩;have bI:=ae h1;have dB:=ae h2;clear h1 h2)))
   have fin:Jq b tv ts p d er nv vs s w2:=by
    have hP:=dB.o;unfold ui at hP;by_cases he:er=0
    · rw[if_pos he]at hP
      have:=HQ.o;rw[decide_eq_true he,Bool.true_and]at this;exact .inr (.inr ⟨he,this,hP⟩)
    · rw[if_neg he]at hP
      exact .inl ⟨he,hP⟩
   first
    | exact bodyPost_ret (results_none rfl _ _ _) rfl ⟨rfl,(Fr.of b HB.o).trans bI.o,fin⟩
    | (go_end0;exact⟨rfl,(Fr.of b HB.o).trans bI.o,fin⟩)
 · rw [dA,decide_eq_true_iff]at hq
   have hnx:=yD h hq.2;have HQ:=ae hq;clear h hq;go_enter Tryz.func109,Tryz.ntmps109;go_upto_region 2 with (go_at_call 56;((with_reducible refine HS.o.mono ?_);rintro e w1 ⟨rfl,h1⟩;have HB:=ae h1;have bD:=ae (HP.o.below h1);clear h1))
   obtain⟨c0,c1,c2,c3,c4⟩:=bD.o.facts;have f1:=bD.o.frozen 1;clear c0 c2 c3 c4;go_wp2_with fail
   have fin:Jq b tv ts p d er nv vs s (w1.setCell ⟨b,1,none⟩ (.int .i64 ((p:Int)+1))):=by
    have hP:=bD.o.next hnx;rw[HQ.o.1]at hP;exact .inr (.inl ⟨HQ.o.1,HQ.o.2,hP⟩)
   first
    | exact bodyPost_ret (results_none rfl _ _ _) rfl ⟨rfl,(Fr.of b HB.o).setCell _ _,fin⟩
    | (go_end0;exact⟨rfl,(Fr.of b HB.o).setCell _ _,fin⟩)
def Jo(b:Nat)(tv:Value)(ts:List ag)(p deep:Nat)(nv:Value)(vs:List az)(w':World):Prop:=(12≤deep∧aZ w' b tv ts p (deep:Int) 6 nv vs)∨(¬ 12≤deep∧aZ w' b tv ts (p+1) ((deep+1:Nat):Int) 0 nv vs)
theorem Ah {w:World}{b:Nat}{tv:Value}{ts:List ag}{p deep:Nat}{nv:Value}{vs:List az}(h:aZ w b tv ts p (deep:Int) 0 nv vs)(hn:deep≤12)(hnx:p+1<ts.length) :
 Calls Tryz.prog 83 #[.pointer (some ⟨b,0,none⟩)] w fun e w'=>e = .returned (.tuple #[])∧Fr w w' b∧Jo b tv ts p deep nv vs w':=by
 obtain⟨c0,c1,c2,c3,c4⟩:=h.facts;have f1:=h.frozen 1;have f2:=h.frozen 2;have hf:=h.few;have HP:=ae h;have HF:=ae (Af h 6);clear h c0 c3 c4;by_cases hd:12≤deep
 · have e12:(12:Int)≤(deep:Int):=by omega
   go_enter Tryz.func83,Tryz.ntmps83;go_wp2_with (go_at_call 32;((with_reducible refine HF.o.mono ?_);rintro e w2 ⟨rfl,h1,h2⟩;have bI:=ae h1;have dB:=ae h2;clear h1 h2))
   have fin:Jo b tv ts p deep nv vs w2:=by have:=dB.o;unfold ui at this;rw[if_pos rfl]at this;exact .inl ⟨hd,this⟩
   first
    | exact bodyPost_ret (results_none rfl _ _ _) rfl ⟨rfl,bI.o,fin⟩
    | (go_end0;exact⟨rfl,bI.o,fin⟩)
 · have e12:¬ (12:Int)≤(deep:Int):=by omega
   have HD:=ae hd;go_enter Tryz.func83,Tryz.ntmps83;go_wp2_with fail
   have fin:Jo b tv ts p deep nv vs ((w.setCell ⟨b,2,none⟩ (.int .i64 ((deep:Int)+1))).setCell ⟨b,1,none⟩ (.int .i64 ((p:Int)+1))) := .inr ⟨HD.o,(HP.o.pK ((deep+1:Nat):Int)).next hnx⟩
   first
    | exact bodyPost_ret (results_none rfl _ _ _) rfl ⟨rfl,((Fr.refl _ _).setCell _ _).setCell _ _,fin⟩
    | (go_end0;exact⟨rfl,((Fr.refl _ _).setCell _ _).setCell _ _,fin⟩)
theorem oL {w:World}{b:Nat}{tv:Value}{ts:List ag}{p:Nat}{d er:Int}{nv:Value}{vs:List az}(h:aZ w b tv ts p d er nv vs)(v:az)(hk:Own (aK .i64) 3 w (b+1) v.aS v.n.kids)(hc:vs.length+1≤ts.length+100)(k:Value)(lv:v.aS=k)(n:Nd)(hn:v.n=n) :
 Calls Tryz.prog 57 #[.pointer (some ⟨b,0,none⟩),.agg #[.int .i64 n.kind,.int .i64 n.num,.string n.text,.string n.ref.sh,.int .i64 n.ref.c,.int .i64 n.ref.r,.bool n.ref.ac,.bool n.ref.ar,.string n.af.sh,.int .i64 n.af.c,.int .i64 n.af.r,.bool n.af.ac,.bool n.af.ar,k]] w fun e w'=>Fr w w' b∧e = .returned (.int .i64 (vs.length:Int))∧∃aT,aZ w' b tv ts p d er aT (vs++[v]):=by
 obtain⟨eb,jK,bV⟩:=Elem.il;have hal:Below w.heap.size w (w.alloc (.cells #[.int .i64 n.kind,.int .i64 n.num,.string n.text,.string n.ref.sh,.int .i64 n.ref.c,.int .i64 n.ref.r,.bool n.ref.ac,.bool n.ref.ar,.string n.af.sh,.int .i64 n.af.c,.int .i64 n.af.r,.bool n.af.ac,.bool n.af.ar,k] 45)):=(ai _ _).alloc (ah _) _;have bD:=ae (h.below hal);have lN:=ae (hk.alloc (.cells #[.int .i64 n.kind,.int .i64 n.num,.string n.text,.string n.ref.sh,.int .i64 n.ref.c,.int .i64 n.ref.r,.bool n.ref.ac,.bool n.ref.ar,.string n.af.sh,.int .i64 n.af.c,.int .i64 n.af.r,.bool n.af.ac,.bool n.af.ar,k] 45));have hx:ax (w.alloc (.cells #[.int .i64 n.kind,.int .i64 n.num,.string n.text,.string n.ref.sh,.int .i64 n.ref.c,.int .i64 n.ref.r,.bool n.ref.ac,.bool n.ref.ar,.string n.af.sh,.int .i64 n.af.c,.int .i64 n.af.r,.bool n.af.ac,.bool n.af.ar,k] 45)) w.heap.size n k:=ax.new w n k;have h2:=h.few;have h3:=h.lt;have hbl:=h.blt;have hsz:(w.alloc (.cells #[.int .i64 n.kind,.int .i64 n.num,.string n.text,.string n.ref.sh,.int .i64 n.ref.c,.int .i64 n.ref.r,.bool n.ref.ac,.bool n.ref.ar,.string n.af.sh,.int .i64 n.af.c,.int .i64 n.af.r,.bool n.af.ac,.bool n.af.ar,k] 45)).heap.size=w.heap.size+1:=by simp
 have jH:=ae bV;have aU:=ae hal;clear h hk bV hal;go_enter Tryz.func57,Tryz.ntmps57;go_upto_region 1 with (fail)
 generalize w.alloc (.cells #[.int .i64 n.kind,.int .i64 n.num,.string n.text,.string n.ref.sh,.int .i64 n.ref.c,.int .i64 n.ref.r,.bool n.ref.ac,.bool n.ref.ar,.string n.af.sh,.int .i64 n.af.c,.int .i64 n.af.r,.bool n.af.ac,.bool n.af.ar,k] 45)=w1 at bD lN aU hx hsz ⊢;obtain⟨x0,x1,x2,x3,x4,x5,x6,x7,av,aJ,aG,aH,aI,aF⟩:=hx.cells;obtain⟨c0,c1,c2,c3,c4⟩:=bD.o.facts;have f4:=bD.o.frozen 4;clear hx c0 c1 c2 c3;have Cw:=ae (bD.o.below (((ai _ _).drew).alloc (ah _) (.cells #[.int .i64 n.kind,.int .i64 n.num,.string n.text,.string n.ref.sh,.int .i64 n.ref.c,.int .i64 n.ref.r,.bool n.ref.ac,.bool n.ref.ar,.string n.af.sh,.int .i64 n.af.c,.int .i64 n.af.r,.bool n.af.ac,.bool n.af.ar,k] 45)));have hw1 : -9223372036854775808≤(vs.length:Int)+1 - 1:=by omega
 have hw2:(vs.length:Int)+1 - 1≤9223372036854775807:=by omega
 go_region_law (refine Ml jH.o o8 rfl (.tmp 9) (.tmp 11) rfl (b+1) nv vs ?_ (bD.o.nodes.1.drew.alloc _) ⟨w1.heap.size,0,none⟩ 1 1 [v] ?_ rfl ?_ ?_ ?_ ?_ ?_;go_simp;go_simp;(subst lv;subst hn;exact gQ (w:=w1.drew) _ _ _ rfl);exact bF (Nat.mul_le_mul_left _ jK) (by omega);(unfold maxLen;omega);(simp <;> omega);intro v' nD h1 h2 h4;obtain⟨g1,eU,rfl,hg0,hg1,hg2,hg3⟩:=Own.some h1 (by simp);obtain⟨d1,d2⟩:=Cw.o.Ze h2;have HO:=ae h1;have HG:=ae h2;clear h1 h2 h4)
 all_goals
  obtain⟨q1,q2⟩:=Cw.o.grow HG.o HO.o (lN.o.drew.alloc _) hc;rw[ak,fK]at q1 q2;obtain⟨c0,c1,c2,c3,c4⟩:=q1.facts;have qZ:=ae q1;have lG:=ae q2;clear q1 q2 c0 c1 c2 c3;go_wp2_with fail
  have hF:=(((Fr.of b aU.o).drew).below ((ai _ _).alloc (ah _) (.cells #[.int .i64 n.kind,.int .i64 n.num,.string n.text,.string n.ref.sh,.int .i64 n.ref.c,.int .i64 n.ref.r,.bool n.ref.ac,.bool n.ref.ar,.string n.af.sh,.int .i64 n.af.c,.int .i64 n.af.r,.bool n.af.ac,.bool n.af.ar,k] 45))).trans lG.o;go_ret;exact⟨hF,LM (by first|rfl|omega),_,qZ.o⟩
end Go.Proofs.YtaobhjliflomaaaGreatDoor
