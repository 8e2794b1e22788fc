import Derived.Test.YtaobhjliflomaaaGreatDoorMW8
set_option maxRecDepth 100000
set_option maxHeartbeats 64000000
namespace Go.Proofs.YtaobhjliflomaaaGreatDoor
open Go.RowKit
theorem Nw{l:List Int}(h:Bytes l):(strOfNums l).size=l.length:=by rw[← bz,jD _ h]
theorem ML:∀(n:Nat)(l:List Int)(t:List Int)(k:Nat),l.length≤n→eT l=some (t,k)→t.length≤l.length
 | _,[],_,_,_,h=>by simp[eT]at h
 | 0,_ :: _,_,_,hn,_=>by simp at hn
 | n + 1, x :: l,t,k,hn,h=>by
   rw[uy]at h;by_cases h1:x<32
   · rw[ah h1]at h;cases h
   · rw [ag h1]at h
     by_cases h2:x≠34
     · rw [ah h2]at h
       cases hq:eT l with
       | none=>rw[hq]at h;cases h
       | some q =>
         rw[hq]at h;simp only[jo,bf,bE]at h;have:=ML n l q.1 q.2 (by simp at hn;omega) hq;rw[← h.1];simp only[aX];omega
     · rw [ag h2]at h
       cases l with
       | nil=>simp only[bf,bE]at h;rw[← h.1];simp
       | cons y m =>
         simp only at h;by_cases h3:y=34
         · rw [ah h3]at h
           cases hq:eT m with
           | none=>rw[hq]at h;cases h
           | some q =>
             rw[hq]at h;simp only[jo,bf,bE]at h;have:=ML n m q.1 q.2 (by simp at hn;omega) hq;rw[← h.1];simp only[aX];omega
         · rw[ag h3]at h
           simp only[bf,bE]at h;rw[← h.1];simp
theorem ahN (sh:List Int)(c r:Int)(ac ar:Bool)(hm:cK sh c r=true):sh.length≤(aZ sh c r ac ar).length:=by
 unfold aZ;rw[ah hm];by_cases h:sh=[]
 · rw[h];exact eP _
 · rw[ag h];simp only[av];omega
theorem ah4 (l:List Int)(t:ai)(n p M:Nat)(hb:Bytes l)(hM:l.length≤M)(h:fD l=some (t,n)):F3 M (t.goto p):=by
 have z:(⟨#[]⟩:ByteArray).size≤M:=eP _;cases l with
 | nil=>simp[fD]at h
 | cons x l =>
   have zf:∀q:Int→Bool,((x :: l).takeWhile q).length≤M:=fun q=>bO (Bv q _) hM
   rw[rO]at h;by_cases h1:isNum x=true
   · rw [ah h1]at h
     unfold lv at h;split at h
     · cases h
     · simp only[bf,bE]at h
       rw[← h.1];exact⟨z,z⟩
   · rw [ag h1]at h
     by_cases h2:x=34
     · rw [ah h2]at h
       unfold lC at h;cases hq:eT l with
       | none=>rw[hq]at h;cases h
       | some q =>
         rw[hq]at h;simp only[jo,bf,bE]at h;obtain⟨g1,g2⟩:=CK _ l q.1 q.2 (aj _) (fun y hy=>hb y (by simp[hy])) hq;rw[← h.1];refine⟨?_,z⟩;show(strOfNums q.1).size≤M;rw[Nw g1];have:=ML _ l q.1 q.2 (aj _) hq;simp only[aX]at hM;omega
     · rw [ag h2]at h
       by_cases h3:x=35
       · rw [ah h3]at h
         unfold qh at h;split at h
         · simp only[bf,bE]at h
           rw[← h.1];exact⟨z,z⟩
         · cases h
       · rw [ag h3]at h
         by_cases h4:isLet x=true∨x=36
         · rw [ah h4]at h
           unfold mZ at h;cases hq:iw (strOfNums ((x :: l).takeWhile isWord))with
           | some d =>
             rw[hq]at h;simp only[bf,bE]at h;rw[← h.1];refine⟨z, ?_⟩;show d.sh.size≤M;have e:=(yn _ d hq).2.2;rw[jD _ (hb.span isWord)]at e;have k1:=ahN (sb d.sh) d.c d.r d.ac d.ar (yn _ d hq).2.1;rw[e,bz]at k1;exact bO k1 (zf isWord)
           | none =>
             rw[hq]at h;simp only at h;by_cases hc:jI ((x :: l).takeWhile isWord)=true
             · rw[ah hc]at h
               simp only[bf,bE]at h;rw[← h.1];refine⟨?_,z⟩;show(strOfNums ((x :: l).takeWhile isWord)).size≤M;rw[Nw (hb.span isWord)];exact zf isWord
             · rw[ag hc]at h;cases h
         · rw [ag h4]at h
           unfold oP at h;split at h
           · cases h
           · simp only[bf,bE]at h
             rw[← h.1];refine⟨?_,z⟩;show(strOfNums ((x :: l).take (lF (x :: l)))).size≤M;rw[Nw (fun y hy=>hb y (List.mem_of_mem_take hy)),gX];omega
theorem G5 (M:Nat):∀(f p:Nat)(l:List Int)(ts:List ai),Bytes l→l.length≤M→fq f p l=some ts→nC M ts
 | f,p,[],ts,_,_,h=>by
   have h0:fq f p []=some [ai.zero.goto p]:=by unfold fq;rfl
   rw[h0]at h;injection h with h;subst h;intro t ht;rw[fA]at ht;subst ht;exact⟨eP _,eP _⟩
 | 0,_,_ :: _,_,_,_,h=>by unfold fq at h;cases h
 | f + 1,p,x :: l,ts,hb,hM,h=>by
   have hbl:Bytes l:=fun y hy=>hb y (by simp[hy])
   rw[sK]at h;by_cases hx:x=32
   · rw[ah hx]at h
     exact G5 M f (p+1) l ts hbl (by simp only[aX]at hM;omega) h
   · rw [ag hx]at h
     cases hq:fD (x :: l)with
     | none=>rw[hq]at h;cases h
     | some q =>
       obtain⟨t0,n⟩:=q;rw[hq]at h;simp only[Option.map_eq_some_iff]at h;obtain⟨us,h1,rfl⟩:=h;have k1:=G5 M f (p+n) _ us (fun y hy=>hb y (List.mem_of_mem_drop hy)) (by rw[lG];omega) h1;intro t ht;rcases eY.1 ht with rfl|ht
       · exact ah4 (x :: l) t0 n p M hb hM hq
       · exact k1 t ht
theorem ah3 (l:List Int)(t:ai)(n:Nat)(h:fD l=some (t,n)):t.num≤9223372036854775807:=by
 cases l with
 | nil=>simp[fD]at h
 | cons x l =>
   rw[rO]at h;split at h
   · unfold lv at h
     split at h
     · cases h
     · simp only[bf,bE]at h
       rw[← h.1];show dB _≤_;omega
   split at h
   · unfold lC at h
     cases hq:eT l with
     | none=>rw[hq]at h;cases h
     | some q =>
       rw[hq]at h;simp only[jo,bf,bE]at h;rw[← h.1];show(0:Int)≤_;omega
   split at h
   · unfold qh at h
     split at h
     · simp only[bf,bE]at h
       rw[← h.1];show(0:Int)≤_;omega
     · cases h
   split at h
   · unfold mZ at h
     split at h
     · simp only[bf,bE]at h
       rw[← h.1];show(0:Int)≤_;omega
     · split at h
       · simp only[bf,bE]at h
         rw[← h.1];show(0:Int)≤_;omega
       · cases h
   · unfold oP at h
     split at h
     · cases h
     · simp only[bf,bE]at h
       rw[← h.1];show(0:Int)≤_;omega
theorem Tok.num {t:ai}(h:Tok t):t.num≤9223372036854775807:=by
 have:=ah3 _ _ _ h.2.1;exact this
theorem Tok.pos{t:ai}(h:Tok t):1≤(dA t).length:=(rP _ _ _ h.2.1).1
theorem Db {n rk d:Nat}{ts:List ai}{d':Nat}{ts':List ai}(h:Wr n rk d ts d' ts'):ts.length≤ts'.length∧∀t∈ts,t∈ts':=by
 rcases h with ⟨_,rfl,_⟩|⟨_,_,l,r,_,_,rfl⟩
 · exact⟨aj _,fun _ h=>h⟩
 · exact⟨by simp;omega,fun t ht=>by simp[ht]⟩
theorem agM {m:Bool}{base:Nat}{ns:List Nd}{ks:List Int}{ts:List ai}{rk d:Nat}(h:Sh m base ns ks ts rk d):(∀t∈ts,t.num≤9223372036854775807)→ns.length≤ts.length∧∀n∈ns,n.num≤9223372036854775807:=by
 induction h with
 | leaf base ts nd h =>
   intro ht;refine⟨by cases h <;> simp,fun n hn => ?_⟩;rw[fA.1 hn];cases h with
   | num t h=>exact ht t (by simp)
   | yes t h g=>show(1:Int)≤_;omega
   | _=>show(0:Int)≤_;omega
 | neg base ns a ts rk d h m hm d' ts' hw ih =>
   intro ht;obtain⟨w1,w2⟩:=Db hw;obtain⟨g1,g2⟩:=ih fun t h=>ht t (List.mem_cons_of_mem _ (w2 t h))
   refine⟨by simp only[av,aX,dV];omega,fun n hn => ?_⟩;rcases dK.1 hn with hn|hn
   · exact g2 n hn
   · rw[fA.1 hn];show(0:Int)≤_;omega
 | op base o ho ns ms a b ts us oo lZ d1 d2 h g s hs e1 e2 ts' iT hw gw ih jl =>
   intro ht;obtain⟨w1,w2⟩:=Db hw;obtain⟨x1,x2⟩:=Db gw;obtain⟨g1,g2⟩:=ih fun t h=>ht t (List.mem_append_left _ (w2 t h))
   obtain⟨y1,y2⟩:=jl fun t h=>ht t (List.mem_append_right _ (List.mem_cons_of_mem _ (x2 t h)))
   refine⟨by simp only[av,aX,dV];omega,fun n hn => ?_⟩;rcases dK.1 hn with hn|hn
   · exact g2 n hn
   rcases dK.1 hn with hn|hn
   · exact y2 n hn
   · rw[fA.1 hn];show(0:Int)≤_;omega
 | call base ns ks ts d h t l r =>
   rename_i ih
   intro ht;obtain⟨g1,g2⟩:=ih fun t h=>ht t (by simp[h])
   refine⟨by simp only[av,aX,dV];omega,fun n hn => ?_⟩;rcases dK.1 hn with hn|hn
   · exact g2 n hn
   · rw[fA.1 hn];show(0:Int)≤_;omega
 | none base=>intro _;exact⟨aj _,fun n hn=>by cases hn⟩
 | one base ns a ts rk d h ih=>exact ih
 | and base ns ms ks b ts us rk d1 d2 h hk c hc g ih jl =>
   intro ht;obtain⟨g1,g2⟩:=ih fun t h=>ht t (List.mem_append_left _ h)
   obtain⟨y1,y2⟩:=jl fun t h=>ht t (List.mem_append_right _ (List.mem_cons_of_mem _ h))
   refine⟨by simp only[av,aX];omega,fun n hn => ?_⟩;rcases dK.1 hn with hn|hn
   · exact g2 n hn
   · exact y2 n hn
theorem V6:∀ts:List ai,(∀t∈ts,Tok t)→ts.length≤(eO ts).length
 | [],_=>eP _
 | t :: ts,h=>by
   have ih:=V6 ts fun u hu=>h u (List.mem_cons_of_mem _ hu)
   have h1:=(h t (by simp)).pos;rw[gG,av,aX];omega
theorem IX:∀ts:List ai,(∀t∈ts,Tok t)→Bytes (eO ts)
 | [],_=>fun x hx=>by cases hx
 | t :: ts,h=>fun x hx=>by
   rw[gG]at hx;rcases dK.1 hx with hx|hx
   · exact(h t (by simp)).2.2 x hx
   · exact IX ts (fun u hu=>h u (List.mem_cons_of_mem _ hu)) x hx
theorem BX (s:ByteArray)(ns:List Nd)(h:jc s (.ok ns)):(ns.length≤300∧0<ns.length∧cO ns=true)∧(∀n∈ns,n.num≤9223372036854775807)∧(cz ns).length≤s.size∧s.size≤300∧jc (strOfNums (cz ns)) (.ok ns):=by
 rcases h with ⟨_,h⟩|⟨_,_,h⟩|⟨h0,ts,f,h1,h2⟩
 · cases h
 · cases h
 · have hb:Bytes (sb s):=fun x hx=>sO s x hx
   have ht:=Uf h2 (G6 s ts h1).1;obtain⟨us,nK,d,a,g1,g2,g3,g4,g5⟩:=NK hb h1 h2;rw[bz]at g4;obtain⟨k1,k2⟩:=agM g1 fun t h=>(g3 t h).num
   have k3:=V6 us g3;obtain⟨p1,vs,g,p2,p3⟩:=aeT hb h1 h2 ht;rw[bz]at p1
   have mE:0<ns.length:=by
    cases ns with
    | nil=>exact absurd ht (by decide)
    | cons n ns=>simp
   have hby:Bytes (cz ns):=by
    rw[Bq g1 ht];exact IX us g3
   refine⟨⟨by omega,mE,ht⟩,k2,p1,h0,.inr (.inr ⟨by rw[strOfNums_size];omega,vs,g,by rw[jD _ hby];exact p2,p3⟩)⟩
theorem Pj (s:ByteArray)(ns:List Nd)(h:jc s (.ok ns)):∀n∈ns,n.text.size≤1000000∧n.ref.sh.size≤1000000∧n.af.sh.size≤1000000:=by
 rcases h with ⟨_,h⟩|⟨_,_,h⟩|⟨h0,ts,f,h1,h2⟩
 · cases h
 · cases h
 · exact Ue h2 (G5 1000000 _ _ _ _ (fun x hx=>sO s x hx) (by rw[bz];omega) h1)
theorem aeD (s:ByteArray)(w:World)(hx:Sx w)(ns:List Nd)(hp:jc s (.ok ns)) :
 Calls Tryz.prog 36 #[.string s] w fun e w'=>Below w.heap.size w w'∧∃g cap vs,e = .returned (.tuple #[.slice (some ⟨g,0,none⟩) ns.length cap,.int .i64 0])∧vs.map Prod.fst=ns∧fI w' w'.heap.size (.slice (some ⟨g,0,none⟩) ns.length cap) vs:=by
 refine(aeC s w hx.vars hx.ops ns hp (BX s ns hp).1.2.1).mono ?_;rintro e w' ⟨hb,g,cap,vs,he,h1,h2,h3, -⟩;exact⟨hb,g,cap,_,he,(Ns vs).trans h1,h3.sn h2⟩
def dQ{α : Type}(x:Option (Except Int α)):Prop:=∀c,x=some (.error c)→c=5∨c=6
theorem dQ.non{α : Type}:dQ (none:Option (Except Int α)):=fun c h=>by cases h
theorem dQ.ok{α : Type}(v : α):dQ (some (.ok v):Option (Except Int α)):=fun c h=>by injection h with h;cases h
theorem dQ.e5{α : Type}:dQ (some (.error 5):Option (Except Int α)):=fun c h=>by injection h with h;injection h with h;exact .inl h.symm
theorem dQ.e6{α : Type}:dQ (some (.error 6):Option (Except Int α)):=fun c h=>by injection h with h;injection h with h;exact .inr h.symm
theorem dQ.ite{α : Type}{p:Prop} [Decidable p] {x y:Option (Except Int α)} (h:dQ x) (g:dQ y):dQ (if p then x else y):=by split;exact h;exact g
theorem dQ.bind {α β γ δ : Type}{x:Option (Except Int (α × β × γ))}{k : α → β → γ → Option (Except Int δ)}(h:dQ x)(g:∀a b c,dQ (k a b c)):dQ (iW x k):=fun c hc=>by
 rcases eG hc with ⟨e,h1,h2⟩|⟨a,b,d,_,h2⟩
 · injection h2 with h2;subst h2;exact h c h1
 · exact g a b d c h2
theorem afq (base:Nat)(t:ai)(ts:List ai):dQ (some (jJ base t ts)):=by
 unfold jJ;split
 · split
   · split
     · exact dQ.ok _
     · exact dQ.e5
   · exact dQ.e5
 · exact dQ.ok _
theorem Qr:∀f:Nat,(∀n deep base ts,dQ (eU f n deep base ts))∧(∀n deep base ns a ts,dQ (iJ f n deep base ns a ts))∧(∀deep base ts,dQ (jB f deep base ts))∧(∀deep base ns ks ts,dQ (ib f deep base ns ks ts))
 | 0=>⟨fun _ _ _ _=>by unfold eU;exact dQ.non,fun _ _ _ _ _ _=>by unfold iJ;exact dQ.non,fun _ _ _=>by unfold jB;exact dQ.non,fun _ _ _ _ _=>by unfold ib;exact dQ.non⟩
 | f + 1 => by
   obtain⟨i1,i2,i3,i4⟩:=Qr f;refine⟨fun n deep base ts => ?_,fun n deep base ns a ts => ?_,fun deep base ts => ?_,fun deep base ns ks ts => ?_⟩
   · rw[lQ]
     exact dQ.ite (dQ.bind (i1 _ _ _ _) fun _ _ _=>i2 _ _ _ _ _ _) (dQ.ite (dQ.ite dQ.e6 (dQ.bind (i1 _ _ _ _) fun _ _ _=>dQ.ok _)) (i3 _ _ _))
   · rw[qB]
     exact dQ.ite (dQ.ok _) (dQ.bind (i1 _ _ _ _) fun _ _ _=>i2 _ _ _ _ _ _)
   · cases ts with
     | nil=>rw[zz];exact dQ.e5
     | cons t ts =>
       rw[lX]
       repeat' first
        | exact dQ.ok _
        | exact dQ.e5
        | exact dQ.e6
        | exact afq _ _ _
        | exact i1 _ _ _ _
        | exact i4 _ _ _ _ _
        | (apply dQ.bind)
        | (apply dQ.ite)
        | intro
   · rw[o8]
     exact dQ.bind (i1 _ _ _ _) fun _ _ _=>dQ.ite (i4 _ _ _ _ _) (dQ.ok _)
theorem X7 (s:ByteArray)(c:Int)(h:jc s (.error c)):c≠0:=by
 rcases h with ⟨_,h⟩|⟨_,_,h⟩|⟨_,ts,f,_,h⟩
 · injection h with h;omega
 · injection h with h;omega
 · unfold lW at h
   have:=dQ.bind ((Qr f).1 0 0 0 ts) (k:=fun ns _ r=>if uo r=0 then some (.ok ns)else some (.error 5)) (fun _ _ _=>dQ.ite (dQ.ok _) dQ.e5) c h;omega
theorem ahk(w:World):fI w w.heap.size (.slice none 0 0) []:=⟨⟨none,0,rfl,.inl rfl⟩,fun p hp=>absurd hp (by simp)⟩
def Dh(w:World):Prop:=∃ev,w.cell? ⟨7,0,none⟩=some ev∧(ev = .nilIface∨∃te pe,ev = .iface te pe)
theorem Dh.below {w w':World}(h:Dh w)(hb:Below w.heap.size w w'):Dh w':=by
 obtain⟨ev,h1,h2⟩:=h;exact⟨ev,(hb.cell (show(⟨7,0,none⟩:Addr).block<w.heap.size from Lib.lt_of_cell h1)).trans h1,h2⟩
structure rV (w:World):Prop where
 sx:Sx w
 syn:Dh w
theorem rV.below{w w':World}(h:rV w)(hb:Below w.heap.size w w'):rV w':=⟨h.sx.below hb,h.syn.below hb⟩
theorem P6 (c:Int)(_h0:0≤c)(_h1:c≤255)(w:World) :
 Calls Tryz.prog 58 #[.int .u8 c] w fun e w'=>e = .returned (.bool (isNum c))∧w=w':=by
 go_enter Tryz.func58,Tryz.ntmps58
 go_wp2
 all_goals go_ret
 all_goals exact⟨gq (by unfold isNum;first|rfl|(symm;rw[aK];omega)|(symm;rw[jq];omega)|(rw[decide_eq_decide];omega)),rfl⟩
theorem ab0(s:ByteArray)(h:s.size=0):kd s=0:=by unfold kd;rw[vM s h];rfl
theorem ab1 (s:ByteArray)(hp0:0<s.size)(a:Int)(ha:(s[0].toNat:Int)=a):kd s=if a=39 then 1 else if a=61 then 2 else if a=45∨isNum a=true then 3 else 4:=by
 have hga:(sb s).getD 0 0=a:=by rw[uz s 0 hp0,ha]
 have hl:(sb s).length=s.size:=bz s;unfold kd;cases h:sb s with
 | nil=>rw[h]at hl;simp at hl;omega
 | cons c l =>
   rw[h]at hga;have:c=a:=by simpa using hga
   subst this;rfl
theorem aci (s:ByteArray)(_hs:s.size≤1000000)(w:World):Calls Tryz.prog 35 #[.string s] w fun e w'=>e = .returned (.int .i64 (kd s))∧w=w':=by
 by_cases h0:s.size=0
 · have hk:=ab0 s h0
   have hz:=vM s h0;have HK:=ae hk;clear hk;obtain rfl:s=⟨#[]⟩:=by first|exact hz|(rw[← mX s,hz];rfl)
   clear h0 hz _hs;go_enter Tryz.func35,Tryz.ntmps35;go_wp2_with fail
   all_goals go_ret
   all_goals exact⟨by rw[HK.o];first|done|rfl,rfl⟩
 · have hne:=sQ s h0
   have xW:s.toList.isEmpty=false:=by cases hq:s.toList with|nil=>exact absurd hq hne|cons a l=>rfl
   have hp0:0<s.size:=by omega
   obtain⟨a,ha⟩:∃a:Int,(s[0].toNat:Int)=a:=⟨_,rfl⟩;have ha1:0≤a∧a≤255:=by have:=s[0].toNat_lt;omega
   have hk:=ab1 s hp0 a ha;by_cases c1:a=39
   · rw[ah c1]at hk
     have HK:=ae hk;have e1:(a == 39)=true:=bA.2 c1;clear hk c1 h0;go_enter Tryz.func35,Tryz.ntmps35;go_wp2_with fail
     all_goals go_ret
     all_goals exact⟨by rw[HK.o];first|done|rfl,rfl⟩
   rw[ag c1]at hk;have e1:(a == 39)=false:=aA.2 c1;by_cases c2:a=61
   · rw[ah c2]at hk
     have HK:=ae hk;have e2:(a == 61)=true:=bA.2 c2;clear hk c1 c2 h0;go_enter Tryz.func35,Tryz.ntmps35;go_wp2_with fail
     all_goals go_ret
     all_goals exact⟨by rw[HK.o];first|done|rfl,rfl⟩
   rw[ag c2]at hk;have e2:(a == 61)=false:=aA.2 c2;by_cases c3:a=45
   · rw[ah (Or.inl c3)]at hk
     have HK:=ae hk;have e3:(a == 45)=true:=bA.2 c3;clear hk c1 c2 c3 h0;go_enter Tryz.func35,Tryz.ntmps35;go_wp2_with fail
     all_goals go_ret
     all_goals exact⟨by rw[HK.o];first|done|rfl,rfl⟩
   have e3:(a == 45)=false:=aA.2 c3;cases c4:isNum a with
   | true =>
     rw[ah (Or.inr c4)]at hk;have HK:=ae hk;clear hk c1 c2 c3 h0;go_enter Tryz.func35,Tryz.ntmps35;go_wp2_with (go_at_call 58;((with_reducible refine(P6 _ ?_ ?_ _).mono ?_);(first|omega|skip);(first|omega|skip);rintro e w' ⟨rfl,rfl⟩))
     all_goals go_ret
     all_goals exact⟨by rw[HK.o];first|done|rfl,rfl⟩
   | false =>
     rw[ag (by rw[c4];simp;exact c3)]at hk;have HK:=ae hk;clear hk c1 c2 c3 h0;go_enter Tryz.func35,Tryz.ntmps35;go_wp2_with (go_at_call 58;((with_reducible refine(P6 _ ?_ ?_ _).mono ?_);(first|omega|skip);(first|omega|skip);rintro e w' ⟨rfl,rfl⟩))
     all_goals go_ret
     all_goals exact⟨by rw[HK.o];first|done|rfl,rfl⟩
theorem acj(s:ByteArray)(_hs:s.size≤1000000)(k:Int)(hk:kd s=k)(w:World):Calls Tryz.prog 35 #[.string s] w fun e w'=>e = .returned (.int .i64 k)∧w=w':=hk ▸ aci s _hs w
theorem Gb{B:Nat}{w w':World}(h:Below B w w'):Below B w w'.drew:=⟨h.os,h.tape,h.output,h.size,h.block⟩
theorem aeU (s:ByteArray)(ns:List Nd)(hp:jc s (.ok ns))(w1 wr:World)(hx:Sx wr)(v:Value)(l:List (Nd × Value))(hm:l.map Prod.fst=ns)(hs:fI w1 w1.heap.size v l)(hr:Below w1.heap.size w1 wr) :
 Calls Tryz.prog 20 #[v] wr fun e w'=>e = .returned (.string (strOfNums (cz ns)))∧Below wr.heap.size wr w':=by
 obtain⟨⟨aa0,mE,Lu⟩,bM,hpl,abt,hp2⟩:=BX s ns hp;have hsz:=Pj s ns hp;have hl:l.length=ns.length:=by rw[← hm,eB]
 have:=hx.Um v l (hs.lift hr hr.size) ⟨by omega,fun p hp=>hsz p.1 (by rw[← hm];exact uG hp)⟩ (fun p hp=>bM p.1 (by rw[← hm];exact uG hp)) (by rw[show l.map (·.1)=ns from hm];omega) (by rw[show l.map (·.1)=ns from hm];exact Lu);rwa[show l.map (·.1)=ns from hm]at this
def iq:ByteArray:=⟨#[61]⟩
theorem adt (c:Int)(mk s:ByteArray)(h:sb mk=[c]):sb (mk++s)=c :: sb s:=by
 have:sb (mk++s)=sb mk++sb s:=by unfold sb;rw[ByteArray.data_append,Array.toList_append,gP]
 rw[this,h];rfl
theorem ab2(s:ByteArray):kd (iq++s)=2:=by unfold kd;rw[adt 61 iq s (by decide)];rfl
theorem Tz (mk s t:ByteArray)(hm:mk.size=1)(ht:mk++s=t):t.extract 1 t.size=s:=by
 subst ht;rw[ByteArray.extract_append,hm,ByteArray.size_append,hm];rw[show mk.extract 1 (1+s.size)=ByteArray.empty from ByteArray.extract_eq_empty_iff.2 (by omega)];rw[ByteArray.empty_append,show 1+s.size - 1=s.size by omega];exact ByteArray.extract_zero_size
theorem X8 (s:ByteArray)(ns:List Nd)(h:jc s (.ok ns)):∀n∈ns,n.text.size≤300∧n.ref.sh.size≤300∧n.af.sh.size≤300:=by
 rcases h with ⟨_,h⟩|⟨_,_,h⟩|⟨h0,ts,f,h1,h2⟩
 · cases h
 · cases h
 · exact Ue h2 (G5 300 _ _ _ _ (fun x hx=>sO s x hx) (by rw[bz];omega) h1)
theorem VI (c:Nat):∀ns:List Nd,(∀n∈ns,mY n≤c)→qE ns≤ns.length*c
 | [],_=>by unfold qE;simp
 | n :: ns,h=>by
   have h1:=VI c ns fun m hm=>h m (by simp[hm])
   have h2:=h n (by simp);have h3:qE (n :: ns)=mY n+qE ns:=by unfold qE;simp
   rw[h3,aX,Nat.add_mul];omega
structure tF (ns:List Nd):Prop where
 tree:cO ns=true
 len:ns.length≤300
 num:∀n∈ns,n.num≤9223372036854775807
 sz:∀n∈ns,n.text.size≤300∧n.ref.sh.size≤300∧n.af.sh.size≤300
theorem tF.long {ns:List Nd}(h:tF ns):(cz ns).length≤1000000:=by
 have h1:=Un h.tree h.num;have h2:=VI 1260 ns fun n hn=>by have:=h.sz n hn;unfold mY;omega
 have h3:=h.len;have h4:ns.length*1260≤300*1260:=Nat.mul_le_mul_right _ h3;omega
theorem tF.of {s:ByteArray}{ns:List Nd}(h:jc s (.ok ns)):tF ns:=by
 obtain⟨⟨hl,_,ht⟩,bM,_⟩:=BX s ns h;exact⟨ht,hl,bM,X8 s ns h⟩
theorem tF.move {ns:List Nd}(h:tF ns)(own:ByteArray){ss:List Sf}(hs:FX ss):tF (mg own ss ns):=by
 refine⟨TD h.tree hs,by rw[TA];exact h.len,fun n hn => ?_,fun n hn => ?_⟩
 · obtain⟨m,hm,rfl⟩:=List.mem_map.1 hn
   have h1:=(TC own ss m).num;have h2:=h.num m hm;omega
 · obtain⟨m,hm,rfl⟩:=List.mem_map.1 hn
   have h1:=TC own ss m;have h2:=h.sz m hm;exact⟨bO h1.text h2.1,bO h1.ref h2.2.1,bO h1.af h2.2.2⟩
theorem tF.IL {l:List (Nd × Value)}(h:tF (l.map (·.1))):SZ l :=
 ⟨by have:=h.len;rw[eB]at this;omega,fun p hp=>by have:=h.sz p.1 (uG hp);omega⟩
theorem aeS (w:World)(hx:Sx w)(v:Value)(l:List (Nd × Value))(hs:fI w w.heap.size v l)(h:tF (l.map (·.1))) :
 Calls Tryz.prog 20 #[v] w fun e w'=>e = .returned (.string (strOfNums (cz (l.map (·.1)))))∧Below w.heap.size w w' :=
 hx.Um v l hs h.IL (fun p hp=>h.num p.1 (uG hp)) (by have:=h.long;omega) h.tree
theorem aac (t p:ByteArray)(hs:t.size≤300)(h1:1≤t.size)(hk:kd t=2)(hr:t.extract 1 t.size=p)(ns:List Nd)(hp:jc p (.ok ns))(wM:strOfNums (cz ns)=p)(w:World)(hx:rV w) :
 Calls Tryz.prog 19 #[.string t] w fun e w'=>∃g cap l,e = .returned (.tuple #[.slice (some ⟨g,0,none⟩) ns.length cap,.bool true])∧fI w' w'.heap.size (.slice (some ⟨g,0,none⟩) ns.length cap) l∧l.map Prod.fst=ns∧Below w.heap.size w w':=by
 have HA:=ae (aeD p w hx.sx ns hp);have xn:=ae (fun (w1:World)(h1:Below w.heap.size w w1)(v:Value)(l:List (Nd × Value))(hm:l.map Prod.fst=ns)(hs:fI w1 w1.heap.size v l)=>(show Calls Tryz.prog 20 #[v] w1.drew fun e w'=>e = .returned (.string p)∧Below w1.drew.heap.size w1.drew w' from wM ▸ aeU p ns hp w1 w1.drew (hx.sx.below (Gb h1)) v l hm hs (Gb (ak _ _))));have HK:=ae (acj t (by omega) _ hk w);have hi1:(1:Int)≤(t.size:Int):=by omega
 have hi:¬ (300:Int)<(t.size:Int):=by omega
 obtain⟨L,hL⟩:∃L,ns.length=L:=⟨_,rfl⟩;rw[hL]at HA ⊢;clear hp wM hL hx hs hk;go_enter Tryz.func19,Tryz.ntmps19
 go_wp2_with (first
  | (go_at_call 35;((with_reducible refine HK.o.mono ?_);rintro e w1 ⟨rfl,rfl⟩))
  | (go_at_call 36;((with_reducible refine HA.o.mono ?_);rintro e w1 ⟨hb,g1,gm,l1,rfl,hm1,hs1⟩;have HB1:=ae hb;have bG:=ae (xn.o w1 hb _ l1 hm1 hs1);have JB:=ae hm1;have gy:=ae hs1;clear hb hm1 hs1)))
 go_region_held3 (fun _=>True) (trivial) (first
  | (go_at_call 20;((with_reducible refine bG.o.mono ?_);rintro e w2 ⟨rfl,h1⟩;have HB2:=ae ((Gb HB1.o).trans (h1.mono HB1.o.size));have Oe:=ae ((Gb (ak _ w1)).trans h1);clear h1)))
 all_goals go_wp2_with fail
 all_goals go_ret2
 all_goals exact⟨_,_,l1,rfl,gy.o.lift Oe.o Oe.o.size,JB.o,HB2.o⟩
def uD(own:ByteArray)(ss:List Sf)(ns:List Nd):ByteArray:=if (iq++strOfNums (cz (mg own ss ns))).size≤300 then iq++strOfNums (cz (mg own ss ns))else ⟨#[61,35,82,69,70,33]⟩
theorem TB (w:World)(t p own:ByteArray)(xs:List bK)(B:Option Addr)(m c:Nat)(hx:rV w)(hS:o6 w w.heap.size (.slice B m c) xs)(hm:m≤1000000)(hO:∀x∈xs,qR x.s)(ho:own.size≤maxLen)(hs:t.size≤300)(h1:1≤t.size)(hk:kd t=2)(hr:t.extract 1 t.size=p)(ns:List Nd)(hp:jc p (.ok ns))(wM:strOfNums (cz ns)=p) :
 Calls Tryz.prog 12 #[.string t,.string own,.slice B m c] w fun e w'=>e = .returned (.string (uD own (kF xs) ns))∧Below w.heap.size w w':=by
 have HF:=ae (aac t p hs h1 hk hr ns hp wM w hx);have hok:=tF.of hp;have hsO:FX (kF xs):=fun s hs=>by obtain⟨x,hx,rfl⟩:=List.mem_map.1 hs;exact hO x hx
 have hmv:=hok.move own hsO;have eu:=ae (fun (wq:World)(hq:Below w.heap.size w wq)(A:Option Addr)(n cap:Nat)(l:List (Nd × Value))(hl:fI wq wq.heap.size (.slice A n cap) l)(hm2:l.map Prod.fst=ns)=>(show Calls Tryz.prog 21 #[.slice A n cap,.string own,.slice B m c] wq (FQ wq own (kF xs) ns)from hm2 ▸ adv wq own xs A B n cap m c l (hx.sx.below hq).vars (hS.lift hq) hm hO ho hl (tF.IL (hm2.symm ▸ hok)) (hm2.symm ▸ hok.tree)));have xn:=ae (fun (wq:World)(hq:Below w.heap.size w wq)(v:Value)(l:List (Nd × Value))(hl:fI wq wq.heap.size v l)(hm2:l.map (·.1)=mg own (kF xs) ns)=>(show Calls Tryz.prog 20 #[v] wq fun e w'=>e = .returned (.string (strOfNums (cz (mg own (kF xs) ns))))∧Below wq.heap.size wq w' from hm2 ▸ aeS wq (hx.sx.below hq) v l hl (hm2.symm ▸ hmv)));obtain⟨q,hq⟩:∃q,strOfNums (cz (mg own (kF xs) ns))=q:=⟨_,rfl⟩;have hql:q.size≤1000000:=by rw[← hq,strOfNums_size];exact hmv.long
 rw[hq]at xn;obtain⟨L,hL⟩:∃L,ns.length=L:=⟨_,rfl⟩;unfold FQ at eu;rw[hL]at HF eu;have wJ:¬ 9223372036854775807<(⟨#[61]⟩:ByteArray).size+q.size:=by show ¬ _<1+q.size;omega
 have ajt:¬ 9223372036854775807<1+q.size:=by omega
 have hsz:(iq++q).size=1+q.size:=by rw[ByteArray.size_append];rfl
 have dF:=ae (show uD own (kF xs) ns=if (iq++q).size≤300 then iq++q else ⟨#[61,35,82,69,70,33]⟩from by unfold uD;rw[hq]);have o5:=ae hsz;clear hok hsO hmv hx hS hm hO ho hs h1 hk hr hp wM hq hL hsz;go_enter Tryz.func12,Tryz.ntmps12
 go_upto_region 5 with (first
  | (go_at_call 19;((with_reducible refine HF.o.mono ?_);rintro e w2 ⟨g,cap,l,rfl,hs1,hm1,hq1⟩;have H2:=ae hq1;have HS2:=ae hs1;have si:=ae hm1;clear hs1 hm1 hq1))
  | (go_at_call 21;((with_reducible refine(eu.o _ H2.o _ _ _ l HS2.o si.o).mono ?_);rintro e w3 ⟨T,done,rfl,hs1,hm1,hq1,_⟩;have H3:=ae (H2.o.trans (hq1.mono H2.o.size));have ny:=ae hs1;have wh:=ae hm1;clear hs1 hm1 hq1))
  | (go_at_call 20;((with_reducible refine(xn.o _ H3.o _ done ny.o wh.o).mono ?_);rintro e w4 ⟨rfl,hq1⟩;have H4:=ae (H3.o.trans (hq1.mono H3.o.size));clear hq1)))
 by_cases hc:(iq++q).size≤300
 · have hc1:¬ (300:Int)<1+(q.size:Int):=by rw[o5.o]at hc;omega
   have HC:=ae hc;clear hc;go_wp2_with fail
   go_ret;exact⟨by rw[dF.o,ah HC.o];rfl,H4.o⟩
 · have hc1:(300:Int)<1+(q.size:Int):=by rw[o5.o]at hc;omega
   have HC:=ae hc;clear hc;go_wp2_with fail
   go_ret;exact⟨by rw[dF.o,ag HC.o];rfl,H4.o⟩
def jg(n:Int):Nat:=(min (max n 0) 1048576).toNat
theorem KA(n:Int):jg n≤1048576:=by unfold jg;omega
theorem Zf(n:Int):(jg n:Int)=min (max n 0) 1048576:=by unfold jg;omega
theorem adE:(Tryz.prog.info? 30).map (·.size)=some 2:=by kernel_rfl
theorem EJ {w:World}{b:Nat}{A:Option Addr}{n cap:Nat}{nw:Int}(h:bP 30 w b (.slice A n cap) nw)(fn:Func)(tmps:Array Value)(s:Tmp)(hf:fn.results=#[.cell s 30])(hp:tmps.getD s undef = .pointer (some ⟨b,0,none⟩)) :
 (results fn tmps).run Tryz.prog w = .ok (.agg #[.slice A n cap,.int .i64 nw]) w :=
 results_cell_row hf tmps w b _ _ _ _ hp h Tryz.underlying30 rfl adE
theorem bP.oN{t:TypeId}{w:World}{b:Nat}{v:Value}{nw:Int}(h:bP t w b v nw)(u:Value)(m:Int):bP t ((w.setCell ⟨b,0,none⟩ u).setCell ⟨b,1,none⟩ (.int .i64 m)) b u m:=(h.Ur u).EL m
theorem D6 {w0 w:World}{b B:Nat}(h:Below B w0 w)(hB:B≤b)(u v:Value):Below B w0 ((w.setCell ⟨b,0,none⟩ u).setCell ⟨b,1,none⟩ v):=by
 have h1:Below B w0 (w.setCell ⟨b,0,none⟩ u):=h.setCell hB u;exact h1.setCell hB v
theorem Em (w:World)(b g:Nat)(u v:Value)(hne:g≠b):((w.setCell ⟨b,0,none⟩ u).setCell ⟨b,1,none⟩ v).heap[g]? = w.heap[g]? :=
 (heap_setCell_other _ ⟨b,1,none⟩ g v hne).trans (heap_setCell_other w ⟨b,0,none⟩ g u hne)
def xZ(n at_:Int):List Int × Int:=if at_<0∨(jg n:Int)<at_ then (gu (jg n),(jg n:Int))else (eX (jg n) at_,(jg n:Int)+1)
structure kX (w1 w:World)(b:Nat)(tv:Value)(k:Int)(xs:List Int):Prop where
 cur:bP 30 w b tv k
 own:Own (aI .i64) 3 w w1.heap.size tv xs
 gr:w1.grownBy w (some b)
 blt:b<w1.heap.size
theorem kX.nil{w:World}{b:Nat}{k:Int}(h:bP 30 w b (.slice none 0 0) k):kX w w b (.slice none 0 0) k []:=⟨h,Own.nil _ _ _ _,grownBy.fP _ _,h.lt⟩
theorem kX.next{w1 w w':World}{b:Nat}{tv:Value}{k:Int}{xs:List Int}(h:kX w1 w b tv k xs)(hb:Below w.heap.size w w'):kX w1 w' b tv k xs:=⟨h.cur.over hb,h.own.below hb (aj _),grownBy.below' h.gr hb,h.blt⟩
theorem kX.ne {w1 w:World}{b:Nat}{tv:Value}{k:Int}{xs:List Int}(h:kX w1 w b tv k xs):Option.some b≠tv.ownBlock:=by
 intro hv;have:=(h.own.lies hv.symm).1;have:=h.blt;omega
theorem kX.D5{w1 wa wb:World}{b:Nat}{tv:Value}{k:Int}{xs:List Int}(h:kX w1 wa b tv k xs)(hg:wa.grownBy wb tv.ownBlock):bP 30 wb b tv k:=h.cur.keep (hg.block b h.cur.lt h.ne)
theorem kX.grow {w1 wa wb:World}{b:Nat}{tv:Value}{k:Int}{xs:List Int}(h:kX w1 wa b tv k xs)(hg:wa.grownBy wb tv.ownBlock):w1.grownBy wb (some b) :=
 ⟨hg.os.trans h.gr.os,hg.tape.trans h.gr.tape,hg.output.trans h.gr.output,bO h.gr.size hg.size,fun j hj hr=>by
  rw[hg.block j (eZ hj h.gr.size) (fun e=>by have:=(h.own.lies e.symm).1;omega)];exact h.gr.block j hj hr⟩
theorem kX.push {w1 wa wb:World}{b:Nat}{tv v':Value}{k:Int}{xs ys:List Int}(h:kX w1 wa b tv k xs)(ho:Own (aI .i64) 3 wb w1.heap.size v' ys)(hg:wa.grownBy wb tv.ownBlock):kX w1 (wb.setCell ⟨b,0,none⟩ v') b v' k ys :=
 ⟨(h.D5 hg).Ur v',ho.keep (fun g h1 _ _=>heap_setCell_other wb _ g _ (by show g≠b;have:=h.blt;omega)),grownBy.gU (h.grow hg) 0 v',h.blt⟩
theorem kX.other {w1 w:World}{b c:Nat}{tv:Value}{k:Int}{xs:List Int}(h:kX w1 w b tv k xs){t:TypeId}{v:Value}{m:Int}(hp:bP t w1 c v m)(hne:c≠b):bP t w c v m :=
 hp.keep (h.gr.block c hp.lt (fun e=>hne (dU e)))
theorem kX.iN {w0 w1 w:World}{B b:Nat}{tv:Value}{k:Int}{xs:List Int}(h:kX w1 w b tv k xs)(hb:Below B w0 w1)(hB:B≤b)(hw:B≤w1.heap.size):Below B w0 w :=
 hb.grown h.gr hw (fun g e=>by have:=dU e;omega)
theorem aim (t:TypeId)(w:World)(u v:Value)(m n:Int):∃w3,(w.alloc (.cells #[u,.int .i64 m] t)).alloc (.cells #[v,.int .i64 n] t)=w3∧Below w.heap.size w w3∧bP t w3 w.heap.size u m∧bP t w3 (w.heap.size+1) v n∧w3.heap.size=w.heap.size+2:=by
 have s1:=jE w (.cells #[u,.int .i64 m] t);have s2:=jE (w.alloc (.cells #[u,.int .i64 m] t)) (.cells #[v,.int .i64 n] t);have b1:=o9 t w u m;have b2:=o9 t (w.alloc (.cells #[u,.int .i64 m] t)) v n;have p1:=bP.new t w u m;have p2:=bP.new t (w.alloc (.cells #[u,.int .i64 m] t)) v n;rw[s1]at p2;exact⟨_,rfl,b1.trans (b2.mono b1.size),p1.over b2,p2,by omega⟩
theorem agm (n i:Nat)(h:i<n):(gu n).take i++[(i:Int)]=(gu n).take (i+1):=by
 unfold gu;rw[List.take_add_one,gN,List.getElem?_range h];rfl
theorem afP:Tryz.f9.results=#[.cell 2 30]:=by kernel_rfl
def FW(w w':World)(xs:List Int)(nw:Int)(e:Ending):Prop:=∃v,e = .returned (.agg #[v,.int .i64 nw])∧Own (aI .i64) 3 w' w.heap.size v xs∧Below w.heap.size w w'
theorem Na (w:World)(n:Int):Calls Tryz.prog 9 #[.int .i64 n] w fun e w'=>FW w w' (gu (jg n)) (jg n:Int) e:=by
 have hle:=KA n;have hci:=Zf n;obtain⟨N,hN⟩:∃N,jg n=N:=⟨_,rfl⟩;rw[hN]at hle hci ⊢;obtain⟨w2,hw2,hb,hp1,hp2,hsz⟩:=aim 30 w (.slice none 0 0) (.slice none 0 0) 0 (N:Int);have HB:=ae hb;have bG:=ae hp1;have o5:=ae hsz;have HI:=ae (kX.nil hp2);have Jj:=ae hci;clear hb hp1 hp2 hsz hN hci;go_enter Tryz.func9,Tryz.ntmps9;go_upto_region 1 with (fail)
 obtain⟨w0,hw0⟩:∃w0,w.alloc (.cells #[.slice none 0 0,.int .i64 0] 30)=w0:=⟨_,rfl⟩;have hz0:w0.heap.size=w.heap.size+1:=by rw[← hw0];exact jE _ _
 have HZ0:=ae hz0;clear hz0;rw[hw0]at hw2 ⊢
 go_cut [3]from 6 to 8 (fun v wx=>∃(dX:World),v = .int .i64 (N:Int)∧dX=wx∧dX=w0)
 case first =>
  by_cases h1:n<0
  · have h2:¬ (1048576:Int)<n:=by omega
    go_wp2_with fail
    go_meet
    case rel=>exact⟨_,(show Value.int .i64 _=Value.int .i64 _ from congrArg _ (by have:=Jj.o;omega)),rfl,rfl⟩
  · by_cases h2:(1048576:Int)<n
    · go_wp2_with fail
      go_meet
      case rel=>exact⟨_,(show Value.int .i64 _=Value.int .i64 _ from congrArg _ (by have:=Jj.o;omega)),rfl,rfl⟩
    · go_wp2_with fail
      all_goals go_meet
      all_goals exact⟨_,(show Value.int .i64 _=Value.int .i64 _ from congrArg _ (by have:=Jj.o;omega)),rfl,rfl⟩
 case rest =>
  obtain⟨dX,rfl,rfl,hw⟩:=hcut;have hw:=hw.symm;subst hw;clear hw0;go_upto_region 4 with (fail)
  clear hw2;rw[HZ0.o]
  go_loopw [5] (fun iv wr=>∃(i:Nat)(A1:Option Addr)(c1:Nat),i≤N∧iv = .int .i64 (i:Int)∧Hid (kX w2 wr (w.heap.size+1) (.slice A1 i c1) (N:Int) ((gu N).take i)))
   (fun iv _=>N - (intOf iv).toNat)
  case atStart=>exact⟨0,none,0,eP _,rfl,HI⟩
  case round =>
   obtain⟨i,A1,c1,hi,rfl,HA⟩:=hrel;have uP:=ae (show((gu N).take i).length=i from by rw[gX,zk];omega);obtain⟨x0,x1⟩:=HA.o.cur.cells;by_cases hlt:i<N
   · have hii:(i:Int)<(N:Int):=by omega
     have HN:=ae (agm N i hlt);have hln:w.heap.size+1<wr.heap.size:=HA.o.cur.lt;have yC:=ae ((ak wr.heap.size wr).alloc (aj _) (.cells #[.int .i64 (i:Int)] 3));have yB:=ae (HA.o.next yC.o);go_wp2_with (at_builtin;refine C9 Elem.pl (aI .i64) rfl (.tmp 17) (.tmp 19) rfl w2.heap.size _ ((gu N).take i) rfl yB.o.own ⟨_,0,none⟩ 1 1 [(i:Int)] rfl rfl ?_ ?_ ?_ ?_ ?_;exact ic _ _ _ rfl;(rw[uP.o];omega);(rw[uP.o];unfold maxLen;omega);(have h1:=yC.o.size;have h2:=HA.o.gr.size;omega);intro v5 w5 h1 h2 _;obtain⟨A5,c5,hv5⟩:=zx h1;simp only[av,fE,uP.o]at hv5;subst hv5;have wm:=ae h1;have WR:=ae h2;obtain⟨m0,m1⟩:=(yB.o.D5 h2).bS;obtain⟨z0,z1⟩:=(yB.o.D5 h2).cells;clear h1 h2)
     clear m0 m1 z0 z1 x0 x1
     go_roundw
     case rel=>exact⟨i+1,A5,c5,by omega,by go_num,ae (by have h1:=wm.o;rw[HN.o]at h1;exact yB.o.push h1 WR.o)⟩
     case measure=>simp[intOf];omega
   · have hii:¬ (i:Int)<(N:Int):=by omega
     have hin:i=N:=by omega
     subst hin;have HP:=ae (HA.o.other bG.o (by omega));obtain⟨y0,y1⟩:=HP.o.cells;obtain⟨m0,m1⟩:=HP.o.bS;go_wp2_with fail
     have Eo:(gu i).take i=gu i:=pW (by rw[zk];exact aj _);have ho:=HA.o.own;rw[Eo,o5.o]at ho;refine bodyPost_ret (EJ (HP.o.oN (.slice A1 i c1) (i:Int)) _ _ 2 afP rfl) rfl ⟨_,rfl, ?_,D6 (HA.o.iN HB.o (by omega) (by have:=o5.o;omega)) (aj _) _ _⟩;exact(ho.keep (fun g h1 _ _=>Em _ _ _ _ _ (by omega))).mono (by omega)
theorem Ig {w w':World}{xs:List Int}{n:Nat}{nw:Int}{e:Ending}(h:FW w w' xs nw e)(hl:xs.length=n):∃D d,e = .returned (.agg #[.slice D n d,.int .i64 nw])∧IR w' w'.heap.size D n d xs∧Below w.heap.size w w':=by
 obtain⟨v,he,h1,h2⟩:=h;obtain⟨D,d,hv⟩:=zx h1;have hi:=h1.se;rw[hl]at hv;subst hv;exact⟨D,d,he,hi,h2⟩
theorem Own.Nc {α : Type}{E:Enc α 1}{e:TypeId}{w:World}{lo g n cap:Nat}{xs:List α}(h:Own E e w lo (.slice (Option.some ⟨g,0,none⟩) n cap) xs)(i:Nat)(x : α)(u:Value)(hu:E.f x=[u]):Own E e (w.setCell ⟨g,i,none⟩ u) lo (.slice (Option.some ⟨g,0,none⟩) n cap) (xs.set i x):=by
 obtain⟨h1,h2⟩:=h;refine⟨by rw[E.mP], ?_⟩;rcases h2 with ⟨h3,_⟩|⟨g',qf,cur,h3,h4,h5,h6,h7,h8,h9⟩
 · cases h3
 · injection h3 with h3 h3' aap
   injection h3 with h3;injection h3 with h3;subst h3;refine .inr ⟨g,qf,_, ?_,h4,heap_setCell_same w g i cur e u h5, ?_,h7,by rw[Array.size_setIfInBounds];exact h8, ?_⟩
   · rw[List.length_set, ← h3', ← aap]
   · rw[List.length_set];exact h6
   · rw[List.length_set,Yl E xs i x u hu, ← h9,Array.toList_setIfInBounds,List.take_set]
theorem adl (f:Nat→Int)(n i:Nat)(x:Int):((List.range n).map f).set i x=(List.range n).map fun j=>if j=i then x else f j:=by
 apply List.ext_getElem?;intro j;rw[List.getElem?_set,gN,eB,List.length_range,gN];by_cases hj:j<n
 · rw[List.getElem?_range hj]
   by_cases hij:i=j
   · subst hij;rw[ah rfl,ah hj,jo,ah rfl]
   · rw[ag hij,jo,jo,ag (fun e=>hij e.symm)]
 · rw[List.getElem?_eq_none (by simp;omega)]
   by_cases hij:i=j
   · subst hij;rw[ah rfl,ag hj];rfl
   · rw[ag hij];rfl
theorem adk (f:Nat→Int)(n i:Nat)(h:i<n):((List.range n).map f).getD i 0=f i:=by
 rw[jL,gN,List.getElem?_range h];rfl
theorem LZ{f g:Nat→Int}{n:Nat}(h:∀j,j<n→f j=g j):(List.range n).map f=(List.range n).map g:=List.map_congr_left fun j hj=>h j (List.mem_range.1 hj)
def uk(a i j:Nat):Int:=if j<a then (j:Int)else if j<i then (j:Int)+1 else (j:Int)
theorem abO (a n:Nat):gu n=(List.range n).map (uk a a):=by
 unfold gu;apply LZ;intro j _;unfold uk;split
 · rfl
 · rfl
theorem abN (a i n:Nat)(h:a≤i):((List.range n).map (uk a i)).set i ((i:Int)+1)=(List.range n).map (uk a (i+1)):=by
 rw[adl];apply LZ;intro j _;unfold uk;by_cases hj:j=i
 · subst hj;rw[ah rfl,ag (by omega),ah (by omega)]
 · rw [ag hj]
   by_cases h1:j<a
   · rw[ah h1,ah h1]
   · rw[ag h1,ag h1]
     by_cases h2:j<i
     · rw[ah h2,ah (by omega)]
     · rw[ag h2,ag (by omega)]
theorem abM (a n:Nat):(List.range n).map (uk a n)=eX n a:=by
 unfold eX;apply LZ;intro j hj;unfold uk;by_cases h1:j<a
 · rw[ah h1,ah (by omega)]
 · rw[ag h1,ah hj,ag (by omega)]
structure tJ (w0 w:World)(q p:Nat)(A:Option Addr)(N c:Nat)(k:Int)(xs:List Int):Prop where
 o:bP 30 w q (.slice none 0 0) 0
 cur:bP 30 w p (.slice A N c) k
 own:Own (aI .i64) 3 w (q+1) (.slice A N c) xs
 row:∀g,A=Option.some ⟨g,0,none⟩→g<p
 iN:Below q w0 w
 Ia:q<p
theorem tJ.set {w0 w:World}{q p g:Nat}{N c:Nat}{k:Int}{xs:List Int}(h:tJ w0 w q p (Option.some ⟨g,0,none⟩) N c k xs)(i:Nat)(x:Int):tJ w0 (w.setCell ⟨g,i,none⟩ (.int .i64 x)) q p (Option.some ⟨g,0,none⟩) N c k (xs.set i x):=by
 have hg:=h.row g rfl;have hl:=(h.own.lies (g:=g) rfl).1;exact⟨h.o.other _ _ (by show q≠g;omega),h.cur.other _ _ (by show p≠g;omega),h.own.Nc i x _ rfl,h.row,h.iN.setCell (by show q≤g;omega) _,h.Ia⟩
theorem tJ.agD {w0 w:World}{q p:Nat}{A:Option Addr}{N c:Nat}{k:Int}{xs:List Int}(h:tJ w0 w q p A N c k xs)(m:Int):tJ w0 (w.setCell ⟨p,1,none⟩ (.int .i64 m)) q p A N c m xs :=
 ⟨h.o.other _ _ (by show q≠p;have:=h.Ia;omega),h.cur.EL m,h.own.keep (fun g h1 h2 h3=>heap_setCell_other w _ g _ (by
  show g≠p;rcases h.own.shape with ⟨h4,_⟩|⟨g',c',h4,_⟩
  · rw[h4]at h3;cases h3
  · injection h4 with h4
    have:=h.row g' h4;rw[h4]at h3;have:g'=g:=dU h3;omega)),h.row,h.iN.setCell (by show q≤p;have:=h.Ia;omega) _,h.Ia⟩
theorem MW:Tryz.f11.results=#[.cell 4 30]:=by kernel_rfl
theorem tJ.start {w w1 w2:World}{A:Option Addr}{N c:Nat}{k:Int}{xs:List Int}(hb:Below w.heap.size w w1)(hp:bP 30 w1 w.heap.size (.slice none 0 0) 0)(ho:Own (aI .i64) 3 w2 w1.heap.size (.slice A N c) xs)(hb2:Below w1.heap.size w1 w2) :
 tJ w (w2.alloc (.cells #[.slice A N c,.int .i64 k] 30)) w.heap.size w2.heap.size A N c k xs:=by
 have h1:=hp.lt;have h2:=hb2.size;have hn:=o9 30 w2 (.slice A N c) k;refine⟨(hp.over hb2).over hn,bP.new _ _ _ _,(ho.below hn (aj _)).mono (by omega),fun g hg => ?_,(hb.trans (hb2.mono hb.size)).trans (hn.mono (by omega)),by omega⟩;subst hg;exact ho.less rfl
theorem M7 (w:World)(n a:Int):Calls Tryz.prog 11 #[.int .i64 n,.int .i64 a] w fun e w'=>FW w w' (xZ n a).1 (xZ n a).2 e:=by
 have HB:=ae (o9 30 w (.slice none 0 0) 0);have HP:=ae (bP.new 30 w (.slice none 0 0) 0);have hle:=KA n;have hs:=fun w=>Na w n
 have hO:xZ n a=if a<0∨(jg n:Int)<a then (gu (jg n),(jg n:Int))else (eX (jg n) a,(jg n:Int)+1):=rfl
 obtain⟨N,hN⟩:∃N,jg n=N:=⟨_,rfl⟩;simp only[hN]at hs hO hle;have HS:=ae hs;clear hN hs;by_cases qo:a<0∨(N:Int)<a
 · rw [ah qo]at hO
   rw[hO];clear hO;go_enter Tryz.func11,Tryz.ntmps11;go_upto_region 1 with (fail)
   obtain⟨w1,hw1⟩:∃w1,w.alloc (.cells #[.slice none 0 0,.int .i64 0] 30)=w1:=⟨_,rfl⟩;rw[hw1]at HB HP ⊢;clear hw1;go_upto_region 2 with (go_at_call 9;((with_reducible refine(HS.o _).mono ?_);rintro e w2 ⟨v,rfl,h1,h2⟩;have H1:=ae h1;have H2:=ae h2;obtain⟨A,c,hv⟩:=zx h1;rw[zk]at hv;subst hv;clear h1 h2))
   have HW:=ae (tJ.start (k:=(N:Int)) HB.o HP.o H1.o H2.o);obtain⟨p,hp⟩:∃p,w2.heap.size=p:=⟨_,rfl⟩;rw[hp]at HW ⊢;obtain⟨w3,hw3⟩:∃w3,w2.alloc (.cells #[.slice A N c,.int .i64 (N:Int)] 30)=w3:=⟨_,rfl⟩;rw[hw3]at HW ⊢;clear hw3 hp;obtain⟨x0,x1⟩:=HW.o.cur.cells;obtain⟨y0,y1⟩:=HW.o.o.cells;obtain⟨m0,m1⟩:=HW.o.o.bS;by_cases h0:a<0
   · go_wp2_with fail
     refine bodyPost_ret (EJ (HW.o.o.oN (.slice A N c) (N:Int)) _ _ 4 MW rfl) rfl ⟨_,rfl, ?_,D6 HW.o.iN (aj _) _ _⟩;exact(HW.o.own.keep (fun g h1 _ _=>Em _ _ _ _ _ (by omega))).mono (by omega)
   · have h9:(N:Int)<a:=qo.resolve_left h0
     clear qo;go_wp2_with fail
     refine bodyPost_ret (EJ (HW.o.o.oN (.slice A N c) (N:Int)) _ _ 4 MW rfl) rfl ⟨_,rfl, ?_,D6 HW.o.iN (aj _) _ _⟩;exact(HW.o.own.keep (fun g h1 _ _=>Em _ _ _ _ _ (by omega))).mono (by omega)
 · rw [ag qo]at hO
   rw[hO];obtain⟨a0,rfl⟩:∃a0:Nat,a=(a0:Int):=⟨a.toNat,by omega⟩;have h0:¬ (a0:Int)<0:=fun e=>qo (.inl e)
   have h9:¬ (N:Int)<(a0:Int):=fun e=>qo (.inr e)
   clear hO qo;go_enter Tryz.func11,Tryz.ntmps11;go_upto_region 1 with (fail)
   obtain⟨w1,hw1⟩:∃w1,w.alloc (.cells #[.slice none 0 0,.int .i64 0] 30)=w1:=⟨_,rfl⟩;rw[hw1]at HB HP ⊢;clear hw1;go_upto_region 2 with (go_at_call 9;((with_reducible refine(HS.o _).mono ?_);rintro e w2 ⟨v,rfl,h1,h2⟩;have H1:=ae h1;have H2:=ae h2;obtain⟨A,c,hv⟩:=zx h1;rw[zk]at hv;subst hv;clear h1 h2))
   have HW:=ae (tJ.start (k:=(N:Int)) HB.o HP.o H1.o H2.o);obtain⟨p,hp⟩:∃p,w2.heap.size=p:=⟨_,rfl⟩;rw[hp]at HW ⊢;obtain⟨w3,hw3⟩:∃w3,w2.alloc (.cells #[.slice A N c,.int .i64 (N:Int)] 30)=w3:=⟨_,rfl⟩;rw[hw3]at HW ⊢;clear hw3 hp;obtain⟨x0,x1⟩:=HW.o.cur.cells;obtain⟨m0,m1⟩:=HW.o.cur.bS;go_upto_region 5 with (fail)
   clear x0 x1 m0 m1;have HW2:=ae (HW.o.agD ((N:Int)+1));obtain⟨w4,hw4⟩:∃w4,w3.setCell ⟨p,1,none⟩ (.int .i64 ((N:Int)+1))=w4:=⟨_,rfl⟩;rw[hw4]at HW2 ⊢;clear hw4;have dE:=ae (show tJ w w4 w.heap.size p A N c ((N:Int)+1) ((List.range N).map (uk a0 a0))from by rw[← abO];exact HW2.o);go_wp2_with fail
   go_loopw [6] (fun iv wr=>∃i:Nat,a0≤i∧i≤N∧iv = .int .i64 (i:Int)∧Hid (tJ w wr w.heap.size p A N c ((N:Int)+1) ((List.range N).map (uk a0 i))))
    (fun iv _=>N - (intOf iv).toNat)
   case atStart=>exact⟨_,aj _,by omega,by first|rfl|trivial|go_num,dE⟩
   case round =>
    obtain⟨i,hai,hi,rfl,HR⟩:=hrel;obtain⟨x0,x1⟩:=HR.o.cur.cells;by_cases hlt:i<N
    · have hii:(i:Int)<(N:Int):=by omega
      have hi0:(0:Int)≤(i:Int):=by omega
      have OA:=ae (show((List.range N).map (uk a0 i)).length=N from by simp);obtain⟨g,c',hA,_⟩:=HR.o.own.some (by rw[OA.o];omega);injection hA with hA h2 h3;subst hA;clear h2 h3;have e0:=HR.o.own.zi i (by rw[OA.o];exact hlt);rw[adk _ _ _ hlt]at e0;have hf:uk a0 i i=(i:Int):=by unfold uk;(repeat' split) <;> omega
      rw[hf]at e0;have f0:=HR.o.own.rwA.yf i;have HN:=ae (abN a0 i N hai);clear hf;go_wp2_with fail
      clear e0 f0 x0 x1
      go_roundw
      case rel=>exact⟨i+1,by omega,by omega,by go_num,ae (by rw[← HN.o];exact HR.o.set i ((i:Int)+1))⟩
      case measure=>simp[intOf];omega
    · have hii:¬ (i:Int)<(N:Int):=by omega
      have hin:i=N:=by omega
      subst hin;have HE:=ae (abM a0 i);obtain⟨y0,y1⟩:=HR.o.o.cells;obtain⟨m0,m1⟩:=HR.o.o.bS;go_wp2_with fail
      have ho:=HR.o.own;rw[HE.o]at ho;refine bodyPost_ret (EJ (HR.o.o.oN (.slice A i c) ((i:Int)+1)) _ _ 4 MW rfl) rfl ⟨_,rfl, ?_,D6 HR.o.iN (aj _) _ _⟩;exact(ho.keep (fun g h1 _ _=>Em _ _ _ _ _ (by omega))).mono (by omega)
def y7:Sf:=⟨⟨#[65]⟩,false,(xZ 3 1).1,(xZ 3 1).2,gu (jg 3),(jg 3:Int)⟩
theorem ZN:qR y7:=⟨⟨by decide +kernel,by decide +kernel,by decide +kernel,Iq _ _ _ (by decide +kernel)⟩,⟨by decide +kernel,by decide +kernel,by decide +kernel,Iq _ _ _ (by decide +kernel)⟩⟩
theorem Vg (w:World)(x:bK)(h:qd w w.heap.size x):o6 (w.alloc (.cells (jY x) 33)) (w.heap.size+1) (.slice (some ⟨w.heap.size,0,none⟩) 1 1) [x]:=by
 have hb:Below w.heap.size w (w.alloc (.cells (jY x) 33)):=Below.alloc (ak _ _) (aj _) _;refine⟨⟨_,1,rfl,aj 1,by decide,.inr ⟨w.heap.size,0,rfl,by omega,fun j u hj => ?_⟩⟩,fun y hy => ?_⟩
 · have e:KF.all [x]=(jY x).toList:=by simp[Enc.all,KF]
   rw[e]at hj;rw[Nat.zero_add];rw[World.cell?_alloc_new];simpa using hj
 · rw[fA.1 hy]
   exact(h.below hb (aj _)).mono (by omega)
def Me (l out own:List Int)(ss:List Sf):Bool:=match gJ l with
 | none=>false
 | some ts=>match lW 200 ts with
   | some (.ok ns)=>decide (cz ns=l)&&decide (cz (mg (strOfNums own) ss ns)=out)
   | _=>false
theorem adH:Me [65,50] [65,51] [65] [y7]=true:=by decide +kernel
theorem adG (s own:ByteArray)(h:s.size≤300){l out o:List Int}{ss:List Sf}(hl:sb s=l)(ho:strOfNums o=own)(hs:Me l out o ss=true):∃ns,jc s (.ok ns)∧cz ns=l∧cz (mg own ss ns)=out:=by
 subst hl;subst ho;unfold Me at hs;split at hs
 · cases hs
 · rename_i ts hl
   split at hs
   · rename_i ns hp
     rw[dH,aK,aK]at hs;exact⟨ns,.inr (.inr ⟨h,ts,200,hl,hp⟩),hs.1,hs.2⟩
   · cases hs
theorem ZO:∃ns,jc ⟨#[65,50]⟩ (.ok ns)∧strOfNums (cz ns)=⟨#[65,50]⟩∧uD ⟨#[65]⟩ [y7] ns=⟨#[61,65,51]⟩:=by
 obtain⟨ns,h1,h2,h3⟩:=adG ⟨#[65,50]⟩ ⟨#[65]⟩ (by decide) (by decide:sb ⟨#[65,50]⟩=[65,50]) (by decide +kernel:strOfNums [65]=⟨#[65]⟩) adH;refine⟨ns,h1,by rw[h2];decide +kernel, ?_⟩;unfold uD;rw[h3];decide +kernel
theorem ahT (w:World)(hx:rV w)(x:bK)(A:Option Addr)(c:Nat)(hv:o6 w w.heap.size (.slice A 1 c) [x])(hs:x.s=y7) :
 Calls Tryz.prog 12 #[.string ⟨#[61,65,50]⟩,.string ⟨#[65]⟩,.slice A 1 c] w fun e w'=>e = .returned (.string ⟨#[61,65,51]⟩)∧Below w.heap.size w w':=by
 obtain⟨ns,h1,h2,h3⟩:=ZO;have:=TB w ⟨#[61,65,50]⟩ ⟨#[65,50]⟩ ⟨#[65]⟩ [x] A 1 c hx hv (by decide) (fun y hy=>by rw[fA.1 hy,hs];exact ZN) (by decide) (by decide) (by decide) (by decide +kernel) (by decide +kernel) ns h1 h2;rwa[show kF [x]=[y7]by unfold kF;rw[jM,hs];rfl,h3]at this
theorem ahU (w:World)(hx:rV w)(D D2:Option Addr)(d d2:Nat)(h1:IR w w.heap.size D 3 d (xZ 3 1).1)(h2:IR w w.heap.size D2 3 d2 (gu (jg 3))) :
 Calls Tryz.prog 12 #[.string ⟨#[61,65,50]⟩,.string ⟨#[65]⟩,.slice (some ⟨w.heap.size,0,none⟩) 1 1] (w.alloc (.cells #[.string ⟨#[65]⟩,.slice D 3 d,.int .i64 (xZ 3 1).2,.slice D2 3 d2,.int .i64 (jg 3:Int),.bool false] 33)) fun e w'=>e = .returned (.string ⟨#[61,65,51]⟩)∧Below w.heap.size w w':=by
 have hs:=Vg w ⟨y7,D,d,D2,d2,by decide⟩ ⟨h1,h2⟩;have hb:Below w.heap.size w (w.alloc (.cells (jY ⟨y7,D,d,D2,d2,by decide⟩) 33)):=Below.alloc (ak _ _) (aj _) _;have:=ahT _ (hx.below hb) ⟨y7,D,d,D2,d2,by decide⟩ _ _ (hs.mono (by rw[jE];exact aj _)) rfl;exact this.mono fun e w' h=>⟨h.1,hb.trans (h.2.mono hb.size)⟩
theorem Px (w:World)(hx:rV w) :
 Calls Tryz.prog 5 #[] w fun e w'=>e = .returned (.bool true)∧Below w.heap.size w w':=by
 have HI:=ae ((M7 w 3 1).mono fun e w1 h=>Ig (n:=3) h rfl);have XL:=ae (fun (w1:World)=>(Na w1 3).mono fun e w2 h=>Ig (n:=3) h rfl);have HT:=ae (fun (wq:World)(hq:Below w.heap.size w wq)=>ahU wq (hx.below hq));clear hx;go_enter Tryz.func5,Tryz.ntmps5
 go_wp2_with (first
  | (go_at_call 11;((with_reducible refine HI.o.mono ?_);rintro e w1 ⟨D,d,rfl,hr,hq⟩;have H1:=ae hq;have HR1:=ae hr;clear hq hr))
  | (go_at_call 9;((with_reducible refine(XL.o _).mono ?_);rintro e w2 ⟨D2,d2,rfl,hr,hq⟩;have H2:=ae hq;have HR2:=ae hr;clear hq hr))
  | (go_at_call 12;((with_reducible refine(HT.o _ (H1.o.trans (H2.o.mono H1.o.size)) _ _ _ _ ((HR1.o.below H2.o (aj _)).mono H2.o.size) HR2.o).mono ?_);rintro e w4 ⟨rfl,hq⟩;have H4:=ae ((H1.o.trans (H2.o.mono H1.o.size)).trans (hq.mono (H1.o.trans (H2.o.mono H1.o.size)).size));clear hq)))
 go_ret;exact⟨rfl,H4.o⟩
def wz(xs:List Int)(nw:Int):Prop:=∃n:Nat,xs=gu n∧nw=(n:Int)
theorem wz.img {xs:List Int}{nw:Int}(h:wz xs nw)(i:Int)(h0:0≤i):bH xs nw i=i:=by
 obtain⟨n,rfl,rfl⟩:=h;obtain⟨k,rfl⟩:∃k:Nat,i=(k:Int):=⟨i.toNat,by omega⟩;by_cases hk:k<n
 · rw[uj _ _ _ (by rw[zk];exact hk),agl n k hk]
 · rw[wP _ _ _ h0 (by rw[zk];omega),zk];omega
theorem wz.gone {xs:List Int}{nw:Int}(h:wz xs nw)(i:Nat):jw xs i=false:=by
 obtain⟨n,rfl,rfl⟩:=h;unfold jw gu;rw[aS];intro e;rw[gN]at e;cases hq:(List.range n)[i]? with
 | none=>rw[hq]at e;cases e
 | some q =>
   rw[hq]at e;injection e with e;have e:(q:Int) = -1:=e;omega
theorem Z8 {xs:List Int}{nw:Int}(h:wz xs nw)(n lo:Nat):jS xs n lo=lo:=by
 cases n with
 | zero=>rfl
 | succ n=>unfold jS;rw[h.gone];rfl
theorem acs {xs:List Int}{nw:Int}(h:wz xs nw)(n hi:Nat):mO xs n hi=hi:=by
 cases n with
 | zero=>rfl
 | succ n=>unfold mO;rw[h.gone];rfl
theorem wz.span {xs:List Int}{nw:Int}(h:wz xs nw)(lo hi:Int)(h0:0≤lo)(h1:lo≤hi):iR xs nw lo hi=(lo,hi,true):=by
 obtain⟨a,rfl⟩:∃a:Nat,lo=(a:Int):=⟨lo.toNat,by omega⟩;obtain⟨b,rfl⟩:∃b:Nat,hi=(b:Int):=⟨hi.toNat,by omega⟩;unfold iR;rw[ag (by omega),Z8 h,ag (by omega),acs h];rw[h.img _ (by omega),h.img _ (by omega)];simp
structure DW (n:Nd):Prop where
 one:n.kind=5→bQ n.ref=true
 two:n.kind=6→bQ n.ref=true∧bQ n.af=true∧n.ref.c≤n.af.c∧n.ref.r≤n.af.r
theorem adA (own:ByteArray)(ss:List Sf)(n:Nd)(h:∀s∈ss,s.sh≠qx own n):mh own ss n=n:=by
 unfold mh;by_cases hk:¬ n.kind=5∧¬ n.kind=6
 · rw[ah hk]
 · rw[ag hk]
   cases hf:y8 ss (qx own n)with
   | none=>rfl
   | some s=>exact absurd (KJ hf).2 (h s (KJ hf).1)
theorem He (n:Int):Ag (gu (jg n)) (jg n:Int):=by
 have h:=KA n;refine⟨by rw[zk];omega,by omega,by omega, ?_⟩;refine⟨fun i x hx _ => ?_,fun i j x y hij hx hy _ _ => ?_⟩
 · obtain ⟨k,hk,rfl⟩:∃k:Nat,k<jg n∧x=(k:Int):=by
    unfold gu at hx;rw[gN]at hx;cases hq:(List.range (jg n))[i]? with
    | none=>rw[hq]at hx;cases hx
    | some q=>rw[hq]at hx;injection hx with hx;exact⟨q,by have:=fT hq;rwa[List.mem_range]at this,hx.symm⟩
   omega
 · have hn:∀(i:Nat)(x:Int),(gu (jg n))[i]? = some x→x=(i:Int):=by
    intro i x hx;unfold gu at hx;rw[gN]at hx;cases hq:(List.range (jg n))[i]? with
    | none=>rw[hq]at hx;cases hx
    | some q =>
      rw[hq]at hx;injection hx with hx;have h1:=(dS.1 hq);obtain⟨h2,h3⟩:=h1;rw[List.getElem_range]at h3;rw[← hx, ← h3]
   rw[hn i x hx,hn j y hy];omega
theorem gT.push {l:List Nd}{st ks:List Int}{n:Nd}(h:gT 0 l (st++ks))(hn:dm n=true)(hk:n.kids=ks):gT 0 (l++[n]) (st++[(l.length:Int)]):=by
 intro s rest;subst hk;rw[bN,h];show nM (s++(st++n.kids)) (0+l.length) (n :: rest)=_;rw[nN, ← bN];have e1:((s++st)++n.kids).length - n.kids.length=(s++st).length:=by rw[av];omega
 rw[hn,e1,List.drop_left,List.take_left,aQ (show n.kids.length≤((s++st)++n.kids).length by rw[av];omega),aQ rfl,gL,gL,gL,av,Nat.zero_add,Nat.zero_add,bN];rfl
def zG(m:Nat):ByteArray:=if m / 8 % 3=2 then ⟨#[84]⟩else ⟨#[]⟩
def CR(m:Nat):bL:=⟨zG m,((m / 16 % 5:Nat):Int),((m / 8 % 7:Nat):Int),decide (128<m),false⟩
def ER(m:Nat):bL:=⟨⟨#[]⟩,((m / 16 % 3:Nat):Int),((m / 8 % 4:Nat):Int),false,false⟩
def ES(m:Nat):bL:=⟨⟨#[]⟩,((1+m / 16:Nat):Int),((2+m / 8:Nat):Int),false,false⟩
def wZ(m:Nat):ByteArray:=strOfNums (97 :: 34 :: aV m)
def gF (m k:Nat):Nat :=
 if m % 3=0∧2≤k then 2 else if m % 16=1∧1≤k then 1 else if m % 16=2 then min k (m / 16 % 4)else 0
def kg (m k:Nat)(ks:List Int):Nd :=
 if m % 3=0∧2≤k then { Nd.zero with kind:=9+((m / 3 % 11:Nat):Int),kids:=ks }
 else if m % 16=1∧1≤k then { Nd.zero with kind:=8,kids:=ks }
 else if m % 16=2 then { Nd.zero with kind:=7,text:=⟨#[83,85,77]⟩,kids:=ks }
 else if m % 8=4 then { Nd.zero with kind:=5,ref:=CR m }
 else if m % 8=5 then { Nd.zero with kind:=6,ref:=ER m,af:=ES m }
 else if m % 32=7 then { Nd.zero with kind:=2,text:=wZ m }
 else if m % 32=10 then { Nd.zero with kind:=3,num:=((m / 32 % 2:Nat):Int) }
 else if m % 32=11 then { Nd.zero with kind:=4 }
 else { Nd.zero with kind:=1,num:=(m:Int) }
theorem afT:∀m<256,bQ (CR m)=true:=by decide +kernel
theorem afU:∀m<256,bQ (ER m)=true∧bQ (ES m)=true∧fu (ER m) (ES m)=true:=by decide +kernel
theorem ahC:j4 ⟨#[83,85,77]⟩=true:=by decide +kernel
theorem V7 (m:Nat):Bytes (97 :: 34 :: aV m):=by
 intro x hx;rcases eY.1 hx with rfl|hx
 · omega
 · rcases eY.1 hx with rfl|hx
   · omega
   · have:=jA (rq m x hx);omega
theorem aiq (m:Nat):mF (sb (wZ m))=true:=by
 unfold wZ;rw[jD _ (V7 m)];refine aQ ?_;intro x hx;rcases eY.1 hx with rfl|hx
 · omega
 · rcases eY.1 hx with rfl|hx
   · omega
   · have:=jA (rq m x hx);omega
theorem ad2 (k:Nat):dm { Nd.zero with kind:=3,num:=((k % 2:Nat):Int) }=true:=by
 rcases Nat.mod_two_eq_zero_or_one k with h|h <;> rw[h] <;> decide
theorem ad3:dm { Nd.zero with kind:=4 }=true:=by decide
theorem TK (m k:Nat)(ks:List Int)(hm:m<256)(hk:ks.length=gF m k):dm (kg m k ks)=true∧(kg m k ks).kids=ks:=by
 unfold kg;unfold gF at hk;by_cases c1:m % 3=0∧2≤k
 · rw[ah c1]at hk ⊢
   match ks,hk with
   | [a,b],_=>exact⟨Mq (by omega),rfl⟩
 rw[ag c1]at hk ⊢;by_cases c2:m % 16=1∧1≤k
 · rw[ah c2]at hk ⊢
   match ks,hk with
   | [a],_=>exact⟨TN a,rfl⟩
 rw[ag c2]at hk ⊢;by_cases c3:m % 16=2
 · rw[ah c3];exact⟨TM ahC,rfl⟩
 rw[ag c3]at hk ⊢;obtain rfl:=kV hk;by_cases c4:m % 8=4
 · rw[ah c4];exact⟨Ms (afT m hm),rfl⟩
 rw[ag c4];by_cases c5:m % 8=5
 · rw[ah c5];obtain⟨h1,h2,h3⟩:=afU m hm;exact⟨Mr h1 h2 h3,rfl⟩
 rw[ag c5];by_cases c6:m % 32=7
 · rw[ah c6];exact⟨TQ (aiq m),rfl⟩
 rw[ag c6];by_cases c7:m % 32=10
 · rw[ah c7];exact⟨ad2 _,rfl⟩
 rw[ag c7];by_cases c8:m % 32=11
 · rw[ah c8];exact⟨ad3,rfl⟩
 rw[ag c8];exact⟨TP (by omega),rfl⟩
def EG(m:Nat):Nd:={ Nd.zero with kind:=6,ref:=ER m,af:=ES m }
def Mg(u v x y:Int):Nd:={ Nd.zero with kind:=6,ref:=⟨⟨#[]⟩,u,v,false,false⟩,af:=⟨⟨#[]⟩,x,y,false,false⟩ }
def x9 (m:Nat):Nd :=
 if m % 8=4 then { Nd.zero with kind:=5,ref:=CR m }
 else if m % 8=5 then EG m
 else if m % 32=7 then { Nd.zero with kind:=2,text:=wZ m }
 else if m % 32=10 then { Nd.zero with kind:=3,num:=((m / 32 % 2:Nat):Int) }
 else if m % 32=11 then { Nd.zero with kind:=4 }
 else { Nd.zero with kind:=1,num:=(m:Int) }
theorem ad5 {m k:Nat}(h3:¬ (m % 3=0∧2≤k))(h1:¬ (m % 16=1∧1≤k))(h2:¬ m % 16=2)(ks:List Int):kg m k ks=x9 m:=by
 unfold kg x9 EG;rw[ag h3,ag h1,ag h2]
def F4(n:Nd):Prop:=n.num≤255∧n.text.size≤300∧n.ref.sh.size≤1∧n.af.sh.size≤1
theorem agU(m:Nat):(zG m).size≤1:=by unfold zG;split <;> decide
theorem V8 (m:Nat)(h:m<256):(wZ m).size≤300:=by
 unfold wZ;rw[strOfNums_size,aX,aX];have:=LM m;omega
theorem ad7 (m k:Nat)(ks:List Int)(hm:m<256):F4 (kg m k ks):=by
 have e0:(⟨#[]⟩:ByteArray).size=0:=rfl;have e3:(⟨#[83,85,77]⟩:ByteArray).size=3:=rfl;have h1:=agU m;have h2:=V8 m hm;unfold kg
 repeat' split
 all_goals (refine⟨?_, ?_, ?_, ?_⟩ <;> (first|(show(0:Int)≤255;decide)|(show((m / 32 % 2:Nat):Int)≤255;omega)|(show(m:Int)≤255;omega)|exact h2|exact h1|(show(⟨#[]⟩:ByteArray).size≤_;rw[e0];omega)|(show(⟨#[83,85,77]⟩:ByteArray).size≤_;rw[e3];omega)))
def Di(n:Nd):Prop:=∀x∈sb n.text,x≠40∧x≠41
theorem Qy:Di Nd.zero:=by
 intro x hx;rw[show sb Nd.zero.text=[]from by decide]at hx;cases hx
theorem ad4 (m k:Nat)(ks:List Int):Di (kg m k ks):=by
 have h0:∀x∈sb (⟨#[]⟩:ByteArray),x≠40∧x≠41:=Qy;have h1:∀x∈sb (⟨#[83,85,77]⟩:ByteArray),x≠40∧x≠41:=by decide
 have h2:∀x∈sb (wZ m),x≠40∧x≠41:=by
  unfold wZ;rw[jD _ (V7 m)];intro x hx;rcases eY.1 hx with rfl|hx
  · omega
  · rcases eY.1 hx with rfl|hx
    · omega
    · have:=jA (rq m x hx);omega
 unfold kg
 repeat' split
 all_goals (first|exact h0|exact h1|exact h2)
def FZ(n:Nd):Prop:=(n.ref.sh=⟨#[]⟩∨n.ref.sh=⟨#[84]⟩)∧n.ref.r≤40∧n.af.r≤40
theorem ad6 (m k:Nat)(ks:List Int)(hm:m<256):FZ (kg m k ks):=by
 have h1:zG m=⟨#[]⟩∨zG m=⟨#[84]⟩:=by unfold zG;split <;> simp
 have h0:(0:Int)≤40:=by decide
 have h2:((m / 8 % 7:Nat):Int)≤40:=by omega
 have h3:((m / 8 % 4:Nat):Int)≤40:=by omega
 have h4:((2+m / 8:Nat):Int)≤40:=by omega
 unfold kg
 repeat' split
 all_goals (first|exact⟨.inl rfl,h0,h0⟩|exact⟨h1,h2,h0⟩|exact⟨.inl rfl,h3,h4⟩)
structure ll (l:List Nd)(st:List Int):Prop where
 Uh:gT 0 l st
 tiny:∀n∈l,F4 n
 few:st.length≤l.length
 some:l≠[]→st≠[]
 free:∀n∈l,Di n
 jX:∀n∈l,FZ n
theorem ll.nil:ll [] []:=⟨gT.nil 0,by simp,aj _,by simp,by simp,by simp⟩
theorem ll.push {l:List Nd}{st ks:List Int}{n:Nd}(h:ll l (st++ks))(hn:dm n=true)(hk:n.kids=ks)(ht:F4 n)(hf:Di n)(hsh:FZ n):ll (l++[n]) (st++[(l.length:Int)]):=by
 refine⟨h.Uh.push hn hk, ?_, ?_,by simp, ?_, ?_⟩
 · intro x hx
   rcases dK.1 hx with hx|hx
   · exact h.tiny x hx
   · rw[fA.1 hx];exact ht
 · have:=h.few
   rw[av]at this;rw[av,av,fE,fE];omega
 · intro x hx
   rcases dK.1 hx with hx|hx
   · exact h.free x hx
   · rw[fA.1 hx];exact hf
 · intro x hx
   rcases dK.1 hx with hx|hx
   · exact h.jX x hx
   · rw[fA.1 hx];exact hsh
theorem VK (m k:Nat):gF m k≤k:=by
 unfold gF;split
 · omega
 split
 · omega
 split
 · exact Nat.min_le_left _ _
 · omega
theorem ll.round {l:List Nd}{st:List Int}(m:Nat)(hm:m<256)(h:ll l st) :
 ll (l++[kg m st.length (st.drop (st.length - gF m st.length))]) (st.take (st.length - gF m st.length)++[(l.length:Int)]):=by
 have ht:=VK m st.length;have hl:(st.drop (st.length - gF m st.length)).length=gF m st.length:=by rw[lG];omega
 obtain⟨h1,h2⟩:=TK m st.length _ hm hl;have h0:ll l (st.take (st.length - gF m st.length)++st.drop (st.length - gF m st.length)):=by rw[List.take_append_drop];exact h
 exact h0.push h1 h2 (ad7 m _ _ hm) (ad4 m _ _) (ad6 m _ _ hm)
def Ky(a b:Int):Nd:={ Nd.zero with kind:=15,kids:=[a,b] }
theorem ll.cat {l:List Nd}{st:List Int}{a b:Int}(h:ll l (st++[a,b])):ll (l++[Ky a b]) (st++[(l.length:Int)]) :=
 h.push (Mq (by omega)) rfl ⟨show(0:Int)≤255 by decide,show(⟨#[]⟩:ByteArray).size≤300 by decide,show(⟨#[]⟩:ByteArray).size≤1 by decide,show(⟨#[]⟩:ByteArray).size≤1 by decide⟩ Qy ⟨.inl rfl,show(0:Int)≤40 by decide,show(0:Int)≤40 by decide⟩
theorem ll.tree {l:List Nd}{a:Int}(h:ll l [a]):cO l=true:=by
 have:=h.Uh [] [];rw[fF]at this;unfold cO;rw[this];rfl
structure iL (w:World)(lo:Nat)(sv k:Value)(ks:List Int):Prop where
 own:Own (aI .i64) 3 w lo k ks
 apart:∀g,k.ownBlock=Option.some g→sv.ownBlock≠Option.some g
theorem iL.nil(w:World)(lo:Nat)(sv:Value):iL w lo sv (.slice none 0 0) []:=⟨Own.nil _ _ _ _,fun _ h=>nomatch h⟩
theorem iL.next{w w':World}{lo:Nat}{sv k:Value}{ks:List Int}(h:iL w lo sv k ks)(hb:Below w.heap.size w w'):iL w' lo sv k ks:=⟨h.own.below hb (aj _),h.apart⟩
theorem iL.grow {w w':World}{lo:Nat}{sv rJ k:Value}{ks:List Int}(h:iL w lo sv k ks)(hg:w.grownBy w' sv.ownBlock)(hor:rJ.ownBlock=sv.ownBlock∨rJ.ownBlock=Option.some w.heap.size):iL w' lo rJ k ks:=by
 refine⟨h.own.keep fun g _ hl e=>hg.block g hl (fun e2=>h.apart g e e2.symm),fun g e => ?_⟩;rcases hor with e2|e2
 · rw[e2];exact h.apart g e
 · rw[e2];intro e3;injection e3 with e3;have:=h.own.less e;omega
theorem iL.fresh {w w':World}{lo:Nat}{sv rJ k:Value}{ks st':List Int}(h:iL w lo sv k ks)(ho:Own (aI .i64) 3 w' w.heap.size rJ st')(hb:Below w.heap.size w w'):iL w' lo rJ k ks:=by
 refine⟨h.own.below hb (aj _),fun g e e2 => ?_⟩;have h1:=h.own.less e;have h2:=(ho.lies e2).1;omega
theorem iL.row {w w':World}{lo lo2:Nat}{sv gK k:Value}{ks:List Int}{vs:List aC}(h:iL w lo sv k ks)(hn:Own ql 45 w lo2 gK vs)(hg:w.grownBy w' gK.ownBlock):iL w' lo sv k ks :=
 ⟨h.own.keep fun g _ hl e=>hg.block g hl (h.own.F9 hn (by decide) e),h.apart⟩
theorem iL.nv {w:World}{lo:Nat}{sv k:Value}{ks:List Int}(h:iL w lo sv k ks)(n:Nd)(hn:n.kids=ks):∃v:aC,v.n=n∧v.bn=k:=by
 subst hn;rcases h.own.shape with ⟨h1,_⟩|⟨g,c,h1,_⟩
 · exact⟨⟨n,none⟩,rfl,h1.symm⟩
 · exact⟨⟨n,Option.some (g,c)⟩,rfl,h1.symm⟩
structure jH (w0 w:World)(gK sv:Value)(vs:List aC)(st:List Int):Prop where
 nodes:Own ql 45 w w0.heap.size gK vs
 kids:∀v∈vs,iL w w0.heap.size sv v.bn v.n.kids
 jK:Own (aI .i64) 3 w w0.heap.size sv st
 iN:Below w0.heap.size w0 w
theorem jH.nil(w:World):jH w w (.slice none 0 0) (.slice none 0 0) [] []:=⟨Own.nil _ _ _ _,fun v hv=>absurd hv (by simp),Own.nil _ _ _ _,ak _ _⟩
theorem jH.adZ{w0 w:World}{gK sv:Value}{vs:List aC}{st:List Int}(h:jH w0 w gK sv vs st):ky w w0.heap.size gK vs:=⟨h.nodes,fun v hv=>(h.kids v hv).own⟩
theorem jH.next {w0 w w':World}{gK sv:Value}{vs:List aC}{st:List Int}(h:jH w0 w gK sv vs st)(hb:Below w.heap.size w w'):jH w0 w' gK sv vs st :=
 ⟨h.nodes.below hb (aj _),fun v hv=>(h.kids v hv).next hb,h.jK.below hb (aj _),h.iN.trans (hb.mono h.iN.size)⟩
theorem jH.drew{w0 w:World}{gK sv:Value}{vs:List aC}{st:List Int}(h:jH w0 w gK sv vs st):jH w0 w.drew gK sv vs st:=h.next (Below.drew (ak _ _))
theorem Ma {w0 w w':World}{r:Option Nat}(h:Below w0.heap.size w0 w)(hg:w.grownBy w' r)(hr:∀g,r=Option.some g→w0.heap.size≤g):Below w0.heap.size w0 w' :=
 h.grown hg h.size hr
theorem jH.push {w0 w w':World}{gK sv rJ:Value}{vs:List aC}{st st':List Int}(h:jH w0 w gK sv vs st)(ho:Own (aI .i64) 3 w' w0.heap.size rJ st')(hg:w.grownBy w' sv.ownBlock)(hor:rJ.ownBlock=sv.ownBlock∨rJ.ownBlock=Option.some w.heap.size):jH w0 w' gK rJ vs st' :=
 ⟨h.nodes.keep fun g _ hl e=>hg.block g hl (h.nodes.F9 h.jK (by decide) e),fun v hv=>(h.kids v hv).grow hg hor,ho,Ma h.iN hg (fun g e=>(h.jK.lies e).1)⟩
theorem jH.fresh {w0 w w':World}{gK sv rJ:Value}{vs:List aC}{st st':List Int}(h:jH w0 w gK sv vs st)(ho:Own (aI .i64) 3 w' w.heap.size rJ st')(hb:Below w.heap.size w w'):jH w0 w' gK rJ vs st' :=
 ⟨h.nodes.below hb (aj _),fun v hv=>(h.kids v hv).fresh ho hb,ho.mono h.iN.size,h.iN.trans (hb.mono h.iN.size)⟩
theorem jH.node {w0 w w':World}{gK Ta sv:Value}{vs:List aC}{st:List Int}(h:jH w0 w gK sv vs st)(v:aC)(hk:iL w w0.heap.size sv v.bn v.n.kids)(ho:Own ql 45 w' w0.heap.size Ta (vs++[v]))(hg:w.grownBy w' gK.ownBlock):jH w0 w' Ta sv (vs++[v]) st:=by
 refine⟨ho,fun u hu => ?_,h.jK.keep fun g _ hl e=>hg.block g hl (h.jK.F9 h.nodes (by decide) e),Ma h.iN hg (fun g e=>(h.nodes.lies e).1)⟩;rcases dK.1 hu with hu|hu
 · exact(h.kids u hu).row h.nodes hg
 · rw[fA.1 hu];exact hk.row h.nodes hg
theorem az.grow {w w':World}{z lo:Nat}{n:Nd}{k sv:Value}{st:List Int}(h:az w z n k)(ho:Own (aI .i64) 3 w lo sv st)(hg:w.grownBy w' sv.ownBlock):az w' z n k:=by
 unfold az
 rw [hg.block z h.lt (fun e=>by
  obtain⟨_,cur,h2⟩:=ho.lies e.symm;rw[show w.heap[z]? = _ from h]at h2;injection h2 with h2;injection h2 with _ h2;exact absurd h2 (by decide))]
 exact h
theorem Own.Tx {w:World}{t:TypeId}{base n c:Nat}{A:Option Addr}{st:List Int}(h:Own (aI .i64) t w base (.slice A n c) st)(f:Nat):(A=none→n=0)∧∀b,A=Option.some b→∀(j:Nat)(u:Value),((aI .i64).all (st.take f))[j]? = Option.some u→w.cell? (b.add j)=Option.some u:=by
 rcases h.shape with ⟨h1,_⟩|⟨g,cap,h1,_⟩
 · injection h1 with h1 h2
   exact⟨fun _=>h2,fun b hb=>by rw[h1]at hb;cases hb⟩
 · injection h1 with h1 h2
   subst h1;refine⟨(fun e=>nomatch e),fun b hb j u hu => ?_⟩;injection hb with hb;subst hb;rw[Addr.add_mid,Nat.zero_add];refine h.cells j u ?_;rw[wD,gN]at hu ⊢;rw[List.getElem?_take]at hu;split at hu
   · exact hu
   · cases hu
structure X6 (w0 w:World)(gK sv:Value)(vs:List aC)(st:List Int)(z m:Nat)(sk:Value):Prop where
 held:jH w0 w gK sv vs st
 node:∃bn,az w z (kg m st.length (st.drop (st.length - gF m st.length))) bn∧iL w w0.heap.size sv bn (st.drop (st.length - gF m st.length))
 view:(sk=sv∧gF m st.length=0)∨∃A c,sv = .slice A st.length c∧sk = .slice A (st.length - gF m st.length) (st.length - gF m st.length)
theorem ach(m k:Nat)(ks:List Int)(hm:m<256)(hk:ks.length=gF m k):(kg m k ks).kids=ks:=(TK m k ks hm hk).2
theorem Mh {w:World}{z:Nat}{n:Nd}{k:Value}(hn:az w z n k){lo:Nat}{v:Value}{xs:List Int}(h:Own (aI .i64) 3 w lo v xs){g:Nat}(e:v.ownBlock=Option.some g):Option.some g≠Option.some z:=by
 intro e2;injection e2 with e2;subst e2;obtain⟨_,cur,h3⟩:=h.lies e;rw[show w.heap[g]? = _ from hn]at h3;injection h3 with h3;injection h3 with _ h3;exact absurd h3 (by decide)
theorem iL.over {w w':World}{z lo:Nat}{n:Nd}{k sv bn:Value}{ks:List Int}(h:iL w lo sv bn ks)(hn:az w z n k)(hg:w.grownBy w' (Option.some z)):iL w' lo sv bn ks :=
 ⟨h.own.keep fun _ _ hl e=>hg.block _ hl (Mh hn h.own e),h.apart⟩
theorem jH.over {w0 w w':World}{z:Nat}{n:Nd}{k gK sv:Value}{vs:List aC}{st:List Int}(h:jH w0 w gK sv vs st)(hn:az w z n k)(hz:gK.ownBlock≠Option.some z)(hlo:w0.heap.size≤z)(hg:w.grownBy w' (Option.some z)):jH w0 w' gK sv vs st :=
 ⟨h.nodes.keep fun g _ hl e=>hg.block g hl (fun e2=>hz (e.trans e2)),fun v hv=>(h.kids v hv).over hn hg,h.jK.keep fun _ _ hl e=>hg.block _ hl (Mh hn h.jK e),Ma h.iN hg (fun g e=>by injection e with e;omega)⟩
theorem Ql {st:List Int}{k:Nat}(hk:st.length=k)(h2:2≤k):st.drop (k - 2)=[st.getD (k - 2) 0,st.getD (k - 1) 0]:=by
 have e1:k - 2<st.length:=by omega
 have e2:k - 2+1<st.length:=by omega
 rw[List.drop_eq_getElem_cons e1,List.drop_eq_getElem_cons e2,List.drop_of_length_le (by omega)];rw[jL,jL,dL e1,show k - 1=k - 2+1 by omega,dL e2];rfl
theorem drop_one {st:List Int}{k:Nat}(hk:st.length=k)(h1:1≤k):st.drop (k - 1)=[st.getD (k - 1) 0]:=by
 have e1:k - 1<st.length:=by omega
 rw[List.drop_eq_getElem_cons e1,List.drop_of_length_le (by omega)];rw[jL,dL e1];rfl
theorem iL.UZ {w:World}{lo:Nat}{sv:Value}{st:List Int}(hlo:lo≤w.heap.size)(hs:Own (aI .i64) 3 w lo sv st)(x y:Int):iL (w.alloc (.cells #[.int .i64 x,.int .i64 y] 3)) lo sv (.slice (some ⟨w.heap.size,0,none⟩) 2 2) [x,y] :=
 ⟨HZ w lo x y hlo,fun g e e2=>by have h1:=hs.less e2;injection e with e;have e:w.heap.size=g:=e;omega⟩
theorem iL.af2 {w:World}{lo:Nat}{sv:Value}{st:List Int}(hlo:lo≤w.heap.size)(hs:Own (aI .i64) 3 w lo sv st)(x:Int):iL (w.alloc (.cells #[.int .i64 x] 3)) lo sv (.slice (some ⟨w.heap.size,0,none⟩) 1 1) [x] :=
 ⟨HY w lo x hlo,fun g e e2=>by have h1:=hs.less e2;injection e with e;have e:w.heap.size=g:=e;omega⟩
theorem Ua (w:World)(B:Nat)(hB:B≤w.heap.size):Own (aI .i64) 3 (w.alloc (.cells #[] 3)) B (.slice (some ⟨w.heap.size,0,none⟩) 0 0) ([]:List Int) :=
 Own.made (aI .i64) 3 w B w.heap.size 0 #[] rfl hB (by unfold maxLen;omega) rfl
theorem aht {w:World}{base g cap k f:Nat}{st:List Int}(h:Own (aI .i64) 3 w base (.slice (some ⟨g,0,none⟩) k cap) st)(hk:st.length=k)(hf:f≤k)(hc:k≤cap):Src Tryz.prog 1 28 (.slice (if cap=f then some ⟨g,0,none⟩else some ⟨g,f,none⟩) (k - f) (cap - f)) (k - f) ((aI .i64).all (st.drop f)) w:=by
 have hl:(st.drop f).length=k - f:=by rw[lG,hk]
 by_cases h0:cap=f
 · have e:k - f=0:=by omega
   have e2:st.drop f=[]:=kV (by omega);rw[ah h0,e2,e];exact Src.ofSlice w Tryz.underlying28 _ _ _ _ rfl (fun j u hu=>by simp[Enc.all]at hu) ((aI .i64).ym [])
 · rw[ag h0]
   refine Src.ofSlice w Tryz.underlying28 _ _ _ _ (by rw[Enc.mP,hl]) (fun j u hu => ?_) ((aI .i64).ym _);rw[Addr.add_mid];refine Own.cells h (f+j) u ?_;rw[wD,List.map_drop,List.getElem?_drop]at hu;rw[wD];exact hu
theorem aiV {P:Program}{α : Type}{size t e bytes:Nat}{w:World}{o:Oper}{a:Act}{K:Act→World→Prop}{Q:Exit→Act→World→Prop}(dh:Elem P t e size bytes)(E:Enc α size)
 (hgd:o.guard=none) (s x:Operand) (ho:o.op = .call { callee := .builtin .append,args:=#[s,x],argTypes:=#[t,t] }) (base:Nat) (v:Value) (xs:List α)
 (hs:a.eval s=v) (iG:Own E e w base v xs) (ad:Addr) (m c:Nat) (ys:List α) (hx:a.eval x = .slice (some ad) m c) (hl:ys.length=m)
 (hc:∀(j:Nat)(u:Value),(E.all ys)[j]? = some u→w.cell? (ad.add j)=some u) (hb:(xs.length+m)*bytes≤140737488355328) (hb2:xs.length+m≤maxLen) (jT:base≤w.heap.size)
 (h:∀(v':Value)(w':World),Own E e w' base v' (xs++ys)→w.grownBy w' v.ownBlock→(v'.ownBlock=v.ownBlock∨v'.ownBlock=some w.heap.size)→K (a.put o.dst v') w'):Oper.wp P o a w K Q:=by
 have h1:=IG (ops:=#[]) (F:=False) (Q:=Q) dh E hgd s x ho base v xs hs iG ad m c ys hx hl hc hb hb2 jT h;have hw:Region.wanted o (yielded #[] a.tmps)=true:=by simp[Region.wanted,hgd]
 rw[ah hw]at h1;exact h1
theorem VH (c:Nat):∀ns:List Nd,(∀n∈ns,mY n≤c)→qE ns≤ns.length*c
 | [],_=>eP _
 | n :: ns,h=>by
   have ih:=VH c ns fun m hm=>h m (List.mem_cons_of_mem _ hm)
   have h1:=h n (by simp);show mY n+qE ns≤(ns.length+1)*c;rw[Nat.succ_mul];omega
def FP(w:World)(e:Ending)(w':World):Prop:=∃gK sv vs st,e = .returned gK∧jH w w' gK sv vs st∧ll (vs.map (·.n)) st∧st.length≤1∧vs.length≤80
structure qP (ns:List Nd):Prop where
 few:ns.length≤80
 tiny:∀n∈ns,F4 n
 tree:ns≠[]→cO ns=true
 free:∀n∈ns,Di n
 jX:∀n∈ns,FZ n
theorem qP.num{ns:List Nd}(h:qP ns):∀n∈ns,n.num≤9223372036854775807:=fun n hn=>by have:=(h.tiny n hn).1;omega
theorem qP.IL{ns:List Nd}(h:qP ns):∀n∈ns,n.text.size≤1000000∧n.ref.sh.size≤1000000∧n.af.sh.size≤1000000:=fun n hn=>by obtain⟨_,h2,h3,h4⟩:=h.tiny n hn;omega
theorem qP.len {ns:List Nd}(h:qP ns):(cz ns).length≤100000:=by
 by_cases h0:ns=[]
 · subst h0;decide
 · have h1:=Un (h.tree h0) h.num
   have h2:=VH 1000 ns (fun n hn=>by obtain⟨_,h2,h3,h4⟩:=h.tiny n hn;unfold mY;omega);have h3:=h.few;have:ns.length*1000≤80*1000:=Nat.mul_le_mul_right _ h3;omega
theorem FP.made {w w':World}{e:Ending}(h:FP w e w'):Below w.heap.size w w'∧∃A c l,e = .returned (.slice A l.length c)∧fI w' w'.heap.size (.slice A l.length c) l∧qP (l.map (·.1)):=by
 obtain⟨gK,sv,vs,st,he,hm,hi,h1,h80⟩:=h
 have hN:qP (vs.map (·.n)):=⟨by rw[eB];exact h80,hi.tiny,fun hne=>by
  have h2:=hi.some hne
  match st,h2,h1,hi with
  | [],h2,_,_=>exact absurd rfl h2
  | [a],_,_,hi=>exact hi.tree
  | _ :: _ :: _,_,h1,_=>simp at h1,hi.free,hi.jX⟩
 refine⟨hm.iN, ?_⟩;rcases hm.nodes.shape with ⟨e1,e2⟩|⟨g,cap,e1,_⟩
 · subst e2
   exact⟨none,0,[],by rw[he,e1];rfl,ahk w',hN⟩
 · have hsn:fI w' w'.heap.size (.slice (some ⟨g,0,none⟩) vs.length cap) (vs.map fun v=>(v.n,v.bn)):=ky.sn (lo:=w.heap.size) (by have:=hm.adZ;rwa[e1]at this) rfl
   exact⟨some ⟨g,0,none⟩,cap,vs.map (fun v=>(v.n,v.bn)),by rw[he,e1,eB],by rw[eB];exact hsn,by rw[Ns];exact hN⟩
theorem aeR {ns:List Nd}(ht:cO ns=true)(hm:∀n∈ns,n.num≤9223372036854775807):Bytes (cz ns):=by
 obtain⟨a,ts,rk,d,h1,h2⟩:=IW ht hm;rw[Bq h1 ht];exact IX ts h2
theorem qP.told {ns:List Nd}(h:qP ns)(hne:ns≠[]):strOfNums (cz ns)≠⟨#[]⟩∧(jc (strOfNums (cz ns)) (.ok ns)∨∃c,jc (strOfNums (cz ns)) (.error c)∧c≠0∧(300<(strOfNums (cz ns)).size∨c=6)):=by
 have ht:=h.tree hne;have hb:=aeR ht h.num;refine⟨fun e => ?_, ?_⟩
 · have h1:=congrArg ByteArray.size e
   rw[strOfNums_size]at h1;exact NL ht h.num (kV h1)
 · by_cases h3:300<(strOfNums (cz ns)).size
   · exact .inr ⟨4,.inl ⟨h3,rfl⟩,by omega,.inl h3⟩
   · obtain⟨vs,g,h1,h2⟩:=aif ht h.num
     rcases h2 with h2|h2
     · exact .inl (.inr (.inr ⟨by omega,vs,g,by rw[jD _ hb];exact h1,h2⟩))
     · exact .inr ⟨6,.inr (.inr ⟨by omega,vs,g,by rw[jD _ hb];exact h1,h2⟩),by omega,.inr rfl⟩
theorem aeA:∃c,jc ⟨#[]⟩ (.error c)∧c≠0:=by
 obtain⟨res,hp⟩:=jc.all ⟨#[]⟩;cases res with
 | error c=>exact⟨c,hp,X7 _ c hp⟩
 | ok ns =>
   obtain⟨⟨_,_,ht⟩,hn,hl,_⟩:=BX _ ns hp;exact absurd (kV (Nat.le_zero.1 hl)) (NL ht hn)
theorem UK {ns:List Nd}(h:cO ns=true):∀n∈ns,DW n:=by
 intro n hn;have h1:=NM _ [] 0 h n hn;unfold dm at h1;have h2:=(iU.1 h1).1;unfold aH at h2;split at h2
 · cases h2
 · refine ⟨fun h5 => ?_,fun h6 => ?_⟩
   · rw[ag (by omega),ag (by omega),ag (by omega),ag (by omega),ah h5]at h2;exact h2
   · rw[ag (by omega),ag (by omega),ag (by omega),ag (by omega),ag (by omega),ah h6,iU,iU]at h2
     obtain⟨a1,a2,a3⟩:=h2;unfold fu at a3;rw[iU,iU,aK,aK,aK]at a3;exact⟨a1,a2,a3.2.1,a3.2.2⟩
def nS (o:Option (ai × Nat))(k:Nat)(w:World)(e:Ending)(w':World):Prop :=
 Below w.heap.size w w'∧((∃t n,o=some (t,n)∧e = .returned (.tuple #[.agg (pO (t.goto k)),.int .i64 (n:Int)]))∨(o=none∧∃t,e = .returned (.tuple #[.agg (pO t),.int .i64 0])))
theorem nU {w w1:World}{g:Nat}(h:Below w.heap.size w w1)(hg:w.heap.size≤g)(v0 v1 v2 v3 v4 v5 v6 v7 v8:Value) :
 Below w.heap.size w (((((((((w1.setCell ⟨g,0,none⟩ v0).setCell ⟨g,1,none⟩ v1).setCell ⟨g,2,none⟩ v2).setCell ⟨g,3,none⟩ v3).setCell ⟨g,4,none⟩ v4).setCell ⟨g,5,none⟩ v5).setCell ⟨g,6,none⟩ v6).setCell ⟨g,7,none⟩ v7).setCell ⟨g,8,none⟩ v8) :=
 ((((((((h.setCell hg _).setCell hg _).setCell hg _).setCell hg _).setCell hg _).setCell hg _).setCell hg _).setCell hg _).setCell hg _
theorem ko {w:World}{b:Nat}{t:ai}(h:aG w b t)(fn:Func)(tmps:Array Value)(n:Int)(p u:Tmp)(hf:fn.results=#[.cell p 71,.tmp u])(hp:tmps.getD p undef = .pointer (some ⟨b,0,none⟩))(hu:tmps.getD u undef = .int .i64 n) :
 (results fn tmps).run Tryz.prog w = .ok (.tuple #[.agg (pO t),.int .i64 n]) w:=by
 rw[results_cell_tmp hf,hp,hu];simp[asAddr,h.load,Result.andThen]
theorem Il:Tryz.f77.results=#[.cell 4 71,.tmp 5]:=by kernel_rfl
structure yP (l:List Int)(m:Nat)(v:Int):Prop where
 val:dB (l.take m)=v
 Cg:∀x∈l.take m,isNum x=true
 pos:0≤v
 max:v≤9223372036854775807
 len:m≤l.length
 head:1<m→l.head? ≠ some 48
theorem aec(l:List Int):yP l 0 0:=⟨rfl,by simp,by omega,by omega,by omega,by omega⟩
theorem NS(x:Int):dB [x]=x - 48:=by unfold dB;simp
theorem E8{l:List Int}{m:Nat}{a:Int}(ha:l[m]? = some a):l.take (m+1)=l.take m++[a]:=by rw[List.take_add_one,ha];rfl
theorem Mt{l:List Int}{m:Nat}{v a:Int}(h:yP l m v)(ha:l[m]? = some a):dB (l.take (m+1))=10*v+(a - 48):=by rw[E8 ha,zO,h.val]
theorem aea {l:List Int}{m:Nat}{v a:Int}(h:yP l m v)(ha:l[m]? = some a)(hn:isNum a=true)(hb:9223372036854775807<10*v+(a - 48)):lv l=none:=by
 have aT:=qV h.Cg hn;rw[← E8 ha]at aT;have h1:=IC isNum l (m+1) aT;have h2:=BD ((l.drop (m+1)).takeWhile isNum) (l.take (m+1)) (uC isNum _) (by rw[Mt h ha];omega);rw[← h1,Mt h ha]at h2;unfold lv;rw[ah (.inr (by omega))]
theorem aeb {l:List Int}{m:Nat}{a:Int}(h:yP l m 0)(hm:0<m)(ha:l[m]? = some a)(hn:isNum a=true):lv l=none:=by
 have aT:=qV h.Cg hn;rw[← E8 ha]at aT;have h1:=IC isNum l (m+1) aT
 have hlen:1<(l.takeWhile isNum).length:=by
  rw[h1,av,gX];have:=(dS.1 ha).1;omega
 cases l with
 | nil=>simp at ha
 | cons x r =>
   have hx:=h.Cg x (by rw[show m=(m - 1)+1 by omega,List.take_succ_cons];simp);have hb:=jA hx;have h2:=BD ((x :: r).take m).tail [x] (fun y hy=>h.Cg y (List.mem_of_mem_tail hy)) (by rw[NS];omega);have e:[x]++((x :: r).take m).tail=(x :: r).take m:=by rw[show m=(m - 1)+1 by omega,List.take_succ_cons];rfl
   rw[e,h.val,NS]at h2;unfold lv;rw[ah (.inl ⟨hlen,by simp;omega⟩)]
theorem TS {l:List Int}{m:Nat}{v a:Int}(h:yP l m v)(ha:l[m]? = some a)(hn:isNum a=true)(hb:10*v+(a - 48)≤9223372036854775807)(h0:0<m→v≠0):yP l (m+1) (10*v+(a - 48)):=by
 have hbd:=jA hn;have hp:=h.pos;refine⟨Mt h ha, ?_,by omega,hb, ?_, ?_⟩
 · rw[E8 ha];exact qV h.Cg hn
 · have:=(dS.1 ha).1;omega
 · intro hm hh
   by_cases h1:1<m
   · exact h.head h1 hh
   · have hm1:m=1:=by omega
     subst hm1;cases l with
     | nil=>simp at hh
     | cons x r =>
       simp at hh;have:=h.val;rw[List.take_succ_cons,List.take_zero,NS]at this;exact h0 (by omega) (by omega)
theorem TR {l:List Int}{m:Nat}{v:Int}(h:yP l m v)(hs:∀x,l[m]? = some x→isNum x=false):lv l=some ({ ai.zero with kind:=1,num:=v },m):=by
 have hsp:=Bu isNum l m h.Cg hs;have hlen:(l.take m).length=m:=by rw[gX];have:=h.len;omega
 unfold lv;rw[hsp,hlen,h.val,ag];rintro(⟨h1,h2⟩|h1)
 · exact h.head h1 h2
 · have:=h.max;omega
theorem UD (s:ByteArray)(k:Nat)(w:World)(_hs:s.size≤1000000)(_hk:k≤s.size) :
 Calls Tryz.prog 77 #[.string s,.int .i64 (k:Int)] w (nS (lv (aD s k)) k w):=by
 have aR:=ae (aG.zero w);go_enter Tryz.func77,Tryz.ntmps77;go_wp2_with fail
 go_loopw [6,7] (fun n p wr=>∃(m:Nat)(v:Int),n = .int .i64 v∧p = .int .i64 ((k+m:Nat):Int)∧k+m≤s.size∧Hid (yP (aD s k) m v)∧w.alloc (.cells ku 71)=wr)
  (fun _ p _=>s.size - (intOf p).toNat)
 case atStart=>exact⟨0,0,rfl,rfl,by omega,ae (aec _),rfl⟩
 case round =>
  obtain⟨m,v,rfl,rfl,dM,HN,rfl⟩:=hrel;obtain⟨p,hp⟩:∃p:Nat,k+m=p:=⟨_,rfl⟩;rw[hp];by_cases hlt:p<s.size
  · have lu : (p:Int)<(s.size:Int):=by omega
    obtain⟨a,ha⟩:∃a:Int,(s[p].toNat:Int)=a:=⟨_,rfl⟩;have ha1:0≤a∧a≤255:=by have:=s[p].toNat_lt;omega
    have hat:(aD s k)[m]? = some a:=by subst hp;rw[zD s k m hlt,ha]
    have hv0:=HN.o.pos;have hv1:=HN.o.max;cases hn:isNum a
    · have hN:=TR HN.o (fun x hx=>by rw[hat]at hx;injection hx with hx;rw[← hx];exact hn)
      clear hat;have mq:=ae hN;clear hN
      go_wp2_with (first
       | (go_at_call 75;((with_reducible refine(jC _ ?_ ?_ _).mono ?_);(first|omega|skip);(first|omega|skip);rintro e w' ⟨rfl,rfl⟩;rw[hn])))
      exact bodyPost_ret (ko (aG.new w (({ ai.zero with kind:=1,num:=v }:ai).goto k)) _ _ ((p:Int) - (k:Int)) 4 5 Il rfl rfl) rfl ⟨(ak _ _).alloc (aj _) _,.inl ⟨_,m,mq.o,by rw[show((p:Int) - (k:Int))=(m:Int)by omega]⟩⟩
    · have hnb:=jA hn
      by_cases qZ:(9223372036854775807 - (a - 48)) / 10<v
      · have mq:=ae (aea HN.o hat hn (by omega))
        clear hat
        go_wp2_with (first
         | (go_at_call 75;((with_reducible refine(jC _ ?_ ?_ _).mono ?_);(first|omega|skip);(first|omega|skip);rintro e w' ⟨rfl,rfl⟩;rw[hn])))
        exact bodyPost_ret (ko (aG.zero w) _ _ 0 4 5 Il rfl rfl) rfl ⟨(ak _ _).alloc (aj _) _,.inr ⟨mq.o,_,rfl⟩⟩
      · have hsm:10*v+(a - 48)≤9223372036854775807:=by omega
        by_cases hm:0<m
        · have hpk:(k:Int)<(p:Int):=by omega
          by_cases hv:v=0
          · subst hv
            have mq:=ae (aeb HN.o hm hat hn);clear hat
            go_wp2_with (first
             | (go_at_call 75;((with_reducible refine(jC _ ?_ ?_ _).mono ?_);(first|omega|skip);(first|omega|skip);rintro e w' ⟨rfl,rfl⟩;rw[hn])))
            exact bodyPost_ret (ko (aG.zero w) _ _ 0 4 5 Il rfl rfl) rfl ⟨(ak _ _).alloc (aj _) _,.inr ⟨mq.o,_,rfl⟩⟩
          · have hvb:(v == 0)=false:=aA.2 hv
            have dR:=ae (TS HN.o hat hn hsm (fun _=>hv));clear hat
            go_wp2_with (first
             | (go_at_call 75;((with_reducible refine(jC _ ?_ ?_ _).mono ?_);(first|omega|skip);(first|omega|skip);rintro e w' ⟨rfl,rfl⟩;rw[hn])))
            go_roundw
            case rel=>exact⟨m+1,10*v+(a - 48),rfl,by rw[show((p:Int)+1)=((k+(m+1):Nat):Int)by omega],by omega,dR,by trivial⟩
            case measure=>simp[intOf];omega
        · have hpk:¬ (k:Int)<(p:Int):=by omega
          have dR:=ae (TS HN.o hat hn hsm (fun h=>absurd h hm));clear hat
          go_wp2_with (first
           | (go_at_call 75;((with_reducible refine(jC _ ?_ ?_ _).mono ?_);(first|omega|skip);(first|omega|skip);rintro e w' ⟨rfl,rfl⟩;rw[hn])))
          go_roundw
          case rel=>exact⟨m+1,10*v+(a - 48),rfl,by rw[show((p:Int)+1)=((k+(m+1):Nat):Int)by omega],by omega,dR,by trivial⟩
          case measure=>simp[intOf];omega
  · have lu:¬ (p:Int)<(s.size:Int):=by omega
    have mq:=ae (TR HN.o (fun x hx=>by have h1:=(dS.1 hx).1;rw[og]at h1;omega));go_wp2_with fail
    exact bodyPost_ret (ko (aG.new w (({ ai.zero with kind:=1,num:=v }:ai).goto k)) _ _ ((p:Int) - (k:Int)) 4 5 Il rfl rfl) rfl ⟨(ak _ _).alloc (aj _) _,.inl ⟨_,m,mq.o,by rw[show((p:Int) - (k:Int))=(m:Int)by omega]⟩⟩
theorem Io:Tryz.f78.results=#[.cell 4 71,.tmp 5]:=by kernel_rfl
theorem UG (s:ByteArray)(k:Nat)(w:World)(_hs:s.size≤1000000)(_hk:k<s.size) :
 Calls Tryz.prog 78 #[.string s,.int .i64 (k:Int)] w (nS (lC (aD s (k+1))) k w):=by
 have aR:=ae (aG.zero w);have bu:=ae (show Below w.heap.size w (w.alloc (.cells ku 71))from(ak _ _).alloc (aj _) _);go_enter Tryz.func78,Tryz.ntmps78;go_wp2_with fail
 go_loopw [6,7] (fun v i wr=>∃(p:Nat)(xs:List Int),i = .int .i64 (p:Int)∧k+1≤p∧p≤s.size∧xs.length≤p∧Hid (nR s k p xs)∧Hid (qc wr (w.heap.size+1) v xs)∧Hid (aG wr w.heap.size ai.zero)∧Hid (Below w.heap.size w wr))
  (fun _ i _=>s.size - (intOf i).toNat)
 case atStart =>
  refine⟨k+1,[],by go_num,by omega,by omega,by simp,ae ?_,ae (Own.nil _ _ _ _),aR,bu⟩;unfold nR;cases eT (aD s (k+1))with
  | none=>rfl
  | some q=>simp
 case round =>
  clear aR bu;obtain⟨p,xs,rfl,hkp,hps,hxl,HQ,HO,HT,HB⟩:=hrel;by_cases hlt:p<s.size
  · have lu:(p:Int)<(s.size:Int):=by omega
    obtain⟨a,ha⟩:∃a:Int,(s[p].toNat:Int)=a:=⟨_,rfl⟩;have ha1:0≤a∧a≤255:=by have:=s[p].toNat_lt;omega
    by_cases xU:a<32
    · have HN:=ae (Uw HQ.o hlt (by rw[ha];exact xU))
      obtain⟨x0,x1,x2,x3,x4,x5,x6,x7,ay⟩:=HT.o.cells;obtain⟨g0,g1,g2,g3,g4,g5,g6,g7,g8⟩:=HT.o.bS;go_wp2_with fail
      exact bodyPost_ret (ko (HT.o.iI ai.zero) _ _ 0 4 5 Io rfl rfl) rfl ⟨nU HB.o (aj _) _ _ _ _ _ _ _ _ _,.inr ⟨HN.o,ai.zero,rfl⟩⟩
    · by_cases dG:a=34
      · have Aw:(a == 34)=true:=bA.2 dG
        obtain⟨q,hq⟩:∃q:Nat,p+1=q:=⟨_,rfl⟩;have hqi:(p:Int)+1=(q:Int):=by omega
        by_cases Cm:q<s.size
        · have ze:¬ (s.size:Int)≤(q:Int):=by omega
          have AL:(q:Int)<(s.size:Int):=by omega
          obtain⟨a2,ha2⟩:∃a2:Int,(s[q].toNat:Int)=a2:=⟨_,rfl⟩;have aau:0≤a2∧a2≤255:=by have:=s[q].toNat_lt;omega
          by_cases xO:a2=34
          · have KX:(a2 == 34)=true:=bA.2 xO
            have lK:=ae (show nR s k (q+1) (xs++[34])by subst hq;exact Uy HQ.o hkp hlt (by rw[ha,dG]) Cm (by rw[ha2,xO]));clear HQ;go_wp2_with (at_builtin;refine ow Elem.u8 (aI .u8) rfl (.tmp 51) (.tmp 52) rfl (w.heap.size+1) _ _ rfl (HO.o.alloc _) ⟨_,0,none⟩ 1 1 [34] rfl rfl ?_ ?_ ?_ ?_ ?_;exact ic _ _ _ rfl;omega;(unfold maxLen;omega);(have:=HT.o.lt;simp <;> omega);intro v' oz h1 h2;have p8:=ae h1;have kZ:=ae (((ak (w.heap.size+1) _).alloc (by have:=HT.o.lt;omega) _).trans h2);clear h1 h2;have Ac:=ae (HT.o.below kZ.o (Nat.lt_succ_self _));have Jg:=ae (HB.o.trans (kZ.o.mono (Nat.le_succ _))))
            go_roundw
            case rel=>exact⟨q+1,xs++[34],by go_num,by omega,by omega,by simp;omega,lK,p8,Ac,Jg⟩
            case measure=>simp[intOf];omega
          · have KX:(a2 == 34)=false:=aA.2 xO
            have HN:=ae (show lC (aD s (k+1))=some ({ ai.zero with kind:=2,text:=strOfNums xs },q - k)by subst hq;exact Ie HQ.o hkp hlt (by rw[ha,dG]) (fun h=>by rw[ha2];exact xO));clear HQ;have K3:=CS HO.o;obtain⟨x0,x1,x2,x3,x4,x5,x6,x7,ay⟩:=HT.o.cells;obtain⟨g0,g1,g2,g3,g4,g5,g6,g7,g8⟩:=HT.o.bS;go_wp2_with fail
            exact bodyPost_ret (ko (HT.o.iI (({ ai.zero with kind:=2,text:=strOfNums xs }:ai).goto k)) _ _ ((q:Int) - (k:Int)) 4 5 Io rfl rfl) rfl ⟨nU HB.o (aj _) _ _ _ _ _ _ _ _ _,.inl ⟨_,q - k,HN.o,by rw[show((q:Int) - (k:Int))=((q - k:Nat):Int)by omega]⟩⟩
        · have ze:(s.size:Int)≤(q:Int):=by omega
          have HN:=ae (show lC (aD s (k+1))=some ({ ai.zero with kind:=2,text:=strOfNums xs },q - k)by subst hq;exact Ie HQ.o hkp hlt (by rw[ha,dG]) (fun h=>absurd h Cm));clear HQ;have K3:=CS HO.o;obtain⟨x0,x1,x2,x3,x4,x5,x6,x7,ay⟩:=HT.o.cells;obtain⟨g0,g1,g2,g3,g4,g5,g6,g7,g8⟩:=HT.o.bS;go_wp2_with fail
          exact bodyPost_ret (ko (HT.o.iI (({ ai.zero with kind:=2,text:=strOfNums xs }:ai).goto k)) _ _ ((q:Int) - (k:Int)) 4 5 Io rfl rfl) rfl ⟨nU HB.o (aj _) _ _ _ _ _ _ _ _ _,.inl ⟨_,q - k,HN.o,by rw[show((q:Int) - (k:Int))=((q - k:Nat):Int)by omega]⟩⟩
      · have Aw:(a == 34)=false:=aA.2 dG
        have lK:=ae (Ux HQ.o hkp hlt ha xU dG);clear HQ;go_wp2_with (at_builtin;refine ow Elem.u8 (aI .u8) rfl (.tmp 25) (.tmp 29) rfl (w.heap.size+1) _ _ rfl (HO.o.alloc _) ⟨_,0,none⟩ 1 1 [a] rfl rfl ?_ ?_ ?_ ?_ ?_;exact ic _ _ _ rfl;omega;(unfold maxLen;omega);(have:=HT.o.lt;simp <;> omega);intro v' oz h1 h2;have p8:=ae h1;have kZ:=ae (((ak (w.heap.size+1) _).alloc (by have:=HT.o.lt;omega) _).trans h2);clear h1 h2;have Ac:=ae (HT.o.below kZ.o (Nat.lt_succ_self _));have Jg:=ae (HB.o.trans (kZ.o.mono (Nat.le_succ _))))
        go_roundw
        case rel=>exact⟨p+1,xs++[a],by go_num,by omega,by omega,by simp;omega,lK,p8,Ac,Jg⟩
        case measure=>simp[intOf];omega
  · have lu:¬ (p:Int)<(s.size:Int):=by omega
    have HN:=ae (Uv HQ.o (by omega));obtain⟨x0,x1,x2,x3,x4,x5,x6,x7,ay⟩:=HT.o.cells;obtain⟨g0,g1,g2,g3,g4,g5,g6,g7,g8⟩:=HT.o.bS;go_wp2_with fail
    exact bodyPost_ret (ko (HT.o.iI ai.zero) _ _ 0 4 5 Io rfl rfl) rfl ⟨nU HB.o (aj _) _ _ _ _ _ _ _ _ _,.inr ⟨HN.o,ai.zero,rfl⟩⟩
theorem UM (s:ByteArray)(k m p:Nat)(hp:k+m=p)(dM:k+m≤s.size)(aT:∀x∈(aD s k).take m,isWord x=true)(AX:∀x,(aD s k)[m]? = some x→isWord x=false) :
 mZ (aD s k)=match iw (s.extract k p)with
  | some d=>some ({ ai.zero with kind:=4,sh:=d.sh,c:=d.c,r:=d.r,ac:=d.ac,ar:=d.ar },m)
  | none=>if jI (sb (s.extract k p))=true then some ({ ai.zero with kind:=3,text:=s.extract k p },m)else none:=by
 subst hp;have hsp:=Bu isWord (aD s k) m aT AX;have hlen:((aD s k).take m).length=m:=by rw[gX,og];omega
 have hc:=EN s k m;have hb:sb (s.extract k (k+m))=(aD s k).take m:=by rw[hc];exact jD _ (fun x hx=>M0 s k x (List.mem_of_mem_take hx))
 rw[Wm _ _ hsp,hlen, ← hc,hb];rfl
theorem CQ:Tryz.f80.results=#[.cell 4 71,.tmp 5]:=by kernel_rfl
theorem aiP{a:Int}(hl:isLet a=false)(hn:isNum a=false)(ik:¬ a=36)(xM:¬ a=33):isWord a=false:=by unfold isWord;rw[hl,hn,aS (by omega)];rfl
theorem aiL{a:Int}(hl:isLet a=true):isWord a=true:=by unfold isWord;rw[hl];rfl
theorem aiM{a:Int}(hn:isNum a=true):isWord a=true:=by unfold isWord;rw[hn];simp
theorem Wl{a:Int}(h:a=36∨a=33):isWord a=true:=by unfold isWord;rw[aQ h];simp
theorem Ii (s:ByteArray)(k:Nat)(w:World)(_hs:s.size≤1000000)(_hk:k≤s.size) :
 Calls Tryz.prog 80 #[.string s,.int .i64 (k:Int)] w (nS (mZ (aD s k)) k w):=by
 have aR:=ae (aG.zero w);have bu:=ae (show Below w.heap.size w (w.alloc (.cells ku 71))from(ak _ _).alloc (aj _) _);have hz0:(0:Int)≤(k:Int):=by omega
 go_enter Tryz.func80,Tryz.ntmps80;go_wp2_with fail
 go_loopw [6] (fun i wr=>∃(m:Nat),i = .int .i64 ((k+m:Nat):Int)∧k+m≤s.size∧Hid (∀x∈(aD s k).take m,isWord x=true)∧w.alloc (.cells ku 71)=wr)
  (fun i _=>s.size - (intOf i).toNat)
 case atStart=>exact⟨0,rfl,by omega,ae (by simp),rfl⟩
 case round =>
  obtain⟨m,rfl,dM,HM,rfl⟩:=hrel;obtain⟨p,hp⟩:∃p:Nat,k+m=p:=⟨_,rfl⟩;rw[hp];have hz1:(k:Int)≤(p:Int):=by omega
  have hz2:(p:Int)≤(s.size:Int):=by omega
  by_cases hlt:p<s.size
  · have lu : (p:Int)<(s.size:Int):=by omega
    obtain⟨a,ha⟩:∃a:Int,(s[p].toNat:Int)=a:=⟨_,rfl⟩;have ha1:0≤a∧a≤255:=by have:=s[p].toNat_lt;omega
    have hat:(aD s k)[m]? = some a:=by subst hp;rw[zD s k m hlt,ha]
    have DL:=ae (E8 hat);have HAT:=ae hat;clear hat;cases hl:isLet a
    · cases hn : isNum a
      · by_cases ik:a=36
        · have KY:(a == 36)=true:=bA.2 ik
          have dR:=ae (show ∀x∈(aD s k).take (m+1),isWord x=true by rw[DL.o];exact qV HM.o (Wl (.inl ik)));clear ik
          go_wp2_with (first
           | (go_at_call 79;((with_reducible refine(pJ _ ?_ ?_ _).mono ?_);(first|omega|skip);(first|omega|skip);rintro e w' ⟨rfl,rfl⟩;rw[hl]))
           | (go_at_call 75;((with_reducible refine(jC _ ?_ ?_ _).mono ?_);(first|omega|skip);(first|omega|skip);rintro e w' ⟨rfl,rfl⟩;rw[hn])))
          go_roundw
          case rel=>exact⟨m+1,by rw[show((p:Int)+1)=((k+(m+1):Nat):Int)by omega],by omega,dR,by trivial⟩
          case measure=>simp[intOf];omega
        · have KY:(a == 36)=false:=aA.2 ik
          by_cases xM:a=33
          · have aaz:(a == 33)=true:=bA.2 xM
            have dR:=ae (show ∀x∈(aD s k).take (m+1),isWord x=true by rw[DL.o];exact qV HM.o (Wl (.inr xM)));clear xM
            go_wp2_with (first
             | (go_at_call 79;((with_reducible refine(pJ _ ?_ ?_ _).mono ?_);(first|omega|skip);(first|omega|skip);rintro e w' ⟨rfl,rfl⟩;rw[hl]))
             | (go_at_call 75;((with_reducible refine(jC _ ?_ ?_ _).mono ?_);(first|omega|skip);(first|omega|skip);rintro e w' ⟨rfl,rfl⟩;rw[hn])))
            go_roundw
            case rel=>exact⟨m+1,by rw[show((p:Int)+1)=((k+(m+1):Nat):Int)by omega],by omega,dR,by trivial⟩
            case measure=>simp[intOf];omega
          · have aaz:(a == 33)=false:=aA.2 xM
            have J2:=ae (show ∀x,(aD s k)[m]? = some x→isWord x=false from fun x hx=>by rw[HAT.o]at hx;injection hx with hx;rw[← hx];exact aiP hl hn ik xM);clear ik xM DL;have hval:=UM s k m p hp dM HM.o J2.o;obtain⟨D,hD⟩:∃D,s.extract k p=D:=⟨_,rfl⟩;rw[hD]at hval;have hDz:D.size≤1000000:=by rw[← hD,ByteArray.size_extract];omega
            cases hq:iw D with
            | some d =>
              rw[hq]at hval;have HN:=ae hval;clear hval;have qa:=ae (fun (e:Ending)(he:nT (sb D) e)=>Iw hq he);clear hq
              go_upto_region 6 with (first
               | (go_at_call 79;((with_reducible refine(pJ _ ?_ ?_ _).mono ?_);(first|omega|skip);(first|omega|skip);rintro e w' ⟨rfl,rfl⟩;rw[hl]))|(go_at_call 75;((with_reducible refine(jC _ ?_ ?_ _).mono ?_);(first|omega|skip);(first|omega|skip);rintro e w' ⟨rfl,rfl⟩;rw[hn]))
               | (go_at_call 48;((with_reducible refine(CO D _ ?_).mono ?_);(first|omega|skip);rintro e w2 ⟨h1,h2⟩;obtain rfl:=qa.o e h1;clear h1;have H3:=ae h2;clear h2;have HT2:=ae (aR.o.below H3.o aR.o.lt))))
              have nE:=df.new w2 d.sh d.c d.r d.ac d.ar;have hB3:Below w2.heap.size w2 (w2.alloc (.cells #[.string d.sh,.int .i64 d.c,.int .i64 d.r,.bool d.ac,.bool d.ar] 43)):=(ak _ _).alloc (aj _) _;have HT3:=ae (HT2.o.below hB3 HT2.o.lt);have fG:=ae (bu.o.trans ((Below.of _ _ _ H3.o hB3).mono bu.o.size));clear hB3;generalize w2.alloc (.cells #[.string d.sh,.int .i64 d.c,.int .i64 d.r,.bool d.ac,.bool d.ar] 43)=w3 at nE HT3 fG ⊢;obtain⟨x0,x1,x2,x3,x4,x5,x6,x7,ay⟩:=HT3.o.cells;obtain⟨f0,f1,f2,f3,f4,f5,f6,f7,f8⟩:=HT3.o.bS;obtain⟨y0,y1,y2,y3,y4⟩:=nE.facts;clear nE;go_wp2_with fail
              exact bodyPost_ret (ko (HT3.o.iI (({ ai.zero with kind:=4,sh:=d.sh,c:=d.c,r:=d.r,ac:=d.ac,ar:=d.ar }:ai).goto k)) _ _ ((p:Int) - (k:Int)) 4 5 CQ rfl rfl) rfl ⟨nU fG.o (aj _) _ _ _ _ _ _ _ _ _,.inl ⟨_,m,HN.o,by rw[show((p:Int) - (k:Int))=(m:Int)by omega]⟩⟩
            | none =>
              rw[hq]at hval;have qa:=ae (fun (e:Ending)(he:nT (sb D) e)=>Iu hq he);clear hq;cases hnm:jI (sb D)
              all_goals
               rw[hnm]at hval;have HN:=ae hval;clear hval;have DF:=ae hnm;clear hnm
               go_upto_region 7 with (first
                | (go_at_call 79;((with_reducible refine(pJ _ ?_ ?_ _).mono ?_);(first|omega|skip);(first|omega|skip);rintro e w' ⟨rfl,rfl⟩;rw[hl]))|(go_at_call 75;((with_reducible refine(jC _ ?_ ?_ _).mono ?_);(first|omega|skip);(first|omega|skip);rintro e w' ⟨rfl,rfl⟩;rw[hn]))
                | (go_at_call 48;((with_reducible refine(CO D _ ?_).mono ?_);(first|omega|skip);rintro e w2 ⟨h1,h2⟩;obtain rfl:=qa.o e h1;clear h1;have H3:=ae h2;clear h2;have HT2:=ae (aR.o.below H3.o aR.o.lt))))
               have hB3:Below w2.heap.size w2 (w2.alloc (.cells #[.string ⟨#[]⟩,.int .i64 0,.int .i64 0,.bool false,.bool false] 43)):=(ak _ _).alloc (aj _) _;have HT3:=ae (HT2.o.below hB3 HT2.o.lt);have fG:=ae (bu.o.trans ((Below.of _ _ _ H3.o hB3).mono bu.o.size));clear hB3;generalize w2.alloc (.cells #[.string ⟨#[]⟩,.int .i64 0,.int .i64 0,.bool false,.bool false] 43)=w3 at HT3 fG ⊢;obtain⟨x0,x1,x2,x3,x4,x5,x6,x7,ay⟩:=HT3.o.cells;obtain⟨f0,f1,f2,f3,f4,f5,f6,f7,f8⟩:=HT3.o.bS;go_wp2_with (go_at_call 49;((with_reducible refine(MP D _ ?_).mono ?_);(first|omega|skip);rintro e w4 ⟨rfl,rfl⟩;rw[DF.o]))
              · exact bodyPost_ret (ko (HT3.o.iI ai.zero) _ _ 0 4 5 CQ rfl rfl) rfl ⟨nU fG.o (aj _) _ _ _ _ _ _ _ _ _,.inr ⟨HN.o,ai.zero,rfl⟩⟩
              · exact bodyPost_ret (ko (HT3.o.iI (({ ai.zero with kind:=3,text:=D }:ai).goto k)) _ _ ((p:Int) - (k:Int)) 4 5 CQ rfl rfl) rfl ⟨nU fG.o (aj _) _ _ _ _ _ _ _ _ _,.inl ⟨_,m,HN.o,by rw[show((p:Int) - (k:Int))=(m:Int)by omega]⟩⟩
      · skip
        have dR:=ae (show ∀x∈(aD s k).take (m+1),isWord x=true by rw[DL.o];exact qV HM.o (aiM hn))
        skip
        go_wp2_with (first
         | (go_at_call 79;((with_reducible refine(pJ _ ?_ ?_ _).mono ?_);(first|omega|skip);(first|omega|skip);rintro e w' ⟨rfl,rfl⟩;rw[hl]))
         | (go_at_call 75;((with_reducible refine(jC _ ?_ ?_ _).mono ?_);(first|omega|skip);(first|omega|skip);rintro e w' ⟨rfl,rfl⟩;rw[hn])))
        go_roundw
        case rel=>exact⟨m+1,by rw[show((p:Int)+1)=((k+(m+1):Nat):Int)by omega],by omega,dR,by trivial⟩
        case measure=>simp[intOf];omega
    · skip
      have dR:=ae (show ∀x∈(aD s k).take (m+1),isWord x=true by rw[DL.o];exact qV HM.o (aiL hl))
      skip
      go_wp2_with (first
       | (go_at_call 79;((with_reducible refine(pJ _ ?_ ?_ _).mono ?_);(first|omega|skip);(first|omega|skip);rintro e w' ⟨rfl,rfl⟩;rw[hl])))
      go_roundw
      case rel=>exact⟨m+1,by rw[show((p:Int)+1)=((k+(m+1):Nat):Int)by omega],by omega,dR,by trivial⟩
      case measure=>simp[intOf];omega
  · have lu:¬ (p:Int)<(s.size:Int):=by omega
    have J2:=ae (show ∀x,(aD s k)[m]? = some x→isWord x=false from fun x hx=>by have h1:=(dS.1 hx).1;rw[og]at h1;omega);have hval:=UM s k m p hp dM HM.o J2.o;obtain⟨D,hD⟩:∃D,s.extract k p=D:=⟨_,rfl⟩;rw[hD]at hval;have hDz:D.size≤1000000:=by rw[← hD,ByteArray.size_extract];omega
    cases hq:iw D with
    | some d =>
      rw[hq]at hval;have HN:=ae hval;clear hval;have qa:=ae (fun (e:Ending)(he:nT (sb D) e)=>Iw hq he);clear hq
      go_upto_region 6 with (first
       | (go_at_call 48;((with_reducible refine(CO D _ ?_).mono ?_);(first|omega|skip);rintro e w2 ⟨h1,h2⟩;obtain rfl:=qa.o e h1;clear h1;have H3:=ae h2;clear h2;have HT2:=ae (aR.o.below H3.o aR.o.lt))))
      have nE:=df.new w2 d.sh d.c d.r d.ac d.ar;have hB3:Below w2.heap.size w2 (w2.alloc (.cells #[.string d.sh,.int .i64 d.c,.int .i64 d.r,.bool d.ac,.bool d.ar] 43)):=(ak _ _).alloc (aj _) _;have HT3:=ae (HT2.o.below hB3 HT2.o.lt);have fG:=ae (bu.o.trans ((Below.of _ _ _ H3.o hB3).mono bu.o.size));clear hB3;generalize w2.alloc (.cells #[.string d.sh,.int .i64 d.c,.int .i64 d.r,.bool d.ac,.bool d.ar] 43)=w3 at nE HT3 fG ⊢;obtain⟨x0,x1,x2,x3,x4,x5,x6,x7,ay⟩:=HT3.o.cells;obtain⟨f0,f1,f2,f3,f4,f5,f6,f7,f8⟩:=HT3.o.bS;obtain⟨y0,y1,y2,y3,y4⟩:=nE.facts;clear nE;go_wp2_with fail
      exact bodyPost_ret (ko (HT3.o.iI (({ ai.zero with kind:=4,sh:=d.sh,c:=d.c,r:=d.r,ac:=d.ac,ar:=d.ar }:ai).goto k)) _ _ ((p:Int) - (k:Int)) 4 5 CQ rfl rfl) rfl ⟨nU fG.o (aj _) _ _ _ _ _ _ _ _ _,.inl ⟨_,m,HN.o,by rw[show((p:Int) - (k:Int))=(m:Int)by omega]⟩⟩
    | none =>
      rw[hq]at hval;have qa:=ae (fun (e:Ending)(he:nT (sb D) e)=>Iu hq he);clear hq;cases hnm:jI (sb D)
      all_goals
       rw[hnm]at hval;have HN:=ae hval;clear hval;have DF:=ae hnm;clear hnm
       go_upto_region 7 with (first
        | (go_at_call 48;((with_reducible refine(CO D _ ?_).mono ?_);(first|omega|skip);rintro e w2 ⟨h1,h2⟩;obtain rfl:=qa.o e h1;clear h1;have H3:=ae h2;clear h2;have HT2:=ae (aR.o.below H3.o aR.o.lt))))
       have hB3:Below w2.heap.size w2 (w2.alloc (.cells #[.string ⟨#[]⟩,.int .i64 0,.int .i64 0,.bool false,.bool false] 43)):=(ak _ _).alloc (aj _) _;have HT3:=ae (HT2.o.below hB3 HT2.o.lt);have fG:=ae (bu.o.trans ((Below.of _ _ _ H3.o hB3).mono bu.o.size));clear hB3;generalize w2.alloc (.cells #[.string ⟨#[]⟩,.int .i64 0,.int .i64 0,.bool false,.bool false] 43)=w3 at HT3 fG ⊢;obtain⟨x0,x1,x2,x3,x4,x5,x6,x7,ay⟩:=HT3.o.cells;obtain⟨f0,f1,f2,f3,f4,f5,f6,f7,f8⟩:=HT3.o.bS;go_wp2_with (go_at_call 49;((with_reducible refine(MP D _ ?_).mono ?_);(first|omega|skip);rintro e w4 ⟨rfl,rfl⟩;rw[DF.o]))
      · exact bodyPost_ret (ko (HT3.o.iI ai.zero) _ _ 0 4 5 CQ rfl rfl) rfl ⟨nU fG.o (aj _) _ _ _ _ _ _ _ _ _,.inr ⟨HN.o,ai.zero,rfl⟩⟩
      · exact bodyPost_ret (ko (HT3.o.iI (({ ai.zero with kind:=3,text:=D }:ai).goto k)) _ _ ((p:Int) - (k:Int)) 4 5 CQ rfl rfl) rfl ⟨nU fG.o (aj _) _ _ _ _ _ _ _ _ _,.inl ⟨_,m,HN.o,by rw[show((p:Int) - (k:Int))=(m:Int)by omega]⟩⟩
def oO(s:ByteArray)(k:Nat):ByteArray:=strOfNums ((aD s k).take (lF (aD s k)))
theorem Gj(s E:ByteArray)(k m:Nat)(h:(aD s k).take m=sb E):s.extract k (k+m)=E:=by rw[EN,h,mX]
theorem UW (s:ByteArray)(k:Nat)(h:k+1<s.size):(aD s k).take 2=[((s[k].toNat:Nat):Int),((s[k+1].toNat:Nat):Int)]:=by
 rw[nJ s k (by omega),nJ s (k+1) h];rfl
abbrev Bz(x y:Int):Prop:=(x=60∧(y=62∨y=61))∨(x=62∧y=61)
abbrev Bi(x:Int):Prop:=x=43∨x=45∨x=42∨x=47∨x=38∨x=61∨x=60∨x=62∨x=40∨x=41∨x=44∨x=58
theorem UU(s:ByteArray)(k:Nat)(h:k+1<s.size):(aD s (k+1)).head? = some ((s[k+1].toNat:Nat):Int):=by rw[nJ s (k+1) h];rfl
theorem ahi {s:ByteArray}{k:Nat}{x y:Int}(h:k+1<s.size)(hx:((s[k].toNat:Nat):Int)=x)(hy:((s[k+1].toNat:Nat):Int)=y)(h2:Bz x y):oO s k=s.extract k (k+2):=by
 unfold oO
 have hn:lF (aD s k)=2:=by
  rw[nJ s k (by omega),sP,UU s k h,hx,hy,ah];rcases h2 with ⟨h1,h2|h2⟩|⟨h1,h2⟩
  · exact .inl ⟨h1,.inl (by rw[h2])⟩
  · exact .inl ⟨h1,.inr (by rw[h2])⟩
  · exact .inr ⟨h1,by rw[h2]⟩
 rw[hn, ← EN]
theorem Vp {s:ByteArray}{k:Nat}{x:Int}(hk:k<s.size)(hx:((s[k].toNat:Nat):Int)=x)(h2:∀h:k+1<s.size,¬ Bz x ((s[k+1].toNat:Nat):Int)) :
 lF (aD s k)=if Bi x then 1 else 0:=by
 rw[nJ s k hk,sP,hx,ag];intro h;by_cases h1:k+1<s.size
 · rw[UU s k h1]at h
   simp only[bf]at h;exact h2 h1 h
 · rw[EO s (k+1) (by omega)]at h;simp at h
theorem sign_one {s:ByteArray}{k:Nat}{x:Int}(hk:k<s.size)(hx:((s[k].toNat:Nat):Int)=x)(h2:∀h:k+1<s.size,¬ Bz x ((s[k+1].toNat:Nat):Int))(h1:Bi x):oO s k=s.extract k (k+1):=by
 unfold oO;rw[Vp hk hx h2,ah h1, ← EN]
theorem sign_zero {s:ByteArray}{k:Nat}{x:Int}(hk:k<s.size)(hx:((s[k].toNat:Nat):Int)=x)(h2:∀h:k+1<s.size,¬ Bz x ((s[k+1].toNat:Nat):Int))(h1:¬ Bi x):oO s k=⟨#[]⟩:=by
 unfold oO;rw[Vp hk hx h2,ag h1,List.take_zero];rfl
theorem EP{a b:ByteArray}(h:a=b):Ending.returned (.string a) = .returned (.string b):=by rw[h]
theorem afB (s:ByteArray)(k:Nat)(w:World)(_hs:s.size≤1000000)(_hk:k<s.size)(hl:s.size≤k+1) :
 Calls Tryz.prog 81 #[.string s,.int .i64 (k:Int)] w fun e w'=>e = .returned (.string (oO s k))∧w=w':=by
 obtain⟨x,hx⟩:∃x:Int,(s[k].toNat:Int)=x:=⟨_,rfl⟩;have hx1:0≤x∧x≤255:=by have:=s[k].toNat_lt;omega
 have H1:=ae (fun h1=>sign_one _hk hx (fun h=>by omega) h1);have H0:=ae (fun h1=>sign_zero _hk hx (fun h=>by omega) h1);have hi1:¬ (k:Int)+1<(s.size:Int):=by omega
 have hi2:(k:Int)<(s.size:Int):=by omega
 have hi3:(k:Int)+1≤(s.size:Int):=by omega
 go_enter Tryz.func81,Tryz.ntmps81;go_wp2_with fail
 all_goals go_ret
 all_goals first
  | exact⟨EP (H1.o (by simp only[bA,aA,ne_eq]at *;unfold Bi;omega)).symm,rfl⟩
  | exact⟨EP (H0.o (by simp only[aA,ne_eq]at *;unfold Bi;omega)).symm,rfl⟩
theorem afC (s:ByteArray)(k:Nat)(w:World)(_hs:s.size≤1000000)(_hk:k<s.size)(hl:k+1<s.size)(h2:∀h:k+1<s.size,¬ Bz ((s[k].toNat:Nat):Int) ((s[k+1].toNat:Nat):Int)) :
 Calls Tryz.prog 81 #[.string s,.int .i64 (k:Int)] w fun e w'=>e = .returned (.string (oO s k))∧w=w':=by
 obtain⟨x,hx⟩:∃x:Int,(s[k].toNat:Int)=x:=⟨_,rfl⟩;have hx1:0≤x∧x≤255:=by have:=s[k].toNat_lt;omega
 have h2':∀h:k+1<s.size,¬ Bz x ((s[k+1].toNat:Nat):Int):=by rw[← hx];exact h2
 have H1:=ae (fun h1=>sign_one _hk hx h2' h1);have H0:=ae (fun h1=>sign_zero _hk hx h2' h1);have hE:=UW s k hl
 have n1:¬ (s.extract k (k+2)).toList=[60,62]:=fun h=>by
  have e:s.extract k (k+2)=⟨#[60,62]⟩:=by rw[rz]at h;exact congrArg ByteArray.mk (Array.toList_inj.1 h)
  have e2:=Ch s k 2;rw[e]at e2;rw[show(sb s).drop k=aD s k from rfl,hE]at e2;exact h2 hl (.inl ⟨by simpa [sb]using (congrArg (·.head?) e2).symm,.inl (by simpa [sb]using (congrArg (·.tail.head?) e2).symm)⟩)
 have n2:¬ (s.extract k (k+2)).toList=[60,61]:=fun h=>by
  have e:s.extract k (k+2)=⟨#[60,61]⟩:=by rw[rz]at h;exact congrArg ByteArray.mk (Array.toList_inj.1 h)
  have e2:=Ch s k 2;rw[e]at e2;rw[show(sb s).drop k=aD s k from rfl,hE]at e2;exact h2 hl (.inl ⟨by simpa [sb]using (congrArg (·.head?) e2).symm,.inr (by simpa [sb]using (congrArg (·.tail.head?) e2).symm)⟩)
 have n3:¬ (s.extract k (k+2)).toList=[62,61]:=fun h=>by
  have e:s.extract k (k+2)=⟨#[62,61]⟩:=by rw[rz]at h;exact congrArg ByteArray.mk (Array.toList_inj.1 h)
  have e2:=Ch s k 2;rw[e]at e2;rw[show(sb s).drop k=aD s k from rfl,hE]at e2;exact h2 hl (.inr ⟨by simpa [sb]using (congrArg (·.head?) e2).symm,by simpa [sb]using (congrArg (·.tail.head?) e2).symm⟩)
 have hi1:(k:Int)+1<(s.size:Int):=by omega
 have hi2:(k:Int)<(s.size:Int):=by omega
 have hi3:(k:Int)+1≤(s.size:Int):=by omega
 have hi4:(k:Int)+2≤(s.size:Int):=by omega
 have b1:=aA.2 n1;have b2:=aA.2 n2;have b3:=aA.2 n3;clear hE h2 h2' n1 n2 n3;go_enter Tryz.func81,Tryz.ntmps81;go_wp2_with fail
 all_goals go_ret
 all_goals first
  | exact⟨EP (H1.o (by simp only[bA,aA,ne_eq]at *;unfold Bi;omega)).symm,rfl⟩
  | exact⟨EP (H0.o (by simp only[aA,ne_eq]at *;unfold Bi;omega)).symm,rfl⟩
theorem afA (s E:ByteArray)(k:Nat)(w:World)(_hs:s.size≤1000000)(hl:k+1<s.size)(hE:s.extract k (k+2)=E)(hq:oO s k=E)(h:E=⟨#[60,62]⟩∨E=⟨#[60,61]⟩∨E=⟨#[62,61]⟩) :
 Calls Tryz.prog 81 #[.string s,.int .i64 (k:Int)] w fun e w'=>e = .returned (.string (oO s k))∧w=w':=by
 have HQ:=ae hq;have hi1:(k:Int)+1<(s.size:Int):=by omega
 have hi2:(k:Int)<(s.size:Int):=by omega
 have hi4:(k:Int)+2≤(s.size:Int):=by omega
 clear hq;rcases h with rfl|rfl|rfl
 all_goals
  go_enter Tryz.func81,Tryz.ntmps81;go_wp2_with fail
  go_ret;exact⟨EP (by rw[hE];exact HQ.o.symm),rfl⟩
theorem afz (s:ByteArray)(k:Nat)(w:World)(_hs:s.size≤1000000)(_hk:k<s.size) :
 Calls Tryz.prog 81 #[.string s,.int .i64 (k:Int)] w fun e w'=>e = .returned (.string (oO s k))∧w=w':=by
 by_cases hl:k+1<s.size
 · by_cases h2:Bz ((s[k].toNat:Nat):Int) ((s[k+1].toNat:Nat):Int)
   · have hq:=ahi hl rfl rfl h2
     refine afA s _ k w _hs hl rfl hq ?_;have hE:=UW s k hl;rcases h2 with ⟨h1,h2|h2⟩|⟨h1,h2⟩
     · exact .inl (Gj s ⟨#[60,62]⟩ k 2 (by rw[hE,h1,h2];decide))
     · exact .inr (.inl (Gj s ⟨#[60,61]⟩ k 2 (by rw[hE,h1,h2];decide)))
     · exact .inr (.inr (Gj s ⟨#[62,61]⟩ k 2 (by rw[hE,h1,h2];decide)))
   · exact afC s k w _hs _hk hl (fun _=>h2)
 · exact afB s k w _hs _hk (by omega)
theorem nS.no {k:Nat}{w w':World}{e:Ending}(h:nS none k w e w'):Below w.heap.size w w'∧∃t:ai,e = .returned (.tuple #[.agg #[.int .i64 t.kind,.string t.text,.int .i64 t.num,.string t.sh,.int .i64 t.c,.int .i64 t.r,.bool t.ac,.bool t.ar,.int .i64 t.pos],.int .i64 0]):=by
 rcases h with ⟨h1,⟨t,n,h2,_⟩|⟨_,h2⟩⟩
 · cases h2
 · exact⟨h1,h2⟩
theorem nS.yes {k n:Nat}{t:ai}{w w':World}{e:Ending}(h:nS (some (t,n)) k w e w'):Below w.heap.size w w'∧e = .returned (.tuple #[.agg #[.int .i64 t.kind,.string t.text,.int .i64 t.num,.string t.sh,.int .i64 t.c,.int .i64 t.r,.bool t.ac,.bool t.ar,.int .i64 (k:Int)],.int .i64 (n:Int)]):=by
 rcases h with ⟨h1,⟨t',n',h2,h3⟩|⟨h2,_⟩⟩
 · injection h2 with h2;injection h2 with h2 h5;subst h2;subst h5;exact⟨h1,h3⟩
 · cases h2
theorem sN:Tryz.f53.results=#[.cell 4 71,.tmp 5]:=by kernel_rfl
theorem ahg (s:ByteArray)(k:Nat):oP (aD s k)=if (oO s k).size=0 then none else some ({ ai.zero with kind:=5,text:=oO s k },(oO s k).size):=by
 have h:(oO s k).size=lF (aD s k):=by
  unfold oO;rw[strOfNums_size,gX];have:=Vo (aD s k);omega
 unfold oP;rw[h];rfl
theorem Zr (s:ByteArray)(k:Nat):qh (aD s k)=if k+5≤s.size∧s.extract k (k+5)=⟨#[35,82,69,70,33]⟩then some ({ ai.zero with kind:=6 },5)else none:=by
 unfold qh;by_cases h:(aD s k).take 5=[35,82,69,70,33]
 · have hlen:k+5≤s.size:=by
    have:=congrArg List.length h;rw[gX,og]at this;simp at this;omega
   rw[ah h,ah ⟨hlen,Gj s _ k 5 (by rw[h];decide)⟩]
 · rw[ag h,ag]
   rintro⟨_,h2⟩;apply h;have:=Ch s k 5;rw[h2]at this;exact this.symm
theorem afD (s:ByteArray)(k:Nat)(w:World)(_hs:s.size≤1000000)(_hk:k<s.size) :
 Calls Tryz.prog 53 #[.string s,.int .i64 (k:Int)] w (nS (fD (aD s k)) k w):=by
 have aR:=ae (aG.zero w);have bu:=ae (show Below w.heap.size w (w.alloc (.cells ku 71))from(ak _ _).alloc (aj _) _);have hz0:(0:Int)≤(k:Int):=by omega
 have hz1:(k:Int)<(s.size:Int):=by omega
 obtain⟨a,ha⟩:∃a:Int,(s[k].toNat:Int)=a:=⟨_,rfl⟩;have ha1:0≤a∧a≤255:=by have:=s[k].toNat_lt;omega
 have hcs:=nJ s k _hk;rw[ha]at hcs;have htk:=rO a (aD s (k+1));rw[← hcs]at htk;clear hcs;cases hn:isNum a
 · rw [hn, ag (by simp)]at htk
   by_cases dG:a=34
   · rw [ah dG]at htk
     have Aw:(a == 34)=true:=bA.2 dG;cases hq:lC (aD s (k+1))with
     | none =>
       rw[hq]at htk;have jN:=ae htk;clear htk;have hc:=UG s k (w.alloc (.cells ku 71)) _hs _hk;rw[hq]at hc;have HC:=ae hc;clear hc hq dG;go_enter Tryz.func53,Tryz.ntmps53
       go_wp2_with (first
        | (go_at_call 75;((with_reducible refine(jC _ ?_ ?_ _).mono ?_);(first|omega|skip);(first|omega|skip);rintro e w' ⟨rfl,rfl⟩;rw[hn]))
        | (go_at_call 78;((with_reducible refine HC.o.mono ?_);intro e w1 he;obtain⟨h1,t,rfl⟩:=nS.no he;have HB1:=ae (bu.o.trans (h1.mono bu.o.size));have HT1:=ae (aR.o.below h1 aR.o.lt);clear h1 he;obtain⟨x0,x1,x2,x3,x4,x5,x6,x7,ay⟩:=HT1.o.cells;obtain⟨f0,f1,f2,f3,f4,f5,f6,f7,f8⟩:=HT1.o.bS)))
       exact bodyPost_ret (ko (HT1.o.iI t) _ _ 0 4 5 sN rfl rfl) rfl ⟨nU HB1.o (aj _) _ _ _ _ _ _ _ _ _,.inr ⟨jN.o,t,rfl⟩⟩
     | some q =>
       obtain⟨t,n⟩:=q;rw[hq]at htk;have jN:=ae htk;clear htk;have hc:=UG s k (w.alloc (.cells ku 71)) _hs _hk;rw[hq]at hc;have HC:=ae hc;clear hc hq dG;go_enter Tryz.func53,Tryz.ntmps53
       go_wp2_with (first
        | (go_at_call 75;((with_reducible refine(jC _ ?_ ?_ _).mono ?_);(first|omega|skip);(first|omega|skip);rintro e w' ⟨rfl,rfl⟩;rw[hn]))
        | (go_at_call 78;((with_reducible refine HC.o.mono ?_);intro e w1 he;obtain⟨h1,rfl⟩:=nS.yes he;have HB1:=ae (bu.o.trans (h1.mono bu.o.size));have HT1:=ae (aR.o.below h1 aR.o.lt);clear h1 he;obtain⟨x0,x1,x2,x3,x4,x5,x6,x7,ay⟩:=HT1.o.cells;obtain⟨f0,f1,f2,f3,f4,f5,f6,f7,f8⟩:=HT1.o.bS)))
       exact bodyPost_ret (ko (HT1.o.iI (t.goto k)) _ _ (n:Int) 4 5 sN rfl rfl) rfl ⟨nU HB1.o (aj _) _ _ _ _ _ _ _ _ _,.inl ⟨t,n,jN.o,rfl⟩⟩
   · rw [ag dG]at htk
     have Aw:(a == 34)=false:=aA.2 dG;by_cases j5:a=35
     · rw [ah j5,Zr]at htk
       have aaA:(a == 35)=true:=bA.2 j5;by_cases h5:k+5≤s.size
       · have hi5:(k:Int)+5≤(s.size:Int):=by omega
         by_cases hE:s.extract k (k+5)=⟨#[35,82,69,70,33]⟩
         · rw [ah ⟨h5,hE⟩]at htk
           have jN:=ae htk;clear htk dG j5;go_enter Tryz.func53,Tryz.ntmps53
           go_wp2_with (first
            | (go_at_call 75;((with_reducible refine(jC _ ?_ ?_ _).mono ?_);(first|omega|skip);(first|omega|skip);rintro e w' ⟨rfl,rfl⟩;rw[hn])))
           exact bodyPost_ret (ko (aG.new w (({ ai.zero with kind:=6 }:ai).goto k)) _ _ 5 4 5 sN rfl rfl) rfl ⟨(ak _ _).alloc (aj _) _,.inl ⟨_,5,jN.o,rfl⟩⟩
         · rw [ag (fun h=>hE h.2)]at htk
           have jN:=ae htk;have hEb:((s.extract k (k+5)).toList == [35,82,69,70,33])=false:=aA.2 (fun h=>hE (by rw[rz]at h;exact congrArg ByteArray.mk (Array.toList_inj.1 h)));clear htk dG j5 hE;go_enter Tryz.func53,Tryz.ntmps53
           go_wp2_with (first
            | (go_at_call 75;((with_reducible refine(jC _ ?_ ?_ _).mono ?_);(first|omega|skip);(first|omega|skip);rintro e w' ⟨rfl,rfl⟩;rw[hn])))
           exact bodyPost_ret (ko (aG.zero w) _ _ 0 4 5 sN rfl rfl) rfl ⟨(ak _ _).alloc (aj _) _,.inr ⟨jN.o,_,rfl⟩⟩
       · have hi5:¬ (k:Int)+5≤(s.size:Int):=by omega
         rw[ag (fun h=>h5 h.1)]at htk;have jN:=ae htk;clear htk dG j5;go_enter Tryz.func53,Tryz.ntmps53
         go_wp2_with (first
          | (go_at_call 75;((with_reducible refine(jC _ ?_ ?_ _).mono ?_);(first|omega|skip);(first|omega|skip);rintro e w' ⟨rfl,rfl⟩;rw[hn])))
         exact bodyPost_ret (ko (aG.zero w) _ _ 0 4 5 sN rfl rfl) rfl ⟨(ak _ _).alloc (aj _) _,.inr ⟨jN.o,_,rfl⟩⟩
     · rw [ag j5]at htk
       have aaA:(a == 35)=false:=aA.2 j5;cases hl:isLet a
       · by_cases ik:a=36
         · rw [ah (.inr ik)]at htk
           have KY:(a == 36)=true:=bA.2 ik;cases hq:mZ (aD s k)with
           | none =>
             rw[hq]at htk;have jN:=ae htk;clear htk;have hc:=Ii s k (w.alloc (.cells ku 71)) _hs (Nat.le_of_lt _hk);rw[hq]at hc;have HC:=ae hc;clear hc hq dG j5 ik;go_enter Tryz.func53,Tryz.ntmps53
             go_wp2_with (first
              | (go_at_call 75;((with_reducible refine(jC _ ?_ ?_ _).mono ?_);(first|omega|skip);(first|omega|skip);rintro e w' ⟨rfl,rfl⟩;rw[hn]))|(go_at_call 79;((with_reducible refine(pJ _ ?_ ?_ _).mono ?_);(first|omega|skip);(first|omega|skip);rintro e w' ⟨rfl,rfl⟩;rw[hl]))
              | (go_at_call 80;((with_reducible refine HC.o.mono ?_);intro e w1 he;obtain⟨h1,t,rfl⟩:=nS.no he;have HB1:=ae (bu.o.trans (h1.mono bu.o.size));have HT1:=ae (aR.o.below h1 aR.o.lt);clear h1 he;obtain⟨x0,x1,x2,x3,x4,x5,x6,x7,ay⟩:=HT1.o.cells;obtain⟨f0,f1,f2,f3,f4,f5,f6,f7,f8⟩:=HT1.o.bS)))
             exact bodyPost_ret (ko (HT1.o.iI t) _ _ 0 4 5 sN rfl rfl) rfl ⟨nU HB1.o (aj _) _ _ _ _ _ _ _ _ _,.inr ⟨jN.o,t,rfl⟩⟩
           | some q =>
             obtain⟨t,n⟩:=q;rw[hq]at htk;have jN:=ae htk;clear htk;have hc:=Ii s k (w.alloc (.cells ku 71)) _hs (Nat.le_of_lt _hk);rw[hq]at hc;have HC:=ae hc;clear hc hq dG j5 ik;go_enter Tryz.func53,Tryz.ntmps53
             go_wp2_with (first
              | (go_at_call 75;((with_reducible refine(jC _ ?_ ?_ _).mono ?_);(first|omega|skip);(first|omega|skip);rintro e w' ⟨rfl,rfl⟩;rw[hn]))|(go_at_call 79;((with_reducible refine(pJ _ ?_ ?_ _).mono ?_);(first|omega|skip);(first|omega|skip);rintro e w' ⟨rfl,rfl⟩;rw[hl]))
              | (go_at_call 80;((with_reducible refine HC.o.mono ?_);intro e w1 he;obtain⟨h1,rfl⟩:=nS.yes he;have HB1:=ae (bu.o.trans (h1.mono bu.o.size));have HT1:=ae (aR.o.below h1 aR.o.lt);clear h1 he;obtain⟨x0,x1,x2,x3,x4,x5,x6,x7,ay⟩:=HT1.o.cells;obtain⟨f0,f1,f2,f3,f4,f5,f6,f7,f8⟩:=HT1.o.bS)))
             exact bodyPost_ret (ko (HT1.o.iI (t.goto k)) _ _ (n:Int) 4 5 sN rfl rfl) rfl ⟨nU HB1.o (aj _) _ _ _ _ _ _ _ _ _,.inl ⟨t,n,jN.o,rfl⟩⟩
         · rw [ag (by rw[hl];simp;exact ik),ahg]at htk
           have KY:(a == 36)=false:=aA.2 ik;have HC:=ae (afz s k (w.alloc (.cells ku 71)) _hs _hk);obtain⟨E,hE⟩:∃E,oO s k=E:=⟨_,rfl⟩;rw[hE]at HC htk;clear dG j5 ik hE;by_cases h0:E.size=0
           · rw [ah h0]at htk
             have jN:=ae htk;clear htk;have hei:(E.size:Int)=0:=by omega
             go_enter Tryz.func53,Tryz.ntmps53
             go_wp2_with (first
              | (go_at_call 75;((with_reducible refine(jC _ ?_ ?_ _).mono ?_);(first|omega|skip);(first|omega|skip);rintro e w' ⟨rfl,rfl⟩;rw[hn]))
              | (go_at_call 79;((with_reducible refine(pJ _ ?_ ?_ _).mono ?_);(first|omega|skip);(first|omega|skip);rintro e w' ⟨rfl,rfl⟩;rw[hl]))
              | (go_at_call 81;((with_reducible refine HC.o.mono ?_);rintro e w' ⟨rfl,rfl⟩)))
             exact bodyPost_ret (ko (aG.new w (({ ai.zero with kind:=5,text:=E }:ai).goto k)) _ _ 0 4 5 sN rfl rfl) rfl ⟨(ak _ _).alloc (aj _) _,.inr ⟨jN.o,(({ ai.zero with kind:=5,text:=E }:ai).goto k),rfl⟩⟩
           · rw [ag h0]at htk
             have jN:=ae htk;clear htk;go_enter Tryz.func53,Tryz.ntmps53
             go_wp2_with (first
              | (go_at_call 75;((with_reducible refine(jC _ ?_ ?_ _).mono ?_);(first|omega|skip);(first|omega|skip);rintro e w' ⟨rfl,rfl⟩;rw[hn]))
              | (go_at_call 79;((with_reducible refine(pJ _ ?_ ?_ _).mono ?_);(first|omega|skip);(first|omega|skip);rintro e w' ⟨rfl,rfl⟩;rw[hl]))
              | (go_at_call 81;((with_reducible refine HC.o.mono ?_);rintro e w' ⟨rfl,rfl⟩)))
             exact bodyPost_ret (ko (aG.new w (({ ai.zero with kind:=5,text:=E }:ai).goto k)) _ _ (E.size:Int) 4 5 sN rfl rfl) rfl ⟨(ak _ _).alloc (aj _) _,.inl ⟨_,E.size,jN.o,rfl⟩⟩
       · rw [ah (.inl hl)]at htk
         cases hq:mZ (aD s k)with
         | none =>
           rw[hq]at htk;have jN:=ae htk;clear htk;have hc:=Ii s k (w.alloc (.cells ku 71)) _hs (Nat.le_of_lt _hk);rw[hq]at hc;have HC:=ae hc;clear hc hq dG j5;go_enter Tryz.func53,Tryz.ntmps53
           go_wp2_with (first
            | (go_at_call 75;((with_reducible refine(jC _ ?_ ?_ _).mono ?_);(first|omega|skip);(first|omega|skip);rintro e w' ⟨rfl,rfl⟩;rw[hn]))|(go_at_call 79;((with_reducible refine(pJ _ ?_ ?_ _).mono ?_);(first|omega|skip);(first|omega|skip);rintro e w' ⟨rfl,rfl⟩;rw[hl]))
            | (go_at_call 80;((with_reducible refine HC.o.mono ?_);intro e w1 he;obtain⟨h1,t,rfl⟩:=nS.no he;have HB1:=ae (bu.o.trans (h1.mono bu.o.size));have HT1:=ae (aR.o.below h1 aR.o.lt);clear h1 he;obtain⟨x0,x1,x2,x3,x4,x5,x6,x7,ay⟩:=HT1.o.cells;obtain⟨f0,f1,f2,f3,f4,f5,f6,f7,f8⟩:=HT1.o.bS)))
           exact bodyPost_ret (ko (HT1.o.iI t) _ _ 0 4 5 sN rfl rfl) rfl ⟨nU HB1.o (aj _) _ _ _ _ _ _ _ _ _,.inr ⟨jN.o,t,rfl⟩⟩
         | some q =>
           obtain⟨t,n⟩:=q;rw[hq]at htk;have jN:=ae htk;clear htk;have hc:=Ii s k (w.alloc (.cells ku 71)) _hs (Nat.le_of_lt _hk);rw[hq]at hc;have HC:=ae hc;clear hc hq dG j5;go_enter Tryz.func53,Tryz.ntmps53
           go_wp2_with (first
            | (go_at_call 75;((with_reducible refine(jC _ ?_ ?_ _).mono ?_);(first|omega|skip);(first|omega|skip);rintro e w' ⟨rfl,rfl⟩;rw[hn]))|(go_at_call 79;((with_reducible refine(pJ _ ?_ ?_ _).mono ?_);(first|omega|skip);(first|omega|skip);rintro e w' ⟨rfl,rfl⟩;rw[hl]))
            | (go_at_call 80;((with_reducible refine HC.o.mono ?_);intro e w1 he;obtain⟨h1,rfl⟩:=nS.yes he;have HB1:=ae (bu.o.trans (h1.mono bu.o.size));have HT1:=ae (aR.o.below h1 aR.o.lt);clear h1 he;obtain⟨x0,x1,x2,x3,x4,x5,x6,x7,ay⟩:=HT1.o.cells;obtain⟨f0,f1,f2,f3,f4,f5,f6,f7,f8⟩:=HT1.o.bS)))
           exact bodyPost_ret (ko (HT1.o.iI (t.goto k)) _ _ (n:Int) 4 5 sN rfl rfl) rfl ⟨nU HB1.o (aj _) _ _ _ _ _ _ _ _ _,.inl ⟨t,n,jN.o,rfl⟩⟩
 · rw [hn,ah rfl]at htk
   cases hq:lv (aD s k)with
   | none =>
     rw[hq]at htk;have jN:=ae htk;clear htk;have hc:=UD s k (w.alloc (.cells ku 71)) _hs (Nat.le_of_lt _hk);rw[hq]at hc;have HC:=ae hc;clear hc hq;go_enter Tryz.func53,Tryz.ntmps53
     go_wp2_with (first
      | (go_at_call 75;((with_reducible refine(jC _ ?_ ?_ _).mono ?_);(first|omega|skip);(first|omega|skip);rintro e w' ⟨rfl,rfl⟩;rw[hn]))
      | (go_at_call 77;((with_reducible refine HC.o.mono ?_);intro e w1 he;obtain⟨h1,t,rfl⟩:=nS.no he;have HB1:=ae (bu.o.trans (h1.mono bu.o.size));have HT1:=ae (aR.o.below h1 aR.o.lt);clear h1 he;obtain⟨x0,x1,x2,x3,x4,x5,x6,x7,ay⟩:=HT1.o.cells;obtain⟨f0,f1,f2,f3,f4,f5,f6,f7,f8⟩:=HT1.o.bS)))
     exact bodyPost_ret (ko (HT1.o.iI t) _ _ 0 4 5 sN rfl rfl) rfl ⟨nU HB1.o (aj _) _ _ _ _ _ _ _ _ _,.inr ⟨jN.o,t,rfl⟩⟩
   | some q =>
     obtain⟨t,n⟩:=q;rw[hq]at htk;have jN:=ae htk;clear htk;have hc:=UD s k (w.alloc (.cells ku 71)) _hs (Nat.le_of_lt _hk);rw[hq]at hc;have HC:=ae hc;clear hc hq;go_enter Tryz.func53,Tryz.ntmps53
     go_wp2_with (first
      | (go_at_call 75;((with_reducible refine(jC _ ?_ ?_ _).mono ?_);(first|omega|skip);(first|omega|skip);rintro e w' ⟨rfl,rfl⟩;rw[hn]))
      | (go_at_call 77;((with_reducible refine HC.o.mono ?_);intro e w1 he;obtain⟨h1,rfl⟩:=nS.yes he;have HB1:=ae (bu.o.trans (h1.mono bu.o.size));have HT1:=ae (aR.o.below h1 aR.o.lt);clear h1 he;obtain⟨x0,x1,x2,x3,x4,x5,x6,x7,ay⟩:=HT1.o.cells;obtain⟨f0,f1,f2,f3,f4,f5,f6,f7,f8⟩:=HT1.o.bS)))
     exact bodyPost_ret (ko (HT1.o.iI (t.goto k)) _ _ (n:Int) 4 5 sN rfl rfl) rfl ⟨nU HB1.o (aj _) _ _ _ _ _ _ _ _ _,.inl ⟨t,n,jN.o,rfl⟩⟩
def l8(w:World)(b:Nat)(v:Value)(e:Int):Prop:=w.heap[b]? = some (.cells #[v,.int .i64 e] 65)
theorem l8.lt{w:World}{b:Nat}{v:Value}{e:Int}(h:l8 w b v e):b<w.heap.size:=(dn.1 h).1
theorem l8.below{w w':World}{B b:Nat}{v:Value}{e:Int}(h:l8 w b v e)(hb:Below B w w')(hB:b<B):l8 w' b v e:=by unfold l8;rw[hb.block b hB];exact h
theorem l8.facts {w:World}{b:Nat}{v:Value}{e:Int}(h:l8 w b v e):w.cell? ⟨b,0,none⟩=some v∧w.cell? ⟨b,1,none⟩=some (.int .i64 e) :=
 ⟨by rw[cell_of_row w b 0 _ _ _ h];rfl,by rw[cell_of_row w b 1 _ _ _ h];rfl⟩
theorem l8.bS{w:World}{b:Nat}{v:Value}{e:Int}(h:l8 w b v e):w.frozen? ⟨b,0,none⟩=false∧w.frozen? ⟨b,1,none⟩=false:=⟨frozen_of_row w b 0 _ _ h,frozen_of_row w b 1 _ _ h⟩
theorem l8.oN {w:World}{b:Nat}{v0:Value}{e0:Int}(h:l8 w b v0 e0)(v:Value)(e:Int):l8 ((w.setCell ⟨b,0,none⟩ v).setCell ⟨b,1,none⟩ (.int .i64 e)) b v e:=by
 have h1:(w.setCell ⟨b,0,none⟩ v).heap[b]? = some (.cells #[v,.int .i64 e0] 65):=by rw[heap_setCell_same w b 0 _ _ _ h];rfl
 unfold l8;rw[heap_setCell_same _ b 1 _ _ _ h1];rfl
theorem l8.new(w:World)(v:Value)(e:Int):l8 (w.alloc (.cells #[v,.int .i64 e] 65)) w.heap.size v e:=(kW w _).1
theorem acX:(Tryz.prog.info? 65).map (·.size)=some 2:=by kernel_rfl
theorem MC {w:World}{b:Nat}{v:Value}{e:Int}(h:l8 w b v e)(fn:Func)(tmps:Array Value)(p:Tmp)(hf:fn.results=#[.cell p 65])(hp:tmps.getD p undef = .pointer (some ⟨b,0,none⟩)) :
 (results fn tmps).run Tryz.prog w = .ok (.agg #[v,.int .i64 e]) w :=
 results_cell_row hf tmps w b _ _ _ _ hp h Tryz.underlying65 rfl acX
theorem MX:Tryz.f30.results=#[.cell 2 65]:=by kernel_rfl
def FV (s:ByteArray)(w:World)(e:Ending)(w':World):Prop :=
 Below w.heap.size w w'∧((300<s.size∧e = .returned (.agg #[.slice none 0 0,.int .i64 4]))∨(s.size≤300∧gJ (sb s)=none∧e = .returned (.agg #[.slice none 0 0,.int .i64 5])) ∨
  (s.size≤300∧∃ts v,gJ (sb s)=some ts∧e = .returned (.agg #[v,.int .i64 0])∧sF w' w.heap.size v ts))
theorem Own.Nf {α : Type}{size:Nat}{E:Enc α size}{e:TypeId}{w:World}{base r:Nat}{v:Value}{xs:List α}(h:Own E e w base v xs)(hr:r<base)(a b:Value):Own E e ((w.setCell ⟨r,0,none⟩ a).setCell ⟨r,1,none⟩ b) base v xs :=
 Own.other h (grownBy.gU (grownBy.gU (grownBy.fP _ _) _ _) _ _) hr
theorem UB (s:ByteArray)(w:World):Calls Tryz.prog 30 #[.string s] w (FV s w):=by
 by_cases qZ:300<s.size
 · have hi:(300:Int)<(s.size:Int):=by omega
   go_enter Tryz.func30,Tryz.ntmps30;go_wp2_with fail
   exact bodyPost_ret (MC (l8.new w (.slice none 0 0) 4) _ _ 2 MX rfl) rfl ⟨(ak _ _).alloc (aj _) _,.inl ⟨qZ,rfl⟩⟩
 have hi:¬ (300:Int)<(s.size:Int):=by omega
 have hs0:s.size≤1000000:=by omega
 obtain⟨eb,kz,dh⟩:=Elem.tok;have kv:=ae dh;clear dh;have Dx:=ae (l8.new w (.slice none 0 0) 0);have bu:=ae (show Below w.heap.size w (w.alloc (.cells #[.slice none 0 0,.int .i64 0] 65))from(ak _ _).alloc (aj _) _);have Dw:=ae (show gJ (sb s)=(lV s 0).map (([]:List ai) ++ ·)by rw[SG];cases lV s 0 <;> rfl);go_enter Tryz.func30,Tryz.ntmps30;go_wp2_with fail
 go_loopw [3,4] (fun v i wr=>∃(p:Nat)(acc:List ai),i = .int .i64 (p:Int)∧p≤s.size∧acc.length≤p∧Hid (gJ (sb s)=(lV s p).map (acc ++ ·))∧Hid (sF wr (w.heap.size+1) v acc)∧Hid (l8 wr w.heap.size (.slice none 0 0) 0)∧Hid (Below w.heap.size w wr))
  (fun _ i _=>s.size - (intOf i).toNat)
 case atStart=>exact⟨0,[],rfl,by omega,by simp,Dw,ae (Own.nil _ _ _ _),Dx,bu⟩
 case round =>
  clear Dw Dx bu;obtain⟨p,acc,rfl,hps,hal,HL,HO,HK,HB⟩:=hrel;by_cases hlt:p<s.size
  · have lu:(p:Int)<(s.size:Int):=by omega
    obtain⟨a,ha⟩:∃a:Int,(s[p].toNat:Int)=a:=⟨_,rfl⟩;by_cases h32:a=32
    · have aay:(a == 32)=true:=bA.2 h32
      have HL2:=ae (show gJ (sb s)=(lV s (p+1)).map (acc ++ ·)by rw[HL.o,SI s p hlt (by rw[ha];exact h32)]);clear h32;go_wp2_with fail
      go_roundw
      case rel=>exact⟨p+1,acc,by go_num,by omega,by omega,HL2,HO,HK,HB⟩
      case measure=>simp[intOf];omega
    · have aay:(a == 32)=false:=aA.2 h32
      have Gp:¬ ((s[p].toNat:Nat):Int)=32:=by rw[ha];exact h32
      have hT:=afD s p wr hs0 hlt;cases hq:fD (aD s p)with
      | none =>
        rw[hq]at hT;have HT:=ae hT;clear hT;have HN:=ae (show gJ (sb s)=none by rw[HL.o,SL s p hlt Gp hq];rfl);clear hq h32 Gp;go_upto_region 10 with (go_at_call 53;((with_reducible refine HT.o.mono ?_);intro e w1 he;obtain⟨h1,t,rfl⟩:=nS.no he;have HB1:=ae (HB.o.trans (h1.mono HB.o.size));have mH:=ae (HK.o.below h1 HK.o.lt);clear h1 he))
        have hB3:Below w1.heap.size w1 (w1.alloc (.cells #[.int .i64 t.kind,.string t.text,.int .i64 t.num,.string t.sh,.int .i64 t.c,.int .i64 t.r,.bool t.ac,.bool t.ar,.int .i64 t.pos] 71)):=(ak _ _).alloc (aj _) _;have HB3:=ae (HB1.o.trans (hB3.mono HB1.o.size));have oW:=ae (mH.o.below hB3 mH.o.lt);clear hB3;generalize w1.alloc (.cells #[.int .i64 t.kind,.string t.text,.int .i64 t.num,.string t.sh,.int .i64 t.c,.int .i64 t.r,.bool t.ac,.bool t.ar,.int .i64 t.pos] 71)=w3 at HB3 oW ⊢;obtain⟨c0,c1⟩:=oW.o.facts;obtain⟨f0,f1⟩:=oW.o.bS;go_wp2_with fail
        exact bodyPost_ret (MC (oW.o.oN (.slice none 0 0) 5) _ _ 2 MX rfl) rfl ⟨(HB3.o.setCell (aj _) _).setCell (aj _) _,.inr (.inl ⟨by omega,HN.o,rfl⟩)⟩
      | some q =>
        obtain⟨t0,n0⟩:=q;rw[hq]at hT;obtain⟨t1,ht1⟩:∃t1,t0.goto p=t1:=⟨_,rfl⟩;have HT:=ae hT;clear hT;have hn0:=rP _ _ _ hq;rw[og]at hn0
        have yI:=ae (show gJ (sb s)=(lV s (p+n0)).map ((acc++[t0.goto p]) ++ ·)by
         rw[HL.o,SN s p hlt Gp t0 n0 hq,Option.map_map];congr 1;funext l;simp)
        have hn1:((n0:Int) == 0)=false:=aA.2 (by omega);clear hq HL h32 Gp ht1;go_upto_region 11 with (go_at_call 53;((with_reducible refine HT.o.mono ?_);intro e w1 he;obtain⟨h1,rfl⟩:=nS.yes he;have HB1:=ae (HB.o.trans (h1.mono HB.o.size));have mH:=ae (HK.o.below h1 HK.o.lt);have fZ:=ae (Own.below HO.o h1 (aj _));clear h1 he))
        have hB3:Below w1.heap.size w1 (w1.alloc (.cells #[.int .i64 t0.kind,.string t0.text,.int .i64 t0.num,.string t0.sh,.int .i64 t0.c,.int .i64 t0.r,.bool t0.ac,.bool t0.ar,.int .i64 (p:Int)] 71)):=(ak _ _).alloc (aj _) _;have aF:aG (w1.alloc (.cells #[.int .i64 t0.kind,.string t0.text,.int .i64 t0.num,.string t0.sh,.int .i64 t0.c,.int .i64 t0.r,.bool t0.ac,.bool t0.ar,.int .i64 (p:Int)] 71)) w1.heap.size (t0.goto p):=aG.new w1 (t0.goto p);have HB3:=ae (HB1.o.trans (hB3.mono HB1.o.size));have oW:=ae (mH.o.below hB3 mH.o.lt);have gQ:=ae (Own.below fZ.o hB3 (aj _));clear hB3 HT HB1 mH fZ HB HK HO;generalize w1.alloc (.cells #[.int .i64 t0.kind,.string t0.text,.int .i64 t0.num,.string t0.sh,.int .i64 t0.c,.int .i64 t0.r,.bool t0.ac,.bool t0.ar,.int .i64 (p:Int)] 71)=w3 at HB3 oW gQ aF ⊢;obtain⟨y0,y1,y2,y3,y4,fQ,y6,mG,oC⟩:=aF.cells;clear aF;simp only[ai.goto]at y0 y1 y2 y3 y4 fQ y6 mG oC;go_wp2_with (at_builtin;refine ow kv.o Ao rfl (.tmp 30) (.tmp 32) rfl (w.heap.size+1) _ _ rfl (gQ.o.alloc _) ⟨_,0,none⟩ 1 1 [t0.goto p] rfl rfl ?_ ?_ ?_ ?_ ?_;exact ic _ _ _ rfl;exact bO (Nat.mul_le_mul_left _ kz) (by omega);(unfold maxLen;omega);(have:=oW.o.lt;simp <;> omega);intro v' oz h1 h2;have p8:=ae h1;have kZ:=ae (((ak (w.heap.size+1) _).alloc (by have:=oW.o.lt;omega) _).trans h2);clear h1 h2)
        go_roundw
        case rel=>exact⟨p+n0,acc++[t0.goto p],by go_num,by omega,by simp;omega,yI,p8,ae (oW.o.below kZ.o (Nat.lt_succ_self _)),ae (HB3.o.trans (kZ.o.mono (Nat.le_succ _)))⟩
        case measure=>simp[intOf];omega
  · have lu:¬ (p:Int)<(s.size:Int):=by omega
    have hpz:p=s.size:=by omega
    have HN:=ae (show gJ (sb s)=some (acc++[ai.zero.goto p])by rw[HL.o,SK s p (by omega)];rfl);clear HL;obtain⟨c0,c1⟩:=HK.o.facts;obtain⟨f0,f1⟩:=HK.o.bS;go_wp2_with (at_builtin;refine ow kv.o Ao rfl (.tmp 37) (.tmp 41) rfl (w.heap.size+1) _ _ rfl (HO.o.alloc _) ⟨_,0,none⟩ 1 1 [ai.zero.goto s.size] rfl rfl ?_ ?_ ?_ ?_ ?_;exact ic _ _ _ rfl;exact bO (Nat.mul_le_mul_left _ kz) (by omega);(unfold maxLen;omega);(have:=HK.o.lt;simp <;> omega);intro v' oz h1 h2;obtain⟨gz,Y5,rfl,_,_,_,_⟩:=Own.some h1 (by simp);have p8:=ae h1;have kZ:=ae (((ak (w.heap.size+1) _).alloc (by have:=HK.o.lt;omega) _).trans h2);clear h1 h2;have Jz:=ae (HK.o.below kZ.o (Nat.lt_succ_self _));clear c0 c1 f0 f1;obtain⟨c0,c1⟩:=Jz.o.facts;obtain⟨f0,f1⟩:=Jz.o.bS)
    exact bodyPost_ret (MC (Jz.o.oN _ 0) _ _ 2 MX rfl) rfl ⟨((HB.o.trans (kZ.o.mono (Nat.le_succ _))).setCell (aj _) _).setCell (aj _) _,.inr (.inr ⟨by omega,_,_,HN.o,rfl,by have h9:=(Own.Nf p8.o (Nat.lt_succ_self _) (.slice (some ⟨gz,0,none⟩) (acc.length+1) Y5) (.int .i64 0)).mono (Nat.le_succ _);rw[show(acc++[ai.zero.goto s.size]).length=acc.length+1 by simp]at h9;rw[hpz];exact h9⟩)⟩
structure bD (w:World)(b:Nat)(tv:Value)(ts:List ai)(p:Nat)(d er:Int)(nv:Value)(vs:List aC):Prop where
 cell:w.heap[b]? = some (.cells #[tv,.int .i64 (p:Int),.int .i64 d,.int .i64 er,nv] 69)
 qG:Ah w b tv ts
 nodes:ky w (b+1) nv vs
 lt:p<ts.length
 fit:Fit ts
 few:ts.length≤1000
 cnt:vs.length≤ts.length+100
section
variable {w:World} {b:Nat} {tv:Value} {ts:List ai} {p:Nat} {d er:Int} {nv:Value} {vs:List aC}
theorem bD.blt(h:bD w b tv ts p d er nv vs):b<w.heap.size:=(dn.1 h.cell).1
theorem bD.below {w':World}(h:bD w b tv ts p d er nv vs)(hb:Below w.heap.size w w'):bD w' b tv ts p d er nv vs:=by
 have hl:=h.blt;refine⟨by rw[hb.block b hl];exact h.cell, ?_,h.nodes.keep fun g _ hg=>hb.block g hg,h.lt,h.fit,h.few,h.cnt⟩;obtain⟨g,cap,h1,h2,h3⟩:=h.qG;exact⟨g,cap,h1,h2,h3.keep fun g _ hg _=>hb.block g hg⟩
theorem bD.facts (h:bD w b tv ts p d er nv vs):w.cell? ⟨b,0,none⟩=some tv∧w.cell? ⟨b,1,none⟩=some (.int .i64 (p:Int))∧w.cell? ⟨b,2,none⟩=some (.int .i64 d)∧w.cell? ⟨b,3,none⟩=some (.int .i64 er)∧w.cell? ⟨b,4,none⟩=some nv :=
 ⟨by rw[cell_of_row w b 0 _ _ _ h.cell];rfl,by rw[cell_of_row w b 1 _ _ _ h.cell];rfl,by rw[cell_of_row w b 2 _ _ _ h.cell];rfl,by rw[cell_of_row w b 3 _ _ _ h.cell];rfl,by rw[cell_of_row w b 4 _ _ _ h.cell];rfl⟩
theorem bD.frozen(h:bD w b tv ts p d er nv vs)(j:Nat):w.frozen? ⟨b,j,none⟩=false:=frozen_of_row w b j _ _ h.cell
theorem bD.Ng (h:bD w b tv ts p d er nv vs)(m:Nat)(hm:m<ts.length):bD (w.setCell ⟨b,1,none⟩ (.int .i64 (m:Int))) b tv ts m d er nv vs :=
 ⟨by rw[heap_setCell_same w b 1 _ _ _ h.cell];rfl,h.qG.set _ _,h.nodes.set (by omega) _ _,hm,h.fit,h.few,h.cnt⟩
theorem bD.next(h:bD w b tv ts p d er nv vs)(hm:p+1<ts.length):bD (w.setCell ⟨b,1,none⟩ (.int .i64 ((p:Int)+1))) b tv ts (p+1) d er nv vs:=h.Ng (p+1) hm
theorem bD.qD (h:bD w b tv ts p d er nv vs)(m:Int):bD (w.setCell ⟨b,2,none⟩ (.int .i64 m)) b tv ts p m er nv vs :=
 ⟨by rw[heap_setCell_same w b 2 _ _ _ h.cell];rfl,h.qG.set _ _,h.nodes.set (by omega) _ _,h.lt,h.fit,h.few,h.cnt⟩
theorem bD.agC (h:bD w b tv ts p d er nv vs)(m:Int):bD (w.setCell ⟨b,3,none⟩ (.int .i64 m)) b tv ts p d m nv vs :=
 ⟨by rw[heap_setCell_same w b 3 _ _ _ h.cell];rfl,h.qG.set _ _,h.nodes.set (by omega) _ _,h.lt,h.fit,h.few,h.cnt⟩
theorem bD.tok (h:bD w b tv ts p d er nv vs):∃g cap t,tv = .slice (some ⟨g,0,none⟩) ts.length cap∧ts[p]? = some t∧ts.drop p=t :: ts.drop (p+1)∧g<b∧w.cell? ⟨g,p*9,none⟩=some (.int .i64 t.kind)∧w.cell? ⟨g,p*9+1,none⟩=some (.string t.text)∧w.cell? ⟨g,p*9+2,none⟩=some (.int .i64 t.num)∧w.cell? ⟨g,p*9+3,none⟩=some (.string t.sh)∧w.cell? ⟨g,p*9+4,none⟩=some (.int .i64 t.c)∧w.cell? ⟨g,p*9+5,none⟩=some (.int .i64 t.r)∧w.cell? ⟨g,p*9+6,none⟩=some (.bool t.ac)∧w.cell? ⟨g,p*9+7,none⟩=some (.bool t.ar)∧w.cell? ⟨g,p*9+8,none⟩=some (.int .i64 t.pos):=by
 obtain⟨g,cap,h1,h2,h3⟩:=h.qG;have hl:=h.lt;rw[h1]at h3;have hc:=fun j hj=>sF.cell h3 p _ (dL hl) j hj
 exact⟨g,cap,ts[p],h1,dL hl,List.drop_eq_getElem_cons hl,h2,hc 0 (by omega),hc 1 (by omega),hc 2 (by omega),hc 3 (by omega),hc 4 (by omega),hc 5 (by omega),hc 6 (by omega),hc 7 (by omega),hc 8 (by omega)⟩
theorem bD.row (h:bD w b tv ts p d er nv vs):∀g,nv.ownBlock=some g→b<g∧BV w g:=by
 intro g e;rcases h.nodes.1.2 with ⟨h1,_⟩|⟨g',cap,cur,h1,h2,h3,_⟩
 · rw[h1]at e;cases e
 · rw[h1]at e;injection e with e
   have e:g'=g:=e;subst e;exact⟨by omega,cur,_,h3⟩
theorem bD.aam {w':World}(h:bD w b tv ts p d er nv vs)(hg:w.grownBy w' nv.ownBlock):w'.cell? ⟨b,4,none⟩=some nv∧w'.frozen? ⟨b,4,none⟩=false:=by
 have hbb:w'.heap[b]? = w.heap[b]? := hg.block b h.blt (by intro e;have:=(h.row b e.symm).1;omega);have hc:=hbb.trans h.cell;exact⟨by rw[cell_of_row w' b 4 _ _ _ hc];rfl,frozen_of_row w' b 4 _ _ hc⟩
theorem bD.grow {w':World}{bq:Value}{v:aC}(h:bD w b tv ts p d er nv vs)(hg:w.grownBy w' nv.ownBlock)(ho:Own ql 45 w' (b+1) bq (vs++[v]))
 (hk:Own (aI .i64) 3 w (b+1) v.bn v.n.kids) (hc:vs.length+1≤ts.length+100):bD (w'.setCell ⟨b,4,none⟩ bq) b tv ts p d er bq (vs++[v])∧Fr w (w'.setCell ⟨b,4,none⟩ bq) b:=by
 have AP:=h.row;have hfr:Fr w w' b:=(Fr.refl w b).row hg (fun g e=>⟨(AP g e).1,.inr (AP g e).2⟩);have hbb:w'.heap[b]? = w.heap[b]? := hg.block b h.blt (by intro e;have:=(AP b e.symm).1;omega);refine⟨⟨?_, ?_,⟨ho.keep fun j hj _ _=>fw _ _ _ _ (by show j≠b;omega), ?_⟩,h.lt,h.fit,h.few,by rw[av,fE];exact hc⟩,hfr.setCell _ _⟩
 · rw[heap_setCell_same w' b 4 _ _ _ (hbb.trans h.cell)];rfl
 · have h1:Ah w' b tv ts:=by
    obtain⟨g,cap,h1,h2,h3⟩:=h.qG;exact⟨g,cap,h1,h2,h3.keep fun j _ hj e=>hfr.block j hj (by rw[h1]at e;injection e with e;have:g=j:=e;omega) (.inl (by rw[h1]at e;injection e with e;have:g=j:=e;omega))⟩
   exact h1.set _ _
 · intro u hu
   have h1:Own (aI .i64) 3 w (b+1) u.bn u.n.kids:=by
    rcases dK.1 hu with hu|hu
    · exact h.nodes.2 u hu
    · rw[fA.1 hu];exact hk
   exact(h1.fr hfr (by omega) (by decide)).keep fun j hj _ _=>fw _ _ _ _ (by show j≠b;omega)
theorem bD.kids {w':World}(h:bD w b tv ts p d er nv vs){r:Option Nat}(hg:w.grownBy w' r)(hr:∀g,r=some g→b<g∧¬ BV w g∧∀v∈vs,v.bn.ownBlock≠some g):bD w' b tv ts p d er nv vs:=by
 refine⟨?_, ?_,⟨h.nodes.1.keep ?_,fun v hv=>(h.nodes.2 v hv).keep ?_⟩,h.lt,h.fit,h.few,h.cnt⟩
 · rw[hg.block b h.blt (by intro e;have:=(hr b e.symm).1;omega)];exact h.cell
 · obtain ⟨g,cap,h1,h2,h3⟩:=h.qG
   exact ⟨g,cap,h1,h2,h3.keep fun j _ hj e=>hg.block j hj (by
    intro e2;have:=(hr j e2.symm).1;rw[h1]at e;injection e with e;have:g=j:=e;omega)⟩
 · intro g h1 h2 h3
   exact hg.block g h2 (fun e=>(hr g e.symm).2.1 (h.row g h3).2)
 · intro g h1 h2 h3
   exact hg.block g h2 (fun e=>(hr g e.symm).2.2 v hv h3)
end
def wV (b n:Nat)(w:World):Nat:=match w.cell? ⟨b,3,none⟩with
 | some (.int _ e)=>if e=0 then n+1 - (match w.cell? ⟨b,1,none⟩with|some (.int _ m)=>m.toNat|_=>0)else 0
 | _=>0
theorem bD.wV {w:World}{b:Nat}{tv:Value}{ts:List ai}{p:Nat}{d er:Int}{nv:Value}{vs:List aC}(h:bD w b tv ts p d er nv vs)(n:Nat):wV b n w=if er=0 then n+1 - p else 0:=by
 unfold Go.Proofs.YtaobhjliflomaaaGreatDoor.wV;rw[h.facts.2.2.2.1,h.facts.2.1];rfl
theorem zF {w:World}{b:Nat}{tv:Value}{ts:List ai}{p:Nat}{d er:Int}{nv:Value}{vs:List aC}(h:bD w b tv ts p d er nv vs){s:ByteArray}(hs:ax s (ts.drop p)=true):p+1<ts.length:=by
 obtain⟨g,cap,t, -,ht,hd, -⟩:=h.tok;rw[IA hd,dH,aK]at hs;exact h.fit.next ht (by omega)
theorem yo {w:World}{b:Nat}{tv:Value}{ts:List ai}{p:Nat}{d er:Int}{nv:Value}{vs:List aC}(h:bD w b tv ts p d er nv vs)(s:ByteArray) :
 Calls Tryz.prog 56 #[.pointer (some ⟨b,0,none⟩),.string s] w fun e w'=>e = .returned (.bool (decide (er=0)&&ax s (ts.drop p)))∧Below w.heap.size w w':=by
 obtain⟨c0,c1,c2,c3,c4⟩:=h.facts;obtain⟨g,cap,t,rfl,ht,hd, -,k0,k1, -⟩:=h.tok;have hlt:=h.lt;have HS:=ae (IA (s:=s) hd);have hi1:(0:Int)≤(p:Int):=by omega
 have hi2:(p:Int)<(ts.length:Int):=by omega
 obtain⟨n,hn⟩:∃n,ts.length=n:=⟨_,rfl⟩;rw[hn]at hi2 hlt c0;clear h ht hd hn c2 c4;by_cases he:er=0
 · have ee:(er == 0)=true:=bA.2 he
   have HE:=ae (aQ he);clear he;by_cases h5:t.kind=5
   · have e5:(t.kind == 5)=true:=bA.2 h5
     by_cases hs:t.text=s
     · have hs1:(t.text.toList == s.toList)=true:=by rw[hs];simp
       have hs2:t.text.toList=s.toList:=by rw[hs]
       have HR:=ae (show(decide (er=0)&&ax s (ts.drop p))=true by rw[HE.o,HS.o,aQ h5,aQ hs];rfl);clear h5 hs;go_enter Tryz.func56,Tryz.ntmps56;go_wp2_with fail
       go_quiet (fail)
       go_wp2_with fail
       go_ret;exact⟨by rw[HR.o] <;> rfl,qj (ak _ _) nq⟩
     · have hs1:(t.text.toList == s.toList)=false:=aA.2 (rM _ _ hs)
       have hs2:¬ t.text.toList=s.toList:=rM _ _ hs;have HR:=ae (show(decide (er=0)&&ax s (ts.drop p))=false by rw[HE.o,HS.o,aQ h5,aS hs];rfl);clear h5 hs;go_enter Tryz.func56,Tryz.ntmps56;go_wp2_with fail
       go_quiet (fail)
       go_wp2_with fail
       go_ret;exact⟨by rw[HR.o] <;> rfl,qj (ak _ _) nq⟩
   · have e5:(t.kind == 5)=false:=aA.2 h5
     have HR:=ae (show(decide (er=0)&&ax s (ts.drop p))=false by rw[HE.o,HS.o,aS h5];rfl);clear h5;go_enter Tryz.func56,Tryz.ntmps56;go_wp2_with fail
     go_quiet (fail)
     go_wp2_with fail
     go_ret;exact⟨by rw[HR.o] <;> rfl,qj (ak _ _) nq⟩
 · have ee:(er == 0)=false:=aA.2 he
   have HR:=ae (show(decide (er=0)&&ax s (ts.drop p))=false by rw[aS he];rfl);clear he;go_enter Tryz.func56,Tryz.ntmps56;go_wp2_with fail
   go_quiet (fail)
   go_wp2_with fail
   go_ret;exact⟨by rw[HR.o] <;> rfl,qj (ak _ _) nq⟩
def uU(b:Nat)(tv:Value)(ts:List ai)(p:Nat)(d er:Int)(nv:Value)(vs:List aC)(c:Int)(w':World):Prop:=bD w' b tv ts p d (if er=0 then c else er) nv vs
theorem Bo {w:World}{b:Nat}{tv:Value}{ts:List ai}{p:Nat}{d er:Int}{nv:Value}{vs:List aC}(h:bD w b tv ts p d er nv vs)(c:Int) :
 Calls Tryz.prog 32 #[.pointer (some ⟨b,0,none⟩),.int .i64 c] w fun e w'=>e = .returned (.tuple #[])∧Fr w w' b∧uU b tv ts p d er nv vs c w':=by
 obtain⟨c0,c1,c2,c3,c4⟩:=h.facts;have f3:=h.frozen 3;have HP:=ae h;clear h c0 c1 c2 c4;by_cases he:er=0
 · have ee:(er == 0)=true:=bA.2 he
   have HE:=ae he;clear he;go_enter Tryz.func32,Tryz.ntmps32;go_wp2_with fail
   have hq:uU b tv ts p d er nv vs c (w.setCell ⟨b,3,none⟩ (.int .i64 c)):=by unfold uU;rw[ah HE.o];exact HP.o.agC c
   first
    | exact bodyPost_ret (results_none rfl _ _ _) rfl ⟨rfl,(Fr.refl _ _).setCell _ _,hq⟩
    | (go_end0;exact⟨rfl,(Fr.refl _ _).setCell _ _,hq⟩)
 · have ee:(er == 0)=false:=aA.2 he
   have HE:=ae he;clear he;go_enter Tryz.func32,Tryz.ntmps32;go_wp2_with fail
   have hq:uU b tv ts p d er nv vs c w:=by unfold uU;rw[ag HE.o];exact HP.o
   first
    | exact bodyPost_ret (results_none rfl _ _ _) rfl ⟨rfl,Fr.refl _ _,hq⟩
    | (go_end0;exact⟨rfl,Fr.refl _ _,hq⟩)
def Kl (b:Nat)(tv:Value)(ts:List ai)(p:Nat)(d er:Int)(nv:Value)(vs:List aC)(s:ByteArray)(w':World):Prop :=
 (er≠0∧bD w' b tv ts p d er nv vs)∨(er=0∧ax s (ts.drop p)=true∧bD w' b tv ts (p+1) d 0 nv vs)∨(er=0∧ax s (ts.drop p)=false∧bD w' b tv ts p d 5 nv vs)
theorem CU {w:World}{b:Nat}{tv:Value}{ts:List ai}{p:Nat}{d er:Int}{nv:Value}{vs:List aC}(h:bD w b tv ts p d er nv vs)(s:ByteArray) :
 Calls Tryz.prog 109 #[.pointer (some ⟨b,0,none⟩),.string s] w fun e w'=>e = .returned (.tuple #[])∧Fr w w' b∧Kl b tv ts p d er nv vs s w':=by
 have HS:=ae (yo h s);have HP:=ae h;have kR:=h.few;have hlt:=h.lt;obtain⟨q,hq⟩:∃q,(decide (er=0)&&ax s (ts.drop p))=q:=⟨_,rfl⟩;rw[hq]at HS;cases q
 · have HF:=ae (fun w1 (h1:Below w.heap.size w w1)=>Bo (HP.o.below h1) 5)
   have HQ:=ae hq;clear h hq;go_enter Tryz.func109,Tryz.ntmps109
   go_wp2_with (first
    | (go_at_call 56;((with_reducible refine HS.o.mono ?_);rintro e w1 ⟨rfl,h1⟩;have HB:=ae h1;clear h1))
    | (go_at_call 32;((with_reducible refine(HF.o _ HB.o).mono ?_);rintro e w2 ⟨rfl,h1,h2⟩;have bT:=ae h1;have dI:=ae h2;clear h1 h2)))
   have fin:Kl b tv ts p d er nv vs s w2:=by
    have hP:=dI.o;unfold uU at hP;by_cases he:er=0
    · rw[ah he]at hP
      have:=HQ.o;rw[aQ he,gL]at this;exact .inr (.inr ⟨he,this,hP⟩)
    · rw[ag he]at hP
      exact .inl ⟨he,hP⟩
   first
    | exact bodyPost_ret (results_none rfl _ _ _) rfl ⟨rfl,(Fr.of b HB.o).trans bT.o,fin⟩
    | (go_end0;exact⟨rfl,(Fr.of b HB.o).trans bT.o,fin⟩)
 · rw [dH,aK]at hq
   have hnx:=zF h hq.2;have HQ:=ae hq;clear h hq;go_enter Tryz.func109,Tryz.ntmps109;go_upto_region 2 with (go_at_call 56;((with_reducible refine HS.o.mono ?_);rintro e w1 ⟨rfl,h1⟩;have HB:=ae h1;have bG:=ae (HP.o.below h1);clear h1))
   obtain⟨c0,c1,c2,c3,c4⟩:=bG.o.facts;have f1:=bG.o.frozen 1;clear c0 c2 c3 c4;go_wp2_with fail
   have fin:Kl b tv ts p d er nv vs s (w1.setCell ⟨b,1,none⟩ (.int .i64 ((p:Int)+1))):=by
    have hP:=bG.o.next hnx;rw[HQ.o.1]at hP;exact .inr (.inl ⟨HQ.o.1,HQ.o.2,hP⟩)
   first
    | exact bodyPost_ret (results_none rfl _ _ _) rfl ⟨rfl,(Fr.of b HB.o).setCell _ _,fin⟩
    | (go_end0;exact⟨rfl,(Fr.of b HB.o).setCell _ _,fin⟩)
def Kj(b:Nat)(tv:Value)(ts:List ai)(p deep:Nat)(nv:Value)(vs:List aC)(w':World):Prop:=(12≤deep∧bD w' b tv ts p (deep:Int) 6 nv vs)∨(¬ 12≤deep∧bD w' b tv ts (p+1) ((deep+1:Nat):Int) 0 nv vs)
theorem Bp {w:World}{b:Nat}{tv:Value}{ts:List ai}{p deep:Nat}{nv:Value}{vs:List aC}(h:bD w b tv ts p (deep:Int) 0 nv vs)(hn:deep≤12)(hnx:p+1<ts.length) :
 Calls Tryz.prog 83 #[.pointer (some ⟨b,0,none⟩)] w fun e w'=>e = .returned (.tuple #[])∧Fr w w' b∧Kj b tv ts p deep nv vs w':=by
 obtain⟨c0,c1,c2,c3,c4⟩:=h.facts;have f1:=h.frozen 1;have f2:=h.frozen 2;have hf:=h.few;have HP:=ae h;have HF:=ae (Bo h 6);clear h c0 c3 c4;by_cases hd:12≤deep
 · have e12:(12:Int)≤(deep:Int):=by omega
   go_enter Tryz.func83,Tryz.ntmps83;go_wp2_with (go_at_call 32;((with_reducible refine HF.o.mono ?_);rintro e w2 ⟨rfl,h1,h2⟩;have bT:=ae h1;have dI:=ae h2;clear h1 h2))
   have fin:Kj b tv ts p deep nv vs w2:=by have:=dI.o;unfold uU at this;rw[ah rfl]at this;exact .inl ⟨hd,this⟩
   first
    | exact bodyPost_ret (results_none rfl _ _ _) rfl ⟨rfl,bT.o,fin⟩
    | (go_end0;exact⟨rfl,bT.o,fin⟩)
 · have e12:¬ (12:Int)≤(deep:Int):=by omega
   have HD:=ae hd;go_enter Tryz.func83,Tryz.ntmps83;go_wp2_with fail
   have fin:Kj b tv ts p deep nv vs ((w.setCell ⟨b,2,none⟩ (.int .i64 ((deep:Int)+1))).setCell ⟨b,1,none⟩ (.int .i64 ((p:Int)+1))) := .inr ⟨HD.o,(HP.o.qD ((deep+1:Nat):Int)).next hnx⟩
   first
    | exact bodyPost_ret (results_none rfl _ _ _) rfl ⟨rfl,((Fr.refl _ _).setCell _ _).setCell _ _,fin⟩
    | (go_end0;exact⟨rfl,((Fr.refl _ _).setCell _ _).setCell _ _,fin⟩)
theorem pK {w:World}{b:Nat}{tv:Value}{ts:List ai}{p:Nat}{d er:Int}{nv:Value}{vs:List aC}(h:bD w b tv ts p d er nv vs)(v:aC)(hk:Own (aI .i64) 3 w (b+1) v.bn v.n.kids)(hc:vs.length+1≤ts.length+100)(k:Value)(ma:v.bn=k)(n:Nd)(hn:v.n=n) :
 Calls Tryz.prog 57 #[.pointer (some ⟨b,0,none⟩),.agg #[.int .i64 n.kind,.int .i64 n.num,.string n.text,.string n.ref.sh,.int .i64 n.ref.c,.int .i64 n.ref.r,.bool n.ref.ac,.bool n.ref.ar,.string n.af.sh,.int .i64 n.af.c,.int .i64 n.af.r,.bool n.af.ac,.bool n.af.ar,k]] w fun e w'=>Fr w w' b∧e = .returned (.int .i64 (vs.length:Int))∧∃bq,bD w' b tv ts p d er bq (vs++[v]):=by
 obtain⟨eb,kz,dh⟩:=Elem.iP;have hal:Below w.heap.size w (w.alloc (.cells #[.int .i64 n.kind,.int .i64 n.num,.string n.text,.string n.ref.sh,.int .i64 n.ref.c,.int .i64 n.ref.r,.bool n.ref.ac,.bool n.ref.ar,.string n.af.sh,.int .i64 n.af.c,.int .i64 n.af.r,.bool n.af.ac,.bool n.af.ar,k] 45)):=(ak _ _).alloc (aj _) _;have bG:=ae (h.below hal);have mH:=ae (hk.alloc (.cells #[.int .i64 n.kind,.int .i64 n.num,.string n.text,.string n.ref.sh,.int .i64 n.ref.c,.int .i64 n.ref.r,.bool n.ref.ac,.bool n.ref.ar,.string n.af.sh,.int .i64 n.af.c,.int .i64 n.af.r,.bool n.af.ac,.bool n.af.ar,k] 45));have hx:az (w.alloc (.cells #[.int .i64 n.kind,.int .i64 n.num,.string n.text,.string n.ref.sh,.int .i64 n.ref.c,.int .i64 n.ref.r,.bool n.ref.ac,.bool n.ref.ar,.string n.af.sh,.int .i64 n.af.c,.int .i64 n.af.r,.bool n.af.ac,.bool n.af.ar,k] 45)) w.heap.size n k:=az.new w n k;have h2:=h.few;have h3:=h.lt;have hbl:=h.blt;have hsz:(w.alloc (.cells #[.int .i64 n.kind,.int .i64 n.num,.string n.text,.string n.ref.sh,.int .i64 n.ref.c,.int .i64 n.ref.r,.bool n.ref.ac,.bool n.ref.ar,.string n.af.sh,.int .i64 n.af.c,.int .i64 n.af.r,.bool n.af.ac,.bool n.af.ar,k] 45)).heap.size=w.heap.size+1:=by simp
 have kv:=ae dh;have bu:=ae hal;clear h hk dh hal;go_enter Tryz.func57,Tryz.ntmps57;go_upto_region 1 with (fail)
 generalize w.alloc (.cells #[.int .i64 n.kind,.int .i64 n.num,.string n.text,.string n.ref.sh,.int .i64 n.ref.c,.int .i64 n.ref.r,.bool n.ref.ac,.bool n.ref.ar,.string n.af.sh,.int .i64 n.af.c,.int .i64 n.af.r,.bool n.af.ac,.bool n.af.ar,k] 45)=w1 at bG mH bu hx hsz ⊢;obtain⟨x0,x1,x2,x3,x4,x5,x6,x7,ay,aO,aL,aM,aN,aJ⟩:=hx.cells;obtain⟨c0,c1,c2,c3,c4⟩:=bG.o.facts;have f4:=bG.o.frozen 4;clear hx c0 c1 c2 c3;have DJ:=ae (bG.o.below (((ak _ _).drew).alloc (aj _) (.cells #[.int .i64 n.kind,.int .i64 n.num,.string n.text,.string n.ref.sh,.int .i64 n.ref.c,.int .i64 n.ref.r,.bool n.ref.ac,.bool n.ref.ar,.string n.af.sh,.int .i64 n.af.c,.int .i64 n.af.r,.bool n.af.ac,.bool n.af.ar,k] 45)));have hw1 : -9223372036854775808≤(vs.length:Int)+1 - 1:=by omega
 have hw2:(vs.length:Int)+1 - 1≤9223372036854775807:=by omega
 go_region_law (refine IG kv.o ql rfl (.tmp 9) (.tmp 11) rfl (b+1) nv vs ?_ (bG.o.nodes.1.drew.alloc _) ⟨w1.heap.size,0,none⟩ 1 1 [v] ?_ rfl ?_ ?_ ?_ ?_ ?_;go_simp;go_simp;(subst ma;subst hn;exact ic (w:=w1.drew) _ _ _ rfl);exact bO (Nat.mul_le_mul_left _ kz) (by omega);(unfold maxLen;omega);(simp <;> omega);intro v' oz h1 h2 h4;obtain⟨g1,gm,rfl,hg0,hg1,hg2,hg3⟩:=Own.some h1 (by simp);obtain⟨d1,d2⟩:=DJ.o.aam h2;have HO:=ae h1;have HG:=ae h2;clear h1 h2 h4)
 all_goals
  obtain⟨q1,q2⟩:=DJ.o.grow HG.o HO.o (mH.o.drew.alloc _) hc;rw[av,fE]at q1 q2;obtain⟨c0,c1,c2,c3,c4⟩:=q1.facts;have p9:=ae q1;have lK:=ae q2;clear q1 q2 c0 c1 c2 c3;go_wp2_with fail
  have hF:=(((Fr.of b bu.o).drew).below ((ak _ _).alloc (aj _) (.cells #[.int .i64 n.kind,.int .i64 n.num,.string n.text,.string n.ref.sh,.int .i64 n.ref.c,.int .i64 n.ref.r,.bool n.ref.ac,.bool n.ref.ar,.string n.af.sh,.int .i64 n.af.c,.int .i64 n.af.r,.bool n.af.ac,.bool n.af.ar,k] 45))).trans lK.o;go_ret;exact⟨hF,M5 (by first|rfl|omega),_,p9.o⟩
end Go.Proofs.YtaobhjliflomaaaGreatDoor
