import Derived.Test.YtdnooocmlhcpkaaGreatDoorMD8
set_option maxRecDepth 100000
set_option maxHeartbeats 64000000
namespace Go.Proofs.YtdnooocmlhcpkaaGreatDoor
open Go.RowKit
theorem aeb (l:List Int)(t:af)(n:Nat)(h:eP l=some (t,n)):t.num≤9223372036854775807:=by
 cases l with
 | nil=>simp[eP]at h
 | cons x l =>
   rw[p9]at h;split at h
   · unfold jQ at h
     split at h
     · cases h
     · simp only[bA,bD]at h
       rw[← h.1];show bH _≤_;omega
   split at h
   · unfold jR at h
     cases hq:dS l with
     | none=>rw[hq]at h;cases h
     | some q =>
       rw[hq]at h;simp only[Option.map_some,bA,bD]at h;rw[← h.1];show(0:Int)≤_;omega
   split at h
   · unfold oD at h
     split at h
     · simp only[bA,bD]at h
       rw[← h.1];show(0:Int)≤_;omega
     · cases h
   split at h
   · unfold lD at h
     split at h
     · simp only[bA,bD]at h
       rw[← h.1];show(0:Int)≤_;omega
     · split at h
       · simp only[bA,bD]at h
         rw[← h.1];show(0:Int)≤_;omega
       · cases h
   · unfold ny at h
     split at h
     · cases h
     · simp only[bA,bD]at h
       rw[← h.1];show(0:Int)≤_;omega
theorem Tok.num {t:af}(h:Tok t):t.num≤9223372036854775807:=by
 have:=aeb _ _ _ h.2.1;exact this
theorem Tok.pos{t:af}(h:Tok t):1≤(eB t).length:=(qa _ _ _ h.2.1).1
theorem Kv {n rk d:Nat}{ts:List af}{d':Nat}{ts':List af}(h:Wr n rk d ts d' ts'):ts.length≤ts'.length∧∀t∈ts,t∈ts':=by
 rcases h with ⟨_,rfl,_⟩|⟨_,_,l,r,_,_,rfl⟩
 · exact⟨ag _,fun _ h=>h⟩
 · exact⟨by simp;omega,fun t ht=>by simp[ht]⟩
theorem acN {m:Bool}{base:Nat}{ns:List Nd}{ks:List Int}{ts:List af}{rk d:Nat}(h:Sh m base ns ks ts rk d):(∀t∈ts,t.num≤9223372036854775807)→ns.length≤ts.length∧∀n∈ns,n.num≤9223372036854775807:=by
 induction h with
 | leaf base ts nd h =>
   intro ht;refine⟨by cases h <;> simp,fun n hn => ?_⟩;rw[List.mem_singleton.1 hn];cases h with
   | num t h=>exact ht t (by simp)
   | yes t h g=>show(1:Int)≤_;omega
   | _=>show(0:Int)≤_;omega
 | neg base ns a ts rk d h m hm d' ts' hw ih =>
   intro ht;obtain⟨w1,w2⟩:=Kv hw;obtain⟨g1,g2⟩:=ih fun t h=>ht t (List.mem_cons_of_mem _ (w2 t h))
   refine⟨by simp only[aj,aK,dY];omega,fun n hn => ?_⟩;rcases List.mem_append.1 hn with hn|hn
   · exact g2 n hn
   · rw[List.mem_singleton.1 hn];show(0:Int)≤_;omega
 | op base o ho ns ms a b ts us pY lY d1 d2 h g s hs e1 e2 ts' kN hw gw ih lV =>
   intro ht;obtain⟨w1,w2⟩:=Kv hw;obtain⟨x1,x2⟩:=Kv gw;obtain⟨g1,g2⟩:=ih fun t h=>ht t (List.mem_append_left _ (w2 t h))
   obtain⟨y1,y2⟩:=lV fun t h=>ht t (List.mem_append_right _ (List.mem_cons_of_mem _ (x2 t h)))
   refine⟨by simp only[aj,aK,dY];omega,fun n hn => ?_⟩;rcases List.mem_append.1 hn with hn|hn
   · exact g2 n hn
   rcases List.mem_append.1 hn with hn|hn
   · exact y2 n hn
   · rw[List.mem_singleton.1 hn];show(0:Int)≤_;omega
 | call base ns ks ts d h t l r =>
   rename_i ih
   intro ht;obtain⟨g1,g2⟩:=ih fun t h=>ht t (by simp[h])
   refine⟨by simp only[aj,aK,dY];omega,fun n hn => ?_⟩;rcases List.mem_append.1 hn with hn|hn
   · exact g2 n hn
   · rw[List.mem_singleton.1 hn];show(0:Int)≤_;omega
 | none base=>intro _;exact⟨ag _,fun n hn=>by cases hn⟩
 | one base ns a ts rk d h ih=>exact ih
 | and base ns ms ks b ts us rk d1 d2 h hk c hc g ih lV =>
   intro ht;obtain⟨g1,g2⟩:=ih fun t h=>ht t (List.mem_append_left _ h)
   obtain⟨y1,y2⟩:=lV fun t h=>ht t (List.mem_append_right _ (List.mem_cons_of_mem _ h))
   refine⟨by simp only[aj,aK];omega,fun n hn => ?_⟩;rcases List.mem_append.1 hn with hn|hn
   · exact g2 n hn
   · exact y2 n hn
theorem RD:∀ts:List af,(∀t∈ts,Tok t)→ts.length≤(iZ ts).length
 | [],_=>cu _
 | t :: ts,h=>by
   have ih:=RD ts fun u hu=>h u (List.mem_cons_of_mem _ hu)
   have h1:=(h t (by simp)).pos;rw[kz,aj,aK];omega
theorem RB:∀ts:List af,(∀t∈ts,Tok t)→Bytes (iZ ts)
 | [],_=>fun x hx=>by cases hx
 | t :: ts,h=>fun x hx=>by
   rw[kz]at hx;rcases List.mem_append.1 hx with hx|hx
   · exact(h t (by simp)).2.2 x hx
   · exact RB ts (fun u hu=>h u (List.mem_cons_of_mem _ hu)) x hx
theorem DJ (s:ByteArray)(ns:List Nd)(h:nE s (.ok ns)):(ns.length≤300∧0<ns.length∧dM ns=true)∧(∀n∈ns,n.num≤9223372036854775807)∧(gY ns).length≤s.size∧s.size≤300∧nE (strOfNums (gY ns)) (.ok ns):=by
 rcases h with ⟨_,h⟩|⟨_,_,h⟩|⟨h0,ts,f,h1,h2⟩
 · cases h
 · cases h
 · have hb:Bytes (sb s):=fun x hx=>uh s x hx
   have ht:=PZ h2 (Ey s ts h1).1;obtain⟨us,uY,d,a,g1,g2,g3,g4,g5⟩:=Ru hb h1 h2;rw[bC]at g4;obtain⟨k1,k2⟩:=acN g1 fun t h=>(g3 t h).num
   have k3:=RD us g3;obtain⟨p1,vs,g,p2,p3⟩:=aaK hb h1 h2 ht;rw[bC]at p1
   have hpos:0<ns.length:=by
    cases ns with
    | nil=>exact absurd ht (by decide)
    | cons n ns=>simp
   have hby:Bytes (gY ns):=by
    rw[JU g1 ht];exact RB us g3
   refine⟨⟨by omega,hpos,ht⟩,k2,p1,h0,.inr (.inr ⟨by rw[strOfNums_size];omega,vs,g,by rw[gK _ hby];exact p2,p3⟩)⟩
theorem LK (s:ByteArray)(ns:List Nd)(h:nE s (.ok ns)):∀n∈ns,n.text.size≤1000000∧n.ref.sh.size≤1000000∧n.ae.sh.size≤1000000:=by
 rcases h with ⟨_,h⟩|⟨_,_,h⟩|⟨h0,ts,f,h1,h2⟩
 · cases h
 · cases h
 · exact aat h2 (I1 1000000 _ _ _ _ (fun x hx=>uh s x hx) (by rw[bC];omega) h1)
theorem aaw (s:ByteArray)(w:World)(hx:Sx w)(ns:List Nd)(hp:nE s (.ok ns)) :
 Calls Tryz.prog 87 #[.string s] w fun e w'=>Below w.heap.size w w'∧∃g cap vs,e = .returned (.tuple #[.slice (some ⟨g,0,none⟩) ns.length cap,.int .i64 0])∧vs.map Prod.fst=ns∧jl w' w'.heap.size (.slice (some ⟨g,0,none⟩) ns.length cap) vs:=by
 refine(aav s w hx.vars hx.ops ns hp (DJ s ns hp).1.2.1).mono ?_;rintro e w' ⟨hb,g,cap,vs,he,h1,h2,h3, -⟩;exact⟨hb,g,cap,_,he,(Q7 vs).trans h1,h3.sn h2⟩
def dH{α : Type}(x:Option (Except Int α)):Prop:=∀c,x=some (.error c)→c=5∨c=6
theorem dH.non{α : Type}:dH (none:Option (Except Int α)):=fun c h=>by cases h
theorem dH.ok{α : Type}(v : α):dH (some (.ok v):Option (Except Int α)):=fun c h=>by injection h with h;cases h
theorem dH.e5{α : Type}:dH (some (.error 5):Option (Except Int α)):=fun c h=>by injection h with h;injection h with h;exact .inl h.symm
theorem dH.e6{α : Type}:dH (some (.error 6):Option (Except Int α)):=fun c h=>by injection h with h;injection h with h;exact .inr h.symm
theorem dH.ite{α : Type}{p:Prop} [Decidable p] {x y:Option (Except Int α)} (h:dH x) (g:dH y):dH (if p then x else y):=by split;exact h;exact g
theorem dH.bind {α β γ δ : Type}{x:Option (Except Int (α × β × γ))}{k : α → β → γ → Option (Except Int δ)}(h:dH x)(g:∀a b c,dH (k a b c)):dH (il x k):=fun c hc=>by
 rcases dQ hc with ⟨e,h1,h2⟩|⟨a,b,d,_,h2⟩
 · injection h2 with h2;subst h2;exact h c h1
 · exact g a b d c h2
theorem abo (base:Nat)(t:af)(ts:List af):dH (some (iP base t ts)):=by
 unfold iP;split
 · split
   · split
     · exact dH.ok _
     · exact dH.e5
   · exact dH.e5
 · exact dH.ok _
theorem MS:∀f:Nat,(∀n deep base ts,dH (eF f n deep base ts))∧(∀n deep base ns a ts,dH (rowP f n deep base ns a ts))∧(∀deep base ts,dH (iY f deep base ts))∧(∀deep base ns ks ts,dH (gy f deep base ns ks ts))
 | 0=>⟨fun _ _ _ _=>by unfold eF;exact dH.non,fun _ _ _ _ _ _=>by unfold rowP;exact dH.non,fun _ _ _=>by unfold iY;exact dH.non,fun _ _ _ _ _=>by unfold gy;exact dH.non⟩
 | f + 1 => by
   obtain⟨i1,i2,i3,i4⟩:=MS f;refine⟨fun n deep base ts => ?_,fun n deep base ns a ts => ?_,fun deep base ts => ?_,fun deep base ns ks ts => ?_⟩
   · rw[pG]
     exact dH.ite (dH.bind (i1 _ _ _ _) fun _ _ _=>i2 _ _ _ _ _ _) (dH.ite (dH.ite dH.e6 (dH.bind (i1 _ _ _ _) fun _ _ _=>dH.ok _)) (i3 _ _ _))
   · rw[ug]
     exact dH.ite (dH.ok _) (dH.bind (i1 _ _ _ _) fun _ _ _=>i2 _ _ _ _ _ _)
   · cases ts with
     | nil=>rw[y5];exact dH.e5
     | cons t ts =>
       rw[mG]
       repeat' first
        | exact dH.ok _
        | exact dH.e5
        | exact dH.e6
        | exact abo _ _ _
        | exact i1 _ _ _ _
        | exact i4 _ _ _ _ _
        | (apply dH.bind)
        | (apply dH.ite)
        | intro
   · rw[sJ]
     exact dH.bind (i1 _ _ _ _) fun _ _ _=>dH.ite (i4 _ _ _ _ _) (dH.ok _)
theorem LJ (s:ByteArray)(c:Int)(h:nE s (.error c)):c≠0:=by
 rcases h with ⟨_,h⟩|⟨_,_,h⟩|⟨_,ts,f,_,h⟩
 · injection h with h;omega
 · injection h with h;omega
 · unfold mF at h
   have:=dH.bind ((MS f).1 0 0 0 ts) (k:=fun ns _ r=>if uS r=0 then some (.ok ns)else some (.error 5)) (fun _ _ _=>dH.ite (dH.ok _) dH.e5) c h;omega
def AZ(w:World):Prop:=∃ev,w.cell? ⟨1,0,none⟩=some ev∧(ev = .nilIface∨∃te pe,ev = .iface te pe)
theorem AZ.below {w w':World}(h:AZ w)(hb:Below w.heap.size w w'):AZ w':=by
 obtain⟨ev,h1,h2⟩:=h;exact⟨ev,(hb.cell (show(⟨1,0,none⟩:Addr).block<w.heap.size from Lib.lt_of_cell h1)).trans h1,h2⟩
structure qO (w:World):Prop where
 sx:Sx w
 Rf:AZ w
theorem qO.below{w w':World}(h:qO w)(hb:Below w.heap.size w w'):qO w':=⟨h.sx.below hb,h.Rf.below hb⟩
theorem MB (c:Int)(_h0:0≤c)(_h1:c≤255)(w:World) :
 Calls Tryz.prog 103 #[.int .u8 c] w fun e w'=>e = .returned (.bool (isNum c))∧w=w':=by
 go_enter Tryz.func103,Tryz.ntmps103
 go_wp2
 all_goals go_ret
 all_goals exact⟨dD (by unfold isNum;first|rfl|(symm;rw[decide_eq_true_iff];omega)|(symm;rw[decide_eq_false_iff_not];omega)|(rw[decide_eq_decide];omega)),rfl⟩
theorem IU(s:ByteArray)(h:s.size=0):kd s=0:=by unfold kd;rw[rJ s h];rfl
theorem OL (s:ByteArray)(hp0:0<s.size)(a:Int)(ha:(s[0].toNat:Int)=a):kd s=if a=39 then 1 else if a=61 then 2 else if a=45∨isNum a=true then 3 else 4:=by
 have hga:(sb s).getD 0 0=a:=by rw[oN s 0 hp0,ha]
 have hl:(sb s).length=s.size:=bC s;unfold kd;cases h:sb s with
 | nil=>rw[h]at hl;simp at hl;omega
 | cons c l =>
   rw[h]at hga;have:c=a:=by simpa using hga
   subst this;rfl
theorem Yu (s:ByteArray)(_hs:s.size≤1000000)(w:World):Calls Tryz.prog 64 #[.string s] w fun e w'=>e = .returned (.int .i64 (kd s))∧w=w':=by
 by_cases h0:s.size=0
 · have hk:=IU s h0
   have hz:=rJ s h0;have HK:=aa hk;clear hk;obtain rfl:s=⟨#[]⟩:=by first|exact hz|(rw[← jU s,hz];rfl)
   clear h0 hz _hs;go_enter Tryz.func64,Tryz.ntmps64;go_wp2_with fail
   all_goals go_ret
   all_goals exact⟨by rw[HK.o];first|done|rfl,rfl⟩
 · have hne:=p8 s h0
   have hne2:s.toList.isEmpty=false:=by cases hq:s.toList with|nil=>exact absurd hq hne|cons a l=>rfl
   have hp0:0<s.size:=by omega
   obtain⟨a,ha⟩:∃a:Int,(s[0].toNat:Int)=a:=⟨_,rfl⟩;have ha1:0≤a∧a≤255:=by have:=s[0].toNat_lt;omega
   have hk:=OL s hp0 a ha;by_cases c1:a=39
   · rw[if_pos c1]at hk
     have HK:=aa hk;have e1:(a == 39)=true:=beq_iff_eq.2 c1;clear hk c1 h0;go_enter Tryz.func64,Tryz.ntmps64;go_wp2_with fail
     all_goals go_ret
     all_goals exact⟨by rw[HK.o];first|done|rfl,rfl⟩
   rw[if_neg c1]at hk;have e1:(a == 39)=false:=beq_eq_false_iff_ne.2 c1;by_cases c2:a=61
   · rw[if_pos c2]at hk
     have HK:=aa hk;have e2:(a == 61)=true:=beq_iff_eq.2 c2;clear hk c1 c2 h0;go_enter Tryz.func64,Tryz.ntmps64;go_wp2_with fail
     all_goals go_ret
     all_goals exact⟨by rw[HK.o];first|done|rfl,rfl⟩
   rw[if_neg c2]at hk;have e2:(a == 61)=false:=beq_eq_false_iff_ne.2 c2;by_cases c3:a=45
   · rw[if_pos (Or.inl c3)]at hk
     have HK:=aa hk;have e3:(a == 45)=true:=beq_iff_eq.2 c3;clear hk c1 c2 c3 h0;go_enter Tryz.func64,Tryz.ntmps64;go_wp2_with fail
     all_goals go_ret
     all_goals exact⟨by rw[HK.o];first|done|rfl,rfl⟩
   have e3:(a == 45)=false:=beq_eq_false_iff_ne.2 c3;cases c4:isNum a with
   | true =>
     rw[if_pos (Or.inr c4)]at hk;have HK:=aa hk;clear hk c1 c2 c3 h0;go_enter Tryz.func64,Tryz.ntmps64;go_wp2_with (go_at_call 103;((with_reducible refine(MB _ ?_ ?_ _).mono ?_);(first|omega|skip);(first|omega|skip);rintro e w' ⟨rfl,rfl⟩))
     all_goals go_ret
     all_goals exact⟨by rw[HK.o];first|done|rfl,rfl⟩
   | false =>
     rw[if_neg (by rw[c4];simp;exact c3)]at hk;have HK:=aa hk;clear hk c1 c2 c3 h0;go_enter Tryz.func64,Tryz.ntmps64;go_wp2_with (go_at_call 103;((with_reducible refine(MB _ ?_ ?_ _).mono ?_);(first|omega|skip);(first|omega|skip);rintro e w' ⟨rfl,rfl⟩))
     all_goals go_ret
     all_goals exact⟨by rw[HK.o];first|done|rfl,rfl⟩
theorem Et(s:ByteArray)(_hs:s.size≤1000000)(k:Int)(hk:kd s=k)(w:World):Calls Tryz.prog 64 #[.string s] w fun e w'=>e = .returned (.int .i64 k)∧w=w':=hk ▸ Yu s _hs w
theorem zQ{B:Nat}{w w':World}(h:Below B w w'):Below B w w'.drew:=⟨h.os,h.tape,h.output,h.size,h.block⟩
def BH(s:ByteArray)(n:Int):Prop:=∀v,mh s=some v→n=v
theorem BH.no{s:ByteArray}(h:mh s=none)(n:Int):BH s n:=fun u hu=>by rw[h]at hu;cases hu
theorem aeL (s:ByteArray)(_hs:s.size≤1000000)(w:World)(hx:qO w):Calls Tryz.prog 104 #[.string s] w fun e w'=>∃n,e = .returned (.tuple #[.int .i64 n,.bool (mh s).isSome])∧BH s n∧Below w.heap.size w w':=by
 cases h:Lib.atoiAll s.data.toList with
 | ok v =>
   have HA:=aa (Mc s _hs v h w);have HO:=aa (L9 h);clear h hx;go_enter Tryz.func104,Tryz.ntmps104;go_wp2_with (go_at_call 138;((with_reducible refine HA.o.mono ?_);rintro e w1 ⟨rfl,hb⟩;have HB:=aa hb;clear hb))
   go_region
   all_goals go_wp2_with fail
   all_goals go_ret2
   all_goals exact⟨v,by rw[HO.o];rfl,fun u hu=>by rw[HO.o]at hu;exact dX hu,zQ HB.o⟩
 | range =>
   obtain⟨ev,h1,h2⟩:=hx.sx.vars.err;have HA:=aa (Tryz.strconv_Atoi_range s (by omega) h ev w h1 h2);have HO:=aa (show mh s=none by unfold mh;rw[h]);clear h hx h1 h2;go_enter Tryz.func104,Tryz.ntmps104;go_wp2_with (go_at_call 138;((with_reducible refine HA.o.mono ?_);rintro e w1 ⟨N,rfl, -, -,hb⟩;have HB:=aa hb;clear hb))
   go_region
   all_goals go_wp2_with fail
   all_goals go_ret2
   all_goals exact⟨_,by rw[HO.o];rfl,BH.no HO.o _,zQ HB.o⟩
 | _ =>
   obtain⟨ev,h1,h2⟩:=hx.Rf;have HA:=aa (Tryz.strconv_Atoi_syntax s (by omega) _ h trivial ev w h1 h2);have HO:=aa (show mh s=none by unfold mh;rw[h]);clear h hx h1 h2;go_enter Tryz.func104,Tryz.ntmps104;go_wp2_with (go_at_call 138;((with_reducible refine HA.o.mono ?_);rintro e w1 ⟨N,rfl, -, -,hb⟩;have HB:=aa hb;clear hb))
   go_region
   all_goals go_wp2_with fail
   all_goals go_ret2
   all_goals exact⟨_,by rw[HO.o];rfl,BH.no HO.o _,zQ HB.o⟩
theorem aeM (s:ByteArray)(_hs:s.size≤1000000)(v:Int)(h:mh s=some v)(w:World)(hx:qO w):Calls Tryz.prog 104 #[.string s] w fun e w'=>e = .returned (.tuple #[.int .i64 v,.bool true])∧Below w.heap.size w w':=by
 refine(aeL s _hs w hx).mono ?_;rintro e w' ⟨n,rfl,h1,h2⟩;exact⟨by rw[h1 v h,h];rfl,h2⟩
theorem aaL (s:ByteArray)(ns:List Nd)(hp:nE s (.ok ns))(w1 wr:World)(hx:Sx wr)(v:Value)(l:List (Nd × Value))(hm:l.map Prod.fst=ns)(hs:jl w1 w1.heap.size v l)(hr:Below w1.heap.size w1 wr) :
 Calls Tryz.prog 59 #[v] wr fun e w'=>e = .returned (.string (strOfNums (gY ns)))∧Below wr.heap.size wr w':=by
 obtain⟨⟨Xn,hpos,IA⟩,bE,hpl,XI,hp2⟩:=DJ s ns hp;have hsz:=LK s ns hp;have hl:l.length=ns.length:=by rw[← hm,dN]
 have:=hx.aaJ v l (hs.lift hr hr.size) ⟨by omega,fun p hp=>hsz p.1 (by rw[← hm];exact List.mem_map_of_mem hp)⟩ (fun p hp=>bE p.1 (by rw[← hm];exact List.mem_map_of_mem hp)) (by rw[show l.map (·.1)=ns from hm];omega) (by rw[show l.map (·.1)=ns from hm];exact IA);rwa[show l.map (·.1)=ns from hm]at this
def yS:ByteArray:=⟨#[61]⟩
def Cs:ByteArray:=⟨#[39]⟩
inductive mU (s:ByteArray):ByteArray→Int→Prop
 | large (h:100<s.size):mU s ⟨#[]⟩ 4
 | stays (h:s.size≤100)(hk:kd s=0∨kd s=1):mU s s 0
 | form (h:s.size≤100)(hk:kd s=2)(r:ByteArray)(hr:s.extract 1 s.size=r)(ns:List Nd)(hp:nE r (.ok ns))(t:ByteArray)(ht:yS++strOfNums (gY ns)=t):mU s t 0
 | bad (h:s.size≤100)(hk:kd s=2)(r:ByteArray)(hr:s.extract 1 s.size=r)(c:Int)(hp:nE r (.error c)):mU s ⟨#[]⟩ c
 | num (h:s.size≤100)(hk:kd s=3)(n:Int)(ha:mh s=some n):mU s (strOfNums (kZ n)) 0
 | text (h:s.size+1≤100)(hk:kd s=4∨(kd s=3∧mh s=none))(t:ByteArray)(ht:Cs++s=t):mU s t 0
 | long (h:s.size≤100)(h2:¬ s.size+1≤100)(hk:kd s=4∨(kd s=3∧mh s=none)):mU s ⟨#[]⟩ 4
theorem Ye (s:ByteArray)(h:kd s≠0):1≤s.size:=by
 rcases Nat.eq_zero_or_pos s.size with h0|h0
 · exact absurd (IU s h0) h
 · exact h0
theorem Jd (mk s t:ByteArray)(hm:mk.size=1)(ht:mk++s=t):t.extract 1 t.size=s:=by
 subst ht;rw[ByteArray.extract_append,hm,ByteArray.size_append,hm];rw[show mk.extract 1 (1+s.size)=ByteArray.empty from ByteArray.extract_eq_empty_iff.2 (by omega)];rw[ByteArray.empty_append,show 1+s.size - 1=s.size by omega];exact ByteArray.extract_zero_size
theorem mU.first {t:ByteArray}(h:mU t t 0):t.size≤100∧kd t≤3:=by
 generalize hu:t=u at h;generalize he:(0:Int)=e at h;cases h with
 | large h=>omega
 | stays h hk=>exact⟨by omega,by rcases hk with hk|hk <;> omega⟩
 | form h hk r hr ns hp t ht=>exact⟨h,by omega⟩
 | bad h hk r hr c hp=>exact absurd he.symm (LJ r _ hp)
 | num h hk n ha=>exact⟨h,by omega⟩
 | text h hk t ht =>
   exfalso;have:(Cs++u).size=u.size:=by rw[ht]
   rw[ByteArray.size_append]at this;have:Cs.size=1:=rfl;omega
 | long h h2 hk=>omega
theorem Wl (t p:ByteArray)(hs:t.size≤300)(h1:1≤t.size)(hk:kd t=2)(hr:t.extract 1 t.size=p)(ns:List Nd)(hp:nE p (.ok ns))(pJ:strOfNums (gY ns)=p)(w:World)(hx:qO w) :
 Calls Tryz.prog 58 #[.string t] w fun e w'=>(∃v,e = .returned (.tuple #[v,.bool true]))∧Below w.heap.size w w':=by
 have HA:=aa (aaw p w hx.sx ns hp);have Gr:=aa (fun (w1:World)(h1:Below w.heap.size w w1)(v:Value)(l:List (Nd × Value))(hm:l.map Prod.fst=ns)(hs:jl w1 w1.heap.size v l)=>(show Calls Tryz.prog 59 #[v] w1.drew fun e w'=>e = .returned (.string p)∧Below w1.drew.heap.size w1.drew w' from pJ ▸ aaL p ns hp w1 w1.drew (hx.sx.below (zQ h1)) v l hm hs (zQ (ai _ _))));have HK:=aa (Et t (by omega) _ hk w);have hi1:(1:Int)≤(t.size:Int):=by omega
 have hi:¬ (300:Int)<(t.size:Int):=by omega
 obtain⟨L,hL⟩:∃L,ns.length=L:=⟨_,rfl⟩;rw[hL]at HA;clear hp pJ hL hx hs hk;go_enter Tryz.func58,Tryz.ntmps58
 go_wp2_with (first
  | (go_at_call 64;((with_reducible refine HK.o.mono ?_);rintro e w1 ⟨rfl,rfl⟩))
  | (go_at_call 87;((with_reducible refine HA.o.mono ?_);rintro e w1 ⟨hb,g1,fe,l1,rfl,hm1,hs1⟩;have HB1:=aa hb;have bJ:=aa (Gr.o w1 hb _ l1 hm1 hs1);clear hb hm1 hs1)))
 go_region_held3 (fun _=>True) (trivial) (first
  | (go_at_call 59;((with_reducible refine bJ.o.mono ?_);rintro e w2 ⟨rfl,h1⟩;have HB2:=aa ((zQ HB1.o).trans (h1.mono HB1.o.size));clear h1)))
 all_goals go_wp2_with fail
 all_goals go_ret2
 all_goals exact⟨⟨_,rfl⟩,HB2.o⟩
theorem VG (t:ByteArray)(hs:t.size≤300)(n:Int)(ha:mh t=some n)(ht:strOfNums (kZ n)=t)(w:World)(hx:qO w) :
 Calls Tryz.prog 65 #[.string t] w fun e w'=>e = .returned (.tuple #[.int .i64 n,.bool true])∧Below w.heap.size w w':=by
 have HW:=aa (aeM t (by omega) n ha w hx);have hbd:=Us ha;have HI:=aa (fun (w1:World)(hb:Below w.heap.size w w1)=>(show Calls Tryz.prog 105 #[.int .i64 n] w1 fun e w'=>e = .returned (.string t)∧Below w1.heap.size w1 w' from ht ▸ X9 n hbd.1 hbd.2 w1 (hx.sx.tab.below hb)));clear hx ha hbd ht hs;go_enter Tryz.func65,Tryz.ntmps65
 go_wp2_with (first
  | (go_at_call 104;((with_reducible refine HW.o.mono ?_);rintro e w2 ⟨rfl,hb⟩;have HB:=aa hb;clear hb))
  | (go_at_call 105;((with_reducible refine(HI.o _ HB.o).mono ?_);rintro e w3 ⟨rfl,hb⟩;have HB3:=aa (HB.o.trans (hb.mono HB.o.size));clear hb)))
 go_ret2
 exact⟨by rfl,HB3.o⟩
theorem mU.kinds {t:ByteArray}(h:mU t t 0):(kd t=0∨kd t=1)∨(kd t=2∧∃p ns,t.extract 1 t.size=p∧nE p (.ok ns)∧strOfNums (gY ns)=p)∨(kd t=3∧∃n,mh t=some n∧strOfNums (kZ n)=t):=by
 generalize hu:t=u at h;generalize he:(0:Int)=e at h;cases h with
 | large h=>omega
 | stays h hk=>exact .inl hk
 | form h hk r hr ns hp t' ht =>
   have hp2:=(DJ r ns hp).2.2.2.2;exact .inr (.inl ⟨hk,_,ns,Jd yS _ _ rfl ht,hp2,rfl⟩)
 | bad h hk r hr c hp=>exact absurd he.symm (LJ r _ hp)
 | num h hk n ha=>exact .inr (.inr ⟨hk,n,ha,rfl⟩)
 | text h hk t' ht =>
   exfalso;have:(Cs++u).size=u.size:=by rw[ht]
   rw[ByteArray.size_append]at this;have:Cs.size=1:=rfl;omega
 | long h h2 hk=>omega
theorem Jc (t:ByteArray)(h:mU t t 0)(w:World)(hx:qO w) :
 Calls Tryz.prog 37 #[.string t] w fun e w'=>e = .returned (.bool true)∧Below w.heap.size w w':=by
 have hsz:=h.first.1;have hs:t.size≤1000000:=by omega
 have hi:¬ (300:Int)<(t.size:Int):=by omega
 rcases h.kinds with hk|⟨hk,p,ns,hr,hp,pJ⟩|⟨hk,n,ha,ht⟩
 · rcases hk with hk|hk
   all_goals
    have HK:=aa (Et t hs _ hk w);clear h hk hx hs hsz;go_enter Tryz.func37,Tryz.ntmps37;go_wp2_with (go_at_call 64;((with_reducible refine HK.o.mono ?_);rintro e w1 ⟨rfl,rfl⟩))
    go_ret;exact⟨rfl,ai _ _⟩
 · have HK:=aa (Et t hs _ hk w)
   have HF:=aa (Wl t p (by omega) (Ye t (by omega)) hk hr ns hp pJ w hx);clear h hk hx hs hsz hp pJ hr;go_enter Tryz.func37,Tryz.ntmps37
   go_wp2_with (first
    | (go_at_call 64;((with_reducible refine HK.o.mono ?_);rintro e w1 ⟨rfl,rfl⟩))
    | (go_at_call 58;((with_reducible refine HF.o.mono ?_);rintro e w1 ⟨⟨v,rfl⟩,hb⟩;have HB:=aa hb;clear hb)))
   go_ret;exact⟨rfl,HB.o⟩
 · have HK:=aa (Et t hs _ hk w)
   have HF:=aa (VG t (by omega) n ha ht w hx);clear h hk hx hs hsz ha ht;go_enter Tryz.func37,Tryz.ntmps37
   go_wp2_with (first
    | (go_at_call 64;((with_reducible refine HK.o.mono ?_);rintro e w1 ⟨rfl,rfl⟩))
    | (go_at_call 65;((with_reducible refine HF.o.mono ?_);rintro e w1 ⟨rfl,hb⟩;have HB:=aa hb;clear hb)))
   go_ret;exact⟨rfl,HB.o⟩
theorem Z4 (z:Nat)(n:Int)(h0 : -9223372036854775808≤n)(h1:n≤9223372036854775807)(hz:z<20):(strOfNums (nS z n)).size≤40:=by
 rw[strOfNums_size];have:=D9 18 n.natAbs (by omega);unfold nS;split
 · rw[aK,aj,List.length_replicate];omega
 · rw[aj,List.length_replicate];omega
theorem ZW (z:Nat)(n:Int)(h0 : -9223372036854775808≤n)(h1:n≤9223372036854775807)(hz:z<20):mU (strOfNums (nS z n)) (strOfNums (kZ n)) 0:=by
 have:=Z4 z n h0 h1 hz;exact .num (by omega) (Yd z n) n (Uu z n h0 h1)
def IV:List Int→Bool
 | []=>true
 | c :: r =>
   if c=39 then true
   else if c=61 then match fG r with
    | none=>false
    | some ts=>match mF 200 ts with
      | some (.ok ns)=>decide (gY ns=r)
      | _=>false
   else decide (r=[]∧48≤c∧c≤57)
theorem Yl (c:Int)(r:List Int):IV (c :: r)=if c=39 then true else if c=61 then (match fG r with
 | none=>false
 | some ts=>match mF 200 ts with
   | some (.ok ns)=>decide (gY ns=r)
   | _=>false)else decide (r=[]∧48≤c∧c≤57):=rfl
theorem aex:∀n:Nat,n<256→IV (bY n)=true:=by decide +kernel
theorem aev:∀n:Nat,n<256→((bY n).all (fun x=>decide (0≤x∧x≤255))&&decide ((bY n).length≤30))=true:=by decide +kernel
theorem FB (n:Nat)(h:n<256):Bytes (bY n)∧(bY n).length≤30:=by
 have h1:=aev n h;rw[dE,List.all_eq_true,decide_eq_true_iff]at h1;exact⟨fun x hx=>of_decide_eq_true (h1.1 x hx),h1.2⟩
theorem OM (l:List Int)(hb:Bytes l)(hl:l.length≤90)(h:IV l=true):mU (strOfNums l) (strOfNums l) 0:=by
 have hz:(strOfNums l).size≤100:=by rw[strOfNums_size];omega
 have hk:kd (strOfNums l)=Ad l:=by unfold kd;rw[gK l hb]
 cases l with
 | nil=>exact .stays hz (.inl (hk.trans rfl))
 | cons c r =>
   rw[Yl]at h;rw[IQ]at hk;by_cases yx:c=39
   · rw[if_pos yx]at hk
     exact .stays hz (.inr hk)
   rw[if_neg yx]at h hk;have hr:Bytes r:=fun x hx=>hb x (List.mem_cons_of_mem _ hx)
   by_cases zV:c=61
   · subst zV
     rw[if_pos rfl]at h hk;have vO:∀q:List Int,yS++strOfNums q=strOfNums (61 :: q):=fun q=>gq [61] q
     split at h
     · cases h
     · rename_i ts hlx
       split at h
       · rename_i ns hp
         have hpr:gY ns=r:=of_decide_eq_true h;refine .form hz hk (strOfNums r) (Jd yS (strOfNums r) _ rfl (vO r)) ns ?_ _ (by rw[hpr,vO]);exact .inr (.inr ⟨by rw[strOfNums_size]at hz ⊢;rw[aK]at hz;omega,ts,200,by rw[gK r hr];exact hlx,hp⟩)
       · cases h
   · rw [if_neg zV]at h
     obtain⟨rfl,h0,h9⟩:=of_decide_eq_true h;have:=ZW 0 (c - 48) (by omega) (by omega) (by omega)
     have e:kZ (c - 48)=[c]:=by
      unfold kZ;rw[if_neg (by omega),lg _ (by omega)];congr 1;omega
     rw[Z0,e]at this;exact this
theorem aey (n:Nat)(h:n<256):mU (strOfNums (bY n)) (strOfNums (bY n)) 0 :=
 OM _ (FB n h).1 (by have:=(FB n h).2;omega) (aex n h)
def zK(t:ByteArray):Prop:=mU t t 0∧t.size≤100
theorem Pp:zK ⟨#[]⟩:=⟨.stays (by decide) (.inl (by decide)),by decide⟩
theorem Jb(n:Nat)(h:n<256):zK (strOfNums (bY n)):=⟨aey n h,by rw[strOfNums_size];have:=(FB n h).2;omega⟩
theorem Ve (ns:List Int)(hb:Bytes ns)(k:Nat):zK (cellS ns k):=by
 unfold cellS;cases h:ns[k]? with
 | none=>exact Pp
 | some x =>
   have:=hb x (dz h);exact Jb _ (by omega)
theorem abL:Tryz.f10.results=#[.cell 4 26]:=by kernel_rfl
structure uy (w0 w:World)(xs:List Int)(m L i p:Nat)(bv:Value)(ah:List ak):Prop where
 bk:iU w (w0.heap.size+2) bv ah
 o:aY w w0.heap.size (.slice none 0 0)
 cur:aY w (w0.heap.size+1) bv
 fV:Below w0.heap.size w0 w
 vW:bF ah=(oC xs m).take i
 pos:p=min (i*(iA m*gz m)) L
theorem uy.nil (w:World)(xs:List Int)(m L:Nat):∃w2,(w.alloc (.cells #[.slice none 0 0] 26)).alloc (.cells #[.slice none 0 0] 26)=w2∧uy w w2 xs m L 0 0 (.slice none 0 0) []∧w2.heap.size=w.heap.size+2:=by
 obtain⟨w2,h1,h2,h3,h4,h5⟩:=Fy w (.slice none 0 0) (.slice none 0 0);exact⟨w2,h1,⟨iU.nil _ _,h3,h4,h2,rfl,by simp⟩,h5⟩
theorem uy.next {w0 w w':World}{xs:List Int}{m L i p:Nat}{bv:Value}{ah:List ak}(h:uy w0 w xs m L i p bv ah)(hb:Below w.heap.size w w'):uy w0 w' xs m L i p bv ah :=
 ⟨h.bk.next hb,h.o.over hb,h.cur.over hb,h.fV.trans (hb.mono h.fV.size),h.vW,h.pos⟩
theorem own_ne {α : Type}{k:Nat}{E:Enc α k}{e:TypeId}{w:World}{lo g:Nat}{v:Value}{xs:List α}(h:Own E e w lo v xs)(hg:g<lo):Option.some g≠v.ownBlock:=by
 intro hv;have:=(h.lies hv.symm).1;omega
theorem uy.push {w0 wa wb:World}{xs:List Int}{m L i p p':Nat}{bv v':Value}{ah:List ak}{s:ak}(h:uy w0 wa xs m L i p bv ah)(hs:iH wa (w0.heap.size+2) s.rv s.rows)(ho:Own nO 73 wb (w0.heap.size+2) v' (ah++[s]))(hg:wa.grownBy wb bv.ownBlock)
 (hp:s.p=wu xs m i (iA m) (gz m)) (hi:i<kK m) (hp':p'=min ((i+1)*(iA m*gz m)) L):uy w0 (wb.setCell ⟨w0.heap.size+1,0,none⟩ v') xs m L (i+1) p' v' (ah++[s]):=by
 have h1:=h.bk.push hs ho hg;have hc:=h.cur.lt;have ho2:=h.o.lt;have jr:aY wb (w0.heap.size+1) bv:=by unfold aY;rw[hg.block _ hc (own_ne h.bk.1 (by omega))];exact h.cur
 have hout:aY wb w0.heap.size (.slice none 0 0):=by unfold aY;rw[hg.block _ ho2 (own_ne h.bk.1 (by omega))];exact h.o
 refine⟨h1.keep fun g h2 _=>heap_setCell_other wb _ g _ (by show g≠w0.heap.size+1;omega),hout.other _ _ (by show w0.heap.size≠w0.heap.size+1;omega),jr.put v', ?_, ?_,hp'⟩
 · exact(h.fV.grown hg h.fV.size fun g e=>by have:=(h.bk.1.lies e).1;omega).setCell (by show w0.heap.size≤w0.heap.size+1;omega) _
 · have h2:=h.vW
   unfold bF at h2 ⊢;rw[iE,h2,List.take_add_one];congr 1
   have:(oC xs m)[i]? = some (wu xs m i (iA m) (gz m)):=by
    unfold oC;rw[iD,List.getElem?_range hi];rfl
   rw[this, ← hp];rfl
structure yg (w1 w:World)(y:Nat)(nm:ByteArray)(xs:List Int)(R C k0 r:Nat)(wh:Value)(rows:List aN):Prop where
 sh:ShAt w y nm (C:Int) wh
 rw:iH w (y+1) wh rows
 fV:Below y w1 w
 vW:dI rows=(nV xs R C k0).take r
theorem yg.next {w1 w w':World}{y:Nat}{nm:ByteArray}{xs:List Int}{R C k0 r:Nat}{wh:Value}{rows:List aN}(h:yg w1 w y nm xs R C k0 r wh rows)(hb:Below w.heap.size w w'):yg w1 w' y nm xs R C k0 r wh rows :=
 ⟨h.sh.over hb,h.rw.next hb,h.fV.trans (hb.mono (Nat.le_of_lt h.sh.lt)),h.vW⟩
theorem yg.push {w1 wa wb:World}{y:Nat}{nm:ByteArray}{xs:List Int}{R C k0 r:Nat}{wh v':Value}{rows:List aN}{rv:aN}(h:yg w1 wa y nm xs R C k0 r wh rows)(hrow:Own fE 9 wa (y+1) rv.v rv.l)(ho:Own nN 56 wb (y+1) v' (rows++[rv]))(hg:wa.grownBy wb wh.ownBlock)
 (hl:rv.l=jG xs C (k0+r*C)) (hr:r<R):yg w1 (wb.setCell ⟨y,2,none⟩ v') y nm xs R C k0 (r+1) v' (rows++[rv]):=by
 have h1:=h.rw.push hrow ho hg;have hsh:ShAt wb y nm (C:Int) wh:=by unfold ShAt;rw[hg.block _ h.sh.lt (own_ne h.rw.1 (by omega))];exact h.sh
 refine⟨hsh.qH v',h1.keep fun g h2 _=>heap_setCell_other wb _ g _ (by show g≠y;omega), ?_, ?_⟩
 · exact(h.fV.grown hg (Nat.le_of_lt h.sh.lt) fun g e=>by have:=(h.rw.1.lies e).1;omega).setCell (ag y) _
 · have h2:=h.vW
   unfold dI at h2 ⊢;rw[iE,h2,List.take_add_one];congr 1
   have:(nV xs R C k0)[r]? = some (jG xs C (k0+r*C)):=by
    unfold nV;rw[iD,List.getElem?_range hr];rfl
   rw[this, ← hl];rfl
theorem Mm (w:World)(A:Option Addr)(L cap:Nat)(xs:List Int)(hs:S8 w w.heap.size A L cap xs)(hn:L≤80)(m:Nat)(hm:m<256) :
 Calls Tryz.prog 10 #[.slice A L cap,.int .u8 (m:Int)] w fun e w'=>Below w.heap.size w w'∧∃A' c' ah,e = .returned (.agg #[.slice A' (kK m) c'])∧bF ah=oC xs m∧eH w' w'.heap.size (.slice A' (kK m) c') ah:=by
 have HS:=aa hs;clear hs;obtain⟨s0,hs0⟩:∃r,m % 3=r:=⟨_,rfl⟩;have qs:(m:Int) % 3=(s0:Int):=by omega
 have ts:(m:Int).tmod 3=(s0:Int):=by rw[ja (by omega)];exact qs
 have ws:IntKind.i64.wrap (s0:Int)=(s0:Int):=by rw[dK];omega
 have bs:s0≤2:=by omega
 obtain⟨d4,hd4⟩:∃r,m / 64=r:=⟨_,rfl⟩;have q4:(m:Int) / 64=(d4:Int):=by omega
 have t4:(m:Int).tdiv 64=(d4:Int):=by rw[Int.tdiv_eq_ediv_of_nonneg (by omega)];exact q4
 have w4:IntKind.i64.wrap (d4:Int)=(d4:Int):=by rw[dK];omega
 have b4:d4≤3:=by omega
 obtain⟨d3,hd3⟩:∃r,m / 3=r:=⟨_,rfl⟩;have q3:(m:Int) / 3=(d3:Int):=by omega
 have t3:(m:Int).tdiv 3=(d3:Int):=by rw[Int.tdiv_eq_ediv_of_nonneg (by omega)];exact q3
 have w3:IntKind.i64.wrap (d3:Int)=(d3:Int):=by rw[dK];omega
 obtain⟨c0,hc0⟩:∃r,d3 % 4=r:=⟨_,rfl⟩;have aaX:(d3:Int) % 4=(c0:Int):=by omega
 have tc:(d3:Int).tmod 4=(c0:Int):=by rw[ja (by omega)];exact aaX
 have wc:IntKind.i64.wrap (c0:Int)=(c0:Int):=by rw[dK];omega
 have bc:c0≤3:=by omega
 obtain⟨d12,Nz⟩:∃r,m / 12=r:=⟨_,rfl⟩;have Ju:(m:Int) / 12=(d12:Int):=by omega
 have t12:(m:Int).tdiv 12=(d12:Int):=by rw[Int.tdiv_eq_ediv_of_nonneg (by omega)];exact Ju
 have w12:IntKind.i64.wrap (d12:Int)=(d12:Int):=by rw[dK];omega
 obtain⟨r0,hr0⟩:∃r,d12 % 5=r:=⟨_,rfl⟩;have qr:(d12:Int) % 5=(r0:Int):=by omega
 have tr:(d12:Int).tmod 5=(r0:Int):=by rw[ja (by omega)];exact qr
 have wr0:IntKind.i64.wrap (r0:Int)=(r0:Int):=by rw[dK];omega
 have br:r0≤4:=by omega
 have hS:kK m=1+s0:=by unfold kK;rw[hs0]
 have hC:gz m=1+c0:=by unfold gz;rw[hd3,hc0]
 have hR:iA m=1+r0:=by unfold iA;rw[Nz,hr0]
 obtain⟨S,Nl⟩:∃S,1+s0=S:=⟨_,rfl⟩;obtain⟨C,Nf⟩:∃C,1+c0=C:=⟨_,rfl⟩;obtain⟨R,hRl⟩:∃R,1+r0=R:=⟨_,rfl⟩;rw[Nl]at hS;rw[Nf]at hC;rw[hRl]at hR;have eS:(1:Int)+(s0:Int)=(S:Int):=by omega
 have eC:(1:Int)+(c0:Int)=(C:Int):=by omega
 have eR:(1:Int)+(r0:Int)=(R:Int):=by omega
 have hS3:S≤3:=by omega
 have BO:C≤4∧1≤C:=by omega
 have hR5:R≤5∧1≤R:=by omega
 clear Nl Nf hRl;have Dx:=aa hS;have FR:=aa hC;have HRR:=aa hR;have HD4:=aa hd4;clear hs0 hd4 hd3 hc0 Nz hr0 hS hC hR;obtain⟨w2,hw2,hI,hsz⟩:=uy.nil w xs m L;have HI:=aa hI;have jZ:=aa hsz;clear hI hsz;go_enter Tryz.func10,Tryz.ntmps10;go_upto_region 4 with (fail)
 clear hw2
 go_loopw [6,7] (fun pF iv wr=>∃(i p:Nat)(bv:Value)(ah:List ak),i≤S∧pF = .int .i64 (p:Int)∧iv = .int .i64 (i:Int)∧p≤L∧Hid (uy w wr xs m L i p bv ah))
  (fun _ iv _=>S - (intOf iv).toNat)
 case atStart=>exact⟨0,0,_,_,cu _,rfl,rfl,cu _,HI⟩
 case round =>
  obtain⟨i,p,bv,ah,hi,rfl,rfl,Eh,HB⟩:=hrel;by_cases hlt:i<S
  · have hii : (i:Int)<(S:Int):=by omega
    obtain⟨RX,cb,rfl⟩:=vV HB.o.bk.1;have hi2:i≤2:=by omega
    have XE:d4*i≤3*2:=Nat.mul_le_mul b4 hi2;obtain⟨pr,hpr⟩:∃pr,d4*i=pr:=⟨_,rfl⟩;rw[hpr]at XE;have hmul:(d4:Int)*(i:Int)=(pr:Int):=by rw[← hpr];exact(Int.natCast_mul d4 i).symm
    have hcv:=fun w=>xx w 5 (65+(i:Int)+(pr:Int))
    have hnm:strOfNums [65+(i:Int)+(pr:Int)]=ng m i:=by
     unfold ng xh;rw[HD4.o,hpr];congr 2;omega
    obtain⟨nm,Eg⟩:∃nm,strOfNums [65+(i:Int)+(pr:Int)]=nm:=⟨_,rfl⟩;have qW:=aa (Eg.symm.trans hnm);clear hnm;go_upto_region 7 with (fail)
    have KJ:=aa ((ai wr.heap.size wr).alloc (ag _) (.cells #[.int .u8 (65+(i:Int)+(pr:Int))] 5));have hz1:=kD wr (.cells #[.int .u8 (65+(i:Int)+(pr:Int))] 5);obtain⟨wa,uR⟩:∃wa,wr.alloc (.cells #[.int .u8 (65+(i:Int)+(pr:Int))] 5)=wa:=⟨_,rfl⟩;rw[uR]at KJ hz1 ⊢;clear uR hcv hmul;have kI:=aa (ShAt.new wa nm (C:Int) (.slice none 0 0));have FO:=aa (nJ wa nm (C:Int) (.slice none 0 0));obtain⟨y,hy⟩:∃y,wr.heap.size+1=y:=⟨_,rfl⟩;rw[hy]at hz1;rw[hz1]at kI FO;rw[hy];obtain⟨w1,hw1⟩:∃w1,wa.alloc (.cells #[.string nm,.int .i64 (C:Int),.slice none 0 0] 73)=w1:=⟨_,rfl⟩;rw[hw1]at kI FO ⊢;clear hw1;have fB:=aa hy;have HZ1:=aa hz1;have KL:=aa (KJ.o.trans (FO.o.mono (by omega)));obtain⟨k0,hk0⟩:∃k0,i*(R*C)=k0:=⟨_,rfl⟩;have Gj:=aa (show p=min k0 L from by rw[← hk0,HB.o.pos,HRR.o,FR.o]);have KW:=aa hk0;clear hk0 hz1 hy;go_upto_region 8 with (fail)
    go_loopw [6,9] (fun pF rv wx=>∃(r p:Nat)(A1:Option Addr)(n1 c1:Nat)(rows:List aN),r≤R∧pF = .int .i64 (p:Int)∧rv = .int .i64 (r:Int)∧p≤L∧Hid (p=min (k0+r*C) L)∧Hid (rows.length=n1)∧Hid (yg w1 wx y nm xs R C k0 r (.slice A1 n1 c1) rows))
     (fun _ rv _=>R - (intOf rv).toNat)
    case atStart=>exact⟨0,p,none,0,0,[],cu _,rfl,rfl,Eh,aa (by rw[Nat.zero_mul,Nat.add_zero];exact Gj.o),aa rfl,aa ⟨kI.o,iH.nil _ _,ai _ _,rfl⟩⟩
    case round =>
     obtain⟨r,p,A1,n1,c1,rows,hrR,rfl,rfl,Eh,Gp,fT,qo⟩:=hrel;by_cases hrt:r<R
     · have tK:(r:Int)<(R:Int):=by omega
       obtain⟨x0,x1,x2⟩:=qo.o.sh.cells;have hmk:=fun w=>acp C (by omega) w
       have oo:=aa (Zf wr C);have FP:=aa ((ai wr.heap.size wr).alloc (ag _) (.cells (madeCells #[.string ⟨#[]⟩] C) 9));go_upto_region 12 with (fail)
       obtain⟨wx,rfl⟩:∃wx,wx=wr:=⟨_,rfl⟩;clear x0 x1 x2 hmk;obtain⟨kP,Oi⟩:∃kP,wx.alloc (.cells (madeCells #[.string ⟨#[]⟩] C) 9)=kP:=⟨_,rfl⟩;rw[Oi]at oo FP ⊢;clear Oi;have hyx:y<wx.heap.size:=qo.o.sh.lt;have Lx:=aa (show Below w.heap.size w wx from(HB.o.fV.trans (KL.o.mono HB.o.fV.size)).trans (qo.o.fV.mono (by have h1:=HB.o.fV.size;have h2:=fB.o;omega)));have hwx:w.heap.size≤wx.heap.size:=Lx.o.size;obtain⟨M,hM⟩:∃M,wx.heap.size=M:=⟨_,rfl⟩;have HM:=aa hM;rw[hM]at oo FP hyx hwx ⊢;obtain⟨k,hk⟩:∃k,k0+r*C=k:=⟨_,rfl⟩;have HK:=aa hk;rw[hk]at Gp
       have hn1:n1≤5:=by
        have h1:=congrArg List.length qo.o.vW;unfold dI at h1;rw[dN,gD,Ew,fT.o]at h1;omega
       clear hk hM
       go_loopw [6,11] (fun pF cv wq=>∃(c p':Nat),c≤C∧cv = .int .i64 (c:Int)∧pF = .int .i64 (p':Int)∧p'≤L∧Hid (p'=min k L+c∧(c=0∨k+c≤L))∧Hid (lQ fE 9 wq M (rG xs C k c))∧Hid (Below M wx wq))
        (fun _ cv _=>C - (intOf cv).toNat)
       case atStart=>exact⟨0,p,cu _,rfl,rfl,Eh,aa ⟨by rw[Gp.o];rfl,.inl rfl⟩,aa (by rw[ab8];exact oo.o),FP⟩
       case round =>
        obtain⟨c,p',hcC,rfl,rfl,NW,oZ,uH,wC⟩:=hrel;have hy1:=(qo.o.sh.below wC.o hyx).cells.2.1;by_cases hct:c<C
        · have hci:(c:Int)<(C:Int):=by omega
          have hc0:(0:Int)≤(c:Int):=by omega
          by_cases hpt:p'<L
          · have hpi:(p':Int)<(L:Int):=by omega
            have hp0:(0:Int)≤(p':Int):=by omega
            obtain⟨pb,po,rfl,hpb,hcell⟩:=HS.o.at_.resolve_left (by omega);have hbx:=HS.o.bytes.get p';obtain⟨ve,Em⟩:∃ve:Nat,xs.getD p' 0=(ve:Int):=⟨(xs.getD p' 0).toNat,by omega⟩;have hc1:=hcell p' hpt;rw[Em]at hc1 hbx;have XP:wr.cell? ⟨pb,po+p',none⟩=some (.int .u8 (ve:Int)):=((Lx.o.trans (wC.o.mono hwx)).cell (p:=⟨pb,po+p',none⟩) hpb).trans hc1;have HT:=aa (Rn ve (by omega) wr);have hkc:k+c=p':=by have h1:=oZ.o;omega
            have TL:=aa (show xs[k+c]? = some (ve:Int)from by
             rw[hkc,bn (by rw[HS.o.hlen];exact hpt)];rw[iC,bn (by rw[HS.o.hlen];exact hpt)]at Em;exact congrArg some Em)
            have Nh:M<wr.heap.size:=uH.o.lt
            have HE:=aa (show(fE.all (rG xs C k c))[c]? = some (.string ⟨#[]⟩)from by
             rw[DV,iD];unfold rG;rw[iD,List.getElem?_range hct];simp)
            clear hcell Em hc1;go_wp2_with (go_at_call 12;((with_reducible refine HT.o.mono ?_);rintro e w2 ⟨rfl,h1⟩;have H2:=aa h1;have HR2:=aa (uH.o.keep (h1.block M Nh));have f2:=HR2.o.Fa.jh c;have g2:=HR2.o.Fa.cell c _ HE.o;clear h1))
            clear f2 g2 XP hy1
            go_roundw
            case rel=>exact⟨c+1,p'+1,by omega,by go_num,by go_num,by omega,aa ⟨by have h1:=oZ.o;omega,.inr (by omega)⟩,aa (by have h1:=HR2.o.set1 c (strOfNums (bY ve)) _ rfl;have h2:=ab7 xs C k c (ve:Int) TL.o;rw[show((ve:Int)).toNat=ve from Int.toNat_natCast ve]at h2;rw[← h2];exact h1),aa ((wC.o.trans (H2.o.mono (Nat.le_of_lt Nh))).setCell (ag M) _)⟩
            case measure=>simp[intOf];omega
          · have hpi:¬ (p':Int)<(L:Int):=by omega
            have hrl:rG xs C k c=jG xs C k:=QE xs C k c (by rw[HS.o.hlen];have h1:=oZ.o;omega);have Gw:=aa (show lQ fE 9 wr M (jG xs C k)from by rw[← hrl];exact uH.o)
            have HOWN:=aa (show Own fE 9 wr (y+1) (aN.v ⟨some ⟨M,0,none⟩,C,jG xs C k⟩) (jG xs C k)from by
             have h1:=Gw.o.own (lo:=y+1) (by omega) (by rw[vR];unfold maxLen;omega);unfold aN.v;rw[vR]at h1 ⊢;exact h1)
            have xW:=aa (qo.o.next (by rw[HM.o];exact wC.o));have iF:=aa ((ai wr.heap.size wr).alloc (ag _) (.cells #[.slice (some ⟨M,0,none⟩) C C] 56));have qp:=aa (xW.o.next iF.o);have Gi:=aa (HOWN.o.below iF.o (ag _));have Gq:=aa (show p'=min (k0+(r+1)*C) L from by have h1:=oZ.o;have h2:=HK.o;have h3:(r+1)*C=r*C+C:=Nat.succ_mul r C;rw[h3];omega);obtain⟨x0,x1,x2⟩:=xW.o.sh.cells;have XR:y<wr.heap.size:=xW.o.sh.lt;clear hy1 hrl;go_wp2_with (at_builtin;refine AP Elem.rw nN rfl (.tmp 73) (.tmp 75) rfl (y+1) _ rows rfl (qp.o.rw.1) ⟨_,0,none⟩ 1 1 [⟨some ⟨M,0,none⟩,C,jG xs C k⟩] rfl rfl ?_ ?_ ?_ ?_ ?_;exact fZ _ _ _ (by show [_]=[Value.slice _ (jG xs C k).length C];rw[vR]);(rw[fT.o];omega);(rw[fT.o];unfold maxLen;omega);(have:=iF.o.size;omega);intro v5 w5 h1 h2 _;obtain⟨A5,c5,hv5⟩:=vV h1;simp only[aj,fq,fT.o]at hv5;subst hv5;have mO:=aa h1;have rT:=aa h2;have yK:ShAt w5 y nm (C:Int) (.slice A1 n1 c1):=(by unfold ShAt;rw[h2.block _ qp.o.sh.lt (own_ne qp.o.rw.1 (by omega))];exact qp.o.sh);obtain⟨m0,m1,m2⟩:=yK.bK;obtain⟨z0,z1,z2⟩:=yK.cells;clear h1 h2 yK)
            clear m0 m1 m2 z0 z1 z2 x0 x1 x2
            go_roundw
            case rel=>exact⟨r+1,p',A5,n1+1,c5,rows++[⟨some ⟨M,0,none⟩,C,jG xs C k⟩],by omega,rfl,by go_num,NW,Gq,aa (by rw[aj,fT.o];rfl),aa (qp.o.push Gi.o mO.o rT.o (by rw[HK.o]) hrt)⟩
            case measure=>simp[intOf];omega
        · have hci:¬ (c:Int)<(C:Int):=by omega
          have hrl:rG xs C k c=jG xs C k:=QE xs C k c (by rw[HS.o.hlen];have h1:=oZ.o;omega);have Gw:=aa (show lQ fE 9 wr M (jG xs C k)from by rw[← hrl];exact uH.o)
          have HOWN:=aa (show Own fE 9 wr (y+1) (aN.v ⟨some ⟨M,0,none⟩,C,jG xs C k⟩) (jG xs C k)from by
           have h1:=Gw.o.own (lo:=y+1) (by omega) (by rw[vR];unfold maxLen;omega);unfold aN.v;rw[vR]at h1 ⊢;exact h1)
          have xW:=aa (qo.o.next (by rw[HM.o];exact wC.o));have iF:=aa ((ai wr.heap.size wr).alloc (ag _) (.cells #[.slice (some ⟨M,0,none⟩) C C] 56));have qp:=aa (xW.o.next iF.o);have Gi:=aa (HOWN.o.below iF.o (ag _));have Gq:=aa (show p'=min (k0+(r+1)*C) L from by have h1:=oZ.o;have h2:=HK.o;have h3:(r+1)*C=r*C+C:=Nat.succ_mul r C;rw[h3];omega);obtain⟨x0,x1,x2⟩:=xW.o.sh.cells;have XR:y<wr.heap.size:=xW.o.sh.lt;clear hy1 hrl;go_wp2_with (at_builtin;refine AP Elem.rw nN rfl (.tmp 73) (.tmp 75) rfl (y+1) _ rows rfl (qp.o.rw.1) ⟨_,0,none⟩ 1 1 [⟨some ⟨M,0,none⟩,C,jG xs C k⟩] rfl rfl ?_ ?_ ?_ ?_ ?_;exact fZ _ _ _ (by show [_]=[Value.slice _ (jG xs C k).length C];rw[vR]);(rw[fT.o];omega);(rw[fT.o];unfold maxLen;omega);(have:=iF.o.size;omega);intro v5 w5 h1 h2 _;obtain⟨A5,c5,hv5⟩:=vV h1;simp only[aj,fq,fT.o]at hv5;subst hv5;have mO:=aa h1;have rT:=aa h2;have yK:ShAt w5 y nm (C:Int) (.slice A1 n1 c1):=(by unfold ShAt;rw[h2.block _ qp.o.sh.lt (own_ne qp.o.rw.1 (by omega))];exact qp.o.sh);obtain⟨m0,m1,m2⟩:=yK.bK;obtain⟨z0,z1,z2⟩:=yK.cells;clear h1 h2 yK)
          clear m0 m1 m2 z0 z1 z2 x0 x1 x2
          go_roundw
          case rel=>exact⟨r+1,p',A5,n1+1,c5,rows++[⟨some ⟨M,0,none⟩,C,jG xs C k⟩],by omega,rfl,by go_num,NW,Gq,aa (by rw[aj,fT.o];rfl),aa (qp.o.push Gi.o mO.o rT.o (by rw[HK.o]) hrt)⟩
          case measure=>simp[intOf];omega
     · have tK:¬ (r:Int)<(R:Int):=by omega
       have XG:r=R:=by omega
       subst XG;have FQ:=aa (HB.o.next (KL.o.trans (qo.o.fV.mono (by have:=fB.o;omega))));have iF:=aa ((ai wr.heap.size wr).alloc (ag _) (.cells #[.string nm,.int .i64 (C:Int),.slice A1 n1 c1] 73));have A8:=aa (FQ.o.next iF.o);have qp:=aa (qo.o.next iF.o)
       have pJ:p=min ((i+1)*(iA m*gz m)) L:=by
        have h1:=Gp.o;have h2:=KW.o;have h3:(i+1)*(r*C)=i*(r*C)+r*C:=Nat.succ_mul i (r*C);rw[HRR.o,FR.o,h3,h2];exact h1
       have oZ:=aa pJ;have Xr:i<kK m:=by rw[Dx.o];exact hlt
       have jY:=aa (show ak.p ⟨nm,(C:Int),A1,c1,rows⟩=wu xs m i (iA m) (gz m)from by
        have h1:=qo.o.vW;rw[mK (by rw[Ew];exact ag _)]at h1;unfold dI at h1;unfold ak.p wu;rw[HRR.o,FR.o, ← qW.o];simp only;rw[h1,KW.o])
       have hsl:ah.length≤3:=by
        have h1:=congrArg List.length HB.o.vW;unfold bF at h1;rw[dN,gD,Ag,Dx.o]at h1;omega
       obtain⟨x0,x1,x2⟩:=qo.o.sh.cells;have b0:=FQ.o.cur.cell;clear pJ;go_wp2_with (at_builtin;refine AP Elem.sh nO rfl (.tmp 79) (.tmp 81) rfl (w.heap.size+2) _ ah rfl (A8.o.bk.1) ⟨_,0,none⟩ 1 1 [⟨nm,(C:Int),A1,c1,rows⟩] rfl rfl ?_ ?_ ?_ ?_ ?_;exact fZ _ _ _ (by show [_,_,_]=[_,_,Value.slice A1 rows.length c1];rw[fT.o]);omega;(unfold maxLen;omega);(have h1:=iF.o.size;have h2:=FQ.o.cur.lt;omega);intro v5 w5 h1 h2 _;obtain⟨A5,c5,hv5⟩:=vV h1;simp only[aj,fq]at hv5;subst hv5;have mO:=aa h1;have rT:=aa h2;have hb5:aY w5 (w.heap.size+1) (.slice RX ah.length cb):=(by unfold aY;rw[h2.block _ A8.o.cur.lt (own_ne A8.o.bk.1 (by omega))];exact A8.o.cur);have m0:=hb5.jh;have z0:=hb5.cell;clear h1 h2 hb5)
       clear m0 z0 x0 x1 x2 b0
       go_roundw
       case rel=>exact⟨i+1,p,_,ah++[⟨nm,(C:Int),A1,c1,rows⟩],by omega,rfl,by go_num,Eh,aa (A8.o.push (s:=⟨nm,(C:Int),A1,c1,rows⟩) (by have h1:=qp.o.rw.mono (show w.heap.size+2≤y+1 from by have h2:=HB.o.cur.lt;have h3:=fB.o;omega);show iH _ _ (.slice A1 rows.length c1) rows;rw[fT.o];exact h1) mO.o rT.o jY.o Xr oZ.o)⟩
       case measure=>simp[intOf];omega
  · have hii:¬ (i:Int)<(S:Int):=by omega
    have hin:i=S:=by omega
    obtain⟨A1,c1,hbv⟩:=vV HB.o.bk.1;have jr:=HB.o.cur;rw[hbv]at jr;have Sa:=aa jr;have R6:=aa hbv;have b0:=Sa.o.cell;have o0:=HB.o.o.cell;have m0:=HB.o.o.jh;clear jr hbv;go_wp2_with fail
    have zY:=HB.o.vW;rw[mK (by rw[Ag,Dx.o];omega)]at zY;have hln:ah.length=kK m:=by have h:=congrArg List.length zY;unfold bF at h;rwa[dN,Ag]at h
    have hbk:=(HB.o.bk.keep (w':=wr.setCell ⟨w.heap.size,0,none⟩ (.slice A1 ah.length c1)) fun g h1 _=>heap_setCell_other wr _ g _ (by show g≠w.heap.size;omega)).wX;rw[R6.o]at hbk;refine bodyPost_ret (Jm (HB.o.o.put (.slice A1 ah.length c1)) _ _ 4 abL rfl) rfl ⟨HB.o.fV.setCell (by show w.heap.size≤w.heap.size;omega) _,A1,c1,by rw[hln],ah,zY,by rw[← hln];exact hbk⟩
theorem abM:Tryz.f38.results=#[.cell 2 26]:=by kernel_rfl
theorem Vw (w:World)(A:Option Addr)(n cap:Nat)(ah:List ak)(h:eH w w.heap.size (.slice A n cap) ah)(hz:BG ah) :
 Calls Tryz.prog 38 #[.agg #[.slice A n cap]] w fun e w'=>Below w.heap.size w w'∧∃A' sv,e = .returned (.agg #[.slice A' n n])∧bF sv=bF ah∧mM w' A' n n sv w.heap.size w'.heap.size:=by
 obtain⟨w2,hw2,hb,hs1,hs2,hsz⟩:=Fy w (.slice A n cap) (.slice none 0 0);have HE:=aa (VT w2 A n cap ah (h.lift hb) hz);have HB:=aa hb;have dG:=aa hs1;have HS2:=aa hs2;have jZ:=aa hsz;clear h hz hb hs1 hs2 hsz;go_enter Tryz.func38,Tryz.ntmps38;go_upto_region 1 with (fail)
 clear hw2;have x0:=dG.o.cell;go_wp2_with (go_at_call 66;((with_reducible refine HE.o.mono ?_);rintro e w3 ⟨h1,A2,sv,rfl,hm,h2⟩;have H3:=aa h1;have HM:=aa hm;have HN:=aa h2;have y0:=(HS2.o.over h1).cell;have m0:=(HS2.o.over h1).jh;clear h1 h2 hm))
 refine bodyPost_ret (Jm ((HS2.o.over H3.o).put (.slice A2 n n)) _ _ 2 abM rfl) rfl ⟨(HB.o.trans (H3.o.mono HB.o.size)).setCell (by show w.heap.size≤w.heap.size+1;omega) _,A2,sv,rfl,HM.o, ?_⟩;rw[lG];exact(HN.o.keep fun g h1 _=>heap_setCell_other w3 _ g _ (by show g≠w.heap.size+1;have:=jZ.o;omega)).up (by have:=jZ.o;omega) (ag _)
theorem DW {α : Type}{k:Nat}(E:Enc α k){xs:List α}{i:Nat}{x x' : α}(hx:xs[i]? = some x)(he:E.f x'=E.f x):E.all (xs.set i x')=E.all xs:=by
 unfold Enc.all
 induction xs generalizing i with
 | nil=>rfl
 | cons a t ih =>
   cases i with
   | zero =>
     obtain rfl:a=x:=by simpa using hx
     rw[List.set_cons_zero,jV,jV,he]
   | succ i=>rw[List.set_cons_succ,jV,jV,ih (by simpa using hx)]
theorem iG.same {α : Type}{k:Nat}{E:Enc α k}{e:TypeId}{w:World}{g:Nat}{xs ys:List α}(h:iG E e w g xs)(he:E.all ys=E.all xs):iG E e w g ys:=by
 obtain⟨cur,h1,h2⟩:=h;exact⟨cur,h1,by rw[he];exact h2⟩
def aN.put(r:aN)(c:Nat)(t:ByteArray):aN:=⟨r.A,r.cap,r.l.set c t⟩
def ak.put(s:ak)(r c:Nat)(rv:aN)(t:ByteArray):ak:=⟨s.nm,s.ay,s.A,s.cap,s.rows.set r (rv.put c t)⟩
theorem mM.cell {w:World}{A:Option Addr}{n cap:Nat}{sv:List ak}{lo hi i r c:Nat}{s:ak}{rv:aN}(h:mM w A n cap sv lo hi)(hs:sv[i]? = some s)(hr:s.rows[r]? = some rv)(hc:c<rv.l.length) :
 ∃g,rv.A=some ⟨g,0,none⟩∧lo≤g∧g<hi∧w.cell? ⟨g,c,none⟩=some (.string (rv.l.getD c ⟨#[]⟩))∧w.frozen? ⟨g,c,none⟩=false∧∀t:ByteArray,mM (w.setCell ⟨g,c,none⟩ (.string t)) A n cap (sv.set i (s.put r c rv t)) lo hi:=by
 obtain⟨T,m,h1,h2,h3,h4,h5,h6,h7,h8⟩:=h;obtain⟨a,b,k1,k2,k3,k4,k5⟩:=h8.at i s hs;obtain⟨U,m2,j1,j2,tO,Aa,Ab,Ac,j7⟩:=k4;obtain⟨a2,b2,q1,q2,q3,q4,q5⟩:=j7.at r rv hr;obtain⟨p1,p2,p3⟩:=q4;obtain⟨g,f1,f2,f3,f4⟩:=p3.resolve_left (fun e=>by rw[e]at hc;exact absurd hc (Nat.not_lt_zero _));obtain⟨x,hx⟩:∃x,rv.l[c]? = some x:=⟨_,bn hc⟩;refine⟨g,f1,by omega,by omega, ?_,f4.jh c,fun t => ?_⟩
 · rw[iC,hx]
   exact f4.cell c _ (by rw[DV,iD,hx];rfl)
 · have hk:∀y,y≠g→(w.setCell ⟨g,c,none⟩ (.string t)).heap[y]? = w.heap[y]? := fun y hy=>heap_setCell_other w _ y _ hy
   have f5:iG fE 9 (w.setCell ⟨g,c,none⟩ (.string t)) g (rv.l.set c t):=f4.set1 c t _ rfl;refine⟨T,m,h1,by rw[List.length_set];exact h2,by rw[List.length_set];exact h3,by rw[List.length_set];exact h4,h5,h6, ?_, ?_⟩
   · refine(h7.keep (hk T (by omega))).same (DW nO hs ?_)
     show [_,_,Value.slice s.A (s.rows.set r (rv.put c t)).length s.cap]=[_,_,Value.slice s.A s.rows.length s.cap];rw[List.length_set];rfl
   · refine k5 (qz (w.setCell ⟨g,c,none⟩ (.string t))) _ (fun y u v _ _ _ hd hy=>hy.keep fun z hz1 hz2=>hk z (by omega)) ?_
     refine⟨U,m2,j1,by show s.cap=(s.rows.set r (rv.put c t)).length;rw[List.length_set];exact j2,by show(s.rows.set r (rv.put c t)).length≤maxLen;rw[List.length_set];exact tO,Aa,Ab, ?_, ?_⟩
     · refine(Ac.keep (hk U (by omega))).same (DW nN hr ?_)
       show [Value.slice rv.A (rv.l.set c t).length rv.cap]=[Value.slice rv.A rv.l.length rv.cap];rw[List.length_set]
     · refine q5 (nI (w.setCell ⟨g,c,none⟩ (.string t))) _ (fun y u v _ _ _ hd hy=>hy.keep fun z hz1 hz2=>hk z (by omega)) ?_
       exact⟨by show(rv.l.set c t).length≤rv.cap;rw[List.length_set];exact p1,p2,.inr ⟨g,f1,f2,f3,f5⟩⟩
theorem aY.load {w:World}{b:Nat}{A:Option Addr}{n cap:Nat}(h:aY w b (.slice A n cap)):(loadVar 26 ⟨b,0,none⟩).run Tryz.prog w = .ok (.agg #[.slice A n cap]) w :=
 run_loadVar_row w b 26 26 _ _ _ h Tryz.underlying26 rfl Mj
theorem Cx {w:World}{b:Nat}{A:Option Addr}{n cap:Nat}(h:aY w b (.slice A n cap))(fn:Func)(tmps:Array Value)(ok:Value)(p u:Tmp)(hf:fn.results=#[.cell p 26,.tmp u])(hp:tmps.getD p undef = .pointer (some ⟨b,0,none⟩))(hu:tmps.getD u undef=ok) :
 (results fn tmps).run Tryz.prog w = .ok (.tuple #[.agg #[.slice A n cap],ok]) w:=by
 rw[results_cell_tmp hf,hp,hu];simp[asAddr,h.load,Result.andThen]
theorem Qq:Tryz.f11.results=#[.cell 6 26,.tmp 7]:=by kernel_rfl
theorem EN {a b:List ak}(h:bF a=bF b){i:Nat}{s:ak}(hs:b[i]? = some s):∃s',a[i]? = some s'∧s'.p=s.p:=by
 have h1:(bF b)[i]? = some s.p:=tX hs;rw[← h]at h1;unfold bF at h1;rw[iD]at h1;obtain⟨s',h2,h3⟩:=Option.map_eq_some_iff.1 h1;exact⟨s',h2,h3⟩
theorem MZ {a b:List ak}(h:bF a=bF b){nm:ByteArray}{i:Nat}{s s':ak}(hf:First b nm i s)(hs:a[i]? = some s')(hp:s'.p=s.p):First a nm i s':=by
 refine⟨hs,(congrArg jf.nm hp).trans hf.2.1,fun j t hj ht => ?_⟩;obtain⟨t',h1,h2⟩:=EN h.symm ht;have:=hf.2.2 j t' hj h1;exact fun e=>this ((congrArg jf.nm h2).trans e)
def yN:Option (Nat × ak × Nat × aN × Nat)→Option (Nat × Nat × Nat)
 | none=>none
 | some (i,_,r,_,c)=>some (i,r,c)
theorem J4 {a b:List ak}(h:bF a=bF b){nm:ByteArray}{row aI:Int}{o:Option (Nat × ak × Nat × aN × Nat)}(ho:qA b nm row aI o):∃o',qA a nm row aI o'∧yN o'=yN o∧xG o'=xG o:=by
 cases o with
 | none =>
   refine⟨none, ?_,rfl,rfl⟩;rcases ho with ho|⟨i,s,hf,ho⟩
   · refine .inl fun j t ht => ?_
     obtain⟨t',h1,h2⟩:=EN h.symm ht;exact fun e=>ho j t' h1 ((congrArg jf.nm h2).trans e)
   · obtain ⟨s',h1,h2⟩:=EN h hf.1
     have hrl:dI s'.rows=dI s.rows:=congrArg jf.rows h2;have hln:s'.rows.length=s.rows.length:=by have:=congrArg List.length hrl;unfold dI at this;rwa[dN,dN]at this
     refine .inr ⟨i,s',MZ h hf h1 h2, ?_⟩;rcases ho with ho|⟨r,rv,e1,e2,e3⟩
     · exact .inl (by rw[hln];exact ho)
     · have h3:(dI s.rows)[r]? = some rv.l:=tX e2
       rw[← hrl]at h3;unfold dI at h3;rw[iD]at h3;obtain⟨rv',h4,h5⟩:=Option.map_eq_some_iff.1 h3;exact .inr ⟨r,rv',e1,h4,by rw[h5];exact e3⟩
 | some p =>
   obtain⟨i,s,r,rv,c⟩:=p;obtain⟨hf,e1,e2,e3,e4⟩:=ho;obtain⟨s',h1,h2⟩:=EN h hf.1;have hrl:dI s'.rows=dI s.rows:=congrArg jf.rows h2;have h3:(dI s.rows)[r]? = some rv.l:=tX e2;rw[← hrl]at h3;unfold dI at h3;rw[iD]at h3;obtain⟨rv',h4,h5⟩:=Option.map_eq_some_iff.1 h3;have h5:rv'.l=rv.l:=h5;exact⟨some (i,s',r,rv',c),⟨MZ h hf h1 h2,e1,h4,e3,by rw[h5];exact e4⟩,rfl,by show rv'.l.getD c _=rv.l.getD c _;rw[h5]⟩
theorem Ro (w:World)(v:Value)(nm:ByteArray)(row aI:Int):∃w3,((w.alloc (.cells #[v] 26)).alloc (.cells #[.string nm,.int .i64 row,.int .i64 aI] 29)).alloc (.cells #[.slice none 0 0] 26)=w3∧Below w.heap.size w w3∧aY w3 w.heap.size v∧lS w3 (w.heap.size+1) nm row aI∧aY w3 (w.heap.size+2) (.slice none 0 0)∧w3.heap.size=w.heap.size+3:=by
 obtain⟨w2,hw2,hb,hbk,hsp,hsz⟩:=AJ w v nm row aI;refine⟨_,by rw[hw2],hb.trans ((kJ w2 (.slice none 0 0)).mono hb.size),hbk.over (kJ _ _),hsp.over (kJ _ _), ?_,by rw[kD,hsz]⟩;have:=aY.new w2 (.slice none 0 0);rwa[hsz]at this
def CJ(p:jf)(r c:Nat)(t:ByteArray):jf:=⟨p.nm,p.ay,p.rows.set r ((p.rows.getD r []).set c t)⟩
def wo(l:List jf)(i r c:Nat)(t:ByteArray):List jf:=l.set i (CJ (l.getD i ⟨⟨#[]⟩,0,[]⟩) r c t)
theorem Jt {sv:List ak}{i r c:Nat}{s:ak}{rv:aN}(t:ByteArray)(hs:sv[i]? = some s)(hr:s.rows[r]? = some rv):bF (sv.set i (s.put r c rv t))=wo (bF sv) i r c t:=by
 have h1:(bF sv)[i]? = some s.p:=tX hs;unfold wo;rw[iC,h1];unfold bF;rw[List.map_set];congr 1;have h2:(dI s.rows)[r]? = some rv.l:=tX hr;show ak.p (s.put r c rv t)=CJ s.p r c t;unfold ak.p ak.put CJ;simp only;rw[List.map_set,iC];unfold dI at h2;rw[h2];rfl
theorem Ug (w:World)(A:Option Addr)(n cap:Nat)(xs:List ByteArray)(h:iI fE w w.heap.size (.slice A n cap) xs)
 (hc:∀x∈xs,∀w1,Below w.heap.size w w1→Calls Tryz.prog 37 #[.string x] w1 fun e w'=>e = .returned (.bool true)∧Below w1.heap.size w1 w') :
 Calls Tryz.prog 113 #[.slice A n cap,.func (.func 37) #[] #[]] w fun e w'=>e = .returned (.bool true)∧Below w.heap.size w w':=by
 have HL:=aa h.len.1;have HX:=aa h;have HC:=aa hc;have hmx:n≤9223372036854775807:=by have:=h.len.2;unfold maxLen at this;omega
 clear h hc;go_enter Tryz.func113,Tryz.ntmps113;go_upto_region 2 with (fail)
 go_loopw [9] (fun iv wr=>∃i:Nat,i≤n∧iv = .int .i64 (i:Int)∧Hid (Below w.heap.size w wr))
  (fun iv _=>n - (intOf iv).toNat)
 case atStart=>exact⟨0,cu _,rfl,aa (ai _ _)⟩
 case round =>
  obtain⟨i,hi,rfl,HR⟩:=hrel;by_cases hlt:i<n
  · have hii:(i:Int)<(n:Int):=by omega
    have hi0:(0:Int)≤(i:Int):=by omega
    obtain⟨x,hx⟩:∃x,xs[i]? = some x:=⟨_,bn (by rw[HL.o];exact hlt)⟩;obtain⟨pb,po,rfl,hpb,e0⟩:=xH HX.o hx;have x0:wr.cell? ⟨pb,po+i,none⟩=some (.string x):=(HR.o.cell (p:=⟨pb,po+i,none⟩) hpb).trans e0;have HW:=aa (HC.o x (dz hx) wr HR.o);clear e0 hx;go_wp2_with (go_at_call 37;((with_reducible refine HW.o.mono ?_);rintro e w2 ⟨rfl,h1⟩;have H2:=aa (HR.o.trans (h1.mono HR.o.size));clear h1))
    go_roundw
    case rel=>exact⟨i+1,by omega,by go_num,H2⟩
    case measure=>simp[intOf];omega
  · have hii:¬ (i:Int)<(n:Int):=by omega
    go_wp2_with fail
    go_ret;exact⟨rfl,HR.o⟩
theorem UJ(w:World)(c:Int):Below w.heap.size w (w.alloc (.cells #[.int .i64 c] 113)):=(ai _ _).alloc (ag _) _
theorem Wj (w:World)(A:Option Addr)(n cap:Nat)(xs:List ByteArray)(h:iI fE w w.heap.size (.slice A n cap) xs)
 (hc:∀x∈xs,∀w1,Below w.heap.size w w1→Calls Tryz.prog 37 #[.string x] w1 fun e w'=>e = .returned (.bool true)∧Below w1.heap.size w1 w') :
 Calls Tryz.prog 75 #[.agg #[.int .i64 (n:Int)],.slice A n cap] w fun e w'=>e = .returned (.bool true)∧Below w.heap.size w w':=by
 have HB:=aa (UJ w n);have HA:=aa (Ug (w.alloc (.cells #[.int .i64 (n:Int)] 113)) A n cap xs (h.lift HB.o) (fun x hx w1 h1=>hc x hx w1 (HB.o.trans (h1.mono HB.o.size))));clear h hc;go_enter Tryz.func75,Tryz.ntmps75;go_wp2_with (go_at_call 113;((with_reducible refine HA.o.mono ?_);rintro e w2 ⟨rfl,h1⟩;have H2:=aa (HB.o.trans (h1.mono HB.o.size));clear h1))
 go_ret;exact⟨rfl,H2.o⟩
def lH(w:World)(b:Nat)(nm:ByteArray):Prop:=w.heap[b]? = some (.cells #[.string nm] 81)
theorem lH.cell{w:World}{b:Nat}{nm:ByteArray}(h:lH w b nm):w.cell? ⟨b,0,none⟩=some (.string nm):=by rw[cell_of_row w b 0 _ _ _ h];rfl
theorem lH.jh{w:World}{b:Nat}{nm:ByteArray}(h:lH w b nm):w.frozen? ⟨b,0,none⟩=false:=frozen_of_row w b 0 _ _ h
theorem lH.lt{w:World}{b:Nat}{nm:ByteArray}(h:lH w b nm):b<w.heap.size:=(dZ.1 h).1
theorem lH.over{w w':World}{b:Nat}{nm:ByteArray}(h:lH w b nm)(hb:Below w.heap.size w w'):lH w' b nm:=by unfold lH;rw[hb.block b h.lt];exact h
theorem lH.put {w:World}{b:Nat}{nm:ByteArray}(h:lH w b nm)(t:ByteArray):lH (w.setCell ⟨b,0,none⟩ (.string t)) b t:=by
 unfold lH;rw[heap_setCell_same w b 0 _ _ _ h];rfl
theorem Wv (w:World)(b:Nat)(last nm:ByteArray)(c:Int)(A:Option Addr)(n cap:Nat)(h:lH w b last)(hl:Op.bytesLess last.toList nm.toList=true) :
 Calls Tryz.prog 47 #[.pointer (some ⟨b,0,none⟩),.agg #[.string nm,.int .i64 c,.slice A n cap]] w fun e w'=>e = .returned (.bool true)∧lH w' b nm∧∀B,B≤b→Below B w w':=by
 have HS:=aa (ShAt.new w nm c (.slice A n cap));have HB:=aa (nJ w nm c (.slice A n cap));have HC:=aa (h.over HB.o);have wJ:=aa h.lt;clear h;go_enter Tryz.func47,Tryz.ntmps47;go_upto_region 1 with (fail)
 obtain⟨w1,hw1⟩:∃w1,w.alloc (.cells #[.string nm,.int .i64 c,.slice A n cap] 73)=w1:=⟨_,rfl⟩;rw[hw1]at HS HB HC ⊢;clear hw1;have x0:=HC.o.cell;have m0:=HC.o.jh;obtain⟨y0,y1,y2⟩:=HS.o.cells;go_upto_region 3 with (fail)
 clear x0 m0 y0 y1 y2;have hne:w.heap.size≠b:=fun e=>by have:=wJ.o;omega
 have KM:=aa (HC.o.put nm);have HS2:=aa (HS.o.other ⟨b,0,none⟩ (.string nm) hne);have HB2:=aa (fun (B:Nat)(hB:B≤b)=>(show Below B w (w1.setCell ⟨b,0,none⟩ (.string nm))from(HB.o.mono (by have:=wJ.o;omega)).setCell hB _));obtain⟨w2,hw2⟩:∃w2,w1.setCell ⟨b,0,none⟩ (.string nm)=w2:=⟨_,rfl⟩;rw[hw2]at KM HS2 HB2 ⊢;clear hw2;obtain⟨y0,y1,y2⟩:=HS2.o.cells;go_wp2_with fail
 go_ret;exact⟨rfl,KM.o,HB2.o⟩
def zN:ByteArray→List ak→Prop
 | _,[]=>True
 | last,s :: l=>Op.bytesLess last.toList s.nm.toList=true∧zN s.nm l
theorem Uf (w:World)(b:Nat)(A:Option Addr)(n cap:Nat)(ah:List ak)(h:eH w b (.slice A n cap) ah)(hn:n≤1000000)(hr:zN ⟨#[]⟩ ah)(hc:lH w b ⟨#[]⟩) :
 Calls Tryz.prog 46 #[.slice A n cap,.func (.func 47) #[.pointer (some ⟨b,0,none⟩)] #[]] w fun e w'=>e = .returned (.bool true)∧Below b w w':=by
 have HL:=aa h.1.len.1;have HX:=aa h;have Bw:=aa hr;have HC:=aa hc;clear h hr hc;go_enter Tryz.func46,Tryz.ntmps46;go_upto_region 2 with (fail)
 go_loopw [9] (fun iv wr=>∃(i:Nat)(last:ByteArray),i≤n∧iv = .int .i64 (i:Int)∧Hid (lH wr b last)∧Hid (zN last (ah.drop i))∧Hid (Below b w wr))
  (fun iv _=>n - (intOf iv).toNat)
 case atStart=>exact⟨0,_,cu _,rfl,HC,aa (by rw[List.drop_zero];exact Bw.o),aa (ai _ _)⟩
 case round =>
  obtain⟨i,last,hi,rfl,uB,qo,HR⟩:=hrel;by_cases hlt:i<n
  · have hii:(i:Int)<(n:Int):=by omega
    have hi0:(0:Int)≤(i:Int):=by omega
    have hls:i<ah.length:=by rw[HL.o];exact hlt
    obtain⟨x,hx⟩:∃x,ah[i]? = some x:=⟨_,bn hls⟩;have tK:=qo.o;rw[List.drop_eq_getElem_cons hls]at tK;have hxe:ah[i]=x:=by rw[bn hls]at hx;exact dX hx
    rw[hxe]at tK;have dB:=aa tK.2;obtain⟨pb,po,rfl,hpb,e0,e1,e2,hrx⟩:=oP HX.o hx;have x0:wr.cell? ⟨pb,po+i*3,none⟩=some (.string x.nm):=(HR.o.cell (p:=⟨pb,po+i*3,none⟩) hpb).trans e0;have x1:wr.cell? ⟨pb,po+i*3+1,none⟩=some (.int .i64 x.ay):=(HR.o.cell (p:=⟨pb,po+i*3+1,none⟩) hpb).trans e1;have x2:wr.cell? ⟨pb,po+i*3+2,none⟩=some (.slice x.A x.rows.length x.cap):=(HR.o.cell (p:=⟨pb,po+i*3+2,none⟩) hpb).trans e2;have oU:=aa (nJ wr x.nm x.ay (.slice x.A x.rows.length x.cap));have wM:=aa (ShAt.new wr x.nm x.ay (.slice x.A x.rows.length x.cap));have HG:=aa (Wv (wr.alloc (.cells #[.string x.nm,.int .i64 x.ay,.slice x.A x.rows.length x.cap] 73)) b last x.nm x.ay x.A x.rows.length x.cap (uB.o.over oU.o) tK.1);have qQ:=aa (show Below b w (wr.alloc (.cells #[.string x.nm,.int .i64 x.ay,.slice x.A x.rows.length x.cap] 73))from HR.o.alloc (Nat.le_of_lt uB.o.lt) _);clear e0 e1 e2 hrx hx tK hxe;go_upto_region 4 with (fail)
    clear x0 x1 x2;obtain⟨w1,hw1⟩:∃w1,wr.alloc (.cells #[.string x.nm,.int .i64 x.ay,.slice x.A x.rows.length x.cap] 73)=w1:=⟨_,rfl⟩;rw[hw1]at oU wM HG qQ ⊢;clear hw1;obtain⟨y0,y1,y2⟩:=wM.o.cells;go_wp2_with (go_at_call 47;((with_reducible refine HG.o.mono ?_);rintro e w2 ⟨rfl,h1,h2⟩;have H1:=aa h1;have H2:=aa (qQ.o.trans (h2 b (ag _)));clear h1 h2))
    go_roundw
    case rel=>exact⟨i+1,x.nm,by omega,by go_num,H1,dB,H2⟩
    case measure=>simp[intOf];omega
  · have hii:¬ (i:Int)<(n:Int):=by omega
    go_wp2_with fail
    go_ret;exact⟨rfl,HR.o⟩
structure DR (s:ak):Prop where
 name:fF (sb s.nm)=true
 size:s.nm.size≤1000
 low:0≤s.ay
 ay:s.ay≤12
 rows:s.rows.length≤24
 wide:∀r∈s.rows,(r.l.length:Int)=s.ay
theorem Ud (w:World)(A:Option Addr)(n cap:Nat)(rows:List aN)(m:Int)(h:jM w w.heap.size (.slice A n cap) rows)(hn:n≤1000000)(hm:∀r∈rows,(r.l.length:Int)=m)
 (hc:∀r∈rows,∀x∈r.l,∀w1,Below w.heap.size w w1→Calls Tryz.prog 37 #[.string x] w1 fun e w'=>e = .returned (.bool true)∧Below w1.heap.size w1 w') :
 Calls Tryz.prog 74 #[.slice A n cap,.func (.func 75) #[.agg #[.int .i64 m]] #[]] w fun e w'=>e = .returned (.bool true)∧Below w.heap.size w w':=by
 have HL:=aa h.1.len.1;have HX:=aa h;have HC:=aa hc;have HM:=aa hm;clear h hc hm;go_enter Tryz.func74,Tryz.ntmps74;go_upto_region 2 with (fail)
 go_loopw [9] (fun iv wr=>∃i:Nat,i≤n∧iv = .int .i64 (i:Int)∧Hid (Below w.heap.size w wr))
  (fun iv _=>n - (intOf iv).toNat)
 case atStart=>exact⟨0,cu _,rfl,aa (ai _ _)⟩
 case round =>
  obtain⟨i,hi,rfl,HR⟩:=hrel;by_cases hlt:i<n
  · have hii:(i:Int)<(n:Int):=by omega
    have hi0:(0:Int)≤(i:Int):=by omega
    obtain⟨x,hx⟩:∃x,rows[i]? = some x:=⟨_,bn (by rw[HL.o];exact hlt)⟩;obtain⟨pb,po,rfl,hpb,e0,hrx⟩:=rH HX.o hx;have x0:wr.cell? ⟨pb,po+i,none⟩=some (.slice x.A x.l.length x.cap):=(HR.o.cell (p:=⟨pb,po+i,none⟩) hpb).trans e0;have hw:=Wj wr x.A x.l.length x.cap x.l (hrx.lift HR.o) (fun y hy w1 h1=>HC.o x (dz hx) y hy w1 (HR.o.trans (h1.mono HR.o.size)));rw[HM.o x (dz hx)]at hw;have HW:=aa hw;clear e0 hx hw hrx;go_wp2_with (go_at_call 75;((with_reducible refine HW.o.mono ?_);rintro e w2 ⟨rfl,h1⟩;have H2:=aa (HR.o.trans (h1.mono HR.o.size));clear h1))
    go_roundw
    case rel=>exact⟨i+1,by omega,by go_num,H2⟩
    case measure=>simp[intOf];omega
  · have hii:¬ (i:Int)<(n:Int):=by omega
    go_wp2_with fail
    go_ret;exact⟨rfl,HR.o⟩
theorem acV (w:World)(s:ak)(h:jM w w.heap.size (.slice s.A s.rows.length s.cap) s.rows)(ho:DR s)
 (hc:∀r∈s.rows,∀x∈r.l,∀w1,Below w.heap.size w w1→Calls Tryz.prog 37 #[.string x] w1 fun e w'=>e = .returned (.bool true)∧Below w1.heap.size w1 w') :
 Calls Tryz.prog 48 #[.agg #[.string s.nm,.int .i64 s.ay,.slice s.A s.rows.length s.cap]] w fun e w'=>e = .returned (.bool true)∧Below w.heap.size w w':=by
 have HB:=aa (nJ w s.nm s.ay (.slice s.A s.rows.length s.cap));have HS:=aa (ShAt.new w s.nm s.ay (.slice s.A s.rows.length s.cap));have hnm:=Ct s.nm (w.alloc (.cells #[.string s.nm,.int .i64 s.ay,.slice s.A s.rows.length s.cap] 73)) (by have:=ho.size;omega);rw[ho.name]at hnm;have qW:=aa hnm;have HA:=aa (Ud (w.alloc (.cells #[.string s.nm,.int .i64 s.ay,.slice s.A s.rows.length s.cap] 73)) s.A s.rows.length s.cap s.rows s.ay (h.lift HB.o) (by have:=ho.rows;omega) ho.wide (fun r hr x hx w1 h1=>hc r hr x hx w1 (HB.o.trans (h1.mono HB.o.size))));have h1:=ho.low;have h2:=ho.ay;have h3:(s.rows.length:Int)≤24:=by have:=ho.rows;omega
 clear h hc ho hnm;go_enter Tryz.func48,Tryz.ntmps48;go_upto_region 1 with (fail)
 obtain⟨w1,hw1⟩:∃w1,w.alloc (.cells #[.string s.nm,.int .i64 s.ay,.slice s.A s.rows.length s.cap] 73)=w1:=⟨_,rfl⟩;rw[hw1]at HS HB qW HA ⊢;clear hw1;obtain⟨y0,y1,y2⟩:=HS.o.cells;obtain⟨n,hn⟩:∃n,s.rows.length=n:=⟨_,rfl⟩;rw[hn]at y2 HA h3;clear hn
 go_wp2_with (first
  | (go_at_call 73;((with_reducible refine qW.o.mono ?_);rintro e w2 ⟨rfl,rfl⟩))
  | (go_at_call 74;((with_reducible refine HA.o.mono ?_);rintro e w2 ⟨rfl,h1⟩;have H2:=aa (HB.o.trans (h1.mono HB.o.size));clear h1)))
 go_ret;exact⟨rfl,H2.o⟩
theorem Ue (w:World)(A:Option Addr)(n cap:Nat)(ah:List ak)(h:eH w w.heap.size (.slice A n cap) ah)(hn:n≤1000000)(ho:∀s∈ah,DR s)
 (hc:∀s∈ah,∀r∈s.rows,∀x∈r.l,∀w1,Below w.heap.size w w1→Calls Tryz.prog 37 #[.string x] w1 fun e w'=>e = .returned (.bool true)∧Below w1.heap.size w1 w') :
 Calls Tryz.prog 46 #[.slice A n cap,.func (.func 48) #[] #[]] w fun e w'=>e = .returned (.bool true)∧Below w.heap.size w w':=by
 have HL:=aa h.1.len.1;have HX:=aa h;have HC:=aa hc;have HO:=aa ho;clear h hc ho;go_enter Tryz.func46,Tryz.ntmps46;go_upto_region 2 with (fail)
 go_loopw [9] (fun iv wr=>∃i:Nat,i≤n∧iv = .int .i64 (i:Int)∧Hid (Below w.heap.size w wr))
  (fun iv _=>n - (intOf iv).toNat)
 case atStart=>exact⟨0,cu _,rfl,aa (ai _ _)⟩
 case round =>
  obtain⟨i,hi,rfl,HR⟩:=hrel;by_cases hlt:i<n
  · have hii:(i:Int)<(n:Int):=by omega
    have hi0:(0:Int)≤(i:Int):=by omega
    obtain⟨x,hx⟩:∃x,ah[i]? = some x:=⟨_,bn (by rw[HL.o];exact hlt)⟩;obtain⟨pb,po,rfl,hpb,e0,e1,e2,hrx⟩:=oP HX.o hx;have x0:wr.cell? ⟨pb,po+i*3,none⟩=some (.string x.nm):=(HR.o.cell (p:=⟨pb,po+i*3,none⟩) hpb).trans e0;have x1:wr.cell? ⟨pb,po+i*3+1,none⟩=some (.int .i64 x.ay):=(HR.o.cell (p:=⟨pb,po+i*3+1,none⟩) hpb).trans e1;have x2:wr.cell? ⟨pb,po+i*3+2,none⟩=some (.slice x.A x.rows.length x.cap):=(HR.o.cell (p:=⟨pb,po+i*3+2,none⟩) hpb).trans e2;have oU:=aa (nJ wr x.nm x.ay (.slice x.A x.rows.length x.cap));have wM:=aa (ShAt.new wr x.nm x.ay (.slice x.A x.rows.length x.cap));have qQ:=aa (show Below w.heap.size w (wr.alloc (.cells #[.string x.nm,.int .i64 x.ay,.slice x.A x.rows.length x.cap] 73))from HR.o.trans (oU.o.mono HR.o.size));have HG:=aa (acV (wr.alloc (.cells #[.string x.nm,.int .i64 x.ay,.slice x.A x.rows.length x.cap] 73)) x ((hrx.lift HR.o).lift oU.o) (HO.o x (dz hx)) (fun r hr y hy w1 h1=>HC.o x (dz hx) r hr y hy w1 (qQ.o.trans (h1.mono qQ.o.size))));clear e0 e1 e2 hrx hx;go_upto_region 4 with (fail)
    clear x0 x1 x2;obtain⟨w1,hw1⟩:∃w1,wr.alloc (.cells #[.string x.nm,.int .i64 x.ay,.slice x.A x.rows.length x.cap] 73)=w1:=⟨_,rfl⟩;rw[hw1]at oU wM HG qQ ⊢;clear hw1;obtain⟨y0,y1,y2⟩:=wM.o.cells;go_wp2_with (go_at_call 48;((with_reducible refine HG.o.mono ?_);rintro e w2 ⟨rfl,h1⟩;have H2:=aa (qQ.o.trans (h1.mono qQ.o.size));clear h1))
    go_roundw
    case rel=>exact⟨i+1,by omega,by go_num,H2⟩
    case measure=>simp[intOf];omega
  · have hii:¬ (i:Int)<(n:Int):=by omega
    go_wp2_with fail
    go_ret;exact⟨rfl,HR.o⟩
structure zu (ah:List ak):Prop where
 few:ah.length≤5
 rise:zN ⟨#[]⟩ ah
 each:∀s∈ah,DR s
theorem zu.sz{ah:List ak}(h:zu ah):BG ah:=⟨by have:=h.few;omega,fun s hs=>⟨by have:=(h.each s hs).rows;omega,fun r hr=>by have h1:=(h.each s hs).wide r hr;have h2:=(h.each s hs).ay;omega⟩⟩
theorem Ja (w:World)(A:Option Addr)(n cap:Nat)(ah:List ak)(h:eH w w.heap.size (.slice A n cap) ah)(ho:zu ah)
 (hc:∀s∈ah,∀r∈s.rows,∀x∈r.l,∀w1,Below w.heap.size w w1→Calls Tryz.prog 37 #[.string x] w1 fun e w'=>e = .returned (.bool true)∧Below w1.heap.size w1 w') :
 Calls Tryz.prog 14 #[.agg #[.slice A n cap]] w fun e w'=>e = .returned (.bool true)∧Below w.heap.size w w':=by
 have HB:=aa (kJ w (.slice A n cap));have HK:=aa (aY.new w (.slice A n cap));have zX:(n:Int)≤5:=by have h1:=ho.few;have h2:=h.1.len.1;omega
 have tH:n≤1000000:=by omega
 have HX:=aa h;have HO:=aa ho;have HC:=aa hc;clear h ho hc;go_enter Tryz.func14,Tryz.ntmps14;go_upto_region 1 with (fail)
 obtain⟨w1,hw1⟩:∃w1,w.alloc (.cells #[.slice A n cap] 26)=w1:=⟨_,rfl⟩;rw[hw1]at HB HK ⊢;clear hw1;go_upto_region 2 with (fail)
 have uB:=aa (show lH (w1.alloc (.cells #[.string ⟨#[]⟩] 81)) w1.heap.size ⟨#[]⟩from(jw w1 _).1);have HB1:=aa (show Below w1.heap.size w1 (w1.alloc (.cells #[.string ⟨#[]⟩] 81))from(ai _ _).alloc (ag _) _);obtain⟨w2,hw2⟩:∃w2,w1.alloc (.cells #[.string ⟨#[]⟩] 81)=w2:=⟨_,rfl⟩;rw[hw2]at uB HB1 ⊢;clear hw2;have HB2:=aa (HB.o.trans (HB1.o.mono HB.o.size));have HR:=aa (Uf w2 w1.heap.size A n cap ah ((HX.o.below HB2.o (ag _)).mono HB.o.size) tH HO.o.rise uB.o);have HM:=aa (fun (w3:World)(h3:Below w1.heap.size w2 w3)=>(show Below w.heap.size w w3∧_ from⟨HB2.o.trans (h3.mono HB.o.size),Ue w3 A n cap ah (HX.o.lift (HB2.o.trans (h3.mono HB.o.size))) tH HO.o.each (fun s hs r hr x hx wq hq=>HC.o s hs r hr x hx wq ((HB2.o.trans (h3.mono HB.o.size)).trans (hq.mono (HB2.o.trans (h3.mono HB.o.size)).size)))⟩));have rW:=aa (HK.o.over HB1.o);have hlt:w.heap.size<w1.heap.size:=HK.o.lt;have kV:=aa (fun (w3:World)(h3:Below w1.heap.size w2 w3)=>(show w3.cell? ⟨w.heap.size,0,none⟩=some (.slice A n cap)from(rW.o.below h3 hlt).cell));have x0:=rW.o.cell
 go_wp2_with (first
  | (go_at_call 46;((with_reducible refine HR.o.mono ?_);rintro e w3 ⟨rfl,h1⟩;have H3:=aa (HM.o w3 h1);have y0:=kV.o w3 h1;clear h1))
  | (go_at_call 46;((with_reducible refine H3.o.2.mono ?_);rintro e w4 ⟨rfl,h1⟩;have H4:=aa (H3.o.1.trans (h1.mono H3.o.1.size));clear h1)))
 go_ret;exact⟨rfl,H4.o⟩
def LQ (w:World)(n:Nat)(ah:List ak)(t:ByteArray)(o:Option (Nat × Nat × Nat))(e:Ending)(w':World):Prop :=
 match o with
 | none=>e = .returned (.tuple #[.agg #[.slice none 0 0],.int .i64 2])
 | some (i,r,c)=>∃A' sv,e = .returned (.tuple #[.agg #[.slice A' n n],.int .i64 0])∧bF sv=wo (bF ah) i r c t∧mM w' A' n n sv w.heap.size w'.heap.size
theorem QO (w:World)(A:Option Addr)(n cap:Nat)(ah:List ak)(nm:ByteArray)(row aI:Int)(t:ByteArray)(o:Option (Nat × ak × Nat × aN × Nat))(h:eH w w.heap.size (.slice A n cap) ah)(hz:BG ah)(ho:qA ah nm row aI o)
 (NL:∀w1,Below w.heap.size w w1→Calls Tryz.prog 14 #[.agg #[.slice A n cap]] w1 fun e w'=>e = .returned (.bool true)∧Below w1.heap.size w1 w')
 (htext:∀w1,Below w.heap.size w w1→Calls Tryz.prog 37 #[.string t] w1 fun e w'=>e = .returned (.bool true)∧Below w1.heap.size w1 w') :
 Calls Tryz.prog 11 #[.agg #[.slice A n cap],.agg #[.string nm,.int .i64 row,.int .i64 aI],.string t] w fun e w'=>Below w.heap.size w w'∧LQ w n ah t (yN o) e w':=by
 obtain⟨w1,hw1,hb,hbk,hsp,hz0,hsz⟩:=Ro w (.slice A n cap) nm row aI;have hn:n≤1000000:=by have h1:=hz.1;have h2:=h.1.len.1;omega
 have HB:=aa hb;have gM:=aa hbk;have jY:=aa hsp;have HZ0:=aa (show aY w1 (w.heap.size+1+1) (.slice none 0 0)from hz0);have jZ:=aa hsz;have F7:=aa NL;have TB:=aa htext;have HO:=aa ho;have R8:=aa (fun (wq:World)(hq:Below w.heap.size w wq)=>Vw wq A n cap ah (h.lift hq) hz);clear h hz hb hbk hsp hz0 hsz NL htext ho;go_enter Tryz.func11,Tryz.ntmps11;go_upto_region 1 with (fail)
 clear hw1;have x0:=gM.o.cell
 go_upto_region 3 with (first
  | (go_at_call 14;((with_reducible refine(F7.o _ HB.o).mono ?_);rintro e w2 ⟨rfl,h1⟩;have H2:=aa h1;have HB2:=aa (HB.o.trans (h1.mono HB.o.size));clear h1))
  | (go_at_call 37;((with_reducible refine(TB.o _ HB2.o).mono ?_);rintro e w3 ⟨rfl,h1⟩;have H3:=aa (H2.o.trans (h1.mono H2.o.size));have HB3:=aa (HB2.o.trans (h1.mono HB2.o.size));clear h1)))
 clear x0;have x0:=(gM.o.over H3.o).cell
 go_upto_region 4 with (first
  | (go_at_call 38;((with_reducible refine(R8.o _ HB3.o).mono ?_);rintro e w4 ⟨h1,A2,sv,rfl,hm,h2⟩;have H4:=aa (H3.o.trans (h1.mono H3.o.size));have bG:=aa (HB3.o.trans (h1.mono HB3.o.size));have HM:=aa hm;have HN:=aa h2;have afb:=aa (HB3.o.size);have qw:=aa (H3.o.size);have y0:=(gM.o.over H4.o).cell;have m0:=(gM.o.over H4.o).jh;clear h1 h2 hm)))
 clear x0 y0 m0;have hq1:w.heap.size+3≤w3.heap.size:=by have:=qw.o;have:=jZ.o;omega
 have FN:=aa ((gM.o.over H4.o).put (.slice A2 n n))
 have Lp:=aa (show lS (w4.setCell ⟨w.heap.size,0,none⟩ (.slice A2 n n)) (w.heap.size+1) nm row aI from by
  unfold lS;rw[heap_setCell_other w4 _ _ _ (by show w.heap.size+1≠w.heap.size;omega)];exact jY.o.over H4.o)
 have o7:=aa ((HZ0.o.over H4.o).other ⟨w.heap.size,0,none⟩ (.slice A2 n n) (by show w.heap.size+1+1≠w.heap.size;omega));have gu:=aa (HN.o.keep (w':=w4.setCell ⟨w.heap.size,0,none⟩ (.slice A2 n n)) fun g h1 _=>heap_setCell_other w4 _ g _ (by show g≠w.heap.size;omega));have Gy:=aa (lG w4 ⟨w.heap.size,0,none⟩ (.slice A2 n n));have dU:=aa (bG.o.setCell (p:=⟨w.heap.size,0,none⟩) (ag _) (.slice A2 n n));obtain⟨w5,Og⟩:∃w5,w4.setCell ⟨w.heap.size,0,none⟩ (.slice A2 n n)=w5:=⟨_,rfl⟩;rw[Og]at FN Lp o7 gu Gy dU ⊢;clear Og;rw[← Gy.o]at gu;obtain⟨o',ho',hid,_⟩:=J4 HM.o HO.o;have HAT:=aa (L8 w5 A2 n n sv nm row aI o' (gu.o.wX (ag _)) hn ho');have x0:=FN.o.cell;obtain⟨s0,s1,s2⟩:=Lp.o.cells;have jX:=aa ho';have KV:=aa hid;clear hid ho';cases o' with
 | none =>
   have m0:=o7.o.jh
   go_upto_region 5 with (first
    | (go_at_call 39;((with_reducible refine HAT.o.mono ?_);rintro e w6 ⟨⟨v,rfl,hv⟩,h1⟩;obtain rfl:v = .pointer none:=hv;have eO:=aa h1;clear h1)))
   clear x0 s0 s1 s2 m0;have ib:=aa (o7.o.over eO.o);have lI:=aa (dU.o.trans (eO.o.mono dU.o.size));have m0:=ib.o.jh;have z0:=ib.o.cell;go_wp2_with fail
   exact bodyPost_ret (Cx (ib.o.put (.slice none 0 0)) _ _ (.int .i64 2) 6 7 Qq rfl rfl) rfl ⟨lI.o.setCell (by show w.heap.size≤w.heap.size+1+1;omega) _,by rw[← KV.o];rfl⟩
 | some p =>
   obtain⟨i,s,r,rv,c⟩:=p;obtain⟨hf,hr1,hr2,hc1,hc2⟩:=jX.o;have Gl:=aa (Jt (c:=c) t hf.1 hr2);obtain⟨g,hA,hg1,hg2,hce,hfr,hput⟩:=gu.o.cell hf.1 hr2 hc2;have Gs:=aa hput;have Ba:=aa hce;have HFR:=aa hfr;have HA:=aa hA;clear hput hce hfr hA hf hr1 hr2 hc1 hc2
   go_upto_region 5 with (first
    | (go_at_call 39;((with_reducible refine HAT.o.mono ?_);rintro e w6 ⟨⟨v,rfl,hv⟩,h1⟩;obtain⟨pb,po,ha,rfl,_,_⟩:=hv;rw[HA.o]at ha;injection ha with ha;injection ha with ha1 ha2;subst ha1;subst ha2;rw[Nat.zero_add];have eO:=aa h1;clear h1)))
   clear x0 s0 s1 s2;have hgq:w.heap.size+3≤g:=by omega
   have hg5:g<w5.heap.size:=hg2;have lI:=aa (dU.o.trans (eO.o.mono dU.o.size));have c0:w6.cell? ⟨g,c,none⟩=some (.string (rv.l.getD c ⟨#[]⟩)):=(eO.o.cell (p:=⟨g,c,none⟩) hg5).trans Ba.o;have bM:=aa (gu.o.keep (w':=w6) fun y _ h2=>eO.o.block y h2);have hfr:=(bM.o.cell jX.o.1.1 jX.o.2.2.1 jX.o.2.2.2.2);obtain⟨g',hA',_,_,_,m0,hput⟩:=hfr;obtain rfl:g=g':=by have h1:=HA.o;rw[h1]at hA';injection hA' with h2;injection h2
   have Ld:=aa (hput t);clear hput hA';go_upto_region 8 with (fail)
   clear c0 m0;have KI:=aa ((FN.o.over eO.o).other ⟨g,c,none⟩ (.string t) (by show w.heap.size≠g;omega));have uJ:=aa ((o7.o.over eO.o).other ⟨g,c,none⟩ (.string t) (by show w.heap.size+1+1≠g;omega));have qP:=aa (lI.o.setCell (p:=⟨g,c,none⟩) (by show w.heap.size≤g;omega) (.string t));have Lj:=aa (lG w6 ⟨g,c,none⟩ (.string t));obtain⟨w7,hw7⟩:∃w7,w6.setCell ⟨g,c,none⟩ (.string t)=w7:=⟨_,rfl⟩;rw[hw7]at Ld KI uJ qP Lj ⊢;clear hw7;have x0:=KI.o.cell;have z0:=uJ.o.cell;have m0:=uJ.o.jh;go_wp2_with fail
   refine bodyPost_ret (Cx (uJ.o.put (.slice A2 n n)) _ _ (.int .i64 0) 6 7 Qq rfl rfl) rfl ⟨qP.o.setCell (by show w.heap.size≤w.heap.size+1+1;omega) _, ?_⟩;rw[← KV.o];refine⟨A2,sv.set i (s.put r c rv t),rfl, ?_, ?_⟩
   · exact Gl.o.trans (by rw[HM.o])
   · rw[lG,Lj.o]
     exact(Ld.o.keep fun y h1 _=>heap_setCell_other w7 _ y _ (by show y≠w.heap.size+1+1;omega)).up (by omega) eO.o.size
theorem YP (a b:Int)(ha:65≤a)(hab:a<b)(hb:b≤73):Op.bytesLess (strOfNums [a]).toList (strOfNums [b]).toList=true:=by
 obtain⟨i,rfl⟩:∃i:Nat,a=65+(i:Int):=⟨(a - 65).toNat,by omega⟩;obtain⟨j,rfl⟩:∃j:Nat,b=65+(j:Int):=⟨(b - 65).toNat,by omega⟩;have key:∀i:Nat,i<9→∀j:Nat,j<9→i<j→Op.bytesLess (strOfNums [65+(i:Int)]).toList (strOfNums [65+(j:Int)]).toList=true:=by decide +kernel
 exact key i (by omega) j (by omega) (by omega)
theorem YQ (a:Int):Op.bytesLess (⟨#[]⟩:ByteArray).toList (strOfNums [a]).toList=true:=by
 rw[oI,oI];rfl
theorem Qz:∀(ah:List ak)(last:ByteArray)(m i:Nat),m<256→i+ah.length≤3→(∀k (s:ak),ah[k]? = some s→s.nm=ng m (i+k))→(∀s:ak,ah[0]? = some s→Op.bytesLess last.toList s.nm.toList=true)→zN last ah
 | [],_,_,_,_,_,_,_=>trivial
 | s :: l,last,m,i,hm,hi,hn,h0=>by
   rw[aK]at hi;refine⟨h0 s rfl,Qz l s.nm m (i+1) hm (by omega) (fun k t ht=>by rw[hn (k+1) t (by simpa using ht)];congr 1;omega) fun t ht => ?_⟩;have h1:s.nm=ng m i:=hn 0 s rfl;have h2:t.nm=ng m (i+1):=hn 1 t (by simpa using ht)
   have hl:1≤l.length:=by
    cases l with
    | nil=>cases ht
    | cons _ _=>simp
   rw[h1,h2];unfold ng;have b1:=Co m i hm (by omega);have b2:=Co m (i+1) hm (by omega);exact YP _ _ b1.1 (I8 m i (i+1) (by omega)) b2.2
theorem UO (xs:List Int)(m i:Nat)(hi:i<kK m):(oC xs m)[i]? = some (wu xs m i (iA m) (gz m)):=by
 unfold oC;rw[iD,List.getElem?_range hi];rfl
theorem zf {ah:List ak}{xs:List Int}{m:Nat}(h:bF ah=oC xs m){k:Nat}{s:ak}(hs:ah[k]? = some s):k<kK m∧s.p=wu xs m k (iA m) (gz m):=by
 have h1:(bF ah)[k]? = some s.p:=tX hs;rw[h]at h1;have hk:k<kK m:=by have:=(dm.1 h1).1;rwa[Ag]at this
 rw[UO xs m k hk]at h1;exact⟨hk,(dX h1).symm⟩
theorem Ml {ah:List ak}{xs:List Int}{m:Nat}(hm:m<256)(hb:Bytes xs)(h:bF ah=oC xs m):zu ah∧(∀s∈ah,∀r∈s.rows,∀x∈r.l,zK x)∧ah.length=kK m:=by
 have hln:ah.length=kK m:=by have h:=congrArg List.length h;unfold bF at h;rwa[dN,Ag]at h
 have hS:=Je m;have hC:=Pz m;have hR:=Zn m
 have hall:∀s∈ah,∃k,k<kK m∧s.p=wu xs m k (iA m) (gz m):=fun s hs=>by
  obtain⟨k,hk⟩:=List.getElem?_of_mem hs;exact⟨k,zf h hk⟩
 refine⟨⟨by omega, ?_,fun s hs => ?_⟩,fun s hs r hr x hx => ?_,hln⟩
 · refine Qz ah _ m 0 hm (by omega) (fun k s hk=>by rw[Nat.zero_add];exact congrArg jf.nm (zf h hk).2) fun s hs => ?_
   rw[show s.nm=ng m 0 from congrArg jf.nm (zf h hs).2];exact YQ _
 · obtain ⟨k,hk,hp⟩:=hall s hs
   have e1:s.nm=ng m k:=congrArg jf.nm hp;have e2:s.ay=(gz m:Int):=congrArg jf.ay hp;have e3:dI s.rows=nV xs (iA m) (gz m) (k*(iA m*gz m)):=congrArg jf.rows hp;have hb:=Co m k hm (by omega);have hrl:s.rows.length=iA m:=by have h:=congrArg List.length e3;unfold dI at h;rwa[dN,Ew]at h
   refine⟨?_, ?_,by omega,by omega,by omega,fun r hr => ?_⟩
   · rw[e1];unfold ng
     rw[gK _ (fun x hx=>by rw[List.mem_singleton.1 hx];omega)];exact Zr _ hb.1 (by omega)
   · rw[e1];unfold ng;rw[strOfNums_size];show 1≤1000;omega
   · have h1:r.l∈dI s.rows:=List.mem_map_of_mem hr
     rw[e3]at h1;unfold nV at h1;obtain⟨j,_,h2⟩:=List.mem_map.1 h1;rw[← h2,vR,e2]
 · obtain⟨k,hk,hp⟩:=hall s hs
   have e3:dI s.rows=nV xs (iA m) (gz m) (k*(iA m*gz m)):=congrArg jf.rows hp;have h1:r.l∈dI s.rows:=List.mem_map_of_mem hr;rw[e3]at h1;unfold nV at h1;obtain⟨j,_,h2⟩:=List.mem_map.1 h1;rw[← h2]at hx;unfold jG at hx;obtain⟨c,_,h3⟩:=List.mem_map.1 hx;rw[← h3];exact Ve xs hb _
theorem Kg {w:World}{ah:List ak}(hx:qO w)(h:∀s∈ah,∀r∈s.rows,∀x∈r.l,zK x):∀s∈ah,∀r∈s.rows,∀x∈r.l,∀w1,Below w.heap.size w w1→Calls Tryz.prog 37 #[.string x] w1 fun e w'=>e = .returned (.bool true)∧Below w1.heap.size w1 w' :=
 fun s hs r hr x XQ w1 h1=>Jc x (h s hs r hr x XQ).1 w1 (hx.below h1)
theorem Ff {α : Type}{l:List α}{i j:Nat}{x y : α}(h:(l.set i x)[j]? = some y)(hi:i<l.length):(j=i∧y=x)∨(j≠i∧l[j]? = some y):=by
 rw[List.getElem?_set]at h;by_cases e:i=j
 · subst e
   rw[if_pos rfl,if_pos hi]at h;exact .inl ⟨rfl,(dX h).symm⟩
 · rw[if_neg e]at h
   exact .inr ⟨fun e2=>e e2.symm,h⟩
theorem at_set {α : Type}{l:List α}{i j:Nat}{x y : α}(h:l[j]? = some y)(hi:i<l.length):(l.set i x)[j]? = some (if j=i then x else y):=by
 rw[List.getElem?_set];by_cases e:i=j
 · subst e;rw[if_pos rfl,if_pos hi,if_pos rfl]
 · rw[if_neg e,if_neg (fun e2=>e e2.symm),h]
theorem adr {ah:List ak}{i r c:Nat}{s:ak}{rv:aN}(t:ByteArray)(hs:ah[i]? = some s)(hr:s.rows[r]? = some rv){nm:ByteArray}{row aI:Int}{o:Option (Nat × ak × Nat × aN × Nat)}(ho:qA ah nm row aI o) :
 ∃o',qA (ah.set i (s.put r c rv t)) nm row aI o'∧yN o'=yN o∧xG o'=if yN o=some (i,r,c)then t else xG o:=by
 have hil:=(dm.1 hs).1;have hrl:=(dm.1 hr).1
 have Ih:∀j u,First ah nm j u→First (ah.set i (s.put r c rv t)) nm j (if j=i then s.put r c rv t else u):=fun j u hf=>by
  refine⟨at_set hf.1 hil, ?_,fun k v hk hv => ?_⟩
  · by_cases e:j=i
    · subst e
      have h1:=hf.1;rw[hs]at h1;rw[if_pos rfl];obtain rfl:=dX h1;exact hf.2.1
    · rw[if_neg e];exact hf.2.1
  · rcases Ff hv hil with ⟨rfl,rfl⟩|⟨_,h2⟩
    · exact hf.2.2 k s hk hs
    · exact hf.2.2 k v hk h2
 cases o with
 | none =>
   refine⟨none, ?_,rfl,rfl⟩;rcases ho with ho|⟨j,u,hf,ho⟩
   · refine .inl fun k v hv => ?_
     rcases Ff hv hil with ⟨rfl,rfl⟩|⟨_,h2⟩
     · exact ho k s hs
     · exact ho k v h2
   · refine .inr ⟨j,_,Ih j u hf, ?_⟩
     by_cases e:j=i
     · subst e
       have h1:=hf.1;rw[hs]at h1;obtain rfl:=dX h1;rw[if_pos rfl];have hlen:(s.put r c rv t).rows.length=s.rows.length:=List.length_set;rcases ho with ho|⟨r2,JR,e1,e2,e3⟩
       · exact .inl (by rw[hlen];exact ho)
       · refine .inr ⟨r2,_,e1,at_set e2 hrl, ?_⟩
         by_cases er:r2=r
         · subst er
           rw[hr]at e2;obtain rfl:=dX e2;rw[if_pos rfl];show ¬ (0≤aI∧aI<((rv.l.set c t).length:Int));rw[List.length_set];exact e3
         · rw[if_neg er];exact e3
     · rw[if_neg e];exact ho
 | some p =>
   obtain⟨j,u,r2,JR,c2⟩:=p;obtain⟨hf,e1,e2,e3,e4⟩:=ho;by_cases e:j=i
   · subst e
     have h1:=hf.1;rw[hs]at h1;obtain rfl:=dX h1;have hf2:=Ih j s hf;rw[if_pos rfl]at hf2;by_cases er:r2=r
     · subst er
       rw[hr]at e2;obtain rfl:=dX e2;have h2:=at_set (x:=rv.put c t) hr hrl;rw[if_pos rfl]at h2;refine⟨some (j,_,r2,rv.put c t,c2),⟨hf2,e1,h2,e3,by show c2<(rv.l.set c t).length;rw[List.length_set];exact e4⟩,rfl, ?_⟩;show(rv.l.set c t).getD c2 _=if some (j,r2,c2)=some (j,r2,c)then t else rv.l.getD c2 _
       rw[iC,List.getElem?_set,iC];by_cases ec:c=c2
       · subst ec
         rw[if_pos rfl,if_pos e4,if_pos rfl];rfl
       · rw[if_neg ec,if_neg (fun h=>ec (by injection h with h;injection h with _ h;injection h with _ h;exact h.symm))]
     · have h2:=at_set (x:=rv.put c t) e2 hrl
       rw[if_neg er]at h2;refine⟨some (j,_,r2,JR,c2),⟨hf2,e1,h2,e3,e4⟩,rfl, ?_⟩;rw[if_neg (fun h=>er (by injection h with h;injection h with _ h;injection h with h _))];rfl
   · have hf2:=Ih j u hf
     rw[if_neg e]at hf2;refine⟨some (j,u,r2,JR,c2),⟨hf2,e1,e2,e3,e4⟩,rfl, ?_⟩;rw[if_neg (fun h=>e (by injection h with h;injection h with h _))]
theorem ZC {m i j:Nat}(hm:m<256)(hi:i<3)(hj:j<3)(h:ng m i=ng m j):i=j:=by
 have hbi:=Co m i hm hi;have hbj:=Co m j hm hj;have h1:=congrArg sb h;unfold ng at h1;rw[gK _ (fun x hx=>by rw[List.mem_singleton.1 hx];omega),gK _ (fun x hx=>by rw[List.mem_singleton.1 hx];omega)]at h1;injection h1 with h1 _;rcases Nat.lt_trichotomy i j with h2|h2|h2
 · have:=I8 m i j h2;omega
 · exact h2
 · have:=I8 m j i h2;omega
theorem adq {ah:List ak}{xs:List Int}{m:Nat}(hm:m<256)(h:bF ah=oC xs m){i r c:Nat}(hi:i<kK m)(hr:r<iA m)(hc:c<gz m) :
 ∃s rv,qA ah (ng m i) r c (some (i,s,r,rv,c))∧s.p=wu xs m i (iA m) (gz m)∧rv.l=jG xs (gz m) (i*(iA m*gz m)+r*gz m):=by
 have hS:=Je m;have hln:ah.length=kK m:=by have h:=congrArg List.length h;unfold bF at h;rwa[dN,Ag]at h
 obtain⟨s,hs⟩:∃s,ah[i]? = some s:=⟨_,bn (by omega)⟩;obtain⟨_,hp⟩:=zf h hs;have e3:dI s.rows=nV xs (iA m) (gz m) (i*(iA m*gz m)):=congrArg jf.rows hp;have hrl:s.rows.length=iA m:=by have h:=congrArg List.length e3;unfold dI at h;rwa[dN,Ew]at h
 obtain⟨rv,nQ⟩:∃rv,s.rows[r]? = some rv:=⟨_,bn (by omega)⟩;have h1:(dI s.rows)[r]? = some rv.l:=tX nQ;rw[e3]at h1;unfold nV at h1;rw[iD,List.getElem?_range hr]at h1;have h2:rv.l=jG xs (gz m) (i*(iA m*gz m)+r*gz m):=(dX h1).symm;refine⟨s,rv,⟨⟨hs,congrArg jf.nm hp,fun j t hj ht => ?_⟩,rfl,nQ,rfl,by rw[h2,vR];exact hc⟩,hp,h2⟩;obtain⟨hjn,hq⟩:=zf h ht;rw[show t.nm=ng m j from congrArg jf.nm hq];intro e;have:=ZC hm (by omega) (by omega) e;omega
theorem acv (w:World)(x:Int)(h0:0≤x)(h1:x≤255):S8 (w.alloc (.cells #[.int .u8 x] 5)) (w.alloc (.cells #[.int .u8 x] 5)).heap.size (some ⟨w.heap.size,0,none⟩) 1 1 [x] :=
 ⟨rfl,ag _,by unfold maxLen;omega,fun y hy=>by rw[List.mem_singleton.1 hy];exact⟨h0,h1⟩,.inr ⟨w.heap.size,0,rfl,by rw[kD];omega,fun j hj=>by
  obtain rfl:j=0:=by omega
  have:=fZ (w:=w) #[.int .u8 x] 5 [.int .u8 x] rfl 0 _ rfl;rwa[Addr.add_mid]at this⟩⟩
theorem ZV:mU ⟨#[55]⟩ ⟨#[55]⟩ 0:=by
 have:=OM [55] (fun x hx=>by rw[List.mem_singleton.1 hx];omega) (by decide) (by decide);rwa[show strOfNums [55]=(⟨#[55]⟩:ByteArray)from by decide]at this
theorem ZG:ng 0 0=⟨#[65]⟩:=by decide
theorem Uv (w:World)(hx:qO w):Calls Tryz.prog 9 #[] w fun e w'=>e = .returned (.bool true)∧Below w.heap.size w w':=by
 have HX:=aa hx;have iF:=aa ((ai w.heap.size w).alloc (ag _) (.cells #[.int .u8 3] 5))
 have gM:=aa (show Calls Tryz.prog 10 #[.slice (some ⟨w.heap.size,0,none⟩) 1 1,.int .u8 0] (w.alloc (.cells #[.int .u8 3] 5)) fun e w'=>Below (w.alloc (.cells #[.int .u8 3] 5)).heap.size (w.alloc (.cells #[.int .u8 3] 5)) w'∧∃A' c' ah,e = .returned (.agg #[.slice A' 1 c'])∧bF ah=oC [3] 0∧eH w' w'.heap.size (.slice A' 1 c') ah from
  Mm _ _ 1 1 [3] (acv w 3 (by omega) (by omega)) (by omega) 0 (by omega))
 have Bz:=aa (fun (w2:World)(hw:Below w.heap.size w w2)(A':Option Addr)(c':Nat)(ah:List ak)(hp:bF ah=oC [3] 0)(hr:eH w2 w2.heap.size (.slice A' 1 c') ah) =>
  (show Calls Tryz.prog 11 #[.agg #[.slice A' 1 c'],.agg #[.string ⟨#[65]⟩,.int .i64 0,.int .i64 0],.string ⟨#[55]⟩] w2 fun e w'=>Below w2.heap.size w2 w'∧∃A2 sv,e = .returned (.tuple #[.agg #[.slice A2 1 1],.int .i64 0])∧eH w' w'.heap.size (.slice A2 1 1) sv∧∃o,qA sv ⟨#[65]⟩ 0 0 o∧xG o=⟨#[55]⟩from by
    obtain⟨hok,htx,hln⟩:=Ml (m:=0) (by omega) (fun x hx=>by rw[List.mem_singleton.1 hx];omega) hp;obtain⟨s,rv,hsp,hsn,hrl⟩:=adq (m:=0) (by omega) hp (i:=0) (r:=0) (c:=0) (by decide) (by decide) (by decide);rw[ZG]at hsp;refine(QO w2 A' 1 c' ah ⟨#[65]⟩ 0 0 ⟨#[55]⟩ _ hr hok.sz hsp (fun w3 h3=>Ja w3 A' 1 c' ah (hr.lift h3) hok (Kg ((hx.below hw).below h3) htx)) (fun w3 h3=>Jc _ ZV w3 ((hx.below hw).below h3))).mono ?_;rintro e w' ⟨hb,A2,sv,he,zY,WR⟩;refine⟨hb,A2,sv,he,WR.wX (ag _), ?_⟩;obtain⟨o1,k1,k2,k3⟩:=adr ⟨#[55]⟩ hsp.1.1 hsp.2.2.1 hsp (c:=0);rw[← Jt (c:=0) ⟨#[55]⟩ hsp.1.1 hsp.2.2.1]at zY;obtain⟨o2,j1,_,tO⟩:=J4 zY k1;exact⟨o2,j1,by rw[tO,k3];rfl⟩))
 have Bi:=aa (fun (w2:World)=>show Calls Tryz.prog 15 #[.agg #[.slice none 0 0],.agg #[.string ⟨#[65]⟩,.int .i64 0,.int .i64 0]] w2 fun e w'=>e = .returned (.string ⟨#[]⟩)∧Below w2.heap.size w2 w' from HY w2 none 0 0 [] ⟨#[65]⟩ 0 0 none (eH.nil w2 _) (by omega) (.inl fun j t ht=>by simp at ht));clear hx;go_enter Tryz.func9,Tryz.ntmps9
 go_upto_region 2 with (first
  | (go_at_call 10;((with_reducible refine gM.o.mono ?_);rintro e w2 ⟨h1,A1,c1,ah,rfl,hp,hr⟩;have H2:=aa (iF.o.trans (h1.mono iF.o.size));have HP:=aa hp;have HR:=aa hr;clear h1 hp hr))
  | (go_at_call 11;((with_reducible refine(Bz.o w2 H2.o A1 c1 ah HP.o HR.o).mono ?_);rintro e w3 ⟨h1,A2,sv,rfl,hr,ho⟩;have H3:=aa (H2.o.trans (h1.mono H2.o.size));have HR3:=aa hr;have fA:=aa ho;clear h1 hr ho)))
 have bG:=aa (kJ w3 (.slice A2 1 1));have Bj:=aa (aY.new w3 (.slice A2 1 1));obtain⟨w4,hw4⟩:∃w4,w3.alloc (.cells #[.slice A2 1 1] 26)=w4:=⟨_,rfl⟩;rw[hw4]at bG Bj ⊢;clear hw4;have H4:=aa (H3.o.trans (bG.o.mono H3.o.size));have HR4:=aa (HR3.o.lift bG.o);obtain⟨o,ho,htx⟩:=fA.o;have Si:=aa (fun (w5:World)(h5:Below w4.heap.size w4 w5)=>(show Calls Tryz.prog 15 #[.agg #[.slice A2 1 1],.agg #[.string ⟨#[65]⟩,.int .i64 0,.int .i64 0]] w5 fun e w'=>e = .returned (.string ⟨#[55]⟩)∧Below w5.heap.size w5 w' from htx ▸ HY w5 A2 1 1 sv ⟨#[65]⟩ 0 0 o (HR4.o.lift h5) (by omega) ho));clear ho htx;have x0:=Bj.o.cell
 go_wp2_with (first
  | (go_at_call 15;((with_reducible refine(Bi.o _).mono ?_);rintro e w5 ⟨rfl,h1⟩;have aQ:=aa h1;have y0:=(Bj.o.over h1).cell;clear h1))
  | (go_at_call 15;((with_reducible refine(Si.o _ aQ.o).mono ?_);rintro e w6 ⟨rfl,h1⟩;have eO:=aa (H4.o.trans ((aQ.o.trans (h1.mono aQ.o.size)).mono H4.o.size));clear h1))
  | (go_at_call 18;((with_reducible refine(PN _ _).mono ?_);rintro e wn ⟨rfl,rfl⟩)))
 go_ret;exact⟨rfl,eO.o⟩
theorem abz (w:World)(a b:ak)(h1:jM w w.heap.size (.slice a.A a.rows.length a.cap) a.rows)(h2:jM w w.heap.size (.slice b.A b.rows.length b.cap) b.rows) :
 Calls Tryz.prog 49 #[.agg #[.string a.nm,.int .i64 a.ay,.slice a.A a.rows.length a.cap],.agg #[.string b.nm,.int .i64 b.ay,.slice b.A b.rows.length b.cap]] w fun e w'=>e = .returned (.bool (decide (a.p=b.p)))∧Below w.heap.size w w':=by
 obtain⟨w2,hw2,hb,hs1,hs2,hsz⟩:=Kk w a.nm b.nm a.ay b.ay (.slice a.A a.rows.length a.cap) (.slice b.A b.rows.length b.cap);have htl:=CZ a.nm b.nm;have HB:=aa hb;have dG:=aa hs1;have HS2:=aa hs2;have HX:=aa (h1.lift hb);have fB:=aa (h2.lift hb);have hmx:a.rows.length≤9223372036854775807:=by have:=h1.1.len.2;unfold maxLen at this;omega
 clear h1 h2 hb hs1 hs2;obtain⟨n,hn⟩:∃n,a.rows.length=n:=⟨_,rfl⟩;obtain⟨m,hm⟩:∃m,b.rows.length=m:=⟨_,rfl⟩;have hq2:w.heap.size<w2.heap.size:=by omega
 have hq3:w.heap.size+1<w2.heap.size:=by omega
 have hlx:(dI a.rows).length=n:=by unfold dI;rw[dN];exact hn
 have uP:(dI b.rows).length=m:=by unfold dI;rw[dN];exact hm
 have nZ:=aa hlx;have Bp:=aa uP;rw[hn]at hw2 dG HX hmx ⊢;rw[hm]at hw2 HS2 fB ⊢;have HN:=aa hn;have HM:=aa hm;clear hn hm hsz hlx uP;by_cases e1:a.nm=b.nm
 · rw [decide_eq_true e1]at htl
   have Be:=aa e1;clear e1;by_cases e2:a.ay=b.ay
   · have HE2 := aa e2
     clear e2;by_cases hnm:n=m
     · subst hnm
       go_enter Tryz.func49,Tryz.ntmps49;go_upto_region 1 with (fail)
       clear hw2;have e2b:(a.ay == b.ay)=true:=beq_iff_eq.2 HE2.o;obtain⟨x0,x1,x2⟩:=dG.o.cells;obtain⟨y0,y1,y2⟩:=HS2.o.cells;go_upto_region 4 with (fail)
       clear x0 x1 x2 y0 y1 y2 e2b
       go_loopw [5] (fun iv wr=>∃i:Nat,i≤n∧iv = .int .i64 (i:Int)∧Hid (∀j,j<i→(dI a.rows)[j]? = (dI b.rows)[j]?)∧Hid (Below w2.heap.size w2 wr))
        (fun iv _=>n - (intOf iv).toNat)
       case atStart=>exact⟨0,cu _,rfl,aa (fun j h=>by omega),aa (ai _ _)⟩
       case round =>
        obtain⟨i,hi,rfl,HT,HR⟩:=hrel;have b0:=(dG.o.over HR.o).cells.2.2;have b1:=(HS2.o.over HR.o).cells.2.2;by_cases hlt:i<n
        · have hii:(i:Int)<(n:Int):=by omega
          have hi0:(0:Int)≤(i:Int):=by omega
          obtain⟨x,hx⟩:∃x,a.rows[i]? = some x:=⟨_,bn (by rw[HN.o];exact hlt)⟩;obtain⟨y,hy⟩:∃y,b.rows[i]? = some y:=⟨_,bn (by rw[HM.o];exact hlt)⟩;obtain⟨pb,po,ea,hpb,e0,hrx⟩:=rH HX.o hx;obtain⟨di,dJ,eb,mq,f0,Cf⟩:=rH fB.o hy;have x0:wr.cell? ⟨pb,po+i,none⟩=some (.slice x.A x.l.length x.cap):=(HR.o.cell (p:=⟨pb,po+i,none⟩) hpb).trans e0;have y0:wr.cell? ⟨di,dJ+i,none⟩=some (.slice y.A y.l.length y.cap):=(HR.o.cell (p:=⟨di,dJ+i,none⟩) mq).trans f0;rw[ea]at b0;rw[eb]at b1;have nD:=aa (show(dI a.rows)[i]? = some x.l from tX hx);have wP:=aa (show(dI b.rows)[i]? = some y.l from tX hy);have he:=fun (wq:World)(hb:Below wr.heap.size wr wq)=>abE wq x.A x.l.length x.cap x.l y.A y.l.length y.cap y.l ((hrx.lift HR.o).lift hb) ((Cf.lift HR.o).lift hb)
          have fw:=aa (Below.drew (ai wr.heap.size wr));have XN:w2.heap.size≤wr.heap.size:=HR.o.size
          have gN:=aa (fun (w':World)(hb:Below wr.heap.size wr w')=>(show w'.cell? ⟨w.heap.size,2,none⟩=some (.slice (some ⟨pb,po,none⟩) n a.cap)∧w'.cell? ⟨w.heap.size+1,2,none⟩=some (.slice (some ⟨di,dJ,none⟩) n b.cap)∧w'.cell? ⟨pb,po+i,none⟩=some (.slice x.A x.l.length x.cap)∧w'.cell? ⟨di,dJ+i,none⟩=some (.slice y.A y.l.length y.cap)from
           ⟨(hb.cell (p:=⟨w.heap.size,2,none⟩) (by show w.heap.size<wr.heap.size;omega)).trans b0,(hb.cell (p:=⟨w.heap.size+1,2,none⟩) (by show w.heap.size+1<wr.heap.size;omega)).trans b1,(hb.cell (p:=⟨pb,po+i,none⟩) (by show pb<wr.heap.size;omega)).trans x0,(hb.cell (p:=⟨di,dJ+i,none⟩) (by show di<wr.heap.size;omega)).trans y0⟩))
          clear e0 f0 hx hy hrx Cf ea eb;by_cases hxy:x.l=y.l
          · simp only [decide_eq_true hxy]at he
            have HE:=aa he;have HF:=aa (Km nD.o (hxy ▸ wP.o) HT.o);clear he hxy;go_upto_region 6 with (fail)
            go_region_held3 (fun w'=>w'.cell? ⟨w.heap.size,2,none⟩=some (.slice (some ⟨pb,po,none⟩) n a.cap)∧w'.cell? ⟨w.heap.size+1,2,none⟩=some (.slice (some ⟨di,dJ,none⟩) n b.cap)∧w'.cell? ⟨pb,po+i,none⟩=some (.slice x.A x.l.length x.cap)∧w'.cell? ⟨di,dJ+i,none⟩=some (.slice y.A y.l.length y.cap)) (first|exact⟨b0,b1,x0,y0⟩|exact gN.o _ H3.o) (first
             | (go_at_call 76;((with_reducible refine(HE.o _ fw.o).mono ?_);rintro e w3 ⟨rfl,h1⟩;have H3:=aa (fw.o.trans (h1.mono fw.o.size));clear h1)))
            all_goals go_wp2_with fail
            all_goals go_roundw
            all_goals first
             | exact⟨i+1,by omega,by go_num,HF,aa (HR.o.trans (H3.o.mono HR.o.size))⟩
             | (simp[intOf];omega)
          · simp only [decide_eq_false hxy]at he
            have HE:=aa he;have HF:=aa (decide_eq_false (EM (.inr (.inr (Jg nD.o wP.o hxy)))));clear he hxy;go_upto_region 6 with (fail)
            go_region_held3 (fun w'=>w'.cell? ⟨w.heap.size,2,none⟩=some (.slice (some ⟨pb,po,none⟩) n a.cap)∧w'.cell? ⟨w.heap.size+1,2,none⟩=some (.slice (some ⟨di,dJ,none⟩) n b.cap)∧w'.cell? ⟨pb,po+i,none⟩=some (.slice x.A x.l.length x.cap)∧w'.cell? ⟨di,dJ+i,none⟩=some (.slice y.A y.l.length y.cap)) (first|exact⟨b0,b1,x0,y0⟩|exact gN.o _ H3.o) (first
             | (go_at_call 76;((with_reducible refine(HE.o _ fw.o).mono ?_);rintro e w3 ⟨rfl,h1⟩;have H3:=aa (fw.o.trans (h1.mono fw.o.size));clear h1)))
            all_goals go_wp2_with fail
            all_goals go_ret
            all_goals exact⟨dD HF.o.symm,HB.o.trans ((HR.o.trans (H3.o.mono HR.o.size)).mono HB.o.size)⟩
        · have hii:¬ (i:Int)<(n:Int):=by omega
          have HF:=aa (decide_eq_true (aas Be.o HE2.o (Hu nZ.o Bp.o (fun j hj=>HT.o j (by omega)))));go_wp2_with fail
          go_ret;exact⟨dD HF.o.symm,HB.o.trans (HR.o.mono HB.o.size)⟩
     · have hii:¬ (n:Int)=(m:Int):=by omega
       have hib:((n:Int) == (m:Int))=false:=beq_eq_false_iff_ne.2 hii;have HF:=aa (decide_eq_false (EM (a:=a) (b:=b) (.inr (.inr (fun e=>hnm (by rw[← nZ.o, ← Bp.o,e]))))));clear hnm;go_enter Tryz.func49,Tryz.ntmps49;go_upto_region 1 with (fail)
       clear hw2;have e2b:(a.ay == b.ay)=true:=beq_iff_eq.2 HE2.o;obtain⟨x0,x1,x2⟩:=dG.o.cells;obtain⟨y0,y1,y2⟩:=HS2.o.cells;go_wp2_with fail
       go_ret;exact⟨dD HF.o.symm,HB.o⟩
   · have e2b:(a.ay == b.ay)=false:=beq_eq_false_iff_ne.2 e2
     have HF:=aa (decide_eq_false (EM (.inr (.inl e2))));go_enter Tryz.func49,Tryz.ntmps49;go_upto_region 1 with (fail)
     clear hw2;obtain⟨x0,x1,x2⟩:=dG.o.cells;obtain⟨y0,y1,y2⟩:=HS2.o.cells;go_wp2_with fail
     go_ret;exact⟨dD HF.o.symm,HB.o⟩
 · rw[decide_eq_false e1]at htl
   have HF:=aa (decide_eq_false (EM (.inl e1)));clear e1;go_enter Tryz.func49,Tryz.ntmps49;go_upto_region 1 with (fail)
   clear hw2;obtain⟨x0,x1,x2⟩:=dG.o.cells;obtain⟨y0,y1,y2⟩:=HS2.o.cells;go_wp2_with fail
   go_ret;exact⟨dD HF.o.symm,HB.o⟩
theorem aby (w:World)(A:Option Addr)(n cap:Nat)(xs:List ak)(B:Option Addr)(m c:Nat)(ys:List ak)(h1:eH w w.heap.size (.slice A n cap) xs)(h2:eH w w.heap.size (.slice B m c) ys) :
 Calls Tryz.prog 17 #[.agg #[.slice A n cap],.agg #[.slice B m c]] w fun e w'=>e = .returned (.bool (decide (bF xs=bF ys)))∧Below w.heap.size w w':=by
 obtain⟨w2,hw2,hb,hs1,hs2,hsz⟩:=Fy w (.slice A n cap) (.slice B m c);have HB:=aa hb;have dG:=aa hs1;have HS2:=aa hs2;have HX:=aa (h1.lift hb);have fB:=aa (h2.lift hb);have hmx:n≤9223372036854775807:=by have:=h1.1.len.2;unfold maxLen at this;omega
 have hq2:w.heap.size<w2.heap.size:=by omega
 have hq3:w.heap.size+1<w2.heap.size:=by omega
 have HN:=aa h1.1.len.1;have HM:=aa h2.1.len.1;have nZ:=aa (show(bF xs).length=n by unfold bF;rw[dN];exact HN.o);have Bp:=aa (show(bF ys).length=m by unfold bF;rw[dN];exact HM.o);clear h1 h2 hb hs1 hs2 hsz;by_cases hnm:n=m
 · subst hnm
   go_enter Tryz.func17,Tryz.ntmps17;go_upto_region 1 with (fail)
   clear hw2;have x0:=dG.o.cell;have y0:=HS2.o.cell;go_upto_region 4 with (fail)
   clear x0 y0
   go_loopw [5] (fun iv wr=>∃i:Nat,i≤n∧iv = .int .i64 (i:Int)∧Hid (∀j,j<i→(bF xs)[j]? = (bF ys)[j]?)∧Hid (Below w2.heap.size w2 wr))
    (fun iv _=>n - (intOf iv).toNat)
   case atStart=>exact⟨0,cu _,rfl,aa (fun j h=>by omega),aa (ai _ _)⟩
   case round =>
    obtain⟨i,hi,rfl,HT,HR⟩:=hrel;have b0:=(dG.o.over HR.o).cell;have b1:=(HS2.o.over HR.o).cell;by_cases hlt:i<n
    · have hii:(i:Int)<(n:Int):=by omega
      have hi0:(0:Int)≤(i:Int):=by omega
      obtain⟨x,hx⟩:∃x,xs[i]? = some x:=⟨_,bn (by rw[HN.o];exact hlt)⟩;obtain⟨y,hy⟩:∃y,ys[i]? = some y:=⟨_,bn (by rw[HM.o];exact hlt)⟩;obtain⟨pb,po,rfl,hpb,e0,e1,e2,hrx⟩:=oP HX.o hx;obtain⟨di,dJ,rfl,mq,f0,f1,f2,Cf⟩:=oP fB.o hy;have x0:wr.cell? ⟨pb,po+i*3,none⟩=some (.string x.nm):=(HR.o.cell (p:=⟨pb,po+i*3,none⟩) hpb).trans e0;have x1:wr.cell? ⟨pb,po+i*3+1,none⟩=some (.int .i64 x.ay):=(HR.o.cell (p:=⟨pb,po+i*3+1,none⟩) hpb).trans e1;have x2:wr.cell? ⟨pb,po+i*3+2,none⟩=some (.slice x.A x.rows.length x.cap):=(HR.o.cell (p:=⟨pb,po+i*3+2,none⟩) hpb).trans e2;have y0:wr.cell? ⟨di,dJ+i*3,none⟩=some (.string y.nm):=(HR.o.cell (p:=⟨di,dJ+i*3,none⟩) mq).trans f0;have y1:wr.cell? ⟨di,dJ+i*3+1,none⟩=some (.int .i64 y.ay):=(HR.o.cell (p:=⟨di,dJ+i*3+1,none⟩) mq).trans f1;have y2:wr.cell? ⟨di,dJ+i*3+2,none⟩=some (.slice y.A y.rows.length y.cap):=(HR.o.cell (p:=⟨di,dJ+i*3+2,none⟩) mq).trans f2;have nD:=aa (show(bF xs)[i]? = some x.p from tX hx);have wP:=aa (show(bF ys)[i]? = some y.p from tX hy);have he:=fun (wq:World)(hb:Below wr.heap.size wr wq)=>abz wq x y ((hrx.lift HR.o).lift hb) ((Cf.lift HR.o).lift hb)
      have fw:=aa (Below.drew (ai wr.heap.size wr));have XN:w2.heap.size≤wr.heap.size:=HR.o.size
      have gN:=aa (fun (w':World)(hb:Below wr.heap.size wr w')=>(show w'.cell? ⟨w.heap.size,0,none⟩=some (.slice (some ⟨pb,po,none⟩) n cap)∧w'.cell? ⟨w.heap.size+1,0,none⟩=some (.slice (some ⟨di,dJ,none⟩) n c)∧w'.cell? ⟨pb,po+i*3,none⟩=some (.string x.nm)∧w'.cell? ⟨pb,po+i*3+1,none⟩=some (.int .i64 x.ay)∧w'.cell? ⟨pb,po+i*3+2,none⟩=some (.slice x.A x.rows.length x.cap)∧w'.cell? ⟨di,dJ+i*3,none⟩=some (.string y.nm)∧w'.cell? ⟨di,dJ+i*3+1,none⟩=some (.int .i64 y.ay)∧w'.cell? ⟨di,dJ+i*3+2,none⟩=some (.slice y.A y.rows.length y.cap)from
       ⟨(hb.cell (p:=⟨w.heap.size,0,none⟩) (by show w.heap.size<wr.heap.size;omega)).trans b0,(hb.cell (p:=⟨w.heap.size+1,0,none⟩) (by show w.heap.size+1<wr.heap.size;omega)).trans b1,(hb.cell (p:=⟨pb,po+i*3,none⟩) (by show pb<wr.heap.size;omega)).trans x0,(hb.cell (p:=⟨pb,po+i*3+1,none⟩) (by show pb<wr.heap.size;omega)).trans x1,(hb.cell (p:=⟨pb,po+i*3+2,none⟩) (by show pb<wr.heap.size;omega)).trans x2,(hb.cell (p:=⟨di,dJ+i*3,none⟩) (by show di<wr.heap.size;omega)).trans y0,(hb.cell (p:=⟨di,dJ+i*3+1,none⟩) (by show di<wr.heap.size;omega)).trans y1,(hb.cell (p:=⟨di,dJ+i*3+2,none⟩) (by show di<wr.heap.size;omega)).trans y2⟩))
      clear e0 e1 e2 f0 f1 f2 hx hy hrx Cf;by_cases hxy:x.p=y.p
      · simp only [decide_eq_true hxy]at he
        have HE:=aa he;have HF:=aa (Km nD.o (hxy ▸ wP.o) HT.o);clear he hxy;go_upto_region 6 with (fail)
        go_region_held3 (fun w'=>w'.cell? ⟨w.heap.size,0,none⟩=some (.slice (some ⟨pb,po,none⟩) n cap)∧w'.cell? ⟨w.heap.size+1,0,none⟩=some (.slice (some ⟨di,dJ,none⟩) n c)∧w'.cell? ⟨pb,po+i*3,none⟩=some (.string x.nm)∧w'.cell? ⟨pb,po+i*3+1,none⟩=some (.int .i64 x.ay)∧w'.cell? ⟨pb,po+i*3+2,none⟩=some (.slice x.A x.rows.length x.cap)∧w'.cell? ⟨di,dJ+i*3,none⟩=some (.string y.nm)∧w'.cell? ⟨di,dJ+i*3+1,none⟩=some (.int .i64 y.ay)∧w'.cell? ⟨di,dJ+i*3+2,none⟩=some (.slice y.A y.rows.length y.cap)) (first|exact⟨b0,b1,x0,x1,x2,y0,y1,y2⟩|exact gN.o _ H3.o) (first
         | (go_at_call 49;((with_reducible refine(HE.o _ fw.o).mono ?_);rintro e w3 ⟨rfl,h1⟩;have H3:=aa (fw.o.trans (h1.mono fw.o.size));clear h1)))
        all_goals go_wp2_with fail
        all_goals go_roundw
        all_goals first
         | exact⟨i+1,by omega,by go_num,HF,aa (HR.o.trans (H3.o.mono HR.o.size))⟩
         | (simp[intOf];omega)
      · simp only [decide_eq_false hxy]at he
        have HE:=aa he;have HF:=aa (decide_eq_false (Jg nD.o wP.o hxy));clear he hxy;go_upto_region 6 with (fail)
        go_region_held3 (fun w'=>w'.cell? ⟨w.heap.size,0,none⟩=some (.slice (some ⟨pb,po,none⟩) n cap)∧w'.cell? ⟨w.heap.size+1,0,none⟩=some (.slice (some ⟨di,dJ,none⟩) n c)∧w'.cell? ⟨pb,po+i*3,none⟩=some (.string x.nm)∧w'.cell? ⟨pb,po+i*3+1,none⟩=some (.int .i64 x.ay)∧w'.cell? ⟨pb,po+i*3+2,none⟩=some (.slice x.A x.rows.length x.cap)∧w'.cell? ⟨di,dJ+i*3,none⟩=some (.string y.nm)∧w'.cell? ⟨di,dJ+i*3+1,none⟩=some (.int .i64 y.ay)∧w'.cell? ⟨di,dJ+i*3+2,none⟩=some (.slice y.A y.rows.length y.cap)) (first|exact⟨b0,b1,x0,x1,x2,y0,y1,y2⟩|exact gN.o _ H3.o) (first
         | (go_at_call 49;((with_reducible refine(HE.o _ fw.o).mono ?_);rintro e w3 ⟨rfl,h1⟩;have H3:=aa (fw.o.trans (h1.mono fw.o.size));clear h1)))
        all_goals go_wp2_with fail
        all_goals go_ret
        all_goals exact⟨dD HF.o.symm,HB.o.trans ((HR.o.trans (H3.o.mono HR.o.size)).mono HB.o.size)⟩
    · have hii:¬ (i:Int)<(n:Int):=by omega
      have HF:=aa (decide_eq_true (Hu nZ.o Bp.o (fun j hj=>HT.o j (by omega))));go_wp2_with fail
      go_ret;exact⟨dD HF.o.symm,HB.o.trans (HR.o.mono HB.o.size)⟩
 · have hii:¬ (n:Int)=(m:Int):=by omega
   have hib:((n:Int) == (m:Int))=false:=beq_eq_false_iff_ne.2 hii;have HF:=aa (show decide (bF xs=bF ys)=false from decide_eq_false (fun e=>hnm (by rw[← nZ.o, ← Bp.o,e])));clear hnm;go_enter Tryz.func17,Tryz.ntmps17;go_upto_region 1 with (fail)
   clear hw2;have x0:=dG.o.cell;have y0:=HS2.o.cell;go_wp2_with fail
   go_ret;exact⟨dD HF.o.symm,HB.o⟩
theorem aeN {ah:List ak}{xs:List Int}{m:Nat}(h:bF ah=oC xs m):G5 ah:=by
 intro s hs r hr e;obtain⟨k,hk⟩:=List.getElem?_of_mem hs;obtain⟨_,hp⟩:=zf h hk;have e3:dI s.rows=nV xs (iA m) (gz m) (k*(iA m*gz m)):=congrArg jf.rows hp;have h1:r.l∈dI s.rows:=List.mem_map_of_mem hr;rw[e3]at h1;unfold nV at h1;obtain⟨j,_,h2⟩:=List.mem_map.1 h1;have h3:=congrArg List.length h2;rw[vR,e]at h3;have:=Pz m;simp at h3;omega
def kX(r:aN)(lo hi:Nat):Prop:=∀g,r.v.ownBlock=some g→lo≤g∧g<hi
def lT(s:ak)(lo hi:Nat):Prop:=df kX s.rows lo hi
theorem kX.up(r:aN)(a b c d:Nat)(h1:a≤b)(h2:c≤d)(_:b≤c)(h:kX r b c):kX r a d:=fun g hg=>⟨bZ h1 (h g hg).1,eU (h g hg).2 h2⟩
theorem lT.up(s:ak)(a b c d:Nat)(h1:a≤b)(h2:c≤d)(_:b≤c)(h:lT s b c):lT s a d:=df.up kX.up h h1 h2
theorem kX.snoc{rows:List aN}{r:aN}{lo mid hi:Nat}(h:df kX rows lo mid)(h1:mid≤hi)(hr:kX r mid hi):df kX (rows++[r]) lo hi:=df.snoc h h1 hr fun y a b c hbc hab hy=>kX.up y a b c c hab (ag _) hbc hy
theorem lT.snoc{ah:List ak}{s:ak}{lo mid hi:Nat}(h:df lT ah lo mid)(h1:mid≤hi)(hr:lT s mid hi):df lT (ah++[s]) lo hi:=df.snoc h h1 hr fun y a b c hbc hab hy=>lT.up y a b c c hab (ag _) hbc hy
theorem kX.of{w:World}{lo hi:Nat}{r:aN}(h:Own fE 9 w lo r.v r.l)(hw:w.heap.size≤hi):kX r lo hi:=fun _ hg=>⟨(h.lies hg).1,eU (h.less hg) hw⟩
theorem aa4 (w:World)(s:ak)(h:jM w w.heap.size (.slice s.A s.rows.length s.cap) s.rows)(hn:s.rows.length≤1000000)(hz:∀r∈s.rows,r.l.length≤1000000∧r.l≠[]) :
 Calls Tryz.prog 72 #[.agg #[.string s.nm,.int .i64 s.ay,.slice s.A s.rows.length s.cap]] w fun e w'=>Below w.heap.size w w'∧∃A' n' c' iB,e = .returned (.agg #[.string s.nm,.int .i64 s.ay,.slice A' n' c'])∧iB.map (·.l)=s.rows.map (·.l)∧iB.length=n'∧iH w' w.heap.size (.slice A' n' c') iB∧df kX iB w.heap.size w'.heap.size:=by
 obtain⟨w2,hw2,hb,hs1,hs2,hsz⟩:=Kk w s.nm ⟨#[]⟩ s.ay 0 (.slice s.A s.rows.length s.cap) (.slice none 0 0);obtain⟨n,hn2⟩:∃n,s.rows.length=n:=⟨_,rfl⟩;rw[hn2]at hw2 hs1 h hn ⊢;have HX:=aa h;have j4:=aa hz;have HL:=aa hn2;have HB:=aa hb;have dG:=aa hs1;have HS2:=aa hs2;have jZ:=aa hsz;clear h hz hb hs1 hs2 hn2 hsz;go_enter Tryz.func72,Tryz.ntmps72;go_upto_region 1 with (fail)
 clear hw2;obtain⟨x0,x1,x2⟩:=dG.o.cells;go_upto_region 2 with (fail)
 clear x0 x1 x2;have iF:=aa (nJ w2 s.nm s.ay (.slice none 0 0));have HN:=aa (ShAt.new w2 s.nm s.ay (.slice none 0 0));have hq2:=jZ.o;rw[hq2]at HN;rw[hq2]
 have HI:=aa (show uA w (w2.alloc (.cells #[.string s.nm,.int .i64 s.ay,.slice none 0 0] 73)) s.nm s.ay (.slice s.A n s.cap) (.slice none 0 0) []from
  ⟨dG.o.over iF.o,HS2.o.over iF.o,HN.o,iH.nil _ _,HB.o.trans (iF.o.mono HB.o.size)⟩)
 obtain⟨w3,hw3⟩:∃w3,w2.alloc (.cells #[.string s.nm,.int .i64 s.ay,.slice none 0 0] 73)=w3:=⟨_,rfl⟩;rw[hw3]at HI iF HN ⊢;clear hw3;go_upto_region 3 with (fail)
 go_loopw [4] (fun iv wr=>∃(i:Nat)(A1:Option Addr)(c1:Nat)(done:List aN),i≤n∧iv = .int .i64 (i:Int)∧Hid (done.length=i)∧Hid (dI done=(dI s.rows).take i)∧Hid (uA w wr s.nm s.ay (.slice s.A n s.cap) (.slice A1 i c1) done)∧Hid (df kX done w.heap.size wr.heap.size))
  (fun iv _=>n - (intOf iv).toNat)
 case atStart=>exact⟨0,none,0,[],cu _,rfl,aa rfl,aa rfl,HI,aa HI.o.fV.size⟩
 case round =>
  obtain⟨i,A1,c1,done,hi,rfl,HD,HM,HC,o8⟩:=hrel;obtain⟨x0,x1,x2⟩:=HC.o.par.cells;by_cases hlt:i<n
  · have hii:(i:Int)<(n:Int):=by omega
    have hi0:(0:Int)≤(i:Int):=by omega
    obtain⟨x,hx⟩:∃x,s.rows[i]? = some x:=⟨_,bn (by rw[HL.o];exact hlt)⟩;obtain⟨pb,po,hA,hpb,e0,hrx⟩:=rH HX.o hx;have hxz:=j4.o x (dz hx);have hwr:w.heap.size≤wr.heap.size:=HC.o.fV.size;have y0:wr.cell? ⟨pb,po+i,none⟩=some (.slice x.A x.l.length x.cap):=(HC.o.fV.cell (p:=⟨pb,po+i,none⟩) hpb).trans e0;have nD:=aa (show(dI s.rows).take (i+1)=(dI s.rows).take i++[x.l]from by unfold dI;rw[List.take_add_one,iD,hx];rfl);obtain⟨k,hk⟩:∃k,x.l.length=k:=⟨_,rfl⟩;have HK:=aa hk;have uH:=aa (show iI fE wr wr.heap.size (.slice x.A x.l.length x.cap) x.l from(hrx.below HC.o.fV (ag _)).mono hwr);have hkz:k≤1000000:=by rw[← hk];exact hxz.1
    obtain ⟨ad,Nb⟩:∃ad,x.A=some ad:=by
     obtain⟨y,hy⟩:∃y,x.l[0]? = some y:=⟨_,bn (List.length_pos_iff.2 hxz.2)⟩;obtain⟨ub,zo,h1,_⟩:=xH hrx hy;exact⟨_,h1⟩
    rw[hk]at y0 uH;rw[Nb]at y0 uH;rw[hA]at x2;obtain⟨z0,z1,z2⟩:=HC.o.cur.cells;have hln:w.heap.size+2<wr.heap.size:=HC.o.cur.lt;have SC:=aa (PW fE 9 wr.drew);have fw:=aa (show Below wr.heap.size wr (wr.drew.alloc (.cells #[] 9))from(Below.drew (ai wr.heap.size wr)).alloc (ag _) _)
    have Ba:=aa (fun (j:Nat)(u:Value)(hj:(fE.all x.l)[j]? = some u)=>(show(wr.drew.alloc (.cells #[] 9)).cell? (ad.add j)=some u from by
     obtain⟨A',cap',h1,_,_,h3⟩:=(uH.o.lift fw.o);injection h1 with h1 _ _;rcases h3 with h3|⟨di,dJ,h4,_,h5⟩
     · rw[h3]at hj;simp[Enc.all]at hj
     · rw[h4]at h1
       injection h1 with h1;subst h1;rw[Addr.add_mid];exact h5 j u hj))
    have hal:Below wr.heap.size wr (wr.alloc (.cells #[] 9)):=(ai wr.heap.size wr).alloc (ag _) _;have a2:(wr.alloc (.cells #[] 9)).cell? ⟨w.heap.size,2,none⟩=some (.slice (some ⟨pb,po,none⟩) n s.cap):=(hal.cell (p:=⟨w.heap.size,2,none⟩) (by show w.heap.size<wr.heap.size;omega)).trans x2;have a3:(wr.alloc (.cells #[] 9)).cell? ⟨w.heap.size+2,2,none⟩=some (.slice A1 i c1):=(hal.cell (p:=⟨w.heap.size+2,2,none⟩) hln).trans z2;have a4:(wr.alloc (.cells #[] 9)).cell? ⟨pb,po+i,none⟩=some (.slice (some ad) k x.cap):=(hal.cell (p:=⟨pb,po+i,none⟩) (by show pb<wr.heap.size;omega)).trans y0;clear hal;clear e0 hrx hx hxz hk hA Nb;go_upto_region 5 with (fail)
    go_region_law (first
     | (refine CQ Elem.tx fE rfl (.tmp 19) (.tmp 24) rfl wr.heap.size (.slice (some ⟨wr.heap.size,0,none⟩) 0 0) [] ?_ SC.o ad k x.cap x.l ?_ HK.o Ba.o ?_ ?_ ?_ ?_;go_simp;go_simp;(rw[dY];omega);(rw[dY];unfold maxLen;omega);exact fw.o.size;intro v4 w4 h1 h2 _;obtain⟨A4,c4,hv4⟩:=vV h1;simp only[fQ,HK.o]at hv4;subst hv4;have l9:=aa (show Own fE 9 w4 wr.heap.size (.slice A4 k c4) x.l from by rw[fQ]at h1;exact h1);have bG:=aa (show Below wr.heap.size wr w4 from fw.o.grown h2 fw.o.size fun g e=>by injection e with e;have:wr.drew.heap.size=g:=e;rw[← this];exact ag _);have d3:w4.cell? ⟨w.heap.size+2,2,none⟩=some (.slice A1 i c1):=(bG.o.cell (p:=⟨w.heap.size+2,2,none⟩) hln).trans z2;have d4:(w4.alloc (.cells #[.slice A4 k c4] 56)).cell? ⟨w.heap.size+2,2,none⟩=some (.slice A1 i c1):=(((bG.o.alloc bG.o.size (.cells #[.slice A4 k c4] 56))).cell (p:=⟨w.heap.size+2,2,none⟩) hln).trans z2;clear h1 h2)
     | (refine CQ Elem.rw nN rfl (.tmp 18) (.tmp 26) rfl (w.heap.size+3) (.slice A1 i c1) done ?_ ((HC.o.next (bG.o.alloc bG.o.size _)).rw.1) ⟨w4.heap.size,0,none⟩ 1 1 [⟨A4,c4,x.l⟩] ?_ rfl ?_ ?_ ?_ ?_ ?_;go_simp;go_simp;exact fZ _ _ _ (by show [_]=[Value.slice A4 x.l.length c4];rw[HK.o]);(rw[HD.o];omega);(rw[HD.o];unfold maxLen;omega);(rw[kD];have:=bG.o.size;omega);intro v5 w5 h1 h2 _;obtain⟨A5,c5,hv5⟩:=vV h1;simp only[aj,fq,HD.o]at hv5;subst hv5;have mO:=aa h1;have rT:=aa h2;have qU:=aa (HC.o.next (bG.o.alloc bG.o.size (.cells #[.slice A4 k c4] 56)));obtain⟨m0,m1,m2⟩:=(qU.o.yn h2).bK;obtain⟨v0,v1,v2⟩:=(qU.o.yn h2).cells;clear h1 h2))
    all_goals
     have oo:=aa (show Own fE 9 (w4.alloc (.cells #[.slice A4 k c4] 56)) (w.heap.size+3) (aN.v ⟨A4,c4,x.l⟩) x.l from by
      have h1:=(l9.o.mono (show w.heap.size+3≤wr.heap.size by omega)).alloc (.cells #[.slice A4 k c4] 56);show Own _ _ _ _ (.slice A4 x.l.length c4) _;rw[HK.o];exact h1)
     have F9:=aa (show dI (done++[⟨A4,c4,x.l⟩])=(dI s.rows).take (i+1)from by
      rw[nD.o, ← HM.o];unfold dI;rw[iE];rfl)
     have HZ2:=aa (show df kX (done++[⟨A4,c4,x.l⟩]) w.heap.size w5.heap.size from by
      have g1:=bG.o.size;have g2:=rT.o.size;rw[kD]at g2;refine kX.snoc o8.o (by omega) (kX.of (w:=w4) ?_ (by omega));show Own _ _ _ _ (.slice A4 x.l.length c4) _;rw[HK.o];exact l9.o)
     clear m0 m1 m2 v0 v1 v2 a2 a3 a4 x0 x1 x2 y0 z0 z1 z2 d3 d4;go_wp2_with fail
     go_roundw
     case rel=>exact⟨i+1,A5,c5,done++[⟨A4,c4,x.l⟩],by omega,by go_num,aa (by rw[aj,HD.o];rfl),F9,aa (qU.o.push oo.o mO.o rT.o),aa (by rw[lG];exact HZ2.o)⟩
     case measure=>simp[intOf];omega
  · have hii:¬ (i:Int)<(n:Int):=by omega
    have hin:i=n:=by omega
    subst hin
    have NJ:(dI done)=dI s.rows:=by
     rw[HM.o];exact mK (by unfold dI;rw[dN,HL.o];exact ag _)
    have F6:=aa NJ;obtain⟨z0,z1,z2⟩:=HC.o.cur.cells;obtain⟨m0,m1,m2⟩:=HC.o.o.bK;obtain⟨v0,v1,v2⟩:=HC.o.o.cells;clear NJ;go_wp2_with fail
    refine bodyPost_ret (PU (HC.o.o.y8 s.nm s.ay (.slice A1 i c1)) _ _ 2 abT rfl) rfl ⟨Mf HC.o.fV (by omega) _ _ _,A1,i,c1,rfl,done,F6.o,HD.o, ?_,by rw[lG,lG,lG];exact o8.o⟩;exact(HC.o.rw.keep fun g h1 _=>NC wr _ g _ _ _ (by omega)).mono (by omega)
theorem iU.mono{w:World}{lo lo':Nat}{v:Value}{ah:List ak}(h:iU w lo v ah)(hb:lo'≤lo):iU w lo' v ah:=⟨h.1.mono hb,fun r hr=>(h.2 r hr).mono hb⟩
theorem aa3 (w:World)(A:Option Addr)(n cap:Nat)(ah:List ak)(h:eH w w.heap.size (.slice A n cap) ah)(hz:BG ah)(hw:G5 ah) :
 Calls Tryz.prog 45 #[.agg #[.slice A n cap]] w fun e w'=>Below w.heap.size w w'∧∃A' c' sv,e = .returned (.agg #[.slice A' n c'])∧bF sv=bF ah∧iU w' w.heap.size (.slice A' n c') sv∧df lT sv w.heap.size w'.heap.size:=by
 obtain⟨w2,hw2,hb,hs1,hs2,hsz⟩:=Fy w (.slice A n cap) (.slice none 0 0);have hn:n≤1000000:=by have h1:=hz.1;have h2:=h.1.len.1;omega
 have HX:=aa h;have j4:=aa hz;have HL:=aa h.1.len.1;have GL:=aa hw;have HB:=aa hb;have dG:=aa hs1;have HS2:=aa hs2;have jZ:=aa hsz;clear h hz hb hs1 hs2 hsz hw;go_enter Tryz.func45,Tryz.ntmps45;go_upto_region 1 with (fail)
 clear hw2;go_upto_region 2 with (fail)
 have iF:=aa (kJ w2 (.slice none 0 0));have HN:=aa (aY.new w2 (.slice none 0 0));have hq2:w2.heap.size=w.heap.size+1+1:=jZ.o;rw[hq2]at HN;rw[hq2]
 have HI:=aa (show uz w (w2.alloc (.cells #[.slice none 0 0] 26)) (.slice A n cap) (.slice none 0 0) []from
  ⟨dG.o.over iF.o,HS2.o.over iF.o,HN.o,iU.nil _ _,HB.o.trans (iF.o.mono HB.o.size)⟩)
 obtain⟨w3,hw3⟩:∃w3,w2.alloc (.cells #[.slice none 0 0] 26)=w3:=⟨_,rfl⟩;rw[hw3]at HI iF HN ⊢;clear hw3;go_upto_region 3 with (fail)
 go_loopw [4] (fun iv wr=>∃(i:Nat)(tv:Value)(done:List ak),i≤n∧iv = .int .i64 (i:Int)∧Hid (done.length=i)∧Hid (bF done=(bF ah).take i)∧Hid (uz w wr (.slice A n cap) tv done)∧Hid (df lT done w.heap.size wr.heap.size))
  (fun iv _=>n - (intOf iv).toNat)
 case atStart=>exact⟨0,_,[],cu _,rfl,aa rfl,aa rfl,HI,aa HI.o.fV.size⟩
 case round =>
  obtain⟨i,tv,done,hi,rfl,HD,HM,HC,o8⟩:=hrel;have x0:=HC.o.par.cell;by_cases hlt:i<n
  · have hii:(i:Int)<(n:Int):=by omega
    have hi0:(0:Int)≤(i:Int):=by omega
    obtain⟨x,hx⟩:∃x,ah[i]? = some x:=⟨_,bn (by rw[HL.o];exact hlt)⟩;obtain⟨pb,po,rfl,hpb,e0,e1,e2,hrx⟩:=oP HX.o hx;have hwr:w.heap.size≤wr.heap.size:=HC.o.fV.size;have hln:w.heap.size+1+1<wr.heap.size:=HC.o.cur.lt;have y0:wr.cell? ⟨pb,po+i*3,none⟩=some (.string x.nm):=(HC.o.fV.cell (p:=⟨pb,po+i*3,none⟩) hpb).trans e0;have y1:wr.cell? ⟨pb,po+i*3+1,none⟩=some (.int .i64 x.ay):=(HC.o.fV.cell (p:=⟨pb,po+i*3+1,none⟩) hpb).trans e1;have y2:wr.cell? ⟨pb,po+i*3+2,none⟩=some (.slice x.A x.rows.length x.cap):=(HC.o.fV.cell (p:=⟨pb,po+i*3+2,none⟩) hpb).trans e2;have z0:=HC.o.cur.cell;have nD:=aa (show(bF ah).take (i+1)=(bF ah).take i++[x.p]from by unfold bF;rw[List.take_add_one,iD,hx];rfl);have hbd:Below wr.heap.size wr wr.drew:=Below.drew (ai wr.heap.size wr);have fw:=aa hbd;have R9:=aa (aa4 wr.drew x (((hrx.below HC.o.fV (ag _)).mono hwr).lift hbd) (j4.o.2 x (dz hx)).1 (fun r hr=>⟨(j4.o.2 x (dz hx)).2 r hr,GL.o x (dz hx) r hr⟩));have gN:=aa (fun (w':World)(hb:Below wr.heap.size wr w')=>(show w'.cell? ⟨w.heap.size+1+1,0,none⟩=some tv from(hb.cell (p:=⟨w.heap.size+1+1,0,none⟩) hln).trans z0));clear e0 e1 e2 hrx hx hbd;go_upto_region 5 with (fail)
    go_region_law (first
     | (refine CQ Elem.sh nO rfl (.tmp 13) (.tmp 20) rfl (w.heap.size+3) tv done ?_ qU.o.bk.1 ⟨w4.heap.size,0,none⟩ 1 1 [⟨x.nm,x.ay,A4,c4,iB⟩] ?_ rfl ?_ ?_ ?_ ?_ ?_;go_simp;go_simp;exact fZ _ _ _ (by show [_,_,_]=[_,_,Value.slice A4 iB.length c4];rw[KZ.o]);(rw[HD.o];omega);(rw[HD.o];unfold maxLen;omega);(rw[kD];have:=bG.o.size;omega);intro v5 w5 h1 h2 _;obtain⟨A5,c5,hv5⟩:=vV h1;simp only[aj,fq,HD.o]at hv5;subst hv5;have mO:=aa h1;have rT:=aa h2;have m0:=(qU.o.yn h2).jh;have v0:=(qU.o.yn h2).cell;clear h1 h2)
     | (go_simp;go_at_call 72;((with_reducible refine R9.o.mono ?_);rintro e w4 ⟨h1,A4,n4,c4,iB,rfl,hm,hl,h2,Oo⟩;have TQ:=aa Oo;clear Oo;have bG:=aa (fw.o.trans (h1.mono fw.o.size));have Sy:=aa hm;have KZ:=aa hl;have Ti:=aa h2;have d3:=gN.o w4 bG.o;have d4:=gN.o (w4.alloc (.cells #[.string x.nm,.int .i64 x.ay,.slice A4 n4 c4] 73)) (bG.o.alloc bG.o.size _);have qU:=aa (HC.o.next (bG.o.alloc bG.o.size (.cells #[.string x.nm,.int .i64 x.ay,.slice A4 n4 c4] 73)));clear h1 hm hl h2;dsimp only)))
    all_goals
     have Tj:=aa (show iH (w4.alloc (.cells #[.string x.nm,.int .i64 x.ay,.slice A4 n4 c4] 73)) (w.heap.size+3) (ak.rv ⟨x.nm,x.ay,A4,c4,iB⟩) iB from by
      have h1:=(Ti.o.mono (show w.heap.size+3≤wr.heap.size by omega)).next ((ai w4.heap.size w4).alloc (ag _) (.cells #[.string x.nm,.int .i64 x.ay,.slice A4 n4 c4] 73));show iH _ _ (.slice A4 iB.length c4) _;rw[KZ.o];exact h1)
     have F9:=aa (show bF (done++[⟨x.nm,x.ay,A4,c4,iB⟩])=(bF ah).take (i+1)from by
      rw[nD.o, ← HM.o];unfold bF;rw[iE];have:ak.p ⟨x.nm,x.ay,A4,c4,iB⟩=x.p:=by unfold ak.p;rw[Sy.o]
      rw[← this];rfl)
     have HZ2:=aa (show df lT (done++[⟨x.nm,x.ay,A4,c4,iB⟩]) w.heap.size w5.heap.size from by
      have g1:=bG.o.size;have g2:=rT.o.size;rw[kD]at g2;exact lT.snoc o8.o (by omega) (lT.up ⟨x.nm,x.ay,A4,c4,iB⟩ _ _ _ _ (ag _) (by omega) g1 TQ.o))
     clear m0 v0 d3 d4 x0 y0 y1 y2 z0;go_wp2_with fail
     go_roundw
     case rel=>exact⟨i+1,.slice A5 (i+1) c5,done++[⟨x.nm,x.ay,A4,c4,iB⟩],by omega,by go_num,aa (by rw[aj,HD.o];rfl),F9,aa (qU.o.push (s:=⟨x.nm,x.ay,A4,c4,iB⟩) Tj.o mO.o rT.o),aa (by rw[lG];exact HZ2.o)⟩
     case measure=>simp[intOf];omega
  · have hii:¬ (i:Int)<(n:Int):=by omega
    have hin:i=n:=by omega
    subst hin
    have hm2:bF done=bF ah:=by
     rw[HM.o];exact mK (by unfold bF;rw[dN,HL.o];exact ag _)
    have F6:=aa hm2;obtain⟨A1,c1,qF⟩:=vV HC.o.bk.1;rw[HD.o]at qF;subst qF;have z0:=HC.o.cur.cell;have m0:=HC.o.o.jh;have v0:=HC.o.o.cell;clear hm2;go_wp2_with fail
    refine bodyPost_ret (Jm (HC.o.o.put (.slice A1 i c1)) _ _ 2 abS rfl) rfl ⟨HC.o.fV.setCell (by show w.heap.size≤w.heap.size+1;omega) _,A1,c1,rfl,done,F6.o, ?_,by rw[lG];exact o8.o⟩;have h1:=(HC.o.bk.keep (w':=wr.setCell ⟨w.heap.size+1,0,none⟩ (.slice A1 i c1)) fun g h1 _=>heap_setCell_other wr _ g _ (by show g≠w.heap.size+1;omega)).mono (lo':=w.heap.size) (by omega);exact h1
theorem aaq {α : Type}{E:Enc α 1}{e:TypeId}{w:World}{lo g n cap:Nat}{xs:List α}(h:Own E e w lo (.slice (Option.some ⟨g,0,none⟩) n cap) xs)(i:Nat)(x : α)(u:Value)(hu:E.f x=[u]):Own E e (w.setCell ⟨g,i,none⟩ u) lo (.slice (Option.some ⟨g,0,none⟩) n cap) (xs.set i x):=by
 obtain⟨h1,h2⟩:=h;refine⟨by rw[E.ku], ?_⟩;rcases h2 with ⟨h3,_⟩|⟨g',cap',cur,h3,h4,h5,h6,h7,h8,h9⟩
 · cases h3
 · injection h3 with h3 h3' WA
   injection h3 with h3;injection h3 with h3;subst h3;refine .inr ⟨g,cap',_, ?_,h4,heap_setCell_same w g i cur e u h5, ?_,h7,by rw[Array.size_setIfInBounds];exact h8, ?_⟩
   · rw[List.length_set, ← h3', ← WA]
   · rw[List.length_set];exact h6
   · rw[List.length_set,G8 E xs i x u hu, ← h9,Array.toList_setIfInBounds,List.take_set]
theorem PX {α : Type}{k:Nat}{E:Enc α k}{e:TypeId}{w:World}{lo:Nat}{v:Value}{xs ys:List α}(h:Own E e w lo v xs)(hl:ys.length=xs.length)(he:E.all ys=E.all xs):Own E e w lo v ys:=by
 unfold Own at h ⊢;rw[hl,he];exact h
theorem df.apart {α : Type}{P : α → Nat→Nat→Prop}:∀ {xs:List α}{lo hi:Nat}{i j:Nat}{x y : α},df P xs lo hi→xs[i]? = some x→xs[j]? = some y→i<j→∃a b c d,P x a b∧P y c d∧b≤c
 | [],_,_,_,_,_,_,_,hx,_,_=>by simp at hx
 | z :: l,lo,hi,0,j,x,y,⟨m,h1,h2,h3⟩,hx,hy,hij=>by
   obtain rfl:z=x:=by simpa using hx
   cases j with
   | zero=>exact absurd hij (Nat.lt_irrefl _)
   | succ j =>
     obtain⟨a,b,k1,_,_,k4,_⟩:=df.at h3 j y (by simpa using hy);exact⟨lo,m,a,b,h2,k4,k1⟩
 | z :: l,lo,hi,i+1,j,x,y,⟨m,h1,h2,h3⟩,hx,hy,hij=>by
   cases j with
   | zero=>exact absurd hij (Nat.not_lt_zero _)
   | succ j=>exact df.apart h3 (by simpa using hx) (by simpa using hy) (Nat.lt_of_succ_lt_succ hij)
theorem kX.apart {rows:List aN}{lo hi i j:Nat}{x y:aN}(h:df kX rows lo hi)(hx:rows[i]? = some x)(hy:rows[j]? = some y)(hij:i≠j){g g':Nat}(h1:x.v.ownBlock=some g)(h2:y.v.ownBlock=some g'):g'≠g:=by
 rcases Nat.lt_or_gt_of_ne hij with hl|hl
 · obtain⟨a,b,c,d,k1,k2,k3⟩:=df.apart h hx hy hl
   have:=(k1 g h1).2;have:=(k2 g' h2).1;omega
 · obtain⟨a,b,c,d,k1,k2,k3⟩:=df.apart h hy hx hl
   have:=(k1 g' h2).2;have:=(k2 g h1).1;omega
theorem lT.in {s:ak}{a b:Nat}(h:lT s a b){x:aN}(hx:x∈s.rows){g:Nat}(hg:x.v.ownBlock=some g):a≤g∧g<b:=by
 obtain⟨i,hi⟩:=List.getElem?_of_mem hx;obtain⟨c,d,k1,k2,k3,k4,_⟩:=df.at h i x hi;have:=k4 g hg;omega
theorem lT.apart {sv:List ak}{lo hi i j:Nat}{s s2:ak}(h:df lT sv lo hi)(hx:sv[i]? = some s)(hy:sv[j]? = some s2)(hij:i≠j){x y:aN}(hxm:x∈s.rows)(hym:y∈s2.rows){g g':Nat}(h1:x.v.ownBlock=some g)(h2:y.v.ownBlock=some g'):g'≠g:=by
 rcases Nat.lt_or_gt_of_ne hij with hl|hl
 · obtain⟨a,b,c,d,k1,k2,k3⟩:=df.apart h hx hy hl
   have:=(k1.in hxm h1).2;have:=(k2.in hym h2).1;omega
 · obtain⟨a,b,c,d,k1,k2,k3⟩:=df.apart h hy hx hl
   have:=(k1.in hym h2).2;have:=(k2.in hxm h1).1;omega
theorem iU.cell {w:World}{lo l2 h2:Nat}{v:Value}{sv:List ak}{i r c:Nat}{s:ak}{rv:aN}(h:iU w lo v sv)(hz:df lT sv l2 h2)(hs:sv[i]? = some s)(hr:s.rows[r]? = some rv)(hc:c<rv.l.length) :
 ∃g,rv.A=some ⟨g,0,none⟩∧lo≤g∧g<w.heap.size∧w.cell? ⟨g,c,none⟩=some (.string (rv.l.getD c ⟨#[]⟩))∧w.frozen? ⟨g,c,none⟩=false∧∀t:ByteArray,iU (w.setCell ⟨g,c,none⟩ (.string t)) lo v (sv.set i (s.put r c rv t)):=by
 have hsm:=dz hs;have hrm:=dz hr;have hrow:=(h.2 s hsm).2 rv hrm;obtain⟨g,cp,hv,hlo,hlt,_,_⟩:=hrow.some (by omega)
 have hA:rv.A=some ⟨g,0,none⟩∧rv.cap=cp:=by
  have:Value.slice rv.A rv.l.length rv.cap=Value.slice (some ⟨g,0,none⟩) rv.l.length cp:=hv;injection this with e1 e2 e3;exact⟨e1,e3⟩
 have hgb:rv.v.ownBlock=some g:=by rw[hv];rfl
 have hrow2:=hrow;rw[hv]at hrow2;obtain⟨_,cur,jr⟩:=hrow.lies hgb;obtain⟨x,hx⟩:∃x,rv.l[c]? = some x:=⟨_,bn hc⟩;refine⟨g,hA.1,hlo,hlt, ?_,frozen_of_row w g c _ _ jr,fun t => ?_⟩
 · rw[iC,hx]
   exact hrow2.cells c _ (by rw[DV,iD,hx];rfl)
 · have hk:∀y,y≠g→(w.setCell ⟨g,c,none⟩ (.string t)).heap[y]? = w.heap[y]? := fun y hy=>heap_setCell_other w _ y _ hy
   refine⟨PX (h.1.keep fun g' _ _ e=>hk g' fun e2 => ?_) (List.length_set) (DW nO hs ?_),fun s' hs' => ?_⟩
   · subst e2;exact hrow.away h.1 (by decide) hgb e.symm
   · show [_,_,Value.slice s.A (s.rows.set r (rv.put c t)).length s.cap]=[_,_,Value.slice s.A s.rows.length s.cap]
     rw[List.length_set];rfl
   obtain⟨j,hj⟩:=List.getElem?_of_mem hs';rcases Ff hj (dm.1 hs).1 with ⟨rfl,rfl⟩|⟨hne,hj⟩
   · have nQ:(s.put r c rv t).rv=s.rv:=by
      show Value.slice s.A (s.rows.set r (rv.put c t)).length s.cap=Value.slice s.A s.rows.length s.cap;rw[List.length_set]
     have hrr:(rv.put c t).v=rv.v:=by
      show Value.slice rv.A (rv.l.set c t).length rv.cap=Value.slice rv.A rv.l.length rv.cap;rw[List.length_set]
     obtain⟨agD,agE,_,_,_,hzs,_⟩:=hz.at j s hs;refine⟨?_,fun q hq => ?_⟩
     · rw [nQ]
       refine PX ((h.2 s hsm).1.keep fun g' _ _ e=>hk g' fun e2 => ?_) (by show(s.rows.set r (rv.put c t)).length=_;rw[List.length_set]) (DW nN hr ?_)
       · subst e2;exact hrow.away (h.2 s hsm).1 (by decide) hgb e.symm
       · show [(rv.put c t).v]=[rv.v]
         rw[hrr]
     · obtain ⟨k,hkk⟩:=List.getElem?_of_mem hq
       rcases Ff hkk (dm.1 hr).1 with ⟨rfl,rfl⟩|⟨hne,hkk⟩
       · rw[hrr,hv]
         exact aaq hrow2 c t _ rfl
       · exact((h.2 s hsm).2 q (dz hkk)).keep fun g' _ _ e=>hk g' (kX.apart hzs hr hkk (Ne.symm hne) hgb e)
   · have hsj:=h.2 s' (dz hj)
     exact⟨hsj.1.keep fun g' _ _ e=>hk g' fun e2=>by subst e2;exact hrow.away hsj.1 (by decide) hgb e.symm,fun q hq=>(hsj.2 q hq).keep fun g' _ _ e=>hk g' (lT.apart hz hs hj (Ne.symm hne) hrm hq hgb e)⟩
theorem ad' (w:World):Calls Tryz.prog 101 #[.int .i64 0,.int .i64 10] w fun e w'=>e = .returned (.tuple #[.int .i64 0,.bool true])∧w=w':=by
 go_enter Tryz.func101,Tryz.ntmps101;go_wp2_with fail
 all_goals go_ret2
 all_goals exact⟨rfl,rfl⟩
theorem aaE (x:Int)(h0 : -9≤x)(h1:x≤0)(w:World):Calls Tryz.prog 102 #[.int .i64 0,.int .i64 x] w fun e w'=>e = .returned (.tuple #[.int .i64 x,.bool true])∧w=w':=by
 have hw:IntKind.i64.wrap (0+x)=x:=by rw[dK];omega
 by_cases hx:x=0
 · subst hx
   clear hw;go_enter Tryz.func102,Tryz.ntmps102;go_wp2_with fail
   go_ret2
   exact⟨rfl,rfl⟩
 · have hn:¬ (0:Int)≤x:=by omega
   go_enter Tryz.func102,Tryz.ntmps102;go_wp2_with fail
   go_ret2
   exact⟨by first|rfl|trace_state,rfl⟩
theorem aeK (s:ByteArray)(h1:s.size=1)(hp0:0<s.size)(a:Int)(ha:(s[0].toNat:Int)=a)(h48:48≤a)(h57:a≤57)(w:World) :
 Calls Tryz.prog 63 #[.string s] w fun e w'=>e = .returned (.tuple #[.int .i64 (a - 48),.bool true])∧w=w':=by
 have hs1:(s.size:Int)=1:=by omega
 have e45:(a == 45)=false:=beq_eq_false_iff_ne.2 (by omega);have hi0:(0:Int)<(s.size:Int):=by omega
 have hne:=p8 s (by omega);go_enter Tryz.func63,Tryz.ntmps63;go_upto_region 7 with (fail)
 go_loopw [6,7,8,9,10,11] (fun nv iv b1 b2 b3 b4 wr=>wr=w∧((iv = .int .i64 0∧nv = .int .i64 0)∨(iv = .int .i64 1∧nv = .int .i64 (48 - a))))
  (fun _ iv _ _ _ _ _=>1 - (intOf iv).toNat)
 case atStart=>exact⟨rfl,.inl ⟨rfl,rfl⟩⟩
 case round =>
  obtain⟨rfl,⟨rfl,rfl⟩|⟨rfl,rfl⟩⟩:=hrel
  · go_wp2_with (first
     | (go_at_call 101;((with_reducible refine(ad' _).mono ?_);rintro e w1 ⟨rfl,rfl⟩))
     | (go_at_call 102;((with_reducible refine(aaE _ ?_ ?_ _).mono ?_);(first|omega|skip);(first|omega|skip);rintro e w1 ⟨rfl,rfl⟩)))
    go_roundw
    case rel=>exact⟨by first|rfl|trivial,.inr ⟨by go_num,by go_num⟩⟩
    case measure=>simp[intOf]
  · have hz:((48:Int) - a == -9223372036854775808)=false:=beq_eq_false_iff_ne.2 (by omega)
    have hl0:((s.size:Int) == 0)=false:=beq_eq_false_iff_ne.2 (by omega);have hl1:¬ (1:Int)<(s.size:Int):=by omega
    have hwn:IntKind.i64.wrap (-(48 - a))=a - 48:=by rw[dK];omega
    have hwn2 : -(48 - a)=a - 48:=by omega
    go_wp2_with fail
    go_ret2
    exact⟨by first|rfl|rw[hwn]|(rw[hwn2]),rfl⟩
theorem ab1 (w:World):Calls Tryz.prog 30 #[.string ⟨#[]⟩] w fun e w'=>e = .returned (.bool true)∧w=w':=by
 go_enter Tryz.func30,Tryz.ntmps30;go_wp2_with fail
 go_ret;exact⟨rfl,rfl⟩
theorem ab2 (s:ByteArray)(hs:s.size≤100)(hp0:0<s.size)(a:Int)(ha:(s[0].toNat:Int)=a)(yx:a=39)(w:World):Calls Tryz.prog 30 #[.string s] w fun e w'=>e = .returned (.bool true)∧w=w':=by
 have hi:¬ (300:Int)<(s.size:Int):=by omega
 have hi0:(0:Int)<(s.size:Int):=by omega
 have hne:=p8 s (by omega);have hne2:s.toList.isEmpty=false:=by cases hq:s.toList with|nil=>exact absurd hq hne|cons a l=>rfl
 have NP:(s.toList == [])=false:=beq_eq_false_iff_ne.2 hne;have e39:(a == 39)=true:=beq_iff_eq.2 yx;clear yx;go_enter Tryz.func30,Tryz.ntmps30;go_wp2_with fail
 go_ret;exact⟨rfl,rfl⟩
theorem abZ (s:ByteArray)(h1:s.size=1)(hp0:0<s.size)(a:Int)(ha:(s[0].toNat:Int)=a)(h48:48≤a)(h57:a≤57)(hd:strOfNums (kZ (a - 48))=s)(w:World):Calls Tryz.prog 30 #[.string s] w fun e w'=>e = .returned (.bool true)∧Below w.heap.size w w':=by
 have hi:¬ (300:Int)<(s.size:Int):=by omega
 have hi0:(0:Int)<(s.size:Int):=by omega
 have hne:=p8 s (by omega);have hne2:s.toList.isEmpty=false:=by cases hq:s.toList with|nil=>exact absurd hq hne|cons a l=>rfl
 have NP:(s.toList == [])=false:=beq_eq_false_iff_ne.2 hne;have e39:(a == 39)=false:=beq_eq_false_iff_ne.2 (by omega);have e61:(a == 61)=false:=beq_eq_false_iff_ne.2 (by omega);have HW:=aa (fun (w:World)=>aeK s h1 hp0 a ha h48 h57 w);have HD:=aa (fun (w1:World)=>(show Calls Tryz.prog 40 #[.int .i64 (a - 48)] w1 fun e w'=>e = .returned (.string s)∧Below w1.heap.size w1 w' from hd ▸ aa' (a - 48) (by omega) (by omega) w1));have hss:(s.toList == s.toList)=true:=beq_self_eq_true _;clear hd h48 h57 h1;go_enter Tryz.func30,Tryz.ntmps30
 go_wp2_with (first
  | (go_at_call 63;((with_reducible refine(HW.o _).mono ?_);rintro e w1 ⟨rfl,rfl⟩))
  | (go_at_call 40;((with_reducible refine(HD.o _).mono ?_);rintro e w1 ⟨rfl,h1⟩;have H1:=aa h1;clear h1)))
 go_ret;exact⟨rfl,H1.o⟩
def mg (o:Option (af × Nat))(k:Nat)(w:World)(e:Ending)(w':World):Prop :=
 Below w.heap.size w w'∧((∃t n,o=some (t,n)∧e = .returned (.tuple #[.agg (nY (t.goto k)),.int .i64 (n:Int)]))∨(o=none∧∃t,e = .returned (.tuple #[.agg (nY t),.int .i64 0])))
theorem mi {w w1:World}{g:Nat}(h:Below w.heap.size w w1)(hg:w.heap.size≤g)(v0 v1 v2 v3 v4 v5 v6 v7 v8:Value) :
 Below w.heap.size w (((((((((w1.setCell ⟨g,0,none⟩ v0).setCell ⟨g,1,none⟩ v1).setCell ⟨g,2,none⟩ v2).setCell ⟨g,3,none⟩ v3).setCell ⟨g,4,none⟩ v4).setCell ⟨g,5,none⟩ v5).setCell ⟨g,6,none⟩ v6).setCell ⟨g,7,none⟩ v7).setCell ⟨g,8,none⟩ v8) :=
 ((((((((h.setCell hg _).setCell hg _).setCell hg _).setCell hg _).setCell hg _).setCell hg _).setCell hg _).setCell hg _).setCell hg _
theorem ji {w:World}{b:Nat}{t:af}(h:aC w b t)(fn:Func)(tmps:Array Value)(n:Int)(p u:Tmp)(hf:fn.results=#[.cell p 154,.tmp u])(hp:tmps.getD p undef = .pointer (some ⟨b,0,none⟩))(hu:tmps.getD u undef = .int .i64 n) :
 (results fn tmps).run Tryz.prog w = .ok (.tuple #[.agg (nY t),.int .i64 n]) w:=by
 rw[results_cell_tmp hf,hp,hu];simp[asAddr,h.load,Result.andThen]
theorem EZ:Tryz.f170.results=#[.cell 4 154,.tmp 5]:=by kernel_rfl
structure wS (l:List Int)(m:Nat)(v:Int):Prop where
 val:bH (l.take m)=v
 zT:∀x∈l.take m,isNum x=true
 pos:0≤v
 max:v≤9223372036854775807
 len:m≤l.length
 head:1<m→l.head? ≠ some 48
theorem ZZ(l:List Int):wS l 0 0:=⟨rfl,by simp,by omega,by omega,by omega,by omega⟩
theorem Kn(x:Int):bH [x]=x - 48:=by unfold bH;simp
theorem CS{l:List Int}{m:Nat}{a:Int}(ha:l[m]? = some a):l.take (m+1)=l.take m++[a]:=by rw[List.take_add_one,ha];rfl
theorem Jj{l:List Int}{m:Nat}{v a:Int}(h:wS l m v)(ha:l[m]? = some a):bH (l.take (m+1))=10*v+(a - 48):=by rw[CS ha,xK,h.val]
theorem ZX {l:List Int}{m:Nat}{v a:Int}(h:wS l m v)(ha:l[m]? = some a)(hn:isNum a=true)(hb:9223372036854775807<10*v+(a - 48)):jQ l=none:=by
 have hall:=pq h.zT hn;rw[← CS ha]at hall;have h1:=Fj isNum l (m+1) hall;have h2:=xJ ((l.drop (m+1)).takeWhile isNum) (l.take (m+1)) (rP isNum _) (by rw[Jj h ha];omega);rw[← h1,Jj h ha]at h2;unfold jQ;rw[if_pos (.inr (by omega))]
theorem ZY {l:List Int}{m:Nat}{a:Int}(h:wS l m 0)(hm:0<m)(ha:l[m]? = some a)(hn:isNum a=true):jQ l=none:=by
 have hall:=pq h.zT hn;rw[← CS ha]at hall;have h1:=Fj isNum l (m+1) hall
 have hlen:1<(l.takeWhile isNum).length:=by
  rw[h1,aj,gD];have:=(dm.1 ha).1;omega
 cases l with
 | nil=>simp at ha
 | cons x r =>
   have hx:=h.zT x (by rw[show m=(m - 1)+1 by omega,List.take_succ_cons];simp);have hb:=iL hx;have h2:=xJ ((x :: r).take m).tail [x] (fun y hy=>h.zT y (List.mem_of_mem_tail hy)) (by rw[Kn];omega);have e:[x]++((x :: r).take m).tail=(x :: r).take m:=by rw[show m=(m - 1)+1 by omega,List.take_succ_cons];rfl
   rw[e,h.val,Kn]at h2;unfold jQ;rw[if_pos (.inl ⟨hlen,by simp;omega⟩)]
theorem PL {l:List Int}{m:Nat}{v a:Int}(h:wS l m v)(ha:l[m]? = some a)(hn:isNum a=true)(hb:10*v+(a - 48)≤9223372036854775807)(h0:0<m→v≠0):wS l (m+1) (10*v+(a - 48)):=by
 have hbd:=iL hn;have hp:=h.pos;refine⟨Jj h ha, ?_,by omega,hb, ?_, ?_⟩
 · rw[CS ha];exact pq h.zT hn
 · have:=(dm.1 ha).1;omega
 · intro hm hh
   by_cases h1:1<m
   · exact h.head h1 hh
   · have hm1:m=1:=by omega
     subst hm1;cases l with
     | nil=>simp at hh
     | cons x r =>
       simp at hh;have:=h.val;rw[List.take_succ_cons,List.take_zero,Kn]at this;exact h0 (by omega) (by omega)
theorem PK {l:List Int}{m:Nat}{v:Int}(h:wS l m v)(hs:∀x,l[m]? = some x→isNum x=false):jQ l=some ({ af.zero with kind:=1,num:=v },m):=by
 have hsp:=zi isNum l m h.zT hs;have hlen:(l.take m).length=m:=by rw[gD];have:=h.len;omega
 unfold jQ;rw[hsp,hlen,h.val,if_neg];rintro(⟨h1,h2⟩|h1)
 · exact h.head h1 h2
 · have:=h.max;omega
theorem Qi (s:ByteArray)(k:Nat)(w:World)(_hs:s.size≤1000000)(_hk:k≤s.size) :
 Calls Tryz.prog 170 #[.string s,.int .i64 (k:Int)] w (mg (jQ (ax s k)) k w):=by
 have bu:=aa (aC.zero w);go_enter Tryz.func170,Tryz.ntmps170;go_wp2_with fail
 go_loopw [6,7] (fun n p wr=>∃(m:Nat)(v:Int),n = .int .i64 v∧p = .int .i64 ((k+m:Nat):Int)∧k+m≤s.size∧Hid (wS (ax s k) m v)∧w.alloc (.cells jk 154)=wr)
  (fun _ p _=>s.size - (intOf p).toNat)
 case atStart=>exact⟨0,0,rfl,rfl,by omega,aa (ZZ _),rfl⟩
 case round =>
  obtain⟨m,v,rfl,rfl,dh,HN,rfl⟩:=hrel;obtain⟨p,hp⟩:∃p:Nat,k+m=p:=⟨_,rfl⟩;rw[hp];by_cases hlt:p<s.size
  · have hlt2 : (p:Int)<(s.size:Int):=by omega
    obtain⟨a,ha⟩:∃a:Int,(s[p].toNat:Int)=a:=⟨_,rfl⟩;have ha1:0≤a∧a≤255:=by have:=s[p].toNat_lt;omega
    have hat:(ax s k)[m]? = some a:=by subst hp;rw[xu s k m hlt,ha]
    have hv0:=HN.o.pos;have hv1:=HN.o.max;cases hn:isNum a
    · have hN:=PK HN.o (fun x hx=>by rw[hat]at hx;injection hx with hx;rw[← hx];exact hn)
      clear hat;have kG:=aa hN;clear hN
      go_wp2_with (first
       | (go_at_call 141;((with_reducible refine(iM _ ?_ ?_ _).mono ?_);(first|omega|skip);(first|omega|skip);rintro e w' ⟨rfl,rfl⟩;rw[hn])))
      exact bodyPost_ret (ji (aC.new w (({ af.zero with kind:=1,num:=v }:af).goto k)) _ _ ((p:Int) - (k:Int)) 4 5 EZ rfl rfl) rfl ⟨(ai _ _).alloc (ag _) _,.inl ⟨_,m,kG.o,by rw[show((p:Int) - (k:Int))=(m:Int)by omega]⟩⟩
    · have hnb:=iL hn
      by_cases hbig:(9223372036854775807 - (a - 48)) / 10<v
      · have kG:=aa (ZX HN.o hat hn (by omega))
        clear hat
        go_wp2_with (first
         | (go_at_call 141;((with_reducible refine(iM _ ?_ ?_ _).mono ?_);(first|omega|skip);(first|omega|skip);rintro e w' ⟨rfl,rfl⟩;rw[hn])))
        exact bodyPost_ret (ji (aC.zero w) _ _ 0 4 5 EZ rfl rfl) rfl ⟨(ai _ _).alloc (ag _) _,.inr ⟨kG.o,_,rfl⟩⟩
      · have hsm:10*v+(a - 48)≤9223372036854775807:=by omega
        by_cases hm:0<m
        · have hpk:(k:Int)<(p:Int):=by omega
          by_cases hv:v=0
          · subst hv
            have kG:=aa (ZY HN.o hm hat hn);clear hat
            go_wp2_with (first
             | (go_at_call 141;((with_reducible refine(iM _ ?_ ?_ _).mono ?_);(first|omega|skip);(first|omega|skip);rintro e w' ⟨rfl,rfl⟩;rw[hn])))
            exact bodyPost_ret (ji (aC.zero w) _ _ 0 4 5 EZ rfl rfl) rfl ⟨(ai _ _).alloc (ag _) _,.inr ⟨kG.o,_,rfl⟩⟩
          · have hvb:(v == 0)=false:=beq_eq_false_iff_ne.2 hv
            have dB:=aa (PL HN.o hat hn hsm (fun _=>hv));clear hat
            go_wp2_with (first
             | (go_at_call 141;((with_reducible refine(iM _ ?_ ?_ _).mono ?_);(first|omega|skip);(first|omega|skip);rintro e w' ⟨rfl,rfl⟩;rw[hn])))
            go_roundw
            case rel=>exact⟨m+1,10*v+(a - 48),rfl,by rw[show((p:Int)+1)=((k+(m+1):Nat):Int)by omega],by omega,dB,by trivial⟩
            case measure=>simp[intOf];omega
        · have hpk:¬ (k:Int)<(p:Int):=by omega
          have dB:=aa (PL HN.o hat hn hsm (fun h=>absurd h hm));clear hat
          go_wp2_with (first
           | (go_at_call 141;((with_reducible refine(iM _ ?_ ?_ _).mono ?_);(first|omega|skip);(first|omega|skip);rintro e w' ⟨rfl,rfl⟩;rw[hn])))
          go_roundw
          case rel=>exact⟨m+1,10*v+(a - 48),rfl,by rw[show((p:Int)+1)=((k+(m+1):Nat):Int)by omega],by omega,dB,by trivial⟩
          case measure=>simp[intOf];omega
  · have hlt2:¬ (p:Int)<(s.size:Int):=by omega
    have kG:=aa (PK HN.o (fun x hx=>by have h1:=(dm.1 hx).1;rw[mE]at h1;omega));go_wp2_with fail
    exact bodyPost_ret (ji (aC.new w (({ af.zero with kind:=1,num:=v }:af).goto k)) _ _ ((p:Int) - (k:Int)) 4 5 EZ rfl rfl) rfl ⟨(ai _ _).alloc (ag _) _,.inl ⟨_,m,kG.o,by rw[show((p:Int) - (k:Int))=(m:Int)by omega]⟩⟩
theorem E8:Tryz.f171.results=#[.cell 4 154,.tmp 5]:=by kernel_rfl
theorem Qk (s:ByteArray)(k:Nat)(w:World)(_hs:s.size≤1000000)(_hk:k<s.size) :
 Calls Tryz.prog 171 #[.string s,.int .i64 (k:Int)] w (mg (jR (ax s (k+1))) k w):=by
 have bu:=aa (aC.zero w);have aR:=aa (show Below w.heap.size w (w.alloc (.cells jk 154))from(ai _ _).alloc (ag _) _);go_enter Tryz.func171,Tryz.ntmps171;go_wp2_with fail
 go_loopw [6,7] (fun v i wr=>∃(p:Nat)(xs:List Int),i = .int .i64 (p:Int)∧k+1≤p∧p≤s.size∧xs.length≤p∧Hid (mf s k p xs)∧Hid (oz wr (w.heap.size+1) v xs)∧Hid (aC wr w.heap.size af.zero)∧Hid (Below w.heap.size w wr))
  (fun _ i _=>s.size - (intOf i).toNat)
 case atStart =>
  refine⟨k+1,[],by go_num,by omega,by omega,by simp,aa ?_,aa (Own.nil _ _ _ _),bu,aR⟩;unfold mf;cases dS (ax s (k+1))with
  | none=>rfl
  | some q=>simp
 case round =>
  clear bu aR;obtain⟨p,xs,rfl,hkp,hps,hxl,HQ,HO,HT,HB⟩:=hrel;by_cases hlt:p<s.size
  · have hlt2:(p:Int)<(s.size:Int):=by omega
    obtain⟨a,ha⟩:∃a:Int,(s[p].toNat:Int)=a:=⟨_,rfl⟩;have ha1:0≤a∧a≤255:=by have:=s[p].toNat_lt;omega
    by_cases hlow:a<32
    · have HN:=aa (Qd HQ.o hlt (by rw[ha];exact hlow))
      obtain⟨x0,x1,x2,x3,x4,x5,x6,x7,az⟩:=HT.o.cells;obtain⟨g0,g1,g2,g3,g4,g5,g6,g7,g8⟩:=HT.o.bK;go_wp2_with fail
      exact bodyPost_ret (ji (HT.o.gB af.zero) _ _ 0 4 5 E8 rfl rfl) rfl ⟨mi HB.o (ag _) _ _ _ _ _ _ _ _ _,.inr ⟨HN.o,af.zero,rfl⟩⟩
    · by_cases cZ:a=34
      · have yE:(a == 34)=true:=beq_iff_eq.2 cZ
        obtain⟨q,hq⟩:∃q:Nat,p+1=q:=⟨_,rfl⟩;have hqi:(p:Int)+1=(q:Int):=by omega
        by_cases hlt3:q<s.size
        · have xc:¬ (s.size:Int)≤(q:Int):=by omega
          have Ik:(q:Int)<(s.size:Int):=by omega
          obtain⟨a2,ha2⟩:∃a2:Int,(s[q].toNat:Int)=a2:=⟨_,rfl⟩;have WI:0≤a2∧a2≤255:=by have:=s[q].toNat_lt;omega
          by_cases vJ:a2=34
          · have Ia:(a2 == 34)=true:=beq_iff_eq.2 vJ
            have ma:=aa (show mf s k (q+1) (xs++[34])by subst hq;exact Qf HQ.o hkp hlt (by rw[ha,cZ]) hlt3 (by rw[ha2,vJ]));clear HQ;go_wp2_with (at_builtin;refine mH Elem.u8 (bT .u8) rfl (.tmp 51) (.tmp 52) rfl (w.heap.size+1) _ _ rfl (HO.o.alloc _) ⟨_,0,none⟩ 1 1 [34] rfl rfl ?_ ?_ ?_ ?_ ?_;exact fZ _ _ _ rfl;omega;(unfold maxLen;omega);(have:=HT.o.lt;simp <;> omega);intro v' mI h1 h2;have og:=aa h1;have jJ:=aa (((ai (w.heap.size+1) _).alloc (by have:=HT.o.lt;omega) _).trans h2);clear h1 h2;have xZ:=aa (HT.o.below jJ.o (Nat.lt_succ_self _));have qQ:=aa (HB.o.trans (jJ.o.mono (Nat.le_succ _))))
            go_roundw
            case rel=>exact⟨q+1,xs++[34],by go_num,by omega,by omega,by simp;omega,ma,og,xZ,qQ⟩
            case measure=>simp[intOf];omega
          · have Ia:(a2 == 34)=false:=beq_eq_false_iff_ne.2 vJ
            have HN:=aa (show jR (ax s (k+1))=some ({ af.zero with kind:=2,text:=strOfNums xs },q - k)by subst hq;exact EU HQ.o hkp hlt (by rw[ha,cZ]) (fun h=>by rw[ha2];exact vJ));clear HQ;have Ig:=Aw HO.o;obtain⟨x0,x1,x2,x3,x4,x5,x6,x7,az⟩:=HT.o.cells;obtain⟨g0,g1,g2,g3,g4,g5,g6,g7,g8⟩:=HT.o.bK;go_wp2_with fail
            exact bodyPost_ret (ji (HT.o.gB (({ af.zero with kind:=2,text:=strOfNums xs }:af).goto k)) _ _ ((q:Int) - (k:Int)) 4 5 E8 rfl rfl) rfl ⟨mi HB.o (ag _) _ _ _ _ _ _ _ _ _,.inl ⟨_,q - k,HN.o,by rw[show((q:Int) - (k:Int))=((q - k:Nat):Int)by omega]⟩⟩
        · have xc:(s.size:Int)≤(q:Int):=by omega
          have HN:=aa (show jR (ax s (k+1))=some ({ af.zero with kind:=2,text:=strOfNums xs },q - k)by subst hq;exact EU HQ.o hkp hlt (by rw[ha,cZ]) (fun h=>absurd h hlt3));clear HQ;have Ig:=Aw HO.o;obtain⟨x0,x1,x2,x3,x4,x5,x6,x7,az⟩:=HT.o.cells;obtain⟨g0,g1,g2,g3,g4,g5,g6,g7,g8⟩:=HT.o.bK;go_wp2_with fail
          exact bodyPost_ret (ji (HT.o.gB (({ af.zero with kind:=2,text:=strOfNums xs }:af).goto k)) _ _ ((q:Int) - (k:Int)) 4 5 E8 rfl rfl) rfl ⟨mi HB.o (ag _) _ _ _ _ _ _ _ _ _,.inl ⟨_,q - k,HN.o,by rw[show((q:Int) - (k:Int))=((q - k:Nat):Int)by omega]⟩⟩
      · have yE:(a == 34)=false:=beq_eq_false_iff_ne.2 cZ
        have ma:=aa (Qe HQ.o hkp hlt ha hlow cZ);clear HQ;go_wp2_with (at_builtin;refine mH Elem.u8 (bT .u8) rfl (.tmp 25) (.tmp 29) rfl (w.heap.size+1) _ _ rfl (HO.o.alloc _) ⟨_,0,none⟩ 1 1 [a] rfl rfl ?_ ?_ ?_ ?_ ?_;exact fZ _ _ _ rfl;omega;(unfold maxLen;omega);(have:=HT.o.lt;simp <;> omega);intro v' mI h1 h2;have og:=aa h1;have jJ:=aa (((ai (w.heap.size+1) _).alloc (by have:=HT.o.lt;omega) _).trans h2);clear h1 h2;have xZ:=aa (HT.o.below jJ.o (Nat.lt_succ_self _));have qQ:=aa (HB.o.trans (jJ.o.mono (Nat.le_succ _))))
        go_roundw
        case rel=>exact⟨p+1,xs++[a],by go_num,by omega,by omega,by simp;omega,ma,og,xZ,qQ⟩
        case measure=>simp[intOf];omega
  · have hlt2:¬ (p:Int)<(s.size:Int):=by omega
    have HN:=aa (Qc HQ.o (by omega));obtain⟨x0,x1,x2,x3,x4,x5,x6,x7,az⟩:=HT.o.cells;obtain⟨g0,g1,g2,g3,g4,g5,g6,g7,g8⟩:=HT.o.bK;go_wp2_with fail
    exact bodyPost_ret (ji (HT.o.gB af.zero) _ _ 0 4 5 E8 rfl rfl) rfl ⟨mi HB.o (ag _) _ _ _ _ _ _ _ _ _,.inr ⟨HN.o,af.zero,rfl⟩⟩
end Go.Proofs.YtdnooocmlhcpkaaGreatDoor
