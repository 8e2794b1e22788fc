import Derived.Test.YtbplbjmmfgjdjaaGreatDoorMN9
set_option maxRecDepth 100000
set_option maxHeartbeats 64000000
namespace Go.Proofs.YtbplbjmmfgjdjaaGreatDoor
open Go.RowKit
def Dy(w:World):Prop:=∃ev,w.cell? ⟨7,0,none⟩=some ev∧(ev = .nilIface∨∃te pe,ev = .iface te pe)
theorem Dy.below {w w':World}(h:Dy w)(hb:Below w.heap.size w w'):Dy w':=by
 obtain⟨ev,h1,h2⟩:=h;exact⟨ev,(hb.cell (show(⟨7,0,none⟩:Addr).block<w.heap.size from Lib.lt_of_cell h1)).trans h1,h2⟩
structure oN (w:World):Prop where
 sx:Sx w
 syn:Dy w
theorem oN.below{w w':World}(h:oN w)(hb:Below w.heap.size w w'):oN w':=⟨h.sx.below hb,h.syn.below hb⟩
theorem Qt (c:Int)(_h0:0≤c)(_h1:c≤255)(w:World) :
 Calls Tryz.prog 66 #[.int .u8 c] w fun e w'=>e = .returned (.bool (isNum c))∧w=w':=by
 go_enter Tryz.func66,Tryz.ntmps66
 go_wp2
 all_goals go_ret
 all_goals exact⟨gu (by unfold isNum;first|rfl|(symm;rw[aQ];omega)|(symm;rw[jv];omega)|(rw[decide_eq_decide];omega)),rfl⟩
theorem ac2(s:ByteArray)(h:s.size=0):kd s=0:=by unfold kd;rw[wD s h];rfl
theorem ac3 (s:ByteArray)(hp0:0<s.size)(a:Int)(ha:(s[0].toNat:Int)=a):kd s=if a=39 then 1 else if a=61 then 2 else if a=45∨isNum a=true then 3 else 4:=by
 have hga:(sb s).getD 0 0=a:=by rw[uT s 0 hp0,ha]
 have hl:(sb s).length=s.size:=bC s;unfold kd;cases h:sb s with
 | nil=>rw[h]at hl;simp at hl;omega
 | cons c l =>
   rw[h]at hga;have:c=a:=by simpa using hga
   subst this;rfl
theorem adl (s:ByteArray)(_hs:s.size≤1000000)(w:World):Calls Tryz.prog 44 #[.string s] w fun e w'=>e = .returned (.int .i64 (kd s))∧w=w':=by
 by_cases h0:s.size=0
 · have hk:=ac2 s h0
   have hz:=wD s h0;have HK:=ae hk;clear hk;obtain rfl:s=⟨#[]⟩:=by first|exact hz|(rw[← nA s,hz];rfl)
   clear h0 hz _hs;go_enter Tryz.func44,Tryz.ntmps44;go_wp2_with fail
   all_goals go_ret
   all_goals exact⟨by rw[HK.o];first|done|rfl,rfl⟩
 · have hne:=qg s h0
   have uG:s.toList.isEmpty=false:=by cases hq:s.toList with|nil=>exact absurd hq hne|cons a l=>rfl
   have hp0:0<s.size:=by omega
   obtain⟨a,ha⟩:∃a:Int,(s[0].toNat:Int)=a:=⟨_,rfl⟩;have ha1:0≤a∧a≤255:=by have:=s[0].toNat_lt;omega
   have hk:=ac3 s hp0 a ha;by_cases c1:a=39
   · rw[ag c1]at hk
     have HK:=ae hk;have e1:(a == 39)=true:=bB.2 c1;clear hk c1 h0;go_enter Tryz.func44,Tryz.ntmps44;go_wp2_with fail
     all_goals go_ret
     all_goals exact⟨by rw[HK.o];first|done|rfl,rfl⟩
   rw[af c1]at hk;have e1:(a == 39)=false:=aA.2 c1;by_cases c2:a=61
   · rw[ag c2]at hk
     have HK:=ae hk;have e2:(a == 61)=true:=bB.2 c2;clear hk c1 c2 h0;go_enter Tryz.func44,Tryz.ntmps44;go_wp2_with fail
     all_goals go_ret
     all_goals exact⟨by rw[HK.o];first|done|rfl,rfl⟩
   rw[af c2]at hk;have e2:(a == 61)=false:=aA.2 c2;by_cases c3:a=45
   · rw[ag (Or.inl c3)]at hk
     have HK:=ae hk;have e3:(a == 45)=true:=bB.2 c3;clear hk c1 c2 c3 h0;go_enter Tryz.func44,Tryz.ntmps44;go_wp2_with fail
     all_goals go_ret
     all_goals exact⟨by rw[HK.o];first|done|rfl,rfl⟩
   have e3:(a == 45)=false:=aA.2 c3;cases c4:isNum a with
   | true =>
     rw[ag (Or.inr c4)]at hk;have HK:=ae hk;clear hk c1 c2 c3 h0;go_enter Tryz.func44,Tryz.ntmps44;go_wp2_with (go_at_call 66;((with_reducible refine(Qt _ ?_ ?_ _).mono ?_);(try omega);(try omega);rintro e w' ⟨rfl,rfl⟩))
     all_goals go_ret
     all_goals exact⟨by rw[HK.o];first|done|rfl,rfl⟩
   | false =>
     rw[af (by rw[c4];simp;exact c3)]at hk;have HK:=ae hk;clear hk c1 c2 c3 h0;go_enter Tryz.func44,Tryz.ntmps44;go_wp2_with (go_at_call 66;((with_reducible refine(Qt _ ?_ ?_ _).mono ?_);(try omega);(try omega);rintro e w' ⟨rfl,rfl⟩))
     all_goals go_ret
     all_goals exact⟨by rw[HK.o];first|done|rfl,rfl⟩
theorem Hq(s:ByteArray)(_hs:s.size≤1000000)(k:Int)(hk:kd s=k)(w:World):Calls Tryz.prog 44 #[.string s] w fun e w'=>e = .returned (.int .i64 k)∧w=w':=hk ▸ adl s _hs w
theorem zq{B:Nat}{w w':World}(h:Below B w w'):Below B w w'.drew:=⟨h.os,h.tape,h.output,h.size,h.block⟩
theorem UZ (s:ByteArray)(ns:List Nd)(hp:gZ s (.ok ns))(w1 wr:World)(hx:Sx wr)(v:Value)(l:List (Nd × Value))(hm:l.map Prod.fst=ns)(hs:dN w1 w1.heap.size v l)(hr:Below w1.heap.size w1 wr) :
 Calls Tryz.prog 26 #[v] wr fun e w'=>e = .returned (.string (strOfNums (di ns)))∧Below wr.heap.size wr w':=by
 obtain⟨⟨abY,mJ,Md⟩,bP,hpl,acv,hp2⟩:=Ef s ns hp;have hsz:=PL s ns hp;have hl:l.length=ns.length:=by rw[← hm,eF]
 have:=hx.UX v l (hs.lift hr hr.size) ⟨by omega,fun p hp=>hsz p.1 (by rw[← hm];exact r9 hp)⟩ (fun p hp=>bP p.1 (by rw[← hm];exact r9 hp)) (by rw[show l.map (·.1)=ns from hm];omega) (by rw[show l.map (·.1)=ns from hm];exact Md);rwa[show l.map (·.1)=ns from hm]at this
def gG:ByteArray:=⟨#[61]⟩
theorem aev (c:Int)(mk s:ByteArray)(h:sb mk=[c]):sb (mk++s)=c :: sb s:=by
 have:sb (mk++s)=sb mk++sb s:=by unfold sb;rw[ByteArray.data_append,Array.toList_append,iL]
 rw[this,h];rfl
theorem ac4(s:ByteArray):kd (gG++s)=2:=by unfold kd;rw[aev 61 gG s (by decide)];rfl
theorem Ug (mk s t:ByteArray)(hm:mk.size=1)(ht:mk++s=t):t.extract 1 t.size=s:=by
 subst ht;rw[ByteArray.extract_append,hm,ByteArray.size_append,hm];rw[show mk.extract 1 (1+s.size)=ByteArray.empty from ByteArray.extract_eq_empty_iff.2 (by omega)];rw[ByteArray.empty_append,show 1+s.size - 1=s.size by omega];exact ByteArray.extract_zero_size
theorem YZ (s:ByteArray)(ns:List Nd)(h:gZ s (.ok ns)):∀n∈ns,n.text.size≤300∧n.ref.sh.size≤300∧n.ai.sh.size≤300:=by
 rcases h with ⟨_,h⟩|⟨_,_,h⟩|⟨h0,ts,f,h1,h2⟩
 · cases h
 · cases h
 · exact UL h2 (Hw 300 _ _ _ _ (fun x hx=>uS s x hx) (by rw[bC];omega) h1)
theorem WI (c:Nat):∀ns:List Nd,(∀n∈ns,nC n≤c)→qP ns≤ns.length*c
 | [],_=>by unfold qP;simp
 | n :: ns,h=>by
   have h1:=WI c ns fun m hm=>h m (by simp[hm])
   have h2:=h n (by simp);have h3:qP (n :: ns)=nC n+qP ns:=by unfold qP;simp
   rw[h3,bf,Nat.add_mul];omega
structure pJ (ns:List Nd):Prop where
 tree:dA ns=true
 len:ns.length≤300
 num:∀n∈ns,n.num≤9223372036854775807
 sz:∀n∈ns,n.text.size≤300∧n.ref.sh.size≤300∧n.ai.sh.size≤300
theorem pJ.long {ns:List Nd}(h:pJ ns):(di ns).length≤1000000:=by
 have h1:=UY h.tree h.num;have h2:=WI 1260 ns fun n hn=>by have:=h.sz n hn;unfold nC;omega
 have h3:=h.len;have h4:ns.length*1260≤300*1260:=Nat.mul_le_mul_right _ h3;omega
theorem pJ.of {s:ByteArray}{ns:List Nd}(h:gZ s (.ok ns)):pJ ns:=by
 obtain⟨⟨hl,_,ht⟩,bP,_⟩:=Ef s ns h;exact⟨ht,hl,bP,YZ s ns h⟩
theorem pJ.move {ns:List Nd}(h:pJ ns)(own:ByteArray){ss:List Sf}(hs:Gj ss):pJ (jo own ss ns):=by
 refine⟨aeL h.tree hs,by rw[H7];exact h.len,fun n hn => ?_,fun n hn => ?_⟩
 · obtain⟨m,hm,rfl⟩:=List.mem_map.1 hn
   have h1:=(Uj own ss m).num;have h2:=h.num m hm;omega
 · obtain⟨m,hm,rfl⟩:=List.mem_map.1 hn
   have h1:=Uj own ss m;have h2:=h.sz m hm;exact⟨bN h1.text h2.1,bN h1.ref h2.2.1,bN h1.ai h2.2.2⟩
theorem pJ.BL {l:List (Nd × Value)}(h:pJ (l.map (·.1))):SZ l :=
 ⟨by have:=h.len;rw[eF]at this;omega,fun p hp=>by have:=h.sz p.1 (r9 hp);omega⟩
theorem agd (w:World)(hx:Sx w)(v:Value)(l:List (Nd × Value))(hs:dN w w.heap.size v l)(h:pJ (l.map (·.1))) :
 Calls Tryz.prog 26 #[v] w fun e w'=>e = .returned (.string (strOfNums (di (l.map (·.1)))))∧Below w.heap.size w w' :=
 hx.UX v l hs h.BL (fun p hp=>h.num p.1 (r9 hp)) (by have:=h.long;omega) h.tree
theorem aa2 (t p:ByteArray)(hs:t.size≤300)(h1:1≤t.size)(hk:kd t=2)(hr:t.extract 1 t.size=p)(ns:List Nd)(hp:gZ p (.ok ns))(vY:strOfNums (di ns)=p)(w:World)(hx:oN w) :
 Calls Tryz.prog 25 #[.string t] w fun e w'=>∃g cap l,e = .returned (.tuple #[.slice (some ⟨g,0,none⟩) ns.length cap,.bool true])∧dN w' w'.heap.size (.slice (some ⟨g,0,none⟩) ns.length cap) l∧l.map Prod.fst=ns∧Below w.heap.size w w':=by
 have HA:=ae (UN p w hx.sx ns hp);have qY:=ae (fun (w1:World)(h1:Below w.heap.size w w1)(v:Value)(l:List (Nd × Value))(hm:l.map Prod.fst=ns)(hs:dN w1 w1.heap.size v l)=>(show Calls Tryz.prog 26 #[v] w1.drew fun e w'=>e = .returned (.string p)∧Below w1.drew.heap.size w1.drew w' from vY ▸ UZ p ns hp w1 w1.drew (hx.sx.below (zq h1)) v l hm hs (zq (ak _ _))));have HK:=ae (Hq t (by omega) _ hk w);have hi1:(1:Int)≤(t.size:Int):=by omega
 have hi:¬ (300:Int)<(t.size:Int):=by omega
 obtain⟨L,hL⟩:∃L,ns.length=L:=⟨_,rfl⟩;rw[hL]at HA ⊢;clear hp vY hL hx hs hk;go_enter Tryz.func25,Tryz.ntmps25
 go_wp2_with (first
  | (go_at_call 44;((with_reducible refine HK.o.mono ?_);rintro e w1 ⟨rfl,rfl⟩))
  | (go_at_call 45;((with_reducible refine HA.o.mono ?_);rintro e w1 ⟨hb,g1,fu,l1,rfl,hm1,hs1⟩;have HB1:=ae hb;have bK:=ae (qY.o w1 hb _ l1 hm1 hs1);have y5:=ae hm1;have fF:=ae hs1;clear hb hm1 hs1)))
 go_region_held3 (fun _=>True) (trivial) (first
  | (go_at_call 26;((with_reducible refine bK.o.mono ?_);rintro e w2 ⟨rfl,h1⟩;have HB2:=ae ((zq HB1.o).trans (h1.mono HB1.o.size));have OC:=ae ((zq (ak _ w1)).trans h1);clear h1)))
 all_goals go_wp2_with fail
 all_goals go_ret2
 all_goals exact⟨_,_,l1,rfl,fF.o.lift OC.o OC.o.size,y5.o,HB2.o⟩
def yK(own:ByteArray)(ss:List Sf)(ns:List Nd):ByteArray:=if (gG++strOfNums (di (jo own ss ns))).size≤300 then gG++strOfNums (di (jo own ss ns))else ⟨#[61,35,82,69,70,33]⟩
theorem Ui (w:World)(t p own:ByteArray)(xs:List aP)(B:Option Addr)(m c:Nat)(hx:oN w)(hS:mW w w.heap.size (.slice B m c) xs)(hm:m≤1000000)(hO:∀x∈xs,mV x.s)(ho:own.size≤maxLen)(hs:t.size≤300)(h1:1≤t.size)(hk:kd t=2)(hr:t.extract 1 t.size=p)(ns:List Nd)(hp:gZ p (.ok ns))(vY:strOfNums (di ns)=p) :
 Calls Tryz.prog 11 #[.string t,.string own,.slice B m c] w fun e w'=>e = .returned (.string (yK own (eH xs) ns))∧Below w.heap.size w w':=by
 have HF:=ae (aa2 t p hs h1 hk hr ns hp vY w hx);have hok:=pJ.of hp;have hsO:Gj (eH xs):=fun s hs=>by obtain⟨x,hx,rfl⟩:=List.mem_map.1 hs;exact hO x hx
 have hmv:=hok.move own hsO;have dR:=ae (fun (wq:World)(hq:Below w.heap.size w wq)(A:Option Addr)(n cap:Nat)(l:List (Nd × Value))(hl:dN wq wq.heap.size (.slice A n cap) l)(hm2:l.map Prod.fst=ns)=>(show Calls Tryz.prog 9 #[.slice A n cap,.string own,.slice B m c] wq (Gd wq own (eH xs) ns)from hm2 ▸ Uh wq own xs A B n cap m c l (hx.sx.below hq).vars (hS.lift hq) hm hO ho hl (pJ.BL (hm2.symm ▸ hok)) (hm2.symm ▸ hok.tree)));have qY:=ae (fun (wq:World)(hq:Below w.heap.size w wq)(v:Value)(l:List (Nd × Value))(hl:dN wq wq.heap.size v l)(hm2:l.map (·.1)=jo own (eH xs) ns)=>(show Calls Tryz.prog 26 #[v] wq fun e w'=>e = .returned (.string (strOfNums (di (jo own (eH xs) ns))))∧Below wq.heap.size wq w' from hm2 ▸ agd wq (hx.sx.below hq) v l hl (hm2.symm ▸ hmv)));obtain⟨q,hq⟩:∃q,strOfNums (di (jo own (eH xs) ns))=q:=⟨_,rfl⟩;have hql:q.size≤1000000:=by rw[← hq,strOfNums_size];exact hmv.long
 rw[hq]at qY;obtain⟨L,hL⟩:∃L,ns.length=L:=⟨_,rfl⟩;unfold Gd at dR;rw[hL]at HF dR;have w9:¬ 9223372036854775807<(⟨#[61]⟩:ByteArray).size+q.size:=by show ¬ _<1+q.size;omega
 have abx:¬ 9223372036854775807<1+q.size:=by omega
 have hsz:(gG++q).size=1+q.size:=by rw[ByteArray.size_append];rfl
 have aW:=ae (show yK own (eH xs) ns=if (gG++q).size≤300 then gG++q else ⟨#[61,35,82,69,70,33]⟩from by unfold yK;rw[hq]);have mU:=ae hsz;clear hok hsO hmv hx hS hm hO ho hs h1 hk hr hp vY hq hL hsz;go_enter Tryz.func11,Tryz.ntmps11
 go_upto_region 5 with (first
  | (go_at_call 25;((with_reducible refine HF.o.mono ?_);rintro e w2 ⟨g,cap,l,rfl,hs1,hm1,hq1⟩;have H2:=ae hq1;have HS2:=ae hs1;have nV:=ae hm1;clear hs1 hm1 hq1))
  | (go_at_call 9;((with_reducible refine(dR.o _ H2.o _ _ _ l HS2.o nV.o).mono ?_);rintro e w3 ⟨T,done,rfl,hs1,hm1,hq1,_⟩;have H3:=ae (H2.o.trans (hq1.mono H2.o.size));have mG:=ae hs1;have uf:=ae hm1;clear hs1 hm1 hq1))
  | (go_at_call 26;((with_reducible refine(qY.o _ H3.o _ done mG.o uf.o).mono ?_);rintro e w4 ⟨rfl,hq1⟩;have H4:=ae (H3.o.trans (hq1.mono H3.o.size));clear hq1)))
 by_cases hc:(gG++q).size≤300
 · have hc1:¬ (300:Int)<1+(q.size:Int):=by rw[mU.o]at hc;omega
   have HC:=ae hc;clear hc;go_wp2_with fail
   go_ret;exact⟨by rw[aW.o,ag HC.o];rfl,H4.o⟩
 · have hc1:(300:Int)<1+(q.size:Int):=by rw[mU.o]at hc;omega
   have HC:=ae hc;clear hc;go_wp2_with fail
   go_ret;exact⟨by rw[aW.o,af HC.o];rfl,H4.o⟩
def xH(t:ByteArray)(w:World):Prop:=Calls Tryz.prog 25 #[.string t] w fun e w'=>e = .returned (.tuple #[.slice none 0 0,.bool false])∧Below w.heap.size w w'
theorem aa0 (t:ByteArray)(hs:300<t.size)(w:World):xH t w:=by
 have hi:(300:Int)<(t.size:Int):=by omega
 unfold xH;clear hs;go_enter Tryz.func25,Tryz.ntmps25;go_wp2_with fail
 go_ret2
 exact⟨rfl,ak _ _⟩
theorem aaZ (t:ByteArray)(hs:t.size≤300)(k:Int)(hk:kd t=k)(h2:¬ k=2)(w:World):xH t w:=by
 have HK:=ae (Hq t (by omega) _ hk w);have hi:¬ (300:Int)<(t.size:Int):=by omega
 have hk2:(k != 2)=true:=by rw[bne_iff_ne];exact h2
 unfold xH;clear hs hk h2;go_enter Tryz.func25,Tryz.ntmps25
 go_wp2_with (first
  | (go_at_call 44;((with_reducible refine HK.o.mono ?_);rintro e w1 ⟨rfl,rfl⟩)))
 go_ret2
 exact⟨rfl,ak _ _⟩
theorem aaY (t p:ByteArray)(hs:t.size≤300)(h1:1≤t.size)(hk:kd t=2)(hr:t.extract 1 t.size=p)(c:Int)(hp:gZ p (.error c))(hc:c≠0)(w:World)(hx:oN w):xH t w:=by
 have HA:=ae (afY p w hx.sx.vars hx.sx.ops c hp);have HK:=ae (Hq t (by omega) _ hk w);have hi1:(1:Int)≤(t.size:Int):=by omega
 have hi:¬ (300:Int)<(t.size:Int):=by omega
 have hc0:(c != 0)=true:=by rw[bne_iff_ne];exact hc
 unfold xH;clear hp hx hs hk hc;go_enter Tryz.func25,Tryz.ntmps25
 go_wp2_with (first
  | (go_at_call 44;((with_reducible refine HK.o.mono ?_);rintro e w1 ⟨rfl,rfl⟩))
  | (go_at_call 45;((with_reducible refine HA.o.mono ?_);rintro e w1 ⟨hb,rfl⟩;have HB1:=ae hb;clear hb)))
 refine wp_region_held_drew (S:=fun _=>True) (by kernel_rfl) trivial (fun _ => ?_);show wpAnyH _ _ _ _ _ 9 #[false,false,false,false,false,false,false,false,false] _ _;refine hT 0 trivial ?_;refine hT 1 (v := .bool true) trivial ?_ (hy:=by(intro ig hSw;go_simp));refine hT 2 trivial ?_;refine hN 3 trivial ?_;refine hN 4 trivial ?_;refine hN 5 trivial ?_;refine hN 6 trivial ?_;refine hN 7 trivial ?_;refine hT 8 trivial ?_;refine wpAnyH_done (by kernel_rfl) ?_ _;go_wp2_with fail
 go_ret2
 exact⟨rfl,zq HB1.o⟩
theorem aa3 (t p q:ByteArray)(hs:t.size≤300)(h1:1≤t.size)(hk:kd t=2)(hr:t.extract 1 t.size=p)(ns:List Nd)(hp:gZ p (.ok ns))(vY:strOfNums (di ns)=q)(hne:¬ q=p)(w:World)(hx:oN w):xH t w:=by
 have HA:=ae (UN p w hx.sx ns hp);have qY:=ae (fun (w1:World)(h1:Below w.heap.size w w1)(v:Value)(l:List (Nd × Value))(hm:l.map Prod.fst=ns)(hs:dN w1 w1.heap.size v l)=>(show Calls Tryz.prog 26 #[v] w1.drew fun e w'=>e = .returned (.string q)∧Below w1.drew.heap.size w1.drew w' from vY ▸ UZ p ns hp w1 w1.drew (hx.sx.below (zq h1)) v l hm hs (zq (ak _ _))));have HK:=ae (Hq t (by omega) _ hk w);have hi1:(1:Int)≤(t.size:Int):=by omega
 have hi:¬ (300:Int)<(t.size:Int):=by omega
 have uG:(q.toList == p.toList)=false:=aA.2 (pg q p hne);obtain⟨L,hL⟩:∃L,ns.length=L:=⟨_,rfl⟩;rw[hL]at HA;unfold xH;clear hp vY hL hx hs hk;go_enter Tryz.func25,Tryz.ntmps25
 go_wp2_with (first
  | (go_at_call 44;((with_reducible refine HK.o.mono ?_);rintro e w1 ⟨rfl,rfl⟩))
  | (go_at_call 45;((with_reducible refine HA.o.mono ?_);rintro e w1 ⟨hb,g1,fu,l1,rfl,hm1,hs1⟩;have HB1:=ae hb;have bK:=ae (qY.o w1 hb _ l1 hm1 hs1);clear hb hm1 hs1)))
 go_region_held3 (fun _=>True) (trivial) (first
  | (go_at_call 26;((with_reducible refine bK.o.mono ?_);rintro e w2 ⟨rfl,h1⟩;have HB2:=ae ((zq HB1.o).trans (h1.mono HB1.o.size));clear h1)))
 all_goals go_wp2_with fail
 all_goals go_ret2
 all_goals exact⟨rfl,HB2.o⟩
def Gb(t:ByteArray):Prop:=t.size≤300∧kd t=2∧∃ns,gZ (t.extract 1 t.size) (.ok ns)∧strOfNums (di ns)=t.extract 1 t.size
theorem aa1 (t:ByteArray)(h:¬ Gb t)(w:World)(hx:oN w):xH t w:=by
 by_cases hs:300<t.size
 · exact aa0 t hs w
 · by_cases hk:kd t=2
   · have h1:1≤t.size:=by
      rcases Nat.eq_zero_or_pos t.size with h0|h0
      · exfalso
        have:sb t=[]:=kM (by rw[bC];exact h0);unfold kd at hk;rw[this]at hk;exact absurd hk (by decide)
      · exact h0
     obtain⟨res,hp⟩:=gZ.all (t.extract 1 t.size);cases res with
     | error c=>exact aaY t _ (by omega) h1 hk rfl c hp (PK _ c hp) w hx
     | ok ns=>exact aa3 t _ _ (by omega) h1 hk rfl ns hp rfl (fun e=>h ⟨by omega,hk,ns,hp,e⟩) w hx
   · exact aaZ t (by omega) _ rfl hk w
theorem aeA (t own:ByteArray)(v:Value)(w:World)(hx:oN w)(h:¬ Gb t) :
 Calls Tryz.prog 11 #[.string t,.string own,v] w fun e w'=>e = .returned (.string t)∧Below w.heap.size w w':=by
 have HF:=ae (show Calls Tryz.prog 25 #[.string t] w _ from aa1 t h w hx);clear h hx;go_enter Tryz.func11,Tryz.ntmps11
 go_wp2_with (first
  | (go_at_call 25;((with_reducible refine HF.o.mono ?_);rintro e w2 ⟨rfl,hq1⟩;have H2:=ae hq1;clear hq1)))
 go_ret;exact⟨rfl,H2.o⟩
def og (o:Option (ah × Nat))(k:Nat)(w:World)(e:Ending)(w':World):Prop :=
 Below w.heap.size w w'∧((∃t n,o=some (t,n)∧e = .returned (.tuple #[.agg (qh (t.goto k)),.int .i64 (n:Int)]))∨(o=none∧∃t,e = .returned (.tuple #[.agg (qh t),.int .i64 0])))
theorem om {w w1:World}{g:Nat}(h:Below w.heap.size w w1)(hg:w.heap.size≤g)(v0 v1 v2 v3 v4 v5 v6 v7 v8:Value) :
 Below w.heap.size w (((((((((w1.setCell ⟨g,0,none⟩ v0).setCell ⟨g,1,none⟩ v1).setCell ⟨g,2,none⟩ v2).setCell ⟨g,3,none⟩ v3).setCell ⟨g,4,none⟩ v4).setCell ⟨g,5,none⟩ v5).setCell ⟨g,6,none⟩ v6).setCell ⟨g,7,none⟩ v7).setCell ⟨g,8,none⟩ v8) :=
 ((((((((h.setCell hg _).setCell hg _).setCell hg _).setCell hg _).setCell hg _).setCell hg _).setCell hg _).setCell hg _).setCell hg _
theorem kC {w:World}{b:Nat}{t:ah}(h:aN w b t)(fn:Func)(tmps:Array Value)(n:Int)(p u:Tmp)(hf:fn.results=#[.cell p 113,.tmp u])(hp:tmps.getD p undef = .pointer (some ⟨b,0,none⟩))(hu:tmps.getD u undef = .int .i64 n) :
 (results fn tmps).run Tryz.prog w = .ok (.tuple #[.agg (qh t),.int .i64 n]) w:=by
 rw[results_cell_tmp hf,hp,hu];simp[asAddr,h.load,Result.andThen]
theorem IP:Tryz.f137.results=#[.cell 4 113,.tmp 5]:=by kernel_rfl
structure zf (l:List Int)(m:Nat)(v:Int):Prop where
 val:dG (l.take m)=v
 Cv:∀x∈l.take m,isNum x=true
 pos:0≤v
 max:v≤9223372036854775807
 len:m≤l.length
 head:1<m→l.head? ≠ some 48
theorem afs(l:List Int):zf l 0 0:=⟨rfl,by simp,by omega,by omega,by omega,by omega⟩
theorem Om(x:Int):dG [x]=x - 48:=by unfold dG;simp
theorem Fx{l:List Int}{m:Nat}{a:Int}(ha:l[m]? = some a):l.take (m+1)=l.take m++[a]:=by rw[List.take_add_one,ha];rfl
theorem MV{l:List Int}{m:Nat}{v a:Int}(h:zf l m v)(ha:l[m]? = some a):dG (l.take (m+1))=10*v+(a - 48):=by rw[Fx ha,z8,h.val]
theorem afq {l:List Int}{m:Nat}{v a:Int}(h:zf l m v)(ha:l[m]? = some a)(hn:isNum a=true)(hb:9223372036854775807<10*v+(a - 48)):lJ l=none:=by
 have aX:=ru h.Cv hn;rw[← Fx ha]at aX;have h1:=I6 isNum l (m+1) aX;have h2:=BR ((l.drop (m+1)).takeWhile isNum) (l.take (m+1)) (uW isNum _) (by rw[MV h ha];omega);rw[← h1,MV h ha]at h2;unfold lJ;rw[ag (.inr (by omega))]
theorem afr {l:List Int}{m:Nat}{a:Int}(h:zf l m 0)(hm:0<m)(ha:l[m]? = some a)(hn:isNum a=true):lJ l=none:=by
 have aX:=ru h.Cv hn;rw[← Fx ha]at aX;have h1:=I6 isNum l (m+1) aX
 have hlen:1<(l.takeWhile isNum).length:=by
  rw[h1,ax,gW];have:=(eQ.1 ha).1;omega
 cases l with
 | nil=>simp at ha
 | cons x r =>
   have hx:=h.Cv x (by rw[show m=(m - 1)+1 by omega,List.take_succ_cons];simp);have hb:=jE hx;have h2:=BR ((x :: r).take m).tail [x] (fun y hy=>h.Cv y (List.mem_of_mem_tail hy)) (by rw[Om];omega);have e:[x]++((x :: r).take m).tail=(x :: r).take m:=by rw[show m=(m - 1)+1 by omega,List.take_succ_cons];rfl
   rw[e,h.val,Om]at h2;unfold lJ;rw[ag (.inl ⟨hlen,by simp;omega⟩)]
theorem Uz {l:List Int}{m:Nat}{v a:Int}(h:zf l m v)(ha:l[m]? = some a)(hn:isNum a=true)(hb:10*v+(a - 48)≤9223372036854775807)(h0:0<m→v≠0):zf l (m+1) (10*v+(a - 48)):=by
 have hbd:=jE hn;have hp:=h.pos;refine⟨MV h ha, ?_,by omega,hb, ?_, ?_⟩
 · rw[Fx ha];exact ru h.Cv hn
 · have:=(eQ.1 ha).1;omega
 · intro hm hh
   by_cases h1:1<m
   · exact h.head h1 hh
   · have hm1:m=1:=by omega
     subst hm1;cases l with
     | nil=>simp at hh
     | cons x r =>
       simp at hh;have:=h.val;rw[List.take_succ_cons,List.take_zero,Om]at this;exact h0 (by omega) (by omega)
theorem Uy {l:List Int}{m:Nat}{v:Int}(h:zf l m v)(hs:∀x,l[m]? = some x→isNum x=false):lJ l=some ({ ah.zero with kind:=1,num:=v },m):=by
 have hsp:=BK isNum l m h.Cv hs;have hlen:(l.take m).length=m:=by rw[gW];have:=h.len;omega
 unfold lJ;rw[hsp,hlen,h.val,af];rintro(⟨h1,h2⟩|h1)
 · exact h.head h1 h2
 · have:=h.max;omega
theorem Vi (s:ByteArray)(k:Nat)(w:World)(_hs:s.size≤1000000)(_hk:k≤s.size) :
 Calls Tryz.prog 137 #[.string s,.int .i64 (k:Int)] w (og (lJ (aL s k)) k w):=by
 have aT:=ae (aN.zero w);go_enter Tryz.func137,Tryz.ntmps137;go_wp2_with fail
 go_loopw [6,7] (fun n p wr=>∃(m:Nat)(v:Int),n = .int .i64 v∧p = .int .i64 ((k+m:Nat):Int)∧k+m≤s.size∧Hid (zf (aL s k) m v)∧w.alloc (.cells kE 113)=wr)
  (fun _ p _=>s.size - (intOf p).toNat)
 case atStart=>exact⟨0,0,rfl,rfl,by omega,ae (afs _),rfl⟩
 case round =>
  obtain⟨m,v,rfl,rfl,dL,HN,rfl⟩:=hrel;obtain⟨p,hp⟩:∃p:Nat,k+m=p:=⟨_,rfl⟩;rw[hp];by_cases hlt:p<s.size
  · have lH : (p:Int)<(s.size:Int):=by omega
    obtain⟨a,ha⟩:∃a:Int,(s[p].toNat:Int)=a:=⟨_,rfl⟩;have ha1:0≤a∧a≤255:=by have:=s[p].toNat_lt;omega
    have hat:(aL s k)[m]? = some a:=by subst hp;rw[zR s k m hlt,ha]
    have hv0:=HN.o.pos;have hv1:=HN.o.max;cases hn:isNum a
    · have hN:=Uy HN.o (fun x hx=>by rw[hat]at hx;injection hx with hx;rw[← hx];exact hn)
      clear hat;have mE:=ae hN;clear hN
      go_wp2_with (first
       | (go_at_call 81;((with_reducible refine(jG _ ?_ ?_ _).mono ?_);(try omega);(try omega);rintro e w' ⟨rfl,rfl⟩;rw[hn])))
      exact bodyPost_ret (kC (aN.new w (({ ah.zero with kind:=1,num:=v }:ah).goto k)) _ _ ((p:Int) - (k:Int)) 4 5 IP rfl rfl) rfl ⟨(ak _ _).alloc (aj _) _,.inl ⟨_,m,mE.o,by rw[show((p:Int) - (k:Int))=(m:Int)by omega]⟩⟩
    · have hnb:=jE hn
      by_cases rC:(9223372036854775807 - (a - 48)) / 10<v
      · have mE:=ae (afq HN.o hat hn (by omega))
        clear hat
        go_wp2_with (first
         | (go_at_call 81;((with_reducible refine(jG _ ?_ ?_ _).mono ?_);(try omega);(try omega);rintro e w' ⟨rfl,rfl⟩;rw[hn])))
        exact bodyPost_ret (kC (aN.zero w) _ _ 0 4 5 IP rfl rfl) rfl ⟨(ak _ _).alloc (aj _) _,.inr ⟨mE.o,_,rfl⟩⟩
      · have hsm:10*v+(a - 48)≤9223372036854775807:=by omega
        by_cases hm:0<m
        · have hpk:(k:Int)<(p:Int):=by omega
          by_cases hv:v=0
          · subst hv
            have mE:=ae (afr HN.o hm hat hn);clear hat
            go_wp2_with (first
             | (go_at_call 81;((with_reducible refine(jG _ ?_ ?_ _).mono ?_);(try omega);(try omega);rintro e w' ⟨rfl,rfl⟩;rw[hn])))
            exact bodyPost_ret (kC (aN.zero w) _ _ 0 4 5 IP rfl rfl) rfl ⟨(ak _ _).alloc (aj _) _,.inr ⟨mE.o,_,rfl⟩⟩
          · have hvb:(v == 0)=false:=aA.2 hv
            have eu:=ae (Uz HN.o hat hn hsm (fun _=>hv));clear hat
            go_wp2_with (first
             | (go_at_call 81;((with_reducible refine(jG _ ?_ ?_ _).mono ?_);(try omega);(try omega);rintro e w' ⟨rfl,rfl⟩;rw[hn])))
            go_roundw
            case rel=>exact⟨m+1,10*v+(a - 48),rfl,by rw[show((p:Int)+1)=((k+(m+1):Nat):Int)by omega],by omega,eu,by trivial⟩
            case measure=>simp[intOf];omega
        · have hpk:¬ (k:Int)<(p:Int):=by omega
          have eu:=ae (Uz HN.o hat hn hsm (fun h=>absurd h hm));clear hat
          go_wp2_with (first
           | (go_at_call 81;((with_reducible refine(jG _ ?_ ?_ _).mono ?_);(try omega);(try omega);rintro e w' ⟨rfl,rfl⟩;rw[hn])))
          go_roundw
          case rel=>exact⟨m+1,10*v+(a - 48),rfl,by rw[show((p:Int)+1)=((k+(m+1):Nat):Int)by omega],by omega,eu,by trivial⟩
          case measure=>simp[intOf];omega
  · have lH:¬ (p:Int)<(s.size:Int):=by omega
    have mE:=ae (Uy HN.o (fun x hx=>by have h1:=(eQ.1 hx).1;rw[oF]at h1;omega));go_wp2_with fail
    exact bodyPost_ret (kC (aN.new w (({ ah.zero with kind:=1,num:=v }:ah).goto k)) _ _ ((p:Int) - (k:Int)) 4 5 IP rfl rfl) rfl ⟨(ak _ _).alloc (aj _) _,.inl ⟨_,m,mE.o,by rw[show((p:Int) - (k:Int))=(m:Int)by omega]⟩⟩
theorem IU:Tryz.f138.results=#[.cell 4 113,.tmp 5]:=by kernel_rfl
theorem Vl (s:ByteArray)(k:Nat)(w:World)(_hs:s.size≤1000000)(_hk:k<s.size) :
 Calls Tryz.prog 138 #[.string s,.int .i64 (k:Int)] w (og (lK (aL s (k+1))) k w):=by
 have aT:=ae (aN.zero w);have bz:=ae (show Below w.heap.size w (w.alloc (.cells kE 113))from(ak _ _).alloc (aj _) _);go_enter Tryz.func138,Tryz.ntmps138;go_wp2_with fail
 go_loopw [6,7] (fun v i wr=>∃(p:Nat)(xs:List Int),i = .int .i64 (p:Int)∧k+1≤p∧p≤s.size∧xs.length≤p∧Hid (nZ s k p xs)∧Hid (qz wr (w.heap.size+1) v xs)∧Hid (aN wr w.heap.size ah.zero)∧Hid (Below w.heap.size w wr))
  (fun _ i _=>s.size - (intOf i).toNat)
 case atStart =>
  refine⟨k+1,[],by go_num,by omega,by omega,by simp,ae ?_,ae (Own.nil _ _ _ _),aT,bz⟩;unfold nZ;cases eU (aL s (k+1))with
  | none=>rfl
  | some q=>simp
 case round =>
  clear aT bz;obtain⟨p,xs,rfl,hkp,hps,hxl,HQ,HO,HT,HB⟩:=hrel;by_cases hlt:p<s.size
  · have lH:(p:Int)<(s.size:Int):=by omega
    obtain⟨a,ha⟩:∃a:Int,(s[p].toNat:Int)=a:=⟨_,rfl⟩;have ha1:0≤a∧a≤255:=by have:=s[p].toNat_lt;omega
    by_cases yw:a<32
    · have HN:=ae (Vb HQ.o hlt (by rw[ha];exact yw))
      obtain⟨x0,x1,x2,x3,x4,x5,x6,x7,av⟩:=HT.o.cells;obtain⟨g0,g1,g2,g3,g4,g5,g6,g7,g8⟩:=HT.o.bR;go_wp2_with fail
      exact bodyPost_ret (kC (HT.o.iJ ah.zero) _ _ 0 4 5 IU rfl rfl) rfl ⟨om HB.o (aj _) _ _ _ _ _ _ _ _ _,.inr ⟨HN.o,ah.zero,rfl⟩⟩
    · by_cases h34:a=34
      · have AY:(a == 34)=true:=bB.2 h34
        obtain⟨q,hq⟩:∃q:Nat,p+1=q:=⟨_,rfl⟩;have hqi:(p:Int)+1=(q:Int):=by omega
        by_cases Cz:q<s.size
        · have zA:¬ (s.size:Int)≤(q:Int):=by omega
          have Bb:(q:Int)<(s.size:Int):=by omega
          obtain⟨a2,ha2⟩:∃a2:Int,(s[q].toNat:Int)=a2:=⟨_,rfl⟩;have abl:0≤a2∧a2≤255:=by have:=s[q].toNat_lt;omega
          by_cases ym:a2=34
          · have Ls:(a2 == 34)=true:=bB.2 ym
            have mF:=ae (show nZ s k (q+1) (xs++[34])by subst hq;exact Ve HQ.o hkp hlt (by rw[ha,h34]) Cz (by rw[ha2,ym]));clear HQ;go_wp2_with (at_builtin;refine oL Elem.u8 (aJ .u8) rfl (.tmp 51) (.tmp 52) rfl (w.heap.size+1) _ _ rfl (HO.o.alloc _) ⟨_,0,none⟩ 1 1 [34] rfl rfl ?_ ?_ ?_ ?_ ?_;exact gD _ _ _ rfl;omega;(unfold maxLen;omega);(have:=HT.o.lt;simp <;> omega);intro v' oM h1 h2;have qp:=ae h1;have lC:=ae (((ak (w.heap.size+1) _).alloc (by have:=HT.o.lt;omega) _).trans h2);clear h1 h2;have Aq:=ae (HT.o.below lC.o (Nat.lt_succ_self _));have Jy:=ae (HB.o.trans (lC.o.mono (Nat.le_succ _))))
            go_roundw
            case rel=>exact⟨q+1,xs++[34],by go_num,by omega,by omega,by simp;omega,mF,qp,Aq,Jy⟩
            case measure=>simp[intOf];omega
          · have Ls:(a2 == 34)=false:=aA.2 ym
            have HN:=ae (show lK (aL s (k+1))=some ({ ah.zero with kind:=2,text:=strOfNums xs },q - k)by subst hq;exact IE HQ.o hkp hlt (by rw[ha,h34]) (fun h=>by rw[ha2];exact ym));clear HQ;have Lv:=Dj HO.o;obtain⟨x0,x1,x2,x3,x4,x5,x6,x7,av⟩:=HT.o.cells;obtain⟨g0,g1,g2,g3,g4,g5,g6,g7,g8⟩:=HT.o.bR;go_wp2_with fail
            exact bodyPost_ret (kC (HT.o.iJ (({ ah.zero with kind:=2,text:=strOfNums xs }:ah).goto k)) _ _ ((q:Int) - (k:Int)) 4 5 IU rfl rfl) rfl ⟨om HB.o (aj _) _ _ _ _ _ _ _ _ _,.inl ⟨_,q - k,HN.o,by rw[show((q:Int) - (k:Int))=((q - k:Nat):Int)by omega]⟩⟩
        · have zA:(s.size:Int)≤(q:Int):=by omega
          have HN:=ae (show lK (aL s (k+1))=some ({ ah.zero with kind:=2,text:=strOfNums xs },q - k)by subst hq;exact IE HQ.o hkp hlt (by rw[ha,h34]) (fun h=>absurd h Cz));clear HQ;have Lv:=Dj HO.o;obtain⟨x0,x1,x2,x3,x4,x5,x6,x7,av⟩:=HT.o.cells;obtain⟨g0,g1,g2,g3,g4,g5,g6,g7,g8⟩:=HT.o.bR;go_wp2_with fail
          exact bodyPost_ret (kC (HT.o.iJ (({ ah.zero with kind:=2,text:=strOfNums xs }:ah).goto k)) _ _ ((q:Int) - (k:Int)) 4 5 IU rfl rfl) rfl ⟨om HB.o (aj _) _ _ _ _ _ _ _ _ _,.inl ⟨_,q - k,HN.o,by rw[show((q:Int) - (k:Int))=((q - k:Nat):Int)by omega]⟩⟩
      · have AY:(a == 34)=false:=aA.2 h34
        have mF:=ae (Vd HQ.o hkp hlt ha yw h34);clear HQ;go_wp2_with (at_builtin;refine oL Elem.u8 (aJ .u8) rfl (.tmp 25) (.tmp 29) rfl (w.heap.size+1) _ _ rfl (HO.o.alloc _) ⟨_,0,none⟩ 1 1 [a] rfl rfl ?_ ?_ ?_ ?_ ?_;exact gD _ _ _ rfl;omega;(unfold maxLen;omega);(have:=HT.o.lt;simp <;> omega);intro v' oM h1 h2;have qp:=ae h1;have lC:=ae (((ak (w.heap.size+1) _).alloc (by have:=HT.o.lt;omega) _).trans h2);clear h1 h2;have Aq:=ae (HT.o.below lC.o (Nat.lt_succ_self _));have Jy:=ae (HB.o.trans (lC.o.mono (Nat.le_succ _))))
        go_roundw
        case rel=>exact⟨p+1,xs++[a],by go_num,by omega,by omega,by simp;omega,mF,qp,Aq,Jy⟩
        case measure=>simp[intOf];omega
  · have lH:¬ (p:Int)<(s.size:Int):=by omega
    have HN:=ae (Va HQ.o (by omega));obtain⟨x0,x1,x2,x3,x4,x5,x6,x7,av⟩:=HT.o.cells;obtain⟨g0,g1,g2,g3,g4,g5,g6,g7,g8⟩:=HT.o.bR;go_wp2_with fail
    exact bodyPost_ret (kC (HT.o.iJ ah.zero) _ _ 0 4 5 IU rfl rfl) rfl ⟨om HB.o (aj _) _ _ _ _ _ _ _ _ _,.inr ⟨HN.o,ah.zero,rfl⟩⟩
theorem Vt (s:ByteArray)(k m p:Nat)(hp:k+m=p)(dL:k+m≤s.size)(aX:∀x∈(aL s k).take m,isWord x=true)(Bh:∀x,(aL s k)[m]? = some x→isWord x=false) :
 nD (aL s k)=match iA (s.extract k p)with
  | some d=>some ({ ah.zero with kind:=4,sh:=d.sh,c:=d.c,r:=d.r,ac:=d.ac,ar:=d.ar },m)
  | none=>if jL (sb (s.extract k p))=true then some ({ ah.zero with kind:=3,text:=s.extract k p },m)else none:=by
 subst hp;have hsp:=BK isWord (aL s k) m aX Bh;have hlen:((aL s k).take m).length=m:=by rw[gW,oF];omega
 have hc:=Fa s k m;have hb:sb (s.extract k (k+m))=(aL s k).take m:=by rw[hc];exact jN _ (fun x hx=>Nu s k x (List.mem_of_mem_take hx))
 rw[Xk _ _ hsp,hlen, ← hc,hb];rfl
theorem De:Tryz.f139.results=#[.cell 4 113,.tmp 5]:=by kernel_rfl
theorem ajW{a:Int}(hl:isLet a=false)(hn:isNum a=false)(h36:¬ a=36)(h33:¬ a=33):isWord a=false:=by unfold isWord;rw[hl,hn,aV (by omega)];rfl
theorem ajS{a:Int}(hl:isLet a=true):isWord a=true:=by unfold isWord;rw[hl];rfl
theorem ajT{a:Int}(hn:isNum a=true):isWord a=true:=by unfold isWord;rw[hn];simp
theorem Xj{a:Int}(h:a=36∨a=33):isWord a=true:=by unfold isWord;rw[aR h];simp
theorem IJ (s:ByteArray)(k:Nat)(w:World)(_hs:s.size≤1000000)(_hk:k≤s.size) :
 Calls Tryz.prog 139 #[.string s,.int .i64 (k:Int)] w (og (nD (aL s k)) k w):=by
 have aT:=ae (aN.zero w);have bz:=ae (show Below w.heap.size w (w.alloc (.cells kE 113))from(ak _ _).alloc (aj _) _);have hz0:(0:Int)≤(k:Int):=by omega
 go_enter Tryz.func139,Tryz.ntmps139;go_wp2_with fail
 go_loopw [6] (fun i wr=>∃(m:Nat),i = .int .i64 ((k+m:Nat):Int)∧k+m≤s.size∧Hid (∀x∈(aL s k).take m,isWord x=true)∧w.alloc (.cells kE 113)=wr)
  (fun i _=>s.size - (intOf i).toNat)
 case atStart=>exact⟨0,rfl,by omega,ae (by simp),rfl⟩
 case round =>
  obtain⟨m,rfl,dL,HM,rfl⟩:=hrel;obtain⟨p,hp⟩:∃p:Nat,k+m=p:=⟨_,rfl⟩;rw[hp];have hz1:(k:Int)≤(p:Int):=by omega
  have hz2:(p:Int)≤(s.size:Int):=by omega
  by_cases hlt:p<s.size
  · have lH : (p:Int)<(s.size:Int):=by omega
    obtain⟨a,ha⟩:∃a:Int,(s[p].toNat:Int)=a:=⟨_,rfl⟩;have ha1:0≤a∧a≤255:=by have:=s[p].toNat_lt;omega
    have hat:(aL s k)[m]? = some a:=by subst hp;rw[zR s k m hlt,ha]
    have Ea:=ae (Fx hat);have HAT:=ae hat;clear hat;cases hl:isLet a
    · cases hn : isNum a
      · by_cases h36:a=36
        · have Lt:(a == 36)=true:=bB.2 h36
          have eu:=ae (show ∀x∈(aL s k).take (m+1),isWord x=true by rw[Ea.o];exact ru HM.o (Xj (.inl h36)));clear h36
          go_wp2_with (first
           | (go_at_call 89;((with_reducible refine(qb _ ?_ ?_ _).mono ?_);(try omega);(try omega);rintro e w' ⟨rfl,rfl⟩;rw[hl]))
           | (go_at_call 81;((with_reducible refine(jG _ ?_ ?_ _).mono ?_);(try omega);(try omega);rintro e w' ⟨rfl,rfl⟩;rw[hn])))
          go_roundw
          case rel=>exact⟨m+1,by rw[show((p:Int)+1)=((k+(m+1):Nat):Int)by omega],by omega,eu,by trivial⟩
          case measure=>simp[intOf];omega
        · have Lt:(a == 36)=false:=aA.2 h36
          by_cases h33:a=33
          · have abq:(a == 33)=true:=bB.2 h33
            have eu:=ae (show ∀x∈(aL s k).take (m+1),isWord x=true by rw[Ea.o];exact ru HM.o (Xj (.inr h33)));clear h33
            go_wp2_with (first
             | (go_at_call 89;((with_reducible refine(qb _ ?_ ?_ _).mono ?_);(try omega);(try omega);rintro e w' ⟨rfl,rfl⟩;rw[hl]))
             | (go_at_call 81;((with_reducible refine(jG _ ?_ ?_ _).mono ?_);(try omega);(try omega);rintro e w' ⟨rfl,rfl⟩;rw[hn])))
            go_roundw
            case rel=>exact⟨m+1,by rw[show((p:Int)+1)=((k+(m+1):Nat):Int)by omega],by omega,eu,by trivial⟩
            case measure=>simp[intOf];omega
          · have abq:(a == 33)=false:=aA.2 h33
            have Kk:=ae (show ∀x,(aL s k)[m]? = some x→isWord x=false from fun x hx=>by rw[HAT.o]at hx;injection hx with hx;rw[← hx];exact ajW hl hn h36 h33);clear h36 h33 Ea;have hval:=Vt s k m p hp dL HM.o Kk.o;obtain⟨D,hD⟩:∃D,s.extract k p=D:=⟨_,rfl⟩;rw[hD]at hval;have hDz:D.size≤1000000:=by rw[← hD,ByteArray.size_extract];omega
            cases hq:iA D with
            | some d =>
              rw[hq]at hval;have HN:=ae hval;clear hval;have nX:=ae (fun (e:Ending)(he:oh (sb D) e)=>IX hq he);clear hq
              go_upto_region 6 with (first
               | (go_at_call 89;((with_reducible refine(qb _ ?_ ?_ _).mono ?_);(try omega);(try omega);rintro e w' ⟨rfl,rfl⟩;rw[hl]))|(go_at_call 81;((with_reducible refine(jG _ ?_ ?_ _).mono ?_);(try omega);(try omega);rintro e w' ⟨rfl,rfl⟩;rw[hn]))
               | (go_at_call 55;((with_reducible refine(Db D _ ?_).mono ?_);(try omega);rintro e w2 ⟨h1,h2⟩;obtain rfl:=nX.o e h1;clear h1;have H3:=ae h2;clear h2;have HT2:=ae (aT.o.below H3.o aT.o.lt))))
              have kH:=dz.new w2 d.sh d.c d.r d.ac d.ar;have hB3:Below w2.heap.size w2 (w2.alloc (.cells #[.string d.sh,.int .i64 d.c,.int .i64 d.r,.bool d.ac,.bool d.ar] 42)):=(ak _ _).alloc (aj _) _;have HT3:=ae (HT2.o.below hB3 HT2.o.lt);have fK:=ae (bz.o.trans ((Below.of _ _ _ H3.o hB3).mono bz.o.size));clear hB3;generalize w2.alloc (.cells #[.string d.sh,.int .i64 d.c,.int .i64 d.r,.bool d.ac,.bool d.ar] 42)=w3 at kH HT3 fK ⊢;obtain⟨x0,x1,x2,x3,x4,x5,x6,x7,av⟩:=HT3.o.cells;obtain⟨f0,f1,f2,f3,f4,f5,f6,f7,f8⟩:=HT3.o.bR;obtain⟨y0,y1,y2,y3,y4⟩:=kH.facts;clear kH;go_wp2_with fail
              exact bodyPost_ret (kC (HT3.o.iJ (({ ah.zero with kind:=4,sh:=d.sh,c:=d.c,r:=d.r,ac:=d.ac,ar:=d.ar }:ah).goto k)) _ _ ((p:Int) - (k:Int)) 4 5 De rfl rfl) rfl ⟨om fK.o (aj _) _ _ _ _ _ _ _ _ _,.inl ⟨_,m,HN.o,by rw[show((p:Int) - (k:Int))=(m:Int)by omega]⟩⟩
            | none =>
              rw[hq]at hval;have nX:=ae (fun (e:Ending)(he:oh (sb D) e)=>IW hq he);clear hq;cases hnm:jL (sb D)
              all_goals
               rw[hnm]at hval;have HN:=ae hval;clear hval;have xP:=ae hnm;clear hnm
               go_upto_region 7 with (first
                | (go_at_call 89;((with_reducible refine(qb _ ?_ ?_ _).mono ?_);(try omega);(try omega);rintro e w' ⟨rfl,rfl⟩;rw[hl]))|(go_at_call 81;((with_reducible refine(jG _ ?_ ?_ _).mono ?_);(try omega);(try omega);rintro e w' ⟨rfl,rfl⟩;rw[hn]))
                | (go_at_call 55;((with_reducible refine(Db D _ ?_).mono ?_);(try omega);rintro e w2 ⟨h1,h2⟩;obtain rfl:=nX.o e h1;clear h1;have H3:=ae h2;clear h2;have HT2:=ae (aT.o.below H3.o aT.o.lt))))
               have hB3:Below w2.heap.size w2 (w2.alloc (.cells #[.string ⟨#[]⟩,.int .i64 0,.int .i64 0,.bool false,.bool false] 42)):=(ak _ _).alloc (aj _) _;have HT3:=ae (HT2.o.below hB3 HT2.o.lt);have fK:=ae (bz.o.trans ((Below.of _ _ _ H3.o hB3).mono bz.o.size));clear hB3;generalize w2.alloc (.cells #[.string ⟨#[]⟩,.int .i64 0,.int .i64 0,.bool false,.bool false] 42)=w3 at HT3 fK ⊢;obtain⟨x0,x1,x2,x3,x4,x5,x6,x7,av⟩:=HT3.o.cells;obtain⟨f0,f1,f2,f3,f4,f5,f6,f7,f8⟩:=HT3.o.bR;go_wp2_with (go_at_call 56;((with_reducible refine(Ni D _ ?_).mono ?_);(try omega);rintro e w4 ⟨rfl,rfl⟩;rw[xP.o]))
              · exact bodyPost_ret (kC (HT3.o.iJ ah.zero) _ _ 0 4 5 De rfl rfl) rfl ⟨om fK.o (aj _) _ _ _ _ _ _ _ _ _,.inr ⟨HN.o,ah.zero,rfl⟩⟩
              · exact bodyPost_ret (kC (HT3.o.iJ (({ ah.zero with kind:=3,text:=D }:ah).goto k)) _ _ ((p:Int) - (k:Int)) 4 5 De rfl rfl) rfl ⟨om fK.o (aj _) _ _ _ _ _ _ _ _ _,.inl ⟨_,m,HN.o,by rw[show((p:Int) - (k:Int))=(m:Int)by omega]⟩⟩
      · skip
        have eu:=ae (show ∀x∈(aL s k).take (m+1),isWord x=true by rw[Ea.o];exact ru HM.o (ajT hn))
        skip
        go_wp2_with (first
         | (go_at_call 89;((with_reducible refine(qb _ ?_ ?_ _).mono ?_);(try omega);(try omega);rintro e w' ⟨rfl,rfl⟩;rw[hl]))
         | (go_at_call 81;((with_reducible refine(jG _ ?_ ?_ _).mono ?_);(try omega);(try omega);rintro e w' ⟨rfl,rfl⟩;rw[hn])))
        go_roundw
        case rel=>exact⟨m+1,by rw[show((p:Int)+1)=((k+(m+1):Nat):Int)by omega],by omega,eu,by trivial⟩
        case measure=>simp[intOf];omega
    · skip
      have eu:=ae (show ∀x∈(aL s k).take (m+1),isWord x=true by rw[Ea.o];exact ru HM.o (ajS hl))
      skip
      go_wp2_with (first
       | (go_at_call 89;((with_reducible refine(qb _ ?_ ?_ _).mono ?_);(try omega);(try omega);rintro e w' ⟨rfl,rfl⟩;rw[hl])))
      go_roundw
      case rel=>exact⟨m+1,by rw[show((p:Int)+1)=((k+(m+1):Nat):Int)by omega],by omega,eu,by trivial⟩
      case measure=>simp[intOf];omega
  · have lH:¬ (p:Int)<(s.size:Int):=by omega
    have Kk:=ae (show ∀x,(aL s k)[m]? = some x→isWord x=false from fun x hx=>by have h1:=(eQ.1 hx).1;rw[oF]at h1;omega);have hval:=Vt s k m p hp dL HM.o Kk.o;obtain⟨D,hD⟩:∃D,s.extract k p=D:=⟨_,rfl⟩;rw[hD]at hval;have hDz:D.size≤1000000:=by rw[← hD,ByteArray.size_extract];omega
    cases hq:iA D with
    | some d =>
      rw[hq]at hval;have HN:=ae hval;clear hval;have nX:=ae (fun (e:Ending)(he:oh (sb D) e)=>IX hq he);clear hq
      go_upto_region 6 with (first
       | (go_at_call 55;((with_reducible refine(Db D _ ?_).mono ?_);(try omega);rintro e w2 ⟨h1,h2⟩;obtain rfl:=nX.o e h1;clear h1;have H3:=ae h2;clear h2;have HT2:=ae (aT.o.below H3.o aT.o.lt))))
      have kH:=dz.new w2 d.sh d.c d.r d.ac d.ar;have hB3:Below w2.heap.size w2 (w2.alloc (.cells #[.string d.sh,.int .i64 d.c,.int .i64 d.r,.bool d.ac,.bool d.ar] 42)):=(ak _ _).alloc (aj _) _;have HT3:=ae (HT2.o.below hB3 HT2.o.lt);have fK:=ae (bz.o.trans ((Below.of _ _ _ H3.o hB3).mono bz.o.size));clear hB3;generalize w2.alloc (.cells #[.string d.sh,.int .i64 d.c,.int .i64 d.r,.bool d.ac,.bool d.ar] 42)=w3 at kH HT3 fK ⊢;obtain⟨x0,x1,x2,x3,x4,x5,x6,x7,av⟩:=HT3.o.cells;obtain⟨f0,f1,f2,f3,f4,f5,f6,f7,f8⟩:=HT3.o.bR;obtain⟨y0,y1,y2,y3,y4⟩:=kH.facts;clear kH;go_wp2_with fail
      exact bodyPost_ret (kC (HT3.o.iJ (({ ah.zero with kind:=4,sh:=d.sh,c:=d.c,r:=d.r,ac:=d.ac,ar:=d.ar }:ah).goto k)) _ _ ((p:Int) - (k:Int)) 4 5 De rfl rfl) rfl ⟨om fK.o (aj _) _ _ _ _ _ _ _ _ _,.inl ⟨_,m,HN.o,by rw[show((p:Int) - (k:Int))=(m:Int)by omega]⟩⟩
    | none =>
      rw[hq]at hval;have nX:=ae (fun (e:Ending)(he:oh (sb D) e)=>IW hq he);clear hq;cases hnm:jL (sb D)
      all_goals
       rw[hnm]at hval;have HN:=ae hval;clear hval;have xP:=ae hnm;clear hnm
       go_upto_region 7 with (first
        | (go_at_call 55;((with_reducible refine(Db D _ ?_).mono ?_);(try omega);rintro e w2 ⟨h1,h2⟩;obtain rfl:=nX.o e h1;clear h1;have H3:=ae h2;clear h2;have HT2:=ae (aT.o.below H3.o aT.o.lt))))
       have hB3:Below w2.heap.size w2 (w2.alloc (.cells #[.string ⟨#[]⟩,.int .i64 0,.int .i64 0,.bool false,.bool false] 42)):=(ak _ _).alloc (aj _) _;have HT3:=ae (HT2.o.below hB3 HT2.o.lt);have fK:=ae (bz.o.trans ((Below.of _ _ _ H3.o hB3).mono bz.o.size));clear hB3;generalize w2.alloc (.cells #[.string ⟨#[]⟩,.int .i64 0,.int .i64 0,.bool false,.bool false] 42)=w3 at HT3 fK ⊢;obtain⟨x0,x1,x2,x3,x4,x5,x6,x7,av⟩:=HT3.o.cells;obtain⟨f0,f1,f2,f3,f4,f5,f6,f7,f8⟩:=HT3.o.bR;go_wp2_with (go_at_call 56;((with_reducible refine(Ni D _ ?_).mono ?_);(try omega);rintro e w4 ⟨rfl,rfl⟩;rw[xP.o]))
      · exact bodyPost_ret (kC (HT3.o.iJ ah.zero) _ _ 0 4 5 De rfl rfl) rfl ⟨om fK.o (aj _) _ _ _ _ _ _ _ _ _,.inr ⟨HN.o,ah.zero,rfl⟩⟩
      · exact bodyPost_ret (kC (HT3.o.iJ (({ ah.zero with kind:=3,text:=D }:ah).goto k)) _ _ ((p:Int) - (k:Int)) 4 5 De rfl rfl) rfl ⟨om fK.o (aj _) _ _ _ _ _ _ _ _ _,.inl ⟨_,m,HN.o,by rw[show((p:Int) - (k:Int))=(m:Int)by omega]⟩⟩
def o8(s:ByteArray)(k:Nat):ByteArray:=strOfNums ((aL s k).take (lM (aL s k)))
theorem GD(s E:ByteArray)(k m:Nat)(h:(aL s k).take m=sb E):s.extract k (k+m)=E:=by rw[Fa,h,nA]
theorem VA (s:ByteArray)(k:Nat)(h:k+1<s.size):(aL s k).take 2=[((s[k].toNat:Nat):Int),((s[k+1].toNat:Nat):Int)]:=by
 rw[nO s k (by omega),nO s (k+1) h];rfl
abbrev BO(x y:Int):Prop:=(x=60∧(y=62∨y=61))∨(x=62∧y=61)
abbrev BA(x:Int):Prop:=x=43∨x=45∨x=42∨x=47∨x=38∨x=61∨x=60∨x=62∨x=40∨x=41∨x=44∨x=58
theorem Vz(s:ByteArray)(k:Nat)(h:k+1<s.size):(aL s (k+1)).head? = some ((s[k+1].toNat:Nat):Int):=by rw[nO s (k+1) h];rfl
theorem aiF {s:ByteArray}{k:Nat}{x y:Int}(h:k+1<s.size)(hx:((s[k].toNat:Nat):Int)=x)(hy:((s[k+1].toNat:Nat):Int)=y)(h2:BO x y):o8 s k=s.extract k (k+2):=by
 unfold o8
 have hn:lM (aL s k)=2:=by
  rw[nO s k (by omega),tJ,Vz s k h,hx,hy,ag];rcases h2 with ⟨h1,h2|h2⟩|⟨h1,h2⟩
  · exact .inl ⟨h1,.inl (by rw[h2])⟩
  · exact .inl ⟨h1,.inr (by rw[h2])⟩
  · exact .inr ⟨h1,by rw[h2]⟩
 rw[hn, ← Fa]
theorem Wi {s:ByteArray}{k:Nat}{x:Int}(hk:k<s.size)(hx:((s[k].toNat:Nat):Int)=x)(h2:∀h:k+1<s.size,¬ BO x ((s[k+1].toNat:Nat):Int)) :
 lM (aL s k)=if BA x then 1 else 0:=by
 rw[nO s k hk,tJ,hx,af];intro h;by_cases h1:k+1<s.size
 · rw[Vz s k h1]at h
   simp only[aZ]at h;exact h2 h1 h
 · rw[Fb s (k+1) (by omega)]at h;simp at h
theorem sign_one {s:ByteArray}{k:Nat}{x:Int}(hk:k<s.size)(hx:((s[k].toNat:Nat):Int)=x)(h2:∀h:k+1<s.size,¬ BO x ((s[k+1].toNat:Nat):Int))(h1:BA x):o8 s k=s.extract k (k+1):=by
 unfold o8;rw[Wi hk hx h2,ag h1, ← Fa]
theorem sign_zero {s:ByteArray}{k:Nat}{x:Int}(hk:k<s.size)(hx:((s[k].toNat:Nat):Int)=x)(h2:∀h:k+1<s.size,¬ BO x ((s[k+1].toNat:Nat):Int))(h1:¬ BA x):o8 s k=⟨#[]⟩:=by
 unfold o8;rw[Wi hk hx h2,af h1,List.take_zero];rfl
theorem Fe{a b:ByteArray}(h:a=b):Ending.returned (.string a) = .returned (.string b):=by rw[h]
theorem agX (s:ByteArray)(k:Nat)(w:World)(_hs:s.size≤1000000)(_hk:k<s.size)(hl:s.size≤k+1) :
 Calls Tryz.prog 140 #[.string s,.int .i64 (k:Int)] w fun e w'=>e = .returned (.string (o8 s k))∧w=w':=by
 obtain⟨x,hx⟩:∃x:Int,(s[k].toNat:Int)=x:=⟨_,rfl⟩;have hx1:0≤x∧x≤255:=by have:=s[k].toNat_lt;omega
 have H1:=ae (fun h1=>sign_one _hk hx (fun h=>by omega) h1);have H0:=ae (fun h1=>sign_zero _hk hx (fun h=>by omega) h1);have hi1:¬ (k:Int)+1<(s.size:Int):=by omega
 have hi2:(k:Int)<(s.size:Int):=by omega
 have hi3:(k:Int)+1≤(s.size:Int):=by omega
 go_enter Tryz.func140,Tryz.ntmps140;go_wp2_with fail
 all_goals go_ret
 all_goals first
  | exact⟨Fe (H1.o (by simp only[bB,aA,ne_eq]at *;unfold BA;omega)).symm,rfl⟩
  | exact⟨Fe (H0.o (by simp only[aA,ne_eq]at *;unfold BA;omega)).symm,rfl⟩
theorem agY (s:ByteArray)(k:Nat)(w:World)(_hs:s.size≤1000000)(_hk:k<s.size)(hl:k+1<s.size)(h2:∀h:k+1<s.size,¬ BO ((s[k].toNat:Nat):Int) ((s[k+1].toNat:Nat):Int)) :
 Calls Tryz.prog 140 #[.string s,.int .i64 (k:Int)] w fun e w'=>e = .returned (.string (o8 s k))∧w=w':=by
 obtain⟨x,hx⟩:∃x:Int,(s[k].toNat:Int)=x:=⟨_,rfl⟩;have hx1:0≤x∧x≤255:=by have:=s[k].toNat_lt;omega
 have h2':∀h:k+1<s.size,¬ BO x ((s[k+1].toNat:Nat):Int):=by rw[← hx];exact h2
 have H1:=ae (fun h1=>sign_one _hk hx h2' h1);have H0:=ae (fun h1=>sign_zero _hk hx h2' h1);have hE:=VA s k hl
 have n1:¬ (s.extract k (k+2)).toList=[60,62]:=fun h=>by
  have e:s.extract k (k+2)=⟨#[60,62]⟩:=by rw[qH]at h;exact congrArg ByteArray.mk (Array.toList_inj.1 h)
  have e2:=Cx s k 2;rw[e]at e2;rw[show(sb s).drop k=aL s k from rfl,hE]at e2;exact h2 hl (.inl ⟨by simpa [sb]using (congrArg (·.head?) e2).symm,.inl (by simpa [sb]using (congrArg (·.tail.head?) e2).symm)⟩)
 have n2:¬ (s.extract k (k+2)).toList=[60,61]:=fun h=>by
  have e:s.extract k (k+2)=⟨#[60,61]⟩:=by rw[qH]at h;exact congrArg ByteArray.mk (Array.toList_inj.1 h)
  have e2:=Cx s k 2;rw[e]at e2;rw[show(sb s).drop k=aL s k from rfl,hE]at e2;exact h2 hl (.inl ⟨by simpa [sb]using (congrArg (·.head?) e2).symm,.inr (by simpa [sb]using (congrArg (·.tail.head?) e2).symm)⟩)
 have n3:¬ (s.extract k (k+2)).toList=[62,61]:=fun h=>by
  have e:s.extract k (k+2)=⟨#[62,61]⟩:=by rw[qH]at h;exact congrArg ByteArray.mk (Array.toList_inj.1 h)
  have e2:=Cx s k 2;rw[e]at e2;rw[show(sb s).drop k=aL s k from rfl,hE]at e2;exact h2 hl (.inr ⟨by simpa [sb]using (congrArg (·.head?) e2).symm,by simpa [sb]using (congrArg (·.tail.head?) e2).symm⟩)
 have hi1:(k:Int)+1<(s.size:Int):=by omega
 have hi2:(k:Int)<(s.size:Int):=by omega
 have hi3:(k:Int)+1≤(s.size:Int):=by omega
 have hi4:(k:Int)+2≤(s.size:Int):=by omega
 have b1:=aA.2 n1;have b2:=aA.2 n2;have b3:=aA.2 n3;clear hE h2 h2' n1 n2 n3;go_enter Tryz.func140,Tryz.ntmps140;go_wp2_with fail
 all_goals go_ret
 all_goals first
  | exact⟨Fe (H1.o (by simp only[bB,aA,ne_eq]at *;unfold BA;omega)).symm,rfl⟩
  | exact⟨Fe (H0.o (by simp only[aA,ne_eq]at *;unfold BA;omega)).symm,rfl⟩
theorem agW (s E:ByteArray)(k:Nat)(w:World)(_hs:s.size≤1000000)(hl:k+1<s.size)(hE:s.extract k (k+2)=E)(hq:o8 s k=E)(h:E=⟨#[60,62]⟩∨E=⟨#[60,61]⟩∨E=⟨#[62,61]⟩) :
 Calls Tryz.prog 140 #[.string s,.int .i64 (k:Int)] w fun e w'=>e = .returned (.string (o8 s k))∧w=w':=by
 have HQ:=ae hq;have hi1:(k:Int)+1<(s.size:Int):=by omega
 have hi2:(k:Int)<(s.size:Int):=by omega
 have hi4:(k:Int)+2≤(s.size:Int):=by omega
 clear hq;rcases h with rfl|rfl|rfl
 all_goals
  go_enter Tryz.func140,Tryz.ntmps140;go_wp2_with fail
  go_ret;exact⟨Fe (by rw[hE];exact HQ.o.symm),rfl⟩
theorem agV (s:ByteArray)(k:Nat)(w:World)(_hs:s.size≤1000000)(_hk:k<s.size) :
 Calls Tryz.prog 140 #[.string s,.int .i64 (k:Int)] w fun e w'=>e = .returned (.string (o8 s k))∧w=w':=by
 by_cases hl:k+1<s.size
 · by_cases h2:BO ((s[k].toNat:Nat):Int) ((s[k+1].toNat:Nat):Int)
   · have hq:=aiF hl rfl rfl h2
     refine agW s _ k w _hs hl rfl hq ?_;have hE:=VA s k hl;rcases h2 with ⟨h1,h2|h2⟩|⟨h1,h2⟩
     · exact .inl (GD s ⟨#[60,62]⟩ k 2 (by rw[hE,h1,h2];decide))
     · exact .inr (.inl (GD s ⟨#[60,61]⟩ k 2 (by rw[hE,h1,h2];decide)))
     · exact .inr (.inr (GD s ⟨#[62,61]⟩ k 2 (by rw[hE,h1,h2];decide)))
   · exact agY s k w _hs _hk hl (fun _=>h2)
 · exact agX s k w _hs _hk (by omega)
theorem og.no {k:Nat}{w w':World}{e:Ending}(h:og none k w e w'):Below w.heap.size w w'∧∃t:ah,e = .returned (.tuple #[.agg #[.int .i64 t.kind,.string t.text,.int .i64 t.num,.string t.sh,.int .i64 t.c,.int .i64 t.r,.bool t.ac,.bool t.ar,.int .i64 t.pos],.int .i64 0]):=by
 rcases h with ⟨h1,⟨t,n,h2,_⟩|⟨_,h2⟩⟩
 · cases h2
 · exact⟨h1,h2⟩
theorem og.yes {k n:Nat}{t:ah}{w w':World}{e:Ending}(h:og (some (t,n)) k w e w'):Below w.heap.size w w'∧e = .returned (.tuple #[.agg #[.int .i64 t.kind,.string t.text,.int .i64 t.num,.string t.sh,.int .i64 t.c,.int .i64 t.r,.bool t.ac,.bool t.ar,.int .i64 (k:Int)],.int .i64 (n:Int)]):=by
 rcases h with ⟨h1,⟨t',n',h2,h3⟩|⟨h2,_⟩⟩
 · injection h2 with h2;injection h2 with h2 h5;subst h2;subst h5;exact⟨h1,h3⟩
 · cases h2
theorem tH:Tryz.f111.results=#[.cell 4 113,.tmp 5]:=by kernel_rfl
theorem aiD (s:ByteArray)(k:Nat):o9 (aL s k)=if (o8 s k).size=0 then none else some ({ ah.zero with kind:=5,text:=o8 s k },(o8 s k).size):=by
 have h:(o8 s k).size=lM (aL s k):=by
  unfold o8;rw[strOfNums_size,gW];have:=Wh (aL s k);omega
 unfold o9;rw[h];rfl
theorem aan (s:ByteArray)(k:Nat):qC (aL s k)=if k+5≤s.size∧s.extract k (k+5)=⟨#[35,82,69,70,33]⟩then some ({ ah.zero with kind:=6 },5)else none:=by
 unfold qC;by_cases h:(aL s k).take 5=[35,82,69,70,33]
 · have hlen:k+5≤s.size:=by
    have:=congrArg List.length h;rw[gW,oF]at this;simp at this;omega
   rw[ag h,ag ⟨hlen,GD s _ k 5 (by rw[h];decide)⟩]
 · rw[af h,af]
   rintro⟨_,h2⟩;apply h;have:=Cx s k 5;rw[h2]at this;exact this.symm
theorem agZ (s:ByteArray)(k:Nat)(w:World)(_hs:s.size≤1000000)(_hk:k<s.size) :
 Calls Tryz.prog 111 #[.string s,.int .i64 (k:Int)] w (og (fJ (aL s k)) k w):=by
 have aT:=ae (aN.zero w);have bz:=ae (show Below w.heap.size w (w.alloc (.cells kE 113))from(ak _ _).alloc (aj _) _);have hz0:(0:Int)≤(k:Int):=by omega
 have hz1:(k:Int)<(s.size:Int):=by omega
 obtain⟨a,ha⟩:∃a:Int,(s[k].toNat:Int)=a:=⟨_,rfl⟩;have ha1:0≤a∧a≤255:=by have:=s[k].toNat_lt;omega
 have hcs:=nO s k _hk;rw[ha]at hcs;have htk:=rX a (aL s (k+1));rw[← hcs]at htk;clear hcs;cases hn:isNum a
 · rw [hn, af (by simp)]at htk
   by_cases h34:a=34
   · rw [ag h34]at htk
     have AY:(a == 34)=true:=bB.2 h34;cases hq:lK (aL s (k+1))with
     | none =>
       rw[hq]at htk;have jR:=ae htk;clear htk;have hc:=Vl s k (w.alloc (.cells kE 113)) _hs _hk;rw[hq]at hc;have HC:=ae hc;clear hc hq h34;go_enter Tryz.func111,Tryz.ntmps111
       go_wp2_with (first
        | (go_at_call 81;((with_reducible refine(jG _ ?_ ?_ _).mono ?_);(try omega);(try omega);rintro e w' ⟨rfl,rfl⟩;rw[hn]))
        | (go_at_call 138;((with_reducible refine HC.o.mono ?_);intro e w1 he;obtain⟨h1,t,rfl⟩:=og.no he;have HB1:=ae (bz.o.trans (h1.mono bz.o.size));have HT1:=ae (aT.o.below h1 aT.o.lt);clear h1 he;obtain⟨x0,x1,x2,x3,x4,x5,x6,x7,av⟩:=HT1.o.cells;obtain⟨f0,f1,f2,f3,f4,f5,f6,f7,f8⟩:=HT1.o.bR)))
       exact bodyPost_ret (kC (HT1.o.iJ t) _ _ 0 4 5 tH rfl rfl) rfl ⟨om HB1.o (aj _) _ _ _ _ _ _ _ _ _,.inr ⟨jR.o,t,rfl⟩⟩
     | some q =>
       obtain⟨t,n⟩:=q;rw[hq]at htk;have jR:=ae htk;clear htk;have hc:=Vl s k (w.alloc (.cells kE 113)) _hs _hk;rw[hq]at hc;have HC:=ae hc;clear hc hq h34;go_enter Tryz.func111,Tryz.ntmps111
       go_wp2_with (first
        | (go_at_call 81;((with_reducible refine(jG _ ?_ ?_ _).mono ?_);(try omega);(try omega);rintro e w' ⟨rfl,rfl⟩;rw[hn]))
        | (go_at_call 138;((with_reducible refine HC.o.mono ?_);intro e w1 he;obtain⟨h1,rfl⟩:=og.yes he;have HB1:=ae (bz.o.trans (h1.mono bz.o.size));have HT1:=ae (aT.o.below h1 aT.o.lt);clear h1 he;obtain⟨x0,x1,x2,x3,x4,x5,x6,x7,av⟩:=HT1.o.cells;obtain⟨f0,f1,f2,f3,f4,f5,f6,f7,f8⟩:=HT1.o.bR)))
       exact bodyPost_ret (kC (HT1.o.iJ (t.goto k)) _ _ (n:Int) 4 5 tH rfl rfl) rfl ⟨om HB1.o (aj _) _ _ _ _ _ _ _ _ _,.inl ⟨t,n,jR.o,rfl⟩⟩
   · rw [af h34]at htk
     have AY:(a == 34)=false:=aA.2 h34;by_cases h35:a=35
     · rw [ag h35,aan]at htk
       have abr:(a == 35)=true:=bB.2 h35;by_cases h5:k+5≤s.size
       · have hi5:(k:Int)+5≤(s.size:Int):=by omega
         by_cases hE:s.extract k (k+5)=⟨#[35,82,69,70,33]⟩
         · rw [ag ⟨h5,hE⟩]at htk
           have jR:=ae htk;clear htk h34 h35;go_enter Tryz.func111,Tryz.ntmps111
           go_wp2_with (first
            | (go_at_call 81;((with_reducible refine(jG _ ?_ ?_ _).mono ?_);(try omega);(try omega);rintro e w' ⟨rfl,rfl⟩;rw[hn])))
           exact bodyPost_ret (kC (aN.new w (({ ah.zero with kind:=6 }:ah).goto k)) _ _ 5 4 5 tH rfl rfl) rfl ⟨(ak _ _).alloc (aj _) _,.inl ⟨_,5,jR.o,rfl⟩⟩
         · rw [af (fun h=>hE h.2)]at htk
           have jR:=ae htk;have hEb:((s.extract k (k+5)).toList == [35,82,69,70,33])=false:=aA.2 (fun h=>hE (by rw[qH]at h;exact congrArg ByteArray.mk (Array.toList_inj.1 h)));clear htk h34 h35 hE;go_enter Tryz.func111,Tryz.ntmps111
           go_wp2_with (first
            | (go_at_call 81;((with_reducible refine(jG _ ?_ ?_ _).mono ?_);(try omega);(try omega);rintro e w' ⟨rfl,rfl⟩;rw[hn])))
           exact bodyPost_ret (kC (aN.zero w) _ _ 0 4 5 tH rfl rfl) rfl ⟨(ak _ _).alloc (aj _) _,.inr ⟨jR.o,_,rfl⟩⟩
       · have hi5:¬ (k:Int)+5≤(s.size:Int):=by omega
         rw[af (fun h=>h5 h.1)]at htk;have jR:=ae htk;clear htk h34 h35;go_enter Tryz.func111,Tryz.ntmps111
         go_wp2_with (first
          | (go_at_call 81;((with_reducible refine(jG _ ?_ ?_ _).mono ?_);(try omega);(try omega);rintro e w' ⟨rfl,rfl⟩;rw[hn])))
         exact bodyPost_ret (kC (aN.zero w) _ _ 0 4 5 tH rfl rfl) rfl ⟨(ak _ _).alloc (aj _) _,.inr ⟨jR.o,_,rfl⟩⟩
     · rw [af h35]at htk
       have abr:(a == 35)=false:=aA.2 h35;cases hl:isLet a
       · by_cases h36:a=36
         · rw [ag (.inr h36)]at htk
           have Lt:(a == 36)=true:=bB.2 h36;cases hq:nD (aL s k)with
           | none =>
             rw[hq]at htk;have jR:=ae htk;clear htk;have hc:=IJ s k (w.alloc (.cells kE 113)) _hs (Nat.le_of_lt _hk);rw[hq]at hc;have HC:=ae hc;clear hc hq h34 h35 h36;go_enter Tryz.func111,Tryz.ntmps111
             go_wp2_with (first
              | (go_at_call 81;((with_reducible refine(jG _ ?_ ?_ _).mono ?_);(try omega);(try omega);rintro e w' ⟨rfl,rfl⟩;rw[hn]))|(go_at_call 89;((with_reducible refine(qb _ ?_ ?_ _).mono ?_);(try omega);(try omega);rintro e w' ⟨rfl,rfl⟩;rw[hl]))
              | (go_at_call 139;((with_reducible refine HC.o.mono ?_);intro e w1 he;obtain⟨h1,t,rfl⟩:=og.no he;have HB1:=ae (bz.o.trans (h1.mono bz.o.size));have HT1:=ae (aT.o.below h1 aT.o.lt);clear h1 he;obtain⟨x0,x1,x2,x3,x4,x5,x6,x7,av⟩:=HT1.o.cells;obtain⟨f0,f1,f2,f3,f4,f5,f6,f7,f8⟩:=HT1.o.bR)))
             exact bodyPost_ret (kC (HT1.o.iJ t) _ _ 0 4 5 tH rfl rfl) rfl ⟨om HB1.o (aj _) _ _ _ _ _ _ _ _ _,.inr ⟨jR.o,t,rfl⟩⟩
           | some q =>
             obtain⟨t,n⟩:=q;rw[hq]at htk;have jR:=ae htk;clear htk;have hc:=IJ s k (w.alloc (.cells kE 113)) _hs (Nat.le_of_lt _hk);rw[hq]at hc;have HC:=ae hc;clear hc hq h34 h35 h36;go_enter Tryz.func111,Tryz.ntmps111
             go_wp2_with (first
              | (go_at_call 81;((with_reducible refine(jG _ ?_ ?_ _).mono ?_);(try omega);(try omega);rintro e w' ⟨rfl,rfl⟩;rw[hn]))|(go_at_call 89;((with_reducible refine(qb _ ?_ ?_ _).mono ?_);(try omega);(try omega);rintro e w' ⟨rfl,rfl⟩;rw[hl]))
              | (go_at_call 139;((with_reducible refine HC.o.mono ?_);intro e w1 he;obtain⟨h1,rfl⟩:=og.yes he;have HB1:=ae (bz.o.trans (h1.mono bz.o.size));have HT1:=ae (aT.o.below h1 aT.o.lt);clear h1 he;obtain⟨x0,x1,x2,x3,x4,x5,x6,x7,av⟩:=HT1.o.cells;obtain⟨f0,f1,f2,f3,f4,f5,f6,f7,f8⟩:=HT1.o.bR)))
             exact bodyPost_ret (kC (HT1.o.iJ (t.goto k)) _ _ (n:Int) 4 5 tH rfl rfl) rfl ⟨om HB1.o (aj _) _ _ _ _ _ _ _ _ _,.inl ⟨t,n,jR.o,rfl⟩⟩
         · rw [af (by rw[hl];simp;exact h36),aiD]at htk
           have Lt:(a == 36)=false:=aA.2 h36;have HC:=ae (agV s k (w.alloc (.cells kE 113)) _hs _hk);obtain⟨E,hE⟩:∃E,o8 s k=E:=⟨_,rfl⟩;rw[hE]at HC htk;clear h34 h35 h36 hE;by_cases h0:E.size=0
           · rw [ag h0]at htk
             have jR:=ae htk;clear htk;have hei:(E.size:Int)=0:=by omega
             go_enter Tryz.func111,Tryz.ntmps111
             go_wp2_with (first
              | (go_at_call 81;((with_reducible refine(jG _ ?_ ?_ _).mono ?_);(try omega);(try omega);rintro e w' ⟨rfl,rfl⟩;rw[hn]))
              | (go_at_call 89;((with_reducible refine(qb _ ?_ ?_ _).mono ?_);(try omega);(try omega);rintro e w' ⟨rfl,rfl⟩;rw[hl]))
              | (go_at_call 140;((with_reducible refine HC.o.mono ?_);rintro e w' ⟨rfl,rfl⟩)))
             exact bodyPost_ret (kC (aN.new w (({ ah.zero with kind:=5,text:=E }:ah).goto k)) _ _ 0 4 5 tH rfl rfl) rfl ⟨(ak _ _).alloc (aj _) _,.inr ⟨jR.o,(({ ah.zero with kind:=5,text:=E }:ah).goto k),rfl⟩⟩
           · rw [af h0]at htk
             have jR:=ae htk;clear htk;go_enter Tryz.func111,Tryz.ntmps111
             go_wp2_with (first
              | (go_at_call 81;((with_reducible refine(jG _ ?_ ?_ _).mono ?_);(try omega);(try omega);rintro e w' ⟨rfl,rfl⟩;rw[hn]))
              | (go_at_call 89;((with_reducible refine(qb _ ?_ ?_ _).mono ?_);(try omega);(try omega);rintro e w' ⟨rfl,rfl⟩;rw[hl]))
              | (go_at_call 140;((with_reducible refine HC.o.mono ?_);rintro e w' ⟨rfl,rfl⟩)))
             exact bodyPost_ret (kC (aN.new w (({ ah.zero with kind:=5,text:=E }:ah).goto k)) _ _ (E.size:Int) 4 5 tH rfl rfl) rfl ⟨(ak _ _).alloc (aj _) _,.inl ⟨_,E.size,jR.o,rfl⟩⟩
       · rw [ag (.inl hl)]at htk
         cases hq:nD (aL s k)with
         | none =>
           rw[hq]at htk;have jR:=ae htk;clear htk;have hc:=IJ s k (w.alloc (.cells kE 113)) _hs (Nat.le_of_lt _hk);rw[hq]at hc;have HC:=ae hc;clear hc hq h34 h35;go_enter Tryz.func111,Tryz.ntmps111
           go_wp2_with (first
            | (go_at_call 81;((with_reducible refine(jG _ ?_ ?_ _).mono ?_);(try omega);(try omega);rintro e w' ⟨rfl,rfl⟩;rw[hn]))|(go_at_call 89;((with_reducible refine(qb _ ?_ ?_ _).mono ?_);(try omega);(try omega);rintro e w' ⟨rfl,rfl⟩;rw[hl]))
            | (go_at_call 139;((with_reducible refine HC.o.mono ?_);intro e w1 he;obtain⟨h1,t,rfl⟩:=og.no he;have HB1:=ae (bz.o.trans (h1.mono bz.o.size));have HT1:=ae (aT.o.below h1 aT.o.lt);clear h1 he;obtain⟨x0,x1,x2,x3,x4,x5,x6,x7,av⟩:=HT1.o.cells;obtain⟨f0,f1,f2,f3,f4,f5,f6,f7,f8⟩:=HT1.o.bR)))
           exact bodyPost_ret (kC (HT1.o.iJ t) _ _ 0 4 5 tH rfl rfl) rfl ⟨om HB1.o (aj _) _ _ _ _ _ _ _ _ _,.inr ⟨jR.o,t,rfl⟩⟩
         | some q =>
           obtain⟨t,n⟩:=q;rw[hq]at htk;have jR:=ae htk;clear htk;have hc:=IJ s k (w.alloc (.cells kE 113)) _hs (Nat.le_of_lt _hk);rw[hq]at hc;have HC:=ae hc;clear hc hq h34 h35;go_enter Tryz.func111,Tryz.ntmps111
           go_wp2_with (first
            | (go_at_call 81;((with_reducible refine(jG _ ?_ ?_ _).mono ?_);(try omega);(try omega);rintro e w' ⟨rfl,rfl⟩;rw[hn]))|(go_at_call 89;((with_reducible refine(qb _ ?_ ?_ _).mono ?_);(try omega);(try omega);rintro e w' ⟨rfl,rfl⟩;rw[hl]))
            | (go_at_call 139;((with_reducible refine HC.o.mono ?_);intro e w1 he;obtain⟨h1,rfl⟩:=og.yes he;have HB1:=ae (bz.o.trans (h1.mono bz.o.size));have HT1:=ae (aT.o.below h1 aT.o.lt);clear h1 he;obtain⟨x0,x1,x2,x3,x4,x5,x6,x7,av⟩:=HT1.o.cells;obtain⟨f0,f1,f2,f3,f4,f5,f6,f7,f8⟩:=HT1.o.bR)))
           exact bodyPost_ret (kC (HT1.o.iJ (t.goto k)) _ _ (n:Int) 4 5 tH rfl rfl) rfl ⟨om HB1.o (aj _) _ _ _ _ _ _ _ _ _,.inl ⟨t,n,jR.o,rfl⟩⟩
 · rw [hn,ag rfl]at htk
   cases hq:lJ (aL s k)with
   | none =>
     rw[hq]at htk;have jR:=ae htk;clear htk;have hc:=Vi s k (w.alloc (.cells kE 113)) _hs (Nat.le_of_lt _hk);rw[hq]at hc;have HC:=ae hc;clear hc hq;go_enter Tryz.func111,Tryz.ntmps111
     go_wp2_with (first
      | (go_at_call 81;((with_reducible refine(jG _ ?_ ?_ _).mono ?_);(try omega);(try omega);rintro e w' ⟨rfl,rfl⟩;rw[hn]))
      | (go_at_call 137;((with_reducible refine HC.o.mono ?_);intro e w1 he;obtain⟨h1,t,rfl⟩:=og.no he;have HB1:=ae (bz.o.trans (h1.mono bz.o.size));have HT1:=ae (aT.o.below h1 aT.o.lt);clear h1 he;obtain⟨x0,x1,x2,x3,x4,x5,x6,x7,av⟩:=HT1.o.cells;obtain⟨f0,f1,f2,f3,f4,f5,f6,f7,f8⟩:=HT1.o.bR)))
     exact bodyPost_ret (kC (HT1.o.iJ t) _ _ 0 4 5 tH rfl rfl) rfl ⟨om HB1.o (aj _) _ _ _ _ _ _ _ _ _,.inr ⟨jR.o,t,rfl⟩⟩
   | some q =>
     obtain⟨t,n⟩:=q;rw[hq]at htk;have jR:=ae htk;clear htk;have hc:=Vi s k (w.alloc (.cells kE 113)) _hs (Nat.le_of_lt _hk);rw[hq]at hc;have HC:=ae hc;clear hc hq;go_enter Tryz.func111,Tryz.ntmps111
     go_wp2_with (first
      | (go_at_call 81;((with_reducible refine(jG _ ?_ ?_ _).mono ?_);(try omega);(try omega);rintro e w' ⟨rfl,rfl⟩;rw[hn]))
      | (go_at_call 137;((with_reducible refine HC.o.mono ?_);intro e w1 he;obtain⟨h1,rfl⟩:=og.yes he;have HB1:=ae (bz.o.trans (h1.mono bz.o.size));have HT1:=ae (aT.o.below h1 aT.o.lt);clear h1 he;obtain⟨x0,x1,x2,x3,x4,x5,x6,x7,av⟩:=HT1.o.cells;obtain⟨f0,f1,f2,f3,f4,f5,f6,f7,f8⟩:=HT1.o.bR)))
     exact bodyPost_ret (kC (HT1.o.iJ (t.goto k)) _ _ (n:Int) 4 5 tH rfl rfl) rfl ⟨om HB1.o (aj _) _ _ _ _ _ _ _ _ _,.inl ⟨t,n,jR.o,rfl⟩⟩
def mh(w:World)(b:Nat)(v:Value)(e:Int):Prop:=w.heap[b]? = some (.cells #[v,.int .i64 e] 129)
theorem mh.lt{w:World}{b:Nat}{v:Value}{e:Int}(h:mh w b v e):b<w.heap.size:=(dB.1 h).1
theorem mh.below{w w':World}{B b:Nat}{v:Value}{e:Int}(h:mh w b v e)(hb:Below B w w')(hB:b<B):mh w' b v e:=by unfold mh;rw[hb.block b hB];exact h
theorem mh.facts {w:World}{b:Nat}{v:Value}{e:Int}(h:mh w b v e):w.cell? ⟨b,0,none⟩=some v∧w.cell? ⟨b,1,none⟩=some (.int .i64 e) :=
 ⟨by rw[cell_of_row w b 0 _ _ _ h];rfl,by rw[cell_of_row w b 1 _ _ _ h];rfl⟩
theorem mh.bR{w:World}{b:Nat}{v:Value}{e:Int}(h:mh w b v e):w.frozen? ⟨b,0,none⟩=false∧w.frozen? ⟨b,1,none⟩=false:=⟨frozen_of_row w b 0 _ _ h,frozen_of_row w b 1 _ _ h⟩
theorem mh.qK {w:World}{b:Nat}{v0:Value}{e0:Int}(h:mh w b v0 e0)(v:Value)(e:Int):mh ((w.setCell ⟨b,0,none⟩ v).setCell ⟨b,1,none⟩ (.int .i64 e)) b v e:=by
 have h1:(w.setCell ⟨b,0,none⟩ v).heap[b]? = some (.cells #[v,.int .i64 e0] 129):=by rw[heap_setCell_same w b 0 _ _ _ h];rfl
 unfold mh;rw[heap_setCell_same _ b 1 _ _ _ h1];rfl
theorem mh.new(w:World)(v:Value)(e:Int):mh (w.alloc (.cells #[v,.int .i64 e] 129)) w.heap.size v e:=(lu w _).1
theorem adX:(Tryz.prog.info? 129).map (·.size)=some 2:=by kernel_rfl
theorem M3 {w:World}{b:Nat}{v:Value}{e:Int}(h:mh w b v e)(fn:Func)(tmps:Array Value)(p:Tmp)(hf:fn.results=#[.cell p 129])(hp:tmps.getD p undef = .pointer (some ⟨b,0,none⟩)) :
 (results fn tmps).run Tryz.prog w = .ok (.agg #[v,.int .i64 e]) w :=
 results_cell_row hf tmps w b _ _ _ _ hp h Tryz.underlying129 rfl adX
theorem Ns:Tryz.f76.results=#[.cell 2 129]:=by kernel_rfl
def Gi (s:ByteArray)(w:World)(e:Ending)(w':World):Prop :=
 Below w.heap.size w w'∧((300<s.size∧e = .returned (.agg #[.slice none 0 0,.int .i64 4]))∨(s.size≤300∧gT (sb s)=none∧e = .returned (.agg #[.slice none 0 0,.int .i64 5])) ∨
  (s.size≤300∧∃ts v,gT (sb s)=some ts∧e = .returned (.agg #[v,.int .i64 0])∧sO w' w.heap.size v ts))
theorem Own.NG {α : Type}{size:Nat}{E:Enc α size}{e:TypeId}{w:World}{base r:Nat}{v:Value}{xs:List α}(h:Own E e w base v xs)(hr:r<base)(a b:Value):Own E e ((w.setCell ⟨r,0,none⟩ a).setCell ⟨r,1,none⟩ b) base v xs :=
 Own.other h (grownBy.gU (grownBy.gU (grownBy.fT _ _) _ _) _ _) hr
theorem Vg (s:ByteArray)(w:World):Calls Tryz.prog 76 #[.string s] w (Gi s w):=by
 by_cases rC:300<s.size
 · have hi:(300:Int)<(s.size:Int):=by omega
   go_enter Tryz.func76,Tryz.ntmps76;go_wp2_with fail
   exact bodyPost_ret (M3 (mh.new w (.slice none 0 0) 4) _ _ 2 Ns rfl) rfl ⟨(ak _ _).alloc (aj _) _,.inl ⟨rC,rfl⟩⟩
 have hi:¬ (300:Int)<(s.size:Int):=by omega
 have hs0:s.size≤1000000:=by omega
 obtain⟨eb,jW,df⟩:=Elem.tok;have jw:=ae df;clear df;have DV:=ae (mh.new w (.slice none 0 0) 0);have bz:=ae (show Below w.heap.size w (w.alloc (.cells #[.slice none 0 0,.int .i64 0] 129))from(ak _ _).alloc (aj _) _);have DT:=ae (show gT (sb s)=(l6 s 0).map (([]:List ah) ++ ·)by rw[Tx];cases l6 s 0 <;> rfl);go_enter Tryz.func76,Tryz.ntmps76;go_wp2_with fail
 go_loopw [3,4] (fun v i wr=>∃(p:Nat)(acc:List ah),i = .int .i64 (p:Int)∧p≤s.size∧acc.length≤p∧Hid (gT (sb s)=(l6 s p).map (acc ++ ·))∧Hid (sO wr (w.heap.size+1) v acc)∧Hid (mh wr w.heap.size (.slice none 0 0) 0)∧Hid (Below w.heap.size w wr))
  (fun _ i _=>s.size - (intOf i).toNat)
 case atStart=>exact⟨0,[],rfl,by omega,by simp,DT,ae (Own.nil _ _ _ _),DV,bz⟩
 case round =>
  clear DT DV bz;obtain⟨p,acc,rfl,hps,hal,HL,HO,HK,HB⟩:=hrel;by_cases hlt:p<s.size
  · have lH:(p:Int)<(s.size:Int):=by omega
    obtain⟨a,ha⟩:∃a:Int,(s[p].toNat:Int)=a:=⟨_,rfl⟩;by_cases h32:a=32
    · have abp:(a == 32)=true:=bB.2 h32
      have HL2:=ae (show gT (sb s)=(l6 s (p+1)).map (acc ++ ·)by rw[HL.o,TA s p hlt (by rw[ha];exact h32)]);clear h32;go_wp2_with fail
      go_roundw
      case rel=>exact⟨p+1,acc,by go_num,by omega,by omega,HL2,HO,HK,HB⟩
      case measure=>simp[intOf];omega
    · have abp:(a == 32)=false:=aA.2 h32
      have GJ:¬ ((s[p].toNat:Nat):Int)=32:=by rw[ha];exact h32
      have hT:=agZ s p wr hs0 hlt;cases hq:fJ (aL s p)with
      | none =>
        rw[hq]at hT;have HT:=ae hT;clear hT;have HN:=ae (show gT (sb s)=none by rw[HL.o,TC s p hlt GJ hq];rfl);clear hq h32 GJ;go_upto_region 10 with (go_at_call 111;((with_reducible refine HT.o.mono ?_);intro e w1 he;obtain⟨h1,t,rfl⟩:=og.no he;have HB1:=ae (HB.o.trans (h1.mono HB.o.size));have jH:=ae (HK.o.below h1 HK.o.lt);clear h1 he))
        have hB3:Below w1.heap.size w1 (w1.alloc (.cells (tA t (.int .i64 t.pos)) 113)):=(ak _ _).alloc (aj _) _;have HB3:=ae (HB1.o.trans (hB3.mono HB1.o.size));have pE:=ae (jH.o.below hB3 jH.o.lt);clear hB3;generalize w1.alloc (.cells (tA t (.int .i64 t.pos)) 113)=w3 at HB3 pE ⊢;obtain⟨c0,c1⟩:=pE.o.facts;obtain⟨f0,f1⟩:=pE.o.bR;go_wp2_with fail
        exact bodyPost_ret (M3 (pE.o.qK (.slice none 0 0) 5) _ _ 2 Ns rfl) rfl ⟨(HB3.o.setCell (aj _) _).setCell (aj _) _,.inr (.inl ⟨by omega,HN.o,rfl⟩)⟩
      | some q =>
        obtain⟨t0,n0⟩:=q;rw[hq]at hT;obtain⟨t1,ht1⟩:∃t1,t0.goto p=t1:=⟨_,rfl⟩;have HT:=ae hT;clear hT;have hn0:=rY _ _ _ hq;rw[oF]at hn0
        have yY:=ae (show gT (sb s)=(l6 s (p+n0)).map ((acc++[t0.goto p]) ++ ·)by
         rw[HL.o,TD s p hlt GJ t0 n0 hq,Option.map_map];congr 1;funext l;simp)
        have hn1:((n0:Int) == 0)=false:=aA.2 (by omega);clear hq HL h32 GJ ht1;go_upto_region 11 with (go_at_call 111;((with_reducible refine HT.o.mono ?_);intro e w1 he;obtain⟨h1,rfl⟩:=og.yes he;have HB1:=ae (HB.o.trans (h1.mono HB.o.size));have jH:=ae (HK.o.below h1 HK.o.lt);have fZ:=ae (Own.below HO.o h1 (aj _));clear h1 he))
        have hB3:Below w1.heap.size w1 (w1.alloc (.cells (tA t0 (.int .i64 (p:Int))) 113)):=(ak _ _).alloc (aj _) _;have aM:aN (w1.alloc (.cells (tA t0 (.int .i64 (p:Int))) 113)) w1.heap.size (t0.goto p):=aN.new w1 (t0.goto p);have HB3:=ae (HB1.o.trans (hB3.mono HB1.o.size));have pE:=ae (jH.o.below hB3 jH.o.lt);have gm:=ae (Own.below fZ.o hB3 (aj _));clear hB3 HT HB1 jH fZ HB HK HO;generalize w1.alloc (.cells (tA t0 (.int .i64 (p:Int))) 113)=w3 at HB3 pE gm aM ⊢;obtain⟨y0,y1,y2,y3,y4,dH,y6,ll,nE⟩:=aM.cells;clear aM;simp only[ah.goto]at y0 y1 y2 y3 y4 dH y6 ll nE;go_wp2_with (at_builtin;refine oL jw.o AP rfl (.tmp 30) (.tmp 32) rfl (w.heap.size+1) _ _ rfl (gm.o.alloc _) ⟨_,0,none⟩ 1 1 [t0.goto p] rfl rfl ?_ ?_ ?_ ?_ ?_;exact gD _ _ _ rfl;exact bN (Nat.mul_le_mul_left _ jW) (by omega);(unfold maxLen;omega);(have:=pE.o.lt;simp <;> omega);intro v' oM h1 h2;have qp:=ae h1;have lC:=ae (((ak (w.heap.size+1) _).alloc (by have:=pE.o.lt;omega) _).trans h2);clear h1 h2)
        go_roundw
        case rel=>exact⟨p+n0,acc++[t0.goto p],by go_num,by omega,by simp;omega,yY,qp,ae (pE.o.below lC.o (Nat.lt_succ_self _)),ae (HB3.o.trans (lC.o.mono (Nat.le_succ _)))⟩
        case measure=>simp[intOf];omega
  · have lH:¬ (p:Int)<(s.size:Int):=by omega
    have hpz:p=s.size:=by omega
    have HN:=ae (show gT (sb s)=some (acc++[ah.zero.goto p])by rw[HL.o,TB s p (by omega)];rfl);clear HL;obtain⟨c0,c1⟩:=HK.o.facts;obtain⟨f0,f1⟩:=HK.o.bR;go_wp2_with (at_builtin;refine oL jw.o AP rfl (.tmp 37) (.tmp 41) rfl (w.heap.size+1) _ _ rfl (HO.o.alloc _) ⟨_,0,none⟩ 1 1 [ah.zero.goto s.size] rfl rfl ?_ ?_ ?_ ?_ ?_;exact gD _ _ _ rfl;exact bN (Nat.mul_le_mul_left _ jW) (by omega);(unfold maxLen;omega);(have:=HK.o.lt;simp <;> omega);intro v' oM h1 h2;obtain⟨gz,ZW,rfl,_,_,_,_⟩:=Own.some h1 (by simp);have qp:=ae h1;have lC:=ae (((ak (w.heap.size+1) _).alloc (by have:=HK.o.lt;omega) _).trans h2);clear h1 h2;have JP:=ae (HK.o.below lC.o (Nat.lt_succ_self _));clear c0 c1 f0 f1;obtain⟨c0,c1⟩:=JP.o.facts;obtain⟨f0,f1⟩:=JP.o.bR)
    exact bodyPost_ret (M3 (JP.o.qK _ 0) _ _ 2 Ns rfl) rfl ⟨((HB.o.trans (lC.o.mono (Nat.le_succ _))).setCell (aj _) _).setCell (aj _) _,.inr (.inr ⟨by omega,_,_,HN.o,rfl,by have h9:=(Own.NG qp.o (Nat.lt_succ_self _) (.slice (some ⟨gz,0,none⟩) (acc.length+1) ZW) (.int .i64 0)).mono (Nat.le_succ _);rw[show(acc++[ah.zero.goto s.size]).length=acc.length+1 by simp]at h9;rw[hpz];exact h9⟩)⟩
structure bF (w:World)(b:Nat)(tv:Value)(ts:List ah)(p:Nat)(d er:Int)(nv:Value)(vs:List aK):Prop where
 cell:w.heap[b]? = some (.cells #[tv,.int .i64 (p:Int),.int .i64 d,.int .i64 er,nv] 133)
 qR:Az w b tv ts
 nodes:kG w (b+1) nv vs
 lt:p<ts.length
 fit:Fit ts
 few:ts.length≤1000
 cnt:vs.length≤ts.length+100
section
variable {w:World} {b:Nat} {tv:Value} {ts:List ah} {p:Nat} {d er:Int} {nv:Value} {vs:List aK}
theorem bF.blt(h:bF w b tv ts p d er nv vs):b<w.heap.size:=(dB.1 h.cell).1
theorem bF.below {w':World}(h:bF w b tv ts p d er nv vs)(hb:Below w.heap.size w w'):bF w' b tv ts p d er nv vs:=by
 have hl:=h.blt;refine⟨by rw[hb.block b hl];exact h.cell, ?_,h.nodes.keep fun g _ hg=>hb.block g hg,h.lt,h.fit,h.few,h.cnt⟩;obtain⟨g,cap,h1,h2,h3⟩:=h.qR;exact⟨g,cap,h1,h2,h3.keep fun g _ hg _=>hb.block g hg⟩
theorem bF.facts (h:bF w b tv ts p d er nv vs):w.cell? ⟨b,0,none⟩=some tv∧w.cell? ⟨b,1,none⟩=some (.int .i64 (p:Int))∧w.cell? ⟨b,2,none⟩=some (.int .i64 d)∧w.cell? ⟨b,3,none⟩=some (.int .i64 er)∧w.cell? ⟨b,4,none⟩=some nv :=
 ⟨by rw[cell_of_row w b 0 _ _ _ h.cell];rfl,by rw[cell_of_row w b 1 _ _ _ h.cell];rfl,by rw[cell_of_row w b 2 _ _ _ h.cell];rfl,by rw[cell_of_row w b 3 _ _ _ h.cell];rfl,by rw[cell_of_row w b 4 _ _ _ h.cell];rfl⟩
theorem bF.frozen(h:bF w b tv ts p d er nv vs)(j:Nat):w.frozen? ⟨b,j,none⟩=false:=frozen_of_row w b j _ _ h.cell
theorem bF.NH (h:bF w b tv ts p d er nv vs)(m:Nat)(hm:m<ts.length):bF (w.setCell ⟨b,1,none⟩ (.int .i64 (m:Int))) b tv ts m d er nv vs :=
 ⟨by rw[heap_setCell_same w b 1 _ _ _ h.cell];rfl,h.qR.set _ _,h.nodes.set (by omega) _ _,hm,h.fit,h.few,h.cnt⟩
theorem bF.next(h:bF w b tv ts p d er nv vs)(hm:p+1<ts.length):bF (w.setCell ⟨b,1,none⟩ (.int .i64 ((p:Int)+1))) b tv ts (p+1) d er nv vs:=h.NH (p+1) hm
theorem bF.qO (h:bF w b tv ts p d er nv vs)(m:Int):bF (w.setCell ⟨b,2,none⟩ (.int .i64 m)) b tv ts p m er nv vs :=
 ⟨by rw[heap_setCell_same w b 2 _ _ _ h.cell];rfl,h.qR.set _ _,h.nodes.set (by omega) _ _,h.lt,h.fit,h.few,h.cnt⟩
theorem bF.ahY (h:bF w b tv ts p d er nv vs)(m:Int):bF (w.setCell ⟨b,3,none⟩ (.int .i64 m)) b tv ts p d m nv vs :=
 ⟨by rw[heap_setCell_same w b 3 _ _ _ h.cell];rfl,h.qR.set _ _,h.nodes.set (by omega) _ _,h.lt,h.fit,h.few,h.cnt⟩
theorem bF.tok (h:bF w b tv ts p d er nv vs):∃g cap t,tv = .slice (some ⟨g,0,none⟩) ts.length cap∧ts[p]? = some t∧ts.drop p=t :: ts.drop (p+1)∧g<b∧w.cell? ⟨g,p*9,none⟩=some (.int .i64 t.kind)∧w.cell? ⟨g,p*9+1,none⟩=some (.string t.text)∧w.cell? ⟨g,p*9+2,none⟩=some (.int .i64 t.num)∧w.cell? ⟨g,p*9+3,none⟩=some (.string t.sh)∧w.cell? ⟨g,p*9+4,none⟩=some (.int .i64 t.c)∧w.cell? ⟨g,p*9+5,none⟩=some (.int .i64 t.r)∧w.cell? ⟨g,p*9+6,none⟩=some (.bool t.ac)∧w.cell? ⟨g,p*9+7,none⟩=some (.bool t.ar)∧w.cell? ⟨g,p*9+8,none⟩=some (.int .i64 t.pos):=by
 obtain⟨g,cap,h1,h2,h3⟩:=h.qR;have hl:=h.lt;rw[h1]at h3;have hc:=fun j hj=>sO.cell h3 p _ (cZ hl) j hj
 exact⟨g,cap,ts[p],h1,cZ hl,List.drop_eq_getElem_cons hl,h2,hc 0 (by omega),hc 1 (by omega),hc 2 (by omega),hc 3 (by omega),hc 4 (by omega),hc 5 (by omega),hc 6 (by omega),hc 7 (by omega),hc 8 (by omega)⟩
theorem bF.row (h:bF w b tv ts p d er nv vs):∀g,nv.ownBlock=some g→b<g∧Cm w g:=by
 intro g e;rcases h.nodes.1.2 with ⟨h1,_⟩|⟨g',cap,cur,h1,h2,h3,_⟩
 · rw[h1]at e;cases e
 · rw[h1]at e;injection e with e
   have e:g'=g:=e;subst e;exact⟨by omega,cur,_,h3⟩
theorem bF.abb {w':World}(h:bF w b tv ts p d er nv vs)(hg:w.grownBy w' nv.ownBlock):w'.cell? ⟨b,4,none⟩=some nv∧w'.frozen? ⟨b,4,none⟩=false:=by
 have hbb:w'.heap[b]? = w.heap[b]? := hg.block b h.blt (by intro e;have:=(h.row b e.symm).1;omega);have hc:=hbb.trans h.cell;exact⟨by rw[cell_of_row w' b 4 _ _ _ hc];rfl,frozen_of_row w' b 4 _ _ hc⟩
theorem bF.grow {w':World}{bu:Value}{v:aK}(h:bF w b tv ts p d er nv vs)(hg:w.grownBy w' nv.ownBlock)(ho:Own qD 44 w' (b+1) bu (vs++[v]))
 (hk:Own (aJ .i64) 3 w (b+1) v.aY v.n.kids) (hc:vs.length+1≤ts.length+100):bF (w'.setCell ⟨b,4,none⟩ bu) b tv ts p d er bu (vs++[v])∧Fr w (w'.setCell ⟨b,4,none⟩ bu) b:=by
 have Bd:=h.row;have hfr:Fr w w' b:=(Fr.refl w b).row hg (fun g e=>⟨(Bd g e).1,.inr (Bd g e).2⟩);have hbb:w'.heap[b]? = w.heap[b]? := hg.block b h.blt (by intro e;have:=(Bd b e.symm).1;omega);refine⟨⟨?_, ?_,⟨ho.keep fun j hj _ _=>gy _ _ _ _ (by show j≠b;omega), ?_⟩,h.lt,h.fit,h.few,by rw[ax,fo];exact hc⟩,hfr.setCell _ _⟩
 · rw[heap_setCell_same w' b 4 _ _ _ (hbb.trans h.cell)];rfl
 · have h1:Az w' b tv ts:=by
    obtain⟨g,cap,h1,h2,h3⟩:=h.qR;exact⟨g,cap,h1,h2,h3.keep fun j _ hj e=>hfr.block j hj (by rw[h1]at e;injection e with e;have:g=j:=e;omega) (.inl (by rw[h1]at e;injection e with e;have:g=j:=e;omega))⟩
   exact h1.set _ _
 · intro u hu
   have h1:Own (aJ .i64) 3 w (b+1) u.aY u.n.kids:=by
    rcases dQ.1 hu with hu|hu
    · exact h.nodes.2 u hu
    · rw[gM.1 hu];exact hk
   exact(h1.fr hfr (by omega) (by decide)).keep fun j hj _ _=>gy _ _ _ _ (by show j≠b;omega)
theorem bF.kids {w':World}(h:bF w b tv ts p d er nv vs){r:Option Nat}(hg:w.grownBy w' r)(hr:∀g,r=some g→b<g∧¬ Cm w g∧∀v∈vs,v.aY.ownBlock≠some g):bF w' b tv ts p d er nv vs:=by
 refine⟨?_, ?_,⟨h.nodes.1.keep ?_,fun v hv=>(h.nodes.2 v hv).keep ?_⟩,h.lt,h.fit,h.few,h.cnt⟩
 · rw[hg.block b h.blt (by intro e;have:=(hr b e.symm).1;omega)];exact h.cell
 · obtain ⟨g,cap,h1,h2,h3⟩:=h.qR
   exact ⟨g,cap,h1,h2,h3.keep fun j _ hj e=>hg.block j hj (by
    intro e2;have:=(hr j e2.symm).1;rw[h1]at e;injection e with e;have:g=j:=e;omega)⟩
 · intro g h1 h2 h3
   exact hg.block g h2 (fun e=>(hr g e.symm).2.1 (h.row g h3).2)
 · intro g h1 h2 h3
   exact hg.block g h2 (fun e=>(hr g e.symm).2.2 v hv h3)
end
def xy (b n:Nat)(w:World):Nat:=match w.cell? ⟨b,3,none⟩with
 | some (.int _ e)=>if e=0 then n+1 - (match w.cell? ⟨b,1,none⟩with|some (.int _ m)=>m.toNat|_=>0)else 0
 | _=>0
theorem bF.xy {w:World}{b:Nat}{tv:Value}{ts:List ah}{p:Nat}{d er:Int}{nv:Value}{vs:List aK}(h:bF w b tv ts p d er nv vs)(n:Nat):xy b n w=if er=0 then n+1 - p else 0:=by
 unfold Go.Proofs.YtbplbjmmfgjdjaaGreatDoor.xy;rw[h.facts.2.2.2.1,h.facts.2.1];rfl
theorem zS {w:World}{b:Nat}{tv:Value}{ts:List ah}{p:Nat}{d er:Int}{nv:Value}{vs:List aK}(h:bF w b tv ts p d er nv vs){s:ByteArray}(hs:ay s (ts.drop p)=true):p+1<ts.length:=by
 obtain⟨g,cap,t, -,ht,hd, -⟩:=h.tok;rw[I4 hd,dJ,aQ]at hs;exact h.fit.next ht (by omega)
theorem yI {w:World}{b:Nat}{tv:Value}{ts:List ah}{p:Nat}{d er:Int}{nv:Value}{vs:List aK}(h:bF w b tv ts p d er nv vs)(s:ByteArray) :
 Calls Tryz.prog 114 #[.pointer (some ⟨b,0,none⟩),.string s] w fun e w'=>e = .returned (.bool (decide (er=0)&&ay s (ts.drop p)))∧Below w.heap.size w w':=by
 obtain⟨c0,c1,c2,c3,c4⟩:=h.facts;obtain⟨g,cap,t,rfl,ht,hd, -,k0,k1, -⟩:=h.tok;have hlt:=h.lt;have HS:=ae (I4 (s:=s) hd);have hi1:(0:Int)≤(p:Int):=by omega
 have hi2:(p:Int)<(ts.length:Int):=by omega
 obtain⟨n,hn⟩:∃n,ts.length=n:=⟨_,rfl⟩;rw[hn]at hi2 hlt c0;clear h ht hd hn c2 c4;by_cases he:er=0
 · have ee:(er == 0)=true:=bB.2 he
   have HE:=ae (aR he);clear he;by_cases h5:t.kind=5
   · have e5:(t.kind == 5)=true:=bB.2 h5
     by_cases hs:t.text=s
     · have hs1:(t.text.toList == s.toList)=true:=by rw[hs];simp
       have hs2:t.text.toList=s.toList:=by rw[hs]
       have HR:=ae (show(decide (er=0)&&ay s (ts.drop p))=true by rw[HE.o,HS.o,aR h5,aR hs];rfl);clear h5 hs;go_enter Tryz.func114,Tryz.ntmps114;go_wp2_with fail
       go_quiet (fail)
       go_wp2_with fail
       go_ret;exact⟨by rw[HR.o] <;> rfl,oq (ak _ _) nq⟩
     · have hs1:(t.text.toList == s.toList)=false:=aA.2 (pg _ _ hs)
       have hs2:¬ t.text.toList=s.toList:=pg _ _ hs;have HR:=ae (show(decide (er=0)&&ay s (ts.drop p))=false by rw[HE.o,HS.o,aR h5,aV hs];rfl);clear h5 hs;go_enter Tryz.func114,Tryz.ntmps114;go_wp2_with fail
       go_quiet (fail)
       go_wp2_with fail
       go_ret;exact⟨by rw[HR.o] <;> rfl,oq (ak _ _) nq⟩
   · have e5:(t.kind == 5)=false:=aA.2 h5
     have HR:=ae (show(decide (er=0)&&ay s (ts.drop p))=false by rw[HE.o,HS.o,aV h5];rfl);clear h5;go_enter Tryz.func114,Tryz.ntmps114;go_wp2_with fail
     go_quiet (fail)
     go_wp2_with fail
     go_ret;exact⟨by rw[HR.o] <;> rfl,oq (ak _ _) nq⟩
 · have ee:(er == 0)=false:=aA.2 he
   have HR:=ae (show(decide (er=0)&&ay s (ts.drop p))=false by rw[aV he];rfl);clear he;go_enter Tryz.func114,Tryz.ntmps114;go_wp2_with fail
   go_quiet (fail)
   go_wp2_with fail
   go_ret;exact⟨by rw[HR.o] <;> rfl,oq (ak _ _) nq⟩
def vH(b:Nat)(tv:Value)(ts:List ah)(p:Nat)(d er:Int)(nv:Value)(vs:List aK)(c:Int)(w':World):Prop:=bF w' b tv ts p d (if er=0 then c else er) nv vs
theorem BG {w:World}{b:Nat}{tv:Value}{ts:List ah}{p:Nat}{d er:Int}{nv:Value}{vs:List aK}(h:bF w b tv ts p d er nv vs)(c:Int) :
 Calls Tryz.prog 78 #[.pointer (some ⟨b,0,none⟩),.int .i64 c] w fun e w'=>e = .returned (.tuple #[])∧Fr w w' b∧vH b tv ts p d er nv vs c w':=by
 obtain⟨c0,c1,c2,c3,c4⟩:=h.facts;have f3:=h.frozen 3;have HP:=ae h;clear h c0 c1 c2 c4;by_cases he:er=0
 · have ee:(er == 0)=true:=bB.2 he
   have HE:=ae he;clear he;go_enter Tryz.func78,Tryz.ntmps78;go_wp2_with fail
   have hq:vH b tv ts p d er nv vs c (w.setCell ⟨b,3,none⟩ (.int .i64 c)):=by unfold vH;rw[ag HE.o];exact HP.o.ahY c
   first
    | exact bodyPost_ret (results_none rfl _ _ _) rfl ⟨rfl,(Fr.refl _ _).setCell _ _,hq⟩
    | (go_end0;exact⟨rfl,(Fr.refl _ _).setCell _ _,hq⟩)
 · have ee:(er == 0)=false:=aA.2 he
   have HE:=ae he;clear he;go_enter Tryz.func78,Tryz.ntmps78;go_wp2_with fail
   have hq:vH b tv ts p d er nv vs c w:=by unfold vH;rw[af HE.o];exact HP.o
   first
    | exact bodyPost_ret (results_none rfl _ _ _) rfl ⟨rfl,Fr.refl _ _,hq⟩
    | (go_end0;exact⟨rfl,Fr.refl _ _,hq⟩)
def KH (b:Nat)(tv:Value)(ts:List ah)(p:Nat)(d er:Int)(nv:Value)(vs:List aK)(s:ByteArray)(w':World):Prop :=
 (er≠0∧bF w' b tv ts p d er nv vs)∨(er=0∧ay s (ts.drop p)=true∧bF w' b tv ts (p+1) d 0 nv vs)∨(er=0∧ay s (ts.drop p)=false∧bF w' b tv ts p d 5 nv vs)
theorem Dk {w:World}{b:Nat}{tv:Value}{ts:List ah}{p:Nat}{d er:Int}{nv:Value}{vs:List aK}(h:bF w b tv ts p d er nv vs)(s:ByteArray) :
 Calls Tryz.prog 160 #[.pointer (some ⟨b,0,none⟩),.string s] w fun e w'=>e = .returned (.tuple #[])∧Fr w w' b∧KH b tv ts p d er nv vs s w':=by
 have HS:=ae (yI h s);have HP:=ae h;have kW:=h.few;have hlt:=h.lt;obtain⟨q,hq⟩:∃q,(decide (er=0)&&ay s (ts.drop p))=q:=⟨_,rfl⟩;rw[hq]at HS;cases q
 · have HF:=ae (fun w1 (h1:Below w.heap.size w w1)=>BG (HP.o.below h1) 5)
   have HQ:=ae hq;clear h hq;go_enter Tryz.func160,Tryz.ntmps160
   go_wp2_with (first
    | (go_at_call 114;((with_reducible refine HS.o.mono ?_);rintro e w1 ⟨rfl,h1⟩;have HB:=ae h1;clear h1))
    | (go_at_call 78;((with_reducible refine(HF.o _ HB.o).mono ?_);rintro e w2 ⟨rfl,h1,h2⟩;have bT:=ae h1;have dm:=ae h2;clear h1 h2)))
   have fin:KH b tv ts p d er nv vs s w2:=by
    have hP:=dm.o;unfold vH at hP;by_cases he:er=0
    · rw[ag he]at hP
      have:=HQ.o;rw[aR he,gV]at this;exact .inr (.inr ⟨he,this,hP⟩)
    · rw[af he]at hP
      exact .inl ⟨he,hP⟩
   first
    | exact bodyPost_ret (results_none rfl _ _ _) rfl ⟨rfl,(Fr.of b HB.o).trans bT.o,fin⟩
    | (go_end0;exact⟨rfl,(Fr.of b HB.o).trans bT.o,fin⟩)
 · rw [dJ,aQ]at hq
   have hnx:=zS h hq.2;have HQ:=ae hq;clear h hq;go_enter Tryz.func160,Tryz.ntmps160;go_upto_region 2 with (go_at_call 114;((with_reducible refine HS.o.mono ?_);rintro e w1 ⟨rfl,h1⟩;have HB:=ae h1;have bK:=ae (HP.o.below h1);clear h1))
   obtain⟨c0,c1,c2,c3,c4⟩:=bK.o.facts;have f1:=bK.o.frozen 1;clear c0 c2 c3 c4;go_wp2_with fail
   have fin:KH b tv ts p d er nv vs s (w1.setCell ⟨b,1,none⟩ (.int .i64 ((p:Int)+1))):=by
    have hP:=bK.o.next hnx;rw[HQ.o.1]at hP;exact .inr (.inl ⟨HQ.o.1,HQ.o.2,hP⟩)
   first
    | exact bodyPost_ret (results_none rfl _ _ _) rfl ⟨rfl,(Fr.of b HB.o).setCell _ _,fin⟩
    | (go_end0;exact⟨rfl,(Fr.of b HB.o).setCell _ _,fin⟩)
def KF(b:Nat)(tv:Value)(ts:List ah)(p deep:Nat)(nv:Value)(vs:List aK)(w':World):Prop:=(12≤deep∧bF w' b tv ts p (deep:Int) 6 nv vs)∨(¬ 12≤deep∧bF w' b tv ts (p+1) ((deep+1:Nat):Int) 0 nv vs)
theorem BH {w:World}{b:Nat}{tv:Value}{ts:List ah}{p deep:Nat}{nv:Value}{vs:List aK}(h:bF w b tv ts p (deep:Int) 0 nv vs)(hn:deep≤12)(hnx:p+1<ts.length) :
 Calls Tryz.prog 142 #[.pointer (some ⟨b,0,none⟩)] w fun e w'=>e = .returned (.tuple #[])∧Fr w w' b∧KF b tv ts p deep nv vs w':=by
 obtain⟨c0,c1,c2,c3,c4⟩:=h.facts;have f1:=h.frozen 1;have f2:=h.frozen 2;have hf:=h.few;have HP:=ae h;have HF:=ae (BG h 6);clear h c0 c3 c4;by_cases hd:12≤deep
 · have e12:(12:Int)≤(deep:Int):=by omega
   go_enter Tryz.func142,Tryz.ntmps142;go_wp2_with (go_at_call 78;((with_reducible refine HF.o.mono ?_);rintro e w2 ⟨rfl,h1,h2⟩;have bT:=ae h1;have dm:=ae h2;clear h1 h2))
   have fin:KF b tv ts p deep nv vs w2:=by have:=dm.o;unfold vH at this;rw[ag rfl]at this;exact .inl ⟨hd,this⟩
   first
    | exact bodyPost_ret (results_none rfl _ _ _) rfl ⟨rfl,bT.o,fin⟩
    | (go_end0;exact⟨rfl,bT.o,fin⟩)
 · have e12:¬ (12:Int)≤(deep:Int):=by omega
   have HD:=ae hd;go_enter Tryz.func142,Tryz.ntmps142;go_wp2_with fail
   have fin:KF b tv ts p deep nv vs ((w.setCell ⟨b,2,none⟩ (.int .i64 ((deep:Int)+1))).setCell ⟨b,1,none⟩ (.int .i64 ((p:Int)+1))) := .inr ⟨HD.o,(HP.o.qO ((deep+1:Nat):Int)).next hnx⟩
   first
    | exact bodyPost_ret (results_none rfl _ _ _) rfl ⟨rfl,((Fr.refl _ _).setCell _ _).setCell _ _,fin⟩
    | (go_end0;exact⟨rfl,((Fr.refl _ _).setCell _ _).setCell _ _,fin⟩)
theorem qf {w:World}{b:Nat}{tv:Value}{ts:List ah}{p:Nat}{d er:Int}{nv:Value}{vs:List aK}(h:bF w b tv ts p d er nv vs)(v:aK)(hk:Own (aJ .i64) 3 w (b+1) v.aY v.n.kids)(hc:vs.length+1≤ts.length+100)(k:Value)(kI:v.aY=k)(n:Nd)(hn:v.n=n) :
 Calls Tryz.prog 115 #[.pointer (some ⟨b,0,none⟩),.agg #[.int .i64 n.kind,.int .i64 n.num,.string n.text,.string n.ref.sh,.int .i64 n.ref.c,.int .i64 n.ref.r,.bool n.ref.ac,.bool n.ref.ar,.string n.ai.sh,.int .i64 n.ai.c,.int .i64 n.ai.r,.bool n.ai.ac,.bool n.ai.ar,k]] w fun e w'=>Fr w w' b∧e = .returned (.int .i64 (vs.length:Int))∧∃bu,bF w' b tv ts p d er bu (vs++[v]):=by
 obtain⟨eb,jW,df⟩:=Elem.dP;have hal:Below w.heap.size w (w.alloc (.cells #[.int .i64 n.kind,.int .i64 n.num,.string n.text,.string n.ref.sh,.int .i64 n.ref.c,.int .i64 n.ref.r,.bool n.ref.ac,.bool n.ref.ar,.string n.ai.sh,.int .i64 n.ai.c,.int .i64 n.ai.r,.bool n.ai.ac,.bool n.ai.ar,k] 44)):=(ak _ _).alloc (aj _) _;have bK:=ae (h.below hal);have jH:=ae (hk.alloc (.cells #[.int .i64 n.kind,.int .i64 n.num,.string n.text,.string n.ref.sh,.int .i64 n.ref.c,.int .i64 n.ref.r,.bool n.ref.ac,.bool n.ref.ar,.string n.ai.sh,.int .i64 n.ai.c,.int .i64 n.ai.r,.bool n.ai.ac,.bool n.ai.ar,k] 44));have hx:az (w.alloc (.cells #[.int .i64 n.kind,.int .i64 n.num,.string n.text,.string n.ref.sh,.int .i64 n.ref.c,.int .i64 n.ref.r,.bool n.ref.ac,.bool n.ref.ar,.string n.ai.sh,.int .i64 n.ai.c,.int .i64 n.ai.r,.bool n.ai.ac,.bool n.ai.ar,k] 44)) w.heap.size n k:=az.new w n k;have h2:=h.few;have h3:=h.lt;have hbl:=h.blt;have hsz:(w.alloc (.cells #[.int .i64 n.kind,.int .i64 n.num,.string n.text,.string n.ref.sh,.int .i64 n.ref.c,.int .i64 n.ref.r,.bool n.ref.ac,.bool n.ref.ar,.string n.ai.sh,.int .i64 n.ai.c,.int .i64 n.ai.r,.bool n.ai.ac,.bool n.ai.ar,k] 44)).heap.size=w.heap.size+1:=by simp
 have jw:=ae df;have bz:=ae hal;clear h hk df hal;go_enter Tryz.func115,Tryz.ntmps115;go_upto_region 1 with (fail)
 generalize w.alloc (.cells #[.int .i64 n.kind,.int .i64 n.num,.string n.text,.string n.ref.sh,.int .i64 n.ref.c,.int .i64 n.ref.r,.bool n.ref.ac,.bool n.ref.ar,.string n.ai.sh,.int .i64 n.ai.c,.int .i64 n.ai.r,.bool n.ai.ac,.bool n.ai.ar,k] 44)=w1 at bK jH bz hx hsz ⊢;obtain⟨x0,x1,x2,x3,x4,x5,x6,x7,av,aI,aF,aG,aH,aC⟩:=hx.cells;obtain⟨c0,c1,c2,c3,c4⟩:=bK.o.facts;have f4:=bK.o.frozen 4;clear hx c0 c1 c2 c3;have D7:=ae (bK.o.below (((ak _ _).drew).alloc (aj _) (.cells #[.int .i64 n.kind,.int .i64 n.num,.string n.text,.string n.ref.sh,.int .i64 n.ref.c,.int .i64 n.ref.r,.bool n.ref.ac,.bool n.ref.ar,.string n.ai.sh,.int .i64 n.ai.c,.int .i64 n.ai.r,.bool n.ai.ac,.bool n.ai.ar,k] 44)));have hw1 : -9223372036854775808≤(vs.length:Int)+1 - 1:=by omega
 have hw2:(vs.length:Int)+1 - 1≤9223372036854775807:=by omega
 go_region_law (refine NU jw.o qD rfl (.tmp 9) (.tmp 11) rfl (b+1) nv vs ?_ (bK.o.nodes.1.drew.alloc _) ⟨w1.heap.size,0,none⟩ 1 1 [v] ?_ rfl ?_ ?_ ?_ ?_ ?_;go_simp;go_simp;(subst kI;subst hn;exact gD (w:=w1.drew) _ _ _ rfl);exact bN (Nat.mul_le_mul_left _ jW) (by omega);(unfold maxLen;omega);(simp <;> omega);intro v' oM h1 h2 h4;obtain⟨g1,fu,rfl,hg0,hg1,hg2,hg3⟩:=Own.some h1 (by simp);obtain⟨d1,d2⟩:=D7.o.abb h2;have HO:=ae h1;have HG:=ae h2;clear h1 h2 h4)
 all_goals
  obtain⟨q1,q2⟩:=D7.o.grow HG.o HO.o (jH.o.drew.alloc _) hc;rw[ax,fo]at q1 q2;obtain⟨c0,c1,c2,c3,c4⟩:=q1.facts;have sJ:=ae q1;have mF:=ae q2;clear q1 q2 c0 c1 c2 c3;go_wp2_with fail
  have hF:=(((Fr.of b bz.o).drew).below ((ak _ _).alloc (aj _) (.cells #[.int .i64 n.kind,.int .i64 n.num,.string n.text,.string n.ref.sh,.int .i64 n.ref.c,.int .i64 n.ref.r,.bool n.ref.ac,.bool n.ref.ar,.string n.ai.sh,.int .i64 n.ai.c,.int .i64 n.ai.r,.bool n.ai.ac,.bool n.ai.ar,k] 44))).trans mF.o;go_ret;exact⟨hF,Ny (by first|rfl|omega),_,sJ.o⟩
def wQ(w:World)(gs gk:Nat)(L:List (ByteArray × Int)):Prop:=w.heap[gs]? = some (.cells (L.map fun q=>Value.string q.1).toArray 9)∧w.heap[gk]? = some (.cells (L.map fun q=>Value.int .i64 q.2).toArray 3)
theorem wQ.below {w w':World}{gs gk:Nat}{L:List (ByteArray × Int)}(h:wQ w gs gk L)(hb:Below w.heap.size w w'):wQ w' gs gk L :=
 ⟨by rw[hb.block gs (dB.1 h.1).1];exact h.1,by rw[hb.block gk (dB.1 h.2).1];exact h.2⟩
theorem wQ.fr {w w':World}{b gs gk:Nat}{L:List (ByteArray × Int)}(h:wQ w gs gk L)(hf:Fr w w' b)(h1:b<gs)(h2:b<gk):wQ w' gs gk L:=by
 refine⟨?_, ?_⟩
 · rw[hf.block gs (dB.1 h.1).1 (by omega) (.inr (by rintro⟨cur,fr,e⟩;rw[h.1]at e;injection e with e;injection e with _ e;exact absurd e (by decide)))];exact h.1
 · rw[hf.block gk (dB.1 h.2).1 (by omega) (.inr (by rintro⟨cur,fr,e⟩;rw[h.2]at e;injection e with e;injection e with _ e;exact absurd e (by decide)))];exact h.2
theorem wQ.cells {w:World}{gs gk:Nat}{L:List (ByteArray × Int)}(h:wQ w gs gk L)(j:Nat)(q:ByteArray × Int)(hj:L[j]? = some q):w.cell? ⟨gs,j,none⟩=some (.string q.1)∧w.cell? ⟨gk,j,none⟩=some (.int .i64 q.2):=by
 refine⟨?_, ?_⟩
 · rw[cell_of_row w gs j _ _ _ h.1];simp[hj]
 · rw[cell_of_row w gk j _ _ _ h.2];simp[hj]
def PN (n:Nat)(w:World)(e:Ending)(w':World):Prop :=
 Below w.heap.size w w'∧∃gs gk,e = .returned (.tuple #[.slice (some ⟨gs,0,none⟩) (gp n).length (gp n).length,.slice (some ⟨gk,0,none⟩) (gp n).length (gp n).length])∧w.heap.size≤gs∧w.heap.size≤gk∧wQ w' gs gk (gp n)
theorem adN (n:Nat)(w:World)(A B:Array Value)(h1:A=((gp n).map fun q=>Value.string q.1).toArray)(h2:B=((gp n).map fun q=>Value.int .i64 q.2).toArray) :
 PN n w (.returned (.tuple #[.slice (some ⟨w.heap.size,0,none⟩) (gp n).length (gp n).length,.slice (some ⟨w.heap.size+1,0,none⟩) (gp n).length (gp n).length])) ((w.alloc (.cells A 9)).alloc (.cells B 3)):=by
 subst h1;subst h2;refine⟨((ak _ _).alloc (aj _) _).alloc (by simp) _,w.heap.size,w.heap.size+1,rfl,aj _,by omega, ?_, ?_⟩
 · rw[Below.heap_alloc _ _ _ (by simp)];exact(lu w _).1
 · have:=(lu (w.alloc (.cells ((gp n).map fun q=>Value.string q.1).toArray 9)) (.cells ((gp n).map fun q=>Value.int .i64 q.2).toArray 3)).1
   rwa[show(w.alloc (.cells ((gp n).map fun q=>Value.string q.1).toArray 9)).heap.size=w.heap.size+1 by simp]at this
theorem ahf (n:Nat)(hn:n≤3)(w:World):Calls Tryz.prog 113 #[.int .i64 (n:Int)] w (PN n w):=by
 rcases(show n=0∨n=1∨n=2∨n=3 by omega)with rfl|rfl|rfl|rfl
 all_goals
  go_enter Tryz.func113,Tryz.ntmps113;go_wp2_with fail
  go_ret2
  exact adN _ _ _ _ rfl rfl
theorem bF.MX{w':World}{b:Nat}{tv:Value}{ts:List ah}{p:Nat}{d:Int}{nv:Value}{vs:List aK}{c:Int}(h:vH b tv ts p d 0 nv vs c w'):bF w' b tv ts p d c nv vs:=by unfold vH at h;rw[ag rfl]at h;exact h
def dF (sl:Nat)(res:eT)(w:World)(b:Nat)(tv:Value)(ts:List ah)(deep:Nat)(vs:List aK)(e:Ending)(w':World):Prop :=
 Fr w w' b∧((∃c,res = .error c∧(c=5∨c=6)∧(∃x:Int,e = .returned (.int .i64 x))∧∃p' d bu us,(∀u∈us,∀g,u.aY.ownBlock=some g→w.heap.size≤g)∧bF w' b tv ts p' d c bu (vs++us)∧(vs++us).length+sl≤ts.length+100∧(sl:Int)≤d+100∧d≤100) ∨
  (∃ms a r,res = .ok (ms,a,r)∧e = .returned (.int .i64 ((a:Nat):Int))∧∃p' bu us,ts.drop p'=r∧us.map aK.n=ms∧(∀u∈us,∀g,u.aY.ownBlock=some g→w.heap.size≤g)∧bF w' b tv ts p' (deep:Int) 0 bu (vs++us)∧(vs++us).length≤p'))
theorem dF.ret {sl:Nat}{res:eT}{w w':World}{b:Nat}{tv:Value}{ts:List ah}{deep:Nat}{vs:List aK}{e:Ending}(h:dF sl res w b tv ts deep vs e w'):∃c:Int,e = .returned (.int .i64 c):=by
 rcases h.2 with ⟨c,_,_,h,_⟩|⟨_,a,_,_,h,_⟩
 · exact h
 · exact⟨a,h⟩
theorem dF.from {sl:Nat}{res:eT}{w w2 w3:World}{b:Nat}{tv:Value}{ts:List ah}{deep:Nat}{vs:List aK}{e:Ending}(hf:Fr w w2 b)(h:dF sl res w2 b tv ts deep vs e w3):dF sl res w b tv ts deep vs e w3:=by
 refine⟨hf.trans h.1,h.2.imp ?_ ?_⟩
 · rintro⟨c,g1,g2,g3,p',d,bu,us,g4,g5,g6⟩
   exact⟨c,g1,g2,g3,p',d,bu,us,fun u hu j hj=>bN hf.size (g4 u hu j hj),g5,g6⟩
 · rintro⟨ms,a,r,g1,g2,p',bu,us,g3,g4,g5,g6⟩
   exact⟨ms,a,r,g1,g2,p',bu,us,g3,g4,fun u hu j hj=>bN hf.size (g5 u hu j hj),g6⟩
theorem dF.leaf {sl:Nat}{res:eT}{w w':World}{b:Nat}{tv:Value}{ts:List ah}{deep p':Nat}{vs:List aK}{bu:Value}{n:Nd}{a:Nat}{r:List ah}(hr:res = .ok ([n],a,r))(hf:Fr w w' b)(hp:ts.drop p'=r)(h:bF w' b tv ts p' (deep:Int) 0 bu (vs++[aK.leaf n]))(hc:vs.length+1≤p'):dF sl res w b tv ts deep vs (.returned (.int .i64 (a:Int))) w' :=
 ⟨hf,.inr ⟨[n],a,r,hr,rfl,p',bu,[aK.leaf n],hp,rfl,(by intro u hu g hg;rw[gM.1 hu]at hg;cases hg),h,by rw[ax];exact hc⟩⟩
theorem dF.err {sl:Nat}{res:eT}{w w':World}{b:Nat}{tv:Value}{ts:List ah}{deep p':Nat}{d:Int}{vs:List aK}{bu:Value}{c x:Int}(hr:res = .error c)(hc:c=5∨c=6)(hf:Fr w w' b)(h:bF w' b tv ts p' d c bu vs)(hs:vs.length+sl≤ts.length+100)(hd:(sl:Int)≤d+100∧d≤100):dF sl res w b tv ts deep vs (.returned (.int .i64 x)) w' :=
 ⟨hf,.inl ⟨c,hr,hc,⟨x,rfl⟩,p',d,bu,[],(fun u hu=>absurd hu (by simp)),by rw[gL];exact h,by rw[gL];exact hs,hd⟩⟩
theorem dF.bad {sl:Nat}{res:eT}{w w':World}{b:Nat}{tv:Value}{ts:List ah}{deep:Nat}{vs:List aK}{e:Ending}{c:Int}(h:dF sl res w b tv ts deep vs e w')(hr:res = .error c) :
 Fr w w' b∧(c=5∨c=6)∧∃x:Int,e = .returned (.int .i64 x)∧∃p' d bu us,(∀u∈us,∀g,u.aY.ownBlock=some g→w.heap.size≤g)∧bF w' b tv ts p' d c bu (vs++us)∧(vs++us).length+sl≤ts.length+100∧(sl:Int)≤d+100∧d≤100:=by
 rcases h.2 with ⟨c',h1,h2,⟨x,h3⟩,h4⟩|⟨ms,a,r,h1,_⟩
 · rw[hr]at h1;injection h1 with h1;subst h1;exact⟨h.1,h2,x,h3,h4⟩
 · rw[hr]at h1;cases h1
theorem dF.sU {sl:Nat}{res:eT}{w w':World}{b:Nat}{tv:Value}{ts:List ah}{deep:Nat}{vs:List aK}{e:Ending}{ms:List Nd}{a:Nat}{r:List ah}(h:dF sl res w b tv ts deep vs e w')(hr:res = .ok (ms,a,r)) :
 Fr w w' b∧e = .returned (.int .i64 ((a:Nat):Int))∧∃p' bu us,ts.drop p'=r∧us.map aK.n=ms∧(∀u∈us,∀g,u.aY.ownBlock=some g→w.heap.size≤g)∧bF w' b tv ts p' (deep:Int) 0 bu (vs++us)∧(vs++us).length≤p':=by
 rcases h.2 with ⟨c',h1,h2,h3⟩|⟨ms',a',r',h1,h2,h3⟩
 · rw[hr]at h1;cases h1
 · rw[hr]at h1;injection h1 with h1;injection h1 with e1 e2;injection e2 with e2 e3;subst e1;subst e2;subst e3;exact⟨h.1,h2,h3⟩
def Eg (f:Nat):Prop:=∀(n deep:Nat)(res:eT)(w:World)(b:Nat)(tv:Value)(ts:List ah)(p:Nat)(nv:Value)(vs:List aK),n≤4→deep≤12→bF w b tv ts p (deep:Int) 0 nv vs→vs.length≤p→eZ f n deep vs.length (ts.drop p)=some res →
 Calls Tryz.prog 77 #[.pointer (some ⟨b,0,none⟩),.int .i64 (n:Int)] w (dF (n+6*deep) res w b tv ts deep vs)
theorem ahu {w:World}{b:Nat}{tv:Value}{ts:List ah}{p deep:Nat}{nv:Value}{vs:List aK}(h:bF w b tv ts p (deep:Int) 0 nv vs)(uE:vs.length≤p)(oz:deep≤12)(t:ah)(hnx:p+1<ts.length) :
 Calls Tryz.prog 161 #[.pointer (some ⟨b,0,none⟩),.agg #[.string t.sh,.int .i64 t.c,.int .i64 t.r,.bool t.ac,.bool t.ar]] w (dF (5+6*deep) (jM vs.length t (ts.drop (p+1))) w b tv ts deep vs):=by
 have hal:Below w.heap.size w (w.alloc (.cells #[.string t.sh,.int .i64 t.c,.int .i64 t.r,.bool t.ac,.bool t.ar] 42)):=(ak _ _).alloc (aj _) _;have bK:=ae (h.below hal);have hx:=dz.new w t.sh t.c t.r t.ac t.ar;have h2:=h.few;have hlt:=h.lt;have hbl:=h.blt;have bz:=ae hal;clear h hal;go_enter Tryz.func161,Tryz.ntmps161;go_upto_region 1 with (fail)
 generalize w.alloc (.cells #[.string t.sh,.int .i64 t.c,.int .i64 t.r,.bool t.ac,.bool t.ar] 42)=w1 at bK bz hx ⊢;obtain⟨c0,c1,c2,c3,c4⟩:=bK.o.facts;have f1:=bK.o.frozen 1;clear c0 c2 c3 c4;go_upto_region 2 with (fail)
 have dm:=ae (bK.o.next hnx);have dw:=ae (hx.set (show w.heap.size≠b by omega) 1 (.int .i64 ((p:Int)+1)));have bT:=ae ((Fr.of b bz.o).setCell 1 (.int .i64 ((p:Int)+1)));clear c1 f1 hx bK bz;generalize w1.setCell ⟨b,1,none⟩ (.int .i64 ((p:Int)+1))=w2 at dm dw bT ⊢;have HT:=ae (yI dm.o ⟨#[58]⟩);rw[aR rfl,gV]at HT;have hw0:w.heap.size≠b:=by omega
 cases hq:ay ⟨#[58]⟩ (ts.drop (p+1))
 · rw[hq]at HT
   have HR:=ae (show jM vs.length t (ts.drop (p+1)) = .ok ([{ Nd.zero with kind:=5,ref:=t.dS }],vs.length,ts.drop (p+1))by unfold jM;rw[hq,af (by decide)]);clear hq;go_upto_region 3 with (go_at_call 114;((with_reducible refine HT.o.mono ?_);rintro e w3 ⟨rfl,h1⟩;have dY:=ae (bT.o.below h1);have fq:=ae (dw.o.below h1 dw.o.lt);have bg:=ae (dm.o.below h1);clear h1))
   obtain⟨x0,x1,x2,x3,x4⟩:=fq.o.facts;have HA:=ae (show Calls Tryz.prog 115 #[.pointer (some ⟨b,0,none⟩),.agg #[.int .i64 5,.int .i64 0,.string ⟨#[]⟩,.string t.sh,.int .i64 t.c,.int .i64 t.r,.bool t.ac,.bool t.ar,.string ⟨#[]⟩,.int .i64 0,.int .i64 0,.bool false,.bool false,.slice none 0 0]] w3 _ from qf bg.o (aK.leaf { Nd.zero with kind:=5,ref:=t.dS }) (yC _ _ _ rfl) (by omega) (.slice none 0 0) rfl { Nd.zero with kind:=5,ref:=t.dS } rfl);go_wp2_with (go_at_call 115;((with_reducible refine HA.o.mono ?_);rintro e w4 ⟨h1,rfl,bu,h3⟩;have eD:=ae (dY.o.trans h1);have bS:=ae h3;clear h1 h3))
   go_ret;exact dF.leaf HR.o eD.o rfl bS.o (by omega)
 · have yz:=zS dm.o hq
   obtain⟨u,hu⟩:∃u,ts[p+2]? = some u:=⟨_,cZ yz⟩
   have hd:(ts.drop (p+1)).tail=u :: ts.drop (p+3):=by
    rw[List.tail_drop,List.drop_eq_getElem_cons yz];rw[cZ yz]at hu;rw[dM hu]
   have hR:jM vs.length t (ts.drop (p+1))=if u.kind=4∧fI t.dS u.dS=true then .ok ([(⟨6,0,⟨#[]⟩,t.dS,u.dS,[]⟩:Nd)],vs.length,ts.drop (p+3))else .error 5:=by
    unfold jM;rw[hq,ag rfl,hd] <;> rfl
   rw[hq]at HT;clear hq hd;go_upto_region 4 with (go_at_call 114;((with_reducible refine HT.o.mono ?_);rintro e w3 ⟨rfl,h1⟩;have dY:=ae (bT.o.below h1);have fq:=ae (dw.o.below h1 dw.o.lt);have bg:=ae (dm.o.below h1);clear h1))
   obtain⟨c0,c1,c2,c3,c4⟩:=bg.o.facts;have f1:=bg.o.frozen 1;clear c0 c2 c3 c4;go_upto_region 5 with (fail)
   have bS:=ae (bg.o.next yz);have oQ:=ae (fq.o.set hw0 1 (.int .i64 (((p+1:Nat):Int)+1)));have eD:=ae (dY.o.setCell 1 (.int .i64 (((p+1:Nat):Int)+1)));clear c1 f1 bg fq dY HT bT dw dm;rw[show((p+1:Nat):Int)=(p:Int)+1 from rfl]at bS oQ eD;generalize w3.setCell ⟨b,1,none⟩ (.int .i64 ((p:Int)+1+1))=w4 at bS oQ eD ⊢;obtain⟨c0,c1,c2,c3,c4⟩:=bS.o.facts;obtain⟨g,cap,u',rfl,hu', -,hg,k0,k1,k2,k3,k4,k5,k6,k7,k8⟩:=bS.o.tok;have hu':ts[p+2]? = some u':=hu';rw[hu]at hu';injection hu' with hu';subst hu';have lX:Below w4.heap.size w4 (w4.alloc (.cells kE 113)):=(ak _ _).alloc (aj _) _;obtain⟨a0,a1, -, -, -⟩:=(bS.o.below lX).facts;have hgb:g<w4.heap.size:=by have:=bS.o.blt;omega
   have j0:=(lX.cell (p:=⟨g,(p+1+1)*9,none⟩) hgb).trans k0;have j1:=(lX.cell (p:=⟨g,(p+1+1)*9+1,none⟩) hgb).trans k1;have j2:=(lX.cell (p:=⟨g,(p+1+1)*9+2,none⟩) hgb).trans k2;have Bo:=(lX.cell (p:=⟨g,(p+1+1)*9+3,none⟩) hgb).trans k3;have Hg:=(lX.cell (p:=⟨g,(p+1+1)*9+4,none⟩) hgb).trans k4;have Hl:=(lX.cell (p:=⟨g,(p+1+1)*9+5,none⟩) hgb).trans k5;have Hm:=(lX.cell (p:=⟨g,(p+1+1)*9+6,none⟩) hgb).trans k6;have j7:=(lX.cell (p:=⟨g,(p+1+1)*9+7,none⟩) hgb).trans k7;have j8:=(lX.cell (p:=⟨g,(p+1+1)*9+8,none⟩) hgb).trans k8;have aT:=aN.zero w4;obtain⟨x0,x1,x2,x3,x4,x5,x6,x7,av⟩:=aT.cells;obtain⟨f0,f1,f2,f3,f4,f5,f6,f7,f8⟩:=aT.bR;clear aT lX;obtain⟨q,hq⟩:∃q,p+1+1=q:=⟨_,rfl⟩;rw[hq]at c1 k0 k1 k2 k3 k4 k5 k6 k7 k8 a1 j0 j1 j2 Bo Hg Hl Hm j7 j8;have hi1:(0:Int)≤(q:Int):=by omega
   have hi2:(q:Int)<(ts.length:Int):=by omega
   clear c2 c3 c4 hq
   go_region
   have hB:Below w4.heap.size w4 (w4.alloc (.cells (tA u (.int .i64 u.pos)) 113)).drew:=((ak _ _).alloc (aj _) _).drew;have gN:aN (w4.alloc (.cells (tA u (.int .i64 u.pos)) 113)).drew w4.heap.size u:=(aN.new w4 u).drew;have bq:=ae (eD.o.below hB);have oU:=ae (oQ.o.below hB oQ.o.lt);have aS:=ae (bS.o.below hB);clear hB oQ bS eD c0 c1 a0 a1 j0 j1 j2 Bo Hg Hl Hm j7 j8 k0 k1 k2 k3 k4 k5 k6 k7 k8 x0 x1 x2 x3 x4 x5 x6 x7 av f0 f1 f2 f3 f4 f5 f6 f7 f8 hgb;generalize hb4:w4.heap.size=b4 at gN ⊢;generalize (w4.alloc (.cells (tA u (.int .i64 u.pos)) 113)).drew=w5 at gN bq oU aS ⊢;clear hb4;obtain⟨x0,x1,x2,x3,x4,x5,x6,x7,av⟩:=gN.cells;obtain⟨y0,y1,y2,y3,y4⟩:=oU.o.facts;have hcs:vs.length+(5+6*deep)≤ts.length+100:=by omega
   by_cases h4:u.kind=4
   · have e4:(u.kind != 4)=false:=by rw[h4];rfl
     have e5:(u.kind == 4)=true:=bB.2 h4;have HI:=ae (Vn t.sh u.sh t.c t.r u.c u.r t.ac t.ar u.ac u.ar w5);cases hs:fI t.dS u.dS
     · have HR:=ae (show jM vs.length t (ts.drop (p+1)) = .error 5 by rw[hR,hs,af (by simp)])
       have HS:=ae (show fI ⟨t.sh,t.c,t.r,t.ac,t.ar⟩ ⟨u.sh,u.c,u.r,u.ac,u.ar⟩=false from hs);rw[HS.o]at HI;clear hR hs h4
       go_wp2_with (first
        | (go_at_call 57;((with_reducible refine HI.o.mono ?_);rintro e w6 ⟨rfl,h1⟩;have eG:=ae (bq.o.below h1);have tX:=ae (BG (aS.o.below h1) 5);clear h1))
        | (go_at_call 78;((with_reducible refine tX.o.mono ?_);rintro e w7 ⟨rfl,h1,h2⟩;have cz:=ae (eG.o.trans h1);have bO:=ae h2;clear h1 h2)))
       go_ret;exact dF.err HR.o (.inl rfl) cz.o (by have:=bO.o;unfold vH at this;rw[ag rfl]at this;exact this) hcs (by omega)
     · have HR:=ae (show jM vs.length t (ts.drop (p+1)) = .ok ([(⟨6,0,⟨#[]⟩,t.dS,u.dS,[]⟩:Nd)],vs.length,ts.drop (p+3))by rw[hR,hs,ag ⟨h4,rfl⟩])
       have HS:=ae (show fI ⟨t.sh,t.c,t.r,t.ac,t.ar⟩ ⟨u.sh,u.c,u.r,u.ac,u.ar⟩=true from hs);rw[HS.o]at HI;have eu:=ae (show p+1+1+1<ts.length from aS.o.fit.next hu (by omega));have gN:=ae gN;clear hR hs h4;go_upto_region 9 with (go_at_call 57;((with_reducible refine HI.o.mono ?_);rintro e w6 ⟨rfl,h1⟩;have eG:=ae (bq.o.below h1);have bU:=ae (aS.o.below h1);have F8:=ae (oU.o.below h1 oU.o.lt);have ug:=ae (gN.o.below h1 gN.o.lt);clear h1))
       clear x0 x1 x2 x3 x4 x5 x6 x7 av y0 y1 y2 y3 y4 aS oU gN bq;obtain⟨c0,c1,c2,c3,c4⟩:=bU.o.facts;have f1:=bU.o.frozen 1;clear c0 c2 c3 c4;rw[show((p+1+1:Nat):Int)=(p:Int)+1+1 from rfl]at c1;go_upto_region 10 with (fail)
       have sG:=ae (show b4≠b from by
        intro e;have h1:=ug.o;unfold aN at h1;rw[e,bU.o.cell]at h1;injection h1 with h1;injection h1 with _ h1;exact absurd h1 (by decide))
       have bO:=ae (bU.o.next eu.o);have Kw:=ae (F8.o.set hw0 1 (.int .i64 (((p+1+1:Nat):Int)+1)));have Ce:=ae (show aN (w6.setCell ⟨b,1,none⟩ (.int .i64 (((p+1+1:Nat):Int)+1))) b4 u from by unfold aN;rw[gy _ _ _ _ (by exact sG.o)];exact ug.o);have cz:=ae (eG.o.setCell 1 (.int .i64 (((p+1+1:Nat):Int)+1)));clear c1 f1 bU F8 ug eG;rw[show((p+1+1:Nat):Int)=(p:Int)+1+1 from rfl]at bO Kw Ce cz;generalize w6.setCell ⟨b,1,none⟩ (.int .i64 ((p:Int)+1+1+1))=w7 at bO Kw Ce cz ⊢;obtain⟨x0,x1,x2,x3,x4,x5,x6,x7,av⟩:=Ce.o.cells;obtain⟨y0,y1,y2,y3,y4⟩:=Kw.o.facts;have HA:=ae (show Calls Tryz.prog 115 #[.pointer (some ⟨b,0,none⟩),.agg #[.int .i64 6,.int .i64 0,.string ⟨#[]⟩,.string t.sh,.int .i64 t.c,.int .i64 t.r,.bool t.ac,.bool t.ar,.string u.sh,.int .i64 u.c,.int .i64 u.r,.bool u.ac,.bool u.ar,.slice none 0 0]] w7 _ from qf bO.o (aK.leaf (⟨6,0,⟨#[]⟩,t.dS,u.dS,[]⟩:Nd)) (yC _ _ _ rfl) (by omega) (.slice none 0 0) rfl (⟨6,0,⟨#[]⟩,t.dS,u.dS,[]⟩:Nd) rfl);go_wp2_with (go_at_call 115;((with_reducible refine HA.o.mono ?_);rintro e w8 ⟨h1,rfl,bu,h3⟩;have nG:=ae (cz.o.trans h1);have gP:=ae h3;clear h1 h3))
       go_ret;exact dF.leaf HR.o nG.o rfl gP.o (by omega)
   · have e4:(u.kind != 4)=true:=by rw[bne_iff_ne];exact h4
     have e5:(u.kind == 4)=false:=aA.2 h4;have HR:=ae (show jM vs.length t (ts.drop (p+1)) = .error 5 by rw[hR,af (fun h=>h4 h.1)]);have tX:=ae (BG aS.o 5);clear hR h4;go_wp2_with (go_at_call 78;((with_reducible refine tX.o.mono ?_);rintro e w7 ⟨rfl,h1,h2⟩;have cz:=ae (bq.o.trans h1);have bO:=ae h2;clear h1 h2))
     go_ret;exact dF.err HR.o (.inl rfl) cz.o (by have:=bO.o;unfold vH at this;rw[ag rfl]at this;exact this) hcs (by omega)
theorem dF.zw {sl:Nat}{res:eT}{w w':World}{b:Nat}{tv:Value}{ts:List ah}{deep p':Nat}{d:Int}{vs us:List aK}{bu:Value}{c x:Int}(hr:res = .error c)(hc:c=5∨c=6)(hf:Fr w w' b)
 (hu:∀u∈us,∀g,u.aY.ownBlock=some g→w.heap.size≤g) (h:bF w' b tv ts p' d c bu (vs++us)) (hs:(vs++us).length+sl≤ts.length+100) (hd:(sl:Int)≤d+100∧d≤100):dF sl res w b tv ts deep vs (.returned (.int .i64 x)) w' :=
 ⟨hf,.inl ⟨c,hr,hc,⟨x,rfl⟩,p',d,bu,us,hu,h,hs,hd⟩⟩
theorem ahk (f:Nat)(IH:∀g,g≤f→Eg g)(name:ByteArray){w:World}{b:Nat}{tv:Value}{ts:List ah}{p deep:Nat}{nv:Value}{vs:List aK}(h:bF w b tv ts p (deep:Int) 0 nv vs)(uE:vs.length≤p)(oz:deep≤12)(hnx:p+1<ts.length)(res:eT)(au:Ji f deep vs.length name (ts.drop (p+1))=some res) :
 Calls Tryz.prog 162 #[.pointer (some ⟨b,0,none⟩),.string name] w (dF (5+6*deep) res w b tv ts deep vs):=by
 unfold Ji at au;have q1:=Ac name ⟨#[84,82,85,69]⟩;have q2:=Ac name ⟨#[70,65,76,83,69]⟩;rw[HV]at q1;rw[Hz]at q2;have kW:=h.few;have hlt:=h.lt;have hbl:=h.blt;obtain⟨c0,c1,c2,c3,c4⟩:=h.facts;have f1:=h.frozen 1;have bK:=ae (h.next hnx);have kQ:=ae ((Fr.refl w b).setCell 1 (.int .i64 ((p:Int)+1)));have hcs:vs.length+(5+6*deep)≤ts.length+100:=by omega
 clear c0 c2 c3 c4 h;go_enter Tryz.func162,Tryz.ntmps162;go_upto_region 2 with (fail)
 generalize w.setCell ⟨b,1,none⟩ (.int .i64 ((p:Int)+1))=w1 at bK kQ ⊢;clear c1 f1;by_cases h1:name=⟨#[84,82,85,69]⟩
 · rw[aR h1]at q1
   rw[ag h1]at au;injection au with au;have HR:=ae au.symm;have HA:=ae (show Calls Tryz.prog 115 #[.pointer (some ⟨b,0,none⟩),.agg #[.int .i64 3,.int .i64 1,.string ⟨#[]⟩,.string ⟨#[]⟩,.int .i64 0,.int .i64 0,.bool false,.bool false,.string ⟨#[]⟩,.int .i64 0,.int .i64 0,.bool false,.bool false,.slice none 0 0]] w1 _ from qf bK.o (aK.leaf { Nd.zero with kind:=3,num:=1 }) (yC _ _ _ rfl) (by omega) (.slice none 0 0) rfl { Nd.zero with kind:=3,num:=1 } rfl);clear au h1 q2;go_wp2_with (go_at_call 115;((with_reducible refine HA.o.mono ?_);rintro e w7 ⟨h1,rfl,bu,h3⟩;have cz:=ae (kQ.o.trans h1);have bO:=ae h3;clear h1 h3))
   go_ret;exact dF.leaf HR.o cz.o rfl bO.o (by omega)
 rw[aV h1]at q1;rw[af h1]at au;by_cases h2:name=⟨#[70,65,76,83,69]⟩
 · rw[aR h2]at q2
   rw[ag h2]at au;injection au with au;have HR:=ae au.symm;have HA:=ae (show Calls Tryz.prog 115 #[.pointer (some ⟨b,0,none⟩),.agg #[.int .i64 3,.int .i64 0,.string ⟨#[]⟩,.string ⟨#[]⟩,.int .i64 0,.int .i64 0,.bool false,.bool false,.string ⟨#[]⟩,.int .i64 0,.int .i64 0,.bool false,.bool false,.slice none 0 0]] w1 _ from qf bK.o (aK.leaf { Nd.zero with kind:=3 }) (yC _ _ _ rfl) (by omega) (.slice none 0 0) rfl { Nd.zero with kind:=3 } rfl);clear au h1 h2;go_wp2_with (go_at_call 115;((with_reducible refine HA.o.mono ?_);rintro e w7 ⟨h1,rfl,bu,h3⟩;have cz:=ae (kQ.o.trans h1);have bO:=ae h3;clear h1 h3))
   go_ret;exact dF.leaf HR.o cz.o rfl bO.o (by omega)
 rw[aV h2]at q2;rw[af h2]at au;clear h1 h2;have HS:=ae (yI bK.o ⟨#[40]⟩);rw[aR rfl,gV]at HS;cases hs:ay ⟨#[40]⟩ (ts.drop (p+1))
 · rw [hs,af (by decide)]at au
   injection au with au;have HR:=ae au.symm;rw[hs]at HS;clear au hs
   go_wp2_with (first
    | (go_at_call 114;((with_reducible refine HS.o.mono ?_);rintro e w2 ⟨rfl,h1⟩;have bT:=ae (kQ.o.below h1);have tX:=ae (BG (bK.o.below h1) 5);clear h1))
    | (go_at_call 78;((with_reducible refine tX.o.mono ?_);rintro e w7 ⟨rfl,h1,h2⟩;have cz:=ae (bT.o.trans h1);have bO:=ae h2;clear h1 h2)))
   go_ret;exact dF.err HR.o (.inl rfl) cz.o (bF.MX bO.o) hcs (by omega)
 have LH:=zS bK.o hs;rw[hs,ag rfl]at au;rw[hs]at HS;clear hs;go_upto_region 9 with (go_at_call 114;((with_reducible refine HS.o.mono ?_);rintro e w2 ⟨rfl,h1⟩;have bT:=ae (kQ.o.below h1);have dm:=ae (bK.o.below h1);clear h1))
 have HO:=ae (BH dm.o oz LH);unfold Ct at au;have hz2:=bT.o.size;have akw:=dm.o.blt;have HOW:=ae (show Own (aJ .i64) 3 w2 (b+1) (.slice none 0 0) []from Own.nil _ _ _ _);by_cases hd:12≤deep
 · rw [ag hd]at au
   injection au with au;have HR:=ae au.symm;clear au
   go_upto_region 17 with (first
    | (go_at_call 142;((with_reducible refine HO.o.mono ?_);rintro e w3 ⟨rfl,h1,h2⟩;rcases h2 with ⟨-,h2⟩|⟨h2, -⟩;rotate_left;exact absurd hd h2;have dY:=ae (bT.o.trans h1);have bg:=ae h2;have Au:=ae (Dk h2 ⟨#[41]⟩);obtain⟨c0,c1,c2,c3,c4⟩:=h2.facts;clear c0 c1 c2 c4 h1 h2))
    | (go_at_call 160;((with_reducible refine Au.o.mono ?_);rintro e w4 ⟨rfl,h1,h2⟩;have eD:=ae (dY.o.trans h1);have bS:=ae (show bF w4 b tv ts (p+1) (deep:Int) 6 nv vs from(by rcases h2 with ⟨_,h2⟩|⟨h2,_⟩|⟨h2,_⟩;exact h2;exact absurd h2 (by decide);exact absurd h2 (by decide)));clear h1 h2)))
   have kS:=ae (show(⟨{ Nd.zero with kind:=7,text:=name,kids:=[] },none⟩:aK).n={ Nd.zero with kind:=7,text:=name,kids:=[] }from rfl);have nI:=ae (show(⟨{ Nd.zero with kind:=7,text:=name,kids:=[] },none⟩:aK).aY = .slice none 0 0 from rfl);obtain⟨c0,c1,c2,c3,c4⟩:=bS.o.facts;have f2:=bS.o.frozen 2;clear c0 c1 c3 c4;have hd1 : -9223372036854775808≤(deep:Int) - 1:=by omega
   have hd2:(deep:Int) - 1≤9223372036854775807:=by omega
   go_upto_region 18 with (fail)
   have q8:=ae (bS.o.qO ((deep:Int) - 1));have qW:=ae (eD.o.setCell 2 (.int .i64 ((deep:Int) - 1)));have qX:=ae (show Own (aJ .i64) 3 (w4.setCell ⟨b,2,none⟩ (.int .i64 ((deep:Int) - 1))) (b+1) (.slice none 0 0) []from(show Own (aJ .i64) 3 w4 (b+1) (.slice none 0 0) []from Own.nil _ _ _ _).keep fun j hj _ _=>gy _ _ _ _ (by show j≠b;omega));generalize w4.setCell ⟨b,2,none⟩ (.int .i64 ((deep:Int) - 1))=oK at q8 qW qX ⊢;clear c2 f2;have HA:=ae (show Calls Tryz.prog 115 #[.pointer (some ⟨b,0,none⟩),.agg #[.int .i64 7,.int .i64 0,.string name,.string ⟨#[]⟩,.int .i64 0,.int .i64 0,.bool false,.bool false,.string ⟨#[]⟩,.int .i64 0,.int .i64 0,.bool false,.bool false,(.slice none 0 0)]] oK _ from qf q8.o ⟨{ Nd.zero with kind:=7,text:=name,kids:=[] },none⟩ (by rw[nI.o,kS.o];exact qX.o) (by omega) _ nI.o { Nd.zero with kind:=7,text:=name,kids:=[] } kS.o);go_wp2_with (go_at_call 115;((with_reducible refine HA.o.mono ?_);rintro e w8 ⟨h1,rfl,zK,h3⟩;have nG:=ae (qW.o.trans h1);have gP:=ae h3;clear h1 h3))
   go_ret;refine dF.zw (us:=[⟨{ Nd.zero with kind:=7,text:=name,kids:=[] },none⟩]) HR.o (.inr rfl) nG.o ?_ gP.o (by simp;omega) (by omega);intro u hu g hg;rw[gM.1 hu]at hg;cases hg
 · rw [af hd,List.tail_drop]at au
   have vw:=ae au;have sw:=ae IH;obtain⟨eb,jW,df⟩:=Elem.kid;have jw:=ae df;have hdp:deep+1≤12:=by omega
   clear au IH df;go_upto_region 10 with (go_at_call 142;((with_reducible refine HO.o.mono ?_);rintro e w3 ⟨rfl,h1,h2⟩;rcases h2 with ⟨h2, -⟩|⟨-,h2⟩;exact absurd h2 hd;have dY:=ae (bT.o.trans h1);have bg:=ae h2;clear h1 h2))
   have HIS:=ae (yI bg.o ⟨#[41]⟩);rw[aR rfl,gV]at HIS;obtain⟨c0,c1,c2,c3,c4⟩:=bg.o.facts;clear c0 c1 c2 c4 HO dm HOW HS;have hz3:=dY.o.size;have akx:=bg.o.blt;cases hs:ay ⟨#[41]⟩ (ts.drop (p+1+1))
   rotate_left
   · have hr:=vw.o
     rw[hs,ag rfl]at hr;have hr:uw vs.length name [] [] (ts.drop (p+1+1))=some res:=hr;unfold uw at hr;rw[hs,ag rfl,List.tail_drop]at hr;injection hr with hr;have HR:=ae hr.symm;have yz:=zS bg.o hs;rw[hs]at HIS;have Yt:=ae hs;clear hr hs
     go_upto_region 17 with (first
      | (go_at_call 114;((with_reducible refine HIS.o.mono ?_);rintro e w4 ⟨rfl,h1⟩;have eD:=ae (dY.o.below h1);have Au:=ae (Dk (bg.o.below h1) ⟨#[41]⟩);clear h1))
      | (go_at_call 160;((with_reducible refine Au.o.mono ?_);rintro e w5 ⟨rfl,h1,h2⟩;have bq:=ae (eD.o.trans h1);have aS:=ae (show bF w5 b tv ts (p+1+1+1) ((deep+1:Nat):Int) 0 nv vs from(by rcases h2 with ⟨h2,_⟩|⟨_,_,h2⟩|⟨_,h2,_⟩;exact absurd rfl h2;exact h2;rw[Yt.o]at h2;cases h2));clear h1 h2)))
     rw[show((deep+1:Nat):Int)=(deep:Int)+1 from rfl]at aS;have kS:=ae (show(⟨{ Nd.zero with kind:=7,text:=name,kids:=[] },none⟩:aK).n={ Nd.zero with kind:=7,text:=name,kids:=[] }from rfl);have nI:=ae (show(⟨{ Nd.zero with kind:=7,text:=name,kids:=[] },none⟩:aK).aY = .slice none 0 0 from rfl);obtain⟨c0,c1,c2,c3,c4⟩:=aS.o.facts;have f2:=aS.o.frozen 2;clear c0 c1 c3 c4;have hd1 : -9223372036854775808≤(deep:Int)+1 - 1:=by omega
     have hd2:(deep:Int)+1 - 1≤9223372036854775807:=by omega
     go_upto_region 18 with (fail)
     have q8:=ae (aS.o.qO ((deep:Int)));have qW:=ae (bq.o.setCell 2 (.int .i64 ((deep:Int))));have qX:=ae (show Own (aJ .i64) 3 (w5.setCell ⟨b,2,none⟩ (.int .i64 ((deep:Int)))) (b+1) (.slice none 0 0) []from(show Own (aJ .i64) 3 w5 (b+1) (.slice none 0 0) []from Own.nil _ _ _ _).keep fun j hj _ _=>gy _ _ _ _ (by show j≠b;omega));generalize w5.setCell ⟨b,2,none⟩ (.int .i64 ((deep:Int)))=oK at q8 qW qX ⊢;clear c2 f2;have HA:=ae (show Calls Tryz.prog 115 #[.pointer (some ⟨b,0,none⟩),.agg #[.int .i64 7,.int .i64 0,.string name,.string ⟨#[]⟩,.int .i64 0,.int .i64 0,.bool false,.bool false,.string ⟨#[]⟩,.int .i64 0,.int .i64 0,.bool false,.bool false,(.slice none 0 0)]] oK _ from qf q8.o ⟨{ Nd.zero with kind:=7,text:=name,kids:=[] },none⟩ (by rw[nI.o,kS.o];exact qX.o) (by omega) _ nI.o { Nd.zero with kind:=7,text:=name,kids:=[] } kS.o);go_wp2_with (go_at_call 115;((with_reducible refine HA.o.mono ?_);rintro e w8 ⟨h1,rfl,zK,h3⟩;have nG:=ae (qW.o.trans h1);have gP:=ae h3;clear h1 h3))
     go_ret;refine⟨nG.o,.inr ⟨_,_,_,HR.o,rfl,p+1+1+1,zK,[⟨{ Nd.zero with kind:=7,text:=name,kids:=[] },none⟩],rfl,rfl, ?_,gP.o,by simp;omega⟩⟩;intro u hu g hg;rw[gM.1 hu]at hg;cases hg
   have hr:=vw.o;rw[hs,af (by decide)]at hr;have iB:=ae hr;rw[hs]at HIS;clear hr hs vw;go_upto_region 12 with (go_at_call 114;((with_reducible refine HIS.o.mono ?_);rintro e w4 ⟨rfl,h1⟩;have eD:=ae (dY.o.below h1);have bS:=ae (bg.o.below h1);clear h1))
   clear c3
   go_loopw [5] (fun Ml wr=>∃(aY:Value)(g:Nat)(ns:List Nd)(ks:List Int)(p':Nat)(bu:Value)(us:List aK),aY=Ml∧g≤f∧ks.length≤us.length∧us.length=ns.length∧vs.length+us.length≤p' ∧
    Hid (iX (iq g (deep+1) vs.length ns ks (ts.drop p')) (uw vs.length name)=some res) ∧
    Hid (us.map aK.n=ns)∧Hid (∀u∈us,∀j,u.aY.ownBlock=some j→w.heap.size≤j)∧Hid (∀u∈vs++us,∀j,u.aY.ownBlock=some j→aY.ownBlock≠some j) ∧
    Hid (Own (aJ .i64) 3 wr w.heap.size aY ks)∧Hid (bF wr b tv ts p' ((deep+1:Nat):Int) 0 bu (vs++us))∧Hid (Fr w wr b))
    (fun _ wr=>xy b ts.length wr)
   case atStart =>
    exact⟨.slice none 0 0,f,[],[],p+1+1,nv,[],rfl,aj _,aj _,rfl,by simp;omega,iB,ae rfl,ae (by simp),ae (by intro u _ j _ e;cases e),ae (Own.nil _ _ _ _),by rw[gL];exact bS,eD⟩
   case round =>
    clear HIS iB dY bg eD bS bT;obtain⟨aY,g,ns,ks,p',bu,us,rfl,hg,hkl,Bj,hcn,HM,HU,HK,HJ,kF,iV,HF⟩:=hrel;have ab6:=iV.o.lt;have hlen:(vs++us).length=vs.length+us.length:=ax;have FY:=ae (iV.o.xy ts.length);have Pz:=ae HF.o.size;obtain⟨c0,c1,c2,c3,c4⟩:=iV.o.facts;clear c0 c1 c2 c4;have hA:=HM.o
    match g,hg,hA with
    | 0,_,hA=>unfold iq iX at hA;cases hA
    | g+1,hg,hA =>
    rw[pO,Qi]at hA;have jX:vs.length+ns.length=(vs++us).length:=by rw[hlen,Bj]
    rw[jX]at hA;rcases eO hA with ⟨c,h1,rfl⟩|⟨ms,a,r,h1,h2⟩
    · have HL:=ae (show Calls Tryz.prog 77 #[.pointer (some ⟨b,0,none⟩),.int .i64 0] wr (dF (0+6*(deep+1)) (.error c) wr b tv ts (deep+1) (vs++us))from sw.o g (by omega) 0 (deep+1) _ wr b tv ts p' bu (vs++us) (by omega) (by omega) iV.o (by omega) h1)
      clear h1 hA HM
      go_upto_region 14 with (first
       | (go_at_call 77;((with_reducible refine HL.o.mono ?_);intro e w5 ho;obtain⟨hf,hc,x,rfl,p5,d5,o6,dV,hk5,iY,EB,hd5,RF⟩:=ho.bad rfl;have bq:=ae (HF.o.trans hf);have vk:=ae (kF.o.fr hf hbl (by decide));have HC:=ae hc;have aS:=ae iY;have jQ:=ae hk5;have xX:=ae hf.size;clear hf hc ho iY hk5))
       | (at_builtin;refine xG jw.o (aJ .i64) rfl (.tmp 45) (.tmp 48) rfl w.heap.size aY ks rfl (vk.o.alloc _) ⟨w5.heap.size,0,none⟩ 1 1 [x] rfl rfl ?_ ?_ ?_ ?_ ?_;exact gD _ _ _ rfl;exact bN (Nat.mul_le_mul_left _ jW) (by omega);(unfold maxLen;omega);(have:=bq.o.size;simp;omega);intro rJ w6 h1 h2 h3;have sH:=ae h1;have su:=ae h2;have HAT:=ae h3;clear h1 h2 h3))
      have iy:Below w5.heap.size w5 (w5.alloc (.cells #[.int .i64 x] 3)):=(ak _ _).alloc (aj _) _;have vS:=vk.o.alloc (.cells #[.int .i64 x] 3);have Mc:=bq.o.size
      have wK:=ae (show ∀u∈(vs++us)++dV,∀j,u.aY.ownBlock=some j→aY.ownBlock≠some j from by
       intro u hu j hj;rcases dQ.1 hu with hu|hu
       · exact HJ.o u hu j hj
       · intro e
         have h3:=jQ.o u hu j hj;have h4:=(kF.o.kT j e).2.1;omega)
      have bU:=ae ((aS.o.below iy).kids su.o (by
       intro j e;obtain⟨q1,q2,cur,q3⟩:=vS.kT j e;refine⟨by omega, ?_,fun u hu e2=>wK.o u hu j e2 e⟩;rintro⟨QC,fr,e2⟩;rw[q3]at e2;injection e2 with e2;injection e2 with _ e2;exact absurd e2 (by decide)))
      have eG:=ae ((bq.o.below iy).row su.o (by
       intro j e;obtain⟨q1,q2,cur,q3⟩:=vS.kT j e;exact⟨by omega,.inl q1⟩))
      have sN:=ae (yI bU.o ⟨#[44]⟩);rw[aV (show ¬ c=0 by rcases HC.o with h|h <;> omega),Bool.false_and]at sN;have Kr:=ae (fun w7 (h1:Below w6.heap.size w6 w7)=>Dk (bU.o.below h1) ⟨#[41]⟩);clear iy vS su HAT wK vk HF iV HL
      go_upto_region 17 with (first
       | (go_at_call 114;((with_reducible refine sN.o.mono ?_);rintro e w7 ⟨rfl,h1⟩;have cz:=ae (eG.o.below h1);have HW:=ae (Kr.o _ h1);have sI:=ae (sH.o.below h1 (aj _));clear h1))
       | (go_at_call 160;((with_reducible refine HW.o.mono ?_);rintro e iG ⟨rfl,h1,h2⟩;have yT:=ae (cz.o.trans h1);have uh:=ae (sI.o.fr h1 hbl (by decide));have mR:=ae (show bF iG b tv ts p5 d5 c o6 ((vs++us)++dV)from(by rcases h2 with ⟨_,h2⟩|⟨h2,_⟩|⟨h2,_⟩;exact h2;(exfalso;rcases HC.o with h|h <;> omega);(exfalso;rcases HC.o with h|h <;> omega)));clear h1 h2)))
      obtain ⟨v,rG,hvk⟩:∃v:aK,v.n={ Nd.zero with kind:=7,text:=name,kids:=ks++[x] }∧v.aY=rJ:=by
       rcases uh.o.shape with ⟨rfl,h0⟩|⟨g1,cap,rfl,_⟩
       · exact absurd h0 (by simp)
       · exact⟨⟨_,some (g1,cap)⟩,rfl,rfl⟩
      have kS:=ae rG;have nI:=ae hvk;clear rG hvk;obtain⟨g1,fu,kI, -, -, -, -⟩:=Own.some uh.o (by simp);obtain⟨n1,hn1⟩:∃n1,(ks++[x]).length=n1:=⟨_,rfl⟩;rw[hn1]at kI;subst kI
      have GU:∀u∈us++(dV++[v]),∀j,u.aY.ownBlock=some j→w.heap.size≤j:=by
       intro u hu j hj;rcases dQ.1 hu with hu|hu
       · exact HK.o u hu j hj
       · rcases dQ.1 hu with hu|hu
         · exact bN Pz.o (jQ.o u hu j hj)
         · rw[gM.1 hu,nI.o]at hj
           exact(uh.o.kT j hj).1
      have FW:=ae GU;clear GU hn1;obtain⟨c0,c1,c2,c3,c4⟩:=mR.o.facts;have f2:=mR.o.frozen 2;clear c0 c1 c3 c4;have hd1 : -9223372036854775808≤d5 - 1:=by omega
      have hd2:d5 - 1≤9223372036854775807:=by omega
      go_upto_region 18 with (fail)
      have q8:=ae (mR.o.qO (d5 - 1));have qW:=ae (yT.o.setCell 2 (.int .i64 (d5 - 1)));have qX:=ae (show Own (aJ .i64) 3 (iG.setCell ⟨b,2,none⟩ (.int .i64 (d5 - 1))) (b+1) (.slice (some ⟨g1,0,none⟩) n1 fu) (ks++[x])from(uh.o.mono (show b+1≤w.heap.size by omega)).keep fun j hj _ _=>gy _ _ _ _ (by show j≠b;omega));generalize iG.setCell ⟨b,2,none⟩ (.int .i64 (d5 - 1))=oK at q8 qW qX ⊢;clear c2 f2;have HA:=ae (show Calls Tryz.prog 115 #[.pointer (some ⟨b,0,none⟩),.agg #[.int .i64 7,.int .i64 0,.string name,.string ⟨#[]⟩,.int .i64 0,.int .i64 0,.bool false,.bool false,.string ⟨#[]⟩,.int .i64 0,.int .i64 0,.bool false,.bool false,(.slice (some ⟨g1,0,none⟩) n1 fu)]] oK _ from qf q8.o v (by rw[nI.o,kS.o];exact qX.o) (by omega) _ nI.o { Nd.zero with kind:=7,text:=name,kids:=(ks++[x]) } kS.o);go_wp2_with (go_at_call 115;((with_reducible refine HA.o.mono ?_);rintro e w8 ⟨h1,rfl,zK,h3⟩;have nG:=ae (qW.o.trans h1);have gP:=ae h3;clear h1 h3))
      go_ret;refine dF.zw (us:=us++(dV++[v])) rfl HC.o nG.o FW.o (by rw[← bQ, ← bQ];exact gP.o) (by simp only[ax,fo]at EB ⊢;omega) (by omega)
    · have HL:=ae (show Calls Tryz.prog 77 #[.pointer (some ⟨b,0,none⟩),.int .i64 0] wr (dF (0+6*(deep+1)) (.ok (ms,a,r)) wr b tv ts (deep+1) (vs++us))from sw.o g (by omega) 0 (deep+1) _ wr b tv ts p' bu (vs++us) (by omega) (by omega) iV.o (by omega) h1)
      have H1:=ae h1;have H2:=ae h2;clear h1 h2 hA HM
      go_upto_region 14 with (first
       | (go_at_call 77;((with_reducible refine HL.o.mono ?_);intro e w5 ho;obtain⟨hf,rfl,p5,o6,dV,lY,l5,hk5,iY,EB⟩:=ho.sU rfl;have bq:=ae (HF.o.trans hf);have vk:=ae (kF.o.fr hf hbl (by decide));have aS:=ae iY;have HD5:=ae lY;have lD:=ae l5;have jQ:=ae hk5;clear hf ho iY hk5 lY l5))
       | (at_builtin;refine xG jw.o (aJ .i64) rfl (.tmp 45) (.tmp 48) rfl w.heap.size aY ks rfl (vk.o.alloc _) ⟨w5.heap.size,0,none⟩ 1 1 [((a:Nat):Int)] rfl rfl ?_ ?_ ?_ ?_ ?_;exact gD _ _ _ rfl;exact bN (Nat.mul_le_mul_left _ jW) (by omega);(unfold maxLen;omega);(have:=bq.o.size;simp;omega);intro rJ w6 h1 h2 h3;have sH:=ae h1;have su:=ae h2;have HAT:=ae h3;clear h1 h2 h3))
      have iy:Below w5.heap.size w5 (w5.alloc (.cells #[.int .i64 ((a:Nat):Int)] 3)):=(ak _ _).alloc (aj _) _;have vS:=vk.o.alloc (.cells #[.int .i64 ((a:Nat):Int)] 3);have Mc:=bq.o.size;have G7:dV.length=ms.length:=by rw[← lD.o,eF]
      obtain⟨hc1,hc2,hc3⟩:=zu H1.o HD5.o aS.o.lt;have GN:((vs++us)++dV).length=vs.length+us.length+dV.length:=by rw[ax,ax]
      have wK:=ae (show ∀u∈(vs++us)++dV,∀j,u.aY.ownBlock=some j→aY.ownBlock≠some j from by
       intro u hu j hj;rcases dQ.1 hu with hu|hu
       · exact HJ.o u hu j hj
       · intro e
         have h3:=jQ.o u hu j hj;have h4:=(kF.o.kT j e).2.1;omega)
      have bU:=ae ((aS.o.below iy).kids su.o (by
       intro j e;obtain⟨q1,q2,cur,q3⟩:=vS.kT j e;refine⟨by omega, ?_,fun u hu e2=>wK.o u hu j e2 e⟩;rintro⟨QC,fr,e2⟩;rw[q3]at e2;injection e2 with e2;injection e2 with _ e2;exact absurd e2 (by decide)))
      have eG:=ae ((bq.o.below iy).row su.o (by
       intro j e;obtain⟨q1,q2,cur,q3⟩:=vS.kT j e;exact⟨by omega,.inl q1⟩))
      have FT:=ae (show ∀u∈(vs++us)++dV,∀j,u.aY.ownBlock=some j→rJ.ownBlock≠some j from by
       intro u hu j hj;rcases HAT.o with e|e
       · rw[e];exact wK.o u hu j hj
       · rw[e]
         have h4:=((aS.o.nodes.2 u hu).kT j hj).2.1;intro e2;injection e2 with e2;simp at e2;omega)
      have Ep:∀u∈us++dV,∀j,u.aY.ownBlock=some j→w.heap.size≤j:=by
       intro u hu j hj;rcases dQ.1 hu with hu|hu
       · exact HK.o u hu j hj
       · exact bN Pz.o (jQ.o u hu j hj)
      have DR:=ae Ep;have sN:=ae (yI bU.o ⟨#[44]⟩);rw[aR rfl,gV]at sN;have h2:=H2.o;rw[← HD5.o]at h2;clear iy vS su HAT wK vk HF iV H2 HL Ep;cases hs:ay ⟨#[44]⟩ (ts.drop p5)
      rotate_left
      · rw [hs,ag rfl,List.tail_drop]at h2
        have HN:=ae h2;have RZ:=zS bU.o hs;rw[hs]at sN;clear h2 hs;go_upto_region 15 with (go_at_call 114;((with_reducible refine sN.o.mono ?_);rintro e w7 ⟨rfl,h1⟩;have cz:=ae (eG.o.below h1);have sI:=ae (sH.o.below h1 (aj _));have bO:=ae (bU.o.below h1);clear h1))
        obtain⟨c0,c1,c2,c3,c4⟩:=bO.o.facts;have f1:=bO.o.frozen 1;clear c0 c2 c3 c4;go_wp2_with fail
        have gP:=ae (bO.o.next RZ);have X3:=ae (show Own (aJ .i64) 3 (w7.setCell ⟨b,1,none⟩ (.int .i64 ((p5:Int)+1))) w.heap.size rJ (ks++[((a:Nat):Int)])from sI.o.keep fun j hj _ _=>gy _ _ _ _ (by show j≠b;omega));have nG:=ae (cz.o.setCell 1 (.int .i64 ((p5:Int)+1)))
        go_roundw
        case rel =>
         refine⟨rJ,g,ns++ms,ks++[((a:Nat):Int)],p5+1,o6,us++dV,rfl,by omega,by rw[ax,ax,fo];omega,by rw[ax,ax];omega,by rw[ax];omega,HN,ae (by rw[iL,HU.o,lD.o]),DR, ?_,X3, ?_,nG⟩
         · rw[← bQ];exact FT
         · rw[← bQ];exact gP
        case measure =>
         have h1:=gP.o.xy ts.length;rw[FY.o,h1];simp only[if_true];omega
      rw[hs,af (by decide)]at h2;have HN:=ae (show uw vs.length name (ns++ms) (ks++[((a:Nat):Int)]) (ts.drop p5)=some res from h2);rw[hs]at sN;clear h2 hs;have Kr:=ae (fun w7 (h1:Below w6.heap.size w6 w7)=>Dk (bU.o.below h1) ⟨#[41]⟩)
      go_upto_region 17 with (first
       | (go_at_call 114;((with_reducible refine sN.o.mono ?_);rintro e w7 ⟨rfl,h1⟩;have cz:=ae (eG.o.below h1);have HW:=ae (Kr.o _ h1);have sI:=ae (sH.o.below h1 (aj _));clear h1))
       | (go_at_call 160;((with_reducible refine HW.o.mono ?_);rintro e iG ⟨rfl,h1,h2⟩;have yT:=ae (cz.o.trans h1);have uh:=ae (sI.o.fr h1 hbl (by decide));have Kq:=ae h2;clear h1 h2)))
      obtain ⟨v,rG,hvk⟩:∃v:aK,v.n={ Nd.zero with kind:=7,text:=name,kids:=ks++[((a:Nat):Int)] }∧v.aY=rJ:=by
       rcases uh.o.shape with ⟨rfl,h0⟩|⟨g1,cap,rfl,_⟩
       · exact absurd h0 (by simp)
       · exact⟨⟨_,some (g1,cap)⟩,rfl,rfl⟩
      have kS:=ae rG;have nI:=ae hvk;clear rG hvk;obtain⟨g1,fu,kI, -, -, -, -⟩:=Own.some uh.o (by simp);obtain⟨n1,hn1⟩:∃n1,(ks++[((a:Nat):Int)]).length=n1:=⟨_,rfl⟩;rw[hn1]at kI;subst kI
      have FW:=ae (show ∀u∈us++(dV++[v]),∀j,u.aY.ownBlock=some j→w.heap.size≤j from by
       intro u hu j hj;rw[← bQ]at hu;rcases dQ.1 hu with hu|hu
       · exact DR.o u hu j hj
       · rw[gM.1 hu,nI.o]at hj
         exact(uh.o.kT j hj).1)
      clear hn1;have hN:=HN.o;unfold uw at hN;have aci:=aS.o.lt;rw[show((deep+1:Nat):Int)=(deep:Int)+1 from rfl]at Kq;cases hs:ay ⟨#[41]⟩ (ts.drop p5)
      · rw[hs,af (by decide)]at hN
        injection hN with hN;have HR:=ae hN.symm;have mR:=ae (show bF iG b tv ts p5 ((deep:Int)+1) 5 o6 ((vs++us)++dV)from(by rcases Kq.o with ⟨h2,_⟩|⟨_,h2,_⟩|⟨_,_,h2⟩;exact absurd rfl h2;(rw[hs]at h2;cases h2);exact h2));clear hN hs;obtain⟨c0,c1,c2,c3,c4⟩:=mR.o.facts;have f2:=mR.o.frozen 2;clear c0 c1 c3 c4;have hd1 : -9223372036854775808≤(deep:Int)+1 - 1:=by omega
        have hd2:(deep:Int)+1 - 1≤9223372036854775807:=by omega
        go_upto_region 18 with (fail)
        have q8:=ae (mR.o.qO ((deep:Int)));have qW:=ae (yT.o.setCell 2 (.int .i64 ((deep:Int))));have qX:=ae (show Own (aJ .i64) 3 (iG.setCell ⟨b,2,none⟩ (.int .i64 ((deep:Int)))) (b+1) (.slice (some ⟨g1,0,none⟩) n1 fu) (ks++[((a:Nat):Int)])from(uh.o.mono (show b+1≤w.heap.size by omega)).keep fun j hj _ _=>gy _ _ _ _ (by show j≠b;omega));generalize iG.setCell ⟨b,2,none⟩ (.int .i64 ((deep:Int)))=oK at q8 qW qX ⊢;clear c2 f2;have HA:=ae (show Calls Tryz.prog 115 #[.pointer (some ⟨b,0,none⟩),.agg #[.int .i64 7,.int .i64 0,.string name,.string ⟨#[]⟩,.int .i64 0,.int .i64 0,.bool false,.bool false,.string ⟨#[]⟩,.int .i64 0,.int .i64 0,.bool false,.bool false,(.slice (some ⟨g1,0,none⟩) n1 fu)]] oK _ from qf q8.o v (by rw[nI.o,kS.o];exact qX.o) (by omega) _ nI.o { Nd.zero with kind:=7,text:=name,kids:=(ks++[((a:Nat):Int)]) } kS.o);go_wp2_with (go_at_call 115;((with_reducible refine HA.o.mono ?_);rintro e w8 ⟨h1,rfl,zK,h3⟩;have nG:=ae (qW.o.trans h1);have gP:=ae h3;clear h1 h3))
        go_ret;exact dF.zw (us:=us++(dV++[v])) HR.o (.inl rfl) nG.o FW.o (by rw[← bQ, ← bQ];exact gP.o) (by simp only[ax,fo];omega) (by omega)
      rw[hs,ag rfl,List.tail_drop]at hN;injection hN with hN;have HR:=ae hN.symm;have mR:=ae (show bF iG b tv ts (p5+1) ((deep:Int)+1) 0 o6 ((vs++us)++dV)from(by rcases Kq.o with ⟨h2,_⟩|⟨_,_,h2⟩|⟨_,h2,_⟩;exact absurd rfl h2;exact h2;(rw[hs]at h2;cases h2)));clear hN hs;obtain⟨c0,c1,c2,c3,c4⟩:=mR.o.facts;have f2:=mR.o.frozen 2;clear c0 c1 c3 c4;have hd1 : -9223372036854775808≤(deep:Int)+1 - 1:=by omega
      have hd2:(deep:Int)+1 - 1≤9223372036854775807:=by omega
      go_upto_region 18 with (fail)
      have q8:=ae (mR.o.qO ((deep:Int)));have qW:=ae (yT.o.setCell 2 (.int .i64 ((deep:Int))));have qX:=ae (show Own (aJ .i64) 3 (iG.setCell ⟨b,2,none⟩ (.int .i64 ((deep:Int)))) (b+1) (.slice (some ⟨g1,0,none⟩) n1 fu) (ks++[((a:Nat):Int)])from(uh.o.mono (show b+1≤w.heap.size by omega)).keep fun j hj _ _=>gy _ _ _ _ (by show j≠b;omega));generalize iG.setCell ⟨b,2,none⟩ (.int .i64 ((deep:Int)))=oK at q8 qW qX ⊢;clear c2 f2;have HA:=ae (show Calls Tryz.prog 115 #[.pointer (some ⟨b,0,none⟩),.agg #[.int .i64 7,.int .i64 0,.string name,.string ⟨#[]⟩,.int .i64 0,.int .i64 0,.bool false,.bool false,.string ⟨#[]⟩,.int .i64 0,.int .i64 0,.bool false,.bool false,(.slice (some ⟨g1,0,none⟩) n1 fu)]] oK _ from qf q8.o v (by rw[nI.o,kS.o];exact qX.o) (by omega) _ nI.o { Nd.zero with kind:=7,text:=name,kids:=(ks++[((a:Nat):Int)]) } kS.o);go_wp2_with (go_at_call 115;((with_reducible refine HA.o.mono ?_);rintro e w8 ⟨h1,rfl,zK,h3⟩;have nG:=ae (qW.o.trans h1);have gP:=ae h3;clear h1 h3))
      go_ret;refine⟨nG.o,.inr ⟨_,_,_,HR.o,Ny (by simp only[ax];omega),p5+1,zK,us++(dV++[v]),rfl, ?_,FW.o,by rw[← bQ, ← bQ];exact gP.o,by simp only[ax,fo];omega⟩⟩;rw[iL,iL,HU.o,lD.o,jr,List.map_nil,kS.o,bQ]
theorem aht (f:Nat)(IH:∀g,g≤f→Eg g){w:World}{b:Nat}{tv:Value}{ts:List ah}{p deep:Nat}{nv:Value}{vs:List aK}(h:bF w b tv ts p (deep:Int) 0 nv vs)(uE:vs.length≤p)(oz:deep≤12)(res:eT)(au:jF (f+1) deep vs.length (ts.drop p)=some res) :
 Calls Tryz.prog 141 #[.pointer (some ⟨b,0,none⟩)] w (dF (5+6*deep) res w b tv ts deep vs):=by
 have kW:=h.few;have hlt:=h.lt;have hbl:=h.blt;have hcs:vs.length+(5+6*deep)≤ts.length+100:=by omega
 have HP:=ae h;obtain⟨c0,c1,c2,c3,c4⟩:=h.facts;obtain⟨g,cap,t,rfl,ht,hd,hg,k0,k1,k2,k3,k4,k5,k6,k7,k8⟩:=h.tok;rw[hd,l7]at au;have HD:=ae hd;have R3:t.kind≠0→p+1<ts.length:=fun hk=>h.fit.next ht hk
 have lX:Below w.heap.size w (w.alloc (.cells kE 113)):=(ak _ _).alloc (aj _) _;obtain⟨a0,a1, -, -, -⟩:=(h.below lX).facts;have hgb:g<w.heap.size:=by omega
 have j0:=(lX.cell (p:=⟨g,p*9,none⟩) hgb).trans k0;have j1:=(lX.cell (p:=⟨g,p*9+1,none⟩) hgb).trans k1;have j2:=(lX.cell (p:=⟨g,p*9+2,none⟩) hgb).trans k2;have Bo:=(lX.cell (p:=⟨g,p*9+3,none⟩) hgb).trans k3;have Hg:=(lX.cell (p:=⟨g,p*9+4,none⟩) hgb).trans k4;have Hl:=(lX.cell (p:=⟨g,p*9+5,none⟩) hgb).trans k5;have Hm:=(lX.cell (p:=⟨g,p*9+6,none⟩) hgb).trans k6;have j7:=(lX.cell (p:=⟨g,p*9+7,none⟩) hgb).trans k7;have j8:=(lX.cell (p:=⟨g,p*9+8,none⟩) hgb).trans k8;have aT:=aN.zero w;obtain⟨x0,x1,x2,x3,x4,x5,x6,x7,av⟩:=aT.cells;obtain⟨f0,f1,f2,f3,f4,f5,f6,f7,f8⟩:=aT.bR;have hi1:(0:Int)≤(p:Int):=by omega
 have hi2:(p:Int)<(ts.length:Int):=by omega
 have vw:=ae au;have eu:=ae R3;clear aT lX c2 c4 au R3 hd ht h;go_enter Tryz.func141,Tryz.ntmps141;go_upto_region 3 with (fail)
 go_region
 have hB:Below w.heap.size w (w.alloc (.cells (tA t (.int .i64 t.pos)) 113)).drew:=((ak _ _).alloc (aj _) _).drew;have aM:=ae (show aN (w.alloc (.cells (tA t (.int .i64 t.pos)) 113)).drew w.heap.size t from(aN.new w t).drew);have dY:=ae (Fr.of b hB);have bg:=ae (HP.o.below hB);clear hB c0 c1 c3 a0 a1 j0 j1 j2 Bo Hg Hl Hm j7 j8 k0 k1 k2 k3 k4 k5 k6 k7 k8 x0 x1 x2 x3 x4 x5 x6 x7 av f0 f1 f2 f3 f4 f5 f6 f7 f8 hgb hg HP;generalize hb3:w.heap.size=b3 at aM ⊢;generalize (w.alloc (.cells (tA t (.int .i64 t.pos)) 113)).drew=w3 at aM dY bg ⊢;clear hb3;have HS:=ae (yI bg.o ⟨#[40]⟩);rw[aR rfl,gV]at HS;have au:=vw.o;clear vw;cases hs:ay ⟨#[40]⟩ (ts.drop p)
 rotate_left
 · have hnx:=zS bg.o hs
   have hs2:ay ⟨#[40]⟩ (t :: ts.drop (p+1))=true:=by rw[← HD.o];exact hs
   rw[ag hs2]at au;rw[hs]at HS;clear hs hs2;by_cases hdp:12≤deep
   · rw [ag hdp]at au
     injection au with au;have HR:=ae au.symm;clear au
     go_wp2_with (first
      | (go_at_call 114;((with_reducible refine HS.o.mono ?_);rintro e w4 ⟨rfl,h1⟩;have eD:=ae (dY.o.below h1);have HO:=ae (BH (bg.o.below h1) oz hnx);clear h1))
      | (go_at_call 142;((with_reducible refine HO.o.mono ?_);rintro e w5 ⟨rfl,h1,h2⟩;rcases h2 with ⟨-,h2⟩|⟨h2, -⟩;rotate_left;exact absurd hdp h2;have bq:=ae (eD.o.trans h1);have aS:=ae h2;obtain⟨c0,c1,c2,c3,c4⟩:=h2.facts;clear c0 c1 c2 c4 h1 h2)))
     go_ret;exact dF.err HR.o (.inr rfl) bq.o aS.o hcs (by omega)
   · rw [af hdp]at au
     have Ev:deep+1≤12:=by omega
     rcases eO au with ⟨c,h1,rfl⟩|⟨ns,a,r,h1,h2⟩
     · have HI:=ae (fun w2 hps=>IH f (aj _) 0 (deep+1) _ w2 b (.slice (some ⟨g,0,none⟩) ts.length cap) ts (p+1) nv vs (by omega) Ev hps (by omega) h1)
       clear au IH h1
       go_upto_region 10 with (first
        | (go_at_call 114;((with_reducible refine HS.o.mono ?_);rintro e w4 ⟨rfl,h1⟩;have eD:=ae (dY.o.below h1);have HO:=ae (BH (bg.o.below h1) oz hnx);clear h1))
        | (go_at_call 142;((with_reducible refine HO.o.mono ?_);rintro e w5 ⟨rfl,h1,h2⟩;rcases h2 with ⟨h2, -⟩|⟨-,h2⟩;exact absurd h2 hdp;have bq:=ae (eD.o.trans h1);have aS:=ae h2;obtain⟨c0,c1,c2,c3,c4⟩:=h2.facts;have HL:=ae (show Calls Tryz.prog 77 #[.pointer (some ⟨b,0,none⟩),.int .i64 0] w5 (dF (0+6*(deep+1)) (.error c) w5 b (.slice (some ⟨g,0,none⟩) ts.length cap) ts (deep+1) vs)from HI.o w5 h2);clear c0 c1 c2 c4 h1 h2))
        | (go_at_call 77;((with_reducible refine HL.o.mono ?_);intro e w6 ho;obtain⟨hf,hc,x,rfl,p6,d6,Bw,uX,pX,sZ,EC,hd6,abA⟩:=ho.bad rfl;have eG:=ae (bq.o.trans hf);have HC:=ae hc;have bU:=ae sZ;have xX:=ae bq.o.size;have nU:=ae pX;have Au:=ae (Dk sZ ⟨#[41]⟩);clear hf hc ho sZ pX))
        | (go_at_call 160;((with_reducible refine Au.o.mono ?_);rintro e w7 ⟨rfl,h1,h2⟩;have cz:=ae (eG.o.trans h1);have bO:=ae (show bF w7 b (.slice (some ⟨g,0,none⟩) ts.length cap) ts p6 d6 c Bw (vs++uX)from(by rcases h2 with ⟨_,h2⟩|⟨h2,_⟩|⟨h2,_⟩;exact h2;(exfalso;rcases HC.o with h|h <;> omega);(exfalso;rcases HC.o with h|h <;> omega)));clear h1 h2)))
       clear c3;obtain⟨c0,c1,c2,c3,c4⟩:=bO.o.facts;have f2:=bO.o.frozen 2;clear c0 c1 c3 c4;have hd1 : -9223372036854775808≤d6 - 1:=by omega
       have hd2:d6 - 1≤9223372036854775807:=by omega
       go_wp2_with fail
       go_ret;exact dF.zw (us:=uX) rfl HC.o (cz.o.setCell _ _) (fun u hu j hj=>bN xX.o (nU.o u hu j hj)) (bO.o.qO (d6 - 1)) (by omega) (by omega)
     · have HI:=ae (fun w2 hps=>IH f (aj _) 0 (deep+1) _ w2 b (.slice (some ⟨g,0,none⟩) ts.length cap) ts (p+1) nv vs (by omega) Ev hps (by omega) h1)
       have H2:=ae h2;clear au IH h1 h2
       go_upto_region 10 with (first
        | (go_at_call 114;((with_reducible refine HS.o.mono ?_);rintro e w4 ⟨rfl,h1⟩;have eD:=ae (dY.o.below h1);have HO:=ae (BH (bg.o.below h1) oz hnx);clear h1))
        | (go_at_call 142;((with_reducible refine HO.o.mono ?_);rintro e w5 ⟨rfl,h1,h2⟩;rcases h2 with ⟨h2, -⟩|⟨-,h2⟩;exact absurd h2 hdp;have bq:=ae (eD.o.trans h1);have aS:=ae h2;obtain⟨c0,c1,c2,c3,c4⟩:=h2.facts;have HL:=ae (show Calls Tryz.prog 77 #[.pointer (some ⟨b,0,none⟩),.int .i64 0] w5 (dF (0+6*(deep+1)) (.ok (ns,a,r)) w5 b (.slice (some ⟨g,0,none⟩) ts.length cap) ts (deep+1) vs)from HI.o w5 h2);clear c0 c1 c2 c4 h1 h2))
        | (go_at_call 77;((with_reducible refine HL.o.mono ?_);intro e w6 ho;obtain⟨hf,rfl,p6,Bw,uX,CF,EI,pX,sZ,EC⟩:=ho.sU rfl;have eG:=ae (bq.o.trans hf);have bU:=ae sZ;have xX:=ae bq.o.size;have HD6:=ae CF;have F6:=ae EI;have nU:=ae pX;have Au:=ae (Dk sZ ⟨#[41]⟩);clear hf ho sZ pX CF EI))
        | (go_at_call 160;((with_reducible refine Au.o.mono ?_);rintro e w7 ⟨rfl,h1,h2⟩;have cz:=ae (eG.o.trans h1);have Ko:=ae h2;clear h1 h2)))
       clear c3;have h2:=H2.o;rw[← HD6.o]at h2;have R7:=bU.o.lt;rw[show((deep+1:Nat):Int)=(deep:Int)+1 from rfl]at Ko;cases hs:ay ⟨#[41]⟩ (ts.drop p6)
       · rw[hs,af (by decide)]at h2
         injection h2 with h2;have HR:=ae h2.symm;have bO:=ae (show bF w7 b (.slice (some ⟨g,0,none⟩) ts.length cap) ts p6 ((deep:Int)+1) 5 Bw (vs++uX)from(by rcases Ko.o with ⟨h2,_⟩|⟨_,h2,_⟩|⟨_,_,h2⟩;exact absurd rfl h2;(rw[hs]at h2;cases h2);exact h2));clear h2 hs;obtain⟨c0,c1,c2,c3,c4⟩:=bO.o.facts;have f2:=bO.o.frozen 2;clear c0 c1 c3 c4;go_wp2_with fail
         go_ret;exact dF.zw (us:=uX) HR.o (.inl rfl) (cz.o.setCell _ _) (fun u hu j hj=>bN xX.o (nU.o u hu j hj)) (bO.o.qO (deep:Int)) (by omega) (by omega)
       · rw[hs,ag rfl,List.tail_drop]at h2
         injection h2 with h2;have HR:=ae h2.symm;have bO:=ae (show bF w7 b (.slice (some ⟨g,0,none⟩) ts.length cap) ts (p6+1) ((deep:Int)+1) 0 Bw (vs++uX)from(by rcases Ko.o with ⟨h2,_⟩|⟨_,_,h2⟩|⟨_,h2,_⟩;exact absurd rfl h2;exact h2;(rw[hs]at h2;cases h2)));clear h2 hs;obtain⟨c0,c1,c2,c3,c4⟩:=bO.o.facts;have f2:=bO.o.frozen 2;clear c0 c1 c3 c4;go_wp2_with fail
         go_ret;exact⟨cz.o.setCell _ _,.inr ⟨_,_,_,HR.o,rfl,p6+1,Bw,uX,rfl,F6.o,fun u hu j hj=>bN xX.o (nU.o u hu j hj),bO.o.qO (deep:Int),by omega⟩⟩
 have hs2:¬ ay ⟨#[40]⟩ (t :: ts.drop (p+1))=true:=by rw[← HD.o,hs];decide
 rw[af hs2]at au;rw[hs]at HS;clear hs hs2;go_upto_region 12 with (go_at_call 114;((with_reducible refine HS.o.mono ?_);rintro e w4 ⟨rfl,h1⟩;have eD:=ae (dY.o.below h1);have bS:=ae (bg.o.below h1);have qo:=ae (aM.o.below h1 aM.o.lt);clear h1))
 clear HS dY bg aM;obtain⟨x0,x1,x2,x3,x4,x5,x6,x7,av⟩:=qo.o.cells
 have sG:=ae (show b3≠b from by
  intro e;have h1:=qo.o;unfold aN at h1;rw[e,bS.o.cell]at h1;injection h1 with h1;injection h1 with _ h1;exact absurd h1 (by decide))
 obtain⟨kd,hkd⟩:∃kd,t.kind=kd:=⟨_,rfl⟩;rw[hkd]at x0;by_cases k1:t.kind=1
 · have hnx:=eu.o (by omega)
   rw[ag k1]at au;injection au with au;have HR:=ae au.symm;have e1:(kd == 1)=true:=bB.2 (by omega);obtain⟨c0,c1,c2,c3,c4⟩:=bS.o.facts;have f1:=bS.o.frozen 1;clear au k1 hkd IH c0 c2 c3 c4;go_upto_region 14 with (fail)
   have aS:=ae (bS.o.next hnx);have gN:=ae (show aN (w4.setCell ⟨b,1,none⟩ (.int .i64 ((p:Int)+1))) b3 t from by unfold aN;rw[gy _ _ _ _ (by exact sG.o)];exact qo.o);have bq:=ae (eD.o.setCell 1 (.int .i64 ((p:Int)+1)));clear c1 f1 x0 x1 x2 x3 x4 x5 x6 x7 av;generalize w4.setCell ⟨b,1,none⟩ (.int .i64 ((p:Int)+1))=w5 at aS gN bq ⊢;obtain⟨x0,x1,x2,x3,x4,x5,x6,x7,av⟩:=gN.o.cells;have HA:=ae (show Calls Tryz.prog 115 #[.pointer (some ⟨b,0,none⟩),.agg #[.int .i64 1,.int .i64 t.num,.string ⟨#[]⟩,.string ⟨#[]⟩,.int .i64 0,.int .i64 0,.bool false,.bool false,.string ⟨#[]⟩,.int .i64 0,.int .i64 0,.bool false,.bool false,.slice none 0 0]] w5 _ from qf aS.o (aK.leaf { Nd.zero with kind:=1,num:=t.num }) (yC _ _ _ rfl) (by omega) (.slice none 0 0) rfl { Nd.zero with kind:=1,num:=t.num } rfl);go_wp2_with (go_at_call 115;((with_reducible refine HA.o.mono ?_);rintro e w7 ⟨h1,rfl,bu,h3⟩;have cz:=ae (bq.o.trans h1);have bO:=ae h3;clear h1 h3))
   go_ret;exact dF.leaf HR.o cz.o rfl bO.o (by omega)
 have e1:(kd == 1)=false:=aA.2 (by omega);by_cases k2:t.kind=2
 · have hnx:=eu.o (by omega)
   rw[af k1,ag k2]at au;injection au with au;have HR:=ae au.symm;have e2:(kd == 2)=true:=bB.2 (by omega);obtain⟨c0,c1,c2,c3,c4⟩:=bS.o.facts;have f1:=bS.o.frozen 1;clear au k1 k2 hkd IH c0 c2 c3 c4;go_upto_region 17 with (fail)
   have aS:=ae (bS.o.next hnx);have gN:=ae (show aN (w4.setCell ⟨b,1,none⟩ (.int .i64 ((p:Int)+1))) b3 t from by unfold aN;rw[gy _ _ _ _ (by exact sG.o)];exact qo.o);have bq:=ae (eD.o.setCell 1 (.int .i64 ((p:Int)+1)));clear c1 f1 x0 x1 x2 x3 x4 x5 x6 x7 av;generalize w4.setCell ⟨b,1,none⟩ (.int .i64 ((p:Int)+1))=w5 at aS gN bq ⊢;obtain⟨x0,x1,x2,x3,x4,x5,x6,x7,av⟩:=gN.o.cells;have HA:=ae (show Calls Tryz.prog 115 #[.pointer (some ⟨b,0,none⟩),.agg #[.int .i64 2,.int .i64 0,.string t.text,.string ⟨#[]⟩,.int .i64 0,.int .i64 0,.bool false,.bool false,.string ⟨#[]⟩,.int .i64 0,.int .i64 0,.bool false,.bool false,.slice none 0 0]] w5 _ from qf aS.o (aK.leaf { Nd.zero with kind:=2,text:=t.text }) (yC _ _ _ rfl) (by omega) (.slice none 0 0) rfl { Nd.zero with kind:=2,text:=t.text } rfl);go_wp2_with (go_at_call 115;((with_reducible refine HA.o.mono ?_);rintro e w7 ⟨h1,rfl,bu,h3⟩;have cz:=ae (bq.o.trans h1);have bO:=ae h3;clear h1 h3))
   go_ret;exact dF.leaf HR.o cz.o rfl bO.o (by omega)
 have e2:(kd == 2)=false:=aA.2 (by omega);by_cases k6:t.kind=6
 · have hnx:=eu.o (by omega)
   rw[af k1,af k2,ag k6]at au;injection au with au;have HR:=ae au.symm;have e6:(kd == 6)=true:=bB.2 (by omega);obtain⟨c0,c1,c2,c3,c4⟩:=bS.o.facts;have f1:=bS.o.frozen 1;clear au k1 k2 k6 hkd IH c0 c2 c3 c4;go_upto_region 20 with (fail)
   have aS:=ae (bS.o.next hnx);have gN:=ae (show aN (w4.setCell ⟨b,1,none⟩ (.int .i64 ((p:Int)+1))) b3 t from by unfold aN;rw[gy _ _ _ _ (by exact sG.o)];exact qo.o);have bq:=ae (eD.o.setCell 1 (.int .i64 ((p:Int)+1)));clear c1 f1 x0 x1 x2 x3 x4 x5 x6 x7 av;generalize w4.setCell ⟨b,1,none⟩ (.int .i64 ((p:Int)+1))=w5 at aS gN bq ⊢;obtain⟨x0,x1,x2,x3,x4,x5,x6,x7,av⟩:=gN.o.cells;have HA:=ae (show Calls Tryz.prog 115 #[.pointer (some ⟨b,0,none⟩),.agg #[.int .i64 4,.int .i64 0,.string ⟨#[]⟩,.string ⟨#[]⟩,.int .i64 0,.int .i64 0,.bool false,.bool false,.string ⟨#[]⟩,.int .i64 0,.int .i64 0,.bool false,.bool false,.slice none 0 0]] w5 _ from qf aS.o (aK.leaf { Nd.zero with kind:=4 }) (yC _ _ _ rfl) (by omega) (.slice none 0 0) rfl { Nd.zero with kind:=4 } rfl);go_wp2_with (go_at_call 115;((with_reducible refine HA.o.mono ?_);rintro e w7 ⟨h1,rfl,bu,h3⟩;have cz:=ae (bq.o.trans h1);have bO:=ae h3;clear h1 h3))
   go_ret;exact dF.leaf HR.o cz.o rfl bO.o (by omega)
 have e6:(kd == 6)=false:=aA.2 (by omega);by_cases k4:t.kind=4
 · have hnx:=eu.o (by omega)
   rw[af k1,af k2,af k6,ag k4]at au;injection au with au;have HA:=ae (ahu bS.o uE oz t hnx);rw[au]at HA;have e4:(kd == 4)=true:=bB.2 (by omega);clear au k1 k2 k6 k4 hkd;go_wp2_with (go_at_call 161;((with_reducible refine HA.o.mono ?_);intro e w7 ho;have oP:=ae (dF.from eD.o ho);obtain⟨c,rfl⟩:=ho.ret;clear ho))
   go_ret;exact oP.o
 have e4:(kd == 4)=false:=aA.2 (by omega);by_cases k3:t.kind=3
 · have hnx:=eu.o (by omega)
   rw[af k1,af k2,af k6,af k4,ag k3]at au;have HA:=ae (ahk f IH t.text bS.o uE oz hnx res au);have e3:(kd == 3)=true:=bB.2 (by omega);clear au k1 k2 k6 k4 k3 hkd IH;go_wp2_with (go_at_call 162;((with_reducible refine HA.o.mono ?_);intro e w7 ho;have oP:=ae (dF.from eD.o ho);obtain⟨c,rfl⟩:=ho.ret;clear ho))
   go_ret;exact oP.o
 have e3:(kd == 3)=false:=aA.2 (by omega);rw[af k1,af k2,af k6,af k4,af k3]at au;injection au with au;have HR:=ae au.symm;have tX:=ae (BG bS.o 5);clear au k1 k2 k6 k4 k3 hkd IH;go_wp2_with (go_at_call 78;((with_reducible refine tX.o.mono ?_);rintro e w7 ⟨rfl,h1,h2⟩;have cz:=ae (eD.o.trans h1);have bO:=ae h2;clear h1 h2))
 go_ret;exact dF.err HR.o (.inl rfl) cz.o (bF.MX bO.o) hcs (by omega)
end Go.Proofs.YtbplbjmmfgjdjaaGreatDoor
