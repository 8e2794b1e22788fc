import Derived.Test.YtdnooocmlhcpkaaGreatDoorMD3
import Derived.Lib.Builder
import Derived.Laws.Externs
import Derived.Lib.UnsafeStr
set_option maxRecDepth 100000
set_option maxHeartbeats 64000000
namespace Go.Proofs.YtdnooocmlhcpkaaGreatDoor
open Go.RowKit
theorem PG {r:cO}(h:gX r=true):r=cO.zero:=by
 unfold gX at h;rw[dE,decide_eq_true_iff,dE]at h;obtain⟨⟨h1,h2,h3⟩,h4,h5⟩:=h;cases r with
 | mk sh c r ac ar =>
   simp only at h1 h2 h3 h4 h5;subst h1 h2 h3;cases ac <;> cases ar <;> simp at h4 h5
   rfl
theorem OP {n:Nd}(h:aD n=true):(n.kind=1∨n.kind=3∨n.num=0)∧(n.kind=2∨n.kind=7∨n.text=⟨#[]⟩)∧(n.kind=5∨n.kind=6∨n.ref=cO.zero)∧(n.kind=6∨n.ae=cO.zero) ∧
 (if n.kind=1 then decide (0≤n.num)
   else if n.kind=3 then decide (n.num=0∨n.num=1)
   else if n.kind=2 then lq (sb n.text)
   else if n.kind=7 then jo n.text
   else if n.kind=5 then gp n.ref
   else if n.kind=6 then gp n.ref&&(gp n.ae&&fP n.ref n.ae)
   else true)=true:=by
 unfold aD at h;by_cases c:(n.kind≠1∧n.kind≠3∧n.num≠0)∨(n.kind≠2∧n.kind≠7∧n.text≠⟨#[]⟩)∨(n.kind≠5∧n.kind≠6∧gX n.ref=false)∨(n.kind≠6∧gX n.ae=false)
 · rw[if_pos c]at h;cases h
 · rw [if_neg c]at h
   refine⟨?_, ?_, ?_, ?_,h⟩
   · apply Decidable.byContradiction;intro d;exact c (.inl ⟨fun e=>d (.inl e),fun e=>d (.inr (.inl e)),fun e=>d (.inr (.inr e))⟩)
   · by_cases d1:n.kind=2
     · exact .inl d1
     · by_cases d2:n.kind=7
       · exact .inr (.inl d2)
       · by_cases d3:n.text=⟨#[]⟩
         · exact .inr (.inr d3)
         · exact absurd (.inr (.inl ⟨d1,d2,d3⟩)) c
   · by_cases d1:n.kind=5
     · exact .inl d1
     · by_cases d2:n.kind=6
       · exact .inr (.inl d2)
       · cases d3:gX n.ref with
         | true=>exact .inr (.inr (PG d3))
         | false=>exact absurd (.inr (.inr (.inl ⟨d1,d2,d3⟩))) c
   · by_cases d2:n.kind=6
     · exact .inl d2
     · cases d3:gX n.ae with
       | true=>exact .inr (PG d3)
       | false=>exact absurd (.inr (.inr (.inr ⟨d2,d3⟩))) c
theorem YL {n:Nd}(h:aD n=true)(h1:1≤n.kind)(h2:n.kind≤6)(hk:n.kids=[])(hm:n.num≤9223372036854775807):∃ts,ow ts n∧∀t∈ts,Tok t:=by
 obtain⟨f1,f2,f3,f4,f5⟩:=OP h;cases n with
 | mk kind num text ref ae kids =>
   simp only at f1 f2 f3 f4 f5 h1 h2 hk hm;subst hk;by_cases c1:kind=1
   · subst c1
     rw[if_pos rfl]at f5;obtain rfl:=(f2.resolve_left (by omega)).resolve_left (by omega);obtain rfl:=(f3.resolve_left (by omega)).resolve_left (by omega);obtain rfl:=f4.resolve_left (by omega);exact⟨[CW num],.num (CW num) rfl,by intro t ht;simp at ht;subst ht;exact aeh (of_decide_eq_true f5) hm⟩
   · rw [if_neg c1]at f5
     by_cases c3:kind=3
     · subst c3
       rw[if_pos rfl]at f5;obtain rfl:=(f2.resolve_left (by omega)).resolve_left (by omega);obtain rfl:=(f3.resolve_left (by omega)).resolve_left (by omega);obtain rfl:=f4.resolve_left (by omega)
       have hw:∀s:ByteArray,s=⟨#[84,82,85,69]⟩∨s=⟨#[70,65,76,83,69]⟩→Tok (u6 s):=by
        intro s hs;rcases hs with rfl|rfl
        · exact Ki (by decide +kernel) (by decide +kernel)
        · exact Ki (by decide +kernel) (by decide +kernel)
       rcases of_decide_eq_true f5 with rfl|rfl
       · exact⟨[u6 ⟨#[70,65,76,83,69]⟩],.no (u6 _) rfl rfl,by intro t ht;simp at ht;subst ht;exact hw _ (.inr rfl)⟩
       · exact⟨[u6 ⟨#[84,82,85,69]⟩],.yes (u6 _) rfl rfl,by intro t ht;simp at ht;subst ht;exact hw _ (.inl rfl)⟩
     · rw [if_neg c3]at f5
       obtain rfl:=(f1.resolve_left c1).resolve_left c3;by_cases c2:kind=2
       · subst c2
         rw[if_pos rfl]at f5;obtain rfl:=(f3.resolve_left (by omega)).resolve_left (by omega);obtain rfl:=f4.resolve_left (by omega);exact⟨[CY text],.text (CY text) rfl,by intro t ht;simp at ht;subst ht;exact aej f5⟩
       · rw [if_neg c2,if_neg (by omega)]at f5
         obtain rfl:=(f2.resolve_left c2).resolve_left (by omega);by_cases c5:kind=5
         · subst c5
           rw[if_pos rfl]at f5;obtain rfl:=f4.resolve_left (by omega);exact⟨[wy ref],.ref (wy ref) rfl,by intro t ht;simp at ht;subst ht;exact Kj f5⟩
         · rw [if_neg c5]at f5
           by_cases c6:kind=6
           · subst c6
             rw[if_pos rfl,dE,dE]at f5;obtain⟨g,gs⟩:=xB (s:=⟨#[58]⟩) (by simp[signs,jv]);refine⟨[wy ref,CX ⟨#[58]⟩,wy ae],.range (wy ref) _ (wy ae) rfl gs rfl f5.2.2, ?_⟩;intro t ht;simp at ht;rcases ht with rfl|rfl|rfl
             · exact Kj f5.1
             · exact g
             · exact Kj f5.2.1
           · obtain rfl:kind=4:=by omega
             obtain rfl:=(f3.resolve_left (by omega)).resolve_left (by omega);obtain rfl:=f4.resolve_left (by omega);exact⟨[CV],.dead CV rfl,by intro t ht;simp at ht;subst ht;exact aee⟩
theorem Kw (n rk d:Nat)(ts:List af)(h:∀t∈ts,Tok t):∃d' ts',Wr n rk d ts d' ts'∧∀t∈ts',Tok t:=by
 by_cases c:n≤rk
 · exact⟨d,ts,.inl ⟨c,rfl,rfl⟩,h⟩
 · obtain ⟨g1,s1⟩:=xB (s:=⟨#[40]⟩) (by simp[signs,jv])
   obtain⟨g2,s2⟩:=xB (s:=⟨#[41]⟩) (by simp[signs,jv]);refine⟨d+1,_,.inr ⟨by omega,rfl,_,_,s1,s2,rfl⟩, ?_⟩;intro t ht;rcases List.mem_cons.1 ht with rfl|ht
   · exact g1
   · rcases List.mem_append.1 ht with ht|ht
     · exact h t ht
     · simp at ht;subst ht;exact g2
inductive FS:Nat→List Nd→List Int→Prop
 | nil:FS 0 [] []
 | snoc (i:Nat)(done:List Nd)(st:List Int)(h:FS i done st)(ns:List Nd)(a:Int)(ts:List af)(rk d:Nat)(g:Sh false i ns [a] ts rk d)(ht:∀t∈ts,Tok t):FS (i+ns.length) (done++ns) (st++[a])
theorem FS.last {i:Nat}{all:List Nd}{st:List Int}{a:Int}(h:FS i all (st++[a])):∃j done ns ts rk d,FS j done st∧all=done++ns∧i=j+ns.length∧Sh false j ns [a] ts rk d∧∀t∈ts,Tok t:=by
 generalize e:st++[a]=st' at h;cases h with
 | nil=>simp at e
 | snoc j done st0 h ns a0 ts rk d g ht =>
   obtain⟨rfl,e2⟩:=List.append_inj' e rfl;injection e2 with e2 _;subst e2;exact⟨j,done,ns,ts,rk,d,h,rfl,rfl,g,ht⟩
theorem FS.ZB {i:Nat}{done:List Nd}{st:List Int}(h:FS i done st)(e:st=[]):done=[]∧i=0:=by
 cases h with
 | nil=>exact⟨rfl,rfl⟩
 | snoc=>simp at e
theorem acQ {base:Nat}{ns:List Nd}{ks:List Int}{ts:List af}{uY d:Nat}(h:Sh true base ns ks ts uY d)(e:ks=[]):ns=[]∧ts=[]:=by
 cases h with
 | none=>exact⟨rfl,rfl⟩
 | one=>cases e
 | and=>simp at e
theorem FS.many:∀(m:Nat)(ks:List Int),ks.length=m→∀(i:Nat)(all:List Nd)(st:List Int),FS i all (st++ks)→∃j done ns ts d,FS j done st∧all=done++ns∧i=j+ns.length∧Sh true j ns ks ts 0 d∧∀t∈ts,Tok t
 | 0,ks,hk,i,all,st,h=>by
   obtain rfl:=l5 hk;rw[fu]at h;exact⟨i,all,[],[],0,h,by simp,by simp,.none i,by simp⟩
 | m + 1,ks,hk,i,all,st,h=>by
   obtain⟨ks',b,rfl⟩:∃ks' b,ks=ks'++[b]:=⟨ks.dropLast,ks.getLast (by rintro rfl;simp at hk),(List.dropLast_concat_getLast _).symm⟩;rw[← bO]at h;obtain⟨j,done,ns,ts,rk,d,h1,rfl,rfl,h2,h3⟩:=h.last;obtain⟨j',done',ns',ts',d',g1,rfl,rfl,g2,g3⟩:=FS.many m ks' (by simpa using hk) j done st h1;by_cases c:ks'=[]
   · subst c
     obtain⟨rfl,rfl⟩:=acQ g2 rfl;exact⟨j',done',ns,ts,d,g1,by simp,by simp,.one j' ns b ts rk d (by simpa using h2),h3⟩
   · obtain ⟨gc,sc⟩:=xB (s:=⟨#[44]⟩) (by simp[signs,jv])
     refine⟨j',done',ns'++ns,_,_,g1,by rw[bO],by rw[aj,Nat.add_assoc],.and j' ns' ns ks' b ts' ts rk d' d g2 c _ sc h2, ?_⟩;intro t ht;rcases List.mem_append.1 ht with ht|ht
     · exact g3 t ht
     · rcases List.mem_cons.1 ht with rfl|ht
       · exact gc
       · exact h3 t ht
theorem Rw:∀(ns:List Nd)(i:Nat)(done:List Nd)(st:List Int),FS i done st→qb st i ns=true→(∀n∈ns,n.num≤9223372036854775807)→∃a,FS (i+ns.length) (done++ns) [a]
 | [],i,done,st,h,ht,_=>by
   have:st.length=1:=of_decide_eq_true ht
   match st,this with
   | [a],_=>exact⟨a,by simpa using h⟩
 | n :: ns, i,done,st,h,ht,hm=>by
   rw[qc,dE,dE,dE,decide_eq_true_iff,decide_eq_true_iff]at ht;obtain⟨h1,h2,h3,h4⟩:=ht;have hst:st=st.take (st.length - n.kids.length)++n.kids:=by conv=>lhs;rw[← List.take_append_drop (st.length - n.kids.length) st,h3]
   generalize st.take (st.length - n.kids.length)=st0 at hst h4;subst hst;unfold fo at h1;rw[dE,Bool.or_eq_true,decide_eq_true_iff,decide_eq_true_iff]at h1;obtain⟨hl,ha⟩:=h1
   have hfs : FS (i+1) (done++[n]) (st0++[(i:Int)]):=by
    by_cases c1:1≤n.kind∧n.kind≤6
    · have hk:n.kids=[]:=by
       unfold jm at ha;rw[if_pos c1]at ha;exact l5 (by omega)
      rw[hk,fu]at h;obtain⟨ts,g1,g2⟩:=YL hl c1.1 c1.2 hk (hm n (by simp));exact .snoc i done st0 h [n] _ ts 5 0 (.leaf i ts n g1) g2
    · obtain ⟨f1,f2,f3,f4,f5⟩:=OP hl
      have e1:n.num=0:=(f1.resolve_left (by omega)).resolve_left (by omega);have e3:n.ref=cO.zero:=(f3.resolve_left (by omega)).resolve_left (by omega);have e4:n.ae=cO.zero:=f4.resolve_left (by omega);rw[if_neg (by omega),if_neg (by omega),if_neg (by omega)]at f5;by_cases c7:n.kind=7
      · rw [if_pos c7]at f5
        unfold jo at f5;rw[dE,dE,dE,decide_eq_true_iff,decide_eq_true_iff]at f5;obtain⟨j,done',ms,ts,d,g1,rfl,rfl,g2,g3⟩:=FS.many _ n.kids rfl i done st0 h;obtain⟨gl,sl⟩:=xB (s:=⟨#[40]⟩) (by simp[signs,jv]);obtain⟨gr,sr⟩:=xB (s:=⟨#[41]⟩) (by simp[signs,jv]);have gn:=Ki f5.1 f5.2.1
        have hn:n={ Nd.zero with kind:=7,text:=(u6 n.text).text,kids:=n.kids }:=by
         cases n;simp only at e1 e3 e4 c7;subst e1 e3 e4 c7;rfl
        have hsh:=Sh.call j ms n.kids ts d g2 (u6 n.text) _ _ rfl f5.2.2.1 f5.2.2.2 sl sr;rw[← hn]at hsh
        have := FS.snoc j done' st0 g1 (ms++[n]) _ _ _ _ hsh (by
         intro t ht;rcases List.mem_cons.1 ht with rfl|ht
         · exact gn
         · rcases List.mem_cons.1 ht with rfl|ht
           · exact gl
           · rcases List.mem_append.1 ht with ht|ht
             · exact g3 t ht
             · simp at ht;subst ht;exact gr)
        rw[aj,fq, ← Nat.add_assoc, ← bO]at this;exact this
      · have e2:n.text=⟨#[]⟩:=(f2.resolve_left (by omega)).resolve_left c7
        by_cases c8:n.kind=8
        · have hk:n.kids.length=1:=by
           unfold jm at ha;rw[if_neg c1,if_neg c7,if_pos c8]at ha;omega
          obtain ⟨b,hb⟩:∃b,n.kids=[b]:=by
           match hq:n.kids,hk with
           | [b],_=>exact⟨b,rfl⟩
          rw[hb]at h;obtain⟨j,done',ms,ts,pX,d,g1,rfl,rfl,g2,g3⟩:=h.last;obtain⟨d',ts',hw,g4⟩:=Kw 4 pX d ts g3;obtain⟨HZ,sm⟩:=xB (s:=⟨#[45]⟩) (by simp[signs,jv])
          have hn:n={ Nd.zero with kind:=8,kids:=[b] }:=by
           cases n;simp only at e1 e2 e3 e4 c8 hb;subst e1 e2 e3 e4 c8 hb;rfl
          have hsh:=Sh.neg j ms b ts pX d g2 _ sm d' ts' hw;rw[← hn]at hsh
          have:=FS.snoc j done' st0 g1 (ms++[n]) _ _ _ _ hsh (by
           intro t ht;rcases List.mem_cons.1 ht with rfl|ht
           · exact HZ
           · exact g4 t ht)
          rw[aj,fq, ← Nat.add_assoc, ← bO]at this;exact this
        · have hk:n.kids.length=2∧9≤n.kind∧n.kind≤19:=by
           unfold jm at ha;rw[if_neg c1,if_neg c7,if_neg c8]at ha;by_cases c9:9≤n.kind∧n.kind≤19
           · rw[if_pos c9]at ha;omega
           · rw[if_neg c9]at ha;omega
          obtain ⟨b,b',hb⟩:∃b b',n.kids=[b,b']:=by
           match hq:n.kids,hk.1 with
           | [b,b'],_=>exact⟨b,b',rfl⟩
          rw[hb,show st0++[b,b']=(st0++[b])++[b']by simp]at h;obtain⟨j2,afi,xm,Rz,lY,d2,k1,rfl,rfl,k2,k3⟩:=h.last;obtain⟨j,done',ms,ts,pX,d,g1,rfl,rfl,g2,g3⟩:=k1.last;obtain⟨o,ho,hko⟩:∃o:Nat,o<11∧n.kind=9+(o:Int):=⟨(n.kind - 9).toNat,by omega,by omega⟩;obtain⟨x1,ts',hw,g4⟩:=Kw (rk o) pX d ts g3;obtain⟨x2,aet,hw2,k4⟩:=Kw (rk o+1) lY d2 Rz k3
          have hin:jv.getD o ⟨#[]⟩∈signs:=by
           have hlen:o<jv.length:=ho;rw[iC,bn hlen,Option.getD_some];exact List.mem_append_right _ (List.getElem_mem _)
          obtain⟨HZ,sm⟩:=xB hin
          have hn:n={ Nd.zero with kind:=9+(o:Int),kids:=[b,b'] }:=by
           cases n;simp only at e1 e2 e3 e4 hko hb;subst e1 e2 e3 e4 hko hb;rfl
          have hsh:=Sh.op j o ho ms xm b b' ts Rz pX lY d d2 g2 k2 _ sm x1 x2 ts' aet hw hw2;rw[← hn]at hsh
          have:=FS.snoc j done' st0 g1 (ms++(xm++[n])) _ _ _ _ hsh (by
           intro t ht;rcases List.mem_append.1 ht with ht|ht
           · exact g4 t ht
           · rcases List.mem_cons.1 ht with rfl|ht
             · exact HZ
             · exact k4 t ht)
          have e5:j+(ms++(xm++[n])).length=j+ms.length+xm.length+1:=by simp;omega
          have e6:done'++(ms++(xm++[n]))=done'++ms++xm++[n]:=by simp
          have e7:j+(ms.length+xm.length)=j+ms.length+xm.length:=by omega
          rw[e5,e6,e7]at this;exact this
   obtain⟨a,ha'⟩:=Rw ns (i+1) (done++[n]) _ hfs h4 (fun m hm'=>hm m (by simp[hm']));refine⟨a, ?_⟩;rw[bO,List.singleton_append]at ha';rw[aK,show i+(ns.length+1)=i+1+ns.length by omega];exact ha'
theorem aep {ns:List Nd}(h:dM ns=true)(hm:∀n∈ns,n.num≤9223372036854775807):∃a ts rk d,Sh false 0 ns [a] ts rk d∧∀t∈ts,Tok t:=by
 obtain⟨a,ha⟩:=Rw ns 0 [] [] .nil h hm;rw[fQ]at ha;obtain⟨j,done,ms,ts,rk,d,h1,h2,h3,h4,h5⟩:=FS.last (st:=[]) ha;obtain⟨rfl,rfl⟩:=h1.ZB rfl;rw[fQ]at h2;subst h2;exact⟨a,ts,rk,d,h4,h5⟩
theorem aen {ns:List Nd}(h:dM ns=true)(hm:∀n∈ns,n.num≤9223372036854775807):gY ns≠[]:=by
 obtain⟨a,ts,rk,d,h1,h2⟩:=aep h hm;rw[JU h1 h];obtain⟨_,⟨t,l,rfl,_⟩,_⟩:=(QP h1).1 rfl;obtain⟨x,k,e,_⟩:=Kh (h2 t (by simp));rw[kz,e];simp
theorem Rm {sh:List Int}{c r:Int}{ac ar:Bool}(h:dn sh c r=true):aO sh c r ac ar≠[]:=by
 unfold aO;rw[if_pos h];intro e;exact qD _ (List.append_eq_nil_iff.1 e).2
theorem XY {b:Bool}{t:List Int}(h:t≠[]):iJ b t≠[]:=by
 unfold iJ;split
 · simp
 · exact h
theorem QL {t:ByteArray}(h:t≠⟨#[]⟩):sb t≠[]:=by
 intro e;apply h;have h1:=bC t;rw[e]at h1;have h1:t.size=0:=h1.symm;cases t with
 | mk d =>
   have:d=#[]:=Array.eq_empty_of_size_eq_zero h1;rw[this]
theorem aad:∀o:Nat,o<11→pR o≠[]:=by decide
theorem OQ {n:Nd}(h:aD n=true)(hk:n.kind=5):gp n.ref=true:=by
 unfold aD at h;split at h
 · cases h
 · simpa [hk]using h
theorem YI {n:Nd}(h:aD n=true)(hk:n.kind=1):0≤n.num:=by
 unfold aD at h;split at h
 · cases h
 · simpa [hk]using h
theorem acK {l:List Nd}(h:dM l=true){i:Int}(h0:0≤i)(h1:i<l.length):bg l i≠[]:=by
 obtain⟨hnb, -⟩:=xD h h0 h1;obtain⟨-, -, -,b1,b2,hl⟩:=pE hnb;rw[ui h h0 h1 _ rfl];split
 · exact qD _
 split
 · simp
 split
 · split <;> simp
 split
 · simp
 split
 · exact Rm (OQ hl ‹_›)
 split
 · simp
 split
 · simp
 split
 · simp
 · have:=aad (((nodeAt l i).kind - 9).toNat) (by omega)
   simp[this]
theorem P9 {l:List Nd}(h:dM l=true)(p:av)(hp:jd l p):jE l p≠[]:=by
 unfold jE;by_cases ht:p.t=⟨#[]⟩
 · obtain⟨h0,h1⟩:=hp ht
   rw[if_pos ht];exact XY (acK h h0 h1)
 · rw[if_neg ht];exact QL ht
theorem Ec {l:List Nd}(h:dM l=true):∀ps:List av,(∀p∈ps,jd l p)→ps.length≤(ps.flatMap (jE l)).length
 | [],_=>ag _
 | p :: ps,hp=>by
   have ih:=Ec h ps fun q hq=>hp q (List.mem_cons_of_mem _ hq)
   have h1:=List.length_pos_iff.2 (P9 h p (hp p (by simp)));rw[jV,aj,aK];omega
theorem D9:∀(k u:Nat),u<10 ^ (k+1)→(aF u).length≤k+1
 | 0,u,h=>by rw[lg u (by simpa using h)];simp
 | k + 1,u,h=>by
   by_cases h1:u<10
   · rw[lg u h1];simp
   · rw[qC u h1,aj,fq]
     have:=D9 k (u / 10) (by rw[Nat.pow_succ]at h;omega);omega
theorem Vp (n:Int):(aS n).length≤2:=by
 unfold aS;split
 · simp
 · split <;> simp
theorem CU (sh:List Int)(c r:Int)(ac ar:Bool):(aO sh c r ac ar).length≤sh.length+8:=by
 unfold aO;split
 · rename_i h
   unfold dn at h;rw[dE,decide_eq_true_iff]at h;have h1:=D9 2 (r+1).toNat (by omega);have h2:=Vp c;have h3:(if sh=[]then ([]:List Int)else sh++[33]).length≤sh.length+1:=by split <;> simp
   have h4:∀b:Bool,(if b=true then [(36:Int)]else []).length≤1:=by intro b;split <;> simp
   have h5:=h4 ac;have h6:=h4 ar;simp only[aj];omega
 · simp
theorem ML:∀l:List Int,(eu l).length≤2*l.length
 | []=>ag _
 | x :: l=>by
   have:=ML l;show((if x=34 then [34,34]else [x])++eu l).length≤_;rw[aj,aK];have:(if x=34 then [34,34]else [x]:List Int).length≤2:=by split <;> simp
   omega
theorem Az {s:ByteArray}{ts:List af}(h:au s ts=true):ts.tail.length+1=ts.length:=by
 cases ts with
 | nil=>unfold au at h;cases h
 | cons t l=>rfl
theorem aac {n:Nat}{ts:List af}(h:fD n ts≠0):ts.tail.length+1=ts.length:=by
 obtain⟨p,_,h1,_⟩:=Cv h;exact Az h1
theorem MK : ∀f:Nat,(∀n deep base ts ns a r,eF f n deep base ts=some (.ok (ns,a,r))→ns.length+r.length≤ts.length) ∧
 (∀n deep base ns a ts ns' a' r,rowP f n deep base ns a ts=some (.ok (ns',a',r))→ns'.length+r.length≤ns.length+ts.length) ∧
 (∀deep base ts ns a r,iY f deep base ts=some (.ok (ns,a,r))→ns.length+r.length≤ts.length) ∧
 (∀deep base ns ks ts ns' ks' r,gy f deep base ns ks ts=some (.ok (ns',ks',r))→ns'.length+r.length≤ns.length+ts.length)
 | 0=>by
   refine⟨?_, ?_, ?_, ?_⟩
   · intro n deep base ts ns a r h;unfold eF at h;cases h
   · intro n deep base ns a ts ns' a' r h;unfold rowP at h;cases h
   · intro deep base ts ns a r h;unfold iY at h;cases h
   · intro deep base ns ks ts ns' ks' r h;unfold gy at h;cases h
 | f + 1 => by
   obtain⟨i1,i2,i3,i4⟩:=MK f;refine⟨?_, ?_, ?_, ?_⟩
   · intro n deep base ts ns a r h
     rw[pG]at h;by_cases hn:n≤3
     · rw [if_pos hn]at h
       rcases dQ h with ⟨e,_,h2⟩|⟨ms,b,s,h1,h2⟩
       · cases h2
       · have:=i1 _ _ _ _ _ _ _ h1
         have:=i2 _ _ _ _ _ _ _ _ _ h2;omega
     · rw [if_neg hn]at h
       by_cases c:au ⟨#[45]⟩ ts=true
       · rw [if_pos c]at h
         have htl:=Az c;by_cases d:12≤deep
         · rw[if_pos d]at h;injection h with h;cases h
         · rw [if_neg d]at h
           rcases dQ h with ⟨e,_,h2⟩|⟨ms,b,s,h1,h2⟩
           · cases h2
           · have:=i1 _ _ _ _ _ _ _ h1
             injection h2 with h2;injection h2 with h2;injection h2 with h3 h4;injection h4 with h4 h5;subst h3;subst h5;rw[aj,fq];omega
       · rw[if_neg c]at h;exact i3 _ _ _ _ _ _ h
   · intro n deep base ns a ts ns' a' r h
     rw[ug]at h;by_cases c:fD n ts=0
     · rw[if_pos c]at h
       injection h with h;injection h with h;injection h with h3 h4;injection h4 with h4 h5;subst h3;subst h5;exact ag _
     · rw [if_neg c]at h
       have htl:=aac c;rcases dQ h with ⟨e,_,h2⟩|⟨ms,b,s,h1,h2⟩
       · cases h2
       · have:=i1 _ _ _ _ _ _ _ h1
         have:=i2 _ _ _ _ _ _ _ _ _ h2;rw[aj,aj,fq]at this;omega
   · intro deep base ts ns a r h
     cases ts with
     | nil=>rw[y5]at h;injection h with h;cases h
     | cons t ts =>
       rw[mG]at h;by_cases c:au ⟨#[40]⟩ (t :: ts)=true
       · rw [if_pos c]at h
         by_cases d:12≤deep
         · rw[if_pos d]at h;injection h with h;cases h
         · rw [if_neg d]at h
           rcases dQ h with ⟨e,_,h2⟩|⟨ms,b,s,h1,h2⟩
           · cases h2
           · have:=i1 _ _ _ _ _ _ _ h1
             by_cases g:au ⟨#[41]⟩ s=true
             · rw[if_pos g]at h2
               injection h2 with h2;injection h2 with h2;injection h2 with h3 h4;injection h4 with h4 h5;subst h3;subst h5;have:=Az g;rw[aK];omega
             · rw[if_neg g]at h2;injection h2 with h2;cases h2
       · rw [if_neg c]at h
         by_cases k1:t.kind=1
         · rw[if_pos k1]at h;injection h with h;injection h with h;injection h with h3 h4;injection h4 with h4 h5;subst h3;subst h5;simp only[aK,dY];omega
         rw[if_neg k1]at h;by_cases k2:t.kind=2
         · rw[if_pos k2]at h;injection h with h;injection h with h;injection h with h3 h4;injection h4 with h4 h5;subst h3;subst h5;simp only[aK,dY];omega
         rw[if_neg k2]at h;by_cases k6:t.kind=6
         · rw[if_pos k6]at h;injection h with h;injection h with h;injection h with h3 h4;injection h4 with h4 h5;subst h3;subst h5;simp only[aK,dY];omega
         rw[if_neg k6]at h;by_cases k4:t.kind=4
         · rw[if_pos k4]at h;injection h with h
           obtain⟨s1,s2,_⟩:=Qj h;have:=s1.len;rw[aK,s2];omega
         rw[if_neg k4]at h;by_cases k3:t.kind=3
         · rw [if_pos k3]at h
           by_cases w1:t.text=⟨#[84,82,85,69]⟩
           · rw[if_pos w1]at h;injection h with h;injection h with h;injection h with h3 h4;injection h4 with h4 h5;subst h3;subst h5;simp only[aK,dY];omega
           rw[if_neg w1]at h;by_cases w2:t.text=⟨#[70,65,76,83,69]⟩
           · rw[if_pos w2]at h;injection h with h;injection h with h;injection h with h3 h4;injection h4 with h4 h5;subst h3;subst h5;simp only[aK,dY];omega
           rw[if_neg w2]at h;by_cases w3:au ⟨#[40]⟩ ts=true
           · rw [if_pos w3]at h
             have htl:=Az w3;by_cases d:12≤deep
             · rw[if_pos d]at h;injection h with h;cases h
             rw[if_neg d]at h;rcases dQ h with ⟨e,_,h2⟩|⟨ms,ks,s,h1,h2⟩
             · cases h2
             · have hms:ms.length+s.length≤ts.tail.length:=by
                by_cases g:au ⟨#[41]⟩ ts.tail=true
                · rw[if_pos g]at h1
                  injection h1 with h1;injection h1 with h1;injection h1 with h3 h4;injection h4 with h4 h5;subst h3;subst h5;simp
                · rw[if_neg g]at h1
                  have:=i4 _ _ _ _ _ _ _ _ h1
                  simpa using this
               by_cases g:au ⟨#[41]⟩ s=true
               · rw[if_pos g]at h2
                 injection h2 with h2;injection h2 with h2;injection h2 with h3 h4;injection h4 with h4 h5;subst h3;subst h5;have:=Az g;rw[aj,fq,aK];omega
               · rw[if_neg g]at h2;injection h2 with h2;cases h2
           · rw[if_neg w3]at h;injection h with h;cases h
         · rw[if_neg k3]at h;injection h with h;cases h
   · intro deep base ns ks ts ns' ks' r h
     rw[sJ]at h;rcases dQ h with ⟨e,_,h2⟩|⟨ms,b,s,h1,h2⟩
     · cases h2
     · have h3:=i1 _ _ _ _ _ _ _ h1
       by_cases d:au ⟨#[44]⟩ s=true
       · rw[if_pos d]at h2
         have:=Az d;have:=i4 _ _ _ _ _ _ _ _ h2;rw[aj]at this;omega
       · rw[if_neg d]at h2
         injection h2 with h2;injection h2 with h2;injection h2 with h3 h4;injection h4 with h4 h5;subst h3;subst h5;rw[aj];omega
theorem Qp:Tryz.f213.results=#[.cell 2 154,.tmp 3]:=by kernel_rfl
theorem JL:Tryz.f215.results=#[.cell 2 154,.tmp 3]:=by kernel_rfl
theorem grownBy.Mg{w w':World}{b:Nat}(h:Below w.heap.size w w'):w.grownBy w' (some b):=grownBy.below' (grownBy.refl' _ _) h
theorem Ai(w:World)(b:Nat):w.grownBy (w.alloc (.cells jk 154)) (some b):=grownBy.Mg ((ai _ _).alloc (ag _) _)
theorem bN.tok{w:World}{b:Nat}{s:ByteArray}{k:Nat}(h:bN w b s k):bN (w.alloc (.cells jk 154)) b s k:=h.below ((ai _ _).alloc (ag _) _) h.lt
theorem acy:sb ⟨#[35,82,69,70,33]⟩=[35,82,69,70,33]:=by decide
theorem VD (b:Nat)(s:ByteArray)(k:Nat)(w:World)(h:bN w b s k)(_hs:s.size≤1000000)(_hk:k<s.size) :
 Calls Tryz.prog 213 #[.pointer (some ⟨b,0,none⟩)] w (nH (oD (ax s k)) b s k w):=by
 have hlt:=h.lt;have hw0:w.heap.size≠b:=by omega
 have hT:=Ri b s ⟨#[35,82,69,70,33]⟩ k _ h.tok _hs (by omega) (by decide);rw[acy]at hT;have aR:=aa (Ai w b);have bu:=aa (aC.zero w)
 have hN:oD (ax s k)=if jC [35,82,69,70,33] (ax s k)=true then some ({ af.zero with kind:=6 },5)else none:=by
  unfold oD jC;simp
 cases hq:jC [35,82,69,70,33] (ax s k)
 · rw [hq]at hN hT
   have HN:=aa hN;clear hN;have HT:=aa hT;clear hT h;go_enter Tryz.func213,Tryz.ntmps213
   go_wp2_with (first
    | (go_at_call 232;((with_reducible refine HT.o.mono ?_);rintro e w1 ⟨h1,rfl,h2⟩;have H1:=aa h1;have H2:=aa h2;clear h1 h2;have HT2:=aa (bu.o.grown H1.o hw0);obtain⟨x0,x1,x2,x3,x4,x5,x6,x7,az⟩:=HT2.o.cells;obtain⟨f0,f1,f2,f3,f4,f5,f6,f7,f8⟩:=HT2.o.bK)))
   exact bodyPost_ret (nT (HT2.o.gB { af.zero with kind:=6 }) _ _ false 2 3 Qp rfl rfl) rfl ⟨grownBy.jH (grownBy.trans' aR.o H1.o) (ag _) _ _ _ _ _ _ _ _ _,.inr ⟨HN.o,{ af.zero with kind:=6 },rfl⟩⟩
 · rw [hq]at hN hT
   have HN:=aa hN;clear hN;have HT:=aa hT;clear hT h;go_enter Tryz.func213,Tryz.ntmps213
   go_wp2_with (first
    | (go_at_call 232;((with_reducible refine HT.o.mono ?_);rintro e w1 ⟨h1,rfl,h2⟩;have H1:=aa h1;have H2:=aa h2;clear h1 h2;have HT2:=aa (bu.o.grown H1.o hw0);obtain⟨x0,x1,x2,x3,x4,x5,x6,x7,az⟩:=HT2.o.cells;obtain⟨f0,f1,f2,f3,f4,f5,f6,f7,f8⟩:=HT2.o.bK)))
   exact bodyPost_ret (nT (HT2.o.gB { af.zero with kind:=6 }) _ _ true 2 3 Qp rfl rfl) rfl ⟨grownBy.jH (grownBy.trans' aR.o H1.o) (ag _) _ _ _ _ _ _ _ _ _,.inl ⟨_,_,HN.o,rfl,H2.o.jH hw0 _ _ _ _ _ _ _ _ _⟩⟩
theorem Fe {s:ByteArray}{d:Rd}(h:fO s=some d){e:Ending}(he:Says (sb s) e):e = .returned (.tuple #[.agg #[.string d.sh,.int .i64 d.c,.int .i64 d.r,.bool d.ac,.bool d.ar],.bool true]):=by
 obtain⟨_,h2,h3⟩:=vX s d h;refine Says.text h2 ?_;rw[h3,jU];exact he
theorem Fb {s:ByteArray}(h:fO s=none){e:Ending}(he:Says (sb s) e):e = .returned (.tuple #[.agg #[.string ⟨#[]⟩,.int .i64 0,.int .i64 0,.bool false,.bool false],.bool false]):=by
 rcases he with ⟨_,_,_,_,_,_,h2,h3,_⟩|⟨_,rfl⟩
 · exact absurd h3 (Aq s h _ _ _ _ _ h2)
 · rfl
theorem ZH {l:List Int}{x:Int}(h0:l.head? = some x)(hx:mD x=true):vS l=iO l:=by
 cases l with
 | nil=>simp at h0
 | cons y m =>
   simp at h0;subst h0;unfold vS iO;rw[Bool.eq_iff_iff];simp only[dE,decide_eq_true_iff,List.getD_cons_zero];constructor
   · rintro ⟨h1,h2⟩
     refine⟨h1,⟨by simp,h2⟩, ?_⟩;have:=h1 y (by simp);rw[Bool.or_eq_true]at this;rcases this with h|h
     · exact h
     · exfalso
       unfold mD isLet at hx;unfold isNum at h;simp only[Bool.or_eq_true,decide_eq_true_iff]at hx h;omega
   · rintro⟨h1,⟨_,h2⟩,_⟩
     exact⟨h1,h2⟩
theorem RJ (l ds:List Int)(h:l.takeWhile isWord=ds):lD l=match fO (strOfNums ds)with
 | some d=>some ({ af.zero with kind:=4,sh:=d.sh,c:=d.c,r:=d.r,ac:=d.ac,ar:=d.ar },ds.length)
 | none=>if iO ds=true then some ({ af.zero with kind:=3,text:=strOfNums ds },ds.length)else none:=by subst h;rfl
theorem aeT (b:Nat)(s:ByteArray)(k:Nat)(w:World)(h:bN w b s k)(_hs:s.size≤1000000)(_hk:k<s.size)(hd:mD ((s[k].toNat:Nat):Int)=true) :
 Calls Tryz.prog 215 #[.pointer (some ⟨b,0,none⟩)] w (nH (lD (ax s k)) b s k w):=by
 have hlt:=h.lt;have hw0:w.heap.size≠b:=by omega
 obtain⟨ds,hds⟩:∃ds,(ax s k).takeWhile isWord=ds:=⟨_,rfl⟩;obtain⟨D,hD⟩:∃D,strOfNums ds=D:=⟨_,rfl⟩;have hbd:Bytes ds:=fun x hx=>JM s k x (by rw[← hds]at hx;exact(List.takeWhile_prefix _).subset hx)
 have rz:sb D=ds:=by rw[← hD];exact gK ds hbd
 have XK:D.size=ds.length:=by rw[← bC,rz]
 have hlen:ds.length≤s.size:=by rw[← hds];have h0:=zk isWord (ax s k);rw[mE]at h0;omega
 have hW:=(aeJ b s k _ h.tok _hs (by omega)).mono (R':=fun e w'=>(w.alloc (.cells jk 154)).grownBy w' (some b)∧e = .returned (.string D)∧bN w' b s (k+ds.length)) (fun e w' ⟨x1,x2,x3⟩=>⟨x1,by rw[x2,hds,hD],by rw[hds]at x3;exact x3⟩);have HW:=aa hW;clear hW h;have aR:=aa (Ai w b);have bu:=aa (aC.zero w);have hN:=RJ (ax s k) ds hds;rw[hD]at hN
 have hhd:ds.head? = some ((s[k].toNat:Nat):Int):=by
  have h0:=xu s k 0 (by omega);rw[← hds];cases hr:ax s k with
  | nil=>rw[hr]at h0;simp at h0
  | cons x l =>
    rw[hr]at h0;simp at h0;have hwd:isWord x=true:=by rw[Er,h0,hd];rfl
    rw[List.takeWhile_cons,hwd];simp[h0]
 rw[← ZH hhd hd]at hN;have hmx:D.size≤1000000:=by omega
 clear hhd hd hbd hds hlen hD;cases hq:fO D with
 | some d =>
   rw[hq]at hN;have HN:=aa hN;clear hN;have hsz:d.sh.size≤12:=(vX D d hq).1;have oq:=aa (fun (e:Ending)(he:Says (sb D) e)=>Fe hq he);clear hq rz;go_enter Tryz.func215,Tryz.ntmps215
   go_upto_region 4 with (first
    | (go_at_call 181;((with_reducible refine HW.o.mono ?_);rintro e w1 ⟨h1,rfl,h2⟩;have H1:=aa h1;have H2:=aa h2;clear h1 h2))
    | (go_at_call 235;((with_reducible refine(Qg D _ ?_).mono ?_);(first|omega|skip);rintro e w2 ⟨h1,h2⟩;obtain rfl:=oq.o e h1;clear h1;have H3:=aa h2;clear h2;have HL2:=aa (H2.o.below H3.o H2.o.lt);have HT2:=aa ((bu.o.grown H1.o hw0).below H3.o (bu.o.grown H1.o hw0).lt);have hlt2:=HT2.o.lt;have hne2:w.heap.size≠w2.heap.size:=Nat.ne_of_lt hlt2;obtain⟨x0,x1,x2,x3,x4,x5,x6,x7,az⟩:=HT2.o.cells;obtain⟨f0,f1,f2,f3,f4,f5,f6,f7,f8⟩:=HT2.o.bK)))
   have sW:=bV.new w2 d.sh d.c d.r d.ac d.ar;have hB3:Below w2.heap.size w2 (w2.alloc (.cells #[.string d.sh,.int .i64 d.c,.int .i64 d.r,.bool d.ac,.bool d.ar] 45)):=(ai _ _).alloc (ag _) _;have wH:=aa (HL2.o.below hB3 HL2.o.lt);have HT3:=aa (HT2.o.below hB3 HT2.o.lt);have eQ:=aa (grownBy.below' (grownBy.below' (grownBy.trans' aR.o H1.o) H3.o) hB3);clear x0 x1 x2 x3 x4 x5 x6 x7 az f0 f1 f2 f3 f4 f5 f6 f7 f8 hB3;generalize w2.alloc (.cells #[.string d.sh,.int .i64 d.c,.int .i64 d.r,.bool d.ac,.bool d.ar] 45)=w3 at sW wH HT3 eQ ⊢;obtain⟨x0,x1,x2,x3,x4,x5,x6,x7,az⟩:=HT3.o.cells;obtain⟨f0,f1,f2,f3,f4,f5,f6,f7,f8⟩:=HT3.o.bK;obtain⟨y0,y1,y2,y3,y4⟩:=sW.facts;clear sW;go_wp2_with fail
   exact bodyPost_ret (nT (HT3.o.gB { af.zero with kind:=4,sh:=d.sh,c:=d.c,r:=d.r,ac:=d.ac,ar:=d.ar }) _ _ true 2 3 JL rfl rfl) rfl ⟨grownBy.jH eQ.o (ag _) _ _ _ _ _ _ _ _ _,.inl ⟨_,_,HN.o,rfl,wH.o.jH hw0 _ _ _ _ _ _ _ _ _⟩⟩
 | none =>
   rw[hq]at hN;have oq:=aa (fun (e:Ending)(he:Says (sb D) e)=>Fb hq he);clear hq;cases hnm:vS ds
   all_goals
    rw[hnm]at hN;have HN:=aa hN;clear hN;have qW:=aa (show vS (sb D)=_ by rw[rz,hnm]);clear hnm rz;go_enter Tryz.func215,Tryz.ntmps215
    go_upto_region 5 with (first
     | (go_at_call 181;((with_reducible refine HW.o.mono ?_);rintro e w1 ⟨h1,rfl,h2⟩;have H1:=aa h1;have H2:=aa h2;clear h1 h2))
     | (go_at_call 235;((with_reducible refine(Qg D _ ?_).mono ?_);(first|omega|skip);rintro e w2 ⟨h1,h2⟩;obtain rfl:=oq.o e h1;clear h1;have H3:=aa h2;clear h2;have HL2:=aa (H2.o.below H3.o H2.o.lt);have HT2:=aa ((bu.o.grown H1.o hw0).below H3.o (bu.o.grown H1.o hw0).lt))))
    have hB3:Below w2.heap.size w2 (w2.alloc (.cells #[.string ⟨#[]⟩,.int .i64 0,.int .i64 0,.bool false,.bool false] 45)):=(ai _ _).alloc (ag _) _;have wH:=aa (HL2.o.below hB3 HL2.o.lt);have HT3:=aa (HT2.o.below hB3 HT2.o.lt);have eQ:=aa (grownBy.below' (grownBy.below' (grownBy.trans' aR.o H1.o) H3.o) hB3);clear hB3;generalize w2.alloc (.cells #[.string ⟨#[]⟩,.int .i64 0,.int .i64 0,.bool false,.bool false] 45)=w3 at wH HT3 eQ ⊢;obtain⟨x0,x1,x2,x3,x4,x5,x6,x7,az⟩:=HT3.o.cells;obtain⟨f0,f1,f2,f3,f4,f5,f6,f7,f8⟩:=HT3.o.bK;go_wp2_with (go_at_call 236;((with_reducible refine(X5 D _ ?_).mono ?_);(first|omega|skip);rintro e w4 ⟨rfl,rfl⟩;rw[qW.o]))
   · exact bodyPost_ret (nT (HT3.o.gB { af.zero with kind:=3,text:=D }) _ _ false 2 3 JL rfl rfl) rfl ⟨grownBy.jH eQ.o (ag _) _ _ _ _ _ _ _ _ _,.inr ⟨HN.o,{ af.zero with kind:=3,text:=D },rfl⟩⟩
   · exact bodyPost_ret (nT (HT3.o.gB { af.zero with kind:=3,text:=D }) _ _ true 2 3 JL rfl rfl) rfl ⟨grownBy.jH eQ.o (ag _) _ _ _ _ _ _ _ _ _,.inl ⟨_,_,HN.o,rfl,wH.o.jH hw0 _ _ _ _ _ _ _ _ _⟩⟩
theorem acm {P:Program}{w:World}(t e:TypeId)(n:Nat)(cs:Array Value)(k:Nat)(v:Value)(d:TypeDesc)(h:P.underlying t=some (.array n e))(he:P.underlying e=some d)(hd:(match d with | .struct _ | .array _ _=>true|_=>false)=false)
 (hsz:(P.info? e).map (·.size)=some 1)(hk:k<n)(hv:cs[k]? = some v):(Instr.index t (.agg cs) (.int .i64 (k:Int))).run P w = .ok v w:=by
 have h1:(0:Int)≤(k:Int)∧(k:Int)<(n:Int):=by omega
 cases hq:P.info? e with
 | none=>simp[hq]at hsz
 | some i =>
   have hs':i.size=1:=by simp[hq]at hsz;exact hsz
   simp[Instr.index,run_underlying h,asIntOf,h1,sizeOf,typeInfo,hq,hs',part,isAgg,run_underlying he,hv,go_sem];cases d <;> simp_all
theorem RP {P:Program}{ops:Array Oper}{rest:List Oper}{op:Oper}{a:Act}{w:World}{Q:Exit→Act→World→Prop}(hgd:op.guard=none)(t e:TypeId)(n:Nat)(x y:Operand)(ho:op.op = .index t x y)
 (cs:Array Value)(k:Nat)(v:Value)(d:TypeDesc)(h:P.underlying t=some (.array n e))(he:P.underlying e=some d)(hd:(match d with | .struct _ | .array _ _=>true|_=>false)=false)
 (hsz:(P.info? e).map (·.size)=some 1)(hx:a.eval x = .agg cs)(hy:a.eval y = .int .i64 (k:Int))(hk:k<n)(hv:cs[k]? = some v)
 (hh:wpList P ops Q rest (a.put op.dst v) w):wpList P ops Q (op :: rest) a w :=
 wpList_plain hgd fun _ hK=>by
  unfold Oper.wp execOp;simp only[ho,hx,hy,Sem.run_bind,Sem.run_pure,Result.andThen_ok,acm t e n cs k v d h he hd hsz hk hv];exact hK _ _ hh
def lZ:List (List Int):=[[60,62],[60,61],[62,61],[43],[45],[42],[47],[38],[61],[60],[62],[40],[41],[44],[58]]
def QV:List ByteArray:=[⟨#[60,62]⟩,⟨#[60,61]⟩,⟨#[62,61]⟩,⟨#[43]⟩,⟨#[45]⟩,⟨#[42]⟩,⟨#[47]⟩,⟨#[38]⟩,⟨#[61]⟩,⟨#[60]⟩,⟨#[62]⟩,⟨#[40]⟩,⟨#[41]⟩,⟨#[44]⟩,⟨#[58]⟩]
def xy:Array Value:=(QV.map Value.string).toArray
theorem adb:∀j:Nat,j<15→∃t,QV[j]? = some t∧xy[j]? = some (.string t)∧sb t=lZ.getD j []∧t.size≤2∧t=strOfNums (lZ.getD j [])
 | 0,_=>⟨_,rfl,rfl,by decide,by decide,by decide +kernel⟩
 | 1,_=>⟨_,rfl,rfl,by decide,by decide,by decide +kernel⟩
 | 2,_=>⟨_,rfl,rfl,by decide,by decide,by decide +kernel⟩
 | 3,_=>⟨_,rfl,rfl,by decide,by decide,by decide +kernel⟩
 | 4,_=>⟨_,rfl,rfl,by decide,by decide,by decide +kernel⟩
 | 5,_=>⟨_,rfl,rfl,by decide,by decide,by decide +kernel⟩
 | 6,_=>⟨_,rfl,rfl,by decide,by decide,by decide +kernel⟩
 | 7,_=>⟨_,rfl,rfl,by decide,by decide,by decide +kernel⟩
 | 8,_=>⟨_,rfl,rfl,by decide,by decide,by decide +kernel⟩
 | 9,_=>⟨_,rfl,rfl,by decide,by decide,by decide +kernel⟩
 | 10,_=>⟨_,rfl,rfl,by decide,by decide,by decide +kernel⟩
 | 11,_=>⟨_,rfl,rfl,by decide,by decide,by decide +kernel⟩
 | 12,_=>⟨_,rfl,rfl,by decide,by decide,by decide +kernel⟩
 | 13,_=>⟨_,rfl,rfl,by decide,by decide,by decide +kernel⟩
 | 14,_=>⟨_,rfl,rfl,by decide,by decide,by decide +kernel⟩
 | j+15,h=>by omega
theorem BX (a b:Int)(l:List Int):jC [a,b] l=true↔l.head? = some a∧l.tail.head? = some b:=by
 unfold jC;rw[decide_eq_true_iff]
 match l with
 | []=>simp
 | [x]=>simp
 | x :: y :: m=>simp
theorem NB (a:Int)(l:List Int):jC [a] l=true↔l.head? = some a:=by
 unfold jC;rw[decide_eq_true_iff]
 match l with
 | []=>simp
 | x :: m=>simp
theorem adg:∀j:Nat,j<15→∀l:List Int,(∀q,q<j→jC (lZ.getD q []) l=false)→jC (lZ.getD j []) l=true→ny l=some ({ af.zero with kind:=5,text:=strOfNums (lZ.getD j []) },(lZ.getD j []).length):=by
 intro j hj l hno bU
 have hlen:jT l=(lZ.getD j []).length:=by
  have hn0:∀a b q,q<j→lZ.getD q []=[a,b]→¬ (l.head? = some a∧l.tail.head? = some b):=by
   intro a b q hq he h;have:=hno q hq;rw[he,(BX a b l).2 h]at this;cases this
  cases l with
  | nil =>
    exfalso;have:∀j,j<15→lZ.getD j []≠[]:=by decide
    unfold jC at bU;rw[decide_eq_true_iff,List.take_nil]at bU;exact this j hj bU.symm
  | cons x m =>
    rw[qK];simp only[List.head?_cons,List.tail_cons,bA]at hn0
    match j,hj with
    | 0,_=>obtain⟨h1,h2⟩:=(BX _ _ _).1 bU;simp at h1 h2;rw[if_pos (by left;exact⟨h1,.inl h2⟩)];rfl
    | 1,_=>obtain⟨h1,h2⟩:=(BX _ _ _).1 bU;simp at h1 h2;rw[if_pos (by left;exact⟨h1,.inr h2⟩)];rfl
    | 2,_=>obtain⟨h1,h2⟩:=(BX _ _ _).1 bU;simp at h1 h2;rw[if_pos (by right;exact⟨h1,h2⟩)];rfl
    | j + 3,hj =>
      have g0:=hn0 60 62 0 (by omega) rfl;have g1:=hn0 60 61 1 (by omega) rfl;have g2:=hn0 62 61 2 (by omega) rfl
      rw [if_neg (by
       rintro(⟨h1,h2|h2⟩|⟨h1,h2⟩)
       · exact g0 ⟨h1,h2⟩
       · exact g1 ⟨h1,h2⟩
       · exact g2 ⟨h1,h2⟩)]
      have hx:∃a,lZ.getD (j+3) []=[a]∧(a=43∨a=45∨a=42∨a=47∨a=38∨a=61∨a=60∨a=62∨a=40∨a=41∨a=44∨a=58):=by
       have:∀j,j<12→∃a,lZ.getD (j+3) []=[a]∧(a=43∨a=45∨a=42∨a=47∨a=38∨a=61∨a=60∨a=62∨a=40∨a=41∨a=44∨a=58):=by
        intro j hj
        match j,hj with
        | 0,_=>exact⟨43,rfl,by omega⟩
        | 1,_=>exact⟨45,rfl,by omega⟩
        | 2,_=>exact⟨42,rfl,by omega⟩
        | 3,_=>exact⟨47,rfl,by omega⟩
        | 4,_=>exact⟨38,rfl,by omega⟩
        | 5,_=>exact⟨61,rfl,by omega⟩
        | 6,_=>exact⟨60,rfl,by omega⟩
        | 7,_=>exact⟨62,rfl,by omega⟩
        | 8,_=>exact⟨40,rfl,by omega⟩
        | 9,_=>exact⟨41,rfl,by omega⟩
        | 10,_=>exact⟨44,rfl,by omega⟩
        | 11,_=>exact⟨58,rfl,by omega⟩
        | j+12,h=>omega
       exact this j (by omega)
      obtain⟨a,ha,hor⟩:=hx;rw[ha]at bU ⊢;have h1:=(NB _ _).1 bU;simp at h1;subst h1;rw[if_pos hor];rfl
 have hpos:(lZ.getD j []).length≠0:=by
  have:∀j,j<15→(lZ.getD j []).length≠0:=by decide
  exact this j hj
 unfold ny;rw[hlen,if_neg hpos];unfold jC at bU;rw[decide_eq_true_iff]at bU;rw[bU]
theorem ade (l:List Int)(hno:∀q,q<15→jC (lZ.getD q []) l=false):ny l=none:=by
 have h2:∀a b q,q<15→lZ.getD q []=[a,b]→¬ (l.head? = some a∧l.tail.head? = some b):=by
  intro a b q hq he h;have:=hno q hq;rw[he,(BX a b l).2 h]at this;cases this
 have h1:∀a q,q<15→lZ.getD q []=[a]→¬ l.head? = some a:=by
  intro a q hq he h;have:=hno q hq;rw[he,(NB a l).2 h]at this;cases this
 have hz:jT l=0:=by
  cases l with
  | nil=>rfl
  | cons x m =>
    rw[qK];simp only[List.head?_cons,List.tail_cons,bA]at h1 h2;have g0:=h2 60 62 0 (by omega) rfl;have g1:=h2 60 61 1 (by omega) rfl;have g2:=h2 62 61 2 (by omega) rfl;have k3:=h1 43 3 (by omega) rfl;have k4:=h1 45 4 (by omega) rfl;have k5:=h1 42 5 (by omega) rfl;have k6:=h1 47 6 (by omega) rfl;have k7:=h1 38 7 (by omega) rfl;have k8:=h1 61 8 (by omega) rfl;have k9:=h1 60 9 (by omega) rfl;have k10:=h1 62 10 (by omega) rfl;have k11:=h1 40 11 (by omega) rfl;have k12:=h1 41 12 (by omega) rfl;have k13:=h1 44 13 (by omega) rfl;have k14:=h1 58 14 (by omega) rfl
    rw [if_neg (by
     rintro(⟨h1,h2|h2⟩|⟨h1,h2⟩)
     · exact g0 ⟨h1,h2⟩
     · exact g1 ⟨h1,h2⟩
     · exact g2 ⟨h1,h2⟩),if_neg (by omega)]
 unfold ny;rw[if_pos hz]
def uL(w:World):Prop:=∃ty fr,w.heap[(4:Nat)]? = some (.cells xy ty fr)
theorem uL.lt{w:World}(h:uL w):4<w.heap.size:=by obtain⟨_,_,h⟩:=h;exact(dZ.1 h).1
theorem uL.grown {w w':World}{b:Nat}(h:uL w)(hg:w.grownBy w' (some b))(hb:max 2 4<b):uL w':=by
 have h0:=h.lt;obtain⟨ty,fr,h1⟩:=h;exact⟨ty,fr,by rw[hg.block _ h0 (by intro e;have:=dX e;omega)];exact h1⟩
theorem uL.below {w w':World}(h:uL w)(hb:Below w.heap.size w w'):uL w':=by
 have h0:=h.lt;obtain⟨ty,fr,h1⟩:=h;exact⟨ty,fr,by rw[hb.block _ h0];exact h1⟩
theorem wB.below{w w':World}(h:wB w)(hb:Below w.heap.size w w'):wB w':=h.grown (b:=w.heap.size+2+1) (grownBy.Mg hb) (by omega)
theorem Qr:Tryz.f216.results=#[.cell 2 154,.tmp 3]:=by kernel_rfl
theorem JX:Tryz.prog.underlying 246=some (.array 15 9):=Tryz.underlying246
theorem adf:(Tryz.prog.info? 246).map (·.size)=some xy.size:=by kernel_rfl
theorem Re:(Tryz.prog.info? 9).map (·.size)=some 1:=by kernel_rfl
theorem adj (b:Nat)(s:ByteArray)(k:Nat)(w:World)(h:bN w b s k)(_hs:s.size≤1000000)(_hk:k<s.size)(hsv:uL w)(hb2:max 2 4<b) :
 Calls Tryz.prog 216 #[.pointer (some ⟨b,0,none⟩)] w (nH (ny (ax s k)) b s k w):=by
 have hlt:=h.lt;have hw0:w.heap.size≠b:=by omega
 obtain⟨ty,fr,hrow⟩:=hsv.grown (Ai w b) hb2;clear hsv;have aR:=aa (Ai w b);have bu:=aa (aC.zero w);have nZ:=aa h.tok;clear h;have oo:=aa hrow;clear hrow;go_enter Tryz.func216,Tryz.ntmps216;go_upto_region 1 with (fail)
 refine wp_region_lit ?_;refine wpList_load_row rfl 246 (.global 4) rfl 4 rfl ty xy fr _ oo.o JX rfl adf ?_;go_wp2_with fail
 go_loopw [7] (fun i wr=>∃j:Nat,j≤15∧i = .int .i64 j∧Hid (∀q,q<j→jC (lZ.getD q []) (ax s k)=false)∧Hid (bN wr b s k)∧Hid ((w.alloc (.cells jk 154)).grownBy wr (some b)))
  (fun i _=>15 - (intOf i).toNat)
 case atStart=>exact⟨0,by omega,rfl,aa (by intro q hq;omega),nZ,aa (grownBy.refl' _ _)⟩
 case round =>
  obtain⟨j,hj,rfl,ek,HR,HG⟩:=hrel;by_cases hlt:j<15
  · have hji:(j:Int)<15:=by omega
    obtain⟨t,ht1,ht2,ht3,ht4,Ob⟩:=adb j hlt;have hT:=Ri b s t k wr HR.o _hs (by omega) (by omega);rw[ht3]at hT;have HT2:=aa ht2;have HT3:=aa ht3;have TA:=aa Ob;clear ht1 ht2 ht3 Ob;cases hq:jC (lZ.getD j []) (ax s k)
    · rw [hq]at hT
      have HT:=aa hT;have HQ:=aa hq;clear hT hq;go_upto_region 3 with (fail)
      refine wp_region_lit ?_;refine RP rfl 246 9 15 (.tmp 6) (.tmp 7) rfl xy j (.string t) _ JX Tryz.underlying9 rfl Re rfl rfl hlt HT2.o ?_;go_wp2_with (go_at_call 232;((with_reducible refine HT.o.mono ?_);rintro e w1 ⟨h1,rfl,h2⟩;have H1:=aa h1;have H2:=aa h2;clear h1 h2))
      go_roundw
      case rel =>
       refine⟨j+1,by omega,by go_num,aa ?_,H2,aa (grownBy.trans' HG.o H1.o)⟩;intro q hq;by_cases hqj:q<j
       · exact ek.o q hqj
       · rw[show q=j from by omega];exact HQ.o
      case measure=>simp[intOf];omega
    · rw[hq]at hT
      have HT:=aa hT;clear hT;have hsz:t.size=(lZ.getD j []).length:=by rw[← HT3.o,bC]
      have hN:=adg j hlt (ax s k) ek.o hq;rw[← TA.o, ← hsz]at hN;have HN:=aa hN;clear hN hq hsz;go_upto_region 3 with (fail)
      refine wp_region_lit ?_;refine RP rfl 246 9 15 (.tmp 6) (.tmp 7) rfl xy j (.string t) _ JX Tryz.underlying9 rfl Re rfl rfl hlt HT2.o ?_;go_wp2_with (go_at_call 232;((with_reducible refine HT.o.mono ?_);rintro e w1 ⟨h1,rfl,h2⟩;have H1:=aa (grownBy.trans' HG.o h1);have H2:=aa h2;clear h1 h2;have HT2:=aa (bu.o.grown H1.o hw0);obtain⟨x0,x1,x2,x3,x4,x5,x6,x7,az⟩:=HT2.o.cells;obtain⟨f0,f1,f2,f3,f4,f5,f6,f7,f8⟩:=HT2.o.bK))
      exact bodyPost_ret (nT (HT2.o.gB { af.zero with kind:=5,text:=t }) _ _ true 2 3 Qr rfl rfl) rfl ⟨grownBy.jH (grownBy.trans' aR.o H1.o) (ag _) _ _ _ _ _ _ _ _ _,.inl ⟨_,_,HN.o,rfl,H2.o.jH hw0 _ _ _ _ _ _ _ _ _⟩⟩
  · have hji:¬ (j:Int)<15:=by omega
    have HN:=aa (ade (ax s k) (fun q hq=>ek.o q (by omega)));have HT2:=aa (bu.o.grown HG.o hw0);obtain⟨x0,x1,x2,x3,x4,x5,x6,x7,az⟩:=HT2.o.cells;obtain⟨f0,f1,f2,f3,f4,f5,f6,f7,f8⟩:=HT2.o.bK;go_wp2_with fail
    exact bodyPost_ret (nT (HT2.o.gB af.zero) _ _ false 2 3 Qr rfl rfl) rfl ⟨grownBy.jH (grownBy.trans' aR.o HG.o) (ag _) _ _ _ _ _ _ _ _ _,.inr ⟨HN.o,af.zero,rfl⟩⟩
def mf(s:ByteArray)(k p:Nat)(xs:List Int):Prop:=dS (ax s (k+1))=(dS (ax s p)).map fun q=>(xs++q.1,p - (k+1)+q.2)
theorem lX (s:ByteArray)(p:Nat)(h:p<s.size):ax s p=((s[p].toNat:Nat):Int) :: ax s (p+1):=by
 unfold ax;rw[List.drop_eq_getElem_cons (by rw[bC];exact h)];congr 1;have:=oM s p h;rw[bn (by rw[bC];exact h)]at this;exact dX this
theorem CE (s:ByteArray)(p:Nat)(h:s.size≤p):ax s p=[]:=by
 apply l5;rw[mE];omega
theorem Qc {s:ByteArray}{k p:Nat}{xs:List Int}(h:mf s k p xs)(hp:s.size≤p):jR (ax s (k+1))=none:=by
 unfold mf at h;unfold jR;rw[h,CE s p hp];rfl
theorem Qd {s:ByteArray}{k p:Nat}{xs:List Int}(h:mf s k p xs)(hp:p<s.size)(hc:((s[p].toNat:Nat):Int)<32):jR (ax s (k+1))=none:=by
 unfold mf at h;unfold jR;rw[h,lX s p hp,rF,if_pos hc];rfl
theorem Qe {s:ByteArray}{k p:Nat}{xs:List Int}{a:Int}(h:mf s k p xs)(hk:k+1≤p)(hp:p<s.size)(ha:((s[p].toNat:Nat):Int)=a)(h1:¬ a<32)(h2:¬ a=34):mf s k (p+1) (xs++[a]):=by
 unfold mf at h ⊢;rw[h,lX s p hp,rF,ha,if_neg h1,if_pos h2];cases dS (ax s (p+1))with
 | none=>rfl
 | some q =>
   simp only[Option.map_some,bA,bD,bO,dO,fQ,true_and];omega
theorem Qf {s:ByteArray}{k p:Nat}{xs:List Int}(h:mf s k p xs)(hk:k+1≤p)(hp:p<s.size)(ha:((s[p].toNat:Nat):Int)=34)(hp2:p+1<s.size)(ha2:((s[p+1].toNat:Nat):Int)=34):mf s k (p+1+1) (xs++[34]):=by
 unfold mf at h ⊢;rw[h,lX s p hp,lX s (p+1) hp2,rF,ha,ha2,if_neg (by omega),if_neg (by omega)];simp only[if_true];cases dS (ax s (p+1+1))with
 | none=>rfl
 | some q =>
   simp only[Option.map_some,bA,bD,bO,dO,fQ,true_and];omega
theorem EU {s:ByteArray}{k p:Nat}{xs:List Int}(h:mf s k p xs)(hk:k+1≤p)(hp:p<s.size)(ha:((s[p].toNat:Nat):Int)=34)(h2:∀h:p+1<s.size,¬ ((s[p+1].toNat:Nat):Int)=34) :
 jR (ax s (k+1))=some ({ af.zero with kind:=2,text:=strOfNums xs },p+1 - k):=by
 unfold mf at h
 have hq:dS (ax s p)=some ([],1):=by
  rw[lX s p hp,rF,ha,if_neg (by omega),if_neg (by omega)];by_cases hp2:p+1<s.size
  · rw[lX s (p+1) hp2]
    simp only[if_neg (h2 hp2)]
  · rw[CE s (p+1) (by omega)]
 unfold jR;rw[h,hq];simp only[Option.map_some,fu,bA,bD,true_and];omega
theorem grownBy.Me {a w w':World}{r:Option Nat}(h:a.grownBy w r)(k:Below (a.heap.size+1) w w'):a.grownBy w' r :=
 ⟨k.os.trans h.os,k.tape.trans h.tape,k.output.trans h.output,bZ h.size k.size,fun j hj hr=>(k.block j (by omega)).trans (h.block j hj hr)⟩
theorem EY:Tryz.f212.results=#[.cell 2 154,.tmp 3]:=by kernel_rfl
theorem aaY (b:Nat)(s:ByteArray)(k:Nat)(w:World)(h:bN w b s k)(_hs:s.size≤1000000)(_hk:k<s.size) :
 Calls Tryz.prog 212 #[.pointer (some ⟨b,0,none⟩)] w (nH (jR (ax s (k+1))) b s k w):=by
 have hlt:=h.lt;have hw0:w.heap.size≠b:=by omega
 have BU:b<w.heap.size+1:=by omega
 obtain⟨c0,c1⟩:=h.tok.facts;have f1:=h.tok.frozen 1;have Ng:w.grownBy ((w.setCell ⟨b,1,none⟩ (.int .i64 ((k:Int)+1))).alloc (.cells jk 154)) (some b):=grownBy.below' (grownBy.setCell' (grownBy.refl' _ _) _ _) ((ai _ _).alloc (ag _) _);have aR:=aa Ng;clear Ng;have H9:=aC.zero (w.setCell ⟨b,1,none⟩ (.int .i64 ((k:Int)+1)));rw[show(w.setCell ⟨b,1,none⟩ (.int .i64 ((k:Int)+1))).heap.size=w.heap.size by simp]at H9;have bu:=aa H9;clear H9;have nZ:=aa (h.wm.tok);clear h;go_enter Tryz.func212,Tryz.ntmps212;go_wp2_with fail
 clear c0 c1 f1
 go_loopw [4] (fun v wr=>∃(p:Nat)(xs:List Int),k+1≤p∧p≤s.size∧xs.length≤p∧Hid (Bytes xs)∧Hid (mf s k p xs)∧Hid (bN wr b s p)∧Hid (oz wr (w.heap.size+1) v xs)∧Hid (aC wr w.heap.size af.zero)∧Hid (w.grownBy wr (some b)))
  (fun _ wr=>lW b s.size wr)
 case atStart =>
  refine⟨k+1,[],by omega,by omega,by simp,aa Bytes.nil,aa ?_,nZ,aa (Own.nil _ _ _ _),bu,aR⟩;unfold mf;cases dS (ax s (k+1))with
  | none=>rfl
  | some q=>simp
 case round =>
  obtain⟨p,xs,hkp,hps,hxl,vk,HQ,HR,HO,HT,HG⟩:=hrel;clear aR bu nZ;have NM:=HR.o.lW s.size;have wK:=aa NM;clear NM;obtain⟨c0,c1⟩:=HR.o.facts;have f1:=HR.o.frozen 1;by_cases hlt:p<s.size
  · have hlt2 : (p:Int)<(s.size:Int):=by omega
    obtain⟨a,ha⟩:∃a:Int,(s[p].toNat:Int)=a:=⟨_,rfl⟩;have ha1:0≤a∧a≤255:=by have:=s[p].toNat_lt;omega
    by_cases hlow:a<32
    · have HN:=aa (Qd HQ.o hlt (by rw[ha];exact hlow))
      go_wp2_with fail
      go_quiet (fail)
      have HR1:=aa (HR.o.drewN nq);have eX:=aa (HO.o.drewN nq);have HT1:=aa (HT.o.drewN nq);have kU:=aa (grownBy.drewN' HG.o nq);generalize wr.drewN nq=w1 at HR1 eX HT1 kU ⊢;clear c0 c1 f1 HR HO HT HG;obtain⟨c0,c1⟩:=HR1.o.facts;have f1:=HR1.o.frozen 1;go_wp2_with fail
      go_quiet (fail)
      have HR2:=aa (HR1.o.drewN nq);have jX:=aa (eX.o.drewN nq);have HT2:=aa (HT1.o.drewN nq);have HG2:=aa (grownBy.drewN' kU.o nq);generalize w1.drewN nq=w2 at HR2 jX HT2 HG2 ⊢;clear c0 c1 f1 HR1 eX HT1 kU;obtain⟨c0,c1⟩:=HR2.o.facts;have f1:=HR2.o.frozen 1;obtain⟨x0,x1,x2,x3,x4,x5,x6,x7,az⟩:=HT2.o.cells;obtain⟨g0,g1,g2,g3,g4,g5,g6,g7,g8⟩:=HT2.o.bK;go_wp2_with fail
      exact bodyPost_ret (nT (HT2.o.gB af.zero) _ _ false 2 3 EY rfl rfl) rfl ⟨grownBy.jH HG2.o (ag _) _ _ _ _ _ _ _ _ _,.inr ⟨HN.o,af.zero,rfl⟩⟩
    · by_cases cZ:a=34
      · have yE:(a == 34)=true:=beq_iff_eq.2 cZ
        obtain⟨q,hq⟩:∃q:Nat,p+1=q:=⟨_,rfl⟩;go_wp2_with fail
        go_quiet (fail)
        have HR1:=aa (HR.o.drewN nq);have eX:=aa (HO.o.drewN nq);have HT1:=aa (HT.o.drewN nq);have kU:=aa (grownBy.drewN' HG.o nq);generalize wr.drewN nq=w1 at HR1 eX HT1 kU ⊢;clear c0 c1 f1 HR HO HT HG;obtain⟨c0,c1⟩:=HR1.o.facts;have f1:=HR1.o.frozen 1;go_wp2_with fail
        go_quiet (fail)
        have HR2:=aa (HR1.o.drewN nq);have jX:=aa (eX.o.drewN nq);have HT2:=aa (HT1.o.drewN nq);have HG2:=aa (grownBy.drewN' kU.o nq);generalize w1.drewN nq=w2 at HR2 jX HT2 HG2 ⊢;clear c0 c1 f1 HR1 eX HT1 kU;obtain⟨c0,c1⟩:=HR2.o.facts;have f1:=HR2.o.frozen 1;go_upto_region 10 with (fail)
        have HR3:=aa (HR2.o.wm);have fA:=aa (Own.other jX.o (grownBy.setCell' (grownBy.refl' _ _) _ _) BU:oz (w2.setCell ⟨b,1,none⟩ (.int .i64 ((p:Int)+1))) _ _ _);have HT3:=aa (HT2.o.grown (grownBy.setCell' (grownBy.refl' _ _) 1 (.int .i64 ((p:Int)+1))) hw0);have eQ:=aa (grownBy.setCell' HG2.o 1 (.int .i64 ((p:Int)+1)));generalize w2.setCell ⟨b,1,none⟩ (.int .i64 ((p:Int)+1))=w3 at HR3 fA HT3 eQ ⊢;clear c0 c1 f1 HR2 jX HT2 HG2;obtain⟨c0,c1⟩:=HR3.o.facts;have f1:=HR3.o.frozen 1;have Lf:=aa (show bN w3 b s q by rw[← hq];exact HR3.o);clear c0 c1 HR3;have HR3:=Lf;clear Lf;obtain⟨c0,c1⟩:=HR3.o.facts;have Bv:=aa hq;by_cases hlt3:q<s.size
        · have Xt:((q:Int) == (s.size:Int))=false:=beq_eq_false_iff_ne.2 (by omega)
          have xc:(q:Int)<(s.size:Int):=by omega
          obtain⟨a2,ha2⟩:∃a2:Int,(s[q].toNat:Int)=a2:=⟨_,rfl⟩;have WI:0≤a2∧a2≤255:=by have:=s[q].toNat_lt;omega
          by_cases vJ:a2=34
          · have Ia:(a2 == 34)=true:=beq_iff_eq.2 vJ
            have ma:=aa (show mf s k (q+1) (xs++[34])by subst hq;exact Qf HQ.o hkp hlt (by rw[ha,cZ]) hlt3 (by rw[ha2,vJ]));clear HQ hq;go_quiet (fail)
            have HR4:=aa (HR3.o.drewN nq);have l9:=aa (fA.o.drewN nq);have ou:=aa (HT3.o.drewN nq);have qg:=aa (grownBy.drewN' eQ.o nq);generalize w3.drewN nq=w4 at HR4 l9 ou qg ⊢;clear c0 c1 f1 HR3 fA HT3 eQ;obtain⟨c0,c1⟩:=HR4.o.facts;have f1:=HR4.o.frozen 1;go_wp2_with (at_builtin;refine mH Elem.u8 (bT .u8) rfl (.tmp 76) (.tmp 78) rfl (w.heap.size+1) _ _ rfl (l9.o.alloc _) ⟨_,0,none⟩ 1 1 [34] rfl rfl ?_ ?_ ?_ ?_ ?_;exact fZ _ _ _ rfl;omega;(unfold maxLen;omega);(have:=ou.o.lt;simp <;> omega);intro v' mI h1 h2;have og:=aa h1;have jJ:=aa (((ai (w.heap.size+1) _).alloc (by have:=ou.o.lt;omega) _).trans h2);clear h1 h2;have vB:=aa (HR4.o.below jJ.o BU);have xZ:=aa (ou.o.below jJ.o (Nat.lt_succ_self _));have FX:=aa (grownBy.Me qg.o jJ.o);clear HR4 l9 ou qg c0 c1 f1;obtain⟨c0,c1⟩:=vB.o.facts;have f1:=vB.o.frozen 1)
            go_roundw
            case rel =>
             refine⟨q+1,xs++[34],by have:=Bv.o;omega,by omega,by have:=Bv.o;simp;omega,aa (vk.o.append (by intro x hx;simp at hx;omega)),ma,aa vB.o.wm,aa (Own.other og.o (grownBy.setCell' (grownBy.refl' _ _) _ _) BU),aa (xZ.o.grown (grownBy.setCell' (grownBy.refl' _ _) _ _) hw0),aa (grownBy.setCell' FX.o _ _)⟩
            case measure =>
             have h1:=vB.o.wm.lW s.size;have h2:=Bv.o;rw[wK.o];exact Nat.lt_of_le_of_lt (Nat.le_of_eq h1) (by omega)
          · have Ia:(a2 == 34)=false:=beq_eq_false_iff_ne.2 vJ
            have HN:=aa (show jR (ax s (k+1))=some ({ af.zero with kind:=2,text:=strOfNums xs },q - k)by subst hq;exact EU HQ.o hkp hlt (by rw[ha,cZ]) (fun h=>by rw[ha2];exact vJ));clear HQ hq;go_quiet (fail)
            have HR4:=aa (HR3.o.drewN nq);have l9:=aa (fA.o.drewN nq);have ou:=aa (HT3.o.drewN nq);have qg:=aa (grownBy.drewN' eQ.o nq);generalize w3.drewN nq=w4 at HR4 l9 ou qg ⊢;clear c0 c1 f1 HR3 fA HT3 eQ;obtain⟨c0,c1⟩:=HR4.o.facts;have f1:=HR4.o.frozen 1;have Ig:=Aw l9.o;obtain⟨x0,x1,x2,x3,x4,x5,x6,x7,az⟩:=ou.o.cells;obtain⟨g0,g1,g2,g3,g4,g5,g6,g7,g8⟩:=ou.o.bK;go_wp2_with fail
            exact bodyPost_ret (nT (ou.o.gB { af.zero with kind:=2,text:=strOfNums xs }) _ _ true 2 3 EY rfl rfl) rfl ⟨grownBy.jH qg.o (ag _) _ _ _ _ _ _ _ _ _,.inl ⟨_,_,HN.o,rfl,by rw[show k+(q - k)=q from by have:=Bv.o;omega];exact HR4.o.jH hw0 _ _ _ _ _ _ _ _ _⟩⟩
        · have Xt:((q:Int) == (s.size:Int))=true:=beq_iff_eq.2 (by omega)
          have HN:=aa (show jR (ax s (k+1))=some ({ af.zero with kind:=2,text:=strOfNums xs },q - k)by subst hq;exact EU HQ.o hkp hlt (by rw[ha,cZ]) (fun h=>absurd h hlt3));clear HQ hq;go_quiet (fail)
          have HR4:=aa (HR3.o.drewN nq);have l9:=aa (fA.o.drewN nq);have ou:=aa (HT3.o.drewN nq);have qg:=aa (grownBy.drewN' eQ.o nq);generalize w3.drewN nq=w4 at HR4 l9 ou qg ⊢;clear c0 c1 f1 HR3 fA HT3 eQ;obtain⟨c0,c1⟩:=HR4.o.facts;have f1:=HR4.o.frozen 1;have Ig:=Aw l9.o;obtain⟨x0,x1,x2,x3,x4,x5,x6,x7,az⟩:=ou.o.cells;obtain⟨g0,g1,g2,g3,g4,g5,g6,g7,g8⟩:=ou.o.bK;go_wp2_with fail
          exact bodyPost_ret (nT (ou.o.gB { af.zero with kind:=2,text:=strOfNums xs }) _ _ true 2 3 EY rfl rfl) rfl ⟨grownBy.jH qg.o (ag _) _ _ _ _ _ _ _ _ _,.inl ⟨_,_,HN.o,rfl,by rw[show k+(q - k)=q from by have:=Bv.o;omega];exact HR4.o.jH hw0 _ _ _ _ _ _ _ _ _⟩⟩
      · have yE:(a == 34)=false:=beq_eq_false_iff_ne.2 cZ
        have ma:=aa (Qe HQ.o hkp hlt ha hlow cZ);clear HQ;go_wp2_with fail
        go_quiet (fail)
        have HR1:=aa (HR.o.drewN nq);have eX:=aa (HO.o.drewN nq);have HT1:=aa (HT.o.drewN nq);have kU:=aa (grownBy.drewN' HG.o nq);generalize wr.drewN nq=w1 at HR1 eX HT1 kU ⊢;clear c0 c1 f1 HR HO HT HG;obtain⟨c0,c1⟩:=HR1.o.facts;have f1:=HR1.o.frozen 1;go_wp2_with fail
        go_quiet (fail)
        have HR2:=aa (HR1.o.drewN nq);have jX:=aa (eX.o.drewN nq);have HT2:=aa (HT1.o.drewN nq);have HG2:=aa (grownBy.drewN' kU.o nq);generalize w1.drewN nq=w2 at HR2 jX HT2 HG2 ⊢;clear c0 c1 f1 HR1 eX HT1 kU;obtain⟨c0,c1⟩:=HR2.o.facts;have f1:=HR2.o.frozen 1;go_wp2_with (at_builtin;refine mH Elem.u8 (bT .u8) rfl (.tmp 76) (.tmp 78) rfl (w.heap.size+1) _ _ rfl (jX.o.alloc _) ⟨_,0,none⟩ 1 1 [a] rfl rfl ?_ ?_ ?_ ?_ ?_;exact fZ _ _ _ rfl;omega;(unfold maxLen;omega);(have:=HT2.o.lt;simp <;> omega);intro v' mI h1 h2;have og:=aa h1;have jJ:=aa (((ai (w.heap.size+1) _).alloc (by have:=HT2.o.lt;omega) _).trans h2);clear h1 h2;have vB:=aa (HR2.o.below jJ.o BU);have xZ:=aa (HT2.o.below jJ.o (Nat.lt_succ_self _));have FX:=aa (grownBy.Me HG2.o jJ.o);clear HR2 jX HT2 HG2 c0 c1 f1;obtain⟨c0,c1⟩:=vB.o.facts;have f1:=vB.o.frozen 1)
        go_roundw
        case rel =>
         refine⟨p+1,xs++[a],by omega,by omega,by simp;omega,aa (vk.o.append (by intro x hx;simp at hx;omega)),ma,aa vB.o.wm,aa (Own.other og.o (grownBy.setCell' (grownBy.refl' _ _) _ _) BU),aa (xZ.o.grown (grownBy.setCell' (grownBy.refl' _ _) _ _) hw0),aa (grownBy.setCell' FX.o _ _)⟩
        case measure =>
         have h1:=vB.o.wm.lW s.size;rw[wK.o];exact Nat.lt_of_le_of_lt (Nat.le_of_eq h1) (by omega)
  · have hlt2:¬ (p:Int)<(s.size:Int):=by omega
    have HN:=aa (Qc HQ.o (by omega));go_wp2_with fail
    go_quiet (fail)
    have HR1:=aa (HR.o.drewN nq);have eX:=aa (HO.o.drewN nq);have HT1:=aa (HT.o.drewN nq);have kU:=aa (grownBy.drewN' HG.o nq);generalize wr.drewN nq=w1 at HR1 eX HT1 kU ⊢;clear c0 c1 f1 HR HO HT HG;obtain⟨c0,c1⟩:=HR1.o.facts;have f1:=HR1.o.frozen 1;obtain⟨x0,x1,x2,x3,x4,x5,x6,x7,az⟩:=HT1.o.cells;obtain⟨g0,g1,g2,g3,g4,g5,g6,g7,g8⟩:=HT1.o.bK;go_wp2_with fail
    exact bodyPost_ret (nT (HT1.o.gB af.zero) _ _ false 2 3 EY rfl rfl) rfl ⟨grownBy.jH kU.o (ag _) _ _ _ _ _ _ _ _ _,.inr ⟨HN.o,af.zero,rfl⟩⟩
structure Vars (w:World):Prop where
 err:wB w
 sig:uL w
theorem Vars.grown{w w':World}{b:Nat}(h:Vars w)(hg:w.grownBy w' (some b))(hb:max 2 4<b):Vars w':=⟨h.err.grown hg (by omega),h.sig.grown hg hb⟩
theorem Vars.below{w w':World}(h:Vars w)(hb:Below w.heap.size w w'):Vars w':=⟨h.err.below hb,h.sig.below hb⟩
theorem m_num:∀args (v:World),(callFunc 211 args).run Tryz.prog v = .ok (.enter 211 args) v:=Go.Proofs.enters_of Tryz.func211 (by kernel_rfl) rfl
theorem Zc:∀args (v:World),(callFunc 212 args).run Tryz.prog v = .ok (.enter 212 args) v:=Go.Proofs.enters_of Tryz.func212 (by kernel_rfl) rfl
theorem Zb:∀args (v:World),(callFunc 213 args).run Tryz.prog v = .ok (.enter 213 args) v:=Go.Proofs.enters_of Tryz.func213 (by kernel_rfl) rfl
theorem Ze:∀args (v:World),(callFunc 215 args).run Tryz.prog v = .ok (.enter 215 args) v:=Go.Proofs.enters_of Tryz.func215 (by kernel_rfl) rfl
theorem Zd:∀args (v:World),(callFunc 216 args).run Tryz.prog v = .ok (.enter 216 args) v:=Go.Proofs.enters_of Tryz.func216 (by kernel_rfl) rfl
theorem Zm (b:Nat)(s:ByteArray)(k:Nat)(_hs:s.size≤1000000)(_hk:k<s.size)(hb2:max 2 4<b)(a:Int)(ha:((s[k].toNat:Nat):Int)=a) :
 (∀args (v:World),(callFunc (oJ a) args).run Tryz.prog v = .ok (.enter (oJ a) args) v) ∧
 (∀w,bN w b s k→Vars w→Calls Tryz.prog (oJ a) #[.pointer (some ⟨b,0,none⟩)] w (nH (eP (ax s k)) b s k w)):=by
 have hc:=lX s k _hk;rw[ha]at hc;have ht:=p9 a (ax s (k+1));rw[← hc]at ht;rw[ht];cases hn:isNum a
 · rw [if_neg (by simp)]
   by_cases cZ:a=34
   · rw[Pt hn cZ,if_pos cZ]
     exact⟨Zc,fun w h _=>aaY b s k w h _hs _hk⟩
   · rw [if_neg cZ]
     by_cases jg:a=35
     · rw[Pq hn cZ jg,if_pos jg]
       exact⟨Zb,fun w h _=>VD b s k w h _hs _hk⟩
     · rw [if_neg jg]
       cases hb:mD a
       · rw[Pv hn cZ jg hb,if_neg (by unfold mD at hb;simpa using hb)]
         exact⟨Zd,fun w h hv=>adj b s k w h _hs _hk hv.sig hb2⟩
       · rw[Pw hn cZ jg hb,if_pos (by unfold mD at hb;simpa using hb)]
         exact⟨Ze,fun w h _=>aeT b s k w h _hs _hk (by rw[ha];exact hb)⟩
 · rw[Ps hn,if_pos rfl]
   exact⟨m_num,fun w h hv=>Z5 b s k w h _hs _hk (by rw[ha];exact hn) hv.err (by omega)⟩
theorem nH.lit {o:Option (af × Nat)}{b:Nat}{s:ByteArray}{k:Nat}{w w':World}{e:Ending}(h:nH o b s k w e w') :
 w.grownBy w' (some b)∧((∃t n,o=some (t,n)∧e = .returned (.tuple #[.agg #[.int .i64 t.kind,.string t.text,.int .i64 t.num,.string t.sh,.int .i64 t.c,.int .i64 t.r,.bool t.ac,.bool t.ar,.int .i64 t.pos],.bool true])∧bN w' b s (k+n))∨(o=none∧∃t:af,e = .returned (.tuple #[.agg #[.int .i64 t.kind,.string t.text,.int .i64 t.num,.string t.sh,.int .i64 t.c,.int .i64 t.r,.bool t.ac,.bool t.ar,.int .i64 t.pos],.bool false]))):=h
theorem Qs:Tryz.f152.results=#[.cell 2 154,.tmp 3]:=by kernel_rfl
theorem aem (b:Nat)(s:ByteArray)(k:Nat)(w:World)(h:bN w b s k)(_hs:s.size≤1000000)(_hk:k<s.size)(hb2:max 2 4<b)(hv:Vars w) :
 Calls Tryz.prog 152 #[.pointer (some ⟨b,0,none⟩)] w (nH ((eP (ax s k)).map fun q=>(q.1.goto k,q.2)) b s k w):=by
 have hlt:=h.lt;have hw0:w.heap.size≠b:=by omega
 obtain⟨a,ha⟩:∃a:Int,(s[k].toNat:Int)=a:=⟨_,rfl⟩;have ha1:0≤a∧a≤255:=by have:=s[k].toNat_lt;omega
 obtain⟨hen,tC⟩:=Zm b s k _hs _hk hb2 a ha;have hmo:=fun w=>Zl a ha1.1 ha1.2 w
 obtain⟨F,hF⟩:∃F,oJ a=F:=⟨_,rfl⟩;rw[hF]at hen tC;simp only[hF]at hmo;have Ga:=aa hmo;clear hmo hF;have HM:=aa (tC _ h.tok (hv.grown (Ai w b) hb2));clear tC hv;have aR:=aa (Ai w b);have bu:=aa (aC.zero w);obtain⟨c0,c1⟩:=h.tok.facts;clear h;have hk2:(k:Int)<(s.size:Int):=by omega
 obtain⟨o,ho⟩:∃o,eP (ax s k)=o:=⟨_,rfl⟩;rw[ho]at HM ⊢;clear ho;go_enter Tryz.func152,Tryz.ntmps152;go_wp2_with (go_at_call 183;((with_reducible refine(Ga.o _).mono ?_);rintro e w1 ⟨rfl,rfl⟩))
 refine HM.o.mono ?_;intro e w1 he;obtain⟨h1,⟨t,n,rfl,rfl,h2⟩|⟨rfl,t,rfl⟩⟩:=he.lit
 · have H1:=aa h1;have H2:=aa h2;clear h1 h2 he
   have hB3:Below w1.heap.size w1 (w1.alloc (.cells #[.int .i64 t.kind,.string t.text,.int .i64 t.num,.string t.sh,.int .i64 t.c,.int .i64 t.r,.bool t.ac,.bool t.ar,.int .i64 (k:Int)] 154)):=(ai _ _).alloc (ag _) _;have hT1:=bu.o.grown H1.o hw0;have HT3:=aa (hT1.below hB3 hT1.lt);have aA:aC (w1.alloc (.cells #[.int .i64 t.kind,.string t.text,.int .i64 t.num,.string t.sh,.int .i64 t.c,.int .i64 t.r,.bool t.ac,.bool t.ar,.int .i64 (k:Int)] 154)) w1.heap.size (t.goto k):=aC.new w1 (t.goto k);have eQ:=aa (grownBy.below' (grownBy.trans' aR.o H1.o) hB3);have wH:=aa (H2.o.below hB3 H2.o.lt);have hne2:w.heap.size≠w1.heap.size:=Nat.ne_of_lt hT1.lt;clear hB3 hT1 Ga HM c0 c1;go_upto_region 4 with (fail)
   generalize w1.alloc (.cells #[.int .i64 t.kind,.string t.text,.int .i64 t.num,.string t.sh,.int .i64 t.c,.int .i64 t.r,.bool t.ac,.bool t.ar,.int .i64 (k:Int)] 154)=w3 at HT3 aA eQ wH ⊢;obtain⟨x0,x1,x2,x3,x4,x5,x6,x7,az⟩:=HT3.o.cells;obtain⟨f0,f1,f2,f3,f4,f5,f6,f7,f8⟩:=HT3.o.bK;obtain⟨y0,y1,y2,y3,y4,kQ,y6,lF,mJ⟩:=aA.cells;clear aA;simp only[af.goto]at y0 y1 y2 y3 y4 kQ y6 lF mJ;go_wp2_with fail
   exact bodyPost_ret (nT (HT3.o.gB (t.goto k)) _ _ true 2 3 Qs rfl rfl) rfl ⟨grownBy.jH eQ.o (ag _) _ _ _ _ _ _ _ _ _,.inl ⟨_,_,rfl,rfl,wH.o.jH hw0 _ _ _ _ _ _ _ _ _⟩⟩
 · have H1:=aa h1;clear h1 he
   have hB3:Below w1.heap.size w1 (w1.alloc (.cells #[.int .i64 t.kind,.string t.text,.int .i64 t.num,.string t.sh,.int .i64 t.c,.int .i64 t.r,.bool t.ac,.bool t.ar,.int .i64 (k:Int)] 154)):=(ai _ _).alloc (ag _) _;have hT1:=bu.o.grown H1.o hw0;have HT3:=aa (hT1.below hB3 hT1.lt);have aA:aC (w1.alloc (.cells #[.int .i64 t.kind,.string t.text,.int .i64 t.num,.string t.sh,.int .i64 t.c,.int .i64 t.r,.bool t.ac,.bool t.ar,.int .i64 (k:Int)] 154)) w1.heap.size (t.goto k):=aC.new w1 (t.goto k);have eQ:=aa (grownBy.below' (grownBy.trans' aR.o H1.o) hB3);have hne2:w.heap.size≠w1.heap.size:=Nat.ne_of_lt hT1.lt;clear hB3 hT1 Ga HM c0 c1;go_upto_region 4 with (fail)
   generalize w1.alloc (.cells #[.int .i64 t.kind,.string t.text,.int .i64 t.num,.string t.sh,.int .i64 t.c,.int .i64 t.r,.bool t.ac,.bool t.ar,.int .i64 (k:Int)] 154)=w3 at HT3 aA eQ ⊢;obtain⟨x0,x1,x2,x3,x4,x5,x6,x7,az⟩:=HT3.o.cells;obtain⟨f0,f1,f2,f3,f4,f5,f6,f7,f8⟩:=HT3.o.bK;obtain⟨y0,y1,y2,y3,y4,kQ,y6,lF,mJ⟩:=aA.cells;clear aA;simp only[af.goto]at y0 y1 y2 y3 y4 kQ y6 lF mJ;go_wp2_with fail
   exact bodyPost_ret (nT (HT3.o.gB (t.goto k)) _ _ false 2 3 Qs rfl rfl) rfl ⟨grownBy.jH eQ.o (ag _) _ _ _ _ _ _ _ _ _,.inr ⟨rfl,t.goto k,rfl⟩⟩
def yu:Enc af 9:={ f:=fun t=>(nY t).toList,len:=fun _=>rfl,one:=fun t u hu=>aei t u hu }
theorem Elem.tok:∃n,n≤100∧Elem Tryz.prog 146 154 9 n:=⟨80,by omega,Tryz.underlying146,⟨.agg jk,by kernel_rfl,rfl⟩,by decide⟩
abbrev qy(w:World)(base:Nat)(v:Value)(ts:List af):Prop:=Own yu 154 w base v ts
def kv(s:ByteArray)(p:Nat):Option (List af):=eG (ax s p).length p (ax s p)
theorem OY(s:ByteArray):fG (sb s)=kv s 0:=rfl
theorem O1 (s:ByteArray)(p:Nat)(h:s.size≤p):kv s p=some [af.zero.goto p]:=by
 unfold kv;rw[CE s p h];unfold eG;rfl
theorem O0 (s:ByteArray)(p:Nat)(h:p<s.size)(ha:((s[p].toNat:Nat):Int)=32):kv s p=kv s (p+1):=by
 unfold kv;rw[lX s p h,ha,aK,qG,if_pos rfl]
theorem I6 (s:ByteArray):∀(m p:Nat),(∀x∈(ax s p).take m,mY x=true)→p+m≤s.size→kv s p=kv s (p+m)
 | 0,_,_,_=>rfl
 | m + 1,p,h,hm=>by
   have hp:p<s.size:=by omega
   rw[lX s p hp]at h
   have h0:((s[p].toNat:Nat):Int)=32:=by
    have:=h ((s[p].toNat:Nat):Int) (by simp);unfold mY at this;simpa using this
   rw[O0 s p hp h0,I6 s m (p+1) (fun x hx=>h x (by simp[hx])) (by omega),show p+1+m=p+(m+1)from by omega]
theorem O3 (s:ByteArray)(p:Nat)(h:p<s.size)(h32:¬ ((s[p].toNat:Nat):Int)=32)(ht:eP (ax s p)=none):kv s p=none:=by
 unfold kv;rw[lX s p h]at ht ⊢;rw[aK,qG,if_neg h32,ht]
theorem O4 (s:ByteArray)(p:Nat)(h:p<s.size)(h32:¬ ((s[p].toNat:Nat):Int)=32)(t:af)(n:Nat)(ht:eP (ax s p)=some (t,n)):kv s p=(kv s (p+n)).map (t.goto p :: ·):=by
 have hn:=qa _ _ _ ht;have hd:=Qt s p n;unfold kv;rw[lX s p h]at ht hd hn ⊢;rw[aK,qG,if_neg h32,ht];simp only;rw[hd,Ex _ (ax s (p+n)).length _ _ (by rw[mE,mE];omega) (ag _)]
theorem Ra (p:Int→Bool)(l:List Int):∀x∈l.take (l.takeWhile p).length,p x=true:=by
 have e:=take_split p l
 have h:l.take (l.takeWhile p).length=l.takeWhile p:=by
  have h0:(l.takeWhile p++l.drop (l.takeWhile p).length).take (l.takeWhile p).length=l.takeWhile p:=List.take_left;rw[e]at h0;exact h0
 rw[h];exact rP p l
theorem Q4 (s:ByteArray)(p q:Nat)(hq:p+((ax s p).takeWhile mY).length=q)(h:q<s.size):¬ ((s[q].toNat:Nat):Int)=32:=by
 have h1:=CR mY (ax s p);rw[Qt,hq,lX s q h]at h1;have:=h1 _ rfl;unfold mY at this;simpa using this
theorem Q5 (s:ByteArray)(p:Nat)(h:p≤s.size):p+((ax s p).takeWhile mY).length≤s.size:=by
 have:=zk mY (ax s p);rw[mE]at this;omega
theorem Vars.lt {w:World}(h:Vars w):max 2 4<w.heap.size:=by
 have hs:=h.sig.lt;obtain⟨ev,h1,_⟩:=h.err
 have hr:2<w.heap.size:=by
  rcases Nat.lt_or_ge 2 w.heap.size with h'|h'
  · exact h'
  · exfalso;unfold World.cell? at h1;simp only at h1;rw[Array.getElem?_eq_none h']at h1;cases h1
 omega
theorem nH.no {b:Nat}{s:ByteArray}{k:Nat}{w w':World}{e:Ending}(h:nH none b s k w e w'):w.grownBy w' (some b)∧∃t:af,e = .returned (.tuple #[.agg #[.int .i64 t.kind,.string t.text,.int .i64 t.num,.string t.sh,.int .i64 t.c,.int .i64 t.r,.bool t.ac,.bool t.ar,.int .i64 t.pos],.bool false]):=by
 rcases h.lit with ⟨h1,⟨t,n,h2,_⟩|⟨_,h2⟩⟩
 · cases h2
 · exact⟨h1,h2⟩
theorem nH.yes {b:Nat}{s:ByteArray}{k n:Nat}{t:af}{w w':World}{e:Ending}(h:nH (some (t,n)) b s k w e w'):w.grownBy w' (some b)∧e = .returned (.tuple #[.agg #[.int .i64 t.kind,.string t.text,.int .i64 t.num,.string t.sh,.int .i64 t.c,.int .i64 t.r,.bool t.ac,.bool t.ar,.int .i64 t.pos],.bool true])∧bN w' b s (k+n):=by
 rcases h.lit with ⟨h1,⟨t',n',h2,h3,h4⟩|⟨h2,_⟩⟩
 · injection h2 with h2;injection h2 with h2 h5;subst h2;subst h5;exact⟨h1,h3,h4⟩
 · cases h2
def LG (s:ByteArray)(w:World)(e:Ending)(w':World):Prop :=
 Below w.heap.size w w'∧((300<s.size∧e = .returned (.tuple #[.slice none 0 0,.int .i64 4]))∨(s.size≤300∧fG (sb s)=none∧e = .returned (.tuple #[.slice none 0 0,.int .i64 5])) ∨
  (s.size≤300∧∃ts v,fG (sb s)=some ts∧e = .returned (.tuple #[v,.int .i64 0])∧qy w' w.heap.size v ts))
theorem YZ (s:ByteArray)(w:World)(h:300<s.size):Calls Tryz.prog 125 #[.string s] w (LG s w):=by
 have hi:(300:Int)<(s.size:Int):=by omega
 go_enter Tryz.func125,Tryz.ntmps125;go_wp2_with fail
 go_ret2
 exact⟨ai _ _,.inl ⟨h,rfl⟩⟩
theorem I7 (s:ByteArray)(w:World)(hv:Vars w):Calls Tryz.prog 125 #[.string s] w (LG s w):=by
 by_cases hbig:300<s.size
 · exact YZ s w hbig
 have hi:¬ (300:Int)<(s.size:Int):=by omega
 have hs0:s.size≤1000000:=by omega
 obtain⟨eb,lh,dA⟩:=Elem.tok;have kS:=aa dA;clear dA;have hb2:=hv.lt;have j3:=aa hv;clear hv;have hsk:=Q3 w.heap.size s 0 _ (bN.new w s) hs0 (by omega);rw[Nat.zero_add]at hsk;obtain⟨p0,hp0⟩:∃p0,((ax s 0).takeWhile mY).length=p0:=⟨_,rfl⟩;rw[hp0]at hsk;have xY:=aa hsk;clear hsk;have NU:=Q5 s 0 (cu _);rw[Nat.zero_add,hp0]at NU
 have Bo:=aa (show fG (sb s)=(kv s p0).map (([]:List af) ++ ·)by
  have:=I6 s p0 0 (by rw[← hp0];exact Ra _ _) (by omega);rw[OY,this,Nat.zero_add];cases kv s p0 <;> rfl)
 have HH0:=aa (fun h=>Q4 s 0 p0 (by rw[hp0];omega) h);clear hp0;go_enter Tryz.func125,Tryz.ntmps125;go_wp2_with (go_at_call 151;((with_reducible refine xY.o.mono ?_);rintro e w1 ⟨h1,rfl,h2⟩;have HB:=aa (sM ((ai _ _).alloc (ag _) _) h1 (by simp) (ag _));have HR:=aa h2;clear h1 h2))
 go_loopw [5] (fun v wr=>∃(p:Nat)(acc:List af),p≤s.size∧acc.length≤p∧Hid (fG (sb s)=(kv s p).map (acc ++ ·))∧Hid (∀h:p<s.size,¬ ((s[p].toNat:Nat):Int)=32)∧Hid (bN wr w.heap.size s p)∧Hid (qy wr (w.heap.size+1) v acc)∧Hid (Below w.heap.size w wr))
  (fun _ wr=>lW w.heap.size s.size wr)
 case atStart=>exact⟨p0,[],NU,by simp,Bo,HH0,HR,aa (Own.nil _ _ _ _),HB⟩
 case round =>
  clear Bo HH0 xY HR HB;obtain⟨p,acc,hps,hal,HL,HH,HR,HO,HB⟩:=hrel;obtain⟨c0,c1⟩:=HR.o.facts;have wK:=aa (HR.o.lW s.size);by_cases hlt:p<s.size
  · have hlt2:(p:Int)<(s.size:Int):=by omega
    have hT:=aem w.heap.size s p wr HR.o hs0 hlt hb2 (j3.o.below HB.o);cases hq:eP (ax s p)with
    | none =>
      rw[hq]at hT;have HT:=aa hT;clear hT;have HN:=aa (show fG (sb s)=none by rw[HL.o,O3 s p hlt (HH.o hlt) hq];rfl);clear hq;go_wp2_with (go_at_call 152;((with_reducible refine HT.o.mono ?_);intro e w1 he;obtain⟨h1,t,rfl⟩:=nH.no he;have HB1:=aa (sM HB.o h1 HB.o.size (ag _));clear h1 he))
      go_ret2
      exact⟨HB1.o.alloc HB1.o.size _,.inr (.inl ⟨by omega,HN.o,rfl⟩)⟩
    | some q =>
      obtain⟨t0,n0⟩:=q;rw[hq]at hT;obtain⟨t1,ht1⟩:∃t1,t0.goto p=t1:=⟨_,rfl⟩;have hT:Calls Tryz.prog 152 #[.pointer (some ⟨w.heap.size,0,none⟩)] wr (nH (some (t1,n0)) w.heap.size s p wr):=by rw[← ht1];exact hT
      have HT:=aa hT;clear hT;have hn0:=qa _ _ _ hq;rw[mE]at hn0
      have rY:=aa (show fG (sb s)=(kv s (p+n0)).map ((acc++[t1]) ++ ·)by
       rw[← ht1,HL.o,O4 s p hlt (HH.o hlt) t0 n0 hq,Option.map_map];congr 1;funext l;simp)
      clear hq HL HH ht1;have Ik:p+n0≤s.size:=by omega
      go_upto_region 11 with (go_at_call 152;((with_reducible refine HT.o.mono ?_);intro e w1 he;obtain⟨h1,rfl,h2⟩:=nH.yes he;have HB1:=aa (sM HB.o h1 HB.o.size (ag _));have eX:=aa (Own.other HO.o h1 (Nat.lt_succ_self _));have HR1:=aa h2;clear h1 h2 he))
      have hB3:Below w1.heap.size w1 (w1.alloc (.cells #[.int .i64 t1.kind,.string t1.text,.int .i64 t1.num,.string t1.sh,.int .i64 t1.c,.int .i64 t1.r,.bool t1.ac,.bool t1.ar,.int .i64 t1.pos] 154)):=(ai _ _).alloc (ag _) _;have aA:aC (w1.alloc (.cells #[.int .i64 t1.kind,.string t1.text,.int .i64 t1.num,.string t1.sh,.int .i64 t1.c,.int .i64 t1.r,.bool t1.ac,.bool t1.ar,.int .i64 t1.pos] 154)) w1.heap.size t1:=aC.new w1 t1;have HR3:=aa (HR1.o.below hB3 HR1.o.lt);have fA:=aa (eX.o.alloc (.cells #[.int .i64 t1.kind,.string t1.text,.int .i64 t1.num,.string t1.sh,.int .i64 t1.c,.int .i64 t1.r,.bool t1.ac,.bool t1.ar,.int .i64 t1.pos] 154));have HB3:=aa (HB1.o.trans (hB3.mono HB1.o.size));clear hB3 HT HB1 eX HR1 HB HO HR c0 c1;generalize w1.alloc (.cells #[.int .i64 t1.kind,.string t1.text,.int .i64 t1.num,.string t1.sh,.int .i64 t1.c,.int .i64 t1.r,.bool t1.ac,.bool t1.ar,.int .i64 t1.pos] 154)=w3 at HR3 aA fA HB3 ⊢;obtain⟨y0,y1,y2,y3,y4,kQ,y6,lF,mJ⟩:=aA.cells;clear aA;go_upto_region 7 with (at_builtin;refine mH kS.o yu rfl (.tmp 32) (.tmp 34) rfl (w.heap.size+1) _ _ rfl (fA.o.alloc _) ⟨_,0,none⟩ 1 1 [t1] rfl rfl ?_ ?_ ?_ ?_ ?_;exact fZ _ _ _ rfl;exact bZ (Nat.mul_le_mul_left _ lh) (by omega);(unfold maxLen;omega);(have:=HR3.o.lt;simp <;> omega);intro v' mI h1 h2;have og:=aa h1;have jJ:=aa (((ai (w.heap.size+1) _).alloc (by have:=HR3.o.lt;omega) _).trans h2);clear h1 h2)
      have HR4:=aa (HR3.o.below jJ.o (Nat.lt_succ_self _));have bG:=aa (HB3.o.trans (jJ.o.mono (Nat.le_succ _)));have Iy:=Q3 w.heap.size s (p+n0) mI HR4.o hs0 Ik;obtain⟨q,hq⟩:∃q,p+n0+((ax s (p+n0)).takeWhile mY).length=q:=⟨_,rfl⟩;rw[hq]at Iy;have Tt:=aa Iy;clear Iy;have Iu:=Q5 s (p+n0) Ik;rw[hq]at Iu
      have Su:=aa (show fG (sb s)=(kv s q).map ((acc++[t1]) ++ ·)by
       rw[rY.o, ← hq];have:=I6 s _ (p+n0) (Ra mY _) (by rw[hq];exact Iu);rw[this])
      have Sj:=aa (fun h=>Q4 s (p+n0) q hq h);have hpq:p<q:=by omega
      clear hq rY;go_wp2_with (go_at_call 151;((with_reducible refine Tt.o.mono ?_);rintro e w5 ⟨h1,rfl,h2⟩;have dU:=aa (sM bG.o h1 bG.o.size (ag _));have mO:=aa (Own.other og.o h1 (Nat.lt_succ_self _));have Lg:=aa h2;clear h1 h2))
      go_roundw
      case rel=>exact⟨q,acc++[t1],Iu,by simp;omega,Su,Sj,Lg,mO,dU⟩
      case measure =>
       have h1:=Lg.o.lW s.size;rw[wK.o,h1];omega
  · have hlt2:¬ (p:Int)<(s.size:Int):=by omega
    have HN:=aa (show fG (sb s)=some (acc++[af.zero.goto p])by rw[HL.o,O1 s p (by omega)];rfl);clear HL HH;go_wp2_with (at_builtin;refine mH kS.o yu rfl (.tmp 36) (.tmp 42) rfl (w.heap.size+1) _ _ rfl (HO.o.alloc _) ⟨_,0,none⟩ 1 1 [af.zero.goto p] rfl rfl ?_ ?_ ?_ ?_ ?_;exact fZ _ _ _ rfl;exact bZ (Nat.mul_le_mul_left _ lh) (by omega);(unfold maxLen;omega);(have:=HR.o.lt;simp <;> omega);intro v' mI h1 h2;have og:=aa h1;have jJ:=aa (((ai (w.heap.size+1) _).alloc (by have:=HR.o.lt;omega) _).trans h2);clear h1 h2)
    go_ret2
    exact⟨HB.o.trans (jJ.o.mono (by have:=HR.o.lt;omega)),.inr (.inr ⟨by omega,_,_,HN.o,rfl,og.o.mono (by omega)⟩)⟩
theorem qy.cell {w:World}{base g n cap:Nat}{ts:List af}(h:qy w base (.slice (some ⟨g,0,none⟩) n cap) ts)(i:Nat)(t:af)(hi:ts[i]? = some t)(j:Nat)(hj:j<9):w.cell? ⟨g,i*9+j,none⟩=(nY t).toList[j]? := by
 have hl:(nY t).toList.length=9:=rfl;have hu:(yu.f t)[j]? = some ((nY t).toList[j]'(by omega)):=bn _;have:=Own.cells h (i*9+j) _ (by rw[yu.at ts i j t hi hj];exact hu);rw[this];exact hu.symm
theorem O5 (s:ByteArray)(w:World)(hv:Vars w)(hs:s.size≤300)(ts:List af)(hl:fG (sb s)=some ts)(hne:0<ts.length) :
 Calls Tryz.prog 125 #[.string s] w fun e w'=>Below w.heap.size w w'∧∃g cap,e = .returned (.tuple #[.slice (some ⟨g,0,none⟩) ts.length cap,.int .i64 0])∧w.heap.size≤g∧g<w'.heap.size∧qy w' w.heap.size (.slice (some ⟨g,0,none⟩) ts.length cap) ts:=by
 refine(I7 s w hv).mono ?_;rintro e w' ⟨hb,h|⟨_,h,_⟩|⟨_,ts',v,h1,rfl,h2⟩⟩
 · omega
 · rw[hl]at h;cases h
 · rw[hl]at h1;injection h1 with h1;subst h1
   obtain⟨g,cap,rfl,h3,h4,_,_⟩:=Own.some h2 hne;exact⟨hb,g,cap,rfl,h3,h4,h2⟩
theorem O6 (s:ByteArray)(w:World)(hv:Vars w)(hs:s.size≤300)(hl:fG (sb s)=none) :
 Calls Tryz.prog 125 #[.string s] w fun e w'=>Below w.heap.size w w'∧e = .returned (.tuple #[.slice none 0 0,.int .i64 5]):=by
 refine(I7 s w hv).mono ?_;rintro e w' ⟨hb,h|⟨_,_,rfl⟩|⟨_,ts',v,h1,_⟩⟩
 · omega
 · exact⟨hb,rfl⟩
 · rw[hl]at h1;cases h1
structure aB where
 n:Nd
 g:Option (Nat × Nat)
def aB.bf (v:aB):Value:=match v.g with
 | none => .slice none 0 0
 | some (g,c) => .slice (some ⟨g,0,none⟩) v.n.kids.length c
def fH(n:Nd)(k:Value):Array Value:=#[.int .i64 n.kind,.int .i64 n.num,.string n.text,.string n.ref.sh,.int .i64 n.ref.c,.int .i64 n.ref.r,.bool n.ref.ac,.bool n.ref.ar,.string n.ae.sh,.int .i64 n.ae.c,.int .i64 n.ae.r,.bool n.ae.ac,.bool n.ae.ar,k]
theorem aB.one (v:aB):v.bf.oneCell'=true:=by
 unfold aB.bf;split <;> rfl
theorem ZJ (n:Nd)(k:Value)(hk:k.oneCell'=true):∀u∈(fH n k).toList,u.oneCell'=true:=by
 intro v hv;simp only[fH,List.mem_cons,List.not_mem_nil,or_false]at hv;rcases hv with rfl|rfl|rfl|rfl|rfl|rfl|rfl|rfl|rfl|rfl|rfl|rfl|rfl|rfl
 all_goals first|rfl|exact hk
def yt:Enc aB 14:={ f:=fun v=>(fH v.n v.bf).toList,len:=fun _=>rfl,one:=fun v u hu=>ZJ _ _ v.one u hu }
def jL(w:World)(lo:Nat)(nv:Value)(vs:List aB):Prop:=Own yt 48 w lo nv vs∧∀v∈vs,Own (bT .i64) 3 w lo v.bf v.n.kids
theorem jL.keep {w w':World}{lo:Nat}{nv:Value}{vs:List aB}(h:jL w lo nv vs)(hk:∀g,lo≤g→g<w.heap.size→w'.heap[g]? = w.heap[g]?):jL w' lo nv vs :=
 ⟨h.1.keep fun g a b _=>hk g a b,fun v hv=>(h.2 v hv).keep fun g a b _=>hk g a b⟩
theorem jL.nil(w:World)(lo:Nat):jL w lo (.slice none 0 0) []:=⟨Own.nil _ _ _ _,fun v hv=>absurd hv (by simp)⟩
def zL(w:World)(k:Nat):Prop:=∃cur fr,w.heap[k]? = some (.cells cur 48 fr)
structure Fr (w w':World)(b:Nat):Prop where
 os:w'.os=w.os
 tape:w'.tape=w.tape
 output:w'.output=w.output
 size:w.heap.size≤w'.heap.size
 block:∀k,k<w.heap.size→k≠b→(k<b∨¬ zL w k)→w'.heap[k]? = w.heap[k]?
theorem Fr.refl(w:World)(b:Nat):Fr w w b:=⟨rfl,rfl,rfl,ag _,fun _ _ _ _=>rfl⟩
theorem Fr.trans {w w1 w2:World}{b:Nat}(h:Fr w w1 b)(k:Fr w1 w2 b):Fr w w2 b :=
 ⟨k.os.trans h.os,k.tape.trans h.tape,k.output.trans h.output,bZ h.size k.size,fun j hj hb hr=>by
  have h1:=h.block j hj hb hr;rw[k.block j (eU hj h.size) hb (hr.imp id fun hn ⟨cur,fr,e⟩=>hn ⟨cur,fr,by rw[← h1];exact e⟩)];exact h1⟩
theorem Fr.below {w w1 w2:World}{b:Nat}(h:Fr w w1 b)(k:Below w1.heap.size w1 w2):Fr w w2 b :=
 ⟨k.os.trans h.os,k.tape.trans h.tape,k.output.trans h.output,bZ h.size k.size,fun j hj hb hr=>by
  rw[k.block j (eU hj h.size)];exact h.block j hj hb hr⟩
theorem Fr.of{w w1:World}(b:Nat)(k:Below w.heap.size w w1):Fr w w1 b:=(Fr.refl w b).below k
theorem Fr.setCell {w w1:World}{b:Nat}(h:Fr w w1 b)(o:Nat)(v:Value):Fr w (w1.setCell ⟨b,o,none⟩ v) b :=
 ⟨h.os,h.tape,h.output,by simpa using h.size,fun j hj hb hr=>by
  rw[gZ _ _ _ _ (by intro e;exact hb e)];exact h.block j hj hb hr⟩
theorem Fr.drew{w w1:World}{b:Nat}(h:Fr w w1 b):Fr w w1.drew b:=⟨h.os,h.tape,h.output,h.size,h.block⟩
theorem Fr.row {w w1 w2:World}{b:Nat}{r:Option Nat}(h:Fr w w1 b)(k:w1.grownBy w2 r)(hr:∀g,r=some g→b<g∧(w.heap.size≤g∨zL w1 g)):Fr w w2 b :=
 ⟨k.os.trans h.os,k.tape.trans h.tape,k.output.trans h.output,bZ h.size k.size,fun j hj hb hc=>by
  have h1:=h.block j hj hb hc
  rw [k.block j (eU hj h.size) (by
   intro e;obtain⟨h2,h3⟩:=hr j e.symm;rcases h3 with h3|⟨cur,fr,h3⟩
   · omega
   · rcases hc with hc|hc
     · omega
     · exact hc ⟨cur,fr,by rw[← h1];exact h3⟩)]
  exact h1⟩
theorem Fr.toBelow {w w':World}{B b:Nat}(h:Fr w w' b)(hb:B≤b)(hB:B≤w.heap.size):Below B w w' :=
 ⟨h.os,h.tape,h.output,h.size,fun j hj=>h.block j (by omega) (by omega) (.inl (by omega))⟩
theorem Own.fr {α : Type}{size:Nat}{E:Enc α size}{e:TypeId}{w w':World}{base b:Nat}{v:Value}{xs:List α}(h:Own E e w base v xs)(hf:Fr w w' b)(hb:b<base)(he:e≠48):Own E e w' base v xs:=by
 refine⟨h.1, ?_⟩;rcases h.2 with h|⟨g,cap,cur,h1,h2,h3,h4⟩
 · exact .inl h
 · refine .inr ⟨g,cap,cur,h1,h2, ?_,h4⟩
   rw [hf.block g (dZ.1 h3).1 (by omega) (.inr (by
    rintro⟨c,fr,e2⟩;rw[h3]at e2;injection e2 with e2;injection e2 with _ e2;exact he e2))];exact h3
def yh(w:World)(b:Nat)(tv:Value)(ts:List af):Prop:=∃g cap,tv = .slice (some ⟨g,0,none⟩) ts.length cap∧g<b∧qy w 0 tv ts
def pU:List (ByteArray × Nat × Int):=[(⟨#[61]⟩,0,9),(⟨#[60,62]⟩,0,10),(⟨#[60]⟩,0,11),(⟨#[60,61]⟩,0,12),(⟨#[62]⟩,0,13),(⟨#[62,61]⟩,0,14),(⟨#[38]⟩,1,15),(⟨#[43]⟩,2,16),(⟨#[45]⟩,2,17),(⟨#[42]⟩,3,18),(⟨#[47]⟩,3,19)]
def yZ:Array Value:=(pU.flatMap fun p=>[.string p.1,.int .i64 (p.2.1:Int),.int .i64 p.2.2]).toArray
def mV(w:World):Prop:=∃ty fr,w.heap[(5:Nat)]? = some (.cells yZ ty fr)
theorem mV.lt{w:World}(h:mV w):5<w.heap.size:=by obtain⟨_,_,h⟩:=h;exact(dZ.1 h).1
theorem mV.keep{w w':World}(h:mV w)(hk:w'.heap[(5:Nat)]? = w.heap[(5:Nat)]?):mV w':=by obtain⟨ty,fr,h⟩:=h;exact⟨ty,fr,by rw[hk];exact h⟩
theorem mV.below{w w':World}(h:mV w)(hb:Below w.heap.size w w'):mV w':=h.keep (hb.block _ h.lt)
structure bQ (w:World)(b:Nat)(tv:Value)(ts:List af)(p deep:Nat)(nv:Value)(vs:List aB):Prop where
 cell:w.heap[b]? = some (.cells #[tv,.int .i64 (p:Int),.int .i64 (deep:Int),nv] 172)
 toks:yh w b tv ts
 nodes:jL w (b+1) nv vs
 ops:mV w
 lt:p<ts.length
 low:max 2 5<b
 fit:Fit ts
 few:ts.length≤1000
 cnt:vs.length≤p
 nest:deep≤12
section
variable {w:World}{b:Nat}{tv:Value}{ts:List af}{p deep:Nat}{nv:Value}{vs:List aB}
theorem bQ.blt(h:bQ w b tv ts p deep nv vs):b<w.heap.size:=(dZ.1 h.cell).1
theorem bQ.below {w':World}(h:bQ w b tv ts p deep nv vs)(hb:Below w.heap.size w w'):bQ w' b tv ts p deep nv vs:=by
 have hl:=h.blt;refine⟨by rw[hb.block b hl];exact h.cell, ?_,h.nodes.keep fun g _ hg=>hb.block g hg,h.ops.below hb,h.lt,h.low,h.fit,h.few,h.cnt,h.nest⟩;obtain⟨g,cap,h1,h2,h3⟩:=h.toks;exact⟨g,cap,h1,h2,h3.keep fun g _ hg _=>hb.block g hg⟩
theorem bQ.facts (h:bQ w b tv ts p deep nv vs):w.cell? ⟨b,0,none⟩=some tv∧w.cell? ⟨b,1,none⟩=some (.int .i64 (p:Int))∧w.cell? ⟨b,2,none⟩=some (.int .i64 (deep:Int))∧w.cell? ⟨b,3,none⟩=some nv :=
 ⟨by rw[cell_of_row w b 0 _ _ _ h.cell];rfl,by rw[cell_of_row w b 1 _ _ _ h.cell];rfl,by rw[cell_of_row w b 2 _ _ _ h.cell];rfl,by rw[cell_of_row w b 3 _ _ _ h.cell];rfl⟩
theorem bQ.frozen(h:bQ w b tv ts p deep nv vs)(j:Nat):w.frozen? ⟨b,j,none⟩=false:=frozen_of_row w b j _ _ h.cell
theorem yh.set (h:yh w b tv ts)(o:Nat)(v:Value):yh (w.setCell ⟨b,o,none⟩ v) b tv ts:=by
 obtain⟨g,cap,h1,h2,h3⟩:=h;refine⟨g,cap,h1,h2,h3.keep fun j _ _ hj=>gZ _ _ _ _ ?_⟩;rw[h1]at hj;injection hj with hj;show j≠b;have:g=j:=hj;omega
theorem jL.set {c:Nat}(h:jL w (b+1) nv vs)(hc:c<b+1)(o:Nat)(v:Value):jL (w.setCell ⟨c,o,none⟩ v) (b+1) nv vs :=
 h.keep fun j hj _=>gZ _ _ _ _ (by show j≠c;omega)
theorem mV.set(h:mV w)(hb:max 2 5<b)(o:Nat)(v:Value):mV (w.setCell ⟨b,o,none⟩ v):=h.keep (gZ _ _ _ _ (by show 5≠b;omega))
theorem bQ.wo (h:bQ w b tv ts p deep nv vs)(m:Nat)(hm:m<ts.length)(hp:p≤m):bQ (w.setCell ⟨b,1,none⟩ (.int .i64 (m:Int))) b tv ts m deep nv vs :=
 ⟨by rw[heap_setCell_same w b 1 _ _ _ h.cell];rfl,h.toks.set _ _,h.nodes.set (by omega) _ _,h.ops.set h.low _ _,hm,h.low,h.fit,h.few,by have:=h.cnt;omega,h.nest⟩
theorem bQ.next(h:bQ w b tv ts p deep nv vs)(hm:p+1<ts.length):bQ (w.setCell ⟨b,1,none⟩ (.int .i64 ((p:Int)+1))) b tv ts (p+1) deep nv vs:=h.wo (p+1) hm (by omega)
theorem bQ.oO (h:bQ w b tv ts p deep nv vs)(m:Nat)(hm:m≤12):bQ (w.setCell ⟨b,2,none⟩ (.int .i64 (m:Int))) b tv ts p m nv vs :=
 ⟨by rw[heap_setCell_same w b 2 _ _ _ h.cell];rfl,h.toks.set _ _,h.nodes.set (by omega) _ _,h.ops.set h.low _ _,h.lt,h.low,h.fit,h.few,h.cnt,hm⟩
theorem bQ.drew(h:bQ w b tv ts p deep nv vs):bQ w.drew b tv ts p deep nv vs:=⟨h.cell,h.toks,h.nodes,h.ops,h.lt,h.low,h.fit,h.few,h.cnt,h.nest⟩
theorem bQ.tok (h:bQ w b tv ts p deep nv vs):∃g cap t,tv = .slice (some ⟨g,0,none⟩) ts.length cap∧ts[p]? = some t∧ts.drop p=t :: ts.drop (p+1)∧g<w.heap.size∧w.cell? ⟨g,p*9,none⟩=some (.int .i64 t.kind)∧w.cell? ⟨g,p*9+1,none⟩=some (.string t.text)∧w.cell? ⟨g,p*9+2,none⟩=some (.int .i64 t.num)∧w.cell? ⟨g,p*9+3,none⟩=some (.string t.sh)∧w.cell? ⟨g,p*9+4,none⟩=some (.int .i64 t.c)∧w.cell? ⟨g,p*9+5,none⟩=some (.int .i64 t.r)∧w.cell? ⟨g,p*9+6,none⟩=some (.bool t.ac)∧w.cell? ⟨g,p*9+7,none⟩=some (.bool t.ar)∧w.cell? ⟨g,p*9+8,none⟩=some (.int .i64 t.pos):=by
 obtain⟨g,cap,h1,h2,h3⟩:=h.toks;have hl:=h.lt;rw[h1]at h3;have hc:=fun j hj=>qy.cell h3 p _ (bn hl) j hj
 exact⟨g,cap,ts[p],h1,bn hl,List.drop_eq_getElem_cons hl,by have:=h.blt;omega,hc 0 (by omega),hc 1 (by omega),hc 2 (by omega),hc 3 (by omega),hc 4 (by omega),hc 5 (by omega),hc 6 (by omega),hc 7 (by omega),hc 8 (by omega)⟩
end
theorem Fit.next {ts:List af}{p:Nat}{t:af}(h:Fit ts)(ht:ts[p]? = some t)(hk:t.kind≠0):p+1<ts.length:=by
 obtain⟨body,e,rfl,he,_⟩:=h;have hp:=(dm.1 ht).1;rw[aj,fq]at hp ⊢;rcases Nat.lt_or_ge p body.length with h1|h1
 · omega
 · exfalso
   rw[List.getElem?_append_right h1,show p - body.length=0 from by omega]at ht;simp at ht;subst ht;exact hk he
def uU(b n:Nat)(w:World):Nat:=n - (match w.cell? ⟨b,1,none⟩with|some (.int _ m)=>m.toNat|_=>0)
theorem bQ.uU {w:World}{b:Nat}{tv:Value}{ts:List af}{p deep:Nat}{nv:Value}{vs:List aB}(h:bQ w b tv ts p deep nv vs)(n:Nat):uU b n w=n - p:=by
 unfold Go.Proofs.YtdnooocmlhcpkaaGreatDoor.uU;rw[h.facts.2.1];rfl
theorem Mk:∃j,Tryz.prog.info? 134=some j∧j.size=2:=by
 have h:(Tryz.prog.info? 134).map (·.size)=some 2:=by kernel_rfl
 obtain⟨j,h1,h2⟩:=Option.map_eq_some_iff.1 h;exact⟨j,h1,h2⟩
structure gF (w w':World)(b:Nat):Prop where
 os:w'.os=w.os
 tape:w'.tape=w.tape
 output:w'.output=w.output
 size:w.heap.size≤w'.heap.size
 block:∀k,k<w.heap.size→k≠b→(k<b∨∀cur fr,w.heap[k]? ≠ some (.cells cur 5 fr))→w'.heap[k]? = w.heap[k]?
theorem gF.refl(w:World)(b:Nat):gF w w b:=⟨rfl,rfl,rfl,ag _,fun _ _ _ _=>rfl⟩
theorem gF.trans {w w1 w2:World}{b:Nat}(h:gF w w1 b)(k:gF w1 w2 b):gF w w2 b :=
 ⟨k.os.trans h.os,k.tape.trans h.tape,k.output.trans h.output,bZ h.size k.size,fun j hj hb hr=>by
  have h1:=h.block j hj hb hr;rw[k.block j (eU hj h.size) hb (hr.imp id fun hn cur fr=>by rw[h1];exact hn cur fr)];exact h1⟩
theorem gF.setCell {w:World}{b:Nat}(j:Nat)(v:Value):gF w (w.setCell ⟨b,j,none⟩ v) b :=
 have h:=grownBy.setCell' (grownBy.refl' w (some b)) j v
 ⟨h.os,h.tape,h.output,h.size,fun k hk hkb _=>h.block k hk (fun e=>hkb (dX e))⟩
theorem gF.grown {w w':World}{b g:Nat}(h:w.grownBy w' (some g))(hg:∃cur fr,w.heap[g]? = some (.cells cur 5 fr))(hb:b<g):gF w w' b :=
 ⟨h.os,h.tape,h.output,h.size,fun k hk hkb hr=>h.block k hk (by
  intro e;injection e with e;subst e;rcases hr with hr|hr
  · omega
  · obtain⟨cur,fr,hx⟩:=hg;exact hr cur fr hx)⟩
theorem acj {P:Program}{α : Type}{size t tx ty e bytes:Nat}{w:World}(dA:Elem P t e size bytes)(E:Enc α size)(base:Nat)(v:Value)(xs:List α)(hown:Own E e w base v xs)
 (x:Value)(m:Nat)(ys:List α)(hl:ys.length=m)(hs:Src P size tx x m (E.all ys) w)(hb:(xs.length+m)*bytes≤140737488355328)(hb2:xs.length+m≤maxLen)(hbase:base≤w.heap.size) :
 ∃v' w',(Builtin.append_ #[t,tx] ty #[v,x]).run P w = .ok v' w'∧Own E e w' base v' (xs++ys)∧w.grownBy w' v.ownBlock:=by
 obtain⟨z,hi,hz⟩:=dA.inf;obtain⟨i,hi1,hi2,hi3,hi4⟩:=info_parts hi;have ht:=dA.und;subst hi3;subst hi4;have hlx:=E.ku xs;have uP:=E.ku ys;rw[hl]at uP;have hlen:(E.all (xs++ys)).length=(xs.length+m)*i.size:=by rw[E.ku,aj,hl]
 have hsmall:xs.length+m≤9223372036854775807:=by simp only[maxLen]at hb2;omega
 have grown:∀(old:Nat),old<xs.length+m →
  Own E e (w.drew.alloc (.cells ((E.all xs++E.all ys).toArray++Builtin.zeroCells z.cells (grownCap w (xs.length+m) old e - (xs.length+m))) e)) base (.slice (some ⟨w.heap.size,0,none⟩) (xs.length+m) (grownCap w (xs.length+m) old e)) (xs++ys) ∧
  ∀r,w.grownBy (w.drew.alloc (.cells ((E.all xs++E.all ys).toArray++Builtin.zeroCells z.cells (grownCap w (xs.length+m) old e - (xs.length+m))) e)) r:=by
  intro old ho;have hge:=grownCap_ge w (xs.length+m) old e;have hcm:grownCap w (xs.length+m) old e≤maxLen:=grownCap_le_maxLen w (xs.length+m) old e hb2;refine⟨?_,fun r=>grownBy.below' (grownBy.refl' _ _) (((ai _ _).drew).alloc (ag _) _)⟩;unfold Own;rw[aj,hl];refine⟨hlen,.inr ⟨w.heap.size,_,_,rfl,hbase,heap_alloc_new w.drew _,hge,hcm, ?_, ?_⟩⟩
  · simp only[Array.size_append,List.size_toArray,size_zeroCells,hz,aj,hlx,uP, ← Nat.add_mul]
    congr 1;omega
  · simp only[Array.toList_append]
    rw[← E.all_append, ← hlen];exact List.take_left
 have h0:=hown;rcases hown.2 with ⟨rfl,hn⟩|⟨g,cap,cur,rfl,hbg,hg,hnc,hcm,hcs,htake⟩
 · have hx:xs=[]:=l5 hn
   subst hx;by_cases hm:m=0
   · subst hm
     have hy:ys=[]:=l5 hl;subst hy;refine⟨.slice none 0 0,w, ?_,Own.nil E e w base,grownBy.refl' _ _⟩;have hc:=hs.cells;have hll:=hs.len;have hc':(Builtin.firstCells i.size 0 x).run P w = .ok #[] w:=hc
     rcases hs.kind with ⟨e',hk⟩|hk <;>
      simp[Builtin.append_,run_underlying ht,run_underlying hk,sizeOf,typeInfo,hi1,hll,hc']
   · have hgr:=grown 0 (by simp;omega)
     have hr:=run_append_grow_src (P:=P) w t tx ty e i z ht hi1 hi2 none 0 0 [] (by simp[Builtin.firstCells]) x m (E.all ys) hs (by omega) (by simp at hsmall;omega) (growslice_fits (by omega) (by simpa using hb));simp only[dY,Nat.zero_add,fQ,Enc.all,List.flatMap_nil]at hgr hr ⊢;exact⟨_,_,hr,hgr.1,hgr.2 _⟩
 · by_cases hroom:xs.length+m≤cap
   · have hfit:xs.length*i.size+(E.all ys).length≤cur.size:=by rw[uP,hcs, ← Nat.add_mul];exact Nat.mul_le_mul_right _ hroom
     have hst:=run_storeCells_at P g (xs.length*i.size) e (E.all ys) 0 cur w hg (by omega) (E.yY ys);simp only[Nat.add_zero]at hst;refine⟨.slice (some ⟨g,0,none⟩) (xs.length+m) cap,w.setRow g (cur.toList.take (xs.length*i.size)++E.all ys++cur.toList.drop (xs.length*i.size+(E.all ys).length)).toArray, ?_, ?_, ?_⟩
     · rcases hs.kind with ⟨e',hk⟩|hk <;> simp[Builtin.append_,run_underlying ht,run_underlying hk,sizeOf,typeInfo,hi1,hs.len,hroom,hs.cells,Addr.add_lit,hst]
     · unfold Own
       rw[aj,hl];refine⟨hlen,.inr ⟨g,cap,_,rfl,hbg,setRow_heap w g cur _ e _ hg,hroom,hcm, ?_, ?_⟩⟩
       · simp only[List.size_toArray,aj,gD,List.length_drop,Array.length_toList]
         omega
       · rw[htake, ← hlen, ← E.all_append]
         exact List.take_left
     · exact⟨rfl,rfl,rfl,by simp,fun k hk hne=>setRow_other w g k _ (fun e=>hne (congrArg some e))⟩
   · have hold:(Builtin.firstCells i.size xs.length (.slice (some ⟨g,0,none⟩) xs.length cap)).run P w.drew = .ok (E.all xs).toArray w.drew :=
      run_firstCells_some w.drew i.size xs.length ⟨g,0,none⟩ xs.length cap (E.all xs) hlx (World.ownsRow.cells (w:=w.drew) h0 (g:=g) rfl)
     have hgr:=grown cap (by omega);have hr:=run_append_grow_src (P:=P) w t tx ty e i z ht hi1 hi2 (some ⟨g,0,none⟩) xs.length cap (E.all xs) hold x m (E.all ys) hs (by omega) (by omega) (growslice_fits (by omega) hb);exact⟨_,_,hr,hgr.1,hgr.2 _⟩
theorem RO {P:Program}{α : Type}{size t tx e bytes:Nat}{w:World}{ops:Array Oper}{rest:List Oper}{o:Oper}{a:Act}{Q:Exit→Act→World→Prop}(dA:Elem P t e size bytes)(E:Enc α size)
 (hgd:o.guard=none)(s x:Operand)(ho:o.op = .call { callee := .builtin .append,args:=#[s,x],argTypes:=#[t,tx] })(base:Nat)(v:Value)(xs:List α)
 (hs:a.eval s=v)(hown:Own E e w base v xs)(y:Value)(m:Nat)(ys:List α)(hx:a.eval x=y)(hl:ys.length=m)(hsrc:Src P size tx y m (E.all ys) w)
 (hb:(xs.length+m)*bytes≤140737488355328)(hb2:xs.length+m≤maxLen)(hbase:base≤w.heap.size)
 (h:∀(v':Value)(w':World),Own E e w' base v' (xs++ys)→w.grownBy w' v.ownBlock→wpList P ops Q rest (a.put o.dst v') w'):wpList P ops Q (o :: rest) a w:=by
 obtain⟨v',w',hrun,h2,h3⟩:=acj (ty:=o.type) dA E base v xs hown y m ys hl hsrc hb hb2 hbase;refine wpList_plain hgd fun _ hK => ?_
 unfold Oper.wp execOp;simp only[ho,resolve,invoke,builtin,Sem.run_bind,Sem.run_pure,Result.andThen_ok,List.map_toArray,jb,List.map_nil,hs,hx,hrun];exact hK _ _ (h v' w' h2 h3)
theorem Jr {w:World}{b:Nat}{v:Value}{xs:List Int}(h:oz w b v xs)(g:Nat)(hg:v.ownBlock=some g):b≤g∧∃cur fr,w.heap[g]? = some (.cells cur 5 fr):=by
 rcases h.2 with ⟨h1,_⟩|⟨g',cap',cur,h1,h2,h3,_⟩
 · rw[h1]at hg;cases hg
 · rw[h1]at hg
   have:g'=g:=dX hg;subst this;exact⟨h2,cur,_,h3⟩
theorem EL {α : Type}{size:Nat}{E:Enc α size}{e:TypeId}{w:World}{b:Nat}{v:Value}{xs:List α}(h:Own E e w b v xs):∃ao n c,v = .slice ao n c:=by
 rcases h.2 with ⟨h1,_⟩|⟨g,cap,cur,h1,_⟩
 · exact⟨_,_,_,h1⟩
 · exact⟨_,_,_,h1⟩
theorem gF.own {w w':World}{b:Nat}{v:Value}{xs:List Int}(h:oz w (b+1) v xs)(hg:w.grownBy w' v.ownBlock):gF w w' b:=by
 cases hv:v.ownBlock with
 | none =>
   rw[hv]at hg;exact⟨hg.os,hg.tape,hg.output,hg.size,fun k hk _ _=>hg.block k hk (by simp)⟩
 | some g =>
   rw[hv]at hg;obtain⟨h1,h2⟩:=Jr h g hv;exact gF.grown hg h2 (by omega)
def fJ(w:World)(b:Nat)(nv wv ad bv:Value):Prop:=w.heap[b]? = some (.cells #[nv,wv,ad,bv] 136)
section
variable {w:World}{b:Nat}{nv wv ad bv:Value}
theorem fJ.lt(h:fJ w b nv wv ad bv):b<w.heap.size:=(dZ.1 h).1
theorem fJ.facts (h:fJ w b nv wv ad bv):w.cell? ⟨b,0,none⟩=some nv∧w.cell? ⟨b,1,none⟩=some wv∧w.cell? ⟨b,2,none⟩=some ad∧w.cell? ⟨b,3,none⟩=some bv :=
 ⟨by rw[cell_of_row w b 0 _ _ _ h];rfl,by rw[cell_of_row w b 1 _ _ _ h];rfl,by rw[cell_of_row w b 2 _ _ _ h];rfl,by rw[cell_of_row w b 3 _ _ _ h];rfl⟩
theorem fJ.frozen(h:fJ w b nv wv ad bv)(j:Nat):w.frozen? ⟨b,j,none⟩=false:=frozen_of_row w b j _ _ h
theorem fJ.below{w':World}{B:Nat}(h:fJ w b nv wv ad bv)(hb:Below B w w')(hB:b<B):fJ w' b nv wv ad bv:=by unfold fJ;rw[hb.block b hB];exact h
theorem fJ.Qa(h:fJ w b nv wv ad bv)(v:Value):fJ (w.setCell ⟨b,1,none⟩ v) b nv v ad bv:=by unfold fJ;rw[heap_setCell_same w b 1 _ _ _ h];rfl
theorem fJ.qH(h:fJ w b nv wv ad bv)(v:Value):fJ (w.setCell ⟨b,2,none⟩ v) b nv wv v bv:=by unfold fJ;rw[heap_setCell_same w b 2 _ _ _ h];rfl
theorem fJ.y8(h:fJ w b nv wv ad bv)(v:Value):fJ (w.setCell ⟨b,3,none⟩ v) b nv wv ad v:=by unfold fJ;rw[heap_setCell_same w b 3 _ _ _ h];rfl
theorem fJ.shape (h:fJ w b nv wv ad bv):w.shape? b=some (136,4):=by
 have h':w.heap[b]? = some (.cells #[nv,wv,ad,bv] 136):=h;simp[World.shape?,h']
end
theorem Vy (w:World)(b:Nat)(h0:w.cell? ⟨b,2,none⟩=some (.pointer (some ⟨b,2,none⟩))) :
 Calls Tryz.prog 160 #[.pointer (some ⟨b,2,none⟩)] w fun e w'=>e = .returned (.tuple #[])∧w=w':=by
 obtain⟨j,hj,_⟩:=Mk;go_enter Tryz.func160,Tryz.ntmps160;go_wp2_with fail
 rw[Lib.run_neq_ptr_same w _ Tryz.underlying132 hj];go_wp2_with fail
 go_end0;exact⟨rfl,rfl⟩
theorem Vx (w:World)(b:Nat)(nv wv bv:Value)(h:fJ w b nv wv (.pointer none) bv) :
 Calls Tryz.prog 160 #[.pointer (some ⟨b,2,none⟩)] w fun e w'=>e = .returned (.tuple #[])∧w.setCell ⟨b,2,none⟩ (.pointer (some ⟨b,2,none⟩))=w':=by
 obtain⟨j,hj,hjs⟩:=Mk;obtain⟨-, -,h0, -⟩:=h.facts;have hfz:=h.frozen 2;have hsh:=h.shape;have hlies:liesAt Tryz.prog Tryz.prog.depth 136 (4 / Tryz.prog.cellsOf 136) 2 134 1=true:=by kernel_rfl
 go_enter Tryz.func160,Tryz.ntmps160;go_wp2_with fail
 rw[Lib.run_to_unsafe w ⟨b,2,none⟩ Tryz.underlying132 Tryz.underlying213 hj (by rw[hjs];decide) hsh (by show 2<4;omega)];simp only[Result.andThen];rw[Oper.upon_value];go_wp2_with fail
 rw[run_callFunc_extern Tryz.func193 (by kernel_rfl) (by kernel_rfl) (by kernel_rfl) (e:=Extern.AbiNoEscape.same) (by kernel_rfl)];rw[Lib.run_noEscape];simp only[Result.andThen];rw[Oper.upon_value];go_wp2_with fail
 rw[Lib.run_from_unsafe w ⟨b,2,none⟩ Tryz.underlying213 Tryz.underlying132 hj hsh hlies];simp only[Result.andThen];rw[Oper.upon_value];go_wp2_with fail
 go_end0;exact⟨rfl,rfl⟩
def j5(w:World)(b:Nat)(nv wv:Value)(txt:List Int):Prop:=∃ad bv,fJ w b nv wv ad bv∧(ad = .pointer none∨ad = .pointer (some ⟨b,2,none⟩))∧oz w (b+1) bv txt∧Bytes txt
theorem j5.lt{w:World}{b:Nat}{nv wv:Value}{txt:List Int}(h:j5 w b nv wv txt):b<w.heap.size:=by obtain⟨_,_,h,_⟩:=h;exact h.lt
theorem j5.below {w w':World}{b:Nat}{nv wv:Value}{txt:List Int}(h:j5 w b nv wv txt)(hb:Below w.heap.size w w'):j5 w' b nv wv txt:=by
 have hl:=h.lt;obtain⟨ad,bv,h1,h2,h3,h4⟩:=h;exact⟨ad,bv,h1.below hb hl,h2,h3.below hb (ag _),h4⟩
theorem qN (w:World)(b:Nat)(nv wv:Value)(txt:List Int)(s:ByteArray)(h:j5 w b nv wv txt)(hlen:txt.length+s.size≤10000000000) :
 Calls Tryz.prog 129 #[.pointer (some ⟨b,2,none⟩),.string s] w fun e w'=>(∃x,e = .returned (.tuple #[x,.nilIface]))∧j5 w' b nv wv (txt++sb s)∧gF w w' b:=by
 have step:∀(ad bv:Value)(wc:World),fJ wc b nv wv ad bv→oz wc (b+1) bv txt→∀(v':Value)(w1:World),oz w1 (b+1) v' (txt++sb s)→wc.grownBy w1 bv.ownBlock→fJ w1 b nv wv ad bv∧gF wc w1 b:=by
  intro ad bv wc h1 h2 v' w1 _ hg;have hf:=gF.own h2 hg;refine⟨?_,hf⟩;unfold fJ;rw[hg.block b h1.lt (fun e=>by have:=Jr h2 b e.symm;omega)];exact h1
 have HST:=aa step;have hsm:s.size≤10000000000:=by omega
 obtain⟨ad,bv,hw,had,ho,hby⟩:=h;have vk:=aa (hby.append (uh s));clear hby;clear step;rcases had with rfl|rfl
 · have FT:=aa (Vx w b nv wv bv hw)
   have HW:=aa (hw.qH (.pointer (some ⟨b,2,none⟩)));have HO:=aa (Own.other ho (grownBy.setCell' (grownBy.refl' w (some b)) 2 (.pointer (some ⟨b,2,none⟩))) (Nat.lt_succ_self b):oz (w.setCell ⟨b,2,none⟩ (.pointer (some ⟨b,2,none⟩))) (b+1) bv txt);have HF:=aa (gF.setCell (w:=w) (b:=b) 2 (.pointer (some ⟨b,2,none⟩)));clear hw ho;go_enter Tryz.func129,Tryz.ntmps129;go_upto_region 2 with (go_at_call 160;((with_reducible refine FT.o.mono ?_);rintro e w1 ⟨rfl,rfl⟩))
   generalize w.setCell ⟨b,2,none⟩ (.pointer (some ⟨b,2,none⟩))=w1 at HW HO HF ⊢;obtain⟨c0,c1,c2,c3⟩:=HW.o.facts;have hbz:=HW.o.lt;go_wp2_with (at_builtin;refine RO Elem.u8 (bT .u8) rfl (.tmp 12) (.tmp 13) rfl (b+1) _ _ rfl HO.o (.string s) s.size (sb s) rfl (bC s) (Fp s) ?_ ?_ ?_ ?_;omega;(unfold maxLen;omega);omega;intro v3 w3 h1 h2;obtain⟨sI,n3,c3',hv3⟩:=EL h1;subst hv3;obtain⟨h3,h4⟩:=HST.o _ _ _ HW.o HO.o _ w3 h1 h2;have f3:=h3.frozen 3;obtain⟨y0,y1,y2,y3⟩:=h3.facts;have HW3:=aa (h3.y8 (.slice sI n3 c3'));have dF:=aa ((HF.o.trans h4).trans (gF.setCell 3 (.slice sI n3 c3')));have fA:=aa (Own.other h1 (grownBy.setCell' (grownBy.refl' w3 (some b)) 3 (.slice sI n3 c3')) (Nat.lt_succ_self b):oz (w3.setCell ⟨b,3,none⟩ (.slice sI n3 c3')) (b+1) (.slice sI n3 c3') (txt++sb s));clear h1 h2 h3 h4 c0 c1 c2 c3)
   go_ret2
   exact⟨⟨_,rfl⟩,⟨_,_,HW3.o,.inr rfl,fA.o,vk.o⟩,dF.o⟩
 · have FT:=aa (Vy w b hw.facts.2.2.1)
   have HW:=aa hw;have HO:=aa ho;have HF:=aa (gF.refl w b);clear hw ho;go_enter Tryz.func129,Tryz.ntmps129;go_upto_region 2 with (go_at_call 160;((with_reducible refine FT.o.mono ?_);rintro e w1 ⟨rfl,rfl⟩))
   obtain⟨c0,c1,c2,c3⟩:=HW.o.facts;have hbz:=HW.o.lt;go_wp2_with (at_builtin;refine RO Elem.u8 (bT .u8) rfl (.tmp 12) (.tmp 13) rfl (b+1) _ _ rfl HO.o (.string s) s.size (sb s) rfl (bC s) (Fp s) ?_ ?_ ?_ ?_;omega;(unfold maxLen;omega);omega;intro v3 w3 h1 h2;obtain⟨sI,n3,c3',hv3⟩:=EL h1;subst hv3;obtain⟨h3,h4⟩:=HST.o _ _ _ HW.o HO.o _ w3 h1 h2;have f3:=h3.frozen 3;obtain⟨y0,y1,y2,y3⟩:=h3.facts;have HW3:=aa (h3.y8 (.slice sI n3 c3'));have dF:=aa ((HF.o.trans h4).trans (gF.setCell 3 (.slice sI n3 c3')));have fA:=aa (Own.other h1 (grownBy.setCell' (grownBy.refl' w3 (some b)) 3 (.slice sI n3 c3')) (Nat.lt_succ_self b):oz (w3.setCell ⟨b,3,none⟩ (.slice sI n3 c3')) (b+1) (.slice sI n3 c3') (txt++sb s));clear h1 h2 h3 h4 c0 c1 c2 c3)
   go_ret2
   exact⟨⟨_,rfl⟩,⟨_,_,HW3.o,.inr rfl,fA.o,vk.o⟩,dF.o⟩
theorem Vk:Tryz.prog.cellsOf 5=1:=by kernel_rfl
theorem acz(s:ByteArray):sb s=s.data.toList.map fun x=>(x.toNat:Int):=rfl
theorem adB (w:World)(b:Nat)(nv wv:Value)(txt:List Int)(h:j5 w b nv wv txt)(hne:txt≠[]) :
 Calls Tryz.prog 92 #[.pointer (some ⟨b,2,none⟩)] w fun e w'=>e = .returned (.string (strOfNums txt))∧Below (b+1) w w':=by
 obtain⟨ad,bv,hw, -,ho,hby⟩:=h;obtain⟨s,hs⟩:∃s,strOfNums txt=s:=⟨_,rfl⟩;have hsb:sb s=txt:=by rw[← hs];exact gK txt hby
 rw[hs];obtain⟨l,hl⟩:∃l,s.data.toList=l:=⟨_,rfl⟩;have hls:(⟨l.toArray⟩:ByteArray)=s:=by rw[← hl]
 have htx:txt=l.map fun x=>(x.toNat:Int):=by rw[← hsb,acz,hl]
 have hl0:l≠[]:=fun e=>hne (by rw[htx,e];rfl)
 have hlen:txt.length=l.length:=by rw[htx,dN]
 obtain⟨g,cap,cur,rfl,hbg,hg,hnc,hcm,hcs,htake⟩:=ho.2.resolve_left (fun h=>hl0 (List.length_eq_zero_iff.1 (by rw[← hlen];exact h.2)));have hlp:0<l.length:=List.length_pos_iff.2 hl0;have HO:=ho;rw[hlen]at hnc hw;have c3:w.cell? ⟨b,3,none⟩=some (.slice (some ⟨g,0,none⟩) l.length cap):=hw.facts.2.2.2
 have hSD:(Builtin.unsafeSliceData_ #[22] 185 #[.slice (some ⟨g,0,none⟩) l.length cap]).run Tryz.prog w.drew = .ok (.pointer (some ⟨g,0,none⟩)) w.drew :=
  Lib.run_unsafeSliceData_row _ _ _ _ _ _ (by omega)
 have hUS:(Builtin.unsafeString_ #[185,3] 9 #[.pointer (some ⟨g,0,none⟩),.int .i64 l.length]).run Tryz.prog w.drew = .ok (.string s) (w.drew.freeze ⟨g,0,none⟩ l.length):=by
  rw[← hls];refine Lib.run_unsafeString_row w.drew 185 3 9 5 Tryz.underlying185 Vk g cur.size (by have hg':w.drew.heap[g]? = some (.cells cur 5):=hg;simp[World.shape?,hg']) l hl0 (by omega) (by unfold maxLen at hcm;omega) ?_;intro j x hx;have h1:(txt.map fun y=>Value.int .u8 y)[j]? = some (.int .u8 (x.toNat:Int)):=by rw[htx,List.map_map,iD,hx];rfl
  have h2:((bT .u8).all txt)[j]? = some (.int .u8 (x.toNat:Int)):=by rw[BJ];exact h1
  have:=Own.cells HO j _ h2
  simpa [Addr.add_mid]using this
 clear HO ho hby htake hcs htx hsb hl hls hs;go_enter Tryz.func92,Tryz.ntmps92;go_wp2_with fail
 go_region
 all_goals (go_wp2_with fail;go_ret;exact⟨rfl,Lib.below_freeze (Below.drew (ai (b+1) w)) (p:=⟨g,0,none⟩) hbg _⟩)
theorem abR:Tryz.f127.results=#[.cell 2 154]:=by kernel_rfl
theorem aan {w:World}{b:Nat}{t:af}(h:aC w b t)(fn:Func)(tmps:Array Value)(p:Tmp)(hf:fn.results=#[.cell p 154])(hp:tmps.getD p undef = .pointer (some ⟨b,0,none⟩)) :
 (results fn tmps).run Tryz.prog w = .ok (.agg (nY t)) w:=results_cell_row hf tmps w b 154 _ _ _ hp h Tryz.underlying154 rfl Rs
theorem ER {w:World}{b:Nat}{tv:Value}{ts:List af}{p deep:Nat}{nv:Value}{vs:List aB}(h:bQ w b tv ts p deep nv vs)(t:af)(ht:ts[p]? = some t) :
 Calls Tryz.prog 127 #[.pointer (some ⟨b,0,none⟩)] w fun e w'=>e = .returned (.agg #[.int .i64 t.kind,.string t.text,.int .i64 t.num,.string t.sh,.int .i64 t.c,.int .i64 t.r,.bool t.ac,.bool t.ar,.int .i64 t.pos])∧Below w.heap.size w w':=by
 have hal:Below w.heap.size w (w.alloc (.cells jk 154)):=(ai _ _).alloc (ag _) _;have h1:=h.below hal;obtain⟨c0,c1,c2,c3⟩:=h1.facts;obtain⟨g,cap,t',rfl,ht', -,hg,k0,k1,k2,k3,k4,k5,k6,k7,k8⟩:=h1.tok;rw[ht]at ht';injection ht' with ht';subst ht';have hlt:=h.lt;have hi1:(0:Int)≤(p:Int):=by omega
 have hi2:(p:Int)<(ts.length:Int):=by omega
 obtain⟨n,hn⟩:∃n,ts.length=n:=⟨_,rfl⟩;rw[hn]at hi2 c0;have bu:=aC.zero w;obtain⟨x0,x1,x2,x3,x4,x5,x6,x7,az⟩:=bu.cells;obtain⟨f0,f1,f2,f3,f4,f5,f6,f7,f8⟩:=bu.bK;have bu:=aa bu;have aR:=aa hal;clear h h1 hal c2 c3 ht hlt hn;go_enter Tryz.func127,Tryz.ntmps127;go_wp2_with fail
 go_region
 go_wp2_with fail
 exact bodyPost_ret (aan (aC.new w t).drew _ _ 2 abR rfl) rfl ⟨rfl,((ai _ _).alloc (ag _) _).drew⟩
theorem Fh{s:ByteArray}{ts:List af}{p:Nat}{t:af}(hd:ts.drop p=t :: ts.drop (p+1)):au s (ts.drop p)=(decide (t.kind=5)&&decide (t.text=s)):=by rw[hd];rfl
theorem yO {w:World}{b:Nat}{tv:Value}{ts:List af}{p deep:Nat}{nv:Value}{vs:List aB}(h:bQ w b tv ts p deep nv vs)(s:ByteArray) :
 Calls Tryz.prog 185 #[.pointer (some ⟨b,0,none⟩),.string s] w fun e w'=>e = .returned (.bool (au s (ts.drop p)))∧Below w.heap.size w w':=by
 obtain⟨g,cap,t, -,ht,hd, -⟩:=h.tok;have HT:=aa (ER h t ht);have HS:=aa (Fh (s:=s) hd);clear h ht hd;go_enter Tryz.func185,Tryz.ntmps185;go_upto_region 2 with (go_at_call 127;((with_reducible refine HT.o.mono ?_);rintro e w1 ⟨rfl,h1⟩;have HB:=aa h1;clear h1))
 have hB3:Below w1.heap.size w1 (w1.alloc (.cells #[.int .i64 t.kind,.string t.text,.int .i64 t.num,.string t.sh,.int .i64 t.c,.int .i64 t.r,.bool t.ac,.bool t.ar,.int .i64 t.pos] 154)):=(ai _ _).alloc (ag _) _;have aA:aC (w1.alloc (.cells #[.int .i64 t.kind,.string t.text,.int .i64 t.num,.string t.sh,.int .i64 t.c,.int .i64 t.r,.bool t.ac,.bool t.ar,.int .i64 t.pos] 154)) w1.heap.size t:=aC.new w1 t;have HB3:=aa (HB.o.trans (hB3.mono HB.o.size));clear hB3 HB;generalize w1.alloc (.cells #[.int .i64 t.kind,.string t.text,.int .i64 t.num,.string t.sh,.int .i64 t.c,.int .i64 t.r,.bool t.ac,.bool t.ar,.int .i64 t.pos] 154)=w3 at aA HB3 ⊢;obtain⟨x0,x1,x2,x3,x4,x5,x6,x7,az⟩:=aA.cells;clear aA;by_cases h5:t.kind=5
 · have e5:(t.kind == 5)=true:=beq_iff_eq.2 h5
   by_cases hs:t.text=s
   · have hs1:t.text.toList=s.toList:=by rw[hs]
     have dG:=aa (show au s (ts.drop p)=true by rw[HS.o,decide_eq_true h5,decide_eq_true hs];rfl);clear h5 hs;go_wp2_with fail
     go_ret;exact⟨by rw[dG.o];rfl,HB3.o⟩
   · have dG:=aa (show au s (ts.drop p)=false by rw[HS.o,decide_eq_true h5,decide_eq_false hs];rfl)
     have HE:=aa (show(t.text.toList == s.toList)=false from beq_eq_false_iff_ne.2 (nX _ _ hs));clear h5 hs;go_wp2_with fail
     go_ret;exact⟨by rw[dG.o];exact dD HE.o,HB3.o⟩
 · have e5:(t.kind == 5)=false:=beq_eq_false_iff_ne.2 h5
   have dG:=aa (show au s (ts.drop p)=false by rw[HS.o,decide_eq_false h5];rfl);clear h5;go_wp2_with fail
   go_ret;exact⟨by rw[dG.o];rfl,HB3.o⟩
theorem zh {w:World}{b:Nat}{tv:Value}{ts:List af}{p deep:Nat}{nv:Value}{vs:List aB}(h:bQ w b tv ts p deep nv vs){s:ByteArray}(hs:au s (ts.drop p)=true):p+1<ts.length:=by
 obtain⟨g,cap,t, -,ht,hd, -⟩:=h.tok;rw[Fh hd,dE,decide_eq_true_iff]at hs;exact h.fit.next ht (by omega)
theorem ab4 {w:World}{b:Nat}{tv:Value}{ts:List af}{p deep:Nat}{nv:Value}{vs:List aB}(h:bQ w b tv ts p deep nv vs)(hne:0<vs.length) :
 Calls Tryz.prog 188 #[.pointer (some ⟨b,0,none⟩)] w fun e w'=>e = .returned (.int .i64 ((vs.length:Int) - 1))∧w=w':=by
 obtain⟨c0,c1,c2,c3⟩:=h.facts;obtain⟨g,cap,rfl, -, -, -, -⟩:=Own.some h.nodes.1 hne;have h1:=h.cnt;have h2:=h.few;have h3:=h.lt;have hw1 : -9223372036854775808≤(vs.length:Int) - 1:=by omega
 have hw2:(vs.length:Int) - 1≤9223372036854775807:=by omega
 obtain⟨n,hn⟩:∃n,vs.length=n:=⟨_,rfl⟩;rw[hn]at c3 hw1 hw2 ⊢;clear h c0 c1 c2 h1 h2 h3 hne hn;go_enter Tryz.func188,Tryz.ntmps188;go_wp2_with fail
 go_ret;exact⟨rfl,rfl⟩
theorem Js {w:World}{b:Nat}{tv:Value}{ts:List af}{p deep:Nat}{nv:Value}{vs:List aB}(h:bQ w b tv ts p deep nv vs)(s:ByteArray) :
 Calls Tryz.prog 218 #[.pointer (some ⟨b,0,none⟩),.string s] w fun e w'=>Fr w w' b∧e = .returned (.bool (au s (ts.drop p)))∧bQ w' b tv ts (if au s (ts.drop p)=true then p+1 else p) deep nv vs:=by
 have HS:=aa (yO h s);have HP:=aa h;cases hq:au s (ts.drop p)
 · rw[hq]at HS
   clear h hq;go_enter Tryz.func218,Tryz.ntmps218;go_wp2_with (go_at_call 185;((with_reducible refine HS.o.mono ?_);rintro e w1 ⟨rfl,h1⟩;have HB:=aa h1;clear h1))
   go_ret;exact⟨Fr.of b HB.o,rfl,HP.o.below HB.o⟩
 · have hnx:=zh h hq
   have h2:=h.few;rw[hq]at HS;clear h hq;go_enter Tryz.func218,Tryz.ntmps218;go_wp2_with (go_at_call 185;((with_reducible refine HS.o.mono ?_);rintro e w1 ⟨rfl,h1⟩;have HB:=aa h1;have bJ:=aa (HP.o.below h1);clear h1;obtain⟨c0,c1,c2,c3⟩:=bJ.o.facts;have f1:=bJ.o.frozen 1))
   go_ret;exact⟨(Fr.of b HB.o).setCell _ _,rfl,bJ.o.next hnx⟩
theorem xq {w:World}{b:Nat}{tv:Value}{ts:List af}{p deep:Nat}{nv:Value}{vs:List aB}(h:bQ w b tv ts p deep nv vs)(hnx:p+1<ts.length) :
 Calls Tryz.prog 186 #[.pointer (some ⟨b,0,none⟩)] w fun e w'=>Fr w w' b∧((12≤deep∧e = .returned (.int .i64 6))∨(¬ 12≤deep∧e = .returned (.int .i64 0)∧bQ w' b tv ts (p+1) (deep+1) nv vs)):=by
 obtain⟨c0,c1,c2,c3⟩:=h.facts;have f1:=h.frozen 1;have f2:=h.frozen 2;have hn:=h.nest;have hf:=h.few;have HP:=aa h;clear h;by_cases hd:12≤deep
 · have e12:((deep:Int) == 12)=true:=by rw[beq_iff_eq];omega
   go_enter Tryz.func186,Tryz.ntmps186;go_wp2_with fail
   go_ret;exact⟨Fr.refl _ _,.inl ⟨hd,rfl⟩⟩
 · have e12:((deep:Int) == 12)=false:=by rw[beq_eq_false_iff_ne];omega
   go_enter Tryz.func186,Tryz.ntmps186;go_wp2_with fail
   go_ret;exact⟨((Fr.refl _ _).setCell _ _).setCell _ _,.inr ⟨hd,rfl,(HP.o.oO (deep+1) (by omega)).next hnx⟩⟩
theorem P5 {w:World}{b:Nat}{tv:Value}{ts:List af}{p deep:Nat}{nv:Value}{vs:List aB}(h:bQ w b tv ts p (deep+1) nv vs) :
 Calls Tryz.prog 220 #[.pointer (some ⟨b,0,none⟩)] w fun e w'=>Fr w w' b∧((au ⟨#[41]⟩ (ts.drop p)=false∧e = .returned (.int .i64 5))∨(au ⟨#[41]⟩ (ts.drop p)=true∧e = .returned (.int .i64 0)∧bQ w' b tv ts (p+1) deep nv vs)):=by
 have HT:=aa (Js h ⟨#[41]⟩);have hn:=h.nest;clear h;cases hq:au ⟨#[41]⟩ (ts.drop p)
 · rw[hq]at HT
   clear hq;go_enter Tryz.func220,Tryz.ntmps220;go_wp2_with (go_at_call 218;((with_reducible refine HT.o.mono ?_);rintro e w1 ⟨h1,rfl,h2⟩;have HF:=aa h1;clear h1 h2))
   go_ret;exact⟨HF.o,.inl ⟨by trivial,rfl⟩⟩
 · rw [hq]at HT
   clear hq;go_enter Tryz.func220,Tryz.ntmps220;go_wp2_with (go_at_call 218;((with_reducible refine HT.o.mono ?_);rintro e w1 ⟨h1,rfl,h2⟩;rw[if_pos rfl]at h2;have HF:=aa h1;have bJ:=aa h2;obtain⟨c0,c1,c2,c3⟩:=h2.facts;have f2:=h2.frozen 2;rw[show((deep+1:Nat):Int)=(deep:Int)+1 from rfl]at c2;clear h1 h2))
   go_ret;refine⟨HF.o.setCell _ _,.inr ⟨by trivial,rfl, ?_⟩⟩;have:=bJ.o.oO deep (by omega)
   first
    | exact this
    | (rw[show(deep:Int)+1 - 1=(deep:Int)from by omega];exact this)
theorem ack {P:Program}{w:World}(t e:TypeId)(n sz:Nat)(cs:Array Value)(k:Nat)(v:Array Value)(d:TypeDesc)(h:P.underlying t=some (.array n e))(he:P.underlying e=some d)(hd:(match d with | .struct _ | .array _ _=>true|_=>false)=true)
 (hsz:(P.info? e).map (·.size)=some sz)(hk:k<n)(hv:cs.extract (k*sz) (k*sz+sz)=v):(Instr.index t (.agg cs) (.int .i64 (k:Int))).run P w = .ok (.agg v) w:=by
 have h1:(0:Int)≤(k:Int)∧(k:Int)<(n:Int):=by omega
 cases hq:P.info? e with
 | none=>simp[hq]at hsz
 | some i =>
   have hs':i.size=sz:=by simp[hq]at hsz;exact hsz
   simp[Instr.index,run_underlying h,asIntOf,h1,sizeOf,typeInfo,hq,hs',part,isAgg,run_underlying he,go_sem];cases d <;> simp_all
theorem ae1 {P:Program}{ops:Array Oper}{rest:List Oper}{op:Oper}{a:Act}{w:World}{Q:Exit→Act→World→Prop}(hgd:op.guard=none)(t e:TypeId)(n sz:Nat)(x y:Operand)(ho:op.op = .index t x y)
 (cs:Array Value)(k:Nat)(v:Array Value)(d:TypeDesc)(h:P.underlying t=some (.array n e))(he:P.underlying e=some d)(hd:(match d with | .struct _ | .array _ _=>true|_=>false)=true)
 (hsz:(P.info? e).map (·.size)=some sz)(hx:a.eval x = .agg cs)(hy:a.eval y = .int .i64 (k:Int))(hk:k<n)(hv:cs.extract (k*sz) (k*sz+sz)=v)
 (hh:wpList P ops Q rest (a.put op.dst (.agg v)) w):wpList P ops Q (op :: rest) a w :=
 wpList_plain hgd fun _ hK=>by
  unfold Oper.wp execOp;simp only[ho,hx,hy,Sem.run_bind,Sem.run_pure,Result.andThen_ok,ack t e n sz cs k v d h he hd hsz hk hv];exact hK _ _ hh
theorem Hz {α : Type}(f : α → Bool):∀(l:List α)(j:Nat)(x : α),l[j]? = some x→f x=true→(∀q y,q<j→l[q]? = some y→f y=false)→l.find? f=some x
 | [],j,x,h,_,_=>by simp at h
 | a :: l,0,x,h,hx,_=>by simp at h;subst h;rw[List.find?_cons,hx]
 | a :: l,j+1,x,h,hx,hn=>by
   rw[List.find?_cons,hn 0 a (by omega) rfl];exact Hz f l j x (by simpa using h) hx fun q y hq hy=>hn (q+1) y (by omega) (by simpa using hy)
theorem HV {α : Type}(f : α → Bool):∀(l:List α),(∀(q:Nat) y,l[q]? = some y→f y=false)→l.find? f=none
 | [],_=>rfl
 | a :: l,h=>by rw[List.find?_cons,h 0 a rfl];exact HV f l fun q y hy=>h (q+1) y (by simpa using hy)
def oK(n:Nat)(ts:List af)(q:ByteArray × Nat × Int):Bool:=decide (q.2.1=n)&&au q.1 ts
theorem MX (n:Nat)(ts:List af):∀L:List (ByteArray × Nat × Int),(((L.filter fun q=>decide (q.2.1=n)).map fun q=>(q.1,q.2.2)).find? fun p=>au p.1 ts)=(L.find? (oK n ts)).map fun q=>(q.1,q.2.2)
 | []=>rfl
 | a :: L=>by
   have ih:=MX n ts L;by_cases h:a.2.1=n
   · rw[List.filter_cons,if_pos (by simpa using h),jb,List.find?_cons,List.find?_cons]
     have e:oK n ts a=au a.1 ts:=by unfold oK;rw[decide_eq_true h,Bool.true_and]
     rw[e];cases au a.1 ts
     · exact ih
     · rfl
   · rw[List.filter_cons,if_neg (by simpa using h),List.find?_cons]
     have e:oK n ts a=false:=by unfold oK;rw[decide_eq_false h,Bool.false_and]
     rw[e];exact ih
theorem YU:∀n:Nat,n≤3→fC n=(pU.filter fun q=>decide (q.2.1=n)).map fun q=>(q.1,q.2.2)
 | 0,_=>rfl
 | 1,_=>rfl
 | 2,_=>rfl
 | 3,_=>rfl
 | n+4,h=>by omega
theorem Z9 (n:Nat)(ts:List af)(h:n≤3):fD n ts=match pU.find? (oK n ts)with
 | some q=>q.2.2
 | none=>0:=by
 unfold fD;rw[YU n h,MX];cases pU.find? (oK n ts) <;> rfl
theorem aae:∀j:Nat,j<11→∃q:ByteArray × Nat × Int,pU[j]? = some q∧yZ.extract (j*3) (j*3+3)=#[.string q.1,.int .i64 (q.2.1:Int),.int .i64 q.2.2]∧q.2.1≤3
 | 0,_=>⟨_,rfl,rfl,by decide⟩
 | 1,_=>⟨_,rfl,rfl,by decide⟩
 | 2,_=>⟨_,rfl,rfl,by decide⟩
 | 3,_=>⟨_,rfl,rfl,by decide⟩
 | 4,_=>⟨_,rfl,rfl,by decide⟩
 | 5,_=>⟨_,rfl,rfl,by decide⟩
 | 6,_=>⟨_,rfl,rfl,by decide⟩
 | 7,_=>⟨_,rfl,rfl,by decide⟩
 | 8,_=>⟨_,rfl,rfl,by decide⟩
 | 9,_=>⟨_,rfl,rfl,by decide⟩
 | 10,_=>⟨_,rfl,rfl,by decide⟩
 | j+11,h=>by omega
theorem PT:Tryz.prog.underlying 249=some (.array 11 248):=Tryz.underlying249
theorem aam:(Tryz.prog.info? 249).map (·.size)=some yZ.size:=by kernel_rfl
theorem aah:(Tryz.prog.info? 248).map (·.size)=some 3:=by kernel_rfl
def sD(w:World)(b:Nat)(q:ByteArray × Nat × Int):Prop:=w.heap[b]? = some (.cells #[.string q.1,.int .i64 (q.2.1:Int),.int .i64 q.2.2] 248)
theorem sD.new(w:World)(q:ByteArray × Nat × Int):sD (w.alloc (.cells #[.string q.1,.int .i64 (q.2.1:Int),.int .i64 q.2.2] 248)) w.heap.size q:=(jw w _).1
theorem sD.facts {w:World}{b:Nat}{q:ByteArray × Nat × Int}(h:sD w b q):w.cell? ⟨b,0,none⟩=some (.string q.1)∧w.cell? ⟨b,1,none⟩=some (.int .i64 (q.2.1:Int))∧w.cell? ⟨b,2,none⟩=some (.int .i64 q.2.2) :=
 ⟨by rw[cell_of_row w b 0 _ _ _ h];rfl,by rw[cell_of_row w b 1 _ _ _ h];rfl,by rw[cell_of_row w b 2 _ _ _ h];rfl⟩
theorem sD.lt{w:World}{b:Nat}{q:ByteArray × Nat × Int}(h:sD w b q):b<w.heap.size:=(dZ.1 h).1
theorem sD.below{w w':World}{B b:Nat}{q:ByteArray × Nat × Int}(h:sD w b q)(hb:Below B w w')(hB:b<B):sD w' b q:=by unfold sD;rw[hb.block b hB];exact h
theorem aak {w:World}{b:Nat}{tv:Value}{ts:List af}{p deep:Nat}{nv:Value}{vs:List aB}(h:bQ w b tv ts p deep nv vs)(n:Nat)(hn:n≤3) :
 Calls Tryz.prog 217 #[.pointer (some ⟨b,0,none⟩),.int .i64 (n:Int)] w fun e w'=>e = .returned (.tuple #[.int .i64 (fD n (ts.drop p)),.bool (decide (fD n (ts.drop p)≠0))])∧Below w.heap.size w w':=by
 obtain⟨ty,fr,hrow⟩:=h.ops;have HP:=aa h;clear h;have oo:=aa hrow;clear hrow;have HK:=aa (Z9 n (ts.drop p) hn);go_enter Tryz.func217,Tryz.ntmps217;go_upto_region 1 with (fail)
 refine wp_region_lit ?_;refine wpList_load_row rfl 249 (.global 5) rfl 5 rfl ty yZ fr _ oo.o PT rfl aam ?_;go_wp2_with fail
 go_loopw [9] (fun i wr=>∃j:Nat,j≤11∧i = .int .i64 j∧Hid (∀q y,q<j→pU[q]? = some y→oK n (ts.drop p) y=false)∧Hid (Below w.heap.size w wr))
  (fun i _=>11 - (intOf i).toNat)
 case atStart=>exact⟨0,by omega,rfl,aa (by intro q _ hq;omega),aa (ai _ _)⟩
 case round =>
  obtain⟨j,hj,rfl,ek,HB⟩:=hrel;by_cases hlt:j<11
  · have hji:(j:Int)<11:=by omega
    obtain⟨q,hq1,hq2,hq3⟩:=aae j hlt;have vw:=aa hq1;have ma:=aa hq2;clear hq1 hq2;go_upto_region 3 with (fail)
    refine wp_region_lit ?_;refine ae1 rfl 249 248 11 3 (.tmp 8) (.tmp 9) rfl yZ j _ _ PT Tryz.underlying248 rfl aah rfl rfl hlt ma.o ?_;go_upto_region 4 with (fail)
    have hB3:Below wr.heap.size wr (wr.alloc (.cells #[.string q.1,.int .i64 (q.2.1:Int),.int .i64 q.2.2] 248)):=(ai _ _).alloc (ag _) _;have HO:=sD.new wr q;have HB3:=aa (HB.o.trans (hB3.mono HB.o.size));clear hB3 HB ma;generalize wr.alloc (.cells #[.string q.1,.int .i64 (q.2.1:Int),.int .i64 q.2.2] 248)=w3 at HO HB3 ⊢;generalize wr.heap.size=b3 at HO ⊢;obtain⟨x0,x1,x2⟩:=HO.facts;have bW:=aa (HP.o.below HB3.o);by_cases hr:q.2.1=n
    · have er:((q.2.1:Int) == (n:Int))=true:=by rw[beq_iff_eq,hr]
      have HS:=aa (yO bW.o q.1);cases hs:au q.1 (ts.drop p)
      · have Gf:=aa (show oK n (ts.drop p) q=false by unfold oK;rw[hs,Bool.and_false])
        rw[hs]at HS;clear hs hr;go_wp2_with (go_at_call 185;((with_reducible refine HS.o.mono ?_);rintro e w4 ⟨rfl,h1⟩;have bG:=aa (HB3.o.trans (h1.mono HB3.o.size));clear h1))
        go_roundw
        case rel =>
         refine⟨j+1,by omega,by go_num,aa ?_,bG⟩;intro q' y hq' hy;by_cases hqj:q'<j
         · exact ek.o q' y hqj hy
         · rw[show q'=j from by omega,vw.o]at hy;injection hy with hy;subst hy;exact Gf.o
        case measure=>simp[intOf];omega
      · have rW:=aa (show fD n (ts.drop p)=q.2.2 by rw[HK.o,Hz (oK n (ts.drop p)) pU j q vw.o (by unfold oK;rw[hs,decide_eq_true hr];rfl) ek.o])
        have kV:=aa (show q.2.2≠0 from by
         have:∀q∈pU,q.2.2≠0:=by decide
         exact this q (dz vw.o))
        rw[hs]at HS;clear hs hr;have fA:=aa HO;clear x0 x1 x2;obtain⟨x0,x1,x2⟩:=fA.o.facts;go_upto_region 5 with (go_at_call 185;((with_reducible refine HS.o.mono ?_);rintro e w4 ⟨rfl,h1⟩;have bG:=aa (HB3.o.trans (h1.mono HB3.o.size));have l9:=aa (fA.o.below h1 fA.o.lt);clear h1))
        clear x0 x1 x2;obtain⟨x0,x1,x2⟩:=l9.o.facts;go_wp2_with fail
        go_ret2
        exact⟨by rw[rW.o,decide_eq_true kV.o];rfl,bG.o⟩
    · have er:((q.2.1:Int) == (n:Int))=false:=by rw[beq_eq_false_iff_ne];omega
      have Gf:=aa (show oK n (ts.drop p) q=false by unfold oK;rw[decide_eq_false hr,Bool.false_and]);clear hr;go_wp2_with fail
      go_roundw
      case rel =>
       refine⟨j+1,by omega,by go_num,aa ?_,HB3⟩;intro q' y hq' hy;by_cases hqj:q'<j
       · exact ek.o q' y hqj hy
       · rw[show q'=j from by omega,vw.o]at hy;injection hy with hy;subst hy;exact Gf.o
      case measure=>simp[intOf];omega
  · have hji:¬ (j:Int)<11:=by omega
    have rW:=aa (show fD n (ts.drop p)=0 by
     rw[HK.o,HV (oK n (ts.drop p)) pU (fun q y hy=>ek.o q y (by have:=(dm.1 hy).1;have:q<11:=this;omega) hy)])
    go_wp2_with fail
    go_ret2
    exact⟨by rw[rW.o];rfl,HB.o⟩
def tV:Nat→FuncId
 | 0=>153
 | 1=>154
 | 2=>155
 | 3=>156
 | 4=>157
 | _=>158
theorem VP:∀n:Nat,n<6→∀args (v:World),(callFunc (tV n) args).run Tryz.prog v = .ok (.enter (tV n) args) v
 | 0,_=>Go.Proofs.enters_of Tryz.func153 (by kernel_rfl) rfl
 | 1,_=>Go.Proofs.enters_of Tryz.func154 (by kernel_rfl) rfl
 | 2,_=>Go.Proofs.enters_of Tryz.func155 (by kernel_rfl) rfl
 | 3,_=>Go.Proofs.enters_of Tryz.func156 (by kernel_rfl) rfl
 | 4,_=>Go.Proofs.enters_of Tryz.func157 (by kernel_rfl) rfl
 | 5,_=>Go.Proofs.enters_of Tryz.func158 (by kernel_rfl) rfl
 | n+6,h=>by omega
def xk(b:Nat):Array Value:=#[.func (.func 153) #[.pointer (some ⟨b,0,none⟩)] #[],.func (.func 154) #[.pointer (some ⟨b,0,none⟩)] #[],.func (.func 155) #[.pointer (some ⟨b,0,none⟩)] #[],.func (.func 156) #[.pointer (some ⟨b,0,none⟩)] #[],.func (.func 157) #[.pointer (some ⟨b,0,none⟩)] #[],.func (.func 158) #[.pointer (some ⟨b,0,none⟩)] #[]]
theorem Y8 (b:Nat):∀n:Nat,n<6→(xk b)[n]? = some (.func (.func (tV n)) #[.pointer (some ⟨b,0,none⟩)] #[])
 | 0,_=>rfl
 | 1,_=>rfl
 | 2,_=>rfl
 | 3,_=>rfl
 | 4,_=>rfl
 | 5,_=>rfl
 | n+6,h=>by omega
theorem Za(b:Nat):(Tryz.prog.info? 200).map (·.size)=some (xk b).size:=by kernel_rfl
theorem Y9 (b:Nat):∀v∈(xk b).toList,v.oneCell'=true:=by
 intro v hv;simp only[xk,List.mem_cons,List.not_mem_nil,or_false]at hv;rcases hv with rfl|rfl|rfl|rfl|rfl|rfl <;> rfl
theorem below_setRow {B:Nat}{a w:World}{g:Nat}(h:Below B a w)(hg:B≤g)(cs:Array Value):Below B a (w.setRow g cs) :=
 ⟨h.os,h.tape,h.output,by simpa using h.size,fun j hj=>by rw[Go.setRow_other w g j cs (by omega)];exact h.block j hj⟩
theorem IY (b n:Nat)(hn:n<6)(w:World)(R:Ending→World→Prop)(hR:∀e w',R e w'→∃c,e = .returned (.int .i64 c))(hc:∀w',Below w.heap.size w w'→Calls Tryz.prog (tV n) #[.pointer (some ⟨b,0,none⟩)] w' R) :
 Calls Tryz.prog 126 #[.pointer (some ⟨b,0,none⟩),.int .i64 (n:Int)] w R:=by
 have HC:=aa hc;clear hc;have HRR:=aa hR;clear hR;have vN:=VP n hn;have HAT:=aa (Y8 b n hn);have hi1:(0:Int)≤(n:Int):=by omega
 have hi2:(n:Int)<6:=by omega
 obtain⟨F,hF⟩:∃F,tV n=F:=⟨_,rfl⟩;rw[hF]at HC vN HAT;have hh:(w.alloc (.cells #[.nilFunc,.nilFunc,.nilFunc,.nilFunc,.nilFunc,.nilFunc] 200)).heap[w.heap.size]? = some (.cells #[.nilFunc,.nilFunc,.nilFunc,.nilFunc,.nilFunc,.nilFunc] 200):=(jw w _).1;have HB:=aa (below_setRow ((ai w.heap.size w).alloc (ag _) (.cells #[.nilFunc,.nilFunc,.nilFunc,.nilFunc,.nilFunc,.nilFunc] 200)) (ag _) (xk b));have HW:=aa (setRow_heap _ w.heap.size _ (xk b) _ _ hh);have HH:=aa hh;clear hF hh;go_enter Tryz.func126,Tryz.ntmps126;go_upto_region 2 with ((with_reducible refine wpList_store_row (op:=⟨none,.store 200 (.tmp 5) (.tmp 18),_,_,_,_⟩) rfl 200 (.tmp 5) (.tmp 18) rfl w.heap.size 200 _ (xk b) ?_ ?_ HH.o ?_ (Za b) (Y9 b) ?_);rfl;rfl;rfl)
 generalize (w.alloc (.cells #[.nilFunc,.nilFunc,.nilFunc,.nilFunc,.nilFunc,.nilFunc] 200)).setRow w.heap.size (xk b)=w1 at HB HW ⊢
 have hce:w1.cell? ⟨w.heap.size,n,none⟩=some (.func (.func F) #[.pointer (some ⟨b,0,none⟩)] #[]):=by
  rw[cell_of_row w1 w.heap.size n _ _ _ HW.o];exact HAT.o
 go_wp2_with fail
 refine(HC.o w1 HB.o).mono ?_;intro e w2 hr;obtain⟨c,rfl⟩:=HRR.o e w2 hr;have HR:=aa hr;clear hr;go_wp2_with fail
 exact HR.o
theorem VX (b:Nat)(w:World)(R:Ending→World→Prop)(hR:∀e w',R e w'→∃c,e = .returned (.int .i64 c))(hc:Calls Tryz.prog 184 #[.pointer (some ⟨b,0,none⟩),.int .i64 0] w R) :
 Calls Tryz.prog 153 #[.pointer (some ⟨b,0,none⟩)] w R:=by
 have HC:=aa hc;have HRR:=aa hR;clear hc hR;go_enter Tryz.func153,Tryz.ntmps153;go_wp2_with (go_at_call 184;((with_reducible refine HC.o.mono ?_);intro e w2 hr;obtain⟨c,rfl⟩:=HRR.o e w2 hr;have HR:=aa hr;clear hr))
 exact HR.o
theorem Vd (b:Nat)(w:World)(R:Ending→World→Prop)(hR:∀e w',R e w'→∃c,e = .returned (.int .i64 c))(hc:Calls Tryz.prog 184 #[.pointer (some ⟨b,0,none⟩),.int .i64 1] w R) :
 Calls Tryz.prog 154 #[.pointer (some ⟨b,0,none⟩)] w R:=by
 have HC:=aa hc;have HRR:=aa hR;clear hc hR;go_enter Tryz.func154,Tryz.ntmps154;go_wp2_with (go_at_call 184;((with_reducible refine HC.o.mono ?_);intro e w2 hr;obtain⟨c,rfl⟩:=HRR.o e w2 hr;have HR:=aa hr;clear hr))
 exact HR.o
theorem adC (b:Nat)(w:World)(R:Ending→World→Prop)(hR:∀e w',R e w'→∃c,e = .returned (.int .i64 c))(hc:Calls Tryz.prog 184 #[.pointer (some ⟨b,0,none⟩),.int .i64 2] w R) :
 Calls Tryz.prog 155 #[.pointer (some ⟨b,0,none⟩)] w R:=by
 have HC:=aa hc;have HRR:=aa hR;clear hc hR;go_enter Tryz.func155,Tryz.ntmps155;go_wp2_with (go_at_call 184;((with_reducible refine HC.o.mono ?_);intro e w2 hr;obtain⟨c,rfl⟩:=HRR.o e w2 hr;have HR:=aa hr;clear hr))
 exact HR.o
theorem adK (b:Nat)(w:World)(R:Ending→World→Prop)(hR:∀e w',R e w'→∃c,e = .returned (.int .i64 c))(hc:Calls Tryz.prog 184 #[.pointer (some ⟨b,0,none⟩),.int .i64 3] w R) :
 Calls Tryz.prog 156 #[.pointer (some ⟨b,0,none⟩)] w R:=by
 have HC:=aa hc;have HRR:=aa hR;clear hc hR;go_enter Tryz.func156,Tryz.ntmps156;go_wp2_with (go_at_call 184;((with_reducible refine HC.o.mono ?_);intro e w2 hr;obtain⟨c,rfl⟩:=HRR.o e w2 hr;have HR:=aa hr;clear hr))
 exact HR.o
theorem Y2:tV 0=153:=rfl
theorem Y3:tV 1=154:=rfl
theorem Y4:tV 2=155:=rfl
theorem Y5:tV 3=156:=rfl
theorem Y6:tV 4=157:=rfl
theorem Y7:tV 5=158:=rfl
theorem YV (b:Nat)(w:World)(R:Ending→World→Prop)(hR:∀e w',R e w'→∃c,e = .returned (.int .i64 c))(n:Nat)(hn:n≤3)(hc:∀w',Below w.heap.size w w'→Calls Tryz.prog 184 #[.pointer (some ⟨b,0,none⟩),.int .i64 (n:Int)] w' R) :
 Calls Tryz.prog 126 #[.pointer (some ⟨b,0,none⟩),.int .i64 (n:Int)] w R:=by
 refine IY b n (by omega) w R hR fun w' hb => ?_
 have h:=hc w' hb;obtain⟨i,hi⟩:∃i:Int,(n:Int)=i:=⟨_,rfl⟩;rw[hi]at h;rcases(show n=0∨n=1∨n=2∨n=3 by omega)with e|e|e|e
 · rw[e,Y2];rw[show i=0 by omega]at h;exact VX b w' R hR h
 · rw[e,Y3];rw[show i=1 by omega]at h;exact Vd b w' R hR h
 · rw[e,Y4];rw[show i=2 by omega]at h;exact adC b w' R hR h
 · rw[e,Y5];rw[show i=3 by omega]at h;exact adK b w' R hR h
theorem Elem.PH:∃n,n≤200∧Elem Tryz.prog 41 48 14 n:=⟨136,by omega,Tryz.underlying41,⟨.agg #[.int .i64 0,.int .i64 0,.string ⟨#[]⟩,.string ⟨#[]⟩,.int .i64 0,.int .i64 0,.bool false,.bool false,.string ⟨#[]⟩,.int .i64 0,.int .i64 0,.bool false,.bool false,.slice none 0 0],by kernel_rfl,rfl⟩,by decide⟩
theorem ZK:(Tryz.prog.info? 48).map (·.size)=some 14:=by kernel_rfl
def aH(w:World)(b:Nat)(n:Nd)(k:Value):Prop:=w.heap[b]? = some (.cells (fH n k) 48)
theorem aH.new(w:World)(n:Nd)(k:Value):aH (w.alloc (.cells (fH n k) 48)) w.heap.size n k:=(jw w _).1
theorem aH.below{w w':World}{B b:Nat}{n:Nd}{k:Value}(h:aH w b n k)(hb:Below B w w')(hB:b<B):aH w' b n k:=by unfold aH;rw[hb.block b hB];exact h
theorem aH.lt{w:World}{b:Nat}{n:Nd}{k:Value}(h:aH w b n k):b<w.heap.size:=(dZ.1 h).1
theorem aH.cells {w:World}{b:Nat}{n:Nd}{k:Value}(h:aH w b n k):w.cell? ⟨b,0,none⟩=some (.int .i64 n.kind)∧w.cell? ⟨b,1,none⟩=some (.int .i64 n.num)∧w.cell? ⟨b,2,none⟩=some (.string n.text)∧w.cell? ⟨b,3,none⟩=some (.string n.ref.sh)∧w.cell? ⟨b,4,none⟩=some (.int .i64 n.ref.c)∧w.cell? ⟨b,5,none⟩=some (.int .i64 n.ref.r)∧w.cell? ⟨b,6,none⟩=some (.bool n.ref.ac)∧w.cell? ⟨b,7,none⟩=some (.bool n.ref.ar)∧w.cell? ⟨b,8,none⟩=some (.string n.ae.sh)∧w.cell? ⟨b,9,none⟩=some (.int .i64 n.ae.c)∧w.cell? ⟨b,10,none⟩=some (.int .i64 n.ae.r)∧w.cell? ⟨b,11,none⟩=some (.bool n.ae.ac)∧w.cell? ⟨b,12,none⟩=some (.bool n.ae.ar)∧w.cell? ⟨b,13,none⟩=some k :=
 ⟨by rw[cell_of_row w b 0 _ _ _ h];rfl,by rw[cell_of_row w b 1 _ _ _ h];rfl,by rw[cell_of_row w b 2 _ _ _ h];rfl,by rw[cell_of_row w b 3 _ _ _ h];rfl,by rw[cell_of_row w b 4 _ _ _ h];rfl,by rw[cell_of_row w b 5 _ _ _ h];rfl,by rw[cell_of_row w b 6 _ _ _ h];rfl,by rw[cell_of_row w b 7 _ _ _ h];rfl,by rw[cell_of_row w b 8 _ _ _ h];rfl,by rw[cell_of_row w b 9 _ _ _ h];rfl,by rw[cell_of_row w b 10 _ _ _ h];rfl,by rw[cell_of_row w b 11 _ _ _ h];rfl,by rw[cell_of_row w b 12 _ _ _ h];rfl,by rw[cell_of_row w b 13 _ _ _ h];rfl⟩
theorem bQ.row {w:World}{b:Nat}{tv:Value}{ts:List af}{p deep:Nat}{nv:Value}{vs:List aB}(h:bQ w b tv ts p deep nv vs):∀g,nv.ownBlock=some g→b<g∧zL w g:=by
 intro g e;rcases h.nodes.1.2 with ⟨h1,_⟩|⟨g',cap,cur,h1,h2,h3,_⟩
 · rw[h1]at e;cases e
 · rw[h1]at e;injection e with e
   have e:g'=g:=e;subst e;exact⟨by omega,cur,_,h3⟩
theorem bQ.H5 {w w':World}{b:Nat}{tv:Value}{ts:List af}{p deep:Nat}{nv:Value}{vs:List aB}(h:bQ w b tv ts p deep nv vs)(hg:w.grownBy w' nv.ownBlock):w'.cell? ⟨b,3,none⟩=some nv∧w'.frozen? ⟨b,3,none⟩=false:=by
 have hbb:w'.heap[b]? = w.heap[b]? := hg.block b h.blt (by intro e;have:=(h.row b e.symm).1;omega);have hc:=hbb.trans h.cell;exact⟨by rw[cell_of_row w' b 3 _ _ _ hc];rfl,frozen_of_row w' b 3 _ _ hc⟩
theorem bQ.grow {w w':World}{b:Nat}{tv:Value}{ts:List af}{p deep:Nat}{nv aM:Value}{vs:List aB}{v:aB}(h:bQ w b tv ts p deep nv vs)(hg:w.grownBy w' nv.ownBlock)(ho:Own yt 48 w' (b+1) aM (vs++[v]))
 (hk:Own (bT .i64) 3 w (b+1) v.bf v.n.kids)(hc:vs.length+1≤p):bQ (w'.setCell ⟨b,3,none⟩ aM) b tv ts p deep aM (vs++[v])∧Fr w (w'.setCell ⟨b,3,none⟩ aM) b:=by
 have yG:=h.row;have hfr:Fr w w' b:=(Fr.refl w b).row hg (fun g e=>⟨(yG g e).1,.inr (yG g e).2⟩);have hbb:w'.heap[b]? = w.heap[b]? := hg.block b h.blt (by intro e;have:=(yG b e.symm).1;omega);refine⟨⟨?_, ?_,⟨ho.keep fun j hj _ _=>gZ _ _ _ _ (by show j≠b;omega), ?_⟩, ?_,h.lt,h.low,h.fit,h.few,by rw[aj,fq];exact hc,h.nest⟩,hfr.setCell _ _⟩
 · rw[heap_setCell_same w' b 3 _ _ _ (hbb.trans h.cell)];rfl
 · have h1:yh w' b tv ts:=by
    obtain⟨g,cap,h1,h2,h3⟩:=h.toks;exact⟨g,cap,h1,h2,h3.keep fun j _ hj e=>hfr.block j hj (by rw[h1]at e;injection e with e;have:g=j:=e;omega) (.inl (by rw[h1]at e;injection e with e;have:g=j:=e;omega))⟩
   exact h1.set _ _
 · intro u hu
   have h1:Own (bT .i64) 3 w (b+1) u.bf u.n.kids:=by
    rcases List.mem_append.1 hu with hu|hu
    · exact h.nodes.2 u hu
    · rw[List.mem_singleton.1 hu];exact hk
   exact(h1.fr hfr (by omega) (by decide)).keep fun j hj _ _=>gZ _ _ _ _ (by show j≠b;omega)
 · have h1:mV w':=h.ops.keep (hfr.block _ h.ops.lt (by have:=h.low;omega) (.inl (by have:=h.low;omega)))
   exact h1.set h.low _ _
theorem BI {w:World}{b:Nat}{tv:Value}{ts:List af}{p deep:Nat}{nv:Value}{vs:List aB}(h:bQ w b tv ts p deep nv vs)(v:aB)(hk:Own (bT .i64) 3 w (b+1) v.bf v.n.kids)(hc:vs.length+1≤p)(k:Value)(tu:v.bf=k)(n:Nd)(hn:v.n=n) :
 Calls Tryz.prog 187 #[.pointer (some ⟨b,0,none⟩),.agg #[.int .i64 n.kind,.int .i64 n.num,.string n.text,.string n.ref.sh,.int .i64 n.ref.c,.int .i64 n.ref.r,.bool n.ref.ac,.bool n.ref.ar,.string n.ae.sh,.int .i64 n.ae.c,.int .i64 n.ae.r,.bool n.ae.ac,.bool n.ae.ar,k]] w fun e w'=>Fr w w' b∧e = .returned (.tuple #[])∧∃aM,bQ w' b tv ts p deep aM (vs++[v]):=by
 obtain⟨eb,lh,dA⟩:=Elem.PH;have hal:Below w.heap.size w (w.alloc (.cells #[.int .i64 n.kind,.int .i64 n.num,.string n.text,.string n.ref.sh,.int .i64 n.ref.c,.int .i64 n.ref.r,.bool n.ref.ac,.bool n.ref.ar,.string n.ae.sh,.int .i64 n.ae.c,.int .i64 n.ae.r,.bool n.ae.ac,.bool n.ae.ar,k] 48)):=(ai _ _).alloc (ag _) _;have bJ:=aa (h.below hal);have l7:=aa (hk.alloc (.cells #[.int .i64 n.kind,.int .i64 n.num,.string n.text,.string n.ref.sh,.int .i64 n.ref.c,.int .i64 n.ref.r,.bool n.ref.ac,.bool n.ref.ar,.string n.ae.sh,.int .i64 n.ae.c,.int .i64 n.ae.r,.bool n.ae.ac,.bool n.ae.ar,k] 48));have hx:aH (w.alloc (.cells #[.int .i64 n.kind,.int .i64 n.num,.string n.text,.string n.ref.sh,.int .i64 n.ref.c,.int .i64 n.ref.r,.bool n.ref.ac,.bool n.ref.ar,.string n.ae.sh,.int .i64 n.ae.c,.int .i64 n.ae.r,.bool n.ae.ac,.bool n.ae.ar,k] 48)) w.heap.size n k:=aH.new w n k;have h2:=h.few;have h3:=h.lt;have hbl:=h.blt;have hsz:(w.alloc (.cells #[.int .i64 n.kind,.int .i64 n.num,.string n.text,.string n.ref.sh,.int .i64 n.ref.c,.int .i64 n.ref.r,.bool n.ref.ac,.bool n.ref.ar,.string n.ae.sh,.int .i64 n.ae.c,.int .i64 n.ae.r,.bool n.ae.ac,.bool n.ae.ar,k] 48)).heap.size=w.heap.size+1:=by simp
 have kS:=aa dA;have aR:=aa hal;clear h hk dA hal;go_enter Tryz.func187,Tryz.ntmps187;go_wp2_with fail
 generalize w.alloc (.cells #[.int .i64 n.kind,.int .i64 n.num,.string n.text,.string n.ref.sh,.int .i64 n.ref.c,.int .i64 n.ref.r,.bool n.ref.ac,.bool n.ref.ar,.string n.ae.sh,.int .i64 n.ae.c,.int .i64 n.ae.r,.bool n.ae.ac,.bool n.ae.ar,k] 48)=w1 at bJ l7 aR hx hsz ⊢;obtain⟨x0,x1,x2,x3,x4,x5,x6,x7,az,aW,aT,aU,aV,aP⟩:=hx.cells;obtain⟨c0,c1,c2,c3⟩:=bJ.o.facts;have f3:=bJ.o.frozen 3;clear hx c0 c1 c2;have Bu:=aa (bJ.o.drew.below ((ai _ _).alloc (ag _) (.cells #[.int .i64 n.kind,.int .i64 n.num,.string n.text,.string n.ref.sh,.int .i64 n.ref.c,.int .i64 n.ref.r,.bool n.ref.ac,.bool n.ref.ar,.string n.ae.sh,.int .i64 n.ae.c,.int .i64 n.ae.r,.bool n.ae.ac,.bool n.ae.ar,k] 48)))
 go_region_law (refine CQ kS.o yt rfl (.tmp 8) (.tmp 10) rfl (b+1) nv vs ?_ (bJ.o.nodes.1.drew.alloc _) ⟨w1.heap.size,0,none⟩ 1 1 [v] ?_ rfl ?_ ?_ ?_ ?_ ?_;go_simp;go_simp;(subst tu;subst hn;exact fZ (w:=w1.drew) _ _ _ rfl);exact bZ (Nat.mul_le_mul_left _ lh) (by omega);(unfold maxLen;omega);(simp <;> omega);intro v' mI h1 h2 h4;obtain⟨g1,fe,rfl,hg0,hg1,hg2,hg3⟩:=Own.some h1 (by simp);obtain⟨d1,d2⟩:=Bu.o.H5 h2;have HO:=aa h1;have HG:=aa h2;clear h1 h2 h4)
 all_goals
  go_wp2_with fail
  obtain⟨q1,q2⟩:=Bu.o.grow HG.o HO.o (l7.o.drew.alloc _) hc;rw[aj,fq]at q1 q2;have hF:=(((Fr.of b aR.o).drew).below ((ai _ _).alloc (ag _) (.cells #[.int .i64 n.kind,.int .i64 n.num,.string n.text,.string n.ref.sh,.int .i64 n.ref.c,.int .i64 n.ref.r,.bool n.ref.ac,.bool n.ref.ar,.string n.ae.sh,.int .i64 n.ae.c,.int .i64 n.ae.r,.bool n.ae.ac,.bool n.ae.ar,k] 48))).trans q2
  first
   | exact bodyPost_ret (results_none rfl _ _ _) rfl ⟨hF,rfl,_,q1⟩
   | (go_end0;exact⟨hF,rfl,_,q1⟩)
def Out (res:dW)(w:World)(b:Nat)(tv:Value)(ts:List af)(deep:Nat)(vs:List aB)(e:Ending)(w':World):Prop :=
 Fr w w' b∧((∃c,res = .error c∧(c=5∨c=6)∧e = .returned (.int .i64 c)) ∨
  (∃ms a r,res = .ok (ms,a,r)∧e = .returned (.int .i64 0)∧∃p' aM us,ts.drop p'=r∧us.map aB.n=ms∧(∀u∈us,∀g,u.bf.ownBlock=some g→w.heap.size≤g)∧bQ w' b tv ts p' deep aM (vs++us)))
def aB.leaf(n:Nd):aB:=⟨n,none⟩
theorem vQ (w:World)(lo:Nat)(n:Nd)(h:n.kids=[]):Own (bT .i64) 3 w lo (aB.leaf n).bf (aB.leaf n).n.kids:=by
 show Own (bT .i64) 3 w lo (.slice none 0 0) n.kids;rw[h];exact Own.nil _ _ _ _
theorem Af {w:World}{b:Nat}{tv:Value}{ts:List af}{p deep:Nat}{nv:Value}{vs:List aB}(h:bQ w b tv ts p deep nv vs)(hnx:p+1<ts.length)(n:Nd)(hn:n.kids=[]) :
 Calls Tryz.prog 189 #[.pointer (some ⟨b,0,none⟩),.agg #[.int .i64 n.kind,.int .i64 n.num,.string n.text,.string n.ref.sh,.int .i64 n.ref.c,.int .i64 n.ref.r,.bool n.ref.ac,.bool n.ref.ar,.string n.ae.sh,.int .i64 n.ae.c,.int .i64 n.ae.r,.bool n.ae.ac,.bool n.ae.ar,.slice none 0 0]] w fun e w'=>Fr w w' b∧e = .returned (.int .i64 0)∧∃aM,bQ w' b tv ts (p+1) deep aM (vs++[aB.leaf n]):=by
 have hal:Below w.heap.size w (w.alloc (.cells #[.int .i64 n.kind,.int .i64 n.num,.string n.text,.string n.ref.sh,.int .i64 n.ref.c,.int .i64 n.ref.r,.bool n.ref.ac,.bool n.ref.ar,.string n.ae.sh,.int .i64 n.ae.c,.int .i64 n.ae.r,.bool n.ae.ac,.bool n.ae.ar,.slice none 0 0] 48)):=(ai _ _).alloc (ag _) _;have bJ:=aa (h.below hal);have hx:aH (w.alloc (.cells #[.int .i64 n.kind,.int .i64 n.num,.string n.text,.string n.ref.sh,.int .i64 n.ref.c,.int .i64 n.ref.r,.bool n.ref.ac,.bool n.ref.ar,.string n.ae.sh,.int .i64 n.ae.c,.int .i64 n.ae.r,.bool n.ae.ac,.bool n.ae.ar,.slice none 0 0] 48)) w.heap.size n (.slice none 0 0):=aH.new w n _;have h2:=h.few;have h4:=h.cnt;have hbl:=h.blt;have hsz:(w.alloc (.cells #[.int .i64 n.kind,.int .i64 n.num,.string n.text,.string n.ref.sh,.int .i64 n.ref.c,.int .i64 n.ref.r,.bool n.ref.ac,.bool n.ref.ar,.string n.ae.sh,.int .i64 n.ae.c,.int .i64 n.ae.r,.bool n.ae.ac,.bool n.ae.ar,.slice none 0 0] 48)).heap.size=w.heap.size+1:=by simp
 have aR:=aa hal;clear h hal;go_enter Tryz.func189,Tryz.ntmps189;go_upto_region 1 with (fail)
 generalize w.alloc (.cells #[.int .i64 n.kind,.int .i64 n.num,.string n.text,.string n.ref.sh,.int .i64 n.ref.c,.int .i64 n.ref.r,.bool n.ref.ac,.bool n.ref.ar,.string n.ae.sh,.int .i64 n.ae.c,.int .i64 n.ae.r,.bool n.ae.ac,.bool n.ae.ar,.slice none 0 0] 48)=w1 at bJ aR hx hsz ⊢;obtain⟨c0,c1,c2,c3⟩:=bJ.o.facts;have f1:=bJ.o.frozen 1;clear c0 c2 c3;go_upto_region 2 with (fail)
 have eY:=aa (bJ.o.next hnx);have cz:=aa (show aH (w1.setCell ⟨b,1,none⟩ (.int .i64 ((p:Int)+1))) w.heap.size n (.slice none 0 0)from by unfold aH;rw[gZ _ _ _ _ (by show w.heap.size≠b;omega)];exact hx);have bI:=aa ((Fr.of b aR.o).setCell 1 (.int .i64 ((p:Int)+1)));clear c1 f1 hx bJ aR hsz;generalize w1.setCell ⟨b,1,none⟩ (.int .i64 ((p:Int)+1))=w2 at eY cz bI ⊢;obtain⟨x0,x1,x2,x3,x4,x5,x6,x7,az,aW,aT,aU,aV,aP⟩:=cz.o.cells;have HA:=aa (BI eY.o (aB.leaf n) (vQ _ _ n hn) (by omega) (.slice none 0 0) rfl n rfl);go_wp2_with (go_at_call 187;((with_reducible refine HA.o.mono ?_);rintro e w3 ⟨h1,rfl,aM,h3⟩;have dF:=aa (bI.o.trans h1);have bW:=aa h3;clear h1 h3))
 go_ret;exact⟨dF.o,rfl,_,bW.o⟩
theorem nL:(⟨#[]⟩:ByteArray).toList=[]:=by rw[oI]
theorem OE (s1 s2:ByteArray)(c1 r1 c2 r2:Int)(a1 b1 a2 b2:Bool)(w:World) :
 Calls Tryz.prog 144 #[.agg #[.string s1,.int .i64 c1,.int .i64 r1,.bool a1,.bool b1],.agg #[.string s2,.int .i64 c2,.int .i64 r2,.bool a2,.bool b2]] w fun e w'=>e = .returned (.bool (fP ⟨s1,c1,r1,a1,b1⟩ ⟨s2,c2,r2,a2,b2⟩))∧Below w.heap.size w w':=by
 have hsz:(w.alloc (.cells #[.string s1,.int .i64 c1,.int .i64 r1,.bool a1,.bool b1] 45)).heap.size=w.heap.size+1:=by simp
 have h1:=bV.new w s1 c1 r1 a1 b1;have h2:=bV.new (w.alloc (.cells #[.string s1,.int .i64 c1,.int .i64 r1,.bool a1,.bool b1] 45)) s2 c2 r2 a2 b2;have h3:=h1.below ((ai _ _).alloc (ag _) (.cells #[.string s2,.int .i64 c2,.int .i64 r2,.bool a2,.bool b2] 45)) h1.lt;rw[hsz]at h2;have HB:=aa (((ai w.heap.size w).alloc (ag _) (.cells #[.string s1,.int .i64 c1,.int .i64 r1,.bool a1,.bool b1] 45)).alloc (by simp) (.cells #[.string s2,.int .i64 c2,.int .i64 r2,.bool a2,.bool b2] 45));have HS:=aa (show fP ⟨s1,c1,r1,a1,b1⟩ ⟨s2,c2,r2,a2,b2⟩=(decide (s2=⟨#[]⟩)&&(decide (c1≤c2)&&decide (r1≤r2)))from rfl);clear h1;go_enter Tryz.func144,Tryz.ntmps144;go_upto_region 1 with (fail)
 generalize (w.alloc (.cells #[.string s1,.int .i64 c1,.int .i64 r1,.bool a1,.bool b1] 45)).alloc (.cells #[.string s2,.int .i64 c2,.int .i64 r2,.bool a2,.bool b2] 45)=w1 at h2 h3 HB ⊢;obtain⟨x0,x1,x2,x3,x4⟩:=h2.facts;obtain⟨y0,y1,y2,y3,y4⟩:=h3.facts;clear h2 h3;by_cases hs:s2=⟨#[]⟩
 · subst hs
   have e0:=nL;by_cases hc:c1≤c2
   · by_cases hr:r1≤r2
     · have HT:=aa (show fP ⟨s1,c1,r1,a1,b1⟩ ⟨⟨#[]⟩,c2,r2,a2,b2⟩=true by rw[HS.o,decide_eq_true hc,decide_eq_true hr];rfl)
       go_wp2_with fail
       go_ret;exact⟨by rw[HT.o];rfl,HB.o⟩
     · have HT:=aa (show fP ⟨s1,c1,r1,a1,b1⟩ ⟨⟨#[]⟩,c2,r2,a2,b2⟩=false by rw[HS.o,decide_eq_true hc,decide_eq_false hr];rfl)
       go_wp2_with fail
       go_ret;exact⟨by rw[HT.o];rfl,HB.o⟩
   · have HT:=aa (show fP ⟨s1,c1,r1,a1,b1⟩ ⟨⟨#[]⟩,c2,r2,a2,b2⟩=false by rw[HS.o,decide_eq_false hc];rfl)
     go_wp2_with fail
     go_ret;exact⟨by rw[HT.o];rfl,HB.o⟩
 · have HT:=aa (show fP ⟨s1,c1,r1,a1,b1⟩ ⟨s2,c2,r2,a2,b2⟩=false by rw[HS.o,decide_eq_false hs];rfl)
   have e0:¬ s2.toList=[]:=by rw[← nL];exact nX _ _ hs
   have e1:s2.toList.isEmpty=false:=by simpa using e0
   clear hs;go_wp2_with fail
   go_ret;exact⟨by rw[HT.o];rfl,HB.o⟩
theorem Out.leaf {res:dW}{w w':World}{b:Nat}{tv:Value}{ts:List af}{deep p':Nat}{vs:List aB}{aM:Value}{n:Nd}{a:Nat}{r:List af}(hr:res = .ok ([n],a,r))(hf:Fr w w' b)(hp:ts.drop p'=r)(h:bQ w' b tv ts p' deep aM (vs++[aB.leaf n])):Out res w b tv ts deep vs (.returned (.int .i64 0)) w' :=
 ⟨hf,.inr ⟨[n],a,r,hr,rfl,p',aM,[aB.leaf n],hp,rfl,(by intro u hu g hg;rw[List.mem_singleton.1 hu]at hg;cases hg),h⟩⟩
theorem Out.err{res:dW}{w w':World}{b:Nat}{tv:Value}{ts:List af}{deep:Nat}{vs:List aB}{c:Int}(hr:res = .error c)(hc:c=5∨c=6)(hf:Fr w w' b):Out res w b tv ts deep vs (.returned (.int .i64 c)) w':=⟨hf,.inl ⟨c,hr,hc,rfl⟩⟩
theorem bV.set {w:World}{b:Nat}{s:ByteArray}{c r:Int}{ac ar:Bool}(h:bV w b s c r ac ar){g:Nat}(hg:b≠g)(o:Nat)(v:Value):bV (w.setCell ⟨g,o,none⟩ v) b s c r ac ar:=by
 unfold bV;rw[gZ _ _ _ _ (by exact hg)];exact h
theorem bV.fr {w w':World}{b g:Nat}{s:ByteArray}{c r:Int}{ac ar:Bool}(h:bV w g s c r ac ar)(hf:Fr w w' b)(hg:g≠b):bV w' g s c r ac ar:=by
 unfold bV;rw[hf.block g h.lt hg (.inr (by rintro⟨cur,fr,e⟩;unfold bV at h;rw[h]at e;injection e with e;injection e with _ e;exact absurd e (by decide)))];exact h
theorem aaA {w:World}{b:Nat}{tv:Value}{ts:List af}{p deep:Nat}{nv:Value}{vs:List aB}(h:bQ w b tv ts p deep nv vs)(t:af)(hnx:p+1<ts.length)(base:Nat) :
 Calls Tryz.prog 190 #[.pointer (some ⟨b,0,none⟩),.agg #[.string t.sh,.int .i64 t.c,.int .i64 t.r,.bool t.ac,.bool t.ar]] w (Out (iP base t (ts.drop (p+1))) w b tv ts deep vs):=by
 have hal:Below w.heap.size w (w.alloc (.cells #[.string t.sh,.int .i64 t.c,.int .i64 t.r,.bool t.ac,.bool t.ar] 45)):=(ai _ _).alloc (ag _) _;have bJ:=aa (h.below hal);have hx:=bV.new w t.sh t.c t.r t.ac t.ar;have h2:=h.few;have hct:=h.cnt;have hbl:=h.blt;have aR:=aa hal;clear h hal;go_enter Tryz.func190,Tryz.ntmps190;go_upto_region 1 with (fail)
 generalize w.alloc (.cells #[.string t.sh,.int .i64 t.c,.int .i64 t.r,.bool t.ac,.bool t.ar] 45)=w1 at bJ aR hx ⊢;obtain⟨c0,c1,c2,c3⟩:=bJ.o.facts;have f1:=bJ.o.frozen 1;clear c0 c2 c3;go_upto_region 2 with (fail)
 have eY:=aa (bJ.o.next hnx);have cz:=aa (hx.set (show w.heap.size≠b by omega) 1 (.int .i64 ((p:Int)+1)));have bI:=aa ((Fr.of b aR.o).setCell 1 (.int .i64 ((p:Int)+1)));clear c1 f1 hx bJ aR;generalize w1.setCell ⟨b,1,none⟩ (.int .i64 ((p:Int)+1))=w2 at eY cz bI ⊢;have HT:=aa (Js eY.o ⟨#[58]⟩);have hw0:w.heap.size≠b:=by omega
 cases hq:au ⟨#[58]⟩ (ts.drop (p+1))
 · rw[hq,if_neg (by decide)]at HT
   have HR:=aa (show iP base t (ts.drop (p+1)) = .ok ([{ Nd.zero with kind:=5,ref:=t.dw }],base,ts.drop (p+1))by unfold iP;rw[hq,if_neg (by decide)]);clear hq;go_upto_region 3 with (go_at_call 218;((with_reducible refine HT.o.mono ?_);rintro e w3 ⟨h1,rfl,h3⟩;have dF:=aa (bI.o.trans h1);have dV:=aa (cz.o.fr h1 hw0);have bW:=aa h3;clear h1 h3))
   obtain⟨x0,x1,x2,x3,x4⟩:=dV.o.facts;have HA:=aa (show Calls Tryz.prog 187 #[.pointer (some ⟨b,0,none⟩),.agg #[.int .i64 5,.int .i64 0,.string ⟨#[]⟩,.string t.sh,.int .i64 t.c,.int .i64 t.r,.bool t.ac,.bool t.ar,.string ⟨#[]⟩,.int .i64 0,.int .i64 0,.bool false,.bool false,.slice none 0 0]] w3 _ from BI bW.o (aB.leaf { Nd.zero with kind:=5,ref:=t.dw }) (vQ _ _ _ rfl) (by omega) (.slice none 0 0) rfl { Nd.zero with kind:=5,ref:=t.dw } rfl);go_wp2_with (go_at_call 187;((with_reducible refine HA.o.mono ?_);rintro e w4 ⟨h1,rfl,aM,h3⟩;have dL:=aa (dF.o.trans h1);have dP:=aa h3;clear h1 h3))
   go_ret;exact Out.leaf HR.o dL.o rfl dP.o
 · have hnx2:=zh eY.o hq
   rw[hq,if_pos rfl]at HT;obtain⟨u,hu⟩:∃u,ts[p+2]? = some u:=⟨_,bn hnx2⟩
   have hd:(ts.drop (p+1)).tail=u :: ts.drop (p+3):=by
    rw[List.tail_drop,List.drop_eq_getElem_cons hnx2];rw[bn hnx2]at hu;rw[dX hu]
   have hR:iP base t (ts.drop (p+1))=if u.kind=4∧fP t.dw u.dw=true then .ok ([(⟨6,0,⟨#[]⟩,t.dw,u.dw,[]⟩:Nd)],base,ts.drop (p+3))else .error 5:=by
    unfold iP;rw[hq,if_pos rfl,hd] <;> rfl
   clear hq hd
   go_upto_region 6 with (first
    | (go_at_call 218;((with_reducible refine HT.o.mono ?_);rintro e w3 ⟨h1,rfl,h3⟩;have dF:=aa (bI.o.trans h1);have dV:=aa (cz.o.fr h1 hw0);have bW:=aa h3;have bu:=aa (ER h3 u hu);clear h1 h3))
    | (go_at_call 127;((with_reducible refine bu.o.mono ?_);rintro e w4 ⟨rfl,h1⟩;have dL:=aa (dF.o.below h1);have mR:=aa (dV.o.below h1 dV.o.lt);have dP:=aa (bW.o.below h1);clear h1)))
   have hB:Below w4.heap.size w4 (w4.alloc (.cells #[.int .i64 u.kind,.string u.text,.int .i64 u.num,.string u.sh,.int .i64 u.c,.int .i64 u.r,.bool u.ac,.bool u.ar,.int .i64 u.pos] 154)):=(ai _ _).alloc (ag _) _;have gu:aC (w4.alloc (.cells #[.int .i64 u.kind,.string u.text,.int .i64 u.num,.string u.sh,.int .i64 u.c,.int .i64 u.r,.bool u.ac,.bool u.ar,.int .i64 u.pos] 154)) w4.heap.size u:=aC.new w4 u;have aL:=aa (dL.o.below hB);have lN:=aa (mR.o.below hB mR.o.lt);have bq:=aa (dP.o.below hB);clear hB dF dV bW bu dL mR dP HT cz eY bI;generalize hb4:w4.heap.size=b4 at gu ⊢;generalize w4.alloc (.cells #[.int .i64 u.kind,.string u.text,.int .i64 u.num,.string u.sh,.int .i64 u.c,.int .i64 u.r,.bool u.ac,.bool u.ar,.int .i64 u.pos] 154)=w5 at gu aL lN bq ⊢;clear hb4;obtain⟨x0,x1,x2,x3,x4,x5,x6,x7,az⟩:=gu.cells;obtain⟨y0,y1,y2,y3,y4⟩:=lN.o.facts;by_cases h4:u.kind=4
   · have e4:(u.kind != 4)=false:=by rw[h4];rfl
     have e5:(u.kind == 4)=true:=beq_iff_eq.2 h4;have HI:=aa (OE t.sh u.sh t.c t.r u.c u.r t.ac t.ar u.ac u.ar w5);cases hs:fP t.dw u.dw
     · have HR:=aa (show iP base t (ts.drop (p+1)) = .error 5 by rw[hR,hs,if_neg (by simp)])
       have HS:=aa (show fP ⟨t.sh,t.c,t.r,t.ac,t.ar⟩ ⟨u.sh,u.c,u.r,u.ac,u.ar⟩=false from hs);rw[HS.o]at HI;clear hR hs h4;go_wp2_with (go_at_call 144;((with_reducible refine HI.o.mono ?_);rintro e w6 ⟨rfl,h1⟩;have cK:=aa (aL.o.below h1);clear h1))
       go_ret;exact Out.err HR.o (.inl rfl) cK.o
     · have HR:=aa (show iP base t (ts.drop (p+1)) = .ok ([(⟨6,0,⟨#[]⟩,t.dw,u.dw,[]⟩:Nd)],base,ts.drop (p+3))by rw[hR,hs,if_pos ⟨h4,rfl⟩])
       have HS:=aa (show fP ⟨t.sh,t.c,t.r,t.ac,t.ar⟩ ⟨u.sh,u.c,u.r,u.ac,u.ar⟩=true from hs);rw[HS.o]at HI;have dB:=aa (bq.o.fit.next hu (by omega));have gu:=aa gu;clear hR hs h4 x0 x1 x2 x3 x4 x5 x6 x7 az y0 y1 y2 y3 y4;obtain⟨x0,x1,x2,x3,x4,x5,x6,x7,az⟩:=gu.o.cells;obtain⟨y0,y1,y2,y3,y4⟩:=lN.o.facts;go_upto_region 8 with (go_at_call 144;((with_reducible refine HI.o.mono ?_);rintro e w6 ⟨rfl,h1⟩;have cK:=aa (aL.o.below h1);have bM:=aa (bq.o.below h1);have Dz:=aa (lN.o.below h1 lN.o.lt);have Br:=aa (gu.o.below h1 gu.o.lt);clear h1))
       clear x0 x1 x2 x3 x4 x5 x6 x7 az y0 y1 y2 y3 y4;obtain⟨x0,x1,x2,x3,x4,x5,x6,x7,az⟩:=Br.o.cells;obtain⟨y0,y1,y2,y3,y4⟩:=Dz.o.facts;have HA:=aa (show Calls Tryz.prog 189 #[.pointer (some ⟨b,0,none⟩),.agg #[.int .i64 6,.int .i64 0,.string ⟨#[]⟩,.string t.sh,.int .i64 t.c,.int .i64 t.r,.bool t.ac,.bool t.ar,.string u.sh,.int .i64 u.c,.int .i64 u.r,.bool u.ac,.bool u.ar,.slice none 0 0]] w6 _ from Af bM.o dB.o (⟨6,0,⟨#[]⟩,t.dw,u.dw,[]⟩:Nd) rfl);go_wp2_with (go_at_call 189;((with_reducible refine HA.o.mono ?_);rintro e w7 ⟨h1,rfl,aM,h3⟩;have bP:=aa (cK.o.trans h1);have bB:=aa h3;clear h1 h3))
       go_ret;exact Out.leaf HR.o bP.o rfl bB.o
   · have e4:(u.kind != 4)=true:=by rw[bne_iff_ne];exact h4
     have e5:(u.kind == 4)=false:=beq_eq_false_iff_ne.2 h4;have HR:=aa (show iP base t (ts.drop (p+1)) = .error 5 by rw[hR,if_neg (fun h=>h4 h.1)]);clear hR h4;go_wp2_with fail
     go_ret;exact Out.err HR.o (.inl rfl) aL.o
end Go.Proofs.YtdnooocmlhcpkaaGreatDoor
